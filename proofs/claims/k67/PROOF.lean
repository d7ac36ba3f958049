import PyProof.Rows.All
import Wide.All
import OpenK.AllK
import Wide.FinOn
import Lean
import PyProof.EqAt
import PyProof.EqKinds
import PyProof.TupleCall
import PySem.Challenge.RW_wavewires_k67_whole_short_circuits
section TopS
set_option Elab.async false
set_option linter.all false
open PySem PySem.W PyProof.Rows
def viewQ : Program := view PySem.Challenge.rw_wavewires_k67_whole_short_circuits.prog [1, 2, 4, 5, 6, 7, 9, 10, 11, 12, 13, 15, 17, 18, 19, 20, 21, 23, 25, 27, 28, 29, 30, 32, 33, 34, 35, 36, 37, 38, 39, 41, 43, 44, 45, 46, 47, 48, 51, 52, 53, 54, 55, 56, 57, 58]
local macro_rules
  | `(tactic| o_head $H) => do
    let hw := Lean.mkIdent `hw
    let hc := Lean.mkIdent `hc
    `(tactic| refine holds_open (q := viewQ) (loose := ["number", "beginning", "lets_by", "branches"]) (Xt := fun s => xlAt viewQ [] s && recOk (RowW.records (OpenRow.toRowW PySem.Challenge.rw_wavewires_k67_whole_short_circuits.row)) s) (XP := XL viewQ []) (Yf := Hook.obs $H) (Ya := Hook.val $H) (YP := Hook.says $H) (N := 6000) (fun w => by (unfold openEnds fencedOpening topFrom; rw [Fast.te10274390034422433532, Fast.te14082659384304107361, Fast.te1435165496053646825, Fast.te14289696077712309145, Fast.te14364793385576792824, Fast.te4187177175401517315, Fast.te5923862056798008813]; kernel_rfl)) (Hook.of $H) (Hook.keeps $H) (fun s e => xl_of s (Bool.and_eq_true_iff.mp e).1) XL.keeps (by rfl) (by rfl) (by rfl) (fun s e => recFacts_of (Bool.and_eq_true_iff.mp e).2) (by rfl) (by first | assumption | decide +kernel) (by decide +kernel) ⟨rfl, rfl, rfl, rfl, rfl, by decide +kernel⟩ ?$hw ?$hc)
set_option maxRecDepth 1000000 in
set_option maxHeartbeats 0 in
open_top topT for PySem.Challenge.rw_wavewires_k67_whole_short_circuits
end TopS
noncomputable section
set_option Elab.async false
set_option linter.all false
set_option maxRecDepth 100000
namespace L2
open PySem PySem.Spec PyProof.Rows
abbrev aZ:=Sum Int Str
noncomputable def qw:aZ->Value->Bool
 | .inl k,v=>Value.isInt k v
 | .inr x,v=>Value.isStrOf x v
noncomputable def MM (w:World):aZ->Int
 | .inl k=>hashInt k
 | .inr x=>hashStr w x
theorem ci:∀ {k:aZ} {v:Value},qw k v=true->(∃ i t,k=Sum.inl i/\v=Value.int i t)\/(∃ x t,k=Sum.inr x/\v=Value.str x t)
 | .inl i,v,h=>by
  obtain ⟨t,e⟩:=Value.isInt_shape (k:=i) (v:=v) h
  exact .inl ⟨i,t,rfl,e⟩
 | .inr x,v,h=>by
  obtain ⟨t,e⟩:=Value.isStrOf_shape (x:=x) (v:=v) h
  exact .inr ⟨x,t,rfl,e⟩
theorem zn (i:Int) (t:Tok):qw (.inl i) (.int i t)=true:=by simp [qw,Value.isInt]
theorem zm (x:Str) (t:Tok):qw (.inr x) (.str x t)=true:=by simp [qw,Value.isStrOf]
theorem HJ (a b:Int):decide ((Sum.inl a:aZ)=Sum.inl b)=(a==b):=by
 by_cases e:a=b
 ·subst e; simp
 ·have h:¬ (Sum.inl a:aZ)=Sum.inl b:=fun q=>e (Sum.inl.inj q)
  rw [decide_eq_false h]
  exact (beq_eq_false_iff_ne.mpr e).symm
theorem HF (a b:Str):decide ((Sum.inr a:aZ)=Sum.inr b)=decide (a=b):=by
 by_cases e:a=b
 ·subst e; simp
 ·have h:¬ (Sum.inr a:aZ)=Sum.inr b:=fun q=>e (Sum.inr.inj q)
  rw [decide_eq_false h,decide_eq_false e]
theorem HH (a:Int) (b:Str):decide ((Sum.inl a:aZ)=Sum.inr b)=false:=decide_eq_false (fun q=>nomatch q)
theorem HG (a:Str) (b:Int):decide ((Sum.inr a:aZ)=Sum.inl b)=false:=decide_eq_false (fun q=>nomatch q)
noncomputable def cy (prog:Program) (w:World):PySem.KeyKind prog w aZ where
 is:=qw
 hash:=MM w
 inj:=fun v a b ha hb=>by
  rcases ci ha with ⟨i,t,rfl,rfl⟩ | ⟨x,t,rfl,rfl⟩
  ·rcases ci hb with ⟨j,u,rfl,e⟩ | ⟨y,u,rfl,e⟩
   ·injection e with e1 _; rw [e1]
   ·exact nomatch e
  ·rcases ci hb with ⟨j,u,rfl,e⟩ | ⟨y,u,rfl,e⟩
   ·exact nomatch e
   ·injection e with e1 _; rw [e1]
 byValue:=fun k v h=>by
  rcases ci h with ⟨i,t,rfl,rfl⟩ | ⟨x,t,rfl,rfl⟩ <;> rfl
 pyHash:=fun hv h=>by
  rcases ci hv with ⟨i,t,rfl,rfl⟩ | ⟨x,t,rfl,rfl⟩
  ·exact wpAny_pyHash_int h
  ·exact wpAny_pyHash_str h
 eqBool:=fun hu hv h=>by
  rcases ci hu with ⟨i,t,rfl,rfl⟩ | ⟨x,t,rfl,rfl⟩
  ·rcases ci hv with ⟨j,u,rfl,rfl⟩ | ⟨y,u,rfl,rfl⟩
   ·rw [HJ] at h; exact wpAny_eqBool_int h
   ·rw [HH] at h; exact SeqAt.EqAt.int_str i t y u _ _ _ _ h
  ·rcases ci hv with ⟨j,u,rfl,rfl⟩ | ⟨y,u,rfl,rfl⟩
   ·rw [HG] at h; exact SeqAt.EqAt.str_int x t j u _ _ _ _ h
   ·rw [HF] at h; exact wpAny_eqBool_str h
 «strs»:=fun k x t v h=>by
  rcases ci h with ⟨i,u,rfl,e⟩ | ⟨y,u,rfl,e⟩
  ·exact nomatch e
  ·injection e with e1 _
   subst e1
   cases v <;> rfl
theorem ug (prog:Program) (w:World) (i:Int) (t:Tok):(cy prog w).is (.inl i) (.int i t)=true:=zn i t
theorem uf (prog:Program) (w:World) (x:Str) (t:Tok):(cy prog w).is (.inr x) (.str x t)=true:=zm x t
end L2
namespace L2
open PySem PySem.Spec PyProof.Rows
inductive V where
 | non | bl (b:Bool) | int (i:Int) | str (x:Str) | byt (b:Array UInt8) | flt (b:UInt64) | ref (a:Addr) | ty (n:String)
 deriving DecidableEq
def RelV:V->Value->Prop
 | .non,u=>u=Value.none
 | .bl b,u=>u=Value.bool b
 | .int i,u=>∃ t,u=Value.int i t
 | .str x,u=>∃ t,u=Value.str x t
 | .byt b,u=>∃ t,u=Value.bytes b t
 | .flt b,u=>∃ t,u=Value.float b t
 | .ref a,u=>u=Value.ref a
 | .ty n,u=>u=Value.type n
abbrev Vals:List V->List Value->Prop:=Paired RelV
theorem Vals.length {xs:List V} {us:List Value} (r:Vals xs us):xs.length=us.length:=Paired.length r
theorem Vals.get:∀ {xs:List V} {us:List Value} {i:Nat} {x:V},Vals xs us->xs[i]? = some x->∃ u,us[i]? = some u/\RelV x u
 | _,_,_,_,.nil,e=>by simp at e
 | _,_,0,_,.cons r _,e=>by simp at e; subst e; exact ⟨_,rfl,r⟩
 | _,_,i+1,x,.cons _ t,e=>by
  obtain ⟨u,h1,h2⟩:=Vals.get (i:=i) (x:=x) t (by simpa using e)
  exact ⟨u,by simpa using h1,h2⟩
theorem Vals.append:∀ {xs ys:List V} {us ws:List Value},Vals xs us->Vals ys ws->Vals (xs++ys) (us++ws)
 | _,_,_,_,.nil,s=>s
 | _,_,_,_,.cons r t,s=>.cons r (Vals.append t s)
theorem Vals.take:∀ {xs:List V} {us:List Value} (n:Nat),Vals xs us->Vals (xs.take n) (us.take n)
 | _,_,0,_=>.nil
 | _,_,_+1,.nil=>.nil
 | _,_,n+1,.cons r t=>.cons r (Vals.take n t)
theorem Vals.drop:∀ {xs:List V} {us:List Value} (n:Nat),Vals xs us->Vals (xs.drop n) (us.drop n)
 | _,_,0,r=>r
 | _,_,_+1,.nil=>.nil
 | _,_,n+1,.cons _ t=>Vals.drop n t
def RelO:Option V->Option Value->Prop
 | some v,some u=>RelV v u
 | none,none=>True
 | _,_=>False
def KV {κ:Type}:List (κ × V)->List (κ × Value)->Prop:=Paired fun (p:κ × V) (q:κ × Value)=>p.1=q.1/\RelV p.2 q.2
noncomputable def kV:aZ->V
 | .inl i=>.int i
 | .inr x=>.str x
inductive HO where
 | lst (xs:List V)
 | tup (xs:List V)
 | dK (kvs:List (aZ×V)) | dT (kvs:List (List aZ×V))
 | set (S:Int->Bool) (n:Nat)
 | ins (C dx:Addr) (fs:List (Str×V))
 | own (x:Addr)
 | xd (fs:List (Str×V))
 | met (f x:Addr)
 | rng (lo hi:Int)
 | frz (o:Obj) (u:HO)
 | tbl (ps:Array Value)
 | ext (φ:Heap->Prop)
abbrev Hp:=Addr->Option HO
noncomputable def upd (H:Hp) (a:Addr) (o:HO):Hp:=fun b=>if b=a then some o else H b
theorem aQ {H:Hp} {a:Addr} {o:HO}:upd H a o a=some o:=by unfold upd; rw [if_pos rfl]
theorem aU {H:Hp} {a b:Addr} {o:HO} (h:b≠a):upd H a o b=H b:=by unfold upd; rw [if_neg h]
theorem bJ {H:Hp} {a b:Addr} {o:HO} (h:H a=some o) (h':H b=none):a≠b:=by
 intro e; subst e; rw [h] at h'; cases h'
section
variable (P:Program) (w:World)
def NoDi (h:Heap) (a:Addr):Prop:=∃ o,h.get? a=some o/\o.dict=none
theorem NoDi.new (h:Heap) (o:Obj) (e:o.dict=none:=by rfl) (f:o.isFreed=false:=by rfl):NoDi (h.push o) h.objs.size:=⟨o,Heap.get?_push_size h f,e⟩
def ObjOk (H:Hp) (h:Heap) (a:Addr):HO->Prop
 | .lst xs=>xs.length<=sizeLine/\∃ (its:List Value) (n:Nat),Vals xs its/\h.get? a=some { cls:=.type "list",data:=.seq its.toArray n }
 | .tup xs=>xs.length<=sizeLine/\∃ its:List Value,Vals xs its/\IsTup h a its.toArray/\NoDi h a
 | .dK kvs=>kvs.length<=sizeLine/\(a==sysModules)=false/\∃ vs,KV kvs vs/\h.DictOf (cy P w) a vs
 | .dT kvs=>kvs.length<=sizeLine/\(a==sysModules)=false/\∃ xs:List (List aZ×Addr×Value),
   Paired (fun (p:List aZ×V) (q:List aZ×Addr×Value)=>p.1=q.1/\H q.2.1=some (.tup (p.1.map kV))/\RelV p.2 q.2.2) kvs xs /\
   ∃ o es ep,h.get? a=some o/\o.ExactDict/\o.data=.dict es ep/\es.toList=xs.map (entryOfKey (tupleKind (cy P w)))/\(xs.map (·.1)).Nodup
 | .set S n=>h.SetOf (intKind P w) a S n
 | .ins C dx fs=>H dx=some (.own a)/\fs.length<=1000/\dx≠a/\h.get? a=some (PySem.W.instObj C dx) /\
   ∃ mA,h.Ns1 dx mA/\(∀ f,RelO (fs.lookup f) (mA f))/\PySem.Within mA (fs.map (·.1))
 | .own _=>∃ o,h.get? a=some o
 | .xd fs=>∃ mA,h.Ns1 a mA/\∀ f,RelO (fs.lookup f) (mA f)
 | .rng lo hi=>∃ t u v,h.get? a=some { cls:=.type "range",data:=.fields #[.int lo t,.int hi u,.int 1 v] }
 | .frz o u=>h.get? a=some o/\ObjOk H h a u
 | .tbl ps=>h.get? a=some { cls:=.none,data:=.fields ps }
 | .met f x=>h.get? a=some (PySem.W.methodObj (.ref f) (.ref x))
 | .ext φ=>φ h/\(∃ o,h.get? a=some o)/\∀ h1 h2:Heap,φ h1->(∀ o,h1.get? a=some o->h2.get? a=some o) -> φ h2
def HOk (H:Hp) (h:Heap):Prop:=∀ a o,H a=some o->ObjOk P w H h a o
end
section
variable {P:Program} {w:World} {H H':Hp} {h h':Heap} {a:Addr} {o:HO}
theorem ObjOk.lt (x:ObjOk P w H h a o):a<h.objs.size:=by
 cases o with
 | lst xs=>obtain ⟨_,_,_,_,e⟩:=x; exact Heap.lt_size e
 | tup xs=>obtain ⟨_,_,_,p⟩:=x; exact p.1.lt
 | dK kvs=>obtain ⟨_,_,_,_,o,_,_,e,_⟩:=x; exact Heap.lt_size e
 | dT kvs=>obtain ⟨_,_,_,_,o,_,_,e,_⟩:=x; exact Heap.lt_size e
 | set S n=>obtain ⟨o,_,_,_,e,_⟩:=x; exact Heap.lt_size e
 | ins C dx fs=>obtain ⟨_,_,_,e,_⟩:=x; exact Heap.lt_size e
 | own y=>obtain ⟨_,e⟩:=x; exact Heap.lt_size e
 | xd fs=>obtain ⟨_,⟨_,_,_,e,_⟩,_⟩:=x; exact Heap.lt_size e
 | rng lo hi=>obtain ⟨_,_,_,e⟩:=x; exact Heap.lt_size e
 | frz ob u=>obtain ⟨e,_⟩:=x; exact Heap.lt_size e
 | tbl ps=>exact Heap.lt_size (show h.get? a=some _ from x)
 | met f y=>exact Heap.lt_size (show h.get? a=some _ from x)
 | ext φ=>obtain ⟨_,⟨_,e⟩,_⟩:=x; exact Heap.lt_size e
theorem Paired.mapP {α β:Type} {F G:α -> β -> Prop}:∀ {l₁:List α} {l₂:List β},Paired F l₁ l₂ -> (∀ a b,F a b->G a b)->Paired G l₁ l₂
 | _,_,.nil,_=>.nil
 | _,_,.cons r t,f=>.cons (f _ _ r) (Paired.mapP t f)
theorem ObjOk.stay (x:ObjOk P w H h a o) (k:∀ b u,(b=a\/H b=some (.own a))->h.get? b=some u->h'.get? b=some u)
  (ho:∀ b,H b=some (.own a)->H' b=some (.own a)) (ht:∀ b xs,H b=some (.tup xs)->H' b=some (.tup xs)):ObjOk P w H' h' a o:=by
 induction o with
 | lst xs=>obtain ⟨z,its,n,r,e⟩:=x; exact ⟨z,its,n,r,k _ _ (.inl rfl) e⟩
 | tup xs=>obtain ⟨z,its,r,⟨ob,e,c⟩,od,e',c'⟩:=x; exact ⟨z,its,r,⟨ob,k _ _ (.inl rfl) e,c⟩,od,k _ _ (.inl rfl) e',c'⟩
 | dK kvs=>obtain ⟨z,y,vs,r,ob,es,ep,e,c⟩:=x; exact ⟨z,y,vs,r,ob,es,ep,k _ _ (.inl rfl) e,c⟩
 | dT kvs=>
  obtain ⟨z,y,xs,r,ob,es,ep,e,c⟩:=x
  exact ⟨z,y,xs,Paired.mapP r fun p q z=>⟨z.1,ht _ _ z.2.1,z.2.2⟩,ob,es,ep,k _ _ (.inl rfl) e,c⟩
 | set S n=>obtain ⟨ob,es,ep,t,e,c⟩:=x; exact ⟨ob,es,ep,t,k _ _ (.inl rfl) e,c⟩
 | ins C dx fs=>
  obtain ⟨d,z,ne,e,mA,⟨od,es,ep,e2,c⟩,r⟩:=x
  exact ⟨ho _ d,z,ne,k _ _ (.inl rfl) e,mA,⟨od,es,ep,k _ _ (.inr d) e2,c⟩,r⟩
 | own y=>obtain ⟨ob,e⟩:=x; exact ⟨ob,k _ _ (.inl rfl) e⟩
 | xd fs=>obtain ⟨mA,⟨od,es,ep,e,c⟩,r⟩:=x; exact ⟨mA,⟨od,es,ep,k _ _ (.inl rfl) e,c⟩,r⟩
 | rng lo hi=>obtain ⟨t,u,v,e⟩:=x; exact ⟨t,u,v,k _ _ (.inl rfl) e⟩
 | frz ob u ih=>obtain ⟨e,q⟩:=x; exact ⟨k _ _ (.inl rfl) e,ih q⟩
 | tbl ps=>
  have e:h.get? a=some { cls:=.none,data:=.fields ps }:=x
  show h'.get? a=some { cls:=.none,data:=.fields ps }
  exact k a _ (.inl rfl) e
 | met f y=>
  have e:h.get? a=some (PySem.W.methodObj (.ref f) (.ref y)):=x
  show h'.get? a=some (PySem.W.methodObj (.ref f) (.ref y))
  exact k a _ (.inl rfl) e
 | ext φ=>obtain ⟨p,⟨o,e⟩,st⟩:=x; exact ⟨st _ _ p fun o q=>k _ _ (.inl rfl) q,⟨o,k _ _ (.inl rfl) e⟩,st⟩
theorem HOk.lt (x:HOk P w H h) (e:H a=some o):a<h.objs.size:=(x a o e).lt
theorem HOk.fresh (x:HOk P w H h) (e:h.objs.size<=a):H a=none:=by
 cases q:H a with
 | none=>rfl
 | some u=>exact absurd (Nat.lt_of_lt_of_le (x.lt q) e) (Nat.lt_irrefl _)
theorem HOk.kept (x:HOk P w H h) (k:∀ b u,h.get? b=some u->h'.get? b=some u):HOk P w H h':=fun a o e=>
 (x a o e).stay (fun b u _ q=>k b u q) (fun _ q=>q) fun _ _ q=>q
theorem HOk.laid (x:HOk P w H h) (k:∀ b u,h.get? b=some u->h'.get? b=some u) (hp:h.objs.size<=a) (new:ObjOk P w (upd H a o) h' a o):HOk P w (upd H a o) h':=fun b u e=>by
 have hn:=x.fresh hp
 by_cases hb:b=a
 ·subst hb; rw [aQ] at e; cases e; exact new
 ·rw [aU hb] at e
  exact (x b u e).stay (fun c v _ q=>k c v q) (fun c q=>by rw [aU (bJ q hn)]; exact q) fun c xs q=>by rw [aU (bJ q hn)]; exact q
end
def Rd (H:Hp) (a:Addr) (u:HO):Prop:=H a=some u\/∃ o,H a=some (.frz o u)
theorem Rd.ok {P:Program} {w:World} {H:Hp} {h:Heap} {a:Addr} {u:HO} (r:Rd H a u) (x:HOk P w H h):ObjOk P w H h a u:=by
 rcases r with r | ⟨o,r⟩
 ·exact x a u r
 ·obtain ⟨_,q⟩:=x a _ r
  exact q
def Lk:Option HO->Prop
 | some (.lst _)=>True
 | some (.dK _)=>True
 | some (.dT _)=>True
 | some (.set _ _)=>True
 | some (.ins _ _ _)=>True
 | some (.ext _)=>True
 | _=>False
section
variable {P:Program} {w:World} {H:Hp} {h h':Heap} {x e:Addr} {o':HO}
theorem HOk.write (ok:HOk P w H h) (mu:Lk (H x)) (he:e=x\/H e=some (.own x)) (k:∀ b u,b≠e->h.get? b=some u->h'.get? b=some u) (heo:∃ u,h'.get? e=some u)
  (new:ObjOk P w (upd H x o') h' x o'):HOk P w (upd H x o') h':=fun b u q=>by
 have nown:∀ c y,H c=some (.own y)->c≠x:=fun c y r z=>by subst z; rw [r] at mu; exact mu
 have ntup:∀ c xs,H c=some (.tup xs)->c≠x:=fun c xs r z=>by subst z; rw [r] at mu; exact mu
 by_cases hb:b=x
 ·subst hb; rw [aQ] at q; cases q; exact new
 ·rw [aU hb] at q
  by_cases hbe:b=e
  ·have q':H b=some (.own x):=by
    rcases he with z | z
    ·exact absurd (hbe.trans z) hb
    ·rw [hbe]; exact z
   rw [q] at q'; cases q'
   obtain ⟨v,hv⟩:=heo
   exact ⟨v,by rw [hbe]; exact hv⟩
  ·refine (ok b u q).stay (fun c v hc r=>k c v ?_ r) (fun c r=>by rw [aU (nown c b r)]; exact r) fun c xs r=>by rw [aU (ntup c xs r)]; exact r
   rcases hc with rfl | hc
   ·exact hbe
   ·rintro rfl
    rcases he with z | z
    ·exact nown c b hc z
    ·rw [hc] at z; cases z; exact hb rfl
end
structure Un (fs ex:List Addr) (H H':Hp) (h h':Heap):Prop where
 keep:∀ b o,h.get? b=some o->H b=none->b ∉ fs->b ∉ ex->h'.get? b=some o
 slot:∀ b o,h.get? b=some o->H b=none->b∈fs->b ∉ ex->∃ sl,h'.get? b=some { o with slots:=sl }
 free:∀ b o,h.get? b=some o->H b=none->b ∉ ex->H' b=none
 there:∀ b o,h.get? b=some o->b ∉ ex->∃ o',h'.get? b=some o'
 tups:∀ b xs,H b=some (.tup xs)->H' b=some (.tup xs)
 frzs:∀ b o u,H b=some (.frz o u)->H' b=some (.frz o u)
 tbls:∀ b ps,H b=some (.tbl ps)->∃ more,H' b=some (.tbl (ps++more))
section
variable {fs fs' ex ex':List Addr} {H H1 H2:Hp} {h h1 h2 h':Heap} {a x e:Addr} {o:HO}
theorem Un.any (u:Un fs ex H H1 h h1) {b:Addr} {ob:Obj} (q:h.get? b=some ob) (n:H b=none) (hx:b ∉ ex):∃ sl,h1.get? b=some { ob with slots:=sl }:=by
 by_cases hb:b∈fs
 ·exact u.slot b ob q n hb hx
 ·exact ⟨ob.slots,u.keep b ob q n hb hx⟩
theorem Un.kept (k:∀ b u,h.get? b=some u->h'.get? b=some u):Un fs ex H H h h':=
 ⟨fun b ob q _ _ _=>k b ob q,fun b ob q _ _ _=>⟨ob.slots,k b ob q⟩,fun _ _ _ n _=>n,fun b ob q _=>⟨ob,k b ob q⟩,fun _ _ q=>q,fun _ _ _ q=>q,fun _ ps q=>⟨#[],by rw [q]; simp⟩⟩
theorem Un.refl:Un fs ex H H h h:=Un.kept fun _ _ q=>q
theorem Un.laid (k:∀ b u,h.get? b=some u->h'.get? b=some u) (hp:h.objs.size<=a) (hn:H a=none):Un fs ex H (upd H a o) h h' where
 keep:=fun b u q _ _ _=>k b u q
 slot:=fun b u q _ _ _=>⟨u.slots,k b u q⟩
 free:=fun b u q n _=>by rw [aU (Nat.ne_of_lt (Nat.lt_of_lt_of_le (Heap.lt_size q) hp))]; exact n
 there:=fun b u q _=>⟨u,k b u q⟩
 tups:=fun b xs q=>by rw [aU (bJ q hn)]; exact q
 frzs:=fun b u xs q=>by rw [aU (bJ q hn)]; exact q
 tbls:=fun b ps q=>⟨#[],by rw [aU (bJ q hn),q]; simp⟩
theorem Un.write (mu:Lk (H x)) (he:e=x\/H e=some (.own x)) (k:∀ b u,b≠e->h.get? b=some u->h'.get? b=some u) (heo:∃ u,h'.get? e=some u):Un fs ex H (upd H x o) h h':=by
 have hx:∀ b,H b=none->b≠x:=fun b n z=>by subst z; rw [n] at mu; exact mu
 have hb:∀ b,H b=none->b≠e:=fun b n z=>by
  subst z
  rcases he with r | r
  ·exact hx b n r
  ·rw [n] at r; cases r
 have hm:∀ b u,H b=some u->¬ Lk (some u)->b≠x:=fun b u q nm z=>by subst z; rw [q] at mu; exact nm mu
 refine ⟨fun b u q n _ _=>k b u (hb b n) q,fun b u q n _ _=>⟨u.slots,k b u (hb b n) q⟩,fun b u q n _=>by rw [aU (hx b n)]; exact n,fun b u q _=>?_,
  fun b xs q=>by rw [aU (hm b _ q fun z=>z)]; exact q,fun b u xs q=>by rw [aU (hm b _ q fun z=>z)]; exact q,fun b ps q=>⟨#[],by rw [aU (hm b _ q fun z=>z),q]; simp⟩⟩
 by_cases hbe:b=e
 ·subst hbe; exact heo
 ·exact ⟨u,k b u hbe q⟩
end
noncomputable def Ln (h:Heap) (H:Hp):List Addr:=(List.range h.objs.size).filter fun a=>(H a).isSome
noncomputable def rR (h:Heap) (H:Hp):Heap:=PySem.W.hideAll h (Ln h H)
theorem zw (h:Heap) (H:Hp):(rR h H).objs.size=h.objs.size:=PySem.W.hideAll_size _ _
theorem BJ {h:Heap} {H:Hp} {b:Addr} {o:Obj} (e:h.get? b=some o) (n:H b=none):(rR h H).get? b=some o:=
 PySem.W.hideAll_get _ e fun hm=>by
  have q:(H b).isSome=true:=(List.mem_filter.mp hm).2
  rw [n] at q; simp at q
theorem Ea {h:Heap} {H:Hp} {b:Addr} {o:Obj} (e:(rR h H).get? b=some o):h.get? b=some o/\H b=none:=by
 have e':h.get? b=some o:=PySem.W.of_hideAll (Ln h H) e
 refine ⟨e',?_⟩
 cases q:H b with
 | none=>rfl
 | some x=>
  have hm:b∈Ln h H:=List.mem_filter.mpr ⟨List.mem_range.mpr (Heap.lt_size e'),by simp [q]⟩
  have z:(rR h H).get? b=none:=PySem.W.hideAll_none (Ln h H) hm
  rw [z] at e; cases e
noncomputable def ye (g h:Heap) (L:Addr):List (Addr×Obj):=(List.range h.objs.size).filterMap fun a=>if a=L\/(g.get? a).isSome=true then none else (h.get? a).map fun o=>(a,o)
theorem uk {g h:Heap} {L a:Addr} {o:Obj} (h1:a≠L) (h2:g.get? a=none) (h3:h.get? a=some o):(a,o)∈ye g h L:=
 List.mem_filterMap.mpr ⟨a,List.mem_range.mpr (Heap.lt_size h3),by simp [h1,h2,h3]⟩
noncomputable def rest (g h:Heap) (L d:Addr):List (Addr×Obj):=(ye g h L).filter fun p=>decide (p.1≠d)
theorem mem_rest {g h:Heap} {L d a:Addr} {o:Obj} (h1:a≠L) (h2:g.get? a=none) (h3:h.get? a=some o) (h4:a≠d):(a,o)∈rest g h L d:=
 List.mem_filter.mpr ⟨uk h1 h2 h3,decide_eq_true h4⟩
end L2
namespace L2
open PySem PySem.Spec PyProof.Rows
structure Mod (K:PySem.W.Frag) (mg:Str->Option Value) (base:Heap):Prop where
 kin:K.In base
 glob:base.Ns mainGlobals mg
 blt:∃ mb,base.Ns builtinsNs mb/\∀ x:Str,x ≠ "__name__" -> mb x=bootBuiltins x
 nolimit:base.NoLimit
structure Cx where
 prog:Program
 w:World
 K:PySem.W.Frag
 mg:Str->Option Value
 base:Heap
 A:Around
 N:List Str
 s₀:Shared
 H₀:Hp
 env:Env
 outer:List Env
 stack:List Env
 ex:List Addr
 fn:Str->Bool
 calm:Bool
 pn:List (Addr×Obj)
 xe:Value->Shared->Prop
noncomputable def xQ (l:List Env):List Addr:=l.filterMap (·.frame)
abbrev Cx.fs (X:Cx):List Addr:=xQ X.outer
def Gr (sc:Scope) (x:Str):Prop:=sc.names.lookup x=some .local\/sc.names.lookup x=some .cell\/sc.names.lookup x=some .free
def Cw (sc:Scope) (x:Str):Prop:=sc.names.lookup x=some .local\/sc.names.lookup x=some .cell
def Nn (env:Env) (h:Heap) (m:Str->Option Value) (x:Str) (u:Value):Prop:=
 (env.kindOf x=some .local/\m x=some u)\/((env.kindOf x=some .cell\/env.kindOf x=some .free)/\∃ c,env.cells.lookup x=some c/\h.IsCell c (some u))
structure Cx.Ok (X:Cx):Prop where
 mod:Mod X.K X.mg X.base
 kind:X.env.scope.kind=.function
 glob:X.env.globals=mainGlobals
 blt:X.env.builtins=builtinsNs
 above:X.s₀.heap.objs.size<=X.env.locals
 inj:∀ x y c,X.env.cells.lookup x=some c->X.env.cells.lookup y=some c->x=y
 has:∀ x,(X.env.kindOf x=some .cell\/X.env.kindOf x=some .free)->∃ c,X.env.cells.lookup x=some c
 cab:∀ x c,X.fn x=true->X.env.cells.lookup x=some c->X.s₀.heap.objs.size<=c
 hd:X.calm=true->X.A.handled=none
 frames:X.A.frames=some X.stack
 stk:X.stack=X.outer\/(X.stack=X.env::X.outer/\X.env.frame=some X.env.locals)
 exf:∀ b∈X.ex,b≠X.env.locals/\∀ x c,X.env.cells.lookup x=some c->c≠b
 bs:∀ b o,X.base.get? b=some o->X.s₀.heap.get? b=some o/\X.H₀ b=none
 bsz:X.base.objs.size<=X.s₀.heap.objs.size
 noex:∀ b o,X.base.get? b=some o->b ∉ X.ex
 exfs:∀ b∈X.ex,b ∉ X.fs
 funs:X.s₀.heap.FunFrames X.base X.outer
 frf:∀ b∈X.fs,X.H₀ b=none
structure Inv (X:Cx) (pins:List (Addr×Obj)) (σ:List (Option V)) (H:Hp) (s:Shared):Prop where
 ok:X.Ok
 os:s.os=X.s₀.os
 bare:AllBare s.gens
 base:Un X.fs X.ex X.H₀ H X.s₀.heap s.heap
 loc:∃ m,s.heap.Ns X.env.locals m/\∀ (i:Nat) (x:Str) (v:V),X.N[i]? = some x -> σ[i]? = some (some v)->Gr X.env.scope x->∃ u,RelV v u/\Nn X.env s.heap m x u
 cell:∀ x c,X.env.cells.lookup x=some c->∃ v,s.heap.IsCell c v
 free:H X.env.locals=none
 freeC:∀ x c,X.env.cells.lookup x=some c->H c=none
 pin:∀ p∈X.pn++pins,s.heap.get? p.1=some p.2/\H p.1=none/\p.1≠X.env.locals/\p.1 ∉ X.fs/\∀ v,p.2.data≠.cell v
 hok:HOk X.prog X.w H s.heap
 len:σ.length=X.N.length
section
variable {X:Cx} {pins:List (Addr×Obj)} {σ:List (Option V)} {H H':Hp} {s:Shared} {h':Heap}
theorem Cx.Ok.nofr (ok:X.Ok) {b:Addr} {o:Obj} (e:X.base.get? b=some o):b ∉ X.fs:=fun hb=>by
 have:=(ok.funs.mem hb).1
 rw [e] at this; cases this
theorem Inv.bs (I:Inv X pins σ H s):∀ b o,X.base.get? b=some o->s.heap.get? b=some o/\H b=none:=fun b o e=>
 ⟨I.base.keep b o (I.ok.bs b o e).1 (I.ok.bs b o e).2 (I.ok.nofr e) (I.ok.noex b o e),I.base.free b o (I.ok.bs b o e).1 (I.ok.bs b o e).2 (I.ok.noex b o e)⟩
theorem Inv.bk (I:Inv X pins σ H s):∀ b o,X.base.get? b=some o->s.heap.get? b=some o:=fun b o e=>(I.bs b o e).1
theorem Inv.mod (I:Inv X pins σ H s):Mod X.K X.mg X.base:=I.ok.mod
theorem Inv.kIn (I:Inv X pins σ H s):X.K.In s.heap:=I.ok.mod.kin.keeps I.bk
theorem Inv.fr (I:Inv X pins σ H s):∃ m,Fr X.base X.env.locals s.heap m:=
 let ⟨m,hn,_⟩:=I.loc
 ⟨m,hn,I.bk,Nat.le_trans I.ok.bsz I.ok.above⟩
theorem Inv.lt (I:Inv X pins σ H s):X.env.locals<s.heap.objs.size:=let ⟨_,hn,_⟩:=I.loc; hn.lt
theorem Inv.sz (I:Inv X pins σ H s):X.s₀.heap.objs.size<=s.heap.objs.size:=Nat.le_trans I.ok.above (Nat.le_of_lt I.lt)
theorem Inv.nofs (I:Inv X pins σ H s) {a:Addr} (h:s.heap.objs.size<=a):a ∉ X.fs:=fun hb=>by
 obtain ⟨_,o,ho,_⟩:=I.ok.funs.mem hb
 exact absurd (Nat.lt_of_lt_of_le (Heap.lt_size ho) (Nat.le_trans I.sz h)) (Nat.lt_irrefl _)
theorem Inv.cne (I:Inv X pins σ H s):∀ x c,X.env.cells.lookup x=some c->c≠X.env.locals:=fun x c e z=>by
 obtain ⟨v,o,ho,hd⟩:=I.cell x c e
 obtain ⟨m,⟨o',es,ep,ho',hd',_⟩,_⟩:=I.loc
 rw [z,ho'] at ho; cases ho; rw [hd'] at hd; cases hd
theorem Inv.funs (I:Inv X pins σ H s):s.heap.FunFrames X.base X.outer:=by
 have all:∀ (l:List Env),(∀ b∈xQ l,b∈X.fs)->X.s₀.heap.FunFrames X.base l->s.heap.FunFrames X.base l:=by
  intro l
  induction l with
  | nil=>intro _ _; trivial
  | cons env r ih=>
   intro hs hl
   obtain ⟨hk,⟨L,o,hf,hn,ho,hd⟩,hr⟩:=hl
   have hL:L∈X.fs:=hs L (by unfold xQ; rw [List.filterMap_cons,hf]; exact List.mem_cons_self)
   obtain ⟨sl,e⟩:=I.base.slot L o ho (I.ok.frf L hL) hL fun z=>I.ok.exfs L z hL
   exact ⟨hk,⟨L,_,hf,hn,e,hd⟩,ih (fun b hb=>hs b (by unfold xQ; rw [List.filterMap_cons,hf]; exact List.mem_cons_of_mem _ hb)) hr⟩
 exact all X.outer (fun _ hb=>hb) I.ok.funs
theorem Inv.stack (I:Inv X pins σ H s):s.heap.FunFrames X.base X.stack:=by
 rcases I.ok.stk with e | ⟨e,hf⟩
 ·rw [e]; exact I.funs
 ·rw [e]
  obtain ⟨m,hn,_⟩:=I.loc
  refine .cons (by rw [I.ok.kind]; decide) hf hn ?_ I.funs
  exact Heap.get?_none_of_le (Nat.le_trans I.ok.bsz I.ok.above)
theorem Inv.stkSub (I:Inv X pins σ H s):∀ b∈xQ X.stack,b∈X.env.locals::X.fs:=fun b hb=>by
 rcases I.ok.stk with e | ⟨e,hf⟩
 ·rw [e] at hb; exact List.mem_cons_of_mem _ hb
 ·rw [e] at hb
  unfold xQ at hb
  rw [List.filterMap_cons,hf] at hb
  exact hb
theorem Inv.stkFree (I:Inv X pins σ H s):∀ b∈xQ X.stack,H b=none:=fun b hb=>by
 rcases List.mem_cons.mp (I.stkSub b hb) with e | hb
 ·rw [e]; exact I.free
 ·obtain ⟨_,o,ho,_⟩:=I.ok.funs.mem hb
  exact I.base.free b o ho (I.ok.frf b hb) fun z=>I.ok.exfs b z hb
theorem Inv.step {g':Array GenState} {t':Nat} {d':Drawn} {ch:List Addr} (I:Inv X pins σ H s)
  (hch:∀ b∈ch,(b∈X.ex\/X.s₀.heap.objs.size<=b)/\b≠X.env.locals/\(∀ x c,X.env.cells.lookup x=some c->c≠b)/\∀ p∈X.pn++pins,p.1≠b)
  (keep:∀ b o,b≠X.env.locals->b ∉ X.fs->b ∉ ch->s.heap.get? b=some o->H b=none->h'.get? b=some o)
  (slot:∀ b o,b≠X.env.locals->b∈X.fs->b ∉ ch->s.heap.get? b=some o->H b=none->∃ sl,h'.get? b=some { o with slots:=sl }) (free:∀ b o,b ∉ ch->s.heap.get? b=some o->H b=none->H' b=none)
  (there:∀ b o,b ∉ ch->s.heap.get? b=some o->∃ o',h'.get? b=some o')
  (tups:∀ b xs,H b=some (.tup xs)->H' b=some (.tup xs)) (frzs:∀ b o u,H b=some (.frz o u)->H' b=some (.frz o u)) (tbls:∀ b ps,H b=some (.tbl ps)->∃ more,H' b=some (.tbl (ps++more)))
  (ns:∀ m,s.heap.Ns X.env.locals m->h'.Ns X.env.locals m) (hok:HOk X.prog X.w H' h') (hg:AllBare g') :
  Inv X pins σ H' { s with heap:=h',gens:=g',drawn:=d',toks:=t' }:=by
 have neL:∀ b o,X.s₀.heap.get? b=some o->b≠X.env.locals:=fun b o e=>Nat.ne_of_lt (Nat.lt_of_lt_of_le (Heap.lt_size e) I.ok.above)
 have neC:∀ b o,X.s₀.heap.get? b=some o->b ∉ X.ex->b ∉ ch:=fun b o e hx hb=>by
  rcases (hch b hb).1 with z | z
  ·exact hx z
  ·exact absurd (Nat.lt_of_lt_of_le (Heap.lt_size e) z) (Nat.lt_irrefl _)
 have cellK:∀ x c,X.env.cells.lookup x=some c->∀ v,s.heap.IsCell c v->h'.IsCell c v:=fun x c e v ⟨o,ho,hd⟩=>by
  have nch:c ∉ ch:=fun z=>(hch c z).2.2.1 x c e rfl
  by_cases hc:c∈X.fs
  ·obtain ⟨sl,q⟩:=slot c o (I.cne x c e) hc nch ho (I.freeC x c e)
   exact ⟨_,q,hd⟩
  ·exact ⟨o,keep c o (I.cne x c e) hc nch ho (I.freeC x c e),hd⟩
 refine ⟨I.ok,I.os,hg,⟨fun b o e n hb hx=>?_,fun b o e n hb hx=>?_,fun b o e n hx=>?_,fun b o e hx=>?_,fun b xs e=>tups b xs (I.base.tups b xs e),fun b o xs e=>frzs b o xs (I.base.frzs b o xs e),fun b ps e=>?_⟩,?_,fun x c e=>?_,?_,fun x c e=>?_,fun p hp=>?_,hok,I.len⟩
 ·exact keep b o (neL b o e) hb (neC b o e hx) (I.base.keep b o e n hb hx) (I.base.free b o e n hx)
 ·obtain ⟨sl,e1⟩:=I.base.slot b o e n hb hx
  obtain ⟨sl',e2⟩:=slot b _ (neL b o e) hb (neC b o e hx) e1 (I.base.free b o e n hx)
  exact ⟨sl',e2⟩
 ·obtain ⟨o',e1⟩:=I.base.there b o e hx
  exact free b o' (neC b o e hx) e1 (I.base.free b o e n hx)
 ·obtain ⟨o',e1⟩:=I.base.there b o e hx
  exact there b o' (neC b o e hx) e1
 ·obtain ⟨m1,e1⟩:=I.base.tbls b ps e
  obtain ⟨m2,e2⟩:=tbls b _ e1
  exact ⟨m1++m2,by rw [e2,Array.append_assoc]⟩
 ·obtain ⟨m,hn,hl⟩:=I.loc
  refine ⟨m,ns m hn,fun i x v e1 e2 e3=>?_⟩
  obtain ⟨u,r,l⟩:=hl i x v e1 e2 e3
  refine ⟨u,r,?_⟩
  rcases l with l | ⟨k,c,e,z⟩
  ·exact .inl l
  ·exact .inr ⟨k,c,e,cellK x c e _ z⟩
 ·obtain ⟨v,z⟩:=I.cell x c e
  exact ⟨v,cellK x c e v z⟩
 ·obtain ⟨m,⟨o,_,_,ho,_⟩,_⟩:=I.loc
  exact free _ o (fun z=>(hch _ z).2.1 rfl) ho I.free
 ·obtain ⟨v,o,ho,hd⟩:=I.cell x c e
  exact free c o (fun z=>(hch c z).2.2.1 x c e rfl) ho (I.freeC x c e)
 ·obtain ⟨e,n,ne,nf,d⟩:=I.pin p hp
  have nch:p.1 ∉ ch:=fun z=>(hch p.1 z).2.2.2 p hp rfl
  exact ⟨keep p.1 p.2 ne nf nch e n,free p.1 p.2 nch e n,ne,nf,d⟩
theorem Inv.un {t':Nat} (I:Inv X pins σ H s) (u:Un X.fs [] H H' s.heap h') (hok:HOk X.prog X.w H' h'):Inv X pins σ H' { s with heap:=h',toks:=t' }:=by
 obtain ⟨m,⟨o,es,ep,ho,r⟩,_⟩:=id I.loc
 obtain ⟨sl,hL⟩:=u.any ho I.free (by simp)
 exact I.step (g':=s.gens) (d':=s.drawn) (ch:=[]) (fun _ z=>nomatch z) (fun b o _ hb _ e n=>u.keep b o e n hb (by simp)) (fun b o _ hb _ e n=>u.slot b o e n hb (by simp)) (fun b o _ e n=>u.free b o e n (by simp)) (fun b o _ e=>u.there b o e (by simp)) u.tups u.frzs u.tbls (fun m' hm=>by
  obtain ⟨o',es',ep',ho',r'⟩:=hm
  rw [ho] at ho'; cases ho'
  exact ⟨_,es',ep',hL,r'⟩) hok I.bare
theorem Inv.call {g':Array GenState} {t':Nat} {d':Drawn} {ch:List Addr} (I:Inv X pins σ H s) (u:Un (xQ X.stack) ch H H' s.heap h') (hok:HOk X.prog X.w H' h') (hg:AllBare g')
  (hch:∀ b∈ch,(b∈X.ex\/X.s₀.heap.objs.size<=b)/\b≠X.env.locals/\(∀ x c,X.env.cells.lookup x=some c->c≠b)/\∀ p∈X.pn++pins,p.1≠b) :
  Inv X pins σ H' { s with heap:=h',gens:=g',drawn:=d',toks:=t' }:=by
 obtain ⟨m,⟨o,es,ep,ho,r⟩,_⟩:=id I.loc
 obtain ⟨sl,hL⟩:=u.any ho I.free fun z=>(hch _ z).2.1 rfl
 exact I.step (ch:=ch) hch (fun b o hL hb hc e n=>u.keep b o e n (fun z=>(List.mem_cons.mp (I.stkSub b z)).elim hL hb) hc) (fun b o _ _ hc e n=>u.any e n hc) (fun b o hc e n=>u.free b o e n hc) (fun b o hc e=>u.there b o e hc) u.tups u.frzs u.tbls (fun m' hm=>by
  obtain ⟨o',es',ep',ho',r'⟩:=hm
  rw [ho] at ho'; cases ho'
  exact ⟨_,es',ep',hL,r'⟩) hok hg
theorem Inv.turned {t':Nat} {it:Addr} (I:Inv X pins σ H s) (k:∀ b o,b≠it->s.heap.get? b=some o->h'.get? b=some o) (hn:H it=none) (hL:it≠X.env.locals)
  (h1:it∈X.ex\/X.s₀.heap.objs.size<=it) (h2:∀ x c,X.env.cells.lookup x=some c->c≠it) (h3:∀ p∈X.pn++pins,p.1≠it):Inv X pins σ H { s with heap:=h',toks:=t' }:=by
 have nit:∀ b u,H b=some u->b≠it:=fun b u e z=>by rw [z,hn] at e; cases e
 refine I.step (g':=s.gens) (d':=s.drawn) (ch:=[it]) (fun b hb=>?_) (fun b o _ _ hc e _=>k b o (fun z=>hc (by simp [z])) e) (fun b o _ _ hc e _=>⟨o.slots,k b o (fun z=>hc (by simp [z])) e⟩) (fun _ _ _ _ n=>n)
  (fun b o hc e=>⟨o,k b o (fun z=>hc (by simp [z])) e⟩) (fun _ _ e=>e) (fun _ _ _ e=>e) (fun b ps e=>⟨#[],by rw [e]; simp⟩) (fun m hm=>?_) (fun b u e=>?_) I.bare
 ·have e:b=it:=by simpa using hb
  subst e
  exact ⟨h1,hL,h2,h3⟩
 ·obtain ⟨o,es,ep,ho,r⟩:=hm
  exact ⟨o,es,ep,k _ o (Ne.symm hL) ho,r⟩
 ·refine (I.hok b u e).stay (fun c v hc q=>k c v ?_ q) (fun _ q=>q) fun _ _ q=>q
  rcases hc with z | z
  ·rw [z]; exact nit b u e
  ·exact nit c _ z
theorem Inv.tok (I:Inv X pins σ H s) (t:Nat):Inv X pins σ H { s with toks:=t }:=I.un (h':=s.heap) (t':=t) Un.refl I.hok
theorem Inv.kept {t':Nat} (I:Inv X pins σ H s) (k:∀ b u,s.heap.get? b=some u->h'.get? b=some u):Inv X pins σ H { s with heap:=h',toks:=t' }:=I.un (Un.kept k) (I.hok.kept k)
theorem Inv.laid {a:Addr} {o:HO} {t':Nat} (I:Inv X pins σ H s) (k:∀ b u,s.heap.get? b=some u->h'.get? b=some u) (hp:s.heap.objs.size<=a) (new:ObjOk X.prog X.w (upd H a o) h' a o) :
  Inv X pins σ (upd H a o) { s with heap:=h',toks:=t' }:=I.un (Un.laid k hp (I.hok.fresh hp)) (I.hok.laid k hp new)
theorem Inv.write {x e:Addr} {o:HO} {t':Nat} (I:Inv X pins σ H s) (mu:Lk (H x)) (he:e=x\/H e=some (.own x)) (k:∀ b u,b≠e->s.heap.get? b=some u->h'.get? b=some u) (heo:∃ u,h'.get? e=some u)
  (new:ObjOk X.prog X.w (upd H x o) h' x o):Inv X pins σ (upd H x o) { s with heap:=h',toks:=t' }:=I.un (Un.write mu he k heo) (I.hok.write mu he k heo new)
theorem Inv.weak {σ':List (Option V)} (I:Inv X pins σ H s) (hl:σ'.length = σ.length) (w:∀ (i:Nat) v,σ'[i]? = some (some v) -> σ[i]? = some (some v)):Inv X pins σ' H s:=
 ⟨I.ok,I.os,I.bare,I.base,let ⟨m,hn,hl'⟩:=I.loc; ⟨m,hn,fun i x v e1 e2 e3=>hl' i x v e1 (w i v e2) e3⟩,I.cell,I.free,I.freeC,I.pin,I.hok,hl.trans I.len⟩
theorem Inv.pins_of {pins':List (Addr×Obj)} (I:Inv X pins σ H s) (h:∀ p∈pins',s.heap.get? p.1=some p.2/\H p.1=none/\p.1≠X.env.locals/\p.1 ∉ X.fs/\∀ v,p.2.data≠.cell v):Inv X pins' σ H s:=
 ⟨I.ok,I.os,I.bare,I.base,I.loc,I.cell,I.free,I.freeC,fun p hp=>(List.mem_append.mp hp).elim (fun z=>I.pin p (List.mem_append_left _ z)) (h p),I.hok,I.len⟩
theorem uc {N:List Str} (hN:N.Nodup) {i j:Nat} {x:Str} (a:N[i]? = some x) (b:N[j]? = some x):i=j:=by
 obtain ⟨h1,e1⟩:=List.getElem?_eq_some_iff.mp a
 obtain ⟨h2,e2⟩:=List.getElem?_eq_some_iff.mp b
 exact (List.getElem_inj hN).mp (e1.trans e2.symm)
theorem yu {M:Model} {A:Around} {E:Value->Shared->Prop} {i:Nat} {x:Str} {v:V} {u:Value} {Q:Unit->Shared->Prop} (I:Inv X pins σ H s) (hN:X.N.Nodup) (hi:X.N[i]? = some x) (hx:Cw X.env.scope x) (r:RelV v u)
  (h:∀ s',Inv X pins (σ.set i (some v)) H s'->(∃ a,Heap.SameBut a s.heap s'.heap/\(a=X.env.locals\/X.env.cells.lookup x=some a))->Q () s') (hf:X.fn x=true\/X.env.scope.names.lookup x=some .local:=by first | exact .inl rfl | exact .inr rfl | assumption):wpAny M A (storeName X.env x u) Q E s:=by
 obtain ⟨m,hn,hl⟩:=id I.loc
 have hcls:(X.env.scope.kind == .class||(X.env.scope.kind == .module&&X.env.locals != X.env.globals))=false:=by rw [I.ok.kind]; rfl
 have hiσ:i < σ.length:=by rw [I.len]; exact (List.getElem?_eq_some_iff.mp hi).1
 have cne:=I.cne
 have tracked:∀ {a:Addr} {h':Heap},(∃ o,s.heap.get? a=some o/\H a=none)->Heap.SameBut a s.heap h'->HOk X.prog X.w H h':=fun {a h'} ha hs b ob e=>by
  obtain ⟨_,_,hfree⟩:=ha
  refine (I.hok b ob e).stay (fun c w' hc q=>(hs.2 c ?_).trans q) (fun _ q=>q) fun _ _ q=>q
  rintro rfl
  rcases hc with rfl | hc
  ·rw [hfree] at e; cases e
  ·rw [hfree] at hc; cases hc
 rcases hx with hk | hk
 ·refine wpAny_storeName_local hk hn (fun h' hn' hs=>?_) hcls
  obtain ⟨oL,_,_,hoL,_⟩:=id hn
  refine h _ ⟨I.ok,I.os,I.bare,⟨fun b o e n hb hx=>?_,fun b o e n hb hx=>?_,I.base.free,fun b o e hx=>?_,I.base.tups,I.base.frzs,I.base.tbls⟩,⟨_,hn',fun j y v' e1 e2 e3=>?_⟩,fun y c e=>?_,I.free,I.freeC,fun p hp=>?_,tracked ⟨oL,hoL,I.free⟩ hs,by simpa using I.len⟩ ⟨_,hs,.inl rfl⟩
  ·exact (hs.2 b (Nat.ne_of_lt (Nat.lt_of_lt_of_le (Heap.lt_size e) I.ok.above))).trans (I.base.keep b o e n hb hx)
  ·obtain ⟨sl,e1⟩:=I.base.slot b o e n hb hx
   exact ⟨sl,(hs.2 b (Nat.ne_of_lt (Nat.lt_of_lt_of_le (Heap.lt_size e) I.ok.above))).trans e1⟩
  ·obtain ⟨o',e1⟩:=I.base.there b o e hx
   exact ⟨o',(hs.2 b (Nat.ne_of_lt (Nat.lt_of_lt_of_le (Heap.lt_size e) I.ok.above))).trans e1⟩
  ·by_cases hj:j=i
   ·subst hj
    rw [hi] at e1; cases e1
    rw [List.getElem?_set_self hiσ] at e2
    cases e2
    exact ⟨u,r,.inl ⟨hk,by simp⟩⟩
   ·rw [List.getElem?_set_ne (Ne.symm hj)] at e2
    obtain ⟨u',r',q⟩:=hl j y v' e1 e2 e3
    refine ⟨u',r',?_⟩
    rcases q with ⟨k,e⟩ | ⟨k,c,e,z⟩
    ·refine .inl ⟨k,?_⟩
     have:y≠x:=fun e=>hj (uc hN e1 (e ▸ hi))
     simp [this,e]
    ·exact .inr ⟨k,c,e,z.sameBut hs (cne y c e)⟩
  ·obtain ⟨w',z⟩:=I.cell y c e
   exact ⟨w',z.sameBut hs (cne y c e)⟩
  ·obtain ⟨e,n,ne,nf,d⟩:=I.pin p hp
   exact ⟨(hs.2 p.1 ne).trans e,n,ne,nf,d⟩
 ·have hfn:X.fn x=true:=by
   rcases hf with z | z
   ·exact z
   ·rw [z] at hk; cases hk
  obtain ⟨c,hc⟩:=I.ok.has x (.inl hk)
  obtain ⟨w',z⟩:=I.cell x c hc
  refine wpAny_storeName_cell I.ok.kind hk hc z (fun h' hc' hs=>?_)
  obtain ⟨oc,hoc,hocd⟩:=id z
  refine h { s with heap:=h' } ⟨I.ok,I.os,I.bare,⟨fun b o e n hb hx=>?_,fun b o e n hb hx=>?_,I.base.free,fun b o e hx=>?_,I.base.tups,I.base.frzs,I.base.tbls⟩,⟨m,hn.sameBut hs (Ne.symm (cne x c hc)),fun j y v' e1 e2 e3=>?_⟩,fun y c' e=>?_,I.free,I.freeC,fun p hp=>?_,tracked ⟨oc,hoc,I.freeC x c hc⟩ hs,by simpa using I.len⟩ ⟨c,hs,.inr hc⟩
  ·exact (hs.2 b (Nat.ne_of_lt (Nat.lt_of_lt_of_le (Heap.lt_size e) (I.ok.cab x c hfn hc)))).trans (I.base.keep b o e n hb hx)
  ·obtain ⟨sl,e1⟩:=I.base.slot b o e n hb hx
   exact ⟨sl,(hs.2 b (Nat.ne_of_lt (Nat.lt_of_lt_of_le (Heap.lt_size e) (I.ok.cab x c hfn hc)))).trans e1⟩
  ·obtain ⟨o',e1⟩:=I.base.there b o e hx
   exact ⟨o',(hs.2 b (Nat.ne_of_lt (Nat.lt_of_lt_of_le (Heap.lt_size e) (I.ok.cab x c hfn hc)))).trans e1⟩
  ·by_cases hj:j=i
   ·subst hj
    rw [hi] at e1; cases e1
    rw [List.getElem?_set_self hiσ] at e2
    cases e2
    exact ⟨u,r,.inr ⟨.inl hk,c,hc,hc'⟩⟩
   ·rw [List.getElem?_set_ne (Ne.symm hj)] at e2
    obtain ⟨u',r',q⟩:=hl j y v' e1 e2 e3
    refine ⟨u',r',?_⟩
    rcases q with q | ⟨k,c',e,z'⟩
    ·exact .inl q
    ·refine .inr ⟨k,c',e,z'.sameBut hs ?_⟩
     rintro rfl
     exact hj (uc hN e1 (I.ok.inj _ _ _ e hc ▸ hi))
  ·by_cases hcc:c'=c
   ·subst hcc; exact ⟨_,hc'⟩
   ·obtain ⟨w2,z2⟩:=I.cell y c' e
    exact ⟨w2,z2.sameBut hs hcc⟩
  ·obtain ⟨e,n,ne,nf,d⟩:=I.pin p hp
   refine ⟨(hs.2 p.1 ?_).trans e,n,ne,nf,d⟩
   intro q
   rw [q,hoc] at e
   have q':oc=p.2:=Option.some.inj e
   exact d w' (by rw [<- q']; exact hocd)
theorem tm {M:Model} {A:Around} {E:Value->Shared->Prop} {i:Nat} {x:Str} {v:V} {u:Value} {Q:Unit->Shared->Prop} (I:Inv X pins σ H s) (hN:X.N.Nodup) (hi:X.N[i]? = some x) (hx:Cw X.env.scope x) (r:RelV v u)
  (h:∀ s',Inv X pins (σ.set i (some v)) H s'->Q () s') (hf:X.fn x=true\/X.env.scope.names.lookup x=some .local:=by first | exact .inl rfl | exact .inr rfl | assumption):wpAny M A (storeName X.env x u) Q E s:=
 yu I hN hi hx r (fun s' I' _=>h s' I') hf
theorem Inv.call' {s':Shared} {ch:List Addr} (I:Inv X pins σ H s) (ho:s'.os=s.os) (u:Un (xQ X.stack) ch H H' s.heap s'.heap) (hok:HOk X.prog X.w H' s'.heap) (hg:AllBare s'.gens)
  (hch:∀ b∈ch,(b∈X.ex\/X.s₀.heap.objs.size<=b)/\b≠X.env.locals/\(∀ x c,X.env.cells.lookup x=some c->c≠b)/\∀ p∈X.pn++pins,p.1≠b):Inv X pins σ H' s':=by
 obtain ⟨h',g',d',t',o'⟩:=s'
 have e:o'=s.os:=ho
 subst e
 exact I.call (g':=g') (t':=t') (d':=d') u hok hg hch
end
abbrev XK:=Value->Option Addr->Hp->Prop
abbrev St:=List (Option V)
abbrev VK:=V->Hp->Prop
abbrev TE:=St->Hp->VK->Prop
abbrev TT:=St->Hp->(Bool->Hp->Prop)->Prop
abbrev TA:=St->Hp->(List V->Hp->Prop)->Prop
structure Ends where
 nx:St->Hp->Prop
 rt:VK
 bk:St->Hp->Prop:=fun _ _=>False
 ct:St->Hp->Prop:=fun _ _=>False
abbrev TS:=Ends->St->Hp->Prop
def EP (X:Cx) (pins:List (Addr×Obj)) (σ:St) (Q:VK) (u:Value) (s':Shared):Prop:=∃ v H',Inv X pins σ H' s'/\RelV v u/\Q v H'
def TP (X:Cx) (pins:List (Addr×Obj)) (σ:St) (Q:Bool->Hp->Prop) (b:Bool) (s':Shared):Prop:=∃ H',Inv X pins σ H' s'/\Q b H'
def AP (X:Cx) (pins:List (Addr×Obj)) (σ:St) (Q:List V->Hp->Prop) (us:List Value) (s':Shared):Prop:=∃ vs H',Inv X pins σ H' s'/\Vals vs us/\Q vs H'
def SP (X:Cx) (pins:List (Addr×Obj)) (D:Ends) (f:Flow) (s':Shared):Prop:=
 match f with
 | .next=>∃ σ' H',Inv X pins σ' H' s'/\D.nx σ' H'
 | .brk=>∃ σ' H',Inv X pins σ' H' s'/\D.bk σ' H'
 | .cont=>∃ σ' H',Inv X pins σ' H' s'/\D.ct σ' H'
 | .ret u=>∃ v σ' H',Inv X pins σ' H' s'/\RelV v u/\D.rt v H'
def PE (X:Cx) (e:Expr) (t:TE):Prop:=
 ∀ (pins:List (Addr×Obj)) (s:Shared) (σ:St) (H:Hp) (Q:VK),Inv X pins σ H s->t σ H Q->wpAny (model X.prog X.w) X.A (eval e X.env) (EP X pins σ Q) X.xe s
def PT (X:Cx) (e:Expr) (t:TT):Prop:=
 ∀ (pins:List (Addr×Obj)) (s:Shared) (σ:St) (H:Hp) (Q:Bool->Hp->Prop),Inv X pins σ H s->t σ H Q->wpAny (model X.prog X.w) X.A (isTrue e X.env (eval e X.env)) (TP X pins σ Q) X.xe s
def PW (X:Cx) (e:Expr) (t:TT):Prop:=
 ∀ (whole:Sem Value) (pins:List (Addr×Obj)) (s:Shared) (σ:St) (H:Hp) (Q:Bool->Hp->Prop),Inv X pins σ H s->t σ H Q->wpAny (model X.prog X.w) X.A (isTrue e X.env whole) (TP X pins σ Q) X.xe s
theorem PW.pt {X:Cx} {e:Expr} {t:TT} (h:PW X e t):PT X e t:=h _
def PA (X:Cx) (es:List Expr) (t:TA):Prop:=
 ∀ (pos:Pos) (pins:List (Addr×Obj)) (s:Shared) (σ:St) (H:Hp) (Q:List V->Hp->Prop),Inv X pins σ H s->t σ H Q->wpAny (model X.prog X.w) X.A (spliced (backTo pos (starEach es X.env))) (AP X pins σ Q) X.xe s
def PS (X:Cx) (st:Stmt) (t:TS):Prop:=
 ∀ (pins:List (Addr×Obj)) (s:Shared) (σ:St) (H:Hp) (D:Ends),Inv X pins σ H s->t D σ H->wpAny (model X.prog X.w) X.A (exec st X.env) (SP X pins D) X.xe s
def PSs (X:Cx) (st:List Stmt) (t:TS):Prop:=
 ∀ (pins:List (Addr×Obj)) (s:Shared) (σ:St) (H:Hp) (D:Ends),Inv X pins σ H s->t D σ H->wpAny (model X.prog X.w) X.A (execs st X.env) (SP X pins D) X.xe s
theorem cx {α:Type} {t:Sem α} {Q Q':α -> Shared->Prop} {M:Model} {A:Around} {E:Value->Shared->Prop} {s:Shared} (h:wpAny M A t Q E s) (hQ:∀ a s,Q a s->Q' a s):wpAny M A t Q' E s:=wpAny_mono h hQ fun _ _ x=>x
end L2
namespace L2
open PySem PySem.Spec PyProof.Rows
section
variable {X:Cx}
def LY (i:Nat):TE:=fun σ H Q=>∃ v,σ[i]? = some (some v)/\Q v H
def tC (v:V):TE:=fun _ H Q=>Q v H
theorem lH {i:Nat} {x:Str} {pos:Pos} (hN:X.N[i]? = some x) (hv:Gr X.env.scope x) (hd:(x==("__debug__":Str))=false:=by decide) (hcd:(x==("__classdict__":Str))=false:=by decide):PE X (.Name x pos) (LY i):=by
 intro pins s σ H Q I h
 obtain ⟨v,e,h⟩:=h
 obtain ⟨m,hn,hl⟩:=I.loc
 obtain ⟨u,r,l⟩:=hl i x v hN e hv
 have fin:EP X pins σ Q u s:=⟨v,H,I,r,h⟩
 rcases l with ⟨hk,hm⟩ | ⟨hk,c,hc,hcell⟩
 ·exact wpAny_Name (wpAny_loadName_local I.ok.kind hk hn hm fin) hd
 ·rcases hk with hk | hk
  ·exact wpAny_Name (wpAny_loadName_cell I.ok.kind hk hc hcell fin) hd
  ·exact wpAny_Name (wpAny_loadName_free I.ok.kind hk hc hcell fin hcd) hd
theorem G5 {i j pos}:PE X (.Constant (.int i) j pos) (tC (.int i)):=fun _ _ _ H _ I h=>wpAny_Constant_int ⟨.int i,H,I.tok _,⟨_,rfl⟩,h⟩
theorem JW {b j pos}:PE X (.Constant (.bool b) j pos) (tC (.bl b)):=fun _ _ _ H _ I h=>Constant_bool ⟨.bl b,H,I,rfl,h⟩
theorem G4 {j pos}:PE X (.Constant .none j pos) (tC .non):=fun _ _ _ H _ I h=>Constant_none ⟨.non,H,I,rfl,h⟩
theorem G2 {x j pos}:PE X (.Constant (.str x) j pos) (tC (.str x)):=fun _ _ _ H _ I h=>Calls.Constant_str ⟨.str x,H,I.tok _,⟨_,rfl⟩,h⟩
def Gl (X:Cx) (x:Str):Prop:=X.env.kindOf x=some .globalImplicit
theorem xL {E:Value->Shared->Prop} {pins:List (Addr×Obj)} {s:Shared} {σ:St} {H:Hp} {x:Str} {u:Value} {pos:Pos} {Q:Value->Shared->Prop} (I:Inv X pins σ H s) (hg:Gl X x) (hm:X.mg x=some u) (h:Q u s)
  (hd:(x==("__debug__":Str))=false:=by decide):wpAny (model X.prog X.w) X.A (eval (.Name x pos) X.env) Q E s:=
 Calls.Name_function_global I.ok.kind hg (Calls.loadGlobal_global (by rw [I.ok.glob]; exact I.mod.glob.keeps I.bk) hm h) hd
theorem jG {E:Value->Shared->Prop} {pins:List (Addr×Obj)} {s:Shared} {σ:St} {H:Hp} {x:Str} {u:Value} {pos:Pos} {Q:Value->Shared->Prop} (I:Inv X pins σ H s) (hg:Gl X x) (hm:X.mg x=none) (hv:bootBuiltins x=some u) (h:Q u s)
  (hn:x ≠ "__name__":=by decide) (hd:(x==("__debug__":Str))=false:=by decide):wpAny (model X.prog X.w) X.A (eval (.Name x pos) X.env) Q E s:=by
 obtain ⟨mb,h1,h2⟩:=I.mod.blt
 exact Calls.Name_function_global I.ok.kind hg (Calls.loadGlobal_builtin (by rw [I.ok.glob]; exact I.mod.glob.keeps I.bk) hm (by rw [I.ok.blt]; exact h1.keeps I.bk) ((h2 x hn).trans hv) h) hd
theorem xt {x:Str} {v:V} {u:Value} {pos:Pos} (hg:Gl X x) (hm:X.mg x=some u) (r:RelV v u) (hd:(x==("__debug__":Str))=false:=by decide):PE X (.Name x pos) (tC v):=
 fun _ _ _ H _ I h=>xL I hg hm ⟨v,H,I,r,h⟩ hd
variable {a b:Expr} {ta tb:TE} {pos:Pos}
def tB (t:TE):TT:=fun σ H Q=>t σ H fun x H1=>∃ c,x=.bl c/\Q c H1
theorem GW {e:Expr} {t:TE} (h:PE X e t) (he:∀ whole,isTrue e X.env whole=(do let v <- whole; standAt e.pos; holding [v] (truthy v)):=by intro _; rfl):PT X e (tB t):=by
 intro pins s σ H Q I hw
 refine isTrue_plain (cx (h pins s σ H _ I hw) fun v s1 ⟨x,H1,I1,r1,q1⟩=>?_) (he _)
 obtain ⟨d,rfl,q⟩:=q1
 cases r1
 exact wpAny_truthy_bool ⟨H1,I1,q⟩
variable {tA tB':TT} {rest:List Expr}
def Me (t u:TT):TT:=fun σ H Q=>t σ H fun c H1=>if c=true then u σ H1 Q else Q false H1
def Oq (t u:TT):TT:=fun σ H Q=>t σ H fun c H1=>if c=true then Q true H1 else u σ H1 Q
def L7 (t:TT):TT:=fun σ H Q=>t σ H fun c H1=>Q (!c) H1
theorem DB (ha:PT X a tA):PW X (.BoolOp .And [a] pos) tA:=by
 intro wh pins s σ H Q I h
 refine isTrue_and (cx (ha pins s σ H Q I h) fun c s1 e=>?_)
 cases c with
 | true=>exact isTrue_and_nil e
 | false=>exact e
theorem GR (ha:PT X a tA):PW X (.BoolOp .Or [a] pos) tA:=by
 intro wh pins s σ H Q I h
 refine isTrue_or (cx (ha pins s σ H Q I h) fun c s1 e=>?_)
 cases c with
 | false=>exact isTrue_or_nil e
 | true=>exact e
theorem GT (ha:PT X a tA) (hb:PW X (.BoolOp .And (b::rest) pos) tB'):PW X (.BoolOp .And (a::b::rest) pos) (Me tA tB'):=by
 intro wh pins s σ H Q I h
 refine isTrue_and (cx (ha pins s σ H _ I h) fun c s1 ⟨H1,I1,q1⟩=>?_)
 cases c with
 | true=>exact hb wh pins s1 σ H1 Q I1 q1
 | false=>exact ⟨H1,I1,q1⟩
theorem JN (ha:PT X a tA) (hb:PW X (.BoolOp .Or (b::rest) pos) tB'):PW X (.BoolOp .Or (a::b::rest) pos) (Oq tA tB'):=by
 intro wh pins s σ H Q I h
 refine isTrue_or (cx (ha pins s σ H _ I h) fun c s1 ⟨H1,I1,q1⟩=>?_)
 cases c with
 | true=>exact ⟨H1,I1,q1⟩
 | false=>exact hb wh pins s1 σ H1 Q I1 q1
theorem GX (ha:PT X a tA):PT X (.UnaryOp .Not a pos) (L7 tA):=by
 intro pins s σ H Q I h
 exact isTrue_not (ha pins s σ H (fun c H1=>Q (!c) H1) I h)
def Ju (ta tb:TE):TE:=fun σ H Q=>ta σ H fun x H1=>∃ c,x=.bl c/\if c=true then tb σ H1 Q else Q (.bl false) H1
def L6 (ta tb:TE):TE:=fun σ H Q=>ta σ H fun x H1=>∃ c,x=.bl c/\if c=true then Q (.bl true) H1 else tb σ H1 Q
theorem G3 {op} {t:TE} (h:PE X a t):PE X (.BoolOp op [a] pos) t:=fun pins s σ H Q I hw=>BoolOp_one (h pins s σ H Q I hw)
theorem G7 (ha:PE X a ta) (hb:PE X (.BoolOp .And (b::rest) pos) tb):PE X (.BoolOp .And (a::b::rest) pos) (Ju ta tb):=by
 intro pins s σ H Q I h
 refine BoolOp_and (cx (ha pins s σ H _ I h) fun v s1 ⟨x,H1,I1,r1,q1⟩=>?_)
 obtain ⟨c,rfl,q1⟩:=q1
 cases r1
 refine wpAny_truthy_bool ?_
 cases c with
 | true=>exact hb pins s1 σ H1 Q I1 q1
 | false=>exact ⟨.bl false,H1,I1,rfl,q1⟩
theorem JU (ha:PE X a ta) (hb:PE X (.BoolOp .Or (b::rest) pos) tb):PE X (.BoolOp .Or (a::b::rest) pos) (L6 ta tb):=by
 intro pins s σ H Q I h
 refine BoolOp_or (cx (ha pins s σ H _ I h) fun v s1 ⟨x,H1,I1,r1,q1⟩=>?_)
 obtain ⟨c,rfl,q1⟩:=q1
 cases r1
 refine wpAny_truthy_bool ?_
 cases c with
 | false=>exact hb pins s1 σ H1 Q I1 q1
 | true=>exact ⟨.bl true,H1,I1,rfl,q1⟩
def Os (t:TT) (ta tb:TE):TE:=fun σ H Q=>t σ H fun c H1=>if c=true then ta σ H1 Q else tb σ H1 Q
theorem AM {c:Expr} (hc:PT X c tA) (ha:PE X a ta) (hb:PE X b tb):PE X (.IfExp c a b pos) (Os tA ta tb):=by
 intro pins s σ H Q I h
 refine wpAny_IfExp (cx (hc pins s σ H _ I h) fun d s1 ⟨H1,I1,q1⟩=>?_)
 cases d with
 | true=>exact ha pins s1 σ H1 Q I1 q1
 | false=>exact hb pins s1 σ H1 Q I1 q1
end
end L2
namespace L2
open PySem PySem.Spec PyProof.Rows
def SqL (K:PySem.W.Frag) (H:Hp) (a:Addr) (xs:List V):Prop:=
 Rd H a (.lst xs) \/
  ∃ (o:Obj) (its:Array Value) (n:Nat),K.lookup a=some o/\o.cls=.type "list" /\ o.dict=none/\o.data=.seq its n/\its.size<=sizeLine/\Vals xs its.toList
def SqT (K:PySem.W.Frag) (H:Hp) (a:Addr) (xs:List V):Prop:=
 Rd H a (.tup xs) \/
  ∃ (o:Obj) (its:Array Value) (n:Nat),K.lookup a=some o/\o.cls=.type "tuple" /\ o.data=.seq its n/\its.size<=sizeLine/\Vals xs its.toList/\o.dict=none
noncomputable def Nl:Value->Option V
 | .none=>some .non
 | .bool b=>some (.bl b)
 | .int i _=>some (.int i)
 | .str x _=>some (.str x)
 | .bytes b _=>some (.byt b)
 | .float b _=>some (.flt b)
 | .ref a=>some (.ref a)
 | .type n=>some (.ty n)
 | _=>none
theorem RelV.abs {x:V} {u:Value} (r:RelV x u):Nl u=some x:=by
 cases x with
 | non=>cases r; rfl
 | bl _=>cases r; rfl
 | int _=>obtain ⟨t,rfl⟩:=r; rfl
 | str _=>obtain ⟨t,rfl⟩:=r; rfl
 | byt _=>obtain ⟨t,rfl⟩:=r; rfl
 | flt _=>obtain ⟨t,rfl⟩:=r; rfl
 | ref _=>cases r; rfl
 | ty _=>cases r; rfl
theorem RelV.inj {x y:V} {u:Value} (r:RelV x u) (q:RelV y u):x=y:=Option.some.inj (r.abs.symm.trans q.abs)
theorem Vals.inj:∀ {xs ys:List V} {us:List Value},Vals xs us->Vals ys us->xs=ys
 | _,_,_,.nil,.nil=>rfl
 | _,_,_,.cons r t,.cons r' t'=>by rw [r.inj r',Vals.inj t t']
section
variable {X:Cx} {pins:List (Addr×Obj)} {σ:St} {H:Hp} {s:Shared} {a:Addr} {xs ys:List V}
theorem SqL.of {K:PySem.W.Frag} (h:H a=some (.lst xs)):SqL K H a xs:=.inl (.inl h)
theorem SqT.of {K:PySem.W.Frag} (h:H a=some (.tup xs)):SqT K H a xs:=.inl (.inl h)
theorem Inv.list (I:Inv X pins σ H s) (h:SqL X.K H a xs):∃ its:List Value,Vals xs its/\PlainL s.heap a its.toArray/\xs.length<=sizeLine:=by
 rcases h with h | ⟨o,its,n,hk,hc,hd,hs,hz,r⟩
 ·obtain ⟨z,its,n,r,e⟩:=h.ok I.hok
  exact ⟨its,r,⟨_,n,e,rfl,rfl,rfl⟩,z⟩
 ·refine ⟨its.toList,r,⟨o,n,I.kIn a o hk,hc,hd,by simpa using hs⟩,?_⟩
  have e:=r.length
  simp only [Array.length_toList] at e
  omega
theorem Inv.tuple (I:Inv X pins σ H s) (h:SqT X.K H a xs):∃ its:List Value,Vals xs its/\IsTup s.heap a its.toArray/\xs.length<=sizeLine:=by
 rcases h with h | ⟨o,its,n,hk,hc,hs,hz,r,hd⟩
 ·obtain ⟨z,its,r,p⟩:=h.ok I.hok
  exact ⟨its,r,p.1,z⟩
 ·refine ⟨its.toList,r,⟨o,I.kIn a o hk,hc,n,by simpa using hs⟩,?_⟩
  have e:=r.length
  simp only [Array.length_toList] at e
  omega
theorem Inv.list_inj (I:Inv X pins σ H s) (h:SqL X.K H a xs) (h':SqL X.K H a ys):xs=ys:=by
 obtain ⟨its,r,⟨o,n,e,_,_,d⟩,_⟩:=I.list h
 obtain ⟨its',r',⟨o',n',e',_,_,d'⟩,_⟩:=I.list h'
 rw [e] at e'; cases e'
 rw [d] at d'
 injection d' with d1 _
 have:its=its':=by simpa using congrArg Array.toList d1
 subst this
 exact r.inj r'
theorem Inv.tuple_inj (I:Inv X pins σ H s) (h:SqT X.K H a xs) (h':SqT X.K H a ys):xs=ys:=by
 obtain ⟨its,r,⟨o,e,_,n,d⟩,_⟩:=I.tuple h
 obtain ⟨its',r',⟨o',e',_,n',d'⟩,_⟩:=I.tuple h'
 rw [e] at e'; cases e'
 rw [d] at d'
 injection d' with d1 _
 have:its=its':=by simpa using congrArg Array.toList d1
 subst this
 exact r.inj r'
end
abbrev Cx.wish (X:Cx) (E:Value->Shared->Prop):Cx:={ X with xe:=E }
abbrev Cx.nox (X:Cx):Cx:=X.wish fun _ _=>False
theorem Cx.Ok.wish {X:Cx} (ok:X.Ok) (E:Value->Shared->Prop):(X.wish E).Ok:=
 ⟨ok.mod,ok.kind,ok.glob,ok.blt,ok.above,ok.inj,ok.has,ok.cab,ok.hd,ok.frames,ok.stk,ok.exf,ok.bs,ok.bsz,ok.noex,ok.exfs,ok.funs,ok.frf⟩
theorem Cx.Ok.unwish {X:Cx} {E:Value->Shared->Prop} (ok:(X.wish E).Ok):X.Ok:=
 ⟨ok.mod,ok.kind,ok.glob,ok.blt,ok.above,ok.inj,ok.has,ok.cab,ok.hd,ok.frames,ok.stk,ok.exf,ok.bs,ok.bsz,ok.noex,ok.exfs,ok.funs,ok.frf⟩
section
variable {X:Cx} {pins:List (Addr×Obj)} {σ:St} {H:Hp} {s:Shared} {E:Value->Shared->Prop}
theorem Inv.wish (I:Inv X pins σ H s) (E:Value->Shared->Prop):Inv (X.wish E) pins σ H s:=⟨I.ok.wish E,I.os,I.bare,I.base,I.loc,I.cell,I.free,I.freeC,I.pin,I.hok,I.len⟩
theorem Inv.unwish (I:Inv (X.wish E) pins σ H s):Inv X pins σ H s:=⟨I.ok.unwish,I.os,I.bare,I.base,I.loc,I.cell,I.free,I.freeC,I.pin,I.hok,I.len⟩
theorem SP.unwish {D:Ends} {f:Flow} {s':Shared} (h:SP (X.wish E) pins D f s'):SP X pins D f s':=by
 cases f with
 | next=>obtain ⟨σ',H',I,q⟩:=h; exact ⟨σ',H',I.unwish,q⟩
 | brk=>obtain ⟨σ',H',I,q⟩:=h; exact ⟨σ',H',I.unwish,q⟩
 | cont=>obtain ⟨σ',H',I,q⟩:=h; exact ⟨σ',H',I.unwish,q⟩
 | ret u=>obtain ⟨v,σ',H',I,r,q⟩:=h; exact ⟨v,σ',H',I.unwish,r,q⟩
theorem PSs.nox {st:List Stmt} {t:TS} (h:PSs X.nox st t):PSs X st t:=fun pins s σ H D I hw=>
 wpAny_mono (h pins s σ H D (I.wish _) hw) (fun _ _ q=>q.unwish) fun _ _ z=>False.elim z
end
section
variable {X:Cx} {st:Stmt} {rest:List Stmt} {t u:TS} {e:Expr} {te:TE} {pos:Pos}
def Jo:TS:=fun D σ H=>D.nx σ H
def L4 (t u:TS):TS:=fun D σ H=>t { D with nx:=u D } σ H
theorem DF:PSs X [] Jo:=fun _ _ σ H _ I h=>wpAny_execs_nil ⟨σ,H,I,h⟩
theorem AB (h1:PS X st t) (h2:PSs X rest u):PSs X (st::rest) (L4 t u):=by
 intro pins s σ H D I h
 refine wpAny_execs_cons (cx (h1 pins s σ H { D with nx:=u D } I h) fun f s1 q=>?_)
 cases f with
 | next=>
  obtain ⟨σ',H',I',q⟩:=q
  exact h2 pins s1 σ' H' D I' q
 | ret v=>exact q
 | brk=>exact q
 | cont=>exact q
theorem DD (h1:PS X st t):PSs X [st] t:=by
 intro pins s σ H D I h
 refine wpAny_execs_cons (cx (h1 pins s σ H D I h) fun f s1 q=>?_)
 cases f with
 | next=>exact wpAny_execs_nil q
 | ret v=>exact q
 | brk=>exact q
 | cont=>exact q
theorem Inv.quiet {pins:List (Addr×Obj)} {σ:St} {H:Hp} {s:Shared} (I:Inv X pins σ H s):interactive X.env=false:=by simp [interactive,I.ok.kind]
def Jq (te:TE):TS:=fun D σ H=>te σ H fun _ H1=>D.nx σ H1
theorem xr (he:PE X e te) (hs:swapsWith e none pos.line X.env=pure false:=by rfl):PS X (.Expr e pos) (Jq te):=by
 intro pins s σ H D I h
 exact wpAny_Expr_any (cx (he pins s σ H _ I h) fun v s1 ⟨x,H1,I1,r1,q1⟩=>⟨σ,H1,I1,q1⟩) I.quiet hs
def L5 (te:TE):TS:=fun D σ H=>te σ H D.rt
theorem GY (he:PE X e te):PS X (.Return (some e) pos) (L5 te):=by
 intro pins s σ H D I h
 exact wpAny_Return_some (cx (he pins s σ H _ I h) fun v s1 ⟨x,H1,I1,r1,q1⟩=>⟨x,σ,H1,I1,r1,q1⟩)
def Ma (c:TT) (t u:TS):TS:=fun D σ H=>c σ H fun b H1=>if b=true then t D σ H1 else u D σ H1
theorem JR {c:Expr} {a b:List Stmt} {tc:TT} (hc:PT X c tc) (ha:PSs X a t) (hb:PSs X b u):PS X (.If c a b pos) (Ma tc t u):=by
 intro pins s σ H D I h
 refine wpAny_If (cx (hc pins s σ H _ I h) fun d s1 ⟨H1,I1,q1⟩=>?_)
 cases d with
 | true=>exact ha pins s1 σ H1 D I1 q1
 | false=>exact hb pins s1 σ H1 D I1 q1
end
abbrev TG:=V->St->Hp->(St->Hp->Prop)->Prop
def PG (X:Cx) (target:Expr) (t:TG):Prop:=
 ∀ (pins:List (Addr×Obj)) (s:Shared) (σ:St) (H:Hp) (v:V) (u:Value) (Q:St->Hp->Prop),Inv X pins σ H s->RelV v u->t v σ H Q ->
  wpAny (model X.prog X.w) X.A (assign target X.env u) (fun _ s'=>∃ σ' H',Inv X pins σ' H' s'/\Q σ' H') X.xe s
section
variable {X:Cx} {pos:Pos}
def BP (i:Nat):TG:=fun v σ H Q=>Q (σ.set i (some v)) H
theorem cf {i:Nat} {x:Str} (hN:X.N.Nodup) (hi:X.N[i]? = some x) (hx:Cw X.env.scope x) (hf:X.fn x=true\/X.env.scope.names.lookup x=some .local:=by first | exact .inl rfl | exact .inr rfl | assumption):PG X (.Name x pos) (BP i):=by
 intro pins s σ H v u Q I r h
 exact wpAny_assign_Name (tm I hN hi hx r (fun s' I'=>⟨_,H,I',h⟩) hf)
def Md (te:TE) (g:TG):TS:=fun D σ H=>te σ H fun x H1=>g x σ H1 D.nx
theorem AD {i:Nat} {x:Str} {e:Expr} {te:TE} {pos':Pos} (hN:X.N.Nodup) (hi:X.N[i]? = some x) (hx:Cw X.env.scope x) (he:PE X e te) (hs:swapsWith e (some (.Name x pos')) pos.line X.env=pure false:=by rfl) (hf:X.fn x=true\/X.env.scope.names.lookup x=some .local:=by first | exact .inl rfl | exact .inr rfl | assumption) :
  PS X (.Assign [.Name x pos'] e pos) (Md te (BP i)):=by
 intro pins s σ H D I h
 refine wpAny_Assign_Name (cx (he pins s σ H _ I h) fun v s1 ⟨y,H1,I1,r1,q1⟩=>?_) hs
 exact tm I1 hN hi hx r1 (fun s2 I2=>⟨_,H1,I2,q1⟩) hf
end
section
variable {X:Cx} {pos:Pos}
def GF (c:TT) (tb:TS):TS:=fun D σ H=>∃ W:Nat->St->Hp->Prop,(∃ m,W m σ H)/\∀ m σ H,W m σ H ->
 c σ H fun b H1=>if b=true then ∃ N:St->Hp->Prop,(∀ σ' H',N σ' H'->∃ m',m'<m/\W m' σ' H')/\tb { D with nx:=N,ct:=N,bk:=D.nx } σ H1 else D.nx σ H1
theorem AC {c:Expr} {body:List Stmt} {tc:TT} {tb:TS} (hp:PassesOwn (model X.prog X.w) X.A X.env X.xe) (hc:PT X c tc) (hb:PSs X body tb):PS X (.While c body [] pos) (GF tc tb):=by
 intro pins s σ H D I h
 obtain ⟨W,⟨m0,w0⟩,turn⟩:=h
 refine wpAny_While (codeAny_whileLoop (fun n s'=>∃ σ' H',Inv X pins σ' H' s'/\W n σ' H') ?_ m0 ⟨σ,H,I,w0⟩)
 rintro n s1 ⟨σ1,H1,I1,w1⟩
 refine wpAny_passesOwn hp (cx (hc pins s1 σ1 H1 _ I1 (turn n σ1 H1 w1)) fun b s2 ⟨H2,I2,q2⟩=>?_)
 cases b with
 | true=>
  obtain ⟨N,hN,q2⟩:=q2
  rw [if_pos rfl]
  refine wpAny_passesOwn hp (cx (hb pins s2 σ1 H2 _ I2 q2) fun f s3 q3=>?_)
  cases f with
  | next=>
   obtain ⟨σ3,H3,I3,n3⟩:=q3
   obtain ⟨m',hm,w3⟩:=hN σ3 H3 n3
   exact ⟨m',hm,σ3,H3,I3,w3⟩
  | cont=>
   obtain ⟨σ3,H3,I3,n3⟩:=q3
   obtain ⟨m',hm,w3⟩:=hN σ3 H3 n3
   exact ⟨m',hm,σ3,H3,I3,w3⟩
  | brk=>exact q3
  | ret v=>exact q3
 | false=>
  rw [if_neg Bool.false_ne_true]
  exact wpAny_execs_nil ⟨σ1,H2,I2,q2⟩
end
structure It where
 go:Nat->Hp->Prop
 yld:Nat->Hp->V->Hp->Prop
 stop:Nat->Hp->Prop
def jO (X:Cx) (pins:List (Addr×Obj)) (H:Hp) (b:Addr):Prop:=
 H b=none/\b≠X.env.locals/\b ∉ X.fs/\(b∈X.ex\/X.s₀.heap.objs.size<=b)/\(∀ x c,X.env.cells.lookup x=some c->c≠b)/\∀ p∈X.pn++pins,p.1≠b
theorem Inv.fpOk {X:Cx} {pins:List (Addr×Obj)} {σ:St} {H H':Hp} {s:Shared} {b:Addr} (I:Inv X pins σ H s) (hb:s.heap.objs.size<=b) (hn:H' b=none):jO X pins H' b:=by
 refine ⟨hn,Nat.ne_of_gt (Nat.lt_of_lt_of_le I.lt hb),I.nofs hb,.inr (Nat.le_trans I.sz hb),fun x c e z=>?_,fun p hp z=>?_⟩
 ·obtain ⟨v,q⟩:=I.cell x c e
  exact absurd (Nat.lt_of_lt_of_le q.lt (by rw [z]; exact hb)) (Nat.lt_irrefl _)
 ·exact absurd (Nat.lt_of_lt_of_le (Heap.lt_size (I.pin p hp).1) (by rw [z]; exact hb)) (Nat.lt_irrefl _)
structure TurnG (Cm:Cx->Prop) (P:Program) (w:World) (K:PySem.W.Frag) (tg:Expr) (J:It) (fp:List Addr) (it:Addr) (tn:Nat->Heap->Prop):Prop where
 mem:it∈fp
 obj:∀ i h,tn i h->∀ b∈fp,∃ o,h.get? b=some o/\∀ v,o.data≠.cell v
 keep:∀ i h h',tn i h->(∀ b∈fp,∀ o,h.get? b=some o->h'.get? b=some o)->tn i h'
 item:∀ (X:Cx),X.prog=P->X.w=w->X.K=K->Cm X->∀ (i:Nat) (pins:List (Addr×Obj)) (s:Shared) (σ:St) (H:Hp) (E:Value->Shared->Prop),Inv X pins σ H s->(∀ b∈fp,jO X pins H b)->tn i s.heap->J.go i H ->
  wpAny (model P w) X.A (pyNext (.ref it)) (fun r s1=>∃ u,r=some u /\
   wpAny (model P w) X.A (letOwnedTupleGo tg (.ref it) u) (fun _ s2=>∃ x H',Inv X pins σ H' s2/\RelV x u/\J.yld i H x H'/\tn (i+1) s2.heap/\∀ b∈fp,H' b=none) E s1) E s
 done:∀ (X:Cx),X.prog=P->X.w=w->X.K=K->Cm X->∀ (i:Nat) (pins:List (Addr×Obj)) (s:Shared) (σ:St) (H:Hp) (E:Value->Shared->Prop),Inv X pins σ H s->(∀ b∈fp,jO X pins H b)->tn i s.heap->J.stop i H ->
  wpAny (model P w) X.A (pyNext (.ref it)) (fun r s1=>r=none/\Inv X pins σ H s1) E s
 self:∀ (A:Around) (i:Nat) (s:Shared) (Q:Value->Shared->Prop) (E:Value->Shared->Prop),tn i s.heap->Q (.ref it) s->wpAny (model P w) A (pyIter (.ref it)) Q E s
abbrev Ct (P:Program) (w:World) (K:PySem.W.Frag) (tg:Expr) (J:It) (fp:List Addr) (it:Addr) (tn:Nat->Heap->Prop):Prop:=TurnG (fun X=>X.calm=true) P w K tg J fp it tn
abbrev TI:=St->Hp->(It->Hp->Prop)->Prop
def N3 (X:Cx) (pins:List (Addr×Obj)) (σ:St) (tg:Expr) (R:It->Hp->Prop) (itv:Value) (s2:Shared):Prop:=
 ∃ (it:Addr) (fp:List Addr) (tn:Nat->Heap->Prop) (J:It) (H':Hp),itv=.ref it/\Inv X pins σ H' s2/\Ct X.prog X.w X.K tg J fp it tn/\tn 0 s2.heap/\(∀ b∈fp,jO X pins H' b)/\R J H'
def PI (X:Cx) (tg iter:Expr) (wi:TI):Prop:=
 ∀ (pins:List (Addr×Obj)) (s:Shared) (σ:St) (H:Hp) (R:It->Hp->Prop),Inv X pins σ H s->wi σ H R ->
  wpAny (model X.prog X.w) X.A (eval iter X.env) (fun v s1=>wpAny (model X.prog X.w) X.A (pyIter v) (N3 X pins σ tg R) X.xe s1) X.xe s
theorem BO {M:Model} {A:Around} {E:Value->Shared->Prop} {s:Shared} {tg:Expr} {it:Addr} {u:Value} {o:Obj} {n:String} {vs:Array Value} {Q:Unit->Shared->Prop} (ho:s.heap.get? it=some o) (hc:o.cls=.type n) (hd:o.data=.fields vs)
  (hn:["enumerate","zip","dict_itemiterator","dict_reverseitemiterator","odict_iterator","itertools.zip_longest","itertools.pairwise"].contains n=false) (hQ:Q () s):wpAny M A (letOwnedTupleGo tg (.ref it) u) Q E s:=by
 unfold letOwnedTupleGo
 cases tg <;> first
  | exact wpAny_pure hQ
  | (cases u <;> first
    | exact wpAny_pure hQ
    | (refine wpAny_bind (wpAny_load ho ?_)
       rw [hc,hd]
       show wpAny M A (if (["enumerate","zip","dict_itemiterator","dict_reverseitemiterator","odict_iterator","itertools.zip_longest","itertools.pairwise"].contains n&&vs[0]? == some (rawInt _))=true then _ else _) Q E s
       rw [if_neg (by intro h; rw [hn,Bool.false_and] at h; cases h)]
       exact wpAny_pure hQ))
noncomputable def N6 (K:PySem.W.Frag) (a:Addr):It:=
 ⟨fun i H=>∃ xs x,SqL K H a xs/\xs[i]? = some x,fun i H x H'=>H'=H/\∀ xs,SqL K H a xs->xs[i]? = some x,fun i H=>∃ xs,SqL K H a xs/\xs.length<=i⟩
noncomputable def N5 (K:PySem.W.Frag) (a:Addr):It:=
 ⟨fun i H=>∃ xs x,SqT K H a xs/\xs[i]? = some x,fun i H x H'=>H'=H/\∀ xs,SqT K H a xs->xs[i]? = some x,fun i H=>∃ xs,SqT K H a xs/\xs.length<=i⟩
noncomputable def IH (lo:Int) (n:Nat):It:=⟨fun i _=>i<n,fun i H x H'=>H'=H/\x=.int (lo+i),fun i _=>n<=i⟩
theorem yo {P:Program} {w:World} {K:PySem.W.Frag} {tg:Expr} (a it:Addr):Ct P w K tg (N6 K a) [it] it (fun i h=>h.IsListIter it a i) where
 mem:=by simp
 obj:=fun i h st b hb=>by
  have e:b=it:=by simpa using hb
  subst e
  obtain ⟨o,e,c,d⟩:=st
  exact ⟨o,e,fun v z=>by rw [d] at z; cases z⟩
 keep:=fun i h h' st k=>st.at fun o e=>k it (by simp) o e
 item:=by
  intro X hP hw hK hc i pins s σ H E I hf st hg
  subst hP hw hK
  obtain ⟨xs,x,hq,hx⟩:=hg
  obtain ⟨its,rv,p,hz⟩:=I.list hq
  obtain ⟨u,hu,ru⟩:=rv.get hx
  obtain ⟨f0,f1,f2,f3,f4,f5⟩:=hf it (by simp)
  refine wpAny_pyNext_list_item st p.isList (x:=u) (by simpa using hu) fun h' st' sb=>?_
  have I1:Inv X pins σ H { s with heap:=h' }:=I.turned (t':=s.toks) (fun b o hb e=>(sb.2 b hb).trans e) f0 f1 f3 f4 f5
  obtain ⟨o,e,c,d⟩:=id st'
  exact ⟨u,rfl,BO (s:={ s with heap:=h' }) e c d (by decide) ⟨x,H,I1,ru,⟨rfl,fun ys hy=>by rw [I.list_inj hy hq]; exact hx⟩,st',fun b hb=>(hf b hb).1⟩⟩
 done:=by
  intro X hP hw hK hc i pins s σ H E I hf st hg
  subst hP hw hK
  obtain ⟨xs,hq,hx⟩:=hg
  obtain ⟨its,rv,p,hz⟩:=I.list hq
  obtain ⟨f0,f1,f2,f3,f4,f5⟩:=hf it (by simp)
  have hl:=rv.length
  exact wpAny_pyNext_list_end (I.ok.hd hc) st p.isList (by simp; omega) fun h' eb=>⟨rfl,I.turned (t':=s.toks) (fun b o hb e=>eb b o hb e) f0 f1 f3 f4 f5⟩
 self:=fun _ _ _ _ _ st h=>wpAny_pyIter_listiter st h
theorem vv {P:Program} {w:World} {K:PySem.W.Frag} {tg:Expr} (a it:Addr):Ct P w K tg (N5 K a) [it] it (fun i h=>h.IsTupleIter it a i) where
 mem:=by simp
 obj:=fun i h st b hb=>by
  have e:b=it:=by simpa using hb
  subst e
  obtain ⟨o,e,c,d⟩:=st
  exact ⟨o,e,fun v z=>by rw [d] at z; cases z⟩
 keep:=fun i h h' st k=>st.at fun o e=>k it (by simp) o e
 item:=by
  intro X hP hw hK hc i pins s σ H E I hf st hg
  subst hP hw hK
  obtain ⟨xs,x,hq,hx⟩:=hg
  obtain ⟨its,rv,p,hz⟩:=I.tuple hq
  obtain ⟨u,hu,ru⟩:=rv.get hx
  obtain ⟨f0,f1,f2,f3,f4,f5⟩:=hf it (by simp)
  refine wpAny_pyNext_tuple_item st (show s.heap.IsTuple a its.toArray from p) (x:=u) (by simpa using hu) fun h' st' sb=>?_
  have I1:Inv X pins σ H { s with heap:=h' }:=I.turned (t':=s.toks) (fun b o hb e=>(sb.2 b hb).trans e) f0 f1 f3 f4 f5
  obtain ⟨o,e,c,d⟩:=id st'
  exact ⟨u,rfl,BO (s:={ s with heap:=h' }) e c d (by decide) ⟨x,H,I1,ru,⟨rfl,fun ys hy=>by rw [I.tuple_inj hy hq]; exact hx⟩,st',fun b hb=>(hf b hb).1⟩⟩
 done:=by
  intro X hP hw hK hc i pins s σ H E I hf st hg
  subst hP hw hK
  obtain ⟨xs,hq,hx⟩:=hg
  obtain ⟨its,rv,p,hz⟩:=I.tuple hq
  obtain ⟨f0,f1,f2,f3,f4,f5⟩:=hf it (by simp)
  have hl:=rv.length
  exact wpAny_pyNext_tuple_end (I.ok.hd hc) st (show s.heap.IsTuple a its.toArray from p) (by simp; omega) fun h' eb=>⟨rfl,I.turned (t':=s.toks) (fun b o hb e=>eb b o hb e) f0 f1 f3 f4 f5⟩
 self:=fun _ _ _ _ _ st h=>wpAny_pyIter_tupleiter st h
theorem vw {P:Program} {w:World} {K:PySem.W.Frag} {tg:Expr} (it:Addr) (lo:Int) (n:Nat):Ct P w K tg (IH lo n) [it] it (fun i h=>IsRangeIter h it (lo+(i:Nat)*1) ((n:Int)-(i:Nat)) 1) where
 mem:=by simp
 obj:=fun i h st b hb=>by
  have e:b=it:=by simpa using hb
  subst e
  exact ⟨_,st,fun v z=>by
   have z':Data.fields _=Data.cell v:=z
   cases z'⟩
 keep:=fun i h h' st k=>k it (by simp) _ st
 item:=by
  intro X hP hw hK hc i pins s σ H E I hf st hg
  subst hP hw hK
  obtain ⟨f0,f1,f2,f3,f4,f5⟩:=hf it (by simp)
  have W:=Walks.range (prog:=X.prog) (w:=X.w) (I.ok.hd hc) it lo 1 n
  refine W.item i s _ _ hg st fun v h' tk hv st' kk=>?_
  obtain ⟨t,rfl⟩:=hv
  have I1:Inv X pins σ H { s with heap:=h',toks:=tk }:=I.turned (fun b o hb e=>kk b o (by simpa using hb) e) f0 f1 f3 f4 f5
  refine ⟨_,rfl,BO (s:={ s with heap:=h',toks:=tk }) (n:="range_iterator") st' rfl rfl (by decide) ⟨.int (lo+i),H,I1,⟨t,?_⟩,⟨rfl,rfl⟩,st',fun b hb=>(hf b hb).1⟩⟩
  rw [Int.mul_one]
 done:=by
  intro X hP hw hK hc i pins s σ H E I hf st hg
  subst hP hw hK
  obtain ⟨f0,f1,f2,f3,f4,f5⟩:=hf it (by simp)
  exact wpAny_pyNext_range_end (I.ok.hd hc) st (by have:n<=i:=hg; omega) fun h' eb=>⟨rfl,I.turned (t':=s.toks) (fun b o hb e=>eb b o hb e) f0 f1 f3 f4 f5⟩
 self:=fun _ _ _ _ _ st h=>wpAny_pyIter_rangeiter st h
end L2
namespace L2
open PySem PySem.Spec PyProof.Rows
section
variable {X:Cx} {tg:Expr}
def KN (K:PySem.W.Frag) (tl:TE):TI:=fun σ H R=>tl σ H fun x H1=>∃ a,x=.ref a/\(∃ xs,SqL K H1 a xs)/\R (N6 K a) H1
def MX (K:PySem.W.Frag) (tl:TE):TI:=fun σ H R=>tl σ H fun x H1=>∃ a,x=.ref a/\(∃ xs,SqT K H1 a xs)/\R (N5 K a) H1
theorem DL {l:Expr} {tl:TE} (hl:PE X l tl):PI X tg l (KN X.K tl):=by
 intro pins s σ H R I h
 refine cx (hl pins s σ H _ I h) fun v s1 ⟨x,H1,I1,r1,q1⟩=>?_
 obtain ⟨a,e,⟨xs,hq⟩,q⟩:=q1
 subst e
 cases r1
 obtain ⟨its,rv,p,hz⟩:=I1.list hq
 refine wpAny_pyIter_list p.isList ?_
 refine ⟨s1.heap.objs.size,[s1.heap.objs.size],_,_,H1,rfl,I1.kept (t':=s1.toks) fun b o e=>Heap.get?_push_of_some _ e,yo a _,⟨_,Heap.get?_push_size _ rfl,rfl,rfl⟩,fun b hb=>?_,q⟩
 have e:b=s1.heap.objs.size:=by simpa using hb
 subst e
 exact I1.fpOk (Nat.le_refl _) (I1.hok.fresh (Nat.le_refl _))
theorem G0 {l:Expr} {tl:TE} (hl:PE X l tl):PI X tg l (MX X.K tl):=by
 intro pins s σ H R I h
 refine cx (hl pins s σ H _ I h) fun v s1 ⟨x,H1,I1,r1,q1⟩=>?_
 obtain ⟨a,e,⟨xs,hq⟩,q⟩:=q1
 subst e
 cases r1
 obtain ⟨its,rv,p,hz⟩:=I1.tuple hq
 refine wpAny_pyIter_tuple (show s1.heap.IsTuple a its.toArray from p) ?_
 refine ⟨s1.heap.objs.size,[s1.heap.objs.size],_,_,H1,rfl,I1.kept (t':=s1.toks) fun b o e=>Heap.get?_push_of_some _ e,vv a _,⟨_,Heap.get?_push_size _ rfl,rfl,rfl⟩,fun b hb=>?_,q⟩
 have e:b=s1.heap.objs.size:=by simpa using hb
 subst e
 exact I1.fpOk (Nat.le_refl _) (I1.hok.fresh (Nat.le_refl _))
theorem tS {pins:List (Addr×Obj)} {σ:St} {H:Hp} {s:Shared} {R:It->Hp->Prop} {E:Value->Shared->Prop} {lo hi:Int} {t u v:Tok} {tk:Nat} (I:Inv X pins σ H s) (h1:-(2 ^ 62)<=lo) (h2:lo<2 ^ 62) (h3:-(2 ^ 62)<=hi) (h4:hi<2 ^ 62)
  (q:R (IH lo (hi-lo).toNat) H):wpAny (model X.prog X.w) X.A (pyIter (.ref s.heap.objs.size)) (N3 X pins σ tg R) E { s with heap:=s.heap.push { cls:=.type "range",data:=.fields #[.int lo t,.int hi u,.int 1 v] },toks:=tk }:=by
 refine wpAny_pyIter_range (IsRange.new ..) (small_one h1 h2 h3 h4) ?_
 have I1:Inv X pins σ H { s with heap:=s.heap.push { cls:=.type "range",data:=.fields #[.int lo t,.int hi u,.int 1 v] },toks:=tk }:=I.kept fun b o e=>Heap.get?_push_of_some _ e
 refine ⟨(s.heap.push { cls:=.type "range",data:=.fields #[.int lo t,.int hi u,.int 1 v] }).objs.size,[(s.heap.push { cls:=.type "range",data:=.fields #[.int lo t,.int hi u,.int 1 v] }).objs.size],_,_,H,rfl,
  I1.kept (t':=tk) fun b o e=>Heap.get?_push_of_some _ e,vw _ lo (hi-lo).toNat,?_,fun b hb=>?_,q⟩
 ·have e1:lo+((0:Nat):Int)*1=lo:=by simp
  have e2:(((hi-lo).toNat:Nat):Int)-((0:Nat):Int)=Builtin.Range.rangeSize lo hi 1:=by rw [rangeSize_one]; split <;> omega
  show IsRangeIter _ _ (lo+((0:Nat):Int)*1) ((((hi-lo).toNat:Nat):Int)-((0:Nat):Int)) 1
  rw [e1,e2]
  exact Heap.get?_push_size _ rfl
 ·have e:b=(s.heap.push { cls:=.type "range",data:=.fields #[.int lo t,.int hi u,.int 1 v] }).objs.size:=by simpa using hb
  subst e
  exact I1.fpOk (Nat.le_refl _) (I1.hok.fresh (Nat.le_refl _))
def KM (ta:TA):TI:=fun σ H R=>ta σ H fun vs H1=>∃ j:Int,vs=[.int j] /\ -(2 ^ 62)<=j/\j<2 ^ 62/\R (IH 0 j.toNat) H1
def KL (ta:TA):TI:=fun σ H R=>ta σ H fun vs H1=>∃ i j:Int,vs=[.int i,.int j]/\(-(2 ^ 62)<=i/\i<2 ^ 62 /\ -(2 ^ 62)<=j/\j<2 ^ 62)/\R (IH i (j-i).toNat) H1
theorem yH {a:Expr} {ta:TA} {p pos:Pos} (hg:Gl X "range") (hm:X.mg "range" = none) (ha:PA X [a] ta) (hs:starEach [a] X.env=[(false,eval a X.env)]:=by rfl):PI X tg (.Call (.Name "range" p) [a] [] pos) (KM ta):=by
 intro pins s σ H R I h
 refine Call_ (jG I hg hm boot_range (PyProof.Rows.callWith_type1 (cx (ha pos pins s σ H _ I h) fun us s1 ⟨vs,H1,I1,r1,q1⟩=>?_) hs rfl))
 obtain ⟨j,e,q1,q2,q⟩:=q1
 subst e
 cases r1 with
 | cons r rr=>
  cases rr
  obtain ⟨t,rfl⟩:=r
  exact call_range_1 (tS I1 (by omega) (by omega) q1 q2 (by simpa using q))
theorem yG {a b:Expr} {ta:TA} {p pos:Pos} (hg:Gl X "range") (hm:X.mg "range" = none) (ha:PA X [a,b] ta) (hs:starEach [a,b] X.env=[(false,eval a X.env),(false,eval b X.env)]:=by rfl) (hs2:starEach [b] X.env=[(false,eval b X.env)]:=by rfl) :
  PI X tg (.Call (.Name "range" p) [a,b] [] pos) (KL ta):=by
 intro pins s σ H R I h
 refine Call_ (jG I hg hm boot_range (PyProof.Rows.callWith_type1 (cx (ha pos pins s σ H _ I h) fun us s1 ⟨vs,H1,I1,r1,q1⟩=>?_) (by rw [hs,hs2]) (by rw [hs2]; rfl)))
 obtain ⟨i,j,e,⟨q1,q2,q3,q4⟩,q⟩:=q1
 subst e
 cases r1 with
 | cons r rr=>
  cases rr with
  | cons r' rr=>
   cases rr
   obtain ⟨t,rfl⟩:=r
   obtain ⟨t',rfl⟩:=r'
   exact call_range_2 (tS I1 q1 q2 q3 q4 q)
def Mb (wi:TI) (g:TG) (tb:TS):TS:=fun D σ H=>wi σ H fun J H1=>∃ W:Nat->Nat->St->Hp->Prop,(∃ m,W 0 m σ H1)/\∀ i m σ H,W i m σ H ->
 (J.stop i H/\D.nx σ H)\/(J.go i H/\∃ N:St->Hp->Prop,(∀ σ' H',N σ' H'->∃ m',m'<m/\W (i+1) m' σ' H')/\∀ x H',J.yld i H x H'->g x σ H' fun σ2 H2=>tb { D with nx:=N,ct:=N,bk:=D.nx } σ2 H2)
noncomputable def ri (fp:List Addr) (h:Heap):List (Addr×Obj):=fp.filterMap fun b=>(h.get? b).map fun o=>(b,o)
theorem cZ {fp:List Addr} {h:Heap} {b:Addr} {o:Obj} (hb:b∈fp) (e:h.get? b=some o):(b,o)∈ri fp h:=List.mem_filterMap.mpr ⟨b,hb,by rw [e]; rfl⟩
theorem yU {fp:List Addr} {h:Heap} {p:Addr×Obj} (hp:p∈ri fp h):p.1∈fp/\h.get? p.1=some p.2:=by
 obtain ⟨b,hb,e⟩:=List.mem_filterMap.mp hp
 cases q:h.get? b with
 | none=>rw [q] at e; cases e
 | some o=>
  rw [q] at e
  have e':(b,o)=p:=Option.some.inj e
  subst e'
  exact ⟨hb,q⟩
theorem Inv.pinned {pins:List (Addr×Obj)} {σ:St} {H:Hp} {s:Shared} {fp:List Addr} (I:Inv X pins σ H s) (hf:∀ b∈fp,jO X pins H b) (ho:∀ b∈fp,∃ o,s.heap.get? b=some o/\∀ v,o.data≠.cell v):Inv X (pins++ri fp s.heap) σ H s:=
 I.pins_of fun p hp=>(List.mem_append.mp hp).elim (fun z=>I.pin p (List.mem_append_right _ z)) fun z=>by
  obtain ⟨hb,e⟩:=yU z
  obtain ⟨f0,f1,f2,_⟩:=hf p.1 hb
  obtain ⟨o,e',d⟩:=ho p.1 hb
  rw [e] at e'; cases e'
  exact ⟨e,f0,f1,f2,d⟩
theorem Inv.unpinned {pins pl:List (Addr×Obj)} {σ:St} {H:Hp} {s:Shared} (I:Inv X (pins++pl) σ H s):Inv X pins σ H s:=I.pins_of fun p hp=>I.pin p (List.mem_append_right _ (List.mem_append_left _ hp))
theorem GZ {iter:Expr} {body:List Stmt} {wi:TI} {g:TG} {tb:TS} {pos:Pos} (hp:PassesOwn (model X.prog X.w) X.A X.env X.xe) (hc:X.calm=true) (hi:PI X tg iter wi) (hg:PG X tg g) (hb:PSs X body tb)
  (hs:∀ x,foldedSetIterable iter X.env x=pure x:=by intro _; rfl):PS X (.For tg iter body [] pos) (Mb wi g tb):=by
 intro pins s σ H D I h
 refine wpAny_For (cx (hi pins s σ H _ I h) fun v s1 h1=>cx h1 fun itv s2 h2=>?_) hs
 obtain ⟨it,fp,tn,J,H2,e,I2,T,st2,f2,W,⟨m0,w0⟩,turn⟩:=h2
 subst e
 have stat:∀ {H':Hp},(∀ b∈fp,H' b=none)->∀ b∈fp,jO X pins H' b:=fun hn b hb=>⟨hn b hb,(f2 b hb).2⟩
 refine codeAny_forLoop_any (fun n s'=>∃ i σ' H',Inv X pins σ' H' s'/\tn i s'.heap/\(∀ b∈fp,H' b=none)/\W i n σ' H') ?_ m0 ⟨0,σ,H2,I2,st2,fun b hb=>(f2 b hb).1,w0⟩
 rintro n s3 ⟨i,σ3,H3,I3,st3,fr3,w3⟩
 rcases turn i n σ3 H3 w3 with ⟨stop,qn⟩ | ⟨go,N,hN,step⟩
 ·refine wpAny_passesOwn hp (cx (T.done X rfl rfl rfl hc i pins s3 σ3 H3 X.xe I3 (stat fr3) st3 stop) fun r s4 ⟨hr,I4⟩=>?_)
  subst hr
  exact wpAny_execs_nil ⟨σ3,H3,I4,qn⟩
 ·refine wpAny_passesOwn hp (cx (T.item X rfl rfl rfl hc i pins s3 σ3 H3 X.xe I3 (stat fr3) st3 go) fun r s4 ⟨u,hr,h4⟩=>?_)
  subst hr
  refine wpAny_passesOwn hp (cx h4 fun _ s5 ⟨x,H5,I5,r5,y5,st5,fr5⟩=>?_)
  have I5':=I5.pinned (stat fr5) (T.obj _ _ st5)
  refine wpAny_passesOwn hp (cx (hg _ s5 σ3 H5 x u _ I5' r5 (step x H5 y5)) fun _ s6 ⟨σ6,H6,I6,q6⟩=>?_)
  refine wpAny_passesOwn hp (cx (hb _ s6 σ6 H6 _ I6 q6) fun f s7 q7=>?_)
  have again:∀ {σ7:St} {H7:Hp},Inv X (pins++ri fp s5.heap) σ7 H7 s7->N σ7 H7->∃ m,m<n/\∃ i σ' H',Inv X pins σ' H' s7/\tn i s7.heap/\(∀ b∈fp,H' b=none)/\W i m σ' H':=fun {σ7 H7} I7 n7=>by
   obtain ⟨m',hm,w7⟩:=hN σ7 H7 n7
   refine ⟨m',hm,i+1,σ7,H7,I7.unpinned,T.keep _ _ _ st5 fun b hb o e=>(I7.pin (b,o) (List.mem_append_right _ (List.mem_append_right _ (cZ hb e)))).1,fun b hb=>?_,w7⟩
   obtain ⟨o,e,d⟩:=T.obj _ _ st5 b hb
   exact (I7.pin (b,o) (List.mem_append_right _ (List.mem_append_right _ (cZ hb e)))).2.1
  cases f with
  | next=>obtain ⟨σ7,H7,I7,n7⟩:=q7; exact again I7 n7
  | cont=>obtain ⟨σ7,H7,I7,n7⟩:=q7; exact again I7 n7
  | brk=>obtain ⟨σ7,H7,I7,q7⟩:=q7; exact ⟨σ7,H7,I7.unpinned,q7⟩
  | ret v=>obtain ⟨x7,σ7,H7,I7,r7,q7⟩:=q7; exact ⟨x7,σ7,H7,I7.unpinned,r7,q7⟩
end
end L2
namespace L2
open PySem PySem.Spec PyProof.Rows
abbrev R2:=V->V->Hp->VK->Prop
def OpR (X:Cx) (f:Value->Value->Sem Value) (r:R2):Prop:=
 ∀ (pins:List (Addr×Obj)) (s:Shared) (σ:St) (H:Hp) (x y:V) (v u:Value) (Q:VK),Inv X pins σ H s->RelV x v->RelV y u->r x y H Q ->
  wpAny (model X.prog X.w) X.A (f v u) (EP X pins σ Q) X.xe s
def Li (X:Cx) (f:Value->Sem Value) (r:V->Hp->VK->Prop):Prop:=
 ∀ (pins:List (Addr×Obj)) (s:Shared) (σ:St) (H:Hp) (x:V) (v:Value) (Q:VK),Inv X pins σ H s->RelV x v->r x H Q ->
  wpAny (model X.prog X.w) X.A (f v) (EP X pins σ Q) X.xe s
def CallR (X:Cx) (f:Value) (r:List V->Hp->VK->Prop):Prop:=
 ∀ (pins:List (Addr×Obj)) (s:Shared) (σ:St) (H:Hp) (xs:List V) (us:List Value) (Q:VK),Inv X pins σ H s->Vals xs us->r xs H Q ->
  wpAny (model X.prog X.w) X.A (call f us) (EP X pins σ Q) X.xe s
def Jn (r:R2) (ta tb:TE):TE:=fun σ H Q=>ta σ H fun x H1=>tb σ H1 fun y H2=>r x y H2 Q
def Oo (r:V->Hp->VK->Prop) (ta:TE):TE:=fun σ H Q=>ta σ H fun x H1=>r x H1 Q
def rI (C:Int->Int->Prop) (g:Int->Int->V):R2:=fun x y H Q=>∃ i j,x=.int i/\y=.int j/\C i j/\Q (g i j) H
def Ay (g:Int->Int->V):R2:=fun x y H Q=>∃ i j,x=.int i/\y=.int j/\Q (g i j) H
def rU (g:Int->V):V->Hp->VK->Prop:=fun x H Q=>∃ i,x=.int i/\Q (g i) H
section
variable {X:Cx} {a b c:Expr} {ta tb tc:TE} {pos:Pos}
theorem Ix (ha:PE X a ta) (hb:PE X b tb) {pins:List (Addr×Obj)} {s:Shared} {σ:St} {H:Hp} {R:V->V->Hp->Prop} (I:Inv X pins σ H s)
  (h:ta σ H fun x H1=>tb σ H1 fun y H2=>R x y H2) {Q:Value->Shared->Prop} {f:Value->Value->Sem Value}
  (hf:∀ v u s2 x y H2,Inv X pins σ H2 s2->RelV x v->RelV y u->R x y H2->wpAny (model X.prog X.w) X.A (f v u) Q X.xe s2) :
  wpAny (model X.prog X.w) X.A (eval a X.env) (fun v s₁=>wpAny (model X.prog X.w) X.A (eval b X.env) (fun u s₂=>wpAny (model X.prog X.w) X.A (f v u) Q X.xe s₂) X.xe s₁) X.xe s:=by
 refine cx (ha pins s σ H _ I h) fun v s1 ⟨x,H1,I1,r1,q1⟩=>?_
 refine cx (hb pins s1 σ H1 _ I1 q1) fun u s2 ⟨y,H2,I2,r2,q2⟩=>?_
 exact hf v u s2 x y H2 I2 r1 r2 q2
theorem JV {op:Operator} {r:R2} (ho:OpR X (binaryOp op) r) (ha:PE X a ta) (hb:PE X b tb):PE X (.BinOp a op b pos) (Jn r ta tb):=by
 intro pins s σ H Q I h
 exact wpAny_BinOp (Ix ha hb I h fun v u s2 x y H2 I2 rx ry q=>ho pins s2 σ H2 x y v u Q I2 rx ry q)
theorem JT {op:UnaryOp} {r:V->Hp->VK->Prop} (ho:Li X (unaryOp op) r) (ha:PE X a ta):PE X (.UnaryOp op a pos) (Oo r ta):=by
 intro pins s σ H Q I h
 exact UnaryOp_ (cx (ha pins s σ H _ I h) fun v s1 ⟨x,H1,I1,r1,q1⟩=>ho pins s1 σ H1 x v Q I1 r1 q1)
theorem J2 {f:Value->Value->Sem Value} {C:Int->Int->Prop} {g:Int->Int->Int}
  (rule:∀ (i j:Int) (t u:Tok) (s:Shared) (Q:Value->Shared->Prop) (E:Value->Shared->Prop),C i j->Q (.int (g i j) s.toks) { s with toks:=s.toks+1 }->wpAny (model X.prog X.w) X.A (f (.int i t) (.int j u)) Q E s) :
  OpR X f (rI C fun i j=>.int (g i j)):=by
 intro pins s σ H x y v u Q I rx ry h
 obtain ⟨i,j,rfl,rfl,hc,q⟩:=h
 obtain ⟨t,rfl⟩:=rx
 obtain ⟨t',rfl⟩:=ry
 exact rule i j t t' s _ _ hc ⟨.int (g i j),H,I.tok _,⟨_,rfl⟩,q⟩
theorem AS {f:Value->Value->Sem Value} {g:Int->Int->Int}
  (rule:∀ (i j:Int) (t u:Tok) (s:Shared) (Q:Value->Shared->Prop) (E:Value->Shared->Prop),Q (.int (g i j) s.toks) { s with toks:=s.toks+1 }->wpAny (model X.prog X.w) X.A (f (.int i t) (.int j u)) Q E s) :
  OpR X f (Ay fun i j=>.int (g i j)):=by
 intro pins s σ H x y v u Q I rx ry h
 obtain ⟨i,j,rfl,rfl,q⟩:=h
 obtain ⟨t,rfl⟩:=rx
 obtain ⟨t',rfl⟩:=ry
 exact rule i j t t' s _ _ ⟨.int (g i j),H,I.tok _,⟨_,rfl⟩,q⟩
theorem J3 {f:Value->Value->Sem Value} {g:Int->Int->Bool}
  (rule:∀ (i j:Int) (t u:Tok) (s:Shared) (Q:Value->Shared->Prop) (E:Value->Shared->Prop),Q (.bool (g i j)) s->wpAny (model X.prog X.w) X.A (f (.int i t) (.int j u)) Q E s) :
  OpR X f (Ay fun i j=>.bl (g i j)):=by
 intro pins s σ H x y v u Q I rx ry h
 obtain ⟨i,j,rfl,rfl,q⟩:=h
 obtain ⟨t,rfl⟩:=rx
 obtain ⟨t',rfl⟩:=ry
 exact rule i j t t' s _ _ ⟨.bl (g i j),H,I,rfl,q⟩
def Nr (i j:Int):Prop:=0<j/\j<1073741824
theorem vr (k:Nat):(0:Int)<=2 ^ k:=by
 rw [two_pow_cast]
 exact Int.natCast_nonneg _
theorem He:OpR X (binaryOp .Add) (Ay fun i j=>.int (i+j)):=AS fun _ _ _ _ _ _ _ q=>add_int q
theorem Ha:OpR X (binaryOp .Sub) (Ay fun i j=>.int (i-j)):=AS fun _ _ _ _ _ _ _ q=>sub_int q
theorem DU:OpR X (binaryOp .FloorDiv) (rI Nr fun i j=>.int (i / j)):=J2 fun i j _ _ _ _ _ hc q=>by
 have h1:(0:Int)<j:=hc.1
 have h2:j<1073741824:=hc.2
 exact floordiv_int (by omega) (by rw [Int.fdiv_eq_ediv_of_nonneg i (by omega)]; exact q) (.inl (PyProof.noPylong_small (by omega)))
theorem Hc:OpR X (binaryOp .Mod) (rI (fun _ j=>0<j) fun i j=>.int (i % j)):=J2 fun i j _ _ _ _ _ hc q=>by
 have h1:(0:Int)<j:=hc
 exact mod_int' (by omega) (by rw [Int.fmod_eq_emod_of_nonneg i (by omega)]; exact q)
theorem Hb:OpR X (binaryOp .RShift) (rI (fun _ j=>0<=j) fun i j=>.int (i / 2 ^ j.toNat)):=J2 fun i j _ _ _ _ _ hc q=>
 rshift_int hc (by rw [Int.fdiv_eq_ediv_of_nonneg i (vr _)]; exact q)
theorem Hd:OpR X (binaryOp .BitAnd) (Ay fun i j=>.int (Builtin.bitAnd i j)):=AS fun _ _ _ _ _ _ _ q=>and_int q
theorem JZ:OpR X (binaryOp .BitOr) (Ay fun i j=>.int (Builtin.bitOr i j)):=AS fun _ _ _ _ _ _ _ q=>or_int q
theorem G9:OpR X (binaryOp .BitXor) (Ay fun i j=>.int (Builtin.bitXor i j)):=AS fun _ _ _ _ _ _ _ q=>xor_int q
theorem Og {f:Value->Sem Value} {g:Int->Int}
  (rule:∀ (i:Int) (t:Tok) (s:Shared) (Q:Value->Shared->Prop) (E:Value->Shared->Prop),Q (.int (g i) s.toks) { s with toks:=s.toks+1 }->wpAny (model X.prog X.w) X.A (f (.int i t)) Q E s) :
  Li X f (rU fun i=>.int (g i)):=by
 intro pins s σ H x v Q I rx h
 obtain ⟨i,rfl,q⟩:=h
 obtain ⟨t,rfl⟩:=rx
 exact rule i t s _ _ ⟨.int (g i),H,I.tok _,⟨_,rfl⟩,q⟩
theorem Gv:Li X (unaryOp .USub) (rU fun i=>.int (-i)):=Og fun _ _ _ _ _ q=>neg_int q
end
section
variable {X:Cx} {a b c:Expr} {ta tb tc:TE} {pos:Pos}
theorem H9 {pins:List (Addr×Obj)} {σ:St} {H:Hp} {s:Shared} {Q:VK} {k k':Bool} (I:Inv X pins σ H s) (q:Q (.bl k) H) (e:k=k'):EP X pins σ Q (.bool k') s:=by
 subst e
 exact ⟨.bl k,H,I,rfl,q⟩
theorem J0:OpR X (compareOp .Lt) (Ay fun i j=>.bl (decide (i<j))):=J3 fun _ _ _ _ _ _ _ q=>lt_int q
theorem J1:OpR X (compareOp .Gt) (Ay fun i j=>.bl (decide (j<i))):=J3 fun _ _ _ _ _ _ _ q=>gt_int q
theorem DT:OpR X (compareOp .IsNot) (fun x y H Q=>y=.non/\Q (.bl (!decide (x=.non))) H):=by
 intro pins s σ H x y v u Q I rx ry h
 obtain ⟨rfl,q⟩:=h
 cases ry
 refine isnot_none_gen (H9 I q ?_)
 cases x <;> first
  | (cases rx; rfl)
  | (obtain ⟨t,rfl⟩:=rx; rfl)
theorem aD (b:Expr) {op:CmpOp} (h:op≠.In:=by decide) (h2:op≠.NotIn:=by decide):behindInMarks op b=false:=by
 have e1:(op==CmpOp.In)=false:=by cases op <;> first | rfl | exact absurd rfl h
 have e2:(op==CmpOp.NotIn)=false:=by cases op <;> first | rfl | exact absurd rfl h2
 cases b <;> simp [behindInMarks,e1,e2]
theorem DP {op:CmpOp} {r:R2} (ho:OpR X (compareOp op) r) (ha:PE X a ta) (hb:PE X b tb) (hm:behindInMarks op b=false):PE X (.Compare a [op] [b] pos) (Jn r ta tb):=by
 intro pins s σ H Q I h
 exact wpAny_Compare1 (Ix ha hb I h fun v u s2 x y H2 I2 rx ry q=>ho pins s2 σ H2 x y v u Q I2 rx ry q) hm
def FL (t:TE):TT:=fun σ H Q=>t σ H fun x H'=>∃ k,x=.bl k/\Q k H'
theorem DC {op:CmpOp} {r:R2} (ho:OpR X (compareOp op) r) (ha:PE X a ta) (hb:PE X b tb) (hm:behindInMarks op b=false):PT X (.Compare a [op] [b] pos) (FL (Jn r ta tb)):=by
 intro pins s σ H Q I h
 refine wpAny_isTrue_Compare1 (cx (ha pins s σ H _ I h) fun v s1 ⟨x,H1,I1,r1,q1⟩=>cx (hb pins s1 σ H1 _ I1 q1) fun u s2 ⟨y,H2,I2,r2,q2⟩=>
  cx (ho pins s2 σ H2 x y v u _ I2 r1 r2 q2) fun c s3 ⟨z,H3,I3,r3,k,e,q3⟩=>?_) hm
 subst e
 cases r3
 exact wpAny_truthy_bool ⟨H3,I3,q3⟩
def Ac (r r':R2) (ta tb tc:TE):TE:=fun σ H Q=>ta σ H fun x H1=>tb σ H1 fun y H2=>r x y H2 fun z H3=>∃ k,z=.bl k /\
 (if k=true then tc σ H3 fun w' H4=>r' y w' H4 Q else Q (.bl false) H3)
theorem AA {op op':CmpOp} {r r':R2} (ho:OpR X (compareOp op) r) (ho':OpR X (compareOp op') r') (ha:PE X a ta) (hb:PE X b tb) (hc:PE X c tc)
  (hm:lastMarks [op,op'] [b,c]=false:=by with_unfolding_all rfl):PT X (.Compare a [op,op'] [b,c] pos) (FL (Ac r r' ta tb tc)):=by
 intro pins s σ H Q I h
 refine isTrue_chain (cx (ha pins s σ H _ I h) fun v s1 ⟨x,H1,I1,r1,q1⟩=>test_link (cx (hb pins s1 σ H1 _ I1 q1) fun u s2 ⟨y,H2,I2,r2,q2⟩=>
  cx (ho pins s2 σ H2 x y v u _ I2 r1 r2 q2) fun d s3 ⟨z,H3,I3,r3,k,e,q3⟩=>?_)) hm
 subst e
 cases r3
 refine wpAny_truthy_bool ?_
 cases k with
 | false=>
  obtain ⟨k',e',q'⟩:=q3
  cases e'
  exact ite_ff ⟨H3,I3,q'⟩
 | true=>
  refine ite_tt (test_last (cx (hc pins s3 σ H3 _ I3 q3) fun w' s4 ⟨z',H4,I4,r4,q4⟩=>cx (ho' pins s4 σ H4 y z' u w' _ I4 r2 r4 q4) fun d' s5 ⟨z2,H5,I5,r5,k2,e2,q5⟩=>?_))
  subst e2
  cases r5
  exact wpAny_truthy_bool ⟨H5,I5,q5⟩
theorem vX:(sizeLine:Nat)<2 ^ 63:=by rw [sizeLine_eq]; decide
theorem vO:OpR X (binaryOp .Add) (fun x y H Q=>∃ i j,x=.str i/\y=.str j/\i.length+j.length<=sizeLine/\Q (.str (i++j)) H):=by
 intro pins s σ H x y v u Q I rx ry h
 obtain ⟨i,j,rfl,rfl,hz,q⟩:=h
 obtain ⟨t,rfl⟩:=rx
 obtain ⟨t',rfl⟩:=ry
 exact add_str (fun t' tk=>⟨.str (i++j),H,I.tok _,⟨_,rfl⟩,q⟩) hz
theorem nJ {x:V} {us:List Value} (r:Vals [x] us):∃ u,us=[u]/\RelV x u:=by
 cases r with
 | cons r1 r2=>cases r2; exact ⟨_,rfl,r1⟩
theorem FD {x y:V} {us:List Value} (r:Vals [x,y] us):∃ u w',us=[u,w']/\RelV x u/\RelV y w':=by
 cases r with
 | cons r1 r2=>
  cases r2 with
  | cons r3 r4=>cases r4; exact ⟨_,_,rfl,r1,r3⟩
theorem zE (hc:X.calm=true):CallR X (.builtin "max") (fun xs H Q=>∃ i j,xs=[.int i,.int j]/\Q (.int (if j>i then j else i)) H):=by
 intro pins s σ H xs us Q I r h
 obtain ⟨i,j,rfl,q⟩:=h
 obtain ⟨u,w',rfl,⟨t,rfl⟩,⟨t',rfl⟩⟩:=FD r
 refine max_two_ints (I.ok.hd hc) fun h' tk k=>⟨_,H,I.kept k,?_,q⟩
 by_cases hj:j>i
 ·rw [if_pos hj,if_pos hj]; exact ⟨_,rfl⟩
 ·rw [if_neg hj,if_neg hj]; exact ⟨_,rfl⟩
theorem zD (hc:X.calm=true):CallR X (.builtin "min") (fun xs H Q=>∃ i j,xs=[.int i,.int j]/\Q (.int (if j<i then j else i)) H):=by
 intro pins s σ H xs us Q I r h
 obtain ⟨i,j,rfl,q⟩:=h
 obtain ⟨u,w',rfl,⟨t,rfl⟩,⟨t',rfl⟩⟩:=FD r
 refine min_two_ints (I.ok.hd hc) fun h' tk k=>⟨_,H,I.kept k,?_,q⟩
 by_cases hj:j<i
 ·rw [if_pos hj,if_pos hj]; exact ⟨_,rfl⟩
 ·rw [if_neg hj,if_neg hj]; exact ⟨_,rfl⟩
theorem zF:CallR X (.type "int") (fun xs H Q=>(∃ i,xs=[.int i]/\Q (.int i) H)\/∃ k,xs=[.bl k]/\Q (.int (if k then 1 else 0)) H):=by
 intro pins s σ H xs us Q I r h
 rcases h with ⟨i,rfl,q⟩ | ⟨k,rfl,q⟩
 ·obtain ⟨u,rfl,t,rfl⟩:=nJ r
  exact call_int_int ⟨.int i,H,I,⟨_,rfl⟩,q⟩
 ·obtain ⟨u,rfl,r1⟩:=nJ r
  cases r1
  exact call_int_bool ⟨.int (if k then 1 else 0),H,I.tok _,⟨_,rfl⟩,q⟩
def No (K:PySem.W.Frag) (x:V) (H:Hp) (n:Nat):Prop:=
 match x with
 | .str y=>y.length<=sizeLine/\n=y.length
 | .byt y=>y.size<=sizeLine/\n=y.size
 | .ref p=>(∃ xs,SqL K H p xs/\n=xs.length)\/∃ xs,SqT K H p xs/\n=xs.length
 | _=>False
theorem u4:CallR X (.builtin "len") (fun xs H Q=>∃ x n,xs=[x]/\No X.K x H n/\Q (.int n) H):=by
 intro pins s σ H xs us Q I r h
 obtain ⟨x,n,rfl,e,q⟩:=h
 obtain ⟨u,rfl,rx⟩:=nJ r
 have hl:=vX
 have hs:sizeLine=16777216:=sizeLine_eq
 cases x with
 | str y=>
  obtain ⟨t,rfl⟩:=rx
  obtain ⟨hy,e'⟩:y.length<=sizeLine/\n=y.length:=e
  subst e'
  exact len_str (by omega) ⟨.int _,H,I.tok _,⟨_,rfl⟩,q⟩
 | byt y=>
  obtain ⟨t,rfl⟩:=rx
  obtain ⟨hy,e'⟩:y.size<=sizeLine/\n=y.size:=e
  subst e'
  exact PySem.W.len_bytes (by omega) ⟨.int _,H,I.tok _,⟨_,rfl⟩,q⟩
 | ref p=>
  cases rx
  have e':(∃ xs,SqL X.K H p xs/\n=xs.length)\/∃ xs,SqT X.K H p xs/\n=xs.length:=e
  rcases e' with ⟨xs,hx,e'⟩ | ⟨xs,hx,e'⟩
  ·subst e'
   obtain ⟨its,r',pl,hz⟩:=I.list hx
   have hlen:=r'.length
   exact Calls.call_len_list pl.isList (by simp only [List.size_toArray]; omega) ⟨.int xs.length,H,I.tok _,⟨_,by simp only [List.size_toArray]; rw [hlen]⟩,q⟩
  ·subst e'
   obtain ⟨its,r',pl,hz⟩:=I.tuple hx
   have hlen:=r'.length
   exact len_tuple pl (by simp only [List.size_toArray]; omega) ⟨.int xs.length,H,I.tok _,⟨_,by simp only [List.size_toArray]; rw [hlen]⟩,q⟩
 | _=>exact (show False from e).elim
end
end L2
namespace L2
open PySem PySem.Spec PyProof.Rows
end L2
namespace L2
open PySem PySem.Spec PyProof.Rows
structure Room (k:Nat) (A:Around):Prop where
 hd:A.handled=none
 dp:A.depth+3*k+5<recursionLimit
 un:A.units+16*k+200<cLine
theorem Room.mono {j k:Nat} {A:Around} (r:Room k A) (h:j<=k):Room j A:=⟨r.hd,by have:=r.dp; omega,by have:=r.un; omega⟩
theorem Room.deeper {k:Nat} {A:Around} (r:Room (k+1) A) (env:Env):Room k (A.deeper env):=
 ⟨r.hd,by have:=r.dp; show A.depth+1+3*k+5<_; omega,by have:=r.un; show A.units+3+16*k+200<_; omega⟩
theorem Room.depth {k:Nat} {A:Around} (r:Room k A):A.depth<recursionLimit:=by have:=r.dp; omega
theorem Room.units {k:Nat} {A:Around} (r:Room k A):A.units+64<cLine:=by have:=r.un; omega
def L8:TA:=fun _ H Q=>Q [] H
def Js (ta:TE) (tr:TA):TA:=fun σ H Q=>ta σ H fun x H1=>tr σ H1 fun xs H2=>Q (x::xs) H2
section
variable {X:Cx} {e:Expr} {es:List Expr} {te:TE} {t:TA} {pos:Pos}
theorem lI:PA X [] L8:=fun _ _ _ _ H Q I h=>Calls.spliced_nil ⟨[],H,I,.nil,h⟩
theorem jc (ha:PE X e te) (hr:PA X es t) (hs:starEach (e::es) X.env=(false,eval e X.env)::starEach es X.env:=by rfl):PA X (e::es) (Js te t):=by
 intro pos pins s σ H Q I h
 rw [hs]
 show wpAny _ _ (spliced ((false,eval e X.env)::backTo pos (starEach es X.env))) _ _ s
 refine Calls.spliced_cons (cx (ha pins s σ H _ I h) fun u s1 ⟨x,H1,I1,r1,q1⟩=>?_)
 exact cx (hr pos pins s1 σ H1 _ I1 q1) fun us s2 ⟨xs,H2,I2,r2,q2⟩=>⟨x::xs,H2,I2,.cons r1 r2,q2⟩
def L3 (t:TA):TE:=fun σ H Q=>t σ H fun xs H1=>xs.length<=sizeLine/\∀ p,H1 p=none->Q (.ref p) (upd H1 p (.tup xs))
def L9 (t:TA):TE:=fun σ H Q=>t σ H fun xs H1=>xs.length<=sizeLine/\∀ p,H1 p=none->Q (.ref p) (upd H1 p (.lst xs))
theorem G1 {x1} (h:PA X es t):PE X (.Tuple es x1 pos) (L3 t):=by
 intro pins s σ H Q I hq
 refine wpAny_Tuple_spliced (cx (h pos pins s σ H _ I hq) fun us s1 ⟨xs,H1,I1,r,z,q⟩=>⟨by rw [<- r.length]; exact z,?_⟩)
 have hf:H1 s1.heap.objs.size=none:=I1.hok.fresh (Nat.le_refl _)
 refine ⟨.ref s1.heap.objs.size,upd H1 s1.heap.objs.size (.tup xs),I1.laid (t':=s1.toks) (fun b u e=>Heap.get?_push_of_some _ e) (Nat.le_refl _) ?_,rfl,q _ hf⟩
 exact ⟨z,us,r,⟨_,Heap.get?_push_size _ rfl,rfl,_,rfl⟩,NoDi.new _ _⟩
theorem AL (h:PA X es t):PE X (.List es pos) (L9 t):=by
 intro pins s σ H Q I hq
 refine wpAny_List_spliced (cx (h pos pins s σ H _ I hq) fun us s1 ⟨xs,H1,I1,r,z,q⟩=>⟨by rw [<- r.length]; exact z,?_⟩)
 have hf:H1 s1.heap.objs.size=none:=I1.hok.fresh (Nat.le_refl _)
 refine ⟨.ref s1.heap.objs.size,upd H1 s1.heap.objs.size (.lst xs),I1.laid (t':=s1.toks) (fun b u e=>Heap.get?_push_of_some _ e) (Nat.le_refl _) ?_,rfl,q _ hf⟩
 exact ⟨z,us,0,r,Heap.get?_push_size _ rfl⟩
end
abbrev Sp:=List V->Hp->VK->XK->Prop
abbrev yj:=List Env->Hp->Shared->XK->Value->Shared->Prop
structure Env0 (P:Program) (w:World) (K:PySem.W.Frag) (mg:Str->Option Value) (base:Heap) (A:Around) (outer:List Env) (s:Shared) (H:Hp):Prop where
 frames:A.frames=some outer
 mod:Mod K mg base
 bs:∀ b o,base.get? b=some o->s.heap.get? b=some o/\H b=none
 bsz:base.objs.size<=s.heap.objs.size
 funs:s.heap.FunFrames base outer
 frf:∀ b∈xQ outer,H b=none
 hok:HOk P w H s.heap
 bare:AllBare s.gens
def CE (outer:List Env) (P:Program) (w:World) (H:Hp) (s:Shared) (Q:VK) (u:Value) (s':Shared):Prop:=
 ∃ v H',s'.os=s.os/\AllBare s'.gens/\Un (xQ outer) [] H H' s.heap s'.heap/\HOk P w H' s'.heap/\RelV v u/\Q v H'
def CR (CX:yj) (outer:List Env) (P:Program) (w:World) (H:Hp) (s:Shared) (Q:VK) (E:XK) (r:Result) (s':Shared):Prop:=
 match r with
 | .ok (.ret u)=>CE outer P w H s Q u s'
 | .ok _=>False
 | .error e=>CX outer H s E e s'
structure FnOk (P:Program) (w:World) (K:PySem.W.Frag) (mg:Str->Option Value) (base:Heap) (CX:yj) (k:Nat) (f:Addr) (fd:FuncData) (ps:List Str) (sp:Sp):Prop where
 len:∀ vs H Q E,sp vs H Q E->vs.length=ps.length
 run:∀ (A:Around) (outer:List Env) (s:Shared) (H:Hp) (args:Args) (us:List Value) (vs:List V) (Q:VK) (E:XK),Room k A->Env0 P w K mg base A outer s H->BindsTo s fd args (ps.zip us)->Vals vs us->sp vs H Q E ->
  codeAny (model P w) A (.call (.ref f) args) (CR CX outer P w H s Q E) s
theorem FnOk.imp {P:Program} {w:World} {K:PySem.W.Frag} {mg:Str->Option Value} {base:Heap} {CX:yj} {k:Nat} {f:Addr} {fd:FuncData} {ps:List Str} {sp sp':Sp} (F:FnOk P w K mg base CX k f fd ps sp)
  (h:∀ vs H Q E,sp' vs H Q E->sp vs H Q E):FnOk P w K mg base CX k f fd ps sp':=
 ⟨fun vs H Q E q=>F.len vs H Q E (h _ _ _ _ q),fun A outer s H args us vs Q E hr he hb hv hs=>F.run A outer s H args us vs Q E hr he hb hv (h _ _ _ _ hs)⟩
section
variable {X:Cx} {pins:List (Addr×Obj)} {σ:St} {H:Hp} {s s':Shared}
theorem Inv.env0 (I:Inv X pins σ H s):Env0 X.prog X.w X.K X.mg X.base X.A X.stack s H:=
 ⟨I.ok.frames,I.ok.mod,I.bs,Nat.le_trans I.ok.bsz I.sz,I.stack,I.stkFree,I.hok,I.bare⟩
theorem Inv.after {Q:VK} {u:Value} (I:Inv X pins σ H s) (h:CE X.stack X.prog X.w H s Q u s'):EP X pins σ Q u s':=by
 obtain ⟨v,H',os,bare,un,hok,r,q⟩:=h
 obtain ⟨hh,g,d,t,os'⟩:=s'
 obtain rfl:os'=s.os:=os
 exact ⟨v,H',I.call (h':=hh) (g':=g) (d':=d) (t':=t) (ch:=[]) un hok bare (fun b z=>absurd z (by simp)),r,q⟩
end
def Jt (sp:Sp) (dvs:List V) (E:XK) (t:TA):TE:=fun σ H Q=>t σ H fun vs H1=>sp (vs++dvs) H1 Q E
def Binds (K:PySem.W.Frag) (fd:FuncData) (ps:List Str) (ds:List Value):Prop:=
 ∀ (s:Shared) (us:List Value),K.In s.heap->(us++ds).length=ps.length->BindsTo s fd ⟨us,[]⟩ (ps.zip (us++ds))
theorem Binds.all {K:PySem.W.Frag} {fd:FuncData} {ps:List Str} (h:∀ us:List Value,us.length=ps.length->bindArgs fd ⟨us,[]⟩=pure (ps.zip us)):Binds K fd ps []:=fun s us _ hl=>by
 rw [List.append_nil] at hl ⊢
 exact .of_eq (h us hl)
def sJ (CX:yj) (X:Cx) (E:XK):Prop:=∀ (pins:List (Addr×Obj)) (σ:St) (H:Hp) (s:Shared) (e:Value) (s':Shared),Inv X pins σ H s->CX X.stack H s E e s'->X.xe e s'
section
variable {X:Cx} {CX:yj} {k:Nat} {f C:Addr} {fd:FuncData} {ps:List Str} {sp:Sp} {dvs:List V} {ds:List Value} {E:XK} {x m:Str} {p pos apos:Pos} {e o:Expr} {es:List Expr} {ta:TE} {t:TA}
theorem Av {pins:List (Addr×Obj)} {σ:St} {H:Hp} {s:Shared} {Q:VK} {us:List Value} {vs:List V} (F:FnOk X.prog X.w X.K X.mg X.base CX k f fd ps sp) (hr:Room k X.A) (hb:Binds X.K fd ps ds) (hd:Vals dvs ds) (hx:sJ CX X E)
  (I:Inv X pins σ H s) (r:Vals vs us) (h:sp (vs++dvs) H Q E):wpAny (model X.prog X.w) X.A (call (.ref f) us) (EP X pins σ Q) X.xe s:=by
 have r2:Vals (vs++dvs) (us++ds):=r.append hd
 have hl:(us++ds).length=ps.length:=by rw [<- r2.length]; exact F.len _ _ _ _ h
 refine wpAny_call (codeAny_mono (F.run X.A X.stack s H ⟨us,[]⟩ (us++ds) (vs++dvs) Q E hr I.env0 (hb s us I.kIn hl) r2 h) fun r s' hq=>?_)
 cases r with
 | error e=>exact hx pins σ H s e s' I hq
 | ok fl=>
  cases fl with
  | ret u=>exact I.after hq
  | next=>exact False.elim hq
  | brk=>exact False.elim hq
  | cont=>exact False.elim hq
theorem DQ (F:FnOk X.prog X.w X.K X.mg X.base CX k f fd ps sp) (hr:Room k X.A) (hg:Gl X x) (hm:X.mg x=some (.ref f)) (hk:PySem.W.keepIn X.K (.ref f)=true) (hb:Binds X.K fd ps ds) (hd:Vals dvs ds) (hx:sJ CX X E)
  (ha:PA X (e::es) t) (hdb:(x==("__debug__":Str))=false:=by decide) (he:starEach (e::es) X.env=(false,eval e X.env)::starEach es X.env:=by rfl) (hpl:(backTo pos (starEach es X.env)).any (·.1)=false:=by rfl) :
  PE X (.Call (.Name x p) (e::es) [] pos) (Jt sp dvs E t):=by
 intro pins s σ H Q I h
 refine wpAny_Call_Name_kw (xL I hg hm ?_ hdb)
 refine PySem.W.callWith_K (h₀:=X.base) I.ok.mod.kin hk (cx (ha pos pins s σ H _ I h) fun us s1 ⟨vs,H1,I1,r,q⟩=>⟨I1.kIn,?_⟩) he hpl
 exact Av F hr hb hd hx I1 r q
end
structure FnScope (N P:List Str) (sc:Scope):Prop where
 kind:sc.kind=.function
 co:sc.isCoroutine=false
 gen:sc.isGenerator=false
 nd:N.Nodup
 pre:N.take P.length=P
 par:∀ x∈P,sc.names.lookup x=some .local\/sc.names.lookup x=some .cell
 nofree:∀ y∈sc.names,y.2≠.free
theorem qJ {kindOf:Str->Option NameKind} {x:Str}:∀ {binds:List (Str×Value)} {m:Str->Option Value},(∀ v,(x,v) ∉ binds)->bindL kindOf binds m x=m x
 | [],_,_=>rfl
 | (n,v)::r,m,h=>by
  unfold bindL
  rw [qJ fun w hw=>h w (List.mem_cons_of_mem _ hw)]
  split
  ·have:x≠n:=by rintro rfl; exact h v List.mem_cons_self
   simp [this]
  ·rfl
theorem qL {kindOf:Str->Option NameKind} {x:Str}:∀ {binds:List (Str×Value)} {m:Str->Option Value},(∀ v,(x,v) ∉ binds)->bindC kindOf binds m x=m x
 | [],_,_=>rfl
 | (n,v)::r,m,h=>by
  unfold bindC
  rw [qL fun w hw=>h w (List.mem_cons_of_mem _ hw)]
  split
  ·rfl
  ·have:x≠n:=by rintro rfl; exact h v List.mem_cons_self
   simp [this]
theorem qK {kindOf:Str->Option NameKind} {x:Str} {v:Value}:∀ {P:List Str} {vs:List Value} {i:Nat} {m:Str->Option Value},P.Nodup->P[i]? = some x->vs[i]? = some v->kindOf x=some .local ->
  bindL kindOf (P.zip vs) m x=some v
 | [],_,_,_,_,h,_,_=>by simp at h
 | _::_,[],_,_,_,_,h,_=>by simp at h
 | p::P,w::vs,0,m,nd,h1,h2,hk=>by
  simp at h1 h2; subst h1; subst h2
  show bindL kindOf ((p,w)::P.zip vs) m p=_
  unfold bindL
  rw [qJ fun v hv=>(List.nodup_cons.mp nd).1 (List.of_mem_zip hv).1,if_pos hk]
  simp
 | p::P,w::vs,i+1,m,nd,h1,h2,hk=>by
  show bindL kindOf ((p,w)::P.zip vs) m x=_
  unfold bindL
  exact qK (i:=i) (List.nodup_cons.mp nd).2 (by simpa using h1) (by simpa using h2) hk
theorem qM {kindOf:Str->Option NameKind} {x:Str} {v:Value}:∀ {P:List Str} {vs:List Value} {i:Nat} {m:Str->Option Value},P.Nodup->P[i]? = some x->vs[i]? = some v->kindOf x≠some .local ->
  bindC kindOf (P.zip vs) m x=some v
 | [],_,_,_,_,h,_,_=>by simp at h
 | _::_,[],_,_,_,_,h,_=>by simp at h
 | p::P,w::vs,0,m,nd,h1,h2,hk=>by
  simp at h1 h2; subst h1; subst h2
  show bindC kindOf ((p,w)::P.zip vs) m p=_
  unfold bindC
  rw [qL fun v hv=>(List.nodup_cons.mp nd).1 (List.of_mem_zip hv).1,if_neg hk]
  simp
 | p::P,w::vs,i+1,m,nd,h1,h2,hk=>by
  show bindC kindOf ((p,w)::P.zip vs) m x=_
  unfold bindC
  exact qM (i:=i) (List.nodup_cons.mp nd).2 (by simpa using h1) (by simpa using h2) hk
noncomputable def iM (N:List Str) (vs:List V):St:=vs.map some++List.replicate (N.length-vs.length) none
noncomputable def wB (CX:yj) (P:Program) (w:World) (K:PySem.W.Frag) (mg:Str->Option Value) (base:Heap) (N:List Str) (qual:Str) (scope:Scope) (f:Addr) (cd:Value) (A:Around) (outer:List Env) (s:Shared) (H:Hp) (E:XK):Cx where
 prog:=P
 w:=w
 K:=K
 mg:=mg
 base:=base
 A:=A.deeper (envOfC qual scope s.heap.objs.size f cd)
 N:=N
 s₀:=s
 H₀:=H
 env:=envOfC qual scope s.heap.objs.size f cd
 outer:=outer
 stack:=envOfC qual scope s.heap.objs.size f cd::outer
 ex:=[]
 calm:=true
 fn:=fun _=>true
 pn:=[]
 xe:=fun e s'=>wpAny (model P w) (A.deeper (envOfC qual scope s.heap.objs.size f cd)) (leaving (envOfC qual scope s.heap.objs.size f cd) e) (fun _ s''=>CX outer H s E e s'') (fun e' s''=>CX outer H s E e' s'') s'
theorem uZ {sc:Scope} {n:Nat} {x:Str} (h:sc.names.lookup x=some .cell):∃ c,(cellsFrom n sc.names []).lookup x=some c:=by
 have q:=PySem.W.cellsFrom_some sc.names n [] (.inl h)
 exact Option.isSome_iff_exists.mp q
theorem zr {CX:yj} {P:Program} {w:World} {K:PySem.W.Frag} {mg:Str->Option Value} {base:Heap} {N ps:List Str} {qual:Str} {scope:Scope} {f:Addr} {cd:Value} {A:Around} {outer:List Env} {s s1:Shared} {H:Hp} {E:XK} {us:List Value} {vs:List V}
  (S:FnScope N ps scope) (hd:A.handled=none) (e0:Env0 P w K mg base A outer s H) (hl:vs.length=ps.length) (r:Vals vs us)
  (x:InCallC s s.heap.objs.size (bindL (envOfC qual scope s.heap.objs.size f cd).kindOf (ps.zip us) fun _=>none) (cellsFrom (s.heap.objs.size+1) scope.names []) (bindC (envOfC qual scope s.heap.objs.size f cd).kindOf (ps.zip us) fun _=>none) s1) :
  Inv (wB CX P w K mg base N qual scope f cd A outer s H E) [] (iM N vs) H s1:=by
 have hpl:ps.length<=N.length:=by have:=congrArg List.length S.pre; rw [List.length_take] at this; omega
 obtain ⟨h1,tk,rfl,hk⟩:=x.done
 have noA:∀ b:Addr,b ∉ (wB CX P w K mg base N qual scope f cd A outer s H E).ex:=fun b z=>absurd (show b∈([]:List Addr) from z) (by simp)
 refine ⟨⟨e0.mod,S.kind,rfl,rfl,Nat.le_refl _,fun y z c h1 h2=>?_,fun y hy=>?_,fun y c _ h=>?_,fun _=>hd,Around.frames_deeper e0.frames,.inr ⟨rfl,rfl⟩,fun b z=>absurd z (noA b),e0.bs,e0.bsz,fun b _ _=>noA b,fun b z=>absurd z (noA b),e0.funs,e0.frf⟩,
  rfl,e0.bare,Un.kept hk,⟨_,x.toInCall.ns,fun i y v h1 h2 h3=>?_⟩,fun y c h=>⟨_,x.cell y c h⟩,e0.hok.fresh (Nat.le_refl _),fun y c h=>?_,fun p hp=>absurd (show p∈([]:List (Addr×Obj)) from hp) (by simp),e0.hok.kept hk,?_⟩
 ·exact name_of_addr x.apart (PySem.mem_of_lookup h1) (PySem.mem_of_lookup h2)
 ·have hy:scope.names.lookup y=some .cell\/scope.names.lookup y=some .free:=hy
  rcases hy with hy | hy
  ·exact uZ hy
  ·exact absurd rfl (S.nofree _ (PySem.mem_of_lookup hy))
 ·exact Nat.le_of_lt (x.above y c (PySem.mem_of_lookup h))
 ·have hi:i<vs.length:=by
   unfold iM at h2
   by_cases hi:i<vs.length
   ·exact hi
   ·rw [List.getElem?_append_right (by simpa using hi)] at h2
    rw [List.getElem?_replicate] at h2
    split at h2 <;> cases h2
  have ha:vs[i]? = some v:=by
   unfold iM at h2
   rw [List.getElem?_append_left (by simpa using hi),List.getElem?_map] at h2
   cases e:vs[i]? with
   | none=>rw [e] at h2; cases h2
   | some a=>rw [e] at h2; cases h2; rfl
  obtain ⟨u,hu,rv⟩:=r.get ha
  have hp:ps[i]? = some y:=by
   rw [<- S.pre,List.getElem?_take_of_lt (by omega)]; exact h1
  have ndP:ps.Nodup:=by rw [<- S.pre]; exact S.nd.sublist (List.take_sublist _ _)
  refine ⟨u,rv,?_⟩
  rcases S.par y (List.mem_of_getElem? hp) with k | k
  ·exact .inl ⟨k,qK ndP hp hu k⟩
  ·obtain ⟨c,e⟩:=uZ (n:=s.heap.objs.size+1) k
   refine .inr ⟨.inl k,c,e,?_⟩
   have q:=x.cell y c e
   rw [qM ndP hp hu (by show scope.names.lookup y≠_; rw [k]; decide)] at q
   exact q
 ·exact e0.hok.fresh (Nat.le_of_lt (x.above y c (PySem.mem_of_lookup h)))
 ·unfold iM
  show _=N.length
  rw [List.length_append,List.length_map,List.length_replicate]
  omega
theorem KU {CX:yj} {P:Program} {w:World} {K:PySem.W.Frag} {mg:Str->Option Value} {base:Heap} {k:Nat} {f:Addr} {name qual:Str} {params:Arguments} {body:List Stmt} {scope:Scope} {dV kV doc pm cdv ct oc:Value} {an od:Option Addr}
  {osl:Array (Option Value)} {N ps:List Str} {sp:Sp} (lk:K.lookup f=some ⟨oc,od,.func (PySem.W.fnOf name qual params body scope dV kV doc pm an cdv ct),osl⟩) (hcd:PySem.W.codeIn K cdv qual=true) (S:FnScope N ps scope)
  (len:∀ vs H Q E,sp vs H Q E->vs.length=ps.length)
  (hbody:∀ (A:Around) (outer:List Env) (s:Shared) (H:Hp) (vs:List V) (Q:VK) (E:XK),Room k (A.deeper (envOfC qual scope s.heap.objs.size f cdv))->sp vs H Q E ->
   ∃ t,PSs (wB CX P w K mg base N qual scope f cdv A outer s H E) body t/\t { nx:=fun _ H'=>Q .non H',rt:=Q } (iM N vs) H) :
  FnOk P w K mg base CX (k+1) f (PySem.W.fnOf name qual params body scope dV kV doc pm an cdv ct) ps sp:=by
 refine ⟨len,fun A outer s H args us vs Q E hr e0 hb r hsp=>?_⟩
 have hl:=len _ _ _ _ hsp
 have KX:K.In s.heap:=e0.mod.kin.keeps fun b o e=>(e0.bs b o e).1
 have lim:s.heap.NoLimit:=e0.mod.nolimit.keeps fun b o e=>(e0.bs b o e).1
 have hkind:∀ y∈ps.zip us,scope.names.lookup y.1=some .local\/(scope.names.lookup y.1=some .cell/\((cellsFrom (s.heap.objs.size+1) scope.names []).lookup y.1).isSome=true):=fun ⟨n,v⟩ hy=>by
  rcases S.par n (List.of_mem_zip hy).1 with q | q
  ·exact .inl q
  ·exact .inr ⟨q,PySem.W.cellsFrom_some _ _ _ (.inl q)⟩
 refine codeAny_call_function hr.depth (KX _ _ lk) rfl S.co S.gen rfl (PySem.W.codeRec_of KX hcd) (hb _ _ _ _ ?_)
 refine wpAny_newFunctionEnv_cells S.kind hkind fun env he s1 x=>?_
 subst he
 refine ⟨lim.keeps x.toInCall.keep,codeAny_func ?_⟩
 obtain ⟨t,ht,hq⟩:=hbody A outer s H vs Q E (hr.deeper _) hsp
 have I:Inv (wB CX P w K mg base N qual scope f cdv A outer s H E) [] (iM N vs) H s1:=zr S hr.hd e0 hl r x
 refine wpAny_mono (ht [] s1 (iM N vs) H _ I hq) (fun fl s' hs=>?_) fun e s' hs=>hs
 have fin:∀ {σ':St} {H':Hp} {v:V} {u:Value},Inv (wB CX P w K mg base N qual scope f cdv A outer s H E) [] σ' H' s'->RelV v u->Q v H'->CE outer P w H s Q u s':=
  fun {σ' H' v u} J rv q=>⟨v,H',J.os,J.bare,J.base,J.hok,rv,q⟩
 cases fl with
 | ret u=>
  obtain ⟨v,σ',H',J,rv,q⟩:=hs
  exact fin J rv q
 | next=>
  obtain ⟨σ',H',J,q⟩:=hs
  exact fin (v:=V.non) (u:=Value.none) J rfl q
 | brk=>
  obtain ⟨_,_,_,q⟩:=hs
  exact False.elim q
 | cont=>
  obtain ⟨_,_,_,q⟩:=hs
  exact False.elim q
end L2
namespace L2
open PySem PySem.Spec PyProof.Rows
section
variable {X:Cx} {x:Str} {p pos:Pos} {e:Expr} {es:List Expr} {t:TA} {id T:String} {r:List V->Hp->VK->Prop}
def NJ (r:List V->Hp->VK->Prop) (t:TA):TE:=fun σ H Q=>t σ H fun vs H1=>r vs H1 Q
theorem tW (hc:CallR X (.builtin id) r) (hg:Gl X x) (hm:X.mg x=none) (hv:bootBuiltins x=some (.builtin id)) (ha:PA X (e::es) t) (hn:x ≠ "__name__":=by decide) (hdb:(x==("__debug__":Str))=false:=by decide)
  (he:starEach (e::es) X.env=(false,eval e X.env)::starEach es X.env:=by rfl) (hpl:(backTo pos (starEach es X.env)).any (·.1)=false:=by rfl):PE X (.Call (.Name x p) (e::es) [] pos) (NJ r t):=by
 intro pins s σ H Q I h
 refine wpAny_Call_Name_kw (jG I hg hm hv ?_ hn hdb)
 exact PyProof.Rows.callWith_builtin1 (cx (ha pos pins s σ H _ I h) fun us s1 ⟨vs,H1,I1,r1,q1⟩=>hc pins s1 σ H1 vs us Q I1 r1 q1) he hpl
theorem yJ (hc:CallR X (.type T) r) (hg:Gl X x) (hm:X.mg x=none) (hv:bootBuiltins x=some (.type T)) (ha:PA X (e::es) t) (hn:x ≠ "__name__":=by decide) (hdb:(x==("__debug__":Str))=false:=by decide)
  (he:starEach (e::es) X.env=(false,eval e X.env)::starEach es X.env:=by rfl) (hpl:(backTo pos (starEach es X.env)).any (·.1)=false:=by rfl):PE X (.Call (.Name x p) (e::es) [] pos) (NJ r t):=by
 intro pins s σ H Q I h
 refine wpAny_Call_Name_kw (jG I hg hm hv ?_ hn hdb)
 exact PyProof.Rows.callWith_type1 (cx (ha pos pins s σ H _ I h) fun us s1 ⟨vs,H1,I1,r1,q1⟩=>hc pins s1 σ H1 vs us Q I1 r1 q1) he hpl
end
end L2
namespace HT
open PySem PyProof.Rows
section
variable {prog:Program} {w:World} {A:Around} {E:Value->Shared->Prop} {s:Shared}
theorem Fj {t b:Addr} {vs ws:List Value} {Q:Value->Shared->Prop} (ht:IsTup s.heap t vs.toArray) (hb:IsTup s.heap b ws.toArray) (hv:vs≠[])
  (h1:ws=[]->Q (.ref t) s) (h2:ws≠[]->Q (.ref s.heap.objs.size) { s with heap:=s.heap.push { cls:=.type "tuple",data:=.seq (vs++ws).toArray } })
  (hsz:vs.length+ws.length<=sizeLine):wpAny (model prog w) A (binaryOp .Add (.ref t) (.ref b)) Q E s:=by
 obtain ⟨⟨cls,dd,data,sl⟩,ho,hc,n,hd⟩:=id ht
 obtain ⟨⟨cls2,dd2,data2,sl2⟩,ho2,hc2,n2,hd2⟩:=id hb
 simp only at hc hd hc2 hd2
 subst hc hd hc2 hd2
 have e:vs.toArray++ws.toArray=(vs++ws).toArray:=by simp
 by_cases hw:ws=[]
 ·exact concat_meets ⟨_,ho,rfl⟩ ⟨_,ho2,rfl⟩ noFill_tuple_add seq_tuple_add PySem.F.slot_tuple_add PySem.F.entry_tuple_add (PySem.F.args_tuple_add_2 _ _)
   (tuple_addW1 t b vs.toArray ws.toArray n n2 dd dd2 sl sl2 (by simpa using hv) (by simp [hw])) ⟨ho,ho2,h1 hw⟩
 ·refine concat_meets ⟨_,ho,rfl⟩ ⟨_,ho2,rfl⟩ noFill_tuple_add seq_tuple_add PySem.F.slot_tuple_add PySem.F.entry_tuple_add (PySem.F.args_tuple_add_2 _ _)
   (tuple_addW2 t b vs.toArray ws.toArray n n2 dd dd2 sl sl2 (by simpa using hv) (by simpa using hw) (by rw [List.size_toArray,List.size_toArray]; exact hsz)) ⟨ho,ho2,?_⟩
  rw [e]
  exact h2 hw
noncomputable def sIx (n d:Nat):Option Int->Nat
 | none=>d
 | some v=>if v<0 then (v+(n:Int)).toNat else min v.toNat n
theorem GL (n d:Nat) (hd:d<=n) (o:Option Int):sIx n d o<=n:=by
 cases o with
 | none=>exact hd
 | some v=>
  show (if v<0 then (v+(n:Int)).toNat else min v.toNat n)<=n
  by_cases hv:v<0
  ·rw [if_pos hv]; omega
  ·rw [if_neg hv]; exact Nat.min_le_right _ _
theorem xY (v:Int) (n d:Nat):(if v<0 then max (v+(n:Int)) 0 else min v (n:Int))=((sIx n d (some v):Nat):Int):=by
 show (if v<0 then max (v+(n:Int)) 0 else min v (n:Int))=(((if v<0 then (v+(n:Int)).toNat else min v.toNat n):Nat):Int)
 by_cases hv:v<0
 ·simp only [if_pos hv]; omega
 ·simp only [if_neg hv]; omega
theorem wT (lo hi:Option Int) (n:Nat):Builtin.Slice.sliceAdjust lo hi 1 (n:Int)=(((sIx n 0 lo:Nat):Int),((sIx n n hi:Nat):Int)):=by
 have h1:¬ ((1:Int)<0):=by omega
 unfold Builtin.Slice.sliceAdjust
 simp only [h1,if_false]
 refine Prod.ext ?_ ?_
 ·cases lo with
  | none=>rfl
  | some v=>exact xY v n 0
 ·cases hi with
  | none=>rfl
  | some v=>exact xY v n n
theorem vL (i j:Nat):Builtin.Slice.slicePlaces (i:Int) (j:Int) 1=j-i:=by
 unfold Builtin.Slice.slicePlaces
 have h1:(1:Int)>0:=by omega
 simp only [h1,if_true,Int.ediv_one]
 split <;> omega
theorem nW {v:Value} {o:Option Int} {Q:Option Int->Shared->Prop} (p:IsPart v o) (h:Q o s):wpAny (model prog w) A (Builtin.Slice.slicePartIndex v) Q E s:=by
 cases p with
 | none=>exact slicePart_none h
 | int i t=>exact slicePart_int h
theorem gX {sl:Addr} {vl vu:Value} {lo hi:Option Int} {n:Nat} {Q:Int×Int×Nat->Shared->Prop} (hs:s.heap.IsSliceOf sl vl vu .none) (pl:IsPart vl lo) (pu:IsPart vu hi)
  (h:Q (((sIx n 0 lo:Nat):Int),1,sIx n n hi-sIx n 0 lo) s):wpAny (model prog w) A (Builtin.Slice.sliceApplied (.ref sl) (pure (n:Int))) Q E s:=by
 obtain ⟨os,hos,hcs,hds⟩:=id hs
 unfold Builtin.Slice.sliceApplied Builtin.Slice.sliceFields
 refine wpAny_bind (wpAny_bind (wpAny_field hos hds (x:=vl) rfl (wpAny_bind (wpAny_field hos hds (x:=vu) rfl (wpAny_bind (wpAny_field hos hds (x:=.none) rfl (wpAny_pure ?_)))))))
 refine wpAny_bind (slicePart_none ?_)
 show wpAny _ _ (if ((1:Int)==0)=true then _ else _) _ _ s
 rw [if_neg (by decide)]
 refine wpAny_bind (nW pl (wpAny_bind (nW pu (wpAny_bind (wpAny_pure ?_)))))
 show wpAny _ _ (match Builtin.Slice.sliceAdjust lo hi 1 (n:Int) with | (lo,hi)=>pure (lo,(1:Int),Builtin.Slice.slicePlaces lo hi 1)) _ _ s
 rw [wT lo hi n]
 show wpAny _ _ (pure (((sIx n 0 lo:Nat):Int),(1:Int),Builtin.Slice.slicePlaces ((sIx n 0 lo:Nat):Int) ((sIx n n hi:Nat):Int) 1)) _ _ s
 rw [vL]
 exact wpAny_pure h
theorem AJ (xs:Array Value) (i k:Nat):((List.range k).filterMap fun (m:Nat)=>xs[((i:Int)+(m:Int)*1).toNat]?).toArray=((xs.toList.drop i).take k).toArray:=by
 have e:(fun (m:Nat)=>xs[((i:Int)+(m:Int)*1).toNat]?)=fun m=>xs[i+m]?:=by
  funext m
  have:((i:Int)+(m:Int)*1).toNat=i+m:=by omega
  rw [this]
 rw [e]
 have:=pick_run xs i k
 rw [List.filterMap_map] at this
 have e2:((fun x=>xs[x]?) ∘ fun x=>i+x)=fun m=>xs[i+m]?:=rfl
 rw [e2] at this
 rw [this]
theorem kA {t sl:Addr} {items:Array Value} {vl vu:Value} {lo hi:Option Int} {Q:Value->Shared->Prop} (ht:IsTup s.heap t items) (hs:s.heap.IsSliceOf sl vl vu .none) (pl:IsPart vl lo) (pu:IsPart vu hi)
  (hw:¬ (sIx items.size 0 lo=0/\sIx items.size items.size hi=items.size))
  (h:Q (.ref s.heap.objs.size) { s with heap:=s.heap.push { cls:=.type "tuple",data:=.seq ((items.toList.drop (sIx items.size 0 lo)).take (sIx items.size items.size hi-sIx items.size 0 lo)).toArray } })
  (hsz:items.size<=sizeLine):wpAny (model prog w) A (getItem (.ref t) (.ref sl)) Q E s:=by
 have htake:sizeOk (.seq ((items.toList.drop (sIx items.size 0 lo)).take (sIx items.size items.size hi-sIx items.size 0 lo)).toArray):=by
  show ((items.toList.drop (sIx items.size 0 lo)).take (sIx items.size items.size hi-sIx items.size 0 lo)).toArray.size<=sizeLine
  rw [List.size_toArray,List.length_take,List.length_drop,Array.length_toList]
  omega
 have hj:sIx items.size items.size hi<=items.size:=GL _ _ (Nat.le_refl _) hi
 obtain ⟨os,hos,hcs,hds⟩:=id hs
 have hTs:s.TypeIs (.ref sl) "slice":=⟨os,hos,hcs⟩
 unfold getItem
 try with_reducible refine wpAny_holding ?_
 first | refine wpAny_bind (wpAny_pure ?_) | skip
 refine wpAny_bind (wpAny_sequenceKey ht.typeIs (by decide) ?_)
 refine wpAny_bind (wpAny_callSpecial?_slot (name:=Str.ofString "__getitem__") ht.typeIs PyProof.Rows.slot_tuple_getitem
  (wpAny_call_entry PyProof.Rows.slot_tuple_getitem ht.typeIs entry_tuple_getitem ?_ (args_tuple_getitem _ _)))
 show wpAny _ _ (Builtin.Tuple.tupleItemsOf (.ref t) >>= _) _ _ s
 refine wpAny_bind (tupleItemsOf_ ht ?_)
 refine wpAny_bind (wpAny_typeOf hTs ?_)
 rw [if_pos (by decide)]
 refine wpAny_bind (gX hs pl pu ?_)
 have hno:¬ ((((sIx items.size 0 lo:Nat):Int)==0&&(1:Int)==1&&(sIx items.size items.size hi-sIx items.size 0 lo)==items.size)=true):=by
  intro q
  rw [Bool.and_eq_true,Bool.and_eq_true] at q
  have q1:((sIx items.size 0 lo:Nat):Int)=0:=eq_of_beq q.1.1
  have q2:sIx items.size items.size hi-sIx items.size 0 lo=items.size:=eq_of_beq q.2
  exact hw ⟨by omega,by omega⟩
 show wpAny _ _ (if (((sIx items.size 0 lo:Nat):Int)==0&&(1:Int)==1&&(sIx items.size items.size hi-sIx items.size 0 lo)==items.size)=true then _ else _) _ _ s
 rw [if_neg hno,AJ]
 first
  | exact wpAny_bind (m:=Builtin.Tuple.tupleExact _) (wpAny_newObj_type (wpAny_pure ⟨_,rfl,wpAny_pure h⟩) htake)
  | exact wpAny_bind (m:=Builtin.Tuple.tupleExact _) (wpAny_newObj_type (wpAny_bind (wpAny_pure (wpAny_pure ⟨_,rfl,wpAny_pure h⟩))) htake)
  | exact wpAny_bind (wpAny_bind (m:=Builtin.Tuple.tupleExact _) (wpAny_newObj_type (wpAny_pure (wpAny_pure ⟨_,rfl,wpAny_pure h⟩)) htake))
  | exact wpAny_bind (wpAny_bind (m:=Builtin.Tuple.tupleExact _) (wpAny_newObj_type (wpAny_pure ⟨_,rfl,wpAny_pure h⟩) htake))
end
end HT
namespace L2
open PySem PySem.Spec PyProof.Rows
abbrev TO:=St->Hp->(Option Int->Hp->Prop)->Prop
def PO (X:Cx) (e:Option Expr) (t:TO):Prop:=
 ∀ (pins:List (Addr×Obj)) (s:Shared) (σ:St) (H:Hp) (Q:Option Int->Hp->Prop),Inv X pins σ H s->t σ H Q ->
  wpAny (model X.prog X.w) X.A (evalPart e X.env) (fun u s'=>∃ o H',Inv X pins σ H' s'/\IsPart u o/\Q o H') X.xe s
noncomputable def Dh:TO:=fun _ H Q=>Q none H
def Jm (t:TE):TO:=fun σ H Q=>t σ H fun x H1=>∃ i,x=.int i/\Q (some i) H1
section
variable {X:Cx} {e:Expr} {te:TE} {lo hi:Option Expr} {tl th:TO} {pos p2:Pos}
theorem DJ:PO X none Dh:=by
 intro pins s σ H Q I h
 rw [evalPart_none]
 exact wpAny_pure ⟨none,H,I,.none,h⟩
theorem DI (h:PE X e te):PO X (some e) (Jm te):=by
 intro pins s σ H Q I hw
 rw [evalPart_some]
 refine cx (h pins s σ H _ I hw) fun u s1 ⟨x,H1,I1,r1,q1⟩=>?_
 obtain ⟨i,rfl,q⟩:=q1
 obtain ⟨t,rfl⟩:=r1
 exact ⟨some i,H1,I1,.int i t,q⟩
def SlR (X:Cx) (r:V->Option Int->Option Int->Hp->VK->Prop):Prop:=
 ∀ (pins:List (Addr×Obj)) (s:Shared) (σ:St) (H:Hp) (x:V) (v vl vu:Value) (lo hi:Option Int) (sl:Addr) (Q:VK),Inv X pins σ H s->RelV x v->s.heap.IsSliceOf sl vl vu .none->IsPart vl lo->IsPart vu hi->r x lo hi H Q ->
  ∃ T id,typeLookup (.type T) "__getitem__" = pure (some (.builtin id))/\s.TypeIs v T/\wpAny (model X.prog X.w) X.A (getItem v (.ref sl)) (EP X pins σ Q) X.xe s
theorem SlR.or {r r':V->Option Int->Option Int->Hp->VK->Prop} (h:SlR X r) (h':SlR X r'):SlR X (fun x lo hi H Q=>r x lo hi H Q\/r' x lo hi H Q):=by
 intro pins s σ H x v vl vu lo hi sl Q I rx hs pl pu q
 rcases q with q | q
 ·exact h pins s σ H x v vl vu lo hi sl Q I rx hs pl pu q
 ·exact h' pins s σ H x v vl vu lo hi sl Q I rx hs pl pu q
def Op (r:V->Option Int->Option Int->Hp->VK->Prop) (te:TE) (tl th:TO):TE:=fun σ H Q=>te σ H fun x H1=>tl σ H1 fun l H2=>th σ H2 fun u H3=>r x l u H3 Q
theorem AK {r:V->Option Int->Option Int->Hp->VK->Prop} (hr:SlR X r) (he:PE X e te) (hl:PO X lo tl) (hu:PO X hi th):PE X (.Subscript e (.Slice lo hi none p2) pos) (Op r te tl th):=by
 intro pins s σ H Q I h
 refine Subscript_ (cx (he pins s σ H _ I h) fun v s1 ⟨x,H1,I1,r1,q1⟩=>?_)
 refine wpAny_Slice (cx (hl pins s1 σ H1 _ I1 q1) fun vl s2 ⟨l,H2,I2,pl,q2⟩=>cx (hu pins s2 σ H2 _ I2 q2) fun vu s3 ⟨u,H3,I3,pu,q3⟩=>?_)
 rw [evalPart_none]
 refine wpAny_pure ?_
 have I4:Inv X pins σ H3 { s3 with heap:=s3.heap.push { cls:=.type "slice",data:=.fields #[vl,vu,.none] } }:=I3.kept (t':=s3.toks) fun b ob q=>Heap.get?_push_of_some _ q
 obtain ⟨T,id,hT,ht,hg⟩:=hr pins { s3 with heap:=s3.heap.push { cls:=.type "slice",data:=.fields #[vl,vu,.none] } } σ H3 x v vl vu l u s3.heap.objs.size Q I4 r1 (Heap.IsSliceOf.new ..) pl pu q3
 show wpAny (model X.prog X.w) X.A (subscriptTail e (.Slice lo hi none p2) v (.ref s3.heap.objs.size)) (EP X pins σ Q) X.xe { s3 with heap:=s3.heap.push { cls:=.type "slice",data:=.fields #[vl,vu,.none] } }
 exact tail_any (ops:=[.ref s3.heap.objs.size,v]) ht hT hg (by with_unfolding_all rfl)
noncomputable def pO (xs:List V) (lo hi:Option Int):List V:=(xs.drop (HT.sIx xs.length 0 lo)).take (HT.sIx xs.length xs.length hi-HT.sIx xs.length 0 lo)
theorem mK (xs:List V) (lo hi:Option Int):(pO xs lo hi).length<=xs.length:=by
 unfold pO
 rw [List.length_take,List.length_drop]
 omega
def Mo (K:PySem.W.Frag):V->Option Int->Option Int->Hp->VK->Prop:=fun x lo hi H Q=>∃ a xs,x=.ref a/\SqT K H a xs /\
 ¬ (HT.sIx xs.length 0 lo=0/\HT.sIx xs.length xs.length hi=xs.length)/\∀ p,H p=none->Q (.ref p) (upd H p (.tup (pO xs lo hi)))
theorem sl_tup:SlR X (Mo X.K):=by
 intro pins s σ H x v vl vu lo hi sl Q I rx hs pl pu h
 obtain ⟨a,xs,rfl,hx,hw,q⟩:=h
 cases rx
 obtain ⟨its,r,ht,hz⟩:=I.tuple hx
 have hlen:its.toArray.size=xs.length:=by rw [List.size_toArray]; exact r.length.symm
 refine ⟨"tuple",_,PyProof.Rows.slot_tuple_getitem.lookup,ht.typeIs,?_⟩
 refine HT.kA ht hs pl pu (by rw [hlen]; exact hw) ?_ (by rw [hlen]; exact hz)
 rw [hlen]
 refine ⟨.ref s.heap.objs.size,_,I.laid (t':=s.toks) (o:=.tup (pO xs lo hi)) (fun b ob q=>Heap.get?_push_of_some _ q) (Nat.le_refl _) ?_,rfl,q _ (I.hok.fresh (Nat.le_refl _))⟩
 exact ⟨Nat.le_trans (mK xs lo hi) hz,_,(r.drop (HT.sIx xs.length 0 lo)).take (HT.sIx xs.length xs.length hi-HT.sIx xs.length 0 lo),IsTup.new _ _,NoDi.new _ _⟩
def JL (K:PySem.W.Frag):R2:=fun x y H Q=>∃ a b xs ys,x=.ref a/\y=.ref b/\SqT K H a xs/\SqT K H b ys/\xs≠[]/\xs.length+ys.length<=sizeLine /\
 (ys=[]->Q (.ref a) H)/\(ys≠[]->∀ p,H p=none->Q (.ref p) (upd H p (.tup (xs++ys))))
theorem Vals.nil_iff {xs:List V} {us:List Value} (r:Vals xs us):us=[]↔xs=[]:=by
 cases r with
 | nil=>simp
 | cons _ _=>simp
theorem DW:OpR X (binaryOp .Add) (JL X.K):=by
 intro pins s σ H x y v u Q I rx ry h
 obtain ⟨a,b,xs,ys,rfl,rfl,ha,hb,hx,hz,q1,q2⟩:=h
 cases rx
 cases ry
 obtain ⟨its,r1,p1,_⟩:=I.tuple ha
 obtain ⟨its2,r2,p2,_⟩:=I.tuple hb
 refine HT.Fj p1 p2 (fun z=>hx (r1.nil_iff.mp z)) (fun z=>⟨.ref a,H,I,rfl,q1 (r2.nil_iff.mp z)⟩) (fun z=>?_) (by rw [<- r1.length,<- r2.length]; exact hz)
 refine ⟨.ref s.heap.objs.size,_,I.laid (t':=s.toks) (o:=.tup (xs++ys)) (fun b ob q=>Heap.get?_push_of_some _ q) (Nat.le_refl _) ?_,rfl,q2 (fun w=>z (r2.nil_iff.mpr w)) _ (I.hok.fresh (Nat.le_refl _))⟩
 exact ⟨by rw [List.length_append]; exact hz,_,r1.append r2,IsTup.new _ _,NoDi.new _ _⟩
end
end L2
namespace L2
open PySem PySem.Spec PyProof.Rows
noncomputable def HL (n:Nat) (i:Int):Option Nat:=if 0<=i then (if i<n then some i.toNat else none) else if -(n:Int)<=i then some (i+n).toNat else none
noncomputable def jl {α:Type} (xs:List α) (i:Int):Option α:=(HL xs.length i).bind fun j=>xs[j]?
theorem EK {n:Nat} {i:Int} {j:Nat} (h:HL n i=some j):seqIndex? i n=some j/\j<n /\ -(n:Int)<=i/\i<n:=by
 unfold HL at h
 by_cases h0:0<=i
 ·rw [if_pos h0] at h
  by_cases h1:i<n
  ·rw [if_pos h1] at h
   have e:i.toNat=j:=Option.some.inj h
   exact ⟨by rw [seqIndex_of h0 h1,e],by omega,by omega,h1⟩
  ·rw [if_neg h1] at h; cases h
 ·rw [if_neg h0] at h
  by_cases h1:-(n:Int)<=i
  ·rw [if_pos h1] at h
   have e:(i+n).toNat=j:=Option.some.inj h
   exact ⟨by rw [seqIndex_neg (by omega) h1,e],by omega,h1,by omega⟩
  ·rw [if_neg h1] at h; cases h
theorem yc {α:Type} {xs:List α} {i:Int} {v:α} (h:jl xs i=some v):∃ j,seqIndex? i xs.length=some j/\xs[j]? = some v/\j<xs.length /\ -(xs.length:Int)<=i/\i<xs.length:=by
 unfold jl at h
 cases e:HL xs.length i with
 | none=>rw [e] at h; cases h
 | some j=>
  rw [e] at h
  obtain ⟨h1,h2,h3,h4⟩:=EK e
  exact ⟨j,h1,h,h2,h3,h4⟩
def sI (b:Expr):Prop:=∀ o i,subscripted b false o i=operate [o,i] (getItem o i)
def IxR (X:Cx) (r:R2):Prop:=
 ∀ (value slice:Expr) (pins:List (Addr×Obj)) (s:Shared) (σ:St) (H:Hp) (x y:V) (v u:Value) (Q:VK),Inv X pins σ H s->RelV x v->RelV y u->r x y H Q ->
  subscripted slice false v u=operate [v,u] (getItem v u)->wpAny (model X.prog X.w) X.A (subscriptTail value slice v u) (EP X pins σ Q) X.xe s
def Nm (X:Cx) (id:String) (r:V->List V->Hp->VK->Prop):Prop:=
 ∀ (pins:List (Addr×Obj)) (s:Shared) (σ:St) (H:Hp) (x:V) (xs:List V) (v:Value) (us:List Value) (Q:VK),Inv X pins σ H s->RelV x v->Vals xs us->r x xs H Q ->
  wpAny (model X.prog X.w) X.A (call (.builtin id) (v::us)) (EP X pins σ Q) X.xe s
section
variable {X:Cx} {a b:Expr} {ta tb:TE} {pos:Pos}
theorem IxR.or {r r':R2} (h:IxR X r) (h':IxR X r'):IxR X (fun x y H Q=>r x y H Q\/r' x y H Q):=by
 intro value slice pins s σ H x y v u Q I rx ry q hs
 rcases q with q | q
 ·exact h value slice pins s σ H x y v u Q I rx ry q hs
 ·exact h' value slice pins s σ H x y v u Q I rx ry q hs
theorem FO {r:R2} (hr:IxR X r) (ha:PE X a ta) (hb:PE X b tb) (hs:sI b):PE X (.Subscript a b pos) (Jn r ta tb):=by
 intro pins s σ H Q I h
 exact Subscript_ (Ix ha hb I h fun v u s2 x y H2 I2 rx ry q=>hr a b pins s2 σ H2 x y v u Q I2 rx ry q (hs _ _))
def Mr (K:PySem.W.Frag):R2:=fun x y H Q=>∃ p xs i v,x=.ref p/\y=.int i/\SqL K H p xs/\jl xs i=some v/\Q v H
def Mq (K:PySem.W.Frag):R2:=fun x y H Q=>∃ p xs i v,x=.ref p/\y=.int i/\SqT K H p xs/\jl xs i=some v/\Q v H
theorem ix_list:IxR X (Mr X.K):=by
 intro value slice pins s σ H x y v u Q I rx ry h hs
 obtain ⟨p,xs,i,z,rfl,rfl,hq,he,q⟩:=h
 cases rx
 obtain ⟨t,rfl⟩:=ry
 obtain ⟨its,r,pl,hz⟩:=I.list hq
 obtain ⟨j,h1,h2,h3,h4,h5⟩:=yc he
 obtain ⟨w,ew,rw'⟩:=r.get h2
 have hl:=r.length
 have hn:=vX
 have fin:EP X pins σ Q w s:=⟨z,H,I,rw',q⟩
 by_cases h0:0<=i
 ·have hj:i.toNat=j:=by
   rw [seqIndex_of h0 h5] at h1
   exact Option.some.inj h1
  exact item_listR pl.isList h0 (by omega) (by rw [hj]; simpa using ew) fin hs
 ·have hj:(i+(its.toArray.size:Int)).toNat=j:=by
   rw [seqIndex_neg (by omega) h4] at h1
   rw [List.size_toArray,<- hl]
   exact Option.some.inj h1
  exact subscriptTail_builtinR (x:=w) pl.isList.typeIs slot_list_getitem.lookup
   (wpAny_getItem_list_neg (Q:=fun r s'=>r=w/\EP X pins σ Q r s') pl.isList (by omega) (by rw [List.size_toArray] <;> omega) (by omega) (by rw [hj]; simpa using ew) ⟨rfl,fin⟩) hs
theorem HK:IxR X (Mq X.K):=by
 intro value slice pins s σ H x y v u Q I rx ry h hs
 obtain ⟨p,xs,i,z,rfl,rfl,hq,he,q⟩:=h
 cases rx
 obtain ⟨t,rfl⟩:=ry
 obtain ⟨its,r,pl,hz⟩:=I.tuple hq
 obtain ⟨j,h1,h2,h3,h4,h5⟩:=yc he
 obtain ⟨w,ew,rw'⟩:=r.get h2
 have hl:=r.length
 have hn:=vX
 have fin:EP X pins σ Q w s:=⟨z,H,I,rw',q⟩
 exact subscriptTail_builtinR (x:=w) pl.typeIs slot_tuple_getitem.lookup
  (getItem_tuple (j:=j) (Q:=fun r s'=>r=w/\EP X pins σ Q r s') pl (by omega) (by omega) (by rw [List.size_toArray,<- hl]; exact h1) (by simpa using ew) ⟨rfl,fin⟩) hs
theorem qW (lo hi:Option Int) (n:Nat):(sliceBounds lo hi none n).1=((HT.sIx n 0 lo:Nat):Int)/\(sliceBounds lo hi none n).2.1=((HT.sIx n n hi:Nat):Int)/\(sliceBounds lo hi none n).2.2=1:=by
 refine ⟨?_,?_,rfl⟩
 ·cases lo with
  | none=>simp [sliceBounds,HT.sIx]
  | some i=>
   simp only [sliceBounds,HT.sIx,Option.getD_none,show (1:Int)>0 by decide,if_true]
   by_cases h:i<0
   ·simp only [h,if_true] <;> omega
   ·simp only [h,if_false] <;> omega
 ·cases hi with
  | none=>simp [sliceBounds,HT.sIx]
  | some i=>
   simp only [sliceBounds,HT.sIx,Option.getD_none,show (1:Int)>0 by decide,if_true]
   by_cases h:i<0
   ·simp only [h,if_true] <;> omega
   ·simp only [h,if_false] <;> omega
theorem pD (its:List Value) (lo hi:Option Int):slicePick its.toArray lo hi none=((its.drop (HT.sIx its.length 0 lo)).take (HT.sIx its.length its.length hi-HT.sIx its.length 0 lo)).toArray:=by
 obtain ⟨h1,h2,h3⟩:=qW lo hi its.toArray.size
 unfold slicePick
 rw [h1,h2,h3]
 simp only [sliceRange_one,pick_run,List.size_toArray] <;> rfl
def Mp (K:PySem.W.Frag):V->Option Int->Option Int->Hp->VK->Prop:=fun x lo hi H Q=>∃ a xs,x=.ref a/\SqL K H a xs/\∀ p,H p=none->Q (.ref p) (upd H p (.lst (pO xs lo hi)))
theorem sl_list:SlR X (Mp X.K):=by
 intro pins s σ H x v vl vu lo hi sl Q I rx hs pl pu h
 obtain ⟨a,xs,rfl,hx,q⟩:=h
 cases rx
 obtain ⟨its,r,ht,hz⟩:=I.list hx
 have hlen:=r.length
 refine ⟨"list",_,slot_list_getitem.lookup,ht.isList.typeIs,?_⟩
 refine wpAny_getItem_list_slice ht.isList hs pl pu .none (by simp) ?_ (by rw [List.size_toArray] <;> omega)
 rw [pD,<- hlen]
 refine ⟨.ref s.heap.objs.size,_,I.laid (t':=s.toks) (o:=.lst (pO xs lo hi)) (fun b ob q=>Heap.get?_push_of_some _ q) (Nat.le_refl _) ?_,rfl,q _ (I.hok.fresh (Nat.le_refl _))⟩
 exact ⟨Nat.le_trans (mK xs lo hi) hz,_,0,(r.drop (HT.sIx xs.length 0 lo)).take (HT.sIx xs.length xs.length hi-HT.sIx xs.length 0 lo),Heap.get?_push_size _ rfl⟩
noncomputable def gC:V->Bool
 | .non=>true
 | .bl _=>true
 | .int _=>true
 | .str _=>true
 | _=>false
noncomputable def C0:V->V->Bool
 | .non,.non=>true
 | .bl a,.bl b=>a==b
 | .bl a,.int b=>(if a then 1 else 0)==b
 | .int a,.bl b=>a==(if b then 1 else 0)
 | .int a,.int b=>a==b
 | .str a,.str b=>a==b
 | _,_=>false
theorem Ih {A:Around} {s:Shared} {y x:V} {u v:Value} (ry:RelV y u) (rx:RelV x v) (fy:gC y=true) (fx:gC x=true):SeqAt.EqAt A s u v (C0 y x):=by
 cases y with
 | non=>
  cases ry
  cases x with
  | non=>cases rx; exact SeqAt.EqAt.same _
  | bl b=>cases rx; exact SeqAt.EqAt.none_bool b
  | int b=>obtain ⟨t,rfl⟩:=rx; exact SeqAt.EqAt.none_int b t
  | str b=>obtain ⟨t,rfl⟩:=rx; exact SeqAt.EqAt.none_str b t
  | _=>exact absurd (show false=true from fx) Bool.false_ne_true
 | bl a=>
  cases ry
  cases x with
  | non=>cases rx; exact SeqAt.EqAt.bool_none a
  | bl b=>cases rx; exact SeqAt.EqAt.bool_bool a b
  | int b=>obtain ⟨t,rfl⟩:=rx; exact SeqAt.EqAt.bool_int a b t
  | str b=>obtain ⟨t,rfl⟩:=rx; exact SeqAt.EqAt.bool_str a b t
  | _=>exact absurd (show false=true from fx) Bool.false_ne_true
 | int a=>
  obtain ⟨t',rfl⟩:=ry
  cases x with
  | non=>cases rx; exact SeqAt.EqAt.int_none a t'
  | bl b=>cases rx; exact SeqAt.EqAt.int_bool a t' b
  | int b=>obtain ⟨t,rfl⟩:=rx; exact SeqAt.EqAt.int_int a t' b t
  | str b=>obtain ⟨t,rfl⟩:=rx; exact SeqAt.EqAt.int_str a t' b t
  | _=>exact absurd (show false=true from fx) Bool.false_ne_true
 | str a=>
  obtain ⟨t',rfl⟩:=ry
  cases x with
  | non=>cases rx; exact SeqAt.EqAt.str_none a t'
  | bl b=>cases rx; exact SeqAt.EqAt.str_bool a t' b
  | int b=>obtain ⟨t,rfl⟩:=rx; exact SeqAt.EqAt.str_int a t' b t
  | str b=>obtain ⟨t,rfl⟩:=rx; exact SeqAt.EqAt.str_str a t' b t
  | _=>exact absurd (show false=true from fx) Bool.false_ne_true
 | _=>exact absurd (show false=true from fy) Bool.false_ne_true
noncomputable def zB (x:V) (u:Value):Bool:=match u with
 | .none=>C0 .non x
 | .bool b=>C0 (.bl b) x
 | .int i _=>C0 (.int i) x
 | .str z _=>C0 (.str z) x
 | _=>false
theorem B1 {x y:V} {u:Value} (r:RelV y u) (f:gC y=true):zB x u=C0 y x:=by
 cases y with
 | non=>cases r; rfl
 | bl b=>cases r; rfl
 | int i=>obtain ⟨t,rfl⟩:=r; rfl
 | str z=>obtain ⟨t,rfl⟩:=r; rfl
 | _=>exact absurd (show false=true from f) Bool.false_ne_true
theorem sH {x:V}:∀ {xs:List V} {us:List Value},Vals xs us->xs.all gC=true->us.any (zB x)=xs.any fun y=>C0 y x
 | _,_,.nil,_=>rfl
 | y::xs,u::us,.cons r t,f=>by
  rw [List.all_cons,Bool.and_eq_true] at f
  rw [List.any_cons,List.any_cons,B1 r f.1,sH t f.2]
theorem oB {A:Around} {s:Shared} {x:V} {v:Value} (rx:RelV x v) (fx:gC x=true):∀ {xs:List V} {us:List Value},Vals xs us->xs.all gC=true->∀ u∈us,SeqAt.EqAt A s u v (zB x u)
 | _,_,.nil,_=>fun u hu=>by cases hu
 | y::xs,u::us,.cons r t,f=>fun u' hu=>by
  rw [List.all_cons,Bool.and_eq_true] at f
  rcases List.mem_cons.mp hu with rfl | hu
  ·rw [B1 r f.1]; exact Ih r rx f.1 fx
  ·exact oB rx fx t f.2 u' hu
noncomputable def LC (x:V) (xs:List V):Bool:=xs.any fun y=>C0 y x
def Ms (K:PySem.W.Frag) (neg:Bool):R2:=fun x y H Q=>∃ p xs,y=.ref p/\(SqL K H p xs\/SqT K H p xs)/\gC x=true/\xs.all gC=true/\Q (.bl (if neg then !LC x xs else LC x xs)) H
theorem yL:OpR X (compareOp .In) (Ms X.K false):=by
 intro pins s σ H x y v u Q I rx ry h
 obtain ⟨p,xs,rfl,hq,fx,fs,q⟩:=h
 cases ry
 rcases hq with hq | hq
 ·obtain ⟨its,r,pl,hz⟩:=I.list hq
  refine SeqAt.in_listAt (zB x) pl.isList (fun w hw=>oB rx fx r fs w (by simpa using hw)) ⟨.bl _,H,I,rfl,?_⟩
  rw [show its.toArray.any (zB x)=its.any (zB x) by simp,sH r fs]
  exact q
 ·obtain ⟨its,r,pl,hz⟩:=I.tuple hq
  refine SeqAt.in_tupleAt (zB x) pl (fun w hw=>oB rx fx r fs w (by simpa using hw)) ⟨.bl _,H,I,rfl,?_⟩
  rw [show its.toArray.any (zB x)=its.any (zB x) by simp,sH r fs]
  exact q
theorem pP:CallR X (.type "tuple") (fun xs H Q=>∃ p ys,xs=[.ref p]/\((SqL X.K H p ys/\∀ l,H l=none->Q (.ref l) (upd H l (.tup ys)))\/(SqT X.K H p ys/\Q (.ref p) H))):=by
 intro pins s σ H xs us Q I r h
 obtain ⟨p,ys,rfl,h⟩:=h
 obtain ⟨u,rfl,rx⟩:=nJ r
 cases rx
 rcases h with ⟨hq,q⟩ | ⟨hq,q⟩
 ·obtain ⟨its,r',pl,hz⟩:=I.list hq
  have hlen:=r'.length
  refine call_tuple_list pl.isList (fun h' kp=>?_) (by simp only [List.size_toArray] <;> omega)
  have I1:Inv X pins σ H { s with heap:=h' }:=I.kept (t':=s.toks) kp
  have I2:Inv X pins σ (upd H h'.objs.size (.tup ys)) { s with heap:=h'.push { cls:=.type "tuple",data:=.seq its.toArray } }:=
   I1.laid (t':=s.toks) (fun b o e=>Heap.get?_push_of_some _ e) (Nat.le_refl _) (show ObjOk X.prog X.w _ _ _ (.tup ys) from ⟨hz,its,r',IsTup.new _ _,NoDi.new _ _⟩)
  exact ⟨.ref h'.objs.size,_,I2,rfl,q _ (I1.hok.fresh (Nat.le_refl _))⟩
 ·obtain ⟨its,r',pl,hz⟩:=I.tuple hq
  exact call_tuple_same pl ⟨.ref p,H,I,rfl,q⟩
def LR (K:PySem.W.Frag) (T:String) (x:V) (H:Hp):Prop:=match x with
 | .str _=>T = "str"
 | .int _=>T = "int"
 | .ref p=>(T = "list" /\ ∃ xs,SqL K H p xs)\/(T = "tuple" /\ ∃ o,K.lookup p=some o/\o.cls=.type "tuple" /\ o.dict=none) \/
   (T = "dict" /\ ((∃ kvs,H p=some (.dK kvs))\/∃ kvs,H p=some (.dT kvs)))\/(T = "set" /\ ∃ S n,H p=some (.set S n))
 | _=>False
theorem zW {pins:List (Addr×Obj)} {σ:St} {H:Hp} {s:Shared} {T:String} {x:V} {v:Value} (I:Inv X pins σ H s) (r:RelV x v) (ty:LR X.K T x H) :
  s.TypeIs v T/\∀ a,v=.ref a->∃ ob,s.heap.get? a=some ob/\ob.dict=none:=by
 cases x with
 | str z=>
  obtain ⟨t,rfl⟩:=r
  cases (show T = "str" from ty)
  exact ⟨typeIs_str s z t,fun _ e=>nomatch e⟩
 | int i=>
  obtain ⟨t,rfl⟩:=r
  cases (show T = "int" from ty)
  exact ⟨typeIs_int s i t,fun _ e=>nomatch e⟩
 | ref p=>
  cases r
  rcases ty with ⟨rfl,xs,hq⟩ | ⟨rfl,o,hk,hc,hd⟩ | ⟨rfl,hk⟩ | ⟨rfl,S,n,hk⟩
  ·obtain ⟨its,_,pl,_⟩:=I.list hq
   refine ⟨pl.isList.typeIs,fun a e=>?_⟩
   cases e
   obtain ⟨o,n,e,c,hd,_⟩:=pl
   exact ⟨o,e,hd⟩
  ·refine ⟨⟨o,I.kIn p o hk,hc⟩,fun a e=>?_⟩
   cases e
   exact ⟨o,I.kIn _ o hk,hd⟩
  ·have z:∃ o,s.heap.get? p=some o/\o.ExactDict:=by
    rcases hk with ⟨kvs,hk⟩ | ⟨kvs,hk⟩
    ·obtain ⟨_,_,_,_,o,_,_,e,ex,_⟩:=I.hok p _ hk
     exact ⟨o,e,ex⟩
    ·obtain ⟨_,_,_,_,o,_,_,e,ex,_⟩:=I.hok p _ hk
     exact ⟨o,e,ex⟩
   obtain ⟨o,e,ex⟩:=z
   refine ⟨⟨o,e,ex.1⟩,fun a e2=>?_⟩
   cases e2
   exact ⟨o,e,ex.2.1⟩
  ·obtain ⟨o,_,_,_,e,ex,_⟩:=I.hok p _ hk
   refine ⟨⟨o,e,ex.1⟩,fun a e2=>?_⟩
   cases e2
   exact ⟨o,e,ex.2.1⟩
 | _=>exact False.elim ty
def Mc (K:PySem.W.Frag) (T:String) (r:V->List V->Hp->VK->Prop) (to:TE):TE:=fun σ H Q=>to σ H fun x H1=>LR K T x H1/\r x [] H1 Q
def Ot (K:PySem.W.Frag) (T:String) (r:V->List V->Hp->VK->Prop) (to:TE) (t:TA):TE:=fun σ H Q=>to σ H fun x H1=>LR K T x H1/\t σ H1 fun xs H2=>r x xs H2 Q
variable {o e:Expr} {es:List Expr} {to:TE} {t:TA} {name:Str} {apos cpos:Pos} {T id:String} {r:V->List V->Hp->VK->Prop}
theorem G6 (pa:PlainAttrs T) (slot:Slot T name id) (hty:typeOf (.builtin id)=pure (.type "method_descriptor")) (hm:Nm X id r) (ho:PE X o to)
  (hbase:attributeBase o name X.env (eval o X.env)=eval o X.env:=by rfl) (hline:(apos.endLine==cpos.line)=true:=by rfl):PE X (.Call (.Attribute o name apos) [] [] cpos) (Mc X.K T r to):=by
 intro pins s σ H Q I h
 refine wpAny_Call_method0_late hbase hline (cx (ho pins s σ H _ I h) fun v s1 ⟨x,H1,I1,r1,ty,q1⟩=>?_)
 obtain ⟨h1,h2⟩:=zW I1 r1 ty
 exact ⟨T,id,pa,slot,hty,h1,h2,Calls.callWith_builtin rfl (PySem.evalArgs_none (hm pins s1 σ H1 x [] v [] Q I1 r1 .nil q1))⟩
theorem FP (pa:PlainAttrs T) (slot:Slot T name id) (hty:typeOf (.builtin id)=pure (.type "method_descriptor")) (hm:Nm X id r) (ho:PE X o to) (ha:PA X (e::es) t)
  (hbase:attributeBase o name X.env (eval o X.env)=eval o X.env:=by rfl)
  (hfew:((backTo cpos (starEach (e::es) X.env)).all (fun x=>!x.1)&&(backToKw cpos (keywordEach [] X.env)).all (fun x=>x.1.isSome)
   && decide ((e::es).length+([]:List Keyword).length+(if ([]:List Keyword).isEmpty then 0 else 1)<30))=true:=by rfl)
  (hline:(apos.endLine==cpos.line)=true:=by rfl) (hs:starEach (e::es) X.env=(false,eval e X.env)::starEach es X.env:=by rfl) (hplain:(backTo cpos (starEach es X.env)).any (·.1)=false:=by rfl) :
  PE X (.Call (.Attribute o name apos) (e::es) [] cpos) (Ot X.K T r to t):=by
 intro pins s σ H Q I h
 refine wpAny_Call_method_late hbase hfew hline rfl (cx (ho pins s σ H _ I h) fun v s1 ⟨x,H1,I1,r1,ty,q1⟩=>?_)
 obtain ⟨h1,h2⟩:=zW I1 r1 ty
 refine ⟨T,id,pa,slot,hty,h1,h2,?_⟩
 have hA:=ha cpos pins s1 σ H1 _ I1 q1
 rw [hs] at hA ⊢
 refine Calls.callWith_builtin (by show (false||(backTo cpos (starEach es X.env)).any (·.1))=false; rw [hplain] <;> rfl) (Calls.evalArgs_plain ?_)
 exact cx hA fun us s2 ⟨vs,H2,I2,r2,q2⟩=>hm pins s2 σ H2 x vs v us Q I2 r1 r2 q2
end
end L2
namespace L2
open PySem PySem.Spec PyProof.Rows
def N4 (X:Cx) (id:String) (r:V->List V->Hp->VK->Prop):Prop:=
 ∀ (pins:List (Addr×Obj)) (s:Shared) (σ:St) (H:Hp) (x:V) (xs:List V) (v:Value) (us:List Value) (Q:VK),Inv X pins σ H s->RelV x v->Vals xs us->r x xs H Q ->
  wpAny (model X.prog X.w) X.A (call (.builtin id) (v::us)) (EP X pins σ Q) X.xe s
theorem Vals.one:∀ {x:V} {us:List Value},Vals [x] us->∃ u,us=[u]/\RelV x u
 | _,_,h=>by
  cases h with
  | cons r t=>
   cases t
   exact ⟨_,rfl,r⟩
theorem Vals.rep {xs:List V} {us:List Value} (h:Vals xs us):∀ k:Nat,Vals (List.replicate k xs).flatten (List.replicate k us).flatten
 | 0=>.nil
 | k+1=>by
  rw [List.replicate_succ,List.replicate_succ,List.flatten_cons,List.flatten_cons]
  exact Vals.append h (Vals.rep h k)
section
variable {X:Cx} {pins:List (Addr×Obj)} {σ:St} {H:Hp} {s:Shared} {l b:Addr} {xs ys zs:List V}
theorem Inv.lset {its its':List Value} {n:Nat} {f:Array Value->Array Value} {t':Nat} (I:Inv X pins σ H s) (hH:H l=some (.lst xs))
  (e:s.heap.get? l=some { cls:=.type "list",data:=.seq its.toArray n }) (hf:f its.toArray=its'.toArray) (hv:Vals ys its') (hz:ys.length<=sizeLine) :
  Inv X pins σ (upd H l (.lst ys)) { s with heap:=s.heap.update l (Obj.mapSeq f),toks:=t' }:=by
 have q:=PySem.IsL.update e f
 rw [hf] at q
 refine I.write (x:=l) (e:=l) (by rw [hH]; exact trivial) (.inl rfl) (fun b' u hb hu=>(Heap.get?_update_other s.heap (Obj.mapSeq f) (Ne.symm hb)).trans hu) ⟨_,q⟩ ?_
 exact ⟨hz,its',_,hv,q⟩
theorem Inv.lnew {its:List Value} {t':Nat} (I:Inv X pins σ H s) (hv:Vals ys its) (hz:ys.length<=sizeLine) :
  Inv X pins σ (upd H s.heap.objs.size (.lst ys)) { s with heap:=s.heap.push { cls:=.type "list",data:=.seq its.toArray },toks:=t' }:=
 I.laid (fun _ _ q=>Heap.get?_push_of_some _ q) (Nat.le_refl _) ⟨hz,its,0,hv,Heap.get?_push_size _ rfl⟩
theorem Inv.fresh (I:Inv X pins σ H s):H s.heap.objs.size=none:=I.hok.fresh (Nat.le_refl _)
theorem Inv.lstM (I:Inv X pins σ H s) (hH:H l=some (.lst xs)):xs.length<=sizeLine/\∃ (its:List Value) (n:Nat),Vals xs its/\xs.length=its.length/\s.heap.get? l=some { cls:=.type "list",data:=.seq its.toArray n }:=by
 obtain ⟨z,its,n,r,e⟩:=I.hok l _ hH
 exact ⟨z,its,n,r,r.length,e⟩
theorem Ba {n:Nat} (h:n<=sizeLine):Builtin.List.listTooLong n=false:=by
 unfold Builtin.List.listTooLong
 exact decide_eq_false (by omega)
end
section
variable {X:Cx}
def Dx:V->List V->Hp->VK->Prop:=fun x vs H Q=>∃ l xs y,x=.ref l/\vs=[y]/\H l=some (.lst xs)/\xs.length<sizeLine/\Q .non (upd H l (.lst (xs++[y])))
theorem za:N4 X "list.append" Dx:=by
 intro pins s σ H x vs v us Q I rx rv h
 obtain ⟨l,xs,y,rfl,rfl,hH,hz,q⟩:=h
 cases rx
 obtain ⟨u,rfl,ru⟩:=rv.one
 obtain ⟨z,its,n,r,hl,e⟩:=I.lstM hH
 refine call_meets F.slot_list_append ⟨_,e,rfl⟩ F.entry_list_append (F.args_list_append_2 _ _) (PySem.list_append l its.toArray n u (by rw [List.size_toArray]; omega)) ⟨e,?_⟩
 refine ⟨.non,_,I.lset (its':=its++[u]) hH e (by simp) (r.append (.cons ru .nil)) ?_,rfl,q⟩
 rw [List.length_append,List.length_singleton]
 omega
end
end L2
namespace Att
open PySem PySem.W PySem.Calls PyProof.Rows
theorem mX {P:Params} {h:Heap}:∀ (ns:List Int) (vs:List Value),WellAll P h vs (ns.map WData.int)->IntsAre vs ns:=by
 intro ns
 induction ns with
 | nil=>
  intro vs w
  rw [List.map_nil] at w
  cases w
  exact .nil
 | cons n ns ih=>
  intro vs w
  rw [List.map_cons] at w
  cases w with
  | cons a b=>
   cases a
   exact .cons _ _ (ih _ b)
theorem yA {l:OpenLaw} {n:Nat} (hn:l.most=some n) {P:Params} {h:Heap} {args:List WData} {vals:List Value}
  (hpre:l.row.toRowW.claim.pre args=true) (hwl:WellAll P h vals args) :
  ∃ a vs ns,vals=[Value.ref a]/\args=[WData.list (ns.map WData.int)]/\h.get? a=some { cls:=.type "list",data:=.seq vs.toArray }/\IntsAre vs ns/\ns.length<=n:=by
 have hsh:WShape.hasAll [] args [.list .int]=true:=(pre_splitW hpre).1
 have hc:l.pre.holds [] { args:=args }=true:=(pre_splitW hpre).2
 obtain ⟨d,r,rfl,h1,h2⟩:=hasAllW_cons hsh
 obtain rfl:=hasAllW_nil h2
 obtain ⟨xs,rfl,h3⟩:=hasW_list h1
 obtain ⟨ns,rfl⟩:=items_int h3
 have hlen:ns.length<=n:=by
  unfold OpenLaw.pre at hc
  have h4:(WTm.not (.lt (.lit (.int (n:Int))) (.len (.arg 0)))).holds [] { args:=[.list (ns.map .int)] }=true:=by
   have h4:=(holds_andW hc).1
   rw [hn] at h4
   exact h4
  have h5:=condW_of h4 (w_not (w_lt w_lit (w_len_list (w_arg rfl))))
  rw [List.length_map] at h5
  refine Nat.le_of_not_lt fun q=>?_
  have q':(n:Int)<((ns.length:Nat):Int):=by omega
  first
   | (rw [decide_eq_true q'] at h5; exact absurd h5 (by decide))
   | (simp at h5; omega)
 cases hwl with
 | cons w1 w2=>
  cases w2
  cases w1 with
  | list ho hall=>exact ⟨_,_,ns,rfl,rfl,ho,mX ns _ hall,hlen⟩
theorem yF (l:OpenLaw) (args:List WData):l.row.toRowW.claim.post args (.bool true) args=true:=
 postW_of (r:=l.row.toRowW) (X:=(true==true))
  (show WShape.has [] (.bool true) .bool=true by first | rfl | decide | simp [WShape.has,WShape.arms,WShape.armsAll])
  (show (WTm.eq .res (.lit (.bool true))).value [] { args:=args,res:=some (.bool true),after:=args }=some (.bool (true==true)) from w_eq_bool (w_res rfl) w_lit) rfl
theorem vd {l:OpenLaw} {n:Nat} {q:Program} {loose:List Str} {XP:(Str->Option Value)->Heap->Prop} {YP:World->Heap->Prop} {d:DefRec}
  (hn:l.most=some n) (hdf:d.params.defaults=[])
  (call:∀ (w:World) (s₀ s₁:Shared) (mg mb:Str->Option Value) (fa:Addr) (o:Obj) (pm cd doc:Value) (a:Addr) (vs:List Value) (ns:List Int),
   Ground q loose [] XP w s₀ mg mb s₁.heap->YP w s₁.heap ->
   s₁.heap.get? fa=some o->o.data=.func (docDef d.name d.params d.body d.scope pm cd doc)->s₁.heap.CodeRec cd d.name->mg d.name=some (.ref fa) ->
   s₁.heap.get? a=some { cls:=.type "list",data:=.seq vs.toArray }->IntsAre vs ns->ns.length<=n->s₁.gens = #[] ->
   codeAny (model l.prog w) callerA (.call (.ref fa) ⟨[.ref a],[]⟩) (fun r s'=>r=.ok (.ret (.bool true))/\OldK s₁.heap s'.heap/\s'.os=s₁.os/\AllBare s'.gens) s₁) :
  WalkO q loose XP YP l.row.toRowW d [] (fun f vs=>PySem.call f vs):=by
 intro w s₀ s₁ mg mb G Y fa o pm cd doc dV kV ho hd hcd hD hmg hg args vals as hpre hlay hrd hwl hlo
 obtain rfl:dV=.none:=Dflts.none hD hdf
 obtain rfl:kV=.none:=Dflts.noKw hD
 obtain ⟨a,vs,ns,rfl,rfl,hobj,hints,hlen⟩:=yA hn hpre hwl
 refine enter_call (codeAny_mono (call w s₀ s₁ mg mb fa o pm cd doc a vs ns G Y ho (fd_plain hd) hcd hmg hobj hints hlen hg) fun r s' hq=>?_)
 obtain ⟨rfl,h2,h3,h4⟩:=hq
 exact ⟨.inl ⟨.bool true,.bool true,[],rfl,fun _=>rfl,.bool true,yF l _,fun _=>⟨List.Pairwise.nil,fun _ hm=>(nomatch hm)⟩⟩,h2,h3,h4⟩
section
variable {prog:Program} {w:World} {A:Around} {E:Value->Shared->Prop} {s:Shared} {K:Frag}
noncomputable def MJ (h:Heap) (L d:Addr):List (Addr×Obj):=(List.range h.objs.size).filterMap fun a=>if a=L\/a=d then none else (h.get? a).map fun o=>(a,o)
end
end Att
namespace L2
open PySem PySem.Spec PyProof.Rows
theorem gU:∀ {vs:List Value} {ns:List Int},IntsAre vs ns->Vals (ns.map V.int) vs
 | _,_,.nil=>.nil
 | _,_,.cons n t h=>.cons ⟨t,rfl⟩ (gU h)
def IG (H:Hp):Prop:=∀ b,H b=none\/∃ o xs,H b=some (.frz o (.lst xs))
theorem Bp {P:Program} {w:World} {K:PySem.W.Frag} {mg mb:Str->Option Value} {CX:yj} {k:Nat} {fa a:Addr} {fd:FuncData} {x:Str} {sp:Sp} {s₁:Shared} {vs:List Value} {ns:List Int}
  (KX:K.In s₁.heap) (hns:s₁.heap.Ns mainGlobals mg) (hb:s₁.heap.Ns builtinsNs mb) (hbb:∀ x:Str,x ≠ "__name__" -> mb x=bootBuiltins x) (hlim:s₁.heap.NoLimit) (hg:s₁.gens = #[])
  (ha:s₁.heap.get? a=some { cls:=.type "list",data:=.seq vs.toArray }) (hi:IntsAre vs ns) (hl:ns.length<=sizeLine) (hr:Room k callerA)
  (F:∀ base:Heap,K.In base->base.Ns mainGlobals mg->FnOk P w K mg base CX k fa fd [x] sp) (hbind:∀ (s:Shared) (u:Value),BindsTo s fd ⟨[u],[]⟩ [(x,u)])
  (hsp:∀ H:Hp,IG H->SqL K H a (ns.map V.int)->sp [.ref a] H (fun v _=>v=.bl true) fun _ _ _=>False)
  (hCX:∀ H e s',CX [] H s₁ (fun _ _ _=>False) e s'->False) :
  codeAny (model P w) callerA (.call (.ref fa) ⟨[.ref a],[]⟩) (fun r s'=>r=.ok (.ret (.bool true))/\OldK s₁.heap s'.heap/\s'.os=s₁.os/\AllBare s'.gens) s₁:=by
 have rv:=gU hi
 have lenV:=hi.length
 have core:∀ H:Hp,IG H->SqL K H a (ns.map V.int)->HOk P w H s₁.heap->(∀ b,H b≠none->b=a)->(H a≠none->K.lookup a=none) ->
   codeAny (model P w) callerA (.call (.ref fa) ⟨[.ref a],[]⟩) (fun r s'=>r=.ok (.ret (.bool true))/\OldK s₁.heap s'.heap/\s'.os=s₁.os/\AllBare s'.gens) s₁:=by
  intro H hO hS hok hA hK
  have base_of:∀ {b:Addr} {o:Obj},s₁.heap.get? b=some o->H b=none->(rR s₁.heap H).get? b=some o:=fun e n=>BJ e n
  have noA:∀ {b:Addr} {o:Obj} {es:Array DictEntry} {ep:Nat},s₁.heap.get? b=some o->o.data=.dict es ep->H b=none:=fun {b o es ep} e d=>by
   cases q:H b with
   | none=>rfl
   | some u=>
    have e':b=a:=hA b (by rw [q]; simp)
    subst e'
    rw [ha] at e; cases e
    have d':Data.seq vs.toArray _=Data.dict es ep:=d
    cases d'
  have nsK:∀ {b:Addr} {m:Str->Option Value},s₁.heap.Ns b m->(rR s₁.heap H).Ns b m:=fun {b m} ⟨o,es,ep,e,d,r⟩=>⟨o,es,ep,base_of e (noA e d),d,r⟩
  have hKb:K.In (rR s₁.heap H):=fun b o e=>base_of (KX b o e) (by
   cases q:H b with
   | none=>rfl
   | some u=>
    have e':b=a:=hA b (by rw [q]; simp)
    subst e'
    rw [hK (by rw [q]; simp)] at e; cases e)
  have hM:Mod K mg (rR s₁.heap H):=⟨hKb,nsK hns,⟨mb,nsK hb,hbb⟩,let ⟨mc,h1,h2⟩:=hlim; ⟨mc,nsK h1,h2⟩⟩
  have e0:Env0 P w K mg (rR s₁.heap H) callerA [] s₁ H:=⟨rfl,hM,fun b o e=>Ea e,Nat.le_of_eq (zw _ _),trivial,fun b hb=>absurd (show b∈([]:List Addr) from hb) (by simp),hok,.of_eq hg⟩
  refine codeAny_mono ((F _ hKb (nsK hns)).run callerA [] s₁ H ⟨[.ref a],[]⟩ [.ref a] [.ref a] _ _ hr e0 (hbind s₁ (.ref a)) (.cons rfl .nil) (hsp H hO hS)) fun r s' h=>?_
  cases r with
  | error e=>exact (hCX H e s' h).elim
  | ok fl=>
   cases fl with
   | next=>exact False.elim h
   | brk=>exact False.elim h
   | cont=>exact False.elim h
   | ret u=>
    obtain ⟨v,H',os,bare,un,hok',r',q⟩:=h
    have q':v=.bl true:=q
    subst q'
    obtain rfl:u=Value.bool true:=r'
    refine ⟨rfl,OldK.of_keep fun b o e=>?_,os,bare⟩
    cases q:H b with
    | none=>exact un.keep b o e q (by intro z; exact absurd (show b∈([]:List Addr) from z) (by simp)) (by simp)
    | some u=>
     rcases hO b with z | ⟨ob,xs,z⟩
     ·rw [q] at z; cases z
     ·have z2:=un.frzs b ob _ z
      obtain ⟨e1,_⟩:=hok b _ z
      obtain ⟨e2,_⟩:=hok' b _ z2
      rw [e] at e1; cases e1
      exact e2
 cases hk:K.lookup a with
 | some o=>
  have e:=KX a o hk
  rw [ha] at e
  cases e
  refine core (fun _=>none) (fun _=>.inl rfl) (.inr ⟨_,vs.toArray,_,hk,rfl,rfl,rfl,by rw [List.size_toArray,lenV]; exact hl,by simpa using rv⟩) (fun b u z=>by have z':(none:Option HO)=some u:=z; cases z') (fun b z=>absurd rfl z) fun z=>absurd rfl z
 | none=>
  refine core (fun b=>if b=a then some (.frz { cls:=.type "list",data:=.seq vs.toArray } (.lst (ns.map V.int))) else none) (fun b=>?_) (.inl (.inr ⟨{ cls:=.type "list",data:=.seq vs.toArray },if_pos rfl⟩)) (fun b u z=>?_) (fun b z=>?_) fun _=>hk
  ·by_cases hb:b=a
   ·exact .inr ⟨_,_,if_pos hb⟩
   ·exact .inl (if_neg hb)
  ·by_cases hb:b=a
   ·have z':=(if_pos hb).symm.trans z
    cases z'
    subst hb
    exact ⟨ha,by rw [List.length_map]; exact hl,vs,_,rv,ha⟩
   ·have z':=(if_neg hb).symm.trans z
    cases z'
  ·by_cases hb:b=a
   ·exact hb
   ·exact absurd (if_neg hb) z
end L2
namespace L2
open PySem PySem.Spec PyProof.Rows
abbrev O4 {K:PySem.W.Frag} {h:Heap} (_:K.In h):PySem.W.Frag:=K
theorem C8 {l:PySem.W.OpenLaw} {n k:Nat} {q:Program} {loose:List Str} {XP:(Str->Option Value)->Heap->Prop} {YP:World->Heap->Prop} {d:DefRec} {K:Params->PySem.W.Frag} {CX:World->yj} {sp:World->Sp} {x:Str}
  (hn:l.most=some n) (hn2:n<=sizeLine) (hdf:d.params.defaults=[]) (hr:Room k callerA)
  (hY:∀ (w:World) (h:Heap),YP w h->(K w.params).In h)
  (F:∀ (w:World) (mg:Str->Option Value) (fa:Addr) (h:Heap),(K w.params).In h->h.Ns mainGlobals mg->mg d.name=some (.ref fa) ->
   ∃ fd:FuncData,(∀ (s:Shared) (u:Value),BindsTo s fd ⟨[u],[]⟩ [(x,u)]) /\
    ∀ base:Heap,(K w.params).In base->base.Ns mainGlobals mg->FnOk l.prog w (K w.params) mg base (CX w) k fa fd [x] (sp w))
  (hsp:∀ (w:World) (H:Hp) (a:Addr) (ns:List Int),ns.length<=n->IG H->SqL (K w.params) H a (ns.map V.int)->sp w [.ref a] H (fun v _=>v=.bl true) fun _ _ _=>False)
  (hCX:∀ (w:World) (H:Hp) (s:Shared) (e:Value) (s':Shared),CX w [] H s (fun _ _ _=>False) e s'->False) :
  PySem.W.WalkO q loose XP YP l.row.toRowW d [] (fun f vs=>PySem.call f vs):=by
 refine Att.vd hn hdf fun w s₀ s₁ mg mb fa o pm cd doc a vs ns G Y ho hd hcd hmg hobj hints hlen hg=>?_
 have KX:=hY w _ Y
 obtain ⟨fd,hb,hF⟩:=F w mg fa _ KX G.T.g hmg
 exact Bp KX G.T.g G.T.b G.T.builtins G.T.nolimit hg hobj hints (Nat.le_trans hlen hn2) hr hF hb (fun H hO hS=>hsp w H a ns hlen hO hS) fun H e s'=>hCX w H s₁ e s'
end L2
namespace L2
open PySem PySem.Spec PyProof.Rows
noncomputable def cL (s:Stmt):Arguments:=match s with
 | .FunctionDef _ a _ _ _ _ _ _ _ _=>a
 | _=>{ posonlyargs:=[],args:=[],vararg:=none,kwonlyargs:=[],kw_defaults:=[],kwarg:=none,defaults:=[] }
noncomputable def cn (s:Stmt):List Stmt:=match s with
 | .FunctionDef _ _ b _ _ _ _ _ _ _=>b
 | _=>[]
noncomputable def ao (s:Stmt):Scope:=match s with
 | .FunctionDef _ _ _ _ _ _ sc _ _ _=>sc
 | _=>{ kind:=.function,names:=[],isGenerator:=false,isCoroutine:=false }
abbrev dc:yj:=fun _ _ _ _ _ _=>False
abbrev E0:XK:=fun _ _ _=>False
theorem FQ {X:Cx}:sJ dc X E0:=fun _ _ _ _ _ _ _ h=>h.elim
def Same (H H':Hp):Prop:=∀ b o,H b=some o->H' b=some o
theorem Same.refl (H:Hp):Same H H:=fun _ _ h=>h
theorem Same.trans {H H1 H2:Hp} (a:Same H H1) (b:Same H1 H2):Same H H2:=fun c o h=>b c o (a c o h)
end L2
set_option maxHeartbeats 4000000
namespace VL
open PySem L2
abbrev D:=PyData
inductive Oc where
 | l (ds:List D) | d (es:List (aZ×D))
inductive Sl where
 | un | fz (d:D) | own (c:Oc) | fr (ds:List D)
abbrev Sl.ow (ds:List D):Sl:=.own (.l ds)
abbrev Sl.od (es:List (aZ×D)):Sl:=.own (.d es)
noncomputable def jr:aZ->D
 | .inl i=>.int i
 | .inr x=>.str x
noncomputable def MW (n:Str) (ds:List (Str×D)):List (D×D):=(.str "ins",.str n)::ds.map fun q=>(.str q.1,q.2)
noncomputable def Fc (es:List (aZ×Int)):List (D×D):=es.map fun p=>(jr p.1,.int p.2)
abbrev Dv:=List Sl
inductive Fl where
 | nx | bk | ct | rt (d:D)
abbrev Sf:=Dv->Option (Fl×Dv)
@[simp] noncomputable def o2 (f1 f2:Dv->Option D) (g:D->D->Option D):Dv->Option D:=fun δ=>(f1 δ).bind fun x=>(f2 δ).bind fun y=>g x y
@[simp] noncomputable def o1 (f:Dv->Option D) (g:D->Option D):Dv->Option D:=fun δ=>(f δ).bind g
@[simp] noncomputable def os (f:Dv->Option (List D)) (g:List D->Option D):Dv->Option D:=fun δ=>(f δ).bind g
noncomputable def asB:D->Option Bool
 | .bool b=>some b
 | _=>none
@[simp] theorem Cp (b:Bool):asB (.bool b)=some b:=rfl
@[simp] noncomputable def ob (f:Dv->Option D):Dv->Option Bool:=fun δ=>(f δ).bind asB
@[simp] noncomputable def gh (t u:Dv->Option Bool):Dv->Option Bool:=fun δ=>(t δ).bind fun b=>if b=true then u δ else some false
@[simp] noncomputable def vV (t u:Dv->Option Bool):Dv->Option Bool:=fun δ=>(t δ).bind fun b=>if b=true then some true else u δ
@[simp] noncomputable def yV (t:Dv->Option Bool):Dv->Option Bool:=fun δ=>(t δ).map (!·)
@[simp] noncomputable def qk (f1 f2:Dv->Option D):Dv->Option D:=fun δ=>(f1 δ).bind fun x=>(asB x).bind fun b=>if b=true then f2 δ else some (.bool false)
@[simp] noncomputable def J8 (f1 f2:Dv->Option D):Dv->Option D:=fun δ=>(f1 δ).bind fun x=>(asB x).bind fun b=>if b=true then some (.bool true) else f2 δ
@[simp] noncomputable def OI (d:D):Option D:=(asB d).map fun b=>.bool (!b)
@[simp] noncomputable def A5 (t:Dv->Option Bool) (f1 f2:Dv->Option D):Dv->Option D:=fun δ=>(t δ).bind fun b=>if b=true then f1 δ else f2 δ
noncomputable def Mh:Option Sl->Option D
 | some (.fz d)=>some d
 | some (.fr ds)=>some (.list ds)
 | _=>none
@[simp] theorem Mg (ds:List D):Mh (some (.fr ds))=some (.list ds):=rfl
@[simp] theorem Mf (d:D):Mh (some (.fz d))=some d:=rfl
@[simp] noncomputable def oV (i:Nat):Dv->Option D:=fun δ=>Mh δ[i]?
@[simp] noncomputable def oC (d:D):Dv->Option D:=fun _=>some d
@[simp] noncomputable def ap:Dv->Option (List D):=fun _=>some []
@[simp] noncomputable def ae (f:Dv->Option D) (fs:Dv->Option (List D)):Dv->Option (List D):=fun δ=>(f δ).bind fun x=>(fs δ).bind fun xs=>some (x::xs)
noncomputable def bt (ds:List D):Option D:=if ds.length<=sizeLine then some (.tuple ds) else none
noncomputable def hE (ds:List D):Option D:=if ds.length<=sizeLine then some (.list ds) else none
theorem i7 {ds:List D} (h:ds.length<=16777216):bt ds=some (.tuple ds):=if_pos h
theorem nt {ds:List D} (h:ds.length<=16777216):hE ds=some (.list ds):=if_pos h
@[simp] theorem NG:bt []=some (.tuple []):=rfl
@[simp] theorem NF (a:D):bt [a]=some (.tuple [a]):=i7 (by simp)
@[simp] theorem NE (a b:D):bt [a,b]=some (.tuple [a,b]):=i7 (by simp)
@[simp] theorem ND (a b c:D):bt [a,b,c]=some (.tuple [a,b,c]):=i7 (by simp)
@[simp] theorem NC (a b c d:D):bt [a,b,c,d]=some (.tuple [a,b,c,d]):=i7 (by simp)
@[simp] theorem NB (a b c d e:D):bt [a,b,c,d,e]=some (.tuple [a,b,c,d,e]):=i7 (by simp)
@[simp] theorem NA (a b c d e f g h:D):bt [a,b,c,d,e,f,g,h]=some (.tuple [a,b,c,d,e,f,g,h]):=i7 (by simp)
@[simp] theorem NV:hE []=some (.list []):=rfl
@[simp] theorem NU (a:D):hE [a]=some (.list [a]):=nt (by simp)
@[simp] theorem NT (a b:D):hE [a,b]=some (.list [a,b]):=nt (by simp)
@[simp] theorem NS (a b c:D):hE [a,b,c]=some (.list [a,b,c]):=nt (by simp)
@[simp] theorem NR (a b c d e:D):hE [a,b,c,d,e]=some (.list [a,b,c,d,e]):=nt (by simp)
instance (i j:Int):Decidable (IntMulOk i j):=by unfold IntMulOk; infer_instance
noncomputable def iI (g:Int->Int->Int):D->D->Option D
 | .int i,.int j=>some (.int (g i j))
 | _,_=>none
noncomputable def iC (C:Int->Int->Bool) (g:Int->Int->Int):D->D->Option D
 | .int i,.int j=>if C i j=true then some (.int (g i j)) else none
 | _,_=>none
noncomputable def iB (g:Int->Int->Bool):D->D->Option D
 | .int i,.int j=>some (.bool (g i j))
 | _,_=>none
@[simp] theorem MY (g:Int->Int->Int) (i j:Int):iI g (.int i) (.int j)=some (.int (g i j)):=rfl
@[simp] theorem MZ (g:Int->Int->Bool) (i j:Int):iB g (.int i) (.int j)=some (.bool (g i j)):=rfl
theorem oQ {C:Int->Int->Bool} {g:Int->Int->Int} {i j:Int} (h:C i j=true):iC C g (.int i) (.int j)=some (.int (g i j)):=if_pos h
noncomputable def Nf (i j:Int):Bool:=decide (IntMulOk i j)
noncomputable def Nh (i j:Int):Bool:=decide (0<j/\j<1073741824)
noncomputable def Ng (i j:Int):Bool:=decide (0<j)
noncomputable def Nd (i j:Int):Bool:=decide (0<=j/\(Builtin.Int.intBits i:Int)+j<=2 ^ 27)
noncomputable def Nc (i j:Int):Bool:=decide (0<=j)
abbrev dX:=iI fun i j=>i-j
abbrev Bc:=iC Nf fun i j=>i*j
abbrev eK:=iC Nh fun i j=>i / j
abbrev bP:=iC Ng fun i j=>i % j
abbrev lA:=iC Nd fun i j=>i*2 ^ j.toNat
abbrev pE:=iC Nc fun i j=>i / 2 ^ j.toNat
abbrev wR:=iI Builtin.bitAnd
abbrev DS:=iI Builtin.bitOr
abbrev zQ:=iI Builtin.bitXor
abbrev vm:=iB fun i j=>decide (i<j)
abbrev KO:=iB fun i j=>decide (j<i)
@[simp] theorem Kk {i j:Int} (h:IntMulOk i j):Bc (.int i) (.int j)=some (.int (i*j)):=oQ (decide_eq_true h)
@[simp] theorem K4 {i j:Int} (h:0<j) (h2:j<1073741824):eK (.int i) (.int j)=some (.int (i / j)):=oQ (decide_eq_true ⟨h,h2⟩)
@[simp] theorem fS {i j:Int} (h:0<j):bP (.int i) (.int j)=some (.int (i % j)):=oQ (decide_eq_true h)
theorem nZ {i j:Int} (h:0<=j) (h2:(Builtin.Int.intBits i:Int)+j<=2 ^ 27):lA (.int i) (.int j)=some (.int (i*2 ^ j.toNat)):=oQ (decide_eq_true ⟨h,h2⟩)
@[simp] theorem JA {i j:Int} (h:0<=j):pE (.int i) (.int j)=some (.int (i / 2 ^ j.toNat)):=oQ (decide_eq_true h)
noncomputable def negD:D->Option D
 | .int i=>some (.int (-i))
 | _=>none
@[simp] theorem Ki (i:Int):negD (.int i)=some (.int (-i)):=rfl
noncomputable def cQ:D->D->Option D
 | .int i,.int j=>some (.int (i+j))
 | .str x,.str y=>if x.length+y.length<=sizeLine then some (.str (x++y)) else none
 | .list xs,.list ys=>if xs.length+ys.length<=sizeLine then some (.list (xs++ys)) else none
 | .tuple xs,.tuple ys=>if xs.length+ys.length<=sizeLine then some (.tuple (xs++ys)) else none
 | _,_=>none
@[simp] theorem Lh (i j:Int):cQ (.int i) (.int j)=some (.int (i+j)):=rfl
theorem kT {xs ys:List D} (h:xs.length+ys.length<=16777216):cQ (.tuple xs) (.tuple ys)=some (.tuple (xs++ys)):=if_pos h
noncomputable def pF (d:D):Bool:=PySem.SeqAt.shaped d
noncomputable def aS:D->D->Option D:=fun a b=>if pF a=true/\pF b=true then some (.bool (PyData.eqv a b)) else none
noncomputable def neD:D->D->Option D:=fun a b=>if pF a=true/\pF b=true then some (.bool (!PyData.eqv a b)) else none
@[simp] theorem xS (i j:Int):aS (.int i) (.int j)=some (.bool (i==j)):=rfl
@[simp] theorem Lu (i j:Int):neD (.int i) (.int j)=some (.bool (!(i==j))):=rfl
@[simp] theorem B2 (i j:Bool):aS (.bool i) (.bool j)=some (.bool (i==j)):=rfl
@[simp] theorem Kj (i j:Bool):neD (.bool i) (.bool j)=some (.bool (!(i==j))):=rfl
noncomputable def BD (d:D):Bool:=match d with
 | .none=>true
 | _=>false
noncomputable def OL:D->D->Option D:=fun a b=>match b with
 | .none=>some (.bool (BD a))
 | _=>none
noncomputable def kz:D->D->Option D:=fun a b=>match b with
 | .none=>some (.bool (!BD a))
 | _=>none
@[simp] theorem Ky (a:D):OL a .none=some (.bool (BD a)):=rfl
@[simp] theorem HQ (a:D):kz a .none=some (.bool (!BD a)):=rfl
@[simp] theorem Kw:BD .none=true:=rfl
@[simp] theorem Lz (i:Int):BD (.int i)=false:=rfl
noncomputable def aE:D->D->Option D
 | .list xs,.int i=>jl xs i
 | .tuple xs,.int i=>jl xs i
 | _,_=>none
@[simp] theorem Ku (xs:List D) (i:Int):aE (.list xs) (.int i)=jl xs i:=rfl
@[simp] theorem IR (xs:List D) (i:Int):aE (.tuple xs) (.int i)=jl xs i:=rfl
theorem fg {α:Type} {xs:List α} {i:Int} {j:Nat} {v:α} (hi:i=j) (h:xs[j]? = some v):jl xs i=some v:=by
 have hl:j<xs.length:=(List.getElem?_eq_some_iff.mp h).1
 subst hi
 unfold jl HL
 rw [if_pos (by omega),if_pos (by omega)]
 simpa using h
@[simp] theorem at0 {α:Type} (a:α) (r:List α):jl (a::r) 0=some a:=fg (j:=0) rfl rfl
@[simp] theorem at1 {α:Type} (a b:α) (r:List α):jl (a::b::r) 1=some b:=fg (j:=1) rfl rfl
@[simp] theorem Gq {α:Type} (a b c:α) (r:List α):jl (a::b::c::r) 2=some c:=fg (j:=2) rfl rfl
@[simp] theorem OT {α:Type} (a b c d:α) (r:List α):jl (a::b::c::d::r) 3=some d:=fg (j:=3) rfl rfl
@[simp] theorem OS {α:Type} (a b c d e:α) (r:List α):jl (a::b::c::d::e::r) 4=some e:=fg (j:=4) rfl rfl
@[simp] theorem O3 {α:Type} (a b c d e f:α) (r:List α):jl (a::b::c::d::e::f::r) 5=some f:=fg (j:=5) rfl rfl
@[simp] theorem O1 {α:Type} (a b c d e f g:α) (r:List α):jl (a::b::c::d::e::f::g::r) 6=some g:=fg (j:=6) rfl rfl
noncomputable def cB:List D->Option D
 | [.list xs]=>some (.int xs.length)
 | [.tuple xs]=>some (.int xs.length)
 | _=>none
@[simp] theorem IQ (xs:List D):cB [.list xs]=some (.int xs.length):=rfl
@[simp] theorem HA (xs:List D):cB [.tuple xs]=some (.int xs.length):=rfl
noncomputable def Be:List D->Option D
 | [.int i,.int j]=>some (.int (if j<i then j else i))
 | _=>none
noncomputable def rM:List D->Option D
 | [.int i,.int j]=>some (.int (if j>i then j else i))
 | _=>none
@[simp] theorem Km (i j:Int):Be [.int i,.int j]=some (.int (if j<i then j else i)):=rfl
@[simp] theorem cO (i j:Int):rM [.int i,.int j]=some (.int (if j>i then j else i)):=rfl
noncomputable def BE:List D->Option D
 | [.int i]=>some (.int i)
 | [.bool b]=>some (.int (if b then 1 else 0))
 | _=>none
@[simp] theorem KF (i:Int):BE [.int i]=some (.int i):=rfl
@[simp] theorem IY (b:Bool):BE [.bool b]=some (.int (if b then 1 else 0)):=rfl
noncomputable def F5:List D->Option D
 | [.list xs]=>some (.list xs)
 | [.tuple xs]=>some (.list xs)
 | _=>none
@[simp] theorem Hz (xs:List D):F5 [.list xs]=some (.list xs):=rfl
@[simp] theorem F4 (xs:List D):F5 [.tuple xs]=some (.list xs):=rfl
noncomputable def dS:List D->Option D
 | [.list xs]=>some (.tuple xs)
 | [.tuple xs]=>some (.tuple xs)
 | _=>none
@[simp] theorem FK (xs:List D):dS [.list xs]=some (.tuple xs):=rfl
@[simp] theorem Dd (xs:List D):dS [.tuple xs]=some (.tuple xs):=rfl
noncomputable def kM:D->Option D
 | .int i=>some (.int (Builtin.Int.intBits i))
 | _=>none
@[simp] theorem qH (i:Int):kM (.int i)=some (.int (Builtin.Int.intBits i)):=rfl
noncomputable def Oi:D->String
 | .none=>"NoneType"
 | .bool _=>"bool"
 | .int _=>"int"
 | .str _=>"str"
 | .list _=>"list"
 | .tuple _=>"tuple"
 | .dict _=>"dict"
noncomputable def MT (t T:String):Bool:=t==T||(t == "bool" && T == "int")
noncomputable def Kx:D->Bool
 | .dict _=>true
 | _=>false
noncomputable def zq (T:String) (d:D):Option D:=if Kx d=true then none else if T = "int" \/ T = "bool" \/ T = "str" \/ T = "list" \/ T = "tuple" then some (.bool (MT (Oi d) T)) else none
@[simp] theorem Gg (i:Int):zq "int" (.int i)=some (.bool true):=rfl
@[simp] theorem EN (i:Int):zq "bool" (.int i)=some (.bool false):=rfl
@[simp] theorem EM (i:Bool):zq "int" (.bool i)=some (.bool true):=rfl
@[simp] theorem CY (i:Bool):zq "bool" (.bool i)=some (.bool true):=rfl
@[simp] theorem zN (xs:List D):zq "tuple" (.tuple xs)=some (.bool true):=rfl
@[simp] theorem CW (xs:List D):zq "list" (.list xs)=some (.bool true):=rfl
@[simp] noncomputable def aX (f:Dv->Option D):Sf:=fun δ=>(f δ).bind fun d=>some (.rt d,δ)
@[simp] noncomputable def bc (i:Nat) (f:Dv->Option D):Sf:=fun δ=>(f δ).bind fun d=>some (.nx,δ.set i (.fz d))
@[simp] noncomputable def NN (f:Dv->Option D):Sf:=fun δ=>(f δ).bind fun _=>some (.nx,δ)
@[simp] noncomputable def fj:Sf:=fun δ=>some (.nx,δ)
@[simp] noncomputable def OY:Sf:=fun δ=>some (.bk,δ)
@[simp] noncomputable def OX:Sf:=fun δ=>some (.ct,δ)
@[simp] noncomputable def sSeq (s t:Sf):Sf:=fun δ=>(s δ).bind fun r=>match r with
 | (.nx,δ')=>t δ'
 | r=>some r
@[simp] noncomputable def sIf (t:Dv->Option Bool) (u w:Sf):Sf:=fun δ=>(t δ).bind fun c=>if c=true then u δ else w δ
noncomputable def dFz (i:Nat) (δ:Dv):Dv:=match δ[i]? with
 | some (.own (.l ds))=>δ.set i (.fz (.list ds))
 | _=>δ
@[simp] noncomputable def gN (i:Nat):D->Dv->Option Dv:=fun d δ=>some (δ.set i (.fz d))
noncomputable def loop (g:D->Dv->Option Dv) (b:Sf):List D->Sf
 | [],δ=>some (.nx,δ)
 | d::ds,δ=>(g d δ).bind fun δ1=>(b δ1).bind fun r=>match r with
  | (.nx,δ2)=>loop g b ds δ2
  | (.ct,δ2)=>loop g b ds δ2
  | (.bk,δ2)=>some (.nx,δ2)
  | (.rt x,δ2)=>some (.rt x,δ2)
@[simp] theorem Kn (g:D->Dv->Option Dv) (b:Sf) (δ:Dv):loop g b [] δ = some (.nx,δ):=rfl
@[simp] noncomputable def tJ (f:Dv->Option (List D)) (g:D->Dv->Option Dv) (b:Sf):Sf:=fun δ=>(f δ).bind fun ds=>loop g b ds δ
noncomputable def gS (t:Dv->Option Bool) (b:Sf):Nat->Sf
 | 0,_=>none
 | n+1,δ=>(t δ).bind fun c=>if c=true then (b δ).bind fun r=>match r with
   | (.nx,δ2)=>gS t b n δ2
   | (.ct,δ2)=>gS t b n δ2
   | (.bk,δ2)=>some (.nx,δ2)
   | (.rt x,δ2)=>some (.rt x,δ2)
  else some (.nx,δ)
noncomputable def jB (lo:Int) (n:Nat):List D:=(List.range n).map fun k=>.int (lo+(k:Nat))
noncomputable def cY:List D->Option (List D)
 | [.int j]=>if j<2 ^ 62 /\ -(2 ^ 62)<=j then some (jB 0 j.toNat) else none
 | _=>none
noncomputable def kb:List D->Option (List D)
 | [.int i,.int j]=>if (i<2 ^ 62 /\ -(2 ^ 62)<=i)/\j<2 ^ 62 /\ -(2 ^ 62)<=j then some (jB i (j-i).toNat) else none
 | _=>none
theorem lE {j:Int} (h:j<4611686018427387904) (h2:-4611686018427387904<=j):cY [.int j]=some (jB 0 j.toNat):=if_pos ⟨h,h2⟩
@[simp] noncomputable def oL (fs:Dv->Option (List D)) (g:List D->Option (List D)):Dv->Option (List D):=fun δ=>(fs δ).bind g
noncomputable def fG:D->Option (List D)
 | .list xs=>some xs
 | .tuple xs=>some xs
 | _=>none
@[simp] theorem IS (xs:List D):fG (.list xs)=some xs:=rfl
@[simp] theorem HN (xs:List D):fG (.tuple xs)=some xs:=rfl
noncomputable def Bg:D->Option (List D)
 | .list xs=>some xs
 | _=>none
noncomputable def LT:D->Option (List D)
 | .tuple xs=>some xs
 | _=>none
@[simp] noncomputable def oI (f:Dv->Option D) (g:D->Option (List D)):Dv->Option (List D):=fun δ=>(f δ).bind g
@[simp] noncomputable def IP:Dv->Option (Option Int):=fun _=>some none
noncomputable def asI:D->Option (Option Int)
 | .int i=>some (some i)
 | _=>none
@[simp] theorem LK (i:Int):asI (.int i)=some (some i):=rfl
@[simp] noncomputable def oP (f:Dv->Option D):Dv->Option (Option Int):=fun δ=>(f δ).bind asI
noncomputable def hX (xs:List D) (lo hi:Option Int):List D:=(xs.drop (HT.sIx xs.length 0 lo)).take (HT.sIx xs.length xs.length hi-HT.sIx xs.length 0 lo)
noncomputable def tz:D->Option Int->Option Int->Option D
 | .list xs,lo,hi=>some (.list (hX xs lo hi))
 | .tuple xs,lo,hi=>some (.tuple (hX xs lo hi))
 | _,_,_=>none
@[simp] noncomputable def Hm (f:Dv->Option D) (l u:Dv->Option (Option Int)):Dv->Option D:=fun δ=>(f δ).bind fun x=>(l δ).bind fun i=>(u δ).bind fun j=>tz x i j
noncomputable def ak (N:List Str) (as:List D):Dv:=as.map .fz++List.replicate (N.length-as.length) .un
noncomputable def runB (N:List Str) (n:Nat) (b:Sf):List D->Option D:=fun as=>if as.length=n then (b (ak N as)).bind fun r=>match r with
  | (.rt d,_)=>some d
  | (.nx,_)=>some .none
  | _=>none
 else none
end VL
namespace VL
open PySem PySem.Spec PyProof.Rows L2
abbrev Fg:=PySem.W.Frag
abbrev St:=L2.St
noncomputable def M5 (a C:Addr):HO:=.ext fun h=>∃ o,h.get? a=some o/\o.cls=.ref C/\∃ vs,o.data=.fields vs/\vs[2]? = some .none
theorem Rd.same {H H':Hp} {a:Addr} {u:HO} (h:Rd H a u) (s:Same H H'):Rd H' a u:=by
 rcases h with h | ⟨o,h⟩
 ·exact .inl (s _ _ h)
 ·exact .inr ⟨o,s _ _ h⟩
inductive FI (K:Fg) (Z:Hp):V->D->Prop
 | int (i:Int):FI K Z (.int i) (.int i)
 | pair {b:Addr} {i j:Int}:SqT K Z b [.int i,.int j]->FI K Z (.ref b) (.tuple [.int i,.int j])
inductive FF (K:Fg) (Z:Hp):V->D->Prop
 | int (i:Int):FF K Z (.int i) (.int i)
 | lst {b:Addr} {xs:List V} {ds:List D}:Z b=some (.lst xs)->Paired (FI K Z) xs ds->FF K Z (.ref b) (.list ds)
inductive Opq (K:Fg) (Z:Hp) (a:Addr):List (D×D)->Prop
 | exc {n:Str} {C:Addr}:PySem.W.nsIn K mainGlobals n=some (some (.ref C))->Rd Z a (M5 a C)->Opq K Z a [(.str "exc",.str n)]
 | fn {n:Str}:PySem.W.nsIn K mainGlobals n=some (some (.ref a))->Opq K Z a [(.str "fn",.str n)]
 | ins {n:Str} {C dx:Addr} {fs:List (Str×V)} {ds:List (Str×D)}:PySem.W.nsIn K mainGlobals n=some (some (.ref C))->Z a=some (.ins C dx fs)->Paired (fun (p:Str×V) (q:Str×D)=>p.1=q.1/\FF K Z p.2 q.2) fs ds->Opq K Z a (MW n ds)
 | dct {kvs:List (D×D)} {es:List (aZ×Int)}:kvs=Fc es->Z a=some (.dK (es.map fun p=>(p.1,V.int p.2)))->Opq K Z a kvs
theorem Fb {es:List (aZ×Int)} {a:D} {x:Str} {r:List (D×D)} (h:(a,PyData.str x)::r=Fc es):False:=by
 cases es with
 | nil=>cases h
 | cons e es=>simp [Fc] at h
theorem SqT.same {K:Fg} {H H':Hp} {a:Addr} {xs:List V} (h:SqT K H a xs) (s:Same H H'):SqT K H' a xs:=by
 rcases h with h | h
 ·exact .inl (Rd.same h s)
 ·exact .inr h
theorem FI.same {K:Fg} {Z Z':Hp} (s:Same Z Z') {v:V} {d:D} (h:FI K Z v d):FI K Z' v d:=by
 cases h with
 | int i=>exact .int i
 | pair q=>exact .pair (SqT.same q s)
theorem FF.same {K:Fg} {Z Z':Hp} (s:Same Z Z') {v:V} {d:D} (h:FF K Z v d):FF K Z' v d:=by
 cases h with
 | int i=>exact .int i
 | lst q r=>exact .lst (s _ _ q) (Paired.mapP r fun _ _=>FI.same s)
theorem Opq.same {K:Fg} {Z Z':Hp} {a:Addr} {kvs:List (D×D)} (s:Same Z Z') (h:Opq K Z a kvs):Opq K Z' a kvs:=by
 cases h with
 | exc h1 h2=>exact .exc h1 (Rd.same h2 s)
 | fn h1=>exact .fn h1
 | ins h1 h2 h3=>exact .ins h1 (s _ _ h2) (Paired.mapP h3 fun _ _ q=>⟨q.1,q.2.same s⟩)
 | dct h1 h2=>exact .dct h1 (s _ _ h2)
mutual
inductive Rep (K:Fg) (Z:Hp):V->D->Prop
 | non:Rep K Z .non .none
 | bl (b:Bool):Rep K Z (.bl b) (.bool b)
 | int (i:Int):Rep K Z (.int i) (.int i)
 | str (x:Str):Rep K Z (.str x) (.str x)
 | tup {a:Addr} {xs:List V} {ds:List D}:SqT K Z a xs->Reps K Z xs ds->Rep K Z (.ref a) (.tuple ds)
 | lst {a:Addr} {xs:List V} {ds:List D}:SqL K Z a xs->Reps K Z xs ds->Rep K Z (.ref a) (.list ds)
 | opq {a:Addr} {kvs:List (D×D)}:Opq K Z a kvs->Rep K Z (.ref a) (.dict kvs)
 | gdc {a:Addr} {kvs:List (aZ×V)} {es:List (aZ×D)} {l:List (D×D)}:Z a=some (.dK kvs)->es.map (·.1)=kvs.map (·.1)->Reps K Z (kvs.map (·.2)) (es.map (·.2))->l=es.map (fun p=>(jr p.1,p.2))->Rep K Z (.ref a) (.dict ((.none,.none)::l))
inductive Reps (K:Fg) (Z:Hp):List V->List D->Prop
 | nil:Reps K Z [] []
 | cons {v:V} {d:D} {vs:List V} {ds:List D}:Rep K Z v d->Reps K Z vs ds->Reps K Z (v::vs) (d::ds)
end
theorem SqL.same {K:Fg} {H H':Hp} {a:Addr} {xs:List V} (h:SqL K H a xs) (s:Same H H'):SqL K H' a xs:=by
 rcases h with h | h
 ·exact .inl (Rd.same h s)
 ·exact .inr h
mutual
theorem Rep.same {K:Fg} {Z Z':Hp} (s:Same Z Z'):∀ {v:V} {d:D},Rep K Z v d->Rep K Z' v d
 | _,_,.non=>.non
 | _,_,.bl b=>.bl b
 | _,_,.int i=>.int i
 | _,_,.str x=>.str x
 | _,_,.tup h r=>.tup (SqT.same h s) (Reps.same s r)
 | _,_,.lst h r=>.lst (SqL.same h s) (Reps.same s r)
 | _,_,.opq h=>.opq (Opq.same s h)
 | _,_,.gdc h k r e=>.gdc (s _ _ h) k (Reps.same s r) e
theorem Reps.same {K:Fg} {Z Z':Hp} (s:Same Z Z'):∀ {vs:List V} {ds:List D},Reps K Z vs ds->Reps K Z' vs ds
 | _,_,.nil=>.nil
 | _,_,.cons h r=>.cons (Rep.same s h) (Reps.same s r)
end
theorem Reps.length {K:Fg} {Z:Hp}:∀ {vs:List V} {ds:List D},Reps K Z vs ds->vs.length=ds.length
 | _,_,.nil=>rfl
 | _,_,.cons _ r=>congrArg (· + 1) (Reps.length r)
theorem Reps.get {K:Fg} {Z:Hp}:∀ {vs:List V} {ds:List D} {i:Nat} {d:D},Reps K Z vs ds->ds[i]? = some d->∃ v,vs[i]? = some v/\Rep K Z v d
 | _,_,_,_,.nil,e=>by simp at e
 | _,_,0,_,.cons r _,e=>by simp at e; subst e; exact ⟨_,rfl,r⟩
 | _,_,i+1,d,.cons _ t,e=>by
  obtain ⟨u,h1,h2⟩:=Reps.get (i:=i) (d:=d) t (by simpa using e)
  exact ⟨u,by simpa using h1,h2⟩
theorem Reps.append {K:Fg} {Z:Hp}:∀ {xs ys:List V} {us ws:List D},Reps K Z xs us->Reps K Z ys ws->Reps K Z (xs++ys) (us++ws)
 | _,_,_,_,.nil,s=>s
 | _,_,_,_,.cons r t,s=>.cons r (Reps.append t s)
theorem Reps.take {K:Fg} {Z:Hp}:∀ {xs:List V} {us:List D} (n:Nat),Reps K Z xs us->Reps K Z (xs.take n) (us.take n)
 | _,_,0,_=>.nil
 | _,_,_+1,.nil=>.nil
 | _,_,n+1,.cons r t=>.cons r (Reps.take n t)
theorem Reps.drop {K:Fg} {Z:Hp}:∀ {xs:List V} {us:List D} (n:Nat),Reps K Z xs us->Reps K Z (xs.drop n) (us.drop n)
 | _,_,0,r=>r
 | _,_,_+1,.nil=>.nil
 | _,_,n+1,.cons _ t=>Reps.drop n t
theorem Rep.int_eq {K:Fg} {Z:Hp} {v:V} {i:Int} (h:Rep K Z v (.int i)):v=.int i:=by cases h; rfl
theorem Rep.bl_eq {K:Fg} {Z:Hp} {v:V} {b:Bool} (h:Rep K Z v (.bool b)):v=.bl b:=by cases h; rfl
theorem Reps.ints {K:Fg} {Z:Hp}:∀ ns:List Int,Reps K Z (ns.map V.int) (ns.map PyData.int)
 | []=>.nil
 | n::r=>.cons (.int n) (Reps.ints r)
mutual
theorem Rep.reads {X:Cx} {pins:List (Addr×Obj)} {σ:St} {H Z:Hp} {s:Shared} (I:Inv X pins σ H s) (zh:Same Z H):∀ {v:V} {d:D} {u:Value},Rep X.K Z v d->RelV v u->d.canLay0=true->∃ as,Reads s.heap u d as
 | _,_,u,.non,r,_=>by cases (show u=Value.none from r); exact ⟨_,.none⟩
 | _,_,u,.bl b,r,_=>by cases (show u=Value.bool b from r); exact ⟨_,.bool b⟩
 | _,_,u,.int i,r,_=>by obtain ⟨t,rfl⟩:=(show ∃ t,u=Value.int i t from r); exact ⟨_,.int i t⟩
 | _,_,u,.str x,r,_=>by obtain ⟨t,rfl⟩:=(show ∃ t,u=Value.str x t from r); exact ⟨_,.str x t⟩
 | _,_,u,.tup (a:=a) h q,r,hc=>by
  cases (show u=Value.ref a from r)
  obtain ⟨its,rv,ht,_⟩:=I.tuple (SqT.same h zh)
  obtain ⟨as,ra⟩:=Reps.reads I zh q rv hc
  obtain ⟨o,e,c,n,dd⟩:=ht
  exact ⟨_,reads_tuple_at e c dd (by simpa using ra)⟩
 | _,_,u,.lst (a:=a) h q,r,hc=>by
  cases (show u=Value.ref a from r)
  obtain ⟨its,rv,ht,_⟩:=I.list (SqL.same h zh)
  obtain ⟨as,ra⟩:=Reps.reads I zh q rv hc
  obtain ⟨o,n,e,c,_,dd⟩:=ht
  exact ⟨_,reads_list_at e c dd (by simpa using ra)⟩
 | _,_,u,.opq h,r,hc=>by cases hc
 | _,_,u,.gdc h k q e,r,hc=>by cases hc
theorem Reps.reads {X:Cx} {pins:List (Addr×Obj)} {σ:St} {H Z:Hp} {s:Shared} (I:Inv X pins σ H s) (zh:Same Z H):∀ {vs:List V} {ds:List D} {us:List Value},Reps X.K Z vs ds->Vals vs us->PyData.canLayAll0 ds=true->∃ as,ReadsAll s.heap us ds as
 | _,_,_,.nil,.nil,_=>⟨_,.nil⟩
 | _,_,_,.cons h q,.cons r t,hc=>by
  have hc':=Bool.and_eq_true_iff.mp hc
  obtain ⟨as,ha⟩:=Rep.reads I zh h r hc'.1
  obtain ⟨bs,hb⟩:=Reps.reads I zh q t hc'.2
  exact ⟨_,.cons ha hb⟩
end
noncomputable def Kh:HO->Bool
 | .frz _ (.lst _)=>false
 | _=>true
def NoF (Z Z':Hp):Prop:=∀ b o xs,Z' b=some (.frz o (.lst xs))->Z b=some (.frz o (.lst xs))
theorem NoF.refl (Z:Hp):NoF Z Z:=fun _ _ _ e=>e
theorem NoF.trans {Z Z1 Z2:Hp} (a:NoF Z Z1) (b:NoF Z1 Z2):NoF Z Z2:=fun c o xs e=>a c o xs (b c o xs e)
theorem NoF.upd {Z Z':Hp} (a:NoF Z Z') (p:Addr) {u:HO} (hu:Kh u=true:=by rfl):NoF Z (upd Z' p u):=fun b o xs e=>by
 by_cases hb:b=p
 ·subst hb
  rw [aQ] at e
  cases e
  cases hu
 ·rw [aU hb] at e
  exact a b o xs e
structure New (Z H Z' H':Hp):Prop where
 z:Same Z Z'
 h:Same H H'
 zh:Same Z' H'
 o:∀ b,H b≠none->Z' b=Z b
 nf:NoF Z Z'
theorem New.refl {Z H:Hp} (zh:Same Z H):New Z H Z H:=⟨Same.refl _,Same.refl _,zh,fun _ _=>rfl,NoF.refl _⟩
theorem fP {H:Hp} {p:Addr} {o:HO} (h:H p=none):Same H (upd H p o):=fun b u e=>by
 rw [aU (bJ e h)]; exact e
theorem kB {Z H:Hp} (zh:Same Z H) {p:Addr} (h:H p=none):Z p=none:=by
 cases e:Z p with
 | none=>rfl
 | some o=>rw [zh p o e] at h; cases h
theorem New.add {Z H:Hp} (zh:Same Z H) {p:Addr} (hp:H p=none) (o:HO) (hf:Kh o=true:=by rfl):New Z H (upd Z p o) (upd H p o) where
 nf:=(NoF.refl Z).upd p hf
 z:=fP (kB zh hp)
 h:=fP hp
 zh:=fun b u e=>by
  by_cases hb:b=p
  ·subst hb; rw [aQ] at e ⊢; exact e
  ·rw [aU hb] at e ⊢; exact zh b u e
 o:=fun b hb=>by
  have:b≠p:=fun z=>hb (z ▸ hp)
  rw [aU this]
def wV (K:Fg) (Z:Hp) (kvs:List (aZ×V)) (es:List (aZ×D)):Prop:=es.map (·.1)=kvs.map (·.1)/\Reps K Z (kvs.map (·.2)) (es.map (·.2))
inductive OwR (K:Fg) (Z:Hp):HO->Oc->Prop
 | lst {xs:List V} {ds:List D}:Reps K Z xs ds->OwR K Z (.lst xs) (.l ds)
 | dct {kvs:List (aZ×V)} {es:List (aZ×D)}:wV K Z kvs es->OwR K Z (.dK kvs) (.d es)
theorem OwR.same {K:Fg} {Z Z':Hp} {o:HO} {c:Oc} (h:OwR K Z o c) (s:Same Z Z'):OwR K Z' o c:=by
 cases h with
 | lst r=>exact .lst (r.same s)
 | dct r=>exact .dct ⟨r.1,r.2.same s⟩
def FrOk (K:Fg) (H₀ Z₀ Z:Hp) (δ:Dv) (σ:St):Prop:=∀ (i:Nat) ds,δ[i]? = some (.fr ds)->∃ a xs,σ[i]? = some (some (.ref a))/\H₀ a=none/\Z₀ a=none/\Z a=some (.lst xs)/\Reps K Z xs ds
theorem FrOk.same {K:Fg} {H₀ Z₀ Z Z':Hp} {δ:Dv} {σ:St} (h:FrOk K H₀ Z₀ Z δ σ) (s:Same Z Z'):FrOk K H₀ Z₀ Z' δ σ:=fun i ds e=>
 let ⟨a,xs,h1,h2,h3,h4,h5⟩:=h i ds e; ⟨a,xs,h1,h2,h3,s _ _ h4,h5.same s⟩
theorem FrOk.put {K:Fg} {H₀ Z₀ Z:Hp} {δ:Dv} {σ σ':St} (h:FrOk K H₀ Z₀ Z δ σ) {i:Nat} {x:Sl} (hx:∀ ds,x≠Sl.fr ds) (hs:∀ j:Nat,i≠j -> σ'[j]? = σ[j]?):FrOk K H₀ Z₀ Z (δ.set i x) σ':=fun j ds e=>by
 by_cases hj:i=j
 ·subst hj
  have hl:i < δ.length:=by have:=(List.getElem?_eq_some_iff.mp e).1; simpa using this
  rw [List.getElem?_set_self hl] at e
  exact absurd (Option.some.inj e) (hx ds)
 ·rw [List.getElem?_set_ne hj] at e
  obtain ⟨a,xs,h1,r⟩:=h j ds e
  exact ⟨a,xs,by rw [hs j hj]; exact h1,r⟩
structure Hold (K:Fg) (H₀ Z₀ Z:Hp) (δ:Dv) (σ:St) (H:Hp):Prop where
 zh:Same Z H
 h0:Same H₀ H
 z0:Same Z₀ Z
 zb:∀ b,H₀ b≠none->Z b=Z₀ b
 len:δ.length = σ.length
 fz:∀ (i:Nat) d,δ[i]? = some (.fz d)->∃ v,σ[i]? = some (some v)/\Rep K Z v d
 own:∀ (i:Nat) c,δ[i]? = some (.own c)->∃ a o,σ[i]? = some (some (.ref a))/\H₀ a=none/\Z a=none/\H a=some o/\OwR K Z o c
 dja:∀ (i j:Nat) c c' a,i≠j -> δ[i]? = some (.own c) -> δ[j]? = some (.own c') -> σ[i]? = some (some (.ref a)) -> σ[j]? ≠ some (some (V.ref a))
 fr:FrOk K H₀ Z₀ Z δ σ
 nf:NoF Z₀ Z
section
variable {K:Fg} {H₀ Z₀ Z Z' H H':Hp} {δ:Dv} {σ:St}
theorem Hold.ow (h:Hold K H₀ Z₀ Z δ σ H) (i:Nat) (ds:List D) (e:δ[i]? = some (.ow ds)):∃ a xs,σ[i]? = some (some (.ref a))/\H₀ a=none/\Z a=none/\H a=some (.lst xs)/\Reps K Z xs ds:=by
 obtain ⟨a,o,h1,h2,h3,h4,h5⟩:=h.own i _ e
 cases h5 with
 | lst r=>exact ⟨a,_,h1,h2,h3,h4,r⟩
theorem Hold.new (h:Hold K H₀ Z₀ Z δ σ H) (n:New Z H Z' H'):Hold K H₀ Z₀ Z' δ σ H' where
 zh:=n.zh
 h0:=h.h0.trans n.h
 z0:=h.z0.trans n.z
 zb:=fun b hb=>by
  have:H b≠none:=by
   cases e:H₀ b with
   | none=>exact absurd e hb
   | some o=>rw [h.h0 b o e]; intro z; cases z
  rw [n.o b this,h.zb b hb]
 len:=h.len
 fz:=fun i d e=>let ⟨v,a,r⟩:=h.fz i d e; ⟨v,a,r.same n.z⟩
 own:=fun i ds e=>by
  obtain ⟨a,xs,h1,h2,h3,h4,h5⟩:=h.own i ds e
  exact ⟨a,xs,h1,h2,by rw [n.o a (by rw [h4]; intro z; cases z)]; exact h3,n.h a _ h4,h5.same n.z⟩
 dja:=h.dja
 fr:=h.fr.same n.z
 nf:=h.nf.trans n.nf
theorem Hold.set (h:Hold K H₀ Z₀ Z δ σ H) {i:Nat} {v:V} {d:D} (r:Rep K Z v d):Hold K H₀ Z₀ Z (δ.set i (.fz d)) (σ.set i (some v)) H where
 zh:=h.zh
 h0:=h.h0
 z0:=h.z0
 zb:=h.zb
 len:=by simp [h.len]
 fz:=fun j e q=>by
  by_cases hj:i=j
  ·subst hj
   have hl:i < δ.length:=by
    have:=(List.getElem?_eq_some_iff.mp q).1
    simpa using this
   rw [List.getElem?_set_self hl] at q
   cases q
   exact ⟨v,List.getElem?_set_self (by rw [<- h.len]; exact hl),r⟩
  ·rw [List.getElem?_set_ne hj] at q
   obtain ⟨u,a,b⟩:=h.fz j e q
   exact ⟨u,by rw [List.getElem?_set_ne hj]; exact a,b⟩
 own:=fun j es q=>by
  by_cases hj:i=j
  ·subst hj
   have hl:i < δ.length:=by
    have:=(List.getElem?_eq_some_iff.mp q).1
    simpa using this
   rw [List.getElem?_set_self hl] at q
   cases q
  ·rw [List.getElem?_set_ne hj] at q ⊢
   exact h.own j es q
 dja:=fun j k ds es a hjk q1 q2=>by
  by_cases hj:i=j
  ·subst hj
   have hl:i < δ.length:=by
    have:=(List.getElem?_eq_some_iff.mp q1).1
    simpa using this
   rw [List.getElem?_set_self hl] at q1
   cases q1
  ·by_cases hk:i=k
   ·subst hk
    have hl:i < δ.length:=by
     have:=(List.getElem?_eq_some_iff.mp q2).1
     simpa using this
    rw [List.getElem?_set_self hl] at q2
    cases q2
   ·rw [List.getElem?_set_ne hj] at q1
    rw [List.getElem?_set_ne hk] at q2
    rw [List.getElem?_set_ne hj,List.getElem?_set_ne hk]
    exact h.dja j k ds es a hjk q1 q2
 fr:=h.fr.put (fun _ z=>nomatch z) fun _ hj=>List.getElem?_set_ne hj
 nf:=h.nf
theorem Hold.setW (h:Hold K H₀ Z₀ Z δ σ H) {i:Nat} {p:Addr} {o:HO} {c:Oc} (hp:H p=none) (r:OwR K Z o c):Hold K H₀ Z₀ Z (δ.set i (.own c)) (σ.set i (some (.ref p))) (upd H p o) where
 zh:=h.zh.trans (fP hp)
 h0:=h.h0.trans (fP hp)
 z0:=h.z0
 zb:=h.zb
 len:=by simp [h.len]
 fz:=fun j e q=>by
  by_cases hj:i=j
  ·subst hj
   have hl:i < δ.length:=by
    have:=(List.getElem?_eq_some_iff.mp q).1
    simpa using this
   rw [List.getElem?_set_self hl] at q
   cases q
  ·rw [List.getElem?_set_ne hj] at q
   obtain ⟨u,a,b⟩:=h.fz j e q
   exact ⟨u,by rw [List.getElem?_set_ne hj]; exact a,b⟩
 own:=fun j es q=>by
  by_cases hj:i=j
  ·subst hj
   have hl:i < δ.length:=by
    have:=(List.getElem?_eq_some_iff.mp q).1
    simpa using this
   rw [List.getElem?_set_self hl] at q
   cases q
   exact ⟨p,o,List.getElem?_set_self (by rw [<- h.len]; exact hl),kB h.h0 hp,kB h.zh hp,aQ,r⟩
  ·rw [List.getElem?_set_ne hj] at q ⊢
   obtain ⟨a,ys,h1,h2,h3,h4,h5⟩:=h.own j es q
   exact ⟨a,ys,h1,h2,h3,by rw [aU (bJ h4 hp)]; exact h4,h5⟩
 dja:=fun j k ds es a hjk q1 q2=>by
  have old:∀ {m:Nat} {fs:Oc},δ[m]? = some (.own fs) -> σ[m]? ≠ some (some (V.ref p)):=fun {m fs} q z=>by
   obtain ⟨b,ys,h1,h2,h3,h4,h5⟩:=h.own m fs q
   rw [h1] at z
   cases z
   rw [hp] at h4
   cases h4
  have hl:∀ {m:Nat} {x:Sl},(δ.set i x)[m]? ≠ none->m < σ.length:=fun {m x} q=>by
   have:m<(δ.set i x).length:=by
    rcases Nat.lt_or_ge m (δ.set i x).length with g | g
    ·exact g
    ·exact absurd (List.getElem?_eq_none_iff.mpr g) q
   rw [<- h.len]; simpa using this
  by_cases hj:i=j
  ·subst hj
   have h1:i < σ.length:=hl (by rw [q1]; intro z; cases z)
   rw [List.getElem?_set_self h1]
   intro e
   cases e
   rw [List.getElem?_set_ne hjk] at q2 ⊢
   exact old q2
  ·rw [List.getElem?_set_ne hj] at q1 ⊢
   by_cases hk:i=k
   ·subst hk
    have h1:i < σ.length:=hl (by rw [q2]; intro z; cases z)
    intro e z
    rw [List.getElem?_set_self h1] at z
    cases z
    exact old q1 e
   ·rw [List.getElem?_set_ne hk] at q2 ⊢
    exact h.dja j k ds es a hjk q1 q2
 fr:=h.fr.put (fun _ z=>nomatch z) fun _ hj=>List.getElem?_set_ne hj
 nf:=h.nf
theorem Hold.setO (h:Hold K H₀ Z₀ Z δ σ H) {i:Nat} {p:Addr} {xs:List V} {ds:List D} (hp:H p=none) (r:Reps K Z xs ds):Hold K H₀ Z₀ Z (δ.set i (.ow ds)) (σ.set i (some (.ref p))) (upd H p (.lst xs)):=h.setW hp (.lst r)
theorem Hold.chgW (h:Hold K H₀ Z₀ Z δ σ H) {i:Nat} {p:Addr} {o:HO} {ds es:Oc} (e:δ[i]? = some (.own ds)) (ep:σ[i]? = some (some (.ref p))) (r:OwR K Z o es):Hold K H₀ Z₀ Z (δ.set i (.own es)) σ (upd H p o):=by
 obtain ⟨a,zs,h1,h2,h3,h4,h5⟩:=h.own i ds e
 rw [ep] at h1
 cases h1
 have hl:i < δ.length:=(List.getElem?_eq_some_iff.mp e).1
 refine ⟨fun b o' q=>?_,fun b o' q=>?_,h.z0,h.zb,by simp [h.len],fun j d q=>?_,fun j d q=>?_,fun j k d1 d2 a hjk q1 q2=>?_,h.fr.put (fun _ z=>nomatch z) fun _ _=>rfl,h.nf⟩
 ·rw [aU (bJ q h3)]; exact h.zh b o' q
 ·rw [aU (bJ q h2)]; exact h.h0 b o' q
 ·by_cases hj:i=j
  ·subst hj
   rw [List.getElem?_set_self hl] at q
   cases q
  ·rw [List.getElem?_set_ne hj] at q
   exact h.fz j d q
 ·by_cases hj:i=j
  ·subst hj
   rw [List.getElem?_set_self hl] at q
   cases q
   exact ⟨p,o,ep,h2,h3,aQ,r⟩
  ·rw [List.getElem?_set_ne hj] at q
   obtain ⟨b,ws,g1,g2,g3,g4,g5⟩:=h.own j d q
   refine ⟨b,ws,g1,g2,g3,?_,g5⟩
   have:b≠p:=fun z=>by subst z; exact h.dja i j ds d b hj e q ep g1
   rw [aU this]; exact g4
 ·have f:∀ {m:Nat} {dm:Oc},(δ.set i (.own es))[m]? = some (.own dm)->∃ dm',δ[m]? = some (.own dm'):=fun {m dm} q=>by
   by_cases hm:i=m
   ·subst hm; exact ⟨ds,e⟩
   ·rw [List.getElem?_set_ne hm] at q; exact ⟨dm,q⟩
  obtain ⟨e1,g1⟩:=f q1
  obtain ⟨e2,g2⟩:=f q2
  exact h.dja j k e1 e2 a hjk g1 g2
theorem Hold.chg (h:Hold K H₀ Z₀ Z δ σ H) {i:Nat} {p:Addr} {xs ys:List V} {ds es:List D} (e:δ[i]? = some (.ow ds)) (ep:σ[i]? = some (some (.ref p))) (r:Reps K Z ys es):Hold K H₀ Z₀ Z (δ.set i (.ow es)) σ (upd H p (.lst ys)):=h.chgW e ep (.lst r)
theorem Hold.frz (h:Hold K H₀ Z₀ Z δ σ H) {i:Nat} {ds:List D} (e:δ[i]? = some (.ow ds)):∃ Z',Same Z Z'/\Hold K H₀ Z₀ Z' (δ.set i (.fz (.list ds))) σ H:=by
 obtain ⟨a,xs,h1,h2,h3,h4,h5⟩:=h.ow i ds e
 have hl:i < δ.length:=(List.getElem?_eq_some_iff.mp e).1
 have sz:Same Z (upd Z a (.lst xs)):=fP h3
 refine ⟨upd Z a (.lst xs),sz,fun b o q=>?_,h.h0,h.z0.trans sz,fun b hb=>?_,by simp [h.len],fun j d q=>?_,fun j d q=>?_,fun j k d1 d2 b hjk q1 q2=>?_,(h.fr.same sz).put (fun _ z=>nomatch z) fun _ _=>rfl,h.nf.upd a⟩
 ·by_cases hb:b=a
  ·subst hb; rw [aQ] at q; cases q; exact h4
  ·rw [aU hb] at q; exact h.zh b o q
 ·rw [aU (fun z=>hb (by rw [z]; exact h2))]; exact h.zb b hb
 ·by_cases hj:i=j
  ·subst hj
   rw [List.getElem?_set_self hl] at q
   cases q
   exact ⟨.ref a,h1,.lst (SqL.of aQ) (h5.same sz)⟩
  ·rw [List.getElem?_set_ne hj] at q
   obtain ⟨v,g1,g2⟩:=h.fz j d q
   exact ⟨v,g1,g2.same sz⟩
 ·by_cases hj:i=j
  ·subst hj
   rw [List.getElem?_set_self hl] at q
   cases q
  ·rw [List.getElem?_set_ne hj] at q
   obtain ⟨b,ws,g1,g2,g3,g4,g5⟩:=h.own j d q
   have:b≠a:=fun z=>by subst z; exact h.dja i j _ d b hj e q h1 g1
   exact ⟨b,ws,g1,g2,by rw [aU this]; exact g3,g4,g5.same sz⟩
 ·by_cases hj:i=j
  ·subst hj
   rw [List.getElem?_set_self hl] at q1
   cases q1
  ·by_cases hk:i=k
   ·subst hk
    rw [List.getElem?_set_self hl] at q2
    cases q2
   ·rw [List.getElem?_set_ne hj] at q1
    rw [List.getElem?_set_ne hk] at q2
    exact h.dja j k d1 d2 b hjk q1 q2
end
def tV (K:Fg) (f:Dv->Option D):TE:=fun σ H Q=>∃ H₀ Z₀ Z δ d,Hold K H₀ Z₀ Z δ σ H/\f δ = some d/\∀ v Z' H',Hold K H₀ Z₀ Z' δ σ H'->Same Z Z'->Rep K Z' v d->Q v H'
def IJ (K:Fg) (f:Dv->Option Bool):TT:=fun σ H Q=>∃ H₀ Z₀ Z δ b,Hold K H₀ Z₀ Z δ σ H/\f δ = some b/\∀ Z' H',Hold K H₀ Z₀ Z' δ σ H'->Same Z Z'->Q b H'
def NI (K:Fg) (f:Dv->Option (List D)):TA:=fun σ H Q=>∃ H₀ Z₀ Z δ ds,Hold K H₀ Z₀ Z δ σ H/\f δ = some ds/\∀ vs Z' H',Hold K H₀ Z₀ Z' δ σ H'->Same Z Z'->Reps K Z' vs ds->Q vs H'
def Fl.to (K:Fg) (Z:Hp) (D:Ends) (σ:St) (H:Hp):Fl->Prop
 | .nx=>D.nx σ H
 | .bk=>D.bk σ H
 | .ct=>D.ct σ H
 | .rt d=>∀ v,Rep K Z v d->D.rt v H
def Jk (K:Fg) (f:Dv->Option (Fl×Dv)):TS:=fun D σ H=>∃ H₀ Z₀ Z δ r,Hold K H₀ Z₀ Z δ σ H/\f δ = some r/\∀ σ' H' Z',Hold K H₀ Z₀ Z' r.2 σ' H'->Same Z Z'->r.1.to K Z' D σ' H'
def EV (X:Cx) (e:Expr) (f:Dv->Option D):Prop:=PE X e (tV X.K f)
def TV (X:Cx) (e:Expr) (f:Dv->Option Bool):Prop:=PT X e (IJ X.K f)
def AV (X:Cx) (es:List Expr) (f:Dv->Option (List D)):Prop:=PA X es (NI X.K f)
def SV (X:Cx) (st:Stmt) (f:Dv->Option (Fl×Dv)):Prop:=PS X st (Jk X.K f)
def BV (X:Cx) (st:List Stmt) (f:Dv->Option (Fl×Dv)):Prop:=PSs X st (Jk X.K f)
theorem PE.imp {X:Cx} {e:Expr} {t t':TE} (h:PE X e t) (i:∀ σ H Q,t' σ H Q->t σ H Q):PE X e t':=fun pins s σ H Q I hw=>h pins s σ H Q I (i _ _ _ hw)
theorem PT.imp {X:Cx} {e:Expr} {t t':TT} (h:PT X e t) (i:∀ σ H Q,t' σ H Q->t σ H Q):PT X e t':=fun pins s σ H Q I hw=>h pins s σ H Q I (i _ _ _ hw)
theorem PA.imp {X:Cx} {es:List Expr} {t t':TA} (h:PA X es t) (i:∀ σ H Q,t' σ H Q->t σ H Q):PA X es t':=fun pos pins s σ H Q I hw=>h pos pins s σ H Q I (i _ _ _ hw)
theorem PS.imp {X:Cx} {st:Stmt} {t t':TS} (h:PS X st t) (i:∀ D σ H,t' D σ H->t D σ H):PS X st t':=fun pins s σ H D I hw=>h pins s σ H D I (i _ _ _ hw)
theorem PSs.imp {X:Cx} {st:List Stmt} {t t':TS} (h:PSs X st t) (i:∀ D σ H,t' D σ H->t D σ H):PSs X st t':=fun pins s σ H D I hw=>h pins s σ H D I (i _ _ _ hw)
theorem OpR.imp {X:Cx} {f:Value->Value->Sem Value} {r r':R2} (h:OpR X f r) (i:∀ x y H Q,r' x y H Q->r x y H Q):OpR X f r':=fun pins s σ H x y v u Q I rx ry q=>h pins s σ H x y v u Q I rx ry (i _ _ _ _ q)
theorem CallR.imp {X:Cx} {f:Value} {r r':List V->Hp->VK->Prop} (h:CallR X f r) (i:∀ xs H Q,r' xs H Q->r xs H Q):CallR X f r':=fun pins s σ H xs us Q I rx q=>h pins s σ H xs us Q I rx (i _ _ _ q)
def rD (K:Fg) (g:D->D->Option D):R2:=fun x y H Q=>∃ Z a b d,Same Z H/\Rep K Z x a/\Rep K Z y b/\g a b=some d/\∀ v Z' H',New Z H Z' H'->Rep K Z' v d->Q v H'
def NO (K:Fg) (g:D->Option D):V->Hp->VK->Prop:=fun x H Q=>∃ Z a d,Same Z H/\Rep K Z x a/\g a=some d/\∀ v Z' H',New Z H Z' H'->Rep K Z' v d->Q v H'
def Cz (K:Fg) (g:List D->Option D):List V->Hp->VK->Prop:=fun xs H Q=>∃ Z as d,Same Z H/\Reps K Z xs as/\g as=some d/\∀ v Z' H',New Z H Z' H'->Rep K Z' v d->Q v H'
def dG (K:Fg) (g:List D->Option D):Sp:=fun vs H Q _=>Cz K g vs H Q
section
variable {X:Cx} {a b c e:Expr} {es:List Expr} {pos p:Pos} {f f1 f2 f3:Dv->Option D} {fs:Dv->Option (List D)} {ft fu:Dv->Option Bool}
theorem bind_some {α β:Type} {o:Option α} {k:α -> Option β} {r:β} (h:o.bind k=some r):∃ a,o=some a/\k a=some r:=by
 cases o with
 | none=>cases h
 | some a=>exact ⟨a,rfl,h⟩
theorem two {K:Fg} {g:D->D->Option D} {σ:St} {H:Hp} {Q:VK} {r:R2} (hr:∀ x y H Q,rD K g x y H Q->r x y H Q) (h:tV K (o2 f1 f2 g) σ H Q):Jn r (tV K f1) (tV K f2) σ H Q:=by
 obtain ⟨H₀,Z₀,Z,δ,d,hh,e,k⟩:=h
 obtain ⟨x,e1,e⟩:=bind_some e
 obtain ⟨y,e2,e⟩:=bind_some e
 refine ⟨H₀,Z₀,Z,δ,x,hh,e1,fun v Z1 H1 hh1 s1 r1=>⟨H₀,Z₀,Z1,δ,y,hh1,e2,fun u Z2 H2 hh2 s2 r2=>hr _ _ _ _ ⟨Z2,x,y,d,hh2.zh,r1.same s2,r2,e,fun w Z3 H3 n r3=>?_⟩⟩⟩
 exact k w Z3 H3 (hh2.new n) ((s1.trans s2).trans n.z) r3
theorem az {op:Operator} {g:D->D->Option D} (ho:OpR X (binaryOp op) (rD X.K g)) (ha:EV X a f1) (hb:EV X b f2):EV X (.BinOp a op b pos) (o2 f1 f2 g):=
 PE.imp (JV ho ha hb) fun _ _ _ h=>two (fun _ _ _ _ q=>q) h
theorem kD {op:UnaryOp} {g:D->Option D} (ho:Li X (unaryOp op) (NO X.K g)) (ha:EV X a f):EV X (.UnaryOp op a pos) (o1 f g):=
 PE.imp (JT ho ha) fun σ H Q h=>by
  obtain ⟨H₀,Z₀,Z,δ,d,hh,e,k⟩:=h
  obtain ⟨x,e1,e⟩:=bind_some e
  exact ⟨H₀,Z₀,Z,δ,x,hh,e1,fun v Z1 H1 hh1 s1 r1=>⟨Z1,x,d,hh1.zh,r1,e,fun w Z3 H3 n r3=>k w Z3 H3 (hh1.new n) (s1.trans n.z) r3⟩⟩
theorem eJ {op:CmpOp} {g:D->D->Option D} (ho:OpR X (compareOp op) (rD X.K g)) (ha:EV X a f1) (hb:EV X b f2) (hm:behindInMarks op b=false):EV X (.Compare a [op] [b] pos) (o2 f1 f2 g):=
 PE.imp (DP ho ha hb hm) fun _ _ _ h=>two (fun _ _ _ _ q=>q) h
theorem sG {d:D} {b:Bool} (h:asB d=some b):d=.bool b:=by
 cases d <;> simp [asB] at h
 subst h; rfl
theorem LU {K:Fg} {σ:St} {H:Hp} {Q:Bool->Hp->Prop} (h:IJ K (ob f) σ H Q):tV K f σ H fun x H1=>∃ c,x=.bl c/\Q c H1:=by
 obtain ⟨H₀,Z₀,Z,δ,d,hh,e,k⟩:=h
 obtain ⟨x,e1,e⟩:=bind_some e
 have:=sG e
 subst this
 exact ⟨H₀,Z₀,Z,δ,_,hh,e1,fun v Z1 H1 hh1 s1 r1=>⟨_,r1.bl_eq,k Z1 H1 hh1 s1⟩⟩
theorem aF {op:CmpOp} {g:D->D->Option D} (ho:OpR X (compareOp op) (rD X.K g)) (ha:EV X a f1) (hb:EV X b f2) (hm:behindInMarks op b=false):TV X (.Compare a [op] [b] pos) (ob (o2 f1 f2 g)):=
 PT.imp (DC ho ha hb hm) fun σ H Q h=>by
  have h':=LU h
  exact two (f1:=f1) (f2:=f2) (g:=g) (fun _ _ _ _ q=>q) h'
theorem jw (ha:EV X a f) (he:∀ whole,isTrue a X.env whole=(do let v <- whole; standAt a.pos; holding [v] (truthy v)):=by intro _; rfl):TV X a (ob f):=
 PT.imp (GW ha he) fun _ _ _ h=>LU h
def WV (X:Cx) (e:Expr) (f:Dv->Option Bool):Prop:=PW X e (IJ X.K f)
theorem PW.imp {X:Cx} {e:Expr} {t t':TT} (h:PW X e t) (i:∀ σ H Q,t' σ H Q->t σ H Q):PW X e t':=fun whole pins s σ H Q I hw=>h whole pins s σ H Q I (i _ _ _ hw)
theorem fo (ha:TV X a ft):WV X (.BoolOp .And [a] pos) ft:=DB ha
theorem nD (ha:TV X a ft):WV X (.BoolOp .Or [a] pos) ft:=GR ha
theorem fO {rest:List Expr} (ha:TV X a ft) (hb:WV X (.BoolOp .And (b::rest) pos) fu):WV X (.BoolOp .And (a::b::rest) pos) (gh ft fu):=
 PW.imp (GT ha hb) fun σ H Q h=>by
  obtain ⟨H₀,Z₀,Z,δ,d,hh,e,k⟩:=h
  obtain ⟨x,e1,e⟩:=bind_some e
  refine ⟨H₀,Z₀,Z,δ,x,hh,e1,fun Z1 H1 hh1 s1=>?_⟩
  cases x with
  | true=>exact ⟨H₀,Z₀,Z1,δ,d,hh1,e,fun Z2 H2 hh2 s2=>k Z2 H2 hh2 (s1.trans s2)⟩
  | false=>cases e; exact k Z1 H1 hh1 s1
theorem nE {rest:List Expr} (ha:TV X a ft) (hb:WV X (.BoolOp .Or (b::rest) pos) fu):WV X (.BoolOp .Or (a::b::rest) pos) (vV ft fu):=
 PW.imp (JN ha hb) fun σ H Q h=>by
  obtain ⟨H₀,Z₀,Z,δ,d,hh,e,k⟩:=h
  obtain ⟨x,e1,e⟩:=bind_some e
  refine ⟨H₀,Z₀,Z,δ,x,hh,e1,fun Z1 H1 hh1 s1=>?_⟩
  cases x with
  | true=>cases e; exact k Z1 H1 hh1 s1
  | false=>exact ⟨H₀,Z₀,Z1,δ,d,hh1,e,fun Z2 H2 hh2 s2=>k Z2 H2 hh2 (s1.trans s2)⟩
theorem WV.tv (h:WV X a ft):TV X a ft:=PW.pt h
theorem vt (ha:TV X a ft):TV X (.UnaryOp .Not a pos) (yV ft):=
 PT.imp (GX ha) fun σ H Q h=>by
  obtain ⟨H₀,Z₀,Z,δ,d,hh,e,k⟩:=h
  cases e1:ft δ with
  | none=>unfold yV at e; rw [e1] at e; cases e
  | some x=>
   unfold yV at e
   rw [e1] at e
   cases e
   exact ⟨H₀,Z₀,Z,δ,x,hh,e1,fun Z1 H1 hh1 s1=>k Z1 H1 hh1 s1⟩
theorem oW {op} (h:EV X a f):EV X (.BoolOp op [a] pos) f:=G3 h
theorem oY {rest:List Expr} (ha:EV X a f1) (hb:EV X (.BoolOp .And (b::rest) pos) f2):EV X (.BoolOp .And (a::b::rest) pos) (qk f1 f2):=
 PE.imp (G7 ha hb) fun σ H Q h=>by
  obtain ⟨H₀,Z₀,Z,δ,d,hh,e,k⟩:=h
  obtain ⟨x,e1,e⟩:=bind_some e
  obtain ⟨c,e2,e⟩:=bind_some e
  have:=sG e2
  subst this
  refine ⟨H₀,Z₀,Z,δ,_,hh,e1,fun v Z1 H1 hh1 s1 r1=>⟨c,r1.bl_eq,?_⟩⟩
  cases c with
  | true=>exact ⟨H₀,Z₀,Z1,δ,d,hh1,e,fun v Z2 H2 hh2 s2 r2=>k v Z2 H2 hh2 (s1.trans s2) r2⟩
  | false=>cases e; exact k _ Z1 H1 hh1 s1 (.bl false)
theorem K0 {rest:List Expr} (ha:EV X a f1) (hb:EV X (.BoolOp .Or (b::rest) pos) f2):EV X (.BoolOp .Or (a::b::rest) pos) (J8 f1 f2):=
 PE.imp (JU ha hb) fun σ H Q h=>by
  obtain ⟨H₀,Z₀,Z,δ,d,hh,e,k⟩:=h
  obtain ⟨x,e1,e⟩:=bind_some e
  obtain ⟨c,e2,e⟩:=bind_some e
  have:=sG e2
  subst this
  refine ⟨H₀,Z₀,Z,δ,_,hh,e1,fun v Z1 H1 hh1 s1 r1=>⟨c,r1.bl_eq,?_⟩⟩
  cases c with
  | true=>cases e; exact k _ Z1 H1 hh1 s1 (.bl true)
  | false=>exact ⟨H₀,Z₀,Z1,δ,d,hh1,e,fun v Z2 H2 hh2 s2 r2=>k v Z2 H2 hh2 (s1.trans s2) r2⟩
theorem gP (hc:TV X c ft) (ha:EV X a f1) (hb:EV X b f2):EV X (.IfExp c a b pos) (A5 ft f1 f2):=
 PE.imp (AM hc ha hb) fun σ H Q h=>by
  obtain ⟨H₀,Z₀,Z,δ,d,hh,e,k⟩:=h
  obtain ⟨x,e1,e⟩:=bind_some e
  refine ⟨H₀,Z₀,Z,δ,x,hh,e1,fun Z1 H1 hh1 s1=>?_⟩
  cases x with
  | true=>exact ⟨H₀,Z₀,Z1,δ,d,hh1,e,fun v Z2 H2 hh2 s2 r2=>k v Z2 H2 hh2 (s1.trans s2) r2⟩
  | false=>exact ⟨H₀,Z₀,Z1,δ,d,hh1,e,fun v Z2 H2 hh2 s2 r2=>k v Z2 H2 hh2 (s1.trans s2) r2⟩
theorem Hold.read {K:Fg} {H₀ Z₀ Z H:Hp} {δ:Dv} {σ:St} (hh:Hold K H₀ Z₀ Z δ σ H) {i:Nat} {d:D} (h:oV i δ = some d):∃ v,σ[i]? = some (some v)/\Rep K Z v d:=by
 unfold oV at h
 cases q:δ[i]? with
 | none=>rw [q] at h; cases h
 | some x=>
  rw [q] at h
  cases x with
  | fz e=>cases h; exact hh.fz i _ q
  | un=>cases h
  | own _=>cases h
  | fr ds=>
   cases h
   obtain ⟨a,xs,h1,_,_,h4,h5⟩:=hh.fr i ds q
   exact ⟨.ref a,h1,.lst (SqL.of h4) h5⟩
theorem aa (i:Nat) {x:Str} (hN:X.N[i]? = some x:=by rfl) (hv:Gr X.env.scope x:=by first | exact Or.inl rfl | exact Or.inr (Or.inl rfl) | exact Or.inr (Or.inr rfl)) (hd:(x==("__debug__":Str))=false:=by decide) (hcd:(x==("__classdict__":Str))=false:=by decide) :
  EV X (.Name x pos) (oV i):=
 PE.imp (lH hN hv hd hcd) fun σ H Q h=>by
  obtain ⟨H₀,Z₀,Z,δ,d,hh,e,k⟩:=h
  obtain ⟨v,q,r⟩:=hh.read e
  exact ⟨v,q,k v Z H hh (Same.refl _) r⟩
theorem zA {d:D} {v:V} (h:PE X e (tC v)) (r:∀ Z,Rep X.K Z v d):EV X e (oC d):=
 PE.imp h fun σ H Q h=>by
  obtain ⟨H₀,Z₀,Z,δ,d',hh,e,k⟩:=h
  cases e
  exact k v Z H hh (Same.refl _) (r Z)
theorem af {i j}:EV X (.Constant (.int i) j pos) (oC (.int i)):=zA G5 fun _=>.int i
theorem kF {i j}:EV X (.Constant (.bool i) j pos) (oC (.bool i)):=zA JW fun _=>.bl i
theorem fV {j}:EV X (.Constant .none j pos) (oC .none):=zA G4 fun _=>.non
theorem aH {i j}:EV X (.Constant (.str i) j pos) (oC (.str i)):=zA G2 fun _=>.str i
theorem ag:AV X [] ap:=
 PA.imp lI fun σ H Q h=>by
  obtain ⟨H₀,Z₀,Z,δ,d,hh,e,k⟩:=h
  cases e
  exact k [] Z H hh (Same.refl _) .nil
theorem ac (ha:EV X e f) (hr:AV X es fs) (hs:starEach (e::es) X.env=(false,eval e X.env)::starEach es X.env:=by rfl):AV X (e::es) (ae f fs):=
 PA.imp (jc ha hr hs) fun σ H Q h=>by
  obtain ⟨H₀,Z₀,Z,δ,d,hh,e,k⟩:=h
  obtain ⟨x,e1,e⟩:=bind_some e
  obtain ⟨xs,e2,e⟩:=bind_some e
  cases e
  exact ⟨H₀,Z₀,Z,δ,x,hh,e1,fun v Z1 H1 hh1 s1 r1=>⟨H₀,Z₀,Z1,δ,xs,hh1,e2,fun vs Z2 H2 hh2 s2 r2=>k _ Z2 H2 hh2 (s1.trans s2) (.cons (r1.same s2) r2)⟩⟩
theorem aN {x1} (h:AV X es fs):EV X (.Tuple es x1 pos) (os fs bt):=
 PE.imp (G1 h) fun σ H Q h=>by
  obtain ⟨H₀,Z₀,Z,δ,d,hh,e,k⟩:=h
  obtain ⟨xs,e1,e⟩:=bind_some e
  refine ⟨H₀,Z₀,Z,δ,xs,hh,e1,fun vs Z1 H1 hh1 s1 r1=>?_⟩
  by_cases hl:xs.length<=sizeLine
  ·rw [bt,if_pos hl] at e
   cases e
   refine ⟨by rw [r1.length]; exact hl,fun p hp=>?_⟩
   have n:=New.add hh1.zh hp (.tup vs)
   exact k _ _ _ (hh1.new n) (s1.trans n.z) (.tup (SqT.of aQ) (r1.same n.z))
  ·rw [bt,if_neg hl] at e; cases e
theorem gO (h:AV X es fs):EV X (.List es pos) (os fs hE):=
 PE.imp (AL h) fun σ H Q h=>by
  obtain ⟨H₀,Z₀,Z,δ,d,hh,e,k⟩:=h
  obtain ⟨xs,e1,e⟩:=bind_some e
  refine ⟨H₀,Z₀,Z,δ,xs,hh,e1,fun vs Z1 H1 hh1 s1 r1=>?_⟩
  by_cases hl:xs.length<=sizeLine
  ·rw [hE,if_pos hl] at e
   cases e
   refine ⟨by rw [r1.length]; exact hl,fun p hp=>?_⟩
   have n:=New.add hh1.zh hp (.lst vs)
   exact k _ _ _ (hh1.new n) (s1.trans n.z) (.lst (SqL.of aQ) (r1.same n.z))
  ·rw [hE,if_neg hl] at e; cases e
theorem args {K:Fg} {g:List D->Option D} {σ:St} {H:Hp} {Q:VK} (h:tV K (os fs g) σ H Q):NI K fs σ H fun vs H1=>Cz K g vs H1 Q:=by
 obtain ⟨H₀,Z₀,Z,δ,d,hh,e,k⟩:=h
 obtain ⟨xs,e1,e⟩:=bind_some e
 exact ⟨H₀,Z₀,Z,δ,xs,hh,e1,fun vs Z1 H1 hh1 s1 r1=>⟨Z1,xs,d,hh1.zh,r1,e,fun w Z3 H3 n r3=>k w Z3 H3 (hh1.new n) (s1.trans n.z) r3⟩⟩
theorem be {x:Str} {id:String} {g:List D->Option D} (hc:CallR X (.builtin id) (Cz X.K g)) (hg:Gl X x) (hm:X.mg x=none) (hv:bootBuiltins x=some (.builtin id)) (ha:AV X (e::es) fs) (hn:x ≠ "__name__":=by decide) (hdb:(x==("__debug__":Str))=false:=by decide)
  (he:starEach (e::es) X.env=(false,eval e X.env)::starEach es X.env:=by rfl) (hpl:(backTo pos (starEach es X.env)).any (·.1)=false:=by rfl):EV X (.Call (.Name x p) (e::es) [] pos) (os fs g):=
 PE.imp (tW hc hg hm hv ha hn hdb he hpl) fun _ _ _ h=>args h
theorem db {x:Str} {id:String} {g:List D->Option D} (hc:CallR X (.type id) (Cz X.K g)) (hg:Gl X x) (hm:X.mg x=none) (hv:bootBuiltins x=some (.type id)) (ha:AV X (e::es) fs) (hn:x ≠ "__name__":=by decide) (hdb:(x==("__debug__":Str))=false:=by decide)
  (he:starEach (e::es) X.env=(false,eval e X.env)::starEach es X.env:=by rfl) (hpl:(backTo pos (starEach es X.env)).any (·.1)=false:=by rfl):EV X (.Call (.Name x p) (e::es) [] pos) (os fs g):=
 PE.imp (yJ hc hg hm hv ha hn hdb he hpl) fun _ _ _ h=>args h
theorem E8 {k:Nat} {fa:Addr} {fd:FuncData} {ps:List Str} {x:Str} {g:List D->Option D} {dd:List D} {dv:List V} {ds:List Value} (F:FnOk X.prog X.w X.K X.mg X.base dc k fa fd ps (dG X.K g)) (hr:Room k X.A) (hg:Gl X x) (hm:X.mg x=some (.ref fa)) (hk:PySem.W.keepIn X.K (.ref fa)=true)
  (hb:Binds X.K fd ps ds) (hd:Vals dv ds) (hdd:∀ Z,Reps X.K Z dv dd) (hx:sJ dc X E0) (ha:AV X (e::es) fs) (hdb:(x==("__debug__":Str))=false:=by decide) (he:starEach (e::es) X.env=(false,eval e X.env)::starEach es X.env:=by rfl) (hpl:(backTo pos (starEach es X.env)).any (·.1)=false:=by rfl) :
  EV X (.Call (.Name x p) (e::es) [] pos) (os fs fun as=>g (as++dd)):=
 PE.imp (DQ F hr hg hm hk hb hd hx ha hdb he hpl) fun σ H Q h=>by
  obtain ⟨H₀,Z₀,Z,δ,xs,hh,e1,q⟩:=args h
  refine ⟨H₀,Z₀,Z,δ,xs,hh,e1,fun vs Z1 H1 hh1 s1 r1=>?_⟩
  obtain ⟨Z2,as,d,zh,ra,eg,kk⟩:=q vs Z1 H1 hh1 s1 r1
  exact ⟨Z2,as++dd,d,zh,ra.append (hdd Z2),eg,kk⟩
theorem IxR.imp {r r':R2} (h:IxR X r) (i:∀ x y H Q,r' x y H Q->r x y H Q):IxR X r':=fun value slice pins s σ H x y v u Q I rx ry q hs=>h value slice pins s σ H x y v u Q I rx ry (i _ _ _ _ q) hs
theorem ai {g:D->D->Option D} (ho:IxR X (rD X.K g)) (ha:EV X a f1) (hb:EV X b f2) (hs:sI b):EV X (.Subscript a b pos) (o2 f1 f2 g):=
 PE.imp (FO ho ha hb hs) fun _ _ _ h=>two (fun _ _ _ _ q=>q) h
end
end VL
namespace VL
open PySem PySem.Spec PyProof.Rows L2
section
variable {X:Cx} {a b c e tg:Expr} {es:List Expr} {pos p:Pos} {f f1 f2 f3:Dv->Option D} {fs:Dv->Option (List D)} {ft fu:Dv->Option Bool} {st:Stmt} {sts body:List Stmt} {s1 s2:Dv->Option (Fl×Dv)}
theorem xv {F:Value->Value->Sem Value} {g:Int->Int->Int} (h:OpR X F (Ay fun i j=>.int (g i j))):OpR X F (rD X.K (iI g)):=
 OpR.imp h fun x y H Q q=>by
  obtain ⟨Z,a,b,d,zh,ra,rb,e,k⟩:=q
  cases ra <;> cases rb <;> simp [iI] at e
  subst e
  exact ⟨_,_,rfl,rfl,k _ Z H (New.refl zh) (.int _)⟩
theorem FR {F:Value->Value->Sem Value} {g:Int->Int->Bool} (h:OpR X F (Ay fun i j=>.bl (g i j))):OpR X F (rD X.K (iB g)):=
 OpR.imp h fun x y H Q q=>by
  obtain ⟨Z,a,b,d,zh,ra,rb,e,k⟩:=q
  cases ra <;> cases rb <;> simp [iB] at e
  subst e
  exact ⟨_,_,rfl,rfl,k _ Z H (New.refl zh) (.bl _)⟩
theorem tY {F:Value->Value->Sem Value} {P:Int->Int->Prop} {C:Int->Int->Bool} {g:Int->Int->Int} (h:OpR X F (rI P fun i j=>.int (g i j))) (hc:∀ i j,C i j=true->P i j):OpR X F (rD X.K (iC C g)):=
 OpR.imp h fun x y H Q q=>by
  obtain ⟨Z,a,b,d,zh,ra,rb,e,k⟩:=q
  cases ra with
  | int i=>
   cases rb with
   | int j=>
    by_cases hh:C i j=true
    ·simp only [iC,if_pos hh] at e
     cases e
     exact ⟨_,_,rfl,rfl,hc _ _ hh,k _ Z H (New.refl zh) (.int _)⟩
    ·simp only [iC,if_neg hh] at e
     cases e
   | _=>simp [iC] at e
  | _=>simp [iC] at e
theorem dN:OpR X (binaryOp .Sub) (rD X.K dX):=xv Ha
theorem B8:OpR X (binaryOp .Mult) (rD X.K Bc):=tY (P:=fun i j=>IntMulOk i j) (J2 fun _ _ _ _ _ _ _ hc q=>mul_int q hc) fun i j h=>of_decide_eq_true h
theorem eV:OpR X (binaryOp .FloorDiv) (rD X.K eK):=tY DU fun i j h=>(of_decide_eq_true h:0<j/\j<1073741824)
theorem cp:OpR X (binaryOp .Mod) (rD X.K bP):=tY Hc fun i j h=>of_decide_eq_true h
theorem oZ:OpR X (binaryOp .LShift) (rD X.K lA):=tY (P:=fun i j=>0<=j/\(Builtin.Int.intBits i:Int)+j<=2 ^ 27) (J2 fun _ _ _ _ _ _ _ hc q=>lshift_int hc.1 hc.2 q) fun i j h=>of_decide_eq_true h
theorem xW:OpR X (binaryOp .RShift) (rD X.K pE):=tY Hb fun i j h=>of_decide_eq_true h
theorem qF:OpR X (binaryOp .BitAnd) (rD X.K wR):=xv Hd
theorem B6:OpR X (binaryOp .BitOr) (rD X.K DS):=xv JZ
theorem xV:OpR X (binaryOp .BitXor) (rD X.K zQ):=xv G9
theorem uX:OpR X (compareOp .Lt) (rD X.K vm):=FR J0
theorem K6:OpR X (compareOp .Gt) (rD X.K KO):=FR J1
theorem kI:Li X (unaryOp .USub) (NO X.K negD):=by
 intro pins s σ H x v Q I rx q
 obtain ⟨Z,a,d,zh,ra,e,k⟩:=q
 cases ra <;> simp [negD] at e
 subst e
 exact Gv pins s σ H _ v Q I rx ⟨_,rfl,k _ Z H (New.refl zh) (.int _)⟩
theorem Rep.str_eq {K:Fg} {Z:Hp} {v:V} {x:Str} (h:Rep K Z v (.str x)):v=.str x:=by cases h; rfl
theorem Rep.tup_ex {K:Fg} {Z:Hp} {v:V} {ds:List D} (h:Rep K Z v (.tuple ds)):∃ a xs,v=.ref a/\SqT K Z a xs/\Reps K Z xs ds:=by
 cases h with
 | tup p q=>exact ⟨_,_,rfl,p,q⟩
theorem Rep.lst_ex {K:Fg} {Z:Hp} {v:V} {ds:List D} (h:Rep K Z v (.list ds)):∃ a xs,v=.ref a/\SqL K Z a xs/\Reps K Z xs ds:=by
 cases h with
 | lst p q=>exact ⟨_,_,rfl,p,q⟩
theorem d4 {p:Prop} [Decidable p] {α:Type} {x y:α} (h:(if p then some x else none)=some y):p/\x=y:=by
 by_cases q:p
 ·rw [if_pos q] at h; exact ⟨q,Option.some.inj h⟩
 ·rw [if_neg q] at h; cases h
theorem IE {a b d:D} (h:cQ a b=some d):(∃ i,a=.int i)\/(∃ x,a=.str x)\/(∃ xs,a=.list xs)\/∃ xs,a=.tuple xs:=by
 cases a with
 | int i=>exact .inl ⟨_,rfl⟩
 | str i=>exact .inr (.inl ⟨_,rfl⟩)
 | list i=>exact .inr (.inr (.inl ⟨_,rfl⟩))
 | tuple i=>exact .inr (.inr (.inr ⟨_,rfl⟩))
 | _=>cases h
theorem IF {i:Int} {b d:D} (h:cQ (.int i) b=some d):∃ j,b=.int j/\d=.int (i+j):=by
 cases b with
 | int j=>exact ⟨j,rfl,(Option.some.inj h).symm⟩
 | _=>cases h
theorem IC {i:Str} {b d:D} (h:cQ (.str i) b=some d):∃ j,b=.str j/\i.length+j.length<=sizeLine/\d=.str (i++j):=by
 cases b with
 | str j=>obtain ⟨p,q⟩:=d4 h; exact ⟨j,rfl,p,q.symm⟩
 | _=>cases h
theorem ID {i:List D} {b d:D} (h:cQ (.list i) b=some d):∃ j,b=.list j/\i.length+j.length<=sizeLine/\d=.list (i++j):=by
 cases b with
 | list j=>obtain ⟨p,q⟩:=d4 h; exact ⟨j,rfl,p,q.symm⟩
 | _=>cases h
theorem IB {i:List D} {b d:D} (h:cQ (.tuple i) b=some d):∃ j,b=.tuple j/\i.length+j.length<=sizeLine/\d=.tuple (i++j):=by
 cases b with
 | tuple j=>obtain ⟨p,q⟩:=d4 h; exact ⟨j,rfl,p,q.symm⟩
 | _=>cases h
theorem dt:OpR X (binaryOp .Add) (rD X.K cQ):=by
 intro pins s σ H x y v u Q I rx ry q
 obtain ⟨Z,a,b,d,zh,ra,rb,e,k⟩:=q
 rcases IE e with ⟨i,rfl⟩ | ⟨i,rfl⟩ | ⟨ds,rfl⟩ | ⟨ds,rfl⟩
 ·obtain ⟨j,rfl,rfl⟩:=IF e
  cases ra.int_eq
  cases rb.int_eq
  exact He pins s σ H _ _ v u Q I rx ry ⟨_,_,rfl,rfl,k _ Z H (New.refl zh) (.int _)⟩
 ·obtain ⟨j,rfl,hl,rfl⟩:=IC e
  cases ra.str_eq
  cases rb.str_eq
  exact vO pins s σ H _ _ v u Q I rx ry ⟨_,_,rfl,rfl,hl,k _ Z H (New.refl zh) (.str _)⟩
 ·obtain ⟨es,rfl,hl,rfl⟩:=ID e
  obtain ⟨a,xs,rfl,h1,q1⟩:=ra.lst_ex
  obtain ⟨b,ys,rfl,h2,q2⟩:=rb.lst_ex
  cases rx
  cases ry
  obtain ⟨its,r1,p1,z1⟩:=I.list (SqL.same h1 zh)
  obtain ⟨its2,r2,p2,z2⟩:=I.list (SqL.same h2 zh)
  obtain ⟨⟨cls,dd,data,sl⟩,n1,ho,hc,hdd,hd⟩:=p1
  obtain ⟨⟨cls2,dd2,data2,sl2⟩,n2,ho2,hc2,hdd2,hd2⟩:=p2
  simp only at hc hd hc2 hd2
  subst hc hd hc2 hd2
  have hl1:=r1.length
  have hl2:=r2.length
  have ql1:=q1.length
  have ql2:=q2.length
  refine concat_meets ⟨_,ho,rfl⟩ ⟨_,ho2,rfl⟩ noFill_list_add seq_list_add PySem.F.slot_list_add PySem.F.entry_list_add (PySem.F.args_list_add_2 _ _) (list_addW a b its.toArray its2.toArray n1 n2 dd dd2 sl sl2 (by simp; omega)) ⟨ho,ho2,?_⟩
  have ea:its.toArray++its2.toArray=(its++its2).toArray:=by simp
  rw [ea]
  have n:=New.add zh I.fresh (.lst (xs++ys))
  exact ⟨.ref _,_,I.lnew (t':=s.toks) (r1.append r2) (by rw [List.length_append]; omega),rfl,k _ _ _ n (.lst (SqL.of aQ) ((q1.append q2).same n.z))⟩
 ·obtain ⟨es,rfl,hl,rfl⟩:=IB e
  obtain ⟨a,xs,rfl,h1,q1⟩:=ra.tup_ex
  obtain ⟨b,ys,rfl,h2,q2⟩:=rb.tup_ex
  by_cases h0:ds.length=0
  ·have hd0:ds=[]:=List.eq_nil_of_length_eq_zero h0
   subst hd0
   cases q1
   cases rx
   cases ry
   obtain ⟨its,r1,p1,z1⟩:=I.tuple (SqT.same h1 zh)
   obtain ⟨its2,r2,p2,z2⟩:=I.tuple (SqT.same h2 zh)
   cases r1
   obtain ⟨⟨cls,dd,data,sl⟩,ho,hc,n,hd⟩:=id p1
   obtain ⟨⟨cls2,dd2,data2,sl2⟩,ho2,hc2,n2,hd2⟩:=id p2
   simp only at hc hd hc2 hd2
   subst hc hd hc2 hd2
   exact concat_meets ⟨_,ho,rfl⟩ ⟨_,ho2,rfl⟩ noFill_tuple_add seq_tuple_add PySem.F.slot_tuple_add PySem.F.entry_tuple_add (PySem.F.args_tuple_add_2 _ _)
    (tuple_addW0 a b _ its2.toArray n n2 dd dd2 sl sl2 (by simp)) ⟨ho,ho2,⟨.ref b,H,I,rfl,k _ Z H (New.refl zh) (.tup h2 q2)⟩⟩
  refine DW pins s σ H _ _ v u Q I rx ry ⟨a,b,xs,ys,rfl,rfl,SqT.same h1 zh,SqT.same h2 zh,fun z=>h0 (by rw [<- q1.length,z]; rfl),by rw [q1.length,q2.length]; exact hl,fun z=>?_,fun z p hp=>?_⟩
  ·subst z
   cases q2
   rw [List.append_nil] at k
   exact k _ Z H (New.refl zh) (.tup h1 q1)
  ·have n:=New.add zh hp (.tup (xs++ys))
   exact k _ _ _ n (.tup (SqT.of aQ) ((q1.append q2).same n.z))
theorem gi {d:D} (h:pF d=true):d.canLay0=true:=(Bool.and_eq_true_iff.mp h).1
theorem bI (hu:X.A.units+64<cLine):OpR X (compareOp .Eq) (rD X.K aS):=by
 intro pins s σ H x y v u Q I rx ry q
 obtain ⟨Z,a,b,d,zh,ra,rb,e,k⟩:=q
 by_cases hs:pF a=true/\pF b=true
 ·rw [aS,if_pos hs] at e
  cases e
  obtain ⟨as,r1⟩:=ra.reads I zh rx (gi hs.1)
  obtain ⟨bs,r2⟩:=rb.reads I zh ry (gi hs.2)
  exact eq_dataH r1 r2 hs.1 hs.2 hu ⟨.bl _,H,I,rfl,k _ Z H (New.refl zh) (.bl _)⟩
 ·rw [aS,if_neg hs] at e; cases e
theorem uW (hu:X.A.units+64<cLine):OpR X (compareOp .NotEq) (rD X.K neD):=by
 intro pins s σ H x y v u Q I rx ry q
 obtain ⟨Z,a,b,d,zh,ra,rb,e,k⟩:=q
 by_cases hs:pF a=true/\pF b=true
 ·rw [neD,if_pos hs] at e
  cases e
  obtain ⟨as,r1⟩:=ra.reads I zh rx (gi hs.1)
  obtain ⟨bs,r2⟩:=rb.reads I zh ry (gi hs.2)
  exact ne_dataH r1 r2 hs.1 hs.2 hu ⟨.bl _,H,I,rfl,k _ Z H (New.refl zh) (.bl _)⟩
 ·rw [neD,if_neg hs] at e; cases e
theorem HS {K:Fg} {Z:Hp} {v:V} {d:D} (r:Rep K Z v d):decide (v=.non)=BD d:=by cases r <;> rfl
theorem wA:OpR X (compareOp .IsNot) (rD X.K kz):=
 OpR.imp DT fun x y H Q q=>by
  obtain ⟨Z,a,b,d,zh,ra,rb,e,k⟩:=q
  cases rb <;> simp [kz] at e
  subst e
  exact ⟨rfl,by rw [HS ra]; exact k _ Z H (New.refl zh) (.bl _)⟩
theorem Reps.at {K:Fg} {Z:Hp} {vs:List V} {ds:List D} {i:Int} {d:D} (r:Reps K Z vs ds) (h:jl ds i=some d):∃ v,jl vs i=some v/\Rep K Z v d:=by
 unfold jl at h ⊢
 rw [r.length]
 obtain ⟨j,e,h⟩:=bind_some h
 obtain ⟨v,q,rr⟩:=r.get h
 exact ⟨v,by rw [e]; exact q,rr⟩
theorem Kv {a b d:D} (h:aE a b=some d):(∃ xs,a=.list xs)\/∃ xs,a=.tuple xs:=by
 cases a with
 | list i=>exact .inl ⟨_,rfl⟩
 | tuple i=>exact .inr ⟨_,rfl⟩
 | _=>cases h
theorem Gf {xs:List D} {b d:D} (h:aE (.list xs) b=some d):∃ i,b=.int i/\jl xs i=some d:=by
 cases b with
 | int i=>exact ⟨i,rfl,h⟩
 | _=>cases h
theorem aw:IxR X (rD X.K aE):=
 IxR.imp (ix_list.or HK) fun x y H Q q=>by
  obtain ⟨Z,a,b,d,zh,ra,rb,e,k⟩:=q
  rcases Kv e with ⟨xs,rfl⟩ | ⟨xs,rfl⟩
  ·obtain ⟨i,rfl,e⟩:=Gf e
   obtain ⟨a,vs,rfl,h1,q1⟩:=ra.lst_ex
   cases rb.int_eq
   obtain ⟨v,ev,rv⟩:=q1.at e
   exact .inl ⟨_,_,_,v,rfl,rfl,SqL.same h1 zh,ev,k v Z H (New.refl zh) rv⟩
  ·obtain ⟨i,rfl,e⟩:=Gf (xs:=xs) (b:=b) (by cases b <;> exact e)
   obtain ⟨a,vs,rfl,h1,q1⟩:=ra.tup_ex
   cases rb.int_eq
   obtain ⟨v,ev,rv⟩:=q1.at e
   exact .inr ⟨_,_,_,v,rfl,rfl,SqT.same h1 zh,ev,k v Z H (New.refl zh) rv⟩
theorem eW:CallR X (.builtin "len") (Cz X.K cB):=
 CallR.imp u4 fun xs H Q q=>by
  obtain ⟨Z,as,d,zh,ra,e,k⟩:=q
  cases ra with
  | nil=>cases e
  | cons r1 r2=>
   cases r2 with
   | cons _ _=>cases r1 <;> cases e
   | nil=>
    cases r1 with
    | lst h1 q1=>cases e; exact ⟨_,_,rfl,.inl ⟨_,SqL.same h1 zh,rfl⟩,k _ Z H (New.refl zh) (by rw [q1.length]; exact .int _)⟩
    | tup h1 q1=>cases e; exact ⟨_,_,rfl,.inr ⟨_,SqT.same h1 zh,rfl⟩,k _ Z H (New.refl zh) (by rw [q1.length]; exact .int _)⟩
    | _=>cases e
theorem sT {K:Fg} {Z:Hp} {xs:List V} {as:List D} {d:D} {g:List D->Option D} {h:Int->Int->Int} (hg:∀ as d,g as=some d->∃ i j,as=[.int i,.int j]/\d=.int (h i j)) (r:Reps K Z xs as) (e:g as=some d) :
  ∃ i j,xs=[.int i,.int j]/\d=.int (h i j):=by
 obtain ⟨i,j,rfl,rfl⟩:=hg _ _ e
 cases r with
 | cons r1 r2=>
  cases r2 with
  | cons r3 r4=>
   cases r4
   exact ⟨i,j,by rw [r1.int_eq,r3.int_eq],rfl⟩
theorem Gn (hc:X.calm=true):CallR X (.builtin "min") (Cz X.K Be):=
 CallR.imp (zD hc) fun xs H Q q=>by
  obtain ⟨Z,as,d,zh,ra,e,k⟩:=q
  obtain ⟨i,j,rfl,rfl⟩:=sT (h:=fun i j=>if j<i then j else i) (fun as d h=>by unfold Be at h; split at h <;> cases h; exact ⟨_,_,rfl,rfl⟩) ra e
  exact ⟨i,j,rfl,k _ Z H (New.refl zh) (.int _)⟩
theorem Cf (hc:X.calm=true):CallR X (.builtin "max") (Cz X.K rM):=
 CallR.imp (zE hc) fun xs H Q q=>by
  obtain ⟨Z,as,d,zh,ra,e,k⟩:=q
  obtain ⟨i,j,rfl,rfl⟩:=sT (h:=fun i j=>if j>i then j else i) (fun as d h=>by unfold rM at h; split at h <;> cases h; exact ⟨_,_,rfl,rfl⟩) ra e
  exact ⟨i,j,rfl,k _ Z H (New.refl zh) (.int _)⟩
theorem Lb:CallR X (.type "int") (Cz X.K BE):=
 CallR.imp zF fun xs H Q q=>by
  obtain ⟨Z,as,d,zh,ra,e,k⟩:=q
  cases ra with
  | nil=>cases e
  | cons r1 r2=>
   cases r2 with
   | cons _ _=>cases r1 <;> cases e
   | nil=>
    cases r1 with
    | int i=>cases e; exact .inl ⟨_,rfl,k _ Z H (New.refl zh) (.int _)⟩
    | bl i=>cases e; exact .inr ⟨_,rfl,k _ Z H (New.refl zh) (.int _)⟩
    | _=>cases e
theorem gE:CallR X (.type "tuple") (Cz X.K dS):=
 CallR.imp pP fun xs H Q q=>by
  obtain ⟨Z,as,d,zh,ra,e,k⟩:=q
  cases ra with
  | nil=>cases e
  | cons r1 r2=>
   cases r2 with
   | cons _ _=>cases r1 <;> cases e
   | nil=>
    cases r1 with
    | lst h1 q1=>cases e; exact ⟨_,_,rfl,.inl ⟨SqL.same h1 zh,fun l hl=>let n:=New.add zh hl (.tup _); k _ _ _ n (.tup (SqT.of aQ) (q1.same n.z))⟩⟩
    | tup h1 q1=>cases e; exact ⟨_,_,rfl,.inr ⟨SqT.same h1 zh,k _ Z H (New.refl zh) (.tup h1 q1)⟩⟩
    | _=>cases e
theorem Ej:Nm X "int.bit_length" (fun x xs H Q=>∃ i,x=.int i/\xs=[]/\Q (.int (Builtin.Int.intBits i)) H):=by
 intro pins s σ H x xs v us Q I rx rs q
 obtain ⟨i,rfl,rfl,q⟩:=q
 obtain ⟨t,rfl⟩:=rx
 cases rs
 exact call_int_bit_length ⟨.int _,H,I.tok _,⟨_,rfl⟩,q⟩
theorem rZ {apos:Pos} (ha:EV X a f) (hbase:attributeBase a "bit_length" X.env (eval a X.env)=eval a X.env:=by rfl) (hline:(apos.endLine==pos.line)=true:=by rfl):EV X (.Call (.Attribute a "bit_length" apos) [] [] pos) (o1 f kM):=
 PE.imp (G6 PySem.F.plainAttrs_int PySem.F.slot_int_bit_length PySem.F.type_int_bit_length Ej ha hbase hline) fun σ H Q h=>by
  obtain ⟨H₀,Z₀,Z,δ,d,hh,e,k⟩:=h
  obtain ⟨x,e1,e⟩:=bind_some e
  refine ⟨H₀,Z₀,Z,δ,x,hh,e1,fun v Z1 H1 hh1 s1 r1=>?_⟩
  cases r1 <;> simp [kM] at e
  subst e
  exact ⟨rfl,_,rfl,rfl,k _ Z1 H1 hh1 s1 (.int _)⟩
end
end VL
namespace VL
open PySem PySem.Spec PyProof.Rows L2
section
variable {X:Cx} {a b c e tg iter:Expr} {es:List Expr} {pos p:Pos} {f f1 f2 f3:Dv->Option D} {fs:Dv->Option (List D)} {ft fu:Dv->Option Bool} {st:Stmt} {sts body orelse:List Stmt} {s1 s2 s3:Sf}
theorem aB (he:EV X e f):SV X (.Return (some e) pos) (aX f):=
 PS.imp (GY he) fun D σ H h=>by
  obtain ⟨H₀,Z₀,Z,δ,r,hh,e,k⟩:=h
  obtain ⟨x,e1,e⟩:=bind_some e
  cases e
  exact ⟨H₀,Z₀,Z,δ,x,hh,e1,fun v Z1 H1 hh1 s1 r1=>k σ H1 Z1 hh1 s1 v r1⟩
theorem aI (i:Nat) {x:Str} {pos':Pos} (hN:X.N.Nodup) (he:EV X e f) (hi:X.N[i]? = some x:=by rfl) (hx:Cw X.env.scope x:=by first | exact Or.inl rfl | exact Or.inr rfl) (hs:swapsWith e (some (.Name x pos')) pos.line X.env=pure false:=by rfl)
  (hf:X.fn x=true\/X.env.scope.names.lookup x=some .local:=by first | exact .inl rfl | exact .inr rfl | assumption):SV X (.Assign [.Name x pos'] e pos) (bc i f):=
 PS.imp (AD hN hi hx he hs hf) fun D σ H h=>by
  obtain ⟨H₀,Z₀,Z,δ,r,hh,e,k⟩:=h
  obtain ⟨x,e1,e⟩:=bind_some e
  cases e
  exact ⟨H₀,Z₀,Z,δ,x,hh,e1,fun v Z1 H1 hh1 s1 r1=>k _ H1 Z1 (hh1.set r1) s1⟩
theorem J9 {D:Ends} {σ:St} {H:Hp} {K:Fg} (h:Jk K fj D σ H):D.nx σ H:=by
 obtain ⟨H₀,Z₀,Z,δ,r,hh,e,k⟩:=h
 cases e
 exact k σ H Z hh (Same.refl _)
theorem aV:BV X [] fj:=PSs.imp DF fun D σ H h=>J9 h
theorem aj (h1:SV X st s1) (h2:BV X sts s2):BV X (st::sts) (sSeq s1 s2):=
 PSs.imp (AB h1 h2) fun D σ H h=>by
  obtain ⟨H₀,Z₀,Z,δ,r,hh,e,k⟩:=h
  obtain ⟨⟨fl,δ'⟩,e1,e⟩:=bind_some e
  refine ⟨H₀,Z₀,Z,δ,(fl,δ'),hh,e1,fun σ' H' Z' hh' s'=>?_⟩
  cases fl with
  | nx=>exact ⟨H₀,Z₀,Z',δ',r,hh',e,fun σ2 H2 Z2 hh2 s2=>by
    have:=k σ2 H2 Z2 hh2 (s'.trans s2)
    obtain ⟨fl,δ2⟩:=r
    cases fl <;> exact this⟩
  | bk=>cases e; exact k σ' H' Z' hh' s'
  | ct=>cases e; exact k σ' H' Z' hh' s'
  | rt d=>cases e; exact k σ' H' Z' hh' s'
theorem ar (h1:SV X st s1):BV X [st] s1:=DD h1
theorem bo (hc:TV X c ft) (ha:BV X body s1) (hb:BV X orelse s2):SV X (.If c body orelse pos) (sIf ft s1 s2):=
 PS.imp (JR hc ha hb) fun D σ H h=>by
  obtain ⟨H₀,Z₀,Z,δ,r,hh,e,k⟩:=h
  obtain ⟨x,e1,e⟩:=bind_some e
  refine ⟨H₀,Z₀,Z,δ,x,hh,e1,fun Z1 H1 hh1 t1=>?_⟩
  cases x with
  | true=>exact ⟨H₀,Z₀,Z1,δ,r,hh1,e,fun σ2 H2 Z2 hh2 t2=>k σ2 H2 Z2 hh2 (t1.trans t2)⟩
  | false=>exact ⟨H₀,Z₀,Z1,δ,r,hh1,e,fun σ2 H2 Z2 hh2 t2=>k σ2 H2 Z2 hh2 (t1.trans t2)⟩
theorem KS {K:Fg} (i:Nat) {D:Ends} {σ:St} {H:Hp} (h:Jk K (fun δ=>s1 (dFz i δ)) D σ H):Jk K s1 D σ H:=by
 obtain ⟨H₀,Z₀,Z,δ,r,hh,e,k⟩:=h
 have e:s1 (dFz i δ)=some r:=e
 unfold dFz at e
 split at e
 ·rename_i ds q
  obtain ⟨Z1,t1,hh1⟩:=hh.frz q
  exact ⟨H₀,Z₀,Z1,_,r,hh1,e,fun σ2 H2 Z2 hh2 t2=>k σ2 H2 Z2 hh2 (t1.trans t2)⟩
 ·exact ⟨H₀,Z₀,Z,_,r,hh,e,k⟩
theorem nU (i:Nat) (h:SV X st s1):SV X st (fun δ=>s1 (dFz i δ)):=PS.imp h fun D σ H q=>KS i q
def On (K:Fg) (g:D->Dv->Option Dv):TG:=fun v σ H Q=>∃ H₀ Z₀ Z δ d δ',Hold K H₀ Z₀ Z δ σ H/\Rep K Z v d/\g d δ = some δ'/\∀ σ' H' Z',Hold K H₀ Z₀ Z' δ' σ' H'->Same Z Z'->Q σ' H'
def GV (X:Cx) (tg:Expr) (g:D->Dv->Option Dv):Prop:=PG X tg (On X.K g)
theorem PG.imp {t t':TG} (h:PG X tg t) (i:∀ v σ H Q,t' v σ H Q->t v σ H Q):PG X tg t':=fun pins s σ H x v Q I r q=>h pins s σ H x v Q I r (i _ _ _ _ q)
theorem im (i:Nat) {x:Str} (hN:X.N.Nodup) (hi:X.N[i]? = some x:=by rfl) (hx:Cw X.env.scope x:=by first | exact Or.inl rfl | exact Or.inr rfl)
  (hf:X.fn x=true\/X.env.scope.names.lookup x=some .local:=by first | exact .inl rfl | exact .inr rfl | assumption):GV X (.Name x pos) (gN i):=
 PG.imp (cf hN hi hx hf) fun v σ H Q h=>by
  obtain ⟨H₀,Z₀,Z,δ,d,δ',hh,r,e,k⟩:=h
  cases e
  exact k _ H Z (hh.set r) (Same.refl _)
structure ItOk (K:Fg) (Z:Hp) (J:It) (ds:List D):Prop where
 go:∀ (i:Nat) (H:Hp),Same Z H->i<ds.length->J.go i H
 yld:∀ (i:Nat) (H:Hp) x H' d,Same Z H->ds[i]? = some d->J.yld i H x H'->H'=H/\Rep K Z x d
 stop:∀ (i:Nat) (H:Hp),Same Z H->ds.length<=i->J.stop i H
def LZ (K:Fg) (f:Dv->Option (List D)):TI:=fun σ H R=>∃ H₀ Z₀ Z δ ds,Hold K H₀ Z₀ Z δ σ H/\f δ = some ds/\∀ J Z' H',Hold K H₀ Z₀ Z' δ σ H'->Same Z Z'->ItOk K Z' J ds->R J H'
def IV (X:Cx) (tg iter:Expr) (f:Dv->Option (List D)):Prop:=PI X tg iter (LZ X.K f)
theorem PI.imp {t t':TI} (h:PI X tg iter t) (i:∀ σ H R,t' σ H R->t σ H R):PI X tg iter t':=fun pins s σ H R I q=>h pins s σ H R I (i _ _ _ q)
theorem jy {g:D->Dv->Option Dv} (hp:PassesOwn (model X.prog X.w) X.A X.env X.xe) (hc:X.calm=true) (hi:IV X tg iter fs) (hg:GV X tg g) (hb:BV X body s1)
  (hs:∀ x,foldedSetIterable iter X.env x=pure x:=by intro _; rfl):SV X (.For tg iter body [] pos) (tJ fs g s1):=
 PS.imp (GZ hp hc hi hg hb hs) fun D σ H h=>by
  obtain ⟨H₀,Z₀,Z,δ,r,hh,e,k⟩:=h
  obtain ⟨ds,e1,e⟩:=bind_some e
  refine ⟨H₀,Z₀,Z,δ,ds,hh,e1,fun J Z1 H1 hh1 t1 ok=>?_⟩
  refine ⟨fun i m σ H=>m=ds.length-i/\i<=ds.length/\∃ Zc δc,Hold X.K H₀ Z₀ Zc δc σ H/\Same Z1 Zc/\loop g s1 (ds.drop i) δc=some r,⟨ds.length,by simp,Nat.zero_le _,Z1,δ,hh1,Same.refl _,e⟩,?_⟩
  rintro i m σ2 H2 ⟨rfl,hi2,Zc,δc,hhc,tc,ec⟩
  have zh:Same Z1 H2:=tc.trans hhc.zh
  by_cases hlt:i<ds.length
  ·refine .inr ⟨ok.go i H2 zh hlt,fun σ3 H3=>∃ Zc δc,Hold X.K H₀ Z₀ Zc δc σ3 H3/\Same Z1 Zc/\loop g s1 (ds.drop (i+1)) δc=some r,fun σ3 H3 q=>⟨ds.length-(i+1),by omega,rfl,hlt,q⟩,fun x H3 y=>?_⟩
   have ed:ds[i]? = some ds[i]:=by simp [hlt]
   obtain ⟨rfl,rx⟩:=ok.yld i H2 x H3 _ zh ed y
   rw [List.drop_eq_getElem_cons hlt] at ec
   obtain ⟨δ1,g1,ec⟩:=bind_some ec
   obtain ⟨⟨fl,δ2⟩,g2,ec⟩:=bind_some ec
   refine ⟨H₀,Z₀,Zc,δc,_,δ1,hhc,rx.same tc,g1,fun σ4 H4 Z4 hh4 t4=>⟨H₀,Z₀,Z4,δ1,(fl,δ2),hh4,g2,fun σ5 H5 Z5 hh5 t5=>?_⟩⟩
   cases fl with
   | nx=>exact ⟨Z5,δ2,hh5,(tc.trans t4).trans t5,ec⟩
   | ct=>exact ⟨Z5,δ2,hh5,(tc.trans t4).trans t5,ec⟩
   | bk=>cases ec; exact k σ5 H5 Z5 hh5 (((t1.trans tc).trans t4).trans t5)
   | rt d=>cases ec; exact k σ5 H5 Z5 hh5 (((t1.trans tc).trans t4).trans t5)
  ·have e2:ds.drop i=[]:=List.drop_eq_nil_iff.mpr (by omega)
   rw [e2] at ec
   cases ec
   exact .inl ⟨ok.stop i H2 zh (by omega),k σ2 H2 Zc hhc (t1.trans tc)⟩
theorem Aj (n:Dv->Nat) (hp:PassesOwn (model X.prog X.w) X.A X.env X.xe) (hc:TV X c ft) (hb:BV X body s1):SV X (.While c body [] pos) (fun δ=>gS ft s1 (n δ) δ):=
 PS.imp (AC hp hc hb) fun D σ H h=>by
  obtain ⟨H₀,Z₀,Z,δ,r,hh,e,k⟩:=h
  refine ⟨fun m σ H=>∃ Zc δc,Hold X.K H₀ Z₀ Zc δc σ H/\Same Z Zc/\gS ft s1 m δc=some r,⟨n δ,Z,δ,hh,Same.refl _,e⟩,?_⟩
  rintro m σ2 H2 ⟨Zc,δc,hhc,tc,ec⟩
  cases m with
  | zero=>cases ec
  | succ m=>
   obtain ⟨cc,g1,ec⟩:=bind_some ec
   refine ⟨H₀,Z₀,Zc,δc,cc,hhc,g1,fun Z3 H3 hh3 t3=>?_⟩
   cases cc with
   | false=>cases ec; exact k σ2 H3 Z3 hh3 (tc.trans t3)
   | true=>
    obtain ⟨⟨fl,δ2⟩,g2,ec⟩:=bind_some ec
    refine ⟨fun σ4 H4=>∃ Zc δc,Hold X.K H₀ Z₀ Zc δc σ4 H4/\Same Z Zc/\gS ft s1 m δc=some r,fun σ4 H4 q=>⟨m,Nat.lt_succ_self m,q⟩,?_⟩
    refine ⟨H₀,Z₀,Z3,δc,(fl,δ2),hh3,g2,fun σ5 H5 Z5 hh5 t5=>?_⟩
    cases fl with
    | nx=>exact ⟨Z5,δ2,hh5,(tc.trans t3).trans t5,ec⟩
    | ct=>exact ⟨Z5,δ2,hh5,(tc.trans t3).trans t5,ec⟩
    | bk=>cases ec; exact k σ5 H5 Z5 hh5 ((tc.trans t3).trans t5)
    | rt d=>cases ec; exact k σ5 H5 Z5 hh5 ((tc.trans t3).trans t5)
theorem uB {K:Fg} {Z:Hp} {lo:Int} {n:Nat}:ItOk K Z (IH lo n) (jB lo n) where
 go:=fun i H _ h=>by simpa [jB,IH] using h
 yld:=fun i H x H' d _ e y=>by
  obtain ⟨rfl,rfl⟩:=y
  refine ⟨rfl,?_⟩
  unfold jB at e
  rw [List.getElem?_map] at e
  cases q:(List.range n)[i]? with
  | none=>rw [q] at e; cases e
  | some k=>
   rw [q] at e
   cases e
   have:k=i:=by
    obtain ⟨h,h2⟩:=List.getElem?_eq_some_iff.mp q
    simpa using h2.symm
   subst this
   exact .int _
 stop:=fun i H _ h=>by simpa [jB,IH] using h
theorem dI (hg:Gl X "range") (hm:X.mg "range" = none) (ha:AV X [a] fs) (hs:starEach [a] X.env=[(false,eval a X.env)]:=by rfl):IV X tg (.Call (.Name "range" p) [a] [] pos) (oL fs cY):=
 PI.imp (yH hg hm ha hs) fun σ H R h=>by
  obtain ⟨H₀,Z₀,Z,δ,ds,hh,e,k⟩:=h
  obtain ⟨as,e1,e⟩:=bind_some e
  refine ⟨H₀,Z₀,Z,δ,as,hh,e1,fun vs Z1 H1 hh1 t1 r1=>?_⟩
  unfold cY at e
  split at e
  ·rename_i j
   split at e
   ·rename_i hj
    cases e
    cases r1 with
    | cons q1 q2=>
     cases q2
     exact ⟨j,by rw [q1.int_eq],hj.2,hj.1,k _ Z1 H1 hh1 t1 uB⟩
   ·cases e
  ·cases e
theorem qx (hg:Gl X "range") (hm:X.mg "range" = none) (ha:AV X [a,b] fs) (hs:starEach [a,b] X.env=[(false,eval a X.env),(false,eval b X.env)]:=by rfl) (hs2:starEach [b] X.env=[(false,eval b X.env)]:=by rfl):IV X tg (.Call (.Name "range" p) [a,b] [] pos) (oL fs kb):=
 PI.imp (yG hg hm ha hs hs2) fun σ H R h=>by
  obtain ⟨H₀,Z₀,Z,δ,ds,hh,e,k⟩:=h
  obtain ⟨as,e1,e⟩:=bind_some e
  refine ⟨H₀,Z₀,Z,δ,as,hh,e1,fun vs Z1 H1 hh1 t1 r1=>?_⟩
  unfold kb at e
  split at e
  ·rename_i i j
   split at e
   ·rename_i hj
    cases e
    cases r1 with
    | cons q1 q2=>
     cases q2 with
     | cons q2 q3=>
      cases q3
      exact ⟨i,j,by rw [q1.int_eq,q2.int_eq],⟨hj.1.2,hj.1.1,hj.2.2,hj.2.1⟩,k _ Z1 H1 hh1 t1 uB⟩
   ·cases e
  ·cases e
theorem EL (ha:EV X a f):IV X tg a (oI f Bg):=
 PI.imp (DL ha) fun σ H R h=>by
  obtain ⟨H₀,Z₀,Z,δ,ds,hh,e,k⟩:=h
  obtain ⟨y,e1,e⟩:=bind_some e
  refine ⟨H₀,Z₀,Z,δ,y,hh,e1,fun v Z1 H1 hh1 t1 r1=>?_⟩
  cases r1 with
  | @lst l xs ds' h1 q1=>
   cases e
   refine ⟨l,rfl,⟨xs,SqL.same h1 hh1.zh⟩,k _ Z1 H1 hh1 t1 ⟨fun i H2 z hi=>?_,fun i H2 x H3 d z ed y=>?_,fun i H2 z hi=>⟨xs,SqL.same h1 z,by rw [q1.length]; exact hi⟩⟩⟩
   ·have hi':i<xs.length:=by rw [q1.length]; exact hi
    exact ⟨xs,xs[i],SqL.same h1 z,by simp [hi']⟩
   ·obtain ⟨rfl,y⟩:=y
    obtain ⟨v,ev,rv⟩:=q1.get ed
    have:=y xs (SqL.same h1 z)
    rw [ev] at this
    cases this
    exact ⟨rfl,rv⟩
  | _=>cases e
theorem HM (ha:EV X a f):IV X tg a (oI f LT):=
 PI.imp (G0 ha) fun σ H R h=>by
  obtain ⟨H₀,Z₀,Z,δ,ds,hh,e,k⟩:=h
  obtain ⟨y,e1,e⟩:=bind_some e
  refine ⟨H₀,Z₀,Z,δ,y,hh,e1,fun v Z1 H1 hh1 t1 r1=>?_⟩
  cases r1 with
  | @tup l xs ds' h1 q1=>
   cases e
   refine ⟨l,rfl,⟨xs,SqT.same h1 hh1.zh⟩,k _ Z1 H1 hh1 t1 ⟨fun i H2 z hi=>?_,fun i H2 x H3 d z ed y=>?_,fun i H2 z hi=>⟨xs,SqT.same h1 z,by rw [q1.length]; exact hi⟩⟩⟩
   ·have hi':i<xs.length:=by rw [q1.length]; exact hi
    exact ⟨xs,xs[i],SqT.same h1 z,by simp [hi']⟩
   ·obtain ⟨rfl,y⟩:=y
    obtain ⟨v,ev,rv⟩:=q1.get ed
    have:=y xs (SqT.same h1 z)
    rw [ev] at this
    cases this
    exact ⟨rfl,rv⟩
  | _=>cases e
end
section
variable {X:Cx} {e:Expr} {lo hi:Option Expr} {p2 pos:Pos} {f:Dv->Option D}
noncomputable def Om (K:Fg) (f:Dv->Option (Option Int)):TO:=fun σ H Q=>∃ H₀ Z₀ Z δ d,Hold K H₀ Z₀ Z δ σ H/\f δ = some d/\∀ Z' H',Hold K H₀ Z₀ Z' δ σ H'->Same Z Z'->Q d H'
def OV (X:Cx) (e:Option Expr) (f:Dv->Option (Option Int)):Prop:=PO X e (Om X.K f)
theorem PO.imp {eo:Option Expr} {t t':TO} (h:PO X eo t) (i:∀ σ H Q,t' σ H Q->t σ H Q):PO X eo t':=fun pins s σ H Q I q=>h pins s σ H Q I (i _ _ _ q)
theorem kj:OV X none IP:=PO.imp DJ fun σ H Q h=>by
 obtain ⟨H₀,Z₀,Z,δ,d,hh,e,k⟩:=h
 cases e
 exact k Z H hh (Same.refl _)
theorem ii (h:EV X e f):OV X (some e) (oP f):=PO.imp (DI h) fun σ H Q h=>by
 obtain ⟨H₀,Z₀,Z,δ,d,hh,e,k⟩:=h
 obtain ⟨x,e1,e⟩:=bind_some e
 refine ⟨H₀,Z₀,Z,δ,x,hh,e1,fun v Z1 H1 hh1 t1 r1=>?_⟩
 cases r1 <;> simp [asI] at e
 subst e
 exact ⟨_,rfl,k Z1 H1 hh1 t1⟩
theorem Reps.cut {K:Fg} {Z:Hp} {vs:List V} {ds:List D} (r:Reps K Z vs ds) (lo hi:Option Int):Reps K Z (pO vs lo hi) (hX ds lo hi):=by
 unfold pO hX
 rw [r.length]
 exact (r.drop _).take _
theorem wC {ds:List D} {lo hi:Option Int} (h1:HT.sIx ds.length 0 lo=0) (h2:HT.sIx ds.length ds.length hi=ds.length):hX ds lo hi=ds:=by
 unfold hX
 rw [h1,h2]
 simp
section
variable {prog:Program} {w:World} {A:Around} {E:Value->Shared->Prop} {s:Shared}
theorem qS {t sl:Addr} {items:Array Value} {vl vu:Value} {lo hi:Option Int} {Q:Value->Shared->Prop} (ht:IsTup s.heap t items) (hs:s.heap.IsSliceOf sl vl vu .none) (pl:IsPart vl lo) (pu:IsPart vu hi)
  (h1:HT.sIx items.size 0 lo=0) (h2:HT.sIx items.size items.size hi=items.size) (h:Q (.ref t) s):wpAny (model prog w) A (getItem (.ref t) (.ref sl)) Q E s:=by
 obtain ⟨osl,hos,hcs,hds⟩:=id hs
 have ty:s.TypeIs (.ref sl) "slice":=⟨osl,hos,hcs⟩
 unfold getItem
 try with_reducible refine wpAny_holding ?_
 first | refine wpAny_bind (wpAny_pure ?_) | skip
 refine wpAny_bind (wpAny_sequenceKey ht.typeIs (by decide) ?_)
 refine wpAny_bind (wpAny_callSpecial?_slot (name:=Str.ofString "__getitem__") ht.typeIs PyProof.Rows.slot_tuple_getitem
  (wpAny_call_entry PyProof.Rows.slot_tuple_getitem ht.typeIs PyProof.Rows.entry_tuple_getitem ?_ (PyProof.Rows.args_tuple_getitem _ _)))
 show wpAny _ _ (Builtin.Tuple.tupleItemsOf (.ref t) >>= _) _ _ s
 refine wpAny_bind (tupleItemsOf_ ht ?_)
 refine wpAny_bind (wpAny_typeOf ty ?_)
 rw [if_pos (by decide)]
 refine wpAny_bind (HT.gX hs pl pu ?_)
 have yes:(((((HT.sIx items.size 0 lo:Nat):Int)==0)&&((1:Int)==1))&&((HT.sIx items.size items.size hi-HT.sIx items.size 0 lo)==items.size))=true:=by
  rw [h1,h2]; simp
 show wpAny _ _ (if (((((HT.sIx items.size 0 lo:Nat):Int)==0)&&((1:Int)==1))&&((HT.sIx items.size items.size hi-HT.sIx items.size 0 lo)==items.size))=true then _ else _) _ _ s
 rw [if_pos yes]
 unfold Builtin.Tuple.tupleIsExact
 refine wpAny_bind (wpAny_bind (wpAny_typeOf ht.typeIs (wpAny_pure ?_)))
 rw [if_pos (by decide)]
 exact wpAny_bind (wpAny_rule (wpAny_pure ⟨_,rfl,wpAny_pure h⟩))
end
def Mn (K:PySem.W.Frag):V->Option Int->Option Int->Hp->VK->Prop:=fun x lo hi H Q=>∃ a xs,x=.ref a/\SqT K H a xs/\HT.sIx xs.length 0 lo=0/\HT.sIx xs.length xs.length hi=xs.length/\Q (.ref a) H
theorem Do:SlR X (Mn X.K):=by
 intro pins s σ H x v vl vu lo hi sl Q I rx hs pl pu h
 obtain ⟨a,xs,rfl,hx,w1,w2,q⟩:=h
 cases rx
 obtain ⟨its,r,ht,hz⟩:=I.tuple hx
 have hlen:its.toArray.size=xs.length:=by rw [List.size_toArray]; exact r.length.symm
 refine ⟨"tuple",_,PyProof.Rows.slot_tuple_getitem.lookup,ht.typeIs,?_⟩
 exact qS ht hs pl pu (by rw [hlen]; exact w1) (by rw [hlen]; exact w2) ⟨.ref a,H,I,rfl,q⟩
theorem hU {fl fu:Dv->Option (Option Int)} (he:EV X e f) (hl:OV X lo fl) (hu:OV X hi fu):EV X (.Subscript e (.Slice lo hi none p2) pos) (Hm f fl fu):=
 PE.imp (AK (sl_list.or (sl_tup.or Do)) he hl hu) fun σ H Q h=>by
  obtain ⟨H₀,Z₀,Z,δ,d,hh,e,k⟩:=h
  obtain ⟨x,e1,e⟩:=bind_some e
  obtain ⟨i,e2,e⟩:=bind_some e
  obtain ⟨j,e3,e⟩:=bind_some e
  refine ⟨H₀,Z₀,Z,δ,x,hh,e1,fun v Z1 H1 hh1 t1 r1=>⟨H₀,Z₀,Z1,δ,i,hh1,e2,fun Z2 H2 hh2 t2=>⟨H₀,Z₀,Z2,δ,j,hh2,e3,fun Z3 H3 hh3 t3=>?_⟩⟩⟩
  have r3:=(r1.same t2).same t3
  have tt:=(t1.trans t2).trans t3
  cases r3 with
  | @lst a xs ds h1 q1=>
   cases e
   refine .inl ⟨_,_,rfl,SqL.same h1 hh3.zh,fun p hp=>?_⟩
   have n:=New.add hh3.zh hp (.lst (pO xs i j))
   exact k _ _ _ (hh3.new n) (tt.trans n.z) (.lst (SqL.of aQ) ((q1.cut i j).same n.z))
  | @tup a xs ds h1 q1=>
   simp only [tz] at e
   cases e
   by_cases hw:HT.sIx ds.length 0 i=0/\HT.sIx ds.length ds.length j=ds.length
   ·refine .inr (.inr ⟨_,_,rfl,SqT.same h1 hh3.zh,by rw [q1.length]; exact hw.1,by rw [q1.length]; exact hw.2,?_⟩)
    refine k _ _ _ hh3 tt ?_
    rw [wC hw.1 hw.2]
    exact .tup h1 q1
   ·refine .inr (.inl ⟨_,_,rfl,SqT.same h1 hh3.zh,by rw [q1.length]; exact hw,fun p hp=>?_⟩)
    have n:=New.add hh3.zh hp (.tup (pO xs i j))
    exact k _ _ _ (hh3.new n) (tt.trans n.z) (.tup (SqT.of aQ) ((q1.cut i j).same n.z))
  | _=>cases e
end
structure FunV (K:PySem.W.Frag) (x qual:Str) (st:Stmt) (f:Addr) (fd:FuncData) (dV:Value):Prop where
 ex:∃ (oc:Value) (od:Option Addr) (kV doc pm:Value) (an:Option Addr) (cdv ct:Value) (osl:Array (Option Value)),
  fd=PySem.W.fnOf x qual (cL st) (cn st) (ao st) dV kV doc pm an cdv ct/\K.lookup f=some ⟨oc,od,.func fd,osl⟩/\PySem.W.codeIn K cdv qual=true
 kp:PySem.W.keepIn K (.ref f)=true
section
variable {P:Program} {w:World} {K:PySem.W.Frag} {mg:Str->Option Value} {base:Heap}
theorem yv {N:List Str} {vs:List V} {as:List D} {Z:Hp} (r:Reps K Z vs as):∀ (i:Nat) d,(ak N as)[i]? = some (.fz d)->∃ v,(iM N vs)[i]? = some (some v)/\Rep K Z v d:=by
 intro i d e
 unfold ak at e
 unfold L2.iM
 by_cases hi:i<as.length
 ·rw [List.getElem?_append_left (by simpa using hi),List.getElem?_map] at e
  cases q:as[i]? with
  | none=>rw [q] at e; cases e
  | some d'=>
   rw [q] at e
   cases e
   obtain ⟨v,ev,rv⟩:=r.get q
   exact ⟨v,by rw [List.getElem?_append_left (by simpa [r.length] using hi),List.getElem?_map,ev]; rfl,rv⟩
 ·rw [List.getElem?_append_right (by simpa using hi),List.getElem?_replicate] at e
  split at e <;> cases e
theorem qa {N:List Str} {as:List D}:∀ (i:Nat) ds,(ak N as)[i]? ≠ some (.own ds):=by
 intro i ds e
 unfold ak at e
 by_cases hi:i<as.length
 ·rw [List.getElem?_append_left (by simpa using hi),List.getElem?_map] at e
  cases q:as[i]? with
  | none=>rw [q] at e; cases e
  | some d'=>rw [q] at e; cases e
 ·rw [List.getElem?_append_right (by simpa using hi),List.getElem?_replicate] at e
  split at e <;> cases e
theorem Al {N:List Str} {as:List D}:∀ (i:Nat) ds,(ak N as)[i]? ≠ some (.fr ds):=by
 intro i ds e
 unfold ak at e
 by_cases hi:i<as.length
 ·rw [List.getElem?_append_left (by simpa using hi),List.getElem?_map] at e
  cases q:as[i]? with
  | none=>rw [q] at e; cases e
  | some d'=>rw [q] at e; cases e
 ·rw [List.getElem?_append_right (by simpa using hi),List.getElem?_replicate] at e
  split at e <;> cases e
theorem wg {N:List Str} {vs:List V} {as:List D} {Z H:Hp} (zh:Same Z H) (r:Reps K Z vs as):Hold K H Z Z (ak N as) (iM N vs) H:=
 ⟨zh,Same.refl _,Same.refl _,fun _ _=>rfl,by simp [ak,L2.iM,r.length],yv r,fun i ds e=>absurd e (qa i ds),fun i j ds es a _ e=>absurd e (qa i ds),fun i ds e=>absurd e (Al i ds),NoF.refl _⟩
theorem M4 {x qual:Str} {st:Stmt} {f:Addr} {fd:FuncData} {dV:Value} {N ps:List Str} {k:Nat} {g:List D->Option D} {b:Sf} (F:FunV K x qual st f fd dV) (S:FnScope N ps (ao st)) (len:∀ as d,g as=some d->as.length=ps.length)
  (hb:∀ (cdv:Value) (A:Around) (outer:List Env) (s:Shared) (H:Hp) (E:XK),Room k (A.deeper (envOfC qual (ao st) s.heap.objs.size f cdv))->BV (wB dc P w K mg base N qual (ao st) f cdv A outer s H E).nox (cn st) b)
  (hg:∀ as d,g as=some d->∃ δ',b (ak N as)=some (.rt d,δ')\/(d=.none/\b (ak N as)=some (.nx,δ'))):FnOk P w K mg base dc (k+1) f fd ps (dG K g):=by
 obtain ⟨oc,od,kV,doc,pm,an,cdv,ct,osl,rfl,lk,hcd⟩:=F.ex
 refine KU lk hcd S (fun vs H Q E h=>?_) fun A outer s H vs Q E hr hsp=>?_
 ·obtain ⟨Z,as,d,zh,r,e,_⟩:=h
  rw [r.length]
  exact len as d e
 ·refine ⟨_,PSs.nox (hb cdv A outer s H E hr),?_⟩
  obtain ⟨Z,as,d,zh,r,e,kk⟩:=hsp
  have hh:=wg (N:=N) zh r
  have fin:∀ {σ':St} {H' Z':Hp} {δ':Dv},Hold K H Z Z' δ' σ' H'->Same Z Z'->New Z H Z' H':=fun h' z'=>⟨z',h'.h0,h'.zh,h'.zb,h'.nf⟩
  obtain ⟨δ',e2 | ⟨rfl,e2⟩⟩:=hg as d e
  ·exact ⟨H,Z,Z,_,_,hh,e2,fun σ' H' Z' h' z' v rv=>kk v Z' H' (fin h' z') rv⟩
  ·exact ⟨H,Z,Z,_,_,hh,e2,fun σ' H' Z' h' z'=>kk _ Z' H' (fin h' z') .non⟩
theorem FunV.binds {x qual:Str} {st:Stmt} {f:Addr} {fd:FuncData} {ps:List Str} (F:FunV K x qual st f fd .none)
  (h:∀ (kV doc pm:Value) (an:Option Addr) (cdv ct:Value) (us:List Value),us.length=ps.length->bindArgs (PySem.W.fnOf x qual (cL st) (cn st) (ao st) .none kV doc pm an cdv ct) ⟨us,[]⟩=pure (ps.zip us)):Binds K fd ps []:=by
 obtain ⟨oc,od,kV,doc,pm,an,cdv,ct,osl,rfl,lk,hcd⟩:=F.ex
 exact .all (h kV doc pm an cdv ct)
theorem FunV.bindsD {x qual:Str} {st:Stmt} {f T:Addr} {fd:FuncData} {ps:List Str} {o:Obj} {items:Array Value} {n:Nat} {ds:List Value} (F:FunV K x qual st f fd (.ref T)) (ho:K.lookup T=some o) (hs:o.data=.seq items n) (nu:Nat) (hn:nu+ds.length=ps.length)
  (h:∀ (kV doc pm:Value) (an:Option Addr) (cdv ct:Value) (us:List Value),us.length=nu->∃ kk,bindArgs (PySem.W.fnOf x qual (cL st) (cn st) (ao st) (.ref T) kV doc pm an cdv ct) ⟨us,[]⟩=seqItems? (.ref T) >>= kk/\kk (some items)=pure (ps.zip (us++ds))):Binds K fd ps ds:=by
 obtain ⟨oc,od,kV,doc,pm,an,cdv,ct,osl,rfl,lk,hcd⟩:=F.ex
 intro s us KX hl
 obtain ⟨kk,h1,h2⟩:=h kV doc pm an cdv ct us (by rw [List.length_append] at hl; omega)
 exact BindsTo.of_defaults rfl (KX _ _ ho) hs h1 h2
theorem jf {x qual:Str} {st:Stmt} {f:Addr} {dV oc:Value} {od an:Option Addr} {osl:Array (Option Value)} {kV doc pm cdv ct:Value} (l:K.lookup f=some ⟨oc,od,.func (PySem.W.fnOf x qual (cL st) (cn st) (ao st) dV kV doc pm an cdv ct),osl⟩)
  (c:PySem.W.codeIn K cdv qual=true) (k:PySem.W.keepIn K (.ref f)=true):FunV K x qual st f (PySem.W.fnOf x qual (cL st) (cn st) (ao st) dV kV doc pm an cdv ct) dV:=⟨⟨oc,od,kV,doc,pm,an,cdv,ct,osl,rfl,l,c⟩,k⟩
def xi (K:PySem.W.Frag):Sp:=fun vs H Q _=>∃ (a:Addr) (ns:List Int),vs=[.ref a]/\SqL K H a (ns.map V.int)/\ns.length<=63/\∀ H',Q (.bl true) H'
theorem Kr {g:List D->Option D} {k:Nat} {f:Addr} {fd:FuncData} (F:FnOk P w K mg base dc k f fd ["script"] (dG K g)) (hg:∀ ns:List Int,ns.length<=63->g [.list (ns.map .int)]=some (.bool true)):FnOk P w K mg base dc k f fd ["script"] (xi K):=
 F.imp fun vs H Q E h=>by
  obtain ⟨a,ns,rfl,hS,hl,q⟩:=h
  exact ⟨H,[.list (ns.map .int)],.bool true,Same.refl _,.cons (.lst hS (Reps.ints ns)) .nil,hg ns hl,fun v Z' H' _ r=>by cases r; exact q H'⟩
end
theorem Je {k:Nat} {l:PySem.W.OpenLaw} {q:Program} {loose:List Str} {XP:(Str->Option Value)->Heap->Prop} {YP:World->Heap->Prop} {d:DefRec} {K:Params->PySem.W.Frag} (hn:l.most=some 63) (hr:Room k callerA) (hdf:d.params.defaults=[])
  (hY:∀ (w:World) (h:Heap),YP w h->(K w.params).In h)
  (F:∀ (w:World) (mg:Str->Option Value) (fa:Addr) (h:Heap),(K w.params).In h->h.Ns mainGlobals mg->mg d.name=some (.ref fa) ->
   ∃ fd:FuncData,(∀ (s:Shared) (u:Value),BindsTo s fd ⟨[u],[]⟩ [("script",u)])/\∀ base:Heap,(K w.params).In base->base.Ns mainGlobals mg->FnOk l.prog w (K w.params) mg base dc k fa fd ["script"] (xi (K w.params))) :
  PySem.W.WalkO q loose XP YP l.row.toRowW d [] (fun f vs=>PySem.call f vs):=
 L2.C8 (n:=63) (k:=k) (x:="script") (CX:=fun _=>dc) (sp:=fun w=>xi (K w.params)) hn (by decide) hdf hr hY F (fun _ _ a ns hl _ hS=>⟨a,ns,rfl,hS,hl,fun _=>rfl⟩) fun _ _ _ _ _ z=>z
section
variable {P:Program} {w:World} {K:PySem.W.Frag} {mg:Str->Option Value} {base:Heap}
theorem b7 {x qual:Str} {st:Stmt} {f:Addr} {fd:FuncData} {dV:Value} {N ps:List Str} {k:Nat} {b:Sf} (F:FunV K x qual st f fd dV) (S:FnScope N ps (ao st))
  (hb:∀ (cdv:Value) (A:Around) (outer:List Env) (s:Shared) (H:Hp) (E:XK),Room k (A.deeper (envOfC qual (ao st) s.heap.objs.size f cdv))->BV (wB dc P w K mg base N qual (ao st) f cdv A outer s H E).nox (cn st) b) :
  FnOk P w K mg base dc (k+1) f fd ps (dG K (runB N ps.length b)):=by
 refine M4 F S (fun as d h=>?_) hb fun as d h=>?_
 ·unfold runB at h
  split at h
  ·assumption
  ·cases h
 ·unfold runB at h
  split at h
  ·obtain ⟨⟨fl,δ'⟩,e,h⟩:=bind_some h
   cases fl with
   | nx=>cases h; exact ⟨δ',.inr ⟨rfl,e⟩⟩
   | rt d=>cases h; exact ⟨δ',.inl e⟩
   | bk=>cases h
   | ct=>cases h
  ·cases h
structure Cal (P:Program) (w:World) (K:PySem.W.Frag) (mg:Str->Option Value) (base:Heap) (x:Str) (k:Nat) (g:List D->Option D) (dd:List D):Prop where
 ex:∃ (fa:Addr) (fd:FuncData) (ps:List Str) (ds:List Value) (dv:List V),FnOk P w K mg base dc k fa fd ps (dG K g)/\mg x=some (.ref fa)/\PySem.W.keepIn K (.ref fa)=true/\Binds K fd ps ds/\Vals dv ds/\∀ Z,Reps K Z dv dd
theorem Cal.mk0 {x:Str} {k:Nat} {g:List D->Option D} {fa:Addr} {fd:FuncData} {ps:List Str} (F:FnOk P w K mg base dc k fa fd ps (dG K g)) (hm:mg x=some (.ref fa)) (hk:PySem.W.keepIn K (.ref fa)=true) (hb:Binds K fd ps []):Cal P w K mg base x k g []:=
 ⟨⟨fa,fd,ps,[],[],F,hm,hk,hb,.nil,fun _=>.nil⟩⟩
end
section
variable {X:Cx} {e:Expr} {es:List Expr} {p pos:Pos} {fs:Dv->Option (List D)}
theorem BU {k:Nat} {x:Str} {g:List D->Option D} {dd:List D} (C:Cal X.prog X.w X.K X.mg X.base x k g dd) (hr:Room k X.A) (hg:Gl X x) (ha:AV X (e::es) fs) (hdb:(x==("__debug__":Str))=false:=by decide) (he:starEach (e::es) X.env=(false,eval e X.env)::starEach es X.env:=by rfl)
  (hpl:(backTo pos (starEach es X.env)).any (·.1)=false:=by rfl):EV X (.Call (.Name x p) (e::es) [] pos) (os fs fun as=>g (as++dd)):=by
 obtain ⟨fa,fd,ps,ds,dv,F,hm,hk,hb,hd,hdd⟩:=C.ex
 exact E8 F hr hg hm hk hb hd hdd FQ ha hdb he hpl
variable {tg a:Expr} {f:Dv->Option D}
theorem fT (ha:EV X a f):IV X tg a (oI f fG):=by
 intro pins s σ H R I h
 obtain ⟨H₀,Z₀,Z,δ,ds,hh,e,k⟩:=h
 obtain ⟨y,e1,e⟩:=bind_some e
 cases y with
 | list xs=>exact EL ha pins s σ H R I ⟨H₀,Z₀,Z,δ,ds,hh,by unfold oI; rw [e1]; exact e,k⟩
 | tuple xs=>exact HM ha pins s σ H R I ⟨H₀,Z₀,Z,δ,ds,hh,by unfold oI; rw [e1]; exact e,k⟩
 | _=>cases e
end
end VL
namespace VL
open PySem PySem.Spec PyProof.Rows L2
noncomputable def jK (env:Env):List (Str×NameKind)->List (Str×Addr)->List (Str×Addr)
 | [],cs=>cs
 | (n,k)::r,cs=>if k == .free then jK env r ((n,(env.cells.lookup n).getD 0)::cs) else jK env r cs
theorem oT {env:Env}:∀ (l:List (Str×NameKind)) (cs:List (Str×Addr)),(∀ y∈l,y.2=.free->∃ c,env.cells.lookup y.1=some c) ->
  (forIn l cs fun (x:Str×NameKind) (r:List (Str×Addr))=>(if (x.2==NameKind.free)=true then do let c <- cellOf env x.1; pure (ForInStep.yield ((x.1,c)::r)) else pure (ForInStep.yield r):Sem (ForInStep (List (Str×Addr)))))=pure (jK env l cs)
 | [],cs,_=>rfl
 | (n,k)::r,cs,h=>by
  have ih:=fun cs'=>oT r cs' fun y hy=>h y (List.mem_cons_of_mem _ hy)
  rw [List.forIn_cons]
  cases hk:k==NameKind.free with
  | true=>
   have hk':k=.free:=by simpa using hk
   obtain ⟨c,ec⟩:=h (n,k) List.mem_cons_self hk'
   have e1:cellOf env n=pure c:=by unfold cellOf; rw [ec]
   simp only [hk,if_true,e1,pure_bind,jK,ec,Option.getD_some]
   exact ih _
  | false=>
   simp only [hk,Bool.false_eq_true,if_false,pure_bind,jK]
   exact ih _
theorem eO {scope:Scope} {env:Env} (h:∀ y∈scope.names,y.2=.free->∃ c,env.cells.lookup y.1=some c):closureFor scope env=pure (jK env scope.names []):=by
 simp only [closureFor]
 have:=oT (env:=env) scope.names [] h
 first
  | (rw [this]; rfl)
  | (simp only [this]; rfl)
  | (unfold closureFor; simp_all)
theorem bU {env:Env}:∀ (l:List (Str×NameKind)) (cs:List (Str×Addr)) (y:Str) (c:Addr),(∀ z∈l,z.2=.free->∃ c,env.cells.lookup z.1=some c)->(jK env l cs).lookup y=some c->cs.lookup y=some c\/env.cells.lookup y=some c
 | [],cs,y,c,_,e=>.inl e
 | (n,k)::r,cs,y,c,h,e=>by
  unfold jK at e
  have hr:=fun z hz=>h z (List.mem_cons_of_mem _ hz)
  split at e
  ·rename_i hk
   rcases bU r _ y c hr e with q | q
   ·rw [List.lookup_cons] at q
    cases hy:y==n with
    | true=>
     have hy':y=n:=by simpa using hy
     subst hy'
     rw [hy] at q
     obtain ⟨c',ec⟩:=h (y,k) List.mem_cons_self (by simpa using hk)
     simp only [ec,Option.getD_some] at q
     cases q
     exact .inr ec
    | false=>rw [hy] at q; exact .inl q
   ·exact .inr q
  ·exact bU r cs y c hr e
theorem kK {env:Env}:∀ (l:List (Str×NameKind)) (cs:List (Str×Addr)) (y:Str),((y,NameKind.free)∈l\/(cs.lookup y).isSome=true)->((jK env l cs).lookup y).isSome=true
 | [],cs,y,h=>by
  rcases h with h | h
  ·cases h
  ·exact h
 | (n,k)::r,cs,y,h=>by
  unfold jK
  split
  ·rename_i hk
   refine kK r _ y ?_
   rcases h with h | h
   ·rcases List.mem_cons.mp h with e | e
    ·cases e; exact .inr (by simp [List.lookup_cons])
    ·exact .inl e
   ·refine .inr ?_
    rw [List.lookup_cons]
    cases hy:y==n with
    | true=>rfl
    | false=>exact h
  ·rename_i hk
   refine kK r cs y ?_
   rcases h with h | h
   ·rcases List.mem_cons.mp h with e | e
    ·cases e; exact absurd rfl hk
    ·exact .inl e
   ·exact .inr h
theorem fQ {env:Env} {y:Str}:∀ (l:List (Str×NameKind)),(∀ z∈l,z.2≠.cell) ->
  (((l.map fun (n,k)=>if (k==NameKind.free&&env.scope.kind == .function&&env.kindOf n==some .cell) then (n,NameKind.cell) else (n,k)).lookup y=some .cell\/(l.map fun (n,k)=>if (k==NameKind.free&&env.scope.kind == .function&&env.kindOf n==some .cell) then (n,NameKind.cell) else (n,k)).lookup y=some .free)↔l.lookup y=some .free)
 | [],_=>by simp
 | (n,k)::r,h=>by
  have ih:=fQ (env:=env) (y:=y) r fun z hz=>h z (List.mem_cons_of_mem _ hz)
  have hk:k≠.cell:=h (n,k) List.mem_cons_self
  rw [List.map_cons]
  cases hy:y==n with
  | true=>
   by_cases hc:(k==NameKind.free&&env.scope.kind == .function&&env.kindOf n==some .cell)=true
   ·have hf:k=.free:=by
     simp only [Bool.and_eq_true] at hc
     simpa using hc.1.1
    simp only [if_pos hc,List.lookup_cons,hy]
    simp [hf]
   ·simp only [if_neg hc,List.lookup_cons,hy]
    simp [hk]
  | false=>
   by_cases hc:(k==NameKind.free&&env.scope.kind == .function&&env.kindOf n==some .cell)=true
   ·simp only [if_pos hc,List.lookup_cons,hy]; exact ih
   ·simp only [if_neg hc,List.lookup_cons,hy]; exact ih
noncomputable def dA (X:Cx) (scope:Scope) (N:List Str) (C:Addr) (s₀:Shared) (H₀:Hp) (ex:List Addr):Cx:=
 { X with N:=N,s₀:=s₀,H₀:=H₀,env:=compEnvC scope (jK X.env scope.names []) C X.env,outer:=X.stack,stack:=X.stack,ex:=ex,fn:=fun _=>false,pn:=[],xe:=fun _ _=>False }
structure BlkOk (on:List (Str×NameKind)) (ON:List Str) (scope:Scope) (vars:List Str) (caps:List (Nat×Str)):Prop where
 kind:scope.kind=.function
 cell:∀ y∈scope.names,y.2≠.cell
 names:∀ y∈scope.names,y.2=.local->scope.names.lookup y.1=some .local
 free:∀ y∈scope.names,y.2=.free->on.lookup y.1=some .cell\/on.lookup y.1=some .free
 cap:∀ p∈caps,ON[p.1]? = some p.2/\scope.names.lookup p.2=some .free
section
variable {X:Cx} {pins:List (Addr×Obj)} {σ:St} {H H':Hp} {s s':Shared} {scope:Scope} {vars:List Str} {caps:List (Nat×Str)} {fp:List Addr} {C:Addr}
noncomputable def gQ (σ:St) (caps:List (Nat×Str)):St:=caps.map fun p=>(σ[p.1]?).getD none
theorem BlkOk.cells (B:BlkOk X.env.scope.names X.N scope vars caps) (I:Inv X pins σ H s):∀ y∈scope.names,y.2=.free->∃ c,X.env.cells.lookup y.1=some c:=fun y hy e=>I.ok.has y.1 (B.free y hy e)
theorem wI (B:BlkOk X.env.scope.names X.N scope vars caps) (I:Inv X pins σ H s) (hf:∀ b∈fp,jO X pins H b) (hlt:∀ b∈fp,b<s.heap.objs.size) (hC:s.heap.objs.size<=C):(dA X scope (vars++caps.map (·.2)) C s H fp).Ok where
 mod:=I.ok.mod
 kind:=B.kind
 glob:=I.ok.glob
 blt:=I.ok.blt
 above:=hC
 inj:=fun x y c e1 e2=>by
  rcases bU _ _ _ _ (B.cells I) e1 with q1 | q1
  ·cases q1
  ·rcases bU _ _ _ _ (B.cells I) e2 with q2 | q2
   ·cases q2
   ·exact I.ok.inj x y c q1 q2
 has:=fun x e=>by
  have:scope.names.lookup x=some .free:=(fQ scope.names B.cell).mp e
  have:=kK (env:=X.env) scope.names [] x (.inl (PySem.mem_of_lookup this))
  exact Option.isSome_iff_exists.mp this
 cab:=fun x c e=>nomatch e
 hd:=I.ok.hd
 frames:=I.ok.frames
 stk:=.inl rfl
 exf:=fun b hb=>⟨Nat.ne_of_lt (Nat.lt_of_lt_of_le (hlt b hb) hC),fun x c e=>by
  rcases bU _ _ _ _ (B.cells I) e with q | q
  ·cases q
  ·exact (hf b hb).2.2.2.2.1 x c q⟩
 bs:=I.bs
 bsz:=Nat.le_trans I.ok.bsz I.sz
 noex:=fun b o e hb=>by
  rcases (hf b hb).2.2.2.1 with z | z
  ·exact I.ok.noex b o e z
  ·exact absurd (Nat.lt_of_lt_of_le (Heap.lt_size e) (Nat.le_trans I.ok.bsz z)) (Nat.lt_irrefl _)
 exfs:=fun b hb z=>by
  rcases List.mem_cons.mp (I.stkSub b z) with q | q
  ·exact (hf b hb).2.1 q
  ·exact (hf b hb).2.2.1 q
 funs:=I.stack
 frf:=I.stkFree
theorem yb (B:BlkOk X.env.scope.names X.N scope vars caps) (I:Inv X pins σ H s) (hf:∀ b∈fp,jO X pins H b) (hlt:∀ b∈fp,b<s.heap.objs.size) (hC:s.heap.objs.size<=C) {h₁:Heap} {m:Str->Option Value} {tk:Nat} (hns:h₁.Ns C m) (old:∀ b o,s.heap.get? b=some o->h₁.get? b=some o) :
  Inv (dA X scope (vars++caps.map (·.2)) C s H fp) [] (vars.map (fun _=>none)++gQ σ caps) H { s with heap:=h₁,toks:=tk }:=by
 refine ⟨wI B I hf hlt hC,rfl,I.bare,Un.kept old,⟨m,hns,fun i x v e1 e2 e3=>?_⟩,fun x c e=>?_,I.hok.fresh hC,fun x c e=>?_,fun p hp=>absurd (show p∈([]:List (Addr×Obj)) from hp) (by simp),I.hok.kept old,?_⟩
 ·have e1:(vars++caps.map (·.2))[i]? = some x:=e1
  by_cases hi:i<vars.length
  ·rw [List.getElem?_append_left (by simpa using hi),List.getElem?_map] at e2
   cases q:vars[i]? <;> rw [q] at e2 <;> cases e2
  ·rw [List.getElem?_append_right (by simpa using hi)] at e1 e2
   simp only [List.length_map] at e2
   unfold gQ at e2
   rw [List.getElem?_map] at e1 e2
   cases q:caps[i-vars.length]? with
   | none=>rw [q] at e1; cases e1
   | some p=>
    rw [q] at e1 e2
    cases e1
    have hp:=List.mem_of_getElem? q
    obtain ⟨g1,g2⟩:=B.cap p hp
    have gf:X.env.scope.names.lookup p.2=some .cell\/X.env.scope.names.lookup p.2=some .free:=B.free (p.2,.free) (PySem.mem_of_lookup g2) rfl
    have ev:σ[p.1]? = some (some v):=by
     have e2:(σ[p.1]?).getD none=some v:=Option.some.inj e2
     cases z:σ[p.1]? with
     | none=>rw [z] at e2; cases e2
     | some w=>rw [z] at e2; rw [show w=some v from e2]
    obtain ⟨m',_,hl⟩:=I.loc
    obtain ⟨u,r,l⟩:=hl p.1 p.2 v g1 ev (gf.elim (fun z=>.inr (.inl z)) fun z=>.inr (.inr z))
    refine ⟨u,r,.inr ⟨?_,?_⟩⟩
    ·exact (fQ scope.names B.cell).mpr g2
    ·rcases l with ⟨z,_⟩ | ⟨_,c,ec,hc⟩
     ·have z:X.env.scope.names.lookup p.2=some .local:=z
      rcases gf with w | w <;> rw [z] at w <;> cases w
     ·obtain ⟨c',q'⟩:=Option.isSome_iff_exists.mp (kK (env:=X.env) scope.names [] p.2 (.inl (PySem.mem_of_lookup g2)))
      rcases bU _ _ _ _ (B.cells I) q' with w | w
      ·cases w
      ·rw [ec] at w
       cases w
       obtain ⟨o,ho,hd⟩:=hc
       exact ⟨c,q',o,old c o ho,hd⟩
 ·rcases bU _ _ _ _ (B.cells I) e with q | q
  ·cases q
  ·obtain ⟨v,o,ho,hd⟩:=I.cell x c q
   exact ⟨v,o,old c o ho,hd⟩
 ·rcases bU _ _ _ _ (B.cells I) e with q | q
  ·cases q
  ·exact I.freeC x c q
 ·simp [dA,gQ]
theorem ya (I:Inv X pins σ H s) (hf:∀ b∈fp,jO X pins H b) {D:Addr} {s':Shared} {σ':St} {N:List Str} {ys:List V} {its:List Value} (hC:s.heap.objs.size<=C) (hD:s.heap.objs.size<=D) (hDC:D≠C)
  (J:Inv (dA X scope N C s H fp) [] σ' H' s') (hD':H' D=none) (hp:s'.heap.PlainList D its.toArray) (hv:Vals ys its) (hz:ys.length<=sizeLine) {h':Heap} (hs:Heap.SameBut C s'.heap h') :
  Inv X pins σ (upd H' D (.lst ys)) { s' with heap:=h' }:=by
 have U:Un (xQ X.stack) fp H H' s.heap s'.heap:=J.base
 have neC:∀ b o,s.heap.get? b=some o->b≠C:=fun b o e=>Nat.ne_of_lt (Nat.lt_of_lt_of_le (Heap.lt_size e) hC)
 have neD:∀ b o,s.heap.get? b=some o->b≠D:=fun b o e=>Nat.ne_of_lt (Nat.lt_of_lt_of_le (Heap.lt_size e) hD)
 have mv:∀ b o,b≠C->s'.heap.get? b=some o->h'.get? b=some o:=fun b o hb e=>hs.extBut b o hb e
 have tD:∀ b o,H' b=some o->(upd H' D (.lst ys)) b=some o:=fun b o e=>by rw [aU (bJ e hD')]; exact e
 refine I.call' (s':={ s' with heap:=h' }) (ch:=fp) J.os ⟨fun b o e n h1 h2=>mv b o (neC b o e) (U.keep b o e n h1 h2),fun b o e n h1 h2=>?_,fun b o e n h2=>?_,fun b o e h2=>?_,fun b xs e=>tD _ _ (U.tups b xs e),fun b o xs e=>tD _ _ (U.frzs b o xs e),fun b ps e=>?_⟩ (fun b o e=>?_) J.bare
  (fun b hb=>⟨(hf b hb).2.2.2.1,(hf b hb).2.1,(hf b hb).2.2.2.2.1,(hf b hb).2.2.2.2.2⟩)
 ·obtain ⟨sl,q⟩:=U.slot b o e n h1 h2
  exact ⟨sl,mv b _ (neC b o e) q⟩
 ·rw [aU (neD b o e)]; exact U.free b o e n h2
 ·obtain ⟨o',q⟩:=U.there b o e h2
  exact ⟨o',mv b _ (neC b o e) q⟩
 ·obtain ⟨more,q⟩:=U.tbls b ps e
  exact ⟨more,tD _ _ q⟩
 ·by_cases hb:b=D
  ·subst hb
   rw [aQ] at e
   cases e
   obtain ⟨n,q⟩:=hp
   exact ⟨hz,its,n,hv,mv _ _ hDC q⟩
  ·rw [aU hb] at e
   refine (J.hok b o e).stay (fun c v hc q=>mv c v ?_ q) (fun c q=>tD _ _ q) fun c xs q=>tD _ _ q
   intro z
   have fc:H' C=none:=J.free
   rcases hc with w | w
   ·rw [<- w,z,fc] at e; cases e
   ·rw [z,fc] at w; cases w
theorem uY (elt target iter:Expr) (scope:Scope) (pos:Pos) (it acc:Value) (env:Env) :
  compTurn (.ListComp elt [⟨target,iter,[],0⟩] scope pos) 0 it acc env=(standAt iter.pos >>= fun _=>pyNext it >>= fun r=>match r with
   | none=>pure (.done .next)
   | some v=>letOwnedTupleGo target it v >>= fun _=>assign target env v >>= fun _=>
    (eval elt env >>= fun x=>call (.builtin "list.append") [acc,x] >>= fun _=>pure ()) >>= fun _=>
     again (.compLoop (.ListComp elt [⟨target,iter,[],0⟩] scope pos) 0 it acc env)):=by rfl
def yi (σ σ':St):Prop:=σ.length = σ'.length/\∀ (i:Nat) v,σ[i]? = some (some v) -> σ'[i]? = some (some v)
def Ab (wi:TI) (g:TG) (te:TE) (vars:List Str) (caps:List (Nat×Str)):TE:=fun σ H Q=>wi σ H fun J H1=>∃ W:Nat->Nat->List V->Hp->Prop,(∃ m,W 0 m [] H1)/\∀ i m ys H,W i m ys H ->
 (J.stop i H/\ys.length<=sizeLine/\∀ p,H p=none->Q (.ref p) (upd H p (.lst ys))) \/
 (J.go i H/\ys.length<sizeLine/\∀ x H',J.yld i H x H'->g x (vars.map (fun _=>none)++gQ σ caps) H' fun σ2 H2=>yi (vars.map (fun _=>none)++gQ σ caps) σ2/\te σ2 H2 fun y H3=>∃ m',m'<m/\W (i+1) m' (ys++[y]) H3)
theorem mZ {prog:Program} {w:World} {A:Around} {R:Result->Shared->Prop} {s:Shared} {elt target iter:Expr} {scope:Scope} {pos:Pos} {it acc:Value} {env:Env} (I:Nat->Shared->Prop)
  (turn:∀ n s,I n s->wpAny (model prog w) A (pyNext it) (fun r s₁=>match r with
   | none=>R (.ok .next) s₁
   | some v=>wpAny (model prog w) A (letOwnedTupleGo target it v) (fun _ s₁=>wpAny (model prog w) A (assign target env v) (fun _ s₂=>wpAny (model prog w) A (eval elt env) (fun x s₃=>
     wpAny (model prog w) A (call (.builtin "list.append") [acc,x]) (fun _ s₄=>∃ m,m<n/\I m s₄) (fun _ _=>False) s₃) (fun _ _=>False) s₂) (fun _ _=>False) s₁) (fun _ _=>False) s₁) (fun _ _=>False) s)
  (n:Nat) (h:I n s):codeAny (model prog w) A (.compLoop (.ListComp elt [⟨target,iter,[],0⟩] scope pos) 0 it acc env) R s:=by
 refine codeAny_loop rfl I (fun n s hI=>?_) n h
 show wpAny _ _ ((compTurn (.ListComp elt [⟨target,iter,[],0⟩] scope pos) 0 it acc env).onRaise (fun x=>do noteFrame x env; theTreesLotGoes x)) _ _ s
 refine wpAny_noted ?_
 rw [uY]
 refine wpAny_bind (wpAny_standAt (wpAny_bind (wpAny_mono (turn n s hI) (fun r s₁ h₁=>?_) fun _ _ h'=>h'.elim)))
 cases r with
 | none=>exact wpAny_pure h₁
 | some v=>
  refine wpAny_bind (wpAny_mono h₁ (fun _ s₁ h₁=>?_) fun _ _ h'=>h'.elim)
  exact wpAny_bind (wpAny_mono h₁ (fun _ s₂ h₂=>wpAny_bind (wpAny_bind (wpAny_mono h₂ (fun x s₃ h₃=>wpAny_bind (wpAny_mono h₃
   (fun _ s₄ h₄=>wpAny_pure (wpAny_pure ⟨rfl,h₄⟩)) fun _ _ h'=>h'.elim)) fun _ _ h'=>h'.elim))) fun _ _ h'=>h'.elim)
end
section
variable {X:Cx} {scope:Scope} {vars:List Str} {caps:List (Nat×Str)} {elt tg iter:Expr} {pos:Pos} {wi:TI} {g:TG} {te:TE}
theorem o4 (B:BlkOk X.env.scope.names X.N scope vars caps) (hc:X.calm=true)
  (hg:∀ C s₀ H₀ ex,PG (dA X scope (vars++caps.map (·.2)) C s₀ H₀ ex) tg g) (he:∀ C s₀ H₀ ex,PE (dA X scope (vars++caps.map (·.2)) C s₀ H₀ ex) elt te)
  {pins:List (Addr×Obj)} {σ:St} {H2:Hp} {s2:Shared} {Q:VK} {it:Addr} {fp:List Addr} {tn:Nat->Heap->Prop} {J:It} (I2:Inv X pins σ H2 s2) (T:Ct X.prog X.w X.K tg J fp it tn) (st2:tn 0 s2.heap) (f2:∀ b∈fp,jO X pins H2 b)
  {W:Nat->Nat->List V->Hp->Prop} {m0:Nat} (w0:W 0 m0 [] H2) (turn:∀ i m ys H,W i m ys H ->
   (J.stop i H/\ys.length<=sizeLine/\∀ p,H p=none->Q (.ref p) (upd H p (.lst ys))) \/
   (J.go i H/\ys.length<sizeLine/\∀ x H',J.yld i H x H'->g x (vars.map (fun _=>none)++gQ σ caps) H' fun σ2 H2=>yi (vars.map (fun _=>none)++gQ σ caps) σ2/\te σ2 H2 fun y H3=>∃ m',m'<m/\W (i+1) m' (ys++[y]) H3))
  {RR:Value->Addr->Result->Shared->Prop} {E:Value->Shared->Prop}
  (hRR:∀ D C s' m,s'.heap.Ns C m->D≠C->s2.heap.objs.size<=D->s2.heap.objs.size<=C->∀ H',H' C=none->(∀ h',Heap.SameBut C s'.heap h'->Inv X pins σ H' { s' with heap:=h' })->Q (.ref D) H'->RR (.ref D) C (.ok .next) s') :
  wpAny (model X.prog X.w) X.A (newList []) (fun acc s₃=>wpAny (model X.prog X.w) X.A (newFunctionEnv scope X.env.globals (jK X.env scope.names []) [] X.env.qual none .none (some X.env)) (fun cenv s₄=>
   codeAny (model X.prog X.w) X.A (.compStart (.ListComp elt [⟨tg,iter,[],0⟩] scope pos) 0 (.ref it) acc { cenv with scope:=relabel scope X.env }) (RR acc cenv.locals) s₄) E s₃) E s2:=by
 refine wpAny_newObj_type (wpAny_newFunctionEnv B.cell (by intro y hy; simp at hy) (fun h₁ hns₁ hsb₁=>?_) B.kind)
 dsimp only at hns₁ hsb₁ ⊢
 generalize hP:s2.heap.push { cls:=.type "list",dict:=none,data:=.seq ([]:List Value).toArray }=HP at hns₁ hsb₁ ⊢
 have hCs:HP.objs.size=s2.heap.objs.size+1:=by rw [<- hP,Heap.size_push]
 have hDC:s2.heap.objs.size≠HP.objs.size:=by rw [hCs]; exact Nat.ne_of_lt (Nat.lt_succ_self _)
 have hCle:s2.heap.objs.size<=HP.objs.size:=by rw [hCs]; exact Nat.le_succ _
 have old:∀ b o,s2.heap.get? b=some o->h₁.get? b=some o:=fun b o e=>hsb₁.extBut b o (Nat.ne_of_lt (Nat.lt_of_lt_of_le (Heap.lt_size e) hCle)) (Heap.get?_push_of_some _ (hP ▸ Heap.get?_push_of_some _ e))
 have hacc:h₁.PlainList s2.heap.objs.size #[]:=⟨_,hsb₁.extBut _ _ hDC (Heap.get?_push_of_some _ (hP ▸ Heap.get?_push_size _ rfl))⟩
 have flt:∀ b∈fp,b<s2.heap.objs.size:=fun b hb=>by
  obtain ⟨o,e,_⟩:=T.obj _ _ st2 b hb
  exact Heap.lt_size e
 have st1:tn 0 h₁:=T.keep _ _ _ st2 fun b _ o e=>old b o e
 have loop:∀ s3:Shared,s3={ s2 with heap:=h₁,toks:=s2.toks+([]:List (Str×Value)).length } ->
   codeAny (model X.prog X.w) X.A (.compLoop (.ListComp elt [⟨tg,iter,[],0⟩] scope pos) 0 (.ref it) (.ref s2.heap.objs.size) (compEnvC scope (jK X.env scope.names []) HP.objs.size X.env))
    (RR (.ref s2.heap.objs.size) HP.objs.size) s3:=by
  rintro s3 rfl
  have X':=dA X scope (vars++caps.map (·.2)) HP.objs.size s2 H2 fp
  have fpo:∀ {H':Hp},(∀ b∈fp,H' b=none)->∀ b∈fp,jO (dA X scope (vars++caps.map (·.2)) HP.objs.size s2 H2 fp) [] H' b:=fun hn b hb=>by
   have ok:=wI B I2 f2 flt hCle
   exact ⟨hn b hb,(ok.exf b hb).1,ok.exfs b hb,.inl hb,(ok.exf b hb).2,fun p hp=>absurd (show p∈([]:List (Addr×Obj)) from hp) (by simp)⟩
  refine mZ (fun n s=>∃ i ys H its,Inv (dA X scope (vars++caps.map (·.2)) HP.objs.size s2 H2 fp) [] (vars.map (fun _=>none)++gQ σ caps) H s/\tn i s.heap/\(∀ b∈fp,H b=none)/\s.heap.PlainList s2.heap.objs.size (List.toArray its)/\H s2.heap.objs.size=none/\Vals ys its/\W i n ys H) ?_ m0
   ⟨0,[],H2,[],yb B I2 f2 flt hCle hns₁ old,st1,fun b hb=>(f2 b hb).1,hacc,I2.hok.fresh (Nat.le_refl _),.nil,w0⟩
  rintro n s4 ⟨i,ys,H4,its,I4,st4,fr4,pl4,nD4,v4,w4⟩
  obtain ⟨nn,eD⟩:=id pl4
  have DnL:s2.heap.objs.size≠(dA X scope (vars++caps.map (·.2)) HP.objs.size s2 H2 fp).env.locals:=hDC
  have Dfs:s2.heap.objs.size ∉ (dA X scope (vars++caps.map (·.2)) HP.objs.size s2 H2 fp).fs:=fun z=>by
   rcases List.mem_cons.mp (I2.stkSub _ z) with q | q
   ·have:=I2.lt; rw [<- q] at this; exact Nat.lt_irrefl _ this
   ·exact I2.nofs (Nat.le_refl _) q
  have Dfp:∀ b∈fp,s2.heap.objs.size≠b:=fun b hb z=>by have:=flt b hb; rw [<- z] at this; exact Nat.lt_irrefl _ this
  have DnC:∀ x c,(dA X scope (vars++caps.map (·.2)) HP.objs.size s2 H2 fp).env.cells.lookup x=some c->c≠s2.heap.objs.size:=fun x c e z=>by
   rcases bU _ _ _ _ (B.cells I2) e with q | q
   ·cases q
   ·obtain ⟨v,o,ho,_⟩:=I2.cell x c q
    have:=Heap.lt_size ho
    rw [z] at this
    exact Nat.lt_irrefl _ this
  have pinD:∀ {σ':St} {H':Hp} {s':Shared},Inv (dA X scope (vars++caps.map (·.2)) HP.objs.size s2 H2 fp) [(s2.heap.objs.size,{ cls:=.type "list",data:=.seq its.toArray nn })] σ' H' s'->s'.heap.PlainList s2.heap.objs.size its.toArray/\H' s2.heap.objs.size=none:=fun {σ' H' s'} I'=>by
   obtain ⟨q1,q2,_⟩:=I'.pin (s2.heap.objs.size,{ cls:=.type "list",data:=.seq its.toArray nn }) (by simp [dA])
   exact ⟨⟨nn,q1⟩,q2⟩
  have I4p:Inv (dA X scope (vars++caps.map (·.2)) HP.objs.size s2 H2 fp) [(s2.heap.objs.size,{ cls:=.type "list",data:=.seq its.toArray nn })] (vars.map (fun _=>none)++gQ σ caps) H4 s4:=
   I4.pins_of fun p hp=>by
    have e:p=(s2.heap.objs.size,{ cls:=.type "list",data:=.seq its.toArray nn }):=by simpa [dA] using hp
    subst e
    exact ⟨eD,nD4,DnL,Dfs,fun v z=>by cases z⟩
  have fpo':∀ {H':Hp},(∀ b∈fp,H' b=none)->∀ b∈fp,jO (dA X scope (vars++caps.map (·.2)) HP.objs.size s2 H2 fp) [(s2.heap.objs.size,{ cls:=.type "list",data:=.seq its.toArray nn })] H' b:=fun hn b hb=>by
   obtain ⟨q1,q2,q3,q4,q5,_⟩:=fpo hn b hb
   exact ⟨q1,q2,q3,q4,q5,fun p hp=>by
    have e:p=(s2.heap.objs.size,{ cls:=.type "list",data:=.seq its.toArray nn }):=by simpa [dA] using hp
    subst e
    exact Dfp b hb⟩
  have unp:∀ {pl:List (Addr×Obj)} {σ':St} {H':Hp} {s':Shared},Inv (dA X scope (vars++caps.map (·.2)) HP.objs.size s2 H2 fp) pl σ' H' s'->Inv (dA X scope (vars++caps.map (·.2)) HP.objs.size s2 H2 fp) [] σ' H' s':=fun {pl σ' H' s'} I'=>
   I'.pins_of fun p hp=>absurd (show p∈([]:List (Addr×Obj)) from hp) (by simp)
  rcases turn i n ys H4 w4 with ⟨stop,hz,qn⟩ | ⟨go,hz,step⟩
  ·refine cx (T.done (dA X scope (vars++caps.map (·.2)) HP.objs.size s2 H2 fp) rfl rfl rfl hc i _ s4 _ H4 _ I4p (fpo' fr4) st4 stop) fun r s5 ⟨hr,I5⟩=>?_
   subst hr
   obtain ⟨p5,n5⟩:=pinD I5
   obtain ⟨m5,ns5,_⟩:=I5.loc
   refine hRR _ _ s5 m5 ns5 hDC (Nat.le_refl _) hCle _ ?_ (fun h' hs'=>ya I2 f2 hCle (Nat.le_refl _) hDC (unp I5) n5 p5 v4 hz hs') (qn _ n5)
   rw [aU hDC.symm]
   exact I5.free
  ·refine cx (T.item (dA X scope (vars++caps.map (·.2)) HP.objs.size s2 H2 fp) rfl rfl rfl hc i _ s4 _ H4 _ I4p (fpo' fr4) st4 go) fun r s5 ⟨u,hr,h5⟩=>?_
   subst hr
   refine cx h5 fun _ s6 ⟨x,H6,I6,rx,yx,st6,fr6⟩=>?_
   have I6p:=I6.pinned (fpo' fr6) (T.obj _ _ st6)
   refine cx (hg _ _ _ _ _ s6 _ H6 x u _ I6p rx (step x H6 yx)) fun _ s7 ⟨σ7,H7,I7,kp,q7⟩=>?_
   refine cx (he _ _ _ _ _ s7 σ7 H7 _ I7 q7) fun v s8 ⟨y,H8,I8,ry,m',hm,w8⟩=>?_
   obtain ⟨p8,n8⟩:=pinD I8.unpinned
   have st8:tn (i+1) s8.heap:=T.keep _ _ _ st6 fun b hb o e=>(I8.pin (b,o) (List.mem_append_right _ (List.mem_append_right _ (cZ hb e)))).1
   have fr8:∀ b∈fp,H8 b=none:=fun b hb=>by
    obtain ⟨o,e,d⟩:=T.obj _ _ st6 b hb
    exact (I8.pin (b,o) (List.mem_append_right _ (List.mem_append_right _ (cZ hb e)))).2.1
   have hl:=v4.length
   refine wpAny_list_append_plain p8 (fun h9 p9 sb9=>⟨m',hm,i+1,ys++[y],H8,its++[v],?_,?_,fr8,by simpa using p9,n8,v4.append (.cons ry .nil),w8⟩) (by simp; omega)
   ·have I9:Inv (dA X scope (vars++caps.map (·.2)) HP.objs.size s2 H2 fp) [] σ7 H8 { s8 with heap:=h9,toks:=s8.toks }:=
     (unp I8).turned (it:=s2.heap.objs.size) (fun b o hb e=>sb9.extBut b o hb e) n8 DnL (.inr (Nat.le_refl _)) DnC fun p hp=>absurd (show p∈([]:List (Addr×Obj)) from hp) (by simp)
    exact I9.weak kp.1 kp.2
   ·exact T.keep _ _ _ st8 fun b hb o e=>sb9.extBut b o (Dfp b hb).symm e
 exact codeAny_compStart_list (loop _ rfl) (T.self _ 0 _ _ _ st1 (loop _ rfl))
theorem DO (B:BlkOk X.env.scope.names X.N scope vars caps) (hc:X.calm=true) (hi:PI X tg iter wi)
  (hg:∀ C s₀ H₀ ex,PG (dA X scope (vars++caps.map (·.2)) C s₀ H₀ ex) tg g) (he:∀ C s₀ H₀ ex,PE (dA X scope (vars++caps.map (·.2)) C s₀ H₀ ex) elt te) (hs:∀ x,foldedSetIterable iter X.env x=pure x:=by intro _; rfl) :
  PE X (.ListComp elt [⟨tg,iter,[],0⟩] scope pos) (Ab wi g te vars caps):=by
 intro pins s σ H Q I h
 rw [eval_ListComp]
 refine wpAny_comprehension_free (use:=none) rfl hs (eO (B.cells I)) B.kind B.names ?_
 show wpAny _ _ (eval iter X.env) _ _ s
 refine cx (hi pins s σ H _ I h) fun v s1 h1=>cx h1 fun itv s2 h2=>?_
 obtain ⟨it,fp,tn,J,H2,e,I2,T,st2,f2,W,⟨m0,w0⟩,turn⟩:=h2
 subst e
 exact o4 B hc hg he I2 T st2 f2 w0 turn (RR:=fun acc C=>compPost (model X.prog X.w) X.A X.xe none (EP X pins σ Q) acc C) fun D C s' m ns _ _ _ H' _ k q=>⟨m,ns,fun h' hs'=>⟨.ref D,H',k h' hs',rfl,q⟩⟩
theorem DG {i:Nat} {y:Str} {py spos:Pos} (B:BlkOk X.env.scope.names X.N scope vars caps) (hc:X.calm=true) (hi:PI X tg iter wi)
  (hg:∀ C s₀ H₀ ex,PG (dA X scope (vars++caps.map (·.2)) C s₀ H₀ ex) tg g) (he:∀ C s₀ H₀ ex,PE (dA X scope (vars++caps.map (·.2)) C s₀ H₀ ex) elt te)
  (hN:X.N.Nodup) (hy:X.N[i]? = some y) (hx:Cw X.env.scope y) (hsw:swapsWith (.ListComp elt [⟨tg,iter,[],0⟩] scope pos) (some (.Name y py)) spos.line X.env=pure true)
  (hf:X.fn y=true\/X.env.scope.names.lookup y=some .local) (hs:∀ x,foldedSetIterable iter X.env x=pure x:=by intro _; rfl) :
  PS X (.Assign [.Name y py] (.ListComp elt [⟨tg,iter,[],0⟩] scope pos) spos) (fun D σ H=>Ab wi g te vars caps σ H fun v H1=>D.nx (σ.set i (some v)) H1):=by
 intro pins s σ H DE I h
 rw [exec_Assign_Name_used _ _ _ _ hsw]
 refine wpAny_bind (wpAny_standAt (wpAny_bind ?_))
 show wpAny _ X.A (do let _ <- comprehension (.ListComp elt [⟨tg,iter,[],0⟩] scope pos) scope X.env _ (newList []) false (eval iter X.env) (some (assign (.Name y py) X.env))) _ _ s
 refine wpAny_bind (wpAny_mono (wpAny_comprehension_free (use:=some (assign (.Name y py) X.env)) (Q:=fun _ s'=>SP X pins DE .next s') rfl hs (eO (B.cells I)) B.kind B.names
  (cx (hi pins s σ H _ I h) fun v s1 h1=>cx h1 fun itv s2 h2=>?_)) (fun _ s' hq=>wpAny_pure (wpAny_pure hq)) fun _ _ e=>e)
 obtain ⟨it,fp,tn,J,H2,e,I2,T,st2,f2,W,⟨m0,w0⟩,turn⟩:=h2
 subst e
 refine o4 (Q:=fun v H1=>DE.nx (σ.set i (some v)) H1) B hc hg he I2 T st2 f2 w0 turn (RR:=fun acc C=>compPost (model X.prog X.w) X.A X.xe (some (assign (.Name y py) X.env)) (fun _ s'=>SP X pins DE .next s') acc C) ?_
 intro D C s' m ns hDC hD hC H' hHC k q
 obtain ⟨oC,es,ep,eC,dC,rC⟩:=ns
 have I':Inv X pins σ H' s':=k s'.heap (Heap.SameBut.refl ..)
 have nL:C≠X.env.locals:=fun z=>by have:=I2.lt; rw [<- z] at this; exact absurd (Nat.lt_of_lt_of_le this hC) (Nat.lt_irrefl _)
 have nF:C ∉ X.fs:=I2.nofs hC
 have nCell:∀ x c,X.env.cells.lookup x=some c->c≠C:=fun x c e z=>by
  obtain ⟨v,o,ho,_⟩:=I2.cell x c e
  have:=Heap.lt_size ho
  rw [z] at this
  exact absurd (Nat.lt_of_lt_of_le this hC) (Nat.lt_irrefl _)
 have nPin:∀ p∈X.pn++pins,p.1≠C:=fun p hp z=>by
  have:=Heap.lt_size (I2.pin p hp).1
  rw [z] at this
  exact absurd (Nat.lt_of_lt_of_le this hC) (Nat.lt_irrefl _)
 have Ip:Inv X (pins++[(C,oC)]) σ H' s':=I'.pins_of fun p hp=>by
  rcases List.mem_append.mp hp with z | z
  ·exact I'.pin p (List.mem_append_right _ z)
  ·have e:p=(C,oC):=by simpa using z
   subst e
   exact ⟨eC,hHC,nL,nF,fun v z=>by rw [dC] at z; cases z⟩
 refine cx (cf (pos:=py) hN hy hx hf _ s' σ H' (.ref D) (.ref D) (fun σ' H''=>σ' = σ.set i (some (.ref D))/\H''=H'/\DE.nx σ' H'') Ip rfl ⟨rfl,rfl,q⟩) fun _ s'' ⟨σ'',H'',I'',e1,e2,q''⟩=>?_
 subst e1 e2
 have eC'':s''.heap.get? C=some oC:=(I''.pin (C,oC) (List.mem_append_right _ (List.mem_append_right _ (by simp)))).1
 refine ⟨m,⟨oC,es,ep,eC'',dC,rC⟩,fun h' hs'=>⟨_,H'',?_,q''⟩⟩
 exact I''.unpinned.turned (t':=s''.toks) (it:=C) (fun b o hb e=>hs'.extBut b o hb e) hHC nL (.inr (Nat.le_trans I2.sz hC)) nCell nPin
end
noncomputable def Jy:Option Sl->Sl
 | some (.fz d)=>.fz d
 | _=>.un
@[simp] theorem Mk (d:D):Jy (some (.fz d))=.fz d:=rfl
noncomputable def capS (δ:Dv) (caps:List (Nat×Str)):Dv:=caps.map fun p=>Jy δ[p.1]?
noncomputable def zd (f:D->Option D):List D->Option (List D)
 | []=>some []
 | d::ds=>(f d).bind fun e=>(zd f ds).bind fun es=>some (e::es)
noncomputable def eR (fi:Dv->Option (List D)) (caps:List (Nat×Str)) (bv:D->Option (List D)) (fe:Dv->Option D):Dv->Option D:=fun δ=>(fi δ).bind fun ds=>if ds.length<=sizeLine then (zd (fun d=>(bv d).bind fun vs=>fe (vs.map .fz++capS δ caps)) ds).bind fun es=>some (.list es) else none
noncomputable def sj:D->Option (List D):=fun d=>some [d]
theorem mG {f:D->Option D}:∀ {ds es:List D},zd f ds=some es->es.length=ds.length
 | [],es,h=>by cases h; rfl
 | d::ds,es,h=>by
  obtain ⟨e,_,h⟩:=bind_some h
  obtain ⟨es',h2,h⟩:=bind_some h
  cases h
  exact congrArg (· + 1) (mG h2)
theorem um {f:D->Option D}:∀ {ds es:List D} {i:Nat} {d:D},zd f ds=some es->ds[i]? = some d->∃ e,f d=some e/\es[i]? = some e
 | [],es,i,d,h,q=>by simp at q
 | d::ds,es,i,d',h,q=>by
  obtain ⟨e,h1,h⟩:=bind_some h
  obtain ⟨es',h2,h⟩:=bind_some h
  cases h
  cases i with
  | zero=>simp at q; subst q; exact ⟨e,h1,rfl⟩
  | succ i=>simp at q; obtain ⟨e',g1,g2⟩:=um (i:=i) h2 q; exact ⟨e',g1,by simpa using g2⟩
def wU (K:Fg) (g:TG) (n:Nat) (bv:D->Option (List D)):Prop:=∀ (x:V) (Z:Hp) (d:D) (vs:List D) (σc:St) (H:Hp) (R:St->Hp->Prop),Rep K Z x d->Same Z H->bv d=some vs->(∀ us,Reps K Z us vs->us.length=n->R (us.map some ++ σc) H)->g x (List.replicate n none ++ σc) H R
theorem dW {K:Fg}:wU K (BP 0) 1 sj:=fun x Z d vs σc H R r zh e k=>by
 cases e
 exact k [x] (.cons r .nil) rfl
section
variable {X:Cx} {scope:Scope} {vars:List Str} {caps:List (Nat×Str)} {elt tg iter:Expr} {pos:Pos} {g:TG} {fi:Dv->Option (List D)} {fe:Dv->Option D} {bv:D->Option (List D)}
theorem Cd {σ:St} {δ:Dv} {K:Fg} {H₀ Z₀ Z H:Hp} (hh:Hold K H₀ Z₀ Z δ σ H):∀ (j:Nat) d,(capS δ caps)[j]? = some (.fz d)->∃ v,(gQ σ caps)[j]? = some (some v)/\Rep K Z v d:=fun j d e=>by
 unfold capS at e
 unfold gQ
 rw [List.getElem?_map] at e ⊢
 cases q:caps[j]? with
 | none=>rw [q] at e; cases e
 | some p=>
  rw [q] at e
  have e:Jy δ[p.1]? = .fz d:=Option.some.inj e
  cases z:δ[p.1]? with
  | none=>rw [z] at e; cases e
  | some sl=>
   rw [z] at e
   cases sl with
   | fz d'=>
    cases e
    obtain ⟨v,g1,g2⟩:=hh.fz p.1 _ z
    exact ⟨v,by show some ((σ[p.1]?).getD none)=_; rw [g1]; rfl,g2⟩
   | un=>cases e
   | own _=>cases e
   | fr _=>cases e
theorem Fk {δ:Dv}:∀ (j:Nat) ds,(capS δ caps)[j]? ≠ some (.own ds):=fun j ds e=>by
 unfold capS at e
 rw [List.getElem?_map] at e
 cases q:caps[j]? with
 | none=>rw [q] at e; cases e
 | some p=>
  rw [q] at e
  have e:Jy δ[p.1]? = .own ds:=Option.some.inj e
  cases z:δ[p.1]? with
  | none=>rw [z] at e; cases e
  | some sl=>rw [z] at e; cases sl <;> cases e
theorem Fm {δ:Dv}:∀ (j:Nat) ds,(capS δ caps)[j]? ≠ some (.fr ds):=fun j ds e=>by
 unfold capS at e
 rw [List.getElem?_map] at e
 cases q:caps[j]? with
 | none=>rw [q] at e; cases e
 | some p=>
  rw [q] at e
  have e:Jy δ[p.1]? = .fr ds:=Option.some.inj e
  cases z:δ[p.1]? with
  | none=>rw [z] at e; cases e
  | some sl=>rw [z] at e; cases sl <;> cases e
theorem u6 {σ:St} {δ:Dv} {K:Fg} {H₀ Z₀ Z H:Hp} (hh:Hold K H₀ Z₀ Z δ σ H) {us:List V} {vs:List D} (r:Reps K Z us vs):Hold K H Z Z (vs.map .fz++capS δ caps) (us.map some++gQ σ caps) H:=by
 have hl:=r.length
 refine ⟨hh.zh,Same.refl _,Same.refl _,fun _ _=>rfl,by simp [capS,gQ,hl],fun i d e=>?_,fun i ds e=>?_,fun i j ds es a _ e=>?_,fun i ds e=>?_,NoF.refl _⟩
 ·by_cases hi:i<vs.length
  ·rw [List.getElem?_append_left (by simpa using hi),List.getElem?_map] at e
   cases q:vs[i]? with
   | none=>rw [q] at e; cases e
   | some d'=>
    rw [q] at e
    cases e
    obtain ⟨v,g1,g2⟩:=r.get q
    exact ⟨v,by rw [List.getElem?_append_left (by simpa [hl] using hi),List.getElem?_map,g1]; rfl,g2⟩
  ·rw [List.getElem?_append_right (by simpa using hi)] at e
   obtain ⟨v,g1,g2⟩:=Cd hh _ d e
   refine ⟨v,?_,g2⟩
   rw [List.getElem?_append_right (by simpa [hl] using hi)]
   simp only [List.length_map] at g1 ⊢
   rw [hl]; exact g1
 all_goals
  exfalso
  by_cases hi:i<vs.length
  ·rw [List.getElem?_append_left (by simpa using hi),List.getElem?_map] at e
   cases q:vs[i]? <;> rw [q] at e <;> cases e
  ·rw [List.getElem?_append_right (by simpa using hi)] at e
   first | exact Fk _ _ e | exact Fm _ _ e
theorem qG (tk:wU X.K g vars.length bv) {σ:St} {H:Hp} {Q:VK} (h:tV X.K (eR fi caps bv fe) σ H Q):Ab (LZ X.K fi) g (tV X.K fe) vars caps σ H Q:=by
 obtain ⟨H₀,Z₀,Z,δ,d,hh,e,k⟩:=h
 obtain ⟨ds,e1,e⟩:=bind_some e
 by_cases hz:ds.length<=sizeLine
 ·rw [if_pos hz] at e
  obtain ⟨es,e2,e⟩:=bind_some e
  cases e
  have le:=mG e2
  have hv:vars.map (fun _=>(none:Option V))=List.replicate vars.length none:=by rw [List.map_const']
  refine ⟨H₀,Z₀,Z,δ,ds,hh,e1,fun J Z1 H1 hh1 t1 ok=>?_⟩
  refine ⟨fun i m ys H=>m=ds.length-i/\i<=ds.length/\∃ Zc,Hold X.K H₀ Z₀ Zc δ σ H/\Same Z1 Zc/\Reps X.K Zc ys (es.take i),⟨ds.length,by simp,Nat.zero_le _,Z1,hh1,Same.refl _,by simpa using .nil⟩,?_⟩
  rintro i m ys H2 ⟨rfl,hi2,Zc,hhc,tc,rc⟩
  have zh:Same Z1 H2:=tc.trans hhc.zh
  have ly:=rc.length
  rw [List.length_take] at ly
  by_cases hlt:i<ds.length
  ·refine .inr ⟨ok.go i H2 zh hlt,by omega,fun x H3 y=>?_⟩
   have ed:ds[i]? = some ds[i]:=by simp [hlt]
   obtain ⟨rfl,rx⟩:=ok.yld i H2 x H3 _ zh ed y
   obtain ⟨ei,f1,f2⟩:=um e2 ed
   obtain ⟨vs,f3,f1⟩:=bind_some f1
   rw [hv]
   refine tk x Zc ds[i] vs (gQ σ caps) H3 _ (rx.same tc) hhc.zh f3 fun us ru hn=>⟨⟨by simp [hn],fun j v q=>?_⟩,?_⟩
   ·by_cases hj:j<vars.length
    ·rw [List.getElem?_append_left (by simpa using hj),List.getElem?_replicate] at q
     split at q <;> cases q
    ·rw [List.getElem?_append_right (by simpa using hj)] at q
     rw [List.getElem?_append_right (by simpa [hn] using hj)]
     simpa [hn] using q
   ·refine ⟨H3,Zc,Zc,_,ei,u6 hhc ru,f1,fun v Z4 H4 h4 t4 r4=>⟨ds.length-(i+1),by omega,rfl,hlt,Z4,hhc.new ⟨t4,h4.h0,h4.zh,h4.zb,h4.nf⟩,tc.trans t4,?_⟩⟩
    have:es.take (i+1)=es.take i++[ei]:=by
     rw [List.take_add_one,f2]; rfl
    rw [this]
    exact (rc.same t4).append (.cons r4 .nil)
  ·have hie:i=ds.length:=by omega
   subst hie
   refine .inl ⟨ok.stop _ H2 zh (Nat.le_refl _),by omega,fun p hp=>?_⟩
   rw [<- le,List.take_length] at rc
   have n:=New.add hhc.zh hp (.lst ys)
   exact k _ _ _ (hhc.new n) ((t1.trans tc).trans n.z) (.lst (SqL.of aQ) (rc.same n.z))
 ·rw [if_neg hz] at e; cases e
theorem iq (B:BlkOk X.env.scope.names X.N scope vars caps) (hc:X.calm=true) (hi:IV X tg iter fi) (tk:wU X.K g vars.length bv)
  (hg:∀ C s₀ H₀ ex,PG (dA X scope (vars++caps.map (·.2)) C s₀ H₀ ex) tg g) (he:∀ C s₀ H₀ ex,EV (dA X scope (vars++caps.map (·.2)) C s₀ H₀ ex) elt fe) (hs:∀ x,foldedSetIterable iter X.env x=pure x:=by intro _; rfl) :
  EV X (.ListComp elt [⟨tg,iter,[],0⟩] scope pos) (eR fi caps bv fe):=
 PE.imp (DO (te:=tV X.K fe) B hc hi hg he hs) fun _ _ _ h=>qG tk h
theorem qV (i:Nat) {y:Str} {py spos:Pos} (hN:X.N.Nodup) (B:BlkOk X.env.scope.names X.N scope vars caps) (hc:X.calm=true) (hi:IV X tg iter fi) (tk:wU X.K g vars.length bv)
  (hg:∀ C s₀ H₀ ex,PG (dA X scope (vars++caps.map (·.2)) C s₀ H₀ ex) tg g) (he:∀ C s₀ H₀ ex,EV (dA X scope (vars++caps.map (·.2)) C s₀ H₀ ex) elt fe)
  (hy:X.N[i]? = some y:=by rfl) (hx:Cw X.env.scope y:=by first | exact Or.inl rfl | exact Or.inr rfl) (hsw:swapsWith (.ListComp elt [⟨tg,iter,[],0⟩] scope pos) (some (.Name y py)) spos.line X.env=pure true:=by rfl)
  (hf:X.fn y=true\/X.env.scope.names.lookup y=some .local:=by first | exact .inl rfl | exact .inr rfl | assumption) (hs:∀ x,foldedSetIterable iter X.env x=pure x:=by intro _; rfl) :
  SV X (.Assign [.Name y py] (.ListComp elt [⟨tg,iter,[],0⟩] scope pos) spos) (bc i (eR fi caps bv fe)):=
 PS.imp (DG (te:=tV X.K fe) B hc hi hg he hN hy hx hsw hf hs) fun D σ H h=>by
  obtain ⟨H₀,Z₀,Z,δ,r,hh,e,k⟩:=h
  obtain ⟨x,e1,e⟩:=bind_some e
  cases e
  exact qG tk ⟨H₀,Z₀,Z,δ,x,hh,e1,fun v Z1 H1 hh1 s1 r1=>k _ H1 Z1 (hh1.set r1) s1⟩
end
end VL
namespace VL
open PySem PySem.Spec PyProof.Rows L2
section
variable {X:Cx} {e:Expr} {es:List Expr} {p pos:Pos} {fs:Dv->Option (List D)}
theorem aA {k:Nat} {x:Str} {g:List D->Option D} (C:Cal X.prog X.w X.K X.mg X.base x k g []) (hr:Room k X.A) (hg:Gl X x) (ha:AV X (e::es) fs) (hdb:(x==("__debug__":Str))=false:=by decide) (he:starEach (e::es) X.env=(false,eval e X.env)::starEach es X.env:=by rfl)
  (hpl:(backTo pos (starEach es X.env)).any (·.1)=false:=by rfl):EV X (.Call (.Name x p) (e::es) [] pos) (os fs g):=by
 have h:=BU C hr hg ha hdb he hpl (p:=p) (pos:=pos)
 have e:(fun as=>g (as++[]))=g:=by funext as; rw [List.append_nil]
 rw [e] at h
 exact h
end
structure TopV (K:Fg) (mg:Str->Option Value) (x:Str) (d:D):Prop where
 ex:∃ v u,mg x=some u/\RelV v u/\∀ Z,Rep K Z v d
theorem TopV.tup {K:Fg} {mg:Str->Option Value} {x:Str} {a:Addr} {its:Array Value} {tn:Nat} {ts:Array (Option Value)} {xs:List V} {ds:List D} (hm:mg x=some (.ref a)) (hk:K.lookup a=some ⟨.type "tuple",none,.seq its tn,ts⟩)
  (hz:its.size<=sizeLine) (hv:Vals xs its.toList) (hr:∀ Z,Reps K Z xs ds):TopV K mg x (.tuple ds):=⟨.ref a,.ref a,hm,rfl,fun Z=>.tup (.inr ⟨_,its,tn,hk,rfl,rfl,hz,hv,rfl⟩) (hr Z)⟩
theorem nw {X:Cx} {x:Str} {pos:Pos} {d:D} (T:TopV X.K X.mg x d) (hg:Gl X x) (hd:(x==("__debug__":Str))=false:=by decide):EV X (.Name x pos) (oC d):=by
 obtain ⟨v,u,hm,r,h⟩:=T.ex
 exact zA (xt hg hm r hd) h
noncomputable def Cy:Option Sl->Option (List D)
 | some (.own (.l ds))=>some ds
 | _=>none
@[simp] theorem Mi (ds:List D):Cy (some (.ow ds))=some ds:=rfl
theorem vE {o:Option Sl} {ds:List D} (h:Cy o=some ds):o=some (.ow ds):=by
 cases o with
 | none=>cases h
 | some x=>
  cases x with
  | own c=>
   cases c with
   | l es=>cases h; rfl
   | d es=>cases h
  | un=>cases h
  | fz d=>cases h
  | fr _=>cases h
@[simp] noncomputable def vK (i:Nat) (fs:Dv->Option (List D)):Sf:=fun δ=>(fs δ).bind fun ds=>if ds.length<=sizeLine then some (.nx,δ.set i (.ow ds)) else none
@[simp] noncomputable def Hn (i:Nat) (f:Dv->Option D):Dv->Option D:=fun δ=>(Cy δ[i]?).bind fun ds=>(f δ).bind fun k=>aE (.list ds) k
@[simp] noncomputable def A4 (i:Nat):Dv->Option D:=fun δ=>(Cy δ[i]?).bind fun ds=>some (.int ds.length)
noncomputable def JQ (ds:List D) (k v:D):Option (List D):=match k with
 | .int j=>(HL ds.length j).map fun n=>ds.set n v
 | _=>none
@[simp] theorem JP (ds:List D) (j:Int) (v:D):JQ ds (.int j) v=(HL ds.length j).map fun n=>ds.set n v:=rfl
@[simp] noncomputable def Ov (i:Nat) (fk fv:Dv->Option D):Sf:=fun δ=>(fv δ).bind fun v=>(fk δ).bind fun k=>(Cy δ[i]?).bind fun ds=>(JQ ds k v).bind fun ds'=>some (.nx,δ.set i (.ow ds'))
@[simp] noncomputable def tK (i:Nat) (f:Dv->Option D):Sf:=fun δ=>(f δ).bind fun v=>(Cy δ[i]?).bind fun ds=>if ds.length<sizeLine then some (.nx,δ.set i (.ow (ds++[v]))) else none
section
variable {X:Cx} {e b:Expr} {es:List Expr} {p pos tpos apos:Pos} {fs:Dv->Option (List D)} {f fk fv:Dv->Option D}
theorem ls (i:Nat) {x:Str} {pos':Pos} (hN:X.N.Nodup) (ha:AV X es fs) (hi:X.N[i]? = some x:=by rfl) (hx:Cw X.env.scope x:=by first | exact Or.inl rfl | exact Or.inr rfl) (hs:swapsWith (.List es p) (some (.Name x pos')) pos.line X.env=pure false:=by rfl)
  (hf:X.fn x=true\/X.env.scope.names.lookup x=some .local:=by first | exact .inl rfl | exact .inr rfl | assumption):SV X (.Assign [.Name x pos'] (.List es p) pos) (vK i fs):=
 PS.imp (AD hN hi hx (AL ha) hs hf) fun D σ H h=>by
  obtain ⟨H₀,Z₀,Z,δ,r,hh,e,k⟩:=h
  obtain ⟨ds,e1,e⟩:=bind_some e
  by_cases hl:ds.length<=sizeLine
  ·rw [if_pos hl] at e
   cases e
   exact ⟨H₀,Z₀,Z,δ,ds,hh,e1,fun vs Z1 H1 hh1 t1 r1=>⟨by rw [r1.length]; exact hl,fun p hp=>k _ _ Z1 (hh1.setO hp r1) t1⟩⟩
  ·rw [if_neg hl] at e; cases e
theorem ol {K:Fg} {H₀ Z₀ Z:Hp} {δ:Dv} {σ:St} {H:Hp} (hh:Hold K H₀ Z₀ Z δ σ H) {i:Nat} {ds:List D} (h:Cy δ[i]? = some ds):∃ a xs,σ[i]? = some (some (V.ref a))/\H a=some (.lst xs)/\Reps K Z xs ds:=by
 obtain ⟨a,xs,h1,_,_,h4,h5⟩:=hh.ow i ds (vE h)
 exact ⟨a,xs,h1,h4,h5⟩
theorem Ia (i:Nat) {x:Str} (hb:EV X b f) (hs:sI b) (hN:X.N[i]? = some x:=by rfl) (hv:Gr X.env.scope x:=by first | exact Or.inl rfl | exact Or.inr (Or.inl rfl) | exact Or.inr (Or.inr rfl)) (hd:(x==("__debug__":Str))=false:=by decide) (hcd:(x==("__classdict__":Str))=false:=by decide) :
  EV X (.Subscript (.Name x p) b pos) (Hn i f):=
 PE.imp (FO ix_list (lH hN hv hd hcd) hb hs) fun σ H Q h=>by
  obtain ⟨H₀,Z₀,Z,δ,d,hh,e,k⟩:=h
  obtain ⟨ds,e1,e⟩:=bind_some e
  obtain ⟨y,e2,e⟩:=bind_some e
  obtain ⟨a,xs,h1,h4,h5⟩:=ol hh e1
  refine ⟨_,h1,H₀,Z₀,Z,δ,y,hh,e2,fun v Z1 H1 hh1 t1 r1=>?_⟩
  obtain ⟨a',xs',g1,g4,g5⟩:=ol hh1 e1
  rw [h1] at g1
  cases g1
  cases r1 with
  | int j=>
   obtain ⟨w,ew,rw'⟩:=g5.at e
   exact ⟨_,_,_,w,rfl,rfl,SqL.of g4,ew,k w Z1 H1 hh1 t1 rw'⟩
  | _=>cases e
theorem E6 (i:Nat) {x:Str} {p2:Pos} (hg:Gl X "len") (hm:X.mg "len" = none) (hN:X.N[i]? = some x:=by rfl) (hv:Gr X.env.scope x:=by first | exact Or.inl rfl | exact Or.inr (Or.inl rfl) | exact Or.inr (Or.inr rfl)) (hd:(x==("__debug__":Str))=false:=by decide) (hcd:(x==("__classdict__":Str))=false:=by decide)
  (he:starEach [.Name x p2] X.env=(false,eval (.Name x p2) X.env)::starEach [] X.env:=by rfl) (hpl:(backTo pos (starEach [] X.env)).any (·.1)=false:=by rfl):EV X (.Call (.Name "len" p) [.Name x p2] [] pos) (A4 i):=
 PE.imp (tW u4 hg hm PySem.boot_len (jc (lH hN hv hd hcd) lI he) (by decide) (by decide) he hpl) fun σ H Q h=>by
  obtain ⟨H₀,Z₀,Z,δ,d,hh,e,k⟩:=h
  obtain ⟨ds,e1,e⟩:=bind_some e
  cases e
  obtain ⟨a,xs,h1,h4,h5⟩:=ol hh e1
  exact ⟨_,h1,_,_,rfl,.inl ⟨xs,SqL.of h4,rfl⟩,k _ Z H hh (Same.refl _) (by rw [h5.length]; exact .int _)⟩
theorem lw (i:Nat) {x:Str} {cpos:Pos} (hv':EV X e f) (hN:X.N[i]? = some x:=by rfl) (hv:Gr X.env.scope x:=by first | exact Or.inl rfl | exact Or.inr (Or.inl rfl) | exact Or.inr (Or.inr rfl)) (hd:(x==("__debug__":Str))=false:=by decide) (hcd:(x==("__classdict__":Str))=false:=by decide)
  (hbase:attributeBase (.Name x p) "append" X.env (eval (.Name x p) X.env)=eval (.Name x p) X.env:=by rfl)
  (hfew:((backTo cpos (starEach [e] X.env)).all (fun x=>!x.1)&&(backToKw cpos (keywordEach [] X.env)).all (fun x=>x.1.isSome)
   && decide ([e].length+([]:List Keyword).length+(if ([]:List Keyword).isEmpty then 0 else 1)<30))=true:=by rfl)
  (hline:(apos.endLine==cpos.line)=true:=by rfl) (hs:starEach [e] X.env=(false,eval e X.env)::starEach [] X.env:=by rfl) (hplain:(backTo cpos (starEach [] X.env)).any (·.1)=false:=by rfl)
  (hsw:swapsWith (.Call (.Attribute (.Name x p) "append" apos) [e] [] cpos) none pos.line X.env=pure false:=by rfl):SV X (.Expr (.Call (.Attribute (.Name x p) "append" apos) [e] [] cpos) pos) (tK i f):=
 PS.imp (xr (FP PySem.F.plainAttrs_list PySem.F.slot_list_append PySem.F.type_list_append za (lH hN hv hd hcd) (jc hv' lI hs) hbase hfew hline hs hplain) hsw) fun D σ H h=>by
  obtain ⟨H₀,Z₀,Z,δ,r,hh,e,k⟩:=h
  obtain ⟨v,e1,e⟩:=bind_some e
  obtain ⟨ds,e2,e⟩:=bind_some e
  by_cases hl:ds.length<sizeLine
  ·rw [if_pos hl] at e
   cases e
   obtain ⟨a,xs,h1,h4,h5⟩:=ol hh e2
   refine ⟨_,h1,.inl ⟨rfl,xs,SqL.of h4⟩,H₀,Z₀,Z,δ,v,hh,e1,fun w Z1 H1 hh1 t1 r1=>?_⟩
   obtain ⟨a',xs',g1,g4,g5⟩:=ol hh1 e2
   rw [h1] at g1
   cases g1
   exact ⟨a,xs',w,rfl,rfl,g4,by rw [g5.length]; exact hl,k σ _ Z1 (hh1.chg (xs:=xs') (vE e2) h1 (g5.append (.cons r1 .nil))) t1⟩
  ·rw [if_neg hl] at e; cases e
end
end VL
namespace VL
open PySem PySem.Spec PyProof.Rows L2
section
def vz (wi:TI) (g:TG) (tt:TT) (te:TE) (vars:List Str) (caps:List (Nat×Str)):TE:=fun σ H Q=>wi σ H fun J H1=>∃ W:Nat->Nat->List V->Hp->Prop,(∃ m,W 0 m [] H1)/\∀ i m ys H,W i m ys H ->
 (J.stop i H/\ys.length<=sizeLine/\∀ p,H p=none->Q (.ref p) (upd H p (.lst ys))) \/
 (J.go i H/\ys.length<sizeLine/\∀ x H',J.yld i H x H'->g x (vars.map (fun _=>none)++gQ σ caps) H' fun σ2 H2=>yi (vars.map (fun _=>none)++gQ σ caps) σ2/\tt σ2 H2 fun b H3=>if b=true then te σ2 H3 fun y H4=>∃ m',m'<m/\W (i+1) m' (ys++[y]) H4 else ∃ m',m'<m/\W (i+1) m' ys H3)
theorem mf {prog:Program} {w:World} {A:Around} {R:Result->Shared->Prop} {s:Shared} {elt target iter cnd:Expr} {scope:Scope} {pos:Pos} {it acc:Value} {env:Env} (I:Nat->Shared->Prop)
  (turn:∀ n s,I n s->wpAny (model prog w) A (pyNext it) (fun r s₁=>match r with
   | none=>R (.ok .next) s₁
   | some v=>wpAny (model prog w) A (letOwnedTupleGo target it v) (fun _ s₁=>wpAny (model prog w) A (assign target env v) (fun _ s₂=>wpAny (model prog w) A (isTrue cnd env (eval cnd env)) (fun ok s₂=>if ok=true then wpAny (model prog w) A (eval elt env) (fun x s₃=>
     wpAny (model prog w) A (call (.builtin "list.append") [acc,x]) (fun _ s₄=>∃ m,m<n/\I m s₄) (fun _ _=>False) s₃) (fun _ _=>False) s₂ else ∃ m,m<n/\I m s₂) (fun _ _=>False) s₂) (fun _ _=>False) s₁) (fun _ _=>False) s₁) (fun _ _=>False) s)
  (n:Nat) (h:I n s):codeAny (model prog w) A (.compLoop (.ListComp elt [⟨target,iter,[cnd],0⟩] scope pos) 0 it acc env) R s:=by
 refine codeAny_loop rfl I (fun n s hI=>?_) n h
 show wpAny _ _ ((compTurn (.ListComp elt [⟨target,iter,[cnd],0⟩] scope pos) 0 it acc env).onRaise (fun x=>do noteFrame x env; theTreesLotGoes x)) _ _ s
 refine wpAny_noted ?_
 rw [compTurn_list]
 refine wpAny_bind (wpAny_standAt (wpAny_bind (wpAny_mono (turn n s hI) (fun r s₁ h₁=>?_) fun _ _ h'=>h'.elim)))
 cases r with
 | none=>exact wpAny_pure h₁
 | some v=>
  refine wpAny_bind (wpAny_mono h₁ (fun _ s₁ h₁=>?_) fun _ _ h'=>h'.elim)
  refine wpAny_bind (wpAny_mono h₁ (fun _ s₂ h₂=>?_) fun _ _ h'=>h'.elim)
  refine wpAny_bind (wpAny_tests_one (wpAny_mono h₂ (fun okb s₃ h₃=>?_) fun _ _ h'=>h'.elim))
  cases okb with
  | false=>exact wpAny_pure ⟨rfl,h₃⟩
  | true=>exact wpAny_bind (wpAny_bind (wpAny_mono h₃ (fun x s₄ h₄=>wpAny_bind (wpAny_mono h₄ (fun _ s₅ h₅=>wpAny_pure (wpAny_pure ⟨rfl,h₅⟩)) fun _ _ h'=>h'.elim)) fun _ _ h'=>h'.elim))
end
section
variable {X:Cx} {scope:Scope} {vars:List Str} {caps:List (Nat×Str)} {elt tg iter cnd:Expr} {pos:Pos} {wi:TI} {g:TG} {tt:TT} {te:TE}
theorem mL {Cm:Cx->Prop} (B:BlkOk X.env.scope.names X.N scope vars caps)
  (hg:∀ C s₀ H₀ ex,PG (dA X scope (vars++caps.map (·.2)) C s₀ H₀ ex) tg g) (hb:∀ C s₀ H₀ ex,PT (dA X scope (vars++caps.map (·.2)) C s₀ H₀ ex) cnd tt) (he:∀ C s₀ H₀ ex,PE (dA X scope (vars++caps.map (·.2)) C s₀ H₀ ex) elt te)
  {pins:List (Addr×Obj)} {σ:St} {H2:Hp} {s2:Shared} {Q:VK} {it:Addr} {fp:List Addr} {tn:Nat->Heap->Prop} {J:It} (I2:Inv X pins σ H2 s2) (T:TurnG Cm X.prog X.w X.K tg J fp it tn) (st2:tn 0 s2.heap) (f2:∀ b∈fp,jO X pins H2 b) (hc:∀ C,Cm (dA X scope (vars++caps.map (·.2)) C s2 H2 fp))
  {W:Nat->Nat->List V->Hp->Prop} {m0:Nat} (w0:W 0 m0 [] H2) (turn:∀ i m ys H,W i m ys H ->
   (J.stop i H/\ys.length<=sizeLine/\∀ p,H p=none->Q (.ref p) (upd H p (.lst ys))) \/
   (J.go i H/\ys.length<sizeLine/\∀ x H',J.yld i H x H'->g x (vars.map (fun _=>none)++gQ σ caps) H' fun σ2 H2=>yi (vars.map (fun _=>none)++gQ σ caps) σ2/\tt σ2 H2 fun b H3=>if b=true then te σ2 H3 fun y H4=>∃ m',m'<m/\W (i+1) m' (ys++[y]) H4 else ∃ m',m'<m/\W (i+1) m' ys H3))
  {RR:Value->Addr->Result->Shared->Prop} {E:Value->Shared->Prop}
  (hRR:∀ D C s' m,s'.heap.Ns C m->D≠C->s2.heap.objs.size<=D->s2.heap.objs.size<=C->∀ H',H' C=none->(∀ h',Heap.SameBut C s'.heap h'->Inv X pins σ H' { s' with heap:=h' })->Q (.ref D) H'->RR (.ref D) C (.ok .next) s') :
  wpAny (model X.prog X.w) X.A (newList []) (fun acc s₃=>wpAny (model X.prog X.w) X.A (newFunctionEnv scope X.env.globals (jK X.env scope.names []) [] X.env.qual none .none (some X.env)) (fun cenv s₄=>
   codeAny (model X.prog X.w) X.A (.compStart (.ListComp elt [⟨tg,iter,[cnd],0⟩] scope pos) 0 (.ref it) acc { cenv with scope:=relabel scope X.env }) (RR acc cenv.locals) s₄) E s₃) E s2:=by
 refine wpAny_newObj_type (wpAny_newFunctionEnv B.cell (by intro y hy; simp at hy) (fun h₁ hns₁ hsb₁=>?_) B.kind)
 dsimp only at hns₁ hsb₁ ⊢
 generalize hP:s2.heap.push { cls:=.type "list",dict:=none,data:=.seq ([]:List Value).toArray }=HP at hns₁ hsb₁ ⊢
 have hCs:HP.objs.size=s2.heap.objs.size+1:=by rw [<- hP,Heap.size_push]
 have hDC:s2.heap.objs.size≠HP.objs.size:=by rw [hCs]; exact Nat.ne_of_lt (Nat.lt_succ_self _)
 have hCle:s2.heap.objs.size<=HP.objs.size:=by rw [hCs]; exact Nat.le_succ _
 have old:∀ b o,s2.heap.get? b=some o->h₁.get? b=some o:=fun b o e=>hsb₁.extBut b o (Nat.ne_of_lt (Nat.lt_of_lt_of_le (Heap.lt_size e) hCle)) (Heap.get?_push_of_some _ (hP ▸ Heap.get?_push_of_some _ e))
 have hacc:h₁.PlainList s2.heap.objs.size #[]:=⟨_,hsb₁.extBut _ _ hDC (Heap.get?_push_of_some _ (hP ▸ Heap.get?_push_size _ rfl))⟩
 have flt:∀ b∈fp,b<s2.heap.objs.size:=fun b hb=>by
  obtain ⟨o,e,_⟩:=T.obj _ _ st2 b hb
  exact Heap.lt_size e
 have st1:tn 0 h₁:=T.keep _ _ _ st2 fun b _ o e=>old b o e
 have loop:∀ s3:Shared,s3={ s2 with heap:=h₁,toks:=s2.toks+([]:List (Str×Value)).length } ->
   codeAny (model X.prog X.w) X.A (.compLoop (.ListComp elt [⟨tg,iter,[cnd],0⟩] scope pos) 0 (.ref it) (.ref s2.heap.objs.size) (compEnvC scope (jK X.env scope.names []) HP.objs.size X.env))
    (RR (.ref s2.heap.objs.size) HP.objs.size) s3:=by
  rintro s3 rfl
  have X':=dA X scope (vars++caps.map (·.2)) HP.objs.size s2 H2 fp
  have fpo:∀ {H':Hp},(∀ b∈fp,H' b=none)->∀ b∈fp,jO (dA X scope (vars++caps.map (·.2)) HP.objs.size s2 H2 fp) [] H' b:=fun hn b hb=>by
   have ok:=wI B I2 f2 flt hCle
   exact ⟨hn b hb,(ok.exf b hb).1,ok.exfs b hb,.inl hb,(ok.exf b hb).2,fun p hp=>absurd (show p∈([]:List (Addr×Obj)) from hp) (by simp)⟩
  refine mf (fun n s=>∃ i ys H its,Inv (dA X scope (vars++caps.map (·.2)) HP.objs.size s2 H2 fp) [] (vars.map (fun _=>none)++gQ σ caps) H s/\tn i s.heap/\(∀ b∈fp,H b=none)/\s.heap.PlainList s2.heap.objs.size (List.toArray its)/\H s2.heap.objs.size=none/\Vals ys its/\W i n ys H) ?_ m0
   ⟨0,[],H2,[],yb B I2 f2 flt hCle hns₁ old,st1,fun b hb=>(f2 b hb).1,hacc,I2.hok.fresh (Nat.le_refl _),.nil,w0⟩
  rintro n s4 ⟨i,ys,H4,its,I4,st4,fr4,pl4,nD4,v4,w4⟩
  obtain ⟨nn,eD⟩:=id pl4
  have DnL:s2.heap.objs.size≠(dA X scope (vars++caps.map (·.2)) HP.objs.size s2 H2 fp).env.locals:=hDC
  have Dfs:s2.heap.objs.size ∉ (dA X scope (vars++caps.map (·.2)) HP.objs.size s2 H2 fp).fs:=fun z=>by
   rcases List.mem_cons.mp (I2.stkSub _ z) with q | q
   ·have:=I2.lt; rw [<- q] at this; exact Nat.lt_irrefl _ this
   ·exact I2.nofs (Nat.le_refl _) q
  have Dfp:∀ b∈fp,s2.heap.objs.size≠b:=fun b hb z=>by have:=flt b hb; rw [<- z] at this; exact Nat.lt_irrefl _ this
  have DnC:∀ x c,(dA X scope (vars++caps.map (·.2)) HP.objs.size s2 H2 fp).env.cells.lookup x=some c->c≠s2.heap.objs.size:=fun x c e z=>by
   rcases bU _ _ _ _ (B.cells I2) e with q | q
   ·cases q
   ·obtain ⟨v,o,ho,_⟩:=I2.cell x c q
    have:=Heap.lt_size ho
    rw [z] at this
    exact Nat.lt_irrefl _ this
  have pinD:∀ {σ':St} {H':Hp} {s':Shared},Inv (dA X scope (vars++caps.map (·.2)) HP.objs.size s2 H2 fp) [(s2.heap.objs.size,{ cls:=.type "list",data:=.seq its.toArray nn })] σ' H' s'->s'.heap.PlainList s2.heap.objs.size its.toArray/\H' s2.heap.objs.size=none:=fun {σ' H' s'} I'=>by
   obtain ⟨q1,q2,_⟩:=I'.pin (s2.heap.objs.size,{ cls:=.type "list",data:=.seq its.toArray nn }) (by simp [dA])
   exact ⟨⟨nn,q1⟩,q2⟩
  have I4p:Inv (dA X scope (vars++caps.map (·.2)) HP.objs.size s2 H2 fp) [(s2.heap.objs.size,{ cls:=.type "list",data:=.seq its.toArray nn })] (vars.map (fun _=>none)++gQ σ caps) H4 s4:=
   I4.pins_of fun p hp=>by
    have e:p=(s2.heap.objs.size,{ cls:=.type "list",data:=.seq its.toArray nn }):=by simpa [dA] using hp
    subst e
    exact ⟨eD,nD4,DnL,Dfs,fun v z=>by cases z⟩
  have fpo':∀ {H':Hp},(∀ b∈fp,H' b=none)->∀ b∈fp,jO (dA X scope (vars++caps.map (·.2)) HP.objs.size s2 H2 fp) [(s2.heap.objs.size,{ cls:=.type "list",data:=.seq its.toArray nn })] H' b:=fun hn b hb=>by
   obtain ⟨q1,q2,q3,q4,q5,_⟩:=fpo hn b hb
   exact ⟨q1,q2,q3,q4,q5,fun p hp=>by
    have e:p=(s2.heap.objs.size,{ cls:=.type "list",data:=.seq its.toArray nn }):=by simpa [dA] using hp
    subst e
    exact Dfp b hb⟩
  have unp:∀ {pl:List (Addr×Obj)} {σ':St} {H':Hp} {s':Shared},Inv (dA X scope (vars++caps.map (·.2)) HP.objs.size s2 H2 fp) pl σ' H' s'->Inv (dA X scope (vars++caps.map (·.2)) HP.objs.size s2 H2 fp) [] σ' H' s':=fun {pl σ' H' s'} I'=>
   I'.pins_of fun p hp=>absurd (show p∈([]:List (Addr×Obj)) from hp) (by simp)
  rcases turn i n ys H4 w4 with ⟨stop,hz,qn⟩ | ⟨go,hz,step⟩
  ·refine cx (T.done (dA X scope (vars++caps.map (·.2)) HP.objs.size s2 H2 fp) rfl rfl rfl (hc _) i _ s4 _ H4 _ I4p (fpo' fr4) st4 stop) fun r s5 ⟨hr,I5⟩=>?_
   subst hr
   obtain ⟨p5,n5⟩:=pinD I5
   obtain ⟨m5,ns5,_⟩:=I5.loc
   refine hRR _ _ s5 m5 ns5 hDC (Nat.le_refl _) hCle _ ?_ (fun h' hs'=>ya I2 f2 hCle (Nat.le_refl _) hDC (unp I5) n5 p5 v4 hz hs') (qn _ n5)
   rw [aU hDC.symm]
   exact I5.free
  ·refine cx (T.item (dA X scope (vars++caps.map (·.2)) HP.objs.size s2 H2 fp) rfl rfl rfl (hc _) i _ s4 _ H4 _ I4p (fpo' fr4) st4 go) fun r s5 ⟨u,hr,h5⟩=>?_
   subst hr
   refine cx h5 fun _ s6 ⟨x,H6,I6,rx,yx,st6,fr6⟩=>?_
   have I6p:=I6.pinned (fpo' fr6) (T.obj _ _ st6)
   refine cx (hg _ _ _ _ _ s6 _ H6 x u _ I6p rx (step x H6 yx)) fun _ s7 ⟨σ7,H7,I7,kp,q7⟩=>?_
   refine cx (hb _ _ _ _ _ s7 σ7 H7 _ I7 q7) fun okb s7' q7'=>?_
   obtain ⟨H7',I7',q7'⟩:=q7'
   cases okb with
   | false=>
    obtain ⟨m',hm,w8⟩:=q7'
    rw [if_neg (by decide)]
    obtain ⟨p8,n8⟩:=pinD I7'.unpinned
    have st8:tn (i+1) s7'.heap:=T.keep _ _ _ st6 fun b hb o e=>(I7'.pin (b,o) (List.mem_append_right _ (List.mem_append_right _ (cZ hb e)))).1
    have fr8:∀ b∈fp,H7' b=none:=fun b hb=>by
     obtain ⟨o,e,d⟩:=T.obj _ _ st6 b hb
     exact (I7'.pin (b,o) (List.mem_append_right _ (List.mem_append_right _ (cZ hb e)))).2.1
    exact ⟨m',hm,i+1,ys,H7',its,(unp I7').weak kp.1 kp.2,st8,fr8,p8,n8,v4,w8⟩
   | true=>
   rw [if_pos rfl]
   rw [if_pos rfl] at q7'
   refine cx (he _ _ _ _ _ s7' σ7 H7' _ I7' q7') fun v s8 ⟨y,H8,I8,ry,m',hm,w8⟩=>?_
   obtain ⟨p8,n8⟩:=pinD I8.unpinned
   have st8:tn (i+1) s8.heap:=T.keep _ _ _ st6 fun b hb o e=>(I8.pin (b,o) (List.mem_append_right _ (List.mem_append_right _ (cZ hb e)))).1
   have fr8:∀ b∈fp,H8 b=none:=fun b hb=>by
    obtain ⟨o,e,d⟩:=T.obj _ _ st6 b hb
    exact (I8.pin (b,o) (List.mem_append_right _ (List.mem_append_right _ (cZ hb e)))).2.1
   have hl:=v4.length
   refine wpAny_list_append_plain p8 (fun h9 p9 sb9=>⟨m',hm,i+1,ys++[y],H8,its++[v],?_,?_,fr8,by simpa using p9,n8,v4.append (.cons ry .nil),w8⟩) (by simp; omega)
   ·have I9:Inv (dA X scope (vars++caps.map (·.2)) HP.objs.size s2 H2 fp) [] σ7 H8 { s8 with heap:=h9,toks:=s8.toks }:=
     (unp I8).turned (it:=s2.heap.objs.size) (fun b o hb e=>sb9.extBut b o hb e) n8 DnL (.inr (Nat.le_refl _)) DnC fun p hp=>absurd (show p∈([]:List (Addr×Obj)) from hp) (by simp)
    exact I9.weak kp.1 kp.2
   ·exact T.keep _ _ _ st8 fun b hb o e=>sb9.extBut b o (Dfp b hb).symm e
 exact codeAny_compStart_list (loop _ rfl) (T.self _ 0 _ _ _ st1 (loop _ rfl))
theorem AO (B:BlkOk X.env.scope.names X.N scope vars caps) (hc:X.calm=true) (hi:PI X tg iter wi)
  (hg:∀ C s₀ H₀ ex,PG (dA X scope (vars++caps.map (·.2)) C s₀ H₀ ex) tg g) (hb:∀ C s₀ H₀ ex,PT (dA X scope (vars++caps.map (·.2)) C s₀ H₀ ex) cnd tt) (he:∀ C s₀ H₀ ex,PE (dA X scope (vars++caps.map (·.2)) C s₀ H₀ ex) elt te) (hs:∀ x,foldedSetIterable iter X.env x=pure x:=by intro _; rfl) :
  PE X (.ListComp elt [⟨tg,iter,[cnd],0⟩] scope pos) (vz wi g tt te vars caps):=by
 intro pins s σ H Q I h
 rw [eval_ListComp]
 refine wpAny_comprehension_free (use:=none) rfl hs (eO (B.cells I)) B.kind B.names ?_
 show wpAny _ _ (eval iter X.env) _ _ s
 refine cx (hi pins s σ H _ I h) fun v s1 h1=>cx h1 fun itv s2 h2=>?_
 obtain ⟨it,fp,tn,J,H2,e,I2,T,st2,f2,W,⟨m0,w0⟩,turn⟩:=h2
 subst e
 exact mL (Cm:=fun X=>X.calm=true) B hg hb he I2 T st2 f2 (fun _=>hc) w0 turn (RR:=fun acc C=>compPost (model X.prog X.w) X.A X.xe none (EP X pins σ Q) acc C) fun D C s' m ns _ _ _ H' _ k q=>⟨m,ns,fun h' hs'=>⟨.ref D,H',k h' hs',rfl,q⟩⟩
theorem AE {i:Nat} {y:Str} {py spos:Pos} (B:BlkOk X.env.scope.names X.N scope vars caps) (hc:X.calm=true) (hi:PI X tg iter wi)
  (hg:∀ C s₀ H₀ ex,PG (dA X scope (vars++caps.map (·.2)) C s₀ H₀ ex) tg g) (hb:∀ C s₀ H₀ ex,PT (dA X scope (vars++caps.map (·.2)) C s₀ H₀ ex) cnd tt) (he:∀ C s₀ H₀ ex,PE (dA X scope (vars++caps.map (·.2)) C s₀ H₀ ex) elt te)
  (hN:X.N.Nodup) (hy:X.N[i]? = some y) (hx:Cw X.env.scope y) (hsw:swapsWith (.ListComp elt [⟨tg,iter,[cnd],0⟩] scope pos) (some (.Name y py)) spos.line X.env=pure true)
  (hf:X.fn y=true\/X.env.scope.names.lookup y=some .local) (hs:∀ x,foldedSetIterable iter X.env x=pure x:=by intro _; rfl) :
  PS X (.Assign [.Name y py] (.ListComp elt [⟨tg,iter,[cnd],0⟩] scope pos) spos) (fun D σ H=>vz wi g tt te vars caps σ H fun v H1=>D.nx (σ.set i (some v)) H1):=by
 intro pins s σ H DE I h
 rw [exec_Assign_Name_used _ _ _ _ hsw]
 refine wpAny_bind (wpAny_standAt (wpAny_bind ?_))
 show wpAny _ X.A (do let _ <- comprehension (.ListComp elt [⟨tg,iter,[cnd],0⟩] scope pos) scope X.env _ (newList []) false (eval iter X.env) (some (assign (.Name y py) X.env))) _ _ s
 refine wpAny_bind (wpAny_mono (wpAny_comprehension_free (use:=some (assign (.Name y py) X.env)) (Q:=fun _ s'=>SP X pins DE .next s') rfl hs (eO (B.cells I)) B.kind B.names
  (cx (hi pins s σ H _ I h) fun v s1 h1=>cx h1 fun itv s2 h2=>?_)) (fun _ s' hq=>wpAny_pure (wpAny_pure hq)) fun _ _ e=>e)
 obtain ⟨it,fp,tn,J,H2,e,I2,T,st2,f2,W,⟨m0,w0⟩,turn⟩:=h2
 subst e
 refine mL (Cm:=fun X=>X.calm=true) (Q:=fun v H1=>DE.nx (σ.set i (some v)) H1) B hg hb he I2 T st2 f2 (fun _=>hc) w0 turn (RR:=fun acc C=>compPost (model X.prog X.w) X.A X.xe (some (assign (.Name y py) X.env)) (fun _ s'=>SP X pins DE .next s') acc C) ?_
 intro D C s' m ns hDC hD hC H' hHC k q
 obtain ⟨oC,es,ep,eC,dC,rC⟩:=ns
 have I':Inv X pins σ H' s':=k s'.heap (Heap.SameBut.refl ..)
 have nL:C≠X.env.locals:=fun z=>by have:=I2.lt; rw [<- z] at this; exact absurd (Nat.lt_of_lt_of_le this hC) (Nat.lt_irrefl _)
 have nF:C ∉ X.fs:=I2.nofs hC
 have nCell:∀ x c,X.env.cells.lookup x=some c->c≠C:=fun x c e z=>by
  obtain ⟨v,o,ho,_⟩:=I2.cell x c e
  have:=Heap.lt_size ho
  rw [z] at this
  exact absurd (Nat.lt_of_lt_of_le this hC) (Nat.lt_irrefl _)
 have nPin:∀ p∈X.pn++pins,p.1≠C:=fun p hp z=>by
  have:=Heap.lt_size (I2.pin p hp).1
  rw [z] at this
  exact absurd (Nat.lt_of_lt_of_le this hC) (Nat.lt_irrefl _)
 have Ip:Inv X (pins++[(C,oC)]) σ H' s':=I'.pins_of fun p hp=>by
  rcases List.mem_append.mp hp with z | z
  ·exact I'.pin p (List.mem_append_right _ z)
  ·have e:p=(C,oC):=by simpa using z
   subst e
   exact ⟨eC,hHC,nL,nF,fun v z=>by rw [dC] at z; cases z⟩
 refine cx (cf (pos:=py) hN hy hx hf _ s' σ H' (.ref D) (.ref D) (fun σ' H''=>σ' = σ.set i (some (.ref D))/\H''=H'/\DE.nx σ' H'') Ip rfl ⟨rfl,rfl,q⟩) fun _ s'' ⟨σ'',H'',I'',e1,e2,q''⟩=>?_
 subst e1 e2
 have eC'':s''.heap.get? C=some oC:=(I''.pin (C,oC) (List.mem_append_right _ (List.mem_append_right _ (by simp)))).1
 refine ⟨m,⟨oC,es,ep,eC'',dC,rC⟩,fun h' hs'=>⟨_,H'',?_,q''⟩⟩
 exact I''.unpinned.turned (t':=s''.toks) (it:=C) (fun b o hb e=>hs'.extBut b o hb e) hHC nL (.inr (Nat.le_trans I2.sz hC)) nCell nPin
end
noncomputable def ip (t:D->Option Bool) (f:D->Option D):List D->Option (List D)
 | []=>some []
 | d::ds=>(t d).bind fun b=>if b=true then (f d).bind fun e=>(ip t f ds).bind fun es=>some (e::es) else ip t f ds
@[simp] theorem KZ {t:D->Option Bool} {f:D->Option D}:ip t f []=some []:=rfl
noncomputable def ij (fi:Dv->Option (List D)) (caps:List (Nat×Str)) (bv:D->Option (List D)) (ft:Dv->Option Bool) (fe:Dv->Option D):Dv->Option D:=fun δ=>(fi δ).bind fun ds=>if ds.length<=sizeLine then (ip (fun d=>(bv d).bind fun vs=>ft (vs.map .fz++capS δ caps)) (fun d=>(bv d).bind fun vs=>fe (vs.map .fz++capS δ caps)) ds).bind fun es=>some (.list es) else none
theorem lZ {t:D->Option Bool} {f:D->Option D}:∀ {ds es:List D} {i:Nat} {d:D},ip t f ds=some es->ds[i]? = some d->∃ xs,ip t f (ds.take i)=some xs/\∃ b,t d=some b/\(b=false->ip t f (ds.take (i+1))=some xs)/\(b=true->∃ e,f d=some e/\ip t f (ds.take (i+1))=some (xs++[e]))
 | [],es,i,d,h,q=>by simp at q
 | d::ds,es,i,d',h,q=>by
  obtain ⟨b,h1,h⟩:=bind_some h
  cases i with
  | zero=>
   simp at q; subst q
   refine ⟨[],rfl,b,h1,fun hb=>?_,fun hb=>?_⟩
   ·subst hb; simp [ip,h1]
   ·subst hb
    rw [if_pos rfl] at h
    obtain ⟨e,h2,h⟩:=bind_some h
    exact ⟨e,h2,by simp [ip,h1,h2]⟩
  | succ i=>
   simp at q
   cases b with
   | false=>
    rw [if_neg (by decide)] at h
    obtain ⟨xs,g1,b',g2,g3,g4⟩:=lZ (i:=i) h q
    refine ⟨xs,by simp [ip,h1,g1],b',g2,fun hb=>by simpa [ip,h1] using g3 hb,fun hb=>?_⟩
    obtain ⟨e,k1,k2⟩:=g4 hb
    exact ⟨e,k1,by simpa [ip,h1] using k2⟩
   | true=>
    rw [if_pos rfl] at h
    obtain ⟨e0,h2,h⟩:=bind_some h
    obtain ⟨es',h3,h⟩:=bind_some h
    obtain ⟨xs,g1,b',g2,g3,g4⟩:=lZ (i:=i) h3 q
    refine ⟨e0::xs,by simp [ip,h1,h2,g1],b',g2,fun hb=>by simp [ip,h1,h2,g3 hb],fun hb=>?_⟩
    obtain ⟨e,k1,k2⟩:=g4 hb
    exact ⟨e,k1,by simp [ip,h1,h2,k2]⟩
theorem rY {t:D->Option Bool} {f:D->Option D}:∀ {ds es:List D},ip t f ds=some es->es.length<=ds.length
 | [],es,h=>by cases h; exact Nat.le_refl _
 | d::ds,es,h=>by
  obtain ⟨b,h1,h⟩:=bind_some h
  cases b with
  | false=>rw [if_neg (by decide)] at h; exact Nat.le_succ_of_le (rY h)
  | true=>
   rw [if_pos rfl] at h
   obtain ⟨e0,h2,h⟩:=bind_some h
   obtain ⟨es',h3,h⟩:=bind_some h
   cases h
   exact Nat.succ_le_succ (rY h3)
section
variable {X:Cx} {scope:Scope} {vars:List Str} {caps:List (Nat×Str)} {elt tg iter cnd:Expr} {pos:Pos} {g:TG} {fi:Dv->Option (List D)} {ft:Dv->Option Bool} {fe:Dv->Option D} {bv:D->Option (List D)}
theorem o0 (tk:wU X.K g vars.length bv) {σ:St} {H:Hp} {Q:VK} (h:tV X.K (ij fi caps bv ft fe) σ H Q):vz (LZ X.K fi) g (IJ X.K ft) (tV X.K fe) vars caps σ H Q:=by
 obtain ⟨H₀,Z₀,Z,δ,d,hh,e,k⟩:=h
 obtain ⟨ds,e1,e⟩:=bind_some e
 by_cases hz:ds.length<=sizeLine
 ·rw [if_pos hz] at e
  obtain ⟨es,e2,e⟩:=bind_some e
  cases e
  have hv:vars.map (fun _=>(none:Option V))=List.replicate vars.length none:=by rw [List.map_const']
  refine ⟨H₀,Z₀,Z,δ,ds,hh,e1,fun J Z1 H1 hh1 t1 ok=>?_⟩
  refine ⟨fun i m ys H=>m=ds.length-i/\i<=ds.length/\∃ Zc xs,Hold X.K H₀ Z₀ Zc δ σ H/\Same Z1 Zc/\ip (fun d=>(bv d).bind fun vs=>ft (vs.map .fz++capS δ caps)) (fun d=>(bv d).bind fun vs=>fe (vs.map .fz++capS δ caps)) (ds.take i)=some xs/\Reps X.K Zc ys xs,⟨ds.length,by simp,Nat.zero_le _,Z1,[],hh1,Same.refl _,rfl,.nil⟩,?_⟩
  rintro i m ys H2 ⟨rfl,hi2,Zc,xs,hhc,tc,fx,rc⟩
  have zh:Same Z1 H2:=tc.trans hhc.zh
  have ly:=rc.length
  have lx:=rY fx
  rw [List.length_take] at lx
  by_cases hlt:i<ds.length
  ·refine .inr ⟨ok.go i H2 zh hlt,by omega,fun x H3 y=>?_⟩
   have ed:ds[i]? = some ds[i]:=by simp [hlt]
   obtain ⟨rfl,rx⟩:=ok.yld i H2 x H3 _ zh ed y
   obtain ⟨xs',f0,b,fb,ff,ftr⟩:=lZ e2 ed
   rw [fx] at f0
   cases f0
   obtain ⟨vs,f3,f1⟩:=bind_some fb
   rw [hv]
   refine tk x Zc ds[i] vs (gQ σ caps) H3 _ (rx.same tc) hhc.zh f3 fun us ru hn=>⟨⟨by simp [hn],fun j v q=>?_⟩,?_⟩
   ·by_cases hj:j<vars.length
    ·rw [List.getElem?_append_left (by simpa using hj),List.getElem?_replicate] at q
     split at q <;> cases q
    ·rw [List.getElem?_append_right (by simpa using hj)] at q
     rw [List.getElem?_append_right (by simpa [hn] using hj)]
     simpa [hn] using q
   ·refine ⟨H3,Zc,Zc,_,b,u6 hhc ru,f1,fun Z3 H3' h3 t3=>?_⟩
    have hh3:=hhc.new ⟨t3,h3.h0,h3.zh,h3.zb,h3.nf⟩
    cases b with
    | false=>
     dsimp only
     rw [if_neg (by decide)]
     exact ⟨ds.length-(i+1),by omega,rfl,hlt,Z3,xs,hh3,tc.trans t3,ff rfl,rc.same t3⟩
    | true=>
     dsimp only
     rw [if_pos rfl]
     obtain ⟨ei,f2,f4⟩:=ftr rfl
     rw [f3] at f2
     refine ⟨H3,Zc,Z3,_,ei,h3,f2,fun v Z4 H4 h4 t4 r4=>⟨ds.length-(i+1),by omega,rfl,hlt,Z4,xs++[ei],?_,(tc.trans t3).trans t4,f4,((rc.same t3).same t4).append (.cons r4 .nil)⟩⟩
     exact hhc.new ⟨t3.trans t4,h4.h0,h4.zh,h4.zb,h4.nf⟩
  ·have hie:i=ds.length:=by omega
   subst hie
   refine .inl ⟨ok.stop _ H2 zh (Nat.le_refl _),by omega,fun p hp=>?_⟩
   rw [List.take_length,e2] at fx
   cases fx
   have n:=New.add hhc.zh hp (.lst ys)
   exact k _ _ _ (hhc.new n) ((t1.trans tc).trans n.z) (.lst (SqL.of aQ) (rc.same n.z))
 ·rw [if_neg hz] at e; cases e
theorem oX (B:BlkOk X.env.scope.names X.N scope vars caps) (hc:X.calm=true) (hi:IV X tg iter fi) (tk:wU X.K g vars.length bv)
  (hg:∀ C s₀ H₀ ex,PG (dA X scope (vars++caps.map (·.2)) C s₀ H₀ ex) tg g) (hb:∀ C s₀ H₀ ex,TV (dA X scope (vars++caps.map (·.2)) C s₀ H₀ ex) cnd ft) (he:∀ C s₀ H₀ ex,EV (dA X scope (vars++caps.map (·.2)) C s₀ H₀ ex) elt fe) (hs:∀ x,foldedSetIterable iter X.env x=pure x:=by intro _; rfl) :
  EV X (.ListComp elt [⟨tg,iter,[cnd],0⟩] scope pos) (ij fi caps bv ft fe):=
 PE.imp (AO (tt:=IJ X.K ft) (te:=tV X.K fe) B hc hi hg hb he hs) fun _ _ _ h=>o0 tk h
theorem Ak (i:Nat) {y:Str} {py spos:Pos} (hN:X.N.Nodup) (B:BlkOk X.env.scope.names X.N scope vars caps) (hc:X.calm=true) (hi:IV X tg iter fi) (tk:wU X.K g vars.length bv)
  (hg:∀ C s₀ H₀ ex,PG (dA X scope (vars++caps.map (·.2)) C s₀ H₀ ex) tg g) (hb:∀ C s₀ H₀ ex,TV (dA X scope (vars++caps.map (·.2)) C s₀ H₀ ex) cnd ft) (he:∀ C s₀ H₀ ex,EV (dA X scope (vars++caps.map (·.2)) C s₀ H₀ ex) elt fe)
  (hy:X.N[i]? = some y:=by rfl) (hx:Cw X.env.scope y:=by first | exact Or.inl rfl | exact Or.inr rfl) (hsw:swapsWith (.ListComp elt [⟨tg,iter,[cnd],0⟩] scope pos) (some (.Name y py)) spos.line X.env=pure true:=by rfl)
  (hf:X.fn y=true\/X.env.scope.names.lookup y=some .local:=by first | exact .inl rfl | exact .inr rfl | assumption) (hs:∀ x,foldedSetIterable iter X.env x=pure x:=by intro _; rfl) :
  SV X (.Assign [.Name y py] (.ListComp elt [⟨tg,iter,[cnd],0⟩] scope pos) spos) (bc i (ij fi caps bv ft fe)):=
 PS.imp (AE (tt:=IJ X.K ft) (te:=tV X.K fe) B hc hi hg hb he hN hy hx hsw hf hs) fun D σ H h=>by
  obtain ⟨H₀,Z₀,Z,δ,r,hh,e,k⟩:=h
  obtain ⟨x,e1,e⟩:=bind_some e
  cases e
  exact o0 tk ⟨H₀,Z₀,Z,δ,x,hh,e1,fun v Z1 H1 hh1 s1 r1=>k _ H1 Z1 (hh1.set r1) s1⟩
end
end VL
namespace VL
open PySem PySem.Spec PyProof.Rows L2
noncomputable def yW (f1 f2 f3:Dv->Option D) (g g':D->D->Option D):Dv->Option D:=fun δ=>(f1 δ).bind fun a=>(f2 δ).bind fun b=>(g a b).bind fun r=>(asB r).bind fun k=>if k=true then (f3 δ).bind fun c=>g' b c else some (.bool false)
section
variable {X:Cx} {a b c:Expr} {pos:Pos} {f1 f2 f3:Dv->Option D}
theorem wG {K:Fg} {g g':D->D->Option D} {σ:St} {H:Hp} {Q:VK} (h:tV K (yW f1 f2 f3 g g') σ H Q):Ac (rD K g) (rD K g') (tV K f1) (tV K f2) (tV K f3) σ H Q:=by
 obtain ⟨H₀,Z₀,Z,δ,d,hh,e,k⟩:=h
 obtain ⟨x,e1,ea⟩:=bind_some e
 obtain ⟨y,e2,eb⟩:=bind_some ea
 obtain ⟨r,e3,ec⟩:=bind_some eb
 obtain ⟨kk,e4,ed⟩:=bind_some ec
 clear e ea eb ec
 have er:=sG e4
 subst er
 refine ⟨H₀,Z₀,Z,δ,x,hh,e1,fun v1 Z1 H1 hh1 s1 r1=>⟨H₀,Z₀,Z1,δ,y,hh1,e2,fun v2 Z2 H2 hh2 s2 r2=>?_⟩⟩
 refine ⟨Z2,x,y,_,hh2.zh,r1.same s2,r2,e3,fun v3 Z3 H3 n r3=>⟨kk,r3.bl_eq,?_⟩⟩
 cases kk with
 | true=>
  rw [if_pos rfl] at ed ⊢
  obtain ⟨z,e5,e⟩:=bind_some ed
  refine ⟨H₀,Z₀,Z3,δ,z,hh2.new n,e5,fun v4 Z4 H4 hh4 s4 r4=>⟨Z4,y,z,d,hh4.zh,(r2.same n.z).same s4,r4,e,fun v5 Z5 H5 n5 r5=>?_⟩⟩
  exact k v5 Z5 H5 (hh4.new n5) ((((s1.trans s2).trans n.z).trans s4).trans n5.z) r5
 | false=>
  rw [if_neg (by decide)] at ed ⊢
  cases ed
  exact k _ Z3 H3 (hh2.new n) ((s1.trans s2).trans n.z) (.bl _)
theorem zY {op op':CmpOp} {g g':D->D->Option D} (ho:OpR X (compareOp op) (rD X.K g)) (ho':OpR X (compareOp op') (rD X.K g')) (ha:EV X a f1) (hb:EV X b f2) (hc:EV X c f3)
  (hm:lastMarks [op,op'] [b,c]=false:=by with_unfolding_all rfl):TV X (.Compare a [op,op'] [b,c] pos) (ob (yW f1 f2 f3 g g')):=
 PT.imp (AA ho ho' ha hb hc hm) fun _ _ _ h=>wG (LU h)
end
noncomputable def BR:D->Bool
 | .none=>true
 | .bool _=>true
 | .int _=>true
 | .str _=>true
 | _=>false
noncomputable def xP (x:D) (ds:List D):Bool:=ds.any fun y=>PyData.eqv y x
noncomputable def fN (neg:Bool):D->D->Option D:=fun a b=>(fG b).bind fun ds=>if BR a=true/\ds.all BR=true then some (.bool (if neg=true then !xP a ds else xP a ds)) else none
theorem Rep.flat {K:Fg} {Z:Hp} {v:V} {d:D} (r:Rep K Z v d):gC v=BR d:=by cases r <;> rfl
theorem Rep.eqF {K:Fg} {Z:Hp} {v u:V} {d e:D} (r:Rep K Z v d) (q:Rep K Z u e) (h1:BR d=true) (h2:BR e=true):C0 v u=PyData.eqv d e:=by
 cases r <;> first | (cases q <;> first | rfl | cases h2) | cases h1
theorem Reps.allF {K:Fg} {Z:Hp}:∀ {vs:List V} {ds:List D},Reps K Z vs ds->vs.all gC=ds.all BR
 | _,_,.nil=>rfl
 | _,_,.cons r t=>by rw [List.all_cons,List.all_cons,r.flat,t.allF]
theorem Reps.inF {K:Fg} {Z:Hp} {x:V} {a:D} (q:Rep K Z x a) (h:BR a=true):∀ {vs:List V} {ds:List D},Reps K Z vs ds->ds.all BR=true->LC x vs=xP a ds
 | _,_,.nil,_=>rfl
 | _,_,.cons r t,f=>by
  rw [List.all_cons,Bool.and_eq_true] at f
  show (C0 _ x||LC x _)=(PyData.eqv _ a||xP a _)
  rw [r.eqF q f.1 h,t.inF q h f.2]
theorem ES {K:Fg} {neg:Bool} {x y:V} {H:Hp} {Q:VK} (h:rD K (fN neg) x y H Q):Ms K neg x y H Q:=by
 obtain ⟨Z,a,b,d,zh,ra,rb,e,k⟩:=h
 obtain ⟨ds,e1,e⟩:=bind_some e
 by_cases c:BR a=true/\ds.all BR=true
 ·rw [if_pos c] at e
  cases e
  have go:∀ (xs:List V),Reps K Z xs ds->(∃ p,y=.ref p/\(SqL K H p xs\/SqT K H p xs))->Ms K neg x y H Q:=fun xs r ⟨p,ey,hq⟩=>by
   refine ⟨p,xs,ey,hq,by rw [ra.flat]; exact c.1,by rw [r.allF]; exact c.2,?_⟩
   have:=r.inF ra c.1 c.2
   rw [this]
   exact k _ Z H (New.refl zh) (.bl _)
  cases rb with
  | lst h q=>cases e1; exact go _ q ⟨_,rfl,.inl (SqL.same h zh)⟩
  | tup h q=>cases e1; exact go _ q ⟨_,rfl,.inr (SqT.same h zh)⟩
  | _=>cases e1
 ·rw [if_neg c] at e; cases e
theorem sf {X:Cx}:OpR X (compareOp .In) (rD X.K (fN false)):=OpR.imp yL fun _ _ _ _ h=>ES h
noncomputable def gT:List (D->Dv->Option Dv)->List D->Dv->Option Dv
 | [],[],δ=>some δ
 | g::gs,d::ds,δ=>(g d δ).bind fun δ1=>gT gs ds δ1
 | _,_,_=>none
noncomputable def OP (gs:List (D->Dv->Option Dv)):D->Dv->Option Dv
 | .tuple ds,δ=>gT gs ds δ
 | _,_=>none
@[simp] theorem M1 (δ:Dv):gT [] [] δ = some δ:=rfl
@[simp] theorem LH (g:D->Dv->Option Dv) (gs:List (D->Dv->Option Dv)) (d:D) (ds:List D) (δ:Dv):gT (g::gs) (d::ds) δ = (g d δ).bind fun δ1=>gT gs ds δ1:=rfl
@[simp] theorem LG (gs:List (D->Dv->Option Dv)) (ds:List D) (δ:Dv):OP gs (.tuple ds) δ = gT gs ds δ:=rfl
noncomputable def wN:Nat:=1000000
theorem ju {t:Dv->Option Bool} {b:Sf}:∀ {n m:Nat} {δ:Dv} {r:Fl×Dv},gS t b n δ = some r->n<=m->gS t b m δ = some r
 | 0,_,_,_,h,_=>by cases h
 | n+1,0,_,_,_,hm=>by omega
 | n+1,m+1,δ,r,h,hm=>by
  have hm:n<=m:=by omega
  obtain ⟨c,h1,h⟩:=bind_some h
  show ((t δ).bind fun c=>_)=_
  rw [h1,Option.bind_some]
  cases c with
  | false=>exact h
  | true=>
   rw [if_pos rfl] at h ⊢
   obtain ⟨⟨fl,δ2⟩,h2,h⟩:=bind_some h
   rw [h2,Option.bind_some]
   cases fl with
   | nx=>exact ju h hm
   | ct=>exact ju h hm
   | bk=>exact h
   | rt d=>exact h
theorem vp {t:Dv->Option Bool} {b:Sf} {δ:Dv} (n:Nat) (h:t δ = some false):gS t b (n+1) δ = some (.nx,δ):=by
 show ((t δ).bind fun c=>_)=_
 rw [h]; rfl
theorem zS {t:Dv->Option Bool} {b:Sf} {δ δ2:Dv} {r:Fl×Dv} (n:Nat) (h:t δ = some true) (h2:b δ = some (.nx,δ2)) (h3:gS t b n δ2=some r):gS t b (n+1) δ = some r:=by
 show ((t δ).bind fun c=>_)=_
 rw [h,Option.bind_some,if_pos rfl,h2,Option.bind_some]
 exact h3
theorem eG {g:D->Dv->Option Dv} {b:Sf} {d:D} {ds:List D} {δ δ1 δ2:Dv} (h1:g d δ = some δ1) (h2:b δ1=some (.nx,δ2)):loop g b (d::ds) δ = loop g b ds δ2:=by
 show ((g d δ).bind fun δ1=>_)=_
 rw [h1,Option.bind_some,h2]; rfl
theorem Bj {g:D->Dv->Option Dv} {b:Sf} {d x:D} {ds:List D} {δ δ1 δ2:Dv} (h1:g d δ = some δ1) (h2:b δ1=some (.rt x,δ2)):loop g b (d::ds) δ = some (.rt x,δ2):=by
 show ((g d δ).bind fun δ1=>_)=_
 rw [h1,Option.bind_some,h2]; rfl
theorem Gp {X:Cx} {ss:List Stmt}:BV X ss (fun _=>none):=fun pins s σ H D I h=>by
 obtain ⟨_,_,_,_,_,_,e,_⟩:=h
 cases e
end VL
namespace VL
open PySem PySem.Spec PyProof.Rows L2
def tO (K:Fg) (f:Dv->Option (List D)):TE:=fun σ H Q=>∃ H₀ Z₀ Z δ ds,Hold K H₀ Z₀ Z δ σ H/\f δ = some ds/\∀ p vs Z' H',Hold K H₀ Z₀ Z' δ σ H'->Same Z Z'->H' p=none->Reps K Z' vs ds->Q (.ref p) (upd H' p (.lst vs))
def EO (X:Cx) (e:Expr) (f:Dv->Option (List D)):Prop:=PE X e (tO X.K f)
noncomputable def MB (f:Dv->Option D):Dv->Option (List D):=fun δ=>(f δ).bind Bg
@[simp] noncomputable def NL (i:Nat) (f:Dv->Option (List D)):Sf:=fun δ=>(f δ).bind fun ds=>some (.nx,δ.set i (.ow ds))
noncomputable def yz (t:Sf):Fl×Dv->Option (Fl×Dv)
 | (.nx,δ)=>t δ
 | r=>some r
@[simp] theorem Lq (t:Sf) (δ:Dv):yz t (.nx,δ)=t δ:=rfl
@[simp] theorem Lp (t:Sf) (d:D) (δ:Dv):yz t (.rt d,δ)=some (.rt d,δ):=rfl
@[simp] theorem Ls (t:Sf) (δ:Dv):yz t (.bk,δ)=some (.bk,δ):=rfl
@[simp] theorem Lr (t:Sf) (δ:Dv):yz t (.ct,δ)=some (.ct,δ):=rfl
noncomputable def LE (u w:Sf) (δ:Dv):Bool->Option (Fl×Dv)
 | true=>u δ
 | false=>w δ
@[simp] theorem NX (u w:Sf) (δ:Dv):LE u w δ true=u δ:=rfl
@[simp] theorem NY (u w:Sf) (δ:Dv):LE u w δ false=w δ:=rfl
theorem aq (s t:Sf) (δ:Dv):sSeq s t δ = (s δ).bind (yz t):=by
 unfold sSeq yz
 congr 1
theorem aC (t:Dv->Option Bool) (u w:Sf) (δ:Dv):sIf t u w δ = (t δ).bind (LE u w δ):=by
 unfold sIf
 congr 1
 funext c
 cases c <;> rfl
end VL
namespace VL
open PySem PySem.Spec PyProof.Rows L2
noncomputable def sk:List D->Option (List Bool)
 | []=>some []
 | .bool b::r=>(sk r).map (b :: ·)
 | _=>none
noncomputable def zL:List D->Option D
 | [.list xs]=>(sk xs).map fun bs=>.bool (bs.all id)
 | _=>none
theorem u5 {α:Type} (f:α -> Bool):∀ xs:List α,sk (xs.map fun a=>.bool (f a))=some (xs.map f)
 | []=>rfl
 | a::r=>by simp [sk,u5 f r]
theorem vf {α:Type} (f:α -> Bool) (xs:List α):zL [.list (xs.map fun a=>.bool (f a))]=some (.bool (xs.all f)):=by
 simp [zL,u5,List.all_map]
noncomputable def JI:D->Option D
 | .list xs=>some (.list xs.reverse)
 | _=>none
@[simp] theorem GO (xs:List D):JI (.list xs)=some (.list xs.reverse):=rfl
noncomputable def JJ:D->Option (List D)
 | .list xs=>some xs.reverse
 | .tuple xs=>some xs.reverse
 | _=>none
@[simp] theorem IM (xs:List D):JJ (.list xs)=some xs.reverse:=rfl
@[simp] theorem GP (xs:List D):JJ (.tuple xs)=some xs.reverse:=rfl
@[simp] noncomputable def NM:Sf:=fun _=>none
@[simp] noncomputable def Ox (i:Nat) (f:Dv->Option D):Sf:=fun δ=>(f δ).bind fun v=>(fG v).bind fun es=>(Cy δ[i]?).bind fun ds=>if ds.length+es.length<=sizeLine then some (.nx,δ.set i (.ow (ds++es))) else none
section
variable {X:Cx} {e:Expr} {es:List Expr} {p pos tpos apos:Pos} {f:Dv->Option D} {st:Stmt}
theorem x9 {K:Fg} {Z:Hp}:∀ {xs:List V} {ds:List D} {bs:List Bool} {its:List Value},Reps K Z xs ds->Vals xs its->sk ds=some bs->its.length=bs.length/\∀ (i:Nat) (v:Value),its[i]? = some v->∃ b,bs[i]? = some b/\v=.bool b
 | _,_,bs,_,.nil,.nil,h=>by cases h; exact ⟨rfl,fun i v q=>by simp at q⟩
 | _,_,bs,_,.cons r t,.cons q u,h=>by
  cases r with
  | bl b=>
   unfold sk at h
   cases g:sk _ with
   | none=>rw [g] at h; cases h
   | some cs=>
    rw [g] at h
    cases h
    obtain ⟨h1,h2⟩:=x9 t u g
    refine ⟨by simp [h1],fun i v e=>?_⟩
    cases i with
    | zero=>simp at e; subst e; exact ⟨b,rfl,q⟩
    | succ i=>simp at e; simpa using h2 i v e
  | _=>cases h
theorem Go (hc:X.calm=true):CallR X (.builtin "all") (Cz X.K zL):=by
 intro pins s σ H xs us Q I rs q
 obtain ⟨Z,as,d,zh,ra,e,k⟩:=q
 cases ra with
 | nil=>cases e
 | cons r1 r2=>
  cases r2 with
  | cons _ _=>cases r1 <;> cases e
  | nil=>
   cases r1 with
   | @lst l ys ds h1 q1=>
    have e:(sk ds).map (fun bs=>PyData.bool (bs.all id))=some d:=e
    cases g:sk ds with
    | none=>rw [g] at e; cases e
    | some bs=>
     rw [g] at e
     cases e
     obtain ⟨u,rfl,ru⟩:=nJ rs
     cases ru
     obtain ⟨its,rv,pl,hz⟩:=I.list (SqL.same h1 zh)
     obtain ⟨hlen,hget⟩:=x9 q1 rv g
     have hl:=pl.isList
     have hlt:l<s.heap.objs.size:=by obtain ⟨_,e,_⟩:=hl; exact Heap.lt_size e
     refine call_all_walk (wpAny_pyIter_list hl ?_)
     refine ⟨s.heap.objs.size,[s.heap.objs.size,l],[s.heap.objs.size],its.toArray.size,_,_,fun i=>(bs[i]?).getD true,rfl,Walks.list (A:=X.A.in1) (I.ok.hd hc) _ l (Nat.ne_of_lt hlt) its.toArray,
      ⟨⟨_,Heap.get?_push_size _ rfl,rfl,rfl⟩,hl.push _⟩,fun i v s' Q' E' hP hQ=>?_,fun h' tk hk=>?_⟩
     ·obtain ⟨b,e,rfl⟩:=hget i v (by simpa using hP)
      simp only [e,Option.getD_some] at hQ
      exact wpAny_truthy_bool hQ
     ·have e:((List.range its.toArray.size).all fun i=>(bs[i]?).getD true)=bs.all id:=by
       rw [List.size_toArray,hlen]; exact LSm.range_all bs
      rw [e]
      exact ⟨.bl _,H,I.kept (t':=tk) (LSm.kept_iter hk),rfl,k _ Z H (New.refl zh) (.bl _)⟩
   | _=>cases e
theorem Jw {st:Stmt}:SV X st NM:=fun pins s σ H D I h=>by
 obtain ⟨_,_,_,_,_,_,e,_⟩:=h
 cases e
end
end VL
namespace VL
open PySem PySem.Spec PyProof.Rows L2
end VL
namespace VL
open PySem PySem.Spec PyProof.Rows L2
noncomputable def Mm:D->Option (List D)
 | .tuple xs=>some xs.reverse
 | _=>none
@[simp] theorem GM (xs:List D):Mm (.tuple xs)=some xs.reverse:=rfl
end VL
namespace VL
open PySem PySem.Spec PyProof.Rows L2
def F2 (h:Heap) (e:Addr):Prop:=∃ oe vs,h.get? e=some oe/\oe.data=.fields vs/\vs[2]? = some .none
def Nq (base:Heap) (l:List Env) (e:Addr) (cls a0:Value) (h:Heap):Prop:=Heap.FlyingW base l e cls a0 h/\F2 h e
end VL
namespace VL
open PySem PySem.Spec PyProof.Rows L2
noncomputable def dR (n:Str):D:=.dict [(.str "fn",.str n)]
abbrev Xf:=Dv->Option (Str×Dv)
@[simp] noncomputable def OU:Xf:=fun _=>none
@[simp] noncomputable def LO (n:Str) (f:Dv->Option D):Xf:=fun δ=>(f δ).bind fun _=>some (n,δ)
@[simp] noncomputable def xE (f:Dv->Option Str):Xf:=fun δ=>(f δ).bind fun n=>some (n,δ)
@[simp] noncomputable def OW (t:Dv->Option Bool) (u w:Xf):Xf:=fun δ=>(t δ).bind fun c=>if c=true then u δ else w δ
@[simp] noncomputable def LN (s:Sf) (u:Xf):Xf:=fun δ=>(s δ).bind fun r=>match r with
 | (.nx,δ')=>u δ'
 | _=>none
@[simp] noncomputable def Nz (u1:Xf) (s:Sf) (u:Xf):Xf:=fun δ=>match u1 δ with
 | some r=>some r
 | none=>LN s u δ
@[simp] noncomputable def OZ (fs:Dv->Option (List D)) (g:List D->Option Str):Dv->Option Str:=fun δ=>(fs δ).bind g
structure Thrown (P:Program) (w:World) (outer:List Env) (H:Hp) (s:Shared) (x C:Addr) (H':Hp) (s':Shared):Prop where
 os:s'.os=s.os
 bare:AllBare s'.gens
 un:Un (xQ outer) [] H H' s.heap s'.heap
 hok:HOk P w H' s'.heap
 sm:Same H H'
 is:H' x=some (M5 x C)
 fly:∃ B t,Nq B outer x (.ref C) t s'.heap/\(∀ b o,H' b=some o->b≠x->∃ ob,B.get? b=some ob)/\(∀ b o,s.heap.get? b=some o->H b=none->b ∉ xQ outer->B.get? b=some o)
end VL
namespace VL
open PySem PySem.Spec PyProof.Rows L2
end VL
namespace VL
open PySem PySem.Spec PyProof.Rows L2
end VL
namespace VL
open PySem PySem.Spec PyProof.Rows L2
theorem kq {H H':Hp} {b:Addr} (s:Same H H') (h:H' b=none):H b=none:=by
 cases e:H b with
 | none=>rfl
 | some o=>rw [s b o e] at h; cases h
inductive Flung (m:Bool) (X:Cx) (n:Str) (Z H:Hp) (s:Shared) (e:Value) (s':Shared):Prop
 | made {x C:Addr} {vs:List Value}:m=true->PySem.W.nsIn X.K mainGlobals n=some (some (.ref C))->e=.ref x->s'={ s with heap:=s'.heap }->Heap.MadeExcOf s.heap s'.heap x (.ref C) vs->Flung m X n Z H s e s'
 | thrown {x C:Addr} {H' Z':Hp}:PySem.W.nsIn X.K mainGlobals n=some (some (.ref C))->e=.ref x->Thrown X.prog X.w X.stack H s x C H' s'->New Z H Z' H'->Z' x=some (M5 x C)->H x=none->Flung m X n Z H s e s'
def Oj (m:Bool) (X:Cx) (f:Xf):TS:=fun _ σ H=>∃ H₀ Z₀ Z δ r,Hold X.K H₀ Z₀ Z δ σ H/\f δ = some r/\∀ pins σ' H' Z' s e s',Hold X.K H₀ Z₀ Z' r.2 σ' H'->Same Z Z'->Inv X pins σ' H' s->Flung m X r.1 Z' H' s e s'->X.xe e s'
def SX (m:Bool) (X:Cx) (st:Stmt) (f:Xf):Prop:=PS X st (Oj m X f)
end VL
namespace VL
open PySem PySem.Spec PyProof.Rows L2
end VL
namespace VL
open PySem PySem.Spec PyProof.Rows L2
noncomputable def pM:Sl->Bool
 | .own _=>true
 | _=>false
@[simp] theorem Ly (d:D):pM (.fz d)=false:=rfl
@[simp] theorem Lx:pM .un=false:=rfl
noncomputable def yw:Nat->Dv->Bool
 | _,[]=>true
 | 0,_::r=>r.all fun s=>!pM s
 | n+1,s::r=>!pM s&&yw n r
@[simp] theorem IK (s:Sl) (r:Dv):yw 0 (s::r)=r.all fun s=>!pM s:=rfl
@[simp] theorem IL (n:Nat) (s:Sl) (r:Dv):yw (n+1) (s::r)=(!pM s&&yw n r):=rfl
noncomputable def jo (i:Nat) (ft:Dv->Option Bool):Dv->Option Bool:=fun δ=>if yw i δ = true then ft (dFz i δ) else none
theorem tu:∀ (i:Nat) (δ:Dv),yw i δ = true->∀ (j:Nat) (ds:Oc),δ[j]? = some (.own ds)->j=i
 | _,[],_,j,ds,e=>by simp at e
 | 0,s::r,h,0,ds,e=>rfl
 | 0,s::r,h,j+1,ds,e=>by
  have:=List.all_eq_true.mp h (.own ds) (List.mem_of_getElem? (by simpa using e))
  cases this
 | i+1,s::r,h,0,ds,e=>by
  have h:=(Bool.and_eq_true_iff.mp h).1
  have e:s=.own ds:=by simpa using e
  subst e; cases h
 | i+1,s::r,h,j+1,ds,e=>congrArg (· + 1) (tu i r (Bool.and_eq_true_iff.mp h).2 j ds (by simpa using e))
theorem Dc {X:Cx} {e:Expr} {ft:Dv->Option Bool} (i:Nat) (h:TV X e ft):TV X e (jo i ft):=
 PT.imp h fun σ H Q q=>by
  obtain ⟨H₀,Z₀,Z,δ,b,hh,e,k⟩:=q
  unfold jo at e
  split at e
  rotate_left
  ·cases e
  rename_i hso
  unfold dFz at e
  split at e
  ·rename_i ds q
   obtain ⟨a,xs,h1,h2,h3,h4,h5⟩:=hh.ow i ds q
   have hl:i < δ.length:=(List.getElem?_eq_some_iff.mp q).1
   have sz:Same Z (upd Z a (.lst xs)):=fP h3
   have hh1:Hold X.K H₀ Z₀ (upd Z a (.lst xs)) (δ.set i (.fz (.list ds))) σ H:=by
    refine ⟨fun b o q=>?_,hh.h0,hh.z0.trans sz,fun b hb=>?_,by simp [hh.len],fun j d q=>?_,fun j d q=>?_,fun j k d1 d2 b hjk q1 q2=>?_,(hh.fr.same sz).put (fun _ z=>nomatch z) fun _ _=>rfl,hh.nf.upd a⟩
    ·by_cases hb:b=a
     ·subst hb; rw [aQ] at q; cases q; exact h4
     ·rw [aU hb] at q; exact hh.zh b o q
    ·rw [aU (fun z=>hb (by rw [z]; exact h2))]; exact hh.zb b hb
    ·by_cases hj:i=j
     ·subst hj
      rw [List.getElem?_set_self hl] at q
      cases q
      exact ⟨.ref a,h1,.lst (SqL.of aQ) (h5.same sz)⟩
     ·rw [List.getElem?_set_ne hj] at q
      obtain ⟨v,g1,g2⟩:=hh.fz j d q
      exact ⟨v,g1,g2.same sz⟩
    ·by_cases hj:i=j
     ·subst hj
      rw [List.getElem?_set_self hl] at q
      cases q
     ·rw [List.getElem?_set_ne hj] at q
      obtain ⟨b,ws,g1,g2,g3,g4,g5⟩:=hh.own j d q
      have:b≠a:=fun z=>by subst z; rename_i q0; exact hh.dja i j _ d b hj q0 q h1 g1
      exact ⟨b,ws,g1,g2,by rw [aU this]; exact g3,g4,g5.same sz⟩
    ·by_cases hj:i=j
     ·subst hj
      rw [List.getElem?_set_self hl] at q1
      cases q1
     ·by_cases hk:i=k
      ·subst hk
       rw [List.getElem?_set_self hl] at q2
       cases q2
      ·rw [List.getElem?_set_ne hj] at q1
       rw [List.getElem?_set_ne hk] at q2
       exact hh.dja j k d1 d2 b hjk q1 q2
   refine ⟨H₀,Z₀,_,_,b,hh1,e,fun Z2 H2 hh2 t2=>?_⟩
   have zl:Same Z (fun c=>if c=a then none else Z2 c):=fun c o q=>by
    have hc:c≠a:=bJ q h3
    show (if c=a then none else Z2 c)=some o
    rw [if_neg hc]
    exact t2 c o (sz c o q)
   have back:Hold X.K H₀ Z₀ (fun c=>if c=a then none else Z2 c) δ σ H2:=by
    refine ⟨fun b o q=>?_,hh2.h0,hh.z0.trans zl,fun b hb=>?_,hh.len,fun j d q=>?_,fun j d q=>?_,hh.dja,hh.fr.same zl,fun b o xs q=>by
     have q:(if b=a then none else Z2 b)=_:=q
     split at q
     ·cases q
     ·exact hh2.nf b o xs q⟩
    ·have q:(if b=a then none else Z2 b)=some o:=q
     split at q
     ·cases q
     ·exact hh2.zh b o q
    ·show (if b=a then none else Z2 b)=_
     rw [if_neg (fun z=>hb (by rw [z]; exact h2))]
     exact hh2.zb b hb
    ·obtain ⟨v,g1,g2⟩:=hh.fz j d q
     exact ⟨v,g1,g2.same zl⟩
    ·by_cases hj:i=j
     ·subst hj
      rename_i q0
      rw [q0] at q
      cases q
      refine ⟨a,.lst xs,h1,h2,by simp,hh2.zh a _ (t2 a _ aQ),.lst (h5.same zl)⟩
     ·exact absurd (tu i δ hso j d q) (Ne.symm hj)
   exact k _ H2 back zl
  ·exact ⟨H₀,Z₀,Z,_,b,hh,e,k⟩
end VL
namespace VL
open PySem PySem.Spec PyProof.Rows L2
@[simp] noncomputable def Nt (f:Dv->Option D) (u:Dv->Option Str):Dv->Option Str:=fun δ=>(f δ).bind fun _=>u δ
end VL
namespace VL
open PySem PySem.Spec PyProof.Rows L2
noncomputable def jH:D->Option Str
 | .dict [(.str k,.str n)]=>if k = "fn" then some n else none
 | _=>none
theorem lW (n:Str):jH (dR n)=some n:=by simp [jH,dR]
noncomputable def dE (i:Nat) (fs:Dv->Option (List D)) (tbl:List (Str×(List D->Option D))):Dv->Option D:=fun δ=>(oV i δ).bind fun d=>(jH d).bind fun n=>(tbl.lookup n).bind fun g=>(fs δ).bind g
@[simp] noncomputable def xl (i:Nat) (f:Dv->Option D):Sf:=fun δ=>(f δ).bind fun v=>(Bg v).bind fun es=>(Cy δ[i]?).bind fun ds=>if ds.length+es.length<=sizeLine then some (.nx,δ.set i (.ow (ds++es))) else none
theorem zz {d:D} {n:Str} (h:jH d=some n):d=dR n:=by
 unfold jH at h
 split at h
 ·split at h
  ·rename_i hk; subst hk; cases h; rfl
  ·cases h
 ·cases h
structure CalF (P:Program) (w:World) (K:PySem.W.Frag) (mg:Str->Option Value) (base:Heap) (x:Str) (k:Nat) (g:List D->Option D):Prop where
 ex:∃ (fa:Addr) (fd:FuncData) (ps:List Str),FnOk P w K mg base dc k fa fd ps (dG K g)/\PySem.W.nsIn K mainGlobals x=some (some (.ref fa))/\mg x=some (.ref fa)/\PySem.W.keepIn K (.ref fa)=true/\Binds K fd ps []
theorem lT {P:Program} {w:World} {K:PySem.W.Frag} {mg:Str->Option Value} {base:Heap} {k:Nat}:∀ n g,([]:List (Str×(List D->Option D))).lookup n=some g->∃ j,j<=k/\CalF P w K mg base n j g:=fun _ _ h=>by cases h
theorem je {P:Program} {w:World} {K:PySem.W.Frag} {mg:Str->Option Value} {base:Heap} {k j:Nat} {c:Str} {gc:List D->Option D} {tbl:List (Str×(List D->Option D))} (hj:j<=k) (V:CalF P w K mg base c j gc) (h:∀ n g,tbl.lookup n=some g->∃ j,j<=k/\CalF P w K mg base n j g):∀ n g,((c,gc)::tbl).lookup n=some g->∃ j,j<=k/\CalF P w K mg base n j g:=fun n g e=>by
 rw [List.lookup_cons] at e
 split at e
 ·rename_i hn
  cases e
  have:n=c:=by simpa using hn
  subst this
  exact ⟨j,hj,V⟩
 ·exact h n g e
structure Fnm (K:PySem.W.Frag) (mg:Str->Option Value) (x:Str):Prop where
 ex:∃ fa,PySem.W.nsIn K mainGlobals x=some (some (.ref fa))/\mg x=some (.ref fa)
section
variable {X:Cx} {e:Expr} {es:List Expr} {p pos:Pos} {fs:Dv->Option (List D)}
theorem kE {x:Str} (F:Fnm X.K X.mg x) (hg:Gl X x) (hdb:(x==("__debug__":Str))=false:=by decide):EV X (.Name x pos) (oC (dR x)):=by
 obtain ⟨fa,h1,h2⟩:=F.ex
 exact zA (xt (v:=.ref fa) (u:=.ref fa) hg h2 rfl hdb) fun Z=>.opq (.fn h1)
theorem hV (i:Nat) {x:Str} {k:Nat} {tbl:List (Str×(List D->Option D))} (hT:∀ n g,tbl.lookup n=some g->∃ j,j<=k/\CalF X.prog X.w X.K X.mg X.base n j g) (hr:Room k X.A) (ha:AV X (e::es) fs) (hN:X.N[i]? = some x:=by rfl) (hv:Gr X.env.scope x:=by first | exact Or.inl rfl | exact Or.inr (Or.inl rfl) | exact Or.inr (Or.inr rfl)) (hdb:(x==("__debug__":Str))=false:=by decide) (hcd:(x==("__classdict__":Str))=false:=by decide)
  (he:starEach (e::es) X.env=(false,eval e X.env)::starEach es X.env:=by rfl) (hpl:(backTo pos (starEach es X.env)).any (·.1)=false:=by rfl):EV X (.Call (.Name x p) (e::es) [] pos) (dE i fs tbl):=by
 intro pins s σ H Q I h
 obtain ⟨H₀,Z₀,Z,δ,d,hh,e0,kk⟩:=h
 unfold dE at e0
 obtain ⟨c,e1,e0⟩:=bind_some e0
 obtain ⟨n,e2,e4⟩:=bind_some e0
 obtain ⟨g,e3,e5⟩:=bind_some e4
 have:=zz e2
 subst this
 obtain ⟨v,hσ,rv⟩:=hh.read e1
 obtain ⟨j,hj,CF⟩:=hT n g e3
 obtain ⟨fa,fd,ps,F,hns,hm,hk,hb⟩:=CF.ex
 have hva:v=.ref fa:=by
  cases rv with
  | opq o=>
   cases o with
   | fn h1=>rw [hns] at h1; cases h1; rfl
   | dct h1 _=>exact absurd h1 fun z=>Fb z
 subst hva
 refine wpAny_Call_Name_kw (cx (lH hN hv hdb hcd pins s σ H (fun v' H'=>v'=.ref fa/\H'=H) I ⟨_,hσ,rfl,rfl⟩) fun u s1 hq=>?_)
 obtain ⟨v',H',I1,r1,hv',hH'⟩:=hq
 subst hv'
 subst hH'
 cases (show u=Value.ref fa from r1)
 have ht:tV X.K (os fs g) σ H' Q:=⟨H₀,Z₀,Z,δ,d,hh,e5,kk⟩
 obtain ⟨H₀',Z₀',Z',δ',xs,hh',ea,q⟩:=args ht
 refine PySem.W.callWith_K (h₀:=X.base) I1.ok.mod.kin hk (cx (ha pos pins s1 σ H' (fun vs H1=>dG X.K g (vs++[]) H1 Q E0) I1 ⟨H₀',Z₀',Z',δ',xs,hh',ea,fun vs Z1 H1 hh1 t1 r1=>?_⟩) fun us s2 ⟨vs,H1,I2,r,q2⟩=>⟨I2.kIn,Av F (hr.mono hj) hb .nil FQ I2 r q2⟩) he hpl
 show dG X.K g (vs++[]) H1 Q E0
 rw [List.append_nil]
 exact q vs Z1 H1 hh1 t1 r1
end
theorem wv (l:Addr) (items:Array Value) (n:Nat) (b:Addr) (items2:Array Value) (n2:Nat) (sl:Array (Option Value)) (hc0:¬(!items.isEmpty&&Builtin.List.listTooLong (items.size+items2.size))=true) (hc1:items.size<=sizeLine) (hs2:items.size+items2.size<=sizeLine+1) :
  Meets (Builtin.«list.extend» ⟨[.ref l,.ref b],[]⟩) (fun _ R s=>s.heap.get? l=some { cls:=.type "list",dict:=none,data:=.seq items n,slots:=#[] }/\s.heap.get? b=some { cls:=.type "list",dict:=none,data:=.seq items2 n2,slots:=sl }/\R (.ok (.ret Value.none)) { s with heap:=s.heap.update l (Obj.mapSeq fun x=>x++items2),toks:=s.toks }):=
 .of_wp fun prog w A R s h=>by
  obtain ⟨hp,g,d,tk,os⟩:=s; obtain ⟨hl,hb,h⟩:=h; have f1:=AutoSeq1.idx_int; have f2:=AutoSeq1.sub_tuple_tuple; have f3:=AutoSeq1.sub_list_list; have f4:=AutoSeq1.sub_tuple_list; have f5:=AutoSeq1.sub_list_tuple;
  have hz':(items++items2).size<=sizeLine+1:=by rw [Array.size_append]; exact hs2
  wp_walk using (wpAny_updateSeq hl rfl (hz:=hc1) (_hz':=hz')),AutoSeq1.wpAny_loadPart' hl,AutoSeq1.wpAny_loadPart' hb; exact ⟨_,rfl,h⟩
def JK (K:Fg):V->List V->Hp->VK->Prop:=fun x vs H Q=>∃ l b xs zs,x=.ref l/\vs=[.ref b]/\H l=some (.lst xs)/\SqL K H b zs/\xs.length+zs.length<=sizeLine/\Q .non (upd H l (.lst (xs++zs)))
section
variable {X:Cx}
theorem Ei:N4 X "list.extend" (JK X.K):=by
 intro pins s σ H x vs v us Q I rx rv h
 obtain ⟨l,b,xs,zs,rfl,rfl,hH,hB,hz,q⟩:=h
 cases rx
 obtain ⟨u,rfl,ru⟩:=rv.one
 cases ru
 obtain ⟨z,its,n,r,hl,e⟩:=I.lstM hH
 obtain ⟨its2,r2,⟨o2,n2,e2,hc,hd,hs⟩,z2⟩:=I.list hB
 have hl2:=r2.length
 obtain ⟨c2,d2,dt2,sl2⟩:=o2
 dsimp only at hc hd hs
 subst hc hd hs
 have hsz:its.toArray.size+its2.toArray.size<=sizeLine:=by rw [List.size_toArray,List.size_toArray]; omega
 have hlong:¬ (!its.toArray.isEmpty&&Builtin.List.listTooLong (its.toArray.size+its2.toArray.size))=true:=by
  rw [Ba hsz,Bool.and_false]
  exact Bool.false_ne_true
 refine call_meets F.slot_list_extend ⟨_,e,rfl⟩ F.entry_list_extend (F.args_list_extend_2 _ _)
  (wv l its.toArray n b its2.toArray n2 sl2 hlong (by rw [List.size_toArray]; omega) (by omega)) ⟨e,e2,?_⟩
 refine ⟨.non,_,I.lset (its':=its++its2) hH e (by simp) (r.append r2) ?_,rfl,q⟩
 rw [List.length_append]
 omega
end
section
variable {X:Cx} {e:Expr} {f:Dv->Option D} {p pos apos:Pos}
theorem qU (i:Nat) {x:Str} {cpos:Pos} (hv':EV X e f) (hN:X.N[i]? = some x:=by rfl) (hv:Gr X.env.scope x:=by first | exact Or.inl rfl | exact Or.inr (Or.inl rfl) | exact Or.inr (Or.inr rfl)) (hd:(x==("__debug__":Str))=false:=by decide) (hcd:(x==("__classdict__":Str))=false:=by decide)
  (hbase:attributeBase (.Name x p) "extend" X.env (eval (.Name x p) X.env)=eval (.Name x p) X.env:=by rfl)
  (hfew:((backTo cpos (starEach [e] X.env)).all (fun x=>!x.1)&&(backToKw cpos (keywordEach [] X.env)).all (fun x=>x.1.isSome)
   && decide ([e].length+([]:List Keyword).length+(if ([]:List Keyword).isEmpty then 0 else 1)<30))=true:=by rfl)
  (hline:(apos.endLine==cpos.line)=true:=by rfl) (hs:starEach [e] X.env=(false,eval e X.env)::starEach [] X.env:=by rfl) (hplain:(backTo cpos (starEach [] X.env)).any (·.1)=false:=by rfl)
  (hsw:swapsWith (.Call (.Attribute (.Name x p) "extend" apos) [e] [] cpos) none pos.line X.env=pure false:=by rfl):SV X (.Expr (.Call (.Attribute (.Name x p) "extend" apos) [e] [] cpos) pos) (xl i f):=
 PS.imp (xr (FP PySem.F.plainAttrs_list PySem.F.slot_list_extend PySem.F.type_list_extend Ei (lH hN hv hd hcd) (jc hv' lI hs) hbase hfew hline hs hplain) hsw) fun D σ H h=>by
  obtain ⟨H₀,Z₀,Z,δ,r,hh,e,k⟩:=h
  obtain ⟨v,e1,e⟩:=bind_some e
  obtain ⟨es,e3,e⟩:=bind_some e
  obtain ⟨ds,e2,e⟩:=bind_some e
  by_cases hl:ds.length+es.length<=sizeLine
  ·rw [if_pos hl] at e
   cases e
   cases v with
   | list es'=>
    cases e3
    obtain ⟨a,xs,h1,h4,h5⟩:=ol hh e2
    refine ⟨_,h1,.inl ⟨rfl,xs,SqL.of h4⟩,H₀,Z₀,Z,δ,_,hh,e1,fun w Z1 H1 hh1 t1 r1=>?_⟩
    obtain ⟨a',xs',g1,g4,g5⟩:=ol hh1 e2
    rw [h1] at g1
    cases g1
    cases r1 with
    | lst q1 q2=>
     exact ⟨a,_,xs',_,rfl,rfl,g4,SqL.same q1 hh1.zh,by rw [g5.length,q2.length]; exact hl,k σ _ Z1 (hh1.chg (xs:=xs') (vE e2) h1 (g5.append q2)) t1⟩
   | _=>cases e3
  ·rw [if_neg hl] at e; cases e
end
end VL
namespace VL
open PySem PySem.Spec PyProof.Rows L2
end VL
namespace VL
open PySem PySem.Spec PyProof.Rows L2
end VL
namespace VL
open PySem PySem.Spec PyProof.Rows L2
theorem ur {α:Type}:∀ {us:List α},us.length=1->∃ a,us=[a]
 | [a],_=>⟨a,rfl⟩
theorem eS {α:Type} {us:List α} (h:us.length=2):∃ a b,us=[a,b]:=by
 cases us with
 | nil=>cases h
 | cons a r=>
  obtain ⟨b,rfl⟩:=ur (Nat.succ.inj h)
  exact ⟨a,b,rfl⟩
theorem rN {α:Type} {us:List α} (h:us.length=3):∃ a b c,us=[a,b,c]:=by
 cases us with
 | nil=>cases h
 | cons a r=>
  obtain ⟨b,c,rfl⟩:=eS (Nat.succ.inj h)
  exact ⟨a,b,c,rfl⟩
theorem El {α:Type} {us:List α} (h:us.length=4):∃ a b c d,us=[a,b,c,d]:=by
 cases us with
 | nil=>cases h
 | cons a r=>
  obtain ⟨b,c,d,rfl⟩:=rN (Nat.succ.inj h)
  exact ⟨a,b,c,d,rfl⟩
theorem MH {α:Type} {us:List α} (h:us.length=5):∃ a b c d e,us=[a,b,c,d,e]:=by
 cases us with
 | nil=>cases h
 | cons a r=>
  obtain ⟨b,c,d,e,rfl⟩:=El (Nat.succ.inj h)
  exact ⟨a,b,c,d,e,rfl⟩
end VL
namespace VL
open PySem PySem.Spec PyProof.Rows L2
end VL
namespace VL
open PySem PySem.Spec PyProof.Rows L2
end VL
namespace VL
open PySem PySem.Spec PyProof.Rows L2
def DefIn (K:PySem.W.Frag) (x y:Str) (st:Stmt):Prop:=∃ f fd,PySem.W.nsIn K mainGlobals x=some (some (.ref f))/\FunV K y y st f fd .none/\PySem.W.keepIn K (.ref f)=true
def aK (x:Str) (st:Stmt) (ps:List Str):Prop:=∀ (kV doc pm:Value) (an:Option Addr) (cdv ct:Value) (us:List Value),us.length=ps.length->bindArgs (PySem.W.fnOf x x (cL st) (cn st) (ao st) .none kV doc pm an cdv ct) ⟨us,[]⟩=pure (ps.zip us)
section
variable {P:Program} {w:World} {K:PySem.W.Frag} {mg:Str->Option Value} {base h:Heap} {x y:Str} {st:Stmt} {k:Nat} {ps:List Str}
theorem DefIn.mk {f:Addr} {oc:Value} {od an:Option Addr} {osl:Array (Option Value)} {kV doc pm cdv ct:Value} (a:PySem.W.nsIn K mainGlobals x=some (some (.ref f))) (l:K.lookup f=some ⟨oc,od,.func (PySem.W.fnOf y y (cL st) (cn st) (ao st) .none kV doc pm an cdv ct),osl⟩)
  (c:PySem.W.codeIn K cdv y=true) (k:PySem.W.keepIn K (.ref f)=true):DefIn K x y st:=⟨_,_,a,jf l c k,k⟩
variable (D:DefIn K x y st) (X:K.In h) (G:h.Ns mainGlobals mg) (b:aK y st ps)
include D X G
theorem DefIn.fnm:Fnm K mg x:=by
 obtain ⟨f,fd,a,F,hk⟩:=D
 exact ⟨⟨_,a,PySem.W.mg_of X G a⟩⟩
include b
theorem DefIn.cal {g:List VL.D->Option VL.D} (ok:∀ f fd,FunV K y y st f fd .none->FnOk P w K mg base dc k f fd ps (dG K g)):Cal P w K mg base x k g []:=by
 obtain ⟨f,fd,a,F,hk⟩:=D
 exact Cal.mk0 (ok f fd F) (PySem.W.mg_of X G a) hk (F.binds b)
theorem DefIn.calR {g:List VL.D->Option VL.D} (ok:∀ f fd,FunV K y y st f fd .none->mg x=some (.ref f)->PySem.W.keepIn K (.ref f)=true->Binds K fd ps []->FnOk P w K mg base dc k f fd ps (dG K g)):Cal P w K mg base x k g []:=by
 obtain ⟨f,fd,a,F,hk⟩:=D
 exact Cal.mk0 (ok f fd F (PySem.W.mg_of X G a) hk (F.binds b)) (PySem.W.mg_of X G a) hk (F.binds b)
theorem DefIn.calF {g:List VL.D->Option VL.D} (ok:∀ f fd,FunV K y y st f fd .none->FnOk P w K mg base dc k f fd ps (dG K g)):CalF P w K mg base x k g:=by
 obtain ⟨f,fd,a,F,hk⟩:=D
 exact ⟨⟨_,_,_,ok f fd F,a,PySem.W.mg_of X G a,hk,F.binds b⟩⟩
end
noncomputable def N2 (fd:FuncData) (us:List Value):{kk:Option (Array Value)->Sem (List (Str×Value)) // bindArgs fd ⟨us,[]⟩=seqItems? fd.defaults >>= kk}:=⟨_,rfl⟩
theorem FunV.bindsK {K:PySem.W.Frag} {x qual:Str} {st:Stmt} {f T:Addr} {fd:FuncData} {ps:List Str} {o:Obj} {items:Array Value} {n:Nat} {ds:List Value} (F:FunV K x qual st f fd (.ref T)) (ho:K.lookup T=some o) (hs:o.data=.seq items n) (nu:Nat) (hn:nu+ds.length=ps.length)
  (h:∀ (kV doc pm:Value) (an:Option Addr) (cdv ct:Value) (us:List Value),us.length=nu->(N2 (PySem.W.fnOf x qual (cL st) (cn st) (ao st) (.ref T) kV doc pm an cdv ct) us).1 (some items)=pure (ps.zip (us++ds))):Binds K fd ps ds:=
 F.bindsD ho hs nu hn fun kV doc pm an cdv ct us hl=>⟨_,(N2 (PySem.W.fnOf x qual (cL st) (cn st) (ao st) (.ref T) kV doc pm an cdv ct) us).2,h kV doc pm an cdv ct us hl⟩
end VL
namespace VL
open PySem PySem.Spec PyProof.Rows L2
open AutoSeq1 (wpAny_loadPart')
end VL
namespace VL
open PySem PySem.Spec PyProof.Rows L2
noncomputable def OM (z:Bool):D->D->Option D
 | .bool a,.bool b=>some (.bool (z != (a==b)))
 | _,_=>none
@[simp] theorem Kz (z a b:Bool):OM z (.bool a) (.bool b)=some (.bool (z != (a==b))):=rfl
end VL
namespace VL
open PySem PySem.Spec PyProof.Rows L2
end VL
namespace L2
open PySem PySem.Spec PyProof.Rows
end L2
namespace L2
open PySem PySem.Spec PyProof.Rows
end L2
namespace L2
open PySem PySem.Spec PyProof.Rows
end L2
namespace L2
open PySem PySem.Spec PyProof.Rows
end L2
namespace L2
open PySem PySem.Spec PyProof.Rows
end L2
namespace L2
open PySem PySem.Spec PyProof.Rows
end L2
namespace L2
open PySem PySem.Spec PyProof.Rows
end L2
namespace L2
open PySem PySem.Spec PyProof.Rows
end L2
namespace L2
open PySem PySem.Spec PyProof.Rows
end L2
namespace L2
open PySem PySem.Spec PyProof.Rows
end L2
namespace L2
open PySem PySem.Spec PyProof.Rows
section
variable {κ:Type} [DecidableEq κ]
noncomputable def jZ (kvs:List (κ × V)) (k:κ):Option V:=(kvs.find? fun kv=>decide (kv.1=k)).map (·.2)
noncomputable def lG (kvs:List (κ × V)) (k:κ) (v:V):List (κ × V):=
 if (kvs.any fun kv=>decide (kv.1=k))=true then kvs.map (fun kv=>if kv.1=k then (kv.1,v) else kv) else kvs++[(k,v)]
theorem jX {p:κ × V} {r:List (κ × V)} {k:κ} (e:p.1=k):jZ (p::r) k=some p.2:=by simp [jZ,List.find?_cons,e]
theorem jY {p:κ × V} {r:List (κ × V)} {k:κ} (e:¬ p.1=k):jZ (p::r) k=jZ r k:=by simp [jZ,List.find?_cons,e]
theorem sQ (k:κ):∀ kvs:List (κ × V),(kvs.any fun kv=>decide (kv.1=k))=(jZ kvs k).isSome
 | []=>rfl
 | p::r=>by
  rw [List.any_cons]
  by_cases e:p.1=k
  ·simp only [jX e,decide_eq_true e,Bool.true_or,Option.isSome_some]
  ·rw [jY e,decide_eq_false e,Bool.false_or]; exact sQ k r
theorem uq (kvs:List (κ × V)) (k:κ) (v:V):(lG kvs k v).length<=kvs.length+1:=by
 unfold lG
 split
 ·rw [List.length_map]; omega
 ·rw [List.length_append,List.length_cons,List.length_nil]; omega
theorem tU {kvs:List (κ × V)} {k:κ} (v:V) (h:jZ kvs k=none):lG kvs k v=kvs++[(k,v)]:=by
 unfold lG
 rw [sQ,h]
 exact if_neg (by decide)
theorem RelO.isSome_eq {o:Option V} {u:Option Value} (r:RelO o u):o.isSome=u.isSome:=by
 cases o with
 | none=>cases u with
  | none=>rfl
  | some _=>exact (show False from r).elim
 | some _=>cases u with
  | none=>exact (show False from r).elim
  | some _=>rfl
theorem RelO.getD {o:Option V} {u:Option Value} {d:V} {d':Value} (r:RelO o u) (rd:RelV d d'):RelV (o.getD d) (u.getD d'):=by
 cases o with
 | none=>cases u with
  | none=>exact rd
  | some _=>exact (show False from r).elim
 | some _=>cases u with
  | none=>exact (show False from r).elim
  | some _=>exact r
theorem KV.val {kvs:List (κ × V)} {vs:List (κ × Value)} (r:KV kvs vs) (k:κ):RelO (jZ kvs k) (valueAt vs k):=by
 unfold KV at r
 induction r with
 | nil=>exact True.intro
 | @cons p q ps qs h t ih=>
  obtain ⟨h1,h2⟩:=h
  by_cases e:p.1=k
  ·have e':q.1=k:=h1.symm.trans e
   have b:valueAt (q::qs) k=some q.2:=by simp [valueAt,List.find?_cons,e']
   rw [jX e,b]; exact h2
  ·have e':¬ q.1=k:=fun z=>e (h1.trans z)
   have b:valueAt (q::qs) k=valueAt qs k:=by simp [valueAt,List.find?_cons,e']
   rw [jY e,b]; exact ih
theorem KV.any {kvs:List (κ × V)} {vs:List (κ × Value)} (r:KV kvs vs) (k:κ):(kvs.any fun kv=>decide (kv.1=k))=vs.any fun kv=>decide (kv.1=k):=by
 unfold KV at r
 induction r with
 | nil=>rfl
 | cons h t ih=>rw [List.any_cons,List.any_cons,ih,h.1]
theorem KV.repl {kvs:List (κ × V)} {vs:List (κ × Value)} (r:KV kvs vs) (k:κ) {y:V} {u:Value} (ry:RelV y u) :
  KV (kvs.map fun kv=>if kv.1=k then (kv.1,y) else kv) (vs.map fun kv=>if kv.1=k then (kv.1,u) else kv):=by
 unfold KV at r ⊢
 induction r with
 | nil=>exact .nil
 | @cons p q ps qs h t ih=>
  rw [List.map_cons,List.map_cons]
  refine .cons ?_ ih
  obtain ⟨h1,h2⟩:=h
  by_cases e:p.1=k
  ·rw [if_pos e,if_pos (h1.symm.trans e)]; exact ⟨h1,ry⟩
  ·rw [if_neg e,if_neg (fun z=>e (h1.trans z))]; exact ⟨h1,h2⟩
theorem KV.put {kvs:List (κ × V)} {vs:List (κ × Value)} (r:KV kvs vs) (k:κ) {y:V} {u:Value} (ry:RelV y u):KV (lG kvs k y) (stored vs k u):=by
 unfold lG stored
 rw [r.any k]
 by_cases e:(vs.any fun kv=>decide (kv.1=k))=true
 ·rw [if_pos e,if_pos e]; exact r.repl k ry
 ·rw [if_neg e,if_neg e]; exact Paired.snoc r ⟨rfl,ry⟩
end
theorem xM {P:Program} {w:World} {k:aZ} {u:Value} (r:RelV (kV k) u):(cy P w).is k u=true:=by
 cases k with
 | inl i=>obtain ⟨t,e⟩:=(show ∃ t,u=Value.int i t from r); subst e; exact ug P w i t
 | inr x=>obtain ⟨t,e⟩:=(show ∃ t,u=Value.str x t from r); subst e; exact uf P w x t
theorem qy {P:Program} {w:World}:∀ {ks:List aZ} {us:List Value},Vals (ks.map kV) us->ItemsAre (cy P w) ks us
 | [],_,r=>by rw [List.map_nil] at r; cases r; exact .nil
 | k::ks,_,r=>by
  rw [List.map_cons] at r
  cases r with
  | cons h t=>exact .cons (xM h) (qy t)
abbrev KT (H:Hp):List (List aZ×V)->List (List aZ×Addr×Value)->Prop:=Paired fun p q=>p.1=q.1/\H q.2.1=some (.tup (p.1.map kV))/\RelV p.2 q.2.2
theorem KT.val {H:Hp} {kvs:List (List aZ×V)} {xs:List (List aZ×Addr×Value)} (r:KT H kvs xs) (k:List aZ):RelO (jZ kvs k) ((atKey xs k).map (·.2)):=by
 induction r with
 | nil=>exact True.intro
 | @cons p q ps qs h t ih=>
  obtain ⟨h1,_,h2⟩:=h
  by_cases e:p.1=k
  ·have e':q.1=k:=h1.symm.trans e
   have b:atKey (q::qs) k=some q.2:=by simp [atKey,List.find?_cons,e']
   rw [jX e,b]; exact h2
  ·have e':¬ q.1=k:=fun z=>e (h1.trans z)
   have b:atKey (q::qs) k=atKey qs k:=by simp [atKey,List.find?_cons,e']
   rw [jY e,b]; exact ih
section
variable {P:Program} {w:World} {H:Hp} {h:Heap} {a:Addr}
theorem FN {u:HO} (ok:HOk P w H h) (e:Rd H a u):ObjOk P w H h a u:=e.ok ok
theorem xT {kvs:List (aZ×V)} (ok:HOk P w H h) (e:Rd H a (.dK kvs)):kvs.length<=sizeLine/\(a==sysModules)=false/\∃ vs,KV kvs vs/\h.DictOf (cy P w) a vs:=
 show ObjOk P w H h a (.dK kvs) from FN ok e
theorem K3 {kvs:List (aZ×V)} (ok:HOk P w H h) (e:H a=some (.dK kvs)):kvs.length<=sizeLine/\(a==sysModules)=false/\∃ vs,KV kvs vs/\h.DictOf (cy P w) a vs:=xT ok (.inl e)
theorem vZ {ks:List aZ} (ok:HOk P w H h) (e:H a=some (.tup (ks.map kV))):(tupleKind (cy P w)).is h ks a:=by
 obtain ⟨_,its,r,⟨o,h1,h2,n,h3⟩,_⟩:=(show ObjOk P w H h a (.tup (ks.map kV)) from ok a _ e)
 exact ⟨o,its.toArray,n,h1,h2,h3,by simpa using qy r⟩
theorem B4 {kvs:List (List aZ×V)} (ok:HOk P w H h) (e:Rd H a (.dT kvs)):kvs.length<=sizeLine/\(a==sysModules)=false /\
  ∃ xs,KT H kvs xs/\h.DictOfH (tupleKind (cy P w)) a xs:=by
 obtain ⟨z,y,xs,r,o,es,ep,h1,h2,h3,h4,h5⟩:=(show ObjOk P w H h a (.dT kvs) from FN ok e)
 refine ⟨z,y,xs,r,o,es,ep,h1,h2,h3,h4,fun x hx=>?_,h5⟩
 have all:∀ {l:List (List aZ×V)} {m:List (List aZ×Addr×Value)},KT H l m->∀ x∈m,(tupleKind (cy P w)).is h x.1 x.2.1:=by
  intro l m q
  induction q with
  | nil=>intro x hx; exact nomatch hx
  | @cons p q ps qs hq t ih=>
   intro x hx
   rcases List.mem_cons.mp hx with e | hx
   ·subst e
    exact vZ ok (by rw [<- hq.1]; exact hq.2.1)
   ·exact ih x hx
 exact all r x hx
end
def DGet (H:Hp) (a:Addr) (y:V) (r:Option V):Prop:=
 (∃ kvs k,Rd H a (.dK kvs)/\y=kV k/\r=jZ kvs k)\/∃ kvs k b,Rd H a (.dT kvs)/\y=.ref b/\H b=some (.tup (k.map kV))/\r=jZ kvs k
theorem DGet.k {H:Hp} {a:Addr} {kvs:List (aZ×V)} {k:aZ} (e:H a=some (.dK kvs)):DGet H a (kV k) (jZ kvs k):=.inl ⟨kvs,k,.inl e,rfl,rfl⟩
section
variable {X:Cx} {pins:List (Addr×Obj)} {σ:St} {H:Hp} {s:Shared} {a:Addr} {y v:V} {u r:Value} {o:Option V} {A:Around} {E:Value->Shared->Prop}
theorem Inv.big (I:Inv X pins σ H s):sysModules<s.heap.objs.size:=by
 have h:mainGlobals<s.heap.objs.size:=(I.mod.glob.keeps I.bk).lt
 exact Nat.lt_trans (by decide) h
theorem sf {Q:Value->Shared->Prop} (hu:A.units+1<cLine) (I:Inv X pins σ H s) (g:DGet H a y o) (ry:RelV y u) (h:∀ s',Inv X pins σ H s'->Q (.bool o.isSome) s') :
  wpAny (model X.prog X.w) A (compareOp .In u (.ref a)) Q E s:=by
 rcases g with ⟨kvs,k,e,ey,l⟩ | ⟨kvs,k,b,e,ey,eb,l⟩
 ·subst ey
  obtain ⟨z,hd,vs,rel,dd⟩:=xT I.hok e
  refine wpAny_in_of (xM ry) hd dd.mapOf ?_
  rw [<- (rel.val k).isSome_eq,<- l]
  exact h _ (I.tok _)
 ·subst ey
  cases (show u=Value.ref b from ry)
  obtain ⟨z,hd,xs,rel,dd⟩:=B4 I.hok e
  refine wpAny_in_heap (tupleKind_room_in1 hu) (vZ I.hok eb) hd dd ?_
  have q:=(rel.val k).isSome_eq
  rw [Option.isSome_map] at q
  rw [<- q,<- l]
  exact h _ (I.tok _)
theorem Fe {h':Heap} {t':Nat} {ob:HO} (I:Inv X pins σ H s) (mu:Lk (H a)) (hs:Heap.SameBut a s.heap h') (he:∃ q,h'.get? a=some q) (new:ObjOk X.prog X.w (upd H a ob) h' a ob) :
  Inv X pins σ (upd H a ob) { s with heap:=h',toks:=t' }:=
 I.write (x:=a) (e:=a) mu (.inl rfl) (fun b q hb z=>(hs.2 b hb).trans z) he new
theorem Ik {P:Program} {w:World} {H':Hp} {h':Heap} {kvs:List (aZ×V)} {vs:List (aZ×Value)} (z:kvs.length<=sizeLine) (hd:(a==sysModules)=false) (rel:KV kvs vs) (dd:h'.DictOf (cy P w) a vs) :
  ObjOk P w H' h' a (.dK kvs):=⟨z,hd,vs,rel,dd⟩
end
theorem B5 {P:Program} {w:World} {H:Hp} (h:Heap) (hb:sysModules<h.objs.size):ObjOk P w H (h.push { cls:=.type "dict",data:=.dict #[] }) h.objs.size (.dK []):=
 ⟨Nat.zero_le _,beq_eq_false_iff_ne.mpr (Ne.symm (Nat.ne_of_lt hb)),[],.nil,Heap.DictOf.new h⟩
def qT:List (TE×TE)->St->Hp->(List (V×V)->Hp->Prop)->Prop
 | [],_,H,Q=>Q [] H
 | (tk,tv)::r,σ,H,Q=>tk σ H fun x H1=>tv σ H1 fun y H2=>qT r σ H2 fun ps H3=>Q ((x,y)::ps) H3
abbrev VV:List (V×V)->List (Value×Value)->Prop:=Paired fun p q=>RelV p.1 q.1/\RelV p.2 q.2
def Lj (X:Cx) (pos:Pos) (keys:List (Option Expr)) (values:List Expr) (trs:List (TE×TE)):Prop:=
 ∀ (pins:List (Addr×Obj)) (s:Shared) (σ:St) (H:Hp) (Q:List (V×V)->Hp->Prop),Inv X pins σ H s->qT trs σ H Q ->
  wpAny (model X.prog X.w) X.A (evalPairs (pairTrees keys values X.env pos)) (fun vs s'=>∃ ps H',Inv X pins σ H' s'/\VV ps vs/\Q ps H') X.xe s
theorem DH {X:Cx} {pos:Pos}:Lj X pos [] [] []:=fun pins s σ H Q I h=>pairTrees_nil_walk ⟨[],H,I,.nil,h⟩
theorem AF {X:Cx} {pos:Pos} {k v:Expr} {ks:List (Option Expr)} {vs:List Expr} {tk tv:TE} {trs:List (TE×TE)} (hk:PE X k tk) (hv:PE X v tv) (hr:Lj X pos ks vs trs) :
  Lj X pos (some k::ks) (v::vs) ((tk,tv)::trs):=fun pins s σ H Q I h=>
 pairTrees_cons_walk (cx (hk pins s σ H _ I h) fun u s1 ⟨x,H1,I1,rx,q1⟩=>cx (hv pins s1 σ H1 _ I1 q1) fun w2 s2 ⟨y,H2,I2,ry,q2⟩=>
  cx (hr pins s2 σ H2 _ I2 q2) fun ws s3 ⟨ps,H3,I3,rel,q3⟩=>⟨(x,y)::ps,H3,I3,.cons ⟨rx,ry⟩ rel,q3⟩)
noncomputable def il (kvs more:List (aZ×V)):List (aZ×V):=more.foldl (fun acc kv=>lG acc kv.1 kv.2) kvs
theorem KV.merge:∀ {more:List (aZ×V)} {rs:List (aZ×Value)} {kvs:List (aZ×V)} {vs:List (aZ×Value)},KV more rs->KV kvs vs->KV (il kvs more) (merged vs rs):=by
 intro more rs kvs vs r
 unfold KV at r
 induction r generalizing kvs vs with
 | nil=>intro q; exact q
 | @cons p q ps qs h t ih=>
  intro r0
  have e:KV (lG kvs p.1 p.2) (stored vs q.1 q.2):=by
   have:=r0.put p.1 h.2
   rw [<- h.1]; exact this
  exact ih e
theorem jq:∀ (more kvs:List (aZ×V)),(il kvs more).length<=kvs.length+more.length
 | [],kvs=>by show kvs.length<=kvs.length+0; omega
 | p::r,kvs=>by
  have h1:=jq r (lG kvs p.1 p.2)
  have h2:=uq kvs p.1 p.2
  show (il (lG kvs p.1 p.2) r).length<=_
  rw [List.length_cons]; omega
theorem o6 {P:Program} {w:World}:∀ {kvs:List (aZ×V)} {ws:List (Value×Value)},VV (kvs.map fun kv=>(kV kv.1,kv.2)) ws->∃ rs,Carries (cy P w) ws rs/\KV kvs rs
 | [],_,r=>by rw [List.map_nil] at r; cases r; exact ⟨[],True.intro,.nil⟩
 | p::kvs,_,r=>by
  rw [List.map_cons] at r
  cases r with
  | @cons a b as bs h t=>
   obtain ⟨rs,c,q⟩:=o6 (P:=P) (w:=w) t
   obtain ⟨b1,b2⟩:=b
   exact ⟨(p.1,b2)::rs,⟨xM h.1,rfl,c⟩,.cons ⟨rfl,h.2⟩ q⟩
def Jr (trs:List (TE×TE)):TE:=fun σ H Q=>∀ p,H p=none->qT trs σ (upd H p (.dK [])) fun ps H2=>H2 p=some (.dK [])/\∃ kvs:List (aZ×V),ps=kvs.map (fun kv=>(kV kv.1,kv.2))/\kvs.length<=15/\Q (.ref p) (upd H2 p (.dK (il [] kvs)))
theorem DN {X:Cx} {pos:Pos} {keys:List (Option Expr)} {values:List Expr} {trs:List (TE×TE)} (h:Lj X pos keys values trs) (hall:keys.all (·.isSome)=true) (hl:keys.length=values.length) (h0:keys≠[])
  (h15:keys.length<=15):PE X (.Dict keys values pos) (Jr trs):=by
 intro pins s σ H Q I q
 have hn:=I.hok.fresh (Nat.le_refl s.heap.objs.size)
 have I1:=I.laid (a:=s.heap.objs.size) (o:=.dK []) (h':=s.heap.push { cls:=.type "dict",data:=.dict #[] }) (t':=s.toks) (fun _ _ q=>Heap.get?_push_of_some _ q) (Nat.le_refl _) (B5 s.heap I.big)
 refine wpAny_Dict_walk (knd:=cy X.prog X.w) hall hl h0 h15 (cx (h pins _ σ _ _ I1 (q _ hn)) fun ws s2 ⟨ps,H2,I2,rel,e,kvs,ep,lk,q2⟩=>?_)
 subst ep
 obtain ⟨rs,c,rk⟩:=o6 (P:=X.prog) (w:=X.w) rel
 obtain ⟨z,hd,vs0,r0,dd⟩:=K3 I2.hok e
 cases r0
 refine ⟨rs,c,dd,fun h' dd' hs=>⟨.ref s.heap.objs.size,_,?_,rfl,q2⟩⟩
 have hz:(il [] kvs).length<=sizeLine:=by
  have h1:=jq kvs []
  rw [List.length_nil] at h1
  rw [sizeLine_eq]; omega
 have he:∃ q,h'.get? s.heap.objs.size=some q:=let ⟨q,_,_,hq,_⟩:=dd'; ⟨q,hq⟩
 exact Fe I2 (by rw [e]; exact True.intro) hs he (Ik hz hd (rk.merge .nil) dd')
structure M2 (X:Cx) (o:Expr) (m:Str) (apos:Pos) (e f:Expr) (cpos:Pos):Prop where
 base:attributeBase o m X.env (eval o X.env)=eval o X.env
 few:((backTo cpos (starEach [e,f] X.env)).all (fun x=>!x.1)&&(backToKw cpos (keywordEach [] X.env)).all (fun x=>x.1.isSome)
  && decide (([e,f]:List Expr).length+([]:List Keyword).length+(if ([]:List Keyword).isEmpty then 0 else 1)<30))=true
 line:(apos.endLine==cpos.line)=true
 trees:backTo cpos (starEach [e,f] X.env)=[(false,eval e X.env),(false,eval f X.env)]
def N7 (H:Hp) (a:Addr):Prop:=(∃ kvs,Rd H a (.dK kvs))\/∃ kvs,Rd H a (.dT kvs)
theorem HU {X:Cx} {pins:List (Addr×Obj)} {σ:St} {H:Hp} {s:Shared} {a:Addr} (I:Inv X pins σ H s) (d:N7 H a) :
  s.TypeIs (.ref a) "dict" /\ (∀ b,Value.ref a=.ref b->∃ ob,s.heap.get? b=some ob/\ob.dict=none)/\(a==sysModules)=false:=by
 rcases d with ⟨kvs,e⟩ | ⟨kvs,e⟩
 ·obtain ⟨_,hd,vs,_,dd⟩:=xT I.hok e
  refine ⟨dd.typeIs,fun b q=>?_,hd⟩
  cases q
  obtain ⟨ob,_,_,h1,h2,_⟩:=dd
  exact ⟨ob,h1,h2.2.1⟩
 ·obtain ⟨_,hd,xs,_,dd⟩:=B4 I.hok e
  refine ⟨dd.typeIs,fun b q=>?_,hd⟩
  cases q
  obtain ⟨ob,_,_,h1,h2,_⟩:=dd
  exact ⟨ob,h1,h2.2.1⟩
section
variable {X:Cx} {pins:List (Addr×Obj)} {σ:St} {H:Hp} {s:Shared} {a:Addr} {y d:V} {u r:Value} {o:Option V} {A:Around} {E:Value->Shared->Prop}
theorem Il {Q:Value->Shared->Prop} (hu:A.units+1<cLine) (I:Inv X pins σ H s) (g:DGet H a y o) (ry:RelV y u) (rd:RelV d r) (h:∀ w' s',Inv X pins σ H s'->RelV (o.getD d) w'->Q w' s') :
  wpAny (model X.prog X.w) A (call (.builtin "dict.get") [.ref a,u,r]) Q E s:=by
 rcases g with ⟨kvs,k,e,ey,l⟩ | ⟨kvs,k,b,e,ey,eb,l⟩
 ·subst ey
  obtain ⟨z,hd,vs,rel,dd⟩:=xT I.hok e
  refine call_meetsIn PySem.F.slot_dict_get dd.typeIs PySem.F.entry_dict_get (PySem.F.args_dict_get_3 _ _ _) (meets_dict_get_default (cy X.prog X.w) a (xM ry) hd r) ⟨_,dd.mapOf,h _ _ (I.tok _) ?_⟩
  rw [l]
  exact (rel.val k).getD rd
 ·subst ey
  cases (show u=Value.ref b from ry)
  obtain ⟨z,hd,xs,rel,dd⟩:=B4 I.hok e
  refine call_meetsIn PySem.F.slot_dict_get dd.typeIs PySem.F.entry_dict_get (PySem.F.args_dict_get_3 _ _ _) (meetsH_dict_get_default (tupleKind (cy X.prog X.w)) a b hd r) ⟨tupleKind_room_in1 hu,k,xs,vZ I.hok eb,dd,h _ _ (I.tok _) ?_⟩
  rw [l]
  exact (rel.val k).getD rd
end
def GG (td ty tx:TE):TE:=fun σ H Q=>td σ H fun x H1=>∃ a,x=.ref a/\N7 H1 a/\ty σ H1 fun y H2=>tx σ H2 fun z H3=>∃ o,DGet H3 a y o/\Q (o.getD z) H3
section
variable {X:Cx} {o e f:Expr} {apos cpos:Pos} {td ty tx:TE}
theorem AN (hu:X.A.units+1<cLine) (ho:PE X o td) (he:PE X e ty) (hf:PE X f tx) (m:M2 X o "get" apos e f cpos):PE X (.Call (.Attribute o "get" apos) [e,f] [] cpos) (GG td ty tx):=by
 intro pins s σ H Q I h
 refine wpAny_Call_method m.base m.few m.line PySem.F.plainAttrs_dict PySem.F.slot_dict_get PySem.F.type_dict_get (cx (ho pins s σ H _ I h) fun u s1 ⟨x,H1,I1,rx,a,ex,d,q1⟩=>?_)
 subst ex
 obtain rfl:u=Value.ref a:=rx
 obtain ⟨t1,t2,_⟩:=HU I1 d
 refine ⟨t1,t2,?_⟩
 rw [m.trees]
 refine Calls.callWith_builtin rfl (Calls.evalArgs_plain (Calls.spliced_cons (cx (he pins s1 σ H1 _ I1 q1) fun iv s2 ⟨y,H2,I2,ry,q2⟩=>
  Calls.spliced_cons (cx (hf pins s2 σ H2 _ I2 q2) fun fv s3 ⟨z,H3,I3,rz,ov,g,q3⟩=>Calls.spliced_nil ?_))))
 exact Il hu I3 g ry rz fun w' s4 I4 rw'=>⟨_,H3,I4,rw',q3⟩
end
end L2
namespace Att
open PySem PySem.W PySem.Calls PyProof.Rows
end Att
namespace L2
open PySem PySem.Spec PyProof.Rows
end L2
namespace L2
open PySem PySem.Spec PyProof.Rows
end L2
namespace L2
open PySem PySem.Spec PyProof.Rows
end L2
namespace VL
open PySem PySem.Spec PyProof.Rows L2
noncomputable def uA:D->Option aZ
 | .int i=>some (.inl i)
 | .str x=>some (.inr x)
 | _=>none
@[simp] theorem Kt (i:Int):uA (.int i)=some (.inl i):=rfl
noncomputable def Ou:Option Sl->Option (List (aZ×D))
 | some (.own (.d es))=>some es
 | _=>none
@[simp] theorem Mj (es:List (aZ×D)):Ou (some (.od es))=some es:=rfl
noncomputable def mY (es:List (aZ×D)) (k:aZ):Option D:=(es.find? fun p=>decide (p.1=k)).map (·.2)
theorem uz {K:Fg} {Z:Hp} {v:V} {d:D} {k:aZ} (r:Rep K Z v d) (h:uA d=some k):v=kV k:=by
 cases d with
 | int i=>cases h; exact r.int_eq
 | str x=>cases h; exact r.str_eq
 | _=>cases h
theorem tP {K:Fg} {Z:Hp} {kvs:List (aZ×V)} {es:List (aZ×D)} (h:wV K Z kvs es):kvs.length=es.length:=by
 have:=congrArg List.length h.1
 rw [List.length_map,List.length_map] at this
 exact this.symm
theorem yD {K:Fg} {Z:Hp} {kv:aZ×V} {kvs:List (aZ×V)} {es:List (aZ×D)} (h:wV K Z (kv::kvs) es):∃ d fs,es=(kv.1,d)::fs/\Rep K Z kv.2 d/\wV K Z kvs fs:=by
 obtain ⟨h1,h2⟩:=h
 cases es with
 | nil=>cases h1
 | cons e fs=>
  obtain ⟨k,d⟩:=e
  rw [List.map_cons,List.map_cons,List.cons.injEq] at h1
  cases h2 with
  | cons r q=>exact ⟨d,fs,by rw [<- h1.1],r,h1.2,q⟩
theorem tQ {K:Fg} {Z:Hp} (k:aZ):∀ {kvs:List (aZ×V)} {es:List (aZ×D)},wV K Z kvs es->(jZ kvs k=none/\mY es k=none)\/∃ v d,jZ kvs k=some v/\mY es k=some d/\Rep K Z v d
 | [],es,h=>by
  have:es=[]:=List.length_eq_zero_iff.mp (tP h).symm
  subst this
  exact .inl ⟨rfl,rfl⟩
 | kv::kvs,es,h=>by
  obtain ⟨d,fs,rfl,r,q⟩:=yD h
  by_cases e:kv.1=k
  ·exact .inr ⟨kv.2,d,jX e,by simp [mY,List.find?_cons,e],r⟩
  ·rw [jY e]
   have:mY ((kv.1,d)::fs) k=mY fs k:=by simp [mY,List.find?_cons,e]
   rw [this]
   exact tQ k q
theorem Oh {n:Nat} (h:n+64<cLine):n+1<cLine:=by omega
end VL
namespace VL
open PySem PySem.Spec PyProof.Rows L2
noncomputable def wc (x:Int):List Int->List Int
 | []=>[x]
 | y::r=>if x<=y then x::y::r else y::wc x r
noncomputable def lQ:List Int->List Int
 | []=>[]
 | x::r=>wc x (lQ r)
theorem lS (x:Int):∀ l:List Int,(wc x l).Perm (x::l)
 | []=>.refl _
 | y::r=>by
  unfold wc
  split
  ·exact .refl _
  ·exact ((lS x r).cons y).trans (.swap x y r)
theorem iS:∀ l:List Int,(lQ l).Perm l
 | []=>.refl _
 | x::r=>(lS x _).trans ((iS r).cons x)
theorem xO (x:Int):∀ l:List Int,l.Pairwise (· <= ·)->(wc x l).Pairwise (· <= ·)
 | [],_=>by simp [wc]
 | y::r,h=>by
  obtain ⟨h1,h2⟩:=List.pairwise_cons.mp h
  unfold wc
  split
  ·rename_i hx
   exact List.pairwise_cons.mpr ⟨fun z hz=>by rcases List.mem_cons.mp hz with rfl | hz; exact hx; exact Int.le_trans hx (h1 z hz),h⟩
  ·rename_i hx
   refine List.pairwise_cons.mpr ⟨fun z hz=>?_,xO x r h2⟩
   rcases List.mem_cons.mp ((lS x r).mem_iff.mp hz) with rfl | hz
   ·omega
   ·exact h1 z hz
theorem qA:∀ l:List Int,(lQ l).Pairwise (· <= ·)
 | []=>.nil
 | x::r=>xO x _ (qA r)
theorem nV:∀ {a b:List Int},a.Perm b->a.Pairwise (· <= ·)->b.Pairwise (· <= ·)->a=b
 | [],b,p,_,_=>(List.nil_perm.mp p).symm
 | x::a,b,p,ha,hb=>by
  cases b with
  | nil=>exact absurd (List.perm_nil.mp p) (by simp)
  | cons y b=>
   obtain ⟨ha1,ha2⟩:=List.pairwise_cons.mp ha
   obtain ⟨hb1,hb2⟩:=List.pairwise_cons.mp hb
   have e:x=y:=by
    have h1:x∈y::b:=p.mem_iff.mp List.mem_cons_self
    have h2:y∈x::a:=p.mem_iff.mpr List.mem_cons_self
    rcases List.mem_cons.mp h1 with h1 | h1
    ·exact h1
    ·rcases List.mem_cons.mp h2 with h2 | h2
     ·exact h2.symm
     ·exact Int.le_antisymm (ha1 y h2) (hb1 x h1)
   subst e
   rw [nV (List.perm_cons x |>.mp p) ha2 hb2]
theorem zp {a b:List Int} (p:a.Perm b) (h:a.Pairwise (· <= ·)):a=lQ b:=nV (p.trans (iS b).symm) h (qA b)
noncomputable def xH:D->Option D
 | .int j=>if j<=16777216 /\ -4611686018427387904<=j then some (.list (jB 0 j.toNat)) else none
 | _=>none
theorem gU:∀ {out:List Value} {l:List Int},IntsAre out l->Vals (l.map V.int) out
 | _,_,.nil=>.nil
 | _,_,.cons n t r=>.cons ⟨t,rfl⟩ (gU r)
theorem iR {h:Heap} {a b:Addr} {f:Obj->Obj} {o:Obj} (hab:b≠a) (e:h.get? b=some o):(h.update a f).get? b=some o:=(Heap.get?_update_other _ _ (Ne.symm hab)).trans e
theorem Cr {acc:Array Value} {n:Nat} (h:ItemsOf (fun i v=>∃ t,v=.int ((0:Int)+i*1) t) acc n):Vals ((List.range n).map fun k=>V.int (k:Nat)) acc.toList:=by
 obtain ⟨h1,h2⟩:=h
 subst h1
 have key:∀ (l:List Value) (m:Nat),(∀ (j:Nat) (v:Value),l[j]? = some v->∃ t,v=Value.int ((m+j:Nat):Int) t)->Vals ((List.range' m l.length).map fun k=>V.int (k:Nat)) l:=by
  intro l
  induction l with
  | nil=>intro m _; exact .nil
  | cons v l ih=>
   intro m h
   obtain ⟨t,rfl⟩:=h 0 v rfl
   rw [List.length_cons,List.range'_succ]
   exact .cons ⟨t,rfl⟩ (ih (m+1) fun j v e=>by obtain ⟨t,q⟩:=h (j+1) v e; exact ⟨t,by rw [q]; congr 2; omega⟩)
 have:=key acc.toList 0 fun j v e=>by
  obtain ⟨t,q⟩:=h2 j v (by rw [<- Array.getElem?_toList]; exact e)
  exact ⟨t,by rw [q]; congr 1; omega⟩
 rwa [Array.length_toList,<- List.range_eq_range'] at this
section
variable {X:Cx}
variable {e:Expr} {p p2 pos pos2:Pos} {te:TE} {f:Dv->Option D}
def Jp (te:TE):TE:=fun σ H Q=>te σ H fun v H1=>∃ j:Int,[v]=[V.int j]/\j<=16777216 /\ -4611686018427387904<=j/\∀ l,H1 l=none->Q (.ref l) (upd H1 l (.lst ((List.range j.toNat).map fun k=>V.int (k:Nat))))
theorem DM (hc:X.calm=true) (hg:Gl X "list") (hm:X.mg "list" = none) (hg':Gl X "range") (hm':X.mg "range" = none) (ha:PE X e te)
  (he:starEach [.Call (.Name "range" p2) [e] [] pos2] X.env=(false,eval (.Call (.Name "range" p2) [e] [] pos2) X.env)::starEach [] X.env:=by rfl)
  (he2:starEach [e] X.env=(false,eval e X.env)::starEach [] X.env:=by rfl) (hpl:(backTo pos (starEach [] X.env)).any (·.1)=false:=by rfl) (hpl2:(backTo pos2 (starEach [] X.env)).any (·.1)=false:=by rfl) :
  PE X (.Call (.Name "list" p) [.Call (.Name "range" p2) [e] [] pos2] [] pos) (Jp te):=by
 intro pins s σ H Q I h
 refine wpAny_Call_Name_kw (jG I hg hm (u:=.type "list") (by decide +kernel) ?_ (by decide) (by decide))
 refine PyProof.Rows.callWith_type1 ?_ he hpl
 rw [he]
 show wpAny _ _ (spliced ((false,eval _ X.env)::backTo pos (starEach [] X.env))) _ _ s
 refine Calls.spliced_cons ?_
 refine wpAny_Call_Name_kw (jG I hg' hm' (u:=.type "range") (by decide +kernel) ?_ (by decide) (by decide))
 refine PyProof.Rows.callWith_type1 (cx (jc ha lI he2 pos2 pins s σ H (fun xs H1=>∃ j:Int,xs=[V.int j]/\j<=16777216 /\ -4611686018427387904<=j/\∀ l,H1 l=none->Q (.ref l) (upd H1 l (.lst ((List.range j.toNat).map fun k=>V.int (k:Nat))))) I (by exact h)) fun us s1 ⟨vs,H1,I1,r1,q1⟩=>?_) he2 hpl2
 obtain ⟨j,e1,h1,h2,q⟩:=q1
 subst e1
 obtain ⟨u,rfl,rx⟩:=nJ r1
 obtain ⟨t,rfl⟩:=rx
 refine call_range_1 ?_
 refine Calls.spliced_nil ?_
 refine call_list_range (I1.ok.hd hc) (IsRange.new ..) (small_one (by omega) (by omega) (by omega) (by omega)) (n:=j.toNat) (by rw [rangeSize_one]; split <;> omega) (by omega) fun h' tk acc c hk hS hacc=>?_
 have hal:=Cr hacc
 have L:=I1.laid (h':=h') (a:=(s1.heap.push { cls:=.type "range",data:=.fields #[.int 0 s1.toks,.int j t,.int 1 (s1.toks+1)] }).objs.size) (o:=.lst ((List.range j.toNat).map fun k=>V.int (k:Nat))) (t':=tk) (fun b o eo=>hk b o (Heap.get?_push_of_some _ eo)) (by rw [Heap.size_push]; exact Nat.le_succ _)
  (show ObjOk X.prog X.w _ _ _ (.lst ((List.range j.toNat).map fun k=>V.int (k:Nat))) from ⟨by rw [List.length_map,List.length_range,sizeLine_eq]; omega,acc.toList,_,hal,by rw [Array.toArray_toList]; exact hS⟩)
 exact ⟨.ref _,_,L,rfl,q _ (I1.hok.fresh (by rw [Heap.size_push]; exact Nat.le_succ _))⟩
theorem E5 (hg:Gl X "list") (hm:X.mg "list" = none) (hg':Gl X "range") (hm':X.mg "range" = none) (ha:EV X e f) (hc:X.calm=true:=by rfl)
  (he:starEach [.Call (.Name "range" p2) [e] [] pos2] X.env=(false,eval (.Call (.Name "range" p2) [e] [] pos2) X.env)::starEach [] X.env:=by rfl)
  (he2:starEach [e] X.env=(false,eval e X.env)::starEach [] X.env:=by rfl) (hpl:(backTo pos (starEach [] X.env)).any (·.1)=false:=by rfl) (hpl2:(backTo pos2 (starEach [] X.env)).any (·.1)=false:=by rfl) :
  EV X (.Call (.Name "list" p) [.Call (.Name "range" p2) [e] [] pos2] [] pos) (o1 f xH):=
 PE.imp (DM hc hg hm hg' hm' ha he he2 hpl hpl2) fun σ H Q h=>by
  obtain ⟨H₀,Z₀,Z,δ,d,hh,e,k⟩:=h
  obtain ⟨d1,e1,e⟩:=bind_some e
  refine ⟨H₀,Z₀,Z,δ,d1,hh,e1,fun v Z1 H1 hh1 t1 r1=>?_⟩
  cases d1 with
  | int j=>
   obtain ⟨hj,e⟩:=d4 e
   cases e
   refine ⟨j,by rw [r1.int_eq],hj.1,hj.2,fun l hl=>?_⟩
   have n:=New.add hh1.zh hl (.lst ((List.range j.toNat).map fun k=>V.int (k:Nat)))
   refine k _ _ _ (hh1.new n) (t1.trans n.z) (.lst (SqL.of aQ) ?_)
   have:=Reps.ints (K:=X.K) (Z:=upd Z1 l (.lst ((List.range j.toNat).map fun k=>V.int (k:Nat)))) ((List.range j.toNat).map fun k=>((k:Nat):Int))
   simpa [jB,List.map_map,Function.comp_def] using this
  | _=>cases e
end
end VL
namespace VL
open PySem PySem.Spec PyProof.Rows L2
end VL
namespace VL
open PySem PySem.Spec PyProof.Rows L2
noncomputable def Jd:List D->Option D
 | [.list a,.list b]=>some (.list (List.zipWith (fun x y=>.tuple [x,y]) a b))
 | _=>none
@[simp] noncomputable def O0 (fs:Dv->Option (List D)) (g:List D->Option D):Dv->Option D:=fun δ=>(fs δ).bind g
@[simp] theorem Lm (a b:List D):Jd [.list a,.list b]=some (.list (List.zipWith (fun x y=>.tuple [x,y]) a b)):=rfl
end VL
namespace VL
open PySem PySem.Spec PyProof.Rows L2
theorem v7 (k:aZ):uA (jr k)=some k:=by cases k <;> rfl
end VL
namespace VL
open PySem PySem.Spec PyProof.Rows L2
noncomputable def KK (neg:Bool):D->D->Option D
 | a,.list xs=>if pF a=true/\PyData.canLayAll0 xs=true then some (.bool (if neg=true then !xP a xs else xP a xs)) else none
 | a,.tuple xs=>if pF a=true/\PyData.canLayAll0 xs=true then some (.bool (if neg=true then !xP a xs else xP a xs)) else none
 | _,_=>none
theorem LQ {k:Nat} {A:Around} (r:Room k A):A.units+65<cLine:=by have:=r.un; omega
section
variable {X:Cx}
theorem B7 (hu:X.A.units+65<cLine):OpR X (compareOp .NotIn) (rD X.K (KK true)):=by
 intro pins s σ H x y v u Q I rx ry q
 obtain ⟨Z,a,b,d,zh,ra,rb,e,k⟩:=q
 cases b with
 | list xs=>
  obtain ⟨hs,e⟩:=d4 e
  cases e
  obtain ⟨as,r1⟩:=ra.reads I zh rx (gi hs.1)
  obtain ⟨bs,r2⟩:=rb.reads I zh ry hs.2
  exact SeqAt.notIn_list_reads r2 r1 hs.2 (gi hs.1) (room_in_shaped hs.1 hu) ⟨.bl _,H,I,rfl,k _ Z H (New.refl zh) (.bl _)⟩
 | tuple xs=>
  obtain ⟨hs,e⟩:=d4 e
  cases e
  obtain ⟨as,r1⟩:=ra.reads I zh rx (gi hs.1)
  obtain ⟨bs,r2⟩:=rb.reads I zh ry hs.2
  exact SeqAt.notIn_tuple_reads r2 r1 hs.2 (gi hs.1) (room_in_shaped hs.1 hu) ⟨.bl _,H,I,rfl,k _ Z H (New.refl zh) (.bl _)⟩
 | _=>cases e
end
end VL
namespace VL
open PySem PySem.Spec PyProof.Rows L2
section
variable {cmp:Nat->Nat->(Bool->Shared->Prop)->Shared->Prop} {N:Nat} {key:Nat->Int}
noncomputable def ky (key:Nat->Int) (p:Array Nat) (i:Nat):Int:=key (p.getD i 0)
variable {s:Shared} (hinj:∀ i j,i<N->j<N->key i=key j->i=j) (hc:∀ i j,i<N->j<N->i≠j->∀ C:Bool->Shared->Prop,C (decide (key i<key j)) s->cmp i j C s)
end
end VL
namespace VL
open PySem PySem.Spec PyProof.Rows L2
end VL
namespace VL
open PySem PySem.Spec PyProof.Rows L2
end VL
namespace VL
open PySem PySem.Spec PyProof.Rows L2
end VL
namespace VL
open PySem PySem.Spec PyProof.Rows L2
end VL
namespace VL
open PySem PySem.Spec PyProof.Rows L2
end VL
namespace VL
open PySem PySem.Spec PyProof.Rows L2
end VL
namespace VL
open PySem PySem.Spec PyProof.Rows L2
end VL
namespace VL
open PySem PySem.Spec PyProof.Rows L2
section
variable {K:Fg} {H₀ Z₀ Z H:Hp} {δ:Dv} {σ:St} {p:Addr} {o:HO}
theorem Hold.aside (h:Hold K H₀ Z₀ Z δ σ H) (hp:H p=none) (o:HO):Hold K (upd H₀ p o) Z₀ Z δ σ (upd H p o) where
 zh:=h.zh.trans (fP hp)
 h0:=fun b u e=>by
  by_cases hb:b=p
  ·subst hb; rw [aQ] at e ⊢; exact e
  ·rw [aU hb] at e ⊢; exact h.h0 b u e
 z0:=h.z0
 zb:=fun b hb=>by
  by_cases e:b=p
  ·subst e
   have z1:=kB h.zh hp
   rw [z1,kq h.z0 z1]
  ·rw [aU e] at hb; exact h.zb b hb
 len:=h.len
 fz:=h.fz
 own:=fun i c e=>by
  obtain ⟨a,u,h1,h2,h3,h4,h5⟩:=h.own i c e
  have:a≠p:=fun z=>by rw [z,hp] at h4; cases h4
  exact ⟨a,u,h1,by rw [aU this]; exact h2,h3,by rw [aU this]; exact h4,h5⟩
 dja:=h.dja
 fr:=fun i ds e=>by
  obtain ⟨a,xs,h1,h2,h3,h4,h5⟩:=h.fr i ds e
  have:a≠p:=fun z=>by have:=h.zh _ _ h4; rw [z,hp] at this; cases this
  exact ⟨a,xs,h1,by rw [aU this]; exact h2,h3,h4,h5⟩
 nf:=h.nf
theorem Hold.inside (h:Hold K (upd H₀ p o) Z₀ Z δ σ H) (h0:H₀ p=none) (hz:Z₀ p=none):H p=some o/\Hold K H₀ Z₀ Z δ σ (fun b=>if b=p then none else H b):=by
 have hzp:Z p=none:=by rw [h.zb p (by rw [aQ]; intro z; cases z)]; exact hz
 refine ⟨h.h0 p o aQ,fun b u e=>?_,fun b u e=>?_,h.z0,fun b hb=>?_,h.len,h.fz,fun i c e=>?_,h.dja,fun i ds e=>?_,h.nf⟩
 ·show (if b=p then none else H b)=some u
  rw [if_neg (bJ e hzp)]; exact h.zh b u e
 ·show (if b=p then none else H b)=some u
  have:=bJ e h0
  rw [if_neg this]; exact h.h0 b u (by rw [aU this]; exact e)
 ·exact h.zb b (by rw [aU (fun z=>hb (by rw [z]; exact h0))]; exact hb)
 ·obtain ⟨a,u,h1,h2,h3,h4,h5⟩:=h.own i c e
  have:a≠p:=fun z=>by rw [z,aQ] at h2; cases h2
  exact ⟨a,u,h1,by rw [aU this] at h2; exact h2,h3,by show (if a=p then none else H a)=_; rw [if_neg this]; exact h4,h5⟩
 ·obtain ⟨a,xs,h1,h2,h3,h4,h5⟩:=h.fr i ds e
  have:a≠p:=fun z=>by rw [z,aQ] at h2; cases h2
  exact ⟨a,xs,h1,by rw [aU this] at h2; exact h2,h3,h4,h5⟩
end
end VL
namespace VL
open PySem PySem.Spec PyProof.Rows L2
noncomputable def OJ (a:Addr) (H:Hp):Hp:=fun b=>if b=a then none else H b
end VL
namespace VL
open PySem PySem.Spec PyProof.Rows L2
end VL
namespace VL
open PySem PySem.Spec PyProof.Rows L2
noncomputable def v9:List D->Option (List Int)
 | []=>some []
 | .int i::r=>(v9 r).bind fun l=>some (i::l)
 | _::_=>none
end VL
namespace VL
open PySem PySem.Spec PyProof.Rows L2
section
variable {X:Cx}
variable {e:Expr} {p p2 pos pos2:Pos} {te:TE} {f:Dv->Option D}
theorem jv:∀ {l:List Int} {us:List Value},Vals (l.map V.int) us->IntsAre us l
 | [],[],.nil=>.nil
 | n::l,u::us,.cons h r=>by
  obtain ⟨t,rfl⟩:=h
  exact .cons n t (jv r)
theorem uE {K:Fg} {Z:Hp}:∀ {vs:List V} {ds:List D} {l:List Int},Reps K Z vs ds->v9 ds=some l->vs=l.map V.int
 | _,_,_,.nil,h=>by cases h; rfl
 | _,.int i::ds,l,.cons r rs,h=>by
  obtain ⟨l',e,h⟩:=bind_some h
  cases h
  rw [r.int_eq,uE rs e]
  rfl
 | _,.none::ds,l,.cons r rs,h=>by cases h
 | _,.bool _::ds,l,.cons r rs,h=>by cases h
 | _,.str _::ds,l,.cons r rs,h=>by cases h
 | _,.list _::ds,l,.cons r rs,h=>by cases h
 | _,.tuple _::ds,l,.cons r rs,h=>by cases h
 | _,.dict _::ds,l,.cons r rs,h=>by cases h
end
end VL
namespace VL
open PySem PySem.Spec PyProof.Rows
noncomputable def d5:Bool->Keyed->Array Keyed->Nat->Nat->Nat->StateT SortSt Sem (Option Nat):=sortPriv% PySem.Builtin.gallop
noncomputable def di:Nat->StateT SortSt Sem Unit:=sortPriv% PySem.Builtin.setMinGallop
noncomputable def oz:Array Keyed->Array Keyed->StateT SortSt Sem (Array Keyed):=sortPriv% PySem.Builtin.mergeLo
noncomputable def oA:Array Keyed->Array Keyed->StateT SortSt Sem (Array Keyed):=sortPriv% PySem.Builtin.mergeHi
noncomputable def iy (left:Bool) (key:Keyed) (arr:Array Keyed) (base i:Nat):StateT SortSt Sem (Option Bool):=do
 let x <- elem' arr (base+i)
 if left then lt' x key else return (<- lt' key x).map (!·)
theorem wo (left:Bool) (key:Keyed) (arr:Array Keyed) (base n hint:Nat):d5 left key arr base n hint=(do
 let mut lastofs:=0
 let mut ofs:=1
 let mut lo:=0
 let mut hi:=0
 let some right <- iy left key arr base hint | return none
 if right then
  let maxofs:=n-hint
  for _ in [0:n] do
   if ofs>=maxofs then break
   let some more <- iy left key arr base (hint+ofs) | return none
   if !more then break
   lastofs:=ofs
   ofs:=2*ofs+1
  lo:=hint+lastofs+1
  hi:=hint+min ofs maxofs
 else
  let maxofs:=hint+1
  for _ in [0:n] do
   if ofs>=maxofs then break
   let some found <- iy left key arr base (hint-ofs) | return none
   if found then break
   lastofs:=ofs
   ofs:=2*ofs+1
  lo:=hint+1-min ofs maxofs
  hi:=hint-lastofs
 for _ in [0:n] do
  if lo>=hi then break
  let m:=lo+(hi-lo) / 2
  let some more <- iy left key arr base m | return none
  if more then lo:=m+1 else hi:=m
 return some hi):=rfl
end VL
namespace VL
open PySem PySem.Spec PyProof.Rows
section
variable {M:Model} {A:Around} {E:Value->Shared->Prop} {s:Shared} {st:SortSt}
theorem mJ {left:Bool} {key:Keyed} {arr:Array Keyed} {base n:Nat} {B:Nat->Bool} {lo hi:Nat} {Q:Option (Option Nat)×Nat×Nat->SortSt->Prop}
  (hb:∀ i,i<n->∀ Q:Option Bool->SortSt->Prop,Q (some (B i)) st->wpS M A E s (iy left key arr base i) Q st) (mono:∀ i j,i<=j->j<n->B j=true->B i=true)
  (h1:lo<=hi) (h2:hi<=n) (hlo:∀ i,i<lo->B i=true) (hhi:∀ i,hi<=i->i<n->B i=false)
  (h:∀ r,r<=n->(∀ i,i<r->B i=true)->(∀ i,r<=i->i<n->B i=false)->Q (none,r,r) st) :
  wpS M A E s (forIn [0:n] ((none,lo,hi):Option (Option Nat)×Nat×Nat) fun _ c=>do
   if c.2.1>=c.2.2 then pure (ForInStep.done (none,c.2.1,c.2.2)) else do
    let x <- iy left key arr base (c.2.1+(c.2.2-c.2.1) / 2)
    match x with
    | some more=>if more=true then pure (ForInStep.yield (none,c.2.1+(c.2.2-c.2.1) / 2+1,c.2.2)) else pure (ForInStep.yield (none,c.2.1,c.2.1+(c.2.2-c.2.1) / 2))
    | _=>pure (ForInStep.done (some none,c.2.1,c.2.2))) Q st:=by
 refine wpS_forRange (I:=fun t c st'=>st'=st/\∃ lo hi,c=(none,lo,hi)/\lo<=hi/\hi<=n/\hi-lo<=n-t/\(∀ i,i<lo->B i=true)/\(∀ i,hi<=i->i<n->B i=false)) ?step ?fin ⟨rfl,lo,hi,rfl,h1,h2,by omega,hlo,hhi⟩
 case fin=>
  rintro c st' ⟨rfl,lo,hi,rfl,a1,a2,a3,a4,a5⟩
  have:lo=hi:=by omega
  subst this
  exact h lo a2 a4 a5
 case step=>
  rintro t c st' _ ht ⟨rfl,lo,hi,rfl,a1,a2,a3,a4,a5⟩
  dsimp only
  by_cases q:lo>=hi
  ·rw [if_pos q]
   have:lo=hi:=by omega
   subst this
   exact wpS_pure (h lo a2 a4 a5)
  ·rw [if_neg q]
   refine wpS_bind (hb _ (by omega) _ ?_)
   dsimp only
   cases e:B (lo+(hi-lo) / 2) with
   | true=>
    simp only [if_true]
    refine wpS_pure ⟨rfl,_,_,rfl,by omega,a2,by omega,fun i hi'=>mono i _ (by omega) (by omega) e,a5⟩
   | false=>
    simp only [Bool.false_eq_true,if_false]
    refine wpS_pure ⟨rfl,_,_,rfl,by omega,by omega,by omega,a4,fun i h3 h4=>?_⟩
    cases e2:B i with
    | false=>rfl
    | true=>rw [mono _ i h3 h4 e2] at e; cases e
theorem vn {left:Bool} {key:Keyed} {arr:Array Keyed} {base n hint:Nat} {B:Nat->Bool} {Q:Option Nat->SortSt->Prop} (hh:hint<n)
  (hb:∀ i,i<n->∀ Q:Option Bool->SortSt->Prop,Q (some (B i)) st->wpS M A E s (iy left key arr base i) Q st) (mono:∀ i j,i<=j->j<n->B j=true->B i=true)
  (h:∀ r,r<=n->(∀ i,i<r->B i=true)->(∀ i,r<=i->i<n->B i=false)->Q (some r) st) :
  wpS M A E s (d5 left key arr base n hint) Q st:=by
 rw [wo]
 refine wpS_bind (hb hint hh _ ?_)
 dsimp only
 cases e:B hint with
 | true=>
  simp only [if_true]
  refine wpS_bind (wpS_mono (wpS_forRange (I:=fun t c st'=>st'=st/\∃ last ofs,c=(none,last,ofs)/\last<ofs/\t+1<=ofs/\hint+last<n/\B (hint+last)=true)
   (Q:=fun c st'=>st'=st/\∃ last ofs,c=(none,last,ofs)/\last<ofs/\hint+last<n/\B (hint+last)=true/\(n-hint<=ofs\/B (hint+ofs)=false)) ?step ?fin ⟨rfl,0,1,rfl,by omega,by omega,by omega,by simpa using e⟩) ?post)
  case fin=>
   rintro c st' ⟨rfl,last,ofs,rfl,a1,a2,a3,a4⟩
   exact ⟨rfl,last,ofs,rfl,a1,a3,a4,.inl (by omega)⟩
  case step=>
   rintro t c st' _ ht ⟨rfl,last,ofs,rfl,a1,a2,a3,a4⟩
   dsimp only
   by_cases q:ofs>=n-hint
   ·rw [if_pos q]
    exact wpS_pure ⟨rfl,last,ofs,rfl,a1,a3,a4,.inl q⟩
   ·rw [if_neg q]
    refine wpS_bind (hb _ (by omega) _ ?_)
    dsimp only
    cases e2:B (hint+ofs) with
    | false=>
     simp only [Bool.not_false,if_true]
     exact wpS_pure ⟨rfl,last,ofs,rfl,a1,a3,a4,.inr e2⟩
    | true=>
     simp only [Bool.not_true,Bool.false_eq_true,if_false]
     exact wpS_pure ⟨rfl,ofs,2*ofs+1,rfl,by omega,by omega,by omega,e2⟩
  case post=>
   rintro c st' ⟨rfl,last,ofs,rfl,a1,a3,a4,a5⟩
   dsimp only
   refine wpS_bind (mJ (lo:=hint+last+1) (hi:=hint+min ofs (n-hint)) hb mono (by omega) (by omega) (fun i hi=>mono i _ (by omega) a3 a4) (fun i h3 h4=>?_) fun r r1 r2 r3=>?_)
   ·rcases a5 with a5 | a5
    ·omega
    ·cases e2:B i with
     | false=>rfl
     | true=>rw [mono _ i (by omega) h4 e2] at a5; cases a5
   ·exact wpS_pure (h r r1 r2 r3)
 | false=>
  simp only [Bool.false_eq_true,if_false]
  refine wpS_bind (wpS_mono (wpS_forRange (I:=fun t c st'=>st'=st/\∃ last ofs,c=(none,last,ofs)/\last<ofs/\t+1<=ofs/\last<=hint/\B (hint-last)=false)
   (Q:=fun c st'=>st'=st/\∃ last ofs,c=(none,last,ofs)/\last<ofs/\last<=hint/\B (hint-last)=false/\(hint+1<=ofs\/B (hint-ofs)=true)) ?step ?fin ⟨rfl,0,1,rfl,by omega,by omega,by omega,by simpa using e⟩) ?post)
  case fin=>
   rintro c st' ⟨rfl,last,ofs,rfl,a1,a2,a3,a4⟩
   exact ⟨rfl,last,ofs,rfl,a1,a3,a4,.inl (by omega)⟩
  case step=>
   rintro t c st' _ ht ⟨rfl,last,ofs,rfl,a1,a2,a3,a4⟩
   dsimp only
   by_cases q:ofs>=hint+1
   ·rw [if_pos q]
    exact wpS_pure ⟨rfl,last,ofs,rfl,a1,a3,a4,.inl q⟩
   ·rw [if_neg q]
    refine wpS_bind (hb _ (by omega) _ ?_)
    dsimp only
    cases e2:B (hint-ofs) with
    | true=>
     simp only [if_true]
     exact wpS_pure ⟨rfl,last,ofs,rfl,a1,a3,a4,.inr e2⟩
    | false=>
     simp only [Bool.false_eq_true,if_false]
     exact wpS_pure ⟨rfl,ofs,2*ofs+1,rfl,by omega,by omega,by omega,e2⟩
  case post=>
   rintro c st' ⟨rfl,last,ofs,rfl,a1,a3,a4,a5⟩
   dsimp only
   refine wpS_bind (mJ (lo:=hint+1-min ofs (hint+1)) (hi:=hint-last) hb mono (by omega) (by omega) (fun i hi=>?_) (fun i h3 h4=>?_) fun r r1 r2 r3=>?_)
   ·rcases a5 with a5 | a5
    ·omega
    ·exact mono i _ (by omega) (by omega) a5
   ·cases e2:B i with
    | false=>rfl
    | true=>rw [mono _ i (by omega) h4 e2] at a4; cases a4
   ·exact wpS_pure (h r r1 r2 r3)
end
end VL
namespace VL
open PySem PySem.Spec PyProof.Rows
section
variable {κ:Keyed->Int} {all out l ra rb:List Keyed} {m:Keyed}
def Asc (κ:Keyed->Int) (l:List Keyed):Prop:=l.Pairwise fun x y=>κ x <= κ y
theorem Asc.app (h1:Asc κ l) (h2:Asc κ ra) (h:∀ x∈l,∀ y∈ra,κ x <= κ y):Asc κ (l++ra):=List.pairwise_append.mpr ⟨h1,h2,h⟩
theorem Asc.left (h:Asc κ (l++ra)):Asc κ l:=(List.pairwise_append.mp h).1
theorem Asc.right (h:Asc κ (l++ra)):Asc κ ra:=(List.pairwise_append.mp h).2.1
theorem Asc.mid (h:Asc κ (l++ra)):∀ x∈l,∀ y∈ra,κ x <= κ y:=(List.pairwise_append.mp h).2.2
structure LI (κ:Keyed->Int) (all out ra rb:List Keyed):Prop where
 pm:(out++(ra++rb)).Perm all
 so:Asc κ out
 le:∀ x∈out,∀ y∈ra++rb,κ x <= κ y
 sa:Asc κ ra
 sb:Asc κ rb
theorem LI.mvA (h:LI κ all out (l++ra) rb) (q:∀ x∈l,∀ y∈rb,κ x <= κ y):LI κ all (out++l) ra rb where
 pm:=by
  have:=h.pm
  simpa [List.append_assoc] using this
 so:=h.so.app h.sa.left fun x hx y hy=>h.le x hx y (by simp [hy])
 le x hx y hy:=by
  rcases List.mem_append.mp hx with hx | hx
  ·exact h.le x hx y (by simp at hy ⊢; rcases hy with hy | hy <;> simp [hy])
  ·rcases List.mem_append.mp hy with hy | hy
   ·exact h.sa.mid x hx y hy
   ·exact q x hx y hy
 sa:=h.sa.right
 sb:=h.sb
theorem LI.swap (h:LI κ all out ra rb):LI κ all out rb ra where
 pm:=((List.Perm.refl out).append List.perm_append_comm).trans h.pm
 so:=h.so
 le x hx y hy:=h.le x hx y (by simp at hy ⊢; exact hy.symm)
 sa:=h.sb
 sb:=h.sa
theorem LI.mvB (h:LI κ all out ra (l++rb)) (q:∀ x∈l,∀ y∈ra,κ x <= κ y):LI κ all (out++l) ra rb:=(h.swap.mvA q).swap
theorem LI.endA (h:LI κ all out ra []):(out++ra).Perm all/\Asc κ (out++ra):=⟨by simpa using h.pm,h.so.app h.sa fun x hx y hy=>h.le x hx y (by simp [hy])⟩
theorem LI.endB (h:LI κ all out [] rb):(out++rb).Perm all/\Asc κ (out++rb):=h.swap.endA
theorem LI.last (h:LI κ all out [m] rb) (q:∀ y∈rb,κ y <= κ m):(out++(rb++[m])).Perm all/\Asc κ (out++(rb++[m])):=
 ⟨h.swap.pm,h.so.app (h.sb.app (List.pairwise_singleton _ _) fun x hx y hy=>by rw [List.mem_singleton.mp hy]; exact q x hx) fun x hx y hy=>h.le x hx y (by simp at hy ⊢; exact hy.symm)⟩
end
section
variable {M:Model} {A:Around} {E:Value->Shared->Prop} {s:Shared} {κ:Keyed->Int} {S:Keyed->Prop} {kd:SortKind}
def dQ (M:Model) (A:Around) (E:Value->Shared->Prop) (s:Shared) (kd:SortKind) (κ:Keyed->Int) (S:Keyed->Prop):Prop:=
 ∀ x y,S x->S y->∀ (st:SortSt) (Q:Option Bool->SortSt->Prop),kindOf st=kd->Q (some (decide (κ x < κ y))) st->wpS M A E s (lt' x y) Q st
theorem bg {arr:Array Keyed} {i:Nat} {x:Keyed} {st:SortSt} {Q:Keyed->SortSt->Prop} (h:arr[i]? = some x) (q:Q x st):wpS M A E s (elem' arr i) Q st:=by
 rw [elem'_eq,h]; exact wpS_pure q
structure Stretch (κ:Keyed->Int) (S:Keyed->Prop) (arr:Array Keyed) (base n:Nat) (l:List Keyed):Prop where
 eq:(arr.toList.drop base).take n=l
 len:l.length=n
 all:∀ x∈l,S x
 asc:Asc κ l
theorem Stretch.get {arr:Array Keyed} {base n:Nat} {l:List Keyed} (h:Stretch κ S arr base n l) {i:Nat} (hi:i<l.length):arr[base+i]? = some l[i]:=by
 have e:((arr.toList.drop base).take n)[i]? = l[i]?:=by rw [h.eq]
 rw [List.getElem?_take_of_lt (by have:=h.len; omega),List.getElem?_drop,Array.getElem?_toList,List.getElem?_eq_getElem hi] at e
 exact e
theorem C6 (T:dQ M A E s kd κ S) {left:Bool} {key:Keyed} {arr:Array Keyed} {base i:Nat} {x:Keyed} {st:SortSt} {Q:Option Bool->SortSt->Prop} (hk:S key) (hx:arr[base+i]? = some x) (sx:S x) (ek:kindOf st=kd)
  (q:Q (some (if left=true then decide (κ x < κ key) else !decide (κ key < κ x))) st):wpS M A E s (iy left key arr base i) Q st:=by
 unfold iy
 refine wpS_bind (bg hx ?_)
 cases left with
 | true=>
  simp only [if_true] at q ⊢
  exact T x key sx hk st _ ek q
 | false=>
  simp only [Bool.false_eq_true,if_false] at q ⊢
  exact wpS_bind (T key x hk sx st _ ek (wpS_pure q))
theorem i5 (T:dQ M A E s kd κ S) {left:Bool} {key:Keyed} {arr:Array Keyed} {base n hint:Nat} {l:List Keyed} {st:SortSt} {Q:Option Nat->SortSt->Prop} (hs:Stretch κ S arr base n l) (hk:S key) (ek:kindOf st=kd) (hh:hint<n)
  (h:∀ l1 l2,l=l1++l2->(∀ x∈l1,if left=true then κ x < κ key else κ x <= κ key)->(∀ x∈l2,if left=true then κ key <= κ x else κ key < κ x)->Q (some l1.length) st) :
  wpS M A E s (d5 left key arr base n hint) Q st:=by
 have hl:=hs.len
 refine vn (B:=fun i=>if left=true then decide (κ (l.getD i key) < κ key) else !decide (κ key < κ (l.getD i key))) hh (fun i hi Q' q=>?_) (fun i j hij hj e=>?_) fun r hr r1 r2=>?_
 ·have e:l.getD i key=l[i]:=by simp [hl,hi]
  rw [e] at q
  exact C6 T hk (hs.get (by omega)) (hs.all _ (List.getElem_mem _)) ek q
 ·have e1:l.getD i key=l[i]'(by omega):=by simp [hl,show i<n by omega]
  have e2:l.getD j key=l[j]'(by omega):=by simp [hl,hj]
  have c:κ (l[i]'(by omega)) <= κ (l[j]'(by omega)):=by
   rcases Nat.lt_or_ge i j with q | q
   ·exact List.pairwise_iff_getElem.mp hs.asc i j (by omega) (by omega) q
   ·have:i=j:=by omega
    subst this; exact Int.le_refl _
  rw [e1]
  rw [e2] at e
  cases left with
  | true=>simp only [if_true,decide_eq_true_eq] at e ⊢; omega
  | false=>
   simp only [Bool.false_eq_true,if_false,Bool.not_eq_true',decide_eq_false_iff_not] at e ⊢
   omega
 ·have:=h (l.take r) (l.drop r) (List.take_append_drop r l).symm (fun x hx=>?_) (fun x hx=>?_)
  ·rw [List.length_take,hl,Nat.min_eq_left hr] at this; exact this
  ·obtain ⟨i,hi,rfl⟩:=List.mem_iff_getElem.mp hx
   rw [List.length_take] at hi
   have q:=r1 i (by omega)
   have e:l.getD i key=l[i]'(by omega):=by simp [hl,show i<n by omega]
   rw [e] at q
   rw [List.getElem_take]
   cases left with
   | true=>simpa using q
   | false=>simpa using q
  ·obtain ⟨i,hi,rfl⟩:=List.mem_iff_getElem.mp hx
   rw [List.length_drop] at hi
   have q:=r2 (r+i) (by omega) (by omega)
   have e:l.getD (r+i) key=l[r+i]'(by omega):=by simp [hl,show r+i<n by omega]
   rw [e] at q
   rw [List.getElem_drop]
   cases left with
   | true=>simpa using q
   | false=>simpa using q
end
end VL
namespace VL
open PySem PySem.Spec PyProof.Rows
theorem uh (a b:Array Keyed):oz a b=(do
 rule "list.sort.merge-lo"
 let mut out:Array Keyed:=#[<- elem' b 0]
 let mut ia:=0
 let mut ib:=1
 if ib==b.size then return out++a.extract ia a.size++b.extract ib b.size
 if ia+1==a.size then return out++b.extract ib b.size++a.extract ia a.size
 let mut minGallop:=gallopOf (<- get)
 for _ in [0:a.size+b.size] do
  let mut acount:=0
  let mut bcount:=0
  for _ in [0:a.size+b.size] do
   let some bWins <- lt' (<- elem' b ib) (<- elem' a ia) | return out++a.extract ia a.size++b.extract ib b.size
   if bWins then
    out:=out.push (<- elem' b ib); ib:=ib+1; bcount:=bcount+1; acount:=0
    if ib==b.size then return out++a.extract ia a.size++b.extract ib b.size
    if bcount>=minGallop then break
   else
    out:=out.push (<- elem' a ia); ia:=ia+1; acount:=acount+1; bcount:=0
    if ia+1==a.size then return out++b.extract ib b.size++a.extract ia a.size
    if acount>=minGallop then break
  rule "list.sort.gallop"
  minGallop:=minGallop+1
  for _ in [0:a.size+b.size] do
   if minGallop>1 then minGallop:=minGallop-1
   di minGallop
   let some k <- d5 false (<- elem' b ib) a ia (a.size-ia) 0 | return out++a.extract ia a.size++b.extract ib b.size
   acount:=k
   if k>0 then
    out:=out++a.extract ia (ia+k); ia:=ia+k
    if ia+1==a.size then return out++b.extract ib b.size++a.extract ia a.size
    if ia==a.size then return out++a.extract ia a.size++b.extract ib b.size
   out:=out.push (<- elem' b ib); ib:=ib+1
   if ib==b.size then return out++a.extract ia a.size++b.extract ib b.size
   let some k <- d5 true (<- elem' a ia) b ib (b.size-ib) 0 | return out++a.extract ia a.size++b.extract ib b.size
   bcount:=k
   if k>0 then
    out:=out++b.extract ib (ib+k); ib:=ib+k
    if ib==b.size then return out++a.extract ia a.size++b.extract ib b.size
   out:=out.push (<- elem' a ia); ia:=ia+1
   if ia+1==a.size then return out++b.extract ib b.size++a.extract ia a.size
   if acount<7&&bcount<7 then break
  minGallop:=minGallop+1
  di minGallop
 unsupported "internal:list.sort.merge-bound"):=rfl
section
variable {M:Model} {A:Around} {E:Value->Shared->Prop} {s:Shared} {κ:Keyed->Int} {S:Keyed->Prop} {kd:SortKind}
def SameBut (st st':SortSt):Prop:=kindOf st'=kindOf st/\arrOf st'=arrOf st/\pendingOf st'=pendingOf st/\failedOf st'=failedOf st
theorem SameBut.refl (st:SortSt):SameBut st st:=⟨rfl,rfl,rfl,rfl⟩
theorem jR {st0 st:SortSt} {g:Nat} {Q:Unit->SortSt->Prop} (sm:SameBut st0 st) (q:∀ st',SameBut st0 st'->Q () st'):wpS M A E s (di g) Q st:=by
 show wpS M A E s (modify fun x=>SortSt.mk' (kindOf x) (arrOf x) (pendingOf x) g (failedOf x)) Q st
 exact wpS_modify (q _ sm)
def MI (κ:Keyed->Int) (a b out:Array Keyed) (ia ib:Nat):Prop:=LI κ (a.toList++b.toList) out.toList (a.toList.drop ia) (b.toList.drop ib)
def jN (κ:Keyed->Int) (a b out:Array Keyed):Prop:=out.toList.Perm (a.toList++b.toList)/\Asc κ out.toList
variable {a b out:Array Keyed} {ia ib:Nat}
theorem kG {xs:Array Keyed} {i:Nat} {x:Keyed} (h:xs[i]? = some x):xs.toList.drop i=[x]++xs.toList.drop (i+1):=by
 rw [<- Array.getElem?_toList] at h
 obtain ⟨q,e⟩:=List.getElem?_eq_some_iff.mp h
 rw [List.drop_eq_getElem_cons q,e]; rfl
theorem eI {xs:Array Keyed} {i:Nat} (h:i<xs.size):∃ x,xs[i]? = some x:=⟨xs[i],Array.getElem?_eq_getElem h⟩
theorem kH {xs:Array Keyed} {i k:Nat} {l1 l2:List Keyed} (h:xs.toList.drop i=l1++l2) (hk:l1.length=k):(xs.extract i (i+k)).toList=l1/\xs.toList.drop (i+k)=l2:=by
 constructor
 ·rw [Array.toList_extract,List.extract_eq_drop_take,h,show i+k-i=k by omega,<- hk,List.take_left]
 ·rw [<- List.drop_drop,h,<- hk,List.drop_left]
theorem E2 {xs:Array Keyed} (i:Nat):(xs.extract i xs.size).toList=xs.toList.drop i:=by
 rw [Array.toList_extract,List.extract_eq_drop_take,List.take_of_length_le (by simp)]
theorem MI.pushB (h:MI κ a b out ia ib) {y:Keyed} (hy:b[ib]? = some y) (q:∀ x∈a.toList.drop ia,κ y <= κ x):MI κ a b (out.push y) ia (ib+1):=by
 unfold MI at h ⊢
 rw [kG hy] at h
 rw [Array.toList_push]
 exact h.mvB fun x hx z hz=>by rw [List.mem_singleton.mp hx]; exact q z hz
theorem MI.pushA (h:MI κ a b out ia ib) {y:Keyed} (hy:a[ia]? = some y) (q:∀ x∈b.toList.drop ib,κ y <= κ x):MI κ a b (out.push y) (ia+1) ib:=by
 unfold MI at h ⊢
 rw [kG hy] at h
 rw [Array.toList_push]
 exact h.mvA fun x hx z hz=>by rw [List.mem_singleton.mp hx]; exact q z hz
theorem MI.appA (h:MI κ a b out ia ib) {l1 l2:List Keyed} (e:a.toList.drop ia=l1++l2) (q:∀ x∈l1,∀ y∈b.toList.drop ib,κ x <= κ y):MI κ a b (out++a.extract ia (ia+l1.length)) (ia+l1.length) ib:=by
 obtain ⟨e1,e2⟩:=kH e rfl
 unfold MI at h ⊢
 rw [Array.toList_append,e1,e2]
 rw [e] at h
 exact h.mvA q
theorem MI.appB (h:MI κ a b out ia ib) {l1 l2:List Keyed} (e:b.toList.drop ib=l1++l2) (q:∀ x∈l1,∀ y∈a.toList.drop ia,κ x <= κ y):MI κ a b (out++b.extract ib (ib+l1.length)) ia (ib+l1.length):=by
 obtain ⟨e1,e2⟩:=kH e rfl
 unfold MI at h ⊢
 rw [Array.toList_append,e1,e2]
 rw [e] at h
 exact h.mvB q
theorem MI.done (h:MI κ a b out ia ib) (e:ib=b.size\/ia=a.size):jN κ a b (out++a.extract ia a.size++b.extract ib b.size):=by
 unfold jN
 unfold MI at h
 rw [Array.toList_append,Array.toList_append,E2,E2]
 rcases e with e | e
 ·have:b.toList.drop ib=[]:=by rw [e]; exact List.drop_of_length_le (by simp)
  rw [this] at h ⊢
  rw [List.append_nil]
  exact h.endA
 ·have:a.toList.drop ia=[]:=by rw [e]; exact List.drop_of_length_le (by simp)
  rw [this] at h ⊢
  rw [List.append_nil]
  exact h.endB
theorem MI.last (h:MI κ a b out ia ib) (e:ia+1=a.size) (q:∀ x,a[a.size-1]? = some x->∀ y∈b.toList,κ y <= κ x):jN κ a b (out++b.extract ib b.size++a.extract ia a.size):=by
 unfold jN
 obtain ⟨x,hx⟩:=eI (xs:=a) (i:=ia) (by omega)
 have hd:=kG hx
 have:a.toList.drop (ia+1)=[]:=by rw [e]; exact List.drop_of_length_le (by simp)
 rw [this,List.append_nil] at hd
 unfold MI at h
 rw [Array.toList_append,Array.toList_append,E2,E2,hd,List.append_assoc]
 rw [hd] at h
 exact h.last fun y hy=>q x (by rw [show a.size-1=ia by omega]; exact hx) y (List.mem_of_mem_drop hy)
end
end VL
namespace VL
open PySem PySem.Spec PyProof.Rows
section
variable {M:Model} {A:Around} {E:Value->Shared->Prop} {s:Shared} {κ:Keyed->Int} {S:Keyed->Prop} {kd:SortKind}
variable {a b:Array Keyed}
theorem Asc.rest {xs:Array Keyed} (h:Asc κ xs.toList) (i:Nat):Asc κ (xs.toList.drop i):=List.Pairwise.drop h
theorem kR {xs:Array Keyed} (h:Asc κ xs.toList) {i:Nat} {x:Keyed} (e:xs[i]? = some x):∀ y∈xs.toList.drop i,κ x <= κ y:=fun y hy=>by
 have q:=h.rest i
 rw [kG e] at q hy
 rcases List.mem_append.mp hy with hy | hy
 ·rw [List.mem_singleton.mp hy]; exact Int.le_refl _
 ·exact q.mid x (List.mem_singleton.mpr rfl) y hy
theorem fF {xs:Array Keyed} {i:Nat} {x:Keyed} (e:xs[i]? = some x):x∈xs.toList:=by
 rw [<- Array.getElem?_toList] at e; exact List.mem_of_getElem? e
theorem xg {xs:Array Keyed} (h:Asc κ xs.toList) (hS:∀ x∈xs.toList,S x) (i:Nat):Stretch κ S xs i (xs.size-i) (xs.toList.drop i) where
 eq:=List.take_of_length_le (by simp)
 len:=by simp
 all x hx:=hS x (List.mem_of_mem_drop hx)
 asc:=h.rest i
def Cu (κ:Keyed->Int) (a b:Array Keyed) (B:Nat) (ro:Option (Array Keyed)) (out:Array Keyed) (ia ib:Nat):Prop:=
 (∃ r,ro=some r/\jN κ a b r)\/(ro=none/\MI κ a b out ia ib/\ia+1<a.size/\ib<b.size/\(a.size-ia)+(b.size-ib)<=B)
abbrev Gs:Type:=Option (Array Keyed)×Array Keyed×Nat×Nat×Nat×Nat×Nat
def GsQ (κ:Keyed->Int) (a b:Array Keyed) (B:Nat) (st:SortSt) (r:ForInStep Gs) (st':SortSt):Prop:=SameBut st st'/\match r with
 | .done c=>Cu κ a b B c.1 c.2.1 c.2.2.1 c.2.2.2.1
 | .yield c=>c.1=none/\Cu κ a b B c.1 c.2.1 c.2.2.1 c.2.2.2.1
noncomputable def Lv (a b out:Array Keyed) (ia ib g k k1:Nat):StateT SortSt Sem (ForInStep Gs):=do
 let x <- elem' a ia
 if (ia+1+1==a.size)=true then pure (.done (some (out.push x++b.extract ib b.size++a.extract (ia+1) a.size),out.push x,ia+1,ib,g,k,k1))
 else if (decide (k<7)&&decide (k1<7))=true then pure (.done (none,out.push x,ia+1,ib,g,k,k1)) else pure (.yield (none,out.push x,ia+1,ib,g,k,k1))
noncomputable def NW (a b out:Array Keyed) (ia ib g k n2:Nat):StateT SortSt Sem (ForInStep Gs):=do
 let y <- elem' b ib
 if (ib+1==b.size)=true then pure (.done (some (out.push y++a.extract ia a.size++b.extract (ib+1) b.size),out.push y,ia,ib+1,g,k,n2))
 else do
  let x <- elem' a ia
  let r <- d5 true x b (ib+1) (b.size-(ib+1)) 0
  match r with
  | some k1=>
   if k1>0 then
    if (ib+1+k1==b.size)=true then pure (.done (some (out.push y++b.extract (ib+1) (ib+1+k1)++a.extract ia a.size++b.extract (ib+1+k1) b.size),out.push y++b.extract (ib+1) (ib+1+k1),ia,ib+1+k1,g,k,k1))
    else Lv a b (out.push y++b.extract (ib+1) (ib+1+k1)) ia (ib+1+k1) g k k1
   else Lv a b (out.push y) ia (ib+1) g k k1
  | _=>pure (.done (some (out.push y++a.extract ia a.size++b.extract (ib+1) b.size),out.push y,ia,ib+1,g,k,n2))
theorem Bk {st st':SortSt} {out:Array Keyed} {ia ib g k k1 B:Nat} {x:Keyed} (m:MI κ a b out ia ib) (hx:a[ia]? = some x) (q:∀ z∈b.toList.drop ib,κ x <= κ z) (hl:∀ x,a[a.size-1]? = some x->∀ y∈b.toList,κ y <= κ x) (p1:ia+1<a.size) (p2:ib<b.size) (p3:(a.size-ia)+(b.size-ib)<=B) (sm:SameBut st st') :
  wpS M A E s (Lv a b out ia ib g k k1) (GsQ κ a b B st) st':=by
 unfold Lv
 refine wpS_bind (bg hx ?_)
 have m':=m.pushA hx q
 by_cases c:(ia+1+1==a.size)=true
 ·rw [if_pos c]
  exact wpS_pure ⟨sm,.inl ⟨_,rfl,m'.last (by simpa using c) hl⟩⟩
 rw [if_neg c]
 have c:ia+1+1≠a.size:=by simpa using c
 have pt:Cu κ a b B none (out.push x) (ia+1) ib:=.inr ⟨rfl,m',by omega,p2,by omega⟩
 split
 ·exact wpS_pure ⟨sm,pt⟩
 ·exact wpS_pure ⟨sm,rfl,pt⟩
theorem Bl (T:dQ M A E s kd κ S) {st st':SortSt} {out:Array Keyed} {ia ib g k n2 B:Nat} {y:Keyed} (sa:Asc κ a.toList) (sb:Asc κ b.toList) (Sa:∀ x∈a.toList,S x) (Sb:∀ x∈b.toList,S x) (m:MI κ a b out ia ib) (hy:b[ib]? = some y) (q:∀ z∈a.toList.drop ia,κ y <= κ z) (hl:∀ x,a[a.size-1]? = some x->∀ y∈b.toList,κ y <= κ x)
  (p1:ia+1<a.size) (p2:ib<b.size) (p3:(a.size-ia)+(b.size-ib)<=B) (sm:SameBut st st') (ek:kindOf st=kd):wpS M A E s (NW a b out ia ib g k n2) (GsQ κ a b B st) st':=by
 unfold NW
 refine wpS_bind (bg hy ?_)
 have mB:=m.pushB hy q
 by_cases c3:(ib+1==b.size)=true
 ·rw [if_pos c3]
  exact wpS_pure ⟨sm,.inl ⟨_,rfl,mB.done (.inl (by simpa using c3))⟩⟩
 rw [if_neg c3]
 have c3:ib+1≠b.size:=by simpa using c3
 obtain ⟨x,hx⟩:=eI (xs:=a) (i:=ia) (by omega)
 refine wpS_bind (bg hx ?_)
 refine wpS_bind (i5 T (xg sb Sb (ib+1)) (Sa x (fF hx)) (sm.1.trans ek) (by omega) fun k1 k2 ek2 f1 f2=>?_)
 simp only [if_true] at f1 f2
 dsimp only
 rcases Nat.eq_zero_or_pos k1.length with h1 | h1
 ·rw [if_neg (by omega)]
  have:k1=[]:=List.length_eq_zero_iff.mp h1
  subst this
  exact Bk mB hx (fun z hz=>f2 z (by rw [ek2,List.nil_append] at hz; exact hz)) hl p1 (by omega) (by omega) sm
 ·rw [if_pos h1]
  have mC:=mB.appB ek2 fun z hz u hu=>Int.le_trans (Int.le_of_lt (f1 z hz)) (kR sa hx u hu)
  have ln:k1.length+k2.length=b.size-(ib+1):=by
   have:=congrArg List.length ek2
   rw [List.length_append,List.length_drop,Array.length_toList] at this
   exact this.symm
  by_cases c4:(ib+1+k1.length==b.size)=true
  ·rw [if_pos c4]
   exact wpS_pure ⟨sm,.inl ⟨_,rfl,mC.done (.inl (by simpa using c4))⟩⟩
  rw [if_neg c4]
  have c4:ib+1+k1.length≠b.size:=by simpa using c4
  exact Bk mC hx (fun z hz=>f2 z (by rw [(kH ek2 rfl).2] at hz; exact hz)) hl p1 (by omega) (by omega) sm
theorem GsQ.y {B:Nat} {st st':SortSt} {c:Gs} (h:GsQ κ a b B st (.yield c) st'):SameBut st st'/\∃ out ia ib g x y,c=(none,out,ia,ib,g,x,y)/\MI κ a b out ia ib/\ia+1<a.size/\ib<b.size/\(a.size-ia)+(b.size-ib)<=B:=by
 obtain ⟨sm,e,pt⟩:=h
 obtain ⟨ro,out,ia,ib,g,x,y⟩:=c
 have e:ro=none:=e
 subst e
 rcases pt with ⟨r,e,_⟩ | ⟨_,m,p1,p2,p3⟩
 ·cases e
 ·exact ⟨sm,out,ia,ib,g,x,y,rfl,m,p1,p2,p3⟩
theorem sL (T:dQ M A E s kd κ S) {st:SortSt} {Q:Array Keyed->SortSt->Prop} (sa:Asc κ a.toList) (sb:Asc κ b.toList) (Sa:∀ x∈a.toList,S x) (Sb:∀ x∈b.toList,S x) (na:1<=a.size) (nb:1<=b.size)
  (h0:∀ y,b[0]? = some y->∀ x∈a.toList,κ y <= κ x) (hl:∀ x,a[a.size-1]? = some x->∀ y∈b.toList,κ y <= κ x) (ek:kindOf st=kd) (h:∀ out st',jN κ a b out->SameBut st st'->Q out st'):wpS M A E s (oz a b) Q st:=by
 rw [uh]
 refine wpS_bind (wpS_lift (wpAny_rule ⟨rfl,?_⟩))
 obtain ⟨y0,hy0⟩:=eI (xs:=b) (i:=0) (by omega)
 refine wpS_bind (bg hy0 ?_)
 dsimp only
 have m0:MI κ a b #[] 0 0:=⟨by simp,List.Pairwise.nil,fun x hx=>by simp at hx,sa,sb⟩
 have m1:MI κ a b #[y0] 0 1:=m0.pushB hy0 fun x hx=>h0 y0 hy0 x hx
 by_cases c1:(1==b.size)=true
 ·rw [if_pos c1]
  exact wpS_pure (h _ _ (m1.done (.inl (by simpa using c1))) (.refl _))
 rw [if_neg c1]
 have c1:1≠b.size:=by simpa using c1
 by_cases c2:(0+1==a.size)=true
 ·rw [if_pos c2]
  exact wpS_pure (h _ _ (m1.last (by simpa using c2) hl) (.refl _))
 rw [if_neg c2]
 have c2:0+1≠a.size:=by simpa using c2
 refine wpS_bind (wpS_get ?_)
 refine wpS_bind (wpS_mono (wpS_forRange (I:=fun t c st'=>SameBut st st'/\∃ out ia ib g,c=(none,out,ia,ib,g)/\MI κ a b out ia ib/\ia+1<a.size/\ib<b.size/\(a.size-ia)+(b.size-ib)+t+1<=a.size+b.size)
  (Q:=fun c st'=>SameBut st st'/\∃ r,c.1=some r/\jN κ a b r) ?step ?fin ⟨.refl _,_,_,_,_,rfl,m1,by omega,by omega,by omega⟩) ?post)
 case fin=>
  rintro c st' ⟨sm,out,ia,ib,g,rfl,m,p1,p2,p3⟩
  omega
 case post=>
  rintro c st' ⟨sm,r,e,g⟩
  rw [e]
  exact wpS_pure (h r st' g sm)
 case step=>
  rintro t c st1 _ ht ⟨sm1,out,ia,ib,g,rfl,m,p1,p2,p3⟩
  dsimp only
  refine wpS_bind (wpS_mono (wpS_forRange (I:=fun u c st'=>SameBut st st'/\∃ out ia ib x y,c=(none,out,ia,ib,x,y)/\MI κ a b out ia ib/\ia+1<a.size/\ib<b.size/\(a.size-ia)+(b.size-ib)+t+1+min u 1<=a.size+b.size)
   (Q:=fun c st'=>SameBut st st'/\Cu κ a b (a.size+b.size-t-2) c.1 c.2.1 c.2.2.1 c.2.2.2.1) ?step1 ?fin1 ⟨sm1,_,_,_,_,_,rfl,m,p1,p2,by omega⟩) ?post1)
  case fin1=>
   rintro c st' ⟨sm,out,ia,ib,x,y,rfl,m,p1,p2,p3⟩
   exact ⟨sm,.inr ⟨rfl,m,p1,p2,show a.size-ia+(b.size-ib)<=_ by omega⟩⟩
  case step1=>
   rintro u c st2 _ hu ⟨sm2,out,ia,ib,n1,n2,rfl,m,p1,p2,p3⟩
   dsimp only
   obtain ⟨y,hy⟩:=eI (xs:=b) (i:=ib) p2
   obtain ⟨x,hx⟩:=eI (xs:=a) (i:=ia) (by omega)
   refine wpS_bind (bg hy (wpS_bind (bg hx (wpS_bind (T y x (Sb y (fF hy)) (Sa x (fF hx)) st2 _ (sm2.1.trans ek) ?_)))))
   dsimp only
   by_cases q:κ y < κ x
   ·simp only [q,decide_true,if_true]
    refine wpS_bind (bg hy ?_)
    have m':=m.pushB hy fun z hz=>Int.le_trans (Int.le_of_lt q) (kR sa hx z hz)
    by_cases c3:(ib+1==b.size)=true
    ·rw [if_pos c3]
     exact wpS_pure ⟨sm2,.inl ⟨_,rfl,m'.done (.inl (by simpa using c3))⟩⟩
    rw [if_neg c3]
    have c3:ib+1≠b.size:=by simpa using c3
    split
    ·exact wpS_pure ⟨sm2,.inr ⟨rfl,m',p1,show ib+1<b.size by omega,show a.size-ia+(b.size-(ib+1))<=_ by omega⟩⟩
    ·exact wpS_pure ⟨sm2,_,_,_,_,_,rfl,m',p1,by omega,by omega⟩
   ·simp only [q,decide_false,Bool.false_eq_true,if_false]
    refine wpS_bind (bg hx ?_)
    have m':=m.pushA hx fun z hz=>Int.le_trans (Int.not_lt.mp q) (kR sb hy z hz)
    by_cases c3:(ia+1+1==a.size)=true
    ·rw [if_pos c3]
     exact wpS_pure ⟨sm2,.inl ⟨_,rfl,m'.last (by simpa using c3) hl⟩⟩
    rw [if_neg c3]
    have c3:ia+1+1≠a.size:=by simpa using c3
    split
    ·exact wpS_pure ⟨sm2,.inr ⟨rfl,m',show ia+1+1<a.size by omega,p2,show a.size-(ia+1)+(b.size-ib)<=_ by omega⟩⟩
    ·exact wpS_pure ⟨sm2,_,_,_,_,_,rfl,m',by omega,p2,by omega⟩
  case post1=>
   rintro ⟨ro,out,ia,ib,n1,n2⟩ st2 ⟨sm2,pt⟩
   rcases pt with ⟨r,e,gd⟩ | ⟨e,m,p1,p2,p3⟩
   ·have e:ro=some r:=e
    subst e
    exact wpS_pure ⟨sm2,r,rfl,gd⟩
   have e:ro=none:=e
   subst e
   dsimp only at m p1 p2 p3 ⊢
   refine wpS_bind (wpS_lift (wpAny_rule ⟨rfl,?_⟩))
   refine wpS_bind (wpS_mono (wpS_forRange (I:=fun u c st'=>SameBut st st'/\∃ out ia ib g x y,c=(none,out,ia,ib,g,x,y)/\MI κ a b out ia ib/\ia+1<a.size/\ib<b.size/\(a.size-ia)+(b.size-ib)<=a.size+b.size-t-2)
    (Q:=fun c st'=>SameBut st st'/\Cu κ a b (a.size+b.size-t-2) c.1 c.2.1 c.2.2.1 c.2.2.2.1) ?step2 ?fin2 ⟨sm2,_,_,_,_,_,_,rfl,m,p1,p2,p3⟩) ?post2)
   case fin2=>
    rintro c st' ⟨sm,out,ia,ib,g,x,y,rfl,m,p1,p2,p3⟩
    exact ⟨sm,.inr ⟨rfl,m,p1,p2,p3⟩⟩
   case post2=>
    rintro ⟨ro,out,ia,ib,g,n1,n2⟩ st3 ⟨sm3,pt⟩
    rcases pt with ⟨r,e,gd⟩ | ⟨e,m,p1,p2,p3⟩
    ·have e:ro=some r:=e
     subst e
     exact wpS_pure ⟨sm3,r,rfl,gd⟩
    have e:ro=none:=e
    subst e
    dsimp only at m p1 p2 p3 ⊢
    exact wpS_bind (jR sm3 fun st4 sm4=>wpS_pure ⟨sm4,_,_,_,_,rfl,m,p1,p2,by omega⟩)
   case step2=>
    rintro u c st3 _ hu ⟨sm3,out,ia,ib,g,n1,n2,rfl,m,p1,p2,p3⟩
    dsimp only
    obtain ⟨y,hy⟩:=eI (xs:=b) (i:=ib) p2
    have Sy:=Sb y (fF hy)
    rcases Nat.lt_or_ge 1 g with hg | hg
    all_goals
     first
     | rw [if_pos hg]
     | rw [if_neg (Nat.not_lt.mpr hg)]
     refine wpS_bind (jR sm3 fun st4 sm4=>?_)
     refine wpS_bind (bg hy ?_)
     refine wpS_bind (i5 T (xg sa Sa ia) Sy (sm4.1.trans ek) (by omega) fun l1 l2 el e1 e2=>?_)
     simp only [Bool.false_eq_true,if_false] at e1 e2
     dsimp only
     rcases Nat.eq_zero_or_pos l1.length with h1 | h1
     ·rw [if_neg (by omega)]
      have l1n:l1=[]:=List.length_eq_zero_iff.mp h1
      subst l1n
      refine wpS_mono (Bl (B:=a.size+b.size-t-2) (out:=out) (ia:=ia) (ib:=ib) (k:=0) (n2:=n2) T sa sb Sa Sb m hy (fun z hz=>Int.le_of_lt (e2 z (by rw [el,List.nil_append] at hz; exact hz))) hl p1 p2 p3 sm4 ek) fun r st5 gq=>?_
      cases r with
      | done c=>exact gq
      | yield c=>exact gq.y
     ·rw [if_pos h1]
      have mA:=m.appA el fun x hx z hz=>Int.le_trans (e1 x hx) (kR sb hy z hz)
      have ln:l1.length+l2.length=a.size-ia:=by
       have:=congrArg List.length el
       rw [List.length_append,List.length_drop,Array.length_toList] at this
       exact this.symm
      by_cases c3:(ia+l1.length+1==a.size)=true
      ·rw [if_pos c3]
       exact wpS_pure ⟨sm4,.inl ⟨_,rfl,mA.last (by simpa using c3) hl⟩⟩
      rw [if_neg c3]
      by_cases c4:(ia+l1.length==a.size)=true
      ·rw [if_pos c4]
       exact wpS_pure ⟨sm4,.inl ⟨_,rfl,mA.done (.inr (by simpa using c4))⟩⟩
      rw [if_neg c4]
      have c3:ia+l1.length+1≠a.size:=by simpa using c3
      have c4:ia+l1.length≠a.size:=by simpa using c4
      refine wpS_mono (Bl (B:=a.size+b.size-t-2) (out:=out++a.extract ia (ia+l1.length)) (ia:=ia+l1.length) (ib:=ib) (k:=l1.length) (n2:=n2) T sa sb Sa Sb mA hy (fun z hz=>Int.le_of_lt (e2 z (by rw [(kH el rfl).2] at hz; exact hz))) hl (by omega) p2 (by omega) sm4 ek) fun r st5 gq=>?_
      cases r with
      | done c=>exact gq
      | yield c=>exact gq.y
end
end VL
namespace VL
open PySem PySem.Spec PyProof.Rows
theorem ui (a b:Array Keyed):oA a b=(do
 rule "list.sort.merge-hi"
 let mut na:=a.size-1
 let mut nb:=b.size
 let mut out:Array Keyed:=#[<- elem' a na]
 if na==0 then return a.extract 0 na++b.extract 0 nb++out.reverse
 if nb==1 then return b.extract 0 nb++a.extract 0 na++out.reverse
 let mut minGallop:=gallopOf (<- get)
 for _ in [0:a.size+b.size] do
  let mut acount:=0
  let mut bcount:=0
  for _ in [0:a.size+b.size] do
   let some aWins <- lt' (<- elem' b (nb-1)) (<- elem' a (na-1)) | return a.extract 0 na++b.extract 0 nb++out.reverse
   if aWins then
    na:=na-1; out:=out.push (<- elem' a na); acount:=acount+1; bcount:=0
    if na==0 then return a.extract 0 na++b.extract 0 nb++out.reverse
    if acount>=minGallop then break
   else
    nb:=nb-1; out:=out.push (<- elem' b nb); bcount:=bcount+1; acount:=0
    if nb==1 then return b.extract 0 nb++a.extract 0 na++out.reverse
    if bcount>=minGallop then break
  rule "list.sort.gallop"
  minGallop:=minGallop+1
  for _ in [0:a.size+b.size] do
   if minGallop>1 then minGallop:=minGallop-1
   di minGallop
   let some at_ <- d5 false (<- elem' b (nb-1)) a 0 na (na-1) | return a.extract 0 na++b.extract 0 nb++out.reverse
   let k:=na-at_
   acount:=k
   if k>0 then
    out:=out++(a.extract at_ na).reverse; na:=at_
    if na==0 then return a.extract 0 na++b.extract 0 nb++out.reverse
   nb:=nb-1; out:=out.push (<- elem' b nb)
   if nb==1 then return b.extract 0 nb++a.extract 0 na++out.reverse
   let some at_ <- d5 true (<- elem' a (na-1)) b 0 nb (nb-1) | return a.extract 0 na++b.extract 0 nb++out.reverse
   let k:=nb-at_
   bcount:=k
   if k>0 then
    out:=out++(b.extract at_ nb).reverse; nb:=at_
    if nb==1 then return b.extract 0 nb++a.extract 0 na++out.reverse
    if nb==0 then return a.extract 0 na++b.extract 0 nb++out.reverse
   na:=na-1; out:=out.push (<- elem' a na)
   if na==0 then return a.extract 0 na++b.extract 0 nb++out.reverse
   if acount<7&&bcount<7 then break
  minGallop:=minGallop+1
  di minGallop
 unsupported "internal:list.sort.merge-bound"):=rfl
section
variable {M:Model} {A:Around} {E:Value->Shared->Prop} {s:Shared} {κ:Keyed->Int} {S:Keyed->Prop} {kd:SortKind}
variable {a b out:Array Keyed} {na nb:Nat}
theorem asc_neg {l:List Keyed}:Asc (fun x=>- κ x) l↔Asc κ l.reverse:=by
 unfold Asc
 rw [List.pairwise_reverse]
 constructor
 ·intro h; exact h.imp fun {x y} (q:- κ x <= - κ y)=>(by omega:κ y <= κ x)
 ·intro h; exact h.imp fun {x y} (q:κ y <= κ x)=>(by omega:- κ x <= - κ y)
def HI (κ:Keyed->Int) (a b out:Array Keyed) (na nb:Nat):Prop:=LI (fun x=>- κ x) (a.toList++b.toList) out.toList (a.toList.take na).reverse (b.toList.take nb).reverse
theorem j2 {xs:Array Keyed} {i:Nat} {x:Keyed} (h:xs[i]? = some x):(xs.toList.take (i+1)).reverse=[x]++(xs.toList.take i).reverse:=by
 rw [<- Array.getElem?_toList] at h
 rw [List.take_add_one,h]
 simp
theorem HI.pushB (h:HI κ a b out na (nb+1)) {y:Keyed} (hy:b[nb]? = some y) (q:∀ x∈a.toList.take na,κ x <= κ y):HI κ a b (out.push y) na nb:=by
 unfold HI at h ⊢
 rw [j2 hy] at h
 rw [Array.toList_push]
 exact h.mvB fun x hx z hz=>by
  have:=q z (List.mem_reverse.mp hz)
  rw [List.mem_singleton.mp hx]
  omega
theorem HI.pushA (h:HI κ a b out (na+1) nb) {y:Keyed} (hy:a[na]? = some y) (q:∀ x∈b.toList.take nb,κ x <= κ y):HI κ a b (out.push y) na nb:=by
 unfold HI at h ⊢
 rw [j2 hy] at h
 rw [Array.toList_push]
 exact h.mvA fun x hx z hz=>by
  have:=q z (List.mem_reverse.mp hz)
  rw [List.mem_singleton.mp hx]
  omega
theorem j3 {xs:Array Keyed} {n:Nat} {l1 l2:List Keyed} (hn:n<=xs.size) (h:xs.toList.take n=l1++l2):(xs.extract l1.length n).reverse.toList=l2.reverse/\xs.toList.take l1.length=l1:=by
 have hl:l1.length+l2.length=n:=by
  have:=congrArg List.length h
  rw [List.length_append,List.length_take,Array.length_toList] at this
  omega
 constructor
 ·rw [Array.toList_reverse,Array.toList_extract,List.extract_eq_drop_take]
  congr 1
  have:(xs.toList.take n).drop l1.length=l2:=by rw [h,List.drop_left]
  rw [<- this,List.drop_take]
 ·have:(xs.toList.take n).take l1.length=l1:=by rw [h,List.take_left]
  rw [List.take_take,Nat.min_eq_left (by omega)] at this
  exact this
theorem HI.appA (h:HI κ a b out na nb) {l1 l2:List Keyed} (hn:na<=a.size) (e:a.toList.take na=l1++l2) (q:∀ x∈l2,∀ y∈b.toList.take nb,κ y <= κ x):HI κ a b (out++(a.extract l1.length na).reverse) l1.length nb:=by
 obtain ⟨e1,e2⟩:=j3 hn e
 unfold HI at h ⊢
 rw [Array.toList_append,e1,e2]
 rw [e,List.reverse_append] at h
 exact h.mvA fun x hx y hy=>by have:=q x (List.mem_reverse.mp hx) y (List.mem_reverse.mp hy); omega
theorem HI.appB (h:HI κ a b out na nb) {l1 l2:List Keyed} (hn:nb<=b.size) (e:b.toList.take nb=l1++l2) (q:∀ x∈l2,∀ y∈a.toList.take na,κ y <= κ x):HI κ a b (out++(b.extract l1.length nb).reverse) na l1.length:=by
 obtain ⟨e1,e2⟩:=j3 hn e
 unfold HI at h ⊢
 rw [Array.toList_append,e1,e2]
 rw [e,List.reverse_append] at h
 exact h.mvB fun x hx y hy=>by have:=q x (List.mem_reverse.mp hx) y (List.mem_reverse.mp hy); omega
theorem BS {xs:Array Keyed} (n:Nat):(xs.extract 0 n).toList=xs.toList.take n:=by
 rw [Array.toList_extract,List.extract_eq_drop_take,Nat.sub_zero,List.drop_zero]
theorem oR {l:List Keyed} {r:Array Keyed} (e:r.toList=l.reverse) (h:l.Perm (a.toList++b.toList)/\Asc (fun x=>- κ x) l):jN κ a b r:=by
 unfold jN
 rw [e]
 exact ⟨(List.reverse_perm l).trans h.1,asc_neg.mp h.2⟩
theorem HI.done (h:HI κ a b out na nb) (e:na=0\/nb=0):jN κ a b (a.extract 0 na++b.extract 0 nb++out.reverse):=by
 unfold HI at h
 rcases e with rfl | rfl
 ·rw [List.take_zero,List.reverse_nil] at h
  exact oR (by simp [BS]) h.endB
 ·rw [List.take_zero,List.reverse_nil] at h
  exact oR (by simp [BS]) h.endA
theorem HI.first (h:HI κ a b out na nb) (e:nb=1) (q:∀ y,b[0]? = some y->∀ x∈a.toList,κ y <= κ x) (hb:1<=b.size):jN κ a b (b.extract 0 nb++a.extract 0 na++out.reverse):=by
 subst e
 obtain ⟨y,hy⟩:=eI (xs:=b) (i:=0) (by omega)
 unfold HI at h
 have t:=j2 hy
 rw [List.take_zero,List.reverse_nil,List.append_nil] at t
 have t:(b.toList.take 1).reverse=[y]:=t
 rw [t] at h
 have t2:b.toList.take 1=[y]:=by rw [<- List.reverse_reverse (b.toList.take 1),t]; rfl
 exact oR (by simp [BS,t2]) (h.swap.last fun x hx=>by have:=q y hy x (List.mem_of_mem_take (List.mem_reverse.mp hx)); omega)
theorem kQ {xs:Array Keyed} (h:Asc κ xs.toList) {i:Nat} {x:Keyed} (e:xs[i]? = some x):∀ y∈xs.toList.take (i+1),κ y <= κ x:=fun y hy=>by
 have q:Asc κ (xs.toList.take (i+1)):=List.Pairwise.take h
 have t:xs.toList.take (i+1)=xs.toList.take i++[x]:=by rw [<- List.reverse_reverse (xs.toList.take (i+1)),j2 e]; simp
 rw [t] at q hy
 rcases List.mem_append.mp hy with hy | hy
 ·exact q.mid y hy x (List.mem_singleton.mpr rfl)
 ·rw [List.mem_singleton.mp hy]; exact Int.le_refl _
theorem tj {xs:Array Keyed} (h:Asc κ xs.toList) (hS:∀ x∈xs.toList,S x) {n:Nat} (hn:n<=xs.size):Stretch κ S xs 0 n (xs.toList.take n) where
 eq:=by rw [List.drop_zero]
 len:=by rw [List.length_take,Array.length_toList]; omega
 all x hx:=hS x (List.mem_of_mem_take hx)
 asc:=List.Pairwise.take h
end
end VL
namespace VL
open PySem PySem.Spec PyProof.Rows
section
variable {M:Model} {A:Around} {E:Value->Shared->Prop} {s:Shared} {κ:Keyed->Int} {S:Keyed->Prop} {kd:SortKind}
variable {a b:Array Keyed}
abbrev Hs:Type:=Option (Array Keyed)×Nat×Nat×Array Keyed×Nat×Nat×Nat
def vg (κ:Keyed->Int) (a b:Array Keyed) (B:Nat) (ro:Option (Array Keyed)) (na nb:Nat) (out:Array Keyed):Prop:=
 (∃ r,ro=some r/\jN κ a b r)\/(ro=none/\HI κ a b out na nb/\1<=na/\2<=nb/\na<=a.size/\nb<=b.size/\na+nb<=B)
def HsQ (κ:Keyed->Int) (a b:Array Keyed) (B:Nat) (st:SortSt) (r:ForInStep Hs) (st':SortSt):Prop:=SameBut st st'/\match r with
 | .done c=>vg κ a b B c.1 c.2.1 c.2.2.1 c.2.2.2.1
 | .yield c=>c.1=none/\vg κ a b B c.1 c.2.1 c.2.2.1 c.2.2.2.1
noncomputable def LF (a b out:Array Keyed) (na nb g k k1:Nat):StateT SortSt Sem (ForInStep Hs):=do
 let x <- elem' a (na-1)
 if (na-1==0)=true then pure (.done (some (a.extract 0 (na-1)++b.extract 0 nb++(out.push x).reverse),na-1,nb,out.push x,g,k,k1))
 else if (decide (k<7)&&decide (k1<7))=true then pure (.done (none,na-1,nb,out.push x,g,k,k1)) else pure (.yield (none,na-1,nb,out.push x,g,k,k1))
noncomputable def NZ (a b out:Array Keyed) (na nb g k n2:Nat):StateT SortSt Sem (ForInStep Hs):=do
 let y <- elem' b (nb-1)
 if (nb-1==1)=true then pure (.done (some (b.extract 0 (nb-1)++a.extract 0 na++(out.push y).reverse),na,nb-1,out.push y,g,k,n2))
 else do
  let x <- elem' a (na-1)
  let r <- d5 true x b 0 (nb-1) (nb-1-1)
  match r with
  | some k1=>
   if nb-1-k1>0 then
    if (k1==1)=true then pure (.done (some (b.extract 0 k1++a.extract 0 na++(out.push y++(b.extract k1 (nb-1)).reverse).reverse),na,k1,out.push y++(b.extract k1 (nb-1)).reverse,g,k,nb-1-k1))
    else if (k1==0)=true then pure (.done (some (a.extract 0 na++b.extract 0 k1++(out.push y++(b.extract k1 (nb-1)).reverse).reverse),na,k1,out.push y++(b.extract k1 (nb-1)).reverse,g,k,nb-1-k1))
    else LF a b (out.push y++(b.extract k1 (nb-1)).reverse) na k1 g k (nb-1-k1)
   else LF a b (out.push y) na (nb-1) g k (nb-1-k1)
  | _=>pure (.done (some (a.extract 0 na++b.extract 0 (nb-1)++(out.push y).reverse),na,nb-1,out.push y,g,k,n2))
theorem BK {st st':SortSt} {out:Array Keyed} {na nb g k k1 B:Nat} {x:Keyed} (m:HI κ a b out na nb) (hx:a[na-1]? = some x) (q:∀ z∈b.toList.take nb,κ z <= κ x) (p1:1<=na) (p2:2<=nb) (p4:na<=a.size) (p5:nb<=b.size) (p3:na+nb<=B) (sm:SameBut st st') :
  wpS M A E s (LF a b out na nb g k k1) (HsQ κ a b B st) st':=by
 unfold LF
 refine wpS_bind (bg hx ?_)
 have m':HI κ a b (out.push x) (na-1) nb:=HI.pushA (by rw [show na-1+1=na by omega]; exact m) hx q
 by_cases c:(na-1==0)=true
 ·rw [if_pos c]
  exact wpS_pure ⟨sm,.inl ⟨_,rfl,m'.done (.inl (by simpa using c))⟩⟩
 rw [if_neg c]
 have c:na-1≠0:=by simpa using c
 have pt:vg κ a b B none (na-1) nb (out.push x):=.inr ⟨rfl,m',by omega,p2,by omega,p5,by omega⟩
 split
 ·exact wpS_pure ⟨sm,pt⟩
 ·exact wpS_pure ⟨sm,rfl,pt⟩
theorem BL (T:dQ M A E s kd κ S) {st st':SortSt} {out:Array Keyed} {na nb g k n2 B:Nat} {y:Keyed} (sa:Asc κ a.toList) (sb:Asc κ b.toList) (Sa:∀ x∈a.toList,S x) (Sb:∀ x∈b.toList,S x) (m:HI κ a b out na nb) (hy:b[nb-1]? = some y) (q:∀ z∈a.toList.take na,κ z <= κ y) (h0:∀ y,b[0]? = some y->∀ x∈a.toList,κ y <= κ x)
  (p1:1<=na) (p2:2<=nb) (p4:na<=a.size) (p5:nb<=b.size) (p3:na+nb<=B) (sm:SameBut st st') (ek:kindOf st=kd):wpS M A E s (NZ a b out na nb g k n2) (HsQ κ a b B st) st':=by
 unfold NZ
 refine wpS_bind (bg hy ?_)
 have mB:HI κ a b (out.push y) na (nb-1):=HI.pushB (by rw [show nb-1+1=nb by omega]; exact m) hy q
 by_cases c3:(nb-1==1)=true
 ·rw [if_pos c3]
  exact wpS_pure ⟨sm,.inl ⟨_,rfl,mB.first (by simpa using c3) h0 (by omega)⟩⟩
 rw [if_neg c3]
 have c3:nb-1≠1:=by simpa using c3
 obtain ⟨x,hx⟩:=eI (xs:=a) (i:=na-1) (by omega)
 refine wpS_bind (bg hx ?_)
 have ax:∀ u∈a.toList.take na,κ u <= κ x:=fun u hu=>kQ sa hx u (by rw [show na-1+1=na by omega]; exact hu)
 refine wpS_bind (i5 T (tj sb Sb (n:=nb-1) (by omega)) (Sa x (fF hx)) (sm.1.trans ek) (by omega) fun k1 k2 ek2 f1 f2=>?_)
 simp only [if_true] at f1 f2
 dsimp only
 have ln:k1.length+k2.length=nb-1:=by
  have:=congrArg List.length ek2
  rw [List.length_append,List.length_take,Array.length_toList] at this
  omega
 rcases Nat.eq_zero_or_pos (nb-1-k1.length) with h1 | h1
 ·rw [if_neg (by omega)]
  have:k2=[]:=List.length_eq_zero_iff.mp (by omega)
  subst this
  exact BK mB hx (fun z hz=>Int.le_of_lt (f1 z (by rw [ek2,List.append_nil] at hz; exact hz))) p1 (by omega) p4 (by omega) (by omega) sm
 ·rw [if_pos h1]
  have mC:=mB.appB (by omega) ek2 fun z hz u hu=>Int.le_trans (ax u hu) (f2 z hz)
  by_cases c4:(k1.length==1)=true
  ·rw [if_pos c4]
   exact wpS_pure ⟨sm,.inl ⟨_,rfl,mC.first (by simpa using c4) h0 (by omega)⟩⟩
  rw [if_neg c4]
  by_cases c5:(k1.length==0)=true
  ·rw [if_pos c5]
   exact wpS_pure ⟨sm,.inl ⟨_,rfl,mC.done (.inr (by simpa using c5))⟩⟩
  rw [if_neg c5]
  have c4:k1.length≠1:=by simpa using c4
  have c5:k1.length≠0:=by simpa using c5
  exact BK mC hx (fun z hz=>Int.le_of_lt (f1 z (by rw [(j3 (by omega) ek2).2] at hz; exact hz))) p1 (by omega) p4 (by omega) (by omega) sm
theorem HsQ.y {B:Nat} {st st':SortSt} {c:Hs} (h:HsQ κ a b B st (.yield c) st'):SameBut st st'/\∃ na nb out g x y,c=(none,na,nb,out,g,x,y)/\HI κ a b out na nb/\1<=na/\2<=nb/\na<=a.size/\nb<=b.size/\na+nb<=B:=by
 obtain ⟨sm,e,pt⟩:=h
 obtain ⟨ro,na,nb,out,g,x,y⟩:=c
 have e:ro=none:=e
 subst e
 rcases pt with ⟨r,e,_⟩ | ⟨_,m,p1,p2,p3⟩
 ·cases e
 ·exact ⟨sm,na,nb,out,g,x,y,rfl,m,p1,p2,p3⟩
theorem sM (T:dQ M A E s kd κ S) {st:SortSt} {Q:Array Keyed->SortSt->Prop} (sa:Asc κ a.toList) (sb:Asc κ b.toList) (Sa:∀ x∈a.toList,S x) (Sb:∀ x∈b.toList,S x) (na:1<=a.size) (nb:1<=b.size)
  (h0:∀ y,b[0]? = some y->∀ x∈a.toList,κ y <= κ x) (hl:∀ x,a[a.size-1]? = some x->∀ y∈b.toList,κ y <= κ x) (ek:kindOf st=kd) (h:∀ out st',jN κ a b out->SameBut st st'->Q out st'):wpS M A E s (oA a b) Q st:=by
 rw [ui]
 refine wpS_bind (wpS_lift (wpAny_rule ⟨rfl,?_⟩))
 obtain ⟨x0,hx0⟩:=eI (xs:=a) (i:=a.size-1) (by omega)
 refine wpS_bind (bg hx0 ?_)
 dsimp only
 have m0:HI κ a b #[] a.size b.size:=by
  have e1:a.toList.take a.size=a.toList:=List.take_of_length_le (by simp)
  have e2:b.toList.take b.size=b.toList:=List.take_of_length_le (by simp)
  unfold HI
  rw [e1,e2]
  exact ⟨by rw [List.nil_append]; exact (List.reverse_perm _).append (List.reverse_perm _),List.Pairwise.nil,fun x hx=>by simp at hx,asc_neg.mpr (by rw [List.reverse_reverse]; exact sa),asc_neg.mpr (by rw [List.reverse_reverse]; exact sb)⟩
 have m1:HI κ a b #[x0] (a.size-1) b.size:=HI.pushA (out:=#[]) (nb:=b.size) (na:=a.size-1) (by rw [show a.size-1+1=a.size by omega]; exact m0) hx0 fun z hz=>hl x0 hx0 z (List.mem_of_mem_take hz)
 by_cases c1:(a.size-1==0)=true
 ·rw [if_pos c1]
  exact wpS_pure (h _ _ (m1.done (.inl (by simpa using c1))) (.refl _))
 rw [if_neg c1]
 have c1:a.size-1≠0:=by simpa using c1
 by_cases c2:(b.size==1)=true
 ·rw [if_pos c2]
  exact wpS_pure (h _ _ (m1.first (by simpa using c2) h0 nb) (.refl _))
 rw [if_neg c2]
 have c2:b.size≠1:=by simpa using c2
 refine wpS_bind (wpS_get ?_)
 refine wpS_bind (wpS_mono (wpS_forRange (I:=fun t c st'=>SameBut st st'/\∃ na nb out g,c=(none,na,nb,out,g)/\HI κ a b out na nb/\1<=na/\2<=nb/\na<=a.size/\nb<=b.size/\na+nb+t+1<=a.size+b.size)
  (Q:=fun c st'=>SameBut st st'/\∃ r,c.1=some r/\jN κ a b r) ?step ?fin ⟨.refl _,_,_,_,_,rfl,m1,by omega,by omega,by omega,by omega,by omega⟩) ?post)
 case fin=>
  rintro c st' ⟨sm,na,nb,out,g,rfl,m,p1,p2,p4,p5,p3⟩
  omega
 case post=>
  rintro c st' ⟨sm,r,e,g⟩
  rw [e]
  exact wpS_pure (h r st' g sm)
 case step=>
  rintro t c st1 _ ht ⟨sm1,na,nb,out,g,rfl,m,p1,p2,p4,p5,p3⟩
  dsimp only
  refine wpS_bind (wpS_mono (wpS_forRange (I:=fun u c st'=>SameBut st st'/\∃ na nb out x y,c=(none,na,nb,out,x,y)/\HI κ a b out na nb/\1<=na/\2<=nb/\na<=a.size/\nb<=b.size/\na+nb+t+1+min u 1<=a.size+b.size)
   (Q:=fun c st'=>SameBut st st'/\vg κ a b (a.size+b.size-t-2) c.1 c.2.1 c.2.2.1 c.2.2.2.1) ?step1 ?fin1 ⟨sm1,_,_,_,_,_,rfl,m,p1,p2,p4,p5,by omega⟩) ?post1)
  case fin1=>
   rintro c st' ⟨sm,na,nb,out,x,y,rfl,m,p1,p2,p4,p5,p3⟩
   exact ⟨sm,.inr ⟨rfl,m,p1,p2,p4,p5,show na+nb<=_ by omega⟩⟩
  case step1=>
   rintro u c st2 _ hu ⟨sm2,na,nb,out,n1,n2,rfl,m,p1,p2,p4,p5,p3⟩
   dsimp only
   obtain ⟨y,hy⟩:=eI (xs:=b) (i:=nb-1) (by omega)
   obtain ⟨x,hx⟩:=eI (xs:=a) (i:=na-1) (by omega)
   have ax:∀ u∈a.toList.take na,κ u <= κ x:=fun u hu=>kQ sa hx u (by rw [show na-1+1=na by omega]; exact hu)
   have bx:∀ u∈b.toList.take nb,κ u <= κ y:=fun u hu=>kQ sb hy u (by rw [show nb-1+1=nb by omega]; exact hu)
   refine wpS_bind (bg hy (wpS_bind (bg hx (wpS_bind (T y x (Sb y (fF hy)) (Sa x (fF hx)) st2 _ (sm2.1.trans ek) ?_)))))
   dsimp only
   by_cases q:κ y < κ x
   ·simp only [q,decide_true,if_true]
    refine wpS_bind (bg hx ?_)
    have m':HI κ a b (out.push x) (na-1) nb:=HI.pushA (by rw [show na-1+1=na by omega]; exact m) hx fun z hz=>Int.le_trans (bx z hz) (Int.le_of_lt q)
    by_cases c3:(na-1==0)=true
    ·rw [if_pos c3]
     exact wpS_pure ⟨sm2,.inl ⟨_,rfl,m'.done (.inl (by simpa using c3))⟩⟩
    rw [if_neg c3]
    have c3:na-1≠0:=by simpa using c3
    split
    ·exact wpS_pure ⟨sm2,.inr ⟨rfl,m',show 1<=na-1 by omega,p2,show na-1<=_ by omega,p5,show na-1+nb<=_ by omega⟩⟩
    ·exact wpS_pure ⟨sm2,_,_,_,_,_,rfl,m',by omega,p2,by omega,p5,by omega⟩
   ·simp only [q,decide_false,Bool.false_eq_true,if_false]
    refine wpS_bind (bg hy ?_)
    have m':HI κ a b (out.push y) na (nb-1):=HI.pushB (by rw [show nb-1+1=nb by omega]; exact m) hy fun z hz=>Int.le_trans (ax z hz) (Int.not_lt.mp q)
    by_cases c3:(nb-1==1)=true
    ·rw [if_pos c3]
     exact wpS_pure ⟨sm2,.inl ⟨_,rfl,m'.first (by simpa using c3) h0 (by omega)⟩⟩
    rw [if_neg c3]
    have c3:nb-1≠1:=by simpa using c3
    split
    ·exact wpS_pure ⟨sm2,.inr ⟨rfl,m',p1,show 2<=nb-1 by omega,p4,show nb-1<=_ by omega,show na+(nb-1)<=_ by omega⟩⟩
    ·exact wpS_pure ⟨sm2,_,_,_,_,_,rfl,m',p1,by omega,p4,by omega,by omega⟩
  case post1=>
   rintro ⟨ro,na,nb,out,n1,n2⟩ st2 ⟨sm2,pt⟩
   rcases pt with ⟨r,e,gd⟩ | ⟨e,m,p1,p2,p4,p5,p3⟩
   ·have e:ro=some r:=e
    subst e
    exact wpS_pure ⟨sm2,r,rfl,gd⟩
   have e:ro=none:=e
   subst e
   dsimp only at m p1 p2 p3 p4 p5 ⊢
   refine wpS_bind (wpS_lift (wpAny_rule ⟨rfl,?_⟩))
   refine wpS_bind (wpS_mono (wpS_forRange (I:=fun u c st'=>SameBut st st'/\∃ na nb out g x y,c=(none,na,nb,out,g,x,y)/\HI κ a b out na nb/\1<=na/\2<=nb/\na<=a.size/\nb<=b.size/\na+nb<=a.size+b.size-t-2)
    (Q:=fun c st'=>SameBut st st'/\vg κ a b (a.size+b.size-t-2) c.1 c.2.1 c.2.2.1 c.2.2.2.1) ?step2 ?fin2 ⟨sm2,_,_,_,_,_,_,rfl,m,p1,p2,p4,p5,p3⟩) ?post2)
   case fin2=>
    rintro c st' ⟨sm,na,nb,out,g,x,y,rfl,m,p⟩
    exact ⟨sm,.inr ⟨rfl,m,p⟩⟩
   case post2=>
    rintro ⟨ro,na,nb,out,g,n1,n2⟩ st3 ⟨sm3,pt⟩
    rcases pt with ⟨r,e,gd⟩ | ⟨e,m,p1,p2,p4,p5,p3⟩
    ·have e:ro=some r:=e
     subst e
     exact wpS_pure ⟨sm3,r,rfl,gd⟩
    have e:ro=none:=e
    subst e
    dsimp only at m p1 p2 p3 p4 p5 ⊢
    exact wpS_bind (jR sm3 fun st4 sm4=>wpS_pure ⟨sm4,_,_,_,_,rfl,m,p1,p2,p4,p5,by omega⟩)
   case step2=>
    rintro u c st3 _ hu ⟨sm3,na,nb,out,g,n1,n2,rfl,m,p1,p2,p4,p5,p3⟩
    dsimp only
    obtain ⟨y,hy⟩:=eI (xs:=b) (i:=nb-1) (by omega)
    have Sy:=Sb y (fF hy)
    have bx:∀ u∈b.toList.take nb,κ u <= κ y:=fun u hu=>kQ sb hy u (by rw [show nb-1+1=nb by omega]; exact hu)
    rcases Nat.lt_or_ge 1 g with hg | hg
    all_goals
     first
     | rw [if_pos hg]
     | rw [if_neg (Nat.not_lt.mpr hg)]
     refine wpS_bind (jR sm3 fun st4 sm4=>?_)
     refine wpS_bind (bg hy ?_)
     refine wpS_bind (i5 T (tj sa Sa p4) Sy (sm4.1.trans ek) (by omega) fun l1 l2 el e1 e2=>?_)
     simp only [Bool.false_eq_true,if_false] at e1 e2
     dsimp only
     have ln:l1.length+l2.length=na:=by
      have:=congrArg List.length el
      rw [List.length_append,List.length_take,Array.length_toList] at this
      omega
     rcases Nat.eq_zero_or_pos (na-l1.length) with h1 | h1
     ·rw [if_neg (by omega)]
      have l2n:l2=[]:=List.length_eq_zero_iff.mp (by omega)
      subst l2n
      refine wpS_mono (BL (B:=a.size+b.size-t-2) (out:=out) (na:=na) (nb:=nb) (k:=na-l1.length) (n2:=n2) T sa sb Sa Sb m hy (fun z hz=>e1 z (by rw [el,List.append_nil] at hz; exact hz)) h0 p1 p2 p4 p5 p3 sm4 ek) fun r st5 gq=>?_
      cases r with
      | done c=>exact gq
      | yield c=>exact gq.y
     ·rw [if_pos h1]
      have mA:=m.appA p4 el fun x hx z hz=>Int.le_trans (bx z hz) (Int.le_of_lt (e2 x hx))
      by_cases c3:(l1.length==0)=true
      ·rw [if_pos c3]
       exact wpS_pure ⟨sm4,.inl ⟨_,rfl,mA.done (.inl (by simpa using c3))⟩⟩
      rw [if_neg c3]
      have c3:l1.length≠0:=by simpa using c3
      refine wpS_mono (BL (B:=a.size+b.size-t-2) (out:=out++(a.extract l1.length na).reverse) (na:=l1.length) (nb:=nb) (k:=na-l1.length) (n2:=n2) T sa sb Sa Sb mA hy (fun z hz=>e1 z (by rw [(j3 p4 el).2] at hz; exact hz)) h0 (by omega) p2 (by omega) p5 (by omega) sm4 ek) fun r st5 gq=>?_
      cases r with
      | done c=>exact gq
      | yield c=>exact gq.y
end
end VL
namespace VL
open PySem PySem.Spec PyProof.Rows
theorem uj (i:Nat):mergeAt' i=(do
 let s <- get
 let (some (sa,na,power),some (sb,nb,_)):=((pendingOf s)[i]?,(pendingOf s)[i+1]?) | unsupported "internal:list.sort.pending"
 set (setPending s (((pendingOf s).setIfInBounds i (sa,na+nb,power)).eraseIdxIfInBounds (i+1)))
 let some k <- d5 false (<- elem' (arrOf s) sb) (arrOf s) sa na 0 | return false
 let (sa,na):=(sa+k,na-k)
 if na==0 then return true
 let some nb <- d5 true (<- elem' (arrOf s) (sa+na-1)) (arrOf s) sb nb (nb-1) | return false
 if nb==0 then return true
 let x:=(arrOf s).extract sa sb
 let y:=(arrOf s).extract sb (sb+nb)
 let merged <- if na<=nb then oz x y else oA x y
 modify fun s=>setArr s (merged.toList.zipIdx.foldl (fun a (p,j)=>a.setIfInBounds (sa+j) p) (arrOf s))
 return (failedOf (<- get)).isNone):=rfl
section
variable {M:Model} {A:Around} {E:Value->Shared->Prop} {s:Shared} {κ:Keyed->Int} {S:Keyed->Prop} {kd:SortKind}
theorem C3 {σ:Type} {x:σ} {Q:PUnit -> σ -> Prop} {st:σ} (h:Q ⟨⟩ x):wpS M A E s (set x:StateT σ Sem PUnit) Q st:=by
 unfold wpS; rw [StateT.run_set]; exact wpAny_pure ⟨rfl,h⟩
theorem nG (o:Nat):∀ (l:List Keyed) (k:Nat) (xs:Array Keyed),o+k+l.length<=xs.size->((l.zipIdx k).foldl (fun (a:Array Keyed) (q:Keyed×Nat)=>a.setIfInBounds (o+q.2) q.1) xs).toList=xs.toList.take (o+k)++l++xs.toList.drop (o+k+l.length)
 | [],k,xs,_=>by simp
 | x::l,k,xs,h=>by
  rw [List.length_cons] at h
  rw [List.zipIdx_cons,List.foldl_cons,nG o l (k+1) _ (by rw [Array.size_setIfInBounds]; omega),Array.toList_setIfInBounds]
  have hk:o+k<xs.toList.length:=by rw [Array.length_toList]; omega
  rw [show o+(k+1)=o+k+1 by omega,List.take_add_one,List.take_set_of_le (Nat.le_refl _),List.getElem?_set_self hk,List.drop_set_of_lt (by omega),List.length_cons,show o+k+1+l.length=o+k+(l.length+1) by omega]
  simp
theorem C2 (T:dQ M A E s kd κ S) {st:SortSt} {L1 g1 g2 L2:List Keyed} {i pw pw2:Nat} {Q:Bool->SortSt->Prop} (ek:kindOf st=kd) (hf:failedOf st=none) (ha:(arrOf st).toList=L1++(g1++(g2++L2))) (a1:Asc κ g1) (a2:Asc κ g2) (n1:g1≠[]) (n2:g2≠[]) (hS:∀ x∈g1++g2,S x)
  (p1:(pendingOf st)[i]? = some (L1.length,g1.length,pw)) (p2:(pendingOf st)[i+1]? = some (L1.length+g1.length,g2.length,pw2))
  (h:∀ st' g,g.Perm (g1++g2)->Asc κ g->(arrOf st').toList=L1++(g++L2)->kindOf st'=kd->failedOf st'=none->pendingOf st'=((pendingOf st).setIfInBounds i (L1.length,g1.length+g2.length,pw)).eraseIdxIfInBounds (i+1)->Q true st') :
  wpS M A E s (mergeAt' i) Q st:=by
 rw [uj]
 refine wpS_bind (wpS_get ?_)
 rw [p1,p2]
 dsimp only
 refine wpS_bind (C3 ?_)
 have sz:(arrOf st).size=L1.length+(g1.length+(g2.length+L2.length)):=by
  have:=congrArg List.length ha
  simpa using this
 have l1:1<=g1.length:=List.length_pos_iff.mpr n1
 have l2:1<=g2.length:=List.length_pos_iff.mpr n2
 have st1:Stretch κ S (arrOf st) L1.length g1.length g1:=⟨by rw [ha,List.drop_left,List.take_left],rfl,fun x hx=>hS x (by simp [hx]),a1⟩
 have st2:Stretch κ S (arrOf st) (L1.length+g1.length) g2.length g2:=⟨by rw [ha,<- List.drop_drop,List.drop_left,List.drop_left,List.take_left],rfl,fun x hx=>hS x (by simp [hx]),a2⟩
 have hb:=st2.get (i:=0) (by omega)
 rw [Nat.add_zero] at hb
 have Sb0:S g2[0]:=st2.all _ (List.getElem_mem _)
 have b0:∀ z∈g2,κ g2[0] <= κ z:=fun z hz=>by
  obtain ⟨j,hj,rfl⟩:=List.mem_iff_getElem.mp hz
  rcases Nat.eq_zero_or_pos j with q | q
  ·subst q; exact Int.le_refl _
  ·exact List.pairwise_iff_getElem.mp a2 0 j (by omega) hj q
 have same:∀ Z:SortSt,arrOf Z=arrOf st->kindOf Z=kindOf st->failedOf Z=failedOf st->pendingOf Z=((pendingOf st).setIfInBounds i (L1.length,g1.length+g2.length,pw)).eraseIdxIfInBounds (i+1)->(∀ x∈g1,∀ y∈g2,κ x <= κ y)->Q true Z:=fun Z e1 e2 e3 e4 q=>
  h Z (g1++g2) (List.Perm.refl _) (a1.app a2 q) (by rw [e1,ha,List.append_assoc]) (e2.trans ek) (e3.trans hf) e4
 refine wpS_bind (bg hb ?_)
 refine wpS_bind (i5 T st1 Sb0 ek (by omega) fun u1 u2 eu e1 e2=>?_)
 simp only [Bool.false_eq_true,if_false] at e1 e2
 dsimp only
 have lu:u1.length+u2.length=g1.length:=by rw [eu,List.length_append]
 by_cases c1:(g1.length-u1.length==0)=true
 ·rw [if_pos c1]
  have:u2=[]:=List.length_eq_zero_iff.mp (by have:g1.length-u1.length=0:=(by simpa using c1); omega)
  subst this
  rw [List.append_nil] at eu
  refine wpS_pure (same _ rfl rfl rfl rfl fun x hx y hy=>Int.le_trans (e1 x (eu ▸ hx)) (b0 y hy))
 rw [if_neg c1]
 have c1:g1.length-u1.length≠0:=by simpa using c1
 have hlast:(arrOf st)[L1.length+u1.length+(g1.length-u1.length)-1]? = some g1[g1.length-1]:=by
  rw [show L1.length+u1.length+(g1.length-u1.length)-1=L1.length+(g1.length-1) by omega]
  exact st1.get (by omega)
 have gl:∀ z∈g1,κ z <= κ g1[g1.length-1]:=fun z hz=>by
  obtain ⟨j,hj,rfl⟩:=List.mem_iff_getElem.mp hz
  rcases Nat.lt_or_ge j (g1.length-1) with q | q
  ·exact List.pairwise_iff_getElem.mp a1 j _ hj (by omega) q
  ·have:j=g1.length-1:=by omega
   subst this; exact Int.le_refl _
 refine wpS_bind (bg hlast ?_)
 refine wpS_bind (i5 T st2 (st1.all _ (List.getElem_mem _)) ek (by omega) fun v1 v2 ev f1 f2=>?_)
 simp only [if_true] at f1 f2
 dsimp only
 by_cases c2:(v1.length==0)=true
 ·rw [if_pos c2]
  have:v1=[]:=List.length_eq_zero_iff.mp (by simpa using c2)
  subst this
  rw [List.nil_append] at ev
  refine wpS_pure (same _ rfl rfl rfl rfl fun x hx y hy=>Int.le_trans (gl x hx) (f2 y (ev ▸ hy)))
 rw [if_neg c2]
 have c2:v1.length≠0:=by simpa using c2
 have lv:v1.length+v2.length=g2.length:=by rw [ev,List.length_append]
 have ex:((arrOf st).extract (L1.length+u1.length) (L1.length+g1.length)).toList=u2:=by
  rw [Array.toList_extract,List.extract_eq_drop_take,ha,eu,<- List.drop_drop,List.drop_left,List.append_assoc,List.drop_left,List.length_append,show L1.length+(u1.length+u2.length)-(L1.length+u1.length)=u2.length by omega,List.take_left]
 have ey:((arrOf st).extract (L1.length+g1.length) (L1.length+g1.length+v1.length)).toList=v1:=by
  rw [Array.toList_extract,List.extract_eq_drop_take,ha,<- List.drop_drop,List.drop_left,List.drop_left,ev,List.append_assoc,show L1.length+g1.length+v1.length-(L1.length+g1.length)=v1.length by omega,List.take_left]
 have hm:∀ (mg:Array Keyed) (st':SortSt),jN κ ((arrOf st).extract (L1.length+u1.length) (L1.length+g1.length)) ((arrOf st).extract (L1.length+g1.length) (L1.length+g1.length+v1.length)) mg->SameBut (setPending st (((pendingOf st).setIfInBounds i (L1.length,g1.length+g2.length,pw)).eraseIdxIfInBounds (i+1))) st' ->
   wpS M A E s (do
    modify fun s=>setArr s (mg.toList.zipIdx.foldl (fun (a:Array Keyed) (q:Keyed×Nat)=>a.setIfInBounds (L1.length+u1.length+q.2) q.1) (arrOf s))
    return (failedOf (<- get)).isNone) Q st':=fun mg st' gd sm=>by
  obtain ⟨gp,ga⟩:=gd
  rw [ex,ey] at gp
  have ea:arrOf st'=arrOf st:=sm.2.1
  have lm:mg.toList.length=u2.length+v1.length:=by rw [gp.length_eq,List.length_append]
  refine wpS_bind (wpS_modify (wpS_bind (wpS_get (wpS_pure ?_))))
  have fn:failedOf st'=none:=sm.2.2.2.trans hf
  show Q (failedOf st').isNone _
  rw [fn]
  refine h _ (u1++mg.toList++v2) ?_ ?_ ?_ (sm.1.trans ek) fn sm.2.2.1
  ·rw [eu,ev]
   have:=((List.Perm.refl u1).append gp).append (List.Perm.refl v2)
   simpa [List.append_assoc] using this
  ·have mem:∀ z,z∈mg.toList->z∈u2\/z∈v1:=fun z hz=>List.mem_append.mp (gp.mem_iff.mp hz)
   have au:=eu ▸ a1
   have av:=ev ▸ a2
   have v0:∀ z∈v1,κ g2[0] <= κ z:=fun z hz=>b0 z (by rw [ev]; simp [hz])
   refine (au.left.app ga fun x hx z hz=>?_).app av.right fun x hx z hz=>?_
   ·rcases mem z hz with q | q
    ·exact au.mid x hx z q
    ·exact Int.le_trans (e1 x hx) (v0 z q)
   ·rcases List.mem_append.mp hx with q | q
    ·exact Int.le_trans (gl x (by rw [eu]; simp [q])) (f2 z hz)
    ·rcases mem x q with q | q
     ·exact Int.le_trans (gl x (by rw [eu]; simp [q])) (f2 z hz)
     ·exact av.mid x q z hz
  ·show (mg.toList.zipIdx.foldl _ (arrOf st')).toList=_
   rw [ea,nG (L1.length+u1.length) mg.toList 0 (arrOf st) (by rw [lm,sz]; omega),Nat.add_zero,ha,eu,ev,lm]
   have t1:(L1++(u1++u2++(v1++v2++L2))).take (L1.length+u1.length)=L1++u1:=by
    rw [show L1++(u1++u2++(v1++v2++L2))=(L1++u1)++(u2++(v1++v2++L2)) by simp [List.append_assoc],<- List.length_append,List.take_left]
   have t2:(L1++(u1++u2++(v1++v2++L2))).drop (L1.length+u1.length+(u2.length+v1.length))=v2++L2:=by
    rw [show L1++(u1++u2++(v1++v2++L2))=(L1++u1++(u2++v1))++(v2++L2) by simp [List.append_assoc],<- List.length_append,<- List.length_append,<- List.length_append,List.drop_left]
   rw [t1,t2]
   simp [List.append_assoc]
 have ax:Asc κ ((arrOf st).extract (L1.length+u1.length) (L1.length+g1.length)).toList:=by rw [ex]; exact (eu ▸ a1).right
 have ay:Asc κ ((arrOf st).extract (L1.length+g1.length) (L1.length+g1.length+v1.length)).toList:=by rw [ey]; exact (ev ▸ a2).left
 have SX:∀ x∈((arrOf st).extract (L1.length+u1.length) (L1.length+g1.length)).toList,S x:=by rw [ex]; exact fun x hx=>hS x (by rw [eu]; simp [hx])
 have SY:∀ x∈((arrOf st).extract (L1.length+g1.length) (L1.length+g1.length+v1.length)).toList,S x:=by rw [ey]; exact fun x hx=>hS x (by rw [ev]; simp [hx])
 have nX:1<=((arrOf st).extract (L1.length+u1.length) (L1.length+g1.length)).size:=by rw [<- Array.length_toList,ex]; omega
 have nY:1<=((arrOf st).extract (L1.length+g1.length) (L1.length+g1.length+v1.length)).size:=by rw [<- Array.length_toList,ey]; omega
 have h0:∀ y,((arrOf st).extract (L1.length+g1.length) (L1.length+g1.length+v1.length))[0]? = some y->∀ x∈((arrOf st).extract (L1.length+u1.length) (L1.length+g1.length)).toList,κ y <= κ x:=fun y hy x hx=>by
  rw [<- Array.getElem?_toList,ey] at hy
  have:g2[0]? = some y:=by rw [ev,List.getElem?_append_left (by omega)]; exact hy
  obtain ⟨_,e⟩:=List.getElem?_eq_some_iff.mp this
  rw [ex] at hx
  rw [<- e]
  exact Int.le_of_lt (e2 x hx)
 have hl:∀ x,((arrOf st).extract (L1.length+u1.length) (L1.length+g1.length))[((arrOf st).extract (L1.length+u1.length) (L1.length+g1.length)).size-1]? = some x->∀ y∈((arrOf st).extract (L1.length+g1.length) (L1.length+g1.length+v1.length)).toList,κ y <= κ x:=fun x hx y hy=>by
  rw [<- Array.length_toList,<- Array.getElem?_toList,ex] at hx
  have:g1[g1.length-1]? = some x:=by
   rw [<- hx]
   have:g1.length-1=u1.length+(u2.length-1):=by omega
   rw [this]
   conv=>lhs; rw [eu]
   rw [List.getElem?_append_right (by omega),Nat.add_sub_cancel_left]
  obtain ⟨_,e⟩:=List.getElem?_eq_some_iff.mp this
  rw [ey] at hy
  rw [<- e]
  exact Int.le_of_lt (f1 y hy)
 by_cases c3:g1.length-u1.length<=v1.length
 ·rw [if_pos c3]
  exact wpS_bind (sL T ax ay SX SY nX nY h0 hl ek fun mg st' gd sm=>hm mg st' gd sm)
 ·rw [if_neg c3]
  exact wpS_bind (sM T ax ay SX SY nX nY h0 hl ek fun mg st' gd sm=>hm mg st' gd sm)
end
end VL
namespace VL
open PySem PySem.Spec PyProof.Rows
noncomputable def KA (κ:Keyed->Int) (xs:Array Keyed) (i:Nat):Int:=match xs[i]? with
 | some p=>κ p
 | none=>0
def pv (κ:Keyed->Int) (xs:Array Keyed) (lo k:Nat):Prop:=∀ i j,i<=j->j<k->KA κ xs (lo+i)<=KA κ xs (lo+j)
def mz (κ:Keyed->Int) (xs:Array Keyed) (lo k:Nat):Prop:=∀ i j,i<=j->j<k->KA κ xs (lo+j)<=KA κ xs (lo+i)
section
variable {M:Model} {A:Around} {E:Value->Shared->Prop} {s:Shared} {κ:Keyed->Int} {S:Keyed->Prop} {kd:SortKind}
theorem i4 {xs ys:Array Keyed} {i j:Nat} (h:xs[i]? = ys[j]?):KA κ xs i=KA κ ys j:=by unfold KA; rw [h]
theorem qQ {xs:Array Keyed} {src d:Nat} (hs:src<xs.size) (hd:d<=src) (k:Nat) :
  KA κ (bubble xs src d) k=if k=src-d then KA κ xs src else if src-d<k/\k<=src then KA κ xs (k-1) else KA κ xs k:=by
 have e:=getElem?_bubble hs d hd k
 by_cases h1:k=src-d
 ·rw [if_pos h1] at e ⊢; exact i4 e
 ·rw [if_neg h1] at e ⊢
  by_cases h2:src-d<k/\k<=src
  ·rw [if_pos h2] at e ⊢; exact i4 e
  ·rw [if_neg h2] at e ⊢; exact i4 e
theorem mw {xs:Array Keyed} {i j:Nat} (hj:j<=xs.size) (k:Nat):KA κ (mirror xs i j ((j-i) / 2)) k=if i<=k/\k<j then KA κ xs (i+j-1-k) else KA κ xs k:=by
 have e:=getElem?_mirror_all (i:=i) hj k
 by_cases h1:i<=k/\k<j
 ·rw [if_pos h1] at e ⊢; exact i4 e
 ·rw [if_neg h1] at e ⊢; exact i4 e
theorem cR {xs:Array Keyed} {i j:Nat} (hj:j<=xs.size) (heq:∀ k,i<=k->k<j->KA κ xs k=KA κ xs (j-1)) (k:Nat):KA κ (mirror xs i j ((j-i) / 2)) k=KA κ xs k:=by
 rw [mw hj]
 split
 ·rw [heq _ (by omega) (by omega),heq k (by omega) (by omega)]
 ·rfl
structure SB (S:Keyed->Prop) (kd:SortKind) (lo:Nat) (st0 st:SortSt):Prop where
 perm:(arrOf st).Perm (arrOf st0)
 pre:∀ k,k<lo->(arrOf st)[k]? = (arrOf st0)[k]?
 kind:kindOf st=kd
 failed:failedOf st=none
 pend:pendingOf st=pendingOf st0
 gal:gallopOf st=gallopOf st0
 all:∀ x∈(arrOf st0).toList,S x
theorem SB.size {lo:Nat} {st0 st:SortSt} (h:SB S kd lo st0 st):(arrOf st).size=(arrOf st0).size:=h.perm.size_eq
theorem SB.setArr {lo:Nat} {st0 st:SortSt} (h:SB S kd lo st0 st) {xs:Array Keyed} (hp:xs.Perm (arrOf st)) (hq:∀ k,k<lo->xs[k]? = (arrOf st)[k]?):SB S kd lo st0 (setArr st xs):=
 ⟨hp.trans h.perm,fun k hk=>(hq k hk).trans (h.pre k hk),h.kind,h.failed,h.pend,h.gal,h.all⟩
theorem SB.at {lo:Nat} {st0 st:SortSt} (h:SB S kd lo st0 st) {i:Nat} (hi:i<(arrOf st0).size):∃ x,(arrOf st)[i]? = some x/\S x /\ κ x=KA κ (arrOf st) i:=by
 obtain ⟨x,hx⟩:=eI (xs:=arrOf st) (i:=i) (by rw [h.size]; exact hi)
 exact ⟨x,hx,h.all x ((Array.perm_iff_toList_perm.mp h.perm).mem_iff.mp (fF hx)),by unfold KA; rw [hx]⟩
theorem jS (T:dQ M A E s kd κ S) {lo:Nat} {st0 st:SortSt} {i j:Nat} {Q:Option Bool->SortSt->Prop} (hB:SB S kd lo st0 st) (hi:i<(arrOf st0).size) (hj:j<(arrOf st0).size)
  (h:Q (some (decide (KA κ (arrOf st) i<KA κ (arrOf st) j))) st):wpS M A E s (ltAt' i j) Q st:=by
 obtain ⟨x,e1,s1,k1⟩:=hB.at (κ:=κ) hi
 obtain ⟨y,e2,s2,k2⟩:=hB.at (κ:=κ) hj
 rw [ltAt'_eq]
 refine wpS_bind (wpS_get ?_)
 exact wpS_bind (bg e1 (wpS_bind (bg e2 (T x y s1 s2 st _ hB.kind (by rw [k1,k2]; exact h)))))
theorem ik {xs:Array Keyed} {i j lo:Nat} (hj:j<=xs.size) (hi:lo<=i):∀ k,k<lo->(mirror xs i j ((j-i) / 2))[k]? = xs[k]?:=fun k hk=>by
 rw [getElem?_mirror_all hj,if_neg (by omega)]
theorem wH {xs:Array Keyed} {src d lo:Nat} (hs:src<xs.size) (hd:d<=src) (hl:lo<=src-d):∀ k,k<lo->(bubble xs src d)[k]? = xs[k]?:=fun k hk=>by
 rw [getElem?_bubble hs d hd,if_neg (by omega),if_neg (by omega)]
theorem C5 (T:dQ M A E s kd κ S) {lo:Nat} {st0 st:SortSt} {n ok:Nat} {Q:Bool->SortSt->Prop} (hn:lo+n<=(arrOf st0).size) (hok:ok<=n) (hB:SB S kd lo st0 st) (hs:pv κ (arrOf st) lo ok)
  (h:∀ st',SB S kd lo st0 st'->pv κ (arrOf st') lo n->Q true st'):wpS M A E s (binarySort' lo n ok) Q st:=by
 rw [binarySort'_eq]
 refine wpS_bind (wpS_mono (wpS_forRange (I:=fun k c st'=>c=(none,())/\SB S kd lo st0 st'/\pv κ (arrOf st') lo (min k n))
  (Q:=fun c st'=>c=(none,())/\SB S kd lo st0 st'/\pv κ (arrOf st') lo n) ?step ?fin ?init) ?post)
 case post=>
  rintro c st' ⟨rfl,hB',hs'⟩
  exact wpS_pure (h st' hB' hs')
 case init=>
  refine ⟨rfl,hB,fun i j hij hj=>?_⟩
  by_cases h1:ok=0
  ·have:i=j:=by omega
   subst this; exact Int.le_refl _
  ·exact hs i j hij (by omega)
 case fin=>
  rintro c st' ⟨hc,hB',hs'⟩
  refine ⟨hc,hB',?_⟩
  rwa [show min (max (max ok 1) n) n=n by omega] at hs'
 case step=>
  rintro k c st' hak hkn ⟨rfl,hB',hs'⟩
  rw [show min k n=k by omega] at hs'
  have hk:lo+k<(arrOf st0).size:=by omega
  refine wpS_bind (wpS_mono (wpS_forRange (I:=fun x c st''=>st''=st'/\∃ l r,c=(none,l,r)/\l<=r/\r<=k/\r-l<=k-x /\
    (∀ i,i<l->KA κ (arrOf st') (lo+i)<=KA κ (arrOf st') (lo+k))/\(∀ i,r<=i->i<k->KA κ (arrOf st') (lo+k)<KA κ (arrOf st') (lo+i)))
   (Q:=fun c st''=>st''=st'/\∃ l r,c=(none,l,r)/\l<=k /\
    (∀ i,i<l->KA κ (arrOf st') (lo+i)<=KA κ (arrOf st') (lo+k))/\(∀ i,l<=i->i<k->KA κ (arrOf st') (lo+k)<KA κ (arrOf st') (lo+i))) ?istep ?ifin ?iinit) ?ipost)
  case iinit=>exact ⟨rfl,0,k,rfl,by omega,by omega,by omega,fun i hi=>by omega,fun i h1 h2=>by omega⟩
  case ifin=>
   rintro c st'' ⟨rfl,l,r,rfl,hlr,hrk,hm,hlo,hhi⟩
   have:l=r:=by omega
   subst this
   exact ⟨rfl,l,l,rfl,hrk,hlo,hhi⟩
  case istep=>
   rintro x c st'' _ hxk ⟨rfl,l,r,rfl,hlr,hrk,hm,hlo,hhi⟩
   dsimp only
   by_cases hge:l>=r
   ·rw [if_pos hge]
    have:l=r:=by omega
    subst this
    exact wpS_pure ⟨rfl,l,l,rfl,hrk,hlo,hhi⟩
   ·rw [if_neg hge]
    refine wpS_bind (jS T hB' hk (by omega) ?_)
    by_cases hless:KA κ (arrOf st'') (lo+k)<KA κ (arrOf st'') (lo+(l+r) / 2)
    ·simp only [hless,decide_true,if_true]
     refine wpS_pure ⟨rfl,l,(l+r) / 2,rfl,by omega,by omega,by omega,hlo,fun i h1 h2=>?_⟩
     exact Int.lt_of_lt_of_le hless (hs' _ _ h1 h2)
    ·simp only [hless,decide_false,Bool.false_eq_true,if_false]
     refine wpS_pure ⟨rfl,(l+r) / 2+1,r,rfl,by omega,by omega,by omega,fun i h1=>?_,hhi⟩
     exact Int.le_trans (hs' i ((l+r) / 2) (by omega) (by omega)) (Int.not_lt.mp hless)
  case ipost=>
   rintro c st'' ⟨rfl,l,r,rfl,hlk,hlo,hhi⟩
   show wpS _ _ _ _ (do moveDown' (lo+k) (lo+l); pure (ForInStep.yield (none,()))) _ _
   rw [moveDown'_eq]
   have hks:lo+k<(arrOf st'').size:=by rw [hB'.size]; exact hk
   refine wpS_bind (wpS_modify (wpS_pure ⟨rfl,hB'.setArr (bubble_perm _ _ _) (wH hks (by omega) (by omega)),?_⟩))
   rw [show min (k+1) n=k+1 by omega]
   intro i j hij hj
   show KA κ (bubble (arrOf st'') (lo+k) (lo+k-(lo+l))) (lo+i)<=KA κ (bubble (arrOf st'') (lo+k) (lo+k-(lo+l))) (lo+j)
   rw [qQ hks (by omega),qQ hks (by omega),show lo+k-(lo+k-(lo+l))=lo+l by omega]
   have r1:∀ i,l<i->lo+i-1=lo+(i-1):=fun i hi=>by omega
   repeat' split
   all_goals first
    | (exfalso; omega)
    | exact Int.le_refl _
    | exact hlo _ (by omega)
    | (rw [r1 _ (by omega)]; exact Int.le_of_lt (hhi _ (by omega) (by omega)))
    | (rw [r1 _ (by omega),r1 _ (by omega)]; exact hs' _ _ (by omega) (by omega))
    | (rw [r1 _ (by omega)]; exact hs' _ _ (by omega) (by omega))
    | exact hs' _ _ (by omega) (by omega)
end
end VL
namespace VL
open PySem PySem.Spec PyProof.Rows
noncomputable def ascL (lo a nrem:Nat):StateT SortSt Sem AscSt:=
 forIn [a:nrem] ((none,a):AscSt) fun _ c=>do
  let x <- ltAt' (lo+c.snd) (lo+c.snd-1)
  match x with
  | some smaller=>if smaller=true then pure (ForInStep.done (none,c.snd)) else pure (ForInStep.yield (none,c.snd+1))
  | _=>pure (ForInStep.done (some none,c.snd))
noncomputable def nS (lo n nrem:Nat):StateT SortSt Sem (Option Nat):=do
 reverseSlice' lo (lo+n)
 let c <- ascL lo n nrem
 match c.fst with
 | some r=>pure r
 | none=>pure (some c.snd)
noncomputable def xU (lo n nrem:Nat):StateT SortSt Sem DescSt:=
 forIn [n:nrem] ((none,n,0):DescSt) fun _ c=>do
  let x <- ltAt' (lo+c.snd.fst) (lo+c.snd.fst-1)
  match x with
  | some smaller=>
   if smaller=true then
    if c.snd.snd>0 then do
     reverseSlice' (lo+c.snd.fst-(c.snd.snd+1)) (lo+c.snd.fst)
     pure (ForInStep.yield (none,c.snd.fst+1,0))
    else pure (ForInStep.yield (none,c.snd.fst+1,0))
   else do
    let x <- ltAt' (lo+c.snd.fst-1) (lo+c.snd.fst)
    match x with
    | some larger=>
     if larger=true then pure (ForInStep.done (none,c.snd.fst,c.snd.snd))
     else pure (ForInStep.yield (none,c.snd.fst+1,c.snd.snd+1))
    | _=>pure (ForInStep.done (some none,c.snd.fst,c.snd.snd))
  | _=>pure (ForInStep.done (some none,c.snd.fst,c.snd.snd))
noncomputable def hW (lo n nrem:Nat):StateT SortSt Sem (Option Nat):=do
 liftM (rule "list.sort.descending-run")
 let c <- xU lo (n+1) nrem
 match c.fst with
 | some r=>pure r
 | none=>
  if c.snd.snd>0 then do
   reverseSlice' (lo+c.snd.fst-(c.snd.snd+1)) (lo+c.snd.fst)
   nS lo c.snd.fst nrem
  else nS lo c.snd.fst nrem
theorem si (lo nrem:Nat):countRun' lo nrem=(do
  let c <- ascL lo 1 nrem
  match c.fst with
  | some r=>pure r
  | none=>
   if (c.snd==nrem)=true then pure (some c.snd)
   else if c.snd>1 then do
    let x <- ltAt' lo (lo+c.snd-1)
    match x with
    | some rose=>if rose=true then pure (some c.snd) else do
      reverseSlice' lo (lo+c.snd)
      hW lo c.snd nrem
    | _=>pure none
   else hW lo c.snd nrem):=by
 rw [countRun'_eq]
 unfold hW nS xU ascL
 dsimp only
 congr 1
 funext c
 obtain ⟨r,n⟩:=c
 cases r with
 | some r=>rfl
 | none=>
  dsimp only
  split
  ·rfl
  ·split
   ·congr 1
    funext x
    cases x with
    | none=>rfl
    | some rose=>
     dsimp only
     split
     ·rfl
     ·congr 1
      funext u0
      congr 1
      funext u1
      congr 1
      congr 1
      funext c2
      obtain ⟨r2,n2,q2⟩:=c2
      cases r2 with
      | some r2=>rfl
      | none=>
       dsimp only
       split
       ·congr 1
        funext u2
        congr 1
        funext u3
        congr 1
        funext c3
        obtain ⟨r3,n3⟩:=c3
        cases r3 <;> rfl
       ·congr 1
        funext u3
        congr 1
        funext c3
        obtain ⟨r3,n3⟩:=c3
        cases r3 <;> rfl
   ·congr 1
    funext u1
    congr 1
    congr 1
    funext c2
    obtain ⟨r2,n2,q2⟩:=c2
    cases r2 with
    | some r2=>rfl
    | none=>
     dsimp only
     split
     ·congr 1
      funext u2
      congr 1
      funext u3
      congr 1
      funext c3
      obtain ⟨r3,n3⟩:=c3
      cases r3 <;> rfl
     ·congr 1
      funext u3
      congr 1
      funext c3
      obtain ⟨r3,n3⟩:=c3
      cases r3 <;> rfl
section
variable {M:Model} {A:Around} {E:Value->Shared->Prop} {s:Shared} {κ:Keyed->Int} {S:Keyed->Prop} {kd:SortKind} {lo:Nat} {st0 st:SortSt}
theorem m7 {i j:Nat} {Q:Unit->SortSt->Prop} (h:Q () (setArr st (mirror (arrOf st) i j ((j-i) / 2)))):wpS M A E s (reverseSlice' i j) Q st:=by
 rw [reverseSlice'_eq]; exact wpS_modify h
theorem sN (T:dQ M A E s kd κ S) {a nrem:Nat} {Q:AscSt->SortSt->Prop} (hn:lo+nrem<=(arrOf st0).size) (ha:1<=a) (han:a<=nrem) (hB:SB S kd lo st0 st) (hs:pv κ (arrOf st) lo a)
  (h:∀ n,a<=n->n<=nrem->pv κ (arrOf st) lo n->(n=nrem\/KA κ (arrOf st) (lo+n)<KA κ (arrOf st) (lo+n-1))->Q (none,n) st):wpS M A E s (ascL lo a nrem) Q st:=by
 unfold ascL
 refine wpS_forRange (I:=fun x c st'=>st'=st/\c=(none,x)/\pv κ (arrOf st) lo x) ?step ?fin ⟨rfl,rfl,hs⟩
 case fin=>
  rintro c st' ⟨rfl,rfl,hs'⟩
  rw [show max a nrem=nrem by omega] at hs' ⊢
  exact h nrem han (Nat.le_refl _) hs' (.inl rfl)
 case step=>
  rintro x c st' hax hxn ⟨rfl,rfl,hs'⟩
  dsimp only
  refine wpS_bind (jS T hB (by omega) (by omega) ?_)
  by_cases hless:KA κ (arrOf st') (lo+x)<KA κ (arrOf st') (lo+x-1)
  ·simp only [hless,decide_true,if_true]
   exact wpS_pure (h x hax (by omega) hs' (.inr hless))
  ·simp only [hless,decide_false,Bool.false_eq_true,if_false]
   refine wpS_pure ⟨rfl,rfl,fun i j hij hj=>?_⟩
   by_cases hjx:j<x
   ·exact hs' i j hij hjx
   ·have hj':j=x:=by omega
    subst hj'
    by_cases hi':i=j
    ·subst hi'; exact Int.le_refl _
    ·rw [show lo+j-1=lo+(j-1) by omega] at hless
     exact Int.le_trans (hs' i (j-1) (by omega) (by omega)) (Int.not_lt.mp hless)
theorem nH (T:dQ M A E s kd κ S) {n nrem:Nat} {Q:Option Nat->SortSt->Prop} (hn:lo+nrem<=(arrOf st0).size) (h1:1<=n) (hnn:n<=nrem) (hB:SB S kd lo st0 st) (hs:mz κ (arrOf st) lo n)
  (h:∀ m st',SB S kd lo st0 st'->1<=m->m<=nrem->pv κ (arrOf st') lo m->Q (some m) st'):wpS M A E s (nS lo n nrem) Q st:=by
 unfold nS
 have hsz:lo+n<=(arrOf st).size:=by rw [hB.size]; omega
 refine wpS_bind (m7 ?_)
 have hB':SB S kd lo st0 (setArr st (mirror (arrOf st) lo (lo+n) ((lo+n-lo) / 2))):=hB.setArr (mirror_perm _ _ _ _) (ik hsz (Nat.le_refl _))
 refine wpS_bind (sN T hn h1 hnn hB' ?_ fun m hm1 hm2 hsm _=>wpS_pure (h m _ hB' (by omega) hm2 hsm))
 intro i j hij hj
 show KA κ (mirror (arrOf st) lo (lo+n) ((lo+n-lo) / 2)) (lo+i)<=KA κ (mirror (arrOf st) lo (lo+n) ((lo+n-lo) / 2)) (lo+j)
 rw [mw hsz,mw hsz,if_pos (by omega),if_pos (by omega),show lo+(lo+n)-1-(lo+i)=lo+(n-1-i) by omega,show lo+(lo+n)-1-(lo+j)=lo+(n-1-j) by omega]
 exact hs _ _ (by omega) (by omega)
theorem yk (T:dQ M A E s kd κ S) {n nrem:Nat} {Q:DescSt->SortSt->Prop} (hn:lo+nrem<=(arrOf st0).size) (h1:1<=n) (hnn:n<=nrem) (hB:SB S kd lo st0 st) (hs:mz κ (arrOf st) lo n)
  (h:∀ m neq st',SB S kd lo st0 st'->n<=m->m<=nrem->mz κ (arrOf st') lo m->neq+1<=m->(∀ i,lo+m-(neq+1)<=i->i<lo+m->KA κ (arrOf st') i=KA κ (arrOf st') (lo+m-1))->Q (none,m,neq) st'):wpS M A E s (xU lo n nrem) Q st:=by
 unfold xU
 refine wpS_forRange (I:=fun x c st'=>∃ neq,c=(none,x,neq)/\SB S kd lo st0 st'/\mz κ (arrOf st') lo x/\neq+1<=x /\
   (∀ i,lo+x-(neq+1)<=i->i<lo+x->KA κ (arrOf st') i=KA κ (arrOf st') (lo+x-1))) ?step ?fin ⟨0,rfl,hB,hs,by omega,fun i h1 h2=>by congr 1; omega⟩
 case fin=>
  rintro c st' ⟨neq,rfl,hB',hs',hq,he⟩
  rw [show max n nrem=nrem by omega] at hs' hq he ⊢
  exact h nrem neq st' hB' hnn (Nat.le_refl _) hs' hq he
 case step=>
  rintro x c st' hax hxn ⟨neq,rfl,hB',hs',hq,he⟩
  dsimp only
  have hsz:lo+x<=(arrOf st').size:=by rw [hB'.size]; omega
  have e1:lo+x-1=lo+(x-1):=by omega
  refine wpS_bind (jS T hB' (by omega) (by omega) ?_)
  by_cases hless:KA κ (arrOf st') (lo+x)<KA κ (arrOf st') (lo+x-1)
  ·simp only [hless,decide_true,if_true]
   have step1:∀ xs:Array Keyed,(∀ k,KA κ xs k=KA κ (arrOf st') k)->mz κ xs lo (x+1):=by
    intro xs hk i j hij hj
    rw [hk,hk]
    by_cases hjx:j<x
    ·exact hs' i j hij hjx
    ·have hj':j=x:=by omega
     subst hj'
     by_cases hi':i=j
     ·subst hi'; exact Int.le_refl _
     ·rw [e1] at hless
      exact Int.le_trans (Int.le_of_lt hless) (hs' i (j-1) (by omega) (by omega))
   by_cases hneq:neq>0
   ·rw [if_pos hneq]
    refine wpS_bind (m7 (wpS_pure ⟨0,rfl,hB'.setArr (mirror_perm _ _ _ _) (ik hsz (by omega)),step1 _ (cR hsz he),by omega,fun i h1 h2=>by congr 1; omega⟩))
   ·rw [if_neg hneq]
    exact wpS_pure ⟨0,rfl,hB',step1 _ (fun _=>rfl),by omega,fun i h1 h2=>by congr 1; omega⟩
  ·simp only [hless,decide_false,Bool.false_eq_true,if_false]
   refine wpS_bind (jS T hB' (by omega) (by omega) ?_)
   by_cases hlarger:KA κ (arrOf st') (lo+x-1)<KA κ (arrOf st') (lo+x)
   ·simp only [hlarger,decide_true,if_true]
    exact wpS_pure (h x neq st' hB' hax (by omega) hs' hq he)
   ·simp only [hlarger,decide_false,Bool.false_eq_true,if_false]
    have heqx:KA κ (arrOf st') (lo+x)=KA κ (arrOf st') (lo+x-1):=by omega
    refine wpS_pure ⟨neq+1,rfl,hB',fun i j hij hj=>?_,by omega,fun i h1 h2=>?_⟩
    ·by_cases hjx:j<x
     ·exact hs' i j hij hjx
     ·have hj':j=x:=by omega
      subst hj'
      by_cases hi':i=j
      ·subst hi'; exact Int.le_refl _
      ·rw [heqx,e1]; exact hs' i (j-1) (by omega) (by omega)
    ·rw [show lo+(x+1)-1=lo+x by omega]
     by_cases hix:i=lo+x
     ·subst hix; rfl
     ·rw [heqx]; exact he i (by omega) (by omega)
theorem jm (T:dQ M A E s kd κ S) {n nrem:Nat} {Q:Option Nat->SortSt->Prop} (hn:lo+nrem<=(arrOf st0).size) (hnn:n+1<=nrem) (hB:SB S kd lo st0 st) (hs:mz κ (arrOf st) lo (n+1))
  (h:∀ m st',SB S kd lo st0 st'->1<=m->m<=nrem->pv κ (arrOf st') lo m->Q (some m) st'):wpS M A E s (hW lo n nrem) Q st:=by
 unfold hW
 refine wpS_bind (wpS_lift (wpAny_rule ⟨rfl,?_⟩))
 refine wpS_bind (yk T hn (by omega) hnn hB hs fun m neq st' hB' hm1 hm2 hs' hq he=>?_)
 dsimp only
 have hsz:lo+m<=(arrOf st').size:=by rw [hB'.size]; omega
 by_cases hneq:neq>0
 ·rw [if_pos hneq]
  refine wpS_bind (m7 (nH T hn (by omega) hm2 (hB'.setArr (mirror_perm _ _ _ _) (ik hsz (by omega))) ?_ h))
  intro i j hij hj
  show KA κ (mirror (arrOf st') _ _ _) (lo+j)<=KA κ (mirror (arrOf st') _ _ _) (lo+i)
  rw [cR hsz he,cR hsz he]
  exact hs' i j hij hj
 ·rw [if_neg hneq]
  exact nH T hn (by omega) hm2 hB' hs' h
theorem C4 (T:dQ M A E s kd κ S) {nrem:Nat} {Q:Option Nat->SortSt->Prop} (hn:lo+nrem<=(arrOf st0).size) (h1:1<=nrem) (hB:SB S kd lo st0 st)
  (h:∀ m st',SB S kd lo st0 st'->1<=m->m<=nrem->pv κ (arrOf st') lo m->Q (some m) st'):wpS M A E s (countRun' lo nrem) Q st:=by
 rw [si]
 refine wpS_bind (sN T hn (Nat.le_refl 1) h1 hB (fun i j hij hj=>by rw [show i=j by omega]; exact Int.le_refl _) fun n hn1 hn2 hsn hor=>?_)
 dsimp only
 by_cases hnn:n=nrem
 ·rw [if_pos (by simpa using hnn)]
  exact wpS_pure (h n st hB hn1 hn2 hsn)
 ·rw [if_neg (by simpa using hnn)]
  have hlt:KA κ (arrOf st) (lo+n)<KA κ (arrOf st) (lo+(n-1)):=by
   have:=hor.resolve_left hnn
   rwa [show lo+n-1=lo+(n-1) by omega] at this
  by_cases hgt:n>1
  ·rw [if_pos hgt]
   refine wpS_bind (jS T hB (by omega) (by omega) ?_)
   by_cases hrose:KA κ (arrOf st) lo<KA κ (arrOf st) (lo+n-1)
   ·simp only [hrose,decide_true,if_true]
    exact wpS_pure (h n st hB hn1 hn2 hsn)
   ·simp only [hrose,decide_false,Bool.false_eq_true,if_false]
    have hsz:lo+n<=(arrOf st).size:=by rw [hB.size]; omega
    have hall:∀ k,k<n->KA κ (arrOf st) (lo+k)=KA κ (arrOf st) (lo+n-1):=by
     intro k hk
     have a1:=hsn 0 k (by omega) hk
     have a2:=hsn k (n-1) (by omega) (by omega)
     rw [Nat.add_zero] at a1
     rw [show lo+n-1=lo+(n-1) by omega] at hrose ⊢
     omega
    have hall':∀ k,lo<=k->k<lo+n->KA κ (arrOf st) k=KA κ (arrOf st) (lo+n-1):=fun k k1 k2=>by
     have:=hall (k-lo) (by omega)
     rwa [show lo+(k-lo)=k by omega] at this
    refine wpS_bind (m7 (jm T hn (by omega) (hB.setArr (mirror_perm _ _ _ _) (ik hsz (Nat.le_refl _))) ?_ h))
    intro i j hij hj
    show KA κ (mirror (arrOf st) _ _ _) (lo+j)<=KA κ (mirror (arrOf st) _ _ _) (lo+i)
    rw [cR hsz hall',cR hsz hall']
    by_cases hjn:j<n
    ·rw [hall i (by omega),hall j hjn]; exact Int.le_refl _
    ·have hj':j=n:=by omega
     subst hj'
     by_cases hi':i=j
     ·subst hi'; exact Int.le_refl _
     ·rw [hall i (by omega),show lo+j-1=lo+(j-1) by omega]; exact Int.le_of_lt hlt
  ·rw [if_neg hgt]
   have hn1':n=1:=by omega
   subst hn1'
   refine jm T hn (by omega) hB ?_ h
   intro i j hij hj
   by_cases hi':i=j
   ·subst hi'; exact Int.le_refl _
   ·have hi0:i=0:=by omega
    have hj1:j=1:=by omega
    subst hi0; subst hj1
    exact Int.le_of_lt hlt
end
end VL
namespace VL
open PySem PySem.Spec PyProof.Rows
noncomputable def ll:Nat->List (List Keyed)->List (Nat×Nat)
 | _,[]=>[]
 | o,g::gs=>(o,g.length)::ll (o+g.length) gs
theorem j0:∀ (A B:List (List Keyed)) (o:Nat),ll o (A++B)=ll o A++ll (o+A.flatten.length) B
 | [],B,o=>by simp [ll]
 | g::A,B,o=>by
  rw [List.cons_append,ll,ll,j0 A B,List.flatten_cons,List.length_append,Nat.add_assoc]; rfl
theorem nR:∀ (A:List (List Keyed)) (o:Nat),(ll o A).length=A.length
 | [],_=>rfl
 | g::A,o=>by rw [ll,List.length_cons,List.length_cons,nR A]
section
variable {M:Model} {A:Around} {E:Value->Shared->Prop} {s:Shared} {κ:Keyed->Int} {S:Keyed->Prop} {kd:SortKind} {all:List Keyed}
structure RS (κ:Keyed->Int) (S:Keyed->Prop) (kd:SortKind) (all:List Keyed) (st:SortSt) (segs:List (List Keyed)) (rest:List Keyed):Prop where
 arr:(arrOf st).toList=segs.flatten++rest
 tl:(pendingOf st).toList.map (fun e=>(e.1,e.2.1))=ll 0 segs
 asc:∀ g∈segs,Asc κ g
 ne:∀ g∈segs,g≠[]
 kind:kindOf st=kd
 failed:failedOf st=none
 perm:(arrOf st).toList.Perm all
 sall:∀ x∈all,S x
theorem RS.size {st:SortSt} {segs:List (List Keyed)} {rest:List Keyed} (h:RS κ S kd all st segs rest):(pendingOf st).size=segs.length:=by
 have:=congrArg List.length h.tl
 rw [List.length_map,Array.length_toList,nR] at this
 exact this
theorem Io {α:Type} {l:List α} {i:Nat} (h:i+1<l.length):∃ A x y B,l=A++x::y::B/\A.length=i:=
 ⟨l.take i,l[i],l[i+1],l.drop (i+2),by
  conv=>lhs; rw [<- List.take_append_drop i l]
  rw [List.drop_eq_getElem_cons (by omega),List.drop_eq_getElem_cons h],by rw [List.length_take]; omega⟩
theorem nI (T:dQ M A E s kd κ S) {st:SortSt} {segs:List (List Keyed)} {rest:List Keyed} {i:Nat} {Q:Bool->SortSt->Prop} (h:RS κ S kd all st segs rest) (hi:i+1<segs.length)
  (q:∀ st' segs',RS κ S kd all st' segs' rest->segs'.length+1=segs.length->segs'.flatten.length=segs.flatten.length->Q true st'):wpS M A E s (mergeAt' i) Q st:=by
 obtain ⟨S1,g1,g2,S2,rfl,e⟩:=Io hi
 have ha:(arrOf st).toList=S1.flatten++(g1++(g2++(S2.flatten++rest))):=by rw [h.arr]; simp [List.append_assoc]
 have ht:=h.tl
 rw [j0] at ht
 simp only [ll,Nat.zero_add] at ht
 obtain ⟨P1,P2,ep,e1,e2⟩:=List.map_eq_append_iff.mp ht
 obtain ⟨⟨a1,a2,pw⟩,P3,rfl,f1,e3⟩:=List.map_eq_cons_iff.mp e2
 obtain ⟨⟨b1,b2,pw2⟩,P4,rfl,f2,e4⟩:=List.map_eq_cons_iff.mp e3
 simp only [Prod.mk.injEq] at f1 f2
 obtain ⟨rfl,rfl⟩:=f1
 obtain ⟨rfl,rfl⟩:=f2
 have lP:P1.length=i:=by
  have:=congrArg List.length e1
  rw [List.length_map,nR] at this
  omega
 have p1:(pendingOf st)[i]? = some (S1.flatten.length,g1.length,pw):=by
  rw [<- Array.getElem?_toList,ep,List.getElem?_append_right (by omega),lP,Nat.sub_self]; rfl
 have p2:(pendingOf st)[i+1]? = some (S1.flatten.length+g1.length,g2.length,pw2):=by
  rw [<- Array.getElem?_toList,ep,List.getElem?_append_right (by omega),lP,show i+1-i=1 by omega]; rfl
 refine C2 T h.kind h.failed ha (h.asc _ (by simp)) (h.asc _ (by simp)) (h.ne _ (by simp)) (h.ne _ (by simp)) (fun x hx=>h.sall x (h.perm.mem_iff.mp (by rw [ha]; simp at hx ⊢; rcases hx with hx | hx <;> simp [hx]))) p1 p2 fun st' g gp ga ea ek ef epd=>?_
 have lg:g.length=g1.length+g2.length:=by rw [gp.length_eq,List.length_append]
 refine q st' (S1++g::S2) ⟨by rw [ea]; simp [List.append_assoc],?_,fun x hx=>?_,fun x hx=>?_,ek,ef,?_,h.sall⟩ (by simp; omega) (by simp [lg]; omega)
 ·rw [epd,Array.toList_eraseIdxIfInBounds,Array.toList_setIfInBounds,ep,<- lP]
  have t1:(P1++(S1.flatten.length,g1.length,pw)::(S1.flatten.length+g1.length,g2.length,pw2)::P4).set P1.length (S1.flatten.length,g1.length+g2.length,pw)=P1++(S1.flatten.length,g1.length+g2.length,pw)::(S1.flatten.length+g1.length,g2.length,pw2)::P4:=by simp
  rw [t1]
  have t2:(P1++(S1.flatten.length,g1.length+g2.length,pw)::(S1.flatten.length+g1.length,g2.length,pw2)::P4).eraseIdx (P1.length+1)=P1++(S1.flatten.length,g1.length+g2.length,pw)::P4:=by
   rw [List.eraseIdx_append_of_length_le (by omega),show P1.length+1-P1.length=1 by omega]; rfl
  rw [t2,List.map_append,e1,List.map_cons,e4,j0,ll,lg,Nat.zero_add,Nat.add_assoc]
 ·rcases List.mem_append.mp hx with hx | hx
  ·exact h.asc x (by simp [hx])
  ·rcases List.mem_cons.mp hx with rfl | hx
   ·exact ga
   ·exact h.asc x (by simp [hx])
 ·rcases List.mem_append.mp hx with hx | hx
  ·exact h.ne x (by simp [hx])
  ·rcases List.mem_cons.mp hx with rfl | hx
   ·have:=h.ne g1 (by simp)
    intro z
    subst z
    have:=List.length_pos_iff.mpr this
    simp at lg
    omega
   ·exact h.ne x (by simp [hx])
 ·have hp:=h.perm
  rw [ha] at hp
  rw [ea]
  refine List.Perm.trans ((List.Perm.refl S1.flatten).append ?_) hp
  rw [<- List.append_assoc g1]
  exact gp.append_right _
end
end VL
namespace VL
open PySem PySem.Spec PyProof.Rows
section
variable {M:Model} {A:Around} {E:Value->Shared->Prop} {s:Shared} {κ:Keyed->Int} {S:Keyed->Prop} {kd:SortKind} {all:List Keyed}
theorem xm {st0 st:SortSt} {segs:List (List Keyed)} {rest:List Keyed} {n:Nat} (h:RS κ S kd all st0 segs rest) (hB:SB S kd segs.flatten.length st0 st) (hu:pv κ (arrOf st) segs.flatten.length n) (hn:segs.flatten.length+n<=(arrOf st0).size) :
  ∃ rest',RS κ S kd all st segs rest'/\Asc κ (rest'.take n)/\rest'.length=rest.length:=by
 have hp:(arrOf st).toList.Perm (arrOf st0).toList:=Array.perm_iff_toList_perm.mp hB.perm
 have pre0:∀ lo,(∀ k,k<lo->(arrOf st)[k]? = (arrOf st0)[k]?)->(arrOf st).toList.take lo=(arrOf st0).toList.take lo:=fun lo hq=>by
  apply List.ext_getElem?
  intro k
  by_cases hk:k<lo
  ·rw [List.getElem?_take_of_lt hk,List.getElem?_take_of_lt hk,Array.getElem?_toList,Array.getElem?_toList]
   exact hq k hk
  ·rw [List.getElem?_eq_none (by rw [List.length_take]; omega),List.getElem?_eq_none (by rw [List.length_take]; omega)]
 have pre:(arrOf st).toList.take segs.flatten.length=segs.flatten:=by rw [pre0 _ hB.pre,h.arr,List.take_left]
 have arr:(arrOf st).toList=segs.flatten++(arrOf st).toList.drop segs.flatten.length:=by
  conv=>lhs; rw [<- List.take_append_drop segs.flatten.length (arrOf st).toList,pre]
 have pm:=hp
 rw [arr,h.arr] at pm
 have pr:=(List.perm_append_left_iff _).mp pm
 refine ⟨_,⟨arr,by rw [hB.pend]; exact h.tl,h.asc,h.ne,hB.kind,hB.failed,hp.trans h.perm,h.sall⟩,?_,pr.length_eq⟩
 have get:∀ i,i<n->((arrOf st).toList.drop segs.flatten.length)[i]? = (arrOf st)[segs.flatten.length+i]?:=fun i _=>by rw [List.getElem?_drop,Array.getElem?_toList]
 refine List.pairwise_iff_getElem.mpr fun i j hi hj hij=>?_
 rw [List.length_take] at hi hj
 have:=hu i j (by omega) (by omega)
 unfold KA at this
 rw [<- get i (by omega),<- get j (by omega),List.getElem?_eq_getElem (by omega),List.getElem?_eq_getElem (by omega)] at this
 rw [List.getElem_take,List.getElem_take]
 exact this
theorem RS.push {st:SortSt} {segs:List (List Keyed)} {rest:List Keyed} {n pw:Nat} (h:RS κ S kd all st segs rest) (ha:Asc κ (rest.take n)) (h1:1<=n) (hn:n<=rest.length) :
  RS κ S kd all (setPending st ((pendingOf st).push (segs.flatten.length,n,pw))) (segs++[rest.take n]) (rest.drop n):=by
 have ln:(rest.take n).length=n:=by rw [List.length_take]; omega
 refine ⟨?_,?_,fun g hg=>?_,fun g hg=>?_,h.kind,h.failed,h.perm,h.sall⟩
 ·rw [List.flatten_append,List.append_assoc]
  simp only [List.flatten_cons,List.flatten_nil,List.append_nil]
  rw [List.take_append_drop]
  exact h.arr
 ·show ((pendingOf st).push _).toList.map _=_
  rw [Array.toList_push,List.map_append,h.tl,j0]
  simp [ll,ln]
 ·rcases List.mem_append.mp hg with hg | hg
  ·exact h.asc g hg
  ·rw [List.mem_singleton.mp hg]; exact ha
 ·rcases List.mem_append.mp hg with hg | hg
  ·exact h.ne g hg
  ·rw [List.mem_singleton.mp hg]
   intro z
   rw [z] at ln
   simp at ln
   omega
theorem RS.pow {st:SortSt} {segs:List (List Keyed)} {rest:List Keyed} {pw i:Nat} (h:RS κ S kd all st segs rest):RS κ S kd all (setPending st ((pendingOf st).modify i fun x=>(x.1,x.2.1,pw))) segs rest:=by
 refine ⟨h.arr,?_,h.asc,h.ne,h.kind,h.failed,h.perm,h.sall⟩
 rw [<- h.tl]
 show ((pendingOf st).modify i _).toList.map _=_
 rw [Array.toList_modify]
 apply List.ext_getElem?
 intro k
 rw [List.getElem?_map,List.getElem?_map,List.getElem?_modify]
 cases (pendingOf st).toList[k]? with
 | none=>rfl
 | some x=>
  by_cases e:i=k
  ·simp [e]
  ·simp [e]
noncomputable def qo (size pw:Nat):StateT SortSt Sem (Option Unit×Unit):=
 forIn [0:size] ((none,()):Option Unit×Unit) fun _ _=>do
  let d <- get
  match if (pendingOf d).size>1 then (pendingOf d)[(pendingOf d).size-2]? else none with
  | some (_,_,older)=>
   if older<=pw then pure (ForInStep.done (none,()))
   else do
    let ok <- mergeAt' ((pendingOf d).size-2)
    if (!ok)=true then pure (ForInStep.done (some (),())) else pure (ForInStep.yield (none,()))
  | _=>pure (ForInStep.done (none,()))
theorem kr (T:dQ M A E s kd κ S) {st:SortSt} {segs:List (List Keyed)} {rest:List Keyed} {size pw:Nat} (r:RS κ S kd all st segs rest) :
  wpS M A E s (qo size pw) (fun c st'=>c=(none,())/\∃ segs',RS κ S kd all st' segs' rest/\segs'.flatten.length=segs.flatten.length) st:=by
 unfold qo
 refine wpS_forRange (I:=fun _ c st'=>c=(none,())/\∃ segs',RS κ S kd all st' segs' rest/\segs'.flatten.length=segs.flatten.length) ?step (fun _ _ h=>h) ⟨rfl,segs,r,rfl⟩
 rintro t c st' _ _ ⟨rfl,segs',r',e'⟩
 refine wpS_bind (wpS_get ?_)
 have hs:=r'.size
 by_cases c1:(pendingOf st').size>1
 ·rw [if_pos c1,Array.getElem?_eq_getElem (by omega)]
  dsimp only
  split
  ·exact wpS_pure ⟨rfl,segs',r',e'⟩
  ·refine wpS_bind (nI T r' (by omega) fun st2 segs2 r2 _ e2=>?_)
   simp only [Bool.not_true,Bool.false_eq_true,if_false]
   exact wpS_pure ⟨rfl,segs2,r2,e2.trans e'⟩
 ·rw [if_neg c1]
  exact wpS_pure ⟨rfl,segs',r',e'⟩
theorem nv {segs:List (List Keyed)} {rest:List Keyed} {n:Nat} {st2:SortSt} {segs2:List (List Keyed)} (r2:RS κ S kd all st2 segs2 rest) (ha:Asc κ (rest.take n)) (h1:1<=n) (hn:n<=rest.length) (e2:segs2.flatten.length=segs.flatten.length):wpS M A E s (do
   modify fun s=>setPending s ((pendingOf s).push (segs.flatten.length,n,0))
   pure (ForInStep.yield ((none:Option Unit),segs.flatten.length+n))) (fun c st'=>∃ segs' rest',c=.yield (none,segs'.flatten.length)/\RS κ S kd all st' segs' rest'/\segs'.flatten.length=segs.flatten.length+n) st2:=by
 have ln:(segs2++[rest.take n]).flatten.length=segs.flatten.length+n:=by
  rw [List.flatten_append,List.length_append,e2]
  simp
  omega
 refine wpS_bind (wpS_modify (wpS_pure ⟨segs2++[rest.take n],rest.drop n,by rw [ln],?_,ln⟩))
 rw [<- e2]
 exact r2.push ha h1 hn
theorem sK (T:dQ M A E s kd κ S) {st:SortSt} {Q:Unit->SortSt->Prop} (hk:kindOf st=kd) (hf:failedOf st=none) (hp:pendingOf st = #[]) (hS:∀ x∈(arrOf st).toList,S x)
  (h:∀ st',(arrOf st').toList.Perm (arrOf st).toList->failedOf st'=none->Asc κ (arrOf st').toList->Q () st'):wpS M A E s sortRuns' Q st:=by
 rw [sortRuns'_eq]
 refine wpS_bind (wpS_get ?_)
 dsimp only
 have r0:RS κ S kd (arrOf st).toList st [] (arrOf st).toList:=⟨rfl,by rw [hp]; rfl,(fun _ z=>nomatch z),(fun _ z=>nomatch z),hk,hf,List.Perm.refl _,hS⟩
 have sz:∀ {st':SortSt} {segs:List (List Keyed)} {rest:List Keyed},RS κ S kd (arrOf st).toList st' segs rest->(arrOf st').size=(arrOf st).size:=fun r=>by
  have:=r.perm.length_eq
  rwa [Array.length_toList,Array.length_toList] at this
 refine wpS_bind (wpS_mono (wpS_forRange (I:=fun t c st'=>∃ segs rest,c=(none,segs.flatten.length)/\RS κ S kd (arrOf st).toList st' segs rest/\t<=segs.flatten.length)
  (Q:=fun c st'=>∃ segs,c.1=none/\RS κ S kd (arrOf st).toList st' segs []) ?step ?fin ⟨[],_,rfl,r0,by simp⟩) ?post)
 case fin=>
  rintro c st' ⟨segs,rest,rfl,r,ht⟩
  have l:=congrArg List.length r.arr
  rw [List.length_append,Array.length_toList,sz r] at l
  have:rest=[]:=List.length_eq_zero_iff.mp (by omega)
  subst this
  exact ⟨segs,rfl,r⟩
 case post=>
  rintro c st' ⟨segs,hc,r⟩
  rw [hc]
  dsimp only
  have nl:segs.length<=(arrOf st).size:=by
   have l:=congrArg List.length r.arr
   rw [List.append_nil,Array.length_toList,sz r] at l
   have:∀ L:List (List Keyed),(∀ g∈L,g≠[])->L.length<=L.flatten.length:=by
    intro L
    induction L with
    | nil=>intro _; simp
    | cons g L ih=>
     intro hg
     have:=ih fun x hx=>hg x (List.mem_cons_of_mem _ hx)
     have:=List.length_pos_iff.mpr (hg g List.mem_cons_self)
     rw [List.flatten_cons,List.length_append,List.length_cons]
     omega
   have:=this segs r.ne
   omega
  refine wpS_bind (wpS_mono (wpS_forRange (I:=fun t c st'=>c=(none,())/\∃ segs,RS κ S kd (arrOf st).toList st' segs []/\(segs.length<=1\/segs.length+t<=(arrOf st).size))
   (Q:=fun c st'=>c=(none,())/\∃ segs,RS κ S kd (arrOf st).toList st' segs []/\segs.length<=1) ?step2 ?fin2 ⟨rfl,segs,r,.inr nl⟩) ?post2)
  case fin2=>
   rintro c st2 ⟨rfl,segs,r,hq⟩
   exact ⟨rfl,segs,r,by omega⟩
  case post2=>
   rintro c st2 ⟨rfl,segs,r,hq⟩
   refine wpS_pure (h st2 r.perm r.failed ?_)
   rw [r.arr,List.append_nil]
   match segs,hq with
   | [],_=>exact List.Pairwise.nil
   | [g],_=>simpa using r.asc g (by simp)
  case step2=>
   rintro t c st2 _ ht ⟨rfl,segs,r,hq⟩
   refine wpS_bind (wpS_get ?_)
   have hs:=r.size
   by_cases c1:(pendingOf st2).size<=1
   ·rw [if_pos c1]
    exact wpS_pure ⟨rfl,segs,r,by omega⟩
   ·rw [if_neg c1]
    have ix:∀ (c:Prop) [Decidable c],(if c then (pendingOf st2).size-2-1 else (pendingOf st2).size-2)+1<segs.length:=fun c _=>by split <;> omega
    refine wpS_bind (nI T r (ix _) fun st3 segs3 r3 e3 _=>?_)
    simp only [Bool.not_true,Bool.false_eq_true,if_false]
    exact wpS_pure ⟨rfl,segs3,r3,by omega⟩
 case step=>
  rintro t c st' _ ht ⟨segs,rest,rfl,r,hl⟩
  dsimp only
  have l:=congrArg List.length r.arr
  rw [List.length_append,Array.length_toList,sz r] at l
  by_cases c1:segs.flatten.length>=(arrOf st).size
  ·rw [if_pos c1]
   have:rest=[]:=List.length_eq_zero_iff.mp (by omega)
   subst this
   exact wpS_pure ⟨segs,rfl,r⟩
  rw [if_neg c1]
  have b0:SB S kd segs.flatten.length st' st':=⟨Array.Perm.refl _,fun _ _=>rfl,r.kind,r.failed,rfl,rfl,fun x hx=>hS x (r.perm.mem_iff.mp hx)⟩
  refine wpS_bind (C4 T (by rw [sz r]; omega) (by omega) b0 fun m st2 b2 m1 m2 u2=>?_)
  dsimp only
  by_cases c2:m<minRun' (arrOf st).size (arrOf st).size 0
  ·rw [if_pos c2]
   refine wpS_bind (wpS_lift (wpAny_rule ⟨rfl,?_⟩))
   refine wpS_bind (C5 T (by rw [sz r]; omega) (by omega) b2 u2 fun st3 b3 u3=>?_)
   simp only [Bool.not_true,Bool.false_eq_true,if_false]
   obtain ⟨rest',r3,a3,l3⟩:=xm r b3 u3 (by rw [sz r]; omega)
   refine wpS_mono (Q:=fun c st'=>∃ segs' rest',c=.yield (none,segs'.flatten.length)/\RS κ S kd (arrOf st).toList st' segs' rest'/\segs'.flatten.length=segs.flatten.length+(min ((arrOf st).size-segs.flatten.length) (minRun' (arrOf st).size (arrOf st).size 0))) ?_ ?_
   ·refine wpS_bind (wpS_get ?_)
    cases e:(pendingOf st3).back? with
    | none=>exact nv r3 a3 (by omega) (by omega) rfl
    | some x=>
     obtain ⟨s1,n1,p1⟩:=x
     dsimp only
     refine wpS_bind (wpS_mono (kr (size:=(arrOf st).size) (pw:=power' (arrOf st).size (2*s1+n1) (2*s1+n1+n1+(min ((arrOf st).size-segs.flatten.length) (minRun' (arrOf st).size (arrOf st).size 0))) (arrOf st).size) T r3) ?_)
     rintro c st5 ⟨rfl,segs5,r5,e5⟩
     dsimp only
     exact wpS_bind (wpS_modify (nv r5.pow a3 (by omega) (by omega) e5))
   ·rintro c st4 ⟨segs',rest2,rfl,r4,e4⟩
    exact ⟨segs',rest2,rfl,r4,by omega⟩
  ·rw [if_neg c2]
   obtain ⟨rest',r3,a3,l3⟩:=xm r b2 u2 (by rw [sz r]; omega)
   refine wpS_mono (Q:=fun c st'=>∃ segs' rest',c=.yield (none,segs'.flatten.length)/\RS κ S kd (arrOf st).toList st' segs' rest'/\segs'.flatten.length=segs.flatten.length+m) ?_ ?_
   ·refine wpS_bind (wpS_get ?_)
    cases e:(pendingOf st2).back? with
    | none=>exact nv r3 a3 m1 (by omega) rfl
    | some x=>
     obtain ⟨s1,n1,p1⟩:=x
     dsimp only
     refine wpS_bind (wpS_mono (kr (size:=(arrOf st).size) (pw:=power' (arrOf st).size (2*s1+n1) (2*s1+n1+n1+m) (arrOf st).size) T r3) ?_)
     rintro c st5 ⟨rfl,segs5,r5,e5⟩
     dsimp only
     exact wpS_bind (wpS_modify (nv r5.pow a3 m1 (by omega) e5))
   ·rintro c st4 ⟨segs',rest2,rfl,r4,e4⟩
    exact ⟨segs',rest2,rfl,r4,by omega⟩
end
end VL
namespace VL
open PySem PySem.Spec PyProof.Rows L2
section
variable {prog:Program} {w:World} {A:Around} {E:Value->Shared->Prop} {s:Shared}
theorem jp {a:Addr} {vs:List Value} {n:Nat} {P:PySem.Fin->Shared->Prop} {kd:SortKind} {κ:Keyed->Int} {S:Keyed->Prop} (ho:s.heap.get? a=some (seqObj "list" vs.toArray n)) (PA:Heap->Prop) (x:PA s.heap) (keeps:∀ h h':Heap,PA h->(∀ b o,o.cls=.type "tuple" -> h.get? b=some o->h'.get? b=some o)->PA h')
  (kindw:2<=vs.length->∀ s':Shared,PA s'.heap->∀ Q:SortKind->Shared->Prop,Q kd s'->wpAny (model prog w) A (keyKind' vs.toArray) Q E s') (T:∀ s':Shared,PA s'.heap->dQ (model prog w) A E s' kd κ S) (hS:∀ v∈vs,S (v,v)) (hz:vs.length<=sizeLine)
  (h:∀ out:List Value,out.Perm vs->(out.Pairwise fun x y=>κ (x,x) <= κ (y,y))->P (.done (.ret .none)) { s with heap:=sortedHeap s.heap a vs out.toArray }) :
  wpAny (model prog w) A (Builtin.«list.sort» ⟨[.ref a],[]⟩) P E s:=by
 rw [list_sort_plain]
 have ha:a<s.heap.objs.size:=Heap.lt_size ho
 refine wpAny_bind (listItems_at ho rfl ?_)
 refine wpAny_bind (listUpdate_at ho rfl ?_)
 obtain ⟨e1,ho1⟩:∃ e1,(s.heap.update a (Obj.mapSeq fun _=>#[])).get? a=some (seqObj "list" #[] e1):=⟨_,get?_update_seq ho (fun _=>#[])⟩
 refine wpAny_bind (seqEpoch_at ho1 rfl ?_)
 refine wpAny_bind (wpAny_newTuple ?_)
 refine wpAny_bind (wpAny_newList ?_)
 refine wpAny_holding ?_
 have ho6:(((s.heap.update a (Obj.mapSeq fun _=>#[])).push (seqObj "tuple" vs.toArray 0)).push (seqObj "list" #[] 0)).get? a=some (seqObj "list" #[] e1):=Heap.get?_push_of_some _ (Heap.get?_push_of_some _ ho1)
 have kp:∀ b o,o.cls=.type "tuple" -> s.heap.get? b=some o->(((s.heap.update a (Obj.mapSeq fun _=>#[])).push (seqObj "tuple" vs.toArray 0)).push (seqObj "list" #[] 0)).get? b=some o:=fun b o hc eo=>by
  have hb:b≠a:=fun z=>by
   subst z
   rw [ho] at eo
   cases eo
   exact absurd hc (by intro z; injection z with z; exact absurd z (by decide))
  exact Heap.get?_push_of_some _ (Heap.get?_push_of_some _ (iR hb eo))
 have x6:=keeps _ _ x kp
 show wpAny (model prog w) A _ P E { s with heap:=((s.heap.update a (Obj.mapSeq fun _=>#[])).push (seqObj "tuple" vs.toArray 0)).push (seqObj "list" #[] 0) }
 dsimp only
 have fin:∀ st':SortSt,(arrOf st').toList.Perm (pairsOf vs).toList->failedOf st'=none->Asc κ (arrOf st').toList ->
   wpAny (model prog w) A (do
    let sorted:=(arrOf st').map (·.2)
    let touched:=(<- seqEpoch a) != e1
    Builtin.List.listUpdate (.ref a) fun _=>sorted
    if let some e:=failedOf st' then rule "list.sort.comparison-raised"; throw e
    if touched then rule "list.sort.modified"; raiseError "ValueError" "list modified during sort"
    ret .none) P E { s with heap:=((s.heap.update a (Obj.mapSeq fun _=>#[])).push (seqObj "tuple" vs.toArray 0)).push (seqObj "list" #[] 0) }:=fun st' hp hf hs=>by
  have hm:∀ p∈(arrOf st').toList,p=(p.2,p.2):=fun p hq=>by
   have:=hp.mem_iff.mp hq
   rw [pairsOf_toList] at this
   exact Prod.ext (mem_zip_self this).1 rfl
  have e2:((arrOf st').map (·.2)).toList=(arrOf st').toList.map (·.2):=Array.toList_map
  have pm:((arrOf st').toList.map (·.2)).Perm vs:=by
   have:=hp.map (·.2)
   rw [pairsOf_toList,List.map_snd_zip (Nat.le_refl _)] at this
   exact this
  have hsz:((arrOf st').map (·.2)).size=vs.length:=by rw [<- Array.length_toList,e2,pm.length_eq]
  refine wpAny_bind (seqEpoch_at ho6 rfl ?_)
  refine wpAny_bind (listUpdate_at ho6 rfl ?_ (hsz2:=by rw [hsz]; exact Nat.le_succ_of_le hz))
  rw [hf]
  simp only [bne_self_eq_false,Bool.false_eq_true,if_false]
  have ea:(arrOf st').map (·.2)=((arrOf st').toList.map (·.2)).toArray:=by rw [<- e2]
  refine wpAny_pure ?_
  have hh:=h ((arrOf st').toList.map (·.2)) pm ?_
  ·rw [<- ea] at hh
   exact hh
  ·rw [List.pairwise_map]
   refine List.Pairwise.imp_of_mem ?_ hs
   intro p q hp' hq' hle
   rw [hm p hp',hm q hq'] at hle
   exact hle
 by_cases h2:vs.toArray.size<2
 ·rw [if_pos h2,if_pos h2]
  refine wpAny_bind (wpAny_pure ?_)
  rw [StateT.run_pure]
  refine wpAny_bind (wpAny_pure ?_)
  refine fin (SortSt.mk' general' (vs.toArray.zip vs.toArray) #[] 7 none) (List.Perm.refl _) rfl ?_
  show Asc κ (pairsOf vs).toList
  rw [pairsOf_toList]
  match vs,h2 with
  | [],_=>exact List.Pairwise.nil
  | [v],_=>exact List.pairwise_singleton _ _
  | _::_::_,h2=>simp at h2; omega
 ·rw [if_neg h2,if_neg h2]
  refine wpAny_bind (kindw (by simp at h2; omega) _ x6 _ ?_)
  refine wpAny_bind (wpAny_mono (sK (T _ x6) (st:=SortSt.mk' kd (vs.toArray.zip vs.toArray) #[] 7 none)
   (Q:=fun _ st'=>(arrOf st').toList.Perm (pairsOf vs).toList/\failedOf st'=none/\Asc κ (arrOf st').toList) rfl rfl rfl (fun p hp=>?_) fun st' a1 a2 a3=>⟨a1,a2,a3⟩) ?_ fun _ _ e=>e)
  ·have hp:p∈(pairsOf vs).toList:=hp
   rw [pairsOf_toList] at hp
   obtain ⟨q1,q2⟩:=mem_zip_self hp
   have:p=(p.1,p.1):=Prod.ext rfl q1.symm
   rw [this]
   exact hS _ q2
  ·rintro ⟨⟨⟩,st'⟩ s' ⟨rfl,hp,hf,hs⟩
   exact fin st' hp hf hs
theorem vy:dQ (model prog w) A E s oneType' (fun p=>numOf p.1) (fun p=>∃ n t,p.1=Value.int n t):=fun x y hx hy st Q ek q=>by
 obtain ⟨n,t,e1⟩:=hx
 obtain ⟨m,u,e2⟩:=hy
 rw [lt'_eq]
 refine wpS_bind (wpS_get ?_)
 rw [ek,keyLt'_oneType,e1,e2]
 have q:Q (some (decide (numOf x.1<numOf y.1))) st:=q
 rw [e1,e2] at q
 exact wpS_bind (wpS_lift (wpAny_attempt (oneLt_int ⟨rfl,wpS_pure q⟩)))
theorem oG {a:Addr} {vs:List Value} {ns:List Int} {n:Nat} {P:PySem.Fin->Shared->Prop} (ho:s.heap.get? a=some (seqObj "list" vs.toArray n)) (hI:IntsAre vs ns) (hz:vs.length<=sizeLine)
  (h:∀ (out:Array Value) (ns':List Int),IntsAre out.toList ns'->ns'.Perm ns->ns'.Pairwise (· <= ·)->P (.done (.ret .none)) { s with heap:=sortedHeap s.heap a vs out }) :
  wpAny (model prog w) A (Builtin.«list.sort» ⟨[.ref a],[]⟩) P E s:=by
 refine jp (kd:=oneType') (κ:=fun p=>numOf p.1) (S:=fun p=>∃ n t,p.1=Value.int n t) ho (fun _=>True) trivial (fun _ _ _ _=>trivial) (fun h2 s' _ Q q=>?_) (fun _ _=>vy) (fun v hv=>hI.all v hv) hz fun out pm hs=>?_
 ·obtain ⟨v₁,v₂,rest,rfl⟩:∃ v₁ v₂ rest,vs=v₁ :: v₂ :: rest:=by
   match vs,h2 with
   | v₁ :: v₂ :: rest,_=>exact ⟨v₁,v₂,rest,rfl⟩
  rw [keyKind_ints hI]
  exact wpAny_pure q
 ·refine h out.toArray (out.map numOf) (intsAre_map out fun v hv=>hI.all v (pm.mem_iff.mp hv)) ?_ ?_
  ·have:=pm.map numOf
   rwa [hI.nums] at this
  ·rw [List.pairwise_map]; exact hs
end
end VL
namespace VL
open PySem PySem.Spec PyProof.Rows L2
noncomputable def iF:aZ->aZ->Bool
 | .inl a,.inl b=>decide (a<b)
 | .inr a,.inr b=>decide (a.cps.toList<b.cps.toList)
 | .inl _,.inr _=>true
 | .inr _,.inl _=>false
noncomputable def eY:List aZ->List aZ->Bool
 | [],[]=>false
 | [],_::_=>true
 | _::_,[]=>false
 | a::r,b::t=>if a=b then eY r t else iF a b
noncomputable def zt (x:List aZ):List (List aZ)->List (List aZ)
 | []=>[x]
 | y::r=>if eY y x then y::zt x r else x::y::r
noncomputable def eZ:List (List aZ)->List (List aZ)
 | []=>[]
 | x::r=>zt x (eZ r)
noncomputable def By:List D->Option (List aZ)
 | []=>some []
 | d::r=>(uA d).bind fun k=>(By r).bind fun l=>some (k::l)
noncomputable def Ks:D->Option (List aZ)
 | .tuple ds=>By ds
 | _=>none
noncomputable def uy:List D->Option (List (List aZ))
 | []=>some []
 | d::r=>(Ks d).bind fun k=>(uy r).bind fun l=>some (k::l)
noncomputable def IT:aZ->Bool
 | .inl _=>true
 | .inr _=>false
noncomputable def j1:List aZ->Bool
 | .inr _::r=>r.all IT
 | _=>false
noncomputable def ve:List aZ->Bool
 | .inl _::r=>r.all IT
 | _=>false
noncomputable def iD (d:D):Option D:=(fG d).bind fun ds=>match v9 ds with
 | some l=>some (.list ((lQ l).map .int))
 | none=>(uy ds).bind fun ks=>if ks.all j1||ks.all ve then some (.list ((eZ ks).map fun k=>.tuple (k.map jr))) else none
theorem str_eq {x y:Str} (h:x.cps.toList=y.cps.toList):x=y:=by
 cases x; cases y
 simp only [Str.mk.injEq]
 exact Array.toList_inj.mp h
theorem zk (a:aZ):iF a a=false:=by
 cases a with
 | inl a=>simp [iF]
 | inr a=>simp [iF,List.lt_irrefl]
theorem zj (a b:aZ) (h:a≠b):iF a b=!iF b a:=by
 cases a with
 | inl a=>
  cases b with
  | inl b=>
   have:a≠b:=fun z=>h (by rw [z])
   simp only [iF]
   rcases Int.lt_trichotomy a b with q | q | q
   ·rw [decide_eq_true q,decide_eq_false (by omega)]; rfl
   ·exact absurd q this
   ·rw [decide_eq_false (by omega),decide_eq_true q]; rfl
  | inr b=>rfl
 | inr a=>
  cases b with
  | inl b=>rfl
  | inr b=>
   have:a.cps.toList≠b.cps.toList:=fun z=>h (by rw [str_eq z])
   simp only [iF]
   by_cases q:a.cps.toList<b.cps.toList
   ·rw [decide_eq_true q,decide_eq_false (List.lt_asymm q)]; rfl
   ·rw [decide_eq_false q]
    have q:=List.not_lt.mp q
    rcases List.le_iff_lt_or_eq.mp q with q | q
    ·rw [decide_eq_true q]; rfl
    ·exact absurd q.symm this
theorem Bz {a b c:aZ} (h1:iF a b=true) (h2:iF b c=true):iF a c=true:=by
 cases a <;> cases b <;> cases c <;> simp only [iF,decide_eq_true_eq,Bool.false_eq_true] at h1 h2 ⊢
 ·omega
 ·exact List.lt_trans h1 h2
theorem oH:∀ a:List aZ,eY a a=false
 | []=>rfl
 | x::r=>by simp [eY,oH r]
theorem ku:∀ (a b:List aZ),a≠b->eY a b=!eY b a
 | [],[],h=>absurd rfl h
 | [],_::_,_=>rfl
 | _::_,[],_=>rfl
 | x::r,y::t,h=>by
  by_cases e:x=y
  ·subst e
   simp only [eY,if_true]
   exact ku r t fun z=>h (by rw [z])
  ·simp only [eY]
   rw [if_neg e,if_neg (Ne.symm e)]
   exact zj x y e
theorem kw:∀ {a b c:List aZ},eY a b=true->eY b c=true->eY a c=true
 | [],[],_,h,_=>by cases h
 | [],_::_,[],_,h=>by cases h
 | [],_::_,_::_,_,_=>rfl
 | _::_,[],_,h,_=>by cases h
 | _::_,_::_,[],_,h=>by cases h
 | x::r,y::t,z::u,h1,h2=>by
  simp only [eY] at h1 h2 ⊢
  by_cases e:x=y
  ·subst e
   rw [if_pos rfl] at h1
   by_cases e2:x=z
   ·subst e2
    rw [if_pos rfl] at h2 ⊢
    exact kw h1 h2
   ·rw [if_neg e2] at h2 ⊢
    exact h2
  ·rw [if_neg e] at h1
   by_cases e2:y=z
   ·subst e2
    rw [if_neg e]
    exact h1
   ·rw [if_neg e2] at h2
    have h3:=Bz h1 h2
    by_cases e3:x=z
    ·subst e3
     rw [zk] at h3
     cases h3
    ·rw [if_neg e3]; exact h3
def uu (a b:List aZ):Prop:=eY b a=false
theorem Bn {a b:List aZ} (h1:uu a b) (h2:uu b a):a=b:=by
 by_cases e:a=b
 ·exact e
 ·have:=ku a b e
  unfold uu at h1 h2
  rw [h1,h2] at this
  cases this
theorem HD {a b c:List aZ} (h1:uu a b) (h2:uu b c):uu a c:=by
 unfold uu at *
 cases h:eY c a with
 | false=>rfl
 | true=>
  by_cases e:b=c
  ·subst e; rw [h] at h1; cases h1
  ·have:=ku b c e
   rw [h2] at this
   rw [kw (by simpa using this) h] at h1
   cases h1
theorem lR (x:List aZ):∀ l,(zt x l).Perm (x::l)
 | []=>.refl _
 | y::r=>by
  unfold zt
  split
  ·exact ((lR x r).cons y).trans (.swap x y r)
  ·exact .refl _
theorem gy:∀ l,(eZ l).Perm l
 | []=>.refl _
 | x::r=>(lR x _).trans ((gy r).cons x)
theorem xN (x:List aZ):∀ l,l.Pairwise uu->(zt x l).Pairwise uu
 | [],_=>List.pairwise_singleton _ _
 | y::r,h=>by
  unfold zt
  obtain ⟨h1,h2⟩:=List.pairwise_cons.mp h
  split
  ·rename_i q
   refine List.pairwise_cons.mpr ⟨fun z hz=>?_,xN x r h2⟩
   rcases List.mem_cons.mp ((lR x r).mem_iff.mp hz) with rfl | hz
   ·unfold uu
    cases e:eY z y with
    | false=>rfl
    | true=>
     have:=kw q e
     rw [oH] at this
     cases this
   ·exact h1 z hz
  ·rename_i q
   have q:uu x y:=by simpa [uu] using q
   refine List.pairwise_cons.mpr ⟨fun z hz=>?_,h⟩
   rcases List.mem_cons.mp hz with rfl | hz
   ·exact q
   ·exact HD q (h1 z hz)
theorem lO:∀ l,(eZ l).Pairwise uu
 | []=>.nil
 | x::r=>xN x _ (lO r)
theorem mD:∀ {a b:List (List aZ)},a.Perm b->a.Pairwise uu->b.Pairwise uu->a=b
 | [],b,p,_,_=>(List.nil_perm.mp p).symm
 | x::r,[],p,_,_=>absurd p.length_eq (by simp)
 | x::r,y::t,p,h1,h2=>by
  obtain ⟨a1,a2⟩:=List.pairwise_cons.mp h1
  obtain ⟨b1,b2⟩:=List.pairwise_cons.mp h2
  have e:x=y:=by
   rcases List.mem_cons.mp (p.mem_iff.mp (List.mem_cons_self (a:=x) (l:=r))) with e | e
   ·exact e
   ·rcases List.mem_cons.mp (p.mem_iff.mpr (List.mem_cons_self (a:=y) (l:=t))) with f | f
    ·exact f.symm
    ·exact Bn (a1 y f) (b1 x e)
  subst e
  rw [mD ((List.perm_cons x).mp p) a2 b2]
theorem qz {a b:List (List aZ)} (p:a.Perm b) (h:a.Pairwise uu):a=eZ b:=mD (p.trans (gy b).symm) h (lO b)
theorem oN {a b:List (List aZ)} (p:a.Perm b):eZ a=eZ b:=qz ((gy a).trans p) (lO a)
end VL
namespace VL
open PySem PySem.Spec PyProof.Rows L2
section
variable {prog:Program} {w:World} {A:Around} {E:Value->Shared->Prop} {s:Shared}
def Np:aZ->Value->Prop
 | .inl i,v=>∃ t,v=.int i t
 | .inr x,v=>∃ t,v=.str x t
inductive KVals:List aZ->List Value->Prop
 | nil:KVals [] []
 | cons {k v ks vs}:Np k v->KVals ks vs->KVals (k::ks) (v::vs)
theorem KVals.one:∀ {k k':List aZ} {vs:List Value},KVals k vs->KVals k' vs->k=k'
 | _,_,_,.nil,.nil=>rfl
 | _,_,_,.cons (k:=a) h1 r1,.cons (k:=b) h2 r2=>by
  have e:=KVals.one r1 r2
  subst e
  cases a <;> cases b <;> obtain ⟨t,rfl⟩:=h1 <;> obtain ⟨u,h2⟩:=h2 <;> first | cases h2; rfl | cases h2
noncomputable def gD:List aZ->List aZ->Bool
 | a::r,b::t=>if a=b then gD r t else IT a==IT b
 | _,_=>true
theorem Bm {fin:Bool} {Q:Bool->Shared->Prop}:∀ {k1 k2:List aZ} {xs ys:List Value} {i:Nat},KVals k1 xs->KVals k2 ys->gD k1 k2=true->fin=decide (xs.length<ys.length)->Q (eY k1 k2) s->PySem.W.KatLex prog w A true fin Q (xs.zip ys) i s
 | _,_,_,_,i,.nil,.nil,_,hf,q=>by
  subst hf
  exact PySem.W.kat_nil q
 | _,_,_,_,i,.nil,.cons h r,_,hf,q=>by
  subst hf
  exact PySem.W.kat_nil (by simpa [eY] using q)
 | _,_,_,_,i,.cons h r,.nil,_,hf,q=>by
  subst hf
  rw [List.zip_nil_right]
  exact PySem.W.kat_nil (by simpa [eY] using q)
 | _,_,_,_,i,.cons (k:=a) (vs:=xs) h1 r1,.cons (k:=b) (vs:=ys) h2 r2,hc,hf,q=>by
  have hf:fin=decide (xs.length<ys.length):=by rw [hf]; simp
  rw [List.zip_cons_cons]
  refine PySem.W.kat_cons ?_
  simp only [eY,gD] at q hc
  by_cases e:a=b
  ·subst e
   rw [if_pos rfl] at q hc
   have go:=Bm (i:=i+1) r1 r2 hc hf q
   cases a with
   | inl a=>
    obtain ⟨t,rfl⟩:=h1
    obtain ⟨u,rfl⟩:=h2
    refine SeqAt.EqAt.int_int a t a u _ _ _ _ ?_
    rw [beq_self_eq_true]
    exact PySem.W.kat_yes go
   | inr a=>
    obtain ⟨t,rfl⟩:=h1
    obtain ⟨u,rfl⟩:=h2
    refine SeqAt.EqAt.str_str a t a u _ _ _ _ ?_
    rw [beq_self_eq_true]
    exact PySem.W.kat_yes go
  ·rw [if_neg e] at q hc
   cases a with
   | inl a=>
    cases b with
    | inr b=>cases hc
    | inl b=>
     obtain ⟨t,rfl⟩:=h1
     obtain ⟨u,rfl⟩:=h2
     refine SeqAt.EqAt.int_int a t b u _ _ _ _ ?_
     rw [beq_eq_false_iff_ne.mpr fun z=>e (by rw [z])]
     refine PySem.W.kat_no ?_
     cases i with
     | zero=>exact oneLt_int q
     | succ i=>exact PySem.W.kat_one _ _ (lt_int q)
   | inr a=>
    cases b with
    | inl b=>cases hc
    | inr b=>
     obtain ⟨t,rfl⟩:=h1
     obtain ⟨u,rfl⟩:=h2
     refine SeqAt.EqAt.str_str a t b u _ _ _ _ ?_
     rw [beq_eq_false_iff_ne.mpr fun z=>e (by rw [z])]
     refine PySem.W.kat_no ?_
     cases i with
     | zero=>exact oneLt_str q
     | succ i=>exact PySem.W.kat_one _ _ (lt_str q)
def KAt (h:Heap) (v:Value) (k:List aZ):Prop:=∃ b o xs n,v=.ref b/\h.get? b=some o/\o.cls=.type "tuple" /\ o.data=.seq xs n/\KVals k xs.toList
theorem KAt.one {h:Heap} {v:Value} {k k':List aZ} (h1:KAt h v k) (h2:KAt h v k'):k=k':=by
 obtain ⟨b,o,xs,n,rfl,e1,e2,e3,e4⟩:=h1
 obtain ⟨b',o',xs',n',q,f1,f2,f3,f4⟩:=h2
 cases q
 rw [e1] at f1
 cases f1
 rw [e3] at f3
 cases f3
 exact e4.one f4
theorem KAt.keeps {h h':Heap} {v:Value} {k:List aZ} (x:KAt h v k) (kp:∀ b o,o.cls=.type "tuple" -> h.get? b=some o->h'.get? b=some o):KAt h' v k:=by
 obtain ⟨b,o,xs,n,rfl,e1,e2,e3,e4⟩:=x
 exact ⟨b,o,xs,n,rfl,kp b o e2 e1,e2,e3,e4⟩
theorem Gz {x y:Value} {k1 k2:List aZ} {Q:Bool->Shared->Prop} (h1:KAt s.heap x k1) (h2:KAt s.heap y k2) (hc:gD k1 k2=true) (q:Q (eY k1 k2) s):wpAny (model prog w) A (keyLt' (tuples' true) x y) Q E s:=by
 obtain ⟨b,o,xs,n,rfl,e1,e2,e3,e4⟩:=h1
 obtain ⟨b',o',xs',n',rfl,f1,f2,f3,f4⟩:=h2
 exact PySem.W.kat_lt e1 e3 f1 f3 (Bm e4 f4 hc (by simp) q)
noncomputable def kf (ks:List (List aZ)) (k:List aZ):Int:=((ks.filter fun x=>eY x k).length:Nat)
theorem lY {α:Type} {p q:α -> Bool}:∀ (l:List α),(∀ x∈l,p x=true->q x=true)->(l.filter p).length<=(l.filter q).length
 | [],_=>Nat.le_refl _
 | x::l,h=>by
  have ih:=lY l fun y hy=>h y (List.mem_cons_of_mem _ hy)
  have hx:=h x List.mem_cons_self
  rw [List.filter_cons,List.filter_cons]
  cases e:p x with
  | false=>
   rw [if_neg (by simp)]
   split
   ·rw [List.length_cons]; omega
   ·exact ih
  | true=>
   rw [if_pos rfl,if_pos (hx e),List.length_cons,List.length_cons]; omega
theorem qD {α:Type} {p q:α -> Bool}:∀ (l:List α),(∀ x∈l,p x=true->q x=true)->(∃ x∈l,p x=false/\q x=true)->(l.filter p).length<(l.filter q).length
 | [],_,⟨x,hx,_⟩=>by cases hx
 | x::l,h,⟨y,hy,h1,h2⟩=>by
  have ih:=lY l fun y hy=>h y (List.mem_cons_of_mem _ hy)
  have hx:=h x List.mem_cons_self
  rw [List.filter_cons,List.filter_cons]
  rcases List.mem_cons.mp hy with rfl | hy
  ·rw [if_neg (by rw [h1]; simp),if_pos h2,List.length_cons]; omega
  ·have ih:=qD l (fun y hy=>h y (List.mem_cons_of_mem _ hy)) ⟨y,hy,h1,h2⟩
   cases e:p x with
   | false=>
    rw [if_neg (by simp)]
    split
    ·rw [List.length_cons]; omega
    ·exact ih
   | true=>
    rw [if_pos rfl,if_pos (hx e),List.length_cons,List.length_cons]; omega
theorem tR {ks:List (List aZ)} {x y:List aZ} (hx:x∈ks):decide (kf ks x<kf ks y)=eY x y:=by
 unfold kf
 cases e:eY x y with
 | true=>
  refine decide_eq_true ?_
  exact Int.ofNat_lt.mpr (qD ks (fun z _ hz=>kw hz e) ⟨x,hx,oH x,e⟩)
 | false=>
  refine decide_eq_false ?_
  have:=lY (p:=fun z=>eY z y) (q:=fun z=>eY z x) ks fun z _ hz=>by
   by_cases q:y=x
   ·subst q; exact hz
   ·have:=ku y x q
    rw [e] at this
    exact kw hz this
  omega
open Classical in
noncomputable def v8 (h:Heap) (v:Value):List aZ:=if q:∃ k,KAt h v k then q.choose else []
theorem rP {h:Heap} {v:Value} {k:List aZ} (x:KAt h v k):v8 h v=k:=by
 unfold v8
 have q:∃ k,KAt h v k:=⟨k,x⟩
 rw [dif_pos q]
 exact q.choose_spec.one x
theorem vx {h0:Heap} {ks:List (List aZ)} (hc:∀ x∈ks,∀ y∈ks,gD x y=true) (kp:∀ b o,o.cls=.type "tuple" -> h0.get? b=some o->s.heap.get? b=some o) :
  dQ (model prog w) A E s (tuples' true) (fun p=>kf ks (v8 h0 p.1)) (fun p=>∃ k∈ks,KAt h0 p.1 k):=fun x y hx hy st Q ek q=>by
 obtain ⟨k1,m1,a1⟩:=hx
 obtain ⟨k2,m2,a2⟩:=hy
 have q:Q (some (decide (kf ks (v8 h0 x.1)<kf ks (v8 h0 y.1)))) st:=q
 rw [rP a1,rP a2,tR m1] at q
 rw [lt'_eq]
 refine wpS_bind (wpS_get ?_)
 rw [ek]
 exact wpS_bind (wpS_lift (wpAny_attempt (Gz (a1.keeps kp) (a2.keeps kp) (hc _ m1 _ m2) ⟨rfl,wpS_pure q⟩)))
theorem oO:∀ {a b:List aZ},a.all IT=true->b.all IT=true->gD a b=true
 | [],_,_,_=>by simp [gD]
 | _::_,[],_,_=>by simp [gD]
 | x::r,y::t,h1,h2=>by
  simp only [List.all_cons,Bool.and_eq_true] at h1 h2
  simp only [gD]
  split
  ·exact oO h1.2 h2.2
  ·rw [h1.1,h2.1]; rfl
theorem Aa {a b:List aZ} (h1:j1 a=true) (h2:j1 b=true):gD a b=true:=by
 match a,b,h1,h2 with
 | .inr x::r,.inr y::t,h1,h2=>
  simp only [gD]
  split
  ·exact oO h1 h2
  ·rfl
theorem FA {a b:List aZ} (h1:ve a=true) (h2:ve b=true):gD a b=true:=by
 match a,b,h1,h2 with
 | .inl x::r,.inl y::t,h1,h2=>
  simp only [gD]
  split
  ·exact oO h1 h2
  ·rfl
inductive KAts (h:Heap):List Value->List (List aZ)->Prop
 | nil:KAts h [] []
 | cons {v k vs ks}:KAt h v k->KAts h vs ks->KAts h (v::vs) (k::ks)
theorem KAts.keeps {h h':Heap} (kp:∀ b o,o.cls=.type "tuple" -> h.get? b=some o->h'.get? b=some o):∀ {vs:List Value} {ks:List (List aZ)},KAts h vs ks->KAts h' vs ks
 | _,_,.nil=>.nil
 | _,_,.cons x r=>.cons (x.keeps kp) (KAts.keeps kp r)
theorem KAts.map {h:Heap}:∀ {vs:List Value} {ks:List (List aZ)},KAts h vs ks->vs.map (v8 h)=ks
 | _,_,.nil=>rfl
 | _,_,.cons x r=>by rw [List.map_cons,rP x,KAts.map r]
theorem KAts.mem {h:Heap}:∀ {vs:List Value} {ks:List (List aZ)},KAts h vs ks->∀ v∈vs,∃ k∈ks,KAt h v k
 | _,_,.cons (k:=k) x r,v,hv=>by
  rcases List.mem_cons.mp hv with rfl | hv
  ·exact ⟨k,List.mem_cons_self,x⟩
  ·obtain ⟨k',m,y⟩:=KAts.mem r v hv
   exact ⟨k',List.mem_cons_of_mem _ m,y⟩
theorem KAts.of_map {h:Heap}:∀ {vs:List Value},(∀ v∈vs,∃ k,KAt h v k)->KAts h vs (vs.map (v8 h))
 | [],_=>.nil
 | v::vs,H=>by
  obtain ⟨k,x⟩:=H v List.mem_cons_self
  rw [List.map_cons,rP x]
  exact .cons x (KAts.of_map fun u hu=>H u (List.mem_cons_of_mem _ hu))
noncomputable def FC:Bool->Value
 | true=>.type "str"
 | false=>.type "int"
theorem KAts.tups {h:Heap} {b:Bool}:∀ {vs:List Value} {ks:List (List aZ)},KAts h vs ks->(∀ k∈ks,(if b then j1 k else ve k)=true)->∃ fs:List Value,fs.length=vs.length/\PySem.W.KatTups h vs fs/\∀ v∈fs,∀ M:Model,PySem.W.Looks M h (typeOf v) (FC b)
 | _,_,.nil,_=>⟨[],rfl,trivial,fun v h=>by cases h⟩
 | _,_,.cons (k:=k) x r,hk=>by
  obtain ⟨fs,h1,h2,h3⟩:=KAts.tups r fun k' m=>hk k' (List.mem_cons_of_mem _ m)
  obtain ⟨a,o,xs,n,rfl,e1,e2,e3,e4⟩:=x
  have hk:=hk k List.mem_cons_self
  obtain ⟨f,ef,lf⟩:∃ f,xs[0]? = some f/\∀ M:Model,PySem.W.Looks M h (typeOf f) (FC b):=by
   cases b with
   | true=>
    match k,hk,e4 with
    | .inr y::t,_,e4=>
     generalize exs:xs.toList=l at e4
     cases e4 with
     | cons hv hr=>
      obtain ⟨u,rfl⟩:=hv
      refine ⟨_,by rw [<- Array.getElem?_toList,exs]; rfl,fun M=>PySem.W.Looks.of_pure rfl⟩
   | false=>
    match k,hk,e4 with
    | .inl y::t,_,e4=>
     generalize exs:xs.toList=l at e4
     cases e4 with
     | cons hv hr=>
      obtain ⟨u,rfl⟩:=hv
      refine ⟨_,by rw [<- Array.getElem?_toList,exs]; rfl,fun M=>PySem.W.Looks.of_pure rfl⟩
  refine ⟨f::fs,by rw [List.length_cons,List.length_cons,h1],⟨⟨a,o,xs,n,rfl,e1,e2,e3,ef⟩,h2⟩,fun v hv=>?_⟩
  rcases List.mem_cons.mp hv with rfl | hv
  ·exact lf
  ·exact h3 v hv
theorem yE {α β:Type} {f:α -> β} {R:β -> β -> Prop} {l:List α} (h:l.Pairwise fun x y=>R (f x) (f y)):(l.map f).Pairwise R:=List.pairwise_map.mpr h
theorem oF {a:Addr} {vs:List Value} {ks:List (List aZ)} {n:Nat} {P:PySem.Fin->Shared->Prop} (ho:s.heap.get? a=some (seqObj "list" vs.toArray n)) (x:KAts s.heap vs ks) (hk:(ks.all j1||ks.all ve)=true) (hz:vs.length<=sizeLine)
  (h:∀ out:List Value,out.Perm vs->KAts s.heap out (eZ ks)->P (.done (.ret .none)) { s with heap:=sortedHeap s.heap a vs out.toArray }) :
  wpAny (model prog w) A (Builtin.«list.sort» ⟨[.ref a],[]⟩) P E s:=by
 have hc:∀ x∈ks,∀ y∈ks,gD x y=true:=fun x hx y hy=>by
  rcases Bool.or_eq_true_iff.mp hk with q | q
  ·exact Aa (List.all_eq_true.mp q x hx) (List.all_eq_true.mp q y hy)
  ·exact FA (List.all_eq_true.mp q x hx) (List.all_eq_true.mp q y hy)
 obtain ⟨b,hb⟩:∃ b:Bool,∀ k∈ks,(if b then j1 k else ve k)=true:=by
  rcases Bool.or_eq_true_iff.mp hk with q | q
  ·exact ⟨true,fun k m=>List.all_eq_true.mp q k m⟩
  ·exact ⟨false,fun k m=>List.all_eq_true.mp q k m⟩
 refine jp (kd:=tuples' true) (κ:=fun p=>kf ks (v8 s.heap p.1)) (S:=fun p=>∃ k∈ks,KAt s.heap p.1 k) ho (fun h'=>∀ (b:Addr) (o:Obj),o.cls=.type "tuple" -> s.heap.get? b=some o->h'.get? b=some o) (fun _ _ _ e=>e) (fun h1 h2 (p:∀ (b:Addr) (o:Obj),o.cls=.type "tuple" -> s.heap.get? b=some o->h1.get? b=some o) kp b o (ec:o.cls=.type "tuple") e=>kp b o ec (p b o ec e)) (fun h2 s' kp Q q=>?_) (fun s' kp=>vx hc kp) (fun v hv=>x.mem v hv) hz fun out pm hs=>?_
 ·obtain ⟨fs,f1,f2,f3⟩:=(x.keeps kp).tups hb
  refine PySem.W.kat_kind (T:=FC b) f2 (by omega) (fun v hv=>f3 v hv _) (by cases b <;> decide) ?_
  have:(FC b != Value.type "tuple")=true:=by cases b <;> decide
  rw [this]
  exact q
 ·have H:∀ v∈out,∃ k,KAt s.heap v k:=fun v hv=>by
   obtain ⟨k,_,y⟩:=x.mem v (pm.mem_iff.mp hv)
   exact ⟨k,y⟩
  have X:=KAts.of_map H
  have pk:(out.map (v8 s.heap)).Perm ks:=by
   have:=pm.map (v8 s.heap)
   rwa [x.map] at this
  have e:out.map (v8 s.heap)=eZ ks:=by
   refine qz pk ?_
   refine yE ?_
   refine List.Pairwise.imp_of_mem ?_ hs
   intro p q hp hq hle
   have m:v8 s.heap q∈ks:=pk.mem_iff.mp (List.mem_map.mpr ⟨q,hq,rfl⟩)
   have:=tR (y:=v8 s.heap p) m
   unfold uu
   rw [<- this]
   have hle:kf ks (v8 s.heap p)<=kf ks (v8 s.heap q):=hle
   exact decide_eq_false (by omega)
  rw [e] at X
  exact h out pm X
end
end VL
namespace VL
open PySem PySem.Spec PyProof.Rows L2
section
variable {X:Cx}
noncomputable def v6:aZ->V
 | .inl i=>.int i
 | .inr x=>.str x
noncomputable def NH:Value->V
 | .ref b=>.ref b
 | _=>.non
inductive KeyVs (K:Fg) (H:Hp):List V->List (List aZ)->Prop
 | nil:KeyVs K H [] []
 | cons {b k vs ks}:SqT K H b (k.map v6)->KeyVs K H vs ks->KeyVs K H (.ref b::vs) (k::ks)
theorem oK:∀ {k:List aZ} {us:List Value},Vals (k.map v6) us->KVals k us
 | [],_,.nil=>.nil
 | .inl i::k,_,.cons h r=>.cons h (oK r)
 | .inr x::k,_,.cons h r=>.cons h (oK r)
theorem BA {pins:List (Addr×Obj)} {σ:St} {H:Hp} {s:Shared} (I:Inv X pins σ H s) {b:Addr} {k:List aZ} (h:SqT X.K H b (k.map v6)):KAt s.heap (.ref b) k:=by
 obtain ⟨its,r,⟨o,e1,e2,n,e3⟩,z⟩:=I.tuple h
 exact ⟨b,o,its.toArray,n,rfl,e1,e2,e3,by simpa using oK r⟩
theorem uw {pins:List (Addr×Obj)} {σ:St} {Z H:Hp} {s:Shared} (I:Inv X pins σ H s) (zh:Same Z H):∀ {vs:List V} {ks:List (List aZ)} {its:List Value},KeyVs X.K Z vs ks->Vals vs its->KAts s.heap its ks/\∀ u∈its,∃ (b:Addr) (k:List aZ),u=.ref b/\SqT X.K Z b (k.map v6)
 | _,_,_,.nil,.nil=>⟨.nil,fun u h=>by cases h⟩
 | _,_,_,.cons (b:=b) (k:=k) h r,.cons hv hr=>by
  obtain ⟨a2,a3⟩:=uw I zh r hr
  have hv:=hv
  cases hv
  refine ⟨.cons (BA I (SqT.same h zh)) a2,fun u hu=>?_⟩
  rcases List.mem_cons.mp hu with rfl | hu
  ·exact ⟨b,k,rfl,h⟩
  ·exact a3 u hu
theorem oM {pins:List (Addr×Obj)} {σ:St} {Z H:Hp} {s:Shared} (I:Inv X pins σ H s) (zh:Same Z H):∀ {out:List Value} {ks:List (List aZ)},KAts s.heap out ks->(∀ u∈out,∃ (b:Addr) (k:List aZ),u=.ref b/\SqT X.K Z b (k.map v6))->KeyVs X.K Z (out.map NH) ks/\Vals (out.map NH) out
 | _,_,.nil,_=>⟨.nil,.nil⟩
 | _,_,.cons h r,hs=>by
  obtain ⟨a1,a2⟩:=oM I zh r fun u hu=>hs u (List.mem_cons_of_mem _ hu)
  obtain ⟨b,k',rfl,q⟩:=hs _ List.mem_cons_self
  have:=h.one (BA I (SqT.same q zh))
  subst this
  exact ⟨.cons q a1,.cons rfl a2⟩
def LL (K:Fg) (H:Hp) (vs:List V) (P:List V->Prop):Prop:=
 (∃ l:List Int,vs=l.map V.int/\P ((lQ l).map V.int))\/∃ ks,KeyVs K H vs ks/\(ks.all j1||ks.all ve)=true/\∀ vs',KeyVs K H vs' (eZ ks)->P vs'
theorem vC {pins:List (Addr×Obj)} {σ:St} {H:Hp} {s:Shared} {a:Addr} {vs:List V} {Q:VK} {Z:Hp} (I:Inv X pins σ H s) (zh:Same Z H) (hs:SqL X.K H a vs\/SqT X.K H a vs) (hsrt:LL X.K Z vs fun vs'=>∀ l,H l=none->Q (.ref l) (upd H l (.lst vs'))) :
  wpAny (model X.prog X.w) X.A (call (.builtin "sorted") [.ref a]) (EP X pins σ Q) X.xe s:=by
 obtain ⟨its,rv,T,o,n,hT,e1,e2,e3,hz⟩:∃ (its:List Value),Vals vs its/\∃ (T:String) (o:Obj) (n:Nat),(T = "list" \/ T = "tuple")/\s.heap.get? a=some o/\o.cls=.type T/\o.data=.seq its.toArray n/\its.length<=sizeLine:=by
  rcases hs with hs | hs
  ·obtain ⟨its,r,⟨o,n,e1,e2,e3,e4⟩,z⟩:=I.list hs
   exact ⟨its,r,"list",o,n,.inl rfl,e1,e2,e4,by rw [<- r.length]; exact z⟩
  ·obtain ⟨its,r,⟨o,e1,e2,n,e3⟩,z⟩:=I.tuple hs
   exact ⟨its,r,"tuple",o,n,.inr rfl,e1,e2,e3,by rw [<- r.length]; exact z⟩
 refine Calls.call_function_entry kind_sorted plain_sorted entry_sorted (args_sorted1 _) ?_
 unfold Builtin.«sorted»
 refine wpAny_bind (m:=checkCount "sorted" 1 1 _) (wpAny_pure ?_)
 refine wpAny_bind (wpAny_collect_seq a hT e1 e2 e3 (fun h' hk'=>?_) (by simpa using hz))
 show wpAny _ _ (newList its >>= _) _ _ { s with heap:=h' }
 refine wpAny_bind (wpAny_newList ?_ hz)
 have hoL:(h'.push (seqObj "list" its.toArray 0)).get? h'.objs.size=some (seqObj "list" its.toArray 0):=Heap.get?_push_size _ rfl
 have I1:Inv X pins σ H { s with heap:=h' }:=I.kept (t':=s.toks) hk'
 have I2:Inv X pins σ H { s with heap:=h'.push (seqObj "list" its.toArray 0) }:=I1.kept (t':=s.toks) fun b o eo=>Heap.get?_push_of_some _ eo
 have fin:∀ (out:List Value) (vs':List V),Vals vs' out->out.length=its.length->(∀ l,H l=none->Q (.ref l) (upd H l (.lst vs')))->EP X pins σ Q (.ref h'.objs.size) { s with heap:=sortedHeap (h'.push (seqObj "list" its.toArray 0)) h'.objs.size its out.toArray }:=fun out vs' r hl q=>by
  have kp:∀ b o,h'.get? b=some o->(sortedHeap (h'.push (seqObj "list" its.toArray 0)) h'.objs.size its out.toArray).get? b=some o:=fun b o eo=>by
   have hb:b≠h'.objs.size:=Nat.ne_of_lt (Heap.lt_size eo)
   exact iR hb (Heap.get?_push_of_some _ (Heap.get?_push_of_some _ (iR hb (Heap.get?_push_of_some _ eo))))
  obtain ⟨e1,ho1⟩:∃ e1,((h'.push (seqObj "list" its.toArray 0)).update h'.objs.size (Obj.mapSeq fun _=>#[])).get? h'.objs.size=some (seqObj "list" #[] e1):=⟨_,get?_update_seq hoL (fun _=>#[])⟩
  have ho2:=Heap.get?_push_of_some (seqObj "list" #[] 0) (Heap.get?_push_of_some (seqObj "tuple" its.toArray 0) ho1)
  have ho3:=get?_update_seq ho2 (fun _=>out.toArray)
  have L:=I1.laid (h':=sortedHeap (h'.push (seqObj "list" its.toArray 0)) h'.objs.size its out.toArray) (a:=h'.objs.size) (o:=.lst vs') (t':=s.toks) kp (Nat.le_refl _)
   (show ObjOk X.prog X.w _ _ _ (.lst vs') from ⟨by rw [r.length,hl]; exact hz,out,_,r,ho3⟩)
  exact ⟨.ref h'.objs.size,_,L,rfl,q _ (I1.hok.fresh (Nat.le_refl _))⟩
 rcases hsrt with ⟨l,rfl,q⟩ | ⟨ks,kv,ok,q⟩
 ·refine wpAny_bind (wpAny_holding (wpAny_call_entry slot_list_sort ⟨_,hoL,rfl⟩ entry_list_sort (oG hoL (jv rv) hz fun out ns' a1 a2 a3=>⟨_,rfl,?_⟩) (args_list_sort _)))
  refine wpAny_pure ⟨_,rfl,?_⟩
  have e:=zp a2 a3
  subst e
  have:=fin out.toList _ (gU a1) (by rw [IntsAre.length a1,(iS l).length_eq]; exact (IntsAre.length (jv rv)).symm) q
  simpa using this
 ·obtain ⟨v2,v3⟩:=uw I2 zh kv rv
  refine wpAny_bind (wpAny_holding (wpAny_call_entry slot_list_sort ⟨_,hoL,rfl⟩ entry_list_sort (oF hoL v2 ok hz fun out pm ka=>⟨_,rfl,?_⟩) (args_list_sort _)))
  refine wpAny_pure ⟨_,rfl,?_⟩
  obtain ⟨b1,b2⟩:=oM I2 zh ka fun u hu=>v3 u (pm.mem_iff.mp hu)
  exact fin out _ b2 pm.length_eq (q _ b1)
theorem qt {K:Fg} {Z:Hp}:∀ {us:List V} {ds:List D} {k:List aZ},Reps K Z us ds->By ds=some k->us=k.map v6
 | _,_,_,.nil,h=>by cases h; rfl
 | _,d::ds,_,.cons r rs,h=>by
  obtain ⟨x,e1,h⟩:=bind_some h
  obtain ⟨k',e2,h⟩:=bind_some h
  cases h
  rw [List.map_cons,<- qt rs e2]
  cases r <;> cases e1 <;> rfl
theorem qv {K:Fg} {Z:Hp}:∀ {vs:List V} {ds:List D} {ks:List (List aZ)},Reps K Z vs ds->uy ds=some ks->KeyVs K Z vs ks
 | _,_,_,.nil,h=>by cases h; exact .nil
 | _,d::ds,_,.cons r rs,h=>by
  obtain ⟨k,e1,h⟩:=bind_some h
  obtain ⟨k',e2,h⟩:=bind_some h
  cases h
  cases r with
  | tup sq r2=>
   have e:=qt r2 e1
   subst e
   exact .cons sq (qv rs e2)
  | _=>cases e1
theorem lF {K:Fg} {Z:Hp}:∀ k:List aZ,Reps K Z (k.map v6) (k.map jr)
 | []=>.nil
 | .inl i::k=>.cons (.int i) (lF k)
 | .inr x::k=>.cons (.str x) (lF k)
theorem qu {K:Fg} {Z:Hp}:∀ {vs:List V} {ks:List (List aZ)},KeyVs K Z vs ks->Reps K Z vs (ks.map fun k=>.tuple (k.map jr))
 | _,_,.nil=>.nil
 | _,_,.cons h r=>.cons (.tup h (lF _)) (qu r)
variable {e:Expr} {p pos:Pos} {te:TE} {f:Dv->Option D}
def Jl (K:Fg) (te:TE):TE:=fun σ H Q=>te σ H fun v H1=>∃ (a:Addr) (vs:List V) (Z:Hp),[v]=[V.ref a]/\Same Z H1/\(SqL K H1 a vs\/SqT K H1 a vs)/\LL K Z vs fun vs'=>∀ l,H1 l=none->Q (.ref l) (upd H1 l (.lst vs'))
theorem yI (hg:Gl X "sorted") (hm:X.mg "sorted" = none) (ha:PE X e te) (he:starEach [e] X.env=(false,eval e X.env)::starEach [] X.env:=by rfl) (hpl:(backTo pos (starEach [] X.env)).any (·.1)=false:=by rfl) :
  PE X (.Call (.Name "sorted" p) [e] [] pos) (Jl X.K te):=by
 intro pins s σ H Q I h
 refine wpAny_Call_Name_kw (jG I hg hm (u:=.builtin "sorted") (by decide +kernel) ?_ (by decide) (by decide))
 refine PyProof.Rows.callWith_builtin1 (cx (jc ha lI he pos pins s σ H (fun xs H1=>∃ (a:Addr) (vs:List V) (Z:Hp),xs=[V.ref a]/\Same Z H1/\(SqL X.K H1 a vs\/SqT X.K H1 a vs)/\LL X.K Z vs fun vs'=>∀ l,H1 l=none->Q (.ref l) (upd H1 l (.lst vs'))) I (by exact h)) fun us s1 ⟨vs,H1,I1,r1,q1⟩=>?_) he hpl
 obtain ⟨a,xs,Z,e1,zh,hsq,q⟩:=q1
 subst e1
 obtain ⟨u,rfl,rx⟩:=nJ r1
 cases rx
 exact vC I1 zh hsq q
theorem E9 (hg:Gl X "sorted") (hm:X.mg "sorted" = none) (ha:EV X e f) (he:starEach [e] X.env=(false,eval e X.env)::starEach [] X.env:=by rfl) (hpl:(backTo pos (starEach [] X.env)).any (·.1)=false:=by rfl) :
  EO X (.Call (.Name "sorted" p) [e] [] pos) (MB (o1 f iD)):=
 PE.imp (yI hg hm ha he hpl) fun σ H Q h=>by
  obtain ⟨H₀,Z₀,Z,δ,ds0,hh,e0,k⟩:=h
  obtain ⟨d,e,e0⟩:=bind_some e0
  obtain ⟨d1,e1,e⟩:=bind_some e
  refine ⟨H₀,Z₀,Z,δ,d1,hh,e1,fun v Z1 H1 hh1 t1 r1=>?_⟩
  unfold iD at e
  obtain ⟨ds,e2,e⟩:=bind_some e
  have key:∀ vs,Reps X.K Z1 vs ds->LL X.K Z1 vs fun vs'=>∀ l,H1 l=none->Q (.ref l) (upd H1 l (.lst vs')):=fun vs rs=>by
   cases e3:v9 ds with
   | some l=>
    rw [e3] at e
    cases e
    cases e0
    exact .inl ⟨l,uE rs e3,fun b hb=>k b _ Z1 H1 hh1 t1 hb (Reps.ints _)⟩
   | none=>
    rw [e3] at e
    obtain ⟨ks,e4,e⟩:=bind_some e
    obtain ⟨ok,e⟩:=d4 e
    cases e
    cases e0
    exact .inr ⟨ks,qv rs e4,ok,fun vs' kv b hb=>k b _ Z1 H1 hh1 t1 hb (qu kv)⟩
  cases r1 with
  | lst sq rs=>
   cases e2
   exact ⟨_,_,Z1,rfl,hh1.zh,.inl (SqL.same sq hh1.zh),key _ rs⟩
  | tup sq rs=>
   cases e2
   exact ⟨_,_,Z1,rfl,hh1.zh,.inr (SqT.same sq hh1.zh),key _ rs⟩
  | _=>cases e2
theorem K1 {g:Dv->Option D} (h:EO X e (MB g)) (hl:∀ δ d,g δ = some d->∃ ds,d=.list ds):EV X e g:=
 PE.imp h fun σ H Q h=>by
  obtain ⟨H₀,Z₀,Z,δ,d,hh,e,k⟩:=h
  obtain ⟨ds,rfl⟩:=hl _ _ e
  refine ⟨H₀,Z₀,Z,δ,ds,hh,by unfold MB; rw [e]; rfl,fun p vs Z1 H1 hh1 t1 hp r1=>?_⟩
  have n:=New.add hh1.zh hp (.lst vs)
  exact k _ _ _ (hh1.new n) (t1.trans n.z) (.lst (SqL.of aQ) (r1.same n.z))
theorem vD {d d':D} (h:iD d=some d'):∃ ds,d'=.list ds:=by
 unfold iD at h
 obtain ⟨ds,_,h⟩:=bind_some h
 cases e3:v9 ds with
 | some l=>rw [e3] at h; cases h; exact ⟨_,rfl⟩
 | none=>
  rw [e3] at h
  obtain ⟨ks,_,h⟩:=bind_some h
  obtain ⟨_,h⟩:=d4 h
  cases h
  exact ⟨_,rfl⟩
theorem E4 (hg:Gl X "sorted") (hm:X.mg "sorted" = none) (ha:EV X e f) (he:starEach [e] X.env=(false,eval e X.env)::starEach [] X.env:=by rfl) (hpl:(backTo pos (starEach [] X.env)).any (·.1)=false:=by rfl) :
  EV X (.Call (.Name "sorted" p) [e] [] pos) (o1 f iD):=
 K1 (E9 hg hm ha he hpl) fun δ d e=>by
  obtain ⟨d1,_,e⟩:=bind_some e
  exact vD e
end
end VL
namespace VL
open PySem PySem.Spec PyProof.Rows L2
end VL
namespace VL
open PySem PySem.Spec PyProof.Rows L2
noncomputable def Zp (A:List Addr) (H Z:Hp):Hp:=fun b=>if b∈A then H b else Z b
end VL
namespace VL
open PySem PySem.Spec PyProof.Rows L2
end VL
namespace VL
open PySem PySem.Spec PyProof.Rows L2
end VL
namespace VL
open PySem PySem.Spec PyProof.Rows L2
end VL
namespace VL
open PySem PySem.Spec PyProof.Rows L2
end VL
namespace VL
open PySem PySem.Spec PyProof.Rows L2
end VL
namespace VL
open PySem PySem.Spec PyProof.Rows L2
@[simp] noncomputable def Ow (i:Nat) (fk fv:Dv->Option D):Sf:=fun δ=>(fk δ).bind fun dk=>(fv δ).bind fun v=>(Cy δ[i]?).bind fun ds=>match dk with
 | .int k=>if 0<=k/\k.toNat<=ds.length/\ds.length<sizeLine then some (.nx,δ.set i (.ow (ds.take k.toNat++v::ds.drop k.toNat))) else none
 | _=>none
end VL
namespace VL
open PySem PySem.Spec PyProof.Rows L2
noncomputable def sR:List (D×D)->Option (List (aZ×D))
 | []=>some []
 | p::r=>(uA p.1).bind fun k=>(sR r).bind fun es=>some ((k,p.2)::es)
noncomputable def CZ (es:List (aZ×D)):List (D×D):=es.map fun p=>(jr p.1,p.2)
theorem nK:∀ es:List (aZ×D),sR (CZ es)=some es
 | []=>rfl
 | (k,d)::r=>by
  have e:CZ ((k,d)::r)=(jr k,d)::CZ r:=rfl
  rw [e,sR,v7,Option.bind_some,nK r]
  rfl
noncomputable def vM:List D->Option (List (aZ×D))
 | []=>some []
 | k::v::r=>(uA k).bind fun k=>(vM r).bind fun es=>some ((k,v)::es)
 | _=>none
noncomputable def uS:List aZ->Bool
 | []=>true
 | k::r=>!(r.any fun x=>decide (x=k))&&uS r
noncomputable def se (ds:List D):Option D:=(vM ds).bind fun es=>if uS (es.map (·.1))=true/\es.length<=15 then some (.dict ((.none,.none)::CZ es)) else none
noncomputable def qB:List D->Option D
 | [.dict ((.none,.none)::l),k,y]=>(sR l).bind fun es=>(uA k).bind fun k=>some ((mY es k).getD y)
 | _=>none
section
variable {K:Fg}
theorem HZ {Z:Hp} {v:V} {l:List (D×D)} {es:List (aZ×D)} (r:Rep K Z v (.dict ((.none,.none)::l))) (h:sR l=some es):∃ a kvs,v=.ref a/\Z a=some (.dK kvs)/\wV K Z kvs es:=by
 generalize hd:(PyData.dict ((PyData.none,PyData.none)::l):D)=d at r
 cases r with
 | @opq a _ q=>
  cases hd
  cases q with
  | dct h1 h2=>
   rename_i es
   cases es with
   | nil=>cases h1
   | cons e es=>simp [Fc] at h1
 | @gdc a kvs fs l' h1 h2 h3 h4=>
  cases hd
  have:sR (CZ fs)=some es:=by rw [<- h]; exact congrArg sR h4.symm
  rw [nK] at this
  cases this
  exact ⟨a,kvs,rfl,h1,h2,h3⟩
 | _=>cases hd
theorem tU {κ:Type} [DecidableEq κ] {kvs:List (κ × V)} {k:κ} (v:V) (h:k ∉ kvs.map (·.1)):lG kvs k v=kvs++[(k,v)]:=by
 unfold lG
 rw [if_neg]
 intro q
 obtain ⟨p,hp,e⟩:=List.any_eq_true.mp q
 exact h (by rw [<- of_decide_eq_true e]; exact List.mem_map_of_mem hp)
theorem qm:∀ (more kvs:List (aZ×V)),uS (more.map (·.1))=true->(∀ k∈more.map (·.1),k ∉ kvs.map (·.1))->il kvs more=kvs++more
 | [],kvs,_,_=>by simp [il]
 | (k,v)::r,kvs,h,hn=>by
  have h':(!((r.map (·.1)).any fun x=>decide (x=k))&&uS (r.map (·.1)))=true:=h
  obtain ⟨h1,h2⟩:=Bool.and_eq_true_iff.mp h'
  have e:il kvs ((k,v)::r)=il (lG kvs k v) r:=rfl
  rw [e,tU v (hn k (by simp)),qm r _ h2,List.append_assoc]
  ·rfl
  ·intro x hx
   rw [List.map_append,List.mem_append]
   rintro (z | z)
   ·exact hn x (List.mem_cons_of_mem _ hx) z
   ·have:x=k:=by simpa using z
    subst this
    have:((r.map (·.1)).any fun y=>decide (y=x))=true:=List.any_eq_true.mpr ⟨x,hx,decide_eq_true rfl⟩
    rw [this] at h1
    cases h1
noncomputable def gC (ps:List (V×V)):List V:=ps.flatMap fun p=>[p.1,p.2]
theorem tX {Z:Hp}:∀ {ps:List (V×V)} {xs:List D} {es:List (aZ×D)},Reps K Z (gC ps) xs->vM xs=some es->∃ kvs:List (aZ×V),ps=kvs.map (fun kv=>(kV kv.1,kv.2))/\wV K Z kvs es
 | [],xs,es,r,h=>by
  cases (show Reps K Z [] xs from r)
  cases h
  exact ⟨[],rfl,rfl,.nil⟩
 | (x,y)::ps,xs,es,r,h=>by
  have r':Reps K Z (x::y::gC ps) xs:=r
  match xs,r' with
  | _::_::_,.cons r1 (.cons r2 r3)=>
   obtain ⟨ky,e1,h⟩:=bind_some h
   obtain ⟨fs,e2,h⟩:=bind_some h
   cases h
   obtain ⟨kvs,rfl,q1,q2⟩:=tX r3 e2
   obtain rfl:=uz r1 e1
   exact ⟨(ky,y)::kvs,rfl,by simp [q1],.cons r2 q2⟩
def Ol (K:Fg) (fs:Dv->Option (List D)) (σ:St) (H:Hp) (Q:List (V×V)->Hp->Prop):Prop:=
 ∃ H₀ Z₀ Z δ xs,Hold K H₀ Z₀ Z δ σ H/\fs δ = some xs/\∀ ps Z1 H1,Hold K H₀ Z₀ Z1 δ σ H1->Same Z Z1->Reps K Z1 (gC ps) xs->Q ps H1
end
def DV (X:Cx) (pos:Pos) (ks:List (Option Expr)) (vs:List Expr) (fs:Dv->Option (List D)):Prop:=∃ trs,Lj X pos ks vs trs/\∀ σ H Q,Ol X.K fs σ H Q->qT trs σ H Q
section
variable {X:Cx} {pos:Pos} {ks:List (Option Expr)} {vs:List Expr} {k v:Expr} {fs:Dv->Option (List D)} {fk fv:Dv->Option D}
theorem wx:DV X pos [] [] ap:=⟨[],DH,fun σ H Q h=>by
 obtain ⟨H₀,Z₀,Z,δ,xs,hh,e,q⟩:=h
 cases e
 exact q [] Z H hh (fun _ _ e=>e) .nil⟩
theorem iu (hk:EV X k fk) (hv:EV X v fv) (hr:DV X pos ks vs fs):DV X pos (some k::ks) (v::vs) (ae fk (ae fv fs)):=by
 obtain ⟨trs,h1,h2⟩:=hr
 refine ⟨_,AF hk hv h1,fun σ H Q h=>?_⟩
 obtain ⟨H₀,Z₀,Z,δ,xs,hh,e,q⟩:=h
 obtain ⟨dk,e1,e⟩:=bind_some e
 obtain ⟨ys,e2,e⟩:=bind_some e
 cases e
 obtain ⟨dv,e3,e⟩:=bind_some e2
 obtain ⟨zs,e4,e⟩:=bind_some e
 cases e
 exact ⟨H₀,Z₀,Z,δ,dk,hh,e1,fun x Z1 H1 hh1 t1 r1=>⟨H₀,Z₀,Z1,δ,dv,hh1,e3,fun y Z2 H2 hh2 t2 r2=>h2 σ H2 _ ⟨H₀,Z₀,Z2,δ,zs,hh2,e4,fun ps Z3 H3 hh3 t3 r3=>q ((x,y)::ps) Z3 H3 hh3 (t1.trans (t2.trans t3)) (.cons ((r1.same t2).same t3) (.cons (r2.same t3) r3))⟩⟩⟩
theorem ww (h:DV X pos ks vs fs) (hall:ks.all (·.isSome)=true:=by rfl) (hl:ks.length=vs.length:=by rfl) (h0:ks≠[]:=by simp) (h15:ks.length<=15:=by decide):EV X (.Dict ks vs pos) (os fs se):=by
 obtain ⟨trs,h1,h2⟩:=h
 refine PE.imp (DN h1 hall hl h0 h15) fun σ H Q h=>?_
 obtain ⟨H₀,Z₀,Z,δ,d,hh,e,kk⟩:=h
 obtain ⟨xs,e1,e⟩:=bind_some e
 obtain ⟨es,e2,e⟩:=bind_some e
 obtain ⟨⟨hd,hl'⟩,e⟩:=d4 e
 cases e
 intro p hp
 have z0:=kq hh.z0 (kB hh.zh hp)
 have h0:H₀ p=none:=by
  cases e:H₀ p with
  | none=>rfl
  | some o=>rw [hh.h0 p o e] at hp; cases hp
 refine h2 σ _ _ ⟨_,Z₀,Z,δ,xs,hh.aside hp (.dK []),e1,fun ps Z1 H1 hh1 t1 r1=>?_⟩
 obtain ⟨g1,g2⟩:=hh1.inside h0 z0
 obtain ⟨kvs,rfl,rk⟩:=tX r1 e2
 have hn:(fun b=>if b=p then none else H1 b) p=none:=if_pos rfl
 have len:kvs.length=es.length:=tP rk
 refine ⟨g1,kvs,rfl,by omega,?_⟩
 rw [qm kvs [] (by rw [<- rk.1]; exact hd) (fun k _ z=>nomatch z),List.nil_append]
 have n:=New.add g2.zh hn (.dK kvs)
 have eH:upd (fun b=>if b=p then none else H1 b) p (.dK kvs)=upd H1 p (.dK kvs):=funext fun b=>by
  by_cases hb:b=p
  ·subst hb; rw [aQ,aQ]
  ·rw [aU hb,aU hb]; exact if_neg hb
 have st:=g2.new n
 have nz:=n.z
 rw [eH] at st
 exact kk _ _ _ st (t1.trans nz) (.gdc aQ rk.1 (rk.2.same nz) rfl)
theorem E7 {a b c:Expr} {f fk fx:Dv->Option D} {apos cpos:Pos} (hu:X.A.units+1<cLine) (ha:EV X a f) (hb:EV X b fk) (hc:EV X c fx) (m:M2 X a "get" apos b c cpos):EV X (.Call (.Attribute a "get" apos) [b,c] [] cpos) (os (ae f (ae fk (ae fx ap))) qB):=
 PE.imp (AN hu ha hb hc m) fun σ H Q h=>by
  obtain ⟨H₀,Z₀,Z,δ,d,hh,e,k⟩:=h
  obtain ⟨xs,e0,e⟩:=bind_some e
  obtain ⟨x,e1,e0⟩:=bind_some e0
  obtain ⟨ys,e2,e0⟩:=bind_some e0
  cases e0
  obtain ⟨y,e3,e2⟩:=bind_some e2
  obtain ⟨zs,e4,e2⟩:=bind_some e2
  cases e2
  obtain ⟨z,e5,e4⟩:=bind_some e4
  obtain ⟨ws,e6,e4⟩:=bind_some e4
  cases e4
  cases e6
  match x,e with
  | .dict ((.none,.none)::l),e=>
   obtain ⟨es,e7,e⟩:=bind_some e
   obtain ⟨ky,e8,e⟩:=bind_some e
   cases e
   refine ⟨H₀,Z₀,Z,δ,_,hh,e1,fun v Z1 H1 hh1 t1 r1=>?_⟩
   obtain ⟨ad,kvs,rfl,g4,g5⟩:=HZ r1 e7
   refine ⟨ad,rfl,.inl ⟨kvs,.inl (hh1.zh _ _ g4)⟩,H₀,Z₀,Z1,δ,y,hh1,e3,fun v Z2 H2 hh2 t2 r2=>⟨H₀,Z₀,Z2,δ,z,hh2,e5,fun u Z3 H3 hh3 t3 r3=>?_⟩⟩
   obtain rfl:=uz r2 e8
   have g4':=hh3.zh _ _ (t3 _ _ (t2 _ _ g4))
   rcases tQ ky g5 with ⟨q,q'⟩ | ⟨w,d',q1,q2,rw'⟩
   ·refine ⟨none,q ▸ DGet.k g4',k u Z3 H3 hh3 (t1.trans (t2.trans t3)) ?_⟩
    rw [q']; exact r3
   ·refine ⟨some w,q1 ▸ DGet.k g4',k w Z3 H3 hh3 (t1.trans (t2.trans t3)) ?_⟩
    rw [q2]; exact (rw'.same t2).same t3
end
end VL
namespace VL
open PySem PySem.Spec PyProof.Rows L2
end VL
namespace MA
open PySem
theorem qi (x y:Int):Builtin.bitOr x y=2*Builtin.bitOr (x / 2) (y / 2)+(if x % 2=0/\y % 2=0 then 0 else 1):=by
 unfold Builtin.bitOr Builtin.bitNot
 have h:=PySem.W.kbt_halves (-x-1) (-y-1)
 have hx:(-x-1) / 2 = -(x / 2)-1:=by omega
 have hy:(-y-1) / 2 = -(y / 2)-1:=by omega
 rw [hx,hy] at h
 rw [h]
 by_cases c:x % 2=0/\y % 2=0
 ·rw [if_pos c,if_pos (by omega)]; omega
 ·rw [if_neg c,if_neg (by omega)]; omega
theorem kg (n:Nat):(0:Int)<2 ^ n:=by
 induction n with
 | zero=>decide
 | succ n ih=>rw [Int.pow_succ]; omega
theorem iw (x:Int) (n:Nat):x / 2 ^ (n+1)=x / 2 / 2 ^ n:=by
 rw [Int.pow_succ,Int.mul_comm,Int.ediv_ediv_of_nonneg (by decide)]
theorem fI (x:Int) (n:Nat):2 ^ (n+1) ∣ x↔x % 2=0/\2 ^ n ∣ x / 2:=by
 constructor
 ·rintro ⟨c,rfl⟩
  rw [Int.pow_succ]
  refine ⟨?_,c,?_⟩
  ·rw [Int.mul_comm (2 ^ n) 2,Int.mul_assoc]; omega
  ·rw [Int.mul_comm (2 ^ n) 2,Int.mul_assoc,Int.mul_ediv_cancel_left _ (by decide)]
 ·rintro ⟨h,c,hc⟩
  refine ⟨c,?_⟩
  rw [Int.pow_succ,Int.mul_comm (2 ^ n) 2,Int.mul_assoc,<- hc]
  omega
theorem vN (n:Nat):∀ x y:Int,(2 ^ n ∣ Builtin.bitOr x y↔2 ^ n ∣ x/\2 ^ n ∣ y)/\(2 ^ n ∣ Builtin.bitOr x y->Builtin.bitOr x y / 2 ^ n=Builtin.bitOr (x / 2 ^ n) (y / 2 ^ n)):=by
 induction n with
 | zero=>intro x y; simp
 | succ n ih=>
  intro x y
  have h:=qi x y
  have hd:Builtin.bitOr x y / 2=Builtin.bitOr (x / 2) (y / 2):=by rw [h]; split <;> omega
  have hm:Builtin.bitOr x y % 2=0↔x % 2=0/\y % 2=0:=by
   rw [h]
   by_cases c:x % 2=0/\y % 2=0
   ·rw [if_pos c]; constructor
    ·intro _; exact c
    ·intro _; omega
   ·rw [if_neg c]; constructor
    ·intro z; omega
    ·intro z; exact absurd z c
  obtain ⟨i1,i2⟩:=ih (x / 2) (y / 2)
  constructor
  ·rw [fI,fI,fI,hd,hm,i1]
   constructor
   ·rintro ⟨⟨a,b⟩,c,d⟩; exact ⟨⟨a,c⟩,b,d⟩
   ·rintro ⟨⟨a,c⟩,b,d⟩; exact ⟨⟨a,b⟩,c,d⟩
  ·intro q
   rw [fI,hd] at q
   rw [iw,iw,iw,hd,i2 q.2]
theorem Am:∀ (n:Nat) (j:Int),j.natAbs<=n->j≠0->∃ (t:Nat) (a:Int),j=2 ^ t*(2*a+1)
 | 0,j,h,h0=>by omega
 | n+1,j,h,h0=>by
  by_cases c:j % 2=0
  ·obtain ⟨t,a,e⟩:=Am n (j / 2) (by omega) (by omega)
   refine ⟨t+1,a,?_⟩
   rw [Int.pow_succ,Int.mul_comm (2 ^ t) 2,Int.mul_assoc,<- e]
   omega
  ·exact ⟨0,j / 2,by simp; omega⟩
theorem u7 (t:Nat):Builtin.Int.intBits (2 ^ t)=t+1:=by
 unfold Builtin.Int.intBits
 have h:(2:Int) ^ t≠0:=Int.ne_of_gt (kg t)
 have e:((2:Int) ^ t).natAbs=2 ^ t:=by
  have:((2 ^ t:Nat):Int)=(2:Int) ^ t:=by simp
  rw [<- this,Int.natAbs_natCast]
 rw [if_neg (by simpa using h),e,Nat.log2_two_pow]
noncomputable def vq (j most:Int):Int:=if j=0 then most else if (Builtin.Int.intBits (Builtin.bitAnd j (-j)):Int)-1<most then (Builtin.Int.intBits (Builtin.bitAnd j (-j)):Int)-1 else most
theorem yl (j most:Int) (hm:0<=most):∃ t:Nat,vq j most=t/\(t:Int)<=most/\2 ^ t ∣ j/\((t:Int)<most->¬ j / 2 ^ t % 2=0):=by
 unfold vq
 by_cases h:j=0
 ·subst h
  refine ⟨most.toNat,by rw [if_pos rfl]; omega,by omega,Int.dvd_zero _,fun z=>by omega⟩
 ·obtain ⟨t,a,e⟩:=Am _ j (Nat.le_refl _) h
  have hb:Builtin.Int.intBits (Builtin.bitAnd j (-j))=t+1:=by rw [e,PySem.W.kbt_low,u7]
  rw [if_neg h,hb]
  have q:((t+1:Nat):Int)-1=t:=by omega
  rw [q]
  by_cases c:(t:Int)<most
  ·refine ⟨t,by rw [if_pos c],by omega,⟨_,e⟩,fun _=>?_⟩
   rw [e,Int.mul_ediv_cancel_left _ (Int.ne_of_gt (kg t))]
   omega
  ·refine ⟨most.toNat,by rw [if_neg c]; omega,by omega,?_,fun z=>by omega⟩
   refine Int.dvd_trans ?_ ⟨_,e⟩
   have:t=most.toNat+(t-most.toNat):=by omega
   rw [this,Int.pow_add]
   exact Int.dvd_mul_right _ _
theorem sn {a:Int} {m:Nat} (h:a.natAbs<2 ^ m):Builtin.Int.intBits a<=m:=by
 unfold Builtin.Int.intBits
 split
 ·exact Nat.zero_le _
 ·rename_i h0
  have h0:a≠0:=by simpa using h0
  have:a.natAbs.log2<m:=(Nat.log2_lt (by omega)).mpr h
  omega
structure Q4 where
 a:Int
 b:Int
 c:Int
 d:Int
namespace Q4
theorem ext' {x y:Q4} (h1:x.a=y.a) (h2:x.b=y.b) (h3:x.c=y.c) (h4:x.d=y.d):x=y:=by
 cases x; cases y; simp at h1 h2 h3 h4; subst h1 h2 h3 h4; rfl
noncomputable def add (x y:Q4):Q4:=⟨x.a+y.a,x.b+y.b,x.c+y.c,x.d+y.d⟩
noncomputable def neg (x:Q4):Q4:=⟨-x.a,-x.b,-x.c,-x.d⟩
noncomputable def rt (x:Q4):Q4:=⟨x.b-x.d,x.a+x.c,x.b+x.d,x.c-x.a⟩
noncomputable def dbl (n:Int) (x:Q4):Q4:=⟨x.a*n,x.b*n,x.c*n,x.d*n⟩
noncomputable def tn (x:Q4):Q4:=⟨-x.d,x.a,x.b,x.c⟩
noncomputable def rtn:Nat->Q4->Q4
 | 0,x=>x
 | n+1,x=>rtn n (rt x)
theorem rtn_succ (n:Nat) (x:Q4):rtn (n+1) x=rt (rtn n x):=by
 induction n generalizing x with
 | zero=>rfl
 | succ n ih=>exact ih (rt x)
theorem rtn_add (m n:Nat) (x:Q4):rtn (m+n) x=rtn m (rtn n x):=by
 induction n generalizing x with
 | zero=>rfl
 | succ n ih=>exact ih (rt x)
theorem rt_rt (x:Q4):rt (rt x)=dbl 2 x:=by
 apply ext' <;> simp [rt,dbl] <;> omega
theorem Fd (m n:Int) (x:Q4):dbl m (dbl n x)=dbl (n*m) x:=by
 apply ext' <;> simp [dbl,Int.mul_assoc]
theorem rtn_two (t:Nat) (x:Q4):rtn (2*t) x=dbl (2 ^ t) x:=by
 induction t generalizing x with
 | zero=>apply ext' <;> simp [rtn,dbl]
 | succ t ih=>
  have e:2*(t+1)=2*t+1+1:=by omega
  rw [e]
  show rtn (2*t) (rt (rt x))=_
  rw [ih,rt_rt,Fd,Int.pow_succ,Int.mul_comm]
theorem rt_inj {x y:Q4} (h:rt x=rt y):x=y:=by
 have h1:=congrArg rt h
 rw [rt_rt,rt_rt] at h1
 have h2:=congrArg Q4.a h1
 have h3:=congrArg Q4.b h1
 have h4:=congrArg Q4.c h1
 have h5:=congrArg Q4.d h1
 simp only [dbl] at h2 h3 h4 h5
 apply ext' <;> omega
theorem xn {n:Nat} {x y:Q4} (h:rtn n x=rtn n y):x=y:=by
 induction n generalizing x y with
 | zero=>exact h
 | succ n ih=>exact rt_inj (ih h)
theorem rt_add (x y:Q4):rt (add x y)=add (rt x) (rt y):=by apply ext' <;> simp [rt,add] <;> omega
theorem lD (x:Q4):rt (neg x)=neg (rt x):=by apply ext' <;> simp [rt,neg] <;> omega
theorem rtn_addQ (n:Nat) (x y:Q4):rtn n (add x y)=add (rtn n x) (rtn n y):=by
 induction n generalizing x y with
 | zero=>rfl
 | succ n ih=>show rtn n (rt (add x y))=_; rw [rt_add,ih]; rfl
theorem tn_rt (x:Q4):tn (rt x)=rt (tn x):=by apply ext' <;> simp only [rt,tn] <;> omega
def Odd (x:Q4):Prop:=¬ ((x.a-x.c) % 2=0/\(x.b-x.d) % 2=0)
theorem Du (x:Q4):¬ Odd (rt x):=by
 unfold Odd rt
 simp only
 omega
def Least (x:Q4) (k:Int):Prop:=0<=k/\(0<k->Odd x)
theorem Least.one {x y:Q4} {k l m:Nat} (hx:Least x k) (hy:Least y l) (h1:k<=m) (h2:l<=m) (h:rtn (m-k) x=rtn (m-l) y):x=y/\k=l:=by
 have key:∀ {x y:Q4} {k l:Nat},Least y l->k<=m->l<=m->k<l->rtn (m-k) x=rtn (m-l) y->False:=by
  intro x y k l hy h1 h2 hlt h
  have e:m-k=(m-l)+(l-k):=by omega
  rw [e,rtn_add] at h
  have h3:=xn h
  obtain ⟨n,hn⟩:∃ n,l-k=n+1:=⟨l-k-1,by omega⟩
  rw [hn,rtn_succ] at h3
  have:=hy.2 (by omega)
  rw [<- h3] at this
  exact Du _ this
 rcases Nat.lt_trichotomy k l with q | q | q
 ·exact (key hy h1 h2 q h).elim
 ·subst q; exact ⟨xn h,rfl⟩
 ·exact (key hx h2 h1 q h.symm).elim
end Q4
theorem lj (a b c d most:Int) (hm:0<=most):∃ t:Nat,vq (Builtin.bitOr (Builtin.bitOr (Builtin.bitOr a b) c) d) most=t/\(t:Int)<=most/\a=a / 2 ^ t*2 ^ t/\b=b / 2 ^ t*2 ^ t/\c=c / 2 ^ t*2 ^ t/\d=d / 2 ^ t*2 ^ t /\
  ((t:Int)<most->¬ (a / 2 ^ t % 2=0/\b / 2 ^ t % 2=0/\c / 2 ^ t % 2=0/\d / 2 ^ t % 2=0)):=by
 obtain ⟨t,e,h1,h2,h3⟩:=yl (Builtin.bitOr (Builtin.bitOr (Builtin.bitOr a b) c) d) most hm
 have o1:=vN t (Builtin.bitOr (Builtin.bitOr a b) c) d
 have d1:=o1.1.mp h2
 have o2:=vN t (Builtin.bitOr a b) c
 have d2:=o2.1.mp d1.1
 have o3:=vN t a b
 have d3:=o3.1.mp d2.1
 refine ⟨t,e,h1,(Int.ediv_mul_cancel d3.1).symm,(Int.ediv_mul_cancel d3.2).symm,(Int.ediv_mul_cancel d2.2).symm,(Int.ediv_mul_cancel d1.2).symm,fun z w=>h3 z ?_⟩
 have ev:∀ x y:Int,x % 2=0->y % 2=0->Builtin.bitOr x y % 2=0:=fun x y hx hy=>by
  rw [qi,if_pos ⟨hx,hy⟩]; omega
 rw [o1.2 h2,o2.2 d1.1,o3.2 d2.1]
 exact ev _ _ (ev _ _ (ev _ _ w.1 w.2.1) w.2.2.1) w.2.2.2
noncomputable def num (x:Q4) (k:Int):Q4×Int:=
 let t:=(vq (Builtin.bitOr (Builtin.bitOr (Builtin.bitOr x.a x.b) x.c) x.d) (k / 2)).toNat
 let y:Q4:=⟨x.a / 2 ^ t,x.b / 2 ^ t,x.c / 2 ^ t,x.d / 2 ^ t⟩
 if k-2*t=0\/(y.a-y.c) % 2=1\/(y.b-y.d) % 2=1 then (y,k-2*t) else (⟨(y.b-y.d) / 2,(y.a+y.c) / 2,(y.b+y.d) / 2,(y.c-y.a) / 2⟩,k-2*t-1)
theorem wk {p q:Int} (h:(p-q) % 2=0):(p+q) / 2-(q-p) / 2=p/\(p+q) / 2+(q-p) / 2=q:=by omega
theorem wj {p q:Int} (h:(p-q) % 2=0):(p-q) / 2+(p+q) / 2=p/\(p+q) / 2-(p-q) / 2=q:=by omega
theorem G8 {x y:Int} (h:(x-y) % 2=0) (k:y % 2=0):x % 2=0:=by omega
theorem DR {x y:Int} (h:(x-y) % 2=0) (k:x % 2=0):y % 2=0:=by omega
theorem A3 {a b c d:Int} (g1:(a-c) % 2=0) (g2:(b-d) % 2=0) (h:¬ (a % 2=0/\b % 2=0/\c % 2=0/\d % 2=0)):Q4.Odd ⟨(b-d) / 2,(a+c) / 2,(b+d) / 2,(c-a) / 2⟩:=fun z=>by
 have z1:((b-d) / 2-(b+d) / 2) % 2=0:=z.1
 have z2:((a+c) / 2-(c-a) / 2) % 2=0:=z.2
 rw [(wk g1).1] at z2
 have e:=(wj g2).2
 have z3:d % 2=0:=by omega
 exact h ⟨z2,G8 g2 z3,DR g1 z2,z3⟩
theorem iP (x:Q4) (k:Int) (hk:0<=k):Q4.Least (num x k).1 (num x k).2/\(num x k).2<=k/\Q4.rtn (k-(num x k).2).toNat (num x k).1=x:=by
 obtain ⟨t,e,h1,ha,hb,hc,hd,h3⟩:=lj x.a x.b x.c x.d (k / 2) (by omega)
 have l2:2*(t:Int)<=k:=by omega
 unfold num
 simp only [e,Int.toNat_natCast]
 generalize x.a / 2 ^ t=a at *
 generalize x.b / 2 ^ t=b at *
 generalize x.c / 2 ^ t=c at *
 generalize x.d / 2 ^ t=d at *
 have e2:Q4.dbl (2 ^ t) ⟨a,b,c,d⟩=x:=Q4.ext' ha.symm hb.symm hc.symm hd.symm
 split
 ·rename_i h
  refine ⟨⟨Int.sub_nonneg_of_le l2,fun z=>?_⟩,Int.sub_le_self _ (by omega),?_⟩
  ·rcases h with h | h | h
   ·exact absurd h (Int.ne_of_gt z)
   ·exact fun w=>absurd (h.symm.trans w.1) (by decide)
   ·exact fun w=>absurd (h.symm.trans w.2) (by decide)
  ·have:(k-(k-2*(t:Int))).toNat=2*t:=by omega
   simp only [this]
   rw [Q4.rtn_two,e2]
 ·rename_i h
  have g0:k-2*(t:Int)≠0:=fun z=>h (.inl z)
  have g1:(a-c) % 2=0:=(Int.emod_two_eq (a-c)).resolve_right fun z=>h (.inr (.inl z))
  have g2:(b-d) % 2=0:=(Int.emod_two_eq (b-d)).resolve_right fun z=>h (.inr (.inr z))
  refine ⟨⟨(by omega:0<=k-2*(t:Int)-1),fun z=>A3 g1 g2 (h3 ?_)⟩,(by omega:k-2*(t:Int)-1<=k),?_⟩
  ·have z:0<k-2*(t:Int)-1:=z
   omega
  ·have:(k-(k-2*(t:Int)-1)).toNat=2*t+1:=by omega
   simp only [this]
   show Q4.rtn (2*t) (Q4.rt _)=x
   rw [Q4.rtn_two]
   have e3:Q4.rt ⟨(b-d) / 2,(a+c) / 2,(b+d) / 2,(c-a) / 2⟩=⟨a,b,c,d⟩:=Q4.ext' (wk g1).1 (wj g2).1 (wk g1).2 (wj g2).2
   rw [e3,e2]
def Q4.Le (M:Nat) (x:Q4):Prop:=x.a.natAbs<=M/\x.b.natAbs<=M/\x.c.natAbs<=M/\x.d.natAbs<=M
theorem r9 (a:Int) (t:Nat) (h:a=a / 2 ^ t*2 ^ t):(a / 2 ^ t).natAbs<=a.natAbs:=by
 have pw:=kg t
 have:a.natAbs=(a / 2 ^ t).natAbs*((2:Int) ^ t).natAbs:=by rw [<- Int.natAbs_mul,<- h]
 rw [this]
 exact Nat.le_mul_of_pos_right _ (by omega)
theorem mI {a b:Int} {M:Nat} (ha:a.natAbs<=M) (hb:b.natAbs<=M):((a+b) / 2).natAbs<=M:=by omega
theorem mH {a b:Int} {M:Nat} (ha:a.natAbs<=M) (hb:b.natAbs<=M):((a-b) / 2).natAbs<=M:=by omega
theorem A6 (x:Q4) (k:Int) (hk:0<=k) (M:Nat) (h:Q4.Le M x):Q4.Le M (num x k).1:=by
 obtain ⟨t,e,h1,ha,hb,hc,hd,h3⟩:=lj x.a x.b x.c x.d (k / 2) (by omega)
 have la:=Nat.le_trans (r9 _ _ ha) h.1
 have lb:=Nat.le_trans (r9 _ _ hb) h.2.1
 have lc:=Nat.le_trans (r9 _ _ hc) h.2.2.1
 have ld:=Nat.le_trans (r9 _ _ hd) h.2.2.2
 unfold num Q4.Le
 simp only [e,Int.toNat_natCast]
 split
 ·exact ⟨la,lb,lc,ld⟩
 ·exact ⟨mH lb ld,mI la lc,mI lb ld,mH lc la⟩
theorem eE {a b:Int} {M N:Nat} (ha:a.natAbs<=M) (hb:b.natAbs<=N):(a+b).natAbs<=M+N:=Nat.le_trans (Int.natAbs_add_le a b) (Nat.add_le_add ha hb)
theorem nM {a b:Int} {M N:Nat} (ha:a.natAbs<=M) (hb:b.natAbs<=N):(a-b).natAbs<=M+N:=Nat.le_trans (Int.natAbs_sub_le a b) (Nat.add_le_add ha hb)
theorem JH {x:Q4} {M:Nat} (h:Q4.Le M x):Q4.Le (2*M) (Q4.rt x):=by
 obtain ⟨g1,g2,g3,g4⟩:=h
 rw [Nat.two_mul]
 unfold Q4.Le Q4.rt
 exact ⟨nM g2 g4,eE g1 g3,eE g2 g4,nM g3 g1⟩
theorem Aw {x:Q4} {M:Nat}:∀ (n:Nat),Q4.Le M x->Q4.Le (2 ^ n*M) (Q4.rtn n x)
 | 0,h=>by simpa [Q4.rtn] using h
 | n+1,h=>by
  have:=JH (Aw n h)
  rw [Q4.rtn_succ]
  rw [Nat.pow_succ,Nat.mul_comm (2 ^ n) 2,Nat.mul_assoc]
  exact this
theorem Q4.Le.mono {x:Q4} {M N:Nat} (h:Q4.Le M x) (hl:M<=N):Q4.Le N x:=⟨Nat.le_trans h.1 hl,Nat.le_trans h.2.1 hl,Nat.le_trans h.2.2.1 hl,Nat.le_trans h.2.2.2 hl⟩
theorem IA {x y:Q4} {M N:Nat} (h:Q4.Le M x) (h':Q4.Le N y):Q4.Le (M+N) (Q4.add x y):=
 ⟨eE h.1 h'.1,eE h.2.1 h'.2.1,eE h.2.2.1 h'.2.2.1,eE h.2.2.2 h'.2.2.2⟩
noncomputable def gx (x:Q4) (c:Int) (y:Q4) (d:Int):Q4×Int:=num (Q4.add (Q4.rtn (max c d-c).toNat x) (Q4.rtn (max c d-d).toNat y)) (max c d)
noncomputable def gI:Nat->Q4->Q4
 | 0,x=>x
 | n+1,x=>Q4.tn (gI n x)
theorem nQ {x:Q4} {M:Nat}:∀ n:Nat,Q4.Le M x->Q4.Le M (gI n x)
 | 0,h=>h
 | n+1,h=>by
  obtain ⟨a,b,c,d⟩:=nQ n h
  exact ⟨by simpa [gI,Q4.tn] using d,a,b,c⟩
theorem tn_odd {x:Q4}:Q4.Odd (Q4.tn x)↔Q4.Odd x:=by
 unfold Q4.Odd Q4.tn
 simp only
 omega
theorem w9 {x:Q4}:∀ n:Nat,Q4.Odd (gI n x)↔Q4.Odd x
 | 0=>Iff.rfl
 | n+1=>tn_odd.trans (w9 n)
theorem yp {x:Q4} {c:Int} (n:Nat) (h:Q4.Least x c):Q4.Least (gI n x) c:=⟨h.1,fun z=>(w9 n).mpr (h.2 z)⟩
def Is (x:Q4) (c:Nat) (u:Q4) (k:Nat):Prop:=Q4.Least x c/\Q4.rtn k x=Q4.rtn c u
theorem Ho (u:Q4) (k:Nat):∃ c:Nat,(num u k).2=c/\c<=k/\Is (num u k).1 c u k:=by
 obtain ⟨s1,s2,s3⟩:=iP u k (by omega)
 obtain ⟨c,hc⟩:∃ c:Nat,(num u k).2=c:=⟨(num u k).2.toNat,by have:=s1.1; omega⟩
 rw [hc] at s1 s2 s3
 refine ⟨c,hc,by omega,s1,?_⟩
 have e:((k:Int)-c).toNat=k-c:=by omega
 rw [e] at s3
 conv=>rhs; rw [<- s3]
 rw [<- Q4.rtn_add]
 congr 1
 omega
theorem GD (n:Nat) (x:Q4):Q4.tn (Q4.rtn n x)=Q4.rtn n (Q4.tn x):=by
 induction n generalizing x with
 | zero=>rfl
 | succ n ih=>show Q4.tn (Q4.rtn n (Q4.rt x))=Q4.rtn n (Q4.rt (Q4.tn x)); rw [ih,Q4.tn_rt]
theorem w6 (m n:Nat) (x:Q4):gI m (Q4.rtn n x)=Q4.rtn n (gI m x):=by
 induction m with
 | zero=>rfl
 | succ m ih=>show Q4.tn (gI m (Q4.rtn n x))=_; rw [ih,GD]; rfl
theorem fq (m n:Nat) (x:Q4):gI (m+n) x=gI m (gI n x):=by
 induction m with
 | zero=>rw [Nat.zero_add]; rfl
 | succ m ih=>rw [Nat.succ_add]; show Q4.tn (gI (m+n) x)=_; rw [ih]; rfl
theorem LV (x:Q4):gI 8 x=x:=by simp [gI,Q4.tn]
theorem dU (n:Nat) (x:Q4):gI (n % 8) x=gI n x:=by
 conv=>rhs; rw [<- Nat.mod_add_div n 8]
 rw [fq]
 congr 1
 generalize n / 8=q
 induction q with
 | zero=>rfl
 | succ q ih=>rw [Nat.mul_succ,fq,LV]; exact ih
theorem AH {x y:Q4} {c d:Nat} {p r:Nat} (hx:Q4.Le (2 ^ p) x) (hy:Q4.Le (2 ^ p) y) (hc:c<=r) (hd:d<=r):Q4.Le (2 ^ (p+r+1)) (gx x c y d).1:=by
 have em:max (c:Int) d=((max c d:Nat):Int):=by omega
 unfold gx
 refine A6 _ _ (by omega) _ ?_
 have up:∀ (n:Nat) (z:Q4),n<=r->Q4.Le (2 ^ p) z->Q4.Le (2 ^ (p+r)) (Q4.rtn n z):=fun n z hn hz=>by
  refine (Aw n hz).mono ?_
  rw [<- Nat.pow_add]
  exact Nat.pow_le_pow_right (by decide) (by omega)
 have:=IA (up (max (c:Int) d-c).toNat x (by omega) hx) (up (max (c:Int) d-d).toNat y (by omega) hy)
 rw [Nat.pow_succ,Nat.mul_two]
 exact this
structure S2 where
 p:Int
 q:Int
namespace S2
theorem ext' {x y:S2} (h1:x.p=y.p) (h2:x.q=y.q):x=y:=by
 cases x; cases y; simp at h1 h2; subst h1 h2; rfl
noncomputable def add (x y:S2):S2:=⟨x.p+y.p,x.q+y.q⟩
noncomputable def sc (n:Nat) (x:S2):S2:=⟨x.p*2 ^ n,x.q*2 ^ n⟩
theorem sc_inj {n:Nat} {x y:S2} (h:sc n x=sc n y):x=y:=by
 have pw:=kg n
 have h1:=congrArg S2.p h
 have h2:=congrArg S2.q h
 simp only [sc] at h1 h2
 exact ext' (Int.eq_of_mul_eq_mul_right (by omega) h1) (Int.eq_of_mul_eq_mul_right (by omega) h2)
theorem sc_addS (n:Nat) (x y:S2):sc n (add x y)=add (sc n x) (sc n y):=by apply ext' <;> simp only [sc,add,Int.add_mul]
end S2
noncomputable def jd (x:Q4):S2:=⟨x.a*x.a+x.b*x.b+x.c*x.c+x.d*x.d,x.a*x.b+x.b*x.c+x.c*x.d-x.d*x.a⟩
theorem A9 (x:Q4):jd (Q4.rt x)=S2.sc 1 (jd x):=by apply S2.ext' <;> simp only [jd,Q4.rt,S2.sc] <;> grind
theorem Hx (x:Q4):jd (Q4.tn x)=jd x:=by apply S2.ext' <;> simp only [jd,Q4.tn] <;> grind
theorem xz (n:Nat) (x:Q4):jd (gI n x)=jd x:=by
 induction n with
 | zero=>rfl
 | succ n ih=>show jd (Q4.tn (gI n x))=_; rw [Hx,ih]
theorem Eg (x y:Q4):S2.add (jd (Q4.add x y)) (jd (Q4.add x (Q4.neg y)))=S2.add (S2.add (jd x) (jd y)) (S2.add (jd x) (jd y)):=by
 apply S2.ext' <;> simp only [jd,Q4.add,Q4.neg,S2.add] <;> grind
theorem xh (a:Int):0<=a*a:=by
 rcases Int.le_total 0 a with h | h
 ·exact Int.mul_nonneg h h
 ·have:=Int.mul_nonneg (Int.neg_nonneg.mpr h) (Int.neg_nonneg.mpr h)
  rwa [Int.neg_mul_neg] at this
theorem A8 {x:Q4} (h:(jd x).p=0):x=⟨0,0,0,0⟩:=by
 have h1:=xh x.a; have h2:=xh x.b; have h3:=xh x.c; have h4:=xh x.d
 simp only [jd] at h
 have z:∀ a:Int,a*a=0->a=0:=fun a e=>by rcases Int.mul_eq_zero.mp e with q | q <;> exact q
 exact Q4.ext' (z _ (by omega)) (z _ (by omega)) (z _ (by omega)) (z _ (by omega))
abbrev Nu:=Q4×Nat
inductive Row where
 | swing (j:Nat) | turn (j:Nat) (e:Nat) | flip (j:Nat) | tie (i j:Nat) | sign (i j:Nat) | cross (i j:Nat)
noncomputable def b9 (u v:Nu):Nu:=((gx u.1 u.2 v.1 v.2).1,(gx u.1 u.2 v.1 v.2).2.toNat)
noncomputable def cD (u:Nu):Nu:=((num u.1 ((u.2+1:Nat):Int)).1,(num u.1 ((u.2+1:Nat):Int)).2.toNat)
noncomputable def bf (e:Nat) (u:Nu):Nu:=(gI (e % 8) u.1,u.2)
noncomputable def wt (n j:Nat):Nat:=2 ^ (n-1-j)
noncomputable def aG (w p:Nat):Nat:=p / w % 2
noncomputable def flp (w p:Nat):Nat:=if aG w p=0 then p+w else p-w
noncomputable def aT (n:Nat):Row->Nat->Nat
 | .flip j,p=>flp (wt n j) p
 | .tie i j,p=>if aG (wt n i) p=0 then p else flp (wt n j) p
 | .cross i j,p=>if aG (wt n i) p=aG (wt n j) p then p else flp (wt n j) (flp (wt n i) p)
 | _,p=>p
noncomputable def ah (n:Nat) (f:Nat->Nu):Row->Nat->Nu
 | .swing j,p=>if aG (wt n j) p=0 then cD (b9 (f p) (f (p+wt n j))) else cD (b9 (f (p-wt n j)) (bf 4 (f p)))
 | .turn j e,p=>bf (e*aG (wt n j) p) (f p)
 | .sign i j,p=>bf (4*aG (wt n i) p*aG (wt n j) p) (f p)
 | r,p=>f (aT n r p)
def Row.ok (n:Nat):Row->Prop
 | .swing j=>j<n
 | .turn j e=>j<n/\1<=e/\e<=7
 | .flip j=>j<n
 | .tie i j=>i<n/\j<n/\i≠j
 | .sign i j=>i<n/\j<n/\i≠j
 | .cross i j=>i<n/\j<n/\i≠j
theorem bp (n j:Nat):0<wt n j:=Nat.pow_pos (by decide)
theorem zR {n j:Nat} (h:j<n):2 ^ n=wt n j*2 ^ (j+1):=by
 unfold wt
 rw [<- Nat.pow_add]; congr 1; omega
theorem ca (w p:Nat):aG w p<2:=Nat.mod_lt _ (by decide)
theorem ji (w p:Nat) (hw:0<w):∃ q r,p=(2*q+aG w p)*w+r/\r<w:=by
 refine ⟨p / w / 2,p % w,?_,Nat.mod_lt _ hw⟩
 unfold aG
 rw [Nat.div_add_mod,Nat.div_add_mod']
theorem wJ {w q b r:Nat} (hb:b<2) (hr:r<w):aG w ((2*q+b)*w+r)=b:=by
 unfold aG
 rw [Nat.mul_comm,Nat.mul_add_div (by omega),Nat.div_eq_of_lt hr]
 omega
theorem nA {w p:Nat} (hw:0<w) (h:aG w p=1):w<=p:=by
 obtain ⟨q,r,e,_⟩:=ji w p hw
 rw [h] at e
 have:(2*q+1)*w=2*q*w+w:=by rw [Nat.add_mul,Nat.one_mul]
 omega
theorem Fv {n j p:Nat} (hj:j<n) (hp:p<2 ^ n) (h:aG (wt n j) p=0):p+wt n j<2 ^ n:=by
 obtain ⟨q,r,e,hr⟩:=ji (wt n j) p (bp n j)
 rw [h] at e
 have h2:=zR hj
 have hq:q<2 ^ j:=by
  refine Nat.lt_of_not_le fun z=>?_
  have:2*2 ^ j*wt n j<=2*q*wt n j:=Nat.mul_le_mul_right _ (by omega)
  have e2:wt n j*2 ^ (j+1)=2*2 ^ j*wt n j:=by rw [Nat.pow_succ,Nat.mul_comm,Nat.mul_comm (2 ^ j) 2]
  rw [Nat.add_zero] at e
  omega
 have:(2*q+2)*wt n j<=2*2 ^ j*wt n j:=Nat.mul_le_mul_right _ (by omega)
 have e2:wt n j*2 ^ (j+1)=2*2 ^ j*wt n j:=by rw [Nat.pow_succ,Nat.mul_comm,Nat.mul_comm (2 ^ j) 2]
 have e3:(2*q+2)*wt n j=2*q*wt n j+2*wt n j:=Nat.add_mul ..
 rw [Nat.add_zero] at e
 omega
theorem jI {n j p:Nat} (hj:j<n) (hp:p<2 ^ n):flp (wt n j) p<2 ^ n:=by
 unfold flp
 split
 ·exact Fv hj hp (by assumption)
 ·omega
theorem EX {n p:Nat} {r:Row} (hr:r.ok n) (hp:p<2 ^ n):aT n r p<2 ^ n:=by
 cases r with
 | flip j=>exact jI hr hp
 | tie i j=>show (if _ then _ else _)<_; split; exact hp; exact jI hr.2.1 hp
 | cross i j=>show (if _ then _ else _)<_; split; exact hp; exact jI hr.2.1 (jI hr.1 hp)
 | _=>exact hp
theorem EZ {w p:Nat} (hw:0<w):flp w p / (2*w)=p / (2*w):=by
 obtain ⟨q,r,e,hr⟩:=ji w p hw
 have h2:=ca w p
 have e1:(2*q+aG w p)*w=2*w*q+aG w p*w:=by rw [Nat.add_mul,Nat.mul_right_comm]
 have one:∀ x,x<2*w->(2*w*q+x) / (2*w)=q:=fun x hx=>by rw [Nat.mul_add_div (by omega),Nat.div_eq_of_lt hx,Nat.add_zero]
 unfold flp
 split
 ·rename_i h
  rw [h] at e e1
  have a:=one (r+w) (by omega)
  have b:=one r (by omega)
  rw [show p+w=2*w*q+(r+w) by omega,a,show p=2*w*q+r by omega,b]
 ·rename_i h
  have h1:aG w p=1:=by omega
  rw [h1] at e e1
  have a:=one (r+w) (by omega)
  have b:=one r (by omega)
  rw [show p-w=2*w*q+r by omega,b,show p=2*w*q+(r+w) by omega,a]
theorem qI (x p m:Nat) (hx:0<x):aG x (p+2*x*m)=aG x p:=by
 unfold aG
 rw [show p+2*x*m=p+x*(2*m) by rw [Nat.mul_comm 2 x,Nat.mul_assoc],Nat.add_mul_div_left _ _ hx]
 omega
theorem cM {n i j p:Nat} (hi:i<n) (hj:j<n) (hij:i≠j):aG (wt n j) (flp (wt n i) p)=aG (wt n j) p:=by
 have hw:=bp n i
 by_cases h:j<i
 ·
  have e:wt n j=2*wt n i*2 ^ (i-j-1):=by
   unfold wt
   rw [show 2*2 ^ (n-1-i)=2 ^ (n-1-i+1) by rw [Nat.pow_succ,Nat.mul_comm],<- Nat.pow_add]
   congr 1; omega
  unfold aG
  rw [e,<- Nat.div_div_eq_div_mul (flp (wt n i) p) (2*wt n i),<- Nat.div_div_eq_div_mul p (2*wt n i),EZ hw]
 ·have e:wt n i=2*wt n j*2 ^ (j-i-1):=by
   unfold wt
   rw [show 2*2 ^ (n-1-j)=2 ^ (n-1-j+1) by rw [Nat.pow_succ,Nat.mul_comm],<- Nat.pow_add]
   congr 1; omega
  unfold flp
  split
  ·rw [e]; exact qI _ _ _ (bp n j)
  ·rename_i hb
   have h2:=ca (wt n i) p
   have:=nA (w:=wt n i) (p:=p) hw (by omega)
   have:=qI (wt n j) (p-wt n i) (2 ^ (j-i-1)) (bp n j)
   rw [<- this,<- e,Nat.sub_add_cancel (by assumption)]
theorem bF {w p:Nat} (hw:0<w):aG w (flp w p)=1-aG w p:=by
 obtain ⟨q,r,e,hr⟩:=ji w p hw
 have h2:=ca w p
 unfold flp
 split
 ·rename_i h
  rw [h] at e
  rw [h,show p+w=(2*q+1)*w+r by rw [Nat.add_mul] at e ⊢; omega]
  exact wJ (by decide) hr
 ·rename_i h
  have h1:aG w p=1:=by omega
  rw [h1] at e
  rw [h1,show p-w=(2*q+0)*w+r by rw [Nat.add_mul] at e ⊢; omega]
  exact wJ (by decide) hr
theorem gB {w p:Nat} (hw:0<w):flp w (flp w p)=p:=by
 have h:=bF (p:=p) hw
 have h2:=ca w p
 by_cases c:aG w p=0
 ·have e:flp w p=p+w:=if_pos c
  rw [c] at h
  rw [e] at h ⊢
  unfold flp
  rw [if_neg (by omega)]; omega
 ·have c1:aG w p=1:=by omega
  have e:flp w p=p-w:=if_neg c
  have:=nA hw c1
  rw [c1] at h
  rw [e] at h ⊢
  unfold flp
  rw [if_pos (by omega)]; omega
theorem vc (a b:Nat):Builtin.bitAnd (a:Int) (b:Int)=((a &&& b:Nat):Int):=by
 unfold Builtin.bitAnd
 simp
theorem ym {x y z:Nat} (h:x / 2=y / 2+z / 2) (m:x % 2=y % 2+z % 2):x=y+z:=by omega
theorem zc {u v w:Nat} {p q:Prop} (hu:u<2) (hv:v<2) (hw:w<2) (m1:u=1↔p\/q) (m2:v=1 ↔ ¬ (p↔q)) (m3:w=1↔p/\q):u=v+w:=by
 have z:∀ {x:Nat},x<2->¬ x=1->x=0:=fun h k=>by omega
 by_cases a:p <;> by_cases b:q
 ·rw [m1.mpr (.inl a),m3.mpr ⟨a,b⟩,z hv fun e=>m2.mp e ⟨fun _=>b,fun _=>a⟩]
 ·rw [m1.mpr (.inl a),m2.mpr fun e=>b (e.mp a),z hw fun e=>b (m3.mp e).2]
 ·rw [m1.mpr (.inr b),m2.mpr fun e=>a (e.mpr b),z hw fun e=>a (m3.mp e).1]
 ·rw [z hu fun e=>(m1.mp e).elim a b,z hv fun e=>m2.mp e ⟨fun c=>absurd c a,fun c=>absurd c b⟩,z hw fun e=>a (m3.mp e).1]
theorem pj:∀ (k a b:Nat),a<2 ^ k->b<2 ^ k->(a ||| b)=(a ^^^ b)+(a &&& b)
 | 0,a,b,ha,hb=>by
  have:a=0:=by simpa using ha
  have:b=0:=by simpa using hb
  subst a; subst b; rfl
 | k+1,a,b,ha,hb=>by
  have ih:=pj k (a / 2) (b / 2) (by rw [Nat.pow_succ] at ha; omega) (by rw [Nat.pow_succ] at hb; omega)
  have h1:=@Nat.or_div_two a b
  have h2:=@Nat.xor_div_two a b
  have h3:=@Nat.and_div_two a b
  have m1:=@Nat.or_mod_two_eq_one a b
  have m2:=@Nat.xor_mod_two_eq_one a b
  have m3:=@Nat.and_mod_two_eq_one a b
  rw [<- h1,<- h2,<- h3] at ih
  exact ym ih (zc (Nat.mod_lt _ (by decide)) (Nat.mod_lt _ (by decide)) (Nat.mod_lt _ (by decide)) m1 m2 m3)
theorem Nk (a b:Nat):Builtin.bitOr (a:Int) (b:Int)=((a ||| b:Nat):Int):=by
 have h1:¬ (0:Int)<=Builtin.bitNot (a:Int):=by unfold Builtin.bitNot; omega
 have h2:¬ (0:Int)<=Builtin.bitNot (b:Int):=by unfold Builtin.bitNot; omega
 have e1:(Builtin.bitNot (Builtin.bitNot (a:Int))).toNat=a:=by unfold Builtin.bitNot; omega
 have e2:(Builtin.bitNot (Builtin.bitNot (b:Int))).toNat=b:=by unfold Builtin.bitNot; omega
 unfold Builtin.bitOr Builtin.bitAnd
 rw [decide_eq_false h1,decide_eq_false h2]
 dsimp only
 rw [e1,e2]
 unfold Builtin.bitNot
 omega
theorem Fo (a b:Nat):Builtin.bitXor (a:Int) (b:Int)=((a ^^^ b:Nat):Int):=by
 unfold Builtin.bitXor
 rw [Nk,vc]
 have h:∀ n:Nat,n<2 ^ n:=fun n=>Nat.lt_two_pow_self
 have:=pj (max a b) a b (Nat.lt_of_lt_of_le (h a) (Nat.pow_le_pow_right (by decide) (by omega))) (Nat.lt_of_lt_of_le (h b) (Nat.pow_le_pow_right (by decide) (by omega)))
 omega
noncomputable def N0 (n:Nat):Nat:=if n=0 then 0 else n % 2+N0 (n / 2)
termination_by n
decreasing_by omega
noncomputable def par (n:Nat):Nat:=N0 n % 2
def Sh (k:Nat) (d:PyData):Prop:=d.canLay0=true/\d.depth<=k
theorem Sh.int (k:Nat) (i:Int):Sh k (.int i):=⟨by simp [PyData.canLay0],by simp [PyData.depth]⟩
theorem Sh.all {k:Nat}:∀ (xs:List PyData),(∀ x∈xs,Sh k x)->PyData.canLayAll0 xs=true/\PyData.depthAll xs<=k
 | [],_=>⟨by simp [PyData.canLayAll0],by simp [PyData.depthAll]⟩
 | x::xs,h=>by
  obtain ⟨a,b⟩:=Sh.all xs fun y hy=>h y (List.mem_cons_of_mem _ hy)
  obtain ⟨c,d⟩:=h x List.mem_cons_self
  refine ⟨by simp [PyData.canLayAll0,a,c],?_⟩
  simp only [PyData.depthAll]
  omega
theorem Sh.tuple {k:Nat} {xs:List PyData} (h:∀ x∈xs,Sh k x):Sh (k+1) (.tuple xs):=by
 obtain ⟨a,b⟩:=Sh.all xs h
 exact ⟨by simp [PyData.canLay0,a],by simp only [PyData.depth]; omega⟩
theorem Sh.list {k:Nat} {xs:List PyData} (h:∀ x∈xs,Sh k x):Sh (k+1) (.list xs):=by
 obtain ⟨a,b⟩:=Sh.all xs h
 exact ⟨by simp [PyData.canLay0,a],by simp only [PyData.depth]; omega⟩
mutual
theorem uQ:∀ d:PyData,d.canLay0=true->PyData.eqv d d=true
 | .none,_=>by simp [PyData.eqv]
 | .bool _,_=>by simp [PyData.eqv]
 | .int _,_=>by simp [PyData.eqv]
 | .str _,_=>by simp [PyData.eqv]
 | .list xs,h=>by
  simp only [PyData.eqv]
  exact eqvAll_self xs (by simpa [PyData.canLay0] using h)
 | .tuple xs,h=>by
  simp only [PyData.eqv]
  exact eqvAll_self xs (by simpa [PyData.canLay0] using h)
 | .dict _,h=>by simp [PyData.canLay0] at h
theorem eqvAll_self:∀ xs:List PyData,PyData.canLayAll0 xs=true->PyData.eqvAll xs xs=true
 | [],_=>by simp [PyData.eqvAll]
 | x::xs,h=>by
  have h':x.canLay0=true/\PyData.canLayAll0 xs=true:=by simpa [PyData.canLayAll0] using h
  simp only [PyData.eqvAll,uQ x h'.1,eqvAll_self xs h'.2,Bool.and_self]
end
noncomputable def val (M:Nat) (u:Nu):Q4:=Q4.rtn (M-u.2) u.1
theorem xy (x:Q4) (k M:Nat) (h:k<=M):Q4.rtn (M-(num x k).2.toNat) (num x k).1=Q4.rtn (M-k) x:=by
 obtain ⟨s1,s2,s3⟩:=iP x k (by omega)
 have h0:=s1.1
 have e:M-(num x (k:Int)).2.toNat=(M-k)+((k:Int)-(num x (k:Int)).2).toNat:=by omega
 rw [e,Q4.rtn_add,s3]
theorem dh (M e:Nat) (u:Nu):val M (bf e u)=gI (e % 8) (val M u):=by
 unfold val bf
 rw [w6]
theorem jV {M:Nat} {u v:Nu} (hu:u.2<=M) (hv:v.2<=M):val M (b9 u v)=Q4.add (val M u) (val M v):=by
 unfold val b9 gx
 have hk:max (u.2:Int) v.2=((max u.2 v.2:Nat):Int):=by omega
 rw [hk]
 simp only
 rw [xy _ _ M (by omega),Q4.rtn_addQ,<- Q4.rtn_add,<- Q4.rtn_add]
 congr 2 <;> congr 1 <;> omega
theorem jW {M:Nat} {u:Nu} (hu:u.2+1<=M):Q4.rt (val M (cD u))=val M u:=by
 unfold val cD
 rw [xy _ _ M hu,<- Q4.rtn_succ]
 congr 1
 omega
theorem C9 (M:Nat) (u:Nu):val M (bf 4 u)=Q4.neg (val M u):=by
 rw [dh]
 show Q4.tn (Q4.tn (Q4.tn (Q4.tn (val M u))))=_
 unfold Q4.tn Q4.neg
 rfl
def cU (u:Nu):Prop:=Q4.Least u.1 u.2
theorem i6 {M:Nat} {u v:Nu} (hu:cU u) (hv:cU v) (h1:u.2<=M) (h2:v.2<=M) (h:val M u=val M v):u=v:=by
 obtain ⟨a,b⟩:=Q4.Least.one hu hv h1 h2 h
 exact Prod.ext a b
theorem yZ (x:Q4) (k:Nat):cU ((num x k).1,(num x k).2.toNat):=by
 obtain ⟨s1,s2,s3⟩:=iP x k (by omega)
 show Q4.Least (num x k).1 ((num x k).2.toNat:Int)
 rw [Int.toNat_of_nonneg s1.1]; exact s1
theorem wm (u:Nu):cU (cD u):=yZ _ _
theorem nP {u:Nu} (e:Nat) (h:cU u):cU (bf e u):=yp _ h
theorem aY {f:Nat->Nu} (h:∀ p,cU (f p)) (n:Nat) (r:Row) (p:Nat):cU (ah n f r p):=by
 cases r with
 | swing j=>
  show cU (if aG (wt n j) p=0 then _ else _)
  split <;> exact wm _
 | turn j e=>exact nP _ (h p)
 | sign i j=>exact nP _ (h p)
 | flip j=>exact h _
 | tie i j=>exact h _
 | cross i j=>exact h _
noncomputable def cu:Nat->(Nat->Int)->Int
 | 0,_=>0
 | n+1,F=>cu n F+F n
theorem cH {F G:Nat->Int}:∀ (n:Nat),(∀ p,p<n->F p=G p)->cu n F=cu n G
 | 0,_=>rfl
 | n+1,h=>by
  show cu n F+F n=cu n G+G n
  rw [cH n fun p hp=>h p (by omega),h n (by omega)]
theorem ti (F G:Nat->Int):∀ n:Nat,cu n (fun p=>F p+G p)=cu n F+cu n G
 | 0=>rfl
 | n+1=>by
  show cu n _+(F n+G n)=cu n F+F n+(cu n G+G n)
  rw [ti F G n]; omega
theorem jz (F:Nat->Int) (a:Nat):∀ b:Nat,cu (a+b) F=cu a F+cu b (fun r=>F (a+r))
 | 0=>by show cu a F=cu a F+0; omega
 | b+1=>by
  show cu (a+b) F+F (a+b)=_+(cu b _+F (a+b))
  rw [jz F a b]; omega
theorem tf (F:Nat->Int) (b:Nat):∀ a:Nat,cu (a*b) F=cu a (fun q=>cu b (fun r=>F (q*b+r)))
 | 0=>by rw [Nat.zero_mul]; rfl
 | a+1=>by
  rw [Nat.succ_mul,jz,tf F b a]; rfl
theorem sZ {n j:Nat} (hj:j<n) {F G:Nat->Int} (h:∀ p,p<2 ^ n->aG (wt n j) p=0->G p+G (p+wt n j)=F p+F (p+wt n j)):cu (2 ^ n) G=cu (2 ^ n) F:=by
 have hw:=bp n j
 have e:2 ^ n=2 ^ j*(wt n j+wt n j):=by
  rw [zR hj,Nat.pow_succ,Nat.mul_comm,Nat.mul_assoc,Nat.mul_comm 2,Nat.mul_two]
 have two:∀ H:Nat->Int,cu (2 ^ n) H=cu (2 ^ j) (fun q=>cu (wt n j) (fun r=>H (q*(wt n j+wt n j)+r)+H (q*(wt n j+wt n j)+r+wt n j))):=fun H=>by
  rw [e,tf]
  refine cH _ fun q _=>?_
  rw [jz,<- ti]
  refine cH _ fun r _=>?_
  rw [<- Nat.add_assoc,Nat.add_right_comm]
 rw [two G,two F]
 refine cH _ fun q hq=>cH _ fun r hr=>?_
 have e2:q*(wt n j+wt n j)+r=(2*q+0)*wt n j+r:=by
  rw [Nat.add_zero,Nat.mul_add,<- Nat.add_mul,<- Nat.two_mul]
 have hb:aG (wt n j) (q*(wt n j+wt n j)+r)=0:=by rw [e2]; exact wJ (by decide) hr
 have hl:q*(wt n j+wt n j)+r<2 ^ n:=by
  have:(q+1)*(wt n j+wt n j)<=2 ^ j*(wt n j+wt n j):=Nat.mul_le_mul_right _ hq
  rw [Nat.succ_mul] at this
  omega
 exact h _ hl hb
theorem s0 {n j:Nat} (hj:j<n) (c:Nat->Bool) (hc:∀ p,c (flp (wt n j) p)=c p) (F:Nat->Int):cu (2 ^ n) (fun p=>F (if c p=true then flp (wt n j) p else p))=cu (2 ^ n) F:=by
 refine sZ hj fun p hp hb=>?_
 have e:flp (wt n j) p=p+wt n j:=if_pos hb
 have hc:=hc p
 rw [e] at hc
 have hw:=bp n j
 have e2:flp (wt n j) (p+wt n j)=p:=by rw [<- e]; exact gB hw
 rw [hc,e,e2]
 by_cases h:c p=true
 ·rw [if_pos h,if_pos h]; omega
 ·rw [if_neg h,if_neg h]
theorem nc {n i j:Nat} (hi:i<n) (hj:j<n) (hij:i≠j) (F:Nat->Int):cu (2 ^ n) (fun p=>F (aT n (.tie i j) p))=cu (2 ^ n) F:=by
 have:=s0 hj (fun p=>!(aG (wt n i) p==0)) (fun p=>by rw [cM hj hi (Ne.symm hij)]) F
 rw [<- this]
 refine cH _ fun p _=>?_
 show F (if aG (wt n i) p=0 then p else flp (wt n j) p)=_
 by_cases h:aG (wt n i) p=0 <;> simp [h]
theorem E1 {w p:Nat} (hw:0<w):((flp w p:Nat):Int)=(p:Int)+w-2*((w*aG w p:Nat):Int):=by
 have h2:=ca w p
 unfold flp
 by_cases h:aG w p=0
 ·rw [if_pos h,h]; omega
 ·have h1:aG w p=1:=by omega
  have:=nA hw h1
  rw [if_neg h,h1]; omega
theorem oU {n i j p:Nat} (hi:i<n) (hj:j<n) (hij:i≠j):flp (wt n j) (flp (wt n i) p)=flp (wt n i) (flp (wt n j) p):=by
 have a:=E1 (p:=flp (wt n i) p) (bp n j)
 have b:=E1 (p:=flp (wt n j) p) (bp n i)
 rw [cM hi hj hij,E1 (bp n i)] at a
 rw [cM hj hi (Ne.symm hij),E1 (bp n j)] at b
 omega
theorem yt {n i j:Nat} (hi:i<n) (hj:j<n) (hij:i≠j) (F:Nat->Int):cu (2 ^ n) (fun p=>F (aT n (.cross i j) p))=cu (2 ^ n) F:=by
 have h1:=nc hi hj hij (fun p=>F (aT n (.tie i j) (aT n (.tie j i) p)))
 have h2:=nc hj hi (Ne.symm hij) (fun p=>F (aT n (.tie i j) p))
 have h3:=nc hi hj hij F
 rw [<- h3,<- h2,<- h1]
 refine cH _ fun p _=>?_
 have hwi:=bp n i
 have hwj:=bp n j
 have a1:=ca (wt n i) p
 have a2:=ca (wt n j) p
 have f1:=cM (p:=p) hj hi (Ne.symm hij)
 have f2:=bF (p:=p) hwj
 have f3:=cM (p:=p) hi hj hij
 have f4:=bF (p:=p) hwi
 congr 1
 show (if aG (wt n i) p=aG (wt n j) p then p else flp (wt n j) (flp (wt n i) p))=_
 have b1:aG (wt n i) p=0\/aG (wt n i) p=1:=by omega
 have b2:aG (wt n j) p=0\/aG (wt n j) p=1:=by omega
 have comm:flp (wt n j) (flp (wt n i) p)=flp (wt n i) (flp (wt n j) p):=oU hi hj hij
 have on:∀ {i j p:Nat},aG (wt n i) p=1->aT n (.tie i j) p=flp (wt n j) p:=fun {i j p} h=>by
  show (if aG (wt n i) p=0 then p else flp (wt n j) p)=_
  rw [h]; rfl
 have off:∀ {i j p:Nat},aG (wt n i) p=0->aT n (.tie i j) p=p:=fun {i j p} h=>if_pos h
 rcases b1 with b1 | b1 <;> rcases b2 with b2 | b2
 ·rw [if_pos (by rw [b1,b2]),off b1,off b2,off b1]
 ·rw [if_neg (by rw [b1,b2]; decide),off b1,on b2,on (by rw [f4,b1])]
 ·rw [if_neg (by rw [b1,b2]; decide),on b1,on (i:=j) (by rw [f2,b2]),off (by rw [bF hwi,f1,b1]),comm]
 ·rw [if_pos (by rw [b1,b2]),on b1,off (i:=j) (by rw [f2,b2]),on (by rw [f1,b1]),gB hwj]
theorem g7 (u v:Nu):(b9 u v).2<=max u.2 v.2:=by
 have hk:max (u.2:Int) v.2=((max u.2 v.2:Nat):Int):=by omega
 unfold b9 gx
 rw [hk]
 obtain ⟨s1,s2,s3⟩:=iP (Q4.add (Q4.rtn (((max u.2 v.2:Nat):Int)-u.2).toNat u.1) (Q4.rtn (((max u.2 v.2:Nat):Int)-v.2).toNat v.1)) ((max u.2 v.2:Nat):Int) (by omega)
 show (num _ _).2.toNat<=_
 omega
theorem ub {x y s t:Q4} (h1:Q4.rt x=Q4.add s t) (h2:Q4.rt y=Q4.add s (Q4.neg t)):S2.add (jd x) (jd y)=S2.add (jd s) (jd t):=by
 apply S2.sc_inj (n:=1)
 rw [S2.sc_addS,<- A9,<- A9,h1,h2,Eg]
 apply S2.ext' <;> simp only [S2.add,S2.sc] <;> omega
noncomputable def Ef (M n:Nat) (f:Nat->Nu):S2:=⟨cu (2 ^ n) (fun p=>(jd (val M (f p))).p),cu (2 ^ n) (fun p=>(jd (val M (f p))).q)⟩
theorem s9 {n M:Nat} (r:Row) (hr:r.ok n) (f:Nat->Nu) (hf:∀ p,(f p).2+1<=M) (F:Q4->Int) (ht:∀ e x,F (gI e x)=F x) (hp:∀ x y s t,Q4.rt x=Q4.add s t->Q4.rt y=Q4.add s (Q4.neg t)->F x+F y=F s+F t):cu (2 ^ n) (fun p=>F (val M (ah n f r p)))=cu (2 ^ n) (fun p=>F (val M (f p))):=by
 cases r with
 | swing j=>
  refine sZ hr fun p hp' hb=>?_
  have hw:=bp n j
  have hb1:aG (wt n j) (p+wt n j)=1:=by
   have:=bF (p:=p) hw
   rw [show flp (wt n j) p=p+wt n j from if_pos hb,hb] at this
   exact this
  have e1:ah n f (.swing j) p=cD (b9 (f p) (f (p+wt n j))):=if_pos hb
  have e2:ah n f (.swing j) (p+wt n j)=cD (b9 (f (p+wt n j-wt n j)) (bf 4 (f (p+wt n j)))):=if_neg (by rw [hb1]; decide)
  rw [Nat.add_sub_cancel] at e2
  rw [e1,e2]
  have a:=hf p
  have b:=hf (p+wt n j)
  have l1:(b9 (f p) (f (p+wt n j))).2<=max (f p).2 (f (p+wt n j)).2:=g7 _ _
  have l2:(b9 (f p) (bf 4 (f (p+wt n j)))).2<=max (f p).2 (f (p+wt n j)).2:=g7 _ _
  refine hp _ _ _ _ ?_ ?_
  ·rw [jW (by omega),jV (by omega) (by omega)]
  ·rw [jW (by omega),jV (by omega) (by show (f (p+wt n j)).2<=M; omega),C9]
 | turn j e=>exact cH _ fun p _=>by show F (val M (bf _ (f p)))=_; rw [dh,ht]
 | sign i j=>exact cH _ fun p _=>by show F (val M (bf _ (f p)))=_; rw [dh,ht]
 | flip j=>
  have:=s0 hr (fun _=>true) (fun _=>rfl) (fun p=>F (val M (f p)))
  exact this
 | tie i j=>exact nc hr.1 hr.2.1 hr.2.2 (fun p=>F (val M (f p)))
 | cross i j=>exact yt hr.1 hr.2.1 hr.2.2 (fun p=>F (val M (f p)))
theorem y8 {n M:Nat} (r:Row) (hr:r.ok n) (f:Nat->Nu) (hf:∀ p,(f p).2+1<=M):Ef M n (ah n f r)=Ef M n f:=by
 apply S2.ext'
 ·exact s9 r hr f hf (fun x=>(jd x).p) (fun e x=>by rw [xz]) fun x y s t h1 h2=>by
   have:=congrArg S2.p (ub h1 h2); exact this
 ·exact s9 r hr f hf (fun x=>(jd x).q) (fun e x=>by rw [xz]) fun x y s t h1 h2=>by
   have:=congrArg S2.q (ub h1 h2); exact this
theorem tL:∀ k,Q4.rtn k ⟨0,0,0,0⟩=⟨0,0,0,0⟩
 | 0=>rfl
 | k+1=>by rw [Q4.rtn_succ,tL k]; rfl
theorem GE (x y:Q4):Q4.tn (Q4.add x y)=Q4.add (Q4.tn x) (Q4.tn y):=by apply Q4.ext' <;> simp only [Q4.tn,Q4.add] <;> omega
theorem sX (e:Nat):∀ (x y:Q4),gI e (Q4.add x y)=Q4.add (gI e x) (gI e y):=by
 induction e with
 | zero=>intro x y; rfl
 | succ e ih=>
  intro x y
  have e1:∀ z,gI (e+1) z=gI e (Q4.tn z):=fun z=>by rw [fq e 1 z]; rfl
  rw [e1,e1,e1,GE,ih]
theorem dF {n M j:Nat} {f:Nat->Nu} (hf:∀ p,(f p).2+1<=M) (x:Nat):Q4.rt (val M (ah n f (.swing j) x))=if aG (wt n j) x=0 then Q4.add (val M (f x)) (val M (f (x+wt n j))) else Q4.add (val M (f (x-wt n j))) (gI 4 (val M (f x))):=by
 show Q4.rt (val M (if aG (wt n j) x=0 then cD (b9 (f x) (f (x+wt n j))) else cD (b9 (f (x-wt n j)) (bf 4 (f x)))))=_
 split
 ·have a:=hf x
  have b:=hf (x+wt n j)
  have l:=g7 (f x) (f (x+wt n j))
  rw [jW (by omega),jV (by omega) (by omega)]
 ·have a:=hf x
  have b:=hf (x-wt n j)
  have l:(b9 (f (x-wt n j)) (bf 4 (f x))).2<=max (f (x-wt n j)).2 (f x).2:=g7 _ _
  rw [jW (by omega),jV (by omega) (by show (f x).2<=M; omega),dh]
noncomputable def fm (p:Nat):Nat->Nu:=fun q=>if q=p then (⟨1,0,0,0⟩,0) else (⟨0,0,0,0⟩,0)
theorem lJ (p x:Nat):cU (fm p x):=by
 unfold fm
 split
 ·exact ⟨Int.le_refl 0,fun z=>absurd z (Int.lt_irrefl 0)⟩
 ·exact ⟨Int.le_refl 0,fun z=>absurd z (Int.lt_irrefl 0)⟩
theorem GC (e:Nat) (x:Q4):gI e (Q4.rt x)=Q4.rt (gI e x):=w6 e 1 x
theorem BQ {n i j:Nat} (hi:i<n) (hj:j<n) (p:Nat):flp (wt n j) (flp (wt n i) p)=flp (wt n i) (flp (wt n j) p):=by
 by_cases e:i=j
 ·rw [e]
 ·exact oU hi hj e
noncomputable def Row.fl:Row->List Nat
 | .flip j=>[j]
 | .tie _ j=>[j]
 | .cross i j=>[i,j]
 | _=>[]
noncomputable def Row.hd:Row->List Nat
 | .turn j _=>[j]
 | .tie i _=>[i]
 | .sign i j=>[i,j]
 | _=>[]
theorem hR {n:Nat} {r:Row} (hr:r.ok n) {k:Nat} (hk:k<n) (h:k ∉ r.fl) (p:Nat):aG (wt n k) (aT n r p)=aG (wt n k) p:=by
 cases r with
 | flip j=>exact cM hr hk (fun e=>h (by simp [Row.fl,e]))
 | tie i j=>
  show aG (wt n k) (if aG (wt n i) p=0 then p else flp (wt n j) p)=_
  split
  ·rfl
  ·exact cM hr.2.1 hk (fun e=>h (by simp [Row.fl,e]))
 | cross i j=>
  show aG (wt n k) (if aG (wt n i) p=aG (wt n j) p then p else flp (wt n j) (flp (wt n i) p))=_
  split
  ·rfl
  ·rw [cM hr.2.1 hk (fun e=>h (by simp [Row.fl,e])),cM hr.1 hk (fun e=>h (by simp [Row.fl,e]))]
 | _=>rfl
structure Apart (r q:Row):Prop where
 rq:∀ k∈r.fl,k ∉ q.hd
 qr:∀ k∈q.fl,k ∉ r.hd
 cr:(∃ i j,r=.cross i j)->∀ k∈r.fl,k ∉ q.fl
 cq:(∃ i j,q=.cross i j)->∀ k∈q.fl,k ∉ r.fl
noncomputable def ph (n:Nat):Row->Nat->Nat
 | .turn j e,p=>e*aG (wt n j) p
 | .sign i j,p=>4*aG (wt n i) p*aG (wt n j) p
 | _,_=>0
noncomputable def Row.sw:Row->Bool
 | .swing _=>true
 | _=>false
theorem fJ {n:Nat} {r:Row} (h:r.sw=false) (f:Nat->Nu) (p:Nat):ah n f r p=bf (ph n r p) (f (aT n r p)):=by
 cases r with
 | swing j=>cases h
 | turn j e=>rfl
 | sign i j=>rfl
 | flip j=>rfl
 | tie i j=>rfl
 | cross i j=>rfl
theorem zZ (a b:Nat) (u:Nu):bf a (bf b u)=bf b (bf a u):=by
 unfold bf
 simp only
 rw [<- fq,<- fq,Nat.add_comm]
theorem rj {n:Nat} {r q:Row} (hr:r.ok n) (hq:q.ok n) (h:∀ k∈q.fl,k ∉ r.hd) (p:Nat):ph n r (aT n q p)=ph n r p:=by
 have b:∀ {k},k<n->k∈r.hd->aG (wt n k) (aT n q p)=aG (wt n k) p:=fun hk hm=>hR hq hk (fun z=>h _ z hm) p
 cases r with
 | turn j e=>show e*_=e*_; rw [b hr.1 (by simp [Row.hd])]
 | sign i j=>show 4*_*_=4*_*_; rw [b hr.1 (by simp [Row.hd]),b hr.2.1 (by simp [Row.hd])]
 | _=>rfl
theorem qC {n:Nat} {r q:Row} (hr:r.ok n) (hq:q.ok n) (h:Apart r q) (p:Nat):aT n r (aT n q p)=aT n q (aT n r p):=by
 have br:∀ {k},k<n->k ∉ r.fl->∀ p,aG (wt n k) (aT n r p)=aG (wt n k) p:=fun hk hm p=>hR hr hk hm p
 have bq:∀ {k},k<n->k ∉ q.fl->∀ p,aG (wt n k) (aT n q p)=aG (wt n k) p:=fun hk hm p=>hR hq hk hm p
 have C:=fun {i j:Nat} (hi:i<n) (hj:j<n) (p:Nat)=>BQ hi hj p
 cases r with
 | swing j=>rfl
 | turn j e=>rfl
 | sign i j=>rfl
 | flip j=>
  cases q with
  | flip k=>exact C hq hr p
  | tie i k=>
   have e:=br hq.1 (fun z=>h.rq i z (by simp [Row.hd])) p
   show flp (wt n j) (if aG (wt n i) p=0 then p else flp (wt n k) p)=if aG (wt n i) (flp (wt n j) p)=0 then flp (wt n j) p else flp (wt n k) (flp (wt n j) p)
   rw [show aG (wt n i) (flp (wt n j) p)=aG (wt n i) p from e]
   split
   ·rfl
   ·exact C hq.2.1 hr p
  | cross a b=>
   have ea:=br hq.1 (fun z=>h.cq ⟨_,_,rfl⟩ a (by simp [Row.fl]) z) p
   have eb:=br hq.2.1 (fun z=>h.cq ⟨_,_,rfl⟩ b (by simp [Row.fl]) z) p
   show flp (wt n j) (if aG (wt n a) p=aG (wt n b) p then p else flp (wt n b) (flp (wt n a) p))=if aG (wt n a) (flp (wt n j) p)=aG (wt n b) (flp (wt n j) p) then flp (wt n j) p else flp (wt n b) (flp (wt n a) (flp (wt n j) p))
   rw [show aG (wt n a) (flp (wt n j) p)=aG (wt n a) p from ea,show aG (wt n b) (flp (wt n j) p)=aG (wt n b) p from eb]
   split
   ·rfl
   ·rw [C hq.2.1 hr,C hq.1 hr]
  | _=>rfl
 | tie i j=>
  cases q with
  | flip k=>
   have e:=bq hr.1 (fun z=>h.qr i z (by simp [Row.hd])) p
   show (if aG (wt n i) (flp (wt n k) p)=0 then flp (wt n k) p else flp (wt n j) (flp (wt n k) p))=flp (wt n k) (if aG (wt n i) p=0 then p else flp (wt n j) p)
   rw [show aG (wt n i) (flp (wt n k) p)=aG (wt n i) p from e]
   split
   ·rfl
   ·exact C hq hr.2.1 p
  | tie a b=>
   have e1:=bq hr.1 (fun z=>h.qr i z (by simp [Row.hd])) p
   have e2:=br hq.1 (fun z=>h.rq a z (by simp [Row.hd])) p
   show (if aG (wt n i) (aT n (.tie a b) p)=0 then aT n (.tie a b) p else flp (wt n j) (aT n (.tie a b) p))=(if aG (wt n a) (aT n (.tie i j) p)=0 then aT n (.tie i j) p else flp (wt n b) (aT n (.tie i j) p))
   rw [e1,e2]
   show (if aG (wt n i) p=0 then (if aG (wt n a) p=0 then p else flp (wt n b) p) else flp (wt n j) (if aG (wt n a) p=0 then p else flp (wt n b) p))=(if aG (wt n a) p=0 then (if aG (wt n i) p=0 then p else flp (wt n j) p) else flp (wt n b) (if aG (wt n i) p=0 then p else flp (wt n j) p))
   by_cases x:aG (wt n i) p=0 <;> by_cases y:aG (wt n a) p=0 <;> simp [x,y]
   exact C hq.2.1 hr.2.1 p
  | cross a b=>
   have e1:=bq hr.1 (fun z=>h.qr i z (by simp [Row.hd])) p
   have ea:=br hq.1 (fun z=>h.cq ⟨_,_,rfl⟩ a (by simp [Row.fl]) z) p
   have eb:=br hq.2.1 (fun z=>h.cq ⟨_,_,rfl⟩ b (by simp [Row.fl]) z) p
   show (if aG (wt n i) (aT n (.cross a b) p)=0 then aT n (.cross a b) p else flp (wt n j) (aT n (.cross a b) p))=(if aG (wt n a) (aT n (.tie i j) p)=aG (wt n b) (aT n (.tie i j) p) then aT n (.tie i j) p else flp (wt n b) (flp (wt n a) (aT n (.tie i j) p)))
   rw [e1,ea,eb]
   show (if aG (wt n i) p=0 then (if aG (wt n a) p=aG (wt n b) p then p else flp (wt n b) (flp (wt n a) p)) else flp (wt n j) (if aG (wt n a) p=aG (wt n b) p then p else flp (wt n b) (flp (wt n a) p)))=(if aG (wt n a) p=aG (wt n b) p then (if aG (wt n i) p=0 then p else flp (wt n j) p) else flp (wt n b) (flp (wt n a) (if aG (wt n i) p=0 then p else flp (wt n j) p)))
   by_cases x:aG (wt n i) p=0 <;> by_cases y:aG (wt n a) p=aG (wt n b) p <;> simp [x,y]
   rw [C hq.2.1 hr.2.1,C hq.1 hr.2.1]
  | _=>rfl
 | cross i j=>
  cases q with
  | flip k=>
   have ei:=bq hr.1 (fun z=>h.cr ⟨_,_,rfl⟩ i (by simp [Row.fl]) z) p
   have ej:=bq hr.2.1 (fun z=>h.cr ⟨_,_,rfl⟩ j (by simp [Row.fl]) z) p
   show (if aG (wt n i) (aT n (.flip k) p)=aG (wt n j) (aT n (.flip k) p) then flp (wt n k) p else flp (wt n j) (flp (wt n i) (flp (wt n k) p)))=flp (wt n k) (if aG (wt n i) p=aG (wt n j) p then p else flp (wt n j) (flp (wt n i) p))
   rw [ei,ej]
   split
   ·rfl
   ·rw [C hq hr.1,C hq hr.2.1]
  | tie a b=>
   have e1:=br hq.1 (fun z=>h.rq a z (by simp [Row.hd])) p
   have ei:=bq hr.1 (fun z=>h.cr ⟨_,_,rfl⟩ i (by simp [Row.fl]) z) p
   have ej:=bq hr.2.1 (fun z=>h.cr ⟨_,_,rfl⟩ j (by simp [Row.fl]) z) p
   show (if aG (wt n i) (aT n (.tie a b) p)=aG (wt n j) (aT n (.tie a b) p) then aT n (.tie a b) p else flp (wt n j) (flp (wt n i) (aT n (.tie a b) p)))=(if aG (wt n a) (aT n (.cross i j) p)=0 then aT n (.cross i j) p else flp (wt n b) (aT n (.cross i j) p))
   rw [e1,ei,ej]
   show (if aG (wt n i) p=aG (wt n j) p then (if aG (wt n a) p=0 then p else flp (wt n b) p) else flp (wt n j) (flp (wt n i) (if aG (wt n a) p=0 then p else flp (wt n b) p)))=(if aG (wt n a) p=0 then (if aG (wt n i) p=aG (wt n j) p then p else flp (wt n j) (flp (wt n i) p)) else flp (wt n b) (if aG (wt n i) p=aG (wt n j) p then p else flp (wt n j) (flp (wt n i) p)))
   by_cases x:aG (wt n a) p=0 <;> by_cases y:aG (wt n i) p=aG (wt n j) p <;> simp [x,y]
   rw [C hq.2.1 hr.1,C hq.2.1 hr.2.1]
  | cross a b=>
   have ea:=br hq.1 (fun z=>h.cq ⟨_,_,rfl⟩ a (by simp [Row.fl]) z) p
   have eb:=br hq.2.1 (fun z=>h.cq ⟨_,_,rfl⟩ b (by simp [Row.fl]) z) p
   have ei:=bq hr.1 (fun z=>h.cr ⟨_,_,rfl⟩ i (by simp [Row.fl]) z) p
   have ej:=bq hr.2.1 (fun z=>h.cr ⟨_,_,rfl⟩ j (by simp [Row.fl]) z) p
   show (if aG (wt n i) (aT n (.cross a b) p)=aG (wt n j) (aT n (.cross a b) p) then aT n (.cross a b) p else flp (wt n j) (flp (wt n i) (aT n (.cross a b) p)))=(if aG (wt n a) (aT n (.cross i j) p)=aG (wt n b) (aT n (.cross i j) p) then aT n (.cross i j) p else flp (wt n b) (flp (wt n a) (aT n (.cross i j) p)))
   rw [ea,eb,ei,ej]
   show (if aG (wt n i) p=aG (wt n j) p then (if aG (wt n a) p=aG (wt n b) p then p else flp (wt n b) (flp (wt n a) p)) else flp (wt n j) (flp (wt n i) (if aG (wt n a) p=aG (wt n b) p then p else flp (wt n b) (flp (wt n a) p))))=(if aG (wt n a) p=aG (wt n b) p then (if aG (wt n i) p=aG (wt n j) p then p else flp (wt n j) (flp (wt n i) p)) else flp (wt n b) (flp (wt n a) (if aG (wt n i) p=aG (wt n j) p then p else flp (wt n j) (flp (wt n i) p))))
   by_cases x:aG (wt n i) p=aG (wt n j) p <;> by_cases y:aG (wt n a) p=aG (wt n b) p <;> simp [x,y]
   rw [C hq.2.1 hr.1 (flp (wt n a) p),C hq.1 hr.1,C hq.2.1 hr.2.1,C hq.1 hr.2.1]
  | _=>rfl
theorem zC {n:Nat} {r q:Row} (hr:r.ok n) (hq:q.ok n) (h1:r.sw=false) (h2:q.sw=false) (h:Apart r q) (f:Nat->Nu) (p:Nat):ah n (ah n f r) q p=ah n (ah n f q) r p:=by
 rw [fJ h2,fJ h1,fJ h1,fJ h2,rj hr hq h.qr,rj hq hr h.rq,zZ,qC hr hq h]
noncomputable def Row.about:Row->Row
 | .turn j e=>.turn j (8-e)
 | r=>r
theorem pY (a b:Nat) (h:(a+b) % 8=0) (u:Nu):bf a (bf b u)=u:=by
 unfold bf
 have e:gI (a % 8) (gI (b % 8) u.1)=u.1:=by
  rw [dU,dU,<- fq,<- dU,h]; rfl
 rw [e]
theorem Ft {n j x:Nat} (h:aG (wt n j) x≠0):aG (wt n j) (x-wt n j)=0/\wt n j<=x:=by
 have h2:=ca (wt n j) x
 have h3:=nA (bp n j) (show aG (wt n j) x=1 by omega)
 have:=bF (p:=x) (bp n j)
 unfold flp at this
 rw [if_neg h] at this
 exact ⟨by omega,h3⟩
theorem Fu {n j x:Nat} (h:aG (wt n j) x=0):aG (wt n j) (x+wt n j)=1:=by
 have:=bF (p:=x) (bp n j)
 unfold flp at this
 rw [if_pos h,h] at this
 exact this
theorem iT (x:Q4):gI 4 x=Q4.neg x:=by apply Q4.ext' <;> simp [gI,Q4.tn,Q4.neg]
theorem Gw (a b:Q4):Q4.add (Q4.add a b) (Q4.add a (Q4.neg b))=Q4.rt (Q4.rt a):=by
 rw [Q4.rt_rt]; apply Q4.ext' <;> simp [Q4.add,Q4.neg,Q4.dbl] <;> omega
theorem Gx (a b:Q4):Q4.add (Q4.add a b) (Q4.neg (Q4.add a (Q4.neg b)))=Q4.rt (Q4.rt b):=by
 rw [Q4.rt_rt]; apply Q4.ext' <;> simp [Q4.add,Q4.neg,Q4.dbl] <;> omega
theorem lD (x:Q4):Q4.rt (Q4.neg x)=Q4.neg (Q4.rt x):=by apply Q4.ext' <;> simp [Q4.rt,Q4.neg] <;> omega
theorem zy (u:Nu):(cD u).2<=u.2+1:=by
 obtain ⟨s1,s2,s3⟩:=iP u.1 ((u.2+1:Nat):Int) (by omega)
 show (num u.1 ((u.2+1:Nat):Int)).2.toNat<=_
 omega
theorem bu (n:Nat) (f:Nat->Nu) (r:Row) (M:Nat) (h:∀ p,(f p).2<=M) (x:Nat):(ah n f r x).2<=M+1:=by
 have hp:∀ u v:Nu,u.2<=M->v.2<=M->(cD (b9 u v)).2<=M+1:=fun u v hu hv=>by
  have a:=g7 u v
  have b:=zy (b9 u v)
  omega
 cases r with
 | swing j=>
  show (if aG (wt n j) x=0 then cD (b9 (f x) (f (x+wt n j))) else cD (b9 (f (x-wt n j)) (bf 4 (f x)))).2<=_
  split
  ·exact hp _ _ (h _) (h _)
  ·exact hp _ _ (h _) (h _)
 | turn j e=>exact Nat.le_succ_of_le (h x)
 | sign i j=>exact Nat.le_succ_of_le (h x)
 | flip j=>exact Nat.le_succ_of_le (h _)
 | tie i j=>exact Nat.le_succ_of_le (h _)
 | cross i j=>exact Nat.le_succ_of_le (h _)
theorem qE {n:Nat} {f:Nat->Nu} (hl:∀ p,cU (f p)) {M:Nat} (hM:∀ p,(f p).2<=M) (r:Row) (hr:r.ok n) (x:Nat):ah n (ah n f r) r.about x=f x:=by
 cases r with
 | swing j=>
  have b1:∀ p,(f p).2+1<=M+2:=fun p=>by have:=hM p; omega
  have b2:∀ p,(ah n f (.swing j) p).2+1<=M+2:=fun p=>by have:=bu n f (.swing j) M hM p; omega
  have b3:=bu n (ah n f (.swing j)) (.swing j) (M+1) (bu n f (.swing j) M hM) x
  refine i6 (M:=M+2) (aY (aY hl n _) n _ x) (hl x) b3 (by have:=hM x; omega) ?_
  apply Q4.rt_inj
  apply Q4.rt_inj
  show Q4.rt (Q4.rt (val (M+2) (ah n (ah n f (.swing j)) (.swing j) x)))=_
  rw [dF b2 x]
  split
  ·rename_i c
   have c2:=Fu (n:=n) (j:=j) c
   rw [Q4.rt_add,dF b1 x,dF b1 (x+wt n j),if_pos c,if_neg (by omega),Nat.add_sub_cancel,iT,Gw]
  ·rename_i c
   obtain ⟨c2,c3⟩:=Ft (n:=n) (j:=j) c
   rw [Q4.rt_add,iT,lD,dF b1 x,dF b1 (x-wt n j),if_pos c2,if_neg c,Nat.sub_add_cancel c3,iT,Gx]
 | turn j e=>
  have h8:e<=7:=hr.2.2
  show bf ((8-e)*aG (wt n j) x) (bf (e*aG (wt n j) x) (f x))=f x
  refine pY _ _ ?_ _
  rw [<- Nat.add_mul,Nat.sub_add_cancel (by omega)]
  exact Nat.mul_mod_right 8 _
 | sign i j=>
  show bf (4*aG (wt n i) x*aG (wt n j) x) (bf (4*aG (wt n i) x*aG (wt n j) x) (f x))=f x
  refine pY _ _ ?_ _
  rw [show 4*aG (wt n i) x*aG (wt n j) x+4*aG (wt n i) x*aG (wt n j) x=8*(aG (wt n i) x*aG (wt n j) x) by rw [Nat.mul_assoc]; omega]
  exact Nat.mul_mod_right 8 _
 | flip j=>show f (flp (wt n j) (flp (wt n j) x))=_; rw [gB (bp n j)]
 | tie i j=>
  obtain ⟨hi,hj,hij⟩:=hr
  show f (aT n (.tie i j) (aT n (.tie i j) x))=_
  congr 1
  show (if aG (wt n i) (if aG (wt n i) x=0 then x else flp (wt n j) x)=0 then (if aG (wt n i) x=0 then x else flp (wt n j) x) else flp (wt n j) (if aG (wt n i) x=0 then x else flp (wt n j) x))=x
  by_cases c:aG (wt n i) x=0
  ·simp only [if_pos c]
  ·simp only [if_neg c]
   rw [if_neg (by rw [cM hj hi (Ne.symm hij)]; exact c),gB (bp n j)]
 | cross i j=>
  obtain ⟨hi,hj,hij⟩:=hr
  show f (aT n (.cross i j) (aT n (.cross i j) x))=_
  congr 1
  have bi:=ca (wt n i) x
  have bj:=ca (wt n j) x
  show (if aG (wt n i) (if aG (wt n i) x=aG (wt n j) x then x else flp (wt n j) (flp (wt n i) x))=aG (wt n j) (if aG (wt n i) x=aG (wt n j) x then x else flp (wt n j) (flp (wt n i) x)) then (if aG (wt n i) x=aG (wt n j) x then x else flp (wt n j) (flp (wt n i) x)) else flp (wt n j) (flp (wt n i) (if aG (wt n i) x=aG (wt n j) x then x else flp (wt n j) (flp (wt n i) x))))=x
  by_cases c:aG (wt n i) x=aG (wt n j) x
  ·simp only [if_pos c]
  ·simp only [if_neg c]
   have e1:aG (wt n i) (flp (wt n j) (flp (wt n i) x))=1-aG (wt n i) x:=by rw [cM hj hi (Ne.symm hij),bF (bp n i)]
   have e2:aG (wt n j) (flp (wt n j) (flp (wt n i) x))=1-aG (wt n j) x:=by rw [bF (bp n j),cM hi hj hij]
   rw [if_neg (by omega),oU hi hj hij,gB (bp n j),gB (bp n i)]
theorem wu {j:Nat} {q:Row} (h1:j ∉ q.fl) (h2:j ∉ q.hd):Apart (.flip j) q:=by
 have e:∀ k,k∈Row.fl (.flip j)->k=j:=fun k hk=>by simpa [Row.fl] using hk
 refine ⟨fun k hk z=>?_,fun k hk z=>?_,fun c=>?_,fun _ k hk z=>?_⟩
 ·rw [e k hk] at z; exact h2 z
 ·cases z
 ·obtain ⟨_,_,c⟩:=c; cases c
 ·rw [e k z] at hk; exact h1 hk
theorem rV {w p:Nat} (h:aG w p=0):flp w p=p+w:=if_pos h
theorem rW {w p:Nat} (h:¬ aG w p=0):flp w p=p-w:=if_neg h
theorem wz {n j:Nat} {q:Row} (hj:j<n) (hq:q.ok n) (hs:q.sw=false) (h1:j ∉ q.fl) (h2:j ∉ q.hd) (f:Nat->Nu) (p:Nat):ah n f q (flp (wt n j) p)=bf (ph n q p) (f (flp (wt n j) (aT n q p))):=by
 have a:=qC (r:=.flip j) hj hq (wu h1 h2) p
 have b:=rj (r:=q) (q:=.flip j) hq hj (fun k hk z=>by
  have:k=j:=by simpa [Row.fl] using hk
  subst this; exact h2 z) p
 rw [fJ hs,show ph n q (flp (wt n j) p)=ph n q p from b,show aT n q (flp (wt n j) p)=flp (wt n j) (aT n q p) from a.symm]
theorem vB {n j:Nat} {q:Row} (hj:j<n) (hq:q.ok n) (hs:q.sw=false) (h1:j ∉ q.fl) (h2:j ∉ q.hd) {f:Nat->Nu} (hl:∀ p,cU (f p)) {M:Nat} (hM:∀ p,(f p).2<=M) (x:Nat):ah n (ah n f (.swing j)) q x=ah n (ah n f q) (.swing j) x:=by
 have b1:∀ p,(f p).2+1<=M+2:=fun p=>by have:=hM p; omega
 have b2:∀ p,(ah n f q p).2+1<=M+2:=fun p=>by have:=bu n f q M hM p; omega
 have b3:=bu n (ah n f (.swing j)) q (M+1) (bu n f (.swing j) M hM) x
 have b4:=bu n (ah n f q) (.swing j) (M+1) (bu n f q M hM) x
 refine i6 (M:=M+2) (aY (aY hl n _) n _ x) (aY (aY hl n _) n _ x) b3 b4 ?_
 apply Q4.rt_inj
 have fb:=hR hq hj h1 x
 have ds:=fJ (n:=n) hs f x
 have df:=wz hj hq hs h1 h2 f x
 rw [dF b2 x,fJ hs (ah n f (.swing j)) x,dh,<- GC,dF b1 (aT n q x),fb]
 by_cases c:aG (wt n j) x=0
 ·rw [if_pos c,if_pos c,<- rV c,df,ds,dh,dh,sX,rV (by rw [fb]; exact c)]
 ·rw [if_neg c,if_neg c,<- rW c,df,ds,dh,dh,sX,rW (by rw [fb]; exact c),<- fq,<- fq,Nat.add_comm 4]
theorem bX {n M j:Nat} {f:Nat->Nu} (hf:∀ p,(f p).2+1<=M) (x:Nat):Q4.rt (val M (ah n f (.swing j) x))=if aG (wt n j) x=0 then Q4.add (val M (f x)) (val M (f (flp (wt n j) x))) else Q4.add (val M (f (flp (wt n j) x))) (Q4.neg (val M (f x))):=by
 rw [dF hf x]
 by_cases c:aG (wt n j) x=0
 ·rw [if_pos c,if_pos c,rV c]
 ·rw [if_neg c,if_neg c,rW c,iT]
theorem Mu (a b c d:Q4):Q4.add (Q4.add a b) (Q4.add c d)=Q4.add (Q4.add a c) (Q4.add b d):=by apply Q4.ext' <;> simp [Q4.add] <;> omega
theorem JM (a b c d:Q4):Q4.add (Q4.add c d) (Q4.neg (Q4.add a b))=Q4.add (Q4.add c (Q4.neg a)) (Q4.add d (Q4.neg b)):=by apply Q4.ext' <;> simp [Q4.add,Q4.neg] <;> omega
theorem Mt (a b c d:Q4):Q4.add (Q4.add d (Q4.neg c)) (Q4.neg (Q4.add b (Q4.neg a)))=Q4.add (Q4.add d (Q4.neg b)) (Q4.neg (Q4.add c (Q4.neg a))):=by apply Q4.ext' <;> simp [Q4.add,Q4.neg] <;> omega
theorem sY {n i j:Nat} (hi:i<n) (hj:j<n) (hij:i≠j) {f:Nat->Nu} (hl:∀ p,cU (f p)) {M:Nat} (hM:∀ p,(f p).2<=M) (x:Nat):ah n (ah n f (.swing i)) (.swing j) x=ah n (ah n f (.swing j)) (.swing i) x:=by
 have b1:∀ p,(f p).2+1<=M+2:=fun p=>by have:=hM p; omega
 have bi:∀ p,(ah n f (.swing i) p).2+1<=M+2:=fun p=>by have:=bu n f (.swing i) M hM p; omega
 have bj:∀ p,(ah n f (.swing j) p).2+1<=M+2:=fun p=>by have:=bu n f (.swing j) M hM p; omega
 have b3:=bu n (ah n f (.swing i)) (.swing j) (M+1) (bu n f (.swing i) M hM) x
 have b4:=bu n (ah n f (.swing j)) (.swing i) (M+1) (bu n f (.swing j) M hM) x
 refine i6 (M:=M+2) (aY (aY hl n _) n _ x) (aY (aY hl n _) n _ x) b3 b4 ?_
 apply Q4.rt_inj
 apply Q4.rt_inj
 have e1:=cM (p:=x) hj hi (Ne.symm hij)
 have e2:=cM (p:=x) hi hj hij
 have cc:=BQ hi hj x
 rw [bX bi x,bX bj x]
 by_cases x1:aG (wt n i) x=0
 ·by_cases x2:aG (wt n j) x=0
  ·rw [if_pos x2,if_pos x1,Q4.rt_add,Q4.rt_add,bX b1 x,bX b1 x,bX b1 (flp (wt n j) x),bX b1 (flp (wt n i) x),if_pos x1,if_pos x2,if_pos (by rw [e1]; exact x1),if_pos (by rw [e2]; exact x2),cc]
   exact Mu _ _ _ _
  ·rw [if_neg x2,if_pos x1,Q4.rt_add,Q4.rt_add,lD,bX b1 x,bX b1 x,bX b1 (flp (wt n j) x),bX b1 (flp (wt n i) x),if_pos x1,if_neg x2,if_pos (by rw [e1]; exact x1),if_neg (by rw [e2]; exact x2),cc]
   exact JM _ _ _ _
 ·by_cases x2:aG (wt n j) x=0
  ·rw [if_pos x2,if_neg x1,Q4.rt_add,Q4.rt_add,lD,bX b1 x,bX b1 x,bX b1 (flp (wt n j) x),bX b1 (flp (wt n i) x),if_neg x1,if_pos x2,if_neg (by rw [e1]; exact x1),if_pos (by rw [e2]; exact x2),cc]
   exact (JM _ _ _ _).symm
  ·rw [if_neg x2,if_neg x1,Q4.rt_add,Q4.rt_add,lD,lD,bX b1 x,bX b1 x,bX b1 (flp (wt n j) x),bX b1 (flp (wt n i) x),if_neg x1,if_neg x2,if_neg (by rw [e1]; exact x1),if_neg (by rw [e2]; exact x2),cc]
   exact Mt _ _ _ _
theorem xC (a:Q4):Q4.neg (Q4.neg a)=a:=by apply Q4.ext' <;> simp [Q4.neg]
theorem FJ (b:Nat) (u:Nu) (M:Nat):val M (bf (4*b) u)=if b % 2=0 then val M u else Q4.neg (val M u):=by
 rw [dh,dU]
 split
 ·rename_i h
  rw [show 4*b=8*(b / 2) by omega,<- dU,Nat.mul_mod_right]
  rfl
 ·rename_i h
  rw [show 4*b=4+8*(b / 2) by omega,<- dU,Nat.add_mul_mod_self_left,dU,iT]
theorem p6 {n i w:Nat} (hi:i<n) (hw:w<n) (hiw:i≠w) {f:Nat->Nu} (hl:∀ p,cU (f p)) {M:Nat} (hM:∀ p,(f p).2<=M) (x:Nat):ah n (ah n f (.swing w)) (.tie i w) x=ah n (ah n f (.sign i w)) (.swing w) x:=by
 have b1:∀ p,(f p).2+1<=M+2:=fun p=>by have:=hM p; omega
 have b2:∀ p,(ah n f (.sign i w) p).2+1<=M+2:=fun p=>by have:=bu n f (.sign i w) M hM p; omega
 have b3:=bu n (ah n f (.swing w)) (.tie i w) (M+1) (bu n f (.swing w) M hM) x
 have b4:=bu n (ah n f (.sign i w)) (.swing w) (M+1) (bu n f (.sign i w) M hM) x
 refine i6 (M:=M+2) (aY (aY hl n _) n _ x) (aY (aY hl n _) n _ x) b3 b4 ?_
 apply Q4.rt_inj
 have e1:=cM (p:=x) hw hi (Ne.symm hiw)
 have e2:=bF (w:=wt n w) (p:=x) (bp n w)
 have l1:=ca (wt n i) x
 have l2:=ca (wt n w) x
 have sg:∀ p,val (M+2) (ah n f (.sign i w) p)=if (aG (wt n i) p*aG (wt n w) p) % 2=0 then val (M+2) (f p) else Q4.neg (val (M+2) (f p)):=fun p=>by
  show val (M+2) (bf (4*aG (wt n i) p*aG (wt n w) p) (f p))=_
  rw [Nat.mul_assoc,FJ]
 rw [bX b2 x,sg x,sg (flp (wt n w) x),e1,e2]
 show Q4.rt (val (M+2) (ah n f (.swing w) (if aG (wt n i) x=0 then x else flp (wt n w) x)))=_
 by_cases x1:aG (wt n i) x=0
 ·rw [if_pos x1,bX b1 x,x1]
  simp
 ·have x1':aG (wt n i) x=1:=by omega
  rw [if_neg x1,bX b1 (flp (wt n w) x),e2,gB (bp n w),x1']
  by_cases x2:aG (wt n w) x=0
  ·rw [x2]; simp
  ·have x2':aG (wt n w) x=1:=by omega
   rw [x2']; simp [xC]
theorem nT {n w:Nat} (hw:w<n) {f:Nat->Nu} (hl:∀ p,cU (f p)) {M:Nat} (hM:∀ p,(f p).2<=M) (x:Nat):ah n (ah n f (.swing w)) (.flip w) x=ah n (ah n f (.turn w 4)) (.swing w) x:=by
 have b1:∀ p,(f p).2+1<=M+2:=fun p=>by have:=hM p; omega
 have b2:∀ p,(ah n f (.turn w 4) p).2+1<=M+2:=fun p=>by have:=bu n f (.turn w 4) M hM p; omega
 have b3:=bu n (ah n f (.swing w)) (.flip w) (M+1) (bu n f (.swing w) M hM) x
 have b4:=bu n (ah n f (.turn w 4)) (.swing w) (M+1) (bu n f (.turn w 4) M hM) x
 refine i6 (M:=M+2) (aY (aY hl n _) n _ x) (aY (aY hl n _) n _ x) b3 b4 ?_
 apply Q4.rt_inj
 have e2:=bF (w:=wt n w) (p:=x) (bp n w)
 have l2:=ca (wt n w) x
 have sg:∀ p,val (M+2) (ah n f (.turn w 4) p)=if (aG (wt n w) p) % 2=0 then val (M+2) (f p) else Q4.neg (val (M+2) (f p)):=fun p=>FJ _ _ _
 rw [bX b2 x,sg x,sg (flp (wt n w) x),e2]
 show Q4.rt (val (M+2) (ah n f (.swing w) (flp (wt n w) x)))=_
 rw [bX b1 (flp (wt n w) x),e2,gB (bp n w)]
 by_cases x2:aG (wt n w) x=0
 ·rw [x2]; simp
 ·have x2':aG (wt n w) x=1:=by omega
  rw [x2']; simp [xC]
def St (f:Nat->Nu):Prop:=(∀ p,cU (f p))/\∃ M,∀ p,(f p).2<=M
theorem St.done {f:Nat->Nu} (h:St f) (n:Nat) (r:Row):St (ah n f r):=by
 obtain ⟨h1,M,h2⟩:=h
 exact ⟨fun p=>aY h1 n r p,M+1,fun p=>bu n f r M h2 p⟩
def Jc (n:Nat) (r q:Row):Prop:=∀ f,St f->ah n (ah n f r) q=ah n (ah n f q) r
theorem Iu {n:Nat} {r q:Row} (hr:r.ok n) (hq:q.ok n) (h1:r.sw=false) (h2:q.sw=false) (h:Apart r q):Jc n r q:=fun f _=>funext fun p=>zC hr hq h1 h2 h f p
theorem Ca {n j:Nat} {q:Row} (hj:j<n) (hq:q.ok n) (hs:q.sw=false) (h1:j ∉ q.fl) (h2:j ∉ q.hd):Jc n (.swing j) q:=fun _ h=>funext fun p=>by
 obtain ⟨a,M,b⟩:=h
 exact vB hj hq hs h1 h2 a b p
theorem Ff {n j:Nat} {q:Row} (hj:j<n) (hq:q.ok n) (hs:q.sw=false) (h1:j ∉ q.fl) (h2:j ∉ q.hd):Jc n q (.swing j):=fun f h=>(Ca hj hq hs h1 h2 f h).symm
theorem Iq {n i j:Nat} (hi:i<n) (hj:j<n) (hij:i≠j):Jc n (.swing i) (.swing j):=fun _ h=>funext fun p=>by
 obtain ⟨a,M,b⟩:=h
 exact sY hi hj hij a b p
theorem eB {n:Nat} {r:Row} (hr:r.ok n) (ha:r.about=r):∀ g,St g->ah n (ah n g r) r=g:=fun g h=>funext fun p=>by
 obtain ⟨a,M,b⟩:=h
 have:=qE a b r hr p
 rw [ha] at this
 exact this
theorem qc (n i j:Nat) (g:Nat->Nu):ah n g (.sign i j)=ah n g (.sign j i):=funext fun p=>by
 show bf (4*aG (wt n i) p*aG (wt n j) p) (g p)=bf (4*aG (wt n j) p*aG (wt n i) p) (g p)
 rw [Nat.mul_assoc,Nat.mul_assoc,Nat.mul_comm (aG (wt n i) p)]
theorem wD {n i j:Nat} (hi:i<n) (hj:j<n) (g:Nat->Nu):ah n g (.cross i j)=ah n g (.cross j i):=funext fun p=>by
 show g (if aG (wt n i) p=aG (wt n j) p then p else flp (wt n j) (flp (wt n i) p))=g (if aG (wt n j) p=aG (wt n i) p then p else flp (wt n i) (flp (wt n j) p))
 by_cases h:aG (wt n i) p=aG (wt n j) p
 ·rw [if_pos h,if_pos h.symm]
 ·rw [if_neg h,if_neg (fun z=>h z.symm),BQ hi hj]
theorem FH {n a e f:Nat} (g:Nat->Nu):ah n (ah n g (.turn a e)) (.turn a f)=ah n g (.turn a ((e+f) % 8)):=funext fun p=>by
 have l:=ca (wt n a) p
 show bf (f*aG (wt n a) p) (bf (e*aG (wt n a) p) (g p))=bf ((e+f) % 8*aG (wt n a) p) (g p)
 unfold bf
 simp only
 rw [dU,dU,dU,<- fq]
 by_cases h:aG (wt n a) p=0
 ·rw [h]; simp
 ·have h':aG (wt n a) p=1:=by omega
  rw [h',Nat.mul_one,Nat.mul_one,Nat.mul_one,dU,Nat.add_comm]
theorem pZ {n a:Nat} (g:Nat->Nu):ah n g (.turn a 0)=g:=funext fun p=>by
 show bf (0*aG (wt n a) p) (g p)=g p
 rw [Nat.zero_mul]; rfl
section
variable {n w:Nat} (hw:w<n) {g:Nat->Nu} (h:St g)
include hw h
theorem ss:ah n (ah n g (.swing w)) (.swing w)=g:=eB (r:=.swing w) hw rfl g h
theorem xf:ah n (ah n (ah n g (.swing w)) (.flip w)) (.swing w)=ah n g (.turn w 4):=by
 obtain ⟨a,M,b⟩:=h
 have e:ah n (ah n g (.swing w)) (.flip w)=ah n (ah n g (.turn w 4)) (.swing w):=funext fun p=>nT hw a b p
 rw [e]
 exact ss hw (St.done ⟨a,M,b⟩ n _)
theorem xb:ah n (ah n (ah n g (.swing w)) (.turn w 4)) (.swing w)=ah n g (.flip w):=by
 obtain ⟨a,M,b⟩:=St.done h n (.swing w)
 have e:ah n (ah n (ah n g (.swing w)) (.swing w)) (.flip w)=ah n (ah n (ah n g (.swing w)) (.turn w 4)) (.swing w):=funext fun p=>nT hw a b p
 rw [<- e,ss hw h]
theorem GH {i:Nat} (hi:i<n) (hiw:i≠w):ah n (ah n (ah n g (.swing w)) (.tie i w)) (.swing w)=ah n g (.sign i w):=by
 obtain ⟨a,M,b⟩:=h
 have e:ah n (ah n g (.swing w)) (.tie i w)=ah n (ah n g (.sign i w)) (.swing w):=funext fun p=>p6 hi hw hiw a b p
 rw [e]
 exact ss hw (St.done ⟨a,M,b⟩ n _)
theorem xc {i:Nat} (hi:i<n) (hiw:i≠w):ah n (ah n (ah n g (.swing w)) (.sign i w)) (.swing w)=ah n g (.tie i w):=by
 obtain ⟨a,M,b⟩:=St.done h n (.swing w)
 have e:ah n (ah n (ah n g (.swing w)) (.swing w)) (.tie i w)=ah n (ah n (ah n g (.swing w)) (.sign i w)) (.swing w):=funext fun p=>p6 hi hw hiw a b p
 rw [<- e,ss hw h]
end
end MA
namespace GN
open PySem L2 VL
noncomputable def gg (i:Nat):Stmt:=PySem.Challenge.pw_wavewires_k67_whole_short_circuits.main.body.getD i (.Pass ⟨0,0,0,0⟩)
abbrev eM:Stmt:=gg 6
abbrev js:List Str:=["joined","most"]
noncomputable def eP:Sf:=sSeq (sIf (ob (o2 (oV 0) (oC (.int 0)) aS)) (aX (oV 1)) (fj)) (aX (os (ae (oV 1) (ae (o2 (o1 (o2 (oV 0) (o1 (oV 0) negD) wR) kM) (oC (.int 1)) dX) (ap))) Be))
noncomputable def bL:List D->Option D:=runB js 2 eP
abbrev i9:Stmt:=gg 7
abbrev qO:List Str:=["a","b","c","d"]
noncomputable def mn:Sf:=aX (os (ae (o2 (oV 1) (oV 3) dX) (ae (o2 (oV 0) (oV 2) cQ) (ae (o2 (oV 1) (oV 3) cQ) (ae (o2 (oV 2) (oV 0) dX) (ap))))) bt)
noncomputable def da:List D->Option D:=runB qO 4 mn
abbrev gZ:Stmt:=gg 8
abbrev px:List Str:=["a","b","c","d","k","twos","doubled"]
noncomputable def kO:Sf:=sSeq (bc 5 (os (ae (o2 (o2 (o2 (oV 0) (oV 1) DS) (oV 2) DS) (oV 3) DS) (ae (o2 (oV 4) (oC (.int 2)) eK) (ap))) bL)) (sSeq (bc 0 (o2 (oV 0) (oV 5) pE)) (sSeq (bc 1 (o2 (oV 1) (oV 5) pE)) (sSeq (bc 2 (o2 (oV 2) (oV 5) pE)) (sSeq (bc 3 (o2 (oV 3) (oV 5) pE)) (sSeq (bc 4 (o2 (oV 4) (o2 (oC (.int 2)) (oV 5) Bc) dX)) (sSeq (sIf (vV (ob (o2 (oV 4) (oC (.int 0)) aS)) (vV (ob (o2 (o2 (o2 (oV 0) (oV 2) dX) (oC (.int 2)) bP) (oC (.int 1)) aS)) (ob (o2 (o2 (o2 (oV 1) (oV 3) dX) (oC (.int 2)) bP) (oC (.int 1)) aS)))) (aX (os (ae (oV 0) (ae (oV 1) (ae (oV 2) (ae (oV 3) (ae (oV 4) (ap)))))) bt)) (fj)) (sSeq (bc 6 (os (ae (oV 0) (ae (oV 1) (ae (oV 2) (ae (oV 3) (ap))))) da)) (aX (os (ae (o2 (o2 (oV 6) (oC (.int 0)) aE) (oC (.int 2)) eK) (ae (o2 (o2 (oV 6) (oC (.int 1)) aE) (oC (.int 2)) eK) (ae (o2 (o2 (oV 6) (oC (.int 2)) aE) (oC (.int 2)) eK) (ae (o2 (o2 (oV 6) (oC (.int 3)) aE) (oC (.int 2)) eK) (ae (o2 (oV 4) (oC (.int 1)) dX) (ap)))))) bt)))))))))
noncomputable def d7:List D->Option D:=runB px 5 kO
abbrev fA:Stmt:=gg 9
abbrev kU:List Str:=["x","k","more","twos","a","b","c","d"]
noncomputable def fK:Sf:=sSeq (bc 2 (o2 (oV 1) (o2 (oV 0) (oC (.int 4)) aE) dX)) (sSeq (bc 3 (o2 (oV 2) (oC (.int 2)) eK)) (sSeq (bc 4 (o2 (o2 (oV 0) (oC (.int 0)) aE) (oV 3) lA)) (sSeq (bc 5 (o2 (o2 (oV 0) (oC (.int 1)) aE) (oV 3) lA)) (sSeq (bc 6 (o2 (o2 (oV 0) (oC (.int 2)) aE) (oV 3) lA)) (sSeq (bc 7 (o2 (o2 (oV 0) (oC (.int 3)) aE) (oV 3) lA)) (sSeq (sIf (ob (o2 (o2 (oV 2) (oC (.int 2)) bP) (oC (.int 1)) aS)) (aX (os (ae (oV 4) (ae (oV 5) (ae (oV 6) (ae (oV 7) (ap))))) da)) (fj)) (aX (os (ae (oV 4) (ae (oV 5) (ae (oV 6) (ae (oV 7) (ap))))) bt))))))))
noncomputable def cj:List D->Option D:=runB kU 2 fK
abbrev rh:Stmt:=gg 10
abbrev Cv:List Str:=["x","y","k","s","t"]
noncomputable def wQ:Sf:=sSeq (bc 2 (os (ae (o2 (oV 0) (oC (.int 4)) aE) (ae (o2 (oV 1) (oC (.int 4)) aE) (ap))) rM)) (sSeq (bc 3 (os (ae (oV 0) (ae (oV 2) (ap))) cj)) (sSeq (bc 4 (os (ae (oV 1) (ae (oV 2) (ap))) cj)) (aX (os (ae (o2 (o2 (oV 3) (oC (.int 0)) aE) (o2 (oV 4) (oC (.int 0)) aE) cQ) (ae (o2 (o2 (oV 3) (oC (.int 1)) aE) (o2 (oV 4) (oC (.int 1)) aE) cQ) (ae (o2 (o2 (oV 3) (oC (.int 2)) aE) (o2 (oV 4) (oC (.int 2)) aE) cQ) (ae (o2 (o2 (oV 3) (oC (.int 3)) aE) (o2 (oV 4) (oC (.int 3)) aE) cQ) (ae (oV 2) (ap)))))) d7))))
noncomputable def gL:List D->Option D:=runB Cv 2 wQ
abbrev ja:Stmt:=gg 11
abbrev qP:List Str:=["x"]
noncomputable def mo:Sf:=aX (os (ae (o1 (o2 (oV 0) (oC (.int 0)) aE) negD) (ae (o1 (o2 (oV 0) (oC (.int 1)) aE) negD) (ae (o1 (o2 (oV 0) (oC (.int 2)) aE) negD) (ae (o1 (o2 (oV 0) (oC (.int 3)) aE) negD) (ae (o2 (oV 0) (oC (.int 4)) aE) (ap)))))) bt)
noncomputable def dL:List D->Option D:=runB qP 1 mo
abbrev j5:Stmt:=gg 12
abbrev vh:List Str:=["x","e","around"]
noncomputable def pd:Sf:=sSeq (bc 2 (os (ae (o2 (oV 0) (oC (.int 0)) aE) (ae (o2 (oV 0) (oC (.int 1)) aE) (ae (o2 (oV 0) (oC (.int 2)) aE) (ae (o2 (oV 0) (oC (.int 3)) aE) (ae (o1 (o2 (oV 0) (oC (.int 0)) aE) negD) (ae (o1 (o2 (oV 0) (oC (.int 1)) aE) negD) (ae (o1 (o2 (oV 0) (oC (.int 2)) aE) negD) (ae (o1 (o2 (oV 0) (oC (.int 3)) aE) negD) (ap))))))))) bt)) (aX (os (ae (o2 (oV 2) (o2 (o2 (oC (.int 0)) (oV 1) dX) (oC (.int 8)) bP) aE) (ae (o2 (oV 2) (o2 (o2 (oC (.int 1)) (oV 1) dX) (oC (.int 8)) bP) aE) (ae (o2 (oV 2) (o2 (o2 (oC (.int 2)) (oV 1) dX) (oC (.int 8)) bP) aE) (ae (o2 (oV 2) (o2 (o2 (oC (.int 3)) (oV 1) dX) (oC (.int 8)) bP) aE) (ae (o2 (oV 0) (oC (.int 4)) aE) (ap)))))) bt))
noncomputable def dn:List D->Option D:=runB vh 2 pd
abbrev j9:Stmt:=gg 13
abbrev vk:List Str:=["x"]
noncomputable def pg:Sf:=aX (os (ae (o2 (oV 0) (oC (.int 0)) aE) (ae (o2 (oV 0) (oC (.int 1)) aE) (ae (o2 (oV 0) (oC (.int 2)) aE) (ae (o2 (oV 0) (oC (.int 3)) aE) (ae (o2 (o2 (oV 0) (oC (.int 4)) aE) (oC (.int 1)) cQ) (ap)))))) d7)
noncomputable def dq:List D->Option D:=runB vk 1 pg
abbrev nh:Stmt:=gg 15
abbrev yf:List Str:=["wires","wire"]
noncomputable def sE:Sf:=aX (o2 (oC (.int 1)) (o2 (o2 (oV 0) (oC (.int 1)) dX) (oV 1) dX) lA)
noncomputable def dz:List D->Option D:=runB yf 2 sE
abbrev cX:Stmt:=gg 16
abbrev i3:List Str:=["wires","place"]
noncomputable def ki:Dv->Option D:=eR (oL (ae (o2 (oC (.int 1)) (oV 0) lA) (ap)) cY) [(1,"place")] sj (A5 (ob (o2 (oV 0) (oV 1) aS)) (oC (.tuple [.int 1,.int 0,.int 0,.int 0,.int 0])) (oC (.tuple [.int 0,.int 0,.int 0,.int 0,.int 0])))
noncomputable def iZ:Sf:=aX (os (ae (ki) (ap)) dS)
noncomputable def cm:List D->Option D:=runB i3 2 iZ
abbrev ni:Stmt:=gg 17
abbrev yg:List Str:=["state","bit","told","p"]
noncomputable def eU:Sf:=sIf (ob (o2 (o2 (oV 3) (oV 1) wR) (oC (.int 0)) aS)) (tK 2 (os (ae (os (ae (o2 (oV 0) (oV 3) aE) (ae (o2 (oV 0) (o2 (oV 3) (oV 1) zQ) aE) (ap))) gL) (ap)) dq)) (tK 2 (os (ae (os (ae (o2 (oV 0) (o2 (oV 3) (oV 1) zQ) aE) (ae (os (ae (o2 (oV 0) (oV 3) aE) (ap)) dL) (ap))) gL) (ap)) dq))
noncomputable def sF:Sf:=sSeq (vK 2 (ap)) (sSeq (tJ (oL (ae (os (ae (oV 0) (ap)) cB) (ap)) cY) (gN 3) (eU)) (fun δ=>(aX (os (ae (oV 2) (ap)) dS)) (dFz 2 δ)))
noncomputable def gA:List D->Option D:=runB yg 2 sF
abbrev cV:Stmt:=gg 18
abbrev f6:List Str:=["state","held","e"]
noncomputable def iE:Dv->Option D:=eR (oL (ae (os (ae (oV 0) (ap)) cB) (ap)) cY) [(0,"state"),(1,"held"),(2,"e")] sj (A5 (ob (o2 (o2 (oV 0) (oV 2) wR) (oV 2) aS)) (os (ae (o2 (oV 1) (oV 0) aE) (ae (oV 3) (ap))) dn) (o2 (oV 1) (oV 0) aE))
noncomputable def fX:Sf:=aX (os (ae (iE) (ap)) dS)
noncomputable def bz:List D->Option D:=runB f6 3 fX
abbrev cN:Stmt:=gg 19
abbrev fh:List Str:=["state","held","bit"]
noncomputable def g8:Dv->Option D:=eR (oL (ae (os (ae (oV 0) (ap)) cB) (ap)) cY) [(0,"state"),(1,"held"),(2,"bit")] sj (A5 (ob (o2 (o2 (oV 0) (oV 2) wR) (oV 2) aS)) (o2 (oV 1) (o2 (oV 0) (oV 3) zQ) aE) (o2 (oV 1) (oV 0) aE))
noncomputable def e9:Sf:=aX (os (ae (g8) (ap)) dS)
noncomputable def bn:List D->Option D:=runB fh 3 e9
abbrev gu:Stmt:=gg 20
abbrev mR:List Str:=["place","both"]
noncomputable def gF:Sf:=aX (A5 (ob (o2 (o2 (oV 0) (oV 1) wR) (os (ae (oC (.int 0)) (ae (oV 1) (ap))) bt) (fN false))) (oV 0) (o2 (oV 0) (oV 1) zQ))
noncomputable def cl:List D->Option D:=runB mR 2 gF
abbrev oi:Stmt:=gg 21
abbrev wW:List Str:=["state","row","wires","first","second"]
noncomputable def rn:Dv->Option D:=eR (oL (ae (os (ae (oV 0) (ap)) cB) (ap)) cY) [(0,"state"),(3,"first"),(4,"second")] sj (o2 (oV 1) (os (ae (oV 0) (ae (o2 (oV 2) (oV 3) DS) (ap))) cl) aE)
noncomputable def iY:Sf:=sSeq (bc 2 (o2 (o1 (os (ae (oV 0) (ap)) cB) kM) (oC (.int 1)) dX)) (sSeq (bc 3 (os (ae (oV 2) (ae (o2 (oV 1) (oC (.int 1)) aE) (ap))) dz)) (sSeq (sIf (ob (o2 (o2 (oV 1) (oC (.int 0)) aE) (oC (.str "swing")) aS)) (aX (os (ae (oV 0) (ae (oV 3) (ap))) gA)) (fj)) (sSeq (sIf (ob (o2 (o2 (oV 1) (oC (.int 0)) aE) (oC (.str "turn")) aS)) (aX (os (ae (oV 0) (ae (oV 3) (ae (o2 (oV 1) (oC (.int 2)) aE) (ap)))) bz)) (fj)) (sSeq (sIf (ob (o2 (o2 (oV 1) (oC (.int 0)) aE) (oC (.str "flip")) aS)) (aX (os (ae (oV 0) (ae (oC (.int 0)) (ae (oV 3) (ap)))) bn)) (fj)) (sSeq (bc 4 (os (ae (oV 2) (ae (o2 (oV 1) (oC (.int 2)) aE) (ap))) dz)) (sSeq (sIf (ob (o2 (o2 (oV 1) (oC (.int 0)) aE) (oC (.str "tie")) aS)) (aX (os (ae (oV 0) (ae (oV 3) (ae (oV 4) (ap)))) bn)) (fj)) (sSeq (sIf (ob (o2 (o2 (oV 1) (oC (.int 0)) aE) (oC (.str "sign")) aS)) (aX (os (ae (oV 0) (ae (o2 (oV 3) (oV 4) DS) (ae (oC (.int 4)) (ap)))) bz)) (fj)) (aX (os (ae (rn) (ap)) dS)))))))))
noncomputable def cT:List D->Option D:=runB wW 2 iY
abbrev hZ:Stmt:=gg 23
abbrev eL:List Str:=["row"]
noncomputable def bK (G:List D->Option D):Sf:=sSeq (sIf (ob (o2 (o2 (oV 0) (oC (.int 0)) aE) (oC (.str "where")) aS)) (aX (os (ae (o2 (oV 0) (oC (.int 2)) aE) (ap)) G)) (fj)) (sSeq (sIf (ob (o2 (o2 (oV 0) (oC (.int 0)) aE) (os (ae (oC (.str "tie")) (ae (oC (.str "sign")) (ae (oC (.str "cross")) (ap)))) bt) (fN false))) (aX (os (ae (os (ae (o2 (oV 0) (oC (.int 1)) aE) (ae (o2 (oV 0) (oC (.int 2)) aE) (ap))) Be) (ae (os (ae (o2 (oV 0) (oC (.int 1)) aE) (ae (o2 (oV 0) (oC (.int 2)) aE) (ap))) rM) (ap))) bt)) (fj)) (aX (os (ae (o2 (oV 0) (oC (.int 1)) aE) (ap)) bt)))
noncomputable def bY:Nat->List D->Option D
 | 0=>runB eL 1 (fun _=>none)
 | m+1=>runB eL 1 (bK (bY m))
noncomputable def bm:List D->Option D:=bY 8
abbrev gj:Stmt:=gg 32
abbrev mO:List Str:=["one","other"]
noncomputable def dO:Sf:=sSeq (sIf (ob (o2 (o2 (oV 0) (oC (.int 0)) aE) (os (ae (oC (.str "turn")) (ae (oC (.str "look")) (ap))) bt) (fN false))) (aX (oC (.bool false))) (fj)) (sSeq (sIf (ob (o2 (o2 (oV 0) (oC (.int 0)) aE) (os (ae (oC (.str "sign")) (ae (oC (.str "cross")) (ap))) bt) (fN false))) (aX (qk (o2 (o2 (oV 0) (oC (.int 0)) aE) (o2 (oV 1) (oC (.int 0)) aE) aS) (o2 (os (ae (oV 0) (ap)) bm) (os (ae (oV 1) (ap)) bm) aS))) (fj)) (aX (o2 (oV 0) (oV 1) aS)))
noncomputable def bM:List D->Option D:=runB mO 2 dO
abbrev h7:Stmt:=gg 30
abbrev pA:List Str:=["row","look","mark"]
noncomputable def fZ:Sf:=aX (qk (o2 (o2 (oV 0) (oC (.int 0)) aE) (oC (.str "where")) aS) (qk (o2 (o2 (oV 1) (oC (.int 0)) aE) (oC (.str "look")) aS) (o2 (o2 (oV 0) (oC (.int 1)) aE) (oV 2) aS)))
noncomputable def bS:List D->Option D:=runB pA 3 fZ
abbrev nj:Stmt:=gg 28
abbrev yh:List Str:=["row","wire"]
noncomputable def eh:Sf:=sSeq (sIf (ob (o2 (o2 (oV 0) (oC (.int 0)) aE) (os (ae (oC (.str "swing")) (ae (oC (.str "cross")) (ap))) bt) (fN false))) (aX (oC .none)) (fj)) (aX (J8 (o2 (o2 (oV 0) (oC (.int 0)) aE) (oC (.str "flip")) aS) (qk (o2 (o2 (oV 0) (oC (.int 0)) aE) (oC (.str "tie")) aS) (o2 (o2 (oV 0) (oC (.int 2)) aE) (oV 1) aS))))
noncomputable def ck:List D->Option D:=runB yh 2 eh
abbrev fC:Stmt:=gg 29
abbrev kX:List Str:=["one","other","wire","first"]
noncomputable def fL:Sf:=sSeq (bc 3 (os (ae (oV 0) (ae (oV 2) (ap))) ck)) (aX (qk (o2 (oV 3) (oC .none) kz) (o2 (oV 3) (os (ae (oV 1) (ae (oV 2) (ap))) ck) aS)))
noncomputable def bT:List D->Option D:=runB kX 3 fL
abbrev gr:Stmt:=gg 27
abbrev mQ:List Str:=["row"]
noncomputable def dP:Sf:=aX (A5 (ob (o2 (o2 (oV 0) (oC (.int 0)) aE) (oC (.str "where")) aS)) (o2 (oV 0) (oC (.int 2)) aE) (oV 0))
noncomputable def bG:List D->Option D:=runB mQ 1 dP
abbrev dH:Stmt:=gg 31
abbrev jk:List Str:=["one","other","mark","shared"]
noncomputable def jD:Dv->Option D:=ij (oI (os (ae (oV 0) (ap)) bm) fG) [(1,"other")] sj (ob (o2 (oV 0) (os (ae (oV 1) (ap)) bm) (fN false))) (oV 0)
noncomputable def jC:Dv->Option D:=eR (oI (oV 3) fG) [(0,"one"),(1,"other")] sj (os (ae (os (ae (oV 1) (ap)) bG) (ae (os (ae (oV 2) (ap)) bG) (ae (oV 0) (ap)))) bT)
noncomputable def mj:Sf:=sSeq (sIf (gh (ob (o2 (o2 (oV 0) (oC (.int 0)) aE) (oC (.str "look")) aS)) (ob (o2 (o2 (oV 1) (oC (.int 0)) aE) (oC (.str "look")) aS))) (aX (oC (.bool false))) (fj)) (sSeq (sIf (vV (ob (os (ae (oV 0) (ae (oV 1) (ae (oV 2) (ap)))) bS)) (ob (os (ae (oV 1) (ae (oV 0) (ae (oV 2) (ap)))) bS))) (aX (oC (.bool false))) (fj)) (sSeq (bc 3 (jD)) (aX (os (ae (jC) (ap)) zL))))
noncomputable def cS:List D->Option D:=runB jk 3 mj
abbrev dy:Stmt:=gg 33
abbrev iG:List Str:=["rows","p","steps","q"]
noncomputable def bW:Sf:=sSeq (sIf (ob (os (ae (o2 (oV 0) (oV 1) aE) (ae (o2 (oV 0) (oV 3) aE) (ap))) bM)) (tK 2 (os (ae (oC (.str "gone")) (ae (oV 1) (ae (oV 3) (ap)))) bt)) (fj)) (sSeq (sIf (gh (ob (o2 (o2 (o2 (oV 0) (oV 1) aE) (oC (.int 0)) aE) (oC (.str "turn")) aS)) (ob (o2 (Hm (o2 (oV 0) (oV 1) aE) (IP) (oP (oC (.int 2)))) (Hm (o2 (oV 0) (oV 3) aE) (IP) (oP (oC (.int 2)))) aS))) (tK 2 (os (ae (oC (.str "joined")) (ae (oV 1) (ae (oV 3) (ap)))) bt)) (fj)) (sIf (yV (ob (os (ae (o2 (oV 0) (oV 1) aE) (ae (o2 (oV 0) (oV 3) aE) (ap))) (fun as=>cS (as++[.none]))))) (fun δ=>(aX (oV 2)) (dFz 2 δ)) (fj)))
noncomputable def dB:Sf:=sSeq (vK 2 (ap)) (sSeq (tJ (oL (ae (o2 (oV 1) (oC (.int 1)) cQ) (ae (os (ae (oV 0) (ap)) cB) (ap))) kb) (gN 3) (bW)) (fun δ=>(aX (oV 2)) (dFz 2 δ)))
noncomputable def bA:List D->Option D:=runB iG 2 dB
abbrev gk:Stmt:=gg 34
abbrev bO:List Str:=["row","wire"]
noncomputable def aM (G:List D->Option D):Sf:=sSeq (sIf (ob (o2 (o2 (oV 0) (oC (.int 0)) aE) (oC (.str "where")) aS)) (aX (os (ae (oC (.str "where")) (ae (o2 (oV 0) (oC (.int 1)) aE) (ae (os (ae (o2 (oV 0) (oC (.int 2)) aE) (ae (oV 1) (ap))) G) (ap)))) bt)) (fj)) (sSeq (sIf (ob (o2 (oV 0) (os (ae (oC (.str "flip")) (ae (oV 1) (ap))) bt) aS)) (aX (os (ae (oC (.str "turn")) (ae (oV 1) (ae (oC (.int 4)) (ap)))) bt)) (fj)) (sSeq (sIf (ob (o2 (oV 0) (os (ae (oC (.str "turn")) (ae (oV 1) (ae (oC (.int 4)) (ap)))) bt) aS)) (aX (os (ae (oC (.str "flip")) (ae (oV 1) (ap))) bt)) (fj)) (sSeq (sIf (gh (ob (o2 (o2 (oV 0) (oC (.int 0)) aE) (oC (.str "tie")) aS)) (ob (o2 (o2 (oV 0) (oC (.int 2)) aE) (oV 1) aS))) (aX (os (ae (oC (.str "sign")) (ae (o2 (oV 0) (oC (.int 1)) aE) (ae (oV 1) (ap)))) bt)) (fj)) (sSeq (sIf (ob (o2 (o2 (oV 0) (oC (.int 0)) aE) (oC (.str "sign")) aS)) (aX (os (ae (oC (.str "tie")) (ae (A5 (ob (o2 (o2 (oV 0) (oC (.int 1)) aE) (oV 1) aS)) (o2 (oV 0) (oC (.int 2)) aE) (o2 (oV 0) (oC (.int 1)) aE)) (ae (oV 1) (ap)))) bt)) (fj)) (aX (oC .none))))))
noncomputable def bb:Nat->List D->Option D
 | 0=>runB bO 2 (fun _=>none)
 | m+1=>runB bO 2 (aM (bb m))
noncomputable def cE:List D->Option D:=bb 8
abbrev ce:Stmt:=gg 35
abbrev ez:List Str:=["rows","p","wire","at"]
noncomputable def cI:Dv->Option D:=ij (oL (ae (o2 (oV 1) (oC (.int 1)) cQ) (ae (os (ae (oV 0) (ap)) cB) (ap))) kb) [(0,"rows"),(2,"wire")] sj (ob (o2 (oV 2) (os (ae (o2 (oV 1) (oV 0) aE) (ap)) bm) (fN false))) (oV 0)
noncomputable def bQ:Sf:=sSeq (sIf (ob (o2 (o2 (o2 (oV 0) (oV 1) aE) (oC (.int 0)) aE) (oC (.str "swing")) neD)) (aX (os (ap) hE)) (fj)) (sSeq (bc 2 (o2 (o2 (oV 0) (oV 1) aE) (oC (.int 1)) aE)) (sSeq (bc 3 (Hm (cI) (IP) (oP (oC (.int 2))))) (sSeq (sIf (gh (ob (o2 (os (ae (oV 3) (ap)) cB) (oC (.int 2)) aS)) (gh (ob (o2 (o2 (oV 0) (o2 (oV 3) (oC (.int 1)) aE) aE) (o2 (oV 0) (oV 1) aE) aS)) (ob (o2 (os (ae (o2 (oV 0) (o2 (oV 3) (oC (.int 0)) aE) aE) (ae (oV 2) (ap))) cE) (oC .none) kz)))) (aX (os (ae (os (ae (oC (.str "swung")) (ae (oV 1) (ae (o2 (oV 3) (oC (.int 0)) aE) (ae (o2 (oV 3) (oC (.int 1)) aE) (ap))))) bt) (ap)) hE)) (fj)) (aX (os (ap) hE)))))
noncomputable def aJ:List D->Option D:=runB ez 2 bQ
abbrev gm:Stmt:=gg 36
abbrev N_slides_of:List Str:=["circuit","rows","steps","p"]
noncomputable def d0:Sf:=sSeq (xl 2 (os (ae (oV 1) (ae (oV 3) (ap))) bA)) (xl 2 (os (ae (oV 1) (ae (oV 3) (ap))) aJ))
noncomputable def iV:Sf:=sSeq (bc 1 (o2 (oV 0) (oC (.int 1)) aE)) (sSeq (vK 2 (ap)) (sSeq (tJ (oL (ae (os (ae (oV 1) (ap)) cB) (ap)) cY) (gN 3) (d0)) (fun δ=>(aX (o1 (oV 2) iD)) (dFz 2 δ))))
noncomputable def aO:List D->Option D:=runB N_slides_of 1 iV
abbrev j8:Stmt:=gg 37
abbrev vj:List Str:=["one","other","e"]
noncomputable def kP:Sf:=sSeq (bc 2 (o2 (o2 (o2 (oV 0) (oC (.int 2)) aE) (o2 (oV 1) (oC (.int 2)) aE) cQ) (oC (.int 8)) bP)) (aX (A5 (ob (o2 (oV 2) (oC (.int 0)) aS)) (oC .none) (os (ae (oC (.str "turn")) (ae (o2 (oV 0) (oC (.int 1)) aE) (ae (oV 2) (ap)))) bt)))
noncomputable def d8:List D->Option D:=runB vj 2 kP
abbrev fB:Stmt:=gg 38
abbrev kW:List Str:=["rows","step"]
noncomputable def en:Sf:=sSeq (sIf (ob (o2 (o2 (oV 1) (oC (.int 0)) aE) (oC (.str "gone")) aS)) (aX (os (ae (o2 (oV 1) (oC (.int 1)) aE) (ae (oC .none) (ae (o2 (oV 1) (oC (.int 2)) aE) (ae (oC .none) (ap))))) se)) (fj)) (sSeq (sIf (ob (o2 (o2 (oV 1) (oC (.int 0)) aE) (oC (.str "joined")) aS)) (aX (os (ae (o2 (oV 1) (oC (.int 1)) aE) (ae (oC .none) (ae (o2 (oV 1) (oC (.int 2)) aE) (ae (os (ae (o2 (oV 0) (o2 (oV 1) (oC (.int 1)) aE) aE) (ae (o2 (oV 0) (o2 (oV 1) (oC (.int 2)) aE) aE) (ap))) d8) (ap))))) se)) (fj)) (aX (os (ae (o2 (oV 1) (oC (.int 1)) aE) (ae (oC .none) (ae (o2 (oV 1) (oC (.int 2)) aE) (ae (os (ae (o2 (oV 0) (o2 (oV 1) (oC (.int 2)) aE) aE) (ae (o2 (o2 (oV 0) (o2 (oV 1) (oC (.int 1)) aE) aE) (oC (.int 1)) aE) (ap))) cE) (ae (o2 (oV 1) (oC (.int 3)) aE) (ae (oC .none) (ap))))))) se)))
noncomputable def bB:List D->Option D:=runB kW 2 en
abbrev lC:Stmt:=gg 39
abbrev N_slid:List Str:=["circuit","step","changes","rows"]
noncomputable def rm:Dv->Option D:=eR (oL (ae (os (ae (o2 (oV 0) (oC (.int 1)) aE) (ap)) cB) (ap)) cY) [(0,"circuit"),(2,"changes")] sj (os (ae (oV 2) (ae (oV 0) (ae (o2 (o2 (oV 1) (oC (.int 1)) aE) (oV 0) aE) ap))) qB)
noncomputable def rl:Dv->Option D:=ij (oI (oV 3) fG) [] sj (ob (o2 (oV 0) (oC .none) kz)) (oV 0)
noncomputable def wP:Sf:=sSeq (sIf (ob (o2 (oV 1) (os (ae (oV 0) (ap)) aO) (KK true))) (NM) (fj)) (sSeq (bc 2 (os (ae (o2 (oV 0) (oC (.int 1)) aE) (ae (oV 1) (ap))) bB)) (sSeq (bc 3 (rm)) (aX (os (ae (o2 (oV 0) (oC (.int 0)) aE) (ae (os (ae (rl) (ap)) dS) (ap))) bt))))
noncomputable def io:List D->Option D:=runB N_slid 2 wP
abbrev j6:Stmt:=gg 25
abbrev vi:List Str:=["thing","steps_for","behind_step","chain","steps"]
noncomputable def gW:Dv->Option Bool:=ob (o2 (oV 4) (os (ap) hE) neD)
noncomputable def hG:Sf:=sSeq (tK 3 (o2 (oV 4) (oC (.int 0)) aE)) (sSeq (bc 0 (dE 2 (ae (oV 0) (ae (o2 (oV 4) (oC (.int 0)) aE) (ap))) (("slid",io)::[]))) (bc 4 (dE 1 (ae (oV 0) (ap)) (("slides_of",aO)::[]))))
noncomputable def pf:Sf:=sSeq (vK 3 (ap)) (sSeq (bc 4 (dE 1 (ae (oV 0) (ap)) (("slides_of",aO)::[]))) (sSeq (fun δ=>gS (gW) (hG) wN δ) (fun δ=>(aX (os (ae (oV 3) (ae (oV 0) (ap))) bt)) (dFz 3 δ))))
noncomputable def hJ:List D->Option D:=runB vi 3 pf
abbrev gn:Stmt:=gg 41
abbrev mP:List Str:=["circuit"]
noncomputable def iW:Sf:=aX (os (ae (oV 0) (ae (oC (dR "slides_of")) (ae (oC (dR "slid")) (ap)))) hJ)
noncomputable def cF:List D->Option D:=runB mP 1 iW
abbrev g6:Stmt:=gg 43
abbrev mr:List Str:=["state","bit","mark","found"]
noncomputable def jE:Dv->Option D:=eR (oL (ae (os (ae (oV 0) (ap)) cB) (ap)) cY) [(0,"state"),(1,"bit"),(3,"found")] sj (A5 (ob (o2 (o2 (oV 0) (oV 2) wR) (oV 3) aS)) (o2 (oV 1) (oV 0) aE) (oC (.tuple [.int 0,.int 0,.int 0,.int 0,.int 0])))
noncomputable def jj:Sf:=sSeq (bc 3 (A5 (ob (o2 (oV 2) (oC (.int 1)) aS)) (oV 1) (oC (.int 0)))) (aX (os (ae (jE) (ap)) dS))
noncomputable def cC:List D->Option D:=runB mr 3 jj
abbrev eQ:Stmt:=gg 44
abbrev i0:List Str:=["state"]
noncomputable def kh:Dv->Option D:=eR (oI (oV 0) fG) [] sj (o2 (oV 0) (oC (.tuple [.int 0,.int 0,.int 0,.int 0,.int 0])) aS)
noncomputable def iX:Sf:=aX (os (ae (kh) (ap)) zL)
noncomputable def dJ:List D->Option D:=runB i0 1 iX
abbrev gY:Stmt:=gg 45
abbrev N_parted:List Str:=["branch","wire","bit","pairs"]
noncomputable def qh:Dv->Option D:=eR (oI (os (ae (oC (.int 0)) (ae (oC (.int 1)) (ap))) bt) fG) [(0,"branch"),(2,"bit")] sj (os (ae (o2 (o2 (oV 1) (oC (.int 0)) aE) (os (ae (oV 0) (ap)) bt) cQ) (ae (os (ae (o2 (oV 1) (oC (.int 1)) aE) (ae (oV 2) (ae (oV 0) (ap)))) cC) (ap))) bt)
noncomputable def qg:Dv->Option D:=ij (oI (oV 3) fG) [] sj (yV (ob (os (ae (o2 (oV 0) (oC (.int 1)) aE) (ap)) dJ))) (oV 0)
noncomputable def pe:Sf:=sSeq (bc 2 (os (ae (o2 (o1 (os (ae (o2 (oV 0) (oC (.int 1)) aE) (ap)) cB) kM) (oC (.int 1)) dX) (ae (oV 1) (ap))) dz)) (sSeq (bc 3 (qh)) (aX (qg)))
noncomputable def d6:List D->Option D:=runB N_parted 2 pe
abbrev i8:Stmt:=gg 46
abbrev N_gone_on:List Str:=["branch","row"]
noncomputable def mm:Sf:=aX (os (ae (o2 (oV 0) (oC (.int 0)) aE) (ae (os (ae (o2 (oV 0) (oC (.int 1)) aE) (ae (oV 1) (ap))) cT) (ap))) bt)
noncomputable def cb:List D->Option D:=runB N_gone_on 2 mm
abbrev eN:Stmt:=gg 47
abbrev jt:List Str:=["branch","row","go"]
noncomputable def du:Sf:=sSeq (sIf (ob (o2 (o2 (oV 1) (oC (.int 0)) aE) (oC (.str "where")) neD)) (aX (dE 2 (ae (oV 0) (ae (oV 1) (ap))) (("gone_on",cb)::[]))) (fj)) (aX (A5 (ob (o2 (o2 (o2 (oV 0) (oC (.int 0)) aE) (o2 (oV 1) (oC (.int 1)) aE) aE) (oC (.int 1)) aS)) (dE 2 (ae (oV 0) (ae (o2 (oV 1) (oC (.int 2)) aE) (ap))) (("gone_on",cb)::[])) (oV 0)))
noncomputable def bD:List D->Option D:=runB jt 3 du
abbrev cW:Stmt:=gg 48
abbrev f7:List Str:=["rows","begun","part","go","told","row","further","branch"]
noncomputable def eX:Dv->Option D:=eR (oI (oV 4) fG) [(3,"go"),(5,"row")] sj (os (ae (oV 0) (ae (oV 2) (ae (oV 1) (ap)))) bD)
noncomputable def cP:Sf:=xl 6 (dE 2 (ae (oV 7) (ae (o2 (oV 5) (oC (.int 1)) aE) (ap))) (("parted",d6)::[]))
noncomputable def bR:Sf:=sIf (ob (o2 (o2 (oV 5) (oC (.int 0)) aE) (oC (.str "look")) aS)) (sSeq (vK 6 (ap)) (sSeq (tJ (oI (oV 4) fG) (gN 7) (cP)) (fun δ=>(bc 4 (oV 6)) (dFz 6 δ)))) (bc 4 (eX))
noncomputable def fY:Sf:=sSeq (bc 4 (os (ae (oV 1) (ap)) hE)) (sSeq (tJ (oI (oV 0) fG) (gN 5) (bR)) (aX (oV 4)))
noncomputable def b5:List D->Option D:=runB f7 4 fY
abbrev eF:Stmt:=gg 49
abbrev pz:List Str:=["circuit","place"]
noncomputable def jM:Sf:=aX (os (ae (o2 (oV 0) (oC (.int 1)) aE) (ae (os (ae (os (ap) bt) (ae (os (ae (o2 (oV 0) (oC (.int 0)) aE) (ae (oV 1) (ap))) cm) (ap))) bt) (ae (oC (dR "parted")) (ae (oC (dR "gone_on")) (ap))))) b5)
noncomputable def b6:List D->Option D:=runB pz 2 jM
abbrev gw:Stmt:=gg 51
abbrev mT:List Str:=["script","k"]
noncomputable def gH:Sf:=sSeq (sIf (ob (o2 (oV 1) (os (ae (oV 0) (ap)) cB) vm)) (aX (o2 (oV 0) (oV 1) aE)) (fj)) (aX (oC (.int 0)))
noncomputable def bN:List D->Option D:=runB mT 2 gH
abbrev gv:Stmt:=gg 52
abbrev mS:List Str:=["cell","prime","near"]
noncomputable def gG:Sf:=sSeq (bc 2 (o2 (oV 0) (oC (.int 1000003)) bP)) (aX (o2 (o2 (o2 (oV 2) (oC (.int 11)) cQ) (o2 (oV 2) (oC (.int 48271)) cQ) Bc) (oV 1) bP))
noncomputable def bC:List D->Option D:=runB mS 2 gG
abbrev ic:Stmt:=gg 53
abbrev pB:List Str:=["cell","wires","looks","plain","seed","j","i"]
noncomputable def b8:Sf:=sSeq (bc 4 (o2 (os (ae (oV 0) (ae (oC (.int 2147483647)) (ap))) bC) (oC (.int 7)) eK)) (sSeq (bc 5 (o2 (o2 (oV 4) (oC (.int 16)) eK) (oV 1) bP)) (sSeq (bc 6 (o2 (o2 (o2 (oV 5) (oC (.int 1)) cQ) (o2 (o2 (oV 4) (oC (.int 96)) eK) (os (ae (oC (.int 1)) (ae (o2 (oV 1) (oC (.int 1)) dX) (ap))) rM) bP) cQ) (oV 1) bP)) (sSeq (sIf (ob (o2 (o2 (oV 0) (oC (.int 16)) bP) (oC (.int 4)) vm)) (aX (os (ae (oC (.str "swing")) (ae (oV 5) (ap))) bt)) (fj)) (sSeq (sIf (ob (o2 (o2 (oV 0) (oC (.int 16)) bP) (oC (.int 7)) vm)) (aX (os (ae (oC (.str "turn")) (ae (oV 5) (ae (o2 (oC (.int 1)) (o2 (o2 (oV 4) (oC (.int 600)) eK) (oC (.int 7)) bP) cQ) (ap)))) bt)) (fj)) (sSeq (sIf (gh (ob (yW (oC (.int 7)) (o2 (oV 0) (oC (.int 16)) bP) (oC (.int 13)) vm vm)) (ob (o2 (oV 1) (oC (.int 1)) KO))) (aX (os (ae (o2 (os (ae (oC (.str "tie")) (ae (oC (.str "sign")) (ae (oC (.str "cross")) (ae (oC (.str "tie")) (ae (oC (.str "sign")) (ap)))))) hE) (o2 (o2 (oV 0) (oC (.int 16)) bP) (oC (.int 8)) dX) aE) (ae (oV 6) (ae (oV 5) (ap)))) bt)) (fj)) (sSeq (sIf (vV (ob (o2 (o2 (oV 0) (oC (.int 16)) bP) (oC (.int 7)) aS)) (ob (oV 3))) (aX (os (ae (oC (.str "flip")) (ae (oV 5) (ap))) bt)) (fj)) (sSeq (sIf (gh (ob (o2 (oV 2) (oC (.int 6)) vm)) (vV (ob (o2 (o2 (oV 0) (oC (.int 16)) bP) (oC (.int 14)) vm)) (ob (o2 (oV 2) (oC (.int 0)) aS)))) (aX (os (ae (oC (.str "look")) (ae (oV 5) (ap))) bt)) (fj)) (sSeq (sIf (ob (o2 (oV 2) (oC (.int 0)) aS)) (aX (os (ae (oC (.str "swing")) (ae (oV 5) (ap))) bt)) (fj)) (aX (os (ae (oC (.str "where")) (ae (o2 (o2 (oV 4) (oC (.int 4200)) eK) (oV 2) bP) (ae (o2 (os (ae (os (ae (oC (.str "flip")) (ae (oV 5) (ap))) bt) (ae (os (ae (oC (.str "turn")) (ae (oV 5) (ae (oC (.int 4)) (ap)))) bt) (ap))) hE) (o2 (o2 (oV 4) (oC (.int 29400)) eK) (oC (.int 2)) bP) aE) (ap)))) bt))))))))))
noncomputable def aL:List D->Option D:=runB pB 4 b8
abbrev fE:Stmt:=gg 55
abbrev kZ:List Str:=["cells","wires","rows","looks","cell","row","seed"]
noncomputable def dl:Sf:=sSeq (bc 5 (os (ae (oV 4) (ae (oV 1) (ae (oV 3) (ae (oC (.bool false)) (ap))))) aL)) (sSeq (bc 6 (o2 (os (ae (o2 (oV 4) (oC (.int 5)) eK) (ae (oC (.int 86028121)) (ap))) bC) (oC (.int 7)) eK)) (sSeq (sIf (jo 2 (gh (ob (o2 (o2 (oV 4) (oC (.int 5)) bP) (oC (.int 2)) vm)) (gh (ob (o2 (oV 2) (os (ap) hE) neD)) (ob (o2 (o2 (o2 (oV 2) (o2 (oV 6) (os (ae (oV 2) (ap)) cB) bP) aE) (oC (.int 0)) aE) (oC (.str "look")) neD))))) (sSeq (bc 5 (Hn 2 (o2 (oV 6) (A4 2) bP))) (sIf (gh (ob (o2 (o2 (oV 5) (oC (.int 0)) aE) (os (ae (oC (.str "sign")) (ae (oC (.str "cross")) (ap))) bt) (fN false))) (ob (o2 (o2 (o2 (oV 6) (oC (.int 64)) eK) (oC (.int 2)) bP) (oC (.int 1)) aS))) (bc 5 (os (ae (o2 (oV 5) (oC (.int 0)) aE) (ae (o2 (oV 5) (oC (.int 2)) aE) (ae (o2 (oV 5) (oC (.int 1)) aE) (ap)))) bt)) (fj))) (fj)) (sSeq (sIf (gh (ob (o2 (o2 (oV 5) (oC (.int 0)) aE) (oC (.str "look")) aS)) (ob (o2 (oV 3) (oC (.int 3)) aS))) (bc 5 (os (ae (oC (.str "swing")) (ae (o2 (oV 5) (oC (.int 1)) aE) (ap))) bt)) (fj)) (sSeq (bc 3 (o2 (oV 3) (os (ae (o2 (o2 (oV 5) (oC (.int 0)) aE) (oC (.str "look")) aS) (ap)) BE) cQ)) (tK 2 (oV 5))))))
noncomputable def iA:Sf:=sSeq (vK 2 (ap)) (sSeq (bc 3 (oC (.int 0))) (sSeq (tJ (oI (oV 0) fG) (gN 4) (dl)) (fun δ=>(aX (os (ae (oV 1) (ae (os (ae (oV 2) (ap)) dS) (ap))) bt)) (dFz 2 δ))))
noncomputable def cK:List D->Option D:=runB kZ 2 iA
abbrev ie:Stmt:=gg 56
abbrev pC:List Str:=["circuit","cell","wires","row","back","at"]
noncomputable def iz:Sf:=sSeq (bc 2 (o2 (oV 0) (oC (.int 0)) aE)) (sSeq (bc 3 (os (ae (oV 1) (ae (oV 2) (ae (oC (.int 0)) (ae (oC (.bool true)) (ap))))) aL)) (sSeq (bc 4 (oV 3)) (sSeq (sIf (ob (o2 (o2 (oV 3) (oC (.int 0)) aE) (oC (.str "turn")) aS)) (bc 4 (os (ae (oC (.str "turn")) (ae (o2 (oV 3) (oC (.int 1)) aE) (ae (o2 (oC (.int 8)) (o2 (oV 3) (oC (.int 2)) aE) dX) (ap)))) bt)) (fj)) (sSeq (bc 5 (o2 (o2 (oV 1) (oC (.int 3)) eK) (o2 (os (ae (o2 (oV 0) (oC (.int 1)) aE) (ap)) cB) (oC (.int 1)) cQ) bP)) (aX (os (ae (oV 2) (ae (o2 (o2 (Hm (o2 (oV 0) (oC (.int 1)) aE) (IP) (oP (oV 5))) (os (ae (oV 3) (ae (oV 4) (ap))) bt) cQ) (Hm (o2 (oV 0) (oC (.int 1)) aE) (oP (oV 5)) (IP)) cQ) (ap))) bt))))))
noncomputable def cJ:List D->Option D:=runB pC 2 iz
abbrev fD:Stmt:=gg 57
abbrev kY:List Str:=["circuit","longer","place","found","places","at"]
noncomputable def dj:Sf:=sIf (ob (o2 (os (ae (oV 3) (ae (oV 5) (ap))) b6) (os (ae (oV 0) (ae (oV 5) (ap))) b6) neD)) (aX (oC (.bool false))) (fj)
noncomputable def fM:Sf:=sSeq (bc 3 (o2 (os (ae (oV 1) (ap)) cF) (oC (.int 1)) aE)) (sSeq (sIf (vV (ob (o2 (o2 (oV 3) (oC (.int 0)) aE) (o2 (oV 0) (oC (.int 0)) aE) neD)) (vV (ob (o2 (os (ae (o2 (oV 3) (oC (.int 1)) aE) (ap)) cB) (os (ae (o2 (oV 1) (oC (.int 1)) aE) (ap)) cB) KO)) (ob (o2 (os (ae (oV 3) (ap)) aO) (os (ap) hE) neD)))) (aX (oC (.bool false))) (fj)) (sSeq (bc 4 (o1 (o2 (oC (.int 1)) (o2 (oV 0) (oC (.int 0)) aE) lA) xH)) (sSeq (sIf (ob (o2 (o2 (oV 0) (oC (.int 0)) aE) (oC (.int 3)) aS)) (bc 4 (os (ae (oC (.int 0)) (ae (oV 2) (ae (o2 (oC (.int 7)) (oV 2) dX) (ap)))) hE)) (fj)) (sSeq (tJ (oI (oV 4) fG) (gN 5) (dj)) (aX (oC (.bool true)))))))
noncomputable def bE:List D->Option D:=runB kY 3 fM
abbrev j7:Stmt:=gg 58
abbrev Gu:List Str:=["script","circuit","place"]
noncomputable def Co:Sf:=sSeq (bc 1 (os (ae (Hm (oV 0) (oP (oC (.int 2))) (oP (oC (.int 12)))) (ae (o2 (oC (.int 1)) (o2 (os (ae (oV 0) (ae (oC (.int 0)) (ap))) bN) (oC (.int 3)) bP) cQ) (ap))) cK)) (sSeq (bc 2 (o2 (o2 (os (ae (oV 0) (ae (oC (.int 0)) (ap))) bN) (oC (.int 3)) eK) (oC (.int 8)) bP)) (sSeq (sIf (yV (ob (os (ae (oV 1) (ae (oV 1) (ae (oV 2) (ap)))) bE))) (aX (oC (.bool false))) (fj)) (aX (os (ae (oV 1) (ae (os (ae (oV 1) (ae (os (ae (oV 0) (ae (oC (.int 1)) (ap))) bN) (ap))) cJ) (ae (oV 2) (ap)))) bE))))
noncomputable def uN:List D->Option D:=runB Gu 1 Co
theorem Da (j m:Int):bL [.int j,.int m]=some (.int (MA.vq j m)):=by
 by_cases h:j=0
 ·subst h
  simp [bL,runB,eP,ak,MA.vq]
 ·simp [bL,runB,eP,ak,MA.vq,h]
theorem xo (a b c d:Int):da [.int a,.int b,.int c,.int d]=some (.tuple [.int (b-d),.int (a+c),.int (b+d),.int (c-a)]):=by
 simp [da,runB,mn,ak]
noncomputable def tup5 (x:MA.Q4) (k:Int):D:=.tuple [.int x.a,.int x.b,.int x.c,.int x.d,.int k]
noncomputable def Hw:Sf:=bc 5 (VL.os (ae (o2 (o2 (o2 (oV 0) (oV 1) DS) (oV 2) DS) (oV 3) DS) (ae (o2 (oV 4) (oC (.int 2)) eK) (ap))) bL)
noncomputable def Hv:Sf:=bc 0 (o2 (oV 0) (oV 5) pE)
noncomputable def Hu:Sf:=bc 1 (o2 (oV 1) (oV 5) pE)
noncomputable def Ht:Sf:=bc 2 (o2 (oV 2) (oV 5) pE)
noncomputable def Hr:Sf:=bc 3 (o2 (oV 3) (oV 5) pE)
noncomputable def Hq:Sf:=bc 4 (o2 (oV 4) (o2 (oC (.int 2)) (oV 5) Bc) dX)
noncomputable def Ee:Sf:=sIf (vV (ob (o2 (oV 4) (oC (.int 0)) aS)) (vV (ob (o2 (o2 (o2 (oV 0) (oV 2) dX) (oC (.int 2)) bP) (oC (.int 1)) aS)) (ob (o2 (o2 (o2 (oV 1) (oV 3) dX) (oC (.int 2)) bP) (oC (.int 1)) aS)))) (aX (VL.os (ae (oV 0) (ae (oV 1) (ae (oV 2) (ae (oV 3) (ae (oV 4) (ap)))))) bt)) (fj)
noncomputable def Ed:Sf:=bc 6 (VL.os (ae (oV 0) (ae (oV 1) (ae (oV 2) (ae (oV 3) (ap))))) da)
noncomputable def Ec:Sf:=aX (VL.os (ae (o2 (o2 (oV 6) (oC (.int 0)) aE) (oC (.int 2)) eK) (ae (o2 (o2 (oV 6) (oC (.int 1)) aE) (oC (.int 2)) eK) (ae (o2 (o2 (oV 6) (oC (.int 2)) aE) (oC (.int 2)) eK) (ae (o2 (o2 (oV 6) (oC (.int 3)) aE) (oC (.int 2)) eK) (ae (o2 (oV 4) (oC (.int 1)) dX) (ap)))))) bt)
theorem yX:kO=sSeq Hw (sSeq Hv (sSeq Hu (sSeq Ht (sSeq Hr (sSeq Hq (sSeq Ee (sSeq Ed (Ec)))))))):=rfl
theorem ua {s t:Sf} {δ δ':Dv} (h:s δ = some (.nx,δ')):sSeq s t δ = t δ':=by simp only [sSeq,h,Option.bind_some]
theorem ME {s t:Sf} {δ δ':Dv} {d:D} (h:s δ = some (.rt d,δ')):sSeq s t δ = some (.rt d,δ'):=by simp only [sSeq,h,Option.bind_some]
theorem Kg {N:List Str} {n:Nat} {b:Sf} {as:List D} {d:D} {δ':Dv} (hl:as.length=n) (h:b (ak N as)=some (.rt d,δ')):runB N n b as=some d:=by unfold runB; rw [if_pos hl,h]; rfl
theorem OH {a b c d k t:Int} (h:bL [.int (Builtin.bitOr (Builtin.bitOr (Builtin.bitOr a b) c) d),.int (k / 2)]=some (.int t)):Hw [.fz (.int a),.fz (.int b),.fz (.int c),.fz (.int d),.fz (.int k),.un,.un]=some (.nx,[.fz (.int a),.fz (.int b),.fz (.int c),.fz (.int d),.fz (.int k),.fz (.int t),.un]):=by simp [Hw,h]
theorem OG (a:Int) (t:Nat) (x1 x2 x3 x4 x6:Sl):Hv [.fz (.int a),x1,x2,x3,x4,.fz (.int t),x6]=some (.nx,[.fz (.int (a / 2 ^ t)),x1,x2,x3,x4,.fz (.int t),x6]):=by simp [Hv]
theorem OF (a:Int) (t:Nat) (x1 x2 x3 x4 x6:Sl):Hu [x1,.fz (.int a),x2,x3,x4,.fz (.int t),x6]=some (.nx,[x1,.fz (.int (a / 2 ^ t)),x2,x3,x4,.fz (.int t),x6]):=by simp [Hu]
theorem OE (a:Int) (t:Nat) (x1 x2 x3 x4 x6:Sl):Ht [x1,x2,.fz (.int a),x3,x4,.fz (.int t),x6]=some (.nx,[x1,x2,.fz (.int (a / 2 ^ t)),x3,x4,.fz (.int t),x6]):=by simp [Ht]
theorem OD (a:Int) (t:Nat) (x1 x2 x3 x4 x6:Sl):Hr [x1,x2,x3,.fz (.int a),x4,.fz (.int t),x6]=some (.nx,[x1,x2,x3,.fz (.int (a / 2 ^ t)),x4,.fz (.int t),x6]):=by simp [Hr]
theorem OC (a:Int) (t:Nat) (x1 x2 x3 x4 x6:Sl):Hq [x1,x2,x3,x4,.fz (.int a),.fz (.int t),x6]=some (.nx,[x1,x2,x3,x4,.fz (.int (a-2*t)),.fz (.int t),x6]):=by
 have m2:IntMulOk 2 (t:Int):=.of_left (by decide)
 simp [Hq,m2]
theorem FT {f g:Dv->Option Bool} {δ:Dv} (h:f δ = some true):vV f g δ = some true:=by unfold vV; rw [h]; rfl
theorem xx {f g:Dv->Option Bool} {δ:Dv} (h:f δ = some false):vV f g δ = g δ:=by unfold vV; rw [h]; rfl
section
variable (a b c d k:Int) (x5 x6:Sl)
theorem Kf:(ob (o2 (oV 4) (oC (.int 0)) aS)) [.fz (.int a),.fz (.int b),.fz (.int c),.fz (.int d),.fz (.int k),x5,x6]=some (k==0):=rfl
theorem Kb {f g:Dv->Option D} {δ:Dv} {x y:Int} (hf:f δ = some (.int x)) (hg:g δ = some (.int y)):(ob (o2 (o2 (o2 f g dX) (oC (.int 2)) bP) (oC (.int 1)) aS)) δ = some ((x-y) % 2==1):=by
 have s:dX (.int x) (.int y)=some (.int (x-y)):=rfl
 have m:bP (.int (x-y)) (.int 2)=some (.int ((x-y) % 2)):=fS (by decide)
 simp only [ob,o2,oC,hf,hg,Option.bind_some,s,m,xS,Cp]
theorem Ke:(ob (o2 (o2 (o2 (oV 0) (oV 2) dX) (oC (.int 2)) bP) (oC (.int 1)) aS)) [.fz (.int a),.fz (.int b),.fz (.int c),.fz (.int d),.fz (.int k),x5,x6]=some ((a-c) % 2==1):=Kb rfl rfl
theorem Kc:(ob (o2 (o2 (o2 (oV 1) (oV 3) dX) (oC (.int 2)) bP) (oC (.int 1)) aS)) [.fz (.int a),.fz (.int b),.fz (.int c),.fz (.int d),.fz (.int k),x5,x6]=some ((b-d) % 2==1):=Kb rfl rfl
end
theorem JF {t:Dv->Option Bool} {u w:Sf} {δ:Dv} (h:t δ = some true):sIf t u w δ = u δ:=by unfold sIf; rw [h]; rfl
theorem JG {t:Dv->Option Bool} {u w:Sf} {δ:Dv} (h:t δ = some false):sIf t u w δ = w δ:=by unfold sIf; rw [h]; rfl
theorem MC (a b c d k:Int) (x5 x6:Sl) (h:k=0\/(a-c) % 2=1\/(b-d) % 2=1):Ee [.fz (.int a),.fz (.int b),.fz (.int c),.fz (.int d),.fz (.int k),x5,x6]=some (.rt (.tuple [.int a,.int b,.int c,.int d,.int k]),[.fz (.int a),.fz (.int b),.fz (.int c),.fz (.int d),.fz (.int k),x5,x6]):=by
 refine (JF ?_).trans rfl
 have t1:=Kf a b c d k x5 x6
 have t2:=Ke a b c d k x5 x6
 have t3:=Kc a b c d k x5 x6
 by_cases q0:k=0
 ·rw [beq_iff_eq.mpr q0] at t1; exact FT t1
 ·rw [beq_eq_false_iff_ne.mpr q0] at t1
  refine (xx t1).trans ?_
  by_cases q1:(a-c) % 2=1
  ·rw [beq_iff_eq.mpr q1] at t2; exact FT t2
  ·rw [beq_eq_false_iff_ne.mpr q1] at t2
   refine (xx t2).trans ?_
   rcases h with h | h | h
   ·exact absurd h q0
   ·exact absurd h q1
   ·rw [beq_iff_eq.mpr h] at t3; exact t3
theorem MD (a b c d k:Int) (x5 x6:Sl) (h:¬(k=0\/(a-c) % 2=1\/(b-d) % 2=1)):Ee [.fz (.int a),.fz (.int b),.fz (.int c),.fz (.int d),.fz (.int k),x5,x6]=some (.nx,[.fz (.int a),.fz (.int b),.fz (.int c),.fz (.int d),.fz (.int k),x5,x6]):=by
 have t1:=Kf a b c d k x5 x6
 have t2:=Ke a b c d k x5 x6
 have t3:=Kc a b c d k x5 x6
 rw [beq_eq_false_iff_ne.mpr fun q=>h (.inl q)] at t1
 rw [beq_eq_false_iff_ne.mpr fun q=>h (.inr (.inl q))] at t2
 rw [beq_eq_false_iff_ne.mpr fun q=>h (.inr (.inr q))] at t3
 exact (JG ((xx t1).trans ((xx t2).trans t3))).trans rfl
theorem OB (a b c d:Int) (x4 x5 x6:Sl):Ed [.fz (.int a),.fz (.int b),.fz (.int c),.fz (.int d),x4,x5,x6]=some (.nx,[.fz (.int a),.fz (.int b),.fz (.int c),.fz (.int d),x4,x5,.fz (.tuple [.int (b-d),.int (a+c),.int (b+d),.int (c-a)])]):=by simp [Ed,xo]
theorem OA (p q r s k:Int) (x0 x1 x2 x3 x5:Sl):Ec [x0,x1,x2,x3,.fz (.int k),x5,.fz (.tuple [.int p,.int q,.int r,.int s])]=some (.rt (.tuple [.int (p / 2),.int (q / 2),.int (r / 2),.int (s / 2),.int (k-1)]),[x0,x1,x2,x3,.fz (.int k),x5,.fz (.tuple [.int p,.int q,.int r,.int s])]):=by simp [Ec]
theorem yY (a b c d k:Int) (hk:0<=k):d7 [.int a,.int b,.int c,.int d,.int k]=some (tup5 (MA.num ⟨a,b,c,d⟩ k).1 (MA.num ⟨a,b,c,d⟩ k).2):=by
 obtain ⟨t,e,h1,_⟩:=MA.lj a b c d (k / 2) (Int.ediv_nonneg hk (by decide))
 have tw:=Da (Builtin.bitOr (Builtin.bitOr (Builtin.bitOr a b) c) d) (k / 2)
 rw [e] at tw
 unfold MA.num tup5
 simp only [e,Int.toNat_natCast]
 generalize ha:a / 2 ^ t=A
 generalize hb:b / 2 ^ t=B
 generalize hc:c / 2 ^ t=C
 generalize hd:d / 2 ^ t=E
 have go:kO (ak px [.int a,.int b,.int c,.int d,.int k])=(sSeq Ee (sSeq Ed Ec)) [.fz (.int A),.fz (.int B),.fz (.int C),.fz (.int E),.fz (.int (k-2*t)),.fz (.int t),.un]:=by
  rw [yX,<- ha,<- hb,<- hc,<- hd]
  exact (ua (OH tw)).trans ((ua (OG _ _ _ _ _ _ _)).trans ((ua (OF _ _ _ _ _ _ _)).trans ((ua (OE _ _ _ _ _ _ _)).trans ((ua (OD _ _ _ _ _ _ _)).trans (ua (OC _ _ _ _ _ _ _))))))
 by_cases q:k-2*(t:Int)=0\/(A-C) % 2=1\/(B-E) % 2=1
 ·rw [if_pos q]
  exact Kg rfl (go.trans (ME (MC _ _ _ _ _ _ _ q)))
 ·rw [if_neg q]
  exact Kg rfl (go.trans ((ua (MD _ _ _ _ _ _ _ q)).trans ((ua (OB _ _ _ _ _ _ _)).trans (OA _ _ _ _ _ _ _ _ _ _))))
theorem MG (c f:Int):rM [.int c,.int f]=some (.int (max c f)):=by
 rw [cO]
 congr 2
 rw [Int.max_def]
 split <;> split <;> omega
theorem Ka (x:MA.Q4) (k:Int) (hk:0<=k):d7 [.int x.a,.int x.b,.int x.c,.int x.d,.int k]=some (tup5 (MA.num x k).1 (MA.num x k).2):=yY _ _ _ _ _ hk
noncomputable def GA (x:MA.Q4):D:=.tuple [.int x.a,.int x.b,.int x.c,.int x.d]
theorem xu (x:MA.Q4) (c k:Int) (h:MA.Q4.Le (2 ^ 100000) x) (h1:c<=k) (h2:k-c<=100000):cj [tup5 x c,.int k]=some (GA (MA.Q4.rtn (k-c).toNat x)):=by
 obtain ⟨l1,l2,l3,l4⟩:=h
 obtain ⟨t,ht⟩:∃ t:Nat,(k-c) / 2=t:=⟨((k-c) / 2).toNat,by omega⟩
 have s:∀ i:Int,i.natAbs<=2 ^ 100000->lA (.int i) (.int (t:Int))=some (.int (i*2 ^ t)):=fun i hi=>by
  have hb:i.natAbs<2 ^ 100001:=Nat.lt_of_le_of_lt hi (Nat.pow_lt_pow_right (by decide) (by decide))
  have:=MA.sn hb
  have q:=nZ (i:=i) (j:=(t:Int)) (by omega) (by omega)
  simpa using q
 have r2:=MA.Q4.rtn_two t x
 unfold tup5 GA
 by_cases o:(k-c) % 2=1
 ·have e:(k-c).toNat=2*t+1:=by omega
  have m:(2*(t:Int)+1) % 2=1:=by omega
  rw [e,MA.Q4.rtn_succ,r2]
  simp [cj,runB,fK,ak,ht,o,s _ l1,s _ l2,s _ l3,s _ l4,xo,MA.Q4.rt,MA.Q4.dbl]
 ·have e:(k-c).toNat=2*t:=by omega
  rw [e,r2]
  simp [cj,runB,fK,ak,ht,o,s _ l1,s _ l2,s _ l3,s _ l4,MA.Q4.dbl]
theorem DK (x:MA.Q4) (c:Int) (y:MA.Q4) (d:Int) (hx:MA.Q4.Le (2 ^ 100000) x) (hy:MA.Q4.Le (2 ^ 100000) y) (hc:0<=c) (hd:0<=d) (hc1:c<=100000) (hd1:d<=100000):gL [tup5 x c,tup5 y d]=some (tup5 (MA.gx x c y d).1 (MA.gx x c y d).2):=by
 have hm:=MG c d
 have k1:c<=max c d:=Int.le_max_left ..
 have k2:d<=max c d:=Int.le_max_right ..
 have k3:max c d=c\/max c d=d:=by omega
 have o1:=xu x c (max c d) hx k1 (by omega)
 have o2:=xu y d (max c d) hy k2 (by omega)
 unfold MA.gx
 have nm:=Ka (MA.Q4.add (MA.Q4.rtn (max c d-c).toNat x) (MA.Q4.rtn (max c d-d).toNat y)) (max c d) (by omega)
 generalize max c d=m at *
 generalize MA.Q4.rtn (m-c).toNat x=u at *
 generalize MA.Q4.rtn (m-d).toNat y=v at *
 generalize MA.num (MA.Q4.add u v) m=r at *
 simp only [MA.Q4.add] at nm
 generalize tup5 r.1 r.2=R at *
 simp only [tup5,GA] at o1 o2 ⊢
 simp [-cO,gL,runB,wQ,ak,hm,o1,o2,nm]
theorem zx (x:MA.Q4) (c:Int) (hc:0<=c):dq [tup5 x c]=some (tup5 (MA.num x (c+1)).1 (MA.num x (c+1)).2):=by
 have nm:=Ka x (c+1) (by omega)
 generalize tup5 (MA.num x (c+1)).1 (MA.num x (c+1)).2=R at *
 simp only [tup5]
 simp [dq,runB,pg,ak,nm]
theorem m8 {e r:Int} (i a:Int) (h:e % 8=r) (k:(i-r) % 8=a):(i-e) % 8=a:=by omega
theorem yn (x:MA.Q4) (c e:Int):dn [tup5 x c,.int e]=some (tup5 (MA.gI (e % 8).toNat x) c):=by
 have w:e % 8=0\/e % 8=1\/e % 8=2\/e % 8=3\/e % 8=4\/e % 8=5\/e % 8=6\/e % 8=7:=by omega
 have go:∀ (r a0 a1 a2 a3:Int),e % 8=r->(0-e) % 8=a0->(1-e) % 8=a1->(2-e) % 8=a2->(3-e) % 8=a3->∀ b0 b1 b2 b3:Int,jl [PyData.int x.a,.int x.b,.int x.c,.int x.d,.int (-x.a),.int (-x.b),.int (-x.c),.int (-x.d)] a0=some (.int b0)->jl [PyData.int x.a,.int x.b,.int x.c,.int x.d,.int (-x.a),.int (-x.b),.int (-x.c),.int (-x.d)] a1=some (.int b1) ->
   jl [PyData.int x.a,.int x.b,.int x.c,.int x.d,.int (-x.a),.int (-x.b),.int (-x.c),.int (-x.d)] a2=some (.int b2)->jl [PyData.int x.a,.int x.b,.int x.c,.int x.d,.int (-x.a),.int (-x.b),.int (-x.c),.int (-x.d)] a3=some (.int b3)->dn [tup5 x c,.int e]=some (.tuple [.int b0,.int b1,.int b2,.int b3,.int c]):=by
  intro r a0 a1 a2 a3 _ h0 h1 h2 h3 b0 b1 b2 b3 k0 k1 k2 k3
  have h0:-e % 8=a0:=by omega
  simp only [tup5]
  simp [dn,runB,pd,ak,h0,h1,h2,h3,k0,k1,k2,k3]
 rcases w with w | w | w | w | w | w | w | w <;> rw [w]
 ·exact go 0 0 1 2 3 w (m8 0 0 w rfl) (m8 1 1 w rfl) (m8 2 2 w rfl) (m8 3 3 w rfl) _ _ _ _ rfl rfl rfl rfl
 ·exact go 1 7 0 1 2 w (m8 0 7 w rfl) (m8 1 0 w rfl) (m8 2 1 w rfl) (m8 3 2 w rfl) _ _ _ _ rfl rfl rfl rfl
 ·exact go 2 6 7 0 1 w (m8 0 6 w rfl) (m8 1 7 w rfl) (m8 2 0 w rfl) (m8 3 1 w rfl) _ _ _ _ rfl rfl rfl rfl
 ·exact go 3 5 6 7 0 w (m8 0 5 w rfl) (m8 1 6 w rfl) (m8 2 7 w rfl) (m8 3 0 w rfl) _ _ _ _ rfl rfl rfl rfl
 ·exact go 4 4 5 6 7 w (m8 0 4 w rfl) (m8 1 5 w rfl) (m8 2 6 w rfl) (m8 3 7 w rfl) _ _ _ _ rfl rfl rfl rfl
 ·have e0:tup5 (MA.gI (5:Int).toNat x) c=.tuple [.int x.d,.int (-x.a),.int (-x.b),.int (-x.c),.int c]:=by simp [tup5,MA.gI,MA.Q4.tn]
  rw [e0]
  exact go 5 3 4 5 6 w (m8 0 3 w rfl) (m8 1 4 w rfl) (m8 2 5 w rfl) (m8 3 6 w rfl) _ _ _ _ (by simp) (by simp) (by simp) (by simp)
 ·have e0:tup5 (MA.gI (6:Int).toNat x) c=.tuple [.int x.c,.int x.d,.int (-x.a),.int (-x.b),.int c]:=by simp [tup5,MA.gI,MA.Q4.tn]
  rw [e0]
  exact go 6 2 3 4 5 w (m8 0 2 w rfl) (m8 1 3 w rfl) (m8 2 4 w rfl) (m8 3 5 w rfl) _ _ _ _ (by simp) (by simp) (by simp) (by simp)
 ·have e0:tup5 (MA.gI (7:Int).toNat x) c=.tuple [.int x.b,.int x.c,.int x.d,.int (-x.a),.int c]:=by simp [tup5,MA.gI,MA.Q4.tn]
  rw [e0]
  exact go 7 1 2 3 4 w (m8 0 1 w rfl) (m8 1 2 w rfl) (m8 2 3 w rfl) (m8 3 4 w rfl) _ _ _ _ (by simp) (by simp) (by simp) (by simp)
theorem wS (x:MA.Q4) (c:Int):dL [tup5 x c]=some (tup5 (MA.Q4.neg x) c):=by
 simp only [tup5]
 simp [dL,runB,mo,ak,MA.Q4.neg]
noncomputable def mF (a:Str):Bool:=pF (.str a)
theorem dM {a b:Str} (ha:mF a=true) (hb:mF b=true):aS (.str a) (.str b)=some (.bool (a==b)):=if_pos ⟨ha,hb⟩
theorem NQ {a b:Str} (ha:mF a=true) (hb:mF b=true):neD (.str a) (.str b)=some (.bool (!(a==b))):=if_pos ⟨ha,hb⟩
theorem aW:mF "swing" = true:=by decide +kernel
theorem aP:mF "turn" = true:=by decide +kernel
theorem aR:mF "flip" = true:=by decide +kernel
theorem bH:mF "tie" = true:=by decide +kernel
theorem bw:mF "sign" = true:=by decide +kernel
theorem bZ:mF "cross" = true:=by decide +kernel
theorem ba:mF "look" = true:=by decide +kernel
theorem bh:mF "where" = true:=by decide +kernel
@[simp] theorem Bv:aS (.str "swing") (.str "swing")=some (.bool true):=(dM aW aW).trans (congrArg (fun z=>some (PyData.bool z)) (show (("swing":Str)==("swing":Str))=true by decide +kernel))
@[simp] theorem CH:aS (.str "swing") (.str "turn")=some (.bool false):=(dM aW aP).trans (congrArg (fun z=>some (PyData.bool z)) (show (("swing":Str)==("turn":Str))=false by decide +kernel))
@[simp] theorem CK:aS (.str "swing") (.str "flip")=some (.bool false):=(dM aW aR).trans (congrArg (fun z=>some (PyData.bool z)) (show (("swing":Str)==("flip":Str))=false by decide +kernel))
@[simp] theorem Ev:aS (.str "swing") (.str "tie")=some (.bool false):=(dM aW bH).trans (congrArg (fun z=>some (PyData.bool z)) (show (("swing":Str)==("tie":Str))=false by decide +kernel))
@[simp] theorem CI:aS (.str "swing") (.str "sign")=some (.bool false):=(dM aW bw).trans (congrArg (fun z=>some (PyData.bool z)) (show (("swing":Str)==("sign":Str))=false by decide +kernel))
@[simp] theorem CJ:aS (.str "swing") (.str "look")=some (.bool false):=(dM aW ba).trans (congrArg (fun z=>some (PyData.bool z)) (show (("swing":Str)==("look":Str))=false by decide +kernel))
@[simp] theorem Bu:aS (.str "swing") (.str "where")=some (.bool false):=(dM aW bh).trans (congrArg (fun z=>some (PyData.bool z)) (show (("swing":Str)==("where":Str))=false by decide +kernel))
@[simp] theorem CG:aS (.str "turn") (.str "swing")=some (.bool false):=(dM aP aW).trans (congrArg (fun z=>some (PyData.bool z)) (show (("turn":Str)==("swing":Str))=false by decide +kernel))
@[simp] theorem Eo:aS (.str "turn") (.str "turn")=some (.bool true):=(dM aP aP).trans (congrArg (fun z=>some (PyData.bool z)) (show (("turn":Str)==("turn":Str))=true by decide +kernel))
@[simp] theorem Es:aS (.str "turn") (.str "flip")=some (.bool false):=(dM aP aR).trans (congrArg (fun z=>some (PyData.bool z)) (show (("turn":Str)==("flip":Str))=false by decide +kernel))
@[simp] theorem F6:aS (.str "turn") (.str "tie")=some (.bool false):=(dM aP bH).trans (congrArg (fun z=>some (PyData.bool z)) (show (("turn":Str)==("tie":Str))=false by decide +kernel))
@[simp] theorem Ep:aS (.str "turn") (.str "sign")=some (.bool false):=(dM aP bw).trans (congrArg (fun z=>some (PyData.bool z)) (show (("turn":Str)==("sign":Str))=false by decide +kernel))
@[simp] theorem Er:aS (.str "turn") (.str "look")=some (.bool false):=(dM aP ba).trans (congrArg (fun z=>some (PyData.bool z)) (show (("turn":Str)==("look":Str))=false by decide +kernel))
@[simp] theorem CD:aS (.str "turn") (.str "where")=some (.bool false):=(dM aP bh).trans (congrArg (fun z=>some (PyData.bool z)) (show (("turn":Str)==("where":Str))=false by decide +kernel))
@[simp] theorem CQ:aS (.str "flip") (.str "swing")=some (.bool false):=(dM aR aW).trans (congrArg (fun z=>some (PyData.bool z)) (show (("flip":Str)==("swing":Str))=false by decide +kernel))
@[simp] theorem EE:aS (.str "flip") (.str "turn")=some (.bool false):=(dM aR aP).trans (congrArg (fun z=>some (PyData.bool z)) (show (("flip":Str)==("turn":Str))=false by decide +kernel))
@[simp] theorem EH:aS (.str "flip") (.str "flip")=some (.bool true):=(dM aR aR).trans (congrArg (fun z=>some (PyData.bool z)) (show (("flip":Str)==("flip":Str))=true by decide +kernel))
@[simp] theorem Ge:aS (.str "flip") (.str "tie")=some (.bool false):=(dM aR bH).trans (congrArg (fun z=>some (PyData.bool z)) (show (("flip":Str)==("tie":Str))=false by decide +kernel))
@[simp] theorem EF:aS (.str "flip") (.str "sign")=some (.bool false):=(dM aR bw).trans (congrArg (fun z=>some (PyData.bool z)) (show (("flip":Str)==("sign":Str))=false by decide +kernel))
@[simp] theorem EG:aS (.str "flip") (.str "look")=some (.bool false):=(dM aR ba).trans (congrArg (fun z=>some (PyData.bool z)) (show (("flip":Str)==("look":Str))=false by decide +kernel))
@[simp] theorem CP:aS (.str "flip") (.str "where")=some (.bool false):=(dM aR bh).trans (congrArg (fun z=>some (PyData.bool z)) (show (("flip":Str)==("where":Str))=false by decide +kernel))
@[simp] theorem Eu:aS (.str "tie") (.str "swing")=some (.bool false):=(dM bH aW).trans (congrArg (fun z=>some (PyData.bool z)) (show (("tie":Str)==("swing":Str))=false by decide +kernel))
@[simp] theorem F7:aS (.str "tie") (.str "turn")=some (.bool false):=(dM bH aP).trans (congrArg (fun z=>some (PyData.bool z)) (show (("tie":Str)==("turn":Str))=false by decide +kernel))
@[simp] theorem Gb:aS (.str "tie") (.str "flip")=some (.bool false):=(dM bH aR).trans (congrArg (fun z=>some (PyData.bool z)) (show (("tie":Str)==("flip":Str))=false by decide +kernel))
@[simp] theorem HE:aS (.str "tie") (.str "tie")=some (.bool true):=(dM bH bH).trans (congrArg (fun z=>some (PyData.bool z)) (show (("tie":Str)==("tie":Str))=true by decide +kernel))
@[simp] theorem F8:aS (.str "tie") (.str "sign")=some (.bool false):=(dM bH bw).trans (congrArg (fun z=>some (PyData.bool z)) (show (("tie":Str)==("sign":Str))=false by decide +kernel))
@[simp] theorem Ga:aS (.str "tie") (.str "look")=some (.bool false):=(dM bH ba).trans (congrArg (fun z=>some (PyData.bool z)) (show (("tie":Str)==("look":Str))=false by decide +kernel))
@[simp] theorem Et:aS (.str "tie") (.str "where")=some (.bool false):=(dM bH bh).trans (congrArg (fun z=>some (PyData.bool z)) (show (("tie":Str)==("where":Str))=false by decide +kernel))
@[simp] theorem CM:aS (.str "sign") (.str "swing")=some (.bool false):=(dM bw aW).trans (congrArg (fun z=>some (PyData.bool z)) (show (("sign":Str)==("swing":Str))=false by decide +kernel))
@[simp] theorem Ew:aS (.str "sign") (.str "turn")=some (.bool false):=(dM bw aP).trans (congrArg (fun z=>some (PyData.bool z)) (show (("sign":Str)==("turn":Str))=false by decide +kernel))
@[simp] theorem Ez:aS (.str "sign") (.str "flip")=some (.bool false):=(dM bw aR).trans (congrArg (fun z=>some (PyData.bool z)) (show (("sign":Str)==("flip":Str))=false by decide +kernel))
@[simp] theorem Gc:aS (.str "sign") (.str "tie")=some (.bool false):=(dM bw bH).trans (congrArg (fun z=>some (PyData.bool z)) (show (("sign":Str)==("tie":Str))=false by decide +kernel))
@[simp] theorem Ex:aS (.str "sign") (.str "sign")=some (.bool true):=(dM bw bw).trans (congrArg (fun z=>some (PyData.bool z)) (show (("sign":Str)==("sign":Str))=true by decide +kernel))
@[simp] theorem Ey:aS (.str "sign") (.str "look")=some (.bool false):=(dM bw ba).trans (congrArg (fun z=>some (PyData.bool z)) (show (("sign":Str)==("look":Str))=false by decide +kernel))
@[simp] theorem CL:aS (.str "sign") (.str "where")=some (.bool false):=(dM bw bh).trans (congrArg (fun z=>some (PyData.bool z)) (show (("sign":Str)==("where":Str))=false by decide +kernel))
@[simp] theorem Bx:aS (.str "cross") (.str "swing")=some (.bool false):=(dM bZ aW).trans (congrArg (fun z=>some (PyData.bool z)) (show (("cross":Str)==("swing":Str))=false by decide +kernel))
@[simp] theorem CS:aS (.str "cross") (.str "turn")=some (.bool false):=(dM bZ aP).trans (congrArg (fun z=>some (PyData.bool z)) (show (("cross":Str)==("turn":Str))=false by decide +kernel))
@[simp] theorem CV:aS (.str "cross") (.str "flip")=some (.bool false):=(dM bZ aR).trans (congrArg (fun z=>some (PyData.bool z)) (show (("cross":Str)==("flip":Str))=false by decide +kernel))
@[simp] theorem EI:aS (.str "cross") (.str "tie")=some (.bool false):=(dM bZ bH).trans (congrArg (fun z=>some (PyData.bool z)) (show (("cross":Str)==("tie":Str))=false by decide +kernel))
@[simp] theorem CT:aS (.str "cross") (.str "sign")=some (.bool false):=(dM bZ bw).trans (congrArg (fun z=>some (PyData.bool z)) (show (("cross":Str)==("sign":Str))=false by decide +kernel))
@[simp] theorem CU:aS (.str "cross") (.str "look")=some (.bool false):=(dM bZ ba).trans (congrArg (fun z=>some (PyData.bool z)) (show (("cross":Str)==("look":Str))=false by decide +kernel))
@[simp] theorem Bw:aS (.str "cross") (.str "where")=some (.bool false):=(dM bZ bh).trans (congrArg (fun z=>some (PyData.bool z)) (show (("cross":Str)==("where":Str))=false by decide +kernel))
@[simp] theorem CO:aS (.str "look") (.str "swing")=some (.bool false):=(dM ba aW).trans (congrArg (fun z=>some (PyData.bool z)) (show (("look":Str)==("swing":Str))=false by decide +kernel))
@[simp] theorem EA:aS (.str "look") (.str "turn")=some (.bool false):=(dM ba aP).trans (congrArg (fun z=>some (PyData.bool z)) (show (("look":Str)==("turn":Str))=false by decide +kernel))
@[simp] theorem ED:aS (.str "look") (.str "flip")=some (.bool false):=(dM ba aR).trans (congrArg (fun z=>some (PyData.bool z)) (show (("look":Str)==("flip":Str))=false by decide +kernel))
@[simp] theorem Gd:aS (.str "look") (.str "tie")=some (.bool false):=(dM ba bH).trans (congrArg (fun z=>some (PyData.bool z)) (show (("look":Str)==("tie":Str))=false by decide +kernel))
@[simp] theorem EB:aS (.str "look") (.str "sign")=some (.bool false):=(dM ba bw).trans (congrArg (fun z=>some (PyData.bool z)) (show (("look":Str)==("sign":Str))=false by decide +kernel))
@[simp] theorem EC:aS (.str "look") (.str "look")=some (.bool true):=(dM ba ba).trans (congrArg (fun z=>some (PyData.bool z)) (show (("look":Str)==("look":Str))=true by decide +kernel))
@[simp] theorem CN:aS (.str "look") (.str "where")=some (.bool false):=(dM ba bh).trans (congrArg (fun z=>some (PyData.bool z)) (show (("look":Str)==("where":Str))=false by decide +kernel))
@[simp] theorem Bt:aS (.str "where") (.str "swing")=some (.bool false):=(dM bh aW).trans (congrArg (fun z=>some (PyData.bool z)) (show (("where":Str)==("swing":Str))=false by decide +kernel))
@[simp] theorem CB:aS (.str "where") (.str "turn")=some (.bool false):=(dM bh aP).trans (congrArg (fun z=>some (PyData.bool z)) (show (("where":Str)==("turn":Str))=false by decide +kernel))
@[simp] theorem CC:aS (.str "where") (.str "look")=some (.bool false):=(dM bh ba).trans (congrArg (fun z=>some (PyData.bool z)) (show (("where":Str)==("look":Str))=false by decide +kernel))
@[simp] theorem Bq:aS (.str "where") (.str "where")=some (.bool true):=(dM bh bh).trans (congrArg (fun z=>some (PyData.bool z)) (show (("where":Str)==("where":Str))=true by decide +kernel))
@[simp] theorem I0:fN false (.str "swing") (.tuple [.str "swing",.str "turn",.str "flip",.str "tie",.str "sign",.str "cross"])=some (.bool true):=by rfl
@[simp] theorem IW:fN false (.str "swing") (.tuple [.str "tie",.str "sign",.str "cross"])=some (.bool false):=by rfl
@[simp] theorem KG:fN false (.str "turn") (.tuple [.str "swing",.str "turn",.str "flip",.str "tie",.str "sign",.str "cross"])=some (.bool true):=by rfl
@[simp] theorem KB:fN false (.str "turn") (.tuple [.str "tie",.str "sign",.str "cross"])=some (.bool false):=by rfl
@[simp] theorem KJ:fN false (.str "flip") (.tuple [.str "swing",.str "turn",.str "flip",.str "tie",.str "sign",.str "cross"])=some (.bool true):=by rfl
@[simp] theorem KE:fN false (.str "flip") (.tuple [.str "tie",.str "sign",.str "cross"])=some (.bool false):=by rfl
@[simp] theorem LB:fN false (.str "tie") (.tuple [.str "swing",.str "turn",.str "flip",.str "tie",.str "sign",.str "cross"])=some (.bool true):=by rfl
@[simp] theorem LA:fN false (.str "tie") (.tuple [.str "tie",.str "sign",.str "cross"])=some (.bool true):=by rfl
@[simp] theorem KH:fN false (.str "sign") (.tuple [.str "swing",.str "turn",.str "flip",.str "tie",.str "sign",.str "cross"])=some (.bool true):=by rfl
@[simp] theorem KC:fN false (.str "sign") (.tuple [.str "tie",.str "sign",.str "cross"])=some (.bool true):=by rfl
@[simp] theorem Ja:fN false (.str "cross") (.tuple [.str "swing",.str "turn",.str "flip",.str "tie",.str "sign",.str "cross"])=some (.bool true):=by rfl
@[simp] theorem IX:fN false (.str "cross") (.tuple [.str "tie",.str "sign",.str "cross"])=some (.bool true):=by rfl
@[simp] theorem KI:fN false (.str "look") (.tuple [.str "swing",.str "turn",.str "flip",.str "tie",.str "sign",.str "cross"])=some (.bool false):=by rfl
@[simp] theorem KD:fN false (.str "look") (.tuple [.str "tie",.str "sign",.str "cross"])=some (.bool false):=by rfl
@[simp] theorem IZ:fN false (.str "where") (.tuple [.str "swing",.str "turn",.str "flip",.str "tie",.str "sign",.str "cross"])=some (.bool false):=by rfl
@[simp] theorem IU:fN false (.str "where") (.tuple [.str "tie",.str "sign",.str "cross"])=some (.bool false):=by rfl
@[simp] theorem LD (u w:Sf) (δ:Dv) (a b:Int):LE u w δ (a==b)=if a=b then u δ else w δ:=by
 by_cases h:a=b
 ·subst h; simp
 ·have:(a==b)=false:=by simpa using h
  rw [this,if_neg h]; rfl
theorem ul {α:Type} {f:D->Option D} {h k:α -> D}:∀ (xs:List α),(∀ x∈xs,f (h x)=some (k x))->zd f (xs.map h)=some (xs.map k)
 | [],_=>rfl
 | x::xs,H=>by
  show ((f (h x)).bind fun y=>_)=_
  rw [H x List.mem_cons_self]
  show ((zd f (xs.map h)).bind fun ys=>_)=_
  rw [ul xs fun y hy=>H y (List.mem_cons_of_mem _ hy)]
  rfl
theorem uP {α:Type} {t:D->Option Bool} {f:D->Option D} {h k:α -> D} {b:α -> Bool}:∀ (xs:List α),(∀ x∈xs,t (h x)=some (b x))->(∀ x∈xs,b x=true->f (h x)=some (k x))->ip t f (xs.map h)=some ((xs.filter b).map k)
 | [],_,_=>rfl
 | x::xs,H,G=>by
  have ih:=uP (k:=k) xs (fun y hy=>H y (List.mem_cons_of_mem _ hy)) (fun y hy=>G y (List.mem_cons_of_mem _ hy))
  show ((t (h x)).bind fun c=>_)=_
  rw [H x List.mem_cons_self,Option.bind_some]
  cases e:b x with
  | false=>simp [e,ih]
  | true=>simp [e,ih,G x List.mem_cons_self e]
theorem fW {α:Type} {fi:Dv->Option (List D)} {caps:List (Nat×Str)} {fe:Dv->Option D} {δ:Dv} {h k:α -> D} {xs:List α} (e:fi δ = some (xs.map h)) (hl:xs.length<=16777216) (H:∀ x∈xs,fe (.fz (h x)::capS δ caps)=some (k x)):eR fi caps sj fe δ = some (.list (xs.map k)):=by
 unfold eR
 rw [e,Option.bind_some,if_pos (by rw [List.length_map]; exact hl),ul xs (k:=k) fun x hx=>by
  show fe _=_
  exact H x hx]
 rfl
theorem jg {α:Type} {fi:Dv->Option (List D)} {caps:List (Nat×Str)} {ft:Dv->Option Bool} {fe:Dv->Option D} {δ:Dv} {h k:α -> D} {b:α -> Bool} {xs:List α} (e:fi δ = some (xs.map h)) (hl:xs.length<=16777216) (H:∀ x∈xs,ft (.fz (h x)::capS δ caps)=some (b x)) (G:∀ x∈xs,b x=true->fe (.fz (h x)::capS δ caps)=some (k x)):ij fi caps sj ft fe δ = some (.list ((xs.filter b).map k)):=by
 unfold ij
 rw [e,Option.bind_some,if_pos (by rw [List.length_map]; exact hl),uP xs (b:=b) (k:=k) (fun x hx=>by
  show ft _=_
  exact H x hx) (fun x hx hb=>by
  show fe _=_
  exact G x hx hb)]
 rfl
open MA (Nu Row wt aG flp aT ah)
noncomputable def cv (u:Nu):D:=tup5 u.1 u.2
noncomputable def jA (n:Nat) (f:Nat->Nu):D:=.tuple ((List.range (2 ^ n)).map fun p=>cv (f p))
noncomputable def rowD:Row->D
 | .swing j=>.tuple [.str "swing",.int j]
 | .turn j e=>.tuple [.str "turn",.int j,.int e]
 | .flip j=>.tuple [.str "flip",.int j]
 | .tie i j=>.tuple [.str "tie",.int i,.int j]
 | .sign i j=>.tuple [.str "sign",.int i,.int j]
 | .cross i j=>.tuple [.str "cross",.int i,.int j]
theorem qb {n:Nat} {f:Nat->Nu} {i:Int} (p:Nat) (hi:i=p) (hp:p<2 ^ n):aE (jA n f) (.int i)=some (cv (f p)):=by
 show jl _ _=_
 exact fg (j:=p) hi (by simp [hp])
theorem lN (n:Nat) (f:Nat->Nu):cB [jA n f]=some (.int ((2 ^ n:Nat):Int)):=by
 show some (PyData.int (((List.range (2 ^ n)).map fun p=>cv (f p)).length:Nat))=_
 rw [List.length_map,List.length_range]
theorem uo {b:Sf} {k:Nat} (I:Nat->Dv->Prop) (n:Nat) (h:∀ i,i<n->∀ δ,I i δ -> ∃ δ2,b (δ.set k (.fz (.int i)))=some (.nx,δ2)/\I (i+1) δ2):∀ δ,I 0 δ -> ∃ δ',loop (gN k) b (jB 0 n) δ = some (.nx,δ')/\I n δ':=by
 have go:∀ (m i:Nat),i+m=n->∀ δ,I i δ -> ∃ δ',loop (gN k) b ((List.range' i m).map fun (k:Nat)=>PyData.int (0+(k:Int))) δ = some (.nx,δ')/\I n δ':=by
  intro m
  induction m with
  | zero=>intro i e δ h; exact ⟨δ,rfl,by rw [<- e]; exact h⟩
  | succ m ih=>
   intro i e δ hi
   obtain ⟨δ2,e2,h2⟩:=h i (by omega) δ hi
   obtain ⟨δ',e3,h3⟩:=ih (i+1) (by omega) δ2 h2
   refine ⟨δ',?_,h3⟩
   rw [<- e3,List.range'_succ,List.map_cons]
   exact eG (δ1:=δ.set k (.fz (.int i))) (by simp) e2
 intro δ h0
 have:=go n 0 (by omega) δ h0
 rw [<- List.range_eq_range'] at this
 exact this
theorem Eb (x:MA.Q4) (k:Nat):∃ c:Nat,(MA.num x k).2=c/\c<=k:=by
 obtain ⟨c,e,h,_⟩:=MA.Ho x k
 exact ⟨c,e,h⟩
theorem AI (u v:Nu):(MA.b9 u v).2<=max u.2 v.2:=by
 obtain ⟨c,e2,h⟩:=Eb (MA.Q4.add (MA.Q4.rtn (max (u.2:Int) v.2-u.2).toNat u.1) (MA.Q4.rtn (max (u.2:Int) v.2-v.2).toNat v.1)) (max u.2 v.2)
 have e3:((max u.2 v.2:Nat):Int)=max (u.2:Int) v.2:=by omega
 rw [e3] at e2
 show (MA.gx u.1 u.2 v.1 v.2).2.toNat<=_
 unfold MA.gx
 rw [e2]; exact h
theorem jb (n:Nat) (hn:n<=6):cY [.int ((2 ^ n:Nat):Int)]=some ((List.range (2 ^ n)).map fun k:Nat=>PyData.int (0+(k:Int))):=by
 have sq:(2 ^ n:Nat)<=64:=(Nat.pow_le_pow_right (by decide) hn:2 ^ n<=2 ^ 6)
 generalize (2 ^ n:Nat)=N at sq ⊢
 exact lE (j:=(N:Int)) (by omega) (by omega)
theorem xX {fi:Dv->Option (List D)} {caps:List (Nat×Str)} {fe:Dv->Option D} {δ:Dv} {N:Nat} {y:Nat->D} (e:fi δ = some ((List.range N).map fun k:Nat=>PyData.int (0+(k:Int)))) (hl:N<=16777216) (H:∀ p:Nat,p<N->fe (.fz (.int p)::capS δ caps)=some (y p)):eR fi caps sj fe δ = some (.list ((List.range N).map y)):=by
 refine fW e (by rw [List.length_range]; exact hl) fun p hp=>?_
 rw [Int.zero_add]
 exact H p (List.mem_range.mp hp)
def Bd (k p:Nat) (f:Nat->Nu):Prop:=∀ x,(f x).2<=k/\MA.Q4.Le (2 ^ p) (f x).1
theorem ET (u:Nu):(MA.cD u).2<=u.2+1:=by
 obtain ⟨c,e,h⟩:=Eb u.1 (u.2+1)
 show (MA.num u.1 ((u.2+1:Nat):Int)).2.toNat<=_
 rw [e]; exact h
theorem EU {u:Nu} {M:Nat} (h:MA.Q4.Le M u.1):MA.Q4.Le M (MA.cD u).1:=MA.A6 _ _ (by omega) _ h
theorem Bd.done {k p:Nat} {f:Nat->Nu} (h:Bd k p f) (n:Nat) (r:Row):Bd (k+1) (p+k+1) (ah n f r):=fun x=>by
 have mono:∀ y,(f y).2<=k+1/\MA.Q4.Le (2 ^ (p+k+1)) (f y).1:=fun y=>⟨by have:=(h y).1; omega,(h y).2.mono (Nat.pow_le_pow_right (by decide) (by omega))⟩
 have pl:∀ (u v:Nu),u.2<=k->v.2<=k->MA.Q4.Le (2 ^ p) u.1->MA.Q4.Le (2 ^ p) v.1->(MA.cD (MA.b9 u v)).2<=k+1/\MA.Q4.Le (2 ^ (p+k+1)) (MA.cD (MA.b9 u v)).1:=fun u v h1 h2 h3 h4=>by
  refine ⟨?_,EU ?_⟩
  ·have:=ET (MA.b9 u v)
   have:=AI u v
   omega
  ·exact MA.AH h3 h4 h1 h2
 cases r with
 | swing j=>
  show (if aG (wt n j) x=0 then _ else _:Nu).2<=_/\MA.Q4.Le _ (if aG (wt n j) x=0 then _ else _:Nu).1
  split
  ·exact pl _ _ (h _).1 (h _).1 (h _).2 (h _).2
  ·exact pl _ _ (h _).1 (h _).1 (h _).2 (MA.nQ _ (h _).2)
 | turn j e=>exact ⟨(mono x).1,MA.nQ _ (mono x).2⟩
 | sign i j=>exact ⟨(mono x).1,MA.nQ _ (mono x).2⟩
 | flip j=>exact mono _
 | tie i j=>exact mono _
 | cross i j=>exact mono _
theorem Bd.mono {k p k' p':Nat} {f:Nat->Nu} (h:Bd k p f) (h1:k<=k') (h2:p<=p'):Bd k' p' f:=fun x=>⟨Nat.le_trans (h x).1 h1,(h x).2.mono (Nat.pow_le_pow_right (by decide) h2)⟩
theorem LX:((List.range 6).all fun k=>(List.range 64).all fun p=>(p &&& 2 ^ k==2 ^ k*aG (2 ^ k) p)&&(p ^^^ 2 ^ k==flp (2 ^ k) p))=true:=by decide +kernel
theorem LW:((List.range 6).all fun k=>(List.range 6).all fun l=>(List.range 64).all fun p=>(k==l)||((2 ^ k ||| 2 ^ l==2 ^ k+2 ^ l)&&(p &&& (2 ^ k+2 ^ l)==2 ^ k*aG (2 ^ k) p+2 ^ l*aG (2 ^ l) p)&&(p ^^^ (2 ^ k+2 ^ l)==flp (2 ^ l) (flp (2 ^ k) p))))=true:=by decide +kernel
section
variable {n:Nat} (hn:n<=6)
include hn
theorem qf:2 ^ n<=64:=(Nat.pow_le_pow_right (by decide) hn:2 ^ n<=2 ^ 6)
theorem mq {j p:Nat} (hj:j<n) (hp:p<2 ^ n):p &&& wt n j=wt n j*aG (wt n j) p/\p ^^^ wt n j=flp (wt n j) p:=by
 have h:=LX
 rw [List.all_eq_true] at h
 have h:=h (n-1-j) (List.mem_range.mpr (by omega))
 rw [List.all_eq_true] at h
 have h:=h p (List.mem_range.mpr (Nat.lt_of_lt_of_le hp (qf hn)))
 rw [Bool.and_eq_true,beq_iff_eq,beq_iff_eq] at h
 exact h
theorem nB {i j p:Nat} (hi:i<n) (hj:j<n) (hij:i≠j) (hp:p<2 ^ n):wt n i ||| wt n j=wt n i+wt n j/\p &&& (wt n i+wt n j)=wt n i*aG (wt n i) p+wt n j*aG (wt n j) p/\p ^^^ (wt n i+wt n j)=flp (wt n j) (flp (wt n i) p):=by
 have h:=LW
 rw [List.all_eq_true] at h
 have h:=h (n-1-i) (List.mem_range.mpr (by omega))
 rw [List.all_eq_true] at h
 have h:=h (n-1-j) (List.mem_range.mpr (by omega))
 rw [List.all_eq_true] at h
 have h:=h p (List.mem_range.mpr (Nat.lt_of_lt_of_le hp (qf hn)))
 rw [Bool.or_eq_true,Bool.and_eq_true,Bool.and_eq_true,beq_iff_eq,beq_iff_eq,beq_iff_eq,beq_iff_eq] at h
 rcases h with h | h
 ·exact absurd h (by omega)
 ·exact ⟨h.1.1,h.1.2,h.2⟩
theorem de {j:Nat} (hj:j<n):dz [.int n,.int j]=some (.int (wt n j:Nat)):=by
 have hb:Builtin.Int.intBits 1=1:=by decide +kernel
 have e:=nZ (i:=1) (j:=(n:Int)-1-(j:Int)) (by omega) (by omega)
 have e2:(1:Int)*2 ^ ((n:Int)-1-(j:Int)).toNat=((wt n j:Nat):Int):=by
  unfold MA.wt
  rw [show ((n:Int)-1-(j:Int)).toNat=n-1-j by omega]
  push_cast
  omega
 rw [e2] at e
 simp [dz,runB,sE,ak,e]
theorem sP (f:Nat->Nu):kM (.int ((2 ^ n:Nat):Int))=some (.int ((n:Int)+1)):=by
 have e:((2 ^ n:Nat):Int)=2 ^ n:=by push_cast; rfl
 have:=MA.u7 n
 rw [qH,e,this]
 rfl
theorem AG (u v:Nu) (hu:MA.Q4.Le (2 ^ 100000) u.1) (hv:MA.Q4.Le (2 ^ 100000) v.1) (hc:u.2<=50000) (hd:v.2<=50000):gL [cv u,cv v]=some (cv (MA.b9 u v)):=by
 have e:=DK u.1 u.2 v.1 v.2 hu hv (by omega) (by omega) (by omega) (by omega)
 unfold cv MA.b9
 rw [e]
 obtain ⟨c,e2,h⟩:=Eb (MA.Q4.add (MA.Q4.rtn (max (u.2:Int) v.2-u.2).toNat u.1) (MA.Q4.rtn (max (u.2:Int) v.2-v.2).toNat v.1)) (max u.2 v.2)
 have e3:((max u.2 v.2:Nat):Int)=max (u.2:Int) v.2:=by omega
 rw [e3] at e2
 show some (tup5 _ (MA.gx u.1 u.2 v.1 v.2).2)=some (tup5 _ ((MA.gx u.1 u.2 v.1 v.2).2.toNat:Int))
 unfold MA.gx
 rw [e2]; rfl
theorem uK (u:Nu):dq [cv u]=some (cv (MA.cD u)):=by
 have e:=zx u.1 u.2 (by omega)
 obtain ⟨c,e2,h⟩:=Eb u.1 (u.2+1)
 have e3:((u.2+1:Nat):Int)=(u.2:Int)+1:=by omega
 unfold cv MA.cD
 rw [e,e3]
 rw [e3] at e2
 rw [e2]; rfl
theorem zM (u:Nu):dL [cv u]=some (cv (MA.bf 4 u)):=by
 have e:=wS u.1 u.2
 unfold cv MA.bf
 rw [e]
 have:MA.gI (4 % 8) u.1=MA.Q4.neg u.1:=by
  show MA.Q4.tn (MA.Q4.tn (MA.Q4.tn (MA.Q4.tn u.1)))=_
  unfold MA.Q4.tn MA.Q4.neg
  rfl
 rw [this]
theorem sV (u:Nu) (e:Nat):dn [cv u,.int e]=some (cv (MA.bf e u)):=by
 have h:=yn u.1 u.2 e
 unfold cv MA.bf
 rw [h,show ((e:Int) % 8).toNat=e % 8 by omega]
end
section
variable {n:Nat} (hn:n<=6) (f:Nat->Nu) (hf:∀ p,(f p).2<=40000) (hL:∀ p,MA.Q4.Le (2 ^ 100000) (f p).1)
include hn
theorem Ae (X x y a b:D) (p w q:Int) (ds:List D) (hs:ds.length<sizeLine) (h1:Builtin.bitAnd p w=0) (h2:Builtin.bitXor p w=q) (a0:aE X (.int p)=some x) (a1:aE X (.int q)=some y) (e1:gL [x,y]=some a) (e2:dq [a]=some b) :
  eU [.fz X,.fz (.int w),.ow ds,.fz (.int p)]=some (.nx,[.fz X,.fz (.int w),.ow (ds++[b]),.fz (.int p)]):=by
 simp [-sSeq,-sIf,aq,aC,eU,h1,h2,a0,a1,e1,e2,hs]
theorem Ad (X x y z a b:D) (p w q m:Int) (ds:List D) (hs:ds.length<sizeLine) (h1:Builtin.bitAnd p w=m) (hm:m≠0) (h2:Builtin.bitXor p w=q) (a0:aE X (.int p)=some x) (a1:aE X (.int q)=some y) (e0:dL [x]=some z) (e1:gL [y,z]=some a) (e2:dq [a]=some b) :
  eU [.fz X,.fz (.int w),.ow ds,.fz (.int p)]=some (.nx,[.fz X,.fz (.int w),.ow (ds++[b]),.fz (.int p)]):=by
 have hm':(m==0)=false:=by simpa using hm
 simp [-sSeq,-sIf,aq,aC,eU,h1,hm',h2,a0,a1,e0,e1,e2,hs]
include hf hL
theorem Ag {j:Nat} (hj:j<n) (p:Nat) (hp:p<2 ^ n) (ds:List D) (hl:ds.length<1000) :
  eU [.fz (jA n f),.fz (.int (wt n j:Nat)),.ow ds,.fz (.int p)]=some (.nx,[.fz (jA n f),.fz (.int (wt n j:Nat)),.ow (ds++[cv (ah n f (.swing j) p)]),.fz (.int p)]):=by
 have hs:ds.length<sizeLine:=by show _<16777216; omega
 have ha:=mq hn hj hp
 have b1:=MA.vc p (wt n j)
 have b2:=MA.Fo p (wt n j)
 rw [ha.1] at b1
 rw [ha.2] at b2
 have hw:=MA.bp n j
 have q:=MA.jI hj hp
 have a0:aE (jA n f) (.int (p:Int))=some (cv (f p)):=qb p rfl hp
 have a1:aE (jA n f) (.int ((flp (wt n j) p:Nat):Int))=some (cv (f (flp (wt n j) p))):=qb _ rfl q
 by_cases h:aG (wt n j) p=0
 ·rw [h,Nat.mul_zero] at b1
  have e:ah n f (.swing j) p=MA.cD (MA.b9 (f p) (f (p+wt n j))):=if_pos h
  have ef:flp (wt n j) p=p+wt n j:=if_pos h
  rw [ef] at a1 b2
  rw [e]
  exact Ae hn _ _ _ _ _ _ _ _ _ hs b1 b2 a0 a1 (AG hn _ _ (hL _) (hL _) (by have:=hf p; omega) (by have:=hf (p+wt n j); omega)) (uK hn _)
 ·have h1:aG (wt n j) p=1:=by have:=MA.ca (wt n j) p; omega
  rw [h1,Nat.mul_one] at b1
  have e:ah n f (.swing j) p=MA.cD (MA.b9 (f (p-wt n j)) (MA.bf 4 (f p))):=if_neg h
  have ef:flp (wt n j) p=p-wt n j:=if_neg h
  rw [ef] at a1 b2
  rw [e]
  exact Ad hn _ _ _ _ _ _ _ _ _ _ _ hs b1 (by omega) b2 a0 a1 (zM hn _) (AG hn _ _ (hL _) (MA.nQ _ (hL p)) (by have:=hf (p-wt n j); omega) (by show (f p).2<=_; have:=hf p; omega)) (uK hn _)
omit hf hL hn in
theorem Di (X Y:D) (w S:Int) (RL L:List D) (y:Sl) (ln:cB [X]=some (.int S)) (hN:cY [.int S]=some RL) (e:loop (gN 3) eU RL [.fz X,.fz (.int w),.ow [],.un]=some (.nx,[.fz X,.fz (.int w),.ow L,y])) (tp:dS [.list L]=some Y):gA [X,.int w]=some Y:=by
 simp [-sSeq,-sIf,aq,aC,gA,runB,sF,ak,ln,hN,e,dFz,tp]
theorem Af {j:Nat} (hj:j<n):gA [jA n f,.int (wt n j:Nat)]=some (jA n (ah n f (.swing j))):=by
 have sq:=qf hn
 have hN:cY [.int ((2 ^ n:Nat):Int)]=some (jB 0 (2 ^ n)):=jb n hn
 obtain ⟨δ',e,y3,rfl⟩:=uo (b:=eU) (k:=3) (fun i δ=>∃ y3,δ = [.fz (jA n f),.fz (.int (wt n j:Nat)),.ow ((List.range i).map fun p=>cv (ah n f (.swing j) p)),y3]) (2 ^ n) (by
   rintro i hi δ ⟨y3,rfl⟩
   have e:=Ag hn f hf hL hj i hi ((List.range i).map fun p=>cv (ah n f (.swing j) p)) (by simp; omega)
   refine ⟨[.fz (jA n f),.fz (.int (wt n j:Nat)),.ow ((List.range (i+1)).map fun p=>cv (ah n f (.swing j) p)),.fz (.int i)],?_,_,rfl⟩
   rw [List.range_succ,List.map_append]
   exact e) [.fz (jA n f),.fz (.int (wt n j:Nat)),.ow [],.un] ⟨_,rfl⟩
 have ln:=lN n f
 have tp:dS [.list ((List.range (2 ^ n)).map fun p=>cv (ah n f (.swing j) p))]=some (jA n (ah n f (.swing j))):=rfl
 exact Di _ _ _ _ _ _ _ ln hN e tp
omit hf hL
omit hn in
theorem wE {fi:Dv->Option (List D)} {caps:List (Nat×Str)} {fe:Dv->Option D} {δ:Dv} {N:Nat} {y:Nat->D} (e:fi δ = some ((List.range N).map fun k:Nat=>PyData.int (0+(k:Int)))) (hl:N<=16777216) (H:∀ p:Nat,p<N->fe (.fz (.int p)::capS δ caps)=some (y p)):eR fi caps sj fe δ = some (.list ((List.range N).map y)):=by
 refine fW e (by rw [List.length_range]; exact hl) fun p hp=>?_
 rw [Int.zero_add]
 exact H p (List.mem_range.mp hp)
omit hn in
theorem LS (X:D) (h e S:Int) (N:Nat) (x y:Nat->D) (ln:cB [X]=some (.int S)) (hN:cY [.int S]=some ((List.range N).map fun k:Nat=>PyData.int (0+(k:Int)))) (hl:N<=16777216) (a:∀ p:Nat,p<N->aE X (.int p)=some (x p))
  (t:∀ p:Nat,p<N->Builtin.bitAnd p h=h->dn [x p,.int e]=some (y p)) (u:∀ p:Nat,p<N->Builtin.bitAnd p h≠h->y p=x p):bz [X,.int h,.int e]=some (.tuple ((List.range N).map y)):=by
 have c:iE [.fz X,.fz (.int h),.fz (.int e)]=some (.list ((List.range N).map y)):=wE (by simp [ln,hN]) hl fun p hp=>by
  have a0:=a p hp
  by_cases q:Builtin.bitAnd p h=h
  ·have t:=t p hp q
   simp [capS,a0,q,t]
  ·have t:=u p hp q
   rw [t]
   simp [capS,a0,q]
 simp [bz,runB,fX,ak,c]
omit hn in
theorem M3 (X:D) (h w S:Int) (N:Nat) (x y:Nat->D) (ln:cB [X]=some (.int S)) (hN:cY [.int S]=some ((List.range N).map fun k:Nat=>PyData.int (0+(k:Int)))) (hl:N<=16777216) (a:∀ p:Nat,p<N->aE X (.int p)=some (x p))
  (t:∀ p:Nat,p<N->Builtin.bitAnd p h=h->∃ q:Nat,q<N/\Builtin.bitXor p w=q/\y p=x q) (u:∀ p:Nat,p<N->Builtin.bitAnd p h≠h->y p=x p):bn [X,.int h,.int w]=some (.tuple ((List.range N).map y)):=by
 have c:g8 [.fz X,.fz (.int h),.fz (.int w)]=some (.list ((List.range N).map y)):=wE (by simp [ln,hN]) hl fun p hp=>by
  have a0:=a p hp
  by_cases q:Builtin.bitAnd p h=h
  ·obtain ⟨q',hq,e1,e2⟩:=t p hp q
   have a1:=a q' hq
   rw [e2]
   simp [capS,e1,q,a1]
  ·have t:=u p hp q
   rw [t]
   simp [capS,a0,q]
 simp [bn,runB,e9,ak,c]
theorem FG (h e:Int) (g:Nat->Nu) (H:∀ p:Nat,p<2 ^ n->(Builtin.bitAnd p h=h->dn [cv (f p),.int e]=some (cv (g p)))/\(Builtin.bitAnd p h≠h->g p=f p)):bz [jA n f,.int h,.int e]=some (jA n g):=
 LS (jA n f) h e _ (2 ^ n) (fun p=>cv (f p)) (fun p=>cv (g p)) (lN n f) (jb n hn) (Nat.le_trans (qf hn) (by decide)) (fun p hp=>qb p rfl hp) (fun p hp q=>(H p hp).1 q) (fun p hp q=>congrArg cv ((H p hp).2 q))
theorem Gi (h w:Int) (g:Nat->Nu) (H:∀ p:Nat,p<2 ^ n->(Builtin.bitAnd p h=h->∃ q:Nat,q<2 ^ n/\Builtin.bitXor p w=q/\g p=f q)/\(Builtin.bitAnd p h≠h->g p=f p)):bn [jA n f,.int h,.int w]=some (jA n g):=
 M3 (jA n f) h w _ (2 ^ n) (fun p=>cv (f p)) (fun p=>cv (g p)) (lN n f) (jb n hn) (Nat.le_trans (qf hn) (by decide)) (fun p hp=>qb p rfl hp) (fun p hp q=>let ⟨q',h1,h2,h3⟩:=(H p hp).1 q; ⟨q',h1,h2,congrArg cv h3⟩) (fun p hp q=>congrArg cv ((H p hp).2 q))
omit hn in
theorem BT (p W m q r:Int) (c:Bool) {b:Bool} (h1:Builtin.bitAnd p W=m) (h2:Builtin.bitXor p W=q) (h3:fN false (.int m) (.tuple [.int 0,.int W])=some (.bool b)) (hb:b=c) (hr:(if c=true then p else q)=r):cl [.int p,.int W]=some (.int r):=by
 subst hb
 cases b
 ·simp at hr; subst hr; simp [cl,runB,gF,ak,h1,h2,h3]
 ·simp at hr; subst hr; simp [cl,runB,gF,ak,h1,h2,h3]
theorem E3 {i j:Nat} (hi:i<n) (hj:j<n) (hij:i≠j) {p:Nat} (hp:p<2 ^ n):cl [.int p,.int ((wt n i+wt n j:Nat):Int)]=some (.int (aT n (.cross i j) p:Nat)):=by
 have ha:=nB hn hi hj hij hp
 have b1:=MA.vc p (wt n i+wt n j)
 have b2:=MA.Fo p (wt n i+wt n j)
 rw [ha.2.1] at b1
 rw [ha.2.2] at b2
 have hwi:=MA.bp n i
 have hwj:=MA.bp n j
 have l1:=MA.ca (wt n i) p
 have l2:=MA.ca (wt n j) p
 have inT:∀ a b:Int,fN false (.int a) (.tuple [.int 0,.int b])=some (.bool (0==a||b==a)):=fun a b=>by
  show some (PyData.bool (PyData.eqv (.int 0) (.int a)||(PyData.eqv (.int b) (.int a)||false)))=_
  rw [Bool.or_false]
  rfl
 have ef:aT n (.cross i j) p=if aG (wt n i) p=aG (wt n j) p then p else flp (wt n j) (flp (wt n i) p):=rfl
 rw [ef]
 by_cases h:aG (wt n i) p=aG (wt n j) p
 ·rw [if_pos h]
  have hb:aG (wt n i) p=0\/aG (wt n i) p=1:=by omega
  refine BT _ _ _ _ _ true b1 b2 (inT _ _) ?_ rfl
  rcases hb with hb | hb
  ·rw [<- h,hb]; simp
  ·rw [<- h,hb]; simp
 ·rw [if_neg h]
  refine BT _ _ _ _ _ false b1 b2 (inT _ _) ?_ rfl
  have hb:(aG (wt n i) p=0/\aG (wt n j) p=1)\/(aG (wt n i) p=1/\aG (wt n j) p=0):=by omega
  rcases hb with ⟨hb,hc⟩ | ⟨hb,hc⟩
  ·rw [hb,hc,Nat.mul_zero,Nat.mul_one,Nat.zero_add,Bool.or_eq_false_iff,beq_eq_false_iff_ne,beq_eq_false_iff_ne]
   omega
  ·rw [hb,hc,Nat.mul_zero,Nat.mul_one,Nat.add_zero,Bool.or_eq_false_iff,beq_eq_false_iff_ne,beq_eq_false_iff_ne]
   omega
omit hn in
theorem M8 (X:D) (S W1 W2 W:Int) (N:Nat) (x y:Nat->D) (R w0:Sl) (ho:Builtin.bitOr W1 W2=W) (ln:cB [X]=some (.int S)) (hN:cY [.int S]=some ((List.range N).map fun k:Nat=>PyData.int (0+(k:Int)))) (hl:N<=16777216) (a:∀ p:Nat,p<N->aE X (.int p)=some (x p))
  (t:∀ p:Nat,p<N->∃ q:Nat,q<N/\cl [.int p,.int W]=some (.int q)/\y p=x q):rn [.fz X,R,w0,.fz (.int W1),.fz (.int W2)]=some (.list ((List.range N).map y)):=
 wE (by simp [ln,hN]) hl fun p hp=>by
  obtain ⟨q,hq,e1,e2⟩:=t p hp
  have a1:=a q hq
  rw [e2]
  simp [capS,ho,e1,a1]
section
omit hn
variable (X R Y:D) (S N w1 w2:Int) (i j:Int) (ln:cB [X]=some (.int S)) (bl:kM (.int S)=some (.int (N+1))) (r1:aE R (.int 1)=some (.int i)) (v1:dz [.int N,.int i]=some (.int w1))
include ln bl r1 v1
theorem r6 (r0:aE R (.int 0)=some (.str "swing")) (h:gA [X,.int w1]=some Y):cT [X,R]=some Y:=by
 simp [-sSeq,-sIf,aq,aC,cT,runB,iY,ak,ln,bl,r0,r1,v1,h]
theorem uT (r0:aE R (.int 0)=some (.str "turn")) (r2:aE R (.int 2)=some (.int j)) (h:bz [X,.int w1,.int j]=some Y):cT [X,R]=some Y:=by
 simp [-sSeq,-sIf,aq,aC,cT,runB,iY,ak,ln,bl,r0,r1,r2,v1,h]
theorem uV (r0:aE R (.int 0)=some (.str "flip")) (h:bn [X,.int 0,.int w1]=some Y):cT [X,R]=some Y:=by
 simp [-sSeq,-sIf,aq,aC,cT,runB,iY,ak,ln,bl,r0,r1,v1,h]
variable (r2:aE R (.int 2)=some (.int j)) (v2:dz [.int N,.int j]=some (.int w2))
include r2 v2
theorem wy (r0:aE R (.int 0)=some (.str "tie")) (h:bn [X,.int w1,.int w2]=some Y):cT [X,R]=some Y:=by
 simp [-sSeq,-sIf,aq,aC,cT,runB,iY,ak,ln,bl,r0,r1,r2,v1,v2,h]
theorem uU (W:Int) (ho:Builtin.bitOr w1 w2=W) (r0:aE R (.int 0)=some (.str "sign")) (h:bz [X,.int W,.int 4]=some Y):cT [X,R]=some Y:=by
 simp [-sSeq,-sIf,aq,aC,cT,runB,iY,ak,ln,bl,r0,r1,r2,v1,v2,ho,h]
theorem r8 (L:D) (r0:aE R (.int 0)=some (.str "cross")) (h:rn [.fz X,.fz R,.fz (.int N),.fz (.int w1),.fz (.int w2)]=some L) (t:dS [L]=some Y):cT [X,R]=some Y:=by
 simp [-sSeq,-sIf,aq,aC,cT,runB,iY,ak,ln,bl,r0,r1,r2,v1,v2,h,t]
end
include hf hL
theorem Fa (r:Row) (hr:r.ok n):cT [jA n f,rowD r]=some (jA n (ah n f r)):=by
 have ln:=lN n f
 have bl:=sP hn f
 have sq:=qf hn
 cases r with
 | swing j=>exact r6 _ _ _ _ _ _ _ ln bl rfl (de hn hr) rfl (Af hn f hf hL hr)
 | turn j e=>
  refine uT _ _ _ _ _ _ _ _ ln bl rfl (de hn hr.1) rfl rfl (FG hn f _ _ _ fun p hp=>?_)
  have ha:=(mq hn hr.1 hp).1
  have b1:=MA.vc p (wt n j)
  rw [ha] at b1
  have hw:=MA.bp n j
  have hb:aG (wt n j) p=0\/aG (wt n j) p=1:=by have:=MA.ca (wt n j) p; omega
  have e1:ah n f (.turn j e) p=MA.bf (e*aG (wt n j) p) (f p):=rfl
  rw [e1,b1]
  rcases hb with hb | hb
  ·rw [hb,Nat.mul_zero,Nat.mul_zero]
   exact ⟨fun q=>absurd q (by omega),fun _=>rfl⟩
  ·rw [hb,Nat.mul_one,Nat.mul_one]
   exact ⟨fun _=>sV hn _ _,fun q=>absurd rfl q⟩
 | flip j=>
  refine uV _ _ _ _ _ _ _ ln bl rfl (de hn hr) rfl (Gi hn f _ _ _ fun p hp=>?_)
  have b2:=MA.Fo p (wt n j)
  rw [(mq hn hr hp).2] at b2
  have b0:=MA.vc p 0
  rw [Nat.and_zero] at b0
  exact ⟨fun _=>⟨_,MA.jI hr hp,b2,rfl⟩,fun q=>absurd b0 q⟩
 | tie i j=>
  refine wy _ _ _ _ _ _ _ _ _ ln bl rfl (de hn hr.1) rfl (de hn hr.2.1) rfl (Gi hn f _ _ _ fun p hp=>?_)
  have b2:=MA.Fo p (wt n j)
  rw [(mq hn hr.2.1 hp).2] at b2
  have b1:=MA.vc p (wt n i)
  rw [(mq hn hr.1 hp).1] at b1
  have hw:=MA.bp n i
  have hb:aG (wt n i) p=0\/aG (wt n i) p=1:=by have:=MA.ca (wt n i) p; omega
  have e1:ah n f (.tie i j) p=f (if aG (wt n i) p=0 then p else flp (wt n j) p):=rfl
  rw [e1,b1]
  rcases hb with hb | hb
  ·rw [hb,Nat.mul_zero]
   exact ⟨fun q=>absurd q (by omega),fun _=>rfl⟩
  ·rw [hb,Nat.mul_one,if_neg (by decide)]
   exact ⟨fun _=>⟨_,MA.jI hr.2.1 hp,b2,rfl⟩,fun q=>absurd rfl q⟩
 | sign i j=>
  have ho:=MA.Nk (wt n i) (wt n j)
  rw [(nB hn hr.1 hr.2.1 hr.2.2 (p:=0) (Nat.pow_pos (by decide))).1] at ho
  refine uU _ _ _ _ _ _ _ _ _ ln bl rfl (de hn hr.1) rfl (de hn hr.2.1) _ ho rfl (FG hn f _ _ _ fun p hp=>?_)
  have b1:=MA.vc p (wt n i+wt n j)
  rw [(nB hn hr.1 hr.2.1 hr.2.2 hp).2.1] at b1
  have hw:=MA.bp n i
  have hw2:=MA.bp n j
  have hb:aG (wt n i) p=0\/aG (wt n i) p=1:=by have:=MA.ca (wt n i) p; omega
  have hc:aG (wt n j) p=0\/aG (wt n j) p=1:=by have:=MA.ca (wt n j) p; omega
  have e1:ah n f (.sign i j) p=MA.bf (4*aG (wt n i) p*aG (wt n j) p) (f p):=rfl
  rw [e1,b1]
  rcases hb with hb | hb
  ·rw [hb,Nat.mul_zero,Nat.mul_zero,Nat.zero_mul]
   refine ⟨fun q=>absurd q ?_,fun _=>rfl⟩
   rcases hc with hc | hc <;> rw [hc] <;> omega
  ·rcases hc with hc | hc
   ·rw [hb,hc,Nat.mul_one,Nat.mul_zero,Nat.mul_zero]
    exact ⟨fun q=>absurd q (by omega),fun _=>rfl⟩
   ·rw [hb,hc,Nat.mul_one,Nat.mul_one,Nat.mul_one,Nat.mul_one]
    exact ⟨fun _=>sV hn _ 4,fun q=>absurd rfl q⟩
 | cross i j=>
  have ho:=MA.Nk (wt n i) (wt n j)
  rw [(nB hn hr.1 hr.2.1 hr.2.2 (p:=0) (Nat.pow_pos (by decide))).1] at ho
  refine r8 _ _ _ _ _ _ _ _ _ ln bl rfl (de hn hr.1) rfl (de hn hr.2.1) _ rfl (M8 (jA n f) _ _ _ _ (2 ^ n) (fun p=>cv (f p)) (fun p=>cv (ah n f (.cross i j) p)) _ _ ho ln (jb n hn) (by omega) (fun p hp=>qb p rfl hp) fun p hp=>?_) rfl
  exact ⟨_,MA.EX (r:=.cross i j) hr hp,E3 hn hr.1 hr.2.1 hr.2.2 hp,rfl⟩
end
theorem JC (w:Nat) (h:w<=100):lA (.int 1) (.int (w:Int))=some (.int ((2 ^ w:Nat):Int)):=by
 have hb:Builtin.Int.intBits 1=1:=by decide +kernel
 have e:=nZ (i:=1) (j:=(w:Int)) (by omega) (by omega)
 rw [e]
 simp
theorem DX (p q:Nat):(if (q:Int)=(p:Int) then some (PyData.tuple [.int 1,.int 0,.int 0,.int 0,.int 0]) else some (PyData.tuple [.int 0,.int 0,.int 0,.int 0,.int 0]))=some (cv (MA.fm p q)):=by
 unfold MA.fm
 by_cases h:q=p
 ·rw [if_pos h,if_pos (by omega)]; rfl
 ·rw [if_neg h,if_neg (by omega)]; rfl
theorem Lf (w M:Int) (N:Nat) (p:Nat) (hl:N<=16777216) (hs:lA (.int 1) (.int w)=some (.int M)) (hN:cY [.int M]=some ((List.range N).map fun k:Nat=>PyData.int (0+(k:Int)))):cm [.int w,.int p]=some (.tuple ((List.range N).map fun q=>cv (MA.fm p q))):=by
 have c:ki [.fz (.int w),.fz (.int p)]=some (.list ((List.range N).map fun q=>cv (MA.fm p q))):=xX (by simp [hs,hN]) hl fun q hq=>by
  have:=DX p q
  simp [-Int.natCast_inj,capS,this]
 simp [cm,runB,iZ,ak,c]
theorem Ci {n:Nat} (hn:n<=6) (p:Nat):cm [.int n,.int p]=some (jA n (MA.fm p)):=
 Lf _ _ (2 ^ n) p (Nat.le_trans (Nat.pow_le_pow_right (by decide) hn:2 ^ n<=2 ^ 6) (by decide)) (JC n (by omega)) (jb n hn)
theorem Hf (p:Nat):Bd 0 0 (MA.fm p):=fun x=>by
 unfold MA.fm
 split
 ·exact ⟨Nat.le_refl _,by decide,by decide,by decide,by decide⟩
 ·exact ⟨Nat.le_refl _,by decide,by decide,by decide,by decide⟩
theorem Eh {d:D} {k:Nat} (h:MA.Sh k d) (hk:k<=64):neD d d=some (.bool false):=by
 have hs:pF d=true:=by
  show (d.canLay0&&decide (d.depth<=64))=true
  rw [h.1,decide_eq_true (Nat.le_trans h.2 hk)]; rfl
 unfold neD
 rw [if_pos ⟨hs,hs⟩,MA.uQ d h.1]
 rfl
open MA (Row)
inductive Rw where
 | pl (r:Row) | look (j:Nat) | wflip (m j:Nat) | wsign (m j:Nat)
noncomputable def rwD:Rw->D
 | .pl r=>rowD r
 | .look j=>.tuple [.str "look",.int j]
 | .wflip m j=>.tuple [.str "where",.int m,.tuple [.str "flip",.int j]]
 | .wsign m j=>.tuple [.str "where",.int m,.tuple [.str "turn",.int j,.int 4]]
def Rw.ok (w l:Nat):Rw->Prop
 | .pl r=>r.ok w
 | .look j=>j<w/\l<6
 | .wflip m j=>m<l/\j<w
 | .wsign m j=>m<l/\j<w
noncomputable def Rw.isLook:Rw->Bool
 | .look _=>true
 | _=>false
noncomputable def Rw.isPl:Rw->Bool
 | .pl _=>true
 | _=>false
theorem Bf (c:Int):∃ T:Nat,bC [.int c,.int 2147483647]=some (.int T):=by
 have h0:0<=c % 1000003:=Int.emod_nonneg _ (by decide)
 have h1:c % 1000003<1000003:=Int.emod_lt_of_pos _ (by decide)
 have m:IntMulOk (c % 1000003+11) (c % 1000003+48271):=.of_left (Nat.le_trans (MA.sn (m:=21) (by omega)) (by decide))
 have h2:0<=(c % 1000003+11)*(c % 1000003+48271) % 2147483647:=Int.emod_nonneg _ (by decide)
 refine ⟨((c % 1000003+11)*(c % 1000003+48271) % 2147483647).toNat,?_⟩
 rw [Int.toNat_of_nonneg h2]
 simp [-sSeq,-sIf,aq,aC,bC,runB,gG,ak,m]
theorem JS (m:Int) (h1:7<m) (h2:m<13):∃ s:Str,jl [PyData.str "tie",.str "sign",.str "cross",.str "tie",.str "sign"] (m-8)=some (.str s)/\(s = "tie" \/ s = "sign" \/ s = "cross"):=by
 have:m=8\/m=9\/m=10\/m=11\/m=12:=by omega
 rcases this with h | h | h | h | h <;> subst h
 ·exact ⟨"tie",at0 _ _,.inl rfl⟩
 ·exact ⟨"sign",at1 _ _ _,.inr (.inl rfl)⟩
 ·exact ⟨"cross",Gq _ _ _ _,.inr (.inr rfl)⟩
 ·exact ⟨"tie",OT _ _ _ _ _,.inl rfl⟩
 ·exact ⟨"sign",OS _ _ _ _ _ _,.inr (.inl rfl)⟩
section
variable (c w l T j t i mx q:Int) (hm0:0<=c % 16) (hm1:c % 16<16) (hT:bC [.int c,.int 2147483647]=some (.int T)) (hj:bP (.int (T / 7 / 16)) (.int w)=some (.int j)) (hx:rM [.int 1,.int (w-1)]=some (.int mx)) (ht:bP (.int (T / 7 / 96)) (.int mx)=some (.int t)) (hi:bP (.int (j+1+t)) (.int w)=some (.int i))
include hT hj hx ht hi
theorem vW (p:Bool) (h:c % 16<4):aL [.int c,.int w,.int l,.bool p]=some (.tuple [.str "swing",.int j]):=by
 simp [-sSeq,-sIf,aq,aC,-cO,aL,runB,b8,ak,hT,hj,hx,ht,hi,h]
theorem ze (p:Bool) (h:¬ c % 16<4) (h2:c % 16<7):aL [.int c,.int w,.int l,.bool p]=some (.tuple [.str "turn",.int j,.int (1+T / 7 / 600 % 7)]):=by
 simp [-sSeq,-sIf,aq,aC,-cO,aL,runB,b8,ak,hT,hj,hx,ht,hi,h,h2]
theorem Bh (p:Bool) (h:¬ c % 16<4) (h2:¬ c % 16<7) (h3:7<c % 16) (h4:c % 16<13) (h5:1<w) (s:D) (hs:jl [PyData.str "tie",.str "sign",.str "cross",.str "tie",.str "sign"] (c % 16-8)=some s):aL [.int c,.int w,.int l,.bool p]=some (.tuple [s,.int i,.int j]):=by
 simp [-sSeq,-sIf,aq,aC,-cO,aL,runB,b8,ak,hT,hj,hx,ht,hi,h,h2,h3,h4,h5,yW,hs]
theorem zg (p:Bool) (h:¬ c % 16<4) (h2:¬ c % 16<7) (h3:¬ (7<c % 16/\c % 16<13/\1<w)) (h4:c % 16=7\/p=true):aL [.int c,.int w,.int l,.bool p]=some (.tuple [.str "flip",.int j]):=by
 by_cases a:7<c % 16
 ·by_cases b:c % 16<13
  ·have d:¬ 1<w:=fun z=>h3 ⟨a,b,z⟩
   have e:¬ c % 16=7:=by omega
   have f:p=true:=by rcases h4 with z | z; exact absurd z e; exact z
   simp [-sSeq,-sIf,aq,aC,-cO,aL,runB,b8,ak,hT,hj,hx,ht,hi,h,h2,a,b,d,e,f,yW]
  ·have e:¬ c % 16=7:=by omega
   have f:p=true:=by rcases h4 with z | z; exact absurd z e; exact z
   simp [-sSeq,-sIf,aq,aC,-cO,aL,runB,b8,ak,hT,hj,hx,ht,hi,h,h2,a,b,e,f,yW]
 ·have e:c % 16=7:=by omega
  simp [-sSeq,-sIf,aq,aC,-cO,aL,runB,b8,ak,hT,hj,hx,ht,hi,e,yW]
theorem zf (h:¬ c % 16<4) (h2:¬ c % 16<7) (h3:¬ (7<c % 16/\c % 16<13/\1<w)) (h4:¬ c % 16=7) (h5:l<6) (h6:c % 16<14\/l=0):aL [.int c,.int w,.int l,.bool false]=some (.tuple [.str "look",.int j]):=by
 have a:7<c % 16:=by omega
 have k:(gh (ob (yW (oC (.int 7)) (o2 (oV 0) (oC (.int 16)) bP) (oC (.int 13)) vm vm)) (ob (o2 (oV 1) (oC (.int 1)) KO))) [.fz (.int c),.fz (.int w),.fz (.int l),.fz (.bool false),.fz (.int (T / 7)),.fz (.int j),.fz (.int i)]=some false:=by
  by_cases b:c % 16<13
  ·have d:¬ 1<w:=fun z=>h3 ⟨a,b,z⟩
   simp [yW,a,b,d]
  ·simp [yW,a,b]
 rcases h6 with z | z
 ·simp [-sSeq,-sIf,aq,aC,-gh,-cO,aL,runB,b8,ak,hT,hj,hx,ht,hi,h,h2,k,h4]
  simp [h5,z]
 ·simp [-sSeq,-sIf,aq,aC,-gh,-cO,aL,runB,b8,ak,hT,hj,hx,ht,hi,h,h2,k,h4]
  simp [h5,z]
theorem oD (h:¬ c % 16<4) (h2:¬ c % 16<7) (h3:¬ (7<c % 16/\c % 16<13/\1<w)) (h4:¬ c % 16=7) (h5:¬ (l<6/\(c % 16<14\/l=0))) (h6:¬ l=0) (hq:bP (.int (T / 7 / 4200)) (.int l)=some (.int q)) (s:D) (hs:jl [PyData.tuple [.str "flip",.int j],.tuple [.str "turn",.int j,.int 4]] (T / 7 / 29400 % 2)=some s):aL [.int c,.int w,.int l,.bool false]=some (.tuple [.str "where",.int q,s]):=by
 have a:7<c % 16:=by omega
 have k:(gh (ob (yW (oC (.int 7)) (o2 (oV 0) (oC (.int 16)) bP) (oC (.int 13)) vm vm)) (ob (o2 (oV 1) (oC (.int 1)) KO))) [.fz (.int c),.fz (.int w),.fz (.int l),.fz (.bool false),.fz (.int (T / 7)),.fz (.int j),.fz (.int i)]=some false:=by
  by_cases b:c % 16<13
  ·have d:¬ 1<w:=fun z=>h3 ⟨a,b,z⟩
   simp [yW,a,b,d]
  ·simp [yW,a,b]
 have k2:(gh (ob (o2 (oV 2) (oC (.int 6)) vm)) (vV (ob (o2 (o2 (oV 0) (oC (.int 16)) bP) (oC (.int 14)) vm)) (ob (o2 (oV 2) (oC (.int 0)) aS)))) [.fz (.int c),.fz (.int w),.fz (.int l),.fz (.bool false),.fz (.int (T / 7)),.fz (.int j),.fz (.int i)]=some false:=by
  by_cases b:l<6
  ·have d:¬ c % 16<14:=fun z=>h5 ⟨b,.inl z⟩
   simp [b,d,h6]
  ·simp [b]
 have h6':(l==0)=false:=by simpa using h6
 simp [-sSeq,-sIf,aq,aC,-gh,-cO,aL,runB,b8,ak,hT,hj,hx,ht,hi,h,h2,k,k2,h4,h6,h6',hq,hs]
end
theorem xG (c:Int) (w l:Nat) (hw:1<=w) (p:Bool):∃ r:Rw,aL [.int c,.int w,.int l,.bool p]=some (rwD r)/\r.ok w l/\(p=true->r.isPl=true):=by
 obtain ⟨T,hT⟩:=Bf c
 have hw0:(0:Int)<w:=by omega
 have a1:=Int.emod_nonneg ((T:Int) / 7 / 16) (show (w:Int)≠0 by omega)
 have a2:=Int.emod_lt_of_pos ((T:Int) / 7 / 16) hw0
 obtain ⟨j,hj⟩:∃ j:Nat,(T:Int) / 7 / 16 % w=j:=⟨((T:Int) / 7 / 16 % w).toNat,by omega⟩
 have ej:=fS (i:=(T:Int) / 7 / 16) hw0
 rw [hj] at ej a1 a2
 obtain ⟨mx,ex,x1,x2,x3⟩:=(⟨_,cO 1 (w-1),by split <;> omega,by split <;> omega,by split <;> omega⟩:∃ m:Int,rM [.int 1,.int ((w:Int)-1)]=some (.int m)/\1<=m/\(w:Int)-1<=m/\(m=1\/m=w-1))
 have b1:=Int.emod_nonneg ((T:Int) / 7 / 96) (show mx≠0 by omega)
 have b2:=Int.emod_lt_of_pos ((T:Int) / 7 / 96) (show 0<mx by omega)
 have et:=fS (i:=(T:Int) / 7 / 96) (show 0<mx by omega)
 generalize (T:Int) / 7 / 96 % mx=t at *
 have c1:=Int.emod_nonneg ((j:Int)+1+t) (show (w:Int)≠0 by omega)
 have c2:=Int.emod_lt_of_pos ((j:Int)+1+t) hw0
 have ei:=fS (i:=(j:Int)+1+t) hw0
 obtain ⟨i,hi⟩:∃ i:Nat,((j:Int)+1+t) % w=i:=⟨(((j:Int)+1+t) % w).toNat,by omega⟩
 have hij:1<w->i≠j:=fun h1 z=>by
  have:t+1<w:=by omega
  by_cases hh:(j:Int)+1+t<w
  ·rw [Int.emod_eq_of_lt (by omega) hh] at hi; omega
  ·have:((j:Int)+1+t) % w=(j:Int)+1+t-w:=by
    rw [<- Int.sub_emod_right,Int.emod_eq_of_lt (by omega) (by omega)]
   omega
 rw [hi] at ei c1 c2
 have m0:0<=c % 16:=Int.emod_nonneg _ (by decide)
 by_cases h1:c % 16<4
 ·exact ⟨.pl (.swing j),vW c w l T j t i mx hT ej ex et ei p h1,(show j<w by omega),fun _=>rfl⟩
 by_cases h2:c % 16<7
 ·obtain ⟨e,he⟩:∃ e:Nat,1+(T:Int) / 7 / 600 % 7=e:=⟨(1+(T:Int) / 7 / 600 % 7).toNat,by omega⟩
  have q:=ze c w l T j t i mx hT ej ex et ei p h1 h2
  rw [he] at q
  exact ⟨.pl (.turn j e),q,(show j<w/\1<=e/\e<=7 by omega),fun _=>rfl⟩
 by_cases h3:7<c % 16/\c % 16<13/\(1:Int)<w
 ·obtain ⟨s,hs,h⟩:=JS (c % 16) h3.1 h3.2.1
  have q:=Bh c w l T j t i mx hT ej ex et ei p h1 h2 h3.1 h3.2.1 h3.2.2 _ hs
  have k:i<w/\j<w/\i≠j:=⟨by omega,by omega,hij (by omega)⟩
  rcases h with rfl | rfl | rfl
  ·exact ⟨.pl (.tie i j),q,k,fun _=>rfl⟩
  ·exact ⟨.pl (.sign i j),q,k,fun _=>rfl⟩
  ·exact ⟨.pl (.cross i j),q,k,fun _=>rfl⟩
 by_cases h4:c % 16=7\/p=true
 ·exact ⟨.pl (.flip j),zg c w l T j t i mx hT ej ex et ei p h1 h2 h3 h4,(show j<w by omega),fun _=>rfl⟩
 have hp:p=false:=by cases p; rfl; exact absurd (.inr rfl) h4
 subst hp
 have h4':¬ c % 16=7:=fun z=>h4 (.inl z)
 by_cases h5:(l:Int)<6/\(c % 16<14\/(l:Int)=0)
 ·exact ⟨.look j,zf c w l T j t i mx hT ej ex et ei h1 h2 h3 h4' h5.1 h5.2,(show j<w/\l<6 by omega),fun z=>(nomatch z)⟩
 have h6:¬ (l:Int)=0:=by omega
 have hq:=fS (i:=(T:Int) / 7 / 4200) (show (0:Int)<l by omega)
 have d1:=Int.emod_nonneg ((T:Int) / 7 / 4200) (show (l:Int)≠0 by omega)
 have d2:=Int.emod_lt_of_pos ((T:Int) / 7 / 4200) (show (0:Int)<l by omega)
 obtain ⟨m,hm⟩:∃ m:Nat,(T:Int) / 7 / 4200 % l=m:=⟨((T:Int) / 7 / 4200 % l).toNat,by omega⟩
 rw [hm] at hq d1 d2
 have k:m<l/\j<w:=by omega
 have:(T:Int) / 7 / 29400 % 2=0\/(T:Int) / 7 / 29400 % 2=1:=by omega
 rcases this with z | z
 ·exact ⟨.wflip m j,oD c w l T j t i mx m hT ej ex et ei h1 h2 h3 h4' h5 h6 hq _ (by rw [z]; exact at0 _ _),k,fun z=>(nomatch z)⟩
 ·exact ⟨.wsign m j,oD c w l T j t i mx m hT ej ex et ei h1 h2 h3 h4' h5 h6 hq _ (by rw [z]; exact at1 _ _ _),k,fun z=>(nomatch z)⟩
noncomputable def cw (w:Nat) (rs:List Rw):D:=.tuple [.int w,.tuple (rs.map rwD)]
theorem n0 {a b:Sf} {δ δ1:Dv} (h:a δ = some (.nx,δ1)):sSeq a b δ = b δ1:=by simp [h]
def oS:Rw->Prop
 | .pl (.tie i j)=>i≠j
 | .pl (.sign i j)=>i≠j
 | .pl (.cross i j)=>i≠j
 | _=>True
theorem EW {w l:Nat} {r:Rw} (h:r.ok w l):oS r:=by
 cases r with
 | pl r=>cases r <;> first | exact h.2.2 | exact trivial
 | _=>exact trivial
inductive Kd where
 | hold | flip | other
deriving DecidableEq
noncomputable def Kd.s:Kd->Str
 | .hold=>"hold"
 | .flip=>"flip"
 | .other=>"other"
noncomputable def kl:Rw->List (Nat×Kd)
 | .pl (.swing j)=>[(j,.other)]
 | .pl (.turn j _)=>[(j,.hold)]
 | .pl (.flip j)=>[(j,.flip)]
 | .pl (.tie i j)=>[(i,.hold),(j,.flip)]
 | .pl (.sign i j)=>[(i,.hold),(j,.hold)]
 | .pl (.cross i j)=>[(i,.other),(j,.other)]
 | .look j=>[(j,.hold)]
 | .wflip _ j=>[(j,.flip)]
 | .wsign _ j=>[(j,.hold)]
theorem sl2 (a b:D):tz (.tuple [a,b]) (some 1) none=some (.tuple [b]):=rfl
noncomputable def bad (p q:Nat×Kd):Bool:=(p.1==q.1)&&(decide (p.2≠q.2)||decide (p.2=.other))
noncomputable def pi (r q:Rw) (m:Int):Bool:=match r with
 | .wflip k _=>q.isLook&&((k:Int)==m)
 | .wsign k _=>q.isLook&&((k:Int)==m)
 | _=>false
noncomputable def cG (r q:Rw):Bool:=(kl r).any fun p=>(kl q).any (bad p)
noncomputable def kx (r q:Rw) (m:Int):Bool:=!(r.isLook&&q.isLook) && !(pi q r m||pi r q m) && !cG r q
noncomputable def Rw.wd:Rw->Str
 | .pl (.swing _)=>"swing"
 | .pl (.turn _ _)=>"turn"
 | .pl (.flip _)=>"flip"
 | .pl (.tie _ _)=>"tie"
 | .pl (.sign _ _)=>"sign"
 | .pl (.cross _ _)=>"cross"
 | .look _=>"look"
 | .wflip _ _=>"where"
 | .wsign _ _=>"where"
theorem dg (r:Rw):aE (rwD r) (.int 0)=some (.str r.wd):=by
 cases r with
 | pl r=>cases r <;> exact at0 _ _
 | _=>exact at0 _ _
theorem jU (r:Rw):mF r.wd=true:=by
 cases r with
 | pl r=>cases r; exact aW; exact aP; exact aR; exact bH; exact bw; exact bZ
 | look j=>exact ba
 | wflip m j=>exact bh
 | wsign m j=>exact bh
noncomputable def Rw.isW:Rw->Bool
 | .wflip _ _=>true
 | .wsign _ _=>true
 | _=>false
theorem m9 (r:Rw):(r.wd==("look":Str))=r.isLook:=by
 cases r with
 | pl r=>
  cases r
  ·exact (by decide +kernel:(("swing":Str) == "look")=false)
  ·exact (by decide +kernel:(("turn":Str) == "look")=false)
  ·exact (by decide +kernel:(("flip":Str) == "look")=false)
  ·exact (by decide +kernel:(("tie":Str) == "look")=false)
  ·exact (by decide +kernel:(("sign":Str) == "look")=false)
  ·exact (by decide +kernel:(("cross":Str) == "look")=false)
 | look j=>exact (by decide +kernel:(("look":Str) == "look")=true)
 | wflip m j=>exact (by decide +kernel:(("where":Str) == "look")=false)
 | wsign m j=>exact (by decide +kernel:(("where":Str) == "look")=false)
theorem zV (r:Rw):(r.wd==("where":Str))=r.isW:=by
 cases r with
 | pl r=>
  cases r
  ·exact (by decide +kernel:(("swing":Str) == "where")=false)
  ·exact (by decide +kernel:(("turn":Str) == "where")=false)
  ·exact (by decide +kernel:(("flip":Str) == "where")=false)
  ·exact (by decide +kernel:(("tie":Str) == "where")=false)
  ·exact (by decide +kernel:(("sign":Str) == "where")=false)
  ·exact (by decide +kernel:(("cross":Str) == "where")=false)
 | look j=>exact (by decide +kernel:(("look":Str) == "where")=false)
 | wflip m j=>exact (by decide +kernel:(("where":Str) == "where")=true)
 | wsign m j=>exact (by decide +kernel:(("where":Str) == "where")=true)
theorem ir (r:Rw):aS (.str r.wd) (.str "look")=some (.bool r.isLook):=by rw [dM (jU r) ba,m9]
theorem xD (r:Rw):neD (.str r.wd) (.str "look")=some (.bool (!r.isLook)):=by rw [NQ (jU r) ba,m9]
theorem uR (r:Rw):aS (.str r.wd) (.str "where")=some (.bool r.isW):=by rw [dM (jU r) bh,zV]
theorem JB {a:Str} (h:mF a=true):(PyData.str a).canLay0=true:=(Bool.and_eq_true_iff.mp h).1
theorem Kl {r:Rw} (h:r.isW=true):∃ k:Nat,aE (rwD r) (.int 1)=some (.int k)/\∀ q m,pi r q m=(q.isLook&&((k:Int)==m)):=by
 cases r with
 | wflip k j=>exact ⟨k,at1 _ _ _,fun _ _=>rfl⟩
 | wsign k j=>exact ⟨k,at1 _ _ _,fun _ _=>rfl⟩
 | _=>cases h
theorem Fz {r:Rw} (h:r.isW=false) (q:Rw) (m:Int):pi r q m=false:=by
 cases r with
 | wflip k j=>cases h
 | wsign k j=>cases h
 | _=>rfl
noncomputable def wl:Rw->List Nat
 | .pl (.swing j)=>[j]
 | .pl (.turn j _)=>[j]
 | .pl (.flip j)=>[j]
 | .pl (.tie i j)=>[min i j,max i j]
 | .pl (.sign i j)=>[min i j,max i j]
 | .pl (.cross i j)=>[min i j,max i j]
 | .look j=>[j]
 | .wflip _ j=>[j]
 | .wsign _ j=>[j]
theorem vo (G:List D->Option D) (r:Row):runB eL 1 (bK G) [rowD r]=some (.tuple ((wl (.pl r)).map fun n:Nat=>.int n)):=by
 cases r with
 | swing j=>simp [-sSeq,-sIf,aq,aC,runB,bK,ak,rowD,wl]
 | turn j e=>simp [-sSeq,-sIf,aq,aC,runB,bK,ak,rowD,wl]
 | flip j=>simp [-sSeq,-sIf,aq,aC,runB,bK,ak,rowD,wl]
 | tie i j=>simp [-sSeq,-sIf,aq,aC,runB,bK,ak,rowD,wl]; refine ⟨?_,?_⟩ <;> split <;> omega
 | sign i j=>simp [-sSeq,-sIf,aq,aC,runB,bK,ak,rowD,wl]; refine ⟨?_,?_⟩ <;> split <;> omega
 | cross i j=>simp [-sSeq,-sIf,aq,aC,runB,bK,ak,rowD,wl]; refine ⟨?_,?_⟩ <;> split <;> omega
theorem sO (G:List D->Option D) (m:Int) (I L:D) (h:G [I]=some L):runB eL 1 (bK G) [.tuple [.str "where",.int m,I]]=some L:=by
 simp [-sSeq,-sIf,aq,aC,runB,bK,ak,h]
theorem C7 (G:List D->Option D) (j:Nat):runB eL 1 (bK G) [rwD (.look j)]=some (.tuple ((wl (.look j)).map fun n:Nat=>.int n)):=by
 simp [-sSeq,-sIf,aq,aC,runB,bK,ak,rwD,wl]
theorem jT (r:Rw):bm [rwD r]=some (.tuple ((wl r).map fun n:Nat=>.int n)):=by
 cases r with
 | pl r=>exact vo (bY 7) r
 | look j=>exact C7 (bY 7) j
 | wflip m j=>exact sO (bY 7) m _ _ (vo (bY 6) (.flip j))
 | wsign m j=>exact sO (bY 7) m _ _ (vo (bY 6) (.turn j 4))
noncomputable def inr:Rw->D
 | .wflip _ j=>.tuple [.str "flip",.int j]
 | .wsign _ j=>.tuple [.str "turn",.int j,.int 4]
 | r=>rwD r
theorem uF (r:Rw):bG [rwD r]=some (inr r):=by
 cases r with
 | pl r=>cases r <;> simp [-sSeq,-sIf,aq,aC,bG,runB,dP,ak,rwD,rowD,inr]
 | look j=>simp [-sSeq,-sIf,aq,aC,bG,runB,dP,ak,rwD,inr]
 | wflip m j=>simp [-sSeq,-sIf,aq,aC,bG,runB,dP,ak,rwD,inr]
 | wsign m j=>simp [-sSeq,-sIf,aq,aC,bG,runB,dP,ak,rwD,inr]
noncomputable def fl (r:Rw) (w:Nat):Option Bool:=match r with
 | .pl (.swing _)=>none
 | .pl (.cross _ _)=>none
 | .pl (.flip _)=>some true
 | .wflip _ _=>some true
 | .pl (.tie _ j)=>some (j==w)
 | _=>some false
noncomputable def pN:Option Bool->D
 | none=>.none
 | some b=>.bool b
theorem zu:fN false (.str "swing") (.tuple [.str "swing",.str "cross"])=some (.bool true):=by rfl
theorem zv:fN false (.str "cross") (.tuple [.str "swing",.str "cross"])=some (.bool true):=by rfl
theorem uG:fN false (.str "turn") (.tuple [.str "swing",.str "cross"])=some (.bool false):=by rfl
theorem uH:fN false (.str "flip") (.tuple [.str "swing",.str "cross"])=some (.bool false):=by rfl
theorem ER:fN false (.str "tie") (.tuple [.str "swing",.str "cross"])=some (.bool false):=by rfl
theorem BG:fN false (.str "sign") (.tuple [.str "swing",.str "cross"])=some (.bool false):=by rfl
theorem BH:fN false (.str "look") (.tuple [.str "swing",.str "cross"])=some (.bool false):=by rfl
theorem xF (a b:Nat):(((a:Int)==(b:Int)):Bool)=(a==b):=by
 rw [Bool.eq_iff_iff,beq_iff_eq,beq_iff_eq]; omega
theorem kC (r:Rw) (w:Nat):ck [inr r,.int w]=some (pN (fl r w)):=by
 cases r with
 | pl r=>
  cases r with
  | swing j=>simp [-sSeq,-sIf,aq,aC,ck,runB,eh,ak,rwD,rowD,inr,fl,pN,zu]
  | turn j e=>simp [-sSeq,-sIf,aq,aC,ck,runB,eh,ak,rwD,rowD,inr,fl,pN,uG]
  | flip j=>simp [-sSeq,-sIf,aq,aC,ck,runB,eh,ak,rwD,rowD,inr,fl,pN,uH]
  | tie i j=>simp [-sSeq,-sIf,aq,aC,ck,runB,eh,ak,rwD,rowD,inr,fl,pN,ER]; exact xF j w
  | sign i j=>simp [-sSeq,-sIf,aq,aC,ck,runB,eh,ak,rwD,rowD,inr,fl,pN,BG]
  | cross i j=>simp [-sSeq,-sIf,aq,aC,ck,runB,eh,ak,rwD,rowD,inr,fl,pN,zv]
 | look j=>simp [-sSeq,-sIf,aq,aC,ck,runB,eh,ak,rwD,inr,fl,pN,BH]
 | wflip m j=>simp [-sSeq,-sIf,aq,aC,ck,runB,eh,ak,inr,fl,pN,uH]
 | wsign m j=>simp [-sSeq,-sIf,aq,aC,ck,runB,eh,ak,inr,fl,pN,uG]
noncomputable def pq (r q:Rw) (w:Nat):Bool:=match fl r w with
 | none=>false
 | some b=>fl q w==some b
theorem Ie (b:Bool):aS (.bool b) .none=some (.bool false):=by cases b <;> rfl
theorem Cg (A B F G:D) (w:Int) (b1:Bool) (r:Bool) (f1:ck [A,.int w]=some F) (f2:ck [B,.int w]=some G) (h1:BD F=!b1) (h2:b1=true->aS F G=some (.bool r)):bT [A,B,.int w]=some (.bool (b1&&r)):=by
 cases b1 with
 | false=>simp [-sSeq,-sIf,aq,aC,bT,runB,fL,ak,f1,h1]
 | true=>have h2:=h2 rfl; simp [-sSeq,-sIf,aq,aC,bT,runB,fL,ak,f1,f2,h1,h2]
theorem Fs (r q:Rw) (w:Nat):bT [inr r,inr q,.int w]=some (.bool (pq r q w)):=by
 unfold pq
 cases h:fl r w with
 | none=>exact Cg _ _ _ _ w false false (kC r w) (kC q w) (by rw [h]; rfl) (fun z=>nomatch z)
 | some b=>
  have:=Cg _ _ _ _ w true (fl q w==some b) (kC r w) (kC q w) (by rw [h]; rfl) (fun _=>by
   rw [h]
   cases h2:fl q w with
   | none=>exact Ie b
   | some c=>show aS (.bool b) (.bool c)=_; rw [B2]; cases b <;> cases c <;> rfl)
  rw [Bool.true_and] at this
  exact this
theorem uI (w:Nat) (ws:List Nat):fN false (.int w) (.tuple (ws.map fun n:Nat=>.int n))=some (.bool (ws.any (· == w))):=by
 have h1:(ws.map fun n:Nat=>PyData.int n).all BR=true:=by rw [List.all_eq_true]; intro x hx; obtain ⟨r,_,rfl⟩:=List.mem_map.mp hx; rfl
 have h2:xP (.int w) (ws.map fun n:Nat=>PyData.int n)=ws.any (· == w):=by
  unfold xP
  rw [List.any_map]
  exact congrArg (fun z=>ws.any z) (funext fun n=>by
   show PyData.eqv (.int n) (.int w)=_
   simp only [PyData.eqv]
   exact xF n w)
 unfold fN
 show (if _ then _ else _)=_
 rw [if_pos ⟨rfl,h1⟩,h2]
 rfl
noncomputable def vF (r q:Rw):List Nat:=(wl r).filter fun w=>(wl q).any (· == w)
theorem zU (r:Rw):(wl r).length<=2:=by
 cases r with
 | pl r=>cases r <;> simp [wl]
 | _=>simp [wl]
theorem Oz (r q:Rw) (z2 z3:Sl):jD [.fz (rwD r),.fz (rwD q),z2,z3]=some (.list ((vF r q).map fun n:Nat=>.int n)):=by
 have hr:=jT r
 have hq:=jT q
 have:=jg (fi:=oI (VL.os (ae (oV 0) (ap)) bm) fG) (caps:=[(1,"other")]) (ft:=ob (o2 (oV 0) (VL.os (ae (oV 1) (ap)) bm) (fN false))) (fe:=oV 0) (δ:=[.fz (rwD r),.fz (rwD q),z2,z3]) (h:=fun n:Nat=>PyData.int n) (k:=fun n:Nat=>PyData.int n) (b:=fun w=>(wl q).any (· == w)) (xs:=wl r) (by simp [hr]) (Nat.le_trans (zU r) (by decide)) (fun w _=>by simp [capS,hq,uI]) (fun w _ _=>by simp)
 exact this
theorem Oy (r q:Rw) (z2:Sl):jC [.fz (rwD r),.fz (rwD q),z2,.fz (.list ((vF r q).map fun n:Nat=>.int n))]=some (.list ((vF r q).map fun w=>.bool (pq r q w))):=by
 have hr:=uF r
 have hq:=uF q
 have:=fW (fi:=oI (oV 3) fG) (caps:=[(0,"one"),(1,"other")]) (fe:=VL.os (ae (VL.os (ae (oV 1) (ap)) bG) (ae (VL.os (ae (oV 2) (ap)) bG) (ae (oV 0) (ap)))) bT) (δ:=[.fz (rwD r),.fz (rwD q),z2,.fz (.list ((vF r q).map fun n:Nat=>.int n))]) (h:=fun n:Nat=>PyData.int n) (k:=fun w=>.bool (pq r q w)) (xs:=vF r q) (by simp) (Nat.le_trans (List.length_filter_le _ _) (Nat.le_trans (zU r) (by decide))) (fun w _=>by simp [capS,hr,hq,Fs])
 exact this
theorem Lg (A B M:D) (a b:Str) (k:D) (s1 s2 c:Bool) (a0:aE A (.int 0)=some (.str a)) (b0:aE B (.int 0)=some (.str b)) (e1:aS (.str a) (.str "where")=some (.bool s1)) (e2:aS (.str b) (.str "look")=some (.bool s2)) (h:s1=true->s2=true->aE A (.int 1)=some k/\aS k M=some (.bool c)):bS [A,B,M]=some (.bool (s1&&s2&&c)):=by
 cases s1 with
 | false=>simp [-sSeq,-sIf,aq,aC,bS,runB,fZ,ak,a0,e1]
 | true=>
  cases s2 with
  | false=>simp [-sSeq,-sIf,aq,aC,bS,runB,fZ,ak,a0,b0,e1,e2]
  | true=>
   obtain ⟨h1,h2⟩:=h rfl rfl
   simp [-sSeq,-sIf,aq,aC,bS,runB,fZ,ak,a0,b0,e1,e2,h1,h2]
theorem yd (r q:Rw) (M:D) (m:Int) (hM:M=.int m\/(M=.none/\m = -1)):bS [rwD r,rwD q,M]=some (.bool (pi r q m)):=by
 cases h:r.isW with
 | true=>
  obtain ⟨k,h1,h2⟩:=Kl h
  have:=Lg (rwD r) (rwD q) M _ _ (.int k) true q.isLook ((k:Int)==m) (dg r) (dg q) (by rw [uR,h]) (ir q) (fun _ _=>⟨h1,by
   rcases hM with rfl | ⟨rfl,rfl⟩
   ·exact xS _ _
   ·have:((k:Int) == -1)=false:=by
     have:¬ (k:Int) = -1:=by omega
     simpa using this
    rw [this]; rfl⟩)
  rw [h2]
  simpa using this
 | false=>
  have:=Lg (rwD r) (rwD q) M _ _ .none false q.isLook false (dg r) (dg q) (by rw [uR,h]) (ir q) (fun z=>nomatch z)
  rw [Fz h]
  simpa using this
theorem ML (A B M:D) (a b:Str) (s1 s2 c1 c2 r:Bool) (S L:D) (a0:aE A (.int 0)=some (.str a)) (b0:aE B (.int 0)=some (.str b)) (e1:aS (.str a) (.str "look")=some (.bool s1)) (e2:aS (.str b) (.str "look")=some (.bool s2)) (h1:bS [A,B,M]=some (.bool c1)) (h2:bS [B,A,M]=some (.bool c2)) (p1:jD [.fz A,.fz B,.fz M,.un]=some S) (p2:jC [.fz A,.fz B,.fz M,.fz S]=some L) (al:zL [L]=some (.bool r)):cS [A,B,M]=some (.bool (!(s1&&s2) && !(c2||c1)&&r)):=by
 cases s1 <;> cases s2 <;> cases c1 <;> cases c2 <;> simp [-sSeq,-sIf,aq,aC,cS,runB,mj,ak,a0,b0,e1,e2,h1,h2,p1,p2,al]
noncomputable def free (r q:Rw):Bool:=(vF r q).all (pq r q)
theorem vY (r q:Rw) (M:D) (m:Int) (hM:M=.int m\/(M=.none/\m = -1)):cS [rwD r,rwD q,M]=some (.bool (!(r.isLook&&q.isLook) && !(pi q r m||pi r q m)&&free r q)):=by
 refine ML (rwD r) (rwD q) M _ _ _ _ _ _ _ _ _ (dg r) (dg q) (ir r) (ir q) (yd r q M m hM) (yd q r M m hM) (Oz r q _ _) (Oy r q _) ?_
 rw [vf]
 rfl
theorem pW {r:Rw} (w:Nat):w∈wl r↔∃ k,(w,k)∈kl r:=by
 cases r with
 | pl r=>
  cases r with
  | tie i j=>
   simp only [wl,kl,List.mem_cons,List.not_mem_nil,or_false,Prod.mk.injEq]
   constructor
   ·intro h
    have:w=i\/w=j:=by omega
    rcases this with h | h
    ·exact ⟨.hold,.inl ⟨h,rfl⟩⟩
    ·exact ⟨.flip,.inr ⟨h,rfl⟩⟩
   ·rintro ⟨k,⟨h,_⟩ | ⟨h,_⟩⟩ <;> omega
  | sign i j=>
   simp only [wl,kl,List.mem_cons,List.not_mem_nil,or_false,Prod.mk.injEq]
   constructor
   ·intro h
    have:w=i\/w=j:=by omega
    rcases this with h | h
    ·exact ⟨.hold,.inl ⟨h,rfl⟩⟩
    ·exact ⟨.hold,.inr ⟨h,rfl⟩⟩
   ·rintro ⟨k,⟨h,_⟩ | ⟨h,_⟩⟩ <;> omega
  | cross i j=>
   simp only [wl,kl,List.mem_cons,List.not_mem_nil,or_false,Prod.mk.injEq]
   constructor
   ·intro h
    have:w=i\/w=j:=by omega
    rcases this with h | h
    ·exact ⟨.other,.inl ⟨h,rfl⟩⟩
    ·exact ⟨.other,.inr ⟨h,rfl⟩⟩
   ·rintro ⟨k,⟨h,_⟩ | ⟨h,_⟩⟩ <;> omega
  | _=>simp [wl,kl]
 | _=>simp [wl,kl]
noncomputable def Kd.c:Kd->Option Bool
 | .hold=>some false
 | .flip=>some true
 | .other=>none
theorem xR {r:Rw} (h:oS r) {w:Nat} {k:Kd} (hk:(w,k)∈kl r):fl r w=k.c:=by
 cases r with
 | pl r=>
  cases r with
  | tie i j=>
   have h:i≠j:=h
   simp only [kl,List.mem_cons,Prod.mk.injEq,List.not_mem_nil,or_false] at hk
   rcases hk with ⟨rfl,rfl⟩ | ⟨rfl,rfl⟩
   ·have:(j==w)=false:=by simpa using (Ne.symm h)
    simp [fl,Kd.c,this]
   ·simp [fl,Kd.c]
  | swing j=>simp only [kl,List.mem_cons,Prod.mk.injEq,List.not_mem_nil,or_false] at hk; obtain ⟨rfl,rfl⟩:=hk; rfl
  | turn j e=>simp only [kl,List.mem_cons,Prod.mk.injEq,List.not_mem_nil,or_false] at hk; obtain ⟨rfl,rfl⟩:=hk; rfl
  | flip j=>simp only [kl,List.mem_cons,Prod.mk.injEq,List.not_mem_nil,or_false] at hk; obtain ⟨rfl,rfl⟩:=hk; rfl
  | sign i j=>simp only [kl,List.mem_cons,Prod.mk.injEq,List.not_mem_nil,or_false] at hk; rcases hk with ⟨rfl,rfl⟩ | ⟨rfl,rfl⟩ <;> rfl
  | cross i j=>simp only [kl,List.mem_cons,Prod.mk.injEq,List.not_mem_nil,or_false] at hk; rcases hk with ⟨rfl,rfl⟩ | ⟨rfl,rfl⟩ <;> rfl
 | look j=>simp only [kl,List.mem_cons,Prod.mk.injEq,List.not_mem_nil,or_false] at hk; obtain ⟨rfl,rfl⟩:=hk; rfl
 | wflip m j=>simp only [kl,List.mem_cons,Prod.mk.injEq,List.not_mem_nil,or_false] at hk; obtain ⟨rfl,rfl⟩:=hk; rfl
 | wsign m j=>simp only [kl,List.mem_cons,Prod.mk.injEq,List.not_mem_nil,or_false] at hk; obtain ⟨rfl,rfl⟩:=hk; rfl
theorem wq {r q:Rw} (hr:oS r) (hq:oS q):free r q=!cG r q:=by
 have key:free r q=true↔cG r q=false:=by
  unfold free cG vF
  rw [List.all_eq_true,List.any_eq_false]
  constructor
  ·intro h p hp z
   obtain ⟨q',hq',hb⟩:=List.any_eq_true.mp z
   obtain ⟨w,k⟩:=p
   obtain ⟨w',k'⟩:=q'
   unfold bad at hb
   obtain ⟨hb1,hb2⟩:=Bool.and_eq_true_iff.mp hb
   have e:w=w':=by simpa using hb1
   subst e
   have al:=h w (List.mem_filter.mpr ⟨pW w |>.mpr ⟨k,hp⟩,List.any_eq_true.mpr ⟨w,pW w |>.mpr ⟨k',hq'⟩,by simp⟩⟩)
   unfold pq at al
   rw [xR hr hp,xR hq hq'] at al
   cases k <;> cases k' <;> simp [Kd.c] at al hb2
  ·intro h w hw
   obtain ⟨h1,h2⟩:=List.mem_filter.mp hw
   obtain ⟨w2,h3,h4⟩:=List.any_eq_true.mp h2
   have e:w2=w:=by simpa using h4
   subst e
   obtain ⟨k,hk⟩:=(pW w2).mp h1
   obtain ⟨k',hk'⟩:=(pW w2).mp h3
   have nb:bad (w2,k) (w2,k')=false:=by
    cases e:bad (w2,k) (w2,k') with
    | false=>rfl
    | true=>exact absurd (List.any_eq_true.mpr ⟨_,hk',e⟩) (h _ hk)
   unfold pq
   rw [xR hr hk,xR hq hk']
   cases k <;> cases k' <;> simp [bad,Kd.c] at nb ⊢
 cases h1:free r q <;> cases h2:cG r q <;> simp_all
theorem Cn (p q:Nat×Kd):bad p q=bad q p:=by
 obtain ⟨a,k⟩:=p
 obtain ⟨b,k'⟩:=q
 unfold bad
 have e:(a==b)=(b==a):=by rw [Bool.eq_iff_iff,beq_iff_eq,beq_iff_eq]; exact eq_comm
 dsimp only
 rw [e]
 cases k <;> cases k' <;> simp
theorem wF (r q:Rw):cG r q=cG q r:=by
 have go:∀ r q,cG r q=true->cG q r=true:=fun r q h=>by
  obtain ⟨p,hp,h⟩:=List.any_eq_true.mp h
  obtain ⟨p',hp',h⟩:=List.any_eq_true.mp h
  exact List.any_eq_true.mpr ⟨p',hp',List.any_eq_true.mpr ⟨p,hp,by rw [Cn]; exact h⟩⟩
 cases h1:cG r q <;> cases h2:cG q r <;> first | rfl | (have:=go _ _ h1; rw [h2] at this; cases this) | (have:=go _ _ h2; rw [h1] at this; cases this)
theorem Kp {r q:Rw} (hr:oS r) (hq:oS q) (M:D) (m:Int) (hM:M=.int m\/(M=.none/\m = -1)):cS [rwD r,rwD q,M]=some (.bool (kx r q m)):=by
 rw [vY r q M m hM,wq hr hq]
 rfl
noncomputable def Mz:Sf:=bc 5 (os (ae (oV 4) (ae (oV 1) (ae (oV 3) (ae (oC (.bool false)) (ap))))) aL)
noncomputable def My:Sf:=bc 6 (o2 (os (ae (o2 (oV 4) (oC (.int 5)) eK) (ae (oC (.int 86028121)) (ap))) bC) (oC (.int 7)) eK)
noncomputable def A2:Sf:=sIf (jo 2 (gh (ob (o2 (o2 (oV 4) (oC (.int 5)) bP) (oC (.int 2)) vm)) (gh (ob (o2 (oV 2) (os (ap) hE) neD)) (ob (o2 (o2 (o2 (oV 2) (o2 (oV 6) (os (ae (oV 2) (ap)) cB) bP) aE) (oC (.int 0)) aE) (oC (.str "look")) neD))))) (sSeq (bc 5 (Hn 2 (o2 (oV 6) (A4 2) bP))) (sIf (gh (ob (o2 (o2 (oV 5) (oC (.int 0)) aE) (os (ae (oC (.str "sign")) (ae (oC (.str "cross")) (ap))) bt) (fN false))) (ob (o2 (o2 (o2 (oV 6) (oC (.int 64)) eK) (oC (.int 2)) bP) (oC (.int 1)) aS))) (bc 5 (os (ae (o2 (oV 5) (oC (.int 0)) aE) (ae (o2 (oV 5) (oC (.int 2)) aE) (ae (o2 (oV 5) (oC (.int 1)) aE) (ap)))) bt)) (fj))) (fj)
noncomputable def IN:Sf:=sIf (gh (ob (o2 (o2 (oV 5) (oC (.int 0)) aE) (oC (.str "look")) aS)) (ob (o2 (oV 3) (oC (.int 3)) aS))) (bc 5 (os (ae (oC (.str "swing")) (ae (o2 (oV 5) (oC (.int 1)) aE) (ap))) bt)) (fj)
noncomputable def Mx:Sf:=bc 3 (o2 (oV 3) (os (ae (o2 (o2 (oV 5) (oC (.int 0)) aE) (oC (.str "look")) aS) (ap)) BE) cQ)
noncomputable def Mw:Sf:=tK 2 (oV 5)
theorem AZ:dl=sSeq Mz (sSeq My (sSeq A2 (sSeq IN (sSeq Mx (Mw))))):=rfl
theorem Ek (c p:Int) (hp:0<p):∃ T:Nat,bC [.int c,.int p]=some (.int T):=by
 have h0:0<=c % 1000003:=Int.emod_nonneg _ (by decide)
 have h1:c % 1000003<1000003:=Int.emod_lt_of_pos _ (by decide)
 have m:IntMulOk (c % 1000003+11) (c % 1000003+48271):=.of_left (Nat.le_trans (MA.sn (m:=21) (by omega)) (by decide))
 have h2:0<=(c % 1000003+11)*(c % 1000003+48271) % p:=Int.emod_nonneg _ (by omega)
 refine ⟨((c % 1000003+11)*(c % 1000003+48271) % p).toNat,?_⟩
 rw [Int.toNat_of_nonneg h2]
 simp [-sSeq,-sIf,aq,aC,bC,runB,gG,ak,m,hp]
noncomputable def NK (r:Rw):MA.Sh 2 (rwD r):=by
 have a:=fun k=>MA.Sh.int k
 have st:∀ (k:Nat) {s:Str},mF s=true->MA.Sh k (.str s):=fun k s h=>⟨JB h,by simp [PyData.depth]⟩
 cases r with
 | pl r=>
  cases r <;> refine MA.Sh.tuple fun x hx=>?_ <;> simp only [List.mem_cons,List.not_mem_nil,or_false] at hx
  ·rcases hx with rfl | rfl; exact st 1 aW; exact a 1 _
  ·rcases hx with rfl | rfl | rfl; exact st 1 aP; exact a 1 _; exact a 1 _
  ·rcases hx with rfl | rfl; exact st 1 aR; exact a 1 _
  ·rcases hx with rfl | rfl | rfl; exact st 1 bH; exact a 1 _; exact a 1 _
  ·rcases hx with rfl | rfl | rfl; exact st 1 bw; exact a 1 _; exact a 1 _
  ·rcases hx with rfl | rfl | rfl; exact st 1 bZ; exact a 1 _; exact a 1 _
 | look j=>
  refine MA.Sh.tuple fun x hx=>?_
  simp only [List.mem_cons,List.not_mem_nil,or_false] at hx
  rcases hx with rfl | rfl; exact st 1 ba; exact a 1 _
 | wflip m j=>
  refine MA.Sh.tuple fun x hx=>?_
  simp only [List.mem_cons,List.not_mem_nil,or_false] at hx
  rcases hx with rfl | rfl | rfl
  ·exact st 1 bh
  ·exact a 1 _
  ·refine MA.Sh.tuple fun x hx=>?_
   simp only [List.mem_cons,List.not_mem_nil,or_false] at hx
   rcases hx with rfl | rfl; exact st 0 aR; exact a 0 _
 | wsign m j=>
  refine MA.Sh.tuple fun x hx=>?_
  simp only [List.mem_cons,List.not_mem_nil,or_false] at hx
  rcases hx with rfl | rfl | rfl
  ·exact st 1 bh
  ·exact a 1 _
  ·refine MA.Sh.tuple fun x hx=>?_
   simp only [List.mem_cons,List.not_mem_nil,or_false] at hx
   rcases hx with rfl | rfl | rfl; exact st 0 aP; exact a 0 _; exact a 0 _
theorem Hy (rs:List Rw):neD (.list (rs.map rwD)) (.list [])=some (.bool (!rs.isEmpty)):=by
 have h:MA.Sh 3 (.list (rs.map rwD)):=MA.Sh.list fun x hx=>by obtain ⟨r,_,rfl⟩:=List.mem_map.mp hx; exact NK r
 have h1:pF (.list (rs.map rwD))=true:=by
  show (PyData.canLay0 _&&decide (PyData.depth _<=64))=true
  rw [h.1,decide_eq_true (Nat.le_trans h.2 (by decide))]; rfl
 have h2:pF (.list ([]:List D))=true:=by rfl
 unfold neD
 rw [if_pos ⟨h1,h2⟩]
 cases rs with
 | nil=>rfl
 | cons r rs=>simp [PyData.eqv,PyData.eqvAll]
section
variable (z0 z1:Sl) (l c:Int) (hz0:pM z0=false) (hz1:pM z1=false)
include hz0 hz1
theorem Hk (rs:List Rw) (R:D) (sd:Int) (h:¬ c % 5<2\/rs=[]):A2 [z0,z1,.ow (rs.map rwD),.fz (.int l),.fz (.int c),.fz R,.fz (.int sd)]=some (.nx,[z0,z1,.ow (rs.map rwD),.fz (.int l),.fz (.int c),.fz R,.fz (.int sd)]):=by
 by_cases h1:c % 5<2
 ·have e:rs=[]:=by rcases h with h | h; exact absurd h1 h; exact h
  subst e
  have nn:neD (.list ([]:List D)) (.list [])=some (.bool false):=rfl
  simp [-sSeq,-sIf,aq,aC,A2,jo,dFz,hz0,hz1,h1,nn]
 ·simp [-sSeq,-sIf,aq,aC,A2,jo,dFz,hz0,hz1,h1]
theorem A1 (ds:List D) (R Q:D) (q:Str) (sd k n:Int) (h1:c % 5<2) (nn:neD (.list ds) (.list [])=some (.bool true)) (hn:(ds.length:Int)=n) (hk:bP (.int sd) (.int n)=some (.int k)) (hQ:jl ds k=some Q) (q0:aE Q (.int 0)=some (.str q)) (ql:neD (.str q) (.str "look")=some (.bool false)):A2 [z0,z1,.ow ds,.fz (.int l),.fz (.int c),.fz R,.fz (.int sd)]=some (.nx,[z0,z1,.ow ds,.fz (.int l),.fz (.int c),.fz R,.fz (.int sd)]):=by
 simp [-sSeq,-sIf,aq,aC,A2,jo,dFz,hz0,hz1,h1,nn,hn,hk,hQ,q0,ql]
theorem rL (ds:List D) (R Q Q':D) (q:Str) (sd k n:Int) (b:Bool) (h1:c % 5<2) (nn:neD (.list ds) (.list [])=some (.bool true)) (hn:(ds.length:Int)=n) (hk:bP (.int sd) (.int n)=some (.int k)) (hQ:jl ds k=some Q) (q0:aE Q (.int 0)=some (.str q)) (ql:neD (.str q) (.str "look")=some (.bool true)) (qs:fN false (.str q) (.tuple [.str "sign",.str "cross"])=some (.bool b)) (hb:b=true->∃ x y,aE Q (.int 1)=some x/\aE Q (.int 2)=some y/\Q'=.tuple [.str q,y,x]):A2 [z0,z1,.ow ds,.fz (.int l),.fz (.int c),.fz R,.fz (.int sd)]=some (.nx,[z0,z1,.ow ds,.fz (.int l),.fz (.int c),.fz (if b=true/\sd / 64 % 2=1 then Q' else Q),.fz (.int sd)]):=by
 cases b with
 | false=>simp [-sSeq,-sIf,aq,aC,A2,jo,dFz,hz0,hz1,h1,nn,hn,hk,hQ,q0,ql,qs]
 | true=>
  obtain ⟨x,y,x1,y1,rfl⟩:=hb rfl
  by_cases h2:sd / 64 % 2=1
  ·simp [-sSeq,-sIf,aq,aC,A2,jo,dFz,hz0,hz1,h1,nn,hn,hk,hQ,q0,ql,qs,x1,y1,h2]
  ·simp [-sSeq,-sIf,aq,aC,A2,jo,dFz,hz0,hz1,h1,nn,hn,hk,hQ,q0,ql,qs,x1,y1,h2]
end
theorem MV (r:Rw):fN false (.str r.wd) (.tuple [.str "sign",.str "cross"])=some (.bool (match r with | .pl (.sign _ _)=>true | .pl (.cross _ _)=>true | _=>false)):=by
 cases r with
 | pl r=>cases r <;> rfl
 | _=>rfl
abbrev Br:=List Nat×(Nat->Nu)
noncomputable def jQ (n:Nat) (b:Br):D:=.tuple [.tuple (b.1.map fun m=>PyData.int (m:Nat)),jA n b.2]
noncomputable def xB:Nu:=(⟨0,0,0,0⟩,0)
noncomputable def left (f:Nat->Nu) (w m:Nat):Nat->Nu:=fun p=>if aG w p=m then f p else xB
noncomputable def nC (u:Nu):Bool:=u.1.a==0&&(u.1.b==0&&(u.1.c==0&&(u.1.d==0&&(u.2:Int)==0)))
theorem pV (u:Nu):nC u=true↔u=xB:=by
 obtain ⟨⟨a,b,c,d⟩,k⟩:=u
 simp [nC,xB,and_assoc]
noncomputable def isZ (n:Nat) (f:Nat->Nu):Bool:=(List.range (2 ^ n)).all fun p=>nC (f p)
theorem Ig (u:Nu):aS (cv u) (.tuple [.int 0,.int 0,.int 0,.int 0,.int 0])=some (.bool (nC u)):=by
 obtain ⟨⟨a,b,c,d⟩,k⟩:=u
 show aS (.tuple [.int a,.int b,.int c,.int d,.int (k:Int)]) _=_
 unfold aS
 rw [if_pos ⟨rfl,rfl⟩]
 simp [PyData.eqv,PyData.eqvAll,nC]
theorem uC (n:Nat) (hn:n<=6) (f:Nat->Nu):dJ [jA n f]=some (.bool (isZ n f)):=by
 have sq:(2 ^ n:Nat)<=64:=(Nat.pow_le_pow_right (by decide) hn:2 ^ n<=2 ^ 6)
 have e:kh [.fz (jA n f)]=some (.list ((List.range (2 ^ n)).map fun p=>.bool (nC (f p)))):=fW (h:=fun p=>cv (f p)) (k:=fun p=>.bool (nC (f p))) (xs:=List.range (2 ^ n)) (by simp [jA]) (by rw [List.length_range]; omega) fun p _=>by
  have:=Ig (f p)
  simp [capS,this]
 simp [dJ,runB,iX,ak,e,vf,isZ]
theorem HC (X:D) (S W F:Int) (z2:Sl) (N:Nat) (y:Nat->D) (hl:N<=16777216) (ln:cB [X]=some (.int S)) (hN:cY [.int S]=some ((List.range N).map fun k:Nat=>PyData.int (0+(k:Int)))) (H:∀ p:Nat,p<N->∃ (m:Int) (d:D),Builtin.bitAnd (p:Int) W=m/\aE X (.int (p:Int))=some d/\y p=if m=F then d else .tuple [.int 0,.int 0,.int 0,.int 0,.int 0]):jE [.fz X,.fz (.int W),z2,.fz (.int F)]=some (.list ((List.range N).map y)):=
 xX (by simp [ln,hN]) hl fun p hp=>by
  obtain ⟨m,d,h1,h2,h3⟩:=H p hp
  by_cases h:m=F
  ·rw [if_pos h] at h3
   subst h
   simp [capS,h1,h2,h3]
  ·rw [if_neg h] at h3
   simp [capS,h1,h2,h3,h]
theorem HB (X:D) (W M F:Int) (L:List D) (hF:(if M=1 then W else 0)=F) (p:∀ z2,jE [.fz X,.fz (.int W),z2,.fz (.int F)]=some (.list L)):cC [X,.int W,.int M]=some (.tuple L):=by
 by_cases h:M=1
 ·rw [if_pos h] at hF; subst hF h
  simp [-sSeq,-sIf,aq,aC,cC,runB,jj,ak,p]
 ·rw [if_neg h] at hF; subst hF
  simp [-sSeq,-sIf,aq,aC,cC,runB,jj,ak,p,h]
theorem xK {n j:Nat} (hn:n<=6) (hj:j<n) (f:Nat->Nu) (m:Nat) (hm:m<2):cC [jA n f,.int (wt n j:Nat),.int (m:Nat)]=some (jA n (left f (wt n j) m)):=by
 have sq:(2 ^ n:Nat)<=64:=(Nat.pow_le_pow_right (by decide) hn:2 ^ n<=2 ^ 6)
 have wp:=MA.bp n j
 refine HB (jA n f) (wt n j:Nat) (m:Nat) ((wt n j*m:Nat):Int) ((List.range (2 ^ n)).map fun p=>cv (left f (wt n j) m p)) ?_ fun z2=>HC _ _ _ _ z2 (2 ^ n) (fun p=>cv (left f (wt n j) m p)) (by omega) (lN n f) (jb n hn) fun p hp=>⟨_,_,MA.vc p (wt n j),qb p rfl hp,?_⟩
 ·rcases (by omega:m=0\/m=1) with rfl | rfl <;> simp
 ·rw [(mq hn hj hp).1]
  unfold left
  have b:=MA.ca (wt n j) p
  by_cases h:aG (wt n j) p=m
  ·rw [if_pos h,if_pos (by rw [h])]
  ·rw [if_neg h,if_neg]
   ·rfl
   ·intro z
    have z:wt n j*aG (wt n j) p=wt n j*m:=by exact_mod_cast z
    exact h (Nat.eq_of_mul_eq_mul_left wp z)
noncomputable def dZ (n j:Nat) (b:Br):List Br:=[(b.1++[0],left b.2 (wt n j) 0),(b.1++[1],left b.2 (wt n j) 1)].filter fun c=>!isZ n c.2
theorem AQ (B:D) (M:List D) (X:D) (S N W j:Int) (L0 L1 Y:D) (b0:aE B (.int 0)=some (.tuple M)) (b1:aE B (.int 1)=some X) (ln:cB [X]=some (.int S)) (bl:kM (.int S)=some (.int (N+1))) (hw:dz [.int N,.int j]=some (.int W)) (hl:M.length<=1000) (l0:cC [X,.int W,.int 0]=some L0) (l1:cC [X,.int W,.int 1]=some L1) (q:∀ δ:Dv,δ[3]? = some (.fz (.list [.tuple [.tuple (M++[.int 0]),L0],.tuple [.tuple (M++[.int 1]),L1]]))->qg δ = some Y):d6 [B,.int j]=some Y:=by
 have a0:cQ (.tuple M) (.tuple [.int 0])=some (.tuple (M++[.int 0])):=kT (by simp; omega)
 have a1:cQ (.tuple M) (.tuple [.int 1])=some (.tuple (M++[.int 1])):=kT (by simp; omega)
 have e:∀ z3,qh [.fz B,.fz (.int j),.fz (.int W),z3]=some (.list [.tuple [.tuple (M++[.int 0]),L0],.tuple [.tuple (M++[.int 1]),L1]]):=fun z3=>by
  have:=fW (fi:=oI (VL.os (ae (oC (.int 0)) (ae (oC (.int 1)) (ap))) bt) fG) (caps:=[(0,"branch"),(2,"bit")]) (fe:=VL.os (ae (o2 (o2 (oV 1) (oC (.int 0)) aE) (VL.os (ae (oV 0) (ap)) bt) cQ) (ae (VL.os (ae (o2 (oV 1) (oC (.int 1)) aE) (ae (oV 2) (ae (oV 0) (ap)))) cC) (ap))) bt) (δ:=[.fz B,.fz (.int j),.fz (.int W),z3]) (h:=fun k:Bool=>PyData.int (if k then 1 else 0)) (k:=fun k:Bool=>if k then .tuple [.tuple (M++[.int 1]),L1] else .tuple [.tuple (M++[.int 0]),L0]) (xs:=[false,true]) (by simp) (by simp) (fun x _=>by cases x <;> simp [capS,b0,b1,a0,a1,l0,l1])
  exact this
 have q':=q [.fz B,.fz (.int j),.fz (.int W),.fz (.list [.tuple [.tuple (M++[.int 0]),L0],.tuple [.tuple (M++[.int 1]),L1]])] rfl
 have nn:N+1-1=N:=by omega
 simp [-qH,d6,runB,pe,ak,b1,ln,bl,nn,hw,e,q']
theorem yK {n j:Nat} (hn:n<=6) (hj:j<n) (b:Br) (hl:b.1.length<=900):d6 [jQ n b,.int (j:Nat)]=some (.list ((dZ n j b).map (jQ n))):=by
 refine AQ (jQ n b) (b.1.map fun m=>PyData.int (m:Nat)) (jA n b.2) _ n (wt n j:Nat) j _ _ _ rfl rfl (lN n b.2) (sP hn b.2) (de hn hj) (by simp; omega) (xK hn hj b.2 0 (by decide)) (xK hn hj b.2 1 (by decide)) fun δ h=>?_
 refine jg (h:=jQ n) (k:=jQ n) (b:=fun c=>!isZ n c.2) (xs:=[(b.1++[0],left b.2 (wt n j) 0),(b.1++[1],left b.2 (wt n j) 1)]) ?_ (by simp) (fun c _=>?_) fun c _ _=>?_
 ·simp [h,jQ]
 ·have e:=uC n hn c.2
  have b1:aE (jQ n c) (.int 1)=some (jA n c.2):=rfl
  simp [capS,b1,e]
 ·simp
theorem ue {a b:D} {c:Bool} (h:aS a b=some (.bool c)):neD a b=some (.bool (!c)):=by
 unfold aS at h
 unfold neD
 split at h
 ·rename_i hs
  rw [if_pos hs]
  have h:PyData.eqv a b=c:=by simpa using h
  rw [h]
 ·cases h
theorem o7 {i:Nat} {fs:Dv->Option (List D)} {n:Str} {g:List D->Option D} {δ:Dv} {as:List D} (h1:oV i δ = some (dR n)) (h2:fs δ = some as):dE i fs ((n,g)::[]) δ = g as:=by
 unfold dE
 rw [h1,Option.bind_some,lW,Option.bind_some]
 simp [List.lookup,h2]
noncomputable def eA (n:Nat):Rw->Br->Br
 | .pl r,b=>(b.1,ah n b.2 r)
 | .look _,b=>b
 | .wflip m j,b=>if b.1[m]? = some 1 then (b.1,ah n b.2 (.flip j)) else b
 | .wsign m j,b=>if b.1[m]? = some 1 then (b.1,ah n b.2 (.turn j 4)) else b
theorem BN (B R M X Y:D) (b0:aE B (.int 0)=some M) (b1:aE B (.int 1)=some X) (h:cT [X,R]=some Y):cb [B,R]=some (.tuple [M,Y]):=by
 simp [cb,runB,mm,ak,b0,b1,h]
theorem lU {n:Nat} (hn:n<=6) (b:Br) {k p:Nat} (hb:Bd k p b.2) (hk:k+1<=300) (hp:p+400<=80000) (r:Row) (hr:r.ok n):cb [jQ n b,rowD r]=some (jQ n (b.1,ah n b.2 r)):=by
 have h1:=Fa hn b.2 (fun x=>by have:=(hb x).1; omega) (fun x=>(hb x).2.mono (Nat.pow_le_pow_right (by decide) (by omega))) r hr
 exact BN (jQ n b) (rowD r) _ _ _ rfl rfl h1
theorem Ii (B R Y:D) (s:Str) (r0:aE R (.int 0)=some (.str s)) (ne:neD (.str s) (.str "where")=some (.bool true)) (h:cb [B,R]=some Y):bD [B,R,dR "gone_on"]=some Y:=by
 have c:dE 2 (ae (oV 0) (ae (oV 1) (ap))) (("gone_on",cb)::[]) [.fz B,.fz R,.fz (dR "gone_on")]=some Y:=(o7 rfl rfl).trans h
 simp [-sSeq,-sIf,aq,aC,bD,runB,du,ak,r0,ne,c]
theorem B3 (B R M I Y:D) (m v:Int) (r0:aE R (.int 0)=some (.str "where")) (r1:aE R (.int 1)=some (.int m)) (r2:aE R (.int 2)=some I) (b0:aE B (.int 0)=some M) (mv:aE M (.int m)=some (.int v)) (h1:v=1->cb [B,I]=some Y) (h0:¬ v=1->Y=B):bD [B,R,dR "gone_on"]=some Y:=by
 have ne:neD (.str "where") (.str "where")=some (.bool false):=ue (c:=true) (by simp)
 by_cases h:v=1
 ·have c:dE 2 (ae (oV 0) (ae (o2 (oV 1) (oC (.int 2)) aE) (ap))) (("gone_on",cb)::[]) [.fz B,.fz R,.fz (dR "gone_on")]=some Y:=(o7 (as:=[B,I]) rfl (by simp [r2])).trans (h1 h)
  simp [-sSeq,-sIf,aq,aC,bD,runB,du,ak,r0,ne,r1,b0,mv,h,c]
 ·have e:=h0 h
  subst e
  simp [-sSeq,-sIf,aq,aC,bD,runB,du,ak,r0,ne,r1,b0,mv,h]
theorem Ij {n l:Nat} (hn:n<=6) (b:Br) (hl:b.1.length=l) {k p:Nat} (hb:Bd k p b.2) (hk:k+1<=300) (hp:p+400<=80000) (r:Rw) (hr:r.ok n l) (nl:r.isLook=false):bD [jQ n b,rwD r,dR "gone_on"]=some (jQ n (eA n r b)):=by
 have mark:∀ m,m<l->∃ v:Nat,b.1[m]? = some v/\aE (.tuple (b.1.map fun m=>PyData.int (m:Nat))) (.int (m:Int))=some (.int v):=fun m hm=>by
  have hm':m<b.1.length:=by omega
  exact ⟨b.1[m],List.getElem?_eq_getElem hm',fg (j:=m) rfl (by simp [hm'])⟩
 cases r with
 | pl r=>
  have g:=lU hn b hb hk hp r hr
  cases r <;> exact Ii _ _ _ _ (at0 _ _) (ue (c:=false) (by simp)) g
 | look j=>cases nl
 | wflip m j=>
  obtain ⟨v,e1,e2⟩:=mark m hr.1
  have g:=lU hn b hb hk hp (.flip j) hr.2
  refine B3 _ _ _ _ _ m v (at0 _ _) (at1 _ _ _) (Gq _ _ _ _) (at0 _ _) e2 (fun z=>?_) fun z=>?_
  ·have:eA n (.wflip m j) b=(b.1,ah n b.2 (.flip j)):=if_pos (by rw [e1]; congr 1; omega)
   rw [this]; exact g
  ·have:eA n (.wflip m j) b=b:=if_neg (by rw [e1]; intro q; cases q; exact z rfl)
   rw [this]
 | wsign m j=>
  obtain ⟨v,e1,e2⟩:=mark m hr.1
  have g:=lU hn b hb hk hp (.turn j 4) ⟨hr.2,by decide,by decide⟩
  refine B3 _ _ _ _ _ m v (at0 _ _) (at1 _ _ _) (Gq _ _ _ _) (at0 _ _) e2 (fun z=>?_) fun z=>?_
  ·have:eA n (.wsign m j) b=(b.1,ah n b.2 (.turn j 4)):=if_pos (by rw [e1]; congr 1; omega)
   rw [this]; exact g
  ·have:eA n (.wsign m j) b=b:=if_neg (by rw [e1]; intro q; cases q; exact z rfl)
   rw [this]
noncomputable def thru (n:Nat):List Rw->List Br->List Br
 | [],bs=>bs
 | .look j::rs,bs=>thru n rs (bs.flatMap (dZ n j))
 | r::rs,bs=>thru n rs (bs.map (eA n r))
def cA (w:Nat):Nat->List Rw->Prop
 | _,[]=>True
 | l,r::rs=>r.ok w l/\cA w (l+if r.isLook then 1 else 0) rs
structure BI (l k p:Nat) (bs:List Br):Prop where
 mks:∀ b∈bs,b.1.length=l
 bd:∀ b∈bs,Bd k p b.2
 ln:bs.length<=2 ^ l
theorem En {k p:Nat} {f:Nat->Nu} (h:Bd k p f) (w m:Nat):Bd k p (left f w m):=fun x=>by
 unfold left
 split
 ·exact h x
 ·exact ⟨Nat.zero_le _,Nat.zero_le _,Nat.zero_le _,Nat.zero_le _,Nat.zero_le _⟩
theorem BI.look {l k p:Nat} {bs:List Br} (h:BI l k p bs) (n j:Nat):BI (l+1) k p (bs.flatMap (dZ n j)):=by
 have mem:∀ b∈bs.flatMap (dZ n j),∃ a∈bs,∃ m,b=(a.1++[m],left a.2 (wt n j) m):=fun b hb=>by
  obtain ⟨a,ha,hb⟩:=List.mem_flatMap.mp hb
  have:=(List.mem_filter.mp hb).1
  simp only [List.mem_cons,List.not_mem_nil,or_false] at this
  rcases this with rfl | rfl
  ·exact ⟨a,ha,0,rfl⟩
  ·exact ⟨a,ha,1,rfl⟩
 refine ⟨fun b hb=>?_,fun b hb=>?_,?_⟩
 ·obtain ⟨a,ha,m,rfl⟩:=mem b hb
  simp [h.mks a ha]
 ·obtain ⟨a,ha,m,rfl⟩:=mem b hb
  exact En (h.bd a ha) _ _
 ·have:∀ cs:List Br,(cs.flatMap (dZ n j)).length<=2*cs.length:=fun cs=>by
   induction cs with
   | nil=>exact Nat.le_refl _
   | cons c cs ih=>
    rw [List.flatMap_cons,List.length_append,List.length_cons]
    have:(dZ n j c).length<=2:=List.length_filter_le _ _
    omega
  have:=this bs
  have:=h.ln
  rw [Nat.pow_succ]
  omega
theorem BI.go {l k p:Nat} {bs:List Br} (h:BI l k p bs) (n:Nat) (r:Rw):BI l (k+1) (p+k+1) (bs.map (eA n r)):=by
 have mem:∀ b∈bs.map (eA n r),b.1.length=l/\Bd (k+1) (p+k+1) b.2:=fun b hb=>by
  obtain ⟨a,ha,rfl⟩:=List.mem_map.mp hb
  have h1:=h.mks a ha
  have h2:=h.bd a ha
  have h3:=h2.mono (show k<=k+1 by omega) (show p<=p+k+1 by omega)
  cases r with
  | pl r=>exact ⟨h1,h2.done n r⟩
  | look j=>exact ⟨h1,h3⟩
  | wflip m j=>
   by_cases q:a.1[m]? = some 1
   ·rw [show eA n (.wflip m j) a=(a.1,ah n a.2 (.flip j)) from if_pos q]; exact ⟨h1,h2.done n _⟩
   ·rw [show eA n (.wflip m j) a=a from if_neg q]; exact ⟨h1,h3⟩
  | wsign m j=>
   by_cases q:a.1[m]? = some 1
   ·rw [show eA n (.wsign m j) a=(a.1,ah n a.2 (.turn j 4)) from if_pos q]; exact ⟨h1,h2.done n _⟩
   ·rw [show eA n (.wsign m j) a=a from if_neg q]; exact ⟨h1,h3⟩
 exact ⟨fun b hb=>(mem b hb).1,fun b hb=>(mem b hb).2,by rw [List.length_map]; exact h.ln⟩
theorem KP (z0 z1 z3 z4:Sl) (R B:D) (ds es:List D) (j:Int) (r1:aE R (.int 1)=some (.int j)) (h:d6 [B,.int j]=some (.list es)) (hl:ds.length+es.length<=sizeLine):cP [z0,z1,.fz (dR "parted"),z3,z4,.fz R,.ow ds,.fz B]=some (.nx,[z0,z1,.fz (dR "parted"),z3,z4,.fz R,.ow (ds++es),.fz B]):=by
 have c:dE 2 (ae (oV 7) (ae (o2 (oV 5) (oC (.int 1)) aE) (ap))) (("parted",d6)::[]) [z0,z1,.fz (dR "parted"),z3,z4,.fz R,.ow ds,.fz B]=some (.list es):=(o7 (as:=[B,.int j]) rfl (by simp [r1])).trans h
 have l:Bg (.list es)=some es:=rfl
 simp [cP,c,l,hl]
theorem uM {n j:Nat} (hn:n<=6) (hj:j<n) (z0 z1 z3 z4:Sl):∀ (bs:List Br),(∀ b∈bs,b.1.length<=900)->∀ (ds:List D) (z7:Sl),ds.length+2*bs.length<=1000->∃ y7,loop (gN 7) cP (bs.map (jQ n)) [z0,z1,.fz (dR "parted"),z3,z4,.fz (.tuple [.str "look",.int (j:Nat)]),.ow ds,z7]=some (.nx,[z0,z1,.fz (dR "parted"),z3,z4,.fz (.tuple [.str "look",.int (j:Nat)]),.ow (ds++(bs.flatMap (dZ n j)).map (jQ n)),y7])
 | [],_,ds,z7,_=>⟨z7,by simp⟩
 | b::bs,hl,ds,z7,hs=>by
  have p2:(dZ n j b).length<=2:=List.length_filter_le _ _
  simp only [List.length_cons] at hs
  obtain ⟨y7,e⟩:=uM hn hj z0 z1 z3 z4 bs (fun c hc=>hl c (List.mem_cons_of_mem _ hc)) (ds++(dZ n j b).map (jQ n)) (.fz (jQ n b)) (by rw [List.length_append,List.length_map]; omega)
  refine ⟨y7,?_⟩
  rw [List.map_cons,eG (δ1:=[z0,z1,.fz (dR "parted"),z3,z4,.fz (.tuple [.str "look",.int (j:Nat)]),.ow ds,.fz (jQ n b)]) (by simp) (KP z0 z1 z3 z4 _ _ ds _ j (at1 _ _ _) (yK hn hj b (hl b List.mem_cons_self)) (by rw [List.length_map]; show _<=16777216; omega)),e]
  simp [List.flatMap_cons]
theorem BM (z0 z1 z3 z5 z6 z7 y7:Sl) (R:D) (bs es:List D) (r0:aE R (.int 0)=some (.str "look")) (lp:loop (gN 7) cP bs [z0,z1,.fz (dR "parted"),z3,.fz (.list bs),.fz R,.ow [],z7]=some (.nx,[z0,z1,.fz (dR "parted"),z3,.fz (.list bs),.fz R,.ow es,y7])):bR [z0,z1,.fz (dR "parted"),z3,.fz (.list bs),.fz R,z6,z7]=some (.nx,[z0,z1,.fz (dR "parted"),z3,.fz (.list es),.fz R,.fz (.list es),y7]):=by
 simp [-sSeq,-sIf,aq,aC,bR,r0,lp,dFz]
theorem HX (z0 z1 z2 z6 z7:Sl) (R G:D) (bs es:List D) (s:Str) (r0:aE R (.int 0)=some (.str s)) (ne:aS (.str s) (.str "look")=some (.bool false)) (p:eX [z0,z1,z2,.fz G,.fz (.list bs),.fz R,z6,z7]=some (.list es)):bR [z0,z1,z2,.fz G,.fz (.list bs),.fz R,z6,z7]=some (.nx,[z0,z1,z2,.fz G,.fz (.list es),.fz R,z6,z7]):=by
 simp [-sSeq,-sIf,aq,aC,bR,r0,ne,p]
theorem OO {n l k p:Nat} (hn:n<=6) {bs:List Br} (h:BI l k p bs) (hl:bs.length<=1000) (hk:k+1<=300) (hp:p+400<=80000) (r:Rw) (hr:r.ok n l) (nl:r.isLook=false) (z0 z1 z2 z6 z7:Sl):eX [z0,z1,z2,.fz (dR "gone_on"),.fz (.list (bs.map (jQ n))),.fz (rwD r),z6,z7]=some (.list ((bs.map (eA n r)).map (jQ n))):=by
 rw [List.map_map]
 exact fW (h:=jQ n) (k:=fun b=>jQ n (eA n r b)) (xs:=bs) (by simp) (by omega) fun b hb=>by
  have:=Ij hn b (h.mks b hb) (h.bd b hb) hk hp r hr nl
  simp [capS,this]
theorem Ds (r:Rw):∃ s:Str,aE (rwD r) (.int 0)=some (.str s)/\aS (.str s) (.str "look")=some (.bool r.isLook):=by
 cases r with
 | pl r=>cases r <;> exact ⟨_,at0 _ _,by simp [Rw.isLook]⟩
 | look j=>exact ⟨_,at0 _ _,by simp [Rw.isLook]⟩
 | wflip m j=>exact ⟨_,at0 _ _,by simp [Rw.isLook]⟩
 | wsign m j=>exact ⟨_,at0 _ _,by simp [Rw.isLook]⟩
theorem De (n:Nat) (r:Rw) (rs:List Rw) (bs:List Br) (h:r.isLook=false):thru n (r::rs) bs=thru n rs (bs.map (eA n r)):=by
 cases r with
 | look j=>cases h
 | pl r=>rfl
 | wflip m j=>rfl
 | wsign m j=>rfl
theorem rS {n:Nat} (hn:n<=6) (z0 z1:Sl):∀ (rs:List Rw) (l k p:Nat) (bs:List Br),cA n l rs->BI l k p bs->l<=6->k+rs.length<=300->p+400*rs.length<=80000->∀ z5 z6 z7,∃ y5 y6 y7,loop (gN 5) bR (rs.map rwD) [z0,z1,.fz (dR "parted"),.fz (dR "gone_on"),.fz (.list (bs.map (jQ n))),z5,z6,z7]=some (.nx,[z0,z1,.fz (dR "parted"),.fz (dR "gone_on"),.fz (.list ((thru n rs bs).map (jQ n))),y5,y6,y7])
 | [],l,k,p,bs,_,_,_,_,_,z5,z6,z7=>⟨z5,z6,z7,rfl⟩
 | r::rs,l,k,p,bs,ho,hb,hl,hk,hp,z5,z6,z7=>by
  simp only [List.length_cons] at hk hp
  have l64:bs.length<=64:=Nat.le_trans hb.ln (Nat.pow_le_pow_right (by decide) hl:2 ^ l<=2 ^ 6)
  cases hr:r.isLook with
  | true=>
   cases r with
   | look j=>
    obtain ⟨hj,h6⟩:=ho.1
    obtain ⟨y7,e⟩:=uM hn hj z0 z1 (.fz (dR "gone_on")) (.fz (.list (bs.map (jQ n)))) bs (fun b hb'=>by rw [hb.mks b hb']; omega) [] z7 (by simp; omega)
    rw [List.nil_append] at e
    have st:=BM z0 z1 (.fz (dR "gone_on")) z5 z6 z7 y7 (.tuple [.str "look",.int (j:Nat)]) _ _ (at0 _ _) e
    obtain ⟨y5,y6,y7',e2⟩:=rS hn z0 z1 rs (l+1) k p (bs.flatMap (dZ n j)) ho.2 (hb.look n j) (by omega) (by omega) (by omega) (.fz (.tuple [.str "look",.int (j:Nat)])) (.fz (.list ((bs.flatMap (dZ n j)).map (jQ n)))) y7
    exact ⟨y5,y6,y7',by rw [List.map_cons,eG (δ1:=[z0,z1,.fz (dR "parted"),.fz (dR "gone_on"),.fz (.list (bs.map (jQ n))),.fz (.tuple [.str "look",.int (j:Nat)]),z6,z7]) (by simp [rwD]) st]; exact e2⟩
   | pl r=>cases hr
   | wflip m j=>cases hr
   | wsign m j=>cases hr
  | false=>
   obtain ⟨s,r0,ne⟩:=Ds r
   rw [hr] at ne
   have st:=HX z0 z1 (.fz (dR "parted")) z6 z7 (rwD r) (dR "gone_on") _ _ s r0 ne (OO hn hb (by omega) (by omega) (by omega) r ho.1 hr z0 z1 _ z6 z7)
   have ho2:=ho.2
   rw [hr] at ho2
   obtain ⟨y5,y6,y7',e2⟩:=rS hn z0 z1 rs l (k+1) (p+k+1) (bs.map (eA n r)) ho2 (hb.go n r) hl (by omega) (by omega) (.fz (rwD r)) z6 z7
   exact ⟨y5,y6,y7',by rw [List.map_cons,eG (δ1:=[z0,z1,.fz (dR "parted"),.fz (dR "gone_on"),.fz (.list (bs.map (jQ n))),.fz (rwD r),z6,z7]) (by simp) st,De n r rs bs hr]; exact e2⟩
theorem M0 (R B:D) (L:List D) (y5 y6 y7:Sl) (es:List D) (it:fG R=some L) (lp:loop (gN 5) bR L [.fz R,.fz B,.fz (dR "parted"),.fz (dR "gone_on"),.fz (.list [B]),.un,.un,.un]=some (.nx,[.fz R,.fz B,.fz (dR "parted"),.fz (dR "gone_on"),.fz (.list es),y5,y6,y7])):b5 [R,B,dR "parted",dR "gone_on"]=some (.list es):=by
 simp [-sSeq,-sIf,aq,aC,b5,runB,fY,ak,it,lp]
theorem Ni (C R B T:D) (n p:Int) (X:D) (c0:aE C (.int 0)=some (.int n)) (c1:aE C (.int 1)=some R) (b:cm [.int n,.int p]=some X) (g:b5 [R,.tuple [.tuple [],X],dR "parted",dR "gone_on"]=some T):b6 [C,.int p]=some T:=by
 simp [b6,runB,jM,ak,c0,c1,b,g]
noncomputable def K8 (w:Nat) (rs:List Rw):D:=.tuple [.int w,.tuple (rs.map rwD)]
noncomputable def xZ (n p:Nat) (rs:List Rw):List Br:=thru n rs [([],MA.fm p)]
theorem mN {n:Nat} (hn:n<=6) (p:Nat) (rs:List Rw) (ho:cA n 0 rs) (hl:rs.length<=150):b6 [K8 n rs,.int p]=some (.list ((xZ n p rs).map (jQ n))):=by
 have hb:BI 0 0 0 [(([]:List Nat),MA.fm p)]:=⟨fun b hb=>by simp only [List.mem_cons,List.not_mem_nil,or_false] at hb; subst hb; rfl,fun b hb=>by simp only [List.mem_cons,List.not_mem_nil,or_false] at hb; subst hb; exact Hf p,Nat.le_refl _⟩
 obtain ⟨y5,y6,y7,e⟩:=rS hn (.fz (.tuple (rs.map rwD))) (.fz (jQ n ([],MA.fm p))) rs 0 0 0 [([],MA.fm p)] ho hb (by omega) (by omega) (by omega) .un .un .un
 exact Ni _ _ .none _ n p _ (at0 _ _) (at1 _ _ _) (Ci hn p) (M0 _ _ _ y5 y6 y7 _ rfl e)
theorem cz (n:Nat):∀ (as bs:List Rw) (cs:List Br),thru n (as++bs) cs=thru n bs (thru n as cs)
 | [],bs,cs=>rfl
 | a::as,bs,cs=>by
  cases a with
  | look j=>exact cz n as bs _
  | pl r=>exact cz n as bs _
  | wflip m j=>exact cz n as bs _
  | wsign m j=>exact cz n as bs _
theorem Hl (z0 z1:Sl) (hz0:pM z0=false) (hz1:pM z1=false) (l c:Int) (rs:List Rw) (P:Rw->Prop) (hP1:∀ i j,P (.pl (.sign i j))->P (.pl (.sign j i))) (hP2:∀ i j,P (.pl (.cross i j))->P (.pl (.cross j i))) (hg:∀ r∈rs,r.isLook=false->P r) (r0:Rw) (h0:P r0) (sd:Nat):∃ r':Rw,P r'/\A2 [z0,z1,.ow (rs.map rwD),.fz (.int l),.fz (.int c),.fz (rwD r0),.fz (.int sd)]=some (.nx,[z0,z1,.ow (rs.map rwD),.fz (.int l),.fz (.int c),.fz (rwD r'),.fz (.int sd)]):=by
 by_cases h1:¬ c % 5<2\/rs=[]
 ·exact ⟨r0,h0,Hk z0 z1 l c hz0 hz1 rs _ sd h1⟩
 ·have h5:c % 5<2:=Classical.byContradiction fun z=>h1 (.inl z)
  have hne:rs≠[]:=fun z=>h1 (.inr z)
  have hlen:0<rs.length:=List.length_pos_iff.mpr hne
  have nn:=Hy rs
  have he:rs.isEmpty=false:=by cases rs; exact absurd rfl hne; rfl
  rw [he] at nn
  have hk:=fS (i:=(sd:Int)) (show (0:Int)<(rs.length:Int) by omega)
  have a1:=Int.emod_nonneg (sd:Int) (show (rs.length:Int)≠0 by omega)
  have a2:=Int.emod_lt_of_pos (sd:Int) (show (0:Int)<(rs.length:Int) by omega)
  obtain ⟨k,ek⟩:∃ k:Nat,(sd:Int) % (rs.length:Int)=k:=⟨_,(Int.toNat_of_nonneg a1).symm⟩
  rw [ek] at hk a2
  have hkl:k<rs.length:=by omega
  have hQ:jl (rs.map rwD) (k:Int)=some (rwD rs[k]):=fg (j:=k) rfl (by simp [hkl])
  have hgk:=hg rs[k] (List.getElem_mem hkl)
  generalize rs[k]=q at hQ hgk
  have hn:((rs.map rwD).length:Int)=(rs.length:Int):=by simp
  cases hl:q.isLook with
  | true=>exact ⟨r0,h0,A1 z0 z1 l c hz0 hz1 _ _ _ _ sd k _ h5 nn hn hk hQ (dg q) (by rw [xD,hl]; rfl)⟩
  | false=>
   have hgk:=hgk hl
   have ql:neD (.str q.wd) (.str "look")=some (.bool true):=by rw [xD,hl]; rfl
   have qs:=MV q
   by_cases hsc:(∃ i j,q=.pl (.sign i j))\/(∃ i j,q=.pl (.cross i j))
   ·rcases hsc with ⟨i,j,rfl⟩ | ⟨i,j,rfl⟩
    ·have st:=rL z0 z1 l c hz0 hz1 (rs.map rwD) (rwD r0) _ (rwD (.pl (.sign j i))) _ sd k _ true h5 nn hn hk hQ (dg _) ql qs (fun _=>⟨_,_,at1 _ _ _,Gq _ _ _ _,rfl⟩)
     by_cases h2:(sd:Int) / 64 % 2=1
     ·rw [if_pos ⟨rfl,h2⟩] at st; exact ⟨.pl (.sign j i),hP1 _ _ hgk,st⟩
     ·rw [if_neg (fun z=>h2 z.2)] at st; exact ⟨_,hgk,st⟩
    ·have st:=rL z0 z1 l c hz0 hz1 (rs.map rwD) (rwD r0) _ (rwD (.pl (.cross j i))) _ sd k _ true h5 nn hn hk hQ (dg _) ql qs (fun _=>⟨_,_,at1 _ _ _,Gq _ _ _ _,rfl⟩)
     by_cases h2:(sd:Int) / 64 % 2=1
     ·rw [if_pos ⟨rfl,h2⟩] at st; exact ⟨.pl (.cross j i),hP2 _ _ hgk,st⟩
     ·rw [if_neg (fun z=>h2 z.2)] at st; exact ⟨_,hgk,st⟩
   ·have qs':fN false (.str q.wd) (.tuple [.str "sign",.str "cross"])=some (.bool false):=by
     rw [qs]
     cases q with
     | pl r=>
      cases r with
      | sign i j=>exact absurd (.inl ⟨i,j,rfl⟩) hsc
      | cross i j=>exact absurd (.inr ⟨i,j,rfl⟩) hsc
      | _=>rfl
     | _=>rfl
    have st:=rL z0 z1 l c hz0 hz1 (rs.map rwD) (rwD r0) (rwD q) .none _ sd k _ false h5 nn hn hk hQ (dg _) ql qs' (fun z=>nomatch z)
    rw [if_neg (fun z=>nomatch z.1)] at st
    exact ⟨q,hgk,st⟩
theorem FS (z0 z1 z2 z4 z6:Sl) (l:Int) (R j:D) (q:Str) (s:Bool) (q0:aE R (.int 0)=some (.str q)) (e:aS (.str q) (.str "look")=some (.bool s)) (hj:s=true->aE R (.int 1)=some j):IN [z0,z1,z2,.fz (.int l),z4,.fz R,z6]=some (.nx,[z0,z1,z2,.fz (.int l),z4,.fz (if s=true/\l=3 then .tuple [.str "swing",j] else R),z6]):=by
 cases s with
 | false=>simp [-sSeq,-sIf,aq,aC,IN,q0,e]
 | true=>
  have hj:=hj rfl
  by_cases h:l=3
  ·subst h
   simp [-sSeq,-sIf,aq,aC,IN,q0,e,hj]
  ·simp [-sSeq,-sIf,aq,aC,IN,q0,e,hj,h]
theorem Hj (z0 z1 z2 z4 z6:Sl) (l:Int) (r:Rw) (P:Rw->Prop) (hP:∀ j,P (.look j)->P (.pl (.swing j))) (hr:P r):∃ r':Rw,P r'/\IN [z0,z1,z2,.fz (.int l),z4,.fz (rwD r),z6]=some (.nx,[z0,z1,z2,.fz (.int l),z4,.fz (rwD r'),z6]):=by
 cases h:r.isLook with
 | false=>
  have st:=FS z0 z1 z2 z4 z6 l (rwD r) .none _ false (dg r) (by rw [ir,h]) (fun z=>nomatch z)
  rw [if_neg (fun z=>nomatch z.1)] at st
  exact ⟨r,hr,st⟩
 | true=>
  cases r with
  | look j=>
   have st:=FS z0 z1 z2 z4 z6 l (rwD (.look j)) (.int j) _ true (dg _) (ir _) (fun _=>at1 _ _ _)
   by_cases hl:l=3
   ·rw [if_pos ⟨rfl,hl⟩] at st; exact ⟨.pl (.swing j),hP j hr,st⟩
   ·rw [if_neg (fun z=>hl z.2)] at st; exact ⟨_,hr,st⟩
  | _=>cases h
theorem J5 (z0 z1 z2 z4 z6:Sl) (l l':Int) (R:D) (q:Str) (s:Bool) (q0:aE R (.int 0)=some (.str q)) (e:aS (.str q) (.str "look")=some (.bool s)) (hl:l+(if s=true then 1 else 0)=l'):Mx [z0,z1,z2,.fz (.int l),z4,.fz R,z6]=some (.nx,[z0,z1,z2,.fz (.int l'),z4,.fz R,z6]):=by
 simp [-sSeq,-sIf,aq,aC,Mx,q0,e,hl]
theorem J4 (z0 z1 z3 z4 z6:Sl) (ds:List D) (R:D) (hs:ds.length<sizeLine):Mw [z0,z1,.ow ds,z3,z4,.fz R,z6]=some (.nx,[z0,z1,.ow (ds++[R]),z3,z4,.fz R,z6]):=by
 simp [-sSeq,-sIf,aq,aC,Mw,hs]
theorem J7 (z0 z2 z6 z5:Sl) (w l c:Int) (R:D) (h:aL [.int c,.int w,.int l,.bool false]=some R):Mz [z0,.fz (.int w),z2,.fz (.int l),.fz (.int c),z5,z6]=some (.nx,[z0,.fz (.int w),z2,.fz (.int l),.fz (.int c),.fz R,z6]):=by
 simp [-sSeq,-sIf,aq,aC,Mz,h]
theorem J6 (z0 z1 z2 z3 z5 z6:Sl) (c T:Int) (h:bC [.int (c / 5),.int 86028121]=some (.int T)):My [z0,z1,z2,z3,.fz (.int c),z5,z6]=some (.nx,[z0,z1,z2,z3,.fz (.int c),z5,.fz (.int (T / 7))]):=by
 simp [-sSeq,-sIf,aq,aC,My,h]
def mb (l:Nat):Rw->Prop
 | .wflip m _=>m<l
 | .wsign m _=>m<l
 | _=>True
theorem F3 {w l:Nat} {r:Rw} (h:r.ok w l):mb l r:=by
 cases r with
 | wflip m j=>exact h.1
 | wsign m j=>exact h.1
 | _=>exact trivial
noncomputable def iJ (rs:List Rw):Nat:=rs.countP Rw.isLook
structure Ord (rs:List Rw):Prop where
 gd:∀ r∈rs,oS r
 al:∀ r∈rs,mb (iJ rs) r
 at_:∀ i (h:i<rs.length),mb (iJ (rs.take i)) rs[i]
theorem xJ (a b:List Rw):iJ (a++b)=iJ a+iJ b:=List.countP_append
theorem kt (r:Rw):iJ [r]=if r.isLook=true then 1 else 0:=by simp [iJ]
theorem Ord.nil:Ord []:=⟨fun _ h=>(nomatch h),fun _ h=>(nomatch h),fun _ h=>absurd h (Nat.not_lt_zero _)⟩
theorem oE (r:Rw) (rs:List Rw):iJ (r::rs)=iJ [r]+iJ rs:=xJ [r] rs
theorem okRs_app {w:Nat}:∀ {a b:List Rw} {l:Nat},cA w l (a++b)↔cA w l a/\cA w (l+iJ a) b
 | [],b,l=>by simp [cA,iJ]
 | r::a,b,l=>by
  show (r.ok w l/\cA w (l+if r.isLook then 1 else 0) (a++b))↔(r.ok w l/\cA w (l+if r.isLook then 1 else 0) a)/\cA w (l+iJ (r::a)) b
  rw [okRs_app,oE r a,kt,Nat.add_assoc,and_assoc]
theorem D2 {w l l':Nat} {r:Rw} (h:r.ok w l) (hl:l<=l') (nl:r.isLook=false):r.ok w l':=by
 cases r with
 | pl r=>exact h
 | look j=>cases nl
 | wflip m j=>exact ⟨Nat.lt_of_lt_of_le h.1 hl,h.2⟩
 | wsign m j=>exact ⟨Nat.lt_of_lt_of_le h.1 hl,h.2⟩
theorem ou {w:Nat}:∀ {rs:List Rw} {l:Nat},cA w l rs->∀ r∈rs,r.isLook=false->r.ok w (l+iJ rs)
 | [],_,_,_,h,_=>(nomatch h)
 | q::rs,l,h,r,hr,nl=>by
  rcases List.mem_cons.mp hr with rfl | hr
  ·exact D2 h.1 (by omega) nl
  ·have:=ou h.2 r hr nl
   rw [oE,kt,<- Nat.add_assoc]
   exact this
theorem yT {w:Nat} {rs:List Rw} (h:cA w 0 rs) {r:Rw} (hr:r.ok w (iJ rs)):cA w 0 (rs++[r]):=okRs_app.mpr ⟨h,by rw [Nat.zero_add]; exact ⟨hr,trivial⟩⟩
theorem vU (C:D) (w:Nat) (hw:1<=w) (l:Nat) (c:Int) (rs:List Rw) (hg:cA w 0 rs) (hL:iJ rs=l) (hs:rs.length<1000) (z5 z6:Sl):∃ (r':Rw) (y5 y6:Sl),r'.ok w l/\dl [.fz C,.fz (.int w),.ow (rs.map rwD),.fz (.int l),.fz (.int c),z5,z6]=some (.nx,[.fz C,.fz (.int w),.ow ((rs++[r']).map rwD),.fz (.int (iJ (rs++[r']):Nat)),.fz (.int c),y5,y6]):=by
 obtain ⟨r0,e0,ok0,_⟩:=xG c w l hw false
 obtain ⟨T,eT⟩:=Ek (c / 5) 86028121 (by decide)
 obtain ⟨r1,g1,e2⟩:=Hl (.fz C) (.fz (.int w)) rfl rfl l c rs (fun r=>r.ok w l) (fun i j h=>⟨h.2.1,h.1,Ne.symm h.2.2⟩) (fun i j h=>⟨h.2.1,h.1,Ne.symm h.2.2⟩) (fun r hr nl=>by have:=ou hg r hr nl; rw [Nat.zero_add,hL] at this; exact this) r0 ok0 (T / 7)
 obtain ⟨r2,g2,e3⟩:=Hj (.fz C) (.fz (.int w)) (.ow (rs.map rwD)) (.fz (.int c)) (.fz (.int ((T / 7:Nat):Int))) l r1 (fun r=>r.ok w l) (fun _ h=>h.1) g1
 have e4:=J5 (.fz C) (.fz (.int w)) (.ow (rs.map rwD)) (.fz (.int c)) (.fz (.int ((T / 7:Nat):Int))) l ((iJ (rs++[r2]):Nat):Int) (rwD r2) _ _ (dg r2) (ir r2) (by rw [xJ,kt,hL]; cases r2.isLook <;> simp)
 have e5:=J4 (.fz C) (.fz (.int w)) (.fz (.int ((iJ (rs++[r2]):Nat):Int))) (.fz (.int c)) (.fz (.int ((T / 7:Nat):Int))) (rs.map rwD) (rwD r2) (by rw [List.length_map]; show _<16777216; omega)
 refine ⟨r2,.fz (rwD r2),.fz (.int ((T / 7:Nat):Int)),g2,?_⟩
 have e1:=J6 (.fz C) (.fz (.int w)) (.ow (rs.map rwD)) (.fz (.int l)) (.fz (rwD r0)) z6 c T eT
 rw [show ((T:Int) / 7)=((T / 7:Nat):Int) by omega] at e1
 rw [AZ,n0 (J7 (.fz C) (.ow (rs.map rwD)) z6 z5 w l c _ e0),n0 e1,n0 e2,n0 e3,n0 e4,e5]
 simp
theorem ox (C:D) (w:Nat) (hw:1<=w):∀ (cs:List Int) (l:Nat) (rs:List Rw),cA w 0 rs->iJ rs=l->rs.length+cs.length<=1000->∀ z4 z5 z6,∃ (rs':List Rw) (y3 y4 y5 y6:Sl),cA w 0 rs'/\rs'.length=rs.length+cs.length/\loop (gN 4) dl (cs.map .int) [.fz C,.fz (.int w),.ow (rs.map rwD),.fz (.int l),z4,z5,z6]=some (.nx,[.fz C,.fz (.int w),.ow (rs'.map rwD),y3,y4,y5,y6])
 | [],l,rs,hg,_,_,z4,z5,z6=>⟨rs,.fz (.int l),z4,z5,z6,hg,by simp,rfl⟩
 | c::cs,l,rs,hg,hL,hl,z4,z5,z6=>by
  simp only [List.length_cons] at hl
  obtain ⟨r',y5,y6,g,st⟩:=vU C w hw l c rs hg hL (by omega) z5 z6
  obtain ⟨rs',y3,y4,y5',y6',h1,h2,e⟩:=ox C w hw cs _ (rs++[r']) (yT hg (hL ▸ g)) rfl (by simp; omega) (.fz (.int c)) y5 y6
  refine ⟨rs',y3,y4,y5',y6',h1,by rw [h2]; simp; omega,?_⟩
  rw [List.map_cons,eG (δ1:=[.fz C,.fz (.int w),.ow (rs.map rwD),.fz (.int l),.fz (.int c),z5,z6]) (by simp) st,e]
theorem A0 (w:Nat) (hw:1<=w) (cs:List Int) (hl:cs.length<=1000):∃ rs:List Rw,cA w 0 rs/\rs.length=cs.length/\cK [.list (cs.map .int),.int w]=some (cw w rs):=by
 obtain ⟨rs,y3,y4,y5,y6,h1,h2,e⟩:=ox (.list (cs.map .int)) w hw cs 0 [] trivial rfl (by simpa using hl) .un .un .un
 refine ⟨rs,h1,by simpa using h2,?_⟩
 have e':loop (gN 4) dl (cs.map .int) [.fz (.list (cs.map .int)),.fz (.int w),.ow [],.fz (.int 0),.un,.un,.un]=_:=e
 simp [-sSeq,-sIf,aq,aC,cK,runB,iA,ak,e',dFz,cw]
theorem qj {w:Nat}:∀ {rs:List Rw} {l:Nat},cA w l rs->∀ r∈rs,oS r
 | [],_,_,_,h=>(nomatch h)
 | q::rs,l,h,r,hr=>by
  rcases List.mem_cons.mp hr with rfl | hr
  ·exact EW h.1
  ·exact qj h.2 r hr
theorem xw {w:Nat} {rs:List Rw} (h:cA w 0 rs) {i:Nat} (hi:i<rs.length):rs[i].ok w (iJ (rs.take i)):=by
 have e:rs.take i++rs[i]::rs.drop (i+1)=rs:=by rw [List.getElem_cons_drop]; exact List.take_append_drop i rs
 rw [<- e] at h
 have:=(okRs_app.mp h).2.1
 rw [Nat.zero_add] at this
 exact this
theorem rp {w:Nat} {rs:List Rw} (h:cA w 0 rs):Ord rs:=by
 refine ⟨qj h,fun r hr=>?_,fun i hi=>F3 (xw h hi)⟩
 cases e:r.isLook with
 | false=>
  have:=ou h r hr e
  rw [Nat.zero_add] at this
  exact F3 this
 | true=>cases r <;> first | trivial | cases e
noncomputable def Rw.n1:Rw->Nat
 | .pl (.swing j)=>j
 | .pl (.turn j _)=>j
 | .pl (.flip j)=>j
 | .pl (.tie i _)=>i
 | .pl (.sign i _)=>i
 | .pl (.cross i _)=>i
 | .look j=>j
 | .wflip m _=>m
 | .wsign m _=>m
theorem Jz (r:Rw):tz (rwD r) none (some 2)=some (.tuple [.str r.wd,.int r.n1]):=by
 cases r with
 | pl r=>cases r <;> rfl
 | _=>rfl
theorem F1 (r:Rw):aE (rwD r) (.int 1)=some (.int r.n1):=by
 cases r with
 | pl r=>cases r <;> exact at1 _ _ _
 | _=>exact at1 _ _ _
noncomputable def Rw.isT:Rw->Bool
 | .pl (.turn _ _)=>true
 | _=>false
noncomputable def Rw.isS:Rw->Bool
 | .pl (.swing _)=>true
 | _=>false
noncomputable def Rw.isTL:Rw->Bool
 | .pl (.turn _ _)=>true
 | .look _=>true
 | _=>false
noncomputable def Rw.isSC:Rw->Bool
 | .pl (.sign _ _)=>true
 | .pl (.cross _ _)=>true
 | _=>false
theorem ny (r:Rw):aS (.str r.wd) (.str "turn")=some (.bool r.isT):=by
 cases r with
 | pl r=>cases r <;> simp [Rw.wd,Rw.isT]
 | _=>simp [Rw.wd,Rw.isT]
theorem B0 (r:Rw):aS (.str r.wd) (.str "swing")=some (.bool r.isS):=by
 cases r with
 | pl r=>cases r <;> simp [Rw.wd,Rw.isS]
 | _=>simp [Rw.wd,Rw.isS]
theorem iK (r:Rw):(r.wd==("swing":Str))=r.isS:=by
 have h:=B0 r
 rw [dM (jU r) aW] at h
 simpa using h
theorem ud (r:Rw):neD (.str r.wd) (.str "swing")=some (.bool (!r.isS)):=by rw [NQ (jU r) aW,iK]
theorem MU (r:Rw):fN false (.str r.wd) (.tuple [.str "turn",.str "look"])=some (.bool r.isTL):=by
 cases r with
 | pl r=>cases r <;> rfl
 | _=>rfl
theorem BF (r:Rw):fN false (.str r.wd) (.tuple [.str "sign",.str "cross"])=some (.bool r.isSC):=by
 cases r with
 | pl r=>cases r <;> rfl
 | _=>rfl
theorem lz {k:Nat} {d:D} (h:MA.Sh k d) (hk:k<=64):pF d=true:=by
 show (PyData.canLay0 _&&decide (PyData.depth _<=64))=true
 rw [h.1,decide_eq_true (Nat.le_trans h.2 hk)]; rfl
theorem FM (r:Rw):pF (rwD r)=true:=lz (NK r) (by decide)
theorem vG {s:Str} (k:Nat) (h:mF s=true):MA.Sh k (.str s):=⟨JB h,by simp [PyData.depth]⟩
theorem K2 {a b:Str} (ha:mF a=true) (hb:mF b=true) (x y:Int):aS (.tuple [.str a,.int x]) (.tuple [.str b,.int y])=some (.bool (a==b&&x==y)):=by
 have h:∀ {a:Str},mF a=true->∀ x:Int,pF (.tuple [.str a,.int x])=true:=fun ha x=>lz (k:=1) (MA.Sh.tuple fun z hz=>by
  simp only [List.mem_cons,List.not_mem_nil,or_false] at hz
  rcases hz with rfl | rfl
  ·exact vG 0 ha
  ·exact MA.Sh.int 0 _) (by decide)
 unfold aS
 rw [if_pos ⟨h ha x,h hb y⟩]
 simp [PyData.eqv,PyData.eqvAll]
theorem M6 (a b c d:Int):aS (.tuple [.int a,.int b]) (.tuple [.int c,.int d])=some (.bool (a==c&&b==d)):=by
 have h:∀ x y:Int,pF (.tuple [.int x,.int y])=true:=fun x y=>lz (k:=1) (MA.Sh.tuple fun z hz=>by
  simp only [List.mem_cons,List.not_mem_nil,or_false] at hz
  rcases hz with rfl | rfl <;> exact MA.Sh.int 0 _) (by decide)
 unfold aS
 rw [if_pos ⟨h a b,h c d⟩]
 simp [PyData.eqv,PyData.eqvAll]
noncomputable def te (r q:Rw):Bool:=r.wd==q.wd&&((r.n1:Int)==q.n1)
theorem xa (r q:Rw):te r q=te q r:=by
 unfold te
 rw [Bool.beq_comm (a:=r.wd),Bool.beq_comm (a:=(r.n1:Int))]
theorem Jj (r q:Rw):aS (.tuple [.str r.wd,.int r.n1]) (.tuple [.str q.wd,.int q.n1])=some (.bool (te r q)):=K2 (jU r) (jU q) _ _
noncomputable def jP (r q:Rw):Bool:=PyData.eqv (rwD r) (rwD q)
theorem BZ (r q:Rw):aS (rwD r) (rwD q)=some (.bool (jP r q)):=if_pos ⟨FM r,FM q⟩
theorem oj (r:Rw):∃ t,rwD r=.tuple (.str r.wd::t):=by
 cases r with
 | pl r=>cases r <;> exact ⟨_,rfl⟩
 | _=>exact ⟨_,rfl⟩
theorem jJ {r q:Rw} (h:jP r q=true):r.wd=q.wd:=by
 obtain ⟨t,e⟩:=oj r
 obtain ⟨u,f⟩:=oj q
 unfold jP at h
 rw [e,f] at h
 simp [PyData.eqv,PyData.eqvAll] at h
 exact h.1
theorem BY {r q:Rw} (h:(r.wd==q.wd)=false):jP r q=false:=by
 cases e:jP r q with
 | false=>rfl
 | true=>rw [jJ e] at h; simp at h
theorem LP (A B:D) (a b:Str) (s1 s2 c v e:Bool) (a0:aE A (.int 0)=some (.str a)) (b0:aE B (.int 0)=some (.str b)) (h1:fN false (.str a) (.tuple [.str "turn",.str "look"])=some (.bool s1)) (h2:fN false (.str a) (.tuple [.str "sign",.str "cross"])=some (.bool s2)) (e1:aS (.str a) (.str b)=some (.bool c)) (hw:s2=true->c=true->∃ W V,bm [A]=some W/\bm [B]=some V/\aS W V=some (.bool v)) (he:aS A B=some (.bool e)):bM [A,B]=some (.bool (if s1 then false else if s2 then c&&v else e)):=by
 cases s1 with
 | true=>simp [-sSeq,-sIf,aq,aC,bM,runB,dO,ak,a0,h1]
 | false=>
  cases s2 with
  | false=>simp [-sSeq,-sIf,aq,aC,bM,runB,dO,ak,a0,h1,h2,he]
  | true=>
   cases c with
   | false=>simp [-sSeq,-sIf,aq,aC,bM,runB,dO,ak,a0,b0,h1,h2,e1]
   | true=>
    obtain ⟨W,V,w1,w2,w3⟩:=hw rfl rfl
    simp [-sSeq,-sIf,aq,aC,bM,runB,dO,ak,a0,b0,h1,h2,e1,w1,w2,w3]
noncomputable def w2:Rw->Nat×Nat
 | .pl (.sign i j)=>(min i j,max i j)
 | .pl (.cross i j)=>(min i j,max i j)
 | _=>(0,0)
noncomputable def un (r q:Rw):Bool:=if r.isTL then false else if r.isSC then (r.wd==q.wd&&(((w2 r).1:Int)==(w2 q).1&&((w2 r).2:Int)==(w2 q).2)) else jP r q
theorem tG {r:Rw} (h:r.isSC=true):bm [rwD r]=some (.tuple [.int (w2 r).1,.int (w2 r).2]):=by
 have:=jT r
 cases r with
 | pl r=>cases r <;> first | exact this | cases h
 | _=>cases h
theorem Dr {r q:Rw} (h:r.isSC=true) (e:(r.wd==q.wd)=true):q.isSC=true:=by
 have a:=BF r
 have b:=BF q
 rw [eq_of_beq e] at a
 rw [a] at b
 simp at b
 rw [<- b,h]
theorem Jg (r q:Rw):bM [rwD r,rwD q]=some (.bool (un r q)):=by
 have:=LP (rwD r) (rwD q) r.wd q.wd r.isTL r.isSC (r.wd==q.wd) (((w2 r).1:Int)==(w2 q).1&&((w2 r).2:Int)==(w2 q).2) (jP r q) (dg r) (dg q) (MU r) (BF r) (dM (jU r) (jU q)) (fun h c=>⟨_,_,tG h,tG (Dr h c),M6 _ _ _ _⟩) (BZ r q)
 exact this
noncomputable def dw (r:Rw) (w:Nat):Option Rw:=match r with
 | .pl (.flip j)=>if j=w then some (.pl (.turn w 4)) else none
 | .pl (.turn j e)=>if j=w/\e=4 then some (.pl (.flip w)) else none
 | .pl (.tie i j)=>if j=w then some (.pl (.sign i w)) else none
 | .pl (.sign i j)=>if i=w then some (.pl (.tie j w)) else if j=w then some (.pl (.tie i w)) else none
 | .wflip m j=>if j=w then some (.wsign m w) else none
 | .wsign m j=>if j=w then some (.wflip m w) else none
 | _=>none
theorem Ah {r r':Rw} {w:Nat} (h:dw r w=some r'):w∈wl r:=by
 cases r with
 | pl r=>
  cases r with
  | flip j=>simp [dw] at h; simp [wl,h]
  | turn j e=>simp [dw] at h; simp [wl,h]
  | tie i j=>
   simp only [dw] at h
   split at h
   ·rename_i e; subst e
    simp only [wl,List.mem_cons,List.not_mem_nil,or_false]; omega
   ·cases h
  | sign i j=>
   simp only [dw] at h
   split at h
   ·rename_i e; subst e
    simp only [wl,List.mem_cons,List.not_mem_nil,or_false]; omega
   ·split at h
    ·rename_i e; subst e
     simp only [wl,List.mem_cons,List.not_mem_nil,or_false]; omega
    ·cases h
  | _=>cases h
 | look j=>cases h
 | wflip m j=>simp [dw] at h; simp [wl,h]
 | wsign m j=>simp [dw] at h; simp [wl,h]
noncomputable def nk:Option Rw->D
 | some r=>rwD r
 | none=>.none
theorem Lo (s:Str) (h:mF s=true) (l:List Int):pF (.tuple (.str s::l.map .int))=true:=lz (k:=1) (MA.Sh.tuple fun z hz=>by
  rcases List.mem_cons.mp hz with rfl | hz
  ·exact vG 0 h
  ·obtain ⟨i,_,rfl⟩:=List.mem_map.mp hz
   exact MA.Sh.int 0 _) (by decide)
theorem zO {a b:Str} (ha:mF a=true) (hb:mF b=true) (h:(a==b)=false) (l m:List Int):aS (.tuple (.str a::l.map .int)) (.tuple (.str b::m.map .int))=some (.bool false):=by
 unfold aS
 rw [if_pos ⟨Lo a ha l,Lo b hb m⟩]
 simp at h
 simp [PyData.eqv,PyData.eqvAll,h]
theorem eqF (j w:Int):aS (.tuple [.str "flip",.int j]) (.tuple [.str "flip",.int w])=some (.bool (j==w)):=by
 rw [K2 aR aR]; simp
theorem zB (j e w f:Int):aS (.tuple [.str "turn",.int j,.int e]) (.tuple [.str "turn",.int w,.int f])=some (.bool (j==w&&e==f)):=by
 unfold aS
 rw [if_pos ⟨Lo _ aP [j,e],Lo _ aP [w,f]⟩]
 simp [PyData.eqv,PyData.eqvAll]
theorem LM (j e w:Int):aS (.tuple [.str "turn",.int j,.int e]) (.tuple [.str "flip",.int w])=some (.bool false):=zO aP aR (by decide +kernel) [j,e] [w]
theorem Od (j e w:Int):aS (.tuple [.str "flip",.int j]) (.tuple [.str "turn",.int w,.int e])=some (.bool false):=zO aR aP (by decide +kernel) [j] [w,e]
theorem Ny (j e w:Int):aS (.tuple [.str "tie",.int j,.int e]) (.tuple [.str "flip",.int w])=some (.bool false):=zO bH aR (by decide +kernel) [j,e] [w]
theorem Nx (j e w f:Int):aS (.tuple [.str "tie",.int j,.int e]) (.tuple [.str "turn",.int w,.int f])=some (.bool false):=zO bH aP (by decide +kernel) [j,e] [w,f]
theorem Nw (j e w:Int):aS (.tuple [.str "sign",.int j,.int e]) (.tuple [.str "flip",.int w])=some (.bool false):=zO bw aR (by decide +kernel) [j,e] [w]
theorem Nv (j e w f:Int):aS (.tuple [.str "sign",.int j,.int e]) (.tuple [.str "turn",.int w,.int f])=some (.bool false):=zO bw aP (by decide +kernel) [j,e] [w,f]
theorem Of (j e w:Int):aS (.tuple [.str "cross",.int j,.int e]) (.tuple [.str "flip",.int w])=some (.bool false):=zO bZ aR (by decide +kernel) [j,e] [w]
theorem Oe (j e w f:Int):aS (.tuple [.str "cross",.int j,.int e]) (.tuple [.str "turn",.int w,.int f])=some (.bool false):=zO bZ aP (by decide +kernel) [j,e] [w,f]
theorem Ob (j w:Int):aS (.tuple [.str "swing",.int j]) (.tuple [.str "flip",.int w])=some (.bool false):=zO aW aR (by decide +kernel) [j] [w]
theorem Oa (j w f:Int):aS (.tuple [.str "swing",.int j]) (.tuple [.str "turn",.int w,.int f])=some (.bool false):=zO aW aP (by decide +kernel) [j] [w,f]
theorem N9 (j w:Int):aS (.tuple [.str "look",.int j]) (.tuple [.str "flip",.int w])=some (.bool false):=zO ba aR (by decide +kernel) [j] [w]
theorem N8 (j w f:Int):aS (.tuple [.str "look",.int j]) (.tuple [.str "turn",.int w,.int f])=some (.bool false):=zO ba aP (by decide +kernel) [j] [w,f]
section
variable (G:List D->Option D)
theorem xq (j w:Nat):runB bO 2 (aM G) [.tuple [.str "flip",.int j],.int w]=some (nk (dw (.pl (.flip j)) w)):=by
 by_cases h:j=w
 ·subst h
  simp [-sSeq,-sIf,aq,aC,runB,aM,ak,eqF,dw,nk,rwD,rowD]
 ·have h':¬ (j:Int)=w:=by omega
  simp [-sSeq,-sIf,aq,aC,runB,aM,ak,eqF,Od,dw,nk,rwD,rowD,h,h']
theorem xp (j e w:Nat):runB bO 2 (aM G) [.tuple [.str "turn",.int j,.int e],.int w]=some (nk (dw (.pl (.turn j e)) w)):=by
 by_cases h:j=w/\e=4
 ·obtain ⟨rfl,rfl⟩:=h
  have:=LM j 4 j
  have:=zB j 4 j 4
  simp [-sSeq,-sIf,aq,aC,runB,aM,ak,LM,zB,dw,nk,rwD,rowD]
 ·have h':(((j:Int)==w)&&((e:Int)==4))=false:=by
   cases q:(((j:Int)==w)&&((e:Int)==4)) with
   | false=>rfl
   | true=>simp at q; exact absurd ⟨by omega,by omega⟩ h
  have u:=zB j e w 4
  rw [h'] at u
  have s:dw (.pl (.turn j e)) w=none:=by simp only [dw]; rw [if_neg h]
  simp [-sSeq,-sIf,aq,aC,runB,aM,ak,LM,u,s,nk]
theorem GQ (i j w:Nat):runB bO 2 (aM G) [.tuple [.str "tie",.int i,.int j],.int w]=some (nk (dw (.pl (.tie i j)) w)):=by
 by_cases h:j=w
 ·subst h
  simp [-sSeq,-sIf,aq,aC,runB,aM,ak,Ny,Nx,dw,nk,rwD,rowD]
 ·have h':¬ (j:Int)=w:=by omega
  simp [-sSeq,-sIf,aq,aC,runB,aM,ak,Ny,Nx,dw,nk,rwD,rowD,h,h']
theorem Dy (i j w:Nat) (hw:w=i\/w=j):runB bO 2 (aM G) [.tuple [.str "sign",.int i,.int j],.int w]=some (nk (dw (.pl (.sign i j)) w)):=by
 by_cases h:i=w
 ·subst h
  simp [-sSeq,-sIf,aq,aC,runB,aM,ak,Nw,Nv,dw,nk,rwD,rowD]
 ·have h':¬ (i:Int)=w:=by omega
  have h2:j=w:=by omega
  subst h2
  simp [-sSeq,-sIf,aq,aC,runB,aM,ak,Nw,Nv,dw,nk,rwD,rowD,h,h']
theorem Dz (j w:Nat):runB bO 2 (aM G) [.tuple [.str "swing",.int j],.int w]=some .none:=by
 simp [-sSeq,-sIf,aq,aC,runB,aM,ak,Ob,Oa]
theorem Az (i j w:Nat):runB bO 2 (aM G) [.tuple [.str "cross",.int i,.int j],.int w]=some .none:=by
 simp [-sSeq,-sIf,aq,aC,runB,aM,ak,Of,Oe]
theorem DA (j w:Nat):runB bO 2 (aM G) [.tuple [.str "look",.int j],.int w]=some .none:=by
 simp [-sSeq,-sIf,aq,aC,runB,aM,ak,N9,N8]
theorem tT (m w:Int) (I J:D) (h:G [I,.int w]=some J):runB bO 2 (aM G) [.tuple [.str "where",.int m,I],.int w]=some (.tuple [.str "where",.int m,J]):=by
 simp [-sSeq,-sIf,aq,aC,runB,aM,ak,h]
theorem MF {i j w:Nat} (h:w∈[min i j,max i j]):w=i\/w=j:=by
 simp only [List.mem_cons,List.not_mem_nil,or_false] at h; omega
theorem NP {r:Rw} {w:Nat} (h:w∈wl r):cE [rwD r,.int w]=some (nk (dw r w)):=by
 cases r with
 | pl r=>
  cases r with
  | swing j=>exact Dz (bb 7) j w
  | turn j e=>exact xp (bb 7) j e w
  | flip j=>exact xq (bb 7) j w
  | tie i j=>exact GQ (bb 7) i j w
  | sign i j=>exact Dy (bb 7) i j w (MF h)
  | cross i j=>exact Az (bb 7) i j w
 | look j=>exact DA (bb 7) j w
 | wflip m j=>
  have e:w=j:=by simpa [wl] using h
  subst e
  have a:=tT (bb 7) m w _ _ (xq (bb 6) w w)
  have s:dw (.pl (.flip w)) w=some (.pl (.turn w 4)):=by simp [dw]
  have t:dw (.wflip m w) w=some (.wsign m w):=by simp [dw]
  rw [s] at a
  rw [t]
  exact a
 | wsign m j=>
  have e:w=j:=by simpa [wl] using h
  subst e
  have a:=tT (bb 7) m w _ _ (xp (bb 6) w 4 w)
  have s:dw (.pl (.turn w 4)) w=some (.pl (.flip w)):=by simp [dw]
  have t:dw (.wsign m w) w=some (.wflip m w):=by simp [dw]
  rw [s] at a
  rw [t]
  exact a
end
inductive Sp where
 | g (p q:Nat) | j (p q:Nat) | s (p q t:Nat)
deriving DecidableEq
def zpD:Sp->D
 | .g p q=>.tuple [.str "gone",.int p,.int q]
 | .j p q=>.tuple [.str "joined",.int p,.int q]
 | .s p q t=>.tuple [.str "swung",.int p,.int q,.int t]
noncomputable def ro (rs:List Rw) (q:Nat):Rw:=(rs[q]?).getD (.look 0)
theorem qe {rs:List Rw} {q:Nat} (h:q<rs.length):ro rs q=rs[q]:=by simp [ro,h]
theorem iN {rs:List Rw} {q:Nat} (h:q<rs.length):aE (.tuple (rs.map rwD)) (.int (q:Int))=some (rwD (ro rs q)):=by
 rw [qe h]
 exact fg (j:=q) rfl (by simp [h])
theorem tM (a m:Nat):jB (a:Int) m=(List.range' a m).map fun q:Nat=>PyData.int q:=by
 rw [List.range'_eq_map_range,List.map_map]
 exact List.map_congr_left fun k _=>by simp
theorem Dw {i j:Int} (h:i<4611686018427387904) (h2:-4611686018427387904<=i) (h3:j<4611686018427387904) (h4:-4611686018427387904<=j):kb [.int i,.int j]=some (jB i (j-i).toNat):=if_pos ⟨⟨h,h2⟩,h3,h4⟩
theorem tN {a b:Nat} (ha:a<=100000) (hb:b<=100000):kb [.int (a:Int),.int (b:Int)]=some ((List.range' a (b-a)).map fun q:Nat=>PyData.int q):=by
 rw [<- tM,Dw (by omega) (by omega) (by omega) (by omega),show ((b:Int)-a).toNat=b-a by omega]
noncomputable def iL (rs:List Rw) (p q:Nat):List Sp:=(if un (ro rs p) (ro rs q) then [.g p q] else [])++(if (ro rs p).isT&&te (ro rs p) (ro rs q) then [.j p q] else [])
noncomputable def f8 (rs:List Rw) (p:Nat):List Nat->List Sp
 | []=>[]
 | q::qs=>iL rs p q++(if kx (ro rs p) (ro rs q) (-1) then f8 rs p qs else [])
theorem Ji (R A B SA SB:D) (a:Str) (p q:Int) (ds:List D) (u t v l:Bool) (ra:aE R (.int p)=some A) (rb:aE R (.int q)=some B) (hu:bM [A,B]=some (.bool u)) (a0:aE A (.int 0)=some (.str a)) (et:aS (.str a) (.str "turn")=some (.bool t)) (sa:tz A none (some 2)=some SA) (sb:tz B none (some 2)=some SB) (ev:aS SA SB=some (.bool v)) (hl:cS [A,B,.none]=some (.bool l)) (h1:ds.length<sizeLine) (h2:ds.length+1<sizeLine):bW [.fz R,.fz (.int p),.ow ds,.fz (.int q)] =
  some (if l then .nx else .rt (.list (ds++((if u then [.tuple [.str "gone",.int p,.int q]] else [])++(if t&&v then [.tuple [.str "joined",.int p,.int q]] else [])))),[.fz R,.fz (.int p),(if l then .ow (ds++((if u then [.tuple [.str "gone",.int p,.int q]] else [])++(if t&&v then [.tuple [.str "joined",.int p,.int q]] else []))) else .fz (.list (ds++((if u then [.tuple [.str "gone",.int p,.int q]] else [])++(if t&&v then [.tuple [.str "joined",.int p,.int q]] else []))))),.fz (.int q)]):=by
 cases u <;> cases t <;> cases v <;> cases l <;> simp [-sSeq,-sIf,aq,aC,bW,ra,rb,hu,a0,et,sa,sb,ev,hl,h1,h2,dFz]
theorem C1 (rs:List Rw) (p q:Nat):(iL rs p q).map zpD=(if un (ro rs p) (ro rs q) then [.tuple [.str "gone",.int p,.int q]] else [])++(if (ro rs p).isT&&te (ro rs p) (ro rs q) then [.tuple [.str "joined",.int p,.int q]] else []):=by
 unfold iL
 rw [List.map_append]
 congr 1 <;> split <;> rfl
theorem sU (rs:List Rw) (p q:Nat):(iL rs p q).length<=2:=by
 unfold iL
 rw [List.length_append]
 split <;> split <;> simp
theorem zX {rs:List Rw} (ho:Ord rs) {p q:Nat} (hp:p<rs.length) (hq:q<rs.length) (ds:List D) (hd:ds.length+2<sizeLine):bW [.fz (.tuple (rs.map rwD)),.fz (.int (p:Int)),.ow ds,.fz (.int (q:Int))]=some (if kx (ro rs p) (ro rs q) (-1) then .nx else .rt (.list (ds++(iL rs p q).map zpD)),[.fz (.tuple (rs.map rwD)),.fz (.int (p:Int)),(if kx (ro rs p) (ro rs q) (-1) then .ow (ds++(iL rs p q).map zpD) else .fz (.list (ds++(iL rs p q).map zpD))),.fz (.int (q:Int))]):=by
 have gd:∀ {k},k<rs.length->oS (ro rs k):=fun h=>by rw [qe h]; exact ho.gd _ (List.getElem_mem h)
 have:=Ji (.tuple (rs.map rwD)) _ _ _ _ _ (p:Int) (q:Int) ds _ _ _ _ (iN hp) (iN hq) (Jg (ro rs p) (ro rs q)) (dg _) (ny _) (Jz _) (Jz _) (Jj (ro rs p) (ro rs q)) (Kp (gd hp) (gd hq) .none (-1) (.inr ⟨rfl,rfl⟩)) (by omega) (by omega)
 rw [C1]
 exact this
theorem sS {rs:List Rw} (ho:Ord rs) {p:Nat} (hp:p<rs.length):∀ (qs:List Nat),(∀ q∈qs,q<rs.length)->∀ (ds:List D),ds.length+2*qs.length+2<sizeLine->∀ z,∃ fl δ,loop (gN 3) bW (qs.map fun q:Nat=>.int q) [.fz (.tuple (rs.map rwD)),.fz (.int (p:Int)),.ow ds,z]=some (fl,δ)/\(fl=.rt (.list (ds++(f8 rs p qs).map zpD))\/(fl=.nx/\∃ y,δ = [.fz (.tuple (rs.map rwD)),.fz (.int (p:Int)),.ow (ds++(f8 rs p qs).map zpD),y]))
 | [],_,ds,_,z=>⟨.nx,_,rfl,.inr ⟨rfl,z,by simp [f8]⟩⟩
 | q::qs,hq,ds,hd,z=>by
  simp only [List.length_cons] at hd
  have st:=zX ho hp (hq q List.mem_cons_self) ds (by omega)
  have g:gN 3 (.int (q:Int)) [.fz (.tuple (rs.map rwD)),.fz (.int (p:Int)),.ow ds,z]=some [.fz (.tuple (rs.map rwD)),.fz (.int (p:Int)),.ow ds,.fz (.int (q:Int))]:=by simp
  cases hl:kx (ro rs p) (ro rs q) (-1) with
  | false=>
   rw [hl] at st
   refine ⟨_,_,by rw [List.map_cons]; exact Bj g st,.inl ?_⟩
   simp [f8,hl]
  | true=>
   rw [hl] at st
   have tl:=sU rs p q
   obtain ⟨fl,δ,e,h⟩:=sS ho hp qs (fun x hx=>hq x (List.mem_cons_of_mem _ hx)) (ds++(iL rs p q).map zpD) (by simp only [List.length_append,List.length_map]; omega) (.fz (.int (q:Int)))
   refine ⟨fl,δ,by rw [List.map_cons,eG g st]; exact e,?_⟩
   have ee:ds++(f8 rs p (q::qs)).map zpD=ds++(iL rs p q).map zpD++(f8 rs p qs).map zpD:=by
    rw [f8,hl,if_pos rfl,List.map_append,List.append_assoc]
   rw [ee]
   exact h
noncomputable def rest (rs:List Rw) (p:Nat):List Nat:=List.range' (p+1) (rs.length-(p+1))
theorem mem_rest {rs:List Rw} {p q:Nat}:q∈rest rs p↔p<q/\q<rs.length:=by
 unfold rest
 rw [List.mem_range'_1]
 omega
theorem kc (rs:List Rw) (p:Nat):(rest rs p).length<=rs.length:=by
 unfold rest
 rw [List.length_range']
 omega
theorem Jh (R:D) (p n:Int) (L:List D) (X:D) (fl:Fl) (δ:Dv) (xs:List D) (ln:cB [R]=some (.int n)) (hr:kb [.int (p+1),.int n]=some L) (lp:loop (gN 3) bW L [.fz R,.fz (.int p),.ow [],.un]=some (fl,δ)) (h:fl=.rt (.list xs)\/(fl=.nx/\∃ y,δ = [.fz R,.fz (.int p),.ow xs,y])):bA [R,.int p]=some (.list xs):=by
 rcases h with rfl | ⟨rfl,y,rfl⟩
 ·simp [-sSeq,-sIf,aq,aC,bA,runB,dB,ak,ln,hr,lp]
 ·simp [-sSeq,-sIf,aq,aC,bA,runB,dB,ak,ln,hr,lp,dFz]
theorem Gy {rs:List Rw} (ho:Ord rs) (hn:rs.length<=100) {p:Nat} (hp:p<rs.length):bA [.tuple (rs.map rwD),.int (p:Int)]=some (.list ((f8 rs p (rest rs p)).map zpD)):=by
 have hl:=kc rs p
 obtain ⟨fl,δ,e,h⟩:=sS ho hp (rest rs p) (fun q hq=>(mem_rest.mp hq).2) [] (by show 0+_+2<16777216; omega) .un
 refine Jh _ p rs.length _ .none fl δ _ (by simp) ?_ e h
 have:=tN (a:=p+1) (b:=rs.length) (by omega) (by omega)
 exact this
noncomputable def CA (rs:List Rw) (p w:Nat):List Nat:=(rest rs p).filter fun q=>(wl (ro rs q)).any (· == w)
theorem Mv (R:D) (p n p':Int) (w:Nat) (z:Sl) (xs:List Nat) (b:Nat->Bool) (W:Nat->D) (hx:xs.length<=16777216) (hp:p+1=p') (ln:cB [R]=some (.int n)) (hr:kb [.int p',.int n]=some (xs.map fun q:Nat=>PyData.int q)) (hw:∀ q∈xs,∃ A,aE R (.int (q:Int))=some A/\bm [A]=some (W q)) (hb:∀ q∈xs,fN false (.int (w:Int)) (W q)=some (.bool (b q))):cI [.fz R,.fz (.int p),.fz (.int (w:Int)),z]=some (.list ((xs.filter b).map fun q:Nat=>.int q)):=by
 have:=jg (fi:=oL (ae (o2 (oV 1) (oC (.int 1)) cQ) (ae (VL.os (ae (oV 0) (ap)) cB) (ap))) kb) (caps:=[(0,"rows"),(2,"wire")]) (ft:=ob (o2 (oV 2) (VL.os (ae (o2 (oV 1) (oV 0) aE) (ap)) bm) (fN false))) (fe:=oV 0) (δ:=[.fz R,.fz (.int p),.fz (.int (w:Int)),z]) (h:=fun n:Nat=>PyData.int n) (k:=fun n:Nat=>PyData.int n) (b:=b) (xs:=xs) (by simp [ln,hp,hr]) hx (fun q hq=>by
  obtain ⟨A,h1,h2⟩:=hw q hq
  simp [capS,h1,h2,hb q hq]) (fun q _ _=>by simp)
 exact this
theorem AR {rs:List Rw} (hn:rs.length<=100) {p:Nat} (hp:p<rs.length) (w:Nat) (z:Sl):cI [.fz (.tuple (rs.map rwD)),.fz (.int (p:Int)),.fz (.int (w:Int)),z]=some (.list ((CA rs p w).map fun q:Nat=>.int q)):=by
 have hr:=tN (a:=p+1) (b:=rs.length) (by omega) (by omega)
 exact Mv _ p rs.length ((p+1:Nat):Int) w z (rest rs p) (fun q=>(wl (ro rs q)).any (· == w)) _ (Nat.le_trans (kc rs p) (by omega)) (by omega) (by simp) hr (fun q hq=>⟨_,iN (mem_rest.mp hq).2,jT _⟩) (fun q _=>uI w _)
noncomputable def dD (rs:List Rw) (p:Nat):List Sp:=match ro rs p with
 | .pl (.swing w)=>match CA rs p w with
  | a::b::_=>if jP (ro rs b) (ro rs p)&&(dw (ro rs a) w).isSome then [.s p a b] else []
  | _=>[]
 | _=>[]
theorem z8 (R A:D) (a:Str) (p:Int) (ra:aE R (.int p)=some A) (a0:aE A (.int 0)=some (.str a)) (hs:neD (.str a) (.str "swing")=some (.bool true)):aJ [R,.int p]=some (.list []):=by
 simp [-sSeq,-sIf,aq,aC,aJ,runB,bQ,ak,ra,a0,hs]
section
variable (R A:D) (a:Str) (p w:Int) (ra:aE R (.int p)=some A) (a0:aE A (.int 0)=some (.str a)) (hs:neD (.str a) (.str "swing")=some (.bool false)) (a1:aE A (.int 1)=some (.int w)) (L:D) (hp1:cI [.fz R,.fz (.int p),.fz (.int w),.un]=some L)
include ra a0 hs a1 hp1
theorem p0 (M:List D) (sl:tz L none (some 2)=some (.list M)) (hl:¬ M.length=2):aJ [R,.int p]=some (.list []):=by
 have h:¬ ((M.length:Nat):Int)=2:=by omega
 simp [-sSeq,-sIf,aq,aC,aJ,runB,bQ,ak,ra,a0,hs,a1,hp1,sl,h]
theorem yq (x y:Int) (X Y W:D) (c n:Bool) (sl:tz L none (some 2)=some (.list [.int x,.int y])) (rx:aE R (.int x)=some X) (ry:aE R (.int y)=some Y) (e:aS Y A=some (.bool c)) (sw:c=true->cE [X,.int w]=some W/\BD W=!n):aJ [R,.int p]=some (.list (if c&&n then [.tuple [.str "swung",.int p,.int x,.int y]] else [])):=by
 cases c with
 | false=>simp [-sSeq,-sIf,aq,aC,aJ,runB,bQ,ak,ra,a0,hs,a1,hp1,sl,rx,ry,e]
 | true=>
  obtain ⟨s1,s2⟩:=sw rfl
  cases n <;> simp [-sSeq,-sIf,aq,aC,aJ,runB,bQ,ak,ra,a0,hs,a1,hp1,sl,rx,ry,e,s1,kz,s2]
end
theorem BC (o:Option Rw):BD (nk o)=!o.isSome:=by
 cases o with
 | none=>rfl
 | some r=>
  obtain ⟨t,e⟩:=oj r
  show BD (rwD r)=false
  rw [e]; rfl
theorem Ap (l:List Nat):tz (.list (l.map fun q:Nat=>PyData.int q)) none (some 2)=some (.list ((l.take 2).map fun q:Nat=>PyData.int q)):=by
 show some (PyData.list (hX _ _ _))=_
 unfold hX
 rw [List.length_map,<- List.map_drop,<- List.map_take]
 match l with
 | []=>rfl
 | [a]=>rfl
 | a::b::t=>
  have h1:HT.sIx (a::b::t).length (a::b::t).length (some 2)=2:=by
   simp [HT.sIx]
  rw [h1]
  rfl
theorem z9 {rs:List Rw} (hn:rs.length<=100) {p:Nat} (hp:p<rs.length):aJ [.tuple (rs.map rwD),.int (p:Int)]=some (.list ((dD rs p).map zpD)):=by
 have ra:=iN hp
 cases hS:(ro rs p).isS with
 | false=>
  rw [z8 _ _ _ _ ra (dg _) (by rw [ud,hS]; rfl)]
  have:dD rs p=[]:=by
   unfold dD
   split
   ·rename_i w e; rw [e] at hS; cases hS
   ·rfl
  rw [this]; rfl
 | true=>
  obtain ⟨w,ew⟩:∃ w,ro rs p=.pl (.swing w):=by
   cases h:ro rs p with
   | pl r=>cases r <;> first | exact ⟨_,rfl⟩ | (rw [h] at hS; cases hS)
   | _=>rw [h] at hS; cases hS
  have a1:aE (rwD (ro rs p)) (.int 1)=some (.int (w:Int)):=by rw [F1,ew]; rfl
  have hs:neD (.str (ro rs p).wd) (.str "swing")=some (.bool false):=by rw [ud,hS]; rfl
  have hp1:=AR hn hp w .un
  have sl:=Ap (CA rs p w)
  have mem:∀ q∈CA rs p w,q<rs.length/\w∈wl (ro rs q):=fun q hq=>by
   obtain ⟨h1,h2⟩:=List.mem_filter.mp hq
   obtain ⟨x,hx,e⟩:=List.any_eq_true.mp h2
   exact ⟨(mem_rest.mp h1).2,by rw [<- eq_of_beq e]; exact hx⟩
  have tE:dD rs p=match CA rs p w with
   | a::b::_=>if jP (ro rs b) (ro rs p)&&(dw (ro rs a) w).isSome then [.s p a b] else []
   | _=>[]:=by
   unfold dD
   rw [ew]
  rw [tE]
  match hL:CA rs p w with
  | []=>
   rw [hL] at sl hp1
   rw [p0 _ _ _ _ _ ra (dg _) hs a1 _ hp1 _ sl (by simp)]; rfl
  | [a]=>
   rw [hL] at sl hp1
   rw [p0 _ _ _ _ _ ra (dg _) hs a1 _ hp1 _ sl (by simp)]; rfl
  | a::b::t=>
   have ma:=mem a (by rw [hL]; exact List.mem_cons_self)
   have mb:=mem b (by rw [hL]; exact List.mem_cons_of_mem _ List.mem_cons_self)
   rw [hL] at sl hp1
   rw [yq _ _ _ _ _ ra (dg _) hs a1 _ hp1 (a:Int) (b:Int) _ _ _ _ (dw (ro rs a) w).isSome sl (iN ma.1) (iN mb.1) (BZ _ _) (fun _=>⟨NP ma.2,BC _⟩)]
   simp only
   split <;> rfl
noncomputable def kS (rs:List Rw) (m:Nat):List Sp:=(List.range m).flatMap fun p=>f8 rs p (rest rs p)++dD rs p
theorem nO (rs:List Rw) (p:Nat):∀ qs,(f8 rs p qs).length<=2*qs.length
 | []=>Nat.le_refl _
 | q::qs=>by
  have h1:=sU rs p q
  have h2:=nO rs p qs
  rw [f8,List.length_append,List.length_cons]
  split
  ·omega
  ·simp; omega
theorem jx (rs:List Rw) (p:Nat):(dD rs p).length<=1:=by
 unfold dD
 split
 ·split
  ·split <;> simp
  ·simp
 ·simp
theorem qN (rs:List Rw) (m:Nat):kS rs (m+1)=kS rs m++(f8 rs m (rest rs m)++dD rs m):=by
 unfold kS
 rw [List.range_succ,List.flatMap_append]
 simp
theorem po (rs:List Rw):∀ m,(kS rs m).length<=m*(2*rs.length+1)
 | 0=>by simp [kS]
 | m+1=>by
  have h1:=nO rs m (rest rs m)
  have h2:=kc rs m
  have h3:=jx rs m
  have h4:=po rs m
  rw [qN,List.length_append,List.length_append,Nat.succ_mul]
  omega
theorem Dp (C R:D) (p:Int) (ds:List D) (A B:List D) (h1:bA [R,.int p]=some (.list A)) (h2:aJ [R,.int p]=some (.list B)) (s1:ds.length+A.length<=sizeLine) (s2:ds.length+A.length+B.length<=sizeLine):d0 [.fz C,.fz R,.ow ds,.fz (.int p)]=some (.nx,[.fz C,.fz R,.ow (ds++A++B),.fz (.int p)]):=by
 have s2':(ds++A).length+B.length<=sizeLine:=by rw [List.length_append]; exact s2
 simp [d0,h1,h2,s1,Bg]
 exact s2
theorem An (C R:D) (n:Int) (L:List D) (xs:List D) (y:Sl) (X:D) (cr:aE C (.int 1)=some R) (ln:cB [R]=some (.int n)) (hr:cY [.int n]=some L) (lp:loop (gN 3) d0 L [.fz C,.fz R,.ow [],.un]=some (.nx,[.fz C,.fz R,.ow xs,y])) (hs:iD (.list xs)=some X):aO [C]=some X:=by
 simp [-sSeq,-sIf,aq,aC,aO,runB,iV,ak,cr,ln,hr,lp,dFz,hs]
theorem o5 (w:Nat) (rs:List Rw):aE (cw w rs) (.int 1)=some (.tuple (rs.map rwD)):=by simp [cw]
theorem yy {rs:List Rw} (ho:Ord rs) (hn:rs.length<=100) (w:Nat) (X:D) (hs:iD (.list ((kS rs rs.length).map zpD))=some X):aO [cw w rs]=some X:=by
 obtain ⟨δ',lp,z,rfl⟩:=uo (b:=d0) (k:=3) (fun i δ=>∃ z,δ = [.fz (cw w rs),.fz (.tuple (rs.map rwD)),.ow ((kS rs i).map zpD),z]) rs.length (by
  rintro i hi δ ⟨z,rfl⟩
  have l1:=nO rs i (rest rs i)
  have l2:=kc rs i
  have l3:=jx rs i
  have l4:=po rs i
  have l5:i*(2*rs.length+1)<=100*201:=Nat.mul_le_mul (by omega) (by omega)
  have st:=Dp (cw w rs) (.tuple (rs.map rwD)) i ((kS rs i).map zpD) _ _ (Gy ho hn hi) (z9 hn hi) (by simp only [List.length_map]; show _<=16777216; omega) (by simp only [List.length_map]; show _<=16777216; omega)
  refine ⟨_,st,.fz (.int i),?_⟩
  rw [qN,List.map_append,List.map_append,List.append_assoc]) [.fz (cw w rs),.fz (.tuple (rs.map rwD)),.ow [],.un] ⟨_,rfl⟩
 exact An _ _ rs.length _ _ z X (o5 w rs) (by simp) (lE (j:=(rs.length:Int)) (by omega) (by omega)) lp hs
noncomputable def Fh (rs:List Rw) (p:Nat) (xs:List Nat):Bool:=xs.all fun x=>kx (ro rs p) (ro rs x) (iJ (rs.take x))
noncomputable def Jb (p q:Nat):List Nat:=List.range' (p+1) (q-(p+1))
theorem mem_btw {p q x:Nat}:x∈Jb p q↔p<x/\x<q:=by
 unfold Jb
 rw [List.mem_range'_1]
 omega
noncomputable def AT (r:Rw) (w:Nat):Bool:=(kl r).any (·.1==w)
def fH (rs:List Rw):Sp->Bool
 | .g p q=>un (ro rs p) (ro rs q)&&Fh rs p (Jb p q)
 | .j p q=>(ro rs p).isT&&(te (ro rs q) (ro rs p)&&Fh rs p (Jb p q))
 | .s p q t=>!(!(ro rs p).isS||(!jP (ro rs p) (ro rs t)||(dw (ro rs q) (ro rs p).n1).toList.isEmpty))&&(Jb p t).all fun x=>!(!(x==q)&&AT (ro rs x) (ro rs p).n1)
theorem iO:mF "gone" = true:=by decide +kernel
theorem fR:mF "joined" = true:=by decide +kernel
theorem lK:mF "swung" = true:=by decide +kernel
theorem MR:aS (.str "gone") (.str "gone")=some (.bool true):=(dM iO iO).trans (congrArg (fun z=>some (PyData.bool z)) (show (("gone":Str)==("gone":Str))=true by decide +kernel))
theorem MQ:aS (.str "joined") (.str "gone")=some (.bool false):=(dM fR iO).trans (congrArg (fun z=>some (PyData.bool z)) (show (("joined":Str)==("gone":Str))=false by decide +kernel))
theorem MP:aS (.str "joined") (.str "joined")=some (.bool true):=(dM fR fR).trans (congrArg (fun z=>some (PyData.bool z)) (show (("joined":Str)==("joined":Str))=true by decide +kernel))
theorem MO:aS (.str "swung") (.str "gone")=some (.bool false):=(dM lK iO).trans (congrArg (fun z=>some (PyData.bool z)) (show (("swung":Str)==("gone":Str))=false by decide +kernel))
theorem MN:aS (.str "swung") (.str "joined")=some (.bool false):=(dM lK fR).trans (congrArg (fun z=>some (PyData.bool z)) (show (("swung":Str)==("joined":Str))=false by decide +kernel))
theorem OK (s:Str) (p q t:Int):aE (.tuple [.str s,.int p,.int q,.int t]) (.int 3)=some (.int t):=rfl
noncomputable def mM (rs:List Rw) (p q:Nat):List Sp:=.g p q :: .j p q::(if (ro rs p).isS then (rest rs q).map (Sp.s p q) else [])
noncomputable def Gm (rs:List Rw) (p:Nat) (qs:List Nat):List Sp:=qs.flatMap (mM rs p)
noncomputable def iU (rs:List Rw) (m:Nat):List Sp:=(List.range m).flatMap fun p=>Gm rs p (rest rs p)
theorem qp {rs:List Rw} (ho:Ord rs) {p x:Nat} (hp:p<x) (hx:x<rs.length):kx (ro rs p) (ro rs x) (iJ (rs.take x))=kx (ro rs p) (ro rs x) (-1):=by
 have le:∀ {a b:Nat},a<=b->iJ (rs.take a)<=iJ (rs.take b):=fun {a b} h=>by
  have e:rs.take a=(rs.take b).take a:=by rw [List.take_take,Nat.min_eq_left h]
  rw [e]
  exact List.Sublist.countP_le (List.take_sublist _ _)
 have no:∀ {r q:Rw} {m:Nat},mb m r->∀ n:Nat,m<=n->pi r q n=pi r q (-1):=fun {r q m} h n hn=>by
  cases r with
  | wflip k j=>
   have h:k<m:=h
   simp only [pi]
   rw [show (((k:Int)==(n:Int)):Bool)=false by simp; omega,show (((k:Int) == -1):Bool)=false by simp]
  | wsign k j=>
   have h:k<m:=h
   simp only [pi]
   rw [show (((k:Int)==(n:Int)):Bool)=false by simp; omega,show (((k:Int) == -1):Bool)=false by simp]
  | _=>rfl
 have h1:=no (q:=ro rs p) (ho.at_ x hx) (iJ (rs.take x)) (Nat.le_refl _)
 have h2:=no (q:=ro rs x) (ho.at_ p (by omega)) (iJ (rs.take x)) (le (by omega))
 rw [<- qe hx] at h1
 rw [<- qe (show p<rs.length by omega)] at h2
 unfold kx
 rw [h1,h2]
theorem mem_twoS {rs:List Rw} {p q:Nat} {x:Sp}:x∈iL rs p q↔(x=.g p q/\un (ro rs p) (ro rs q)=true)\/(x=.j p q/\(ro rs p).isT=true/\te (ro rs p) (ro rs q)=true):=by
 unfold iL
 rw [List.mem_append]
 cases un (ro rs p) (ro rs q) <;> cases (ro rs p).isT <;> cases te (ro rs p) (ro rs q) <;> simp
theorem mem_twoL {rs:List Rw} {p:Nat} {x:Sp}:∀ {m a:Nat},x∈f8 rs p (List.range' a m)↔∃ q,a<=q/\q<a+m/\x∈iL rs p q/\∀ y,a<=y->y<q->kx (ro rs p) (ro rs y) (-1)=true
 | 0,a=>by
  simp only [List.range'_zero,f8,List.not_mem_nil,false_iff]
  rintro ⟨q,h1,h2,_⟩
  omega
 | m+1,a=>by
  rw [List.range'_succ,f8,List.mem_append]
  constructor
  ·rintro (h | h)
   ·exact ⟨a,Nat.le_refl _,by omega,h,fun y h1 h2=>absurd h1 (by omega)⟩
   ·split at h
    ·rename_i hl
     obtain ⟨q,h1,h2,h3,h4⟩:=mem_twoL.mp h
     refine ⟨q,by omega,by omega,h3,fun y y1 y2=>?_⟩
     by_cases e:y=a
     ·rw [e]; exact hl
     ·exact h4 y (by omega) y2
    ·cases h
  ·rintro ⟨q,h1,h2,h3,h4⟩
   by_cases e:q=a
   ·subst e; exact .inl h3
   ·refine .inr ?_
    rw [if_pos (h4 a (Nat.le_refl _) (by omega))]
    exact mem_twoL.mpr ⟨q,by omega,by omega,h3,fun y y1 y2=>h4 y (by omega) y2⟩
theorem zT (r:Rw) (w:Nat):(wl r).any (· == w)=AT r w:=by
 unfold AT
 rw [Bool.eq_iff_iff,List.any_eq_true,List.any_eq_true]
 constructor
 ·rintro ⟨x,hx,e⟩
  have e:=eq_of_beq e
  subst e
  obtain ⟨k,hk⟩:=(pW x).mp hx
  exact ⟨_,hk,by simp⟩
 ·rintro ⟨k,hk,e⟩
  have e:=eq_of_beq e
  exact ⟨w,(pW w).mpr ⟨k.2,by rw [<- e]; exact hk⟩,by simp⟩
theorem uO (f:Nat->Bool) {q:Nat} {l:List Nat}:∀ {m a:Nat},(List.range' a m).filter f=q::l↔a<=q/\q<a+m/\f q=true/\(∀ x,a<=x->x<q->f x=false)/\l=(List.range' (q+1) (a+m-(q+1))).filter f
 | 0,a=>by
  simp only [List.range'_zero,List.filter_nil]
  constructor
  ·intro h; cases h
  ·rintro ⟨h1,h2,_⟩; omega
 | m+1,a=>by
  rw [List.range'_succ,List.filter_cons]
  split
  ·rename_i hf
   constructor
   ·intro h
    obtain ⟨rfl,rfl⟩:=List.cons.inj h
    exact ⟨Nat.le_refl _,by omega,hf,fun x h1 h2=>absurd h1 (by omega),by rw [show a+(m+1)-(a+1)=m by omega]⟩
   ·rintro ⟨h1,h2,h3,h4,h5⟩
    have e:q=a:=by
     by_cases e:q=a
     ·exact e
     ·have:=h4 a (Nat.le_refl _) (by omega)
      rw [hf] at this
      cases this
    subst e
    rw [h5,show q+(m+1)-(q+1)=m by omega]
  ·rename_i hf
   rw [uO f (m:=m) (a:=a+1)]
   constructor
   ·rintro ⟨h1,h2,h3,h4,h5⟩
    refine ⟨by omega,by omega,h3,fun x x1 x2=>?_,by rw [h5,show a+1+m=a+(m+1) by omega]⟩
    by_cases e:x=a
    ·rw [e]; simpa using hf
    ·exact h4 x (by omega) x2
   ·rintro ⟨h1,h2,h3,h4,h5⟩
    have e:q≠a:=fun e=>by rw [e] at h3; exact hf h3
    exact ⟨by omega,by omega,h3,fun x x1 x2=>h4 x (by omega) x2,by rw [h5,show a+1+m=a+(m+1) by omega]⟩
theorem KY (f:Nat->Bool) {q t m a:Nat}:(∃ l,(List.range' a m).filter f=q::t::l)↔a<=q/\q<t/\t<a+m/\f q=true/\f t=true/\∀ x,a<=x->x<t->x≠q->f x=false:=by
 constructor
 ·rintro ⟨l,h⟩
  obtain ⟨h1,h2,h3,h4,h5⟩:=(uO f).mp h
  obtain ⟨k1,k2,k3,k4,_⟩:=(uO f).mp h5.symm
  refine ⟨h1,by omega,by omega,h3,k3,fun x x1 x2 x3=>?_⟩
  by_cases e:x<q
  ·exact h4 x x1 e
  ·exact k4 x (by omega) x2
 ·rintro ⟨h1,h2,h3,h4,h5,h6⟩
  refine ⟨(List.range' (t+1) (q+1+(a+m-(q+1))-(t+1))).filter f,(uO f).mpr ⟨h1,by omega,h4,fun x x1 x2=>h6 x x1 (by omega) (by omega),?_⟩⟩
  exact ((uO f).mpr ⟨by omega,by omega,h5,fun x x1 x2=>h6 x (by omega) x2 (by omega),rfl⟩).symm
theorem gK {r:Rw} (h:r.isS=true):r=.pl (.swing r.n1):=by
 cases r with
 | pl r=>cases r <;> first | rfl | cases h
 | _=>cases h
theorem HR {r q:Rw} (h:r.isS=true) (hq:q.isS=false):(r.wd==q.wd)=false:=by
 have a:=iK r
 have b:=iK q
 rw [h] at a
 rw [eq_of_beq a,Bool.beq_comm,b,hq]
theorem BX (w:Nat) (r:Rw):jP (.pl (.swing w)) r=jP r (.pl (.swing w)):=by
 cases h:r.isS with
 | false=>
  have a:=HR (r:=.pl (.swing w)) (q:=r) rfl h
  rw [BY a,BY (by rw [Bool.beq_comm]; exact a)]
 | true=>
  rw [gK h]
  simp only [jP,rwD,rowD,PyData.eqv,PyData.eqvAll]
  simp [Bool.beq_comm]
theorem md {w:Nat} {r:Rw} (h:jP (.pl (.swing w)) r=true):r=.pl (.swing w):=by
 have e:=jJ h
 have hS:r.isS=true:=by rw [<- iK,<- e]; exact iK (.pl (.swing w))
 rw [gK hS] at h ⊢
 simp only [jP,rwD,rowD,PyData.eqv,PyData.eqvAll] at h
 simp at h
 have:w=r.n1:=by omega
 rw [this]
theorem mem_cand_g {rs:List Rw} {p q:Nat}:Sp.g p q∈iU rs rs.length↔p<q/\q<rs.length:=by
 constructor
 ·intro h
  obtain ⟨p',hp,h⟩:=List.mem_flatMap.mp h
  obtain ⟨q',hq,h⟩:=List.mem_flatMap.mp h
  have hq:=mem_rest.mp hq
  unfold mM at h
  rcases List.mem_cons.mp h with h | h
  ·cases h; exact hq
  rcases List.mem_cons.mp h with h | h
  ·cases h
  split at h
  ·obtain ⟨t,ht,h⟩:=List.mem_map.mp h
   cases h
  ·cases h
 ·intro h
  exact List.mem_flatMap.mpr ⟨p,List.mem_range.mpr (by omega),List.mem_flatMap.mpr ⟨q,mem_rest.mpr h,List.mem_cons_self⟩⟩
theorem mem_cand_j {rs:List Rw} {p q:Nat}:Sp.j p q∈iU rs rs.length↔p<q/\q<rs.length:=by
 constructor
 ·intro h
  obtain ⟨p',hp,h⟩:=List.mem_flatMap.mp h
  obtain ⟨q',hq,h⟩:=List.mem_flatMap.mp h
  have hq:=mem_rest.mp hq
  unfold mM at h
  rcases List.mem_cons.mp h with h | h
  ·cases h
  rcases List.mem_cons.mp h with h | h
  ·cases h; exact hq
  split at h
  ·obtain ⟨t,ht,h⟩:=List.mem_map.mp h
   cases h
  ·cases h
 ·intro h
  exact List.mem_flatMap.mpr ⟨p,List.mem_range.mpr (by omega),List.mem_flatMap.mpr ⟨q,mem_rest.mpr h,List.mem_cons_of_mem _ List.mem_cons_self⟩⟩
theorem mem_cand_s {rs:List Rw} {p q t:Nat}:Sp.s p q t∈iU rs rs.length↔(ro rs p).isS=true/\p<q/\q<t/\t<rs.length:=by
 constructor
 ·intro h
  obtain ⟨p',hp,h⟩:=List.mem_flatMap.mp h
  obtain ⟨q',hq,h⟩:=List.mem_flatMap.mp h
  have hq:=mem_rest.mp hq
  unfold mM at h
  rcases List.mem_cons.mp h with h | h
  ·cases h
  rcases List.mem_cons.mp h with h | h
  ·cases h
  split at h
  ·rename_i hS
   obtain ⟨t',ht,h⟩:=List.mem_map.mp h
   have ht:=mem_rest.mp ht
   cases h
   exact ⟨hS,hq.1,ht.1,ht.2⟩
  ·cases h
 ·rintro ⟨hS,h1,h2,h3⟩
  refine List.mem_flatMap.mpr ⟨p,List.mem_range.mpr (by omega),List.mem_flatMap.mpr ⟨q,mem_rest.mpr ⟨h1,by omega⟩,List.mem_cons_of_mem _ (List.mem_cons_of_mem _ ?_)⟩⟩
  rw [if_pos hS]
  exact List.mem_map.mpr ⟨t,mem_rest.mpr ⟨h2,h3⟩,rfl⟩
theorem jh {rs:List Rw} (ho:Ord rs) {p q:Nat} (hq:q<rs.length):Fh rs p (Jb p q)=true↔∀ y,p+1<=y->y<q->kx (ro rs p) (ro rs y) (-1)=true:=by
 unfold Fh
 rw [List.all_eq_true]
 constructor
 ·intro h y h1 h2
  rw [<- qp ho (show p<y by omega) (by omega)]
  exact h y (mem_btw.mpr ⟨by omega,h2⟩)
 ·intro h y hy
  have hy:=mem_btw.mp hy
  rw [qp ho hy.1 (by omega)]
  exact h y (by omega) hy.2
theorem mem_threeL {rs:List Rw} {p:Nat} {x:Sp}:x∈dD rs p↔∃ q t,x=.s p q t/\(ro rs p).isS=true/\(∃ l,CA rs p (ro rs p).n1=q::t::l)/\jP (ro rs t) (ro rs p)=true/\(dw (ro rs q) (ro rs p).n1).isSome=true:=by
 constructor
 ·intro h
  unfold dD at h
  split at h
  ·rename_i w ew
   split at h
   ·rename_i a b l hl
    split at h
    ·rename_i hc
     have hc:=Bool.and_eq_true_iff.mp hc
     refine ⟨a,b,List.mem_singleton.mp h,by rw [ew]; rfl,⟨l,by rw [ew]; exact hl⟩,hc.1,by rw [ew]; exact hc.2⟩
    ·cases h
   ·cases h
  ·cases h
 ·rintro ⟨q,t,rfl,hS,⟨l,hl⟩,h1,h2⟩
  unfold dD
  have ew:=gK hS
  generalize ro rs p=r at ew hl h1 h2 hS ⊢
  rw [ew]
  simp only
  rw [hl]
  simp only
  rw [<- ew,h1,h2]
  simp
theorem Au {rs:List Rw} (ho:Ord rs) (x:Sp):x∈kS rs rs.length↔x∈(iU rs rs.length).filter (fH rs):=by
 rw [List.mem_filter]
 have two:∀ {p q:Nat} {x:Sp},x∈f8 rs p (rest rs p)↔∃ q,p<q/\q<rs.length/\x∈iL rs p q/\∀ y,p+1<=y->y<q->kx (ro rs p) (ro rs y) (-1)=true:=fun {p q x}=>by
  unfold rest
  rw [mem_twoL]
  constructor
  ·rintro ⟨q,h1,h2,h3⟩; exact ⟨q,by omega,by omega,h3⟩
  ·rintro ⟨q,h1,h2,h3⟩; exact ⟨q,by omega,by omega,h3⟩
 have all:x∈kS rs rs.length↔∃ p,p<rs.length/\(x∈f8 rs p (rest rs p)\/x∈dD rs p):=by
  unfold kS
  rw [List.mem_flatMap]
  constructor
  ·rintro ⟨p,hp,h⟩; exact ⟨p,List.mem_range.mp hp,List.mem_append.mp h⟩
  ·rintro ⟨p,hp,h⟩; exact ⟨p,List.mem_range.mpr hp,List.mem_append.mpr h⟩
 rw [all]
 cases x with
 | g p q=>
  rw [mem_cand_g]
  simp only [fH,Bool.and_eq_true]
  constructor
  ·rintro ⟨p',hp,h | h⟩
   ·obtain ⟨q',h1,h2,h3,h4⟩:=(two (q:=0)).mp h
    rcases mem_twoS.mp h3 with ⟨e,hu⟩ | ⟨e,_⟩
    ·cases e
     exact ⟨⟨h1,h2⟩,hu,(jh ho h2).mpr h4⟩
    ·cases e
   ·obtain ⟨q,t,e,_⟩:=mem_threeL.mp h
    cases e
  ·rintro ⟨⟨h1,h2⟩,hu,hc⟩
   exact ⟨p,by omega,.inl ((two (q:=0)).mpr ⟨q,h1,h2,mem_twoS.mpr (.inl ⟨rfl,hu⟩),(jh ho h2).mp hc⟩)⟩
 | j p q=>
  rw [mem_cand_j]
  simp only [fH,Bool.and_eq_true]
  constructor
  ·rintro ⟨p',hp,h | h⟩
   ·obtain ⟨q',h1,h2,h3,h4⟩:=(two (q:=0)).mp h
    rcases mem_twoS.mp h3 with ⟨e,hu⟩ | ⟨e,ht,hv⟩
    ·cases e
    ·cases e
     exact ⟨⟨h1,h2⟩,ht,by rw [xa]; exact hv,(jh ho h2).mpr h4⟩
   ·obtain ⟨q,t,e,_⟩:=mem_threeL.mp h
    cases e
  ·rintro ⟨⟨h1,h2⟩,ht,hv,hc⟩
   exact ⟨p,by omega,.inl ((two (q:=0)).mpr ⟨q,h1,h2,mem_twoS.mpr (.inr ⟨rfl,ht,by rw [xa]; exact hv⟩),(jh ho h2).mp hc⟩)⟩
 | s p q t=>
  rw [mem_cand_s]
  have fit:fH rs (.s p q t)=true↔(ro rs p).isS=true/\jP (ro rs p) (ro rs t)=true/\(dw (ro rs q) (ro rs p).n1).isSome=true/\∀ x,p<x->x<t->x≠q->AT (ro rs x) (ro rs p).n1=false:=by
   have he:∀ o:Option Rw,o.toList.isEmpty=!o.isSome:=fun o=>by cases o <;> rfl
   simp only [fH,he,Bool.and_eq_true,List.all_eq_true,mem_btw]
   constructor
   ·rintro ⟨h1,h2⟩
    have h1:((ro rs p).isS=true/\jP (ro rs p) (ro rs t)=true/\(dw (ro rs q) (ro rs p).n1).isSome=true):=by
     simpa using h1
    refine ⟨h1.1,h1.2.1,h1.2.2,fun x x1 x2 x3=>?_⟩
    have:=h2 x ⟨x1,x2⟩
    have n:(x==q)=false:=by simpa using x3
    rw [n] at this
    simpa using this
   ·rintro ⟨h1,h2,h3,h4⟩
    refine ⟨by rw [h1,h2,h3]; rfl,fun x hx=>?_⟩
    by_cases e:x=q
    ·subst e; simp
    ·rw [h4 x hx.1 hx.2 e]; simp
  rw [fit]
  have fw:∀ w,(∃ l,CA rs p w=q::t::l)↔p+1<=q/\q<t/\t<p+1+(rs.length-(p+1))/\AT (ro rs q) w=true/\AT (ro rs t) w=true/\∀ x,p+1<=x->x<t->x≠q->AT (ro rs x) w=false:=fun w=>by
   have e:CA rs p w=(List.range' (p+1) (rs.length-(p+1))).filter fun q=>AT (ro rs q) w:=by
    unfold CA rest
    exact List.filter_congr fun q _=>zT _ _
   rw [e]
   exact KY _
  constructor
  ·rintro ⟨p',hp,h | h⟩
   ·obtain ⟨q',h1,h2,h3,h4⟩:=(two (q:=0)).mp h
    rcases mem_twoS.mp h3 with ⟨e,_⟩ | ⟨e,_⟩ <;> cases e
   ·obtain ⟨q',t',e,hS,hl,he,hw⟩:=mem_threeL.mp h
    cases e
    obtain ⟨a1,a2,a3,a4,a5,a6⟩:=(fw _).mp hl
    refine ⟨⟨hS,by omega,a2,by omega⟩,hS,?_,hw,fun x x1 x2 x3=>a6 x (by omega) x2 x3⟩
    rw [gK hS,BX,<- gK hS]
    exact he
  ·rintro ⟨⟨hS,h1,h2,h3⟩,_,he,hw,hx⟩
   refine ⟨p,by omega,.inr (mem_threeL.mpr ⟨q,t,rfl,hS,(fw _).mpr ⟨by omega,h2,by omega,?_,?_,fun x x1 x2 x3=>hx x (by omega) x2 x3⟩,?_,hw⟩)⟩
   ·obtain ⟨r',e⟩:=Option.isSome_iff_exists.mp hw
    rw [<- zT]
    exact List.any_eq_true.mpr ⟨_,Ah e,by simp⟩
   ·rw [gK hS] at he
    rw [md he]
    simp [AT,kl]
   ·rw [gK hS] at he ⊢
    rw [<- BX]
    exact he
def Sp.pp:Sp->Nat
 | .g p _=>p
 | .j p _=>p
 | .s p _ _=>p
def Sp.qq:Sp->Nat
 | .g _ q=>q
 | .j _ q=>q
 | .s _ q _=>q
theorem Ax (a m:Nat):(List.range' a m).Pairwise (· < ·):=List.pairwise_lt_range'
theorem iQ (a m:Nat):(List.range' a m).Pairwise (· ≠ ·):=(Ax a m).imp fun h=>Nat.ne_of_lt h
theorem GS {α β:Type} (f:α -> β) {R:β -> β -> Prop} {S:α -> α -> Prop} {l:List α} (h:l.Pairwise S) (hf:∀ a b,S a b->R (f a) (f b)):(l.map f).Pairwise R:=List.pairwise_map.mpr (h.imp fun h=>hf _ _ h)
theorem kL {rs:List Rw} {p q:Nat} {x:Sp} (h:x∈mM rs p q):x.pp=p/\x.qq=q:=by
 unfold mM at h
 rcases List.mem_cons.mp h with rfl | h
 ·exact ⟨rfl,rfl⟩
 rcases List.mem_cons.mp h with rfl | h
 ·exact ⟨rfl,rfl⟩
 split at h
 ·obtain ⟨t,_,rfl⟩:=List.mem_map.mp h
  exact ⟨rfl,rfl⟩
 ·cases h
theorem Ce (rs:List Rw) (p q:Nat):(mM rs p q).Pairwise (· ≠ ·):=by
 unfold mM
 have hs:∀ x∈(if (ro rs p).isS then (rest rs q).map (Sp.s p q) else []),∃ t,x=.s p q t:=fun x hx=>by
  split at hx
  ·obtain ⟨t,_,rfl⟩:=List.mem_map.mp hx
   exact ⟨t,rfl⟩
  ·cases hx
 refine List.pairwise_cons.mpr ⟨fun x hx e=>?_,List.pairwise_cons.mpr ⟨fun x hx e=>?_,?_⟩⟩
 ·rcases List.mem_cons.mp hx with h | h
  ·rw [<- e] at h; cases h
  ·obtain ⟨t,h⟩:=hs x h
   rw [<- e] at h; cases h
 ·obtain ⟨t,h⟩:=hs x hx
  rw [<- e] at h; cases h
 ·split
  ·exact GS (Sp.s p q) (iQ _ _) fun a b h e=>h (by cases e; rfl)
  ·exact .nil
theorem Fn (rs:List Rw) (m:Nat):(iU rs m).Pairwise (· ≠ ·):=by
 unfold iU
 refine List.pairwise_flatMap.mpr ⟨fun p _=>?_,?_⟩
 ·unfold Gm
  refine List.pairwise_flatMap.mpr ⟨fun q _=>Ce rs p q,?_⟩
  refine (iQ _ _).imp fun {a b} h x hx y hy e=>h ?_
  rw [<- (kL hx).2,<- (kL hy).2,e]
 ·have:(List.range m).Pairwise (· ≠ ·):=by rw [List.range_eq_range']; exact iQ _ _
  refine this.imp fun {a b} h x hx y hy e=>h ?_
  obtain ⟨q,_,hx⟩:=List.mem_flatMap.mp hx
  obtain ⟨q',_,hy⟩:=List.mem_flatMap.mp hy
  rw [<- (kL hx).1,<- (kL hy).1,e]
theorem Db (rs:List Rw) (p q:Nat):(iL rs p q).Pairwise (· ≠ ·):=by
 unfold iL
 split <;> split <;> simp
theorem wZ {rs:List Rw} {p q:Nat} {x:Sp} (h:x∈iL rs p q):x.pp=p/\x.qq=q:=by
 rcases mem_twoS.mp h with ⟨rfl,_⟩ | ⟨rfl,_⟩ <;> exact ⟨rfl,rfl⟩
theorem nN {rs:List Rw} {p:Nat} {x:Sp}:∀ {qs:List Nat},x∈f8 rs p qs->x.pp=p/\x.qq∈qs/\∀ a b t,x≠.s a b t
 | [],h=>by cases h
 | q::qs,h=>by
  rw [f8] at h
  rcases List.mem_append.mp h with h | h
  ·have:=wZ h
   refine ⟨this.1,by rw [this.2]; exact List.mem_cons_self,fun a b t e=>?_⟩
   rcases mem_twoS.mp h with ⟨f,_⟩ | ⟨f,_⟩ <;> rw [e] at f <;> cases f
  ·split at h
   ·have:=nN h
    exact ⟨this.1,List.mem_cons_of_mem _ this.2.1,this.2.2⟩
   ·cases h
theorem w5 (rs:List Rw) (p:Nat):∀ {qs:List Nat},qs.Pairwise (· ≠ ·)->(f8 rs p qs).Pairwise (· ≠ ·)
 | [],_=>.nil
 | q::qs,h=>by
  obtain ⟨h1,h2⟩:=List.pairwise_cons.mp h
  rw [f8]
  refine List.pairwise_append.mpr ⟨Db rs p q,?_,fun x hx y hy e=>?_⟩
  ·split
   ·exact w5 rs p h2
   ·exact .nil
  ·split at hy
   ·have a:=(wZ hx).2
    have b:=(nN hy).2.1
    rw [<- e,a] at b
    exact h1 q b rfl
   ·cases hy
theorem FB (rs:List Rw) (m:Nat):(kS rs m).Pairwise (· ≠ ·):=by
 unfold kS
 have three:∀ {p x},x∈dD rs p->x.pp=p/\∃ a b t,x=.s a b t:=fun h=>by
  obtain ⟨q,t,rfl,_⟩:=mem_threeL.mp h
  exact ⟨rfl,_,_,_,rfl⟩
 refine List.pairwise_flatMap.mpr ⟨fun p _=>?_,?_⟩
 ·refine List.pairwise_append.mpr ⟨w5 rs p (iQ _ _),?_,fun x hx y hy e=>?_⟩
  ·have:=jx rs p
   match h:dD rs p with
   | []=>exact .nil
   | [a]=>exact List.pairwise_singleton _ _
   | a::b::l=>rw [h] at this; simp at this
  ·obtain ⟨_,a,b,t,h⟩:=three hy
   exact (nN hx).2.2 a b t (e.trans h)
 ·have:(List.range m).Pairwise (· ≠ ·):=by rw [List.range_eq_range']; exact iQ _ _
  refine this.imp fun {a b} h x hx y hy e=>h ?_
  have pa:x.pp=a:=by
   rcases List.mem_append.mp hx with z | z
   ·exact (nN z).1
   ·exact (three z).1
  have pb:y.pp=b:=by
   rcases List.mem_append.mp hy with z | z
   ·exact (nN z).1
   ·exact (three z).1
  rw [<- pa,<- pb,e]
theorem yC {rs:List Rw} (ho:Ord rs):(kS rs rs.length).Perm ((iU rs rs.length).filter (fH rs)):=
 (List.perm_ext_iff_of_nodup (FB rs _) ((Fn rs _).sublist List.filter_sublist)).mpr fun x=>Au ho x
def spK:Sp->List aZ
 | .g p q=>[.inr "gone",.inl p,.inl q]
 | .j p q=>[.inr "joined",.inl p,.inl q]
 | .s p q t=>[.inr "swung",.inl p,.inl q,.inl t]
theorem F0:(("gone":Str) == "joined")=false:=by decide +kernel
theorem FZ:(("gone":Str) == "swung")=false:=by decide +kernel
theorem FY:(("joined":Str) == "gone")=false:=by decide +kernel
theorem FX:(("joined":Str) == "swung")=false:=by decide +kernel
theorem FV:(("swung":Str) == "gone")=false:=by decide +kernel
theorem FU:(("swung":Str) == "joined")=false:=by decide +kernel
theorem Dk {a b:Sp} (h:spK a=spK b):a=b:=by
 have n1:=F0; have n2:=FZ; have n3:=FY; have n4:=FX; have n5:=FV; have n6:=FU
 simp only [beq_eq_false_iff_ne,ne_eq] at n1 n2 n3 n4 n5 n6
 cases a <;> cases b <;> simp [spK,n1,n2,n3,n4,n5,n6] at h ⊢ <;> omega
theorem Jx (x:Sp):PyData.tuple ((spK x).map jr)=zpD x:=by cases x <;> rfl
theorem EJ (x:Sp):Ks (zpD x)=some (spK x):=by cases x <;> rfl
theorem ux:∀ xs:List Sp,uy (xs.map zpD)=some (xs.map spK)
 | []=>rfl
 | x::xs=>by
  rw [List.map_cons,uy,EJ,Option.bind_some,ux xs,Option.bind_some,List.map_cons]
theorem Df (x:Sp):j1 (spK x)=true:=by cases x <;> rfl
theorem EQ (x:Sp) (l:List D):v9 (zpD x::l)=none:=by cases x <;> rfl
theorem Dm (xs:List Sp):iD (.list (xs.map zpD))=some (.list ((eZ (xs.map spK)).map fun k=>.tuple (k.map jr))):=by
 cases xs with
 | nil=>rfl
 | cons x xs=>
  have h1:v9 ((x::xs).map zpD)=none:=EQ x _
  have h2:=ux (x::xs)
  have h3:(((x::xs).map spK).all j1||((x::xs).map spK).all ve)=true:=by
   rw [Bool.or_eq_true]
   refine .inl (List.all_eq_true.mpr fun k hk=>?_)
   obtain ⟨y,_,rfl⟩:=List.mem_map.mp hk
   exact Df y
  generalize (x::xs)=ys at h1 h2 h3
  show ((fG (.list (ys.map zpD))).bind _)=_
  have h0:fG (.list (ys.map zpD))=some (ys.map zpD):=rfl
  rw [h0,Option.bind_some]
  simp only [h1,h2,Option.bind_some]
  rw [if_pos h3]
theorem Dl (xs:List Sp):∃ zs:List Sp,(zs.length=xs.length/\∀ x,x∈zs↔x∈xs)/\iD (.list (xs.map zpD))=some (.list (zs.map zpD))/\∀ ys:List Sp,ys.Perm xs->iD (.list (ys.map zpD))=some (.list (zs.map zpD)):=by
 have pull:∀ l:List (List aZ),(∀ k∈l,∃ x,k=spK x)->∃ zs:List Sp,l=zs.map spK:=by
  intro l
  induction l with
  | nil=>exact fun _=>⟨[],rfl⟩
  | cons k l ih=>
   intro h
   obtain ⟨x,rfl⟩:=h k List.mem_cons_self
   obtain ⟨zs,rfl⟩:=ih fun k hk=>h k (List.mem_cons_of_mem _ hk)
   exact ⟨x::zs,rfl⟩
 have pm:=gy (xs.map spK)
 obtain ⟨zs,hz⟩:=pull (eZ (xs.map spK)) fun k hk=>by
  obtain ⟨x,_,e⟩:=List.mem_map.mp (pm.mem_iff.mp hk)
  exact ⟨x,e.symm⟩
 have hl:zs.length=xs.length:=by
  have:=pm.length_eq
  rw [hz,List.length_map,List.length_map] at this
  exact this
 have key:∀ ys:List Sp,ys.Perm xs->iD (.list (ys.map zpD))=some (.list (zs.map zpD)):=fun ys p=>by
  rw [Dm,oN (p.map spK),hz,List.map_map]
  congr 2
  exact List.map_congr_left fun x _=>Jx x
 have inj:∀ {a b:Sp},spK a=spK b->a=b:=fun h=>Dk h
 have hm:∀ x,x∈zs↔x∈xs:=fun x=>by
  have:=pm.mem_iff (a:=spK x)
  rw [hz] at this
  constructor
  ·intro h
   obtain ⟨y,hy,e⟩:=List.mem_map.mp (this.mp (List.mem_map_of_mem h))
   rw [<- inj e]; exact hy
  ·intro h
   obtain ⟨y,hy,e⟩:=List.mem_map.mp (this.mpr (List.mem_map_of_mem h))
   rw [<- inj e]; exact hy
 exact ⟨zs,⟨hl,hm⟩,key xs (.refl _),key⟩
inductive Zp where
 | g (p q:Int) | j (p q:Int) | s (p q t:Int)
noncomputable def zqD:Zp->D
 | .g p q=>.tuple [.str "gone",.int p,.int q]
 | .j p q=>.tuple [.str "joined",.int p,.int q]
 | .s p q t=>.tuple [.str "swung",.int p,.int q,.int t]
def up:Sp->Zp
 | .g p q=>.g p q
 | .j p q=>.j p q
 | .s p q t=>.s p q t
theorem zP (x:Sp):zqD (up x)=zpD x:=by cases x <;> rfl
theorem Ml (s:Str) (h:mF s=true) (l:List Int):MA.Sh 1 (.tuple (.str s::l.map .int)):=MA.Sh.tuple fun z hz=>by
  rcases List.mem_cons.mp hz with rfl | hz
  ·exact vG 0 h
  ·obtain ⟨i,_,rfl⟩:=List.mem_map.mp hz
   exact MA.Sh.int 0 _
theorem Ar (z:Zp):MA.Sh 1 (zqD z):=by
 cases z with
 | g p q=>exact Ml _ iO [p,q]
 | j p q=>exact Ml _ fR [p,q]
 | s p q t=>exact Ml _ lK [p,q,t]
theorem BW (x:Sp) (z:Zp):PyData.eqv (zpD x) (zqD z)=true↔up x=z:=by
 have a:=F0; have b:=FZ; have c:=FY; have d:=FX; have e:=FV; have f:=FU
 simp only [beq_eq_false_iff_ne,ne_eq] at a b c d e f
 cases x <;> cases z <;> simp [zpD,zqD,up,PyData.eqv,PyData.eqvAll,a,b,c,d,e,f]
theorem HV (z:Zp) (zs:List Sp):xP (zqD z) (zs.map zpD)=true↔∃ x∈zs,up x=z:=by
 unfold xP
 rw [List.any_map,List.any_eq_true]
 constructor
 ·rintro ⟨x,hx,e⟩; exact ⟨x,hx,(BW x z).mp e⟩
 ·rintro ⟨x,hx,e⟩; exact ⟨x,hx,(BW x z).mpr e⟩
theorem Bo:∀ zs:List Sp,PyData.canLayAll0 (zs.map zpD)=true
 | []=>rfl
 | x::zs=>by
  have h:(zpD x).canLay0=true:=by rw [<- zP]; exact (Ar (up x)).1
  rw [List.map_cons,PyData.canLayAll0,h,Bo zs]
  rfl
theorem HW (z:Zp) (zs:List Sp):KK true (zqD z) (.list (zs.map zpD))=some (.bool (!xP (zqD z) (zs.map zpD))):=if_pos ⟨lz (Ar z) (by decide),Bo zs⟩
theorem GI (w n:Int) (R S L X:D) (V:List D) (F:List D) (h:aO [.tuple [.int w,R]]=some L) (hi:KK true S L=some (.bool false)) (hc:bB [R,S]=some X) (h1:rm [.fz (.tuple [.int w,R]),.fz S,.fz X,.un]=some (.list V)) (h2:rl [.fz (.tuple [.int w,R]),.fz S,.fz X,.fz (.list V)]=some (.list F)):io [.tuple [.int w,R],S]=some (.tuple [.int w,.tuple F]):=by
 simp [-sSeq,-sIf,aq,aC,io,runB,wP,ak,h,hi,hc,h1,h2]
theorem JY (C R X z:D) (S:Sl) (n:Int) (ks:List Nat) (V:Nat->D) (hk:ks.length<=16777216) (cr:aE C (.int 1)=some R) (ln:cB [R]=some (.int n)) (hr:cY [.int n]=some (ks.map fun k:Nat=>PyData.int k)) (hv:∀ k∈ks,∃ A,aE R (.int (k:Int))=some A/\qB [X,.int (k:Int),A]=some (V k)):rm [.fz C,S,.fz X,.un]=some (.list (ks.map V)):=by
 have:=fW (fi:=oL (ae (VL.os (ae (o2 (oV 0) (oC (.int 1)) aE) (ap)) cB) (ap)) cY) (caps:=[(0,"circuit"),(2,"changes")]) (fe:=VL.os (ae (oV 2) (ae (oV 0) (ae (o2 (o2 (oV 1) (oC (.int 1)) aE) (oV 0) aE) ap))) qB) (δ:=[.fz C,S,.fz X,.un]) (h:=fun k:Nat=>PyData.int k) (k:=V) (xs:=ks) (by simp [cr,ln,hr]) hk (fun k hq=>by
  obtain ⟨A,a1,a2⟩:=hv k hq
  simp [capS,cr,a1,a2])
 exact this
theorem rX (f:Nat->Option Rw):∀ ks:List Nat,(ks.filter fun k=>(f k).isSome).map (fun k=>nk (f k))=(ks.filterMap f).map rwD
 | []=>rfl
 | k::ks=>by
  rw [List.filter_cons,List.filterMap_cons]
  cases e:f k with
  | none=>simpa using rX f ks
  | some r=>
   have ih:=rX f ks
   simp only [Option.isSome_some,if_true,List.map_cons,e]
   rw [ih]; rfl
theorem JX (z0 z1 z2:Sl) (ks:List Nat) (f:Nat->Option Rw) (hk:ks.length<=16777216):rl [z0,z1,z2,.fz (.list (ks.map fun k=>nk (f k)))]=some (.list ((ks.filterMap f).map rwD)):=by
 have:=jg (fi:=oI (oV 3) fG) (caps:=[]) (ft:=ob (o2 (oV 0) (oC .none) kz)) (fe:=oV 0) (δ:=[z0,z1,z2,.fz (.list (ks.map fun k=>nk (f k)))]) (h:=fun k=>nk (f k)) (k:=fun k=>nk (f k)) (b:=fun k=>(f k).isSome) (xs:=ks) (by simp) hk (fun k _=>by simp [capS,kz,BC]) (fun k _ _=>by simp)
 rw [rX] at this
 exact this
def mid (rs:List Rw):Sp->Option Rw
 | .g _ _=>none
 | .j p q=>match ro rs p,ro rs q with
  | .pl (.turn a e),.pl (.turn _ f)=>if (e+f) % 8=0 then none else some (.pl (.turn a ((e+f) % 8)))
  | _,_=>none
 | .s p q _=>dw (ro rs q) (ro rs p).n1
def lh (rs:List Rw) (x:Sp) (k:Nat):Option Rw:=match x with
 | .g p q=>if k=p then none else if k=q then none else some (ro rs k)
 | .j p q=>if k=p then none else if k=q then mid rs (.j p q) else some (ro rs k)
 | .s p q t=>if k=p then none else if k=q then mid rs (.s p q t) else if k=t then none else some (ro rs k)
noncomputable def iH (rs:List Rw) (a b:Nat):List Rw:=(List.range' a (b-a)).map (ro rs)
def gJ (rs:List Rw) (x:Sp):List Rw:=match x with
 | .g p q=>iH rs 0 p++iH rs (p+1) q++iH rs (q+1) rs.length
 | .j p q=>iH rs 0 p++iH rs (p+1) q++(mid rs (.j p q)).toList++iH rs (q+1) rs.length
 | .s p q t=>iH rs 0 p++iH rs (p+1) q++(mid rs (.s p q t)).toList++iH rs (q+1) t++iH rs (t+1) rs.length
theorem fU {α:Type} (f:Nat->Option α) {a b p:Nat} (h1:a<=p) (h2:p<b):(List.range' a (b-a)).filterMap f=(List.range' a (p-a)).filterMap f++((f p).toList++(List.range' (p+1) (b-(p+1))).filterMap f):=by
 have e:List.range' a (b-a)=List.range' a (p-a)++p::List.range' (p+1) (b-(p+1)):=by
  have h3:b-a=(p-a)+((b-(p+1))+1):=by omega
  rw [h3,<- List.range'_append_1,List.range'_succ]
  rw [show a+(p-a)=p by omega]
 rw [e,List.filterMap_append,List.filterMap_cons]
 cases f p <;> simp
theorem Gk {α:Type} {f:Nat->Option α} {g:Nat -> α}:∀ {l:List Nat},(∀ k∈l,f k=some (g k))->l.filterMap f=l.map g
 | [],_=>rfl
 | k::l,h=>by
  rw [List.filterMap_cons,h k List.mem_cons_self,List.map_cons,Gk fun x hx=>h x (List.mem_cons_of_mem _ hx)]
theorem gM (rs:List Rw) {f:Nat->Option Rw} {a b:Nat} (h:∀ k,a<=k->k<b->f k=some (ro rs k)):(List.range' a (b-a)).filterMap f=iH rs a b:=by
 unfold iH
 refine Gk fun k hk=>?_
 have:=List.mem_range'_1.mp hk
 exact h k (by omega) (by omega)
theorem Fi {rs:List Rw} {x:Sp} (hx:x∈iU rs rs.length):(List.range rs.length).filterMap (lh rs x)=gJ rs x:=by
 rw [List.range_eq_range',show List.range' 0 rs.length=List.range' 0 (rs.length-0) by simp]
 cases x with
 | g p q=>
  obtain ⟨h1,h2⟩:=mem_cand_g.mp hx
  rw [fU _ (Nat.zero_le p) (by omega),fU _ (show p+1<=q by omega) h2,gM rs (a:=0) (b:=p) (fun k a b=>?_),gM rs (a:=p+1) (b:=q) (fun k a b=>?_),gM rs (a:=q+1) (b:=rs.length) (fun k a b=>?_)]
  ·simp [lh,gJ]
  ·simp only [lh]; rw [if_neg (by omega),if_neg (by omega)]
  ·simp only [lh]; rw [if_neg (by omega),if_neg (by omega)]
  ·simp only [lh]; rw [if_neg (by omega),if_neg (by omega)]
 | j p q=>
  obtain ⟨h1,h2⟩:=mem_cand_j.mp hx
  rw [fU _ (Nat.zero_le p) (by omega),fU _ (show p+1<=q by omega) h2,gM rs (a:=0) (b:=p) (fun k a b=>?_),gM rs (a:=p+1) (b:=q) (fun k a b=>?_),gM rs (a:=q+1) (b:=rs.length) (fun k a b=>?_)]
  ·have e1:lh rs (.j p q) p=none:=by simp [lh]
   have e2:lh rs (.j p q) q=mid rs (.j p q):=by simp only [lh]; rw [if_neg (by omega)]; simp
   rw [e1,e2]
   simp [gJ]
  ·simp only [lh]; rw [if_neg (by omega),if_neg (by omega)]
  ·simp only [lh]; rw [if_neg (by omega),if_neg (by omega)]
  ·simp only [lh]; rw [if_neg (by omega),if_neg (by omega)]
 | s p q t=>
  obtain ⟨_,h1,h2,h3⟩:=mem_cand_s.mp hx
  rw [fU _ (Nat.zero_le p) (by omega),fU _ (show p+1<=q by omega) (show q<rs.length by omega),fU _ (show q+1<=t by omega) h3,gM rs (a:=0) (b:=p) (fun k a b=>?_),gM rs (a:=p+1) (b:=q) (fun k a b=>?_),gM rs (a:=q+1) (b:=t) (fun k a b=>?_),gM rs (a:=t+1) (b:=rs.length) (fun k a b=>?_)]
  ·have e1:lh rs (.s p q t) p=none:=by simp [lh]
   have e2:lh rs (.s p q t) q=mid rs (.s p q t):=by simp only [lh]; rw [if_neg (by omega)]; simp
   have e3:lh rs (.s p q t) t=none:=by simp only [lh]; rw [if_neg (by omega),if_neg (by omega)]; simp
   rw [e1,e2,e3]
   simp [gJ]
  ·simp only [lh]; rw [if_neg (by omega),if_neg (by omega),if_neg (by omega)]
  ·simp only [lh]; rw [if_neg (by omega),if_neg (by omega),if_neg (by omega)]
  ·simp only [lh]; rw [if_neg (by omega),if_neg (by omega),if_neg (by omega)]
  ·simp only [lh]; rw [if_neg (by omega),if_neg (by omega),if_neg (by omega)]
theorem MS (A B:D) (a e f k:Int) (h1:aE A (.int 1)=some (.int a)) (h2:aE A (.int 2)=some (.int e)) (h3:aE B (.int 2)=some (.int f)) (hk:(e+f) % 8=k):d8 [A,B]=some (if k=0 then .none else .tuple [.str "turn",.int a,.int k]):=by
 by_cases h:k=0
 ·subst h
  simp [-sSeq,-sIf,aq,aC,d8,runB,kP,ak,h2,h3,hk]
 ·simp [-sSeq,-sIf,aq,aC,d8,runB,kP,ak,h1,h2,h3,hk,h]
theorem H0 {rs:List Rw} {p q:Nat} (h:fH rs (.j p q)=true):∃ a e f,ro rs p=.pl (.turn a e)/\ro rs q=.pl (.turn a f):=by
 simp only [fH,Bool.and_eq_true] at h
 obtain ⟨h1,h2,_⟩:=h
 obtain ⟨a,e,hp⟩:∃ a e,ro rs p=.pl (.turn a e):=by
  cases hr:ro rs p with
  | pl r=>cases r <;> first | exact ⟨_,_,rfl⟩ | (rw [hr] at h1; cases h1)
  | _=>rw [hr] at h1; cases h1
 unfold te at h2
 obtain ⟨h3,h4⟩:=Bool.and_eq_true_iff.mp h2
 have hT:(ro rs q).isT=true:=by
  have:=ny (ro rs q)
  rw [eq_of_beq h3,hp] at this
  have k:aS (.str (Rw.pl (.turn a e)).wd) (.str "turn")=some (.bool true):=ny (.pl (.turn a e))
  rw [k] at this
  simpa using this.symm
 obtain ⟨b,f,hq⟩:∃ b f,ro rs q=.pl (.turn b f):=by
  cases hr:ro rs q with
  | pl r=>cases r <;> first | exact ⟨_,_,rfl⟩ | (rw [hr] at hT; cases hT)
  | _=>rw [hr] at hT; cases hT
 rw [hp,hq] at h4
 have:b=a:=by
  have:=eq_of_beq h4
  simp [Rw.n1] at this
  omega
 subst this
 exact ⟨b,e,f,hp,hq⟩
theorem zo {rs:List Rw} {p q:Nat} (h:fH rs (.j p q)=true):d8 [rwD (ro rs p),rwD (ro rs q)]=some (nk (mid rs (.j p q))):=by
 obtain ⟨a,e,f,hp,hq⟩:=H0 h
 rw [hp,hq,MS (rwD (.pl (.turn a e))) (rwD (.pl (.turn a f))) a e f (((e+f) % 8:Nat):Int) (at1 _ _ _) (Gq _ _ _ _) (Gq _ _ _ _) (by omega)]
 simp only [mid,hp,hq]
 by_cases z:(e+f) % 8=0
 ·rw [if_pos (by omega),if_pos z]; rfl
 ·rw [if_neg (by omega),if_neg z]; rfl
def LJ (rs:List Rw):Sp->List (aZ×D)
 | .g p q=>[(.inl p,.none),(.inl q,.none)]
 | .j p q=>[(.inl p,.none),(.inl q,nk (mid rs (.j p q)))]
 | .s p q t=>[(.inl p,.none),(.inl q,nk (mid rs (.s p q t))),(.inl t,.none)]
def K9 (rs:List Rw) (x:Sp):D:=.dict ((.none,.none)::CZ (LJ rs x))
theorem Lw {a b:Nat} (h:a≠b):decide ((Sum.inl (b:Int):aZ)=.inl (a:Int))=false:=decide_eq_false fun z=>h (by have:=Sum.inl.inj z; omega)
theorem K5 (p q:Nat) (a b:D) (h:p≠q):se [.int p,a,.int q,b]=some (.dict ((.none,.none)::CZ [(.inl p,a),(.inl q,b)])):=by
 have hd:uS ([((.inl (p:Int):aZ),a),(.inl (q:Int),b)].map (·.1))=true:=by simp only [List.map_cons,List.map_nil,uS,List.any_cons,List.any_nil,Lw h]; rfl
 exact if_pos ⟨hd,by simp⟩
theorem M7 (p q t:Nat) (a b c:D) (h:p≠q) (h2:p≠t) (h3:q≠t):se [.int p,a,.int q,b,.int t,c]=some (.dict ((.none,.none)::CZ [(.inl p,a),(.inl q,b),(.inl t,c)])):=by
 have hd:uS ([((.inl (p:Int):aZ),a),(.inl (q:Int),b),(.inl (t:Int),c)].map (·.1))=true:=by simp only [List.map_cons,List.map_nil,uS,List.any_cons,List.any_nil,Lw h,Lw h2,Lw h3]; rfl
 exact if_pos ⟨hd,by simp⟩
theorem Nb (R:D) (p q:Int) (X:D) (h:se [.int p,.none,.int q,.none]=some X):bB [R,.tuple [.str "gone",.int p,.int q]]=some X:=by
 simp [-sSeq,-sIf,aq,aC,bB,runB,en,ak,MR,h]
theorem Na (R A B M:D) (p q:Int) (X:D) (ra:aE R (.int p)=some A) (rb:aE R (.int q)=some B) (hj:d8 [A,B]=some M) (h:se [.int p,.none,.int q,M]=some X):bB [R,.tuple [.str "joined",.int p,.int q]]=some X:=by
 simp [-sSeq,-sIf,aq,aC,bB,runB,en,ak,MQ,MP,ra,rb,hj,h]
theorem M9 (R A B M:D) (p q t w:Int) (X:D) (ra:aE R (.int p)=some A) (a1:aE A (.int 1)=some (.int w)) (rb:aE R (.int q)=some B) (hj:cE [B,.int w]=some M) (h:se [.int p,.none,.int q,M,.int t,.none]=some X):bB [R,.tuple [.str "swung",.int p,.int q,.int t]]=some X:=by
 simp [-sSeq,-sIf,aq,aC,bB,runB,en,ak,MO,MN,OK,ra,a1,rb,hj,h]
theorem La {rs:List Rw} {x:Sp} (hx:x∈iU rs rs.length) (hf:fH rs x=true):bB [.tuple (rs.map rwD),zpD x]=some (K9 rs x):=by
 cases x with
 | g p q=>
  obtain ⟨h1,h2⟩:=mem_cand_g.mp hx
  exact Nb _ p q _ (K5 p q _ _ (by omega))
 | j p q=>
  obtain ⟨h1,h2⟩:=mem_cand_j.mp hx
  exact Na _ _ _ _ p q _ (iN (by omega)) (iN h2) (zo hf) (K5 p q _ _ (by omega))
 | s p q t=>
  obtain ⟨hS,h1,h2,h3⟩:=mem_cand_s.mp hx
  have hw:(dw (ro rs q) (ro rs p).n1).isSome=true:=by
   simp only [fH,Bool.and_eq_true] at hf
   cases e:dw (ro rs q) (ro rs p).n1 with
   | some r=>rfl
   | none=>rw [e] at hf; simp at hf
  obtain ⟨r',e⟩:=Option.isSome_iff_exists.mp hw
  exact M9 _ _ _ _ p q t _ _ (iN (by omega)) (F1 _) (iN (by omega)) (NP (Ah e)) (M7 p q t _ _ _ (by omega) (by omega) (by omega))
theorem KR (es:List (aZ×D)) (k:Int) (A:D):qB [.dict ((.none,.none)::CZ es),.int k,A]=some ((mY es (.inl k)).getD A):=by
 show ((sR (CZ es)).bind fun es=>(uA (.int k)).bind fun k=>some ((mY es k).getD A))=_
 rw [nK]
 rfl
theorem ke (a b:Nat):decide ((Sum.inl (a:Int):aZ)=.inl (b:Int))=decide (b=a):=by
 rw [decide_eq_decide]
 constructor
 ·intro z; have:=Sum.inl.inj z; omega
 ·rintro rfl; rfl
theorem lV (a k:Nat) (d:D) (es:List (aZ×D)):mY ((.inl (a:Int),d)::es) (.inl (k:Int))=if k=a then some d else mY es (.inl (k:Int)):=by
 unfold mY
 rw [List.find?_cons]
 simp only [ke]
 by_cases h:k=a
 ·simp [h]
 ·simp [h]
theorem HY (rs:List Rw) (x:Sp) (k:Nat):qB [K9 rs x,.int (k:Int),rwD (ro rs k)]=some (nk (lh rs x k)):=by
 unfold K9
 rw [KR]
 cases x with
 | g p q=>
  simp only [LJ,lh,lV]
  split
  ·rfl
  ·split <;> rfl
 | j p q=>
  simp only [LJ,lh,lV]
  split
  ·rfl
  ·split <;> rfl
 | s p q t=>
  simp only [LJ,lh,lV]
  split
  ·rfl
  ·split
   ·rfl
   ·split <;> rfl
theorem Dn {rs:List Rw} (ho:Ord rs) (hn:rs.length<=100) (w:Nat) {x:Sp} (hx:x∈iU rs rs.length) (hf:fH rs x=true) (L:D) (h:aO [cw w rs]=some L) (hi:KK true (zpD x) L=some (.bool false)):io [cw w rs,zpD x]=some (cw w (gJ rs x)):=by
 have hr:cY [.int (rs.length:Int)]=some ((List.range rs.length).map fun k:Nat=>PyData.int k):=by
  rw [lE (j:=(rs.length:Int)) (by omega) (by omega),Int.toNat_natCast,List.range_eq_range']
  exact congrArg some (tM 0 rs.length)
 have p1:=JY (cw w rs) (.tuple (rs.map rwD)) (K9 rs x) .none (.fz (zpD x)) rs.length (List.range rs.length) (fun k=>nk (lh rs x k)) (by simp; omega) (o5 w rs) (by simp) hr (fun k hk=>⟨_,iN (List.mem_range.mp hk),HY rs x k⟩)
 have p2:=JX (.fz (cw w rs)) (.fz (zpD x)) (.fz (K9 rs x)) (List.range rs.length) (lh rs x) (by simp; omega)
 rw [Fi hx] at p2
 exact GI w rs.length _ _ L _ _ _ h hi (La hx hf) p1 p2
theorem xk (rs:List Rw) {a b:Nat} (hb:b<=rs.length):(rs.drop a).take (b-a)=iH rs a b:=by
 unfold iH
 refine List.ext_getElem ?_ fun i h1 h2=>?_
 ·rw [List.length_take,List.length_drop,List.length_map,List.length_range']; omega
 ·rw [List.length_map,List.length_range'] at h2
  rw [List.getElem_take,List.getElem_drop,List.getElem_map,List.getElem_range',qe (by omega)]
  simp
theorem ng (rs:List Rw):iH rs 0 rs.length=rs:=by
 rw [<- xk rs (Nat.le_refl _)]
 simp
theorem dY (rs:List Rw) {a b p:Nat} (h1:a<=p) (h2:p<b):iH rs a b=iH rs a p++ro rs p::iH rs (p+1) b:=by
 unfold iH
 have e:List.range' a (b-a)=List.range' a (p-a)++p::List.range' (p+1) (b-(p+1)):=by
  have h3:b-a=(p-a)+((b-(p+1))+1):=by omega
  rw [h3,<- List.range'_append_1,List.range'_succ]
  rw [show a+(p-a)=p by omega]
 rw [e,List.map_append,List.map_cons]
theorem pX {r q:Rw} (h:r.wd=q.wd) (hr:r.isLook=false):q.isLook=false:=by rw [<- m9,<- h,m9,hr]
theorem li {r q:Rw} (h:un r q=true):r.isLook=false/\q.isLook=false:=by
 have hr:r.isTL=false:=by
  cases e:r.isTL with
  | false=>rfl
  | true=>unfold un at h; rw [e] at h; cases h
 have hl:r.isLook=false:=by cases r <;> first | rfl | cases hr
 refine ⟨hl,?_⟩
 unfold un at h
 rw [hr] at h
 cases hs:r.isSC with
 | true=>
  rw [hs] at h
  simp only [Bool.false_eq_true,if_false,if_true] at h
  exact pX (eq_of_beq (Bool.and_eq_true_iff.mp h).1) hl
 | false=>
  rw [hs] at h
  simp only [Bool.false_eq_true,if_false] at h
  exact pX (jJ h) hl
theorem Ai {r r':Rw} {w:Nat} (h:dw r w=some r'):r.isLook=false/\r'.isLook=false/\(oS r->oS r')/\∀ l,mb l r->mb l r':=by
 cases r with
 | pl r=>
  cases r with
  | flip j=>simp only [dw] at h; split at h; (· cases h; exact ⟨rfl,rfl,fun _=>trivial,fun _ _=>trivial⟩); (· cases h)
  | turn j e=>simp only [dw] at h; split at h; (· cases h; exact ⟨rfl,rfl,fun _=>trivial,fun _ _=>trivial⟩); (· cases h)
  | tie i j=>
   simp only [dw] at h
   split at h
   ·rename_i e; subst e; cases h; exact ⟨rfl,rfl,fun g=>g,fun _ _=>trivial⟩
   ·cases h
  | sign i j=>
   simp only [dw] at h
   split at h
   ·rename_i e; subst e; cases h; exact ⟨rfl,rfl,fun g=>Ne.symm g,fun _ _=>trivial⟩
   ·split at h
    ·rename_i e; subst e; cases h; exact ⟨rfl,rfl,fun g=>g,fun _ _=>trivial⟩
    ·cases h
  | _=>cases h
 | look j=>cases h
 | wflip m j=>simp only [dw] at h; split at h; (· cases h; exact ⟨rfl,rfl,fun _=>trivial,fun _ q=>q⟩); (· cases h)
 | wsign m j=>simp only [dw] at h; split at h; (· cases h; exact ⟨rfl,rfl,fun _=>trivial,fun _ q=>q⟩); (· cases h)
theorem KW {rs:List Rw} {p q t:Nat} (h:fH rs (.s p q t)=true):(ro rs p).isS=true/\jP (ro rs p) (ro rs t)=true/\∃ r',dw (ro rs q) (ro rs p).n1=some r':=by
 simp only [fH,Bool.and_eq_true] at h
 obtain ⟨h1,_⟩:=h
 have he:∀ o:Option Rw,o.toList.isEmpty=!o.isSome:=fun o=>by cases o <;> rfl
 rw [he] at h1
 have h1:(ro rs p).isS=true/\jP (ro rs p) (ro rs t)=true/\(dw (ro rs q) (ro rs p).n1).isSome=true:=by simpa using h1
 exact ⟨h1.1,h1.2.1,Option.isSome_iff_exists.mp h1.2.2⟩
theorem oa (rs:List Rw) (a b:Nat):(iH rs a b).length=b-a:=by unfold iH; rw [List.length_map,List.length_range']
theorem oy {rs:List Rw} {x:Sp} (hx:x∈iU rs rs.length):(gJ rs x).length<rs.length:=by
 have ml:∀ o:Option Rw,o.toList.length<=1:=fun o=>by cases o <;> simp
 cases x with
 | g p q=>
  obtain ⟨h1,h2⟩:=mem_cand_g.mp hx
  simp only [gJ,List.length_append,oa]; omega
 | j p q=>
  obtain ⟨h1,h2⟩:=mem_cand_j.mp hx
  have:=ml (mid rs (.j p q))
  simp only [gJ,List.length_append,oa]; omega
 | s p q t=>
  obtain ⟨_,h1,h2,h3⟩:=mem_cand_s.mp hx
  have:=ml (mid rs (.s p q t))
  simp only [gJ,List.length_append,oa]; omega
theorem o8 {rs:List Rw} (ho:Ord rs) (hn:rs.length<=100) (w:Nat):∃ zs:List Sp,(zs.length<=100000/\∀ x,x∈zs↔x∈(iU rs rs.length).filter (fH rs))/\aO [cw w rs]=some (.list (zs.map zpD))/\True:=by
 obtain ⟨zs,⟨hl,hm⟩,h1,h2⟩:=Dl ((iU rs rs.length).filter (fH rs))
 have p:=yC ho
 have l1:=po rs rs.length
 have l2:rs.length*(2*rs.length+1)<=100*201:=Nat.mul_le_mul hn (by omega)
 exact ⟨zs,⟨by rw [hl,<- p.length_eq]; omega,hm⟩,yy ho hn w _ (h2 _ p),trivial⟩
def II (rs:List Rw) (x:Sp):Prop:=x∈iU rs rs.length/\fH rs x=true
theorem Ao {rs:List Rw} (ho:Ord rs) (hn:rs.length<=100) (w:Nat) {x:Sp} (hf:II rs x):io [cw w rs,zpD x]=some (cw w (gJ rs x)):=by
 obtain ⟨zs,⟨hz,hm⟩,h1,_⟩:=o8 ho hn w
 have ig:=HW (up x) zs
 have hin:xP (zqD (up x)) (zs.map zpD)=true:=(HV _ _).mpr ⟨x,(hm x).mpr (List.mem_filter.mpr hf),rfl⟩
 rw [hin,zP] at ig
 exact Dn ho hn w hf.1 hf.2 _ h1 ig
theorem cg {r q:Rw} (h:cG r q=false) {k:Nat} {a b:Kd} (ha:(k,a)∈kl r) (hb:(k,b)∈kl q):a=b/\a≠.other:=by
 unfold cG at h
 have h1:=List.any_eq_false.mp h _ ha
 have h2:((kl q).any (bad (k,a)))=false:=by simpa using h1
 have h3:=List.any_eq_false.mp h2 _ hb
 have h4:bad (k,a) (k,b)=false:=by simpa using h3
 unfold bad at h4
 simp at h4
 exact h4
theorem lX {r:Row} {k:Nat} (h:k∈MA.Row.fl r):(k,Kd.flip)∈kl (.pl r)\/(k,Kd.other)∈kl (.pl r):=by
 cases r <;> simp [MA.Row.fl,kl] at h ⊢ <;> simp [h]
 all_goals (rcases h with h | h <;> simp [h])
theorem kJ {r:Row} (hc:∃ i j,r=.cross i j) {k:Nat} (h:k∈MA.Row.fl r):(k,Kd.other)∈kl (.pl r):=by
 obtain ⟨i,j,rfl⟩:=hc
 simp [MA.Row.fl,kl] at h ⊢
 exact h
theorem uJ {r:Row} {k:Nat} (h:k∈MA.Row.hd r):(k,Kd.hold)∈kl (.pl r):=by
 cases r <;> simp [MA.Row.hd,kl] at h ⊢ <;> simp [h]
theorem Cq {r q:Row} (h:cG (.pl r) (.pl q)=false):MA.Apart r q:=by
 refine ⟨fun k hk z=>?_,fun k hk z=>?_,fun c k hk z=>?_,fun c k hk z=>?_⟩
 ·rcases lX hk with a | a
  ·have:=(cg h a (uJ z)).1; cases this
  ·exact (cg h a (uJ z)).2 rfl
 ·rcases lX hk with a | a
  ·have:=(cg h (uJ z) a).1; cases this
  ·have:=(cg h (uJ z) a).1; cases this
 ·rcases lX z with a | a
  ·exact (cg h (kJ c hk) a).2 rfl
  ·exact (cg h (kJ c hk) a).2 rfl
 ·rcases lX z with a | a
  ·have:=(cg h a (kJ c hk)).1; cases this
  ·exact (cg h a (kJ c hk)).2 rfl
theorem Ir {n:Nat} {r q:Row} (hr:r.ok n) (hq:q.ok n) (h:cG (.pl r) (.pl q)=false):MA.Jc n r q:=by
 have sw:∀ {j:Nat} {q:Row},cG (.pl (.swing j)) (.pl q)=false->j ∉ MA.Row.fl q/\j ∉ MA.Row.hd q:=fun {j q} h=>by
  have e:(j,Kd.other)∈kl (.pl (.swing j)):=List.mem_cons_self
  refine ⟨fun z=>?_,fun z=>(cg h e (uJ z)).2 rfl⟩
  rcases lX z with a | a <;> exact (cg h e a).2 rfl
 cases h1:MA.Row.sw r with
 | false=>
  cases h2:MA.Row.sw q with
  | false=>exact MA.Iu hr hq h1 h2 (Cq h)
  | true=>
   cases q with
   | swing j=>
    rw [wF] at h
    obtain ⟨a,b⟩:=sw h
    exact MA.Ff hq hr h1 a b
   | _=>cases h2
 | true=>
  cases r with
  | swing i=>
   cases h2:MA.Row.sw q with
   | false=>
    obtain ⟨a,b⟩:=sw h
    exact MA.Ca hr hq h2 a b
   | true=>
    cases q with
    | swing j=>
     refine MA.Iq hr hq fun e=>?_
     subst e
     exact (cg h (k:=i) (a:=.other) (b:=.other) List.mem_cons_self List.mem_cons_self).2 rfl
    | _=>cases h2
  | _=>cases h1
theorem Id {r q:Row} (h:jP (.pl r) (.pl q)=true):r=q:=by
 have e:=jJ h
 cases r <;> cases q <;> first
  | (simp only [Rw.wd] at e; exact absurd e (by decide +kernel))
  | (simp only [jP,rwD,rowD,PyData.eqv,PyData.eqvAll] at h; simp at h; simp; omega)
theorem Jf {n:Nat} {r q:Row} (hr:r.ok n) (hq:q.ok n) (h:un (.pl r) (.pl q)=true):∀ g,MA.St g->MA.ah n (MA.ah n g r) q=g:=by
 have key:r=q\/(∃ i j,r=.sign i j/\q=.sign j i)\/(∃ i j,r=.cross i j/\q=.cross j i):=by
  unfold un at h
  cases r with
  | turn j e=>cases h
  | sign i j=>
   have h:((Rw.pl (.sign i j)).wd==(Rw.pl q).wd&&(((w2 (.pl (.sign i j))).1:Int)==(w2 (.pl q)).1&&((w2 (.pl (.sign i j))).2:Int)==(w2 (.pl q)).2))=true:=h
   obtain ⟨wa,wb⟩:=Bool.and_eq_true_iff.mp h
   cases q with
   | sign a b=>
    simp [w2] at wb
    by_cases z:i=a
    ·exact .inl (by congr 1; omega)
    ·exact .inr (.inl ⟨i,j,rfl,by congr 1 <;> omega⟩)
   | _=>simp only [Rw.wd] at wa; exact absurd (eq_of_beq wa) (by decide +kernel)
  | cross i j=>
   have h:((Rw.pl (.cross i j)).wd==(Rw.pl q).wd&&(((w2 (.pl (.cross i j))).1:Int)==(w2 (.pl q)).1&&((w2 (.pl (.cross i j))).2:Int)==(w2 (.pl q)).2))=true:=h
   obtain ⟨wa,wb⟩:=Bool.and_eq_true_iff.mp h
   cases q with
   | cross a b=>
    simp [w2] at wb
    by_cases z:i=a
    ·exact .inl (by congr 1; omega)
    ·exact .inr (.inr ⟨i,j,rfl,by congr 1 <;> omega⟩)
   | _=>simp only [Rw.wd] at wa; exact absurd (eq_of_beq wa) (by decide +kernel)
  | _=>exact .inl (Id h)
 have about:MA.Row.about r=r:=by
  cases r with
  | turn j e=>cases h
  | _=>rfl
 rcases key with rfl | ⟨i,j,rfl,rfl⟩ | ⟨i,j,rfl,rfl⟩
 ·exact MA.eB hr about
 ·intro g hg
  rw [<- MA.qc]
  exact MA.eB hr rfl g hg
 ·intro g hg
  rw [<- MA.wD hr.1 hr.2.1]
  exact MA.eB hr rfl g hg
theorem yM {y:Rw} {w:Nat} (h:AT y w=false):cG (.pl (.swing w)) y=false:=by
 unfold cG
 show ([(w,Kd.other)].any fun p=>(kl y).any (bad p))=false
 rw [List.any_cons,List.any_nil,Bool.or_false,List.any_eq_false]
 intro x hx
 have:=List.any_eq_false.mp h x hx
 unfold bad
 simp at this ⊢
 intro z
 exact absurd z.symm this
theorem Jv {n w:Nat} {r:Row} (hw:w<n) (hr:r.ok n) {r':Rw} (h:dw (.pl r) w=some r'):∃ m,r'=.pl m/\∀ g,MA.St g->MA.ah n (MA.ah n (MA.ah n g (.swing w)) r) (.swing w)=MA.ah n g m:=by
 cases r with
 | flip j=>
  simp only [dw] at h
  split at h
  ·rename_i e; subst e; cases h; exact ⟨_,rfl,fun g hg=>MA.xf hw hg⟩
  ·cases h
 | turn j e=>
  simp only [dw] at h
  split at h
  ·rename_i z; obtain ⟨rfl,rfl⟩:=z; cases h; exact ⟨_,rfl,fun g hg=>MA.xb hw hg⟩
  ·cases h
 | tie i j=>
  simp only [dw] at h
  split at h
  ·rename_i e; subst e; cases h; exact ⟨_,rfl,fun g hg=>MA.GH hw hg hr.1 hr.2.2⟩
  ·cases h
 | sign i j=>
  simp only [dw] at h
  split at h
  ·rename_i e; subst e; cases h
   refine ⟨_,rfl,fun g hg=>?_⟩
   rw [MA.qc]
   exact MA.xc hw hg hr.2.1 (Ne.symm hr.2.2)
  ·split at h
   ·rename_i e; subst e; cases h; exact ⟨_,rfl,fun g hg=>MA.xc hw hg hr.1 hr.2.2⟩
   ·cases h
 | _=>cases h
theorem wY (M:Nat):MA.val M xB=⟨0,0,0,0⟩:=MA.tL _
theorem xA (M:Nat):MA.jd (MA.val M xB)=⟨0,0⟩:=by rw [wY]; rfl
theorem p7 (N:Nat) (F:Nat->Int) (h:∀ p,p<N->F p=0):MA.cu N F=0:=by
 induction N with
 | zero=>rfl
 | succ N ih=>show MA.cu N F+F N=0; rw [ih fun p hp=>h p (by omega),h N (by omega)]; rfl
theorem A7 {M n:Nat} {f:Nat->Nu} (h:isZ n f=true):MA.Ef M n f=⟨0,0⟩:=by
 have z:∀ p,p<2 ^ n->f p=xB:=fun p hp=>(pV _).mp (List.all_eq_true.mp h p (List.mem_range.mpr hp))
 apply MA.S2.ext'
 ·exact p7 _ _ fun p hp=>by rw [z p hp,xA]
 ·exact p7 _ _ fun p hp=>by rw [z p hp,xA]
theorem uD {M n:Nat} {f:Nat->Nu} (hl:∀ x,MA.cU (f x)) (hM:∀ x,(f x).2<=M):isZ n f=true↔(MA.Ef M n f).p=0:=by
 constructor
 ·intro h; rw [A7 h]
 ·intro h
  have nn:∀ x,0<=(MA.jd (MA.val M (f x))).p:=fun x=>by
   show 0<=_*_+_*_+_*_+_*_
   have q:∀ z:Int,0<=z*z:=fun z=>by
    rcases Int.le_total 0 z with h | h
    ·exact Int.mul_nonneg h h
    ·exact Int.mul_nonneg_of_nonpos_of_nonpos h h
   have:=q (MA.val M (f x)).a
   have:=q (MA.val M (f x)).b
   have:=q (MA.val M (f x)).c
   have:=q (MA.val M (f x)).d
   omega
  have all:∀ N,MA.cu N (fun p=>(MA.jd (MA.val M (f p))).p)=0->∀ x,x<N->(MA.jd (MA.val M (f x))).p=0:=fun N=>by
   have ps:∀ K,0<=MA.cu K (fun p=>(MA.jd (MA.val M (f p))).p):=fun K=>by
    induction K with
    | zero=>exact Int.le_refl _
    | succ K ih=>show 0<=MA.cu K _+(MA.jd (MA.val M (f K))).p; have:=nn K; omega
   induction N with
   | zero=>intro _ x hx; omega
   | succ N ih=>
    intro e x hx
    have e:MA.cu N (fun p=>(MA.jd (MA.val M (f p))).p)+(MA.jd (MA.val M (f N))).p=0:=e
    have:=ps N
    have:=nn N
    by_cases z:x=N
    ·subst z; omega
    ·exact ih (by omega) x (by omega)
  refine List.all_eq_true.mpr fun x hx=>(pV _).mpr ?_
  have:=MA.A8 (all _ h x (List.mem_range.mp hx))
  exact MA.i6 (M:=M) (hl x) (MA.lJ 0 1) (hM x) (Nat.zero_le _) (by rw [this]; exact (wY M).symm)
theorem y9:MA.cU xB:=MA.lJ 0 1
theorem sW (e:Nat):MA.bf e xB=xB:=by
 have:∀ k,MA.gI k ⟨0,0,0,0⟩=⟨0,0,0,0⟩:=fun k=>by
  induction k with
  | zero=>rfl
  | succ k ih=>show MA.Q4.tn (MA.gI k _)=_; rw [ih]; rfl
 unfold MA.bf xB
 rw [this]
theorem uL:MA.cD (MA.b9 xB xB)=xB:=by rfl
theorem rO {f:Nat->Nu} (h:MA.St f) (w m:Nat):MA.St (left f w m):=by
 obtain ⟨a,M,b⟩:=h
 refine ⟨fun p=>?_,M,fun p=>?_⟩
 ·unfold left; split
  ·exact a p
  ·exact y9
 ·unfold left; split
  ·exact b p
  ·exact Nat.zero_le _
theorem vA {n i j m:Nat} (hi:i<n) (hj:j<n) (hij:i≠j) (f:Nat->Nu):ah n (left f (wt n j) m) (.swing i)=left (ah n f (.swing i)) (wt n j) m:=funext fun p=>by
 have fb:=MA.hR (r:=.flip i) hi hj (by simp [MA.Row.fl]; omega) p
 have fb:aG (wt n j) (flp (wt n i) p)=aG (wt n j) p:=fb
 show (if aG (wt n i) p=0 then MA.cD (MA.b9 (left f (wt n j) m p) (left f (wt n j) m (p+wt n i))) else MA.cD (MA.b9 (left f (wt n j) m (p-wt n i)) (MA.bf 4 (left f (wt n j) m p))))=if aG (wt n j) p=m then (if aG (wt n i) p=0 then MA.cD (MA.b9 (f p) (f (p+wt n i))) else MA.cD (MA.b9 (f (p-wt n i)) (MA.bf 4 (f p)))) else xB
 by_cases h0:aG (wt n i) p=0
 ·rw [MA.rV h0] at fb
  rw [if_pos h0,if_pos h0]
  unfold left
  rw [fb]
  by_cases h:aG (wt n j) p=m
  ·rw [if_pos h,if_pos h,if_pos h]
  ·rw [if_neg h,if_neg h,if_neg h,uL]
 ·rw [MA.rW h0] at fb
  rw [if_neg h0,if_neg h0]
  unfold left
  rw [fb]
  by_cases h:aG (wt n j) p=m
  ·rw [if_pos h,if_pos h,if_pos h]
  ·rw [if_neg h,if_neg h,if_neg h,sW,uL]
theorem Em {n j m:Nat} {r:Row} (hr:r.ok n) (hj:j<n) (hs:MA.Row.sw r=false) (h:j ∉ MA.Row.fl r) (f:Nat->Nu):ah n (left f (wt n j) m) r=left (ah n f r) (wt n j) m:=funext fun p=>by
 rw [MA.fJ hs]
 unfold left
 rw [MA.hR hr hj h,MA.fJ hs]
 split
 ·rfl
 ·rw [sW]
theorem zi {n j m:Nat} {r:Row} (hr:r.ok n) (hj:j<n) (h:cG (.pl r) (.look j)=false) (f:Nat->Nu):ah n (left f (wt n j) m) r=left (ah n f r) (wt n j) m:=by
 have hold:(j,Kd.hold)∈kl (.look j):=List.mem_cons_self
 cases hs:MA.Row.sw r with
 | false=>
  refine Em hr hj hs (fun z=>?_) f
  rcases lX z with a | a
  ·have:=(cg h a hold).1; cases this
  ·exact (cg h a hold).2 rfl
 | true=>
  cases r with
  | swing i=>
   refine vA hr hj (fun e=>?_) f
   subst e
   exact (cg h (k:=i) (a:=.other) List.mem_cons_self hold).2 rfl
  | _=>cases hs
theorem BB {n:Nat} {r:Row} (hr:r.ok n) {f:Nat->Nu} (h:MA.St f):isZ n (ah n f r)=isZ n f:=by
 obtain ⟨a,M,b⟩:=h
 have b1:∀ x,(f x).2<=M+1:=fun x=>Nat.le_succ_of_le (b x)
 rw [Bool.eq_iff_iff,uD (M:=M+1) (MA.aY a n r) (MA.bu n f r M b),uD (M:=M+1) a b1,MA.y8 r hr f fun x=>by have:=b x; omega]
noncomputable def act (n:Nat):Rw->Br->List Br
 | .look j,b=>dZ n j b
 | r,b=>[eA n r b]
theorem gR {n:Nat} {r:Rw} (h:r.isLook=false) (b:Br):act n r b=[eA n r b]:=by
 cases r <;> first | rfl | cases h
theorem bV (n:Nat) (r:Rw) (rs:List Rw) (bs:List Br):thru n (r::rs) bs=thru n rs (bs.flatMap (act n r)):=by
 cases r with
 | look j=>rfl
 | pl q=>show thru n rs (bs.map (eA n (.pl q)))=_; rw [List.map_eq_flatMap]; rfl
 | wflip m j=>show thru n rs (bs.map (eA n (.wflip m j)))=_; rw [List.map_eq_flatMap]; rfl
 | wsign m j=>show thru n rs (bs.map (eA n (.wsign m j)))=_; rw [List.map_eq_flatMap]; rfl
noncomputable def Gh:Rw->Row
 | .pl r=>r
 | .look j=>.flip j
 | .wflip _ j=>.flip j
 | .wsign _ j=>.turn j 4
noncomputable def cnd:Rw->List Nat->Bool
 | .wflip m _,ms=>decide (ms[m]? = some 1)
 | .wsign m _,ms=>decide (ms[m]? = some 1)
 | _,_=>true
theorem gz (n:Nat) {r:Rw} (h:r.isLook=false) (b:Br):eA n r b=if cnd r b.1=true then (b.1,ah n b.2 (Gh r)) else b:=by
 cases r with
 | pl q=>rfl
 | look j=>cases h
 | wflip m j=>simp only [eA,cnd,Gh,decide_eq_true_eq]
 | wsign m j=>simp only [eA,cnd,Gh,decide_eq_true_eq]
theorem wn (n:Nat) (r:Rw) (b:Br):(eA n r b).1=b.1:=by
 cases r with
 | pl q=>rfl
 | look j=>rfl
 | wflip m j=>simp only [eA]; split <;> rfl
 | wsign m j=>simp only [eA]; split <;> rfl
theorem KQ {n:Nat} {r:Rw} {b:Br} (h:MA.St b.2):MA.St (eA n r b).2:=by
 cases r with
 | pl q=>exact h.done n q
 | look j=>exact h
 | wflip m j=>simp only [eA]; split; (· exact h.done n _); (· exact h)
 | wsign m j=>simp only [eA]; split; (· exact h.done n _); (· exact h)
theorem rQ {n l:Nat} {r:Rw} (h:r.isLook=false) (hr:r.ok n l):(Gh r).ok n:=by
 cases r with
 | pl q=>exact hr
 | look j=>cases h
 | wflip m j=>exact hr.2
 | wsign m j=>exact ⟨hr.2,by decide,by decide⟩
theorem wf {r:Rw} (h:r.isLook=false):kl r=kl (.pl (Gh r)):=by
 cases r <;> first | rfl | cases h
theorem Iv {n l l':Nat} {r q:Rw} (nr:r.isLook=false) (nq:q.isLook=false) (hr:r.ok n l) (hq:q.ok n l') (h:cG r q=false) {b:Br} (hb:MA.St b.2):eA n q (eA n r b)=eA n r (eA n q b):=by
 have c:MA.Jc n (Gh r) (Gh q):=Ir (rQ nr hr) (rQ nq hq) (by
  unfold cG at h ⊢
  rw [wf nr,wf nq] at h
  exact h)
 rw [gz n nq,wn,gz n nr (eA n q b),wn,gz n nr,gz n nq]
 by_cases a:cnd r b.1=true
 ·by_cases e:cnd q b.1=true
  ·simp only [a,e,if_true]
   rw [c b.2 hb]
  ·simp only [a,e,if_true,if_false,Bool.false_eq_true]
 ·by_cases e:cnd q b.1=true
  ·simp only [a,e,if_true,if_false,Bool.false_eq_true]
  ·simp only [a,e,if_false,Bool.false_eq_true]
theorem Cc {n l m:Nat} {r:Rw} (hr:r.ok n l) {ms:List Nat} (hl:l<=ms.length):cnd r (ms++[m])=cnd r ms:=by
 cases r with
 | wflip k j=>simp only [cnd]; rw [List.getElem?_append_left (by have:=hr.1; omega)]
 | wsign k j=>simp only [cnd]; rw [List.getElem?_append_left (by have:=hr.1; omega)]
 | _=>rfl
theorem Cb {n l j:Nat} {r:Rw} (nr:r.isLook=false) (hr:r.ok n l) (hj:j<n) (h:cG r (.look j)=false) {b:Br} (hb:MA.St b.2) (hl:l<=b.1.length):dZ n j (eA n r b)=(dZ n j b).map (eA n r):=by
 have h':cG (.pl (Gh r)) (.look j)=false:=by
  unfold cG at h ⊢
  rw [wf nr] at h
  exact h
 have key:∀ m,eA n r (b.1++[m],left b.2 (wt n j) m)=((eA n r b).1++[m],left (eA n r b).2 (wt n j) m)/\isZ n (eA n r (b.1++[m],left b.2 (wt n j) m)).2=isZ n (left b.2 (wt n j) m):=fun m=>by
  rw [gz n nr,gz n nr,Cc hr hl]
  by_cases a:cnd r b.1=true
  ·simp only [a,if_true]
   exact ⟨by rw [zi (rQ nr hr) hj h'],BB (rQ nr hr) (rO hb _ _)⟩
  ·simp only [a,if_false]
   exact ⟨rfl,rfl⟩
 unfold dZ
 have k0:=key 0
 have k1:=key 1
 rw [k0.1] at k0
 rw [k1.1] at k1
 rw [List.filter_cons,List.filter_cons,List.filter_cons,List.filter_cons,k0.2,k1.2]
 cases isZ n (left b.2 (wt n j) 0) <;> cases isZ n (left b.2 (wt n j) 1) <;> simp [(key 0).1,(key 1).1]
def wX (n l:Nat) (r q:Rw):Prop:=∀ b:Br,MA.St b.2->l<=b.1.length->(act n r b).flatMap (act n q)=(act n q b).flatMap (act n r)
theorem Iy {n l l':Nat} {r q:Rw} (nr:r.isLook=false) (hr:r.ok n l) (hq:q.ok n l') (h:cG r q=false):wX n l r q:=fun b hb hl=>by
 rw [gR nr]
 cases nq:q.isLook with
 | false=>
  rw [gR nq]
  show act n q (eA n r b)++[]=act n r (eA n q b)++[]
  rw [gR nq,gR nr,Iv nr nq hr hq h hb]
 | true=>
  cases q with
  | look j=>
   show dZ n j (eA n r b)++[]=(dZ n j b).flatMap (act n r)
   rw [List.append_nil,Cb nr hr hq.1 h hb hl,List.map_eq_flatMap]
   congr 1
   funext c
   rw [gR nr]
  | _=>cases nq
def GB (l:Nat) (bs:List Br):Prop:=∀ b∈bs,MA.St b.2/\l<=b.1.length
theorem GB.act {n l:Nat} {bs:List Br} (h:GB l bs) (r:Rw):GB (l+iJ [r]) (bs.flatMap (GN.act n r)):=fun c hc=>by
 obtain ⟨b,hb,hc⟩:=List.mem_flatMap.mp hc
 obtain ⟨h1,h2⟩:=h b hb
 cases nr:r.isLook with
 | false=>
  rw [gR nr] at hc
  rw [List.mem_singleton.mp hc,kt,nr]
  exact ⟨KQ h1,by rw [wn]; exact h2⟩
 | true=>
  rw [kt,nr]
  cases r with
  | look j=>
   have hc:c∈dZ n j b:=hc
   unfold dZ at hc
   have hc:=(List.mem_filter.mp hc).1
   simp only [List.mem_cons,List.not_mem_nil,or_false] at hc
   rcases hc with rfl | rfl
   ·exact ⟨rO h1 _ _,by simp; omega⟩
   ·exact ⟨rO h1 _ _,by simp; omega⟩
  | _=>cases nr
theorem GB.thru {n:Nat}:∀ {rs:List Rw} {l:Nat} {bs:List Br},GB l bs->GB (l+iJ rs) (GN.thru n rs bs)
 | [],l,bs,h=>h
 | r::rs,l,bs,h=>by
  rw [bV,oE,<- Nat.add_assoc]
  exact GB.thru (h.act r)
theorem GB.le {l l':Nat} {bs:List Br} (h:GB l bs) (hl:l'<=l):GB l' bs:=fun b hb=>⟨(h b hb).1,Nat.le_trans hl (h b hb).2⟩
theorem rT {α β:Type} {f g:α -> List β}:∀ {l:List α},(∀ a∈l,f a=g a)->l.flatMap f=l.flatMap g
 | [],_=>rfl
 | a::l,h=>by
  rw [List.flatMap_cons,List.flatMap_cons,h a List.mem_cons_self,rT fun x hx=>h x (List.mem_cons_of_mem _ hx)]
theorem x8 {n l:Nat} {r:Rw}:∀ {qs:List Rw} {bs:List Br} (c:List Rw),GB l bs->(∀ q∈qs,wX n l r q)->thru n (r::(qs++c)) bs=thru n (qs++r::c) bs
 | [],_,_,_,_=>rfl
 | q::qs,bs,c,h,hc=>by
  show thru n (r::q::(qs++c)) bs=thru n (q::(qs++r::c)) bs
  rw [bV n q,<- x8 c ((h.act q).le (by omega)) fun x hx=>hc x (List.mem_cons_of_mem _ hx),bV,bV,bV,List.flatMap_assoc,List.flatMap_assoc,rT fun b hb=>hc q List.mem_cons_self b (h b hb).1 (h b hb).2]
def Ll (n l:Nat) (r q:Rw) (m:List Rw):Prop:=∀ b:Br,MA.St b.2->l<=b.1.length->(act n r b).flatMap (act n q)=thru n m [b]
theorem lr (n:Nat):∀ (m:List Rw) (bs:List Br),thru n m bs=bs.flatMap fun b=>thru n m [b]
 | [],bs=>by show bs=bs.flatMap fun b=>[b]; simp
 | r::m,bs=>by
  rw [bV,lr n m,List.flatMap_assoc]
  congr 1
  funext b
  rw [bV,lr n m ([b].flatMap _)]
  simp
theorem N1 {n l:Nat} {r q:Rw} {m:List Rw} (h:Ll n l r q m) {bs:List Br} (g:GB l bs) (c:List Rw):thru n (r::q::c) bs=thru n (m++c) bs:=by
 rw [bV,bV,List.flatMap_assoc,cz,lr n m bs]
 congr 1
 exact rT fun b hb=>h b (g b hb).1 (g b hb).2
theorem Ch {n l:Nat} {r q:Rw} {m:List Rw} (a b c:List Rw) {bs:List Br} (g:GB 0 bs) (hl:l<=iJ a) (hc:∀ x∈b,wX n l r x) (h:Ll n l r q m):thru n (a++r::(b++q::c)) bs=thru n (a++b++m++c) bs:=by
 have ga:GB l (thru n a bs):=(GB.thru g).le (by omega)
 rw [cz,x8 _ ga hc,cz,N1 h ((GB.thru ga).le (by omega))]
 simp only [cz]
theorem FE {r q:Rw} (h:un r q=true):r.wd=q.wd:=by
 unfold un at h
 split at h
 ·cases h
 ·split at h
  ·exact eq_of_beq (Bool.and_eq_true_iff.mp h).1
  ·exact jJ h
theorem Ic {m j:Nat} {q:Rw} (h:jP (.wflip m j) q=true):q=.wflip m j:=by
 have e:=jJ h
 cases q with
 | pl q=>cases q <;> (simp only [Rw.wd] at e; exact absurd e (by decide +kernel))
 | look k=>simp only [Rw.wd] at e; exact absurd e (by decide +kernel)
 | wflip k i=>simp only [jP,rwD,rowD,PyData.eqv,PyData.eqvAll] at h; simp at h; simp; omega
 | wsign k i=>simp only [jP,rwD,rowD,PyData.eqv,PyData.eqvAll] at h; simp at h
theorem Ib {m j:Nat} {q:Rw} (h:jP (.wsign m j) q=true):q=.wsign m j:=by
 have e:=jJ h
 cases q with
 | pl q=>cases q <;> (simp only [Rw.wd] at e; exact absurd e (by decide +kernel))
 | look k=>simp only [Rw.wd] at e; exact absurd e (by decide +kernel)
 | wflip k i=>simp only [jP,rwD,rowD,PyData.eqv,PyData.eqvAll] at h; simp at h
 | wsign k i=>simp only [jP,rwD,rowD,PyData.eqv,PyData.eqvAll] at h; simp at h; simp; omega
theorem qR {n:Nat} {r q:Rw} (nr:r.isLook=false) (nq:q.isLook=false) (b:Br):(act n r b).flatMap (act n q)=[eA n q (eA n r b)]:=by
 rw [gR nr]
 show act n q (eA n r b)++[]=_
 rw [gR nq]; rfl
theorem OQ {n l l':Nat} {r q:Rw} (hr:r.ok n l) (hq:q.ok n l') (h:un r q=true):Ll n l r q []:=fun b hb hl=>by
 obtain ⟨nr,nq⟩:=li h
 rw [qR nr nq]
 show [eA n q (eA n r b)]=[b]
 congr 1
 cases r with
 | pl r=>
  cases q with
  | pl q=>
   show (b.1,ah n (ah n b.2 r) q)=b
   rw [Jf hr hq h b.2 hb]
  | look j=>cases nq
  | wflip m j=>have e:=FE h; cases r <;> (simp only [Rw.wd] at e; exact absurd e (by decide +kernel))
  | wsign m j=>have e:=FE h; cases r <;> (simp only [Rw.wd] at e; exact absurd e (by decide +kernel))
 | look j=>cases nr
 | wflip m j=>
  obtain rfl:=Ic (show jP (.wflip m j) q=true from h)
  rw [gz n nq,wn,gz n nr]
  by_cases a:cnd (.wflip m j) b.1=true
  ·simp only [a,if_true]
   show (b.1,ah n (ah n b.2 (.flip j)) (.flip j))=b
   rw [MA.eB (r:=.flip j) hr.2 rfl b.2 hb]
  ·simp only [a,if_false,Bool.false_eq_true]
 | wsign m j=>
  obtain rfl:=Ib (show jP (.wsign m j) q=true from h)
  rw [gz n nq,wn,gz n nr]
  by_cases a:cnd (.wsign m j) b.1=true
  ·simp only [a,if_true]
   show (b.1,ah n (ah n b.2 (.turn j 4)) (.turn j 4))=b
   rw [MA.FH,MA.pZ]
  ·simp only [a,if_false,Bool.false_eq_true]
theorem Ld {n l a e f:Nat}:Ll n l (.pl (.turn a e)) (.pl (.turn a f)) (if (e+f) % 8=0 then none else some (Rw.pl (.turn a ((e+f) % 8)))).toList:=fun b hb hl=>by
 rw [qR rfl rfl]
 show [(b.1,ah n (ah n b.2 (.turn a e)) (.turn a f))]=_
 rw [MA.FH]
 by_cases z:(e+f) % 8=0
 ·rw [if_pos z,z,MA.pZ]; rfl
 ·rw [if_neg z]; rfl
theorem OR {n w l:Nat} (hw:w<n) {q m:Rw} (hq:q.ok n l) (h:dw q w=some m) {b:Br} (hb:MA.St b.2):eA n (.pl (.swing w)) (eA n q (eA n (.pl (.swing w)) b))=eA n m b:=by
 cases q with
 | pl r=>
  obtain ⟨m',rfl,hu⟩:=Jv hw hq h
  show (b.1,ah n (ah n (ah n b.2 (.swing w)) r) (.swing w))=(b.1,ah n b.2 m')
  rw [hu b.2 hb]
 | look j=>cases h
 | wflip k j=>
  simp only [dw] at h
  split at h
  ·rename_i e; subst e; cases h
   rw [gz n (r:=.wflip k j) rfl,wn,gz n (r:=.wsign k j) rfl]
   show eA n (.pl (.swing j)) (if cnd (.wflip k j) b.1=true then (b.1,ah n (ah n b.2 (.swing j)) (.flip j)) else (b.1,ah n b.2 (.swing j)))=if cnd (.wflip k j) b.1=true then (b.1,ah n b.2 (.turn j 4)) else b
   split
   ·show (b.1,ah n (ah n (ah n b.2 (.swing j)) (.flip j)) (.swing j))=_
    rw [MA.xf hw hb]
   ·show (b.1,ah n (ah n b.2 (.swing j)) (.swing j))=_
    rw [MA.eB (r:=.swing j) hw rfl b.2 hb]
  ·cases h
 | wsign k j=>
  simp only [dw] at h
  split at h
  ·rename_i e; subst e; cases h
   rw [gz n (r:=.wsign k j) rfl,wn,gz n (r:=.wflip k j) rfl]
   show eA n (.pl (.swing j)) (if cnd (.wflip k j) b.1=true then (b.1,ah n (ah n b.2 (.swing j)) (.turn j 4)) else (b.1,ah n b.2 (.swing j)))=if cnd (.wflip k j) b.1=true then (b.1,ah n b.2 (.flip j)) else b
   split
   ·show (b.1,ah n (ah n (ah n b.2 (.swing j)) (.turn j 4)) (.swing j))=_
    rw [MA.xb hw hb]
   ·show (b.1,ah n (ah n b.2 (.swing j)) (.swing j))=_
    rw [MA.eB (r:=.swing j) hw rfl b.2 hb]
  ·cases h
theorem Iw {n w l:Nat} (hw:w<n) {q m:Rw} (nq:q.isLook=false) (nm:m.isLook=false) (hq:q.ok n l) (h:dw q w=some m) (a b c d:List Rw) {bs:List Br} (g:GB 0 bs) (hb:∀ x∈b,wX n 0 (.pl (.swing w)) x) (hc:∀ x∈c,wX n 0 (.pl (.swing w)) x):thru n (a ++ .pl (.swing w)::(b++q::(c ++ .pl (.swing w)::d))) bs=thru n (a++b++[m]++c++d) bs:=by
 have ga:GB 0 (thru n a bs):=(GB.thru g).le (Nat.zero_le _)
 have gb:GB 0 (thru n b (thru n a bs)):=(GB.thru ga).le (Nat.zero_le _)
 rw [cz,x8 _ ga hb,cz,bV,bV,<- x8 d ((gb.act _).le (Nat.zero_le _) |>.act q |>.le (Nat.zero_le _)) hc,bV]
 have e:((((thru n b (thru n a bs)).flatMap (act n (.pl (.swing w)))).flatMap (act n q)).flatMap (act n (.pl (.swing w))))=(thru n b (thru n a bs)).flatMap (act n m):=by
  rw [List.flatMap_assoc,List.flatMap_assoc]
  refine rT fun x hx=>?_
  rw [<- List.flatMap_assoc,qR (r:=.pl (.swing w)) rfl nq]
  show act n (.pl (.swing w)) (eA n q (eA n (.pl (.swing w)) x))++[]=_
  rw [gR (r:=.pl (.swing w)) rfl,OR hw hq h (gb x hx).1,gR nm]
  rfl
 rw [e]
 simp only [cz,bV]
 rfl
theorem n9 {rs:List Rw} {a b:Nat} {r:Rw} (h:r∈iH rs a b):∃ k,a<=k/\k<b/\r=ro rs k:=by
 unfold iH at h
 obtain ⟨k,hk,rfl⟩:=List.mem_map.mp h
 have:=List.mem_range'_1.mp hk
 exact ⟨k,by omega,by omega,rfl⟩
theorem xI {rs:List Rw} {p:Nat} (hp:p<=rs.length):iJ (iH rs 0 p)=iJ (rs.take p):=by
 rw [<- xk rs hp]; rfl
theorem ko {n:Nat} {rs:List Rw} (h:cA n 0 rs) {k:Nat} (hk:k<rs.length):(ro rs k).ok n (iJ (rs.take k)):=by
 rw [qe hk]; exact xw h hk
theorem oJ {r q:Rw} {m:Int} (h:kx r q m=true):cG r q=false:=by
 unfold kx at h
 simpa using (Bool.and_eq_true_iff.mp h).2
theorem Lc {n:Nat} {rs:List Rw} (ho:cA n 0 rs) {x:Sp} (hx:x∈iU rs rs.length) (hf:fH rs x=true) {bs:List Br} (g:GB 0 bs):thru n (gJ rs x) bs=thru n rs bs:=by
 have oo:=rp ho
 cases x with
 | g p q=>
  obtain ⟨h1,h2⟩:=mem_cand_g.mp hx
  simp only [fH,Bool.and_eq_true] at hf
  obtain ⟨hu,hc⟩:=hf
  have hc:=(jh oo h2).mp hc
  have e:rs=iH rs 0 p++ro rs p::(iH rs (p+1) q++ro rs q::iH rs (q+1) rs.length):=by
   conv=>lhs; rw [<- ng rs,dY rs (Nat.zero_le p) (show p<rs.length by omega),dY rs (show p+1<=q by omega) h2]
  conv=>rhs; rw [e]
  rw [Ch (l:=iJ (rs.take p)) _ _ _ g (by rw [xI (by omega)]; exact Nat.le_refl _) (fun y hy=>?_) (OQ (ko ho (by omega)) (ko ho h2) hu)]
  ·simp [gJ]
  ·obtain ⟨k,k1,k2,rfl⟩:=n9 hy
   exact Iy (li hu).1 (ko ho (by omega)) (ko ho (by omega)) (oJ (hc k k1 k2))
 | j p q=>
  obtain ⟨h1,h2⟩:=mem_cand_j.mp hx
  obtain ⟨a,e,f,tp,tq⟩:=H0 hf
  simp only [fH,Bool.and_eq_true] at hf
  have hc:=(jh oo h2).mp hf.2.2
  have e0:rs=iH rs 0 p++ro rs p::(iH rs (p+1) q++ro rs q::iH rs (q+1) rs.length):=by
   conv=>lhs; rw [<- ng rs,dY rs (Nat.zero_le p) (show p<rs.length by omega),dY rs (show p+1<=q by omega) h2]
  have hcom:∀ y∈iH rs (p+1) q,wX n (iJ (rs.take p)) (ro rs p) y:=fun y hy=>by
   obtain ⟨k,k1,k2,rfl⟩:=n9 hy
   exact Iy (by rw [tp]; rfl) (ko ho (by omega)) (ko ho (by omega)) (oJ (hc k k1 k2))
  have hm:mid rs (.j p q)=if (e+f) % 8=0 then none else some (.pl (.turn a ((e+f) % 8))):=by simp only [mid,tp,tq]
  conv=>rhs; rw [e0]
  rw [tp] at hcom
  rw [tp,tq,Ch (l:=iJ (rs.take p)) _ _ _ g (by rw [xI (by omega)]; exact Nat.le_refl _) hcom Ld]
  simp only [gJ,hm]
 | s p q t=>
  obtain ⟨_,h1,h2,h3⟩:=mem_cand_s.mp hx
  obtain ⟨hS,he,r',hr⟩:=KW hf
  have wp:=gK hS
  have hall:∀ k,p<k->k<t->k≠q->AT (ro rs k) (ro rs p).n1=false:=fun k k1 k2 k3=>by
   simp only [fH,Bool.and_eq_true,List.all_eq_true,mem_btw] at hf
   have:=hf.2 k ⟨k1,k2⟩
   have n3:(k==q)=false:=by simpa using k3
   rw [n3] at this
   simpa using this
  have wt':ro rs t=.pl (.swing (ro rs p).n1):=by rw [wp] at he; exact md he
  have op:=ko ho (show p<rs.length by omega)
  have hm:mid rs (.s p q t)=some r':=hr
  generalize hw:(ro rs p).n1=w at wp hall wt' hr
  rw [wp] at op
  have op:w<n:=op
  obtain ⟨nq,nm,_,_⟩:=Ai hr
  have hcom:∀ a b,p<a->b<=t->(∀ k,a<=k->k<b->k≠q)->∀ y∈iH rs a b,wX n 0 (.pl (.swing w)) y:=fun a b ha hb hq y hy=>by
   obtain ⟨k,k1,k2,rfl⟩:=n9 hy
   exact Iy (r:=.pl (.swing w)) rfl op (ko ho (by omega)) (yM (hall k (by omega) (by omega) (hq k k1 k2)))
  have e0:rs=iH rs 0 p++ro rs p::(iH rs (p+1) q++ro rs q::(iH rs (q+1) t++ro rs t::iH rs (t+1) rs.length)):=by
   conv=>lhs; rw [<- ng rs,dY rs (Nat.zero_le p) (show p<rs.length by omega),dY rs (show p+1<=q by omega) (show q<rs.length by omega),dY rs (show q+1<=t by omega) h3]
  conv=>rhs; rw [e0]
  rw [wp,wt',Iw op nq nm (ko ho (by omega)) hr _ _ _ _ g (hcom (p+1) q (by omega) (by omega) (fun k _ k2=>by omega)) (hcom (q+1) t (by omega) (by omega) (fun k k1 _=>by omega))]
  simp [gJ,hm]
theorem g9 {w l:Nat} {a b:List Rw} {r:Rw} (h:cA w l (a++r::b)) (hr:r.isLook=false):cA w l (a++b):=by
 obtain ⟨h1,h2,h3⟩:=okRs_app.mp h
 rw [hr] at h3
 exact okRs_app.mpr ⟨h1,h3⟩
theorem t8 {w l:Nat} {a b:List Rw} {r r':Rw} (h:cA w l (a++r::b)) (hr:r.isLook=false) (hr':r'.isLook=false) (hm:∀ l,r.ok w l->r'.ok w l):cA w l (a++r'::b):=by
 obtain ⟨h1,h2,h3⟩:=okRs_app.mp h
 rw [hr] at h3
 exact okRs_app.mpr ⟨h1,hm _ h2,by rw [hr']; exact h3⟩
theorem Dj {w v:Nat} {r r':Rw} (h:dw r v=some r'):∀ l,r.ok w l->r'.ok w l:=fun l hr=>by
 cases r with
 | pl r=>
  cases r with
  | flip j=>simp only [dw] at h; split at h; (· rename_i e; subst e; cases h; exact ⟨hr,by decide,by decide⟩); (· cases h)
  | turn j e=>simp only [dw] at h; split at h; (· rename_i e; obtain ⟨rfl,_⟩:=e; cases h; exact hr.1); (· cases h)
  | tie i j=>simp only [dw] at h; split at h; (· rename_i e; subst e; cases h; exact hr); (· cases h)
  | sign i j=>
   simp only [dw] at h
   split at h
   ·rename_i e; subst e; cases h; exact ⟨hr.2.1,hr.1,Ne.symm hr.2.2⟩
   ·split at h
    ·rename_i e; subst e; cases h; exact hr
    ·cases h
  | _=>cases h
 | look j=>cases h
 | wflip m j=>simp only [dw] at h; split at h; (· rename_i e; subst e; cases h; exact hr); (· cases h)
 | wsign m j=>simp only [dw] at h; split at h; (· rename_i e; subst e; cases h; exact hr); (· cases h)
theorem Bb {w:Nat} {rs:List Rw} (ho:cA w 0 rs) {x:Sp} (hx:x∈iU rs rs.length) (hf:fH rs x=true):cA w 0 (gJ rs x):=by
 have h0:=ho
 rw [<- ng rs] at h0
 cases x with
 | g p q=>
  obtain ⟨h1,h2⟩:=mem_cand_g.mp hx
  simp only [fH,Bool.and_eq_true] at hf
  obtain ⟨n1,n2⟩:=li hf.1
  rw [dY rs (Nat.zero_le p) (by omega),dY rs (show p+1<=q by omega) h2] at h0
  have h3:=g9 h0 n1
  rw [<- List.append_assoc] at h3
  exact g9 h3 n2
 | j p q=>
  obtain ⟨h1,h2⟩:=mem_cand_j.mp hx
  obtain ⟨a,e,f,ep,eq⟩:=H0 hf
  have n1:(ro rs p).isLook=false:=by rw [ep]; rfl
  have n2:(ro rs q).isLook=false:=by rw [eq]; rfl
  rw [dY rs (Nat.zero_le p) (by omega),dY rs (show p+1<=q by omega) h2] at h0
  have h3:=g9 h0 n1
  rw [<- List.append_assoc] at h3
  simp only [gJ]
  have hm:mid rs (.j p q)=if (e+f) % 8=0 then none else some (.pl (.turn a ((e+f) % 8))):=by simp only [mid,ep,eq]
  rw [hm]
  by_cases z:(e+f) % 8=0
  ·rw [if_pos z]
   simpa using g9 h3 n2
  ·rw [if_neg z]
   have h4:=t8 (r':=.pl (.turn a ((e+f) % 8))) h3 n2 rfl (fun l hr=>by
    rw [eq] at hr
    have hr:a<w/\1<=f/\f<=7:=hr
    exact ⟨hr.1,by omega,by omega⟩)
   simpa using h4
 | s p q t=>
  obtain ⟨_,h1,h2,h3⟩:=mem_cand_s.mp hx
  obtain ⟨hS,he,r',hr⟩:=KW hf
  obtain ⟨n2,n2',_,_⟩:=Ai hr
  have n1:(ro rs p).isLook=false:=by rw [gK hS]; rfl
  have n3:(ro rs t).isLook=false:=by rw [gK hS] at he; rw [md he]; rfl
  rw [dY rs (Nat.zero_le p) (by omega),dY rs (show p+1<=q by omega) (by omega),dY rs (show q+1<=t by omega) h3] at h0
  have k1:=g9 h0 n1
  rw [<- List.append_assoc] at k1
  have k2:=t8 (r':=r') k1 n2 n2' (Dj hr)
  rw [<- List.cons_append,<- List.append_assoc] at k2
  have k3:=g9 k2 n3
  simp only [gJ,mid,hr]
  simpa using k3
theorem Hg (p:Nat):MA.St (MA.fm p):=⟨MA.lJ p,0,fun x=>by unfold MA.fm; split <;> exact Nat.zero_le _⟩
theorem AU (p:Nat):GB 0 [(([]:List Nat),MA.fm p)]:=fun b hb=>by
 rw [List.mem_singleton.mp hb]; exact ⟨Hg p,Nat.zero_le _⟩
theorem Fq {n p:Nat} {rs:List Rw} (ho:cA n 0 rs) {x:Sp} (hx:x∈iU rs rs.length) (hf:fH rs x=true):xZ n p (gJ rs x)=xZ n p rs:=Lc ho hx hf (AU p)
theorem GJ (u:Nu):MA.Sh 1 (cv u):=MA.Sh.tuple fun x hx=>by
 simp only [List.mem_cons,List.not_mem_nil,or_false] at hx
 rcases hx with rfl | rfl | rfl | rfl | rfl <;> exact MA.Sh.int 0 _
theorem JD {k k':Nat} {d:D} (h:MA.Sh k d) (hk:k<=k'):MA.Sh k' d:=⟨h.1,Nat.le_trans h.2 hk⟩
theorem GK (n:Nat) (bs:List Br):MA.Sh 4 (.list (bs.map (jQ n))):=MA.Sh.list fun x hx=>by
 obtain ⟨b,_,rfl⟩:=List.mem_map.mp hx
 refine MA.Sh.tuple fun y hy=>?_
 simp only [List.mem_cons,List.not_mem_nil,or_false] at hy
 rcases hy with rfl | rfl
 ·exact JD (MA.Sh.tuple (k:=0) fun z hz=>by
   obtain ⟨m,_,rfl⟩:=List.mem_map.mp hz
   exact MA.Sh.int 0 _) (by decide)
 ·exact MA.Sh.tuple fun z hz=>by
   obtain ⟨m,_,rfl⟩:=List.mem_map.mp hz
   exact GJ _
inductive Run:List Rw->List Sp->List Rw->Prop
 | nil (rs:List Rw):Run rs [] rs
 | cons {rs qs:List Rw} {x:Sp} {xs:List Sp}:II rs x->Run (gJ rs x) xs qs->Run rs (x::xs) qs
theorem Dt {n:Nat} {rs qs:List Rw} {xs:List Sp} (r:Run rs xs qs):cA n 0 rs->(cA n 0 qs/\qs.length<=rs.length)/\∀ p,xZ n p qs=xZ n p rs:=by
 induction r with
 | nil rs=>exact fun h=>⟨⟨h,Nat.le_refl _⟩,fun _=>rfl⟩
 | @cons rs qs x xs hf r ih=>
  intro h
  obtain ⟨⟨a,b⟩,c⟩:=ih (Bb h hf.1 hf.2)
  have:=oy hf.1
  exact ⟨⟨a,by omega⟩,fun p=>(c p).trans (Fq h hf.1 hf.2)⟩
theorem EY:jH (dR "slid")=some "slid":=lW _
theorem Gj:jH (dR "slides_of")=some "slides_of":=lW _
theorem FW (zs:List Sp):neD (.list (zs.map zpD)) (.list [])=some (.bool (!zs.isEmpty)):=by
 have h:MA.Sh 2 (.list (zs.map zpD)):=MA.Sh.list fun x hx=>by
  obtain ⟨r,_,rfl⟩:=List.mem_map.mp hx
  rw [<- zP]; exact Ar _
 have h2:pF (.list ([]:List D))=true:=by rfl
 unfold neD
 rw [if_pos ⟨lz h (by decide),h2⟩]
 cases zs with
 | nil=>rfl
 | cons r rs=>simp [PyData.eqv,PyData.eqvAll]
theorem Ko (z0 z1 z2 z3:Sl) (L:D) (b:Bool) (h:neD L (.list [])=some (.bool b)):gW [z0,z1,z2,z3,.fz L]=some b:=by
 simp [gW,h]
theorem MK (C C' S L L':D) (ds:List D) (hs:aE L (.int 0)=some S) (hl:ds.length<sizeLine) (h1:io [C,S]=some C') (h2:aO [C']=some L'):hG [.fz C,.fz (dR "slides_of"),.fz (dR "slid"),.ow ds,.fz L]=some (.nx,[.fz C',.fz (dR "slides_of"),.fz (dR "slid"),.ow (ds++[S]),.fz L']):=by
 simp [hG,dE,EY,Gj,hs,hl,h1,h2]
structure SlE (w:Nat) (rs:List Rw) (zs:List Sp):Prop where
 e:aO [cw w rs]=some (.list (zs.map zpD))
theorem ut (w:Nat):∀ (N:Nat) (rs:List Rw),cA w 0 rs->rs.length<=N->N<=100->∀ (zs:List Sp),SlE w rs zs->(∀ x,x∈zs↔II rs x)->∀ ds:List D,ds.length+N<=1000->∃ xs qs y,Run rs xs qs/\SlE w qs []/\gS gW hG (N+1) [.fz (cw w rs),.fz (dR "slides_of"),.fz (dR "slid"),.ow ds,.fz (.list (zs.map zpD))]=some (.nx,[.fz (cw w qs),.fz (dR "slides_of"),.fz (dR "slid"),.ow (ds++xs.map zpD),y])
 | N,rs,ho,hN,hn,[],hz0,_,ds,_=>by
  exact ⟨[],rs,.fz (.list []),.nil rs,hz0,by rw [vp N (Ko _ _ _ _ _ _ (FW []))]; simp⟩
 | 0,rs,ho,hN,hn,x::zs,_,hm,ds,_=>by
  have hf:=(hm x).mp List.mem_cons_self
  have:=oy hf.1
  omega
 | N+1,rs,ho,hN,hn,x::zs,_,hm,ds,hd=>by
  have hf:=(hm x).mp List.mem_cons_self
  have hl:=oy hf.1
  have ho':=Bb ho hf.1 hf.2
  obtain ⟨zs',⟨hz,hm'⟩,h1,_⟩:=o8 (rp ho') (by omega) w
  obtain ⟨xs,qs,y,hr,hx,e⟩:=ut w N (gJ rs x) ho' (by omega) (by omega) zs' ⟨h1⟩ (fun z=>(hm' z).trans List.mem_filter) (ds++[zpD x]) (by simp; omega)
  refine ⟨x::xs,qs,y,.cons hf hr,hx,?_⟩
  have st:=MK (cw w rs) (cw w (gJ rs x)) (zpD x) (.list ((x::zs).map zpD)) _ ds (at0 _ _) (by show _<16777216; omega) (Ao (rp ho) (by omega) w hf) h1
  rw [zS (N+1) (Ko _ _ _ _ _ _ (FW (x::zs))) st e]
  simp
theorem Dq (C L C':D) (ds:List D) (y:Sl) (h:aO [C]=some L) (lp:gS gW hG wN [.fz C,.fz (dR "slides_of"),.fz (dR "slid"),.ow [],.fz L]=some (.nx,[.fz C',.fz (dR "slides_of"),.fz (dR "slid"),.ow ds,y])):cF [C]=some (.tuple [.list ds,C']):=by
 have k:hJ [C,dR "slides_of",dR "slid"]=some (.tuple [.list ds,C']):=by simp [-sSeq,-sIf,aq,aC,hJ,runB,pf,ak,dE,Gj,h,lp,dFz]
 simp [-sSeq,-sIf,aq,aC,cF,runB,iW,ak,k]
theorem Aq {rs:List Rw} {w:Nat} (ho:cA w 0 rs) (hn:rs.length<=100):∃ xs qs,Run rs xs qs/\aO [cw w qs]=some (.list [])/\cF [cw w rs]=some (.tuple [.list (xs.map zpD),cw w qs]):=by
 obtain ⟨zs,⟨hz,hm⟩,h1,_⟩:=o8 (rp ho) hn w
 obtain ⟨xs,qs,y,hr,hz0,e⟩:=ut w 100 rs ho hn (Nat.le_refl _) zs ⟨h1⟩ (fun z=>(hm z).trans List.mem_filter) [] (by simp)
 rw [List.nil_append] at e
 exact ⟨xs,qs,hr,hz0.e,Dq _ _ _ _ y h1 (ju e (by show 101<=1000000; decide))⟩
theorem uv (ns:List Int) (k:Int) (hk:0<=k):∃ c,bN [.list (ns.map .int),.int k]=some (.int c):=by
 by_cases h:k<ns.length
 ·have hk':k.toNat<ns.length:=by omega
  refine ⟨ns[k.toNat],?_⟩
  have e:jl (ns.map PyData.int) k=some (.int ns[k.toNat]):=fg (j:=k.toNat) (by omega) (by simp [hk'])
  simp [bN,runB,gH,ak,h,e]
 ·exact ⟨0,by simp [bN,runB,gH,ak,h]⟩
theorem Im (xs:List D) (a:Nat):tz (.list xs) none (some (a:Int))=some (.list (xs.take a)):=by
 show some (PyData.list (hX _ _ _))=_
 unfold hX
 have e1:HT.sIx xs.length 0 none=0:=rfl
 have e2:HT.sIx xs.length xs.length (some (a:Int))=min a xs.length:=by
  show (if (a:Int)<0 then ((a:Int)+(xs.length:Int)).toNat else min (a:Int).toNat xs.length)=_
  rw [if_neg (by omega)]; rfl
 rw [e1,e2,Nat.sub_zero,List.drop_zero]
 congr 2
 rcases Nat.le_total a xs.length with h | h
 ·rw [Nat.min_eq_left h]
 ·rw [Nat.min_eq_right h,List.take_of_length_le (Nat.le_refl _),List.take_of_length_le h]
theorem B9 (xs:List D) (a:Nat):tz (.list xs) (some (a:Int)) none=some (.list (xs.drop a)):=by
 show some (PyData.list (hX _ _ _))=_
 unfold hX
 have e1:HT.sIx xs.length 0 (some (a:Int))=min a xs.length:=by
  show (if (a:Int)<0 then ((a:Int)+(xs.length:Int)).toNat else min (a:Int).toNat xs.length)=_
  rw [if_neg (by omega)]; rfl
 have e2:HT.sIx xs.length xs.length none=xs.length:=rfl
 rw [e1,e2]
 congr 2
 rcases Nat.le_total a xs.length with h | h
 ·rw [Nat.min_eq_left h,List.take_of_length_le (by rw [List.length_drop]; exact Nat.le_refl _)]
 ·rw [Nat.min_eq_right h,Nat.sub_self,List.take_zero,List.drop_of_length_le h]
theorem K7 (ns:List Int) (a b:Nat):∃ cs:List Int,cs.length<=b/\tz (.list (ns.map .int)) (some (a:Int)) (some (b:Int))=some (.list (cs.map .int)):=by
 refine ⟨(ns.drop (HT.sIx ns.length 0 (some (a:Int)))).take (HT.sIx ns.length ns.length (some (b:Int))-HT.sIx ns.length 0 (some (a:Int))),?_,?_⟩
 ·rw [List.length_take]
  have e2:HT.sIx ns.length ns.length (some (b:Int))<=b:=by
   unfold HT.sIx
   simp only
   split <;> omega
  omega
 ·show some (PyData.list (hX _ _ _))=_
  unfold hX
  rw [List.length_map,<- List.map_drop,<- List.map_take]
theorem Cs {n:Nat} {r:Row} (h:r.ok n):(MA.Row.about r).ok n:=by
 cases r with
 | turn j e=>exact ⟨h.1,by have:=h.2; show 1<=8-e; omega,by have:=h.2; show 8-e<=7; omega⟩
 | _=>exact h
theorem Nj {n:Nat} {r:Row} (hr:r.ok n):Ll n 0 (.pl r) (.pl (MA.Row.about r)) []:=fun b hb _=>by
 rw [qR rfl rfl]
 show [(b.1,ah n (ah n b.2 r) (MA.Row.about r))]=[b]
 obtain ⟨a,M,h⟩:=hb
 rw [show ah n (ah n b.2 r) (MA.Row.about r)=b.2 from funext fun x=>MA.qE a h r hr x]
theorem Fp {n p:Nat} {r:Row} (hr:r.ok n) (a b:List Rw):xZ n p (a ++ .pl r :: .pl (MA.Row.about r)::b)=xZ n p (a++b):=by
 unfold xZ
 rw [cz,N1 (Nj hr) ((GB.thru (AU p)).le (Nat.zero_le _)),<- cz]; rfl
theorem Hh {n:Nat} {r:Row} (hr:r.ok n) {a b:List Rw} (h:cA n 0 (a++b)):cA n 0 (a ++ .pl r :: .pl (MA.Row.about r)::b):=by
 obtain ⟨h1,h2⟩:=okRs_app.mp h
 exact okRs_app.mpr ⟨h1,hr,Cs hr,h2⟩
theorem Dg (xs:List D) (a:Nat):tz (.tuple xs) none (some (a:Int))=some (.tuple (xs.take a)):=by
 have h:=Im xs a
 have e:some (PyData.list (hX xs none (some (a:Int))))=some (PyData.list (xs.take a)):=h
 have e:hX xs none (some (a:Int))=xs.take a:=by injection e with e; injection e
 show some (PyData.tuple (hX xs none (some (a:Int))))=_
 rw [e]
theorem yr (xs:List D) (a:Nat):tz (.tuple xs) (some (a:Int)) none=some (.tuple (xs.drop a)):=by
 have h:=B9 xs a
 have e:some (PyData.list (hX xs (some (a:Int)) none))=some (PyData.list (xs.drop a)):=h
 have e:hX xs (some (a:Int)) none=xs.drop a:=by injection e with e; injection e
 show some (PyData.tuple (hX xs (some (a:Int)) none))=_
 rw [e]
theorem JO (C R A B E F:D) (L:List D) (c w n k t:Int) (r r' x:D) (s:Str) (q:Bool) (c0:aE C (.int 0)=some (.int w)) (hr:aL [.int c,.int w,.int 0,.bool true]=some r) (r0:aE r (.int 0)=some (.str s)) (et:aS (.str s) (.str "turn")=some (.bool q)) (hq:q=false->r'=r) (hq':q=true->∃ (j e:Int),aE r (.int 1)=some (.int j)/\aE r (.int 2)=some (.int e)/\r'=.tuple [.str "turn",.int j,.int (8-e)]) (c1:aE C (.int 1)=some R) (ln:cB [R]=some (.int n)) (hk:n+1=k) (ht:bP (.int (c / 3)) (.int k)=some (.int t)) (s1:tz R none (some t)=some A) (s2:tz R (some t) none=some B) (a1:cQ A (.tuple [r,r'])=some E) (a2:cQ E B=some F):cJ [C,.int c]=some (.tuple [.int w,F]):=by
 cases q with
 | false=>
  rw [hq rfl] at a1
  simp [-sSeq,-sIf,aq,aC,cJ,runB,iz,ak,c0,hr,r0,et,c1,ln,hk,ht,s1,s2,a1,a2]
 | true=>
  obtain ⟨j,e,r1,r2,rfl⟩:=hq' rfl
  simp [-sSeq,-sIf,aq,aC,cJ,runB,iz,ak,c0,hr,r0,et,r1,r2,c1,ln,hk,ht,s1,s2,a1,a2]
theorem GU {n:Nat} (h1:1<=n) {rs:List Rw} (ho:cA n 0 rs) (hl:rs.length<=50) (c:Int):∃ qs:List Rw,cA n 0 qs/\qs.length=rs.length+2/\(∀ p,xZ n p qs=xZ n p rs)/\cJ [cw n rs,.int c]=some (cw n qs):=by
 obtain ⟨r,er,okr,pl⟩:=xG c n 0 h1 true
 obtain ⟨r,rfl⟩:∃ q:Row,r=.pl q:=by
  have:=pl rfl
  cases r with
  | pl q=>exact ⟨q,rfl⟩
  | _=>cases this
 have okr:r.ok n:=okr
 obtain ⟨t,ht⟩:∃ t:Nat,bP (.int (c / 3)) (.int ((rs.length+1:Nat):Int))=some (.int (t:Int)):=by
  refine ⟨((c / 3) % ((rs.length+1:Nat):Int)).toNat,?_⟩
  rw [fS (by omega),Int.toNat_of_nonneg (Int.emod_nonneg _ (by omega))]
 have s1:=Dg (rs.map rwD) t
 have s2:=yr (rs.map rwD) t
 rw [<- List.map_take] at s1
 rw [<- List.map_drop] at s2
 have e0:=List.take_append_drop t rs
 refine ⟨rs.take t ++ .pl r :: .pl (MA.Row.about r)::rs.drop t,Hh okr (by rw [e0]; exact ho),?_,fun p=>by rw [Fp okr,e0],?_⟩
 ·have:=congrArg List.length e0
  simp only [List.length_append,List.length_cons] at this ⊢
  omega
 ·have l1:(rs.take t).length<=50:=by rw [List.length_take]; omega
  have l2:(rs.drop t).length<=50:=by rw [List.length_drop]; omega
  have a1:cQ (.tuple ((rs.take t).map rwD)) (.tuple [rwD (.pl r),rwD (.pl (MA.Row.about r))])=some (.tuple ((rs.take t).map rwD++[rwD (.pl r),rwD (.pl (MA.Row.about r))])):=kT (by simp; omega)
  have a2:cQ (.tuple ((rs.take t).map rwD++[rwD (.pl r),rwD (.pl (MA.Row.about r))])) (.tuple ((rs.drop t).map rwD))=some (.tuple ((rs.take t).map rwD++[rwD (.pl r),rwD (.pl (MA.Row.about r))]++(rs.drop t).map rwD)):=kT (by simp; omega)
  have e:=JO (cw n rs) (.tuple (rs.map rwD)) _ _ _ _ [] c n (rs.length:Int) ((rs.length+1:Nat):Int) t (rwD (.pl r)) (rwD (.pl (MA.Row.about r))) .none _ _ (at0 _ _) er (dg (.pl r)) (ny (.pl r)) (fun q=>?_) (fun q=>?_) (o5 n rs) (by simp [cB]) (by omega) ht s1 s2 a1 a2
  ·rw [e]
   simp [cw]
  ·cases r with
   | turn j e=>cases q
   | _=>rfl
  ·cases r with
   | turn j e=>
    refine ⟨j,e,at1 _ _ _,Gq _ _ _ _,?_⟩
    have:=okr.2.2
    show PyData.tuple [.str "turn",.int (j:Int),.int ((8-e:Nat):Int)]=_
    rw [show ((8-e:Nat):Int)=8-(e:Int) by omega]
   | _=>cases q
theorem JE (z1 z2 z4:Sl) (C F Bs:D) (p:Int) (h1:b6 [F,.int p]=some Bs) (h2:b6 [C,.int p]=some Bs) (ne:neD Bs Bs=some (.bool false)):dj [.fz C,z1,z2,.fz F,z4,.fz (.int p)]=some (.nx,[.fz C,z1,z2,.fz F,z4,.fz (.int p)]):=by
 simp [dj,h1,h2,ne]
theorem xj {n:Nat} (hn:n<=6) {rs qs:List Rw} (ho:cA n 0 rs) (hq:cA n 0 qs) (h1:rs.length<=100) (h2:qs.length<=100) (e:∀ p,xZ n p qs=xZ n p rs) (z1 z2 z4:Sl):∀ (ps:List Nat) (z5:Sl),∃ y5,loop (gN 5) dj (ps.map fun p:Nat=>PyData.int (p:Int)) [.fz (cw n rs),z1,z2,.fz (cw n qs),z4,z5]=some (.nx,[.fz (cw n rs),z1,z2,.fz (cw n qs),z4,y5])
 | [],z5=>⟨z5,rfl⟩
 | p::ps,z5=>by
  obtain ⟨y5,lp⟩:=xj hn ho hq h1 h2 e z1 z2 z4 ps (.fz (.int (p:Int)))
  refine ⟨y5,?_⟩
  have b1:=mN hn p qs hq (by omega)
  have b2:=mN hn p rs ho (by omega)
  rw [e] at b1
  rw [List.map_cons,eG (δ1:=[.fz (cw n rs),z1,z2,.fz (cw n qs),z4,.fz (.int (p:Int))]) (by rfl) (JE z1 z2 z4 _ _ _ p b1 b2 (Eh (GK n _) (by decide)))]
  exact lp
theorem tF (C G F T R R':D) (w a b m pl:Int) (L P:List D) (y5:Sl) (hs:cF [G]=some (.tuple [T,F])) (f0:aE F (.int 0)=some (.int w)) (c0:aE C (.int 0)=some (.int w)) (f1:aE F (.int 1)=some R') (g1:aE G (.int 1)=some R) (l1:cB [R']=some (.int a)) (l2:cB [R]=some (.int b)) (ab:¬ b<a) (sl:aO [F]=some (.list [])) (sh:lA (.int 1) (.int w)=some (.int m)) (rg:xH (.int m)=some (.list L)) (hP:P=if w=3 then [.int 0,.int pl,.int (7-pl)] else L) (lp:∀ z4,∃ y,loop (gN 5) dj P [.fz C,.fz G,.fz (.int pl),.fz F,z4,.un]=some (.nx,[.fz C,.fz G,.fz (.int pl),.fz F,z4,y])):bE [C,G,.int pl]=some (.bool true):=by
 have nl:neD (.list []) (.list [])=some (.bool false):=by rfl
 obtain ⟨y,lp⟩:=lp (.fz (.list P))
 by_cases h3:w=3
 ·rw [if_pos h3] at hP
  subst hP h3
  simp [-sSeq,-sIf,aq,aC,bE,runB,fM,ak,hs,f0,c0,f1,g1,l1,l2,ab,sl,nl,sh,rg,lp]
 ·rw [if_neg h3] at hP
  subst hP
  simp [-sSeq,-sIf,aq,aC,bE,runB,fM,ak,hs,f0,c0,f1,g1,l1,l2,ab,sl,nl,sh,rg,h3,lp]
theorem Bi (n:Nat) (hn:n<=6):xH (.int ((2 ^ n:Nat):Int))=some (.list ((List.range (2 ^ n)).map fun k:Nat=>PyData.int (k:Int))):=by
 have sq:(2 ^ n:Nat)<=64:=(Nat.pow_le_pow_right (by decide) hn:2 ^ n<=2 ^ 6)
 generalize (2 ^ n:Nat)=N at sq ⊢
 show (if (N:Int)<=16777216 /\ -4611686018427387904<=(N:Int) then some (PyData.list (jB 0 (N:Int).toNat)) else none)=_
 rw [if_pos ⟨by omega,by omega⟩]
 unfold jB
 simp
theorem qd {n:Nat} (hn:n<=3) {rs gs:List Rw} (ho:cA n 0 rs) (hg:cA n 0 gs) (h1:rs.length<=100) (h2:gs.length<=100) (e:∀ p,xZ n p gs=xZ n p rs) {pl:Nat} (hp:pl<8):bE [cw n rs,cw n gs,.int (pl:Int)]=some (.bool true):=by
 obtain ⟨xs,qs,hr,sl,sh⟩:=Aq hg h2
 obtain ⟨⟨oq,lq⟩,eb⟩:=Dt hr hg
 have lp:=fun (ps:List Nat) z4=>xj (n:=n) (by omega) ho oq h1 (by omega) (fun p=>(eb p).trans (e p)) (.fz (cw n gs)) (.fz (.int (pl:Int))) z4 ps .un
 refine tF (cw n rs) (cw n gs) (cw n qs) _ _ _ n (qs.length:Int) (gs.length:Int) _ pl _ (if (n:Int)=3 then [.int 0,.int pl,.int (7-pl)] else _) .un sh (at0 _ _) (at0 _ _) (o5 n qs) (o5 n gs) (by simp [cB]) (by simp [cB]) (by omega) sl (JC n (by omega)) (Bi n (by omega)) rfl fun z4=>?_
 split
 ·have:=lp [0,pl,7-pl] z4
  rw [show ([0,pl,7-pl].map fun p:Nat=>PyData.int (p:Int))=[.int 0,.int pl,.int (7-(pl:Int))] by simp; omega] at this
  exact this
 ·exact lp _ z4
theorem Kq (S B C G:D) (c c1 w d pl:Int) (h0:bN [S,.int 0]=some (.int c)) (hw:1+c % 3=w) (sl:tz S (some 2) (some 12)=some B) (k1:cK [B,.int w]=some C) (hp:c / 3 % 8=pl) (h1:bN [S,.int 1]=some (.int c1)) (a1:bE [C,C,.int pl]=some (.bool true)) (pt:cJ [C,.int c1]=some G) (a2:bE [C,G,.int pl]=some (.bool true)):uN [S]=some (.bool true):=by
 simp [-sSeq,-sIf,aq,aC,uN,runB,Co,ak,h0,hw,sl,k1,hp,h1,a1,pt,a2]
theorem law_true (ns:List Int) (hl:ns.length<=63):uN [.list (ns.map .int)]=some (.bool true):=by
 obtain ⟨c,hc⟩:=uv ns 0 (by decide)
 obtain ⟨c1,hc1⟩:=uv ns 1 (by decide)
 obtain ⟨w,hw⟩:∃ w:Nat,1+c % 3=(w:Int):=⟨(1+c % 3).toNat,by omega⟩
 obtain ⟨pl,hpl⟩:∃ p:Nat,c / 3 % 8=(p:Int):=⟨(c / 3 % 8).toNat,by omega⟩
 obtain ⟨cs,hcl,hsl⟩:=K7 ns 2 12
 obtain ⟨rs,ho,hlen,he⟩:=A0 w (by omega) cs (by omega)
 obtain ⟨qs,oq,lq,eq,ep⟩:=GU (show 1<=w by omega) ho (by omega) c1
 have a1:=qd (n:=w) (by omega) ho ho (by omega) (by omega) (fun _=>rfl) (pl:=pl) (by omega)
 have a2:=qd (n:=w) (by omega) ho oq (by omega) (by omega) eq (pl:=pl) (by omega)
 exact Kq _ _ (cw w rs) (cw w qs) c c1 w 0 pl hc hw hsl he hpl hc1 a1 ep a2
end GN
namespace GN
open PySem PySem.Spec PyProof.Rows L2 VL
structure Txt (mg:Str->Option Value):Prop where
 min:mg "min" = none
 max:mg "max" = none
 tuple:mg "tuple" = none
 range:mg "range" = none
 len:mg "len" = none
 all:mg "all" = none
 sorted:mg "sorted" = none
 int:mg "int" = none
 list:mg "list" = none
section
variable {P:Program} {w:World} {K:PySem.W.Frag} {mg:Str->Option Value} {base:Heap}
theorem og:FnScope js ["joined","most"] (ao eM):=⟨rfl,rfl,rfl,by decide +kernel,rfl,by decide +kernel,by decide +kernel⟩
theorem om {f:Addr} {fd:FuncData} {dV:Value} (F:FunV K "twos_shared" "twos_shared" eM f fd dV) (T:Txt mg):FnOk P w K mg base dc 1 f fd ["joined","most"] (dG K bL):=
 b7 (k:=0) (b:=eP) F og fun cdv A outer s H E hr=>(aj (bo (aF (bI hr.units) (aa 0) af (aD _)) (ar (aB (aa 1))) aV) (ar (aB (be (Gn rfl) rfl T.min (by decide +kernel) (ac (aa 1) (ac (az dN (rZ (az qF (aa 0) (kD kI (aa 0)))) af) ag))))))
theorem vI:FnScope qO ["a","b","c","d"] (ao i9):=⟨rfl,rfl,rfl,by decide +kernel,rfl,by decide +kernel,by decide +kernel⟩
theorem vS {f:Addr} {fd:FuncData} {dV:Value} (F:FunV K "by_root" "by_root" i9 f fd dV) (T:Txt mg):FnOk P w K mg base dc 1 f fd ["a","b","c","d"] (dG K da):=
 b7 (k:=0) (b:=mn) F vI fun cdv A outer s H E hr=>(ar (aB (aN (ac (az dN (aa 1) (aa 3)) (ac (az dt (aa 0) (aa 2)) (ac (az dt (aa 1) (aa 3)) (ac (az dN (aa 2) (aa 0)) ag)))))))
theorem sc_number:FnScope px ["a","b","c","d","k"] (ao gZ):=⟨rfl,rfl,rfl,by decide +kernel,rfl,by decide +kernel,by decide +kernel⟩
theorem yP {f:Addr} {fd:FuncData} {dV:Value} (F:FunV K "number" "number" gZ f fd dV) (T:Txt mg) (C_twos_shared:Cal P w K mg base "twos_shared" 1 bL []) (C_by_root:Cal P w K mg base "by_root" 1 da []):FnOk P w K mg base dc 2 f fd ["a","b","c","d","k"] (dG K d7):=
 b7 (k:=1) (b:=kO) F sc_number fun cdv A outer s H E hr=>(aj (aI 5 sc_number.nd (aA C_twos_shared (hr.mono (by decide)) rfl (ac (az B6 (az B6 (az B6 (aa 0) (aa 1)) (aa 2)) (aa 3)) (ac (az eV (aa 4) af) ag)))) (aj (aI 0 sc_number.nd (az xW (aa 0) (aa 5))) (aj (aI 1 sc_number.nd (az xW (aa 1) (aa 5))) (aj (aI 2 sc_number.nd (az xW (aa 2) (aa 5))) (aj (aI 3 sc_number.nd (az xW (aa 3) (aa 5))) (aj (aI 4 sc_number.nd (az dN (aa 4) (az B8 af (aa 5)))) (aj (bo (WV.tv (nE (aF (bI hr.units) (aa 4) af (aD _)) (nE (aF (bI hr.units) (az cp (az dN (aa 0) (aa 2)) af) af (aD _)) (nD (aF (bI hr.units) (az cp (az dN (aa 1) (aa 3)) af) af (aD _)))))) (ar (aB (aN (ac (aa 0) (ac (aa 1) (ac (aa 2) (ac (aa 3) (ac (aa 4) ag)))))))) aV) (aj (aI 6 sc_number.nd (aA C_by_root (hr.mono (by decide)) rfl (ac (aa 0) (ac (aa 1) (ac (aa 2) (ac (aa 3) ag)))))) (ar (aB (aN (ac (az eV (ai aw (aa 6) af (fun _ _=>rfl)) af) (ac (az eV (ai aw (aa 6) af (fun _ _=>rfl)) af) (ac (az eV (ai aw (aa 6) af (fun _ _=>rfl)) af) (ac (az eV (ai aw (aa 6) af (fun _ _=>rfl)) af) (ac (az dN (aa 4) af) ag))))))))))))))))
theorem sc_parts_over:FnScope kU ["x","k"] (ao fA):=⟨rfl,rfl,rfl,by decide +kernel,rfl,by decide +kernel,by decide +kernel⟩
theorem pH {f:Addr} {fd:FuncData} {dV:Value} (F:FunV K "parts_over" "parts_over" fA f fd dV) (T:Txt mg) (C_by_root:Cal P w K mg base "by_root" 1 da []):FnOk P w K mg base dc 2 f fd ["x","k"] (dG K cj):=
 b7 (k:=1) (b:=fK) F sc_parts_over fun cdv A outer s H E hr=>(aj (aI 2 sc_parts_over.nd (az dN (aa 1) (ai aw (aa 0) af (fun _ _=>rfl)))) (aj (aI 3 sc_parts_over.nd (az eV (aa 2) af)) (aj (aI 4 sc_parts_over.nd (az oZ (ai aw (aa 0) af (fun _ _=>rfl)) (aa 3))) (aj (aI 5 sc_parts_over.nd (az oZ (ai aw (aa 0) af (fun _ _=>rfl)) (aa 3))) (aj (aI 6 sc_parts_over.nd (az oZ (ai aw (aa 0) af (fun _ _=>rfl)) (aa 3))) (aj (aI 7 sc_parts_over.nd (az oZ (ai aw (aa 0) af (fun _ _=>rfl)) (aa 3))) (aj (bo (aF (bI hr.units) (az cp (aa 2) af) af (aD _)) (ar (aB (aA C_by_root (hr.mono (by decide)) rfl (ac (aa 4) (ac (aa 5) (ac (aa 6) (ac (aa 7) ag))))))) aV) (ar (aB (aN (ac (aa 4) (ac (aa 5) (ac (aa 6) (ac (aa 7) ag))))))))))))))
theorem sc_plus:FnScope Cv ["x","y"] (ao rh):=⟨rfl,rfl,rfl,by decide +kernel,rfl,by decide +kernel,by decide +kernel⟩
theorem DZ {f:Addr} {fd:FuncData} {dV:Value} (F:FunV K "plus" "plus" rh f fd dV) (T:Txt mg) (C_parts_over:Cal P w K mg base "parts_over" 2 cj []) (C_number:Cal P w K mg base "number" 2 d7 []):FnOk P w K mg base dc 3 f fd ["x","y"] (dG K gL):=
 b7 (k:=2) (b:=wQ) F sc_plus fun cdv A outer s H E hr=>(aj (aI 2 sc_plus.nd (be (Cf rfl) rfl T.max (by decide +kernel) (ac (ai aw (aa 0) af (fun _ _=>rfl)) (ac (ai aw (aa 1) af (fun _ _=>rfl)) ag)))) (aj (aI 3 sc_plus.nd (aA C_parts_over (hr.mono (by decide)) rfl (ac (aa 0) (ac (aa 2) ag)))) (aj (aI 4 sc_plus.nd (aA C_parts_over (hr.mono (by decide)) rfl (ac (aa 1) (ac (aa 2) ag)))) (ar (aB (aA C_number (hr.mono (by decide)) rfl (ac (az dt (ai aw (aa 3) af (fun _ _=>rfl)) (ai aw (aa 4) af (fun _ _=>rfl))) (ac (az dt (ai aw (aa 3) af (fun _ _=>rfl)) (ai aw (aa 4) af (fun _ _=>rfl))) (ac (az dt (ai aw (aa 3) af (fun _ _=>rfl)) (ai aw (aa 4) af (fun _ _=>rfl))) (ac (az dt (ai aw (aa 3) af (fun _ _=>rfl)) (ai aw (aa 4) af (fun _ _=>rfl))) (ac (aa 2) ag)))))))))))
theorem vJ:FnScope qP ["x"] (ao ja):=⟨rfl,rfl,rfl,by decide +kernel,rfl,by decide +kernel,by decide +kernel⟩
theorem vT {f:Addr} {fd:FuncData} {dV:Value} (F:FunV K "against" "against" ja f fd dV) (T:Txt mg):FnOk P w K mg base dc 1 f fd ["x"] (dG K dL):=
 b7 (k:=0) (b:=mo) F vJ fun cdv A outer s H E hr=>(ar (aB (aN (ac (kD kI (ai aw (aa 0) af (fun _ _=>rfl))) (ac (kD kI (ai aw (aa 0) af (fun _ _=>rfl))) (ac (kD kI (ai aw (aa 0) af (fun _ _=>rfl))) (ac (kD kI (ai aw (aa 0) af (fun _ _=>rfl))) (ac (ai aw (aa 0) af (fun _ _=>rfl)) ag))))))))
theorem sc_turned:FnScope vh ["x","e"] (ao j5):=⟨rfl,rfl,rfl,by decide +kernel,rfl,by decide +kernel,by decide +kernel⟩
theorem yN {f:Addr} {fd:FuncData} {dV:Value} (F:FunV K "turned" "turned" j5 f fd dV) (T:Txt mg):FnOk P w K mg base dc 1 f fd ["x","e"] (dG K dn):=
 b7 (k:=0) (b:=pd) F sc_turned fun cdv A outer s H E hr=>(aj (aI 2 sc_turned.nd (aN (ac (ai aw (aa 0) af (fun _ _=>rfl)) (ac (ai aw (aa 0) af (fun _ _=>rfl)) (ac (ai aw (aa 0) af (fun _ _=>rfl)) (ac (ai aw (aa 0) af (fun _ _=>rfl)) (ac (kD kI (ai aw (aa 0) af (fun _ _=>rfl))) (ac (kD kI (ai aw (aa 0) af (fun _ _=>rfl))) (ac (kD kI (ai aw (aa 0) af (fun _ _=>rfl))) (ac (kD kI (ai aw (aa 0) af (fun _ _=>rfl))) ag)))))))))) (ar (aB (aN (ac (ai aw (aa 2) (az cp (az dN af (aa 1)) af) (fun _ _=>rfl)) (ac (ai aw (aa 2) (az cp (az dN af (aa 1)) af) (fun _ _=>rfl)) (ac (ai aw (aa 2) (az cp (az dN af (aa 1)) af) (fun _ _=>rfl)) (ac (ai aw (aa 2) (az cp (az dN af (aa 1)) af) (fun _ _=>rfl)) (ac (ai aw (aa 0) af (fun _ _=>rfl)) ag)))))))))
theorem yB:FnScope vk ["x"] (ao j9):=⟨rfl,rfl,rfl,by decide +kernel,rfl,by decide +kernel,by decide +kernel⟩
theorem yS {f:Addr} {fd:FuncData} {dV:Value} (F:FunV K "halved" "halved" j9 f fd dV) (T:Txt mg) (C_number:Cal P w K mg base "number" 2 d7 []):FnOk P w K mg base dc 3 f fd ["x"] (dG K dq):=
 b7 (k:=2) (b:=pg) F yB fun cdv A outer s H E hr=>(ar (aB (aA C_number (hr.mono (by decide)) rfl (ac (ai aw (aa 0) af (fun _ _=>rfl)) (ac (ai aw (aa 0) af (fun _ _=>rfl)) (ac (ai aw (aa 0) af (fun _ _=>rfl)) (ac (ai aw (aa 0) af (fun _ _=>rfl)) (ac (az dt (ai aw (aa 0) af (fun _ _=>rfl)) af) ag))))))))
theorem As:FnScope yf ["wires","wire"] (ao nh):=⟨rfl,rfl,rfl,by decide +kernel,rfl,by decide +kernel,by decide +kernel⟩
theorem AW {f:Addr} {fd:FuncData} {dV:Value} (F:FunV K "worth" "worth" nh f fd dV) (T:Txt mg):FnOk P w K mg base dc 1 f fd ["wires","wire"] (dG K dz):=
 b7 (k:=0) (b:=sE) F As fun cdv A outer s H E hr=>(ar (aB (az oZ af (az dN (az dN (aa 0) af) (aa 1)))))
theorem re:FnScope i3 ["wires","place"] (ao cX):=⟨rfl,rfl,rfl,by decide +kernel,rfl,by decide +kernel,by decide +kernel⟩
theorem rH {f:Addr} {fd:FuncData} {dV:Value} (F:FunV K "beginning" "beginning" cX f fd dV) (T:Txt mg) (T_NOUGHT:TopV K mg "NOUGHT" (.tuple [.int 0,.int 0,.int 0,.int 0,.int 0])) (T_ONE:TopV K mg "ONE" (.tuple [.int 1,.int 0,.int 0,.int 0,.int 0])):FnOk P w K mg base dc 1 f fd ["wires","place"] (dG K cm):=
 b7 (k:=0) (b:=iZ) F re fun cdv A outer s H E hr=>(ar (aB (db gE rfl T.tuple (by decide +kernel) (ac (iq (vars:=["p"]) (caps:=[(1,"place")]) (by change BlkOk (ao cX).names i3 _ _ _; exact ⟨rfl,by decide +kernel,by decide +kernel,by decide +kernel,by decide +kernel⟩) rfl (dI rfl T.range (ac (az oZ af (aa 0)) ag)) dW (fun _ _ _ _=>cf (i:=0) (show (["p","place"]:List Str).Nodup by decide +kernel) rfl (Or.inl rfl) (.inr rfl)) (fun _ _ _ _=>(gP (aF (bI hr.units) (aa 0) (aa 1) (aD _)) (nw T_ONE rfl) (nw T_NOUGHT rfl)))) ag))))
theorem sc_swung:FnScope yg ["state","bit"] (ao ni):=⟨rfl,rfl,rfl,by decide +kernel,rfl,by decide +kernel,by decide +kernel⟩
theorem AX {f:Addr} {fd:FuncData} {dV:Value} (F:FunV K "swung" "swung" ni f fd dV) (T:Txt mg) (C_halved:Cal P w K mg base "halved" 3 dq []) (C_plus:Cal P w K mg base "plus" 3 gL []) (C_against:Cal P w K mg base "against" 1 dL []):FnOk P w K mg base dc 4 f fd ["state","bit"] (dG K gA):=
 b7 (k:=3) (b:=sF) F sc_swung fun cdv A outer s H E hr=>(aj (ls 2 sc_swung.nd ag) (aj (jy PassesOwn.never rfl (dI rfl T.range (ac (be eW rfl T.len (by decide +kernel) (ac (aa 0) ag)) ag)) (im 3 sc_swung.nd) (ar (bo (aF (bI hr.units) (az qF (aa 3) (aa 1)) af (aD _)) (ar (lw 2 (aA C_halved (hr.mono (by decide)) rfl (ac (aA C_plus (hr.mono (by decide)) rfl (ac (ai aw (aa 0) (aa 3) (fun _ _=>rfl)) (ac (ai aw (aa 0) (az xV (aa 3) (aa 1)) (fun _ _=>rfl)) ag))) ag)))) (ar (lw 2 (aA C_halved (hr.mono (by decide)) rfl (ac (aA C_plus (hr.mono (by decide)) rfl (ac (ai aw (aa 0) (az xV (aa 3) (aa 1)) (fun _ _=>rfl)) (ac (aA C_against (hr.mono (by decide)) rfl (ac (ai aw (aa 0) (aa 3) (fun _ _=>rfl)) ag)) ag))) ag))))))) (ar (nU 2 (aB (db gE rfl T.tuple (by decide +kernel) (ac (aa 2) ag)))))))
theorem mU:FnScope f6 ["state","held","e"] (ao cV):=⟨rfl,rfl,rfl,by decide +kernel,rfl,by decide +kernel,by decide +kernel⟩
theorem mV {f:Addr} {fd:FuncData} {dV:Value} (F:FunV K "turned_where" "turned_where" cV f fd dV) (T:Txt mg) (C_turned:Cal P w K mg base "turned" 1 dn []):FnOk P w K mg base dc 2 f fd ["state","held","e"] (dG K bz):=
 b7 (k:=1) (b:=fX) F mU fun cdv A outer s H E hr=>(ar (aB (db gE rfl T.tuple (by decide +kernel) (ac (iq (vars:=["p"]) (caps:=[(0,"state"),(1,"held"),(2,"e")]) (by change BlkOk (ao cV).names f6 _ _ _; exact ⟨rfl,by decide +kernel,by decide +kernel,by decide +kernel,by decide +kernel⟩) rfl (dI rfl T.range (ac (be eW rfl T.len (by decide +kernel) (ac (aa 0) ag)) ag)) dW (fun _ _ _ _=>cf (i:=0) (show (["p","state","held","e"]:List Str).Nodup by decide +kernel) rfl (Or.inl rfl) (.inr rfl)) (fun _ _ _ _=>(gP (aF (bI hr.units) (az qF (aa 0) (aa 2)) (aa 2) (aD _)) (aA C_turned (hr.mono (by decide)) rfl (ac (ai aw (aa 1) (aa 0) (fun _ _=>rfl)) (ac (aa 3) ag))) (ai aw (aa 1) (aa 0) (fun _ _=>rfl))))) ag))))
theorem lB:FnScope fh ["state","held","bit"] (ao cN):=⟨rfl,rfl,rfl,by decide +kernel,rfl,by decide +kernel,by decide +kernel⟩
theorem lM {f:Addr} {fd:FuncData} {dV:Value} (F:FunV K "flipped_where" "flipped_where" cN f fd dV) (T:Txt mg):FnOk P w K mg base dc 1 f fd ["state","held","bit"] (dG K bn):=
 b7 (k:=0) (b:=e9) F lB fun cdv A outer s H E hr=>(ar (aB (db gE rfl T.tuple (by decide +kernel) (ac (iq (vars:=["p"]) (caps:=[(0,"state"),(1,"held"),(2,"bit")]) (by change BlkOk (ao cN).names fh _ _ _; exact ⟨rfl,by decide +kernel,by decide +kernel,by decide +kernel,by decide +kernel⟩) rfl (dI rfl T.range (ac (be eW rfl T.len (by decide +kernel) (ac (aa 0) ag)) ag)) dW (fun _ _ _ _=>cf (i:=0) (show (["p","state","held","bit"]:List Str).Nodup by decide +kernel) rfl (Or.inl rfl) (.inr rfl)) (fun _ _ _ _=>(gP (aF (bI hr.units) (az qF (aa 0) (aa 2)) (aa 2) (aD _)) (ai aw (aa 1) (az xV (aa 0) (aa 3)) (fun _ _=>rfl)) (ai aw (aa 1) (aa 0) (fun _ _=>rfl))))) ag))))
theorem q9:FnScope mR ["place","both"] (ao gu):=⟨rfl,rfl,rfl,by decide +kernel,rfl,by decide +kernel,by decide +kernel⟩
theorem rG {f:Addr} {fd:FuncData} {dV:Value} (F:FunV K "exchanged" "exchanged" gu f fd dV) (T:Txt mg):FnOk P w K mg base dc 1 f fd ["place","both"] (dG K cl):=
 b7 (k:=0) (b:=gF) F q9 fun cdv A outer s H E hr=>(ar (aB (gP (aF sf (az qF (aa 0) (aa 1)) (aN (ac af (ac (aa 1) ag))) (by with_unfolding_all rfl)) (aa 0) (az xV (aa 0) (aa 1)))))
theorem sc_done:FnScope wW ["state","row"] (ao oi):=⟨rfl,rfl,rfl,by decide +kernel,rfl,by decide +kernel,by decide +kernel⟩
theorem D9 {f:Addr} {fd:FuncData} {dV:Value} (F:FunV K "done" "done" oi f fd dV) (T:Txt mg) (C_worth:Cal P w K mg base "worth" 1 dz []) (C_swung:Cal P w K mg base "swung" 4 gA []) (C_turned_where:Cal P w K mg base "turned_where" 2 bz []) (C_flipped_where:Cal P w K mg base "flipped_where" 1 bn []) (C_exchanged:Cal P w K mg base "exchanged" 1 cl []):FnOk P w K mg base dc 5 f fd ["state","row"] (dG K cT):=
 b7 (k:=4) (b:=iY) F sc_done fun cdv A outer s H E hr=>(aj (aI 2 sc_done.nd (az dN (rZ (be eW rfl T.len (by decide +kernel) (ac (aa 0) ag))) af)) (aj (aI 3 sc_done.nd (aA C_worth (hr.mono (by decide)) rfl (ac (aa 2) (ac (ai aw (aa 1) af (fun _ _=>rfl)) ag)))) (aj (bo (aF (bI hr.units) (ai aw (aa 1) af (fun _ _=>rfl)) aH (aD _)) (ar (aB (aA C_swung (hr.mono (by decide)) rfl (ac (aa 0) (ac (aa 3) ag))))) aV) (aj (bo (aF (bI hr.units) (ai aw (aa 1) af (fun _ _=>rfl)) aH (aD _)) (ar (aB (aA C_turned_where (hr.mono (by decide)) rfl (ac (aa 0) (ac (aa 3) (ac (ai aw (aa 1) af (fun _ _=>rfl)) ag)))))) aV) (aj (bo (aF (bI hr.units) (ai aw (aa 1) af (fun _ _=>rfl)) aH (aD _)) (ar (aB (aA C_flipped_where (hr.mono (by decide)) rfl (ac (aa 0) (ac af (ac (aa 3) ag)))))) aV) (aj (aI 4 sc_done.nd (aA C_worth (hr.mono (by decide)) rfl (ac (aa 2) (ac (ai aw (aa 1) af (fun _ _=>rfl)) ag)))) (aj (bo (aF (bI hr.units) (ai aw (aa 1) af (fun _ _=>rfl)) aH (aD _)) (ar (aB (aA C_flipped_where (hr.mono (by decide)) rfl (ac (aa 0) (ac (aa 3) (ac (aa 4) ag)))))) aV) (aj (bo (aF (bI hr.units) (ai aw (aa 1) af (fun _ _=>rfl)) aH (aD _)) (ar (aB (aA C_turned_where (hr.mono (by decide)) rfl (ac (aa 0) (ac (az B6 (aa 3) (aa 4)) (ac af ag)))))) aV) (ar (aB (db gE rfl T.tuple (by decide +kernel) (ac (iq (vars:=["p"]) (caps:=[(0,"state"),(3,"first"),(4,"second")]) (by change BlkOk (ao oi).names wW _ _ _; exact ⟨rfl,by decide +kernel,by decide +kernel,by decide +kernel,by decide +kernel⟩) rfl (dI rfl T.range (ac (be eW rfl T.len (by decide +kernel) (ac (aa 0) ag)) ag)) dW (fun _ _ _ _=>cf (i:=0) (show (["p","state","first","second"]:List Str).Nodup by decide +kernel) rfl (Or.inl rfl) (.inr rfl)) (fun _ _ _ _=>(ai aw (aa 1) (aA C_exchanged (hr.mono (by decide)) rfl (ac (aa 0) (ac (az B6 (aa 2) (aa 3)) ag))) (fun _ _=>rfl)))) ag))))))))))))
theorem mE:FnScope eL ["row"] (ao hZ):=⟨rfl,rfl,rfl,by decide +kernel,rfl,by decide +kernel,by decide +kernel⟩
theorem km {f:Addr} {fd:FuncData} {dV:Value} (F:FunV K "wires_of" "wires_of" hZ f fd dV) (T:Txt mg) (hm:mg "wires_of" = some (.ref f)) (hk:PySem.W.keepIn K (.ref f)=true) (hb:Binds K fd ["row"] []):∀ m,FnOk P w K mg base dc (1+m) f fd ["row"] (dG K (bY m))
 | 0=>b7 (k:=0) (b:=fun _=>none) F mE fun cdv A outer s H E hr=>Gp
 | m+1=>by
  have C_wires_of:Cal P w K mg base "wires_of" (1+m) (bY m) []:=Cal.mk0 (km F T hm hk hb m) hm hk hb
  exact b7 (k:=1+m) (b:=bK (bY m)) F mE fun cdv A outer s H E hr=>(aj (bo (aF (bI hr.units) (ai aw (aa 0) af (fun _ _=>rfl)) aH (aD _)) (ar (aB (aA C_wires_of (hr.mono (by omega)) rfl (ac (ai aw (aa 0) af (fun _ _=>rfl)) ag)))) aV) (aj (bo (aF sf (ai aw (aa 0) af (fun _ _=>rfl)) (aN (ac aH (ac aH (ac aH ag)))) (by with_unfolding_all rfl)) (ar (aB (aN (ac (be (Gn rfl) rfl T.min (by decide +kernel) (ac (ai aw (aa 0) af (fun _ _=>rfl)) (ac (ai aw (aa 0) af (fun _ _=>rfl)) ag))) (ac (be (Cf rfl) rfl T.max (by decide +kernel) (ac (ai aw (aa 0) af (fun _ _=>rfl)) (ac (ai aw (aa 0) af (fun _ _=>rfl)) ag))) ag))))) aV) (ar (aB (aN (ac (ai aw (aa 0) af (fun _ _=>rfl)) ag))))))
theorem qX:FnScope mO ["one","other"] (ao gj):=⟨rfl,rfl,rfl,by decide +kernel,rfl,by decide +kernel,by decide +kernel⟩
theorem rA {f:Addr} {fd:FuncData} {dV:Value} (F:FunV K "undone_by" "undone_by" gj f fd dV) (T:Txt mg) (C_wires_of:Cal P w K mg base "wires_of" 9 bm []):FnOk P w K mg base dc 10 f fd ["one","other"] (dG K bM):=
 b7 (k:=9) (b:=dO) F qX fun cdv A outer s H E hr=>(aj (bo (aF sf (ai aw (aa 0) af (fun _ _=>rfl)) (aN (ac aH (ac aH ag))) (by with_unfolding_all rfl)) (ar (aB kF)) aV) (aj (bo (aF sf (ai aw (aa 0) af (fun _ _=>rfl)) (aN (ac aH (ac aH ag))) (by with_unfolding_all rfl)) (ar (aB (oY (eJ (bI hr.units) (ai aw (aa 0) af (fun _ _=>rfl)) (ai aw (aa 1) af (fun _ _=>rfl)) (aD _)) (oW (eJ (bI hr.units) (aA C_wires_of (hr.mono (by decide)) rfl (ac (aa 0) ag)) (aA C_wires_of (hr.mono (by decide)) rfl (ac (aa 1) ag)) (aD _)))))) aV) (ar (aB (eJ (bI hr.units) (aa 0) (aa 1) (aD _))))))
theorem tI:FnScope pA ["row","look","mark"] (ao h7):=⟨rfl,rfl,rfl,by decide +kernel,rfl,by decide +kernel,by decide +kernel⟩
theorem t0 {f:Addr} {fd:FuncData} {dV:Value} (F:FunV K "asks_for" "asks_for" h7 f fd dV) (T:Txt mg):FnOk P w K mg base dc 1 f fd ["row","look","mark"] (dG K bS):=
 b7 (k:=0) (b:=fZ) F tI fun cdv A outer s H E hr=>(ar (aB (oY (eJ (bI hr.units) (ai aw (aa 0) af (fun _ _=>rfl)) aH (aD _)) (oY (eJ (bI hr.units) (ai aw (aa 1) af (fun _ _=>rfl)) aH (aD _)) (oW (eJ (bI hr.units) (ai aw (aa 0) af (fun _ _=>rfl)) (aa 2) (aD _)))))))
theorem At:FnScope yh ["row","wire"] (ao nj):=⟨rfl,rfl,rfl,by decide +kernel,rfl,by decide +kernel,by decide +kernel⟩
theorem AY {f:Addr} {fd:FuncData} {dV:Value} (F:FunV K "flips" "flips" nj f fd dV) (T:Txt mg):FnOk P w K mg base dc 1 f fd ["row","wire"] (dG K ck):=
 b7 (k:=0) (b:=eh) F At fun cdv A outer s H E hr=>(aj (bo (aF sf (ai aw (aa 0) af (fun _ _=>rfl)) (aN (ac aH (ac aH ag))) (by with_unfolding_all rfl)) (ar (aB fV)) aV) (ar (aB (K0 (eJ (bI hr.units) (ai aw (aa 0) af (fun _ _=>rfl)) aH (aD _)) (oW (oY (eJ (bI hr.units) (ai aw (aa 0) af (fun _ _=>rfl)) aH (aD _)) (oW (eJ (bI hr.units) (ai aw (aa 0) af (fun _ _=>rfl)) (aa 1) (aD _)))))))))
theorem sc_both_alike:FnScope kX ["one","other","wire"] (ao fC):=⟨rfl,rfl,rfl,by decide +kernel,rfl,by decide +kernel,by decide +kernel⟩
theorem pJ {f:Addr} {fd:FuncData} {dV:Value} (F:FunV K "both_alike" "both_alike" fC f fd dV) (T:Txt mg) (C_flips:Cal P w K mg base "flips" 1 ck []):FnOk P w K mg base dc 2 f fd ["one","other","wire"] (dG K bT):=
 b7 (k:=1) (b:=fL) F sc_both_alike fun cdv A outer s H E hr=>(aj (aI 3 sc_both_alike.nd (aA C_flips (hr.mono (by decide)) rfl (ac (aa 0) (ac (aa 2) ag)))) (ar (aB (oY (eJ wA (aa 3) fV (aD _)) (oW (eJ (bI hr.units) (aa 3) (aA C_flips (hr.mono (by decide)) rfl (ac (aa 1) (ac (aa 2) ag))) (aD _)))))))
theorem q8:FnScope mQ ["row"] (ao gr):=⟨rfl,rfl,rfl,by decide +kernel,rfl,by decide +kernel,by decide +kernel⟩
theorem rF {f:Addr} {fd:FuncData} {dV:Value} (F:FunV K "inner_row" "inner_row" gr f fd dV) (T:Txt mg):FnOk P w K mg base dc 1 f fd ["row"] (dG K bG):=
 b7 (k:=0) (b:=dP) F q8 fun cdv A outer s H E hr=>(ar (aB (gP (aF (bI hr.units) (ai aw (aa 0) af (fun _ _=>rfl)) aH (aD _)) (ai aw (aa 0) af (fun _ _=>rfl)) (aa 0))))
theorem sc_lets_by:FnScope jk ["one","other","mark"] (ao dH):=⟨rfl,rfl,rfl,by decide +kernel,rfl,by decide +kernel,by decide +kernel⟩
theorem vP {f:Addr} {fd:FuncData} {dV:Value} (F:FunV K "lets_by" "lets_by" dH f fd dV) (T:Txt mg) (C_asks_for:Cal P w K mg base "asks_for" 1 bS []) (C_wires_of:Cal P w K mg base "wires_of" 9 bm []) (C_both_alike:Cal P w K mg base "both_alike" 2 bT []) (C_inner_row:Cal P w K mg base "inner_row" 1 bG []):FnOk P w K mg base dc 10 f fd ["one","other","mark"] (dG K cS):=
 b7 (k:=9) (b:=mj) F sc_lets_by fun cdv A outer s H E hr=>(aj (bo (WV.tv (fO (aF (bI hr.units) (ai aw (aa 0) af (fun _ _=>rfl)) aH (aD _)) (fo (aF (bI hr.units) (ai aw (aa 1) af (fun _ _=>rfl)) aH (aD _))))) (ar (aB kF)) aV) (aj (bo (WV.tv (nE (jw (aA C_asks_for (hr.mono (by decide)) rfl (ac (aa 0) (ac (aa 1) (ac (aa 2) ag))))) (nD (jw (aA C_asks_for (hr.mono (by decide)) rfl (ac (aa 1) (ac (aa 0) (ac (aa 2) ag)))))))) (ar (aB kF)) aV) (aj (Ak 3 sc_lets_by.nd (vars:=["wire"]) (caps:=[(1,"other")]) (by change BlkOk (ao dH).names jk _ _ _; exact ⟨rfl,by decide +kernel,by decide +kernel,by decide +kernel,by decide +kernel⟩) rfl (fT (aA C_wires_of (hr.mono (by decide)) rfl (ac (aa 0) ag))) dW (fun _ _ _ _=>cf (i:=0) (show (["wire","other"]:List Str).Nodup by decide +kernel) rfl (Or.inl rfl) (.inr rfl)) (fun _ _ _ _=>(aF sf (aa 0) (aA C_wires_of (hr.mono (by decide)) rfl (ac (aa 1) ag)) (by with_unfolding_all rfl))) (fun _ _ _ _=>(aa 0))) (ar (aB (be (Go rfl) rfl T.all (by decide +kernel) (ac (iq (vars:=["wire"]) (caps:=[(0,"one"),(1,"other")]) (by change BlkOk (ao dH).names jk _ _ _; exact ⟨rfl,by decide +kernel,by decide +kernel,by decide +kernel,by decide +kernel⟩) rfl (fT (aa 3)) dW (fun _ _ _ _=>cf (i:=0) (show (["wire","one","other"]:List Str).Nodup by decide +kernel) rfl (Or.inl rfl) (.inr rfl)) (fun _ _ _ _=>(aA C_both_alike (hr.mono (by decide)) rfl (ac (aA C_inner_row (hr.mono (by decide)) rfl (ac (aa 1) ag)) (ac (aA C_inner_row (hr.mono (by decide)) rfl (ac (aa 2) ag)) (ac (aa 0) ag)))))) ag)))))))
theorem sc_steps_for_two:FnScope iG ["rows","p"] (ao dy):=⟨rfl,rfl,rfl,by decide +kernel,rfl,by decide +kernel,by decide +kernel⟩
theorem lL {f:Addr} {fd:FuncData} {dV:Value} (F:FunV K "steps_for_two" "steps_for_two" dy f fd dV) (T:Txt mg) (C_undone_by:Cal P w K mg base "undone_by" 10 bM []) (C_lets_by1:Cal P w K mg base "lets_by" 10 cS [.none]):FnOk P w K mg base dc 11 f fd ["rows","p"] (dG K bA):=
 b7 (k:=10) (b:=dB) F sc_steps_for_two fun cdv A outer s H E hr=>(aj (ls 2 sc_steps_for_two.nd ag) (aj (jy PassesOwn.never rfl (qx rfl T.range (ac (az dt (aa 1) af) (ac (be eW rfl T.len (by decide +kernel) (ac (aa 0) ag)) ag))) (im 3 sc_steps_for_two.nd) (aj (bo (jw (aA C_undone_by (hr.mono (by decide)) rfl (ac (ai aw (aa 0) (aa 1) (fun _ _=>rfl)) (ac (ai aw (aa 0) (aa 3) (fun _ _=>rfl)) ag)))) (ar (lw 2 (aN (ac aH (ac (aa 1) (ac (aa 3) ag)))))) aV) (aj (bo (WV.tv (fO (aF (bI hr.units) (ai aw (ai aw (aa 0) (aa 1) (fun _ _=>rfl)) af (fun _ _=>rfl)) aH (aD _)) (fo (aF (bI hr.units) (hU (ai aw (aa 0) (aa 1) (fun _ _=>rfl)) kj (ii af)) (hU (ai aw (aa 0) (aa 3) (fun _ _=>rfl)) kj (ii af)) (aD _))))) (ar (lw 2 (aN (ac aH (ac (aa 1) (ac (aa 3) ag)))))) aV) (ar (bo (vt (jw (BU C_lets_by1 (hr.mono (by decide)) rfl (ac (ai aw (aa 0) (aa 1) (fun _ _=>rfl)) (ac (ai aw (aa 0) (aa 3) (fun _ _=>rfl)) ag))))) (ar (nU 2 (aB (aa 2)))) aV))))) (ar (nU 2 (aB (aa 2))))))
theorem j4:FnScope bO ["row","wire"] (ao gk):=⟨rfl,rfl,rfl,by decide +kernel,rfl,by decide +kernel,by decide +kernel⟩
theorem jn {f:Addr} {fd:FuncData} {dV:Value} (F:FunV K "swung_row" "swung_row" gk f fd dV) (T:Txt mg) (hm:mg "swung_row" = some (.ref f)) (hk:PySem.W.keepIn K (.ref f)=true) (hb:Binds K fd ["row","wire"] []):∀ m,FnOk P w K mg base dc (1+m) f fd ["row","wire"] (dG K (bb m))
 | 0=>b7 (k:=0) (b:=fun _=>none) F j4 fun cdv A outer s H E hr=>Gp
 | m+1=>by
  have C_swung_row:Cal P w K mg base "swung_row" (1+m) (bb m) []:=Cal.mk0 (jn F T hm hk hb m) hm hk hb
  exact b7 (k:=1+m) (b:=aM (bb m)) F j4 fun cdv A outer s H E hr=>(aj (bo (aF (bI hr.units) (ai aw (aa 0) af (fun _ _=>rfl)) aH (aD _)) (ar (aB (aN (ac aH (ac (ai aw (aa 0) af (fun _ _=>rfl)) (ac (aA C_swung_row (hr.mono (by omega)) rfl (ac (ai aw (aa 0) af (fun _ _=>rfl)) (ac (aa 1) ag))) ag)))))) aV) (aj (bo (aF (bI hr.units) (aa 0) (aN (ac aH (ac (aa 1) ag))) (aD _)) (ar (aB (aN (ac aH (ac (aa 1) (ac af ag)))))) aV) (aj (bo (aF (bI hr.units) (aa 0) (aN (ac aH (ac (aa 1) (ac af ag)))) (aD _)) (ar (aB (aN (ac aH (ac (aa 1) ag))))) aV) (aj (bo (WV.tv (fO (aF (bI hr.units) (ai aw (aa 0) af (fun _ _=>rfl)) aH (aD _)) (fo (aF (bI hr.units) (ai aw (aa 0) af (fun _ _=>rfl)) (aa 1) (aD _))))) (ar (aB (aN (ac aH (ac (ai aw (aa 0) af (fun _ _=>rfl)) (ac (aa 1) ag)))))) aV) (aj (bo (aF (bI hr.units) (ai aw (aa 0) af (fun _ _=>rfl)) aH (aD _)) (ar (aB (aN (ac aH (ac (gP (aF (bI hr.units) (ai aw (aa 0) af (fun _ _=>rfl)) (aa 1) (aD _)) (ai aw (aa 0) af (fun _ _=>rfl)) (ai aw (aa 0) af (fun _ _=>rfl))) (ac (aa 1) ag)))))) aV) (ar (aB fV)))))))
theorem sc_steps_for_three:FnScope ez ["rows","p"] (ao ce):=⟨rfl,rfl,rfl,by decide +kernel,rfl,by decide +kernel,by decide +kernel⟩
theorem jF {f:Addr} {fd:FuncData} {dV:Value} (F:FunV K "steps_for_three" "steps_for_three" ce f fd dV) (T:Txt mg) (C_swung_row:Cal P w K mg base "swung_row" 9 cE []) (C_wires_of:Cal P w K mg base "wires_of" 9 bm []):FnOk P w K mg base dc 10 f fd ["rows","p"] (dG K aJ):=
 b7 (k:=9) (b:=bQ) F sc_steps_for_three fun cdv A outer s H E hr=>(aj (bo (aF (uW hr.units) (ai aw (ai aw (aa 0) (aa 1) (fun _ _=>rfl)) af (fun _ _=>rfl)) aH (aD _)) (ar (aB (gO ag))) aV) (aj (aI 2 sc_steps_for_three.nd (ai aw (ai aw (aa 0) (aa 1) (fun _ _=>rfl)) af (fun _ _=>rfl))) (aj (aI 3 sc_steps_for_three.nd (hU (oX (vars:=["q"]) (caps:=[(0,"rows"),(2,"wire")]) (by change BlkOk (ao ce).names ez _ _ _; exact ⟨rfl,by decide +kernel,by decide +kernel,by decide +kernel,by decide +kernel⟩) rfl (qx rfl T.range (ac (az dt (aa 1) af) (ac (be eW rfl T.len (by decide +kernel) (ac (aa 0) ag)) ag))) dW (fun _ _ _ _=>cf (i:=0) (show (["q","rows","wire"]:List Str).Nodup by decide +kernel) rfl (Or.inl rfl) (.inr rfl)) (fun _ _ _ _=>(aF sf (aa 2) (aA C_wires_of (hr.mono (by decide)) rfl (ac (ai aw (aa 1) (aa 0) (fun _ _=>rfl)) ag)) (by with_unfolding_all rfl))) (fun _ _ _ _=>(aa 0))) kj (ii af))) (aj (bo (WV.tv (fO (aF (bI hr.units) (be eW rfl T.len (by decide +kernel) (ac (aa 3) ag)) af (aD _)) (fO (aF (bI hr.units) (ai aw (aa 0) (ai aw (aa 3) af (fun _ _=>rfl)) (fun _ _=>rfl)) (ai aw (aa 0) (aa 1) (fun _ _=>rfl)) (aD _)) (fo (aF wA (aA C_swung_row (hr.mono (by decide)) rfl (ac (ai aw (aa 0) (ai aw (aa 3) af (fun _ _=>rfl)) (fun _ _=>rfl)) (ac (aa 2) ag))) fV (aD _)))))) (ar (aB (gO (ac (aN (ac aH (ac (aa 1) (ac (ai aw (aa 3) af (fun _ _=>rfl)) (ac (ai aw (aa 3) af (fun _ _=>rfl)) ag))))) ag)))) aV) (ar (aB (gO ag)))))))
theorem sc_slides_of:FnScope N_slides_of ["circuit"] (ao gm):=⟨rfl,rfl,rfl,by decide +kernel,rfl,by decide +kernel,by decide +kernel⟩
theorem kn {f:Addr} {fd:FuncData} {dV:Value} (F:FunV K "slides_of" "slides_of" gm f fd dV) (T:Txt mg) (C_steps_for_two:Cal P w K mg base "steps_for_two" 11 bA []) (C_steps_for_three:Cal P w K mg base "steps_for_three" 10 aJ []):FnOk P w K mg base dc 12 f fd ["circuit"] (dG K aO):=
 b7 (k:=11) (b:=iV) F sc_slides_of fun cdv A outer s H E hr=>(aj (aI 1 sc_slides_of.nd (ai aw (aa 0) af (fun _ _=>rfl))) (aj (ls 2 sc_slides_of.nd ag) (aj (jy PassesOwn.never rfl (dI rfl T.range (ac (be eW rfl T.len (by decide +kernel) (ac (aa 1) ag)) ag)) (im 3 sc_slides_of.nd) (aj (qU 2 (aA C_steps_for_two (hr.mono (by decide)) rfl (ac (aa 1) (ac (aa 3) ag)))) (ar (qU 2 (aA C_steps_for_three (hr.mono (by decide)) rfl (ac (aa 1) (ac (aa 3) ag))))))) (ar (nU 2 (aB (E4 rfl T.sorted (aa 2))))))))
theorem sc_joined:FnScope vj ["one","other"] (ao j8):=⟨rfl,rfl,rfl,by decide +kernel,rfl,by decide +kernel,by decide +kernel⟩
theorem yR {f:Addr} {fd:FuncData} {dV:Value} (F:FunV K "joined" "joined" j8 f fd dV) (T:Txt mg):FnOk P w K mg base dc 1 f fd ["one","other"] (dG K d8):=
 b7 (k:=0) (b:=kP) F sc_joined fun cdv A outer s H E hr=>(aj (aI 2 sc_joined.nd (az cp (az dt (ai aw (aa 0) af (fun _ _=>rfl)) (ai aw (aa 1) af (fun _ _=>rfl))) af)) (ar (aB (gP (aF (bI hr.units) (aa 2) af (aD _)) fV (aN (ac aH (ac (ai aw (aa 0) af (fun _ _=>rfl)) (ac (aa 2) ag))))))))
theorem pG:FnScope kW ["rows","step"] (ao fB):=⟨rfl,rfl,rfl,by decide +kernel,rfl,by decide +kernel,by decide +kernel⟩
theorem pI {f:Addr} {fd:FuncData} {dV:Value} (F:FunV K "changed_by" "changed_by" fB f fd dV) (T:Txt mg) (C_swung_row:Cal P w K mg base "swung_row" 9 cE []) (C_joined:Cal P w K mg base "joined" 1 d8 []):FnOk P w K mg base dc 10 f fd ["rows","step"] (dG K bB):=
 b7 (k:=9) (b:=en) F pG fun cdv A outer s H E hr=>(aj (bo (aF (bI hr.units) (ai aw (aa 1) af (fun _ _=>rfl)) aH (aD _)) (ar (aB (ww (iu (ai aw (aa 1) af (fun _ _=>rfl)) fV (iu (ai aw (aa 1) af (fun _ _=>rfl)) fV wx))))) aV) (aj (bo (aF (bI hr.units) (ai aw (aa 1) af (fun _ _=>rfl)) aH (aD _)) (ar (aB (ww (iu (ai aw (aa 1) af (fun _ _=>rfl)) fV (iu (ai aw (aa 1) af (fun _ _=>rfl)) (aA C_joined (hr.mono (by decide)) rfl (ac (ai aw (aa 0) (ai aw (aa 1) af (fun _ _=>rfl)) (fun _ _=>rfl)) (ac (ai aw (aa 0) (ai aw (aa 1) af (fun _ _=>rfl)) (fun _ _=>rfl)) ag))) wx))))) aV) (ar (aB (ww (iu (ai aw (aa 1) af (fun _ _=>rfl)) fV (iu (ai aw (aa 1) af (fun _ _=>rfl)) (aA C_swung_row (hr.mono (by decide)) rfl (ac (ai aw (aa 0) (ai aw (aa 1) af (fun _ _=>rfl)) (fun _ _=>rfl)) (ac (ai aw (ai aw (aa 0) (ai aw (aa 1) af (fun _ _=>rfl)) (fun _ _=>rfl)) af (fun _ _=>rfl)) ag))) (iu (ai aw (aa 1) af (fun _ _=>rfl)) fV wx))))))))
theorem sc_slid:FnScope N_slid ["circuit","step"] (ao lC):=⟨rfl,rfl,rfl,by decide +kernel,rfl,by decide +kernel,by decide +kernel⟩
theorem DY {f:Addr} {fd:FuncData} {dV:Value} (F:FunV K "slid" "slid" lC f fd dV) (T:Txt mg) (C_changed_by:Cal P w K mg base "changed_by" 10 bB []) (C_slides_of:Cal P w K mg base "slides_of" 12 aO []):FnOk P w K mg base dc 13 f fd ["circuit","step"] (dG K io):=
 b7 (k:=12) (b:=wP) F sc_slid fun cdv A outer s H E hr=>(aj (bo (aF (B7 (LQ hr)) (aa 1) (aA C_slides_of (hr.mono (by decide)) rfl (ac (aa 0) ag)) (by with_unfolding_all rfl)) (ar Jw) aV) (aj (aI 2 sc_slid.nd (aA C_changed_by (hr.mono (by decide)) rfl (ac (ai aw (aa 0) af (fun _ _=>rfl)) (ac (aa 1) ag)))) (aj (qV 3 sc_slid.nd (vars:=["k"]) (caps:=[(0,"circuit"),(2,"changes")]) (by change BlkOk (ao lC).names N_slid _ _ _; exact ⟨rfl,by decide +kernel,by decide +kernel,by decide +kernel,by decide +kernel⟩) rfl (dI rfl T.range (ac (be eW rfl T.len (by decide +kernel) (ac (ai aw (aa 0) af (fun _ _=>rfl)) ag)) ag)) dW (fun _ _ _ _=>cf (i:=0) (show (["k","circuit","changes"]:List Str).Nodup by decide +kernel) rfl (Or.inl rfl) (.inr rfl)) (fun _ _ _ _=>(E7 (Oh hr.units) (aa 2) (aa 0) (ai aw (ai aw (aa 1) af (fun _ _=>rfl)) (aa 0) (fun _ _=>rfl)) ⟨rfl,rfl,rfl,rfl⟩))) (ar (aB (aN (ac (ai aw (aa 0) af (fun _ _=>rfl)) (ac (db gE rfl T.tuple (by decide +kernel) (ac (oX (vars:=["row"]) (caps:=[]) (by change BlkOk (ao lC).names N_slid _ _ _; exact ⟨rfl,by decide +kernel,by decide +kernel,by decide +kernel,by decide +kernel⟩) rfl (fT (aa 3)) dW (fun _ _ _ _=>cf (i:=0) (show (["row"]:List Str).Nodup by decide +kernel) rfl (Or.inl rfl) (.inr rfl)) (fun _ _ _ _=>(aF wA (aa 0) fV (aD _))) (fun _ _ _ _=>(aa 0))) ag)) ag))))))))
theorem sc_led_on:FnScope vi ["thing","steps_for","behind_step"] (ao j6):=⟨rfl,rfl,rfl,by decide +kernel,rfl,by decide +kernel,by decide +kernel⟩
theorem yQ {f:Addr} {fd:FuncData} {dV:Value} (F:FunV K "led_on" "led_on" j6 f fd dV) (T:Txt mg) (V_slides_of:CalF P w K mg base "slides_of" 12 aO) (V_slid:CalF P w K mg base "slid" 13 io):FnOk P w K mg base dc 14 f fd ["thing","steps_for","behind_step"] (dG K hJ):=
 b7 (k:=13) (b:=pf) F sc_led_on fun cdv A outer s H E hr=>(aj (ls 3 sc_led_on.nd ag) (aj (aI 4 sc_led_on.nd (hV 1 (k:=12) (je (by decide) V_slides_of lT) (hr.mono (by decide)) (ac (aa 0) ag))) (aj (Aj (fun _=>wN) PassesOwn.never (aF (uW hr.units) (aa 4) (gO ag) (aD _)) (aj (lw 3 (ai aw (aa 4) af (fun _ _=>rfl))) (aj (aI 0 sc_led_on.nd (hV 2 (k:=13) (je (by decide) V_slid lT) (hr.mono (by decide)) (ac (aa 0) (ac (ai aw (aa 4) af (fun _ _=>rfl)) ag)))) (ar (aI 4 sc_led_on.nd (hV 1 (k:=12) (je (by decide) V_slides_of lT) (hr.mono (by decide)) (ac (aa 0) ag))))))) (ar (nU 3 (aB (aN (ac (aa 3) (ac (aa 0) ag)))))))))
theorem qY:FnScope mP ["circuit"] (ao gn):=⟨rfl,rfl,rfl,by decide +kernel,rfl,by decide +kernel,by decide +kernel⟩
theorem rB {f:Addr} {fd:FuncData} {dV:Value} (F:FunV K "shortened" "shortened" gn f fd dV) (T:Txt mg) (C_led_on:Cal P w K mg base "led_on" 14 hJ []) (N_slid:Fnm K mg "slid") (N_slides_of:Fnm K mg "slides_of"):FnOk P w K mg base dc 15 f fd ["circuit"] (dG K cF):=
 b7 (k:=14) (b:=iW) F qY fun cdv A outer s H E hr=>(ar (aB (aA C_led_on (hr.mono (by decide)) rfl (ac (aa 0) (ac (kE N_slides_of rfl) (ac (kE N_slid rfl) ag))))))
theorem sc_left_by:FnScope mr ["state","bit","mark"] (ao g6):=⟨rfl,rfl,rfl,by decide +kernel,rfl,by decide +kernel,by decide +kernel⟩
theorem vQ {f:Addr} {fd:FuncData} {dV:Value} (F:FunV K "left_by" "left_by" g6 f fd dV) (T:Txt mg) (T_NOUGHT:TopV K mg "NOUGHT" (.tuple [.int 0,.int 0,.int 0,.int 0,.int 0])):FnOk P w K mg base dc 1 f fd ["state","bit","mark"] (dG K cC):=
 b7 (k:=0) (b:=jj) F sc_left_by fun cdv A outer s H E hr=>(aj (aI 3 sc_left_by.nd (gP (aF (bI hr.units) (aa 2) af (aD _)) (aa 1) af)) (ar (aB (db gE rfl T.tuple (by decide +kernel) (ac (iq (vars:=["p"]) (caps:=[(0,"state"),(1,"bit"),(3,"found")]) (by change BlkOk (ao g6).names mr _ _ _; exact ⟨rfl,by decide +kernel,by decide +kernel,by decide +kernel,by decide +kernel⟩) rfl (dI rfl T.range (ac (be eW rfl T.len (by decide +kernel) (ac (aa 0) ag)) ag)) dW (fun _ _ _ _=>cf (i:=0) (show (["p","state","bit","found"]:List Str).Nodup by decide +kernel) rfl (Or.inl rfl) (.inr rfl)) (fun _ _ _ _=>(gP (aF (bI hr.units) (az qF (aa 0) (aa 2)) (aa 3) (aD _)) (ai aw (aa 1) (aa 0) (fun _ _=>rfl)) (nw T_NOUGHT rfl)))) ag)))))
theorem qZ:FnScope i0 ["state"] (ao eQ):=⟨rfl,rfl,rfl,by decide +kernel,rfl,by decide +kernel,by decide +kernel⟩
theorem rE {f:Addr} {fd:FuncData} {dV:Value} (F:FunV K "is_nought" "is_nought" eQ f fd dV) (T:Txt mg) (T_NOUGHT:TopV K mg "NOUGHT" (.tuple [.int 0,.int 0,.int 0,.int 0,.int 0])):FnOk P w K mg base dc 1 f fd ["state"] (dG K dJ):=
 b7 (k:=0) (b:=iX) F qZ fun cdv A outer s H E hr=>(ar (aB (be (Go rfl) rfl T.all (by decide +kernel) (ac (iq (vars:=["x"]) (caps:=[]) (by change BlkOk (ao eQ).names i0 _ _ _; exact ⟨rfl,by decide +kernel,by decide +kernel,by decide +kernel,by decide +kernel⟩) rfl (fT (aa 0)) dW (fun _ _ _ _=>cf (i:=0) (show (["x"]:List Str).Nodup by decide +kernel) rfl (Or.inl rfl) (.inr rfl)) (fun _ _ _ _=>(eJ (bI hr.units) (aa 0) (nw T_NOUGHT rfl) (aD _)))) ag))))
theorem sc_parted:FnScope N_parted ["branch","wire"] (ao gY):=⟨rfl,rfl,rfl,by decide +kernel,rfl,by decide +kernel,by decide +kernel⟩
theorem yO {f:Addr} {fd:FuncData} {dV:Value} (F:FunV K "parted" "parted" gY f fd dV) (T:Txt mg) (C_worth:Cal P w K mg base "worth" 1 dz []) (C_left_by:Cal P w K mg base "left_by" 1 cC []) (C_is_nought:Cal P w K mg base "is_nought" 1 dJ []):FnOk P w K mg base dc 2 f fd ["branch","wire"] (dG K d6):=
 b7 (k:=1) (b:=pe) F sc_parted fun cdv A outer s H E hr=>(aj (aI 2 sc_parted.nd (aA C_worth (hr.mono (by decide)) rfl (ac (az dN (rZ (be eW rfl T.len (by decide +kernel) (ac (ai aw (aa 0) af (fun _ _=>rfl)) ag))) af) (ac (aa 1) ag)))) (aj (qV 3 sc_parted.nd (vars:=["mark"]) (caps:=[(0,"branch"),(2,"bit")]) (by change BlkOk (ao gY).names N_parted _ _ _; exact ⟨rfl,by decide +kernel,by decide +kernel,by decide +kernel,by decide +kernel⟩) rfl (fT (aN (ac af (ac af ag)))) dW (fun _ _ _ _=>cf (i:=0) (show (["mark","branch","bit"]:List Str).Nodup by decide +kernel) rfl (Or.inl rfl) (.inr rfl)) (fun _ _ _ _=>(aN (ac (az dt (ai aw (aa 1) af (fun _ _=>rfl)) (aN (ac (aa 0) ag))) (ac (aA C_left_by (hr.mono (by decide)) rfl (ac (ai aw (aa 1) af (fun _ _=>rfl)) (ac (aa 2) (ac (aa 0) ag)))) ag))))) (ar (aB (oX (vars:=["pair"]) (caps:=[]) (by change BlkOk (ao gY).names N_parted _ _ _; exact ⟨rfl,by decide +kernel,by decide +kernel,by decide +kernel,by decide +kernel⟩) rfl (fT (aa 3)) dW (fun _ _ _ _=>cf (i:=0) (show (["pair"]:List Str).Nodup by decide +kernel) rfl (Or.inl rfl) (.inr rfl)) (fun _ _ _ _=>(vt (jw (aA C_is_nought (hr.mono (by decide)) rfl (ac (ai aw (aa 0) af (fun _ _=>rfl)) ag))))) (fun _ _ _ _=>(aa 0)))))))
theorem vH:FnScope N_gone_on ["branch","row"] (ao i8):=⟨rfl,rfl,rfl,by decide +kernel,rfl,by decide +kernel,by decide +kernel⟩
theorem vR {f:Addr} {fd:FuncData} {dV:Value} (F:FunV K "gone_on" "gone_on" i8 f fd dV) (T:Txt mg) (C_done:Cal P w K mg base "done" 5 cT []):FnOk P w K mg base dc 6 f fd ["branch","row"] (dG K cb):=
 b7 (k:=5) (b:=mm) F vH fun cdv A outer s H E hr=>(ar (aB (aN (ac (ai aw (aa 0) af (fun _ _=>rfl)) (ac (aA C_done (hr.mono (by decide)) rfl (ac (ai aw (aa 0) af (fun _ _=>rfl)) (ac (aa 1) ag))) ag)))))
theorem oh:FnScope jt ["branch","row","go"] (ao eN):=⟨rfl,rfl,rfl,by decide +kernel,rfl,by decide +kernel,by decide +kernel⟩
theorem ot {f:Addr} {fd:FuncData} {dV:Value} (F:FunV K "due_gone_on" "due_gone_on" eN f fd dV) (T:Txt mg) (V_gone_on:CalF P w K mg base "gone_on" 6 cb):FnOk P w K mg base dc 7 f fd ["branch","row","go"] (dG K bD):=
 b7 (k:=6) (b:=du) F oh fun cdv A outer s H E hr=>(aj (bo (aF (uW hr.units) (ai aw (aa 1) af (fun _ _=>rfl)) aH (aD _)) (ar (aB (hV 2 (k:=6) (je (by decide) V_gone_on lT) (hr.mono (by decide)) (ac (aa 0) (ac (aa 1) ag))))) aV) (ar (aB (gP (aF (bI hr.units) (ai aw (ai aw (aa 0) af (fun _ _=>rfl)) (ai aw (aa 1) af (fun _ _=>rfl)) (fun _ _=>rfl)) af (aD _)) (hV 2 (k:=6) (je (by decide) V_gone_on lT) (hr.mono (by decide)) (ac (aa 0) (ac (ai aw (aa 1) af (fun _ _=>rfl)) ag))) (aa 0)))))
theorem sc_gone_through:FnScope f7 ["rows","begun","part","go"] (ao cW):=⟨rfl,rfl,rfl,by decide +kernel,rfl,by decide +kernel,by decide +kernel⟩
theorem mW {f:Addr} {fd:FuncData} {dV:Value} (F:FunV K "gone_through" "gone_through" cW f fd dV) (T:Txt mg) (C_due_gone_on:Cal P w K mg base "due_gone_on" 7 bD []) (V_parted:CalF P w K mg base "parted" 2 d6):FnOk P w K mg base dc 8 f fd ["rows","begun","part","go"] (dG K b5):=
 b7 (k:=7) (b:=fY) F sc_gone_through fun cdv A outer s H E hr=>(aj (aI 4 sc_gone_through.nd (gO (ac (aa 1) ag))) (aj (jy PassesOwn.never rfl (fT (aa 0)) (im 5 sc_gone_through.nd) (ar (bo (aF (bI hr.units) (ai aw (aa 5) af (fun _ _=>rfl)) aH (aD _)) (aj (ls 6 sc_gone_through.nd ag) (aj (jy PassesOwn.never rfl (fT (aa 4)) (im 7 sc_gone_through.nd) (ar (qU 6 (hV 2 (k:=2) (je (by decide) V_parted lT) (hr.mono (by decide)) (ac (aa 7) (ac (ai aw (aa 5) af (fun _ _=>rfl)) ag)))))) (ar (nU 6 (aI 4 sc_gone_through.nd (aa 6)))))) (ar (qV 4 sc_gone_through.nd (vars:=["branch"]) (caps:=[(3,"go"),(5,"row")]) (by change BlkOk (ao cW).names f7 _ _ _; exact ⟨rfl,by decide +kernel,by decide +kernel,by decide +kernel,by decide +kernel⟩) rfl (fT (aa 4)) dW (fun _ _ _ _=>cf (i:=0) (show (["branch","go","row"]:List Str).Nodup by decide +kernel) rfl (Or.inl rfl) (.inr rfl)) (fun _ _ _ _=>(aA C_due_gone_on (hr.mono (by decide)) rfl (ac (aa 0) (ac (aa 2) (ac (aa 1) ag)))))))))) (ar (aB (aa 4)))))
theorem tH:FnScope pz ["circuit","place"] (ao eF):=⟨rfl,rfl,rfl,by decide +kernel,rfl,by decide +kernel,by decide +kernel⟩
theorem tZ {f:Addr} {fd:FuncData} {dV:Value} (F:FunV K "branches" "branches" eF f fd dV) (T:Txt mg) (C_gone_through:Cal P w K mg base "gone_through" 8 b5 []) (C_beginning:Cal P w K mg base "beginning" 1 cm []) (N_gone_on:Fnm K mg "gone_on") (N_parted:Fnm K mg "parted"):FnOk P w K mg base dc 9 f fd ["circuit","place"] (dG K b6):=
 b7 (k:=8) (b:=jM) F tH fun cdv A outer s H E hr=>(ar (aB (aA C_gone_through (hr.mono (by decide)) rfl (ac (ai aw (aa 0) af (fun _ _=>rfl)) (ac (aN (ac (aN ag) (ac (aA C_beginning (hr.mono (by decide)) rfl (ac (ai aw (aa 0) af (fun _ _=>rfl)) (ac (aa 1) ag))) ag))) (ac (kE N_parted rfl) (ac (kE N_gone_on rfl) ag)))))))
theorem rf:FnScope mT ["script","k"] (ao gw):=⟨rfl,rfl,rfl,by decide +kernel,rfl,by decide +kernel,by decide +kernel⟩
theorem rK {f:Addr} {fd:FuncData} {dV:Value} (F:FunV K "_law_cell" "_law_cell" gw f fd dV) (T:Txt mg):FnOk P w K mg base dc 1 f fd ["script","k"] (dG K bN):=
 b7 (k:=0) (b:=gH) F rf fun cdv A outer s H E hr=>(aj (bo (aF uX (aa 1) (be eW rfl T.len (by decide +kernel) (ac (aa 0) ag)) (aD _)) (ar (aB (ai aw (aa 0) (aa 1) (fun _ _=>rfl)))) aV) (ar (aB af)))
theorem sc__law_turn:FnScope mS ["cell","prime"] (ao gv):=⟨rfl,rfl,rfl,by decide +kernel,rfl,by decide +kernel,by decide +kernel⟩
theorem rJ {f:Addr} {fd:FuncData} {dV:Value} (F:FunV K "_law_turn" "_law_turn" gv f fd dV) (T:Txt mg):FnOk P w K mg base dc 1 f fd ["cell","prime"] (dG K bC):=
 b7 (k:=0) (b:=gG) F sc__law_turn fun cdv A outer s H E hr=>(aj (aI 2 sc__law_turn.nd (az cp (aa 0) af)) (ar (aB (az cp (az B8 (az dt (aa 2) af) (az dt (aa 2) af)) (aa 1)))))
theorem sc__law_row:FnScope pB ["cell","wires","looks","plain"] (ao ic):=⟨rfl,rfl,rfl,by decide +kernel,rfl,by decide +kernel,by decide +kernel⟩
theorem t6 {f:Addr} {fd:FuncData} {dV:Value} (F:FunV K "_law_row" "_law_row" ic f fd dV) (T:Txt mg) (C__law_turn:Cal P w K mg base "_law_turn" 1 bC []):FnOk P w K mg base dc 2 f fd ["cell","wires","looks","plain"] (dG K aL):=
 b7 (k:=1) (b:=b8) F sc__law_row fun cdv A outer s H E hr=>(aj (aI 4 sc__law_row.nd (az eV (aA C__law_turn (hr.mono (by decide)) rfl (ac (aa 0) (ac af ag))) af)) (aj (aI 5 sc__law_row.nd (az cp (az eV (aa 4) af) (aa 1))) (aj (aI 6 sc__law_row.nd (az cp (az dt (az dt (aa 5) af) (az cp (az eV (aa 4) af) (be (Cf rfl) rfl T.max (by decide +kernel) (ac af (ac (az dN (aa 1) af) ag))))) (aa 1))) (aj (bo (aF uX (az cp (aa 0) af) af (aD _)) (ar (aB (aN (ac aH (ac (aa 5) ag))))) aV) (aj (bo (aF uX (az cp (aa 0) af) af (aD _)) (ar (aB (aN (ac aH (ac (aa 5) (ac (az dt af (az cp (az eV (aa 4) af) af)) ag)))))) aV) (aj (bo (WV.tv (fO (zY uX uX af (az cp (aa 0) af) af) (fo (aF K6 (aa 1) af (aD _))))) (ar (aB (aN (ac (ai aw (gO (ac aH (ac aH (ac aH (ac aH (ac aH ag)))))) (az dN (az cp (aa 0) af) af) (fun _ _=>rfl)) (ac (aa 6) (ac (aa 5) ag)))))) aV) (aj (bo (WV.tv (nE (aF (bI hr.units) (az cp (aa 0) af) af (aD _)) (nD (jw (aa 3))))) (ar (aB (aN (ac aH (ac (aa 5) ag))))) aV) (aj (bo (WV.tv (fO (aF uX (aa 2) af (aD _)) (fo (WV.tv (nE (aF uX (az cp (aa 0) af) af (aD _)) (nD (aF (bI hr.units) (aa 2) af (aD _)))))))) (ar (aB (aN (ac aH (ac (aa 5) ag))))) aV) (aj (bo (aF (bI hr.units) (aa 2) af (aD _)) (ar (aB (aN (ac aH (ac (aa 5) ag))))) aV) (ar (aB (aN (ac aH (ac (az cp (az eV (aa 4) af) (aa 2)) (ac (ai aw (gO (ac (aN (ac aH (ac (aa 5) ag))) (ac (aN (ac aH (ac (aa 5) (ac af ag)))) ag))) (az cp (az eV (aa 4) af) af) (fun _ _=>rfl)) ag)))))))))))))))
theorem sc__law_often:FnScope kZ ["cells","wires"] (ao fE):=⟨rfl,rfl,rfl,by decide +kernel,rfl,by decide +kernel,by decide +kernel⟩
theorem pL {f:Addr} {fd:FuncData} {dV:Value} (F:FunV K "_law_often" "_law_often" fE f fd dV) (T:Txt mg) (C__law_row:Cal P w K mg base "_law_row" 2 aL []) (C__law_turn:Cal P w K mg base "_law_turn" 1 bC []):FnOk P w K mg base dc 3 f fd ["cells","wires"] (dG K cK):=
 b7 (k:=2) (b:=iA) F sc__law_often fun cdv A outer s H E hr=>(aj (ls 2 sc__law_often.nd ag) (aj (aI 3 sc__law_often.nd af) (aj (jy PassesOwn.never rfl (fT (aa 0)) (im 4 sc__law_often.nd) (aj (aI 5 sc__law_often.nd (aA C__law_row (hr.mono (by decide)) rfl (ac (aa 4) (ac (aa 1) (ac (aa 3) (ac kF ag)))))) (aj (aI 6 sc__law_often.nd (az eV (aA C__law_turn (hr.mono (by decide)) rfl (ac (az eV (aa 4) af) (ac af ag))) af)) (aj (bo (Dc 2 (WV.tv (fO (aF uX (az cp (aa 4) af) af (aD _)) (fO (aF (uW hr.units) (aa 2) (gO ag) (aD _)) (fo (aF (uW hr.units) (ai aw (ai aw (aa 2) (az cp (aa 6) (be eW rfl T.len (by decide +kernel) (ac (aa 2) ag))) (fun _ _=>rfl)) af (fun _ _=>rfl)) aH (aD _))))))) (aj (aI 5 sc__law_often.nd (Ia 2 (az cp (aa 6) (E6 2 rfl T.len)) (fun _ _=>rfl))) (ar (bo (WV.tv (fO (aF sf (ai aw (aa 5) af (fun _ _=>rfl)) (aN (ac aH (ac aH ag))) (by with_unfolding_all rfl)) (fo (aF (bI hr.units) (az cp (az eV (aa 6) af) af) af (aD _))))) (ar (aI 5 sc__law_often.nd (aN (ac (ai aw (aa 5) af (fun _ _=>rfl)) (ac (ai aw (aa 5) af (fun _ _=>rfl)) (ac (ai aw (aa 5) af (fun _ _=>rfl)) ag)))))) aV))) aV) (aj (bo (WV.tv (fO (aF (bI hr.units) (ai aw (aa 5) af (fun _ _=>rfl)) aH (aD _)) (fo (aF (bI hr.units) (aa 3) af (aD _))))) (ar (aI 5 sc__law_often.nd (aN (ac aH (ac (ai aw (aa 5) af (fun _ _=>rfl)) ag))))) aV) (aj (aI 3 sc__law_often.nd (az dt (aa 3) (db Lb rfl T.int (by decide +kernel) (ac (eJ (bI hr.units) (ai aw (aa 5) af (fun _ _=>rfl)) aH (aD _)) ag)))) (ar (lw 2 (aa 5))))))))) (ar (nU 2 (aB (aN (ac (aa 1) (ac (db gE rfl T.tuple (by decide +kernel) (ac (aa 2) ag)) ag)))))))))
theorem sc__law_put:FnScope pC ["circuit","cell"] (ao ie):=⟨rfl,rfl,rfl,by decide +kernel,rfl,by decide +kernel,by decide +kernel⟩
theorem t7 {f:Addr} {fd:FuncData} {dV:Value} (F:FunV K "_law_put" "_law_put" ie f fd dV) (T:Txt mg) (C__law_row:Cal P w K mg base "_law_row" 2 aL []):FnOk P w K mg base dc 3 f fd ["circuit","cell"] (dG K cJ):=
 b7 (k:=2) (b:=iz) F sc__law_put fun cdv A outer s H E hr=>(aj (aI 2 sc__law_put.nd (ai aw (aa 0) af (fun _ _=>rfl))) (aj (aI 3 sc__law_put.nd (aA C__law_row (hr.mono (by decide)) rfl (ac (aa 1) (ac (aa 2) (ac af (ac kF ag)))))) (aj (aI 4 sc__law_put.nd (aa 3)) (aj (bo (aF (bI hr.units) (ai aw (aa 3) af (fun _ _=>rfl)) aH (aD _)) (ar (aI 4 sc__law_put.nd (aN (ac aH (ac (ai aw (aa 3) af (fun _ _=>rfl)) (ac (az dN af (ai aw (aa 3) af (fun _ _=>rfl))) ag)))))) aV) (aj (aI 5 sc__law_put.nd (az cp (az eV (aa 1) af) (az dt (be eW rfl T.len (by decide +kernel) (ac (ai aw (aa 0) af (fun _ _=>rfl)) ag)) af))) (ar (aB (aN (ac (aa 2) (ac (az dt (az dt (hU (ai aw (aa 0) af (fun _ _=>rfl)) kj (ii (aa 5))) (aN (ac (aa 3) (ac (aa 4) ag)))) (hU (ai aw (aa 0) af (fun _ _=>rfl)) (ii (aa 5)) kj)) ag))))))))))
theorem sc__law_short:FnScope kY ["circuit","longer","place"] (ao fD):=⟨rfl,rfl,rfl,by decide +kernel,rfl,by decide +kernel,by decide +kernel⟩
theorem pK {f:Addr} {fd:FuncData} {dV:Value} (F:FunV K "_law_short" "_law_short" fD f fd dV) (T:Txt mg) (C_shortened:Cal P w K mg base "shortened" 15 cF []) (C_slides_of:Cal P w K mg base "slides_of" 12 aO []) (C_branches:Cal P w K mg base "branches" 9 b6 []):FnOk P w K mg base dc 16 f fd ["circuit","longer","place"] (dG K bE):=
 b7 (k:=15) (b:=fM) F sc__law_short fun cdv A outer s H E hr=>(aj (aI 3 sc__law_short.nd (ai aw (aA C_shortened (hr.mono (by decide)) rfl (ac (aa 1) ag)) af (fun _ _=>rfl))) (aj (bo (WV.tv (nE (aF (uW hr.units) (ai aw (aa 3) af (fun _ _=>rfl)) (ai aw (aa 0) af (fun _ _=>rfl)) (aD _)) (nE (aF K6 (be eW rfl T.len (by decide +kernel) (ac (ai aw (aa 3) af (fun _ _=>rfl)) ag)) (be eW rfl T.len (by decide +kernel) (ac (ai aw (aa 1) af (fun _ _=>rfl)) ag)) (aD _)) (nD (aF (uW hr.units) (aA C_slides_of (hr.mono (by decide)) rfl (ac (aa 3) ag)) (gO ag) (aD _)))))) (ar (aB kF)) aV) (aj (aI 4 sc__law_short.nd (E5 rfl T.list rfl T.range (az oZ af (ai aw (aa 0) af (fun _ _=>rfl))))) (aj (bo (aF (bI hr.units) (ai aw (aa 0) af (fun _ _=>rfl)) af (aD _)) (ar (aI 4 sc__law_short.nd (gO (ac af (ac (aa 2) (ac (az dN af (aa 2)) ag)))))) aV) (aj (jy PassesOwn.never rfl (fT (aa 4)) (im 5 sc__law_short.nd) (ar (bo (aF (uW hr.units) (aA C_branches (hr.mono (by decide)) rfl (ac (aa 3) (ac (aa 5) ag))) (aA C_branches (hr.mono (by decide)) rfl (ac (aa 0) (ac (aa 5) ag))) (aD _)) (ar (aB kF)) aV))) (ar (aB kF)))))))
theorem sc_law:FnScope Gu ["script"] (ao j7):=⟨rfl,rfl,rfl,by decide +kernel,rfl,by decide +kernel,by decide +kernel⟩
theorem Hi {f:Addr} {fd:FuncData} {dV:Value} (F:FunV K "law" "law" j7 f fd dV) (T:Txt mg) (C__law_often:Cal P w K mg base "_law_often" 3 cK []) (C__law_short:Cal P w K mg base "_law_short" 16 bE []) (C__law_put:Cal P w K mg base "_law_put" 3 cJ []) (C__law_cell:Cal P w K mg base "_law_cell" 1 bN []):FnOk P w K mg base dc 17 f fd ["script"] (dG K uN):=
 b7 (k:=16) (b:=Co) F sc_law fun cdv A outer s H E hr=>(aj (aI 1 sc_law.nd (aA C__law_often (hr.mono (by decide)) rfl (ac (hU (aa 0) (ii af) (ii af)) (ac (az dt af (az cp (aA C__law_cell (hr.mono (by decide)) rfl (ac (aa 0) (ac af ag))) af)) ag)))) (aj (aI 2 sc_law.nd (az cp (az eV (aA C__law_cell (hr.mono (by decide)) rfl (ac (aa 0) (ac af ag))) af) af)) (aj (bo (vt (jw (aA C__law_short (hr.mono (by decide)) rfl (ac (aa 1) (ac (aa 1) (ac (aa 2) ag)))))) (ar (aB kF)) aV) (ar (aB (aA C__law_short (hr.mono (by decide)) rfl (ac (aa 1) (ac (aA C__law_put (hr.mono (by decide)) rfl (ac (aa 1) (ac (aA C__law_cell (hr.mono (by decide)) rfl (ac (aa 0) (ac af ag))) ag))) (ac (aa 2) ag)))))))))
end
theorem o9:aK "twos_shared" eM ["joined","most"]:=fun _ _ _ _ _ _ us hl=>by obtain ⟨_,_,rfl⟩:=eS hl; exact rfl
theorem wM:aK "by_root" i9 ["a","b","c","d"]:=fun _ _ _ _ _ _ us hl=>by obtain ⟨_,_,_,_,rfl⟩:=El hl; exact rfl
theorem pQ:aK "parts_over" fA ["x","k"]:=fun _ _ _ _ _ _ us hl=>by obtain ⟨_,_,rfl⟩:=eS hl; exact rfl
theorem Fx:aK "plus" rh ["x","y"]:=fun _ _ _ _ _ _ us hl=>by obtain ⟨_,_,rfl⟩:=eS hl; exact rfl
theorem wO:aK "against" ja ["x"]:=fun _ _ _ _ _ _ us hl=>by obtain ⟨_,rfl⟩:=ur hl; exact rfl
theorem zG:aK "turned" j5 ["x","e"]:=fun _ _ _ _ _ _ us hl=>by obtain ⟨_,_,rfl⟩:=eS hl; exact rfl
theorem zK:aK "halved" j9 ["x"]:=fun _ _ _ _ _ _ us hl=>by obtain ⟨_,rfl⟩:=ur hl; exact rfl
theorem Cj:aK "worth" nh ["wires","wire"]:=fun _ _ _ _ _ _ us hl=>by obtain ⟨_,_,rfl⟩:=eS hl; exact rfl
theorem Ck:aK "swung" ni ["state","bit"]:=fun _ _ _ _ _ _ us hl=>by obtain ⟨_,_,rfl⟩:=eS hl; exact rfl
theorem m4:aK "turned_where" cV ["state","held","e"]:=fun _ _ _ _ _ _ us hl=>by obtain ⟨_,_,_,rfl⟩:=rN hl; exact rfl
theorem mi:aK "flipped_where" cN ["state","held","bit"]:=fun _ _ _ _ _ _ us hl=>by obtain ⟨_,_,_,rfl⟩:=rN hl; exact rfl
theorem sB:aK "exchanged" gu ["place","both"]:=fun _ _ _ _ _ _ us hl=>by obtain ⟨_,_,rfl⟩:=eS hl; exact rfl
theorem Fy:aK "done" oi ["state","row"]:=fun _ _ _ _ _ _ us hl=>by obtain ⟨_,_,rfl⟩:=eS hl; exact rfl
theorem u8:aK "wires_of" hZ ["row"]:=fun _ _ _ _ _ _ us hl=>by obtain ⟨_,rfl⟩:=ur hl; exact rfl
theorem sr:aK "undone_by" gj ["one","other"]:=fun _ _ _ _ _ _ us hl=>by obtain ⟨_,_,rfl⟩:=eS hl; exact rfl
theorem u9:aK "asks_for" h7 ["row","look","mark"]:=fun _ _ _ _ _ _ us hl=>by obtain ⟨_,_,_,rfl⟩:=rN hl; exact rfl
theorem Cl:aK "flips" nj ["row","wire"]:=fun _ _ _ _ _ _ us hl=>by obtain ⟨_,_,rfl⟩:=eS hl; exact rfl
theorem pS:aK "both_alike" fC ["one","other","wire"]:=fun _ _ _ _ _ _ us hl=>by obtain ⟨_,_,_,rfl⟩:=rN hl; exact rfl
theorem sA:aK "inner_row" gr ["row"]:=fun _ _ _ _ _ _ us hl=>by obtain ⟨_,rfl⟩:=ur hl; exact rfl
theorem mh:aK "steps_for_two" dy ["rows","p"]:=fun _ _ _ _ _ _ us hl=>by obtain ⟨_,_,rfl⟩:=eS hl; exact rfl
theorem su:aK "swung_row" gk ["row","wire"]:=fun _ _ _ _ _ _ us hl=>by obtain ⟨_,_,rfl⟩:=eS hl; exact rfl
theorem jL:aK "steps_for_three" ce ["rows","p"]:=fun _ _ _ _ _ _ us hl=>by obtain ⟨_,_,rfl⟩:=eS hl; exact rfl
theorem kN:aK "slides_of" gm ["circuit"]:=fun _ _ _ _ _ _ us hl=>by obtain ⟨_,rfl⟩:=ur hl; exact rfl
theorem zJ:aK "joined" j8 ["one","other"]:=fun _ _ _ _ _ _ us hl=>by obtain ⟨_,_,rfl⟩:=eS hl; exact rfl
theorem pR:aK "changed_by" fB ["rows","step"]:=fun _ _ _ _ _ _ us hl=>by obtain ⟨_,_,rfl⟩:=eS hl; exact rfl
theorem Fw:aK "slid" lC ["circuit","step"]:=fun _ _ _ _ _ _ us hl=>by obtain ⟨_,_,rfl⟩:=eS hl; exact rfl
theorem zI:aK "led_on" j6 ["thing","steps_for","behind_step"]:=fun _ _ _ _ _ _ us hl=>by obtain ⟨_,_,_,rfl⟩:=rN hl; exact rfl
theorem sv:aK "shortened" gn ["circuit"]:=fun _ _ _ _ _ _ us hl=>by obtain ⟨_,rfl⟩:=ur hl; exact rfl
theorem wK:aK "left_by" g6 ["state","bit","mark"]:=fun _ _ _ _ _ _ us hl=>by obtain ⟨_,_,_,rfl⟩:=rN hl; exact rfl
theorem sy:aK "is_nought" eQ ["state"]:=fun _ _ _ _ _ _ us hl=>by obtain ⟨_,rfl⟩:=ur hl; exact rfl
theorem zH:aK "parted" gY ["branch","wire"]:=fun _ _ _ _ _ _ us hl=>by obtain ⟨_,_,rfl⟩:=eS hl; exact rfl
theorem wL:aK "gone_on" i8 ["branch","row"]:=fun _ _ _ _ _ _ us hl=>by obtain ⟨_,_,rfl⟩:=eS hl; exact rfl
theorem pc:aK "due_gone_on" eN ["branch","row","go"]:=fun _ _ _ _ _ _ us hl=>by obtain ⟨_,_,_,rfl⟩:=rN hl; exact rfl
theorem m6:aK "gone_through" cW ["rows","begun","part","go"]:=fun _ _ _ _ _ _ us hl=>by obtain ⟨_,_,_,_,rfl⟩:=El hl; exact rfl
theorem sD:aK "_law_cell" gw ["script","k"]:=fun _ _ _ _ _ _ us hl=>by obtain ⟨_,_,rfl⟩:=eS hl; exact rfl
theorem sC:aK "_law_turn" gv ["cell","prime"]:=fun _ _ _ _ _ _ us hl=>by obtain ⟨_,_,rfl⟩:=eS hl; exact rfl
theorem va:aK "_law_row" ic ["cell","wires","looks","plain"]:=fun _ _ _ _ _ _ us hl=>by obtain ⟨_,_,_,_,rfl⟩:=El hl; exact rfl
theorem pU:aK "_law_often" fE ["cells","wires"]:=fun _ _ _ _ _ _ us hl=>by obtain ⟨_,_,rfl⟩:=eS hl; exact rfl
theorem vb:aK "_law_put" ie ["circuit","cell"]:=fun _ _ _ _ _ _ us hl=>by obtain ⟨_,_,rfl⟩:=eS hl; exact rfl
theorem pT:aK "_law_short" fD ["circuit","longer","place"]:=fun _ _ _ _ _ _ us hl=>by obtain ⟨_,_,_,rfl⟩:=rN hl; exact rfl
theorem Iz {l:PySem.W.OpenLaw} {w:World} {K:PySem.W.Frag} {h:Heap} {mg:Str->Option Value} {fa f2 f9 f21 f37 f44 t2 t9 t21 t37 f_NOUGHT f_ONE:Addr} {od2 an2 od9 an9 od21 an21 od37 an37 od44 an44 td2 td9 td21 td37:Option Addr} {sl2 sl9 sl21 sl37 sl44 ts2 ts9 ts21 ts37 ts_NOUGHT ts_ONE:Array (Option Value)} {oc2 kV2 dc2 pm2 cd2 ct2 oc9 kV9 dc9 pm9 cd9 ct9 oc21 kV21 dc21 pm21 cd21 ct21 oc37 kV37 dc37 pm37 cd37 ct37 oc44 kV44 dc44 pm44 cd44 ct44 tc2 tc9 tc21 tc37:Value} {tn2 tn9 tn21 tn37 tn_NOUGHT tn_ONE:Nat} {tk2_0 tk9_0 tk37_0 tk_NOUGHT_0 tk_NOUGHT_1 tk_NOUGHT_2 tk_NOUGHT_3 tk_NOUGHT_4 tk_ONE_0 tk_ONE_1 tk_ONE_2 tk_ONE_3 tk_ONE_4:Tok} (X:K.In h) (G:h.Ns mainGlobals mg) (hfa:mg "law" = some (.ref fa))
  (D0:DefIn K "twos_shared" "twos_shared" eM)
  (D1:DefIn K "by_root" "by_root" i9)
  (a2:PySem.W.nsIn K mainGlobals "number" = some (some (.ref f2))) (l2:K.lookup f2=some ⟨oc2,od2,.func (PySem.W.fnOf "number" "number" (cL gZ) (cn gZ) (ao gZ) (.ref t2) kV2 dc2 pm2 an2 cd2 ct2),sl2⟩) (c2:PySem.W.codeIn K cd2 "number" = true) (k2:PySem.W.keepIn K (.ref f2)=true)
  (d2:K.lookup t2=some ⟨tc2,td2,.seq #[.int 0 tk2_0] tn2,ts2⟩)
  (D3:DefIn K "parts_over" "parts_over" fA)
  (D4:DefIn K "plus" "plus" rh)
  (D5:DefIn K "against" "against" ja)
  (D6:DefIn K "turned" "turned" j5)
  (D7:DefIn K "halved" "halved" j9)
  (D8:DefIn K "worth" "worth" nh)
  (a9:PySem.W.nsIn K mainGlobals "beginning" = some (some (.ref f9))) (l9:K.lookup f9=some ⟨oc9,od9,.func (PySem.W.fnOf "beginning" "beginning" (cL cX) (cn cX) (ao cX) (.ref t9) kV9 dc9 pm9 an9 cd9 ct9),sl9⟩) (c9:PySem.W.codeIn K cd9 "beginning" = true) (k9:PySem.W.keepIn K (.ref f9)=true)
  (d9:K.lookup t9=some ⟨tc9,td9,.seq #[.int 0 tk9_0] tn9,ts9⟩)
  (D10:DefIn K "swung" "swung" ni)
  (D11:DefIn K "turned_where" "turned_where" cV)
  (D12:DefIn K "flipped_where" "flipped_where" cN)
  (D13:DefIn K "exchanged" "exchanged" gu)
  (D14:DefIn K "done" "done" oi)
  (D15:DefIn K "wires_of" "wires_of" hZ)
  (D16:DefIn K "undone_by" "undone_by" gj)
  (D17:DefIn K "asks_for" "asks_for" h7)
  (D18:DefIn K "flips" "flips" nj)
  (D19:DefIn K "both_alike" "both_alike" fC)
  (D20:DefIn K "inner_row" "inner_row" gr)
  (a21:PySem.W.nsIn K mainGlobals "lets_by" = some (some (.ref f21))) (l21:K.lookup f21=some ⟨oc21,od21,.func (PySem.W.fnOf "lets_by" "lets_by" (cL dH) (cn dH) (ao dH) (.ref t21) kV21 dc21 pm21 an21 cd21 ct21),sl21⟩) (c21:PySem.W.codeIn K cd21 "lets_by" = true) (k21:PySem.W.keepIn K (.ref f21)=true)
  (d21:K.lookup t21=some ⟨tc21,td21,.seq #[.none] tn21,ts21⟩)
  (D22:DefIn K "steps_for_two" "steps_for_two" dy)
  (D23:DefIn K "swung_row" "swung_row" gk)
  (D24:DefIn K "steps_for_three" "steps_for_three" ce)
  (D25:DefIn K "slides_of" "slides_of" gm)
  (D26:DefIn K "joined" "joined" j8)
  (D27:DefIn K "changed_by" "changed_by" fB)
  (D28:DefIn K "slid" "slid" lC)
  (D29:DefIn K "led_on" "led_on" j6)
  (D30:DefIn K "shortened" "shortened" gn)
  (D31:DefIn K "left_by" "left_by" g6)
  (D32:DefIn K "is_nought" "is_nought" eQ)
  (D33:DefIn K "parted" "parted" gY)
  (D34:DefIn K "gone_on" "gone_on" i8)
  (D35:DefIn K "due_gone_on" "due_gone_on" eN)
  (D36:DefIn K "gone_through" "gone_through" cW)
  (a37:PySem.W.nsIn K mainGlobals "branches" = some (some (.ref f37))) (l37:K.lookup f37=some ⟨oc37,od37,.func (PySem.W.fnOf "branches" "branches" (cL eF) (cn eF) (ao eF) (.ref t37) kV37 dc37 pm37 an37 cd37 ct37),sl37⟩) (c37:PySem.W.codeIn K cd37 "branches" = true) (k37:PySem.W.keepIn K (.ref f37)=true)
  (d37:K.lookup t37=some ⟨tc37,td37,.seq #[.int 0 tk37_0] tn37,ts37⟩)
  (D38:DefIn K "_law_cell" "_law_cell" gw)
  (D39:DefIn K "_law_turn" "_law_turn" gv)
  (D40:DefIn K "_law_row" "_law_row" ic)
  (D41:DefIn K "_law_often" "_law_often" fE)
  (D42:DefIn K "_law_put" "_law_put" ie)
  (D43:DefIn K "_law_short" "_law_short" fD)
  (a44:PySem.W.nsIn K mainGlobals "law" = some (some (.ref f44))) (l44:K.lookup f44=some ⟨oc44,od44,.func (PySem.W.fnOf "law" "law" (cL j7) (cn j7) (ao j7) .none kV44 dc44 pm44 an44 cd44 ct44),sl44⟩) (c44:PySem.W.codeIn K cd44 "law" = true) (k44:PySem.W.keepIn K (.ref f44)=true)
  (z_min:PySem.W.nsIn K mainGlobals "min" = some none)
  (z_max:PySem.W.nsIn K mainGlobals "max" = some none)
  (z_tuple:PySem.W.nsIn K mainGlobals "tuple" = some none)
  (z_range:PySem.W.nsIn K mainGlobals "range" = some none)
  (z_len:PySem.W.nsIn K mainGlobals "len" = some none)
  (z_all:PySem.W.nsIn K mainGlobals "all" = some none)
  (z_sorted:PySem.W.nsIn K mainGlobals "sorted" = some none)
  (z_int:PySem.W.nsIn K mainGlobals "int" = some none)
  (z_list:PySem.W.nsIn K mainGlobals "list" = some none)
  (a_NOUGHT:PySem.W.nsIn K mainGlobals "NOUGHT" = some (some (.ref f_NOUGHT))) (d_NOUGHT:K.lookup f_NOUGHT=some ⟨.type "tuple",none,.seq #[.int 0 tk_NOUGHT_0,.int 0 tk_NOUGHT_1,.int 0 tk_NOUGHT_2,.int 0 tk_NOUGHT_3,.int 0 tk_NOUGHT_4] tn_NOUGHT,ts_NOUGHT⟩)
  (a_ONE:PySem.W.nsIn K mainGlobals "ONE" = some (some (.ref f_ONE))) (d_ONE:K.lookup f_ONE=some ⟨.type "tuple",none,.seq #[.int 1 tk_ONE_0,.int 0 tk_ONE_1,.int 0 tk_ONE_2,.int 0 tk_ONE_3,.int 0 tk_ONE_4] tn_ONE,ts_ONE⟩)
   :∃ fd:FuncData,(∀ (s:Shared) (v:Value),BindsTo s fd ⟨[v],[]⟩ [("script",v)])/\∀ base:Heap,K.In base->base.Ns mainGlobals mg->FnOk l.prog w K mg base dc 17 fa fd ["script"] (xi K):=by
 have e:=hfa.symm.trans (PySem.W.mg_of X G a44)
 cases e
 have T:Txt mg:=⟨PySem.W.mg_none_of X G z_min,PySem.W.mg_none_of X G z_max,PySem.W.mg_none_of X G z_tuple,PySem.W.mg_none_of X G z_range,PySem.W.mg_none_of X G z_len,PySem.W.mg_none_of X G z_all,PySem.W.mg_none_of X G z_sorted,PySem.W.mg_none_of X G z_int,PySem.W.mg_none_of X G z_list⟩
 have T_NOUGHT:TopV K mg "NOUGHT" (.tuple [.int 0,.int 0,.int 0,.int 0,.int 0]):=TopV.tup (xs:=[.int 0,.int 0,.int 0,.int 0,.int 0]) (PySem.W.mg_of X G a_NOUGHT) d_NOUGHT (by simp [sizeLine]) (.cons ⟨_,rfl⟩ (.cons ⟨_,rfl⟩ (.cons ⟨_,rfl⟩ (.cons ⟨_,rfl⟩ (.cons ⟨_,rfl⟩ (.nil)))))) fun _=>.cons (.int _) (.cons (.int _) (.cons (.int _) (.cons (.int _) (.cons (.int _) (.nil)))))
 have T_ONE:TopV K mg "ONE" (.tuple [.int 1,.int 0,.int 0,.int 0,.int 0]):=TopV.tup (xs:=[.int 1,.int 0,.int 0,.int 0,.int 0]) (PySem.W.mg_of X G a_ONE) d_ONE (by simp [sizeLine]) (.cons ⟨_,rfl⟩ (.cons ⟨_,rfl⟩ (.cons ⟨_,rfl⟩ (.cons ⟨_,rfl⟩ (.cons ⟨_,rfl⟩ (.nil)))))) fun _=>.cons (.int _) (.cons (.int _) (.cons (.int _) (.cons (.int _) (.cons (.int _) (.nil)))))
 have F2:=jf (st:=gZ) l2 c2 k2
 have F9:=jf (st:=cX) l9 c9 k9
 have F21:=jf (st:=dH) l21 c21 k21
 have F37:=jf (st:=eF) l37 c37 k37
 have F44:=jf (st:=j7) l44 c44 k44
 have N_slides_of:Fnm K mg "slides_of":=D25.fnm X G
 have N_slid:Fnm K mg "slid":=D28.fnm X G
 have N_parted:Fnm K mg "parted":=D33.fnm X G
 have N_gone_on:Fnm K mg "gone_on":=D34.fnm X G
 refine ⟨PySem.W.fnOf "law" "law" (cL j7) (cn j7) (ao j7) .none kV44 dc44 pm44 an44 cd44 ct44,fun s v=>.of_eq rfl,fun base _ _=>?_⟩
 have C_twos_shared:Cal l.prog w K mg base "twos_shared" 1 bL []:=D0.cal X G o9 fun _ _ F=>om F T
 have C_by_root:Cal l.prog w K mg base "by_root" 1 da []:=D1.cal X G wM fun _ _ F=>vS F T
 have O2:FnOk l.prog w K mg base dc 2 _ _ _ (dG K d7):=yP F2 T C_twos_shared C_by_root
 have C_number:Cal l.prog w K mg base "number" 2 d7 []:=⟨⟨_,_,_,[],[],O2,PySem.W.mg_of X G a2,k2,F2.bindsK d2 rfl (ps:=["a","b","c","d","k"]) 5 rfl (fun _ _ _ _ _ _ us hl=>by obtain ⟨_,_,_,_,_,rfl⟩:=MH hl; exact rfl),.nil,fun _=>.nil⟩⟩
 have C_parts_over:Cal l.prog w K mg base "parts_over" 2 cj []:=D3.cal X G pQ fun _ _ F=>pH F T C_by_root
 have C_plus:Cal l.prog w K mg base "plus" 3 gL []:=D4.cal X G Fx fun _ _ F=>DZ F T C_parts_over C_number
 have C_against:Cal l.prog w K mg base "against" 1 dL []:=D5.cal X G wO fun _ _ F=>vT F T
 have C_turned:Cal l.prog w K mg base "turned" 1 dn []:=D6.cal X G zG fun _ _ F=>yN F T
 have C_halved:Cal l.prog w K mg base "halved" 3 dq []:=D7.cal X G zK fun _ _ F=>yS F T C_number
 have C_worth:Cal l.prog w K mg base "worth" 1 dz []:=D8.cal X G Cj fun _ _ F=>AW F T
 have O9:FnOk l.prog w K mg base dc 1 _ _ _ (dG K cm):=rH F9 T T_NOUGHT T_ONE
 have C_beginning:Cal l.prog w K mg base "beginning" 1 cm []:=⟨⟨_,_,_,[],[],O9,PySem.W.mg_of X G a9,k9,F9.bindsK d9 rfl (ps:=["wires","place"]) 2 rfl (fun _ _ _ _ _ _ us hl=>by obtain ⟨_,_,rfl⟩:=eS hl; exact rfl),.nil,fun _=>.nil⟩⟩
 have C_swung:Cal l.prog w K mg base "swung" 4 gA []:=D10.cal X G Ck fun _ _ F=>AX F T C_halved C_plus C_against
 have C_turned_where:Cal l.prog w K mg base "turned_where" 2 bz []:=D11.cal X G m4 fun _ _ F=>mV F T C_turned
 have C_flipped_where:Cal l.prog w K mg base "flipped_where" 1 bn []:=D12.cal X G mi fun _ _ F=>lM F T
 have C_exchanged:Cal l.prog w K mg base "exchanged" 1 cl []:=D13.cal X G sB fun _ _ F=>rG F T
 have C_done:Cal l.prog w K mg base "done" 5 cT []:=D14.cal X G Fy fun _ _ F=>D9 F T C_worth C_swung C_turned_where C_flipped_where C_exchanged
 have C_wires_of:Cal l.prog w K mg base "wires_of" 9 bm []:=D15.calR X G u8 fun _ _ F m k b=>km F T m k b 8
 have C_undone_by:Cal l.prog w K mg base "undone_by" 10 bM []:=D16.cal X G sr fun _ _ F=>rA F T C_wires_of
 have C_asks_for:Cal l.prog w K mg base "asks_for" 1 bS []:=D17.cal X G u9 fun _ _ F=>t0 F T
 have C_flips:Cal l.prog w K mg base "flips" 1 ck []:=D18.cal X G Cl fun _ _ F=>AY F T
 have C_both_alike:Cal l.prog w K mg base "both_alike" 2 bT []:=D19.cal X G pS fun _ _ F=>pJ F T C_flips
 have C_inner_row:Cal l.prog w K mg base "inner_row" 1 bG []:=D20.cal X G sA fun _ _ F=>rF F T
 have O21:FnOk l.prog w K mg base dc 10 _ _ _ (dG K cS):=vP F21 T C_asks_for C_wires_of C_both_alike C_inner_row
 have C_lets_by1:Cal l.prog w K mg base "lets_by" 10 cS [.none]:=⟨⟨_,_,_,[.none],[.non],O21,PySem.W.mg_of X G a21,k21,F21.bindsK d21 rfl (ps:=["one","other","mark"]) 2 rfl (fun _ _ _ _ _ _ us hl=>by obtain ⟨_,_,rfl⟩:=eS hl; exact rfl),.cons (by first | exact ⟨_,rfl⟩ | rfl) (.nil),fun _=>.cons (by constructor) (.nil)⟩⟩
 have C_steps_for_two:Cal l.prog w K mg base "steps_for_two" 11 bA []:=D22.cal X G mh fun _ _ F=>lL F T C_undone_by C_lets_by1
 have C_swung_row:Cal l.prog w K mg base "swung_row" 9 cE []:=D23.calR X G su fun _ _ F m k b=>jn F T m k b 8
 have C_steps_for_three:Cal l.prog w K mg base "steps_for_three" 10 aJ []:=D24.cal X G jL fun _ _ F=>jF F T C_swung_row C_wires_of
 have V_slides_of:CalF l.prog w K mg base "slides_of" 12 aO:=D25.calF X G kN fun _ _ F=>kn F T C_steps_for_two C_steps_for_three
 have C_slides_of:Cal l.prog w K mg base "slides_of" 12 aO []:=D25.cal X G kN fun _ _ F=>kn F T C_steps_for_two C_steps_for_three
 have C_joined:Cal l.prog w K mg base "joined" 1 d8 []:=D26.cal X G zJ fun _ _ F=>yR F T
 have C_changed_by:Cal l.prog w K mg base "changed_by" 10 bB []:=D27.cal X G pR fun _ _ F=>pI F T C_swung_row C_joined
 have V_slid:CalF l.prog w K mg base "slid" 13 io:=D28.calF X G Fw fun _ _ F=>DY F T C_changed_by C_slides_of
 have C_led_on:Cal l.prog w K mg base "led_on" 14 hJ []:=D29.cal X G zI fun _ _ F=>yQ F T V_slides_of V_slid
 have C_shortened:Cal l.prog w K mg base "shortened" 15 cF []:=D30.cal X G sv fun _ _ F=>rB F T C_led_on N_slid N_slides_of
 have C_left_by:Cal l.prog w K mg base "left_by" 1 cC []:=D31.cal X G wK fun _ _ F=>vQ F T T_NOUGHT
 have C_is_nought:Cal l.prog w K mg base "is_nought" 1 dJ []:=D32.cal X G sy fun _ _ F=>rE F T T_NOUGHT
 have V_parted:CalF l.prog w K mg base "parted" 2 d6:=D33.calF X G zH fun _ _ F=>yO F T C_worth C_left_by C_is_nought
 have V_gone_on:CalF l.prog w K mg base "gone_on" 6 cb:=D34.calF X G wL fun _ _ F=>vR F T C_done
 have C_due_gone_on:Cal l.prog w K mg base "due_gone_on" 7 bD []:=D35.cal X G pc fun _ _ F=>ot F T V_gone_on
 have C_gone_through:Cal l.prog w K mg base "gone_through" 8 b5 []:=D36.cal X G m6 fun _ _ F=>mW F T C_due_gone_on V_parted
 have O37:FnOk l.prog w K mg base dc 9 _ _ _ (dG K b6):=tZ F37 T C_gone_through C_beginning N_gone_on N_parted
 have C_branches:Cal l.prog w K mg base "branches" 9 b6 []:=⟨⟨_,_,_,[],[],O37,PySem.W.mg_of X G a37,k37,F37.bindsK d37 rfl (ps:=["circuit","place"]) 2 rfl (fun _ _ _ _ _ _ us hl=>by obtain ⟨_,_,rfl⟩:=eS hl; exact rfl),.nil,fun _=>.nil⟩⟩
 have C__law_cell:Cal l.prog w K mg base "_law_cell" 1 bN []:=D38.cal X G sD fun _ _ F=>rK F T
 have C__law_turn:Cal l.prog w K mg base "_law_turn" 1 bC []:=D39.cal X G sC fun _ _ F=>rJ F T
 have C__law_row:Cal l.prog w K mg base "_law_row" 2 aL []:=D40.cal X G va fun _ _ F=>t6 F T C__law_turn
 have C__law_often:Cal l.prog w K mg base "_law_often" 3 cK []:=D41.cal X G pU fun _ _ F=>pL F T C__law_row C__law_turn
 have C__law_put:Cal l.prog w K mg base "_law_put" 3 cJ []:=D42.cal X G vb fun _ _ F=>t7 F T C__law_row
 have C__law_short:Cal l.prog w K mg base "_law_short" 16 bE []:=D43.cal X G pT fun _ _ F=>pK F T C_shortened C_slides_of C_branches
 have O44:FnOk l.prog w K mg base dc 17 _ _ _ (dG K uN):=Hi F44 T C__law_often C__law_short C__law_put C__law_cell
 exact Kr O44 fun ns hl=>law_true ns hl
end GN
open PySem PySem.W PyProof.Rows
set_option maxRecDepth 1000000 in
set_option maxHeartbeats 0 in
theorem PySem.Challenge.cw_wavewires_k67_whole_short_circuits_holds : PySem.Challenge.rw_wavewires_k67_whole_short_circuits.Holds := by
  refine topT ?_
  k_fill
  refine VL.Je (k := 17) (l := PySem.Challenge.rw_wavewires_k67_whole_short_circuits) rfl ⟨rfl, by decide, by decide⟩ rfl (fun w h Y => PySem.W.kIn_of Y) ?F
  case F =>
    intro w mg fa h KX G hmg
    refine' GN.Iz KX G hmg (VL.DefIn.mk ?a0 ?l0 ?c0 ?k0) (VL.DefIn.mk ?a1 ?l1 ?c1 ?k1) ?a2 ?l2 ?c2 ?k2 ?d2 (VL.DefIn.mk ?a3 ?l3 ?c3 ?k3) (VL.DefIn.mk ?a4 ?l4 ?c4 ?k4) (VL.DefIn.mk ?a5 ?l5 ?c5 ?k5) (VL.DefIn.mk ?a6 ?l6 ?c6 ?k6) (VL.DefIn.mk ?a7 ?l7 ?c7 ?k7) (VL.DefIn.mk ?a8 ?l8 ?c8 ?k8) ?a9 ?l9 ?c9 ?k9 ?d9 (VL.DefIn.mk ?a10 ?l10 ?c10 ?k10) (VL.DefIn.mk ?a11 ?l11 ?c11 ?k11) (VL.DefIn.mk ?a12 ?l12 ?c12 ?k12) (VL.DefIn.mk ?a13 ?l13 ?c13 ?k13) (VL.DefIn.mk ?a14 ?l14 ?c14 ?k14) (VL.DefIn.mk ?a15 ?l15 ?c15 ?k15) (VL.DefIn.mk ?a16 ?l16 ?c16 ?k16) (VL.DefIn.mk ?a17 ?l17 ?c17 ?k17) (VL.DefIn.mk ?a18 ?l18 ?c18 ?k18) (VL.DefIn.mk ?a19 ?l19 ?c19 ?k19) (VL.DefIn.mk ?a20 ?l20 ?c20 ?k20) ?a21 ?l21 ?c21 ?k21 ?d21 (VL.DefIn.mk ?a22 ?l22 ?c22 ?k22) (VL.DefIn.mk ?a23 ?l23 ?c23 ?k23) (VL.DefIn.mk ?a24 ?l24 ?c24 ?k24) (VL.DefIn.mk ?a25 ?l25 ?c25 ?k25) (VL.DefIn.mk ?a26 ?l26 ?c26 ?k26) (VL.DefIn.mk ?a27 ?l27 ?c27 ?k27) (VL.DefIn.mk ?a28 ?l28 ?c28 ?k28) (VL.DefIn.mk ?a29 ?l29 ?c29 ?k29) (VL.DefIn.mk ?a30 ?l30 ?c30 ?k30) (VL.DefIn.mk ?a31 ?l31 ?c31 ?k31) (VL.DefIn.mk ?a32 ?l32 ?c32 ?k32) (VL.DefIn.mk ?a33 ?l33 ?c33 ?k33) (VL.DefIn.mk ?a34 ?l34 ?c34 ?k34) (VL.DefIn.mk ?a35 ?l35 ?c35 ?k35) (VL.DefIn.mk ?a36 ?l36 ?c36 ?k36) ?a37 ?l37 ?c37 ?k37 ?d37 (VL.DefIn.mk ?a38 ?l38 ?c38 ?k38) (VL.DefIn.mk ?a39 ?l39 ?c39 ?k39) (VL.DefIn.mk ?a40 ?l40 ?c40 ?k40) (VL.DefIn.mk ?a41 ?l41 ?c41 ?k41) (VL.DefIn.mk ?a42 ?l42 ?c42 ?k42) (VL.DefIn.mk ?a43 ?l43 ?c43 ?k43) ?a44 ?l44 ?c44 ?k44 ?z_min ?z_max ?z_tuple ?z_range ?z_len ?z_all ?z_sorted ?z_int ?z_list ?a_NOUGHT ?d_NOUGHT ?a_ONE ?d_ONE
    (case a0 => k_is)
    (case l0 => k_is)
    (case c0 => k_is)
    (case k0 => k_is)
    (case a1 => k_is)
    (case l1 => k_is)
    (case c1 => k_is)
    (case k1 => k_is)
    (case a2 => k_is)
    (case l2 => k_is)
    (case c2 => k_is)
    (case k2 => k_is)
    (case d2 => k_is)
    (case a3 => k_is)
    (case l3 => k_is)
    (case c3 => k_is)
    (case k3 => k_is)
    (case a4 => k_is)
    (case l4 => k_is)
    (case c4 => k_is)
    (case k4 => k_is)
    (case a5 => k_is)
    (case l5 => k_is)
    (case c5 => k_is)
    (case k5 => k_is)
    (case a6 => k_is)
    (case l6 => k_is)
    (case c6 => k_is)
    (case k6 => k_is)
    (case a7 => k_is)
    (case l7 => k_is)
    (case c7 => k_is)
    (case k7 => k_is)
    (case a8 => k_is)
    (case l8 => k_is)
    (case c8 => k_is)
    (case k8 => k_is)
    (case a9 => k_is)
    (case l9 => k_is)
    (case c9 => k_is)
    (case k9 => k_is)
    (case d9 => k_is)
    (case a10 => k_is)
    (case l10 => k_is)
    (case c10 => k_is)
    (case k10 => k_is)
    (case a11 => k_is)
    (case l11 => k_is)
    (case c11 => k_is)
    (case k11 => k_is)
    (case a12 => k_is)
    (case l12 => k_is)
    (case c12 => k_is)
    (case k12 => k_is)
    (case a13 => k_is)
    (case l13 => k_is)
    (case c13 => k_is)
    (case k13 => k_is)
    (case a14 => k_is)
    (case l14 => k_is)
    (case c14 => k_is)
    (case k14 => k_is)
    (case a15 => k_is)
    (case l15 => k_is)
    (case c15 => k_is)
    (case k15 => k_is)
    (case a16 => k_is)
    (case l16 => k_is)
    (case c16 => k_is)
    (case k16 => k_is)
    (case a17 => k_is)
    (case l17 => k_is)
    (case c17 => k_is)
    (case k17 => k_is)
    (case a18 => k_is)
    (case l18 => k_is)
    (case c18 => k_is)
    (case k18 => k_is)
    (case a19 => k_is)
    (case l19 => k_is)
    (case c19 => k_is)
    (case k19 => k_is)
    (case a20 => k_is)
    (case l20 => k_is)
    (case c20 => k_is)
    (case k20 => k_is)
    (case a21 => k_is)
    (case l21 => k_is)
    (case c21 => k_is)
    (case k21 => k_is)
    (case d21 => k_is)
    (case a22 => k_is)
    (case l22 => k_is)
    (case c22 => k_is)
    (case k22 => k_is)
    (case a23 => k_is)
    (case l23 => k_is)
    (case c23 => k_is)
    (case k23 => k_is)
    (case a24 => k_is)
    (case l24 => k_is)
    (case c24 => k_is)
    (case k24 => k_is)
    (case a25 => k_is)
    (case l25 => k_is)
    (case c25 => k_is)
    (case k25 => k_is)
    (case a26 => k_is)
    (case l26 => k_is)
    (case c26 => k_is)
    (case k26 => k_is)
    (case a27 => k_is)
    (case l27 => k_is)
    (case c27 => k_is)
    (case k27 => k_is)
    (case a28 => k_is)
    (case l28 => k_is)
    (case c28 => k_is)
    (case k28 => k_is)
    (case a29 => k_is)
    (case l29 => k_is)
    (case c29 => k_is)
    (case k29 => k_is)
    (case a30 => k_is)
    (case l30 => k_is)
    (case c30 => k_is)
    (case k30 => k_is)
    (case a31 => k_is)
    (case l31 => k_is)
    (case c31 => k_is)
    (case k31 => k_is)
    (case a32 => k_is)
    (case l32 => k_is)
    (case c32 => k_is)
    (case k32 => k_is)
    (case a33 => k_is)
    (case l33 => k_is)
    (case c33 => k_is)
    (case k33 => k_is)
    (case a34 => k_is)
    (case l34 => k_is)
    (case c34 => k_is)
    (case k34 => k_is)
    (case a35 => k_is)
    (case l35 => k_is)
    (case c35 => k_is)
    (case k35 => k_is)
    (case a36 => k_is)
    (case l36 => k_is)
    (case c36 => k_is)
    (case k36 => k_is)
    (case a37 => k_is)
    (case l37 => k_is)
    (case c37 => k_is)
    (case k37 => k_is)
    (case d37 => k_is)
    (case a38 => k_is)
    (case l38 => k_is)
    (case c38 => k_is)
    (case k38 => k_is)
    (case a39 => k_is)
    (case l39 => k_is)
    (case c39 => k_is)
    (case k39 => k_is)
    (case a40 => k_is)
    (case l40 => k_is)
    (case c40 => k_is)
    (case k40 => k_is)
    (case a41 => k_is)
    (case l41 => k_is)
    (case c41 => k_is)
    (case k41 => k_is)
    (case a42 => k_is)
    (case l42 => k_is)
    (case c42 => k_is)
    (case k42 => k_is)
    (case a43 => k_is)
    (case l43 => k_is)
    (case c43 => k_is)
    (case k43 => k_is)
    (case a44 => k_is)
    (case l44 => k_is)
    (case c44 => k_is)
    (case k44 => k_is)
    (case z_min => k_is)
    (case z_max => k_is)
    (case z_tuple => k_is)
    (case z_range => k_is)
    (case z_len => k_is)
    (case z_all => k_is)
    (case z_sorted => k_is)
    (case z_int => k_is)
    (case z_list => k_is)
    (case a_NOUGHT => k_is)
    (case d_NOUGHT => k_is)
    (case a_ONE => k_is)
    (case d_ONE => k_is)

end