import PyProof.Rows.All
import KE.KIsAll
import KE.KItem
import KE.LcSums
import KE.KBits
import KE.RegKIsAll
import PyProof.EqAt
import PyProof.EqKinds
import PyProof.TupleCall
import Lean
import PySem.Challenge.RW_wavewires_k51_whole_runs_by_tables
section TopS
set_option Elab.async false
set_option linter.all false
open PySem PySem.W PyProof.Rows
noncomputable def viewQ : Program := view PySem.Challenge.rw_wavewires_k51_whole_runs_by_tables.prog [1, 2, 3, 5, 6, 7, 8, 11, 12, 13, 14, 15, 18, 19, 20, 21, 23, 24, 26, 27, 28, 29, 30, 31, 33, 34, 35, 36, 37, 38, 42, 44, 45, 46, 47, 48, 49, 50, 51, 54, 55, 56, 57, 58, 59, 60, 61, 62, 64, 65, 68, 69, 70, 71, 72, 73, 74, 75, 76, 77, 78, 79, 80]
local macro_rules
  | `(tactic| o_head $H) => do
    let hw := Lean.mkIdent `hw
    let hc := Lean.mkIdent `hc
    `(tactic| refine holds_open (q := viewQ) (loose := ["number", "parts_over_ring", "share", "parts_over_shares", "beginning", "branches", "mark_shares", "table_of", "table_branches"]) (Xt := fun s => xlAt viewQ [] s && recOk (RowW.records (OpenRow.toRowW PySem.Challenge.rw_wavewires_k51_whole_runs_by_tables.row)) s) (XP := XL viewQ []) (Yf := Hook.obs $H) (Ya := Hook.val $H) (YP := Hook.says $H) (N := 6000) (fun w => by (unfold openEnds fencedOpening topFrom; rw [Fast.te10274390034422433532, Fast.te14082659384304107361, Fast.te1435165496053646825, Fast.te14289696077712309145, Fast.te14364793385576792824, Fast.te4187177175401517315, Fast.te5923862056798008813]; kernel_rfl)) (Hook.of $H) (Hook.keeps $H) (fun s e => xl_of s (Bool.and_eq_true_iff.mp e).1) XL.keeps (by rfl) (by rfl) (by rfl) (fun s e => recFacts_of (Bool.and_eq_true_iff.mp e).2) (by rfl) (by first | assumption | decide +kernel) (by decide +kernel) ⟨rfl, rfl, rfl, rfl, rfl, by decide +kernel⟩ ?$hw ?$hc)
set_option maxRecDepth 1000000 in
set_option maxHeartbeats 0 in
open_top topT for PySem.Challenge.rw_wavewires_k51_whole_runs_by_tables
end TopS
set_option Elab.async false
set_option linter.all false
set_option maxRecDepth 100000
namespace L2
open PySem PySem.Spec PyProof.Rows
noncomputable abbrev eM:=Sum Int Str
noncomputable def sP:eM->Value->Bool
 | .inl k,v=>Value.isInt k v
 | .inr x,v=>Value.isStrOf x v
noncomputable def M5 (w:World):eM->Int
 | .inl k=>hashInt k
 | .inr x=>hashStr w x
theorem cX:∀ {k:eM} {v:Value},sP k v=true->(∃ i t,k=Sum.inl i/\v=Value.int i t)\/(∃ x t,k=Sum.inr x/\v=Value.str x t)
 | .inl i,v,h=>by
  obtain ⟨t,e⟩:=Value.isInt_shape (k:=i) (v:=v) h
  exact .inl ⟨i,t,rfl,e⟩
 | .inr x,v,h=>by
  obtain ⟨t,e⟩:=Value.isStrOf_shape (x:=x) (v:=v) h
  exact .inr ⟨x,t,rfl,e⟩
theorem Al (i:Int) (t:Tok):sP (.inl i) (.int i t)=true:=by simp [sP,Value.isInt]
theorem Ak (x:Str) (t:Tok):sP (.inr x) (.str x t)=true:=by simp [sP,Value.isStrOf]
theorem I0 (a b:Int):decide ((Sum.inl a:eM)=Sum.inl b)=(a==b):=by
 by_cases e:a=b
 ·subst e; simp
 ·have h:¬ (Sum.inl a:eM)=Sum.inl b:=fun q=>e (Sum.inl.inj q)
  rw [decide_eq_false h]
  exact (beq_eq_false_iff_ne.mpr e).symm
theorem IX (a b:Str):decide ((Sum.inr a:eM)=Sum.inr b)=decide (a=b):=by
 by_cases e:a=b
 ·subst e; simp
 ·have h:¬ (Sum.inr a:eM)=Sum.inr b:=fun q=>e (Sum.inr.inj q)
  rw [decide_eq_false h,decide_eq_false e]
theorem IZ (a:Int) (b:Str):decide ((Sum.inl a:eM)=Sum.inr b)=false:=decide_eq_false (fun q=>nomatch q)
theorem IY (a:Str) (b:Int):decide ((Sum.inr a:eM)=Sum.inl b)=false:=decide_eq_false (fun q=>nomatch q)
noncomputable def gv (prog:Program) (w:World):PySem.KeyKind prog w eM where
 is:=sP
 hash:=M5 w
 inj:=fun v a b ha hb=>by
  rcases cX ha with ⟨i,t,rfl,rfl⟩ | ⟨x,t,rfl,rfl⟩
  ·rcases cX hb with ⟨j,u,rfl,e⟩ | ⟨y,u,rfl,e⟩
   ·injection e with e1 _; rw [e1]
   ·exact nomatch e
  ·rcases cX hb with ⟨j,u,rfl,e⟩ | ⟨y,u,rfl,e⟩
   ·exact nomatch e
   ·injection e with e1 _; rw [e1]
 byValue:=fun k v h=>by
  rcases cX h with ⟨i,t,rfl,rfl⟩ | ⟨x,t,rfl,rfl⟩ <;> rfl
 pyHash:=fun hv h=>by
  rcases cX hv with ⟨i,t,rfl,rfl⟩ | ⟨x,t,rfl,rfl⟩
  ·exact wpAny_pyHash_int h
  ·exact wpAny_pyHash_str h
 eqBool:=fun hu hv h=>by
  rcases cX hu with ⟨i,t,rfl,rfl⟩ | ⟨x,t,rfl,rfl⟩
  ·rcases cX hv with ⟨j,u,rfl,rfl⟩ | ⟨y,u,rfl,rfl⟩
   ·rw [I0] at h; exact wpAny_eqBool_int h
   ·rw [IZ] at h; exact SeqAt.EqAt.int_str i t y u _ _ _ _ h
  ·rcases cX hv with ⟨j,u,rfl,rfl⟩ | ⟨y,u,rfl,rfl⟩
   ·rw [IY] at h; exact SeqAt.EqAt.str_int x t j u _ _ _ _ h
   ·rw [IX] at h; exact wpAny_eqBool_str h
 «strs»:=fun k x t v h=>by
  rcases cX h with ⟨i,u,rfl,e⟩ | ⟨y,u,rfl,e⟩
  ·exact nomatch e
  ·injection e with e1 _
   subst e1
   cases v <;> rfl
theorem vS (prog:Program) (w:World) (i:Int) (t:Tok):(gv prog w).is (.inl i) (.int i t)=true:=Al i t
theorem vR (prog:Program) (w:World) (x:Str) (t:Tok):(gv prog w).is (.inr x) (.str x t)=true:=Ak x t
end L2
namespace L2
open PySem PySem.Spec PyProof.Rows
inductive V where
 | non | bl (b:Bool) | int (i:Int) | str (x:Str) | byt (b:Array UInt8) | flt (b:UInt64) | ref (a:Addr) | ty (n:String)
 deriving DecidableEq
noncomputable def RelV:V->Value->Prop
 | .non,u=>u=Value.none
 | .bl b,u=>u=Value.bool b
 | .int i,u=>∃ t,u=Value.int i t
 | .str x,u=>∃ t,u=Value.str x t
 | .byt b,u=>∃ t,u=Value.bytes b t
 | .flt b,u=>∃ t,u=Value.float b t
 | .ref a,u=>u=Value.ref a
 | .ty n,u=>u=Value.type n
noncomputable abbrev Vals:List V->List Value->Prop:=Paired RelV
theorem Vals.length {xs:List V} {us:List Value} (r:Vals xs us):xs.length=us.length:=Paired.length r
theorem Vals.get:∀ {xs:List V} {us:List Value} {i:Nat} {x:V},Vals xs us->xs[i]? = some x->∃ u,us[i]? = some u/\RelV x u
 | _,_,_,_,.nil,e=>by simp at e
 | _,_,0,_,.cons r _,e=>by simp at e; subst e; exact ⟨_,rfl,r⟩
 | _,_,i+1,x,.cons _ t,e=>by
  obtain ⟨u,h1,h2⟩:=Vals.get (i:=i) (x:=x) t (by simpa using e)
  exact ⟨u,by simpa using h1,h2⟩
theorem Vals.set {x:V} {u:Value} (r:RelV x u):∀ {xs:List V} {us:List Value} (i:Nat),Vals xs us->Vals (xs.set i x) (us.set i u)
 | _,_,_,.nil=>.nil
 | _,_,0,.cons _ t=>.cons r t
 | _,_,i+1,.cons q t=>.cons q (Vals.set r i t)
theorem Vals.append:∀ {xs ys:List V} {us ws:List Value},Vals xs us->Vals ys ws->Vals (xs++ys) (us++ws)
 | _,_,_,_,.nil,s=>s
 | _,_,_,_,.cons r t,s=>.cons r (Vals.append t s)
theorem Vals.take:∀ {xs:List V} {us:List Value} (n:Nat),Vals xs us->Vals (xs.take n) (us.take n)
 | _,_,0,_=>.nil
 | _,_,_+1,.nil=>.nil
 | _,_,n+1,.cons r t=>.cons r (Vals.take n t)
theorem Vals.drop:∀ {xs:List V} {us:List Value} (n:Nat),Vals xs us->Vals (xs.drop n) (us.drop n)
 | _,_,0,r=>r
 | _,_,_+1,.nil=>.nil
 | _,_,n+1,.cons _ t=>Vals.drop n t
noncomputable def RelO:Option V->Option Value->Prop
 | some v,some u=>RelV v u
 | none,none=>True
 | _,_=>False
noncomputable def KV {κ:Type}:List (κ × V)->List (κ × Value)->Prop:=Paired fun (p:κ × V) (q:κ × Value)=>p.1=q.1/\RelV p.2 q.2
noncomputable def kV:eM->V
 | .inl i=>.int i
 | .inr x=>.str x
inductive HO where
 | lst (xs:List V)
 | tup (xs:List V)
 | dK (kvs:List (eM×V)) | dT (kvs:List (List eM×V))
 | set (S:Int->Bool) (n:Nat)
 | ins (C dx:Addr) (fs:List (Str×V))
 | own (x:Addr)
 | xd (fs:List (Str×V))
 | met (f x:Addr)
 | rng (lo hi:Int)
 | frz (o:Obj) (u:HO)
 | tbl (ps:Array Value)
 | ext (φ:Heap->Prop)
noncomputable abbrev Hp:=Addr->Option HO
noncomputable def eA (H:Hp) (a:Addr) (o:HO):Hp:=fun b=>if b=a then some o else H b
theorem aR {H:Hp} {a:Addr} {o:HO}:eA H a o a=some o:=by unfold eA; rw [if_pos rfl]
theorem aI {H:Hp} {a b:Addr} {o:HO} (h:b≠a):eA H a o b=H b:=by unfold eA; rw [if_neg h]
theorem bg {H:Hp} {a b:Addr} {o:HO} (h:H a=some o) (h':H b=none):a≠b:=by
 intro e; subst e; rw [h] at h'; cases h'
section
variable (P:Program) (w:World)
noncomputable def ObjOk (H:Hp) (h:Heap) (a:Addr):HO->Prop
 | .lst xs=>xs.length<=sizeLine/\∃ (its:List Value) (n:Nat),Vals xs its/\h.get? a=some { cls:=.type "list",data:=.seq its.toArray n }
 | .tup xs=>xs.length<=sizeLine/\∃ its:List Value,Vals xs its/\IsTup h a its.toArray
 | .dK kvs=>kvs.length<=sizeLine/\(a==sysModules)=false/\∃ vs,KV kvs vs/\h.DictOf (gv P w) a vs
 | .dT kvs=>kvs.length<=sizeLine/\(a==sysModules)=false/\∃ xs:List (List eM×Addr×Value),
   Paired (fun (p:List eM×V) (q:List eM×Addr×Value)=>p.1=q.1/\H q.2.1=some (.tup (p.1.map kV))/\RelV p.2 q.2.2) kvs xs /\
   ∃ o es ep,h.get? a=some o/\o.ExactDict/\o.data=.dict es ep/\es.toList=xs.map (entryOfKey (tupleKind (gv P w)))/\(xs.map (·.1)).Nodup
 | .set S n=>h.SetOf (intKind P w) a S n
 | .ins C dx fs=>H dx=some (.own a)/\fs.length<=1000/\dx≠a/\h.get? a=some (PySem.W.instObj C dx) /\
   ∃ mA,h.Ns1 dx mA/\(∀ f,RelO (fs.lookup f) (mA f))/\PySem.Within mA (fs.map (·.1))
 | .own _=>∃ o,h.get? a=some o
 | .xd fs=>∃ mA,h.Ns1 a mA/\∀ f,RelO (fs.lookup f) (mA f)
 | .rng lo hi=>∃ t u v,h.get? a=some { cls:=.type "range",data:=.fields #[.int lo t,.int hi u,.int 1 v] }
 | .frz o u=>h.get? a=some o/\ObjOk H h a u
 | .tbl ps=>h.get? a=some { cls:=.none,data:=.fields ps }
 | .met f x=>h.get? a=some (PySem.W.methodObj (.ref f) (.ref x))
 | .ext φ=>φ h/\(∃ o,h.get? a=some o)/\∀ h1 h2:Heap,φ h1->(∀ o,h1.get? a=some o->h2.get? a=some o) -> φ h2
noncomputable def HOk (H:Hp) (h:Heap):Prop:=∀ a o,H a=some o->ObjOk P w H h a o
end
section
variable {P:Program} {w:World} {H H':Hp} {h h':Heap} {a:Addr} {o:HO}
theorem ObjOk.lt (x:ObjOk P w H h a o):a<h.objs.size:=by
 cases o with
 | lst xs=>obtain ⟨_,_,_,_,e⟩:=x; exact Heap.lt_size e
 | tup xs=>obtain ⟨_,_,_,p⟩:=x; exact p.lt
 | dK kvs=>obtain ⟨_,_,_,_,o,_,_,e,_⟩:=x; exact Heap.lt_size e
 | dT kvs=>obtain ⟨_,_,_,_,o,_,_,e,_⟩:=x; exact Heap.lt_size e
 | set S n=>obtain ⟨o,_,_,_,e,_⟩:=x; exact Heap.lt_size e
 | ins C dx fs=>obtain ⟨_,_,_,e,_⟩:=x; exact Heap.lt_size e
 | own y=>obtain ⟨_,e⟩:=x; exact Heap.lt_size e
 | xd fs=>obtain ⟨_,⟨_,_,_,e,_⟩,_⟩:=x; exact Heap.lt_size e
 | rng lo hi=>obtain ⟨_,_,_,e⟩:=x; exact Heap.lt_size e
 | frz ob u=>obtain ⟨e,_⟩:=x; exact Heap.lt_size e
 | tbl ps=>exact Heap.lt_size (show h.get? a=some _ from x)
 | met f y=>exact Heap.lt_size (show h.get? a=some _ from x)
 | ext φ=>obtain ⟨_,⟨_,e⟩,_⟩:=x; exact Heap.lt_size e
theorem Paired.mapP {α β:Type} {F G:α -> β -> Prop}:∀ {l₁:List α} {l₂:List β},Paired F l₁ l₂ -> (∀ a b,F a b->G a b)->Paired G l₁ l₂
 | _,_,.nil,_=>.nil
 | _,_,.cons r t,f=>.cons (f _ _ r) (Paired.mapP t f)
theorem ObjOk.stay (x:ObjOk P w H h a o) (k:∀ b u,(b=a\/H b=some (.own a))->h.get? b=some u->h'.get? b=some u)
  (ho:∀ b,H b=some (.own a)->H' b=some (.own a)) (ht:∀ b xs,H b=some (.tup xs)->H' b=some (.tup xs)):ObjOk P w H' h' a o:=by
 induction o with
 | lst xs=>obtain ⟨z,its,n,r,e⟩:=x; exact ⟨z,its,n,r,k _ _ (.inl rfl) e⟩
 | tup xs=>obtain ⟨z,its,r,ob,e,c⟩:=x; exact ⟨z,its,r,ob,k _ _ (.inl rfl) e,c⟩
 | dK kvs=>obtain ⟨z,y,vs,r,ob,es,ep,e,c⟩:=x; exact ⟨z,y,vs,r,ob,es,ep,k _ _ (.inl rfl) e,c⟩
 | dT kvs=>
  obtain ⟨z,y,xs,r,ob,es,ep,e,c⟩:=x
  exact ⟨z,y,xs,Paired.mapP r fun p q z=>⟨z.1,ht _ _ z.2.1,z.2.2⟩,ob,es,ep,k _ _ (.inl rfl) e,c⟩
 | set S n=>obtain ⟨ob,es,ep,t,e,c⟩:=x; exact ⟨ob,es,ep,t,k _ _ (.inl rfl) e,c⟩
 | ins C dx fs=>
  obtain ⟨d,z,ne,e,mA,⟨od,es,ep,e2,c⟩,r⟩:=x
  exact ⟨ho _ d,z,ne,k _ _ (.inl rfl) e,mA,⟨od,es,ep,k _ _ (.inr d) e2,c⟩,r⟩
 | own y=>obtain ⟨ob,e⟩:=x; exact ⟨ob,k _ _ (.inl rfl) e⟩
 | xd fs=>obtain ⟨mA,⟨od,es,ep,e,c⟩,r⟩:=x; exact ⟨mA,⟨od,es,ep,k _ _ (.inl rfl) e,c⟩,r⟩
 | rng lo hi=>obtain ⟨t,u,v,e⟩:=x; exact ⟨t,u,v,k _ _ (.inl rfl) e⟩
 | frz ob u ih=>obtain ⟨e,q⟩:=x; exact ⟨k _ _ (.inl rfl) e,ih q⟩
 | tbl ps=>
  have e:h.get? a=some { cls:=.none,data:=.fields ps }:=x
  show h'.get? a=some { cls:=.none,data:=.fields ps }
  exact k a _ (.inl rfl) e
 | met f y=>
  have e:h.get? a=some (PySem.W.methodObj (.ref f) (.ref y)):=x
  show h'.get? a=some (PySem.W.methodObj (.ref f) (.ref y))
  exact k a _ (.inl rfl) e
 | ext φ=>obtain ⟨p,⟨o,e⟩,st⟩:=x; exact ⟨st _ _ p fun o q=>k _ _ (.inl rfl) q,⟨o,k _ _ (.inl rfl) e⟩,st⟩
theorem HOk.lt (x:HOk P w H h) (e:H a=some o):a<h.objs.size:=(x a o e).lt
theorem HOk.fresh (x:HOk P w H h) (e:h.objs.size<=a):H a=none:=by
 cases q:H a with
 | none=>rfl
 | some u=>exact absurd (Nat.lt_of_lt_of_le (x.lt q) e) (Nat.lt_irrefl _)
theorem HOk.kept (x:HOk P w H h) (k:∀ b u,h.get? b=some u->h'.get? b=some u):HOk P w H h':=fun a o e=>
 (x a o e).stay (fun b u _ q=>k b u q) (fun _ q=>q) fun _ _ q=>q
theorem HOk.laid (x:HOk P w H h) (k:∀ b u,h.get? b=some u->h'.get? b=some u) (hp:h.objs.size<=a) (new:ObjOk P w (eA H a o) h' a o):HOk P w (eA H a o) h':=fun b u e=>by
 have hn:=x.fresh hp
 by_cases hb:b=a
 ·subst hb; rw [aR] at e; cases e; exact new
 ·rw [aI hb] at e
  exact (x b u e).stay (fun c v _ q=>k c v q) (fun c q=>by rw [aI (bg q hn)]; exact q) fun c xs q=>by rw [aI (bg q hn)]; exact q
end
noncomputable def Rd (H:Hp) (a:Addr) (u:HO):Prop:=H a=some u\/∃ o,H a=some (.frz o u)
theorem Rd.of {H:Hp} {a:Addr} {u:HO} (h:H a=some u):Rd H a u:=.inl h
theorem Rd.ok {P:Program} {w:World} {H:Hp} {h:Heap} {a:Addr} {u:HO} (r:Rd H a u) (x:HOk P w H h):ObjOk P w H h a u:=by
 rcases r with r | ⟨o,r⟩
 ·exact x a u r
 ·obtain ⟨_,q⟩:=x a _ r
  exact q
noncomputable def LY:Option HO->Prop
 | some (.lst _)=>True
 | some (.dK _)=>True
 | some (.dT _)=>True
 | some (.set _ _)=>True
 | some (.ins _ _ _)=>True
 | some (.ext _)=>True
 | _=>False
section
variable {P:Program} {w:World} {H:Hp} {h h':Heap} {x e:Addr} {o':HO}
theorem HOk.write (ok:HOk P w H h) (mu:LY (H x)) (he:e=x\/H e=some (.own x)) (k:∀ b u,b≠e->h.get? b=some u->h'.get? b=some u) (heo:∃ u,h'.get? e=some u)
  (new:ObjOk P w (eA H x o') h' x o'):HOk P w (eA H x o') h':=fun b u q=>by
 have nown:∀ c y,H c=some (.own y)->c≠x:=fun c y r z=>by subst z; rw [r] at mu; exact mu
 have ntup:∀ c xs,H c=some (.tup xs)->c≠x:=fun c xs r z=>by subst z; rw [r] at mu; exact mu
 by_cases hb:b=x
 ·subst hb; rw [aR] at q; cases q; exact new
 ·rw [aI hb] at q
  by_cases hbe:b=e
  ·have q':H b=some (.own x):=by
    rcases he with z | z
    ·exact absurd (hbe.trans z) hb
    ·rw [hbe]; exact z
   rw [q] at q'; cases q'
   obtain ⟨v,hv⟩:=heo
   exact ⟨v,by rw [hbe]; exact hv⟩
  ·refine (ok b u q).stay (fun c v hc r=>k c v ?_ r) (fun c r=>by rw [aI (nown c b r)]; exact r) fun c xs r=>by rw [aI (ntup c xs r)]; exact r
   rcases hc with rfl | hc
   ·exact hbe
   ·rintro rfl
    rcases he with z | z
    ·exact nown c b hc z
    ·rw [hc] at z; cases z; exact hb rfl
end
structure Un (fs ex:List Addr) (H H':Hp) (h h':Heap):Prop where
 keep:∀ b o,h.get? b=some o->H b=none->b ∉ fs->b ∉ ex->h'.get? b=some o
 slot:∀ b o,h.get? b=some o->H b=none->b∈fs->b ∉ ex->∃ sl,h'.get? b=some { o with slots:=sl }
 free:∀ b o,h.get? b=some o->H b=none->b ∉ ex->H' b=none
 there:∀ b o,h.get? b=some o->b ∉ ex->∃ o',h'.get? b=some o'
 tups:∀ b xs,H b=some (.tup xs)->H' b=some (.tup xs)
 frzs:∀ b o u,H b=some (.frz o u)->H' b=some (.frz o u)
 tbls:∀ b ps,H b=some (.tbl ps)->∃ more,H' b=some (.tbl (ps++more))
section
variable {fs fs' ex ex':List Addr} {H H1 H2:Hp} {h h1 h2 h':Heap} {a x e:Addr} {o:HO}
theorem Un.any (u:Un fs ex H H1 h h1) {b:Addr} {ob:Obj} (q:h.get? b=some ob) (n:H b=none) (hx:b ∉ ex):∃ sl,h1.get? b=some { ob with slots:=sl }:=by
 by_cases hb:b∈fs
 ·exact u.slot b ob q n hb hx
 ·exact ⟨ob.slots,u.keep b ob q n hb hx⟩
theorem Un.trans (a:Un fs ex H H1 h h1) (b:Un fs ex H1 H2 h1 h2):Un fs ex H H2 h h2 where
 keep:=fun c ob q n hc hx=>b.keep c ob (a.keep c ob q n hc hx) (a.free c ob q n hx) hc hx
 slot:=fun c ob q n hc hx=>by
  obtain ⟨sl,e1⟩:=a.slot c ob q n hc hx
  obtain ⟨sl',e2⟩:=b.slot c _ e1 (a.free c ob q n hx) hc hx
  exact ⟨sl',e2⟩
 free:=fun c ob q n hx=>by
  obtain ⟨o',e1⟩:=a.there c ob q hx
  exact b.free c o' e1 (a.free c ob q n hx) hx
 there:=fun c ob q hx=>by
  obtain ⟨o',e1⟩:=a.there c ob q hx
  exact b.there c o' e1 hx
 tups:=fun c xs q=>b.tups c xs (a.tups c xs q)
 frzs:=fun c ob xs q=>b.frzs c ob xs (a.frzs c ob xs q)
 tbls:=fun c ps q=>by
  obtain ⟨m1,e1⟩:=a.tbls c ps q
  obtain ⟨m2,e2⟩:=b.tbls c _ e1
  exact ⟨m1++m2,by rw [e2,Array.append_assoc]⟩
theorem Un.kept (k:∀ b u,h.get? b=some u->h'.get? b=some u):Un fs ex H H h h':=
 ⟨fun b ob q _ _ _=>k b ob q,fun b ob q _ _ _=>⟨ob.slots,k b ob q⟩,fun _ _ _ n _=>n,fun b ob q _=>⟨ob,k b ob q⟩,fun _ _ q=>q,fun _ _ _ q=>q,fun _ ps q=>⟨#[],by rw [q]; simp⟩⟩
theorem Un.refl:Un fs ex H H h h:=Un.kept fun _ _ q=>q
theorem Un.laid (k:∀ b u,h.get? b=some u->h'.get? b=some u) (hp:h.objs.size<=a) (hn:H a=none):Un fs ex H (eA H a o) h h' where
 keep:=fun b u q _ _ _=>k b u q
 slot:=fun b u q _ _ _=>⟨u.slots,k b u q⟩
 free:=fun b u q n _=>by rw [aI (Nat.ne_of_lt (Nat.lt_of_lt_of_le (Heap.lt_size q) hp))]; exact n
 there:=fun b u q _=>⟨u,k b u q⟩
 tups:=fun b xs q=>by rw [aI (bg q hn)]; exact q
 frzs:=fun b u xs q=>by rw [aI (bg q hn)]; exact q
 tbls:=fun b ps q=>⟨#[],by rw [aI (bg q hn),q]; simp⟩
theorem Un.write (mu:LY (H x)) (he:e=x\/H e=some (.own x)) (k:∀ b u,b≠e->h.get? b=some u->h'.get? b=some u) (heo:∃ u,h'.get? e=some u):Un fs ex H (eA H x o) h h':=by
 have hx:∀ b,H b=none->b≠x:=fun b n z=>by subst z; rw [n] at mu; exact mu
 have hb:∀ b,H b=none->b≠e:=fun b n z=>by
  subst z
  rcases he with r | r
  ·exact hx b n r
  ·rw [n] at r; cases r
 have hm:∀ b u,H b=some u->¬ LY (some u)->b≠x:=fun b u q nm z=>by subst z; rw [q] at mu; exact nm mu
 refine ⟨fun b u q n _ _=>k b u (hb b n) q,fun b u q n _ _=>⟨u.slots,k b u (hb b n) q⟩,fun b u q n _=>by rw [aI (hx b n)]; exact n,fun b u q _=>?_,
  fun b xs q=>by rw [aI (hm b _ q fun z=>z)]; exact q,fun b u xs q=>by rw [aI (hm b _ q fun z=>z)]; exact q,fun b ps q=>⟨#[],by rw [aI (hm b _ q fun z=>z),q]; simp⟩⟩
 by_cases hbe:b=e
 ·subst hbe; exact heo
 ·exact ⟨u,k b u hbe q⟩
theorem Un.mono (u:Un fs ex H H1 h h1) (hs:∀ b∈fs,b∈fs') (hx:∀ b∈ex,b∈ex'):Un fs' ex' H H1 h h1:=
 ⟨fun b ob q n hb he=>u.keep b ob q n (fun z=>hb (hs b z)) fun z=>he (hx b z),fun _ _ q n _ he=>u.any q n fun z=>he (hx _ z),fun b ob q n he=>u.free b ob q n fun z=>he (hx b z),fun b ob q he=>u.there b ob q fun z=>he (hx b z),u.tups,u.frzs,u.tbls⟩
end
noncomputable def trk (h:Heap) (H:Hp):List Addr:=(List.range h.objs.size).filter fun a=>(H a).isSome
noncomputable def uC (h:Heap) (H:Hp):Heap:=PySem.W.hideAll h (trk h H)
theorem Ao (h:Heap) (H:Hp):(uC h H).objs.size=h.objs.size:=PySem.W.hideAll_size _ _
theorem Cz {h:Heap} {H:Hp} {b:Addr} {o:Obj} (e:h.get? b=some o) (n:H b=none):(uC h H).get? b=some o:=
 PySem.W.hideAll_get _ e fun hm=>by
  have q:(H b).isSome=true:=(List.mem_filter.mp hm).2
  rw [n] at q; simp at q
theorem EZ {h:Heap} {H:Hp} {b:Addr} {o:Obj} (e:(uC h H).get? b=some o):h.get? b=some o/\H b=none:=by
 have e':h.get? b=some o:=PySem.W.of_hideAll (trk h H) e
 refine ⟨e',?_⟩
 cases q:H b with
 | none=>rfl
 | some x=>
  have hm:b∈trk h H:=List.mem_filter.mpr ⟨List.mem_range.mpr (Heap.lt_size e'),by simp [q]⟩
  have z:(uC h H).get? b=none:=PySem.W.hideAll_none (trk h H) hm
  rw [z] at e; cases e
noncomputable def Gp (g h:Heap) (L:Addr):List (Addr×Obj):=(List.range h.objs.size).filterMap fun a=>if a=L\/(g.get? a).isSome=true then none else (h.get? a).map fun o=>(a,o)
noncomputable def rest (g h:Heap) (L d:Addr):List (Addr×Obj):=(Gp g h L).filter fun p=>decide (p.1≠d)
end L2
namespace L2
open PySem PySem.Spec PyProof.Rows
structure Mod (K:PySem.W.Frag) (mg:Str->Option Value) (base:Heap):Prop where
 kin:K.In base
 glob:base.Ns mainGlobals mg
 blt:∃ mb,base.Ns builtinsNs mb/\∀ x:Str,x ≠ "__name__" -> mb x=bootBuiltins x
 nolimit:base.NoLimit
structure Cx where
 prog:Program
 w:World
 K:PySem.W.Frag
 mg:Str->Option Value
 base:Heap
 A:Around
 N:List Str
 s₀:Shared
 H₀:Hp
 env:Env
 outer:List Env
 stack:List Env
 ex:List Addr
 fn:Str->Bool
 calm:Bool
 pn:List (Addr×Obj)
 xe:Value->Shared->Prop
noncomputable def kn (l:List Env):List Addr:=l.filterMap (·.frame)
noncomputable abbrev Cx.fs (X:Cx):List Addr:=kn X.outer
noncomputable def Dg (sc:Scope) (x:Str):Prop:=sc.names.lookup x=some .local\/sc.names.lookup x=some .cell\/sc.names.lookup x=some .free
noncomputable def AZ (sc:Scope) (x:Str):Prop:=sc.names.lookup x=some .local\/sc.names.lookup x=some .cell
noncomputable def NH (env:Env) (h:Heap) (m:Str->Option Value) (x:Str) (u:Value):Prop:=
 (env.kindOf x=some .local/\m x=some u)\/((env.kindOf x=some .cell\/env.kindOf x=some .free)/\∃ c,env.cells.lookup x=some c/\h.IsCell c (some u))
structure Cx.Ok (X:Cx):Prop where
 mod:Mod X.K X.mg X.base
 kind:X.env.scope.kind=.function
 glob:X.env.globals=mainGlobals
 blt:X.env.builtins=builtinsNs
 above:X.s₀.heap.objs.size<=X.env.locals
 inj:∀ x y c,X.env.cells.lookup x=some c->X.env.cells.lookup y=some c->x=y
 has:∀ x,(X.env.kindOf x=some .cell\/X.env.kindOf x=some .free)->∃ c,X.env.cells.lookup x=some c
 cab:∀ x c,X.fn x=true->X.env.cells.lookup x=some c->X.s₀.heap.objs.size<=c
 hd:X.calm=true->X.A.handled=none
 frames:X.A.frames=some X.stack
 stk:X.stack=X.outer\/(X.stack=X.env::X.outer/\X.env.frame=some X.env.locals)
 exf:∀ b∈X.ex,b≠X.env.locals/\∀ x c,X.env.cells.lookup x=some c->c≠b
 bs:∀ b o,X.base.get? b=some o->X.s₀.heap.get? b=some o/\X.H₀ b=none
 bsz:X.base.objs.size<=X.s₀.heap.objs.size
 noex:∀ b o,X.base.get? b=some o->b ∉ X.ex
 exfs:∀ b∈X.ex,b ∉ X.fs
 funs:X.s₀.heap.FunFrames X.base X.outer
 frf:∀ b∈X.fs,X.H₀ b=none
structure Inv (X:Cx) (pins:List (Addr×Obj)) (σ:List (Option V)) (H:Hp) (s:Shared):Prop where
 ok:X.Ok
 os:s.os=X.s₀.os
 bare:AllBare s.gens
 base:Un X.fs X.ex X.H₀ H X.s₀.heap s.heap
 loc:∃ m,s.heap.Ns X.env.locals m/\∀ (i:Nat) (x:Str) (v:V),X.N[i]? = some x -> σ[i]? = some (some v)->Dg X.env.scope x->∃ u,RelV v u/\NH X.env s.heap m x u
 cell:∀ x c,X.env.cells.lookup x=some c->∃ v,s.heap.IsCell c v
 free:H X.env.locals=none
 freeC:∀ x c,X.env.cells.lookup x=some c->H c=none
 pin:∀ p∈X.pn++pins,s.heap.get? p.1=some p.2/\H p.1=none/\p.1≠X.env.locals/\p.1 ∉ X.fs/\∀ v,p.2.data≠.cell v
 hok:HOk X.prog X.w H s.heap
 len:σ.length=X.N.length
section
variable {X:Cx} {pins:List (Addr×Obj)} {σ:List (Option V)} {H H':Hp} {s:Shared} {h':Heap}
theorem Cx.Ok.nofr (ok:X.Ok) {b:Addr} {o:Obj} (e:X.base.get? b=some o):b ∉ X.fs:=fun hb=>by
 have:=(ok.funs.mem hb).1
 rw [e] at this; cases this
theorem Inv.bs (I:Inv X pins σ H s):∀ b o,X.base.get? b=some o->s.heap.get? b=some o/\H b=none:=fun b o e=>
 ⟨I.base.keep b o (I.ok.bs b o e).1 (I.ok.bs b o e).2 (I.ok.nofr e) (I.ok.noex b o e),I.base.free b o (I.ok.bs b o e).1 (I.ok.bs b o e).2 (I.ok.noex b o e)⟩
theorem Inv.bk (I:Inv X pins σ H s):∀ b o,X.base.get? b=some o->s.heap.get? b=some o:=fun b o e=>(I.bs b o e).1
theorem Inv.mod (I:Inv X pins σ H s):Mod X.K X.mg X.base:=I.ok.mod
theorem Inv.kIn (I:Inv X pins σ H s):X.K.In s.heap:=I.ok.mod.kin.keeps I.bk
theorem Inv.nolimit (I:Inv X pins σ H s):s.heap.NoLimit:=I.ok.mod.nolimit.keeps I.bk
theorem Inv.fr (I:Inv X pins σ H s):∃ m,Fr X.base X.env.locals s.heap m:=
 let ⟨m,hn,_⟩:=I.loc
 ⟨m,hn,I.bk,Nat.le_trans I.ok.bsz I.ok.above⟩
theorem Inv.lt (I:Inv X pins σ H s):X.env.locals<s.heap.objs.size:=let ⟨_,hn,_⟩:=I.loc; hn.lt
theorem Inv.sz (I:Inv X pins σ H s):X.s₀.heap.objs.size<=s.heap.objs.size:=Nat.le_trans I.ok.above (Nat.le_of_lt I.lt)
theorem Inv.nofs (I:Inv X pins σ H s) {a:Addr} (h:s.heap.objs.size<=a):a ∉ X.fs:=fun hb=>by
 obtain ⟨_,o,ho,_⟩:=I.ok.funs.mem hb
 exact absurd (Nat.lt_of_lt_of_le (Heap.lt_size ho) (Nat.le_trans I.sz h)) (Nat.lt_irrefl _)
theorem Inv.cne (I:Inv X pins σ H s):∀ x c,X.env.cells.lookup x=some c->c≠X.env.locals:=fun x c e z=>by
 obtain ⟨v,o,ho,hd⟩:=I.cell x c e
 obtain ⟨m,⟨o',es,ep,ho',hd',_⟩,_⟩:=I.loc
 rw [z,ho'] at ho; cases ho; rw [hd'] at hd; cases hd
theorem Inv.funs (I:Inv X pins σ H s):s.heap.FunFrames X.base X.outer:=by
 have all:∀ (l:List Env),(∀ b∈kn l,b∈X.fs)->X.s₀.heap.FunFrames X.base l->s.heap.FunFrames X.base l:=by
  intro l
  induction l with
  | nil=>intro _ _; trivial
  | cons env r ih=>
   intro hs hl
   obtain ⟨hk,⟨L,o,hf,hn,ho,hd⟩,hr⟩:=hl
   have hL:L∈X.fs:=hs L (by unfold kn; rw [List.filterMap_cons,hf]; exact List.mem_cons_self)
   obtain ⟨sl,e⟩:=I.base.slot L o ho (I.ok.frf L hL) hL fun z=>I.ok.exfs L z hL
   exact ⟨hk,⟨L,_,hf,hn,e,hd⟩,ih (fun b hb=>hs b (by unfold kn; rw [List.filterMap_cons,hf]; exact List.mem_cons_of_mem _ hb)) hr⟩
 exact all X.outer (fun _ hb=>hb) I.ok.funs
theorem Inv.stack (I:Inv X pins σ H s):s.heap.FunFrames X.base X.stack:=by
 rcases I.ok.stk with e | ⟨e,hf⟩
 ·rw [e]; exact I.funs
 ·rw [e]
  obtain ⟨m,hn,_⟩:=I.loc
  refine .cons (by rw [I.ok.kind]; decide) hf hn ?_ I.funs
  exact Heap.get?_none_of_le (Nat.le_trans I.ok.bsz I.ok.above)
theorem Inv.stkSub (I:Inv X pins σ H s):∀ b∈kn X.stack,b∈X.env.locals::X.fs:=fun b hb=>by
 rcases I.ok.stk with e | ⟨e,hf⟩
 ·rw [e] at hb; exact List.mem_cons_of_mem _ hb
 ·rw [e] at hb
  unfold kn at hb
  rw [List.filterMap_cons,hf] at hb
  exact hb
theorem Inv.stkFree (I:Inv X pins σ H s):∀ b∈kn X.stack,H b=none:=fun b hb=>by
 rcases List.mem_cons.mp (I.stkSub b hb) with e | hb
 ·rw [e]; exact I.free
 ·obtain ⟨_,o,ho,_⟩:=I.ok.funs.mem hb
  exact I.base.free b o ho (I.ok.frf b hb) fun z=>I.ok.exfs b z hb
theorem Inv.step {g':Array GenState} {t':Nat} {d':Drawn} {ch:List Addr} (I:Inv X pins σ H s)
  (hch:∀ b∈ch,(b∈X.ex\/X.s₀.heap.objs.size<=b)/\b≠X.env.locals/\(∀ x c,X.env.cells.lookup x=some c->c≠b)/\∀ p∈X.pn++pins,p.1≠b)
  (keep:∀ b o,b≠X.env.locals->b ∉ X.fs->b ∉ ch->s.heap.get? b=some o->H b=none->h'.get? b=some o)
  (slot:∀ b o,b≠X.env.locals->b∈X.fs->b ∉ ch->s.heap.get? b=some o->H b=none->∃ sl,h'.get? b=some { o with slots:=sl }) (free:∀ b o,b ∉ ch->s.heap.get? b=some o->H b=none->H' b=none)
  (there:∀ b o,b ∉ ch->s.heap.get? b=some o->∃ o',h'.get? b=some o')
  (tups:∀ b xs,H b=some (.tup xs)->H' b=some (.tup xs)) (frzs:∀ b o u,H b=some (.frz o u)->H' b=some (.frz o u)) (tbls:∀ b ps,H b=some (.tbl ps)->∃ more,H' b=some (.tbl (ps++more)))
  (ns:∀ m,s.heap.Ns X.env.locals m->h'.Ns X.env.locals m) (hok:HOk X.prog X.w H' h') (hg:AllBare g') :
  Inv X pins σ H' { s with heap:=h',gens:=g',drawn:=d',toks:=t' }:=by
 have neL:∀ b o,X.s₀.heap.get? b=some o->b≠X.env.locals:=fun b o e=>Nat.ne_of_lt (Nat.lt_of_lt_of_le (Heap.lt_size e) I.ok.above)
 have neC:∀ b o,X.s₀.heap.get? b=some o->b ∉ X.ex->b ∉ ch:=fun b o e hx hb=>by
  rcases (hch b hb).1 with z | z
  ·exact hx z
  ·exact absurd (Nat.lt_of_lt_of_le (Heap.lt_size e) z) (Nat.lt_irrefl _)
 have cellK:∀ x c,X.env.cells.lookup x=some c->∀ v,s.heap.IsCell c v->h'.IsCell c v:=fun x c e v ⟨o,ho,hd⟩=>by
  have nch:c ∉ ch:=fun z=>(hch c z).2.2.1 x c e rfl
  by_cases hc:c∈X.fs
  ·obtain ⟨sl,q⟩:=slot c o (I.cne x c e) hc nch ho (I.freeC x c e)
   exact ⟨_,q,hd⟩
  ·exact ⟨o,keep c o (I.cne x c e) hc nch ho (I.freeC x c e),hd⟩
 refine ⟨I.ok,I.os,hg,⟨fun b o e n hb hx=>?_,fun b o e n hb hx=>?_,fun b o e n hx=>?_,fun b o e hx=>?_,fun b xs e=>tups b xs (I.base.tups b xs e),fun b o xs e=>frzs b o xs (I.base.frzs b o xs e),fun b ps e=>?_⟩,?_,fun x c e=>?_,?_,fun x c e=>?_,fun p hp=>?_,hok,I.len⟩
 ·exact keep b o (neL b o e) hb (neC b o e hx) (I.base.keep b o e n hb hx) (I.base.free b o e n hx)
 ·obtain ⟨sl,e1⟩:=I.base.slot b o e n hb hx
  obtain ⟨sl',e2⟩:=slot b _ (neL b o e) hb (neC b o e hx) e1 (I.base.free b o e n hx)
  exact ⟨sl',e2⟩
 ·obtain ⟨o',e1⟩:=I.base.there b o e hx
  exact free b o' (neC b o e hx) e1 (I.base.free b o e n hx)
 ·obtain ⟨o',e1⟩:=I.base.there b o e hx
  exact there b o' (neC b o e hx) e1
 ·obtain ⟨m1,e1⟩:=I.base.tbls b ps e
  obtain ⟨m2,e2⟩:=tbls b _ e1
  exact ⟨m1++m2,by rw [e2,Array.append_assoc]⟩
 ·obtain ⟨m,hn,hl⟩:=I.loc
  refine ⟨m,ns m hn,fun i x v e1 e2 e3=>?_⟩
  obtain ⟨u,r,l⟩:=hl i x v e1 e2 e3
  refine ⟨u,r,?_⟩
  rcases l with l | ⟨k,c,e,z⟩
  ·exact .inl l
  ·exact .inr ⟨k,c,e,cellK x c e _ z⟩
 ·obtain ⟨v,z⟩:=I.cell x c e
  exact ⟨v,cellK x c e v z⟩
 ·obtain ⟨m,⟨o,_,_,ho,_⟩,_⟩:=I.loc
  exact free _ o (fun z=>(hch _ z).2.1 rfl) ho I.free
 ·obtain ⟨v,o,ho,hd⟩:=I.cell x c e
  exact free c o (fun z=>(hch c z).2.2.1 x c e rfl) ho (I.freeC x c e)
 ·obtain ⟨e,n,ne,nf,d⟩:=I.pin p hp
  have nch:p.1 ∉ ch:=fun z=>(hch p.1 z).2.2.2 p hp rfl
  exact ⟨keep p.1 p.2 ne nf nch e n,free p.1 p.2 nch e n,ne,nf,d⟩
theorem Inv.un {t':Nat} (I:Inv X pins σ H s) (u:Un X.fs [] H H' s.heap h') (hok:HOk X.prog X.w H' h'):Inv X pins σ H' { s with heap:=h',toks:=t' }:=by
 obtain ⟨m,⟨o,es,ep,ho,r⟩,_⟩:=id I.loc
 obtain ⟨sl,hL⟩:=u.any ho I.free (by simp)
 exact I.step (g':=s.gens) (d':=s.drawn) (ch:=[]) (fun _ z=>nomatch z) (fun b o _ hb _ e n=>u.keep b o e n hb (by simp)) (fun b o _ hb _ e n=>u.slot b o e n hb (by simp)) (fun b o _ e n=>u.free b o e n (by simp)) (fun b o _ e=>u.there b o e (by simp)) u.tups u.frzs u.tbls (fun m' hm=>by
  obtain ⟨o',es',ep',ho',r'⟩:=hm
  rw [ho] at ho'; cases ho'
  exact ⟨_,es',ep',hL,r'⟩) hok I.bare
theorem Inv.call {g':Array GenState} {t':Nat} {d':Drawn} {ch:List Addr} (I:Inv X pins σ H s) (u:Un (kn X.stack) ch H H' s.heap h') (hok:HOk X.prog X.w H' h') (hg:AllBare g')
  (hch:∀ b∈ch,(b∈X.ex\/X.s₀.heap.objs.size<=b)/\b≠X.env.locals/\(∀ x c,X.env.cells.lookup x=some c->c≠b)/\∀ p∈X.pn++pins,p.1≠b) :
  Inv X pins σ H' { s with heap:=h',gens:=g',drawn:=d',toks:=t' }:=by
 obtain ⟨m,⟨o,es,ep,ho,r⟩,_⟩:=id I.loc
 obtain ⟨sl,hL⟩:=u.any ho I.free fun z=>(hch _ z).2.1 rfl
 exact I.step (ch:=ch) hch (fun b o hL hb hc e n=>u.keep b o e n (fun z=>(List.mem_cons.mp (I.stkSub b z)).elim hL hb) hc) (fun b o _ _ hc e n=>u.any e n hc) (fun b o hc e n=>u.free b o e n hc) (fun b o hc e=>u.there b o e hc) u.tups u.frzs u.tbls (fun m' hm=>by
  obtain ⟨o',es',ep',ho',r'⟩:=hm
  rw [ho] at ho'; cases ho'
  exact ⟨_,es',ep',hL,r'⟩) hok hg
theorem Inv.turned {t':Nat} {it:Addr} (I:Inv X pins σ H s) (k:∀ b o,b≠it->s.heap.get? b=some o->h'.get? b=some o) (hn:H it=none) (hL:it≠X.env.locals)
  (h1:it∈X.ex\/X.s₀.heap.objs.size<=it) (h2:∀ x c,X.env.cells.lookup x=some c->c≠it) (h3:∀ p∈X.pn++pins,p.1≠it):Inv X pins σ H { s with heap:=h',toks:=t' }:=by
 have nit:∀ b u,H b=some u->b≠it:=fun b u e z=>by rw [z,hn] at e; cases e
 refine I.step (g':=s.gens) (d':=s.drawn) (ch:=[it]) (fun b hb=>?_) (fun b o _ _ hc e _=>k b o (fun z=>hc (by simp [z])) e) (fun b o _ _ hc e _=>⟨o.slots,k b o (fun z=>hc (by simp [z])) e⟩) (fun _ _ _ _ n=>n)
  (fun b o hc e=>⟨o,k b o (fun z=>hc (by simp [z])) e⟩) (fun _ _ e=>e) (fun _ _ _ e=>e) (fun b ps e=>⟨#[],by rw [e]; simp⟩) (fun m hm=>?_) (fun b u e=>?_) I.bare
 ·have e:b=it:=by simpa using hb
  subst e
  exact ⟨h1,hL,h2,h3⟩
 ·obtain ⟨o,es,ep,ho,r⟩:=hm
  exact ⟨o,es,ep,k _ o (Ne.symm hL) ho,r⟩
 ·refine (I.hok b u e).stay (fun c v hc q=>k c v ?_ q) (fun _ q=>q) fun _ _ q=>q
  rcases hc with z | z
  ·rw [z]; exact nit b u e
  ·exact nit c _ z
theorem Inv.tok (I:Inv X pins σ H s) (t:Nat):Inv X pins σ H { s with toks:=t }:=I.un (h':=s.heap) (t':=t) Un.refl I.hok
theorem Inv.kept {t':Nat} (I:Inv X pins σ H s) (k:∀ b u,s.heap.get? b=some u->h'.get? b=some u):Inv X pins σ H { s with heap:=h',toks:=t' }:=I.un (Un.kept k) (I.hok.kept k)
theorem Inv.laid {a:Addr} {o:HO} {t':Nat} (I:Inv X pins σ H s) (k:∀ b u,s.heap.get? b=some u->h'.get? b=some u) (hp:s.heap.objs.size<=a) (new:ObjOk X.prog X.w (eA H a o) h' a o) :
  Inv X pins σ (eA H a o) { s with heap:=h',toks:=t' }:=I.un (Un.laid k hp (I.hok.fresh hp)) (I.hok.laid k hp new)
theorem Inv.write {x e:Addr} {o:HO} {t':Nat} (I:Inv X pins σ H s) (mu:LY (H x)) (he:e=x\/H e=some (.own x)) (k:∀ b u,b≠e->s.heap.get? b=some u->h'.get? b=some u) (heo:∃ u,h'.get? e=some u)
  (new:ObjOk X.prog X.w (eA H x o) h' x o):Inv X pins σ (eA H x o) { s with heap:=h',toks:=t' }:=I.un (Un.write mu he k heo) (I.hok.write mu he k heo new)
theorem Inv.weak {σ':List (Option V)} (I:Inv X pins σ H s) (hl:σ'.length = σ.length) (w:∀ (i:Nat) v,σ'[i]? = some (some v) -> σ[i]? = some (some v)):Inv X pins σ' H s:=
 ⟨I.ok,I.os,I.bare,I.base,let ⟨m,hn,hl'⟩:=I.loc; ⟨m,hn,fun i x v e1 e2 e3=>hl' i x v e1 (w i v e2) e3⟩,I.cell,I.free,I.freeC,I.pin,I.hok,hl.trans I.len⟩
theorem Inv.pins_of {pins':List (Addr×Obj)} (I:Inv X pins σ H s) (h:∀ p∈pins',s.heap.get? p.1=some p.2/\H p.1=none/\p.1≠X.env.locals/\p.1 ∉ X.fs/\∀ v,p.2.data≠.cell v):Inv X pins' σ H s:=
 ⟨I.ok,I.os,I.bare,I.base,I.loc,I.cell,I.free,I.freeC,fun p hp=>(List.mem_append.mp hp).elim (fun z=>I.pin p (List.mem_append_left _ z)) (h p),I.hok,I.len⟩
theorem qG {N:List Str} (hN:N.Nodup) {i j:Nat} {x:Str} (a:N[i]? = some x) (b:N[j]? = some x):i=j:=by
 obtain ⟨h1,e1⟩:=List.getElem?_eq_some_iff.mp a
 obtain ⟨h2,e2⟩:=List.getElem?_eq_some_iff.mp b
 exact (List.getElem_inj hN).mp (e1.trans e2.symm)
theorem zA {M:Model} {A:Around} {E:Value->Shared->Prop} {i:Nat} {x:Str} {v:V} {u:Value} {Q:Unit->Shared->Prop} (I:Inv X pins σ H s) (hN:X.N.Nodup) (hi:X.N[i]? = some x) (hx:AZ X.env.scope x) (r:RelV v u)
  (h:∀ s',Inv X pins (σ.set i (some v)) H s'->(∃ a,Heap.SameBut a s.heap s'.heap/\(a=X.env.locals\/X.env.cells.lookup x=some a))->Q () s') (hf:X.fn x=true\/X.env.scope.names.lookup x=some .local:=by first | exact .inl rfl | exact .inr rfl | assumption):wpAny M A (storeName X.env x u) Q E s:=by
 obtain ⟨m,hn,hl⟩:=id I.loc
 have hcls:(X.env.scope.kind == .class||(X.env.scope.kind == .module&&X.env.locals != X.env.globals))=false:=by rw [I.ok.kind]; rfl
 have hiσ:i < σ.length:=by rw [I.len]; exact (List.getElem?_eq_some_iff.mp hi).1
 have cne:=I.cne
 have tracked:∀ {a:Addr} {h':Heap},(∃ o,s.heap.get? a=some o/\H a=none)->Heap.SameBut a s.heap h'->HOk X.prog X.w H h':=fun {a h'} ha hs b ob e=>by
  obtain ⟨_,_,hfree⟩:=ha
  refine (I.hok b ob e).stay (fun c w' hc q=>(hs.2 c ?_).trans q) (fun _ q=>q) fun _ _ q=>q
  rintro rfl
  rcases hc with rfl | hc
  ·rw [hfree] at e; cases e
  ·rw [hfree] at hc; cases hc
 rcases hx with hk | hk
 ·refine wpAny_storeName_local hk hn (fun h' hn' hs=>?_) hcls
  obtain ⟨oL,_,_,hoL,_⟩:=id hn
  refine h _ ⟨I.ok,I.os,I.bare,⟨fun b o e n hb hx=>?_,fun b o e n hb hx=>?_,I.base.free,fun b o e hx=>?_,I.base.tups,I.base.frzs,I.base.tbls⟩,⟨_,hn',fun j y v' e1 e2 e3=>?_⟩,fun y c e=>?_,I.free,I.freeC,fun p hp=>?_,tracked ⟨oL,hoL,I.free⟩ hs,by simpa using I.len⟩ ⟨_,hs,.inl rfl⟩
  ·exact (hs.2 b (Nat.ne_of_lt (Nat.lt_of_lt_of_le (Heap.lt_size e) I.ok.above))).trans (I.base.keep b o e n hb hx)
  ·obtain ⟨sl,e1⟩:=I.base.slot b o e n hb hx
   exact ⟨sl,(hs.2 b (Nat.ne_of_lt (Nat.lt_of_lt_of_le (Heap.lt_size e) I.ok.above))).trans e1⟩
  ·obtain ⟨o',e1⟩:=I.base.there b o e hx
   exact ⟨o',(hs.2 b (Nat.ne_of_lt (Nat.lt_of_lt_of_le (Heap.lt_size e) I.ok.above))).trans e1⟩
  ·by_cases hj:j=i
   ·subst hj
    rw [hi] at e1; cases e1
    rw [List.getElem?_set_self hiσ] at e2
    cases e2
    exact ⟨u,r,.inl ⟨hk,by simp⟩⟩
   ·rw [List.getElem?_set_ne (Ne.symm hj)] at e2
    obtain ⟨u',r',q⟩:=hl j y v' e1 e2 e3
    refine ⟨u',r',?_⟩
    rcases q with ⟨k,e⟩ | ⟨k,c,e,z⟩
    ·refine .inl ⟨k,?_⟩
     have:y≠x:=fun e=>hj (qG hN e1 (e ▸ hi))
     simp [this,e]
    ·exact .inr ⟨k,c,e,z.sameBut hs (cne y c e)⟩
  ·obtain ⟨w',z⟩:=I.cell y c e
   exact ⟨w',z.sameBut hs (cne y c e)⟩
  ·obtain ⟨e,n,ne,nf,d⟩:=I.pin p hp
   exact ⟨(hs.2 p.1 ne).trans e,n,ne,nf,d⟩
 ·have hfn:X.fn x=true:=by
   rcases hf with z | z
   ·exact z
   ·rw [z] at hk; cases hk
  obtain ⟨c,hc⟩:=I.ok.has x (.inl hk)
  obtain ⟨w',z⟩:=I.cell x c hc
  refine wpAny_storeName_cell I.ok.kind hk hc z (fun h' hc' hs=>?_)
  obtain ⟨oc,hoc,hocd⟩:=id z
  refine h { s with heap:=h' } ⟨I.ok,I.os,I.bare,⟨fun b o e n hb hx=>?_,fun b o e n hb hx=>?_,I.base.free,fun b o e hx=>?_,I.base.tups,I.base.frzs,I.base.tbls⟩,⟨m,hn.sameBut hs (Ne.symm (cne x c hc)),fun j y v' e1 e2 e3=>?_⟩,fun y c' e=>?_,I.free,I.freeC,fun p hp=>?_,tracked ⟨oc,hoc,I.freeC x c hc⟩ hs,by simpa using I.len⟩ ⟨c,hs,.inr hc⟩
  ·exact (hs.2 b (Nat.ne_of_lt (Nat.lt_of_lt_of_le (Heap.lt_size e) (I.ok.cab x c hfn hc)))).trans (I.base.keep b o e n hb hx)
  ·obtain ⟨sl,e1⟩:=I.base.slot b o e n hb hx
   exact ⟨sl,(hs.2 b (Nat.ne_of_lt (Nat.lt_of_lt_of_le (Heap.lt_size e) (I.ok.cab x c hfn hc)))).trans e1⟩
  ·obtain ⟨o',e1⟩:=I.base.there b o e hx
   exact ⟨o',(hs.2 b (Nat.ne_of_lt (Nat.lt_of_lt_of_le (Heap.lt_size e) (I.ok.cab x c hfn hc)))).trans e1⟩
  ·by_cases hj:j=i
   ·subst hj
    rw [hi] at e1; cases e1
    rw [List.getElem?_set_self hiσ] at e2
    cases e2
    exact ⟨u,r,.inr ⟨.inl hk,c,hc,hc'⟩⟩
   ·rw [List.getElem?_set_ne (Ne.symm hj)] at e2
    obtain ⟨u',r',q⟩:=hl j y v' e1 e2 e3
    refine ⟨u',r',?_⟩
    rcases q with q | ⟨k,c',e,z'⟩
    ·exact .inl q
    ·refine .inr ⟨k,c',e,z'.sameBut hs ?_⟩
     rintro rfl
     exact hj (qG hN e1 (I.ok.inj _ _ _ e hc ▸ hi))
  ·by_cases hcc:c'=c
   ·subst hcc; exact ⟨_,hc'⟩
   ·obtain ⟨w2,z2⟩:=I.cell y c' e
    exact ⟨w2,z2.sameBut hs hcc⟩
  ·obtain ⟨e,n,ne,nf,d⟩:=I.pin p hp
   refine ⟨(hs.2 p.1 ?_).trans e,n,ne,nf,d⟩
   intro q
   rw [q,hoc] at e
   have q':oc=p.2:=Option.some.inj e
   exact d w' (by rw [<- q']; exact hocd)
theorem mL {M:Model} {A:Around} {E:Value->Shared->Prop} {i:Nat} {x:Str} {v:V} {u:Value} {Q:Unit->Shared->Prop} (I:Inv X pins σ H s) (hN:X.N.Nodup) (hi:X.N[i]? = some x) (hx:AZ X.env.scope x) (r:RelV v u)
  (h:∀ s',Inv X pins (σ.set i (some v)) H s'->Q () s') (hf:X.fn x=true\/X.env.scope.names.lookup x=some .local:=by first | exact .inl rfl | exact .inr rfl | assumption):wpAny M A (storeName X.env x u) Q E s:=
 zA I hN hi hx r (fun s' I' _=>h s' I') hf
theorem Inv.call' {s':Shared} {ch:List Addr} (I:Inv X pins σ H s) (ho:s'.os=s.os) (u:Un (kn X.stack) ch H H' s.heap s'.heap) (hok:HOk X.prog X.w H' s'.heap) (hg:AllBare s'.gens)
  (hch:∀ b∈ch,(b∈X.ex\/X.s₀.heap.objs.size<=b)/\b≠X.env.locals/\(∀ x c,X.env.cells.lookup x=some c->c≠b)/\∀ p∈X.pn++pins,p.1≠b):Inv X pins σ H' s':=by
 obtain ⟨h',g',d',t',o'⟩:=s'
 have e:o'=s.os:=ho
 subst e
 exact I.call (g':=g') (t':=t') (d':=d') u hok hg hch
end
noncomputable abbrev XK:=Value->Option Addr->Hp->Prop
noncomputable abbrev St:=List (Option V)
noncomputable abbrev VK:=V->Hp->Prop
noncomputable abbrev TE:=St->Hp->VK->Prop
noncomputable abbrev TT:=St->Hp->(Bool->Hp->Prop)->Prop
noncomputable abbrev TA:=St->Hp->(List V->Hp->Prop)->Prop
structure Ends where
 nx:St->Hp->Prop
 rt:VK
 bk:St->Hp->Prop:=fun _ _=>False
 ct:St->Hp->Prop:=fun _ _=>False
noncomputable abbrev TS:=Ends->St->Hp->Prop
noncomputable def EP (X:Cx) (pins:List (Addr×Obj)) (σ:St) (Q:VK) (u:Value) (s':Shared):Prop:=∃ v H',Inv X pins σ H' s'/\RelV v u/\Q v H'
noncomputable def TP (X:Cx) (pins:List (Addr×Obj)) (σ:St) (Q:Bool->Hp->Prop) (b:Bool) (s':Shared):Prop:=∃ H',Inv X pins σ H' s'/\Q b H'
noncomputable def AP (X:Cx) (pins:List (Addr×Obj)) (σ:St) (Q:List V->Hp->Prop) (us:List Value) (s':Shared):Prop:=∃ vs H',Inv X pins σ H' s'/\Vals vs us/\Q vs H'
noncomputable def SP (X:Cx) (pins:List (Addr×Obj)) (D:Ends) (f:Flow) (s':Shared):Prop:=
 match f with
 | .next=>∃ σ' H',Inv X pins σ' H' s'/\D.nx σ' H'
 | .brk=>∃ σ' H',Inv X pins σ' H' s'/\D.bk σ' H'
 | .cont=>∃ σ' H',Inv X pins σ' H' s'/\D.ct σ' H'
 | .ret u=>∃ v σ' H',Inv X pins σ' H' s'/\RelV v u/\D.rt v H'
noncomputable def PE (X:Cx) (e:Expr) (t:TE):Prop:=
 ∀ (pins:List (Addr×Obj)) (s:Shared) (σ:St) (H:Hp) (Q:VK),Inv X pins σ H s->t σ H Q->wpAny (model X.prog X.w) X.A (eval e X.env) (EP X pins σ Q) X.xe s
noncomputable def PT (X:Cx) (e:Expr) (t:TT):Prop:=
 ∀ (pins:List (Addr×Obj)) (s:Shared) (σ:St) (H:Hp) (Q:Bool->Hp->Prop),Inv X pins σ H s->t σ H Q->wpAny (model X.prog X.w) X.A (isTrue e X.env (eval e X.env)) (TP X pins σ Q) X.xe s
noncomputable def PW (X:Cx) (e:Expr) (t:TT):Prop:=
 ∀ (whole:Sem Value) (pins:List (Addr×Obj)) (s:Shared) (σ:St) (H:Hp) (Q:Bool->Hp->Prop),Inv X pins σ H s->t σ H Q->wpAny (model X.prog X.w) X.A (isTrue e X.env whole) (TP X pins σ Q) X.xe s
theorem PW.pt {X:Cx} {e:Expr} {t:TT} (h:PW X e t):PT X e t:=h _
noncomputable def PA (X:Cx) (es:List Expr) (t:TA):Prop:=
 ∀ (pos:Pos) (pins:List (Addr×Obj)) (s:Shared) (σ:St) (H:Hp) (Q:List V->Hp->Prop),Inv X pins σ H s->t σ H Q->wpAny (model X.prog X.w) X.A (spliced (backTo pos (starEach es X.env))) (AP X pins σ Q) X.xe s
noncomputable def PS (X:Cx) (st:Stmt) (t:TS):Prop:=
 ∀ (pins:List (Addr×Obj)) (s:Shared) (σ:St) (H:Hp) (D:Ends),Inv X pins σ H s->t D σ H->wpAny (model X.prog X.w) X.A (exec st X.env) (SP X pins D) X.xe s
noncomputable def PSs (X:Cx) (st:List Stmt) (t:TS):Prop:=
 ∀ (pins:List (Addr×Obj)) (s:Shared) (σ:St) (H:Hp) (D:Ends),Inv X pins σ H s->t D σ H->wpAny (model X.prog X.w) X.A (execs st X.env) (SP X pins D) X.xe s
theorem dS {α:Type} {t:Sem α} {Q Q':α -> Shared->Prop} {M:Model} {A:Around} {E:Value->Shared->Prop} {s:Shared} (h:wpAny M A t Q E s) (hQ:∀ a s,Q a s->Q' a s):wpAny M A t Q' E s:=wpAny_mono h hQ fun _ _ x=>x
end L2
namespace L2
open PySem PySem.Spec PyProof.Rows
section
variable {X:Cx}
noncomputable def Mn (i:Nat):TE:=fun σ H Q=>∃ v,σ[i]? = some (some v)/\Q v H
noncomputable def tC (v:V):TE:=fun _ H Q=>Q v H
theorem j7 {i:Nat} {x:Str} {pos:Pos} (hN:X.N[i]? = some x) (hv:Dg X.env.scope x) (hd:(x==("__debug__":Str))=false:=by decide) (hcd:(x==("__classdict__":Str))=false:=by decide):PE X (.Name x pos) (Mn i):=by
 intro pins s σ H Q I h
 obtain ⟨v,e,h⟩:=h
 obtain ⟨m,hn,hl⟩:=I.loc
 obtain ⟨u,r,l⟩:=hl i x v hN e hv
 have fin:EP X pins σ Q u s:=⟨v,H,I,r,h⟩
 rcases l with ⟨hk,hm⟩ | ⟨hk,c,hc,hcell⟩
 ·exact wpAny_Name (wpAny_loadName_local I.ok.kind hk hn hm fin) hd
 ·rcases hk with hk | hk
  ·exact wpAny_Name (wpAny_loadName_cell I.ok.kind hk hc hcell fin) hd
  ·exact wpAny_Name (wpAny_loadName_free I.ok.kind hk hc hcell fin hcd) hd
theorem Ie {i j pos}:PE X (.Constant (.int i) j pos) (tC (.int i)):=fun _ _ _ H _ I h=>wpAny_Constant_int ⟨.int i,H,I.tok _,⟨_,rfl⟩,h⟩
theorem Ks {b j pos}:PE X (.Constant (.bool b) j pos) (tC (.bl b)):=fun _ _ _ H _ I h=>Constant_bool ⟨.bl b,H,I,rfl,h⟩
theorem Id {j pos}:PE X (.Constant .none j pos) (tC .non):=fun _ _ _ H _ I h=>Constant_none ⟨.non,H,I,rfl,h⟩
theorem Ia {x j pos}:PE X (.Constant (.str x) j pos) (tC (.str x)):=fun _ _ _ H _ I h=>Calls.Constant_str ⟨.str x,H,I.tok _,⟨_,rfl⟩,h⟩
noncomputable def Gl (X:Cx) (x:Str):Prop:=X.env.kindOf x=some .globalImplicit
theorem lA {E:Value->Shared->Prop} {pins:List (Addr×Obj)} {s:Shared} {σ:St} {H:Hp} {x:Str} {u:Value} {pos:Pos} {Q:Value->Shared->Prop} (I:Inv X pins σ H s) (hg:Gl X x) (hm:X.mg x=some u) (h:Q u s)
  (hd:(x==("__debug__":Str))=false:=by decide):wpAny (model X.prog X.w) X.A (eval (.Name x pos) X.env) Q E s:=
 Calls.Name_function_global I.ok.kind hg (Calls.loadGlobal_global (by rw [I.ok.glob]; exact I.mod.glob.keeps I.bk) hm h) hd
theorem uA {E:Value->Shared->Prop} {pins:List (Addr×Obj)} {s:Shared} {σ:St} {H:Hp} {x:Str} {u:Value} {pos:Pos} {Q:Value->Shared->Prop} (I:Inv X pins σ H s) (hg:Gl X x) (hm:X.mg x=none) (hv:bootBuiltins x=some u) (h:Q u s)
  (hn:x ≠ "__name__":=by decide) (hd:(x==("__debug__":Str))=false:=by decide):wpAny (model X.prog X.w) X.A (eval (.Name x pos) X.env) Q E s:=by
 obtain ⟨mb,h1,h2⟩:=I.mod.blt
 exact Calls.Name_function_global I.ok.kind hg (Calls.loadGlobal_builtin (by rw [I.ok.glob]; exact I.mod.glob.keeps I.bk) hm (by rw [I.ok.blt]; exact h1.keeps I.bk) ((h2 x hn).trans hv) h) hd
theorem ue {x:Str} {v:V} {u:Value} {pos:Pos} (hg:Gl X x) (hm:X.mg x=some u) (r:RelV v u) (hd:(x==("__debug__":Str))=false:=by decide):PE X (.Name x pos) (tC v):=
 fun _ _ _ H _ I h=>lA I hg hm ⟨v,H,I,r,h⟩ hd
theorem yA {x:Str} {v:V} {u:Value} {pos:Pos} (hg:Gl X x) (hm:X.mg x=none) (hv:bootBuiltins x=some u) (r:RelV v u) (hn:x ≠ "__name__":=by decide) (hd:(x==("__debug__":Str))=false:=by decide):PE X (.Name x pos) (tC v):=
 fun _ _ _ H _ I h=>uA I hg hm hv ⟨v,H,I,r,h⟩ hn hd
variable {a b:Expr} {ta tb:TE} {pos:Pos}
noncomputable def tB (t:TE):TT:=fun σ H Q=>t σ H fun x H1=>∃ c,x=.bl c/\Q c H1
theorem HU {e:Expr} {t:TE} (h:PE X e t) (he:∀ whole,isTrue e X.env whole=(do let v <- whole; standAt e.pos; holding [v] (truthy v)):=by intro _; rfl):PT X e (tB t):=by
 intro pins s σ H Q I hw
 refine isTrue_plain (dS (h pins s σ H _ I hw) fun v s1 ⟨x,H1,I1,r1,q1⟩=>?_) (he _)
 obtain ⟨d,rfl,q⟩:=q1
 cases r1
 exact wpAny_truthy_bool ⟨H1,I1,q⟩
variable {tA tB':TT} {rest:List Expr}
noncomputable def Mx (t u:TT):TT:=fun σ H Q=>t σ H fun c H1=>if c=true then u σ H1 Q else Q false H1
noncomputable def Os (t u:TT):TT:=fun σ H Q=>t σ H fun c H1=>if c=true then Q true H1 else u σ H1 Q
noncomputable def Mr (t:TT):TT:=fun σ H Q=>t σ H fun c H1=>Q (!c) H1
theorem EC (ha:PT X a tA):PW X (.BoolOp .And [a] pos) tA:=by
 intro wh pins s σ H Q I h
 refine isTrue_and (dS (ha pins s σ H Q I h) fun c s1 e=>?_)
 cases c with
 | true=>exact isTrue_and_nil e
 | false=>exact e
theorem HQ (ha:PT X a tA):PW X (.BoolOp .Or [a] pos) tA:=by
 intro wh pins s σ H Q I h
 refine isTrue_or (dS (ha pins s σ H Q I h) fun c s1 e=>?_)
 cases c with
 | false=>exact isTrue_or_nil e
 | true=>exact e
theorem HR (ha:PT X a tA) (hb:PW X (.BoolOp .And (b::rest) pos) tB'):PW X (.BoolOp .And (a::b::rest) pos) (Mx tA tB'):=by
 intro wh pins s σ H Q I h
 refine isTrue_and (dS (ha pins s σ H _ I h) fun c s1 ⟨H1,I1,q1⟩=>?_)
 cases c with
 | true=>exact hb wh pins s1 σ H1 Q I1 q1
 | false=>exact ⟨H1,I1,q1⟩
theorem Kn (ha:PT X a tA) (hb:PW X (.BoolOp .Or (b::rest) pos) tB'):PW X (.BoolOp .Or (a::b::rest) pos) (Os tA tB'):=by
 intro wh pins s σ H Q I h
 refine isTrue_or (dS (ha pins s σ H _ I h) fun c s1 ⟨H1,I1,q1⟩=>?_)
 cases c with
 | true=>exact ⟨H1,I1,q1⟩
 | false=>exact hb wh pins s1 σ H1 Q I1 q1
theorem HV (ha:PT X a tA):PT X (.UnaryOp .Not a pos) (Mr tA):=by
 intro pins s σ H Q I h
 exact isTrue_not (ha pins s σ H (fun c H1=>Q (!c) H1) I h)
noncomputable def J9 (ta tb:TE):TE:=fun σ H Q=>ta σ H fun x H1=>∃ c,x=.bl c/\if c=true then tb σ H1 Q else Q (.bl false) H1
noncomputable def J3 (ta:TE):TE:=fun σ H Q=>ta σ H fun x H1=>∃ c,x=.bl c/\Q (.bl (!c)) H1
theorem Ib {op} {t:TE} (h:PE X a t):PE X (.BoolOp op [a] pos) t:=fun pins s σ H Q I hw=>BoolOp_one (h pins s σ H Q I hw)
theorem Ih (ha:PE X a ta) (hb:PE X (.BoolOp .And (b::rest) pos) tb):PE X (.BoolOp .And (a::b::rest) pos) (J9 ta tb):=by
 intro pins s σ H Q I h
 refine BoolOp_and (dS (ha pins s σ H _ I h) fun v s1 ⟨x,H1,I1,r1,q1⟩=>?_)
 obtain ⟨c,rfl,q1⟩:=q1
 cases r1
 refine wpAny_truthy_bool ?_
 cases c with
 | true=>exact hb pins s1 σ H1 Q I1 q1
 | false=>exact ⟨.bl false,H1,I1,rfl,q1⟩
theorem Ic (ha:PE X a ta):PE X (.UnaryOp .Not a pos) (J3 ta):=by
 intro pins s σ H Q I h
 refine UnaryOp_ (dS (ha pins s σ H _ I h) fun v s1 ⟨x,H1,I1,r1,q1⟩=>?_)
 obtain ⟨c,rfl,q1⟩:=q1
 cases r1
 exact not_of (wpAny_truthy_bool ⟨.bl (!c),H1,I1,rfl,q1⟩)
noncomputable def Ou (t:TT) (ta tb:TE):TE:=fun σ H Q=>t σ H fun c H1=>if c=true then ta σ H1 Q else tb σ H1 Q
theorem BR {c:Expr} (hc:PT X c tA) (ha:PE X a ta) (hb:PE X b tb):PE X (.IfExp c a b pos) (Ou tA ta tb):=by
 intro pins s σ H Q I h
 refine wpAny_IfExp (dS (hc pins s σ H _ I h) fun d s1 ⟨H1,I1,q1⟩=>?_)
 cases d with
 | true=>exact ha pins s1 σ H1 Q I1 q1
 | false=>exact hb pins s1 σ H1 Q I1 q1
end
end L2
namespace L2
open PySem PySem.Spec PyProof.Rows
noncomputable def SqL (K:PySem.W.Frag) (H:Hp) (a:Addr) (xs:List V):Prop:=
 Rd H a (.lst xs) \/
  ∃ (o:Obj) (its:Array Value) (n:Nat),K.lookup a=some o/\o.cls=.type "list" /\ o.dict=none/\o.data=.seq its n/\its.size<=sizeLine/\Vals xs its.toList
noncomputable def SqT (K:PySem.W.Frag) (H:Hp) (a:Addr) (xs:List V):Prop:=
 Rd H a (.tup xs) \/
  ∃ (o:Obj) (its:Array Value) (n:Nat),K.lookup a=some o/\o.cls=.type "tuple" /\ o.data=.seq its n/\its.size<=sizeLine/\Vals xs its.toList
noncomputable def NA:Value->Option V
 | .none=>some .non
 | .bool b=>some (.bl b)
 | .int i _=>some (.int i)
 | .str x _=>some (.str x)
 | .bytes b _=>some (.byt b)
 | .float b _=>some (.flt b)
 | .ref a=>some (.ref a)
 | .type n=>some (.ty n)
 | _=>none
theorem RelV.abs {x:V} {u:Value} (r:RelV x u):NA u=some x:=by
 cases x with
 | non=>cases r; rfl
 | bl _=>cases r; rfl
 | int _=>obtain ⟨t,rfl⟩:=r; rfl
 | str _=>obtain ⟨t,rfl⟩:=r; rfl
 | byt _=>obtain ⟨t,rfl⟩:=r; rfl
 | flt _=>obtain ⟨t,rfl⟩:=r; rfl
 | ref _=>cases r; rfl
 | ty _=>cases r; rfl
theorem RelV.inj {x y:V} {u:Value} (r:RelV x u) (q:RelV y u):x=y:=Option.some.inj (r.abs.symm.trans q.abs)
theorem Vals.inj:∀ {xs ys:List V} {us:List Value},Vals xs us->Vals ys us->xs=ys
 | _,_,_,.nil,.nil=>rfl
 | _,_,_,.cons r t,.cons r' t'=>by rw [r.inj r',Vals.inj t t']
section
variable {X:Cx} {pins:List (Addr×Obj)} {σ:St} {H:Hp} {s:Shared} {a:Addr} {xs ys:List V}
theorem SqL.of {K:PySem.W.Frag} (h:H a=some (.lst xs)):SqL K H a xs:=.inl (.inl h)
theorem SqT.of {K:PySem.W.Frag} (h:H a=some (.tup xs)):SqT K H a xs:=.inl (.inl h)
theorem Inv.list (I:Inv X pins σ H s) (h:SqL X.K H a xs):∃ its:List Value,Vals xs its/\PlainL s.heap a its.toArray/\xs.length<=sizeLine:=by
 rcases h with h | ⟨o,its,n,hk,hc,hd,hs,hz,r⟩
 ·obtain ⟨z,its,n,r,e⟩:=h.ok I.hok
  exact ⟨its,r,⟨_,n,e,rfl,rfl,rfl⟩,z⟩
 ·refine ⟨its.toList,r,⟨o,n,I.kIn a o hk,hc,hd,by simpa using hs⟩,?_⟩
  have e:=r.length
  simp only [Array.length_toList] at e
  omega
theorem Inv.tuple (I:Inv X pins σ H s) (h:SqT X.K H a xs):∃ its:List Value,Vals xs its/\IsTup s.heap a its.toArray/\xs.length<=sizeLine:=by
 rcases h with h | ⟨o,its,n,hk,hc,hs,hz,r⟩
 ·obtain ⟨z,its,r,p⟩:=h.ok I.hok
  exact ⟨its,r,p,z⟩
 ·refine ⟨its.toList,r,⟨o,I.kIn a o hk,hc,n,by simpa using hs⟩,?_⟩
  have e:=r.length
  simp only [Array.length_toList] at e
  omega
theorem Inv.list_inj (I:Inv X pins σ H s) (h:SqL X.K H a xs) (h':SqL X.K H a ys):xs=ys:=by
 obtain ⟨its,r,⟨o,n,e,_,_,d⟩,_⟩:=I.list h
 obtain ⟨its',r',⟨o',n',e',_,_,d'⟩,_⟩:=I.list h'
 rw [e] at e'; cases e'
 rw [d] at d'
 injection d' with d1 _
 have:its=its':=by simpa using congrArg Array.toList d1
 subst this
 exact r.inj r'
theorem Inv.tuple_inj (I:Inv X pins σ H s) (h:SqT X.K H a xs) (h':SqT X.K H a ys):xs=ys:=by
 obtain ⟨its,r,⟨o,e,_,n,d⟩,_⟩:=I.tuple h
 obtain ⟨its',r',⟨o',e',_,n',d'⟩,_⟩:=I.tuple h'
 rw [e] at e'; cases e'
 rw [d] at d'
 injection d' with d1 _
 have:its=its':=by simpa using congrArg Array.toList d1
 subst this
 exact r.inj r'
end
noncomputable abbrev Cx.wish (X:Cx) (E:Value->Shared->Prop):Cx:={ X with xe:=E }
noncomputable abbrev Cx.nox (X:Cx):Cx:=X.wish fun _ _=>False
theorem Cx.Ok.wish {X:Cx} (ok:X.Ok) (E:Value->Shared->Prop):(X.wish E).Ok:=
 ⟨ok.mod,ok.kind,ok.glob,ok.blt,ok.above,ok.inj,ok.has,ok.cab,ok.hd,ok.frames,ok.stk,ok.exf,ok.bs,ok.bsz,ok.noex,ok.exfs,ok.funs,ok.frf⟩
theorem Cx.Ok.unwish {X:Cx} {E:Value->Shared->Prop} (ok:(X.wish E).Ok):X.Ok:=
 ⟨ok.mod,ok.kind,ok.glob,ok.blt,ok.above,ok.inj,ok.has,ok.cab,ok.hd,ok.frames,ok.stk,ok.exf,ok.bs,ok.bsz,ok.noex,ok.exfs,ok.funs,ok.frf⟩
section
variable {X:Cx} {pins:List (Addr×Obj)} {σ:St} {H:Hp} {s:Shared} {E:Value->Shared->Prop}
theorem Inv.wish (I:Inv X pins σ H s) (E:Value->Shared->Prop):Inv (X.wish E) pins σ H s:=⟨I.ok.wish E,I.os,I.bare,I.base,I.loc,I.cell,I.free,I.freeC,I.pin,I.hok,I.len⟩
theorem Inv.unwish (I:Inv (X.wish E) pins σ H s):Inv X pins σ H s:=⟨I.ok.unwish,I.os,I.bare,I.base,I.loc,I.cell,I.free,I.freeC,I.pin,I.hok,I.len⟩
theorem SP.unwish {D:Ends} {f:Flow} {s':Shared} (h:SP (X.wish E) pins D f s'):SP X pins D f s':=by
 cases f with
 | next=>obtain ⟨σ',H',I,q⟩:=h; exact ⟨σ',H',I.unwish,q⟩
 | brk=>obtain ⟨σ',H',I,q⟩:=h; exact ⟨σ',H',I.unwish,q⟩
 | cont=>obtain ⟨σ',H',I,q⟩:=h; exact ⟨σ',H',I.unwish,q⟩
 | ret u=>obtain ⟨v,σ',H',I,r,q⟩:=h; exact ⟨v,σ',H',I.unwish,r,q⟩
theorem PE.nox {e:Expr} {t:TE} (h:PE X.nox e t):PE X e t:=fun pins s σ H Q I hw=>
 wpAny_mono (h pins s σ H Q (I.wish _) hw) (fun _ _ ⟨v,H',I',r,q⟩=>⟨v,H',I'.unwish,r,q⟩) fun _ _ z=>False.elim z
theorem PT.nox {e:Expr} {t:TT} (h:PT X.nox e t):PT X e t:=fun pins s σ H Q I hw=>
 wpAny_mono (h pins s σ H Q (I.wish _) hw) (fun _ _ ⟨H',I',q⟩=>⟨H',I'.unwish,q⟩) fun _ _ z=>False.elim z
theorem PSs.nox {st:List Stmt} {t:TS} (h:PSs X.nox st t):PSs X st t:=fun pins s σ H D I hw=>
 wpAny_mono (h pins s σ H D (I.wish _) hw) (fun _ _ q=>q.unwish) fun _ _ z=>False.elim z
end
section
variable {X:Cx} {st:Stmt} {rest:List Stmt} {t u:TS} {e:Expr} {te:TE} {pos:Pos}
noncomputable def J4:TS:=fun D σ H=>D.nx σ H
noncomputable def Mp (t u:TS):TS:=fun D σ H=>t { D with nx:=u D } σ H
theorem yw:PSs X [] J4:=fun _ _ σ H _ I h=>wpAny_execs_nil ⟨σ,H,I,h⟩
theorem j6 (h1:PS X st t) (h2:PSs X rest u):PSs X (st::rest) (Mp t u):=by
 intro pins s σ H D I h
 refine wpAny_execs_cons (dS (h1 pins s σ H { D with nx:=u D } I h) fun f s1 q=>?_)
 cases f with
 | next=>
  obtain ⟨σ',H',I',q⟩:=q
  exact h2 pins s1 σ' H' D I' q
 | ret v=>exact q
 | brk=>exact q
 | cont=>exact q
theorem t9 (h1:PS X st t):PSs X [st] t:=by
 intro pins s σ H D I h
 refine wpAny_execs_cons (dS (h1 pins s σ H D I h) fun f s1 q=>?_)
 cases f with
 | next=>exact wpAny_execs_nil q
 | ret v=>exact q
 | brk=>exact q
 | cont=>exact q
theorem Inv.quiet {pins:List (Addr×Obj)} {σ:St} {H:Hp} {s:Shared} (I:Inv X pins σ H s):interactive X.env=false:=by simp [interactive,I.ok.kind]
noncomputable def J5 (te:TE):TS:=fun D σ H=>te σ H fun _ H1=>D.nx σ H1
theorem pP (he:PE X e te) (hs:swapsWith e none pos.line X.env=pure false:=by rfl):PS X (.Expr e pos) (J5 te):=by
 intro pins s σ H D I h
 exact wpAny_Expr_any (dS (he pins s σ H _ I h) fun v s1 ⟨x,H1,I1,r1,q1⟩=>⟨σ,H1,I1,q1⟩) I.quiet hs
noncomputable def Mq (te:TE):TS:=fun D σ H=>te σ H D.rt
theorem ub (he:PE X e te):PS X (.Return (some e) pos) (Mq te):=by
 intro pins s σ H D I h
 exact wpAny_Return_some (dS (he pins s σ H _ I h) fun v s1 ⟨x,H1,I1,r1,q1⟩=>⟨x,σ,H1,I1,r1,q1⟩)
noncomputable def Mu (c:TT) (t u:TS):TS:=fun D σ H=>c σ H fun b H1=>if b=true then t D σ H1 else u D σ H1
theorem BI {c:Expr} {a b:List Stmt} {tc:TT} (hc:PT X c tc) (ha:PSs X a t) (hb:PSs X b u):PS X (.If c a b pos) (Mu tc t u):=by
 intro pins s σ H D I h
 refine wpAny_If (dS (hc pins s σ H _ I h) fun d s1 ⟨H1,I1,q1⟩=>?_)
 cases d with
 | true=>exact ha pins s1 σ H1 D I1 q1
 | false=>exact hb pins s1 σ H1 D I1 q1
end
noncomputable abbrev TG:=V->St->Hp->(St->Hp->Prop)->Prop
noncomputable abbrev Oe:=List V->St->Hp->(St->Hp->Prop)->Prop
noncomputable def PG (X:Cx) (target:Expr) (t:TG):Prop:=
 ∀ (pins:List (Addr×Obj)) (s:Shared) (σ:St) (H:Hp) (v:V) (u:Value) (Q:St->Hp->Prop),Inv X pins σ H s->RelV v u->t v σ H Q ->
  wpAny (model X.prog X.w) X.A (assign target X.env u) (fun _ s'=>∃ σ' H',Inv X pins σ' H' s'/\Q σ' H') X.xe s
noncomputable def PGs (X:Cx) (ts:List Expr) (t:Oe):Prop:=
 ∀ (pins:List (Addr×Obj)) (s:Shared) (σ:St) (H:Hp) (vs:List V) (us:List Value) (Q:St->Hp->Prop),Inv X pins σ H s->Vals vs us->t vs σ H Q ->
  wpAny (model X.prog X.w) X.A (assignInOrder ((assignEach ts X.env).map (·.2)) us) (fun _ s'=>∃ σ' H',Inv X pins σ' H' s'/\Q σ' H') X.xe s
noncomputable abbrev JE:=V->V->V->Hp->(Hp->Prop)->Prop
noncomputable def LC (X:Cx) (t:JE):Prop:=
 ∀ (pins:List (Addr×Obj)) (s:Shared) (σ:St) (H:Hp) (o i v:V) (ov iv u:Value) (Q:Hp->Prop),Inv X pins σ H s->RelV o ov->RelV i iv->RelV v u->t o i v H Q ->
  wpAny (model X.prog X.w) X.A (setItem ov iv u) (fun _ s'=>∃ H',Inv X pins σ H' s'/\Q H') X.xe s
section
variable {X:Cx} {pos:Pos}
noncomputable def CH (i:Nat):TG:=fun v σ H Q=>Q (σ.set i (some v)) H
theorem bW {i:Nat} {x:Str} (hN:X.N.Nodup) (hi:X.N[i]? = some x) (hx:AZ X.env.scope x) (hf:X.fn x=true\/X.env.scope.names.lookup x=some .local:=by first | exact .inl rfl | exact .inr rfl | assumption):PG X (.Name x pos) (CH i):=by
 intro pins s σ H v u Q I r h
 exact wpAny_assign_Name (mL I hN hi hx r (fun s' I'=>⟨_,H,I',h⟩) hf)
noncomputable def Nd (to ti:TE) (t:JE):TG:=fun v σ H Q=>to σ H fun o H1=>ti σ H1 fun i H2=>t o i v H2 fun H3=>Q σ H3
theorem H0 {o i:Expr} {to ti:TE} {t:JE} (ho:PE X o to) (hi:PE X i ti) (hs:LC X t)
  (ha:∀ v,assign (.Subscript o i pos) X.env v=(do
   let ov <- holding [v] (eval o X.env)
   let iv <- holding [v,ov] (eval i X.env)
   standAt pos
   holding [v,ov,iv] (setItem ov iv v)
   release [v,ov,iv] []):=by intro _; rfl):PG X (.Subscript o i pos) (Nd to ti t):=by
 intro pins s σ H v u Q I r h
 rw [ha]
 refine wpAny_bind (wpAny_holding (dS (ho pins s σ H _ I h) fun ov s1 ⟨x,H1,I1,r1,q1⟩=>?_))
 refine wpAny_bind (wpAny_holding (dS (hi pins s1 σ H1 _ I1 q1) fun iv s2 ⟨y,H2,I2,r2,q2⟩=>?_))
 refine wpAny_bind (wpAny_standAt (wpAny_bind (wpAny_holding (dS (hs pins s2 σ H2 x y v ov iv u _ I2 r1 r2 r q2) fun _ s3 ⟨H3,I3,q3⟩=>?_))))
 exact wpAny_release ⟨σ,H3,I3,q3⟩
noncomputable def J8 (te:TE) (g:TG):TS:=fun D σ H=>te σ H fun x H1=>g x σ H1 D.nx
theorem HX {tg e:Expr} {te:TE} {g:TG} (he:PE X e te) (hg:PG X tg g) (hs:swapsWithSole [tg] e pos.line X.env=pure false:=by rfl) (hw:swappedStores [tg] e X.env=pure none:=by rfl)
  (h1:(assignEach [tg] X.env).map (·.2)=[assign tg X.env]:=by rfl):PS X (.Assign [tg] e pos) (J8 te g):=by
 intro pins s σ H D I h
 refine wpAny_Assign_stores (dS (he pins s σ H _ I h) fun v s1 ⟨x,H1,I1,r1,q1⟩=>?_) hs hw
 rw [h1]
 exact dS (hg pins s1 σ H1 x v _ I1 r1 q1) fun _ s2 q=>q
theorem ua {i:Nat} {x:Str} {e:Expr} {te:TE} {pos':Pos} (hN:X.N.Nodup) (hi:X.N[i]? = some x) (hx:AZ X.env.scope x) (he:PE X e te) (hs:swapsWith e (some (.Name x pos')) pos.line X.env=pure false:=by rfl) (hf:X.fn x=true\/X.env.scope.names.lookup x=some .local:=by first | exact .inl rfl | exact .inr rfl | assumption) :
  PS X (.Assign [.Name x pos'] e pos) (J8 te (CH i)):=by
 intro pins s σ H D I h
 refine wpAny_Assign_Name (dS (he pins s σ H _ I h) fun v s1 ⟨y,H1,I1,r1,q1⟩=>?_) hs
 exact mL I1 hN hi hx r1 (fun s2 I2=>⟨_,H1,I2,q1⟩) hf
end
section
variable {X:Cx} {pos:Pos}
noncomputable def Hu (c:TT) (tb:TS):TS:=fun D σ H=>∃ W:Nat->St->Hp->Prop,(∃ m,W m σ H)/\∀ m σ H,W m σ H ->
 c σ H fun b H1=>if b=true then ∃ N:St->Hp->Prop,(∀ σ' H',N σ' H'->∃ m',m'<m/\W m' σ' H')/\tb { D with nx:=N,ct:=N,bk:=D.nx } σ H1 else D.nx σ H1
theorem BH {c:Expr} {body:List Stmt} {tc:TT} {tb:TS} (hp:PassesOwn (model X.prog X.w) X.A X.env X.xe) (hc:PT X c tc) (hb:PSs X body tb):PS X (.While c body [] pos) (Hu tc tb):=by
 intro pins s σ H D I h
 obtain ⟨W,⟨m0,w0⟩,turn⟩:=h
 refine wpAny_While (codeAny_whileLoop (fun n s'=>∃ σ' H',Inv X pins σ' H' s'/\W n σ' H') ?_ m0 ⟨σ,H,I,w0⟩)
 rintro n s1 ⟨σ1,H1,I1,w1⟩
 refine wpAny_passesOwn hp (dS (hc pins s1 σ1 H1 _ I1 (turn n σ1 H1 w1)) fun b s2 ⟨H2,I2,q2⟩=>?_)
 cases b with
 | true=>
  obtain ⟨N,hN,q2⟩:=q2
  rw [if_pos rfl]
  refine wpAny_passesOwn hp (dS (hb pins s2 σ1 H2 _ I2 q2) fun f s3 q3=>?_)
  cases f with
  | next=>
   obtain ⟨σ3,H3,I3,n3⟩:=q3
   obtain ⟨m',hm,w3⟩:=hN σ3 H3 n3
   exact ⟨m',hm,σ3,H3,I3,w3⟩
  | cont=>
   obtain ⟨σ3,H3,I3,n3⟩:=q3
   obtain ⟨m',hm,w3⟩:=hN σ3 H3 n3
   exact ⟨m',hm,σ3,H3,I3,w3⟩
  | brk=>exact q3
  | ret v=>exact q3
 | false=>
  rw [if_neg Bool.false_ne_true]
  exact wpAny_execs_nil ⟨σ1,H2,I2,q2⟩
end
structure It where
 go:Nat->Hp->Prop
 yld:Nat->Hp->V->Hp->Prop
 stop:Nat->Hp->Prop
noncomputable def lJ (X:Cx) (pins:List (Addr×Obj)) (H:Hp) (b:Addr):Prop:=
 H b=none/\b≠X.env.locals/\b ∉ X.fs/\(b∈X.ex\/X.s₀.heap.objs.size<=b)/\(∀ x c,X.env.cells.lookup x=some c->c≠b)/\∀ p∈X.pn++pins,p.1≠b
theorem Inv.fpOk {X:Cx} {pins:List (Addr×Obj)} {σ:St} {H H':Hp} {s:Shared} {b:Addr} (I:Inv X pins σ H s) (hb:s.heap.objs.size<=b) (hn:H' b=none):lJ X pins H' b:=by
 refine ⟨hn,Nat.ne_of_gt (Nat.lt_of_lt_of_le I.lt hb),I.nofs hb,.inr (Nat.le_trans I.sz hb),fun x c e z=>?_,fun p hp z=>?_⟩
 ·obtain ⟨v,q⟩:=I.cell x c e
  exact absurd (Nat.lt_of_lt_of_le q.lt (by rw [z]; exact hb)) (Nat.lt_irrefl _)
 ·exact absurd (Nat.lt_of_lt_of_le (Heap.lt_size (I.pin p hp).1) (by rw [z]; exact hb)) (Nat.lt_irrefl _)
structure TurnG (Cm:Cx->Prop) (P:Program) (w:World) (K:PySem.W.Frag) (tg:Expr) (J:It) (fp:List Addr) (it:Addr) (tn:Nat->Heap->Prop):Prop where
 mem:it∈fp
 obj:∀ i h,tn i h->∀ b∈fp,∃ o,h.get? b=some o/\∀ v,o.data≠.cell v
 keep:∀ i h h',tn i h->(∀ b∈fp,∀ o,h.get? b=some o->h'.get? b=some o)->tn i h'
 item:∀ (X:Cx),X.prog=P->X.w=w->X.K=K->Cm X->∀ (i:Nat) (pins:List (Addr×Obj)) (s:Shared) (σ:St) (H:Hp) (E:Value->Shared->Prop),Inv X pins σ H s->(∀ b∈fp,lJ X pins H b)->tn i s.heap->J.go i H ->
  wpAny (model P w) X.A (pyNext (.ref it)) (fun r s1=>∃ u,r=some u /\
   wpAny (model P w) X.A (letOwnedTupleGo tg (.ref it) u) (fun _ s2=>∃ x H',Inv X pins σ H' s2/\RelV x u/\J.yld i H x H'/\tn (i+1) s2.heap/\∀ b∈fp,H' b=none) E s1) E s
 done:∀ (X:Cx),X.prog=P->X.w=w->X.K=K->Cm X->∀ (i:Nat) (pins:List (Addr×Obj)) (s:Shared) (σ:St) (H:Hp) (E:Value->Shared->Prop),Inv X pins σ H s->(∀ b∈fp,lJ X pins H b)->tn i s.heap->J.stop i H ->
  wpAny (model P w) X.A (pyNext (.ref it)) (fun r s1=>r=none/\Inv X pins σ H s1) E s
 self:∀ (A:Around) (i:Nat) (s:Shared) (Q:Value->Shared->Prop) (E:Value->Shared->Prop),tn i s.heap->Q (.ref it) s->wpAny (model P w) A (pyIter (.ref it)) Q E s
noncomputable abbrev Dh (P:Program) (w:World) (K:PySem.W.Frag) (tg:Expr) (J:It) (fp:List Addr) (it:Addr) (tn:Nat->Heap->Prop):Prop:=TurnG (fun X=>X.calm=true) P w K tg J fp it tn
noncomputable abbrev TI:=St->Hp->(It->Hp->Prop)->Prop
noncomputable def Of (X:Cx) (pins:List (Addr×Obj)) (σ:St) (tg:Expr) (R:It->Hp->Prop) (itv:Value) (s2:Shared):Prop:=
 ∃ (it:Addr) (fp:List Addr) (tn:Nat->Heap->Prop) (J:It) (H':Hp),itv=.ref it/\Inv X pins σ H' s2/\Dh X.prog X.w X.K tg J fp it tn/\tn 0 s2.heap/\(∀ b∈fp,lJ X pins H' b)/\R J H'
noncomputable def PI (X:Cx) (tg iter:Expr) (wi:TI):Prop:=
 ∀ (pins:List (Addr×Obj)) (s:Shared) (σ:St) (H:Hp) (R:It->Hp->Prop),Inv X pins σ H s->wi σ H R ->
  wpAny (model X.prog X.w) X.A (eval iter X.env) (fun v s1=>wpAny (model X.prog X.w) X.A (pyIter v) (Of X pins σ tg R) X.xe s1) X.xe s
theorem CC {M:Model} {A:Around} {E:Value->Shared->Prop} {s:Shared} {tg:Expr} {it:Addr} {u:Value} {o:Obj} {n:String} {vs:Array Value} {Q:Unit->Shared->Prop} (ho:s.heap.get? it=some o) (hc:o.cls=.type n) (hd:o.data=.fields vs)
  (hn:["enumerate","zip","dict_itemiterator","dict_reverseitemiterator","odict_iterator","itertools.zip_longest","itertools.pairwise"].contains n=false) (hQ:Q () s):wpAny M A (letOwnedTupleGo tg (.ref it) u) Q E s:=by
 unfold letOwnedTupleGo
 cases tg <;> first
  | exact wpAny_pure hQ
  | (cases u <;> first
    | exact wpAny_pure hQ
    | (refine wpAny_bind (wpAny_load ho ?_)
       rw [hc,hd]
       show wpAny M A (if (["enumerate","zip","dict_itemiterator","dict_reverseitemiterator","odict_iterator","itertools.zip_longest","itertools.pairwise"].contains n&&vs[0]? == some (rawInt _))=true then _ else _) Q E s
       rw [if_neg (by intro h; rw [hn,Bool.false_and] at h; cases h)]
       exact wpAny_pure hQ))
noncomputable def Oi (K:PySem.W.Frag) (a:Addr):It:=
 ⟨fun i H=>∃ xs x,SqL K H a xs/\xs[i]? = some x,fun i H x H'=>H'=H/\∀ xs,SqL K H a xs->xs[i]? = some x,fun i H=>∃ xs,SqL K H a xs/\xs.length<=i⟩
noncomputable def Oh (K:PySem.W.Frag) (a:Addr):It:=
 ⟨fun i H=>∃ xs x,SqT K H a xs/\xs[i]? = some x,fun i H x H'=>H'=H/\∀ xs,SqT K H a xs->xs[i]? = some x,fun i H=>∃ xs,SqT K H a xs/\xs.length<=i⟩
noncomputable def JQ (lo:Int) (n:Nat):It:=⟨fun i _=>i<n,fun i H x H'=>H'=H/\x=.int (lo+i),fun i _=>n<=i⟩
theorem zr {P:Program} {w:World} {K:PySem.W.Frag} {tg:Expr} (a it:Addr):Dh P w K tg (Oi K a) [it] it (fun i h=>h.IsListIter it a i) where
 mem:=by simp
 obj:=fun i h st b hb=>by
  have e:b=it:=by simpa using hb
  subst e
  obtain ⟨o,e,c,d⟩:=st
  exact ⟨o,e,fun v z=>by rw [d] at z; cases z⟩
 keep:=fun i h h' st k=>st.at fun o e=>k it (by simp) o e
 item:=by
  intro X hP hw hK hc i pins s σ H E I hf st hg
  subst hP hw hK
  obtain ⟨xs,x,hq,hx⟩:=hg
  obtain ⟨its,rv,p,hz⟩:=I.list hq
  obtain ⟨u,hu,ru⟩:=rv.get hx
  obtain ⟨f0,f1,f2,f3,f4,f5⟩:=hf it (by simp)
  refine wpAny_pyNext_list_item st p.isList (x:=u) (by simpa using hu) fun h' st' sb=>?_
  have I1:Inv X pins σ H { s with heap:=h' }:=I.turned (t':=s.toks) (fun b o hb e=>(sb.2 b hb).trans e) f0 f1 f3 f4 f5
  obtain ⟨o,e,c,d⟩:=id st'
  exact ⟨u,rfl,CC (s:={ s with heap:=h' }) e c d (by decide) ⟨x,H,I1,ru,⟨rfl,fun ys hy=>by rw [I.list_inj hy hq]; exact hx⟩,st',fun b hb=>(hf b hb).1⟩⟩
 done:=by
  intro X hP hw hK hc i pins s σ H E I hf st hg
  subst hP hw hK
  obtain ⟨xs,hq,hx⟩:=hg
  obtain ⟨its,rv,p,hz⟩:=I.list hq
  obtain ⟨f0,f1,f2,f3,f4,f5⟩:=hf it (by simp)
  have hl:=rv.length
  exact wpAny_pyNext_list_end (I.ok.hd hc) st p.isList (by simp; omega) fun h' eb=>⟨rfl,I.turned (t':=s.toks) (fun b o hb e=>eb b o hb e) f0 f1 f3 f4 f5⟩
 self:=fun _ _ _ _ _ st h=>wpAny_pyIter_listiter st h
theorem wJ {P:Program} {w:World} {K:PySem.W.Frag} {tg:Expr} (a it:Addr):Dh P w K tg (Oh K a) [it] it (fun i h=>h.IsTupleIter it a i) where
 mem:=by simp
 obj:=fun i h st b hb=>by
  have e:b=it:=by simpa using hb
  subst e
  obtain ⟨o,e,c,d⟩:=st
  exact ⟨o,e,fun v z=>by rw [d] at z; cases z⟩
 keep:=fun i h h' st k=>st.at fun o e=>k it (by simp) o e
 item:=by
  intro X hP hw hK hc i pins s σ H E I hf st hg
  subst hP hw hK
  obtain ⟨xs,x,hq,hx⟩:=hg
  obtain ⟨its,rv,p,hz⟩:=I.tuple hq
  obtain ⟨u,hu,ru⟩:=rv.get hx
  obtain ⟨f0,f1,f2,f3,f4,f5⟩:=hf it (by simp)
  refine wpAny_pyNext_tuple_item st (show s.heap.IsTuple a its.toArray from p) (x:=u) (by simpa using hu) fun h' st' sb=>?_
  have I1:Inv X pins σ H { s with heap:=h' }:=I.turned (t':=s.toks) (fun b o hb e=>(sb.2 b hb).trans e) f0 f1 f3 f4 f5
  obtain ⟨o,e,c,d⟩:=id st'
  exact ⟨u,rfl,CC (s:={ s with heap:=h' }) e c d (by decide) ⟨x,H,I1,ru,⟨rfl,fun ys hy=>by rw [I.tuple_inj hy hq]; exact hx⟩,st',fun b hb=>(hf b hb).1⟩⟩
 done:=by
  intro X hP hw hK hc i pins s σ H E I hf st hg
  subst hP hw hK
  obtain ⟨xs,hq,hx⟩:=hg
  obtain ⟨its,rv,p,hz⟩:=I.tuple hq
  obtain ⟨f0,f1,f2,f3,f4,f5⟩:=hf it (by simp)
  have hl:=rv.length
  exact wpAny_pyNext_tuple_end (I.ok.hd hc) st (show s.heap.IsTuple a its.toArray from p) (by simp; omega) fun h' eb=>⟨rfl,I.turned (t':=s.toks) (fun b o hb e=>eb b o hb e) f0 f1 f3 f4 f5⟩
 self:=fun _ _ _ _ _ st h=>wpAny_pyIter_tupleiter st h
theorem wK {P:Program} {w:World} {K:PySem.W.Frag} {tg:Expr} (it:Addr) (lo:Int) (n:Nat):Dh P w K tg (JQ lo n) [it] it (fun i h=>IsRangeIter h it (lo+(i:Nat)*1) ((n:Int)-(i:Nat)) 1) where
 mem:=by simp
 obj:=fun i h st b hb=>by
  have e:b=it:=by simpa using hb
  subst e
  exact ⟨_,st,fun v z=>by
   have z':Data.fields _=Data.cell v:=z
   cases z'⟩
 keep:=fun i h h' st k=>k it (by simp) _ st
 item:=by
  intro X hP hw hK hc i pins s σ H E I hf st hg
  subst hP hw hK
  obtain ⟨f0,f1,f2,f3,f4,f5⟩:=hf it (by simp)
  have W:=Walks.range (prog:=X.prog) (w:=X.w) (I.ok.hd hc) it lo 1 n
  refine W.item i s _ _ hg st fun v h' tk hv st' kk=>?_
  obtain ⟨t,rfl⟩:=hv
  have I1:Inv X pins σ H { s with heap:=h',toks:=tk }:=I.turned (fun b o hb e=>kk b o (by simpa using hb) e) f0 f1 f3 f4 f5
  refine ⟨_,rfl,CC (s:={ s with heap:=h',toks:=tk }) (n:="range_iterator") st' rfl rfl (by decide) ⟨.int (lo+i),H,I1,⟨t,?_⟩,⟨rfl,rfl⟩,st',fun b hb=>(hf b hb).1⟩⟩
  rw [Int.mul_one]
 done:=by
  intro X hP hw hK hc i pins s σ H E I hf st hg
  subst hP hw hK
  obtain ⟨f0,f1,f2,f3,f4,f5⟩:=hf it (by simp)
  exact wpAny_pyNext_range_end (I.ok.hd hc) st (by have:n<=i:=hg; omega) fun h' eb=>⟨rfl,I.turned (t':=s.toks) (fun b o hb e=>eb b o hb e) f0 f1 f3 f4 f5⟩
 self:=fun _ _ _ _ _ st h=>wpAny_pyIter_rangeiter st h
end L2
namespace L2
open PySem PySem.Spec PyProof.Rows
section
variable {X:Cx} {tg:Expr}
noncomputable def Ld (K:PySem.W.Frag) (tl:TE):TI:=fun σ H R=>tl σ H fun x H1=>∃ a,x=.ref a/\(∃ xs,SqL K H1 a xs)/\R (Oi K a) H1
noncomputable def M7 (K:PySem.W.Frag) (tl:TE):TI:=fun σ H R=>tl σ H fun x H1=>∃ a,x=.ref a/\(∃ xs,SqT K H1 a xs)/\R (Oh K a) H1
theorem EJ {l:Expr} {tl:TE} (hl:PE X l tl):PI X tg l (Ld X.K tl):=by
 intro pins s σ H R I h
 refine dS (hl pins s σ H _ I h) fun v s1 ⟨x,H1,I1,r1,q1⟩=>?_
 obtain ⟨a,e,⟨xs,hq⟩,q⟩:=q1
 subst e
 cases r1
 obtain ⟨its,rv,p,hz⟩:=I1.list hq
 refine wpAny_pyIter_list p.isList ?_
 refine ⟨s1.heap.objs.size,[s1.heap.objs.size],_,_,H1,rfl,I1.kept (t':=s1.toks) fun b o e=>Heap.get?_push_of_some _ e,zr a _,⟨_,Heap.get?_push_size _ rfl,rfl,rfl⟩,fun b hb=>?_,q⟩
 have e:b=s1.heap.objs.size:=by simpa using hb
 subst e
 exact I1.fpOk (Nat.le_refl _) (I1.hok.fresh (Nat.le_refl _))
theorem HZ {l:Expr} {tl:TE} (hl:PE X l tl):PI X tg l (M7 X.K tl):=by
 intro pins s σ H R I h
 refine dS (hl pins s σ H _ I h) fun v s1 ⟨x,H1,I1,r1,q1⟩=>?_
 obtain ⟨a,e,⟨xs,hq⟩,q⟩:=q1
 subst e
 cases r1
 obtain ⟨its,rv,p,hz⟩:=I1.tuple hq
 refine wpAny_pyIter_tuple (show s1.heap.IsTuple a its.toArray from p) ?_
 refine ⟨s1.heap.objs.size,[s1.heap.objs.size],_,_,H1,rfl,I1.kept (t':=s1.toks) fun b o e=>Heap.get?_push_of_some _ e,wJ a _,⟨_,Heap.get?_push_size _ rfl,rfl,rfl⟩,fun b hb=>?_,q⟩
 have e:b=s1.heap.objs.size:=by simpa using hb
 subst e
 exact I1.fpOk (Nat.le_refl _) (I1.hok.fresh (Nat.le_refl _))
theorem BF {pins:List (Addr×Obj)} {σ:St} {H:Hp} {s:Shared} {R:It->Hp->Prop} {E:Value->Shared->Prop} {lo hi:Int} {t u v:Tok} {tk:Nat} (I:Inv X pins σ H s) (h1:-(2 ^ 62)<=lo) (h2:lo<2 ^ 62) (h3:-(2 ^ 62)<=hi) (h4:hi<2 ^ 62)
  (q:R (JQ lo (hi-lo).toNat) H):wpAny (model X.prog X.w) X.A (pyIter (.ref s.heap.objs.size)) (Of X pins σ tg R) E { s with heap:=s.heap.push { cls:=.type "range",data:=.fields #[.int lo t,.int hi u,.int 1 v] },toks:=tk }:=by
 refine wpAny_pyIter_range (IsRange.new ..) (small_one h1 h2 h3 h4) ?_
 have I1:Inv X pins σ H { s with heap:=s.heap.push { cls:=.type "range",data:=.fields #[.int lo t,.int hi u,.int 1 v] },toks:=tk }:=I.kept fun b o e=>Heap.get?_push_of_some _ e
 refine ⟨(s.heap.push { cls:=.type "range",data:=.fields #[.int lo t,.int hi u,.int 1 v] }).objs.size,[(s.heap.push { cls:=.type "range",data:=.fields #[.int lo t,.int hi u,.int 1 v] }).objs.size],_,_,H,rfl,
  I1.kept (t':=tk) fun b o e=>Heap.get?_push_of_some _ e,wK _ lo (hi-lo).toNat,?_,fun b hb=>?_,q⟩
 ·have e1:lo+((0:Nat):Int)*1=lo:=by simp
  have e2:(((hi-lo).toNat:Nat):Int)-((0:Nat):Int)=Builtin.Range.rangeSize lo hi 1:=by rw [rangeSize_one]; split <;> omega
  show IsRangeIter _ _ (lo+((0:Nat):Int)*1) ((((hi-lo).toNat:Nat):Int)-((0:Nat):Int)) 1
  rw [e1,e2]
  exact Heap.get?_push_size _ rfl
 ·have e:b=(s.heap.push { cls:=.type "range",data:=.fields #[.int lo t,.int hi u,.int 1 v] }).objs.size:=by simpa using hb
  subst e
  exact I1.fpOk (Nat.le_refl _) (I1.hok.fresh (Nat.le_refl _))
noncomputable def Lc (ta:TA):TI:=fun σ H R=>ta σ H fun vs H1=>∃ j:Int,vs=[.int j] /\ -(2 ^ 62)<=j/\j<2 ^ 62/\R (JQ 0 j.toNat) H1
theorem zL {a:Expr} {ta:TA} {p pos:Pos} (hg:Gl X "range") (hm:X.mg "range" = none) (ha:PA X [a] ta) (hs:starEach [a] X.env=[(false,eval a X.env)]:=by rfl):PI X tg (.Call (.Name "range" p) [a] [] pos) (Lc ta):=by
 intro pins s σ H R I h
 refine Call_ (uA I hg hm boot_range (PyProof.Rows.callWith_type1 (dS (ha pos pins s σ H _ I h) fun us s1 ⟨vs,H1,I1,r1,q1⟩=>?_) hs rfl))
 obtain ⟨j,e,q1,q2,q⟩:=q1
 subst e
 cases r1 with
 | cons r rr=>
  cases rr
  obtain ⟨t,rfl⟩:=r
  exact call_range_1 (BF I1 (by omega) (by omega) q1 q2 (by simpa using q))
noncomputable def Mv (wi:TI) (g:TG) (tb:TS):TS:=fun D σ H=>wi σ H fun J H1=>∃ W:Nat->Nat->St->Hp->Prop,(∃ m,W 0 m σ H1)/\∀ i m σ H,W i m σ H ->
 (J.stop i H/\D.nx σ H)\/(J.go i H/\∃ N:St->Hp->Prop,(∀ σ' H',N σ' H'->∃ m',m'<m/\W (i+1) m' σ' H')/\∀ x H',J.yld i H x H'->g x σ H' fun σ2 H2=>tb { D with nx:=N,ct:=N,bk:=D.nx } σ2 H2)
noncomputable def ud (fp:List Addr) (h:Heap):List (Addr×Obj):=fp.filterMap fun b=>(h.get? b).map fun o=>(b,o)
theorem en {fp:List Addr} {h:Heap} {b:Addr} {o:Obj} (hb:b∈fp) (e:h.get? b=some o):(b,o)∈ud fp h:=List.mem_filterMap.mpr ⟨b,hb,by rw [e]; rfl⟩
theorem zY {fp:List Addr} {h:Heap} {p:Addr×Obj} (hp:p∈ud fp h):p.1∈fp/\h.get? p.1=some p.2:=by
 obtain ⟨b,hb,e⟩:=List.mem_filterMap.mp hp
 cases q:h.get? b with
 | none=>rw [q] at e; cases e
 | some o=>
  rw [q] at e
  have e':(b,o)=p:=Option.some.inj e
  subst e'
  exact ⟨hb,q⟩
theorem Inv.pinned {pins:List (Addr×Obj)} {σ:St} {H:Hp} {s:Shared} {fp:List Addr} (I:Inv X pins σ H s) (hf:∀ b∈fp,lJ X pins H b) (ho:∀ b∈fp,∃ o,s.heap.get? b=some o/\∀ v,o.data≠.cell v):Inv X (pins++ud fp s.heap) σ H s:=
 I.pins_of fun p hp=>(List.mem_append.mp hp).elim (fun z=>I.pin p (List.mem_append_right _ z)) fun z=>by
  obtain ⟨hb,e⟩:=zY z
  obtain ⟨f0,f1,f2,_⟩:=hf p.1 hb
  obtain ⟨o,e',d⟩:=ho p.1 hb
  rw [e] at e'; cases e'
  exact ⟨e,f0,f1,f2,d⟩
theorem Inv.unpinned {pins pl:List (Addr×Obj)} {σ:St} {H:Hp} {s:Shared} (I:Inv X (pins++pl) σ H s):Inv X pins σ H s:=I.pins_of fun p hp=>I.pin p (List.mem_append_right _ (List.mem_append_left _ hp))
theorem HW {iter:Expr} {body:List Stmt} {wi:TI} {g:TG} {tb:TS} {pos:Pos} (hp:PassesOwn (model X.prog X.w) X.A X.env X.xe) (hc:X.calm=true) (hi:PI X tg iter wi) (hg:PG X tg g) (hb:PSs X body tb)
  (hs:∀ x,foldedSetIterable iter X.env x=pure x:=by intro _; rfl):PS X (.For tg iter body [] pos) (Mv wi g tb):=by
 intro pins s σ H D I h
 refine wpAny_For (dS (hi pins s σ H _ I h) fun v s1 h1=>dS h1 fun itv s2 h2=>?_) hs
 obtain ⟨it,fp,tn,J,H2,e,I2,T,st2,f2,W,⟨m0,w0⟩,turn⟩:=h2
 subst e
 have stat:∀ {H':Hp},(∀ b∈fp,H' b=none)->∀ b∈fp,lJ X pins H' b:=fun hn b hb=>⟨hn b hb,(f2 b hb).2⟩
 refine codeAny_forLoop_any (fun n s'=>∃ i σ' H',Inv X pins σ' H' s'/\tn i s'.heap/\(∀ b∈fp,H' b=none)/\W i n σ' H') ?_ m0 ⟨0,σ,H2,I2,st2,fun b hb=>(f2 b hb).1,w0⟩
 rintro n s3 ⟨i,σ3,H3,I3,st3,fr3,w3⟩
 rcases turn i n σ3 H3 w3 with ⟨stop,qn⟩ | ⟨go,N,hN,step⟩
 ·refine wpAny_passesOwn hp (dS (T.done X rfl rfl rfl hc i pins s3 σ3 H3 X.xe I3 (stat fr3) st3 stop) fun r s4 ⟨hr,I4⟩=>?_)
  subst hr
  exact wpAny_execs_nil ⟨σ3,H3,I4,qn⟩
 ·refine wpAny_passesOwn hp (dS (T.item X rfl rfl rfl hc i pins s3 σ3 H3 X.xe I3 (stat fr3) st3 go) fun r s4 ⟨u,hr,h4⟩=>?_)
  subst hr
  refine wpAny_passesOwn hp (dS h4 fun _ s5 ⟨x,H5,I5,r5,y5,st5,fr5⟩=>?_)
  have I5':=I5.pinned (stat fr5) (T.obj _ _ st5)
  refine wpAny_passesOwn hp (dS (hg _ s5 σ3 H5 x u _ I5' r5 (step x H5 y5)) fun _ s6 ⟨σ6,H6,I6,q6⟩=>?_)
  refine wpAny_passesOwn hp (dS (hb _ s6 σ6 H6 _ I6 q6) fun f s7 q7=>?_)
  have again:∀ {σ7:St} {H7:Hp},Inv X (pins++ud fp s5.heap) σ7 H7 s7->N σ7 H7->∃ m,m<n/\∃ i σ' H',Inv X pins σ' H' s7/\tn i s7.heap/\(∀ b∈fp,H' b=none)/\W i m σ' H':=fun {σ7 H7} I7 n7=>by
   obtain ⟨m',hm,w7⟩:=hN σ7 H7 n7
   refine ⟨m',hm,i+1,σ7,H7,I7.unpinned,T.keep _ _ _ st5 fun b hb o e=>(I7.pin (b,o) (List.mem_append_right _ (List.mem_append_right _ (en hb e)))).1,fun b hb=>?_,w7⟩
   obtain ⟨o,e,d⟩:=T.obj _ _ st5 b hb
   exact (I7.pin (b,o) (List.mem_append_right _ (List.mem_append_right _ (en hb e)))).2.1
  cases f with
  | next=>obtain ⟨σ7,H7,I7,n7⟩:=q7; exact again I7 n7
  | cont=>obtain ⟨σ7,H7,I7,n7⟩:=q7; exact again I7 n7
  | brk=>obtain ⟨σ7,H7,I7,q7⟩:=q7; exact ⟨σ7,H7,I7.unpinned,q7⟩
  | ret v=>obtain ⟨x7,σ7,H7,I7,r7,q7⟩:=q7; exact ⟨x7,σ7,H7,I7.unpinned,r7,q7⟩
end
end L2
namespace L2
open PySem PySem.Spec PyProof.Rows
noncomputable abbrev R2:=V->V->Hp->VK->Prop
noncomputable def OpR (X:Cx) (f:Value->Value->Sem Value) (r:R2):Prop:=
 ∀ (pins:List (Addr×Obj)) (s:Shared) (σ:St) (H:Hp) (x y:V) (v u:Value) (Q:VK),Inv X pins σ H s->RelV x v->RelV y u->r x y H Q ->
  wpAny (model X.prog X.w) X.A (f v u) (EP X pins σ Q) X.xe s
noncomputable def LA (X:Cx) (f:Value->Sem Value) (r:V->Hp->VK->Prop):Prop:=
 ∀ (pins:List (Addr×Obj)) (s:Shared) (σ:St) (H:Hp) (x:V) (v:Value) (Q:VK),Inv X pins σ H s->RelV x v->r x H Q ->
  wpAny (model X.prog X.w) X.A (f v) (EP X pins σ Q) X.xe s
noncomputable def CallR (X:Cx) (f:Value) (r:List V->Hp->VK->Prop):Prop:=
 ∀ (pins:List (Addr×Obj)) (s:Shared) (σ:St) (H:Hp) (xs:List V) (us:List Value) (Q:VK),Inv X pins σ H s->Vals xs us->r xs H Q ->
  wpAny (model X.prog X.w) X.A (call f us) (EP X pins σ Q) X.xe s
noncomputable def J2 (r:R2) (ta tb:TE):TE:=fun σ H Q=>ta σ H fun x H1=>tb σ H1 fun y H2=>r x y H2 Q
noncomputable def Oo (r:V->Hp->VK->Prop) (ta:TE):TE:=fun σ H Q=>ta σ H fun x H1=>r x H1 Q
noncomputable def rI (C:Int->Int->Prop) (g:Int->Int->V):R2:=fun x y H Q=>∃ i j,x=.int i/\y=.int j/\C i j/\Q (g i j) H
noncomputable def BG (g:Int->Int->V):R2:=fun x y H Q=>∃ i j,x=.int i/\y=.int j/\Q (g i j) H
noncomputable def rU (g:Int->V):V->Hp->VK->Prop:=fun x H Q=>∃ i,x=.int i/\Q (g i) H
section
variable {X:Cx} {a b c:Expr} {ta tb tc:TE} {pos:Pos}
theorem Jw (ha:PE X a ta) (hb:PE X b tb) {pins:List (Addr×Obj)} {s:Shared} {σ:St} {H:Hp} {R:V->V->Hp->Prop} (I:Inv X pins σ H s)
  (h:ta σ H fun x H1=>tb σ H1 fun y H2=>R x y H2) {Q:Value->Shared->Prop} {f:Value->Value->Sem Value}
  (hf:∀ v u s2 x y H2,Inv X pins σ H2 s2->RelV x v->RelV y u->R x y H2->wpAny (model X.prog X.w) X.A (f v u) Q X.xe s2) :
  wpAny (model X.prog X.w) X.A (eval a X.env) (fun v s₁=>wpAny (model X.prog X.w) X.A (eval b X.env) (fun u s₂=>wpAny (model X.prog X.w) X.A (f v u) Q X.xe s₂) X.xe s₁) X.xe s:=by
 refine dS (ha pins s σ H _ I h) fun v s1 ⟨x,H1,I1,r1,q1⟩=>?_
 refine dS (hb pins s1 σ H1 _ I1 q1) fun u s2 ⟨y,H2,I2,r2,q2⟩=>?_
 exact hf v u s2 x y H2 I2 r1 r2 q2
theorem Kr {op:Operator} {r:R2} (ho:OpR X (binaryOp op) r) (ha:PE X a ta) (hb:PE X b tb):PE X (.BinOp a op b pos) (J2 r ta tb):=by
 intro pins s σ H Q I h
 exact wpAny_BinOp (Jw ha hb I h fun v u s2 x y H2 I2 rx ry q=>ho pins s2 σ H2 x y v u Q I2 rx ry q)
theorem Kq {op:UnaryOp} {r:V->Hp->VK->Prop} (ho:LA X (unaryOp op) r) (ha:PE X a ta):PE X (.UnaryOp op a pos) (Oo r ta):=by
 intro pins s σ H Q I h
 exact UnaryOp_ (dS (ha pins s σ H _ I h) fun v s1 ⟨x,H1,I1,r1,q1⟩=>ho pins s1 σ H1 x v Q I1 r1 q1)
theorem Kw {f:Value->Value->Sem Value} {C:Int->Int->Prop} {g:Int->Int->Int}
  (rule:∀ (i j:Int) (t u:Tok) (s:Shared) (Q:Value->Shared->Prop) (E:Value->Shared->Prop),C i j->Q (.int (g i j) s.toks) { s with toks:=s.toks+1 }->wpAny (model X.prog X.w) X.A (f (.int i t) (.int j u)) Q E s) :
  OpR X f (rI C fun i j=>.int (g i j)):=by
 intro pins s σ H x y v u Q I rx ry h
 obtain ⟨i,j,rfl,rfl,hc,q⟩:=h
 obtain ⟨t,rfl⟩:=rx
 obtain ⟨t',rfl⟩:=ry
 exact rule i j t t' s _ _ hc ⟨.int (g i j),H,I.tok _,⟨_,rfl⟩,q⟩
theorem BY {f:Value->Value->Sem Value} {g:Int->Int->Int}
  (rule:∀ (i j:Int) (t u:Tok) (s:Shared) (Q:Value->Shared->Prop) (E:Value->Shared->Prop),Q (.int (g i j) s.toks) { s with toks:=s.toks+1 }->wpAny (model X.prog X.w) X.A (f (.int i t) (.int j u)) Q E s) :
  OpR X f (BG fun i j=>.int (g i j)):=by
 intro pins s σ H x y v u Q I rx ry h
 obtain ⟨i,j,rfl,rfl,q⟩:=h
 obtain ⟨t,rfl⟩:=rx
 obtain ⟨t',rfl⟩:=ry
 exact rule i j t t' s _ _ ⟨.int (g i j),H,I.tok _,⟨_,rfl⟩,q⟩
theorem Kx {f:Value->Value->Sem Value} {g:Int->Int->Bool}
  (rule:∀ (i j:Int) (t u:Tok) (s:Shared) (Q:Value->Shared->Prop) (E:Value->Shared->Prop),Q (.bool (g i j)) s->wpAny (model X.prog X.w) X.A (f (.int i t) (.int j u)) Q E s) :
  OpR X f (BG fun i j=>.bl (g i j)):=by
 intro pins s σ H x y v u Q I rx ry h
 obtain ⟨i,j,rfl,rfl,q⟩:=h
 obtain ⟨t,rfl⟩:=rx
 obtain ⟨t',rfl⟩:=ry
 exact rule i j t t' s _ _ ⟨.bl (g i j),H,I,rfl,q⟩
noncomputable def NJ (i j:Int):Prop:=0<j/\j<1073741824
noncomputable def CMul (i j:Int):Prop:=(-(2 ^ 64)<i/\i<2 ^ 64)\/(-(2 ^ 64)<j/\j<2 ^ 64)
theorem CMul.ok {i j:Int} (h:CMul i j):IntMulOk i j:=by
 rcases h with ⟨h1,h2⟩ | ⟨h1,h2⟩
 ·exact .of_left (intBits_le_64 h1 h2)
 ·exact .of_right (intBits_le_64 h1 h2)
theorem wI (k:Nat):(0:Int)<=2 ^ k:=by
 rw [two_pow_cast]
 exact Int.natCast_nonneg _
theorem Iu:OpR X (binaryOp .Add) (BG fun i j=>.int (i+j)):=BY fun _ _ _ _ _ _ _ q=>add_int q
theorem Il:OpR X (binaryOp .Sub) (BG fun i j=>.int (i-j)):=BY fun _ _ _ _ _ _ _ q=>sub_int q
theorem ER:OpR X (binaryOp .FloorDiv) (rI NJ fun i j=>.int (i / j)):=Kw fun i j _ _ _ _ _ hc q=>by
 have h1:(0:Int)<j:=hc.1
 have h2:j<1073741824:=hc.2
 exact floordiv_int (by omega) (by rw [Int.fdiv_eq_ediv_of_nonneg i (by omega)]; exact q) (.inl (PyProof.noPylong_small (by omega)))
theorem Io:OpR X (binaryOp .Mod) (rI (fun _ j=>0<j) fun i j=>.int (i % j)):=Kw fun i j _ _ _ _ _ hc q=>by
 have h1:(0:Int)<j:=hc
 exact mod_int' (by omega) (by rw [Int.fmod_eq_emod_of_nonneg i (by omega)]; exact q)
theorem Im:OpR X (binaryOp .RShift) (rI (fun _ j=>0<=j) fun i j=>.int (i / 2 ^ j.toNat)):=Kw fun i j _ _ _ _ _ hc q=>
 rshift_int hc (by rw [Int.fdiv_eq_ediv_of_nonneg i (wI _)]; exact q)
theorem Ir:OpR X (binaryOp .BitAnd) (BG fun i j=>.int (Builtin.bitAnd i j)):=BY fun _ _ _ _ _ _ _ q=>and_int q
theorem Kt:OpR X (binaryOp .BitOr) (BG fun i j=>.int (Builtin.bitOr i j)):=BY fun _ _ _ _ _ _ _ q=>or_int q
theorem Ik:OpR X (binaryOp .BitXor) (BG fun i j=>.int (Builtin.bitXor i j)):=BY fun _ _ _ _ _ _ _ q=>xor_int q
theorem Ol {f:Value->Sem Value} {g:Int->Int}
  (rule:∀ (i:Int) (t:Tok) (s:Shared) (Q:Value->Shared->Prop) (E:Value->Shared->Prop),Q (.int (g i) s.toks) { s with toks:=s.toks+1 }->wpAny (model X.prog X.w) X.A (f (.int i t)) Q E s) :
  LA X f (rU fun i=>.int (g i)):=by
 intro pins s σ H x v Q I rx h
 obtain ⟨i,rfl,q⟩:=h
 obtain ⟨t,rfl⟩:=rx
 exact rule i t s _ _ ⟨.int (g i),H,I.tok _,⟨_,rfl⟩,q⟩
theorem Hh:LA X (unaryOp .USub) (rU fun i=>.int (-i)):=Ol fun _ _ _ _ _ q=>neg_int q
end
section
variable {X:Cx} {a b c:Expr} {ta tb tc:TE} {pos:Pos}
theorem CK {pins:List (Addr×Obj)} {σ:St} {H:Hp} {s:Shared} {Q:VK} {k k':Bool} (I:Inv X pins σ H s) (q:Q (.bl k) H) (e:k=k'):EP X pins σ Q (.bool k') s:=by
 subst e
 exact ⟨.bl k,H,I,rfl,q⟩
theorem Ku:OpR X (compareOp .Lt) (BG fun i j=>.bl (decide (i<j))):=Kx fun _ _ _ _ _ _ _ q=>lt_int q
theorem Kv:OpR X (compareOp .Gt) (BG fun i j=>.bl (decide (j<i))):=Kx fun _ _ _ _ _ _ _ q=>gt_int q
theorem Iq:OpR X (compareOp .Is) (fun x y H Q=>y=.non/\Q (.bl (decide (x=.non))) H):=by
 intro pins s σ H x y v u Q I rx ry h
 obtain ⟨rfl,q⟩:=h
 cases ry
 refine is_none_gen (CK I q ?_)
 cases x <;> first
  | (cases rx; rfl)
  | (obtain ⟨t,rfl⟩:=rx; rfl)
theorem EQ:OpR X (compareOp .IsNot) (fun x y H Q=>y=.non/\Q (.bl (!decide (x=.non))) H):=by
 intro pins s σ H x y v u Q I rx ry h
 obtain ⟨rfl,q⟩:=h
 cases ry
 refine isnot_none_gen (CK I q ?_)
 cases x <;> first
  | (cases rx; rfl)
  | (obtain ⟨t,rfl⟩:=rx; rfl)
theorem OpR.or {f:Value->Value->Sem Value} {r r':R2} (h:OpR X f r) (h':OpR X f r'):OpR X f (fun x y H Q=>r x y H Q\/r' x y H Q):=by
 intro pins s σ H x y v u Q I rx ry q
 rcases q with q | q
 ·exact h pins s σ H x y v u Q I rx ry q
 ·exact h' pins s σ H x y v u Q I rx ry q
theorem az (b:Expr) {op:CmpOp} (h:op≠.In:=by decide) (h2:op≠.NotIn:=by decide):behindInMarks op b=false:=by
 have e1:(op==CmpOp.In)=false:=by cases op <;> first | rfl | exact absurd rfl h
 have e2:(op==CmpOp.NotIn)=false:=by cases op <;> first | rfl | exact absurd rfl h2
 cases b <;> simp [behindInMarks,e1,e2]
theorem EL {op:CmpOp} {r:R2} (ho:OpR X (compareOp op) r) (ha:PE X a ta) (hb:PE X b tb) (hm:behindInMarks op b=false):PE X (.Compare a [op] [b] pos) (J2 r ta tb):=by
 intro pins s σ H Q I h
 exact wpAny_Compare1 (Jw ha hb I h fun v u s2 x y H2 I2 rx ry q=>ho pins s2 σ H2 x y v u Q I2 rx ry q) hm
noncomputable def J0 (t:TE):TT:=fun σ H Q=>t σ H fun x H'=>∃ k,x=.bl k/\Q k H'
theorem ED {op:CmpOp} {r:R2} (ho:OpR X (compareOp op) r) (ha:PE X a ta) (hb:PE X b tb) (hm:behindInMarks op b=false):PT X (.Compare a [op] [b] pos) (J0 (J2 r ta tb)):=by
 intro pins s σ H Q I h
 refine wpAny_isTrue_Compare1 (dS (ha pins s σ H _ I h) fun v s1 ⟨x,H1,I1,r1,q1⟩=>dS (hb pins s1 σ H1 _ I1 q1) fun u s2 ⟨y,H2,I2,r2,q2⟩=>
  dS (ho pins s2 σ H2 x y v u _ I2 r1 r2 q2) fun c s3 ⟨z,H3,I3,r3,k,e,q3⟩=>?_) hm
 subst e
 cases r3
 exact wpAny_truthy_bool ⟨H3,I3,q3⟩
theorem uy:(sizeLine:Nat)<2 ^ 63:=by rw [sizeLine_eq]; decide
theorem wX:OpR X (binaryOp .Add) (fun x y H Q=>∃ i j,x=.str i/\y=.str j/\i.length+j.length<=sizeLine/\Q (.str (i++j)) H):=by
 intro pins s σ H x y v u Q I rx ry h
 obtain ⟨i,j,rfl,rfl,hz,q⟩:=h
 obtain ⟨t,rfl⟩:=rx
 obtain ⟨t',rfl⟩:=ry
 exact add_str (fun t' tk=>⟨.str (i++j),H,I.tok _,⟨_,rfl⟩,q⟩) hz
theorem sw {x:V} {us:List Value} (r:Vals [x] us):∃ u,us=[u]/\RelV x u:=by
 cases r with
 | cons r1 r2=>cases r2; exact ⟨_,rfl,r1⟩
theorem vd {x y:V} {us:List Value} (r:Vals [x,y] us):∃ u w',us=[u,w']/\RelV x u/\RelV y w':=by
 cases r with
 | cons r1 r2=>
  cases r2 with
  | cons r3 r4=>cases r4; exact ⟨_,_,rfl,r1,r3⟩
theorem AF (hc:X.calm=true):CallR X (.builtin "max") (fun xs H Q=>∃ i j,xs=[.int i,.int j]/\Q (.int (if j>i then j else i)) H):=by
 intro pins s σ H xs us Q I r h
 obtain ⟨i,j,rfl,q⟩:=h
 obtain ⟨u,w',rfl,⟨t,rfl⟩,⟨t',rfl⟩⟩:=vd r
 refine max_two_ints (I.ok.hd hc) fun h' tk k=>⟨_,H,I.kept k,?_,q⟩
 by_cases hj:j>i
 ·rw [if_pos hj,if_pos hj]; exact ⟨_,rfl⟩
 ·rw [if_neg hj,if_neg hj]; exact ⟨_,rfl⟩
theorem AE (hc:X.calm=true):CallR X (.builtin "min") (fun xs H Q=>∃ i j,xs=[.int i,.int j]/\Q (.int (if j<i then j else i)) H):=by
 intro pins s σ H xs us Q I r h
 obtain ⟨i,j,rfl,q⟩:=h
 obtain ⟨u,w',rfl,⟨t,rfl⟩,⟨t',rfl⟩⟩:=vd r
 refine min_two_ints (I.ok.hd hc) fun h' tk k=>⟨_,H,I.kept k,?_,q⟩
 by_cases hj:j<i
 ·rw [if_pos hj,if_pos hj]; exact ⟨_,rfl⟩
 ·rw [if_neg hj,if_neg hj]; exact ⟨_,rfl⟩
theorem AG:CallR X (.type "int") (fun xs H Q=>(∃ i,xs=[.int i]/\Q (.int i) H)\/∃ k,xs=[.bl k]/\Q (.int (if k then 1 else 0)) H):=by
 intro pins s σ H xs us Q I r h
 rcases h with ⟨i,rfl,q⟩ | ⟨k,rfl,q⟩
 ·obtain ⟨u,rfl,t,rfl⟩:=sw r
  exact call_int_int ⟨.int i,H,I,⟨_,rfl⟩,q⟩
 ·obtain ⟨u,rfl,r1⟩:=sw r
  cases r1
  exact call_int_bool ⟨.int (if k then 1 else 0),H,I.tok _,⟨_,rfl⟩,q⟩
noncomputable def NI (K:PySem.W.Frag) (x:V) (H:Hp) (n:Nat):Prop:=
 match x with
 | .str y=>y.length<=sizeLine/\n=y.length
 | .byt y=>y.size<=sizeLine/\n=y.size
 | .ref p=>(∃ xs,SqL K H p xs/\n=xs.length)\/∃ xs,SqT K H p xs/\n=xs.length
 | _=>False
theorem CZ:CallR X (.builtin "len") (fun xs H Q=>∃ x n,xs=[x]/\NI X.K x H n/\Q (.int n) H):=by
 intro pins s σ H xs us Q I r h
 obtain ⟨x,n,rfl,e,q⟩:=h
 obtain ⟨u,rfl,rx⟩:=sw r
 have hl:=uy
 have hs:sizeLine=16777216:=sizeLine_eq
 cases x with
 | str y=>
  obtain ⟨t,rfl⟩:=rx
  obtain ⟨hy,e'⟩:y.length<=sizeLine/\n=y.length:=e
  subst e'
  exact len_str (by omega) ⟨.int _,H,I.tok _,⟨_,rfl⟩,q⟩
 | byt y=>
  obtain ⟨t,rfl⟩:=rx
  obtain ⟨hy,e'⟩:y.size<=sizeLine/\n=y.size:=e
  subst e'
  exact PySem.W.len_bytes (by omega) ⟨.int _,H,I.tok _,⟨_,rfl⟩,q⟩
 | ref p=>
  cases rx
  have e':(∃ xs,SqL X.K H p xs/\n=xs.length)\/∃ xs,SqT X.K H p xs/\n=xs.length:=e
  rcases e' with ⟨xs,hx,e'⟩ | ⟨xs,hx,e'⟩
  ·subst e'
   obtain ⟨its,r',pl,hz⟩:=I.list hx
   have hlen:=r'.length
   exact Calls.call_len_list pl.isList (by simp only [List.size_toArray]; omega) ⟨.int xs.length,H,I.tok _,⟨_,by simp only [List.size_toArray]; rw [hlen]⟩,q⟩
  ·subst e'
   obtain ⟨its,r',pl,hz⟩:=I.tuple hx
   have hlen:=r'.length
   exact len_tuple pl (by simp only [List.size_toArray]; omega) ⟨.int xs.length,H,I.tok _,⟨_,by simp only [List.size_toArray]; rw [hlen]⟩,q⟩
 | _=>exact (show False from e).elim
end
end L2
namespace L2
open PySem PySem.Spec PyProof.Rows
structure ObjM (h:Heap) (x dx C:Addr) (mA:Str->Option Value):Prop where
 obj:h.get? x=some (PySem.W.instObj C dx)
 ns:h.Ns1 dx mA
 ne:dx≠x
theorem Aj {h:Heap} {dx:Addr} {mA:Str->Option Value} (n:h.Ns1 dx mA):∃ od,h.get? dx=some od/\∀ name,PySem.W.lookIn name od=some (mA name):=by
 obtain ⟨o,es,ep,ho,hd,hk,_,hm⟩:=n
 refine ⟨o,ho,fun name=>?_⟩
 have e:=hm name
 unfold nsFind findBy at e
 rw [<- Array.find?_toList] at e
 unfold PySem.W.lookIn
 rw [hd]
 dsimp only
 split
 ·rename_i y q
  rw [q] at e
  exact congrArg some e
 ·rename_i q
  rw [q] at e
  have a:es.toList.any (·.refKey)=false:=by
   rw [List.any_eq_false]
   intro y hy
   obtain ⟨z,t,hkey⟩:=hk y (Array.mem_toList_iff.mp hy)
   simp [DictEntry.refKey,hkey]
  have a':¬ es.toList.any (·.refKey)=true:=by rw [a]; exact Bool.false_ne_true
  rw [if_neg a']
  exact congrArg some e
theorem ObjM.look {h:Heap} {x dx C:Addr} {mA:Str->Option Value} (I:ObjM h x dx C mA):∃ od,PySem.W.InstAt h x (PySem.W.instObj C dx) C (some od)/\∀ name,PySem.W.lookIn name od=some (mA name):=
 let ⟨od,ho,hl⟩:=Aj I.ns
 ⟨od,⟨I.obj,rfl,rfl,ho⟩,hl⟩
section
variable {prog:Program} {w:World} {A:Around} {E:Value->Shared->Prop} {s:Shared} {K:PySem.W.Frag} {x dx C f:Addr} {mA:Str->Option Value} {name:Str} {v:Value}
end
theorem RelO.some_of {v:V} {o:Option Value} (r:RelO (some v) o):∃ u,o=some u/\RelV v u:=by
 cases o with
 | none=>exact (show False from r).elim
 | some u=>exact ⟨u,rfl,r⟩
section
variable {P:Program} {w:World} {H H':Hp} {h h':Heap} {a C dx:Addr} {fs fs':List (Str×V)}
theorem FM (hok:HOk P w H h) (e:H a=some (.ins C dx fs)):∃ mA,ObjM h a dx C mA/\(∀ f,RelO (fs.lookup f) (mA f))/\PySem.Within mA (fs.map (·.1))/\fs.length<=1000/\H dx=some (.own a):=by
 obtain ⟨d,z,ne,ob,mA,n,r,q⟩:=(show ObjOk P w H h a (.ins C dx fs) from hok a _ e)
 exact ⟨mA,⟨ob,n,ne⟩,r,q,z,d⟩
end
structure Cls (K:PySem.W.Frag) (C:Addr):Prop where
 pg:PySem.W.plainGet K C Str.empty=true
 hd:PySem.W.hasDictIn K C=true
 po:PySem.W.plainOver K C=true
 sa:PySem.W.findIn K (.ref C) "__setattr__" = some (some (.builtin "object.__setattr__"))
theorem Cls.get {K:PySem.W.Frag} {C:Addr} (c:Cls K C) (f:Str):PySem.W.plainGet K C f=true:=c.pg
structure Con (K:PySem.W.Frag) (C:Addr) (f:Str) (v:V) (u:Value):Prop where
 at_:PySem.W.findIn K (.ref C) f=some (some u)
 rel:RelV v u
 get:PySem.W.specialIn K u "__get__" = some none
 cp:PySem.W.copiedNames.contains f=false
structure Meth (K:PySem.W.Frag) (C:Addr) (m:Str) (f:Addr):Prop where
 at_:PySem.W.findIn K (.ref C) m=some (some (.ref f))
 fn:PySem.W.isFn K (.ref f)=true
 kp:PySem.W.keepIn K (.ref f)=true
section
variable {X:Cx} {pins:List (Addr×Obj)} {σ:St} {H:Hp} {s:Shared} {a C dx:Addr} {fs:List (Str×V)} {f:Str} {v:V} {A:Around} {E:Value->Shared->Prop}
theorem Inv.made (I:Inv X pins σ H s):Inv X pins σ (eA (eA H s.heap.objs.size (.own (s.heap.objs.size+1))) (s.heap.objs.size+1) (.ins C s.heap.objs.size []))
  { s with heap:=(s.heap.push PySem.W.emptyDict).push (PySem.W.instObj C s.heap.objs.size) }:=by
 have e1:(s.heap.push PySem.W.emptyDict).get? s.heap.objs.size=some PySem.W.emptyDict:=Heap.get?_push_size s.heap rfl
 have e2:((s.heap.push PySem.W.emptyDict).push (PySem.W.instObj C s.heap.objs.size)).get? (s.heap.objs.size+1)=some (PySem.W.instObj C s.heap.objs.size):=by
  have:=Heap.get?_push_size (s.heap.push PySem.W.emptyDict) (o:=PySem.W.instObj C s.heap.objs.size) rfl
  rwa [Heap.size_push] at this
 have e3:(s.heap.push PySem.W.emptyDict).Ns s.heap.objs.size (fun _=>none):=⟨PySem.W.emptyDict,#[],_,e1,rfl,(fun e he=>absurd he (by simp)),fun _=>rfl⟩
 have I1:=I.laid (a:=s.heap.objs.size) (o:=.own (s.heap.objs.size+1)) (h':=s.heap.push PySem.W.emptyDict) (t':=s.toks) (fun b u q=>Heap.get?_push_of_some _ q) (Nat.le_refl _) ⟨_,e1⟩
 refine I1.laid (a:=s.heap.objs.size+1) (o:=.ins C s.heap.objs.size []) (t':=s.toks) (fun b u q=>Heap.get?_push_of_some _ q) (Nat.le_of_eq (Heap.size_push _ _)) ?_
 have ne:s.heap.objs.size≠s.heap.objs.size+1:=Nat.ne_of_lt (Nat.lt_succ_self _)
 refine ⟨by rw [aI ne,aR],Nat.zero_le _,ne,e2,fun _=>none,(Heap.Ns1.of_empty e3).at fun o q=>Heap.get?_push_of_some _ q,fun _=>True.intro,fun y hy=>absurd rfl hy⟩
end
section
variable {X:Cx} {o e value:Expr} {f:Str} {pos pos' tpos:Pos} {ta tv:TE}
end
section
variable {X:Cx} {pins:List (Addr×Obj)} {σ:St} {H:Hp} {s:Shared} {A:Around} {E:Value->Shared->Prop} {Q:Value->Shared->Prop} {c:Value} {b:Bool}
inductive TyOf (K:PySem.W.Frag) (H:Hp):V->Value->Prop where
 | non:TyOf K H .non (.type "NoneType")
 | bl (x:Bool):TyOf K H (.bl x) (.type "bool")
 | int (i:Int):TyOf K H (.int i) (.type "int")
 | str (x:Str):TyOf K H (.str x) (.type "str")
 | flt (x:UInt64):TyOf K H (.flt x) (.type "float")
 | lst {a:Addr} {xs:List V} (e:H a=some (.lst xs)):TyOf K H (.ref a) (.type "list")
 | frz {a:Addr} {o:Obj} {xs:List V} (e:H a=some (.frz o (.lst xs))):TyOf K H (.ref a) (.type "list")
 | tup {a:Addr} {xs:List V} (e:H a=some (.tup xs)):TyOf K H (.ref a) (.type "tuple")
 | dK {a:Addr} {kvs:List (eM×V)} (e:H a=some (.dK kvs)):TyOf K H (.ref a) (.type "dict")
 | dT {a:Addr} {kvs:List (List eM×V)} (e:H a=some (.dT kvs)):TyOf K H (.ref a) (.type "dict")
 | ins {a C dx:Addr} {fs:List (Str×V)} (e:H a=some (.ins C dx fs)) (cl:Cls K C) (ha:PySem.W.findIn K (.ref C) "__class__" = some (some (.builtin "object.__class__")))
   (hn:PySem.W.specialIn K (.builtin "object.__class__") "__get__" = some (some (.builtin "getset_descriptor.__get__"))) (htk:PySem.W.takesIn K (.builtin "object.__class__")=some true)
   (hm:PySem.W.mroIn K C (.type "object")=some true):TyOf K H (.ref a) (.ref C)
theorem lB {x:V} {u t:Value} (I:Inv X pins σ H s) (rx:RelV x u) (ty:TyOf X.K H x t) (e:PySem.W.kitOne X.K t c=some b) (h:∀ tk,Q (.bool b) { s with toks:=tk }) :
  wpAny (model X.prog X.w) A (call (.builtin "isinstance") [u,c]) Q E s:=by
 cases ty with
 | non=>cases (show u=Value.none from rx); exact PySem.W.kia_one PySem.W.kitx_none I.kIn True.intro e (fun z=>nomatch z) h
 | bl y=>cases (show u=Value.bool y from rx); exact PySem.W.kia_one PySem.W.kitx_bool I.kIn True.intro e (fun z=>nomatch z) h
 | int i=>obtain ⟨t,q⟩:=(show ∃ t,u=Value.int i t from rx); cases q; exact PySem.W.kia_one PySem.W.kitx_int I.kIn True.intro e (fun z=>nomatch z) h
 | str y=>obtain ⟨t,q⟩:=(show ∃ t,u=Value.str y t from rx); cases q; exact PySem.W.kia_one PySem.W.kitx_str I.kIn True.intro e (fun z=>nomatch z) h
 | flt y=>obtain ⟨t,q⟩:=(show ∃ t,u=Value.float y t from rx); cases q; exact PySem.W.kia_one PySem.W.kitx_float I.kIn True.intro e (fun z=>nomatch z) h
 | @lst a xs ea=>
  cases (show u=Value.ref a from rx)
  obtain ⟨_,_,n,_,h1⟩:=(show ObjOk X.prog X.w H s.heap a (.lst xs) from I.hok a _ ea)
  exact PySem.W.kia_one PySem.W.kitx_list I.kIn ⟨_,h1,rfl⟩ e (fun z=>nomatch z) h
 | @frz a ob xs ea=>
  cases (show u=Value.ref a from rx)
  obtain ⟨_,_,_,n,_,h1⟩:=(show ObjOk X.prog X.w H s.heap a (.frz ob (.lst xs)) from I.hok a _ ea)
  exact PySem.W.kia_one PySem.W.kitx_list I.kIn ⟨_,h1,rfl⟩ e (fun z=>nomatch z) h
 | @tup a xs ea=>
  cases (show u=Value.ref a from rx)
  obtain ⟨_,_,_,p⟩:=(show ObjOk X.prog X.w H s.heap a (.tup xs) from I.hok a _ ea)
  obtain ⟨o,h1,h2,_⟩:=p
  exact PySem.W.kia_one PySem.W.kitx_tuple I.kIn ⟨o,h1,h2⟩ e (fun z=>nomatch z) h
 | @dK a kvs ea=>
  cases (show u=Value.ref a from rx)
  obtain ⟨_,_,vs,_,p⟩:=(show ObjOk X.prog X.w H s.heap a (.dK kvs) from I.hok a _ ea)
  obtain ⟨o,es,ep,h1,h2,_⟩:=p
  exact PySem.W.kia_one PySem.W.kitx_dict I.kIn ⟨o,h1,h2.1⟩ e (fun z=>nomatch z) h
 | @dT a kvs ea=>
  cases (show u=Value.ref a from rx)
  obtain ⟨_,_,xs,_,o,es,ep,h1,h2,_⟩:=(show ObjOk X.prog X.w H s.heap a (.dT kvs) from I.hok a _ ea)
  exact PySem.W.kia_one PySem.W.kitx_dict I.kIn ⟨o,h1,h2.1⟩ e (fun z=>nomatch z) h
 | @ins a C dx fs ea cl ha hn htk hm=>
  cases (show u=Value.ref a from rx)
  obtain ⟨mA,O,_⟩:=FM I.hok ea
  obtain ⟨od,J,_⟩:=O.look
  exact PySem.W.kia_one (PySem.W.kitx_own (cl.get _) cl.hd ha hn htk hm) I.kIn J e (fun z=>nomatch z) h
end
end L2
namespace L2
open PySem PySem.Spec PyProof.Rows
structure Room (k:Nat) (A:Around):Prop where
 hd:A.handled=none
 dp:A.depth+3*k+5<recursionLimit
 un:A.units+16*k+200<cLine
theorem Room.mono {j k:Nat} {A:Around} (r:Room k A) (h:j<=k):Room j A:=⟨r.hd,by have:=r.dp; omega,by have:=r.un; omega⟩
theorem Room.deeper {k:Nat} {A:Around} (r:Room (k+1) A) (env:Env):Room k (A.deeper env):=
 ⟨r.hd,by have:=r.dp; show A.depth+1+3*k+5<_; omega,by have:=r.un; show A.units+3+16*k+200<_; omega⟩
theorem Room.in1 {k:Nat} {A:Around} (r:Room (k+1) A):Room k A.in1:=
 ⟨r.hd,by have:=r.dp; show A.depth+3*k+5<_; omega,by have:=r.un; show A.units+1+16*k+200<_; omega⟩
theorem Room.depth {k:Nat} {A:Around} (r:Room k A):A.depth<recursionLimit:=by have:=r.dp; omega
theorem Room.units {k:Nat} {A:Around} (r:Room k A):A.units+64<cLine:=by have:=r.un; omega
noncomputable def Ms:TA:=fun _ H Q=>Q [] H
noncomputable def J6 (ta:TE) (tr:TA):TA:=fun σ H Q=>ta σ H fun x H1=>tr σ H1 fun xs H2=>Q (x::xs) H2
section
variable {X:Cx} {e:Expr} {es:List Expr} {te:TE} {t:TA} {pos:Pos}
theorem lZ:PA X [] Ms:=fun _ _ _ _ H Q I h=>Calls.spliced_nil ⟨[],H,I,.nil,h⟩
theorem gr (ha:PE X e te) (hr:PA X es t) (hs:starEach (e::es) X.env=(false,eval e X.env)::starEach es X.env:=by rfl):PA X (e::es) (J6 te t):=by
 intro pos pins s σ H Q I h
 rw [hs]
 show wpAny _ _ (spliced ((false,eval e X.env)::backTo pos (starEach es X.env))) _ _ s
 refine Calls.spliced_cons (dS (ha pins s σ H _ I h) fun u s1 ⟨x,H1,I1,r1,q1⟩=>?_)
 exact dS (hr pos pins s1 σ H1 _ I1 q1) fun us s2 ⟨xs,H2,I2,r2,q2⟩=>⟨x::xs,H2,I2,.cons r1 r2,q2⟩
noncomputable def Mo (t:TA):TE:=fun σ H Q=>t σ H fun xs H1=>xs.length<=sizeLine/\∀ p,H1 p=none->Q (.ref p) (eA H1 p (.tup xs))
noncomputable def Mt (t:TA):TE:=fun σ H Q=>t σ H fun xs H1=>xs.length<=sizeLine/\∀ p,H1 p=none->Q (.ref p) (eA H1 p (.lst xs))
theorem H9 {x1} (h:PA X es t):PE X (.Tuple es x1 pos) (Mo t):=by
 intro pins s σ H Q I hq
 refine wpAny_Tuple_spliced (dS (h pos pins s σ H _ I hq) fun us s1 ⟨xs,H1,I1,r,z,q⟩=>⟨by rw [<- r.length]; exact z,?_⟩)
 have hf:H1 s1.heap.objs.size=none:=I1.hok.fresh (Nat.le_refl _)
 refine ⟨.ref s1.heap.objs.size,eA H1 s1.heap.objs.size (.tup xs),I1.laid (t':=s1.toks) (fun b u e=>Heap.get?_push_of_some _ e) (Nat.le_refl _) ?_,rfl,q _ hf⟩
 exact ⟨z,us,r,⟨_,Heap.get?_push_size _ rfl,rfl,_,rfl⟩⟩
theorem BQ (h:PA X es t):PE X (.List es pos) (Mt t):=by
 intro pins s σ H Q I hq
 refine wpAny_List_spliced (dS (h pos pins s σ H _ I hq) fun us s1 ⟨xs,H1,I1,r,z,q⟩=>⟨by rw [<- r.length]; exact z,?_⟩)
 have hf:H1 s1.heap.objs.size=none:=I1.hok.fresh (Nat.le_refl _)
 refine ⟨.ref s1.heap.objs.size,eA H1 s1.heap.objs.size (.lst xs),I1.laid (t':=s1.toks) (fun b u e=>Heap.get?_push_of_some _ e) (Nat.le_refl _) ?_,rfl,q _ hf⟩
 exact ⟨z,us,0,r,Heap.get?_push_size _ rfl⟩
end
noncomputable abbrev Sp:=List V->Hp->VK->XK->Prop
noncomputable abbrev wE:=List Env->Hp->Shared->XK->Value->Shared->Prop
structure Env0 (P:Program) (w:World) (K:PySem.W.Frag) (mg:Str->Option Value) (base:Heap) (A:Around) (outer:List Env) (s:Shared) (H:Hp):Prop where
 frames:A.frames=some outer
 mod:Mod K mg base
 bs:∀ b o,base.get? b=some o->s.heap.get? b=some o/\H b=none
 bsz:base.objs.size<=s.heap.objs.size
 funs:s.heap.FunFrames base outer
 frf:∀ b∈kn outer,H b=none
 hok:HOk P w H s.heap
 bare:AllBare s.gens
noncomputable def CE (outer:List Env) (P:Program) (w:World) (H:Hp) (s:Shared) (Q:VK) (u:Value) (s':Shared):Prop:=
 ∃ v H',s'.os=s.os/\AllBare s'.gens/\Un (kn outer) [] H H' s.heap s'.heap/\HOk P w H' s'.heap/\RelV v u/\Q v H'
noncomputable def CR (CX:wE) (outer:List Env) (P:Program) (w:World) (H:Hp) (s:Shared) (Q:VK) (E:XK) (r:Result) (s':Shared):Prop:=
 match r with
 | .ok (.ret u)=>CE outer P w H s Q u s'
 | .ok _=>False
 | .error e=>CX outer H s E e s'
structure FnOk (P:Program) (w:World) (K:PySem.W.Frag) (mg:Str->Option Value) (base:Heap) (CX:wE) (k:Nat) (f:Addr) (fd:FuncData) (ps:List Str) (sp:Sp):Prop where
 len:∀ vs H Q E,sp vs H Q E->vs.length=ps.length
 run:∀ (A:Around) (outer:List Env) (s:Shared) (H:Hp) (args:Args) (us:List Value) (vs:List V) (Q:VK) (E:XK),Room k A->Env0 P w K mg base A outer s H->BindsTo s fd args (ps.zip us)->Vals vs us->sp vs H Q E ->
  codeAny (model P w) A (.call (.ref f) args) (CR CX outer P w H s Q E) s
theorem FnOk.mono {P:Program} {w:World} {K:PySem.W.Frag} {mg:Str->Option Value} {base:Heap} {CX:wE} {j k:Nat} {f:Addr} {fd:FuncData} {ps:List Str} {sp:Sp} (F:FnOk P w K mg base CX j f fd ps sp) (h:j<=k) :
  FnOk P w K mg base CX k f fd ps sp:=⟨F.len,fun A outer s H args us vs Q E hr=>F.run A outer s H args us vs Q E (hr.mono h)⟩
theorem FnOk.imp {P:Program} {w:World} {K:PySem.W.Frag} {mg:Str->Option Value} {base:Heap} {CX:wE} {k:Nat} {f:Addr} {fd:FuncData} {ps:List Str} {sp sp':Sp} (F:FnOk P w K mg base CX k f fd ps sp)
  (h:∀ vs H Q E,sp' vs H Q E->sp vs H Q E):FnOk P w K mg base CX k f fd ps sp':=
 ⟨fun vs H Q E q=>F.len vs H Q E (h _ _ _ _ q),fun A outer s H args us vs Q E hr he hb hv hs=>F.run A outer s H args us vs Q E hr he hb hv (h _ _ _ _ hs)⟩
theorem Env0.in1 {P:Program} {w:World} {K:PySem.W.Frag} {mg:Str->Option Value} {base:Heap} {A:Around} {outer:List Env} {s:Shared} {H:Hp} (e:Env0 P w K mg base A outer s H) :
  Env0 P w K mg base A.in1 outer s H:=⟨e.frames,e.mod,e.bs,e.bsz,e.funs,e.frf,e.hok,e.bare⟩
section
variable {X:Cx} {pins:List (Addr×Obj)} {σ:St} {H:Hp} {s s':Shared}
theorem Inv.env0 (I:Inv X pins σ H s):Env0 X.prog X.w X.K X.mg X.base X.A X.stack s H:=
 ⟨I.ok.frames,I.ok.mod,I.bs,Nat.le_trans I.ok.bsz I.sz,I.stack,I.stkFree,I.hok,I.bare⟩
theorem Inv.after {Q:VK} {u:Value} (I:Inv X pins σ H s) (h:CE X.stack X.prog X.w H s Q u s'):EP X pins σ Q u s':=by
 obtain ⟨v,H',os,bare,un,hok,r,q⟩:=h
 obtain ⟨hh,g,d,t,os'⟩:=s'
 obtain rfl:os'=s.os:=os
 exact ⟨v,H',I.call (h':=hh) (g':=g) (d':=d) (t':=t) (ch:=[]) un hok bare (fun b z=>absurd z (by simp)),r,q⟩
end
noncomputable def J7 (sp:Sp) (dvs:List V) (E:XK) (t:TA):TE:=fun σ H Q=>t σ H fun vs H1=>sp (vs++dvs) H1 Q E
noncomputable def Binds (K:PySem.W.Frag) (fd:FuncData) (ps:List Str) (ds:List Value):Prop:=
 ∀ (s:Shared) (us:List Value),K.In s.heap->(us++ds).length=ps.length->BindsTo s fd ⟨us,[]⟩ (ps.zip (us++ds))
theorem Binds.all {K:PySem.W.Frag} {fd:FuncData} {ps:List Str} (h:∀ us:List Value,us.length=ps.length->bindArgs fd ⟨us,[]⟩=pure (ps.zip us)):Binds K fd ps []:=fun s us _ hl=>by
 rw [List.append_nil] at hl ⊢
 exact .of_eq (h us hl)
noncomputable def u9 (CX:wE) (X:Cx) (E:XK):Prop:=∀ (pins:List (Addr×Obj)) (σ:St) (H:Hp) (s:Shared) (e:Value) (s':Shared),Inv X pins σ H s->CX X.stack H s E e s'->X.xe e s'
section
variable {X:Cx} {CX:wE} {k:Nat} {f C:Addr} {fd:FuncData} {ps:List Str} {sp:Sp} {dvs:List V} {ds:List Value} {E:XK} {x m:Str} {p pos apos:Pos} {e o:Expr} {es:List Expr} {ta:TE} {t:TA}
theorem BA {pins:List (Addr×Obj)} {σ:St} {H:Hp} {s:Shared} {Q:VK} {us:List Value} {vs:List V} (F:FnOk X.prog X.w X.K X.mg X.base CX k f fd ps sp) (hr:Room k X.A) (hb:Binds X.K fd ps ds) (hd:Vals dvs ds) (hx:u9 CX X E)
  (I:Inv X pins σ H s) (r:Vals vs us) (h:sp (vs++dvs) H Q E):wpAny (model X.prog X.w) X.A (call (.ref f) us) (EP X pins σ Q) X.xe s:=by
 have r2:Vals (vs++dvs) (us++ds):=r.append hd
 have hl:(us++ds).length=ps.length:=by rw [<- r2.length]; exact F.len _ _ _ _ h
 refine wpAny_call (codeAny_mono (F.run X.A X.stack s H ⟨us,[]⟩ (us++ds) (vs++dvs) Q E hr I.env0 (hb s us I.kIn hl) r2 h) fun r s' hq=>?_)
 cases r with
 | error e=>exact hx pins σ H s e s' I hq
 | ok fl=>
  cases fl with
  | ret u=>exact I.after hq
  | next=>exact False.elim hq
  | brk=>exact False.elim hq
  | cont=>exact False.elim hq
theorem yz (F:FnOk X.prog X.w X.K X.mg X.base CX k f fd ps sp) (hr:Room k X.A) (hg:Gl X x) (hm:X.mg x=some (.ref f)) (hk:PySem.W.keepIn X.K (.ref f)=true) (hb:Binds X.K fd ps ds) (hd:Vals dvs ds) (hx:u9 CX X E)
  (ha:PA X (e::es) t) (hdb:(x==("__debug__":Str))=false:=by decide) (he:starEach (e::es) X.env=(false,eval e X.env)::starEach es X.env:=by rfl) (hpl:(backTo pos (starEach es X.env)).any (·.1)=false:=by rfl) :
  PE X (.Call (.Name x p) (e::es) [] pos) (J7 sp dvs E t):=by
 intro pins s σ H Q I h
 refine wpAny_Call_Name_kw (lA I hg hm ?_ hdb)
 refine PySem.W.callWith_K (h₀:=X.base) I.ok.mod.kin hk (dS (ha pos pins s σ H _ I h) fun us s1 ⟨vs,H1,I1,r,q⟩=>⟨I1.kIn,?_⟩) he hpl
 exact BA F hr hb hd hx I1 r q
structure Mk (K:PySem.W.Frag) (C f:Addr):Prop where
 makes:PySem.W.makesIn K C=true
 init:PySem.W.findIn K (.ref C) "__init__" = some (some (.ref f))
 fn:PySem.W.isFn K (.ref f)=true
 kp:PySem.W.keepIn K (.ref C)=true
end
section
variable {X:Cx} {CX:wE} {k:Nat} {f C:Addr} {fd:FuncData} {ps ks:List Str} {sp:Sp} {E:XK} {x m:Str} {p pos apos kpos:Pos} {e o:Expr} {es:List Expr} {kws:List Keyword} {te ta:TE} {t tk:TA} {nm:Option Str}
structure KBinds (K:PySem.W.Frag) (fd:FuncData) (ps ks:List Str) (g:List Value->List Value->List Value) (gV:List V->List V->List V):Prop where
 to:∀ (s:Shared) (us ws:List Value),K.In s.heap->(g us ws).length=ps.length->BindsTo s fd ⟨us,ks.zip ws⟩ (ps.zip (g us ws))
 rel:∀ {vs:List V} {us:List Value} {zs:List V} {ws:List Value},Vals vs us->Vals zs ws->Vals (gV vs zs) (g us ws)
variable {g:List Value->List Value->List Value} {gV:List V->List V->List V}
end
structure FnScope (N P:List Str) (sc:Scope):Prop where
 kind:sc.kind=.function
 co:sc.isCoroutine=false
 gen:sc.isGenerator=false
 nd:N.Nodup
 pre:N.take P.length=P
 par:∀ x∈P,sc.names.lookup x=some .local\/sc.names.lookup x=some .cell
 nofree:∀ y∈sc.names,y.2≠.free
theorem tE {kindOf:Str->Option NameKind} {x:Str}:∀ {binds:List (Str×Value)} {m:Str->Option Value},(∀ v,(x,v) ∉ binds)->bindL kindOf binds m x=m x
 | [],_,_=>rfl
 | (n,v)::r,m,h=>by
  unfold bindL
  rw [tE fun w hw=>h w (List.mem_cons_of_mem _ hw)]
  split
  ·have:x≠n:=by rintro rfl; exact h v List.mem_cons_self
   simp [this]
  ·rfl
theorem tG {kindOf:Str->Option NameKind} {x:Str}:∀ {binds:List (Str×Value)} {m:Str->Option Value},(∀ v,(x,v) ∉ binds)->bindC kindOf binds m x=m x
 | [],_,_=>rfl
 | (n,v)::r,m,h=>by
  unfold bindC
  rw [tG fun w hw=>h w (List.mem_cons_of_mem _ hw)]
  split
  ·rfl
  ·have:x≠n:=by rintro rfl; exact h v List.mem_cons_self
   simp [this]
theorem tF {kindOf:Str->Option NameKind} {x:Str} {v:Value}:∀ {P:List Str} {vs:List Value} {i:Nat} {m:Str->Option Value},P.Nodup->P[i]? = some x->vs[i]? = some v->kindOf x=some .local ->
  bindL kindOf (P.zip vs) m x=some v
 | [],_,_,_,_,h,_,_=>by simp at h
 | _::_,[],_,_,_,_,h,_=>by simp at h
 | p::P,w::vs,0,m,nd,h1,h2,hk=>by
  simp at h1 h2; subst h1; subst h2
  show bindL kindOf ((p,w)::P.zip vs) m p=_
  unfold bindL
  rw [tE fun v hv=>(List.nodup_cons.mp nd).1 (List.of_mem_zip hv).1,if_pos hk]
  simp
 | p::P,w::vs,i+1,m,nd,h1,h2,hk=>by
  show bindL kindOf ((p,w)::P.zip vs) m x=_
  unfold bindL
  exact tF (i:=i) (List.nodup_cons.mp nd).2 (by simpa using h1) (by simpa using h2) hk
theorem tH {kindOf:Str->Option NameKind} {x:Str} {v:Value}:∀ {P:List Str} {vs:List Value} {i:Nat} {m:Str->Option Value},P.Nodup->P[i]? = some x->vs[i]? = some v->kindOf x≠some .local ->
  bindC kindOf (P.zip vs) m x=some v
 | [],_,_,_,_,h,_,_=>by simp at h
 | _::_,[],_,_,_,_,h,_=>by simp at h
 | p::P,w::vs,0,m,nd,h1,h2,hk=>by
  simp at h1 h2; subst h1; subst h2
  show bindC kindOf ((p,w)::P.zip vs) m p=_
  unfold bindC
  rw [tG fun v hv=>(List.nodup_cons.mp nd).1 (List.of_mem_zip hv).1,if_neg hk]
  simp
 | p::P,w::vs,i+1,m,nd,h1,h2,hk=>by
  show bindC kindOf ((p,w)::P.zip vs) m x=_
  unfold bindC
  exact tH (i:=i) (List.nodup_cons.mp nd).2 (by simpa using h1) (by simpa using h2) hk
noncomputable def start (N:List Str) (vs:List V):St:=vs.map some++List.replicate (N.length-vs.length) none
noncomputable def iE (CX:wE) (P:Program) (w:World) (K:PySem.W.Frag) (mg:Str->Option Value) (base:Heap) (N:List Str) (qual:Str) (scope:Scope) (f:Addr) (cd:Value) (A:Around) (outer:List Env) (s:Shared) (H:Hp) (E:XK):Cx where
 prog:=P
 w:=w
 K:=K
 mg:=mg
 base:=base
 A:=A.deeper (envOfC qual scope s.heap.objs.size f cd)
 N:=N
 s₀:=s
 H₀:=H
 env:=envOfC qual scope s.heap.objs.size f cd
 outer:=outer
 stack:=envOfC qual scope s.heap.objs.size f cd::outer
 ex:=[]
 calm:=true
 fn:=fun _=>true
 pn:=[]
 xe:=fun e s'=>wpAny (model P w) (A.deeper (envOfC qual scope s.heap.objs.size f cd)) (leaving (envOfC qual scope s.heap.objs.size f cd) e) (fun _ s''=>CX outer H s E e s'') (fun e' s''=>CX outer H s E e' s'') s'
theorem wm {sc:Scope} {n:Nat} {x:Str} (h:sc.names.lookup x=some .cell):∃ c,(cellsFrom n sc.names []).lookup x=some c:=by
 have q:=PySem.W.cellsFrom_some sc.names n [] (.inl h)
 exact Option.isSome_iff_exists.mp q
theorem Am {CX:wE} {P:Program} {w:World} {K:PySem.W.Frag} {mg:Str->Option Value} {base:Heap} {N ps:List Str} {qual:Str} {scope:Scope} {f:Addr} {cd:Value} {A:Around} {outer:List Env} {s s1:Shared} {H:Hp} {E:XK} {us:List Value} {vs:List V}
  (S:FnScope N ps scope) (hd:A.handled=none) (e0:Env0 P w K mg base A outer s H) (hl:vs.length=ps.length) (r:Vals vs us)
  (x:InCallC s s.heap.objs.size (bindL (envOfC qual scope s.heap.objs.size f cd).kindOf (ps.zip us) fun _=>none) (cellsFrom (s.heap.objs.size+1) scope.names []) (bindC (envOfC qual scope s.heap.objs.size f cd).kindOf (ps.zip us) fun _=>none) s1) :
  Inv (iE CX P w K mg base N qual scope f cd A outer s H E) [] (start N vs) H s1:=by
 have hpl:ps.length<=N.length:=by have:=congrArg List.length S.pre; rw [List.length_take] at this; omega
 obtain ⟨h1,tk,rfl,hk⟩:=x.done
 have noA:∀ b:Addr,b ∉ (iE CX P w K mg base N qual scope f cd A outer s H E).ex:=fun b z=>absurd (show b∈([]:List Addr) from z) (by simp)
 refine ⟨⟨e0.mod,S.kind,rfl,rfl,Nat.le_refl _,fun y z c h1 h2=>?_,fun y hy=>?_,fun y c _ h=>?_,fun _=>hd,Around.frames_deeper e0.frames,.inr ⟨rfl,rfl⟩,fun b z=>absurd z (noA b),e0.bs,e0.bsz,fun b _ _=>noA b,fun b z=>absurd z (noA b),e0.funs,e0.frf⟩,
  rfl,e0.bare,Un.kept hk,⟨_,x.toInCall.ns,fun i y v h1 h2 h3=>?_⟩,fun y c h=>⟨_,x.cell y c h⟩,e0.hok.fresh (Nat.le_refl _),fun y c h=>?_,fun p hp=>absurd (show p∈([]:List (Addr×Obj)) from hp) (by simp),e0.hok.kept hk,?_⟩
 ·exact name_of_addr x.apart (PySem.mem_of_lookup h1) (PySem.mem_of_lookup h2)
 ·have hy:scope.names.lookup y=some .cell\/scope.names.lookup y=some .free:=hy
  rcases hy with hy | hy
  ·exact wm hy
  ·exact absurd rfl (S.nofree _ (PySem.mem_of_lookup hy))
 ·exact Nat.le_of_lt (x.above y c (PySem.mem_of_lookup h))
 ·have hi:i<vs.length:=by
   unfold start at h2
   by_cases hi:i<vs.length
   ·exact hi
   ·rw [List.getElem?_append_right (by simpa using hi)] at h2
    rw [List.getElem?_replicate] at h2
    split at h2 <;> cases h2
  have ha:vs[i]? = some v:=by
   unfold start at h2
   rw [List.getElem?_append_left (by simpa using hi),List.getElem?_map] at h2
   cases e:vs[i]? with
   | none=>rw [e] at h2; cases h2
   | some a=>rw [e] at h2; cases h2; rfl
  obtain ⟨u,hu,rv⟩:=r.get ha
  have hp:ps[i]? = some y:=by
   rw [<- S.pre,List.getElem?_take_of_lt (by omega)]; exact h1
  have ndP:ps.Nodup:=by rw [<- S.pre]; exact S.nd.sublist (List.take_sublist _ _)
  refine ⟨u,rv,?_⟩
  rcases S.par y (List.mem_of_getElem? hp) with k | k
  ·exact .inl ⟨k,tF ndP hp hu k⟩
  ·obtain ⟨c,e⟩:=wm (n:=s.heap.objs.size+1) k
   refine .inr ⟨.inl k,c,e,?_⟩
   have q:=x.cell y c e
   rw [tH ndP hp hu (by show scope.names.lookup y≠_; rw [k]; decide)] at q
   exact q
 ·exact e0.hok.fresh (Nat.le_of_lt (x.above y c (PySem.mem_of_lookup h)))
 ·unfold start
  show _=N.length
  rw [List.length_append,List.length_map,List.length_replicate]
  omega
theorem yU {CX:wE} {P:Program} {w:World} {K:PySem.W.Frag} {mg:Str->Option Value} {base:Heap} {k:Nat} {f:Addr} {name qual:Str} {params:Arguments} {body:List Stmt} {scope:Scope} {dV kV doc pm cdv ct oc:Value} {an od:Option Addr}
  {osl:Array (Option Value)} {N ps:List Str} {sp:Sp} (lk:K.lookup f=some ⟨oc,od,.func (PySem.W.fnOf name qual params body scope dV kV doc pm an cdv ct),osl⟩) (hcd:PySem.W.codeIn K cdv qual=true) (S:FnScope N ps scope)
  (len:∀ vs H Q E,sp vs H Q E->vs.length=ps.length)
  (hbody:∀ (A:Around) (outer:List Env) (s:Shared) (H:Hp) (vs:List V) (Q:VK) (E:XK),Room k (A.deeper (envOfC qual scope s.heap.objs.size f cdv))->sp vs H Q E ->
   ∃ t,PSs (iE CX P w K mg base N qual scope f cdv A outer s H E) body t/\t { nx:=fun _ H'=>Q .non H',rt:=Q } (start N vs) H) :
  FnOk P w K mg base CX (k+1) f (PySem.W.fnOf name qual params body scope dV kV doc pm an cdv ct) ps sp:=by
 refine ⟨len,fun A outer s H args us vs Q E hr e0 hb r hsp=>?_⟩
 have hl:=len _ _ _ _ hsp
 have KX:K.In s.heap:=e0.mod.kin.keeps fun b o e=>(e0.bs b o e).1
 have lim:s.heap.NoLimit:=e0.mod.nolimit.keeps fun b o e=>(e0.bs b o e).1
 have hkind:∀ y∈ps.zip us,scope.names.lookup y.1=some .local\/(scope.names.lookup y.1=some .cell/\((cellsFrom (s.heap.objs.size+1) scope.names []).lookup y.1).isSome=true):=fun ⟨n,v⟩ hy=>by
  rcases S.par n (List.of_mem_zip hy).1 with q | q
  ·exact .inl q
  ·exact .inr ⟨q,PySem.W.cellsFrom_some _ _ _ (.inl q)⟩
 refine codeAny_call_function hr.depth (KX _ _ lk) rfl S.co S.gen rfl (PySem.W.codeRec_of KX hcd) (hb _ _ _ _ ?_)
 refine wpAny_newFunctionEnv_cells S.kind hkind fun env he s1 x=>?_
 subst he
 refine ⟨lim.keeps x.toInCall.keep,codeAny_func ?_⟩
 obtain ⟨t,ht,hq⟩:=hbody A outer s H vs Q E (hr.deeper _) hsp
 have I:Inv (iE CX P w K mg base N qual scope f cdv A outer s H E) [] (start N vs) H s1:=Am S hr.hd e0 hl r x
 refine wpAny_mono (ht [] s1 (start N vs) H _ I hq) (fun fl s' hs=>?_) fun e s' hs=>hs
 have fin:∀ {σ':St} {H':Hp} {v:V} {u:Value},Inv (iE CX P w K mg base N qual scope f cdv A outer s H E) [] σ' H' s'->RelV v u->Q v H'->CE outer P w H s Q u s':=
  fun {σ' H' v u} J rv q=>⟨v,H',J.os,J.bare,J.base,J.hok,rv,q⟩
 cases fl with
 | ret u=>
  obtain ⟨v,σ',H',J,rv,q⟩:=hs
  exact fin J rv q
 | next=>
  obtain ⟨σ',H',J,q⟩:=hs
  exact fin (v:=V.non) (u:=Value.none) J rfl q
 | brk=>
  obtain ⟨_,_,_,q⟩:=hs
  exact False.elim q
 | cont=>
  obtain ⟨_,_,_,q⟩:=hs
  exact False.elim q
end L2
namespace L2
open PySem PySem.Spec PyProof.Rows
section
variable {X:Cx} {x:Str} {p pos:Pos} {e:Expr} {es:List Expr} {t:TA} {id T:String} {r:List V->Hp->VK->Prop}
noncomputable def NV (r:List V->Hp->VK->Prop) (t:TA):TE:=fun σ H Q=>t σ H fun vs H1=>r vs H1 Q
theorem mS (hc:CallR X (.builtin id) r) (hg:Gl X x) (hm:X.mg x=none) (hv:bootBuiltins x=some (.builtin id)) (ha:PA X (e::es) t) (hn:x ≠ "__name__":=by decide) (hdb:(x==("__debug__":Str))=false:=by decide)
  (he:starEach (e::es) X.env=(false,eval e X.env)::starEach es X.env:=by rfl) (hpl:(backTo pos (starEach es X.env)).any (·.1)=false:=by rfl):PE X (.Call (.Name x p) (e::es) [] pos) (NV r t):=by
 intro pins s σ H Q I h
 refine wpAny_Call_Name_kw (uA I hg hm hv ?_ hn hdb)
 exact PyProof.Rows.callWith_builtin1 (dS (ha pos pins s σ H _ I h) fun us s1 ⟨vs,H1,I1,r1,q1⟩=>hc pins s1 σ H1 vs us Q I1 r1 q1) he hpl
theorem zM (hc:CallR X (.type T) r) (hg:Gl X x) (hm:X.mg x=none) (hv:bootBuiltins x=some (.type T)) (ha:PA X (e::es) t) (hn:x ≠ "__name__":=by decide) (hdb:(x==("__debug__":Str))=false:=by decide)
  (he:starEach (e::es) X.env=(false,eval e X.env)::starEach es X.env:=by rfl) (hpl:(backTo pos (starEach es X.env)).any (·.1)=false:=by rfl):PE X (.Call (.Name x p) (e::es) [] pos) (NV r t):=by
 intro pins s σ H Q I h
 refine wpAny_Call_Name_kw (uA I hg hm hv ?_ hn hdb)
 exact PyProof.Rows.callWith_type1 (dS (ha pos pins s σ H _ I h) fun us s1 ⟨vs,H1,I1,r1,q1⟩=>hc pins s1 σ H1 vs us Q I1 r1 q1) he hpl
end
end L2
namespace HT
open PySem PyProof.Rows
section
open PySem.SeqAt
open PySem.AutoSeq1 (wpAny_loadPart')
open PySem.MeetsSeq PySem.MeetsSeq2 PySem.MeetsSeq3
end
section
variable {prog:Program} {w:World} {A:Around} {E:Value->Shared->Prop} {s:Shared}
theorem F4 {t b:Addr} {vs ws:List Value} {Q:Value->Shared->Prop} (ht:IsTup s.heap t vs.toArray) (hb:IsTup s.heap b ws.toArray) (hv:vs≠[])
  (h1:ws=[]->Q (.ref t) s) (h2:ws≠[]->Q (.ref s.heap.objs.size) { s with heap:=s.heap.push { cls:=.type "tuple",data:=.seq (vs++ws).toArray } })
  (hsz:vs.length+ws.length<=sizeLine):wpAny (model prog w) A (binaryOp .Add (.ref t) (.ref b)) Q E s:=by
 obtain ⟨⟨cls,dd,data,sl⟩,ho,hc,n,hd⟩:=id ht
 obtain ⟨⟨cls2,dd2,data2,sl2⟩,ho2,hc2,n2,hd2⟩:=id hb
 simp only at hc hd hc2 hd2
 subst hc hd hc2 hd2
 have e:vs.toArray++ws.toArray=(vs++ws).toArray:=by simp
 by_cases hw:ws=[]
 ·exact concat_meets ⟨_,ho,rfl⟩ ⟨_,ho2,rfl⟩ noFill_tuple_add seq_tuple_add PySem.F.slot_tuple_add PySem.F.entry_tuple_add (PySem.F.args_tuple_add_2 _ _)
   (tuple_addW1 t b vs.toArray ws.toArray n n2 dd dd2 sl sl2 (by simpa using hv) (by simp [hw])) ⟨ho,ho2,h1 hw⟩
 ·refine concat_meets ⟨_,ho,rfl⟩ ⟨_,ho2,rfl⟩ noFill_tuple_add seq_tuple_add PySem.F.slot_tuple_add PySem.F.entry_tuple_add (PySem.F.args_tuple_add_2 _ _)
   (tuple_addW2 t b vs.toArray ws.toArray n n2 dd dd2 sl sl2 (by simpa using hv) (by simpa using hw) (by rw [List.size_toArray,List.size_toArray]; exact hsz)) ⟨ho,ho2,?_⟩
  rw [e]
  exact h2 hw
noncomputable def sIx (n d:Nat):Option Int->Nat
 | none=>d
 | some v=>if v<0 then (v+(n:Int)).toNat else min v.toNat n
theorem HK (n d:Nat) (hd:d<=n) (o:Option Int):sIx n d o<=n:=by
 cases o with
 | none=>exact hd
 | some v=>
  show (if v<0 then (v+(n:Int)).toNat else min v.toNat n)<=n
  by_cases hv:v<0
  ·rw [if_pos hv]; omega
  ·rw [if_neg hv]; exact Nat.min_le_right _ _
theorem yZ (v:Int) (n d:Nat):(if v<0 then max (v+(n:Int)) 0 else min v (n:Int))=((sIx n d (some v):Nat):Int):=by
 show (if v<0 then max (v+(n:Int)) 0 else min v (n:Int))=(((if v<0 then (v+(n:Int)).toNat else min v.toNat n):Nat):Int)
 by_cases hv:v<0
 ·simp only [if_pos hv]; omega
 ·simp only [if_neg hv]; omega
theorem xR (lo hi:Option Int) (n:Nat):Builtin.Slice.sliceAdjust lo hi 1 (n:Int)=(((sIx n 0 lo:Nat):Int),((sIx n n hi:Nat):Int)):=by
 have h1:¬ ((1:Int)<0):=by omega
 unfold Builtin.Slice.sliceAdjust
 simp only [h1,if_false]
 refine Prod.ext ?_ ?_
 ·cases lo with
  | none=>rfl
  | some v=>exact yZ v n 0
 ·cases hi with
  | none=>rfl
  | some v=>exact yZ v n n
theorem wW (i j:Nat):Builtin.Slice.slicePlaces (i:Int) (j:Int) 1=j-i:=by
 unfold Builtin.Slice.slicePlaces
 have h1:(1:Int)>0:=by omega
 simp only [h1,if_true,Int.ediv_one]
 split <;> omega
theorem qm {v:Value} {o:Option Int} {Q:Option Int->Shared->Prop} (p:IsPart v o) (h:Q o s):wpAny (model prog w) A (Builtin.Slice.slicePartIndex v) Q E s:=by
 cases p with
 | none=>exact slicePart_none h
 | int i t=>exact slicePart_int h
theorem jl {sl:Addr} {vl vu:Value} {lo hi:Option Int} {n:Nat} {Q:Int×Int×Nat->Shared->Prop} (hs:s.heap.IsSliceOf sl vl vu .none) (pl:IsPart vl lo) (pu:IsPart vu hi)
  (h:Q (((sIx n 0 lo:Nat):Int),1,sIx n n hi-sIx n 0 lo) s):wpAny (model prog w) A (Builtin.Slice.sliceApplied (.ref sl) (pure (n:Int))) Q E s:=by
 obtain ⟨os,hos,hcs,hds⟩:=id hs
 unfold Builtin.Slice.sliceApplied Builtin.Slice.sliceFields
 refine wpAny_bind (wpAny_bind (wpAny_field hos hds (x:=vl) rfl (wpAny_bind (wpAny_field hos hds (x:=vu) rfl (wpAny_bind (wpAny_field hos hds (x:=.none) rfl (wpAny_pure ?_)))))))
 refine wpAny_bind (slicePart_none ?_)
 show wpAny _ _ (if ((1:Int)==0)=true then _ else _) _ _ s
 rw [if_neg (by decide)]
 refine wpAny_bind (qm pl (wpAny_bind (qm pu (wpAny_bind (wpAny_pure ?_)))))
 show wpAny _ _ (match Builtin.Slice.sliceAdjust lo hi 1 (n:Int) with | (lo,hi)=>pure (lo,(1:Int),Builtin.Slice.slicePlaces lo hi 1)) _ _ s
 rw [xR lo hi n]
 show wpAny _ _ (pure (((sIx n 0 lo:Nat):Int),(1:Int),Builtin.Slice.slicePlaces ((sIx n 0 lo:Nat):Int) ((sIx n n hi:Nat):Int) 1)) _ _ s
 rw [wW]
 exact wpAny_pure h
theorem BN (xs:Array Value) (i k:Nat):((List.range k).filterMap fun (m:Nat)=>xs[((i:Int)+(m:Int)*1).toNat]?).toArray=((xs.toList.drop i).take k).toArray:=by
 have e:(fun (m:Nat)=>xs[((i:Int)+(m:Int)*1).toNat]?)=fun m=>xs[i+m]?:=by
  funext m
  have:((i:Int)+(m:Int)*1).toNat=i+m:=by omega
  rw [this]
 rw [e]
 have:=pick_run xs i k
 rw [List.filterMap_map] at this
 have e2:((fun x=>xs[x]?) ∘ fun x=>i+x)=fun m=>xs[i+m]?:=rfl
 rw [e2] at this
 rw [this]
theorem m6 {t sl:Addr} {items:Array Value} {vl vu:Value} {lo hi:Option Int} {Q:Value->Shared->Prop} (ht:IsTup s.heap t items) (hs:s.heap.IsSliceOf sl vl vu .none) (pl:IsPart vl lo) (pu:IsPart vu hi)
  (hw:¬ (sIx items.size 0 lo=0/\sIx items.size items.size hi=items.size))
  (h:Q (.ref s.heap.objs.size) { s with heap:=s.heap.push { cls:=.type "tuple",data:=.seq ((items.toList.drop (sIx items.size 0 lo)).take (sIx items.size items.size hi-sIx items.size 0 lo)).toArray } })
  (hsz:items.size<=sizeLine):wpAny (model prog w) A (getItem (.ref t) (.ref sl)) Q E s:=by
 have htake:sizeOk (.seq ((items.toList.drop (sIx items.size 0 lo)).take (sIx items.size items.size hi-sIx items.size 0 lo)).toArray):=by
  show ((items.toList.drop (sIx items.size 0 lo)).take (sIx items.size items.size hi-sIx items.size 0 lo)).toArray.size<=sizeLine
  rw [List.size_toArray,List.length_take,List.length_drop,Array.length_toList]
  omega
 have hj:sIx items.size items.size hi<=items.size:=HK _ _ (Nat.le_refl _) hi
 obtain ⟨os,hos,hcs,hds⟩:=id hs
 have hTs:s.TypeIs (.ref sl) "slice":=⟨os,hos,hcs⟩
 unfold getItem
 try with_reducible refine wpAny_holding ?_
 first | refine wpAny_bind (wpAny_pure ?_) | skip
 refine wpAny_bind (wpAny_sequenceKey ht.typeIs (by decide) ?_)
 refine wpAny_bind (wpAny_callSpecial?_slot (name:=Str.ofString "__getitem__") ht.typeIs PyProof.Rows.slot_tuple_getitem
  (wpAny_call_entry PyProof.Rows.slot_tuple_getitem ht.typeIs entry_tuple_getitem ?_ (args_tuple_getitem _ _)))
 show wpAny _ _ (Builtin.Tuple.tupleItemsOf (.ref t) >>= _) _ _ s
 refine wpAny_bind (tupleItemsOf_ ht ?_)
 refine wpAny_bind (wpAny_typeOf hTs ?_)
 rw [if_pos (by decide)]
 refine wpAny_bind (jl hs pl pu ?_)
 have hno:¬ ((((sIx items.size 0 lo:Nat):Int)==0&&(1:Int)==1&&(sIx items.size items.size hi-sIx items.size 0 lo)==items.size)=true):=by
  intro q
  rw [Bool.and_eq_true,Bool.and_eq_true] at q
  have q1:((sIx items.size 0 lo:Nat):Int)=0:=eq_of_beq q.1.1
  have q2:sIx items.size items.size hi-sIx items.size 0 lo=items.size:=eq_of_beq q.2
  exact hw ⟨by omega,by omega⟩
 show wpAny _ _ (if (((sIx items.size 0 lo:Nat):Int)==0&&(1:Int)==1&&(sIx items.size items.size hi-sIx items.size 0 lo)==items.size)=true then _ else _) _ _ s
 rw [if_neg hno,BN]
 first
  | exact wpAny_bind (m:=Builtin.Tuple.tupleExact _) (wpAny_newObj_type (wpAny_pure ⟨_,rfl,wpAny_pure h⟩) htake)
  | exact wpAny_bind (m:=Builtin.Tuple.tupleExact _) (wpAny_newObj_type (wpAny_bind (wpAny_pure (wpAny_pure ⟨_,rfl,wpAny_pure h⟩))) htake)
  | exact wpAny_bind (wpAny_bind (m:=Builtin.Tuple.tupleExact _) (wpAny_newObj_type (wpAny_pure (wpAny_pure ⟨_,rfl,wpAny_pure h⟩)) htake))
  | exact wpAny_bind (wpAny_bind (m:=Builtin.Tuple.tupleExact _) (wpAny_newObj_type (wpAny_pure ⟨_,rfl,wpAny_pure h⟩) htake))
end
end HT
namespace L2
open PySem PySem.Spec PyProof.Rows
noncomputable abbrev TO:=St->Hp->(Option Int->Hp->Prop)->Prop
noncomputable def PO (X:Cx) (e:Option Expr) (t:TO):Prop:=
 ∀ (pins:List (Addr×Obj)) (s:Shared) (σ:St) (H:Hp) (Q:Option Int->Hp->Prop),Inv X pins σ H s->t σ H Q ->
  wpAny (model X.prog X.w) X.A (evalPart e X.env) (fun u s'=>∃ o H',Inv X pins σ H' s'/\IsPart u o/\Q o H') X.xe s
noncomputable def Ei:TO:=fun _ H Q=>Q none H
noncomputable def J1 (t:TE):TO:=fun σ H Q=>t σ H fun x H1=>∃ i,x=.int i/\Q (some i) H1
section
variable {X:Cx} {e:Expr} {te:TE} {lo hi:Option Expr} {tl th:TO} {pos p2:Pos}
theorem EH:PO X none Ei:=by
 intro pins s σ H Q I h
 rw [evalPart_none]
 exact wpAny_pure ⟨none,H,I,.none,h⟩
theorem EG (h:PE X e te):PO X (some e) (J1 te):=by
 intro pins s σ H Q I hw
 rw [evalPart_some]
 refine dS (h pins s σ H _ I hw) fun u s1 ⟨x,H1,I1,r1,q1⟩=>?_
 obtain ⟨i,rfl,q⟩:=q1
 obtain ⟨t,rfl⟩:=r1
 exact ⟨some i,H1,I1,.int i t,q⟩
noncomputable def SlR (X:Cx) (r:V->Option Int->Option Int->Hp->VK->Prop):Prop:=
 ∀ (pins:List (Addr×Obj)) (s:Shared) (σ:St) (H:Hp) (x:V) (v vl vu:Value) (lo hi:Option Int) (sl:Addr) (Q:VK),Inv X pins σ H s->RelV x v->s.heap.IsSliceOf sl vl vu .none->IsPart vl lo->IsPart vu hi->r x lo hi H Q ->
  ∃ T id,typeLookup (.type T) "__getitem__" = pure (some (.builtin id))/\s.TypeIs v T/\wpAny (model X.prog X.w) X.A (getItem v (.ref sl)) (EP X pins σ Q) X.xe s
theorem SlR.or {r r':V->Option Int->Option Int->Hp->VK->Prop} (h:SlR X r) (h':SlR X r'):SlR X (fun x lo hi H Q=>r x lo hi H Q\/r' x lo hi H Q):=by
 intro pins s σ H x v vl vu lo hi sl Q I rx hs pl pu q
 rcases q with q | q
 ·exact h pins s σ H x v vl vu lo hi sl Q I rx hs pl pu q
 ·exact h' pins s σ H x v vl vu lo hi sl Q I rx hs pl pu q
noncomputable def Oq (r:V->Option Int->Option Int->Hp->VK->Prop) (te:TE) (tl th:TO):TE:=fun σ H Q=>te σ H fun x H1=>tl σ H1 fun l H2=>th σ H2 fun u H3=>r x l u H3 Q
theorem BP {r:V->Option Int->Option Int->Hp->VK->Prop} (hr:SlR X r) (he:PE X e te) (hl:PO X lo tl) (hu:PO X hi th):PE X (.Subscript e (.Slice lo hi none p2) pos) (Oq r te tl th):=by
 intro pins s σ H Q I h
 refine Subscript_ (dS (he pins s σ H _ I h) fun v s1 ⟨x,H1,I1,r1,q1⟩=>?_)
 refine wpAny_Slice (dS (hl pins s1 σ H1 _ I1 q1) fun vl s2 ⟨l,H2,I2,pl,q2⟩=>dS (hu pins s2 σ H2 _ I2 q2) fun vu s3 ⟨u,H3,I3,pu,q3⟩=>?_)
 rw [evalPart_none]
 refine wpAny_pure ?_
 have I4:Inv X pins σ H3 { s3 with heap:=s3.heap.push { cls:=.type "slice",data:=.fields #[vl,vu,.none] } }:=I3.kept (t':=s3.toks) fun b ob q=>Heap.get?_push_of_some _ q
 obtain ⟨T,id,hT,ht,hg⟩:=hr pins { s3 with heap:=s3.heap.push { cls:=.type "slice",data:=.fields #[vl,vu,.none] } } σ H3 x v vl vu l u s3.heap.objs.size Q I4 r1 (Heap.IsSliceOf.new ..) pl pu q3
 show wpAny (model X.prog X.w) X.A (subscriptTail e (.Slice lo hi none p2) v (.ref s3.heap.objs.size)) (EP X pins σ Q) X.xe { s3 with heap:=s3.heap.push { cls:=.type "slice",data:=.fields #[vl,vu,.none] } }
 exact tail_any (ops:=[.ref s3.heap.objs.size,v]) ht hT hg (by with_unfolding_all rfl)
noncomputable def r8 (xs:List V) (lo hi:Option Int):List V:=(xs.drop (HT.sIx xs.length 0 lo)).take (HT.sIx xs.length xs.length hi-HT.sIx xs.length 0 lo)
theorem oG (xs:List V) (lo hi:Option Int):(r8 xs lo hi).length<=xs.length:=by
 unfold r8
 rw [List.length_take,List.length_drop]
 omega
noncomputable def MM (K:PySem.W.Frag):V->Option Int->Option Int->Hp->VK->Prop:=fun x lo hi H Q=>∃ a xs,x=.ref a/\SqT K H a xs /\
 ¬ (HT.sIx xs.length 0 lo=0/\HT.sIx xs.length xs.length hi=xs.length)/\∀ p,H p=none->Q (.ref p) (eA H p (.tup (r8 xs lo hi)))
theorem sl_tup:SlR X (MM X.K):=by
 intro pins s σ H x v vl vu lo hi sl Q I rx hs pl pu h
 obtain ⟨a,xs,rfl,hx,hw,q⟩:=h
 cases rx
 obtain ⟨its,r,ht,hz⟩:=I.tuple hx
 have hlen:its.toArray.size=xs.length:=by rw [List.size_toArray]; exact r.length.symm
 refine ⟨"tuple",_,PyProof.Rows.slot_tuple_getitem.lookup,ht.typeIs,?_⟩
 refine HT.m6 ht hs pl pu (by rw [hlen]; exact hw) ?_ (by rw [hlen]; exact hz)
 rw [hlen]
 refine ⟨.ref s.heap.objs.size,_,I.laid (t':=s.toks) (o:=.tup (r8 xs lo hi)) (fun b ob q=>Heap.get?_push_of_some _ q) (Nat.le_refl _) ?_,rfl,q _ (I.hok.fresh (Nat.le_refl _))⟩
 exact ⟨Nat.le_trans (oG xs lo hi) hz,_,(r.drop (HT.sIx xs.length 0 lo)).take (HT.sIx xs.length xs.length hi-HT.sIx xs.length 0 lo),IsTup.new _ _⟩
noncomputable def Km (K:PySem.W.Frag):R2:=fun x y H Q=>∃ a b xs ys,x=.ref a/\y=.ref b/\SqT K H a xs/\SqT K H b ys/\xs≠[]/\xs.length+ys.length<=sizeLine /\
 (ys=[]->Q (.ref a) H)/\(ys≠[]->∀ p,H p=none->Q (.ref p) (eA H p (.tup (xs++ys))))
theorem Vals.nil_iff {xs:List V} {us:List Value} (r:Vals xs us):us=[]↔xs=[]:=by
 cases r with
 | nil=>simp
 | cons _ _=>simp
theorem ES:OpR X (binaryOp .Add) (Km X.K):=by
 intro pins s σ H x y v u Q I rx ry h
 obtain ⟨a,b,xs,ys,rfl,rfl,ha,hb,hx,hz,q1,q2⟩:=h
 cases rx
 cases ry
 obtain ⟨its,r1,p1,_⟩:=I.tuple ha
 obtain ⟨its2,r2,p2,_⟩:=I.tuple hb
 refine HT.F4 p1 p2 (fun z=>hx (r1.nil_iff.mp z)) (fun z=>⟨.ref a,H,I,rfl,q1 (r2.nil_iff.mp z)⟩) (fun z=>?_) (by rw [<- r1.length,<- r2.length]; exact hz)
 refine ⟨.ref s.heap.objs.size,_,I.laid (t':=s.toks) (o:=.tup (xs++ys)) (fun b ob q=>Heap.get?_push_of_some _ q) (Nat.le_refl _) ?_,rfl,q2 (fun w=>z (r2.nil_iff.mpr w)) _ (I.hok.fresh (Nat.le_refl _))⟩
 exact ⟨by rw [List.length_append]; exact hz,_,r1.append r2,IsTup.new _ _⟩
end
end L2
namespace L2
open PySem PySem.Spec PyProof.Rows
noncomputable def yP (n:Nat) (i:Int):Option Nat:=if 0<=i then (if i<n then some i.toNat else none) else if -(n:Int)<=i then some (i+n).toNat else none
noncomputable def iD {α:Type} (xs:List α) (i:Int):Option α:=(yP xs.length i).bind fun j=>xs[j]?
theorem yO {n:Nat} {i:Int} {j:Nat} (h:yP n i=some j):seqIndex? i n=some j/\j<n /\ -(n:Int)<=i/\i<n:=by
 unfold yP at h
 by_cases h0:0<=i
 ·rw [if_pos h0] at h
  by_cases h1:i<n
  ·rw [if_pos h1] at h
   have e:i.toNat=j:=Option.some.inj h
   exact ⟨by rw [seqIndex_of h0 h1,e],by omega,by omega,h1⟩
  ·rw [if_neg h1] at h; cases h
 ·rw [if_neg h0] at h
  by_cases h1:-(n:Int)<=i
  ·rw [if_pos h1] at h
   have e:(i+n).toNat=j:=Option.some.inj h
   exact ⟨by rw [seqIndex_neg (by omega) h1,e],by omega,h1,by omega⟩
  ·rw [if_neg h1] at h; cases h
theorem zd {α:Type} {xs:List α} {i:Int} {v:α} (h:iD xs i=some v):∃ j,seqIndex? i xs.length=some j/\xs[j]? = some v/\j<xs.length /\ -(xs.length:Int)<=i/\i<xs.length:=by
 unfold iD at h
 cases e:yP xs.length i with
 | none=>rw [e] at h; cases h
 | some j=>
  rw [e] at h
  obtain ⟨h1,h2,h3,h4⟩:=yO e
  exact ⟨j,h1,h,h2,h3,h4⟩
noncomputable def u8 (b:Expr):Prop:=∀ o i,subscripted b false o i=operate [o,i] (getItem o i)
noncomputable def IxR (X:Cx) (r:R2):Prop:=
 ∀ (value slice:Expr) (pins:List (Addr×Obj)) (s:Shared) (σ:St) (H:Hp) (x y:V) (v u:Value) (Q:VK),Inv X pins σ H s->RelV x v->RelV y u->r x y H Q ->
  subscripted slice false v u=operate [v,u] (getItem v u)->wpAny (model X.prog X.w) X.A (subscriptTail value slice v u) (EP X pins σ Q) X.xe s
noncomputable def MtR (X:Cx) (id:String) (r:V->List V->Hp->VK->Prop):Prop:=
 ∀ (pins:List (Addr×Obj)) (s:Shared) (σ:St) (H:Hp) (x:V) (xs:List V) (v:Value) (us:List Value) (Q:VK),Inv X pins σ H s->RelV x v->Vals xs us->r x xs H Q ->
  wpAny (model X.prog X.w) X.A (call (.builtin id) (v::us)) (EP X pins σ Q) X.xe s
section
variable {X:Cx} {a b:Expr} {ta tb:TE} {pos:Pos}
theorem IxR.or {r r':R2} (h:IxR X r) (h':IxR X r'):IxR X (fun x y H Q=>r x y H Q\/r' x y H Q):=by
 intro value slice pins s σ H x y v u Q I rx ry q hs
 rcases q with q | q
 ·exact h value slice pins s σ H x y v u Q I rx ry q hs
 ·exact h' value slice pins s σ H x y v u Q I rx ry q hs
theorem MtR.or {id:String} {r r':V->List V->Hp->VK->Prop} (h:MtR X id r) (h':MtR X id r'):MtR X id (fun x xs H Q=>r x xs H Q\/r' x xs H Q):=by
 intro pins s σ H x xs v us Q I rx rs q
 rcases q with q | q
 ·exact h pins s σ H x xs v us Q I rx rs q
 ·exact h' pins s σ H x xs v us Q I rx rs q
theorem GC {r:R2} (hr:IxR X r) (ha:PE X a ta) (hb:PE X b tb) (hs:u8 b):PE X (.Subscript a b pos) (J2 r ta tb):=by
 intro pins s σ H Q I h
 exact Subscript_ (Jw ha hb I h fun v u s2 x y H2 I2 rx ry q=>hr a b pins s2 σ H2 x y v u Q I2 rx ry q (hs _ _))
noncomputable def MP (K:PySem.W.Frag):R2:=fun x y H Q=>∃ p xs i v,x=.ref p/\y=.int i/\SqL K H p xs/\iD xs i=some v/\Q v H
noncomputable def MO (K:PySem.W.Frag):R2:=fun x y H Q=>∃ p xs i v,x=.ref p/\y=.int i/\SqT K H p xs/\iD xs i=some v/\Q v H
theorem ix_list:IxR X (MP X.K):=by
 intro value slice pins s σ H x y v u Q I rx ry h hs
 obtain ⟨p,xs,i,z,rfl,rfl,hq,he,q⟩:=h
 cases rx
 obtain ⟨t,rfl⟩:=ry
 obtain ⟨its,r,pl,hz⟩:=I.list hq
 obtain ⟨j,h1,h2,h3,h4,h5⟩:=zd he
 obtain ⟨w,ew,rw'⟩:=r.get h2
 have hl:=r.length
 have hn:=uy
 have fin:EP X pins σ Q w s:=⟨z,H,I,rw',q⟩
 by_cases h0:0<=i
 ·have hj:i.toNat=j:=by
   rw [seqIndex_of h0 h5] at h1
   exact Option.some.inj h1
  exact item_listR pl.isList h0 (by omega) (by rw [hj]; simpa using ew) fin hs
 ·have hj:(i+(its.toArray.size:Int)).toNat=j:=by
   rw [seqIndex_neg (by omega) h4] at h1
   rw [List.size_toArray,<- hl]
   exact Option.some.inj h1
  exact subscriptTail_builtinR (x:=w) pl.isList.typeIs slot_list_getitem.lookup
   (wpAny_getItem_list_neg (Q:=fun r s'=>r=w/\EP X pins σ Q r s') pl.isList (by omega) (by rw [List.size_toArray] <;> omega) (by omega) (by rw [hj]; simpa using ew) ⟨rfl,fin⟩) hs
theorem Ja:IxR X (MO X.K):=by
 intro value slice pins s σ H x y v u Q I rx ry h hs
 obtain ⟨p,xs,i,z,rfl,rfl,hq,he,q⟩:=h
 cases rx
 obtain ⟨t,rfl⟩:=ry
 obtain ⟨its,r,pl,hz⟩:=I.tuple hq
 obtain ⟨j,h1,h2,h3,h4,h5⟩:=zd he
 obtain ⟨w,ew,rw'⟩:=r.get h2
 have hl:=r.length
 have hn:=uy
 have fin:EP X pins σ Q w s:=⟨z,H,I,rw',q⟩
 exact subscriptTail_builtinR (x:=w) pl.typeIs slot_tuple_getitem.lookup
  (getItem_tuple (j:=j) (Q:=fun r s'=>r=w/\EP X pins σ Q r s') pl (by omega) (by omega) (by rw [List.size_toArray,<- hl]; exact h1) (by simpa using ew) ⟨rfl,fin⟩) hs
theorem xh (its:List Value) (n j:Nat) (u:Value):Obj.mapSeq (·.setIfInBounds j u) { cls:=.type "list",data:=.seq its.toArray n }={ cls:=.type "list",data:=.seq (its.set j u).toArray n }:=by
 simp [Obj.mapSeq]
theorem Inv.lst {pins:List (Addr×Obj)} {σ:St} {H:Hp} {s:Shared} {p:Addr} {xs:List V} (I:Inv X pins σ H s) (h:H p=some (.lst xs)) :
  ∃ (its:List Value) (n:Nat),Vals xs its/\s.heap.get? p=some { cls:=.type "list",data:=.seq its.toArray n }/\xs.length<=sizeLine:=by
 obtain ⟨z,its,n,r,e⟩:=I.hok p _ h
 exact ⟨its,n,r,e,z⟩
theorem Inv.lstUpd {pins:List (Addr×Obj)} {σ:St} {H:Hp} {s:Shared} {p:Addr} {xs ys:List V} {its its':List Value} {n n':Nat} {f:Obj->Obj} (I:Inv X pins σ H s) (h:H p=some (.lst xs))
  (ho:s.heap.get? p=some { cls:=.type "list",data:=.seq its.toArray n }) (hf:f { cls:=.type "list",data:=.seq its.toArray n }={ cls:=.type "list",data:=.seq its'.toArray n' }) (r:Vals ys its') (hz:ys.length<=sizeLine) (t:Nat) :
  Inv X pins σ (eA H p (.lst ys)) { s with heap:=s.heap.update p f,toks:=t }:=by
 have e:(s.heap.update p f).get? p=some { cls:=.type "list",data:=.seq its'.toArray n' }:=by
  rw [Heap.get?_update_self f ho (by rw [hf] <;> rfl),hf]
 refine I.write (x:=p) (e:=p) (by rw [h]; trivial) (.inl rfl) (fun b u hb q=>(Heap.get?_update_other _ _ (Ne.symm hb)).trans q) ⟨_,e⟩ ?_
 exact ⟨hz,its',n',r,e⟩
noncomputable def Kk:V->V->V->Hp->(Hp->Prop)->Prop:=fun o i v H Q=>∃ p xs k j,o=.ref p/\i=.int k/\H p=some (.lst xs)/\yP xs.length k=some j/\Q (eA H p (.lst (xs.set j v)))
theorem Bx:LC X Kk:=by
 intro pins s σ H o i v ov iv u Q I ro ri rv h
 obtain ⟨p,xs,k,j,rfl,rfl,hp,hj,q⟩:=h
 cases ro
 obtain ⟨t,rfl⟩:=ri
 obtain ⟨its,n,r,ho,hz⟩:=I.lst hp
 obtain ⟨h1,h2,h3,h4⟩:=yO hj
 have hl:=r.length
 have hn:=uy
 have I':Inv X pins σ (eA H p (.lst (xs.set j v))) { s with heap:=s.heap.update p (Obj.mapSeq (·.setIfInBounds j u)) }:=
  I.lstUpd hp ho (xh its n j u) (r.set rv j) (by rw [List.length_set]; exact hz) s.toks
 by_cases h0:0<=k
 ·have hk:k.toNat=j:=by
   rw [seqIndex_of h0 h4] at h1
   exact Option.some.inj h1
  exact PySem.W.ki_setAt ho h0 (by omega) (by rw [List.size_toArray,<- hl]; exact h4) (by rw [hk]; exact ⟨_,I',q⟩)
 ·have hk:(k+(its.toArray.size:Int)).toNat=j:=by
   rw [seqIndex_neg (by omega) h3] at h1
   rw [List.size_toArray,<- hl]
   exact Option.some.inj h1
  exact PySem.W.ki_setBack ho (by omega) (by rw [List.size_toArray,<- hl]; exact h3) (by omega) (by rw [hk]; exact ⟨_,I',q⟩)
theorem tX (lo hi:Option Int) (n:Nat):(sliceBounds lo hi none n).1=((HT.sIx n 0 lo:Nat):Int)/\(sliceBounds lo hi none n).2.1=((HT.sIx n n hi:Nat):Int)/\(sliceBounds lo hi none n).2.2=1:=by
 refine ⟨?_,?_,rfl⟩
 ·cases lo with
  | none=>simp [sliceBounds,HT.sIx]
  | some i=>
   simp only [sliceBounds,HT.sIx,Option.getD_none,show (1:Int)>0 by decide,if_true]
   by_cases h:i<0
   ·simp only [h,if_true] <;> omega
   ·simp only [h,if_false] <;> omega
 ·cases hi with
  | none=>simp [sliceBounds,HT.sIx]
  | some i=>
   simp only [sliceBounds,HT.sIx,Option.getD_none,show (1:Int)>0 by decide,if_true]
   by_cases h:i<0
   ·simp only [h,if_true] <;> omega
   ·simp only [h,if_false] <;> omega
theorem rM (its:List Value) (lo hi:Option Int):slicePick its.toArray lo hi none=((its.drop (HT.sIx its.length 0 lo)).take (HT.sIx its.length its.length hi-HT.sIx its.length 0 lo)).toArray:=by
 obtain ⟨h1,h2,h3⟩:=tX lo hi its.toArray.size
 unfold slicePick
 rw [h1,h2,h3]
 simp only [sliceRange_one,pick_run,List.size_toArray] <;> rfl
noncomputable def MN (K:PySem.W.Frag):V->Option Int->Option Int->Hp->VK->Prop:=fun x lo hi H Q=>∃ a xs,x=.ref a/\SqL K H a xs/\∀ p,H p=none->Q (.ref p) (eA H p (.lst (r8 xs lo hi)))
theorem sl_list:SlR X (MN X.K):=by
 intro pins s σ H x v vl vu lo hi sl Q I rx hs pl pu h
 obtain ⟨a,xs,rfl,hx,q⟩:=h
 cases rx
 obtain ⟨its,r,ht,hz⟩:=I.list hx
 have hlen:=r.length
 refine ⟨"list",_,slot_list_getitem.lookup,ht.isList.typeIs,?_⟩
 refine wpAny_getItem_list_slice ht.isList hs pl pu .none (by simp) ?_ (by rw [List.size_toArray] <;> omega)
 rw [rM,<- hlen]
 refine ⟨.ref s.heap.objs.size,_,I.laid (t':=s.toks) (o:=.lst (r8 xs lo hi)) (fun b ob q=>Heap.get?_push_of_some _ q) (Nat.le_refl _) ?_,rfl,q _ (I.hok.fresh (Nat.le_refl _))⟩
 exact ⟨Nat.le_trans (oG xs lo hi) hz,_,0,(r.drop (HT.sIx xs.length 0 lo)).take (HT.sIx xs.length xs.length hi-HT.sIx xs.length 0 lo),Heap.get?_push_size _ rfl⟩
noncomputable def lM:V->Bool
 | .non=>true
 | .bl _=>true
 | .int _=>true
 | .str _=>true
 | _=>false
noncomputable def DO:V->V->Bool
 | .non,.non=>true
 | .bl a,.bl b=>a==b
 | .bl a,.int b=>(if a then 1 else 0)==b
 | .int a,.bl b=>a==(if b then 1 else 0)
 | .int a,.int b=>a==b
 | .str a,.str b=>a==b
 | _,_=>false
theorem Jm {A:Around} {s:Shared} {y x:V} {u v:Value} (ry:RelV y u) (rx:RelV x v) (fy:lM y=true) (fx:lM x=true):SeqAt.EqAt A s u v (DO y x):=by
 cases y with
 | non=>
  cases ry
  cases x with
  | non=>cases rx; exact SeqAt.EqAt.same _
  | bl b=>cases rx; exact SeqAt.EqAt.none_bool b
  | int b=>obtain ⟨t,rfl⟩:=rx; exact SeqAt.EqAt.none_int b t
  | str b=>obtain ⟨t,rfl⟩:=rx; exact SeqAt.EqAt.none_str b t
  | _=>exact absurd (show false=true from fx) Bool.false_ne_true
 | bl a=>
  cases ry
  cases x with
  | non=>cases rx; exact SeqAt.EqAt.bool_none a
  | bl b=>cases rx; exact SeqAt.EqAt.bool_bool a b
  | int b=>obtain ⟨t,rfl⟩:=rx; exact SeqAt.EqAt.bool_int a b t
  | str b=>obtain ⟨t,rfl⟩:=rx; exact SeqAt.EqAt.bool_str a b t
  | _=>exact absurd (show false=true from fx) Bool.false_ne_true
 | int a=>
  obtain ⟨t',rfl⟩:=ry
  cases x with
  | non=>cases rx; exact SeqAt.EqAt.int_none a t'
  | bl b=>cases rx; exact SeqAt.EqAt.int_bool a t' b
  | int b=>obtain ⟨t,rfl⟩:=rx; exact SeqAt.EqAt.int_int a t' b t
  | str b=>obtain ⟨t,rfl⟩:=rx; exact SeqAt.EqAt.int_str a t' b t
  | _=>exact absurd (show false=true from fx) Bool.false_ne_true
 | str a=>
  obtain ⟨t',rfl⟩:=ry
  cases x with
  | non=>cases rx; exact SeqAt.EqAt.str_none a t'
  | bl b=>cases rx; exact SeqAt.EqAt.str_bool a t' b
  | int b=>obtain ⟨t,rfl⟩:=rx; exact SeqAt.EqAt.str_int a t' b t
  | str b=>obtain ⟨t,rfl⟩:=rx; exact SeqAt.EqAt.str_str a t' b t
  | _=>exact absurd (show false=true from fx) Bool.false_ne_true
 | _=>exact absurd (show false=true from fy) Bool.false_ne_true
noncomputable def FX (x:V) (u:Value):Bool:=match u with
 | .none=>DO .non x
 | .bool b=>DO (.bl b) x
 | .int i _=>DO (.int i) x
 | .str z _=>DO (.str z) x
 | _=>false
theorem CS {x y:V} {u:Value} (r:RelV y u) (f:lM y=true):FX x u=DO y x:=by
 cases y with
 | non=>cases r; rfl
 | bl b=>cases r; rfl
 | int i=>obtain ⟨t,rfl⟩:=r; rfl
 | str z=>obtain ⟨t,rfl⟩:=r; rfl
 | _=>exact absurd (show false=true from f) Bool.false_ne_true
theorem u6 {x:V}:∀ {xs:List V} {us:List Value},Vals xs us->xs.all lM=true->us.any (FX x)=xs.any fun y=>DO y x
 | _,_,.nil,_=>rfl
 | y::xs,u::us,.cons r t,f=>by
  rw [List.all_cons,Bool.and_eq_true] at f
  rw [List.any_cons,List.any_cons,CS r f.1,u6 t f.2]
theorem qH {A:Around} {s:Shared} {x:V} {v:Value} (rx:RelV x v) (fx:lM x=true):∀ {xs:List V} {us:List Value},Vals xs us->xs.all lM=true->∀ u∈us,SeqAt.EqAt A s u v (FX x u)
 | _,_,.nil,_=>fun u hu=>by cases hu
 | y::xs,u::us,.cons r t,f=>fun u' hu=>by
  rw [List.all_cons,Bool.and_eq_true] at f
  rcases List.mem_cons.mp hu with rfl | hu
  ·rw [CS r f.1]; exact Jm r rx f.1 fx
  ·exact qH rx fx t f.2 u' hu
noncomputable def LP (x:V) (xs:List V):Bool:=xs.any fun y=>DO y x
noncomputable def MQ (K:PySem.W.Frag) (neg:Bool):R2:=fun x y H Q=>∃ p xs,y=.ref p/\(SqL K H p xs\/SqT K H p xs)/\lM x=true/\xs.all lM=true/\Q (.bl (if neg then !LP x xs else LP x xs)) H
theorem zR:OpR X (compareOp .In) (MQ X.K false):=by
 intro pins s σ H x y v u Q I rx ry h
 obtain ⟨p,xs,rfl,hq,fx,fs,q⟩:=h
 cases ry
 rcases hq with hq | hq
 ·obtain ⟨its,r,pl,hz⟩:=I.list hq
  refine SeqAt.in_listAt (FX x) pl.isList (fun w hw=>qH rx fx r fs w (by simpa using hw)) ⟨.bl _,H,I,rfl,?_⟩
  rw [show its.toArray.any (FX x)=its.any (FX x) by simp,u6 r fs]
  exact q
 ·obtain ⟨its,r,pl,hz⟩:=I.tuple hq
  refine SeqAt.in_tupleAt (FX x) pl (fun w hw=>qH rx fx r fs w (by simpa using hw)) ⟨.bl _,H,I,rfl,?_⟩
  rw [show its.toArray.any (FX x)=its.any (FX x) by simp,u6 r fs]
  exact q
theorem CallR.or {f:Value} {r r':List V->Hp->VK->Prop} (h:CallR X f r) (h':CallR X f r'):CallR X f (fun xs H Q=>r xs H Q\/r' xs H Q):=by
 intro pins s σ H xs us Q I rs q
 rcases q with q | q
 ·exact h pins s σ H xs us Q I rs q
 ·exact h' pins s σ H xs us Q I rs q
theorem r9:CallR X (.type "tuple") (fun xs H Q=>∃ p ys,xs=[.ref p]/\((SqL X.K H p ys/\∀ l,H l=none->Q (.ref l) (eA H l (.tup ys)))\/(SqT X.K H p ys/\Q (.ref p) H))):=by
 intro pins s σ H xs us Q I r h
 obtain ⟨p,ys,rfl,h⟩:=h
 obtain ⟨u,rfl,rx⟩:=sw r
 cases rx
 rcases h with ⟨hq,q⟩ | ⟨hq,q⟩
 ·obtain ⟨its,r',pl,hz⟩:=I.list hq
  have hlen:=r'.length
  refine call_tuple_list pl.isList (fun h' kp=>?_) (by simp only [List.size_toArray] <;> omega)
  have I1:Inv X pins σ H { s with heap:=h' }:=I.kept (t':=s.toks) kp
  have I2:Inv X pins σ (eA H h'.objs.size (.tup ys)) { s with heap:=h'.push { cls:=.type "tuple",data:=.seq its.toArray } }:=
   I1.laid (t':=s.toks) (fun b o e=>Heap.get?_push_of_some _ e) (Nat.le_refl _) (show ObjOk X.prog X.w _ _ _ (.tup ys) from ⟨hz,its,r',IsTup.new _ _⟩)
  exact ⟨.ref h'.objs.size,_,I2,rfl,q _ (I1.hok.fresh (Nat.le_refl _))⟩
 ·obtain ⟨its,r',pl,hz⟩:=I.tuple hq
  exact call_tuple_same pl ⟨.ref p,H,I,rfl,q⟩
noncomputable def L8 (K:PySem.W.Frag) (T:String) (x:V) (H:Hp):Prop:=match x with
 | .str _=>T = "str"
 | .int _=>T = "int"
 | .ref p=>(T = "list" /\ ∃ xs,SqL K H p xs)\/(T = "tuple" /\ ∃ o,K.lookup p=some o/\o.cls=.type "tuple" /\ o.dict=none) \/
   (T = "dict" /\ ((∃ kvs,H p=some (.dK kvs))\/∃ kvs,H p=some (.dT kvs)))\/(T = "set" /\ ∃ S n,H p=some (.set S n))
 | _=>False
theorem A8 {pins:List (Addr×Obj)} {σ:St} {H:Hp} {s:Shared} {T:String} {x:V} {v:Value} (I:Inv X pins σ H s) (r:RelV x v) (ty:L8 X.K T x H) :
  s.TypeIs v T/\∀ a,v=.ref a->∃ ob,s.heap.get? a=some ob/\ob.dict=none:=by
 cases x with
 | str z=>
  obtain ⟨t,rfl⟩:=r
  cases (show T = "str" from ty)
  exact ⟨typeIs_str s z t,fun _ e=>nomatch e⟩
 | int i=>
  obtain ⟨t,rfl⟩:=r
  cases (show T = "int" from ty)
  exact ⟨typeIs_int s i t,fun _ e=>nomatch e⟩
 | ref p=>
  cases r
  rcases ty with ⟨rfl,xs,hq⟩ | ⟨rfl,o,hk,hc,hd⟩ | ⟨rfl,hk⟩ | ⟨rfl,S,n,hk⟩
  ·obtain ⟨its,_,pl,_⟩:=I.list hq
   refine ⟨pl.isList.typeIs,fun a e=>?_⟩
   cases e
   obtain ⟨o,n,e,c,hd,_⟩:=pl
   exact ⟨o,e,hd⟩
  ·refine ⟨⟨o,I.kIn p o hk,hc⟩,fun a e=>?_⟩
   cases e
   exact ⟨o,I.kIn _ o hk,hd⟩
  ·have z:∃ o,s.heap.get? p=some o/\o.ExactDict:=by
    rcases hk with ⟨kvs,hk⟩ | ⟨kvs,hk⟩
    ·obtain ⟨_,_,_,_,o,_,_,e,ex,_⟩:=I.hok p _ hk
     exact ⟨o,e,ex⟩
    ·obtain ⟨_,_,_,_,o,_,_,e,ex,_⟩:=I.hok p _ hk
     exact ⟨o,e,ex⟩
   obtain ⟨o,e,ex⟩:=z
   refine ⟨⟨o,e,ex.1⟩,fun a e2=>?_⟩
   cases e2
   exact ⟨o,e,ex.2.1⟩
  ·obtain ⟨o,_,_,_,e,ex,_⟩:=I.hok p _ hk
   refine ⟨⟨o,e,ex.1⟩,fun a e2=>?_⟩
   cases e2
   exact ⟨o,e,ex.2.1⟩
 | _=>exact False.elim ty
noncomputable def Mw (K:PySem.W.Frag) (T:String) (r:V->List V->Hp->VK->Prop) (to:TE):TE:=fun σ H Q=>to σ H fun x H1=>L8 K T x H1/\r x [] H1 Q
noncomputable def Ow (K:PySem.W.Frag) (T:String) (r:V->List V->Hp->VK->Prop) (to:TE) (t:TA):TE:=fun σ H Q=>to σ H fun x H1=>L8 K T x H1/\t σ H1 fun xs H2=>r x xs H2 Q
variable {o e:Expr} {es:List Expr} {to:TE} {t:TA} {name:Str} {apos cpos:Pos} {T id:String} {r:V->List V->Hp->VK->Prop}
theorem Ig (pa:PlainAttrs T) (slot:Slot T name id) (hty:typeOf (.builtin id)=pure (.type "method_descriptor")) (hm:MtR X id r) (ho:PE X o to)
  (hbase:attributeBase o name X.env (eval o X.env)=eval o X.env:=by rfl) (hline:(apos.endLine==cpos.line)=true:=by rfl):PE X (.Call (.Attribute o name apos) [] [] cpos) (Mw X.K T r to):=by
 intro pins s σ H Q I h
 refine wpAny_Call_method0_late hbase hline (dS (ho pins s σ H _ I h) fun v s1 ⟨x,H1,I1,r1,ty,q1⟩=>?_)
 obtain ⟨h1,h2⟩:=A8 I1 r1 ty
 exact ⟨T,id,pa,slot,hty,h1,h2,Calls.callWith_builtin rfl (PySem.evalArgs_none (hm pins s1 σ H1 x [] v [] Q I1 r1 .nil q1))⟩
theorem GD (pa:PlainAttrs T) (slot:Slot T name id) (hty:typeOf (.builtin id)=pure (.type "method_descriptor")) (hm:MtR X id r) (ho:PE X o to) (ha:PA X (e::es) t)
  (hbase:attributeBase o name X.env (eval o X.env)=eval o X.env:=by rfl)
  (hfew:((backTo cpos (starEach (e::es) X.env)).all (fun x=>!x.1)&&(backToKw cpos (keywordEach [] X.env)).all (fun x=>x.1.isSome)
   && decide ((e::es).length+([]:List Keyword).length+(if ([]:List Keyword).isEmpty then 0 else 1)<30))=true:=by rfl)
  (hline:(apos.endLine==cpos.line)=true:=by rfl) (hs:starEach (e::es) X.env=(false,eval e X.env)::starEach es X.env:=by rfl) (hplain:(backTo cpos (starEach es X.env)).any (·.1)=false:=by rfl) :
  PE X (.Call (.Attribute o name apos) (e::es) [] cpos) (Ow X.K T r to t):=by
 intro pins s σ H Q I h
 refine wpAny_Call_method_late hbase hfew hline rfl (dS (ho pins s σ H _ I h) fun v s1 ⟨x,H1,I1,r1,ty,q1⟩=>?_)
 obtain ⟨h1,h2⟩:=A8 I1 r1 ty
 refine ⟨T,id,pa,slot,hty,h1,h2,?_⟩
 have hA:=ha cpos pins s1 σ H1 _ I1 q1
 rw [hs] at hA ⊢
 refine Calls.callWith_builtin (by show (false||(backTo cpos (starEach es X.env)).any (·.1))=false; rw [hplain] <;> rfl) (Calls.evalArgs_plain ?_)
 exact dS hA fun us s2 ⟨vs,H2,I2,r2,q2⟩=>hm pins s2 σ H2 x vs v us Q I2 r1 r2 q2
end
end L2
namespace L2
open PySem PySem.Spec PyProof.Rows
noncomputable def Og (X:Cx) (id:String) (r:V->List V->Hp->VK->Prop):Prop:=
 ∀ (pins:List (Addr×Obj)) (s:Shared) (σ:St) (H:Hp) (x:V) (xs:List V) (v:Value) (us:List Value) (Q:VK),Inv X pins σ H s->RelV x v->Vals xs us->r x xs H Q ->
  wpAny (model X.prog X.w) X.A (call (.builtin id) (v::us)) (EP X pins σ Q) X.xe s
theorem Vals.one:∀ {x:V} {us:List Value},Vals [x] us->∃ u,us=[u]/\RelV x u
 | _,_,h=>by
  cases h with
  | cons r t=>
   cases t
   exact ⟨_,rfl,r⟩
theorem Vals.two:∀ {x y:V} {us:List Value},Vals [x,y] us->∃ u v,us=[u,v]/\RelV x u/\RelV y v
 | _,_,_,h=>by
  cases h with
  | cons r t=>
   cases t with
   | cons q t2=>
    cases t2
    exact ⟨_,_,rfl,r,q⟩
theorem Vals.zero:∀ {us:List Value},Vals [] us->us=[]
 | _,.nil=>rfl
theorem Vals.reverse {xs:List V} {us:List Value} (h:Vals xs us):Vals xs.reverse us.reverse:=by
 induction h with
 | nil=>exact .nil
 | cons r t ih=>rw [List.reverse_cons,List.reverse_cons]; exact Vals.append ih (.cons r .nil)
section
variable {X:Cx} {pins:List (Addr×Obj)} {σ:St} {H:Hp} {s:Shared} {l b:Addr} {xs ys zs:List V}
theorem Inv.lset {its its':List Value} {n:Nat} {f:Array Value->Array Value} {t':Nat} (I:Inv X pins σ H s) (hH:H l=some (.lst xs))
  (e:s.heap.get? l=some { cls:=.type "list",data:=.seq its.toArray n }) (hf:f its.toArray=its'.toArray) (hv:Vals ys its') (hz:ys.length<=sizeLine) :
  Inv X pins σ (eA H l (.lst ys)) { s with heap:=s.heap.update l (Obj.mapSeq f),toks:=t' }:=by
 have q:=PySem.IsL.update e f
 rw [hf] at q
 refine I.write (x:=l) (e:=l) (by rw [hH]; exact trivial) (.inl rfl) (fun b' u hb hu=>(Heap.get?_update_other s.heap (Obj.mapSeq f) (Ne.symm hb)).trans hu) ⟨_,q⟩ ?_
 exact ⟨hz,its',_,hv,q⟩
theorem Inv.lnew {its:List Value} {t':Nat} (I:Inv X pins σ H s) (hv:Vals ys its) (hz:ys.length<=sizeLine) :
  Inv X pins σ (eA H s.heap.objs.size (.lst ys)) { s with heap:=s.heap.push { cls:=.type "list",data:=.seq its.toArray },toks:=t' }:=
 I.laid (fun _ _ q=>Heap.get?_push_of_some _ q) (Nat.le_refl _) ⟨hz,its,0,hv,Heap.get?_push_size _ rfl⟩
theorem Inv.fresh (I:Inv X pins σ H s):H s.heap.objs.size=none:=I.hok.fresh (Nat.le_refl _)
theorem Inv.lstM (I:Inv X pins σ H s) (hH:H l=some (.lst xs)):xs.length<=sizeLine/\∃ (its:List Value) (n:Nat),Vals xs its/\xs.length=its.length/\s.heap.get? l=some { cls:=.type "list",data:=.seq its.toArray n }:=by
 obtain ⟨z,its,n,r,e⟩:=I.hok l _ hH
 exact ⟨z,its,n,r,r.length,e⟩
theorem B8 {n:Nat} (h:n<=sizeLine):Builtin.List.listTooLong n=false:=by
 unfold Builtin.List.listTooLong
 exact decide_eq_false (by omega)
end
section
variable {X:Cx}
noncomputable def EB:V->List V->Hp->VK->Prop:=fun x vs H Q=>∃ l xs y,x=.ref l/\vs=[y]/\H l=some (.lst xs)/\xs.length<sizeLine/\Q .non (eA H l (.lst (xs++[y])))
theorem Af:Og X "list.append" EB:=by
 intro pins s σ H x vs v us Q I rx rv h
 obtain ⟨l,xs,y,rfl,rfl,hH,hz,q⟩:=h
 cases rx
 obtain ⟨u,rfl,ru⟩:=rv.one
 obtain ⟨z,its,n,r,hl,e⟩:=I.lstM hH
 refine call_meets F.slot_list_append ⟨_,e,rfl⟩ F.entry_list_append (F.args_list_append_2 _ _) (PySem.list_append l its.toArray n u (by rw [List.size_toArray]; omega)) ⟨e,?_⟩
 refine ⟨.non,_,I.lset (its':=its++[u]) hH e (by simp) (r.append (.cons ru .nil)) ?_,rfl,q⟩
 rw [List.length_append,List.length_singleton]
 omega
end
section
variable {prog:Program} {w:World} {A:Around} {E:Value->Shared->Prop} {s:Shared}
end
section
variable {X:Cx}
end
end L2
namespace Att
open PySem PySem.W PySem.Calls PyProof.Rows
theorem ph {P:Params} {h:Heap}:∀ (ns:List Int) (vs:List Value),WellAll P h vs (ns.map WData.int)->IntsAre vs ns:=by
 intro ns
 induction ns with
 | nil=>
  intro vs w
  rw [List.map_nil] at w
  cases w
  exact .nil
 | cons n ns ih=>
  intro vs w
  rw [List.map_cons] at w
  cases w with
  | cons a b=>
   cases a
   exact .cons _ _ (ih _ b)
theorem zE {l:OpenLaw} {n:Nat} (hn:l.most=some n) {P:Params} {h:Heap} {args:List WData} {vals:List Value}
  (hpre:l.row.toRowW.claim.pre args=true) (hwl:WellAll P h vals args) :
  ∃ a vs ns,vals=[Value.ref a]/\args=[WData.list (ns.map WData.int)]/\h.get? a=some { cls:=.type "list",data:=.seq vs.toArray }/\IntsAre vs ns/\ns.length<=n:=by
 have hsh:WShape.hasAll [] args [.list .int]=true:=(pre_splitW hpre).1
 have hc:l.pre.holds [] { args:=args }=true:=(pre_splitW hpre).2
 obtain ⟨d,r,rfl,h1,h2⟩:=hasAllW_cons hsh
 obtain rfl:=hasAllW_nil h2
 obtain ⟨xs,rfl,h3⟩:=hasW_list h1
 obtain ⟨ns,rfl⟩:=items_int h3
 have hlen:ns.length<=n:=by
  unfold OpenLaw.pre at hc
  have h4:(WTm.not (.lt (.lit (.int (n:Int))) (.len (.arg 0)))).holds [] { args:=[.list (ns.map .int)] }=true:=by
   have h4:=(holds_andW hc).1
   rw [hn] at h4
   exact h4
  have h5:=condW_of h4 (w_not (w_lt w_lit (w_len_list (w_arg rfl))))
  rw [List.length_map] at h5
  refine Nat.le_of_not_lt fun q=>?_
  have q':(n:Int)<((ns.length:Nat):Int):=by omega
  first
   | (rw [decide_eq_true q'] at h5; exact absurd h5 (by decide))
   | (simp at h5; omega)
 cases hwl with
 | cons w1 w2=>
  cases w2
  cases w1 with
  | list ho hall=>exact ⟨_,_,ns,rfl,rfl,ho,ph ns _ hall,hlen⟩
theorem zK (l:OpenLaw) (args:List WData):l.row.toRowW.claim.post args (.bool true) args=true:=
 postW_of (r:=l.row.toRowW) (X:=(true==true))
  (show WShape.has [] (.bool true) .bool=true by first | rfl | decide | simp [WShape.has,WShape.arms,WShape.armsAll])
  (show (WTm.eq .res (.lit (.bool true))).value [] { args:=args,res:=some (.bool true),after:=args }=some (.bool (true==true)) from w_eq_bool (w_res rfl) w_lit) rfl
theorem ww {l:OpenLaw} {n:Nat} {q:Program} {loose:List Str} {XP:(Str->Option Value)->Heap->Prop} {YP:World->Heap->Prop} {d:DefRec}
  (hn:l.most=some n) (hdf:d.params.defaults=[])
  (call:∀ (w:World) (s₀ s₁:Shared) (mg mb:Str->Option Value) (fa:Addr) (o:Obj) (pm cd doc:Value) (a:Addr) (vs:List Value) (ns:List Int),
   Ground q loose [] XP w s₀ mg mb s₁.heap->YP w s₁.heap ->
   s₁.heap.get? fa=some o->o.data=.func (docDef d.name d.params d.body d.scope pm cd doc)->s₁.heap.CodeRec cd d.name->mg d.name=some (.ref fa) ->
   s₁.heap.get? a=some { cls:=.type "list",data:=.seq vs.toArray }->IntsAre vs ns->ns.length<=n->s₁.gens = #[] ->
   codeAny (model l.prog w) callerA (.call (.ref fa) ⟨[.ref a],[]⟩) (fun r s'=>r=.ok (.ret (.bool true))/\OldK s₁.heap s'.heap/\s'.os=s₁.os/\AllBare s'.gens) s₁) :
  WalkO q loose XP YP l.row.toRowW d [] (fun f vs=>PySem.call f vs):=by
 intro w s₀ s₁ mg mb G Y fa o pm cd doc dV kV ho hd hcd hD hmg hg args vals as hpre hlay hrd hwl hlo
 obtain rfl:dV=.none:=Dflts.none hD hdf
 obtain rfl:kV=.none:=Dflts.noKw hD
 obtain ⟨a,vs,ns,rfl,rfl,hobj,hints,hlen⟩:=zE hn hpre hwl
 refine enter_call (codeAny_mono (call w s₀ s₁ mg mb fa o pm cd doc a vs ns G Y ho (fd_plain hd) hcd hmg hobj hints hlen hg) fun r s' hq=>?_)
 obtain ⟨rfl,h2,h3,h4⟩:=hq
 exact ⟨.inl ⟨.bool true,.bool true,[],rfl,fun _=>rfl,.bool true,zK l _,fun _=>⟨List.Pairwise.nil,fun _ hm=>(nomatch hm)⟩⟩,h2,h3,h4⟩
section
variable {prog:Program} {w:World} {A:Around} {E:Value->Shared->Prop} {s:Shared} {K:Frag}
noncomputable def M0 (h:Heap) (L d:Addr):List (Addr×Obj):=(List.range h.objs.size).filterMap fun a=>if a=L\/a=d then none else (h.get? a).map fun o=>(a,o)
end
end Att
namespace L2
open PySem PySem.Spec PyProof.Rows
theorem kT:∀ {vs:List Value} {ns:List Int},IntsAre vs ns->Vals (ns.map V.int) vs
 | _,_,.nil=>.nil
 | _,_,.cons n t h=>.cons ⟨t,rfl⟩ (kT h)
noncomputable def JF (H:Hp):Prop:=∀ b,H b=none\/∃ o xs,H b=some (.frz o (.lst xs))
theorem Cf {P:Program} {w:World} {K:PySem.W.Frag} {mg mb:Str->Option Value} {CX:wE} {k:Nat} {fa a:Addr} {fd:FuncData} {x:Str} {sp:Sp} {s₁:Shared} {vs:List Value} {ns:List Int}
  (KX:K.In s₁.heap) (hns:s₁.heap.Ns mainGlobals mg) (hb:s₁.heap.Ns builtinsNs mb) (hbb:∀ x:Str,x ≠ "__name__" -> mb x=bootBuiltins x) (hlim:s₁.heap.NoLimit) (hg:s₁.gens = #[])
  (ha:s₁.heap.get? a=some { cls:=.type "list",data:=.seq vs.toArray }) (hi:IntsAre vs ns) (hl:ns.length<=sizeLine) (hr:Room k callerA)
  (F:∀ base:Heap,K.In base->base.Ns mainGlobals mg->FnOk P w K mg base CX k fa fd [x] sp) (hbind:∀ (s:Shared) (u:Value),BindsTo s fd ⟨[u],[]⟩ [(x,u)])
  (hsp:∀ H:Hp,JF H->SqL K H a (ns.map V.int)->sp [.ref a] H (fun v _=>v=.bl true) fun _ _ _=>False)
  (hCX:∀ H e s',CX [] H s₁ (fun _ _ _=>False) e s'->False) :
  codeAny (model P w) callerA (.call (.ref fa) ⟨[.ref a],[]⟩) (fun r s'=>r=.ok (.ret (.bool true))/\OldK s₁.heap s'.heap/\s'.os=s₁.os/\AllBare s'.gens) s₁:=by
 have rv:=kT hi
 have lenV:=hi.length
 have core:∀ H:Hp,JF H->SqL K H a (ns.map V.int)->HOk P w H s₁.heap->(∀ b,H b≠none->b=a)->(H a≠none->K.lookup a=none) ->
   codeAny (model P w) callerA (.call (.ref fa) ⟨[.ref a],[]⟩) (fun r s'=>r=.ok (.ret (.bool true))/\OldK s₁.heap s'.heap/\s'.os=s₁.os/\AllBare s'.gens) s₁:=by
  intro H hO hS hok hA hK
  have base_of:∀ {b:Addr} {o:Obj},s₁.heap.get? b=some o->H b=none->(uC s₁.heap H).get? b=some o:=fun e n=>Cz e n
  have noA:∀ {b:Addr} {o:Obj} {es:Array DictEntry} {ep:Nat},s₁.heap.get? b=some o->o.data=.dict es ep->H b=none:=fun {b o es ep} e d=>by
   cases q:H b with
   | none=>rfl
   | some u=>
    have e':b=a:=hA b (by rw [q]; simp)
    subst e'
    rw [ha] at e; cases e
    have d':Data.seq vs.toArray _=Data.dict es ep:=d
    cases d'
  have nsK:∀ {b:Addr} {m:Str->Option Value},s₁.heap.Ns b m->(uC s₁.heap H).Ns b m:=fun {b m} ⟨o,es,ep,e,d,r⟩=>⟨o,es,ep,base_of e (noA e d),d,r⟩
  have hKb:K.In (uC s₁.heap H):=fun b o e=>base_of (KX b o e) (by
   cases q:H b with
   | none=>rfl
   | some u=>
    have e':b=a:=hA b (by rw [q]; simp)
    subst e'
    rw [hK (by rw [q]; simp)] at e; cases e)
  have hM:Mod K mg (uC s₁.heap H):=⟨hKb,nsK hns,⟨mb,nsK hb,hbb⟩,let ⟨mc,h1,h2⟩:=hlim; ⟨mc,nsK h1,h2⟩⟩
  have e0:Env0 P w K mg (uC s₁.heap H) callerA [] s₁ H:=⟨rfl,hM,fun b o e=>EZ e,Nat.le_of_eq (Ao _ _),trivial,fun b hb=>absurd (show b∈([]:List Addr) from hb) (by simp),hok,.of_eq hg⟩
  refine codeAny_mono ((F _ hKb (nsK hns)).run callerA [] s₁ H ⟨[.ref a],[]⟩ [.ref a] [.ref a] _ _ hr e0 (hbind s₁ (.ref a)) (.cons rfl .nil) (hsp H hO hS)) fun r s' h=>?_
  cases r with
  | error e=>exact (hCX H e s' h).elim
  | ok fl=>
   cases fl with
   | next=>exact False.elim h
   | brk=>exact False.elim h
   | cont=>exact False.elim h
   | ret u=>
    obtain ⟨v,H',os,bare,un,hok',r',q⟩:=h
    have q':v=.bl true:=q
    subst q'
    obtain rfl:u=Value.bool true:=r'
    refine ⟨rfl,OldK.of_keep fun b o e=>?_,os,bare⟩
    cases q:H b with
    | none=>exact un.keep b o e q (by intro z; exact absurd (show b∈([]:List Addr) from z) (by simp)) (by simp)
    | some u=>
     rcases hO b with z | ⟨ob,xs,z⟩
     ·rw [q] at z; cases z
     ·have z2:=un.frzs b ob _ z
      obtain ⟨e1,_⟩:=hok b _ z
      obtain ⟨e2,_⟩:=hok' b _ z2
      rw [e] at e1; cases e1
      exact e2
 cases hk:K.lookup a with
 | some o=>
  have e:=KX a o hk
  rw [ha] at e
  cases e
  refine core (fun _=>none) (fun _=>.inl rfl) (.inr ⟨_,vs.toArray,_,hk,rfl,rfl,rfl,by rw [List.size_toArray,lenV]; exact hl,by simpa using rv⟩) (fun b u z=>by have z':(none:Option HO)=some u:=z; cases z') (fun b z=>absurd rfl z) fun z=>absurd rfl z
 | none=>
  refine core (fun b=>if b=a then some (.frz { cls:=.type "list",data:=.seq vs.toArray } (.lst (ns.map V.int))) else none) (fun b=>?_) (.inl (.inr ⟨{ cls:=.type "list",data:=.seq vs.toArray },if_pos rfl⟩)) (fun b u z=>?_) (fun b z=>?_) fun _=>hk
  ·by_cases hb:b=a
   ·exact .inr ⟨_,_,if_pos hb⟩
   ·exact .inl (if_neg hb)
  ·by_cases hb:b=a
   ·have z':=(if_pos hb).symm.trans z
    cases z'
    subst hb
    exact ⟨ha,by rw [List.length_map]; exact hl,vs,_,rv,ha⟩
   ·have z':=(if_neg hb).symm.trans z
    cases z'
  ·by_cases hb:b=a
   ·exact hb
   ·exact absurd (if_neg hb) z
end L2
namespace L2
open PySem PySem.Spec PyProof.Rows
noncomputable abbrev OR {K:PySem.W.Frag} {h:Heap} (_:K.In h):PySem.W.Frag:=K
theorem DU {l:PySem.W.OpenLaw} {n k:Nat} {q:Program} {loose:List Str} {XP:(Str->Option Value)->Heap->Prop} {YP:World->Heap->Prop} {d:DefRec} {K:Params->PySem.W.Frag} {CX:World->wE} {sp:World->Sp} {x:Str}
  (hn:l.most=some n) (hn2:n<=sizeLine) (hdf:d.params.defaults=[]) (hr:Room k callerA)
  (hY:∀ (w:World) (h:Heap),YP w h->(K w.params).In h)
  (F:∀ (w:World) (mg:Str->Option Value) (fa:Addr) (h:Heap),(K w.params).In h->h.Ns mainGlobals mg->mg d.name=some (.ref fa) ->
   ∃ fd:FuncData,(∀ (s:Shared) (u:Value),BindsTo s fd ⟨[u],[]⟩ [(x,u)]) /\
    ∀ base:Heap,(K w.params).In base->base.Ns mainGlobals mg->FnOk l.prog w (K w.params) mg base (CX w) k fa fd [x] (sp w))
  (hsp:∀ (w:World) (H:Hp) (a:Addr) (ns:List Int),ns.length<=n->JF H->SqL (K w.params) H a (ns.map V.int)->sp w [.ref a] H (fun v _=>v=.bl true) fun _ _ _=>False)
  (hCX:∀ (w:World) (H:Hp) (s:Shared) (e:Value) (s':Shared),CX w [] H s (fun _ _ _=>False) e s'->False) :
  PySem.W.WalkO q loose XP YP l.row.toRowW d [] (fun f vs=>PySem.call f vs):=by
 refine Att.ww hn hdf fun w s₀ s₁ mg mb fa o pm cd doc a vs ns G Y ho hd hcd hmg hobj hints hlen hg=>?_
 have KX:=hY w _ Y
 obtain ⟨fd,hb,hF⟩:=F w mg fa _ KX G.T.g hmg
 exact Cf KX G.T.g G.T.b G.T.builtins G.T.nolimit hg hobj hints (Nat.le_trans hlen hn2) hr hF hb (fun H hO hS=>hsp w H a ns hlen hO hS) fun H e s'=>hCX w H s₁ e s'
end L2
namespace L2
open PySem PySem.Spec PyProof.Rows
noncomputable def cA (s:Stmt):Arguments:=match s with
 | .FunctionDef _ a _ _ _ _ _ _ _ _=>a
 | _=>{ posonlyargs:=[],args:=[],vararg:=none,kwonlyargs:=[],kw_defaults:=[],kwarg:=none,defaults:=[] }
noncomputable def bP (s:Stmt):List Stmt:=match s with
 | .FunctionDef _ _ b _ _ _ _ _ _ _=>b
 | _=>[]
noncomputable def ah (s:Stmt):Scope:=match s with
 | .FunctionDef _ _ _ _ _ _ sc _ _ _=>sc
 | _=>{ kind:=.function,names:=[],isGenerator:=false,isCoroutine:=false }
noncomputable abbrev cN:wE:=fun _ _ _ _ _ _=>False
noncomputable abbrev E0:XK:=fun _ _ _=>False
theorem BT {X:Cx}:u9 cN X E0:=fun _ _ _ _ _ _ _ h=>h.elim
structure Fun (K:PySem.W.Frag) (x qual:Str) (st:Stmt) (f:Addr) (fd:FuncData):Prop where
 ex:∃ (oc:Value) (od:Option Addr) (kV doc pm:Value) (an:Option Addr) (cdv ct:Value) (osl:Array (Option Value)),
  fd=PySem.W.fnOf x qual (cA st) (bP st) (ah st) .none kV doc pm an cdv ct/\K.lookup f=some ⟨oc,od,.func fd,osl⟩/\PySem.W.codeIn K cdv qual=true
 kp:PySem.W.keepIn K (.ref f)=true
section
variable {P:Program} {w:World} {K:PySem.W.Frag} {mg:Str->Option Value} {base:Heap}
theorem Fun.ok {x qual:Str} {st:Stmt} {f:Addr} {fd:FuncData} {N ps:List Str} {k:Nat} {sp:Sp} (F:Fun K x qual st f fd) (S:FnScope N ps (ah st)) (len:∀ vs H Q E,sp vs H Q E->vs.length=ps.length)
  (hbody:∀ (cdv:Value) (A:Around) (outer:List Env) (s:Shared) (H:Hp) (vs:List V) (Q:VK) (E:XK),Room k (A.deeper (envOfC qual (ah st) s.heap.objs.size f cdv))->sp vs H Q E ->
   ∃ t,PSs (iE cN P w K mg base N qual (ah st) f cdv A outer s H E).nox (bP st) t/\t { nx:=fun _ H'=>Q .non H',rt:=Q } (start N vs) H):FnOk P w K mg base cN (k+1) f fd ps sp:=by
 obtain ⟨oc,od,kV,doc,pm,an,cdv,ct,osl,rfl,lk,hcd⟩:=F.ex
 refine yU lk hcd S len fun A outer s H vs Q E hr hsp=>?_
 obtain ⟨t,h,q⟩:=hbody cdv A outer s H vs Q E hr hsp
 exact ⟨t,h.nox,q⟩
theorem Fun.binds {x qual:Str} {st:Stmt} {f:Addr} {fd:FuncData} {ps:List Str} (F:Fun K x qual st f fd)
  (h:∀ (kV doc pm:Value) (an:Option Addr) (cdv ct:Value) (us:List Value),us.length=ps.length->bindArgs (PySem.W.fnOf x qual (cA st) (bP st) (ah st) .none kV doc pm an cdv ct) ⟨us,[]⟩=pure (ps.zip us)):Binds K fd ps []:=by
 obtain ⟨oc,od,kV,doc,pm,an,cdv,ct,osl,rfl,lk,hcd⟩:=F.ex
 exact .all (h kV doc pm an cdv ct)
end
section
variable {X:Cx}
end
noncomputable def Same (H H':Hp):Prop:=∀ b o,H b=some o->H' b=some o
theorem Same.refl (H:Hp):Same H H:=fun _ _ h=>h
theorem Same.trans {H H1 H2:Hp} (a:Same H H1) (b:Same H1 H2):Same H H2:=fun c o h=>b c o (a c o h)
theorem Same.free {H H':Hp} (e:Same H H') {l:Addr} (h:H' l=Option.none):H l=Option.none:=by
 cases q:H l with
 | none=>rfl
 | some o=>
  rw [e l o q] at h
  cases h
theorem Same.seq {K:PySem.W.Frag} {H H':Hp} {a:Addr} {xs:List V} (e:Same H H') (h:SqL K H a xs):SqL K H' a xs:=by
 rcases h with (h | ⟨o,h⟩) | h
 ·exact .inl (.inl (e _ _ h))
 ·exact .inl (.inr ⟨o,e _ _ h⟩)
 ·exact .inr h
end L2
set_option Elab.async false
set_option linter.all false
set_option maxRecDepth 100000
set_option maxHeartbeats 4000000
namespace VL
open PySem L2
noncomputable abbrev D:=PyData
inductive Oc where
 | l (ds:List D) | d (es:List (eM×D))
inductive Sl where
 | un | fz (d:D) | own (c:Oc) | fr (ds:List D)
noncomputable abbrev Sl.ow (ds:List D):Sl:=.own (.l ds)
noncomputable abbrev Sl.od (es:List (eM×D)):Sl:=.own (.d es)
noncomputable def Cu:eM->D
 | .inl i=>.int i
 | .inr x=>.str x
noncomputable def CV (es:List (eM×Int)):List (D×D):=es.map fun p=>(Cu p.1,.int p.2)
noncomputable abbrev Dv:=List Sl
inductive Fl where
 | nx | bk | ct | rt (d:D)
noncomputable abbrev Sf:=Dv->Option (Fl×Dv)
@[simp] noncomputable def o2 (f1 f2:Dv->Option D) (g:D->D->Option D):Dv->Option D:=fun δ=>(f1 δ).bind fun x=>(f2 δ).bind fun y=>g x y
@[simp] noncomputable def o1 (f:Dv->Option D) (g:D->Option D):Dv->Option D:=fun δ=>(f δ).bind g
@[simp] noncomputable def os (f:Dv->Option (List D)) (g:List D->Option D):Dv->Option D:=fun δ=>(f δ).bind g
noncomputable def asB:D->Option Bool
 | .bool b=>some b
 | _=>none
@[simp] theorem C9 (b:Bool):asB (.bool b)=some b:=rfl
@[simp] noncomputable def ob (f:Dv->Option D):Dv->Option Bool:=fun δ=>(f δ).bind asB
@[simp] noncomputable def Iz (t u:Dv->Option Bool):Dv->Option Bool:=fun δ=>(t δ).bind fun b=>if b=true then u δ else some false
@[simp] noncomputable def pQ (t u:Dv->Option Bool):Dv->Option Bool:=fun δ=>(t δ).bind fun b=>if b=true then some true else u δ
@[simp] noncomputable def i9 (t:Dv->Option Bool):Dv->Option Bool:=fun δ=>(t δ).map (!·)
@[simp] noncomputable def vI (f1 f2:Dv->Option D):Dv->Option D:=fun δ=>(f1 δ).bind fun x=>(asB x).bind fun b=>if b=true then f2 δ else some (.bool false)
@[simp] noncomputable def Oz (f1 f2:Dv->Option D):Dv->Option D:=fun δ=>(f1 δ).bind fun x=>(asB x).bind fun b=>if b=true then some (.bool true) else f2 δ
@[simp] noncomputable def E8 (d:D):Option D:=(asB d).map fun b=>.bool (!b)
@[simp] noncomputable def yI (t:Dv->Option Bool) (f1 f2:Dv->Option D):Dv->Option D:=fun δ=>(t δ).bind fun b=>if b=true then f1 δ else f2 δ
noncomputable def LF:Option Sl->Option D
 | some (.fz d)=>some d
 | some (.fr ds)=>some (.list ds)
 | _=>none
@[simp] theorem MC (ds:List D):LF (some (.fr ds))=some (.list ds):=rfl
@[simp] theorem MB (d:D):LF (some (.fz d))=some d:=rfl
@[simp] noncomputable def oV (i:Nat):Dv->Option D:=fun δ=>LF δ[i]?
@[simp] noncomputable def oC (d:D):Dv->Option D:=fun _=>some d
@[simp] noncomputable def al:Dv->Option (List D):=fun _=>some []
@[simp] noncomputable def ad (f:Dv->Option D) (fs:Dv->Option (List D)):Dv->Option (List D):=fun δ=>(f δ).bind fun x=>(fs δ).bind fun xs=>some (x::xs)
noncomputable def aZ (ds:List D):Option D:=if ds.length<=sizeLine then some (.tuple ds) else none
noncomputable def jw (ds:List D):Option D:=if ds.length<=sizeLine then some (.list ds) else none
theorem kU {ds:List D} (h:ds.length<=16777216):aZ ds=some (.tuple ds):=if_pos h
theorem lq {ds:List D} (h:ds.length<=16777216):jw ds=some (.list ds):=if_pos h
@[simp] theorem NR:aZ []=some (.tuple []):=rfl
@[simp] theorem NQ (a:D):aZ [a]=some (.tuple [a]):=kU (by simp)
@[simp] theorem NP (a b:D):aZ [a,b]=some (.tuple [a,b]):=kU (by simp)
@[simp] theorem NO (a b c:D):aZ [a,b,c]=some (.tuple [a,b,c]):=kU (by simp)
@[simp] theorem NN (a b c d:D):aZ [a,b,c,d]=some (.tuple [a,b,c,d]):=kU (by simp)
@[simp] theorem NM (a b c d e:D):aZ [a,b,c,d,e]=some (.tuple [a,b,c,d,e]):=kU (by simp)
@[simp] theorem NL (a b c d e f g h:D):aZ [a,b,c,d,e,f,g,h]=some (.tuple [a,b,c,d,e,f,g,h]):=kU (by simp)
@[simp] theorem N4:jw []=some (.list []):=rfl
@[simp] theorem N3 (a:D):jw [a]=some (.list [a]):=lq (by simp)
@[simp] theorem N2 (a b:D):jw [a,b]=some (.list [a,b]):=lq (by simp)
@[simp] theorem N1 (a b c:D):jw [a,b,c]=some (.list [a,b,c]):=lq (by simp)
@[simp] theorem N0 (a b c d:D):jw [a,b,c,d]=some (.list [a,b,c,d]):=lq (by simp)
@[simp] theorem NZ (a b c d e:D):jw [a,b,c,d,e]=some (.list [a,b,c,d,e]):=lq (by simp)
instance (i j:Int):Decidable (IntMulOk i j):=by unfold IntMulOk; infer_instance
noncomputable def iI (g:Int->Int->Int):D->D->Option D
 | .int i,.int j=>some (.int (g i j))
 | _,_=>none
noncomputable def iC (C:Int->Int->Bool) (g:Int->Int->Int):D->D->Option D
 | .int i,.int j=>if C i j=true then some (.int (g i j)) else none
 | _,_=>none
noncomputable def iB (g:Int->Int->Bool):D->D->Option D
 | .int i,.int j=>some (.bool (g i j))
 | _,_=>none
@[simp] theorem M8 (g:Int->Int->Int) (i j:Int):iI g (.int i) (.int j)=some (.int (g i j)):=rfl
@[simp] theorem M9 (g:Int->Int->Bool) (i j:Int):iB g (.int i) (.int j)=some (.bool (g i j)):=rfl
theorem nQ {C:Int->Int->Bool} {g:Int->Int->Int} {i j:Int} (h:C i j=true):iC C g (.int i) (.int j)=some (.int (g i j)):=if_pos h
noncomputable def Nq (i j:Int):Bool:=decide (IntMulOk i j)
noncomputable def Nt (i j:Int):Bool:=decide (0<j/\j<1073741824)
noncomputable def Nr (i j:Int):Bool:=decide (0<j)
noncomputable def Np (i j:Int):Bool:=decide (0<=j/\j<=1000000/\i.natAbs<2 ^ 64)
noncomputable def No (i j:Int):Bool:=decide (0<=j/\(Builtin.Int.intBits i:Int)+j<=2 ^ 27)
noncomputable def Nn (i j:Int):Bool:=decide (0<=j)
noncomputable abbrev dW:=iI fun i j=>i-j
noncomputable abbrev g6:=iC Nq fun i j=>i*j
noncomputable abbrev gJ:=iC Nt fun i j=>i / j
noncomputable abbrev bX:=iC Nr fun i j=>i % j
noncomputable abbrev MR:=iC Np fun i j=>i ^ j.toNat
noncomputable abbrev jm:=iC No fun i j=>i*2 ^ j.toNat
noncomputable abbrev jF:=iC Nn fun i j=>i / 2 ^ j.toNat
noncomputable abbrev iG:=iI Builtin.bitAnd
noncomputable abbrev zP:=iI Builtin.bitOr
noncomputable abbrev j4:=iI Builtin.bitXor
noncomputable abbrev IM:=iB fun i j=>decide (i<j)
noncomputable abbrev N7:=iB fun i j=>decide (j<i)
@[simp] theorem KM {i j:Int} (h:IntMulOk i j):g6 (.int i) (.int j)=some (.int (i*j)):=nQ (decide_eq_true h)
@[simp] theorem Ln {i j:Int} (h:0<j) (h2:j<1073741824):gJ (.int i) (.int j)=some (.int (i / j)):=nQ (decide_eq_true ⟨h,h2⟩)
@[simp] theorem jv {i j:Int} (h:0<j):bX (.int i) (.int j)=some (.int (i % j)):=nQ (decide_eq_true h)
@[simp] theorem Kp {i j:Int} (h:0<=j) (h2:j<=1000000) (h3:i.natAbs<2 ^ 64):MR (.int i) (.int j)=some (.int (i ^ j.toNat)):=nQ (decide_eq_true ⟨h,h2,h3⟩)
theorem mM {i j:Int} (h:0<=j) (h2:(Builtin.Int.intBits i:Int)+j<=2 ^ 27):jm (.int i) (.int j)=some (.int (i*2 ^ j.toNat)):=nQ (decide_eq_true ⟨h,h2⟩)
@[simp] theorem qo {i j:Int} (h:0<=j):jF (.int i) (.int j)=some (.int (i / 2 ^ j.toNat)):=nQ (decide_eq_true h)
noncomputable def negD:D->Option D
 | .int i=>some (.int (-i))
 | _=>none
@[simp] theorem KK (i:Int):negD (.int i)=some (.int (-i)):=rfl
noncomputable def cf:D->D->Option D
 | .int i,.int j=>some (.int (i+j))
 | .str x,.str y=>if x.length+y.length<=sizeLine then some (.str (x++y)) else none
 | .list xs,.list ys=>if xs.length+ys.length<=sizeLine then some (.list (xs++ys)) else none
 | .tuple xs,.tuple ys=>if xs.length+ys.length<=sizeLine then some (.tuple (xs++ys)) else none
 | _,_=>none
@[simp] theorem Lz (i j:Int):cf (.int i) (.int j)=some (.int (i+j)):=rfl
theorem iw {xs ys:List D} (h:xs.length+ys.length<=16777216):cf (.tuple xs) (.tuple ys)=some (.tuple (xs++ys)):=if_pos h
noncomputable def AU (d:D):Bool:=PySem.SeqAt.shaped d
noncomputable def bo:D->D->Option D:=fun a b=>if AU a=true/\AU b=true then some (.bool (PyData.eqv a b)) else none
noncomputable def neD:D->D->Option D:=fun a b=>if AU a=true/\AU b=true then some (.bool (!PyData.eqv a b)) else none
@[simp] theorem FY (i j:Int):bo (.int i) (.int j)=some (.bool (i==j)):=rfl
@[simp] theorem LL (i j:Int):neD (.int i) (.int j)=some (.bool (!(i==j))):=rfl
@[simp] theorem Lj (i j:Bool):bo (.bool i) (.bool j)=some (.bool (i==j)):=rfl
@[simp] theorem KL (i j:Bool):neD (.bool i) (.bool j)=some (.bool (!(i==j))):=rfl
noncomputable def sU (d:D):Bool:=match d with
 | .none=>true
 | _=>false
noncomputable def isD:D->D->Option D:=fun a b=>match b with
 | .none=>some (.bool (sU a))
 | _=>none
noncomputable def sT:D->D->Option D:=fun a b=>match b with
 | .none=>some (.bool (!sU a))
 | _=>none
@[simp] theorem K7 (a:D):isD a .none=some (.bool (sU a)):=rfl
@[simp] theorem Je (a:D):sT a .none=some (.bool (!sU a)):=rfl
@[simp] theorem K6:sU .none=true:=rfl
@[simp] theorem LO (i:Int):sU (.int i)=false:=rfl
noncomputable def ax:D->D->Option D
 | .list xs,.int i=>iD xs i
 | .tuple xs,.int i=>iD xs i
 | _,_=>none
@[simp] theorem K2 (xs:List D) (i:Int):ax (.list xs) (.int i)=iD xs i:=rfl
@[simp] theorem JL (xs:List D) (i:Int):ax (.tuple xs) (.int i)=iD xs i:=rfl
theorem eK {α:Type} {xs:List α} {i:Int} {j:Nat} {v:α} (hi:i=j) (h:xs[j]? = some v):iD xs i=some v:=by
 have hl:j<xs.length:=(List.getElem?_eq_some_iff.mp h).1
 subst hi
 unfold iD yP
 rw [if_pos (by omega),if_pos (by omega)]
 simpa using h
@[simp] theorem at0 {α:Type} (a:α) (r:List α):iD (a::r) 0=some a:=eK (j:=0) rfl rfl
@[simp] theorem AN {α:Type} (a b:α) (r:List α):iD (a::b::r) 1=some b:=eK (j:=1) rfl rfl
@[simp] theorem G8 {α:Type} (a b c:α) (r:List α):iD (a::b::c::r) 2=some c:=eK (j:=2) rfl rfl
@[simp] theorem Od {α:Type} (a b c d:α) (r:List α):iD (a::b::c::d::r) 3=some d:=eK (j:=3) rfl rfl
@[simp] theorem Ob {α:Type} (a b c d e:α) (r:List α):iD (a::b::c::d::e::r) 4=some e:=eK (j:=4) rfl rfl
@[simp] theorem Oa {α:Type} (a b c d e f:α) (r:List α):iD (a::b::c::d::e::f::r) 5=some f:=eK (j:=5) rfl rfl
@[simp] theorem OQ {α:Type} (a b c d e f g:α) (r:List α):iD (a::b::c::d::e::f::g::r) 6=some g:=eK (j:=6) rfl rfl
@[simp] theorem OP {α:Type} (a b c d e f g h:α) (r:List α):iD (a::b::c::d::e::f::g::h::r) 7=some h:=eK (j:=7) rfl rfl
noncomputable def ck:List D->Option D
 | [.list xs]=>some (.int xs.length)
 | [.tuple xs]=>some (.int xs.length)
 | _=>none
@[simp] theorem JK (xs:List D):ck [.list xs]=some (.int xs.length):=rfl
@[simp] theorem IQ (xs:List D):ck [.tuple xs]=some (.int xs.length):=rfl
noncomputable def Ah:List D->Option D
 | [.int i,.int j]=>some (.int (if j<i then j else i))
 | _=>none
noncomputable def xg:List D->Option D
 | [.int i,.int j]=>some (.int (if j>i then j else i))
 | _=>none
@[simp] theorem KN (i j:Int):Ah [.int i,.int j]=some (.int (if j<i then j else i)):=rfl
@[simp] theorem qI (i j:Int):xg [.int i,.int j]=some (.int (if j>i then j else i)):=rfl
noncomputable def An:List D->Option D
 | [.int i]=>some (.int i)
 | [.bool b]=>some (.int (if b then 1 else 0))
 | _=>none
@[simp] theorem K9 (i:Int):An [.int i]=some (.int i):=rfl
@[simp] theorem JN (b:Bool):An [.bool b]=some (.int (if b then 1 else 0)):=rfl
noncomputable def GK:List D->Option D
 | [.list xs]=>some (.list xs)
 | [.tuple xs]=>some (.list xs)
 | _=>none
@[simp] theorem IP (xs:List D):GK [.list xs]=some (.list xs):=rfl
@[simp] theorem GJ (xs:List D):GK [.tuple xs]=some (.list xs):=rfl
noncomputable def df:List D->Option D
 | [.list xs]=>some (.tuple xs)
 | [.tuple xs]=>some (.tuple xs)
 | _=>none
@[simp] theorem Gy (xs:List D):df [.list xs]=some (.tuple xs):=rfl
@[simp] theorem DZ (xs:List D):df [.tuple xs]=some (.tuple xs):=rfl
noncomputable def nh:D->Option D
 | .int i=>some (.int (Builtin.Int.intBits i))
 | _=>none
@[simp] theorem tu (i:Int):nh (.int i)=some (.int (Builtin.Int.intBits i)):=rfl
noncomputable def tyN:D->String
 | .none=>"NoneType"
 | .bool _=>"bool"
 | .int _=>"int"
 | .str _=>"str"
 | .list _=>"list"
 | .tuple _=>"tuple"
 | .dict _=>"dict"
noncomputable def Jg (t T:String):Bool:=t==T||(t == "bool" && T == "int")
noncomputable def yQ:D->Bool
 | .dict _=>true
 | _=>false
noncomputable def gI (T:String) (d:D):Option D:=if yQ d=true then none else if T = "int" \/ T = "bool" \/ T = "str" \/ T = "list" \/ T = "tuple" then some (.bool (Jg (tyN d) T)) else none
@[simp] theorem GX (i:Int):gI "int" (.int i)=some (.bool true):=rfl
@[simp] theorem FK (i:Int):gI "bool" (.int i)=some (.bool false):=rfl
@[simp] theorem FJ (i:Bool):gI "int" (.bool i)=some (.bool true):=rfl
@[simp] theorem DM (i:Bool):gI "bool" (.bool i)=some (.bool true):=rfl
@[simp] theorem AY (xs:List D):gI "tuple" (.tuple xs)=some (.bool true):=rfl
@[simp] theorem DL (xs:List D):gI "list" (.list xs)=some (.bool true):=rfl
@[simp] noncomputable def aH (f:Dv->Option D):Sf:=fun δ=>(f δ).bind fun d=>some (.rt d,δ)
@[simp] noncomputable def aM (i:Nat) (f:Dv->Option D):Sf:=fun δ=>(f δ).bind fun d=>some (.nx,δ.set i (.fz d))
@[simp] noncomputable def sG (f:Dv->Option D):Sf:=fun δ=>(f δ).bind fun _=>some (.nx,δ)
@[simp] noncomputable def gz:Sf:=fun δ=>some (.nx,δ)
@[simp] noncomputable def OM:Sf:=fun δ=>some (.bk,δ)
@[simp] noncomputable def OL:Sf:=fun δ=>some (.ct,δ)
@[simp] noncomputable def sSeq (s t:Sf):Sf:=fun δ=>(s δ).bind fun r=>match r with
 | (.nx,δ')=>t δ'
 | r=>some r
@[simp] noncomputable def sIf (t:Dv->Option Bool) (u w:Sf):Sf:=fun δ=>(t δ).bind fun c=>if c=true then u δ else w δ
noncomputable def pi (i:Nat) (δ:Dv):Dv:=match δ[i]? with
 | some (.own (.l ds))=>δ.set i (.fz (.list ds))
 | _=>δ
@[simp] noncomputable def gN (i:Nat):D->Dv->Option Dv:=fun d δ=>some (δ.set i (.fz d))
noncomputable def loop (g:D->Dv->Option Dv) (b:Sf):List D->Sf
 | [],δ=>some (.nx,δ)
 | d::ds,δ=>(g d δ).bind fun δ1=>(b δ1).bind fun r=>match r with
  | (.nx,δ2)=>loop g b ds δ2
  | (.ct,δ2)=>loop g b ds δ2
  | (.bk,δ2)=>some (.nx,δ2)
  | (.rt x,δ2)=>some (.rt x,δ2)
@[simp] theorem KW (g:D->Dv->Option Dv) (b:Sf) (δ:Dv):loop g b [] δ = some (.nx,δ):=rfl
@[simp] noncomputable def j3 (f:Dv->Option (List D)) (g:D->Dv->Option Dv) (b:Sf):Sf:=fun δ=>(f δ).bind fun ds=>loop g b ds δ
noncomputable def iH (t:Dv->Option Bool) (b:Sf):Nat->Sf
 | 0,_=>none
 | n+1,δ=>(t δ).bind fun c=>if c=true then (b δ).bind fun r=>match r with
   | (.nx,δ2)=>iH t b n δ2
   | (.ct,δ2)=>iH t b n δ2
   | (.bk,δ2)=>some (.nx,δ2)
   | (.rt x,δ2)=>some (.rt x,δ2)
  else some (.nx,δ)
noncomputable def oX (lo:Int) (n:Nat):List D:=(List.range n).map fun k=>.int (lo+(k:Nat))
noncomputable def bQ:List D->Option (List D)
 | [.int j]=>if j<2 ^ 62 /\ -(2 ^ 62)<=j then some (oX 0 j.toNat) else none
 | _=>none
theorem lh {j:Int} (h:j<4611686018427387904) (h2:-4611686018427387904<=j):bQ [.int j]=some (oX 0 j.toNat):=if_pos ⟨h,h2⟩
@[simp] noncomputable def oL (fs:Dv->Option (List D)) (g:List D->Option (List D)):Dv->Option (List D):=fun δ=>(fs δ).bind g
noncomputable def eQ:D->Option (List D)
 | .list xs=>some xs
 | .tuple xs=>some xs
 | _=>none
@[simp] theorem JM (xs:List D):eQ (.list xs)=some xs:=rfl
@[simp] theorem Jd (xs:List D):eQ (.tuple xs)=some xs:=rfl
noncomputable def vX:D->Option (List D)
 | .list xs=>some xs
 | _=>none
noncomputable def Ma:D->Option (List D)
 | .tuple xs=>some xs
 | _=>none
@[simp] noncomputable def oI (f:Dv->Option D) (g:D->Option (List D)):Dv->Option (List D):=fun δ=>(f δ).bind g
noncomputable def zH (lo hi st:Int):Nat:=if lo<hi then ((hi-lo-1) / st+1).toNat else 0
@[simp] noncomputable def KB:Dv->Option (Option Int):=fun _=>some none
noncomputable def asI:D->Option (Option Int)
 | .int i=>some (some i)
 | _=>none
@[simp] theorem LX (i:Int):asI (.int i)=some (some i):=rfl
@[simp] noncomputable def oP (f:Dv->Option D):Dv->Option (Option Int):=fun δ=>(f δ).bind asI
noncomputable def pj (xs:List D) (lo hi:Option Int):List D:=(xs.drop (HT.sIx xs.length 0 lo)).take (HT.sIx xs.length xs.length hi-HT.sIx xs.length 0 lo)
noncomputable def Ev:D->Option Int->Option Int->Option D
 | .list xs,lo,hi=>some (.list (pj xs lo hi))
 | .tuple xs,lo,hi=>some (.tuple (pj xs lo hi))
 | _,_,_=>none
@[simp] noncomputable def E2 (f:Dv->Option D) (l u:Dv->Option (Option Int)):Dv->Option D:=fun δ=>(f δ).bind fun x=>(l δ).bind fun i=>(u δ).bind fun j=>Ev x i j
noncomputable def av (N:List Str) (as:List D):Dv:=as.map .fz++List.replicate (N.length-as.length) .un
noncomputable def runB (N:List Str) (n:Nat) (b:Sf):List D->Option D:=fun as=>if as.length=n then (b (av N as)).bind fun r=>match r with
  | (.rt d,_)=>some d
  | (.nx,_)=>some .none
  | _=>none
 else none
theorem uw {g:D->Dv->Option Dv} {b:Sf} (I:Dv->Prop):∀ (ds:List D),(∀ d∈ds,∀ δ,I δ -> ∃ δ1,g d δ = some δ1/\∃ δ2,b δ1=some (.nx,δ2)/\I δ2)->∀ δ,I δ -> ∃ δ',loop g b ds δ = some (.nx,δ')/\I δ'
 | [],_,δ,hI=>⟨δ,rfl,hI⟩
 | d::ds,h,δ,hI=>by
  obtain ⟨δ1,e1,δ2,e2,h2⟩:=h d List.mem_cons_self δ hI
  obtain ⟨δ',e3,h3⟩:=uw I ds (fun d hd=>h d (List.mem_cons_of_mem _ hd)) δ2 h2
  refine ⟨δ',?_,h3⟩
  rw [loop,e1]
  show (b δ1).bind _=_
  rw [e2]
  exact e3
end VL
set_option Elab.async false
set_option linter.all false
set_option maxRecDepth 100000
set_option maxHeartbeats 4000000
namespace VL
open PySem PySem.Spec PyProof.Rows L2
noncomputable abbrev Fg:=PySem.W.Frag
noncomputable abbrev St:=L2.St
noncomputable def pX (a C:Addr):HO:=.ext fun h=>∃ o,h.get? a=some o/\o.cls=.ref C/\∃ vs,o.data=.fields vs/\vs[2]? = some .none
theorem Rd.same {H H':Hp} {a:Addr} {u:HO} (h:Rd H a u) (s:Same H H'):Rd H' a u:=by
 rcases h with h | ⟨o,h⟩
 ·exact .inl (s _ _ h)
 ·exact .inr ⟨o,s _ _ h⟩
inductive Opq (K:Fg) (Z:Hp) (a:Addr):List (D×D)->Prop
 | exc {n:Str} {C:Addr}:PySem.W.nsIn K mainGlobals n=some (some (.ref C))->Rd Z a (pX a C)->Opq K Z a [(.str "exc",.str n)]
 | fn {n:Str}:PySem.W.nsIn K mainGlobals n=some (some (.ref a))->Opq K Z a [(.str "fn",.str n)]
 | dct {kvs:List (D×D)} {es:List (eM×Int)}:kvs=CV es->Z a=some (.dK (es.map fun p=>(p.1,V.int p.2)))->Opq K Z a kvs
theorem yW {es:List (eM×Int)} {a:D} {x:Str} {r:List (D×D)} (h:(a,PyData.str x)::r=CV es):False:=by
 cases es with
 | nil=>cases h
 | cons e es=>simp [CV] at h
theorem Opq.same {K:Fg} {Z Z':Hp} {a:Addr} {kvs:List (D×D)} (s:Same Z Z') (h:Opq K Z a kvs):Opq K Z' a kvs:=by
 cases h with
 | exc h1 h2=>exact .exc h1 (Rd.same h2 s)
 | fn h1=>exact .fn h1
 | dct h1 h2=>exact .dct h1 (s _ _ h2)
mutual
inductive Rep (K:Fg) (Z:Hp):V->D->Prop
 | non:Rep K Z .non .none
 | bl (b:Bool):Rep K Z (.bl b) (.bool b)
 | int (i:Int):Rep K Z (.int i) (.int i)
 | str (x:Str):Rep K Z (.str x) (.str x)
 | tup {a:Addr} {xs:List V} {ds:List D}:SqT K Z a xs->Reps K Z xs ds->Rep K Z (.ref a) (.tuple ds)
 | lst {a:Addr} {xs:List V} {ds:List D}:SqL K Z a xs->Reps K Z xs ds->Rep K Z (.ref a) (.list ds)
 | opq {a:Addr} {kvs:List (D×D)}:Opq K Z a kvs->Rep K Z (.ref a) (.dict kvs)
inductive Reps (K:Fg) (Z:Hp):List V->List D->Prop
 | nil:Reps K Z [] []
 | cons {v:V} {d:D} {vs:List V} {ds:List D}:Rep K Z v d->Reps K Z vs ds->Reps K Z (v::vs) (d::ds)
end
theorem SqT.same {K:Fg} {H H':Hp} {a:Addr} {xs:List V} (h:SqT K H a xs) (s:Same H H'):SqT K H' a xs:=by
 rcases h with h | h
 ·exact .inl (Rd.same h s)
 ·exact .inr h
theorem SqL.same {K:Fg} {H H':Hp} {a:Addr} {xs:List V} (h:SqL K H a xs) (s:Same H H'):SqL K H' a xs:=by
 rcases h with h | h
 ·exact .inl (Rd.same h s)
 ·exact .inr h
mutual
theorem Rep.same {K:Fg} {Z Z':Hp} (s:Same Z Z'):∀ {v:V} {d:D},Rep K Z v d->Rep K Z' v d
 | _,_,.non=>.non
 | _,_,.bl b=>.bl b
 | _,_,.int i=>.int i
 | _,_,.str x=>.str x
 | _,_,.tup h r=>.tup (SqT.same h s) (Reps.same s r)
 | _,_,.lst h r=>.lst (SqL.same h s) (Reps.same s r)
 | _,_,.opq h=>.opq (Opq.same s h)
theorem Reps.same {K:Fg} {Z Z':Hp} (s:Same Z Z'):∀ {vs:List V} {ds:List D},Reps K Z vs ds->Reps K Z' vs ds
 | _,_,.nil=>.nil
 | _,_,.cons h r=>.cons (Rep.same s h) (Reps.same s r)
end
theorem Reps.length {K:Fg} {Z:Hp}:∀ {vs:List V} {ds:List D},Reps K Z vs ds->vs.length=ds.length
 | _,_,.nil=>rfl
 | _,_,.cons _ r=>congrArg (· + 1) (Reps.length r)
theorem Reps.get {K:Fg} {Z:Hp}:∀ {vs:List V} {ds:List D} {i:Nat} {d:D},Reps K Z vs ds->ds[i]? = some d->∃ v,vs[i]? = some v/\Rep K Z v d
 | _,_,_,_,.nil,e=>by simp at e
 | _,_,0,_,.cons r _,e=>by simp at e; subst e; exact ⟨_,rfl,r⟩
 | _,_,i+1,d,.cons _ t,e=>by
  obtain ⟨u,h1,h2⟩:=Reps.get (i:=i) (d:=d) t (by simpa using e)
  exact ⟨u,by simpa using h1,h2⟩
theorem Reps.set {K:Fg} {Z:Hp} {x:V} {u:D} (r:Rep K Z x u):∀ {xs:List V} {us:List D} (i:Nat),Reps K Z xs us->Reps K Z (xs.set i x) (us.set i u)
 | _,_,_,.nil=>.nil
 | _,_,0,.cons _ t=>.cons r t
 | _,_,i+1,.cons q t=>.cons q (Reps.set r i t)
theorem Reps.append {K:Fg} {Z:Hp}:∀ {xs ys:List V} {us ws:List D},Reps K Z xs us->Reps K Z ys ws->Reps K Z (xs++ys) (us++ws)
 | _,_,_,_,.nil,s=>s
 | _,_,_,_,.cons r t,s=>.cons r (Reps.append t s)
theorem Reps.take {K:Fg} {Z:Hp}:∀ {xs:List V} {us:List D} (n:Nat),Reps K Z xs us->Reps K Z (xs.take n) (us.take n)
 | _,_,0,_=>.nil
 | _,_,_+1,.nil=>.nil
 | _,_,n+1,.cons r t=>.cons r (Reps.take n t)
theorem Reps.drop {K:Fg} {Z:Hp}:∀ {xs:List V} {us:List D} (n:Nat),Reps K Z xs us->Reps K Z (xs.drop n) (us.drop n)
 | _,_,0,r=>r
 | _,_,_+1,.nil=>.nil
 | _,_,n+1,.cons _ t=>Reps.drop n t
theorem Rep.int_eq {K:Fg} {Z:Hp} {v:V} {i:Int} (h:Rep K Z v (.int i)):v=.int i:=by cases h; rfl
theorem Rep.bl_eq {K:Fg} {Z:Hp} {v:V} {b:Bool} (h:Rep K Z v (.bool b)):v=.bl b:=by cases h; rfl
theorem Reps.ints {K:Fg} {Z:Hp}:∀ ns:List Int,Reps K Z (ns.map V.int) (ns.map PyData.int)
 | []=>.nil
 | n::r=>.cons (.int n) (Reps.ints r)
mutual
theorem Rep.reads {X:Cx} {pins:List (Addr×Obj)} {σ:St} {H Z:Hp} {s:Shared} (I:Inv X pins σ H s) (zh:Same Z H):∀ {v:V} {d:D} {u:Value},Rep X.K Z v d->RelV v u->d.canLay0=true->∃ as,Reads s.heap u d as
 | _,_,u,.non,r,_=>by cases (show u=Value.none from r); exact ⟨_,.none⟩
 | _,_,u,.bl b,r,_=>by cases (show u=Value.bool b from r); exact ⟨_,.bool b⟩
 | _,_,u,.int i,r,_=>by obtain ⟨t,rfl⟩:=(show ∃ t,u=Value.int i t from r); exact ⟨_,.int i t⟩
 | _,_,u,.str x,r,_=>by obtain ⟨t,rfl⟩:=(show ∃ t,u=Value.str x t from r); exact ⟨_,.str x t⟩
 | _,_,u,.tup (a:=a) h q,r,hc=>by
  cases (show u=Value.ref a from r)
  obtain ⟨its,rv,ht,_⟩:=I.tuple (SqT.same h zh)
  obtain ⟨as,ra⟩:=Reps.reads I zh q rv hc
  obtain ⟨o,e,c,n,dd⟩:=ht
  exact ⟨_,reads_tuple_at e c dd (by simpa using ra)⟩
 | _,_,u,.lst (a:=a) h q,r,hc=>by
  cases (show u=Value.ref a from r)
  obtain ⟨its,rv,ht,_⟩:=I.list (SqL.same h zh)
  obtain ⟨as,ra⟩:=Reps.reads I zh q rv hc
  obtain ⟨o,n,e,c,_,dd⟩:=ht
  exact ⟨_,reads_list_at e c dd (by simpa using ra)⟩
 | _,_,u,.opq h,r,hc=>by cases hc
theorem Reps.reads {X:Cx} {pins:List (Addr×Obj)} {σ:St} {H Z:Hp} {s:Shared} (I:Inv X pins σ H s) (zh:Same Z H):∀ {vs:List V} {ds:List D} {us:List Value},Reps X.K Z vs ds->Vals vs us->PyData.canLayAll0 ds=true->∃ as,ReadsAll s.heap us ds as
 | _,_,_,.nil,.nil,_=>⟨_,.nil⟩
 | _,_,_,.cons h q,.cons r t,hc=>by
  have hc':=Bool.and_eq_true_iff.mp hc
  obtain ⟨as,ha⟩:=Rep.reads I zh h r hc'.1
  obtain ⟨bs,hb⟩:=Reps.reads I zh q t hc'.2
  exact ⟨_,.cons ha hb⟩
end
structure New (Z H Z' H':Hp):Prop where
 z:Same Z Z'
 h:Same H H'
 zh:Same Z' H'
 o:∀ b,H b≠none->Z' b=Z b
theorem New.refl {Z H:Hp} (zh:Same Z H):New Z H Z H:=⟨Same.refl _,Same.refl _,zh,fun _ _=>rfl⟩
theorem New.trans {Z H Z1 H1 Z2 H2:Hp} (a:New Z H Z1 H1) (b:New Z1 H1 Z2 H2):New Z H Z2 H2:=
 ⟨a.z.trans b.z,a.h.trans b.h,b.zh,fun c hc=>by
  have:H1 c≠none:=by
   cases e:H c with
   | none=>exact absurd e hc
   | some o=>rw [a.h c o e]; intro z; cases z
  rw [b.o c this,a.o c hc]⟩
theorem ie {H:Hp} {p:Addr} {o:HO} (h:H p=none):Same H (eA H p o):=fun b u e=>by
 rw [aI (bg e h)]; exact e
theorem uF {Z H:Hp} (zh:Same Z H) {p:Addr} (h:H p=none):Z p=none:=by
 cases e:Z p with
 | none=>rfl
 | some o=>rw [zh p o e] at h; cases h
theorem New.add {Z H:Hp} (zh:Same Z H) {p:Addr} (hp:H p=none) (o:HO):New Z H (eA Z p o) (eA H p o) where
 z:=ie (uF zh hp)
 h:=ie hp
 zh:=fun b u e=>by
  by_cases hb:b=p
  ·subst hb; rw [aR] at e ⊢; exact e
  ·rw [aI hb] at e ⊢; exact zh b u e
 o:=fun b hb=>by
  have:b≠p:=fun z=>hb (z ▸ hp)
  rw [aI this]
noncomputable def LB (K:Fg) (Z:Hp) (kvs:List (eM×V)) (es:List (eM×D)):Prop:=es.map (·.1)=kvs.map (·.1)/\Reps K Z (kvs.map (·.2)) (es.map (·.2))
inductive OwR (K:Fg) (Z:Hp):HO->Oc->Prop
 | lst {xs:List V} {ds:List D}:Reps K Z xs ds->OwR K Z (.lst xs) (.l ds)
 | dct {kvs:List (eM×V)} {es:List (eM×D)}:LB K Z kvs es->OwR K Z (.dK kvs) (.d es)
theorem OwR.same {K:Fg} {Z Z':Hp} {o:HO} {c:Oc} (h:OwR K Z o c) (s:Same Z Z'):OwR K Z' o c:=by
 cases h with
 | lst r=>exact .lst (r.same s)
 | dct r=>exact .dct ⟨r.1,r.2.same s⟩
noncomputable def FrOk (K:Fg) (H₀ Z₀ Z:Hp) (δ:Dv) (σ:St):Prop:=∀ (i:Nat) ds,δ[i]? = some (.fr ds)->∃ a xs,σ[i]? = some (some (.ref a))/\H₀ a=none/\Z₀ a=none/\Z a=some (.lst xs)/\Reps K Z xs ds
theorem FrOk.same {K:Fg} {H₀ Z₀ Z Z':Hp} {δ:Dv} {σ:St} (h:FrOk K H₀ Z₀ Z δ σ) (s:Same Z Z'):FrOk K H₀ Z₀ Z' δ σ:=fun i ds e=>
 let ⟨a,xs,h1,h2,h3,h4,h5⟩:=h i ds e; ⟨a,xs,h1,h2,h3,s _ _ h4,h5.same s⟩
theorem FrOk.put {K:Fg} {H₀ Z₀ Z:Hp} {δ:Dv} {σ σ':St} (h:FrOk K H₀ Z₀ Z δ σ) {i:Nat} {x:Sl} (hx:∀ ds,x≠Sl.fr ds) (hs:∀ j:Nat,i≠j -> σ'[j]? = σ[j]?):FrOk K H₀ Z₀ Z (δ.set i x) σ':=fun j ds e=>by
 by_cases hj:i=j
 ·subst hj
  have hl:i < δ.length:=by have:=(List.getElem?_eq_some_iff.mp e).1; simpa using this
  rw [List.getElem?_set_self hl] at e
  exact absurd (Option.some.inj e) (hx ds)
 ·rw [List.getElem?_set_ne hj] at e
  obtain ⟨a,xs,h1,r⟩:=h j ds e
  exact ⟨a,xs,by rw [hs j hj]; exact h1,r⟩
structure Hold (K:Fg) (H₀ Z₀ Z:Hp) (δ:Dv) (σ:St) (H:Hp):Prop where
 zh:Same Z H
 h0:Same H₀ H
 z0:Same Z₀ Z
 zb:∀ b,H₀ b≠none->Z b=Z₀ b
 len:δ.length = σ.length
 fz:∀ (i:Nat) d,δ[i]? = some (.fz d)->∃ v,σ[i]? = some (some v)/\Rep K Z v d
 own:∀ (i:Nat) c,δ[i]? = some (.own c)->∃ a o,σ[i]? = some (some (.ref a))/\H₀ a=none/\Z a=none/\H a=some o/\OwR K Z o c
 dja:∀ (i j:Nat) c c' a,i≠j -> δ[i]? = some (.own c) -> δ[j]? = some (.own c') -> σ[i]? = some (some (.ref a)) -> σ[j]? ≠ some (some (V.ref a))
 fr:FrOk K H₀ Z₀ Z δ σ
section
variable {K:Fg} {H₀ Z₀ Z Z' H H':Hp} {δ:Dv} {σ:St}
theorem Hold.ow (h:Hold K H₀ Z₀ Z δ σ H) (i:Nat) (ds:List D) (e:δ[i]? = some (.ow ds)):∃ a xs,σ[i]? = some (some (.ref a))/\H₀ a=none/\Z a=none/\H a=some (.lst xs)/\Reps K Z xs ds:=by
 obtain ⟨a,o,h1,h2,h3,h4,h5⟩:=h.own i _ e
 cases h5 with
 | lst r=>exact ⟨a,_,h1,h2,h3,h4,r⟩
theorem Hold.od (h:Hold K H₀ Z₀ Z δ σ H) (i:Nat) (es:List (eM×D)) (e:δ[i]? = some (.od es)):∃ a kvs,σ[i]? = some (some (.ref a))/\H₀ a=none/\Z a=none/\H a=some (.dK kvs)/\LB K Z kvs es:=by
 obtain ⟨a,o,h1,h2,h3,h4,h5⟩:=h.own i _ e
 cases h5 with
 | dct r=>exact ⟨a,_,h1,h2,h3,h4,r⟩
theorem Hold.new (h:Hold K H₀ Z₀ Z δ σ H) (n:New Z H Z' H'):Hold K H₀ Z₀ Z' δ σ H' where
 zh:=n.zh
 h0:=h.h0.trans n.h
 z0:=h.z0.trans n.z
 zb:=fun b hb=>by
  have:H b≠none:=by
   cases e:H₀ b with
   | none=>exact absurd e hb
   | some o=>rw [h.h0 b o e]; intro z; cases z
  rw [n.o b this,h.zb b hb]
 len:=h.len
 fz:=fun i d e=>let ⟨v,a,r⟩:=h.fz i d e; ⟨v,a,r.same n.z⟩
 own:=fun i ds e=>by
  obtain ⟨a,xs,h1,h2,h3,h4,h5⟩:=h.own i ds e
  exact ⟨a,xs,h1,h2,by rw [n.o a (by rw [h4]; intro z; cases z)]; exact h3,n.h a _ h4,h5.same n.z⟩
 dja:=h.dja
 fr:=h.fr.same n.z
theorem Hold.set (h:Hold K H₀ Z₀ Z δ σ H) {i:Nat} {v:V} {d:D} (r:Rep K Z v d):Hold K H₀ Z₀ Z (δ.set i (.fz d)) (σ.set i (some v)) H where
 zh:=h.zh
 h0:=h.h0
 z0:=h.z0
 zb:=h.zb
 len:=by simp [h.len]
 fz:=fun j e q=>by
  by_cases hj:i=j
  ·subst hj
   have hl:i < δ.length:=by
    have:=(List.getElem?_eq_some_iff.mp q).1
    simpa using this
   rw [List.getElem?_set_self hl] at q
   cases q
   exact ⟨v,List.getElem?_set_self (by rw [<- h.len]; exact hl),r⟩
  ·rw [List.getElem?_set_ne hj] at q
   obtain ⟨u,a,b⟩:=h.fz j e q
   exact ⟨u,by rw [List.getElem?_set_ne hj]; exact a,b⟩
 own:=fun j es q=>by
  by_cases hj:i=j
  ·subst hj
   have hl:i < δ.length:=by
    have:=(List.getElem?_eq_some_iff.mp q).1
    simpa using this
   rw [List.getElem?_set_self hl] at q
   cases q
  ·rw [List.getElem?_set_ne hj] at q ⊢
   exact h.own j es q
 dja:=fun j k ds es a hjk q1 q2=>by
  by_cases hj:i=j
  ·subst hj
   have hl:i < δ.length:=by
    have:=(List.getElem?_eq_some_iff.mp q1).1
    simpa using this
   rw [List.getElem?_set_self hl] at q1
   cases q1
  ·by_cases hk:i=k
   ·subst hk
    have hl:i < δ.length:=by
     have:=(List.getElem?_eq_some_iff.mp q2).1
     simpa using this
    rw [List.getElem?_set_self hl] at q2
    cases q2
   ·rw [List.getElem?_set_ne hj] at q1
    rw [List.getElem?_set_ne hk] at q2
    rw [List.getElem?_set_ne hj,List.getElem?_set_ne hk]
    exact h.dja j k ds es a hjk q1 q2
 fr:=h.fr.put (fun _ z=>nomatch z) fun _ hj=>List.getElem?_set_ne hj
theorem Hold.setW (h:Hold K H₀ Z₀ Z δ σ H) {i:Nat} {p:Addr} {o:HO} {c:Oc} (hp:H p=none) (r:OwR K Z o c):Hold K H₀ Z₀ Z (δ.set i (.own c)) (σ.set i (some (.ref p))) (eA H p o) where
 zh:=h.zh.trans (ie hp)
 h0:=h.h0.trans (ie hp)
 z0:=h.z0
 zb:=h.zb
 len:=by simp [h.len]
 fz:=fun j e q=>by
  by_cases hj:i=j
  ·subst hj
   have hl:i < δ.length:=by
    have:=(List.getElem?_eq_some_iff.mp q).1
    simpa using this
   rw [List.getElem?_set_self hl] at q
   cases q
  ·rw [List.getElem?_set_ne hj] at q
   obtain ⟨u,a,b⟩:=h.fz j e q
   exact ⟨u,by rw [List.getElem?_set_ne hj]; exact a,b⟩
 own:=fun j es q=>by
  by_cases hj:i=j
  ·subst hj
   have hl:i < δ.length:=by
    have:=(List.getElem?_eq_some_iff.mp q).1
    simpa using this
   rw [List.getElem?_set_self hl] at q
   cases q
   exact ⟨p,o,List.getElem?_set_self (by rw [<- h.len]; exact hl),uF h.h0 hp,uF h.zh hp,aR,r⟩
  ·rw [List.getElem?_set_ne hj] at q ⊢
   obtain ⟨a,ys,h1,h2,h3,h4,h5⟩:=h.own j es q
   exact ⟨a,ys,h1,h2,h3,by rw [aI (bg h4 hp)]; exact h4,h5⟩
 dja:=fun j k ds es a hjk q1 q2=>by
  have old:∀ {m:Nat} {fs:Oc},δ[m]? = some (.own fs) -> σ[m]? ≠ some (some (V.ref p)):=fun {m fs} q z=>by
   obtain ⟨b,ys,h1,h2,h3,h4,h5⟩:=h.own m fs q
   rw [h1] at z
   cases z
   rw [hp] at h4
   cases h4
  have hl:∀ {m:Nat} {x:Sl},(δ.set i x)[m]? ≠ none->m < σ.length:=fun {m x} q=>by
   have:m<(δ.set i x).length:=by
    rcases Nat.lt_or_ge m (δ.set i x).length with g | g
    ·exact g
    ·exact absurd (List.getElem?_eq_none_iff.mpr g) q
   rw [<- h.len]; simpa using this
  by_cases hj:i=j
  ·subst hj
   have h1:i < σ.length:=hl (by rw [q1]; intro z; cases z)
   rw [List.getElem?_set_self h1]
   intro e
   cases e
   rw [List.getElem?_set_ne hjk] at q2 ⊢
   exact old q2
  ·rw [List.getElem?_set_ne hj] at q1 ⊢
   by_cases hk:i=k
   ·subst hk
    have h1:i < σ.length:=hl (by rw [q2]; intro z; cases z)
    intro e z
    rw [List.getElem?_set_self h1] at z
    cases z
    exact old q1 e
   ·rw [List.getElem?_set_ne hk] at q2 ⊢
    exact h.dja j k ds es a hjk q1 q2
 fr:=h.fr.put (fun _ z=>nomatch z) fun _ hj=>List.getElem?_set_ne hj
theorem Hold.setO (h:Hold K H₀ Z₀ Z δ σ H) {i:Nat} {p:Addr} {xs:List V} {ds:List D} (hp:H p=none) (r:Reps K Z xs ds):Hold K H₀ Z₀ Z (δ.set i (.ow ds)) (σ.set i (some (.ref p))) (eA H p (.lst xs)):=h.setW hp (.lst r)
theorem Hold.chgW (h:Hold K H₀ Z₀ Z δ σ H) {i:Nat} {p:Addr} {o:HO} {ds es:Oc} (e:δ[i]? = some (.own ds)) (ep:σ[i]? = some (some (.ref p))) (r:OwR K Z o es):Hold K H₀ Z₀ Z (δ.set i (.own es)) σ (eA H p o):=by
 obtain ⟨a,zs,h1,h2,h3,h4,h5⟩:=h.own i ds e
 rw [ep] at h1
 cases h1
 have hl:i < δ.length:=(List.getElem?_eq_some_iff.mp e).1
 refine ⟨fun b o' q=>?_,fun b o' q=>?_,h.z0,h.zb,by simp [h.len],fun j d q=>?_,fun j d q=>?_,fun j k d1 d2 a hjk q1 q2=>?_,h.fr.put (fun _ z=>nomatch z) fun _ _=>rfl⟩
 ·rw [aI (bg q h3)]; exact h.zh b o' q
 ·rw [aI (bg q h2)]; exact h.h0 b o' q
 ·by_cases hj:i=j
  ·subst hj
   rw [List.getElem?_set_self hl] at q
   cases q
  ·rw [List.getElem?_set_ne hj] at q
   exact h.fz j d q
 ·by_cases hj:i=j
  ·subst hj
   rw [List.getElem?_set_self hl] at q
   cases q
   exact ⟨p,o,ep,h2,h3,aR,r⟩
  ·rw [List.getElem?_set_ne hj] at q
   obtain ⟨b,ws,g1,g2,g3,g4,g5⟩:=h.own j d q
   refine ⟨b,ws,g1,g2,g3,?_,g5⟩
   have:b≠p:=fun z=>by subst z; exact h.dja i j ds d b hj e q ep g1
   rw [aI this]; exact g4
 ·have f:∀ {m:Nat} {dm:Oc},(δ.set i (.own es))[m]? = some (.own dm)->∃ dm',δ[m]? = some (.own dm'):=fun {m dm} q=>by
   by_cases hm:i=m
   ·subst hm; exact ⟨ds,e⟩
   ·rw [List.getElem?_set_ne hm] at q; exact ⟨dm,q⟩
  obtain ⟨e1,g1⟩:=f q1
  obtain ⟨e2,g2⟩:=f q2
  exact h.dja j k e1 e2 a hjk g1 g2
theorem Hold.chg (h:Hold K H₀ Z₀ Z δ σ H) {i:Nat} {p:Addr} {xs ys:List V} {ds es:List D} (e:δ[i]? = some (.ow ds)) (ep:σ[i]? = some (some (.ref p))) (r:Reps K Z ys es):Hold K H₀ Z₀ Z (δ.set i (.ow es)) σ (eA H p (.lst ys)):=h.chgW e ep (.lst r)
theorem Hold.frz (h:Hold K H₀ Z₀ Z δ σ H) {i:Nat} {ds:List D} (e:δ[i]? = some (.ow ds)):∃ Z',Same Z Z'/\Hold K H₀ Z₀ Z' (δ.set i (.fz (.list ds))) σ H:=by
 obtain ⟨a,xs,h1,h2,h3,h4,h5⟩:=h.ow i ds e
 have hl:i < δ.length:=(List.getElem?_eq_some_iff.mp e).1
 have sz:Same Z (eA Z a (.lst xs)):=ie h3
 refine ⟨eA Z a (.lst xs),sz,fun b o q=>?_,h.h0,h.z0.trans sz,fun b hb=>?_,by simp [h.len],fun j d q=>?_,fun j d q=>?_,fun j k d1 d2 b hjk q1 q2=>?_,(h.fr.same sz).put (fun _ z=>nomatch z) fun _ _=>rfl⟩
 ·by_cases hb:b=a
  ·subst hb; rw [aR] at q; cases q; exact h4
  ·rw [aI hb] at q; exact h.zh b o q
 ·rw [aI (fun z=>hb (by rw [z]; exact h2))]; exact h.zb b hb
 ·by_cases hj:i=j
  ·subst hj
   rw [List.getElem?_set_self hl] at q
   cases q
   exact ⟨.ref a,h1,.lst (SqL.of aR) (h5.same sz)⟩
  ·rw [List.getElem?_set_ne hj] at q
   obtain ⟨v,g1,g2⟩:=h.fz j d q
   exact ⟨v,g1,g2.same sz⟩
 ·by_cases hj:i=j
  ·subst hj
   rw [List.getElem?_set_self hl] at q
   cases q
  ·rw [List.getElem?_set_ne hj] at q
   obtain ⟨b,ws,g1,g2,g3,g4,g5⟩:=h.own j d q
   have:b≠a:=fun z=>by subst z; exact h.dja i j _ d b hj e q h1 g1
   exact ⟨b,ws,g1,g2,by rw [aI this]; exact g3,g4,g5.same sz⟩
 ·by_cases hj:i=j
  ·subst hj
   rw [List.getElem?_set_self hl] at q1
   cases q1
  ·by_cases hk:i=k
   ·subst hk
    rw [List.getElem?_set_self hl] at q2
    cases q2
   ·rw [List.getElem?_set_ne hj] at q1
    rw [List.getElem?_set_ne hk] at q2
    exact h.dja j k d1 d2 b hjk q1 q2
end
noncomputable def tV (K:Fg) (f:Dv->Option D):TE:=fun σ H Q=>∃ H₀ Z₀ Z δ d,Hold K H₀ Z₀ Z δ σ H/\f δ = some d/\∀ v Z' H',Hold K H₀ Z₀ Z' δ σ H'->Same Z Z'->Rep K Z' v d->Q v H'
noncomputable def JZ (K:Fg) (f:Dv->Option Bool):TT:=fun σ H Q=>∃ H₀ Z₀ Z δ b,Hold K H₀ Z₀ Z δ σ H/\f δ = some b/\∀ Z' H',Hold K H₀ Z₀ Z' δ σ H'->Same Z Z'->Q b H'
noncomputable def NU (K:Fg) (f:Dv->Option (List D)):TA:=fun σ H Q=>∃ H₀ Z₀ Z δ ds,Hold K H₀ Z₀ Z δ σ H/\f δ = some ds/\∀ vs Z' H',Hold K H₀ Z₀ Z' δ σ H'->Same Z Z'->Reps K Z' vs ds->Q vs H'
noncomputable def Fl.to (K:Fg) (Z:Hp) (D:Ends) (σ:St) (H:Hp):Fl->Prop
 | .nx=>D.nx σ H
 | .bk=>D.bk σ H
 | .ct=>D.ct σ H
 | .rt d=>∀ v,Rep K Z v d->D.rt v H
noncomputable def JG (K:Fg) (f:Dv->Option (Fl×Dv)):TS:=fun D σ H=>∃ H₀ Z₀ Z δ r,Hold K H₀ Z₀ Z δ σ H/\f δ = some r/\∀ σ' H' Z',Hold K H₀ Z₀ Z' r.2 σ' H'->Same Z Z'->r.1.to K Z' D σ' H'
noncomputable def EV (X:Cx) (e:Expr) (f:Dv->Option D):Prop:=PE X e (tV X.K f)
noncomputable def TV (X:Cx) (e:Expr) (f:Dv->Option Bool):Prop:=PT X e (JZ X.K f)
noncomputable def AV (X:Cx) (es:List Expr) (f:Dv->Option (List D)):Prop:=PA X es (NU X.K f)
noncomputable def SV (X:Cx) (st:Stmt) (f:Dv->Option (Fl×Dv)):Prop:=PS X st (JG X.K f)
noncomputable def BV (X:Cx) (st:List Stmt) (f:Dv->Option (Fl×Dv)):Prop:=PSs X st (JG X.K f)
theorem PE.imp {X:Cx} {e:Expr} {t t':TE} (h:PE X e t) (i:∀ σ H Q,t' σ H Q->t σ H Q):PE X e t':=fun pins s σ H Q I hw=>h pins s σ H Q I (i _ _ _ hw)
theorem PT.imp {X:Cx} {e:Expr} {t t':TT} (h:PT X e t) (i:∀ σ H Q,t' σ H Q->t σ H Q):PT X e t':=fun pins s σ H Q I hw=>h pins s σ H Q I (i _ _ _ hw)
theorem PA.imp {X:Cx} {es:List Expr} {t t':TA} (h:PA X es t) (i:∀ σ H Q,t' σ H Q->t σ H Q):PA X es t':=fun pos pins s σ H Q I hw=>h pos pins s σ H Q I (i _ _ _ hw)
theorem PS.imp {X:Cx} {st:Stmt} {t t':TS} (h:PS X st t) (i:∀ D σ H,t' D σ H->t D σ H):PS X st t':=fun pins s σ H D I hw=>h pins s σ H D I (i _ _ _ hw)
theorem PSs.imp {X:Cx} {st:List Stmt} {t t':TS} (h:PSs X st t) (i:∀ D σ H,t' D σ H->t D σ H):PSs X st t':=fun pins s σ H D I hw=>h pins s σ H D I (i _ _ _ hw)
theorem OpR.imp {X:Cx} {f:Value->Value->Sem Value} {r r':R2} (h:OpR X f r) (i:∀ x y H Q,r' x y H Q->r x y H Q):OpR X f r':=fun pins s σ H x y v u Q I rx ry q=>h pins s σ H x y v u Q I rx ry (i _ _ _ _ q)
theorem CallR.imp {X:Cx} {f:Value} {r r':List V->Hp->VK->Prop} (h:CallR X f r) (i:∀ xs H Q,r' xs H Q->r xs H Q):CallR X f r':=fun pins s σ H xs us Q I rx q=>h pins s σ H xs us Q I rx (i _ _ _ q)
noncomputable def rD (K:Fg) (g:D->D->Option D):R2:=fun x y H Q=>∃ Z a b d,Same Z H/\Rep K Z x a/\Rep K Z y b/\g a b=some d/\∀ v Z' H',New Z H Z' H'->Rep K Z' v d->Q v H'
noncomputable def NW (K:Fg) (g:D->Option D):V->Hp->VK->Prop:=fun x H Q=>∃ Z a d,Same Z H/\Rep K Z x a/\g a=some d/\∀ v Z' H',New Z H Z' H'->Rep K Z' v d->Q v H'
noncomputable def AW (K:Fg) (g:List D->Option D):List V->Hp->VK->Prop:=fun xs H Q=>∃ Z as d,Same Z H/\Reps K Z xs as/\g as=some d/\∀ v Z' H',New Z H Z' H'->Rep K Z' v d->Q v H'
noncomputable def dk (K:Fg) (g:List D->Option D):Sp:=fun vs H Q _=>AW K g vs H Q
section
variable {X:Cx} {a b c e:Expr} {es:List Expr} {pos p:Pos} {f f1 f2 f3:Dv->Option D} {fs:Dv->Option (List D)} {ft fu:Dv->Option Bool}
theorem bind_some {α β:Type} {o:Option α} {k:α -> Option β} {r:β} (h:o.bind k=some r):∃ a,o=some a/\k a=some r:=by
 cases o with
 | none=>cases h
 | some a=>exact ⟨a,rfl,h⟩
theorem two {K:Fg} {g:D->D->Option D} {σ:St} {H:Hp} {Q:VK} {r:R2} (hr:∀ x y H Q,rD K g x y H Q->r x y H Q) (h:tV K (o2 f1 f2 g) σ H Q):J2 r (tV K f1) (tV K f2) σ H Q:=by
 obtain ⟨H₀,Z₀,Z,δ,d,hh,e,k⟩:=h
 obtain ⟨x,e1,e⟩:=bind_some e
 obtain ⟨y,e2,e⟩:=bind_some e
 refine ⟨H₀,Z₀,Z,δ,x,hh,e1,fun v Z1 H1 hh1 s1 r1=>⟨H₀,Z₀,Z1,δ,y,hh1,e2,fun u Z2 H2 hh2 s2 r2=>hr _ _ _ _ ⟨Z2,x,y,d,hh2.zh,r1.same s2,r2,e,fun w Z3 H3 n r3=>?_⟩⟩⟩
 exact k w Z3 H3 (hh2.new n) ((s1.trans s2).trans n.z) r3
theorem ak {op:Operator} {g:D->D->Option D} (ho:OpR X (binaryOp op) (rD X.K g)) (ha:EV X a f1) (hb:EV X b f2):EV X (.BinOp a op b pos) (o2 f1 f2 g):=
 PE.imp (Kr ho ha hb) fun _ _ _ h=>two (fun _ _ _ _ q=>q) h
theorem kq {op:UnaryOp} {g:D->Option D} (ho:LA X (unaryOp op) (NW X.K g)) (ha:EV X a f):EV X (.UnaryOp op a pos) (o1 f g):=
 PE.imp (Kq ho ha) fun σ H Q h=>by
  obtain ⟨H₀,Z₀,Z,δ,d,hh,e,k⟩:=h
  obtain ⟨x,e1,e⟩:=bind_some e
  exact ⟨H₀,Z₀,Z,δ,x,hh,e1,fun v Z1 H1 hh1 s1 r1=>⟨Z1,x,d,hh1.zh,r1,e,fun w Z3 H3 n r3=>k w Z3 H3 (hh1.new n) (s1.trans n.z) r3⟩⟩
theorem fU {op:CmpOp} {g:D->D->Option D} (ho:OpR X (compareOp op) (rD X.K g)) (ha:EV X a f1) (hb:EV X b f2) (hm:behindInMarks op b=false):EV X (.Compare a [op] [b] pos) (o2 f1 f2 g):=
 PE.imp (EL ho ha hb hm) fun _ _ _ h=>two (fun _ _ _ _ q=>q) h
theorem xN {d:D} {b:Bool} (h:asB d=some b):d=.bool b:=by
 cases d <;> simp [asB] at h
 subst h; rfl
theorem NS {K:Fg} {σ:St} {H:Hp} {Q:Bool->Hp->Prop} (h:JZ K (ob f) σ H Q):tV K f σ H fun x H1=>∃ c,x=.bl c/\Q c H1:=by
 obtain ⟨H₀,Z₀,Z,δ,d,hh,e,k⟩:=h
 obtain ⟨x,e1,e⟩:=bind_some e
 have:=xN e
 subst this
 exact ⟨H₀,Z₀,Z,δ,_,hh,e1,fun v Z1 H1 hh1 s1 r1=>⟨_,r1.bl_eq,k Z1 H1 hh1 s1⟩⟩
theorem aD {op:CmpOp} {g:D->D->Option D} (ho:OpR X (compareOp op) (rD X.K g)) (ha:EV X a f1) (hb:EV X b f2) (hm:behindInMarks op b=false):TV X (.Compare a [op] [b] pos) (ob (o2 f1 f2 g)):=
 PT.imp (ED ho ha hb hm) fun σ H Q h=>by
  have h':=NS h
  exact two (f1:=f1) (f2:=f2) (g:=g) (fun _ _ _ _ q=>q) h'
theorem dj (ha:EV X a f) (he:∀ whole,isTrue a X.env whole=(do let v <- whole; standAt a.pos; holding [v] (truthy v)):=by intro _; rfl):TV X a (ob f):=
 PT.imp (HU ha he) fun _ _ _ h=>NS h
noncomputable def WV (X:Cx) (e:Expr) (f:Dv->Option Bool):Prop:=PW X e (JZ X.K f)
theorem PW.imp {X:Cx} {e:Expr} {t t':TT} (h:PW X e t) (i:∀ σ H Q,t' σ H Q->t σ H Q):PW X e t':=fun whole pins s σ H Q I hw=>h whole pins s σ H Q I (i _ _ _ hw)
theorem xV (ha:TV X a ft):WV X (.BoolOp .And [a] pos) ft:=EC ha
theorem hZ (ha:TV X a ft):WV X (.BoolOp .Or [a] pos) ft:=HQ ha
theorem A1 {rest:List Expr} (ha:TV X a ft) (hb:WV X (.BoolOp .And (b::rest) pos) fu):WV X (.BoolOp .And (a::b::rest) pos) (Iz ft fu):=
 PW.imp (HR ha hb) fun σ H Q h=>by
  obtain ⟨H₀,Z₀,Z,δ,d,hh,e,k⟩:=h
  obtain ⟨x,e1,e⟩:=bind_some e
  refine ⟨H₀,Z₀,Z,δ,x,hh,e1,fun Z1 H1 hh1 s1=>?_⟩
  cases x with
  | true=>exact ⟨H₀,Z₀,Z1,δ,d,hh1,e,fun Z2 H2 hh2 s2=>k Z2 H2 hh2 (s1.trans s2)⟩
  | false=>cases e; exact k Z1 H1 hh1 s1
theorem ia {rest:List Expr} (ha:TV X a ft) (hb:WV X (.BoolOp .Or (b::rest) pos) fu):WV X (.BoolOp .Or (a::b::rest) pos) (pQ ft fu):=
 PW.imp (Kn ha hb) fun σ H Q h=>by
  obtain ⟨H₀,Z₀,Z,δ,d,hh,e,k⟩:=h
  obtain ⟨x,e1,e⟩:=bind_some e
  refine ⟨H₀,Z₀,Z,δ,x,hh,e1,fun Z1 H1 hh1 s1=>?_⟩
  cases x with
  | true=>cases e; exact k Z1 H1 hh1 s1
  | false=>exact ⟨H₀,Z₀,Z1,δ,d,hh1,e,fun Z2 H2 hh2 s2=>k Z2 H2 hh2 (s1.trans s2)⟩
theorem WV.tv (h:WV X a ft):TV X a ft:=PW.pt h
theorem dX (ha:TV X a ft):TV X (.UnaryOp .Not a pos) (i9 ft):=
 PT.imp (HV ha) fun σ H Q h=>by
  obtain ⟨H₀,Z₀,Z,δ,d,hh,e,k⟩:=h
  cases e1:ft δ with
  | none=>unfold i9 at e; rw [e1] at e; cases e
  | some x=>
   unfold i9 at e
   rw [e1] at e
   cases e
   exact ⟨H₀,Z₀,Z,δ,x,hh,e1,fun Z1 H1 hh1 s1=>k Z1 H1 hh1 s1⟩
theorem uI {op} (h:EV X a f):EV X (.BoolOp op [a] pos) f:=Ib h
theorem qR {rest:List Expr} (ha:EV X a f1) (hb:EV X (.BoolOp .And (b::rest) pos) f2):EV X (.BoolOp .And (a::b::rest) pos) (vI f1 f2):=
 PE.imp (Ih ha hb) fun σ H Q h=>by
  obtain ⟨H₀,Z₀,Z,δ,d,hh,e,k⟩:=h
  obtain ⟨x,e1,e⟩:=bind_some e
  obtain ⟨c,e2,e⟩:=bind_some e
  have:=xN e2
  subst this
  refine ⟨H₀,Z₀,Z,δ,_,hh,e1,fun v Z1 H1 hh1 s1 r1=>⟨c,r1.bl_eq,?_⟩⟩
  cases c with
  | true=>exact ⟨H₀,Z₀,Z1,δ,d,hh1,e,fun v Z2 H2 hh2 s2 r2=>k v Z2 H2 hh2 (s1.trans s2) r2⟩
  | false=>cases e; exact k _ Z1 H1 hh1 s1 (.bl false)
theorem Jk (ha:EV X a f):EV X (.UnaryOp .Not a pos) (o1 f E8):=
 PE.imp (Ic ha) fun σ H Q h=>by
  obtain ⟨H₀,Z₀,Z,δ,d,hh,e,k⟩:=h
  obtain ⟨x,e1,e⟩:=bind_some e
  cases e2:asB x with
  | none=>unfold E8 at e; rw [e2] at e; cases e
  | some c=>
   unfold E8 at e
   rw [e2] at e
   cases e
   have:=xN e2
   subst this
   exact ⟨H₀,Z₀,Z,δ,_,hh,e1,fun v Z1 H1 hh1 s1 r1=>⟨c,r1.bl_eq,k _ Z1 H1 hh1 s1 (.bl _)⟩⟩
theorem gj (hc:TV X c ft) (ha:EV X a f1) (hb:EV X b f2):EV X (.IfExp c a b pos) (yI ft f1 f2):=
 PE.imp (BR hc ha hb) fun σ H Q h=>by
  obtain ⟨H₀,Z₀,Z,δ,d,hh,e,k⟩:=h
  obtain ⟨x,e1,e⟩:=bind_some e
  refine ⟨H₀,Z₀,Z,δ,x,hh,e1,fun Z1 H1 hh1 s1=>?_⟩
  cases x with
  | true=>exact ⟨H₀,Z₀,Z1,δ,d,hh1,e,fun v Z2 H2 hh2 s2 r2=>k v Z2 H2 hh2 (s1.trans s2) r2⟩
  | false=>exact ⟨H₀,Z₀,Z1,δ,d,hh1,e,fun v Z2 H2 hh2 s2 r2=>k v Z2 H2 hh2 (s1.trans s2) r2⟩
theorem Hold.read {K:Fg} {H₀ Z₀ Z H:Hp} {δ:Dv} {σ:St} (hh:Hold K H₀ Z₀ Z δ σ H) {i:Nat} {d:D} (h:oV i δ = some d):∃ v,σ[i]? = some (some v)/\Rep K Z v d:=by
 unfold oV at h
 cases q:δ[i]? with
 | none=>rw [q] at h; cases h
 | some x=>
  rw [q] at h
  cases x with
  | fz e=>cases h; exact hh.fz i _ q
  | un=>cases h
  | own _=>cases h
  | fr ds=>
   cases h
   obtain ⟨a,xs,h1,_,_,h4,h5⟩:=hh.fr i ds q
   exact ⟨.ref a,h1,.lst (SqL.of h4) h5⟩
theorem aa (i:Nat) {x:Str} (hN:X.N[i]? = some x:=by rfl) (hv:Dg X.env.scope x:=by first | exact Or.inl rfl | exact Or.inr (Or.inl rfl) | exact Or.inr (Or.inr rfl)) (hd:(x==("__debug__":Str))=false:=by decide) (hcd:(x==("__classdict__":Str))=false:=by decide) :
  EV X (.Name x pos) (oV i):=
 PE.imp (j7 hN hv hd hcd) fun σ H Q h=>by
  obtain ⟨H₀,Z₀,Z,δ,d,hh,e,k⟩:=h
  obtain ⟨v,q,r⟩:=hh.read e
  exact ⟨v,q,k v Z H hh (Same.refl _) r⟩
theorem Ay {d:D} {v:V} (h:PE X e (tC v)) (r:∀ Z,Rep X.K Z v d):EV X e (oC d):=
 PE.imp h fun σ H Q h=>by
  obtain ⟨H₀,Z₀,Z,δ,d',hh,e,k⟩:=h
  cases e
  exact k v Z H hh (Same.refl _) (r Z)
theorem ae {i j}:EV X (.Constant (.int i) j pos) (oC (.int i)):=Ay Ie fun _=>.int i
theorem fE {i j}:EV X (.Constant (.bool i) j pos) (oC (.bool i)):=Ay Ks fun _=>.bl i
theorem uJ {j}:EV X (.Constant .none j pos) (oC .none):=Ay Id fun _=>.non
theorem bu {i j}:EV X (.Constant (.str i) j pos) (oC (.str i)):=Ay Ia fun _=>.str i
theorem af:AV X [] al:=
 PA.imp lZ fun σ H Q h=>by
  obtain ⟨H₀,Z₀,Z,δ,d,hh,e,k⟩:=h
  cases e
  exact k [] Z H hh (Same.refl _) .nil
theorem ac (ha:EV X e f) (hr:AV X es fs) (hs:starEach (e::es) X.env=(false,eval e X.env)::starEach es X.env:=by rfl):AV X (e::es) (ad f fs):=
 PA.imp (gr ha hr hs) fun σ H Q h=>by
  obtain ⟨H₀,Z₀,Z,δ,d,hh,e,k⟩:=h
  obtain ⟨x,e1,e⟩:=bind_some e
  obtain ⟨xs,e2,e⟩:=bind_some e
  cases e
  exact ⟨H₀,Z₀,Z,δ,x,hh,e1,fun v Z1 H1 hh1 s1 r1=>⟨H₀,Z₀,Z1,δ,xs,hh1,e2,fun vs Z2 H2 hh2 s2 r2=>k _ Z2 H2 hh2 (s1.trans s2) (.cons (r1.same s2) r2)⟩⟩
theorem aE {x1} (h:AV X es fs):EV X (.Tuple es x1 pos) (os fs aZ):=
 PE.imp (H9 h) fun σ H Q h=>by
  obtain ⟨H₀,Z₀,Z,δ,d,hh,e,k⟩:=h
  obtain ⟨xs,e1,e⟩:=bind_some e
  refine ⟨H₀,Z₀,Z,δ,xs,hh,e1,fun vs Z1 H1 hh1 s1 r1=>?_⟩
  by_cases hl:xs.length<=sizeLine
  ·rw [aZ,if_pos hl] at e
   cases e
   refine ⟨by rw [r1.length]; exact hl,fun p hp=>?_⟩
   have n:=New.add hh1.zh hp (.tup vs)
   exact k _ _ _ (hh1.new n) (s1.trans n.z) (.tup (SqT.of aR) (r1.same n.z))
  ·rw [aZ,if_neg hl] at e; cases e
theorem kr (h:AV X es fs):EV X (.List es pos) (os fs jw):=
 PE.imp (BQ h) fun σ H Q h=>by
  obtain ⟨H₀,Z₀,Z,δ,d,hh,e,k⟩:=h
  obtain ⟨xs,e1,e⟩:=bind_some e
  refine ⟨H₀,Z₀,Z,δ,xs,hh,e1,fun vs Z1 H1 hh1 s1 r1=>?_⟩
  by_cases hl:xs.length<=sizeLine
  ·rw [jw,if_pos hl] at e
   cases e
   refine ⟨by rw [r1.length]; exact hl,fun p hp=>?_⟩
   have n:=New.add hh1.zh hp (.lst vs)
   exact k _ _ _ (hh1.new n) (s1.trans n.z) (.lst (SqL.of aR) (r1.same n.z))
  ·rw [jw,if_neg hl] at e; cases e
theorem args {K:Fg} {g:List D->Option D} {σ:St} {H:Hp} {Q:VK} (h:tV K (os fs g) σ H Q):NU K fs σ H fun vs H1=>AW K g vs H1 Q:=by
 obtain ⟨H₀,Z₀,Z,δ,d,hh,e,k⟩:=h
 obtain ⟨xs,e1,e⟩:=bind_some e
 exact ⟨H₀,Z₀,Z,δ,xs,hh,e1,fun vs Z1 H1 hh1 s1 r1=>⟨Z1,xs,d,hh1.zh,r1,e,fun w Z3 H3 n r3=>k w Z3 H3 (hh1.new n) (s1.trans n.z) r3⟩⟩
theorem aQ {x:Str} {id:String} {g:List D->Option D} (hc:CallR X (.builtin id) (AW X.K g)) (hg:Gl X x) (hm:X.mg x=none) (hv:bootBuiltins x=some (.builtin id)) (ha:AV X (e::es) fs) (hn:x ≠ "__name__":=by decide) (hdb:(x==("__debug__":Str))=false:=by decide)
  (he:starEach (e::es) X.env=(false,eval e X.env)::starEach es X.env:=by rfl) (hpl:(backTo pos (starEach es X.env)).any (·.1)=false:=by rfl):EV X (.Call (.Name x p) (e::es) [] pos) (os fs g):=
 PE.imp (mS hc hg hm hv ha hn hdb he hpl) fun _ _ _ h=>args h
theorem cz {x:Str} {id:String} {g:List D->Option D} (hc:CallR X (.type id) (AW X.K g)) (hg:Gl X x) (hm:X.mg x=none) (hv:bootBuiltins x=some (.type id)) (ha:AV X (e::es) fs) (hn:x ≠ "__name__":=by decide) (hdb:(x==("__debug__":Str))=false:=by decide)
  (he:starEach (e::es) X.env=(false,eval e X.env)::starEach es X.env:=by rfl) (hpl:(backTo pos (starEach es X.env)).any (·.1)=false:=by rfl):EV X (.Call (.Name x p) (e::es) [] pos) (os fs g):=
 PE.imp (zM hc hg hm hv ha hn hdb he hpl) fun _ _ _ h=>args h
theorem FV {k:Nat} {fa:Addr} {fd:FuncData} {ps:List Str} {x:Str} {g:List D->Option D} {dd:List D} {dv:List V} {ds:List Value} (F:FnOk X.prog X.w X.K X.mg X.base cN k fa fd ps (dk X.K g)) (hr:Room k X.A) (hg:Gl X x) (hm:X.mg x=some (.ref fa)) (hk:PySem.W.keepIn X.K (.ref fa)=true)
  (hb:Binds X.K fd ps ds) (hd:Vals dv ds) (hdd:∀ Z,Reps X.K Z dv dd) (hx:u9 cN X E0) (ha:AV X (e::es) fs) (hdb:(x==("__debug__":Str))=false:=by decide) (he:starEach (e::es) X.env=(false,eval e X.env)::starEach es X.env:=by rfl) (hpl:(backTo pos (starEach es X.env)).any (·.1)=false:=by rfl) :
  EV X (.Call (.Name x p) (e::es) [] pos) (os fs fun as=>g (as++dd)):=
 PE.imp (yz F hr hg hm hk hb hd hx ha hdb he hpl) fun σ H Q h=>by
  obtain ⟨H₀,Z₀,Z,δ,xs,hh,e1,q⟩:=args h
  refine ⟨H₀,Z₀,Z,δ,xs,hh,e1,fun vs Z1 H1 hh1 s1 r1=>?_⟩
  obtain ⟨Z2,as,d,zh,ra,eg,kk⟩:=q vs Z1 H1 hh1 s1 r1
  exact ⟨Z2,as++dd,d,zh,ra.append (hdd Z2),eg,kk⟩
theorem IxR.imp {r r':R2} (h:IxR X r) (i:∀ x y H Q,r' x y H Q->r x y H Q):IxR X r':=fun value slice pins s σ H x y v u Q I rx ry q hs=>h value slice pins s σ H x y v u Q I rx ry (i _ _ _ _ q) hs
theorem ai {g:D->D->Option D} (ho:IxR X (rD X.K g)) (ha:EV X a f1) (hb:EV X b f2) (hs:u8 b):EV X (.Subscript a b pos) (o2 f1 f2 g):=
 PE.imp (GC ho ha hb hs) fun _ _ _ h=>two (fun _ _ _ _ q=>q) h
end
end VL
set_option Elab.async false
set_option linter.all false
set_option maxRecDepth 100000
set_option maxHeartbeats 4000000
namespace VL
open PySem PySem.Spec PyProof.Rows L2
section
variable {X:Cx} {a b c e tg:Expr} {es:List Expr} {pos p:Pos} {f f1 f2 f3:Dv->Option D} {fs:Dv->Option (List D)} {ft fu:Dv->Option Bool} {st:Stmt} {sts body:List Stmt} {s1 s2:Dv->Option (Fl×Dv)}
theorem yF {F:Value->Value->Sem Value} {g:Int->Int->Int} (h:OpR X F (BG fun i j=>.int (g i j))):OpR X F (rD X.K (iI g)):=
 OpR.imp h fun x y H Q q=>by
  obtain ⟨Z,a,b,d,zh,ra,rb,e,k⟩:=q
  cases ra <;> cases rb <;> simp [iI] at e
  subst e
  exact ⟨_,_,rfl,rfl,k _ Z H (New.refl zh) (.int _)⟩
theorem GF {F:Value->Value->Sem Value} {g:Int->Int->Bool} (h:OpR X F (BG fun i j=>.bl (g i j))):OpR X F (rD X.K (iB g)):=
 OpR.imp h fun x y H Q q=>by
  obtain ⟨Z,a,b,d,zh,ra,rb,e,k⟩:=q
  cases ra <;> cases rb <;> simp [iB] at e
  subst e
  exact ⟨_,_,rfl,rfl,k _ Z H (New.refl zh) (.bl _)⟩
theorem vB {F:Value->Value->Sem Value} {P:Int->Int->Prop} {C:Int->Int->Bool} {g:Int->Int->Int} (h:OpR X F (rI P fun i j=>.int (g i j))) (hc:∀ i j,C i j=true->P i j):OpR X F (rD X.K (iC C g)):=
 OpR.imp h fun x y H Q q=>by
  obtain ⟨Z,a,b,d,zh,ra,rb,e,k⟩:=q
  cases ra with
  | int i=>
   cases rb with
   | int j=>
    by_cases hh:C i j=true
    ·simp only [iC,if_pos hh] at e
     cases e
     exact ⟨_,_,rfl,rfl,hc _ _ hh,k _ Z H (New.refl zh) (.int _)⟩
    ·simp only [iC,if_neg hh] at e
     cases e
   | _=>simp [iC] at e
  | _=>simp [iC] at e
theorem dz:OpR X (binaryOp .Sub) (rD X.K dW):=yF Il
theorem dF:OpR X (binaryOp .Mult) (rD X.K g6):=vB (P:=fun i j=>IntMulOk i j) (Kw fun _ _ _ _ _ _ _ hc q=>mul_int q hc) fun i j h=>of_decide_eq_true h
theorem gE:OpR X (binaryOp .FloorDiv) (rD X.K gJ):=vB ER fun i j h=>(of_decide_eq_true h:0<j/\j<1073741824)
theorem cC:OpR X (binaryOp .Mod) (rD X.K bX):=vB Io fun i j h=>of_decide_eq_true h
theorem ku:OpR X (binaryOp .LShift) (rD X.K jm):=vB (P:=fun i j=>0<=j/\(Builtin.Int.intBits i:Int)+j<=2 ^ 27) (Kw fun _ _ _ _ _ _ _ hc q=>lshift_int hc.1 hc.2 q) fun i j h=>of_decide_eq_true h
theorem oF:OpR X (binaryOp .RShift) (rD X.K jF):=vB Im fun i j h=>of_decide_eq_true h
theorem eT:OpR X (binaryOp .BitAnd) (rD X.K iG):=yF Ir
theorem uP:OpR X (binaryOp .BitOr) (rD X.K zP):=yF Kt
theorem gR:OpR X (binaryOp .BitXor) (rD X.K j4):=yF Ik
theorem AA:OpR X (compareOp .Lt) (rD X.K IM):=GF Ku
theorem Nk:OpR X (compareOp .Gt) (rD X.K N7):=GF Kv
theorem kw:LA X (unaryOp .USub) (NW X.K negD):=by
 intro pins s σ H x v Q I rx q
 obtain ⟨Z,a,d,zh,ra,e,k⟩:=q
 cases ra <;> simp [negD] at e
 subst e
 exact Hh pins s σ H _ v Q I rx ⟨_,rfl,k _ Z H (New.refl zh) (.int _)⟩
theorem Rep.str_eq {K:Fg} {Z:Hp} {v:V} {x:Str} (h:Rep K Z v (.str x)):v=.str x:=by cases h; rfl
theorem Rep.tup_ex {K:Fg} {Z:Hp} {v:V} {ds:List D} (h:Rep K Z v (.tuple ds)):∃ a xs,v=.ref a/\SqT K Z a xs/\Reps K Z xs ds:=by
 cases h with
 | tup p q=>exact ⟨_,_,rfl,p,q⟩
theorem Rep.lst_ex {K:Fg} {Z:Hp} {v:V} {ds:List D} (h:Rep K Z v (.list ds)):∃ a xs,v=.ref a/\SqL K Z a xs/\Reps K Z xs ds:=by
 cases h with
 | lst p q=>exact ⟨_,_,rfl,p,q⟩
theorem qM {p:Prop} [Decidable p] {α:Type} {x y:α} (h:(if p then some x else none)=some y):p/\x=y:=by
 by_cases q:p
 ·rw [if_pos q] at h; exact ⟨q,Option.some.inj h⟩
 ·rw [if_neg q] at h; cases h
theorem JC {a b d:D} (h:cf a b=some d):(∃ i,a=.int i)\/(∃ x,a=.str x)\/(∃ xs,a=.list xs)\/∃ xs,a=.tuple xs:=by
 cases a with
 | int i=>exact .inl ⟨_,rfl⟩
 | str i=>exact .inr (.inl ⟨_,rfl⟩)
 | list i=>exact .inr (.inr (.inl ⟨_,rfl⟩))
 | tuple i=>exact .inr (.inr (.inr ⟨_,rfl⟩))
 | _=>cases h
theorem JD {i:Int} {b d:D} (h:cf (.int i) b=some d):∃ j,b=.int j/\d=.int (i+j):=by
 cases b with
 | int j=>exact ⟨j,rfl,(Option.some.inj h).symm⟩
 | _=>cases h
theorem JA {i:Str} {b d:D} (h:cf (.str i) b=some d):∃ j,b=.str j/\i.length+j.length<=sizeLine/\d=.str (i++j):=by
 cases b with
 | str j=>obtain ⟨p,q⟩:=qM h; exact ⟨j,rfl,p,q.symm⟩
 | _=>cases h
theorem JB {i:List D} {b d:D} (h:cf (.list i) b=some d):∃ j,b=.list j/\i.length+j.length<=sizeLine/\d=.list (i++j):=by
 cases b with
 | list j=>obtain ⟨p,q⟩:=qM h; exact ⟨j,rfl,p,q.symm⟩
 | _=>cases h
theorem Jz {i:List D} {b d:D} (h:cf (.tuple i) b=some d):∃ j,b=.tuple j/\i.length+j.length<=sizeLine/\d=.tuple (i++j):=by
 cases b with
 | tuple j=>obtain ⟨p,q⟩:=qM h; exact ⟨j,rfl,p,q.symm⟩
 | _=>cases h
theorem cx:OpR X (binaryOp .Add) (rD X.K cf):=by
 intro pins s σ H x y v u Q I rx ry q
 obtain ⟨Z,a,b,d,zh,ra,rb,e,k⟩:=q
 rcases JC e with ⟨i,rfl⟩ | ⟨i,rfl⟩ | ⟨ds,rfl⟩ | ⟨ds,rfl⟩
 ·obtain ⟨j,rfl,rfl⟩:=JD e
  cases ra.int_eq
  cases rb.int_eq
  exact Iu pins s σ H _ _ v u Q I rx ry ⟨_,_,rfl,rfl,k _ Z H (New.refl zh) (.int _)⟩
 ·obtain ⟨j,rfl,hl,rfl⟩:=JA e
  cases ra.str_eq
  cases rb.str_eq
  exact wX pins s σ H _ _ v u Q I rx ry ⟨_,_,rfl,rfl,hl,k _ Z H (New.refl zh) (.str _)⟩
 ·obtain ⟨es,rfl,hl,rfl⟩:=JB e
  obtain ⟨a,xs,rfl,h1,q1⟩:=ra.lst_ex
  obtain ⟨b,ys,rfl,h2,q2⟩:=rb.lst_ex
  cases rx
  cases ry
  obtain ⟨its,r1,p1,z1⟩:=I.list (SqL.same h1 zh)
  obtain ⟨its2,r2,p2,z2⟩:=I.list (SqL.same h2 zh)
  obtain ⟨⟨cls,dd,data,sl⟩,n1,ho,hc,hdd,hd⟩:=p1
  obtain ⟨⟨cls2,dd2,data2,sl2⟩,n2,ho2,hc2,hdd2,hd2⟩:=p2
  simp only at hc hd hc2 hd2
  subst hc hd hc2 hd2
  have hl1:=r1.length
  have hl2:=r2.length
  have ql1:=q1.length
  have ql2:=q2.length
  refine concat_meets ⟨_,ho,rfl⟩ ⟨_,ho2,rfl⟩ noFill_list_add seq_list_add PySem.F.slot_list_add PySem.F.entry_list_add (PySem.F.args_list_add_2 _ _) (list_addW a b its.toArray its2.toArray n1 n2 dd dd2 sl sl2 (by simp; omega)) ⟨ho,ho2,?_⟩
  have ea:its.toArray++its2.toArray=(its++its2).toArray:=by simp
  rw [ea]
  have n:=New.add zh I.fresh (.lst (xs++ys))
  exact ⟨.ref _,_,I.lnew (t':=s.toks) (r1.append r2) (by rw [List.length_append]; omega),rfl,k _ _ _ n (.lst (SqL.of aR) ((q1.append q2).same n.z))⟩
 ·obtain ⟨es,rfl,hl,rfl⟩:=Jz e
  obtain ⟨a,xs,rfl,h1,q1⟩:=ra.tup_ex
  obtain ⟨b,ys,rfl,h2,q2⟩:=rb.tup_ex
  by_cases h0:ds.length=0
  ·have hd0:ds=[]:=List.eq_nil_of_length_eq_zero h0
   subst hd0
   cases q1
   cases rx
   cases ry
   obtain ⟨its,r1,p1,z1⟩:=I.tuple (SqT.same h1 zh)
   obtain ⟨its2,r2,p2,z2⟩:=I.tuple (SqT.same h2 zh)
   cases r1
   obtain ⟨⟨cls,dd,data,sl⟩,ho,hc,n,hd⟩:=id p1
   obtain ⟨⟨cls2,dd2,data2,sl2⟩,ho2,hc2,n2,hd2⟩:=id p2
   simp only at hc hd hc2 hd2
   subst hc hd hc2 hd2
   exact concat_meets ⟨_,ho,rfl⟩ ⟨_,ho2,rfl⟩ noFill_tuple_add seq_tuple_add PySem.F.slot_tuple_add PySem.F.entry_tuple_add (PySem.F.args_tuple_add_2 _ _)
    (tuple_addW0 a b _ its2.toArray n n2 dd dd2 sl sl2 (by simp)) ⟨ho,ho2,⟨.ref b,H,I,rfl,k _ Z H (New.refl zh) (.tup h2 q2)⟩⟩
  refine ES pins s σ H _ _ v u Q I rx ry ⟨a,b,xs,ys,rfl,rfl,SqT.same h1 zh,SqT.same h2 zh,fun z=>h0 (by rw [<- q1.length,z]; rfl),by rw [q1.length,q2.length]; exact hl,fun z=>?_,fun z p hp=>?_⟩
  ·subst z
   cases q2
   rw [List.append_nil] at k
   exact k _ Z H (New.refl zh) (.tup h1 q1)
  ·have n:=New.add zh hp (.tup (xs++ys))
   exact k _ _ _ n (.tup (SqT.of aR) ((q1.append q2).same n.z))
theorem pK {d:D} (h:AU d=true):d.canLay0=true:=(Bool.and_eq_true_iff.mp h).1
theorem cG (hu:X.A.units+64<cLine):OpR X (compareOp .Eq) (rD X.K bo):=by
 intro pins s σ H x y v u Q I rx ry q
 obtain ⟨Z,a,b,d,zh,ra,rb,e,k⟩:=q
 by_cases hs:AU a=true/\AU b=true
 ·rw [bo,if_pos hs] at e
  cases e
  obtain ⟨as,r1⟩:=ra.reads I zh rx (pK hs.1)
  obtain ⟨bs,r2⟩:=rb.reads I zh ry (pK hs.2)
  exact eq_dataH r1 r2 hs.1 hs.2 hu ⟨.bl _,H,I,rfl,k _ Z H (New.refl zh) (.bl _)⟩
 ·rw [bo,if_neg hs] at e; cases e
theorem jA (hu:X.A.units+64<cLine):OpR X (compareOp .NotEq) (rD X.K neD):=by
 intro pins s σ H x y v u Q I rx ry q
 obtain ⟨Z,a,b,d,zh,ra,rb,e,k⟩:=q
 by_cases hs:AU a=true/\AU b=true
 ·rw [neD,if_pos hs] at e
  cases e
  obtain ⟨as,r1⟩:=ra.reads I zh rx (pK hs.1)
  obtain ⟨bs,r2⟩:=rb.reads I zh ry (pK hs.2)
  exact ne_dataH r1 r2 hs.1 hs.2 hu ⟨.bl _,H,I,rfl,k _ Z H (New.refl zh) (.bl _)⟩
 ·rw [neD,if_neg hs] at e; cases e
theorem Cy {K:Fg} {Z:Hp} {v:V} {d:D} (r:Rep K Z v d):decide (v=.non)=sU d:=by cases r <;> rfl
theorem Nj:OpR X (compareOp .Is) (rD X.K isD):=
 OpR.imp Iq fun x y H Q q=>by
  obtain ⟨Z,a,b,d,zh,ra,rb,e,k⟩:=q
  cases rb <;> simp [isD] at e
  subst e
  exact ⟨rfl,by rw [Cy ra]; exact k _ Z H (New.refl zh) (.bl _)⟩
theorem Jq:OpR X (compareOp .IsNot) (rD X.K sT):=
 OpR.imp EQ fun x y H Q q=>by
  obtain ⟨Z,a,b,d,zh,ra,rb,e,k⟩:=q
  cases rb <;> simp [sT] at e
  subst e
  exact ⟨rfl,by rw [Cy ra]; exact k _ Z H (New.refl zh) (.bl _)⟩
theorem Reps.at {K:Fg} {Z:Hp} {vs:List V} {ds:List D} {i:Int} {d:D} (r:Reps K Z vs ds) (h:iD ds i=some d):∃ v,iD vs i=some v/\Rep K Z v d:=by
 unfold iD at h ⊢
 rw [r.length]
 obtain ⟨j,e,h⟩:=bind_some h
 obtain ⟨v,q,rr⟩:=r.get h
 exact ⟨v,by rw [e]; exact q,rr⟩
theorem K3 {a b d:D} (h:ax a b=some d):(∃ xs,a=.list xs)\/∃ xs,a=.tuple xs:=by
 cases a with
 | list i=>exact .inl ⟨_,rfl⟩
 | tuple i=>exact .inr ⟨_,rfl⟩
 | _=>cases h
theorem GW {xs:List D} {b d:D} (h:ax (.list xs) b=some d):∃ i,b=.int i/\iD xs i=some d:=by
 cases b with
 | int i=>exact ⟨i,rfl,h⟩
 | _=>cases h
theorem ar:IxR X (rD X.K ax):=
 IxR.imp (ix_list.or Ja) fun x y H Q q=>by
  obtain ⟨Z,a,b,d,zh,ra,rb,e,k⟩:=q
  rcases K3 e with ⟨xs,rfl⟩ | ⟨xs,rfl⟩
  ·obtain ⟨i,rfl,e⟩:=GW e
   obtain ⟨a,vs,rfl,h1,q1⟩:=ra.lst_ex
   cases rb.int_eq
   obtain ⟨v,ev,rv⟩:=q1.at e
   exact .inl ⟨_,_,_,v,rfl,rfl,SqL.same h1 zh,ev,k v Z H (New.refl zh) rv⟩
  ·obtain ⟨i,rfl,e⟩:=GW (xs:=xs) (b:=b) (by cases b <;> exact e)
   obtain ⟨a,vs,rfl,h1,q1⟩:=ra.tup_ex
   cases rb.int_eq
   obtain ⟨v,ev,rv⟩:=q1.at e
   exact .inr ⟨_,_,_,v,rfl,rfl,SqT.same h1 zh,ev,k v Z H (New.refl zh) rv⟩
theorem eu:CallR X (.builtin "len") (AW X.K ck):=
 CallR.imp CZ fun xs H Q q=>by
  obtain ⟨Z,as,d,zh,ra,e,k⟩:=q
  cases ra with
  | nil=>cases e
  | cons r1 r2=>
   cases r2 with
   | cons _ _=>cases r1 <;> cases e
   | nil=>
    cases r1 with
    | lst h1 q1=>cases e; exact ⟨_,_,rfl,.inl ⟨_,SqL.same h1 zh,rfl⟩,k _ Z H (New.refl zh) (by rw [q1.length]; exact .int _)⟩
    | tup h1 q1=>cases e; exact ⟨_,_,rfl,.inr ⟨_,SqT.same h1 zh,rfl⟩,k _ Z H (New.refl zh) (by rw [q1.length]; exact .int _)⟩
    | _=>cases e
theorem vg {K:Fg} {Z:Hp} {xs:List V} {as:List D} {d:D} {g:List D->Option D} {h:Int->Int->Int} (hg:∀ as d,g as=some d->∃ i j,as=[.int i,.int j]/\d=.int (h i j)) (r:Reps K Z xs as) (e:g as=some d) :
  ∃ i j,xs=[.int i,.int j]/\d=.int (h i j):=by
 obtain ⟨i,j,rfl,rfl⟩:=hg _ _ e
 cases r with
 | cons r1 r2=>
  cases r2 with
  | cons r3 r4=>
   cases r4
   exact ⟨i,j,by rw [r1.int_eq,r3.int_eq],rfl⟩
theorem G3 (hc:X.calm=true):CallR X (.builtin "min") (AW X.K Ah):=
 CallR.imp (AE hc) fun xs H Q q=>by
  obtain ⟨Z,as,d,zh,ra,e,k⟩:=q
  obtain ⟨i,j,rfl,rfl⟩:=vg (h:=fun i j=>if j<i then j else i) (fun as d h=>by unfold Ah at h; split at h <;> cases h; exact ⟨_,_,rfl,rfl⟩) ra e
  exact ⟨i,j,rfl,k _ Z H (New.refl zh) (.int _)⟩
theorem G4 (hc:X.calm=true):CallR X (.builtin "max") (AW X.K xg):=
 CallR.imp (AF hc) fun xs H Q q=>by
  obtain ⟨Z,as,d,zh,ra,e,k⟩:=q
  obtain ⟨i,j,rfl,rfl⟩:=vg (h:=fun i j=>if j>i then j else i) (fun as d h=>by unfold xg at h; split at h <;> cases h; exact ⟨_,_,rfl,rfl⟩) ra e
  exact ⟨i,j,rfl,k _ Z H (New.refl zh) (.int _)⟩
theorem G5:CallR X (.type "int") (AW X.K An):=
 CallR.imp AG fun xs H Q q=>by
  obtain ⟨Z,as,d,zh,ra,e,k⟩:=q
  cases ra with
  | nil=>cases e
  | cons r1 r2=>
   cases r2 with
   | cons _ _=>cases r1 <;> cases e
   | nil=>
    cases r1 with
    | int i=>cases e; exact .inl ⟨_,rfl,k _ Z H (New.refl zh) (.int _)⟩
    | bl i=>cases e; exact .inr ⟨_,rfl,k _ Z H (New.refl zh) (.int _)⟩
    | _=>cases e
theorem e8:CallR X (.type "tuple") (AW X.K df):=
 CallR.imp r9 fun xs H Q q=>by
  obtain ⟨Z,as,d,zh,ra,e,k⟩:=q
  cases ra with
  | nil=>cases e
  | cons r1 r2=>
   cases r2 with
   | cons _ _=>cases r1 <;> cases e
   | nil=>
    cases r1 with
    | lst h1 q1=>cases e; exact ⟨_,_,rfl,.inl ⟨SqL.same h1 zh,fun l hl=>let n:=New.add zh hl (.tup _); k _ _ _ n (.tup (SqT.of aR) (q1.same n.z))⟩⟩
    | tup h1 q1=>cases e; exact ⟨_,_,rfl,.inr ⟨SqT.same h1 zh,k _ Z H (New.refl zh) (.tup h1 q1)⟩⟩
    | _=>cases e
theorem Fc:MtR X "int.bit_length" (fun x xs H Q=>∃ i,x=.int i/\xs=[]/\Q (.int (Builtin.Int.intBits i)) H):=by
 intro pins s σ H x xs v us Q I rx rs q
 obtain ⟨i,rfl,rfl,q⟩:=q
 obtain ⟨t,rfl⟩:=rx
 cases rs
 exact call_int_bit_length ⟨.int _,H,I.tok _,⟨_,rfl⟩,q⟩
theorem uK {apos:Pos} (ha:EV X a f) (hbase:attributeBase a "bit_length" X.env (eval a X.env)=eval a X.env:=by rfl) (hline:(apos.endLine==pos.line)=true:=by rfl):EV X (.Call (.Attribute a "bit_length" apos) [] [] pos) (o1 f nh):=
 PE.imp (Ig PySem.F.plainAttrs_int PySem.F.slot_int_bit_length PySem.F.type_int_bit_length Fc ha hbase hline) fun σ H Q h=>by
  obtain ⟨H₀,Z₀,Z,δ,d,hh,e,k⟩:=h
  obtain ⟨x,e1,e⟩:=bind_some e
  refine ⟨H₀,Z₀,Z,δ,x,hh,e1,fun v Z1 H1 hh1 s1 r1=>?_⟩
  cases r1 <;> simp [nh] at e
  subst e
  exact ⟨rfl,_,rfl,rfl,k _ Z1 H1 hh1 s1 (.int _)⟩
theorem IW (K:Fg) {t T:String} (ht:t = "NoneType" \/ t = "bool" \/ t = "int" \/ t = "str" \/ t = "list" \/ t = "tuple") (hT:T = "int" \/ T = "bool" \/ T = "str" \/ T = "list" \/ T = "tuple"):PySem.W.kitOne K (.type t) (.type T)=some (Jg t T):=by
 rcases ht with rfl | rfl | rfl | rfl | rfl | rfl <;> rcases hT with rfl | rfl | rfl | rfl | rfl <;> rfl
theorem Rep.ty {K:Fg} {Z H:Hp} {v:V} {d:D} (zh:Same Z H) (r:Rep K Z v d) (hD:¬yQ d=true):(tyN d = "NoneType" \/ tyN d = "bool" \/ tyN d = "int" \/ tyN d = "str" \/ tyN d = "list" \/ tyN d = "tuple"):=by
 cases r <;> simp [tyN]
 exact absurd rfl hD
theorem Jf {pins:List (Addr×Obj)} {σ:St} {H Z:Hp} {s:Shared} {x:V} {u:Value} {d:D} {T:String} {A:Around} {E:Value->Shared->Prop} {Q:Value->Shared->Prop} (I:Inv X pins σ H s) (zh:Same Z H) (rx:RelV x u) (r:Rep X.K Z x d) (hD:¬yQ d=true)
  (hT:T = "int" \/ T = "bool" \/ T = "str" \/ T = "list" \/ T = "tuple") (h:∀ tk,Q (.bool (Jg (tyN d) T)) { s with toks:=tk }):wpAny (model X.prog X.w) A (call (.builtin "isinstance") [u,.type T]) Q E s:=by
 have ko:=IW X.K (Rep.ty zh r hD) hT
 cases r with
 | non=>exact lB I rx (.non) ko h
 | bl b=>exact lB I rx (.bl b) ko h
 | int b=>exact lB I rx (.int b) ko h
 | str b=>exact lB I rx (.str b) ko h
 | @tup a xs ds h1 q1=>
  cases (show u=Value.ref a from rx)
  obtain ⟨its,_,p,_⟩:=I.tuple (SqT.same h1 zh)
  obtain ⟨o,h1,h2,_⟩:=p
  exact PySem.W.kia_one PySem.W.kitx_tuple I.kIn ⟨o,h1,h2⟩ ko (fun z=>nomatch z) h
 | @lst a xs ds h1 q1=>
  cases (show u=Value.ref a from rx)
  obtain ⟨its,_,p,_⟩:=I.list (SqL.same h1 zh)
  obtain ⟨o,n,h1,h2,_⟩:=p
  exact PySem.W.kia_one PySem.W.kitx_list I.kIn ⟨o,h1,h2⟩ ko (fun z=>nomatch z) h
 | opq h1=>exact absurd rfl hD
theorem Lq (T:String):CallR X (.builtin "isinstance") (fun xs H Q=>∃ x Z d r,xs=[x,.ty T]/\Same Z H/\Rep X.K Z x d/\gI T d=some r/\∃ b,r=.bool b/\Q (.bl b) H):=by
 intro pins s σ H xs us Q I rv h
 obtain ⟨x,Z,d,r,rfl,zh,rr,e,b,rfl,q⟩:=h
 obtain ⟨u,w',rfl,r1,r2⟩:=vd rv
 cases (show w'=Value.type T from r2)
 by_cases hD:yQ d=true
 ·rw [gI,if_pos hD] at e; cases e
 by_cases hT:T = "int" \/ T = "bool" \/ T = "str" \/ T = "list" \/ T = "tuple"
 ·rw [gI,if_neg hD,if_pos hT] at e
  cases e
  exact Jf I zh r1 rr hD hT fun tk=>⟨.bl _,H,I.tok _,rfl,q⟩
 ·rw [gI,if_neg hD,if_neg hT] at e; cases e
theorem kt {x:Str} {T:String} {p2:Pos} (hg:Gl X "isinstance") (hm:X.mg "isinstance" = none) (hgT:Gl X x) (hmT:X.mg x=none) (hvT:bootBuiltins x=some (.type T)) (hnT:x ≠ "__name__") (hdT:(x==("__debug__":Str))=false) (ha:EV X a f)
  (he:starEach (a::[.Name x p2]) X.env=(false,eval a X.env)::starEach [.Name x p2] X.env:=by rfl) (he2:starEach ((.Name x p2)::[]) X.env=(false,eval (.Name x p2) X.env)::starEach [] X.env:=by rfl) (hpl:(backTo pos (starEach [.Name x p2] X.env)).any (·.1)=false:=by rfl) :
  EV X (.Call (.Name "isinstance" p) [a,.Name x p2] [] pos) (o1 f (gI T)):=
 PE.imp (mS (Lq T) hg hm PyProof.Rows.boot_isinstance (gr ha (gr (yA (v:=.ty T) hgT hmT hvT rfl hnT hdT) lZ he2) he) (by decide) (by decide) he hpl) fun σ H Q h=>by
  obtain ⟨H₀,Z₀,Z,δ,d,hh,e,k⟩:=h
  obtain ⟨y,e1,e⟩:=bind_some e
  refine ⟨H₀,Z₀,Z,δ,y,hh,e1,fun v Z1 H1 hh1 s1 r1=>⟨v,Z1,y,d,rfl,hh1.zh,r1,e,?_⟩⟩
  have:∃ b,d=.bool b:=by
   unfold gI at e
   split at e
   ·cases e
   ·split at e
    ·cases e; exact ⟨_,rfl⟩
    ·cases e
  obtain ⟨b,rfl⟩:=this
  exact ⟨b,rfl,k _ Z1 H1 hh1 s1 (.bl b)⟩
end
end VL
set_option Elab.async false
set_option linter.all false
set_option maxRecDepth 100000
set_option maxHeartbeats 4000000
namespace VL
open PySem PySem.Spec PyProof.Rows L2
section
variable {X:Cx} {a b c e tg iter:Expr} {es:List Expr} {pos p:Pos} {f f1 f2 f3:Dv->Option D} {fs:Dv->Option (List D)} {ft fu:Dv->Option Bool} {st:Stmt} {sts body orelse:List Stmt} {s1 s2 s3:Sf}
theorem aw (he:EV X e f):SV X (.Return (some e) pos) (aH f):=
 PS.imp (ub he) fun D σ H h=>by
  obtain ⟨H₀,Z₀,Z,δ,r,hh,e,k⟩:=h
  obtain ⟨x,e1,e⟩:=bind_some e
  cases e
  exact ⟨H₀,Z₀,Z,δ,x,hh,e1,fun v Z1 H1 hh1 s1 r1=>k σ H1 Z1 hh1 s1 v r1⟩
theorem aA (i:Nat) {x:Str} {pos':Pos} (hN:X.N.Nodup) (he:EV X e f) (hi:X.N[i]? = some x:=by rfl) (hx:AZ X.env.scope x:=by first | exact Or.inl rfl | exact Or.inr rfl) (hs:swapsWith e (some (.Name x pos')) pos.line X.env=pure false:=by rfl)
  (hf:X.fn x=true\/X.env.scope.names.lookup x=some .local:=by first | exact .inl rfl | exact .inr rfl | assumption):SV X (.Assign [.Name x pos'] e pos) (aM i f):=
 PS.imp (ua hN hi hx he hs hf) fun D σ H h=>by
  obtain ⟨H₀,Z₀,Z,δ,r,hh,e,k⟩:=h
  obtain ⟨x,e1,e⟩:=bind_some e
  cases e
  exact ⟨H₀,Z₀,Z,δ,x,hh,e1,fun v Z1 H1 hh1 s1 r1=>k _ H1 Z1 (hh1.set r1) s1⟩
theorem pI (he:EV X e f) (hs:swapsWith e none pos.line X.env=pure false:=by rfl):SV X (.Expr e pos) (sG f):=
 PS.imp (pP he hs) fun D σ H h=>by
  obtain ⟨H₀,Z₀,Z,δ,r,hh,e,k⟩:=h
  obtain ⟨x,e1,e⟩:=bind_some e
  cases e
  exact ⟨H₀,Z₀,Z,δ,x,hh,e1,fun v Z1 H1 hh1 s1 r1=>k σ H1 Z1 hh1 s1⟩
theorem KC {D:Ends} {σ:St} {H:Hp} {K:Fg} (h:JG K gz D σ H):D.nx σ H:=by
 obtain ⟨H₀,Z₀,Z,δ,r,hh,e,k⟩:=h
 cases e
 exact k σ H Z hh (Same.refl _)
theorem aP:BV X [] gz:=PSs.imp yw fun D σ H h=>KC h
theorem aj (h1:SV X st s1) (h2:BV X sts s2):BV X (st::sts) (sSeq s1 s2):=
 PSs.imp (j6 h1 h2) fun D σ H h=>by
  obtain ⟨H₀,Z₀,Z,δ,r,hh,e,k⟩:=h
  obtain ⟨⟨fl,δ'⟩,e1,e⟩:=bind_some e
  refine ⟨H₀,Z₀,Z,δ,(fl,δ'),hh,e1,fun σ' H' Z' hh' s'=>?_⟩
  cases fl with
  | nx=>exact ⟨H₀,Z₀,Z',δ',r,hh',e,fun σ2 H2 Z2 hh2 s2=>by
    have:=k σ2 H2 Z2 hh2 (s'.trans s2)
    obtain ⟨fl,δ2⟩:=r
    cases fl <;> exact this⟩
  | bk=>cases e; exact k σ' H' Z' hh' s'
  | ct=>cases e; exact k σ' H' Z' hh' s'
  | rt d=>cases e; exact k σ' H' Z' hh' s'
theorem ap (h1:SV X st s1):BV X [st] s1:=t9 h1
theorem bb (hc:TV X c ft) (ha:BV X body s1) (hb:BV X orelse s2):SV X (.If c body orelse pos) (sIf ft s1 s2):=
 PS.imp (BI hc ha hb) fun D σ H h=>by
  obtain ⟨H₀,Z₀,Z,δ,r,hh,e,k⟩:=h
  obtain ⟨x,e1,e⟩:=bind_some e
  refine ⟨H₀,Z₀,Z,δ,x,hh,e1,fun Z1 H1 hh1 t1=>?_⟩
  cases x with
  | true=>exact ⟨H₀,Z₀,Z1,δ,r,hh1,e,fun σ2 H2 Z2 hh2 t2=>k σ2 H2 Z2 hh2 (t1.trans t2)⟩
  | false=>exact ⟨H₀,Z₀,Z1,δ,r,hh1,e,fun σ2 H2 Z2 hh2 t2=>k σ2 H2 Z2 hh2 (t1.trans t2)⟩
theorem Lg {K:Fg} (i:Nat) {D:Ends} {σ:St} {H:Hp} (h:JG K (fun δ=>s1 (pi i δ)) D σ H):JG K s1 D σ H:=by
 obtain ⟨H₀,Z₀,Z,δ,r,hh,e,k⟩:=h
 have e:s1 (pi i δ)=some r:=e
 unfold pi at e
 split at e
 ·rename_i ds q
  obtain ⟨Z1,t1,hh1⟩:=hh.frz q
  exact ⟨H₀,Z₀,Z1,_,r,hh1,e,fun σ2 H2 Z2 hh2 t2=>k σ2 H2 Z2 hh2 (t1.trans t2)⟩
 ·exact ⟨H₀,Z₀,Z,_,r,hh,e,k⟩
theorem mJ (i:Nat) (h:SV X st s1):SV X st (fun δ=>s1 (pi i δ)):=PS.imp h fun D σ H q=>Lg i q
noncomputable def On (K:Fg) (g:D->Dv->Option Dv):TG:=fun v σ H Q=>∃ H₀ Z₀ Z δ d δ',Hold K H₀ Z₀ Z δ σ H/\Rep K Z v d/\g d δ = some δ'/\∀ σ' H' Z',Hold K H₀ Z₀ Z' δ' σ' H'->Same Z Z'->Q σ' H'
noncomputable def GV (X:Cx) (tg:Expr) (g:D->Dv->Option Dv):Prop:=PG X tg (On X.K g)
theorem PG.imp {t t':TG} (h:PG X tg t) (i:∀ v σ H Q,t' v σ H Q->t v σ H Q):PG X tg t':=fun pins s σ H x v Q I r q=>h pins s σ H x v Q I r (i _ _ _ _ q)
theorem cY (i:Nat) {x:Str} (hN:X.N.Nodup) (hi:X.N[i]? = some x:=by rfl) (hx:AZ X.env.scope x:=by first | exact Or.inl rfl | exact Or.inr rfl)
  (hf:X.fn x=true\/X.env.scope.names.lookup x=some .local:=by first | exact .inl rfl | exact .inr rfl | assumption):GV X (.Name x pos) (gN i):=
 PG.imp (bW hN hi hx hf) fun v σ H Q h=>by
  obtain ⟨H₀,Z₀,Z,δ,d,δ',hh,r,e,k⟩:=h
  cases e
  exact k _ H Z (hh.set r) (Same.refl _)
structure ItOk (K:Fg) (Z:Hp) (J:It) (ds:List D):Prop where
 go:∀ (i:Nat) (H:Hp),Same Z H->i<ds.length->J.go i H
 yld:∀ (i:Nat) (H:Hp) x H' d,Same Z H->ds[i]? = some d->J.yld i H x H'->H'=H/\Rep K Z x d
 stop:∀ (i:Nat) (H:Hp),Same Z H->ds.length<=i->J.stop i H
noncomputable def LE (K:Fg) (f:Dv->Option (List D)):TI:=fun σ H R=>∃ H₀ Z₀ Z δ ds,Hold K H₀ Z₀ Z δ σ H/\f δ = some ds/\∀ J Z' H',Hold K H₀ Z₀ Z' δ σ H'->Same Z Z'->ItOk K Z' J ds->R J H'
noncomputable def IV (X:Cx) (tg iter:Expr) (f:Dv->Option (List D)):Prop:=PI X tg iter (LE X.K f)
theorem PI.imp {t t':TI} (h:PI X tg iter t) (i:∀ σ H R,t' σ H R->t σ H R):PI X tg iter t':=fun pins s σ H R I q=>h pins s σ H R I (i _ _ _ q)
theorem dY {g:D->Dv->Option Dv} (hp:PassesOwn (model X.prog X.w) X.A X.env X.xe) (hc:X.calm=true) (hi:IV X tg iter fs) (hg:GV X tg g) (hb:BV X body s1)
  (hs:∀ x,foldedSetIterable iter X.env x=pure x:=by intro _; rfl):SV X (.For tg iter body [] pos) (j3 fs g s1):=
 PS.imp (HW hp hc hi hg hb hs) fun D σ H h=>by
  obtain ⟨H₀,Z₀,Z,δ,r,hh,e,k⟩:=h
  obtain ⟨ds,e1,e⟩:=bind_some e
  refine ⟨H₀,Z₀,Z,δ,ds,hh,e1,fun J Z1 H1 hh1 t1 ok=>?_⟩
  refine ⟨fun i m σ H=>m=ds.length-i/\i<=ds.length/\∃ Zc δc,Hold X.K H₀ Z₀ Zc δc σ H/\Same Z1 Zc/\loop g s1 (ds.drop i) δc=some r,⟨ds.length,by simp,Nat.zero_le _,Z1,δ,hh1,Same.refl _,e⟩,?_⟩
  rintro i m σ2 H2 ⟨rfl,hi2,Zc,δc,hhc,tc,ec⟩
  have zh:Same Z1 H2:=tc.trans hhc.zh
  by_cases hlt:i<ds.length
  ·refine .inr ⟨ok.go i H2 zh hlt,fun σ3 H3=>∃ Zc δc,Hold X.K H₀ Z₀ Zc δc σ3 H3/\Same Z1 Zc/\loop g s1 (ds.drop (i+1)) δc=some r,fun σ3 H3 q=>⟨ds.length-(i+1),by omega,rfl,hlt,q⟩,fun x H3 y=>?_⟩
   have ed:ds[i]? = some ds[i]:=by simp [hlt]
   obtain ⟨rfl,rx⟩:=ok.yld i H2 x H3 _ zh ed y
   rw [List.drop_eq_getElem_cons hlt] at ec
   obtain ⟨δ1,g1,ec⟩:=bind_some ec
   obtain ⟨⟨fl,δ2⟩,g2,ec⟩:=bind_some ec
   refine ⟨H₀,Z₀,Zc,δc,_,δ1,hhc,rx.same tc,g1,fun σ4 H4 Z4 hh4 t4=>⟨H₀,Z₀,Z4,δ1,(fl,δ2),hh4,g2,fun σ5 H5 Z5 hh5 t5=>?_⟩⟩
   cases fl with
   | nx=>exact ⟨Z5,δ2,hh5,(tc.trans t4).trans t5,ec⟩
   | ct=>exact ⟨Z5,δ2,hh5,(tc.trans t4).trans t5,ec⟩
   | bk=>cases ec; exact k σ5 H5 Z5 hh5 (((t1.trans tc).trans t4).trans t5)
   | rt d=>cases ec; exact k σ5 H5 Z5 hh5 (((t1.trans tc).trans t4).trans t5)
  ·have e2:ds.drop i=[]:=List.drop_eq_nil_iff.mpr (by omega)
   rw [e2] at ec
   cases ec
   exact .inl ⟨ok.stop i H2 zh (by omega),k σ2 H2 Zc hhc (t1.trans tc)⟩
theorem Bk (n:Dv->Nat) (hp:PassesOwn (model X.prog X.w) X.A X.env X.xe) (hc:TV X c ft) (hb:BV X body s1):SV X (.While c body [] pos) (fun δ=>iH ft s1 (n δ) δ):=
 PS.imp (BH hp hc hb) fun D σ H h=>by
  obtain ⟨H₀,Z₀,Z,δ,r,hh,e,k⟩:=h
  refine ⟨fun m σ H=>∃ Zc δc,Hold X.K H₀ Z₀ Zc δc σ H/\Same Z Zc/\iH ft s1 m δc=some r,⟨n δ,Z,δ,hh,Same.refl _,e⟩,?_⟩
  rintro m σ2 H2 ⟨Zc,δc,hhc,tc,ec⟩
  cases m with
  | zero=>cases ec
  | succ m=>
   obtain ⟨cc,g1,ec⟩:=bind_some ec
   refine ⟨H₀,Z₀,Zc,δc,cc,hhc,g1,fun Z3 H3 hh3 t3=>?_⟩
   cases cc with
   | false=>cases ec; exact k σ2 H3 Z3 hh3 (tc.trans t3)
   | true=>
    obtain ⟨⟨fl,δ2⟩,g2,ec⟩:=bind_some ec
    refine ⟨fun σ4 H4=>∃ Zc δc,Hold X.K H₀ Z₀ Zc δc σ4 H4/\Same Z Zc/\iH ft s1 m δc=some r,fun σ4 H4 q=>⟨m,Nat.lt_succ_self m,q⟩,?_⟩
    refine ⟨H₀,Z₀,Z3,δc,(fl,δ2),hh3,g2,fun σ5 H5 Z5 hh5 t5=>?_⟩
    cases fl with
    | nx=>exact ⟨Z5,δ2,hh5,(tc.trans t3).trans t5,ec⟩
    | ct=>exact ⟨Z5,δ2,hh5,(tc.trans t3).trans t5,ec⟩
    | bk=>cases ec; exact k σ5 H5 Z5 hh5 ((tc.trans t3).trans t5)
    | rt d=>cases ec; exact k σ5 H5 Z5 hh5 ((tc.trans t3).trans t5)
theorem Cv {K:Fg} {Z:Hp} {lo:Int} {n:Nat}:ItOk K Z (JQ lo n) (oX lo n) where
 go:=fun i H _ h=>by simpa [oX,JQ] using h
 yld:=fun i H x H' d _ e y=>by
  obtain ⟨rfl,rfl⟩:=y
  refine ⟨rfl,?_⟩
  unfold oX at e
  rw [List.getElem?_map] at e
  cases q:(List.range n)[i]? with
  | none=>rw [q] at e; cases e
  | some k=>
   rw [q] at e
   cases e
   have:k=i:=by
    obtain ⟨h,h2⟩:=List.getElem?_eq_some_iff.mp q
    simpa using h2.symm
   subst this
   exact .int _
 stop:=fun i H _ h=>by simpa [oX,JQ] using h
theorem ce (hg:Gl X "range") (hm:X.mg "range" = none) (ha:AV X [a] fs) (hs:starEach [a] X.env=[(false,eval a X.env)]:=by rfl):IV X tg (.Call (.Name "range" p) [a] [] pos) (oL fs bQ):=
 PI.imp (zL hg hm ha hs) fun σ H R h=>by
  obtain ⟨H₀,Z₀,Z,δ,ds,hh,e,k⟩:=h
  obtain ⟨as,e1,e⟩:=bind_some e
  refine ⟨H₀,Z₀,Z,δ,as,hh,e1,fun vs Z1 H1 hh1 t1 r1=>?_⟩
  unfold bQ at e
  split at e
  ·rename_i j
   split at e
   ·rename_i hj
    cases e
    cases r1 with
    | cons q1 q2=>
     cases q2
     exact ⟨j,by rw [q1.int_eq],hj.2,hj.1,k _ Z1 H1 hh1 t1 Cv⟩
   ·cases e
  ·cases e
theorem FI (ha:EV X a f):IV X tg a (oI f vX):=
 PI.imp (EJ ha) fun σ H R h=>by
  obtain ⟨H₀,Z₀,Z,δ,ds,hh,e,k⟩:=h
  obtain ⟨y,e1,e⟩:=bind_some e
  refine ⟨H₀,Z₀,Z,δ,y,hh,e1,fun v Z1 H1 hh1 t1 r1=>?_⟩
  cases r1 with
  | @lst l xs ds' h1 q1=>
   cases e
   refine ⟨l,rfl,⟨xs,SqL.same h1 hh1.zh⟩,k _ Z1 H1 hh1 t1 ⟨fun i H2 z hi=>?_,fun i H2 x H3 d z ed y=>?_,fun i H2 z hi=>⟨xs,SqL.same h1 z,by rw [q1.length]; exact hi⟩⟩⟩
   ·have hi':i<xs.length:=by rw [q1.length]; exact hi
    exact ⟨xs,xs[i],SqL.same h1 z,by simp [hi']⟩
   ·obtain ⟨rfl,y⟩:=y
    obtain ⟨v,ev,rv⟩:=q1.get ed
    have:=y xs (SqL.same h1 z)
    rw [ev] at this
    cases this
    exact ⟨rfl,rv⟩
  | _=>cases e
theorem Jc (ha:EV X a f):IV X tg a (oI f Ma):=
 PI.imp (HZ ha) fun σ H R h=>by
  obtain ⟨H₀,Z₀,Z,δ,ds,hh,e,k⟩:=h
  obtain ⟨y,e1,e⟩:=bind_some e
  refine ⟨H₀,Z₀,Z,δ,y,hh,e1,fun v Z1 H1 hh1 t1 r1=>?_⟩
  cases r1 with
  | @tup l xs ds' h1 q1=>
   cases e
   refine ⟨l,rfl,⟨xs,SqT.same h1 hh1.zh⟩,k _ Z1 H1 hh1 t1 ⟨fun i H2 z hi=>?_,fun i H2 x H3 d z ed y=>?_,fun i H2 z hi=>⟨xs,SqT.same h1 z,by rw [q1.length]; exact hi⟩⟩⟩
   ·have hi':i<xs.length:=by rw [q1.length]; exact hi
    exact ⟨xs,xs[i],SqT.same h1 z,by simp [hi']⟩
   ·obtain ⟨rfl,y⟩:=y
    obtain ⟨v,ev,rv⟩:=q1.get ed
    have:=y xs (SqT.same h1 z)
    rw [ev] at this
    cases this
    exact ⟨rfl,rv⟩
  | _=>cases e
end
section
variable {X:Cx} {a b c tg:Expr} {ta:TA} {p pos:Pos} {fs:Dv->Option (List D)}
end
section
variable {X:Cx} {e:Expr} {lo hi:Option Expr} {p2 pos:Pos} {f:Dv->Option D}
noncomputable def Om (K:Fg) (f:Dv->Option (Option Int)):TO:=fun σ H Q=>∃ H₀ Z₀ Z δ d,Hold K H₀ Z₀ Z δ σ H/\f δ = some d/\∀ Z' H',Hold K H₀ Z₀ Z' δ σ H'->Same Z Z'->Q d H'
noncomputable def OV (X:Cx) (e:Option Expr) (f:Dv->Option (Option Int)):Prop:=PO X e (Om X.K f)
theorem PO.imp {eo:Option Expr} {t t':TO} (h:PO X eo t) (i:∀ σ H Q,t' σ H Q->t σ H Q):PO X eo t':=fun pins s σ H Q I q=>h pins s σ H Q I (i _ _ _ q)
theorem yD:OV X none KB:=PO.imp EH fun σ H Q h=>by
 obtain ⟨H₀,Z₀,Z,δ,d,hh,e,k⟩:=h
 cases e
 exact k Z H hh (Same.refl _)
theorem lm (h:EV X e f):OV X (some e) (oP f):=PO.imp (EG h) fun σ H Q h=>by
 obtain ⟨H₀,Z₀,Z,δ,d,hh,e,k⟩:=h
 obtain ⟨x,e1,e⟩:=bind_some e
 refine ⟨H₀,Z₀,Z,δ,x,hh,e1,fun v Z1 H1 hh1 t1 r1=>?_⟩
 cases r1 <;> simp [asI] at e
 subst e
 exact ⟨_,rfl,k Z1 H1 hh1 t1⟩
theorem Reps.cut {K:Fg} {Z:Hp} {vs:List V} {ds:List D} (r:Reps K Z vs ds) (lo hi:Option Int):Reps K Z (r8 vs lo hi) (pj ds lo hi):=by
 unfold r8 pj
 rw [r.length]
 exact (r.drop _).take _
theorem xw {ds:List D} {lo hi:Option Int} (h1:HT.sIx ds.length 0 lo=0) (h2:HT.sIx ds.length ds.length hi=ds.length):pj ds lo hi=ds:=by
 unfold pj
 rw [h1,h2]
 simp
section
variable {prog:Program} {w:World} {A:Around} {E:Value->Shared->Prop} {s:Shared}
theorem tT {t sl:Addr} {items:Array Value} {vl vu:Value} {lo hi:Option Int} {Q:Value->Shared->Prop} (ht:IsTup s.heap t items) (hs:s.heap.IsSliceOf sl vl vu .none) (pl:IsPart vl lo) (pu:IsPart vu hi)
  (h1:HT.sIx items.size 0 lo=0) (h2:HT.sIx items.size items.size hi=items.size) (h:Q (.ref t) s):wpAny (model prog w) A (getItem (.ref t) (.ref sl)) Q E s:=by
 obtain ⟨osl,hos,hcs,hds⟩:=id hs
 have ty:s.TypeIs (.ref sl) "slice":=⟨osl,hos,hcs⟩
 unfold getItem
 try with_reducible refine wpAny_holding ?_
 first | refine wpAny_bind (wpAny_pure ?_) | skip
 refine wpAny_bind (wpAny_sequenceKey ht.typeIs (by decide) ?_)
 refine wpAny_bind (wpAny_callSpecial?_slot (name:=Str.ofString "__getitem__") ht.typeIs PyProof.Rows.slot_tuple_getitem
  (wpAny_call_entry PyProof.Rows.slot_tuple_getitem ht.typeIs PyProof.Rows.entry_tuple_getitem ?_ (PyProof.Rows.args_tuple_getitem _ _)))
 show wpAny _ _ (Builtin.Tuple.tupleItemsOf (.ref t) >>= _) _ _ s
 refine wpAny_bind (tupleItemsOf_ ht ?_)
 refine wpAny_bind (wpAny_typeOf ty ?_)
 rw [if_pos (by decide)]
 refine wpAny_bind (HT.jl hs pl pu ?_)
 have yes:(((((HT.sIx items.size 0 lo:Nat):Int)==0)&&((1:Int)==1))&&((HT.sIx items.size items.size hi-HT.sIx items.size 0 lo)==items.size))=true:=by
  rw [h1,h2]; simp
 show wpAny _ _ (if (((((HT.sIx items.size 0 lo:Nat):Int)==0)&&((1:Int)==1))&&((HT.sIx items.size items.size hi-HT.sIx items.size 0 lo)==items.size))=true then _ else _) _ _ s
 rw [if_pos yes]
 unfold Builtin.Tuple.tupleIsExact
 refine wpAny_bind (wpAny_bind (wpAny_typeOf ht.typeIs (wpAny_pure ?_)))
 rw [if_pos (by decide)]
 exact wpAny_bind (wpAny_rule (wpAny_pure ⟨_,rfl,wpAny_pure h⟩))
end
noncomputable def ML (K:PySem.W.Frag):V->Option Int->Option Int->Hp->VK->Prop:=fun x lo hi H Q=>∃ a xs,x=.ref a/\SqT K H a xs/\HT.sIx xs.length 0 lo=0/\HT.sIx xs.length xs.length hi=xs.length/\Q (.ref a) H
theorem Et:SlR X (ML X.K):=by
 intro pins s σ H x v vl vu lo hi sl Q I rx hs pl pu h
 obtain ⟨a,xs,rfl,hx,w1,w2,q⟩:=h
 cases rx
 obtain ⟨its,r,ht,hz⟩:=I.tuple hx
 have hlen:its.toArray.size=xs.length:=by rw [List.size_toArray]; exact r.length.symm
 refine ⟨"tuple",_,PyProof.Rows.slot_tuple_getitem.lookup,ht.typeIs,?_⟩
 exact tT ht hs pl pu (by rw [hlen]; exact w1) (by rw [hlen]; exact w2) ⟨.ref a,H,I,rfl,q⟩
theorem m8 {fl fu:Dv->Option (Option Int)} (he:EV X e f) (hl:OV X lo fl) (hu:OV X hi fu):EV X (.Subscript e (.Slice lo hi none p2) pos) (E2 f fl fu):=
 PE.imp (BP (sl_list.or (sl_tup.or Et)) he hl hu) fun σ H Q h=>by
  obtain ⟨H₀,Z₀,Z,δ,d,hh,e,k⟩:=h
  obtain ⟨x,e1,e⟩:=bind_some e
  obtain ⟨i,e2,e⟩:=bind_some e
  obtain ⟨j,e3,e⟩:=bind_some e
  refine ⟨H₀,Z₀,Z,δ,x,hh,e1,fun v Z1 H1 hh1 t1 r1=>⟨H₀,Z₀,Z1,δ,i,hh1,e2,fun Z2 H2 hh2 t2=>⟨H₀,Z₀,Z2,δ,j,hh2,e3,fun Z3 H3 hh3 t3=>?_⟩⟩⟩
  have r3:=(r1.same t2).same t3
  have tt:=(t1.trans t2).trans t3
  cases r3 with
  | @lst a xs ds h1 q1=>
   cases e
   refine .inl ⟨_,_,rfl,SqL.same h1 hh3.zh,fun p hp=>?_⟩
   have n:=New.add hh3.zh hp (.lst (r8 xs i j))
   exact k _ _ _ (hh3.new n) (tt.trans n.z) (.lst (SqL.of aR) ((q1.cut i j).same n.z))
  | @tup a xs ds h1 q1=>
   simp only [Ev] at e
   cases e
   by_cases hw:HT.sIx ds.length 0 i=0/\HT.sIx ds.length ds.length j=ds.length
   ·refine .inr (.inr ⟨_,_,rfl,SqT.same h1 hh3.zh,by rw [q1.length]; exact hw.1,by rw [q1.length]; exact hw.2,?_⟩)
    refine k _ _ _ hh3 tt ?_
    rw [xw hw.1 hw.2]
    exact .tup h1 q1
   ·refine .inr (.inl ⟨_,_,rfl,SqT.same h1 hh3.zh,by rw [q1.length]; exact hw,fun p hp=>?_⟩)
    have n:=New.add hh3.zh hp (.tup (r8 xs i j))
    exact k _ _ _ (hh3.new n) (tt.trans n.z) (.tup (SqT.of aR) ((q1.cut i j).same n.z))
  | _=>cases e
end
structure FunV (K:PySem.W.Frag) (x qual:Str) (st:Stmt) (f:Addr) (fd:FuncData) (dV:Value):Prop where
 ex:∃ (oc:Value) (od:Option Addr) (kV doc pm:Value) (an:Option Addr) (cdv ct:Value) (osl:Array (Option Value)),
  fd=PySem.W.fnOf x qual (cA st) (bP st) (ah st) dV kV doc pm an cdv ct/\K.lookup f=some ⟨oc,od,.func fd,osl⟩/\PySem.W.codeIn K cdv qual=true
 kp:PySem.W.keepIn K (.ref f)=true
section
variable {P:Program} {w:World} {K:PySem.W.Frag} {mg:Str->Option Value} {base:Heap}
theorem zB {N:List Str} {vs:List V} {as:List D} {Z:Hp} (r:Reps K Z vs as):∀ (i:Nat) d,(av N as)[i]? = some (.fz d)->∃ v,(start N vs)[i]? = some (some v)/\Rep K Z v d:=by
 intro i d e
 unfold av at e
 unfold L2.start
 by_cases hi:i<as.length
 ·rw [List.getElem?_append_left (by simpa using hi),List.getElem?_map] at e
  cases q:as[i]? with
  | none=>rw [q] at e; cases e
  | some d'=>
   rw [q] at e
   cases e
   obtain ⟨v,ev,rv⟩:=r.get q
   exact ⟨v,by rw [List.getElem?_append_left (by simpa [r.length] using hi),List.getElem?_map,ev]; rfl,rv⟩
 ·rw [List.getElem?_append_right (by simpa using hi),List.getElem?_replicate] at e
  split at e <;> cases e
theorem sF {N:List Str} {as:List D}:∀ (i:Nat) ds,(av N as)[i]? ≠ some (.own ds):=by
 intro i ds e
 unfold av at e
 by_cases hi:i<as.length
 ·rw [List.getElem?_append_left (by simpa using hi),List.getElem?_map] at e
  cases q:as[i]? with
  | none=>rw [q] at e; cases e
  | some d'=>rw [q] at e; cases e
 ·rw [List.getElem?_append_right (by simpa using hi),List.getElem?_replicate] at e
  split at e <;> cases e
theorem Bm {N:List Str} {as:List D}:∀ (i:Nat) ds,(av N as)[i]? ≠ some (.fr ds):=by
 intro i ds e
 unfold av at e
 by_cases hi:i<as.length
 ·rw [List.getElem?_append_left (by simpa using hi),List.getElem?_map] at e
  cases q:as[i]? with
  | none=>rw [q] at e; cases e
  | some d'=>rw [q] at e; cases e
 ·rw [List.getElem?_append_right (by simpa using hi),List.getElem?_replicate] at e
  split at e <;> cases e
theorem mn {N:List Str} {vs:List V} {as:List D} {Z H:Hp} (zh:Same Z H) (r:Reps K Z vs as):Hold K H Z Z (av N as) (start N vs) H:=
 ⟨zh,Same.refl _,Same.refl _,fun _ _=>rfl,by simp [av,L2.start,r.length],zB r,fun i ds e=>absurd e (sF i ds),fun i j ds es a _ e=>absurd e (sF i ds),fun i ds e=>absurd e (Bm i ds)⟩
theorem Ng {x qual:Str} {st:Stmt} {f:Addr} {fd:FuncData} {dV:Value} {N ps:List Str} {k:Nat} {g:List D->Option D} {b:Sf} (F:FunV K x qual st f fd dV) (S:FnScope N ps (ah st)) (len:∀ as d,g as=some d->as.length=ps.length)
  (hb:∀ (cdv:Value) (A:Around) (outer:List Env) (s:Shared) (H:Hp) (E:XK),Room k (A.deeper (envOfC qual (ah st) s.heap.objs.size f cdv))->BV (iE cN P w K mg base N qual (ah st) f cdv A outer s H E).nox (bP st) b)
  (hg:∀ as d,g as=some d->∃ δ',b (av N as)=some (.rt d,δ')\/(d=.none/\b (av N as)=some (.nx,δ'))):FnOk P w K mg base cN (k+1) f fd ps (dk K g):=by
 obtain ⟨oc,od,kV,doc,pm,an,cdv,ct,osl,rfl,lk,hcd⟩:=F.ex
 refine yU lk hcd S (fun vs H Q E h=>?_) fun A outer s H vs Q E hr hsp=>?_
 ·obtain ⟨Z,as,d,zh,r,e,_⟩:=h
  rw [r.length]
  exact len as d e
 ·refine ⟨_,PSs.nox (hb cdv A outer s H E hr),?_⟩
  obtain ⟨Z,as,d,zh,r,e,kk⟩:=hsp
  have hh:=mn (N:=N) zh r
  have fin:∀ {σ':St} {H' Z':Hp} {δ':Dv},Hold K H Z Z' δ' σ' H'->Same Z Z'->New Z H Z' H':=fun h' z'=>⟨z',h'.h0,h'.zh,h'.zb⟩
  obtain ⟨δ',e2 | ⟨rfl,e2⟩⟩:=hg as d e
  ·exact ⟨H,Z,Z,_,_,hh,e2,fun σ' H' Z' h' z' v rv=>kk v Z' H' (fin h' z') rv⟩
  ·exact ⟨H,Z,Z,_,_,hh,e2,fun σ' H' Z' h' z'=>kk _ Z' H' (fin h' z') .non⟩
theorem FunV.binds {x qual:Str} {st:Stmt} {f:Addr} {fd:FuncData} {ps:List Str} (F:FunV K x qual st f fd .none)
  (h:∀ (kV doc pm:Value) (an:Option Addr) (cdv ct:Value) (us:List Value),us.length=ps.length->bindArgs (PySem.W.fnOf x qual (cA st) (bP st) (ah st) .none kV doc pm an cdv ct) ⟨us,[]⟩=pure (ps.zip us)):Binds K fd ps []:=by
 obtain ⟨oc,od,kV,doc,pm,an,cdv,ct,osl,rfl,lk,hcd⟩:=F.ex
 exact .all (h kV doc pm an cdv ct)
theorem FunV.bindsD {x qual:Str} {st:Stmt} {f T:Addr} {fd:FuncData} {ps:List Str} {o:Obj} {items:Array Value} {n:Nat} {ds:List Value} (F:FunV K x qual st f fd (.ref T)) (ho:K.lookup T=some o) (hs:o.data=.seq items n) (nu:Nat) (hn:nu+ds.length=ps.length)
  (h:∀ (kV doc pm:Value) (an:Option Addr) (cdv ct:Value) (us:List Value),us.length=nu->∃ kk,bindArgs (PySem.W.fnOf x qual (cA st) (bP st) (ah st) (.ref T) kV doc pm an cdv ct) ⟨us,[]⟩=seqItems? (.ref T) >>= kk/\kk (some items)=pure (ps.zip (us++ds))):Binds K fd ps ds:=by
 obtain ⟨oc,od,kV,doc,pm,an,cdv,ct,osl,rfl,lk,hcd⟩:=F.ex
 intro s us KX hl
 obtain ⟨kk,h1,h2⟩:=h kV doc pm an cdv ct us (by rw [List.length_append] at hl; omega)
 exact BindsTo.of_defaults rfl (KX _ _ ho) hs h1 h2
theorem g7 {x qual:Str} {st:Stmt} {f:Addr} {dV oc:Value} {od an:Option Addr} {osl:Array (Option Value)} {kV doc pm cdv ct:Value} (l:K.lookup f=some ⟨oc,od,.func (PySem.W.fnOf x qual (cA st) (bP st) (ah st) dV kV doc pm an cdv ct),osl⟩)
  (c:PySem.W.codeIn K cdv qual=true) (k:PySem.W.keepIn K (.ref f)=true):FunV K x qual st f (PySem.W.fnOf x qual (cA st) (bP st) (ah st) dV kV doc pm an cdv ct) dV:=⟨⟨oc,od,kV,doc,pm,an,cdv,ct,osl,rfl,l,c⟩,k⟩
noncomputable def yn (K:PySem.W.Frag):Sp:=fun vs H Q _=>∃ (a:Addr) (ns:List Int),vs=[.ref a]/\SqL K H a (ns.map V.int)/\ns.length<=63/\∀ H',Q (.bl true) H'
theorem KZ {g:List D->Option D} {k:Nat} {f:Addr} {fd:FuncData} (F:FnOk P w K mg base cN k f fd ["script"] (dk K g)) (hg:∀ ns:List Int,ns.length<=63->g [.list (ns.map .int)]=some (.bool true)):FnOk P w K mg base cN k f fd ["script"] (yn K):=
 F.imp fun vs H Q E h=>by
  obtain ⟨a,ns,rfl,hS,hl,q⟩:=h
  exact ⟨H,[.list (ns.map .int)],.bool true,Same.refl _,.cons (.lst hS (Reps.ints ns)) .nil,hg ns hl,fun v Z' H' _ r=>by cases r; exact q H'⟩
end
theorem JV {k:Nat} {l:PySem.W.OpenLaw} {q:Program} {loose:List Str} {XP:(Str->Option Value)->Heap->Prop} {YP:World->Heap->Prop} {d:DefRec} {K:Params->PySem.W.Frag} (hn:l.most=some 63) (hr:Room k callerA) (hdf:d.params.defaults=[])
  (hY:∀ (w:World) (h:Heap),YP w h->(K w.params).In h)
  (F:∀ (w:World) (mg:Str->Option Value) (fa:Addr) (h:Heap),(K w.params).In h->h.Ns mainGlobals mg->mg d.name=some (.ref fa) ->
   ∃ fd:FuncData,(∀ (s:Shared) (u:Value),BindsTo s fd ⟨[u],[]⟩ [("script",u)])/\∀ base:Heap,(K w.params).In base->base.Ns mainGlobals mg->FnOk l.prog w (K w.params) mg base cN k fa fd ["script"] (yn (K w.params))) :
  PySem.W.WalkO q loose XP YP l.row.toRowW d [] (fun f vs=>PySem.call f vs):=
 L2.DU (n:=63) (k:=k) (x:="script") (CX:=fun _=>cN) (sp:=fun w=>yn (K w.params)) hn (by decide) hdf hr hY F (fun _ _ a ns hl _ hS=>⟨a,ns,rfl,hS,hl,fun _=>rfl⟩) fun _ _ _ _ _ z=>z
section
variable {P:Program} {w:World} {K:PySem.W.Frag} {mg:Str->Option Value} {base:Heap}
theorem bO {x qual:Str} {st:Stmt} {f:Addr} {fd:FuncData} {dV:Value} {N ps:List Str} {k:Nat} {b:Sf} (F:FunV K x qual st f fd dV) (S:FnScope N ps (ah st))
  (hb:∀ (cdv:Value) (A:Around) (outer:List Env) (s:Shared) (H:Hp) (E:XK),Room k (A.deeper (envOfC qual (ah st) s.heap.objs.size f cdv))->BV (iE cN P w K mg base N qual (ah st) f cdv A outer s H E).nox (bP st) b) :
  FnOk P w K mg base cN (k+1) f fd ps (dk K (runB N ps.length b)):=by
 refine Ng F S (fun as d h=>?_) hb fun as d h=>?_
 ·unfold runB at h
  split at h
  ·assumption
  ·cases h
 ·unfold runB at h
  split at h
  ·obtain ⟨⟨fl,δ'⟩,e,h⟩:=bind_some h
   cases fl with
   | nx=>cases h; exact ⟨δ',.inr ⟨rfl,e⟩⟩
   | rt d=>cases h; exact ⟨δ',.inl e⟩
   | bk=>cases h
   | ct=>cases h
  ·cases h
structure Cal (P:Program) (w:World) (K:PySem.W.Frag) (mg:Str->Option Value) (base:Heap) (x:Str) (k:Nat) (g:List D->Option D) (dd:List D):Prop where
 ex:∃ (fa:Addr) (fd:FuncData) (ps:List Str) (ds:List Value) (dv:List V),FnOk P w K mg base cN k fa fd ps (dk K g)/\mg x=some (.ref fa)/\PySem.W.keepIn K (.ref fa)=true/\Binds K fd ps ds/\Vals dv ds/\∀ Z,Reps K Z dv dd
theorem Cal.mk0 {x:Str} {k:Nat} {g:List D->Option D} {fa:Addr} {fd:FuncData} {ps:List Str} (F:FnOk P w K mg base cN k fa fd ps (dk K g)) (hm:mg x=some (.ref fa)) (hk:PySem.W.keepIn K (.ref fa)=true) (hb:Binds K fd ps []):Cal P w K mg base x k g []:=
 ⟨⟨fa,fd,ps,[],[],F,hm,hk,hb,.nil,fun _=>.nil⟩⟩
end
section
variable {X:Cx} {e:Expr} {es:List Expr} {p pos:Pos} {fs:Dv->Option (List D)}
theorem xu {k:Nat} {x:Str} {g:List D->Option D} {dd:List D} (C:Cal X.prog X.w X.K X.mg X.base x k g dd) (hr:Room k X.A) (hg:Gl X x) (ha:AV X (e::es) fs) (hdb:(x==("__debug__":Str))=false:=by decide) (he:starEach (e::es) X.env=(false,eval e X.env)::starEach es X.env:=by rfl)
  (hpl:(backTo pos (starEach es X.env)).any (·.1)=false:=by rfl):EV X (.Call (.Name x p) (e::es) [] pos) (os fs fun as=>g (as++dd)):=by
 obtain ⟨fa,fd,ps,ds,dv,F,hm,hk,hb,hd,hdd⟩:=C.ex
 exact FV F hr hg hm hk hb hd hdd BT ha hdb he hpl
variable {tg a:Expr} {f:Dv->Option D}
theorem cV (ha:EV X a f):IV X tg a (oI f eQ):=by
 intro pins s σ H R I h
 obtain ⟨H₀,Z₀,Z,δ,ds,hh,e,k⟩:=h
 obtain ⟨y,e1,e⟩:=bind_some e
 cases y with
 | list xs=>exact FI ha pins s σ H R I ⟨H₀,Z₀,Z,δ,ds,hh,by unfold oI; rw [e1]; exact e,k⟩
 | tuple xs=>exact Jc ha pins s σ H R I ⟨H₀,Z₀,Z,δ,ds,hh,by unfold oI; rw [e1]; exact e,k⟩
 | _=>cases e
end
end VL
set_option Elab.async false
set_option linter.all false
set_option maxRecDepth 100000
set_option maxHeartbeats 4000000
namespace VL
open PySem PySem.Spec PyProof.Rows L2
noncomputable def mt (env:Env):List (Str×NameKind)->List (Str×Addr)->List (Str×Addr)
 | [],cs=>cs
 | (n,k)::r,cs=>if k == .free then mt env r ((n,(env.cells.lookup n).getD 0)::cs) else mt env r cs
theorem qN {env:Env}:∀ (l:List (Str×NameKind)) (cs:List (Str×Addr)),(∀ y∈l,y.2=.free->∃ c,env.cells.lookup y.1=some c) ->
  (forIn l cs fun (x:Str×NameKind) (r:List (Str×Addr))=>(if (x.2==NameKind.free)=true then do let c <- cellOf env x.1; pure (ForInStep.yield ((x.1,c)::r)) else pure (ForInStep.yield r):Sem (ForInStep (List (Str×Addr)))))=pure (mt env l cs)
 | [],cs,_=>rfl
 | (n,k)::r,cs,h=>by
  have ih:=fun cs'=>qN r cs' fun y hy=>h y (List.mem_cons_of_mem _ hy)
  rw [List.forIn_cons]
  cases hk:k==NameKind.free with
  | true=>
   have hk':k=.free:=by simpa using hk
   obtain ⟨c,ec⟩:=h (n,k) List.mem_cons_self hk'
   have e1:cellOf env n=pure c:=by unfold cellOf; rw [ec]
   simp only [hk,if_true,e1,pure_bind,mt,ec,Option.getD_some]
   exact ih _
  | false=>
   simp only [hk,Bool.false_eq_true,if_false,pure_bind,mt]
   exact ih _
theorem jb {scope:Scope} {env:Env} (h:∀ y∈scope.names,y.2=.free->∃ c,env.cells.lookup y.1=some c):closureFor scope env=pure (mt env scope.names []):=by
 simp only [closureFor]
 have:=qN (env:=env) scope.names [] h
 first
  | (rw [this]; rfl)
  | (simp only [this]; rfl)
  | (unfold closureFor; simp_all)
theorem cP {env:Env}:∀ (l:List (Str×NameKind)) (cs:List (Str×Addr)) (y:Str) (c:Addr),(∀ z∈l,z.2=.free->∃ c,env.cells.lookup z.1=some c)->(mt env l cs).lookup y=some c->cs.lookup y=some c\/env.cells.lookup y=some c
 | [],cs,y,c,_,e=>.inl e
 | (n,k)::r,cs,y,c,h,e=>by
  unfold mt at e
  have hr:=fun z hz=>h z (List.mem_cons_of_mem _ hz)
  split at e
  ·rename_i hk
   rcases cP r _ y c hr e with q | q
   ·rw [List.lookup_cons] at q
    cases hy:y==n with
    | true=>
     have hy':y=n:=by simpa using hy
     subst hy'
     rw [hy] at q
     obtain ⟨c',ec⟩:=h (y,k) List.mem_cons_self (by simpa using hk)
     simp only [ec,Option.getD_some] at q
     cases q
     exact .inr ec
    | false=>rw [hy] at q; exact .inl q
   ·exact .inr q
  ·exact cP r cs y c hr e
theorem na {env:Env}:∀ (l:List (Str×NameKind)) (cs:List (Str×Addr)) (y:Str),((y,NameKind.free)∈l\/(cs.lookup y).isSome=true)->((mt env l cs).lookup y).isSome=true
 | [],cs,y,h=>by
  rcases h with h | h
  ·cases h
  ·exact h
 | (n,k)::r,cs,y,h=>by
  unfold mt
  split
  ·rename_i hk
   refine na r _ y ?_
   rcases h with h | h
   ·rcases List.mem_cons.mp h with e | e
    ·cases e; exact .inr (by simp [List.lookup_cons])
    ·exact .inl e
   ·refine .inr ?_
    rw [List.lookup_cons]
    cases hy:y==n with
    | true=>rfl
    | false=>exact h
  ·rename_i hk
   refine na r cs y ?_
   rcases h with h | h
   ·rcases List.mem_cons.mp h with e | e
    ·cases e; exact absurd rfl hk
    ·exact .inl e
   ·exact .inr h
theorem ig {env:Env} {y:Str}:∀ (l:List (Str×NameKind)),(∀ z∈l,z.2≠.cell) ->
  (((l.map fun (n,k)=>if (k==NameKind.free&&env.scope.kind == .function&&env.kindOf n==some .cell) then (n,NameKind.cell) else (n,k)).lookup y=some .cell\/(l.map fun (n,k)=>if (k==NameKind.free&&env.scope.kind == .function&&env.kindOf n==some .cell) then (n,NameKind.cell) else (n,k)).lookup y=some .free)↔l.lookup y=some .free)
 | [],_=>by simp
 | (n,k)::r,h=>by
  have ih:=ig (env:=env) (y:=y) r fun z hz=>h z (List.mem_cons_of_mem _ hz)
  have hk:k≠.cell:=h (n,k) List.mem_cons_self
  rw [List.map_cons]
  cases hy:y==n with
  | true=>
   by_cases hc:(k==NameKind.free&&env.scope.kind == .function&&env.kindOf n==some .cell)=true
   ·have hf:k=.free:=by
     simp only [Bool.and_eq_true] at hc
     simpa using hc.1.1
    simp only [if_pos hc,List.lookup_cons,hy]
    simp [hf]
   ·simp only [if_neg hc,List.lookup_cons,hy]
    simp [hk]
  | false=>
   by_cases hc:(k==NameKind.free&&env.scope.kind == .function&&env.kindOf n==some .cell)=true
   ·simp only [if_pos hc,List.lookup_cons,hy]; exact ih
   ·simp only [if_neg hc,List.lookup_cons,hy]; exact ih
noncomputable def blk (X:Cx) (scope:Scope) (N:List Str) (C:Addr) (s₀:Shared) (H₀:Hp) (ex:List Addr):Cx:=
 { X with N:=N,s₀:=s₀,H₀:=H₀,env:=compEnvC scope (mt X.env scope.names []) C X.env,outer:=X.stack,stack:=X.stack,ex:=ex,fn:=fun _=>false,pn:=[],xe:=fun _ _=>False }
structure BlkOk (on:List (Str×NameKind)) (ON:List Str) (scope:Scope) (vars:List Str) (caps:List (Nat×Str)):Prop where
 kind:scope.kind=.function
 cell:∀ y∈scope.names,y.2≠.cell
 names:∀ y∈scope.names,y.2=.local->scope.names.lookup y.1=some .local
 free:∀ y∈scope.names,y.2=.free->on.lookup y.1=some .cell\/on.lookup y.1=some .free
 cap:∀ p∈caps,ON[p.1]? = some p.2/\scope.names.lookup p.2=some .free
section
variable {X:Cx} {pins:List (Addr×Obj)} {σ:St} {H H':Hp} {s s':Shared} {scope:Scope} {vars:List Str} {caps:List (Nat×Str)} {fp:List Addr} {C:Addr}
noncomputable def iF (σ:St) (caps:List (Nat×Str)):St:=caps.map fun p=>(σ[p.1]?).getD none
theorem BlkOk.cells (B:BlkOk X.env.scope.names X.N scope vars caps) (I:Inv X pins σ H s):∀ y∈scope.names,y.2=.free->∃ c,X.env.cells.lookup y.1=some c:=fun y hy e=>I.ok.has y.1 (B.free y hy e)
theorem xD (B:BlkOk X.env.scope.names X.N scope vars caps) (I:Inv X pins σ H s) (hf:∀ b∈fp,lJ X pins H b) (hlt:∀ b∈fp,b<s.heap.objs.size) (hC:s.heap.objs.size<=C):(blk X scope (vars++caps.map (·.2)) C s H fp).Ok where
 mod:=I.ok.mod
 kind:=B.kind
 glob:=I.ok.glob
 blt:=I.ok.blt
 above:=hC
 inj:=fun x y c e1 e2=>by
  rcases cP _ _ _ _ (B.cells I) e1 with q1 | q1
  ·cases q1
  ·rcases cP _ _ _ _ (B.cells I) e2 with q2 | q2
   ·cases q2
   ·exact I.ok.inj x y c q1 q2
 has:=fun x e=>by
  have:scope.names.lookup x=some .free:=(ig scope.names B.cell).mp e
  have:=na (env:=X.env) scope.names [] x (.inl (PySem.mem_of_lookup this))
  exact Option.isSome_iff_exists.mp this
 cab:=fun x c e=>nomatch e
 hd:=I.ok.hd
 frames:=I.ok.frames
 stk:=.inl rfl
 exf:=fun b hb=>⟨Nat.ne_of_lt (Nat.lt_of_lt_of_le (hlt b hb) hC),fun x c e=>by
  rcases cP _ _ _ _ (B.cells I) e with q | q
  ·cases q
  ·exact (hf b hb).2.2.2.2.1 x c q⟩
 bs:=I.bs
 bsz:=Nat.le_trans I.ok.bsz I.sz
 noex:=fun b o e hb=>by
  rcases (hf b hb).2.2.2.1 with z | z
  ·exact I.ok.noex b o e z
  ·exact absurd (Nat.lt_of_lt_of_le (Heap.lt_size e) (Nat.le_trans I.ok.bsz z)) (Nat.lt_irrefl _)
 exfs:=fun b hb z=>by
  rcases List.mem_cons.mp (I.stkSub b z) with q | q
  ·exact (hf b hb).2.1 q
  ·exact (hf b hb).2.2.1 q
 funs:=I.stack
 frf:=I.stkFree
theorem za (B:BlkOk X.env.scope.names X.N scope vars caps) (I:Inv X pins σ H s) (hf:∀ b∈fp,lJ X pins H b) (hlt:∀ b∈fp,b<s.heap.objs.size) (hC:s.heap.objs.size<=C) {h₁:Heap} {m:Str->Option Value} {tk:Nat} (hns:h₁.Ns C m) (old:∀ b o,s.heap.get? b=some o->h₁.get? b=some o) :
  Inv (blk X scope (vars++caps.map (·.2)) C s H fp) [] (vars.map (fun _=>none)++iF σ caps) H { s with heap:=h₁,toks:=tk }:=by
 refine ⟨xD B I hf hlt hC,rfl,I.bare,Un.kept old,⟨m,hns,fun i x v e1 e2 e3=>?_⟩,fun x c e=>?_,I.hok.fresh hC,fun x c e=>?_,fun p hp=>absurd (show p∈([]:List (Addr×Obj)) from hp) (by simp),I.hok.kept old,?_⟩
 ·have e1:(vars++caps.map (·.2))[i]? = some x:=e1
  by_cases hi:i<vars.length
  ·rw [List.getElem?_append_left (by simpa using hi),List.getElem?_map] at e2
   cases q:vars[i]? <;> rw [q] at e2 <;> cases e2
  ·rw [List.getElem?_append_right (by simpa using hi)] at e1 e2
   simp only [List.length_map] at e2
   unfold iF at e2
   rw [List.getElem?_map] at e1 e2
   cases q:caps[i-vars.length]? with
   | none=>rw [q] at e1; cases e1
   | some p=>
    rw [q] at e1 e2
    cases e1
    have hp:=List.mem_of_getElem? q
    obtain ⟨g1,g2⟩:=B.cap p hp
    have gf:X.env.scope.names.lookup p.2=some .cell\/X.env.scope.names.lookup p.2=some .free:=B.free (p.2,.free) (PySem.mem_of_lookup g2) rfl
    have ev:σ[p.1]? = some (some v):=by
     have e2:(σ[p.1]?).getD none=some v:=Option.some.inj e2
     cases z:σ[p.1]? with
     | none=>rw [z] at e2; cases e2
     | some w=>rw [z] at e2; rw [show w=some v from e2]
    obtain ⟨m',_,hl⟩:=I.loc
    obtain ⟨u,r,l⟩:=hl p.1 p.2 v g1 ev (gf.elim (fun z=>.inr (.inl z)) fun z=>.inr (.inr z))
    refine ⟨u,r,.inr ⟨?_,?_⟩⟩
    ·exact (ig scope.names B.cell).mpr g2
    ·rcases l with ⟨z,_⟩ | ⟨_,c,ec,hc⟩
     ·have z:X.env.scope.names.lookup p.2=some .local:=z
      rcases gf with w | w <;> rw [z] at w <;> cases w
     ·obtain ⟨c',q'⟩:=Option.isSome_iff_exists.mp (na (env:=X.env) scope.names [] p.2 (.inl (PySem.mem_of_lookup g2)))
      rcases cP _ _ _ _ (B.cells I) q' with w | w
      ·cases w
      ·rw [ec] at w
       cases w
       obtain ⟨o,ho,hd⟩:=hc
       exact ⟨c,q',o,old c o ho,hd⟩
 ·rcases cP _ _ _ _ (B.cells I) e with q | q
  ·cases q
  ·obtain ⟨v,o,ho,hd⟩:=I.cell x c q
   exact ⟨v,o,old c o ho,hd⟩
 ·rcases cP _ _ _ _ (B.cells I) e with q | q
  ·cases q
  ·exact I.freeC x c q
 ·simp [blk,iF]
theorem y9 (I:Inv X pins σ H s) (hf:∀ b∈fp,lJ X pins H b) {D:Addr} {s':Shared} {σ':St} {N:List Str} {ys:List V} {its:List Value} (hC:s.heap.objs.size<=C) (hD:s.heap.objs.size<=D) (hDC:D≠C)
  (J:Inv (blk X scope N C s H fp) [] σ' H' s') (hD':H' D=none) (hp:s'.heap.PlainList D its.toArray) (hv:Vals ys its) (hz:ys.length<=sizeLine) {h':Heap} (hs:Heap.SameBut C s'.heap h') :
  Inv X pins σ (eA H' D (.lst ys)) { s' with heap:=h' }:=by
 have U:Un (kn X.stack) fp H H' s.heap s'.heap:=J.base
 have neC:∀ b o,s.heap.get? b=some o->b≠C:=fun b o e=>Nat.ne_of_lt (Nat.lt_of_lt_of_le (Heap.lt_size e) hC)
 have neD:∀ b o,s.heap.get? b=some o->b≠D:=fun b o e=>Nat.ne_of_lt (Nat.lt_of_lt_of_le (Heap.lt_size e) hD)
 have mv:∀ b o,b≠C->s'.heap.get? b=some o->h'.get? b=some o:=fun b o hb e=>hs.extBut b o hb e
 have tD:∀ b o,H' b=some o->(eA H' D (.lst ys)) b=some o:=fun b o e=>by rw [aI (bg e hD')]; exact e
 refine I.call' (s':={ s' with heap:=h' }) (ch:=fp) J.os ⟨fun b o e n h1 h2=>mv b o (neC b o e) (U.keep b o e n h1 h2),fun b o e n h1 h2=>?_,fun b o e n h2=>?_,fun b o e h2=>?_,fun b xs e=>tD _ _ (U.tups b xs e),fun b o xs e=>tD _ _ (U.frzs b o xs e),fun b ps e=>?_⟩ (fun b o e=>?_) J.bare
  (fun b hb=>⟨(hf b hb).2.2.2.1,(hf b hb).2.1,(hf b hb).2.2.2.2.1,(hf b hb).2.2.2.2.2⟩)
 ·obtain ⟨sl,q⟩:=U.slot b o e n h1 h2
  exact ⟨sl,mv b _ (neC b o e) q⟩
 ·rw [aI (neD b o e)]; exact U.free b o e n h2
 ·obtain ⟨o',q⟩:=U.there b o e h2
  exact ⟨o',mv b _ (neC b o e) q⟩
 ·obtain ⟨more,q⟩:=U.tbls b ps e
  exact ⟨more,tD _ _ q⟩
 ·by_cases hb:b=D
  ·subst hb
   rw [aR] at e
   cases e
   obtain ⟨n,q⟩:=hp
   exact ⟨hz,its,n,hv,mv _ _ hDC q⟩
  ·rw [aI hb] at e
   refine (J.hok b o e).stay (fun c v hc q=>mv c v ?_ q) (fun c q=>tD _ _ q) fun c xs q=>tD _ _ q
   intro z
   have fc:H' C=none:=J.free
   rcases hc with w | w
   ·rw [<- w,z,fc] at e; cases e
   ·rw [z,fc] at w; cases w
theorem wl (elt target iter:Expr) (scope:Scope) (pos:Pos) (it acc:Value) (env:Env) :
  compTurn (.ListComp elt [⟨target,iter,[],0⟩] scope pos) 0 it acc env=(standAt iter.pos >>= fun _=>pyNext it >>= fun r=>match r with
   | none=>pure (.done .next)
   | some v=>letOwnedTupleGo target it v >>= fun _=>assign target env v >>= fun _=>
    (eval elt env >>= fun x=>call (.builtin "list.append") [acc,x] >>= fun _=>pure ()) >>= fun _=>
     again (.compLoop (.ListComp elt [⟨target,iter,[],0⟩] scope pos) 0 it acc env)):=by rfl
noncomputable def zo (σ σ':St):Prop:=σ.length = σ'.length/\∀ (i:Nat) v,σ[i]? = some (some v) -> σ'[i]? = some (some v)
noncomputable def yg (wi:TI) (g:TG) (te:TE) (vars:List Str) (caps:List (Nat×Str)):TE:=fun σ H Q=>wi σ H fun J H1=>∃ W:Nat->Nat->List V->Hp->Prop,(∃ m,W 0 m [] H1)/\∀ i m ys H,W i m ys H ->
 (J.stop i H/\ys.length<=sizeLine/\∀ p,H p=none->Q (.ref p) (eA H p (.lst ys))) \/
 (J.go i H/\ys.length<sizeLine/\∀ x H',J.yld i H x H'->g x (vars.map (fun _=>none)++iF σ caps) H' fun σ2 H2=>zo (vars.map (fun _=>none)++iF σ caps) σ2/\te σ2 H2 fun y H3=>∃ m',m'<m/\W (i+1) m' (ys++[y]) H3)
theorem Inv.weaken {X:Cx} {pins:List (Addr×Obj)} {σ σ':St} {H:Hp} {s:Shared} (I:Inv X pins σ H s) (hl:σ'.length = σ.length) (w:∀ (i:Nat) v,σ'[i]? = some (some v) -> σ[i]? = some (some v)):Inv X pins σ' H s:=I.weak hl w
theorem pk {prog:Program} {w:World} {A:Around} {R:Result->Shared->Prop} {s:Shared} {elt target iter:Expr} {scope:Scope} {pos:Pos} {it acc:Value} {env:Env} (I:Nat->Shared->Prop)
  (turn:∀ n s,I n s->wpAny (model prog w) A (pyNext it) (fun r s₁=>match r with
   | none=>R (.ok .next) s₁
   | some v=>wpAny (model prog w) A (letOwnedTupleGo target it v) (fun _ s₁=>wpAny (model prog w) A (assign target env v) (fun _ s₂=>wpAny (model prog w) A (eval elt env) (fun x s₃=>
     wpAny (model prog w) A (call (.builtin "list.append") [acc,x]) (fun _ s₄=>∃ m,m<n/\I m s₄) (fun _ _=>False) s₃) (fun _ _=>False) s₂) (fun _ _=>False) s₁) (fun _ _=>False) s₁) (fun _ _=>False) s)
  (n:Nat) (h:I n s):codeAny (model prog w) A (.compLoop (.ListComp elt [⟨target,iter,[],0⟩] scope pos) 0 it acc env) R s:=by
 refine codeAny_loop rfl I (fun n s hI=>?_) n h
 show wpAny _ _ ((compTurn (.ListComp elt [⟨target,iter,[],0⟩] scope pos) 0 it acc env).onRaise (fun x=>do noteFrame x env; theTreesLotGoes x)) _ _ s
 refine wpAny_noted ?_
 rw [wl]
 refine wpAny_bind (wpAny_standAt (wpAny_bind (wpAny_mono (turn n s hI) (fun r s₁ h₁=>?_) fun _ _ h'=>h'.elim)))
 cases r with
 | none=>exact wpAny_pure h₁
 | some v=>
  refine wpAny_bind (wpAny_mono h₁ (fun _ s₁ h₁=>?_) fun _ _ h'=>h'.elim)
  exact wpAny_bind (wpAny_mono h₁ (fun _ s₂ h₂=>wpAny_bind (wpAny_bind (wpAny_mono h₂ (fun x s₃ h₃=>wpAny_bind (wpAny_mono h₃
   (fun _ s₄ h₄=>wpAny_pure (wpAny_pure ⟨rfl,h₄⟩)) fun _ _ h'=>h'.elim)) fun _ _ h'=>h'.elim))) fun _ _ h'=>h'.elim)
end
section
variable {X:Cx} {scope:Scope} {vars:List Str} {caps:List (Nat×Str)} {elt tg iter:Expr} {pos:Pos} {wi:TI} {g:TG} {te:TE}
theorem qU (B:BlkOk X.env.scope.names X.N scope vars caps) (hc:X.calm=true)
  (hg:∀ C s₀ H₀ ex,PG (blk X scope (vars++caps.map (·.2)) C s₀ H₀ ex) tg g) (he:∀ C s₀ H₀ ex,PE (blk X scope (vars++caps.map (·.2)) C s₀ H₀ ex) elt te)
  {pins:List (Addr×Obj)} {σ:St} {H2:Hp} {s2:Shared} {Q:VK} {it:Addr} {fp:List Addr} {tn:Nat->Heap->Prop} {J:It} (I2:Inv X pins σ H2 s2) (T:Dh X.prog X.w X.K tg J fp it tn) (st2:tn 0 s2.heap) (f2:∀ b∈fp,lJ X pins H2 b)
  {W:Nat->Nat->List V->Hp->Prop} {m0:Nat} (w0:W 0 m0 [] H2) (turn:∀ i m ys H,W i m ys H ->
   (J.stop i H/\ys.length<=sizeLine/\∀ p,H p=none->Q (.ref p) (eA H p (.lst ys))) \/
   (J.go i H/\ys.length<sizeLine/\∀ x H',J.yld i H x H'->g x (vars.map (fun _=>none)++iF σ caps) H' fun σ2 H2=>zo (vars.map (fun _=>none)++iF σ caps) σ2/\te σ2 H2 fun y H3=>∃ m',m'<m/\W (i+1) m' (ys++[y]) H3))
  {RR:Value->Addr->Result->Shared->Prop} {E:Value->Shared->Prop}
  (hRR:∀ D C s' m,s'.heap.Ns C m->D≠C->s2.heap.objs.size<=D->s2.heap.objs.size<=C->∀ H',H' C=none->(∀ h',Heap.SameBut C s'.heap h'->Inv X pins σ H' { s' with heap:=h' })->Q (.ref D) H'->RR (.ref D) C (.ok .next) s') :
  wpAny (model X.prog X.w) X.A (newList []) (fun acc s₃=>wpAny (model X.prog X.w) X.A (newFunctionEnv scope X.env.globals (mt X.env scope.names []) [] X.env.qual none .none (some X.env)) (fun cenv s₄=>
   codeAny (model X.prog X.w) X.A (.compStart (.ListComp elt [⟨tg,iter,[],0⟩] scope pos) 0 (.ref it) acc { cenv with scope:=relabel scope X.env }) (RR acc cenv.locals) s₄) E s₃) E s2:=by
 refine wpAny_newObj_type (wpAny_newFunctionEnv B.cell (by intro y hy; simp at hy) (fun h₁ hns₁ hsb₁=>?_) B.kind)
 dsimp only at hns₁ hsb₁ ⊢
 generalize hP:s2.heap.push { cls:=.type "list",dict:=none,data:=.seq ([]:List Value).toArray }=HP at hns₁ hsb₁ ⊢
 have hCs:HP.objs.size=s2.heap.objs.size+1:=by rw [<- hP,Heap.size_push]
 have hDC:s2.heap.objs.size≠HP.objs.size:=by rw [hCs]; exact Nat.ne_of_lt (Nat.lt_succ_self _)
 have hCle:s2.heap.objs.size<=HP.objs.size:=by rw [hCs]; exact Nat.le_succ _
 have old:∀ b o,s2.heap.get? b=some o->h₁.get? b=some o:=fun b o e=>hsb₁.extBut b o (Nat.ne_of_lt (Nat.lt_of_lt_of_le (Heap.lt_size e) hCle)) (Heap.get?_push_of_some _ (hP ▸ Heap.get?_push_of_some _ e))
 have hacc:h₁.PlainList s2.heap.objs.size #[]:=⟨_,hsb₁.extBut _ _ hDC (Heap.get?_push_of_some _ (hP ▸ Heap.get?_push_size _ rfl))⟩
 have flt:∀ b∈fp,b<s2.heap.objs.size:=fun b hb=>by
  obtain ⟨o,e,_⟩:=T.obj _ _ st2 b hb
  exact Heap.lt_size e
 have st1:tn 0 h₁:=T.keep _ _ _ st2 fun b _ o e=>old b o e
 have loop:∀ s3:Shared,s3={ s2 with heap:=h₁,toks:=s2.toks+([]:List (Str×Value)).length } ->
   codeAny (model X.prog X.w) X.A (.compLoop (.ListComp elt [⟨tg,iter,[],0⟩] scope pos) 0 (.ref it) (.ref s2.heap.objs.size) (compEnvC scope (mt X.env scope.names []) HP.objs.size X.env))
    (RR (.ref s2.heap.objs.size) HP.objs.size) s3:=by
  rintro s3 rfl
  have X':=blk X scope (vars++caps.map (·.2)) HP.objs.size s2 H2 fp
  have fpo:∀ {H':Hp},(∀ b∈fp,H' b=none)->∀ b∈fp,lJ (blk X scope (vars++caps.map (·.2)) HP.objs.size s2 H2 fp) [] H' b:=fun hn b hb=>by
   have ok:=xD B I2 f2 flt hCle
   exact ⟨hn b hb,(ok.exf b hb).1,ok.exfs b hb,.inl hb,(ok.exf b hb).2,fun p hp=>absurd (show p∈([]:List (Addr×Obj)) from hp) (by simp)⟩
  refine pk (fun n s=>∃ i ys H its,Inv (blk X scope (vars++caps.map (·.2)) HP.objs.size s2 H2 fp) [] (vars.map (fun _=>none)++iF σ caps) H s/\tn i s.heap/\(∀ b∈fp,H b=none)/\s.heap.PlainList s2.heap.objs.size (List.toArray its)/\H s2.heap.objs.size=none/\Vals ys its/\W i n ys H) ?_ m0
   ⟨0,[],H2,[],za B I2 f2 flt hCle hns₁ old,st1,fun b hb=>(f2 b hb).1,hacc,I2.hok.fresh (Nat.le_refl _),.nil,w0⟩
  rintro n s4 ⟨i,ys,H4,its,I4,st4,fr4,pl4,nD4,v4,w4⟩
  obtain ⟨nn,eD⟩:=id pl4
  have DnL:s2.heap.objs.size≠(blk X scope (vars++caps.map (·.2)) HP.objs.size s2 H2 fp).env.locals:=hDC
  have Dfs:s2.heap.objs.size ∉ (blk X scope (vars++caps.map (·.2)) HP.objs.size s2 H2 fp).fs:=fun z=>by
   rcases List.mem_cons.mp (I2.stkSub _ z) with q | q
   ·have:=I2.lt; rw [<- q] at this; exact Nat.lt_irrefl _ this
   ·exact I2.nofs (Nat.le_refl _) q
  have Dfp:∀ b∈fp,s2.heap.objs.size≠b:=fun b hb z=>by have:=flt b hb; rw [<- z] at this; exact Nat.lt_irrefl _ this
  have DnC:∀ x c,(blk X scope (vars++caps.map (·.2)) HP.objs.size s2 H2 fp).env.cells.lookup x=some c->c≠s2.heap.objs.size:=fun x c e z=>by
   rcases cP _ _ _ _ (B.cells I2) e with q | q
   ·cases q
   ·obtain ⟨v,o,ho,_⟩:=I2.cell x c q
    have:=Heap.lt_size ho
    rw [z] at this
    exact Nat.lt_irrefl _ this
  have pinD:∀ {σ':St} {H':Hp} {s':Shared},Inv (blk X scope (vars++caps.map (·.2)) HP.objs.size s2 H2 fp) [(s2.heap.objs.size,{ cls:=.type "list",data:=.seq its.toArray nn })] σ' H' s'->s'.heap.PlainList s2.heap.objs.size its.toArray/\H' s2.heap.objs.size=none:=fun {σ' H' s'} I'=>by
   obtain ⟨q1,q2,_⟩:=I'.pin (s2.heap.objs.size,{ cls:=.type "list",data:=.seq its.toArray nn }) (by simp [blk])
   exact ⟨⟨nn,q1⟩,q2⟩
  have I4p:Inv (blk X scope (vars++caps.map (·.2)) HP.objs.size s2 H2 fp) [(s2.heap.objs.size,{ cls:=.type "list",data:=.seq its.toArray nn })] (vars.map (fun _=>none)++iF σ caps) H4 s4:=
   I4.pins_of fun p hp=>by
    have e:p=(s2.heap.objs.size,{ cls:=.type "list",data:=.seq its.toArray nn }):=by simpa [blk] using hp
    subst e
    exact ⟨eD,nD4,DnL,Dfs,fun v z=>by cases z⟩
  have fpo':∀ {H':Hp},(∀ b∈fp,H' b=none)->∀ b∈fp,lJ (blk X scope (vars++caps.map (·.2)) HP.objs.size s2 H2 fp) [(s2.heap.objs.size,{ cls:=.type "list",data:=.seq its.toArray nn })] H' b:=fun hn b hb=>by
   obtain ⟨q1,q2,q3,q4,q5,_⟩:=fpo hn b hb
   exact ⟨q1,q2,q3,q4,q5,fun p hp=>by
    have e:p=(s2.heap.objs.size,{ cls:=.type "list",data:=.seq its.toArray nn }):=by simpa [blk] using hp
    subst e
    exact Dfp b hb⟩
  have unp:∀ {pl:List (Addr×Obj)} {σ':St} {H':Hp} {s':Shared},Inv (blk X scope (vars++caps.map (·.2)) HP.objs.size s2 H2 fp) pl σ' H' s'->Inv (blk X scope (vars++caps.map (·.2)) HP.objs.size s2 H2 fp) [] σ' H' s':=fun {pl σ' H' s'} I'=>
   I'.pins_of fun p hp=>absurd (show p∈([]:List (Addr×Obj)) from hp) (by simp)
  rcases turn i n ys H4 w4 with ⟨stop,hz,qn⟩ | ⟨go,hz,step⟩
  ·refine dS (T.done (blk X scope (vars++caps.map (·.2)) HP.objs.size s2 H2 fp) rfl rfl rfl hc i _ s4 _ H4 _ I4p (fpo' fr4) st4 stop) fun r s5 ⟨hr,I5⟩=>?_
   subst hr
   obtain ⟨p5,n5⟩:=pinD I5
   obtain ⟨m5,ns5,_⟩:=I5.loc
   refine hRR _ _ s5 m5 ns5 hDC (Nat.le_refl _) hCle _ ?_ (fun h' hs'=>y9 I2 f2 hCle (Nat.le_refl _) hDC (unp I5) n5 p5 v4 hz hs') (qn _ n5)
   rw [aI hDC.symm]
   exact I5.free
  ·refine dS (T.item (blk X scope (vars++caps.map (·.2)) HP.objs.size s2 H2 fp) rfl rfl rfl hc i _ s4 _ H4 _ I4p (fpo' fr4) st4 go) fun r s5 ⟨u,hr,h5⟩=>?_
   subst hr
   refine dS h5 fun _ s6 ⟨x,H6,I6,rx,yx,st6,fr6⟩=>?_
   have I6p:=I6.pinned (fpo' fr6) (T.obj _ _ st6)
   refine dS (hg _ _ _ _ _ s6 _ H6 x u _ I6p rx (step x H6 yx)) fun _ s7 ⟨σ7,H7,I7,kp,q7⟩=>?_
   refine dS (he _ _ _ _ _ s7 σ7 H7 _ I7 q7) fun v s8 ⟨y,H8,I8,ry,m',hm,w8⟩=>?_
   obtain ⟨p8,n8⟩:=pinD I8.unpinned
   have st8:tn (i+1) s8.heap:=T.keep _ _ _ st6 fun b hb o e=>(I8.pin (b,o) (List.mem_append_right _ (List.mem_append_right _ (en hb e)))).1
   have fr8:∀ b∈fp,H8 b=none:=fun b hb=>by
    obtain ⟨o,e,d⟩:=T.obj _ _ st6 b hb
    exact (I8.pin (b,o) (List.mem_append_right _ (List.mem_append_right _ (en hb e)))).2.1
   have hl:=v4.length
   refine wpAny_list_append_plain p8 (fun h9 p9 sb9=>⟨m',hm,i+1,ys++[y],H8,its++[v],?_,?_,fr8,by simpa using p9,n8,v4.append (.cons ry .nil),w8⟩) (by simp; omega)
   ·have I9:Inv (blk X scope (vars++caps.map (·.2)) HP.objs.size s2 H2 fp) [] σ7 H8 { s8 with heap:=h9,toks:=s8.toks }:=
     (unp I8).turned (it:=s2.heap.objs.size) (fun b o hb e=>sb9.extBut b o hb e) n8 DnL (.inr (Nat.le_refl _)) DnC fun p hp=>absurd (show p∈([]:List (Addr×Obj)) from hp) (by simp)
    exact I9.weak kp.1 kp.2
   ·exact T.keep _ _ _ st8 fun b hb o e=>sb9.extBut b o (Dfp b hb).symm e
 exact codeAny_compStart_list (loop _ rfl) (T.self _ 0 _ _ _ st1 (loop _ rfl))
theorem EK (B:BlkOk X.env.scope.names X.N scope vars caps) (hc:X.calm=true) (hi:PI X tg iter wi)
  (hg:∀ C s₀ H₀ ex,PG (blk X scope (vars++caps.map (·.2)) C s₀ H₀ ex) tg g) (he:∀ C s₀ H₀ ex,PE (blk X scope (vars++caps.map (·.2)) C s₀ H₀ ex) elt te) (hs:∀ x,foldedSetIterable iter X.env x=pure x:=by intro _; rfl) :
  PE X (.ListComp elt [⟨tg,iter,[],0⟩] scope pos) (yg wi g te vars caps):=by
 intro pins s σ H Q I h
 rw [eval_ListComp]
 refine wpAny_comprehension_free (use:=none) rfl hs (jb (B.cells I)) B.kind B.names ?_
 show wpAny _ _ (eval iter X.env) _ _ s
 refine dS (hi pins s σ H _ I h) fun v s1 h1=>dS h1 fun itv s2 h2=>?_
 obtain ⟨it,fp,tn,J,H2,e,I2,T,st2,f2,W,⟨m0,w0⟩,turn⟩:=h2
 subst e
 exact qU B hc hg he I2 T st2 f2 w0 turn (RR:=fun acc C=>compPost (model X.prog X.w) X.A X.xe none (EP X pins σ Q) acc C) fun D C s' m ns _ _ _ H' _ k q=>⟨m,ns,fun h' hs'=>⟨.ref D,H',k h' hs',rfl,q⟩⟩
theorem yy {i:Nat} {y:Str} {py spos:Pos} (B:BlkOk X.env.scope.names X.N scope vars caps) (hc:X.calm=true) (hi:PI X tg iter wi)
  (hg:∀ C s₀ H₀ ex,PG (blk X scope (vars++caps.map (·.2)) C s₀ H₀ ex) tg g) (he:∀ C s₀ H₀ ex,PE (blk X scope (vars++caps.map (·.2)) C s₀ H₀ ex) elt te)
  (hN:X.N.Nodup) (hy:X.N[i]? = some y) (hx:AZ X.env.scope y) (hsw:swapsWith (.ListComp elt [⟨tg,iter,[],0⟩] scope pos) (some (.Name y py)) spos.line X.env=pure true)
  (hf:X.fn y=true\/X.env.scope.names.lookup y=some .local) (hs:∀ x,foldedSetIterable iter X.env x=pure x:=by intro _; rfl) :
  PS X (.Assign [.Name y py] (.ListComp elt [⟨tg,iter,[],0⟩] scope pos) spos) (fun D σ H=>yg wi g te vars caps σ H fun v H1=>D.nx (σ.set i (some v)) H1):=by
 intro pins s σ H DE I h
 rw [exec_Assign_Name_used _ _ _ _ hsw]
 refine wpAny_bind (wpAny_standAt (wpAny_bind ?_))
 show wpAny _ X.A (do let _ <- comprehension (.ListComp elt [⟨tg,iter,[],0⟩] scope pos) scope X.env _ (newList []) false (eval iter X.env) (some (assign (.Name y py) X.env))) _ _ s
 refine wpAny_bind (wpAny_mono (wpAny_comprehension_free (use:=some (assign (.Name y py) X.env)) (Q:=fun _ s'=>SP X pins DE .next s') rfl hs (jb (B.cells I)) B.kind B.names
  (dS (hi pins s σ H _ I h) fun v s1 h1=>dS h1 fun itv s2 h2=>?_)) (fun _ s' hq=>wpAny_pure (wpAny_pure hq)) fun _ _ e=>e)
 obtain ⟨it,fp,tn,J,H2,e,I2,T,st2,f2,W,⟨m0,w0⟩,turn⟩:=h2
 subst e
 refine qU (Q:=fun v H1=>DE.nx (σ.set i (some v)) H1) B hc hg he I2 T st2 f2 w0 turn (RR:=fun acc C=>compPost (model X.prog X.w) X.A X.xe (some (assign (.Name y py) X.env)) (fun _ s'=>SP X pins DE .next s') acc C) ?_
 intro D C s' m ns hDC hD hC H' hHC k q
 obtain ⟨oC,es,ep,eC,dC,rC⟩:=ns
 have I':Inv X pins σ H' s':=k s'.heap (Heap.SameBut.refl ..)
 have nL:C≠X.env.locals:=fun z=>by have:=I2.lt; rw [<- z] at this; exact absurd (Nat.lt_of_lt_of_le this hC) (Nat.lt_irrefl _)
 have nF:C ∉ X.fs:=I2.nofs hC
 have nCell:∀ x c,X.env.cells.lookup x=some c->c≠C:=fun x c e z=>by
  obtain ⟨v,o,ho,_⟩:=I2.cell x c e
  have:=Heap.lt_size ho
  rw [z] at this
  exact absurd (Nat.lt_of_lt_of_le this hC) (Nat.lt_irrefl _)
 have nPin:∀ p∈X.pn++pins,p.1≠C:=fun p hp z=>by
  have:=Heap.lt_size (I2.pin p hp).1
  rw [z] at this
  exact absurd (Nat.lt_of_lt_of_le this hC) (Nat.lt_irrefl _)
 have Ip:Inv X (pins++[(C,oC)]) σ H' s':=I'.pins_of fun p hp=>by
  rcases List.mem_append.mp hp with z | z
  ·exact I'.pin p (List.mem_append_right _ z)
  ·have e:p=(C,oC):=by simpa using z
   subst e
   exact ⟨eC,hHC,nL,nF,fun v z=>by rw [dC] at z; cases z⟩
 refine dS (bW (pos:=py) hN hy hx hf _ s' σ H' (.ref D) (.ref D) (fun σ' H''=>σ' = σ.set i (some (.ref D))/\H''=H'/\DE.nx σ' H'') Ip rfl ⟨rfl,rfl,q⟩) fun _ s'' ⟨σ'',H'',I'',e1,e2,q''⟩=>?_
 subst e1 e2
 have eC'':s''.heap.get? C=some oC:=(I''.pin (C,oC) (List.mem_append_right _ (List.mem_append_right _ (by simp)))).1
 refine ⟨m,⟨oC,es,ep,eC'',dC,rC⟩,fun h' hs'=>⟨_,H'',?_,q''⟩⟩
 exact I''.unpinned.turned (t':=s''.toks) (it:=C) (fun b o hb e=>hs'.extBut b o hb e) hHC nL (.inr (Nat.le_trans I2.sz hC)) nCell nPin
end
noncomputable def Kb:Option Sl->Sl
 | some (.fz d)=>.fz d
 | _=>.un
@[simp] theorem MF (d:D):Kb (some (.fz d))=.fz d:=rfl
noncomputable def capS (δ:Dv) (caps:List (Nat×Str)):Dv:=caps.map fun p=>Kb δ[p.1]?
noncomputable def Ai (f:D->Option D):List D->Option (List D)
 | []=>some []
 | d::ds=>(f d).bind fun e=>(Ai f ds).bind fun es=>some (e::es)
noncomputable def dI (fi:Dv->Option (List D)) (caps:List (Nat×Str)) (bv:D->Option (List D)) (fe:Dv->Option D):Dv->Option D:=fun δ=>(fi δ).bind fun ds=>if ds.length<=sizeLine then (Ai (fun d=>(bv d).bind fun vs=>fe (vs.map .fz++capS δ caps)) ds).bind fun es=>some (.list es) else none
noncomputable def p3:D->Option (List D):=fun d=>some [d]
theorem kh {f:D->Option D}:∀ {ds es:List D},Ai f ds=some es->es.length=ds.length
 | [],es,h=>by cases h; rfl
 | d::ds,es,h=>by
  obtain ⟨e,_,h⟩:=bind_some h
  obtain ⟨es',h2,h⟩:=bind_some h
  cases h
  exact congrArg (· + 1) (kh h2)
theorem qJ {f:D->Option D}:∀ {ds es:List D} {i:Nat} {d:D},Ai f ds=some es->ds[i]? = some d->∃ e,f d=some e/\es[i]? = some e
 | [],es,i,d,h,q=>by simp at q
 | d::ds,es,i,d',h,q=>by
  obtain ⟨e,h1,h⟩:=bind_some h
  obtain ⟨es',h2,h⟩:=bind_some h
  cases h
  cases i with
  | zero=>simp at q; subst q; exact ⟨e,h1,rfl⟩
  | succ i=>simp at q; obtain ⟨e',g1,g2⟩:=qJ (i:=i) h2 q; exact ⟨e',g1,by simpa using g2⟩
noncomputable def wz (K:Fg) (g:TG) (n:Nat) (bv:D->Option (List D)):Prop:=∀ (x:V) (Z:Hp) (d:D) (vs:List D) (σc:St) (H:Hp) (R:St->Hp->Prop),Rep K Z x d->Same Z H->bv d=some vs->(∀ us,Reps K Z us vs->us.length=n->R (us.map some ++ σc) H)->g x (List.replicate n none ++ σc) H R
theorem dg {K:Fg}:wz K (CH 0) 1 p3:=fun x Z d vs σc H R r zh e k=>by
 cases e
 exact k [x] (.cons r .nil) rfl
section
variable {X:Cx} {scope:Scope} {vars:List Str} {caps:List (Nat×Str)} {elt tg iter:Expr} {pos:Pos} {g:TG} {fi:Dv->Option (List D)} {fe:Dv->Option D} {bv:D->Option (List D)}
theorem CY {σ:St} {δ:Dv} {K:Fg} {H₀ Z₀ Z H:Hp} (hh:Hold K H₀ Z₀ Z δ σ H):∀ (j:Nat) d,(capS δ caps)[j]? = some (.fz d)->∃ v,(iF σ caps)[j]? = some (some v)/\Rep K Z v d:=fun j d e=>by
 unfold capS at e
 unfold iF
 rw [List.getElem?_map] at e ⊢
 cases q:caps[j]? with
 | none=>rw [q] at e; cases e
 | some p=>
  rw [q] at e
  have e:Kb δ[p.1]? = .fz d:=Option.some.inj e
  cases z:δ[p.1]? with
  | none=>rw [z] at e; cases e
  | some sl=>
   rw [z] at e
   cases sl with
   | fz d'=>
    cases e
    obtain ⟨v,g1,g2⟩:=hh.fz p.1 _ z
    exact ⟨v,by show some ((σ[p.1]?).getD none)=_; rw [g1]; rfl,g2⟩
   | un=>cases e
   | own _=>cases e
   | fr _=>cases e
theorem F5 {δ:Dv}:∀ (j:Nat) ds,(capS δ caps)[j]? ≠ some (.own ds):=fun j ds e=>by
 unfold capS at e
 rw [List.getElem?_map] at e
 cases q:caps[j]? with
 | none=>rw [q] at e; cases e
 | some p=>
  rw [q] at e
  have e:Kb δ[p.1]? = .own ds:=Option.some.inj e
  cases z:δ[p.1]? with
  | none=>rw [z] at e; cases e
  | some sl=>rw [z] at e; cases sl <;> cases e
theorem F6 {δ:Dv}:∀ (j:Nat) ds,(capS δ caps)[j]? ≠ some (.fr ds):=fun j ds e=>by
 unfold capS at e
 rw [List.getElem?_map] at e
 cases q:caps[j]? with
 | none=>rw [q] at e; cases e
 | some p=>
  rw [q] at e
  have e:Kb δ[p.1]? = .fr ds:=Option.some.inj e
  cases z:δ[p.1]? with
  | none=>rw [z] at e; cases e
  | some sl=>rw [z] at e; cases sl <;> cases e
theorem qX {σ:St} {δ:Dv} {K:Fg} {H₀ Z₀ Z H:Hp} (hh:Hold K H₀ Z₀ Z δ σ H) {us:List V} {vs:List D} (r:Reps K Z us vs):Hold K H Z Z (vs.map .fz++capS δ caps) (us.map some++iF σ caps) H:=by
 have hl:=r.length
 refine ⟨hh.zh,Same.refl _,Same.refl _,fun _ _=>rfl,by simp [capS,iF,hl],fun i d e=>?_,fun i ds e=>?_,fun i j ds es a _ e=>?_,fun i ds e=>?_⟩
 ·by_cases hi:i<vs.length
  ·rw [List.getElem?_append_left (by simpa using hi),List.getElem?_map] at e
   cases q:vs[i]? with
   | none=>rw [q] at e; cases e
   | some d'=>
    rw [q] at e
    cases e
    obtain ⟨v,g1,g2⟩:=r.get q
    exact ⟨v,by rw [List.getElem?_append_left (by simpa [hl] using hi),List.getElem?_map,g1]; rfl,g2⟩
  ·rw [List.getElem?_append_right (by simpa using hi)] at e
   obtain ⟨v,g1,g2⟩:=CY hh _ d e
   refine ⟨v,?_,g2⟩
   rw [List.getElem?_append_right (by simpa [hl] using hi)]
   simp only [List.length_map] at g1 ⊢
   rw [hl]; exact g1
 all_goals
  exfalso
  by_cases hi:i<vs.length
  ·rw [List.getElem?_append_left (by simpa using hi),List.getElem?_map] at e
   cases q:vs[i]? <;> rw [q] at e <;> cases e
  ·rw [List.getElem?_append_right (by simpa using hi)] at e
   first | exact F5 _ _ e | exact F6 _ _ e
theorem sW (tk:wz X.K g vars.length bv) {σ:St} {H:Hp} {Q:VK} (h:tV X.K (dI fi caps bv fe) σ H Q):yg (LE X.K fi) g (tV X.K fe) vars caps σ H Q:=by
 obtain ⟨H₀,Z₀,Z,δ,d,hh,e,k⟩:=h
 obtain ⟨ds,e1,e⟩:=bind_some e
 by_cases hz:ds.length<=sizeLine
 ·rw [if_pos hz] at e
  obtain ⟨es,e2,e⟩:=bind_some e
  cases e
  have le:=kh e2
  have hv:vars.map (fun _=>(none:Option V))=List.replicate vars.length none:=by rw [List.map_const']
  refine ⟨H₀,Z₀,Z,δ,ds,hh,e1,fun J Z1 H1 hh1 t1 ok=>?_⟩
  refine ⟨fun i m ys H=>m=ds.length-i/\i<=ds.length/\∃ Zc,Hold X.K H₀ Z₀ Zc δ σ H/\Same Z1 Zc/\Reps X.K Zc ys (es.take i),⟨ds.length,by simp,Nat.zero_le _,Z1,hh1,Same.refl _,by simpa using .nil⟩,?_⟩
  rintro i m ys H2 ⟨rfl,hi2,Zc,hhc,tc,rc⟩
  have zh:Same Z1 H2:=tc.trans hhc.zh
  have ly:=rc.length
  rw [List.length_take] at ly
  by_cases hlt:i<ds.length
  ·refine .inr ⟨ok.go i H2 zh hlt,by omega,fun x H3 y=>?_⟩
   have ed:ds[i]? = some ds[i]:=by simp [hlt]
   obtain ⟨rfl,rx⟩:=ok.yld i H2 x H3 _ zh ed y
   obtain ⟨ei,f1,f2⟩:=qJ e2 ed
   obtain ⟨vs,f3,f1⟩:=bind_some f1
   rw [hv]
   refine tk x Zc ds[i] vs (iF σ caps) H3 _ (rx.same tc) hhc.zh f3 fun us ru hn=>⟨⟨by simp [hn],fun j v q=>?_⟩,?_⟩
   ·by_cases hj:j<vars.length
    ·rw [List.getElem?_append_left (by simpa using hj),List.getElem?_replicate] at q
     split at q <;> cases q
    ·rw [List.getElem?_append_right (by simpa using hj)] at q
     rw [List.getElem?_append_right (by simpa [hn] using hj)]
     simpa [hn] using q
   ·refine ⟨H3,Zc,Zc,_,ei,qX hhc ru,f1,fun v Z4 H4 h4 t4 r4=>⟨ds.length-(i+1),by omega,rfl,hlt,Z4,hhc.new ⟨t4,h4.h0,h4.zh,h4.zb⟩,tc.trans t4,?_⟩⟩
    have:es.take (i+1)=es.take i++[ei]:=by
     rw [List.take_add_one,f2]; rfl
    rw [this]
    exact (rc.same t4).append (.cons r4 .nil)
  ·have hie:i=ds.length:=by omega
   subst hie
   refine .inl ⟨ok.stop _ H2 zh (Nat.le_refl _),by omega,fun p hp=>?_⟩
   rw [<- le,List.take_length] at rc
   have n:=New.add hhc.zh hp (.lst ys)
   exact k _ _ _ (hhc.new n) ((t1.trans tc).trans n.z) (.lst (SqL.of aR) (rc.same n.z))
 ·rw [if_neg hz] at e; cases e
theorem dQ (B:BlkOk X.env.scope.names X.N scope vars caps) (hc:X.calm=true) (hi:IV X tg iter fi) (tk:wz X.K g vars.length bv)
  (hg:∀ C s₀ H₀ ex,PG (blk X scope (vars++caps.map (·.2)) C s₀ H₀ ex) tg g) (he:∀ C s₀ H₀ ex,EV (blk X scope (vars++caps.map (·.2)) C s₀ H₀ ex) elt fe) (hs:∀ x,foldedSetIterable iter X.env x=pure x:=by intro _; rfl) :
  EV X (.ListComp elt [⟨tg,iter,[],0⟩] scope pos) (dI fi caps bv fe):=
 PE.imp (EK (te:=tV X.K fe) B hc hi hg he hs) fun _ _ _ h=>sW tk h
theorem Eo (i:Nat) {y:Str} {py spos:Pos} (hN:X.N.Nodup) (B:BlkOk X.env.scope.names X.N scope vars caps) (hc:X.calm=true) (hi:IV X tg iter fi) (tk:wz X.K g vars.length bv)
  (hg:∀ C s₀ H₀ ex,PG (blk X scope (vars++caps.map (·.2)) C s₀ H₀ ex) tg g) (he:∀ C s₀ H₀ ex,EV (blk X scope (vars++caps.map (·.2)) C s₀ H₀ ex) elt fe)
  (hy:X.N[i]? = some y:=by rfl) (hx:AZ X.env.scope y:=by first | exact Or.inl rfl | exact Or.inr rfl) (hsw:swapsWith (.ListComp elt [⟨tg,iter,[],0⟩] scope pos) (some (.Name y py)) spos.line X.env=pure true:=by rfl)
  (hf:X.fn y=true\/X.env.scope.names.lookup y=some .local:=by first | exact .inl rfl | exact .inr rfl | assumption) (hs:∀ x,foldedSetIterable iter X.env x=pure x:=by intro _; rfl) :
  SV X (.Assign [.Name y py] (.ListComp elt [⟨tg,iter,[],0⟩] scope pos) spos) (aM i (dI fi caps bv fe)):=
 PS.imp (yy (te:=tV X.K fe) B hc hi hg he hN hy hx hsw hf hs) fun D σ H h=>by
  obtain ⟨H₀,Z₀,Z,δ,r,hh,e,k⟩:=h
  obtain ⟨x,e1,e⟩:=bind_some e
  cases e
  exact sW tk ⟨H₀,Z₀,Z,δ,x,hh,e1,fun v Z1 H1 hh1 s1 r1=>k _ H1 Z1 (hh1.set r1) s1⟩
end
end VL
set_option Elab.async false
set_option linter.all false
set_option maxRecDepth 100000
set_option maxHeartbeats 4000000
namespace VL
open PySem PySem.Spec PyProof.Rows L2
section
variable {X:Cx} {e:Expr} {es:List Expr} {p pos:Pos} {fs:Dv->Option (List D)}
theorem aq {k:Nat} {x:Str} {g:List D->Option D} (C:Cal X.prog X.w X.K X.mg X.base x k g []) (hr:Room k X.A) (hg:Gl X x) (ha:AV X (e::es) fs) (hdb:(x==("__debug__":Str))=false:=by decide) (he:starEach (e::es) X.env=(false,eval e X.env)::starEach es X.env:=by rfl)
  (hpl:(backTo pos (starEach es X.env)).any (·.1)=false:=by rfl):EV X (.Call (.Name x p) (e::es) [] pos) (os fs g):=by
 have h:=xu C hr hg ha hdb he hpl (p:=p) (pos:=pos)
 have e:(fun as=>g (as++[]))=g:=by funext as; rw [List.append_nil]
 rw [e] at h
 exact h
end
structure TopV (K:Fg) (mg:Str->Option Value) (x:Str) (d:D):Prop where
 ex:∃ v u,mg x=some u/\RelV v u/\∀ Z,Rep K Z v d
theorem TopV.tup {K:Fg} {mg:Str->Option Value} {x:Str} {a:Addr} {td:Option Addr} {its:Array Value} {tn:Nat} {ts:Array (Option Value)} {xs:List V} {ds:List D} (hm:mg x=some (.ref a)) (hk:K.lookup a=some ⟨.type "tuple",td,.seq its tn,ts⟩)
  (hz:its.size<=sizeLine) (hv:Vals xs its.toList) (hr:∀ Z,Reps K Z xs ds):TopV K mg x (.tuple ds):=⟨.ref a,.ref a,hm,rfl,fun Z=>.tup (.inr ⟨_,its,tn,hk,rfl,rfl,hz,hv⟩) (hr Z)⟩
theorem TopV.int {K:Fg} {mg:Str->Option Value} {x:Str} {i:Int} {t:Tok} (hm:mg x=some (.int i t)):TopV K mg x (.int i):=⟨.int i,.int i t,hm,⟨t,rfl⟩,fun _=>.int i⟩
theorem pY {X:Cx} {x:Str} {pos:Pos} {d:D} (T:TopV X.K X.mg x d) (hg:Gl X x) (hd:(x==("__debug__":Str))=false:=by decide):EV X (.Name x pos) (oC d):=by
 obtain ⟨v,u,hm,r,h⟩:=T.ex
 exact Ay (ue hg hm r hd) h
noncomputable def AT:Option Sl->Option (List D)
 | some (.own (.l ds))=>some ds
 | _=>none
@[simp] theorem MD (ds:List D):AT (some (.ow ds))=some ds:=rfl
theorem i6 {o:Option Sl} {ds:List D} (h:AT o=some ds):o=some (.ow ds):=by
 cases o with
 | none=>cases h
 | some x=>
  cases x with
  | own c=>
   cases c with
   | l es=>cases h; rfl
   | d es=>cases h
  | un=>cases h
  | fz d=>cases h
  | fr _=>cases h
@[simp] noncomputable def wT (i:Nat) (fs:Dv->Option (List D)):Sf:=fun δ=>(fs δ).bind fun ds=>if ds.length<=sizeLine then some (.nx,δ.set i (.ow ds)) else none
@[simp] noncomputable def Iy (i:Nat) (f:Dv->Option D):Dv->Option D:=fun δ=>(AT δ[i]?).bind fun ds=>(f δ).bind fun k=>ax (.list ds) k
@[simp] noncomputable def NY (i:Nat):Dv->Option D:=fun δ=>(AT δ[i]?).bind fun ds=>some (.int ds.length)
noncomputable def HS (ds:List D) (k v:D):Option (List D):=match k with
 | .int j=>(yP ds.length j).map fun n=>ds.set n v
 | _=>none
@[simp] theorem qw (ds:List D) (j:Int) (v:D):HS ds (.int j) v=(yP ds.length j).map fun n=>ds.set n v:=rfl
@[simp] noncomputable def Kd (i:Nat) (fk fv:Dv->Option D):Sf:=fun δ=>(fv δ).bind fun v=>(fk δ).bind fun k=>(AT δ[i]?).bind fun ds=>(HS ds k v).bind fun ds'=>some (.nx,δ.set i (.ow ds'))
@[simp] noncomputable def wU (i:Nat) (f:Dv->Option D):Sf:=fun δ=>(f δ).bind fun v=>(AT δ[i]?).bind fun ds=>if ds.length<sizeLine then some (.nx,δ.set i (.ow (ds++[v]))) else none
section
variable {X:Cx} {e b:Expr} {es:List Expr} {p pos tpos apos:Pos} {fs:Dv->Option (List D)} {f fk fv:Dv->Option D}
theorem lU (i:Nat) {x:Str} {pos':Pos} (hN:X.N.Nodup) (ha:AV X es fs) (hi:X.N[i]? = some x:=by rfl) (hx:AZ X.env.scope x:=by first | exact Or.inl rfl | exact Or.inr rfl) (hs:swapsWith (.List es p) (some (.Name x pos')) pos.line X.env=pure false:=by rfl)
  (hf:X.fn x=true\/X.env.scope.names.lookup x=some .local:=by first | exact .inl rfl | exact .inr rfl | assumption):SV X (.Assign [.Name x pos'] (.List es p) pos) (wT i fs):=
 PS.imp (ua hN hi hx (BQ ha) hs hf) fun D σ H h=>by
  obtain ⟨H₀,Z₀,Z,δ,r,hh,e,k⟩:=h
  obtain ⟨ds,e1,e⟩:=bind_some e
  by_cases hl:ds.length<=sizeLine
  ·rw [if_pos hl] at e
   cases e
   exact ⟨H₀,Z₀,Z,δ,ds,hh,e1,fun vs Z1 H1 hh1 t1 r1=>⟨by rw [r1.length]; exact hl,fun p hp=>k _ _ Z1 (hh1.setO hp r1) t1⟩⟩
  ·rw [if_neg hl] at e; cases e
theorem oy {K:Fg} {H₀ Z₀ Z:Hp} {δ:Dv} {σ:St} {H:Hp} (hh:Hold K H₀ Z₀ Z δ σ H) {i:Nat} {ds:List D} (h:AT δ[i]? = some ds):∃ a xs,σ[i]? = some (some (V.ref a))/\H a=some (.lst xs)/\Reps K Z xs ds:=by
 obtain ⟨a,xs,h1,_,_,h4,h5⟩:=hh.ow i ds (i6 h)
 exact ⟨a,xs,h1,h4,h5⟩
theorem CP (i:Nat) {x:Str} (hb:EV X b f) (hs:u8 b) (hN:X.N[i]? = some x:=by rfl) (hv:Dg X.env.scope x:=by first | exact Or.inl rfl | exact Or.inr (Or.inl rfl) | exact Or.inr (Or.inr rfl)) (hd:(x==("__debug__":Str))=false:=by decide) (hcd:(x==("__classdict__":Str))=false:=by decide) :
  EV X (.Subscript (.Name x p) b pos) (Iy i f):=
 PE.imp (GC ix_list (j7 hN hv hd hcd) hb hs) fun σ H Q h=>by
  obtain ⟨H₀,Z₀,Z,δ,d,hh,e,k⟩:=h
  obtain ⟨ds,e1,e⟩:=bind_some e
  obtain ⟨y,e2,e⟩:=bind_some e
  obtain ⟨a,xs,h1,h4,h5⟩:=oy hh e1
  refine ⟨_,h1,H₀,Z₀,Z,δ,y,hh,e2,fun v Z1 H1 hh1 t1 r1=>?_⟩
  obtain ⟨a',xs',g1,g4,g5⟩:=oy hh1 e1
  rw [h1] at g1
  cases g1
  cases r1 with
  | int j=>
   obtain ⟨w,ew,rw'⟩:=g5.at e
   exact ⟨_,_,_,w,rfl,rfl,SqL.of g4,ew,k w Z1 H1 hh1 t1 rw'⟩
  | _=>cases e
theorem Hw (i:Nat) {x:Str} (hb:EV X b fk) (hv':EV X e fv) (hN:X.N[i]? = some x:=by rfl) (hv:Dg X.env.scope x:=by first | exact Or.inl rfl | exact Or.inr (Or.inl rfl) | exact Or.inr (Or.inr rfl)) (hd:(x==("__debug__":Str))=false:=by decide) (hcd:(x==("__classdict__":Str))=false:=by decide)
  (hs:swapsWithSole [.Subscript (.Name x p) b tpos] e pos.line X.env=pure false:=by rfl) (hw:swappedStores [.Subscript (.Name x p) b tpos] e X.env=pure none:=by rfl)
  (ha:∀ v,assign (.Subscript (.Name x p) b tpos) X.env v=(do
   let ov <- holding [v] (eval (.Name x p) X.env)
   let iv <- holding [v,ov] (eval b X.env)
   standAt tpos
   holding [v,ov,iv] (setItem ov iv v)
   release [v,ov,iv] []):=by intro _; rfl):SV X (.Assign [.Subscript (.Name x p) b tpos] e pos) (Kd i fk fv):=
 PS.imp (HX hv' (H0 (j7 hN hv hd hcd) hb Bx ha) hs hw) fun D σ H h=>by
  obtain ⟨H₀,Z₀,Z,δ,r,hh,e,k⟩:=h
  obtain ⟨v,e1,e⟩:=bind_some e
  obtain ⟨y,e2,e⟩:=bind_some e
  obtain ⟨ds,e3,e⟩:=bind_some e
  obtain ⟨ds',e4,e⟩:=bind_some e
  cases e
  refine ⟨H₀,Z₀,Z,δ,v,hh,e1,fun w Z1 H1 hh1 t1 r1=>?_⟩
  obtain ⟨a,xs,h1,h4,h5⟩:=oy hh1 e3
  refine ⟨_,h1,H₀,Z₀,Z1,δ,y,hh1,e2,fun u Z2 H2 hh2 t2 r2=>?_⟩
  obtain ⟨a',xs',g1,g4,g5⟩:=oy hh2 e3
  rw [h1] at g1
  cases g1
  cases r2 with
  | int j=>
   rw [qw] at e4
   cases q:yP ds.length j with
   | none=>rw [q] at e4; cases e4
   | some n=>
    rw [q] at e4
    cases e4
    refine ⟨a,xs',j,n,rfl,rfl,g4,by rw [g5.length]; exact q,?_⟩
    exact k σ _ Z2 (hh2.chg (xs:=xs') (i6 e3) h1 (g5.set (r1.same t2) n)) (t1.trans t2)
  | _=>cases e4
theorem qi (i:Nat) {x:Str} {cpos:Pos} (hv':EV X e f) (hN:X.N[i]? = some x:=by rfl) (hv:Dg X.env.scope x:=by first | exact Or.inl rfl | exact Or.inr (Or.inl rfl) | exact Or.inr (Or.inr rfl)) (hd:(x==("__debug__":Str))=false:=by decide) (hcd:(x==("__classdict__":Str))=false:=by decide)
  (hbase:attributeBase (.Name x p) "append" X.env (eval (.Name x p) X.env)=eval (.Name x p) X.env:=by rfl)
  (hfew:((backTo cpos (starEach [e] X.env)).all (fun x=>!x.1)&&(backToKw cpos (keywordEach [] X.env)).all (fun x=>x.1.isSome)
   && decide ([e].length+([]:List Keyword).length+(if ([]:List Keyword).isEmpty then 0 else 1)<30))=true:=by rfl)
  (hline:(apos.endLine==cpos.line)=true:=by rfl) (hs:starEach [e] X.env=(false,eval e X.env)::starEach [] X.env:=by rfl) (hplain:(backTo cpos (starEach [] X.env)).any (·.1)=false:=by rfl)
  (hsw:swapsWith (.Call (.Attribute (.Name x p) "append" apos) [e] [] cpos) none pos.line X.env=pure false:=by rfl):SV X (.Expr (.Call (.Attribute (.Name x p) "append" apos) [e] [] cpos) pos) (wU i f):=
 PS.imp (pP (GD PySem.F.plainAttrs_list PySem.F.slot_list_append PySem.F.type_list_append Af (j7 hN hv hd hcd) (gr hv' lZ hs) hbase hfew hline hs hplain) hsw) fun D σ H h=>by
  obtain ⟨H₀,Z₀,Z,δ,r,hh,e,k⟩:=h
  obtain ⟨v,e1,e⟩:=bind_some e
  obtain ⟨ds,e2,e⟩:=bind_some e
  by_cases hl:ds.length<sizeLine
  ·rw [if_pos hl] at e
   cases e
   obtain ⟨a,xs,h1,h4,h5⟩:=oy hh e2
   refine ⟨_,h1,.inl ⟨rfl,xs,SqL.of h4⟩,H₀,Z₀,Z,δ,v,hh,e1,fun w Z1 H1 hh1 t1 r1=>?_⟩
   obtain ⟨a',xs',g1,g4,g5⟩:=oy hh1 e2
   rw [h1] at g1
   cases g1
   exact ⟨a,xs',w,rfl,rfl,g4,by rw [g5.length]; exact hl,k σ _ Z1 (hh1.chg (xs:=xs') (i6 e2) h1 (g5.append (.cons r1 .nil))) t1⟩
  ·rw [if_neg hl] at e; cases e
end
end VL
set_option Elab.async false
set_option linter.all false
set_option maxRecDepth 100000
set_option maxHeartbeats 4000000
namespace VL
open PySem PySem.Spec PyProof.Rows L2
section
noncomputable def Bc (wi:TI) (g:TG) (tt:TT) (te:TE) (vars:List Str) (caps:List (Nat×Str)):TE:=fun σ H Q=>wi σ H fun J H1=>∃ W:Nat->Nat->List V->Hp->Prop,(∃ m,W 0 m [] H1)/\∀ i m ys H,W i m ys H ->
 (J.stop i H/\ys.length<=sizeLine/\∀ p,H p=none->Q (.ref p) (eA H p (.lst ys))) \/
 (J.go i H/\ys.length<sizeLine/\∀ x H',J.yld i H x H'->g x (vars.map (fun _=>none)++iF σ caps) H' fun σ2 H2=>zo (vars.map (fun _=>none)++iF σ caps) σ2/\tt σ2 H2 fun b H3=>if b=true then te σ2 H3 fun y H4=>∃ m',m'<m/\W (i+1) m' (ys++[y]) H4 else ∃ m',m'<m/\W (i+1) m' ys H3)
theorem nV {prog:Program} {w:World} {A:Around} {R:Result->Shared->Prop} {s:Shared} {elt target iter cnd:Expr} {scope:Scope} {pos:Pos} {it acc:Value} {env:Env} (I:Nat->Shared->Prop)
  (turn:∀ n s,I n s->wpAny (model prog w) A (pyNext it) (fun r s₁=>match r with
   | none=>R (.ok .next) s₁
   | some v=>wpAny (model prog w) A (letOwnedTupleGo target it v) (fun _ s₁=>wpAny (model prog w) A (assign target env v) (fun _ s₂=>wpAny (model prog w) A (isTrue cnd env (eval cnd env)) (fun ok s₂=>if ok=true then wpAny (model prog w) A (eval elt env) (fun x s₃=>
     wpAny (model prog w) A (call (.builtin "list.append") [acc,x]) (fun _ s₄=>∃ m,m<n/\I m s₄) (fun _ _=>False) s₃) (fun _ _=>False) s₂ else ∃ m,m<n/\I m s₂) (fun _ _=>False) s₂) (fun _ _=>False) s₁) (fun _ _=>False) s₁) (fun _ _=>False) s)
  (n:Nat) (h:I n s):codeAny (model prog w) A (.compLoop (.ListComp elt [⟨target,iter,[cnd],0⟩] scope pos) 0 it acc env) R s:=by
 refine codeAny_loop rfl I (fun n s hI=>?_) n h
 show wpAny _ _ ((compTurn (.ListComp elt [⟨target,iter,[cnd],0⟩] scope pos) 0 it acc env).onRaise (fun x=>do noteFrame x env; theTreesLotGoes x)) _ _ s
 refine wpAny_noted ?_
 rw [compTurn_list]
 refine wpAny_bind (wpAny_standAt (wpAny_bind (wpAny_mono (turn n s hI) (fun r s₁ h₁=>?_) fun _ _ h'=>h'.elim)))
 cases r with
 | none=>exact wpAny_pure h₁
 | some v=>
  refine wpAny_bind (wpAny_mono h₁ (fun _ s₁ h₁=>?_) fun _ _ h'=>h'.elim)
  refine wpAny_bind (wpAny_mono h₁ (fun _ s₂ h₂=>?_) fun _ _ h'=>h'.elim)
  refine wpAny_bind (wpAny_tests_one (wpAny_mono h₂ (fun okb s₃ h₃=>?_) fun _ _ h'=>h'.elim))
  cases okb with
  | false=>exact wpAny_pure ⟨rfl,h₃⟩
  | true=>exact wpAny_bind (wpAny_bind (wpAny_mono h₃ (fun x s₄ h₄=>wpAny_bind (wpAny_mono h₄ (fun _ s₅ h₅=>wpAny_pure (wpAny_pure ⟨rfl,h₅⟩)) fun _ _ h'=>h'.elim)) fun _ _ h'=>h'.elim))
end
section
variable {X:Cx} {scope:Scope} {vars:List Str} {caps:List (Nat×Str)} {elt tg iter cnd:Expr} {pos:Pos} {wi:TI} {g:TG} {tt:TT} {te:TE}
theorem wk {Cm:Cx->Prop} (B:BlkOk X.env.scope.names X.N scope vars caps)
  (hg:∀ C s₀ H₀ ex,PG (blk X scope (vars++caps.map (·.2)) C s₀ H₀ ex) tg g) (hb:∀ C s₀ H₀ ex,PT (blk X scope (vars++caps.map (·.2)) C s₀ H₀ ex) cnd tt) (he:∀ C s₀ H₀ ex,PE (blk X scope (vars++caps.map (·.2)) C s₀ H₀ ex) elt te)
  {pins:List (Addr×Obj)} {σ:St} {H2:Hp} {s2:Shared} {Q:VK} {it:Addr} {fp:List Addr} {tn:Nat->Heap->Prop} {J:It} (I2:Inv X pins σ H2 s2) (T:TurnG Cm X.prog X.w X.K tg J fp it tn) (st2:tn 0 s2.heap) (f2:∀ b∈fp,lJ X pins H2 b) (hc:∀ C,Cm (blk X scope (vars++caps.map (·.2)) C s2 H2 fp))
  {W:Nat->Nat->List V->Hp->Prop} {m0:Nat} (w0:W 0 m0 [] H2) (turn:∀ i m ys H,W i m ys H ->
   (J.stop i H/\ys.length<=sizeLine/\∀ p,H p=none->Q (.ref p) (eA H p (.lst ys))) \/
   (J.go i H/\ys.length<sizeLine/\∀ x H',J.yld i H x H'->g x (vars.map (fun _=>none)++iF σ caps) H' fun σ2 H2=>zo (vars.map (fun _=>none)++iF σ caps) σ2/\tt σ2 H2 fun b H3=>if b=true then te σ2 H3 fun y H4=>∃ m',m'<m/\W (i+1) m' (ys++[y]) H4 else ∃ m',m'<m/\W (i+1) m' ys H3))
  {RR:Value->Addr->Result->Shared->Prop} {E:Value->Shared->Prop}
  (hRR:∀ D C s' m,s'.heap.Ns C m->D≠C->s2.heap.objs.size<=D->s2.heap.objs.size<=C->∀ H',H' C=none->(∀ h',Heap.SameBut C s'.heap h'->Inv X pins σ H' { s' with heap:=h' })->Q (.ref D) H'->RR (.ref D) C (.ok .next) s') :
  wpAny (model X.prog X.w) X.A (newList []) (fun acc s₃=>wpAny (model X.prog X.w) X.A (newFunctionEnv scope X.env.globals (mt X.env scope.names []) [] X.env.qual none .none (some X.env)) (fun cenv s₄=>
   codeAny (model X.prog X.w) X.A (.compStart (.ListComp elt [⟨tg,iter,[cnd],0⟩] scope pos) 0 (.ref it) acc { cenv with scope:=relabel scope X.env }) (RR acc cenv.locals) s₄) E s₃) E s2:=by
 refine wpAny_newObj_type (wpAny_newFunctionEnv B.cell (by intro y hy; simp at hy) (fun h₁ hns₁ hsb₁=>?_) B.kind)
 dsimp only at hns₁ hsb₁ ⊢
 generalize hP:s2.heap.push { cls:=.type "list",dict:=none,data:=.seq ([]:List Value).toArray }=HP at hns₁ hsb₁ ⊢
 have hCs:HP.objs.size=s2.heap.objs.size+1:=by rw [<- hP,Heap.size_push]
 have hDC:s2.heap.objs.size≠HP.objs.size:=by rw [hCs]; exact Nat.ne_of_lt (Nat.lt_succ_self _)
 have hCle:s2.heap.objs.size<=HP.objs.size:=by rw [hCs]; exact Nat.le_succ _
 have old:∀ b o,s2.heap.get? b=some o->h₁.get? b=some o:=fun b o e=>hsb₁.extBut b o (Nat.ne_of_lt (Nat.lt_of_lt_of_le (Heap.lt_size e) hCle)) (Heap.get?_push_of_some _ (hP ▸ Heap.get?_push_of_some _ e))
 have hacc:h₁.PlainList s2.heap.objs.size #[]:=⟨_,hsb₁.extBut _ _ hDC (Heap.get?_push_of_some _ (hP ▸ Heap.get?_push_size _ rfl))⟩
 have flt:∀ b∈fp,b<s2.heap.objs.size:=fun b hb=>by
  obtain ⟨o,e,_⟩:=T.obj _ _ st2 b hb
  exact Heap.lt_size e
 have st1:tn 0 h₁:=T.keep _ _ _ st2 fun b _ o e=>old b o e
 have loop:∀ s3:Shared,s3={ s2 with heap:=h₁,toks:=s2.toks+([]:List (Str×Value)).length } ->
   codeAny (model X.prog X.w) X.A (.compLoop (.ListComp elt [⟨tg,iter,[cnd],0⟩] scope pos) 0 (.ref it) (.ref s2.heap.objs.size) (compEnvC scope (mt X.env scope.names []) HP.objs.size X.env))
    (RR (.ref s2.heap.objs.size) HP.objs.size) s3:=by
  rintro s3 rfl
  have X':=blk X scope (vars++caps.map (·.2)) HP.objs.size s2 H2 fp
  have fpo:∀ {H':Hp},(∀ b∈fp,H' b=none)->∀ b∈fp,lJ (blk X scope (vars++caps.map (·.2)) HP.objs.size s2 H2 fp) [] H' b:=fun hn b hb=>by
   have ok:=xD B I2 f2 flt hCle
   exact ⟨hn b hb,(ok.exf b hb).1,ok.exfs b hb,.inl hb,(ok.exf b hb).2,fun p hp=>absurd (show p∈([]:List (Addr×Obj)) from hp) (by simp)⟩
  refine nV (fun n s=>∃ i ys H its,Inv (blk X scope (vars++caps.map (·.2)) HP.objs.size s2 H2 fp) [] (vars.map (fun _=>none)++iF σ caps) H s/\tn i s.heap/\(∀ b∈fp,H b=none)/\s.heap.PlainList s2.heap.objs.size (List.toArray its)/\H s2.heap.objs.size=none/\Vals ys its/\W i n ys H) ?_ m0
   ⟨0,[],H2,[],za B I2 f2 flt hCle hns₁ old,st1,fun b hb=>(f2 b hb).1,hacc,I2.hok.fresh (Nat.le_refl _),.nil,w0⟩
  rintro n s4 ⟨i,ys,H4,its,I4,st4,fr4,pl4,nD4,v4,w4⟩
  obtain ⟨nn,eD⟩:=id pl4
  have DnL:s2.heap.objs.size≠(blk X scope (vars++caps.map (·.2)) HP.objs.size s2 H2 fp).env.locals:=hDC
  have Dfs:s2.heap.objs.size ∉ (blk X scope (vars++caps.map (·.2)) HP.objs.size s2 H2 fp).fs:=fun z=>by
   rcases List.mem_cons.mp (I2.stkSub _ z) with q | q
   ·have:=I2.lt; rw [<- q] at this; exact Nat.lt_irrefl _ this
   ·exact I2.nofs (Nat.le_refl _) q
  have Dfp:∀ b∈fp,s2.heap.objs.size≠b:=fun b hb z=>by have:=flt b hb; rw [<- z] at this; exact Nat.lt_irrefl _ this
  have DnC:∀ x c,(blk X scope (vars++caps.map (·.2)) HP.objs.size s2 H2 fp).env.cells.lookup x=some c->c≠s2.heap.objs.size:=fun x c e z=>by
   rcases cP _ _ _ _ (B.cells I2) e with q | q
   ·cases q
   ·obtain ⟨v,o,ho,_⟩:=I2.cell x c q
    have:=Heap.lt_size ho
    rw [z] at this
    exact Nat.lt_irrefl _ this
  have pinD:∀ {σ':St} {H':Hp} {s':Shared},Inv (blk X scope (vars++caps.map (·.2)) HP.objs.size s2 H2 fp) [(s2.heap.objs.size,{ cls:=.type "list",data:=.seq its.toArray nn })] σ' H' s'->s'.heap.PlainList s2.heap.objs.size its.toArray/\H' s2.heap.objs.size=none:=fun {σ' H' s'} I'=>by
   obtain ⟨q1,q2,_⟩:=I'.pin (s2.heap.objs.size,{ cls:=.type "list",data:=.seq its.toArray nn }) (by simp [blk])
   exact ⟨⟨nn,q1⟩,q2⟩
  have I4p:Inv (blk X scope (vars++caps.map (·.2)) HP.objs.size s2 H2 fp) [(s2.heap.objs.size,{ cls:=.type "list",data:=.seq its.toArray nn })] (vars.map (fun _=>none)++iF σ caps) H4 s4:=
   I4.pins_of fun p hp=>by
    have e:p=(s2.heap.objs.size,{ cls:=.type "list",data:=.seq its.toArray nn }):=by simpa [blk] using hp
    subst e
    exact ⟨eD,nD4,DnL,Dfs,fun v z=>by cases z⟩
  have fpo':∀ {H':Hp},(∀ b∈fp,H' b=none)->∀ b∈fp,lJ (blk X scope (vars++caps.map (·.2)) HP.objs.size s2 H2 fp) [(s2.heap.objs.size,{ cls:=.type "list",data:=.seq its.toArray nn })] H' b:=fun hn b hb=>by
   obtain ⟨q1,q2,q3,q4,q5,_⟩:=fpo hn b hb
   exact ⟨q1,q2,q3,q4,q5,fun p hp=>by
    have e:p=(s2.heap.objs.size,{ cls:=.type "list",data:=.seq its.toArray nn }):=by simpa [blk] using hp
    subst e
    exact Dfp b hb⟩
  have unp:∀ {pl:List (Addr×Obj)} {σ':St} {H':Hp} {s':Shared},Inv (blk X scope (vars++caps.map (·.2)) HP.objs.size s2 H2 fp) pl σ' H' s'->Inv (blk X scope (vars++caps.map (·.2)) HP.objs.size s2 H2 fp) [] σ' H' s':=fun {pl σ' H' s'} I'=>
   I'.pins_of fun p hp=>absurd (show p∈([]:List (Addr×Obj)) from hp) (by simp)
  rcases turn i n ys H4 w4 with ⟨stop,hz,qn⟩ | ⟨go,hz,step⟩
  ·refine dS (T.done (blk X scope (vars++caps.map (·.2)) HP.objs.size s2 H2 fp) rfl rfl rfl (hc _) i _ s4 _ H4 _ I4p (fpo' fr4) st4 stop) fun r s5 ⟨hr,I5⟩=>?_
   subst hr
   obtain ⟨p5,n5⟩:=pinD I5
   obtain ⟨m5,ns5,_⟩:=I5.loc
   refine hRR _ _ s5 m5 ns5 hDC (Nat.le_refl _) hCle _ ?_ (fun h' hs'=>y9 I2 f2 hCle (Nat.le_refl _) hDC (unp I5) n5 p5 v4 hz hs') (qn _ n5)
   rw [aI hDC.symm]
   exact I5.free
  ·refine dS (T.item (blk X scope (vars++caps.map (·.2)) HP.objs.size s2 H2 fp) rfl rfl rfl (hc _) i _ s4 _ H4 _ I4p (fpo' fr4) st4 go) fun r s5 ⟨u,hr,h5⟩=>?_
   subst hr
   refine dS h5 fun _ s6 ⟨x,H6,I6,rx,yx,st6,fr6⟩=>?_
   have I6p:=I6.pinned (fpo' fr6) (T.obj _ _ st6)
   refine dS (hg _ _ _ _ _ s6 _ H6 x u _ I6p rx (step x H6 yx)) fun _ s7 ⟨σ7,H7,I7,kp,q7⟩=>?_
   refine dS (hb _ _ _ _ _ s7 σ7 H7 _ I7 q7) fun okb s7' q7'=>?_
   obtain ⟨H7',I7',q7'⟩:=q7'
   cases okb with
   | false=>
    obtain ⟨m',hm,w8⟩:=q7'
    rw [if_neg (by decide)]
    obtain ⟨p8,n8⟩:=pinD I7'.unpinned
    have st8:tn (i+1) s7'.heap:=T.keep _ _ _ st6 fun b hb o e=>(I7'.pin (b,o) (List.mem_append_right _ (List.mem_append_right _ (en hb e)))).1
    have fr8:∀ b∈fp,H7' b=none:=fun b hb=>by
     obtain ⟨o,e,d⟩:=T.obj _ _ st6 b hb
     exact (I7'.pin (b,o) (List.mem_append_right _ (List.mem_append_right _ (en hb e)))).2.1
    exact ⟨m',hm,i+1,ys,H7',its,(unp I7').weak kp.1 kp.2,st8,fr8,p8,n8,v4,w8⟩
   | true=>
   rw [if_pos rfl]
   rw [if_pos rfl] at q7'
   refine dS (he _ _ _ _ _ s7' σ7 H7' _ I7' q7') fun v s8 ⟨y,H8,I8,ry,m',hm,w8⟩=>?_
   obtain ⟨p8,n8⟩:=pinD I8.unpinned
   have st8:tn (i+1) s8.heap:=T.keep _ _ _ st6 fun b hb o e=>(I8.pin (b,o) (List.mem_append_right _ (List.mem_append_right _ (en hb e)))).1
   have fr8:∀ b∈fp,H8 b=none:=fun b hb=>by
    obtain ⟨o,e,d⟩:=T.obj _ _ st6 b hb
    exact (I8.pin (b,o) (List.mem_append_right _ (List.mem_append_right _ (en hb e)))).2.1
   have hl:=v4.length
   refine wpAny_list_append_plain p8 (fun h9 p9 sb9=>⟨m',hm,i+1,ys++[y],H8,its++[v],?_,?_,fr8,by simpa using p9,n8,v4.append (.cons ry .nil),w8⟩) (by simp; omega)
   ·have I9:Inv (blk X scope (vars++caps.map (·.2)) HP.objs.size s2 H2 fp) [] σ7 H8 { s8 with heap:=h9,toks:=s8.toks }:=
     (unp I8).turned (it:=s2.heap.objs.size) (fun b o hb e=>sb9.extBut b o hb e) n8 DnL (.inr (Nat.le_refl _)) DnC fun p hp=>absurd (show p∈([]:List (Addr×Obj)) from hp) (by simp)
    exact I9.weak kp.1 kp.2
   ·exact T.keep _ _ _ st8 fun b hb o e=>sb9.extBut b o (Dfp b hb).symm e
 exact codeAny_compStart_list (loop _ rfl) (T.self _ 0 _ _ _ st1 (loop _ rfl))
theorem BS (B:BlkOk X.env.scope.names X.N scope vars caps) (hc:X.calm=true) (hi:PI X tg iter wi)
  (hg:∀ C s₀ H₀ ex,PG (blk X scope (vars++caps.map (·.2)) C s₀ H₀ ex) tg g) (hb:∀ C s₀ H₀ ex,PT (blk X scope (vars++caps.map (·.2)) C s₀ H₀ ex) cnd tt) (he:∀ C s₀ H₀ ex,PE (blk X scope (vars++caps.map (·.2)) C s₀ H₀ ex) elt te) (hs:∀ x,foldedSetIterable iter X.env x=pure x:=by intro _; rfl) :
  PE X (.ListComp elt [⟨tg,iter,[cnd],0⟩] scope pos) (Bc wi g tt te vars caps):=by
 intro pins s σ H Q I h
 rw [eval_ListComp]
 refine wpAny_comprehension_free (use:=none) rfl hs (jb (B.cells I)) B.kind B.names ?_
 show wpAny _ _ (eval iter X.env) _ _ s
 refine dS (hi pins s σ H _ I h) fun v s1 h1=>dS h1 fun itv s2 h2=>?_
 obtain ⟨it,fp,tn,J,H2,e,I2,T,st2,f2,W,⟨m0,w0⟩,turn⟩:=h2
 subst e
 exact wk (Cm:=fun X=>X.calm=true) B hg hb he I2 T st2 f2 (fun _=>hc) w0 turn (RR:=fun acc C=>compPost (model X.prog X.w) X.A X.xe none (EP X pins σ Q) acc C) fun D C s' m ns _ _ _ H' _ k q=>⟨m,ns,fun h' hs'=>⟨.ref D,H',k h' hs',rfl,q⟩⟩
end
noncomputable def jN (t:D->Option Bool) (f:D->Option D):List D->Option (List D)
 | []=>some []
 | d::ds=>(t d).bind fun b=>if b=true then (f d).bind fun e=>(jN t f ds).bind fun es=>some (e::es) else jN t f ds
@[simp] theorem Lh {t:D->Option Bool} {f:D->Option D}:jN t f []=some []:=rfl
noncomputable def mj (fi:Dv->Option (List D)) (caps:List (Nat×Str)) (bv:D->Option (List D)) (ft:Dv->Option Bool) (fe:Dv->Option D):Dv->Option D:=fun δ=>(fi δ).bind fun ds=>if ds.length<=sizeLine then (jN (fun d=>(bv d).bind fun vs=>ft (vs.map .fz++capS δ caps)) (fun d=>(bv d).bind fun vs=>fe (vs.map .fz++capS δ caps)) ds).bind fun es=>some (.list es) else none
theorem nR {t:D->Option Bool} {f:D->Option D}:∀ {ds es:List D} {i:Nat} {d:D},jN t f ds=some es->ds[i]? = some d->∃ xs,jN t f (ds.take i)=some xs/\∃ b,t d=some b/\(b=false->jN t f (ds.take (i+1))=some xs)/\(b=true->∃ e,f d=some e/\jN t f (ds.take (i+1))=some (xs++[e]))
 | [],es,i,d,h,q=>by simp at q
 | d::ds,es,i,d',h,q=>by
  obtain ⟨b,h1,h⟩:=bind_some h
  cases i with
  | zero=>
   simp at q; subst q
   refine ⟨[],rfl,b,h1,fun hb=>?_,fun hb=>?_⟩
   ·subst hb; simp [jN,h1]
   ·subst hb
    rw [if_pos rfl] at h
    obtain ⟨e,h2,h⟩:=bind_some h
    exact ⟨e,h2,by simp [jN,h1,h2]⟩
  | succ i=>
   simp at q
   cases b with
   | false=>
    rw [if_neg (by decide)] at h
    obtain ⟨xs,g1,b',g2,g3,g4⟩:=nR (i:=i) h q
    refine ⟨xs,by simp [jN,h1,g1],b',g2,fun hb=>by simpa [jN,h1] using g3 hb,fun hb=>?_⟩
    obtain ⟨e,k1,k2⟩:=g4 hb
    exact ⟨e,k1,by simpa [jN,h1] using k2⟩
   | true=>
    rw [if_pos rfl] at h
    obtain ⟨e0,h2,h⟩:=bind_some h
    obtain ⟨es',h3,h⟩:=bind_some h
    obtain ⟨xs,g1,b',g2,g3,g4⟩:=nR (i:=i) h3 q
    refine ⟨e0::xs,by simp [jN,h1,h2,g1],b',g2,fun hb=>by simp [jN,h1,h2,g3 hb],fun hb=>?_⟩
    obtain ⟨e,k1,k2⟩:=g4 hb
    exact ⟨e,k1,by simp [jN,h1,h2,k2]⟩
theorem uG {t:D->Option Bool} {f:D->Option D}:∀ {ds es:List D},jN t f ds=some es->es.length<=ds.length
 | [],es,h=>by cases h; exact Nat.le_refl _
 | d::ds,es,h=>by
  obtain ⟨b,h1,h⟩:=bind_some h
  cases b with
  | false=>rw [if_neg (by decide)] at h; exact Nat.le_succ_of_le (uG h)
  | true=>
   rw [if_pos rfl] at h
   obtain ⟨e0,h2,h⟩:=bind_some h
   obtain ⟨es',h3,h⟩:=bind_some h
   cases h
   exact Nat.succ_le_succ (uG h3)
section
variable {X:Cx} {scope:Scope} {vars:List Str} {caps:List (Nat×Str)} {elt tg iter cnd:Expr} {pos:Pos} {g:TG} {fi:Dv->Option (List D)} {ft:Dv->Option Bool} {fe:Dv->Option D} {bv:D->Option (List D)}
theorem xz (tk:wz X.K g vars.length bv) {σ:St} {H:Hp} {Q:VK} (h:tV X.K (mj fi caps bv ft fe) σ H Q):Bc (LE X.K fi) g (JZ X.K ft) (tV X.K fe) vars caps σ H Q:=by
 obtain ⟨H₀,Z₀,Z,δ,d,hh,e,k⟩:=h
 obtain ⟨ds,e1,e⟩:=bind_some e
 by_cases hz:ds.length<=sizeLine
 ·rw [if_pos hz] at e
  obtain ⟨es,e2,e⟩:=bind_some e
  cases e
  have hv:vars.map (fun _=>(none:Option V))=List.replicate vars.length none:=by rw [List.map_const']
  refine ⟨H₀,Z₀,Z,δ,ds,hh,e1,fun J Z1 H1 hh1 t1 ok=>?_⟩
  refine ⟨fun i m ys H=>m=ds.length-i/\i<=ds.length/\∃ Zc xs,Hold X.K H₀ Z₀ Zc δ σ H/\Same Z1 Zc/\jN (fun d=>(bv d).bind fun vs=>ft (vs.map .fz++capS δ caps)) (fun d=>(bv d).bind fun vs=>fe (vs.map .fz++capS δ caps)) (ds.take i)=some xs/\Reps X.K Zc ys xs,⟨ds.length,by simp,Nat.zero_le _,Z1,[],hh1,Same.refl _,rfl,.nil⟩,?_⟩
  rintro i m ys H2 ⟨rfl,hi2,Zc,xs,hhc,tc,fx,rc⟩
  have zh:Same Z1 H2:=tc.trans hhc.zh
  have ly:=rc.length
  have lx:=uG fx
  rw [List.length_take] at lx
  by_cases hlt:i<ds.length
  ·refine .inr ⟨ok.go i H2 zh hlt,by omega,fun x H3 y=>?_⟩
   have ed:ds[i]? = some ds[i]:=by simp [hlt]
   obtain ⟨rfl,rx⟩:=ok.yld i H2 x H3 _ zh ed y
   obtain ⟨xs',f0,b,fb,ff,ftr⟩:=nR e2 ed
   rw [fx] at f0
   cases f0
   obtain ⟨vs,f3,f1⟩:=bind_some fb
   rw [hv]
   refine tk x Zc ds[i] vs (iF σ caps) H3 _ (rx.same tc) hhc.zh f3 fun us ru hn=>⟨⟨by simp [hn],fun j v q=>?_⟩,?_⟩
   ·by_cases hj:j<vars.length
    ·rw [List.getElem?_append_left (by simpa using hj),List.getElem?_replicate] at q
     split at q <;> cases q
    ·rw [List.getElem?_append_right (by simpa using hj)] at q
     rw [List.getElem?_append_right (by simpa [hn] using hj)]
     simpa [hn] using q
   ·refine ⟨H3,Zc,Zc,_,b,qX hhc ru,f1,fun Z3 H3' h3 t3=>?_⟩
    have hh3:=hhc.new ⟨t3,h3.h0,h3.zh,h3.zb⟩
    cases b with
    | false=>
     dsimp only
     rw [if_neg (by decide)]
     exact ⟨ds.length-(i+1),by omega,rfl,hlt,Z3,xs,hh3,tc.trans t3,ff rfl,rc.same t3⟩
    | true=>
     dsimp only
     rw [if_pos rfl]
     obtain ⟨ei,f2,f4⟩:=ftr rfl
     rw [f3] at f2
     refine ⟨H3,Zc,Z3,_,ei,h3,f2,fun v Z4 H4 h4 t4 r4=>⟨ds.length-(i+1),by omega,rfl,hlt,Z4,xs++[ei],?_,(tc.trans t3).trans t4,f4,((rc.same t3).same t4).append (.cons r4 .nil)⟩⟩
     exact hhc.new ⟨t3.trans t4,h4.h0,h4.zh,h4.zb⟩
  ·have hie:i=ds.length:=by omega
   subst hie
   refine .inl ⟨ok.stop _ H2 zh (Nat.le_refl _),by omega,fun p hp=>?_⟩
   rw [List.take_length,e2] at fx
   cases fx
   have n:=New.add hhc.zh hp (.lst ys)
   exact k _ _ _ (hhc.new n) ((t1.trans tc).trans n.z) (.lst (SqL.of aR) (rc.same n.z))
 ·rw [if_neg hz] at e; cases e
theorem qQ (B:BlkOk X.env.scope.names X.N scope vars caps) (hc:X.calm=true) (hi:IV X tg iter fi) (tk:wz X.K g vars.length bv)
  (hg:∀ C s₀ H₀ ex,PG (blk X scope (vars++caps.map (·.2)) C s₀ H₀ ex) tg g) (hb:∀ C s₀ H₀ ex,TV (blk X scope (vars++caps.map (·.2)) C s₀ H₀ ex) cnd ft) (he:∀ C s₀ H₀ ex,EV (blk X scope (vars++caps.map (·.2)) C s₀ H₀ ex) elt fe) (hs:∀ x,foldedSetIterable iter X.env x=pure x:=by intro _; rfl) :
  EV X (.ListComp elt [⟨tg,iter,[cnd],0⟩] scope pos) (mj fi caps bv ft fe):=
 PE.imp (BS (tt:=JZ X.K ft) (te:=tV X.K fe) B hc hi hg hb he hs) fun _ _ _ h=>xz tk h
end
end VL
set_option Elab.async false
set_option linter.all false
set_option maxRecDepth 100000
set_option maxHeartbeats 4000000
namespace VL
open PySem PySem.Spec PyProof.Rows L2
section
variable {X:Cx} {a b c:Expr} {pos:Pos} {f1 f2 f3:Dv->Option D}
end
noncomputable def DN:D->Bool
 | .none=>true
 | .bool _=>true
 | .int _=>true
 | .str _=>true
 | _=>false
noncomputable def LQ (x:D) (ds:List D):Bool:=ds.any fun y=>PyData.eqv y x
noncomputable def La (neg:Bool):D->D->Option D:=fun a b=>(eQ b).bind fun ds=>if DN a=true/\ds.all DN=true then some (.bool (if neg=true then !LQ a ds else LQ a ds)) else none
theorem Rep.flat {K:Fg} {Z:Hp} {v:V} {d:D} (r:Rep K Z v d):lM v=DN d:=by cases r <;> rfl
theorem Rep.eqF {K:Fg} {Z:Hp} {v u:V} {d e:D} (r:Rep K Z v d) (q:Rep K Z u e) (h1:DN d=true) (h2:DN e=true):DO v u=PyData.eqv d e:=by
 cases r <;> first | (cases q <;> first | rfl | cases h2) | cases h1
theorem Reps.allF {K:Fg} {Z:Hp}:∀ {vs:List V} {ds:List D},Reps K Z vs ds->vs.all lM=ds.all DN
 | _,_,.nil=>rfl
 | _,_,.cons r t=>by rw [List.all_cons,List.all_cons,r.flat,t.allF]
theorem Reps.inF {K:Fg} {Z:Hp} {x:V} {a:D} (q:Rep K Z x a) (h:DN a=true):∀ {vs:List V} {ds:List D},Reps K Z vs ds->ds.all DN=true->LP x vs=LQ a ds
 | _,_,.nil,_=>rfl
 | _,_,.cons r t,f=>by
  rw [List.all_cons,Bool.and_eq_true] at f
  show (DO _ x||LP x _)=(PyData.eqv _ a||LQ a _)
  rw [r.eqF q f.1 h,t.inF q h f.2]
theorem FN {K:Fg} {neg:Bool} {x y:V} {H:Hp} {Q:VK} (h:rD K (La neg) x y H Q):MQ K neg x y H Q:=by
 obtain ⟨Z,a,b,d,zh,ra,rb,e,k⟩:=h
 obtain ⟨ds,e1,e⟩:=bind_some e
 by_cases c:DN a=true/\ds.all DN=true
 ·rw [if_pos c] at e
  cases e
  have go:∀ (xs:List V),Reps K Z xs ds->(∃ p,y=.ref p/\(SqL K H p xs\/SqT K H p xs))->MQ K neg x y H Q:=fun xs r ⟨p,ey,hq⟩=>by
   refine ⟨p,xs,ey,hq,by rw [ra.flat]; exact c.1,by rw [r.allF]; exact c.2,?_⟩
   have:=r.inF ra c.1 c.2
   rw [this]
   exact k _ Z H (New.refl zh) (.bl _)
  cases rb with
  | lst h q=>cases e1; exact go _ q ⟨_,rfl,.inl (SqL.same h zh)⟩
  | tup h q=>cases e1; exact go _ q ⟨_,rfl,.inr (SqT.same h zh)⟩
  | _=>cases e1
 ·rw [if_neg c] at e; cases e
theorem Lo {X:Cx}:OpR X (compareOp .In) (rD X.K (La false)):=OpR.imp zR fun _ _ _ _ h=>FN h
noncomputable def gT:List (D->Dv->Option Dv)->List D->Dv->Option Dv
 | [],[],δ=>some δ
 | g::gs,d::ds,δ=>(g d δ).bind fun δ1=>gT gs ds δ1
 | _,_,_=>none
noncomputable def OK (gs:List (D->Dv->Option Dv)):D->Dv->Option Dv
 | .tuple ds,δ=>gT gs ds δ
 | _,_=>none
@[simp] theorem Nc (δ:Dv):gT [] [] δ = some δ:=rfl
@[simp] theorem LU (g:D->Dv->Option Dv) (gs:List (D->Dv->Option Dv)) (d:D) (ds:List D) (δ:Dv):gT (g::gs) (d::ds) δ = (g d δ).bind fun δ1=>gT gs ds δ1:=rfl
@[simp] theorem LT (gs:List (D->Dv->Option Dv)) (ds:List D) (δ:Dv):OK gs (.tuple ds) δ = gT gs ds δ:=rfl
section
variable {X:Cx} {pos:Pos} {e:Expr} {es:List Expr} {g:D->Dv->Option Dv} {gs:List (D->Dv->Option Dv)}
theorem PGs.imp {t t':Oe} (h:PGs X es t) (i:∀ v σ H Q,t' v σ H Q->t v σ H Q):PGs X es t':=fun pins s σ H x v Q I r q=>h pins s σ H x v Q I r (i _ _ _ _ q)
end
noncomputable def wN:Nat:=1000000
theorem lS {t:Dv->Option Bool} {b:Sf}:∀ {n m:Nat} {δ:Dv} {r:Fl×Dv},iH t b n δ = some r->n<=m->iH t b m δ = some r
 | 0,_,_,_,h,_=>by cases h
 | n+1,0,_,_,_,hm=>by omega
 | n+1,m+1,δ,r,h,hm=>by
  have hm:n<=m:=by omega
  obtain ⟨c,h1,h⟩:=bind_some h
  show ((t δ).bind fun c=>_)=_
  rw [h1,Option.bind_some]
  cases c with
  | false=>exact h
  | true=>
   rw [if_pos rfl] at h ⊢
   obtain ⟨⟨fl,δ2⟩,h2,h⟩:=bind_some h
   rw [h2,Option.bind_some]
   cases fl with
   | nx=>exact lS h hm
   | ct=>exact lS h hm
   | bk=>exact h
   | rt d=>exact h
theorem wG {t:Dv->Option Bool} {b:Sf} {δ:Dv} (n:Nat) (h:t δ = some false):iH t b (n+1) δ = some (.nx,δ):=by
 show ((t δ).bind fun c=>_)=_
 rw [h]; rfl
theorem A3 {t:Dv->Option Bool} {b:Sf} {δ δ2:Dv} {r:Fl×Dv} (n:Nat) (h:t δ = some true) (h2:b δ = some (.nx,δ2)) (h3:iH t b n δ2=some r):iH t b (n+1) δ = some r:=by
 show ((t δ).bind fun c=>_)=_
 rw [h,Option.bind_some,if_pos rfl,h2,Option.bind_some]
 exact h3
theorem bU {g:D->Dv->Option Dv} {b:Sf} {d:D} {ds:List D} {δ δ1 δ2:Dv} (h1:g d δ = some δ1) (h2:b δ1=some (.nx,δ2)):loop g b (d::ds) δ = loop g b ds δ2:=by
 show ((g d δ).bind fun δ1=>_)=_
 rw [h1,Option.bind_some,h2]; rfl
end VL
set_option Elab.async false
set_option linter.all false
set_option maxRecDepth 100000
set_option maxHeartbeats 4000000
namespace VL
open PySem PySem.Spec PyProof.Rows L2
noncomputable def tO (K:Fg) (f:Dv->Option (List D)):TE:=fun σ H Q=>∃ H₀ Z₀ Z δ ds,Hold K H₀ Z₀ Z δ σ H/\f δ = some ds/\∀ p vs Z' H',Hold K H₀ Z₀ Z' δ σ H'->Same Z Z'->H' p=none->Reps K Z' vs ds->Q (.ref p) (eA H' p (.lst vs))
noncomputable def EO (X:Cx) (e:Expr) (f:Dv->Option (List D)):Prop:=PE X e (tO X.K f)
noncomputable def yH (f:Dv->Option D):Dv->Option (List D):=fun δ=>(f δ).bind vX
@[simp] noncomputable def ou (i:Nat) (f:Dv->Option (List D)):Sf:=fun δ=>(f δ).bind fun ds=>some (.nx,δ.set i (.ow ds))
section
variable {X:Cx} {e:Expr} {es:List Expr} {p pos:Pos} {f:Dv->Option (List D)} {fs:Dv->Option (List D)}
theorem vA {K:Fg} {D:Ends} {i:Nat} {σ:St} {H:Hp} (h:JG K (ou i f) D σ H):tO K f σ H fun v H1=>D.nx (σ.set i (some v)) H1:=by
 obtain ⟨H₀,Z₀,Z,δ,r,hh,e,k⟩:=h
 obtain ⟨ds,e1,e⟩:=bind_some e
 cases e
 exact ⟨H₀,Z₀,Z,δ,ds,hh,e1,fun p vs Z1 H1 hh1 t1 hp r1=>k _ _ Z1 (hh1.setO hp r1) t1⟩
theorem Em (i:Nat) {x:Str} {pos':Pos} (hN:X.N.Nodup) (ha:EO X e f) (hi:X.N[i]? = some x:=by rfl) (hx:AZ X.env.scope x:=by first | exact Or.inl rfl | exact Or.inr rfl) (hs:swapsWith e (some (.Name x pos')) pos.line X.env=pure false:=by rfl)
  (hf:X.fn x=true\/X.env.scope.names.lookup x=some .local:=by first | exact .inl rfl | exact .inr rfl | assumption):SV X (.Assign [.Name x pos'] e pos) (ou i f):=
 PS.imp (ua hN hi hx ha hs hf) fun D σ H h=>vA h
end
section
variable {X:Cx} {scope:Scope} {vars:List Str} {caps:List (Nat×Str)} {elt tg iter cnd:Expr} {pos:Pos} {g:TG} {fi:Dv->Option (List D)} {ft:Dv->Option Bool} {fe:Dv->Option D} {bv:D->Option (List D)}
theorem xy (tk:wz X.K g vars.length bv) {σ:St} {H:Hp} {Q:VK} (h:tO X.K (yH (dI fi caps bv fe)) σ H Q):yg (LE X.K fi) g (tV X.K fe) vars caps σ H Q:=by
 obtain ⟨H₀,Z₀,Z,δ,d0,hh,e0,k⟩:=h
 obtain ⟨d,e,e0⟩:=bind_some e0
 obtain ⟨ds,e1,e⟩:=bind_some e
 by_cases hz:ds.length<=sizeLine
 ·rw [if_pos hz] at e
  obtain ⟨es,e2,e⟩:=bind_some e
  cases e
  obtain rfl:es=d0:=Option.some.inj e0
  have le:=kh e2
  have hv:vars.map (fun _=>(none:Option V))=List.replicate vars.length none:=by rw [List.map_const']
  refine ⟨H₀,Z₀,Z,δ,ds,hh,e1,fun J Z1 H1 hh1 t1 ok=>?_⟩
  refine ⟨fun i m ys H=>m=ds.length-i/\i<=ds.length/\∃ Zc,Hold X.K H₀ Z₀ Zc δ σ H/\Same Z1 Zc/\Reps X.K Zc ys (es.take i),⟨ds.length,by simp,Nat.zero_le _,Z1,hh1,Same.refl _,by simpa using .nil⟩,?_⟩
  rintro i m ys H2 ⟨rfl,hi2,Zc,hhc,tc,rc⟩
  have zh:Same Z1 H2:=tc.trans hhc.zh
  have ly:=rc.length
  rw [List.length_take] at ly
  by_cases hlt:i<ds.length
  ·refine .inr ⟨ok.go i H2 zh hlt,by omega,fun x H3 y=>?_⟩
   have ed:ds[i]? = some ds[i]:=by simp [hlt]
   obtain ⟨rfl,rx⟩:=ok.yld i H2 x H3 _ zh ed y
   obtain ⟨ei,f1,f2⟩:=qJ e2 ed
   obtain ⟨vs,f3,f1⟩:=bind_some f1
   rw [hv]
   refine tk x Zc ds[i] vs (iF σ caps) H3 _ (rx.same tc) hhc.zh f3 fun us ru hn=>⟨⟨by simp [hn],fun j v q=>?_⟩,?_⟩
   ·by_cases hj:j<vars.length
    ·rw [List.getElem?_append_left (by simpa using hj),List.getElem?_replicate] at q
     split at q <;> cases q
    ·rw [List.getElem?_append_right (by simpa using hj)] at q
     rw [List.getElem?_append_right (by simpa [hn] using hj)]
     simpa [hn] using q
   ·refine ⟨H3,Zc,Zc,_,ei,qX hhc ru,f1,fun v Z4 H4 h4 t4 r4=>⟨ds.length-(i+1),by omega,rfl,hlt,Z4,hhc.new ⟨t4,h4.h0,h4.zh,h4.zb⟩,tc.trans t4,?_⟩⟩
    have:es.take (i+1)=es.take i++[ei]:=by
     rw [List.take_add_one,f2]; rfl
    rw [this]
    exact (rc.same t4).append (.cons r4 .nil)
  ·have hie:i=ds.length:=by omega
   subst hie
   refine .inl ⟨ok.stop _ H2 zh (Nat.le_refl _),by omega,fun p hp=>?_⟩
   rw [<- le,List.take_length] at rc
   exact k p ys Zc _ hhc (t1.trans tc) hp rc
 ·rw [if_neg hz] at e; cases e
theorem qh (i:Nat) {y:Str} {py spos:Pos} (hN:X.N.Nodup) (B:BlkOk X.env.scope.names X.N scope vars caps) (hc:X.calm=true) (hi:IV X tg iter fi) (tk:wz X.K g vars.length bv)
  (hg:∀ C s₀ H₀ ex,PG (blk X scope (vars++caps.map (·.2)) C s₀ H₀ ex) tg g) (he:∀ C s₀ H₀ ex,EV (blk X scope (vars++caps.map (·.2)) C s₀ H₀ ex) elt fe)
  (hy:X.N[i]? = some y:=by rfl) (hx:AZ X.env.scope y:=by first | exact Or.inl rfl | exact Or.inr rfl) (hsw:swapsWith (.ListComp elt [⟨tg,iter,[],0⟩] scope pos) (some (.Name y py)) spos.line X.env=pure true:=by rfl)
  (hf:X.fn y=true\/X.env.scope.names.lookup y=some .local:=by first | exact .inl rfl | exact .inr rfl | assumption) (hs:∀ x,foldedSetIterable iter X.env x=pure x:=by intro _; rfl) :
  SV X (.Assign [.Name y py] (.ListComp elt [⟨tg,iter,[],0⟩] scope pos) spos) (ou i (yH (dI fi caps bv fe))):=
 PS.imp (yy (te:=tV X.K fe) B hc hi hg he hN hy hx hsw hf hs) fun D σ H h=>xy tk (vA h)
end
noncomputable def zD (t:Sf):Fl×Dv->Option (Fl×Dv)
 | (.nx,δ)=>t δ
 | r=>some r
@[simp] theorem LH (t:Sf) (δ:Dv):zD t (.nx,δ)=t δ:=rfl
@[simp] theorem LG (t:Sf) (d:D) (δ:Dv):zD t (.rt d,δ)=some (.rt d,δ):=rfl
@[simp] theorem LJ (t:Sf) (δ:Dv):zD t (.bk,δ)=some (.bk,δ):=rfl
@[simp] theorem LI (t:Sf) (δ:Dv):zD t (.ct,δ)=some (.ct,δ):=rfl
noncomputable def Lb (u w:Sf) (δ:Dv):Bool->Option (Fl×Dv)
 | true=>u δ
 | false=>w δ
@[simp] theorem N5 (u w:Sf) (δ:Dv):Lb u w δ true=u δ:=rfl
@[simp] theorem N6 (u w:Sf) (δ:Dv):Lb u w δ false=w δ:=rfl
theorem aC (s t:Sf) (δ:Dv):sSeq s t δ = (s δ).bind (zD t):=by
 unfold sSeq zD
 congr 1
theorem aJ (t:Dv->Option Bool) (u w:Sf) (δ:Dv):sIf t u w δ = (t δ).bind (Lb u w δ):=by
 unfold sIf
 congr 1
 funext c
 cases c <;> rfl
end VL
set_option Elab.async false
set_option linter.all false
set_option maxRecDepth 100000
set_option maxHeartbeats 4000000
namespace VL
open PySem PySem.Spec PyProof.Rows L2
noncomputable def pp:List D->Option (List Bool)
 | []=>some []
 | .bool b::r=>(pp r).map (b :: ·)
 | _=>none
noncomputable def Gq:List D->Option D
 | [.list xs]=>(pp xs).map fun bs=>.bool (bs.all id)
 | _=>none
noncomputable def wy:List D->Option D
 | [.list xs]=>(pp xs).map fun bs=>.bool (bs.any id)
 | _=>none
theorem qW {α:Type} (f:α -> Bool):∀ xs:List α,pp (xs.map fun a=>.bool (f a))=some (xs.map f)
 | []=>rfl
 | a::r=>by simp [pp,qW f r]
theorem Dc {α:Type} (f:α -> Bool) (xs:List α):Gq [.list (xs.map fun a=>.bool (f a))]=some (.bool (xs.all f)):=by
 simp [Gq,qW,List.all_map]
theorem wx {α:Type} (f:α -> Bool) (xs:List α):wy [.list (xs.map fun a=>.bool (f a))]=some (.bool (xs.any f)):=by
 simp [wy,qW,List.any_map]
noncomputable def Ki:D->Option D
 | .list xs=>some (.list xs.reverse)
 | _=>none
@[simp] theorem HM (xs:List D):Ki (.list xs)=some (.list xs.reverse):=rfl
noncomputable def Kj:D->Option (List D)
 | .list xs=>some xs.reverse
 | .tuple xs=>some xs.reverse
 | _=>none
@[simp] theorem JJ (xs:List D):Kj (.list xs)=some xs.reverse:=rfl
@[simp] theorem HN (xs:List D):Kj (.tuple xs)=some xs.reverse:=rfl
@[simp] noncomputable def LK:Sf:=fun _=>none
@[simp] noncomputable def Oy (i:Nat) (f:Dv->Option D):Sf:=fun δ=>(f δ).bind fun v=>(eQ v).bind fun es=>(AT δ[i]?).bind fun ds=>if ds.length+es.length<=sizeLine then some (.nx,δ.set i (.ow (ds++es))) else none
section
variable {X:Cx} {e:Expr} {es:List Expr} {p pos tpos apos:Pos} {f:Dv->Option D} {st:Stmt}
theorem uR {K:Fg} {Z:Hp}:∀ {xs:List V} {ds:List D} {bs:List Bool} {its:List Value},Reps K Z xs ds->Vals xs its->pp ds=some bs->its.length=bs.length/\∀ (i:Nat) (v:Value),its[i]? = some v->∃ b,bs[i]? = some b/\v=.bool b
 | _,_,bs,_,.nil,.nil,h=>by cases h; exact ⟨rfl,fun i v q=>by simp at q⟩
 | _,_,bs,_,.cons r t,.cons q u,h=>by
  cases r with
  | bl b=>
   unfold pp at h
   cases g:pp _ with
   | none=>rw [g] at h; cases h
   | some cs=>
    rw [g] at h
    cases h
    obtain ⟨h1,h2⟩:=uR t u g
    refine ⟨by simp [h1],fun i v e=>?_⟩
    cases i with
    | zero=>simp at e; subst e; exact ⟨b,rfl,q⟩
    | succ i=>simp at e; simpa using h2 i v e
  | _=>cases h
theorem Lr (hc:X.calm=true):CallR X (.builtin "all") (AW X.K Gq):=by
 intro pins s σ H xs us Q I rs q
 obtain ⟨Z,as,d,zh,ra,e,k⟩:=q
 cases ra with
 | nil=>cases e
 | cons r1 r2=>
  cases r2 with
  | cons _ _=>cases r1 <;> cases e
  | nil=>
   cases r1 with
   | @lst l ys ds h1 q1=>
    have e:(pp ds).map (fun bs=>PyData.bool (bs.all id))=some d:=e
    cases g:pp ds with
    | none=>rw [g] at e; cases e
    | some bs=>
     rw [g] at e
     cases e
     obtain ⟨u,rfl,ru⟩:=sw rs
     cases ru
     obtain ⟨its,rv,pl,hz⟩:=I.list (SqL.same h1 zh)
     obtain ⟨hlen,hget⟩:=uR q1 rv g
     have hl:=pl.isList
     have hlt:l<s.heap.objs.size:=by obtain ⟨_,e,_⟩:=hl; exact Heap.lt_size e
     refine call_all_walk (wpAny_pyIter_list hl ?_)
     refine ⟨s.heap.objs.size,[s.heap.objs.size,l],[s.heap.objs.size],its.toArray.size,_,_,fun i=>(bs[i]?).getD true,rfl,Walks.list (A:=X.A.in1) (I.ok.hd hc) _ l (Nat.ne_of_lt hlt) its.toArray,
      ⟨⟨_,Heap.get?_push_size _ rfl,rfl,rfl⟩,hl.push _⟩,fun i v s' Q' E' hP hQ=>?_,fun h' tk hk=>?_⟩
     ·obtain ⟨b,e,rfl⟩:=hget i v (by simpa using hP)
      simp only [e,Option.getD_some] at hQ
      exact wpAny_truthy_bool hQ
     ·have e:((List.range its.toArray.size).all fun i=>(bs[i]?).getD true)=bs.all id:=by
       rw [List.size_toArray,hlen]; exact LSm.range_all bs
      rw [e]
      exact ⟨.bl _,H,I.kept (t':=tk) (LSm.kept_iter hk),rfl,k _ Z H (New.refl zh) (.bl _)⟩
   | _=>cases e
theorem G6 (hc:X.calm=true):CallR X (.builtin "any") (AW X.K wy):=by
 intro pins s σ H xs us Q I rs q
 obtain ⟨Z,as,d,zh,ra,e,k⟩:=q
 cases ra with
 | nil=>cases e
 | cons r1 r2=>
  cases r2 with
  | cons _ _=>cases r1 <;> cases e
  | nil=>
   cases r1 with
   | @lst l ys ds h1 q1=>
    have e:(pp ds).map (fun bs=>PyData.bool (bs.any id))=some d:=e
    cases g:pp ds with
    | none=>rw [g] at e; cases e
    | some bs=>
     rw [g] at e
     cases e
     obtain ⟨u,rfl,ru⟩:=sw rs
     cases ru
     obtain ⟨its,rv,pl,hz⟩:=I.list (SqL.same h1 zh)
     obtain ⟨hlen,hget⟩:=uR q1 rv g
     have hl:=pl.isList
     have hlt:l<s.heap.objs.size:=by obtain ⟨_,e,_⟩:=hl; exact Heap.lt_size e
     refine call_any_walk (wpAny_pyIter_list hl ?_)
     refine ⟨s.heap.objs.size,[s.heap.objs.size,l],[s.heap.objs.size],its.toArray.size,_,_,fun i=>(bs[i]?).getD false,rfl,Walks.list (A:=X.A.in1) (I.ok.hd hc) _ l (Nat.ne_of_lt hlt) its.toArray,
      ⟨⟨_,Heap.get?_push_size _ rfl,rfl,rfl⟩,hl.push _⟩,fun i v s' Q' E' hP hQ=>?_,fun h' tk hk=>?_⟩
     ·obtain ⟨b,e,rfl⟩:=hget i v (by simpa using hP)
      simp only [e,Option.getD_some] at hQ
      exact wpAny_truthy_bool hQ
     ·have e:((List.range its.toArray.size).any fun i=>(bs[i]?).getD false)=bs.any id:=by
       rw [List.size_toArray,hlen]; exact LSm.range_any bs
      rw [e]
      exact ⟨.bl _,H,I.kept (t':=tk) (LSm.kept_iter hk),rfl,k _ Z H (New.refl zh) (.bl _)⟩
   | _=>cases e
theorem Bl {st:Stmt}:SV X st LK:=fun pins s σ H D I h=>by
 obtain ⟨_,_,_,_,_,_,e,_⟩:=h
 cases e
end
end VL
set_option Elab.async false
set_option linter.all false
set_option maxRecDepth 100000
set_option maxHeartbeats 4000000
namespace VL
open PySem PySem.Spec PyProof.Rows L2
section
variable {prog:Program} {w:World} {A:Around} {s:Shared} {R:Result->Shared->Prop}
variable {I:Addr} {fp wr:List Addr} {G:Array GenState->Array GenState->Prop} {n:Nat} {P:Nat->Value->Prop} {St:Nat->Shared->Prop}
end
section
variable {prog:Program} {w:World} {A:Around} {E:Value->Shared->Prop} {s:Shared}
variable {I:Addr} {fp wr:List Addr} {G:Array GenState->Array GenState->Prop} {n:Nat} {P:Nat->Value->Prop} {St:Nat->Shared->Prop}
end
section
variable {X:Cx} {e:Expr} {p p2 pos pos2:Pos} {te:TE} {f:Dv->Option D}
end
end VL
set_option Elab.async false
set_option linter.all false
set_option maxRecDepth 100000
set_option maxHeartbeats 4000000
namespace VL
open PySem PySem.Spec PyProof.Rows L2
section
variable {prog:Program} {w:World} {A:Around} {E:Value->Shared->Prop} {s:Shared}
noncomputable def IsRv (h:Heap) (a l:Addr) (i:Int):Prop:=∃ o,h.get? a=some o/\o.cls=.type "reversed" /\ o.data=.fields #[.ref l,rawInt i]
theorem IsRv.typeIs {a l:Addr} {i:Int} (x:IsRv s.heap a l i):s.TypeIs (.ref a) "reversed":=let ⟨o,ho,hc,_⟩:=x; ⟨o,ho,hc⟩
theorem IsRv.at {h h':Heap} {a l:Addr} {i:Int} (x:IsRv h a l i) (e:∀ o,h.get? a=some o->h'.get? a=some o):IsRv h' a l i:=let ⟨o,ho,r⟩:=x; ⟨o,e _ ho,r⟩
end
noncomputable def MK:D->Option (List D)
 | .tuple xs=>some xs.reverse
 | _=>none
@[simp] theorem HL (xs:List D):MK (.tuple xs)=some xs.reverse:=rfl
section
variable {X:Cx} {tg e:Expr} {p pos:Pos} {te:TE} {f:Dv->Option D}
end
end VL
set_option Elab.async false
set_option linter.all false
set_option maxRecDepth 100000
set_option maxHeartbeats 4000000
namespace VL
open PySem PySem.Spec PyProof.Rows L2
noncomputable def F2 (h:Heap) (e:Addr):Prop:=∃ oe vs,h.get? e=some oe/\oe.data=.fields vs/\vs[2]? = some .none
noncomputable def FlyX (base:Heap) (l:List Env) (e:Addr) (cls a0:Value) (h:Heap):Prop:=Heap.FlyingW base l e cls a0 h/\F2 h e
noncomputable def Ha (base:Heap) (l:List Env) (e:Addr) (cls a0:Value) (L:Addr) (h:Heap):Prop:=Heap.HeldW base l e cls a0 L h/\F2 h e
structure Put (l:List Env) (e T:Addr) (oe:Obj) (fl:Value) (h h':Heap):Prop where
 new:h.get? T=none
 ex:h'.get? e=some (oe.mapFields (·.setIfInBounds 1 (.ref T)))
 tb:∃ oT ts,h'.get? T=some oT/\oT.data=.fields ts/\ts[3]? = some fl
 keep:∀ b o,b≠e->b ∉ kn l->h.get? b=some o->h'.get? b=some o
 slot:∀ b o,b≠e->h.get? b=some o->∃ sl,h'.get? b=some { o with slots:=sl }
section
variable {M:Model} {A:Around} {E:Value->Shared->Prop} {s:Shared}
theorem sI {base:Heap} {env:Env} {outer:List Env} {L e:Addr} {oe:Obj} {vs:Array Value} {head:Value} {nx:Bool} {Q:Unit->Shared->Prop}
  (hfr:A.frames=some (env::outer)) (hl:s.heap.FunFrames base (env::outer)) (hf:env.frame=some L) (he:s.heap.get? e=some oe) (hd:oe.data=.fields vs) (hsz:1<vs.size)
  (h:∀ h' T,Put (env::outer) e T oe (rawInt L) s.heap h'->Q () { s with heap:=h' }) :
  wpAny M A (do let a <- frameOf env; let pl <- entryPlaceOf L nx; let b <- EntryCells.newEntry head a .none (rawInt L) .none pl; setField (.ref e) 1 b) Q E s:=by
 have hene:e ∉ kn (env::outer):=fun hm=>by
  obtain ⟨_,o,ho,hnf⟩:=hl.mem hm
  rw [he] at ho; cases ho; exact hnf vs hd
 refine wpAny_bind (wpAny_frameOf_fun hfr hl hf fun h₁ hs₁=>wpAny_bind (wpAny_entryPlaceOf fun pl hpl=>?_))
 unfold EntryCells.newEntry newFields
 refine wpAny_bind (wpAny_newObj_type ?_ (hpl.sizeOk5 _ _ _ _ _))
 have he₁:h₁.get? e=some oe:=(hs₁.2.1 e hene).trans he
 have nT:s.heap.get? h₁.objs.size=none:=by
  cases q:s.heap.get? h₁.objs.size with
  | none=>rfl
  | some o=>
   obtain ⟨sl,q2⟩:=hs₁.2.2 _ o q
   exact absurd (Heap.lt_size q2) (Nat.lt_irrefl _)
 refine wpAny_setField (Heap.get?_push_of_some _ he₁) hd hsz (h _ h₁.objs.size ⟨nT,?_,?_,fun b o hb hbf q=>?_,fun b o hb q=>?_⟩)
 ·exact Heap.get?_update_self _ (Heap.get?_push_of_some _ he₁) (Obj.isFreed_of_fields (Obj.data_mapFields hd _))
 ·refine ⟨_,_,(Heap.get?_update_other _ _ (Nat.ne_of_lt (Heap.lt_size he₁))).trans (Heap.get?_push_size h₁ rfl),rfl,?_⟩
  first | (simp; done) | (rcases hpl with rfl | ⟨_,_,_,_,_,_,_,rfl⟩ <;> simp)
 ·rw [Heap.get?_update_other _ _ (Ne.symm hb)]
  exact Heap.get?_push_of_some _ ((hs₁.2.1 b hbf).trans q)
 ·obtain ⟨sl,q2⟩:=hs₁.2.2 b o q
  exact ⟨sl,by rw [Heap.get?_update_other _ _ (Ne.symm hb)]; exact Heap.get?_push_of_some _ q2⟩
theorem Put.flies {base h h':Heap} {l:List Env} {e T:Addr} {oe:Obj} {vs:Array Value} {fl a0:Value} (p:Put l e T oe fl h h') (hkb:base.StaysIn h) (hl:h.FunFrames base l) (hen:base.get? e=none) (he:h.get? e=some oe) (hd:oe.data=.fields vs) (h0:vs[0]? = some a0) (h2:vs[2]? = some .none) :
  base.StaysIn h'/\h'.FunFrames base l/\h'.TracedAtW base e oe.cls a0 fl/\F2 h' e/\h.UpToSlots h':=by
 have hsz:2<vs.size:=(Array.getElem?_eq_some_iff.mp h2).1
 have hd3:=Obj.data_mapFields hd (·.setIfInBounds 1 (Value.ref T))
 have hTe:T≠e:=fun z=>by subst z; rw [p.new] at he; cases he
 obtain ⟨oT,ts,q1,q2,q3⟩:=p.tb
 have ne:∀ b o,h.get? b=some o->(∀ ws,o.data≠.fields ws)->b≠e:=fun b o hb hnf z=>by subst z; rw [he] at hb; cases hb; exact hnf _ hd
 have nT:base.get? T=none:=by
  cases q:base.get? T with
  | none=>rfl
  | some o=>have:=hkb _ _ q; rw [p.new] at this; cases this
 refine ⟨fun b o hb=>p.keep b o (fun z=>by subst z; rw [hen] at hb; cases hb) (fun z=>?_) (hkb b o hb),hl.of_keeps fun b o hb hnf=>?_,⟨_,_,T,oT,ts,p.ex,⟨Obj.cls_mapFields _ _,by rw [Array.getElem?_setIfInBounds_ne (by decide)]; exact h0⟩,hd3,by rw [Array.getElem?_setIfInBounds_self,if_pos (by omega)],nT,hTe,q1,q2,q3⟩,⟨_,_,p.ex,hd3,by rw [Array.getElem?_setIfInBounds_ne (by decide)]; exact h2⟩,fun b o hb hnf=>p.slot b o (ne b o hb hnf) hb⟩
 ·rw [(hl.mem z).1] at hb; cases hb
 ·obtain ⟨sl,q⟩:=p.slot b o (ne b o hb hnf) hb
  exact ⟨_,q,rfl⟩
theorem sV {base:Heap} {l:List Env} {e:Addr} {cls a0 fl:Value} {Q:Unit->Shared->Prop} (hkb:base.StaysIn s.heap) (hl:s.heap.FunFrames base l) (ht:s.heap.TracedAtW base e cls a0 fl) (h2:F2 s.heap e)
  (h:∀ h',base.StaysIn h'->h'.FunFrames base l->h'.TracedW base e cls a0->F2 h' e->s.heap.UpToSlots h'->Q () { s with heap:=h' }):wpAny M A (setFlight (.ref e) none) Q E s:=by
 obtain ⟨oe,vs,T,oT,ts,he,hcls,hd,h1,hnT,hTe,hT,hdT,h3⟩:=ht
 have hsz3:3<ts.size:=(Array.getElem?_eq_some_iff.mp h3).1
 have other:∀ b,b≠T->(s.heap.update T (Obj.mapFields (·.setIfInBounds 3 ((none:Option Addr).elim Value.none fun f=>rawInt f)))).get? b=s.heap.get? b:=fun b hb=>Heap.get?_update_other _ _ (Ne.symm hb)
 have noR:∀ b o,s.heap.get? b=some o->(∀ ws,o.data≠.fields ws)->b≠T:=fun b o hb hnf q=>by
  subst q; rw [hT] at hb; cases hb; exact hnf _ hdT
 unfold setFlight
 refine wpAny_bind (wpAny_field he hd h1 ?_)
 rw [if_pos (show (Value.ref T != Value.none)=true from by simp)]
 refine wpAny_setField hT hdT hsz3 (h _ (fun b o hb=>(other b fun q=>by subst q; rw [hnT] at hb; cases hb).trans (hkb b o hb)) (hl.of_keeps fun b o hb hnf=>⟨o,(other b (noR b o hb hnf)).trans hb,rfl⟩) ?_ ?_ fun b o hb hnf=>⟨o.slots,(other b (noR b o hb hnf)).trans hb⟩)
 ·exact ⟨oe,vs,T,_,_,(other e (Ne.symm hTe)).trans he,hcls,hd,h1,hnT,hTe,Heap.get?_update_self _ hT (Obj.isFreed_of_fields (Obj.data_mapFields hdT _)),Obj.data_mapFields hdT _,by simp [hsz3]⟩
 ·obtain ⟨o2,v2,q1,q2,q3⟩:=h2
  exact ⟨o2,v2,(other e (Ne.symm hTe)).trans q1,q2,q3⟩
theorem yK {base:Heap} {env:Env} {outer:List Env} {L e:Addr} {cls a0:Value} {Q:Unit->Shared->Prop} (hfr:A.frames=some (env::outer)) (hf:env.frame=some L) (hfl:FlyX base (env::outer) e cls a0 s.heap)
  (hQ:∀ h',Ha base (env::outer) e cls a0 L h'->s.heap.UpToSlots h'->Q () { s with heap:=h' }):wpAny M A (noteFrame (.ref e) env) Q E s:=by
 obtain ⟨⟨hkb,hen,hl,oe,vs,T,oT,ts,he,⟨hcls,h0⟩,hd,h1,hnT,hTe,hT,hdT,h3⟩,h2⟩:=hfl
 subst hcls
 have h2:vs[2]? = some .none:=by
  obtain ⟨o2,v2,q1,q2,q3⟩:=h2
  rw [he] at q1; cases q1; rw [hd] at q2; cases q2; exact q3
 have other:∀ b,b≠T->(s.heap.update T (Obj.mapFields (·.setIfInBounds 3 Value.none))).get? b=s.heap.get? b:=fun b hb=>Heap.get?_update_other _ _ (Ne.symm hb)
 have noR:∀ b o,s.heap.get? b=some o->(∀ ws,o.data≠.fields ws)->b≠T:=fun b o hb hnf q=>by
  subst q; rw [hT] at hb; cases hb; exact hnf _ hdT
 unfold noteFrame
 simp only [hf]
 refine wpAny_bind (wpAny_field he hd h1 ?_)
 rw [if_pos (show (Value.ref T != Value.none)=true from by simp)]
 refine wpAny_bind (wpAny_field hT hdT h3 ?_)
 rw [if_neg (show ¬ ((Value.none==rawInt L)=true) from by simp [rawInt])]
 refine wpAny_bind (wpAny_setField hT hdT (Array.getElem?_eq_some_iff.mp h3).1 ?_)
 have hl':(s.heap.update T (Obj.mapFields (·.setIfInBounds 3 Value.none))).FunFrames base (env::outer):=hl.of_keeps fun b o hb hnf=>⟨o,(other b (noR b o hb hnf)).trans hb,rfl⟩
 have he':=(other e (Ne.symm hTe)).trans he
 refine sI hfr hl' hf he' hd (Array.getElem?_eq_some_iff.mp h1).1 fun h' T' p=>?_
 obtain ⟨k1,k2,k3,k4,k5⟩:=p.flies (fun b o hb=>(other b fun q=>by subst q; rw [hnT] at hb; cases hb).trans (hkb b o hb)) hl' hen he' hd h0 h2
 exact hQ h' ⟨⟨k1,hen,k2,k3⟩,k4⟩ fun b o hb hnf=>k5 b o ((other b (noR b o hb hnf)).trans hb) hnf
theorem uB {base:Heap} {l:List Env} {e L:Addr} {cls a0:Value} {Q:Unit->Shared->Prop} (hh:Ha base l e cls a0 L s.heap)
  (hQ:∀ h',FlyX base l e cls a0 h'->s.heap.UpToSlots h'->Q () { s with heap:=h' }):wpAny M A (setFlight (.ref e) none) Q E s:=by
 obtain ⟨⟨f1,f2,f3,f4⟩,f5⟩:=hh
 exact sV f1 f3 f4 f5 fun h' k1 k2 k3 k4 k5=>hQ h' ⟨⟨k1,f2,k2,k3⟩,k4⟩ k5
theorem r6 {base:Heap} {l:List Env} {e:Addr} {cls a0:Value} {Q:Unit->Shared->Prop} (hh:FlyX base l e cls a0 s.heap)
  (hQ:∀ h',FlyX base l e cls a0 h'->s.heap.UpToSlots h'->Q () { s with heap:=h' }):wpAny M A (setFlight (.ref e) none) Q E s:=by
 obtain ⟨⟨f1,f2,f3,f4⟩,f5⟩:=hh
 exact sV f1 f3 f4.at f5 fun h' k1 k2 k3 k4 k5=>hQ h' ⟨⟨k1,f2,k2,k3⟩,k4⟩ k5
theorem FlyX.pop {base h:Heap} {env:Env} {l:List Env} {e:Addr} {cls a0:Value} (x:FlyX base (env::l) e cls a0 h):FlyX base l e cls a0 h:=
 let ⟨⟨k1,k2,⟨_,_,k3⟩,k4⟩,k5⟩:=x; ⟨⟨k1,k2,k3,k4⟩,k5⟩
theorem v3 {base:Heap} {env:Env} {outer:List Env} {L e:Addr} {cls a0:Value} {Q:Unit->Shared->Prop} (hfr:A.frames=some (env::outer)) (hf:env.frame=some L) (hfl:FlyX base (env::outer) e cls a0 s.heap)
  (hQ:∀ h',FlyX base outer e cls a0 h'->s.heap.UpToSlots h'->Q () { s with heap:=h' }):wpAny M A (leaving env (.ref e)) Q E s:=by
 unfold leaving
 refine wpAny_bind (yK hfr hf hfl fun h1 x1 u1=>?_)
 exact uB (s:={ s with heap:=h1 }) x1 fun h2 x2 u2=>hQ h2 x2.pop (u1.trans u2)
theorem rZ {base h:Heap} {env:Env} {outer:List Env} {L e:Addr} {cls:Value} {args:List Value} {Q:Unit->Shared->Prop}
  (hfr:A.frames=some (env::outer)) (hf:env.frame=some L) (hkb:base.StaysIn h) (hl:h.FunFrames base (env::outer)) (hx:Heap.MadeExcOf h s.heap e cls args)
  (hQ:∀ h' t,FlyX base outer e cls (.ref t) h'->s.heap.UpToSlots h'->Q () { s with heap:=h' }):wpAny M A (leaving env (.ref e)) Q E s:=by
 obtain ⟨t,he,htn,ht⟩:=hx.there
 have fresh:∀ b,h.get? b=none->base.get? b=none:=fun b hb=>by
  cases hq:base.get? b with
  | none=>rfl
  | some o'=>have:=hkb b o' hq; rw [hb] at this; cases this
 have hl2:s.heap.FunFrames base (env::outer):=hl.of_keeps fun b o hb _=>⟨o,hx.keeps b o hb,rfl⟩
 unfold leaving noteFrame
 simp only [hf]
 refine wpAny_bind (wpAny_bind (wpAny_field he rfl (x:=.none) rfl ?_))
 rw [if_neg (by decide)]
 refine sI hfr hl2 hf he rfl (by simp) fun h1 T p=>?_
 obtain ⟨k1,k2,k3,k4,k5⟩:=p.flies (a0:=.ref t) (fun b o hb=>hx.keeps b o (hkb b o hb)) hl2 (fresh e hx.new) he rfl rfl rfl
 exact uB (s:={ s with heap:=h1 }) (L:=L) ⟨⟨k1,fresh e hx.new,k2,k3⟩,k4⟩ fun h2 x2 u2=>hQ h2 t x2.pop (k5.trans u2)
end
end VL
set_option Elab.async false
set_option linter.all false
set_option maxRecDepth 100000
set_option maxHeartbeats 4000000
namespace VL
open PySem PySem.Spec PyProof.Rows L2
noncomputable def Li (n:Str):D:=.dict [(.str "exc",.str n)]
noncomputable def gD (n:Str):D:=.dict [(.str "fn",.str n)]
noncomputable abbrev Xf:=Dv->Option (Str×Dv)
@[simp] noncomputable def xNo:Xf:=fun _=>none
@[simp] noncomputable def A0 (n:Str) (f:Dv->Option D):Xf:=fun δ=>(f δ).bind fun _=>some (n,δ)
@[simp] noncomputable def xE (f:Dv->Option Str):Xf:=fun δ=>(f δ).bind fun n=>some (n,δ)
@[simp] noncomputable def L3 (t:Dv->Option Bool) (u w:Xf):Xf:=fun δ=>(t δ).bind fun c=>if c=true then u δ else w δ
@[simp] noncomputable def Hd (s:Sf) (u:Xf):Xf:=fun δ=>(s δ).bind fun r=>match r with
 | (.nx,δ')=>u δ'
 | _=>none
@[simp] noncomputable def Gw (u1:Xf) (s:Sf) (u:Xf):Xf:=fun δ=>match u1 δ with
 | some r=>some r
 | none=>Hd s u δ
noncomputable def rP (N:List Str) (m:Nat) (fx:Xf):List D->Option Str:=fun as=>if as.length=m then (fx (av N as)).bind fun r=>some r.1 else none
@[simp] noncomputable def GE (fs:Dv->Option (List D)) (g:List D->Option Str):Dv->Option Str:=fun δ=>(fs δ).bind g
noncomputable def zG (i:Nat) (ns:List Str) (b:Sf) (bx:Xf) (bs:Sf):Sf:=fun δ=>match bx δ with
 | some (n,δ')=>if ns.contains n=true then (bs (δ'.set i (.fz (Li n)))).bind fun r=>some (r.1,r.2.set i .un) else none
 | none=>b δ
noncomputable def K4 (t:List (Str×Bool)) (n:Str):Option D:=(t.lookup n).map .bool
noncomputable def nP (t:List (Str×Bool)):D->Option D
 | .dict [(.str k,.str n)]=>if k = "exc" then K4 t n else none
 | _=>none
theorem oz {P:Program} {w:World} {H:Hp} {h:Heap} {a:Addr} {o:HO} (x:ObjOk P w H h a o):∃ ob,h.get? a=some ob:=by
 cases o with
 | lst xs=>obtain ⟨_,_,_,_,e⟩:=x; exact ⟨_,e⟩
 | tup xs=>obtain ⟨_,_,_,ob,e,_⟩:=x; exact ⟨_,e⟩
 | dK kvs=>obtain ⟨_,_,_,_,o,_,_,e,_⟩:=x; exact ⟨_,e⟩
 | dT kvs=>obtain ⟨_,_,_,_,o,_,_,e,_⟩:=x; exact ⟨_,e⟩
 | set S n=>obtain ⟨o,_,_,_,e,_⟩:=x; exact ⟨_,e⟩
 | ins C dx fs=>obtain ⟨_,_,_,e,_⟩:=x; exact ⟨_,e⟩
 | own y=>exact x
 | xd fs=>obtain ⟨_,⟨_,_,_,e,_⟩,_⟩:=x; exact ⟨_,e⟩
 | rng lo hi=>obtain ⟨_,_,_,e⟩:=x; exact ⟨_,e⟩
 | frz ob u=>exact ⟨_,x.1⟩
 | tbl ps=>exact ⟨_,x⟩
 | met f y=>exact ⟨_,x⟩
 | ext φ=>exact x.2.1
theorem CN {P:Program} {w:World} {H:Hp} {h:Heap} {x C:Addr} {o:Obj} (e:h.get? x=some o) (c:o.cls=.ref C) (f:F2 h x):ObjOk P w H h x (pX x C):=
 ⟨⟨o,e,c,by obtain ⟨o',vs,q1,q2⟩:=f; rw [e] at q1; cases q1; exact ⟨vs,q2⟩⟩,⟨o,e⟩,fun h1 h2 ⟨o',e',c'⟩ k=>⟨o',k o' e',c'⟩⟩
theorem FlyX.there {base h:Heap} {l:List Env} {e:Addr} {cls a0:Value} (x:FlyX base l e cls a0 h):∃ ob,h.get? e=some ob/\ob.cls=cls:=x.1.there
structure Thrown (P:Program) (w:World) (outer:List Env) (H:Hp) (s:Shared) (x C:Addr) (H':Hp) (s':Shared):Prop where
 os:s'.os=s.os
 bare:AllBare s'.gens
 un:Un (kn outer) [] H H' s.heap s'.heap
 hok:HOk P w H' s'.heap
 sm:Same H H'
 is:H' x=some (pX x C)
 fly:∃ B t,FlyX B outer x (.ref C) t s'.heap/\(∀ b o,H' b=some o->b≠x->∃ ob,B.get? b=some ob)/\(∀ b o,s.heap.get? b=some o->H b=none->b ∉ kn outer->B.get? b=some o)
noncomputable def tP (P:Program) (w:World):wE:=fun outer H s E e s'=>∃ x C H',e=.ref x/\Thrown P w outer H s x C H' s'/\E (.ref C) (some x) H'
theorem yR {P:Program} {w:World} {H2:Hp} {B h2 h':Heap} {l l':List Env} {x C:Addr} {t t':Value} (ok:HOk P w H2 h2) (is:H2 x=some (pX x C)) (k2:B.StaysIn h2) (fl':FlyX B l' x (.ref C) t' h')
  (hB:∀ b o,H2 b=some o->b≠x->∃ ob,B.get? b=some ob):HOk P w H2 h':=fun b o e=>by
 by_cases hb:b=x
 ·subst hb
  rw [is] at e; cases e
  obtain ⟨ob,h1,h2⟩:=fl'.there
  exact CN h1 h2 fl'.2
 ·refine (ok b o e).stay (fun c u hc q=>?_) (fun _ q=>q) fun _ _ q=>q
  have:∃ ob,B.get? c=some ob:=by
   rcases hc with rfl | hc
   ·exact hB c o e hb
   ·refine hB c _ hc fun z=>?_
    subst z; rw [is] at hc; cases hc
  obtain ⟨ob,hob⟩:=this
  have:=k2 c ob hob
  rw [q] at this; cases this
  exact fl'.1.1 c _ hob
section
variable {P:Program} {w:World} {K:PySem.W.Frag} {mg:Str->Option Value} {base:Heap} {N:List Str} {qual:Str} {scope:Scope} {f:Addr} {cd:Value} {A:Around} {outer:List Env} {s:Shared} {H:Hp} {E:XK} {pins:List (Addr×Obj)} {σ:St} {H1 H2:Hp} {s1 s2:Shared} {x C:Addr}
theorem Ce (I:Inv (iE (tP P w) P w K mg base N qual scope f cd A outer s H E) pins σ H1 s1) (T:Thrown P w (iE (tP P w) P w K mg base N qual scope f cd A outer s H E).stack H1 s1 x C H2 s2) (hE:E (.ref C) (some x) H2) (h0:Same H H2) :
  (iE (tP P w) P w K mg base N qual scope f cd A outer s H E).xe (.ref x) s2:=by
 obtain ⟨B,t,fl,hB1,hB2⟩:=T.fly
 have hfr:=I.ok.frames
 have loc:∀ b o,s.heap.get? b=some o->b ∉ kn outer->b ∉ kn (iE (tP P w) P w K mg base N qual scope f cd A outer s H E).stack:=fun b o q hb z=>by
  rcases List.mem_cons.mp (I.stkSub b z) with e | e
  ·exact absurd (Heap.lt_size q) (by rw [e]; exact Nat.not_lt.mpr I.ok.above)
  ·exact hb e
 have keep:∀ b o,s.heap.get? b=some o->H b=none->b ∉ kn outer->B.get? b=some o:=fun b o q n hb=>
  hB2 b o (I.base.keep b o q n hb (fun z=>nomatch z)) (I.base.free b o q n (fun z=>nomatch z)) (loc b o q hb)
 refine v3 hfr rfl fl fun h' fl' sm=>?_
 have slot:∀ b o,s.heap.get? b=some o->H b=none->b∈kn outer->∃ sl,h'.get? b=some { o with slots:=sl }:=fun b o q n hb=>by
  obtain ⟨sl,e1⟩:=I.base.slot b o q n hb (fun z=>nomatch z)
  have hb':b∈kn (iE (tP P w) P w K mg base N qual scope f cd A outer s H E).stack:=by
   show b∈List.filterMap _ (_::outer)
   exact List.mem_filterMap.mpr (by obtain ⟨env,he,hf⟩:=List.mem_filterMap.mp hb; exact ⟨env,List.mem_cons_of_mem _ he,hf⟩)
  obtain ⟨sl2,e2⟩:=T.un.slot b _ e1 (I.base.free b o q n (fun z=>nomatch z)) hb' (fun z=>nomatch z)
  obtain ⟨_,o',ho',hd⟩:=I.ok.funs.mem hb
  have ho2:s.heap.get? b=some o':=ho'
  rw [q] at ho2; cases ho2
  obtain ⟨sl3,e3⟩:=sm b _ e2 hd
  exact ⟨sl3,e3⟩
 refine ⟨x,C,H2,rfl,⟨T.os.trans I.os,T.bare,⟨fun b o q n hb _=>fl'.1.1 b o (keep b o q n hb),fun b o q n hb _=>slot b o q n hb,fun b o q n _=>?_,fun b o q _=>?_,fun b xs e=>T.un.tups b xs (I.base.tups b xs e),fun b o u e=>T.un.frzs b o u (I.base.frzs b o u e),fun b ps e=>?_⟩,yR (l:=[]) (t:=t) T.hok T.is fl.1.1 fl' hB1,h0,T.is,⟨B,t,fl',hB1,keep⟩⟩,hE⟩
 ·obtain ⟨o1,e1⟩:=I.base.there b o q (fun z=>nomatch z)
  exact T.un.free b o1 e1 (I.base.free b o q n (fun z=>nomatch z)) (fun z=>nomatch z)
 ·cases q2:H2 b with
  | some ho=>
   by_cases hb:b=x
   ·subst hb; obtain ⟨ob,e1,_⟩:=fl'.there; exact ⟨ob,e1⟩
   ·obtain ⟨ob,e1⟩:=hB1 b ho q2 hb; exact ⟨ob,fl'.1.1 b ob e1⟩
  | none=>
   have n:H b=none:=by
    cases e:H b with
    | none=>rfl
    | some z=>rw [h0 b z e] at q2; cases q2
   by_cases hb:b∈kn outer
   ·obtain ⟨sl,e⟩:=slot b o q n hb; exact ⟨_,e⟩
   ·exact ⟨o,fl'.1.1 b o (keep b o q n hb)⟩
 ·obtain ⟨m1,e1⟩:=I.base.tbls b ps e
  obtain ⟨m2,e2⟩:=T.un.tbls b _ e1
  exact ⟨m1++m2,by rw [e2,Array.append_assoc]⟩
theorem xk {vs:List Value} (I:Inv (iE (tP P w) P w K mg base N qual scope f cd A outer s H E) pins σ H1 s1) (hs:s2={ s1 with heap:=s2.heap }) (hx:Heap.MadeExcOf s1.heap s2.heap x (.ref C) vs) (h0:Same H H1) (hE:H1 x=none->E (.ref C) (some x) (eA H1 x (pX x C))) :
  (iE (tP P w) P w K mg base N qual scope f cd A outer s H E).xe (.ref x) s2:=by
 have hfr:=I.ok.frames
 have n1:H1 x=none:=by
  cases e:H1 x with
  | none=>rfl
  | some o=>obtain ⟨ob,h⟩:=oz (I.hok x o e); rw [hx.new] at h; cases h
 have loc:∀ b o,s.heap.get? b=some o->b ∉ kn outer->b ∉ kn (iE (tP P w) P w K mg base N qual scope f cd A outer s H E).stack:=fun b o q hb z=>by
  rcases List.mem_cons.mp (I.stkSub b z) with e | e
  ·exact absurd (Heap.lt_size q) (by rw [e]; exact Nat.not_lt.mpr I.ok.above)
  ·exact hb e
 have hin:∀ env∈(iE (tP P w) P w K mg base N qual scope f cd A outer s H E).stack,∀ b,env.frame=some b->b∈kn (iE (tP P w) P w K mg base N qual scope f cd A outer s H E).stack:=fun env he b hb=>List.mem_filterMap.mpr ⟨env,he,hb⟩
 have keep:∀ b o,s.heap.get? b=some o->H b=none->b ∉ kn outer->(PySem.W.hideAll s1.heap (kn (iE (tP P w) P w K mg base N qual scope f cd A outer s H E).stack)).get? b=some o:=fun b o q n hb=>
  PySem.W.hideAll_get _ (I.base.keep b o q n hb (fun z=>nomatch z)) (loc b o q hb)
 have trk:∀ b o,H1 b=some o->∃ ob,(PySem.W.hideAll s1.heap (kn (iE (tP P w) P w K mg base N qual scope f cd A outer s H E).stack)).get? b=some ob:=fun b o e=>by
  obtain ⟨ob,h⟩:=oz (I.hok b o e)
  refine ⟨ob,PySem.W.hideAll_get _ h fun z=>?_⟩
  rw [I.stkFree b z] at e; cases e
 refine rZ hfr rfl (fun b o q=>PySem.W.of_hideAll _ q) (PySem.W.funFrames_hide I.stack hin) hx fun h' t fl sm=>?_
 have slot:∀ b o,s.heap.get? b=some o->H b=none->b∈kn outer->∃ sl,h'.get? b=some { o with slots:=sl }:=fun b o q n hb=>by
  obtain ⟨sl,e1⟩:=I.base.slot b o q n hb (fun z=>nomatch z)
  obtain ⟨_,o',ho',hd⟩:=I.ok.funs.mem hb
  have ho2:s.heap.get? b=some o':=ho'
  rw [q] at ho2; cases ho2
  obtain ⟨sl3,e3⟩:=sm b _ (hx.keeps b _ e1) hd
  exact ⟨sl3,e3⟩
 have ne:∀ b o,s1.heap.get? b=some o->b≠x:=fun b o q z=>by subst z; rw [hx.new] at q; cases q
 have os2:s2.os=s1.os:=by rw [hs]
 have g2:s2.gens=s1.gens:=by rw [hs]
 have hok2:HOk P w (eA H1 x (pX x C)) h':=fun b o e=>by
  by_cases hb:b=x
  ·subst hb; rw [aR] at e; cases e; obtain ⟨ob,q1,q2⟩:=fl.there; exact CN q1 q2 fl.2
  ·rw [aI hb] at e
   refine (I.hok b o e).stay (fun c u hc q=>?_) (fun c q=>?_) fun c xs q=>?_
   ·have:∃ ho,H1 c=some ho:=by rcases hc with rfl | hc; exact ⟨_,e⟩; exact ⟨_,hc⟩
    obtain ⟨ho,hc⟩:=this
    obtain ⟨ob,hob⟩:=trk c ho hc
    have:=PySem.W.of_hideAll _ hob
    rw [q] at this; cases this
    exact fl.1.1 c _ hob
   ·rw [aI (bg q n1)]; exact q
   ·rw [aI (bg q n1)]; exact q
 refine ⟨x,C,eA H1 x (pX x C),rfl,⟨os2.trans I.os,by rw [show ({ s2 with heap:=h' }:Shared).gens=s1.gens from g2]; exact I.bare,⟨fun b o q n hb _=>fl.1.1 b o (keep b o q n hb),fun b o q n hb _=>slot b o q n hb,fun b o q n _=>?_,fun b o q _=>?_,fun b xs e=>?_,fun b o u e=>?_,fun b ps e=>?_⟩,hok2,h0.trans (ie n1),aR,⟨_,_,fl,fun b o e hb=>?_,keep⟩⟩,hE n1⟩
 ·obtain ⟨o1,e1⟩:=I.base.there b o q (fun z=>nomatch z)
  rw [aI (ne b o1 e1)]
  exact I.base.free b o q n (fun z=>nomatch z)
 ·obtain ⟨o1,e1⟩:=I.base.there b o q (fun z=>nomatch z)
  cases q2:H1 b with
  | some ho=>obtain ⟨ob,e⟩:=trk b ho q2; exact ⟨ob,fl.1.1 b ob e⟩
  | none=>
   have n:H b=none:=by
    cases e:H b with
    | none=>rfl
    | some z=>rw [h0 b z e] at q2; cases q2
   by_cases hb:b∈kn outer
   ·obtain ⟨sl,e⟩:=slot b o q n hb; exact ⟨_,e⟩
   ·exact ⟨o,fl.1.1 b o (keep b o q n hb)⟩
 ·have:=I.base.tups b xs e
  rw [aI (bg this n1)]; exact this
 ·have:=I.base.frzs b o u e
  rw [aI (bg this n1)]; exact this
 ·obtain ⟨m1,e1⟩:=I.base.tbls b ps e
  exact ⟨m1,by rw [aI (bg e1 n1)]; exact e1⟩
 ·rw [aI hb] at e
  exact trk b o e
end
end VL
set_option Elab.async false
set_option linter.all false
set_option maxRecDepth 100000
set_option maxHeartbeats 4000000
namespace VL
open PySem PySem.Spec PyProof.Rows L2
noncomputable abbrev DY:List Value:=[.type "ValueError",.type "Exception",.type "BaseException",.type "object"]
structure ExcC (K:Fg) (n:Str) (C:Addr):Prop where
 nm:PySem.W.nsIn K mainGlobals n=some (some (.ref C))
 ex:PySem.W.excIn K C DY "ValueError.__new__" = true
 ga:PySem.W.findIn K (.ref C) "__getattribute__" = some (some (.builtin "BaseException.__getattribute__"))
 gt:PySem.W.findIn K (.ref C) "__getattr__" = some none
 cl:PySem.W.findIn K (.ref C) "__class__" = some (some (.builtin "object.__class__"))
 mo:PySem.W.mroIn K C (.type "object")=some true
 be:PySem.W.mroIn K C (.type "BaseException")=some true
theorem pW {K:Fg} {h:Heap} {C:Addr} {mB:List Value} {newId:String} (kin:K.In h) (q:PySem.W.excIn K C mB newId=true) :
  ∃ mr ns nm qn bs hd sn sub ab col dd a0 a1 a2 a3 a5 mN,h.get? C=some (excClassObj nm qn C ns bs mr hd sn sub ab col dd a0 a1 a2 a3 a5 newId)/\h.Ns ns mN/\mN "__init__" = none/\OwnTail h mB mr:=by
 unfold PySem.W.excIn at q
 split at q
 ·rename_i dct cda slo lk
  split at q
  ·rename_i C2 mr a0 a1 a2 a3 nw a5 em es
   simp only [Bool.and_eq_true,beq_iff_eq,Bool.not_eq_true'] at q
   obtain ⟨⟨⟨⟨⟨rfl,rfl⟩,nodel⟩,tl⟩,okn⟩,noini⟩:=q
   obtain ⟨nm,bs,mro,ns,qn,hd,sn,sub,ab,col,del⟩:=cda
   dsimp only at em nodel okn noini
   subst em nodel
   have esl:slo = #[a0,a1,a2,a3,some (.builtin nw),a5]:=by
    obtain ⟨ll⟩:=slo
    simp only at es
    rw [es]
   subst esl
   exact ⟨mr,ns,nm,qn,bs,hd,sn,sub,ab,col,dct,a0,a1,a2,a3,a5,_,kin _ _ lk,Heap.Ns.of_isNs (PySem.W.isNs_of_in kin okn),PySem.W.nsMap_none_of_in kin okn noini,PySem.W.tail_of_in kin tl⟩
  ·cases q
 ·cases q
section
variable {K:Fg} {n:Str} {C x:Addr}
theorem jy {M:Model} {h:Heap} {o:Obj} (e:h.get? x=some o) (c:o.cls=.ref C):PySem.W.Looks M h (typeOf (.ref x)) (.ref C):=c ▸ (PySem.W.Looks.ld e).andThen .now
variable {prog:Program} {w:World} {A:Around} {E:Value->Shared->Prop}
open Builtin Builtin.ObjectAttr Builtin.Getset_descriptor in
theorem FS {R:Result->Shared->Prop} {tp:Value} {o:Obj} {s:Shared} (F:ExcC K n C) (kin:K.In s.heap) (e:s.heap.get? x=some o) (c:o.cls=.ref C) (h:R (.ok (.ret (.ref C))) s) :
  codeAny (model prog w) A (.call (.builtin "getset_descriptor.__get__") ⟨[.builtin "object.__class__",.ref x,tp],[]⟩) R s:=by
 obtain ⟨hh,g,dr,t,os⟩:=s
 have L0:=jy (M:=model prog w) e c
 have L1:=PySem.W.looks_mroIn (M:=model prog w) kin F.mo
 refine codeAny_call_builtin PySem.W.KF.slot_gs.plain PySem.W.KF.entry_gs (PySem.W.KF.slot_gs.check _ _ _ _ _ _ _ _ PySem.W.KF.type_class (PySem.W.KF.args_gs _ _ _) ?_)
 unfold Builtin.«getset_descriptor.__get__» descrGet
 rw [PySem.W.dga_obj]
 refine wpAny_bind (wpAny_pure ?_)
 unfold descrGetter descrCheckInstance descrNameAndClass isInstance
 simp only [PySem.W.KF.owner_class]
 repeat lk
 refine ⟨Code.quiet_builtin _ (by decide +kernel),codeAny_builtin PySem.W.KF.entry_class ?_⟩
 unfold Builtin.«object.__class__» shownTypeOf
 repeat lk
 exact h
theorem Ax {M:Model} {o:Obj} {s:Shared} {nameV:Value} {Q:Unit->Shared->Prop} (F:ExcC K n C) (kin:K.In s.heap) (e:s.heap.get? x=some o) (c:o.cls=.ref C) (h:Q () s) :
  wpAny M A (checkBuiltinCall "BaseException.__getattribute__" ⟨[.ref x,nameV],[]⟩) Q E s:=by
 obtain ⟨hh,g,dr,t,os⟩:=s
 have L0:=jy (M:=M) e c
 have L1:=PySem.W.looks_mroIn (M:=M) kin F.be
 have kd:builtinKind "BaseException.__getattribute__" = some .slot:=by decide +kernel
 have sp:splitId "BaseException.__getattribute__" = some ("BaseException","__getattribute__"):=by decide +kernel
 have ao:=PySem.F.args_bexc_ga (.ref x) nameV
 simp only [checkBuiltinCall,kd,sp]
 refine wpAny_bind ?_
 unfold isInstance
 refine wpAny_bind (L0.at (L1.at ?_))
 repeat wp_step
 exact h
theorem Av {tk:Tok} {o:Obj} {s:Shared} {Q:Fin->Shared->Prop} (F:ExcC K n C) (kin:K.In s.heap) (e:s.heap.get? x=some o) (c:o.cls=.ref C) (h:Q (.done (.ret (.ref C))) s) :
  wpAny (model prog w) A (Builtin.«object.__getattribute__» ⟨[.ref x,.str "__class__" tk],[]⟩) Q E s:=by
 obtain ⟨hh,g,dr,t,os⟩:=s
 have L0:=jy (M:=model prog w) e c
 have L1:=PySem.W.looks_findIn (M:=model prog w) kin F.cl
 have t5:(⟨hh,g,dr,t,os⟩:Shared).TypeIs (.builtin "object.__class__") "getset_descriptor":=PySem.F.typeOf_object_class
 have f5:=PySem.F.typeOf_object_class
 have f6:=PySem.F.slot_gs_get.lookup
 have f7:=PySem.F.slot_gs_set.lookup
 repeat (any_goals (first | assumption | with_reducible refine L0.at ?_ | with_reducible refine L1.at ?_ | wp_step))
 refine FS F kin e c ?_
 repeat (any_goals (first | assumption | wp_step))
end
end VL
set_option Elab.async false
set_option linter.all false
set_option maxRecDepth 100000
set_option maxHeartbeats 4000000
namespace VL
open PySem PySem.Spec PyProof.Rows L2
section
variable {K:Fg} {n:Str} {C x:Addr} {prog:Program} {w:World} {A:Around} {E:Value->Shared->Prop}
theorem Aw {o:Obj} {s:Shared} {Q:Option Value->Shared->Prop} (F:ExcC K n C) (kin:K.In s.heap) (e:s.heap.get? x=some o) (c:o.cls=.ref C) (h:Q (some (.ref C)) { s with toks:=s.toks+1 }) :
  wpAny (model prog w) A (getAttr? (.ref x) "__class__") Q E s:=by
 obtain ⟨hh,g,dr,t,os⟩:=s
 have L0:=jy (M:=model prog w) e c
 have L1:=PySem.W.looks_findIn (M:=model prog w) kin F.ga
 have L2:=PySem.W.looks_findIn (M:=model prog w) kin F.gt
 have b3:=PySem.F.attr_ValueError.ga.bind (.ref x)
 have n2:(Value.builtin "BaseException.__getattribute__" == Value.builtin "object.__getattribute__")=false:=by decide +kernel
 have n1:(onTheHeap (Value.ref C)&&Value.builtin "BaseException.__getattribute__" == Value.builtin "object.__getattribute__")=false:=by rw [n2]; rfl
 have go:∀ {tk:Tok} {R:Result->Shared->Prop} {A':Around},R (.ok (.ret (.ref C))) ⟨hh,g,dr,t+1,os⟩->codeAny (model prog w) A' (.call (.builtin "BaseException.__getattribute__") ⟨[.ref x,.str "__class__" tk],[]⟩) R ⟨hh,g,dr,t+1,os⟩:=fun {tk R A'} q=>
  codeAny_call_builtin PySem.F.attr_ValueError.ga.plain PySem.F.entry_bexc_ga (Ax (s:=⟨hh,g,dr,t+1,os⟩) F kin e c (Av (s:=⟨hh,g,dr,t+1,os⟩) F kin e c q))
 unfold getAttr? getAttrBy? getAttrBy
 repeat (any_goals (first | assumption | with_reducible refine L0.at ?_ | with_reducible refine L1.at ?_ | with_reducible refine L2.at ?_ | wp_step))
 refine go ?_
 repeat (any_goals (first | assumption | wp_step))
theorem ux {M:Model} {h:Heap} (F:ExcC K n C) (kin:K.In h):PySem.W.Looks M h (isType (.ref C)) true:=by
 obtain ⟨_,_,_,_,_,_,_,_,_,_,_,_,_,_,_,_,_,hC,_⟩:=pW kin F.ex
 intro A' Q' E' s' k q
 unfold isType loadHead
 exact wpAny_bind (wpAny_loadPart (k _ _ hC) (wpAny_pure q))
theorem Cs (F:ExcC K n C):PySem.W.KitX K (.ref x) (.ref C) (fun h=>∃ o,h.get? x=some o/\o.cls=.ref C) where
 ty:=fun M h _ ⟨o,e,c⟩=>jy e c
 it:=fun M h kin _=>ux F kin
 ne:=fun h tp dd its m sl kin htp=>by
  obtain ⟨_,_,_,_,_,_,_,_,_,_,_,_,_,_,_,_,_,hC,_⟩:=pW kin F.ex
  refine Bool.eq_false_iff.mpr fun q=>?_
  have z:C=tp:=Value.ref.inj (beq_iff_eq.mp q)
  subst z
  rw [htp] at hC
  have z2:=congrArg (fun z:Option Obj=>z.map (·.cls)) hC
  simp [excClassObj] at z2
 ca:=fun {_ _ _ _ _ s} kin ⟨o,e,c⟩ k=>Aw F kin e c k
end
inductive IsX (K:Fg) (D:Str):List (Str×Bool)->Prop
 | nil:IsX K D []
 | cons {n:Str} {b:Bool} {t:List (Str×Bool)} {C dC:Addr}:ExcC K n C->PySem.W.nsIn K mainGlobals D=some (some (.ref dC))->PySem.W.kitOne K (.ref C) (.ref dC)=some b->IsX K D t->IsX K D ((n,b)::t)
inductive IsT (K:Fg) (D:String):List (Str×Bool)->Prop
 | nil:IsT K D []
 | cons {n:Str} {b:Bool} {t:List (Str×Bool)} {C:Addr}:ExcC K n C->PySem.W.kitOne K (.ref C) (.type D)=some b->IsT K D t->IsT K D ((n,b)::t)
theorem jx {n m:Str} {b c:Bool} {t:List (Str×Bool)} (h:List.lookup m ((n,b)::t)=some c):(m=n/\c=b)\/List.lookup m t=some c:=by
 rw [List.lookup_cons] at h
 split at h
 ·rename_i q; cases h; exact .inl ⟨by simpa using q,rfl⟩
 ·exact .inr h
theorem IsX.get {K:Fg} {D:Str} {t:List (Str×Bool)} (h:IsX K D t) {n:Str} {b:Bool} (e:t.lookup n=some b):∃ C dC,ExcC K n C/\PySem.W.nsIn K mainGlobals D=some (some (.ref dC))/\PySem.W.kitOne K (.ref C) (.ref dC)=some b:=by
 induction h with
 | nil=>cases e
 | cons h1 h2 h3 _ ih=>
  rcases jx e with ⟨rfl,rfl⟩ | e
  ·exact ⟨_,_,h1,h2,h3⟩
  ·exact ih e
theorem IsT.get {K:Fg} {D:String} {t:List (Str×Bool)} (h:IsT K D t) {n:Str} {b:Bool} (e:t.lookup n=some b):∃ C,ExcC K n C/\PySem.W.kitOne K (.ref C) (.type D)=some b:=by
 induction h with
 | nil=>cases e
 | cons h1 h3 _ ih=>
  rcases jx e with ⟨rfl,rfl⟩ | e
  ·exact ⟨_,h1,h3⟩
  ·exact ih e
theorem sR {t:List (Str×Bool)} {d r:D} (h:nP t d=some r):∃ n b,d=.dict [(.str "exc",.str n)]/\t.lookup n=some b/\r=.bool b:=by
 unfold nP at h
 split at h
 ·rename_i k n
  split at h
  ·rename_i hk
   subst hk
   unfold K4 at h
   cases e:List.lookup n t with
   | none=>rw [e] at h; cases h
   | some b=>rw [e] at h; cases h; exact ⟨n,b,rfl,e,rfl⟩
  ·cases h
 ·cases h
section
variable {X:Cx} {a:Expr} {f:Dv->Option D} {p pos:Pos}
theorem v5 {pins:List (Addr×Obj)} {σ:St} {H Z:Hp} {s:Shared} {x:Addr} {n:Str} {C:Addr} {c:Value} {b:Bool} {A:Around} {E:Value->Shared->Prop} {Q:Value->Shared->Prop} (I:Inv X pins σ H s) (zh:Same Z H) (r:Rep X.K Z (.ref x) (.dict [(.str "exc",.str n)])) (F:ExcC X.K n C) (ko:PySem.W.kitOne X.K (.ref C) c=some b)
  (h:∀ tk,Q (.bool b) { s with toks:=tk }):wpAny (model X.prog X.w) A (call (.builtin "isinstance") [.ref x,c]) Q E s:=by
 cases r with
 | opq q=>
  cases q with
  | @exc _ C' h1 h2=>
   have:C'=C:=by have:=h1.symm.trans F.nm; simpa using this
   subst this
   have q:ObjOk X.prog X.w H s.heap x (pX x C'):=by
    rcases h2 with h2 | ⟨ob,h2⟩
    ·exact I.hok x _ (zh _ _ h2)
    ·exact (I.hok x _ (zh _ _ h2)).2
   obtain ⟨o,q1,q2,_⟩:=q.1
   exact PySem.W.kia_one (Cs F) I.kIn ⟨o,q1,q2⟩ ko (fun z=>nomatch z) h
  | dct h1 _=>exact absurd h1 fun z=>yW z
theorem CQ {x:Str} {t:List (Str×Bool)} {p2:Pos} (T:IsX X.K x t) (hg:Gl X "isinstance") (hm:X.mg "isinstance" = none) (hgT:Gl X x) (ha:EV X a f) (hdT:(x==("__debug__":Str))=false:=by decide)
  (he:starEach (a::[.Name x p2]) X.env=(false,eval a X.env)::starEach [.Name x p2] X.env:=by rfl) (he2:starEach ((.Name x p2)::[]) X.env=(false,eval (.Name x p2) X.env)::starEach [] X.env:=by rfl) (hpl:(backTo pos (starEach [.Name x p2] X.env)).any (·.1)=false:=by rfl) :
  EV X (.Call (.Name "isinstance" p) [a,.Name x p2] [] pos) (o1 f (nP t)):=by
 intro pins s σ H Q I h
 obtain ⟨H₀,Z₀,Z,δ,d,hh,e,k⟩:=h
 obtain ⟨y,e1,e⟩:=bind_some e
 obtain ⟨n,b,rfl,e2,rfl⟩:=sR e
 obtain ⟨C,dC,F,hD,ko⟩:=T.get e2
 have hmT:=PySem.W.mg_of I.ok.mod.kin I.ok.mod.glob hD
 have cr:CallR X (.builtin "isinstance") (fun xs H Q=>∃ z Z,xs=[z,.ref dC]/\Same Z H/\Rep X.K Z z (.dict [(.str "exc",.str n)])/\Q (.bl b) H):=by
  intro pins s σ H xs us Q I rv h
  obtain ⟨z,Z,rfl,zh,r,q⟩:=h
  obtain ⟨u,w',rfl,r1,r2⟩:=vd rv
  cases (show w'=Value.ref dC from r2)
  cases r with
  | @opq a' _ q'=>
   cases (show u=Value.ref a' from r1)
   exact v5 I zh (.opq q') F ko fun tk=>⟨.bl b,H,I.tok _,rfl,q⟩
 exact mS cr hg hm PyProof.Rows.boot_isinstance (gr ha (gr (ue (v:=.ref dC) hgT hmT rfl hdT) lZ he2) he) (by decide) (by decide) he hpl pins s σ H Q I
  ⟨H₀,Z₀,Z,δ,_,hh,e1,fun v Z1 H1 hh1 s1 r1=>⟨v,Z1,rfl,hh1.zh,r1,k _ Z1 H1 hh1 s1 (.bl b)⟩⟩
theorem FU {x:Str} {D:String} {t:List (Str×Bool)} {p2:Pos} (T:IsT X.K D t) (hg:Gl X "isinstance") (hm:X.mg "isinstance" = none) (hgT:Gl X x) (hmT:X.mg x=none) (ha:EV X a f) (hvT:bootBuiltins x=some (.type D):=by decide +kernel) (hnT:x ≠ "__name__":=by decide) (hdT:(x==("__debug__":Str))=false:=by decide)
  (he:starEach (a::[.Name x p2]) X.env=(false,eval a X.env)::starEach [.Name x p2] X.env:=by rfl) (he2:starEach ((.Name x p2)::[]) X.env=(false,eval (.Name x p2) X.env)::starEach [] X.env:=by rfl) (hpl:(backTo pos (starEach [.Name x p2] X.env)).any (·.1)=false:=by rfl) :
  EV X (.Call (.Name "isinstance" p) [a,.Name x p2] [] pos) (o1 f (nP t)):=by
 intro pins s σ H Q I h
 obtain ⟨H₀,Z₀,Z,δ,d,hh,e,k⟩:=h
 obtain ⟨y,e1,e⟩:=bind_some e
 obtain ⟨n,b,rfl,e2,rfl⟩:=sR e
 obtain ⟨C,F,ko⟩:=T.get e2
 have cr:CallR X (.builtin "isinstance") (fun xs H Q=>∃ z Z,xs=[z,.ty D]/\Same Z H/\Rep X.K Z z (.dict [(.str "exc",.str n)])/\Q (.bl b) H):=by
  intro pins s σ H xs us Q I rv h
  obtain ⟨z,Z,rfl,zh,r,q⟩:=h
  obtain ⟨u,w',rfl,r1,r2⟩:=vd rv
  cases (show w'=Value.type D from r2)
  cases r with
  | @opq a' _ q'=>
   cases (show u=Value.ref a' from r1)
   exact v5 I zh (.opq q') F ko fun tk=>⟨.bl b,H,I.tok _,rfl,q⟩
 exact mS cr hg hm PyProof.Rows.boot_isinstance (gr ha (gr (yA (v:=.ty D) hgT hmT hvT rfl hnT hdT) lZ he2) he) (by decide) (by decide) he hpl pins s σ H Q I
  ⟨H₀,Z₀,Z,δ,_,hh,e1,fun v Z1 H1 hh1 s1 r1=>⟨v,Z1,rfl,hh1.zh,r1,k _ Z1 H1 hh1 s1 (.bl b)⟩⟩
end
end VL
set_option Elab.async false
set_option linter.all false
set_option maxRecDepth 100000
set_option maxHeartbeats 4000000
namespace VL
open PySem PySem.Spec PyProof.Rows L2
theorem mW {H H':Hp} {b:Addr} (s:Same H H') (h:H' b=none):H b=none:=by
 cases e:H b with
 | none=>rfl
 | some o=>rw [s b o e] at h; cases h
inductive Flung (m:Bool) (X:Cx) (n:Str) (Z H:Hp) (s:Shared) (e:Value) (s':Shared):Prop
 | made {x C:Addr} {vs:List Value}:m=true->PySem.W.nsIn X.K mainGlobals n=some (some (.ref C))->e=.ref x->s'={ s with heap:=s'.heap }->Heap.MadeExcOf s.heap s'.heap x (.ref C) vs->Flung m X n Z H s e s'
 | thrown {x C:Addr} {H' Z':Hp}:PySem.W.nsIn X.K mainGlobals n=some (some (.ref C))->e=.ref x->Thrown X.prog X.w X.stack H s x C H' s'->New Z H Z' H'->Z' x=some (pX x C)->H x=none->Flung m X n Z H s e s'
noncomputable def NT (m:Bool) (X:Cx) (f:Xf):TS:=fun _ σ H=>∃ H₀ Z₀ Z δ r,Hold X.K H₀ Z₀ Z δ σ H/\f δ = some r/\∀ pins σ' H' Z' s e s',Hold X.K H₀ Z₀ Z' r.2 σ' H'->Same Z Z'->Inv X pins σ' H' s->Flung m X r.1 Z' H' s e s'->X.xe e s'
noncomputable def Ov (m:Bool) (X:Cx) (f:Dv->Option Str):TE:=fun σ H _=>∃ H₀ Z₀ Z δ n,Hold X.K H₀ Z₀ Z δ σ H/\f δ = some n/\∀ pins σ' H' Z' s e s',Hold X.K H₀ Z₀ Z' δ σ' H'->Same Z Z'->Inv X pins σ' H' s->Flung m X n Z' H' s e s'->X.xe e s'
noncomputable def SX (m:Bool) (X:Cx) (st:Stmt) (f:Xf):Prop:=PS X st (NT m X f)
noncomputable def BX (m:Bool) (X:Cx) (st:List Stmt) (f:Xf):Prop:=PSs X st (NT m X f)
noncomputable def EX (m:Bool) (X:Cx) (e:Expr) (f:Dv->Option Str):Prop:=PE X e (Ov m X f)
section
variable {m:Bool} {X:Cx} {e c:Expr} {es:List Expr} {f:Dv->Option D} {fs:Dv->Option (List D)} {ft:Dv->Option Bool} {fx:Dv->Option Str} {st:Stmt} {sts body orelse:List Stmt} {s1:Sf} {u u1 u2:Xf} {pos p:Pos}
theorem SV.lift (h:SV X.nox st s1):SV X st s1:=fun pins s σ H D I hw=>
 wpAny_mono (h pins s σ H D (I.wish _) hw) (fun _ _ q=>q.unwish) fun _ _ z=>False.elim z
theorem BV.lift (h:BV X.nox sts s1):BV X sts s1:=PSs.nox h
theorem EV.lift (h:EV X.nox e f):EV X e f:=PE.nox h
theorem TV.lift (h:TV X.nox e ft):TV X e ft:=PT.nox h
theorem AV.lift (h:AV X.nox es fs):AV X es fs:=fun pos pins s σ H Q I hw=>
 wpAny_mono (h pos pins s σ H Q (I.wish _) hw) (fun _ _ ⟨vs,H',I',r,q⟩=>⟨vs,H',I'.unwish,r,q⟩) fun _ _ z=>False.elim z
theorem G7:BX m X sts xNo:=fun _ _ _ _ _ _ ⟨_,_,_,_,_,_,e,_⟩=>nomatch e
theorem Be (h:EX m X e fx):SX m X (.Return (some e) pos) (xE fx):=
 PS.imp (ub h) fun D σ H q=>by
  obtain ⟨H₀,Z₀,Z,δ,r,hh,e,k⟩:=q
  obtain ⟨n,e1,e⟩:=bind_some e
  cases e
  exact ⟨H₀,Z₀,Z,δ,n,hh,e1,k⟩
theorem yh (h:EX m X e fx) (hs:swapsWith e none pos.line X.env=pure false:=by rfl):SX m X (.Expr e pos) (xE fx):=
 PS.imp (pP h hs) fun D σ H q=>by
  obtain ⟨H₀,Z₀,Z,δ,r,hh,e,k⟩:=q
  obtain ⟨n,e1,e⟩:=bind_some e
  cases e
  exact ⟨H₀,Z₀,Z,δ,n,hh,e1,k⟩
theorem jP (h:SX m X st u):BX m X (st::sts) u:=
 PSs.imp (j6 h (u:=fun _ _ _=>False) fun _ _ _ _ _ _ z=>z.elim) fun D σ H q=>q
theorem Ga (h1:SV X st s1) (h2:BX m X sts u):BX m X (st::sts) (Hd s1 u):=
 PSs.imp (j6 h1 h2) fun D σ H q=>by
  obtain ⟨H₀,Z₀,Z,δ,r,hh,e,k⟩:=q
  obtain ⟨⟨fl,δ'⟩,e1,e⟩:=bind_some e
  cases fl with
  | nx=>exact ⟨H₀,Z₀,Z,δ,(.nx,δ'),hh,e1,fun σ' H' Z' hh' t'=>⟨H₀,Z₀,Z',δ',r,hh',e,fun pins σ2 H2 Z2 s e s' hh2 t2 I fl=>k pins σ2 H2 Z2 s e s' hh2 (t'.trans t2) I fl⟩⟩
  | bk=>cases e
  | ct=>cases e
  | rt d=>cases e
theorem Gb (h:SX m X st u1) (h1:SV X st s1) (h2:BX m X sts u2):BX m X (st::sts) (Gw u1 s1 u2):=fun pins s σ H D I q=>by
 obtain ⟨H₀,Z₀,Z,δ,r,hh,e,k⟩:=q
 have e:(match u1 δ with | some r=>some r | none=>Hd s1 u2 δ)=some r:=e
 cases q1:u1 δ with
 | some r1=>rw [q1] at e; cases e; exact jP h pins s σ H D I ⟨H₀,Z₀,Z,δ,r,hh,q1,k⟩
 | none=>rw [q1] at e; exact Ga h1 h2 pins s σ H D I ⟨H₀,Z₀,Z,δ,r,hh,e,k⟩
theorem GA (hc:TV X c ft) (ha:BX m X body u1) (hb:BX m X orelse u2):SX m X (.If c body orelse pos) (L3 ft u1 u2):=
 PS.imp (BI hc ha hb) fun D σ H q=>by
  obtain ⟨H₀,Z₀,Z,δ,r,hh,e,k⟩:=q
  obtain ⟨x,e1,e⟩:=bind_some e
  refine ⟨H₀,Z₀,Z,δ,x,hh,e1,fun Z1 H1 hh1 t1=>?_⟩
  cases x with
  | true=>exact ⟨H₀,Z₀,Z1,δ,r,hh1,e,fun pins σ2 H2 Z2 s e s' hh2 t2 I fl=>k pins σ2 H2 Z2 s e s' hh2 (t1.trans t2) I fl⟩
  | false=>exact ⟨H₀,Z₀,Z1,δ,r,hh1,e,fun pins σ2 H2 Z2 s e s' hh2 t2 I fl=>k pins σ2 H2 Z2 s e s' hh2 (t1.trans t2) I fl⟩
structure ExcX (K:Fg) (n:Str):Prop where
 ex:∃ C,ExcC K n C
theorem Bf {x:Str} {np cpos:Pos} (O:ExcX X.K x) (hg:Gl X x) (hc:X.calm=true) (ha:EV X e f) (hdb:(x==("__debug__":Str))=false:=by decide)
  (he:starEach (e::[]) X.env=(false,eval e X.env)::starEach [] X.env:=by rfl) (hpl:(backTo cpos (starEach [] X.env)).any (·.1)=false:=by rfl) :
  SX true X (.Raise (some (.Call (.Name x np) [e] [] cpos)) none pos) (A0 x f):=by
 intro pins s σ H D I h
 obtain ⟨H₀,Z₀,Z,δ,r,hh,e0,k⟩:=h
 obtain ⟨d,e1,e0⟩:=bind_some e0
 cases e0
 obtain ⟨C,F⟩:=O.ex
 obtain ⟨mr,ns,nm,qn,bs,hd,sn,sub,ab,col,dd,a0,a1,a2,a3,a5,mN,hC,hN,hni,TL⟩:=pW I.ok.mod.kin F.ex
 have hm:=PySem.W.mg_of I.ok.mod.kin I.ok.mod.glob F.nm
 refine wpAny_Raise_call_subU (C:=C) (nm:=nm) (q:=qn) (N:=ns) (bs:=bs) (bm:=mr) (hdct:=hd) (sn:=sn) (sub:=sub) (ab:=ab) (col:=col) (dd:=dd) (k0:=a0) (k1:=a1) (k2:=a2) (k3:=a3) (k5:=a5) (bmB:=DY)
  PySem.F.excBase_ValueError (by decide +kernel) PySem.F.excBase_ValueError (mN:=mN) (TL.hasType (by decide +kernel)) (I.ok.hd hc) (by rw [he]; show (false||(backTo cpos (starEach [] X.env)).any (·.1))=false; rw [hpl]; rfl) hni (lA I hg hm ⟨rfl,?_⟩ hdb)
 rw [he]
 have one:wpAny (model X.prog X.w) X.A (spliced (backTo cpos (starEach (e::[]) X.env))) (AP X pins σ fun vs H1=>vs.length=1/\∃ Z1,Hold X.K H₀ Z₀ Z1 δ σ H1/\Same Z Z1) X.xe s:=
  (gr ha lZ he) cpos pins s σ H _ I ⟨H₀,Z₀,Z,δ,d,hh,e1,fun v Z1 H1 hh1 t1 r1=>⟨rfl,Z1,hh1,t1⟩⟩
 rw [he] at one
 refine Calls.evalArgs_plain (wpAny_mono one (fun us s2 z=>?_) fun _ _ y=>y)
 obtain ⟨vs,H1,I1,rv,hl,Z1,hh1,t1⟩:=z
 have lu:us.length=1:=by rw [<- rv.length]; exact hl
 refine ⟨rfl,by show us.length<=sizeLine; rw [lu]; decide,I1.bk _ _ hC,hN.keeps I1.bk,TL.keeps I1.bk,fun h' ex hmd=>?_⟩
 exact k pins σ H1 Z1 s2 _ _ hh1 t1 I1 (.made rfl F.nm rfl rfl hmd)
noncomputable def Es (K:Fg) (g:List D->Option Str):Sp:=fun vs H _ E=>∃ Z as n,Same Z H/\Reps K Z vs as/\g as=some n/\∀ C x Z' H',PySem.W.nsIn K mainGlobals n=some (some (.ref C))->New Z H Z' H'->Z' x=some (pX x C)->H x=none->E (.ref C) (some x) H'
structure CalX (P:Program) (w:World) (K:PySem.W.Frag) (mg:Str->Option Value) (base:Heap) (x:Str) (k:Nat) (g:List D->Option Str) (dd:List D):Prop where
 ex:∃ (fa:Addr) (fd:FuncData) (ps:List Str) (ds:List Value) (dv:List V),FnOk P w K mg base (tP P w) k fa fd ps (Es K g)/\mg x=some (.ref fa)/\PySem.W.keepIn K (.ref fa)=true/\Binds K fd ps ds/\Vals dv ds/\∀ Z,Reps K Z dv dd
theorem xt {k:Nat} {x:Str} {g:List D->Option Str} (Y:CalX X.prog X.w X.K X.mg X.base x k g []) (hr:Room k X.A) (hg:Gl X x) (ha:AV X (e::es) fs) (hdb:(x==("__debug__":Str))=false:=by decide) (he:starEach (e::es) X.env=(false,eval e X.env)::starEach es X.env:=by rfl)
  (hpl:(backTo pos (starEach es X.env)).any (·.1)=false:=by rfl):EX m X (.Call (.Name x p) (e::es) [] pos) (GE fs g):=by
 obtain ⟨fa,fd,ps,ds,dv,F,hm,hk,hb,hd,hdd⟩:=Y.ex
 intro pins s σ H Q I h
 obtain ⟨H₀,Z₀,Z,δ,n,hh,e0,k⟩:=h
 obtain ⟨as,e1,e0⟩:=bind_some e0
 refine wpAny_Call_Name_kw (lA I hg hm ?_ hdb)
 refine PySem.W.callWith_K (h₀:=X.base) I.ok.mod.kin hk (dS (ha pos pins s σ H (fun vs H1=>∃ Z1,Hold X.K H₀ Z₀ Z1 δ σ H1/\Same Z Z1/\Reps X.K Z1 vs as) I ⟨H₀,Z₀,Z,δ,as,hh,e1,fun vs Z1 H1 hh1 t1 r1=>⟨Z1,hh1,t1,r1⟩⟩) fun us s1 ⟨vs,H1,I1,r,Z1,hh1,t1,r1⟩=>⟨I1.kIn,?_⟩) he hpl
 have r2:Vals (vs++dv) (us++ds):=r.append hd
 have sp:Es X.K g (vs++dv) H1 Q (fun c ox H2=>∃ C xx Z2,c=.ref C/\ox=some xx/\PySem.W.nsIn X.K mainGlobals n=some (some (.ref C))/\New Z1 H1 Z2 H2/\Z2 xx=some (pX xx C)/\H1 xx=none):=⟨Z1,as++[],n,hh1.zh,r1.append (hdd Z1),by rw [List.append_nil]; exact e0,fun C xx Z2 H2 hC n2 h2 h3=>⟨C,xx,Z2,rfl,rfl,hC,n2,h2,h3⟩⟩
 have hl:(us++ds).length=ps.length:=by rw [<- r2.length]; exact F.len _ _ _ _ sp
 refine wpAny_call (codeAny_mono (F.run X.A X.stack s1 H1 ⟨us,[]⟩ (us++ds) (vs++dv) Q _ hr I1.env0 (hb s1 us I1.kIn hl) r2 sp) fun res s' hq=>?_)
 cases res with
 | error ee=>
  obtain ⟨xx,C',H2,rfl,T,C,xx',Z2,hC',hx',hC,n2,h2,h3⟩:=hq
  cases hx'
  cases hC'
  exact k pins σ H1 Z1 s1 _ s' hh1 t1 I1 (.thrown hC rfl T n2 h2 h3)
 | ok fl=>
  cases fl with
  | ret z=>exact I1.after hq
  | next=>exact False.elim hq
  | brk=>exact False.elim hq
  | cont=>exact False.elim hq
end
section
variable {P:Program} {w:World} {K:PySem.W.Frag} {mg:Str->Option Value} {base:Heap}
theorem Jj {x qual:Str} {st:Stmt} {f:Addr} {fd:FuncData} {dV:Value} {N ps:List Str} {k:Nat} {fx:Xf} (F:FunV K x qual st f fd dV) (S:FnScope N ps (ah st))
  (hb:∀ (cdv:Value) (A:Around) (outer:List Env) (s:Shared) (H:Hp) (E:XK),Room k (A.deeper (envOfC qual (ah st) s.heap.objs.size f cdv))->BX true (iE (tP P w) P w K mg base N qual (ah st) f cdv A outer s H E) (bP st) fx) :
  FnOk P w K mg base (tP P w) (k+1) f fd ps (Es K (rP N ps.length fx)):=by
 obtain ⟨oc,od,kV,doc,pm,an,cdv,ct,osl,rfl,lk,hcd⟩:=F.ex
 have some_of:∀ {as:List D} {n:Str},rP N ps.length fx as=some n->as.length=ps.length/\∃ δ',fx (av N as)=some (n,δ'):=fun {as n} h=>by
  unfold rP at h
  split at h
  ·rename_i hl
   obtain ⟨⟨n',δ'⟩,e,h⟩:=bind_some h
   cases h
   exact ⟨hl,δ',e⟩
  ·cases h
 refine yU lk hcd S (fun vs H Q E h=>?_) fun A outer s H vs Q E hr hsp=>?_
 ·obtain ⟨Z,as,n,zh,r,e,_⟩:=h
  rw [r.length]
  exact (some_of e).1
 ·refine ⟨_,hb cdv A outer s H E hr,?_⟩
  obtain ⟨Z,as,n,zh,r,e,kk⟩:=hsp
  obtain ⟨_,δ',e2⟩:=some_of e
  have hh:=mn (N:=N) zh r
  refine ⟨H,Z,Z,_,(n,δ'),hh,e2,fun pins σ' H' Z' s1 ee s2 h' z' I fl=>?_⟩
  have nw:New Z H Z' H':=⟨z',h'.h0,h'.zh,h'.zb⟩
  cases fl with
  | @made xx C' vs' _ hC' he hs hmd=>
   subst he
   exact xk I hs hmd h'.h0 fun hn=>kk C' xx (eA Z' xx (pX xx C')) _ hC' (nw.trans (New.add h'.zh hn _)) aR (mW h'.h0 hn)
  | @thrown xx C' H2 Z2 hC' he T n2 hx hn=>
   subst he
   exact Ce I T (kk C' xx Z2 H2 hC' (nw.trans n2) hx (mW h'.h0 hn)) (h'.h0.trans n2.h)
end
end VL
set_option Elab.async false
set_option linter.all false
set_option maxRecDepth 100000
set_option maxHeartbeats 4000000
namespace VL
open PySem PySem.Spec PyProof.Rows L2
theorem Au {K:Fg} {n:Str} {M:Model} {A:Around} {E:Value->Shared->Prop} {s:Shared} {x C W:Addr} {o:Obj} {Q:Bool->Shared->Prop} (kin:K.In s.heap) (F:ExcC K n C) (FW:PySem.W.excIn K W DY "ValueError.__new__" = true) (hs:PySem.W.subIn K (.ref C) (.ref W)=some true)
  (e:s.heap.get? x=some o) (c:o.cls=.ref C) (h:Q true s):wpAny M A (excMatches (.ref x) (.ref W)) Q E s:=by
 obtain ⟨mr,ns,nm,qn,bs,hd,sn,sub,ab,col,dd,a0,a1,a2,a3,a5,mN,hW,hN,hni,TL⟩:=pW kin FW
 obtain ⟨hh,g,d,t,os⟩:=s
 have cB:(Value.ref W::mr).contains (.type "BaseException")=true:=by rw [List.contains_cons,TL.hasType (b:=true) (by decide +kernel),Bool.or_true]
 have L:=PySem.W.looks_subIn (M:=M) kin hs
 have L0:=jy (M:=M) e c
 have nt:=tc_notTuple
 unfold excMatches
 repeat (first | with_reducible refine L0.at ?_ | with_reducible refine L.at ?_ | with_reducible refine wpAny_loadPart_at hW ?_ | (with_reducible refine wpAny_isSubtype_exc hW ?_; rw [cB]) | wp_step)
 exact h
inductive HndL (K:Fg) (W:Addr):List Str->Prop
 | nil:HndL K W []
 | cons {n:Str} {t:List Str} {C:Addr}:ExcC K n C->PySem.W.subIn K (.ref C) (.ref W)=some true->HndL K W t->HndL K W (n::t)
theorem HndL.get {K:Fg} {W:Addr} {t:List Str} (h:HndL K W t) {n:Str} (e:t.contains n=true):∃ C,ExcC K n C/\PySem.W.subIn K (.ref C) (.ref W)=some true:=by
 induction h with
 | nil=>cases e
 | cons h1 h2 _ ih=>
  rw [List.contains_cons,Bool.or_eq_true] at e
  rcases e with e | e
  ·have:=eq_of_beq e; subst this; exact ⟨_,h1,h2⟩
  ·exact ih e
structure Hnd (K:Fg) (W:Str) (ns:List Str):Prop where
 ex:∃ wC,PySem.W.nsIn K mainGlobals W=some (some (.ref wC))/\PySem.W.excIn K wC DY "ValueError.__new__" = true/\HndL K wC ns
theorem Thrown.move {P:Program} {w:World} {l:List Env} {H H2:Hp} {s s2:Shared} {x C:Addr} (T:Thrown P w l H s x C H2 s2) (hf:∀ b∈kn l,∃ o,s.heap.get? b=some o/\∀ vs,o.data≠.fields vs) (hn:∀ b∈kn l,H b=none) :
  ∃ B t,FlyX B l x (.ref C) t s2.heap/\∀ h' t',FlyX B l x (.ref C) t' h'->s2.heap.UpToSlots h'->Thrown P w l H s x C H2 { s2 with heap:=h' }:=by
 obtain ⟨B,t,fl,hB1,hB2⟩:=T.fly
 refine ⟨B,t,fl,fun h' t' fl' sm=>?_⟩
 have slot:∀ b o,s.heap.get? b=some o->H b=none->b∈kn l->∃ sl,h'.get? b=some { o with slots:=sl }:=fun b o q n hb=>by
  obtain ⟨sl2,e2⟩:=T.un.slot b o q n hb (fun z=>nomatch z)
  obtain ⟨o',ho',hd⟩:=hf b hb
  rw [q] at ho'; cases ho'
  obtain ⟨sl3,e3⟩:=sm b _ e2 hd
  exact ⟨sl3,e3⟩
 refine ⟨T.os,T.bare,⟨fun b o q n hb _=>fl'.1.1 b o (hB2 b o q n hb),fun b o q n hb _=>slot b o q n hb,fun b o q n z=>T.un.free b o q n z,fun b o q _=>?_,T.un.tups,T.un.frzs,T.un.tbls⟩,yR (l:=[]) (t:=t) T.hok T.is fl.1.1 fl' hB1,T.sm,T.is,⟨B,t',fl',hB1,hB2⟩⟩
 cases q2:H2 b with
 | some ho=>
  by_cases hb:b=x
  ·subst hb; obtain ⟨ob,e1,_⟩:=fl'.there; exact ⟨ob,e1⟩
  ·obtain ⟨ob,e1⟩:=hB1 b ho q2 hb; exact ⟨ob,fl'.1.1 b ob e1⟩
 | none=>
  have n:H b=none:=by
   cases e:H b with
   | none=>rfl
   | some z=>rw [T.sm b z e] at q2; cases q2
  by_cases hb:b∈kn l
  ·obtain ⟨sl,e⟩:=slot b o q n hb; exact ⟨_,e⟩
  ·exact ⟨o,fl'.1.1 b o (hB2 b o q n hb)⟩
section
variable {X:Cx} {pins:List (Addr×Obj)} {σ:St} {H:Hp} {s:Shared}
theorem Jp {M:Model} {A:Around} {E:Value->Shared->Prop} {i:Nat} {x:Str} {v:V} {Q:Unit->Shared->Prop} (I:Inv X pins σ H s) (hN:X.N.Nodup) (hi:X.N[i]? = some x) (hk:X.env.scope.names.lookup x=some .local) (hv:σ[i]? = some (some v))
  (h:∀ s',Inv X pins (σ.set i none) H s'->Q () s'):wpAny M A (unbindName X.env x) Q E s:=by
 obtain ⟨m,hn,hl⟩:=id I.loc
 have hcls:(X.env.scope.kind == .class||(X.env.scope.kind == .module&&X.env.locals != X.env.globals))=false:=by rw [I.ok.kind]; rfl
 have hiσ:i < σ.length:=by rw [I.len]; exact (List.getElem?_eq_some_iff.mp hi).1
 have cne:=I.cne
 obtain ⟨u,rv,lk⟩:=hl i x v hi hv (.inl hk)
 have hmx:m x=some u:=by
  rcases lk with ⟨_,q⟩ | ⟨q,_⟩
  ·exact q
  ·rcases q with q | q
   ·rw [show X.env.kindOf x=some .local from hk] at q; cases q
   ·rw [show X.env.kindOf x=some .local from hk] at q; cases q
 refine wpAny_unbindName_local hk hn hmx hcls fun h' u' hn' hs=>?_
 obtain ⟨oL,_,_,hoL,_⟩:=id hn
 have tracked:HOk X.prog X.w H h':=fun b ob e=>by
  refine (I.hok b ob e).stay (fun c w' hc q=>(hs.2 c ?_).trans q) (fun _ q=>q) fun _ _ q=>q
  rintro rfl
  rcases hc with z | hc
  ·rw [<- z,I.free] at e; cases e
  ·rw [I.free] at hc; cases hc
 refine h _ ⟨I.ok,I.os,I.bare,⟨fun b o e n hb hx=>?_,fun b o e n hb hx=>?_,I.base.free,fun b o e hx=>?_,I.base.tups,I.base.frzs,I.base.tbls⟩,⟨_,hn',fun j y v' e1 e2 e3=>?_⟩,fun y c e=>?_,I.free,I.freeC,fun p hp=>?_,tracked,by simpa using I.len⟩
 ·exact (hs.2 b (Nat.ne_of_lt (Nat.lt_of_lt_of_le (Heap.lt_size e) I.ok.above))).trans (I.base.keep b o e n hb hx)
 ·obtain ⟨sl,e1⟩:=I.base.slot b o e n hb hx
  exact ⟨sl,(hs.2 b (Nat.ne_of_lt (Nat.lt_of_lt_of_le (Heap.lt_size e) I.ok.above))).trans e1⟩
 ·obtain ⟨o',e1⟩:=I.base.there b o e hx
  exact ⟨o',(hs.2 b (Nat.ne_of_lt (Nat.lt_of_lt_of_le (Heap.lt_size e) I.ok.above))).trans e1⟩
 ·by_cases hj:j=i
  ·subst hj
   rw [List.getElem?_set_self hiσ] at e2
   cases e2
  ·rw [List.getElem?_set_ne (Ne.symm hj)] at e2
   obtain ⟨z',r',q⟩:=hl j y v' e1 e2 e3
   refine ⟨z',r',?_⟩
   rcases q with ⟨k,e⟩ | ⟨k,c,e,z⟩
   ·refine .inl ⟨k,?_⟩
    have:y≠x:=fun e=>hj (qG hN e1 (e ▸ hi))
    simp [this,e]
   ·exact .inr ⟨k,c,e,z.sameBut hs (cne y c e)⟩
 ·obtain ⟨w',z⟩:=I.cell y c e
  exact ⟨w',z.sameBut hs (cne y c e)⟩
 ·obtain ⟨e,n,ne,nf,d⟩:=I.pin p hp
  exact ⟨(hs.2 p.1 ne).trans e,n,ne,nf,d⟩
theorem tS {M:Model} {A:Around} {E:Value->Shared->Prop} {i:Nat} {x:Str} {pos:Pos} {Q:Unit->Shared->Prop} (I:Inv X pins σ H s) (hN:X.N.Nodup) (hi:X.N[i]? = some x) (hk:X.env.scope.names.lookup x=some .local)
  (h:∀ s',Inv X pins (σ.set i none) H s'->Q () s'):wpAny M A (do bindName X.env x .none; unbindBehindTheSuite X.env x pos) Q E s:=by
 have hiσ:i < σ.length:=by rw [I.len]; exact (List.getElem?_eq_some_iff.mp hi).1
 refine wpAny_bind (wpAny_bindName (mL I hN hi (.inl hk) (v:=.non) (u:=.none) rfl (fun s1 I1=>?_) (.inr hk)))
 unfold unbindBehindTheSuite
 refine wpAny_onRaise ?_
 refine Jp (v:=.non) I1 hN hi hk (List.getElem?_set_self hiσ) fun s2 I2=>?_
 rw [List.set_set] at I2
 exact h s2 I2
end
theorem Hold.unset {K:Fg} {H₀ Z₀ Z H:Hp} {δ:Dv} {σ:St} (h:Hold K H₀ Z₀ Z δ σ H) (i:Nat):Hold K H₀ Z₀ Z (δ.set i .un) (σ.set i none) H where
 zh:=h.zh
 h0:=h.h0
 z0:=h.z0
 zb:=h.zb
 len:=by simp [h.len]
 fz:=fun j e q=>by
  by_cases hj:i=j
  ·subst hj
   have hl:i < δ.length:=by have:=(List.getElem?_eq_some_iff.mp q).1; simpa using this
   rw [List.getElem?_set_self hl] at q
   cases q
  ·rw [List.getElem?_set_ne hj] at q
   obtain ⟨u,a,b⟩:=h.fz j e q
   exact ⟨u,by rw [List.getElem?_set_ne hj]; exact a,b⟩
 own:=fun j es q=>by
  by_cases hj:i=j
  ·subst hj
   have hl:i < δ.length:=by have:=(List.getElem?_eq_some_iff.mp q).1; simpa using this
   rw [List.getElem?_set_self hl] at q
   cases q
  ·rw [List.getElem?_set_ne hj] at q ⊢
   exact h.own j es q
 dja:=fun j k ds es a hjk q1 q2=>by
  have f:∀ {m:Nat} {ds:Oc},(δ.set i .un)[m]? = some (.own ds)->i≠m /\ δ[m]? = some (.own ds):=fun {m ds} q=>by
   by_cases hm:i=m
   ·subst hm
    have hl:i < δ.length:=by have:=(List.getElem?_eq_some_iff.mp q).1; simpa using this
    rw [List.getElem?_set_self hl] at q
    cases q
   ·rw [List.getElem?_set_ne hm] at q; exact ⟨hm,q⟩
  obtain ⟨a1,b1⟩:=f q1
  obtain ⟨a2,b2⟩:=f q2
  rw [List.getElem?_set_ne a1,List.getElem?_set_ne a2]
  exact h.dja j k ds es a hjk b1 b2
 fr:=h.fr.put (fun _ z=>nomatch z) fun _ hj=>List.getElem?_set_ne hj
noncomputable abbrev LW (X:Cx) (pn:List (Addr×Obj)) (E:Value->Shared->Prop):Cx:={ X with pn:=pn,xe:=E }
noncomputable abbrev JP (X:Cx) (x:Addr):Cx:={ X with A:=X.A.mark (some (.ref x)),calm:=false,xe:=fun _ _=>False }
theorem Inv.toT {X:Cx} {pins:List (Addr×Obj)} {σ:St} {H:Hp} {s:Shared} (I:Inv X pins σ H s) (E:Value->Shared->Prop):Inv (LW X (X.pn++pins) E) [] σ H s:=
 ⟨⟨I.ok.mod,I.ok.kind,I.ok.glob,I.ok.blt,I.ok.above,I.ok.inj,I.ok.has,I.ok.cab,I.ok.hd,I.ok.frames,I.ok.stk,I.ok.exf,I.ok.bs,I.ok.bsz,I.ok.noex,I.ok.exfs,I.ok.funs,I.ok.frf⟩,I.os,I.bare,I.base,I.loc,I.cell,I.free,I.freeC,fun p hp=>I.pin p (by simpa using hp),I.hok,I.len⟩
theorem Inv.ofT {X:Cx} {pins pins':List (Addr×Obj)} {σ:St} {H:Hp} {s:Shared} {E:Value->Shared->Prop} (I:Inv (LW X (X.pn++pins) E) pins' σ H s):Inv X pins σ H s:=
 ⟨⟨I.ok.mod,I.ok.kind,I.ok.glob,I.ok.blt,I.ok.above,I.ok.inj,I.ok.has,I.ok.cab,I.ok.hd,I.ok.frames,I.ok.stk,I.ok.exf,I.ok.bs,I.ok.bsz,I.ok.noex,I.ok.exfs,I.ok.funs,I.ok.frf⟩,I.os,I.bare,I.base,I.loc,I.cell,I.free,I.freeC,fun p hp=>I.pin p (List.mem_append_left _ hp),I.hok,I.len⟩
theorem Inv.toH {X:Cx} {pins:List (Addr×Obj)} {σ:St} {H:Hp} {s:Shared} (I:Inv X pins σ H s) (x:Addr):Inv (JP X x) pins σ H s:=
 ⟨⟨I.ok.mod,I.ok.kind,I.ok.glob,I.ok.blt,I.ok.above,I.ok.inj,I.ok.has,I.ok.cab,(fun z=>(nomatch z)),I.ok.frames,I.ok.stk,I.ok.exf,I.ok.bs,I.ok.bsz,I.ok.noex,I.ok.exfs,I.ok.funs,I.ok.frf⟩,I.os,I.bare,I.base,I.loc,I.cell,I.free,I.freeC,I.pin,I.hok,I.len⟩
theorem Inv.ofH {X:Cx} {pins:List (Addr×Obj)} {σ:St} {H:Hp} {s:Shared} {x:Addr} (hc:X.A.handled=none) (I:Inv (JP X x) pins σ H s):Inv X pins σ H s:=
 ⟨⟨I.ok.mod,I.ok.kind,I.ok.glob,I.ok.blt,I.ok.above,I.ok.inj,I.ok.has,I.ok.cab,fun _=>hc,I.ok.frames,I.ok.stk,I.ok.exf,I.ok.bs,I.ok.bsz,I.ok.noex,I.ok.exfs,I.ok.funs,I.ok.frf⟩,I.os,I.bare,I.base,I.loc,I.cell,I.free,I.freeC,I.pin,I.hok,I.len⟩
theorem Inv.still {X:Cx} {pins:List (Addr×Obj)} {σ:St} {H:Hp} {s:Shared} {x C:Addr} {ob:Obj} (I:Inv X pins σ H s) (hx:H x=some (pX x C)) (ho:s.heap.get? x=some ob):Inv X pins σ (eA H x (.frz ob (pX x C))) s:=by
 have ne:∀ {b:Addr},H b=none->b≠x:=fun {b} h z=>by subst z; rw [hx] at h; cases h
 have up:∀ {b:Addr},H b=none->eA H x (.frz ob (pX x C)) b=none:=fun {b} h=>by rw [aI (ne h)]; exact h
 refine ⟨I.ok,I.os,I.bare,⟨I.base.keep,I.base.slot,fun b o e n hb=>up (I.base.free b o e n hb),I.base.there,fun b xs e=>?_,fun b o u e=>?_,fun b ps e=>?_⟩,I.loc,I.cell,up I.free,fun y c e=>up (I.freeC y c e),fun p hp=>?_,fun b o e=>?_,I.len⟩
 ·have q:=I.base.tups b xs e
  by_cases hb:b=x
  ·subst hb; rw [hx] at q; cases q
  ·rw [aI hb]; exact q
 ·have q:=I.base.frzs b o u e
  by_cases hb:b=x
  ·subst hb; rw [hx] at q; cases q
  ·rw [aI hb]; exact q
 ·obtain ⟨m,q⟩:=I.base.tbls b ps e
  by_cases hb:b=x
  ·subst hb; rw [hx] at q; cases q
  ·exact ⟨m,by rw [aI hb]; exact q⟩
 ·obtain ⟨e,n,r⟩:=I.pin p hp
  exact ⟨e,up n,r⟩
 ·have st:∀ {b':Addr} {o':HO},ObjOk X.prog X.w H s.heap b' o'->ObjOk X.prog X.w (eA H x (.frz ob (pX x C))) s.heap b' o':=fun {b' o'} q=>by
   refine q.stay (fun _ _ _ z=>z) (fun c z=>?_) fun c xs z=>?_
   ·by_cases hc:c=x
    ·subst hc; rw [hx] at z; cases z
    ·rw [aI hc]; exact z
   ·by_cases hc:c=x
    ·subst hc; rw [hx] at z; cases z
    ·rw [aI hc]; exact z
  by_cases hb:b=x
  ·subst hb
   rw [aR] at e
   cases e
   exact ⟨ho,st (I.hok b _ hx)⟩
  ·rw [aI hb] at e
   exact st (I.hok b o e)
theorem New.still {Z H Z2 H2:Hp} {x C:Addr} {ob:Obj} (n:New Z H Z2 H2) (zh:Same Z H) (hz:Z2 x=some (pX x C)) (hn:H x=none):New Z H (eA Z2 x (.frz ob (pX x C))) (eA H2 x (.frz ob (pX x C))) where
 z:=fun b o e=>by rw [aI (bg (zh b o e) hn)]; exact n.z b o e
 h:=fun b o e=>by rw [aI (bg e hn)]; exact n.h b o e
 zh:=fun b o e=>by
  by_cases hb:b=x
  ·subst hb; rw [aR] at e ⊢; exact e
  ·rw [aI hb] at e ⊢; exact n.zh b o e
 o:=fun b hb=>by
  have:b≠x:=fun z=>hb (by rw [z]; exact hn)
  rw [aI this]; exact n.o b hb
noncomputable def Op (K:Fg) (x:Addr) (ob:Obj) (C:Addr) (f:Sf):TS:=fun D σ H=>∃ H₀ Z₀ Z δ r,Hold K H₀ Z₀ Z δ σ H/\Z x=some (.frz ob (pX x C))/\f δ = some r/\∀ σ' H' Z',Hold K H₀ Z₀ Z' r.2 σ' H'->Same Z Z'->r.1.to K Z' D σ' H'
section
variable {X:Cx} {body suite:List Stmt} {b₀:Stmt} {b bs:Sf} {bx:Xf} {np hpos pos:Pos}
theorem Ek (i:Nat) {n W:Str} {ns:List Str} (O:Hnd X.K W ns) (hgW:Gl X W) (hN:X.N.Nodup) (hi:X.N[i]? = some n) (hloc:X.env.scope.names.lookup n=some .local) (hcalm:X.calm=true) (hstk:X.stack=X.env::X.outer)
  (hb:BV X.nox body b) (hx:∀ pn E',BX false (LW X pn E') body bx) (hs:∀ x ob C,(∃ vs,ob.data=.fields vs/\vs[2]? = some .none)->PSs (JP X x) (b₀ :: suite) (Op X.K x ob C bs)) (hfrm:X.env.frame=some X.env.locals:=by rfl) (hdb:(W==("__debug__":Str))=false:=by decide) :
  SV X (.Try body [.ExceptHandler (some (.Name W np)) (some n) (b₀ :: suite) hpos] [] [] pos) (zG i ns b bx bs):=by
 intro pins s σ H D I h
 obtain ⟨H₀,Z₀,Z,δ,r,hh,e,k⟩:=h
 unfold zG at e
 cases hbx:bx δ with
 | none=>
  rw [hbx] at e
  refine wpAny_Try_except (wpAny_mono (hb pins s σ H D (I.wish _) ⟨H₀,Z₀,Z,δ,r,hh,e,k⟩) (fun f s1 q=>?_) fun _ _ z=>False.elim z)
  have q:=q.unwish
  cases f with
  | next=>exact wpAny_execs_nil q
  | brk=>exact q
  | cont=>exact q
  | ret u=>exact q
 | some pr=>
  obtain ⟨nm,δ'⟩:=pr
  rw [hbx] at e
  dsimp only at e
  split at e
  rotate_left
  ·cases e
  rename_i hcn
  obtain ⟨⟨fl,δ2⟩,e2,e⟩:=bind_some e
  cases e
  obtain ⟨wC,hW,FW,L⟩:=O.ex
  obtain ⟨C,F,hsub⟩:=L.get hcn
  have hhd:=I.ok.hd hcalm
  refine wpAny_Try_except (wpAny_mono (hx (X.pn++pins) _ [] s σ H ⟨fun _ _=>False,fun _ _=>False,fun _ _=>False,fun _ _=>False⟩ (Inv.toT I _) ⟨H₀,Z₀,Z,δ,(nm,δ'),hh,hbx,?_⟩) (fun f s1 q=>?_) fun _ _ z=>z)
  rotate_left
  ·cases f with
   | next=>obtain ⟨_,_,_,q⟩:=q; exact q.elim
   | brk=>obtain ⟨_,_,_,q⟩:=q; exact q.elim
   | cont=>obtain ⟨_,_,_,q⟩:=q; exact q.elim
   | ret u=>obtain ⟨_,_,_,_,_,q⟩:=q; exact q.elim
  intro pins' σ' H' Z' s1 e1 s2 hh' sm I1 fg
  cases fg with
  | made hm _ _ _ _=>cases hm
  | @thrown x C' H2 Z2 hC' he T nw hx2 hxn=>
   subst he
   have:C'=C:=by have:=hC'.symm.trans F.nm; simpa using this
   subst this
   have I1:Inv X pins σ' H' s1:=Inv.ofT I1
   have T:Thrown X.prog X.w X.stack H' s1 x C' H2 s2:=T
   have ff:∀ b∈kn X.stack,∃ o,s1.heap.get? b=some o/\∀ vs,o.data≠.fields vs:=fun b hb=>(I1.stack.mem hb).2
   obtain ⟨B,t,fl0,mv⟩:=T.move ff I1.stkFree
   have fl1:=fl0
   rw [hstk] at fl1
   refine yK (by rw [I1.ok.frames,hstk]) hfrm fl1 fun h4 held4 sm4=>?_
   refine uB held4 fun h5 fl5 sm5=>?_
   have fl5':=fl5
   rw [<- hstk] at fl5'
   have T5:=mv h5 t fl5' (sm4.trans sm5)
   have I5:Inv X pins σ' H2 { s2 with heap:=h5 }:=I1.call' T5.os T5.un T5.hok T5.bare (fun _ z=>nomatch z)
   have hmW:=PySem.W.mg_of I.ok.mod.kin I.ok.mod.glob hW
   refine wpAny_handleBy_cons (codeAny_handlers_test (lA (X:=JP X x) (Inv.toH I5 x) hgW hmW ?_ hdb)) (by intro q; cases q)
   obtain ⟨oe,hoe,hoec⟩:=fl5.there
   refine Au I5.kIn F FW hsub hoe hoec (codeAny_handlers_suite_as ?_)
   refine r6 fl5 fun h6 fl6 sm6=>?_
   have fl6':=fl6
   rw [<- hstk] at fl6'
   have T6:=mv h6 t fl6' ((sm4.trans sm5).trans sm6)
   have I6:Inv X pins σ' H2 { s2 with heap:=h6 }:=I1.call' T6.os T6.un T6.hok T6.bare (fun _ z=>nomatch z)
   obtain ⟨ob,hob,_,hF⟩:=(T6.hok x _ T6.is).1
   have I6':Inv X pins σ' (eA H2 x (.frz ob (pX x C'))) { s2 with heap:=h6 }:=Inv.still I6 T.is hob
   refine mL (X:=JP X x) (v:=.ref x) (u:=.ref x) (Inv.toH I6' x) hN hi (.inl hloc) rfl (fun s7 I7=>?_) (.inr hloc)
   have nw':=nw.still (ob:=ob) hh'.zh hx2 hxn
   have hh7:Hold X.K H₀ Z₀ (eA Z2 x (.frz ob (pX x C'))) (δ'.set i (.fz (Li nm))) (σ'.set i (some (.ref x))) (eA H2 x (.frz ob (pX x C'))):=(hh'.new nw').set (.opq (.exc hC' (.inr ⟨ob,aR⟩)))
   refine wpAny_mono (hs x ob C' hF pins s7 _ _ ⟨fun σ8 H8=>D.nx (σ8.set i none) H8,D.rt,fun σ8 H8=>D.bk (σ8.set i none) H8,fun σ8 H8=>D.ct (σ8.set i none) H8⟩ I7 ⟨H₀,Z₀,_,_,(fl,δ2),hh7,aR,e2,fun σ8 H8 Z8 hh8 t8=>?_⟩) (fun f s8 q=>?_) fun _ _ z=>False.elim z
   ·have:=k (σ8.set i none) H8 Z8 (hh8.unset i) ((sm.trans nw'.z).trans t8)
    cases fl <;> exact this
   ·cases f with
    | next=>
     obtain ⟨σ8,H8,I8,q⟩:=q
     exact tS (Inv.ofH hhd I8) hN hi hloc fun s9 I9=>⟨_,H8,I9,q⟩
    | brk=>
     obtain ⟨σ8,H8,I8,q⟩:=q
     exact tS (Inv.ofH hhd I8) hN hi hloc fun s9 I9=>⟨_,H8,I9,q⟩
    | cont=>
     obtain ⟨σ8,H8,I8,q⟩:=q
     exact tS (Inv.ofH hhd I8) hN hi hloc fun s9 I9=>⟨_,H8,I9,q⟩
    | ret u=>
     obtain ⟨v,σ8,H8,I8,rv,q⟩:=q
     exact tS (Inv.ofH hhd I8) hN hi hloc fun s9 I9=>⟨v,_,H8,I9,rv,q⟩
theorem Hv (i:Nat) {n W:Str} {ns:List Str} (O:Hnd X.K W ns) (hgW:Gl X W) (hN:X.N.Nodup) (hi:X.N[i]? = some n) (hloc:X.env.scope.names.lookup n=some .local) (hcalm:X.calm=true) (hstk:X.stack=X.env::X.outer)
  (hb:BV X.nox body b) (hx:∀ pn E',BX false (LW X pn E') body bx) (hs:∀ x,BV (JP X x) (b₀ :: suite) bs) (hfrm:X.env.frame=some X.env.locals:=by rfl) (hdb:(W==("__debug__":Str))=false:=by decide) :
  SV X (.Try body [.ExceptHandler (some (.Name W np)) (some n) (b₀ :: suite) hpos] [] [] pos) (zG i ns b bx bs):=
 Ek i O hgW hN hi hloc hcalm hstk hb hx (fun x _ _ _=>PSs.imp (hs x) fun D σ H h=>by
  obtain ⟨H₀,Z₀,Z,δ,r,hh,_,e,k⟩:=h
  exact ⟨H₀,Z₀,Z,δ,r,hh,e,k⟩) hfrm hdb
end
end VL
set_option Elab.async false
set_option linter.all false
set_option maxRecDepth 100000
set_option maxHeartbeats 4000000
namespace VL
open PySem PySem.Spec PyProof.Rows L2
noncomputable def v7:Sl->Bool
 | .own _=>true
 | _=>false
@[simp] theorem LN (d:D):v7 (.fz d)=false:=rfl
@[simp] theorem LM:v7 .un=false:=rfl
noncomputable def wO:Nat->Dv->Bool
 | _,[]=>true
 | 0,_::r=>r.all fun s=>!v7 s
 | n+1,s::r=>!v7 s&&wO n r
@[simp] theorem Ka (n:Nat):wO n []=true:=by cases n <;> rfl
@[simp] theorem JH (s:Sl) (r:Dv):wO 0 (s::r)=r.all fun s=>!v7 s:=rfl
@[simp] theorem JI (n:Nat) (s:Sl) (r:Dv):wO (n+1) (s::r)=(!v7 s&&wO n r):=rfl
noncomputable def oA (i:Nat) (ft:Dv->Option Bool):Dv->Option Bool:=fun δ=>if wO i δ = true then ft (pi i δ) else none
theorem vr:∀ (i:Nat) (δ:Dv),wO i δ = true->∀ (j:Nat) (ds:Oc),δ[j]? = some (.own ds)->j=i
 | _,[],_,j,ds,e=>by simp at e
 | 0,s::r,h,0,ds,e=>rfl
 | 0,s::r,h,j+1,ds,e=>by
  have:=List.all_eq_true.mp h (.own ds) (List.mem_of_getElem? (by simpa using e))
  cases this
 | i+1,s::r,h,0,ds,e=>by
  have h:=(Bool.and_eq_true_iff.mp h).1
  have e:s=.own ds:=by simpa using e
  subst e; cases h
 | i+1,s::r,h,j+1,ds,e=>congrArg (· + 1) (vr i r (Bool.and_eq_true_iff.mp h).2 j ds (by simpa using e))
theorem x9 {X:Cx} {e:Expr} {ft:Dv->Option Bool} (i:Nat) (h:TV X e ft):TV X e (oA i ft):=
 PT.imp h fun σ H Q q=>by
  obtain ⟨H₀,Z₀,Z,δ,b,hh,e,k⟩:=q
  unfold oA at e
  split at e
  rotate_left
  ·cases e
  rename_i hso
  unfold pi at e
  split at e
  ·rename_i ds q
   obtain ⟨a,xs,h1,h2,h3,h4,h5⟩:=hh.ow i ds q
   have hl:i < δ.length:=(List.getElem?_eq_some_iff.mp q).1
   have sz:Same Z (eA Z a (.lst xs)):=ie h3
   have hh1:Hold X.K H₀ Z₀ (eA Z a (.lst xs)) (δ.set i (.fz (.list ds))) σ H:=by
    refine ⟨fun b o q=>?_,hh.h0,hh.z0.trans sz,fun b hb=>?_,by simp [hh.len],fun j d q=>?_,fun j d q=>?_,fun j k d1 d2 b hjk q1 q2=>?_,(hh.fr.same sz).put (fun _ z=>nomatch z) fun _ _=>rfl⟩
    ·by_cases hb:b=a
     ·subst hb; rw [aR] at q; cases q; exact h4
     ·rw [aI hb] at q; exact hh.zh b o q
    ·rw [aI (fun z=>hb (by rw [z]; exact h2))]; exact hh.zb b hb
    ·by_cases hj:i=j
     ·subst hj
      rw [List.getElem?_set_self hl] at q
      cases q
      exact ⟨.ref a,h1,.lst (SqL.of aR) (h5.same sz)⟩
     ·rw [List.getElem?_set_ne hj] at q
      obtain ⟨v,g1,g2⟩:=hh.fz j d q
      exact ⟨v,g1,g2.same sz⟩
    ·by_cases hj:i=j
     ·subst hj
      rw [List.getElem?_set_self hl] at q
      cases q
     ·rw [List.getElem?_set_ne hj] at q
      obtain ⟨b,ws,g1,g2,g3,g4,g5⟩:=hh.own j d q
      have:b≠a:=fun z=>by subst z; rename_i q0; exact hh.dja i j _ d b hj q0 q h1 g1
      exact ⟨b,ws,g1,g2,by rw [aI this]; exact g3,g4,g5.same sz⟩
    ·by_cases hj:i=j
     ·subst hj
      rw [List.getElem?_set_self hl] at q1
      cases q1
     ·by_cases hk:i=k
      ·subst hk
       rw [List.getElem?_set_self hl] at q2
       cases q2
      ·rw [List.getElem?_set_ne hj] at q1
       rw [List.getElem?_set_ne hk] at q2
       exact hh.dja j k d1 d2 b hjk q1 q2
   refine ⟨H₀,Z₀,_,_,b,hh1,e,fun Z2 H2 hh2 t2=>?_⟩
   have zl:Same Z (fun c=>if c=a then none else Z2 c):=fun c o q=>by
    have hc:c≠a:=bg q h3
    show (if c=a then none else Z2 c)=some o
    rw [if_neg hc]
    exact t2 c o (sz c o q)
   have back:Hold X.K H₀ Z₀ (fun c=>if c=a then none else Z2 c) δ σ H2:=by
    refine ⟨fun b o q=>?_,hh2.h0,hh.z0.trans zl,fun b hb=>?_,hh.len,fun j d q=>?_,fun j d q=>?_,hh.dja,hh.fr.same zl⟩
    ·have q:(if b=a then none else Z2 b)=some o:=q
     split at q
     ·cases q
     ·exact hh2.zh b o q
    ·show (if b=a then none else Z2 b)=_
     rw [if_neg (fun z=>hb (by rw [z]; exact h2))]
     exact hh2.zb b hb
    ·obtain ⟨v,g1,g2⟩:=hh.fz j d q
     exact ⟨v,g1,g2.same zl⟩
    ·by_cases hj:i=j
     ·subst hj
      rename_i q0
      rw [q0] at q
      cases q
      refine ⟨a,.lst xs,h1,h2,by simp,hh2.zh a _ (t2 a _ aR),.lst (h5.same zl)⟩
     ·exact absurd (vr i δ hso j d q) (Ne.symm hj)
   exact k _ H2 back zl
  ·exact ⟨H₀,Z₀,Z,_,b,hh,e,k⟩
end VL
set_option Elab.async false
set_option linter.all false
set_option maxRecDepth 100000
set_option maxHeartbeats 4000000
namespace VL
open PySem PySem.Spec PyProof.Rows L2
@[simp] noncomputable def NK (f:Dv->Option D) (u:Dv->Option Str):Dv->Option Str:=fun δ=>(f δ).bind fun _=>u δ
section
variable {X:Cx} {a b:Expr} {f1 f2:Dv->Option D} {pos apos:Pos}
variable {m:Bool} {e:Expr} {es:List Expr} {f:Dv->Option D} {fx:Dv->Option Str} {x1:Nat}
end
end VL
set_option Elab.async false
set_option linter.all false
set_option maxRecDepth 100000
set_option maxHeartbeats 4000000
namespace VL
open PySem PySem.Spec PyProof.Rows L2
noncomputable def qO:D->Option Str
 | .dict [(.str k,.str n)]=>if k = "fn" then some n else none
 | _=>none
theorem As (n:Str):qO (gD n)=some n:=by simp [qO,gD]
noncomputable def gH (i:Nat) (fs:Dv->Option (List D)) (tbl:List (Str×(List D->Option D))):Dv->Option D:=fun δ=>(oV i δ).bind fun d=>(qO d).bind fun n=>(tbl.lookup n).bind fun g=>(fs δ).bind g
@[simp] noncomputable def yq (i:Nat) (f:Dv->Option D):Sf:=fun δ=>(f δ).bind fun v=>(vX v).bind fun es=>(AT δ[i]?).bind fun ds=>if ds.length+es.length<=sizeLine then some (.nx,δ.set i (.ow (ds++es))) else none
theorem At {d:D} {n:Str} (h:qO d=some n):d=gD n:=by
 unfold qO at h
 split at h
 ·split at h
  ·rename_i hk; subst hk; cases h; rfl
  ·cases h
 ·cases h
structure CalF (P:Program) (w:World) (K:PySem.W.Frag) (mg:Str->Option Value) (base:Heap) (x:Str) (k:Nat) (g:List D->Option D):Prop where
 ex:∃ (fa:Addr) (fd:FuncData) (ps:List Str),FnOk P w K mg base cN k fa fd ps (dk K g)/\PySem.W.nsIn K mainGlobals x=some (some (.ref fa))/\mg x=some (.ref fa)/\PySem.W.keepIn K (.ref fa)=true/\Binds K fd ps []
theorem uD {P:Program} {w:World} {K:PySem.W.Frag} {mg:Str->Option Value} {base:Heap} {k:Nat}:∀ n g,([]:List (Str×(List D->Option D))).lookup n=some g->∃ j,j<=k/\CalF P w K mg base n j g:=fun _ _ h=>by cases h
theorem iU {P:Program} {w:World} {K:PySem.W.Frag} {mg:Str->Option Value} {base:Heap} {k j:Nat} {c:Str} {gc:List D->Option D} {tbl:List (Str×(List D->Option D))} (hj:j<=k) (V:CalF P w K mg base c j gc) (h:∀ n g,tbl.lookup n=some g->∃ j,j<=k/\CalF P w K mg base n j g):∀ n g,((c,gc)::tbl).lookup n=some g->∃ j,j<=k/\CalF P w K mg base n j g:=fun n g e=>by
 rw [List.lookup_cons] at e
 split at e
 ·rename_i hn
  cases e
  have:n=c:=by simpa using hn
  subst this
  exact ⟨j,hj,V⟩
 ·exact h n g e
structure Fnm (K:PySem.W.Frag) (mg:Str->Option Value) (x:Str):Prop where
 ex:∃ fa,PySem.W.nsIn K mainGlobals x=some (some (.ref fa))/\mg x=some (.ref fa)
section
variable {X:Cx} {e:Expr} {es:List Expr} {p pos:Pos} {fs:Dv->Option (List D)}
theorem jz {x:Str} (F:Fnm X.K X.mg x) (hg:Gl X x) (hdb:(x==("__debug__":Str))=false:=by decide):EV X (.Name x pos) (oC (gD x)):=by
 obtain ⟨fa,h1,h2⟩:=F.ex
 exact Ay (ue (v:=.ref fa) (u:=.ref fa) hg h2 rfl hdb) fun Z=>.opq (.fn h1)
theorem m9 (i:Nat) {x:Str} {k:Nat} {tbl:List (Str×(List D->Option D))} (hT:∀ n g,tbl.lookup n=some g->∃ j,j<=k/\CalF X.prog X.w X.K X.mg X.base n j g) (hr:Room k X.A) (ha:AV X (e::es) fs) (hN:X.N[i]? = some x:=by rfl) (hv:Dg X.env.scope x:=by first | exact Or.inl rfl | exact Or.inr (Or.inl rfl) | exact Or.inr (Or.inr rfl)) (hdb:(x==("__debug__":Str))=false:=by decide) (hcd:(x==("__classdict__":Str))=false:=by decide)
  (he:starEach (e::es) X.env=(false,eval e X.env)::starEach es X.env:=by rfl) (hpl:(backTo pos (starEach es X.env)).any (·.1)=false:=by rfl):EV X (.Call (.Name x p) (e::es) [] pos) (gH i fs tbl):=by
 intro pins s σ H Q I h
 obtain ⟨H₀,Z₀,Z,δ,d,hh,e0,kk⟩:=h
 unfold gH at e0
 obtain ⟨c,e1,e0⟩:=bind_some e0
 obtain ⟨n,e2,e4⟩:=bind_some e0
 obtain ⟨g,e3,e5⟩:=bind_some e4
 have:=At e2
 subst this
 obtain ⟨v,hσ,rv⟩:=hh.read e1
 obtain ⟨j,hj,CF⟩:=hT n g e3
 obtain ⟨fa,fd,ps,F,hns,hm,hk,hb⟩:=CF.ex
 have hva:v=.ref fa:=by
  cases rv with
  | opq o=>
   cases o with
   | fn h1=>rw [hns] at h1; cases h1; rfl
   | dct h1 _=>exact absurd h1 fun z=>yW z
 subst hva
 refine wpAny_Call_Name_kw (dS (j7 hN hv hdb hcd pins s σ H (fun v' H'=>v'=.ref fa/\H'=H) I ⟨_,hσ,rfl,rfl⟩) fun u s1 hq=>?_)
 obtain ⟨v',H',I1,r1,hv',hH'⟩:=hq
 subst hv'
 subst hH'
 cases (show u=Value.ref fa from r1)
 have ht:tV X.K (os fs g) σ H' Q:=⟨H₀,Z₀,Z,δ,d,hh,e5,kk⟩
 obtain ⟨H₀',Z₀',Z',δ',xs,hh',ea,q⟩:=args ht
 refine PySem.W.callWith_K (h₀:=X.base) I1.ok.mod.kin hk (dS (ha pos pins s1 σ H' (fun vs H1=>dk X.K g (vs++[]) H1 Q E0) I1 ⟨H₀',Z₀',Z',δ',xs,hh',ea,fun vs Z1 H1 hh1 t1 r1=>?_⟩) fun us s2 ⟨vs,H1,I2,r,q2⟩=>⟨I2.kIn,BA F (hr.mono hj) hb .nil BT I2 r q2⟩) he hpl
 show dk X.K g (vs++[]) H1 Q E0
 rw [List.append_nil]
 exact q vs Z1 H1 hh1 t1 r1
end
theorem xr (l:Addr) (items:Array Value) (n:Nat) (b:Addr) (items2:Array Value) (n2:Nat) (sl:Array (Option Value)) (hc0:¬(!items.isEmpty&&Builtin.List.listTooLong (items.size+items2.size))=true) (hc1:items.size<=sizeLine) (hs2:items.size+items2.size<=sizeLine+1) :
  Meets (Builtin.«list.extend» ⟨[.ref l,.ref b],[]⟩) (fun _ R s=>s.heap.get? l=some { cls:=.type "list",dict:=none,data:=.seq items n,slots:=#[] }/\s.heap.get? b=some { cls:=.type "list",dict:=none,data:=.seq items2 n2,slots:=sl }/\R (.ok (.ret Value.none)) { s with heap:=s.heap.update l (Obj.mapSeq fun x=>x++items2),toks:=s.toks }):=
 .of_wp fun prog w A R s h=>by
  obtain ⟨hp,g,d,tk,os⟩:=s; obtain ⟨hl,hb,h⟩:=h; have f1:=AutoSeq1.idx_int; have f2:=AutoSeq1.sub_tuple_tuple; have f3:=AutoSeq1.sub_list_list; have f4:=AutoSeq1.sub_tuple_list; have f5:=AutoSeq1.sub_list_tuple;
  have hz':(items++items2).size<=sizeLine+1:=by rw [Array.size_append]; exact hs2
  wp_walk using (wpAny_updateSeq hl rfl (hz:=hc1) (_hz':=hz')),AutoSeq1.wpAny_loadPart' hl,AutoSeq1.wpAny_loadPart' hb; exact ⟨_,rfl,h⟩
noncomputable def Kl (K:Fg):V->List V->Hp->VK->Prop:=fun x vs H Q=>∃ l b xs zs,x=.ref l/\vs=[.ref b]/\H l=some (.lst xs)/\SqL K H b zs/\xs.length+zs.length<=sizeLine/\Q .non (eA H l (.lst (xs++zs)))
section
variable {X:Cx}
theorem Fb:Og X "list.extend" (Kl X.K):=by
 intro pins s σ H x vs v us Q I rx rv h
 obtain ⟨l,b,xs,zs,rfl,rfl,hH,hB,hz,q⟩:=h
 cases rx
 obtain ⟨u,rfl,ru⟩:=rv.one
 cases ru
 obtain ⟨z,its,n,r,hl,e⟩:=I.lstM hH
 obtain ⟨its2,r2,⟨o2,n2,e2,hc,hd,hs⟩,z2⟩:=I.list hB
 have hl2:=r2.length
 obtain ⟨c2,d2,dt2,sl2⟩:=o2
 dsimp only at hc hd hs
 subst hc hd hs
 have hsz:its.toArray.size+its2.toArray.size<=sizeLine:=by rw [List.size_toArray,List.size_toArray]; omega
 have hlong:¬ (!its.toArray.isEmpty&&Builtin.List.listTooLong (its.toArray.size+its2.toArray.size))=true:=by
  rw [B8 hsz,Bool.and_false]
  exact Bool.false_ne_true
 refine call_meets F.slot_list_extend ⟨_,e,rfl⟩ F.entry_list_extend (F.args_list_extend_2 _ _)
  (xr l its.toArray n b its2.toArray n2 sl2 hlong (by rw [List.size_toArray]; omega) (by omega)) ⟨e,e2,?_⟩
 refine ⟨.non,_,I.lset (its':=its++its2) hH e (by simp) (r.append r2) ?_,rfl,q⟩
 rw [List.length_append]
 omega
end
section
variable {X:Cx} {e:Expr} {f:Dv->Option D} {p pos apos:Pos}
theorem yk (i:Nat) {x:Str} {cpos:Pos} (hv':EV X e f) (hN:X.N[i]? = some x:=by rfl) (hv:Dg X.env.scope x:=by first | exact Or.inl rfl | exact Or.inr (Or.inl rfl) | exact Or.inr (Or.inr rfl)) (hd:(x==("__debug__":Str))=false:=by decide) (hcd:(x==("__classdict__":Str))=false:=by decide)
  (hbase:attributeBase (.Name x p) "extend" X.env (eval (.Name x p) X.env)=eval (.Name x p) X.env:=by rfl)
  (hfew:((backTo cpos (starEach [e] X.env)).all (fun x=>!x.1)&&(backToKw cpos (keywordEach [] X.env)).all (fun x=>x.1.isSome)
   && decide ([e].length+([]:List Keyword).length+(if ([]:List Keyword).isEmpty then 0 else 1)<30))=true:=by rfl)
  (hline:(apos.endLine==cpos.line)=true:=by rfl) (hs:starEach [e] X.env=(false,eval e X.env)::starEach [] X.env:=by rfl) (hplain:(backTo cpos (starEach [] X.env)).any (·.1)=false:=by rfl)
  (hsw:swapsWith (.Call (.Attribute (.Name x p) "extend" apos) [e] [] cpos) none pos.line X.env=pure false:=by rfl):SV X (.Expr (.Call (.Attribute (.Name x p) "extend" apos) [e] [] cpos) pos) (yq i f):=
 PS.imp (pP (GD PySem.F.plainAttrs_list PySem.F.slot_list_extend PySem.F.type_list_extend Fb (j7 hN hv hd hcd) (gr hv' lZ hs) hbase hfew hline hs hplain) hsw) fun D σ H h=>by
  obtain ⟨H₀,Z₀,Z,δ,r,hh,e,k⟩:=h
  obtain ⟨v,e1,e⟩:=bind_some e
  obtain ⟨es,e3,e⟩:=bind_some e
  obtain ⟨ds,e2,e⟩:=bind_some e
  by_cases hl:ds.length+es.length<=sizeLine
  ·rw [if_pos hl] at e
   cases e
   cases v with
   | list es'=>
    cases e3
    obtain ⟨a,xs,h1,h4,h5⟩:=oy hh e2
    refine ⟨_,h1,.inl ⟨rfl,xs,SqL.of h4⟩,H₀,Z₀,Z,δ,_,hh,e1,fun w Z1 H1 hh1 t1 r1=>?_⟩
    obtain ⟨a',xs',g1,g4,g5⟩:=oy hh1 e2
    rw [h1] at g1
    cases g1
    cases r1 with
    | lst q1 q2=>
     exact ⟨a,_,xs',_,rfl,rfl,g4,SqL.same q1 hh1.zh,by rw [g5.length,q2.length]; exact hl,k σ _ Z1 (hh1.chg (xs:=xs') (i6 e2) h1 (g5.append q2)) t1⟩
   | _=>cases e3
  ·rw [if_neg hl] at e; cases e
end
theorem BlkOk.none {on:List (Str×NameKind)} {ON:List Str} {scope:Scope} {vars:List Str} (hk:scope.kind=.function) (hc:∀ y∈scope.names,y.2≠.cell) (hn:∀ y∈scope.names,y.2=.local->scope.names.lookup y.1=some .local) (hf:∀ y∈scope.names,y.2≠.free):BlkOk on ON scope vars []:=
 ⟨hk,hc,hn,fun y hy e=>absurd e (hf y hy),fun p hp=>(nomatch hp)⟩
end VL
set_option Elab.async false
set_option linter.all false
set_option maxRecDepth 100000
set_option maxHeartbeats 4000000
namespace VL
open PySem PySem.Spec PyProof.Rows L2
section
variable {X:Cx}
variable {a b:Expr} {pos:Pos} {f1 f2:Dv->Option D}
end
end VL
set_option Elab.async false
set_option linter.all false
set_option maxRecDepth 100000
set_option maxHeartbeats 4000000
namespace VL
open PySem PySem.Spec PyProof.Rows L2
structure BlkOkC (on:List (Str×NameKind)) (ON:List Str) (scope:Scope) (m:Str) (vars:List Str) (caps:List (Nat×Str)):Prop where
 kind:scope.kind=.function
 one:(scope.names.filter fun y=>y.2==NameKind.cell)=[(m,NameKind.cell)]
 names:∀ y∈scope.names,y.2=.local->scope.names.lookup y.1=some .local
 free:∀ y∈scope.names,y.2=.free->on.lookup y.1=some .cell\/on.lookup y.1=some .free
 cap:∀ p∈caps,ON[p.1]? = some p.2/\scope.names.lookup p.2=some .free
 mc:scope.names.lookup m=some .cell
section
variable {X:Cx} {pins:List (Addr×Obj)} {σ:St} {H H':Hp} {s s':Shared} {scope:Scope} {m:Str} {vars:List Str} {caps:List (Nat×Str)} {fp:List Addr} {C:Addr}
theorem BlkOkC.cells (B:BlkOkC X.env.scope.names X.N scope m vars caps) (I:Inv X pins σ H s):∀ y∈scope.names,y.2=.free->∃ c,X.env.cells.lookup y.1=some c:=fun y hy e=>I.ok.has y.1 (B.free y hy e)
end
section
variable {X:Cx} {scope:Scope} {m:Str} {vars:List Str} {caps:List (Nat×Str)} {elt tg iter:Expr} {pos:Pos} {wi:TI} {g:TG} {te:TE}
end
section
variable {X:Cx} {scope:Scope} {m:Str} {vars:List Str} {caps:List (Nat×Str)} {elt tg iter:Expr} {pos:Pos} {g:TG} {fi:Dv->Option (List D)} {fe:Dv->Option D} {bv:D->Option (List D)}
end
end VL
set_option Elab.async false
set_option linter.all false
set_option maxRecDepth 100000
set_option maxHeartbeats 4000000
namespace VL
open PySem PySem.Spec PyProof.Rows L2
noncomputable def HF (K:Fg) (g:List D->Option D):Sp:=fun vs H Q _=>∃ Z as ds,Same Z H/\Reps K Z vs as/\g as=some (.list ds)/\∀ p us Z' H',New Z H Z' H'->H' p=none->Reps K Z' us ds->Q (.ref p) (eA H' p (.lst us))
noncomputable def Ot (K:Fg) (f:Dv->Option (List D)):TS:=fun D σ H=>∃ H₀ Z₀ Z δ ds,Hold K H₀ Z₀ Z δ σ H/\f δ = some ds/\∀ σ' H' Z' δ' p us,Hold K H₀ Z₀ Z' δ' σ' H'->Same Z Z'->H' p=none->Reps K Z' us ds->D.rt (.ref p) (eA H' p (.lst us))
noncomputable def BO (X:Cx) (sts:List Stmt) (f:Dv->Option (List D)):Prop:=PSs X sts (Ot X.K f)
noncomputable def Mz (s:Sf) (f:Dv->Option (List D)):Dv->Option (List D):=fun δ=>(s δ).bind fun r=>match r.1 with
 | .nx=>f r.2
 | _=>none
noncomputable def rB (s:Sf):Prop:=∀ δ r,s δ = some r->r.1=.nx
section
variable {X:Cx} {e:Expr} {es:List Expr} {p pos:Pos} {st:Stmt} {sts:List Stmt} {f:Dv->Option (List D)} {fs:Dv->Option (List D)} {s:Sf}
theorem xC (he:EO X e f):BO X [.Return (some e) pos] f:=
 PSs.imp (t9 (ub he)) fun D σ H h=>by
  obtain ⟨H₀,Z₀,Z,δ,ds,hh,e1,k⟩:=h
  exact ⟨H₀,Z₀,Z,δ,ds,hh,e1,fun p vs Z1 H1 hh1 t1 hp r1=>k σ H1 Z1 δ p vs hh1 t1 hp r1⟩
theorem uQ (h1:SV X st s) (hn:rB s) (h2:BO X sts f):BO X (st::sts) (Mz s f):=
 PSs.imp (j6 h1 h2) fun D σ H h=>by
  obtain ⟨H₀,Z₀,Z,δ,ds,hh,e,k⟩:=h
  obtain ⟨⟨fl,δ'⟩,e1,e⟩:=bind_some e
  have hf:fl=.nx:=hn δ _ e1
  subst hf
  refine ⟨H₀,Z₀,Z,δ,(.nx,δ'),hh,e1,fun σ' H' Z' hh' t'=>?_⟩
  exact ⟨H₀,Z₀,Z',δ',ds,hh',e,fun σ2 H2 Z2 δ2 p us hh2 t2 hp ru=>k σ2 H2 Z2 δ2 p us hh2 (t'.trans t2) hp ru⟩
end
section
variable {P:Program} {w:World} {K:PySem.W.Frag} {mg:Str->Option Value} {base:Heap}
theorem CJ {x qual:Str} {st:Stmt} {f:Addr} {fd:FuncData} {dV:Value} {N ps:List Str} {k:Nat} {g:List D->Option D} {b:Dv->Option (List D)} (F:FunV K x qual st f fd dV) (S:FnScope N ps (ah st))
  (hb:∀ (cdv:Value) (A:Around) (outer:List Env) (s:Shared) (H:Hp) (E:XK),Room k (A.deeper (envOfC qual (ah st) s.heap.objs.size f cdv))->BO (iE cN P w K mg base N qual (ah st) f cdv A outer s H E).nox (bP st) b)
  (hg:∀ as ds,g as=some (.list ds)->as.length=ps.length/\b (av N as)=some ds):FnOk P w K mg base cN (k+1) f fd ps (HF K g):=by
 obtain ⟨oc,od,kV,doc,pm,an,cdv,ct,osl,rfl,lk,hcd⟩:=F.ex
 refine yU lk hcd S (fun vs H Q E h=>?_) fun A outer s H vs Q E hr hsp=>?_
 ·obtain ⟨Z,as,ds,zh,r,e,_⟩:=h
  rw [r.length]
  exact (hg as ds e).1
 ·refine ⟨_,PSs.nox (hb cdv A outer s H E hr),?_⟩
  obtain ⟨Z,as,ds,zh,r,e,kk⟩:=hsp
  have hh:=mn (N:=N) zh r
  exact ⟨H,Z,Z,_,ds,hh,(hg as ds e).2,fun σ' H' Z' δ' p us h' z' hp ru=>kk p us Z' H' ⟨z',h'.h0,h'.zh,h'.zb⟩ hp ru⟩
structure CalO (P:Program) (w:World) (K:PySem.W.Frag) (mg:Str->Option Value) (base:Heap) (x:Str) (k:Nat) (g:List D->Option D) (dd:List D):Prop where
 ex:∃ (fa:Addr) (fd:FuncData) (ps:List Str) (ds:List Value) (dv:List V),FnOk P w K mg base cN k fa fd ps (HF K g)/\mg x=some (.ref fa)/\PySem.W.keepIn K (.ref fa)=true/\Binds K fd ps ds/\Vals dv ds/\∀ Z,Reps K Z dv dd
end
section
variable {X:Cx} {e:Expr} {es:List Expr} {p pos:Pos} {fs:Dv->Option (List D)}
theorem CT {k:Nat} {x:Str} {g:List D->Option D} {dd:List D} (C:CalO X.prog X.w X.K X.mg X.base x k g dd) (hr:Room k X.A) (hg:Gl X x) (ha:AV X (e::es) fs) (hdb:(x==("__debug__":Str))=false:=by decide) (he:starEach (e::es) X.env=(false,eval e X.env)::starEach es X.env:=by rfl)
  (hpl:(backTo pos (starEach es X.env)).any (·.1)=false:=by rfl):EO X (.Call (.Name x p) (e::es) [] pos) (yH (os fs fun as=>g (as++dd))):=by
 obtain ⟨fa,fd,ps,ds,dv,F,hm,hk,hb,hd,hdd⟩:=C.ex
 refine PE.imp (yz F hr hg hm hk hb hd BT ha hdb he hpl) fun σ H Q h=>?_
 obtain ⟨H₀,Z₀,Z,δ,xs,hh,e0,q⟩:=h
 obtain ⟨d,e1,e2⟩:=bind_some e0
 obtain ⟨as,e4,e3⟩:=bind_some e1
 cases d with
 | list ys=>
  cases e2
  exact ⟨H₀,Z₀,Z,δ,as,hh,e4,fun vs Z1 H1 hh1 s1 r1=>⟨Z1,as++dd,xs,hh1.zh,r1.append (hdd Z1),e3,fun p us Z' H' n hp ru=>q p us Z' H' (hh1.new n) (s1.trans n.z) hp ru⟩⟩
 | _=>cases e2
theorem uL {k:Nat} {x:Str} {g:List D->Option D} (C:CalO X.prog X.w X.K X.mg X.base x k g []) (hr:Room k X.A) (hg:Gl X x) (ha:AV X (e::es) fs) (hdb:(x==("__debug__":Str))=false:=by decide) (he:starEach (e::es) X.env=(false,eval e X.env)::starEach es X.env:=by rfl)
  (hpl:(backTo pos (starEach es X.env)).any (·.1)=false:=by rfl):EO X (.Call (.Name x p) (e::es) [] pos) (yH (os fs g)):=by
 have h:=CT C hr hg ha hdb he hpl (p:=p) (pos:=pos)
 have e:(fun as=>g (as++[]))=g:=by funext as; rw [List.append_nil]
 rw [e] at h
 exact h
end
section
variable {X:Cx} {scope:Scope} {m:Str} {vars:List Str} {caps:List (Nat×Str)} {elt tg iter:Expr} {pos:Pos} {g:TG} {fi:Dv->Option (List D)} {fe:Dv->Option D} {bv:D->Option (List D)}
end
theorem pf {α:Type}:∀ {us:List α},us.length=1->∃ a,us=[a]
 | [a],_=>⟨a,rfl⟩
theorem dy {α:Type} {us:List α} (h:us.length=2):∃ a b,us=[a,b]:=by
 cases us with
 | nil=>cases h
 | cons a r=>
  obtain ⟨b,rfl⟩:=pf (Nat.succ.inj h)
  exact ⟨a,b,rfl⟩
theorem mX {α:Type} {us:List α} (h:us.length=3):∃ a b c,us=[a,b,c]:=by
 cases us with
 | nil=>cases h
 | cons a r=>
  obtain ⟨b,c,rfl⟩:=dy (Nat.succ.inj h)
  exact ⟨a,b,c,rfl⟩
theorem Fi {α:Type} {us:List α} (h:us.length=4):∃ a b c d,us=[a,b,c,d]:=by
 cases us with
 | nil=>cases h
 | cons a r=>
  obtain ⟨b,c,d,rfl⟩:=mX (Nat.succ.inj h)
  exact ⟨a,b,c,d,rfl⟩
theorem KY {α:Type} {us:List α} (h:us.length=5):∃ a b c d e,us=[a,b,c,d,e]:=by
 cases us with
 | nil=>cases h
 | cons a r=>
  obtain ⟨b,c,d,e,rfl⟩:=Fi (Nat.succ.inj h)
  exact ⟨a,b,c,d,e,rfl⟩
end VL
set_option Elab.async false
set_option linter.all false
set_option maxRecDepth 100000
set_option maxHeartbeats 4000000
namespace VL
open PySem PySem.Spec PyProof.Rows L2
noncomputable def yp (i j:Nat):Sf:=fun δ=>(AT δ[j]?).bind fun ds=>some (.nx,(δ.set i (.ow ds)).set j .un)
noncomputable def yo (i:Nat):Sf:=fun δ=>(AT δ[i]?).bind fun ds=>some (.rt (.list ds),pi i δ)
noncomputable def NX (i:Nat):Dv->Option (List D):=fun δ=>AT δ[i]?
noncomputable def M6 (ft:Dv->Option Bool) (f1 f2:Dv->Option (List D)):Dv->Option (List D):=fun δ=>(ft δ).bind fun b=>if b=true then f1 δ else f2 δ
section
variable {X:Cx} {e:Expr} {es:List Expr} {p p' pos:Pos} {st:Stmt} {sts body:List Stmt} {f f1 f2:Dv->Option (List D)} {s:Sf} {c:Expr} {ft:Dv->Option Bool}
theorem yj (i j:Nat) {x y:Str} (hN:X.N.Nodup) (hij:i≠j) (hi:X.N[i]? = some x:=by rfl) (hj:X.N[j]? = some y:=by rfl) (hx:AZ X.env.scope x:=by first | exact Or.inl rfl | exact Or.inr rfl) (hv:Dg X.env.scope y:=by first | exact Or.inl rfl | exact Or.inr (Or.inl rfl) | exact Or.inr (Or.inr rfl)) (hd:(y==("__debug__":Str))=false:=by decide) (hcd:(y==("__classdict__":Str))=false:=by decide)
  (hs:swapsWith (.Name y p) (some (.Name x p')) pos.line X.env=pure false:=by rfl) (hf:X.fn x=true\/X.env.scope.names.lookup x=some .local:=by first | exact .inl rfl | exact .inr rfl | assumption):SV X (.Assign [.Name x p'] (.Name y p) pos) (yp i j):=
 PS.imp (ua hN hi hx (j7 hj hv hd hcd) hs hf) fun D σ H h=>by
  obtain ⟨H₀,Z₀,Z,δ,r,hh,e,k⟩:=h
  obtain ⟨ds,e1,e⟩:=bind_some e
  cases e
  obtain ⟨a,xs,h1,h2,h3,h4,h5⟩:=hh.ow j ds (i6 e1)
  have lj:j < δ.length:=(List.getElem?_eq_some_iff.mp (i6 e1)).1
  have get:∀ k sl,((δ.set i (.ow ds)).set j .un)[k]? = some sl->(k=i/\sl=.ow ds)\/(k=j/\sl=.un)\/(k≠i/\k≠j /\ δ[k]? = some sl):=fun k sl q=>by
   by_cases kj:k=j
   ·subst kj
    rw [List.getElem?_set_self (by simpa using lj)] at q
    exact .inr (.inl ⟨rfl,(Option.some.inj q).symm⟩)
   ·rw [List.getElem?_set_ne (Ne.symm kj)] at q
    by_cases ki:k=i
    ·subst ki
     have:=(List.getElem?_eq_some_iff.mp q).1
     rw [List.getElem?_set_self (by simpa using this)] at q
     exact .inl ⟨rfl,(Option.some.inj q).symm⟩
    ·rw [List.getElem?_set_ne (Ne.symm ki)] at q
     exact .inr (.inr ⟨ki,kj,q⟩)
  have sg:∀ k,k≠i->(σ.set i (some (V.ref a)))[k]? = σ[k]?:=fun k ki=>List.getElem?_set_ne (Ne.symm ki)
  have si:∀ k sl,((δ.set i (.ow ds)).set j .un)[k]? = some sl->k=i->(σ.set i (some (V.ref a)))[k]? = some (some (V.ref a)):=fun k sl q ki=>by
   subst ki
   have:=(List.getElem?_eq_some_iff.mp q).1
   exact List.getElem?_set_self (by rw [<- hh.len]; simpa using this)
  refine ⟨_,h1,k _ H Z ⟨hh.zh,hh.h0,hh.z0,hh.zb,by simp [hh.len],fun k d q=>?_,fun k es q=>?_,fun k l es es' b kl q q'=>?_,fun k es q=>?_⟩ (Same.refl _)⟩
  ·rcases get k _ q with ⟨_,z⟩ | ⟨_,z⟩ | ⟨ki,kj,q⟩
   ·cases z
   ·cases z
   ·rw [sg k ki]; exact hh.fz k d q
  ·rcases get k _ q with ⟨ki,z⟩ | ⟨_,z⟩ | ⟨ki,kj,q1⟩
   ·cases z
    exact ⟨a,.lst xs,si k _ q ki,h2,h3,h4,.lst h5⟩
   ·cases z
   ·rw [sg k ki]; exact hh.own k es q1
  ·rcases get k _ q with ⟨ki,z⟩ | ⟨_,z⟩ | ⟨ki,kj,q1⟩
   ·cases z
    rcases get l _ q' with ⟨li,z⟩ | ⟨_,z⟩ | ⟨li,lj',q2⟩
    ·exact absurd (ki.trans li.symm) kl
    ·cases z
    ·rw [si k _ q ki,sg l li]
     intro w
     cases w
     exact hh.dja j l _ es' a (Ne.symm lj') (i6 e1) q2 h1
   ·cases z
   ·rcases get l _ q' with ⟨li,z⟩ | ⟨_,z⟩ | ⟨li,lj',q2⟩
    ·cases z
     rw [sg k ki,si l _ q' li]
     intro w z
     cases z
     exact hh.dja k j es _ a kj q1 (i6 e1) w h1
    ·cases z
    ·rw [sg k ki,sg l li]; exact hh.dja k l es es' b kl q1 q2
  ·rcases get k _ q with ⟨_,z⟩ | ⟨_,z⟩ | ⟨ki,kj,q⟩
   ·cases z
   ·cases z
   ·rw [sg k ki]; exact hh.fr k es q
theorem Gc (i:Nat) {x:Str} (hN:X.N[i]? = some x:=by rfl) (hv:Dg X.env.scope x:=by first | exact Or.inl rfl | exact Or.inr (Or.inl rfl) | exact Or.inr (Or.inr rfl)) (hd:(x==("__debug__":Str))=false:=by decide) (hcd:(x==("__classdict__":Str))=false:=by decide):BO X [.Return (some (.Name x p)) pos] (NX i):=
 PSs.imp (t9 (ub (j7 hN hv hd hcd))) fun D σ H h=>by
  obtain ⟨H₀,Z₀,Z,δ,ds,hh,e,k⟩:=h
  obtain ⟨a,xs,h1,h2,h3,h4,h5⟩:=hh.ow i ds (i6 e)
  refine ⟨_,h1,?_⟩
  have eH:eA (fun b=>if b=a then none else H b) a (.lst xs)=H:=funext fun b=>by
   by_cases hb:b=a
   ·subst hb; rw [aR,h4]
   ·rw [aI hb]; exact if_neg hb
  have:=k σ (fun b=>if b=a then none else H b) Z (List.replicate σ.length .un) a xs ⟨fun b o q=>?_,fun b o q=>?_,hh.z0,hh.zb,by simp,fun j d q=>?_,fun j d q=>?_,fun j l d d' b _ q=>?_,fun j d q=>?_⟩ (Same.refl _) (if_pos rfl) h5
  ·rw [eH] at this; exact this
  ·have:b≠a:=fun z=>by rw [z,h3] at q; cases q
   show (if b=a then none else H b)=some o
   rw [if_neg this]; exact hh.zh b o q
  ·have:b≠a:=fun z=>by rw [z,h2] at q; cases q
   show (if b=a then none else H b)=some o
   rw [if_neg this]; exact hh.h0 b o q
  all_goals
   rw [List.getElem?_replicate] at q
   split at q <;> cases q
theorem Lu (hc:TV X c ft) (ha:BO X body f1) (hb:BO X sts f2):BO X (.If c body [] pos::sts) (M6 ft f1 f2):=
 PSs.imp (j6 (BI hc ha yw) hb) fun D σ H h=>by
  obtain ⟨H₀,Z₀,Z,δ,ds,hh,e,k⟩:=h
  obtain ⟨b,e1,e⟩:=bind_some e
  refine ⟨H₀,Z₀,Z,δ,b,hh,e1,fun Z1 H1 hh1 t1=>?_⟩
  cases b with
  | true=>exact ⟨H₀,Z₀,Z1,δ,ds,hh1,e,fun σ2 H2 Z2 δ2 p us hh2 t2 hp ru=>k σ2 H2 Z2 δ2 p us hh2 (t1.trans t2) hp ru⟩
  | false=>exact ⟨H₀,Z₀,Z1,δ,ds,hh1,e,fun σ2 H2 Z2 δ2 p us hh2 t2 hp ru=>k σ2 H2 Z2 δ2 p us hh2 (t1.trans t2) hp ru⟩
end
theorem pS (i:Nat) (f:Dv->Option (List D)):rB (wT i f):=fun δ r h=>by
 obtain ⟨x,_,h⟩:=bind_some h
 split at h
 ·cases h; rfl
 ·cases h
theorem vJ (i:Nat) (f:Dv->Option (List D)):rB (ou i f):=fun δ r h=>by
 obtain ⟨x,_,h⟩:=bind_some h
 cases h; rfl
theorem vK (i j:Nat):rB (yp i j):=fun δ r h=>by
 obtain ⟨x,_,h⟩:=bind_some h
 cases h; rfl
theorem ur (i:Nat) {s:Sf} (hs:rB s):rB (fun δ=>s (pi i δ)):=fun δ r h=>hs _ r h
theorem pR {s t:Sf} (hs:rB s) (ht:rB t):rB (sSeq s t):=fun δ r h=>by
 obtain ⟨⟨fl,δ'⟩,e,h⟩:=bind_some h
 have:fl=.nx:=hs _ _ e
 subst this
 exact ht _ r h
theorem B6 {t:Dv->Option Bool} {u w:Sf} (hu:rB u) (hw:rB w):rB (sIf t u w):=fun δ r h=>by
 obtain ⟨b,e,h⟩:=bind_some h
 cases b with
 | true=>exact hu _ r h
 | false=>exact hw _ r h
theorem vL {g:D->Dv->Option Dv} {b:Sf} (hb:rB b):∀ ds,rB (loop g b ds)
 | [],δ,r,h=>by cases h; rfl
 | d::ds,δ,r,h=>by
  obtain ⟨δ1,e1,h⟩:=bind_some (show (g d δ).bind _=_ from h)
  obtain ⟨⟨fl,δ2⟩,e2,h⟩:=bind_some h
  have:fl=.nx:=hb _ _ e2
  subst this
  exact vL hb ds δ2 r h
theorem pT {f:Dv->Option (List D)} {g:D->Dv->Option Dv} {b:Sf} (hb:rB b):rB (j3 f g b):=fun δ r h=>by
 obtain ⟨ds,e,h⟩:=bind_some h
 exact vL hb ds δ r h
theorem vM (i:Nat) (f:Dv->Option D):rB (yq i f):=fun δ r h=>by
 revert h
 unfold yq
 intro h
 obtain ⟨x,_,h⟩:=bind_some h
 obtain ⟨y,_,h⟩:=bind_some h
 obtain ⟨z,_,h⟩:=bind_some h
 split at h
 ·cases h; rfl
 ·cases h
noncomputable def xS (b:Sf) (f:Dv->Option (List D)):Prop:=∀ δ δ' ds,b δ = some (.rt (.list ds),δ')->f δ = some ds
theorem uq {s t:Sf} {f:Dv->Option (List D)} (hs:rB s) (h:xS t f):xS (sSeq s t) (Mz s f):=fun δ δ' ds e=>by
 obtain ⟨⟨fl,δ1⟩,e1,e⟩:=bind_some e
 have:fl=.nx:=hs _ _ e1
 subst this
 unfold Mz
 rw [e1,Option.bind_some]
 exact h _ _ _ e
theorem B4 (q:Dv->Option D):xS (aH q) (yH q):=fun δ δ' ds e=>by
 obtain ⟨x,e1,e⟩:=bind_some (show (q δ).bind _=_ from e)
 cases e
 unfold yH
 rw [e1]; rfl
theorem E1 (i:Nat):xS (yo i) (NX i):=fun δ δ' ds e=>by
 obtain ⟨es,e1,e⟩:=bind_some e
 cases e
 exact e1
theorem Ky {t:Dv->Option Bool} {q:Dv->Option D} {w:Sf} {f2:Dv->Option (List D)} (h2:xS w f2):xS (sSeq (sIf t (aH q) (gz)) w) (M6 t (yH q) f2):=fun δ δ' ds e=>by
 obtain ⟨⟨fl,δ1⟩,e1,e⟩:=bind_some e
 obtain ⟨b,e2,e1⟩:=bind_some e1
 unfold M6
 rw [e2,Option.bind_some]
 cases b with
 | true=>
  obtain ⟨x,e3,e1⟩:=bind_some (show (q δ).bind _=_ from e1)
  cases e1
  cases e
  show (q δ).bind vX=some ds
  rw [e3]; rfl
 | false=>
  cases e1
  exact h2 _ _ _ e
theorem SV.sub {X:Cx} {st:Stmt} {f f':Sf} (h:SV X st f) (w:∀ δ r,f' δ = some r->f δ = some r):SV X st f':=PS.imp h fun D σ H q=>by
 obtain ⟨H₀,Z₀,Z,δ,r,hh,e,k⟩:=q
 exact ⟨H₀,Z₀,Z,δ,r,hh,w _ _ e,k⟩
theorem El {X:Cx} {p pos:Pos} (i:Nat) {x:Str} (hN:X.N[i]? = some x:=by rfl) (hv:Dg X.env.scope x:=by first | exact Or.inl rfl | exact Or.inr (Or.inl rfl) | exact Or.inr (Or.inr rfl)) (hd:(x==("__debug__":Str))=false:=by decide) (hcd:(x==("__classdict__":Str))=false:=by decide):SV X (.Return (some (.Name x p)) pos) (yo i):=
 SV.sub (mJ i (aw (aa i hN hv hd hcd))) fun δ r e=>by
  obtain ⟨es,e1,e⟩:=bind_some e
  cases e
  have h:=i6 e1
  have l:=(List.getElem?_eq_some_iff.mp h).1
  have ef:pi i δ = δ.set i (.fz (.list es)):=by unfold pi; rw [h]
  show (oV i (pi i δ)).bind _=_
  rw [ef]
  unfold oV LF
  rw [List.getElem?_set_self l]
  rfl
theorem BC {N:List Str} {n:Nat} {b:Sf} {f:Dv->Option (List D)} (h:xS b f):∀ as ds,runB N n b as=some (.list ds)->as.length=n/\f (av N as)=some ds:=fun as ds e=>by
 unfold runB at e
 split at e
 ·rename_i hl
  obtain ⟨⟨fl,δ'⟩,e1,e⟩:=bind_some e
  refine ⟨hl,?_⟩
  cases fl with
  | rt d=>cases e; exact h _ _ _ e1
  | nx=>cases e
  | bk=>cases e
  | ct=>cases e
 ·cases e
end VL
set_option Elab.async false
set_option linter.all false
set_option maxRecDepth 100000
set_option maxHeartbeats 4000000
namespace VL
open PySem PySem.Spec PyProof.Rows L2
section
variable {X:Cx}
end
end VL
set_option Elab.async false
set_option linter.all false
set_option maxRecDepth 100000
set_option maxHeartbeats 4000000
namespace VL
open PySem PySem.Spec PyProof.Rows L2
noncomputable def DefIn (K:PySem.W.Frag) (x y:Str) (st:Stmt):Prop:=∃ f fd,PySem.W.nsIn K mainGlobals x=some (some (.ref f))/\FunV K y y st f fd .none/\PySem.W.keepIn K (.ref f)=true
noncomputable def aB (x:Str) (st:Stmt) (ps:List Str):Prop:=∀ (kV doc pm:Value) (an:Option Addr) (cdv ct:Value) (us:List Value),us.length=ps.length->bindArgs (PySem.W.fnOf x x (cA st) (bP st) (ah st) .none kV doc pm an cdv ct) ⟨us,[]⟩=pure (ps.zip us)
section
variable {P:Program} {w:World} {K:PySem.W.Frag} {mg:Str->Option Value} {base h:Heap} {x y:Str} {st:Stmt} {k:Nat} {ps:List Str}
theorem DefIn.mk {f:Addr} {oc:Value} {od an:Option Addr} {osl:Array (Option Value)} {kV doc pm cdv ct:Value} (a:PySem.W.nsIn K mainGlobals x=some (some (.ref f))) (l:K.lookup f=some ⟨oc,od,.func (PySem.W.fnOf y y (cA st) (bP st) (ah st) .none kV doc pm an cdv ct),osl⟩)
  (c:PySem.W.codeIn K cdv y=true) (k:PySem.W.keepIn K (.ref f)=true):DefIn K x y st:=⟨_,_,a,g7 l c k,k⟩
variable (D:DefIn K x y st) (X:K.In h) (G:h.Ns mainGlobals mg) (b:aB y st ps)
include D X G
theorem DefIn.fnm:Fnm K mg x:=by
 obtain ⟨f,fd,a,F,hk⟩:=D
 exact ⟨⟨_,a,PySem.W.mg_of X G a⟩⟩
include b
theorem DefIn.cal {g:List VL.D->Option VL.D} (ok:∀ f fd,FunV K y y st f fd .none->FnOk P w K mg base cN k f fd ps (dk K g)):Cal P w K mg base x k g []:=by
 obtain ⟨f,fd,a,F,hk⟩:=D
 exact Cal.mk0 (ok f fd F) (PySem.W.mg_of X G a) hk (F.binds b)
theorem DefIn.calF {g:List VL.D->Option VL.D} (ok:∀ f fd,FunV K y y st f fd .none->FnOk P w K mg base cN k f fd ps (dk K g)):CalF P w K mg base x k g:=by
 obtain ⟨f,fd,a,F,hk⟩:=D
 exact ⟨⟨_,_,_,ok f fd F,a,PySem.W.mg_of X G a,hk,F.binds b⟩⟩
theorem DefIn.calX {g:List VL.D->Option Str} (ok:∀ f fd,FunV K y y st f fd .none->FnOk P w K mg base (tP P w) k f fd ps (Es K g)):CalX P w K mg base x k g []:=by
 obtain ⟨f,fd,a,F,hk⟩:=D
 exact ⟨⟨_,_,_,[],[],ok f fd F,PySem.W.mg_of X G a,hk,F.binds b,.nil,fun _=>.nil⟩⟩
theorem DefIn.calO {g:List VL.D->Option VL.D} (ok:∀ f fd,FunV K y y st f fd .none->FnOk P w K mg base cN k f fd ps (HF K g)):CalO P w K mg base x k g []:=by
 obtain ⟨f,fd,a,F,hk⟩:=D
 exact ⟨⟨_,_,_,[],[],ok f fd F,PySem.W.mg_of X G a,hk,F.binds b,.nil,fun _=>.nil⟩⟩
end
noncomputable def N8 (fd:FuncData) (us:List Value):{kk:Option (Array Value)->Sem (List (Str×Value)) // bindArgs fd ⟨us,[]⟩=seqItems? fd.defaults >>= kk}:=⟨_,rfl⟩
theorem FunV.bindsK {K:PySem.W.Frag} {x qual:Str} {st:Stmt} {f T:Addr} {fd:FuncData} {ps:List Str} {o:Obj} {items:Array Value} {n:Nat} {ds:List Value} (F:FunV K x qual st f fd (.ref T)) (ho:K.lookup T=some o) (hs:o.data=.seq items n) (nu:Nat) (hn:nu+ds.length=ps.length)
  (h:∀ (kV doc pm:Value) (an:Option Addr) (cdv ct:Value) (us:List Value),us.length=nu->(N8 (PySem.W.fnOf x qual (cA st) (bP st) (ah st) (.ref T) kV doc pm an cdv ct) us).1 (some items)=pure (ps.zip (us++ds))):Binds K fd ps ds:=
 F.bindsD ho hs nu hn fun kV doc pm an cdv ct us hl=>⟨_,(N8 (PySem.W.fnOf x qual (cA st) (bP st) (ah st) (.ref T) kV doc pm an cdv ct) us).2,h kV doc pm an cdv ct us hl⟩
end VL
set_option Elab.async false
set_option linter.all false
set_option maxRecDepth 100000
set_option maxHeartbeats 4000000
namespace VL
open PySem PySem.Spec PyProof.Rows L2
open AutoSeq1 (wpAny_loadPart')
section
variable {X:Cx}
end
end VL
set_option Elab.async false
set_option linter.all false
set_option maxRecDepth 100000
set_option maxHeartbeats 4000000
namespace VL
open PySem PySem.Spec PyProof.Rows L2
noncomputable def OI (z:Bool):D->D->Option D
 | .bool a,.bool b=>some (.bool (z != (a==b)))
 | _,_=>none
@[simp] theorem K8 (z a b:Bool):OI z (.bool a) (.bool b)=some (.bool (z != (a==b))):=rfl
section
variable {X:Cx}
end
end VL
set_option Elab.async false
set_option linter.all false
set_option maxRecDepth 100000
set_option maxHeartbeats 4000000
namespace VL
open PySem PySem.Spec PyProof.Rows L2
section
variable {m:Bool} {X:Cx} {e c:Expr} {es:List Expr} {f:Dv->Option D} {fs:Dv->Option (List D)} {ft:Dv->Option Bool} {fx:Dv->Option Str} {st:Stmt} {sts body orelse:List Stmt} {s1:Sf} {u u1 u2:Xf} {pos p:Pos}
theorem FT {k:Nat} {x:Str} {g:List D->Option Str} {dd:List D} (Y:CalX X.prog X.w X.K X.mg X.base x k g dd) (hr:Room k X.A) (hg:Gl X x) (ha:AV X (e::es) fs) (hdb:(x==("__debug__":Str))=false:=by decide) (he:starEach (e::es) X.env=(false,eval e X.env)::starEach es X.env:=by rfl)
  (hpl:(backTo pos (starEach es X.env)).any (·.1)=false:=by rfl):EX m X (.Call (.Name x p) (e::es) [] pos) (GE fs fun as=>g (as++dd)):=by
 obtain ⟨fa,fd,ps,ds,dv,F,hm,hk,hb,hd,hdd⟩:=Y.ex
 intro pins s σ H Q I h
 obtain ⟨H₀,Z₀,Z,δ,n,hh,e0,k⟩:=h
 obtain ⟨as,e1,e0⟩:=bind_some e0
 refine wpAny_Call_Name_kw (lA I hg hm ?_ hdb)
 refine PySem.W.callWith_K (h₀:=X.base) I.ok.mod.kin hk (dS (ha pos pins s σ H (fun vs H1=>∃ Z1,Hold X.K H₀ Z₀ Z1 δ σ H1/\Same Z Z1/\Reps X.K Z1 vs as) I ⟨H₀,Z₀,Z,δ,as,hh,e1,fun vs Z1 H1 hh1 t1 r1=>⟨Z1,hh1,t1,r1⟩⟩) fun us s1 ⟨vs,H1,I1,r,Z1,hh1,t1,r1⟩=>⟨I1.kIn,?_⟩) he hpl
 have r2:Vals (vs++dv) (us++ds):=r.append hd
 have sp:Es X.K g (vs++dv) H1 Q (fun c ox H2=>∃ C xx Z2,c=.ref C/\ox=some xx/\PySem.W.nsIn X.K mainGlobals n=some (some (.ref C))/\New Z1 H1 Z2 H2/\Z2 xx=some (pX xx C)/\H1 xx=none):=⟨Z1,as++dd,n,hh1.zh,r1.append (hdd Z1),e0,fun C xx Z2 H2 hC n2 h2 h3=>⟨C,xx,Z2,rfl,rfl,hC,n2,h2,h3⟩⟩
 have hl:(us++ds).length=ps.length:=by rw [<- r2.length]; exact F.len _ _ _ _ sp
 refine wpAny_call (codeAny_mono (F.run X.A X.stack s1 H1 ⟨us,[]⟩ (us++ds) (vs++dv) Q _ hr I1.env0 (hb s1 us I1.kIn hl) r2 sp) fun res s' hq=>?_)
 cases res with
 | error ee=>
  obtain ⟨xx,C',H2,rfl,T,C,xx',Z2,hC',hx',hC,n2,h2,h3⟩:=hq
  cases hx'
  cases hC'
  exact k pins σ H1 Z1 s1 _ s' hh1 t1 I1 (.thrown hC rfl T n2 h2 h3)
 | ok fl=>
  cases fl with
  | ret z=>exact I1.after hq
  | next=>exact False.elim hq
  | brk=>exact False.elim hq
  | cont=>exact False.elim hq
end
end VL
set_option Elab.async false
set_option linter.all false
set_option maxRecDepth 100000
namespace L2
open PySem PySem.Spec PyProof.Rows
end L2
namespace L2
open PySem PySem.Spec PyProof.Rows
section
variable (P:Program) (w:World)
end
section
variable {P:Program} {w:World} {H H':Hp} {h h':Heap} {a:Addr} {o:HO}
end
section
variable {P:Program} {w:World} {H:Hp} {h h':Heap} {x e:Addr} {o':HO}
end
section
variable {fs fs' ex ex':List Addr} {H H1 H2:Hp} {h h1 h2 h':Heap} {a x e:Addr} {o:HO}
end
end L2
namespace L2
open PySem PySem.Spec PyProof.Rows
section
variable {X:Cx} {pins:List (Addr×Obj)} {σ:List (Option V)} {H H':Hp} {s:Shared} {h':Heap}
end
end L2
namespace L2
open PySem PySem.Spec PyProof.Rows
section
variable {X:Cx}
variable {a b:Expr} {ta tb:TE} {pos:Pos}
variable {tA tB':TT} {rest:List Expr}
end
end L2
namespace L2
open PySem PySem.Spec PyProof.Rows
section
variable {X:Cx} {pins:List (Addr×Obj)} {σ:St} {H:Hp} {s:Shared} {a:Addr} {xs ys:List V}
end
section
variable {X:Cx} {pins:List (Addr×Obj)} {σ:St} {H:Hp} {s:Shared} {E:Value->Shared->Prop}
end
section
variable {X:Cx} {st:Stmt} {rest:List Stmt} {t u:TS} {e:Expr} {te:TE} {pos:Pos}
end
section
variable {X:Cx} {pos:Pos}
end
section
variable {X:Cx} {pos:Pos}
end
end L2
namespace L2
open PySem PySem.Spec PyProof.Rows
section
variable {X:Cx} {tg:Expr}
end
end L2
namespace L2
open PySem PySem.Spec PyProof.Rows
section
variable {X:Cx} {a b c:Expr} {ta tb tc:TE} {pos:Pos}
end
section
variable {X:Cx} {a b c:Expr} {ta tb tc:TE} {pos:Pos}
end
end L2
namespace L2
open PySem PySem.Spec PyProof.Rows
section
variable {prog:Program} {w:World} {A:Around} {E:Value->Shared->Prop} {s:Shared} {K:PySem.W.Frag} {x dx C f:Addr} {mA:Str->Option Value} {name:Str} {v:Value}
end
section
variable {P:Program} {w:World} {H H':Hp} {h h':Heap} {a C dx:Addr} {fs fs':List (Str×V)}
end
section
variable {X:Cx} {pins:List (Addr×Obj)} {σ:St} {H:Hp} {s:Shared} {a C dx:Addr} {fs:List (Str×V)} {f:Str} {v:V} {A:Around} {E:Value->Shared->Prop}
end
section
variable {X:Cx} {o e value:Expr} {f:Str} {pos pos' tpos:Pos} {ta tv:TE}
end
section
variable {X:Cx} {pins:List (Addr×Obj)} {σ:St} {H:Hp} {s:Shared} {A:Around} {E:Value->Shared->Prop} {Q:Value->Shared->Prop} {c:Value} {b:Bool}
end
end L2
namespace L2
open PySem PySem.Spec PyProof.Rows
section
variable {X:Cx} {e:Expr} {es:List Expr} {te:TE} {t:TA} {pos:Pos}
end
section
variable {X:Cx} {pins:List (Addr×Obj)} {σ:St} {H:Hp} {s s':Shared}
end
section
variable {X:Cx} {CX:wE} {k:Nat} {f C:Addr} {fd:FuncData} {ps:List Str} {sp:Sp} {dvs:List V} {ds:List Value} {E:XK} {x m:Str} {p pos apos:Pos} {e o:Expr} {es:List Expr} {ta:TE} {t:TA}
end
section
variable {X:Cx} {CX:wE} {k:Nat} {f C:Addr} {fd:FuncData} {ps ks:List Str} {sp:Sp} {E:XK} {x m:Str} {p pos apos kpos:Pos} {e o:Expr} {es:List Expr} {kws:List Keyword} {te ta:TE} {t tk:TA} {nm:Option Str}
variable {g:List Value->List Value->List Value} {gV:List V->List V->List V}
end
end L2
namespace L2
open PySem PySem.Spec PyProof.Rows
section
variable {X:Cx} {x:Str} {p pos:Pos} {e:Expr} {es:List Expr} {t:TA} {id T:String} {r:List V->Hp->VK->Prop}
end
end L2
namespace L2
open PySem PySem.Spec PyProof.Rows
section
variable {κ:Type} [DecidableEq κ]
noncomputable def oR (kvs:List (κ × V)) (k:κ):Option V:=(kvs.find? fun kv=>decide (kv.1=k)).map (·.2)
noncomputable def vx (kvs:List (κ × V)) (k:κ) (v:V):List (κ × V):=
 if (kvs.any fun kv=>decide (kv.1=k))=true then kvs.map (fun kv=>if kv.1=k then (kv.1,v) else kv) else kvs++[(k,v)]
noncomputable def G2 (kvs:List (κ × V)) (k:κ):List (κ × V):=kvs.filter fun kv=>decide (kv.1≠k)
theorem qc {p:κ × V} {r:List (κ × V)} {k:κ} (e:p.1=k):oR (p::r) k=some p.2:=by simp [oR,List.find?_cons,e]
theorem qd {p:κ × V} {r:List (κ × V)} {k:κ} (e:¬ p.1=k):oR (p::r) k=oR r k:=by simp [oR,List.find?_cons,e]
theorem ve (k:κ):∀ kvs:List (κ × V),(kvs.any fun kv=>decide (kv.1=k))=(oR kvs k).isSome
 | []=>rfl
 | p::r=>by
  rw [List.any_cons]
  by_cases e:p.1=k
  ·simp only [qc e,decide_eq_true e,Bool.true_or,Option.isSome_some]
  ·rw [qd e,decide_eq_false e,Bool.false_or]; exact ve k r
theorem RelO.isSome_eq {o:Option V} {u:Option Value} (r:RelO o u):o.isSome=u.isSome:=by
 cases o with
 | none=>cases u with
  | none=>rfl
  | some _=>exact (show False from r).elim
 | some _=>cases u with
  | none=>exact (show False from r).elim
  | some _=>rfl
theorem RelO.getD {o:Option V} {u:Option Value} {d:V} {d':Value} (r:RelO o u) (rd:RelV d d'):RelV (o.getD d) (u.getD d'):=by
 cases o with
 | none=>cases u with
  | none=>exact rd
  | some _=>exact (show False from r).elim
 | some _=>cases u with
  | none=>exact (show False from r).elim
  | some _=>exact r
theorem KV.val {kvs:List (κ × V)} {vs:List (κ × Value)} (r:KV kvs vs) (k:κ):RelO (oR kvs k) (valueAt vs k):=by
 unfold KV at r
 induction r with
 | nil=>exact True.intro
 | @cons p q ps qs h t ih=>
  obtain ⟨h1,h2⟩:=h
  by_cases e:p.1=k
  ·have e':q.1=k:=h1.symm.trans e
   have b:valueAt (q::qs) k=some q.2:=by simp [valueAt,List.find?_cons,e']
   rw [qc e,b]; exact h2
  ·have e':¬ q.1=k:=fun z=>e (h1.trans z)
   have b:valueAt (q::qs) k=valueAt qs k:=by simp [valueAt,List.find?_cons,e']
   rw [qd e,b]; exact ih
theorem KV.any {kvs:List (κ × V)} {vs:List (κ × Value)} (r:KV kvs vs) (k:κ):(kvs.any fun kv=>decide (kv.1=k))=vs.any fun kv=>decide (kv.1=k):=by
 unfold KV at r
 induction r with
 | nil=>rfl
 | cons h t ih=>rw [List.any_cons,List.any_cons,ih,h.1]
theorem KV.repl {kvs:List (κ × V)} {vs:List (κ × Value)} (r:KV kvs vs) (k:κ) {y:V} {u:Value} (ry:RelV y u) :
  KV (kvs.map fun kv=>if kv.1=k then (kv.1,y) else kv) (vs.map fun kv=>if kv.1=k then (kv.1,u) else kv):=by
 unfold KV at r ⊢
 induction r with
 | nil=>exact .nil
 | @cons p q ps qs h t ih=>
  rw [List.map_cons,List.map_cons]
  refine .cons ?_ ih
  obtain ⟨h1,h2⟩:=h
  by_cases e:p.1=k
  ·rw [if_pos e,if_pos (h1.symm.trans e)]; exact ⟨h1,ry⟩
  ·rw [if_neg e,if_neg (fun z=>e (h1.trans z))]; exact ⟨h1,h2⟩
theorem KV.put {kvs:List (κ × V)} {vs:List (κ × Value)} (r:KV kvs vs) (k:κ) {y:V} {u:Value} (ry:RelV y u):KV (vx kvs k y) (stored vs k u):=by
 unfold vx stored
 rw [r.any k]
 by_cases e:(vs.any fun kv=>decide (kv.1=k))=true
 ·rw [if_pos e,if_pos e]; exact r.repl k ry
 ·rw [if_neg e,if_neg e]; exact Paired.snoc r ⟨rfl,ry⟩
theorem KV.drop {kvs:List (κ × V)} {vs:List (κ × Value)} (r:KV kvs vs) (k:κ):KV (G2 kvs k) (without vs k):=by
 unfold KV at r ⊢
 unfold G2 without
 induction r with
 | nil=>exact .nil
 | @cons p q ps qs h t ih=>
  obtain ⟨h1,h2⟩:=h
  rw [List.filter_cons,List.filter_cons]
  by_cases e:p.1=k
  ·have a:¬ decide (p.1≠k)=true:=by simp [e]
   have b:¬ decide (q.1≠k)=true:=by simp [h1.symm.trans e]
   rw [if_neg a,if_neg b]; exact ih
  ·have e':¬ q.1=k:=fun z=>e (h1.trans z)
   have a:decide (p.1≠k)=true:=by simp [e]
   have b:decide (q.1≠k)=true:=by simp [e']
   rw [if_pos a,if_pos b]; exact .cons ⟨h1,h2⟩ ih
theorem KV.keys {kvs:List (κ × V)} {vs:List (κ × Value)} (r:KV kvs vs):kvs.map (·.1)=vs.map (·.1):=by
 unfold KV at r
 induction r with
 | nil=>rfl
 | cons h t ih=>rw [List.map_cons,List.map_cons,ih,h.1]
theorem KV.length {kvs:List (κ × V)} {vs:List (κ × Value)} (r:KV kvs vs):kvs.length=vs.length:=Paired.length r
end
theorem GU {P:Program} {w:World} {k:eM} {u:Value} (r:RelV (kV k) u):(gv P w).is k u=true:=by
 cases k with
 | inl i=>obtain ⟨t,e⟩:=(show ∃ t,u=Value.int i t from r); subst e; exact vS P w i t
 | inr x=>obtain ⟨t,e⟩:=(show ∃ t,u=Value.str x t from r); subst e; exact vR P w x t
theorem sQ {P:Program} {w:World}:∀ {ks:List eM} {us:List Value},Vals (ks.map kV) us->ItemsAre (gv P w) ks us
 | [],_,r=>by rw [List.map_nil] at r; cases r; exact .nil
 | k::ks,_,r=>by
  rw [List.map_cons] at r
  cases r with
  | cons h t=>exact .cons (GU h) (sQ t)
noncomputable abbrev KT (H:Hp):List (List eM×V)->List (List eM×Addr×Value)->Prop:=Paired fun p q=>p.1=q.1/\H q.2.1=some (.tup (p.1.map kV))/\RelV p.2 q.2.2
theorem KT.val {H:Hp} {kvs:List (List eM×V)} {xs:List (List eM×Addr×Value)} (r:KT H kvs xs) (k:List eM):RelO (oR kvs k) ((atKey xs k).map (·.2)):=by
 induction r with
 | nil=>exact True.intro
 | @cons p q ps qs h t ih=>
  obtain ⟨h1,_,h2⟩:=h
  by_cases e:p.1=k
  ·have e':q.1=k:=h1.symm.trans e
   have b:atKey (q::qs) k=some q.2:=by simp [atKey,List.find?_cons,e']
   rw [qc e,b]; exact h2
  ·have e':¬ q.1=k:=fun z=>e (h1.trans z)
   have b:atKey (q::qs) k=atKey qs k:=by simp [atKey,List.find?_cons,e']
   rw [qd e,b]; exact ih
theorem KT.repl {H:Hp} {kvs:List (List eM×V)} {xs:List (List eM×Addr×Value)} (r:KT H kvs xs) (k:List eM) {y:V} {u:Value} (ry:RelV y u) :
  KT H (kvs.map fun kv=>if kv.1=k then (kv.1,y) else kv) (xs.map (putAt k u)):=by
 induction r with
 | nil=>exact .nil
 | @cons p q ps qs h t ih=>
  rw [List.map_cons,List.map_cons]
  refine .cons ?_ ih
  obtain ⟨h1,h2,h3⟩:=h
  unfold putAt
  by_cases e:p.1=k
  ·rw [if_pos e,if_pos (h1.symm.trans e)]; exact ⟨h1,h2,ry⟩
  ·rw [if_neg e,if_neg (fun z=>e (h1.trans z))]; exact ⟨h1,h2,h3⟩
theorem KT.put {H:Hp} {kvs:List (List eM×V)} {xs:List (List eM×Addr×Value)} (r:KT H kvs xs) (k:List eM) {b:Addr} {y:V} {u:Value} (hb:H b=some (.tup (k.map kV))) (ry:RelV y u) :
  KT H (vx kvs k y) (storedH xs k b u):=by
 have e:(kvs.any fun kv=>decide (kv.1=k))=(atKey xs k).isSome:=by
  rw [ve,(r.val k).isSome_eq,Option.isSome_map]
 unfold vx storedH
 rw [e]
 by_cases q:(atKey xs k).isSome=true
 ·rw [if_pos q,if_pos q]; exact r.repl k ry
 ·rw [if_neg q,if_neg q]; exact Paired.snoc r ⟨rfl,hb,ry⟩
theorem KT.keeps {H H':Hp} {kvs:List (List eM×V)} {xs:List (List eM×Addr×Value)} (r:KT H kvs xs) (ht:∀ b ys,H b=some (.tup ys)->H' b=some (.tup ys)):KT H' kvs xs:=
 Paired.mapP r fun _ _ z=>⟨z.1,ht _ _ z.2.1,z.2.2⟩
section
variable {P:Program} {w:World} {H:Hp} {h:Heap} {a:Addr}
theorem GB {u:HO} (ok:HOk P w H h) (e:Rd H a u):ObjOk P w H h a u:=e.ok ok
theorem Lm {kvs:List (eM×V)} (ok:HOk P w H h) (e:Rd H a (.dK kvs)):kvs.length<=sizeLine/\(a==sysModules)=false/\∃ vs,KV kvs vs/\h.DictOf (gv P w) a vs:=
 show ObjOk P w H h a (.dK kvs) from GB ok e
theorem Ct {ks:List eM} (ok:HOk P w H h) (e:H a=some (.tup (ks.map kV))):(tupleKind (gv P w)).is h ks a:=by
 obtain ⟨_,its,r,o,h1,h2,n,h3⟩:=(show ObjOk P w H h a (.tup (ks.map kV)) from ok a _ e)
 exact ⟨o,its.toArray,n,h1,h2,h3,by simpa using sQ r⟩
theorem Ll {kvs:List (List eM×V)} (ok:HOk P w H h) (e:Rd H a (.dT kvs)):kvs.length<=sizeLine/\(a==sysModules)=false /\
  ∃ xs,KT H kvs xs/\h.DictOfH (tupleKind (gv P w)) a xs:=by
 obtain ⟨z,y,xs,r,o,es,ep,h1,h2,h3,h4,h5⟩:=(show ObjOk P w H h a (.dT kvs) from GB ok e)
 refine ⟨z,y,xs,r,o,es,ep,h1,h2,h3,h4,fun x hx=>?_,h5⟩
 have all:∀ {l:List (List eM×V)} {m:List (List eM×Addr×Value)},KT H l m->∀ x∈m,(tupleKind (gv P w)).is h x.1 x.2.1:=by
  intro l m q
  induction q with
  | nil=>intro x hx; exact nomatch hx
  | @cons p q ps qs hq t ih=>
   intro x hx
   rcases List.mem_cons.mp hx with e | hx
   ·subst e
    exact Ct ok (by rw [<- hq.1]; exact hq.2.1)
   ·exact ih x hx
 exact all r x hx
end
noncomputable def DGet (H:Hp) (a:Addr) (y:V) (r:Option V):Prop:=
 (∃ kvs k,Rd H a (.dK kvs)/\y=kV k/\r=oR kvs k)\/∃ kvs k b,Rd H a (.dT kvs)/\y=.ref b/\H b=some (.tup (k.map kV))/\r=oR kvs k
noncomputable def DPut (H:Hp) (a:Addr) (y v:V) (H':Hp):Prop:=
 (∃ kvs k,H a=some (.dK kvs)/\y=kV k/\kvs.length<sizeLine/\H'=eA H a (.dK (vx kvs k v))) \/
 ∃ kvs k b,H a=some (.dT kvs)/\y=.ref b/\H b=some (.tup (k.map kV))/\kvs.length<sizeLine/\H'=eA H a (.dT (vx kvs k v))
theorem DGet.k {H:Hp} {a:Addr} {kvs:List (eM×V)} {k:eM} (e:H a=some (.dK kvs)):DGet H a (kV k) (oR kvs k):=.inl ⟨kvs,k,.inl e,rfl,rfl⟩
theorem DGet.t {H:Hp} {a b:Addr} {kvs:List (List eM×V)} {k:List eM} (e:H a=some (.dT kvs)) (eb:H b=some (.tup (k.map kV))):DGet H a (.ref b) (oR kvs k):=.inr ⟨kvs,k,b,.inl e,rfl,eb,rfl⟩
theorem DPut.k {H:Hp} {a:Addr} {kvs:List (eM×V)} {k:eM} {v:V} (e:H a=some (.dK kvs)) (hl:kvs.length<sizeLine):DPut H a (kV k) v (eA H a (.dK (vx kvs k v))):=.inl ⟨kvs,k,e,rfl,hl,rfl⟩
theorem DPut.t {H:Hp} {a b:Addr} {kvs:List (List eM×V)} {k:List eM} {v:V} (e:H a=some (.dT kvs)) (eb:H b=some (.tup (k.map kV))) (hl:kvs.length<sizeLine) :
  DPut H a (.ref b) v (eA H a (.dT (vx kvs k v))):=.inr ⟨kvs,k,b,e,rfl,eb,hl,rfl⟩
section
variable {X:Cx} {pins:List (Addr×Obj)} {σ:St} {H:Hp} {s:Shared} {a:Addr} {y v:V} {u r:Value} {o:Option V} {A:Around} {E:Value->Shared->Prop}
theorem Inv.big (I:Inv X pins σ H s):sysModules<s.heap.objs.size:=by
 have h:mainGlobals<s.heap.objs.size:=(I.mod.glob.keeps I.bk).lt
 exact Nat.lt_trans (by decide) h
theorem Lo {Q:Value->Shared->Prop} (hu:A.units+1<cLine) (I:Inv X pins σ H s) (g:DGet H a y o) (ry:RelV y u) (h:∀ s',Inv X pins σ H s'->Q (.bool o.isSome) s') :
  wpAny (model X.prog X.w) A (compareOp .In u (.ref a)) Q E s:=by
 rcases g with ⟨kvs,k,e,ey,l⟩ | ⟨kvs,k,b,e,ey,eb,l⟩
 ·subst ey
  obtain ⟨z,hd,vs,rel,dd⟩:=Lm I.hok e
  refine wpAny_in_of (GU ry) hd dd.mapOf ?_
  rw [<- (rel.val k).isSome_eq,<- l]
  exact h _ (I.tok _)
 ·subst ey
  cases (show u=Value.ref b from ry)
  obtain ⟨z,hd,xs,rel,dd⟩:=Ll I.hok e
  refine wpAny_in_heap (tupleKind_room_in1 hu) (Ct I.hok eb) hd dd ?_
  have q:=(rel.val k).isSome_eq
  rw [Option.isSome_map] at q
  rw [<- q,<- l]
  exact h _ (I.tok _)
end
section
variable {X:Cx} {pins:List (Addr×Obj)} {σ:St} {H:Hp} {s:Shared} {a:Addr} {kvs:List (eM×V)} {k:eM} {u:Value} {A:Around} {E:Value->Shared->Prop}
end
section
variable {X:Cx} {o i e value:Expr} {pos pos' tpos:Pos} {td ty tv:TE}
end
section
variable {X:Cx} {pos:Pos}
end
structure M1 (X:Cx) (o:Expr) (m:Str) (apos:Pos) (e:Expr) (cpos:Pos):Prop where
 base:attributeBase o m X.env (eval o X.env)=eval o X.env
 few:((backTo cpos (starEach [e] X.env)).all (fun x=>!x.1)&&(backToKw cpos (keywordEach [] X.env)).all (fun x=>x.1.isSome)
  && decide (([e]:List Expr).length+([]:List Keyword).length+(if ([]:List Keyword).isEmpty then 0 else 1)<30))=true
 line:(apos.endLine==cpos.line)=true
 trees:backTo cpos (starEach [e] X.env)=[(false,eval e X.env)]
structure M2 (X:Cx) (o:Expr) (m:Str) (apos:Pos) (e f:Expr) (cpos:Pos):Prop where
 base:attributeBase o m X.env (eval o X.env)=eval o X.env
 few:((backTo cpos (starEach [e,f] X.env)).all (fun x=>!x.1)&&(backToKw cpos (keywordEach [] X.env)).all (fun x=>x.1.isSome)
  && decide (([e,f]:List Expr).length+([]:List Keyword).length+(if ([]:List Keyword).isEmpty then 0 else 1)<30))=true
 line:(apos.endLine==cpos.line)=true
 trees:backTo cpos (starEach [e,f] X.env)=[(false,eval e X.env),(false,eval f X.env)]
section
variable {X:Cx} {pins:List (Addr×Obj)} {σ:St} {H:Hp} {s:Shared} {a:Addr} {y d:V} {u r:Value} {o:Option V} {A:Around} {E:Value->Shared->Prop}
end
section
variable {X:Cx} {o e f:Expr} {apos cpos:Pos} {td ty tx:TE}
end
section
variable {X:Cx} {pins:List (Addr×Obj)} {σ:St} {H:Hp} {s:Shared} {a:Addr} {kvs:List (eM×V)} {A:Around} {E:Value->Shared->Prop}
end
section
variable {X:Cx} {pins:List (Addr×Obj)} {σ:St} {H:Hp} {s:Shared} {a:Addr} {y:V} {u:Value} {A:Around} {E:Value->Shared->Prop}
end
end L2
namespace Att
open PySem PySem.W PySem.Calls PyProof.Rows
section
variable {prog:Program} {w:World} {A:Around} {E:Value->Shared->Prop} {s:Shared} {K:Frag}
end
end Att
namespace L2
open PySem PySem.Spec PyProof.Rows
end L2
namespace L2
open PySem PySem.Spec PyProof.Rows
end L2
namespace L2
open PySem PySem.Spec PyProof.Rows
section
variable {P:Program} {w:World} {K:PySem.W.Frag} {mg:Str->Option Value} {base:Heap}
end
section
variable {X:Cx}
end
section
variable {κ:Type} [DecidableEq κ]
end
end L2
set_option Elab.async false
set_option linter.all false
set_option maxRecDepth 100000
set_option maxHeartbeats 4000000
namespace VL
open PySem PySem.Spec PyProof.Rows L2
noncomputable def FH:D->Option eM
 | .int i=>some (.inl i)
 | .str x=>some (.inr x)
 | _=>none
@[simp] theorem K1 (i:Int):FH (.int i)=some (.inl i):=rfl
noncomputable def Ox:Option Sl->Option (List (eM×D))
 | some (.own (.d es))=>some es
 | _=>none
@[simp] theorem ME (es:List (eM×D)):Ox (some (.od es))=some es:=rfl
section
variable {X:Cx} {e b c:Expr} {p pos tpos apos cpos:Pos} {f fk fv fx:Dv->Option D}
end
end VL
set_option Elab.async false
set_option linter.all false
set_option maxRecDepth 100000
set_option maxHeartbeats 4000000
namespace VL
open PySem PySem.Spec PyProof.Rows L2
theorem kT:∀ {out:List Value} {l:List Int},IntsAre out l->Vals (l.map V.int) out
 | _,_,.nil=>.nil
 | _,_,.cons n t r=>.cons ⟨t,rfl⟩ (kT r)
section
variable {X:Cx}
variable {e:Expr} {p p2 pos pos2:Pos} {te:TE} {f:Dv->Option D}
end
end VL
set_option Elab.async false
set_option linter.all false
set_option maxRecDepth 100000
set_option maxHeartbeats 4000000
namespace VL
open PySem PySem.Spec PyProof.Rows L2
section
variable {prog:Program} {w:World} {A:Around} {E:Value->Shared->Prop} {s:Shared}
structure ZG (xs ys:Array Value) (lo:Addr) (h:Heap) (as:List Addr):Prop where
 above:∀ a∈as,lo<=a
 rise:as.Pairwise (· < ·)
 pairs:∀ (j:Nat) (a:Addr),as[j]? = some a->∃ x y,xs[j]? = some x/\ys[j]? = some y/\IsPair h a x y
end
end VL
set_option Elab.async false
set_option linter.all false
set_option maxRecDepth 100000
set_option maxHeartbeats 4000000
namespace VL
open PySem PySem.Spec PyProof.Rows L2
noncomputable def JR:List D->Option D
 | [.list a,.list b]=>some (.list (List.zipWith (fun x y=>.tuple [x,y]) a b))
 | _=>none
@[simp] noncomputable def OO (fs:Dv->Option (List D)) (g:List D->Option D):Dv->Option D:=fun δ=>(fs δ).bind g
@[simp] theorem LD (a b:List D):JR [.list a,.list b]=some (.list (List.zipWith (fun x y=>.tuple [x,y]) a b)):=rfl
section
variable {prog:Program} {w:World} {A:Around} {s:Shared} {R:Result->Shared->Prop} {z TI TO i1 i2 l1 l2 S lo:Addr} {xs ys:Array Value}
end
section
variable {prog:Program} {w:World} {A:Around} {E:Value->Shared->Prop} {s:Shared} {z TI TO i1 i2 l1 l2:Addr} {xs ys:Array Value}
end
section
variable {X:Cx} {e1 e2:Expr} {p p2 pos pos2:Pos} {ta:TA} {fs:Dv->Option (List D)}
theorem New.many {Z H H':Hp} (zh:Same Z H) (ext:∀ b,H b≠none->H' b=H b):New Z H (fun b=>if H b=none then H' b else Z b) H' where
 z:=fun b u e=>by
  have:H b=some u:=zh b u e
  show (if H b=none then _ else _)=_
  rw [if_neg (by rw [this]; simp)]; exact e
 h:=fun b u e=>by rw [ext b (by rw [e]; simp),e]
 zh:=fun b u e=>by
  have e:(if H b=none then H' b else Z b)=some u:=e
  split at e
  ·exact e
  ·rename_i n
   rw [ext b n]; exact zh b u e
 o:=fun b hb=>if_neg hb
end
end VL
set_option Elab.async false
set_option linter.all false
set_option maxRecDepth 100000
set_option maxHeartbeats 4000000
namespace VL
open PySem PySem.Spec PyProof.Rows L2
noncomputable def A7:List (D×D)->Option (List (eM×Int))
 | []=>some []
 | (k,.int i)::r=>(FH k).bind fun k=>(A7 r).bind fun l=>some ((k,i)::l)
 | _=>none
theorem xl (k:eM):FH (Cu k)=some k:=by cases k <;> rfl
@[simp] theorem wH:∀ es:List (eM×Int),A7 (CV es)=some es
 | []=>rfl
 | (k,i)::r=>by
  show (FH (Cu k)).bind _=_
  rw [xl]
  show (A7 (CV r)).bind _=_
  rw [wH r]; rfl
section
variable {X:Cx} {st:Stmt} {s1:Sf} {a b:Expr} {f fk:Dv->Option D} {p pos:Pos}
end
end VL
set_option Elab.async false
set_option linter.all false
set_option maxRecDepth 100000
set_option maxHeartbeats 4000000
namespace VL
open PySem PySem.Spec PyProof.Rows L2
section
variable {X:Cx}
end
section
variable {X:Cx} {e1 e2:Expr} {p p2 pos pos2:Pos} {ta:TA} {f g:Dv->Option D}
end
end VL
set_option Elab.async false
set_option linter.all false
set_option maxRecDepth 100000
set_option maxHeartbeats 4000000
namespace VL
open PySem PySem.Spec PyProof.Rows L2
section
variable {prog:Program} {w:World} {A:Around} {E:Value->Shared->Prop} {s:Shared} {α:Type}
end
noncomputable def Soft (X:Cx):Prop:=∃ x ob u vs,X.A.handled=some (.ref x)/\X.H₀ x=some (.frz ob u)/\ob.data=.fields vs/\vs[2]? = some .none
theorem Soft.blk {X:Cx} {pins:List (Addr×Obj)} {σ:St} {H:Hp} {s:Shared} {scope:Scope} {N:List Str} {C:Addr} {ex:List Addr} (I:Inv X pins σ H s) (h:Soft X):Soft (blk X scope N C s H ex):=by
 obtain ⟨x,ob,u,vs,h1,h2,h3,h4⟩:=h
 exact ⟨x,ob,u,vs,h1,I.base.frzs x ob u h2,h3,h4⟩
theorem Soft.at {X:Cx} {pins:List (Addr×Obj)} {σ:St} {H:Hp} {s:Shared} (I:Inv X pins σ H s) (h:Soft X):∃ x ob vs,X.A.handled=some (.ref x)/\s.heap.get? x=some ob/\ob.data=.fields vs/\vs[2]? = some .none:=by
 obtain ⟨x,ob,u,vs,h1,h2,h3,h4⟩:=h
 exact ⟨x,ob,vs,h1,(I.hok x _ (I.base.frzs x ob u h2)).1,h3,h4⟩
section
variable {X:Cx} {tg:Expr}
noncomputable def NG (X:Cx) (pins:List (Addr×Obj)) (σ:St) (tg:Expr) (R:It->Hp->Prop) (itv:Value) (s2:Shared):Prop:=
 ∃ (it:Addr) (fp:List Addr) (tn:Nat->Heap->Prop) (J:It) (H':Hp),itv=.ref it/\Inv X pins σ H' s2/\TurnG Soft X.prog X.w X.K tg J fp it tn/\tn 0 s2.heap/\(∀ b∈fp,lJ X pins H' b)/\R J H'
noncomputable def PIS (X:Cx) (tg iter:Expr) (wi:TI):Prop:=
 ∀ (pins:List (Addr×Obj)) (s:Shared) (σ:St) (H:Hp) (R:It->Hp->Prop),Inv X pins σ H s->wi σ H R ->
  wpAny (model X.prog X.w) X.A (eval iter X.env) (fun v s1=>wpAny (model X.prog X.w) X.A (pyIter v) (NG X pins σ tg R) X.xe s1) X.xe s
theorem PIS.imp {iter:Expr} {t t':TI} (h:PIS X tg iter t) (i:∀ σ H R,t' σ H R->t σ H R):PIS X tg iter t':=fun pins s σ H R I q=>h pins s σ H R I (i _ _ _ q)
end
section
variable {X:Cx} {scope:Scope} {vars:List Str} {caps:List (Nat×Str)} {elt tg iter cnd:Expr} {pos:Pos} {g:TG} {fi:Dv->Option (List D)} {ft:Dv->Option Bool} {fe:Dv->Option D} {bv:D->Option (List D)}
end
structure RoomS (k:Nat) (A:Around):Prop where
 dp:A.depth+3*k+5<recursionLimit
 un:A.units+16*k+200<cLine
theorem RoomS.deeper {k:Nat} {A:Around} (r:RoomS (k+1) A) (env:Env):RoomS k (A.deeper env):=
 ⟨by have:=r.dp; show A.depth+1+3*k+5<_; omega,by have:=r.un; show A.units+3+16*k+200<_; omega⟩
theorem RoomS.depth {k:Nat} {A:Around} (r:RoomS k A):A.depth<recursionLimit:=by have:=r.dp; omega
theorem RoomS.units {k:Nat} {A:Around} (r:RoomS k A):A.units+64<cLine:=by have:=r.un; omega
structure FnS (P:Program) (w:World) (K:PySem.W.Frag) (mg:Str->Option Value) (base:Heap) (k:Nat) (f:Addr) (fd:FuncData) (ps:List Str) (g:List D->Option D):Prop where
 len:∀ as d,g as=some d->as.length=ps.length
 run:∀ (A:Around) (outer:List Env) (s:Shared) (H:Hp) (args:Args) (us:List Value) (vs:List V) (Q:VK) (x:Addr) (ob:Obj) (u:HO) (fl:Array Value),RoomS k A->Env0 P w K mg base A outer s H->A.handled=some (.ref x)->H x=some (.frz ob u)->ob.data=.fields fl->fl[2]? = some .none ->
  BindsTo s fd args (ps.zip us)->Vals vs us->AW K g vs H Q->codeAny (model P w) A (.call (.ref f) args) (fun r s'=>match r with | .ok (.ret u)=>CE outer P w H s Q u s' | _=>False) s
section
variable {P:Program} {w:World} {K:PySem.W.Frag} {mg:Str->Option Value} {base:Heap}
structure CalS (P:Program) (w:World) (K:PySem.W.Frag) (mg:Str->Option Value) (base:Heap) (x:Str) (k:Nat) (g:List D->Option D):Prop where
 ex:∃ (fa:Addr) (fd:FuncData) (ps:List Str),FnS P w K mg base k fa fd ps g/\mg x=some (.ref fa)/\PySem.W.keepIn K (.ref fa)=true/\Binds K fd ps []
end
section
variable {X:Cx} {body:List Stmt} {b:Sf} {bx:Xf} {np hpos pos:Pos}
end
section
variable {P:Program} {w:World} {K:PySem.W.Frag} {mg:Str->Option Value} {base h:Heap} {x y:Str} {st:Stmt} {k:Nat} {ps:List Str}
end
end VL
set_option Elab.async false
set_option linter.all false
set_option maxRecDepth 100000
set_option maxHeartbeats 4000000
namespace VL
open PySem PySem.Spec PyProof.Rows L2
section
variable {K:Fg} {Z:Hp} {a:Addr} {ys:List V} (ha:Z a=some (.lst ys))
include ha
end
section
variable {K:Fg} {H₀ Z₀ Z H:Hp} {δ:Dv} {σ:St}
end
section
variable {X:Cx} {e c:Expr} {st:Stmt} {sts:List Stmt} {s1 s2:Sf} {f:Dv->Option D} {p pos apos:Pos}
end
section
variable {P:Program} {w:World} {K:PySem.W.Frag} {mg:Str->Option Value} {base:Heap}
theorem vN (f:Dv->Option D):rB (sG f):=fun δ r h=>by
 obtain ⟨x,_,h⟩:=bind_some h
 cases h; rfl
end
end VL
set_option Elab.async false
set_option linter.all false
set_option maxRecDepth 100000
set_option maxHeartbeats 4000000
namespace MA
open PySem
theorem nH (x y:Int):Builtin.bitOr x y=2*Builtin.bitOr (x / 2) (y / 2)+(if x % 2=0/\y % 2=0 then 0 else 1):=by
 unfold Builtin.bitOr Builtin.bitNot
 have h:=PySem.W.kbt_halves (-x-1) (-y-1)
 have hx:(-x-1) / 2 = -(x / 2)-1:=by omega
 have hy:(-y-1) / 2 = -(y / 2)-1:=by omega
 rw [hx,hy] at h
 rw [h]
 by_cases c:x % 2=0/\y % 2=0
 ·rw [if_pos c,if_pos (by omega)]; omega
 ·rw [if_neg c,if_neg (by omega)]; omega
theorem mR (n:Nat):(0:Int)<2 ^ n:=by
 induction n with
 | zero=>decide
 | succ n ih=>rw [Int.pow_succ]; omega
theorem jO (x:Int) (n:Nat):x / 2 ^ (n+1)=x / 2 / 2 ^ n:=by
 rw [Int.pow_succ,Int.mul_comm,Int.ediv_ediv_of_nonneg (by decide)]
theorem g8 (x:Int) (n:Nat):2 ^ (n+1) ∣ x↔x % 2=0/\2 ^ n ∣ x / 2:=by
 constructor
 ·rintro ⟨c,rfl⟩
  rw [Int.pow_succ]
  refine ⟨?_,c,?_⟩
  ·rw [Int.mul_comm (2 ^ n) 2,Int.mul_assoc]; omega
  ·rw [Int.mul_comm (2 ^ n) 2,Int.mul_assoc,Int.mul_ediv_cancel_left _ (by decide)]
 ·rintro ⟨h,c,hc⟩
  refine ⟨c,?_⟩
  rw [Int.pow_succ,Int.mul_comm (2 ^ n) 2,Int.mul_assoc,<- hc]
  omega
theorem ug (n:Nat):∀ x y:Int,(2 ^ n ∣ Builtin.bitOr x y↔2 ^ n ∣ x/\2 ^ n ∣ y)/\(2 ^ n ∣ Builtin.bitOr x y->Builtin.bitOr x y / 2 ^ n=Builtin.bitOr (x / 2 ^ n) (y / 2 ^ n)):=by
 induction n with
 | zero=>intro x y; simp
 | succ n ih=>
  intro x y
  have h:=nH x y
  have hd:Builtin.bitOr x y / 2=Builtin.bitOr (x / 2) (y / 2):=by rw [h]; split <;> omega
  have hm:Builtin.bitOr x y % 2=0↔x % 2=0/\y % 2=0:=by
   rw [h]
   by_cases c:x % 2=0/\y % 2=0
   ·rw [if_pos c]; constructor
    ·intro _; exact c
    ·intro _; omega
   ·rw [if_neg c]; constructor
    ·intro z; omega
    ·intro z; exact absurd z c
  obtain ⟨i1,i2⟩:=ih (x / 2) (y / 2)
  constructor
  ·rw [g8,g8,g8,hd,hm,i1]
   constructor
   ·rintro ⟨⟨a,b⟩,c,d⟩; exact ⟨⟨a,c⟩,b,d⟩
   ·rintro ⟨⟨a,c⟩,b,d⟩; exact ⟨⟨a,b⟩,c,d⟩
  ·intro q
   rw [g8,hd] at q
   rw [jO,jO,jO,hd,i2 q.2]
theorem Bt:∀ (n:Nat) (j:Int),j.natAbs<=n->j≠0->∃ (t:Nat) (a:Int),j=2 ^ t*(2*a+1)
 | 0,j,h,h0=>by omega
 | n+1,j,h,h0=>by
  by_cases c:j % 2=0
  ·obtain ⟨t,a,e⟩:=Bt n (j / 2) (by omega) (by omega)
   refine ⟨t+1,a,?_⟩
   rw [Int.pow_succ,Int.mul_comm (2 ^ t) 2,Int.mul_assoc,<- e]
   omega
  ·exact ⟨0,j / 2,by simp; omega⟩
theorem wn (t:Nat):Builtin.Int.intBits (2 ^ t)=t+1:=by
 unfold Builtin.Int.intBits
 have h:(2:Int) ^ t≠0:=Int.ne_of_gt (mR t)
 have e:((2:Int) ^ t).natAbs=2 ^ t:=by
  have:((2 ^ t:Nat):Int)=(2:Int) ^ t:=by simp
  rw [<- this,Int.natAbs_natCast]
 rw [if_neg (by simpa using h),e,Nat.log2_two_pow]
noncomputable def vf (j most:Int):Int:=if j=0 then most else if (Builtin.Int.intBits (Builtin.bitAnd j (-j)):Int)-1<most then (Builtin.Int.intBits (Builtin.bitAnd j (-j)):Int)-1 else most
theorem sy (j most:Int) (hm:0<=most):∃ t:Nat,vf j most=t/\(t:Int)<=most/\2 ^ t ∣ j/\((t:Int)<most->¬ j / 2 ^ t % 2=0):=by
 unfold vf
 by_cases h:j=0
 ·subst h
  refine ⟨most.toNat,by rw [if_pos rfl]; omega,by omega,Int.dvd_zero _,fun z=>by omega⟩
 ·obtain ⟨t,a,e⟩:=Bt _ j (Nat.le_refl _) h
  have hb:Builtin.Int.intBits (Builtin.bitAnd j (-j))=t+1:=by rw [e,PySem.W.kbt_low,wn]
  rw [if_neg h,hb]
  have q:((t+1:Nat):Int)-1=t:=by omega
  rw [q]
  by_cases c:(t:Int)<most
  ·refine ⟨t,by rw [if_pos c],by omega,⟨_,e⟩,fun _=>?_⟩
   rw [e,Int.mul_ediv_cancel_left _ (Int.ne_of_gt (mR t))]
   omega
  ·refine ⟨most.toNat,by rw [if_neg c]; omega,by omega,?_,fun z=>by omega⟩
   refine Int.dvd_trans ?_ ⟨_,e⟩
   have:t=most.toNat+(t-most.toNat):=by omega
   rw [this,Int.pow_add]
   exact Int.dvd_mul_right _ _
theorem A9 (p q most:Int) (hm:0<=most):∃ t:Nat,vf (Builtin.bitOr p q) most=t/\(t:Int)<=most/\p=p / 2 ^ t*2 ^ t/\q=q / 2 ^ t*2 ^ t/\((t:Int)<most->¬ (p / 2 ^ t % 2=0/\q / 2 ^ t % 2=0)):=by
 obtain ⟨t,e,h1,h2,h3⟩:=sy (Builtin.bitOr p q) most hm
 have o:=ug t p q
 have d:=o.1.mp h2
 refine ⟨t,e,h1,(Int.ediv_mul_cancel d.1).symm,(Int.ediv_mul_cancel d.2).symm,fun z w=>h3 z ?_⟩
 rw [o.2 h2,nH,if_pos w]
 omega
theorem ng {a:Int} {m:Nat} (h:a.natAbs<2 ^ m):Builtin.Int.intBits a<=m:=by
 unfold Builtin.Int.intBits
 split
 ·exact Nat.zero_le _
 ·rename_i h0
  have h0:a≠0:=by simpa using h0
  have:a.natAbs.log2<m:=(Nat.log2_lt (by omega)).mpr h
  omega
theorem IL {a b:Int} (m n:Nat) (ha:a.natAbs<2 ^ m) (hb:b.natAbs<2 ^ n) (h:m+n<=134217728):IntMulOk a b:=by
 have h1:=ng ha
 have h2:=ng hb
 have hc:Builtin.Int.intTooBig (Builtin.Int.intBits a+Builtin.Int.intBits b)=false:=by
  unfold Builtin.Int.intTooBig bitsLine
  exact decide_eq_false (by omega)
 unfold IntMulOk
 rw [hc]
 simp
structure Q4 where
 a:Int
 b:Int
 c:Int
 d:Int
namespace Q4
theorem ext' {x y:Q4} (h1:x.a=y.a) (h2:x.b=y.b) (h3:x.c=y.c) (h4:x.d=y.d):x=y:=by
 cases x; cases y; simp at h1 h2 h3 h4; subst h1 h2 h3 h4; rfl
noncomputable def add (x y:Q4):Q4:=⟨x.a+y.a,x.b+y.b,x.c+y.c,x.d+y.d⟩
noncomputable def neg (x:Q4):Q4:=⟨-x.a,-x.b,-x.c,-x.d⟩
noncomputable def mul (x y:Q4):Q4:=⟨x.a*y.a-x.b*y.d-x.c*y.c-x.d*y.b,x.a*y.b+x.b*y.a-x.c*y.d-x.d*y.c,x.a*y.c+x.b*y.b+x.c*y.a-x.d*y.d,x.a*y.d+x.b*y.c+x.c*y.b+x.d*y.a⟩
noncomputable def rt (x:Q4):Q4:=⟨x.b-x.d,x.a+x.c,x.b+x.d,x.c-x.a⟩
noncomputable def dbl (n:Int) (x:Q4):Q4:=⟨x.a*n,x.b*n,x.c*n,x.d*n⟩
noncomputable def mir (x:Q4):Q4:=⟨x.a,-x.d,-x.c,-x.b⟩
noncomputable def tn (x:Q4):Q4:=⟨-x.d,x.a,x.b,x.c⟩
noncomputable def rtn:Nat->Q4->Q4
 | 0,x=>x
 | n+1,x=>rtn n (rt x)
theorem rtn_succ (n:Nat) (x:Q4):rtn (n+1) x=rt (rtn n x):=by
 induction n generalizing x with
 | zero=>rfl
 | succ n ih=>exact ih (rt x)
theorem rtn_add (m n:Nat) (x:Q4):rtn (m+n) x=rtn m (rtn n x):=by
 induction n generalizing x with
 | zero=>rfl
 | succ n ih=>exact ih (rt x)
theorem rt_rt (x:Q4):rt (rt x)=dbl 2 x:=by
 apply ext' <;> simp [rt,dbl] <;> omega
theorem F0 (m n:Int) (x:Q4):dbl m (dbl n x)=dbl (n*m) x:=by
 apply ext' <;> simp [dbl,Int.mul_assoc]
theorem rtn_two (t:Nat) (x:Q4):rtn (2*t) x=dbl (2 ^ t) x:=by
 induction t generalizing x with
 | zero=>apply ext' <;> simp [rtn,dbl]
 | succ t ih=>
  have e:2*(t+1)=2*t+1+1:=by omega
  rw [e]
  show rtn (2*t) (rt (rt x))=_
  rw [ih,rt_rt,F0,Int.pow_succ,Int.mul_comm]
theorem rt_inj {x y:Q4} (h:rt x=rt y):x=y:=by
 have h1:=congrArg rt h
 rw [rt_rt,rt_rt] at h1
 have h2:=congrArg Q4.a h1
 have h3:=congrArg Q4.b h1
 have h4:=congrArg Q4.c h1
 have h5:=congrArg Q4.d h1
 simp only [dbl] at h2 h3 h4 h5
 apply ext' <;> omega
theorem rtn_inj {n:Nat} {x y:Q4} (h:rtn n x=rtn n y):x=y:=by
 induction n generalizing x y with
 | zero=>exact h
 | succ n ih=>exact rt_inj (ih h)
theorem rt_add (x y:Q4):rt (add x y)=add (rt x) (rt y):=by apply ext' <;> simp [rt,add] <;> omega
theorem BE (x:Q4):rt (neg x)=neg (rt x):=by apply ext' <;> simp [rt,neg] <;> omega
theorem rtn_addQ (n:Nat) (x y:Q4):rtn n (add x y)=add (rtn n x) (rtn n y):=by
 induction n generalizing x y with
 | zero=>rfl
 | succ n ih=>show rtn n (rt (add x y))=_; rw [rt_add,ih]; rfl
theorem rt_mul (x y:Q4):rt (mul x y)=mul (rt x) y:=by apply ext' <;> simp only [rt,mul] <;> grind
theorem yt (n:Nat) (x y:Q4):rtn n (mul x y)=mul (rtn n x) y:=by
 induction n generalizing x with
 | zero=>rfl
 | succ n ih=>show rtn n (rt (mul x y))=_; rw [rt_mul,ih]; rfl
theorem mul_comm (x y:Q4):mul x y=mul y x:=by apply ext' <;> simp only [mul] <;> grind
theorem mul_assoc (x y z:Q4):mul (mul x y) z=mul x (mul y z):=by apply ext' <;> simp only [mul] <;> grind
theorem mul_add (x y z:Q4):mul x (add y z)=add (mul x y) (mul x z):=by apply ext' <;> simp only [mul,add] <;> grind
theorem add_comm (x y:Q4):add x y=add y x:=by apply ext' <;> simp only [add] <;> omega
theorem add_assoc (x y z:Q4):add (add x y) z=add x (add y z):=by apply ext' <;> simp only [add] <;> omega
theorem rtn_mul2 (m n:Nat) (x y:Q4):rtn (m+n) (mul x y)=mul (rtn m x) (rtn n y):=by
 rw [rtn_add,mul_comm,yt,mul_comm,yt]
theorem tn_mul (x y:Q4):tn (mul x y)=mul x (tn y):=by apply ext' <;> simp only [mul,tn] <;> grind
theorem tn_rt (x:Q4):tn (rt x)=rt (tn x):=by apply ext' <;> simp only [rt,tn] <;> omega
noncomputable def Odd (x:Q4):Prop:=¬ ((x.a-x.c) % 2=0/\(x.b-x.d) % 2=0)
theorem Ex (x:Q4):¬ Odd (rt x):=by
 unfold Odd rt
 simp only
 omega
noncomputable def Least (x:Q4) (k:Int):Prop:=0<=k/\(0<k->Odd x)
theorem Least.one {x y:Q4} {k l m:Nat} (hx:Least x k) (hy:Least y l) (h1:k<=m) (h2:l<=m) (h:rtn (m-k) x=rtn (m-l) y):x=y/\k=l:=by
 have key:∀ {x y:Q4} {k l:Nat},Least y l->k<=m->l<=m->k<l->rtn (m-k) x=rtn (m-l) y->False:=by
  intro x y k l hy h1 h2 hlt h
  have e:m-k=(m-l)+(l-k):=by omega
  rw [e,rtn_add] at h
  have h3:=rtn_inj h
  obtain ⟨n,hn⟩:∃ n,l-k=n+1:=⟨l-k-1,by omega⟩
  rw [hn,rtn_succ] at h3
  have:=hy.2 (by omega)
  rw [<- h3] at this
  exact Ex _ this
 rcases Nat.lt_trichotomy k l with q | q | q
 ·exact (key hy h1 h2 q h).elim
 ·subst q; exact ⟨rtn_inj h,rfl⟩
 ·exact (key hx h2 h1 q h.symm).elim
end Q4
theorem ny (a b c d most:Int) (hm:0<=most):∃ t:Nat,vf (Builtin.bitOr (Builtin.bitOr (Builtin.bitOr a b) c) d) most=t/\(t:Int)<=most/\a=a / 2 ^ t*2 ^ t/\b=b / 2 ^ t*2 ^ t/\c=c / 2 ^ t*2 ^ t/\d=d / 2 ^ t*2 ^ t /\
  ((t:Int)<most->¬ (a / 2 ^ t % 2=0/\b / 2 ^ t % 2=0/\c / 2 ^ t % 2=0/\d / 2 ^ t % 2=0)):=by
 obtain ⟨t,e,h1,h2,h3⟩:=sy (Builtin.bitOr (Builtin.bitOr (Builtin.bitOr a b) c) d) most hm
 have o1:=ug t (Builtin.bitOr (Builtin.bitOr a b) c) d
 have d1:=o1.1.mp h2
 have o2:=ug t (Builtin.bitOr a b) c
 have d2:=o2.1.mp d1.1
 have o3:=ug t a b
 have d3:=o3.1.mp d2.1
 refine ⟨t,e,h1,(Int.ediv_mul_cancel d3.1).symm,(Int.ediv_mul_cancel d3.2).symm,(Int.ediv_mul_cancel d2.2).symm,(Int.ediv_mul_cancel d1.2).symm,fun z w=>h3 z ?_⟩
 have ev:∀ x y:Int,x % 2=0->y % 2=0->Builtin.bitOr x y % 2=0:=fun x y hx hy=>by
  rw [nH,if_pos ⟨hx,hy⟩]; omega
 rw [o1.2 h2,o2.2 d1.1,o3.2 d2.1]
 exact ev _ _ (ev _ _ (ev _ _ w.1 w.2.1) w.2.2.1) w.2.2.2
noncomputable def num (x:Q4) (k:Int):Q4×Int:=
 let t:=(vf (Builtin.bitOr (Builtin.bitOr (Builtin.bitOr x.a x.b) x.c) x.d) (k / 2)).toNat
 let y:Q4:=⟨x.a / 2 ^ t,x.b / 2 ^ t,x.c / 2 ^ t,x.d / 2 ^ t⟩
 if k-2*t=0\/(y.a-y.c) % 2=1\/(y.b-y.d) % 2=1 then (y,k-2*t) else (⟨(y.b-y.d) / 2,(y.a+y.c) / 2,(y.b+y.d) / 2,(y.c-y.a) / 2⟩,k-2*t-1)
theorem xp {p q:Int} (h:(p-q) % 2=0):(p+q) / 2-(q-p) / 2=p/\(p+q) / 2+(q-p) / 2=q:=by omega
theorem xo {p q:Int} (h:(p-q) % 2=0):(p-q) / 2+(p+q) / 2=p/\(p+q) / 2-(p-q) / 2=q:=by omega
theorem Ij {x y:Int} (h:(x-y) % 2=0) (k:y % 2=0):x % 2=0:=by omega
theorem EN {x y:Int} (h:(x-y) % 2=0) (k:x % 2=0):y % 2=0:=by omega
theorem B5 {a b c d:Int} (g1:(a-c) % 2=0) (g2:(b-d) % 2=0) (h:¬ (a % 2=0/\b % 2=0/\c % 2=0/\d % 2=0)):Q4.Odd ⟨(b-d) / 2,(a+c) / 2,(b+d) / 2,(c-a) / 2⟩:=fun z=>by
 have z1:((b-d) / 2-(b+d) / 2) % 2=0:=z.1
 have z2:((a+c) / 2-(c-a) / 2) % 2=0:=z.2
 rw [(xp g1).1] at z2
 have e:=(xo g2).2
 have z3:d % 2=0:=by omega
 exact h ⟨z2,Ij g2 z3,EN g1 z2,z3⟩
theorem ju (x:Q4) (k:Int) (hk:0<=k):Q4.Least (num x k).1 (num x k).2/\(num x k).2<=k/\Q4.rtn (k-(num x k).2).toNat (num x k).1=x:=by
 obtain ⟨t,e,h1,ha,hb,hc,hd,h3⟩:=ny x.a x.b x.c x.d (k / 2) (by omega)
 have l2:2*(t:Int)<=k:=by omega
 unfold num
 simp only [e,Int.toNat_natCast]
 generalize x.a / 2 ^ t=a at *
 generalize x.b / 2 ^ t=b at *
 generalize x.c / 2 ^ t=c at *
 generalize x.d / 2 ^ t=d at *
 have e2:Q4.dbl (2 ^ t) ⟨a,b,c,d⟩=x:=Q4.ext' ha.symm hb.symm hc.symm hd.symm
 split
 ·rename_i h
  refine ⟨⟨Int.sub_nonneg_of_le l2,fun z=>?_⟩,Int.sub_le_self _ (by omega),?_⟩
  ·rcases h with h | h | h
   ·exact absurd h (Int.ne_of_gt z)
   ·exact fun w=>absurd (h.symm.trans w.1) (by decide)
   ·exact fun w=>absurd (h.symm.trans w.2) (by decide)
  ·have:(k-(k-2*(t:Int))).toNat=2*t:=by omega
   simp only [this]
   rw [Q4.rtn_two,e2]
 ·rename_i h
  have g0:k-2*(t:Int)≠0:=fun z=>h (.inl z)
  have g1:(a-c) % 2=0:=(Int.emod_two_eq (a-c)).resolve_right fun z=>h (.inr (.inl z))
  have g2:(b-d) % 2=0:=(Int.emod_two_eq (b-d)).resolve_right fun z=>h (.inr (.inr z))
  refine ⟨⟨(by omega:0<=k-2*(t:Int)-1),fun z=>B5 g1 g2 (h3 ?_)⟩,(by omega:k-2*(t:Int)-1<=k),?_⟩
  ·have z:0<k-2*(t:Int)-1:=z
   omega
  ·have:(k-(k-2*(t:Int)-1)).toNat=2*t+1:=by omega
   simp only [this]
   show Q4.rtn (2*t) (Q4.rt _)=x
   rw [Q4.rtn_two]
   have e3:Q4.rt ⟨(b-d) / 2,(a+c) / 2,(b+d) / 2,(c-a) / 2⟩=⟨a,b,c,d⟩:=Q4.ext' (xp g1).1 (xo g2).1 (xp g1).2 (xo g2).2
   rw [e3,e2]
noncomputable def Q4.Le (M:Nat) (x:Q4):Prop:=x.a.natAbs<=M/\x.b.natAbs<=M/\x.c.natAbs<=M/\x.d.natAbs<=M
theorem nS (a:Int) (t:Nat) (h:a=a / 2 ^ t*2 ^ t):(a / 2 ^ t).natAbs<=a.natAbs:=by
 have pw:=mR t
 have:a.natAbs=(a / 2 ^ t).natAbs*((2:Int) ^ t).natAbs:=by rw [<- Int.natAbs_mul,<- h]
 rw [this]
 exact Nat.le_mul_of_pos_right _ (by omega)
theorem oD {a b:Int} {M:Nat} (ha:a.natAbs<=M) (hb:b.natAbs<=M):((a+b) / 2).natAbs<=M:=by omega
theorem oB {a b:Int} {M:Nat} (ha:a.natAbs<=M) (hb:b.natAbs<=M):((a-b) / 2).natAbs<=M:=by omega
theorem B7 (x:Q4) (k:Int) (hk:0<=k) (M:Nat) (h:Q4.Le M x):Q4.Le M (num x k).1:=by
 obtain ⟨t,e,h1,ha,hb,hc,hd,h3⟩:=ny x.a x.b x.c x.d (k / 2) (by omega)
 have la:=Nat.le_trans (nS _ _ ha) h.1
 have lb:=Nat.le_trans (nS _ _ hb) h.2.1
 have lc:=Nat.le_trans (nS _ _ hc) h.2.2.1
 have ld:=Nat.le_trans (nS _ _ hd) h.2.2.2
 unfold num Q4.Le
 simp only [e,Int.toNat_natCast]
 split
 ·exact ⟨la,lb,lc,ld⟩
 ·exact ⟨oB lb ld,oD la lc,oD lb ld,oB lc la⟩
theorem gd {a b:Int} {M N:Nat} (ha:a.natAbs<=M) (hb:b.natAbs<=N):(a+b).natAbs<=M+N:=Nat.le_trans (Int.natAbs_add_le a b) (Nat.add_le_add ha hb)
theorem qe {a b:Int} {M N:Nat} (ha:a.natAbs<=M) (hb:b.natAbs<=N):(a-b).natAbs<=M+N:=Nat.le_trans (Int.natAbs_sub_le a b) (Nat.add_le_add ha hb)
theorem Kg {x:Q4} {M:Nat} (h:Q4.Le M x):Q4.Le (2*M) (Q4.rt x):=by
 obtain ⟨g1,g2,g3,g4⟩:=h
 rw [Nat.two_mul]
 unfold Q4.Le Q4.rt
 exact ⟨qe g2 g4,gd g1 g3,gd g2 g4,qe g3 g1⟩
theorem BD {x:Q4} {M:Nat}:∀ (n:Nat),Q4.Le M x->Q4.Le (2 ^ n*M) (Q4.rtn n x)
 | 0,h=>by simpa [Q4.rtn] using h
 | n+1,h=>by
  have:=Kg (BD n h)
  rw [Q4.rtn_succ]
  rw [Nat.pow_succ,Nat.mul_comm (2 ^ n) 2,Nat.mul_assoc]
  exact this
theorem Q4.Le.mono {x:Q4} {M N:Nat} (h:Q4.Le M x) (hl:M<=N):Q4.Le N x:=⟨Nat.le_trans h.1 hl,Nat.le_trans h.2.1 hl,Nat.le_trans h.2.2.1 hl,Nat.le_trans h.2.2.2 hl⟩
theorem add_le {x y:Q4} {M N:Nat} (h:Q4.Le M x) (h':Q4.Le N y):Q4.Le (M+N) (Q4.add x y):=
 ⟨gd h.1 h'.1,gd h.2.1 h'.2.1,gd h.2.2.1 h'.2.2.1,gd h.2.2.2 h'.2.2.2⟩
theorem yT {a b c d:Int} {M:Nat} (ha:a.natAbs<=M) (hb:b.natAbs<=M) (hc:c.natAbs<=M) (hd:d.natAbs<=M) (s t u:Int) (hs:s=b\/s = -b) (ht:t=c\/t = -c) (hu:u=d\/u = -d):(a+s+t+u).natAbs<=4*M:=by
 have h1:=Int.natAbs_add_le (a+s+t) u
 have h2:=Int.natAbs_add_le (a+s) t
 have h3:=Int.natAbs_add_le a s
 have e1:s.natAbs=b.natAbs:=by rcases hs with rfl | rfl <;> simp
 have e2:t.natAbs=c.natAbs:=by rcases ht with rfl | rfl <;> simp
 have e3:u.natAbs=d.natAbs:=by rcases hu with rfl | rfl <;> simp
 rw [e1] at h3
 rw [e2] at h2
 rw [e3] at h1
 generalize (a+s+t+u).natAbs=A at *
 generalize (a+s+t).natAbs=B at *
 generalize (a+s).natAbs=C at *
 generalize a.natAbs=a' at *
 generalize b.natAbs=b' at *
 generalize c.natAbs=c' at *
 generalize d.natAbs=d' at *
 omega
noncomputable def iR (x:Q4) (c:Int) (y:Q4) (d:Int):Q4×Int:=num (Q4.add (Q4.rtn (max c d-c).toNat x) (Q4.rtn (max c d-d).toNat y)) (max c d)
noncomputable def fG:Nat->Q4->Q4
 | 0,x=>x
 | n+1,x=>Q4.tn (fG n x)
theorem qg {x:Q4} {M:Nat}:∀ n:Nat,Q4.Le M x->Q4.Le M (fG n x)
 | 0,h=>h
 | n+1,h=>by
  obtain ⟨a,b,c,d⟩:=qg n h
  exact ⟨by simpa [fG,Q4.tn] using d,a,b,c⟩
theorem tn_odd {x:Q4}:Q4.Odd (Q4.tn x)↔Q4.Odd x:=by
 unfold Q4.Odd Q4.tn
 simp only
 omega
theorem yd {x:Q4}:∀ n:Nat,Q4.Odd (fG n x)↔Q4.Odd x
 | 0=>Iff.rfl
 | n+1=>tn_odd.trans (yd n)
theorem zu {x:Q4} {c:Int} (n:Nat) (h:Q4.Least x c):Q4.Least (fG n x) c:=⟨h.1,fun z=>(yd n).mpr (h.2 z)⟩
noncomputable def Is (x:Q4) (c:Nat) (u:Q4) (k:Nat):Prop:=Q4.Least x c/\Q4.rtn k x=Q4.rtn c u
theorem el (m n:Nat) (x:Q4):Q4.rtn m (Q4.rtn n x)=Q4.rtn n (Q4.rtn m x):=by rw [<- Q4.rtn_add,<- Q4.rtn_add,Nat.add_comm]
theorem Is.self {x:Q4} {c:Nat} (h:Q4.Least x c):Is x c x c:=⟨h,rfl⟩
theorem Is.one {x y u v:Q4} {c d k l:Nat} (hx:Is x c u k) (hy:Is y d v l) (h:Q4.rtn l u=Q4.rtn k v):x=y/\c=d:=by
 have e:Q4.rtn d x=Q4.rtn c y:=by
  refine Q4.rtn_inj (n:=k+l) ?_
  rw [Q4.rtn_add,Q4.rtn_add,el l d x,el k d,el k l,hx.2,el l c u,h,el l c y,hy.2,el k c,el k d v,el d c]
 exact Q4.Least.one (m:=c+d) hx.1 hy.1 (by omega) (by omega) (by rw [show c+d-c=d by omega,show c+d-d=c by omega]; exact e)
theorem IA (u:Q4) (k:Nat):∃ c:Nat,(num u k).2=c/\c<=k/\Is (num u k).1 c u k:=by
 obtain ⟨s1,s2,s3⟩:=ju u k (by omega)
 obtain ⟨c,hc⟩:∃ c:Nat,(num u k).2=c:=⟨(num u k).2.toNat,by have:=s1.1; omega⟩
 rw [hc] at s1 s2 s3
 refine ⟨c,hc,by omega,s1,?_⟩
 have e:((k:Int)-c).toNat=k-c:=by omega
 rw [e] at s3
 conv=>rhs; rw [<- s3]
 rw [<- Q4.rtn_add]
 congr 1
 omega
theorem Is.trans {x u v:Q4} {c k l:Nat} (h:Is x c u k) (e:Q4.rtn l u=Q4.rtn k v):Is x c v l:=by
 refine ⟨h.1,Q4.rtn_inj (n:=k) ?_⟩
 rw [el,h.2,el,e,el]
theorem Ho (n:Nat) (x:Q4):Q4.tn (Q4.rtn n x)=Q4.rtn n (Q4.tn x):=by
 induction n generalizing x with
 | zero=>rfl
 | succ n ih=>show Q4.tn (Q4.rtn n (Q4.rt x))=Q4.rtn n (Q4.rt (Q4.tn x)); rw [ih,Q4.tn_rt]
theorem yc (m n:Nat) (x:Q4):fG m (Q4.rtn n x)=Q4.rtn n (fG m x):=by
 induction m with
 | zero=>rfl
 | succ m ih=>show Q4.tn (fG m (Q4.rtn n x))=_; rw [ih,Ho]; rfl
theorem iM (m n:Nat) (x:Q4):fG (m+n) x=fG m (fG n x):=by
 induction m with
 | zero=>rw [Nat.zero_add]; rfl
 | succ m ih=>rw [Nat.succ_add]; show Q4.tn (fG (m+n) x)=_; rw [ih]; rfl
theorem Mb (x:Q4):fG 8 x=x:=by simp [fG,Q4.tn]
theorem iL (n:Nat) (x:Q4):fG (n % 8) x=fG n x:=by
 conv=>rhs; rw [<- Nat.mod_add_div n 8]
 rw [iM]
 congr 1
 generalize n / 8=q
 induction q with
 | zero=>rfl
 | succ q ih=>rw [Nat.mul_succ,iM,Mb]; exact ih
theorem ye (n:Nat) (x y:Q4):fG n (Q4.mul x y)=Q4.mul x (fG n y):=by
 induction n with
 | zero=>rfl
 | succ n ih=>show Q4.tn (fG n (Q4.mul x y))=_; rw [ih,Q4.tn_mul]; rfl
theorem BL {x y:Q4} {c d:Nat} {p r:Nat} (hx:Q4.Le (2 ^ p) x) (hy:Q4.Le (2 ^ p) y) (hc:c<=r) (hd:d<=r):Q4.Le (2 ^ (p+r+1)) (iR x c y d).1:=by
 have em:max (c:Int) d=((max c d:Nat):Int):=by omega
 unfold iR
 refine B7 _ _ (by omega) _ ?_
 have up:∀ (n:Nat) (z:Q4),n<=r->Q4.Le (2 ^ p) z->Q4.Le (2 ^ (p+r)) (Q4.rtn n z):=fun n z hn hz=>by
  refine (BD n hz).mono ?_
  rw [<- Nat.pow_add]
  exact Nat.pow_le_pow_right (by decide) (by omega)
 have:=add_le (up (max (c:Int) d-c).toNat x (by omega) hx) (up (max (c:Int) d-d).toNat y (by omega) hy)
 rw [Nat.pow_succ,Nat.mul_two]
 exact this
structure S2 where
 p:Int
 q:Int
namespace S2
theorem ext' {x y:S2} (h1:x.p=y.p) (h2:x.q=y.q):x=y:=by
 cases x; cases y; simp at h1 h2; subst h1 h2; rfl
noncomputable def add (x y:S2):S2:=⟨x.p+y.p,x.q+y.q⟩
noncomputable def mul (x y:S2):S2:=⟨x.p*y.p+2*x.q*y.q,x.p*y.q+x.q*y.p⟩
noncomputable def sc (n:Nat) (x:S2):S2:=⟨x.p*2 ^ n,x.q*2 ^ n⟩
theorem sc_add (m n:Nat) (x:S2):sc (m+n) x=sc m (sc n x):=by
 apply ext' <;> simp only [sc,Int.pow_add] <;> rw [Int.mul_assoc,Int.mul_comm (2 ^ n)]
theorem sc_swap (m n:Nat) (x:S2):sc m (sc n x)=sc n (sc m x):=by rw [<- sc_add,<- sc_add,Nat.add_comm]
theorem sc_inj {n:Nat} {x y:S2} (h:sc n x=sc n y):x=y:=by
 have pw:=mR n
 have h1:=congrArg S2.p h
 have h2:=congrArg S2.q h
 simp only [sc] at h1 h2
 exact ext' (Int.eq_of_mul_eq_mul_right (by omega) h1) (Int.eq_of_mul_eq_mul_right (by omega) h2)
theorem sc_addS (n:Nat) (x y:S2):sc n (add x y)=add (sc n x) (sc n y):=by apply ext' <;> simp only [sc,add,Int.add_mul]
noncomputable def Odd (x:S2):Prop:=¬ (x.p % 2=0/\x.q % 2=0)
theorem Ew (n:Nat) (x:S2):¬ Odd (sc (n+1) x):=by
 unfold Odd sc
 rw [Int.pow_succ,<- Int.mul_assoc,<- Int.mul_assoc]
 simp only
 omega
noncomputable def Least (x:S2) (c:Nat):Prop:=0<c->Odd x
theorem Least.one {x y:S2} {k l m:Nat} (hx:Least x k) (hy:Least y l) (h1:k<=m) (h2:l<=m) (h:sc (m-k) x=sc (m-l) y):x=y/\k=l:=by
 have key:∀ {x y:S2} {k l:Nat},Least y l->k<=m->l<=m->k<l->sc (m-k) x=sc (m-l) y->False:=by
  intro x y k l hy h1 h2 hlt h
  have e:m-k=(m-l)+(l-k):=by omega
  rw [e,sc_add] at h
  have h3:=sc_inj h
  obtain ⟨n,hn⟩:∃ n,l-k=n+1:=⟨l-k-1,by omega⟩
  rw [hn] at h3
  have:=hy (by omega)
  rw [<- h3] at this
  exact Ew _ _ this
 rcases Nat.lt_trichotomy k l with q | q | q
 ·exact (key hy h1 h2 q h).elim
 ·subst q; exact ⟨sc_inj h,rfl⟩
 ·exact (key hx h2 h1 q h.symm).elim
noncomputable def Le (M:Nat) (x:S2):Prop:=x.p.natAbs<=M/\x.q.natAbs<=M
theorem Le.mono {x:S2} {M N:Nat} (h:Le M x) (hl:M<=N):Le N x:=⟨Nat.le_trans h.1 hl,Nat.le_trans h.2 hl⟩
theorem add_le {x y:S2} {M N:Nat} (h:Le M x) (h':Le N y):Le (M+N) (add x y):=
 ⟨Nat.le_trans (Int.natAbs_add_le _ _) (Nat.add_le_add h.1 h'.1),Nat.le_trans (Int.natAbs_add_le _ _) (Nat.add_le_add h.2 h'.2)⟩
theorem sc_le {x:S2} {p:Nat} (n:Nat) (h:Le (2 ^ p) x):Le (2 ^ (p+n)) (sc n x):=by
 have e:((2:Int) ^ n).natAbs=2 ^ n:=by
  have:((2 ^ n:Nat):Int)=(2:Int) ^ n:=by simp
  rw [<- this,Int.natAbs_natCast]
 constructor
 ·show (x.p*2 ^ n).natAbs<=_
  rw [Int.natAbs_mul,e,Nat.pow_add]; exact Nat.mul_le_mul_right _ h.1
 ·show (x.q*2 ^ n).natAbs<=_
  rw [Int.natAbs_mul,e,Nat.pow_add]; exact Nat.mul_le_mul_right _ h.2
noncomputable def Is (x:S2) (c:Nat) (u:S2) (k:Nat):Prop:=Least x c/\sc k x=sc c u
theorem Is.one {x y u v:S2} {c d k l:Nat} (hx:Is x c u k) (hy:Is y d v l) (h:sc l u=sc k v):x=y/\c=d:=by
 have e:sc d x=sc c y:=by
  refine sc_inj (n:=k+l) ?_
  rw [sc_add,sc_add,sc_swap l d x,sc_swap k d,sc_swap k l,hx.2,sc_swap l c u,h,sc_swap l c y,hy.2,sc_swap k c,sc_swap k d v,sc_swap d c]
 exact Least.one (m:=c+d) hx.1 hy.1 (by omega) (by omega) (by rw [show c+d-c=d by omega,show c+d-d=c by omega]; exact e)
theorem Is.trans {x u v:S2} {c k l:Nat} (h:Is x c u k) (e:sc l u=sc k v):Is x c v l:=by
 refine ⟨h.1,sc_inj (n:=k) ?_⟩
 rw [sc_swap,h.2,sc_swap,e,sc_swap]
end S2
noncomputable def gb (x:Q4):S2:=⟨x.a*x.a+x.b*x.b+x.c*x.c+x.d*x.d,x.a*x.b+x.b*x.c+x.c*x.d-x.d*x.a⟩
theorem xf (x:Q4):gb (Q4.rt x)=S2.sc 1 (gb x):=by apply S2.ext' <;> simp only [gb,Q4.rt,S2.sc] <;> grind
theorem uu (n:Nat) (x:Q4):gb (Q4.rtn n x)=S2.sc n (gb x):=by
 induction n generalizing x with
 | zero=>apply S2.ext' <;> simp [Q4.rtn,S2.sc]
 | succ n ih=>show gb (Q4.rtn n (Q4.rt x))=_; rw [ih,xf,<- S2.sc_add]
theorem IH (x:Q4):gb (Q4.tn x)=gb x:=by apply S2.ext' <;> simp only [gb,Q4.tn] <;> grind
theorem ut (n:Nat) (x:Q4):gb (fG n x)=gb x:=by
 induction n with
 | zero=>rfl
 | succ n ih=>show gb (Q4.tn (fG n x))=_; rw [IH,ih]
theorem E7 (x y:Q4):S2.add (gb (Q4.add x y)) (gb (Q4.add x (Q4.neg y)))=S2.add (S2.add (gb x) (gb y)) (S2.add (gb x) (gb y)):=by
 apply S2.ext' <;> simp only [gb,Q4.add,Q4.neg,S2.add] <;> grind
theorem IJ {x:Q4} {M:Nat} (h:Q4.Le M x):S2.Le (4*(M*M)) (gb x):=by
 obtain ⟨g1,g2,g3,g4⟩:=h
 have m:∀ a b:Int,a.natAbs<=M->b.natAbs<=M->(a*b).natAbs<=M*M:=fun a b ha hb=>by rw [Int.natAbs_mul]; exact Nat.mul_le_mul ha hb
 constructor
 ·have:=yT (m _ _ g1 g1) (m _ _ g2 g2) (m _ _ g3 g3) (m _ _ g4 g4) _ _ _ (.inl rfl) (.inl rfl) (.inl rfl)
  simpa [gb] using this
 ·have:=yT (m _ _ g1 g2) (m _ _ g2 g3) (m _ _ g3 g4) (m _ _ g4 g1) _ _ _ (.inl rfl) (.inl rfl) (.inr rfl)
  simpa [gb,Int.sub_eq_add_neg] using this
theorem Gv {x u:Q4} {c k:Nat} (h:Is x c u k):S2.sc k (gb x)=S2.sc c (gb u):=by
 rw [<- uu,<- uu,h.2]
noncomputable abbrev Nu:=Q4×Nat
inductive Row where
 | swing (j:Nat) | turn (j:Nat) (e:Nat) | flip (j:Nat) | tie (i j:Nat) | sign (i j:Nat) | cross (i j:Nat)
noncomputable def cI (u v:Nu):Nu:=((iR u.1 u.2 v.1 v.2).1,(iR u.1 u.2 v.1 v.2).2.toNat)
noncomputable def dt (u:Nu):Nu:=((num u.1 ((u.2+1:Nat):Int)).1,(num u.1 ((u.2+1:Nat):Int)).2.toNat)
noncomputable def aG (e:Nat) (u:Nu):Nu:=(fG (e % 8) u.1,u.2)
noncomputable def wt (n j:Nat):Nat:=2 ^ (n-1-j)
noncomputable def au (w p:Nat):Nat:=p / w % 2
noncomputable def flp (w p:Nat):Nat:=if au w p=0 then p+w else p-w
noncomputable def eG (n:Nat):Row->Nat->Nat
 | .flip j,p=>flp (wt n j) p
 | .tie i j,p=>if au (wt n i) p=0 then p else flp (wt n j) p
 | .cross i j,p=>if au (wt n i) p=au (wt n j) p then p else flp (wt n j) (flp (wt n i) p)
 | _,p=>p
noncomputable def aN (n:Nat) (f:Nat->Nu):Row->Nat->Nu
 | .swing j,p=>if au (wt n j) p=0 then dt (cI (f p) (f (p+wt n j))) else dt (cI (f (p-wt n j)) (aG 4 (f p)))
 | .turn j e,p=>aG (e*au (wt n j) p) (f p)
 | .sign i j,p=>aG (4*au (wt n i) p*au (wt n j) p) (f p)
 | r,p=>f (eG n r p)
noncomputable def Row.ok (n:Nat):Row->Prop
 | .swing j=>j<n
 | .turn j e=>j<n/\1<=e/\e<=7
 | .flip j=>j<n
 | .tie i j=>i<n/\j<n/\i≠j
 | .sign i j=>i<n/\j<n/\i≠j
 | .cross i j=>i<n/\j<n/\i≠j
theorem bf (n j:Nat):0<wt n j:=Nat.pow_pos (by decide)
theorem A2 {n j:Nat} (h:j<n):2 ^ n=wt n j*2 ^ (j+1):=by
 unfold wt
 rw [<- Nat.pow_add]; congr 1; omega
theorem JU {n j:Nat} (h:j<n):2*wt n j<=2 ^ n:=by
 unfold wt
 rw [show 2*2 ^ (n-1-j)=2 ^ (n-1-j+1) by rw [Nat.pow_succ,Nat.mul_comm]]
 exact Nat.pow_le_pow_right (by decide) (by omega)
theorem bE (w p:Nat):au w p<2:=Nat.mod_lt _ (by decide)
theorem lD (w p:Nat) (hw:0<w):∃ q r,p=(2*q+au w p)*w+r/\r<w:=by
 refine ⟨p / w / 2,p % w,?_,Nat.mod_lt _ hw⟩
 unfold au
 rw [Nat.div_add_mod,Nat.div_add_mod']
theorem uS {w q b r:Nat} (hb:b<2) (hr:r<w):au w ((2*q+b)*w+r)=b:=by
 unfold au
 rw [Nat.mul_comm,Nat.mul_add_div (by omega),Nat.div_eq_of_lt hr]
 omega
theorem p4 {w p:Nat} (hw:0<w) (h:au w p=1):w<=p:=by
 obtain ⟨q,r,e,_⟩:=lD w p hw
 rw [h] at e
 have:(2*q+1)*w=2*q*w+w:=by rw [Nat.add_mul,Nat.one_mul]
 omega
theorem zc {n j p:Nat} (hj:j<n) (hp:p<2 ^ n) (h:au (wt n j) p=0):p+wt n j<2 ^ n:=by
 obtain ⟨q,r,e,hr⟩:=lD (wt n j) p (bf n j)
 rw [h] at e
 have h2:=A2 hj
 have hq:q<2 ^ j:=by
  refine Nat.lt_of_not_le fun z=>?_
  have:2*2 ^ j*wt n j<=2*q*wt n j:=Nat.mul_le_mul_right _ (by omega)
  have e2:wt n j*2 ^ (j+1)=2*2 ^ j*wt n j:=by rw [Nat.pow_succ,Nat.mul_comm,Nat.mul_comm (2 ^ j) 2]
  rw [Nat.add_zero] at e
  omega
 have:(2*q+2)*wt n j<=2*2 ^ j*wt n j:=Nat.mul_le_mul_right _ (by omega)
 have e2:wt n j*2 ^ (j+1)=2*2 ^ j*wt n j:=by rw [Nat.pow_succ,Nat.mul_comm,Nat.mul_comm (2 ^ j) 2]
 have e3:(2*q+2)*wt n j=2*q*wt n j+2*wt n j:=Nat.add_mul ..
 rw [Nat.add_zero] at e
 omega
theorem mq {n j p:Nat} (hj:j<n) (hp:p<2 ^ n):flp (wt n j) p<2 ^ n:=by
 unfold flp
 split
 ·exact zc hj hp (by assumption)
 ·omega
theorem pV {n p:Nat} {r:Row} (hr:r.ok n) (hp:p<2 ^ n):eG n r p<2 ^ n:=by
 cases r with
 | flip j=>exact mq hr hp
 | tie i j=>show (if _ then _ else _)<_; split; exact hp; exact mq hr.2.1 hp
 | cross i j=>show (if _ then _ else _)<_; split; exact hp; exact mq hr.2.1 (mq hr.1 hp)
 | _=>exact hp
theorem FQ {w p:Nat} (hw:0<w):flp w p / (2*w)=p / (2*w):=by
 obtain ⟨q,r,e,hr⟩:=lD w p hw
 have h2:=bE w p
 have e1:(2*q+au w p)*w=2*w*q+au w p*w:=by rw [Nat.add_mul,Nat.mul_right_comm]
 have one:∀ x,x<2*w->(2*w*q+x) / (2*w)=q:=fun x hx=>by rw [Nat.mul_add_div (by omega),Nat.div_eq_of_lt hx,Nat.add_zero]
 unfold flp
 split
 ·rename_i h
  rw [h] at e e1
  have a:=one (r+w) (by omega)
  have b:=one r (by omega)
  rw [show p+w=2*w*q+(r+w) by omega,a,show p=2*w*q+r by omega,b]
 ·rename_i h
  have h1:au w p=1:=by omega
  rw [h1] at e e1
  have a:=one (r+w) (by omega)
  have b:=one r (by omega)
  rw [show p-w=2*w*q+r by omega,b,show p=2*w*q+(r+w) by omega,a]
theorem tz (x p m:Nat) (hx:0<x):au x (p+2*x*m)=au x p:=by
 unfold au
 rw [show p+2*x*m=p+x*(2*m) by rw [Nat.mul_comm 2 x,Nat.mul_assoc],Nat.add_mul_div_left _ _ hx]
 omega
theorem hJ {n i j p:Nat} (hi:i<n) (hj:j<n) (hij:i≠j):au (wt n j) (flp (wt n i) p)=au (wt n j) p:=by
 have hw:=bf n i
 by_cases h:j<i
 ·
  have e:wt n j=2*wt n i*2 ^ (i-j-1):=by
   unfold wt
   rw [show 2*2 ^ (n-1-i)=2 ^ (n-1-i+1) by rw [Nat.pow_succ,Nat.mul_comm],<- Nat.pow_add]
   congr 1; omega
  unfold au
  rw [e,<- Nat.div_div_eq_div_mul (flp (wt n i) p) (2*wt n i),<- Nat.div_div_eq_div_mul p (2*wt n i),FQ hw]
 ·have e:wt n i=2*wt n j*2 ^ (j-i-1):=by
   unfold wt
   rw [show 2*2 ^ (n-1-j)=2 ^ (n-1-j+1) by rw [Nat.pow_succ,Nat.mul_comm],<- Nat.pow_add]
   congr 1; omega
  unfold flp
  split
  ·rw [e]; exact tz _ _ _ (bf n j)
  ·rename_i hb
   have h2:=bE (wt n i) p
   have:=p4 (w:=wt n i) (p:=p) hw (by omega)
   have:=tz (wt n j) (p-wt n i) (2 ^ (j-i-1)) (bf n j)
   rw [<- this,<- e,Nat.sub_add_cancel (by assumption)]
theorem cM {w p:Nat} (hw:0<w):au w (flp w p)=1-au w p:=by
 obtain ⟨q,r,e,hr⟩:=lD w p hw
 have h2:=bE w p
 unfold flp
 split
 ·rename_i h
  rw [h] at e
  rw [h,show p+w=(2*q+1)*w+r by rw [Nat.add_mul] at e ⊢; omega]
  exact uS (by decide) hr
 ·rename_i h
  have h1:au w p=1:=by omega
  rw [h1] at e
  rw [h1,show p-w=(2*q+0)*w+r by rw [Nat.add_mul] at e ⊢; omega]
  exact uS (by decide) hr
theorem lC {w p:Nat} (hw:0<w):flp w (flp w p)=p:=by
 have h:=cM (p:=p) hw
 have h2:=bE w p
 by_cases c:au w p=0
 ·have e:flp w p=p+w:=if_pos c
  rw [c] at h
  rw [e] at h ⊢
  unfold flp
  rw [if_neg (by omega)]; omega
 ·have c1:au w p=1:=by omega
  have e:flp w p=p-w:=if_neg c
  have:=p4 hw c1
  rw [c1] at h
  rw [e] at h ⊢
  unfold flp
  rw [if_pos (by omega)]; omega
theorem lI (a b:Nat):Builtin.bitAnd (a:Int) (b:Int)=((a &&& b:Nat):Int):=by
 unfold Builtin.bitAnd
 simp
theorem zp {x y z:Nat} (h:x / 2=y / 2+z / 2) (m:x % 2=y % 2+z % 2):x=y+z:=by omega
theorem Ag {u v w:Nat} {p q:Prop} (hu:u<2) (hv:v<2) (hw:w<2) (m1:u=1↔p\/q) (m2:v=1 ↔ ¬ (p↔q)) (m3:w=1↔p/\q):u=v+w:=by
 have z:∀ {x:Nat},x<2->¬ x=1->x=0:=fun h k=>by omega
 by_cases a:p <;> by_cases b:q
 ·rw [m1.mpr (.inl a),m3.mpr ⟨a,b⟩,z hv fun e=>m2.mp e ⟨fun _=>b,fun _=>a⟩]
 ·rw [m1.mpr (.inl a),m2.mpr fun e=>b (e.mp a),z hw fun e=>b (m3.mp e).2]
 ·rw [m1.mpr (.inr b),m2.mpr fun e=>a (e.mpr b),z hw fun e=>a (m3.mp e).1]
 ·rw [z hu fun e=>(m1.mp e).elim a b,z hv fun e=>m2.mp e ⟨fun c=>absurd c a,fun c=>absurd c b⟩,z hw fun e=>a (m3.mp e).1]
theorem rp:∀ (k a b:Nat),a<2 ^ k->b<2 ^ k->(a ||| b)=(a ^^^ b)+(a &&& b)
 | 0,a,b,ha,hb=>by
  have:a=0:=by simpa using ha
  have:b=0:=by simpa using hb
  subst a; subst b; rfl
 | k+1,a,b,ha,hb=>by
  have ih:=rp k (a / 2) (b / 2) (by rw [Nat.pow_succ] at ha; omega) (by rw [Nat.pow_succ] at hb; omega)
  have h1:=@Nat.or_div_two a b
  have h2:=@Nat.xor_div_two a b
  have h3:=@Nat.and_div_two a b
  have m1:=@Nat.or_mod_two_eq_one a b
  have m2:=@Nat.xor_mod_two_eq_one a b
  have m3:=@Nat.and_mod_two_eq_one a b
  rw [<- h1,<- h2,<- h3] at ih
  exact zp ih (Ag (Nat.mod_lt _ (by decide)) (Nat.mod_lt _ (by decide)) (Nat.mod_lt _ (by decide)) m1 m2 m3)
theorem Ls (a b:Nat):Builtin.bitOr (a:Int) (b:Int)=((a ||| b:Nat):Int):=by
 have h1:¬ (0:Int)<=Builtin.bitNot (a:Int):=by unfold Builtin.bitNot; omega
 have h2:¬ (0:Int)<=Builtin.bitNot (b:Int):=by unfold Builtin.bitNot; omega
 have e1:(Builtin.bitNot (Builtin.bitNot (a:Int))).toNat=a:=by unfold Builtin.bitNot; omega
 have e2:(Builtin.bitNot (Builtin.bitNot (b:Int))).toNat=b:=by unfold Builtin.bitNot; omega
 unfold Builtin.bitOr Builtin.bitAnd
 rw [decide_eq_false h1,decide_eq_false h2]
 dsimp only
 rw [e1,e2]
 unfold Builtin.bitNot
 omega
theorem ky (a b:Nat):Builtin.bitXor (a:Int) (b:Int)=((a ^^^ b:Nat):Int):=by
 unfold Builtin.bitXor
 rw [Ls,lI]
 have h:∀ n:Nat,n<2 ^ n:=fun n=>Nat.lt_two_pow_self
 have:=rp (max a b) a b (Nat.lt_of_lt_of_le (h a) (Nat.pow_le_pow_right (by decide) (by omega))) (Nat.lt_of_lt_of_le (h b) (Nat.pow_le_pow_right (by decide) (by omega)))
 omega
noncomputable def tf (n:Nat):Nat:=if n=0 then 0 else n % 2+tf (n / 2)
termination_by n
decreasing_by omega
theorem jB:tf 0=0:=by unfold tf; simp
theorem dM (n:Nat):tf n=n % 2+tf (n / 2):=by
 by_cases h:n=0
 ·subst h; simp [jB]
 ·rw [tf,if_neg h]
theorem CW:∀ (k n:Nat),n<2 ^ k->tf n<=k
 | 0,n,h=>by
  have:n=0:=by simpa using h
  subst this; rw [jB]; omega
 | k+1,n,h=>by
  have:=CW k (n / 2) (by rw [Nat.pow_succ] at h; omega)
  rw [dM]; omega
theorem sZ:∀ (k a b:Nat),a<2 ^ k->b<2 ^ k->tf (a ^^^ b) % 2=(tf a+tf b) % 2
 | 0,a,b,ha,hb=>by
  have:a=0:=by simpa using ha
  have:b=0:=by simpa using hb
  subst a; subst b; simp [jB]
 | k+1,a,b,ha,hb=>by
  have ih:=sZ k (a / 2) (b / 2) (by rw [Nat.pow_succ] at ha; omega) (by rw [Nat.pow_succ] at hb; omega)
  have h2:=@Nat.xor_div_two a b
  have m2:=@Nat.xor_mod_two_eq_one a b
  rw [dM (a ^^^ b),dM a,dM b,h2]
  omega
theorem vV (a b:Nat):∃ k,a<2 ^ k/\b<2 ^ k:=by
 have h:∀ n:Nat,n<2 ^ n:=fun n=>Nat.lt_two_pow_self
 exact ⟨max a b,Nat.lt_of_lt_of_le (h a) (Nat.pow_le_pow_right (by decide) (by omega)),Nat.lt_of_lt_of_le (h b) (Nat.pow_le_pow_right (by decide) (by omega))⟩
theorem F1 (a b:Nat):tf (a ^^^ b) % 2=(tf a+tf b) % 2:=by
 obtain ⟨k,h1,h2⟩:=vV a b
 exact sZ k a b h1 h2
theorem nW:∀ (k n:Nat),n<2 ^ k->n≠0->tf (n &&& (n-1))+1=tf n
 | 0,n,h,h0=>by
  have:n=0:=by simpa using h
  exact absurd this h0
 | k+1,n,h,h0=>by
  have h3:=@Nat.and_div_two n (n-1)
  have m3:=@Nat.and_mod_two_eq_one n (n-1)
  rw [dM (n &&& (n-1)),dM n,h3]
  by_cases o:n % 2=1
  ·have e:(n-1) / 2=n / 2:=by omega
   rw [e,Nat.and_self]
   omega
  ·have ih:=nW k (n / 2) (by rw [Nat.pow_succ] at h; omega) (by omega)
   have e:(n-1) / 2=n / 2-1:=by omega
   rw [e]
   omega
noncomputable def par (n:Nat):Nat:=tf n % 2
theorem jM (n:Nat):par n<2:=Nat.mod_lt _ (by decide)
theorem yB (a b:Nat):par (a ^^^ b)=(par a+par b) % 2:=by
 unfold par
 rw [F1]; omega
theorem eP:par 0=0:=by unfold par; rw [jB]
theorem qz {n:Nat} (h:n<64):par n=(n % 2+n / 2 % 2+n / 4 % 2+n / 8 % 2+n / 16 % 2+n / 32 % 2) % 2:=by
 unfold par
 rw [dM n,dM (n / 2),dM (n / 2 / 2),dM (n / 2 / 2 / 2),dM (n / 2 / 2 / 2 / 2),dM (n / 2 / 2 / 2 / 2 / 2),show n / 2 / 2 / 2 / 2 / 2 / 2=0 by omega,jB]
 simp only [Nat.div_div_eq_div_mul]
 omega
structure Wd where
 x:Nat
 z:Nat
 s:Nat
noncomputable def Wd.ok (n:Nat) (w:Wd):Prop:=w.x<2 ^ n/\w.z<2 ^ n/\w.s<4
noncomputable def bR (u v:Wd):Wd:=⟨u.x ^^^ v.x,u.z ^^^ v.z,(u.s+v.s+2*par (u.z &&& v.x)) % 4⟩
theorem fm {n:Nat} {u v:Wd} (hu:u.ok n) (hv:v.ok n):(bR u v).ok n:=⟨Nat.xor_lt_two_pow hu.1 hv.1,Nat.xor_lt_two_pow hu.2.1 hv.2.1,Nat.mod_lt _ (by decide)⟩
noncomputable def Sh (k:Nat) (d:PyData):Prop:=d.canLay0=true/\d.depth<=k
theorem Sh.int (k:Nat) (i:Int):Sh k (.int i):=⟨by simp [PyData.canLay0],by simp [PyData.depth]⟩
theorem Sh.all {k:Nat}:∀ (xs:List PyData),(∀ x∈xs,Sh k x)->PyData.canLayAll0 xs=true/\PyData.depthAll xs<=k
 | [],_=>⟨by simp [PyData.canLayAll0],by simp [PyData.depthAll]⟩
 | x::xs,h=>by
  obtain ⟨a,b⟩:=Sh.all xs fun y hy=>h y (List.mem_cons_of_mem _ hy)
  obtain ⟨c,d⟩:=h x List.mem_cons_self
  refine ⟨by simp [PyData.canLayAll0,a,c],?_⟩
  simp only [PyData.depthAll]
  omega
theorem Sh.tuple {k:Nat} {xs:List PyData} (h:∀ x∈xs,Sh k x):Sh (k+1) (.tuple xs):=by
 obtain ⟨a,b⟩:=Sh.all xs h
 exact ⟨by simp [PyData.canLay0,a],by simp only [PyData.depth]; omega⟩
theorem Sh.list {k:Nat} {xs:List PyData} (h:∀ x∈xs,Sh k x):Sh (k+1) (.list xs):=by
 obtain ⟨a,b⟩:=Sh.all xs h
 exact ⟨by simp [PyData.canLay0,a],by simp only [PyData.depth]; omega⟩
mutual
theorem wd:∀ d:PyData,d.canLay0=true->PyData.eqv d d=true
 | .none,_=>by simp [PyData.eqv]
 | .bool _,_=>by simp [PyData.eqv]
 | .int _,_=>by simp [PyData.eqv]
 | .str _,_=>by simp [PyData.eqv]
 | .list xs,h=>by
  simp only [PyData.eqv]
  exact eqvAll_self xs (by simpa [PyData.canLay0] using h)
 | .tuple xs,h=>by
  simp only [PyData.eqv]
  exact eqvAll_self xs (by simpa [PyData.canLay0] using h)
 | .dict _,h=>by simp [PyData.canLay0] at h
theorem eqvAll_self:∀ xs:List PyData,PyData.canLayAll0 xs=true->PyData.eqvAll xs xs=true
 | [],_=>by simp [PyData.eqvAll]
 | x::xs,h=>by
  have h':x.canLay0=true/\PyData.canLayAll0 xs=true:=by simpa [PyData.canLayAll0] using h
  simp only [PyData.eqvAll,wd x h'.1,eqvAll_self xs h'.2,Bool.and_self]
end
noncomputable def val (M:Nat) (u:Nu):Q4:=Q4.rtn (M-u.2) u.1
theorem yJ (x:Q4) (k M:Nat) (h:k<=M):Q4.rtn (M-(num x k).2.toNat) (num x k).1=Q4.rtn (M-k) x:=by
 obtain ⟨s1,s2,s3⟩:=ju x k (by omega)
 have h0:=s1.1
 have e:M-(num x (k:Int)).2.toNat=(M-k)+((k:Int)-(num x (k:Int)).2).toNat:=by omega
 rw [e,Q4.rtn_add,s3]
theorem gx (M e:Nat) (u:Nu):val M (aG e u)=fG (e % 8) (val M u):=by
 unfold val aG
 rw [yc]
theorem mH {M:Nat} {u v:Nu} (hu:u.2<=M) (hv:v.2<=M):val M (cI u v)=Q4.add (val M u) (val M v):=by
 unfold val cI iR
 have hk:max (u.2:Int) v.2=((max u.2 v.2:Nat):Int):=by omega
 rw [hk]
 simp only
 rw [yJ _ _ M (by omega),Q4.rtn_addQ,<- Q4.rtn_add,<- Q4.rtn_add]
 congr 2 <;> congr 1 <;> omega
theorem mI {M:Nat} {u:Nu} (hu:u.2+1<=M):Q4.rt (val M (dt u))=val M u:=by
 unfold val dt
 rw [yJ _ _ M hu,<- Q4.rtn_succ]
 congr 1
 omega
theorem DW (M:Nat) (u:Nu):val M (aG 4 u)=Q4.neg (val M u):=by
 rw [gx]
 show Q4.tn (Q4.tn (Q4.tn (Q4.tn (val M u))))=_
 unfold Q4.tn Q4.neg
 rfl
noncomputable def cH (u:Nu):Prop:=Q4.Least u.1 u.2
theorem xY {M:Nat} {u v:Nu} (hu:cH u) (hv:cH v) (h1:u.2<=M) (h2:v.2<=M) (h:val M u=val M v):u=v:=by
 obtain ⟨a,b⟩:=Q4.Least.one hu hv h1 h2 h
 exact Prod.ext a b
theorem Ab (x:Q4) (k:Nat):cH ((num x k).1,(num x k).2.toNat):=by
 obtain ⟨s1,s2,s3⟩:=ju x k (by omega)
 show Q4.Least (num x k).1 ((num x k).2.toNat:Int)
 rw [Int.toNat_of_nonneg s1.1]; exact s1
theorem xq (u:Nu):cH (dt u):=Ab _ _
theorem lT {u:Nu} (e:Nat) (h:cH u):cH (aG e u):=zu _ h
theorem ii {f:Nat->Nu} (h:∀ p,cH (f p)) (n:Nat) (r:Row) (p:Nat):cH (aN n f r p):=by
 cases r with
 | swing j=>
  show cH (if au (wt n j) p=0 then _ else _)
  split <;> exact xq _
 | turn j e=>exact lT _ (h p)
 | sign i j=>exact lT _ (h p)
 | flip j=>exact h _
 | tie i j=>exact h _
 | cross i j=>exact h _
noncomputable def bS:Nat->(Nat->Int)->Int
 | 0,_=>0
 | n+1,F=>bS n F+F n
theorem aT {F G:Nat->Int}:∀ (n:Nat),(∀ p,p<n->F p=G p)->bS n F=bS n G
 | 0,_=>rfl
 | n+1,h=>by
  show bS n F+F n=bS n G+G n
  rw [aT n fun p hp=>h p (by omega),h n (by omega)]
theorem ic (F G:Nat->Int):∀ n:Nat,bS n (fun p=>F p+G p)=bS n F+bS n G
 | 0=>rfl
 | n+1=>by
  show bS n _+(F n+G n)=bS n F+F n+(bS n G+G n)
  rw [ic F G n]; omega
theorem lW (F:Nat->Int) (a:Nat):∀ b:Nat,bS (a+b) F=bS a F+bS b (fun r=>F (a+r))
 | 0=>by show bS a F=bS a F+0; omega
 | b+1=>by
  show bS (a+b) F+F (a+b)=_+(bS b _+F (a+b))
  rw [lW F a b]; omega
theorem vp (F:Nat->Int) (b:Nat):∀ a:Nat,bS (a*b) F=bS a (fun q=>bS b (fun r=>F (q*b+r)))
 | 0=>by rw [Nat.zero_mul]; rfl
 | a+1=>by
  rw [Nat.succ_mul,lW,vp F b a]; rfl
theorem vk {n j:Nat} (hj:j<n) {F G:Nat->Int} (h:∀ p,p<2 ^ n->au (wt n j) p=0->G p+G (p+wt n j)=F p+F (p+wt n j)):bS (2 ^ n) G=bS (2 ^ n) F:=by
 have hw:=bf n j
 have e:2 ^ n=2 ^ j*(wt n j+wt n j):=by
  rw [A2 hj,Nat.pow_succ,Nat.mul_comm,Nat.mul_assoc,Nat.mul_comm 2,Nat.mul_two]
 have two:∀ H:Nat->Int,bS (2 ^ n) H=bS (2 ^ j) (fun q=>bS (wt n j) (fun r=>H (q*(wt n j+wt n j)+r)+H (q*(wt n j+wt n j)+r+wt n j))):=fun H=>by
  rw [e,vp]
  refine aT _ fun q _=>?_
  rw [lW,<- ic]
  refine aT _ fun r _=>?_
  rw [<- Nat.add_assoc,Nat.add_right_comm]
 rw [two G,two F]
 refine aT _ fun q hq=>aT _ fun r hr=>?_
 have e2:q*(wt n j+wt n j)+r=(2*q+0)*wt n j+r:=by
  rw [Nat.add_zero,Nat.mul_add,<- Nat.add_mul,<- Nat.two_mul]
 have hb:au (wt n j) (q*(wt n j+wt n j)+r)=0:=by rw [e2]; exact uS (by decide) hr
 have hl:q*(wt n j+wt n j)+r<2 ^ n:=by
  have:(q+1)*(wt n j+wt n j)<=2 ^ j*(wt n j+wt n j):=Nat.mul_le_mul_right _ hq
  rw [Nat.succ_mul] at this
  omega
 exact h _ hl hb
theorem qj {n j:Nat} (hj:j<n) (c:Nat->Bool) (hc:∀ p,c (flp (wt n j) p)=c p) (F:Nat->Int):bS (2 ^ n) (fun p=>F (if c p=true then flp (wt n j) p else p))=bS (2 ^ n) F:=by
 refine vk hj fun p hp hb=>?_
 have e:flp (wt n j) p=p+wt n j:=if_pos hb
 have hc:=hc p
 rw [e] at hc
 have hw:=bf n j
 have e2:flp (wt n j) (p+wt n j)=p:=by rw [<- e]; exact lC hw
 rw [hc,e,e2]
 by_cases h:c p=true
 ·rw [if_pos h,if_pos h]; omega
 ·rw [if_neg h,if_neg h]
theorem pJ {n i j:Nat} (hi:i<n) (hj:j<n) (hij:i≠j) (F:Nat->Int):bS (2 ^ n) (fun p=>F (eG n (.tie i j) p))=bS (2 ^ n) F:=by
 have:=qj hj (fun p=>!(au (wt n i) p==0)) (fun p=>by rw [hJ hj hi (Ne.symm hij)]) F
 rw [<- this]
 refine aT _ fun p _=>?_
 show F (if au (wt n i) p=0 then p else flp (wt n j) p)=_
 by_cases h:au (wt n i) p=0 <;> simp [h]
theorem FR {w p:Nat} (hw:0<w):((flp w p:Nat):Int)=(p:Int)+w-2*((w*au w p:Nat):Int):=by
 have h2:=bE w p
 unfold flp
 by_cases h:au w p=0
 ·rw [if_pos h,h]; omega
 ·have h1:au w p=1:=by omega
  have:=p4 hw h1
  rw [if_neg h,h1]; omega
theorem wb {n i j p:Nat} (hi:i<n) (hj:j<n) (hij:i≠j):flp (wt n j) (flp (wt n i) p)=flp (wt n i) (flp (wt n j) p):=by
 have a:=FR (p:=flp (wt n i) p) (bf n j)
 have b:=FR (p:=flp (wt n j) p) (bf n i)
 rw [hJ hi hj hij,FR (bf n i)] at a
 rw [hJ hj hi (Ne.symm hij),FR (bf n j)] at b
 omega
theorem zx {n i j:Nat} (hi:i<n) (hj:j<n) (hij:i≠j) (F:Nat->Int):bS (2 ^ n) (fun p=>F (eG n (.cross i j) p))=bS (2 ^ n) F:=by
 have h1:=pJ hi hj hij (fun p=>F (eG n (.tie i j) (eG n (.tie j i) p)))
 have h2:=pJ hj hi (Ne.symm hij) (fun p=>F (eG n (.tie i j) p))
 have h3:=pJ hi hj hij F
 rw [<- h3,<- h2,<- h1]
 refine aT _ fun p _=>?_
 have hwi:=bf n i
 have hwj:=bf n j
 have a1:=bE (wt n i) p
 have a2:=bE (wt n j) p
 have f1:=hJ (p:=p) hj hi (Ne.symm hij)
 have f2:=cM (p:=p) hwj
 have f3:=hJ (p:=p) hi hj hij
 have f4:=cM (p:=p) hwi
 congr 1
 show (if au (wt n i) p=au (wt n j) p then p else flp (wt n j) (flp (wt n i) p))=_
 have b1:au (wt n i) p=0\/au (wt n i) p=1:=by omega
 have b2:au (wt n j) p=0\/au (wt n j) p=1:=by omega
 have comm:flp (wt n j) (flp (wt n i) p)=flp (wt n i) (flp (wt n j) p):=wb hi hj hij
 have on:∀ {i j p:Nat},au (wt n i) p=1->eG n (.tie i j) p=flp (wt n j) p:=fun {i j p} h=>by
  show (if au (wt n i) p=0 then p else flp (wt n j) p)=_
  rw [h]; rfl
 have off:∀ {i j p:Nat},au (wt n i) p=0->eG n (.tie i j) p=p:=fun {i j p} h=>if_pos h
 rcases b1 with b1 | b1 <;> rcases b2 with b2 | b2
 ·rw [if_pos (by rw [b1,b2]),off b1,off b2,off b1]
 ·rw [if_neg (by rw [b1,b2]; decide),off b1,on b2,on (by rw [f4,b1])]
 ·rw [if_neg (by rw [b1,b2]; decide),on b1,on (i:=j) (by rw [f2,b2]),off (by rw [cM hwi,f1,b1]),comm]
 ·rw [if_pos (by rw [b1,b2]),on b1,off (i:=j) (by rw [f2,b2]),on (by rw [f1,b1]),lC hwj]
theorem gh (u v:Nu):(cI u v).2<=max u.2 v.2:=by
 have hk:max (u.2:Int) v.2=((max u.2 v.2:Nat):Int):=by omega
 unfold cI iR
 rw [hk]
 obtain ⟨s1,s2,s3⟩:=ju (Q4.add (Q4.rtn (((max u.2 v.2:Nat):Int)-u.2).toNat u.1) (Q4.rtn (((max u.2 v.2:Nat):Int)-v.2).toNat v.1)) ((max u.2 v.2:Nat):Int) (by omega)
 show (num _ _).2.toNat<=_
 omega
theorem vP {x y s t:Q4} (h1:Q4.rt x=Q4.add s t) (h2:Q4.rt y=Q4.add s (Q4.neg t)):S2.add (gb x) (gb y)=S2.add (gb s) (gb t):=by
 apply S2.sc_inj (n:=1)
 rw [S2.sc_addS,<- xf,<- xf,h1,h2,E7]
 apply S2.ext' <;> simp only [S2.add,S2.sc] <;> omega
noncomputable def kg (M n:Nat) (f:Nat->Nu):S2:=⟨bS (2 ^ n) (fun p=>(gb (val M (f p))).p),bS (2 ^ n) (fun p=>(gb (val M (f p))).q)⟩
theorem vm {n M:Nat} (r:Row) (hr:r.ok n) (f:Nat->Nu) (hf:∀ p,(f p).2+1<=M) (F:Q4->Int) (ht:∀ e x,F (fG e x)=F x) (hp:∀ x y s t,Q4.rt x=Q4.add s t->Q4.rt y=Q4.add s (Q4.neg t)->F x+F y=F s+F t):bS (2 ^ n) (fun p=>F (val M (aN n f r p)))=bS (2 ^ n) (fun p=>F (val M (f p))):=by
 cases r with
 | swing j=>
  refine vk hr fun p hp' hb=>?_
  have hw:=bf n j
  have hb1:au (wt n j) (p+wt n j)=1:=by
   have:=cM (p:=p) hw
   rw [show flp (wt n j) p=p+wt n j from if_pos hb,hb] at this
   exact this
  have e1:aN n f (.swing j) p=dt (cI (f p) (f (p+wt n j))):=if_pos hb
  have e2:aN n f (.swing j) (p+wt n j)=dt (cI (f (p+wt n j-wt n j)) (aG 4 (f (p+wt n j)))):=if_neg (by rw [hb1]; decide)
  rw [Nat.add_sub_cancel] at e2
  rw [e1,e2]
  have a:=hf p
  have b:=hf (p+wt n j)
  have l1:(cI (f p) (f (p+wt n j))).2<=max (f p).2 (f (p+wt n j)).2:=gh _ _
  have l2:(cI (f p) (aG 4 (f (p+wt n j)))).2<=max (f p).2 (f (p+wt n j)).2:=gh _ _
  refine hp _ _ _ _ ?_ ?_
  ·rw [mI (by omega),mH (by omega) (by omega)]
  ·rw [mI (by omega),mH (by omega) (by show (f (p+wt n j)).2<=M; omega),DW]
 | turn j e=>exact aT _ fun p _=>by show F (val M (aG _ (f p)))=_; rw [gx,ht]
 | sign i j=>exact aT _ fun p _=>by show F (val M (aG _ (f p)))=_; rw [gx,ht]
 | flip j=>
  have:=qj hr (fun _=>true) (fun _=>rfl) (fun p=>F (val M (f p)))
  exact this
 | tie i j=>exact pJ hr.1 hr.2.1 hr.2.2 (fun p=>F (val M (f p)))
 | cross i j=>exact zx hr.1 hr.2.1 hr.2.2 (fun p=>F (val M (f p)))
theorem Ad {n M:Nat} (r:Row) (hr:r.ok n) (f:Nat->Nu) (hf:∀ p,(f p).2+1<=M):kg M n (aN n f r)=kg M n f:=by
 apply S2.ext'
 ·exact vm r hr f hf (fun x=>(gb x).p) (fun e x=>by rw [ut]) fun x y s t h1 h2=>by
   have:=congrArg S2.p (vP h1 h2); exact this
 ·exact vm r hr f hf (fun x=>(gb x).q) (fun e x=>by rw [ut]) fun x y s t h1 h2=>by
   have:=congrArg S2.q (vP h1 h2); exact this
noncomputable def mK (N:Nat) (F:Nat->Q4):Q4:=⟨bS N (fun p=>(F p).a),bS N (fun p=>(F p).b),bS N (fun p=>(F p).c),bS N (fun p=>(F p).d)⟩
theorem nC (N:Nat) (F:Nat->Q4):mK (N+1) F=Q4.add (mK N F) (F N):=rfl
theorem lV {F G:Nat->Q4} (N:Nat) (h:∀ p,p<N->F p=G p):mK N F=mK N G:=by
 apply Q4.ext'
 ·exact aT N fun p hp=>by rw [h p hp]
 ·exact aT N fun p hp=>by rw [h p hp]
 ·exact aT N fun p hp=>by rw [h p hp]
 ·exact aT N fun p hp=>by rw [h p hp]
theorem mul_two (s t s' t':Q4):Q4.add (Q4.mul (Q4.mir (Q4.add s t)) (Q4.add s' t')) (Q4.mul (Q4.mir (Q4.add s (Q4.neg t))) (Q4.add s' (Q4.neg t')))=Q4.dbl 2 (Q4.add (Q4.mul (Q4.mir s) s') (Q4.mul (Q4.mir t) t')):=by
 apply Q4.ext' <;> simp only [Q4.mul,Q4.mir,Q4.add,Q4.neg,Q4.dbl] <;> grind
theorem vw:∀ k,Q4.rtn k ⟨0,0,0,0⟩=⟨0,0,0,0⟩
 | 0=>rfl
 | k+1=>by rw [Q4.rtn_succ,vw k]; rfl
theorem yl (F:Nat->Q4):∀ N:Nat,Q4.rt (mK N F)=mK N (fun p=>Q4.rt (F p))
 | 0=>by apply Q4.ext' <;> rfl
 | N+1=>by rw [nC,Q4.rt_add,yl F N]; rfl
theorem Hq (x y:Q4):Q4.tn (Q4.add x y)=Q4.add (Q4.tn x) (Q4.tn y):=by apply Q4.ext' <;> simp only [Q4.tn,Q4.add] <;> omega
theorem vj (e:Nat):∀ (x y:Q4),fG e (Q4.add x y)=Q4.add (fG e x) (fG e y):=by
 induction e with
 | zero=>intro x y; rfl
 | succ e ih=>
  intro x y
  have e1:∀ z,fG (e+1) z=fG e (Q4.tn z):=fun z=>by rw [iM e 1 z]; rfl
  rw [e1,e1,e1,Hq,ih]
theorem Ba (e:Nat):fG e ⟨0,0,0,0⟩=⟨0,0,0,0⟩:=by
 induction e with
 | zero=>rfl
 | succ e ih=>
  have e1:∀ z,fG (e+1) z=fG e (Q4.tn z):=fun z=>by rw [iM e 1 z]; rfl
  rw [e1]
  exact ih
theorem qk (e:Nat) (F:Nat->Q4):∀ N:Nat,fG e (mK N F)=mK N (fun p=>fG e (F p))
 | 0=>Ba e
 | N+1=>by rw [nC,vj,qk e F N]; rfl
theorem vo (F G:Nat->Q4) (N:Nat):mK N (fun p=>Q4.add (F p) (G p))=Q4.add (mK N F) (mK N G):=by
 apply Q4.ext'
 ·exact ic (fun p=>(F p).a) (fun p=>(G p).a) N
 ·exact ic (fun p=>(F p).b) (fun p=>(G p).b) N
 ·exact ic (fun p=>(F p).c) (fun p=>(G p).c) N
 ·exact ic (fun p=>(F p).d) (fun p=>(G p).d) N
theorem fo {n M j:Nat} {f:Nat->Nu} (hf:∀ p,(f p).2+1<=M) (x:Nat):Q4.rt (val M (aN n f (.swing j) x))=if au (wt n j) x=0 then Q4.add (val M (f x)) (val M (f (x+wt n j))) else Q4.add (val M (f (x-wt n j))) (fG 4 (val M (f x))):=by
 show Q4.rt (val M (if au (wt n j) x=0 then dt (cI (f x) (f (x+wt n j))) else dt (cI (f (x-wt n j)) (aG 4 (f x)))))=_
 split
 ·have a:=hf x
  have b:=hf (x+wt n j)
  have l:=gh (f x) (f (x+wt n j))
  rw [mI (by omega),mH (by omega) (by omega)]
 ·have a:=hf x
  have b:=hf (x-wt n j)
  have l:(cI (f (x-wt n j)) (aG 4 (f x))).2<=max (f (x-wt n j)).2 (f x).2:=gh _ _
  rw [mI (by omega),mH (by omega) (by show (f x).2<=M; omega),gx]
noncomputable def Sup (N M K:Nat) (a:Nat->Q4) (c:Nat->Nat->Nu) (g:Nat->Nu):Prop:=∀ x,val N (g x)=mK K (fun p=>Q4.mul (a p) (val M (c p x)))
theorem Sup.done {n N M K:Nat} {a:Nat->Q4} {c:Nat->Nat->Nu} {g:Nat->Nu} (h:Sup N M K a c g) (hg:∀ p,(g p).2+1<=N) (hc:∀ p x,(c p x).2+1<=M) (r:Row):Sup N M K a (fun p=>aN n (c p) r) (aN n g r):=by
 have tm:∀ (e:Nat) (x:Nat),val N (aG e (g x))=mK K (fun p=>Q4.mul (a p) (val M (aG e (c p x)))):=fun e x=>by
  rw [gx,h x,qk]
  refine lV _ fun p _=>?_
  rw [ye,gx]
 intro x
 cases r with
 | swing j=>
  apply Q4.rt_inj
  rw [fo hg x,yl]
  have e:∀ p,Q4.rt (Q4.mul (a p) (val M (aN n (c p) (.swing j) x)))=Q4.mul (a p) (if au (wt n j) x=0 then Q4.add (val M (c p x)) (val M (c p (x+wt n j))) else Q4.add (val M (c p (x-wt n j))) (fG 4 (val M (c p x)))):=fun p=>by
   rw [<- fo (hc p) x,Q4.mul_comm,Q4.rt_mul,Q4.mul_comm]
  simp only [e]
  split
  ·rw [h x,h (x+wt n j),<- vo]
   exact lV _ fun p _=>by rw [Q4.mul_add]
  ·rw [h x,h (x-wt n j),qk,<- vo]
   exact lV _ fun p _=>by rw [Q4.mul_add,ye]
 | turn j e=>exact tm _ x
 | sign i j=>exact tm _ x
 | flip j=>exact h _
 | tie i j=>exact h _
 | cross i j=>exact h _
noncomputable def dH (p:Nat):Nat->Nu:=fun q=>if q=p then (⟨1,0,0,0⟩,0) else (⟨0,0,0,0⟩,0)
theorem vn {F:Nat->Q4} {x:Nat} (hF:∀ p,p≠x->F p=⟨0,0,0,0⟩):∀ N:Nat,mK N F=if x<N then F x else ⟨0,0,0,0⟩
 | 0=>by rw [if_neg (by omega)]; apply Q4.ext' <;> rfl
 | N+1=>by
  rw [nC,vn hF N]
  by_cases h:x<N
  ·rw [if_pos h,if_pos (by omega),hF N (by omega)]
   apply Q4.ext' <;> simp [Q4.add]
  ·by_cases h2:x=N
   ·subst h2
    rw [if_neg h,if_pos (by omega)]
    apply Q4.ext' <;> simp [Q4.add]
   ·rw [if_neg h,if_neg (by omega),hF N (Ne.symm h2)]
    apply Q4.ext' <;> simp [Q4.add]
theorem Ae (x:Q4):Q4.mul x ⟨0,0,0,0⟩=⟨0,0,0,0⟩:=by apply Q4.ext' <;> simp [Q4.mul]
theorem Ca (x:Q4):Q4.mul x ⟨1,0,0,0⟩=x:=by apply Q4.ext' <;> simp [Q4.mul]
theorem qb (M:Nat):val M (⟨0,0,0,0⟩,0)=⟨0,0,0,0⟩:=vw _
theorem Sup.start {n M:Nat} (s:Nat->Nu) (hs:∀ p,(s p).2<=M) (hz:∀ p,2 ^ n<=p->s p=(⟨0,0,0,0⟩,0)):Sup (M+M) M (2 ^ n) (fun p=>val M (s p)) dH s:=by
 intro x
 have hF:∀ p,p≠x->Q4.mul (val M (s p)) (val M (dH p x))=⟨0,0,0,0⟩:=fun p hp=>by
  unfold dH
  rw [if_neg (Ne.symm hp),qb,Ae]
 rw [vn hF]
 by_cases h:x<2 ^ n
 ·rw [if_pos h]
  unfold dH
  rw [if_pos rfl]
  unfold val
  have:=hs x
  show Q4.rtn (M+M-(s x).2) (s x).1=Q4.mul (Q4.rtn (M-(s x).2) (s x).1) (Q4.rtn (M-0) ⟨1,0,0,0⟩)
  rw [<- Q4.rtn_mul2,Ca]
  congr 1
  omega
 ·rw [if_neg h,hz x (by omega),qb]
theorem zS (p x:Nat):cH (dH p x):=by
 unfold dH
 split
 ·exact ⟨Int.le_refl 0,fun z=>absurd z (Int.lt_irrefl 0)⟩
 ·exact ⟨Int.le_refl 0,fun z=>absurd z (Int.lt_irrefl 0)⟩
theorem Mj:((List.range 6).all fun k=>(List.range 64).all fun p=>p &&& 2 ^ k==2 ^ k*au (2 ^ k) p)=true:=by decide +kernel
theorem oK {n i a:Nat} (hn:n<=6) (hi:i<n) (ha:a<2 ^ n):a &&& wt n i=wt n i*au (wt n i) a:=by
 have h:=Mj
 rw [List.all_eq_true] at h
 have h:=h (n-1-i) (List.mem_range.mpr (by omega))
 rw [List.all_eq_true] at h
 have h:=h a (List.mem_range.mpr (Nat.lt_of_lt_of_le ha (Nat.pow_le_pow_right (by decide) hn:2 ^ n<=2 ^ 6)))
 exact beq_iff_eq.mp h
theorem EM:∀ k,k<6->par (2 ^ k)=1
 | 0,_=>by rw [qz (by decide)]
 | 1,_=>by rw [qz (by decide)]
 | 2,_=>by rw [qz (by decide)]
 | 3,_=>by rw [qz (by decide)]
 | 4,_=>by rw [qz (by decide)]
 | 5,_=>by rw [qz (by decide)]
 | k+6,h=>by omega
theorem xU (a b:Nat):∀ k,(a ^^^ b) / 2 ^ k=a / 2 ^ k ^^^ b / 2 ^ k
 | 0=>by simp
 | k+1=>by
  rw [Nat.pow_succ,<- Nat.div_div_eq_div_mul,<- Nat.div_div_eq_div_mul,<- Nat.div_div_eq_div_mul,xU a b k,Nat.xor_div_two]
theorem aF (n i a b:Nat):au (wt n i) (a ^^^ b)=(au (wt n i) a+au (wt n i) b) % 2:=by
 unfold au wt
 rw [xU]
 have:=@Nat.xor_mod_two_eq_one (a / 2 ^ (n-1-i)) (b / 2 ^ (n-1-i))
 omega
theorem kz (w:Nat):au w 0=0:=by unfold au; simp
theorem kA {n i:Nat} (e:Nat) (he:e<2):au (wt n i) (wt n i*e)=e:=by
 have:=uS (w:=wt n i) (q:=0) (b:=e) (r:=0) he (bf n i)
 rw [show (2*0+e)*wt n i+0=wt n i*e by rw [Nat.mul_zero,Nat.zero_add,Nat.add_zero,Nat.mul_comm]] at this
 exact this
theorem jd {n i j:Nat} (hi:i<n) (hj:j<n) (hij:i≠j) (e:Nat) (he:e<2):au (wt n i) (wt n j*e)=0:=by
 have h:e=0\/e=1:=by omega
 rcases h with rfl | rfl
 ·rw [Nat.mul_zero,kz]
 ·have:=hJ (p:=0) hj hi (Ne.symm hij)
  rw [show flp (wt n j) 0=wt n j by unfold flp; rw [if_pos (kz _),Nat.zero_add],kz] at this
  rw [Nat.mul_one]; exact this
theorem dE {n i z:Nat} (hn:n<=6) (hi:i<n) (hz:z<2 ^ n) (e:Nat) (he:e<2):par ((wt n i*e) &&& z)=e*au (wt n i) z:=by
 have h:e=0\/e=1:=by omega
 have hb:=bE (wt n i) z
 rcases h with rfl | rfl
 ·rw [Nat.mul_zero,Nat.zero_and,eP,Nat.zero_mul]
 ·rw [Nat.mul_one,Nat.and_comm,oK hn hi hz,Nat.one_mul]
  have h2:au (wt n i) z=0\/au (wt n i) z=1:=by omega
  rcases h2 with h2 | h2
  ·rw [h2,Nat.mul_zero,eP]
  ·rw [h2,Nat.mul_one]; exact EM _ (by omega)
theorem jr (a b c:Nat):par ((a ^^^ b) &&& c)=(par (a &&& c)+par (b &&& c)) % 2:=by rw [Nat.and_xor_distrib_right,yB]
theorem iS (a b c:Nat):par (a &&& (b ^^^ c))=(par (a &&& b)+par (a &&& c)) % 2:=by rw [Nat.and_xor_distrib_left,yB]
theorem j8 {n i z:Nat} (hn:n<=6) (hi:i<n) (hz:z<2 ^ n) (e:Nat) (he:e<2):par (z &&& (wt n i*e))=e*au (wt n i) z:=by rw [Nat.and_comm]; exact dE hn hi hz e he
theorem w_lt {n i:Nat} (hi:i<n) (e:Nat) (he:e<2):wt n i*e<2 ^ n:=by
 have h:=JU hi
 have h0:=bf n i
 have:e=0\/e=1:=by omega
 rcases this with rfl | rfl
 ·have:0<2 ^ n:=Nat.pow_pos (by decide)
  omega
 ·omega
theorem lK (w a b:Nat) (ha:a<2) (hb:b<2):w*((a+b) % 2)=w*a ^^^ w*b:=by
 have h1:a=0\/a=1:=by omega
 have h2:b=0\/b=1:=by omega
 rcases h1 with rfl | rfl <;> rcases h2 with rfl | rfl <;> simp
noncomputable def carry (n:Nat):Row->Wd->Wd
 | .swing j,u=>⟨u.x ^^^ wt n j*((au (wt n j) u.x+au (wt n j) u.z) % 2),u.z ^^^ wt n j*((au (wt n j) u.x+au (wt n j) u.z) % 2),(u.s+2*(au (wt n j) u.x*au (wt n j) u.z)) % 4⟩
 | .turn j e,u=>⟨u.x,u.z ^^^ wt n j*(au (wt n j) u.x*(if e % 4=2 then 1 else 0)),(u.s+(e / 2)*au (wt n j) u.x) % 4⟩
 | .flip j,u=>⟨u.x,u.z,(u.s+2*au (wt n j) u.z) % 4⟩
 | .tie i j,u=>⟨u.x ^^^ wt n j*au (wt n i) u.x,u.z ^^^ wt n i*au (wt n j) u.z,u.s⟩
 | .sign i j,u=>⟨u.x,u.z ^^^ wt n j*au (wt n i) u.x ^^^ wt n i*au (wt n j) u.x,(u.s+2*(au (wt n i) u.x*au (wt n j) u.x)) % 4⟩
 | .cross i j,u=>⟨u.x ^^^ (wt n i*((au (wt n i) u.x+au (wt n j) u.x) % 2) ^^^ wt n j*((au (wt n i) u.x+au (wt n j) u.x) % 2)),u.z ^^^ (wt n i*((au (wt n i) u.z+au (wt n j) u.z) % 2) ^^^ wt n j*((au (wt n i) u.z+au (wt n j) u.z) % 2)),u.s⟩
noncomputable def AS (n:Nat):Row->Wd->Prop
 | .turn j e,u=>e % 2=0\/au (wt n j) u.x=0
 | _,_=>True
theorem kx {n:Nat} {r:Row} (hr:r.ok n) {u:Wd} (hu:u.ok n):(carry n r u).ok n:=by
 obtain ⟨h1,h2,h3⟩:=hu
 have m:∀ a:Nat,a % 2<2:=fun a=>Nat.mod_lt _ (by decide)
 have m4:∀ a:Nat,a % 4<4:=fun a=>Nat.mod_lt _ (by decide)
 have b:∀ w p,au w p<2:=bE
 have bc:∀ w p (c:Nat),c<2->au w p*c<2:=fun w p c hc=>by
  have h:=b w p
  have h1:au w p=0\/au w p=1:=by omega
  rcases h1 with h1 | h1 <;> rw [h1] <;> omega
 cases r with
 | swing j=>exact ⟨Nat.xor_lt_two_pow h1 (w_lt hr _ (m _)),Nat.xor_lt_two_pow h2 (w_lt hr _ (m _)),m4 _⟩
 | turn j e=>exact ⟨h1,Nat.xor_lt_two_pow h2 (w_lt hr.1 _ (bc _ _ _ (by split <;> decide))),m4 _⟩
 | flip j=>exact ⟨h1,h2,m4 _⟩
 | tie i j=>exact ⟨Nat.xor_lt_two_pow h1 (w_lt hr.2.1 _ (b _ _)),Nat.xor_lt_two_pow h2 (w_lt hr.1 _ (b _ _)),h3⟩
 | sign i j=>exact ⟨h1,Nat.xor_lt_two_pow (Nat.xor_lt_two_pow h2 (w_lt hr.2.1 _ (b _ _))) (w_lt hr.1 _ (b _ _)),m4 _⟩
 | cross i j=>exact ⟨Nat.xor_lt_two_pow h1 (Nat.xor_lt_two_pow (w_lt hr.1 _ (m _)) (w_lt hr.2.1 _ (m _))),Nat.xor_lt_two_pow h2 (Nat.xor_lt_two_pow (w_lt hr.1 _ (m _)) (w_lt hr.2.1 _ (m _))),h3⟩
theorem eI {u v:Wd} (h1:u.x=v.x) (h2:u.z=v.z) (h3:u.s=v.s):u=v:=by
 cases u; cases v; simp_all
theorem vz {n i z x:Nat} (hn:n<=6) (hi:i<n) (hz:z<2 ^ n) (hx:x<2 ^ n) (a c:Nat) (ha:a<2) (hc:c<2):par ((z ^^^ wt n i*a) &&& (x ^^^ wt n i*c))=(par (z &&& x)+c*au (wt n i) z+a*au (wt n i) x+a*c) % 2:=by
 rw [jr,iS,iS,j8 hn hi hz c hc,dE hn hi hx a ha,dE hn hi (w_lt hi c hc) a ha,kA c hc]
 omega
theorem j9 {n i j z x:Nat} (hn:n<=6) (hi:i<n) (hj:j<n) (hij:i≠j) (hz:z<2 ^ n) (hx:x<2 ^ n) (a b c d:Nat) (ha:a<2) (hb:b<2) (hc:c<2) (hd:d<2):par ((z ^^^ (wt n i*a ^^^ wt n j*b)) &&& (x ^^^ (wt n i*c ^^^ wt n j*d)))=(par (z &&& x)+c*au (wt n i) z+d*au (wt n j) z+a*au (wt n i) x+b*au (wt n j) x+a*c+b*d) % 2:=by
 rw [jr,iS,iS z,j8 hn hi hz c hc,j8 hn hj hz d hd,jr (wt n i*a),iS (wt n i*a),iS (wt n j*b),dE hn hi hx a ha,dE hn hj hx b hb,iS (wt n i*a),iS (wt n j*b),dE hn hi (w_lt hi c hc) a ha,dE hn hi (w_lt hj d hd) a ha,dE hn hj (w_lt hi c hc) b hb,dE hn hj (w_lt hj d hd) b hb,kA c hc,kA d hd,jd hi hj hij d hd,jd hj hi (Ne.symm hij) c hc]
 omega
theorem b01 (w p:Nat):au w p=0\/au w p=1:=by have:=bE w p; omega
theorem zero_xor (a:Nat):0 ^^^ a=a:=Nat.zero_xor a
theorem nX {n:Nat} (hn:n<=6) {r:Row} (hr:r.ok n) {u v:Wd} (hu:u.ok n) (hv:v.ok n) (lu:AS n r u) (lv:AS n r v):carry n r (bR u v)=bR (carry n r u) (carry n r v):=by
 have m:∀ a:Nat,a % 2<2:=fun a=>Nat.mod_lt _ (by decide)
 have b:∀ w p,au w p<2:=bE
 cases r with
 | swing j=>
  have e1:wt n j*((au (wt n j) (u.x ^^^ v.x)+au (wt n j) (u.z ^^^ v.z)) % 2)=wt n j*((au (wt n j) u.x+au (wt n j) u.z) % 2) ^^^ wt n j*((au (wt n j) v.x+au (wt n j) v.z) % 2):=by
   rw [<- lK _ _ _ (m _) (m _),aF,aF]
   congr 1
   omega
  apply eI
  ·show (u.x ^^^ v.x) ^^^ wt n j*((au (wt n j) (u.x ^^^ v.x)+au (wt n j) (u.z ^^^ v.z)) % 2)=(u.x ^^^ _) ^^^ (v.x ^^^ _)
   rw [e1]; ac_rfl
  ·show (u.z ^^^ v.z) ^^^ wt n j*((au (wt n j) (u.x ^^^ v.x)+au (wt n j) (u.z ^^^ v.z)) % 2)=(u.z ^^^ _) ^^^ (v.z ^^^ _)
   rw [e1]; ac_rfl
  ·show ((u.s+v.s+2*par (u.z &&& v.x)) % 4+2*(au (wt n j) (u.x ^^^ v.x)*au (wt n j) (u.z ^^^ v.z))) % 4=((u.s+2*(au (wt n j) u.x*au (wt n j) u.z)) % 4+(v.s+2*(au (wt n j) v.x*au (wt n j) v.z)) % 4+2*par ((u.z ^^^ wt n j*((au (wt n j) u.x+au (wt n j) u.z) % 2)) &&& (v.x ^^^ wt n j*((au (wt n j) v.x+au (wt n j) v.z) % 2)))) % 4
   rw [vz hn hr hu.2.1 hv.1 _ _ (m _) (m _),aF,aF]
   generalize par (u.z &&& v.x)=P
   rcases b01 (wt n j) u.x with h1 | h1 <;> rcases b01 (wt n j) u.z with h2 | h2 <;> rcases b01 (wt n j) v.x with h3 | h3 <;> rcases b01 (wt n j) v.z with h4 | h4 <;> rw [h1,h2,h3,h4] <;> omega
 | turn j e=>
  have k:(if e % 4=2 then 1 else 0:Nat)<2:=by split <;> decide
  have lt:∀ w:Wd,au (wt n j) w.x*(if e % 4=2 then 1 else 0)<2:=fun w=>by rcases b01 (wt n j) w.x with h | h <;> rw [h] <;> omega
  have e1:wt n j*(au (wt n j) (u.x ^^^ v.x)*(if e % 4=2 then 1 else 0))=wt n j*(au (wt n j) u.x*(if e % 4=2 then 1 else 0)) ^^^ wt n j*(au (wt n j) v.x*(if e % 4=2 then 1 else 0)):=by
   rw [<- lK _ _ _ (lt u) (lt v),aF]
   congr 1
   rcases b01 (wt n j) u.x with h1 | h1 <;> rcases b01 (wt n j) v.x with h2 | h2 <;> rw [h1,h2] <;> split <;> rfl
  apply eI
  ·rfl
  ·show (u.z ^^^ v.z) ^^^ wt n j*(au (wt n j) (u.x ^^^ v.x)*_)=(u.z ^^^ _) ^^^ (v.z ^^^ _)
   rw [e1]; ac_rfl
  ·show ((u.s+v.s+2*par (u.z &&& v.x)) % 4+(e / 2)*au (wt n j) (u.x ^^^ v.x)) % 4=((u.s+(e / 2)*au (wt n j) u.x) % 4+(v.s+(e / 2)*au (wt n j) v.x) % 4+2*par ((u.z ^^^ wt n j*(au (wt n j) u.x*(if e % 4=2 then 1 else 0))) &&& v.x)) % 4
   rw [jr,dE hn hr.1 hv.1 _ (lt u),aF]
   generalize par (u.z &&& v.x)=P
   have lu:e % 2=0\/au (wt n j) u.x=0:=lu
   have lv:e % 2=0\/au (wt n j) v.x=0:=lv
   rcases b01 (wt n j) u.x with h1 | h1 <;> rcases b01 (wt n j) v.x with h2 | h2 <;> rw [h1] at lu <;> rw [h2] at lv <;> rw [h1,h2] <;> split <;> omega
 | flip j=>
  apply eI
  ·rfl
  ·rfl
  ·show ((u.s+v.s+2*par (u.z &&& v.x)) % 4+2*au (wt n j) (u.z ^^^ v.z)) % 4=((u.s+2*au (wt n j) u.z) % 4+(v.s+2*au (wt n j) v.z) % 4+2*par (u.z &&& v.x)) % 4
   rw [aF]
   omega
 | tie i j=>
  obtain ⟨hi,hj,hij⟩:=hr
  apply eI
  ·show (u.x ^^^ v.x) ^^^ wt n j*au (wt n i) (u.x ^^^ v.x)=(u.x ^^^ _) ^^^ (v.x ^^^ _)
   rw [aF,lK _ _ _ (b _ _) (b _ _)]; ac_rfl
  ·show (u.z ^^^ v.z) ^^^ wt n i*au (wt n j) (u.z ^^^ v.z)=(u.z ^^^ _) ^^^ (v.z ^^^ _)
   rw [aF,lK _ _ _ (b _ _) (b _ _)]; ac_rfl
  ·show (u.s+v.s+2*par (u.z &&& v.x)) % 4=(u.s+v.s+2*par ((u.z ^^^ wt n i*au (wt n j) u.z) &&& (v.x ^^^ wt n j*au (wt n i) v.x))) % 4
   have:=j9 hn hi hj hij hu.2.1 hv.1 (au (wt n j) u.z) 0 0 (au (wt n i) v.x) (b _ _) (by decide) (by decide) (b _ _)
   rw [Nat.mul_zero,Nat.mul_zero,Nat.xor_zero,zero_xor] at this
   rw [this]
   generalize par (u.z &&& v.x)=P
   rcases b01 (wt n j) u.z with h1 | h1 <;> rcases b01 (wt n i) v.x with h2 | h2 <;> rw [h1,h2] <;> omega
 | sign i j=>
  obtain ⟨hi,hj,hij⟩:=hr
  apply eI
  ·rfl
  ·show (u.z ^^^ v.z) ^^^ wt n j*au (wt n i) (u.x ^^^ v.x) ^^^ wt n i*au (wt n j) (u.x ^^^ v.x)=(u.z ^^^ _ ^^^ _) ^^^ (v.z ^^^ _ ^^^ _)
   rw [aF,aF,lK _ _ _ (b _ _) (b _ _),lK _ _ _ (b _ _) (b _ _)]; ac_rfl
  ·show ((u.s+v.s+2*par (u.z &&& v.x)) % 4+2*(au (wt n i) (u.x ^^^ v.x)*au (wt n j) (u.x ^^^ v.x))) % 4=((u.s+2*(au (wt n i) u.x*au (wt n j) u.x)) % 4+(v.s+2*(au (wt n i) v.x*au (wt n j) v.x)) % 4+2*par ((u.z ^^^ wt n j*au (wt n i) u.x ^^^ wt n i*au (wt n j) u.x) &&& v.x)) % 4
   rw [jr,jr,dE hn hj hv.1 _ (b _ _),dE hn hi hv.1 _ (b _ _),aF,aF]
   generalize par (u.z &&& v.x)=P
   rcases b01 (wt n i) u.x with h1 | h1 <;> rcases b01 (wt n j) u.x with h2 | h2 <;> rcases b01 (wt n i) v.x with h3 | h3 <;> rcases b01 (wt n j) v.x with h4 | h4 <;> rw [h1,h2,h3,h4] <;> omega
 | cross i j=>
  obtain ⟨hi,hj,hij⟩:=hr
  have e1:∀ a c w:Nat,w*((au (wt n i) (a ^^^ c)+au (wt n j) (a ^^^ c)) % 2)=w*((au (wt n i) a+au (wt n j) a) % 2) ^^^ w*((au (wt n i) c+au (wt n j) c) % 2):=fun a c w=>by
   rw [<- lK _ _ _ (m _) (m _),aF,aF]
   congr 1
   omega
  apply eI
  ·show (u.x ^^^ v.x) ^^^ (wt n i*((au (wt n i) (u.x ^^^ v.x)+au (wt n j) (u.x ^^^ v.x)) % 2) ^^^ wt n j*((au (wt n i) (u.x ^^^ v.x)+au (wt n j) (u.x ^^^ v.x)) % 2))=(u.x ^^^ (_ ^^^ _)) ^^^ (v.x ^^^ (_ ^^^ _))
   rw [e1,e1]; ac_rfl
  ·show (u.z ^^^ v.z) ^^^ (wt n i*((au (wt n i) (u.z ^^^ v.z)+au (wt n j) (u.z ^^^ v.z)) % 2) ^^^ wt n j*((au (wt n i) (u.z ^^^ v.z)+au (wt n j) (u.z ^^^ v.z)) % 2))=(u.z ^^^ (_ ^^^ _)) ^^^ (v.z ^^^ (_ ^^^ _))
   rw [e1,e1]; ac_rfl
  ·show (u.s+v.s+2*par (u.z &&& v.x)) % 4=(u.s+v.s+2*par ((u.z ^^^ (wt n i*((au (wt n i) u.z+au (wt n j) u.z) % 2) ^^^ wt n j*((au (wt n i) u.z+au (wt n j) u.z) % 2))) &&& (v.x ^^^ (wt n i*((au (wt n i) v.x+au (wt n j) v.x) % 2) ^^^ wt n j*((au (wt n i) v.x+au (wt n j) v.x) % 2))))) % 4
   rw [j9 hn hi hj hij hu.2.1 hv.1 _ _ _ _ (m _) (m _) (m _) (m _)]
   generalize par (u.z &&& v.x)=P
   rcases b01 (wt n i) u.z with h1 | h1 <;> rcases b01 (wt n j) u.z with h2 | h2 <;> rcases b01 (wt n i) v.x with h3 | h3 <;> rcases b01 (wt n j) v.x with h4 | h4 <;> rw [h1,h2,h3,h4] <;> omega
noncomputable def rh:Row->Row
 | .turn j e=>.turn j (8-e)
 | r=>r
theorem jD (a b:Nat):a ^^^ b ^^^ b=a:=by rw [Nat.xor_assoc,Nat.xor_self,Nat.xor_zero]
theorem mw {n:Nat} {r:Row} (hr:r.ok n) {u:Wd} (hu:u.ok n) (lu:AS n r u):carry n (rh r) (carry n r u)=u:=by
 have m:∀ a:Nat,a % 2<2:=fun a=>Nat.mod_lt _ (by decide)
 have b:∀ w p,au w p<2:=bE
 have hs:=hu.2.2
 cases r with
 | swing j=>
  have f1:au (wt n j) (u.x ^^^ wt n j*((au (wt n j) u.x+au (wt n j) u.z) % 2))=au (wt n j) u.z:=by
   rw [aF,kA _ (m _)]
   have:=b (wt n j) u.x
   have:=b (wt n j) u.z
   omega
  have f2:au (wt n j) (u.z ^^^ wt n j*((au (wt n j) u.x+au (wt n j) u.z) % 2))=au (wt n j) u.x:=by
   rw [aF,kA _ (m _)]
   have:=b (wt n j) u.x
   have:=b (wt n j) u.z
   omega
  apply eI
  ·show (u.x ^^^ _) ^^^ wt n j*((au (wt n j) (u.x ^^^ _)+au (wt n j) (u.z ^^^ _)) % 2)=u.x
   rw [f1,f2,Nat.add_comm (au (wt n j) u.z),jD]
  ·show (u.z ^^^ _) ^^^ wt n j*((au (wt n j) (u.x ^^^ _)+au (wt n j) (u.z ^^^ _)) % 2)=u.z
   rw [f1,f2,Nat.add_comm (au (wt n j) u.z),jD]
  ·show ((u.s+2*(au (wt n j) u.x*au (wt n j) u.z)) % 4+2*(au (wt n j) (u.x ^^^ _)*au (wt n j) (u.z ^^^ _))) % 4=u.s
   rw [f1,f2]
   rcases b01 (wt n j) u.x with h1 | h1 <;> rcases b01 (wt n j) u.z with h2 | h2 <;> rw [h1,h2] <;> omega
 | turn j e=>
  have k:(if (8-e) % 4=2 then 1 else 0:Nat)=(if e % 4=2 then 1 else 0):=by
   have:=hr.2
   by_cases h:e % 4=2
   ·rw [if_pos h,if_pos (by omega)]
   ·rw [if_neg h,if_neg (by omega)]
  apply eI
  ·rfl
  ·show (u.z ^^^ _) ^^^ wt n j*(au (wt n j) u.x*(if (8-e) % 4=2 then 1 else 0))=u.z
   rw [k,jD]
  ·show ((u.s+(e / 2)*au (wt n j) u.x) % 4+((8-e) / 2)*au (wt n j) u.x) % 4=u.s
   have lu:e % 2=0\/au (wt n j) u.x=0:=lu
   have:=hr.2
   rcases b01 (wt n j) u.x with h1 | h1 <;> rw [h1] at lu <;> rw [h1] <;> omega
 | flip j=>
  apply eI
  ·rfl
  ·rfl
  ·show ((u.s+2*au (wt n j) u.z) % 4+2*au (wt n j) u.z) % 4=u.s
   omega
 | tie i j=>
  obtain ⟨hi,hj,hij⟩:=hr
  apply eI
  ·show (u.x ^^^ _) ^^^ wt n j*au (wt n i) (u.x ^^^ wt n j*au (wt n i) u.x)=u.x
   rw [aF,jd hi hj hij _ (b _ _),Nat.add_zero,Nat.mod_eq_of_lt (b _ _),jD]
  ·show (u.z ^^^ _) ^^^ wt n i*au (wt n j) (u.z ^^^ wt n i*au (wt n j) u.z)=u.z
   rw [aF,jd hj hi (Ne.symm hij) _ (b _ _),Nat.add_zero,Nat.mod_eq_of_lt (b _ _),jD]
  ·rfl
 | sign i j=>
  apply eI
  ·rfl
  ·show (u.z ^^^ wt n j*au (wt n i) u.x ^^^ wt n i*au (wt n j) u.x) ^^^ wt n j*au (wt n i) u.x ^^^ wt n i*au (wt n j) u.x=u.z
   rw [show (u.z ^^^ wt n j*au (wt n i) u.x ^^^ wt n i*au (wt n j) u.x) ^^^ wt n j*au (wt n i) u.x ^^^ wt n i*au (wt n j) u.x=u.z ^^^ (wt n j*au (wt n i) u.x ^^^ wt n j*au (wt n i) u.x) ^^^ (wt n i*au (wt n j) u.x ^^^ wt n i*au (wt n j) u.x) by ac_rfl,Nat.xor_self,Nat.xor_self,Nat.xor_zero,Nat.xor_zero]
  ·show ((u.s+2*(au (wt n i) u.x*au (wt n j) u.x)) % 4+2*(au (wt n i) u.x*au (wt n j) u.x)) % 4=u.s
   omega
 | cross i j=>
  obtain ⟨hi,hj,hij⟩:=hr
  have k:∀ a:Nat,(au (wt n i) (a ^^^ (wt n i*((au (wt n i) a+au (wt n j) a) % 2) ^^^ wt n j*((au (wt n i) a+au (wt n j) a) % 2)))+au (wt n j) (a ^^^ (wt n i*((au (wt n i) a+au (wt n j) a) % 2) ^^^ wt n j*((au (wt n i) a+au (wt n j) a) % 2)))) % 2=(au (wt n i) a+au (wt n j) a) % 2:=fun a=>by
   rw [aF,aF n j,aF n i (wt n i*_),aF n j (wt n i*_),kA _ (m _),kA _ (m _),jd hi hj hij _ (m _),jd hj hi (Ne.symm hij) _ (m _)]
   omega
  apply eI
  ·show (u.x ^^^ _) ^^^ (wt n i*((au (wt n i) (u.x ^^^ _)+au (wt n j) (u.x ^^^ _)) % 2) ^^^ wt n j*((au (wt n i) (u.x ^^^ _)+au (wt n j) (u.x ^^^ _)) % 2))=u.x
   rw [k,jD]
  ·show (u.z ^^^ _) ^^^ (wt n i*((au (wt n i) (u.z ^^^ _)+au (wt n j) (u.z ^^^ _)) % 2) ^^^ wt n j*((au (wt n i) (u.z ^^^ _)+au (wt n j) (u.z ^^^ _)) % 2))=u.z
   rw [k,jD]
  ·rfl
noncomputable def iJ (f:Nat->Nu) (w:Wd) (p:Nat):Nu:=aG (2*w.s+4*par ((p ^^^ w.x) &&& w.z)) (f (p ^^^ w.x))
theorem Mi:((List.range 6).all fun k=>(List.range 64).all fun p=>p ^^^ 2 ^ k==flp (2 ^ k) p)=true:=by decide +kernel
theorem qP {n i a:Nat} (hn:n<=6) (hi:i<n) (ha:a<2 ^ n):flp (wt n i) a=a ^^^ wt n i:=by
 have h:=Mi
 rw [List.all_eq_true] at h
 have h:=h (n-1-i) (List.mem_range.mpr (by omega))
 rw [List.all_eq_true] at h
 have h:=h a (List.mem_range.mpr (Nat.lt_of_lt_of_le ha (Nat.pow_le_pow_right (by decide) hn:2 ^ n<=2 ^ 6)))
 exact (beq_iff_eq.mp h).symm
theorem va {n i:Nat} (hi:i<n):wt n i<2 ^ n:=by
 have:=w_lt hi 1 (by decide)
 rwa [Nat.mul_one] at this
theorem Gz {n i j p:Nat} (hn:n<=6) (hj:j<n) (hp:p<2 ^ n):eG n (.tie i j) p=p ^^^ wt n j*au (wt n i) p:=by
 show (if au (wt n i) p=0 then p else flp (wt n j) p)=_
 rcases b01 (wt n i) p with h | h <;> rw [h]
 ·rw [if_pos rfl,Nat.mul_zero,Nat.xor_zero]
 ·rw [if_neg (by decide),Nat.mul_one,qP hn hj hp]
theorem pZ {n i j p:Nat} (hn:n<=6) (hi:i<n) (hj:j<n) (hp:p<2 ^ n):eG n (.cross i j) p=p ^^^ (wt n i*((au (wt n i) p+au (wt n j) p) % 2) ^^^ wt n j*((au (wt n i) p+au (wt n j) p) % 2)):=by
 show (if au (wt n i) p=au (wt n j) p then p else flp (wt n j) (flp (wt n i) p))=_
 have hf:flp (wt n j) (flp (wt n i) p)=p ^^^ (wt n i ^^^ wt n j):=by
  rw [qP hn hi hp,qP hn hj (Nat.xor_lt_two_pow hp (va hi)),Nat.xor_assoc]
 rw [hf]
 rcases b01 (wt n i) p with h | h <;> rcases b01 (wt n j) p with h2 | h2 <;> rw [h,h2]
 ·simp
 ·rw [if_neg (by decide),show (0+1) % 2=1 from rfl,Nat.mul_one,Nat.mul_one]
 ·rw [if_neg (by decide),show (1+0) % 2=1 from rfl,Nat.mul_one,Nat.mul_one]
 ·simp
theorem jE (a b:Nat) (u:Nu):aG a (aG b u)=aG (a+b) u:=by
 unfold aG
 simp only [iL]
 rw [<- iM]
theorem ji {a b:Nat} (h:a % 8=b % 8) (u:Nu):aG a u=aG b u:=by
 unfold aG; rw [h]
theorem sD {a b:Nat} (h:a % 8=b % 8) (x:Q4):fG a x=fG b x:=by rw [<- iL a,<- iL b,h]
theorem yi {n M j:Nat} (hn:n<=6) (hj:j<n) {f:Nat->Nu} (hf:∀ p,(f p).2+1<=M) {p:Nat} (hp:p<2 ^ n):Q4.rt (val M (aN n f (.swing j) p))=if au (wt n j) p=0 then Q4.add (val M (f p)) (val M (f (p ^^^ wt n j))) else Q4.add (val M (f (p ^^^ wt n j))) (fG 4 (val M (f p))):=by
 rw [fo hf p]
 have h:=qP hn hj hp
 unfold flp at h
 by_cases c:au (wt n j) p=0
 ·rw [if_pos c,if_pos c]
  rw [if_pos c] at h
  rw [h]
 ·rw [if_neg c,if_neg c]
  rw [if_neg c] at h
  rw [h]
theorem su {f:Nat->Nu} (hf:∀ p,cH (f p)) (w:Wd) (p:Nat):cH (iJ f w p):=lT _ (hf _)
theorem tR (M:Nat) (f:Nat->Nu) (w:Wd) (p:Nat):val M (iJ f w p)=fG (2*w.s+4*par ((p ^^^ w.x) &&& w.z)) (val M (f (p ^^^ w.x))):=by
 unfold iJ
 rw [gx,iL]
theorem v9 (u:Nu):(dt u).2<=u.2+1:=by
 obtain ⟨s1,s2,s3⟩:=ju u.1 ((u.2+1:Nat):Int) (by omega)
 show (num u.1 ((u.2+1:Nat):Int)).2.toNat<=_
 omega
theorem Hn (e:Nat) (x:Q4):fG e (Q4.rt x)=Q4.rt (fG e x):=yc e 1 x
theorem qT {a b c d:Q4} (h1:a=c) (h2:b=d):Q4.add a b=Q4.add c d:=by rw [h1,h2]
theorem AO:∀ a b c d e f:Fin 2,(0*((c.1+a.1) % 2)+(0*((d.1+b.1) % 2)+((c.1+d.1) % 2*e.1+((c.1+d.1) % 2*f.1+((c.1+d.1) % 2*0+(c.1+d.1) % 2*0))))) % 2=((e.1+f.1) % 2*((c.1+a.1) % 2)+((e.1+f.1) % 2*((d.1+b.1) % 2)+((a.1+b.1) % 2*e.1+((a.1+b.1) % 2*f.1+((a.1+b.1) % 2*((e.1+f.1) % 2)+(a.1+b.1) % 2*((e.1+f.1) % 2)))))) % 2:=by decide +kernel
theorem G9 (P x y z u v w:Nat):P+x+y+z+u+v+w=P+(x+(y+(z+(u+(v+w))))):=by simp only [Nat.add_assoc]
theorem Da (s P:Nat) {a b c d e f:Nat} (ha:a<2) (hb:b<2) (hc:c<2) (hd:d<2) (he:e<2) (hf:f<2):(2*s+4*((P+0*((c+a) % 2)+0*((d+b) % 2)+(c+d) % 2*e+(c+d) % 2*f+(c+d) % 2*0+(c+d) % 2*0) % 2)) % 8=(2*s+4*((P+(e+f) % 2*((c+a) % 2)+(e+f) % 2*((d+b) % 2)+(a+b) % 2*e+(a+b) % 2*f+(a+b) % 2*((e+f) % 2)+(a+b) % 2*((e+f) % 2)) % 2)) % 8:=by
 have h:=AO ⟨a,ha⟩ ⟨b,hb⟩ ⟨c,hc⟩ ⟨d,hd⟩ ⟨e,he⟩ ⟨f,hf⟩
 dsimp only at h
 rw [G9,G9,Nat.add_mod P,h,<- Nat.add_mod P]
theorem xB {n:Nat} (hn:n<=6) {r:Row} (hr:r.ok n) {u:Wd} (hu:u.ok n) (lu:AS n r u) {f:Nat->Nu} (hl:∀ p,cH (f p)) {M:Nat} (hM:∀ p,(f p).2+1<=M) {p:Nat} (hp:p<2 ^ n):aN n (iJ f u) r p=iJ (aN n f r) (carry n r u) p:=by
 have m:∀ a:Nat,a % 2<2:=fun a=>Nat.mod_lt _ (by decide)
 have b:∀ w p,au w p<2:=bE
 have hq:p ^^^ u.x<2 ^ n:=Nat.xor_lt_two_pow hp hu.1
 cases r with
 | flip j=>
  show iJ f u (flp (wt n j) p)=aG (2*((u.s+2*au (wt n j) u.z) % 4)+4*par ((p ^^^ u.x) &&& u.z)) (f (flp (wt n j) (p ^^^ u.x)))
  rw [qP hn hr hp,qP hn hr hq]
  unfold iJ
  rw [show p ^^^ wt n j ^^^ u.x=p ^^^ u.x ^^^ wt n j by ac_rfl]
  apply ji
  have e:=dE hn hr hu.2.1 1 (by decide)
  rw [Nat.mul_one,Nat.one_mul] at e
  rw [jr (p ^^^ u.x),e]
  have:=b (wt n j) u.z
  omega
 | turn j e=>
  show aG (e*au (wt n j) p) (iJ f u p)=aG (2*((u.s+(e / 2)*au (wt n j) u.x) % 4)+4*par ((p ^^^ u.x) &&& (u.z ^^^ wt n j*(au (wt n j) u.x*(if e % 4=2 then 1 else 0))))) (aG (e*au (wt n j) (p ^^^ u.x)) (f (p ^^^ u.x)))
  unfold iJ
  rw [jE,jE]
  apply ji
  have lt:au (wt n j) u.x*(if e % 4=2 then 1 else 0)<2:=by rcases b01 (wt n j) u.x with h | h <;> rw [h] <;> split <;> decide
  rw [iS,j8 hn hr.1 hq _ lt,aF]
  generalize par ((p ^^^ u.x) &&& u.z)=P
  have lu:e % 2=0\/au (wt n j) u.x=0:=lu
  have he:=hr.2
  have h8:e=1\/e=2\/e=3\/e=4\/e=5\/e=6\/e=7:=by omega
  rcases b01 (wt n j) u.x with h1 | h1 <;> rcases b01 (wt n j) p with h2 | h2 <;> rw [h1] at lu <;> rw [h1,h2] <;> rcases h8 with rfl | rfl | rfl | rfl | rfl | rfl | rfl <;> simp at lu ⊢ <;> omega
 | sign i j=>
  obtain ⟨hi,hj,hij⟩:=hr
  show aG (4*au (wt n i) p*au (wt n j) p) (iJ f u p)=aG (2*((u.s+2*(au (wt n i) u.x*au (wt n j) u.x)) % 4)+4*par ((p ^^^ u.x) &&& (u.z ^^^ wt n j*au (wt n i) u.x ^^^ wt n i*au (wt n j) u.x))) (aG (4*au (wt n i) (p ^^^ u.x)*au (wt n j) (p ^^^ u.x)) (f (p ^^^ u.x)))
  unfold iJ
  rw [jE,jE]
  apply ji
  rw [iS,iS,j8 hn hj hq _ (b _ _),j8 hn hi hq _ (b _ _),aF,aF]
  generalize par ((p ^^^ u.x) &&& u.z)=P
  rcases b01 (wt n i) u.x with h1 | h1 <;> rcases b01 (wt n j) u.x with h2 | h2 <;> rcases b01 (wt n i) p with h3 | h3 <;> rcases b01 (wt n j) p with h4 | h4 <;> rw [h1,h2,h3,h4] <;> omega
 | tie i j=>
  obtain ⟨hi,hj,hij⟩:=hr
  have hx':p ^^^ (u.x ^^^ wt n j*au (wt n i) u.x)<2 ^ n:=Nat.xor_lt_two_pow hp (Nat.xor_lt_two_pow hu.1 (w_lt hj _ (b _ _)))
  show iJ f u (eG n (.tie i j) p)=aG (2*u.s+4*par ((p ^^^ (u.x ^^^ wt n j*au (wt n i) u.x)) &&& (u.z ^^^ wt n i*au (wt n j) u.z))) (f (eG n (.tie i j) (p ^^^ (u.x ^^^ wt n j*au (wt n i) u.x))))
  rw [Gz hn hj hp,Gz hn hj hx']
  have e1:au (wt n i) (p ^^^ (u.x ^^^ wt n j*au (wt n i) u.x))=(au (wt n i) p+au (wt n i) u.x) % 2:=by
   rw [aF,aF n i u.x,jd hi hj hij _ (b _ _)]
   omega
  have e2:p ^^^ (u.x ^^^ wt n j*au (wt n i) u.x) ^^^ wt n j*((au (wt n i) p+au (wt n i) u.x) % 2)=p ^^^ wt n j*au (wt n i) p ^^^ u.x:=by
   rw [lK _ _ _ (b _ _) (b _ _),show p ^^^ (u.x ^^^ wt n j*au (wt n i) u.x) ^^^ (wt n j*au (wt n i) p ^^^ wt n j*au (wt n i) u.x)=p ^^^ wt n j*au (wt n i) p ^^^ u.x ^^^ (wt n j*au (wt n i) u.x ^^^ wt n j*au (wt n i) u.x) by ac_rfl,Nat.xor_self,Nat.xor_zero]
  rw [e1,e2]
  unfold iJ
  apply ji
  have e3:=j9 hn hi hj hij hq hu.2.1 0 (au (wt n i) u.x) (au (wt n j) u.z) 0 (by decide) (b _ _) (b _ _) (by decide)
  rw [Nat.mul_zero,Nat.mul_zero,zero_xor,Nat.xor_zero,show p ^^^ u.x ^^^ wt n j*au (wt n i) u.x=p ^^^ (u.x ^^^ wt n j*au (wt n i) u.x) by ac_rfl] at e3
  rw [e3,show p ^^^ wt n j*au (wt n i) p ^^^ u.x=p ^^^ u.x ^^^ wt n j*au (wt n i) p by ac_rfl,jr (p ^^^ u.x),dE hn hj hu.2.1 _ (b _ _),aF]
  generalize par ((p ^^^ u.x) &&& u.z)=P
  rcases b01 (wt n i) u.x with h1 | h1 <;> rcases b01 (wt n j) u.z with h2 | h2 <;> rcases b01 (wt n i) p with h3 | h3 <;> rw [h1,h2,h3] <;> omega
 | cross i j=>
  obtain ⟨hi,hj,hij⟩:=hr
  have hX:u.x ^^^ (wt n i*((au (wt n i) u.x+au (wt n j) u.x) % 2) ^^^ wt n j*((au (wt n i) u.x+au (wt n j) u.x) % 2))<2 ^ n:=Nat.xor_lt_two_pow hu.1 (Nat.xor_lt_two_pow (w_lt hi _ (m _)) (w_lt hj _ (m _)))
  show iJ f u (eG n (.cross i j) p)=aG (2*u.s+4*par ((p ^^^ (u.x ^^^ (wt n i*((au (wt n i) u.x+au (wt n j) u.x) % 2) ^^^ wt n j*((au (wt n i) u.x+au (wt n j) u.x) % 2)))) &&& (u.z ^^^ (wt n i*((au (wt n i) u.z+au (wt n j) u.z) % 2) ^^^ wt n j*((au (wt n i) u.z+au (wt n j) u.z) % 2))))) (f (eG n (.cross i j) (p ^^^ (u.x ^^^ (wt n i*((au (wt n i) u.x+au (wt n j) u.x) % 2) ^^^ wt n j*((au (wt n i) u.x+au (wt n j) u.x) % 2))))))
  rw [pZ hn hi hj hp,pZ hn hi hj (Nat.xor_lt_two_pow hp hX)]
  have e1:(au (wt n i) (p ^^^ (u.x ^^^ (wt n i*((au (wt n i) u.x+au (wt n j) u.x) % 2) ^^^ wt n j*((au (wt n i) u.x+au (wt n j) u.x) % 2))))+au (wt n j) (p ^^^ (u.x ^^^ (wt n i*((au (wt n i) u.x+au (wt n j) u.x) % 2) ^^^ wt n j*((au (wt n i) u.x+au (wt n j) u.x) % 2))))) % 2=((au (wt n i) p+au (wt n j) p) % 2+(au (wt n i) u.x+au (wt n j) u.x) % 2) % 2:=by
   rw [aF,aF n j p,aF n i u.x,aF n j u.x,aF n i (wt n i*_),aF n j (wt n i*_),kA _ (m _),kA _ (m _),jd hi hj hij _ (m _),jd hj hi (Ne.symm hij) _ (m _)]
   omega
  rw [e1,lK _ _ _ (m _) (m _),lK _ _ _ (m _) (m _)]
  have e2:∀ A B C E X:Nat,p ^^^ (X ^^^ (A ^^^ B)) ^^^ ((C ^^^ A) ^^^ (E ^^^ B))=p ^^^ (C ^^^ E) ^^^ X:=fun A B C E X=>by
   rw [show p ^^^ (X ^^^ (A ^^^ B)) ^^^ ((C ^^^ A) ^^^ (E ^^^ B))=p ^^^ (C ^^^ E) ^^^ X ^^^ ((A ^^^ A) ^^^ (B ^^^ B)) by ac_rfl,Nat.xor_self,Nat.xor_self,Nat.xor_zero,Nat.xor_zero]
  rw [e2]
  unfold iJ
  apply ji
  have e3:=j9 hn hi hj hij hq hu.2.1 ((au (wt n i) u.x+au (wt n j) u.x) % 2) ((au (wt n i) u.x+au (wt n j) u.x) % 2) ((au (wt n i) u.z+au (wt n j) u.z) % 2) ((au (wt n i) u.z+au (wt n j) u.z) % 2) (m _) (m _) (m _) (m _)
  rw [show ∀ A B:Nat,p ^^^ u.x ^^^ (A ^^^ B)=p ^^^ (u.x ^^^ (A ^^^ B)) from fun A B=>by ac_rfl] at e3
  have e4:=j9 hn hi hj hij hq hu.2.1 ((au (wt n i) p+au (wt n j) p) % 2) ((au (wt n i) p+au (wt n j) p) % 2) 0 0 (m _) (m _) (by decide) (by decide)
  rw [Nat.mul_zero,Nat.mul_zero,Nat.xor_self,Nat.xor_zero] at e4
  rw [e3,show ∀ A B:Nat,p ^^^ (A ^^^ B) ^^^ u.x=p ^^^ u.x ^^^ (A ^^^ B) from fun A B=>by ac_rfl,e4,aF,aF]
  generalize par ((p ^^^ u.x) &&& u.z)=P
  exact Da _ _ (b _ _) (b _ _) (b _ _) (b _ _) (b _ _) (b _ _)
 | swing j=>
  have hc:(au (wt n j) u.x+au (wt n j) u.z) % 2<2:=m _
  have hW:=va hr
  have lw:∀ p,(iJ f u p).2+1<=M:=fun p=>hM _
  have ld:cH (aN n (iJ f u) (.swing j) p):=ii (su hl u) n (.swing j) p
  have lr:cH (iJ (aN n f (.swing j)) (carry n (.swing j) u) p):=su (ii hl n (.swing j)) _ p
  have kd:∀ (g:Nat->Nu),(∀ p,(g p).2+1<=M)->∀ p,(aN n g (.swing j) p).2<=M:=fun g hg p=>by
   show (if au (wt n j) p=0 then dt (cI (g p) (g (p+wt n j))) else dt (cI (g (p-wt n j)) (aG 4 (g p)))).2<=M
   split
   ·have a:=gh (g p) (g (p+wt n j))
    have c:=v9 (cI (g p) (g (p+wt n j)))
    have:=hg p
    have:=hg (p+wt n j)
    omega
   ·have a:(cI (g (p-wt n j)) (aG 4 (g p))).2<=max (g (p-wt n j)).2 (g p).2:=gh _ _
    have c:=v9 (cI (g (p-wt n j)) (aG 4 (g p)))
    have:=hg p
    have:=hg (p-wt n j)
    omega
  refine xY (M:=M) ld lr (kd _ lw p) (kd f hM _) ?_
  apply Q4.rt_inj
  have hq':p ^^^ (u.x ^^^ wt n j*((au (wt n j) u.x+au (wt n j) u.z) % 2))<2 ^ n:=Nat.xor_lt_two_pow hp (Nat.xor_lt_two_pow hu.1 (w_lt hr _ hc))
  rw [yi hn hr lw hp,tR,tR,tR,<- Hn,show (carry n (.swing j) u).x=u.x ^^^ wt n j*((au (wt n j) u.x+au (wt n j) u.z) % 2) from rfl,yi hn hr hM hq']
  show _=fG (2*((u.s+2*(au (wt n j) u.x*au (wt n j) u.z)) % 4)+4*par ((p ^^^ (u.x ^^^ wt n j*((au (wt n j) u.x+au (wt n j) u.z) % 2))) &&& (u.z ^^^ wt n j*((au (wt n j) u.x+au (wt n j) u.z) % 2)))) _
  have e3:=vz hn hr hq hu.2.1 _ _ hc hc
  rw [show ∀ A:Nat,p ^^^ u.x ^^^ A=p ^^^ (u.x ^^^ A) from fun A=>by ac_rfl] at e3
  have e4:par ((p ^^^ wt n j ^^^ u.x) &&& u.z)=(par ((p ^^^ u.x) &&& u.z)+au (wt n j) u.z) % 2:=by
   have e:=dE hn hr hu.2.1 1 (by decide)
   rw [Nat.mul_one,Nat.one_mul] at e
   rw [show p ^^^ wt n j ^^^ u.x=p ^^^ u.x ^^^ wt n j by ac_rfl,jr (p ^^^ u.x),e]
  have e5:au (wt n j) (p ^^^ (u.x ^^^ wt n j*((au (wt n j) u.x+au (wt n j) u.z) % 2)))=(au (wt n j) p+au (wt n j) u.z) % 2:=by
   rw [aF,aF n j u.x,kA _ hc]
   omega
  rw [e3,e4,e5,aF]
  have i1:p ^^^ (u.x ^^^ wt n j*0)=p ^^^ u.x:=by rw [Nat.mul_zero,Nat.xor_zero]
  have i2:p ^^^ (u.x ^^^ wt n j*1)=p ^^^ wt n j ^^^ u.x:=by rw [Nat.mul_one]; ac_rfl
  have i3:p ^^^ wt n j ^^^ u.x ^^^ wt n j=p ^^^ u.x:=by rw [show p ^^^ wt n j ^^^ u.x ^^^ wt n j=p ^^^ u.x ^^^ (wt n j ^^^ wt n j) by ac_rfl,Nat.xor_self,Nat.xor_zero]
  have i4:p ^^^ u.x ^^^ wt n j=p ^^^ wt n j ^^^ u.x:=by ac_rfl
  generalize par ((p ^^^ u.x) &&& u.z)=P
  have tt:∀ (a c:Nat) (X:Q4),fG a (fG c X)=fG (a+c) X:=fun a c X=>(iM a c X).symm
  rcases b01 (wt n j) u.x with h1 | h1 <;> rcases b01 (wt n j) u.z with h2 | h2 <;> rcases b01 (wt n j) p with h3 | h3 <;> rw [h1,h2,h3] <;> simp only [Nat.zero_add,Nat.add_zero,Nat.reduceAdd,Nat.reduceMod,Nat.mul_zero,Nat.mul_one,Nat.zero_mul,Nat.xor_zero,if_true,Nat.one_ne_zero,if_false] <;> (try rw [show p ^^^ (u.x ^^^ wt n j)=p ^^^ wt n j ^^^ u.x by ac_rfl]) <;> (try rw [i3]) <;> (try rw [i4]) <;> rw [vj] <;> (try rw [tt]) <;> (try rw [tt])
  all_goals first
   | (apply qT <;> (apply sD; omega))
   | (rw [Q4.add_comm]; apply qT <;> (apply sD; omega))
noncomputable def Row.about:Row->Row
 | .turn j e=>.turn j (8-e)
 | r=>r
theorem Row.about_ok {n:Nat} {r:Row} (h:r.ok n):r.about.ok n:=by
 cases r <;> simp only [Row.about,Row.ok] at h ⊢ <;> omega
theorem sB (a b:Nat) (h:(a+b) % 8=0) (u:Nu):aG a (aG b u)=u:=by
 unfold aG
 have e:fG (a % 8) (fG (b % 8) u.1)=u.1:=by
  rw [iL,iL,<- iM,<- iL,h]; rfl
 rw [e]
theorem Ge {n j x:Nat} (h:au (wt n j) x≠0):au (wt n j) (x-wt n j)=0/\wt n j<=x:=by
 have h2:=bE (wt n j) x
 have h3:=p4 (bf n j) (show au (wt n j) x=1 by omega)
 have:=cM (p:=x) (bf n j)
 unfold flp at this
 rw [if_neg h] at this
 exact ⟨by omega,h3⟩
theorem Gf {n j x:Nat} (h:au (wt n j) x=0):au (wt n j) (x+wt n j)=1:=by
 have:=cM (p:=x) (bf n j)
 unfold flp at this
 rw [if_pos h,h] at this
 exact this
theorem m7 (x:Q4):fG 4 x=Q4.neg x:=by apply Q4.ext' <;> simp [fG,Q4.tn,Q4.neg]
theorem Hi (a b:Q4):Q4.add (Q4.add a b) (Q4.add a (Q4.neg b))=Q4.rt (Q4.rt a):=by
 rw [Q4.rt_rt]; apply Q4.ext' <;> simp [Q4.add,Q4.neg,Q4.dbl] <;> omega
theorem Hj (a b:Q4):Q4.add (Q4.add a b) (Q4.neg (Q4.add a (Q4.neg b)))=Q4.rt (Q4.rt b):=by
 rw [Q4.rt_rt]; apply Q4.ext' <;> simp [Q4.add,Q4.neg,Q4.dbl] <;> omega
theorem BE (x:Q4):Q4.rt (Q4.neg x)=Q4.neg (Q4.rt x):=by apply Q4.ext' <;> simp [Q4.rt,Q4.neg] <;> omega
theorem Aq (u:Nu):(dt u).2<=u.2+1:=by
 obtain ⟨s1,s2,s3⟩:=ju u.1 ((u.2+1:Nat):Int) (by omega)
 show (num u.1 ((u.2+1:Nat):Int)).2.toNat<=_
 omega
theorem uN (n:Nat) (f:Nat->Nu) (r:Row) (M:Nat) (h:∀ p,(f p).2<=M) (x:Nat):(aN n f r x).2<=M+1:=by
 have hp:∀ u v:Nu,u.2<=M->v.2<=M->(dt (cI u v)).2<=M+1:=fun u v hu hv=>by
  have a:=gh u v
  have b:=Aq (cI u v)
  omega
 cases r with
 | swing j=>
  show (if au (wt n j) x=0 then dt (cI (f x) (f (x+wt n j))) else dt (cI (f (x-wt n j)) (aG 4 (f x)))).2<=_
  split
  ·exact hp _ _ (h _) (h _)
  ·exact hp _ _ (h _) (h _)
 | turn j e=>exact Nat.le_succ_of_le (h x)
 | sign i j=>exact Nat.le_succ_of_le (h x)
 | flip j=>exact Nat.le_succ_of_le (h _)
 | tie i j=>exact Nat.le_succ_of_le (h _)
 | cross i j=>exact Nat.le_succ_of_le (h _)
theorem Az {n:Nat} {f:Nat->Nu} (hl:∀ p,cH (f p)) {M:Nat} (hM:∀ p,(f p).2<=M) (r:Row) (hr:r.ok n) (x:Nat):aN n (aN n f r) r.about x=f x:=by
 cases r with
 | swing j=>
  have b1:∀ p,(f p).2+1<=M+2:=fun p=>by have:=hM p; omega
  have b2:∀ p,(aN n f (.swing j) p).2+1<=M+2:=fun p=>by have:=uN n f (.swing j) M hM p; omega
  have b3:=uN n (aN n f (.swing j)) (.swing j) (M+1) (uN n f (.swing j) M hM) x
  refine xY (M:=M+2) (ii (ii hl n _) n _ x) (hl x) b3 (by have:=hM x; omega) ?_
  apply Q4.rt_inj
  apply Q4.rt_inj
  show Q4.rt (Q4.rt (val (M+2) (aN n (aN n f (.swing j)) (.swing j) x)))=_
  rw [fo b2 x]
  split
  ·rename_i c
   have c2:=Gf (n:=n) (j:=j) c
   rw [Q4.rt_add,fo b1 x,fo b1 (x+wt n j),if_pos c,if_neg (by omega),Nat.add_sub_cancel,m7,Hi]
  ·rename_i c
   obtain ⟨c2,c3⟩:=Ge (n:=n) (j:=j) c
   rw [Q4.rt_add,m7,BE,fo b1 x,fo b1 (x-wt n j),if_pos c2,if_neg c,Nat.sub_add_cancel c3,m7,Hj]
 | turn j e=>
  have h8:e<=7:=hr.2.2
  show aG ((8-e)*au (wt n j) x) (aG (e*au (wt n j) x) (f x))=f x
  refine sB _ _ ?_ _
  rw [<- Nat.add_mul,Nat.sub_add_cancel (by omega)]
  exact Nat.mul_mod_right 8 _
 | sign i j=>
  show aG (4*au (wt n i) x*au (wt n j) x) (aG (4*au (wt n i) x*au (wt n j) x) (f x))=f x
  refine sB _ _ ?_ _
  rw [show 4*au (wt n i) x*au (wt n j) x+4*au (wt n i) x*au (wt n j) x=8*(au (wt n i) x*au (wt n j) x) by rw [Nat.mul_assoc]; omega]
  exact Nat.mul_mod_right 8 _
 | flip j=>show f (flp (wt n j) (flp (wt n j) x))=_; rw [lC (bf n j)]
 | tie i j=>
  obtain ⟨hi,hj,hij⟩:=hr
  show f (eG n (.tie i j) (eG n (.tie i j) x))=_
  congr 1
  show (if au (wt n i) (if au (wt n i) x=0 then x else flp (wt n j) x)=0 then (if au (wt n i) x=0 then x else flp (wt n j) x) else flp (wt n j) (if au (wt n i) x=0 then x else flp (wt n j) x))=x
  by_cases c:au (wt n i) x=0
  ·simp only [if_pos c]
  ·simp only [if_neg c]
   rw [if_neg (by rw [hJ hj hi (Ne.symm hij)]; exact c),lC (bf n j)]
 | cross i j=>
  obtain ⟨hi,hj,hij⟩:=hr
  show f (eG n (.cross i j) (eG n (.cross i j) x))=_
  congr 1
  have bi:=bE (wt n i) x
  have bj:=bE (wt n j) x
  show (if au (wt n i) (if au (wt n i) x=au (wt n j) x then x else flp (wt n j) (flp (wt n i) x))=au (wt n j) (if au (wt n i) x=au (wt n j) x then x else flp (wt n j) (flp (wt n i) x)) then (if au (wt n i) x=au (wt n j) x then x else flp (wt n j) (flp (wt n i) x)) else flp (wt n j) (flp (wt n i) (if au (wt n i) x=au (wt n j) x then x else flp (wt n j) (flp (wt n i) x))))=x
  by_cases c:au (wt n i) x=au (wt n j) x
  ·simp only [if_pos c]
  ·simp only [if_neg c]
   have e1:au (wt n i) (flp (wt n j) (flp (wt n i) x))=1-au (wt n i) x:=by rw [hJ hj hi (Ne.symm hij),cM (bf n i)]
   have e2:au (wt n j) (flp (wt n j) (flp (wt n i) x))=1-au (wt n j) x:=by rw [cM (bf n j),hJ hi hj hij]
   rw [if_neg (by omega),wb hi hj hij,lC (bf n j),lC (bf n i)]
end MA
namespace GN
open PySem L2 VL
noncomputable def eV (i:Nat):Stmt:=PySem.Challenge.pw_wavewires_k51_whole_runs_by_tables.main.body.getD i (.Pass ⟨0,0,0,0⟩)
noncomputable def ib:List (Str×Bool):=[("OddTurn",true),("Barred",false)]
noncomputable def eN:List (Str×Bool):=[("OddTurn",true),("Barred",true)]
noncomputable def jj:List (Str×Bool):=[("OddTurn",false),("Barred",true)]
noncomputable def hs_WaveError:List Str:=["OddTurn","Barred"]
noncomputable abbrev gm:Stmt:=eV 7
noncomputable abbrev lO:List Str:=["joined","most"]
noncomputable def gw:Sf:=sSeq (sIf (ob (o2 (oV 0) (oC (.int 0)) bo)) (aH (oV 1)) (gz)) (aH (os (ad (oV 1) (ad (o2 (o1 (o2 (oV 0) (o1 (oV 0) negD) iG) nh) (oC (.int 1)) dW) (al))) Ah))
noncomputable def bI:List D->Option D:=runB lO 2 gw
noncomputable abbrev lf:Stmt:=eV 8
noncomputable abbrev tM:List Str:=["a","b","c","d"]
noncomputable def oh:Sf:=aH (os (ad (o2 (oV 1) (oV 3) dW) (ad (o2 (oV 0) (oV 2) cf) (ad (o2 (oV 1) (oV 3) cf) (ad (o2 (oV 2) (oV 0) dW) (al))))) aZ)
noncomputable def eE:List D->Option D:=runB tM 4 oh
noncomputable abbrev jo:Stmt:=eV 9
noncomputable abbrev rG:List Str:=["a","b","c","d","k","twos","doubled"]
noncomputable def ni:Sf:=sSeq (aM 5 (os (ad (o2 (o2 (o2 (oV 0) (oV 1) zP) (oV 2) zP) (oV 3) zP) (ad (o2 (oV 4) (oC (.int 2)) gJ) (al))) bI)) (sSeq (aM 0 (o2 (oV 0) (oV 5) jF)) (sSeq (aM 1 (o2 (oV 1) (oV 5) jF)) (sSeq (aM 2 (o2 (oV 2) (oV 5) jF)) (sSeq (aM 3 (o2 (oV 3) (oV 5) jF)) (sSeq (aM 4 (o2 (oV 4) (o2 (oC (.int 2)) (oV 5) g6) dW)) (sSeq (sIf (pQ (ob (o2 (oV 4) (oC (.int 0)) bo)) (pQ (ob (o2 (o2 (o2 (oV 0) (oV 2) dW) (oC (.int 2)) bX) (oC (.int 1)) bo)) (ob (o2 (o2 (o2 (oV 1) (oV 3) dW) (oC (.int 2)) bX) (oC (.int 1)) bo)))) (aH (os (ad (oV 0) (ad (oV 1) (ad (oV 2) (ad (oV 3) (ad (oV 4) (al)))))) aZ)) (gz)) (sSeq (aM 6 (os (ad (oV 0) (ad (oV 1) (ad (oV 2) (ad (oV 3) (al))))) eE)) (aH (os (ad (o2 (o2 (oV 6) (oC (.int 0)) ax) (oC (.int 2)) gJ) (ad (o2 (o2 (oV 6) (oC (.int 1)) ax) (oC (.int 2)) gJ) (ad (o2 (o2 (oV 6) (oC (.int 2)) ax) (oC (.int 2)) gJ) (ad (o2 (o2 (oV 6) (oC (.int 3)) ax) (oC (.int 2)) gJ) (ad (o2 (oV 4) (oC (.int 1)) dW) (al)))))) aZ)))))))))
noncomputable def fT:List D->Option D:=runB rG 5 ni
noncomputable abbrev dP:Stmt:=eV 10
noncomputable abbrev i5:List Str:=["x","k","more","twos","a","b","c","d"]
noncomputable def dR:Sf:=sSeq (aM 2 (o2 (oV 1) (o2 (oV 0) (oC (.int 4)) ax) dW)) (sSeq (aM 3 (o2 (oV 2) (oC (.int 2)) gJ)) (sSeq (aM 4 (o2 (o2 (oV 0) (oC (.int 0)) ax) (oV 3) jm)) (sSeq (aM 5 (o2 (o2 (oV 0) (oC (.int 1)) ax) (oV 3) jm)) (sSeq (aM 6 (o2 (o2 (oV 0) (oC (.int 2)) ax) (oV 3) jm)) (sSeq (aM 7 (o2 (o2 (oV 0) (oC (.int 3)) ax) (oV 3) jm)) (sSeq (sIf (ob (o2 (o2 (oV 2) (oC (.int 2)) bX) (oC (.int 1)) bo)) (aH (os (ad (oV 4) (ad (oV 5) (ad (oV 6) (ad (oV 7) (al))))) eE)) (gz)) (aH (os (ad (oV 4) (ad (oV 5) (ad (oV 6) (ad (oV 7) (al))))) aZ))))))))
noncomputable def bF:List D->Option D:=runB i5 2 dR
noncomputable abbrev t7:Stmt:=eV 12
noncomputable abbrev Di:List Str:=["x","y","k","s","t"]
noncomputable def xM:Sf:=sSeq (aM 2 (os (ad (o2 (oV 0) (oC (.int 4)) ax) (ad (o2 (oV 1) (oC (.int 4)) ax) (al))) xg)) (sSeq (aM 3 (os (ad (oV 0) (ad (oV 2) (al))) bF)) (sSeq (aM 4 (os (ad (oV 1) (ad (oV 2) (al))) bF)) (aH (os (ad (o2 (o2 (oV 3) (oC (.int 0)) ax) (o2 (oV 4) (oC (.int 0)) ax) cf) (ad (o2 (o2 (oV 3) (oC (.int 1)) ax) (o2 (oV 4) (oC (.int 1)) ax) cf) (ad (o2 (o2 (oV 3) (oC (.int 2)) ax) (o2 (oV 4) (oC (.int 2)) ax) cf) (ad (o2 (o2 (oV 3) (oC (.int 3)) ax) (o2 (oV 4) (oC (.int 3)) ax) cf) (ad (oV 2) (al)))))) fT))))
noncomputable def ja:List D->Option D:=runB Di 2 xM
noncomputable abbrev lg:Stmt:=eV 13
noncomputable abbrev tN:List Str:=["x"]
noncomputable def oj:Sf:=aH (os (ad (o1 (o2 (oV 0) (oC (.int 0)) ax) negD) (ad (o1 (o2 (oV 0) (oC (.int 1)) ax) negD) (ad (o1 (o2 (oV 0) (oC (.int 2)) ax) negD) (ad (o1 (o2 (oV 0) (oC (.int 3)) ax) negD) (ad (o2 (oV 0) (oC (.int 4)) ax) (al)))))) aZ)
noncomputable def fD:List D->Option D:=runB tN 1 oj
noncomputable abbrev mO:Stmt:=eV 14
noncomputable abbrev wA:List Str:=["x","e","around"]
noncomputable def rj:Sf:=sSeq (aM 2 (os (ad (o2 (oV 0) (oC (.int 0)) ax) (ad (o2 (oV 0) (oC (.int 1)) ax) (ad (o2 (oV 0) (oC (.int 2)) ax) (ad (o2 (oV 0) (oC (.int 3)) ax) (ad (o1 (o2 (oV 0) (oC (.int 0)) ax) negD) (ad (o1 (o2 (oV 0) (oC (.int 1)) ax) negD) (ad (o1 (o2 (oV 0) (oC (.int 2)) ax) negD) (ad (o1 (o2 (oV 0) (oC (.int 3)) ax) negD) (al))))))))) aZ)) (aH (os (ad (o2 (oV 2) (o2 (o2 (oC (.int 0)) (oV 1) dW) (oC (.int 8)) bX) ax) (ad (o2 (oV 2) (o2 (o2 (oC (.int 1)) (oV 1) dW) (oC (.int 8)) bX) ax) (ad (o2 (oV 2) (o2 (o2 (oC (.int 2)) (oV 1) dW) (oC (.int 8)) bX) ax) (ad (o2 (oV 2) (o2 (o2 (oC (.int 3)) (oV 1) dW) (oC (.int 8)) bX) ax) (ad (o2 (oV 0) (oC (.int 4)) ax) (al)))))) aZ))
noncomputable def da:List D->Option D:=runB wA 2 rj
noncomputable abbrev mQ:Stmt:=eV 15
noncomputable abbrev wB:List Str:=["x"]
noncomputable def rn:Sf:=aH (os (ad (o2 (oV 0) (oC (.int 0)) ax) (ad (o2 (oV 0) (oC (.int 1)) ax) (ad (o2 (oV 0) (oC (.int 2)) ax) (ad (o2 (oV 0) (oC (.int 3)) ax) (ad (o2 (o2 (oV 0) (oC (.int 4)) ax) (oC (.int 1)) cf) (al)))))) fT)
noncomputable def eS:List D->Option D:=runB wB 1 rn
noncomputable abbrev kX:Stmt:=eV 17
noncomputable abbrev zm:List Str:=["p","q","k","twos"]
noncomputable def u4:Sf:=sSeq (aM 3 (os (ad (o2 (oV 0) (oV 1) zP) (ad (oV 2) (al))) bI)) (aH (os (ad (o2 (oV 0) (oV 3) jF) (ad (o2 (oV 1) (oV 3) jF) (ad (o2 (oV 2) (oV 3) dW) (al)))) aZ))
noncomputable def eZ:List D->Option D:=runB zm 3 u4
noncomputable abbrev di:Stmt:=eV 18
noncomputable abbrev gS:List Str:=["x","k","more"]
noncomputable def eJ:Sf:=sSeq (aM 2 (o2 (oV 1) (o2 (oV 0) (oC (.int 2)) ax) dW)) (aH (os (ad (o2 (o2 (oV 0) (oC (.int 0)) ax) (oV 2) jm) (ad (o2 (o2 (oV 0) (oC (.int 1)) ax) (oV 2) jm) (al))) aZ))
noncomputable def bD:List D->Option D:=runB gS 2 eJ
noncomputable abbrev gX:Stmt:=eV 20
noncomputable abbrev nq:List Str:=["x","y","k","s","t"]
noncomputable def jT:Sf:=sSeq (aM 2 (os (ad (o2 (oV 0) (oC (.int 2)) ax) (ad (o2 (oV 1) (oC (.int 2)) ax) (al))) xg)) (sSeq (aM 3 (os (ad (oV 0) (ad (oV 2) (al))) bD)) (sSeq (aM 4 (os (ad (oV 1) (ad (oV 2) (al))) bD)) (aH (os (ad (o2 (o2 (oV 3) (oC (.int 0)) ax) (o2 (oV 4) (oC (.int 0)) ax) cf) (ad (o2 (o2 (oV 3) (oC (.int 1)) ax) (o2 (oV 4) (oC (.int 1)) ax) cf) (ad (oV 2) (al)))) eZ))))
noncomputable def eB:List D->Option D:=runB nq 2 jT
noncomputable abbrev kW:Stmt:=eV 21
noncomputable abbrev tK:List Str:=["x","whole_part","root_part"]
noncomputable def oa:Sf:=sSeq (aM 1 (o2 (o2 (o2 (o2 (o2 (oV 0) (oC (.int 0)) ax) (o2 (oV 0) (oC (.int 0)) ax) g6) (o2 (o2 (oV 0) (oC (.int 1)) ax) (o2 (oV 0) (oC (.int 1)) ax) g6) cf) (o2 (o2 (oV 0) (oC (.int 2)) ax) (o2 (oV 0) (oC (.int 2)) ax) g6) cf) (o2 (o2 (oV 0) (oC (.int 3)) ax) (o2 (oV 0) (oC (.int 3)) ax) g6) cf)) (sSeq (aM 2 (o2 (o2 (o2 (o2 (o2 (oV 0) (oC (.int 0)) ax) (o2 (oV 0) (oC (.int 1)) ax) g6) (o2 (o2 (oV 0) (oC (.int 1)) ax) (o2 (oV 0) (oC (.int 2)) ax) g6) cf) (o2 (o2 (oV 0) (oC (.int 2)) ax) (o2 (oV 0) (oC (.int 3)) ax) g6) cf) (o2 (o2 (oV 0) (oC (.int 3)) ax) (o2 (oV 0) (oC (.int 0)) ax) g6) dW)) (aH (os (ad (oV 1) (ad (oV 2) (ad (o2 (oV 0) (oC (.int 4)) ax) (al)))) eZ)))
noncomputable def gi:List D->Option D:=runB tK 1 oa
noncomputable abbrev pL:Stmt:=eV 23
noncomputable abbrev zi:List Str:=["wires","wire"]
noncomputable def uY:Sf:=aH (o2 (oC (.int 1)) (o2 (o2 (oV 0) (oC (.int 1)) dW) (oV 1) dW) jm)
noncomputable def bY:List D->Option D:=runB zi 2 uY
noncomputable abbrev jq:Stmt:=eV 24
noncomputable abbrev oo:List Str:=["wires","place"]
noncomputable def md:Dv->Option D:=dI (oL (ad (oV 0) (al)) bQ) [(0,"wires"),(1,"place")] p3 (o2 (o2 (oV 2) (o2 (o2 (oV 1) (oC (.int 1)) dW) (oV 0) dW) jF) (oC (.int 1)) iG)
noncomputable def oi:Sf:=aH (os (ad (md) (al)) df)
noncomputable def fC:List D->Option D:=runB oo 2 oi
noncomputable abbrev d9:Stmt:=eV 25
noncomputable abbrev kL:List Str:=["wires","place"]
noncomputable def mU:Dv->Option D:=dI (oL (ad (o2 (oC (.int 1)) (oV 0) jm) (al)) bQ) [(1,"place")] p3 (yI (ob (o2 (oV 0) (oV 1) bo)) (oC (.tuple [.int 1,.int 0,.int 0,.int 0,.int 0])) (oC (.tuple [.int 0,.int 0,.int 0,.int 0,.int 0])))
noncomputable def kG:Sf:=aH (os (ad (mU) (al)) df)
noncomputable def dc:List D->Option D:=runB kL 2 kG
noncomputable abbrev pN:Stmt:=eV 26
noncomputable abbrev zk:List Str:=["state","bit","told","p"]
noncomputable def gB:Sf:=sIf (ob (o2 (o2 (oV 3) (oV 1) iG) (oC (.int 0)) bo)) (wU 2 (os (ad (os (ad (o2 (oV 0) (oV 3) ax) (ad (o2 (oV 0) (o2 (oV 3) (oV 1) j4) ax) (al))) ja) (al)) eS)) (wU 2 (os (ad (os (ad (o2 (oV 0) (o2 (oV 3) (oV 1) j4) ax) (ad (os (ad (o2 (oV 0) (oV 3) ax) (al)) fD) (al))) ja) (al)) eS))
noncomputable def u3:Sf:=sSeq (wT 2 (al)) (sSeq (j3 (oL (ad (os (ad (oV 0) (al)) ck) (al)) bQ) (gN 3) (gB)) (fun δ=>(aH (os (ad (oV 2) (al)) df)) (pi 2 δ)))
noncomputable def iW:List D->Option D:=runB zk 2 u3
noncomputable abbrev dZ:Stmt:=eV 27
noncomputable abbrev ix:List Str:=["state","held","e"]
noncomputable def jX:Dv->Option D:=dI (oL (ad (os (ad (oV 0) (al)) ck) (al)) bQ) [(0,"state"),(1,"held"),(2,"e")] p3 (yI (ob (o2 (o2 (oV 0) (oV 2) iG) (oV 2) bo)) (os (ad (o2 (oV 1) (oV 0) ax) (ad (oV 3) (al))) da) (o2 (oV 1) (oV 0) ax))
noncomputable def ij:Sf:=aH (os (ad (jX) (al)) df)
noncomputable def bJ:List D->Option D:=runB ix 3 ij
noncomputable abbrev dG:Stmt:=eV 28
noncomputable abbrev gP:List Str:=["state","held","bit"]
noncomputable def js:Dv->Option D:=dI (oL (ad (os (ad (oV 0) (al)) ck) (al)) bQ) [(0,"state"),(1,"held"),(2,"bit")] p3 (yI (ob (o2 (o2 (oV 0) (oV 2) iG) (oV 2) bo)) (o2 (oV 1) (o2 (oV 0) (oV 3) j4) ax) (o2 (oV 1) (oV 0) ax))
noncomputable def gM:Sf:=aH (os (ad (js) (al)) df)
noncomputable def bw:List D->Option D:=runB gP 3 gM
noncomputable abbrev iQ:Stmt:=eV 29
noncomputable abbrev oQ:List Str:=["place","both"]
noncomputable def iY:Sf:=aH (yI (ob (o2 (o2 (oV 0) (oV 1) iG) (os (ad (oC (.int 0)) (ad (oV 1) (al))) aZ) (La false))) (oV 0) (o2 (oV 0) (oV 1) j4))
noncomputable def bG:List D->Option D:=runB oQ 2 iY
noncomputable abbrev qv:Stmt:=eV 30
noncomputable abbrev xT:List Str:=["state","row","wires","first","second"]
noncomputable def uf:Dv->Option D:=dI (oL (ad (os (ad (oV 0) (al)) ck) (al)) bQ) [(0,"state"),(3,"first"),(4,"second")] p3 (o2 (oV 1) (os (ad (oV 0) (ad (o2 (oV 2) (oV 3) zP) (al))) bG) ax)
noncomputable def kF:Sf:=sSeq (aM 2 (o2 (o1 (os (ad (oV 0) (al)) ck) nh) (oC (.int 1)) dW)) (sSeq (aM 3 (os (ad (oV 2) (ad (o2 (oV 1) (oC (.int 1)) ax) (al))) bY)) (sSeq (sIf (ob (o2 (o2 (oV 1) (oC (.int 0)) ax) (oC (.str "swing")) bo)) (aH (os (ad (oV 0) (ad (oV 3) (al))) iW)) (gz)) (sSeq (sIf (ob (o2 (o2 (oV 1) (oC (.int 0)) ax) (oC (.str "turn")) bo)) (aH (os (ad (oV 0) (ad (oV 3) (ad (o2 (oV 1) (oC (.int 2)) ax) (al)))) bJ)) (gz)) (sSeq (sIf (ob (o2 (o2 (oV 1) (oC (.int 0)) ax) (oC (.str "flip")) bo)) (aH (os (ad (oV 0) (ad (oC (.int 0)) (ad (oV 3) (al)))) bw)) (gz)) (sSeq (aM 4 (os (ad (oV 2) (ad (o2 (oV 1) (oC (.int 2)) ax) (al))) bY)) (sSeq (sIf (ob (o2 (o2 (oV 1) (oC (.int 0)) ax) (oC (.str "tie")) bo)) (aH (os (ad (oV 0) (ad (oV 3) (ad (oV 4) (al)))) bw)) (gz)) (sSeq (sIf (ob (o2 (o2 (oV 1) (oC (.int 0)) ax) (oC (.str "sign")) bo)) (aH (os (ad (oV 0) (ad (o2 (oV 3) (oV 4) zP) (ad (oC (.int 4)) (al)))) bJ)) (gz)) (aH (os (ad (uf) (al)) df)))))))))
noncomputable def dO:List D->Option D:=runB xT 2 kF
noncomputable abbrev pM:Stmt:=eV 31
noncomputable abbrev zj:List Str:=["state","told","x"]
noncomputable def mY:Sf:=aM 1 (os (ad (oV 1) (ad (os (ad (oV 2) (al)) gi) (al))) eB)
noncomputable def uZ:Sf:=sSeq (aM 1 (os (ad (oC (.int 0)) (ad (oC (.int 0)) (ad (oC (.int 0)) (al)))) aZ)) (sSeq (j3 (oI (oV 0) eQ) (gN 2) (mY)) (aH (oV 1)))
noncomputable def iV:List D->Option D:=runB zj 1 uZ
noncomputable abbrev jp:Stmt:=eV 33
noncomputable abbrev om:List Str:=["state","bit","mark","found"]
noncomputable def ma:Dv->Option D:=dI (oL (ad (os (ad (oV 0) (al)) ck) (al)) bQ) [(0,"state"),(1,"bit"),(3,"found")] p3 (yI (ob (o2 (o2 (oV 0) (oV 2) iG) (oV 3) bo)) (o2 (oV 1) (oV 0) ax) (oC (.tuple [.int 0,.int 0,.int 0,.int 0,.int 0])))
noncomputable def lE:Sf:=sSeq (aM 3 (yI (ob (o2 (oV 2) (oC (.int 1)) bo)) (oV 1) (oC (.int 0)))) (aH (os (ad (ma) (al)) df))
noncomputable def du:List D->Option D:=runB om 3 lE
noncomputable abbrev gy:Stmt:=eV 34
noncomputable abbrev kK:List Str:=["state"]
noncomputable def mT:Dv->Option D:=dI (oI (oV 0) eQ) [] p3 (o2 (oV 0) (oC (.tuple [.int 0,.int 0,.int 0,.int 0,.int 0])) bo)
noncomputable def kE:Sf:=aH (os (ad (mT) (al)) Gq)
noncomputable def fB:List D->Option D:=runB kK 1 kE
noncomputable abbrev jn:Stmt:=eV 35
noncomputable abbrev N_parted:List Str:=["branch","wire","bit","pairs"]
noncomputable def sN:Dv->Option D:=dI (oI (os (ad (oC (.int 0)) (ad (oC (.int 1)) (al))) aZ) eQ) [(0,"branch"),(2,"bit")] p3 (os (ad (o2 (o2 (oV 1) (oC (.int 0)) ax) (os (ad (oV 0) (al)) aZ) cf) (ad (os (ad (o2 (oV 1) (oC (.int 1)) ax) (ad (oV 2) (ad (oV 0) (al)))) du) (al))) aZ)
noncomputable def sM:Dv->Option D:=mj (oI (oV 3) eQ) [] p3 (i9 (ob (os (ad (o2 (oV 0) (oC (.int 1)) ax) (al)) fB))) (oV 0)
noncomputable def rk:Sf:=sSeq (aM 2 (os (ad (o2 (o1 (os (ad (o2 (oV 0) (oC (.int 1)) ax) (al)) ck) nh) (oC (.int 1)) dW) (ad (oV 1) (al))) bY)) (sSeq (aM 3 (sN)) (aH (sM)))
noncomputable def eR:List D->Option D:=runB N_parted 2 rk
noncomputable abbrev kY:Stmt:=eV 36
noncomputable abbrev N_gone_on:List Str:=["branch","row"]
noncomputable def og:Sf:=aH (os (ad (o2 (oV 0) (oC (.int 0)) ax) (ad (os (ad (o2 (oV 0) (oC (.int 1)) ax) (ad (oV 1) (al))) dO) (al))) aZ)
noncomputable def dw:List D->Option D:=runB N_gone_on 2 og
noncomputable abbrev dB:Stmt:=eV 54
noncomputable abbrev fY:List Str:=["rows"]
noncomputable def gu:Dv->Option D:=dI (oI (oV 0) eQ) [] p3 (vI (o2 (o2 (oV 0) (oC (.int 0)) ax) (oC (.str "turn")) bo) (o2 (o2 (o2 (oV 0) (oC (.int 2)) ax) (oC (.int 2)) bX) (oC (.int 1)) bo))
noncomputable def hU:Sf:=sIf (ob (os (ad (gu) (al)) wy)) (LK) (gz)
noncomputable def bn:List D->Option D:=runB fY 1 hU
noncomputable def jc:Xf:=L3 (ob (os (ad (gu) (al)) wy)) (A0 "OddTurn" (oC (.str "tables have no turn of an odd e"))) (xNo)
noncomputable def dA:List D->Option Str:=rP fY 1 jc
noncomputable abbrev jH:Stmt:=eV 42
noncomputable abbrev rE:List Str:=["bitset","bits","shared","value"]
noncomputable def fq:Dv->Option Bool:=ob (o2 (oV 2) (oC (.int 0)) neD)
noncomputable def gA:Sf:=sSeq (aM 2 (o2 (oV 2) (o2 (oV 2) (oC (.int 1)) dW) iG)) (aM 3 (o2 (oC (.int 1)) (oV 3) dW))
noncomputable def mz:Sf:=sSeq (aM 2 (o2 (oV 0) (oV 1) iG)) (sSeq (aM 3 (oC (.int 0))) (sSeq (fun δ=>iH (fq) (gA) wN δ) (aH (oV 3))))
noncomputable def bp:List D->Option D:=runB rE 2 mz
noncomputable abbrev eX:Stmt:=eV 47
noncomputable abbrev j1:List Str:=["word","bit","changed","s"]
noncomputable def gL:Sf:=sSeq (aM 2 (o2 (o2 (o2 (oV 0) (oC (.int 0)) ax) (o2 (oV 0) (oC (.int 1)) ax) j4) (oV 1) iG)) (sSeq (aM 3 (o2 (o2 (oV 0) (oC (.int 2)) ax) (o2 (oC (.int 2)) (os (ad (o2 (o2 (oV 0) (oC (.int 0)) ax) (o2 (oV 0) (oC (.int 1)) ax) iG) (ad (oV 1) (al))) bp) g6) cf)) (aH (os (ad (o2 (o2 (oV 0) (oC (.int 0)) ax) (oV 2) j4) (ad (o2 (o2 (oV 0) (oC (.int 1)) ax) (oV 2) j4) (ad (o2 (oV 3) (oC (.int 4)) bX) (al)))) aZ)))
noncomputable def cE:List D->Option D:=runB j1 2 gL
noncomputable abbrev fI:Stmt:=eV 48
noncomputable abbrev kH:List Str:=["word","bit","e","z"]
noncomputable def ez:Sf:=sSeq (sIf (ob (o2 (o2 (o2 (oV 0) (oC (.int 0)) ax) (oV 1) iG) (oC (.int 0)) bo)) (aH (oV 0)) (gz)) (sSeq (sIf (ob (o2 (o2 (oV 2) (oC (.int 2)) bX) (oC (.int 1)) bo)) (LK) (gz)) (sSeq (aM 3 (yI (ob (o2 (o2 (oV 2) (oC (.int 4)) bX) (oC (.int 2)) bo)) (o2 (o2 (oV 0) (oC (.int 1)) ax) (oV 1) j4) (o2 (oV 0) (oC (.int 1)) ax))) (aH (os (ad (o2 (oV 0) (oC (.int 0)) ax) (ad (oV 3) (ad (o2 (o2 (o2 (oV 0) (oC (.int 2)) ax) (o2 (oV 2) (oC (.int 2)) gJ) cf) (oC (.int 4)) bX) (al)))) aZ))))
noncomputable def bK:List D->Option D:=runB kH 3 ez
noncomputable abbrev gp:Stmt:=eV 49
noncomputable abbrev lP:List Str:=["word","first","second","x","z"]
noncomputable def dN:Sf:=sSeq (aM 3 (yI (ob (o2 (o2 (o2 (oV 0) (oC (.int 0)) ax) (oV 1) iG) (oC (.int 0)) neD)) (o2 (o2 (oV 0) (oC (.int 0)) ax) (oV 2) j4) (o2 (oV 0) (oC (.int 0)) ax))) (sSeq (aM 4 (yI (ob (o2 (o2 (o2 (oV 0) (oC (.int 1)) ax) (oV 2) iG) (oC (.int 0)) neD)) (o2 (o2 (oV 0) (oC (.int 1)) ax) (oV 1) j4) (o2 (oV 0) (oC (.int 1)) ax))) (aH (os (ad (oV 3) (ad (oV 4) (ad (o2 (oV 0) (oC (.int 2)) ax) (al)))) aZ)))
noncomputable def bV:List D->Option D:=runB lP 3 dN
noncomputable abbrev fL:Stmt:=eV 50
noncomputable abbrev kJ:List Str:=["word","first","second","z","both","s"]
noncomputable def il:Sf:=sSeq (aM 3 (o2 (oV 0) (oC (.int 1)) ax)) (sSeq (sIf (ob (o2 (o2 (o2 (oV 0) (oC (.int 0)) ax) (oV 1) iG) (oC (.int 0)) neD)) (aM 3 (o2 (oV 3) (oV 2) j4)) (gz)) (sSeq (sIf (ob (o2 (o2 (o2 (oV 0) (oC (.int 0)) ax) (oV 2) iG) (oC (.int 0)) neD)) (aM 3 (o2 (oV 3) (oV 1) j4)) (gz)) (sSeq (aM 4 (o2 (oV 1) (oV 2) zP)) (sSeq (aM 5 (yI (ob (o2 (o2 (o2 (oV 0) (oC (.int 0)) ax) (oV 4) iG) (oV 4) bo)) (o2 (o2 (oV 0) (oC (.int 2)) ax) (oC (.int 2)) cf) (o2 (oV 0) (oC (.int 2)) ax))) (aH (os (ad (o2 (oV 0) (oC (.int 0)) ax) (ad (oV 3) (ad (o2 (oV 5) (oC (.int 4)) bX) (al)))) aZ))))))
noncomputable def cS:List D->Option D:=runB kJ 3 il
noncomputable abbrev kZ:Stmt:=eV 51
noncomputable abbrev tL:List Str:=["wires","word","row","first","second"]
noncomputable def fF:Sf:=sSeq (aM 3 (os (ad (oV 0) (ad (o2 (oV 2) (oC (.int 1)) ax) (al))) bY)) (sSeq (sIf (ob (o2 (o2 (oV 2) (oC (.int 0)) ax) (oC (.str "swing")) bo)) (aH (os (ad (oV 1) (ad (oV 3) (al))) cE)) (gz)) (sSeq (sIf (ob (o2 (o2 (oV 2) (oC (.int 0)) ax) (oC (.str "turn")) bo)) (aH (os (ad (oV 1) (ad (oV 3) (ad (o2 (oV 2) (oC (.int 2)) ax) (al)))) bK)) (gz)) (sSeq (sIf (ob (o2 (o2 (oV 2) (oC (.int 0)) ax) (oC (.str "flip")) bo)) (aH (os (ad (o2 (oV 1) (oC (.int 0)) ax) (ad (o2 (oV 1) (oC (.int 1)) ax) (ad (o2 (o2 (o2 (oV 1) (oC (.int 2)) ax) (o2 (oC (.int 2)) (os (ad (o2 (oV 1) (oC (.int 1)) ax) (ad (oV 3) (al))) bp) g6) cf) (oC (.int 4)) bX) (al)))) aZ)) (gz)) (sSeq (aM 4 (os (ad (oV 0) (ad (o2 (oV 2) (oC (.int 2)) ax) (al))) bY)) (sSeq (sIf (ob (o2 (o2 (oV 2) (oC (.int 0)) ax) (oC (.str "tie")) bo)) (aH (os (ad (oV 1) (ad (oV 3) (ad (oV 4) (al)))) bV)) (gz)) (sSeq (sIf (ob (o2 (o2 (oV 2) (oC (.int 0)) ax) (oC (.str "sign")) bo)) (aH (os (ad (oV 1) (ad (oV 3) (ad (oV 4) (al)))) cS)) (gz)) (aH (os (ad (os (ad (o2 (oV 1) (oC (.int 0)) ax) (ad (o2 (oV 3) (oV 4) zP) (al))) bG) (ad (os (ad (o2 (oV 1) (oC (.int 1)) ax) (ad (o2 (oV 3) (oV 4) zP) (al))) bG) (ad (o2 (oV 1) (oC (.int 2)) ax) (al)))) aZ))))))))
noncomputable def bH:List D->Option D:=runB tL 3 fF
noncomputable abbrev fK:Stmt:=eV 55
noncomputable abbrev jW:List Str:=["table","row","wires"]
noncomputable def i8:Dv->Option D:=dI (oI (oV 0) eQ) [(1,"row"),(2,"wires")] p3 (os (ad (os (ad (oV 2) (ad (o2 (oV 0) (oC (.int 0)) ax) (ad (oV 1) (al)))) bH) (ad (os (ad (oV 2) (ad (o2 (oV 0) (oC (.int 1)) ax) (ad (oV 1) (al)))) bH) (al))) aZ)
noncomputable def jS:Sf:=sSeq (sG (os (ad (os (ad (oV 1) (al)) aZ) (al)) bn)) (sSeq (aM 2 (os (ad (oV 0) (al)) ck)) (aH (os (ad (i8) (al)) df)))
noncomputable def db:List D->Option D:=runB jW 2 jS
noncomputable abbrev eW:Stmt:=eV 65
noncomputable abbrev N_table_gone_on:List Str:=["branch","row"]
noncomputable def gK:Sf:=aH (os (ad (o2 (oV 0) (oC (.int 0)) ax) (ad (os (ad (o2 (oV 0) (oC (.int 1)) ax) (ad (oV 1) (al))) db) (ad (o2 (oV 0) (oC (.int 2)) ax) (al)))) aZ)
noncomputable def aX:List D->Option D:=runB N_table_gone_on 2 gK
noncomputable abbrev gq:Stmt:=eV 37
noncomputable abbrev lQ:List Str:=["branch","row","go"]
noncomputable def eU:Sf:=sSeq (sIf (ob (o2 (o2 (oV 1) (oC (.int 0)) ax) (oC (.str "where")) neD)) (aH (gH 2 (ad (oV 0) (ad (oV 1) (al))) (("gone_on",dw)::(("table_gone_on",aX)::[])))) (gz)) (aH (yI (ob (o2 (o2 (o2 (oV 0) (oC (.int 0)) ax) (o2 (oV 1) (oC (.int 1)) ax) ax) (oC (.int 1)) bo)) (gH 2 (ad (oV 0) (ad (o2 (oV 1) (oC (.int 2)) ax) (al))) (("gone_on",dw)::(("table_gone_on",aX)::[]))) (oV 0)))
noncomputable def bL:List D->Option D:=runB lQ 3 eU
noncomputable abbrev iO:Stmt:=eV 56
noncomputable abbrev oN:List Str:=["table","wire","mark"]
noncomputable def kD:Sf:=aH (os (ad (oC (.int 0)) (ad (os (ad (os (ad (oV 0) (al)) ck) (ad (oV 1) (al))) bY) (ad (o2 (oC (.int 2)) (oV 2) g6) (al)))) aZ)
noncomputable def cg:List D->Option D:=runB oN 3 kD
noncomputable abbrev gW:Stmt:=eV 44
noncomputable abbrev nk:List Str:=["one","other","s"]
noncomputable def jR:Sf:=sSeq (aM 2 (o2 (o2 (o2 (oV 0) (oC (.int 2)) ax) (o2 (oV 1) (oC (.int 2)) ax) cf) (o2 (oC (.int 2)) (os (ad (o2 (oV 0) (oC (.int 1)) ax) (ad (o2 (oV 1) (oC (.int 0)) ax) (al))) bp) g6) cf)) (aH (os (ad (o2 (o2 (oV 0) (oC (.int 0)) ax) (o2 (oV 1) (oC (.int 0)) ax) j4) (ad (o2 (o2 (oV 0) (oC (.int 1)) ax) (o2 (oV 1) (oC (.int 1)) ax) j4) (ad (o2 (oV 2) (oC (.int 4)) bX) (al)))) aZ))
noncomputable def bh:List D->Option D:=runB nk 2 jR
noncomputable abbrev pO:Stmt:=eV 45
noncomputable abbrev zn:List Str:=["one","other"]
noncomputable def u5:Sf:=aH (o2 (os (ad (oV 0) (ad (oV 1) (al))) bh) (os (ad (oV 1) (ad (oV 0) (al))) bh) bo)
noncomputable def eF:List D->Option D:=runB zn 2 u5
noncomputable abbrev eO:Stmt:=eV 58
noncomputable abbrev jh:List Str:=["table","word"]
noncomputable def ke:Dv->Option D:=mj (oL (ad (os (ad (oV 0) (al)) ck) (al)) bQ) [(0,"table"),(1,"word")] p3 (i9 (ob (os (ad (o2 (o2 (oV 1) (oV 0) ax) (oC (.int 0)) ax) (ad (oV 2) (al))) eF))) (oV 0)
noncomputable def jf:Sf:=aH (ke)
noncomputable def cO:List D->Option D:=runB jh 2 jf
noncomputable abbrev eh:Stmt:=eV 57
noncomputable abbrev iy:List Str:=["table","word"]
noncomputable def jZ:Dv->Option D:=mj (oL (ad (os (ad (oV 0) (al)) ck) (al)) bQ) [(0,"table"),(1,"word")] p3 (i9 (ob (os (ad (o2 (o2 (oV 1) (oV 0) ax) (oC (.int 1)) ax) (ad (oV 2) (al))) eF))) (oV 0)
noncomputable def ip:Sf:=aH (jZ)
noncomputable def aY:List D->Option D:=runB iy 2 ip
noncomputable abbrev iP:Stmt:=eV 59
noncomputable abbrev oO:List Str:=["table","wire","word","product","other"]
noncomputable def fS:Sf:=aM 3 (os (ad (oV 3) (ad (o2 (o2 (oV 0) (oV 4) ax) (oC (.int 1)) ax) (al))) bh)
noncomputable def iX:Sf:=sSeq (aM 2 (os (ad (oV 0) (ad (oV 1) (ad (oC (.int 0)) (al)))) cg)) (sSeq (sIf (ob (o2 (os (ad (oV 0) (ad (oV 2) (al))) aY) (os (al) jw) neD)) (aH (oC .none)) (gz)) (sSeq (aM 3 (os (ad (oC (.int 0)) (ad (oC (.int 0)) (ad (oC (.int 0)) (al)))) aZ)) (sSeq (j3 (oI (os (ad (oV 0) (ad (oV 2) (al))) cO) eQ) (gN 4) (fS)) (aH (yI (ob (o2 (oV 3) (oV 2) bo)) (oC (.int 0)) (oC (.int 1)))))))
noncomputable def br:List D->Option D:=runB oO 2 iX
noncomputable abbrev jI:Stmt:=eV 60
noncomputable abbrev rJ:List Str:=["word","look","keeper"]
noncomputable def mE:Sf:=aH (yI (ob (os (ad (oV 0) (ad (oV 1) (al))) eF)) (oV 0) (os (ad (oV 0) (ad (oV 2) (al))) bh))
noncomputable def er:List D->Option D:=runB rJ 3 mE
noncomputable abbrev j5:Stmt:=eV 61
noncomputable abbrev rF:List Str:=["table","wire","look","keeper","told"]
noncomputable def nG:Dv->Option D:=dI (oI (oV 0) eQ) [(2,"look"),(3,"keeper")] p3 (os (ad (os (ad (o2 (oV 0) (oC (.int 0)) ax) (ad (oV 1) (ad (oV 2) (al)))) er) (ad (os (ad (o2 (oV 0) (oC (.int 1)) ax) (ad (oV 1) (ad (oV 2) (al)))) er) (al))) aZ)
noncomputable def rm:Sf:=sSeq (aM 3 (o2 (o2 (oV 0) (oV 1) ax) (oC (.int 1)) ax)) (sSeq (ou 4 (yH (nG))) (sSeq (Kd 4 (oV 1) (os (ad (oV 3) (ad (oV 2) (al))) aZ)) (fun δ=>(aH (os (ad (oV 4) (al)) df)) (pi 4 δ))))
noncomputable def gC:List D->Option D:=runB rF 3 rm
noncomputable abbrev fJ:Stmt:=eV 62
noncomputable abbrev kI:List Str:=["table","wire","mark","told","look"]
noncomputable def ik:Sf:=sSeq (aM 3 (os (ad (oV 0) (ad (oV 1) (al))) br)) (sSeq (aM 4 (os (ad (oV 0) (ad (oV 1) (ad (oV 2) (al)))) cg)) (sSeq (sIf (ob (o2 (oV 3) (oC .none) isD)) (aH (os (ad (oV 0) (ad (o2 (os (ad (oV 0) (ad (oV 4) (al))) aY) (oC (.int 0)) ax) (ad (oV 4) (al)))) gC)) (gz)) (sSeq (sIf (ob (o2 (oV 3) (oV 2) neD)) (LK) (gz)) (aH (oV 0)))))
noncomputable def bq:List D->Option D:=runB kI 3 ik
noncomputable abbrev d6:Stmt:=eV 64
noncomputable abbrev N_table_parted:List Str:=["branch","wire","sure"]
noncomputable def jY:Dv->Option D:=dI (oI (os (ad (oC (.int 0)) (ad (oC (.int 1)) (al))) aZ) eQ) [(0,"branch"),(1,"wire")] p3 (os (ad (o2 (o2 (oV 1) (oC (.int 0)) ax) (os (ad (oV 0) (al)) aZ) cf) (ad (os (ad (o2 (oV 1) (oC (.int 1)) ax) (ad (oV 2) (ad (oV 0) (al)))) bq) (ad (o2 (o2 (oV 1) (oC (.int 2)) ax) (oC (.int 1)) cf) (al)))) aZ)
noncomputable def fW:Sf:=sSeq (aM 2 (os (ad (o2 (oV 0) (oC (.int 1)) ax) (ad (oV 1) (al))) br)) (sSeq (sIf (ob (o2 (oV 2) (oC .none) sT)) (aH (os (ad (os (ad (o2 (o2 (oV 0) (oC (.int 0)) ax) (os (ad (oV 2) (al)) aZ) cf) (ad (o2 (oV 0) (oC (.int 1)) ax) (ad (o2 (oV 0) (oC (.int 2)) ax) (al)))) aZ) (al)) jw)) (gz)) (aH (jY)))
noncomputable def aW:List D->Option D:=runB N_table_parted 2 fW
noncomputable abbrev cQ:Stmt:=eV 38
noncomputable abbrev fZ:List Str:=["rows","begun","part","go","told","row","further","branch"]
noncomputable def gG:Dv->Option D:=dI (oI (oV 4) eQ) [(3,"go"),(5,"row")] p3 (os (ad (oV 0) (ad (oV 2) (ad (oV 1) (al)))) bL)
noncomputable def cD:Sf:=yq 6 (gH 2 (ad (oV 7) (ad (o2 (oV 5) (oC (.int 1)) ax) (al))) (("parted",eR)::(("table_parted",aW)::[])))
noncomputable def bN:Sf:=sIf (ob (o2 (o2 (oV 5) (oC (.int 0)) ax) (oC (.str "look")) bo)) (sSeq (wT 6 (al)) (sSeq (fun δ=>(j3 (oI (oV 4) eQ) (gN 7) (cD)) (pi 4 δ)) (yp 4 6))) (fun δ=>(ou 4 (yH (gG))) (pi 4 δ))
noncomputable def io:Sf:=sSeq (wT 4 (ad (oV 1) (al))) (sSeq (j3 (oI (oV 0) eQ) (gN 5) (bN)) (yo 4))
noncomputable def aK:List D->Option D:=runB fZ 4 io
noncomputable abbrev gg:Stmt:=eV 39
noncomputable abbrev rH:List Str:=["circuit","place"]
noncomputable def mD:Sf:=aH (os (ad (o2 (oV 0) (oC (.int 1)) ax) (ad (os (ad (os (al) aZ) (ad (os (ad (o2 (oV 0) (oC (.int 0)) ax) (ad (oV 1) (al))) dc) (al))) aZ) (ad (oC (gD "parted")) (ad (oC (gD "gone_on")) (al))))) aK)
noncomputable def cF:List D->Option D:=runB rH 2 mD
noncomputable abbrev dh:Stmt:=eV 40
noncomputable abbrev jg:List Str:=["circuit","place"]
noncomputable def kc:Dv->Option D:=dI (oI (os (ad (oV 0) (ad (oV 1) (al))) cF) eQ) [] p3 (os (ad (o2 (oV 0) (oC (.int 0)) ax) (ad (os (ad (o2 (oV 0) (oC (.int 1)) ax) (al)) iV) (al))) aZ)
noncomputable def je:Sf:=aH (kc)
noncomputable def cq:List D->Option D:=runB jg 2 je
noncomputable abbrev iN:Stmt:=eV 46
noncomputable abbrev oM:List Str:=["state","word","told","p","begun"]
noncomputable def fR:Sf:=sSeq (aM 4 (o2 (oV 3) (o2 (oV 1) (oC (.int 0)) ax) j4)) (wU 2 (os (ad (o2 (oV 0) (oV 4) ax) (ad (o2 (o2 (oC (.int 2)) (o2 (oV 1) (oC (.int 2)) ax) g6) (o2 (oC (.int 4)) (os (ad (oV 4) (ad (o2 (oV 1) (oC (.int 1)) ax) (al))) bp) g6) cf) (al))) da))
noncomputable def kC:Sf:=sSeq (wT 2 (al)) (sSeq (j3 (oL (ad (os (ad (oV 0) (al)) ck) (al)) bQ) (gN 3) (fR)) (fun δ=>(aH (os (ad (oV 2) (al)) df)) (pi 2 δ)))
noncomputable def cZ:List D->Option D:=runB oM 2 kC
noncomputable abbrev d7:Stmt:=eV 53
noncomputable abbrev jV:List Str:=["wires","place","bits","flips"]
noncomputable def kb:Dv->Option D:=dI (oL (ad (oV 0) (al)) bQ) [(0,"wires")] p3 (os (ad (oV 1) (ad (oV 0) (al))) bY)
noncomputable def ka:Dv->Option D:=dI (oL (ad (oV 0) (al)) bQ) [(2,"bits"),(3,"flips")] p3 (os (ad (os (ad (o2 (oV 2) (oV 0) ax) (ad (oC (.int 0)) (ad (oC (.int 0)) (al)))) aZ) (ad (os (ad (oC (.int 0)) (ad (o2 (oV 2) (oV 0) ax) (ad (o2 (oC (.int 2)) (o2 (oV 1) (oV 0) ax) g6) (al)))) aZ) (al))) aZ)
noncomputable def mC:Sf:=sSeq (aM 2 (os (ad (oV 0) (ad (oV 1) (al))) fC)) (sSeq (aM 3 (kb)) (aH (os (ad (ka) (al)) df)))
noncomputable def cR:List D->Option D:=runB jV 2 mC
noncomputable abbrev bT:Stmt:=eV 66
noncomputable abbrev gl:List Str:=["circuit","place"]
noncomputable def gk:Sf:=sSeq (sG (os (ad (o2 (oV 0) (oC (.int 1)) ax) (al)) bn)) (aH (os (ad (o2 (oV 0) (oC (.int 1)) ax) (ad (os (ad (os (al) aZ) (ad (os (ad (o2 (oV 0) (oC (.int 0)) ax) (ad (oV 1) (al))) cR) (ad (oC (.int 0)) (al)))) aZ) (ad (oC (gD "table_parted")) (ad (oC (gD "table_gone_on")) (al))))) aK))
noncomputable def ay:List D->Option D:=runB gl 2 gk
noncomputable def fV:Xf:=xE (GE (ad (o2 (oV 0) (oC (.int 1)) ax) (al)) dA)
noncomputable def aU:List D->Option Str:=rP gl 2 fV
noncomputable abbrev fP:Stmt:=eV 68
noncomputable abbrev kQ:List Str:=["script","k"]
noncomputable def fX:Sf:=sSeq (sIf (ob (o2 (oV 1) (os (ad (oV 0) (al)) ck) IM)) (aH (o2 (oV 0) (oV 1) ax)) (gz)) (aH (oC (.int 0)))
noncomputable def aO:List D->Option D:=runB kQ 2 fX
noncomputable abbrev gY:Stmt:=eV 69
noncomputable abbrev nr:List Str:=["found"]
noncomputable def hV:Sf:=aH (vI (o1 (oV 0) (gI "int")) (o1 (o1 (oV 0) (gI "bool")) E8))
noncomputable def cu:List D->Option D:=runB nr 1 hV
noncomputable abbrev jK:Stmt:=eV 70
noncomputable abbrev rL:List Str:=["place","odd","bit"]
noncomputable def fA:Sf:=aM 1 (o2 (oV 1) (o2 (o2 (oV 0) (oV 2) jF) (oC (.int 1)) iG) j4)
noncomputable def mF:Sf:=sSeq (aM 1 (oC (.int 0))) (sSeq (j3 (oL (ad (oC (.int 6)) (al)) bQ) (gN 2) (fA)) (aH (oV 1)))
noncomputable def cm:List D->Option D:=runB rL 1 mF
noncomputable abbrev fN:Stmt:=eV 71
noncomputable abbrev kO:List Str:=["found","wires","part"]
noncomputable def dJ:Sf:=sIf (pQ (i9 (ob (os (ad (oV 2) (al)) cu))) (ob (o2 (oV 2) (oC (.int 0)) IM))) (aH (oC (.bool false))) (gz)
noncomputable def ir:Sf:=sSeq (sIf (pQ (i9 (ob (o1 (oV 0) (gI "tuple")))) (ob (o2 (os (ad (oV 0) (al)) ck) (oC (.int 3)) neD))) (aH (oC (.bool false))) (gz)) (sSeq (j3 (oI (oV 0) eQ) (gN 2) (dJ)) (aH (vI (o2 (o2 (oV 0) (oC (.int 0)) ax) (o2 (oC (.int 1)) (oV 1) jm) IM) (vI (o2 (o2 (oV 0) (oC (.int 1)) ax) (o2 (oC (.int 1)) (oV 1) jm) IM) (o2 (o2 (oV 0) (oC (.int 2)) ax) (oC (.int 4)) IM)))))
noncomputable def bM:List D->Option D:=runB kO 2 ir
noncomputable abbrev jJ:Stmt:=eV 72
noncomputable abbrev rK:List Str:=["cell","wires","kind","wire"]
noncomputable def fh:Sf:=sSeq (aM 2 (o2 (os (ad (oC (.str "swing")) (ad (oC (.str "turn")) (ad (oC (.str "flip")) (ad (oC (.str "tie")) (ad (oC (.str "sign")) (ad (oC (.str "cross")) (al))))))) jw) (o2 (oV 0) (oC (.int 6)) bX) ax)) (sSeq (sIf (ob (o2 (oV 1) (oC (.int 1)) bo)) (aM 2 (o2 (os (ad (oC (.str "swing")) (ad (oC (.str "turn")) (ad (oC (.str "flip")) (al)))) jw) (o2 (oV 0) (oC (.int 3)) bX) ax)) (gz)) (sSeq (aM 3 (o2 (o2 (oV 0) (oC (.int 6)) gJ) (oV 1) bX)) (sSeq (sIf (ob (o2 (oV 2) (oC (.str "turn")) bo)) (aH (os (ad (oC (.str "turn")) (ad (oV 3) (ad (o2 (oC (.int 2)) (o2 (oC (.int 2)) (o2 (o2 (oV 0) (oC (.int 36)) gJ) (oC (.int 3)) bX) g6) cf) (al)))) aZ)) (gz)) (sSeq (sIf (pQ (ob (o2 (oV 2) (oC (.str "swing")) bo)) (ob (o2 (oV 2) (oC (.str "flip")) bo))) (aH (os (ad (oV 2) (ad (oV 3) (al))) aZ)) (gz)) (aH (os (ad (oV 2) (ad (oV 3) (ad (o2 (o2 (o2 (oV 3) (oC (.int 1)) cf) (o2 (o2 (oV 0) (oC (.int 36)) gJ) (o2 (oV 1) (oC (.int 1)) dW) bX) cf) (oV 1) bX) (al)))) aZ))))))
noncomputable def bZ:List D->Option D:=runB rK 2 fh
noncomputable abbrev gZ:Stmt:=eV 73
noncomputable abbrev nv:List Str:=["one","other"]
noncomputable def jU:Sf:=aH (o2 (os (ad (o2 (o2 (oV 0) (oC (.int 1)) ax) (o2 (oV 1) (oC (.int 0)) ax) iG) (al)) cm) (os (ad (o2 (o2 (oV 0) (oC (.int 0)) ax) (o2 (oV 1) (oC (.int 1)) ax) iG) (al)) cm) bo)
noncomputable def cv:List D->Option D:=runB nv 2 jU
noncomputable abbrev eY:Stmt:=eV 74
noncomputable abbrev j2:List Str:=["found","wires","pair","i","j"]
noncomputable def dq:Sf:=sSeq (sIf (pQ (i9 (ob (o1 (oV 2) (gI "tuple")))) (ob (o2 (os (ad (oV 2) (al)) ck) (oC (.int 2)) neD))) (aH (oC (.bool false))) (gz)) (sSeq (sIf (pQ (i9 (ob (os (ad (o2 (oV 2) (oC (.int 0)) ax) (ad (oV 1) (al))) bM))) (i9 (ob (os (ad (o2 (oV 2) (oC (.int 1)) ax) (ad (oV 1) (al))) bM)))) (aH (oC (.bool false))) (gz)) (sIf (ob (o2 (o2 (o2 (o2 (o2 (oV 2) (oC (.int 1)) ax) (oC (.int 2)) ax) (os (ad (o2 (o2 (o2 (oV 2) (oC (.int 1)) ax) (oC (.int 0)) ax) (o2 (o2 (oV 2) (oC (.int 1)) ax) (oC (.int 1)) ax) iG) (al)) cm) cf) (oC (.int 2)) bX) (oC (.int 1)) bo)) (aH (oC (.bool false))) (gz)))
noncomputable def dn:Sf:=sIf (pQ (i9 (ob (os (ad (o2 (o2 (oV 0) (oV 3) ax) (oC (.int 1)) ax) (ad (o2 (o2 (oV 0) (oV 4) ax) (oC (.int 1)) ax) (al))) cv))) (ob (o2 (os (ad (o2 (o2 (oV 0) (oV 3) ax) (oC (.int 0)) ax) (ad (o2 (o2 (oV 0) (oV 4) ax) (oC (.int 1)) ax) (al))) cv) (o2 (oV 3) (oV 4) neD) neD))) (aH (oC (.bool false))) (gz)
noncomputable def dl:Sf:=j3 (oL (ad (oV 1) (al)) bQ) (gN 4) (dn)
noncomputable def gO:Sf:=sSeq (sIf (pQ (i9 (ob (o1 (oV 0) (gI "tuple")))) (ob (o2 (os (ad (oV 0) (al)) ck) (oV 1) neD))) (aH (oC (.bool false))) (gz)) (sSeq (j3 (oI (oV 0) eQ) (gN 2) (dq)) (sSeq (j3 (oL (ad (oV 1) (al)) bQ) (gN 3) (dl)) (aH (oC (.bool true)))))
noncomputable def cj:List D->Option D:=runB j2 2 gO
noncomputable abbrev fQ:Stmt:=eV 75
noncomputable abbrev kR:List Str:=["cell","wires","looks","most","kind","told_row"]
noncomputable def cy:Sf:=sSeq (aM 4 (o2 (oV 0) (oC (.int 7)) bX)) (sSeq (sIf (Iz (ob (o2 (oV 4) (oC (.int 5)) bo)) (ob (o2 (oV 2) (oV 3) IM))) (aH (os (ad (oC (.str "look")) (ad (o2 (o2 (oV 0) (oC (.int 7)) gJ) (oV 1) bX) (al))) aZ)) (gz)) (sSeq (sIf (Iz (ob (o2 (oV 4) (oC (.int 6)) bo)) (ob (o2 (oV 2) (oC (.int 0)) N7))) (sSeq (aM 5 (os (ad (oC (.str "flip")) (ad (o2 (o2 (oV 0) (oC (.int 7)) gJ) (oV 1) bX) (al))) aZ)) (sSeq (sIf (ob (o2 (o2 (o2 (oV 0) (oC (.int 21)) gJ) (oC (.int 2)) bX) (oC (.int 1)) bo)) (aM 5 (os (ad (oC (.str "turn")) (ad (o2 (o2 (oV 0) (oC (.int 7)) gJ) (oV 1) bX) (ad (oC (.int 4)) (al)))) aZ)) (gz)) (aH (os (ad (oC (.str "where")) (ad (o2 (o2 (oV 0) (oC (.int 42)) gJ) (oV 2) bX) (ad (oV 5) (al)))) aZ)))) (gz)) (aH (os (ad (o2 (oV 0) (oC (.int 7)) gJ) (ad (oV 1) (al))) bZ))))
noncomputable def aL:List D->Option D:=runB kR 4 cy
noncomputable abbrev fO:Stmt:=eV 76
noncomputable abbrev kP:List Str:=["cells","wires","rows","looks","cell"]
noncomputable def dL:Sf:=sSeq (wU 2 (os (ad (oV 4) (ad (oV 1) (ad (oV 3) (ad (o2 (os (ad (oC (.int 6)) (ad (oC (.int 3)) (ad (oC (.int 2)) (al)))) jw) (o2 (oV 1) (oC (.int 1)) dW) ax) (al))))) aL)) (aM 3 (o2 (oV 3) (os (ad (o2 (o2 (Iy 2 (o1 (oC (.int 1)) negD)) (oC (.int 0)) ax) (oC (.str "look")) bo) (al)) An) cf))
noncomputable def iu:Sf:=sSeq (wT 2 (al)) (sSeq (aM 3 (oC (.int 0))) (sSeq (j3 (oI (oV 0) eQ) (gN 4) (dL)) (fun δ=>(aH (os (ad (oV 1) (ad (os (ad (oV 2) (al)) df) (al))) aZ)) (pi 2 δ))))
noncomputable def b6:List D->Option D:=runB kP 2 iu
noncomputable abbrev fw:Stmt:=eV 77
noncomputable abbrev kM:List Str:=["circuit","place"]
noncomputable def iZ:Sf:=sSeq (sIf (ob (o2 (oV 1) (oC (.int 0)) bo)) (aH (os (ad (oV 0) (al)) (fun as=>ay (as++[.int 0])))) (gz)) (aH (os (ad (oV 0) (ad (oV 1) (al))) ay))
noncomputable def aS:List D->Option D:=runB kM 2 iZ
noncomputable def g9:Xf:=Gw (L3 (ob (o2 (oV 1) (oC (.int 0)) bo)) (xE (GE (ad (oV 0) (al)) fun as=>aU (as++[.int 0]))) (xNo)) (sIf (ob (o2 (oV 1) (oC (.int 0)) bo)) (aH (os (ad (oV 0) (al)) (fun as=>ay (as++[.int 0])))) (gz)) (xE (GE (ad (oV 0) (ad (oV 1) (al))) aU))
noncomputable def cw:List D->Option Str:=rP kM 2 g9
noncomputable abbrev fM:Stmt:=eV 78
noncomputable abbrev kN:List Str:=["circuit","place","kinds","e"]
noncomputable def iq:Sf:=sSeq (aM 2 (os (al) jw)) (sSeq (zG 3 hs_WaveError (sG (os (ad (oV 0) (ad (oV 1) (al))) aS)) (xE (GE (ad (oV 0) (ad (oV 1) (al))) cw)) (aM 2 (os (ad (o1 (oV 3) (nP ib)) (ad (o1 (oV 3) (nP eN)) (ad (o1 (oV 3) (nP jj)) (al)))) jw))) (aH (o2 (oV 2) (os (ad (oC (.bool true)) (ad (oC (.bool true)) (ad (oC (.bool false)) (al)))) jw) bo)))
noncomputable def b5:List D->Option D:=runB kN 2 iq
noncomputable abbrev dD:Stmt:=eV 79
noncomputable abbrev iA:List Str:=["triple","marks","state","share_due","wires","pair","mark"]
noncomputable def cL:Sf:=sIf (ob (o2 (os (ad (oV 2) (ad (o2 (oV 5) (oC (.int 1)) ax) (al))) cZ) (oV 2) neD)) (aH (oC (.bool false))) (gz)
noncomputable def cK:Sf:=sIf (i9 (ob (os (ad (oV 6) (al)) cu))) (aH (oC (.bool false))) (gz)
noncomputable def e9:Sf:=sSeq (sIf (pQ (i9 (ob (o1 (oV 0) (gI "tuple")))) (pQ (ob (o2 (os (ad (oV 0) (al)) ck) (oC (.int 3)) neD)) (i9 (ob (o1 (o2 (oV 0) (oC (.int 0)) ax) (gI "tuple")))))) (aH (oC (.bool false))) (gz)) (sSeq (sIf (pQ (ob (o2 (o2 (oV 0) (oC (.int 0)) ax) (oV 1) neD)) (pQ (i9 (ob (os (ad (o2 (oV 0) (oC (.int 2)) ax) (al)) cu))) (ob (o2 (os (ad (oC (.int 1)) (ad (oC (.int 0)) (ad (o2 (oV 0) (oC (.int 2)) ax) (al)))) aZ) (oV 3) neD)))) (aH (oC (.bool false))) (gz)) (sSeq (sIf (i9 (ob (os (ad (o2 (oV 0) (oC (.int 1)) ax) (ad (oV 4) (al))) cj))) (aH (oC (.bool false))) (gz)) (sSeq (j3 (oI (o2 (oV 0) (oC (.int 1)) ax) eQ) (gN 5) (cL)) (sSeq (j3 (oI (o2 (oV 0) (oC (.int 0)) ax) eQ) (gN 6) (cK)) (aH (oC (.bool true)))))))
noncomputable def bt:List D->Option D:=runB iA 5 e9
noncomputable abbrev mP:Stmt:=eV 80
noncomputable abbrev Dj:List Str:=["script","wires","place","circuit","parts","shares","found","k","cut","odd","rows"]
noncomputable def nO:Sf:=sIf (i9 (ob (os (ad (Iy 6 (oV 7)) (ad (o2 (o2 (oV 4) (oV 7) ax) (oC (.int 0)) ax) (ad (o2 (o2 (oV 4) (oV 7) ax) (oC (.int 1)) ax) (ad (o2 (o2 (oV 5) (oV 7) ax) (oC (.int 1)) ax) (ad (oV 1) (al)))))) bt))) (aH (oC (.bool false))) (gz)
noncomputable def tI:Sf:=sSeq (aM 1 (o2 (oC (.int 1)) (o2 (os (ad (oV 0) (ad (oC (.int 0)) (al))) aO) (oC (.int 3)) bX) cf)) (sSeq (aM 2 (o2 (os (ad (oV 0) (ad (oC (.int 1)) (al))) aO) (o2 (oC (.int 1)) (oV 1) jm) bX)) (sSeq (aM 3 (os (ad (E2 (oV 0) (oP (oC (.int 2))) (oP (o2 (oC (.int 62)) (o2 (oC (.int 40)) (os (ad (o2 (oV 1) (oC (.int 3)) bo) (al)) An) g6) dW))) (ad (oV 1) (al))) b6)) (sSeq (aM 4 (os (ad (oV 3) (ad (oV 2) (al))) cF)) (sSeq (aM 5 (os (ad (oV 3) (ad (oV 2) (al))) cq)) (sSeq (ou 6 (yH (os (ad (oV 3) (ad (oV 2) (al))) aS))) (sSeq (sIf (oA 6 (pQ (i9 (ob (o1 (oV 6) (gI "list")))) (pQ (ob (o2 (os (ad (oV 6) (al)) ck) (os (ad (oV 4) (al)) ck) neD)) (ob (o2 (os (ad (oV 5) (al)) ck) (os (ad (oV 4) (al)) ck) neD))))) (aH (oC (.bool false))) (gz)) (sSeq (j3 (oL (ad (os (ad (oV 4) (al)) ck) (al)) bQ) (gN 7) (nO)) (sSeq (wU 6 (oC .none)) (sSeq (sIf (oA 6 (ob (o2 (os (ad (oV 3) (ad (oV 2) (al))) aS) (E2 (oV 6) (KB) (oP (o1 (oC (.int 1)) negD))) neD))) (aH (oC (.bool false))) (gz)) (sSeq (aM 8 (os (ad (oC (.int 59)) (ad (o2 (o2 (os (ad (oV 0) (ad (oC (.int 1)) (al))) aO) (oC (.int 8)) gJ) (o2 (os (ad (o2 (oV 3) (oC (.int 1)) ax) (al)) ck) (oC (.int 1)) cf) bX) (al))) Ah)) (sSeq (aM 9 (os (ad (oC (.str "turn")) (ad (o2 (oV 8) (oV 1) bX) (ad (o2 (oC (.int 1)) (o2 (oC (.int 2)) (o2 (oV 8) (oC (.int 4)) bX) g6) cf) (al)))) aZ)) (sSeq (aM 10 (o2 (o2 (E2 (o2 (oV 3) (oC (.int 1)) ax) (KB) (oP (oV 8))) (os (ad (oV 9) (al)) aZ) cf) (E2 (o2 (oV 3) (oC (.int 1)) ax) (oP (oV 8)) (oP (oC (.int 59)))) cf)) (aH (os (ad (os (ad (oV 1) (ad (oV 10) (al))) aZ) (ad (oV 2) (al))) b5))))))))))))))
noncomputable def CG:List D->Option D:=runB Dj 1 tI
theorem x8 (j m:Int):bI [.int j,.int m]=some (.int (MA.vf j m)):=by
 by_cases h:j=0
 ·subst h
  simp [bI,runB,gw,av,MA.vf]
 ·simp [bI,runB,gw,av,MA.vf,h]
theorem yu (a b c d:Int):eE [.int a,.int b,.int c,.int d]=some (.tuple [.int (b-d),.int (a+c),.int (b+d),.int (c-a)]):=by
 simp [eE,runB,oh,av]
noncomputable def tup5 (x:MA.Q4) (k:Int):D:=.tuple [.int x.a,.int x.b,.int x.c,.int x.d,.int k]
noncomputable def IG:Sf:=aM 5 (VL.os (ad (o2 (o2 (o2 (oV 0) (oV 1) zP) (oV 2) zP) (oV 3) zP) (ad (o2 (oV 4) (oC (.int 2)) gJ) (al))) bI)
noncomputable def IF:Sf:=aM 0 (o2 (oV 0) (oV 5) jF)
noncomputable def IE:Sf:=aM 1 (o2 (oV 1) (oV 5) jF)
noncomputable def ID:Sf:=aM 2 (o2 (oV 2) (oV 5) jF)
noncomputable def IC:Sf:=aM 3 (o2 (oV 3) (oV 5) jF)
noncomputable def IB:Sf:=aM 4 (o2 (oV 4) (o2 (oC (.int 2)) (oV 5) g6) dW)
noncomputable def E6:Sf:=sIf (pQ (ob (o2 (oV 4) (oC (.int 0)) bo)) (pQ (ob (o2 (o2 (o2 (oV 0) (oV 2) dW) (oC (.int 2)) bX) (oC (.int 1)) bo)) (ob (o2 (o2 (o2 (oV 1) (oV 3) dW) (oC (.int 2)) bX) (oC (.int 1)) bo)))) (aH (VL.os (ad (oV 0) (ad (oV 1) (ad (oV 2) (ad (oV 3) (ad (oV 4) (al)))))) aZ)) (gz)
noncomputable def E5:Sf:=aM 6 (VL.os (ad (oV 0) (ad (oV 1) (ad (oV 2) (ad (oV 3) (al))))) eE)
noncomputable def E4:Sf:=aH (VL.os (ad (o2 (o2 (oV 6) (oC (.int 0)) ax) (oC (.int 2)) gJ) (ad (o2 (o2 (oV 6) (oC (.int 1)) ax) (oC (.int 2)) gJ) (ad (o2 (o2 (oV 6) (oC (.int 2)) ax) (oC (.int 2)) gJ) (ad (o2 (o2 (oV 6) (oC (.int 3)) ax) (oC (.int 2)) gJ) (ad (o2 (oV 4) (oC (.int 1)) dW) (al)))))) aZ)
theorem zZ:ni=sSeq IG (sSeq IF (sSeq IE (sSeq ID (sSeq IC (sSeq IB (sSeq E6 (sSeq E5 (E4)))))))):=rfl
theorem vO {s t:Sf} {δ δ':Dv} (h:s δ = some (.nx,δ')):sSeq s t δ = t δ':=by simp only [sSeq,h,Option.bind_some]
theorem MV {s t:Sf} {δ δ':Dv} {d:D} (h:s δ = some (.rt d,δ')):sSeq s t δ = some (.rt d,δ'):=by simp only [sSeq,h,Option.bind_some]
theorem KJ {N:List Str} {n:Nat} {b:Sf} {as:List D} {d:D} {δ':Dv} (hl:as.length=n) (h:b (av N as)=some (.rt d,δ')):runB N n b as=some d:=by unfold runB; rw [if_pos hl,h]; rfl
theorem OH {a b c d k t:Int} (h:bI [.int (Builtin.bitOr (Builtin.bitOr (Builtin.bitOr a b) c) d),.int (k / 2)]=some (.int t)):IG [.fz (.int a),.fz (.int b),.fz (.int c),.fz (.int d),.fz (.int k),.un,.un]=some (.nx,[.fz (.int a),.fz (.int b),.fz (.int c),.fz (.int d),.fz (.int k),.fz (.int t),.un]):=by simp [IG,h]
theorem OG (a:Int) (t:Nat) (x1 x2 x3 x4 x6:Sl):IF [.fz (.int a),x1,x2,x3,x4,.fz (.int t),x6]=some (.nx,[.fz (.int (a / 2 ^ t)),x1,x2,x3,x4,.fz (.int t),x6]):=by simp [IF]
theorem OF (a:Int) (t:Nat) (x1 x2 x3 x4 x6:Sl):IE [x1,.fz (.int a),x2,x3,x4,.fz (.int t),x6]=some (.nx,[x1,.fz (.int (a / 2 ^ t)),x2,x3,x4,.fz (.int t),x6]):=by simp [IE]
theorem OE (a:Int) (t:Nat) (x1 x2 x3 x4 x6:Sl):ID [x1,x2,.fz (.int a),x3,x4,.fz (.int t),x6]=some (.nx,[x1,x2,.fz (.int (a / 2 ^ t)),x3,x4,.fz (.int t),x6]):=by simp [ID]
theorem OD (a:Int) (t:Nat) (x1 x2 x3 x4 x6:Sl):IC [x1,x2,x3,.fz (.int a),x4,.fz (.int t),x6]=some (.nx,[x1,x2,x3,.fz (.int (a / 2 ^ t)),x4,.fz (.int t),x6]):=by simp [IC]
theorem OC (a:Int) (t:Nat) (x1 x2 x3 x4 x6:Sl):IB [x1,x2,x3,x4,.fz (.int a),.fz (.int t),x6]=some (.nx,[x1,x2,x3,x4,.fz (.int (a-2*t)),.fz (.int t),x6]):=by
 have m2:IntMulOk 2 (t:Int):=.of_left (by decide)
 simp [IB,m2]
theorem GG {f g:Dv->Option Bool} {δ:Dv} (h:f δ = some true):pQ f g δ = some true:=by unfold pQ; rw [h]; rfl
theorem yG {f g:Dv->Option Bool} {δ:Dv} (h:f δ = some false):pQ f g δ = g δ:=by unfold pQ; rw [h]; rfl
section
variable (a b c d k:Int) (x5 x6:Sl)
theorem KI:(ob (o2 (oV 4) (oC (.int 0)) bo)) [.fz (.int a),.fz (.int b),.fz (.int c),.fz (.int d),.fz (.int k),x5,x6]=some (k==0):=rfl
theorem KE {f g:Dv->Option D} {δ:Dv} {x y:Int} (hf:f δ = some (.int x)) (hg:g δ = some (.int y)):(ob (o2 (o2 (o2 f g dW) (oC (.int 2)) bX) (oC (.int 1)) bo)) δ = some ((x-y) % 2==1):=by
 have s:dW (.int x) (.int y)=some (.int (x-y)):=rfl
 have m:bX (.int (x-y)) (.int 2)=some (.int ((x-y) % 2)):=jv (by decide)
 simp only [ob,o2,oC,hf,hg,Option.bind_some,s,m,FY,C9]
theorem KH:(ob (o2 (o2 (o2 (oV 0) (oV 2) dW) (oC (.int 2)) bX) (oC (.int 1)) bo)) [.fz (.int a),.fz (.int b),.fz (.int c),.fz (.int d),.fz (.int k),x5,x6]=some ((a-c) % 2==1):=KE rfl rfl
theorem KG:(ob (o2 (o2 (o2 (oV 1) (oV 3) dW) (oC (.int 2)) bX) (oC (.int 1)) bo)) [.fz (.int a),.fz (.int b),.fz (.int c),.fz (.int d),.fz (.int k),x5,x6]=some ((b-d) % 2==1):=KE rfl rfl
end
theorem Ke {t:Dv->Option Bool} {u w:Sf} {δ:Dv} (h:t δ = some true):sIf t u w δ = u δ:=by unfold sIf; rw [h]; rfl
theorem Kf {t:Dv->Option Bool} {u w:Sf} {δ:Dv} (h:t δ = some false):sIf t u w δ = w δ:=by unfold sIf; rw [h]; rfl
theorem MT (a b c d k:Int) (x5 x6:Sl) (h:k=0\/(a-c) % 2=1\/(b-d) % 2=1):E6 [.fz (.int a),.fz (.int b),.fz (.int c),.fz (.int d),.fz (.int k),x5,x6]=some (.rt (.tuple [.int a,.int b,.int c,.int d,.int k]),[.fz (.int a),.fz (.int b),.fz (.int c),.fz (.int d),.fz (.int k),x5,x6]):=by
 refine (Ke ?_).trans rfl
 have t1:=KI a b c d k x5 x6
 have t2:=KH a b c d k x5 x6
 have t3:=KG a b c d k x5 x6
 by_cases q0:k=0
 ·rw [beq_iff_eq.mpr q0] at t1; exact GG t1
 ·rw [beq_eq_false_iff_ne.mpr q0] at t1
  refine (yG t1).trans ?_
  by_cases q1:(a-c) % 2=1
  ·rw [beq_iff_eq.mpr q1] at t2; exact GG t2
  ·rw [beq_eq_false_iff_ne.mpr q1] at t2
   refine (yG t2).trans ?_
   rcases h with h | h | h
   ·exact absurd h q0
   ·exact absurd h q1
   ·rw [beq_iff_eq.mpr h] at t3; exact t3
theorem MU (a b c d k:Int) (x5 x6:Sl) (h:¬(k=0\/(a-c) % 2=1\/(b-d) % 2=1)):E6 [.fz (.int a),.fz (.int b),.fz (.int c),.fz (.int d),.fz (.int k),x5,x6]=some (.nx,[.fz (.int a),.fz (.int b),.fz (.int c),.fz (.int d),.fz (.int k),x5,x6]):=by
 have t1:=KI a b c d k x5 x6
 have t2:=KH a b c d k x5 x6
 have t3:=KG a b c d k x5 x6
 rw [beq_eq_false_iff_ne.mpr fun q=>h (.inl q)] at t1
 rw [beq_eq_false_iff_ne.mpr fun q=>h (.inr (.inl q))] at t2
 rw [beq_eq_false_iff_ne.mpr fun q=>h (.inr (.inr q))] at t3
 exact (Kf ((yG t1).trans ((yG t2).trans t3))).trans rfl
theorem OB (a b c d:Int) (x4 x5 x6:Sl):E5 [.fz (.int a),.fz (.int b),.fz (.int c),.fz (.int d),x4,x5,x6]=some (.nx,[.fz (.int a),.fz (.int b),.fz (.int c),.fz (.int d),x4,x5,.fz (.tuple [.int (b-d),.int (a+c),.int (b+d),.int (c-a)])]):=by simp [E5,yu]
theorem OA (p q r s k:Int) (x0 x1 x2 x3 x5:Sl):E4 [x0,x1,x2,x3,.fz (.int k),x5,.fz (.tuple [.int p,.int q,.int r,.int s])]=some (.rt (.tuple [.int (p / 2),.int (q / 2),.int (r / 2),.int (s / 2),.int (k-1)]),[x0,x1,x2,x3,.fz (.int k),x5,.fz (.tuple [.int p,.int q,.int r,.int s])]):=by simp [E4]
theorem Aa (a b c d k:Int) (hk:0<=k):fT [.int a,.int b,.int c,.int d,.int k]=some (tup5 (MA.num ⟨a,b,c,d⟩ k).1 (MA.num ⟨a,b,c,d⟩ k).2):=by
 obtain ⟨t,e,h1,_⟩:=MA.ny a b c d (k / 2) (Int.ediv_nonneg hk (by decide))
 have tw:=x8 (Builtin.bitOr (Builtin.bitOr (Builtin.bitOr a b) c) d) (k / 2)
 rw [e] at tw
 unfold MA.num tup5
 simp only [e,Int.toNat_natCast]
 generalize ha:a / 2 ^ t=A
 generalize hb:b / 2 ^ t=B
 generalize hc:c / 2 ^ t=C
 generalize hd:d / 2 ^ t=E
 have go:ni (av rG [.int a,.int b,.int c,.int d,.int k])=(sSeq E6 (sSeq E5 E4)) [.fz (.int A),.fz (.int B),.fz (.int C),.fz (.int E),.fz (.int (k-2*t)),.fz (.int t),.un]:=by
  rw [zZ,<- ha,<- hb,<- hc,<- hd]
  exact (vO (OH tw)).trans ((vO (OG _ _ _ _ _ _ _)).trans ((vO (OF _ _ _ _ _ _ _)).trans ((vO (OE _ _ _ _ _ _ _)).trans ((vO (OD _ _ _ _ _ _ _)).trans (vO (OC _ _ _ _ _ _ _))))))
 by_cases q:k-2*(t:Int)=0\/(A-C) % 2=1\/(B-E) % 2=1
 ·rw [if_pos q]
  exact KJ rfl (go.trans (MV (MT _ _ _ _ _ _ _ q)))
 ·rw [if_neg q]
  exact KJ rfl (go.trans ((vO (MU _ _ _ _ _ _ _ q)).trans ((vO (OB _ _ _ _ _ _ _)).trans (OA _ _ _ _ _ _ _ _ _ _))))
theorem KO (c f:Int):xg [.int c,.int f]=some (.int (max c f)):=by
 rw [qI]
 congr 2
 rw [Int.max_def]
 split <;> split <;> omega
structure Nm (M:Nat) (r:Int) (x:MA.Q4) (c:Int):Prop where
 le:MA.Q4.Le M x
 ls:MA.Q4.Least x c
 c1:c<=r
theorem KD (x:MA.Q4) (k:Int) (hk:0<=k):fT [.int x.a,.int x.b,.int x.c,.int x.d,.int k]=some (tup5 (MA.num x k).1 (MA.num x k).2):=Aa _ _ _ _ _ hk
noncomputable def Hk (x:MA.Q4):D:=.tuple [.int x.a,.int x.b,.int x.c,.int x.d]
theorem yC (x:MA.Q4) (c k:Int) (h:MA.Q4.Le (2 ^ 100000) x) (h1:c<=k) (h2:k-c<=100000):bF [tup5 x c,.int k]=some (Hk (MA.Q4.rtn (k-c).toNat x)):=by
 obtain ⟨l1,l2,l3,l4⟩:=h
 obtain ⟨t,ht⟩:∃ t:Nat,(k-c) / 2=t:=⟨((k-c) / 2).toNat,by omega⟩
 have s:∀ i:Int,i.natAbs<=2 ^ 100000->jm (.int i) (.int (t:Int))=some (.int (i*2 ^ t)):=fun i hi=>by
  have hb:i.natAbs<2 ^ 100001:=Nat.lt_of_le_of_lt hi (Nat.pow_lt_pow_right (by decide) (by decide))
  have:=MA.ng hb
  have q:=mM (i:=i) (j:=(t:Int)) (by omega) (by omega)
  simpa using q
 have r2:=MA.Q4.rtn_two t x
 unfold tup5 Hk
 by_cases o:(k-c) % 2=1
 ·have e:(k-c).toNat=2*t+1:=by omega
  have m:(2*(t:Int)+1) % 2=1:=by omega
  rw [e,MA.Q4.rtn_succ,r2]
  simp [bF,runB,dR,av,ht,o,s _ l1,s _ l2,s _ l3,s _ l4,yu,MA.Q4.rt,MA.Q4.dbl]
 ·have e:(k-c).toNat=2*t:=by omega
  rw [e,r2]
  simp [bF,runB,dR,av,ht,o,s _ l1,s _ l2,s _ l3,s _ l4,MA.Q4.dbl]
theorem EI (x:MA.Q4) (c:Int) (y:MA.Q4) (d:Int) (hx:MA.Q4.Le (2 ^ 100000) x) (hy:MA.Q4.Le (2 ^ 100000) y) (hc:0<=c) (hd:0<=d) (hc1:c<=100000) (hd1:d<=100000):ja [tup5 x c,tup5 y d]=some (tup5 (MA.iR x c y d).1 (MA.iR x c y d).2):=by
 have hm:=KO c d
 have k1:c<=max c d:=Int.le_max_left ..
 have k2:d<=max c d:=Int.le_max_right ..
 have k3:max c d=c\/max c d=d:=by omega
 have o1:=yC x c (max c d) hx k1 (by omega)
 have o2:=yC y d (max c d) hy k2 (by omega)
 unfold MA.iR
 have nm:=KD (MA.Q4.add (MA.Q4.rtn (max c d-c).toNat x) (MA.Q4.rtn (max c d-d).toNat y)) (max c d) (by omega)
 generalize max c d=m at *
 generalize MA.Q4.rtn (m-c).toNat x=u at *
 generalize MA.Q4.rtn (m-d).toNat y=v at *
 generalize MA.num (MA.Q4.add u v) m=r at *
 simp only [MA.Q4.add] at nm
 generalize tup5 r.1 r.2=R at *
 simp only [tup5,Hk] at o1 o2 ⊢
 simp [-qI,ja,runB,xM,av,hm,o1,o2,nm]
theorem Ap (x:MA.Q4) (c:Int) (hc:0<=c):eS [tup5 x c]=some (tup5 (MA.num x (c+1)).1 (MA.num x (c+1)).2):=by
 have nm:=KD x (c+1) (by omega)
 generalize tup5 (MA.num x (c+1)).1 (MA.num x (c+1)).2=R at *
 simp only [tup5]
 simp [eS,runB,rn,av,nm]
theorem sA (x:MA.Q4) (c e:Int):da [tup5 x c,.int e]=some (tup5 (MA.fG (e % 8).toNat x) c):=by
 have w:e % 8=0\/e % 8=1\/e % 8=2\/e % 8=3\/e % 8=4\/e % 8=5\/e % 8=6\/e % 8=7:=by omega
 have go:∀ (r a0 a1 a2 a3:Int),e % 8=r->(0-e) % 8=a0->(1-e) % 8=a1->(2-e) % 8=a2->(3-e) % 8=a3->∀ b0 b1 b2 b3:Int,iD [PyData.int x.a,.int x.b,.int x.c,.int x.d,.int (-x.a),.int (-x.b),.int (-x.c),.int (-x.d)] a0=some (.int b0)->iD [PyData.int x.a,.int x.b,.int x.c,.int x.d,.int (-x.a),.int (-x.b),.int (-x.c),.int (-x.d)] a1=some (.int b1) ->
   iD [PyData.int x.a,.int x.b,.int x.c,.int x.d,.int (-x.a),.int (-x.b),.int (-x.c),.int (-x.d)] a2=some (.int b2)->iD [PyData.int x.a,.int x.b,.int x.c,.int x.d,.int (-x.a),.int (-x.b),.int (-x.c),.int (-x.d)] a3=some (.int b3)->da [tup5 x c,.int e]=some (.tuple [.int b0,.int b1,.int b2,.int b3,.int c]):=by
  intro r a0 a1 a2 a3 _ h0 h1 h2 h3 b0 b1 b2 b3 k0 k1 k2 k3
  have h0:-e % 8=a0:=by omega
  simp only [tup5]
  simp [da,runB,rj,av,h0,h1,h2,h3,k0,k1,k2,k3]
 rcases w with w | w | w | w | w | w | w | w <;> rw [w]
 ·exact go 0 0 1 2 3 w (by omega) (by omega) (by omega) (by omega) _ _ _ _ (by simp; rfl) (by simp; rfl) (by simp; rfl) (by simp; rfl)
 ·exact go 1 7 0 1 2 w (by omega) (by omega) (by omega) (by omega) _ _ _ _ (by simp; rfl) (by simp; rfl) (by simp; rfl) (by simp; rfl)
 ·exact go 2 6 7 0 1 w (by omega) (by omega) (by omega) (by omega) _ _ _ _ (by simp; rfl) (by simp; rfl) (by simp; rfl) (by simp; rfl)
 ·exact go 3 5 6 7 0 w (by omega) (by omega) (by omega) (by omega) _ _ _ _ (by simp; rfl) (by simp; rfl) (by simp; rfl) (by simp; rfl)
 ·exact go 4 4 5 6 7 w (by omega) (by omega) (by omega) (by omega) _ _ _ _ (by simp; rfl) (by simp; rfl) (by simp; rfl) (by simp; rfl)
 ·have e0:tup5 (MA.fG (5:Int).toNat x) c=.tuple [.int x.d,.int (-x.a),.int (-x.b),.int (-x.c),.int c]:=by simp [tup5,MA.fG,MA.Q4.tn]
  rw [e0]
  exact go 5 3 4 5 6 w (by omega) (by omega) (by omega) (by omega) _ _ _ _ (by simp) (by simp) (by simp) (by simp)
 ·have e0:tup5 (MA.fG (6:Int).toNat x) c=.tuple [.int x.c,.int x.d,.int (-x.a),.int (-x.b),.int c]:=by simp [tup5,MA.fG,MA.Q4.tn]
  rw [e0]
  exact go 6 2 3 4 5 w (by omega) (by omega) (by omega) (by omega) _ _ _ _ (by simp) (by simp) (by simp) (by simp)
 ·have e0:tup5 (MA.fG (7:Int).toNat x) c=.tuple [.int x.b,.int x.c,.int x.d,.int (-x.a),.int c]:=by simp [tup5,MA.fG,MA.Q4.tn]
  rw [e0]
  exact go 7 1 2 3 4 w (by omega) (by omega) (by omega) (by omega) _ _ _ _ (by simp) (by simp) (by simp) (by simp)
theorem xP (x:MA.Q4) (c:Int):fD [tup5 x c]=some (tup5 (MA.Q4.neg x) c):=by
 simp only [tup5]
 simp [fD,runB,oj,av,MA.Q4.neg]
noncomputable def Dk (a:Str):Bool:=AU (.str a)
theorem e7 {a b:Str} (ha:Dk a=true) (hb:Dk b=true):bo (.str a) (.str b)=some (.bool (a==b)):=if_pos ⟨ha,hb⟩
theorem bB:Dk "swing" = true:=by decide +kernel
theorem b7:Dk "turn" = true:=by decide +kernel
theorem cb:Dk "flip" = true:=by decide +kernel
theorem cJ:Dk "tie" = true:=by decide +kernel
theorem b8:Dk "sign" = true:=by decide +kernel
theorem bC:Dk "cross" = true:=by decide +kernel
theorem b9:Dk "look" = true:=by decide +kernel
theorem bA:Dk "where" = true:=by decide +kernel
@[simp] theorem Cl:bo (.str "swing") (.str "swing")=some (.bool true):=(e7 bB bB).trans (congrArg (fun z=>some (PyData.bool z)) (show (("swing":Str)==("swing":Str))=true by decide +kernel))
@[simp] theorem Ds:bo (.str "swing") (.str "turn")=some (.bool false):=(e7 bB b7).trans (congrArg (fun z=>some (PyData.bool z)) (show (("swing":Str)==("turn":Str))=false by decide +kernel))
@[simp] theorem Dw:bo (.str "swing") (.str "flip")=some (.bool false):=(e7 bB cb).trans (congrArg (fun z=>some (PyData.bool z)) (show (("swing":Str)==("flip":Str))=false by decide +kernel))
@[simp] theorem Ft:bo (.str "swing") (.str "tie")=some (.bool false):=(e7 bB cJ).trans (congrArg (fun z=>some (PyData.bool z)) (show (("swing":Str)==("tie":Str))=false by decide +kernel))
@[simp] theorem Dt:bo (.str "swing") (.str "sign")=some (.bool false):=(e7 bB b8).trans (congrArg (fun z=>some (PyData.bool z)) (show (("swing":Str)==("sign":Str))=false by decide +kernel))
@[simp] theorem Cn:bo (.str "swing") (.str "cross")=some (.bool false):=(e7 bB bC).trans (congrArg (fun z=>some (PyData.bool z)) (show (("swing":Str)==("cross":Str))=false by decide +kernel))
@[simp] theorem Du:bo (.str "swing") (.str "look")=some (.bool false):=(e7 bB b9).trans (congrArg (fun z=>some (PyData.bool z)) (show (("swing":Str)==("look":Str))=false by decide +kernel))
@[simp] theorem Ck:bo (.str "swing") (.str "where")=some (.bool false):=(e7 bB bA).trans (congrArg (fun z=>some (PyData.bool z)) (show (("swing":Str)==("where":Str))=false by decide +kernel))
@[simp] theorem Dq:bo (.str "turn") (.str "swing")=some (.bool false):=(e7 b7 bB).trans (congrArg (fun z=>some (PyData.bool z)) (show (("turn":Str)==("swing":Str))=false by decide +kernel))
@[simp] theorem Fk:bo (.str "turn") (.str "turn")=some (.bool true):=(e7 b7 b7).trans (congrArg (fun z=>some (PyData.bool z)) (show (("turn":Str)==("turn":Str))=true by decide +kernel))
@[simp] theorem Fo:bo (.str "turn") (.str "flip")=some (.bool false):=(e7 b7 cb).trans (congrArg (fun z=>some (PyData.bool z)) (show (("turn":Str)==("flip":Str))=false by decide +kernel))
@[simp] theorem GL:bo (.str "turn") (.str "tie")=some (.bool false):=(e7 b7 cJ).trans (congrArg (fun z=>some (PyData.bool z)) (show (("turn":Str)==("tie":Str))=false by decide +kernel))
@[simp] theorem Fm:bo (.str "turn") (.str "sign")=some (.bool false):=(e7 b7 b8).trans (congrArg (fun z=>some (PyData.bool z)) (show (("turn":Str)==("sign":Str))=false by decide +kernel))
@[simp] theorem Dr:bo (.str "turn") (.str "cross")=some (.bool false):=(e7 b7 bC).trans (congrArg (fun z=>some (PyData.bool z)) (show (("turn":Str)==("cross":Str))=false by decide +kernel))
@[simp] theorem Fn:bo (.str "turn") (.str "look")=some (.bool false):=(e7 b7 b9).trans (congrArg (fun z=>some (PyData.bool z)) (show (("turn":Str)==("look":Str))=false by decide +kernel))
@[simp] theorem Dp:bo (.str "turn") (.str "where")=some (.bool false):=(e7 b7 bA).trans (congrArg (fun z=>some (PyData.bool z)) (show (("turn":Str)==("where":Str))=false by decide +kernel))
@[simp] theorem DF:bo (.str "flip") (.str "swing")=some (.bool false):=(e7 cb bB).trans (congrArg (fun z=>some (PyData.bool z)) (show (("flip":Str)==("swing":Str))=false by decide +kernel))
@[simp] theorem FC:bo (.str "flip") (.str "turn")=some (.bool false):=(e7 cb b7).trans (congrArg (fun z=>some (PyData.bool z)) (show (("flip":Str)==("turn":Str))=false by decide +kernel))
@[simp] theorem FF:bo (.str "flip") (.str "flip")=some (.bool true):=(e7 cb cb).trans (congrArg (fun z=>some (PyData.bool z)) (show (("flip":Str)==("flip":Str))=true by decide +kernel))
@[simp] theorem GT:bo (.str "flip") (.str "tie")=some (.bool false):=(e7 cb cJ).trans (congrArg (fun z=>some (PyData.bool z)) (show (("flip":Str)==("tie":Str))=false by decide +kernel))
@[simp] theorem FD:bo (.str "flip") (.str "sign")=some (.bool false):=(e7 cb b8).trans (congrArg (fun z=>some (PyData.bool z)) (show (("flip":Str)==("sign":Str))=false by decide +kernel))
@[simp] theorem DG:bo (.str "flip") (.str "cross")=some (.bool false):=(e7 cb bC).trans (congrArg (fun z=>some (PyData.bool z)) (show (("flip":Str)==("cross":Str))=false by decide +kernel))
@[simp] theorem FE:bo (.str "flip") (.str "look")=some (.bool false):=(e7 cb b9).trans (congrArg (fun z=>some (PyData.bool z)) (show (("flip":Str)==("look":Str))=false by decide +kernel))
@[simp] theorem DD:bo (.str "flip") (.str "where")=some (.bool false):=(e7 cb bA).trans (congrArg (fun z=>some (PyData.bool z)) (show (("flip":Str)==("where":Str))=false by decide +kernel))
@[simp] theorem Fq:bo (.str "tie") (.str "swing")=some (.bool false):=(e7 cJ bB).trans (congrArg (fun z=>some (PyData.bool z)) (show (("tie":Str)==("swing":Str))=false by decide +kernel))
@[simp] theorem GM:bo (.str "tie") (.str "turn")=some (.bool false):=(e7 cJ b7).trans (congrArg (fun z=>some (PyData.bool z)) (show (("tie":Str)==("turn":Str))=false by decide +kernel))
@[simp] theorem GQ:bo (.str "tie") (.str "flip")=some (.bool false):=(e7 cJ cb).trans (congrArg (fun z=>some (PyData.bool z)) (show (("tie":Str)==("flip":Str))=false by decide +kernel))
@[simp] theorem IU:bo (.str "tie") (.str "tie")=some (.bool true):=(e7 cJ cJ).trans (congrArg (fun z=>some (PyData.bool z)) (show (("tie":Str)==("tie":Str))=true by decide +kernel))
@[simp] theorem GO:bo (.str "tie") (.str "sign")=some (.bool false):=(e7 cJ b8).trans (congrArg (fun z=>some (PyData.bool z)) (show (("tie":Str)==("sign":Str))=false by decide +kernel))
@[simp] theorem Fs:bo (.str "tie") (.str "cross")=some (.bool false):=(e7 cJ bC).trans (congrArg (fun z=>some (PyData.bool z)) (show (("tie":Str)==("cross":Str))=false by decide +kernel))
@[simp] theorem GP:bo (.str "tie") (.str "look")=some (.bool false):=(e7 cJ b9).trans (congrArg (fun z=>some (PyData.bool z)) (show (("tie":Str)==("look":Str))=false by decide +kernel))
@[simp] theorem Fp:bo (.str "tie") (.str "where")=some (.bool false):=(e7 cJ bA).trans (congrArg (fun z=>some (PyData.bool z)) (show (("tie":Str)==("where":Str))=false by decide +kernel))
@[simp] theorem Dy:bo (.str "sign") (.str "swing")=some (.bool false):=(e7 b8 bB).trans (congrArg (fun z=>some (PyData.bool z)) (show (("sign":Str)==("swing":Str))=false by decide +kernel))
@[simp] theorem Fu:bo (.str "sign") (.str "turn")=some (.bool false):=(e7 b8 b7).trans (congrArg (fun z=>some (PyData.bool z)) (show (("sign":Str)==("turn":Str))=false by decide +kernel))
@[simp] theorem Fx:bo (.str "sign") (.str "flip")=some (.bool false):=(e7 b8 cb).trans (congrArg (fun z=>some (PyData.bool z)) (show (("sign":Str)==("flip":Str))=false by decide +kernel))
@[simp] theorem GR:bo (.str "sign") (.str "tie")=some (.bool false):=(e7 b8 cJ).trans (congrArg (fun z=>some (PyData.bool z)) (show (("sign":Str)==("tie":Str))=false by decide +kernel))
@[simp] theorem Fv:bo (.str "sign") (.str "sign")=some (.bool true):=(e7 b8 b8).trans (congrArg (fun z=>some (PyData.bool z)) (show (("sign":Str)==("sign":Str))=true by decide +kernel))
@[simp] theorem Dz:bo (.str "sign") (.str "cross")=some (.bool false):=(e7 b8 bC).trans (congrArg (fun z=>some (PyData.bool z)) (show (("sign":Str)==("cross":Str))=false by decide +kernel))
@[simp] theorem Fw:bo (.str "sign") (.str "look")=some (.bool false):=(e7 b8 b9).trans (congrArg (fun z=>some (PyData.bool z)) (show (("sign":Str)==("look":Str))=false by decide +kernel))
@[simp] theorem Dx:bo (.str "sign") (.str "where")=some (.bool false):=(e7 b8 bA).trans (congrArg (fun z=>some (PyData.bool z)) (show (("sign":Str)==("where":Str))=false by decide +kernel))
@[simp] theorem Cp:bo (.str "cross") (.str "swing")=some (.bool false):=(e7 bC bB).trans (congrArg (fun z=>some (PyData.bool z)) (show (("cross":Str)==("swing":Str))=false by decide +kernel))
@[simp] theorem DH:bo (.str "cross") (.str "turn")=some (.bool false):=(e7 bC b7).trans (congrArg (fun z=>some (PyData.bool z)) (show (("cross":Str)==("turn":Str))=false by decide +kernel))
@[simp] theorem DK:bo (.str "cross") (.str "flip")=some (.bool false):=(e7 bC cb).trans (congrArg (fun z=>some (PyData.bool z)) (show (("cross":Str)==("flip":Str))=false by decide +kernel))
@[simp] theorem FG:bo (.str "cross") (.str "tie")=some (.bool false):=(e7 bC cJ).trans (congrArg (fun z=>some (PyData.bool z)) (show (("cross":Str)==("tie":Str))=false by decide +kernel))
@[simp] theorem DI:bo (.str "cross") (.str "sign")=some (.bool false):=(e7 bC b8).trans (congrArg (fun z=>some (PyData.bool z)) (show (("cross":Str)==("sign":Str))=false by decide +kernel))
@[simp] theorem Cq:bo (.str "cross") (.str "cross")=some (.bool true):=(e7 bC bC).trans (congrArg (fun z=>some (PyData.bool z)) (show (("cross":Str)==("cross":Str))=true by decide +kernel))
@[simp] theorem DJ:bo (.str "cross") (.str "look")=some (.bool false):=(e7 bC b9).trans (congrArg (fun z=>some (PyData.bool z)) (show (("cross":Str)==("look":Str))=false by decide +kernel))
@[simp] theorem Co:bo (.str "cross") (.str "where")=some (.bool false):=(e7 bC bA).trans (congrArg (fun z=>some (PyData.bool z)) (show (("cross":Str)==("where":Str))=false by decide +kernel))
@[simp] theorem DB:bo (.str "look") (.str "swing")=some (.bool false):=(e7 b9 bB).trans (congrArg (fun z=>some (PyData.bool z)) (show (("look":Str)==("swing":Str))=false by decide +kernel))
@[simp] theorem Fy:bo (.str "look") (.str "turn")=some (.bool false):=(e7 b9 b7).trans (congrArg (fun z=>some (PyData.bool z)) (show (("look":Str)==("turn":Str))=false by decide +kernel))
@[simp] theorem FB:bo (.str "look") (.str "flip")=some (.bool false):=(e7 b9 cb).trans (congrArg (fun z=>some (PyData.bool z)) (show (("look":Str)==("flip":Str))=false by decide +kernel))
@[simp] theorem GS:bo (.str "look") (.str "tie")=some (.bool false):=(e7 b9 cJ).trans (congrArg (fun z=>some (PyData.bool z)) (show (("look":Str)==("tie":Str))=false by decide +kernel))
@[simp] theorem Fz:bo (.str "look") (.str "sign")=some (.bool false):=(e7 b9 b8).trans (congrArg (fun z=>some (PyData.bool z)) (show (("look":Str)==("sign":Str))=false by decide +kernel))
@[simp] theorem DC:bo (.str "look") (.str "cross")=some (.bool false):=(e7 b9 bC).trans (congrArg (fun z=>some (PyData.bool z)) (show (("look":Str)==("cross":Str))=false by decide +kernel))
@[simp] theorem FA:bo (.str "look") (.str "look")=some (.bool true):=(e7 b9 b9).trans (congrArg (fun z=>some (PyData.bool z)) (show (("look":Str)==("look":Str))=true by decide +kernel))
@[simp] theorem DA:bo (.str "look") (.str "where")=some (.bool false):=(e7 b9 bA).trans (congrArg (fun z=>some (PyData.bool z)) (show (("look":Str)==("where":Str))=false by decide +kernel))
@[simp] theorem Ci:bo (.str "where") (.str "swing")=some (.bool false):=(e7 bA bB).trans (congrArg (fun z=>some (PyData.bool z)) (show (("where":Str)==("swing":Str))=false by decide +kernel))
@[simp] theorem Dl:bo (.str "where") (.str "turn")=some (.bool false):=(e7 bA b7).trans (congrArg (fun z=>some (PyData.bool z)) (show (("where":Str)==("turn":Str))=false by decide +kernel))
@[simp] theorem Do:bo (.str "where") (.str "flip")=some (.bool false):=(e7 bA cb).trans (congrArg (fun z=>some (PyData.bool z)) (show (("where":Str)==("flip":Str))=false by decide +kernel))
@[simp] theorem Fj:bo (.str "where") (.str "tie")=some (.bool false):=(e7 bA cJ).trans (congrArg (fun z=>some (PyData.bool z)) (show (("where":Str)==("tie":Str))=false by decide +kernel))
@[simp] theorem Dm:bo (.str "where") (.str "sign")=some (.bool false):=(e7 bA b8).trans (congrArg (fun z=>some (PyData.bool z)) (show (("where":Str)==("sign":Str))=false by decide +kernel))
@[simp] theorem Cj:bo (.str "where") (.str "cross")=some (.bool false):=(e7 bA bC).trans (congrArg (fun z=>some (PyData.bool z)) (show (("where":Str)==("cross":Str))=false by decide +kernel))
@[simp] theorem Dn:bo (.str "where") (.str "look")=some (.bool false):=(e7 bA b9).trans (congrArg (fun z=>some (PyData.bool z)) (show (("where":Str)==("look":Str))=false by decide +kernel))
@[simp] theorem Ch:bo (.str "where") (.str "where")=some (.bool true):=(e7 bA bA).trans (congrArg (fun z=>some (PyData.bool z)) (show (("where":Str)==("where":Str))=true by decide +kernel))
@[simp] theorem LS (u w:Sf) (δ:Dv) (a b:Int):Lb u w δ (a==b)=if a=b then u δ else w δ:=by
 by_cases h:a=b
 ·subst h; simp
 ·have:(a==b)=false:=by simpa using h
  rw [this,if_neg h]; rfl
theorem vT {α:Type} {f:D->Option D} {h k:α -> D}:∀ (xs:List α),(∀ x∈xs,f (h x)=some (k x))->Ai f (xs.map h)=some (xs.map k)
 | [],_=>rfl
 | x::xs,H=>by
  show ((f (h x)).bind fun y=>_)=_
  rw [H x List.mem_cons_self]
  show ((Ai f (xs.map h)).bind fun ys=>_)=_
  rw [vT xs fun y hy=>H y (List.mem_cons_of_mem _ hy)]
  rfl
theorem wc {α:Type} {t:D->Option Bool} {f:D->Option D} {h k:α -> D} {b:α -> Bool}:∀ (xs:List α),(∀ x∈xs,t (h x)=some (b x))->(∀ x∈xs,b x=true->f (h x)=some (k x))->jN t f (xs.map h)=some ((xs.filter b).map k)
 | [],_,_=>rfl
 | x::xs,H,G=>by
  have ih:=wc (k:=k) xs (fun y hy=>H y (List.mem_cons_of_mem _ hy)) (fun y hy=>G y (List.mem_cons_of_mem _ hy))
  show ((t (h x)).bind fun c=>_)=_
  rw [H x List.mem_cons_self,Option.bind_some]
  cases e:b x with
  | false=>simp [e,ih]
  | true=>simp [e,ih,G x List.mem_cons_self e]
theorem de {α:Type} {fi:Dv->Option (List D)} {caps:List (Nat×Str)} {fe:Dv->Option D} {δ:Dv} {h k:α -> D} {xs:List α} (e:fi δ = some (xs.map h)) (hl:xs.length<=16777216) (H:∀ x∈xs,fe (.fz (h x)::capS δ caps)=some (k x)):dI fi caps p3 fe δ = some (.list (xs.map k)):=by
 unfold dI
 rw [e,Option.bind_some,if_pos (by rw [List.length_map]; exact hl),vT xs (k:=k) fun x hx=>by
  show fe _=_
  exact H x hx]
 rfl
theorem nU {α:Type} {fi:Dv->Option (List D)} {caps:List (Nat×Str)} {ft:Dv->Option Bool} {fe:Dv->Option D} {δ:Dv} {h k:α -> D} {b:α -> Bool} {xs:List α} (e:fi δ = some (xs.map h)) (hl:xs.length<=16777216) (H:∀ x∈xs,ft (.fz (h x)::capS δ caps)=some (b x)) (G:∀ x∈xs,b x=true->fe (.fz (h x)::capS δ caps)=some (k x)):mj fi caps p3 ft fe δ = some (.list ((xs.filter b).map k)):=by
 unfold mj
 rw [e,Option.bind_some,if_pos (by rw [List.length_map]; exact hl),wc xs (b:=b) (k:=k) (fun x hx=>by
  show ft _=_
  exact H x hx) (fun x hx hb=>by
  show fe _=_
  exact G x hx hb)]
 rfl
@[simp] theorem LR (u w:Sf) (δ:Dv) (a b:Int):Lb u w δ (!(a==b))=if a=b then w δ else u δ:=by
 by_cases h:a=b
 ·subst h; simp
 ·have:(a==b)=false:=by simpa using h
  rw [this,if_neg h]; rfl
@[simp] theorem MZ (a b c d e f:D):jw [a,b,c,d,e,f]=some (.list [a,b,c,d,e,f]):=lq (by simp)
open MA (Nu Row wt au flp eG aN)
noncomputable def cn (u:Nu):D:=tup5 u.1 u.2
noncomputable def gF (n:Nat) (f:Nat->Nu):D:=.tuple ((List.range (2 ^ n)).map fun p=>cn (f p))
noncomputable def rowD:Row->D
 | .swing j=>.tuple [.str "swing",.int j]
 | .turn j e=>.tuple [.str "turn",.int j,.int e]
 | .flip j=>.tuple [.str "flip",.int j]
 | .tie i j=>.tuple [.str "tie",.int i,.int j]
 | .sign i j=>.tuple [.str "sign",.int i,.int j]
 | .cross i j=>.tuple [.str "cross",.int i,.int j]
theorem ql {n:Nat} {f:Nat->Nu} {i:Int} (p:Nat) (hi:i=p) (hp:p<2 ^ n):ax (gF n f) (.int i)=some (cn (f p)):=by
 show iD _ _=_
 exact eK (j:=p) hi (by simp [hp])
theorem mm (n:Nat) (f:Nat->Nu):ck [gF n f]=some (.int ((2 ^ n:Nat):Int)):=by
 show some (PyData.int (((List.range (2 ^ n)).map fun p=>cn (f p)).length:Nat))=_
 rw [List.length_map,List.length_range]
theorem km {b:Sf} {k:Nat} (I:Nat->Dv->Prop) (n:Nat) (h:∀ i,i<n->∀ δ,I i δ -> ∃ δ2,b (δ.set k (.fz (.int i)))=some (.nx,δ2)/\I (i+1) δ2):∀ δ,I 0 δ -> ∃ δ',loop (gN k) b (oX 0 n) δ = some (.nx,δ')/\I n δ':=by
 have go:∀ (m i:Nat),i+m=n->∀ δ,I i δ -> ∃ δ',loop (gN k) b ((List.range' i m).map fun (k:Nat)=>PyData.int (0+(k:Int))) δ = some (.nx,δ')/\I n δ':=by
  intro m
  induction m with
  | zero=>intro i e δ h; exact ⟨δ,rfl,by rw [<- e]; exact h⟩
  | succ m ih=>
   intro i e δ hi
   obtain ⟨δ2,e2,h2⟩:=h i (by omega) δ hi
   obtain ⟨δ',e3,h3⟩:=ih (i+1) (by omega) δ2 h2
   refine ⟨δ',?_,h3⟩
   rw [<- e3,List.range'_succ,List.map_cons]
   exact bU (δ1:=δ.set k (.fz (.int i))) (by simp) e2
 intro δ h0
 have:=go n 0 (by omega) δ h0
 rw [<- List.range_eq_range'] at this
 exact this
theorem E3 (x:MA.Q4) (k:Nat):∃ c:Nat,(MA.num x k).2=c/\c<=k:=by
 obtain ⟨c,e,h,_⟩:=MA.IA x k
 exact ⟨c,e,h⟩
theorem BM (u v:Nu):(MA.cI u v).2<=max u.2 v.2:=by
 obtain ⟨c,e2,h⟩:=E3 (MA.Q4.add (MA.Q4.rtn (max (u.2:Int) v.2-u.2).toNat u.1) (MA.Q4.rtn (max (u.2:Int) v.2-v.2).toNat v.1)) (max u.2 v.2)
 have e3:((max u.2 v.2:Nat):Int)=max (u.2:Int) v.2:=by omega
 rw [e3] at e2
 show (MA.iR u.1 u.2 v.1 v.2).2.toNat<=_
 unfold MA.iR
 rw [e2]; exact h
theorem jL (n:Nat) (hn:n<=6):bQ [.int ((2 ^ n:Nat):Int)]=some ((List.range (2 ^ n)).map fun k:Nat=>PyData.int (0+(k:Int))):=by
 have sq:(2 ^ n:Nat)<=64:=(Nat.pow_le_pow_right (by decide) hn:2 ^ n<=2 ^ 6)
 generalize (2 ^ n:Nat)=N at sq ⊢
 exact lh (j:=(N:Int)) (by omega) (by omega)
theorem yY {fi:Dv->Option (List D)} {caps:List (Nat×Str)} {fe:Dv->Option D} {δ:Dv} {N:Nat} {y:Nat->D} (e:fi δ = some ((List.range N).map fun k:Nat=>PyData.int (0+(k:Int)))) (hl:N<=16777216) (H:∀ p:Nat,p<N->fe (.fz (.int p)::capS δ caps)=some (y p)):dI fi caps p3 fe δ = some (.list ((List.range N).map y)):=by
 refine de e (by rw [List.length_range]; exact hl) fun p hp=>?_
 rw [Int.zero_add]
 exact H p (List.mem_range.mp hp)
noncomputable def Bd (k p:Nat) (f:Nat->Nu):Prop:=∀ x,(f x).2<=k/\MA.Q4.Le (2 ^ p) (f x).1
theorem FO (u:Nu):(MA.dt u).2<=u.2+1:=by
 obtain ⟨c,e,h⟩:=E3 u.1 (u.2+1)
 show (MA.num u.1 ((u.2+1:Nat):Int)).2.toNat<=_
 rw [e]; exact h
theorem FP {u:Nu} {M:Nat} (h:MA.Q4.Le M u.1):MA.Q4.Le M (MA.dt u).1:=MA.B7 _ _ (by omega) _ h
theorem Bd.done {k p:Nat} {f:Nat->Nu} (h:Bd k p f) (n:Nat) (r:Row):Bd (k+1) (p+k+1) (aN n f r):=fun x=>by
 have mono:∀ y,(f y).2<=k+1/\MA.Q4.Le (2 ^ (p+k+1)) (f y).1:=fun y=>⟨by have:=(h y).1; omega,(h y).2.mono (Nat.pow_le_pow_right (by decide) (by omega))⟩
 have pl:∀ (u v:Nu),u.2<=k->v.2<=k->MA.Q4.Le (2 ^ p) u.1->MA.Q4.Le (2 ^ p) v.1->(MA.dt (MA.cI u v)).2<=k+1/\MA.Q4.Le (2 ^ (p+k+1)) (MA.dt (MA.cI u v)).1:=fun u v h1 h2 h3 h4=>by
  refine ⟨?_,FP ?_⟩
  ·have:=FO (MA.cI u v)
   have:=BM u v
   omega
  ·exact MA.BL h3 h4 h1 h2
 cases r with
 | swing j=>
  show (if au (wt n j) x=0 then _ else _:Nu).2<=_/\MA.Q4.Le _ (if au (wt n j) x=0 then _ else _:Nu).1
  split
  ·exact pl _ _ (h _).1 (h _).1 (h _).2 (h _).2
  ·exact pl _ _ (h _).1 (h _).1 (h _).2 (MA.qg _ (h _).2)
 | turn j e=>exact ⟨(mono x).1,MA.qg _ (mono x).2⟩
 | sign i j=>exact ⟨(mono x).1,MA.qg _ (mono x).2⟩
 | flip j=>exact mono _
 | tie i j=>exact mono _
 | cross i j=>exact mono _
theorem Bd.mono {k p k' p':Nat} {f:Nat->Nu} (h:Bd k p f) (h1:k<=k') (h2:p<=p'):Bd k' p' f:=fun x=>⟨Nat.le_trans (h x).1 h1,(h x).2.mono (Nat.pow_le_pow_right (by decide) h2)⟩
theorem Mm:((List.range 6).all fun k=>(List.range 64).all fun p=>(p &&& 2 ^ k==2 ^ k*au (2 ^ k) p)&&(p ^^^ 2 ^ k==flp (2 ^ k) p))=true:=by decide +kernel
theorem Ml:((List.range 6).all fun k=>(List.range 6).all fun l=>(List.range 64).all fun p=>(k==l)||((2 ^ k ||| 2 ^ l==2 ^ k+2 ^ l)&&(p &&& (2 ^ k+2 ^ l)==2 ^ k*au (2 ^ k) p+2 ^ l*au (2 ^ l) p)&&(p ^^^ (2 ^ k+2 ^ l)==flp (2 ^ l) (flp (2 ^ k) p))))=true:=by decide +kernel
section
variable {n:Nat} (hn:n<=6)
include hn
theorem qy:2 ^ n<=64:=(Nat.pow_le_pow_right (by decide) hn:2 ^ n<=2 ^ 6)
theorem ol {j p:Nat} (hj:j<n) (hp:p<2 ^ n):p &&& wt n j=wt n j*au (wt n j) p/\p ^^^ wt n j=flp (wt n j) p:=by
 have h:=Mm
 rw [List.all_eq_true] at h
 have h:=h (n-1-j) (List.mem_range.mpr (by omega))
 rw [List.all_eq_true] at h
 have h:=h p (List.mem_range.mpr (Nat.lt_of_lt_of_le hp (qy hn)))
 rw [Bool.and_eq_true,beq_iff_eq,beq_iff_eq] at h
 exact h
theorem lF {i j p:Nat} (hi:i<n) (hj:j<n) (hij:i≠j) (hp:p<2 ^ n):wt n i ||| wt n j=wt n i+wt n j/\p &&& (wt n i+wt n j)=wt n i*au (wt n i) p+wt n j*au (wt n j) p/\p ^^^ (wt n i+wt n j)=flp (wt n j) (flp (wt n i) p):=by
 have h:=Ml
 rw [List.all_eq_true] at h
 have h:=h (n-1-i) (List.mem_range.mpr (by omega))
 rw [List.all_eq_true] at h
 have h:=h (n-1-j) (List.mem_range.mpr (by omega))
 rw [List.all_eq_true] at h
 have h:=h p (List.mem_range.mpr (Nat.lt_of_lt_of_le hp (qy hn)))
 rw [Bool.or_eq_true,Bool.and_eq_true,Bool.and_eq_true,beq_iff_eq,beq_iff_eq,beq_iff_eq,beq_iff_eq] at h
 rcases h with h | h
 ·exact absurd h (by omega)
 ·exact ⟨h.1.1,h.1.2,h.2⟩
theorem bz {j:Nat} (hj:j<n):bY [.int n,.int j]=some (.int (wt n j:Nat)):=by
 have hb:Builtin.Int.intBits 1=1:=by decide +kernel
 have e:=mM (i:=1) (j:=(n:Int)-1-(j:Int)) (by omega) (by omega)
 have e2:(1:Int)*2 ^ ((n:Int)-1-(j:Int)).toNat=((wt n j:Nat):Int):=by
  unfold MA.wt
  rw [show ((n:Int)-1-(j:Int)).toNat=n-1-j by omega]
  push_cast
  omega
 rw [e2] at e
 simp [bY,runB,uY,av,e]
theorem vb (f:Nat->Nu):nh (.int ((2 ^ n:Nat):Int))=some (.int ((n:Int)+1)):=by
 have e:((2 ^ n:Nat):Int)=2 ^ n:=by push_cast; rfl
 have:=MA.wn n
 rw [tu,e,this]
 rfl
theorem BK (u v:Nu) (hu:MA.Q4.Le (2 ^ 100000) u.1) (hv:MA.Q4.Le (2 ^ 100000) v.1) (hc:u.2<=50000) (hd:v.2<=50000):ja [cn u,cn v]=some (cn (MA.cI u v)):=by
 have e:=EI u.1 u.2 v.1 v.2 hu hv (by omega) (by omega) (by omega) (by omega)
 unfold cn MA.cI
 rw [e]
 obtain ⟨c,e2,h⟩:=E3 (MA.Q4.add (MA.Q4.rtn (max (u.2:Int) v.2-u.2).toNat u.1) (MA.Q4.rtn (max (u.2:Int) v.2-v.2).toNat v.1)) (max u.2 v.2)
 have e3:((max u.2 v.2:Nat):Int)=max (u.2:Int) v.2:=by omega
 rw [e3] at e2
 show some (tup5 _ (MA.iR u.1 u.2 v.1 v.2).2)=some (tup5 _ ((MA.iR u.1 u.2 v.1 v.2).2.toNat:Int))
 unfold MA.iR
 rw [e2]; rfl
theorem v8 (u:Nu):eS [cn u]=some (cn (MA.dt u)):=by
 have e:=Ap u.1 u.2 (by omega)
 obtain ⟨c,e2,h⟩:=E3 u.1 (u.2+1)
 have e3:((u.2+1:Nat):Int)=(u.2:Int)+1:=by omega
 unfold cn MA.dt
 rw [e,e3]
 rw [e3] at e2
 rw [e2]; rfl
theorem AQ (u:Nu):fD [cn u]=some (cn (MA.aG 4 u)):=by
 have e:=xP u.1 u.2
 unfold cn MA.aG
 rw [e]
 have:MA.fG (4 % 8) u.1=MA.Q4.neg u.1:=by
  show MA.Q4.tn (MA.Q4.tn (MA.Q4.tn (MA.Q4.tn u.1)))=_
  unfold MA.Q4.tn MA.Q4.neg
  rfl
 rw [this]
theorem vh (u:Nu) (e:Nat):da [cn u,.int e]=some (cn (MA.aG e u)):=by
 have h:=sA u.1 u.2 e
 unfold cn MA.aG
 rw [h,show ((e:Int) % 8).toNat=e % 8 by omega]
end
section
variable {n:Nat} (hn:n<=6) (f:Nat->Nu) (hf:∀ p,(f p).2<=40000) (hL:∀ p,MA.Q4.Le (2 ^ 100000) (f p).1)
include hn
theorem Bh (X x y a b:D) (p w q:Int) (ds:List D) (hs:ds.length<sizeLine) (h1:Builtin.bitAnd p w=0) (h2:Builtin.bitXor p w=q) (a0:ax X (.int p)=some x) (a1:ax X (.int q)=some y) (e1:ja [x,y]=some a) (e2:eS [a]=some b) :
  gB [.fz X,.fz (.int w),.ow ds,.fz (.int p)]=some (.nx,[.fz X,.fz (.int w),.ow (ds++[b]),.fz (.int p)]):=by
 simp [-sSeq,-sIf,aC,aJ,gB,h1,h2,a0,a1,e1,e2,hs]
theorem Bg (X x y z a b:D) (p w q m:Int) (ds:List D) (hs:ds.length<sizeLine) (h1:Builtin.bitAnd p w=m) (hm:m≠0) (h2:Builtin.bitXor p w=q) (a0:ax X (.int p)=some x) (a1:ax X (.int q)=some y) (e0:fD [x]=some z) (e1:ja [y,z]=some a) (e2:eS [a]=some b) :
  gB [.fz X,.fz (.int w),.ow ds,.fz (.int p)]=some (.nx,[.fz X,.fz (.int w),.ow (ds++[b]),.fz (.int p)]):=by
 have hm':(m==0)=false:=by simpa using hm
 simp [-sSeq,-sIf,aC,aJ,gB,h1,hm',h2,a0,a1,e0,e1,e2,hs]
include hf hL
theorem Bj {j:Nat} (hj:j<n) (p:Nat) (hp:p<2 ^ n) (ds:List D) (hl:ds.length<1000) :
  gB [.fz (gF n f),.fz (.int (wt n j:Nat)),.ow ds,.fz (.int p)]=some (.nx,[.fz (gF n f),.fz (.int (wt n j:Nat)),.ow (ds++[cn (aN n f (.swing j) p)]),.fz (.int p)]):=by
 have hs:ds.length<sizeLine:=by show _<16777216; omega
 have ha:=ol hn hj hp
 have b1:=MA.lI p (wt n j)
 have b2:=MA.ky p (wt n j)
 rw [ha.1] at b1
 rw [ha.2] at b2
 have hw:=MA.bf n j
 have q:=MA.mq hj hp
 have a0:ax (gF n f) (.int (p:Int))=some (cn (f p)):=ql p rfl hp
 have a1:ax (gF n f) (.int ((flp (wt n j) p:Nat):Int))=some (cn (f (flp (wt n j) p))):=ql _ rfl q
 by_cases h:au (wt n j) p=0
 ·rw [h,Nat.mul_zero] at b1
  have e:aN n f (.swing j) p=MA.dt (MA.cI (f p) (f (p+wt n j))):=if_pos h
  have ef:flp (wt n j) p=p+wt n j:=if_pos h
  rw [ef] at a1 b2
  rw [e]
  exact Bh hn _ _ _ _ _ _ _ _ _ hs b1 b2 a0 a1 (BK hn _ _ (hL _) (hL _) (by have:=hf p; omega) (by have:=hf (p+wt n j); omega)) (v8 hn _)
 ·have h1:au (wt n j) p=1:=by have:=MA.bE (wt n j) p; omega
  rw [h1,Nat.mul_one] at b1
  have e:aN n f (.swing j) p=MA.dt (MA.cI (f (p-wt n j)) (MA.aG 4 (f p))):=if_neg h
  have ef:flp (wt n j) p=p-wt n j:=if_neg h
  rw [ef] at a1 b2
  rw [e]
  exact Bg hn _ _ _ _ _ _ _ _ _ _ _ hs b1 (by omega) b2 a0 a1 (AQ hn _) (BK hn _ _ (hL _) (MA.qg _ (hL p)) (by have:=hf (p-wt n j); omega) (by show (f p).2<=_; have:=hf p; omega)) (v8 hn _)
omit hf hL hn in
theorem Ej (X Y:D) (w S:Int) (RL L:List D) (y:Sl) (ln:ck [X]=some (.int S)) (hN:bQ [.int S]=some RL) (e:loop (gN 3) gB RL [.fz X,.fz (.int w),.ow [],.un]=some (.nx,[.fz X,.fz (.int w),.ow L,y])) (tp:df [.list L]=some Y):iW [X,.int w]=some Y:=by
 simp [-sSeq,-sIf,aC,aJ,iW,runB,u3,av,ln,hN,e,pi,tp]
theorem Bi {j:Nat} (hj:j<n):iW [gF n f,.int (wt n j:Nat)]=some (gF n (aN n f (.swing j))):=by
 have sq:=qy hn
 have hN:bQ [.int ((2 ^ n:Nat):Int)]=some (oX 0 (2 ^ n)):=jL n hn
 obtain ⟨δ',e,y3,rfl⟩:=km (b:=gB) (k:=3) (fun i δ=>∃ y3,δ = [.fz (gF n f),.fz (.int (wt n j:Nat)),.ow ((List.range i).map fun p=>cn (aN n f (.swing j) p)),y3]) (2 ^ n) (by
   rintro i hi δ ⟨y3,rfl⟩
   have e:=Bj hn f hf hL hj i hi ((List.range i).map fun p=>cn (aN n f (.swing j) p)) (by simp; omega)
   refine ⟨[.fz (gF n f),.fz (.int (wt n j:Nat)),.ow ((List.range (i+1)).map fun p=>cn (aN n f (.swing j) p)),.fz (.int i)],?_,_,rfl⟩
   rw [List.range_succ,List.map_append]
   exact e) [.fz (gF n f),.fz (.int (wt n j:Nat)),.ow [],.un] ⟨_,rfl⟩
 have ln:=mm n f
 have tp:df [.list ((List.range (2 ^ n)).map fun p=>cn (aN n f (.swing j) p))]=some (gF n (aN n f (.swing j))):=rfl
 exact Ej _ _ _ _ _ _ _ ln hN e tp
omit hf hL
omit hn in
theorem xA {fi:Dv->Option (List D)} {caps:List (Nat×Str)} {fe:Dv->Option D} {δ:Dv} {N:Nat} {y:Nat->D} (e:fi δ = some ((List.range N).map fun k:Nat=>PyData.int (0+(k:Int)))) (hl:N<=16777216) (H:∀ p:Nat,p<N->fe (.fz (.int p)::capS δ caps)=some (y p)):dI fi caps p3 fe δ = some (.list ((List.range N).map y)):=by
 refine de e (by rw [List.length_range]; exact hl) fun p hp=>?_
 rw [Int.zero_add]
 exact H p (List.mem_range.mp hp)
omit hn in
theorem L9 (X:D) (h e S:Int) (N:Nat) (x y:Nat->D) (ln:ck [X]=some (.int S)) (hN:bQ [.int S]=some ((List.range N).map fun k:Nat=>PyData.int (0+(k:Int)))) (hl:N<=16777216) (a:∀ p:Nat,p<N->ax X (.int p)=some (x p))
  (t:∀ p:Nat,p<N->Builtin.bitAnd p h=h->da [x p,.int e]=some (y p)) (u:∀ p:Nat,p<N->Builtin.bitAnd p h≠h->y p=x p):bJ [X,.int h,.int e]=some (.tuple ((List.range N).map y)):=by
 have c:jX [.fz X,.fz (.int h),.fz (.int e)]=some (.list ((List.range N).map y)):=xA (by simp [ln,hN]) hl fun p hp=>by
  have a0:=a p hp
  by_cases q:Builtin.bitAnd p h=h
  ·have t:=t p hp q
   simp [capS,a0,q,t]
  ·have t:=u p hp q
   rw [t]
   simp [capS,a0,q]
 simp [bJ,runB,ij,av,c]
omit hn in
theorem Nf (X:D) (h w S:Int) (N:Nat) (x y:Nat->D) (ln:ck [X]=some (.int S)) (hN:bQ [.int S]=some ((List.range N).map fun k:Nat=>PyData.int (0+(k:Int)))) (hl:N<=16777216) (a:∀ p:Nat,p<N->ax X (.int p)=some (x p))
  (t:∀ p:Nat,p<N->Builtin.bitAnd p h=h->∃ q:Nat,q<N/\Builtin.bitXor p w=q/\y p=x q) (u:∀ p:Nat,p<N->Builtin.bitAnd p h≠h->y p=x p):bw [X,.int h,.int w]=some (.tuple ((List.range N).map y)):=by
 have c:js [.fz X,.fz (.int h),.fz (.int w)]=some (.list ((List.range N).map y)):=xA (by simp [ln,hN]) hl fun p hp=>by
  have a0:=a p hp
  by_cases q:Builtin.bitAnd p h=h
  ·obtain ⟨q',hq,e1,e2⟩:=t p hp q
   have a1:=a q' hq
   rw [e2]
   simp [capS,e1,q,a1]
  ·have t:=u p hp q
   rw [t]
   simp [capS,a0,q]
 simp [bw,runB,gM,av,c]
theorem Gx (h e:Int) (g:Nat->Nu) (H:∀ p:Nat,p<2 ^ n->(Builtin.bitAnd p h=h->da [cn (f p),.int e]=some (cn (g p)))/\(Builtin.bitAnd p h≠h->g p=f p)):bJ [gF n f,.int h,.int e]=some (gF n g):=
 L9 (gF n f) h e _ (2 ^ n) (fun p=>cn (f p)) (fun p=>cn (g p)) (mm n f) (jL n hn) (Nat.le_trans (qy hn) (by decide)) (fun p hp=>ql p rfl hp) (fun p hp q=>(H p hp).1 q) (fun p hp q=>congrArg cn ((H p hp).2 q))
theorem GZ (h w:Int) (g:Nat->Nu) (H:∀ p:Nat,p<2 ^ n->(Builtin.bitAnd p h=h->∃ q:Nat,q<2 ^ n/\Builtin.bitXor p w=q/\g p=f q)/\(Builtin.bitAnd p h≠h->g p=f p)):bw [gF n f,.int h,.int w]=some (gF n g):=
 Nf (gF n f) h w _ (2 ^ n) (fun p=>cn (f p)) (fun p=>cn (g p)) (mm n f) (jL n hn) (Nat.le_trans (qy hn) (by decide)) (fun p hp=>ql p rfl hp) (fun p hp q=>let ⟨q',h1,h2,h3⟩:=(H p hp).1 q; ⟨q',h1,h2,congrArg cn h3⟩) (fun p hp q=>congrArg cn ((H p hp).2 q))
omit hn in
theorem CM (p W m q r:Int) (c:Bool) {b:Bool} (h1:Builtin.bitAnd p W=m) (h2:Builtin.bitXor p W=q) (h3:La false (.int m) (.tuple [.int 0,.int W])=some (.bool b)) (hb:b=c) (hr:(if c=true then p else q)=r):bG [.int p,.int W]=some (.int r):=by
 subst hb
 cases b
 ·simp at hr; subst hr; simp [bG,runB,iY,av,h1,h2,h3]
 ·simp at hr; subst hr; simp [bG,runB,iY,av,h1,h2,h3]
theorem uH {i j:Nat} (hi:i<n) (hj:j<n) (hij:i≠j) {p:Nat} (hp:p<2 ^ n):bG [.int p,.int ((wt n i+wt n j:Nat):Int)]=some (.int (eG n (.cross i j) p:Nat)):=by
 have ha:=lF hn hi hj hij hp
 have b1:=MA.lI p (wt n i+wt n j)
 have b2:=MA.ky p (wt n i+wt n j)
 rw [ha.2.1] at b1
 rw [ha.2.2] at b2
 have hwi:=MA.bf n i
 have hwj:=MA.bf n j
 have l1:=MA.bE (wt n i) p
 have l2:=MA.bE (wt n j) p
 have inT:∀ a b:Int,La false (.int a) (.tuple [.int 0,.int b])=some (.bool (0==a||b==a)):=fun a b=>by
  show some (PyData.bool (PyData.eqv (.int 0) (.int a)||(PyData.eqv (.int b) (.int a)||false)))=_
  rw [Bool.or_false]
  rfl
 have ef:eG n (.cross i j) p=if au (wt n i) p=au (wt n j) p then p else flp (wt n j) (flp (wt n i) p):=rfl
 rw [ef]
 by_cases h:au (wt n i) p=au (wt n j) p
 ·rw [if_pos h]
  have hb:au (wt n i) p=0\/au (wt n i) p=1:=by omega
  refine CM _ _ _ _ _ true b1 b2 (inT _ _) ?_ rfl
  rcases hb with hb | hb
  ·rw [<- h,hb]; simp
  ·rw [<- h,hb]; simp
 ·rw [if_neg h]
  refine CM _ _ _ _ _ false b1 b2 (inT _ _) ?_ rfl
  have hb:(au (wt n i) p=0/\au (wt n j) p=1)\/(au (wt n i) p=1/\au (wt n j) p=0):=by omega
  rcases hb with ⟨hb,hc⟩ | ⟨hb,hc⟩
  ·rw [hb,hc,Nat.mul_zero,Nat.mul_one,Nat.zero_add,Bool.or_eq_false_iff,beq_eq_false_iff_ne,beq_eq_false_iff_ne]
   omega
  ·rw [hb,hc,Nat.mul_zero,Nat.mul_one,Nat.add_zero,Bool.or_eq_false_iff,beq_eq_false_iff_ne,beq_eq_false_iff_ne]
   omega
omit hn in
theorem Nl (X:D) (S W1 W2 W:Int) (N:Nat) (x y:Nat->D) (R w0:Sl) (ho:Builtin.bitOr W1 W2=W) (ln:ck [X]=some (.int S)) (hN:bQ [.int S]=some ((List.range N).map fun k:Nat=>PyData.int (0+(k:Int)))) (hl:N<=16777216) (a:∀ p:Nat,p<N->ax X (.int p)=some (x p))
  (t:∀ p:Nat,p<N->∃ q:Nat,q<N/\bG [.int p,.int W]=some (.int q)/\y p=x q):uf [.fz X,R,w0,.fz (.int W1),.fz (.int W2)]=some (.list ((List.range N).map y)):=
 xA (by simp [ln,hN]) hl fun p hp=>by
  obtain ⟨q,hq,e1,e2⟩:=t p hp
  have a1:=a q hq
  rw [e2]
  simp [capS,ho,e1,a1]
section
omit hn
variable (X R Y:D) (S N w1 w2:Int) (i j:Int) (ln:ck [X]=some (.int S)) (bl:nh (.int S)=some (.int (N+1))) (r1:ax R (.int 1)=some (.int i)) (v1:bY [.int N,.int i]=some (.int w1))
include ln bl r1 v1
theorem uM (r0:ax R (.int 0)=some (.str "swing")) (h:iW [X,.int w1]=some Y):dO [X,R]=some Y:=by
 simp [-sSeq,-sIf,aC,aJ,dO,runB,kF,av,ln,bl,r0,r1,v1,h]
theorem wf (r0:ax R (.int 0)=some (.str "turn")) (r2:ax R (.int 2)=some (.int j)) (h:bJ [X,.int w1,.int j]=some Y):dO [X,R]=some Y:=by
 simp [-sSeq,-sIf,aC,aJ,dO,runB,kF,av,ln,bl,r0,r1,r2,v1,h]
theorem wj (r0:ax R (.int 0)=some (.str "flip")) (h:bw [X,.int 0,.int w1]=some Y):dO [X,R]=some Y:=by
 simp [-sSeq,-sIf,aC,aJ,dO,runB,kF,av,ln,bl,r0,r1,v1,h]
variable (r2:ax R (.int 2)=some (.int j)) (v2:bY [.int N,.int j]=some (.int w2))
include r2 v2
theorem xv (r0:ax R (.int 0)=some (.str "tie")) (h:bw [X,.int w1,.int w2]=some Y):dO [X,R]=some Y:=by
 simp [-sSeq,-sIf,aC,aJ,dO,runB,kF,av,ln,bl,r0,r1,r2,v1,v2,h]
theorem wg (W:Int) (ho:Builtin.bitOr w1 w2=W) (r0:ax R (.int 0)=some (.str "sign")) (h:bJ [X,.int W,.int 4]=some Y):dO [X,R]=some Y:=by
 simp [-sSeq,-sIf,aC,aJ,dO,runB,kF,av,ln,bl,r0,r1,r2,v1,v2,ho,h]
theorem uO (L:D) (r0:ax R (.int 0)=some (.str "cross")) (h:uf [.fz X,.fz R,.fz (.int N),.fz (.int w1),.fz (.int w2)]=some L) (t:df [L]=some Y):dO [X,R]=some Y:=by
 simp [-sSeq,-sIf,aC,aJ,dO,runB,kF,av,ln,bl,r0,r1,r2,v1,v2,h,t]
end
include hf hL
theorem FZ (r:Row) (hr:r.ok n):dO [gF n f,rowD r]=some (gF n (aN n f r)):=by
 have ln:=mm n f
 have bl:=vb hn f
 have sq:=qy hn
 cases r with
 | swing j=>exact uM _ _ _ _ _ _ _ ln bl rfl (bz hn hr) rfl (Bi hn f hf hL hr)
 | turn j e=>
  refine wf _ _ _ _ _ _ _ _ ln bl rfl (bz hn hr.1) rfl rfl (Gx hn f _ _ _ fun p hp=>?_)
  have ha:=(ol hn hr.1 hp).1
  have b1:=MA.lI p (wt n j)
  rw [ha] at b1
  have hw:=MA.bf n j
  have hb:au (wt n j) p=0\/au (wt n j) p=1:=by have:=MA.bE (wt n j) p; omega
  have e1:aN n f (.turn j e) p=MA.aG (e*au (wt n j) p) (f p):=rfl
  rw [e1,b1]
  rcases hb with hb | hb
  ·rw [hb,Nat.mul_zero,Nat.mul_zero]
   exact ⟨fun q=>absurd q (by omega),fun _=>rfl⟩
  ·rw [hb,Nat.mul_one,Nat.mul_one]
   exact ⟨fun _=>vh hn _ _,fun q=>absurd rfl q⟩
 | flip j=>
  refine wj _ _ _ _ _ _ _ ln bl rfl (bz hn hr) rfl (GZ hn f _ _ _ fun p hp=>?_)
  have b2:=MA.ky p (wt n j)
  rw [(ol hn hr hp).2] at b2
  have b0:=MA.lI p 0
  rw [Nat.and_zero] at b0
  exact ⟨fun _=>⟨_,MA.mq hr hp,b2,rfl⟩,fun q=>absurd b0 q⟩
 | tie i j=>
  refine xv _ _ _ _ _ _ _ _ _ ln bl rfl (bz hn hr.1) rfl (bz hn hr.2.1) rfl (GZ hn f _ _ _ fun p hp=>?_)
  have b2:=MA.ky p (wt n j)
  rw [(ol hn hr.2.1 hp).2] at b2
  have b1:=MA.lI p (wt n i)
  rw [(ol hn hr.1 hp).1] at b1
  have hw:=MA.bf n i
  have hb:au (wt n i) p=0\/au (wt n i) p=1:=by have:=MA.bE (wt n i) p; omega
  have e1:aN n f (.tie i j) p=f (if au (wt n i) p=0 then p else flp (wt n j) p):=rfl
  rw [e1,b1]
  rcases hb with hb | hb
  ·rw [hb,Nat.mul_zero]
   exact ⟨fun q=>absurd q (by omega),fun _=>rfl⟩
  ·rw [hb,Nat.mul_one,if_neg (by decide)]
   exact ⟨fun _=>⟨_,MA.mq hr.2.1 hp,b2,rfl⟩,fun q=>absurd rfl q⟩
 | sign i j=>
  have ho:=MA.Ls (wt n i) (wt n j)
  rw [(lF hn hr.1 hr.2.1 hr.2.2 (p:=0) (Nat.pow_pos (by decide))).1] at ho
  refine wg _ _ _ _ _ _ _ _ _ ln bl rfl (bz hn hr.1) rfl (bz hn hr.2.1) _ ho rfl (Gx hn f _ _ _ fun p hp=>?_)
  have b1:=MA.lI p (wt n i+wt n j)
  rw [(lF hn hr.1 hr.2.1 hr.2.2 hp).2.1] at b1
  have hw:=MA.bf n i
  have hw2:=MA.bf n j
  have hb:au (wt n i) p=0\/au (wt n i) p=1:=by have:=MA.bE (wt n i) p; omega
  have hc:au (wt n j) p=0\/au (wt n j) p=1:=by have:=MA.bE (wt n j) p; omega
  have e1:aN n f (.sign i j) p=MA.aG (4*au (wt n i) p*au (wt n j) p) (f p):=rfl
  rw [e1,b1]
  rcases hb with hb | hb
  ·rw [hb,Nat.mul_zero,Nat.mul_zero,Nat.zero_mul]
   refine ⟨fun q=>absurd q ?_,fun _=>rfl⟩
   rcases hc with hc | hc <;> rw [hc] <;> omega
  ·rcases hc with hc | hc
   ·rw [hb,hc,Nat.mul_one,Nat.mul_zero,Nat.mul_zero]
    exact ⟨fun q=>absurd q (by omega),fun _=>rfl⟩
   ·rw [hb,hc,Nat.mul_one,Nat.mul_one,Nat.mul_one,Nat.mul_one]
    exact ⟨fun _=>vh hn _ 4,fun q=>absurd rfl q⟩
 | cross i j=>
  have ho:=MA.Ls (wt n i) (wt n j)
  rw [(lF hn hr.1 hr.2.1 hr.2.2 (p:=0) (Nat.pow_pos (by decide))).1] at ho
  refine uO _ _ _ _ _ _ _ _ _ ln bl rfl (bz hn hr.1) rfl (bz hn hr.2.1) _ rfl (Nl (gF n f) _ _ _ _ (2 ^ n) (fun p=>cn (f p)) (fun p=>cn (aN n f (.cross i j) p)) _ _ ho ln (jL n hn) (by omega) (fun p hp=>ql p rfl hp) fun p hp=>?_) rfl
  exact ⟨_,MA.pV (r:=.cross i j) hr hp,uH hn hr.1 hr.2.1 hr.2.2 hp,rfl⟩
end
open MA (Wd par bR)
noncomputable def eL (w:Wd):D:=.tuple [.int w.x,.int w.z,.int w.s]
theorem qa (A B:Sl):∀ (c n:Nat) (v:Nat),MA.tf n=c->v<2->iH fq gA (c+1) [A,B,.fz (.int n),.fz (.int v)]=some (.nx,[A,B,.fz (.int 0),.fz (.int ((v+c) % 2:Nat))])
 | 0,n,v,hc,hv=>by
  have:n=0:=by
   refine Classical.byContradiction fun h=>?_
   have:=MA.nW n n Nat.lt_two_pow_self h
   omega
  subst this
  rw [wG _ (by simp [fq])]
  rw [show (v+0) % 2=v by omega]
  rfl
 | c+1,n,v,hc,hv=>by
  have h0:n≠0:=fun z=>by subst z; rw [MA.jB] at hc; omega
  have hcl:=MA.nW n n Nat.lt_two_pow_self h0
  have ih:=qa A B c (n &&& (n-1)) (1-v) (by omega) (by omega)
  have e1:Builtin.bitAnd (n:Int) ((n:Int)-1)=((n &&& (n-1):Nat):Int):=by
   rw [show (n:Int)-1=((n-1:Nat):Int) by omega]
   exact MA.lI _ _
  have e2:(1:Int)-(v:Int)=((1-v:Nat):Int):=by omega
  have e3:(1-v+c) % 2=(v+(c+1)) % 2:=by omega
  rw [e3] at ih
  exact A3 _ (by simp [fq,h0]) (by simp [gA,e1,e2]) ih
theorem DV (a b n P:Int) {r:Sl} (e1:Builtin.bitAnd a b=n) (e:iH fq gA wN [.fz (.int a),.fz (.int b),.fz (.int n),.fz (.int 0)]=some (.nx,[.fz (.int a),.fz (.int b),r,.fz (.int P)])):bp [.int a,.int b]=some (.int P):=by
 simp [-sSeq,-sIf,aC,aJ,bp,runB,mz,av,e1,e]
theorem mG (a b:Nat) (h:a<2 ^ 100000):bp [.int a,.int b]=some (.int (par (a &&& b):Nat)):=by
 have hc:MA.tf (a &&& b)<=100000:=MA.CW _ _ (Nat.lt_of_le_of_lt Nat.and_le_left h)
 have e:=lS (qa (.fz (.int a)) (.fz (.int b)) (MA.tf (a &&& b)) (a &&& b) 0 rfl (by decide)) (m:=wN) (by show _<=1000000; omega)
 have e1:=MA.lI a b
 rw [show (0+MA.tf (a &&& b)) % 2=par (a &&& b) by unfold par; omega] at e
 have e':iH fq gA wN [.fz (.int a),.fz (.int b),.fz (.int ((a &&& b:Nat):Int)),.fz (.int 0)]=_:=e
 exact DV _ _ _ _ e1 e'
theorem Ef (a b c x y z v p q r:Int) (hv:bp [.int b,.int x]=some (.int v)) (h1:Builtin.bitXor a x=p) (h2:Builtin.bitXor b y=q) (h3:(c+z+2*v) % 4=r) (hm:IntMulOk 2 v):bh [.tuple [.int a,.int b,.int c],.tuple [.int x,.int y,.int z]]=some (.tuple [.int p,.int q,.int r]):=by
 simp [-sSeq,-sIf,aC,aJ,bh,runB,jR,av,hv,h1,h2,h3,hm]
theorem kS (u v:Wd) {n:Nat} (hn:n<=6) (hu:u.ok n) (hv:v.ok n):bh [eL u,eL v]=some (eL (bR u v)):=by
 have h:u.z<2 ^ 100000:=Nat.lt_of_lt_of_le hu.2.1 (Nat.pow_le_pow_right (by decide) (by omega))
 refine Ef _ _ _ _ _ _ _ _ _ _ (mG u.z v.x h) (MA.ky _ _) (MA.ky _ _) ?_ (.of_left (by decide))
 show _=(((u.s+v.s+2*par (u.z &&& v.x)) % 4:Nat):Int)
 omega
theorem ya (a b c x y z:Int):bo (.tuple [.int a,.int b,.int c]) (.tuple [.int x,.int y,.int z])=some (.bool (a==x&&(b==y&&c==z))):=by
 show (if _ then _ else _)=_
 rw [if_pos ⟨rfl,rfl⟩]
 simp [PyData.eqv,PyData.eqvAll]
theorem JT (a b:Nat) (ha:a<2) (hb:b<2):Builtin.bitXor (a:Int) (b:Int)=((a+b) % 2:Nat):=by
 rw [MA.ky]
 have:a=0\/a=1:=by omega
 have:b=0\/b=1:=by omega
 rcases ‹a=0\/a=1› with rfl | rfl <;> rcases ‹b=0\/b=1› with rfl | rfl <;> rfl
theorem Lw (a:Nat):Builtin.bitAnd (a:Int) 1=((a % 2:Nat):Int):=by
 have:=MA.lI a 1
 rw [show ((1:Nat):Int)=1 from rfl] at this
 rw [this,Nat.and_one_is_mod]
theorem KA (p i o b s r:Int) (h0:jF (.int p) (.int i)=some (.int s)) (h1:Builtin.bitAnd s 1=b) (h2:Builtin.bitXor o b=r):fA [.fz (.int p),.fz (.int o),.fz (.int i)]=some (.nx,[.fz (.int p),.fz (.int r),.fz (.int i)]):=by
 simp [fA,h0,h1,h2]
theorem jt (p i o:Nat) (ho:o<2):fA [.fz (.int p),.fz (.int o),.fz (.int i)]=some (.nx,[.fz (.int p),.fz (.int ((o+p / 2 ^ i % 2) % 2:Nat)),.fz (.int i)]):=by
 have e0:jF (.int (p:Int)) (.int (i:Int))=some (.int ((p / 2 ^ i:Nat):Int)):=by
  rw [qo (by omega),Int.toNat_natCast]
  congr 2
 exact KA _ _ _ _ _ _ e0 (Lw (p / 2 ^ i)) (JT o (p / 2 ^ i % 2) ho (Nat.mod_lt _ (by decide)))
theorem Kz (p P:Int) (L:List D) (z:Sl) (e:bQ [.int 6]=some L) (lp:loop (gN 2) fA L [.fz (.int p),.fz (.int 0),.un]=some (.nx,[.fz (.int p),.fz (.int P),z])):cm [.int p]=some (.int P):=by
 simp [cm,runB,mF,av,e,lp]
theorem xc (p:Nat) (h:p<64):cm [.int p]=some (.int (par p:Nat)):=by
 have e:bQ [.int 6]=some [.int 0,.int 1,.int 2,.int 3,.int 4,.int 5]:=rfl
 have s0:=jt p 0 0 (by decide)
 have s1:=jt p 1 ((0+p / 2 ^ 0 % 2) % 2) (by omega)
 have s2:=jt p 2 (((0+p / 2 ^ 0 % 2) % 2+p / 2 ^ 1 % 2) % 2) (by omega)
 have s3:=jt p 3 ((((0+p / 2 ^ 0 % 2) % 2+p / 2 ^ 1 % 2) % 2+p / 2 ^ 2 % 2) % 2) (by omega)
 have s4:=jt p 4 (((((0+p / 2 ^ 0 % 2) % 2+p / 2 ^ 1 % 2) % 2+p / 2 ^ 2 % 2) % 2+p / 2 ^ 3 % 2) % 2) (by omega)
 have s5:=jt p 5 ((((((0+p / 2 ^ 0 % 2) % 2+p / 2 ^ 1 % 2) % 2+p / 2 ^ 2 % 2) % 2+p / 2 ^ 3 % 2) % 2+p / 2 ^ 4 % 2) % 2) (by omega)
 have hp:=MA.qz h
 have ef:((((((0+p / 2 ^ 0 % 2) % 2+p / 2 ^ 1 % 2) % 2+p / 2 ^ 2 % 2) % 2+p / 2 ^ 3 % 2) % 2+p / 2 ^ 4 % 2) % 2+p / 2 ^ 5 % 2) % 2=par p:=by
  rw [hp]
  simp only [show (2:Nat) ^ 0=1 from rfl,show (2:Nat) ^ 1=2 from rfl,show (2:Nat) ^ 2=4 from rfl,show (2:Nat) ^ 3=8 from rfl,show (2:Nat) ^ 4=16 from rfl,show (2:Nat) ^ 5=32 from rfl,Nat.div_one]
  omega
 rw [ef] at s5
 have lp:loop (gN 2) fA [.int 0,.int 1,.int 2,.int 3,.int 4,.int 5] [.fz (.int p),.fz (.int 0),.un]=some (.nx,[.fz (.int p),.fz (.int (par p:Nat)),.fz (.int 5)]):=by
  rw [bU (by rfl) s0,bU (by rfl) s1,bU (by rfl) s2,bU (by rfl) s3,bU (by rfl) s4,bU (by rfl) s5]
  rfl
 exact Kz _ _ _ _ e lp
theorem y0 (ns:List Int) (k:Int) (hk:0<=k):∃ c,aO [.list (ns.map .int),.int k]=some (.int c):=by
 by_cases h:k<ns.length
 ·have hk':k.toNat<ns.length:=by omega
  refine ⟨ns[k.toNat],?_⟩
  have e:iD (ns.map PyData.int) k=some (.int ns[k.toNat]):=eK (j:=k.toNat) (by omega) (by simp [hk'])
  simp [aO,runB,fX,av,h,e]
 ·exact ⟨0,by simp [aO,runB,fX,av,h]⟩
theorem HG (w:Nat) (h:w<=100):jm (.int 1) (.int (w:Int))=some (.int ((2 ^ w:Nat):Int)):=by
 have hb:Builtin.Int.intBits 1=1:=by decide +kernel
 have e:=mM (i:=1) (j:=(w:Int)) (by omega) (by omega)
 rw [e]
 simp
theorem Lk (c:Int) (m:Nat) (hm:0<m):∃ x:Nat,x<m/\c % (m:Int)=x/\bX (.int c) (.int (m:Int))=some (.int (x:Int)):=by
 have h1:=Int.emod_nonneg c (show (m:Int)≠0 by omega)
 have h2:=Int.emod_lt_of_pos c (show (0:Int)<m by omega)
 have h3:=jv (i:=c) (show (0:Int)<m by omega)
 refine ⟨(c % (m:Int)).toNat,by omega,by omega,?_⟩
 rw [h3,Int.toNat_of_nonneg h1]
open MA (Wd par bR)
noncomputable def xX (f:Nat->Nu) (w:Wd) (p:Nat):Nu:=MA.aG (2*w.s+4*par ((p ^^^ w.x) &&& w.z)) (f (p ^^^ w.x))
theorem zq (u:Nu) (e:Nat):da [cn u,.int e]=some (cn (MA.aG e u)):=by
 have h:=sA u.1 u.2 e
 unfold cn MA.aG
 rw [h,show ((e:Int) % 8).toNat=e % 8 by omega]
theorem L5 (X W a b:D) (p x z s q v e:Int) (ds:List D) (z4:Sl) (hs:ds.length<sizeLine) (w0:ax W (.int 0)=some (.int x)) (w1:ax W (.int 1)=some (.int z)) (w2:ax W (.int 2)=some (.int s)) (h1:Builtin.bitXor p x=q) (a0:ax X (.int q)=some a) (hv:bp [.int q,.int z]=some (.int v)) (m1:IntMulOk 2 s) (m2:IntMulOk 4 v) (he:2*s+4*v=e) (ht:da [a,.int e]=some b) :
  fR [.fz X,.fz W,.ow ds,.fz (.int p),z4]=some (.nx,[.fz X,.fz W,.ow (ds++[b]),.fz (.int p),.fz (.int q)]):=by
 simp [-sSeq,-sIf,aC,aJ,fR,w0,w1,w2,h1,a0,hv,m1,m2,he,ht,hs]
theorem L4 (X W Y:D) (S:Int) (RL L:List D) (y z:Sl) (ln:ck [X]=some (.int S)) (hN:bQ [.int S]=some RL) (e:loop (gN 3) fR RL [.fz X,.fz W,.ow [],.un,.un]=some (.nx,[.fz X,.fz W,.ow L,y,z])) (tp:df [.list L]=some Y):cZ [X,W]=some Y:=by
 simp [-sSeq,-sIf,aC,aJ,cZ,runB,kC,av,ln,hN,e,pi,tp]
theorem A6 {n:Nat} (hn:n<=6) (f:Nat->Nu) (w:Wd) (hw:w.ok n):cZ [gF n f,eL w]=some (gF n (xX f w)):=by
 have sq:2 ^ n<=64:=(Nat.pow_le_pow_right (by decide) hn:2 ^ n<=2 ^ 6)
 obtain ⟨δ',e,y3,y4,rfl⟩:=km (b:=fR) (k:=3) (fun i δ=>∃ y3 y4,δ = [.fz (gF n f),.fz (eL w),.ow ((List.range i).map fun p=>cn (xX f w p)),y3,y4]) (2 ^ n) (by
   rintro i hi δ ⟨y3,y4,rfl⟩
   have hq:i ^^^ w.x<2 ^ n:=Nat.xor_lt_two_pow hi hw.1
   have he:2*(w.s:Int)+4*((par ((i ^^^ w.x) &&& w.z):Nat):Int)=((2*w.s+4*par ((i ^^^ w.x) &&& w.z):Nat):Int):=by omega
   have e:=L5 (gF n f) (eL w) (cn (f (i ^^^ w.x))) (cn (xX f w i)) i w.x w.z w.s _ _ _ ((List.range i).map fun p=>cn (xX f w p)) y4 (by rw [List.length_map,List.length_range]; show _<16777216; omega) rfl rfl rfl (MA.ky _ _) (ql _ rfl hq)
    (mG _ _ (Nat.lt_of_lt_of_le hq (Nat.pow_le_pow_right (by decide) (by omega)))) (.of_left (by decide +kernel)) (.of_left (by decide +kernel)) he (zq _ _)
   refine ⟨_,e,.fz (.int i),.fz (.int ((i ^^^ w.x:Nat):Int)),?_⟩
   rw [List.range_succ,List.map_append]
   rfl) [.fz (gF n f),.fz (eL w),.ow [],.un,.un] ⟨_,_,rfl⟩
 exact L4 _ _ _ _ _ _ _ _ (mm n f) (jL n hn) e rfl
theorem vi (a b:Nat) (u:Nu):MA.aG a (MA.aG b u)=MA.aG (a+b) u:=by
 unfold MA.aG
 simp only [MA.iL]
 rw [<- MA.iM]
theorem iK {a b:Nat} (h:a % 8=b % 8) (u:Nu):MA.aG a u=MA.aG b u:=by
 unfold MA.aG; rw [h]
theorem pU {d:D} {k:Nat} (h:MA.Sh k d) (hk:k<=64):neD d d=some (.bool false):=by
 have hs:AU d=true:=by
  show (d.canLay0&&decide (d.depth<=64))=true
  rw [h.1,decide_eq_true (Nat.le_trans h.2 hk)]; rfl
 unfold neD
 rw [if_pos ⟨hs,hs⟩,MA.wd d h.1]
 rfl
theorem oJ (a b:Nat) {c:Nat} (h:a &&& b=c):Builtin.bitAnd (a:Int) (b:Int)=(c:Int):=by rw [MA.lI,h]
theorem My (U:D) (W x z s y c a v e x' z' s':Int) (u0:ax U (.int 0)=some (.int x)) (u1:ax U (.int 1)=some (.int z)) (u2:ax U (.int 2)=some (.int s)) (h1:Builtin.bitXor x z=y) (h2:Builtin.bitAnd y W=c) (h3:Builtin.bitAnd x z=a) (h4:bp [.int a,.int W]=some (.int v)) (m:IntMulOk 2 v) (h5:Builtin.bitXor x c=x') (h6:Builtin.bitXor z c=z') (h7:(s+2*v) % 4=s'):cE [U,.int W]=some (.tuple [.int x',.int z',.int s']):=by
 simp [-sSeq,-sIf,aC,aJ,cE,runB,gL,av,u0,u1,u2,h1,h2,h3,h4,m,h5,h6,h7]
theorem JX (U:D) (W x e:Int) (u0:ax U (.int 0)=some (.int x)) (h1:Builtin.bitAnd x W=0):bK [U,.int W,.int e]=some U:=by
 simp [-sSeq,-sIf,aC,aJ,bK,runB,ez,av,u0,h1]
theorem JW (U:D) (W x z s e a z' zz s':Int) (u0:ax U (.int 0)=some (.int x)) (u1:ax U (.int 1)=some (.int z)) (u2:ax U (.int 2)=some (.int s)) (h1:Builtin.bitAnd x W=a) (ha:¬ a=0) (he:¬ e % 2=1) (h2:Builtin.bitXor z W=zz) (hz:(if e % 4=2 then zz else z)=z') (h3:(s+e / 2) % 4=s'):bK [U,.int W,.int e]=some (.tuple [.int x,.int z',.int s']):=by
 by_cases q:e % 4=2
 ·rw [if_pos q] at hz; subst hz
  simp [-sSeq,-sIf,aC,aJ,bK,runB,ez,av,u0,u1,u2,h1,ha,he,h2,q,h3]
 ·rw [if_neg q] at hz; subst hz
  simp [-sSeq,-sIf,aC,aJ,bK,runB,ez,av,u0,u1,u2,h1,ha,he,h2,q,h3]
theorem Mc (U:D) (W V x z s a b xx zz x' z':Int) (u0:ax U (.int 0)=some (.int x)) (u1:ax U (.int 1)=some (.int z)) (u2:ax U (.int 2)=some (.int s)) (h1:Builtin.bitAnd x W=a) (h2:Builtin.bitAnd z V=b) (h3:Builtin.bitXor x V=xx) (h4:Builtin.bitXor z W=zz) (hx:(if a=0 then x else xx)=x') (hz:(if b=0 then z else zz)=z'):bV [U,.int W,.int V]=some (.tuple [.int x',.int z',.int s]):=by
 by_cases p:a=0 <;> by_cases q:b=0
 ·rw [if_pos p] at hx; rw [if_pos q] at hz; subst hx hz
  simp [-sSeq,-sIf,aC,aJ,bV,runB,dN,av,u0,u1,u2,h1,h2,h3,h4,p,q]
 ·rw [if_pos p] at hx; rw [if_neg q] at hz; subst hx hz
  simp [-sSeq,-sIf,aC,aJ,bV,runB,dN,av,u0,u1,u2,h1,h2,h3,h4,p,q]
 ·rw [if_neg p] at hx; rw [if_pos q] at hz; subst hx hz
  simp [-sSeq,-sIf,aC,aJ,bV,runB,dN,av,u0,u1,u2,h1,h2,h3,h4,p,q]
 ·rw [if_neg p] at hx; rw [if_neg q] at hz; subst hx hz
  simp [-sSeq,-sIf,aC,aJ,bV,runB,dN,av,u0,u1,u2,h1,h2,h3,h4,p,q]
theorem MG (U:D) (W V x z s a b c B zz z' s2 s':Int) (u0:ax U (.int 0)=some (.int x)) (u1:ax U (.int 1)=some (.int z)) (u2:ax U (.int 2)=some (.int s)) (h1:Builtin.bitAnd x W=a) (h2:Builtin.bitAnd x V=b) (hB:Builtin.bitOr W V=B) (h3:Builtin.bitAnd x B=c) (h4:Builtin.bitXor z V=zz) (hz:(if a=0 then (if b=0 then z else Builtin.bitXor z W) else (if b=0 then zz else Builtin.bitXor zz W))=z') (hs:(if c=B then s+2 else s)=s2) (h5:s2 % 4=s'):cS [U,.int W,.int V]=some (.tuple [.int x,.int z',.int s']):=by
 have k:∀ a:Int,¬ a=0->(!(a==0))=true:=fun a h=>by simpa using h
 by_cases p:a=0 <;> by_cases q:b=0 <;> by_cases r:c=B
 all_goals
  simp only [p,q,r,if_true,if_false] at hz hs
  subst hz hs h5
  simp [-sSeq,-sIf,aC,aJ,cS,runB,il,av,u0,u1,u2,h1,h2,hB,h3,h4,p,q,r]
section
variable (N:Int) (U R:D) (i j W V:Int) (r1:ax R (.int 1)=some (.int i)) (v1:bY [.int N,.int i]=some (.int W))
include r1 v1
theorem C0 (Y:D) (r0:ax R (.int 0)=some (.str "swing")) (h:cE [U,.int W]=some Y):bH [.int N,U,R]=some Y:=by
 simp [-sSeq,-sIf,aC,aJ,bH,runB,fF,av,r0,r1,v1,h]
theorem y8 (Y:D) (e:Int) (r0:ax R (.int 0)=some (.str "turn")) (r2:ax R (.int 2)=some (.int e)) (h:bK [U,.int W,.int e]=some Y):bH [.int N,U,R]=some Y:=by
 simp [-sSeq,-sIf,aC,aJ,bH,runB,fF,av,r0,r1,r2,v1,h]
theorem F9 (x z s v s':Int) (r0:ax R (.int 0)=some (.str "flip")) (u0:ax U (.int 0)=some (.int x)) (u1:ax U (.int 1)=some (.int z)) (u2:ax U (.int 2)=some (.int s)) (h:bp [.int z,.int W]=some (.int v)) (m:IntMulOk 2 v) (hs:(s+2*v) % 4=s'):bH [.int N,U,R]=some (.tuple [.int x,.int z,.int s']):=by
 simp [-sSeq,-sIf,aC,aJ,bH,runB,fF,av,r0,r1,v1,u0,u1,u2,h,m,hs]
variable (r2:ax R (.int 2)=some (.int j)) (v2:bY [.int N,.int j]=some (.int V))
include r2 v2
theorem Js (Y:D) (r0:ax R (.int 0)=some (.str "tie")) (h:bV [U,.int W,.int V]=some Y):bH [.int N,U,R]=some Y:=by
 simp [-sSeq,-sIf,aC,aJ,bH,runB,fF,av,r0,r1,r2,v1,v2,h]
theorem F7 (Y:D) (r0:ax R (.int 0)=some (.str "sign")) (h:cS [U,.int W,.int V]=some Y):bH [.int N,U,R]=some Y:=by
 simp [-sSeq,-sIf,aC,aJ,bH,runB,fF,av,r0,r1,r2,v1,v2,h]
theorem C1 (x z s B x' z':Int) (r0:ax R (.int 0)=some (.str "cross")) (u0:ax U (.int 0)=some (.int x)) (u1:ax U (.int 1)=some (.int z)) (u2:ax U (.int 2)=some (.int s)) (hB:Builtin.bitOr W V=B) (h1:bG [.int x,.int B]=some (.int x')) (h2:bG [.int z,.int B]=some (.int z')):bH [.int N,U,R]=some (.tuple [.int x',.int z',.int s]):=by
 simp [-sSeq,-sIf,aC,aJ,bH,runB,fF,av,r0,r1,r2,v1,v2,u0,u1,u2,hB,h1,h2]
end
theorem qV {n:Nat} (hn:n<=6) {r:Row} (hr:r.ok n) {u:Wd} (hu:u.ok n) (lu:MA.AS n r u):bH [.int n,eL u,rowD r]=some (eL (MA.carry n r u)):=by
 have big:∀ a:Nat,a<2 ^ n->a<2 ^ 100000:=fun a h=>Nat.lt_of_lt_of_le h (Nat.pow_le_pow_right (by decide) (by omega))
 cases r with
 | swing j=>
  have hx:u.x ^^^ u.z<2 ^ n:=Nat.xor_lt_two_pow hu.1 hu.2.1
  have ha:u.x &&& u.z<2 ^ n:=Nat.lt_of_le_of_lt Nat.and_le_left hu.1
  have ec:(u.x ^^^ u.z) &&& wt n j=wt n j*((au (wt n j) u.x+au (wt n j) u.z) % 2):=by rw [MA.oK hn hr hx,MA.aF]
  have ev:=mG (u.x &&& u.z) (wt n j) (big _ ha)
  have e2:par ((u.x &&& u.z) &&& wt n j)=au (wt n j) u.x*au (wt n j) u.z:=by
   have:=MA.j8 hn hr hu.1 (au (wt n j) u.z) (MA.bE _ _)
   rw [Nat.and_assoc,MA.oK hn hr hu.2.1,this,Nat.mul_comm]
  rw [e2] at ev
  exact C0 n (eL u) _ j _ rfl (bz hn hr) _ rfl (My (eL u) _ _ _ _ _ _ _ _ 0 _ _ _ rfl rfl rfl (MA.ky _ _) (oJ _ _ ec) (MA.lI _ _) ev (.of_left (by decide +kernel)) (MA.ky _ _) (MA.ky _ _) (by show _=(((u.s+2*(au (wt n j) u.x*au (wt n j) u.z)) % 4:Nat):Int); omega))
 | turn j e=>
  have ha:=MA.oK hn hr.1 hu.1
  have lu:e % 2=0\/au (wt n j) u.x=0:=lu
  have hw:=MA.bf n j
  rcases MA.b01 (wt n j) u.x with h | h
  ·have e0:MA.carry n (.turn j e) u=u:=by
    apply MA.eI
    ·rfl
    ·show u.z ^^^ wt n j*(au (wt n j) u.x*_)=u.z
     rw [h,Nat.zero_mul,Nat.mul_zero,Nat.xor_zero]
    ·show (u.s+(e / 2)*au (wt n j) u.x) % 4=u.s
     rw [h]; have:=hu.2.2; omega
   rw [e0]
   refine y8 n (eL u) _ j _ rfl (bz hn hr.1) _ e rfl rfl (JX (eL u) _ _ _ rfl (oJ _ _ (c:=0) ?_))
   rw [ha,h,Nat.mul_zero]
  ·refine y8 n (eL u) _ j _ rfl (bz hn hr.1) _ e rfl rfl (JW (eL u) (wt n j:Nat) u.x u.z u.s e ((wt n j:Nat):Int) _ ((u.z ^^^ wt n j:Nat):Int) _ rfl rfl rfl (oJ _ _ (c:=wt n j) ?_) (by omega) (by omega) (MA.ky _ _) ?_ ?_)
   ·rw [ha,h,Nat.mul_one]
   ·show _=((u.z ^^^ wt n j*(au (wt n j) u.x*(if e % 4=2 then 1 else 0)):Nat):Int)
    rw [h,Nat.one_mul]
    by_cases q:e % 4=2
    ·rw [if_pos (by omega),if_pos q,Nat.mul_one]
    ·rw [if_neg (by omega),if_neg q,Nat.mul_zero,Nat.xor_zero]
   ·show _=(((u.s+(e / 2)*au (wt n j) u.x) % 4:Nat):Int)
    rw [h,Nat.mul_one]; omega
 | flip j=>
  have ev:=mG u.z (wt n j) (big _ hu.2.1)
  have e2:par (u.z &&& wt n j)=au (wt n j) u.z:=by
   have:=MA.j8 hn hr hu.2.1 1 (by decide)
   rw [Nat.mul_one,Nat.one_mul] at this
   exact this
  rw [e2] at ev
  exact F9 n (eL u) _ j _ rfl (bz hn hr) _ _ u.s _ _ rfl rfl rfl rfl ev (.of_left (by decide +kernel)) (by show _=(((u.s+2*au (wt n j) u.z) % 4:Nat):Int); omega)
 | tie i j=>
  obtain ⟨hi,hj,hij⟩:=hr
  have a1:=MA.oK hn hi hu.1
  have a2:=MA.oK hn hj hu.2.1
  have w1:=MA.bf n i
  have w2:=MA.bf n j
  refine Js n (eL u) _ i j _ _ rfl (bz hn hi) rfl (bz hn hj) _ rfl (Mc (eL u) _ _ u.x u.z u.s _ _ _ _ _ _ rfl rfl rfl (oJ _ _ a1) (oJ _ _ a2) (MA.ky _ _) (MA.ky _ _) ?_ ?_)
  ·show _=((u.x ^^^ wt n j*au (wt n i) u.x:Nat):Int)
   rcases MA.b01 (wt n i) u.x with h | h <;> rw [h]
   ·rw [Nat.mul_zero,if_pos (show ((0:Nat):Int)=0 from rfl),Nat.mul_zero,Nat.xor_zero]
   ·simp only [Nat.mul_one]
    rw [if_neg (by omega)]
  ·show _=((u.z ^^^ wt n i*au (wt n j) u.z:Nat):Int)
   rcases MA.b01 (wt n j) u.z with h | h <;> rw [h]
   ·rw [Nat.mul_zero,if_pos (show ((0:Nat):Int)=0 from rfl),Nat.mul_zero,Nat.xor_zero]
   ·simp only [Nat.mul_one]
    rw [if_neg (by omega)]
 | sign i j=>
  obtain ⟨hi,hj,hij⟩:=hr
  have a1:=MA.oK hn hi hu.1
  have a2:=MA.oK hn hj hu.1
  have w1:=MA.bf n i
  have w2:=MA.bf n j
  have hB:=MA.Ls (wt n i) (wt n j)
  have t2:=lF hn hi hj hij hu.1
  rw [t2.1] at hB
  refine F7 n (eL u) _ i j _ _ rfl (bz hn hi) rfl (bz hn hj) _ rfl (MG (eL u) _ _ u.x u.z u.s _ _ _ _ _ _ _ _ rfl rfl rfl (oJ _ _ a1) (oJ _ _ a2) hB (oJ _ _ t2.2.1) (MA.ky _ _) ?_ rfl ?_)
  ·show _=((u.z ^^^ wt n j*au (wt n i) u.x ^^^ wt n i*au (wt n j) u.x:Nat):Int)
   rw [MA.ky,MA.ky]
   rcases MA.b01 (wt n i) u.x with h | h <;> rcases MA.b01 (wt n j) u.x with h2 | h2 <;> rw [h,h2]
   ·simp
   ·rw [Nat.mul_zero,Nat.mul_one,if_pos (show ((0:Nat):Int)=0 from rfl),if_neg (by omega),Nat.mul_zero,Nat.mul_one,Nat.xor_zero]
   ·rw [Nat.mul_zero,Nat.mul_one,if_neg (by omega),if_pos (show ((0:Nat):Int)=0 from rfl),Nat.mul_zero,Nat.mul_one,Nat.xor_zero]
   ·simp only [Nat.mul_one]
    rw [if_neg (by omega),if_neg (by omega)]
  ·show _=(((u.s+2*(au (wt n i) u.x*au (wt n j) u.x)) % 4:Nat):Int)
   rcases MA.b01 (wt n i) u.x with h | h <;> rcases MA.b01 (wt n j) u.x with h2 | h2 <;> rw [h,h2]
   ·rw [if_neg (by omega)]; omega
   ·rw [if_neg (by omega)]; omega
   ·rw [if_neg (by omega)]; omega
   ·rw [if_pos (by omega)]; omega
 | cross i j=>
  obtain ⟨hi,hj,hij⟩:=hr
  have hB:=MA.Ls (wt n i) (wt n j)
  rw [(lF hn hi hj hij hu.1).1] at hB
  have e1:=uH hn hi hj hij hu.1
  have e2:=uH hn hi hj hij hu.2.1
  rw [MA.pZ hn hi hj hu.1] at e1
  rw [MA.pZ hn hi hj hu.2.1] at e2
  exact C1 n (eL u) _ i j _ _ rfl (bz hn hi) rfl (bz hn hj) _ _ _ _ _ _ rfl rfl rfl rfl hB e1 e2
theorem Cw (U:D) (n M x z s:Int) (L:List D) (q:Sl) (f1:gI "tuple" U=some (.bool true)) (f2:ck [U]=some (.int 3)) (f3:eQ U=some L) (f4:ax U (.int 0)=some (.int x)) (f5:ax U (.int 1)=some (.int z)) (f6:ax U (.int 2)=some (.int s)) (lp:loop (gN 2) dJ L [.fz U,.fz (.int n),.un]=some (.nx,[.fz U,.fz (.int n),q])) (hs:jm (.int 1) (.int n)=some (.int M)) (a:x<M) (b:z<M) (c:s<4):bM [U,.int n]=some (.bool true):=by
 simp [-sSeq,-sIf,aC,aJ,bM,runB,ir,av,f1,f2,f3,f4,f5,f6,lp,hs,a,b,c]
theorem sS (u:Wd) (n:Nat) (hn:n<=6) (hu:u.ok n):bM [eL u,.int n]=some (.bool true):=by
 have hs:=HG n (by omega)
 have a:(u.x:Int)<((2 ^ n:Nat):Int):=by have:=hu.1; omega
 have b:(u.z:Int)<((2 ^ n:Nat):Int):=by have:=hu.2.1; omega
 have c:(u.s:Int)<4:=by have:=hu.2.2; omega
 have st:∀ (i:Nat) (z:Sl),dJ [.fz (eL u),.fz (.int n),.fz (.int i)]=some (.nx,[.fz (eL u),.fz (.int n),.fz (.int i)]):=fun i z=>by
  have:¬ ((i:Int)<0):=by omega
  simp [-sSeq,-sIf,aC,aJ,dJ,cu,runB,hV,av,this]
 have lp:loop (gN 2) dJ [.int u.x,.int u.z,.int u.s] [.fz (eL u),.fz (.int n),.un]=some (.nx,[.fz (eL u),.fz (.int n),.fz (.int u.s)]):=by
  rw [bU (by rfl) (st u.x .un),bU (by rfl) (st u.z .un),bU (by rfl) (st u.s .un)]
  rfl
 have f1:gI "tuple" (eL u)=some (.bool true):=rfl
 have f2:ck [eL u]=some (.int 3):=rfl
 have f3:eQ (eL u)=some [.int u.x,.int u.z,.int u.s]:=rfl
 have f4:ax (eL u) (.int 0)=some (.int u.x):=rfl
 have f5:ax (eL u) (.int 1)=some (.int u.z):=rfl
 have f6:ax (eL u) (.int 2)=some (.int u.s):=rfl
 exact Cw _ _ _ _ _ _ _ _ f1 f2 f3 f4 f5 f6 lp hs a b c
theorem qS {n:Nat} {f g:Nat->Nu} (h:∀ p,p<2 ^ n->f p=g p) {r:Row} (hr:r.ok n) {p:Nat} (hp:p<2 ^ n):aN n f r p=aN n g r p:=by
 cases r with
 | swing j=>
  show (if au (wt n j) p=0 then _ else _)=(if au (wt n j) p=0 then _ else _)
  by_cases c:au (wt n j) p=0
  ·rw [if_pos c,if_pos c,h p hp,h _ (MA.zc hr hp c)]
  ·rw [if_neg c,if_neg c,h p hp,h (p-wt n j) (by omega)]
 | turn j e=>show MA.aG _ (f p)=MA.aG _ (g p); rw [h p hp]
 | sign i j=>show MA.aG _ (f p)=MA.aG _ (g p); rw [h p hp]
 | flip j=>exact h _ (MA.pV (r:=.flip j) hr hp)
 | tie i j=>exact h _ (MA.pV (r:=.tie i j) hr hp)
 | cross i j=>exact h _ (MA.pV (r:=.cross i j) hr hp)
theorem Bn {n:Nat} {f g:Nat->Nu} (h:∀ p,p<2 ^ n->f p=g p):gF n f=gF n g:=by
 unfold gF
 congr 1
 apply List.map_congr_left
 intro p hp
 rw [h p (List.mem_range.mp hp)]
theorem sv {n:Nat} {f g:Nat->Nu} (h:∀ p,p<2 ^ n->f p=g p) {u:Wd} (hu:u.ok n):∀ p,p<2 ^ n->MA.iJ f u p=MA.iJ g u p:=fun p hp=>by
 unfold MA.iJ
 rw [h _ (Nat.xor_lt_two_pow hp hu.1)]
theorem He {n:Nat} (hn:n<=6) (f:Nat->Nu) (w:Wd) (hw:w.ok n):cZ [gF n f,eL w]=some (gF n (MA.iJ f w)):=A6 hn f w hw
theorem EU (p q:Nat):(if (q:Int)=(p:Int) then some (PyData.tuple [.int 1,.int 0,.int 0,.int 0,.int 0]) else some (PyData.tuple [.int 0,.int 0,.int 0,.int 0,.int 0]))=some (cn (MA.dH p q)):=by
 unfold MA.dH
 by_cases h:q=p
 ·rw [if_pos h,if_pos (by omega)]; rfl
 ·rw [if_neg h,if_neg (by omega)]; rfl
theorem Lv (w M:Int) (N:Nat) (p:Nat) (hl:N<=16777216) (hs:jm (.int 1) (.int w)=some (.int M)) (hN:bQ [.int M]=some ((List.range N).map fun k:Nat=>PyData.int (0+(k:Int)))):dc [.int w,.int p]=some (.tuple ((List.range N).map fun q=>cn (MA.dH p q))):=by
 have c:mU [.fz (.int w),.fz (.int p)]=some (.list ((List.range N).map fun q=>cn (MA.dH p q))):=yY (by simp [hs,hN]) hl fun q hq=>by
  have:=EU p q
  simp [-Int.natCast_inj,capS,this]
 simp [dc,runB,kG,av,c]
theorem C4 {n:Nat} (hn:n<=6) (p:Nat):dc [.int n,.int p]=some (gF n (MA.dH p)):=
 Lv _ _ (2 ^ n) p (Nat.le_trans (Nat.pow_le_pow_right (by decide) hn:2 ^ n<=2 ^ 6) (by decide)) (HG n (by omega)) (jL n hn)
theorem Iw (p:Nat):Bd 0 0 (MA.dH p):=fun x=>by
 unfold MA.dH
 split
 ·exact ⟨Nat.le_refl _,by decide,by decide,by decide,by decide⟩
 ·exact ⟨Nat.le_refl _,by decide,by decide,by decide,by decide⟩
noncomputable def agB (u v:Wd):Bool:=decide (par (u.z &&& v.x)=par (u.x &&& v.z))
noncomputable def jk (u:Wd):Bool:=decide ((u.s+par (u.x &&& u.z)) % 2=0)
noncomputable def oE:Row->Prop
 | .turn _ e=>e % 2=0
 | _=>True
theorem cW {n:Nat} {r:Row} (h:oE r) (u:Wd):MA.AS n r u:=by
 cases r <;> first | exact trivial | exact .inl h
theorem De {n:Nat} {u v:Wd} (hu:u.ok n) (hv:v.ok n):agB u v=true↔bR u v=bR v u:=by
 have p1:=MA.jM (u.z &&& v.x)
 have p2:=MA.jM (v.z &&& u.x)
 have e:par (u.x &&& v.z)=par (v.z &&& u.x):=by rw [Nat.and_comm]
 unfold agB
 rw [decide_eq_true_iff,e]
 constructor
 ·intro h
  refine MA.eI (Nat.xor_comm _ _) (Nat.xor_comm _ _) ?_
  show (u.s+v.s+2*par (u.z &&& v.x)) % 4=(v.s+u.s+2*par (v.z &&& u.x)) % 4
  rw [h,Nat.add_comm u.s v.s]
 ·intro h
  have h:(u.s+v.s+2*par (u.z &&& v.x)) % 4=(v.s+u.s+2*par (v.z &&& u.x)) % 4:=congrArg Wd.s h
  omega
theorem str_iff {u:Wd}:jk u=true↔bR u u=⟨0,0,0⟩:=by
 have p1:=MA.jM (u.z &&& u.x)
 have e:par (u.x &&& u.z)=par (u.z &&& u.x):=by rw [Nat.and_comm]
 unfold jk
 rw [decide_eq_true_iff,e]
 constructor
 ·intro h
  refine MA.eI (Nat.xor_self _) (Nat.xor_self _) ?_
  show (u.s+u.s+2*par (u.z &&& u.x)) % 4=0
  omega
 ·intro h
  have h:(u.s+u.s+2*par (u.z &&& u.x)) % 4=0:=congrArg Wd.s h
  omega
theorem AB (n:Nat) (r:Row):MA.carry n r ⟨0,0,0⟩=⟨0,0,0⟩:=by
 cases r <;> simp [MA.carry,MA.kz]
section
variable {n:Nat} (hn:n<=6) {r:Row} (hr:r.ok n) (he:oE r)
include hn hr he
theorem AD {u v:Wd} (hu:u.ok n) (hv:v.ok n) (h:MA.carry n r u=MA.carry n r v):u=v:=by
 rw [<- MA.mw hr hu (cW he u),<- MA.mw hr hv (cW he v),h]
theorem nj {u v:Wd} (hu:u.ok n) (hv:v.ok n):agB (MA.carry n r u) (MA.carry n r v)=agB u v:=by
 rw [Bool.eq_iff_iff,De (MA.kx hr hu) (MA.kx hr hv),De hu hv,<- MA.nX hn hr hu hv (cW he u) (cW he v),<- MA.nX hn hr hv hu (cW he v) (cW he u)]
 exact ⟨fun h=>AD hn hr he (MA.fm hu hv) (MA.fm hv hu) h,fun h=>by rw [h]⟩
theorem zy {u:Wd} (hu:u.ok n) (h:jk u=true):jk (MA.carry n r u)=true:=by
 rw [str_iff,<- MA.nX hn hr hu hu (cW he u) (cW he u),str_iff.mp h,AB]
end
noncomputable def qx (p:Wd×Wd):D:=.tuple [eL p.1,eL p.2]
noncomputable def dU (T:List (Wd×Wd)):D:=.tuple (T.map qx)
structure Good (n:Nat) (T:List (Wd×Wd)):Prop where
 len:T.length=n
 ok:∀ p∈T,p.1.ok n/\p.2.ok n/\jk p.2=true
 ag:∀ (i j:Nat) (p q:Wd×Wd),T[i]? = some p->T[j]? = some q->agB p.2 q.2=true/\agB p.1 q.2=!decide (i=j)
noncomputable def cT (n:Nat) (r:Row) (p:Wd×Wd):Wd×Wd:=(MA.carry n r p.1,MA.carry n r p.2)
theorem Good.carry {n:Nat} (hn:n<=6) {r:Row} (hr:r.ok n) (he:oE r) {T:List (Wd×Wd)} (g:Good n T):Good n (T.map (cT n r)):=by
 refine ⟨by rw [List.length_map,g.len],fun p hp=>?_,fun i j p q hp hq=>?_⟩
 ·obtain ⟨q,hq,rfl⟩:=List.mem_map.mp hp
  obtain ⟨a,b,c⟩:=g.ok q hq
  exact ⟨MA.kx hr a,MA.kx hr b,zy hn hr he b c⟩
 ·rw [List.getElem?_map] at hp hq
  obtain ⟨p',hp',rfl⟩:=Option.map_eq_some_iff.mp hp
  obtain ⟨q',hq',rfl⟩:=Option.map_eq_some_iff.mp hq
  obtain ⟨a1,a2,_⟩:=g.ok p' (List.mem_of_getElem? hp')
  obtain ⟨b1,b2,_⟩:=g.ok q' (List.mem_of_getElem? hq')
  obtain ⟨c1,c2⟩:=g.ag i j p' q' hp' hq'
  exact ⟨(nj hn hr he a2 b2).trans c1,(nj hn hr he a1 b2).trans c2⟩
theorem Db {n a b:Nat} (hn:n<=6) (ha:a<2 ^ n):a &&& b<64:=Nat.lt_of_le_of_lt Nat.and_le_left (Nat.lt_of_lt_of_le ha (qy hn))
theorem K0 (U V:D) (x z x' z' a b p q:Int) (u0:ax U (.int 0)=some (.int x)) (u1:ax U (.int 1)=some (.int z)) (v0:ax V (.int 0)=some (.int x')) (v1:ax V (.int 1)=some (.int z')) (h1:Builtin.bitAnd z x'=a) (h2:Builtin.bitAnd x z'=b) (o1:cm [.int a]=some (.int p)) (o2':cm [.int b]=some (.int q)):cv [U,V]=some (.bool (p==q)):=by
 simp [cv,runB,jU,av,u0,u1,v0,v1,h1,h2,o1,o2']
theorem L7 (u:Wd):ax (eL u) (.int 0)=some (.int u.x):=rfl
theorem L6 (u:Wd):ax (eL u) (.int 1)=some (.int u.z):=rfl
theorem Oj (u:Wd):ax (eL u) (.int 2)=some (.int u.s):=rfl
theorem Ko (p:Wd×Wd):ax (qx p) (.int 0)=some (eL p.1):=rfl
theorem EF (p:Wd×Wd):ax (qx p) (.int 1)=some (eL p.2):=rfl
theorem Cg {n:Nat} (hn:n<=6) {u v:Wd} (hu:u.ok n):cv [eL u,eL v]=some (.bool (agB u v)):=by
 have e:=K0 _ _ _ _ _ _ _ _ _ _ (L7 u) (L6 u) (L7 v) (L6 v) (MA.lI u.z v.x) (MA.lI u.x v.z) (xc _ (Db hn hu.2.1)) (xc _ (Db hn hu.1))
 rw [e]
 congr 2
 unfold agB
 by_cases h:par (u.z &&& v.x)=par (u.x &&& v.z)
 ·rw [h]; simp
 ·rw [decide_eq_false h]; simp; omega
theorem KU (z0 z3 z4:Sl) (n x z s a q:Int) (P U V:D) (t:gI "tuple" P=some (.bool true)) (ln:ck [P]=some (.int 2)) (p0:ax P (.int 0)=some U) (p1:ax P (.int 1)=some V) (w0:bM [U,.int n]=some (.bool true)) (w1:bM [V,.int n]=some (.bool true)) (v0:ax V (.int 0)=some (.int x)) (v1:ax V (.int 1)=some (.int z)) (v2:ax V (.int 2)=some (.int s)) (ba:Builtin.bitAnd x z=a) (o:cm [.int a]=some (.int q)) (h:¬ (s+q) % 2=1):dq [z0,.fz (.int n),.fz P,z3,z4]=some (.nx,[z0,.fz (.int n),.fz P,z3,z4]):=by
 simp [-sSeq,-sIf,aC,aJ,dq,t,ln,p0,p1,w0,w1,v0,v1,v2,ba,o,h]
theorem vW {n:Nat} (hn:n<=6) (z0 z3 z4:Sl):∀ (T:List (Wd×Wd)),(∀ p∈T,p.1.ok n/\p.2.ok n/\jk p.2=true)->∀ z2,∃ y2,loop (gN 2) dq (T.map qx) [z0,.fz (.int n),z2,z3,z4]=some (.nx,[z0,.fz (.int n),y2,z3,z4])
 | [],_,z2=>⟨z2,rfl⟩
 | p::T,h,z2=>by
  obtain ⟨a,b,c⟩:=h p List.mem_cons_self
  have c:(p.2.s+par (p.2.x &&& p.2.z)) % 2=0:=by unfold jk at c; exact of_decide_eq_true c
  obtain ⟨y2,e⟩:=vW hn z0 z3 z4 T (fun q hq=>h q (List.mem_cons_of_mem _ hq)) (.fz (qx p))
  refine ⟨y2,?_⟩
  rw [List.map_cons,bU (δ1:=[z0,.fz (.int n),.fz (qx p),z3,z4]) (by simp) (KU z0 z3 z4 n _ _ _ _ _ (qx p) _ _ rfl rfl (Ko p) (EF p) (sS p.1 n hn a) (sS p.2 n hn b) (L7 _) (L6 _) (Oj _) (MA.lI _ _) (xc _ (Db hn b.1)) (by omega)),e]
theorem nb (b:Bool):neD (.bool b) (.bool b)=some (.bool false):=by cases b <;> rfl
theorem KS (F P Q U V V':D) (z1 z2:Sl) (i j:Int) (b:Bool) (fi:ax F (.int i)=some P) (fj:ax F (.int j)=some Q) (p0:ax P (.int 0)=some U) (p1:ax P (.int 1)=some V) (q1:ax Q (.int 1)=some V') (a1:cv [V,V']=some (.bool true)) (a2:cv [U,V']=some (.bool b)) (hb:neD (.int i) (.int j)=some (.bool b)):dn [.fz F,z1,z2,.fz (.int i),.fz (.int j)]=some (.nx,[.fz F,z1,z2,.fz (.int i),.fz (.int j)]):=by
 have:=nb b
 simp [-sSeq,-sIf,aC,aJ,dn,fi,fj,p0,p1,q1,a1,a2,hb,this]
theorem KR (z0 z2 z3 z4:Sl) (n:Int) (L:List D) (δ:Dv) (hN:bQ [.int n]=some L) (lp:loop (gN 4) dn L [z0,.fz (.int n),z2,z3,z4]=some (.nx,δ)):dl [z0,.fz (.int n),z2,z3,z4]=some (.nx,δ):=by
 simp [-sSeq,-sIf,aC,aJ,dl,hN,lp]
theorem MY (F:D) (n:Int) (L N:List D) (y2:Sl) (δ:Dv) (t:gI "tuple" F=some (.bool true)) (ln:ck [F]=some (.int n)) (it:eQ F=some L) (l1:loop (gN 2) dq L [.fz F,.fz (.int n),.un,.un,.un]=some (.nx,[.fz F,.fz (.int n),y2,.un,.un])) (hN:bQ [.int n]=some N) (l2:loop (gN 3) dl N [.fz F,.fz (.int n),y2,.un,.un]=some (.nx,δ)):cj [F,.int n]=some (.bool true):=by
 simp [-sSeq,-sIf,aC,aJ,cj,runB,gO,av,t,ln,it,l1,hN,l2]
theorem MW (i j:Nat):neD (.int (i:Int)) (.int (j:Int))=some (.bool (!decide (i=j))):=by
 have:neD (.int (i:Int)) (.int (j:Int))=some (.bool (!((i:Int)==(j:Int)))):=rfl
 rw [this]
 by_cases h:i=j
 ·subst h; simp
 ·have h':¬ (i:Int)=j:=by omega
  simp [h,h']
theorem xn {n:Nat} (hn:n<=6) {T:List (Wd×Wd)} (g:Good n T):cj [dU T,.int n]=some (.bool true):=by
 have hN:bQ [.int n]=some (oX 0 n):=lh (j:=(n:Int)) (by omega) (by omega)
 have at':∀ i,i<n->∃ p,T[i]? = some p/\ax (dU T) (.int i)=some (qx p):=fun i hi=>by
  have hi':i<T.length:=by rw [g.len]; exact hi
  exact ⟨T[i],List.getElem?_eq_getElem hi',eK (j:=i) rfl (by simp [hi'])⟩
 obtain ⟨y2,l1⟩:=vW hn (.fz (dU T)) .un .un T g.ok .un
 obtain ⟨δ',l2,_⟩:=km (b:=dl) (k:=3) (fun i δ=>∃ z3 z4,δ = [.fz (dU T),.fz (.int n),y2,z3,z4]) n (by
  rintro i hi δ ⟨z3,z4,rfl⟩
  obtain ⟨p,hp,fi⟩:=at' i hi
  obtain ⟨δ2,l,z4',rfl⟩:=km (b:=dn) (k:=4) (fun j δ=>∃ z4,δ = [.fz (dU T),.fz (.int n),y2,.fz (.int i),z4]) n (by
   rintro j hj δ ⟨z4,rfl⟩
   obtain ⟨q,hq,fj⟩:=at' j hj
   obtain ⟨a1,a2⟩:=g.ag i j p q hp hq
   obtain ⟨o1,o2,_⟩:=g.ok p (List.mem_of_getElem? hp)
   have e1:=Cg hn (v:=q.2) o2
   have e2:=Cg hn (v:=q.2) o1
   rw [a1] at e1
   rw [a2] at e2
   exact ⟨_,KS _ _ _ _ _ _ _ _ i j _ fi fj (Ko p) (EF p) (EF q) e1 e2 (MW i j),_,rfl⟩) [.fz (dU T),.fz (.int n),y2,.fz (.int i),z4] ⟨_,rfl⟩
  exact ⟨_,KR _ _ _ _ n _ _ hN l,_,_,rfl⟩) [.fz (dU T),.fz (.int n),y2,.un,.un] ⟨_,_,rfl⟩
 exact MY (dU T) n _ _ y2 δ' rfl (by show some (PyData.int _)=_; rw [List.length_map,g.len]) rfl l1 hN l2
noncomputable def iT:Row->Bool
 | .turn _ e=>e % 2==1
 | _=>false
theorem yV {r:Row} (h:iT r=false):oE r:=by
 cases r <;> first | exact trivial | (rename_i j e; have h:(e % 2==1)=false:=h; have:¬ e % 2=1:=(by simpa using h); show e % 2=0; omega)
theorem em2 (e:Nat):((e:Int) % 2==1)=(e % 2==1):=by
 rcases Nat.mod_two_eq_zero_or_one e with h | h
 ·have:(e:Int) % 2=0:=by omega
  rw [h,this]; rfl
 ·have:(e:Int) % 2=1:=by omega
  rw [h,this]; rfl
theorem MJ (r:Row):gu [.fz (.tuple [rowD r])]=some (.list [.bool (iT r)]):=by
 refine de (h:=rowD) (k:=fun r=>PyData.bool (iT r)) (xs:=[r]) (by simp) (by simp) fun q _=>?_
 cases q <;> simp [capS,rowD,iT,em2]
theorem Nx (b:Bool):wy [.list [.bool b]]=some (.bool b):=by cases b <;> rfl
theorem Kh {r:Row} (h:iT r=false):bn [.tuple [rowD r]]=some .none:=by
 have p:=MJ r
 rw [h] at p
 have a:=Nx false
 simp [-sSeq,-sIf,aC,aJ,bn,runB,hU,av,p,a]
theorem Mg (F R G:D) (n:Int) (L:List D) (ro:bn [.tuple [R]]=some .none) (ln:ck [F]=some (.int n)) (p:i8 [.fz F,.fz R,.fz (.int n)]=some (.list L)) (tp:df [.list L]=some G):db [F,R]=some G:=by
 simp [-sSeq,-sIf,aC,aJ,db,runB,jS,av,ro,ln,p,tp]
theorem JY {n:Nat} (hn:n<=6) {r:Row} (hr:r.ok n) (ho:iT r=false) {T:List (Wd×Wd)} (g:Good n T):db [dU T,rowD r]=some (dU (T.map (cT n r))):=by
 have he:=yV ho
 have p:i8 [.fz (dU T),.fz (rowD r),.fz (.int n)]=some (.list (T.map fun p=>qx (cT n r p))):=de (h:=qx) (k:=fun p=>qx (cT n r p)) (xs:=T) (by simp [dU]) (by rw [g.len]; omega) fun p hp=>by
  obtain ⟨a,b,_⟩:=g.ok p hp
  have c1:=qV hn hr a (cW he _)
  have c2:=qV hn hr b (cW he _)
  simp [capS,Ko,EF,c1,c2,qx,cT]
 refine Mg _ _ _ n _ (Kh ho) (by show some (PyData.int _)=_; rw [List.length_map,g.len]) p ?_
 unfold dU
 rw [List.map_map]
 rfl
noncomputable def tW (n p:Nat):List (Wd×Wd):=(List.range n).map fun i=>(⟨wt n i,0,0⟩,⟨0,wt n i,2*au (wt n i) p⟩)
theorem Ii {n i j:Nat} (hn:n<=6) (hi:i<n) (hj:j<n):par (wt n i &&& wt n j)=if i=j then 1 else 0:=by
 have h:=MA.dE (e:=1) hn hi (MA.va hj) (by decide)
 rw [Nat.mul_one,Nat.one_mul] at h
 rw [h]
 by_cases e:i=j
 ·subst e
  rw [if_pos rfl]
  have:=MA.kA (n:=n) (i:=i) 1 (by decide)
  rwa [Nat.mul_one] at this
 ·rw [if_neg e]
  have:=MA.jd hi hj e 1 (by decide)
  rwa [Nat.mul_one] at this
theorem pH {n p i:Nat} {x:Wd×Wd} (h:(tW n p)[i]? = some x):i<n/\x=(⟨wt n i,0,0⟩,⟨0,wt n i,2*au (wt n i) p⟩):=by
 unfold tW at h
 rw [List.getElem?_map] at h
 obtain ⟨k,hk,rfl⟩:=Option.map_eq_some_iff.mp h
 have hi:i<n:=by
  have:=(List.getElem?_eq_some_iff.mp hk).1
  simpa using this
 rw [List.getElem?_range hi] at hk
 cases hk
 exact ⟨hi,rfl⟩
theorem zw {n:Nat} (hn:n<=6) (p:Nat):Good n (tW n p):=by
 refine ⟨by simp [tW],fun x hx=>?_,fun i j x y hx hy=>?_⟩
 ·obtain ⟨i,hi⟩:=List.mem_iff_getElem?.mp hx
  obtain ⟨h,rfl⟩:=pH hi
  have b:=MA.bE (wt n i) p
  have w:=MA.va h
  refine ⟨⟨w,Nat.pow_pos (by decide),(by show 0<4; decide)⟩,⟨Nat.pow_pos (by decide),w,by show 2*_<4; omega⟩,?_⟩
  unfold jk
  rw [decide_eq_true_iff]
  show (2*au (wt n i) p+par (0 &&& wt n i)) % 2=0
  rw [Nat.zero_and,MA.eP]
  omega
 ·obtain ⟨h1,rfl⟩:=pH hx
  obtain ⟨h2,rfl⟩:=pH hy
  constructor
  ·unfold agB
   rw [decide_eq_true_iff]
   show par (wt n i &&& 0)=par (0 &&& wt n j)
   rw [Nat.zero_and,Nat.and_zero]
  ·unfold agB
   show decide (par (0 &&& 0)=par (wt n i &&& wt n j))=_
   rw [Nat.zero_and,MA.eP,Ii hn h1 h2]
   by_cases e:i=j <;> simp [e]
theorem EA (n:Nat):oX 0 n=(List.range n).map fun (k:Nat)=>PyData.int (k:Int):=by
 unfold oX
 refine List.map_congr_left fun k _=>?_
 rw [Int.zero_add]
theorem Ju (n p i:Nat) (hi:i<n):jF (.int (p:Int)) (.int ((n:Int)-1-(i:Int)))=some (.int ((p / wt n i:Nat):Int)):=by
 rw [qo (by omega),show ((n:Int)-1-(i:Int)).toNat=n-1-i by omega]
 congr 2
theorem Jv (n p:Int) (xs:List Nat) (f:Nat->Nat) (hN:bQ [.int n]=some (xs.map fun (k:Nat)=>PyData.int (k:Int))) (hl:xs.length<=1000) (H:∀ i∈xs,∃ q:Int,jF (.int p) (.int (n-1-(i:Int)))=some (.int q)/\Builtin.bitAnd q 1=(f i:Int)):md [.fz (.int n),.fz (.int p)]=some (.list (xs.map fun i=>.int (f i:Nat))):=
 de (h:=fun (k:Nat)=>PyData.int (k:Int)) (k:=fun i=>PyData.int (f i:Nat)) (xs:=xs) (by simp [hN]) (by omega) fun i hi=>by
  obtain ⟨q,s,a⟩:=H i hi
  simp [capS,s,a]
theorem Jt (n p:Int) (L:List D) (e:md [.fz (.int n),.fz (.int p)]=some (.list L)):fC [.int n,.int p]=some (.tuple L):=by
 simp [fC,runB,oi,av,e]
theorem zH (n:Nat) (hn:n<=6):bQ [.int (n:Int)]=some ((List.range n).map fun (k:Nat)=>PyData.int (k:Int)):=by
 rw [<- EA]
 exact lh (j:=(n:Int)) (by omega) (by omega)
theorem Gd (n p:Nat) (hn:n<=6):fC [.int n,.int p]=some (.tuple ((List.range n).map fun i=>.int (au (wt n i) p:Nat))):=
 Jt _ _ _ (Jv n p (List.range n) (fun i=>au (wt n i) p) (zH n hn) (by rw [List.length_range]; omega) fun i hi=>⟨_,Ju n p i (List.mem_range.mp hi),Lw _⟩)
theorem Eg (n p:Int) (B:D) (F L:List D) (b:fC [.int n,.int p]=some B) (p1:∀ z3,kb [.fz (.int n),.fz (.int p),.fz B,z3]=some (.list F)) (p2:ka [.fz (.int n),.fz (.int p),.fz B,.fz (.list F)]=some (.list L)):cR [.int n,.int p]=some (.tuple L):=by
 simp [-sSeq,-sIf,aC,aJ,cR,runB,mC,av,b,p1,p2]
theorem N9 {n i:Nat} (hi:i<n) (f:Nat->D):iD ((List.range n).map f) (i:Int)=some (f i):=eK (j:=i) rfl (by simp [hi])
theorem Ht (n p:Int) (B:D) (z3:Sl) (xs:List Nat) (f:Nat->Nat) (hN:bQ [.int n]=some (xs.map fun (k:Nat)=>PyData.int (k:Int))) (hl:xs.length<=1000) (H:∀ i∈xs,bY [.int n,.int (i:Nat)]=some (.int (f i:Nat))):kb [.fz (.int n),.fz (.int p),.fz B,z3]=some (.list (xs.map fun i=>.int (f i:Nat))):=
 de (h:=fun (k:Nat)=>PyData.int (k:Int)) (k:=fun i=>PyData.int (f i:Nat)) (xs:=xs) (by simp [hN]) (by omega) fun i hi=>by
  have s:=H i hi
  simp [capS,s]
theorem Hs (n p:Int) (B F:D) (xs:List Nat) (f g:Nat->Nat) (hN:bQ [.int n]=some (xs.map fun (k:Nat)=>PyData.int (k:Int))) (hl:xs.length<=1000) (hB:∀ i∈xs,ax B (.int (i:Nat))=some (.int (g i:Nat))) (hF:∀ i∈xs,ax F (.int (i:Nat))=some (.int (f i:Nat))):ka [.fz (.int n),.fz (.int p),.fz B,.fz F]=some (.list (xs.map fun i=>qx (⟨f i,0,0⟩,⟨0,f i,2*g i⟩))):=
 de (h:=fun (k:Nat)=>PyData.int (k:Int)) (k:=fun i=>qx (⟨f i,0,0⟩,⟨0,f i,2*g i⟩)) (xs:=xs) (by simp [hN]) (by omega) fun i hi=>by
  have a:=hB i hi
  have b:=hF i hi
  have m:IntMulOk 2 ((g i:Nat):Int):=.of_left (Nat.le_trans (MA.ng (m:=2) (by omega)) (by decide))
  simp [capS,a,b,m,qx,eL]
theorem Bb {n:Nat} (hn:n<=6) (p:Nat):cR [.int n,.int p]=some (dU (tW n p)):=by
 have hl:(List.range n).length<=1000:=by rw [List.length_range]; omega
 have e2:=Hs n p (.tuple ((List.range n).map fun i=>.int (au (wt n i) p:Nat))) (.list ((List.range n).map fun i=>.int (wt n i:Nat))) (List.range n) (fun i=>wt n i) (fun i=>au (wt n i) p) (zH n hn) hl (fun i hi=>N9 (List.mem_range.mp hi) fun i=>PyData.int (au (wt n i) p:Nat)) (fun i hi=>N9 (List.mem_range.mp hi) fun i=>PyData.int (wt n i:Nat))
 have:=Eg n p _ _ _ (Gd n p hn) (fun z3=>Ht n p _ z3 (List.range n) (fun i=>wt n i) (zH n hn) hl fun i hi=>bz hn (List.mem_range.mp hi)) e2
 rw [this]
 unfold dU tW
 rw [List.map_map]
 rfl
theorem sh3 (a b c:Int):MA.Sh 1 (.tuple [.int a,.int b,.int c]):=MA.Sh.tuple fun y hy=>by
 simp only [List.mem_cons,List.not_mem_nil,or_false] at hy
 rcases hy with rfl | rfl | rfl <;> exact MA.Sh.int 0 _
theorem cU (u v:Wd):agB u v=agB v u:=by
 unfold agB
 rw [Nat.and_comm u.z v.x,Nat.and_comm u.x v.z]
 by_cases h:par (v.x &&& u.z)=par (v.z &&& u.x) <;> simp [h,eq_comm]
theorem u7 (u:Wd):agB u u=true:=by
 unfold agB
 rw [Nat.and_comm u.z u.x]
 simp
theorem xQ (u v w:Wd):agB (bR u v) w=(agB u w==agB v w):=by
 unfold agB
 show decide (par ((u.z ^^^ v.z) &&& w.x)=par ((u.x ^^^ v.x) &&& w.z))=_
 rw [MA.jr,MA.jr]
 have a1:=MA.jM (u.z &&& w.x)
 have a2:=MA.jM (v.z &&& w.x)
 have a3:=MA.jM (u.x &&& w.z)
 have a4:=MA.jM (v.x &&& w.z)
 generalize par (u.z &&& w.x)=a at *
 generalize par (v.z &&& w.x)=b at *
 generalize par (u.x &&& w.z)=c at *
 generalize par (v.x &&& w.z)=d at *
 by_cases h1:a=c <;> by_cases h2:b=d <;> simp [h1,h2] <;> omega
theorem jC (u v w:Wd):agB w (bR u v)=(agB w u==agB w v):=by rw [cU,xQ,cU u,cU v]
theorem ym {u v:Wd} (hu:jk u=true) (hv:jk v=true) (h:agB u v=true):jk (bR u v)=true:=by
 unfold jk at *
 unfold agB at h
 rw [decide_eq_true_iff] at *
 show ((u.s+v.s+2*par (u.z &&& v.x)) % 4+par ((u.x ^^^ v.x) &&& (u.z ^^^ v.z))) % 2=0
 rw [MA.jr,MA.iS,MA.iS,Nat.and_comm v.x u.z]
 omega
structure Tb (n:Nat) (T:List (Wd×Wd)):Prop where
 good:Good n T
 inj:∀ w:Wd,w.ok n->(∀ p∈T,agB p.1 w=true/\agB p.2 w=true)->w.x=0/\w.z=0
theorem E9:((List.range 7).all fun n=>(List.range (2 ^ n)).all fun p=>(p==0)||(List.range n).any fun i=>au (wt n i) p != 0)=true:=by decide +kernel
theorem tj {n p:Nat} (hn:n<=6) (hp:p<2 ^ n) (h:∀ i,i<n->au (wt n i) p=0):p=0:=by
 have q:=E9
 rw [List.all_eq_true] at q
 have q:=q n (List.mem_range.mpr (by omega))
 rw [List.all_eq_true] at q
 have q:=q p (List.mem_range.mpr hp)
 rw [Bool.or_eq_true] at q
 rcases q with q | q
 ·simpa using q
 ·obtain ⟨i,hi,hb⟩:=List.any_eq_true.mp q
  have:=h i (List.mem_range.mp hi)
  rw [this] at hb
  cases hb
theorem Gs {n i:Nat} (hn:n<=6) (hi:i<n) {w:Wd} (hw:w.ok n) (s:Nat):agB ⟨0,wt n i,s⟩ w=decide (au (wt n i) w.x=0):=by
 unfold agB
 show decide (par (wt n i &&& w.x)=par (0 &&& w.z))=_
 have:=MA.dE hn hi hw.1 1 (by decide)
 rw [Nat.mul_one,Nat.one_mul] at this
 rw [this,Nat.zero_and,MA.eP]
theorem Ny {n i:Nat} (hn:n<=6) (hi:i<n) {w:Wd} (hw:w.ok n) (s:Nat):agB ⟨wt n i,0,s⟩ w=decide (au (wt n i) w.z=0):=by
 unfold agB
 show decide (par (0 &&& w.x)=par (wt n i &&& w.z))=_
 have:=MA.dE hn hi hw.2.1 1 (by decide)
 rw [Nat.mul_one,Nat.one_mul] at this
 rw [this,Nat.zero_and,MA.eP]
 by_cases h:au (wt n i) w.z=0 <;> simp [h,eq_comm]
theorem Eh {n:Nat} (hn:n<=6) (p:Nat):Tb n (tW n p):=by
 refine ⟨zw hn p,fun w hw h=>?_⟩
 have at':∀ i,i<n->au (wt n i) w.z=0/\au (wt n i) w.x=0:=fun i hi=>by
  obtain ⟨h1,h2⟩:=h (⟨wt n i,0,0⟩,⟨0,wt n i,2*au (wt n i) p⟩) (List.mem_map.mpr ⟨i,List.mem_range.mpr hi,rfl⟩)
  have h1:agB ⟨wt n i,0,0⟩ w=true:=h1
  have h2:agB ⟨0,wt n i,2*au (wt n i) p⟩ w=true:=h2
  rw [Ny hn hi hw] at h1
  rw [Gs hn hi hw] at h2
  exact ⟨of_decide_eq_true h1,of_decide_eq_true h2⟩
 exact ⟨tj hn hw.1 fun i hi=>(at' i hi).2,tj hn hw.2.1 fun i hi=>(at' i hi).1⟩
theorem Gi {n:Nat} {r:Row} (hr:r.ok n):(MA.rh r).ok n:=by
 cases r with
 | turn j e=>exact ⟨hr.1,by have:=hr.2; omega,by have:=hr.2; omega⟩
 | _=>exact hr
theorem AL {n:Nat} {r:Row} (hr:r.ok n) (he:oE r):oE (MA.rh r):=by
 cases r with
 | turn j e=>show (8-e) % 2=0; have:=hr.2; have he:e % 2=0:=he; omega
 | _=>exact he
theorem AM {n:Nat} {r:Row} (hr:r.ok n):MA.rh (MA.rh r)=r:=by
 cases r with
 | turn j e=>show Row.turn j (8-(8-e))=_; have:=hr.2; rw [show 8-(8-e)=e by omega]
 | _=>rfl
theorem AC (n:Nat) (r:Row) (w:Wd) (h1:w.x=0) (h2:w.z=0):(MA.carry n r w).x=0/\(MA.carry n r w).z=0:=by
 obtain ⟨x,z,s⟩:=w
 dsimp only at h1 h2
 subst h1 h2
 cases r <;> simp [MA.carry,MA.kz]
theorem Tb.carry {n:Nat} (hn:n<=6) {r:Row} (hr:r.ok n) (he:oE r) {T:List (Wd×Wd)} (t:Tb n T):Tb n (T.map (cT n r)):=by
 refine ⟨t.good.carry hn hr he,fun w hw h=>?_⟩
 have hb:=Gi hr
 have hw':=MA.kx hb hw
 have e:MA.carry n r (MA.carry n (MA.rh r) w)=w:=by
  have:=MA.mw hb hw (cW (AL hr he) w)
  rwa [AM hr] at this
 obtain ⟨a,b⟩:=t.inj (MA.carry n (MA.rh r) w) hw' fun p hp=>by
  obtain ⟨o1,o2,_⟩:=t.good.ok p hp
  obtain ⟨g1,g2⟩:=h (cT n r p) (List.mem_map.mpr ⟨p,hp,rfl⟩)
  rw [<- e] at g1 g2
  exact ⟨(nj hn hr he o1 hw').symm.trans g1,(nj hn hr he o2 hw').symm.trans g2⟩
 have:=AC n r _ a b
 rwa [e] at this
noncomputable def sr (L K w:Wd):Wd:=if agB w L=true then w else bR w K
noncomputable def Df (L K:Wd) (p:Wd×Wd):Wd×Wd:=(sr L K p.1,sr L K p.2)
theorem xO {n:Nat} {L K w:Wd} (hw:w.ok n) (hK:K.ok n):(sr L K w).ok n:=by
 unfold sr
 split
 ·exact hw
 ·exact MA.fm hw hK
theorem zf {L K w:Wd} (h:agB K L=false):agB (sr L K w) L=true:=by
 unfold sr
 split
 ·assumption
 ·rename_i h2
  rw [xQ,h,Bool.eq_false_iff.mpr h2]
  rfl
theorem tJ {L K w v:Wd} (h:agB K v=true):agB (sr L K w) v=agB w v:=by
 unfold sr
 split
 ·rfl
 ·rw [xQ,h]
  cases agB w v <;> rfl
theorem ze {L K w v:Wd} (hw:agB K w=true) (hv:agB K v=true):agB (sr L K w) (sr L K v)=agB w v:=by
 have h1:agB K (sr L K v)=true:=by rw [cU,tJ (u7 K),cU]; exact hv
 rw [tJ h1,cU,tJ hw,cU]
theorem Gr {L K w:Wd} (hw:jk w=true) (hK:jk K=true) (h:agB w K=true):jk (sr L K w)=true:=by
 unfold sr
 split
 ·exact hw
 ·exact ym hw hK h
theorem qp {α β:Type} {T:List α} {f:α -> β} {k i:Nat} {x q:β} (h:((T.map f).set k x)[i]? = some q):(i=k/\q=x)\/(i≠k/\∃ p,T[i]? = some p/\q=f p):=by
 by_cases hi:k=i
 ·subst hi
  rw [List.getElem?_set] at h
  simp only [if_true] at h
  split at h
  ·cases h; exact .inl ⟨rfl,rfl⟩
  ·cases h
 ·rw [List.getElem?_set_ne hi,List.getElem?_map] at h
  obtain ⟨p,hp,rfl⟩:=Option.map_eq_some_iff.mp h
  exact .inr ⟨fun z=>hi z.symm,p,hp,rfl⟩
theorem Ly {u v w:Wd} (h1:u.x=v.x) (h2:u.z=v.z):agB u w=agB v w:=by
 unfold agB
 rw [h1,h2]
theorem gU {a b:Nat} (h:a ^^^ b=0):a=b:=by
 have:(a ^^^ b) ^^^ b=b:=by rw [h,Nat.zero_xor]
 rwa [Nat.xor_assoc,Nat.xor_self,Nat.xor_zero] at this
theorem Tb.opened {n:Nat} {T:List (Wd×Wd)} (t:Tb n T) {k:Nat} {p:Wd×Wd} (hk:T[k]? = some p) {L:Wd} (hL:L.ok n) (sL:jk L=true) (hA:agB p.2 L=false):Tb n ((T.map (Df L p.2)).set k (p.2,L)):=by
 have okp:=t.good.ok p (List.mem_of_getElem? hk)
 have hklt:k<T.length:=(List.getElem?_eq_some_iff.mp hk).1
 have sK:∀ (i:Nat) (q:Wd×Wd),T[i]? = some q->agB p.2 q.2=true:=fun i q hq=>(t.good.ag k i p q hk hq).1
 have dK:∀ (i:Nat) (q:Wd×Wd),i≠k->T[i]? = some q->agB p.2 q.1=true:=fun i q hi hq=>by
  have:=(t.good.ag i k q p hq hk).2
  rw [cU,this]
  simp [hi]
 refine ⟨⟨by rw [List.length_set,List.length_map]; exact t.good.len,fun q hq=>?_,fun i j q r hq hr=>?_⟩,fun w hw h=>?_⟩
 ·obtain ⟨i,hi⟩:=List.mem_iff_getElem?.mp hq
  rcases qp hi with ⟨_,rfl⟩ | ⟨_,q',hq',rfl⟩
  ·exact ⟨okp.2.1,hL,sL⟩
  ·have o:=t.good.ok q' (List.mem_of_getElem? hq')
   exact ⟨xO o.1 okp.2.1,xO o.2.1 okp.2.1,Gr o.2.2 okp.2.2 (by rw [cU]; exact sK i q' hq')⟩
 ·rcases qp hq with ⟨rfl,rfl⟩ | ⟨hi,q',hq',rfl⟩
  ·rcases qp hr with ⟨rfl,rfl⟩ | ⟨hj,r',hr',rfl⟩
   ·exact ⟨u7 L,by show agB p.2 L=_; rw [hA]; simp⟩
   ·refine ⟨by show agB L (sr L p.2 r'.2)=true; rw [cU]; exact zf hA,?_⟩
    show agB p.2 (sr L p.2 r'.2)=_
    rw [cU,tJ (u7 _),cU,sK j r' hr']
    simp [Ne.symm hj]
  ·rcases qp hr with ⟨rfl,rfl⟩ | ⟨hj,r',hr',rfl⟩
   ·exact ⟨zf hA,by show agB (sr L p.2 q'.1) L=_; rw [zf hA]; simp [hi]⟩
   ·have g:=t.good.ag i j q' r' hq' hr'
    exact ⟨(ze (sK i q' hq') (sK j r' hr')).trans g.1,(ze (dK i q' hi hq') (sK j r' hr')).trans g.2⟩
 ·have hself:=h (p.2,L) (List.mem_iff_getElem?.mpr ⟨k,by rw [List.getElem?_set,if_pos rfl,if_pos (by simpa using hklt)]⟩)
  have hK:agB p.2 w=true:=hself.1
  have hLw:agB L w=true:=hself.2
  have oth:∀ (i:Nat) (q:Wd×Wd),i≠k->T[i]? = some q->agB q.1 w=true/\agB q.2 w=true:=fun i q hi hq=>by
   obtain ⟨g1,g2⟩:=h (Df L p.2 q) (List.mem_iff_getElem?.mpr ⟨i,by rw [List.getElem?_set_ne (Ne.symm hi),List.getElem?_map,hq]; rfl⟩)
   exact ⟨(tJ hK).symm.trans g1,(tJ hK).symm.trans g2⟩
  have all2:∀ q∈T,agB q.2 w=true:=fun q hq=>by
   obtain ⟨i,hi⟩:=List.mem_iff_getElem?.mp hq
   by_cases hik:i=k
   ·subst hik; rw [hk] at hi; cases hi; exact hK
   ·exact (oth i q hik hi).2
  cases hb:agB p.1 w with
  | true=>
   refine t.inj w hw fun q hq=>⟨?_,all2 q hq⟩
   obtain ⟨i,hi⟩:=List.mem_iff_getElem?.mp hq
   by_cases hik:i=k
   ·subst hik; rw [hk] at hi; cases hi; exact hb
   ·exact (oth i q hik hi).1
  | false=>
   exfalso
   obtain ⟨v1,v2⟩:=t.inj (bR w p.2) (MA.fm hw okp.2.1) fun q hq=>by
    obtain ⟨i,hi⟩:=List.mem_iff_getElem?.mp hq
    have e2:agB q.2 (bR w p.2)=true:=by
     rw [jC,all2 q hq,cU,sK i q hi]
     rfl
    refine ⟨?_,e2⟩
    rw [jC,(t.good.ag i k q p hi hk).2]
    by_cases hik:i=k
    ·subst hik; rw [hk] at hi; cases hi; rw [hb]; simp
    ·rw [(oth i q hik hi).1]; simp [hik]
   have:=Ly (w:=L) (gU v1) (gU v2)
   rw [hA,cU,hLw] at this
   cases this
noncomputable def sx (T:List (Wd×Wd)) (i:Nat):Wd:=(T[i]?.getD (⟨0,0,0⟩,⟨0,0,0⟩)).2
noncomputable def dx (T:List (Wd×Wd)) (i:Nat):Wd:=(T[i]?.getD (⟨0,0,0⟩,⟨0,0,0⟩)).1
theorem ot {T:List (Wd×Wd)} {i:Nat} {p:Wd×Wd} (h:T[i]? = some p):sx T i=p.2/\dx T i=p.1:=by
 unfold sx dx
 rw [h]
 exact ⟨rfl,rfl⟩
noncomputable def sJ (T:List (Wd×Wd)) (I:List Nat):Wd:=I.foldl (fun a i=>bR a (sx T i)) ⟨0,0,0⟩
noncomputable def mZ (T:List (Wd×Wd)) (w:Wd) (m:Nat):List Nat:=(List.range m).filter fun i=>!agB (dx T i) w
theorem EE (T:List (Wd×Wd)) (I:List Nat) (i:Nat):sJ T (I++[i])=bR (sJ T I) (sx T i):=by
 unfold sJ
 rw [List.foldl_append]
 rfl
theorem tQ (n:Nat):(⟨0,0,0⟩:Wd).ok n:=⟨Nat.pow_pos (by decide),Nat.pow_pos (by decide),by decide⟩
theorem zg (u:Wd):agB u ⟨0,0,0⟩=true:=by unfold agB; simp
theorem uc {n:Nat} {T:List (Wd×Wd)} (t:Tb n T) (w:Wd):∀ m,m<=n->(sJ T (mZ T w m)).ok n/\jk (sJ T (mZ T w m))=true/\(∀ p∈T,agB p.2 (sJ T (mZ T w m))=true)/\∀ (j:Nat) (p:Wd×Wd),T[j]? = some p->agB p.1 (sJ T (mZ T w m))=(agB p.1 w || !decide (j<m))
 | 0,_=>⟨tQ n,(str_iff.mpr (by show bR ⟨0,0,0⟩ ⟨0,0,0⟩=_; unfold bR; simp [MA.eP])),fun p _=>zg _,fun j p _=>by
   show agB p.1 ⟨0,0,0⟩=_
   rw [zg]; simp⟩
 | m+1,hm=>by
  obtain ⟨h1,h2,h3,h4⟩:=uc t w m (by omega)
  have hlt:m<T.length:=by rw [t.good.len]; omega
  have hq:T[m]? = some T[m]:=by simp [hlt]
  obtain ⟨e1,e2⟩:=ot hq
  have oq:=t.good.ok T[m] (List.getElem_mem hlt)
  cases hc:agB (dx T m) w with
  | true=>
   have e:mZ T w (m+1)=mZ T w m:=by
    unfold mZ
    rw [List.range_succ,List.filter_append]
    simp [hc]
   rw [e]
   refine ⟨h1,h2,h3,fun j p hp=>?_⟩
   rw [h4 j p hp]
   by_cases hj:j=m
   ·subst hj; rw [hq] at hp; cases hp; rw [e2] at hc; rw [hc]; rfl
   ·have:(j<m+1)=(j<m):=by simp; omega
    simp [this]
  | false=>
   have e:mZ T w (m+1)=mZ T w m++[m]:=by
    unfold mZ
    rw [List.range_succ,List.filter_append]
    simp [hc]
   rw [e,EE,e1]
   refine ⟨MA.fm h1 oq.2.1,ym h2 oq.2.2 (by rw [cU]; exact h3 T[m] (List.getElem_mem hlt)),fun p hp=>?_,fun j p hp=>?_⟩
   ·obtain ⟨i,hi⟩:=List.mem_iff_getElem?.mp hp
    rw [jC,h3 p hp,(t.good.ag i m p T[m] hi hq).1]; rfl
   ·rw [jC,h4 j p hp,(t.good.ag j m p T[m] hp hq).2]
    by_cases hj:j=m
    ·subst hj
     rw [hq] at hp; cases hp
     rw [e2] at hc
     rw [hc]
     simp
    ·have:(j<m+1)=(j<m):=by simp; omega
     simp [this,hj]
theorem HY {n:Nat} {T:List (Wd×Wd)} (t:Tb n T) {w:Wd} (hw:w.ok n) (hA:∀ p∈T,agB p.2 w=true):(sJ T (mZ T w n)).x=w.x/\(sJ T (mZ T w n)).z=w.z:=by
 obtain ⟨h1,h2,h3,h4⟩:=uc t w n (Nat.le_refl _)
 obtain ⟨a,b⟩:=t.inj (bR (sJ T (mZ T w n)) w) (MA.fm h1 hw) fun p hp=>by
  obtain ⟨i,hi⟩:=List.mem_iff_getElem?.mp hp
  have hil:i<n:=by rw [<- t.good.len]; exact (List.getElem?_eq_some_iff.mp hi).1
  refine ⟨?_,by rw [jC,h3 p hp,hA p hp]; rfl⟩
  rw [jC,h4 i p hi]
  simp [hil]
 exact ⟨gU a,gU b⟩
noncomputable def f9 (n j m:Nat):Wd:=⟨0,wt n j,2*m⟩
theorem qK {n j m:Nat} (hj:j<n) (hm:m<2):(f9 n j m).ok n:=⟨Nat.pow_pos (by decide),MA.va hj,by show 2*m<4; omega⟩
theorem IN (n j m:Nat):jk (f9 n j m)=true:=by
 unfold jk
 rw [decide_eq_true_iff]
 show (2*m+par (0 &&& wt n j)) % 2=0
 rw [Nat.zero_and,MA.eP]; omega
theorem Hm {n:Nat} {T:List (Wd×Wd)} (t:Tb n T) {j:Nat} (hj:j<n) (hA:∀ p∈T,agB p.2 (f9 n j 0)=true):∃ m,m<2/\sJ T (mZ T (f9 n j 0) n)=f9 n j m:=by
 obtain ⟨e1,e2⟩:=HY t (qK hj (m:=0) (by decide)) hA
 obtain ⟨h1,h2,_,_⟩:=uc t (f9 n j 0) n (Nat.le_refl _)
 have e1:(sJ T (mZ T (f9 n j 0) n)).x=0:=e1
 have e2:(sJ T (mZ T (f9 n j 0) n)).z=wt n j:=e2
 unfold jk at h2
 rw [decide_eq_true_iff,e1,Nat.zero_and,MA.eP] at h2
 have h3:=h1.2.2
 refine ⟨(sJ T (mZ T (f9 n j 0) n)).s / 2,by omega,MA.eI e1 e2 ?_⟩
 show (sJ T (mZ T (f9 n j 0) n)).s=2*((sJ T (mZ T (f9 n j 0) n)).s / 2)
 omega
theorem rq (u v:Wd) {n:Nat} (hn:n<=6) (hu:u.ok n) (hv:v.ok n):eF [eL u,eL v]=some (.bool (agB u v)):=by
 have e1:=kS u v hn hu hv
 have e2:=kS v u hn hv hu
 have e3:bo (eL (bR u v)) (eL (bR v u))=some (.bool (agB u v)):=by
  unfold eL
  rw [ya]
  have a1:=MA.jM (u.z &&& v.x)
  have a2:=MA.jM (v.z &&& u.x)
  unfold bR agB
  rw [Nat.xor_comm v.x u.x,Nat.xor_comm v.z u.z,Nat.and_comm u.x v.z]
  simp only [beq_self_eq_true,Bool.true_and]
  congr 2
  rw [Bool.eq_iff_iff]
  simp only [beq_iff_eq,decide_eq_true_iff]
  omega
 simp [eF,runB,u5,av,e1,e2,e3]
theorem uz {n:Nat} {T:List (Wd×Wd)} (g:Good n T):ck [dU T]=some (.int (n:Int)):=by
 show some (PyData.int _)=_; rw [List.length_map,g.len]
theorem MX (F:D) (n j m w q:Int) (ln:ck [F]=some (.int n)) (h:bY [.int n,.int j]=some (.int w)) (hm:IntMulOk 2 m) (hq:2*m=q):cg [F,.int j,.int m]=some (.tuple [.int 0,.int w,.int q]):=by
 simp [cg,runB,kD,av,ln,h,hm,hq]
theorem Cc {n:Nat} (hn:n<=6) {T:List (Wd×Wd)} (g:Good n T) {j m:Nat} (hj:j<n) (hm:m<2):cg [dU T,.int j,.int m]=some (eL (f9 n j m)):=
 MX _ n j m _ _ (uz g) (bz hn hj) (.of_left (by decide +kernel)) (by show 2*(m:Int)=((2*m:Nat):Int); push_cast; rfl)
theorem tU {T:List (Wd×Wd)} {i:Nat} (hi:i<T.length):ax (dU T) (.int (i:Int))=some (qx T[i]):=eK (j:=i) rfl (by simp [hi])
noncomputable def AR (T:List (Wd×Wd)) (w:Wd) (n:Nat):List Nat:=(List.range n).filter fun i=>!agB (sx T i) w
theorem Nz (F W:D) (n:Int) (N:Nat) (hN:N<=1000) (b:Nat->Bool) (ln:ck [F]=some (.int n)) (rg:bQ [.int n]=some ((List.range N).map fun (k:Nat)=>PyData.int (k:Int))) (H:∀ i,i<N->∃ P U:D,ax F (.int (i:Nat))=some P/\ax P (.int 1)=some U/\eF [U,W]=some (.bool (b i))):aY [F,W]=some (.list (((List.range N).filter fun i=>!b i).map fun (k:Nat)=>PyData.int (k:Int))):=by
 have p:jZ [.fz F,.fz W]=some (.list (((List.range N).filter fun i=>!b i).map fun (k:Nat)=>PyData.int (k:Int))):=nU (h:=fun (k:Nat)=>PyData.int (k:Int)) (k:=fun (k:Nat)=>PyData.int (k:Int)) (b:=fun i=>!b i) (xs:=List.range N) (by simp [ln,rg]) (by rw [List.length_range]; omega) (fun i hi=>by
  obtain ⟨P,U,h1,h2,h3⟩:=H i (List.mem_range.mp hi)
  simp [capS,h1,h2,h3]) (fun i hi _=>by simp)
 simp [aY,runB,ip,av,p]
theorem M4 (F W:D) (n:Int) (N:Nat) (hN:N<=1000) (b:Nat->Bool) (ln:ck [F]=some (.int n)) (rg:bQ [.int n]=some ((List.range N).map fun (k:Nat)=>PyData.int (k:Int))) (H:∀ i,i<N->∃ P U:D,ax F (.int (i:Nat))=some P/\ax P (.int 0)=some U/\eF [U,W]=some (.bool (b i))):cO [F,W]=some (.list (((List.range N).filter fun i=>!b i).map fun (k:Nat)=>PyData.int (k:Int))):=by
 have p:ke [.fz F,.fz W]=some (.list (((List.range N).filter fun i=>!b i).map fun (k:Nat)=>PyData.int (k:Int))):=nU (h:=fun (k:Nat)=>PyData.int (k:Int)) (k:=fun (k:Nat)=>PyData.int (k:Int)) (b:=fun i=>!b i) (xs:=List.range N) (by simp [ln,rg]) (by rw [List.length_range]; omega) (fun i hi=>by
  obtain ⟨P,U,h1,h2,h3⟩:=H i (List.mem_range.mp hi)
  simp [capS,h1,h2,h3]) (fun i hi _=>by simp)
 simp [cO,runB,jf,av,p]
theorem rz {n:Nat} (hn:n<=6) {T:List (Wd×Wd)} (g:Good n T) {w:Wd} (hw:w.ok n):aY [dU T,eL w]=some (.list ((AR T w n).map fun (k:Nat)=>PyData.int (k:Int))):=by
 refine Nz _ _ n n (by omega) (fun i=>agB (sx T i) w) (uz g) (zH n hn) fun i hi=>?_
 have hi':i<T.length:=by rw [g.len]; exact hi
 refine ⟨_,_,tU hi',EF _,?_⟩
 rw [(ot (List.getElem?_eq_getElem hi')).1]
 exact rq _ _ hn (g.ok _ (List.getElem_mem hi')).2.1 hw
theorem xm {n:Nat} (hn:n<=6) {T:List (Wd×Wd)} (g:Good n T) {w:Wd} (hw:w.ok n):cO [dU T,eL w]=some (.list ((mZ T w n).map fun (k:Nat)=>PyData.int (k:Int))):=by
 refine M4 _ _ n n (by omega) (fun i=>agB (dx T i) w) (uz g) (zH n hn) fun i hi=>?_
 have hi':i<T.length:=by rw [g.len]; exact hi
 refine ⟨_,_,tU hi',Ko _,?_⟩
 rw [(ot (List.getElem?_eq_getElem hi')).2]
 exact rq _ _ hn (g.ok _ (List.getElem_mem hi')).1 hw
theorem Gu {n:Nat} {T:List (Wd×Wd)} (g:Good n T) {w:Wd} (h:AR T w n=[]):∀ p∈T,agB p.2 w=true:=fun p hp=>by
 obtain ⟨i,hi⟩:=List.mem_iff_getElem?.mp hp
 have hil:i<n:=by rw [<- g.len]; exact (List.getElem?_eq_some_iff.mp hi).1
 cases e:agB p.2 w with
 | true=>rfl
 | false=>
  have:i∈AR T w n:=List.mem_filter.mpr ⟨List.mem_range.mpr hil,by rw [(ot hi).1,e]; rfl⟩
  rw [h] at this
  cases this
theorem rA {n:Nat} {T:List (Wd×Wd)} (g:Good n T) {w:Wd} {k:Nat} {I:List Nat} (h:AR T w n=k::I):∃ p,T[k]? = some p/\agB p.2 w=false/\k<n:=by
 have hk:k∈AR T w n:=by rw [h]; exact List.mem_cons_self
 obtain ⟨h1,h2⟩:=List.mem_filter.mp hk
 have h1:=List.mem_range.mp h1
 have hl:k<T.length:=by rw [g.len]; exact h1
 refine ⟨T[k],List.getElem?_eq_getElem hl,?_,h1⟩
 rw [(ot (List.getElem?_eq_getElem hl)).1] at h2
 simpa using h2
theorem FL (I:List Nat):MA.Sh 1 (.list (I.map fun (k:Nat)=>PyData.int (k:Int))):=MA.Sh.list fun x hx=>by
 obtain ⟨i,_,rfl⟩:=List.mem_map.mp hx
 exact .int _ _
theorem HI {d:D} {k:Nat} (h:MA.Sh k d) (hk:k<=64):AU d=true:=by
 show (d.canLay0&&decide (d.depth<=64))=true
 rw [h.1,decide_eq_true (Nat.le_trans h.2 hk)]; rfl
theorem Fa (k:Nat) (I:List Nat):neD (.list ((k::I).map fun (k:Nat)=>PyData.int (k:Int))) (.list [])=some (.bool true):=by
 unfold neD
 rw [if_pos ⟨HI (FL _) (by decide),by rfl⟩]
 rfl
theorem IK:neD (.list ([].map fun (k:Nat)=>PyData.int (k:Int))) (.list [])=some (.bool false):=by rfl
theorem Fe (F W A:D) (j:Int) (h1:cg [F,.int j,.int 0]=some W) (h2:aY [F,W]=some A) (ne:neD A (.list [])=some (.bool true)):br [F,.int j]=some .none:=by
 simp [-sSeq,-sIf,aC,aJ,br,runB,iX,av,h1,h2,ne]
theorem KQ (F P V A B:D) (z1 z2:Sl) (k:Int) (h1:ax F (.int k)=some P) (h2:ax P (.int 1)=some V) (h3:bh [A,V]=some B):fS [.fz F,z1,z2,.fz A,.fz (.int k)]=some (.nx,[.fz F,z1,z2,.fz B,.fz (.int k)]):=by
 simp [fS,h1,h2,h3]
theorem vU {n:Nat} (hn:n<=6) {T:List (Wd×Wd)} (g:Good n T) (z1 z2:Sl):∀ (I:List Nat),(∀ i∈I,i<n)->∀ (a:Wd),a.ok n->∀ z4,∃ y4,loop (gN 4) fS (I.map fun (k:Nat)=>PyData.int (k:Int)) [.fz (dU T),z1,z2,.fz (eL a),z4]=some (.nx,[.fz (dU T),z1,z2,.fz (eL (I.foldl (fun a i=>bR a (sx T i)) a)),y4])
 | [],_,a,_,z4=>⟨z4,rfl⟩
 | i::I,hI,a,ha,z4=>by
  have hi:i<T.length:=by rw [g.len]; exact hI i List.mem_cons_self
  have e1:=(ot (List.getElem?_eq_getElem hi)).1
  have ok:=(g.ok _ (List.getElem_mem hi)).2.1
  obtain ⟨y4,e⟩:=vU hn g z1 z2 I (fun j hj=>hI j (List.mem_cons_of_mem _ hj)) (bR a (sx T i)) (by rw [e1]; exact MA.fm ha ok) (.fz (.int i))
  refine ⟨y4,?_⟩
  rw [List.map_cons,bU (δ1:=[.fz (dU T),z1,z2,.fz (eL a),.fz (.int i)]) (by simp) (KQ _ _ _ _ _ z1 z2 i (tU hi) (EF _) (kS a T[i].2 hn ha ok)),<- e1,e]
  rfl
theorem Fd (F W A P:D) (j:Int) (L:List D) (y4:Sl) (b:Bool) (h1:cg [F,.int j,.int 0]=some W) (h2:aY [F,W]=some A) (ne:neD A (.list [])=some (.bool false)) (h3:cO [F,W]=some (.list L)) (lp:loop (gN 4) fS L [.fz F,.fz (.int j),.fz W,.fz (.tuple [.int 0,.int 0,.int 0]),.un]=some (.nx,[.fz F,.fz (.int j),.fz W,.fz P,y4])) (q:bo P W=some (.bool b)):br [F,.int j]=some (.int (if b=true then 0 else 1)):=by
 cases b <;> simp [-sSeq,-sIf,aC,aJ,br,runB,iX,av,h1,h2,ne,h3,lp,q]
theorem Cr {T:List (Wd×Wd)} {w:Wd} {n i:Nat} (h:i∈mZ T w n):i<n:=List.mem_range.mp (List.mem_filter.mp h).1
theorem sC {n:Nat} (hn:n<=6) {T:List (Wd×Wd)} (g:Good n T) {j k:Nat} (hj:j<n) {I:List Nat} (h:AR T (f9 n j 0) n=k::I):br [dU T,.int j]=some .none:=
 Fe _ _ _ j (Cc hn g hj (m:=0) (by decide)) (rz hn g (qK hj (by decide))) (by rw [h]; exact Fa k I)
theorem nB {n:Nat} (hn:n<=6) {T:List (Wd×Wd)} (t:Tb n T) {j:Nat} (hj:j<n) (h:AR T (f9 n j 0) n=[]):∃ m,m<2/\sJ T (mZ T (f9 n j 0) n)=f9 n j m/\br [dU T,.int j]=some (.int (m:Nat)):=by
 obtain ⟨m,hm,e⟩:=Hm t hj (Gu t.good h)
 refine ⟨m,hm,e,?_⟩
 obtain ⟨y4,lp⟩:=vU hn t.good (.fz (.int j)) (.fz (eL (f9 n j 0))) (mZ T (f9 n j 0) n) (fun i hi=>Cr hi) ⟨0,0,0⟩ (tQ n) .un
 have e2:(mZ T (f9 n j 0) n).foldl (fun a i=>bR a (sx T i)) ⟨0,0,0⟩=f9 n j m:=e
 rw [e2] at lp
 have q:bo (eL (f9 n j m)) (eL (f9 n j 0))=some (.bool (decide (m=0))):=by
  unfold eL
  rw [ya]
  have:(((2*m:Nat):Int)==((2*0:Nat):Int))=decide (m=0):=by
   rw [Bool.eq_iff_iff,beq_iff_eq,decide_eq_true_iff]; omega
  show some (PyData.bool ((0:Int)==0&&((wt n j:Int)==(wt n j:Int)&&(((2*m:Nat):Int)==((2*0:Nat):Int)))))=_
  rw [this]; simp
 have:=Fd _ _ _ _ j _ y4 _ (Cc hn t.good hj (m:=0) (by decide)) (rz hn t.good (qK hj (by decide))) (by rw [h]; exact IK) (xm hn t.good (qK hj (by decide))) lp q
 rw [this]
 have hm2:m=0\/m=1:=by omega
 rcases hm2 with rfl | rfl <;> rfl
theorem Lx (U L K V:D) (b:Bool) (h1:eF [U,L]=some (.bool b)) (h2:bh [U,K]=some V):er [U,L,K]=some (if b=true then U else V):=by
 cases b <;> simp [er,runB,mE,av,h1,h2]
theorem Dd {n:Nat} (hn:n<=6) {w L K:Wd} (hw:w.ok n) (hL:L.ok n) (hK:K.ok n):er [eL w,eL L,eL K]=some (eL (sr L K w)):=by
 rw [Lx _ _ _ _ _ (rq w L hn hw hL) (kS w K hn hw hK)]
 unfold sr
 split <;> rfl
theorem MS (F L K P:D) (k:Int) (N N':List D) (hk:ax F (.int k)=some P) (h1:ax P (.int 1)=some K) (hp:∀ z4,nG [.fz F,.fz (.int k),.fz L,.fz K,z4]=some (.list N)) (pt:HS N (.int k) (.tuple [K,L])=some N'):gC [F,.int k,L]=some (.tuple N'):=by
 rw [qw] at pt
 simp [-sSeq,-sIf,aC,aJ,gC,runB,rm,av,hk,h1,hp,pt,yH,vX,pi]
theorem Jb {N i:Nat} (h:i<N):yP N (i:Int)=some i:=by
 unfold yP
 simp
 omega
theorem zQ {n:Nat} (hn:n<=6) {T:List (Wd×Wd)} (g:Good n T) {k:Nat} {p:Wd×Wd} (hk:T[k]? = some p) {L:Wd} (hL:L.ok n):gC [dU T,.int k,eL L]=some (dU ((T.map (Df L p.2)).set k (p.2,L))):=by
 have hkl:k<T.length:=(List.getElem?_eq_some_iff.mp hk).1
 have ep:T[k]=p:=by rw [List.getElem?_eq_getElem hkl] at hk; exact Option.some.inj hk
 have okp:=(g.ok p (List.mem_of_getElem? hk)).2.1
 have hp:∀ z4,nG [.fz (dU T),.fz (.int k),.fz (eL L),.fz (eL p.2),z4]=some (.list (T.map fun q=>qx (Df L p.2 q))):=fun z4=>de (h:=qx) (k:=fun q=>qx (Df L p.2 q)) (xs:=T) (by simp [dU]) (by rw [g.len]; omega) fun q hq=>by
  obtain ⟨a,b,_⟩:=g.ok q hq
  have c1:=Dd hn a hL okp
  have c2:=Dd hn b hL okp
  simp [capS,Ko,EF,c1,c2,qx,Df]
 have t1:=tU (T:=T) hkl
 rw [ep] at t1
 have:=MS _ (eL L) _ _ k _ ((T.map fun q=>qx (Df L p.2 q)).set k (qx (p.2,L))) t1 (EF p) hp (by
  rw [qw,List.length_map,Jb hkl]; rfl)
 rw [this]
 unfold dU
 rw [List.map_set,List.map_map]
 rfl
theorem Ee (F W A G:D) (j m k:Int) (h0:br [F,.int j]=some .none) (h1:cg [F,.int j,.int m]=some W) (h2:aY [F,W]=some A) (h3:ax A (.int 0)=some (.int k)) (h4:gC [F,.int k,W]=some G):bq [F,.int j,.int m]=some G:=by
 simp [-sSeq,-sIf,aC,aJ,bq,runB,ik,av,h0,h1,h2,h3,h4,isD]
theorem vY {n:Nat} (hn:n<=6) {T:List (Wd×Wd)} (g:Good n T) {j m k:Nat} (hj:j<n) (hm:m<2) {I:List Nat} (h:AR T (f9 n j 0) n=k::I) {p:Wd×Wd} (hk:T[k]? = some p):bq [dU T,.int j,.int m]=some (dU ((T.map (Df (f9 n j m) p.2)).set k (p.2,f9 n j m))):=by
 have ha:=rz hn g (qK (m:=m) hj hm)
 have e:AR T (f9 n j m) n=k::I:=h
 rw [e] at ha
 exact Ee _ _ _ _ j m k (sC hn g hj h) (Cc hn g hj hm) ha (eK (j:=0) rfl rfl) (zQ hn g hk (qK hj hm))
section
variable (c w j t s:Int) (hj:bX (.int (c / 6)) (.int w)=some (.int j))
include hj
theorem yL (hk:(if w=1 then iD [PyData.str "swing",.str "turn",.str "flip"] (c % 3) else iD [PyData.str "swing",.str "turn",.str "flip",.str "tie",.str "sign",.str "cross"] (c % 6))=some (.str "turn")) (k0:∃ d,iD [PyData.str "swing",.str "turn",.str "flip",.str "tie",.str "sign",.str "cross"] (c % 6)=some d):bZ [.int c,.int w]=some (.tuple [.str "turn",.int j,.int (2+2*(c / 36 % 3))]):=by
 have im:IntMulOk 2 (c / 36 % 3):=.of_left (by decide +kernel)
 obtain ⟨d,k0⟩:=k0
 by_cases q:w=1
 ·rw [if_pos q] at hk
  subst q
  simp [-sSeq,-sIf,aC,aJ,bZ,runB,fh,av,k0,hk,hj,im]
 ·rw [if_neg q] at hk
  simp [-sSeq,-sIf,aC,aJ,bZ,runB,fh,av,hk,q,hj,im]
theorem uv (x:Str) (hx:x = "swing" \/ x = "flip") (hk:(if w=1 then iD [PyData.str "swing",.str "turn",.str "flip"] (c % 3) else iD [PyData.str "swing",.str "turn",.str "flip",.str "tie",.str "sign",.str "cross"] (c % 6))=some (.str x)) (k0:∃ d,iD [PyData.str "swing",.str "turn",.str "flip",.str "tie",.str "sign",.str "cross"] (c % 6)=some d):bZ [.int c,.int w]=some (.tuple [.str x,.int j]):=by
 obtain ⟨d,k0⟩:=k0
 by_cases q:w=1
 ·rw [if_pos q] at hk
  subst q
  rcases hx with rfl | rfl <;> simp [-sSeq,-sIf,aC,aJ,bZ,runB,fh,av,k0,hk,hj]
 ·rw [if_neg q] at hk
  rcases hx with rfl | rfl <;> simp [-sSeq,-sIf,aC,aJ,bZ,runB,fh,av,hk,q,hj]
theorem xi (q:¬ w=1) (x:Str) (hx:x = "tie" \/ x = "sign" \/ x = "cross") (hk:iD [PyData.str "swing",.str "turn",.str "flip",.str "tie",.str "sign",.str "cross"] (c % 6)=some (.str x)) (ht:bX (.int (c / 36)) (.int (w-1))=some (.int t)) (hs:bX (.int (j+1+t)) (.int w)=some (.int s)):bZ [.int c,.int w]=some (.tuple [.str x,.int j,.int s]):=by
 rcases hx with rfl | rfl | rfl <;> simp [-sSeq,-sIf,aC,aJ,bZ,runB,fh,av,hk,q,hj,ht,hs]
end
theorem Ff (c:Int) (w:Nat) (hw:1<=w):∃ r:Row,r.ok w/\iT r=false/\bZ [.int c,.int w]=some (rowD r):=by
 have hw0:(0:Int)<w:=by omega
 have a1:=Int.emod_nonneg (c / 6) (show (w:Int)≠0 by omega)
 have a2:=Int.emod_lt_of_pos (c / 6) hw0
 obtain ⟨j,hj⟩:∃ j:Nat,c / 6 % w=j:=⟨(c / 6 % w).toNat,by omega⟩
 have ej:=jv (i:=c / 6) hw0
 rw [hj] at ej a1 a2
 obtain ⟨e,he⟩:∃ e:Nat,2+2*(c / 36 % 3)=(e:Int):=⟨(2+2*(c / 36 % 3)).toNat,by omega⟩
 have e20:e % 2=0:=by omega
 have eo:iT (.turn j e)=false:=by
  show (e % 2==1)=false
  rw [e20]; rfl
 have c6:c % 6=0\/c % 6=1\/c % 6=2\/c % 6=3\/c % 6=4\/c % 6=5:=by omega
 have k0:∃ d,iD [PyData.str "swing",.str "turn",.str "flip",.str "tie",.str "sign",.str "cross"] (c % 6)=some d:=by
  rcases c6 with h | h | h | h | h | h <;> rw [h]
  ·exact ⟨_,at0 _ _⟩
  ·exact ⟨_,AN _ _ _⟩
  ·exact ⟨_,G8 _ _ _ _⟩
  ·exact ⟨_,Od _ _ _ _ _⟩
  ·exact ⟨_,Ob _ _ _ _ _ _⟩
  ·exact ⟨_,Oa _ _ _ _ _ _ _⟩
 have ok1:j<w:=by omega
 have okT:j<w/\1<=e/\e<=7:=by omega
 by_cases q:w=1
 ·have q':(w:Int)=1:=by omega
  have:c % 3=0\/c % 3=1\/c % 3=2:=by omega
  rcases this with h | h | h
  ·exact ⟨.swing j,ok1,rfl,uv c w j ej "swing" (.inl rfl) (by rw [if_pos q',h]; exact at0 _ _) k0⟩
  ·have:=yL c w j ej (by rw [if_pos q',h]; exact AN _ _ _) k0
   rw [he] at this
   exact ⟨.turn j e,okT,eo,this⟩
  ·exact ⟨.flip j,ok1,rfl,uv c w j ej "flip" (.inr rfl) (by rw [if_pos q',h]; exact G8 _ _ _ _) k0⟩
 ·have q':¬ (w:Int)=1:=by omega
  have b1:=Int.emod_nonneg (c / 36) (show (w:Int)-1≠0 by omega)
  have b2:=Int.emod_lt_of_pos (c / 36) (show 0<(w:Int)-1 by omega)
  have et:=jv (i:=c / 36) (show 0<(w:Int)-1 by omega)
  generalize c / 36 % ((w:Int)-1)=t at *
  have c1:=Int.emod_nonneg ((j:Int)+1+t) (show (w:Int)≠0 by omega)
  have c2:=Int.emod_lt_of_pos ((j:Int)+1+t) hw0
  have ei:=jv (i:=(j:Int)+1+t) hw0
  obtain ⟨i,hi⟩:∃ i:Nat,((j:Int)+1+t) % w=i:=⟨(((j:Int)+1+t) % w).toNat,by omega⟩
  have hij:j≠i:=fun z=>by
   by_cases hh:(j:Int)+1+t<w
   ·rw [Int.emod_eq_of_lt (by omega) hh] at hi; omega
   ·have:((j:Int)+1+t) % w=(j:Int)+1+t-w:=by
     rw [<- Int.sub_emod_right,Int.emod_eq_of_lt (by omega) (by omega)]
    omega
  rw [hi] at ei c1 c2
  have k:j<w/\i<w/\j≠i:=⟨by omega,by omega,hij⟩
  rcases c6 with h | h | h | h | h | h
  ·exact ⟨.swing j,ok1,rfl,uv c w j ej "swing" (.inl rfl) (by rw [if_neg q',h]; exact at0 _ _) k0⟩
  ·have:=yL c w j ej (by rw [if_neg q',h]; exact AN _ _ _) k0
   rw [he] at this
   exact ⟨.turn j e,okT,eo,this⟩
  ·exact ⟨.flip j,ok1,rfl,uv c w j ej "flip" (.inr rfl) (by rw [if_neg q',h]; exact G8 _ _ _ _) k0⟩
  ·exact ⟨.tie j i,k,rfl,xi c w j t i ej q' "tie" (.inl rfl) (by rw [h]; exact Od _ _ _ _ _) et ei⟩
  ·exact ⟨.sign j i,k,rfl,xi c w j t i ej q' "sign" (.inr (.inl rfl)) (by rw [h]; exact Ob _ _ _ _ _ _) et ei⟩
  ·exact ⟨.cross j i,k,rfl,xi c w j t i ej q' "cross" (.inr (.inr rfl)) (by rw [h]; exact Oa _ _ _ _ _ _ _) et ei⟩
noncomputable def zN:Nu:=(⟨0,0,0,0⟩,0)
theorem lR (e:Nat):MA.aG e zN=zN:=by
 have h:e % 8=0\/e % 8=1\/e % 8=2\/e % 8=3\/e % 8=4\/e % 8=5\/e % 8=6\/e % 8=7:=by omega
 unfold MA.aG
 rcases h with h | h | h | h | h | h | h | h <;> rw [h] <;> rfl
theorem Hb:MA.dt (MA.cI zN zN)=zN:=by rfl
theorem Hc (n:Nat) (r:Row) (p:Nat):aN n (fun _=>zN) r p=zN:=by
 cases r with
 | swing j=>
  show (if au (wt n j) p=0 then MA.dt (MA.cI zN zN) else MA.dt (MA.cI zN (MA.aG 4 zN)))=zN
  rw [lR,Hb]
  split <;> rfl
 | turn j e=>exact lR _
 | sign i j=>exact lR _
 | flip j=>rfl
 | tie i j=>rfl
 | cross i j=>rfl
theorem DQ:MA.cH zN:=⟨by decide,fun h=>absurd h (by decide)⟩
theorem B9 {u:Nu} (hl:MA.cH u) (h:MA.aG 4 u=u):u=zN:=by
 obtain ⟨⟨a,b,c,d⟩,k⟩:=u
 have h1:MA.fG 4 ⟨a,b,c,d⟩=⟨a,b,c,d⟩:=congrArg Prod.fst h
 rw [MA.m7] at h1
 have e1:-a=a:=congrArg MA.Q4.a h1
 have e2:-b=b:=congrArg MA.Q4.b h1
 have e3:-c=c:=congrArg MA.Q4.c h1
 have e4:-d=d:=congrArg MA.Q4.d h1
 have a0:a=0:=by omega
 have b0:b=0:=by omega
 have c0:c=0:=by omega
 have d0:d=0:=by omega
 subst a0 b0 c0 d0
 have hk:k=0:=by
  cases k with
  | zero=>rfl
  | succ k=>exact absurd (hl.2 (by show (0:Int)<((k+1:Nat):Int); omega)) (by show ¬ MA.Q4.Odd ⟨0,0,0,0⟩; unfold MA.Q4.Odd; decide)
 subst hk
 rfl
theorem DT (f:Nat->Nu) (u v:Wd) (p:Nat):MA.iJ (MA.iJ f u) v p=MA.iJ f (bR v u) p:=by
 unfold MA.iJ
 rw [vi]
 show MA.aG _ (f (p ^^^ v.x ^^^ u.x))=MA.aG (2*((v.s+u.s+2*par (v.z &&& u.x)) % 4)+4*par ((p ^^^ (v.x ^^^ u.x)) &&& (v.z ^^^ u.z))) (f (p ^^^ (v.x ^^^ u.x)))
 rw [Nat.xor_assoc]
 apply iK
 have e:par ((p ^^^ (v.x ^^^ u.x)) &&& (v.z ^^^ u.z))=(par ((p ^^^ v.x) &&& v.z)+par (u.x &&& v.z)+par ((p ^^^ v.x ^^^ u.x) &&& u.z)) % 2:=by
  rw [MA.iS,<- Nat.xor_assoc,MA.jr (p ^^^ v.x) u.x v.z]
  omega
 rw [e,Nat.and_comm v.z u.x,<- Nat.xor_assoc]
 omega
structure Bel (n:Nat) (T:List (Wd×Wd)) (f:Nat->Nu):Prop where
 tb:Tb n T
 ls:∀ p,MA.cH (f p)
 nz:∃ p,p<2 ^ n/\f p≠zN
 st:∀ q∈T,∀ p,p<2 ^ n->MA.iJ f q.2 p=f p
theorem Bel.row {n:Nat} (hn:n<=6) {r:Row} (hr:r.ok n) (he:oE r) {T:List (Wd×Wd)} {f:Nat->Nu} (b:Bel n T f) {M:Nat} (hM:∀ p,(f p).2<=M):Bel n (T.map (cT n r)) (aN n f r):=by
 refine ⟨b.tb.carry hn hr he,MA.ii b.ls n r,?_,fun q hq p hp=>?_⟩
 ·by_cases h:∃ p,p<2 ^ n/\aN n f r p≠zN
  ·exact h
  ·exfalso
   obtain ⟨p,hp,hne⟩:=b.nz
   have z:∀ x,x<2 ^ n->aN n f r x=(fun _=>zN) x:=fun x hx=>by
    by_cases e:aN n f r x=zN
    ·exact e
    ·exact absurd ⟨x,hx,e⟩ h
   have u:=MA.Az b.ls hM r hr p
   rw [qS z (MA.Row.about_ok hr) hp,Hc] at u
   exact hne u.symm
 ·obtain ⟨q',hq',rfl⟩:=List.mem_map.mp hq
  have ok:=(b.tb.good.ok q' hq').2.1
  have:=MA.xB hn hr ok (cW he q'.2) b.ls (M:=M+1) (fun p=>Nat.succ_le_succ (hM p)) hp
  show MA.iJ (aN n f r) (MA.carry n r q'.2) p=_
  rw [<- this]
  exact qS (fun x hx=>b.st q' hq' x hx) hr hp
noncomputable def aV (n j m:Nat) (f:Nat->Nu) (p:Nat):Nu:=if au (wt n j) p=m then f p else zN
theorem qL {f:Nat->Nu} (h:∀ p,MA.cH (f p)) (n j m p:Nat):MA.cH (aV n j m f p):=by
 unfold aV
 split
 ·exact h p
 ·exact DQ
theorem xj {n:Nat} (hn:n<=6) {j:Nat} (hj:j<n) (m:Nat) (f:Nat->Nu) {p:Nat} (hp:p<2 ^ n):MA.iJ f (f9 n j m) p=MA.aG (4*(m+au (wt n j) p)) (f p):=by
 unfold MA.iJ
 show MA.aG (2*(2*m)+4*par ((p ^^^ 0) &&& wt n j)) (f (p ^^^ 0))=_
 rw [Nat.xor_zero,Nat.and_comm]
 have:=MA.dE hn hj hp 1 (by decide)
 rw [Nat.mul_one,Nat.one_mul] at this
 rw [this]
 congr 1
 omega
theorem Fh {n:Nat} (hn:n<=6) {j:Nat} (hj:j<n) {m:Nat} (f:Nat->Nu) {p:Nat} (hp:p<2 ^ n):MA.iJ (aV n j m f) (f9 n j m) p=aV n j m f p:=by
 rw [xj hn hj m _ hp]
 unfold aV
 split
 ·rename_i h
  rw [h,iK (b:=0) (by omega)]
  rfl
 ·exact lR _
theorem Cd {n:Nat} (hn:n<=6) {j:Nat} (hj:j<n) (m:Nat) (f:Nat->Nu) {u:Wd} (hu:u.ok n) (ha:agB u (f9 n j m)=true) (p:Nat):MA.iJ (aV n j m f) u p=aV n j m (MA.iJ f u) p:=by
 have hb:au (wt n j) u.x=0:=by
  rw [cU,show f9 n j m=⟨0,wt n j,2*m⟩ from rfl,Gs hn hj hu] at ha
  exact of_decide_eq_true ha
 have e:au (wt n j) (p ^^^ u.x)=au (wt n j) p:=by
  rw [MA.aF,hb]
  have:=MA.bE (wt n j) p
  omega
 unfold MA.iJ aV
 rw [e]
 split
 ·rfl
 ·exact lR _
theorem vc {n:Nat} {f:Nat->Nu} {u v:Wd} (hv:v.ok n) (h1:∀ p,p<2 ^ n->MA.iJ f u p=f p) (h2:∀ p,p<2 ^ n->MA.iJ f v p=f p) {p:Nat} (hp:p<2 ^ n):MA.iJ f (bR v u) p=f p:=by
 rw [<- DT,sv h1 hv p hp,h2 p hp]
theorem BJ {n:Nat} {T:List (Wd×Wd)} {f:Nat->Nu} (b:Bel n T f):∀ (I:List Nat),(∀ i∈I,i<n)->∀ a:Wd,a.ok n->(∀ p,p<2 ^ n->MA.iJ f a p=f p)->∀ p,p<2 ^ n->MA.iJ f (I.foldl (fun a i=>bR a (sx T i)) a) p=f p
 | [],_,a,_,h=>h
 | i::I,hI,a,ha,h=>by
  have hi:i<T.length:=by rw [b.tb.good.len]; exact hI i List.mem_cons_self
  have e1:=(ot (List.getElem?_eq_getElem hi)).1
  have mem:T[i]∈T:=List.getElem_mem hi
  refine BJ b I (fun j hj=>hI j (List.mem_cons_of_mem _ hj)) (bR a (sx T i)) (by rw [e1]; exact MA.fm ha (b.tb.good.ok _ mem).2.1) fun p hp=>?_
  exact vc ha (by rw [e1]; exact b.st _ mem) h hp
theorem sE {n:Nat} (hn:n<=6) {T:List (Wd×Wd)} {f:Nat->Nu} (b:Bel n T f) {j m:Nat} (hj:j<n) (hm:m<2) (e:sJ T (mZ T (f9 n j 0) n)=f9 n j m) {p:Nat} (hp:p<2 ^ n):aV n j m f p=f p/\aV n j (1-m) f p=zN:=by
 have st:=BJ b (mZ T (f9 n j 0) n) (fun i hi=>Cr hi) ⟨0,0,0⟩ (tQ n) (fun p _=>by
  show MA.aG (2*0+4*par ((p ^^^ 0) &&& 0)) (f (p ^^^ 0))=f p
  rw [Nat.and_zero,MA.eP,Nat.xor_zero]
  rfl) p hp
 have e2:(mZ T (f9 n j 0) n).foldl (fun a i=>bR a (sx T i)) ⟨0,0,0⟩=f9 n j m:=e
 rw [e2,xj hn hj m f hp] at st
 have hb:=MA.bE (wt n j) p
 unfold aV
 by_cases h:au (wt n j) p=m
 ·rw [if_pos h,if_neg (by omega)]
  exact ⟨rfl,rfl⟩
 ·rw [if_neg h]
  have z:f p=zN:=by
   refine B9 (b.ls p) ?_
   rw [iK (b:=4) (by omega)] at st
   exact st
  rw [z]
  exact ⟨rfl,by split <;> rfl⟩
theorem yE {n:Nat} (hn:n<=6) {T:List (Wd×Wd)} {f:Nat->Nu} (b:Bel n T f) {j k m:Nat} (hj:j<n) (hm:m<2) {q:Wd×Wd} (hk:T[k]? = some q) (hA:agB q.2 (f9 n j 0)=false):∃ p,p<2 ^ n/\aV n j m f p≠zN:=by
 have mem:=List.mem_of_getElem? hk
 have ok:=(b.tb.good.ok q mem).2.1
 have hb:au (wt n j) q.2.x=1:=by
  rw [cU,show f9 n j 0=⟨0,wt n j,2*0⟩ from rfl,Gs hn hj ok] at hA
  have:=of_decide_eq_false hA
  have:=MA.bE (wt n j) q.2.x
  omega
 obtain ⟨x,hx,hne⟩:=b.nz
 have hy:x ^^^ q.2.x<2 ^ n:=Nat.xor_lt_two_pow hx ok.1
 have e:=b.st q mem x hx
 have ne2:f (x ^^^ q.2.x)≠zN:=fun z=>hne (by rw [<- e]; unfold MA.iJ; rw [z,lR])
 have b2:au (wt n j) (x ^^^ q.2.x)=(au (wt n j) x+1) % 2:=by rw [MA.aF,hb]
 have h0:=MA.bE (wt n j) x
 by_cases h:au (wt n j) x=m
 ·exact ⟨x,hx,by unfold aV; rw [if_pos h]; exact hne⟩
 ·exact ⟨_,hy,by unfold aV; rw [if_pos (by rw [b2]; omega)]; exact ne2⟩
theorem Bel.open {n:Nat} (hn:n<=6) {T:List (Wd×Wd)} {f:Nat->Nu} (b:Bel n T f) {j k m:Nat} (hj:j<n) (hm:m<2) {q:Wd×Wd} (hk:T[k]? = some q) (hA:agB q.2 (f9 n j 0)=false):Bel n ((T.map (Df (f9 n j m) q.2)).set k (q.2,f9 n j m)) (aV n j m f):=by
 have hA':agB q.2 (f9 n j m)=false:=hA
 have mem:=List.mem_of_getElem? hk
 have ok:=(b.tb.good.ok q mem).2.1
 refine ⟨b.tb.opened hk (qK hj hm) (IN n j m) hA',qL b.ls n j m,yE hn b hj hm hk hA,fun r hr p hp=>?_⟩
 obtain ⟨i,hi⟩:=List.mem_iff_getElem?.mp hr
 rcases qp hi with ⟨_,rfl⟩ | ⟨_,r',hr',rfl⟩
 ·exact Fh hn hj f hp
 ·have mem':=List.mem_of_getElem? hr'
  have ok':=(b.tb.good.ok r' mem').2.1
  have s:∀ x,x<2 ^ n->MA.iJ f (sr (f9 n j m) q.2 r'.2) x=f x:=fun x hx=>by
   unfold sr
   split
   ·exact b.st r' mem' x hx
   ·exact vc ok' (b.st q mem) (b.st r' mem') hx
  show MA.iJ (aV n j m f) (sr (f9 n j m) q.2 r'.2) p=_
  rw [Cd hn hj m f (xO ok' ok) (zf hA')]
  unfold aV
  split
  ·exact s p hp
  ·rfl
theorem Bel.same {n:Nat} {T:List (Wd×Wd)} {f g:Nat->Nu} (b:Bel n T f) (hl:∀ p,MA.cH (g p)) (h:∀ p,p<2 ^ n->g p=f p):Bel n T g:=by
 obtain ⟨p,hp,hne⟩:=b.nz
 refine ⟨b.tb,hl,⟨p,hp,by rw [h p hp]; exact hne⟩,fun q hq x hx=>?_⟩
 rw [sv h (b.tb.good.ok q hq).2.1 x hx,h x hx]
 exact b.st q hq x hx
theorem Bv (p q k:Int) (hk:0<=k):∃ t:Nat,(t:Int)<=k/\p=p / 2 ^ t*2 ^ t/\q=q / 2 ^ t*2 ^ t/\((t:Int)<k->¬ (p / 2 ^ t % 2=0/\q / 2 ^ t % 2=0)) /\
  eZ [.int p,.int q,.int k]=some (.tuple [.int (p / 2 ^ t),.int (q / 2 ^ t),.int (k-t)]):=by
 obtain ⟨t,e,h1,h2,h3,h4⟩:=MA.A9 p q k hk
 refine ⟨t,h1,h2,h3,h4,?_⟩
 have s1:∀ i:Int,jF (.int i) (.int (t:Int))=some (.int (i / 2 ^ t)):=fun i=>by
  have:=qo (i:=i) (j:=(t:Int)) (by omega)
  simpa using this
 simp [eZ,runB,u4,av,x8,e,s1]
theorem GI {a b:Int} (ha:a.natAbs<=2 ^ 200000) (hb:b.natAbs<=2 ^ 200000):IntMulOk a b:=
 MA.IL 200001 200001 (Nat.lt_of_le_of_lt ha (Nat.pow_lt_pow_right (by decide) (by decide))) (Nat.lt_of_le_of_lt hb (Nat.pow_lt_pow_right (by decide) (by decide))) (by decide)
structure Vl (p r:Nat) (t:D) (u:MA.Q4) (k:Nat):Prop where
 ex:∃ (x:MA.Q4) (c:Nat),t=tup5 x c/\MA.Is x c u k/\MA.Q4.Le (2 ^ p) x/\c<=r
theorem sH {p q:Nat} (h:p<=q):(2:Nat) ^ p<=2 ^ q:=Nat.pow_le_pow_right (by decide) h
noncomputable def nA (s:MA.S2) (e:Int):D:=.tuple [.int s.p,.int s.q,.int e]
theorem D2 (s:MA.S2) (c:Int):neD (nA s c) (nA s c)=some (.bool false):=by
 have:neD (nA s c) (nA s c)=some (.bool (!(s.p==s.p&&(s.q==s.q&&(c==c&&true))))):=rfl
 rw [this]; simp
theorem D8 (s:MA.S2) (c:Int):bo (nA s c) (nA s c)=some (.bool true):=by
 have:bo (nA s c) (nA s c)=some (.bool (s.p==s.p&&(s.q==s.q&&(c==c&&true)))):=rfl
 rw [this]; simp
theorem HH (u:MA.S2) (k:Nat) (M:Nat) (h:MA.S2.Le M u):∃ (s:MA.S2) (e:Nat),eZ [.int u.p,.int u.q,.int k]=some (nA s e)/\MA.S2.Is s e u k/\e<=k/\MA.S2.Le M s:=by
 obtain ⟨t,h1,h2,h3,h4,e⟩:=Bv u.p u.q k (by omega)
 have l1:=MA.nS _ _ h2
 have l2:=MA.nS _ _ h3
 refine ⟨⟨u.p / 2 ^ t,u.q / 2 ^ t⟩,k-t,?_,⟨fun z=>?_,?_⟩,by omega,Nat.le_trans l1 h.1,Nat.le_trans l2 h.2⟩
 ·rw [e]
  show _=some (PyData.tuple [.int (u.p / 2 ^ t),.int (u.q / 2 ^ t),.int ((k-t:Nat):Int)])
  rw [show ((k-t:Nat):Int)=(k:Int)-t by omega]
 ·exact h4 (by omega)
 ·have ek:k=(k-t)+t:=by omega
  have e0:MA.S2.sc t ⟨u.p / 2 ^ t,u.q / 2 ^ t⟩=u:=MA.S2.ext' h2.symm h3.symm
  conv=>lhs; rw [ek,MA.S2.sc_add,e0]
structure Vs (p r:Nat) (t:D) (u:MA.S2) (k:Nat):Prop where
 ex:∃ (s:MA.S2) (e:Nat),t=nA s e/\MA.S2.Is s e u k/\MA.S2.Le (2 ^ p) s/\e<=r
theorem Vs.one {p r q s:Nat} {t t':D} {u v:MA.S2} {k l:Nat} (h:Vs p r t u k) (h':Vs q s t' v l) (e:MA.S2.sc l u=MA.S2.sc k v):t=t':=by
 obtain ⟨x,c,rfl,is,_,_⟩:=h.ex
 obtain ⟨y,d,rfl,is',_,_⟩:=h'.ex
 obtain ⟨rfl,rfl⟩:=is.one is' e
 rfl
theorem Vs.ne {p r q s:Nat} {t t':D} {u v:MA.S2} {k l:Nat} (h:Vs p r t u k) (h':Vs q s t' v l) (e:MA.S2.sc l u=MA.S2.sc k v):neD t t'=some (.bool false):=by
 have:=h.one h' e
 subst this
 obtain ⟨x,c,rfl,_⟩:=h.ex
 exact D2 x c
theorem Vs.eq {p r q s:Nat} {t t':D} {u v:MA.S2} {k l:Nat} (h:Vs p r t u k) (h':Vs q s t' v l) (e:MA.S2.sc l u=MA.S2.sc k v):bo t t'=some (.bool true):=by
 have:=h.one h' e
 subst this
 obtain ⟨x,c,rfl,_⟩:=h.ex
 exact D8 x c
theorem Vs.mono {p r q s:Nat} {t:D} {u:MA.S2} {k:Nat} (h:Vs p r t u k) (h1:p<=q) (h2:r<=s):Vs q s t u k:=by
 obtain ⟨x,c,e,is,le,hc⟩:=h.ex
 exact ⟨x,c,e,is,le.mono (sH h1),by omega⟩
theorem xZ {p:Nat} (u:MA.S2) (k:Nat) (h:MA.S2.Le (2 ^ p) u):∃ w,eZ [.int u.p,.int u.q,.int k]=some w/\Vs p k w u k:=by
 obtain ⟨s,e,q,is,hl,le⟩:=HH u k _ h
 exact ⟨_,q,s,e,rfl,is,le,hl⟩
theorem vq (s:MA.S2) (c k:Nat) (h:MA.S2.Le (2 ^ 1000000) s) (h1:c<=k) (h2:k<=100000):bD [nA s c,.int k]=some (.tuple [.int (MA.S2.sc (k-c) s).p,.int (MA.S2.sc (k-c) s).q]):=by
 have sh:∀ i:Int,i.natAbs<=2 ^ 1000000->jm (.int i) (.int ((k:Int)-c))=some (.int (i*2 ^ (k-c))):=fun i hi=>by
  have hb:i.natAbs<2 ^ 1000001:=Nat.lt_of_le_of_lt hi (Nat.pow_lt_pow_right (by decide) (by decide))
  have:=MA.ng hb
  have q:=mM (i:=i) (j:=(k:Int)-c) (by omega) (by omega)
  rw [show ((k:Int)-c).toNat=k-c by omega] at q
  exact q
 simp only [nA,MA.S2.sc]
 simp [bD,runB,eJ,av,sh _ h.1,sh _ h.2]
theorem DX {p r:Nat} {t t':D} {u v:MA.S2} {k l:Nat} (h:Vs p r t u k) (h':Vs p r t' v l) (hp:p<=1000000) (hr:r<=10000):∃ w,eB [t,t']=some w/\Vs (p+r+1) r w (MA.S2.add (MA.S2.sc l u) (MA.S2.sc k v)) (k+l):=by
 obtain ⟨x,c,rfl,is,le,hc⟩:=h.ex
 obtain ⟨y,d,rfl,is',le',hd⟩:=h'.ex
 have hm:xg [.int (c:Int),.int (d:Int)]=some (.int ((max c d:Nat):Int)):=by rw [KO]; congr 2; omega
 have o1:=vq x c (max c d) (le.mono (sH hp)) (by omega) (by omega)
 have o2:=vq y d (max c d) (le'.mono (sH hp)) (by omega) (by omega)
 generalize hM:max c d=m at *
 have lz:MA.S2.Le (2 ^ (p+r+1)) (MA.S2.add (MA.S2.sc (m-c) x) (MA.S2.sc (m-d) y)):=by
  have a1:=(MA.S2.sc_le (m-c) le).mono (sH (show p+(m-c)<=p+r by omega))
  have a2:=(MA.S2.sc_le (m-d) le').mono (sH (show p+(m-d)<=p+r by omega))
  have:=MA.S2.add_le a1 a2
  rw [Nat.pow_succ,Nat.mul_two]
  exact this
 obtain ⟨w,ew,hw⟩:=xZ _ m lz
 refine ⟨w,?_,?_⟩
 ·simp only [nA,MA.S2.add] at o1 o2 ew ⊢
  simp [-qI,eB,runB,jT,av,hm,o1,o2,ew]
 ·obtain ⟨z,e,rfl,iz,lz',he⟩:=hw.ex
  refine ⟨z,e,rfl,iz.trans ?_,lz',by omega⟩
  have h1:MA.S2.sc (k+l) (MA.S2.sc (m-c) x)=MA.S2.sc m (MA.S2.sc l u):=by
   rw [MA.S2.sc_add,MA.S2.sc_swap l (m-c),MA.S2.sc_swap k (m-c),MA.S2.sc_swap k l,is.2,MA.S2.sc_swap (m-c) l,<- MA.S2.sc_add (m-c) c,MA.S2.sc_swap l,show m-c+c=m by omega]
  have h2:MA.S2.sc (k+l) (MA.S2.sc (m-d) y)=MA.S2.sc m (MA.S2.sc k v):=by
   rw [MA.S2.sc_add,MA.S2.sc_swap l (m-d),is'.2,<- MA.S2.sc_add (m-d) d,show m-d+d=m by omega,MA.S2.sc_swap k m]
  rw [MA.S2.sc_addS,MA.S2.sc_addS,h1,h2]
theorem Bu (x:MA.Q4) (c:Int) (h:MA.Q4.Le (2 ^ 200000) x) (w:D) (e:eZ [.int (MA.gb x).p,.int (MA.gb x).q,.int c]=some w):gi [tup5 x c]=some w:=by
 obtain ⟨l1,l2,l3,l4⟩:=h
 have a1:=GI l1 l1; have a2:=GI l2 l2; have a3:=GI l3 l3; have a4:=GI l4 l4
 have b1:=GI l1 l2; have b2:=GI l2 l3; have b3:=GI l3 l4; have b4:=GI l4 l1
 simp only [tup5,MA.gb] at e ⊢
 simp [gi,runB,oa,av,a1,a2,a3,a4,b1,b2,b3,b4,e]
theorem II {x:MA.Q4} {p:Nat} (h:MA.Q4.Le (2 ^ p) x):MA.S2.Le (2 ^ (2*p+2)) (MA.gb x):=by
 have:=MA.IJ h
 rw [<- Nat.pow_add,show (4:Nat)=2 ^ 2 from rfl,<- Nat.pow_add,show 2+(p+p)=2*p+2 by omega] at this
 exact this
theorem Hg {p r:Nat} {t:D} {u:MA.Q4} {k:Nat} (h:Vl p r t u k) (hp:p<=200000):∃ w,gi [t]=some w/\Vs (2*p+2) r w (MA.gb u) k:=by
 obtain ⟨x,c,rfl,is,le,hc⟩:=h.ex
 obtain ⟨w,ew,hw⟩:=xZ _ c (II le)
 refine ⟨w,Bu x c (le.mono (sH hp)) w ew,?_⟩
 obtain ⟨z,e,rfl,iz,lz',he⟩:=hw.ex
 exact ⟨z,e,rfl,iz.trans (MA.Gv is),lz',by omega⟩
theorem MI {M c:Nat} (h:c<=M) (x:MA.Q4):MA.Q4.rtn c (MA.Q4.rtn (M-c) x)=MA.Q4.rtn M x:=by rw [<- MA.Q4.rtn_add]; congr 1; omega
theorem Hf {M p:Nat} {u:Nu} (hl:MA.cH u) (hu:MA.Q4.Le (2 ^ p) u.1) (h:u.2<=M) {r:Nat} (hr:u.2<=r):Vl p r (cn u) (MA.val M u) M:=⟨u.1,u.2,rfl,⟨hl,(MI h _).symm⟩,hu,hr⟩
noncomputable def wV (M:Nat) (f:Nat->Nu) (i:Nat):MA.S2:=⟨MA.bS i (fun p=>(MA.gb (MA.val M (f p))).p),MA.bS i (fun p=>(MA.gb (MA.val M (f p))).q)⟩
theorem zJ (M:Nat) (f:Nat->Nu) (i:Nat):wV M f (i+1)=MA.S2.add (wV M f i) (MA.gb (MA.val M (f i))):=rfl
theorem Vs.re {p r:Nat} {t:D} {u v:MA.S2} {k l:Nat} (h:Vs p r t u k) (e:MA.S2.sc l u=MA.S2.sc k v):Vs p r t v l:=by
 obtain ⟨x,c,rfl,is,le,hc⟩:=h.ex
 exact ⟨x,c,rfl,is.trans e,le,hc⟩
theorem p7 {M p r:Nat} {f:Nat->Nu} (hl:∀ q,MA.cH (f q)) (hL:∀ q,MA.Q4.Le (2 ^ p) (f q).1) (hr:∀ q,(f q).2<=r) (hM:r<=M) (hr2:r<=300) (hp:p<=90000) (X:Sl):∀ (m i:Nat),i+m<=64->∀ (t:D) (z:Sl),Vs (2*p+2+400*i) r t (wV M f i) M->∃ t' y,loop (gN 2) mY ((List.range' i m).map fun q=>cn (f q)) [X,.fz t,z]=some (.nx,[X,.fz t',y])/\Vs (2*p+2+400*(i+m)) r t' (wV M f (i+m)) M
 | 0,i,_,t,z,h=>⟨t,z,rfl,h⟩
 | m+1,i,hi,t,z,h=>by
  obtain ⟨w,ew,hw⟩:=Hg (Hf (hl i) (hL i) (Nat.le_trans (hr i) hM) (hr i)) (by omega)
  obtain ⟨t1,e1,h1⟩:=DX h (hw.mono (by omega) (Nat.le_refl r)) (by omega) (by omega)
  have h2:Vs (2*p+2+400*(i+1)) r t1 (wV M f (i+1)) M:=by
   refine (h1.re ?_).mono (by omega) (Nat.le_refl r)
   rw [zJ,MA.S2.sc_addS,MA.S2.sc_addS,MA.S2.sc_add,MA.S2.sc_add]
  obtain ⟨t2,y,e2,h3⟩:=p7 hl hL hr hM hr2 hp X m (i+1) (by omega) t1 (.fz (cn (f i))) h2
  refine ⟨t2,y,?_,?_⟩
  ·rw [List.range'_succ,List.map_cons,bU (δ1:=[X,.fz t,.fz (cn (f i))]) (δ2:=[X,.fz t1,.fz (cn (f i))]) (by rfl) (by simp [mY,ew,e1]),e2]
  ·rw [show i+(m+1)=i+1+m by omega]; exact h3
theorem DS (X t:D) (L:List D) (y:Sl) (it:eQ X=some L) (e:loop (gN 2) mY L [.fz X,.fz (.tuple [.int 0,.int 0,.int 0]),.un]=some (.nx,[.fz X,.fz t,y])):iV [X]=some t:=by
 simp [iV,runB,uZ,av,it,e]
theorem DP (M:Nat) (f:Nat->Nu) (p r:Nat):Vs p r (.tuple [.int 0,.int 0,.int 0]) (wV M f 0) M:=by
 refine ⟨⟨0,0⟩,0,rfl,⟨fun z=>absurd z (by decide),?_⟩,⟨Nat.zero_le _,Nat.zero_le _⟩,Nat.zero_le _⟩
 apply MA.S2.ext' <;> simp [MA.S2.sc,wV,MA.bS]
theorem A4 {M p r n:Nat} (hn:n<=6) {f:Nat->Nu} (hl:∀ q,MA.cH (f q)) (hL:∀ q,MA.Q4.Le (2 ^ p) (f q).1) (hr:∀ q,(f q).2<=r) (hM:r<=M) (hr2:r<=300) (hp:p<=90000):∃ t,iV [gF n f]=some t/\Vs 300000 r t (MA.kg M n f) M:=by
 have sq:2 ^ n<=64:=(Nat.pow_le_pow_right (by decide) hn:2 ^ n<=2 ^ 6)
 obtain ⟨t,y,e,h⟩:=p7 hl hL hr hM hr2 hp (.fz (gF n f)) (2 ^ n) 0 (by omega) _ .un (DP M f _ r)
 rw [<- List.range_eq_range'] at e
 refine ⟨t,DS _ _ _ y rfl e,?_⟩
 rw [Nat.zero_add] at h
 exact h.mono (by omega) (Nat.le_refl r)
open MA (Row)
inductive Rw where
 | pl (r:Row) | look (j:Nat) | wflip (m j:Nat) | wsign (m j:Nat)
noncomputable def rwD:Rw->D
 | .pl r=>rowD r
 | .look j=>.tuple [.str "look",.int j]
 | .wflip m j=>.tuple [.str "where",.int m,.tuple [.str "flip",.int j]]
 | .wsign m j=>.tuple [.str "where",.int m,.tuple [.str "turn",.int j,.int 4]]
noncomputable def Rw.ok (w l:Nat):Rw->Prop
 | .pl r=>r.ok w
 | .look j=>j<w/\l<6
 | .wflip m j=>m<l/\j<w
 | .wsign m j=>m<l/\j<w
noncomputable def Rw.isLook:Rw->Bool
 | .look _=>true
 | _=>false
structure Cb where
 ms:List Nat
 T:List (Wd×Wd)
 h:Nat
 f:Nat->Nu
noncomputable def wD (ms:List Nat):D:=.tuple (ms.map fun m=>PyData.int (m:Nat))
noncomputable def e1 (n:Nat) (c:Cb):D:=.tuple [wD c.ms,gF n c.f]
noncomputable def e2 (c:Cb):D:=.tuple [wD c.ms,dU c.T,.int (c.h:Nat)]
noncomputable def CD (n:Nat) (r:Row) (c:Cb):Cb:=⟨c.ms,c.T.map (cT n r),c.h,aN n c.f r⟩
noncomputable def goR (n:Nat):Rw->Cb->Cb
 | .pl r,c=>CD n r c
 | .look _,c=>c
 | .wflip m j,c=>if c.ms[m]? = some 1 then CD n (.flip j) c else c
 | .wsign m j,c=>if c.ms[m]? = some 1 then CD n (.turn j 4) c else c
noncomputable def Iv (n j m k:Nat) (T:List (Wd×Wd)):List (Wd×Wd):=(T.map (Df (f9 n j m) (sx T k))).set k (sx T k,f9 n j m)
noncomputable def yb (n j:Nat) (T:List (Wd×Wd)):Nat:=(sJ T (mZ T (f9 n j 0) n)).s / 2
noncomputable def gQ (n j:Nat) (c:Cb):List Cb:=match AR c.T (f9 n j 0) n with
 | []=>[⟨c.ms++[yb n j c.T],c.T,c.h,aV n j (yb n j c.T) c.f⟩]
 | k::_=>[⟨c.ms++[0],Iv n j 0 k c.T,c.h+1,aV n j 0 c.f⟩,⟨c.ms++[1],Iv n j 1 k c.T,c.h+1,aV n j 1 c.f⟩]
structure CI (n l t:Nat) (c:Cb):Prop where
 ml:c.ms.length=l
 be:Bel n c.T c.f
 bd:Bd t (61*t) c.f
 wh:MA.S2.sc c.h (MA.kg 100 n c.f)=MA.S2.sc 100 ⟨1,0⟩
theorem CI.mono {n l t:Nat} {c:Cb} (h:CI n l t c):CI n l (t+1) c:=⟨h.ml,h.be,h.bd.mono (by omega) (by omega),h.wh⟩
theorem CI.go {n l t:Nat} (hn:n<=6) (ht:t<60) {c:Cb} (h:CI n l t c) {r:Row} (hr:r.ok n) (ho:iT r=false):CI n l (t+1) (CD n r c):=by
 refine ⟨h.ml,h.be.row hn hr (yV ho) (M:=t) fun p=>(h.bd p).1,(h.bd.done n r).mono (by omega) (by omega),?_⟩
 show MA.S2.sc c.h (MA.kg 100 n (aN n c.f r))=_
 rw [MA.Ad r hr c.f fun p=>by have:=(h.bd p).1; omega]
 exact h.wh
theorem DR (x k:Nat):x % 2 ^ (k+1)=x % 2 ^ k ^^^ (if x.testBit k then 2 ^ k else 0):=by
 apply Nat.eq_of_testBit_eq
 intro i
 rw [Nat.testBit_xor,Nat.testBit_mod_two_pow,Nat.testBit_mod_two_pow]
 cases e:x.testBit k with
 | true=>
  simp only [if_true,Nat.testBit_two_pow]
  by_cases h1:i=k
  ·subst h1; simp [e]
  ·have:(i<k+1)=(i<k):=by simp; omega
   simp [this,Ne.symm h1]
 | false=>
  simp only [Bool.false_eq_true,if_false,Nat.zero_testBit,Bool.xor_false]
  by_cases h1:i=k
  ·subst h1; simp [e]
  ·have:(i<k+1)=(i<k):=by simp; omega
   simp [this]
theorem Ep {n:Nat} (hn:n<=6) (F:Nat->Int) (x:Nat) (hx:x<2 ^ n):MA.bS (2 ^ n) (fun p=>F (p ^^^ x))=MA.bS (2 ^ n) F:=by
 have go:∀ k,k<=n->∀ F:Nat->Int,MA.bS (2 ^ n) (fun p=>F (p ^^^ x % 2 ^ k))=MA.bS (2 ^ n) F:=fun k=>by
  induction k with
  | zero=>intro _ F; exact MA.aT _ fun p _=>by rw [Nat.pow_zero,Nat.mod_one,Nat.xor_zero]
  | succ k ih=>
   intro hk F
   rw [DR]
   cases e:x.testBit k with
   | false=>
    simp only [Bool.false_eq_true,if_false,Nat.xor_zero]
    exact ih (by omega) F
   | true=>
    simp only [if_true]
    have hw:wt n (n-1-k)=2 ^ k:=by unfold wt; congr 1; omega
    have s:=MA.qj (n:=n) (j:=n-1-k) (by omega) (fun _=>true) (fun _=>rfl) (fun p=>F (p ^^^ x % 2 ^ k))
    rw [hw] at s
    rw [ih (by omega) F] at s
    rw [<- s]
    exact MA.aT _ fun p hp=>by
     simp only [if_true]
     rw [<- hw,MA.qP hn (by omega) hp,hw,Nat.xor_comm (x % 2 ^ k),<- Nat.xor_assoc]
 have:=go n (Nat.le_refl _) F
 rwa [Nat.mod_eq_of_lt hx] at this
theorem wF (M:Nat):MA.gb (MA.val M zN)=⟨0,0⟩:=by
 have:MA.val M zN=⟨0,0,0,0⟩:=MA.qb M
 rw [this]; rfl
theorem Jh {n:Nat} (hn:n<=6) {T:List (Wd×Wd)} {f:Nat->Nu} (b:Bel n T f) {j k:Nat} (hj:j<n) {q:Wd×Wd} (hk:T[k]? = some q) (hA:agB q.2 (f9 n j 0)=false) (M:Nat) {m:Nat} (hm:m<2):MA.S2.sc 1 (MA.kg M n (aV n j m f))=MA.kg M n f:=by
 have mem:=List.mem_of_getElem? hk
 have ok:=(b.tb.good.ok q mem).2.1
 have hb:au (wt n j) q.2.x=1:=by
  rw [cU,show f9 n j 0=⟨0,wt n j,2*0⟩ from rfl,Gs hn hj ok] at hA
  have:=of_decide_eq_false hA
  have:=MA.bE (wt n j) q.2.x
  omega
 have e:∀ p,p<2 ^ n->MA.gb (MA.val M (aV n j 1 f p))=MA.gb (MA.val M (aV n j 0 f (p ^^^ q.2.x))):=fun p hp=>by
  have b2:au (wt n j) (p ^^^ q.2.x)=(au (wt n j) p+1) % 2:=by rw [MA.aF,hb]
  have h0:=MA.bE (wt n j) p
  unfold aV
  rw [b2]
  by_cases h:au (wt n j) p=1
  ·rw [if_pos h,if_pos (by omega)]
   have s:=b.st q mem p hp
   unfold MA.iJ at s
   rw [<- s,MA.gx,MA.ut]
  ·rw [if_neg h,if_neg (by omega)]
 have s2:∀ G:MA.S2->Int,MA.bS (2 ^ n) (fun p=>G (MA.gb (MA.val M (aV n j 1 f p))))=MA.bS (2 ^ n) (fun p=>G (MA.gb (MA.val M (aV n j 0 f p)))):=fun G=>by
  rw [<- Ep hn (fun p=>G (MA.gb (MA.val M (aV n j 0 f p)))) q.2.x ok.1]
  exact MA.aT _ fun p hp=>by rw [e p hp]
 have s3:∀ G:MA.S2->Int,G ⟨0,0⟩=0->MA.bS (2 ^ n) (fun p=>G (MA.gb (MA.val M (aV n j 0 f p))))+MA.bS (2 ^ n) (fun p=>G (MA.gb (MA.val M (aV n j 1 f p))))=MA.bS (2 ^ n) (fun p=>G (MA.gb (MA.val M (f p)))):=fun G hG=>by
  rw [<- MA.ic]
  refine MA.aT _ fun p _=>?_
  have h0:=MA.bE (wt n j) p
  unfold aV
  by_cases h:au (wt n j) p=0
  ·rw [if_pos h,if_neg (by omega),wF,hG]; omega
  ·rw [if_neg h,if_pos (by omega),wF,hG]; omega
 have t:∀ G:MA.S2->Int,G ⟨0,0⟩=0->2*MA.bS (2 ^ n) (fun p=>G (MA.gb (MA.val M (aV n j m f p))))=MA.bS (2 ^ n) (fun p=>G (MA.gb (MA.val M (f p)))):=fun G hG=>by
  have a:=s2 G
  have c:=s3 G hG
  rcases (by omega:m=0\/m=1) with rfl | rfl <;> omega
 have tp:=t (·.p) rfl
 have tq:=t (·.q) rfl
 apply MA.S2.ext'
 ·rw [<- show 2*MA.bS (2 ^ n) (fun p=>(MA.gb (MA.val M (aV n j m f p))).p)=(MA.kg M n f).p from tp]
  simp [MA.S2.sc,MA.kg,Int.mul_comm]
 ·rw [<- show 2*MA.bS (2 ^ n) (fun p=>(MA.gb (MA.val M (aV n j m f p))).q)=(MA.kg M n f).q from tq]
  simp [MA.S2.sc,MA.kg,Int.mul_comm]
theorem Ac (M n:Nat) {f g:Nat->Nu} (h:∀ p,p<2 ^ n->g p=f p):MA.kg M n g=MA.kg M n f:=by
 apply MA.S2.ext'
 ·exact MA.aT _ fun p hp=>by rw [h p hp]
 ·exact MA.aT _ fun p hp=>by rw [h p hp]
theorem vZ {k p:Nat} {f:Nat->Nu} (h:Bd k p f) (n j m:Nat):Bd k p (aV n j m f):=fun x=>by
 unfold aV
 split
 ·exact h x
 ·exact ⟨Nat.zero_le _,Nat.zero_le _,Nat.zero_le _,Nat.zero_le _,Nat.zero_le _⟩
theorem BW {n j m k:Nat} {T:List (Wd×Wd)} {q:Wd×Wd} (hk:T[k]? = some q):Iv n j m k T=(T.map (Df (f9 n j m) q.2)).set k (q.2,f9 n j m):=by
 unfold Iv
 rw [(ot hk).1]
theorem qf {n j m:Nat} {T:List (Wd×Wd)} (e:sJ T (mZ T (f9 n j 0) n)=f9 n j m):yb n j T=m:=by
 unfold yb
 rw [e]
 show 2*m / 2=m
 omega
theorem CI.part {n l t:Nat} (hn:n<=6) {c:Cb} (h:CI n l t c) {j:Nat} (hj:j<n):∀ d∈gQ n j c,CI n (l+1) t d:=fun d hd=>by
 unfold gQ at hd
 cases e:AR c.T (f9 n j 0) n with
 | nil=>
  rw [e] at hd
  simp only [List.mem_cons,List.not_mem_nil,or_false] at hd
  subst hd
  obtain ⟨m,hm,em,_⟩:=nB hn h.be.tb hj e
  rw [qf em]
  have s:∀ p,p<2 ^ n->aV n j m c.f p=c.f p:=fun p hp=>(sE hn h.be hj hm em hp).1
  refine ⟨by simp [h.ml],h.be.same (qL h.be.ls n j m) s,vZ h.bd n j m,?_⟩
  show MA.S2.sc c.h (MA.kg 100 n (aV n j m c.f))=_
  rw [Ac 100 n s]
  exact h.wh
 | cons k I=>
  rw [e] at hd
  obtain ⟨q,hk,hA,_⟩:=rA h.be.tb.good e
  have one:∀ m,m<2->CI n (l+1) t ⟨c.ms++[m],Iv n j m k c.T,c.h+1,aV n j m c.f⟩:=fun m hm=>by
   refine ⟨by simp [h.ml],?_,vZ h.bd n j m,?_⟩
   ·show Bel n (Iv n j m k c.T) _
    rw [BW hk]
    exact h.be.open hn hj hm hk hA
   ·show MA.S2.sc (c.h+1) (MA.kg 100 n (aV n j m c.f))=_
    rw [MA.S2.sc_add,Jh hn h.be hj hk hA 100 hm]
    exact h.wh
  simp only [List.mem_cons,List.not_mem_nil,or_false] at hd
  rcases hd with rfl | rfl
  ·exact one 0 (by decide)
  ·exact one 1 (by decide)
noncomputable def p6 (u:Nu):Bool:=u.1.a==0&&(u.1.b==0&&(u.1.c==0&&(u.1.d==0&&(u.2:Int)==0)))
theorem ss (u:Nu):p6 u=true↔u=zN:=by
 obtain ⟨⟨a,b,c,d⟩,k⟩:=u
 simp [p6,zN,and_assoc]
noncomputable def sU (n:Nat) (f:Nat->Nu):Bool:=(List.range (2 ^ n)).all fun p=>p6 (f p)
theorem Jl (u:Nu):bo (cn u) (.tuple [.int 0,.int 0,.int 0,.int 0,.int 0])=some (.bool (p6 u)):=by
 obtain ⟨⟨a,b,c,d⟩,k⟩:=u
 show bo (.tuple [.int a,.int b,.int c,.int d,.int (k:Int)]) _=_
 unfold bo
 rw [if_pos ⟨rfl,rfl⟩]
 simp [PyData.eqv,PyData.eqvAll,p6]
theorem v6 (n:Nat) (hn:n<=6) (f:Nat->Nu):fB [gF n f]=some (.bool (sU n f)):=by
 have sq:(2 ^ n:Nat)<=64:=(Nat.pow_le_pow_right (by decide) hn:2 ^ n<=2 ^ 6)
 have e:mT [.fz (gF n f)]=some (.list ((List.range (2 ^ n)).map fun p=>.bool (p6 (f p)))):=de (h:=fun p=>cn (f p)) (k:=fun p=>.bool (p6 (f p))) (xs:=List.range (2 ^ n)) (by simp [gF]) (by rw [List.length_range]; omega) fun p _=>by
  have:=Jl (f p)
  simp [capS,this]
 simp [fB,runB,kE,av,e,Dc,sU]
theorem IS (X:D) (S W F:Int) (z2:Sl) (N:Nat) (y:Nat->D) (hl:N<=16777216) (ln:ck [X]=some (.int S)) (hN:bQ [.int S]=some ((List.range N).map fun k:Nat=>PyData.int (0+(k:Int)))) (H:∀ p:Nat,p<N->∃ (m:Int) (d:D),Builtin.bitAnd (p:Int) W=m/\ax X (.int (p:Int))=some d/\y p=if m=F then d else .tuple [.int 0,.int 0,.int 0,.int 0,.int 0]):ma [.fz X,.fz (.int W),z2,.fz (.int F)]=some (.list ((List.range N).map y)):=
 yY (by simp [ln,hN]) hl fun p hp=>by
  obtain ⟨m,d,h1,h2,h3⟩:=H p hp
  by_cases h:m=F
  ·rw [if_pos h] at h3
   subst h
   simp [capS,h1,h2,h3]
  ·rw [if_neg h] at h3
   simp [capS,h1,h2,h3,h]
theorem IR (X:D) (W M F:Int) (L:List D) (hF:(if M=1 then W else 0)=F) (p:∀ z2,ma [.fz X,.fz (.int W),z2,.fz (.int F)]=some (.list L)):du [X,.int W,.int M]=some (.tuple L):=by
 by_cases h:M=1
 ·rw [if_pos h] at hF; subst hF h
  simp [-sSeq,-sIf,aC,aJ,du,runB,lE,av,p]
 ·rw [if_neg h] at hF; subst hF
  simp [-sSeq,-sIf,aC,aJ,du,runB,lE,av,p,h]
theorem yM {n j:Nat} (hn:n<=6) (hj:j<n) (f:Nat->Nu) (m:Nat) (hm:m<2):du [gF n f,.int (wt n j:Nat),.int (m:Nat)]=some (gF n (aV n j m f)):=by
 have sq:(2 ^ n:Nat)<=64:=(Nat.pow_le_pow_right (by decide) hn:2 ^ n<=2 ^ 6)
 have wp:=MA.bf n j
 refine IR (gF n f) (wt n j:Nat) (m:Nat) ((wt n j*m:Nat):Int) ((List.range (2 ^ n)).map fun p=>cn (aV n j m f p)) ?_ fun z2=>IS _ _ _ _ z2 (2 ^ n) (fun p=>cn (aV n j m f p)) (by omega) (mm n f) (jL n hn) fun p hp=>⟨_,_,MA.lI p (wt n j),ql p rfl hp,?_⟩
 ·rcases (by omega:m=0\/m=1) with rfl | rfl <;> simp
 ·rw [(ol hn hj hp).1]
  unfold aV
  have b:=MA.bE (wt n j) p
  by_cases h:au (wt n j) p=m
  ·rw [if_pos h,if_pos (by rw [h])]
  ·rw [if_neg h,if_neg]
   ·rfl
   ·intro z
    have z:wt n j*au (wt n j) p=wt n j*m:=by exact_mod_cast z
    exact h (Nat.eq_of_mul_eq_mul_left wp z)
theorem BU (B:D) (M:List D) (X:D) (S N W j:Int) (L0 L1 Y:D) (b0:ax B (.int 0)=some (.tuple M)) (b1:ax B (.int 1)=some X) (ln:ck [X]=some (.int S)) (bl:nh (.int S)=some (.int (N+1))) (hw:bY [.int N,.int j]=some (.int W)) (hl:M.length<=1000) (l0:du [X,.int W,.int 0]=some L0) (l1:du [X,.int W,.int 1]=some L1) (q:∀ δ:Dv,δ[3]? = some (.fz (.list [.tuple [.tuple (M++[.int 0]),L0],.tuple [.tuple (M++[.int 1]),L1]]))->sM δ = some Y):eR [B,.int j]=some Y:=by
 have a0:cf (.tuple M) (.tuple [.int 0])=some (.tuple (M++[.int 0])):=iw (by simp; omega)
 have a1:cf (.tuple M) (.tuple [.int 1])=some (.tuple (M++[.int 1])):=iw (by simp; omega)
 have e:∀ z3,sN [.fz B,.fz (.int j),.fz (.int W),z3]=some (.list [.tuple [.tuple (M++[.int 0]),L0],.tuple [.tuple (M++[.int 1]),L1]]):=fun z3=>by
  have:=de (fi:=oI (VL.os (ad (oC (.int 0)) (ad (oC (.int 1)) (al))) aZ) eQ) (caps:=[(0,"branch"),(2,"bit")]) (fe:=VL.os (ad (o2 (o2 (oV 1) (oC (.int 0)) ax) (VL.os (ad (oV 0) (al)) aZ) cf) (ad (VL.os (ad (o2 (oV 1) (oC (.int 1)) ax) (ad (oV 2) (ad (oV 0) (al)))) du) (al))) aZ) (δ:=[.fz B,.fz (.int j),.fz (.int W),z3]) (h:=fun k:Bool=>PyData.int (if k then 1 else 0)) (k:=fun k:Bool=>if k then .tuple [.tuple (M++[.int 1]),L1] else .tuple [.tuple (M++[.int 0]),L0]) (xs:=[false,true]) (by simp) (by simp) (fun x _=>by cases x <;> simp [capS,b0,b1,a0,a1,l0,l1])
  exact this
 have q':=q [.fz B,.fz (.int j),.fz (.int W),.fz (.list [.tuple [.tuple (M++[.int 0]),L0],.tuple [.tuple (M++[.int 1]),L1]])] rfl
 have nn:N+1-1=N:=by omega
 simp [-tu,eR,runB,rk,av,b1,ln,bl,nn,hw,e,q']
theorem vQ {a b:D} {c:Bool} (h:bo a b=some (.bool c)):neD a b=some (.bool (!c)):=by
 unfold bo at h
 unfold neD
 split at h
 ·rename_i hs
  rw [if_pos hs]
  have h:PyData.eqv a b=c:=by simpa using h
  rw [h]
 ·cases h
theorem y1 {i:Nat} {fs:Dv->Option (List D)} {n:Str} {tb:List (Str×(List D->Option D))} {g:List D->Option D} {δ:Dv} {as:List D} (h1:oV i δ = some (gD n)) (h2:fs δ = some as) (hl:tb.lookup n=some g):gH i fs tb δ = g as:=by
 unfold gH
 rw [h1,Option.bind_some,As,Option.bind_some]
 simp [hl,h2]
theorem GY {n:Nat} {f:Nat->Nu} (h:∃ p,p<2 ^ n/\f p≠zN):sU n f=false:=by
 obtain ⟨p,hp,hne⟩:=h
 cases e:sU n f with
 | false=>rfl
 | true=>exact absurd ((ss _).mp (List.all_eq_true.mp e p (List.mem_range.mpr hp))) hne
theorem K5 {n:Nat} {f:Nat->Nu} (h:∀ p,p<2 ^ n->f p=zN):sU n f=true:=List.all_eq_true.mpr fun p hp=>(ss _).mpr (h p (List.mem_range.mp hp))
noncomputable def two (n j:Nat) (c:Cb) (m:Nat):D:=.tuple [wD (c.ms++[m]),gF n (aV n j m c.f)]
theorem zO {n l t j:Nat} (hn:n<=6) (hj:j<n) {c:Cb} (h:CI n l t c) (hl:l<=900):eR [e1 n c,.int (j:Nat)]=some (.list ((gQ n j c).map (e1 n))):=by
 have hm:(c.ms.map fun m=>PyData.int (m:Nat)).length<=1000:=by rw [List.length_map,h.ml]; omega
 refine BU (e1 n c) (c.ms.map fun m=>PyData.int (m:Nat)) (gF n c.f) _ n (wt n j:Nat) j _ _ _ rfl rfl (mm n c.f) (vb hn c.f) (bz hn hj) hm (yM hn hj c.f 0 (by decide)) (yM hn hj c.f 1 (by decide)) fun δ hd=>?_
 have e:((([0,1]:List Nat).filter fun m=>!sU n (aV n j m c.f)).map (two n j c))=(gQ n j c).map (e1 n):=by
  unfold gQ
  cases ea:AR c.T (f9 n j 0) n with
  | nil=>
   obtain ⟨m,hm,em,_⟩:=nB hn h.be.tb hj ea
   have s:=fun p (hp:p<2 ^ n)=>sE hn h.be hj hm em hp
   rw [qf em]
   have z1:sU n (aV n j m c.f)=false:=GY (by
    obtain ⟨p,hp,hne⟩:=h.be.nz
    exact ⟨p,hp,by rw [(s p hp).1]; exact hne⟩)
   have z2:sU n (aV n j (1-m) c.f)=true:=K5 fun p hp=>(s p hp).2
   rcases (by omega:m=0\/m=1) with rfl | rfl
   ·simp only [List.filter,z1,show sU n (aV n j 1 c.f)=true from z2,Bool.not_false,Bool.not_true]; rfl
   ·simp only [List.filter,z1,show sU n (aV n j 0 c.f)=true from z2,Bool.not_false,Bool.not_true]; rfl
  | cons k I=>
   obtain ⟨q,hk,hA,_⟩:=rA h.be.tb.good ea
   have z:∀ m,m<2->sU n (aV n j m c.f)=false:=fun m hm=>GY (yE hn h.be hj hm hk hA)
   simp only [List.filter,z 0 (by decide),z 1 (by decide),Bool.not_false]; rfl
 rw [<- e]
 refine nU (h:=two n j c) (k:=two n j c) (b:=fun m=>!sU n (aV n j m c.f)) (xs:=[0,1]) ?_ (by simp) (fun m _=>?_) fun c _ _=>?_
 ·simp [hd,two,wD]
 ·have e:=v6 n hn (aV n j m c.f)
  have b1:ax (two n j c m) (.int 1)=some (gF n (aV n j m c.f)):=rfl
  simp [capS,b1,e]
 ·simp
theorem CB (B R M X Y:D) (b0:ax B (.int 0)=some M) (b1:ax B (.int 1)=some X) (h:dO [X,R]=some Y):dw [B,R]=some (.tuple [M,Y]):=by
 simp [dw,runB,og,av,b0,b1,h]
theorem Ar {n l t:Nat} (hn:n<=6) {c:Cb} (h:CI n l t c) (ht:t<=60) (r:Row) (hr:r.ok n):dw [e1 n c,rowD r]=some (e1 n (CD n r c)):=by
 have h1:=FZ hn c.f (fun x=>by have:=(h.bd x).1; omega) (fun x=>(h.bd x).2.mono (Nat.pow_le_pow_right (by decide) (by omega))) r hr
 exact CB (e1 n c) (rowD r) _ _ _ rfl rfl h1
theorem zv (B R M X Y H:D) (b0:ax B (.int 0)=some M) (b1:ax B (.int 1)=some X) (b2:ax B (.int 2)=some H) (h:db [X,R]=some Y):aX [B,R]=some (.tuple [M,Y,H]):=by
 simp [aX,runB,gK,av,b0,b1,b2,h]
theorem wM {n l t:Nat} (hn:n<=6) {c:Cb} (h:CI n l t c) (r:Row) (hr:r.ok n) (ho:iT r=false):aX [e2 c,rowD r]=some (e2 (CD n r c)):=
 zv (e2 c) (rowD r) _ _ _ _ rfl rfl rfl (JY hn hr ho h.be.tb.good)
theorem Eb (B X H:D) (M:List D) (j m:Int) (b0:ax B (.int 0)=some (.tuple M)) (b1:ax B (.int 1)=some X) (b2:ax B (.int 2)=some H) (hl:M.length<=1000) (h:br [X,.int j]=some (.int m)):aW [B,.int j]=some (.list [.tuple [.tuple (M++[.int m]),X,H]]):=by
 have a0:cf (.tuple M) (.tuple [.int m])=some (.tuple (M++[.int m])):=iw (by simp; omega)
 simp [-sSeq,-sIf,aC,aJ,aW,runB,fW,av,b0,b1,b2,h,a0,sT]
theorem Ec (B X:D) (M:List D) (j H:Int) (G0 G1:D) (b0:ax B (.int 0)=some (.tuple M)) (b1:ax B (.int 1)=some X) (b2:ax B (.int 2)=some (.int H)) (hl:M.length<=1000) (h:br [X,.int j]=some .none) (l0:bq [X,.int j,.int 0]=some G0) (l1:bq [X,.int j,.int 1]=some G1):aW [B,.int j]=some (.list [.tuple [.tuple (M++[.int 0]),G0,.int (H+1)],.tuple [.tuple (M++[.int 1]),G1,.int (H+1)]]):=by
 have a0:cf (.tuple M) (.tuple [.int 0])=some (.tuple (M++[.int 0])):=iw (by simp; omega)
 have a1:cf (.tuple M) (.tuple [.int 1])=some (.tuple (M++[.int 1])):=iw (by simp; omega)
 have e:∀ z2,jY [.fz B,.fz (.int j),z2]=some (.list [.tuple [.tuple (M++[.int 0]),G0,.int (H+1)],.tuple [.tuple (M++[.int 1]),G1,.int (H+1)]]):=fun z2=>by
  have:=de (fi:=oI (VL.os (ad (oC (.int 0)) (ad (oC (.int 1)) (al))) aZ) eQ) (caps:=[(0,"branch"),(1,"wire")]) (fe:=VL.os (ad (o2 (o2 (oV 1) (oC (.int 0)) ax) (VL.os (ad (oV 0) (al)) aZ) cf) (ad (VL.os (ad (o2 (oV 1) (oC (.int 1)) ax) (ad (oV 2) (ad (oV 0) (al)))) bq) (ad (o2 (o2 (oV 1) (oC (.int 2)) ax) (oC (.int 1)) cf) (al)))) aZ) (δ:=[.fz B,.fz (.int j),z2]) (h:=fun k:Bool=>PyData.int (if k then 1 else 0)) (k:=fun k:Bool=>if k then .tuple [.tuple (M++[.int 1]),G1,.int (H+1)] else .tuple [.tuple (M++[.int 0]),G0,.int (H+1)]) (xs:=[false,true]) (by simp) (by simp) (fun x _=>by cases x <;> simp [capS,b0,b1,b2,a0,a1,l0,l1])
  exact this
 simp [-sSeq,-sIf,aC,aJ,aW,runB,fW,av,b1,h,e,sT]
theorem wL {n l t j:Nat} (hn:n<=6) (hj:j<n) {c:Cb} (h:CI n l t c) (hl:l<=900):aW [e2 c,.int (j:Nat)]=some (.list ((gQ n j c).map e2)):=by
 have hm:(c.ms.map fun m=>PyData.int (m:Nat)).length<=1000:=by rw [List.length_map,h.ml]; omega
 unfold gQ
 cases ea:AR c.T (f9 n j 0) n with
 | nil=>
  obtain ⟨m,hm2,em,told⟩:=nB hn h.be.tb hj ea
  rw [qf em,Eb (e2 c) _ _ _ j m rfl rfl rfl hm told]
  simp [e2,wD]
 | cons k I=>
  obtain ⟨q,hk,hA,_⟩:=rA h.be.tb.good ea
  have lk:∀ m:Nat,m<2->bq [dU c.T,.int j,.int m]=some (dU (Iv n j m k c.T)):=fun m hm=>by
   rw [BW hk]
   exact vY hn h.be.tb.good hj hm ea hk
  rw [Ec (e2 c) _ _ j c.h _ _ rfl rfl rfl hm (sC hn h.be.tb.good hj ea) (lk 0 (by decide)) (lk 1 (by decide))]
  simp [e2,wD]
structure Enc (n:Nat) (E:Cb->D) (pn gn:Str):Prop where
 mk0:∀ c,ax (E c) (.int 0)=some (wD c.ms)
 part:∀ {l t:Nat} {c:Cb},CI n l t c->l<=900->∀ {j:Nat},j<n->∀ {i:Nat} {fs:Dv->Option (List D)} {δ:Dv},oV i δ = some (gD pn)->fs δ = some [E c,.int (j:Nat)]->gH i fs (("parted",eR)::(("table_parted",aW)::[])) δ = some (.list ((gQ n j c).map E))
 go:∀ {l t:Nat} {c:Cb},CI n l t c->t<=60->∀ {r:Row},r.ok n->iT r=false->∀ {i:Nat} {fs:Dv->Option (List D)} {δ:Dv},oV i δ = some (gD gn)->fs δ = some [E c,rowD r]->gH i fs (("gone_on",dw)::(("table_gone_on",aX)::[])) δ = some (E (CD n r c))
theorem Ni {n:Nat} (hn:n<=6):Enc n (e1 n) "parted" "gone_on":=⟨fun _=>rfl,fun h hl _ hj _ _ _ h1 h2=>(y1 h1 h2 rfl).trans (zO hn hj h hl),fun h ht r hr _ _ _ _ h1 h2=>(y1 h1 h2 rfl).trans (Ar hn h ht r hr)⟩
theorem Nh {n:Nat} (hn:n<=6):Enc n e2 "table_parted" "table_gone_on":=⟨fun _=>rfl,fun h hl _ hj _ _ _ h1 h2=>(y1 h1 h2 rfl).trans (wL hn hj h hl),fun h ht r hr ho _ _ _ h1 h2=>(y1 h1 h2 rfl).trans (wM hn h r hr ho)⟩
noncomputable def JO:Rw->Prop
 | .pl r=>iT r=false
 | _=>True
section
variable {n:Nat} {E:Cb->D} {pn gn:Str} (En:Enc n E pn gn)
theorem Jn (B R Y:D) (s:Str) (r0:ax R (.int 0)=some (.str s)) (ne:neD (.str s) (.str "where")=some (.bool true)) (c:gH 2 (ad (oV 0) (ad (oV 1) (al))) (("gone_on",dw)::(("table_gone_on",aX)::[])) [.fz B,.fz R,.fz (gD gn)]=some Y):bL [B,R,gD gn]=some Y:=by
 simp [-sSeq,-sIf,aC,aJ,bL,runB,eU,av,r0,ne,c]
theorem CU (B R M I Y:D) (m v:Int) (r0:ax R (.int 0)=some (.str "where")) (r1:ax R (.int 1)=some (.int m)) (r2:ax R (.int 2)=some I) (b0:ax B (.int 0)=some M) (mv:ax M (.int m)=some (.int v)) (h1:v=1->gH 2 (ad (oV 0) (ad (o2 (oV 1) (oC (.int 2)) ax) (al))) (("gone_on",dw)::(("table_gone_on",aX)::[])) [.fz B,.fz R,.fz (gD gn)]=some Y) (h0:¬ v=1->Y=B):bL [B,R,gD gn]=some Y:=by
 have ne:neD (.str "where") (.str "where")=some (.bool false):=vQ (c:=true) (by simp)
 by_cases h:v=1
 ·have c:=h1 h
  simp [-sSeq,-sIf,aC,aJ,bL,runB,eU,av,r0,ne,r1,b0,mv,h,c]
 ·have e:=h0 h
  subst e
  simp [-sSeq,-sIf,aC,aJ,bL,runB,eU,av,r0,ne,r1,b0,mv,h]
include En
theorem Jo {l t:Nat} {c:Cb} (h:CI n l t c) (ht:t<=60) (r:Rw) (hr:r.ok n l) (he:JO r) (nl:r.isLook=false):bL [E c,rwD r,gD gn]=some (E (goR n r c)):=by
 have mark:∀ m,m<l->∃ v:Nat,c.ms[m]? = some v/\ax (wD c.ms) (.int (m:Int))=some (.int v):=fun m hm=>by
  have hm':m<c.ms.length:=by rw [h.ml]; exact hm
  exact ⟨c.ms[m],List.getElem?_eq_getElem hm',eK (j:=m) rfl (by simp [hm'])⟩
 cases r with
 | pl r=>
  have g:=En.go h ht hr he (i:=2) (fs:=ad (oV 0) (ad (oV 1) (al))) (δ:=[.fz (E c),.fz (rowD r),.fz (gD gn)]) rfl (by simp)
  cases r <;> exact Jn _ _ _ _ (at0 _ _) (vQ (c:=false) (by simp)) g
 | look j=>cases nl
 | wflip m j=>
  obtain ⟨v,a1,a2⟩:=mark m hr.1
  refine CU (E c) (rwD (.wflip m j)) _ _ _ m v (at0 _ _) (AN _ _ _) (G8 _ _ _ _) (En.mk0 c) a2 (fun z=>?_) fun z=>?_
  ·have:goR n (.wflip m j) c=CD n (.flip j) c:=if_pos (by rw [a1]; congr 1; omega)
   rw [this]
   exact En.go h ht (r:=.flip j) hr.2 rfl rfl (by simp [G8,rwD]; rfl)
  ·have:goR n (.wflip m j) c=c:=if_neg (by rw [a1]; intro q; cases q; exact z rfl)
   rw [this]
 | wsign m j=>
  obtain ⟨v,a1,a2⟩:=mark m hr.1
  refine CU (E c) (rwD (.wsign m j)) _ _ _ m v (at0 _ _) (AN _ _ _) (G8 _ _ _ _) (En.mk0 c) a2 (fun z=>?_) fun z=>?_
  ·have:goR n (.wsign m j) c=CD n (.turn j 4) c:=if_pos (by rw [a1]; congr 1; omega)
   rw [this]
   exact En.go h ht (r:=.turn j 4) ⟨hr.2,by decide,by decide⟩ rfl rfl (by simp [G8,rwD]; rfl)
  ·have:goR n (.wsign m j) c=c:=if_neg (by rw [a1]; intro q; cases q; exact z rfl)
   rw [this]
end
theorem CI.goR {n l t:Nat} (hn:n<=6) (ht:t<60) {c:Cb} (h:CI n l t c) {r:Rw} (hr:r.ok n l) (he:JO r):CI n l (t+1) (goR n r c):=by
 cases r with
 | pl r=>exact h.go hn ht hr he
 | look j=>exact h.mono
 | wflip m j=>
  by_cases q:c.ms[m]? = some 1
  ·rw [show GN.goR n (.wflip m j) c=CD n (.flip j) c from if_pos q]; exact h.go hn ht (r:=.flip j) hr.2 rfl
  ·rw [show GN.goR n (.wflip m j) c=c from if_neg q]; exact h.mono
 | wsign m j=>
  by_cases q:c.ms[m]? = some 1
  ·rw [show GN.goR n (.wsign m j) c=CD n (.turn j 4) c from if_pos q]; exact h.go hn ht (r:=.turn j 4) ⟨hr.2,by decide,by decide⟩ rfl
  ·rw [show GN.goR n (.wsign m j) c=c from if_neg q]; exact h.mono
noncomputable def thru (n:Nat):List Rw->List Cb->List Cb
 | [],cs=>cs
 | .look j::rs,cs=>thru n rs (cs.flatMap (gQ n j))
 | r::rs,cs=>thru n rs (cs.map (goR n r))
noncomputable def pe (w:Nat):Nat->List Rw->Prop
 | _,[]=>True
 | l,r::rs=>(r.ok w l/\JO r)/\pe w (l+if r.isLook then 1 else 0) rs
noncomputable def AX:List Rw->Nat
 | []=>0
 | r::rs=>(if r.isLook then 1 else 0)+AX rs
structure CL (n l t:Nat) (cs:List Cb):Prop where
 ci:∀ c∈cs,CI n l t c
 ln:cs.length<=2 ^ l
theorem vy (n j:Nat) (c:Cb):(gQ n j c).length<=2:=by
 unfold gQ
 split <;> simp
theorem CL.look {n l t:Nat} (hn:n<=6) {cs:List Cb} (h:CL n l t cs) {j:Nat} (hj:j<n):CL n (l+1) (t+1) (cs.flatMap (gQ n j)):=by
 refine ⟨fun d hd=>?_,?_⟩
 ·obtain ⟨c,hc,hd⟩:=List.mem_flatMap.mp hd
  exact ((h.ci c hc).part hn hj d hd).mono
 ·have:∀ cs:List Cb,(cs.flatMap (gQ n j)).length<=2*cs.length:=fun cs=>by
   induction cs with
   | nil=>exact Nat.le_refl _
   | cons c cs ih=>
    rw [List.flatMap_cons,List.length_append,List.length_cons]
    have:=vy n j c
    omega
  have:=this cs
  have:=h.ln
  rw [Nat.pow_succ]
  omega
theorem CL.go {n l t:Nat} (hn:n<=6) (ht:t<60) {cs:List Cb} (h:CL n l t cs) {r:Rw} (hr:r.ok n l) (he:JO r):CL n l (t+1) (cs.map (goR n r)):=by
 refine ⟨fun d hd=>?_,by rw [List.length_map]; exact h.ln⟩
 obtain ⟨c,hc,rfl⟩:=List.mem_map.mp hd
 exact (h.ci c hc).goR hn ht hr he
theorem yf (n:Nat) (r:Rw) (rs:List Rw) (cs:List Cb) (h:r.isLook=false):thru n (r::rs) cs=thru n rs (cs.map (goR n r)):=by
 cases r with
 | look j=>cases h
 | pl r=>rfl
 | wflip m j=>rfl
 | wsign m j=>rfl
theorem CL.thru {n:Nat} (hn:n<=6):∀ (rs:List Rw) (l t:Nat) (cs:List Cb),pe n l rs->CL n l t cs->t+rs.length<=60->CL n (l+AX rs) (t+rs.length) (thru n rs cs)
 | [],l,t,cs,_,h,_=>h
 | r::rs,l,t,cs,ho,h,ht=>by
  rw [List.length_cons] at ht ⊢
  cases hr:r.isLook with
  | true=>
   cases r with
   | look j=>
    have:=CL.thru hn rs (l+1) (t+1) _ ho.2 (h.look hn ho.1.1.1) (by omega)
    have e:l+AX (.look j::rs)=l+1+AX rs:=by show l+(1+AX rs)=_; omega
    rw [e,show t+(rs.length+1)=t+1+rs.length by omega]
    exact this
   | pl r=>cases hr
   | wflip m j=>cases hr
   | wsign m j=>cases hr
  | false=>
   have ho2:=ho.2
   rw [hr] at ho2
   have:=CL.thru hn rs l (t+1) _ ho2 (h.go hn (by omega) ho.1.1 ho.1.2) (by omega)
   have e:AX (r::rs)=AX rs:=by show (if r.isLook then 1 else 0)+AX rs=_; rw [hr]; simp
   rw [e,yf n r rs cs hr,show t+(rs.length+1)=t+1+rs.length by omega]
   exact this
theorem yr (r:Rw):∃ s:Str,ax (rwD r) (.int 0)=some (.str s)/\bo (.str s) (.str "look")=some (.bool r.isLook):=by
 cases r with
 | pl r=>cases r <;> exact ⟨_,at0 _ _,by simp [Rw.isLook]⟩
 | look j=>exact ⟨_,at0 _ _,by simp [Rw.isLook]⟩
 | wflip m j=>exact ⟨_,at0 _ _,by simp [Rw.isLook]⟩
 | wsign m j=>exact ⟨_,at0 _ _,by simp [Rw.isLook]⟩
section
variable {n:Nat} (hn:n<=6) {E:Cb->D} {pn gn:Str} (En:Enc n E pn gn)
theorem Lf (z0 z1 z3 z4:Sl) (R B:D) (ds es:List D) (j:Int) (r1:ax R (.int 1)=some (.int j)) (c:gH 2 (ad (oV 7) (ad (o2 (oV 5) (oC (.int 1)) ax) (al))) (("parted",eR)::(("table_parted",aW)::[])) [z0,z1,.fz (gD pn),z3,z4,.fz R,.ow ds,.fz B]=some (.list es)) (hl:ds.length+es.length<=sizeLine):cD [z0,z1,.fz (gD pn),z3,z4,.fz R,.ow ds,.fz B]=some (.nx,[z0,z1,.fz (gD pn),z3,z4,.fz R,.ow (ds++es),.fz B]):=by
 have l:vX (.list es)=some es:=rfl
 simp [cD,c,l,hl]
include En
theorem wa {l t j:Nat} (hj:j<n) (hl9:l<=900) (z0 z1 z3 z4:Sl):∀ (cs:List Cb),(∀ c∈cs,CI n l t c)->∀ (ds:List D) (z7:Sl),ds.length+2*cs.length<=1000->∃ y7,loop (gN 7) cD (cs.map E) [z0,z1,.fz (gD pn),z3,z4,.fz (.tuple [.str "look",.int (j:Nat)]),.ow ds,z7]=some (.nx,[z0,z1,.fz (gD pn),z3,z4,.fz (.tuple [.str "look",.int (j:Nat)]),.ow (ds++(cs.flatMap (gQ n j)).map E),y7])
 | [],_,ds,z7,_=>⟨z7,by simp⟩
 | c::cs,hl,ds,z7,hs=>by
  have p2:=vy n j c
  simp only [List.length_cons] at hs
  obtain ⟨y7,e⟩:=wa hj hl9 z0 z1 z3 z4 cs (fun c hc=>hl c (List.mem_cons_of_mem _ hc)) (ds++(gQ n j c).map E) (.fz (E c)) (by rw [List.length_append,List.length_map]; omega)
  refine ⟨y7,?_⟩
  have cl:=En.part (hl c List.mem_cons_self) hl9 hj (i:=2) (fs:=ad (oV 7) (ad (o2 (oV 5) (oC (.int 1)) ax) (al))) (δ:=[z0,z1,.fz (gD pn),z3,z4,.fz (.tuple [.str "look",.int (j:Nat)]),.ow ds,.fz (E c)]) rfl (by simp [AN])
  rw [List.map_cons,bU (δ1:=[z0,z1,.fz (gD pn),z3,z4,.fz (.tuple [.str "look",.int (j:Nat)]),.ow ds,.fz (E c)]) (by simp) (Lf z0 z1 z3 z4 _ _ ds _ j (AN _ _ _) cl (by rw [List.length_map]; show _<=16777216; omega)),e]
  simp [List.flatMap_cons]
omit En
theorem CA (z0 z1 z3 z5 z6 z7 y7:Sl) (R:D) (bs es:List D) (r0:ax R (.int 0)=some (.str "look")) (lp:loop (gN 7) cD bs [z0,z1,.fz (gD pn),z3,.fz (.list bs),.fz R,.ow [],z7]=some (.nx,[z0,z1,.fz (gD pn),z3,.fz (.list bs),.fz R,.ow es,y7])):bN [z0,z1,.fz (gD pn),z3,.ow bs,.fz R,z6,z7]=some (.nx,[z0,z1,.fz (gD pn),z3,.ow es,.fz R,.un,y7]):=by
 simp [-sSeq,-sIf,aC,aJ,bN,r0,lp,pi,yp]
theorem Ji (z0 z1 z2 z6 z7:Sl) (R G:D) (bs es:List D) (s:Str) (r0:ax R (.int 0)=some (.str s)) (ne:bo (.str s) (.str "look")=some (.bool false)) (p:gG [z0,z1,z2,.fz G,.fz (.list bs),.fz R,z6,z7]=some (.list es)):bN [z0,z1,z2,.fz G,.ow bs,.fz R,z6,z7]=some (.nx,[z0,z1,z2,.fz G,.ow es,.fz R,z6,z7]):=by
 have l:vX (.list es)=some es:=rfl
 simp [-sSeq,-sIf,aC,aJ,bN,r0,ne,p,pi,yH,l]
include En
theorem OJ {l t:Nat} {cs:List Cb} (h:CL n l t cs) (hl:cs.length<=1000) (ht:t<=60) (r:Rw) (hr:r.ok n l) (he:JO r) (nl:r.isLook=false) (z0 z1 z2 z6 z7:Sl):gG [z0,z1,z2,.fz (gD gn),.fz (.list (cs.map E)),.fz (rwD r),z6,z7]=some (.list ((cs.map (goR n r)).map E)):=by
 rw [List.map_map]
 exact de (h:=E) (k:=fun c=>E (goR n r c)) (xs:=cs) (by simp) (by omega) fun c hc=>by
  have:=Jo En (h.ci c hc) ht r hr he nl
  simp [capS,this]
include hn
theorem uE (z0 z1:Sl):∀ (rs:List Rw) (l t:Nat) (cs:List Cb),pe n l rs->CL n l t cs->l<=6->t+rs.length<=60->∀ z5 z6 z7,∃ y5 y6 y7,loop (gN 5) bN (rs.map rwD) [z0,z1,.fz (gD pn),.fz (gD gn),.ow (cs.map E),z5,z6,z7]=some (.nx,[z0,z1,.fz (gD pn),.fz (gD gn),.ow ((thru n rs cs).map E),y5,y6,y7])
 | [],l,t,cs,_,_,_,_,z5,z6,z7=>⟨z5,z6,z7,rfl⟩
 | r::rs,l,t,cs,ho,hb,hl,ht,z5,z6,z7=>by
  simp only [List.length_cons] at ht
  have l64:cs.length<=64:=Nat.le_trans hb.ln (Nat.pow_le_pow_right (by decide) hl:2 ^ l<=2 ^ 6)
  cases hr:r.isLook with
  | true=>
   cases r with
   | look j=>
    obtain ⟨hj,h6⟩:=ho.1.1
    obtain ⟨y7,e⟩:=wa En hj (show l<=900 by omega) z0 z1 (.fz (gD gn)) (.fz (.list (cs.map E))) cs hb.ci [] z7 (by simp; omega)
    rw [List.nil_append] at e
    have st:=CA z0 z1 (.fz (gD gn)) z5 z6 z7 y7 (.tuple [.str "look",.int (j:Nat)]) _ _ (at0 _ _) e
    obtain ⟨y5,y6,y7',e2⟩:=uE z0 z1 rs (l+1) (t+1) (cs.flatMap (gQ n j)) ho.2 (hb.look hn hj) (by omega) (by omega) (.fz (.tuple [.str "look",.int (j:Nat)])) .un y7
    exact ⟨y5,y6,y7',by rw [List.map_cons,bU (δ1:=[z0,z1,.fz (gD pn),.fz (gD gn),.ow (cs.map E),.fz (.tuple [.str "look",.int (j:Nat)]),z6,z7]) (by simp [rwD]) st]; exact e2⟩
   | pl r=>cases hr
   | wflip m j=>cases hr
   | wsign m j=>cases hr
  | false=>
   obtain ⟨s,r0,ne⟩:=yr r
   rw [hr] at ne
   have st:=Ji z0 z1 (.fz (gD pn)) z6 z7 (rwD r) (gD gn) _ _ s r0 ne (OJ En hb (by omega) (by omega) r ho.1.1 ho.1.2 hr z0 z1 _ z6 z7)
   have ho2:=ho.2
   rw [hr] at ho2
   obtain ⟨y5,y6,y7',e2⟩:=uE z0 z1 rs l (t+1) (cs.map (goR n r)) ho2 (hb.go hn (by omega) ho.1.1 ho.1.2) hl (by omega) (.fz (rwD r)) z6 z7
   exact ⟨y5,y6,y7',by rw [List.map_cons,bU (δ1:=[z0,z1,.fz (gD pn),.fz (gD gn),.ow (cs.map E),.fz (rwD r),z6,z7]) (by simp) st,yf n r rs cs hr]; exact e2⟩
omit hn En
theorem Nb (R B:D) (L:List D) (y5 y6 y7:Sl) (es:List D) (it:eQ R=some L) (lp:loop (gN 5) bN L [.fz R,.fz B,.fz (gD pn),.fz (gD gn),.ow [B],.un,.un,.un]=some (.nx,[.fz R,.fz B,.fz (gD pn),.fz (gD gn),.ow es,y5,y6,y7])):aK [R,B,gD pn,gD gn]=some (.list es):=by
 have sz:1<=sizeLine:=by show 1<=16777216; decide
 simp [-sSeq,-sIf,aC,aJ,aK,runB,io,av,it,lp,yo,sz]
include hn En
theorem yS (rs:List Rw) (c:Cb) (ho:pe n 0 rs) (h:CI n 0 0 c) (hl:rs.length<=60):aK [.tuple (rs.map rwD),E c,gD pn,gD gn]=some (.list ((thru n rs [c]).map E)):=by
 obtain ⟨y5,y6,y7,e⟩:=uE hn En (.fz (.tuple (rs.map rwD))) (.fz (E c)) rs 0 0 [c] ho ⟨fun d hd=>by simp only [List.mem_cons,List.not_mem_nil,or_false] at hd; subst hd; exact h,Nat.le_refl _⟩ (by omega) (by omega) .un .un .un
 exact Nb _ _ _ y5 y6 y7 _ rfl e
end
theorem ET {M n p:Nat} (hp:p<2 ^ n):MA.kg M n (MA.dH p)=MA.S2.sc M ⟨1,0⟩:=by
 have e:∀ x,MA.gb (MA.val M (MA.dH p x))=if x=p then MA.S2.sc M ⟨1,0⟩ else ⟨0,0⟩:=fun x=>by
  unfold MA.dH
  by_cases h:x=p
  ·rw [if_pos h,if_pos h]; exact MA.uu _ _
  ·rw [if_neg h,if_neg h]; exact wF M
 have one:∀ (c:Int) (N:Nat),MA.bS N (fun x=>if x=p then c else 0)=if p<N then c else 0:=fun c N=>by
  induction N with
  | zero=>rfl
  | succ N ih=>
   show MA.bS N _+(if N=p then c else 0)=_
   rw [ih]
   by_cases h:N=p
   ·rw [if_pos h,if_neg (by omega),if_pos (by omega),Int.zero_add]
   ·rw [if_neg h,Int.add_zero]
    by_cases h2:p<N
    ·rw [if_pos h2,if_pos (by omega)]
    ·rw [if_neg h2,if_neg (by omega)]
 apply MA.S2.ext'
 ·have:MA.bS (2 ^ n) (fun x=>(MA.gb (MA.val M (MA.dH p x))).p)=MA.bS (2 ^ n) (fun x=>if x=p then (MA.S2.sc M ⟨1,0⟩).p else 0):=MA.aT _ fun x _=>by rw [e x]; split <;> rfl
  exact this.trans ((one _ _).trans (if_pos hp))
 ·have:MA.bS (2 ^ n) (fun x=>(MA.gb (MA.val M (MA.dH p x))).q)=MA.bS (2 ^ n) (fun x=>if x=p then (MA.S2.sc M ⟨1,0⟩).q else 0):=MA.aT _ fun x _=>by rw [e x]; split <;> rfl
  exact this.trans ((one _ _).trans (if_pos hp))
theorem Nw {n:Nat} (hn:n<=6) {p:Nat} (hp:p<2 ^ n):Bel n (tW n p) (MA.dH p):=by
 refine ⟨Eh hn p,MA.zS p,⟨p,hp,?_⟩,fun q hq x hx=>?_⟩
 ·unfold MA.dH
  rw [if_pos rfl]
  intro h
  exact absurd (congrArg (fun u:Nu=>u.1.a) h) (by decide)
 ·obtain ⟨i,hi⟩:=List.mem_iff_getElem?.mp hq
  obtain ⟨h,rfl⟩:=pH hi
  show MA.iJ (MA.dH p) (f9 n i (au (wt n i) p)) x=_
  rw [xj hn h _ _ hx]
  by_cases e:x=p
  ·subst e
   rw [iK (b:=0) (by omega)]
   rfl
  ·have:MA.dH p x=zN:=by unfold MA.dH; rw [if_neg e]; rfl
   rw [this,lR]
theorem HJ (u:Nu):MA.Sh 1 (cn u):=MA.Sh.tuple fun x hx=>by
 simp [tup5] at hx
 rcases hx with rfl | rfl | rfl | rfl | rfl <;> exact .int _ _
theorem Kc (n:Nat) (f:Nat->Nu):MA.Sh 2 (gF n f):=MA.Sh.tuple fun x hx=>by
 obtain ⟨p,_,rfl⟩:=List.mem_map.mp hx
 exact HJ _
theorem Hr (T:List (Wd×Wd)):MA.Sh 3 (dU T):=MA.Sh.tuple fun x hx=>by
 obtain ⟨q,_,rfl⟩:=List.mem_map.mp hx
 exact MA.Sh.tuple fun y hy=>by
  simp only [List.mem_cons,List.not_mem_nil,or_false] at hy
  rcases hy with rfl | rfl <;> exact sh3 _ _ _
noncomputable def c0 (n p:Nat):Cb:=⟨[],tW n p,0,MA.dH p⟩
theorem C3 {n p:Nat} (hn:n<=6) (hp:p<2 ^ n):CI n 0 0 (c0 n p):=⟨rfl,Nw hn hp,Iw p,by
 show MA.S2.sc 0 (MA.kg 100 n (MA.dH p))=_
 rw [ET hp]
 apply MA.S2.ext' <;> simp [MA.S2.sc]⟩
noncomputable def nc (w:Nat) (rs:List Rw):D:=.tuple [.int w,.tuple (rs.map rwD)]
noncomputable def run (n p:Nat) (rs:List Rw):List Cb:=thru n rs [c0 n p]
theorem sO {n:Nat}:∀ (rs:List Rw) (l:Nat),pe n l rs->l<=6->l+AX rs<=6
 | [],l,_,h=>h
 | r::rs,l,ho,h=>by
  have:=sO rs _ ho.2 (by
   cases hr:r.isLook with
   | false=>simpa using h
   | true=>
    cases r with
    | look j=>have:=ho.1.1.2; simp; omega
    | pl r=>cases hr
    | wflip m j=>cases hr
    | wsign m j=>cases hr)
  show l+((if r.isLook then 1 else 0)+AX rs)<=6
  omega
theorem BB {n p:Nat} (hn:n<=6) (hp:p<2 ^ n) (rs:List Rw) (ho:pe n 0 rs) (hl:rs.length<=60):CL n (0+AX rs) (0+rs.length) (run n p rs)/\(run n p rs).length<=64:=by
 have h:=CL.thru hn rs 0 0 [c0 n p] ho ⟨fun d hd=>by simp only [List.mem_cons,List.not_mem_nil,or_false] at hd; subst hd; exact C3 hn hp,Nat.le_refl _⟩ (by omega)
 have:=sO rs 0 ho (by omega)
 exact ⟨h,Nat.le_trans h.ln (Nat.pow_le_pow_right (by decide) this:2 ^ (0+AX rs)<=2 ^ 6)⟩
theorem Nv (C R B T:D) (n p:Int) (X:D) (h0:ax C (.int 0)=some (.int n)) (h1:ax C (.int 1)=some R) (b:dc [.int n,.int p]=some X) (g:aK [R,.tuple [.tuple [],X],gD "parted",gD "gone_on"]=some T):cF [C,.int p]=some T:=by
 simp [cF,runB,mD,av,h0,h1,b,g]
theorem oH {n p:Nat} (hn:n<=6) (hp:p<2 ^ n) (rs:List Rw) (ho:pe n 0 rs) (hl:rs.length<=60):cF [nc n rs,.int p]=some (.list ((run n p rs).map (e1 n))):=
 Nv _ _ .none _ n p _ (at0 _ _) (AN _ _ _) (C4 hn p) (yS hn (Ni hn) rs (c0 n p) ho (C3 hn hp) hl)
theorem Na (q k h:Nat) (hk:h<=k):Vs q k (.tuple [.int 1,.int 0,.int (h:Nat)]) ⟨1,0⟩ h:=by
 refine ⟨⟨1,0⟩,h,rfl,⟨fun _=>by unfold MA.S2.Odd; decide,rfl⟩,⟨Nat.pow_pos (by decide),Nat.zero_le _⟩,hk⟩
theorem A5 {n l t:Nat} (hn:n<=6) {c:Cb} (h:CI n l t c) (ht:t<=60):iV [gF n c.f]=some (.tuple [.int 1,.int 0,.int (c.h:Nat)]):=by
 obtain ⟨w,e,v⟩:=A4 (M:=100) (p:=61*t) (r:=100) hn h.be.ls (fun q=>(h.bd q).2) (fun q=>Nat.le_trans (h.bd q).1 (by omega)) (by decide) (by decide) (by omega)
 rw [e,Vs.one v (Na 0 c.h c.h (Nat.le_refl _)) h.wh]
noncomputable def GH (c:Cb):D:=.tuple [wD c.ms,.tuple [.int 1,.int 0,.int (c.h:Nat)]]
theorem zC {n p:Nat} (hn:n<=6) (hp:p<2 ^ n) (rs:List Rw) (ho:pe n 0 rs) (hl:rs.length<=60):cq [nc n rs,.int p]=some (.list ((run n p rs).map GH)):=by
 obtain ⟨cl,ln⟩:=BB hn hp rs ho hl
 have b:=oH hn hp rs ho hl
 have e:kc [.fz (nc n rs),.fz (.int p)]=some (.list ((run n p rs).map GH)):=de (h:=e1 n) (k:=GH) (xs:=run n p rs) (by simp [b]) (by omega) fun c hc=>by
  have b0:ax (e1 n c) (.int 0)=some (wD c.ms):=rfl
  have b1:ax (e1 n c) (.int 1)=some (gF n c.f):=rfl
  have w:=A5 hn (cl.ci c hc) (by omega)
  simp [capS,b0,b1,w,GH]
 simp [cq,runB,je,av,e]
noncomputable def oddR:Rw->Bool
 | .pl r=>iT r
 | _=>false
theorem yv (rs:List Rw) (hl:rs.length<=1000):gu [.fz (.tuple (rs.map rwD))]=some (.list (rs.map fun r=>.bool (oddR r))):=by
 refine de (h:=rwD) (k:=fun r=>PyData.bool (oddR r)) (xs:=rs) (by simp) (by omega) fun q _=>?_
 cases q with
 | pl q=>cases q <;> simp [capS,rwD,rowD,oddR,iT,em2]
 | look j=>simp [capS,rwD,oddR]
 | wflip m j=>simp [capS,rwD,oddR]
 | wsign m j=>simp [capS,rwD,oddR]
theorem Ez (rs:List Rw) (hl:rs.length<=1000) (h:∀ r∈rs,oddR r=false):bn [.tuple (rs.map rwD)]=some .none:=by
 have p:=yv rs hl
 have a:wy [.list (rs.map fun r=>.bool (oddR r))]=some (.bool false):=by
  rw [wx]
  congr 2
  exact List.any_eq_false.mpr fun r hr z=>by rw [h r hr] at z; cases z
 simp [-sSeq,-sIf,aC,aJ,bn,runB,hU,av,p,a]
theorem Ey (rs:List Rw) (hl:rs.length<=1000) (h:∃ r∈rs,oddR r=true):dA [.tuple (rs.map rwD)]=some ("OddTurn":Str):=by
 have p:=yv rs hl
 have a:wy [.list (rs.map fun r=>.bool (oddR r))]=some (.bool true):=by
  rw [wx]
  congr 2
  exact List.any_eq_true.mpr h
 simp [dA,rP,jc,av,p,a]
theorem CO {n:Nat}:∀ (rs:List Rw) (l:Nat),pe n l rs->∀ r∈rs,oddR r=false
 | [],_,_,r,hr=>(nomatch hr)
 | q::rs,l,ho,r,hr=>by
  rcases List.mem_cons.mp hr with rfl | hr
  ·have:=ho.1.2
   cases r with
   | pl r=>exact this
   | look j=>rfl
   | wflip m j=>rfl
   | wsign m j=>rfl
  ·exact CO rs _ ho.2 r hr
theorem Mh (C R B T:D) (n p:Int) (X:D) (h0:ax C (.int 0)=some (.int n)) (h1:ax C (.int 1)=some R) (ro:bn [R]=some .none) (b:cR [.int n,.int p]=some X) (g:aK [R,.tuple [.tuple [],X,.int 0],gD "table_parted",gD "table_gone_on"]=some T):ay [C,.int p]=some T:=by
 simp [ay,runB,gk,av,h0,h1,ro,b,g]
theorem Hl (C T:D) (p:Int) (h:ay [C,.int p]=some T):aS [C,.int p]=some T:=by
 by_cases q:p=0
 ·subst q
  simp [-sSeq,-sIf,aC,aJ,aS,runB,iZ,av,h]
 ·have e:bo (.int p) (.int 0)=some (.bool false):=by simp [q]
  simp [-sSeq,-sIf,aC,aJ,aS,runB,iZ,av,h,e]
theorem Ed {n p:Nat} (hn:n<=6) (hp:p<2 ^ n) (rs:List Rw) (ho:pe n 0 rs) (hl:rs.length<=60):aS [nc n rs,.int p]=some (.list ((run n p rs).map e2)):=
 Hl _ _ p (Mh _ _ .none _ n p _ (at0 _ _) (AN _ _ _) (Ez rs (by omega) (CO rs 0 ho)) (Bb hn p) (yS hn (Nh hn) rs (c0 n p) ho (C3 hn hp) hl))
theorem LZ (C R:D) (p:Int) (h1:ax C (.int 1)=some R) (ro:dA [R]=some ("OddTurn":Str)):aU [C,.int p]=some ("OddTurn":Str):=by
 simp [aU,rP,fV,av,h1,ro]
theorem JS (C:D) (p:Int) (h:aU [C,.int p]=some ("OddTurn":Str)):cw [C,.int p]=some ("OddTurn":Str):=by
 by_cases q:p=0
 ·subst q
  simp [cw,rP,g9,av,h]
 ·simp [cw,rP,g9,av,h,q]
theorem Ea (C:D) (p:Int) (hx:cw [C,.int p]=some ("OddTurn":Str)):zG 3 hs_WaveError (sG (os (ad (oV 0) (ad (oV 1) (al))) aS)) (xE (GE (ad (oV 0) (ad (oV 1) (al))) cw)) (aM 2 (os (ad (o1 (oV 3) (nP ib)) (ad (o1 (oV 3) (nP eN)) (ad (o1 (oV 3) (nP jj)) (al)))) jw)) [.fz C,.fz (.int p),.fz (.list []),.un]=some (.nx,[.fz C,.fz (.int p),.fz (.list [.bool true,.bool true,.bool false]),.un]):=by
 have hh:hs_WaveError.contains ("OddTurn":Str)=true:=by decide +kernel
 have e1:(xE (GE (ad (oV 0) (ad (oV 1) (al))) cw)) [.fz C,.fz (.int p),.fz (.list []),.un]=some (("OddTurn":Str),[.fz C,.fz (.int p),.fz (.list []),.un]):=by simp [hx]
 unfold zG
 rw [e1]
 dsimp only
 rw [if_pos hh]
 have k1:nP ib (Li "OddTurn")=some (.bool true):=by rfl
 have k2:nP eN (Li "OddTurn")=some (.bool true):=by rfl
 have k3:nP jj (Li "OddTurn")=some (.bool false):=by rfl
 simp [k1,k2,k3]
theorem zI (C:D) (p:Int) (hx:cw [C,.int p]=some ("OddTurn":Str)):b5 [C,.int p]=some (.bool true):=by
 have ek:bo (.list [.bool true,.bool true,.bool false]) (.list [.bool true,.bool true,.bool false])=some (.bool true):=by rfl
 have ht:=Ea C p hx
 simp [-sSeq,-sIf,aC,aJ,b5,runB,iq,av,ht,ek]
section
variable (c n l M:Int)
theorem Gn (j:Int) (h5:c % 7=5) (hl:l<M) (hj:bX (.int (c / 7)) (.int n)=some (.int j)):aL [.int c,.int n,.int l,.int M]=some (.tuple [.str "look",.int j]):=by
 simp [-sSeq,-sIf,aC,aJ,aL,runB,cy,av,h5,hl,hj]
theorem Go (j m:Int) (h5:c % 7=6) (hl:0<l) (hj:bX (.int (c / 7)) (.int n)=some (.int j)) (hm:bX (.int (c / 42)) (.int l)=some (.int m)) (h2:¬ c / 21 % 2=1):aL [.int c,.int n,.int l,.int M]=some (.tuple [.str "where",.int m,.tuple [.str "flip",.int j]]):=by
 have e:bo (.int (c / 21 % 2)) (.int 1)=some (.bool false):=by simp [h2]
 simp [-sSeq,-sIf,aC,aJ,aL,runB,cy,av,h5,hl,hj,hm,e]
theorem Gm (j m:Int) (h5:c % 7=6) (hl:0<l) (hj:bX (.int (c / 7)) (.int n)=some (.int j)) (hm:bX (.int (c / 42)) (.int l)=some (.int m)) (h2:c / 21 % 2=1):aL [.int c,.int n,.int l,.int M]=some (.tuple [.str "where",.int m,.tuple [.str "turn",.int j,.int 4]]):=by
 simp [-sSeq,-sIf,aC,aJ,aL,runB,cy,av,h5,hl,hj,hm,h2]
theorem Jx (R:D) (h5:¬ (c % 7=5/\l<M)) (h6:¬ (c % 7=6/\0<l)) (h:bZ [.int (c / 7),.int n]=some R):aL [.int c,.int n,.int l,.int M]=some R:=by
 by_cases a:c % 7=5
 ·have b:¬ l<M:=fun z=>h5 ⟨a,z⟩
  simp [-sSeq,-sIf,aC,aJ,aL,runB,cy,av,a,b,h]
 ·have e5:bo (.int (c % 7)) (.int 5)=some (.bool false):=by simp [a]
  by_cases d:c % 7=6
  ·have b:¬ 0<l:=fun z=>h6 ⟨d,z⟩
   simp [-sSeq,-sIf,aC,aJ,aL,runB,cy,av,d,b,h]
  ·have e6:bo (.int (c % 7)) (.int 6)=some (.bool false):=by simp [d]
   simp [-sSeq,-sIf,aC,aJ,aL,runB,cy,av,e5,e6,h]
end
theorem LV (c:Int) (n:Nat) (hn:1<=n):∃ j:Nat,j<n/\bX (.int c) (.int n)=some (.int j):=by
 have h0:(0:Int)<n:=by omega
 have a1:=Int.emod_nonneg c (show (n:Int)≠0 by omega)
 have a2:=Int.emod_lt_of_pos c h0
 obtain ⟨j,hj⟩:∃ j:Nat,c % n=j:=⟨(c % n).toNat,by omega⟩
 have e:=jv (i:=c) h0
 rw [hj] at e a2
 exact ⟨j,by omega,e⟩
theorem Gk (c:Int) {n:Nat} (h1:1<=n) (l:Nat) {M:Nat} (hM:M<=6):∃ r:Rw,r.ok n l/\JO r/\aL [.int c,.int n,.int l,.int M]=some (rwD r):=by
 obtain ⟨j,hj,ej⟩:=LV (c / 7) n h1
 by_cases a:c % 7=5/\(l:Int)<M
 ·exact ⟨.look j,⟨hj,by omega⟩,trivial,Gn c n l M j a.1 a.2 ej⟩
 ·by_cases b:c % 7=6/\0<(l:Int)
  ·obtain ⟨m,hm,em⟩:=LV (c / 42) l (by omega)
   by_cases d:c / 21 % 2=1
   ·exact ⟨.wsign m j,⟨hm,hj⟩,trivial,Gm c n l M j m b.1 b.2 ej em d⟩
   ·exact ⟨.wflip m j,⟨hm,hj⟩,trivial,Go c n l M j m b.1 b.2 ej em d⟩
  ·obtain ⟨r,hr,ho,e⟩:=Ff (c / 7) n h1
   exact ⟨.pl r,hr,ho,Jx c n l M _ a b e⟩
theorem Gj (ds:List D) (R:D):iD (ds++[R]) (-1)=some R:=by
 have e:yP (ds.length+1) (-1)=some ds.length:=by
  unfold yP
  rw [if_neg (by omega)]
  simp
  omega
 unfold iD
 rw [List.length_append]
 show (yP (ds.length+1) (-1)).bind _=_
 rw [e]
 simp
theorem M3 (c w l l' M:Int) (b:Bool) (C R:D) (ds:List D) (s:Str) (hM:iD [PyData.int 6,.int 3,.int 2] (w-1)=some (.int M)) (hr:aL [.int c,.int w,.int l,.int M]=some R) (h0:ax R (.int 0)=some (.str s)) (h1:bo (.str s) (.str "look")=some (.bool b)) (hl':l+(if b=true then 1 else 0)=l') (hs:ds.length<sizeLine) :
  dL [.fz C,.fz (.int w),.ow ds,.fz (.int l),.fz (.int c)]=some (.nx,[.fz C,.fz (.int w),.ow (ds++[R]),.fz (.int l'),.fz (.int c)]):=by
 have la:=Gj ds R
 simp [-sSeq,-sIf,aC,aJ,dL,hM,hr,h0,h1,hl',hs,la]
theorem yN {w:Nat} (hw:1<=w) {M:Nat} (h6:M<=6) (hM:iD [PyData.int 6,.int 3,.int 2] ((w:Int)-1)=some (.int M)) (C:D):∀ (cs:List Int) (l:Nat) (ds:List D) (z4:Sl),ds.length+cs.length<=1000->∃ rs:List Rw,rs.length=cs.length/\pe w l rs/\∃ y3 y4,loop (gN 4) dL (cs.map .int) [.fz C,.fz (.int w),.ow ds,.fz (.int l),z4]=some (.nx,[.fz C,.fz (.int w),.ow (ds++rs.map rwD),y3,y4])
 | [],l,ds,z4,_=>⟨[],rfl,trivial,.fz (.int l),z4,by simp⟩
 | c::cs,l,ds,z4,hl=>by
  obtain ⟨r,hok,he,hr⟩:=Gk c hw l h6
  obtain ⟨s,h0,h1⟩:=yr r
  have hlen:ds.length<1000:=by simp only [List.length_cons] at hl; omega
  have st:=M3 c w l ((l+if r.isLook then 1 else 0:Nat):Int) M r.isLook C (rwD r) ds s hM hr h0 h1 (by cases r.isLook <;> simp) (by show _<16777216; omega)
  obtain ⟨rs,a1,a2,y3,y4,a4⟩:=yN hw h6 hM C cs (l+if r.isLook then 1 else 0) (ds++[rwD r]) (.fz (.int c)) (by simp only [List.length_append,List.length_cons,List.length_nil] at hl ⊢; omega)
  refine ⟨r::rs,by simp [a1],⟨⟨hok,he⟩,a2⟩,y3,y4,?_⟩
  rw [List.map_cons,bU (δ1:=[.fz C,.fz (.int w),.ow ds,.fz (.int l),.fz (.int c)]) (by simp) st,a4]
  simp
theorem Jr (C T:D) (w:Int) (L ds:List D) (y3 y4:Sl) (it:eQ C=some L) (tp:df [.list ds]=some T) (lp:loop (gN 4) dL L [.fz C,.fz (.int w),.ow [],.fz (.int 0),.un]=some (.nx,[.fz C,.fz (.int w),.ow ds,y3,y4])):b6 [C,.int w]=some (.tuple [.int w,T]):=by
 simp [-sSeq,-sIf,aC,aJ,b6,runB,iu,av,it,lp,tp,pi]
theorem F3 {w:Nat} (hw:1<=w) (h3:w<=3) (cs:List Int) (hl:cs.length<=1000):∃ rs:List Rw,rs.length=cs.length/\pe w 0 rs/\b6 [.list (cs.map .int),.int w]=some (nc w rs):=by
 obtain ⟨M,h6,hM⟩:∃ M:Nat,M<=6/\iD [PyData.int 6,.int 3,.int 2] ((w:Int)-1)=some (.int M):=by
  rcases (by omega:w=1\/w=2\/w=3) with rfl | rfl | rfl
  ·exact ⟨6,by decide,rfl⟩
  ·exact ⟨3,by decide,rfl⟩
  ·exact ⟨2,by decide,rfl⟩
 obtain ⟨rs,a1,a2,y3,y4,a4⟩:=yN hw h6 hM (.list (cs.map .int)) cs 0 [] .un (by simpa using hl)
 exact ⟨rs,a1,a2,Jr _ _ w _ _ y3 y4 rfl rfl a4⟩
theorem xW (i:Int):cu [.int i]=some (.bool true):=by simp [cu,runB,hV,av]
theorem Mf (z0 z1 z3 z4 z6:Sl) (X P U:D) (h1:ax P (.int 1)=some U) (h2:cZ [X,U]=some X) (h3:neD X X=some (.bool false)):cL [z0,z1,.fz X,z3,z4,.fz P,z6]=some (.nx,[z0,z1,.fz X,z3,z4,.fz P,z6]):=by
 simp [cL,h1,h2,h3]
theorem Me (z0 z1 z2 z3 z4 z5:Sl) (i:Int):cK [z0,z1,z2,z3,z4,z5,.fz (.int i)]=some (.nx,[z0,z1,z2,z3,z4,z5,.fz (.int i)]):=by
 simp [cK,xW]
theorem Md (ms L:List D) (T X:D) (h n:Int) (z5:Sl) (δ:Dv) (n0:neD (.tuple ms) (.tuple ms)=some (.bool false)) (n1:neD (.tuple [.int 1,.int 0,.int h]) (.tuple [.int 1,.int 0,.int h])=some (.bool false)) (ht:cj [T,.int n]=some (.bool true)) (it:eQ T=some L) (l1:loop (gN 5) cL L [.fz (.tuple [.tuple ms,T,.int h]),.fz (.tuple ms),.fz X,.fz (.tuple [.int 1,.int 0,.int h]),.fz (.int n),.un,.un]=some (.nx,[.fz (.tuple [.tuple ms,T,.int h]),.fz (.tuple ms),.fz X,.fz (.tuple [.int 1,.int 0,.int h]),.fz (.int n),z5,.un])) (l2:loop (gN 6) cK ms [.fz (.tuple [.tuple ms,T,.int h]),.fz (.tuple ms),.fz X,.fz (.tuple [.int 1,.int 0,.int h]),.fz (.int n),z5,.un]=some (.nx,δ)):bt [.tuple [.tuple ms,T,.int h],.tuple ms,X,.tuple [.int 1,.int 0,.int h],.int n]=some (.bool true):=by
 have w:=xW h
 have b0:=at0 (.tuple ms) [T,.int h]
 have b1:=AN (.tuple ms) T [.int h]
 have b2:=G8 (.tuple ms) T (.int h) []
 simp [-sSeq,-sIf,aC,aJ,bt,runB,e9,av,n0,n1,ht,it,l1,l2,w,b0,b1,b2]
theorem Bw (ms:List Nat):MA.Sh 1 (wD ms):=MA.Sh.tuple fun x hx=>by
 obtain ⟨m,_,rfl⟩:=List.mem_map.mp hx
 exact .int _ _
theorem MH (h:Int):MA.Sh 1 (.tuple [.int 1,.int 0,.int h]):=MA.Sh.tuple fun x hx=>by
 simp only [List.mem_cons,List.not_mem_nil,or_false] at hx
 rcases hx with rfl | rfl | rfl <;> exact .int _ _
theorem zt {n l t:Nat} (hn:n<=6) {c:Cb} (h:CI n l t c):bt [e2 c,wD c.ms,gF n c.f,.tuple [.int 1,.int 0,.int (c.h:Nat)],.int n]=some (.bool true):=by
 obtain ⟨δ1,l1,z5,rfl⟩:=uw (g:=gN 5) (b:=cL) (fun δ=>∃ z,δ = [.fz (e2 c),.fz (wD c.ms),.fz (gF n c.f),.fz (.tuple [.int 1,.int 0,.int (c.h:Nat)]),.fz (.int n),z,.un]) (c.T.map qx) (fun d hd δ hδ=>by
  obtain ⟨z,rfl⟩:=hδ
  obtain ⟨q,hq,rfl⟩:=List.mem_map.mp hd
  have w:=He hn c.f q.2 (h.be.tb.good.ok q hq).2.1
  rw [Bn (h.be.st q hq)] at w
  exact ⟨_,rfl,_,Mf _ _ _ _ _ _ _ _ (EF q) w (pU (Kc n c.f) (by decide)),_,rfl⟩) [.fz (e2 c),.fz (wD c.ms),.fz (gF n c.f),.fz (.tuple [.int 1,.int 0,.int (c.h:Nat)]),.fz (.int n),.un,.un] ⟨_,rfl⟩
 obtain ⟨δ2,l2,_⟩:=uw (g:=gN 6) (b:=cK) (fun δ=>∃ z,δ = [.fz (e2 c),.fz (wD c.ms),.fz (gF n c.f),.fz (.tuple [.int 1,.int 0,.int (c.h:Nat)]),.fz (.int n),z5,z]) (c.ms.map fun m=>PyData.int (m:Nat)) (fun d hd δ hδ=>by
  obtain ⟨z,rfl⟩:=hδ
  obtain ⟨q,hq,rfl⟩:=List.mem_map.mp hd
  exact ⟨_,rfl,_,Me _ _ _ _ _ _ _,_,rfl⟩) [.fz (e2 c),.fz (wD c.ms),.fz (gF n c.f),.fz (.tuple [.int 1,.int 0,.int (c.h:Nat)]),.fz (.int n),z5,.un] ⟨_,rfl⟩
 exact Md _ _ _ _ _ n z5 δ2 (pU (Bw c.ms) (by decide)) (pU (MH _) (by decide)) (xn hn h.be.tb.good) rfl l1 l2
theorem Lp (ns:List Int) (x:Nat):∃ cs:List Int,cs.length<=x/\Ev (.list (ns.map .int)) (some 2) (some (2+(x:Int)))=some (.list (cs.map .int)):=by
 refine ⟨(ns.drop (HT.sIx ns.length 0 (some 2))).take (HT.sIx ns.length ns.length (some (2+(x:Int)))-HT.sIx ns.length 0 (some 2)),?_,?_⟩
 ·rw [List.length_take,List.length_drop]
  have e1:HT.sIx ns.length 0 (some 2)=min 2 ns.length:=rfl
  have e2:HT.sIx ns.length ns.length (some (2+(x:Int)))<=2+x:=by
   unfold HT.sIx
   simp only
   split <;> omega
  omega
 ·show some (PyData.list (pj _ _ _))=_
  unfold pj
  rw [List.length_map,<- List.map_drop,<- List.map_take]
noncomputable def HE:Sf:=aM 1 (o2 (oC (.int 1)) (o2 (VL.os (ad (oV 0) (ad (oC (.int 0)) (al))) aO) (oC (.int 3)) bX) cf)
noncomputable def HD:Sf:=aM 2 (o2 (VL.os (ad (oV 0) (ad (oC (.int 1)) (al))) aO) (o2 (oC (.int 1)) (oV 1) jm) bX)
noncomputable def Er:Sf:=aM 3 (VL.os (ad (E2 (oV 0) (oP (oC (.int 2))) (oP (o2 (oC (.int 62)) (o2 (oC (.int 40)) (VL.os (ad (o2 (oV 1) (oC (.int 3)) bo) (al)) An) g6) dW))) (ad (oV 1) (al))) b6)
noncomputable def HC:Sf:=aM 4 (VL.os (ad (oV 3) (ad (oV 2) (al))) cF)
noncomputable def HB:Sf:=aM 5 (VL.os (ad (oV 3) (ad (oV 2) (al))) cq)
noncomputable def HA:Sf:=ou 6 (yH (VL.os (ad (oV 3) (ad (oV 2) (al))) aS))
noncomputable def Hz:Sf:=sIf (oA 6 (pQ (i9 (ob (o1 (oV 6) (gI "list")))) (pQ (ob (o2 (VL.os (ad (oV 6) (al)) ck) (VL.os (ad (oV 4) (al)) ck) neD)) (ob (o2 (VL.os (ad (oV 5) (al)) ck) (VL.os (ad (oV 4) (al)) ck) neD))))) (aH (oC (.bool false))) (gz)
noncomputable def Hy:Sf:=j3 (oL (ad (VL.os (ad (oV 4) (al)) ck) (al)) bQ) (gN 7) (nO)
noncomputable def Hx:Sf:=wU 6 (oC .none)
noncomputable def Bs:Sf:=sIf (oA 6 (ob (o2 (VL.os (ad (oV 3) (ad (oV 2) (al))) aS) (E2 (oV 6) (KB) (oP (o1 (oC (.int 1)) negD))) neD))) (aH (oC (.bool false))) (gz)
noncomputable def Br:Sf:=aM 8 (VL.os (ad (oC (.int 59)) (ad (o2 (o2 (VL.os (ad (oV 0) (ad (oC (.int 1)) (al))) aO) (oC (.int 8)) gJ) (o2 (VL.os (ad (o2 (oV 3) (oC (.int 1)) ax) (al)) ck) (oC (.int 1)) cf) bX) (al))) Ah)
noncomputable def Bq:Sf:=aM 9 (VL.os (ad (oC (.str "turn")) (ad (o2 (oV 8) (oV 1) bX) (ad (o2 (oC (.int 1)) (o2 (oC (.int 2)) (o2 (oV 8) (oC (.int 4)) bX) g6) cf) (al)))) aZ)
noncomputable def Bp:Sf:=aM 10 (o2 (o2 (E2 (o2 (oV 3) (oC (.int 1)) ax) (KB) (oP (oV 8))) (VL.os (ad (oV 9) (al)) aZ) cf) (E2 (o2 (oV 3) (oC (.int 1)) ax) (oP (oV 8)) (oP (oC (.int 59)))) cf)
noncomputable def Bo:Sf:=aH (VL.os (ad (VL.os (ad (oV 1) (ad (oV 10) (al))) aZ) (ad (oV 2) (al))) b5)
theorem IT:tI=sSeq HE (sSeq HD (sSeq Er (sSeq HC (sSeq HB (sSeq HA (sSeq Hz (sSeq Hy (sSeq Hx (sSeq Bs (sSeq Br (sSeq Bq (sSeq Bp (Bo))))))))))))):=rfl
theorem ge {s t:Sf} {δ δ':Dv} (h:s δ = some (.nx,δ')):sSeq s t δ = t δ':=by simp [h]
theorem a1 (S:D) (c w:Int) (h:aO [S,.int 0]=some (.int c)) (hw:1+c % 3=w):HE [.fz S,.un,.un,.un,.un,.un,.un,.un,.un,.un,.un]=some (.nx,[.fz S,.fz (.int w),.un,.un,.un,.un,.un,.un,.un,.un,.un]):=by
 subst hw
 simp [HE,h]
theorem a2 (S:D) (c w M p:Int) (h:aO [S,.int 1]=some (.int c)) (sh:jm (.int 1) (.int w)=some (.int M)) (hp:bX (.int c) (.int M)=some (.int p)):HD [.fz S,.fz (.int w),.un,.un,.un,.un,.un,.un,.un,.un,.un]=some (.nx,[.fz S,.fz (.int w),.fz (.int p),.un,.un,.un,.un,.un,.un,.un,.un]):=by
 simp [HD,h,sh,hp]
theorem a3 (S B C:D) (z2:Sl) (w x:Int) (hx:(if w=3 then 22 else 62)=x) (sl:Ev S (some 2) (some x)=some B) (h:b6 [B,.int w]=some C):Er [.fz S,.fz (.int w),z2,.un,.un,.un,.un,.un,.un,.un,.un]=some (.nx,[.fz S,.fz (.int w),z2,.fz C,.un,.un,.un,.un,.un,.un,.un]):=by
 have i0:IntMulOk 40 0:=.of_left (by decide +kernel)
 have i1:IntMulOk 40 1:=.of_left (by decide +kernel)
 by_cases q:w=3
 ·rw [if_pos q] at hx
  subst hx
  have e3:bo (.int w) (.int 3)=some (.bool true):=by rw [q]; rfl
  simp [Er,e3,i1,sl,h]
 ·rw [if_neg q] at hx
  subst hx
  have e3:bo (.int w) (.int 3)=some (.bool false):=by simp [q]
  simp [Er,e3,i0,sl,h]
theorem a4 (z0 z1:Sl) (C T:D) (p:Int) (h:cF [C,.int p]=some T):HC [z0,z1,.fz (.int p),.fz C,.un,.un,.un,.un,.un,.un,.un]=some (.nx,[z0,z1,.fz (.int p),.fz C,.fz T,.un,.un,.un,.un,.un,.un]):=by
 simp [HC,h]
theorem a5 (z0 z1 z4:Sl) (C T:D) (p:Int) (h:cq [C,.int p]=some T):HB [z0,z1,.fz (.int p),.fz C,z4,.un,.un,.un,.un,.un,.un]=some (.nx,[z0,z1,.fz (.int p),.fz C,z4,.fz T,.un,.un,.un,.un,.un]):=by
 simp [HB,h]
theorem a6 (z0 z1 z4 z5:Sl) (C:D) (T:List D) (p:Int) (h:aS [C,.int p]=some (.list T)):HA [z0,z1,.fz (.int p),.fz C,z4,z5,.un,.un,.un,.un,.un]=some (.nx,[z0,z1,.fz (.int p),.fz C,z4,z5,.ow T,.un,.un,.un,.un]):=by
 have l:vX (.list T)=some T:=rfl
 simp [HA,h,yH,l]
theorem a7 (d0 d1 d2 d3:D) (A B T:List D) (m:Int) (ha:ck [.list A]=some (.int m)) (hb:ck [.list B]=some (.int m)) (ht:ck [.list T]=some (.int m)):Hz [.fz d0,.fz d1,.fz d2,.fz d3,.fz (.list A),.fz (.list B),.ow T,.un,.un,.un,.un]=some (.nx,[.fz d0,.fz d1,.fz d2,.fz d3,.fz (.list A),.fz (.list B),.ow T,.un,.un,.un,.un]):=by
 have ne:neD (.int m) (.int m)=some (.bool false):=by simp
 simp [-sSeq,-sIf,aC,aJ,Hz,oA,pi,ha,hb,ht,ne]
theorem a8 (z0 z1 z2 z3 z5 z6:Sl) (A L:List D) (m:Int) (δ:Dv) (ha:ck [.list A]=some (.int m)) (rg:bQ [.int m]=some L) (lp:loop (gN 7) nO L [z0,z1,z2,z3,.fz (.list A),z5,z6,.un,.un,.un,.un]=some (.nx,δ)):Hy [z0,z1,z2,z3,.fz (.list A),z5,z6,.un,.un,.un,.un]=some (.nx,δ):=by
 simp [Hy,ha,rg,lp]
theorem a9 (z0 z1 z2 z3 z4 z5 z7:Sl) (T:List D) (hs:T.length<sizeLine):Hx [z0,z1,z2,z3,z4,z5,.ow T,z7,.un,.un,.un]=some (.nx,[z0,z1,z2,z3,z4,z5,.ow (T++[.none]),z7,.un,.un,.un]):=by
 simp [Hx,hs]
theorem NF (d0 d1 C d4 d5:D) (p:Int) (z7:Sl) (T:List D) (h7:v7 z7=false) (h:aS [C,.int p]=some (.list T)) (sl:Ev (.list (T++[.none])) none (some (-1))=some (.list T)) (ne:neD (.list T) (.list T)=some (.bool false)):Bs [.fz d0,.fz d1,.fz (.int p),.fz C,.fz d4,.fz d5,.ow (T++[.none]),z7,.un,.un,.un]=some (.nx,[.fz d0,.fz d1,.fz (.int p),.fz C,.fz d4,.fz d5,.ow (T++[.none]),z7,.un,.un,.un]):=by
 simp [-sSeq,-sIf,aC,aJ,Bs,oA,pi,h7,h,sl,ne]
theorem ND (S C R:D) (z1 z2 z4 z5 z6 z7:Sl) (c m v:Int) (h:aO [S,.int 1]=some (.int c)) (c1:ax C (.int 1)=some R) (ln:ck [R]=some (.int m)) (hv:bX (.int (c / 8)) (.int (m+1))=some (.int v)):∃ u:Int,Br [.fz S,z1,z2,.fz C,z4,z5,z6,z7,.un,.un,.un]=some (.nx,[.fz S,z1,z2,.fz C,z4,z5,z6,z7,.fz (.int u),.un,.un]):=by
 exact ⟨_,by simp [Br,h,c1,ln,hv]; rfl⟩
theorem NC (z0 z2 z3 z4 z5 z6 z7:Sl) (w u j:Int) (hj:bX (.int u) (.int w)=some (.int j)):Bq [z0,.fz (.int w),z2,z3,z4,z5,z6,z7,.fz (.int u),.un,.un]=some (.nx,[z0,.fz (.int w),z2,z3,z4,z5,z6,z7,.fz (.int u),.fz (.tuple [.str "turn",.int j,.int (1+2*(u % 4))]),.un]):=by
 have i:IntMulOk 2 (u % 4):=.of_left (by decide +kernel)
 simp [Bq,hj,i]
theorem NB (z0 z1 z2 z4 z5 z6 z7:Sl) (C R O:D) (X Y:List D) (u:Int) (c1:ax C (.int 1)=some R) (s1:Ev R none (some u)=some (.tuple X)) (s2:Ev R (some u) (some 59)=some (.tuple Y)) (l1:X.length<=1000) (l2:Y.length<=1000):Bp [z0,z1,z2,.fz C,z4,z5,z6,z7,.fz (.int u),.fz O,.un]=some (.nx,[z0,z1,z2,.fz C,z4,z5,z6,z7,.fz (.int u),.fz O,.fz (.tuple (X++[O]++Y))]):=by
 have e1:cf (.tuple X) (.tuple [O])=some (.tuple (X++[O])):=iw (by simp; omega)
 have e2:cf (.tuple (X++[O])) (.tuple Y)=some (.tuple (X++[O]++Y)):=iw (by simp; omega)
 simp [-List.append_assoc,Bp,c1,s1,s2,e1,e2]
theorem a14 (z0 z3 z4 z5 z6 z7 z8 z9:Sl) (R:D) (w p:Int) (h:b5 [.tuple [.int w,R],.int p]=some (.bool true)):Bo [z0,.fz (.int w),.fz (.int p),z3,z4,z5,z6,z7,z8,z9,.fz R]=some (.rt (.bool true),[z0,.fz (.int w),.fz (.int p),z3,z4,z5,z6,z7,z8,z9,.fz R]):=by
 simp [Bo,h]
theorem KP (z0 z2 z3:Sl) (A B T:List D) (w k:Int) (a b t a0 a1 b1:D) (ha:iD A k=some a) (hb:iD B k=some b) (ht:iD T k=some t) (ha0:ax a (.int 0)=some a0) (ha1:ax a (.int 1)=some a1) (hb1:ax b (.int 1)=some b1) (h:bt [t,a0,a1,b1,.int w]=some (.bool true)):nO [z0,.fz (.int w),z2,z3,.fz (.list A),.fz (.list B),.ow T,.fz (.int k),.un,.un,.un]=some (.nx,[z0,.fz (.int w),z2,z3,.fz (.list A),.fz (.list B),.ow T,.fz (.int k),.un,.un,.un]):=by
 simp [nO,ha,hb,ht,ha0,ha1,hb1,h]
theorem yX (rs:List Rw) (lo hi:Option Int):∃ ys:List Rw,ys.length<=rs.length/\Ev (.tuple (rs.map rwD)) lo hi=some (.tuple (ys.map rwD)):=by
 refine ⟨(rs.drop (HT.sIx rs.length 0 lo)).take (HT.sIx rs.length rs.length hi-HT.sIx rs.length 0 lo),?_,?_⟩
 ·rw [List.length_take,List.length_drop]; omega
 ·show some (PyData.tuple (pj _ _ _))=_
  unfold pj
  rw [List.length_map,<- List.map_drop,<- List.map_take]
theorem Eu (T:List D) (x:D):Ev (.list (T++[x])) none (some (-1))=some (.list T):=by
 show some (PyData.list (pj (T++[x]) none (some (-1))))=_
 unfold pj
 have e:HT.sIx (T++[x]).length (T++[x]).length (some (-1))=T.length:=by
  rw [List.length_append]
  show (if (-1:Int)<0 then ((-1:Int)+((T.length+1:Nat):Int)).toNat else min (-1:Int).toNat (T.length+1))=T.length
  rw [if_pos (by decide)]
  omega
 have e0:HT.sIx (T++[x]).length 0 none=0:=rfl
 rw [e,e0]
 simp
theorem law_true (ns:List Int) (hl:ns.length<=63):CG [.list (ns.map .int)]=some (.bool true):=by
 obtain ⟨c,hc⟩:=y0 ns 0 (by decide)
 obtain ⟨d,hd⟩:=y0 ns 1 (by decide)
 obtain ⟨n,hw⟩:∃ w:Nat,1+c % 3=(w:Int):=⟨(1+c % 3).toNat,by omega⟩
 have n1:1<=n:=by omega
 have n3:n<=3:=by omega
 have n6:n<=6:=by omega
 obtain ⟨p,hp,_,em⟩:=Lk d (2 ^ n) (Nat.pow_pos (by decide))
 obtain ⟨x,hx,x60⟩:∃ x:Nat,(if (n:Int)=3 then (22:Int) else 62)=2+(x:Int)/\x<=60:=by
  by_cases q:(n:Int)=3
  ·exact ⟨20,by rw [if_pos q]; rfl,by decide⟩
  ·exact ⟨60,by rw [if_neg q]; rfl,by decide⟩
 obtain ⟨cs,hcl,hsl⟩:=Lp ns x
 obtain ⟨rs,rl,ho,hC⟩:=F3 n1 n3 cs (by omega)
 have r60:rs.length<=60:=by omega
 obtain ⟨cl,ln⟩:=BB n6 hp rs ho r60
 have B:=oH n6 hp rs ho r60
 have M:=zC n6 hp rs ho r60
 have T:=Ed n6 hp rs ho r60
 obtain ⟨R,hR⟩:∃ R,run n p rs=R:=⟨_,rfl⟩
 rw [hR] at cl ln B M T
 obtain ⟨m,hm⟩:∃ m:Int,(R.length:Int)=m:=⟨_,rfl⟩
 have lnA:∀ f:Cb->D,ck [.list (R.map f)]=some (.int m):=fun f=>by rw [<- hm]; show some (PyData.int _)=_; rw [List.length_map]
 have rg:bQ [.int m]=some (oX 0 R.length):=by rw [<- hm]; exact lh (by omega) (by omega)
 obtain ⟨δ,lp,z7,i7,rfl⟩:=km (b:=nO) (k:=7) (fun _ δ=>∃ z,v7 z=false /\ δ = [.fz (.list (ns.map .int)),.fz (.int n),.fz (.int p),.fz (nc n rs),.fz (.list (R.map (e1 n))),.fz (.list (R.map GH)),.ow (R.map e2),z,.un,.un,.un]) R.length (by
  rintro i hi δ ⟨z,_,rfl⟩
  have g:∀ f:Cb->D,iD (R.map f) (i:Int)=some (f R[i]):=fun f=>eK (j:=i) rfl (by simp [hi])
  exact ⟨_,KP _ _ _ _ _ _ n i _ _ _ _ _ _ (g (e1 n)) (g GH) (g e2) rfl rfl rfl (zt n6 (cl.ci _ (List.getElem_mem hi))),_,rfl,rfl⟩) [.fz (.list (ns.map .int)),.fz (.int n),.fz (.int p),.fz (nc n rs),.fz (.list (R.map (e1 n))),.fz (.list (R.map GH)),.ow (R.map e2),.un,.un,.un,.un] ⟨_,rfl,rfl⟩
 have NE:neD (.list (R.map e2)) (.list (R.map e2))=some (.bool false):=pU (k:=5) (MA.Sh.list fun x hx=>by
  obtain ⟨q,_,rfl⟩:=List.mem_map.mp hx
  exact MA.Sh.tuple (k:=3) fun y hy=>by
   simp only [List.mem_cons,List.not_mem_nil,or_false] at hy
   rcases hy with rfl | rfl | rfl
   ·exact ⟨(Bw q.ms).1,Nat.le_trans (Bw q.ms).2 (by decide)⟩
   ·exact Hr q.T
   ·exact .int _ _) (by decide)
 obtain ⟨v,_,hv⟩:=LV (d / 8) (rs.length+1) (by omega)
 obtain ⟨u,A11⟩:=ND (.list (ns.map .int)) (nc n rs) _ (.fz (.int n)) (.fz (.int p)) (.fz (.list (R.map (e1 n)))) (.fz (.list (R.map GH))) (.ow (R.map e2++[.none])) z7 d (rs.length:Int) v hd (AN _ _ _) (by show some (PyData.int _)=_; rw [List.length_map]) (by push_cast at hv; exact hv)
 obtain ⟨j,_,hj⟩:=LV u n n1
 obtain ⟨e,he⟩:∃ e:Nat,1+2*(u % 4)=(e:Int):=⟨(1+2*(u % 4)).toNat,by omega⟩
 have eo:e % 2=1:=by omega
 obtain ⟨X,lX,sX⟩:=yX rs none (some u)
 obtain ⟨Y,lY,sY⟩:=yX rs (some u) (some 59)
 have rf:b5 [.tuple [.int n,.tuple (X.map rwD++[.tuple [.str "turn",.int j,.int (1+2*(u % 4))]]++Y.map rwD)],.int p]=some (.bool true):=by
  rw [he]
  have E:X.map rwD++[PyData.tuple [.str "turn",.int j,.int e]]++Y.map rwD=(X++[Rw.pl (.turn j e)]++Y).map rwD:=by rw [List.map_append,List.map_append]; rfl
  rw [E]
  exact zI _ p (JS _ p (LZ _ _ p (AN _ _ _) (Ey _ (by simp; omega) ⟨Rw.pl (.turn j e),by simp,by show (e % 2==1)=true; rw [eo]; rfl⟩)))
 show runB Dj 1 tI [.list (ns.map .int)]=_
 have fin:∃ δ,tI [.fz (.list (ns.map .int)),.un,.un,.un,.un,.un,.un,.un,.un,.un,.un]=some (.rt (.bool true),δ):=by
  refine ⟨?_,(congrFun IT _).trans ?_⟩
  rotate_left
  refine (ge (a1 _ _ _ hc hw)).trans ?_
  refine (ge (a2 _ _ _ _ _ hd (HG n (by omega)) em)).trans ?_
  refine (ge (a3 _ _ _ _ _ _ hx hsl hC)).trans ?_
  refine (ge (a4 _ _ _ _ _ B)).trans ?_
  refine (ge (a5 _ _ _ _ _ _ M)).trans ?_
  refine (ge (a6 _ _ _ _ _ _ _ T)).trans ?_
  refine (ge (a7 _ _ _ _ _ _ _ m (lnA _) (lnA _) (lnA _))).trans ?_
  refine (ge (a8 _ _ _ _ _ _ _ _ m _ (lnA _) rg lp)).trans ?_
  refine (ge (a9 _ _ _ _ _ _ _ _ (by rw [List.length_map]; show _<16777216; omega))).trans ?_
  refine (ge (NF _ _ _ _ _ _ _ _ i7 T (Eu _ _) NE)).trans ?_
  refine (ge A11).trans ?_
  refine (ge (NC _ _ _ _ _ _ _ _ _ _ hj)).trans ?_
  refine (ge (NB _ _ _ _ _ _ _ _ _ _ _ _ _ (show ax (nc n rs) (.int 1)=some (.tuple (rs.map rwD)) from AN _ _ _) sX sY (by rw [List.length_map]; omega) (by rw [List.length_map]; omega))).trans ?_
  exact a14 _ _ _ _ _ _ _ _ _ _ _ rf
 obtain ⟨δ,fin⟩:=fin
 unfold runB
 rw [if_pos (show [PyData.list (ns.map .int)].length=1 from rfl)]
 show (tI [.fz (.list (ns.map .int)),.un,.un,.un,.un,.un,.un,.un,.un,.un,.un]).bind _=_
 rw [fin]; rfl
end GN
namespace GN
open PySem PySem.Spec PyProof.Rows L2 VL
structure Txt (mg:Str->Option Value):Prop where
 min:mg "min" = none
 max:mg "max" = none
 tuple:mg "tuple" = none
 range:mg "range" = none
 len:mg "len" = none
 all:mg "all" = none
 any:mg "any" = none
 isinstance:mg "isinstance" = none
 int:mg "int" = none
 bool:mg "bool" = none
 ValueError:mg "ValueError" = none
 list:mg "list" = none
section
variable {P:Program} {w:World} {K:PySem.W.Frag} {mg:Str->Option Value} {base:Heap}
theorem qq:FnScope lO ["joined","most"] (ah gm):=⟨rfl,rfl,rfl,by decide +kernel,rfl,by decide +kernel,by decide +kernel⟩
theorem qB {f:Addr} {fd:FuncData} {dV:Value} (F:FunV K "twos_shared" "twos_shared" gm f fd dV) (T:Txt mg):FnOk P w K mg base cN 1 f fd ["joined","most"] (dk K bI):=
 bO (k:=0) (b:=gw) F qq fun cdv A outer s H E hr=>(aj (bb (aD (cG hr.units) (aa 0) ae (az _)) (ap (aw (aa 1))) aP) (ap (aw (aQ (G3 rfl) rfl T.min (by decide +kernel) (ac (aa 1) (ac (ak dz (uK (ak eT (aa 0) (kq kw (aa 0)))) ae) af))))))
theorem wQ:FnScope tM ["a","b","c","d"] (ah lf):=⟨rfl,rfl,rfl,by decide +kernel,rfl,by decide +kernel,by decide +kernel⟩
theorem w9 {f:Addr} {fd:FuncData} {dV:Value} (F:FunV K "by_root" "by_root" lf f fd dV) (T:Txt mg):FnOk P w K mg base cN 1 f fd ["a","b","c","d"] (dk K eE):=
 bO (k:=0) (b:=oh) F wQ fun cdv A outer s H E hr=>(ap (aw (aE (ac (ak dz (aa 1) (aa 3)) (ac (ak cx (aa 0) (aa 2)) (ac (ak cx (aa 1) (aa 3)) (ac (ak dz (aa 2) (aa 0)) af)))))))
theorem sc_number:FnScope rG ["a","b","c","d","k"] (ah jo):=⟨rfl,rfl,rfl,by decide +kernel,rfl,by decide +kernel,by decide +kernel⟩
theorem zW {f:Addr} {fd:FuncData} {dV:Value} (F:FunV K "number" "number" jo f fd dV) (T:Txt mg) (C_twos_shared:Cal P w K mg base "twos_shared" 1 bI []) (C_by_root:Cal P w K mg base "by_root" 1 eE []):FnOk P w K mg base cN 2 f fd ["a","b","c","d","k"] (dk K fT):=
 bO (k:=1) (b:=ni) F sc_number fun cdv A outer s H E hr=>(aj (aA 5 sc_number.nd (aq C_twos_shared (hr.mono (by decide)) rfl (ac (ak uP (ak uP (ak uP (aa 0) (aa 1)) (aa 2)) (aa 3)) (ac (ak gE (aa 4) ae) af)))) (aj (aA 0 sc_number.nd (ak oF (aa 0) (aa 5))) (aj (aA 1 sc_number.nd (ak oF (aa 1) (aa 5))) (aj (aA 2 sc_number.nd (ak oF (aa 2) (aa 5))) (aj (aA 3 sc_number.nd (ak oF (aa 3) (aa 5))) (aj (aA 4 sc_number.nd (ak dz (aa 4) (ak dF ae (aa 5)))) (aj (bb (WV.tv (ia (aD (cG hr.units) (aa 4) ae (az _)) (ia (aD (cG hr.units) (ak cC (ak dz (aa 0) (aa 2)) ae) ae (az _)) (hZ (aD (cG hr.units) (ak cC (ak dz (aa 1) (aa 3)) ae) ae (az _)))))) (ap (aw (aE (ac (aa 0) (ac (aa 1) (ac (aa 2) (ac (aa 3) (ac (aa 4) af)))))))) aP) (aj (aA 6 sc_number.nd (aq C_by_root (hr.mono (by decide)) rfl (ac (aa 0) (ac (aa 1) (ac (aa 2) (ac (aa 3) af)))))) (ap (aw (aE (ac (ak gE (ai ar (aa 6) ae (fun _ _=>rfl)) ae) (ac (ak gE (ai ar (aa 6) ae (fun _ _=>rfl)) ae) (ac (ak gE (ai ar (aa 6) ae (fun _ _=>rfl)) ae) (ac (ak gE (ai ar (aa 6) ae (fun _ _=>rfl)) ae) (ac (ak dz (aa 4) ae) af))))))))))))))))
theorem sc_parts_over_ring:FnScope i5 ["x","k"] (ah dP):=⟨rfl,rfl,rfl,by decide +kernel,rfl,by decide +kernel,by decide +kernel⟩
theorem mi {f:Addr} {fd:FuncData} {dV:Value} (F:FunV K "parts_over" "parts_over" dP f fd dV) (T:Txt mg) (C_by_root:Cal P w K mg base "by_root" 1 eE []):FnOk P w K mg base cN 2 f fd ["x","k"] (dk K bF):=
 bO (k:=1) (b:=dR) F sc_parts_over_ring fun cdv A outer s H E hr=>(aj (aA 2 sc_parts_over_ring.nd (ak dz (aa 1) (ai ar (aa 0) ae (fun _ _=>rfl)))) (aj (aA 3 sc_parts_over_ring.nd (ak gE (aa 2) ae)) (aj (aA 4 sc_parts_over_ring.nd (ak ku (ai ar (aa 0) ae (fun _ _=>rfl)) (aa 3))) (aj (aA 5 sc_parts_over_ring.nd (ak ku (ai ar (aa 0) ae (fun _ _=>rfl)) (aa 3))) (aj (aA 6 sc_parts_over_ring.nd (ak ku (ai ar (aa 0) ae (fun _ _=>rfl)) (aa 3))) (aj (aA 7 sc_parts_over_ring.nd (ak ku (ai ar (aa 0) ae (fun _ _=>rfl)) (aa 3))) (aj (bb (aD (cG hr.units) (ak cC (aa 2) ae) ae (az _)) (ap (aw (aq C_by_root (hr.mono (by decide)) rfl (ac (aa 4) (ac (aa 5) (ac (aa 6) (ac (aa 7) af))))))) aP) (ap (aw (aE (ac (aa 4) (ac (aa 5) (ac (aa 6) (ac (aa 7) af))))))))))))))
theorem sc_plus:FnScope Di ["x","y"] (ah t7):=⟨rfl,rfl,rfl,by decide +kernel,rfl,by decide +kernel,by decide +kernel⟩
theorem EW {f:Addr} {fd:FuncData} {dV:Value} (F:FunV K "plus" "plus" t7 f fd dV) (T:Txt mg) (C_parts_over_ring:Cal P w K mg base "parts_over_ring" 2 bF []) (C_number:Cal P w K mg base "number" 2 fT []):FnOk P w K mg base cN 3 f fd ["x","y"] (dk K ja):=
 bO (k:=2) (b:=xM) F sc_plus fun cdv A outer s H E hr=>(aj (aA 2 sc_plus.nd (aQ (G4 rfl) rfl T.max (by decide +kernel) (ac (ai ar (aa 0) ae (fun _ _=>rfl)) (ac (ai ar (aa 1) ae (fun _ _=>rfl)) af)))) (aj (aA 3 sc_plus.nd (aq C_parts_over_ring (hr.mono (by decide)) rfl (ac (aa 0) (ac (aa 2) af)))) (aj (aA 4 sc_plus.nd (aq C_parts_over_ring (hr.mono (by decide)) rfl (ac (aa 1) (ac (aa 2) af)))) (ap (aw (aq C_number (hr.mono (by decide)) rfl (ac (ak cx (ai ar (aa 3) ae (fun _ _=>rfl)) (ai ar (aa 4) ae (fun _ _=>rfl))) (ac (ak cx (ai ar (aa 3) ae (fun _ _=>rfl)) (ai ar (aa 4) ae (fun _ _=>rfl))) (ac (ak cx (ai ar (aa 3) ae (fun _ _=>rfl)) (ai ar (aa 4) ae (fun _ _=>rfl))) (ac (ak cx (ai ar (aa 3) ae (fun _ _=>rfl)) (ai ar (aa 4) ae (fun _ _=>rfl))) (ac (aa 2) af)))))))))))
theorem wS:FnScope tN ["x"] (ah lg):=⟨rfl,rfl,rfl,by decide +kernel,rfl,by decide +kernel,by decide +kernel⟩
theorem xb {f:Addr} {fd:FuncData} {dV:Value} (F:FunV K "against" "against" lg f fd dV) (T:Txt mg):FnOk P w K mg base cN 1 f fd ["x"] (dk K fD):=
 bO (k:=0) (b:=oj) F wS fun cdv A outer s H E hr=>(ap (aw (aE (ac (kq kw (ai ar (aa 0) ae (fun _ _=>rfl))) (ac (kq kw (ai ar (aa 0) ae (fun _ _=>rfl))) (ac (kq kw (ai ar (aa 0) ae (fun _ _=>rfl))) (ac (kq kw (ai ar (aa 0) ae (fun _ _=>rfl))) (ac (ai ar (aa 0) ae (fun _ _=>rfl)) af))))))))
theorem sc_turned:FnScope wA ["x","e"] (ah mO):=⟨rfl,rfl,rfl,by decide +kernel,rfl,by decide +kernel,by decide +kernel⟩
theorem zT {f:Addr} {fd:FuncData} {dV:Value} (F:FunV K "turned" "turned" mO f fd dV) (T:Txt mg):FnOk P w K mg base cN 1 f fd ["x","e"] (dk K da):=
 bO (k:=0) (b:=rj) F sc_turned fun cdv A outer s H E hr=>(aj (aA 2 sc_turned.nd (aE (ac (ai ar (aa 0) ae (fun _ _=>rfl)) (ac (ai ar (aa 0) ae (fun _ _=>rfl)) (ac (ai ar (aa 0) ae (fun _ _=>rfl)) (ac (ai ar (aa 0) ae (fun _ _=>rfl)) (ac (kq kw (ai ar (aa 0) ae (fun _ _=>rfl))) (ac (kq kw (ai ar (aa 0) ae (fun _ _=>rfl))) (ac (kq kw (ai ar (aa 0) ae (fun _ _=>rfl))) (ac (kq kw (ai ar (aa 0) ae (fun _ _=>rfl))) af)))))))))) (ap (aw (aE (ac (ai ar (aa 2) (ak cC (ak dz ae (aa 1)) ae) (fun _ _=>rfl)) (ac (ai ar (aa 2) (ak cC (ak dz ae (aa 1)) ae) (fun _ _=>rfl)) (ac (ai ar (aa 2) (ak cC (ak dz ae (aa 1)) ae) (fun _ _=>rfl)) (ac (ai ar (aa 2) (ak cC (ak dz ae (aa 1)) ae) (fun _ _=>rfl)) (ac (ai ar (aa 0) ae (fun _ _=>rfl)) af)))))))))
theorem zF:FnScope wB ["x"] (ah mQ):=⟨rfl,rfl,rfl,by decide +kernel,rfl,by decide +kernel,by decide +kernel⟩
theorem zX {f:Addr} {fd:FuncData} {dV:Value} (F:FunV K "halved" "halved" mQ f fd dV) (T:Txt mg) (C_number:Cal P w K mg base "number" 2 fT []):FnOk P w K mg base cN 3 f fd ["x"] (dk K eS):=
 bO (k:=2) (b:=rn) F zF fun cdv A outer s H E hr=>(ap (aw (aq C_number (hr.mono (by decide)) rfl (ac (ai ar (aa 0) ae (fun _ _=>rfl)) (ac (ai ar (aa 0) ae (fun _ _=>rfl)) (ac (ai ar (aa 0) ae (fun _ _=>rfl)) (ac (ai ar (aa 0) ae (fun _ _=>rfl)) (ac (ak cx (ai ar (aa 0) ae (fun _ _=>rfl)) ae) af))))))))
theorem sc_share:FnScope zm ["p","q","k"] (ah kX):=⟨rfl,rfl,rfl,by decide +kernel,rfl,by decide +kernel,by decide +kernel⟩
theorem B2 {f:Addr} {fd:FuncData} {dV:Value} (F:FunV K "share" "share" kX f fd dV) (T:Txt mg) (C_twos_shared:Cal P w K mg base "twos_shared" 1 bI []):FnOk P w K mg base cN 2 f fd ["p","q","k"] (dk K eZ):=
 bO (k:=1) (b:=u4) F sc_share fun cdv A outer s H E hr=>(aj (aA 3 sc_share.nd (aq C_twos_shared (hr.mono (by decide)) rfl (ac (ak uP (aa 0) (aa 1)) (ac (aa 2) af)))) (ap (aw (aE (ac (ak oF (aa 0) (aa 3)) (ac (ak oF (aa 1) (aa 3)) (ac (ak dz (aa 2) (aa 3)) af)))))))
theorem sc_parts_over_shares:FnScope gS ["x","k"] (ah di):=⟨rfl,rfl,rfl,by decide +kernel,rfl,by decide +kernel,by decide +kernel⟩
theorem kf {f:Addr} {fd:FuncData} {dV:Value} (F:FunV K "parts_over" "parts_over" di f fd dV) (T:Txt mg):FnOk P w K mg base cN 1 f fd ["x","k"] (dk K bD):=
 bO (k:=0) (b:=eJ) F sc_parts_over_shares fun cdv A outer s H E hr=>(aj (aA 2 sc_parts_over_shares.nd (ak dz (aa 1) (ai ar (aa 0) ae (fun _ _=>rfl)))) (ap (aw (aE (ac (ak ku (ai ar (aa 0) ae (fun _ _=>rfl)) (aa 2)) (ac (ak ku (ai ar (aa 0) ae (fun _ _=>rfl)) (aa 2)) af))))))
theorem sc_share_plus:FnScope nq ["x","y"] (ah gX):=⟨rfl,rfl,rfl,by decide +kernel,rfl,by decide +kernel,by decide +kernel⟩
theorem rV {f:Addr} {fd:FuncData} {dV:Value} (F:FunV K "share_plus" "share_plus" gX f fd dV) (T:Txt mg) (C_parts_over_shares:Cal P w K mg base "parts_over_shares" 1 bD []) (C_share:Cal P w K mg base "share" 2 eZ []):FnOk P w K mg base cN 3 f fd ["x","y"] (dk K eB):=
 bO (k:=2) (b:=jT) F sc_share_plus fun cdv A outer s H E hr=>(aj (aA 2 sc_share_plus.nd (aQ (G4 rfl) rfl T.max (by decide +kernel) (ac (ai ar (aa 0) ae (fun _ _=>rfl)) (ac (ai ar (aa 1) ae (fun _ _=>rfl)) af)))) (aj (aA 3 sc_share_plus.nd (aq C_parts_over_shares (hr.mono (by decide)) rfl (ac (aa 0) (ac (aa 2) af)))) (aj (aA 4 sc_share_plus.nd (aq C_parts_over_shares (hr.mono (by decide)) rfl (ac (aa 1) (ac (aa 2) af)))) (ap (aw (aq C_share (hr.mono (by decide)) rfl (ac (ak cx (ai ar (aa 3) ae (fun _ _=>rfl)) (ai ar (aa 4) ae (fun _ _=>rfl))) (ac (ak cx (ai ar (aa 3) ae (fun _ _=>rfl)) (ai ar (aa 4) ae (fun _ _=>rfl))) (ac (aa 2) af)))))))))
theorem sc_size_of:FnScope tK ["x"] (ah kW):=⟨rfl,rfl,rfl,by decide +kernel,rfl,by decide +kernel,by decide +kernel⟩
theorem wY {f:Addr} {fd:FuncData} {dV:Value} (F:FunV K "size_of" "size_of" kW f fd dV) (T:Txt mg) (C_share:Cal P w K mg base "share" 2 eZ []):FnOk P w K mg base cN 3 f fd ["x"] (dk K gi):=
 bO (k:=2) (b:=oa) F sc_size_of fun cdv A outer s H E hr=>(aj (aA 1 sc_size_of.nd (ak cx (ak cx (ak cx (ak dF (ai ar (aa 0) ae (fun _ _=>rfl)) (ai ar (aa 0) ae (fun _ _=>rfl))) (ak dF (ai ar (aa 0) ae (fun _ _=>rfl)) (ai ar (aa 0) ae (fun _ _=>rfl)))) (ak dF (ai ar (aa 0) ae (fun _ _=>rfl)) (ai ar (aa 0) ae (fun _ _=>rfl)))) (ak dF (ai ar (aa 0) ae (fun _ _=>rfl)) (ai ar (aa 0) ae (fun _ _=>rfl))))) (aj (aA 2 sc_size_of.nd (ak dz (ak cx (ak cx (ak dF (ai ar (aa 0) ae (fun _ _=>rfl)) (ai ar (aa 0) ae (fun _ _=>rfl))) (ak dF (ai ar (aa 0) ae (fun _ _=>rfl)) (ai ar (aa 0) ae (fun _ _=>rfl)))) (ak dF (ai ar (aa 0) ae (fun _ _=>rfl)) (ai ar (aa 0) ae (fun _ _=>rfl)))) (ak dF (ai ar (aa 0) ae (fun _ _=>rfl)) (ai ar (aa 0) ae (fun _ _=>rfl))))) (ap (aw (aq C_share (hr.mono (by decide)) rfl (ac (aa 1) (ac (aa 2) (ac (ai ar (aa 0) ae (fun _ _=>rfl)) af))))))))
theorem By:FnScope zi ["wires","wire"] (ah pL):=⟨rfl,rfl,rfl,by decide +kernel,rfl,by decide +kernel,by decide +kernel⟩
theorem BZ {f:Addr} {fd:FuncData} {dV:Value} (F:FunV K "worth" "worth" pL f fd dV) (T:Txt mg):FnOk P w K mg base cN 1 f fd ["wires","wire"] (dk K bY):=
 bO (k:=0) (b:=uY) F By fun cdv A outer s H E hr=>(ap (aw (ak ku ae (ak dz (ak dz (aa 0) ae) (aa 1)))))
theorem wR:FnScope oo ["wires","place"] (ah jq):=⟨rfl,rfl,rfl,by decide +kernel,rfl,by decide +kernel,by decide +kernel⟩
theorem xa {f:Addr} {fd:FuncData} {dV:Value} (F:FunV K "bits_of" "bits_of" jq f fd dV) (T:Txt mg):FnOk P w K mg base cN 1 f fd ["wires","place"] (dk K fC):=
 bO (k:=0) (b:=oi) F wR fun cdv A outer s H E hr=>(ap (aw (cz e8 rfl T.tuple (by decide +kernel) (ac (dQ (vars:=["wire"]) (caps:=[(0,"wires"),(1,"place")]) (by change BlkOk (ah jq).names oo _ _ _; exact ⟨rfl,by decide +kernel,by decide +kernel,by decide +kernel,by decide +kernel⟩) rfl (ce rfl T.range (ac (aa 0) af)) dg (fun _ _ _ _=>bW (i:=0) (show (["wire","wires","place"]:List Str).Nodup by decide +kernel) rfl (Or.inl rfl) (.inr rfl)) (fun _ _ _ _=>(ak eT (ak oF (aa 2) (ak dz (ak dz (aa 1) ae) (aa 0))) ae))) af))))
theorem t6:FnScope kL ["wires","place"] (ah d9):=⟨rfl,rfl,rfl,by decide +kernel,rfl,by decide +kernel,by decide +kernel⟩
theorem um {f:Addr} {fd:FuncData} {dV:Value} (F:FunV K "beginning" "beginning" d9 f fd dV) (T:Txt mg) (T_NOUGHT:TopV K mg "NOUGHT" (.tuple [.int 0,.int 0,.int 0,.int 0,.int 0])) (T_ONE:TopV K mg "ONE" (.tuple [.int 1,.int 0,.int 0,.int 0,.int 0])):FnOk P w K mg base cN 1 f fd ["wires","place"] (dk K dc):=
 bO (k:=0) (b:=kG) F t6 fun cdv A outer s H E hr=>(ap (aw (cz e8 rfl T.tuple (by decide +kernel) (ac (dQ (vars:=["p"]) (caps:=[(1,"place")]) (by change BlkOk (ah d9).names kL _ _ _; exact ⟨rfl,by decide +kernel,by decide +kernel,by decide +kernel,by decide +kernel⟩) rfl (ce rfl T.range (ac (ak ku ae (aa 0)) af)) dg (fun _ _ _ _=>bW (i:=0) (show (["p","place"]:List Str).Nodup by decide +kernel) rfl (Or.inl rfl) (.inr rfl)) (fun _ _ _ _=>(gj (aD (cG hr.units) (aa 0) (aa 1) (az _)) (pY T_ONE rfl) (pY T_NOUGHT rfl)))) af))))
theorem sc_swung:FnScope zk ["state","bit"] (ah pN):=⟨rfl,rfl,rfl,by decide +kernel,rfl,by decide +kernel,by decide +kernel⟩
theorem B1 {f:Addr} {fd:FuncData} {dV:Value} (F:FunV K "swung" "swung" pN f fd dV) (T:Txt mg) (C_halved:Cal P w K mg base "halved" 3 eS []) (C_plus:Cal P w K mg base "plus" 3 ja []) (C_against:Cal P w K mg base "against" 1 fD []):FnOk P w K mg base cN 4 f fd ["state","bit"] (dk K iW):=
 bO (k:=3) (b:=u3) F sc_swung fun cdv A outer s H E hr=>(aj (lU 2 sc_swung.nd af) (aj (dY PassesOwn.never rfl (ce rfl T.range (ac (aQ eu rfl T.len (by decide +kernel) (ac (aa 0) af)) af)) (cY 3 sc_swung.nd) (ap (bb (aD (cG hr.units) (ak eT (aa 3) (aa 1)) ae (az _)) (ap (qi 2 (aq C_halved (hr.mono (by decide)) rfl (ac (aq C_plus (hr.mono (by decide)) rfl (ac (ai ar (aa 0) (aa 3) (fun _ _=>rfl)) (ac (ai ar (aa 0) (ak gR (aa 3) (aa 1)) (fun _ _=>rfl)) af))) af)))) (ap (qi 2 (aq C_halved (hr.mono (by decide)) rfl (ac (aq C_plus (hr.mono (by decide)) rfl (ac (ai ar (aa 0) (ak gR (aa 3) (aa 1)) (fun _ _=>rfl)) (ac (aq C_against (hr.mono (by decide)) rfl (ac (ai ar (aa 0) (aa 3) (fun _ _=>rfl)) af)) af))) af))))))) (ap (mJ 2 (aw (cz e8 rfl T.tuple (by decide +kernel) (ac (aa 2) af)))))))
theorem oS:FnScope ix ["state","held","e"] (ah dZ):=⟨rfl,rfl,rfl,by decide +kernel,rfl,by decide +kernel,by decide +kernel⟩
theorem oY {f:Addr} {fd:FuncData} {dV:Value} (F:FunV K "turned_where" "turned_where" dZ f fd dV) (T:Txt mg) (C_turned:Cal P w K mg base "turned" 1 da []):FnOk P w K mg base cN 2 f fd ["state","held","e"] (dk K bJ):=
 bO (k:=1) (b:=ij) F oS fun cdv A outer s H E hr=>(ap (aw (cz e8 rfl T.tuple (by decide +kernel) (ac (dQ (vars:=["p"]) (caps:=[(0,"state"),(1,"held"),(2,"e")]) (by change BlkOk (ah dZ).names ix _ _ _; exact ⟨rfl,by decide +kernel,by decide +kernel,by decide +kernel,by decide +kernel⟩) rfl (ce rfl T.range (ac (aQ eu rfl T.len (by decide +kernel) (ac (aa 0) af)) af)) dg (fun _ _ _ _=>bW (i:=0) (show (["p","state","held","e"]:List Str).Nodup by decide +kernel) rfl (Or.inl rfl) (.inr rfl)) (fun _ _ _ _=>(gj (aD (cG hr.units) (ak eT (aa 0) (aa 2)) (aa 2) (az _)) (aq C_turned (hr.mono (by decide)) rfl (ac (ai ar (aa 1) (aa 0) (fun _ _=>rfl)) (ac (aa 3) af))) (ai ar (aa 1) (aa 0) (fun _ _=>rfl))))) af))))
theorem nE:FnScope gP ["state","held","bit"] (ah dG):=⟨rfl,rfl,rfl,by decide +kernel,rfl,by decide +kernel,by decide +kernel⟩
theorem nM {f:Addr} {fd:FuncData} {dV:Value} (F:FunV K "flipped_where" "flipped_where" dG f fd dV) (T:Txt mg):FnOk P w K mg base cN 1 f fd ["state","held","bit"] (dk K bw):=
 bO (k:=0) (b:=gM) F nE fun cdv A outer s H E hr=>(ap (aw (cz e8 rfl T.tuple (by decide +kernel) (ac (dQ (vars:=["p"]) (caps:=[(0,"state"),(1,"held"),(2,"bit")]) (by change BlkOk (ah dG).names gP _ _ _; exact ⟨rfl,by decide +kernel,by decide +kernel,by decide +kernel,by decide +kernel⟩) rfl (ce rfl T.range (ac (aQ eu rfl T.len (by decide +kernel) (ac (aa 0) af)) af)) dg (fun _ _ _ _=>bW (i:=0) (show (["p","state","held","bit"]:List Str).Nodup by decide +kernel) rfl (Or.inl rfl) (.inr rfl)) (fun _ _ _ _=>(gj (aD (cG hr.units) (ak eT (aa 0) (aa 2)) (aa 2) (az _)) (ai ar (aa 1) (ak gR (aa 0) (aa 3)) (fun _ _=>rfl)) (ai ar (aa 1) (aa 0) (fun _ _=>rfl))))) af))))
theorem t0:FnScope oQ ["place","both"] (ah iQ):=⟨rfl,rfl,rfl,by decide +kernel,rfl,by decide +kernel,by decide +kernel⟩
theorem ul {f:Addr} {fd:FuncData} {dV:Value} (F:FunV K "exchanged" "exchanged" iQ f fd dV) (T:Txt mg):FnOk P w K mg base cN 1 f fd ["place","both"] (dk K bG):=
 bO (k:=0) (b:=iY) F t0 fun cdv A outer s H E hr=>(ap (aw (gj (aD Lo (ak eT (aa 0) (aa 1)) (aE (ac ae (ac (aa 1) af))) (by with_unfolding_all rfl)) (aa 0) (ak gR (aa 0) (aa 1)))))
theorem sc_done:FnScope xT ["state","row"] (ah qv):=⟨rfl,rfl,rfl,by decide +kernel,rfl,by decide +kernel,by decide +kernel⟩
theorem EY {f:Addr} {fd:FuncData} {dV:Value} (F:FunV K "done" "done" qv f fd dV) (T:Txt mg) (C_worth:Cal P w K mg base "worth" 1 bY []) (C_swung:Cal P w K mg base "swung" 4 iW []) (C_turned_where:Cal P w K mg base "turned_where" 2 bJ []) (C_flipped_where:Cal P w K mg base "flipped_where" 1 bw []) (C_exchanged:Cal P w K mg base "exchanged" 1 bG []):FnOk P w K mg base cN 5 f fd ["state","row"] (dk K dO):=
 bO (k:=4) (b:=kF) F sc_done fun cdv A outer s H E hr=>(aj (aA 2 sc_done.nd (ak dz (uK (aQ eu rfl T.len (by decide +kernel) (ac (aa 0) af))) ae)) (aj (aA 3 sc_done.nd (aq C_worth (hr.mono (by decide)) rfl (ac (aa 2) (ac (ai ar (aa 1) ae (fun _ _=>rfl)) af)))) (aj (bb (aD (cG hr.units) (ai ar (aa 1) ae (fun _ _=>rfl)) bu (az _)) (ap (aw (aq C_swung (hr.mono (by decide)) rfl (ac (aa 0) (ac (aa 3) af))))) aP) (aj (bb (aD (cG hr.units) (ai ar (aa 1) ae (fun _ _=>rfl)) bu (az _)) (ap (aw (aq C_turned_where (hr.mono (by decide)) rfl (ac (aa 0) (ac (aa 3) (ac (ai ar (aa 1) ae (fun _ _=>rfl)) af)))))) aP) (aj (bb (aD (cG hr.units) (ai ar (aa 1) ae (fun _ _=>rfl)) bu (az _)) (ap (aw (aq C_flipped_where (hr.mono (by decide)) rfl (ac (aa 0) (ac ae (ac (aa 3) af)))))) aP) (aj (aA 4 sc_done.nd (aq C_worth (hr.mono (by decide)) rfl (ac (aa 2) (ac (ai ar (aa 1) ae (fun _ _=>rfl)) af)))) (aj (bb (aD (cG hr.units) (ai ar (aa 1) ae (fun _ _=>rfl)) bu (az _)) (ap (aw (aq C_flipped_where (hr.mono (by decide)) rfl (ac (aa 0) (ac (aa 3) (ac (aa 4) af)))))) aP) (aj (bb (aD (cG hr.units) (ai ar (aa 1) ae (fun _ _=>rfl)) bu (az _)) (ap (aw (aq C_turned_where (hr.mono (by decide)) rfl (ac (aa 0) (ac (ak uP (aa 3) (aa 4)) (ac ae af)))))) aP) (ap (aw (cz e8 rfl T.tuple (by decide +kernel) (ac (dQ (vars:=["p"]) (caps:=[(0,"state"),(3,"first"),(4,"second")]) (by change BlkOk (ah qv).names xT _ _ _; exact ⟨rfl,by decide +kernel,by decide +kernel,by decide +kernel,by decide +kernel⟩) rfl (ce rfl T.range (ac (aQ eu rfl T.len (by decide +kernel) (ac (aa 0) af)) af)) dg (fun _ _ _ _=>bW (i:=0) (show (["p","state","first","second"]:List Str).Nodup by decide +kernel) rfl (Or.inl rfl) (.inr rfl)) (fun _ _ _ _=>(ai ar (aa 1) (aq C_exchanged (hr.mono (by decide)) rfl (ac (aa 0) (ac (ak uP (aa 2) (aa 3)) af))) (fun _ _=>rfl)))) af))))))))))))
theorem sc_whole:FnScope zj ["state"] (ah pM):=⟨rfl,rfl,rfl,by decide +kernel,rfl,by decide +kernel,by decide +kernel⟩
theorem B0 {f:Addr} {fd:FuncData} {dV:Value} (F:FunV K "whole" "whole" pM f fd dV) (T:Txt mg) (C_share_plus:Cal P w K mg base "share_plus" 3 eB []) (C_size_of:Cal P w K mg base "size_of" 3 gi []):FnOk P w K mg base cN 4 f fd ["state"] (dk K iV):=
 bO (k:=3) (b:=uZ) F sc_whole fun cdv A outer s H E hr=>(aj (aA 1 sc_whole.nd (aE (ac ae (ac ae (ac ae af))))) (aj (dY PassesOwn.never rfl (cV (aa 0)) (cY 2 sc_whole.nd) (ap (aA 1 sc_whole.nd (aq C_share_plus (hr.mono (by decide)) rfl (ac (aa 1) (ac (aq C_size_of (hr.mono (by decide)) rfl (ac (aa 2) af)) af)))))) (ap (aw (aa 1)))))
theorem sc_left_by:FnScope om ["state","bit","mark"] (ah jp):=⟨rfl,rfl,rfl,by decide +kernel,rfl,by decide +kernel,by decide +kernel⟩
theorem wZ {f:Addr} {fd:FuncData} {dV:Value} (F:FunV K "left_by" "left_by" jp f fd dV) (T:Txt mg) (T_NOUGHT:TopV K mg "NOUGHT" (.tuple [.int 0,.int 0,.int 0,.int 0,.int 0])):FnOk P w K mg base cN 1 f fd ["state","bit","mark"] (dk K du):=
 bO (k:=0) (b:=lE) F sc_left_by fun cdv A outer s H E hr=>(aj (aA 3 sc_left_by.nd (gj (aD (cG hr.units) (aa 2) ae (az _)) (aa 1) ae)) (ap (aw (cz e8 rfl T.tuple (by decide +kernel) (ac (dQ (vars:=["p"]) (caps:=[(0,"state"),(1,"bit"),(3,"found")]) (by change BlkOk (ah jp).names om _ _ _; exact ⟨rfl,by decide +kernel,by decide +kernel,by decide +kernel,by decide +kernel⟩) rfl (ce rfl T.range (ac (aQ eu rfl T.len (by decide +kernel) (ac (aa 0) af)) af)) dg (fun _ _ _ _=>bW (i:=0) (show (["p","state","bit","found"]:List Str).Nodup by decide +kernel) rfl (Or.inl rfl) (.inr rfl)) (fun _ _ _ _=>(gj (aD (cG hr.units) (ak eT (aa 0) (aa 2)) (aa 3) (az _)) (ai ar (aa 1) (aa 0) (fun _ _=>rfl)) (pY T_NOUGHT rfl)))) af)))))
theorem tZ:FnScope kK ["state"] (ah gy):=⟨rfl,rfl,rfl,by decide +kernel,rfl,by decide +kernel,by decide +kernel⟩
theorem uk {f:Addr} {fd:FuncData} {dV:Value} (F:FunV K "is_nought" "is_nought" gy f fd dV) (T:Txt mg) (T_NOUGHT:TopV K mg "NOUGHT" (.tuple [.int 0,.int 0,.int 0,.int 0,.int 0])):FnOk P w K mg base cN 1 f fd ["state"] (dk K fB):=
 bO (k:=0) (b:=kE) F tZ fun cdv A outer s H E hr=>(ap (aw (aQ (Lr rfl) rfl T.all (by decide +kernel) (ac (dQ (vars:=["x"]) (caps:=[]) (by change BlkOk (ah gy).names kK _ _ _; exact ⟨rfl,by decide +kernel,by decide +kernel,by decide +kernel,by decide +kernel⟩) rfl (cV (aa 0)) dg (fun _ _ _ _=>bW (i:=0) (show (["x"]:List Str).Nodup by decide +kernel) rfl (Or.inl rfl) (.inr rfl)) (fun _ _ _ _=>(fU (cG hr.units) (aa 0) (pY T_NOUGHT rfl) (az _)))) af))))
theorem sc_parted:FnScope N_parted ["branch","wire"] (ah jn):=⟨rfl,rfl,rfl,by decide +kernel,rfl,by decide +kernel,by decide +kernel⟩
theorem zU {f:Addr} {fd:FuncData} {dV:Value} (F:FunV K "parted" "parted" jn f fd dV) (T:Txt mg) (C_worth:Cal P w K mg base "worth" 1 bY []) (C_left_by:Cal P w K mg base "left_by" 1 du []) (C_is_nought:Cal P w K mg base "is_nought" 1 fB []):FnOk P w K mg base cN 2 f fd ["branch","wire"] (dk K eR):=
 bO (k:=1) (b:=rk) F sc_parted fun cdv A outer s H E hr=>(aj (aA 2 sc_parted.nd (aq C_worth (hr.mono (by decide)) rfl (ac (ak dz (uK (aQ eu rfl T.len (by decide +kernel) (ac (ai ar (aa 0) ae (fun _ _=>rfl)) af))) ae) (ac (aa 1) af)))) (aj (Eo 3 sc_parted.nd (vars:=["mark"]) (caps:=[(0,"branch"),(2,"bit")]) (by change BlkOk (ah jn).names N_parted _ _ _; exact ⟨rfl,by decide +kernel,by decide +kernel,by decide +kernel,by decide +kernel⟩) rfl (cV (aE (ac ae (ac ae af)))) dg (fun _ _ _ _=>bW (i:=0) (show (["mark","branch","bit"]:List Str).Nodup by decide +kernel) rfl (Or.inl rfl) (.inr rfl)) (fun _ _ _ _=>(aE (ac (ak cx (ai ar (aa 1) ae (fun _ _=>rfl)) (aE (ac (aa 0) af))) (ac (aq C_left_by (hr.mono (by decide)) rfl (ac (ai ar (aa 1) ae (fun _ _=>rfl)) (ac (aa 2) (ac (aa 0) af)))) af))))) (ap (aw (qQ (vars:=["pair"]) (caps:=[]) (by change BlkOk (ah jn).names N_parted _ _ _; exact ⟨rfl,by decide +kernel,by decide +kernel,by decide +kernel,by decide +kernel⟩) rfl (cV (aa 3)) dg (fun _ _ _ _=>bW (i:=0) (show (["pair"]:List Str).Nodup by decide +kernel) rfl (Or.inl rfl) (.inr rfl)) (fun _ _ _ _=>(dX (dj (aq C_is_nought (hr.mono (by decide)) rfl (ac (ai ar (aa 0) ae (fun _ _=>rfl)) af))))) (fun _ _ _ _=>(aa 0)))))))
theorem wP:FnScope N_gone_on ["branch","row"] (ah kY):=⟨rfl,rfl,rfl,by decide +kernel,rfl,by decide +kernel,by decide +kernel⟩
theorem w5 {f:Addr} {fd:FuncData} {dV:Value} (F:FunV K "gone_on" "gone_on" kY f fd dV) (T:Txt mg) (C_done:Cal P w K mg base "done" 5 dO []):FnOk P w K mg base cN 6 f fd ["branch","row"] (dk K dw):=
 bO (k:=5) (b:=og) F wP fun cdv A outer s H E hr=>(ap (aw (aE (ac (ai ar (aa 0) ae (fun _ _=>rfl)) (ac (aq C_done (hr.mono (by decide)) rfl (ac (ai ar (aa 0) ae (fun _ _=>rfl)) (ac (aa 1) af))) af)))))
theorem lL:FnScope fY ["rows"] (ah dB):=⟨rfl,rfl,rfl,by decide +kernel,rfl,by decide +kernel,by decide +kernel⟩
theorem qA {f:Addr} {fd:FuncData} {dV:Value} (F:FunV K "refuse_odd" "refuse_odd" dB f fd dV) (T:Txt mg) (E_OddTurn:ExcX K "OddTurn"):FnOk P w K mg base (tP P w) 1 f fd ["rows"] (Es K dA):=
 Jj (k:=0) (fx:=jc) F lL fun cdv A outer s H E hr=>(jP (GA (TV.lift (dj (aQ (G6 rfl) rfl T.any (by decide +kernel) (ac (dQ (vars:=["row"]) (caps:=[]) (by change BlkOk (ah dB).names fY _ _ _; exact ⟨rfl,by decide +kernel,by decide +kernel,by decide +kernel,by decide +kernel⟩) rfl (cV (aa 0)) dg (fun _ _ _ _=>bW (i:=0) (show (["row"]:List Str).Nodup by decide +kernel) rfl (Or.inl rfl) (.inr rfl)) (fun _ _ _ _=>(qR (fU (cG hr.units) (ai ar (aa 0) ae (fun _ _=>rfl)) bu (az _)) (uI (fU (cG hr.units) (ak cC (ai ar (aa 0) ae (fun _ _=>rfl)) ae) ae (az _)))))) af)))) (jP (Bf E_OddTurn rfl rfl (EV.lift bu))) G7))
theorem rW {f:Addr} {fd:FuncData} {dV:Value} (F:FunV K "refuse_odd" "refuse_odd" dB f fd dV) (T:Txt mg):FnOk P w K mg base cN 1 f fd ["rows"] (dk K bn):=
 bO (k:=0) (b:=hU) F lL fun cdv A outer s H E hr=>(ap (bb (dj (aQ (G6 rfl) rfl T.any (by decide +kernel) (ac (dQ (vars:=["row"]) (caps:=[]) (by change BlkOk (ah dB).names fY _ _ _; exact ⟨rfl,by decide +kernel,by decide +kernel,by decide +kernel,by decide +kernel⟩) rfl (cV (aa 0)) dg (fun _ _ _ _=>bW (i:=0) (show (["row"]:List Str).Nodup by decide +kernel) rfl (Or.inl rfl) (.inr rfl)) (fun _ _ _ _=>(qR (fU (cG hr.units) (ai ar (aa 0) ae (fun _ _=>rfl)) bu (az _)) (uI (fU (cG hr.units) (ak cC (ai ar (aa 0) ae (fun _ _=>rfl)) ae) ae (az _)))))) af))) (ap Bl) aP))
theorem sc_value_of:FnScope rE ["bitset","bits"] (ah jH):=⟨rfl,rfl,rfl,by decide +kernel,rfl,by decide +kernel,by decide +kernel⟩
theorem vC {f:Addr} {fd:FuncData} {dV:Value} (F:FunV K "value_of" "value_of" jH f fd dV) (T:Txt mg):FnOk P w K mg base cN 1 f fd ["bitset","bits"] (dk K bp):=
 bO (k:=0) (b:=mz) F sc_value_of fun cdv A outer s H E hr=>(aj (aA 2 sc_value_of.nd (ak eT (aa 0) (aa 1))) (aj (aA 3 sc_value_of.nd ae) (aj (Bk (fun _=>wN) PassesOwn.never (aD (jA hr.units) (aa 2) ae (az _)) (aj (aA 2 sc_value_of.nd (ak eT (aa 2) (ak dz (aa 2) ae))) (ap (aA 3 sc_value_of.nd (ak dz ae (aa 3)))))) (ap (aw (aa 3))))))
theorem sc_swing_carried:FnScope j1 ["word","bit"] (ah eX):=⟨rfl,rfl,rfl,by decide +kernel,rfl,by decide +kernel,by decide +kernel⟩
theorem nK {f:Addr} {fd:FuncData} {dV:Value} (F:FunV K "swing_carried" "swing_carried" eX f fd dV) (T:Txt mg) (C_value_of:Cal P w K mg base "value_of" 1 bp []):FnOk P w K mg base cN 2 f fd ["word","bit"] (dk K cE):=
 bO (k:=1) (b:=gL) F sc_swing_carried fun cdv A outer s H E hr=>(aj (aA 2 sc_swing_carried.nd (ak eT (ak gR (ai ar (aa 0) ae (fun _ _=>rfl)) (ai ar (aa 0) ae (fun _ _=>rfl))) (aa 1))) (aj (aA 3 sc_swing_carried.nd (ak cx (ai ar (aa 0) ae (fun _ _=>rfl)) (ak dF ae (aq C_value_of (hr.mono (by decide)) rfl (ac (ak eT (ai ar (aa 0) ae (fun _ _=>rfl)) (ai ar (aa 0) ae (fun _ _=>rfl))) (ac (aa 1) af)))))) (ap (aw (aE (ac (ak gR (ai ar (aa 0) ae (fun _ _=>rfl)) (aa 2)) (ac (ak gR (ai ar (aa 0) ae (fun _ _=>rfl)) (aa 2)) (ac (ak cC (aa 3) ae) af))))))))
theorem sc_turn_carried:FnScope kH ["word","bit","e"] (ah fI):=⟨rfl,rfl,rfl,by decide +kernel,rfl,by decide +kernel,by decide +kernel⟩
theorem oZ {f:Addr} {fd:FuncData} {dV:Value} (F:FunV K "turn_carried" "turn_carried" fI f fd dV) (T:Txt mg):FnOk P w K mg base cN 1 f fd ["word","bit","e"] (dk K bK):=
 bO (k:=0) (b:=ez) F sc_turn_carried fun cdv A outer s H E hr=>(aj (bb (aD (cG hr.units) (ak eT (ai ar (aa 0) ae (fun _ _=>rfl)) (aa 1)) ae (az _)) (ap (aw (aa 0))) aP) (aj (bb (aD (cG hr.units) (ak cC (aa 2) ae) ae (az _)) (ap Bl) aP) (aj (aA 3 sc_turn_carried.nd (gj (aD (cG hr.units) (ak cC (aa 2) ae) ae (az _)) (ak gR (ai ar (aa 0) ae (fun _ _=>rfl)) (aa 1)) (ai ar (aa 0) ae (fun _ _=>rfl)))) (ap (aw (aE (ac (ai ar (aa 0) ae (fun _ _=>rfl)) (ac (aa 3) (ac (ak cC (ak cx (ai ar (aa 0) ae (fun _ _=>rfl)) (ak gE (aa 2) ae)) ae) af)))))))))
theorem sc_tie_carried:FnScope lP ["word","first","second"] (ah gp):=⟨rfl,rfl,rfl,by decide +kernel,rfl,by decide +kernel,by decide +kernel⟩
theorem qC {f:Addr} {fd:FuncData} {dV:Value} (F:FunV K "tie_carried" "tie_carried" gp f fd dV) (T:Txt mg):FnOk P w K mg base cN 1 f fd ["word","first","second"] (dk K bV):=
 bO (k:=0) (b:=dN) F sc_tie_carried fun cdv A outer s H E hr=>(aj (aA 3 sc_tie_carried.nd (gj (aD (jA hr.units) (ak eT (ai ar (aa 0) ae (fun _ _=>rfl)) (aa 1)) ae (az _)) (ak gR (ai ar (aa 0) ae (fun _ _=>rfl)) (aa 2)) (ai ar (aa 0) ae (fun _ _=>rfl)))) (aj (aA 4 sc_tie_carried.nd (gj (aD (jA hr.units) (ak eT (ai ar (aa 0) ae (fun _ _=>rfl)) (aa 2)) ae (az _)) (ak gR (ai ar (aa 0) ae (fun _ _=>rfl)) (aa 1)) (ai ar (aa 0) ae (fun _ _=>rfl)))) (ap (aw (aE (ac (aa 3) (ac (aa 4) (ac (ai ar (aa 0) ae (fun _ _=>rfl)) af))))))))
theorem sc_sign_carried:FnScope kJ ["word","first","second"] (ah fL):=⟨rfl,rfl,rfl,by decide +kernel,rfl,by decide +kernel,by decide +kernel⟩
theorem o5 {f:Addr} {fd:FuncData} {dV:Value} (F:FunV K "sign_carried" "sign_carried" fL f fd dV) (T:Txt mg):FnOk P w K mg base cN 1 f fd ["word","first","second"] (dk K cS):=
 bO (k:=0) (b:=il) F sc_sign_carried fun cdv A outer s H E hr=>(aj (aA 3 sc_sign_carried.nd (ai ar (aa 0) ae (fun _ _=>rfl))) (aj (bb (aD (jA hr.units) (ak eT (ai ar (aa 0) ae (fun _ _=>rfl)) (aa 1)) ae (az _)) (ap (aA 3 sc_sign_carried.nd (ak gR (aa 3) (aa 2)))) aP) (aj (bb (aD (jA hr.units) (ak eT (ai ar (aa 0) ae (fun _ _=>rfl)) (aa 2)) ae (az _)) (ap (aA 3 sc_sign_carried.nd (ak gR (aa 3) (aa 1)))) aP) (aj (aA 4 sc_sign_carried.nd (ak uP (aa 1) (aa 2))) (aj (aA 5 sc_sign_carried.nd (gj (aD (cG hr.units) (ak eT (ai ar (aa 0) ae (fun _ _=>rfl)) (aa 4)) (aa 4) (az _)) (ak cx (ai ar (aa 0) ae (fun _ _=>rfl)) ae) (ai ar (aa 0) ae (fun _ _=>rfl)))) (ap (aw (aE (ac (ai ar (aa 0) ae (fun _ _=>rfl)) (ac (aa 3) (ac (ak cC (aa 5) ae) af)))))))))))
theorem sc_carried:FnScope tL ["wires","word","row"] (ah kZ):=⟨rfl,rfl,rfl,by decide +kernel,rfl,by decide +kernel,by decide +kernel⟩
theorem w6 {f:Addr} {fd:FuncData} {dV:Value} (F:FunV K "carried" "carried" kZ f fd dV) (T:Txt mg) (C_worth:Cal P w K mg base "worth" 1 bY []) (C_swing_carried:Cal P w K mg base "swing_carried" 2 cE []) (C_turn_carried:Cal P w K mg base "turn_carried" 1 bK []) (C_tie_carried:Cal P w K mg base "tie_carried" 1 bV []) (C_sign_carried:Cal P w K mg base "sign_carried" 1 cS []) (C_exchanged:Cal P w K mg base "exchanged" 1 bG []) (C_value_of:Cal P w K mg base "value_of" 1 bp []):FnOk P w K mg base cN 3 f fd ["wires","word","row"] (dk K bH):=
 bO (k:=2) (b:=fF) F sc_carried fun cdv A outer s H E hr=>(aj (aA 3 sc_carried.nd (aq C_worth (hr.mono (by decide)) rfl (ac (aa 0) (ac (ai ar (aa 2) ae (fun _ _=>rfl)) af)))) (aj (bb (aD (cG hr.units) (ai ar (aa 2) ae (fun _ _=>rfl)) bu (az _)) (ap (aw (aq C_swing_carried (hr.mono (by decide)) rfl (ac (aa 1) (ac (aa 3) af))))) aP) (aj (bb (aD (cG hr.units) (ai ar (aa 2) ae (fun _ _=>rfl)) bu (az _)) (ap (aw (aq C_turn_carried (hr.mono (by decide)) rfl (ac (aa 1) (ac (aa 3) (ac (ai ar (aa 2) ae (fun _ _=>rfl)) af)))))) aP) (aj (bb (aD (cG hr.units) (ai ar (aa 2) ae (fun _ _=>rfl)) bu (az _)) (ap (aw (aE (ac (ai ar (aa 1) ae (fun _ _=>rfl)) (ac (ai ar (aa 1) ae (fun _ _=>rfl)) (ac (ak cC (ak cx (ai ar (aa 1) ae (fun _ _=>rfl)) (ak dF ae (aq C_value_of (hr.mono (by decide)) rfl (ac (ai ar (aa 1) ae (fun _ _=>rfl)) (ac (aa 3) af))))) ae) af)))))) aP) (aj (aA 4 sc_carried.nd (aq C_worth (hr.mono (by decide)) rfl (ac (aa 0) (ac (ai ar (aa 2) ae (fun _ _=>rfl)) af)))) (aj (bb (aD (cG hr.units) (ai ar (aa 2) ae (fun _ _=>rfl)) bu (az _)) (ap (aw (aq C_tie_carried (hr.mono (by decide)) rfl (ac (aa 1) (ac (aa 3) (ac (aa 4) af)))))) aP) (aj (bb (aD (cG hr.units) (ai ar (aa 2) ae (fun _ _=>rfl)) bu (az _)) (ap (aw (aq C_sign_carried (hr.mono (by decide)) rfl (ac (aa 1) (ac (aa 3) (ac (aa 4) af)))))) aP) (ap (aw (aE (ac (aq C_exchanged (hr.mono (by decide)) rfl (ac (ai ar (aa 1) ae (fun _ _=>rfl)) (ac (ak uP (aa 3) (aa 4)) af))) (ac (aq C_exchanged (hr.mono (by decide)) rfl (ac (ai ar (aa 1) ae (fun _ _=>rfl)) (ac (ak uP (aa 3) (aa 4)) af))) (ac (ai ar (aa 1) ae (fun _ _=>rfl)) af)))))))))))))
theorem sc_table_done:FnScope jW ["table","row"] (ah fK):=⟨rfl,rfl,rfl,by decide +kernel,rfl,by decide +kernel,by decide +kernel⟩
theorem rT {f:Addr} {fd:FuncData} {dV:Value} (F:FunV K "table_done" "table_done" fK f fd dV) (T:Txt mg) (C_refuse_odd:Cal P w K mg base "refuse_odd" 1 bn []) (C_carried:Cal P w K mg base "carried" 3 bH []):FnOk P w K mg base cN 4 f fd ["table","row"] (dk K db):=
 bO (k:=3) (b:=jS) F sc_table_done fun cdv A outer s H E hr=>(aj (pI (aq C_refuse_odd (hr.mono (by decide)) rfl (ac (aE (ac (aa 1) af)) af))) (aj (aA 2 sc_table_done.nd (aQ eu rfl T.len (by decide +kernel) (ac (aa 0) af))) (ap (aw (cz e8 rfl T.tuple (by decide +kernel) (ac (dQ (vars:=["pair"]) (caps:=[(1,"row"),(2,"wires")]) (by change BlkOk (ah fK).names jW _ _ _; exact ⟨rfl,by decide +kernel,by decide +kernel,by decide +kernel,by decide +kernel⟩) rfl (cV (aa 0)) dg (fun _ _ _ _=>bW (i:=0) (show (["pair","row","wires"]:List Str).Nodup by decide +kernel) rfl (Or.inl rfl) (.inr rfl)) (fun _ _ _ _=>(aE (ac (aq C_carried (hr.mono (by decide)) rfl (ac (aa 2) (ac (ai ar (aa 0) ae (fun _ _=>rfl)) (ac (aa 1) af)))) (ac (aq C_carried (hr.mono (by decide)) rfl (ac (aa 2) (ac (ai ar (aa 0) ae (fun _ _=>rfl)) (ac (aa 1) af)))) af))))) af))))))
theorem nD:FnScope N_table_gone_on ["branch","row"] (ah eW):=⟨rfl,rfl,rfl,by decide +kernel,rfl,by decide +kernel,by decide +kernel⟩
theorem nJ {f:Addr} {fd:FuncData} {dV:Value} (F:FunV K "table_gone_on" "table_gone_on" eW f fd dV) (T:Txt mg) (C_table_done:Cal P w K mg base "table_done" 4 db []):FnOk P w K mg base cN 5 f fd ["branch","row"] (dk K aX):=
 bO (k:=4) (b:=gK) F nD fun cdv A outer s H E hr=>(ap (aw (aE (ac (ai ar (aa 0) ae (fun _ _=>rfl)) (ac (aq C_table_done (hr.mono (by decide)) rfl (ac (ai ar (aa 0) ae (fun _ _=>rfl)) (ac (aa 1) af))) (ac (ai ar (aa 0) ae (fun _ _=>rfl)) af))))))
theorem qu:FnScope lQ ["branch","row","go"] (ah gq):=⟨rfl,rfl,rfl,by decide +kernel,rfl,by decide +kernel,by decide +kernel⟩
theorem qF {f:Addr} {fd:FuncData} {dV:Value} (F:FunV K "due_gone_on" "due_gone_on" gq f fd dV) (T:Txt mg) (V_table_gone_on:CalF P w K mg base "table_gone_on" 5 aX) (V_gone_on:CalF P w K mg base "gone_on" 6 dw):FnOk P w K mg base cN 7 f fd ["branch","row","go"] (dk K bL):=
 bO (k:=6) (b:=eU) F qu fun cdv A outer s H E hr=>(aj (bb (aD (jA hr.units) (ai ar (aa 1) ae (fun _ _=>rfl)) bu (az _)) (ap (aw (m9 2 (k:=6) (iU (by decide) V_gone_on (iU (by decide) V_table_gone_on uD)) (hr.mono (by decide)) (ac (aa 0) (ac (aa 1) af))))) aP) (ap (aw (gj (aD (cG hr.units) (ai ar (ai ar (aa 0) ae (fun _ _=>rfl)) (ai ar (aa 1) ae (fun _ _=>rfl)) (fun _ _=>rfl)) ae (az _)) (m9 2 (k:=6) (iU (by decide) V_gone_on (iU (by decide) V_table_gone_on uD)) (hr.mono (by decide)) (ac (aa 0) (ac (ai ar (aa 1) ae (fun _ _=>rfl)) af))) (aa 0)))))
theorem tY:FnScope oN ["table","wire","mark"] (ah iO):=⟨rfl,rfl,rfl,by decide +kernel,rfl,by decide +kernel,by decide +kernel⟩
theorem ui {f:Addr} {fd:FuncData} {dV:Value} (F:FunV K "look_word" "look_word" iO f fd dV) (T:Txt mg) (C_worth:Cal P w K mg base "worth" 1 bY []):FnOk P w K mg base cN 2 f fd ["table","wire","mark"] (dk K cg):=
 bO (k:=1) (b:=kD) F tY fun cdv A outer s H E hr=>(ap (aw (aE (ac ae (ac (aq C_worth (hr.mono (by decide)) rfl (ac (aQ eu rfl T.len (by decide +kernel) (ac (aa 0) af)) (ac (aa 1) af))) (ac (ak dF ae (aa 2)) af))))))
theorem sc_word_times:FnScope nk ["one","other"] (ah gW):=⟨rfl,rfl,rfl,by decide +kernel,rfl,by decide +kernel,by decide +kernel⟩
theorem rS {f:Addr} {fd:FuncData} {dV:Value} (F:FunV K "word_times" "word_times" gW f fd dV) (T:Txt mg) (C_value_of:Cal P w K mg base "value_of" 1 bp []):FnOk P w K mg base cN 2 f fd ["one","other"] (dk K bh):=
 bO (k:=1) (b:=jR) F sc_word_times fun cdv A outer s H E hr=>(aj (aA 2 sc_word_times.nd (ak cx (ak cx (ai ar (aa 0) ae (fun _ _=>rfl)) (ai ar (aa 1) ae (fun _ _=>rfl))) (ak dF ae (aq C_value_of (hr.mono (by decide)) rfl (ac (ai ar (aa 0) ae (fun _ _=>rfl)) (ac (ai ar (aa 1) ae (fun _ _=>rfl)) af)))))) (ap (aw (aE (ac (ak gR (ai ar (aa 0) ae (fun _ _=>rfl)) (ai ar (aa 1) ae (fun _ _=>rfl))) (ac (ak gR (ai ar (aa 0) ae (fun _ _=>rfl)) (ai ar (aa 1) ae (fun _ _=>rfl))) (ac (ak cC (aa 2) ae) af)))))))
theorem Bz:FnScope zn ["one","other"] (ah pO):=⟨rfl,rfl,rfl,by decide +kernel,rfl,by decide +kernel,by decide +kernel⟩
theorem B3 {f:Addr} {fd:FuncData} {dV:Value} (F:FunV K "agree" "agree" pO f fd dV) (T:Txt mg) (C_word_times:Cal P w K mg base "word_times" 2 bh []):FnOk P w K mg base cN 3 f fd ["one","other"] (dk K eF):=
 bO (k:=2) (b:=u5) F Bz fun cdv A outer s H E hr=>(ap (aw (fU (cG hr.units) (aq C_word_times (hr.mono (by decide)) rfl (ac (aa 0) (ac (aa 1) af))) (aq C_word_times (hr.mono (by decide)) rfl (ac (aa 1) (ac (aa 0) af))) (az _))))
theorem qt:FnScope jh ["table","word"] (ah eO):=⟨rfl,rfl,rfl,by decide +kernel,rfl,by decide +kernel,by decide +kernel⟩
theorem qE {f:Addr} {fd:FuncData} {dV:Value} (F:FunV K "keepers_for" "keepers_for" eO f fd dV) (T:Txt mg) (C_agree:Cal P w K mg base "agree" 3 eF []):FnOk P w K mg base cN 4 f fd ["table","word"] (dk K cO):=
 bO (k:=3) (b:=jf) F qt fun cdv A outer s H E hr=>(ap (aw (qQ (vars:=["wire"]) (caps:=[(0,"table"),(1,"word")]) (by change BlkOk (ah eO).names jh _ _ _; exact ⟨rfl,by decide +kernel,by decide +kernel,by decide +kernel,by decide +kernel⟩) rfl (ce rfl T.range (ac (aQ eu rfl T.len (by decide +kernel) (ac (aa 0) af)) af)) dg (fun _ _ _ _=>bW (i:=0) (show (["wire","table","word"]:List Str).Nodup by decide +kernel) rfl (Or.inl rfl) (.inr rfl)) (fun _ _ _ _=>(dX (dj (aq C_agree (hr.mono (by decide)) rfl (ac (ai ar (ai ar (aa 1) (aa 0) (fun _ _=>rfl)) ae (fun _ _=>rfl)) (ac (aa 2) af)))))) (fun _ _ _ _=>(aa 0)))))
theorem oU:FnScope iy ["table","word"] (ah eh):=⟨rfl,rfl,rfl,by decide +kernel,rfl,by decide +kernel,by decide +kernel⟩
theorem o7 {f:Addr} {fd:FuncData} {dV:Value} (F:FunV K "against_look" "against_look" eh f fd dV) (T:Txt mg) (C_agree:Cal P w K mg base "agree" 3 eF []):FnOk P w K mg base cN 4 f fd ["table","word"] (dk K aY):=
 bO (k:=3) (b:=ip) F oU fun cdv A outer s H E hr=>(ap (aw (qQ (vars:=["wire"]) (caps:=[(0,"table"),(1,"word")]) (by change BlkOk (ah eh).names iy _ _ _; exact ⟨rfl,by decide +kernel,by decide +kernel,by decide +kernel,by decide +kernel⟩) rfl (ce rfl T.range (ac (aQ eu rfl T.len (by decide +kernel) (ac (aa 0) af)) af)) dg (fun _ _ _ _=>bW (i:=0) (show (["wire","table","word"]:List Str).Nodup by decide +kernel) rfl (Or.inl rfl) (.inr rfl)) (fun _ _ _ _=>(dX (dj (aq C_agree (hr.mono (by decide)) rfl (ac (ai ar (ai ar (aa 1) (aa 0) (fun _ _=>rfl)) ae (fun _ _=>rfl)) (ac (aa 2) af)))))) (fun _ _ _ _=>(aa 0)))))
theorem sc_look_told:FnScope oO ["table","wire"] (ah iP):=⟨rfl,rfl,rfl,by decide +kernel,rfl,by decide +kernel,by decide +kernel⟩
theorem uj {f:Addr} {fd:FuncData} {dV:Value} (F:FunV K "look_told" "look_told" iP f fd dV) (T:Txt mg) (C_look_word:Cal P w K mg base "look_word" 2 cg []) (C_keepers_for:Cal P w K mg base "keepers_for" 4 cO []) (C_against_look:Cal P w K mg base "against_look" 4 aY []) (C_word_times:Cal P w K mg base "word_times" 2 bh []):FnOk P w K mg base cN 5 f fd ["table","wire"] (dk K br):=
 bO (k:=4) (b:=iX) F sc_look_told fun cdv A outer s H E hr=>(aj (aA 2 sc_look_told.nd (aq C_look_word (hr.mono (by decide)) rfl (ac (aa 0) (ac (aa 1) (ac ae af))))) (aj (bb (aD (jA hr.units) (aq C_against_look (hr.mono (by decide)) rfl (ac (aa 0) (ac (aa 2) af))) (kr af) (az _)) (ap (aw uJ)) aP) (aj (aA 3 sc_look_told.nd (aE (ac ae (ac ae (ac ae af))))) (aj (dY PassesOwn.never rfl (cV (aq C_keepers_for (hr.mono (by decide)) rfl (ac (aa 0) (ac (aa 2) af)))) (cY 4 sc_look_told.nd) (ap (aA 3 sc_look_told.nd (aq C_word_times (hr.mono (by decide)) rfl (ac (aa 3) (ac (ai ar (ai ar (aa 0) (aa 4) (fun _ _=>rfl)) ae (fun _ _=>rfl)) af)))))) (ap (aw (gj (aD (cG hr.units) (aa 3) (aa 2) (az _)) ae ae)))))))
theorem vv:FnScope rJ ["word","look","keeper"] (ah jI):=⟨rfl,rfl,rfl,by decide +kernel,rfl,by decide +kernel,by decide +kernel⟩
theorem vF {f:Addr} {fd:FuncData} {dV:Value} (F:FunV K "agreeing" "agreeing" jI f fd dV) (T:Txt mg) (C_agree:Cal P w K mg base "agree" 3 eF []) (C_word_times:Cal P w K mg base "word_times" 2 bh []):FnOk P w K mg base cN 4 f fd ["word","look","keeper"] (dk K er):=
 bO (k:=3) (b:=mE) F vv fun cdv A outer s H E hr=>(ap (aw (gj (dj (aq C_agree (hr.mono (by decide)) rfl (ac (aa 0) (ac (aa 1) af)))) (aa 0) (aq C_word_times (hr.mono (by decide)) rfl (ac (aa 0) (ac (aa 2) af))))))
theorem sc_opened:FnScope rF ["table","wire","look"] (ah j5):=⟨rfl,rfl,rfl,by decide +kernel,rfl,by decide +kernel,by decide +kernel⟩
theorem zV {f:Addr} {fd:FuncData} {dV:Value} (F:FunV K "opened" "opened" j5 f fd dV) (T:Txt mg) (C_agreeing:Cal P w K mg base "agreeing" 4 er []):FnOk P w K mg base cN 5 f fd ["table","wire","look"] (dk K gC):=
 bO (k:=4) (b:=rm) F sc_opened fun cdv A outer s H E hr=>(aj (aA 3 sc_opened.nd (ai ar (ai ar (aa 0) (aa 1) (fun _ _=>rfl)) ae (fun _ _=>rfl))) (aj (qh 4 sc_opened.nd (vars:=["pair"]) (caps:=[(2,"look"),(3,"keeper")]) (by change BlkOk (ah j5).names rF _ _ _; exact ⟨rfl,by decide +kernel,by decide +kernel,by decide +kernel,by decide +kernel⟩) rfl (cV (aa 0)) dg (fun _ _ _ _=>bW (i:=0) (show (["pair","look","keeper"]:List Str).Nodup by decide +kernel) rfl (Or.inl rfl) (.inr rfl)) (fun _ _ _ _=>(aE (ac (aq C_agreeing (hr.mono (by decide)) rfl (ac (ai ar (aa 0) ae (fun _ _=>rfl)) (ac (aa 1) (ac (aa 2) af)))) (ac (aq C_agreeing (hr.mono (by decide)) rfl (ac (ai ar (aa 0) ae (fun _ _=>rfl)) (ac (aa 1) (ac (aa 2) af)))) af))))) (aj (Hw 4 (aa 1) (aE (ac (aa 3) (ac (aa 2) af)))) (ap (mJ 4 (aw (cz e8 rfl T.tuple (by decide +kernel) (ac (aa 4) af))))))))
theorem sc_table_looked:FnScope kI ["table","wire","mark"] (ah fJ):=⟨rfl,rfl,rfl,by decide +kernel,rfl,by decide +kernel,by decide +kernel⟩
theorem o4 {f:Addr} {fd:FuncData} {dV:Value} (F:FunV K "table_looked" "table_looked" fJ f fd dV) (T:Txt mg) (C_look_told:Cal P w K mg base "look_told" 5 br []) (C_look_word:Cal P w K mg base "look_word" 2 cg []) (C_opened:Cal P w K mg base "opened" 5 gC []) (C_against_look:Cal P w K mg base "against_look" 4 aY []):FnOk P w K mg base cN 6 f fd ["table","wire","mark"] (dk K bq):=
 bO (k:=5) (b:=ik) F sc_table_looked fun cdv A outer s H E hr=>(aj (aA 3 sc_table_looked.nd (aq C_look_told (hr.mono (by decide)) rfl (ac (aa 0) (ac (aa 1) af)))) (aj (aA 4 sc_table_looked.nd (aq C_look_word (hr.mono (by decide)) rfl (ac (aa 0) (ac (aa 1) (ac (aa 2) af))))) (aj (bb (aD Nj (aa 3) uJ (az _)) (ap (aw (aq C_opened (hr.mono (by decide)) rfl (ac (aa 0) (ac (ai ar (aq C_against_look (hr.mono (by decide)) rfl (ac (aa 0) (ac (aa 4) af))) ae (fun _ _=>rfl)) (ac (aa 4) af)))))) aP) (aj (bb (aD (jA hr.units) (aa 3) (aa 2) (az _)) (ap Bl) aP) (ap (aw (aa 0)))))))
theorem sc_table_parted:FnScope N_table_parted ["branch","wire"] (ah d6):=⟨rfl,rfl,rfl,by decide +kernel,rfl,by decide +kernel,by decide +kernel⟩
theorem o0 {f:Addr} {fd:FuncData} {dV:Value} (F:FunV K "table_parted" "table_parted" d6 f fd dV) (T:Txt mg) (C_look_told:Cal P w K mg base "look_told" 5 br []) (C_table_looked:Cal P w K mg base "table_looked" 6 bq []):FnOk P w K mg base cN 7 f fd ["branch","wire"] (dk K aW):=
 bO (k:=6) (b:=fW) F sc_table_parted fun cdv A outer s H E hr=>(aj (aA 2 sc_table_parted.nd (aq C_look_told (hr.mono (by decide)) rfl (ac (ai ar (aa 0) ae (fun _ _=>rfl)) (ac (aa 1) af)))) (aj (bb (aD Jq (aa 2) uJ (az _)) (ap (aw (kr (ac (aE (ac (ak cx (ai ar (aa 0) ae (fun _ _=>rfl)) (aE (ac (aa 2) af))) (ac (ai ar (aa 0) ae (fun _ _=>rfl)) (ac (ai ar (aa 0) ae (fun _ _=>rfl)) af)))) af)))) aP) (ap (aw (dQ (vars:=["mark"]) (caps:=[(0,"branch"),(1,"wire")]) (by change BlkOk (ah d6).names N_table_parted _ _ _; exact ⟨rfl,by decide +kernel,by decide +kernel,by decide +kernel,by decide +kernel⟩) rfl (cV (aE (ac ae (ac ae af)))) dg (fun _ _ _ _=>bW (i:=0) (show (["mark","branch","wire"]:List Str).Nodup by decide +kernel) rfl (Or.inl rfl) (.inr rfl)) (fun _ _ _ _=>(aE (ac (ak cx (ai ar (aa 1) ae (fun _ _=>rfl)) (aE (ac (aa 0) af))) (ac (aq C_table_looked (hr.mono (by decide)) rfl (ac (ai ar (aa 1) ae (fun _ _=>rfl)) (ac (aa 2) (ac (aa 0) af)))) (ac (ak cx (ai ar (aa 1) ae (fun _ _=>rfl)) ae) af))))))))))
theorem sc_gone_through:FnScope fZ ["rows","begun","part","go"] (ah cQ):=⟨rfl,rfl,rfl,by decide +kernel,rfl,by decide +kernel,by decide +kernel⟩
theorem o6 {f:Addr} {fd:FuncData} {dV:Value} (F:FunV K "gone_through" "gone_through" cQ f fd dV) (T:Txt mg) (C_due_gone_on:Cal P w K mg base "due_gone_on" 7 bL []) (V_table_parted:CalF P w K mg base "table_parted" 7 aW) (V_parted:CalF P w K mg base "parted" 2 eR):FnOk P w K mg base cN 8 f fd ["rows","begun","part","go"] (dk K aK):=
 bO (k:=7) (b:=io) F sc_gone_through fun cdv A outer s H E hr=>(aj (lU 4 sc_gone_through.nd (ac (aa 1) af)) (aj (dY PassesOwn.never rfl (cV (aa 0)) (cY 5 sc_gone_through.nd) (ap (bb (aD (cG hr.units) (ai ar (aa 5) ae (fun _ _=>rfl)) bu (az _)) (aj (lU 6 sc_gone_through.nd af) (aj (mJ 4 (dY PassesOwn.never rfl (cV (aa 4)) (cY 7 sc_gone_through.nd) (ap (yk 6 (m9 2 (k:=7) (iU (by decide) V_parted (iU (by decide) V_table_parted uD)) (hr.mono (by decide)) (ac (aa 7) (ac (ai ar (aa 5) ae (fun _ _=>rfl)) af))))))) (ap (yj 4 6 sc_gone_through.nd (by decide))))) (ap (mJ 4 (qh 4 sc_gone_through.nd (vars:=["branch"]) (caps:=[(3,"go"),(5,"row")]) (by change BlkOk (ah cQ).names fZ _ _ _; exact ⟨rfl,by decide +kernel,by decide +kernel,by decide +kernel,by decide +kernel⟩) rfl (cV (aa 4)) dg (fun _ _ _ _=>bW (i:=0) (show (["branch","go","row"]:List Str).Nodup by decide +kernel) rfl (Or.inl rfl) (.inr rfl)) (fun _ _ _ _=>(aq C_due_gone_on (hr.mono (by decide)) rfl (ac (aa 0) (ac (aa 2) (ac (aa 1) af))))))))))) (ap (El 4))))
theorem nI {f:Addr} {fd:FuncData} {dV:Value} (F:FunV K "gone_through" "gone_through" cQ f fd dV) (T:Txt mg) (C_due_gone_on:Cal P w K mg base "due_gone_on" 7 bL []) (V_table_parted:CalF P w K mg base "table_parted" 7 aW) (V_parted:CalF P w K mg base "parted" 2 eR):FnOk P w K mg base cN 8 f fd ["rows","begun","part","go"] (HF K aK):=
 CJ (k:=7) F sc_gone_through (fun cdv A outer s H E hr=>(uQ (lU 4 sc_gone_through.nd (ac (aa 1) af)) (pS _ _) (uQ (dY PassesOwn.never rfl (cV (aa 0)) (cY 5 sc_gone_through.nd) (ap (bb (aD (cG hr.units) (ai ar (aa 5) ae (fun _ _=>rfl)) bu (az _)) (aj (lU 6 sc_gone_through.nd af) (aj (mJ 4 (dY PassesOwn.never rfl (cV (aa 4)) (cY 7 sc_gone_through.nd) (ap (yk 6 (m9 2 (k:=7) (iU (by decide) V_parted (iU (by decide) V_table_parted uD)) (hr.mono (by decide)) (ac (aa 7) (ac (ai ar (aa 5) ae (fun _ _=>rfl)) af))))))) (ap (yj 4 6 sc_gone_through.nd (by decide))))) (ap (mJ 4 (qh 4 sc_gone_through.nd (vars:=["branch"]) (caps:=[(3,"go"),(5,"row")]) (by change BlkOk (ah cQ).names fZ _ _ _; exact ⟨rfl,by decide +kernel,by decide +kernel,by decide +kernel,by decide +kernel⟩) rfl (cV (aa 4)) dg (fun _ _ _ _=>bW (i:=0) (show (["branch","go","row"]:List Str).Nodup by decide +kernel) rfl (Or.inl rfl) (.inr rfl)) (fun _ _ _ _=>(aq C_due_gone_on (hr.mono (by decide)) rfl (ac (aa 0) (ac (aa 2) (ac (aa 1) af))))))))))) (pT (show rB bN from (B6 (pR (pS _ _) (pR (ur _ (pT (show rB cD from (vM _ _)))) (vK _ _))) (ur _ (vJ _ _))))) (Gc 4)))) (BC (uq (pS _ _) (uq (pT (show rB bN from (B6 (pR (pS _ _) (pR (ur _ (pT (show rB cD from (vM _ _)))) (vK _ _))) (ur _ (vJ _ _))))) (E1 4))))
theorem vt:FnScope rH ["circuit","place"] (ah gg):=⟨rfl,rfl,rfl,by decide +kernel,rfl,by decide +kernel,by decide +kernel⟩
theorem vE {f:Addr} {fd:FuncData} {dV:Value} (F:FunV K "branches" "branches" gg f fd dV) (T:Txt mg) (C_gone_through:Cal P w K mg base "gone_through" 8 aK []) (C_beginning:Cal P w K mg base "beginning" 1 dc []) (N_gone_on:Fnm K mg "gone_on") (N_parted:Fnm K mg "parted"):FnOk P w K mg base cN 9 f fd ["circuit","place"] (dk K cF):=
 bO (k:=8) (b:=mD) F vt fun cdv A outer s H E hr=>(ap (aw (aq C_gone_through (hr.mono (by decide)) rfl (ac (ai ar (aa 0) ae (fun _ _=>rfl)) (ac (aE (ac (aE af) (ac (aq C_beginning (hr.mono (by decide)) rfl (ac (ai ar (aa 0) ae (fun _ _=>rfl)) (ac (aa 1) af))) af))) (ac (jz N_parted rfl) (ac (jz N_gone_on rfl) af)))))))
theorem qr:FnScope jg ["circuit","place"] (ah dh):=⟨rfl,rfl,rfl,by decide +kernel,rfl,by decide +kernel,by decide +kernel⟩
theorem qD {f:Addr} {fd:FuncData} {dV:Value} (F:FunV K "mark_shares" "mark_shares" dh f fd dV) (T:Txt mg) (C_whole:Cal P w K mg base "whole" 4 iV []) (C_branches:Cal P w K mg base "branches" 9 cF []):FnOk P w K mg base cN 10 f fd ["circuit","place"] (dk K cq):=
 bO (k:=9) (b:=je) F qr fun cdv A outer s H E hr=>(ap (aw (dQ (vars:=["branch"]) (caps:=[]) (by change BlkOk (ah dh).names jg _ _ _; exact ⟨rfl,by decide +kernel,by decide +kernel,by decide +kernel,by decide +kernel⟩) rfl (cV (aq C_branches (hr.mono (by decide)) rfl (ac (aa 0) (ac (aa 1) af)))) dg (fun _ _ _ _=>bW (i:=0) (show (["branch"]:List Str).Nodup by decide +kernel) rfl (Or.inl rfl) (.inr rfl)) (fun _ _ _ _=>(aE (ac (ai ar (aa 0) ae (fun _ _=>rfl)) (ac (aq C_whole (hr.mono (by decide)) rfl (ac (ai ar (aa 0) ae (fun _ _=>rfl)) af)) af)))))))
theorem sc_word_done:FnScope oM ["state","word"] (ah iN):=⟨rfl,rfl,rfl,by decide +kernel,rfl,by decide +kernel,by decide +kernel⟩
theorem uh {f:Addr} {fd:FuncData} {dV:Value} (F:FunV K "word_done" "word_done" iN f fd dV) (T:Txt mg) (C_turned:Cal P w K mg base "turned" 1 da []) (C_value_of:Cal P w K mg base "value_of" 1 bp []):FnOk P w K mg base cN 2 f fd ["state","word"] (dk K cZ):=
 bO (k:=1) (b:=kC) F sc_word_done fun cdv A outer s H E hr=>(aj (lU 2 sc_word_done.nd af) (aj (dY PassesOwn.never rfl (ce rfl T.range (ac (aQ eu rfl T.len (by decide +kernel) (ac (aa 0) af)) af)) (cY 3 sc_word_done.nd) (aj (aA 4 sc_word_done.nd (ak gR (aa 3) (ai ar (aa 1) ae (fun _ _=>rfl)))) (ap (qi 2 (aq C_turned (hr.mono (by decide)) rfl (ac (ai ar (aa 0) (aa 4) (fun _ _=>rfl)) (ac (ak cx (ak dF ae (ai ar (aa 1) ae (fun _ _=>rfl))) (ak dF ae (aq C_value_of (hr.mono (by decide)) rfl (ac (aa 4) (ac (ai ar (aa 1) ae (fun _ _=>rfl)) af))))) af))))))) (ap (mJ 2 (aw (cz e8 rfl T.tuple (by decide +kernel) (ac (aa 2) af)))))))
theorem sc_table_of:FnScope jV ["wires","place"] (ah d7):=⟨rfl,rfl,rfl,by decide +kernel,rfl,by decide +kernel,by decide +kernel⟩
theorem vD {f:Addr} {fd:FuncData} {dV:Value} (F:FunV K "table_of" "table_of" d7 f fd dV) (T:Txt mg) (C_bits_of:Cal P w K mg base "bits_of" 1 fC []) (C_worth:Cal P w K mg base "worth" 1 bY []):FnOk P w K mg base cN 2 f fd ["wires","place"] (dk K cR):=
 bO (k:=1) (b:=mC) F sc_table_of fun cdv A outer s H E hr=>(aj (aA 2 sc_table_of.nd (aq C_bits_of (hr.mono (by decide)) rfl (ac (aa 0) (ac (aa 1) af)))) (aj (aA 3 sc_table_of.nd (dQ (vars:=["wire"]) (caps:=[(0,"wires")]) (by change BlkOk (ah d7).names jV _ _ _; exact ⟨rfl,by decide +kernel,by decide +kernel,by decide +kernel,by decide +kernel⟩) rfl (ce rfl T.range (ac (aa 0) af)) dg (fun _ _ _ _=>bW (i:=0) (show (["wire","wires"]:List Str).Nodup by decide +kernel) rfl (Or.inl rfl) (.inr rfl)) (fun _ _ _ _=>(aq C_worth (hr.mono (by decide)) rfl (ac (aa 1) (ac (aa 0) af)))))) (ap (aw (cz e8 rfl T.tuple (by decide +kernel) (ac (dQ (vars:=["wire"]) (caps:=[(2,"bits"),(3,"flips")]) (by change BlkOk (ah d7).names jV _ _ _; exact ⟨rfl,by decide +kernel,by decide +kernel,by decide +kernel,by decide +kernel⟩) rfl (ce rfl T.range (ac (aa 0) af)) dg (fun _ _ _ _=>bW (i:=0) (show (["wire","bits","flips"]:List Str).Nodup by decide +kernel) rfl (Or.inl rfl) (.inr rfl)) (fun _ _ _ _=>(aE (ac (aE (ac (ai ar (aa 2) (aa 0) (fun _ _=>rfl)) (ac ae (ac ae af)))) (ac (aE (ac ae (ac (ai ar (aa 2) (aa 0) (fun _ _=>rfl)) (ac (ak dF ae (ai ar (aa 1) (aa 0) (fun _ _=>rfl))) af)))) af))))) af))))))
theorem fH:FnScope gl ["circuit","place"] (ah bT):=⟨rfl,rfl,rfl,by decide +kernel,rfl,by decide +kernel,by decide +kernel⟩
theorem mf {f:Addr} {fd:FuncData} {dV:Value} (F:FunV K "table_branches" "table_branches" bT f fd dV) (T:Txt mg) (C_refuse_odd:Cal P w K mg base "refuse_odd" 1 bn []) (C_gone_through:Cal P w K mg base "gone_through" 8 aK []) (C_table_of:Cal P w K mg base "table_of" 2 cR []) (Y_refuse_odd:CalX P w K mg base "refuse_odd" 1 dA []):FnOk P w K mg base (tP P w) 9 f fd ["circuit","place"] (Es K aU):=
 Jj (k:=8) (fx:=fV) F fH fun cdv A outer s H E hr=>(jP (yh (xt Y_refuse_odd (hr.mono (by decide)) rfl (AV.lift (ac (ai ar (aa 0) ae (fun _ _=>rfl)) af)))))
theorem mV {f:Addr} {fd:FuncData} {dV:Value} (F:FunV K "table_branches" "table_branches" bT f fd dV) (T:Txt mg) (C_refuse_odd:Cal P w K mg base "refuse_odd" 1 bn []) (C_gone_through:Cal P w K mg base "gone_through" 8 aK []) (C_table_of:Cal P w K mg base "table_of" 2 cR []) (N_table_gone_on:Fnm K mg "table_gone_on") (N_table_parted:Fnm K mg "table_parted") (O_gone_through:CalO P w K mg base "gone_through" 8 aK []):FnOk P w K mg base cN 9 f fd ["circuit","place"] (dk K ay):=
 bO (k:=8) (b:=gk) F fH fun cdv A outer s H E hr=>(aj (pI (aq C_refuse_odd (hr.mono (by decide)) rfl (ac (ai ar (aa 0) ae (fun _ _=>rfl)) af))) (ap (aw (aq C_gone_through (hr.mono (by decide)) rfl (ac (ai ar (aa 0) ae (fun _ _=>rfl)) (ac (aE (ac (aE af) (ac (aq C_table_of (hr.mono (by decide)) rfl (ac (ai ar (aa 0) ae (fun _ _=>rfl)) (ac (aa 1) af))) (ac ae af)))) (ac (jz N_table_parted rfl) (ac (jz N_table_gone_on rfl) af))))))))
theorem mh {f:Addr} {fd:FuncData} {dV:Value} (F:FunV K "table_branches" "table_branches" bT f fd dV) (T:Txt mg) (C_refuse_odd:Cal P w K mg base "refuse_odd" 1 bn []) (C_gone_through:Cal P w K mg base "gone_through" 8 aK []) (C_table_of:Cal P w K mg base "table_of" 2 cR []) (N_table_gone_on:Fnm K mg "table_gone_on") (N_table_parted:Fnm K mg "table_parted") (O_gone_through:CalO P w K mg base "gone_through" 8 aK []):FnOk P w K mg base cN 9 f fd ["circuit","place"] (HF K ay):=
 CJ (k:=8) F fH (fun cdv A outer s H E hr=>(uQ (pI (aq C_refuse_odd (hr.mono (by decide)) rfl (ac (ai ar (aa 0) ae (fun _ _=>rfl)) af))) (vN _) (xC (uL O_gone_through (hr.mono (by decide)) rfl (ac (ai ar (aa 0) ae (fun _ _=>rfl)) (ac (aE (ac (aE af) (ac (aq C_table_of (hr.mono (by decide)) rfl (ac (ai ar (aa 0) ae (fun _ _=>rfl)) (ac (aa 1) af))) (ac ae af)))) (ac (jz N_table_parted rfl) (ac (jz N_table_gone_on rfl) af)))))))) (BC (uq (vN _) (B4 _)))
theorem oW:FnScope kQ ["script","k"] (ah fP):=⟨rfl,rfl,rfl,by decide +kernel,rfl,by decide +kernel,by decide +kernel⟩
theorem pc {f:Addr} {fd:FuncData} {dV:Value} (F:FunV K "_law_cell_at" "_law_cell_at" fP f fd dV) (T:Txt mg):FnOk P w K mg base cN 1 f fd ["script","k"] (dk K aO):=
 bO (k:=0) (b:=fX) F oW fun cdv A outer s H E hr=>(aj (bb (aD AA (aa 1) (aQ eu rfl T.len (by decide +kernel) (ac (aa 0) af)) (az _)) (ap (aw (ai ar (aa 0) (aa 1) (fun _ _=>rfl)))) aP) (ap (aw ae)))
theorem rN:FnScope nr ["found"] (ah gY):=⟨rfl,rfl,rfl,by decide +kernel,rfl,by decide +kernel,by decide +kernel⟩
theorem rX {f:Addr} {fd:FuncData} {dV:Value} (F:FunV K "_law_whole" "_law_whole" gY f fd dV) (T:Txt mg):FnOk P w K mg base cN 1 f fd ["found"] (dk K cu):=
 bO (k:=0) (b:=hV) F rN fun cdv A outer s H E hr=>(ap (aw (qR (kt (T:="int") rfl T.isinstance rfl T.int (by decide +kernel) (by decide) (by decide) (aa 0)) (uI (Jk (kt (T:="bool") rfl T.isinstance rfl T.bool (by decide +kernel) (by decide) (by decide) (aa 0)))))))
theorem sc__law_odd:FnScope rL ["place"] (ah jK):=⟨rfl,rfl,rfl,by decide +kernel,rfl,by decide +kernel,by decide +kernel⟩
theorem vH {f:Addr} {fd:FuncData} {dV:Value} (F:FunV K "_law_odd" "_law_odd" jK f fd dV) (T:Txt mg):FnOk P w K mg base cN 1 f fd ["place"] (dk K cm):=
 bO (k:=0) (b:=mF) F sc__law_odd fun cdv A outer s H E hr=>(aj (aA 1 sc__law_odd.nd ae) (aj (dY PassesOwn.never rfl (ce rfl T.range (ac ae af)) (cY 2 sc__law_odd.nd) (ap (aA 1 sc__law_odd.nd (ak gR (aa 1) (ak eT (ak oF (aa 0) (aa 2)) ae))))) (ap (aw (aa 1)))))
theorem sc__law_is_word:FnScope kO ["found","wires"] (ah fN):=⟨rfl,rfl,rfl,by decide +kernel,rfl,by decide +kernel,by decide +kernel⟩
theorem o9 {f:Addr} {fd:FuncData} {dV:Value} (F:FunV K "_law_is_word" "_law_is_word" fN f fd dV) (T:Txt mg) (C__law_whole:Cal P w K mg base "_law_whole" 1 cu []):FnOk P w K mg base cN 2 f fd ["found","wires"] (dk K bM):=
 bO (k:=1) (b:=ir) F sc__law_is_word fun cdv A outer s H E hr=>(aj (bb (WV.tv (ia (dX (dj (kt (T:="tuple") rfl T.isinstance rfl T.tuple (by decide +kernel) (by decide) (by decide) (aa 0)))) (hZ (aD (jA hr.units) (aQ eu rfl T.len (by decide +kernel) (ac (aa 0) af)) ae (az _))))) (ap (aw fE)) aP) (aj (dY PassesOwn.never rfl (cV (aa 0)) (cY 2 sc__law_is_word.nd) (ap (bb (WV.tv (ia (dX (dj (aq C__law_whole (hr.mono (by decide)) rfl (ac (aa 2) af)))) (hZ (aD AA (aa 2) ae (az _))))) (ap (aw fE)) aP))) (ap (aw (qR (fU AA (ai ar (aa 0) ae (fun _ _=>rfl)) (ak ku ae (aa 1)) (az _)) (qR (fU AA (ai ar (aa 0) ae (fun _ _=>rfl)) (ak ku ae (aa 1)) (az _)) (uI (fU AA (ai ar (aa 0) ae (fun _ _=>rfl)) ae (az _)))))))))
theorem sc__law_row:FnScope rK ["cell","wires"] (ah jJ):=⟨rfl,rfl,rfl,by decide +kernel,rfl,by decide +kernel,by decide +kernel⟩
theorem vG {f:Addr} {fd:FuncData} {dV:Value} (F:FunV K "_law_row" "_law_row" jJ f fd dV) (T:Txt mg):FnOk P w K mg base cN 1 f fd ["cell","wires"] (dk K bZ):=
 bO (k:=0) (b:=fh) F sc__law_row fun cdv A outer s H E hr=>(aj (aA 2 sc__law_row.nd (ai ar (kr (ac bu (ac bu (ac bu (ac bu (ac bu (ac bu af))))))) (ak cC (aa 0) ae) (fun _ _=>rfl))) (aj (bb (aD (cG hr.units) (aa 1) ae (az _)) (ap (aA 2 sc__law_row.nd (ai ar (kr (ac bu (ac bu (ac bu af)))) (ak cC (aa 0) ae) (fun _ _=>rfl)))) aP) (aj (aA 3 sc__law_row.nd (ak cC (ak gE (aa 0) ae) (aa 1))) (aj (bb (aD (cG hr.units) (aa 2) bu (az _)) (ap (aw (aE (ac bu (ac (aa 3) (ac (ak cx ae (ak dF ae (ak cC (ak gE (aa 0) ae) ae))) af)))))) aP) (aj (bb (WV.tv (ia (aD (cG hr.units) (aa 2) bu (az _)) (hZ (aD (cG hr.units) (aa 2) bu (az _))))) (ap (aw (aE (ac (aa 2) (ac (aa 3) af))))) aP) (ap (aw (aE (ac (aa 2) (ac (aa 3) (ac (ak cC (ak cx (ak cx (aa 3) ae) (ak cC (ak gE (aa 0) ae) (ak dz (aa 1) ae))) (aa 1)) af)))))))))))
theorem rO:FnScope nv ["one","other"] (ah gZ):=⟨rfl,rfl,rfl,by decide +kernel,rfl,by decide +kernel,by decide +kernel⟩
theorem rY {f:Addr} {fd:FuncData} {dV:Value} (F:FunV K "_law_agree" "_law_agree" gZ f fd dV) (T:Txt mg) (C__law_odd:Cal P w K mg base "_law_odd" 1 cm []):FnOk P w K mg base cN 2 f fd ["one","other"] (dk K cv):=
 bO (k:=1) (b:=jU) F rO fun cdv A outer s H E hr=>(ap (aw (fU (cG hr.units) (aq C__law_odd (hr.mono (by decide)) rfl (ac (ak eT (ai ar (aa 0) ae (fun _ _=>rfl)) (ai ar (aa 1) ae (fun _ _=>rfl))) af)) (aq C__law_odd (hr.mono (by decide)) rfl (ac (ak eT (ai ar (aa 0) ae (fun _ _=>rfl)) (ai ar (aa 1) ae (fun _ _=>rfl))) af)) (az _))))
theorem sc__law_is_table:FnScope j2 ["found","wires"] (ah eY):=⟨rfl,rfl,rfl,by decide +kernel,rfl,by decide +kernel,by decide +kernel⟩
theorem nN {f:Addr} {fd:FuncData} {dV:Value} (F:FunV K "_law_is_table" "_law_is_table" eY f fd dV) (T:Txt mg) (C__law_is_word:Cal P w K mg base "_law_is_word" 2 bM []) (C__law_odd:Cal P w K mg base "_law_odd" 1 cm []) (C__law_agree:Cal P w K mg base "_law_agree" 2 cv []):FnOk P w K mg base cN 3 f fd ["found","wires"] (dk K cj):=
 bO (k:=2) (b:=gO) F sc__law_is_table fun cdv A outer s H E hr=>(aj (bb (WV.tv (ia (dX (dj (kt (T:="tuple") rfl T.isinstance rfl T.tuple (by decide +kernel) (by decide) (by decide) (aa 0)))) (hZ (aD (jA hr.units) (aQ eu rfl T.len (by decide +kernel) (ac (aa 0) af)) (aa 1) (az _))))) (ap (aw fE)) aP) (aj (dY PassesOwn.never rfl (cV (aa 0)) (cY 2 sc__law_is_table.nd) (aj (bb (WV.tv (ia (dX (dj (kt (T:="tuple") rfl T.isinstance rfl T.tuple (by decide +kernel) (by decide) (by decide) (aa 2)))) (hZ (aD (jA hr.units) (aQ eu rfl T.len (by decide +kernel) (ac (aa 2) af)) ae (az _))))) (ap (aw fE)) aP) (aj (bb (WV.tv (ia (dX (dj (aq C__law_is_word (hr.mono (by decide)) rfl (ac (ai ar (aa 2) ae (fun _ _=>rfl)) (ac (aa 1) af))))) (hZ (dX (dj (aq C__law_is_word (hr.mono (by decide)) rfl (ac (ai ar (aa 2) ae (fun _ _=>rfl)) (ac (aa 1) af)))))))) (ap (aw fE)) aP) (ap (bb (aD (cG hr.units) (ak cC (ak cx (ai ar (ai ar (aa 2) ae (fun _ _=>rfl)) ae (fun _ _=>rfl)) (aq C__law_odd (hr.mono (by decide)) rfl (ac (ak eT (ai ar (ai ar (aa 2) ae (fun _ _=>rfl)) ae (fun _ _=>rfl)) (ai ar (ai ar (aa 2) ae (fun _ _=>rfl)) ae (fun _ _=>rfl))) af))) ae) ae (az _)) (ap (aw fE)) aP))))) (aj (dY PassesOwn.never rfl (ce rfl T.range (ac (aa 1) af)) (cY 3 sc__law_is_table.nd) (ap (dY PassesOwn.never rfl (ce rfl T.range (ac (aa 1) af)) (cY 4 sc__law_is_table.nd) (ap (bb (WV.tv (ia (dX (dj (aq C__law_agree (hr.mono (by decide)) rfl (ac (ai ar (ai ar (aa 0) (aa 3) (fun _ _=>rfl)) ae (fun _ _=>rfl)) (ac (ai ar (ai ar (aa 0) (aa 4) (fun _ _=>rfl)) ae (fun _ _=>rfl)) af))))) (hZ (aD (jA hr.units) (aq C__law_agree (hr.mono (by decide)) rfl (ac (ai ar (ai ar (aa 0) (aa 3) (fun _ _=>rfl)) ae (fun _ _=>rfl)) (ac (ai ar (ai ar (aa 0) (aa 4) (fun _ _=>rfl)) ae (fun _ _=>rfl)) af))) (fU (jA hr.units) (aa 3) (aa 4) (az _)) (az _))))) (ap (aw fE)) aP))))) (ap (aw fE)))))
theorem sc__law_any_row:FnScope kR ["cell","wires","looks","most"] (ah fQ):=⟨rfl,rfl,rfl,by decide +kernel,rfl,by decide +kernel,by decide +kernel⟩
theorem pd {f:Addr} {fd:FuncData} {dV:Value} (F:FunV K "_law_any_row" "_law_any_row" fQ f fd dV) (T:Txt mg) (C__law_row:Cal P w K mg base "_law_row" 1 bZ []):FnOk P w K mg base cN 2 f fd ["cell","wires","looks","most"] (dk K aL):=
 bO (k:=1) (b:=cy) F sc__law_any_row fun cdv A outer s H E hr=>(aj (aA 4 sc__law_any_row.nd (ak cC (aa 0) ae)) (aj (bb (WV.tv (A1 (aD (cG hr.units) (aa 4) ae (az _)) (xV (aD AA (aa 2) (aa 3) (az _))))) (ap (aw (aE (ac bu (ac (ak cC (ak gE (aa 0) ae) (aa 1)) af))))) aP) (aj (bb (WV.tv (A1 (aD (cG hr.units) (aa 4) ae (az _)) (xV (aD Nk (aa 2) ae (az _))))) (aj (aA 5 sc__law_any_row.nd (aE (ac bu (ac (ak cC (ak gE (aa 0) ae) (aa 1)) af)))) (aj (bb (aD (cG hr.units) (ak cC (ak gE (aa 0) ae) ae) ae (az _)) (ap (aA 5 sc__law_any_row.nd (aE (ac bu (ac (ak cC (ak gE (aa 0) ae) (aa 1)) (ac ae af)))))) aP) (ap (aw (aE (ac bu (ac (ak cC (ak gE (aa 0) ae) (aa 2)) (ac (aa 5) af)))))))) aP) (ap (aw (aq C__law_row (hr.mono (by decide)) rfl (ac (ak gE (aa 0) ae) (ac (aa 1) af))))))))
theorem sc__law_circuit:FnScope kP ["cells","wires"] (ah fO):=⟨rfl,rfl,rfl,by decide +kernel,rfl,by decide +kernel,by decide +kernel⟩
theorem pb {f:Addr} {fd:FuncData} {dV:Value} (F:FunV K "_law_circuit" "_law_circuit" fO f fd dV) (T:Txt mg) (C__law_any_row:Cal P w K mg base "_law_any_row" 2 aL []):FnOk P w K mg base cN 3 f fd ["cells","wires"] (dk K b6):=
 bO (k:=2) (b:=iu) F sc__law_circuit fun cdv A outer s H E hr=>(aj (lU 2 sc__law_circuit.nd af) (aj (aA 3 sc__law_circuit.nd ae) (aj (dY PassesOwn.never rfl (cV (aa 0)) (cY 4 sc__law_circuit.nd) (aj (qi 2 (aq C__law_any_row (hr.mono (by decide)) rfl (ac (aa 4) (ac (aa 1) (ac (aa 3) (ac (ai ar (kr (ac ae (ac ae (ac ae af)))) (ak dz (aa 1) ae) (fun _ _=>rfl)) af)))))) (ap (aA 3 sc__law_circuit.nd (ak cx (aa 3) (cz G5 rfl T.int (by decide +kernel) (ac (fU (cG hr.units) (ai ar (CP 2 (kq kw ae) (fun _ _=>rfl)) ae (fun _ _=>rfl)) bu (az _)) af))))))) (ap (mJ 2 (aw (aE (ac (aa 1) (ac (cz e8 rfl T.tuple (by decide +kernel) (ac (aa 2) af)) af)))))))))
theorem jG:FnScope kM ["circuit","place"] (ah fw):=⟨rfl,rfl,rfl,by decide +kernel,rfl,by decide +kernel,by decide +kernel⟩
theorem rQ {f:Addr} {fd:FuncData} {dV:Value} (F:FunV K "_law_told" "_law_told" fw f fd dV) (T:Txt mg) (C_table_branches:Cal P w K mg base "table_branches" 9 ay []) (C_table_branches1:Cal P w K mg base "table_branches" 9 ay [.int 0]) (Y_table_branches:CalX P w K mg base "table_branches" 9 aU []) (Y_table_branches1:CalX P w K mg base "table_branches" 9 aU [.int 0]):FnOk P w K mg base (tP P w) 10 f fd ["circuit","place"] (Es K cw):=
 Jj (k:=9) (fx:=g9) F jG fun cdv A outer s H E hr=>(Gb (GA (TV.lift (aD (cG hr.units) (aa 1) ae (az _))) (jP (Be (FT Y_table_branches1 (hr.mono (by decide)) rfl (AV.lift (ac (aa 0) af))))) G7) (SV.lift (bb (aD (cG hr.units) (aa 1) ae (az _)) (ap (aw (xu C_table_branches1 (hr.mono (by decide)) rfl (ac (aa 0) af)))) aP)) (jP (Be (xt Y_table_branches (hr.mono (by decide)) rfl (AV.lift (ac (aa 0) (ac (aa 1) af)))))))
theorem uo {f:Addr} {fd:FuncData} {dV:Value} (F:FunV K "_law_told" "_law_told" fw f fd dV) (T:Txt mg) (C_table_branches:Cal P w K mg base "table_branches" 9 ay []) (C_table_branches1:Cal P w K mg base "table_branches" 9 ay [.int 0]) (O_table_branches:CalO P w K mg base "table_branches" 9 ay []) (O_table_branches1:CalO P w K mg base "table_branches" 9 ay [.int 0]):FnOk P w K mg base cN 10 f fd ["circuit","place"] (dk K aS):=
 bO (k:=9) (b:=iZ) F jG fun cdv A outer s H E hr=>(aj (bb (aD (cG hr.units) (aa 1) ae (az _)) (ap (aw (xu C_table_branches1 (hr.mono (by decide)) rfl (ac (aa 0) af)))) aP) (ap (aw (aq C_table_branches (hr.mono (by decide)) rfl (ac (aa 0) (ac (aa 1) af))))))
theorem rR {f:Addr} {fd:FuncData} {dV:Value} (F:FunV K "_law_told" "_law_told" fw f fd dV) (T:Txt mg) (C_table_branches:Cal P w K mg base "table_branches" 9 ay []) (C_table_branches1:Cal P w K mg base "table_branches" 9 ay [.int 0]) (O_table_branches:CalO P w K mg base "table_branches" 9 ay []) (O_table_branches1:CalO P w K mg base "table_branches" 9 ay [.int 0]):FnOk P w K mg base cN 10 f fd ["circuit","place"] (HF K aS):=
 CJ (k:=9) F jG (fun cdv A outer s H E hr=>(Lu (aD (cG hr.units) (aa 1) ae (az _)) (xC (CT O_table_branches1 (hr.mono (by decide)) rfl (ac (aa 0) af))) (xC (uL O_table_branches (hr.mono (by decide)) rfl (ac (aa 0) (ac (aa 1) af)))))) (BC (Ky (B4 _)))
theorem sc__law_refused:FnScope kN ["circuit","place"] (ah fM):=⟨rfl,rfl,rfl,by decide +kernel,rfl,by decide +kernel,by decide +kernel⟩
theorem o8 {f:Addr} {fd:FuncData} {dV:Value} (F:FunV K "_law_refused" "_law_refused" fM f fd dV) (T:Txt mg) (C__law_told:Cal P w K mg base "_law_told" 10 aS []) (Y__law_told:CalX P w K mg base "_law_told" 10 cw []) (I_Barred:IsX K "Barred" jj) (I_ValueError:IsT K "ValueError" eN) (I_OddTurn:IsX K "OddTurn" ib) (H_WaveError:Hnd K "WaveError" hs_WaveError):FnOk P w K mg base cN 11 f fd ["circuit","place"] (dk K b5):=
 bO (k:=10) (b:=iq) F sc__law_refused fun cdv A outer s H E hr=>(aj (aA 2 sc__law_refused.nd (kr af)) (aj (Hv 3 H_WaveError rfl sc__law_refused.nd rfl rfl rfl rfl (ap (pI (aq C__law_told (hr.mono (by decide)) rfl (ac (aa 0) (ac (aa 1) af))))) (fun _ _=>(jP (yh (xt Y__law_told (hr.mono (by decide)) rfl (AV.lift (ac (aa 0) (ac (aa 1) af))))))) (fun _=>(ap (aA 2 sc__law_refused.nd (kr (ac (CQ I_OddTurn rfl T.isinstance rfl (aa 3)) (ac (FU I_ValueError rfl T.isinstance rfl T.ValueError (aa 3)) (ac (CQ I_Barred rfl T.isinstance rfl (aa 3)) af)))))))) (ap (aw (fU (cG hr.units) (aa 2) (kr (ac fE (ac fE (ac fE af)))) (az _))))))
theorem sc__law_triple_good:FnScope iA ["triple","marks","state","share_due","wires"] (ah dD):=⟨rfl,rfl,rfl,by decide +kernel,rfl,by decide +kernel,by decide +kernel⟩
theorem lG {f:Addr} {fd:FuncData} {dV:Value} (F:FunV K "_law_triple_good" "_law_triple_good" dD f fd dV) (T:Txt mg) (C__law_is_table:Cal P w K mg base "_law_is_table" 3 cj []) (C__law_whole:Cal P w K mg base "_law_whole" 1 cu []) (C_word_done:Cal P w K mg base "word_done" 2 cZ []):FnOk P w K mg base cN 4 f fd ["triple","marks","state","share_due","wires"] (dk K bt):=
 bO (k:=3) (b:=e9) F sc__law_triple_good fun cdv A outer s H E hr=>(aj (bb (WV.tv (ia (dX (dj (kt (T:="tuple") rfl T.isinstance rfl T.tuple (by decide +kernel) (by decide) (by decide) (aa 0)))) (ia (aD (jA hr.units) (aQ eu rfl T.len (by decide +kernel) (ac (aa 0) af)) ae (az _)) (hZ (dX (dj (kt (T:="tuple") rfl T.isinstance rfl T.tuple (by decide +kernel) (by decide) (by decide) (ai ar (aa 0) ae (fun _ _=>rfl))))))))) (ap (aw fE)) aP) (aj (bb (WV.tv (ia (aD (jA hr.units) (ai ar (aa 0) ae (fun _ _=>rfl)) (aa 1) (az _)) (ia (dX (dj (aq C__law_whole (hr.mono (by decide)) rfl (ac (ai ar (aa 0) ae (fun _ _=>rfl)) af)))) (hZ (aD (jA hr.units) (aE (ac ae (ac ae (ac (ai ar (aa 0) ae (fun _ _=>rfl)) af)))) (aa 3) (az _)))))) (ap (aw fE)) aP) (aj (bb (dX (dj (aq C__law_is_table (hr.mono (by decide)) rfl (ac (ai ar (aa 0) ae (fun _ _=>rfl)) (ac (aa 4) af))))) (ap (aw fE)) aP) (aj (dY PassesOwn.never rfl (cV (ai ar (aa 0) ae (fun _ _=>rfl))) (cY 5 sc__law_triple_good.nd) (ap (bb (aD (jA hr.units) (aq C_word_done (hr.mono (by decide)) rfl (ac (aa 2) (ac (ai ar (aa 5) ae (fun _ _=>rfl)) af))) (aa 2) (az _)) (ap (aw fE)) aP))) (aj (dY PassesOwn.never rfl (cV (ai ar (aa 0) ae (fun _ _=>rfl))) (cY 6 sc__law_triple_good.nd) (ap (bb (dX (dj (aq C__law_whole (hr.mono (by decide)) rfl (ac (aa 6) af)))) (ap (aw fE)) aP))) (ap (aw fE)))))))
theorem sc_law:FnScope Dj ["script"] (ah mP):=⟨rfl,rfl,rfl,by decide +kernel,rfl,by decide +kernel,by decide +kernel⟩
theorem Ix {f:Addr} {fd:FuncData} {dV:Value} (F:FunV K "law" "law" mP f fd dV) (T:Txt mg) (C__law_circuit:Cal P w K mg base "_law_circuit" 3 b6 []) (C_branches:Cal P w K mg base "branches" 9 cF []) (C_mark_shares:Cal P w K mg base "mark_shares" 10 cq []) (C__law_told:Cal P w K mg base "_law_told" 10 aS []) (C__law_refused:Cal P w K mg base "_law_refused" 11 b5 []) (C__law_cell_at:Cal P w K mg base "_law_cell_at" 1 aO []) (C__law_triple_good:Cal P w K mg base "_law_triple_good" 4 bt []) (O__law_told:CalO P w K mg base "_law_told" 10 aS []):FnOk P w K mg base cN 12 f fd ["script"] (dk K CG):=
 bO (k:=11) (b:=tI) F sc_law fun cdv A outer s H E hr=>(aj (aA 1 sc_law.nd (ak cx ae (ak cC (aq C__law_cell_at (hr.mono (by decide)) rfl (ac (aa 0) (ac ae af))) ae))) (aj (aA 2 sc_law.nd (ak cC (aq C__law_cell_at (hr.mono (by decide)) rfl (ac (aa 0) (ac ae af))) (ak ku ae (aa 1)))) (aj (aA 3 sc_law.nd (aq C__law_circuit (hr.mono (by decide)) rfl (ac (m8 (aa 0) (lm ae) (lm (ak dz ae (ak dF ae (cz G5 rfl T.int (by decide +kernel) (ac (fU (cG hr.units) (aa 1) ae (az _)) af)))))) (ac (aa 1) af)))) (aj (aA 4 sc_law.nd (aq C_branches (hr.mono (by decide)) rfl (ac (aa 3) (ac (aa 2) af)))) (aj (aA 5 sc_law.nd (aq C_mark_shares (hr.mono (by decide)) rfl (ac (aa 3) (ac (aa 2) af)))) (aj (Em 6 sc_law.nd (uL O__law_told (hr.mono (by decide)) rfl (ac (aa 3) (ac (aa 2) af)))) (aj (bb (x9 6 (WV.tv (ia (dX (dj (kt (T:="list") rfl T.isinstance rfl T.list (by decide +kernel) (by decide) (by decide) (aa 6)))) (ia (aD (jA hr.units) (aQ eu rfl T.len (by decide +kernel) (ac (aa 6) af)) (aQ eu rfl T.len (by decide +kernel) (ac (aa 4) af)) (az _)) (hZ (aD (jA hr.units) (aQ eu rfl T.len (by decide +kernel) (ac (aa 5) af)) (aQ eu rfl T.len (by decide +kernel) (ac (aa 4) af)) (az _))))))) (ap (aw fE)) aP) (aj (dY PassesOwn.never rfl (ce rfl T.range (ac (aQ eu rfl T.len (by decide +kernel) (ac (aa 4) af)) af)) (cY 7 sc_law.nd) (ap (bb (dX (dj (aq C__law_triple_good (hr.mono (by decide)) rfl (ac (CP 6 (aa 7) (fun _ _=>rfl)) (ac (ai ar (ai ar (aa 4) (aa 7) (fun _ _=>rfl)) ae (fun _ _=>rfl)) (ac (ai ar (ai ar (aa 4) (aa 7) (fun _ _=>rfl)) ae (fun _ _=>rfl)) (ac (ai ar (ai ar (aa 5) (aa 7) (fun _ _=>rfl)) ae (fun _ _=>rfl)) (ac (aa 1) af)))))))) (ap (aw fE)) aP))) (aj (qi 6 uJ) (aj (bb (x9 6 (aD (jA hr.units) (aq C__law_told (hr.mono (by decide)) rfl (ac (aa 3) (ac (aa 2) af))) (m8 (aa 6) yD (lm (kq kw ae))) (az _))) (ap (aw fE)) aP) (aj (aA 8 sc_law.nd (aQ (G3 rfl) rfl T.min (by decide +kernel) (ac ae (ac (ak cC (ak gE (aq C__law_cell_at (hr.mono (by decide)) rfl (ac (aa 0) (ac ae af))) ae) (ak cx (aQ eu rfl T.len (by decide +kernel) (ac (ai ar (aa 3) ae (fun _ _=>rfl)) af)) ae)) af)))) (aj (aA 9 sc_law.nd (aE (ac bu (ac (ak cC (aa 8) (aa 1)) (ac (ak cx ae (ak dF ae (ak cC (aa 8) ae))) af))))) (aj (aA 10 sc_law.nd (ak cx (ak cx (m8 (ai ar (aa 3) ae (fun _ _=>rfl)) yD (lm (aa 8))) (aE (ac (aa 9) af))) (m8 (ai ar (aa 3) ae (fun _ _=>rfl)) (lm (aa 8)) (lm ae)))) (ap (aw (aq C__law_refused (hr.mono (by decide)) rfl (ac (aE (ac (aa 1) (ac (aa 10) af))) (ac (aa 2) af))))))))))))))))))
end
theorem qY:aB "twos_shared" gm ["joined","most"]:=fun _ _ _ _ _ _ us hl=>by obtain ⟨_,_,rfl⟩:=dy hl; exact rfl
theorem xJ:aB "by_root" lf ["a","b","c","d"]:=fun _ _ _ _ _ _ us hl=>by obtain ⟨_,_,_,_,rfl⟩:=Fi hl; exact rfl
theorem mx:aB "parts_over" dP ["x","k"]:=fun _ _ _ _ _ _ us hl=>by obtain ⟨_,_,rfl⟩:=dy hl; exact rfl
theorem Gg:aB "plus" t7 ["x","y"]:=fun _ _ _ _ _ _ us hl=>by obtain ⟨_,_,rfl⟩:=dy hl; exact rfl
theorem xL:aB "against" lg ["x"]:=fun _ _ _ _ _ _ us hl=>by obtain ⟨_,rfl⟩:=pf hl; exact rfl
theorem AH:aB "turned" mO ["x","e"]:=fun _ _ _ _ _ _ us hl=>by obtain ⟨_,_,rfl⟩:=dy hl; exact rfl
theorem AK:aB "halved" mQ ["x"]:=fun _ _ _ _ _ _ us hl=>by obtain ⟨_,rfl⟩:=pf hl; exact rfl
theorem kB:aB "parts_over" di ["x","k"]:=fun _ _ _ _ _ _ us hl=>by obtain ⟨_,_,rfl⟩:=dy hl; exact rfl
theorem sf:aB "share_plus" gX ["x","y"]:=fun _ _ _ _ _ _ us hl=>by obtain ⟨_,_,rfl⟩:=dy hl; exact rfl
theorem xF:aB "size_of" kW ["x"]:=fun _ _ _ _ _ _ us hl=>by obtain ⟨_,rfl⟩:=pf hl; exact rfl
theorem C5:aB "worth" pL ["wires","wire"]:=fun _ _ _ _ _ _ us hl=>by obtain ⟨_,_,rfl⟩:=dy hl; exact rfl
theorem xK:aB "bits_of" jq ["wires","place"]:=fun _ _ _ _ _ _ us hl=>by obtain ⟨_,_,rfl⟩:=dy hl; exact rfl
theorem C7:aB "swung" pN ["state","bit"]:=fun _ _ _ _ _ _ us hl=>by obtain ⟨_,_,rfl⟩:=dy hl; exact rfl
theorem pq:aB "turned_where" dZ ["state","held","e"]:=fun _ _ _ _ _ _ us hl=>by obtain ⟨_,_,_,rfl⟩:=mX hl; exact rfl
theorem n4:aB "flipped_where" dG ["state","held","bit"]:=fun _ _ _ _ _ _ us hl=>by obtain ⟨_,_,_,rfl⟩:=mX hl; exact rfl
theorem uX:aB "exchanged" iQ ["place","both"]:=fun _ _ _ _ _ _ us hl=>by obtain ⟨_,_,rfl⟩:=dy hl; exact rfl
theorem Gh:aB "done" qv ["state","row"]:=fun _ _ _ _ _ _ us hl=>by obtain ⟨_,_,rfl⟩:=dy hl; exact rfl
theorem C6:aB "whole" pM ["state"]:=fun _ _ _ _ _ _ us hl=>by obtain ⟨_,rfl⟩:=pf hl; exact rfl
theorem xG:aB "left_by" jp ["state","bit","mark"]:=fun _ _ _ _ _ _ us hl=>by obtain ⟨_,_,_,rfl⟩:=mX hl; exact rfl
theorem uW:aB "is_nought" gy ["state"]:=fun _ _ _ _ _ _ us hl=>by obtain ⟨_,rfl⟩:=pf hl; exact rfl
theorem AI:aB "parted" jn ["branch","wire"]:=fun _ _ _ _ _ _ us hl=>by obtain ⟨_,_,rfl⟩:=dy hl; exact rfl
theorem xH:aB "gone_on" kY ["branch","row"]:=fun _ _ _ _ _ _ us hl=>by obtain ⟨_,_,rfl⟩:=dy hl; exact rfl
theorem lN:aB "refuse_odd" dB ["rows"]:=fun _ _ _ _ _ _ us hl=>by obtain ⟨_,rfl⟩:=pf hl; exact rfl
theorem wo:aB "value_of" jH ["bitset","bits"]:=fun _ _ _ _ _ _ us hl=>by obtain ⟨_,_,rfl⟩:=dy hl; exact rfl
theorem nZ:aB "swing_carried" eX ["word","bit"]:=fun _ _ _ _ _ _ us hl=>by obtain ⟨_,_,rfl⟩:=dy hl; exact rfl
theorem pv:aB "turn_carried" fI ["word","bit","e"]:=fun _ _ _ _ _ _ us hl=>by obtain ⟨_,_,_,rfl⟩:=mX hl; exact rfl
theorem qZ:aB "tie_carried" gp ["word","first","second"]:=fun _ _ _ _ _ _ us hl=>by obtain ⟨_,_,_,rfl⟩:=mX hl; exact rfl
theorem pA:aB "sign_carried" fL ["word","first","second"]:=fun _ _ _ _ _ _ us hl=>by obtain ⟨_,_,_,rfl⟩:=mX hl; exact rfl
theorem xI:aB "carried" kZ ["wires","word","row"]:=fun _ _ _ _ _ _ us hl=>by obtain ⟨_,_,_,rfl⟩:=mX hl; exact rfl
theorem se:aB "table_done" fK ["table","row"]:=fun _ _ _ _ _ _ us hl=>by obtain ⟨_,_,rfl⟩:=dy hl; exact rfl
theorem nY:aB "table_gone_on" eW ["branch","row"]:=fun _ _ _ _ _ _ us hl=>by obtain ⟨_,_,rfl⟩:=dy hl; exact rfl
theorem q9:aB "due_gone_on" gq ["branch","row","go"]:=fun _ _ _ _ _ _ us hl=>by obtain ⟨_,_,_,rfl⟩:=mX hl; exact rfl
theorem uU:aB "look_word" iO ["table","wire","mark"]:=fun _ _ _ _ _ _ us hl=>by obtain ⟨_,_,_,rfl⟩:=mX hl; exact rfl
theorem sd:aB "word_times" gW ["one","other"]:=fun _ _ _ _ _ _ us hl=>by obtain ⟨_,_,rfl⟩:=dy hl; exact rfl
theorem C8:aB "agree" pO ["one","other"]:=fun _ _ _ _ _ _ us hl=>by obtain ⟨_,_,rfl⟩:=dy hl; exact rfl
theorem q8:aB "keepers_for" eO ["table","word"]:=fun _ _ _ _ _ _ us hl=>by obtain ⟨_,_,rfl⟩:=dy hl; exact rfl
theorem pB:aB "against_look" eh ["table","word"]:=fun _ _ _ _ _ _ us hl=>by obtain ⟨_,_,rfl⟩:=dy hl; exact rfl
theorem uV:aB "look_told" iP ["table","wire"]:=fun _ _ _ _ _ _ us hl=>by obtain ⟨_,_,rfl⟩:=dy hl; exact rfl
theorem wq:aB "agreeing" jI ["word","look","keeper"]:=fun _ _ _ _ _ _ us hl=>by obtain ⟨_,_,_,rfl⟩:=mX hl; exact rfl
theorem AJ:aB "opened" j5 ["table","wire","look"]:=fun _ _ _ _ _ _ us hl=>by obtain ⟨_,_,_,rfl⟩:=mX hl; exact rfl
theorem pz:aB "table_looked" fJ ["table","wire","mark"]:=fun _ _ _ _ _ _ us hl=>by obtain ⟨_,_,_,rfl⟩:=mX hl; exact rfl
theorem px:aB "table_parted" d6 ["branch","wire"]:=fun _ _ _ _ _ _ us hl=>by obtain ⟨_,_,rfl⟩:=dy hl; exact rfl
theorem j0:aB "gone_through" cQ ["rows","begun","part","go"]:=fun _ _ _ _ _ _ us hl=>by obtain ⟨_,_,_,_,rfl⟩:=Fi hl; exact rfl
theorem uT:aB "word_done" iN ["state","word"]:=fun _ _ _ _ _ _ us hl=>by obtain ⟨_,_,rfl⟩:=dy hl; exact rfl
theorem pF:aB "_law_cell_at" fP ["script","k"]:=fun _ _ _ _ _ _ us hl=>by obtain ⟨_,_,rfl⟩:=dy hl; exact rfl
theorem sj:aB "_law_whole" gY ["found"]:=fun _ _ _ _ _ _ us hl=>by obtain ⟨_,rfl⟩:=pf hl; exact rfl
theorem wv:aB "_law_odd" jK ["place"]:=fun _ _ _ _ _ _ us hl=>by obtain ⟨_,rfl⟩:=pf hl; exact rfl
theorem pD:aB "_law_is_word" fN ["found","wires"]:=fun _ _ _ _ _ _ us hl=>by obtain ⟨_,_,rfl⟩:=dy hl; exact rfl
theorem wu:aB "_law_row" jJ ["cell","wires"]:=fun _ _ _ _ _ _ us hl=>by obtain ⟨_,_,rfl⟩:=dy hl; exact rfl
theorem sk:aB "_law_agree" gZ ["one","other"]:=fun _ _ _ _ _ _ us hl=>by obtain ⟨_,_,rfl⟩:=dy hl; exact rfl
theorem n9:aB "_law_is_table" eY ["found","wires"]:=fun _ _ _ _ _ _ us hl=>by obtain ⟨_,_,rfl⟩:=dy hl; exact rfl
theorem pG:aB "_law_any_row" fQ ["cell","wires","looks","most"]:=fun _ _ _ _ _ _ us hl=>by obtain ⟨_,_,_,_,rfl⟩:=Fi hl; exact rfl
theorem pE:aB "_law_circuit" fO ["cells","wires"]:=fun _ _ _ _ _ _ us hl=>by obtain ⟨_,_,rfl⟩:=dy hl; exact rfl
theorem jQ:aB "_law_told" fw ["circuit","place"]:=fun _ _ _ _ _ _ us hl=>by obtain ⟨_,_,rfl⟩:=dy hl; exact rfl
theorem pC:aB "_law_refused" fM ["circuit","place"]:=fun _ _ _ _ _ _ us hl=>by obtain ⟨_,_,rfl⟩:=dy hl; exact rfl
theorem lH:aB "_law_triple_good" dD ["triple","marks","state","share_due","wires"]:=fun _ _ _ _ _ _ us hl=>by obtain ⟨_,_,_,_,_,rfl⟩:=KY hl; exact rfl
theorem Jy {l:PySem.W.OpenLaw} {w:World} {K:PySem.W.Frag} {h:Heap} {mg:Str->Option Value} {fa f2 f8 f14 f46 f47 f49 f50 f63 t2 t8 t14 t46 t47 t49 t50 xc_Barred xc_OddTurn xc_WaveError f_NOUGHT f_ONE:Addr} {od2 an2 od8 an8 od14 an14 od46 an46 od47 an47 od49 an49 od50 an50 od63 an63 td2 td8 td14 td46 td47 td49 td50 td_NOUGHT td_ONE:Option Addr} {sl2 sl8 sl14 sl46 sl47 sl49 sl50 sl63 ts2 ts8 ts14 ts46 ts47 ts49 ts50 ts_NOUGHT ts_ONE:Array (Option Value)} {oc2 kV2 dc2 pm2 cd2 ct2 oc8 kV8 dc8 pm8 cd8 ct8 oc14 kV14 dc14 pm14 cd14 ct14 oc46 kV46 dc46 pm46 cd46 ct46 oc47 kV47 dc47 pm47 cd47 ct47 oc49 kV49 dc49 pm49 cd49 ct49 oc50 kV50 dc50 pm50 cd50 ct50 oc63 kV63 dc63 pm63 cd63 ct63 tc2 tc8 tc14 tc46 tc47 tc49 tc50:Value} {tn2 tn8 tn14 tn46 tn47 tn49 tn50 tn_NOUGHT tn_ONE:Nat} {tk2_0 tk8_0 tk14_0 tk46_0 tk47_0 tk49_0 tk50_0 tk_NOUGHT_0 tk_NOUGHT_1 tk_NOUGHT_2 tk_NOUGHT_3 tk_NOUGHT_4 tk_ONE_0 tk_ONE_1 tk_ONE_2 tk_ONE_3 tk_ONE_4:Tok} (X:K.In h) (G:h.Ns mainGlobals mg) (hfa:mg "law" = some (.ref fa))
  (D0:DefIn K "twos_shared" "twos_shared" gm)
  (D1:DefIn K "by_root" "by_root" lf)
  (a2:PySem.W.nsIn K mainGlobals "number" = some (some (.ref f2))) (l2:K.lookup f2=some ⟨oc2,od2,.func (PySem.W.fnOf "number" "number" (cA jo) (bP jo) (ah jo) (.ref t2) kV2 dc2 pm2 an2 cd2 ct2),sl2⟩) (c2:PySem.W.codeIn K cd2 "number" = true) (k2:PySem.W.keepIn K (.ref f2)=true)
  (d2:K.lookup t2=some ⟨tc2,td2,.seq #[.int 0 tk2_0] tn2,ts2⟩)
  (D3:DefIn K "parts_over_ring" "parts_over" dP)
  (D4:DefIn K "plus" "plus" t7)
  (D5:DefIn K "against" "against" lg)
  (D6:DefIn K "turned" "turned" mO)
  (D7:DefIn K "halved" "halved" mQ)
  (a8:PySem.W.nsIn K mainGlobals "share" = some (some (.ref f8))) (l8:K.lookup f8=some ⟨oc8,od8,.func (PySem.W.fnOf "share" "share" (cA kX) (bP kX) (ah kX) (.ref t8) kV8 dc8 pm8 an8 cd8 ct8),sl8⟩) (c8:PySem.W.codeIn K cd8 "share" = true) (k8:PySem.W.keepIn K (.ref f8)=true)
  (d8:K.lookup t8=some ⟨tc8,td8,.seq #[.int 0 tk8_0] tn8,ts8⟩)
  (D9:DefIn K "parts_over_shares" "parts_over" di)
  (D10:DefIn K "share_plus" "share_plus" gX)
  (D11:DefIn K "size_of" "size_of" kW)
  (D12:DefIn K "worth" "worth" pL)
  (D13:DefIn K "bits_of" "bits_of" jq)
  (a14:PySem.W.nsIn K mainGlobals "beginning" = some (some (.ref f14))) (l14:K.lookup f14=some ⟨oc14,od14,.func (PySem.W.fnOf "beginning" "beginning" (cA d9) (bP d9) (ah d9) (.ref t14) kV14 dc14 pm14 an14 cd14 ct14),sl14⟩) (c14:PySem.W.codeIn K cd14 "beginning" = true) (k14:PySem.W.keepIn K (.ref f14)=true)
  (d14:K.lookup t14=some ⟨tc14,td14,.seq #[.int 0 tk14_0] tn14,ts14⟩)
  (D15:DefIn K "swung" "swung" pN)
  (D16:DefIn K "turned_where" "turned_where" dZ)
  (D17:DefIn K "flipped_where" "flipped_where" dG)
  (D18:DefIn K "exchanged" "exchanged" iQ)
  (D19:DefIn K "done" "done" qv)
  (D20:DefIn K "whole" "whole" pM)
  (D21:DefIn K "left_by" "left_by" jp)
  (D22:DefIn K "is_nought" "is_nought" gy)
  (D23:DefIn K "parted" "parted" jn)
  (D24:DefIn K "gone_on" "gone_on" kY)
  (D25:DefIn K "refuse_odd" "refuse_odd" dB)
  (D26:DefIn K "value_of" "value_of" jH)
  (D27:DefIn K "swing_carried" "swing_carried" eX)
  (D28:DefIn K "turn_carried" "turn_carried" fI)
  (D29:DefIn K "tie_carried" "tie_carried" gp)
  (D30:DefIn K "sign_carried" "sign_carried" fL)
  (D31:DefIn K "carried" "carried" kZ)
  (D32:DefIn K "table_done" "table_done" fK)
  (D33:DefIn K "table_gone_on" "table_gone_on" eW)
  (D34:DefIn K "due_gone_on" "due_gone_on" gq)
  (D35:DefIn K "look_word" "look_word" iO)
  (D36:DefIn K "word_times" "word_times" gW)
  (D37:DefIn K "agree" "agree" pO)
  (D38:DefIn K "keepers_for" "keepers_for" eO)
  (D39:DefIn K "against_look" "against_look" eh)
  (D40:DefIn K "look_told" "look_told" iP)
  (D41:DefIn K "agreeing" "agreeing" jI)
  (D42:DefIn K "opened" "opened" j5)
  (D43:DefIn K "table_looked" "table_looked" fJ)
  (D44:DefIn K "table_parted" "table_parted" d6)
  (D45:DefIn K "gone_through" "gone_through" cQ)
  (a46:PySem.W.nsIn K mainGlobals "branches" = some (some (.ref f46))) (l46:K.lookup f46=some ⟨oc46,od46,.func (PySem.W.fnOf "branches" "branches" (cA gg) (bP gg) (ah gg) (.ref t46) kV46 dc46 pm46 an46 cd46 ct46),sl46⟩) (c46:PySem.W.codeIn K cd46 "branches" = true) (k46:PySem.W.keepIn K (.ref f46)=true)
  (d46:K.lookup t46=some ⟨tc46,td46,.seq #[.int 0 tk46_0] tn46,ts46⟩)
  (a47:PySem.W.nsIn K mainGlobals "mark_shares" = some (some (.ref f47))) (l47:K.lookup f47=some ⟨oc47,od47,.func (PySem.W.fnOf "mark_shares" "mark_shares" (cA dh) (bP dh) (ah dh) (.ref t47) kV47 dc47 pm47 an47 cd47 ct47),sl47⟩) (c47:PySem.W.codeIn K cd47 "mark_shares" = true) (k47:PySem.W.keepIn K (.ref f47)=true)
  (d47:K.lookup t47=some ⟨tc47,td47,.seq #[.int 0 tk47_0] tn47,ts47⟩)
  (D48:DefIn K "word_done" "word_done" iN)
  (a49:PySem.W.nsIn K mainGlobals "table_of" = some (some (.ref f49))) (l49:K.lookup f49=some ⟨oc49,od49,.func (PySem.W.fnOf "table_of" "table_of" (cA d7) (bP d7) (ah d7) (.ref t49) kV49 dc49 pm49 an49 cd49 ct49),sl49⟩) (c49:PySem.W.codeIn K cd49 "table_of" = true) (k49:PySem.W.keepIn K (.ref f49)=true)
  (d49:K.lookup t49=some ⟨tc49,td49,.seq #[.int 0 tk49_0] tn49,ts49⟩)
  (a50:PySem.W.nsIn K mainGlobals "table_branches" = some (some (.ref f50))) (l50:K.lookup f50=some ⟨oc50,od50,.func (PySem.W.fnOf "table_branches" "table_branches" (cA bT) (bP bT) (ah bT) (.ref t50) kV50 dc50 pm50 an50 cd50 ct50),sl50⟩) (c50:PySem.W.codeIn K cd50 "table_branches" = true) (k50:PySem.W.keepIn K (.ref f50)=true)
  (d50:K.lookup t50=some ⟨tc50,td50,.seq #[.int 0 tk50_0] tn50,ts50⟩)
  (D51:DefIn K "_law_cell_at" "_law_cell_at" fP)
  (D52:DefIn K "_law_whole" "_law_whole" gY)
  (D53:DefIn K "_law_odd" "_law_odd" jK)
  (D54:DefIn K "_law_is_word" "_law_is_word" fN)
  (D55:DefIn K "_law_row" "_law_row" jJ)
  (D56:DefIn K "_law_agree" "_law_agree" gZ)
  (D57:DefIn K "_law_is_table" "_law_is_table" eY)
  (D58:DefIn K "_law_any_row" "_law_any_row" fQ)
  (D59:DefIn K "_law_circuit" "_law_circuit" fO)
  (D60:DefIn K "_law_told" "_law_told" fw)
  (D61:DefIn K "_law_refused" "_law_refused" fM)
  (D62:DefIn K "_law_triple_good" "_law_triple_good" dD)
  (a63:PySem.W.nsIn K mainGlobals "law" = some (some (.ref f63))) (l63:K.lookup f63=some ⟨oc63,od63,.func (PySem.W.fnOf "law" "law" (cA mP) (bP mP) (ah mP) .none kV63 dc63 pm63 an63 cd63 ct63),sl63⟩) (c63:PySem.W.codeIn K cd63 "law" = true) (k63:PySem.W.keepIn K (.ref f63)=true)
  (z_min:PySem.W.nsIn K mainGlobals "min" = some none)
  (z_max:PySem.W.nsIn K mainGlobals "max" = some none)
  (z_tuple:PySem.W.nsIn K mainGlobals "tuple" = some none)
  (z_range:PySem.W.nsIn K mainGlobals "range" = some none)
  (z_len:PySem.W.nsIn K mainGlobals "len" = some none)
  (z_all:PySem.W.nsIn K mainGlobals "all" = some none)
  (z_any:PySem.W.nsIn K mainGlobals "any" = some none)
  (z_isinstance:PySem.W.nsIn K mainGlobals "isinstance" = some none)
  (z_int:PySem.W.nsIn K mainGlobals "int" = some none)
  (z_bool:PySem.W.nsIn K mainGlobals "bool" = some none)
  (z_ValueError:PySem.W.nsIn K mainGlobals "ValueError" = some none)
  (z_list:PySem.W.nsIn K mainGlobals "list" = some none)
  (a_NOUGHT:PySem.W.nsIn K mainGlobals "NOUGHT" = some (some (.ref f_NOUGHT))) (d_NOUGHT:K.lookup f_NOUGHT=some ⟨.type "tuple",td_NOUGHT,.seq #[.int 0 tk_NOUGHT_0,.int 0 tk_NOUGHT_1,.int 0 tk_NOUGHT_2,.int 0 tk_NOUGHT_3,.int 0 tk_NOUGHT_4] tn_NOUGHT,ts_NOUGHT⟩)
  (a_ONE:PySem.W.nsIn K mainGlobals "ONE" = some (some (.ref f_ONE))) (d_ONE:K.lookup f_ONE=some ⟨.type "tuple",td_ONE,.seq #[.int 1 tk_ONE_0,.int 0 tk_ONE_1,.int 0 tk_ONE_2,.int 0 tk_ONE_3,.int 0 tk_ONE_4] tn_ONE,ts_ONE⟩)
  (xn_Barred:PySem.W.nsIn K mainGlobals "Barred" = some (some (.ref xc_Barred)))
  (xn_OddTurn:PySem.W.nsIn K mainGlobals "OddTurn" = some (some (.ref xc_OddTurn)))
  (xn_WaveError:PySem.W.nsIn K mainGlobals "WaveError" = some (some (.ref xc_WaveError)))
  (xe_Barred:PySem.W.excIn K xc_Barred [.type "ValueError",.type "Exception",.type "BaseException",.type "object"] "ValueError.__new__" = true)
  (xe_OddTurn:PySem.W.excIn K xc_OddTurn [.type "ValueError",.type "Exception",.type "BaseException",.type "object"] "ValueError.__new__" = true)
  (xe_WaveError:PySem.W.excIn K xc_WaveError [.type "ValueError",.type "Exception",.type "BaseException",.type "object"] "ValueError.__new__" = true)
  (xga_OddTurn:PySem.W.findIn K (.ref xc_OddTurn) "__getattribute__" = some (some (.builtin "BaseException.__getattribute__")))
  (xgt_OddTurn:PySem.W.findIn K (.ref xc_OddTurn) "__getattr__" = some none)
  (xcl_OddTurn:PySem.W.findIn K (.ref xc_OddTurn) "__class__" = some (some (.builtin "object.__class__")))
  (xmo_OddTurn:PySem.W.mroIn K xc_OddTurn (.type "object")=some true)
  (xbe_OddTurn:PySem.W.mroIn K xc_OddTurn (.type "BaseException")=some true)
  (xga_Barred:PySem.W.findIn K (.ref xc_Barred) "__getattribute__" = some (some (.builtin "BaseException.__getattribute__")))
  (xgt_Barred:PySem.W.findIn K (.ref xc_Barred) "__getattr__" = some none)
  (xcl_Barred:PySem.W.findIn K (.ref xc_Barred) "__class__" = some (some (.builtin "object.__class__")))
  (xmo_Barred:PySem.W.mroIn K xc_Barred (.type "object")=some true)
  (xbe_Barred:PySem.W.mroIn K xc_Barred (.type "BaseException")=some true)
  (xk_OddTurn_Barred:PySem.W.kitOne K (.ref xc_OddTurn) (.ref xc_Barred)=some false)
  (xk_Barred_Barred:PySem.W.kitOne K (.ref xc_Barred) (.ref xc_Barred)=some true)
  (xk_OddTurn_ValueError:PySem.W.kitOne K (.ref xc_OddTurn) (.type "ValueError")=some true)
  (xk_Barred_ValueError:PySem.W.kitOne K (.ref xc_Barred) (.type "ValueError")=some true)
  (xk_OddTurn_OddTurn:PySem.W.kitOne K (.ref xc_OddTurn) (.ref xc_OddTurn)=some true)
  (xk_Barred_OddTurn:PySem.W.kitOne K (.ref xc_Barred) (.ref xc_OddTurn)=some false)
  (xs_OddTurn_WaveError:PySem.W.subIn K (.ref xc_OddTurn) (.ref xc_WaveError)=some true)
  (xs_Barred_WaveError:PySem.W.subIn K (.ref xc_Barred) (.ref xc_WaveError)=some true)
   :∃ fd:FuncData,(∀ (s:Shared) (v:Value),BindsTo s fd ⟨[v],[]⟩ [("script",v)])/\∀ base:Heap,K.In base->base.Ns mainGlobals mg->FnOk l.prog w K mg base cN 12 fa fd ["script"] (yn K):=by
 have e:=hfa.symm.trans (PySem.W.mg_of X G a63)
 cases e
 have T:Txt mg:=⟨PySem.W.mg_none_of X G z_min,PySem.W.mg_none_of X G z_max,PySem.W.mg_none_of X G z_tuple,PySem.W.mg_none_of X G z_range,PySem.W.mg_none_of X G z_len,PySem.W.mg_none_of X G z_all,PySem.W.mg_none_of X G z_any,PySem.W.mg_none_of X G z_isinstance,PySem.W.mg_none_of X G z_int,PySem.W.mg_none_of X G z_bool,PySem.W.mg_none_of X G z_ValueError,PySem.W.mg_none_of X G z_list⟩
 have T_NOUGHT:TopV K mg "NOUGHT" (.tuple [.int 0,.int 0,.int 0,.int 0,.int 0]):=TopV.tup (xs:=[.int 0,.int 0,.int 0,.int 0,.int 0]) (PySem.W.mg_of X G a_NOUGHT) d_NOUGHT (by simp [sizeLine]) (.cons ⟨_,rfl⟩ (.cons ⟨_,rfl⟩ (.cons ⟨_,rfl⟩ (.cons ⟨_,rfl⟩ (.cons ⟨_,rfl⟩ (.nil)))))) fun _=>.cons (.int _) (.cons (.int _) (.cons (.int _) (.cons (.int _) (.cons (.int _) (.nil)))))
 have T_ONE:TopV K mg "ONE" (.tuple [.int 1,.int 0,.int 0,.int 0,.int 0]):=TopV.tup (xs:=[.int 1,.int 0,.int 0,.int 0,.int 0]) (PySem.W.mg_of X G a_ONE) d_ONE (by simp [sizeLine]) (.cons ⟨_,rfl⟩ (.cons ⟨_,rfl⟩ (.cons ⟨_,rfl⟩ (.cons ⟨_,rfl⟩ (.cons ⟨_,rfl⟩ (.nil)))))) fun _=>.cons (.int _) (.cons (.int _) (.cons (.int _) (.cons (.int _) (.cons (.int _) (.nil)))))
 have F2:=g7 (st:=jo) l2 c2 k2
 have F8:=g7 (st:=kX) l8 c8 k8
 have F14:=g7 (st:=d9) l14 c14 k14
 have F46:=g7 (st:=gg) l46 c46 k46
 have F47:=g7 (st:=dh) l47 c47 k47
 have F49:=g7 (st:=d7) l49 c49 k49
 have F50:=g7 (st:=bT) l50 c50 k50
 have F63:=g7 (st:=mP) l63 c63 k63
 have N_parted:Fnm K mg "parted":=D23.fnm X G
 have N_gone_on:Fnm K mg "gone_on":=D24.fnm X G
 have N_table_gone_on:Fnm K mg "table_gone_on":=D33.fnm X G
 have N_table_parted:Fnm K mg "table_parted":=D44.fnm X G
 have F_OddTurn:ExcC K "OddTurn" xc_OddTurn:=⟨xn_OddTurn,xe_OddTurn,xga_OddTurn,xgt_OddTurn,xcl_OddTurn,xmo_OddTurn,xbe_OddTurn⟩
 have E_OddTurn:ExcX K "OddTurn":=⟨⟨_,F_OddTurn⟩⟩
 have F_Barred:ExcC K "Barred" xc_Barred:=⟨xn_Barred,xe_Barred,xga_Barred,xgt_Barred,xcl_Barred,xmo_Barred,xbe_Barred⟩
 have E_Barred:ExcX K "Barred":=⟨⟨_,F_Barred⟩⟩
 have I_Barred:IsX K "Barred" jj:=(.cons F_OddTurn xn_Barred xk_OddTurn_Barred (.cons F_Barred xn_Barred xk_Barred_Barred .nil))
 have I_ValueError:IsT K "ValueError" eN:=(.cons F_OddTurn xk_OddTurn_ValueError (.cons F_Barred xk_Barred_ValueError .nil))
 have I_OddTurn:IsX K "OddTurn" ib:=(.cons F_OddTurn xn_OddTurn xk_OddTurn_OddTurn (.cons F_Barred xn_OddTurn xk_Barred_OddTurn .nil))
 have H_WaveError:Hnd K "WaveError" hs_WaveError:=⟨⟨_,xn_WaveError,xe_WaveError,(.cons F_OddTurn xs_OddTurn_WaveError (.cons F_Barred xs_Barred_WaveError .nil))⟩⟩
 refine ⟨PySem.W.fnOf "law" "law" (cA mP) (bP mP) (ah mP) .none kV63 dc63 pm63 an63 cd63 ct63,fun s v=>.of_eq rfl,fun base _ _=>?_⟩
 have C_twos_shared:Cal l.prog w K mg base "twos_shared" 1 bI []:=D0.cal X G qY fun _ _ F=>qB F T
 have C_by_root:Cal l.prog w K mg base "by_root" 1 eE []:=D1.cal X G xJ fun _ _ F=>w9 F T
 have O2:FnOk l.prog w K mg base cN 2 _ _ _ (dk K fT):=zW F2 T C_twos_shared C_by_root
 have C_number:Cal l.prog w K mg base "number" 2 fT []:=⟨⟨_,_,_,[],[],O2,PySem.W.mg_of X G a2,k2,F2.bindsK d2 rfl (ps:=["a","b","c","d","k"]) 5 rfl (fun _ _ _ _ _ _ us hl=>by obtain ⟨_,_,_,_,_,rfl⟩:=KY hl; exact rfl),.nil,fun _=>.nil⟩⟩
 have C_parts_over_ring:Cal l.prog w K mg base "parts_over_ring" 2 bF []:=D3.cal X G mx fun _ _ F=>mi F T C_by_root
 have C_plus:Cal l.prog w K mg base "plus" 3 ja []:=D4.cal X G Gg fun _ _ F=>EW F T C_parts_over_ring C_number
 have C_against:Cal l.prog w K mg base "against" 1 fD []:=D5.cal X G xL fun _ _ F=>xb F T
 have C_turned:Cal l.prog w K mg base "turned" 1 da []:=D6.cal X G AH fun _ _ F=>zT F T
 have C_halved:Cal l.prog w K mg base "halved" 3 eS []:=D7.cal X G AK fun _ _ F=>zX F T C_number
 have O8:FnOk l.prog w K mg base cN 2 _ _ _ (dk K eZ):=B2 F8 T C_twos_shared
 have C_share:Cal l.prog w K mg base "share" 2 eZ []:=⟨⟨_,_,_,[],[],O8,PySem.W.mg_of X G a8,k8,F8.bindsK d8 rfl (ps:=["p","q","k"]) 3 rfl (fun _ _ _ _ _ _ us hl=>by obtain ⟨_,_,_,rfl⟩:=mX hl; exact rfl),.nil,fun _=>.nil⟩⟩
 have C_parts_over_shares:Cal l.prog w K mg base "parts_over_shares" 1 bD []:=D9.cal X G kB fun _ _ F=>kf F T
 have C_share_plus:Cal l.prog w K mg base "share_plus" 3 eB []:=D10.cal X G sf fun _ _ F=>rV F T C_parts_over_shares C_share
 have C_size_of:Cal l.prog w K mg base "size_of" 3 gi []:=D11.cal X G xF fun _ _ F=>wY F T C_share
 have C_worth:Cal l.prog w K mg base "worth" 1 bY []:=D12.cal X G C5 fun _ _ F=>BZ F T
 have C_bits_of:Cal l.prog w K mg base "bits_of" 1 fC []:=D13.cal X G xK fun _ _ F=>xa F T
 have O14:FnOk l.prog w K mg base cN 1 _ _ _ (dk K dc):=um F14 T T_NOUGHT T_ONE
 have C_beginning:Cal l.prog w K mg base "beginning" 1 dc []:=⟨⟨_,_,_,[],[],O14,PySem.W.mg_of X G a14,k14,F14.bindsK d14 rfl (ps:=["wires","place"]) 2 rfl (fun _ _ _ _ _ _ us hl=>by obtain ⟨_,_,rfl⟩:=dy hl; exact rfl),.nil,fun _=>.nil⟩⟩
 have C_swung:Cal l.prog w K mg base "swung" 4 iW []:=D15.cal X G C7 fun _ _ F=>B1 F T C_halved C_plus C_against
 have C_turned_where:Cal l.prog w K mg base "turned_where" 2 bJ []:=D16.cal X G pq fun _ _ F=>oY F T C_turned
 have C_flipped_where:Cal l.prog w K mg base "flipped_where" 1 bw []:=D17.cal X G n4 fun _ _ F=>nM F T
 have C_exchanged:Cal l.prog w K mg base "exchanged" 1 bG []:=D18.cal X G uX fun _ _ F=>ul F T
 have C_done:Cal l.prog w K mg base "done" 5 dO []:=D19.cal X G Gh fun _ _ F=>EY F T C_worth C_swung C_turned_where C_flipped_where C_exchanged
 have C_whole:Cal l.prog w K mg base "whole" 4 iV []:=D20.cal X G C6 fun _ _ F=>B0 F T C_share_plus C_size_of
 have C_left_by:Cal l.prog w K mg base "left_by" 1 du []:=D21.cal X G xG fun _ _ F=>wZ F T T_NOUGHT
 have C_is_nought:Cal l.prog w K mg base "is_nought" 1 fB []:=D22.cal X G uW fun _ _ F=>uk F T T_NOUGHT
 have V_parted:CalF l.prog w K mg base "parted" 2 eR:=D23.calF X G AI fun _ _ F=>zU F T C_worth C_left_by C_is_nought
 have V_gone_on:CalF l.prog w K mg base "gone_on" 6 dw:=D24.calF X G xH fun _ _ F=>w5 F T C_done
 have Y_refuse_odd:CalX l.prog w K mg base "refuse_odd" 1 dA []:=D25.calX X G lN fun _ _ F=>qA F T E_OddTurn
 have C_refuse_odd:Cal l.prog w K mg base "refuse_odd" 1 bn []:=D25.cal X G lN fun _ _ F=>rW F T
 have C_value_of:Cal l.prog w K mg base "value_of" 1 bp []:=D26.cal X G wo fun _ _ F=>vC F T
 have C_swing_carried:Cal l.prog w K mg base "swing_carried" 2 cE []:=D27.cal X G nZ fun _ _ F=>nK F T C_value_of
 have C_turn_carried:Cal l.prog w K mg base "turn_carried" 1 bK []:=D28.cal X G pv fun _ _ F=>oZ F T
 have C_tie_carried:Cal l.prog w K mg base "tie_carried" 1 bV []:=D29.cal X G qZ fun _ _ F=>qC F T
 have C_sign_carried:Cal l.prog w K mg base "sign_carried" 1 cS []:=D30.cal X G pA fun _ _ F=>o5 F T
 have C_carried:Cal l.prog w K mg base "carried" 3 bH []:=D31.cal X G xI fun _ _ F=>w6 F T C_worth C_swing_carried C_turn_carried C_tie_carried C_sign_carried C_exchanged C_value_of
 have C_table_done:Cal l.prog w K mg base "table_done" 4 db []:=D32.cal X G se fun _ _ F=>rT F T C_refuse_odd C_carried
 have V_table_gone_on:CalF l.prog w K mg base "table_gone_on" 5 aX:=D33.calF X G nY fun _ _ F=>nJ F T C_table_done
 have C_due_gone_on:Cal l.prog w K mg base "due_gone_on" 7 bL []:=D34.cal X G q9 fun _ _ F=>qF F T V_table_gone_on V_gone_on
 have C_look_word:Cal l.prog w K mg base "look_word" 2 cg []:=D35.cal X G uU fun _ _ F=>ui F T C_worth
 have C_word_times:Cal l.prog w K mg base "word_times" 2 bh []:=D36.cal X G sd fun _ _ F=>rS F T C_value_of
 have C_agree:Cal l.prog w K mg base "agree" 3 eF []:=D37.cal X G C8 fun _ _ F=>B3 F T C_word_times
 have C_keepers_for:Cal l.prog w K mg base "keepers_for" 4 cO []:=D38.cal X G q8 fun _ _ F=>qE F T C_agree
 have C_against_look:Cal l.prog w K mg base "against_look" 4 aY []:=D39.cal X G pB fun _ _ F=>o7 F T C_agree
 have C_look_told:Cal l.prog w K mg base "look_told" 5 br []:=D40.cal X G uV fun _ _ F=>uj F T C_look_word C_keepers_for C_against_look C_word_times
 have C_agreeing:Cal l.prog w K mg base "agreeing" 4 er []:=D41.cal X G wq fun _ _ F=>vF F T C_agree C_word_times
 have C_opened:Cal l.prog w K mg base "opened" 5 gC []:=D42.cal X G AJ fun _ _ F=>zV F T C_agreeing
 have C_table_looked:Cal l.prog w K mg base "table_looked" 6 bq []:=D43.cal X G pz fun _ _ F=>o4 F T C_look_told C_look_word C_opened C_against_look
 have V_table_parted:CalF l.prog w K mg base "table_parted" 7 aW:=D44.calF X G px fun _ _ F=>o0 F T C_look_told C_table_looked
 have O_gone_through:CalO l.prog w K mg base "gone_through" 8 aK []:=D45.calO X G j0 fun _ _ F=>nI F T C_due_gone_on V_table_parted V_parted
 have C_gone_through:Cal l.prog w K mg base "gone_through" 8 aK []:=D45.cal X G j0 fun _ _ F=>o6 F T C_due_gone_on V_table_parted V_parted
 have O46:FnOk l.prog w K mg base cN 9 _ _ _ (dk K cF):=vE F46 T C_gone_through C_beginning N_gone_on N_parted
 have C_branches:Cal l.prog w K mg base "branches" 9 cF []:=⟨⟨_,_,_,[],[],O46,PySem.W.mg_of X G a46,k46,F46.bindsK d46 rfl (ps:=["circuit","place"]) 2 rfl (fun _ _ _ _ _ _ us hl=>by obtain ⟨_,_,rfl⟩:=dy hl; exact rfl),.nil,fun _=>.nil⟩⟩
 have O47:FnOk l.prog w K mg base cN 10 _ _ _ (dk K cq):=qD F47 T C_whole C_branches
 have C_mark_shares:Cal l.prog w K mg base "mark_shares" 10 cq []:=⟨⟨_,_,_,[],[],O47,PySem.W.mg_of X G a47,k47,F47.bindsK d47 rfl (ps:=["circuit","place"]) 2 rfl (fun _ _ _ _ _ _ us hl=>by obtain ⟨_,_,rfl⟩:=dy hl; exact rfl),.nil,fun _=>.nil⟩⟩
 have C_word_done:Cal l.prog w K mg base "word_done" 2 cZ []:=D48.cal X G uT fun _ _ F=>uh F T C_turned C_value_of
 have O49:FnOk l.prog w K mg base cN 2 _ _ _ (dk K cR):=vD F49 T C_bits_of C_worth
 have C_table_of:Cal l.prog w K mg base "table_of" 2 cR []:=⟨⟨_,_,_,[],[],O49,PySem.W.mg_of X G a49,k49,F49.bindsK d49 rfl (ps:=["wires","place"]) 2 rfl (fun _ _ _ _ _ _ us hl=>by obtain ⟨_,_,rfl⟩:=dy hl; exact rfl),.nil,fun _=>.nil⟩⟩
 have OX50:FnOk l.prog w K mg base (tP l.prog w) 9 _ _ _ (Es K aU):=mf F50 T C_refuse_odd C_gone_through C_table_of Y_refuse_odd
 have O50:FnOk l.prog w K mg base cN 9 _ _ _ (dk K ay):=mV F50 T C_refuse_odd C_gone_through C_table_of N_table_gone_on N_table_parted O_gone_through
 have OO50:FnOk l.prog w K mg base cN 9 _ _ _ (HF K ay):=mh F50 T C_refuse_odd C_gone_through C_table_of N_table_gone_on N_table_parted O_gone_through
 have O_table_branches:CalO l.prog w K mg base "table_branches" 9 ay []:=⟨⟨_,_,_,[],[],OO50,PySem.W.mg_of X G a50,k50,F50.bindsK d50 rfl (ps:=["circuit","place"]) 2 rfl (fun _ _ _ _ _ _ us hl=>by obtain ⟨_,_,rfl⟩:=dy hl; exact rfl),.nil,fun _=>.nil⟩⟩
 have O_table_branches1:CalO l.prog w K mg base "table_branches" 9 ay [.int 0]:=⟨⟨_,_,_,[.int 0 tk50_0],[.int 0],OO50,PySem.W.mg_of X G a50,k50,F50.bindsK d50 rfl (ps:=["circuit","place"]) 1 rfl (fun _ _ _ _ _ _ us hl=>by obtain ⟨_,rfl⟩:=pf hl; exact rfl),.cons (by first | exact ⟨_,rfl⟩ | rfl) (.nil),fun _=>.cons (by constructor) (.nil)⟩⟩
 have Y_table_branches1:CalX l.prog w K mg base "table_branches" 9 aU [.int 0]:=⟨⟨_,_,_,[.int 0 tk50_0],[.int 0],OX50,PySem.W.mg_of X G a50,k50,F50.bindsK d50 rfl (ps:=["circuit","place"]) 1 rfl (fun _ _ _ _ _ _ us hl=>by obtain ⟨_,rfl⟩:=pf hl; exact rfl),.cons (by first | exact ⟨_,rfl⟩ | rfl) (.nil),fun _=>.cons (by constructor) (.nil)⟩⟩
 have Y_table_branches:CalX l.prog w K mg base "table_branches" 9 aU []:=⟨⟨_,_,_,[],[],OX50,PySem.W.mg_of X G a50,k50,F50.bindsK d50 rfl (ps:=["circuit","place"]) 2 rfl (fun _ _ _ _ _ _ us hl=>by obtain ⟨_,_,rfl⟩:=dy hl; exact rfl),.nil,fun _=>.nil⟩⟩
 have C_table_branches:Cal l.prog w K mg base "table_branches" 9 ay []:=⟨⟨_,_,_,[],[],O50,PySem.W.mg_of X G a50,k50,F50.bindsK d50 rfl (ps:=["circuit","place"]) 2 rfl (fun _ _ _ _ _ _ us hl=>by obtain ⟨_,_,rfl⟩:=dy hl; exact rfl),.nil,fun _=>.nil⟩⟩
 have C_table_branches1:Cal l.prog w K mg base "table_branches" 9 ay [.int 0]:=⟨⟨_,_,_,[.int 0 tk50_0],[.int 0],O50,PySem.W.mg_of X G a50,k50,F50.bindsK d50 rfl (ps:=["circuit","place"]) 1 rfl (fun _ _ _ _ _ _ us hl=>by obtain ⟨_,rfl⟩:=pf hl; exact rfl),.cons (by first | exact ⟨_,rfl⟩ | rfl) (.nil),fun _=>.cons (by constructor) (.nil)⟩⟩
 have C__law_cell_at:Cal l.prog w K mg base "_law_cell_at" 1 aO []:=D51.cal X G pF fun _ _ F=>pc F T
 have C__law_whole:Cal l.prog w K mg base "_law_whole" 1 cu []:=D52.cal X G sj fun _ _ F=>rX F T
 have C__law_odd:Cal l.prog w K mg base "_law_odd" 1 cm []:=D53.cal X G wv fun _ _ F=>vH F T
 have C__law_is_word:Cal l.prog w K mg base "_law_is_word" 2 bM []:=D54.cal X G pD fun _ _ F=>o9 F T C__law_whole
 have C__law_row:Cal l.prog w K mg base "_law_row" 1 bZ []:=D55.cal X G wu fun _ _ F=>vG F T
 have C__law_agree:Cal l.prog w K mg base "_law_agree" 2 cv []:=D56.cal X G sk fun _ _ F=>rY F T C__law_odd
 have C__law_is_table:Cal l.prog w K mg base "_law_is_table" 3 cj []:=D57.cal X G n9 fun _ _ F=>nN F T C__law_is_word C__law_odd C__law_agree
 have C__law_any_row:Cal l.prog w K mg base "_law_any_row" 2 aL []:=D58.cal X G pG fun _ _ F=>pd F T C__law_row
 have C__law_circuit:Cal l.prog w K mg base "_law_circuit" 3 b6 []:=D59.cal X G pE fun _ _ F=>pb F T C__law_any_row
 have Y__law_told:CalX l.prog w K mg base "_law_told" 10 cw []:=D60.calX X G jQ fun _ _ F=>rQ F T C_table_branches C_table_branches1 Y_table_branches Y_table_branches1
 have O__law_told:CalO l.prog w K mg base "_law_told" 10 aS []:=D60.calO X G jQ fun _ _ F=>rR F T C_table_branches C_table_branches1 O_table_branches O_table_branches1
 have C__law_told:Cal l.prog w K mg base "_law_told" 10 aS []:=D60.cal X G jQ fun _ _ F=>uo F T C_table_branches C_table_branches1 O_table_branches O_table_branches1
 have C__law_refused:Cal l.prog w K mg base "_law_refused" 11 b5 []:=D61.cal X G pC fun _ _ F=>o8 F T C__law_told Y__law_told I_Barred I_ValueError I_OddTurn H_WaveError
 have C__law_triple_good:Cal l.prog w K mg base "_law_triple_good" 4 bt []:=D62.cal X G lH fun _ _ F=>lG F T C__law_is_table C__law_whole C_word_done
 have O63:FnOk l.prog w K mg base cN 12 _ _ _ (dk K CG):=Ix F63 T C__law_circuit C_branches C_mark_shares C__law_told C__law_refused C__law_cell_at C__law_triple_good O__law_told
 exact KZ O63 fun ns hl=>law_true ns hl
end GN
open PySem PySem.W PyProof.Rows
set_option maxRecDepth 1000000 in
set_option maxHeartbeats 0 in
theorem PySem.Challenge.cw_wavewires_k51_whole_runs_by_tables_holds : PySem.Challenge.rw_wavewires_k51_whole_runs_by_tables.Holds := by
  refine topT ?_
  k_fill
  refine VL.JV (k := 12) (l := PySem.Challenge.rw_wavewires_k51_whole_runs_by_tables) rfl ⟨rfl, by decide, by decide⟩ rfl (fun w h Y => PySem.W.kIn_of Y) ?F
  case F =>
    intro w mg fa h KX G hmg
    refine' GN.Jy KX G hmg (VL.DefIn.mk ?a0 ?l0 ?c0 ?k0) (VL.DefIn.mk ?a1 ?l1 ?c1 ?k1) ?a2 ?l2 ?c2 ?k2 ?d2 (VL.DefIn.mk ?a3 ?l3 ?c3 ?k3) (VL.DefIn.mk ?a4 ?l4 ?c4 ?k4) (VL.DefIn.mk ?a5 ?l5 ?c5 ?k5) (VL.DefIn.mk ?a6 ?l6 ?c6 ?k6) (VL.DefIn.mk ?a7 ?l7 ?c7 ?k7) ?a8 ?l8 ?c8 ?k8 ?d8 (VL.DefIn.mk ?a9 ?l9 ?c9 ?k9) (VL.DefIn.mk ?NF ?l10 ?c10 ?k10) (VL.DefIn.mk ?ND ?l11 ?c11 ?k11) (VL.DefIn.mk ?NC ?l12 ?c12 ?k12) (VL.DefIn.mk ?NB ?l13 ?c13 ?k13) ?a14 ?l14 ?c14 ?k14 ?d14 (VL.DefIn.mk ?a15 ?l15 ?c15 ?k15) (VL.DefIn.mk ?a16 ?l16 ?c16 ?k16) (VL.DefIn.mk ?a17 ?l17 ?c17 ?k17) (VL.DefIn.mk ?a18 ?l18 ?c18 ?k18) (VL.DefIn.mk ?a19 ?l19 ?c19 ?k19) (VL.DefIn.mk ?a20 ?l20 ?c20 ?k20) (VL.DefIn.mk ?a21 ?l21 ?c21 ?k21) (VL.DefIn.mk ?a22 ?l22 ?c22 ?k22) (VL.DefIn.mk ?a23 ?l23 ?c23 ?k23) (VL.DefIn.mk ?a24 ?l24 ?c24 ?k24) (VL.DefIn.mk ?a25 ?l25 ?c25 ?k25) (VL.DefIn.mk ?a26 ?l26 ?c26 ?k26) (VL.DefIn.mk ?a27 ?l27 ?c27 ?k27) (VL.DefIn.mk ?a28 ?l28 ?c28 ?k28) (VL.DefIn.mk ?a29 ?l29 ?c29 ?k29) (VL.DefIn.mk ?a30 ?l30 ?c30 ?k30) (VL.DefIn.mk ?a31 ?l31 ?c31 ?k31) (VL.DefIn.mk ?a32 ?l32 ?c32 ?k32) (VL.DefIn.mk ?a33 ?l33 ?c33 ?k33) (VL.DefIn.mk ?a34 ?l34 ?c34 ?k34) (VL.DefIn.mk ?a35 ?l35 ?c35 ?k35) (VL.DefIn.mk ?a36 ?l36 ?c36 ?k36) (VL.DefIn.mk ?a37 ?l37 ?c37 ?k37) (VL.DefIn.mk ?a38 ?l38 ?c38 ?k38) (VL.DefIn.mk ?a39 ?l39 ?c39 ?k39) (VL.DefIn.mk ?a40 ?l40 ?c40 ?k40) (VL.DefIn.mk ?a41 ?l41 ?c41 ?k41) (VL.DefIn.mk ?a42 ?l42 ?c42 ?k42) (VL.DefIn.mk ?a43 ?l43 ?c43 ?k43) (VL.DefIn.mk ?a44 ?l44 ?c44 ?k44) (VL.DefIn.mk ?a45 ?l45 ?c45 ?k45) ?a46 ?l46 ?c46 ?k46 ?d46 ?a47 ?l47 ?c47 ?k47 ?d47 (VL.DefIn.mk ?a48 ?l48 ?c48 ?k48) ?a49 ?l49 ?c49 ?k49 ?d49 ?a50 ?l50 ?c50 ?k50 ?d50 (VL.DefIn.mk ?a51 ?l51 ?c51 ?k51) (VL.DefIn.mk ?a52 ?l52 ?c52 ?k52) (VL.DefIn.mk ?a53 ?l53 ?c53 ?k53) (VL.DefIn.mk ?a54 ?l54 ?c54 ?k54) (VL.DefIn.mk ?a55 ?l55 ?c55 ?k55) (VL.DefIn.mk ?a56 ?l56 ?c56 ?k56) (VL.DefIn.mk ?a57 ?l57 ?c57 ?k57) (VL.DefIn.mk ?a58 ?l58 ?c58 ?k58) (VL.DefIn.mk ?a59 ?l59 ?c59 ?k59) (VL.DefIn.mk ?a60 ?l60 ?c60 ?k60) (VL.DefIn.mk ?a61 ?l61 ?c61 ?k61) (VL.DefIn.mk ?a62 ?l62 ?c62 ?k62) ?a63 ?l63 ?c63 ?k63 ?z_min ?z_max ?z_tuple ?z_range ?z_len ?z_all ?z_any ?z_isinstance ?z_int ?z_bool ?z_ValueError ?z_list ?a_NOUGHT ?d_NOUGHT ?a_ONE ?d_ONE ?xn_Barred ?xn_OddTurn ?xn_WaveError ?xe_Barred ?xe_OddTurn ?xe_WaveError ?xga_OddTurn ?xgt_OddTurn ?xcl_OddTurn ?xmo_OddTurn ?xbe_OddTurn ?xga_Barred ?xgt_Barred ?xcl_Barred ?xmo_Barred ?xbe_Barred ?xk_OddTurn_Barred ?xk_Barred_Barred ?xk_OddTurn_ValueError ?xk_Barred_ValueError ?xk_OddTurn_OddTurn ?xk_Barred_OddTurn ?xs_OddTurn_WaveError ?xs_Barred_WaveError
    (case a0 => k_is)
    (case l0 => k_is)
    (case c0 => k_is)
    (case k0 => k_is)
    (case a1 => k_is)
    (case l1 => k_is)
    (case c1 => k_is)
    (case k1 => k_is)
    (case a2 => k_is)
    (case l2 => k_is)
    (case c2 => k_is)
    (case k2 => k_is)
    (case d2 => k_is)
    (case a3 => k_is)
    (case l3 => k_is)
    (case c3 => k_is)
    (case k3 => k_is)
    (case a4 => k_is)
    (case l4 => k_is)
    (case c4 => k_is)
    (case k4 => k_is)
    (case a5 => k_is)
    (case l5 => k_is)
    (case c5 => k_is)
    (case k5 => k_is)
    (case a6 => k_is)
    (case l6 => k_is)
    (case c6 => k_is)
    (case k6 => k_is)
    (case a7 => k_is)
    (case l7 => k_is)
    (case c7 => k_is)
    (case k7 => k_is)
    (case a8 => k_is)
    (case l8 => k_is)
    (case c8 => k_is)
    (case k8 => k_is)
    (case d8 => k_is)
    (case a9 => k_is)
    (case l9 => k_is)
    (case c9 => k_is)
    (case k9 => k_is)
    (case NF => k_is)
    (case l10 => k_is)
    (case c10 => k_is)
    (case k10 => k_is)
    (case ND => k_is)
    (case l11 => k_is)
    (case c11 => k_is)
    (case k11 => k_is)
    (case NC => k_is)
    (case l12 => k_is)
    (case c12 => k_is)
    (case k12 => k_is)
    (case NB => k_is)
    (case l13 => k_is)
    (case c13 => k_is)
    (case k13 => k_is)
    (case a14 => k_is)
    (case l14 => k_is)
    (case c14 => k_is)
    (case k14 => k_is)
    (case d14 => k_is)
    (case a15 => k_is)
    (case l15 => k_is)
    (case c15 => k_is)
    (case k15 => k_is)
    (case a16 => k_is)
    (case l16 => k_is)
    (case c16 => k_is)
    (case k16 => k_is)
    (case a17 => k_is)
    (case l17 => k_is)
    (case c17 => k_is)
    (case k17 => k_is)
    (case a18 => k_is)
    (case l18 => k_is)
    (case c18 => k_is)
    (case k18 => k_is)
    (case a19 => k_is)
    (case l19 => k_is)
    (case c19 => k_is)
    (case k19 => k_is)
    (case a20 => k_is)
    (case l20 => k_is)
    (case c20 => k_is)
    (case k20 => k_is)
    (case a21 => k_is)
    (case l21 => k_is)
    (case c21 => k_is)
    (case k21 => k_is)
    (case a22 => k_is)
    (case l22 => k_is)
    (case c22 => k_is)
    (case k22 => k_is)
    (case a23 => k_is)
    (case l23 => k_is)
    (case c23 => k_is)
    (case k23 => k_is)
    (case a24 => k_is)
    (case l24 => k_is)
    (case c24 => k_is)
    (case k24 => k_is)
    (case a25 => k_is)
    (case l25 => k_is)
    (case c25 => k_is)
    (case k25 => k_is)
    (case a26 => k_is)
    (case l26 => k_is)
    (case c26 => k_is)
    (case k26 => k_is)
    (case a27 => k_is)
    (case l27 => k_is)
    (case c27 => k_is)
    (case k27 => k_is)
    (case a28 => k_is)
    (case l28 => k_is)
    (case c28 => k_is)
    (case k28 => k_is)
    (case a29 => k_is)
    (case l29 => k_is)
    (case c29 => k_is)
    (case k29 => k_is)
    (case a30 => k_is)
    (case l30 => k_is)
    (case c30 => k_is)
    (case k30 => k_is)
    (case a31 => k_is)
    (case l31 => k_is)
    (case c31 => k_is)
    (case k31 => k_is)
    (case a32 => k_is)
    (case l32 => k_is)
    (case c32 => k_is)
    (case k32 => k_is)
    (case a33 => k_is)
    (case l33 => k_is)
    (case c33 => k_is)
    (case k33 => k_is)
    (case a34 => k_is)
    (case l34 => k_is)
    (case c34 => k_is)
    (case k34 => k_is)
    (case a35 => k_is)
    (case l35 => k_is)
    (case c35 => k_is)
    (case k35 => k_is)
    (case a36 => k_is)
    (case l36 => k_is)
    (case c36 => k_is)
    (case k36 => k_is)
    (case a37 => k_is)
    (case l37 => k_is)
    (case c37 => k_is)
    (case k37 => k_is)
    (case a38 => k_is)
    (case l38 => k_is)
    (case c38 => k_is)
    (case k38 => k_is)
    (case a39 => k_is)
    (case l39 => k_is)
    (case c39 => k_is)
    (case k39 => k_is)
    (case a40 => k_is)
    (case l40 => k_is)
    (case c40 => k_is)
    (case k40 => k_is)
    (case a41 => k_is)
    (case l41 => k_is)
    (case c41 => k_is)
    (case k41 => k_is)
    (case a42 => k_is)
    (case l42 => k_is)
    (case c42 => k_is)
    (case k42 => k_is)
    (case a43 => k_is)
    (case l43 => k_is)
    (case c43 => k_is)
    (case k43 => k_is)
    (case a44 => k_is)
    (case l44 => k_is)
    (case c44 => k_is)
    (case k44 => k_is)
    (case a45 => k_is)
    (case l45 => k_is)
    (case c45 => k_is)
    (case k45 => k_is)
    (case a46 => k_is)
    (case l46 => k_is)
    (case c46 => k_is)
    (case k46 => k_is)
    (case d46 => k_is)
    (case a47 => k_is)
    (case l47 => k_is)
    (case c47 => k_is)
    (case k47 => k_is)
    (case d47 => k_is)
    (case a48 => k_is)
    (case l48 => k_is)
    (case c48 => k_is)
    (case k48 => k_is)
    (case a49 => k_is)
    (case l49 => k_is)
    (case c49 => k_is)
    (case k49 => k_is)
    (case d49 => k_is)
    (case a50 => k_is)
    (case l50 => k_is)
    (case c50 => k_is)
    (case k50 => k_is)
    (case d50 => k_is)
    (case a51 => k_is)
    (case l51 => k_is)
    (case c51 => k_is)
    (case k51 => k_is)
    (case a52 => k_is)
    (case l52 => k_is)
    (case c52 => k_is)
    (case k52 => k_is)
    (case a53 => k_is)
    (case l53 => k_is)
    (case c53 => k_is)
    (case k53 => k_is)
    (case a54 => k_is)
    (case l54 => k_is)
    (case c54 => k_is)
    (case k54 => k_is)
    (case a55 => k_is)
    (case l55 => k_is)
    (case c55 => k_is)
    (case k55 => k_is)
    (case a56 => k_is)
    (case l56 => k_is)
    (case c56 => k_is)
    (case k56 => k_is)
    (case a57 => k_is)
    (case l57 => k_is)
    (case c57 => k_is)
    (case k57 => k_is)
    (case a58 => k_is)
    (case l58 => k_is)
    (case c58 => k_is)
    (case k58 => k_is)
    (case a59 => k_is)
    (case l59 => k_is)
    (case c59 => k_is)
    (case k59 => k_is)
    (case a60 => k_is)
    (case l60 => k_is)
    (case c60 => k_is)
    (case k60 => k_is)
    (case a61 => k_is)
    (case l61 => k_is)
    (case c61 => k_is)
    (case k61 => k_is)
    (case a62 => k_is)
    (case l62 => k_is)
    (case c62 => k_is)
    (case k62 => k_is)
    (case a63 => k_is)
    (case l63 => k_is)
    (case c63 => k_is)
    (case k63 => k_is)
    (case z_min => k_is)
    (case z_max => k_is)
    (case z_tuple => k_is)
    (case z_range => k_is)
    (case z_len => k_is)
    (case z_all => k_is)
    (case z_any => k_is)
    (case z_isinstance => k_is)
    (case z_int => k_is)
    (case z_bool => k_is)
    (case z_ValueError => k_is)
    (case z_list => k_is)
    (case a_NOUGHT => k_is)
    (case d_NOUGHT => k_is)
    (case a_ONE => k_is)
    (case d_ONE => k_is)
    (case xn_Barred => k_is)
    (case xn_OddTurn => k_is)
    (case xn_WaveError => k_is)
    (case xe_Barred => k_exc)
    (case xe_OddTurn => k_exc)
    (case xe_WaveError => k_exc)
    (case xga_OddTurn => k_is)
    (case xgt_OddTurn => k_is)
    (case xcl_OddTurn => k_is)
    (case xmo_OddTurn => k_is)
    (case xbe_OddTurn => k_is)
    (case xga_Barred => k_is)
    (case xgt_Barred => k_is)
    (case xcl_Barred => k_is)
    (case xmo_Barred => k_is)
    (case xbe_Barred => k_is)
    (case xk_OddTurn_Barred => kit_is)
    (case xk_Barred_Barred => kit_is)
    (case xk_OddTurn_ValueError => kit_is)
    (case xk_Barred_ValueError => kit_is)
    (case xk_OddTurn_OddTurn => kit_is)
    (case xk_Barred_OddTurn => kit_is)
    (case xs_OddTurn_WaveError => k_is)
    (case xs_Barred_WaveError => k_is)
