import PyProof.Rows.All
import Wide.All
import OpenK.AllK
import Wide.FinOn
import Lean
import PyProof.EqAt
import PyProof.EqKinds
import PyProof.TupleCall
import KE.KLam
import PySem.Challenge.RW_wavewires_k50_settled_keepers
section TopS
set_option Elab.async false
set_option linter.all false
open PySem PySem.W PyProof.Rows
def viewQ : Program := view PySem.Challenge.rw_wavewires_k50_settled_keepers.prog [1, 2, 3, 5, 6, 7, 9, 11, 13, 14, 15, 16, 17, 18, 19, 22, 23, 24, 25, 26, 27, 28, 29, 30, 31, 32, 33, 35, 36, 37, 38, 39, 40, 41, 42, 43, 44]
local macro_rules
  | `(tactic| o_head $H) => do
    let hw := Lean.mkIdent `hw
    let hc := Lean.mkIdent `hc
    `(tactic| refine holds_open (q := viewQ) (loose := ["table_of"]) (Xt := fun s => xlAt viewQ [] s && recOk (RowW.records (OpenRow.toRowW PySem.Challenge.rw_wavewires_k50_settled_keepers.row)) s) (XP := XL viewQ []) (Yf := Hook.obs $H) (Ya := Hook.val $H) (YP := Hook.says $H) (N := 6000) (fun w => by (unfold openEnds fencedOpening topFrom; rw [Fast.te10274390034422433532, Fast.te14082659384304107361, Fast.te1435165496053646825, Fast.te14289696077712309145, Fast.te14364793385576792824, Fast.te4187177175401517315, Fast.te5923862056798008813]; kernel_rfl)) (Hook.of $H) (Hook.keeps $H) (fun s e => xl_of s (Bool.and_eq_true_iff.mp e).1) XL.keeps (by rfl) (by rfl) (by rfl) (fun s e => recFacts_of (Bool.and_eq_true_iff.mp e).2) (by rfl) (by first | assumption | decide +kernel) (by decide +kernel) ⟨rfl, rfl, rfl, rfl, rfl, by decide +kernel⟩ ?$hw ?$hc)
set_option maxRecDepth 1000000 in
set_option maxHeartbeats 0 in
open_top topT for PySem.Challenge.rw_wavewires_k50_settled_keepers
end TopS
noncomputable section
set_option Elab.async false
set_option linter.all false
set_option maxRecDepth 100000
namespace L2
open PySem PySem.Spec PyProof.Rows
abbrev bb:=Sum Int Str
noncomputable def lN:bb->Value->Bool
 |.inl k,v=>Value.isInt k v
 |.inr x,v=>Value.isStrOf x v
noncomputable def Dt(w:World):bb->Int
 |.inl k=>hashInt k
 |.inr x=>hashStr w x
theorem bB:∀{k:bb} {v:Value},lN k v=true->(∃i t,k=Sum.inl i/\v=Value.int i t)\/(∃x t,k=Sum.inr x/\v=Value.str x t)
 |.inl i,v,h=>by
  obtain⟨t,e⟩:=Value.isInt_shape (k:=i) (v:=v) h;exact .inl ⟨i,t,rfl,e⟩
 |.inr x,v,h=>by
  obtain⟨t,e⟩:=Value.isStrOf_shape (x:=x) (v:=v) h;exact .inr ⟨x,t,rfl,e⟩
theorem sh(i:Int)(t:Tok):lN (.inl i) (.int i t)=true:=by simp[lN,Value.isInt]
theorem sg(x:Str)(t:Tok):lN (.inr x) (.str x t)=true:=by simp[lN,Value.isStrOf]
theorem zD(a b:Int):decide ((Sum.inl a:bb)=Sum.inl b)=(a==b):=by
 by_cases e:a=b
 ·subst e;simp
 ·have h:¬(Sum.inl a:bb)=Sum.inl b:=fun q=>e (Sum.inl.inj q)
  rw[decide_eq_false h];exact(beq_eq_false_iff_ne.mpr e).symm
theorem zA(a b:Str):decide ((Sum.inr a:bb)=Sum.inr b)=decide (a=b):=by
 by_cases e:a=b
 ·subst e;simp
 ·have h:¬(Sum.inr a:bb)=Sum.inr b:=fun q=>e (Sum.inr.inj q)
  rw[decide_eq_false h,decide_eq_false e]
theorem zC(a:Int)(b:Str):decide ((Sum.inl a:bb)=Sum.inr b)=false:=decide_eq_false (fun q=>nomatch q)
theorem zB(a:Str)(b:Int):decide ((Sum.inr a:bb)=Sum.inl b)=false:=decide_eq_false (fun q=>nomatch q)
noncomputable def du(prog:Program)(w:World):PySem.KeyKind prog w bb where
 is:=lN
 hash:=Dt w
 inj:=fun v a b ha hb=>by
  rcases bB ha with⟨i,t,rfl,rfl⟩|⟨x,t,rfl,rfl⟩
  ·rcases bB hb with⟨j,u,rfl,e⟩|⟨y,u,rfl,e⟩
   ·injection e with e1 _;rw[e1]
   ·exact nomatch e
  ·rcases bB hb with⟨j,u,rfl,e⟩|⟨y,u,rfl,e⟩
   ·exact nomatch e
   ·injection e with e1 _;rw[e1]
 byValue:=fun k v h=>by
  rcases bB h with⟨i,t,rfl,rfl⟩|⟨x,t,rfl,rfl⟩<;>rfl
 pyHash:=fun hv h=>by
  rcases bB hv with⟨i,t,rfl,rfl⟩|⟨x,t,rfl,rfl⟩
  ·exact wpAny_pyHash_int h
  ·exact wpAny_pyHash_str h
 eqBool:=fun hu hv h=>by
  rcases bB hu with⟨i,t,rfl,rfl⟩|⟨x,t,rfl,rfl⟩
  ·rcases bB hv with⟨j,u,rfl,rfl⟩|⟨y,u,rfl,rfl⟩
   ·rw[zD]at h;exact wpAny_eqBool_int h
   ·rw[zC]at h;exact SeqAt.EqAt.int_str i t y u _ _ _ _ h
  ·rcases bB hv with⟨j,u,rfl,rfl⟩|⟨y,u,rfl,rfl⟩
   ·rw[zB]at h;exact SeqAt.EqAt.str_int x t j u _ _ _ _ h
   ·rw[zA]at h;exact wpAny_eqBool_str h
 «strs»:=fun k x t v h=>by
  rcases bB h with⟨i,u,rfl,e⟩|⟨y,u,rfl,e⟩
  ·exact nomatch e
  ·injection e with e1 _
   subst e1;cases v<;>rfl
theorem ot(prog:Program)(w:World)(i:Int)(t:Tok):(du prog w).is (.inl i) (.int i t)=true:=sh i t
theorem om(prog:Program)(w:World)(x:Str)(t:Tok):(du prog w).is (.inr x) (.str x t)=true:=sg x t
inductive V where
 |non|bl (b:Bool)|int (i:Int)|str (x:Str)|byt (b:Array UInt8)|flt (b:UInt64)|ref (a:Addr)|ty (n:String)
 deriving DecidableEq
def RelV:V->Value->Prop
 |.non,u=>u=Value.none
 |.bl b,u=>u=Value.bool b
 |.int i,u=>∃t,u=Value.int i t
 |.str x,u=>∃t,u=Value.str x t
 |.byt b,u=>∃t,u=Value.bytes b t
 |.flt b,u=>∃t,u=Value.float b t
 |.ref a,u=>u=Value.ref a
 |.ty n,u=>u=Value.type n
abbrev Vals:List V->List Value->Prop:=Paired RelV
theorem Vals.length{xs:List V}{us:List Value}(r:Vals xs us):xs.length=us.length:=Paired.length r
theorem Vals.get:∀{xs:List V} {us:List Value} {i:Nat} {x:V},Vals xs us->xs[i]? = some x->∃u,us[i]? = some u/\RelV x u
 |_,_,_,_,.nil,e=>by simp at e
 |_,_,0,_,.cons r _,e=>by simp at e;subst e;exact⟨_,rfl,r⟩
 |_,_,i+1,x,.cons _ t,e=>by
  obtain⟨u,h1,h2⟩:=Vals.get (i:=i) (x:=x) t (by simpa using e);exact⟨u,by simpa using h1,h2⟩
theorem Vals.set{x:V}{u:Value}(r:RelV x u):∀{xs:List V} {us:List Value} (i:Nat),Vals xs us->Vals (xs.set i x) (us.set i u)
 |_,_,_,.nil=>.nil
 |_,_,0,.cons _ t=>.cons r t
 |_,_,i+1,.cons q t=>.cons q (Vals.set r i t)
theorem Vals.append:∀{xs ys:List V} {us ws:List Value},Vals xs us->Vals ys ws->Vals (xs++ys) (us++ws)
 |_,_,_,_,.nil,s=>s
 |_,_,_,_,.cons r t,s=>.cons r (Vals.append t s)
theorem Vals.take:∀{xs:List V} {us:List Value} (n:Nat),Vals xs us->Vals (xs.take n) (us.take n)
 |_,_,0,_=>.nil
 |_,_,_+1,.nil=>.nil
 |_,_,n+1,.cons r t=>.cons r (Vals.take n t)
theorem Vals.drop:∀{xs:List V} {us:List Value} (n:Nat),Vals xs us->Vals (xs.drop n) (us.drop n)
 |_,_,0,r=>r
 |_,_,_+1,.nil=>.nil
 |_,_,n+1,.cons _ t=>Vals.drop n t
def RelO:Option V->Option Value->Prop
 |some v,some u=>RelV v u
 |none,none=>True
 |_,_=>False
def KV{κ:Type}:List (κ × V)->List (κ × Value)->Prop:=Paired fun(p:κ × V) (q:κ × Value)=>p.1=q.1/\RelV p.2 q.2
noncomputable def kV:bb->V
 |.inl i=>.int i
 |.inr x=>.str x
inductive HO where
 |lst (xs:List V)
 |tup (xs:List V)
 |dK (kvs:List (bb×V))|dT (kvs:List (List bb×V))
 |set (S:Int->Bool) (n:Nat)
 |ins (C dx:Addr) (fs:List (Str×V))
 |own (x:Addr)
 |xd (fs:List (Str×V))
 |met (f x:Addr)
 |rng (lo hi:Int)
 |frz (o:Obj) (u:HO)
 |tbl (ps:Array Value)
 |cod (c:Addr)
 |cdc (c cl:Addr) (oc:Obj)
 |ext (φ:Heap->Prop)
abbrev Hp:=Addr->Option HO
noncomputable def upd(H:Hp)(a:Addr)(o:HO):Hp:=fun b=>if b=a then some o else H b
theorem aG{H:Hp}{a:Addr}{o:HO}:upd H a o a=some o:=by unfold upd;rw[if_pos rfl]
theorem az{H:Hp}{a b:Addr}{o:HO}(h:b≠a):upd H a o b=H b:=by unfold upd;rw[if_neg h]
theorem aR{H:Hp}{a b:Addr}{o:HO}(h:H a=some o)(h':H b=none):a≠b:=by
 intro e;subst e;rw[h]at h';cases h'
section
variable(P:Program)(w:World)
def NoDi(h:Heap)(a:Addr):Prop:=∃o,h.get? a=some o/\o.dict=none
theorem NoDi.new(h:Heap)(o:Obj)(e:o.dict=none:=by rfl)(f:o.isFreed=false:=by rfl):NoDi (h.push o) h.objs.size:=⟨o,Heap.get?_push_size h f,e⟩
def ObjOk(H:Hp)(h:Heap)(a:Addr):HO->Prop
 |.lst xs=>xs.length<=sizeLine/\∃(its:List Value) (n:Nat),Vals xs its/\h.get? a=some { cls:=.type "list",data:=.seq its.toArray n }
 |.tup xs=>xs.length<=sizeLine/\∃its:List Value,Vals xs its/\IsTup h a its.toArray/\NoDi h a
 |.dK kvs=>kvs.length<=sizeLine/\(a==sysModules)=false/\∃vs,KV kvs vs/\h.DictOf (du P w) a vs
 |.dT kvs=>kvs.length<=sizeLine/\(a==sysModules)=false/\∃xs:List (List bb×Addr×Value),
   Paired (fun(p:List bb×V) (q:List bb×Addr×Value)=>p.1=q.1/\H q.2.1=some (.tup (p.1.map kV))/\RelV p.2 q.2.2) kvs xs /\
   ∃o es ep,h.get? a=some o/\o.ExactDict/\o.data=.dict es ep/\es.toList=xs.map (entryOfKey (tupleKind (du P w)))/\(xs.map (·.1)).Nodup
 |.set S n=>h.SetOf (intKind P w) a S n
 |.ins C dx fs=>H dx=some (.own a)/\fs.length<=1000/\dx≠a/\h.get? a=some (PySem.W.instObj C dx) /\
   ∃mA,h.Ns1 dx mA/\(∀f,RelO (fs.lookup f) (mA f))/\PySem.Within mA (fs.map (·.1))
 |.own _=>∃o,h.get? a=some o
 |.xd fs=>∃mA,h.Ns1 a mA/\∀f,RelO (fs.lookup f) (mA f)
 |.rng lo hi=>∃t u v,h.get? a=some { cls:=.type "range",data:=.fields #[.int lo t,.int hi u,.int 1 v] }
 |.frz o u=>h.get? a=some o/\ObjOk H h a u
 |.tbl _=>∃ps:Array Value,h.get? a=some { cls:=.none,data:=.fields ps }/\TriplesOk ps.toList/\∀pos cv,codeAmong pos ps.toList=some cv ->
   ∃(c:Addr) (oc:Obj) (u:HO) (vs:Array Value) (q:Str) (t:Tok),cv=.ref c/\H c=some (.frz oc u)/\oc.data=.fields vs/\vs[1]? = some (.str q t)
 |.cod c=>(∃o,h.get? a=some o)/\∃(oc:Obj) (u:HO) (vs:Array Value) (q:Str) (t:Tok),H c=some (.frz oc u)/\oc.data=.fields vs/\vs[1]? = some (.str q t)
 |.cdc c cl ob=>(∃o,h.get? a=some o)/\(∃(oc:Obj) (u:HO) (vs:Array Value) (q:Str) (t:Tok),H c=some (.frz oc u)/\oc.data=.fields vs/\vs[1]? = some (.str q t))/\H cl=some (.frz ob (.own 0))
 |.met f x=>h.get? a=some (PySem.W.methodObj (.ref f) (.ref x))
 |.ext φ=>φ h/\(∃o,h.get? a=some o)/\∀h1 h2:Heap,φ h1->(∀o,h1.get? a=some o->h2.get? a=some o) -> φ h2
def HOk(H:Hp)(h:Heap):Prop:=∀a o,H a=some o->ObjOk P w H h a o
end
section
variable{P:Program}{w:World}{H H':Hp}{h h':Heap}{a:Addr}{o:HO}
theorem ObjOk.lt(x:ObjOk P w H h a o):a<h.objs.size:=by
 cases o with
 |lst xs=>obtain⟨_,_,_,_,e⟩:=x;exact Heap.lt_size e
 |tup xs=>obtain⟨_,_,_,p⟩:=x;exact p.1.lt
 |dK kvs=>obtain⟨_,_,_,_,o,_,_,e,_⟩:=x;exact Heap.lt_size e
 |dT kvs=>obtain⟨_,_,_,_,o,_,_,e,_⟩:=x;exact Heap.lt_size e
 |set S n=>obtain⟨o,_,_,_,e,_⟩:=x;exact Heap.lt_size e
 |ins C dx fs=>obtain⟨_,_,_,e,_⟩:=x;exact Heap.lt_size e
 |own y=>obtain⟨_,e⟩:=x;exact Heap.lt_size e
 |xd fs=>obtain⟨_,⟨_,_,_,e,_⟩,_⟩:=x;exact Heap.lt_size e
 |rng lo hi=>obtain⟨_,_,_,e⟩:=x;exact Heap.lt_size e
 |frz ob u=>obtain⟨e,_⟩:=x;exact Heap.lt_size e
 |tbl ps=>obtain⟨_,e,_⟩:=x;exact Heap.lt_size e
 |cod c=>obtain⟨⟨_,e⟩,_⟩:=x;exact Heap.lt_size e
 |cdc c cl ob=>obtain⟨⟨_,e⟩,_⟩:=x;exact Heap.lt_size e
 |met f y=>exact Heap.lt_size (show h.get? a=some _ from x)
 |ext φ=>obtain⟨_,⟨_,e⟩,_⟩:=x;exact Heap.lt_size e
theorem Paired.mapP{α β:Type}{F G:α -> β -> Prop}:∀{l₁:List α} {l₂:List β},Paired F l₁ l₂ -> (∀a b,F a b->G a b)->Paired G l₁ l₂
 |_,_,.nil,_=>.nil
 |_,_,.cons r t,f=>.cons (f _ _ r) (Paired.mapP t f)
theorem ObjOk.stay(x:ObjOk P w H h a o)(k:∀b u,(b=a\/H b=some (.own a))->h.get? b=some u->h'.get? b=some u)
  (ho:∀b,H b=some (.own a)->H' b=some (.own a)) (ht:∀b xs,H b=some (.tup xs)->H' b=some (.tup xs)) (hf:∀b o u,H b=some (.frz o u)->H' b=some (.frz o u)):ObjOk P w H' h' a o:=by
 induction o with
 |lst xs=>obtain⟨z,its,n,r,e⟩:=x;exact⟨z,its,n,r,k _ _ (.inl rfl) e⟩
 |tup xs=>obtain⟨z,its,r,⟨ob,e,c⟩,od,e',c'⟩:=x;exact⟨z,its,r,⟨ob,k _ _ (.inl rfl) e,c⟩,od,k _ _ (.inl rfl) e',c'⟩
 |dK kvs=>obtain⟨z,y,vs,r,ob,es,ep,e,c⟩:=x;exact⟨z,y,vs,r,ob,es,ep,k _ _ (.inl rfl) e,c⟩
 |dT kvs=>
  obtain⟨z,y,xs,r,ob,es,ep,e,c⟩:=x;exact⟨z,y,xs,Paired.mapP r fun p q z=>⟨z.1,ht _ _ z.2.1,z.2.2⟩,ob,es,ep,k _ _ (.inl rfl) e,c⟩
 |set S n=>obtain⟨ob,es,ep,t,e,c⟩:=x;exact⟨ob,es,ep,t,k _ _ (.inl rfl) e,c⟩
 |ins C dx fs=>
  obtain⟨d,z,ne,e,mA,⟨od,es,ep,e2,c⟩,r⟩:=x;exact⟨ho _ d,z,ne,k _ _ (.inl rfl) e,mA,⟨od,es,ep,k _ _ (.inr d) e2,c⟩,r⟩
 |own y=>obtain⟨ob,e⟩:=x;exact⟨ob,k _ _ (.inl rfl) e⟩
 |xd fs=>obtain⟨mA,⟨od,es,ep,e,c⟩,r⟩:=x;exact⟨mA,⟨od,es,ep,k _ _ (.inl rfl) e,c⟩,r⟩
 |rng lo hi=>obtain⟨t,u,v,e⟩:=x;exact⟨t,u,v,k _ _ (.inl rfl) e⟩
 |frz ob u ih=>obtain⟨e,q⟩:=x;exact⟨k _ _ (.inl rfl) e,ih q⟩
 |tbl ps=>
  obtain⟨ps,e,t,g⟩:=x;exact⟨ps,k a _ (.inl rfl) e,t,fun pos cv q=>let ⟨c,oc,u,vs,q',t',e1,e2,r⟩:=g pos cv q; ⟨c,oc,u,vs,q',t',e1,hf _ _ _ e2,r⟩⟩
 |cod c=>
  obtain⟨⟨o,e⟩,oc,u,vs,q',t',e2,r⟩:=x;exact⟨⟨o,k a _ (.inl rfl) e⟩,oc,u,vs,q',t',hf _ _ _ e2,r⟩
 |cdc c cl ob=>
  obtain⟨⟨o,e⟩,⟨oc,u,vs,q',t',e2,r⟩,e3⟩:=x;exact⟨⟨o,k a _ (.inl rfl) e⟩,⟨oc,u,vs,q',t',hf _ _ _ e2,r⟩,hf _ _ _ e3⟩
 |met f y=>
  have e:h.get? a=some (PySem.W.methodObj (.ref f) (.ref y)):=x;show h'.get? a=some (PySem.W.methodObj (.ref f) (.ref y));exact k a _ (.inl rfl) e
 |ext φ=>obtain⟨p,⟨o,e⟩,st⟩:=x;exact⟨st _ _ p fun o q=>k _ _ (.inl rfl) q,⟨o,k _ _ (.inl rfl) e⟩,st⟩
theorem HOk.lt(x:HOk P w H h)(e:H a=some o):a<h.objs.size:=(x a o e).lt
theorem HOk.fresh(x:HOk P w H h)(e:h.objs.size<=a):H a=none:=by
 cases q:H a with
 |none=>rfl
 |some u=>exact absurd (Nat.lt_of_lt_of_le (x.lt q) e) (Nat.lt_irrefl _)
theorem HOk.kept(x:HOk P w H h)(k:∀b u,h.get? b=some u->h'.get? b=some u):HOk P w H h':=fun a o e=>
 (x a o e).stay (fun b u _ q=>k b u q) (fun _ q=>q) (fun _ _ q=>q) fun _ _ _ q=>q
theorem HOk.laid(x:HOk P w H h)(k:∀b u,h.get? b=some u->h'.get? b=some u)(hp:h.objs.size<=a)(new:ObjOk P w (upd H a o) h' a o):HOk P w (upd H a o) h':=fun b u e=>by
 have hn:=x.fresh hp;by_cases hb:b=a
 ·subst hb;rw[aG]at e;cases e;exact new
 ·rw[az hb]at e
  exact(x b u e).stay (fun c v _ q=>k c v q) (fun c q=>by rw[az (aR q hn)];exact q) (fun c xs q=>by rw[az (aR q hn)];exact q) fun c o xs q=>by rw[az (aR q hn)];exact q
end
def Rd(H:Hp)(a:Addr)(u:HO):Prop:=H a=some u\/∃o,H a=some (.frz o u)
theorem Rd.ok{P:Program}{w:World}{H:Hp}{h:Heap}{a:Addr}{u:HO}(r:Rd H a u)(x:HOk P w H h):ObjOk P w H h a u:=by
 rcases r with r|⟨o,r⟩
 ·exact x a u r
 ·obtain⟨_,q⟩:=x a _ r
  exact q
def Cv:Option HO->Prop
 |some (.lst _)=>True
 |some (.dK _)=>True
 |some (.dT _)=>True
 |some (.set _ _)=>True
 |some (.ins _ _ _)=>True
 |some (.ext _)=>True
 |_=>False
section
variable{P:Program}{w:World}{H:Hp}{h h':Heap}{x e:Addr}{o':HO}
theorem HOk.write(ok:HOk P w H h)(mu:Cv (H x))(he:e=x\/H e=some (.own x))(k:∀b u,b≠e->h.get? b=some u->h'.get? b=some u)(heo:∃u,h'.get? e=some u)
  (new:ObjOk P w (upd H x o') h' x o'):HOk P w (upd H x o') h':=fun b u q=>by
 have nown:∀c y,H c=some (.own y)->c≠x:=fun c y r z=>by subst z;rw[r]at mu;exact mu
 have ntup:∀c xs,H c=some (.tup xs)->c≠x:=fun c xs r z=>by subst z;rw[r]at mu;exact mu
 have nfrz:∀c o xs,H c=some (.frz o xs)->c≠x:=fun c o xs r z=>by subst z;rw[r]at mu;exact mu
 by_cases hb:b=x
 ·subst hb;rw[aG]at q;cases q;exact new
 ·rw[az hb]at q
  by_cases hbe:b=e
  ·have q':H b=some (.own x):=by
    rcases he with z|z
    ·exact absurd (hbe.trans z) hb
    ·rw[hbe];exact z
   rw[q]at q';cases q';obtain⟨v,hv⟩:=heo;exact⟨v,by rw[hbe];exact hv⟩
  ·refine(ok b u q).stay (fun c v hc r=>k c v ?_ r) (fun c r=>by rw[az (nown c b r)];exact r) (fun c xs r=>by rw[az (ntup c xs r)];exact r) fun c o xs r=>by rw[az (nfrz c o xs r)];exact r
   rcases hc with rfl|hc
   ·exact hbe
   ·rintro rfl
    rcases he with z|z
    ·exact nown c b hc z
    ·rw[hc]at z;cases z;exact hb rfl
end
structure Un (fs ex:List Addr) (H H':Hp) (h h':Heap):Prop where
 keep:∀b o,h.get? b=some o->H b=none->b ∉ fs->b ∉ ex->h'.get? b=some o
 slot:∀b o,h.get? b=some o->H b=none->b∈fs->b ∉ ex->∃sl,h'.get? b=some { o with slots:=sl }
 free:∀b o,h.get? b=some o->H b=none->b ∉ ex->H' b=none
 there:∀b o,h.get? b=some o->b ∉ ex->∃o',h'.get? b=some o'
 tups:∀b xs,H b=some (.tup xs)->H' b=some (.tup xs)
 frzs:∀b o u,H b=some (.frz o u)->H' b=some (.frz o u)
 tbls:∀b ps,H b=some (.tbl ps)->∃more,H' b=some (.tbl (ps++more))
section
variable{fs fs' ex ex':List Addr}{H H1 H2:Hp}{h h1 h2 h':Heap}{a x e:Addr}{o:HO}
theorem Un.any(u:Un fs ex H H1 h h1){b:Addr}{ob:Obj}(q:h.get? b=some ob)(n:H b=none)(hx:b ∉ ex):∃sl,h1.get? b=some { ob with slots:=sl }:=by
 by_cases hb:b∈fs
 ·exact u.slot b ob q n hb hx
 ·exact⟨ob.slots,u.keep b ob q n hb hx⟩
theorem Un.kept(k:∀b u,h.get? b=some u->h'.get? b=some u):Un fs ex H H h h':=
 ⟨fun b ob q _ _ _=>k b ob q,fun b ob q _ _ _=>⟨ob.slots,k b ob q⟩,fun _ _ _ n _=>n,fun b ob q _=>⟨ob,k b ob q⟩,fun _ _ q=>q,fun _ _ _ q=>q,fun _ ps q=>⟨#[],by rw[q];simp⟩⟩
theorem Un.refl:Un fs ex H H h h:=Un.kept fun _ _ q=>q
theorem Un.laid(k:∀b u,h.get? b=some u->h'.get? b=some u)(hp:h.objs.size<=a)(hn:H a=none):Un fs ex H (upd H a o) h h' where
 keep:=fun b u q _ _ _=>k b u q
 slot:=fun b u q _ _ _=>⟨u.slots,k b u q⟩
 free:=fun b u q n _=>by rw[az (Nat.ne_of_lt (Nat.lt_of_lt_of_le (Heap.lt_size q) hp))];exact n
 there:=fun b u q _=>⟨u,k b u q⟩
 tups:=fun b xs q=>by rw[az (aR q hn)];exact q
 frzs:=fun b u xs q=>by rw[az (aR q hn)];exact q
 tbls:=fun b ps q=>⟨#[],by rw[az (aR q hn),q];simp⟩
theorem Un.write(mu:Cv (H x))(he:e=x\/H e=some (.own x))(k:∀b u,b≠e->h.get? b=some u->h'.get? b=some u)(heo:∃u,h'.get? e=some u):Un fs ex H (upd H x o) h h':=by
 have hx:∀b,H b=none->b≠x:=fun b n z=>by subst z;rw[n]at mu;exact mu
 have hb:∀b,H b=none->b≠e:=fun b n z=>by
  subst z;rcases he with r|r
  ·exact hx b n r
  ·rw[n]at r;cases r
 have hm:∀b u,H b=some u->¬Cv (some u)->b≠x:=fun b u q nm z=>by subst z;rw[q]at mu;exact nm mu
 refine⟨fun b u q n _ _=>k b u (hb b n) q,fun b u q n _ _=>⟨u.slots,k b u (hb b n) q⟩,fun b u q n _=>by rw[az (hx b n)];exact n,fun b u q _=>?_,
  fun b xs q=>by rw[az (hm b _ q fun z=>z)];exact q,fun b u xs q=>by rw[az (hm b _ q fun z=>z)];exact q,fun b ps q=>⟨#[],by rw[az (hm b _ q fun z=>z),q];simp⟩⟩
 by_cases hbe:b=e
 ·subst hbe;exact heo
 ·exact⟨u,k b u hbe q⟩
end
noncomputable def B9(h:Heap)(H:Hp):List Addr:=(List.range h.objs.size).filter fun a=>(H a).isSome
noncomputable def kr(h:Heap)(H:Hp):Heap:=PySem.W.hideAll h (B9 h H)
theorem ss(h:Heap)(H:Hp):(kr h H).objs.size=h.objs.size:=PySem.W.hideAll_size _ _
theorem uJ{h:Heap}{H:Hp}{b:Addr}{o:Obj}(e:h.get? b=some o)(n:H b=none):(kr h H).get? b=some o:=
 PySem.W.hideAll_get _ e fun hm=>by
  have q:(H b).isSome=true:=(List.mem_filter.mp hm).2;rw[n]at q;simp at q
theorem wx{h:Heap}{H:Hp}{b:Addr}{o:Obj}(e:(kr h H).get? b=some o):h.get? b=some o/\H b=none:=by
 have e':h.get? b=some o:=PySem.W.of_hideAll (B9 h H) e;refine⟨e',?_⟩;cases q:H b with
 |none=>rfl
 |some x=>
  have hm:b∈B9 h H:=List.mem_filter.mpr ⟨List.mem_range.mpr (Heap.lt_size e'),by simp[q]⟩;have z:(kr h H).get? b=none:=PySem.W.hideAll_none (B9 h H) hm;rw[z]at e;cases e
noncomputable def xF(g h:Heap)(L:Addr):List (Addr×Obj):=(List.range h.objs.size).filterMap fun a=>if a=L\/(g.get? a).isSome=true then none else(h.get? a).map fun o=>(a,o)
noncomputable def rest(g h:Heap)(L d:Addr):List (Addr×Obj):=(xF g h L).filter fun p=>decide (p.1≠d)
noncomputable def lamDefs:List Str:=["settled_sum","settled"]
theorem pA{K:PySem.W.Frag}{x:Str}{c P:Addr}(ht:PySem.W.tabIn K x=some (c,P)):∃o,K.lookup c=some o:=by
 unfold PySem.W.tabIn at ht;split at ht
 ·split at ht
  ·split at ht
   ·split at ht
    ·rename_i h
     split at ht
     ·cases ht;exact⟨_,h⟩
     ·cases ht
    ·cases ht
   ·cases ht
  ·cases ht
 ·cases ht
structure Mod (K:PySem.W.Frag) (mg:Str->Option Value) (base:Heap):Prop where
 kin:K.In base
 glob:base.Ns mainGlobals mg
 blt:∃mb,base.Ns builtinsNs mb/\∀x:Str,x ≠ "__name__" -> mb x=bootBuiltins x
 nolimit:base.NoLimit
 bmain:BMain base mg
 tabs:∀x∈lamDefs,∀c P,PySem.W.tabIn K x=some (c,P)->PySem.W.CodeHd base c P
def xI(K:PySem.W.Frag)(H:Hp):Prop:=∀x∈lamDefs,∀c P,PySem.W.tabIn K x=some (c,P)->∃ps,H P=some (.tbl ps)
structure Cx where
 prog:Program
 w:World
 K:PySem.W.Frag
 mg:Str->Option Value
 base:Heap
 A:Around
 N:List Str
 s₀:Shared
 H₀:Hp
 env:Env
 outer:List Env
 stack:List Env
 ex:List Addr
 fn:Str->Bool
 cz:Str->Bool
 calm:Bool
 pn:List (Addr×Obj)
 xe:Value->Shared->Prop
noncomputable def sQ(l:List Env):List Addr:=l.filterMap (·.frame)
abbrev Cx.fs(X:Cx):List Addr:=sQ X.outer
def Ak(sc:Scope)(x:Str):Prop:=sc.names.lookup x=some .local\/sc.names.lookup x=some .cell\/sc.names.lookup x=some .free
def vF(sc:Scope)(x:Str):Prop:=sc.names.lookup x=some .local\/sc.names.lookup x=some .cell
def DZ(env:Env)(h:Heap)(m:Str->Option Value)(x:Str)(u:Value):Prop:=
 (env.kindOf x=some .local/\m x=some u)\/((env.kindOf x=some .cell\/env.kindOf x=some .free)/\∃c,env.cells.lookup x=some c/\h.IsCell c (some u))
structure Cx.Ok (X:Cx):Prop where
 mod:Mod X.K X.mg X.base
 kind:X.env.scope.kind=.function
 glob:X.env.globals=mainGlobals
 blt:X.env.builtins=builtinsNs
 above:X.s₀.heap.objs.size<=X.env.locals
 inj:∀x y c,X.env.cells.lookup x=some c->X.env.cells.lookup y=some c->x=y
 has:∀x,(X.env.kindOf x=some .cell\/X.env.kindOf x=some .free)->∃c,X.env.cells.lookup x=some c
 cab:∀x c,(X.fn x=true\/X.cz x=true)->X.env.cells.lookup x=some c->X.s₀.heap.objs.size<=c
 hd:X.calm=true->X.A.handled=none
 frames:X.A.frames=some X.stack
 stk:X.stack=X.outer\/(X.stack=X.env::X.outer/\X.env.frame=some X.env.locals)
 exf:∀b∈X.ex,b≠X.env.locals/\∀x c,X.env.cells.lookup x=some c->c≠b
 bs:∀b o,X.base.get? b=some o->X.s₀.heap.get? b=some o/\X.H₀ b=none
 bsz:X.base.objs.size<=X.s₀.heap.objs.size
 noex:∀b o,X.base.get? b=some o->b ∉ X.ex
 exfs:∀b∈X.ex,b ∉ X.fs
 funs:X.s₀.heap.FunFrames X.base X.outer
 frf:∀b∈X.fs,X.H₀ b=none
 tb:xI X.K X.H₀
structure Inv (X:Cx) (pins:List (Addr×Obj)) (σ:List (Option V)) (H:Hp) (s:Shared):Prop where
 ok:X.Ok
 os:s.os=X.s₀.os
 bare:AllBare s.gens
 base:Un X.fs X.ex X.H₀ H X.s₀.heap s.heap
 loc:∃m,s.heap.Ns X.env.locals m/\∀(i:Nat) (x:Str) (v:V),X.N[i]? = some x -> σ[i]? = some (some v)->Ak X.env.scope x->∃u,RelV v u/\DZ X.env s.heap m x u
 cell:∀x c,X.env.cells.lookup x=some c->∃v,s.heap.IsCell c v
 free:H X.env.locals=none
 freeC:∀x c,X.env.cells.lookup x=some c->H c=none\/(X.fn x=false/\∃o,H c=some (.frz o (.own 0)))
 pin:∀p∈X.pn++pins,s.heap.get? p.1=some p.2/\H p.1=none/\p.1≠X.env.locals/\p.1 ∉ X.fs/\∀v,p.2.data≠.cell v
 hok:HOk X.prog X.w H s.heap
 len:σ.length=X.N.length
section
variable{X:Cx}{pins:List (Addr×Obj)}{σ:List (Option V)}{H H':Hp}{s:Shared}{h':Heap}
theorem Cx.Ok.nofr(ok:X.Ok){b:Addr}{o:Obj}(e:X.base.get? b=some o):b ∉ X.fs:=fun hb=>by
 have:=(ok.funs.mem hb).1;rw[e]at this;cases this
theorem Inv.bs(I:Inv X pins σ H s):∀b o,X.base.get? b=some o->s.heap.get? b=some o/\H b=none:=fun b o e=>
 ⟨I.base.keep b o (I.ok.bs b o e).1 (I.ok.bs b o e).2 (I.ok.nofr e) (I.ok.noex b o e),I.base.free b o (I.ok.bs b o e).1 (I.ok.bs b o e).2 (I.ok.noex b o e)⟩
theorem Inv.bk(I:Inv X pins σ H s):∀b o,X.base.get? b=some o->s.heap.get? b=some o:=fun b o e=>(I.bs b o e).1
theorem Inv.mod(I:Inv X pins σ H s):Mod X.K X.mg X.base:=I.ok.mod
theorem Inv.tb(I:Inv X pins σ H s):xI X.K H:=fun x hx c P e=>by
 obtain⟨ps,h⟩:=I.ok.tb x hx c P e;obtain⟨m,h'⟩:=I.base.tbls P ps h;exact⟨_,h'⟩
theorem Inv.kIn(I:Inv X pins σ H s):X.K.In s.heap:=I.ok.mod.kin.keeps I.bk
theorem Inv.fr(I:Inv X pins σ H s):∃m,Fr X.base X.env.locals s.heap m:=
 let ⟨m,hn,_⟩:=I.loc
 ⟨m,hn,I.bk,Nat.le_trans I.ok.bsz I.ok.above⟩
theorem Inv.lt(I:Inv X pins σ H s):X.env.locals<s.heap.objs.size:=let ⟨_,hn,_⟩:=I.loc;hn.lt
theorem Inv.sz(I:Inv X pins σ H s):X.s₀.heap.objs.size<=s.heap.objs.size:=Nat.le_trans I.ok.above (Nat.le_of_lt I.lt)
theorem Inv.nofs(I:Inv X pins σ H s){a:Addr}(h:s.heap.objs.size<=a):a ∉ X.fs:=fun hb=>by
 obtain⟨_,o,ho,_⟩:=I.ok.funs.mem hb;exact absurd (Nat.lt_of_lt_of_le (Heap.lt_size ho) (Nat.le_trans I.sz h)) (Nat.lt_irrefl _)
theorem Inv.cne(I:Inv X pins σ H s):∀x c,X.env.cells.lookup x=some c->c≠X.env.locals:=fun x c e z=>by
 obtain⟨v,o,ho,hd⟩:=I.cell x c e;obtain⟨m,⟨o',es,ep,ho',hd',_⟩,_⟩:=I.loc;rw[z,ho']at ho;cases ho;rw[hd']at hd;cases hd
theorem Inv.funs(I:Inv X pins σ H s):s.heap.FunFrames X.base X.outer:=by
 have all:∀(l:List Env),(∀b∈sQ l,b∈X.fs)->X.s₀.heap.FunFrames X.base l->s.heap.FunFrames X.base l:=by
  intro l
  induction l with
  |nil=>intro _ _;trivial
  |cons env r ih=>
   intro hs hl;obtain⟨hk,⟨L,o,hf,hn,ho,hd⟩,hr⟩:=hl;have hL:L∈X.fs:=hs L (by unfold sQ;rw[List.filterMap_cons,hf];exact List.mem_cons_self);obtain⟨sl,e⟩:=I.base.slot L o ho (I.ok.frf L hL) hL fun z=>I.ok.exfs L z hL
   exact⟨hk,⟨L,_,hf,hn,e,hd⟩,ih (fun b hb=>hs b (by unfold sQ;rw[List.filterMap_cons,hf];exact List.mem_cons_of_mem _ hb)) hr⟩
 exact all X.outer (fun _ hb=>hb) I.ok.funs
theorem Inv.stack(I:Inv X pins σ H s):s.heap.FunFrames X.base X.stack:=by
 rcases I.ok.stk with e|⟨e,hf⟩
 ·rw[e];exact I.funs
 ·rw[e]
  obtain⟨m,hn,_⟩:=I.loc;refine .cons (by rw[I.ok.kind];decide) hf hn ?_ I.funs;exact Heap.get?_none_of_le (Nat.le_trans I.ok.bsz I.ok.above)
theorem Inv.stkSub(I:Inv X pins σ H s):∀b∈sQ X.stack,b∈X.env.locals::X.fs:=fun b hb=>by
 rcases I.ok.stk with e|⟨e,hf⟩
 ·rw[e]at hb;exact List.mem_cons_of_mem _ hb
 ·rw[e]at hb
  unfold sQ at hb;rw[List.filterMap_cons,hf]at hb;exact hb
theorem Inv.stkFree(I:Inv X pins σ H s):∀b∈sQ X.stack,H b=none:=fun b hb=>by
 rcases List.mem_cons.mp (I.stkSub b hb)with e|hb
 ·rw[e];exact I.free
 ·obtain⟨_,o,ho,_⟩:=I.ok.funs.mem hb
  exact I.base.free b o ho (I.ok.frf b hb) fun z=>I.ok.exfs b z hb
theorem Inv.step{g':Array GenState}{t':Nat}{d':Drawn}{ch:List Addr}(I:Inv X pins σ H s)
  (hch:∀b∈ch,(b∈X.ex\/X.s₀.heap.objs.size<=b)/\b≠X.env.locals/\(∀x c,X.env.cells.lookup x=some c->c≠b)/\∀p∈X.pn++pins,p.1≠b)
  (keep:∀b o,b≠X.env.locals->b ∉ X.fs->b ∉ ch->s.heap.get? b=some o->H b=none->h'.get? b=some o)
  (slot:∀b o,b≠X.env.locals->b∈X.fs->b ∉ ch->s.heap.get? b=some o->H b=none->∃sl,h'.get? b=some { o with slots:=sl }) (free:∀b o,b ∉ ch->s.heap.get? b=some o->H b=none->H' b=none)
  (there:∀b o,b ∉ ch->s.heap.get? b=some o->∃o',h'.get? b=some o')
  (tups:∀b xs,H b=some (.tup xs)->H' b=some (.tup xs)) (frzs:∀b o u,H b=some (.frz o u)->H' b=some (.frz o u)) (tbls:∀b ps,H b=some (.tbl ps)->∃more,H' b=some (.tbl (ps++more)))
  (ns:∀m,s.heap.Ns X.env.locals m->h'.Ns X.env.locals m) (hok:HOk X.prog X.w H' h') (hg:AllBare g') :
  Inv X pins σ H' { s with heap:=h',gens:=g',drawn:=d',toks:=t' }:=by
 have neL:∀b o,X.s₀.heap.get? b=some o->b≠X.env.locals:=fun b o e=>Nat.ne_of_lt (Nat.lt_of_lt_of_le (Heap.lt_size e) I.ok.above)
 have neC:∀b o,X.s₀.heap.get? b=some o->b ∉ X.ex->b ∉ ch:=fun b o e hx hb=>by
  rcases (hch b hb).1 with z|z
  ·exact hx z
  ·exact absurd (Nat.lt_of_lt_of_le (Heap.lt_size e) z) (Nat.lt_irrefl _)
 have cellK:∀x c,X.env.cells.lookup x=some c->∀v,s.heap.IsCell c v->h'.IsCell c v:=fun x c e v ⟨o,ho,hd⟩=>by
  have nch:c ∉ ch:=fun z=>(hch c z).2.2.1 x c e rfl
  rcases I.freeC x c e with n|⟨_,o1,n⟩
  ·by_cases hc:c∈X.fs
   ·obtain⟨sl,q⟩:=slot c o (I.cne x c e) hc nch ho n
    exact⟨_,q,hd⟩
   ·exact⟨o,keep c o (I.cne x c e) hc nch ho n,hd⟩
  ·have e1:=(I.hok c _ n).1
   rw[ho]at e1;cases e1;exact⟨o,(hok c _ (frzs c _ _ n)).1,hd⟩
 refine⟨I.ok,I.os,hg,⟨fun b o e n hb hx=>?_,fun b o e n hb hx=>?_,fun b o e n hx=>?_,fun b o e hx=>?_,fun b xs e=>tups b xs (I.base.tups b xs e),fun b o xs e=>frzs b o xs (I.base.frzs b o xs e),fun b ps e=>?_⟩,?_,fun x c e=>?_,?_,fun x c e=>?_,fun p hp=>?_,hok,I.len⟩
 ·exact keep b o (neL b o e) hb (neC b o e hx) (I.base.keep b o e n hb hx) (I.base.free b o e n hx)
 ·obtain⟨sl,e1⟩:=I.base.slot b o e n hb hx
  obtain⟨sl',e2⟩:=slot b _ (neL b o e) hb (neC b o e hx) e1 (I.base.free b o e n hx);exact⟨sl',e2⟩
 ·obtain⟨o',e1⟩:=I.base.there b o e hx
  exact free b o' (neC b o e hx) e1 (I.base.free b o e n hx)
 ·obtain⟨o',e1⟩:=I.base.there b o e hx
  exact there b o' (neC b o e hx) e1
 ·obtain⟨m1,e1⟩:=I.base.tbls b ps e
  obtain⟨m2,e2⟩:=tbls b _ e1;exact⟨m1++m2,by rw[e2,Array.append_assoc]⟩
 ·obtain⟨m,hn,hl⟩:=I.loc
  refine⟨m,ns m hn,fun i x v e1 e2 e3=>?_⟩
  obtain⟨u,r,l⟩:=hl i x v e1 e2 e3;refine⟨u,r,?_⟩;rcases l with l|⟨k,c,e,z⟩
  ·exact .inl l
  ·exact .inr ⟨k,c,e,cellK x c e _ z⟩
 ·obtain⟨v,z⟩:=I.cell x c e
  exact⟨v,cellK x c e v z⟩
 ·obtain⟨m,⟨o,_,_,ho,_⟩,_⟩:=I.loc
  exact free _ o (fun z=>(hch _ z).2.1 rfl) ho I.free
 ·obtain⟨v,o,ho,hd⟩:=I.cell x c e
  exact(I.freeC x c e).imp (free c o (fun z=>(hch c z).2.2.1 x c e rfl) ho) fun⟨a,o1,n⟩=>⟨a,o1,frzs _ _ _ n⟩
 ·obtain⟨e,n,ne,nf,d⟩:=I.pin p hp
  have nch:p.1 ∉ ch:=fun z=>(hch p.1 z).2.2.2 p hp rfl
  exact⟨keep p.1 p.2 ne nf nch e n,free p.1 p.2 nch e n,ne,nf,d⟩
theorem Inv.un{t':Nat}(I:Inv X pins σ H s)(u:Un X.fs [] H H' s.heap h')(hok:HOk X.prog X.w H' h'):Inv X pins σ H' { s with heap:=h',toks:=t' }:=by
 obtain⟨m,⟨o,es,ep,ho,r⟩,_⟩:=id I.loc;obtain⟨sl,hL⟩:=u.any ho I.free (by simp);exact I.step (g':=s.gens) (d':=s.drawn) (ch:=[]) (fun _ z=>nomatch z) (fun b o _ hb _ e n=>u.keep b o e n hb (by simp)) (fun b o _ hb _ e n=>u.slot b o e n hb (by simp)) (fun b o _ e n=>u.free b o e n (by simp)) (fun b o _ e=>u.there b o e (by simp)) u.tups u.frzs u.tbls (fun m' hm=>by
  obtain⟨o',es',ep',ho',r'⟩:=hm;rw[ho]at ho';cases ho';exact⟨_,es',ep',hL,r'⟩) hok I.bare
theorem Inv.call{g':Array GenState}{t':Nat}{d':Drawn}{ch:List Addr}(I:Inv X pins σ H s)(u:Un (sQ X.stack) ch H H' s.heap h')(hok:HOk X.prog X.w H' h')(hg:AllBare g')
  (hch:∀b∈ch,(b∈X.ex\/X.s₀.heap.objs.size<=b)/\b≠X.env.locals/\(∀x c,X.env.cells.lookup x=some c->c≠b)/\∀p∈X.pn++pins,p.1≠b) :
  Inv X pins σ H' { s with heap:=h',gens:=g',drawn:=d',toks:=t' }:=by
 obtain⟨m,⟨o,es,ep,ho,r⟩,_⟩:=id I.loc;obtain⟨sl,hL⟩:=u.any ho I.free fun z=>(hch _ z).2.1 rfl
 exact I.step (ch:=ch) hch (fun b o hL hb hc e n=>u.keep b o e n (fun z=>(List.mem_cons.mp (I.stkSub b z)).elim hL hb) hc) (fun b o _ _ hc e n=>u.any e n hc) (fun b o hc e n=>u.free b o e n hc) (fun b o hc e=>u.there b o e hc) u.tups u.frzs u.tbls (fun m' hm=>by
  obtain⟨o',es',ep',ho',r'⟩:=hm;rw[ho]at ho';cases ho';exact⟨_,es',ep',hL,r'⟩) hok hg
theorem Inv.turned{t':Nat}{it:Addr}(I:Inv X pins σ H s)(k:∀b o,b≠it->s.heap.get? b=some o->h'.get? b=some o)(hn:H it=none)(hL:it≠X.env.locals)
  (h1:it∈X.ex\/X.s₀.heap.objs.size<=it) (h2:∀x c,X.env.cells.lookup x=some c->c≠it) (h3:∀p∈X.pn++pins,p.1≠it):Inv X pins σ H { s with heap:=h',toks:=t' }:=by
 have nit:∀b u,H b=some u->b≠it:=fun b u e z=>by rw[z,hn]at e;cases e
 refine I.step (g':=s.gens) (d':=s.drawn) (ch:=[it]) (fun b hb=>?_) (fun b o _ _ hc e _=>k b o (fun z=>hc (by simp[z])) e) (fun b o _ _ hc e _=>⟨o.slots,k b o (fun z=>hc (by simp[z])) e⟩) (fun _ _ _ _ n=>n)
  (fun b o hc e=>⟨o,k b o (fun z=>hc (by simp[z])) e⟩) (fun _ _ e=>e) (fun _ _ _ e=>e) (fun b ps e=>⟨#[],by rw[e];simp⟩) (fun m hm=>?_) (fun b u e=>?_) I.bare
 ·have e:b=it:=by simpa using hb
  subst e;exact⟨h1,hL,h2,h3⟩
 ·obtain⟨o,es,ep,ho,r⟩:=hm
  exact⟨o,es,ep,k _ o (Ne.symm hL) ho,r⟩
 ·refine(I.hok b u e).stay (fun c v hc q=>k c v ?_ q) (fun _ q=>q) (fun _ _ q=>q) fun _ _ _ q=>q
  rcases hc with z|z
  ·rw[z];exact nit b u e
  ·exact nit c _ z
theorem Inv.tok(I:Inv X pins σ H s)(t:Nat):Inv X pins σ H { s with toks:=t }:=I.un (h':=s.heap) (t':=t) Un.refl I.hok
theorem Inv.kept{t':Nat}(I:Inv X pins σ H s)(k:∀b u,s.heap.get? b=some u->h'.get? b=some u):Inv X pins σ H { s with heap:=h',toks:=t' }:=I.un (Un.kept k) (I.hok.kept k)
theorem Inv.laid{a:Addr}{o:HO}{t':Nat}(I:Inv X pins σ H s)(k:∀b u,s.heap.get? b=some u->h'.get? b=some u)(hp:s.heap.objs.size<=a)(new:ObjOk X.prog X.w (upd H a o) h' a o):
  Inv X pins σ (upd H a o) { s with heap:=h',toks:=t' }:=I.un (Un.laid k hp (I.hok.fresh hp)) (I.hok.laid k hp new)
theorem Inv.write{x e:Addr}{o:HO}{t':Nat}(I:Inv X pins σ H s)(mu:Cv (H x))(he:e=x\/H e=some (.own x))(k:∀b u,b≠e->s.heap.get? b=some u->h'.get? b=some u)(heo:∃u,h'.get? e=some u)
  (new:ObjOk X.prog X.w (upd H x o) h' x o):Inv X pins σ (upd H x o) { s with heap:=h',toks:=t' }:=I.un (Un.write mu he k heo) (I.hok.write mu he k heo new)
theorem Inv.weak{σ':List (Option V)}(I:Inv X pins σ H s)(hl:σ'.length = σ.length)(w:∀(i:Nat) v,σ'[i]? = some (some v) -> σ[i]? = some (some v)):Inv X pins σ' H s:=
 ⟨I.ok,I.os,I.bare,I.base,let ⟨m,hn,hl'⟩:=I.loc; ⟨m,hn,fun i x v e1 e2 e3=>hl' i x v e1 (w i v e2) e3⟩,I.cell,I.free,I.freeC,I.pin,I.hok,hl.trans I.len⟩
theorem Inv.pins_of{pins':List (Addr×Obj)}(I:Inv X pins σ H s)(h:∀p∈pins',s.heap.get? p.1=some p.2/\H p.1=none/\p.1≠X.env.locals/\p.1 ∉ X.fs/\∀v,p.2.data≠.cell v):Inv X pins' σ H s:=
 ⟨I.ok,I.os,I.bare,I.base,I.loc,I.cell,I.free,I.freeC,fun p hp=>(List.mem_append.mp hp).elim (fun z=>I.pin p (List.mem_append_left _ z)) (h p),I.hok,I.len⟩
theorem oj{N:List Str}(hN:N.Nodup){i j:Nat}{x:Str}(a:N[i]? = some x)(b:N[j]? = some x):i=j:=by
 obtain⟨h1,e1⟩:=List.getElem?_eq_some_iff.mp a;obtain⟨h2,e2⟩:=List.getElem?_eq_some_iff.mp b;exact(List.getElem_inj hN).mp (e1.trans e2.symm)
theorem rL{M:Model}{A:Around}{E:Value->Shared->Prop}{i:Nat}{x:Str}{v:V}{u:Value}{Q:Unit->Shared->Prop}(I:Inv X pins σ H s)(hN:X.N.Nodup)(hi:X.N[i]? = some x)(hx:vF X.env.scope x)(r:RelV v u)
  (h:∀s',Inv X pins (σ.set i (some v)) H s'->(∃a,Heap.SameBut a s.heap s'.heap/\(a=X.env.locals\/X.env.cells.lookup x=some a))->Q () s') (hf:X.fn x=true\/X.env.scope.names.lookup x=some .local:=by first|exact .inl rfl|exact .inr rfl|assumption):wpAny M A (storeName X.env x u) Q E s:=by
 obtain⟨m,hn,hl⟩:=id I.loc;have hcls:(X.env.scope.kind == .class||(X.env.scope.kind == .module&&X.env.locals != X.env.globals))=false:=by rw[I.ok.kind];rfl
 have hiσ:i < σ.length:=by rw[I.len];exact(List.getElem?_eq_some_iff.mp hi).1
 have cne:=I.cne;have tracked:∀{a:Addr} {h':Heap},(∃o,s.heap.get? a=some o/\H a=none)->Heap.SameBut a s.heap h'->HOk X.prog X.w H h':=fun{a h'} ha hs b ob e=>by
  obtain⟨_,_,hfree⟩:=ha;refine(I.hok b ob e).stay (fun c w' hc q=>(hs.2 c ?_).trans q) (fun _ q=>q) (fun _ _ q=>q) fun _ _ _ q=>q
  rintro rfl;rcases hc with rfl|hc
  ·rw[hfree]at e;cases e
  ·rw[hfree]at hc;cases hc
 rcases hx with hk|hk
 ·refine wpAny_storeName_local hk hn (fun h' hn' hs=>?_) hcls
  obtain⟨oL,_,_,hoL,_⟩:=id hn;refine h _ ⟨I.ok,I.os,I.bare,⟨fun b o e n hb hx=>?_,fun b o e n hb hx=>?_,I.base.free,fun b o e hx=>?_,I.base.tups,I.base.frzs,I.base.tbls⟩,⟨_,hn',fun j y v' e1 e2 e3=>?_⟩,fun y c e=>?_,I.free,I.freeC,fun p hp=>?_,tracked ⟨oL,hoL,I.free⟩ hs,by simpa using I.len⟩ ⟨_,hs,.inl rfl⟩
  ·exact(hs.2 b (Nat.ne_of_lt (Nat.lt_of_lt_of_le (Heap.lt_size e) I.ok.above))).trans (I.base.keep b o e n hb hx)
  ·obtain⟨sl,e1⟩:=I.base.slot b o e n hb hx
   exact⟨sl,(hs.2 b (Nat.ne_of_lt (Nat.lt_of_lt_of_le (Heap.lt_size e) I.ok.above))).trans e1⟩
  ·obtain⟨o',e1⟩:=I.base.there b o e hx
   exact⟨o',(hs.2 b (Nat.ne_of_lt (Nat.lt_of_lt_of_le (Heap.lt_size e) I.ok.above))).trans e1⟩
  ·by_cases hj:j=i
   ·subst hj
    rw[hi]at e1;cases e1;rw[List.getElem?_set_self hiσ]at e2;cases e2;exact⟨u,r,.inl ⟨hk,by simp⟩⟩
   ·rw[List.getElem?_set_ne (Ne.symm hj)]at e2
    obtain⟨u',r',q⟩:=hl j y v' e1 e2 e3;refine⟨u',r',?_⟩;rcases q with⟨k,e⟩|⟨k,c,e,z⟩
    ·refine .inl ⟨k,?_⟩
     have:y≠x:=fun e=>hj (oj hN e1 (e ▸ hi))
     simp[this,e]
    ·exact .inr ⟨k,c,e,z.sameBut hs (cne y c e)⟩
  ·obtain⟨w',z⟩:=I.cell y c e
   exact⟨w',z.sameBut hs (cne y c e)⟩
  ·obtain⟨e,n,ne,nf,d⟩:=I.pin p hp
   exact⟨(hs.2 p.1 ne).trans e,n,ne,nf,d⟩
 ·have hfn:X.fn x=true:=by
   rcases hf with z|z
   ·exact z
   ·rw[z]at hk;cases hk
  obtain⟨c,hc⟩:=I.ok.has x (.inl hk);obtain⟨w',z⟩:=I.cell x c hc;refine wpAny_storeName_cell I.ok.kind hk hc z (fun h' hc' hs=>?_);obtain⟨oc,hoc,hocd⟩:=id z;refine h { s with heap:=h' } ⟨I.ok,I.os,I.bare,⟨fun b o e n hb hx=>?_,fun b o e n hb hx=>?_,I.base.free,fun b o e hx=>?_,I.base.tups,I.base.frzs,I.base.tbls⟩,⟨m,hn.sameBut hs (Ne.symm (cne x c hc)),fun j y v' e1 e2 e3=>?_⟩,fun y c' e=>?_,I.free,I.freeC,fun p hp=>?_,tracked ⟨oc,hoc,(I.freeC x c hc).resolve_right fun z=>by rw[hfn]at z;exact nomatch z.1⟩ hs,by simpa using I.len⟩ ⟨c,hs,.inr hc⟩
  ·exact(hs.2 b (Nat.ne_of_lt (Nat.lt_of_lt_of_le (Heap.lt_size e) (I.ok.cab x c (.inl hfn) hc)))).trans (I.base.keep b o e n hb hx)
  ·obtain⟨sl,e1⟩:=I.base.slot b o e n hb hx
   exact⟨sl,(hs.2 b (Nat.ne_of_lt (Nat.lt_of_lt_of_le (Heap.lt_size e) (I.ok.cab x c (.inl hfn) hc)))).trans e1⟩
  ·obtain⟨o',e1⟩:=I.base.there b o e hx
   exact⟨o',(hs.2 b (Nat.ne_of_lt (Nat.lt_of_lt_of_le (Heap.lt_size e) (I.ok.cab x c (.inl hfn) hc)))).trans e1⟩
  ·by_cases hj:j=i
   ·subst hj
    rw[hi]at e1;cases e1;rw[List.getElem?_set_self hiσ]at e2;cases e2;exact⟨u,r,.inr ⟨.inl hk,c,hc,hc'⟩⟩
   ·rw[List.getElem?_set_ne (Ne.symm hj)]at e2
    obtain⟨u',r',q⟩:=hl j y v' e1 e2 e3;refine⟨u',r',?_⟩;rcases q with q|⟨k,c',e,z'⟩
    ·exact .inl q
    ·refine .inr ⟨k,c',e,z'.sameBut hs ?_⟩
     rintro rfl;exact hj (oj hN e1 (I.ok.inj _ _ _ e hc ▸ hi))
  ·by_cases hcc:c'=c
   ·subst hcc;exact⟨_,hc'⟩
   ·obtain⟨w2,z2⟩:=I.cell y c' e
    exact⟨w2,z2.sameBut hs hcc⟩
  ·obtain⟨e,n,ne,nf,d⟩:=I.pin p hp
   refine⟨(hs.2 p.1 ?_).trans e,n,ne,nf,d⟩;intro q;rw[q,hoc]at e;have q':oc=p.2:=Option.some.inj e;exact d w' (by rw[<-q'];exact hocd)
theorem nJ{M:Model}{A:Around}{E:Value->Shared->Prop}{i:Nat}{x:Str}{v:V}{u:Value}{Q:Unit->Shared->Prop}(I:Inv X pins σ H s)(hN:X.N.Nodup)(hi:X.N[i]? = some x)(hx:vF X.env.scope x)(r:RelV v u)
  (h:∀s',Inv X pins (σ.set i (some v)) H s'->Q () s') (hf:X.fn x=true\/X.env.scope.names.lookup x=some .local:=by first|exact .inl rfl|exact .inr rfl|assumption):wpAny M A (storeName X.env x u) Q E s:=
 rL I hN hi hx r (fun s' I' _=>h s' I') hf
theorem Inv.call'{s':Shared}{ch:List Addr}(I:Inv X pins σ H s)(ho:s'.os=s.os)(u:Un (sQ X.stack) ch H H' s.heap s'.heap)(hok:HOk X.prog X.w H' s'.heap)(hg:AllBare s'.gens)
  (hch:∀b∈ch,(b∈X.ex\/X.s₀.heap.objs.size<=b)/\b≠X.env.locals/\(∀x c,X.env.cells.lookup x=some c->c≠b)/\∀p∈X.pn++pins,p.1≠b):Inv X pins σ H' s':=by
 obtain⟨h',g',d',t',o'⟩:=s';have e:o'=s.os:=ho;subst e;exact I.call (g':=g') (t':=t') (d':=d') u hok hg hch
end
abbrev XK:=Value->Option Addr->Hp->Prop
abbrev St:=List (Option V)
abbrev VK:=V->Hp->Prop
abbrev TE:=St->Hp->VK->Prop
abbrev TT:=St->Hp->(Bool->Hp->Prop)->Prop
abbrev TA:=St->Hp->(List V->Hp->Prop)->Prop
structure Ends where
 nx:St->Hp->Prop
 rt:VK
 bk:St->Hp->Prop:=fun _ _=>False
 ct:St->Hp->Prop:=fun _ _=>False
abbrev TS:=Ends->St->Hp->Prop
def EP(X:Cx)(pins:List (Addr×Obj))(σ:St)(Q:VK)(u:Value)(s':Shared):Prop:=∃v H',Inv X pins σ H' s'/\RelV v u/\Q v H'
def TP(X:Cx)(pins:List (Addr×Obj))(σ:St)(Q:Bool->Hp->Prop)(b:Bool)(s':Shared):Prop:=∃H',Inv X pins σ H' s'/\Q b H'
def AP(X:Cx)(pins:List (Addr×Obj))(σ:St)(Q:List V->Hp->Prop)(us:List Value)(s':Shared):Prop:=∃vs H',Inv X pins σ H' s'/\Vals vs us/\Q vs H'
def SP(X:Cx)(pins:List (Addr×Obj))(D:Ends)(f:Flow)(s':Shared):Prop:=
 match f with
 |.next=>∃ σ' H',Inv X pins σ' H' s'/\D.nx σ' H'
 |.brk=>∃ σ' H',Inv X pins σ' H' s'/\D.bk σ' H'
 |.cont=>∃ σ' H',Inv X pins σ' H' s'/\D.ct σ' H'
 |.ret u=>∃v σ' H',Inv X pins σ' H' s'/\RelV v u/\D.rt v H'
def PE(X:Cx)(e:Expr)(t:TE):Prop:=
 ∀(pins:List (Addr×Obj)) (s:Shared) (σ:St) (H:Hp) (Q:VK),Inv X pins σ H s->t σ H Q->wpAny (model X.prog X.w) X.A (eval e X.env) (EP X pins σ Q) X.xe s
def PT(X:Cx)(e:Expr)(t:TT):Prop:=
 ∀(pins:List (Addr×Obj)) (s:Shared) (σ:St) (H:Hp) (Q:Bool->Hp->Prop),Inv X pins σ H s->t σ H Q->wpAny (model X.prog X.w) X.A (isTrue e X.env (eval e X.env)) (TP X pins σ Q) X.xe s
def PW(X:Cx)(e:Expr)(t:TT):Prop:=
 ∀(whole:Sem Value) (pins:List (Addr×Obj)) (s:Shared) (σ:St) (H:Hp) (Q:Bool->Hp->Prop),Inv X pins σ H s->t σ H Q->wpAny (model X.prog X.w) X.A (isTrue e X.env whole) (TP X pins σ Q) X.xe s
theorem PW.pt{X:Cx}{e:Expr}{t:TT}(h:PW X e t):PT X e t:=h _
def PA(X:Cx)(es:List Expr)(t:TA):Prop:=
 ∀(pos:Pos) (pins:List (Addr×Obj)) (s:Shared) (σ:St) (H:Hp) (Q:List V->Hp->Prop),Inv X pins σ H s->t σ H Q->wpAny (model X.prog X.w) X.A (spliced (backTo pos (starEach es X.env))) (AP X pins σ Q) X.xe s
def PS(X:Cx)(st:Stmt)(t:TS):Prop:=
 ∀(pins:List (Addr×Obj)) (s:Shared) (σ:St) (H:Hp) (D:Ends),Inv X pins σ H s->t D σ H->wpAny (model X.prog X.w) X.A (exec st X.env) (SP X pins D) X.xe s
def PSs(X:Cx)(st:List Stmt)(t:TS):Prop:=
 ∀(pins:List (Addr×Obj)) (s:Shared) (σ:St) (H:Hp) (D:Ends),Inv X pins σ H s->t D σ H->wpAny (model X.prog X.w) X.A (execs st X.env) (SP X pins D) X.xe s
theorem bT{α:Type}{t:Sem α}{Q Q':α -> Shared->Prop}{M:Model}{A:Around}{E:Value->Shared->Prop}{s:Shared}(h:wpAny M A t Q E s)(hQ:∀a s,Q a s->Q' a s):wpAny M A t Q' E s:=wpAny_mono h hQ fun _ _ x=>x
section
variable{X:Cx}
def CJ(i:Nat):TE:=fun σ H Q=>∃v,σ[i]? = some (some v)/\Q v H
def tC(v:V):TE:=fun _ H Q=>Q v H
theorem j3{i:Nat}{x:Str}{pos:Pos}(hN:X.N[i]? = some x)(hv:Ak X.env.scope x)(hd:(x==("__debug__":Str))=false:=by decide)(hcd:(x==("__classdict__":Str))=false:=by decide):PE X (.Name x pos) (CJ i):=by
 intro pins s σ H Q I h;obtain⟨v,e,h⟩:=h;obtain⟨m,hn,hl⟩:=I.loc;obtain⟨u,r,l⟩:=hl i x v hN e hv;have fin:EP X pins σ Q u s:=⟨v,H,I,r,h⟩;rcases l with⟨hk,hm⟩|⟨hk,c,hc,hcell⟩
 ·exact wpAny_Name (wpAny_loadName_local I.ok.kind hk hn hm fin) hd
 ·rcases hk with hk|hk
  ·exact wpAny_Name (wpAny_loadName_cell I.ok.kind hk hc hcell fin) hd
  ·exact wpAny_Name (wpAny_loadName_free I.ok.kind hk hc hcell fin hcd) hd
theorem yV{i j pos}:PE X (.Constant (.int i) j pos) (tC (.int i)):=fun _ _ _ H _ I h=>wpAny_Constant_int ⟨.int i,H,I.tok _,⟨_,rfl⟩,h⟩
theorem Bd{b j pos}:PE X (.Constant (.bool b) j pos) (tC (.bl b)):=fun _ _ _ H _ I h=>Constant_bool ⟨.bl b,H,I,rfl,h⟩
theorem yU{j pos}:PE X (.Constant .none j pos) (tC .non):=fun _ _ _ H _ I h=>Constant_none ⟨.non,H,I,rfl,h⟩
theorem yR{x j pos}:PE X (.Constant (.str x) j pos) (tC (.str x)):=fun _ _ _ H _ I h=>Calls.Constant_str ⟨.str x,H,I.tok _,⟨_,rfl⟩,h⟩
def Gl(X:Cx)(x:Str):Prop:=X.env.kindOf x=some .globalImplicit
theorem qI{E:Value->Shared->Prop}{pins:List (Addr×Obj)}{s:Shared}{σ:St}{H:Hp}{x:Str}{u:Value}{pos:Pos}{Q:Value->Shared->Prop}(I:Inv X pins σ H s)(hg:Gl X x)(hm:X.mg x=some u)(h:Q u s)
  (hd:(x==("__debug__":Str))=false:=by decide):wpAny (model X.prog X.w) X.A (eval (.Name x pos) X.env) Q E s:=
 Calls.Name_function_global I.ok.kind hg (Calls.loadGlobal_global (by rw[I.ok.glob];exact I.mod.glob.keeps I.bk) hm h) hd
theorem ki{E:Value->Shared->Prop}{pins:List (Addr×Obj)}{s:Shared}{σ:St}{H:Hp}{x:Str}{u:Value}{pos:Pos}{Q:Value->Shared->Prop}(I:Inv X pins σ H s)(hg:Gl X x)(hm:X.mg x=none)(hv:bootBuiltins x=some u)(h:Q u s)
  (hn:x ≠ "__name__":=by decide) (hd:(x==("__debug__":Str))=false:=by decide):wpAny (model X.prog X.w) X.A (eval (.Name x pos) X.env) Q E s:=by
 obtain⟨mb,h1,h2⟩:=I.mod.blt;exact Calls.Name_function_global I.ok.kind hg (Calls.loadGlobal_builtin (by rw[I.ok.glob];exact I.mod.glob.keeps I.bk) hm (by rw[I.ok.blt];exact h1.keeps I.bk) ((h2 x hn).trans hv) h) hd
theorem wl{x:Str}{v:V}{u:Value}{pos:Pos}(hg:Gl X x)(hm:X.mg x=some u)(r:RelV v u)(hd:(x==("__debug__":Str))=false:=by decide):PE X (.Name x pos) (tC v):=
 fun _ _ _ H _ I h=>qI I hg hm ⟨v,H,I,r,h⟩ hd
theorem wp{x:Str}{v:V}{u:Value}{pos:Pos}(hg:Gl X x)(hm:X.mg x=none)(hv:bootBuiltins x=some u)(r:RelV v u)(hn:x ≠ "__name__":=by decide)(hd:(x==("__debug__":Str))=false:=by decide):PE X (.Name x pos) (tC v):=
 fun _ _ _ H _ I h=>ki I hg hm hv ⟨v,H,I,r,h⟩ hn hd
variable{a b:Expr}{ta tb:TE}{pos:Pos}
def tB(t:TE):TT:=fun σ H Q=>t σ H fun x H1=>∃c,x=.bl c/\Q c H1
theorem yI{e:Expr}{t:TE}(h:PE X e t)(he:∀whole,isTrue e X.env whole=(do let v <-whole;standAt e.pos;holding [v] (truthy v)):=by intro _;rfl):PT X e (tB t):=by
 intro pins s σ H Q I hw;refine isTrue_plain (bT (h pins s σ H _ I hw) fun v s1 ⟨x,H1,I1,r1,q1⟩=>?_) (he _)
 obtain⟨d,rfl,q⟩:=q1;cases r1;exact wpAny_truthy_bool ⟨H1,I1,q⟩
variable{tA tB':TT}{rest:List Expr}
def CU(t u:TT):TT:=fun σ H Q=>t σ H fun c H1=>if c=true then u σ H1 Q else Q false H1
def EI(t u:TT):TT:=fun σ H Q=>t σ H fun c H1=>if c=true then Q true H1 else u σ H1 Q
def CN(t:TT):TT:=fun σ H Q=>t σ H fun c H1=>Q (!c) H1
theorem v9(ha:PT X a tA):PW X (.BoolOp .And [a] pos) tA:=by
 intro wh pins s σ H Q I h;refine isTrue_and (bT (ha pins s σ H Q I h) fun c s1 e=>?_)
 cases c with
 |true=>exact isTrue_and_nil e
 |false=>exact e
theorem yF(ha:PT X a tA):PW X (.BoolOp .Or [a] pos) tA:=by
 intro wh pins s σ H Q I h;refine isTrue_or (bT (ha pins s σ H Q I h) fun c s1 e=>?_)
 cases c with
 |false=>exact isTrue_or_nil e
 |true=>exact e
theorem yG(ha:PT X a tA)(hb:PW X (.BoolOp .And (b::rest) pos) tB'):PW X (.BoolOp .And (a::b::rest) pos) (CU tA tB'):=by
 intro wh pins s σ H Q I h;refine isTrue_and (bT (ha pins s σ H _ I h) fun c s1 ⟨H1,I1,q1⟩=>?_)
 cases c with
 |true=>exact hb wh pins s1 σ H1 Q I1 q1
 |false=>exact⟨H1,I1,q1⟩
theorem A7(ha:PT X a tA)(hb:PW X (.BoolOp .Or (b::rest) pos) tB'):PW X (.BoolOp .Or (a::b::rest) pos) (EI tA tB'):=by
 intro wh pins s σ H Q I h;refine isTrue_or (bT (ha pins s σ H _ I h) fun c s1 ⟨H1,I1,q1⟩=>?_)
 cases c with
 |true=>exact⟨H1,I1,q1⟩
 |false=>exact hb wh pins s1 σ H1 Q I1 q1
theorem yJ(ha:PT X a tA):PT X (.UnaryOp .Not a pos) (CN tA):=by
 intro pins s σ H Q I h;exact isTrue_not (ha pins s σ H (fun c H1=>Q (!c) H1) I h)
def AT(ta tb:TE):TE:=fun σ H Q=>ta σ H fun x H1=>∃c,x=.bl c/\if c=true then tb σ H1 Q else Q (.bl false) H1
def AM(ta:TE):TE:=fun σ H Q=>ta σ H fun x H1=>∃c,x=.bl c/\Q (.bl (!c)) H1
theorem yS{op}{t:TE}(h:PE X a t):PE X (.BoolOp op [a] pos) t:=fun pins s σ H Q I hw=>BoolOp_one (h pins s σ H Q I hw)
theorem yX(ha:PE X a ta)(hb:PE X (.BoolOp .And (b::rest) pos) tb):PE X (.BoolOp .And (a::b::rest) pos) (AT ta tb):=by
 intro pins s σ H Q I h;refine BoolOp_and (bT (ha pins s σ H _ I h) fun v s1 ⟨x,H1,I1,r1,q1⟩=>?_)
 obtain⟨c,rfl,q1⟩:=q1;cases r1;refine wpAny_truthy_bool ?_;cases c with
 |true=>exact hb pins s1 σ H1 Q I1 q1
 |false=>exact⟨.bl false,H1,I1,rfl,q1⟩
theorem yT(ha:PE X a ta):PE X (.UnaryOp .Not a pos) (AM ta):=by
 intro pins s σ H Q I h;refine UnaryOp_ (bT (ha pins s σ H _ I h) fun v s1 ⟨x,H1,I1,r1,q1⟩=>?_)
 obtain⟨c,rfl,q1⟩:=q1;cases r1;exact not_of (wpAny_truthy_bool ⟨.bl (!c),H1,I1,rfl,q1⟩)
def EJ(t:TT)(ta tb:TE):TE:=fun σ H Q=>t σ H fun c H1=>if c=true then ta σ H1 Q else tb σ H1 Q
theorem ua{c:Expr}(hc:PT X c tA)(ha:PE X a ta)(hb:PE X b tb):PE X (.IfExp c a b pos) (EJ tA ta tb):=by
 intro pins s σ H Q I h;refine wpAny_IfExp (bT (hc pins s σ H _ I h) fun d s1 ⟨H1,I1,q1⟩=>?_)
 cases d with
 |true=>exact ha pins s1 σ H1 Q I1 q1
 |false=>exact hb pins s1 σ H1 Q I1 q1
end
def SqL(K:PySem.W.Frag)(H:Hp)(a:Addr)(xs:List V):Prop:=
 Rd H a (.lst xs) \/
  ∃(o:Obj) (its:Array Value) (n:Nat),K.lookup a=some o/\o.cls=.type "list" /\ o.dict=none/\o.data=.seq its n/\its.size<=sizeLine/\Vals xs its.toList
def SqT(K:PySem.W.Frag)(H:Hp)(a:Addr)(xs:List V):Prop:=
 Rd H a (.tup xs) \/
  ∃(o:Obj) (its:Array Value) (n:Nat),K.lookup a=some o/\o.cls=.type "tuple" /\ o.data=.seq its n/\its.size<=sizeLine/\Vals xs its.toList/\o.dict=none
noncomputable def DW:Value->Option V
 |.none=>some .non
 |.bool b=>some (.bl b)
 |.int i _=>some (.int i)
 |.str x _=>some (.str x)
 |.bytes b _=>some (.byt b)
 |.float b _=>some (.flt b)
 |.ref a=>some (.ref a)
 |.type n=>some (.ty n)
 |_=>none
theorem RelV.abs{x:V}{u:Value}(r:RelV x u):DW u=some x:=by
 cases x with
 |non=>cases r;rfl
 |bl _=>cases r;rfl
 |int _=>obtain⟨t,rfl⟩:=r;rfl
 |str _=>obtain⟨t,rfl⟩:=r;rfl
 |byt _=>obtain⟨t,rfl⟩:=r;rfl
 |flt _=>obtain⟨t,rfl⟩:=r;rfl
 |ref _=>cases r;rfl
 |ty _=>cases r;rfl
theorem RelV.inj{x y:V}{u:Value}(r:RelV x u)(q:RelV y u):x=y:=Option.some.inj (r.abs.symm.trans q.abs)
theorem Vals.inj:∀{xs ys:List V} {us:List Value},Vals xs us->Vals ys us->xs=ys
 |_,_,_,.nil,.nil=>rfl
 |_,_,_,.cons r t,.cons r' t'=>by rw[r.inj r',Vals.inj t t']
section
variable{X:Cx}{pins:List (Addr×Obj)}{σ:St}{H:Hp}{s:Shared}{a:Addr}{xs ys:List V}
theorem SqL.of{K:PySem.W.Frag}(h:H a=some (.lst xs)):SqL K H a xs:=.inl (.inl h)
theorem SqT.of{K:PySem.W.Frag}(h:H a=some (.tup xs)):SqT K H a xs:=.inl (.inl h)
theorem Inv.list(I:Inv X pins σ H s)(h:SqL X.K H a xs):∃its:List Value,Vals xs its/\PlainL s.heap a its.toArray/\xs.length<=sizeLine:=by
 rcases h with h|⟨o,its,n,hk,hc,hd,hs,hz,r⟩
 ·obtain⟨z,its,n,r,e⟩:=h.ok I.hok
  exact⟨its,r,⟨_,n,e,rfl,rfl,rfl⟩,z⟩
 ·refine⟨its.toList,r,⟨o,n,I.kIn a o hk,hc,hd,by simpa using hs⟩,?_⟩
  have e:=r.length;simp only[Array.length_toList]at e
  lia
theorem Inv.tuple(I:Inv X pins σ H s)(h:SqT X.K H a xs):∃its:List Value,Vals xs its/\IsTup s.heap a its.toArray/\xs.length<=sizeLine:=by
 rcases h with h|⟨o,its,n,hk,hc,hs,hz,r,hd⟩
 ·obtain⟨z,its,r,p⟩:=h.ok I.hok
  exact⟨its,r,p.1,z⟩
 ·refine⟨its.toList,r,⟨o,I.kIn a o hk,hc,n,by simpa using hs⟩,?_⟩
  have e:=r.length;simp only[Array.length_toList]at e
  lia
theorem Inv.list_inj(I:Inv X pins σ H s)(h:SqL X.K H a xs)(h':SqL X.K H a ys):xs=ys:=by
 obtain⟨its,r,⟨o,n,e,_,_,d⟩,_⟩:=I.list h;obtain⟨its',r',⟨o',n',e',_,_,d'⟩,_⟩:=I.list h';rw[e]at e';cases e';rw[d]at d';injection d' with d1 _
 have:its=its':=by simpa using congrArg Array.toList d1
 subst this;exact r.inj r'
theorem Inv.tuple_inj(I:Inv X pins σ H s)(h:SqT X.K H a xs)(h':SqT X.K H a ys):xs=ys:=by
 obtain⟨its,r,⟨o,e,_,n,d⟩,_⟩:=I.tuple h;obtain⟨its',r',⟨o',e',_,n',d'⟩,_⟩:=I.tuple h';rw[e]at e';cases e';rw[d]at d';injection d' with d1 _
 have:its=its':=by simpa using congrArg Array.toList d1
 subst this;exact r.inj r'
end
abbrev Cx.wish(X:Cx)(E:Value->Shared->Prop):Cx:={ X with xe:=E }
abbrev Cx.nox(X:Cx):Cx:=X.wish fun _ _=>False
theorem Cx.Ok.wish{X:Cx}(ok:X.Ok)(E:Value->Shared->Prop):(X.wish E).Ok:=
 ⟨ok.mod,ok.kind,ok.glob,ok.blt,ok.above,ok.inj,ok.has,ok.cab,ok.hd,ok.frames,ok.stk,ok.exf,ok.bs,ok.bsz,ok.noex,ok.exfs,ok.funs,ok.frf,ok.tb⟩
theorem Cx.Ok.unwish{X:Cx}{E:Value->Shared->Prop}(ok:(X.wish E).Ok):X.Ok:=
 ⟨ok.mod,ok.kind,ok.glob,ok.blt,ok.above,ok.inj,ok.has,ok.cab,ok.hd,ok.frames,ok.stk,ok.exf,ok.bs,ok.bsz,ok.noex,ok.exfs,ok.funs,ok.frf,ok.tb⟩
section
variable{X:Cx}{pins:List (Addr×Obj)}{σ:St}{H:Hp}{s:Shared}{E:Value->Shared->Prop}
theorem Inv.wish(I:Inv X pins σ H s)(E:Value->Shared->Prop):Inv (X.wish E) pins σ H s:=⟨I.ok.wish E,I.os,I.bare,I.base,I.loc,I.cell,I.free,I.freeC,I.pin,I.hok,I.len⟩
theorem Inv.unwish(I:Inv (X.wish E) pins σ H s):Inv X pins σ H s:=⟨I.ok.unwish,I.os,I.bare,I.base,I.loc,I.cell,I.free,I.freeC,I.pin,I.hok,I.len⟩
theorem SP.unwish{D:Ends}{f:Flow}{s':Shared}(h:SP (X.wish E) pins D f s'):SP X pins D f s':=by
 cases f with
 |next=>obtain⟨σ',H',I,q⟩:=h;exact⟨σ',H',I.unwish,q⟩
 |brk=>obtain⟨σ',H',I,q⟩:=h;exact⟨σ',H',I.unwish,q⟩
 |cont=>obtain⟨σ',H',I,q⟩:=h;exact⟨σ',H',I.unwish,q⟩
 |ret u=>obtain⟨v,σ',H',I,r,q⟩:=h;exact⟨v,σ',H',I.unwish,r,q⟩
theorem PSs.nox{st:List Stmt}{t:TS}(h:PSs X.nox st t):PSs X st t:=fun pins s σ H D I hw=>
 wpAny_mono (h pins s σ H D (I.wish _) hw) (fun _ _ q=>q.unwish) fun _ _ z=>False.elim z
end
section
variable{X:Cx}{st:Stmt}{rest:List Stmt}{t u:TS}{e:Expr}{te:TE}{pos:Pos}
def AN:TS:=fun D σ H=>D.nx σ H
def CL(t u:TS):TS:=fun D σ H=>t { D with nx:=u D } σ H
theorem wc:PSs X [] AN:=fun _ _ σ H _ I h=>wpAny_execs_nil ⟨σ,H,I,h⟩
theorem tZ(h1:PS X st t)(h2:PSs X rest u):PSs X (st::rest) (CL t u):=by
 intro pins s σ H D I h;refine wpAny_execs_cons (bT (h1 pins s σ H { D with nx:=u D } I h) fun f s1 q=>?_)
 cases f with
 |next=>
  obtain⟨σ',H',I',q⟩:=q;exact h2 pins s1 σ' H' D I' q
 |ret v=>exact q
 |brk=>exact q
 |cont=>exact q
theorem wb(h1:PS X st t):PSs X [st] t:=by
 intro pins s σ H D I h;refine wpAny_execs_cons (bT (h1 pins s σ H D I h) fun f s1 q=>?_)
 cases f with
 |next=>exact wpAny_execs_nil q
 |ret v=>exact q
 |brk=>exact q
 |cont=>exact q
theorem Inv.quiet{pins:List (Addr×Obj)}{σ:St}{H:Hp}{s:Shared}(I:Inv X pins σ H s):interactive X.env=false:=by simp[interactive,I.ok.kind]
def AO(te:TE):TS:=fun D σ H=>te σ H fun _ H1=>D.nx σ H1
theorem qA(he:PE X e te)(hs:swapsWith e none pos.line X.env=pure false:=by rfl):PS X (.Expr e pos) (AO te):=by
 intro pins s σ H D I h;exact wpAny_Expr_any (bT (he pins s σ H _ I h) fun v s1 ⟨x,H1,I1,r1,q1⟩=>⟨σ,H1,I1,q1⟩) I.quiet hs
def CM(te:TE):TS:=fun D σ H=>te σ H D.rt
theorem yK(he:PE X e te):PS X (.Return (some e) pos) (CM te):=by
 intro pins s σ H D I h;exact wpAny_Return_some (bT (he pins s σ H _ I h) fun v s1 ⟨x,H1,I1,r1,q1⟩=>⟨x,σ,H1,I1,r1,q1⟩)
def CQ(c:TT)(t u:TS):TS:=fun D σ H=>c σ H fun b H1=>if b=true then t D σ H1 else u D σ H1
theorem A8{c:Expr}{a b:List Stmt}{tc:TT}(hc:PT X c tc)(ha:PSs X a t)(hb:PSs X b u):PS X (.If c a b pos) (CQ tc t u):=by
 intro pins s σ H D I h;refine wpAny_If (bT (hc pins s σ H _ I h) fun d s1 ⟨H1,I1,q1⟩=>?_)
 cases d with
 |true=>exact ha pins s1 σ H1 D I1 q1
 |false=>exact hb pins s1 σ H1 D I1 q1
end
abbrev TG:=V->St->Hp->(St->Hp->Prop)->Prop
def PG(X:Cx)(target:Expr)(t:TG):Prop:=
 ∀(pins:List (Addr×Obj)) (s:Shared) (σ:St) (H:Hp) (v:V) (u:Value) (Q:St->Hp->Prop),Inv X pins σ H s->RelV v u->t v σ H Q ->
  wpAny (model X.prog X.w) X.A (assign target X.env u) (fun _ s'=>∃ σ' H',Inv X pins σ' H' s'/\Q σ' H') X.xe s
abbrev Al:=V->V->V->Hp->(Hp->Prop)->Prop
def B5(X:Cx)(t:Al):Prop:=
 ∀(pins:List (Addr×Obj)) (s:Shared) (σ:St) (H:Hp) (o i v:V) (ov iv u:Value) (Q:Hp->Prop),Inv X pins σ H s->RelV o ov->RelV i iv->RelV v u->t o i v H Q ->
  wpAny (model X.prog X.w) X.A (setItem ov iv u) (fun _ s'=>∃H',Inv X pins σ H' s'/\Q H') X.xe s
section
variable{X:Cx}{pos:Pos}
def uO(i:Nat):TG:=fun v σ H Q=>Q (σ.set i (some v)) H
theorem b7{i:Nat}{x:Str}(hN:X.N.Nodup)(hi:X.N[i]? = some x)(hx:vF X.env.scope x)(hf:X.fn x=true\/X.env.scope.names.lookup x=some .local:=by first|exact .inl rfl|exact .inr rfl|assumption):PG X (.Name x pos) (uO i):=by
 intro pins s σ H v u Q I r h;exact wpAny_assign_Name (nJ I hN hi hx r (fun s' I'=>⟨_,H,I',h⟩) hf)
def DB(to ti:TE)(t:Al):TG:=fun v σ H Q=>to σ H fun o H1=>ti σ H1 fun i H2=>t o i v H2 fun H3=>Q σ H3
theorem yP{o i:Expr}{to ti:TE}{t:Al}(ho:PE X o to)(hi:PE X i ti)(hs:B5 X t)
  (ha:∀v,assign (.Subscript o i pos) X.env v=(do
   let ov <-holding [v] (eval o X.env)
   let iv <-holding [v,ov] (eval i X.env)
   standAt pos
   holding [v,ov,iv] (setItem ov iv v)
   release [v,ov,iv] []):=by intro _;rfl):PG X (.Subscript o i pos) (DB to ti t):=by
 intro pins s σ H v u Q I r h;rw[ha];refine wpAny_bind (wpAny_holding (bT (ho pins s σ H _ I h) fun ov s1 ⟨x,H1,I1,r1,q1⟩=>?_))
 refine wpAny_bind (wpAny_holding (bT (hi pins s1 σ H1 _ I1 q1) fun iv s2 ⟨y,H2,I2,r2,q2⟩=>?_))
 refine wpAny_bind (wpAny_standAt (wpAny_bind (wpAny_holding (bT (hs pins s2 σ H2 x y v ov iv u _ I2 r1 r2 r q2) fun _ s3 ⟨H3,I3,q3⟩=>?_))))
 exact wpAny_release ⟨σ,H3,I3,q3⟩
def AS(te:TE)(g:TG):TS:=fun D σ H=>te σ H fun x H1=>g x σ H1 D.nx
theorem yM{tg e:Expr}{te:TE}{g:TG}(he:PE X e te)(hg:PG X tg g)(hs:swapsWithSole [tg] e pos.line X.env=pure false:=by rfl)(hw:swappedStores [tg] e X.env=pure none:=by rfl)
  (h1:(assignEach [tg] X.env).map (·.2)=[assign tg X.env]:=by rfl):PS X (.Assign [tg] e pos) (AS te g):=by
 intro pins s σ H D I h;refine wpAny_Assign_stores (bT (he pins s σ H _ I h) fun v s1 ⟨x,H1,I1,r1,q1⟩=>?_) hs hw
 rw[h1];exact bT (hg pins s1 σ H1 x v _ I1 r1 q1) fun _ s2 q=>q
theorem t6{i:Nat}{x:Str}{e:Expr}{te:TE}{pos':Pos}(hN:X.N.Nodup)(hi:X.N[i]? = some x)(hx:vF X.env.scope x)(he:PE X e te)(hs:swapsWith e (some (.Name x pos')) pos.line X.env=pure false:=by rfl)(hf:X.fn x=true\/X.env.scope.names.lookup x=some .local:=by first|exact .inl rfl|exact .inr rfl|assumption):
  PS X (.Assign [.Name x pos'] e pos) (AS te (uO i)):=by
 intro pins s σ H D I h;refine wpAny_Assign_Name (bT (he pins s σ H _ I h) fun v s1 ⟨y,H1,I1,r1,q1⟩=>?_) hs
 exact nJ I1 hN hi hx r1 (fun s2 I2=>⟨_,H1,I2,q1⟩) hf
end
section
variable{X:Cx}{pos:Pos}
def ym(c:TT)(tb:TS):TS:=fun D σ H=>∃W:Nat->St->Hp->Prop,(∃m,W m σ H)/\∀m σ H,W m σ H ->
 c σ H fun b H1=>if b=true then ∃N:St->Hp->Prop,(∀ σ' H',N σ' H'->∃m',m'<m/\W m' σ' H')/\tb { D with nx:=N,ct:=N,bk:=D.nx } σ H1 else D.nx σ H1
theorem t0{c:Expr}{body:List Stmt}{tc:TT}{tb:TS}(hp:PassesOwn (model X.prog X.w) X.A X.env X.xe)(hc:PT X c tc)(hb:PSs X body tb):PS X (.While c body [] pos) (ym tc tb):=by
 intro pins s σ H D I h;obtain⟨W,⟨m0,w0⟩,turn⟩:=h;refine wpAny_While (codeAny_whileLoop (fun n s'=>∃ σ' H',Inv X pins σ' H' s'/\W n σ' H') ?_ m0 ⟨σ,H,I,w0⟩);rintro n s1 ⟨σ1,H1,I1,w1⟩;refine wpAny_passesOwn hp (bT (hc pins s1 σ1 H1 _ I1 (turn n σ1 H1 w1)) fun b s2 ⟨H2,I2,q2⟩=>?_)
 cases b with
 |true=>
  obtain⟨N,hN,q2⟩:=q2;rw[if_pos rfl];refine wpAny_passesOwn hp (bT (hb pins s2 σ1 H2 _ I2 q2) fun f s3 q3=>?_)
  cases f with
  |next=>
   obtain⟨σ3,H3,I3,n3⟩:=q3;obtain⟨m',hm,w3⟩:=hN σ3 H3 n3;exact⟨m',hm,σ3,H3,I3,w3⟩
  |cont=>
   obtain⟨σ3,H3,I3,n3⟩:=q3;obtain⟨m',hm,w3⟩:=hN σ3 H3 n3;exact⟨m',hm,σ3,H3,I3,w3⟩
  |brk=>exact q3
  |ret v=>exact q3
 |false=>
  rw[if_neg Bool.false_ne_true];exact wpAny_execs_nil ⟨σ1,H2,I2,q2⟩
end
structure It where
 go:Nat->Hp->Prop
 yld:Nat->Hp->V->Hp->Prop
 stop:Nat->Hp->Prop
def hX(X:Cx)(pins:List (Addr×Obj))(H:Hp)(b:Addr):Prop:=
 H b=none/\b≠X.env.locals/\b ∉ X.fs/\(b∈X.ex\/X.s₀.heap.objs.size<=b)/\(∀x c,X.env.cells.lookup x=some c->c≠b)/\∀p∈X.pn++pins,p.1≠b
theorem Inv.fpOk{X:Cx}{pins:List (Addr×Obj)}{σ:St}{H H':Hp}{s:Shared}{b:Addr}(I:Inv X pins σ H s)(hb:s.heap.objs.size<=b)(hn:H' b=none):hX X pins H' b:=by
 refine⟨hn,Nat.ne_of_gt (Nat.lt_of_lt_of_le I.lt hb),I.nofs hb,.inr (Nat.le_trans I.sz hb),fun x c e z=>?_,fun p hp z=>?_⟩
 ·obtain⟨v,q⟩:=I.cell x c e
  exact absurd (Nat.lt_of_lt_of_le q.lt (by rw[z];exact hb)) (Nat.lt_irrefl _)
 ·exact absurd (Nat.lt_of_lt_of_le (Heap.lt_size (I.pin p hp).1) (by rw[z];exact hb)) (Nat.lt_irrefl _)
structure TurnG (Cm:Cx->Prop) (P:Program) (w:World) (K:PySem.W.Frag) (tg:Expr) (J:It) (fp:List Addr) (it:Addr) (tn:Nat->Heap->Prop):Prop where
 mem:it∈fp
 obj:∀i h,tn i h->∀b∈fp,∃o,h.get? b=some o/\∀v,o.data≠.cell v
 keep:∀i h h',tn i h->(∀b∈fp,∀o,h.get? b=some o->h'.get? b=some o)->tn i h'
 item:∀(X:Cx),X.prog=P->X.w=w->X.K=K->Cm X->∀(i:Nat) (pins:List (Addr×Obj)) (s:Shared) (σ:St) (H:Hp) (E:Value->Shared->Prop),Inv X pins σ H s->(∀b∈fp,hX X pins H b)->tn i s.heap->J.go i H ->
  wpAny (model P w) X.A (pyNext (.ref it)) (fun r s1=>∃u,r=some u /\
   wpAny (model P w) X.A (letOwnedTupleGo tg (.ref it) u) (fun _ s2=>∃x H',Inv X pins σ H' s2/\RelV x u/\J.yld i H x H'/\tn (i+1) s2.heap/\∀b∈fp,H' b=none) E s1) E s
 done:∀(X:Cx),X.prog=P->X.w=w->X.K=K->Cm X->∀(i:Nat) (pins:List (Addr×Obj)) (s:Shared) (σ:St) (H:Hp) (E:Value->Shared->Prop),Inv X pins σ H s->(∀b∈fp,hX X pins H b)->tn i s.heap->J.stop i H ->
  wpAny (model P w) X.A (pyNext (.ref it)) (fun r s1=>r=none/\Inv X pins σ H s1) E s
 self:∀(A:Around) (i:Nat) (s:Shared) (Q:Value->Shared->Prop) (E:Value->Shared->Prop),tn i s.heap->Q (.ref it) s->wpAny (model P w) A (pyIter (.ref it)) Q E s
abbrev vo(P:Program)(w:World)(K:PySem.W.Frag)(tg:Expr)(J:It)(fp:List Addr)(it:Addr)(tn:Nat->Heap->Prop):Prop:=TurnG (fun X=>X.calm=true) P w K tg J fp it tn
abbrev TI:=St->Hp->(It->Hp->Prop)->Prop
def EC(X:Cx)(pins:List (Addr×Obj))(σ:St)(tg:Expr)(R:It->Hp->Prop)(itv:Value)(s2:Shared):Prop:=
 ∃(it:Addr) (fp:List Addr) (tn:Nat->Heap->Prop) (J:It) (H':Hp),itv=.ref it/\Inv X pins σ H' s2/\vo X.prog X.w X.K tg J fp it tn/\tn 0 s2.heap/\(∀b∈fp,hX X pins H' b)/\R J H'
def PI(X:Cx)(tg iter:Expr)(wi:TI):Prop:=
 ∀(pins:List (Addr×Obj)) (s:Shared) (σ:St) (H:Hp) (R:It->Hp->Prop),Inv X pins σ H s->wi σ H R ->
  wpAny (model X.prog X.w) X.A (eval iter X.env) (fun v s1=>wpAny (model X.prog X.w) X.A (pyIter v) (EC X pins σ tg R) X.xe s1) X.xe s
theorem uN{M:Model}{A:Around}{E:Value->Shared->Prop}{s:Shared}{tg:Expr}{it:Addr}{u:Value}{o:Obj}{n:String}{vs:Array Value}{Q:Unit->Shared->Prop}(ho:s.heap.get? it=some o)(hc:o.cls=.type n)(hd:o.data=.fields vs)
  (hn:["enumerate","zip","dict_itemiterator","dict_reverseitemiterator","odict_iterator","itertools.zip_longest","itertools.pairwise"].contains n=false) (hQ:Q () s):wpAny M A (letOwnedTupleGo tg (.ref it) u) Q E s:=by
 unfold letOwnedTupleGo;cases tg<;>first
  |exact wpAny_pure hQ
  | (cases u<;>first
    |exact wpAny_pure hQ
    | (refine wpAny_bind (wpAny_load ho ?_)
       rw[hc,hd];show wpAny M A (if(["enumerate","zip","dict_itemiterator","dict_reverseitemiterator","odict_iterator","itertools.zip_longest","itertools.pairwise"].contains n&&vs[0]? == some (rawInt _))=true then _ else _) Q E s;rw[if_neg (by intro h;rw[hn,Bool.false_and]at h;cases h)];exact wpAny_pure hQ))
noncomputable def EE(K:PySem.W.Frag)(a:Addr):It:=
 ⟨fun i H=>∃xs x,SqL K H a xs/\xs[i]? = some x,fun i H x H'=>H'=H/\∀xs,SqL K H a xs->xs[i]? = some x,fun i H=>∃xs,SqL K H a xs/\xs.length<=i⟩
noncomputable def ED(K:PySem.W.Frag)(a:Addr):It:=
 ⟨fun i H=>∃xs x,SqT K H a xs/\xs[i]? = some x,fun i H x H'=>H'=H/\∀xs,SqT K H a xs->xs[i]? = some x,fun i H=>∃xs,SqT K H a xs/\xs.length<=i⟩
noncomputable def Ay(lo:Int)(n:Nat):It:=⟨fun i _=>i<n,fun i H x H'=>H'=H/\x=.int (lo+i),fun i _=>n<=i⟩
theorem rG{P:Program}{w:World}{K:PySem.W.Frag}{tg:Expr}(a it:Addr):vo P w K tg (EE K a) [it] it (fun i h=>h.IsListIter it a i) where
 mem:=by simp
 obj:=fun i h st b hb=>by
  have e:b=it:=by simpa using hb
  subst e;obtain⟨o,e,c,d⟩:=st;exact⟨o,e,fun v z=>by rw[d]at z;cases z⟩
 keep:=fun i h h' st k=>st.at fun o e=>k it (by simp) o e
 item:=by
  intro X hP hw hK hc i pins s σ H E I hf st hg;subst hP hw hK;obtain⟨xs,x,hq,hx⟩:=hg;obtain⟨its,rv,p,hz⟩:=I.list hq;obtain⟨u,hu,ru⟩:=rv.get hx;obtain⟨f0,f1,f2,f3,f4,f5⟩:=hf it (by simp);refine wpAny_pyNext_list_item st p.isList (x:=u) (by simpa using hu) fun h' st' sb=>?_
  have I1:Inv X pins σ H { s with heap:=h' }:=I.turned (t':=s.toks) (fun b o hb e=>(sb.2 b hb).trans e) f0 f1 f3 f4 f5
  obtain⟨o,e,c,d⟩:=id st';exact⟨u,rfl,uN (s:={ s with heap:=h' }) e c d (by decide) ⟨x,H,I1,ru,⟨rfl,fun ys hy=>by rw[I.list_inj hy hq];exact hx⟩,st',fun b hb=>(hf b hb).1⟩⟩
 done:=by
  intro X hP hw hK hc i pins s σ H E I hf st hg;subst hP hw hK;obtain⟨xs,hq,hx⟩:=hg;obtain⟨its,rv,p,hz⟩:=I.list hq;obtain⟨f0,f1,f2,f3,f4,f5⟩:=hf it (by simp);have hl:=rv.length;exact wpAny_pyNext_list_end (I.ok.hd hc) st p.isList (by simp;lia) fun h' eb=>⟨rfl,I.turned (t':=s.toks) (fun b o hb e=>eb b o hb e) f0 f1 f3 f4 f5⟩
 self:=fun _ _ _ _ _ st h=>wpAny_pyIter_listiter st h
theorem px{P:Program}{w:World}{K:PySem.W.Frag}{tg:Expr}(a it:Addr):vo P w K tg (ED K a) [it] it (fun i h=>h.IsTupleIter it a i) where
 mem:=by simp
 obj:=fun i h st b hb=>by
  have e:b=it:=by simpa using hb
  subst e;obtain⟨o,e,c,d⟩:=st;exact⟨o,e,fun v z=>by rw[d]at z;cases z⟩
 keep:=fun i h h' st k=>st.at fun o e=>k it (by simp) o e
 item:=by
  intro X hP hw hK hc i pins s σ H E I hf st hg;subst hP hw hK;obtain⟨xs,x,hq,hx⟩:=hg;obtain⟨its,rv,p,hz⟩:=I.tuple hq;obtain⟨u,hu,ru⟩:=rv.get hx;obtain⟨f0,f1,f2,f3,f4,f5⟩:=hf it (by simp);refine wpAny_pyNext_tuple_item st (show s.heap.IsTuple a its.toArray from p) (x:=u) (by simpa using hu) fun h' st' sb=>?_
  have I1:Inv X pins σ H { s with heap:=h' }:=I.turned (t':=s.toks) (fun b o hb e=>(sb.2 b hb).trans e) f0 f1 f3 f4 f5
  obtain⟨o,e,c,d⟩:=id st';exact⟨u,rfl,uN (s:={ s with heap:=h' }) e c d (by decide) ⟨x,H,I1,ru,⟨rfl,fun ys hy=>by rw[I.tuple_inj hy hq];exact hx⟩,st',fun b hb=>(hf b hb).1⟩⟩
 done:=by
  intro X hP hw hK hc i pins s σ H E I hf st hg;subst hP hw hK;obtain⟨xs,hq,hx⟩:=hg;obtain⟨its,rv,p,hz⟩:=I.tuple hq;obtain⟨f0,f1,f2,f3,f4,f5⟩:=hf it (by simp);have hl:=rv.length;exact wpAny_pyNext_tuple_end (I.ok.hd hc) st (show s.heap.IsTuple a its.toArray from p) (by simp;lia) fun h' eb=>⟨rfl,I.turned (t':=s.toks) (fun b o hb e=>eb b o hb e) f0 f1 f3 f4 f5⟩
 self:=fun _ _ _ _ _ st h=>wpAny_pyIter_tupleiter st h
theorem pz{P:Program}{w:World}{K:PySem.W.Frag}{tg:Expr}(it:Addr)(lo:Int)(n:Nat):vo P w K tg (Ay lo n) [it] it (fun i h=>IsRangeIter h it (lo+(i:Nat)*1) ((n:Int)-(i:Nat)) 1) where
 mem:=by simp
 obj:=fun i h st b hb=>by
  have e:b=it:=by simpa using hb
  subst e;exact⟨_,st,fun v z=>by
   have z':Data.fields _=Data.cell v:=z;cases z'⟩
 keep:=fun i h h' st k=>k it (by simp) _ st
 item:=by
  intro X hP hw hK hc i pins s σ H E I hf st hg;subst hP hw hK;obtain⟨f0,f1,f2,f3,f4,f5⟩:=hf it (by simp);have W:=Walks.range (prog:=X.prog) (w:=X.w) (I.ok.hd hc) it lo 1 n;refine W.item i s _ _ hg st fun v h' tk hv st' kk=>?_
  obtain⟨t,rfl⟩:=hv;have I1:Inv X pins σ H { s with heap:=h',toks:=tk }:=I.turned (fun b o hb e=>kk b o (by simpa using hb) e) f0 f1 f3 f4 f5
  refine⟨_,rfl,uN (s:={ s with heap:=h',toks:=tk }) (n:="range_iterator") st' rfl rfl (by decide) ⟨.int (lo+i),H,I1,⟨t,?_⟩,⟨rfl,rfl⟩,st',fun b hb=>(hf b hb).1⟩⟩
  rw[Int.mul_one]
 done:=by
  intro X hP hw hK hc i pins s σ H E I hf st hg;subst hP hw hK;obtain⟨f0,f1,f2,f3,f4,f5⟩:=hf it (by simp);exact wpAny_pyNext_range_end (I.ok.hd hc) st (by have:n<=i:=hg;lia) fun h' eb=>⟨rfl,I.turned (t':=s.toks) (fun b o hb e=>eb b o hb e) f0 f1 f3 f4 f5⟩
 self:=fun _ _ _ _ _ st h=>wpAny_pyIter_rangeiter st h
section
variable{X:Cx}{tg:Expr}
def BJ(K:PySem.W.Frag)(tl:TE):TI:=fun σ H R=>tl σ H fun x H1=>∃a,x=.ref a/\(∃xs,SqL K H1 a xs)/\R (EE K a) H1
def Du(K:PySem.W.Frag)(tl:TE):TI:=fun σ H R=>tl σ H fun x H1=>∃a,x=.ref a/\(∃xs,SqT K H1 a xs)/\R (ED K a) H1
theorem wg{l:Expr}{tl:TE}(hl:PE X l tl):PI X tg l (BJ X.K tl):=by
 intro pins s σ H R I h;refine bT (hl pins s σ H _ I h) fun v s1 ⟨x,H1,I1,r1,q1⟩=>?_
 obtain⟨a,e,⟨xs,hq⟩,q⟩:=q1;subst e;cases r1;obtain⟨its,rv,p,hz⟩:=I1.list hq;refine wpAny_pyIter_list p.isList ?_;refine⟨s1.heap.objs.size,[s1.heap.objs.size],_,_,H1,rfl,I1.kept (t':=s1.toks) fun b o e=>Heap.get?_push_of_some _ e,rG a _,⟨_,Heap.get?_push_size _ rfl,rfl,rfl⟩,fun b hb=>?_,q⟩
 have e:b=s1.heap.objs.size:=by simpa using hb
 subst e;exact I1.fpOk (Nat.le_refl _) (I1.hok.fresh (Nat.le_refl _))
theorem yO{l:Expr}{tl:TE}(hl:PE X l tl):PI X tg l (Du X.K tl):=by
 intro pins s σ H R I h;refine bT (hl pins s σ H _ I h) fun v s1 ⟨x,H1,I1,r1,q1⟩=>?_
 obtain⟨a,e,⟨xs,hq⟩,q⟩:=q1;subst e;cases r1;obtain⟨its,rv,p,hz⟩:=I1.tuple hq;refine wpAny_pyIter_tuple (show s1.heap.IsTuple a its.toArray from p) ?_;refine⟨s1.heap.objs.size,[s1.heap.objs.size],_,_,H1,rfl,I1.kept (t':=s1.toks) fun b o e=>Heap.get?_push_of_some _ e,px a _,⟨_,Heap.get?_push_size _ rfl,rfl,rfl⟩,fun b hb=>?_,q⟩
 have e:b=s1.heap.objs.size:=by simpa using hb
 subst e;exact I1.fpOk (Nat.le_refl _) (I1.hok.fresh (Nat.le_refl _))
theorem tY{pins:List (Addr×Obj)}{σ:St}{H:Hp}{s:Shared}{R:It->Hp->Prop}{E:Value->Shared->Prop}{lo hi:Int}{t u v:Tok}{tk:Nat}(I:Inv X pins σ H s)(h1:-(2^62)<=lo)(h2:lo<2^62)(h3:-(2^62)<=hi)(h4:hi<2^62)
  (q:R (Ay lo (hi-lo).toNat) H):wpAny (model X.prog X.w) X.A (pyIter (.ref s.heap.objs.size)) (EC X pins σ tg R) E { s with heap:=s.heap.push { cls:=.type "range",data:=.fields #[.int lo t,.int hi u,.int 1 v] },toks:=tk }:=by
 refine wpAny_pyIter_range (IsRange.new ..) (small_one h1 h2 h3 h4) ?_;have I1:Inv X pins σ H { s with heap:=s.heap.push { cls:=.type "range",data:=.fields #[.int lo t,.int hi u,.int 1 v] },toks:=tk }:=I.kept fun b o e=>Heap.get?_push_of_some _ e
 refine⟨(s.heap.push { cls:=.type "range",data:=.fields #[.int lo t,.int hi u,.int 1 v] }).objs.size,[(s.heap.push { cls:=.type "range",data:=.fields #[.int lo t,.int hi u,.int 1 v] }).objs.size],_,_,H,rfl,
  I1.kept (t':=tk) fun b o e=>Heap.get?_push_of_some _ e,pz _ lo (hi-lo).toNat,?_,fun b hb=>?_,q⟩
 ·have e1:lo+((0:Nat):Int)*1=lo:=by simp
  have e2:(((hi-lo).toNat:Nat):Int)-((0:Nat):Int)=Builtin.Range.rangeSize lo hi 1:=by rw[rangeSize_one];split<;>lia
  show IsRangeIter _ _ (lo+((0:Nat):Int)*1) ((((hi-lo).toNat:Nat):Int)-((0:Nat):Int)) 1;rw[e1,e2];exact Heap.get?_push_size _ rfl
 ·have e:b=(s.heap.push { cls:=.type "range",data:=.fields #[.int lo t,.int hi u,.int 1 v] }).objs.size:=by simpa using hb
  subst e;exact I1.fpOk (Nat.le_refl _) (I1.hok.fresh (Nat.le_refl _))
def BI(ta:TA):TI:=fun σ H R=>ta σ H fun vs H1=>∃j:Int,vs=[.int j] /\ -(2^62)<=j/\j<2^62/\R (Ay 0 j.toNat) H1
theorem rT{a:Expr}{ta:TA}{p pos:Pos}(hg:Gl X "range")(hm:X.mg "range" = none)(ha:PA X [a] ta)(hs:starEach [a] X.env=[(false,eval a X.env)]:=by rfl):PI X tg (.Call (.Name "range" p) [a] [] pos) (BI ta):=by
 intro pins s σ H R I h;refine Call_ (ki I hg hm boot_range (PyProof.Rows.callWith_type1 (bT (ha pos pins s σ H _ I h) fun us s1 ⟨vs,H1,I1,r1,q1⟩=>?_) hs rfl))
 obtain⟨j,e,q1,q2,q⟩:=q1;subst e;cases r1 with
 |cons r rr=>
  cases rr;obtain⟨t,rfl⟩:=r;exact call_range_1 (tY I1 (by lia) (by lia) q1 q2 (by simpa using q))
def CS(wi:TI)(g:TG)(tb:TS):TS:=fun D σ H=>wi σ H fun J H1=>∃W:Nat->Nat->St->Hp->Prop,(∃m,W 0 m σ H1)/\∀i m σ H,W i m σ H ->
 (J.stop i H/\D.nx σ H)\/(J.go i H/\∃N:St->Hp->Prop,(∀ σ' H',N σ' H'->∃m',m'<m/\W (i+1) m' σ' H')/\∀x H',J.yld i H x H'->g x σ H' fun σ2 H2=>tb { D with nx:=N,ct:=N,bk:=D.nx } σ2 H2)
noncomputable def mM(fp:List Addr)(h:Heap):List (Addr×Obj):=fp.filterMap fun b=>(h.get? b).map fun o=>(b,o)
theorem bX{fp:List Addr}{h:Heap}{b:Addr}{o:Obj}(hb:b∈fp)(e:h.get? b=some o):(b,o)∈mM fp h:=List.mem_filterMap.mpr ⟨b,hb,by rw[e];rfl⟩
theorem rY{fp:List Addr}{h:Heap}{p:Addr×Obj}(hp:p∈mM fp h):p.1∈fp/\h.get? p.1=some p.2:=by
 obtain⟨b,hb,e⟩:=List.mem_filterMap.mp hp;cases q:h.get? b with
 |none=>rw[q]at e;cases e
 |some o=>
  rw[q]at e;have e':(b,o)=p:=Option.some.inj e;subst e';exact⟨hb,q⟩
theorem Inv.pinned{pins:List (Addr×Obj)}{σ:St}{H:Hp}{s:Shared}{fp:List Addr}(I:Inv X pins σ H s)(hf:∀b∈fp,hX X pins H b)(ho:∀b∈fp,∃o,s.heap.get? b=some o/\∀v,o.data≠.cell v):Inv X (pins++mM fp s.heap) σ H s:=
 I.pins_of fun p hp=>(List.mem_append.mp hp).elim (fun z=>I.pin p (List.mem_append_right _ z)) fun z=>by
  obtain⟨hb,e⟩:=rY z;obtain⟨f0,f1,f2,_⟩:=hf p.1 hb;obtain⟨o,e',d⟩:=ho p.1 hb;rw[e]at e';cases e';exact⟨e,f0,f1,f2,d⟩
theorem Inv.unpinned{pins pl:List (Addr×Obj)}{σ:St}{H:Hp}{s:Shared}(I:Inv X (pins++pl) σ H s):Inv X pins σ H s:=I.pins_of fun p hp=>I.pin p (List.mem_append_right _ (List.mem_append_left _ hp))
theorem yL{iter:Expr}{body:List Stmt}{wi:TI}{g:TG}{tb:TS}{pos:Pos}(hp:PassesOwn (model X.prog X.w) X.A X.env X.xe)(hc:X.calm=true)(hi:PI X tg iter wi)(hg:PG X tg g)(hb:PSs X body tb)
  (hs:∀x,foldedSetIterable iter X.env x=pure x:=by intro _;rfl):PS X (.For tg iter body [] pos) (CS wi g tb):=by
 intro pins s σ H D I h;refine wpAny_For (bT (hi pins s σ H _ I h) fun v s1 h1=>bT h1 fun itv s2 h2=>?_) hs
 obtain⟨it,fp,tn,J,H2,e,I2,T,st2,f2,W,⟨m0,w0⟩,turn⟩:=h2;subst e;have stat:∀{H':Hp},(∀b∈fp,H' b=none)->∀b∈fp,hX X pins H' b:=fun hn b hb=>⟨hn b hb,(f2 b hb).2⟩
 refine codeAny_forLoop_any (fun n s'=>∃i σ' H',Inv X pins σ' H' s'/\tn i s'.heap/\(∀b∈fp,H' b=none)/\W i n σ' H') ?_ m0 ⟨0,σ,H2,I2,st2,fun b hb=>(f2 b hb).1,w0⟩
 rintro n s3 ⟨i,σ3,H3,I3,st3,fr3,w3⟩;rcases turn i n σ3 H3 w3 with⟨stop,qn⟩|⟨go,N,hN,step⟩
 ·refine wpAny_passesOwn hp (bT (T.done X rfl rfl rfl hc i pins s3 σ3 H3 X.xe I3 (stat fr3) st3 stop) fun r s4 ⟨hr,I4⟩=>?_)
  subst hr;exact wpAny_execs_nil ⟨σ3,H3,I4,qn⟩
 ·refine wpAny_passesOwn hp (bT (T.item X rfl rfl rfl hc i pins s3 σ3 H3 X.xe I3 (stat fr3) st3 go) fun r s4 ⟨u,hr,h4⟩=>?_)
  subst hr;refine wpAny_passesOwn hp (bT h4 fun _ s5 ⟨x,H5,I5,r5,y5,st5,fr5⟩=>?_);have I5':=I5.pinned (stat fr5) (T.obj _ _ st5);refine wpAny_passesOwn hp (bT (hg _ s5 σ3 H5 x u _ I5' r5 (step x H5 y5)) fun _ s6 ⟨σ6,H6,I6,q6⟩=>?_)
  refine wpAny_passesOwn hp (bT (hb _ s6 σ6 H6 _ I6 q6) fun f s7 q7=>?_)
  have again:∀{σ7:St} {H7:Hp},Inv X (pins++mM fp s5.heap) σ7 H7 s7->N σ7 H7->∃m,m<n/\∃i σ' H',Inv X pins σ' H' s7/\tn i s7.heap/\(∀b∈fp,H' b=none)/\W i m σ' H':=fun{σ7 H7} I7 n7=>by
   obtain⟨m',hm,w7⟩:=hN σ7 H7 n7;refine⟨m',hm,i+1,σ7,H7,I7.unpinned,T.keep _ _ _ st5 fun b hb o e=>(I7.pin (b,o) (List.mem_append_right _ (List.mem_append_right _ (bX hb e)))).1,fun b hb=>?_,w7⟩
   obtain⟨o,e,d⟩:=T.obj _ _ st5 b hb;exact(I7.pin (b,o) (List.mem_append_right _ (List.mem_append_right _ (bX hb e)))).2.1
  cases f with
  |next=>obtain⟨σ7,H7,I7,n7⟩:=q7;exact again I7 n7
  |cont=>obtain⟨σ7,H7,I7,n7⟩:=q7;exact again I7 n7
  |brk=>obtain⟨σ7,H7,I7,q7⟩:=q7;exact⟨σ7,H7,I7.unpinned,q7⟩
  |ret v=>obtain⟨x7,σ7,H7,I7,r7,q7⟩:=q7;exact⟨x7,σ7,H7,I7.unpinned,r7,q7⟩
end
abbrev R2:=V->V->Hp->VK->Prop
def OpR(X:Cx)(f:Value->Value->Sem Value)(r:R2):Prop:=
 ∀(pins:List (Addr×Obj)) (s:Shared) (σ:St) (H:Hp) (x y:V) (v u:Value) (Q:VK),Inv X pins σ H s->RelV x v->RelV y u->r x y H Q ->
  wpAny (model X.prog X.w) X.A (f v u) (EP X pins σ Q) X.xe s
def CallR(X:Cx)(f:Value)(r:List V->Hp->VK->Prop):Prop:=
 ∀(pins:List (Addr×Obj)) (s:Shared) (σ:St) (H:Hp) (xs:List V) (us:List Value) (Q:VK),Inv X pins σ H s->Vals xs us->r xs H Q ->
  wpAny (model X.prog X.w) X.A (call f us) (EP X pins σ Q) X.xe s
def AL(r:R2)(ta tb:TE):TE:=fun σ H Q=>ta σ H fun x H1=>tb σ H1 fun y H2=>r x y H2 Q
def rI(C:Int->Int->Prop)(g:Int->Int->V):R2:=fun x y H Q=>∃i j,x=.int i/\y=.int j/\C i j/\Q (g i j) H
def sO(g:Int->Int->V):R2:=fun x y H Q=>∃i j,x=.int i/\y=.int j/\Q (g i j) H
section
variable{X:Cx}{a b c:Expr}{ta tb tc:TE}{pos:Pos}
theorem Aa(ha:PE X a ta)(hb:PE X b tb){pins:List (Addr×Obj)}{s:Shared}{σ:St}{H:Hp}{R:V->V->Hp->Prop}(I:Inv X pins σ H s)
  (h:ta σ H fun x H1=>tb σ H1 fun y H2=>R x y H2) {Q:Value->Shared->Prop} {f:Value->Value->Sem Value}
  (hf:∀v u s2 x y H2,Inv X pins σ H2 s2->RelV x v->RelV y u->R x y H2->wpAny (model X.prog X.w) X.A (f v u) Q X.xe s2) :
  wpAny (model X.prog X.w) X.A (eval a X.env) (fun v s₁=>wpAny (model X.prog X.w) X.A (eval b X.env) (fun u s₂=>wpAny (model X.prog X.w) X.A (f v u) Q X.xe s₂) X.xe s₁) X.xe s:=by
 refine bT (ha pins s σ H _ I h) fun v s1 ⟨x,H1,I1,r1,q1⟩=>?_
 refine bT (hb pins s1 σ H1 _ I1 q1) fun u s2 ⟨y,H2,I2,r2,q2⟩=>?_
 exact hf v u s2 x y H2 I2 r1 r2 q2
theorem Ba{op:Operator}{r:R2}(ho:OpR X (binaryOp op) r)(ha:PE X a ta)(hb:PE X b tb):PE X (.BinOp a op b pos) (AL r ta tb):=by
 intro pins s σ H Q I h;exact wpAny_BinOp (Aa ha hb I h fun v u s2 x y H2 I2 rx ry q=>ho pins s2 σ H2 x y v u Q I2 rx ry q)
theorem Bi{f:Value->Value->Sem Value}{C:Int->Int->Prop}{g:Int->Int->Int}
  (rule:∀(i j:Int) (t u:Tok) (s:Shared) (Q:Value->Shared->Prop) (E:Value->Shared->Prop),C i j->Q (.int (g i j) s.toks) { s with toks:=s.toks+1 }->wpAny (model X.prog X.w) X.A (f (.int i t) (.int j u)) Q E s) :
  OpR X f (rI C fun i j=>.int (g i j)):=by
 intro pins s σ H x y v u Q I rx ry h;obtain⟨i,j,rfl,rfl,hc,q⟩:=h;obtain⟨t,rfl⟩:=rx;obtain⟨t',rfl⟩:=ry;exact rule i j t t' s _ _ hc ⟨.int (g i j),H,I.tok _,⟨_,rfl⟩,q⟩
theorem ug{f:Value->Value->Sem Value}{g:Int->Int->Int}
  (rule:∀(i j:Int) (t u:Tok) (s:Shared) (Q:Value->Shared->Prop) (E:Value->Shared->Prop),Q (.int (g i j) s.toks) { s with toks:=s.toks+1 }->wpAny (model X.prog X.w) X.A (f (.int i t) (.int j u)) Q E s) :
  OpR X f (sO fun i j=>.int (g i j)):=by
 intro pins s σ H x y v u Q I rx ry h;obtain⟨i,j,rfl,rfl,q⟩:=h;obtain⟨t,rfl⟩:=rx;obtain⟨t',rfl⟩:=ry;exact rule i j t t' s _ _ ⟨.int (g i j),H,I.tok _,⟨_,rfl⟩,q⟩
theorem zg{f:Value->Value->Sem Value}{g:Int->Int->Bool}
  (rule:∀(i j:Int) (t u:Tok) (s:Shared) (Q:Value->Shared->Prop) (E:Value->Shared->Prop),Q (.bool (g i j)) s->wpAny (model X.prog X.w) X.A (f (.int i t) (.int j u)) Q E s) :
  OpR X f (sO fun i j=>.bl (g i j)):=by
 intro pins s σ H x y v u Q I rx ry h;obtain⟨i,j,rfl,rfl,q⟩:=h;obtain⟨t,rfl⟩:=rx;obtain⟨t',rfl⟩:=ry;exact rule i j t t' s _ _ ⟨.bl (g i j),H,I,rfl,q⟩
def Ed(i j:Int):Prop:=0<j/\j<1073741824
theorem pq(k:Nat):(0:Int)<=2^k:=by
 rw[two_pow_cast];exact Int.natCast_nonneg _
theorem zf:OpR X (binaryOp .Add) (sO fun i j=>.int (i+j)):=ug fun _ _ _ _ _ _ _ q=>add_int q
theorem y9:OpR X (binaryOp .Sub) (sO fun i j=>.int (i-j)):=ug fun _ _ _ _ _ _ _ q=>sub_int q
theorem wv:OpR X (binaryOp .FloorDiv) (rI Ed fun i j=>.int (i/j)):=Bi fun i j _ _ _ _ _ hc q=>by
 have h1:(0:Int)<j:=hc.1;have h2:j<1073741824:=hc.2;exact floordiv_int (by lia) (by rw[Int.fdiv_eq_ediv_of_nonneg i (by lia)];exact q) (.inl (PyProof.noPylong_small (by lia)))
theorem zc:OpR X (binaryOp .Mod) (rI (fun _ j=>0<j) fun i j=>.int (i%j)):=Bi fun i j _ _ _ _ _ hc q=>by
 have h1:(0:Int)<j:=hc;exact mod_int' (by lia) (by rw[Int.fmod_eq_emod_of_nonneg i (by lia)];exact q)
theorem za:OpR X (binaryOp .RShift) (rI (fun _ j=>0<=j) fun i j=>.int (i/2^j.toNat)):=Bi fun i j _ _ _ _ _ hc q=>
 rshift_int hc (by rw[Int.fdiv_eq_ediv_of_nonneg i (pq _)];exact q)
theorem ze:OpR X (binaryOp .BitAnd) (sO fun i j=>.int (Builtin.bitAnd i j)):=ug fun _ _ _ _ _ _ _ q=>and_int q
theorem Be:OpR X (binaryOp .BitOr) (sO fun i j=>.int (Builtin.bitOr i j)):=ug fun _ _ _ _ _ _ _ q=>or_int q
theorem y8:OpR X (binaryOp .BitXor) (sO fun i j=>.int (Builtin.bitXor i j)):=ug fun _ _ _ _ _ _ _ q=>xor_int q
end
section
variable{X:Cx}{a b c:Expr}{ta tb tc:TE}{pos:Pos}
theorem zQ{pins:List (Addr×Obj)}{σ:St}{H:Hp}{s:Shared}{Q:VK}{k k':Bool}(I:Inv X pins σ H s)(q:Q (.bl k) H)(e:k=k'):EP X pins σ Q (.bool k') s:=by
 subst e;exact⟨.bl k,H,I,rfl,q⟩
theorem Bf:OpR X (compareOp .Lt) (sO fun i j=>.bl (decide (i<j))):=zg fun _ _ _ _ _ _ _ q=>lt_int q
theorem Bg:OpR X (compareOp .Gt) (sO fun i j=>.bl (decide (j<i))):=zg fun _ _ _ _ _ _ _ q=>gt_int q
theorem Bh:OpR X (compareOp .GtE) (sO fun i j=>.bl (decide (j<=i))):=zg fun _ _ _ _ _ _ _ q=>ge_int q
theorem zd:OpR X (compareOp .Is) (fun x y H Q=>y=.non/\Q (.bl (decide (x=.non))) H):=by
 intro pins s σ H x y v u Q I rx ry h;obtain⟨rfl,q⟩:=h;cases ry;refine is_none_gen (zQ I q ?_);cases x<;>first
  | (cases rx;rfl)
  | (obtain⟨t,rfl⟩:=rx;rfl)
theorem aC(b:Expr){op:CmpOp}(h:op≠.In:=by decide)(h2:op≠.NotIn:=by decide):behindInMarks op b=false:=by
 have e1:(op==CmpOp.In)=false:=by cases op<;>first|rfl|exact absurd rfl h
 have e2:(op==CmpOp.NotIn)=false:=by cases op<;>first|rfl|exact absurd rfl h2
 cases b<;>simp[behindInMarks,e1,e2]
theorem wn{op:CmpOp}{r:R2}(ho:OpR X (compareOp op) r)(ha:PE X a ta)(hb:PE X b tb)(hm:behindInMarks op b=false):PE X (.Compare a [op] [b] pos) (AL r ta tb):=by
 intro pins s σ H Q I h;exact wpAny_Compare1 (Aa ha hb I h fun v u s2 x y H2 I2 rx ry q=>ho pins s2 σ H2 x y v u Q I2 rx ry q) hm
def AJ(t:TE):TT:=fun σ H Q=>t σ H fun x H'=>∃k,x=.bl k/\Q k H'
theorem wa{op:CmpOp}{r:R2}(ho:OpR X (compareOp op) r)(ha:PE X a ta)(hb:PE X b tb)(hm:behindInMarks op b=false):PT X (.Compare a [op] [b] pos) (AJ (AL r ta tb)):=by
 intro pins s σ H Q I h;refine wpAny_isTrue_Compare1 (bT (ha pins s σ H _ I h) fun v s1 ⟨x,H1,I1,r1,q1⟩=>bT (hb pins s1 σ H1 _ I1 q1) fun u s2 ⟨y,H2,I2,r2,q2⟩=>
  bT (ho pins s2 σ H2 x y v u _ I2 r1 r2 q2) fun c s3 ⟨z,H3,I3,r3,k,e,q3⟩=>?_) hm
 subst e;cases r3;exact wpAny_truthy_bool ⟨H3,I3,q3⟩
theorem mT:(sizeLine:Nat)<2^63:=by rw[sizeLine_eq];decide
theorem pI:OpR X (binaryOp .Add) (fun x y H Q=>∃i j,x=.str i/\y=.str j/\i.length+j.length<=sizeLine/\Q (.str (i++j)) H):=by
 intro pins s σ H x y v u Q I rx ry h;obtain⟨i,j,rfl,rfl,hz,q⟩:=h;obtain⟨t,rfl⟩:=rx;obtain⟨t',rfl⟩:=ry;exact add_str (fun t' tk=>⟨.str (i++j),H,I.tok _,⟨_,rfl⟩,q⟩) hz
theorem nD{x:V}{us:List Value}(r:Vals [x] us):∃u,us=[u]/\RelV x u:=by
 cases r with
 |cons r1 r2=>cases r2;exact⟨_,rfl,r1⟩
theorem AD{x y:V}{us:List Value}(r:Vals [x,y] us):∃u w',us=[u,w']/\RelV x u/\RelV y w':=by
 cases r with
 |cons r1 r2=>
  cases r2 with
  |cons r3 r4=>cases r4;exact⟨_,_,rfl,r1,r3⟩
def Ea(K:PySem.W.Frag)(x:V)(H:Hp)(n:Nat):Prop:=
 match x with
 |.str y=>y.length<=sizeLine/\n=y.length
 |.byt y=>y.size<=sizeLine/\n=y.size
 |.ref p=>(∃xs,SqL K H p xs/\n=xs.length)\/∃xs,SqT K H p xs/\n=xs.length
 |_=>False
theorem u8:CallR X (.builtin "len") (fun xs H Q=>∃x n,xs=[x]/\Ea X.K x H n/\Q (.int n) H):=by
 intro pins s σ H xs us Q I r h;obtain⟨x,n,rfl,e,q⟩:=h;obtain⟨u,rfl,rx⟩:=nD r;have hl:=mT;have hs:sizeLine=16777216:=sizeLine_eq;cases x with
 |str y=>
  obtain⟨t,rfl⟩:=rx;obtain⟨hy,e'⟩:y.length<=sizeLine/\n=y.length:=e;subst e';exact len_str (by lia) ⟨.int _,H,I.tok _,⟨_,rfl⟩,q⟩
 |byt y=>
  obtain⟨t,rfl⟩:=rx;obtain⟨hy,e'⟩:y.size<=sizeLine/\n=y.size:=e;subst e';exact PySem.W.len_bytes (by lia) ⟨.int _,H,I.tok _,⟨_,rfl⟩,q⟩
 |ref p=>
  cases rx;have e':(∃xs,SqL X.K H p xs/\n=xs.length)\/∃xs,SqT X.K H p xs/\n=xs.length:=e;rcases e' with⟨xs,hx,e'⟩|⟨xs,hx,e'⟩
  ·subst e'
   obtain⟨its,r',pl,hz⟩:=I.list hx;have hlen:=r'.length;exact Calls.call_len_list pl.isList (by simp only[List.size_toArray];lia) ⟨.int xs.length,H,I.tok _,⟨_,by simp only[List.size_toArray];rw[hlen]⟩,q⟩
  ·subst e'
   obtain⟨its,r',pl,hz⟩:=I.tuple hx;have hlen:=r'.length;exact len_tuple pl (by simp only[List.size_toArray];lia) ⟨.int xs.length,H,I.tok _,⟨_,by simp only[List.size_toArray];rw[hlen]⟩,q⟩
 |_=>exact(show False from e).elim
end
structure ObjM (h:Heap) (x dx C:Addr) (mA:Str->Option Value):Prop where
 obj:h.get? x=some (PySem.W.instObj C dx)
 ns:h.Ns1 dx mA
 ne:dx≠x
theorem sd{h:Heap}{dx:Addr}{mA:Str->Option Value}(n:h.Ns1 dx mA):∃od,h.get? dx=some od/\∀name,PySem.W.lookIn name od=some (mA name):=by
 obtain⟨o,es,ep,ho,hd,hk,_,hm⟩:=n;refine⟨o,ho,fun name=>?_⟩
 have e:=hm name;unfold nsFind findBy at e;rw[<-Array.find?_toList]at e;unfold PySem.W.lookIn;rw[hd];dsimp only;split
 ·rename_i y q
  rw[q]at e;exact congrArg some e
 ·rename_i q
  rw[q]at e;have a:es.toList.any (·.refKey)=false:=by
   rw[List.any_eq_false];intro y hy;obtain⟨z,t,hkey⟩:=hk y (Array.mem_toList_iff.mp hy);simp[DictEntry.refKey,hkey]
  have a':¬es.toList.any (·.refKey)=true:=by rw[a];exact Bool.false_ne_true
  rw[if_neg a'];exact congrArg some e
theorem ObjM.look{h:Heap}{x dx C:Addr}{mA:Str->Option Value}(I:ObjM h x dx C mA):∃od,PySem.W.InstAt h x (PySem.W.instObj C dx) C (some od)/\∀name,PySem.W.lookIn name od=some (mA name):=
 let ⟨od,ho,hl⟩:=sd I.ns
 ⟨od,⟨I.obj,rfl,rfl,ho⟩,hl⟩
section
variable{P:Program}{w:World}{H H':Hp}{h h':Heap}{a C dx:Addr}{fs fs':List (Str×V)}
theorem qL(hok:HOk P w H h)(e:H a=some (.ins C dx fs)):∃mA,ObjM h a dx C mA/\(∀f,RelO (fs.lookup f) (mA f))/\PySem.Within mA (fs.map (·.1))/\fs.length<=1000/\H dx=some (.own a):=by
 obtain⟨d,z,ne,ob,mA,n,r,q⟩:=(show ObjOk P w H h a (.ins C dx fs)from hok a _ e);exact⟨mA,⟨ob,n,ne⟩,r,q,z,d⟩
end
structure Cls (K:PySem.W.Frag) (C:Addr):Prop where
 pg:PySem.W.plainGet K C Str.empty=true
 hd:PySem.W.hasDictIn K C=true
 po:PySem.W.plainOver K C=true
 sa:PySem.W.findIn K (.ref C) "__setattr__" = some (some (.builtin "object.__setattr__"))
theorem Cls.get{K:PySem.W.Frag}{C:Addr}(c:Cls K C)(f:Str):PySem.W.plainGet K C f=true:=c.pg
section
variable{X:Cx}{pins:List (Addr×Obj)}{σ:St}{H:Hp}{s:Shared}{A:Around}{E:Value->Shared->Prop}{Q:Value->Shared->Prop}{c:Value}{b:Bool}
inductive TyOf (K:PySem.W.Frag) (H:Hp):V->Value->Prop where
 |non:TyOf K H .non (.type "NoneType")
 |bl (x:Bool):TyOf K H (.bl x) (.type "bool")
 |int (i:Int):TyOf K H (.int i) (.type "int")
 |str (x:Str):TyOf K H (.str x) (.type "str")
 |flt (x:UInt64):TyOf K H (.flt x) (.type "float")
 |lst {a:Addr} {xs:List V} (e:H a=some (.lst xs)):TyOf K H (.ref a) (.type "list")
 |frz {a:Addr} {o:Obj} {xs:List V} (e:H a=some (.frz o (.lst xs))):TyOf K H (.ref a) (.type "list")
 |tup {a:Addr} {xs:List V} (e:H a=some (.tup xs)):TyOf K H (.ref a) (.type "tuple")
 |dK {a:Addr} {kvs:List (bb×V)} (e:H a=some (.dK kvs)):TyOf K H (.ref a) (.type "dict")
 |dT {a:Addr} {kvs:List (List bb×V)} (e:H a=some (.dT kvs)):TyOf K H (.ref a) (.type "dict")
 |ins {a C dx:Addr} {fs:List (Str×V)} (e:H a=some (.ins C dx fs)) (cl:Cls K C) (ha:PySem.W.findIn K (.ref C) "__class__" = some (some (.builtin "object.__class__")))
   (hn:PySem.W.specialIn K (.builtin "object.__class__") "__get__" = some (some (.builtin "getset_descriptor.__get__"))) (htk:PySem.W.takesIn K (.builtin "object.__class__")=some true)
   (hm:PySem.W.mroIn K C (.type "object")=some true):TyOf K H (.ref a) (.ref C)
theorem gF{x:V}{u t:Value}(I:Inv X pins σ H s)(rx:RelV x u)(ty:TyOf X.K H x t)(e:PySem.W.kitOne X.K t c=some b)(h:∀tk,Q (.bool b) { s with toks:=tk }):
  wpAny (model X.prog X.w) A (call (.builtin "isinstance") [u,c]) Q E s:=by
 cases ty with
 |non=>cases(show u=Value.none from rx);exact PySem.W.kia_one PySem.W.kitx_none I.kIn True.intro e (fun z=>nomatch z) h
 |bl y=>cases(show u=Value.bool y from rx);exact PySem.W.kia_one PySem.W.kitx_bool I.kIn True.intro e (fun z=>nomatch z) h
 |int i=>obtain⟨t,q⟩:=(show ∃t,u=Value.int i t from rx);cases q;exact PySem.W.kia_one PySem.W.kitx_int I.kIn True.intro e (fun z=>nomatch z) h
 |str y=>obtain⟨t,q⟩:=(show ∃t,u=Value.str y t from rx);cases q;exact PySem.W.kia_one PySem.W.kitx_str I.kIn True.intro e (fun z=>nomatch z) h
 |flt y=>obtain⟨t,q⟩:=(show ∃t,u=Value.float y t from rx);cases q;exact PySem.W.kia_one PySem.W.kitx_float I.kIn True.intro e (fun z=>nomatch z) h
 | @lst a xs ea=>
  cases(show u=Value.ref a from rx);obtain⟨_,_,n,_,h1⟩:=(show ObjOk X.prog X.w H s.heap a (.lst xs)from I.hok a _ ea);exact PySem.W.kia_one PySem.W.kitx_list I.kIn ⟨_,h1,rfl⟩ e (fun z=>nomatch z) h
 | @frz a ob xs ea=>
  cases(show u=Value.ref a from rx);obtain⟨_,_,_,n,_,h1⟩:=(show ObjOk X.prog X.w H s.heap a (.frz ob (.lst xs))from I.hok a _ ea);exact PySem.W.kia_one PySem.W.kitx_list I.kIn ⟨_,h1,rfl⟩ e (fun z=>nomatch z) h
 | @tup a xs ea=>
  cases(show u=Value.ref a from rx);obtain⟨_,_,_,p⟩:=(show ObjOk X.prog X.w H s.heap a (.tup xs)from I.hok a _ ea);obtain⟨o,h1,h2,_⟩:=p.1;exact PySem.W.kia_one PySem.W.kitx_tuple I.kIn ⟨o,h1,h2⟩ e (fun z=>nomatch z) h
 | @dK a kvs ea=>
  cases(show u=Value.ref a from rx);obtain⟨_,_,vs,_,p⟩:=(show ObjOk X.prog X.w H s.heap a (.dK kvs)from I.hok a _ ea);obtain⟨o,es,ep,h1,h2,_⟩:=p;exact PySem.W.kia_one PySem.W.kitx_dict I.kIn ⟨o,h1,h2.1⟩ e (fun z=>nomatch z) h
 | @dT a kvs ea=>
  cases(show u=Value.ref a from rx);obtain⟨_,_,xs,_,o,es,ep,h1,h2,_⟩:=(show ObjOk X.prog X.w H s.heap a (.dT kvs)from I.hok a _ ea);exact PySem.W.kia_one PySem.W.kitx_dict I.kIn ⟨o,h1,h2.1⟩ e (fun z=>nomatch z) h
 | @ins a C dx fs ea cl ha hn htk hm=>
  cases(show u=Value.ref a from rx);obtain⟨mA,O,_⟩:=qL I.hok ea;obtain⟨od,J,_⟩:=O.look;exact PySem.W.kia_one (PySem.W.kitx_own (cl.get _) cl.hd ha hn htk hm) I.kIn J e (fun z=>nomatch z) h
end
structure Room (k:Nat) (A:Around):Prop where
 hd:A.handled=none
 dp:A.depth+3*k+5<recursionLimit
 un:A.units+16*k+200<cLine
theorem Room.mono{j k:Nat}{A:Around}(r:Room k A)(h:j<=k):Room j A:=⟨r.hd,by have:=r.dp;lia,by have:=r.un;lia⟩
theorem Room.deeper{k:Nat}{A:Around}(r:Room (k+1) A)(env:Env):Room k (A.deeper env):=
 ⟨r.hd,by have:=r.dp;show A.depth+1+3*k+5<_;lia,by have:=r.un;show A.units+3+16*k+200<_;lia⟩
theorem Room.depth{k:Nat}{A:Around}(r:Room k A):A.depth<recursionLimit:=by have:=r.dp;lia
theorem Room.units{k:Nat}{A:Around}(r:Room k A):A.units+64<cLine:=by have:=r.un;lia
def CO:TA:=fun _ H Q=>Q [] H
def AQ(ta:TE)(tr:TA):TA:=fun σ H Q=>ta σ H fun x H1=>tr σ H1 fun xs H2=>Q (x::xs) H2
section
variable{X:Cx}{e:Expr}{es:List Expr}{te:TE}{t:TA}{pos:Pos}
theorem mN:PA X [] CO:=fun _ _ _ _ H Q I h=>Calls.spliced_nil ⟨[],H,I,.nil,h⟩
theorem ik(ha:PE X e te)(hr:PA X es t)(hs:starEach (e::es) X.env=(false,eval e X.env)::starEach es X.env:=by rfl):PA X (e::es) (AQ te t):=by
 intro pos pins s σ H Q I h;rw[hs];show wpAny _ _ (spliced ((false,eval e X.env)::backTo pos (starEach es X.env))) _ _ s;refine Calls.spliced_cons (bT (ha pins s σ H _ I h) fun u s1 ⟨x,H1,I1,r1,q1⟩=>?_)
 exact bT (hr pos pins s1 σ H1 _ I1 q1) fun us s2 ⟨xs,H2,I2,r2,q2⟩=>⟨x::xs,H2,I2,.cons r1 r2,q2⟩
def CK(t:TA):TE:=fun σ H Q=>t σ H fun xs H1=>xs.length<=sizeLine/\∀p,H1 p=none->Q (.ref p) (upd H1 p (.tup xs))
def CP(t:TA):TE:=fun σ H Q=>t σ H fun xs H1=>xs.length<=sizeLine/\∀p,H1 p=none->Q (.ref p) (upd H1 p (.lst xs))
theorem yQ{x1}(h:PA X es t):PE X (.Tuple es x1 pos) (CK t):=by
 intro pins s σ H Q I hq;refine wpAny_Tuple_spliced (bT (h pos pins s σ H _ I hq) fun us s1 ⟨xs,H1,I1,r,z,q⟩=>⟨by rw[<-r.length];exact z,?_⟩)
 have hf:H1 s1.heap.objs.size=none:=I1.hok.fresh (Nat.le_refl _);refine⟨.ref s1.heap.objs.size,upd H1 s1.heap.objs.size (.tup xs),I1.laid (t':=s1.toks) (fun b u e=>Heap.get?_push_of_some _ e) (Nat.le_refl _) ?_,rfl,q _ hf⟩;exact⟨z,us,r,⟨_,Heap.get?_push_size _ rfl,rfl,_,rfl⟩,NoDi.new _ _⟩
theorem t9(h:PA X es t):PE X (.List es pos) (CP t):=by
 intro pins s σ H Q I hq;refine wpAny_List_spliced (bT (h pos pins s σ H _ I hq) fun us s1 ⟨xs,H1,I1,r,z,q⟩=>⟨by rw[<-r.length];exact z,?_⟩)
 have hf:H1 s1.heap.objs.size=none:=I1.hok.fresh (Nat.le_refl _);refine⟨.ref s1.heap.objs.size,upd H1 s1.heap.objs.size (.lst xs),I1.laid (t':=s1.toks) (fun b u e=>Heap.get?_push_of_some _ e) (Nat.le_refl _) ?_,rfl,q _ hf⟩;exact⟨z,us,0,r,Heap.get?_push_size _ rfl⟩
end
abbrev Sp:=List V->Hp->VK->XK->Prop
abbrev rA:=List Env->Hp->Shared->XK->Value->Shared->Prop
structure Env0 (P:Program) (w:World) (K:PySem.W.Frag) (mg:Str->Option Value) (base:Heap) (A:Around) (outer:List Env) (s:Shared) (H:Hp):Prop where
 frames:A.frames=some outer
 mod:Mod K mg base
 bs:∀b o,base.get? b=some o->s.heap.get? b=some o/\H b=none
 bsz:base.objs.size<=s.heap.objs.size
 funs:s.heap.FunFrames base outer
 frf:∀b∈sQ outer,H b=none
 hok:HOk P w H s.heap
 bare:AllBare s.gens
 tb:xI K H
def CE(outer:List Env)(P:Program)(w:World)(H:Hp)(s:Shared)(Q:VK)(u:Value)(s':Shared):Prop:=
 ∃v H',s'.os=s.os/\AllBare s'.gens/\Un (sQ outer) [] H H' s.heap s'.heap/\HOk P w H' s'.heap/\RelV v u/\Q v H'
def CR(CX:rA)(outer:List Env)(P:Program)(w:World)(H:Hp)(s:Shared)(Q:VK)(E:XK)(r:Result)(s':Shared):Prop:=
 match r with
 |.ok (.ret u)=>CE outer P w H s Q u s'
 |.ok _=>False
 |.error e=>CX outer H s E e s'
structure FnOk (P:Program) (w:World) (K:PySem.W.Frag) (mg:Str->Option Value) (base:Heap) (CX:rA) (k:Nat) (f:Addr) (fd:FuncData) (ps:List Str) (sp:Sp):Prop where
 len:∀vs H Q E,sp vs H Q E->vs.length=ps.length
 run:∀(A:Around) (outer:List Env) (s:Shared) (H:Hp) (args:Args) (us:List Value) (vs:List V) (Q:VK) (E:XK),Room k A->Env0 P w K mg base A outer s H->BindsTo s fd args (ps.zip us)->Vals vs us->sp vs H Q E ->
  codeAny (model P w) A (.call (.ref f) args) (CR CX outer P w H s Q E) s
theorem FnOk.imp{P:Program}{w:World}{K:PySem.W.Frag}{mg:Str->Option Value}{base:Heap}{CX:rA}{k:Nat}{f:Addr}{fd:FuncData}{ps:List Str}{sp sp':Sp}(F:FnOk P w K mg base CX k f fd ps sp)
  (h:∀vs H Q E,sp' vs H Q E->sp vs H Q E):FnOk P w K mg base CX k f fd ps sp':=
 ⟨fun vs H Q E q=>F.len vs H Q E (h _ _ _ _ q),fun A outer s H args us vs Q E hr he hb hv hs=>F.run A outer s H args us vs Q E hr he hb hv (h _ _ _ _ hs)⟩
section
variable{X:Cx}{pins:List (Addr×Obj)}{σ:St}{H:Hp}{s s':Shared}
theorem Inv.env0(I:Inv X pins σ H s):Env0 X.prog X.w X.K X.mg X.base X.A X.stack s H:=
 ⟨I.ok.frames,I.ok.mod,I.bs,Nat.le_trans I.ok.bsz I.sz,I.stack,I.stkFree,I.hok,I.bare,I.tb⟩
theorem Inv.after{Q:VK}{u:Value}(I:Inv X pins σ H s)(h:CE X.stack X.prog X.w H s Q u s'):EP X pins σ Q u s':=by
 obtain⟨v,H',os,bare,un,hok,r,q⟩:=h;obtain⟨hh,g,d,t,os'⟩:=s';obtain rfl:os'=s.os:=os;exact⟨v,H',I.call (h':=hh) (g':=g) (d':=d) (t':=t) (ch:=[]) un hok bare (fun b z=>absurd z (by simp)),r,q⟩
end
def AR(sp:Sp)(dvs:List V)(E:XK)(t:TA):TE:=fun σ H Q=>t σ H fun vs H1=>sp (vs++dvs) H1 Q E
def Binds(K:PySem.W.Frag)(fd:FuncData)(ps:List Str)(ds:List Value):Prop:=
 ∀(s:Shared) (us:List Value),K.In s.heap->(us++ds).length=ps.length->BindsTo s fd ⟨us,[]⟩ (ps.zip (us++ds))
theorem Binds.all{K:PySem.W.Frag}{fd:FuncData}{ps:List Str}(h:∀us:List Value,us.length=ps.length->bindArgs fd ⟨us,[]⟩=pure (ps.zip us)):Binds K fd ps []:=fun s us _ hl=>by
 rw[List.append_nil]at hl ⊢;exact .of_eq (h us hl)
def ny(CX:rA)(X:Cx)(E:XK):Prop:=∀(pins:List (Addr×Obj)) (σ:St) (H:Hp) (s:Shared) (e:Value) (s':Shared),Inv X pins σ H s->CX X.stack H s E e s'->X.xe e s'
section
variable{X:Cx}{CX:rA}{k:Nat}{f C:Addr}{fd:FuncData}{ps:List Str}{sp:Sp}{dvs:List V}{ds:List Value}{E:XK}{x m:Str}{p pos apos:Pos}{e o:Expr}{es:List Expr}{ta:TE}{t:TA}
theorem tS{pins:List (Addr×Obj)}{σ:St}{H:Hp}{s:Shared}{Q:VK}{us:List Value}{vs:List V}(F:FnOk X.prog X.w X.K X.mg X.base CX k f fd ps sp)(hr:Room k X.A)(hb:Binds X.K fd ps ds)(hd:Vals dvs ds)(hx:ny CX X E)
  (I:Inv X pins σ H s) (r:Vals vs us) (h:sp (vs++dvs) H Q E):wpAny (model X.prog X.w) X.A (call (.ref f) us) (EP X pins σ Q) X.xe s:=by
 have r2:Vals (vs++dvs) (us++ds):=r.append hd;have hl:(us++ds).length=ps.length:=by rw[<-r2.length];exact F.len _ _ _ _ h
 refine wpAny_call (codeAny_mono (F.run X.A X.stack s H ⟨us,[]⟩ (us++ds) (vs++dvs) Q E hr I.env0 (hb s us I.kIn hl) r2 h) fun r s' hq=>?_)
 cases r with
 |error e=>exact hx pins σ H s e s' I hq
 |ok fl=>
  cases fl with
  |ret u=>exact I.after hq
  |next=>exact False.elim hq
  |brk=>exact False.elim hq
  |cont=>exact False.elim hq
theorem wo(F:FnOk X.prog X.w X.K X.mg X.base CX k f fd ps sp)(hr:Room k X.A)(hg:Gl X x)(hm:X.mg x=some (.ref f))(hk:PySem.W.keepIn X.K (.ref f)=true)(hb:Binds X.K fd ps ds)(hd:Vals dvs ds)(hx:ny CX X E)
  (ha:PA X (e::es) t) (hdb:(x==("__debug__":Str))=false:=by decide) (he:starEach (e::es) X.env=(false,eval e X.env)::starEach es X.env:=by rfl) (hpl:(backTo pos (starEach es X.env)).any (·.1)=false:=by rfl) :
  PE X (.Call (.Name x p) (e::es) [] pos) (AR sp dvs E t):=by
 intro pins s σ H Q I h;refine wpAny_Call_Name_kw (qI I hg hm ?_ hdb);refine PySem.W.callWith_K (h₀:=X.base) I.ok.mod.kin hk (bT (ha pos pins s σ H _ I h) fun us s1 ⟨vs,H1,I1,r,q⟩=>⟨I1.kIn,?_⟩) he hpl
 exact tS F hr hb hd hx I1 r q
end
structure FnScope (N P:List Str) (sc:Scope):Prop where
 kind:sc.kind=.function
 co:sc.isCoroutine=false
 gen:sc.isGenerator=false
 nd:N.Nodup
 pre:N.take P.length=P
 par:∀x∈P,sc.names.lookup x=some .local\/sc.names.lookup x=some .cell
 nofree:∀y∈sc.names,y.2≠.free
theorem mh{kindOf:Str->Option NameKind}{x:Str}:∀{binds:List (Str×Value)} {m:Str->Option Value},(∀v,(x,v) ∉ binds)->bindL kindOf binds m x=m x
 |[],_,_=>rfl
 | (n,v)::r,m,h=>by
  unfold bindL;rw[mh fun w hw=>h w (List.mem_cons_of_mem _ hw)]
  split
  ·have:x≠n:=by rintro rfl;exact h v List.mem_cons_self
   simp[this]
  ·rfl
theorem mm{kindOf:Str->Option NameKind}{x:Str}:∀{binds:List (Str×Value)} {m:Str->Option Value},(∀v,(x,v) ∉ binds)->bindC kindOf binds m x=m x
 |[],_,_=>rfl
 | (n,v)::r,m,h=>by
  unfold bindC;rw[mm fun w hw=>h w (List.mem_cons_of_mem _ hw)]
  split
  ·rfl
  ·have:x≠n:=by rintro rfl;exact h v List.mem_cons_self
   simp[this]
theorem mi{kindOf:Str->Option NameKind}{x:Str}{v:Value}:∀{P:List Str} {vs:List Value} {i:Nat} {m:Str->Option Value},P.Nodup->P[i]? = some x->vs[i]? = some v->kindOf x=some .local ->
  bindL kindOf (P.zip vs) m x=some v
 |[],_,_,_,_,h,_,_=>by simp at h
 |_::_,[],_,_,_,_,h,_=>by simp at h
 |p::P,w::vs,0,m,nd,h1,h2,hk=>by
  simp at h1 h2;subst h1;subst h2;show bindL kindOf ((p,w)::P.zip vs) m p=_;unfold bindL;rw[mh fun v hv=>(List.nodup_cons.mp nd).1 (List.of_mem_zip hv).1,if_pos hk]
  simp
 |p::P,w::vs,i+1,m,nd,h1,h2,hk=>by
  show bindL kindOf ((p,w)::P.zip vs) m x=_;unfold bindL;exact mi (i:=i) (List.nodup_cons.mp nd).2 (by simpa using h1) (by simpa using h2) hk
theorem mn{kindOf:Str->Option NameKind}{x:Str}{v:Value}:∀{P:List Str} {vs:List Value} {i:Nat} {m:Str->Option Value},P.Nodup->P[i]? = some x->vs[i]? = some v->kindOf x≠some .local ->
  bindC kindOf (P.zip vs) m x=some v
 |[],_,_,_,_,h,_,_=>by simp at h
 |_::_,[],_,_,_,_,h,_=>by simp at h
 |p::P,w::vs,0,m,nd,h1,h2,hk=>by
  simp at h1 h2;subst h1;subst h2;show bindC kindOf ((p,w)::P.zip vs) m p=_;unfold bindC;rw[mm fun v hv=>(List.nodup_cons.mp nd).1 (List.of_mem_zip hv).1,if_neg hk]
  simp
 |p::P,w::vs,i+1,m,nd,h1,h2,hk=>by
  show bindC kindOf ((p,w)::P.zip vs) m x=_;unfold bindC;exact mn (i:=i) (List.nodup_cons.mp nd).2 (by simpa using h1) (by simpa using h2) hk
noncomputable def fQ(N:List Str)(vs:List V):St:=vs.map some++List.replicate (N.length-vs.length) none
noncomputable def lq(CX:rA)(P:Program)(w:World)(K:PySem.W.Frag)(mg:Str->Option Value)(base:Heap)(N:List Str)(qual:Str)(scope:Scope)(f:Addr)(cd:Value)(A:Around)(outer:List Env)(s:Shared)(H:Hp)(E:XK):Cx where
 prog:=P
 w:=w
 K:=K
 mg:=mg
 base:=base
 A:=A.deeper (envOfC qual scope s.heap.objs.size f cd)
 N:=N
 s₀:=s
 H₀:=H
 env:=envOfC qual scope s.heap.objs.size f cd
 outer:=outer
 stack:=envOfC qual scope s.heap.objs.size f cd::outer
 ex:=[]
 calm:=true
 fn:=fun _=>true
 cz:=fun _=>false
 pn:=[]
 xe:=fun e s'=>wpAny (model P w) (A.deeper (envOfC qual scope s.heap.objs.size f cd)) (leaving (envOfC qual scope s.heap.objs.size f cd) e) (fun _ s''=>CX outer H s E e s'') (fun e' s''=>CX outer H s E e' s'') s'
theorem o6{sc:Scope}{n:Nat}{x:Str}(h:sc.names.lookup x=some .cell):∃c,(cellsFrom n sc.names []).lookup x=some c:=by
 have q:=PySem.W.cellsFrom_some sc.names n [] (.inl h);exact Option.isSome_iff_exists.mp q
theorem lR{CX:rA}{P:Program}{w:World}{K:PySem.W.Frag}{mg:Str->Option Value}{base:Heap}{N ps:List Str}{qual:Str}{scope:Scope}{f:Addr}{cd:Value}{A:Around}{outer:List Env}{s s1:Shared}{H:Hp}{E:XK}{us:List Value}{vs:List V}
  (S:FnScope N ps scope) (hd:A.handled=none) (e0:Env0 P w K mg base A outer s H) (hl:vs.length=ps.length) (r:Vals vs us)
  (x:InCallC s s.heap.objs.size (bindL (envOfC qual scope s.heap.objs.size f cd).kindOf (ps.zip us) fun _=>none) (cellsFrom (s.heap.objs.size+1) scope.names []) (bindC (envOfC qual scope s.heap.objs.size f cd).kindOf (ps.zip us) fun _=>none) s1) :
  Inv (lq CX P w K mg base N qual scope f cd A outer s H E) [] (fQ N vs) H s1:=by
 have hpl:ps.length<=N.length:=by have:=congrArg List.length S.pre;rw[List.length_take]at this;lia
 obtain⟨h1,tk,rfl,hk⟩:=x.done;have noA:∀b:Addr,b ∉ (lq CX P w K mg base N qual scope f cd A outer s H E).ex:=fun b z=>absurd (show b∈([]:List Addr)from z) (by simp)
 refine⟨⟨e0.mod,S.kind,rfl,rfl,Nat.le_refl _,fun y z c h1 h2=>?_,fun y hy=>?_,fun y c _ h=>?_,fun _=>hd,Around.frames_deeper e0.frames,.inr ⟨rfl,rfl⟩,fun b z=>absurd z (noA b),e0.bs,e0.bsz,fun b _ _=>noA b,fun b z=>absurd z (noA b),e0.funs,e0.frf,e0.tb⟩,
  rfl,e0.bare,Un.kept hk,⟨_,x.toInCall.ns,fun i y v h1 h2 h3=>?_⟩,fun y c h=>⟨_,x.cell y c h⟩,e0.hok.fresh (Nat.le_refl _),fun y c h=>?_,fun p hp=>absurd (show p∈([]:List (Addr×Obj))from hp) (by simp),e0.hok.kept hk,?_⟩
 ·exact name_of_addr x.apart (PySem.mem_of_lookup h1) (PySem.mem_of_lookup h2)
 ·have hy:scope.names.lookup y=some .cell\/scope.names.lookup y=some .free:=hy
  rcases hy with hy|hy
  ·exact o6 hy
  ·exact absurd rfl (S.nofree _ (PySem.mem_of_lookup hy))
 ·exact Nat.le_of_lt (x.above y c (PySem.mem_of_lookup h))
 ·have hi:i<vs.length:=by
   unfold fQ at h2;by_cases hi:i<vs.length
   ·exact hi
   ·rw[List.getElem?_append_right (by simpa using hi)]at h2
    rw[List.getElem?_replicate]at h2;split at h2<;>cases h2
  have ha:vs[i]? = some v:=by
   unfold fQ at h2;rw[List.getElem?_append_left (by simpa using hi),List.getElem?_map]at h2;cases e:vs[i]? with
   |none=>rw[e]at h2;cases h2
   |some a=>rw[e]at h2;cases h2;rfl
  obtain⟨u,hu,rv⟩:=r.get ha;have hp:ps[i]? = some y:=by
   rw[<-S.pre,List.getElem?_take_of_lt (by lia)];exact h1
  have ndP:ps.Nodup:=by rw[<-S.pre];exact S.nd.sublist (List.take_sublist _ _)
  refine⟨u,rv,?_⟩;rcases S.par y (List.mem_of_getElem? hp)with k|k
  ·exact .inl ⟨k,mi ndP hp hu k⟩
  ·obtain⟨c,e⟩:=o6 (n:=s.heap.objs.size+1) k
   refine .inr ⟨.inl k,c,e,?_⟩;have q:=x.cell y c e;rw[mn ndP hp hu (by show scope.names.lookup y≠_;rw[k];decide)]at q;exact q
 ·exact .inl (e0.hok.fresh (Nat.le_of_lt (x.above y c (PySem.mem_of_lookup h))))
 ·unfold fQ
  show _=N.length;rw[List.length_append,List.length_map,List.length_replicate]
  lia
theorem BL{CX:rA}{P:Program}{w:World}{K:PySem.W.Frag}{mg:Str->Option Value}{base:Heap}{k:Nat}{f:Addr}{name qual:Str}{params:Arguments}{body:List Stmt}{scope:Scope}{dV kV doc pm cdv ct oc:Value}{an od:Option Addr}
  {osl:Array (Option Value)} {N ps:List Str} {sp:Sp} (lk:K.lookup f=some ⟨oc,od,.func (PySem.W.fnOf name qual params body scope dV kV doc pm an cdv ct),osl⟩) (hcd:PySem.W.codeIn K cdv qual=true) (S:FnScope N ps scope)
  (len:∀vs H Q E,sp vs H Q E->vs.length=ps.length)
  (hbody:∀(A:Around) (outer:List Env) (s:Shared) (H:Hp) (vs:List V) (Q:VK) (E:XK),Room k (A.deeper (envOfC qual scope s.heap.objs.size f cdv))->sp vs H Q E ->
   ∃t,PSs (lq CX P w K mg base N qual scope f cdv A outer s H E) body t/\t { nx:=fun _ H'=>Q .non H',rt:=Q } (fQ N vs) H) :
  FnOk P w K mg base CX (k+1) f (PySem.W.fnOf name qual params body scope dV kV doc pm an cdv ct) ps sp:=by
 refine⟨len,fun A outer s H args us vs Q E hr e0 hb r hsp=>?_⟩
 have hl:=len _ _ _ _ hsp;have KX:K.In s.heap:=e0.mod.kin.keeps fun b o e=>(e0.bs b o e).1
 have lim:s.heap.NoLimit:=e0.mod.nolimit.keeps fun b o e=>(e0.bs b o e).1
 have hkind:∀y∈ps.zip us,scope.names.lookup y.1=some .local\/(scope.names.lookup y.1=some .cell/\((cellsFrom (s.heap.objs.size+1) scope.names []).lookup y.1).isSome=true):=fun⟨n,v⟩ hy=>by
  rcases S.par n (List.of_mem_zip hy).1 with q|q
  ·exact .inl q
  ·exact .inr ⟨q,PySem.W.cellsFrom_some _ _ _ (.inl q)⟩
 refine codeAny_call_function hr.depth (KX _ _ lk) rfl S.co S.gen rfl (PySem.W.codeRec_of KX hcd) (hb _ _ _ _ ?_);refine wpAny_newFunctionEnv_cells S.kind hkind fun env he s1 x=>?_
 subst he;refine⟨lim.keeps x.toInCall.keep,codeAny_func ?_⟩;obtain⟨t,ht,hq⟩:=hbody A outer s H vs Q E (hr.deeper _) hsp;have I:Inv (lq CX P w K mg base N qual scope f cdv A outer s H E) [] (fQ N vs) H s1:=lR S hr.hd e0 hl r x;refine wpAny_mono (ht [] s1 (fQ N vs) H _ I hq) (fun fl s' hs=>?_) fun e s' hs=>hs
 have fin:∀{σ':St} {H':Hp} {v:V} {u:Value},Inv (lq CX P w K mg base N qual scope f cdv A outer s H E) [] σ' H' s'->RelV v u->Q v H'->CE outer P w H s Q u s':=
  fun{σ' H' v u} J rv q=>⟨v,H',J.os,J.bare,J.base,J.hok,rv,q⟩
 cases fl with
 |ret u=>
  obtain⟨v,σ',H',J,rv,q⟩:=hs;exact fin J rv q
 |next=>
  obtain⟨σ',H',J,q⟩:=hs;exact fin (v:=V.non) (u:=Value.none) J rfl q
 |brk=>
  obtain⟨_,_,_,q⟩:=hs;exact False.elim q
 |cont=>
  obtain⟨_,_,_,q⟩:=hs;exact False.elim q
section
variable{X:Cx}{x:Str}{p pos:Pos}{e:Expr}{es:List Expr}{t:TA}{id T:String}{r:List V->Hp->VK->Prop}
def En(r:List V->Hp->VK->Prop)(t:TA):TE:=fun σ H Q=>t σ H fun vs H1=>r vs H1 Q
theorem nX(hc:CallR X (.builtin id) r)(hg:Gl X x)(hm:X.mg x=none)(hv:bootBuiltins x=some (.builtin id))(ha:PA X (e::es) t)(hn:x ≠ "__name__":=by decide)(hdb:(x==("__debug__":Str))=false:=by decide)
  (he:starEach (e::es) X.env=(false,eval e X.env)::starEach es X.env:=by rfl) (hpl:(backTo pos (starEach es X.env)).any (·.1)=false:=by rfl):PE X (.Call (.Name x p) (e::es) [] pos) (En r t):=by
 intro pins s σ H Q I h;refine wpAny_Call_Name_kw (ki I hg hm hv ?_ hn hdb);exact PyProof.Rows.callWith_builtin1 (bT (ha pos pins s σ H _ I h) fun us s1 ⟨vs,H1,I1,r1,q1⟩=>hc pins s1 σ H1 vs us Q I1 r1 q1) he hpl
theorem rU(hc:CallR X (.type T) r)(hg:Gl X x)(hm:X.mg x=none)(hv:bootBuiltins x=some (.type T))(ha:PA X (e::es) t)(hn:x ≠ "__name__":=by decide)(hdb:(x==("__debug__":Str))=false:=by decide)
  (he:starEach (e::es) X.env=(false,eval e X.env)::starEach es X.env:=by rfl) (hpl:(backTo pos (starEach es X.env)).any (·.1)=false:=by rfl):PE X (.Call (.Name x p) (e::es) [] pos) (En r t):=by
 intro pins s σ H Q I h;refine wpAny_Call_Name_kw (ki I hg hm hv ?_ hn hdb);exact PyProof.Rows.callWith_type1 (bT (ha pos pins s σ H _ I h) fun us s1 ⟨vs,H1,I1,r1,q1⟩=>hc pins s1 σ H1 vs us Q I1 r1 q1) he hpl
end
end L2
namespace HT
open PySem PyProof.Rows
section
variable{prog:Program}{w:World}{A:Around}{E:Value->Shared->Prop}{s:Shared}
theorem xo{t b:Addr}{vs ws:List Value}{Q:Value->Shared->Prop}(ht:IsTup s.heap t vs.toArray)(hb:IsTup s.heap b ws.toArray)(hv:vs≠[])
  (h1:ws=[]->Q (.ref t) s) (h2:ws≠[]->Q (.ref s.heap.objs.size) { s with heap:=s.heap.push { cls:=.type "tuple",data:=.seq (vs++ws).toArray } })
  (hsz:vs.length+ws.length<=sizeLine):wpAny (model prog w) A (binaryOp .Add (.ref t) (.ref b)) Q E s:=by
 obtain⟨⟨cls,dd,data,sl⟩,ho,hc,n,hd⟩:=id ht;obtain⟨⟨cls2,dd2,data2,sl2⟩,ho2,hc2,n2,hd2⟩:=id hb;simp only at hc hd hc2 hd2;subst hc hd hc2 hd2;have e:vs.toArray++ws.toArray=(vs++ws).toArray:=by simp
 by_cases hw:ws=[]
 ·exact concat_meets ⟨_,ho,rfl⟩ ⟨_,ho2,rfl⟩ noFill_tuple_add seq_tuple_add PySem.F.slot_tuple_add PySem.F.entry_tuple_add (PySem.F.args_tuple_add_2 _ _)
   (tuple_addW1 t b vs.toArray ws.toArray n n2 dd dd2 sl sl2 (by simpa using hv) (by simp[hw])) ⟨ho,ho2,h1 hw⟩
 ·refine concat_meets ⟨_,ho,rfl⟩ ⟨_,ho2,rfl⟩ noFill_tuple_add seq_tuple_add PySem.F.slot_tuple_add PySem.F.entry_tuple_add (PySem.F.args_tuple_add_2 _ _)
   (tuple_addW2 t b vs.toArray ws.toArray n n2 dd dd2 sl sl2 (by simpa using hv) (by simpa using hw) (by rw[List.size_toArray,List.size_toArray];exact hsz)) ⟨ho,ho2,?_⟩
  rw[e];exact h2 hw
noncomputable def sIx(n d:Nat):Option Int->Nat
 |none=>d
 |some v=>if v<0 then(v+(n:Int)).toNat else min v.toNat n
theorem yu(n d:Nat)(hd:d<=n)(o:Option Int):sIx n d o<=n:=by
 cases o with
 |none=>exact hd
 |some v=>
  show(if v<0 then(v+(n:Int)).toNat else min v.toNat n)<=n;by_cases hv:v<0
  ·rw[if_pos hv];lia
  ·rw[if_neg hv];exact Nat.min_le_right _ _
theorem qZ(v:Int)(n d:Nat):(if v<0 then max (v+(n:Int)) 0 else min v (n:Int))=((sIx n d (some v):Nat):Int):=by
 show(if v<0 then max (v+(n:Int)) 0 else min v (n:Int))=(((if v<0 then(v+(n:Int)).toNat else min v.toNat n):Nat):Int);by_cases hv:v<0
 ·simp only[if_pos hv];lia
 ·simp only[if_neg hv];lia
theorem qg(lo hi:Option Int)(n:Nat):Builtin.Slice.sliceAdjust lo hi 1 (n:Int)=(((sIx n 0 lo:Nat):Int),((sIx n n hi:Nat):Int)):=by
 have h1:¬((1:Int)<0):=by lia
 unfold Builtin.Slice.sliceAdjust;simp only[h1,if_false];refine Prod.ext ?_ ?_
 ·cases lo with
  |none=>rfl
  |some v=>exact qZ v n 0
 ·cases hi with
  |none=>rfl
  |some v=>exact qZ v n n
theorem pG(i j:Nat):Builtin.Slice.slicePlaces (i:Int) (j:Int) 1=j-i:=by
 unfold Builtin.Slice.slicePlaces;have h1:(1:Int)>0:=by lia
 simp only[h1,if_true,Int.ediv_one];split<;>lia
theorem jT{v:Value}{o:Option Int}{Q:Option Int->Shared->Prop}(p:IsPart v o)(h:Q o s):wpAny (model prog w) A (Builtin.Slice.slicePartIndex v) Q E s:=by
 cases p with
 |none=>exact slicePart_none h
 |int i t=>exact slicePart_int h
theorem eW{sl:Addr}{vl vu:Value}{lo hi:Option Int}{n:Nat}{Q:Int×Int×Nat->Shared->Prop}(hs:s.heap.IsSliceOf sl vl vu .none)(pl:IsPart vl lo)(pu:IsPart vu hi)
  (h:Q (((sIx n 0 lo:Nat):Int),1,sIx n n hi-sIx n 0 lo) s):wpAny (model prog w) A (Builtin.Slice.sliceApplied (.ref sl) (pure (n:Int))) Q E s:=by
 obtain⟨os,hos,hcs,hds⟩:=id hs;unfold Builtin.Slice.sliceApplied Builtin.Slice.sliceFields;refine wpAny_bind (wpAny_bind (wpAny_field hos hds (x:=vl) rfl (wpAny_bind (wpAny_field hos hds (x:=vu) rfl (wpAny_bind (wpAny_field hos hds (x:=.none) rfl (wpAny_pure ?_)))))));refine wpAny_bind (slicePart_none ?_);show wpAny _ _ (if((1:Int)==0)=true then _ else _) _ _ s;rw[if_neg (by decide)];refine wpAny_bind (jT pl (wpAny_bind (jT pu (wpAny_bind (wpAny_pure ?_)))));show wpAny _ _ (match Builtin.Slice.sliceAdjust lo hi 1 (n:Int)with|(lo,hi)=>pure (lo,(1:Int),Builtin.Slice.slicePlaces lo hi 1)) _ _ s
 rw[qg lo hi n];show wpAny _ _ (pure (((sIx n 0 lo:Nat):Int),(1:Int),Builtin.Slice.slicePlaces ((sIx n 0 lo:Nat):Int) ((sIx n n hi:Nat):Int) 1)) _ _ s;rw[pG];exact wpAny_pure h
theorem t7(xs:Array Value)(i k:Nat):((List.range k).filterMap fun(m:Nat)=>xs[((i:Int)+(m:Int)*1).toNat]?).toArray=((xs.toList.drop i).take k).toArray:=by
 have e:(fun(m:Nat)=>xs[((i:Int)+(m:Int)*1).toNat]?)=fun m=>xs[i+m]?:=by
  funext m;have:((i:Int)+(m:Int)*1).toNat=i+m:=by lia
  rw[this]
 rw[e];have:=pick_run xs i k;rw[List.filterMap_map]at this;have e2:((fun x=>xs[x]?) ∘ fun x=>i+x)=fun m=>xs[i+m]?:=rfl
 rw[e2]at this;rw[this]
theorem iu{t sl:Addr}{items:Array Value}{vl vu:Value}{lo hi:Option Int}{Q:Value->Shared->Prop}(ht:IsTup s.heap t items)(hs:s.heap.IsSliceOf sl vl vu .none)(pl:IsPart vl lo)(pu:IsPart vu hi)
  (hw:¬(sIx items.size 0 lo=0/\sIx items.size items.size hi=items.size))
  (h:Q (.ref s.heap.objs.size) { s with heap:=s.heap.push { cls:=.type "tuple",data:=.seq ((items.toList.drop (sIx items.size 0 lo)).take (sIx items.size items.size hi-sIx items.size 0 lo)).toArray } })
  (hsz:items.size<=sizeLine):wpAny (model prog w) A (getItem (.ref t) (.ref sl)) Q E s:=by
 have htake:sizeOk (.seq ((items.toList.drop (sIx items.size 0 lo)).take (sIx items.size items.size hi-sIx items.size 0 lo)).toArray):=by
  show((items.toList.drop (sIx items.size 0 lo)).take (sIx items.size items.size hi-sIx items.size 0 lo)).toArray.size<=sizeLine;rw[List.size_toArray,List.length_take,List.length_drop,Array.length_toList]
  lia
 have hj:sIx items.size items.size hi<=items.size:=yu _ _ (Nat.le_refl _) hi;obtain⟨os,hos,hcs,hds⟩:=id hs;have hTs:s.TypeIs (.ref sl) "slice":=⟨os,hos,hcs⟩;unfold getItem
 try with_reducible refine wpAny_holding ?_
 first|refine wpAny_bind (wpAny_pure ?_)|skip
 refine wpAny_bind (wpAny_sequenceKey ht.typeIs (by decide) ?_);refine wpAny_bind (wpAny_callSpecial?_slot (name:=Str.ofString "__getitem__") ht.typeIs PyProof.Rows.slot_tuple_getitem
  (wpAny_call_entry PyProof.Rows.slot_tuple_getitem ht.typeIs entry_tuple_getitem ?_ (args_tuple_getitem _ _)))
 show wpAny _ _ (Builtin.Tuple.tupleItemsOf (.ref t) >>= _) _ _ s;refine wpAny_bind (tupleItemsOf_ ht ?_);refine wpAny_bind (wpAny_typeOf hTs ?_);rw[if_pos (by decide)];refine wpAny_bind (eW hs pl pu ?_);have hno:¬((((sIx items.size 0 lo:Nat):Int)==0&&(1:Int)==1&&(sIx items.size items.size hi-sIx items.size 0 lo)==items.size)=true):=by
  intro q;rw[Bool.and_eq_true,Bool.and_eq_true]at q;have q1:((sIx items.size 0 lo:Nat):Int)=0:=eq_of_beq q.1.1;have q2:sIx items.size items.size hi-sIx items.size 0 lo=items.size:=eq_of_beq q.2;exact hw ⟨by lia,by lia⟩
 show wpAny _ _ (if(((sIx items.size 0 lo:Nat):Int)==0&&(1:Int)==1&&(sIx items.size items.size hi-sIx items.size 0 lo)==items.size)=true then _ else _) _ _ s;rw[if_neg hno,t7]
 first
  |exact wpAny_bind (m:=Builtin.Tuple.tupleExact _) (wpAny_newObj_type (wpAny_pure ⟨_,rfl,wpAny_pure h⟩) htake)
  |exact wpAny_bind (m:=Builtin.Tuple.tupleExact _) (wpAny_newObj_type (wpAny_bind (wpAny_pure (wpAny_pure ⟨_,rfl,wpAny_pure h⟩))) htake)
  |exact wpAny_bind (wpAny_bind (m:=Builtin.Tuple.tupleExact _) (wpAny_newObj_type (wpAny_pure (wpAny_pure ⟨_,rfl,wpAny_pure h⟩)) htake))
  |exact wpAny_bind (wpAny_bind (m:=Builtin.Tuple.tupleExact _) (wpAny_newObj_type (wpAny_pure ⟨_,rfl,wpAny_pure h⟩) htake))
end
end HT
namespace L2
open PySem PySem.Spec PyProof.Rows
abbrev TO:=St->Hp->(Option Int->Hp->Prop)->Prop
def PO(X:Cx)(e:Option Expr)(t:TO):Prop:=
 ∀(pins:List (Addr×Obj)) (s:Shared) (σ:St) (H:Hp) (Q:Option Int->Hp->Prop),Inv X pins σ H s->t σ H Q ->
  wpAny (model X.prog X.w) X.A (evalPart e X.env) (fun u s'=>∃o H',Inv X pins σ H' s'/\IsPart u o/\Q o H') X.xe s
def AK(t:TE):TO:=fun σ H Q=>t σ H fun x H1=>∃i,x=.int i/\Q (some i) H1
section
variable{X:Cx}{e:Expr}{te:TE}{lo hi:Option Expr}{tl th:TO}{pos p2:Pos}
theorem wf(h:PE X e te):PO X (some e) (AK te):=by
 intro pins s σ H Q I hw;rw[evalPart_some];refine bT (h pins s σ H _ I hw) fun u s1 ⟨x,H1,I1,r1,q1⟩=>?_
 obtain⟨i,rfl,q⟩:=q1;obtain⟨t,rfl⟩:=r1;exact⟨some i,H1,I1,.int i t,q⟩
def SlR(X:Cx)(r:V->Option Int->Option Int->Hp->VK->Prop):Prop:=
 ∀(pins:List (Addr×Obj)) (s:Shared) (σ:St) (H:Hp) (x:V) (v vl vu:Value) (lo hi:Option Int) (sl:Addr) (Q:VK),Inv X pins σ H s->RelV x v->s.heap.IsSliceOf sl vl vu .none->IsPart vl lo->IsPart vu hi->r x lo hi H Q ->
  ∃T id,typeLookup (.type T) "__getitem__" = pure (some (.builtin id))/\s.TypeIs v T/\wpAny (model X.prog X.w) X.A (getItem v (.ref sl)) (EP X pins σ Q) X.xe s
theorem SlR.or{r r':V->Option Int->Option Int->Hp->VK->Prop}(h:SlR X r)(h':SlR X r'):SlR X (fun x lo hi H Q=>r x lo hi H Q\/r' x lo hi H Q):=by
 intro pins s σ H x v vl vu lo hi sl Q I rx hs pl pu q;rcases q with q|q
 ·exact h pins s σ H x v vl vu lo hi sl Q I rx hs pl pu q
 ·exact h' pins s σ H x v vl vu lo hi sl Q I rx hs pl pu q
def EH(r:V->Option Int->Option Int->Hp->VK->Prop)(te:TE)(tl th:TO):TE:=fun σ H Q=>te σ H fun x H1=>tl σ H1 fun l H2=>th σ H2 fun u H3=>r x l u H3 Q
theorem t8{r:V->Option Int->Option Int->Hp->VK->Prop}(hr:SlR X r)(he:PE X e te)(hl:PO X lo tl)(hu:PO X hi th):PE X (.Subscript e (.Slice lo hi none p2) pos) (EH r te tl th):=by
 intro pins s σ H Q I h;refine Subscript_ (bT (he pins s σ H _ I h) fun v s1 ⟨x,H1,I1,r1,q1⟩=>?_)
 refine wpAny_Slice (bT (hl pins s1 σ H1 _ I1 q1) fun vl s2 ⟨l,H2,I2,pl,q2⟩=>bT (hu pins s2 σ H2 _ I2 q2) fun vu s3 ⟨u,H3,I3,pu,q3⟩=>?_)
 rw[evalPart_none];refine wpAny_pure ?_;have I4:Inv X pins σ H3 { s3 with heap:=s3.heap.push { cls:=.type "slice",data:=.fields #[vl,vu,.none] } }:=I3.kept (t':=s3.toks) fun b ob q=>Heap.get?_push_of_some _ q
 obtain⟨T,id,hT,ht,hg⟩:=hr pins { s3 with heap:=s3.heap.push { cls:=.type "slice",data:=.fields #[vl,vu,.none] } } σ H3 x v vl vu l u s3.heap.objs.size Q I4 r1 (Heap.IsSliceOf.new ..) pl pu q3;show wpAny (model X.prog X.w) X.A (subscriptTail e (.Slice lo hi none p2) v (.ref s3.heap.objs.size)) (EP X pins σ Q) X.xe { s3 with heap:=s3.heap.push { cls:=.type "slice",data:=.fields #[vl,vu,.none] } };exact tail_any (ops:=[.ref s3.heap.objs.size,v]) ht hT hg (by with_unfolding_all rfl)
noncomputable def lw(xs:List V)(lo hi:Option Int):List V:=(xs.drop (HT.sIx xs.length 0 lo)).take (HT.sIx xs.length xs.length hi-HT.sIx xs.length 0 lo)
theorem jb(xs:List V)(lo hi:Option Int):(lw xs lo hi).length<=xs.length:=by
 unfold lw;rw[List.length_take,List.length_drop]
 lia
def Da(K:PySem.W.Frag):V->Option Int->Option Int->Hp->VK->Prop:=fun x lo hi H Q=>∃a xs,x=.ref a/\SqT K H a xs /\
 ¬(HT.sIx xs.length 0 lo=0/\HT.sIx xs.length xs.length hi=xs.length)/\∀p,H p=none->Q (.ref p) (upd H p (.tup (lw xs lo hi)))
theorem sl_tup:SlR X (Da X.K):=by
 intro pins s σ H x v vl vu lo hi sl Q I rx hs pl pu h;obtain⟨a,xs,rfl,hx,hw,q⟩:=h;cases rx;obtain⟨its,r,ht,hz⟩:=I.tuple hx;have hlen:its.toArray.size=xs.length:=by rw[List.size_toArray];exact r.length.symm
 refine⟨"tuple",_,PyProof.Rows.slot_tuple_getitem.lookup,ht.typeIs,?_⟩;refine HT.iu ht hs pl pu (by rw[hlen];exact hw) ?_ (by rw[hlen];exact hz);rw[hlen];refine⟨.ref s.heap.objs.size,_,I.laid (t':=s.toks) (o:=.tup (lw xs lo hi)) (fun b ob q=>Heap.get?_push_of_some _ q) (Nat.le_refl _) ?_,rfl,q _ (I.hok.fresh (Nat.le_refl _))⟩;exact⟨Nat.le_trans (jb xs lo hi) hz,_,(r.drop (HT.sIx xs.length 0 lo)).take (HT.sIx xs.length xs.length hi-HT.sIx xs.length 0 lo),IsTup.new _ _,NoDi.new _ _⟩
def A6(K:PySem.W.Frag):R2:=fun x y H Q=>∃a b xs ys,x=.ref a/\y=.ref b/\SqT K H a xs/\SqT K H b ys/\xs≠[]/\xs.length+ys.length<=sizeLine /\
 (ys=[]->Q (.ref a) H)/\(ys≠[]->∀p,H p=none->Q (.ref p) (upd H p (.tup (xs++ys))))
theorem Vals.nil_iff{xs:List V}{us:List Value}(r:Vals xs us):us=[]↔xs=[]:=by
 cases r with
 |nil=>simp
 |cons _ _=>simp
theorem ww:OpR X (binaryOp .Add) (A6 X.K):=by
 intro pins s σ H x y v u Q I rx ry h;obtain⟨a,b,xs,ys,rfl,rfl,ha,hb,hx,hz,q1,q2⟩:=h;cases rx;cases ry;obtain⟨its,r1,p1,_⟩:=I.tuple ha;obtain⟨its2,r2,p2,_⟩:=I.tuple hb;refine HT.xo p1 p2 (fun z=>hx (r1.nil_iff.mp z)) (fun z=>⟨.ref a,H,I,rfl,q1 (r2.nil_iff.mp z)⟩) (fun z=>?_) (by rw[<-r1.length,<-r2.length];exact hz)
 refine⟨.ref s.heap.objs.size,_,I.laid (t':=s.toks) (o:=.tup (xs++ys)) (fun b ob q=>Heap.get?_push_of_some _ q) (Nat.le_refl _) ?_,rfl,q2 (fun w=>z (r2.nil_iff.mpr w)) _ (I.hok.fresh (Nat.le_refl _))⟩
 exact⟨by rw[List.length_append];exact hz,_,r1.append r2,IsTup.new _ _,NoDi.new _ _⟩
end
noncomputable def uG(n:Nat)(i:Int):Option Nat:=if 0<=i then(if i<n then some i.toNat else none)else if -(n:Int)<=i then some (i+n).toNat else none
noncomputable def h8{α:Type}(xs:List α)(i:Int):Option α:=(uG xs.length i).bind fun j=>xs[j]?
theorem qJ{n:Nat}{i:Int}{j:Nat}(h:uG n i=some j):seqIndex? i n=some j/\j<n /\ -(n:Int)<=i/\i<n:=by
 unfold uG at h;by_cases h0:0<=i
 ·rw[if_pos h0]at h
  by_cases h1:i<n
  ·rw[if_pos h1]at h
   have e:i.toNat=j:=Option.some.inj h;exact⟨by rw[seqIndex_of h0 h1,e],by lia,by lia,h1⟩
  ·rw[if_neg h1]at h;cases h
 ·rw[if_neg h0]at h
  by_cases h1:-(n:Int)<=i
  ·rw[if_pos h1]at h
   have e:(i+n).toNat=j:=Option.some.inj h;exact⟨by rw[seqIndex_neg (by lia) h1,e],by lia,h1,by lia⟩
  ·rw[if_neg h1]at h;cases h
theorem rj{α:Type}{xs:List α}{i:Int}{v:α}(h:h8 xs i=some v):∃j,seqIndex? i xs.length=some j/\xs[j]? = some v/\j<xs.length /\ -(xs.length:Int)<=i/\i<xs.length:=by
 unfold h8 at h;cases e:uG xs.length i with
 |none=>rw[e]at h;cases h
 |some j=>
  rw[e]at h;obtain⟨h1,h2,h3,h4⟩:=qJ e;exact⟨j,h1,h,h2,h3,h4⟩
def rn(b:Expr):Prop:=∀o i,subscripted b false o i=operate [o,i] (getItem o i)
def IxR(X:Cx)(r:R2):Prop:=
 ∀(value slice:Expr) (pins:List (Addr×Obj)) (s:Shared) (σ:St) (H:Hp) (x y:V) (v u:Value) (Q:VK),Inv X pins σ H s->RelV x v->RelV y u->r x y H Q ->
  subscripted slice false v u=operate [v,u] (getItem v u)->wpAny (model X.prog X.w) X.A (subscriptTail value slice v u) (EP X pins σ Q) X.xe s
def DY(X:Cx)(id:String)(r:V->List V->Hp->VK->Prop):Prop:=
 ∀(pins:List (Addr×Obj)) (s:Shared) (σ:St) (H:Hp) (x:V) (xs:List V) (v:Value) (us:List Value) (Q:VK),Inv X pins σ H s->RelV x v->Vals xs us->r x xs H Q ->
  wpAny (model X.prog X.w) X.A (call (.builtin id) (v::us)) (EP X pins σ Q) X.xe s
section
variable{X:Cx}{a b:Expr}{ta tb:TE}{pos:Pos}
theorem IxR.or{r r':R2}(h:IxR X r)(h':IxR X r'):IxR X (fun x y H Q=>r x y H Q\/r' x y H Q):=by
 intro value slice pins s σ H x y v u Q I rx ry q hs;rcases q with q|q
 ·exact h value slice pins s σ H x y v u Q I rx ry q hs
 ·exact h' value slice pins s σ H x y v u Q I rx ry q hs
theorem Bb{r:R2}(hr:IxR X r)(ha:PE X a ta)(hb:PE X b tb)(hs:rn b):PE X (.Subscript a b pos) (AL r ta tb):=by
 intro pins s σ H Q I h;exact Subscript_ (Aa ha hb I h fun v u s2 x y H2 I2 rx ry q=>hr a b pins s2 σ H2 x y v u Q I2 rx ry q (hs _ _))
def Dd(K:PySem.W.Frag):R2:=fun x y H Q=>∃p xs i v,x=.ref p/\y=.int i/\SqL K H p xs/\h8 xs i=some v/\Q v H
def Dc(K:PySem.W.Frag):R2:=fun x y H Q=>∃p xs i v,x=.ref p/\y=.int i/\SqT K H p xs/\h8 xs i=some v/\Q v H
theorem ix_list:IxR X (Dd X.K):=by
 intro value slice pins s σ H x y v u Q I rx ry h hs;obtain⟨p,xs,i,z,rfl,rfl,hq,he,q⟩:=h;cases rx;obtain⟨t,rfl⟩:=ry;obtain⟨its,r,pl,hz⟩:=I.list hq;obtain⟨j,h1,h2,h3,h4,h5⟩:=rj he;obtain⟨w,ew,rw'⟩:=r.get h2;have hl:=r.length;have hn:=mT;have fin:EP X pins σ Q w s:=⟨z,H,I,rw',q⟩;by_cases h0:0<=i
 ·have hj:i.toNat=j:=by
   rw[seqIndex_of h0 h5]at h1;exact Option.some.inj h1
  exact item_listR pl.isList h0 (by lia) (by rw[hj];simpa using ew) fin hs
 ·have hj:(i+(its.toArray.size:Int)).toNat=j:=by
   rw[seqIndex_neg (by lia) h4]at h1;rw[List.size_toArray,<-hl];exact Option.some.inj h1
  exact subscriptTail_builtinR (x:=w) pl.isList.typeIs slot_list_getitem.lookup
   (wpAny_getItem_list_neg (Q:=fun r s'=>r=w/\EP X pins σ Q r s') pl.isList (by lia) (by rw[List.size_toArray]<;>lia) (by lia) (by rw[hj];simpa using ew) ⟨rfl,fin⟩) hs
theorem zF:IxR X (Dc X.K):=by
 intro value slice pins s σ H x y v u Q I rx ry h hs;obtain⟨p,xs,i,z,rfl,rfl,hq,he,q⟩:=h;cases rx;obtain⟨t,rfl⟩:=ry;obtain⟨its,r,pl,hz⟩:=I.tuple hq;obtain⟨j,h1,h2,h3,h4,h5⟩:=rj he;obtain⟨w,ew,rw'⟩:=r.get h2;have hl:=r.length;have hn:=mT;have fin:EP X pins σ Q w s:=⟨z,H,I,rw',q⟩;exact subscriptTail_builtinR (x:=w) pl.typeIs slot_tuple_getitem.lookup
  (getItem_tuple (j:=j) (Q:=fun r s'=>r=w/\EP X pins σ Q r s') pl (by lia) (by lia) (by rw[List.size_toArray,<-hl];exact h1) (by simpa using ew) ⟨rfl,fin⟩) hs
theorem pN(its:List Value)(n j:Nat)(u:Value):Obj.mapSeq (·.setIfInBounds j u) { cls:=.type "list",data:=.seq its.toArray n }={ cls:=.type "list",data:=.seq (its.set j u).toArray n }:=by
 simp[Obj.mapSeq]
theorem Inv.lst{pins:List (Addr×Obj)}{σ:St}{H:Hp}{s:Shared}{p:Addr}{xs:List V}(I:Inv X pins σ H s)(h:H p=some (.lst xs)):
  ∃(its:List Value) (n:Nat),Vals xs its/\s.heap.get? p=some { cls:=.type "list",data:=.seq its.toArray n }/\xs.length<=sizeLine:=by
 obtain⟨z,its,n,r,e⟩:=I.hok p _ h;exact⟨its,n,r,e,z⟩
theorem Inv.lstUpd{pins:List (Addr×Obj)}{σ:St}{H:Hp}{s:Shared}{p:Addr}{xs ys:List V}{its its':List Value}{n n':Nat}{f:Obj->Obj}(I:Inv X pins σ H s)(h:H p=some (.lst xs))
  (ho:s.heap.get? p=some { cls:=.type "list",data:=.seq its.toArray n }) (hf:f { cls:=.type "list",data:=.seq its.toArray n }={ cls:=.type "list",data:=.seq its'.toArray n' }) (r:Vals ys its') (hz:ys.length<=sizeLine) (t:Nat) :
  Inv X pins σ (upd H p (.lst ys)) { s with heap:=s.heap.update p f,toks:=t }:=by
 have e:(s.heap.update p f).get? p=some { cls:=.type "list",data:=.seq its'.toArray n' }:=by
  rw[Heap.get?_update_self f ho (by rw[hf]<;>rfl),hf]
 refine I.write (x:=p) (e:=p) (by rw[h];trivial) (.inl rfl) (fun b u hb q=>(Heap.get?_update_other _ _ (Ne.symm hb)).trans q) ⟨_,e⟩ ?_
 exact⟨hz,its',n',r,e⟩
def A5:V->V->V->Hp->(Hp->Prop)->Prop:=fun o i v H Q=>∃p xs k j,o=.ref p/\i=.int k/\H p=some (.lst xs)/\uG xs.length k=some j/\Q (upd H p (.lst (xs.set j v)))
theorem tP:B5 X A5:=by
 intro pins s σ H o i v ov iv u Q I ro ri rv h;obtain⟨p,xs,k,j,rfl,rfl,hp,hj,q⟩:=h;cases ro;obtain⟨t,rfl⟩:=ri;obtain⟨its,n,r,ho,hz⟩:=I.lst hp;obtain⟨h1,h2,h3,h4⟩:=qJ hj;have hl:=r.length;have hn:=mT;have I':Inv X pins σ (upd H p (.lst (xs.set j v))) { s with heap:=s.heap.update p (Obj.mapSeq (·.setIfInBounds j u)) }:=
  I.lstUpd hp ho (pN its n j u) (r.set rv j) (by rw[List.length_set];exact hz) s.toks
 by_cases h0:0<=k
 ·have hk:k.toNat=j:=by
   rw[seqIndex_of h0 h4]at h1;exact Option.some.inj h1
  exact PySem.W.ki_setAt ho h0 (by lia) (by rw[List.size_toArray,<-hl];exact h4) (by rw[hk];exact⟨_,I',q⟩)
 ·have hk:(k+(its.toArray.size:Int)).toNat=j:=by
   rw[seqIndex_neg (by lia) h3]at h1;rw[List.size_toArray,<-hl];exact Option.some.inj h1
  exact PySem.W.ki_setBack ho (by lia) (by rw[List.size_toArray,<-hl];exact h3) (by lia) (by rw[hk];exact⟨_,I',q⟩)
theorem mG(lo hi:Option Int)(n:Nat):(sliceBounds lo hi none n).1=((HT.sIx n 0 lo:Nat):Int)/\(sliceBounds lo hi none n).2.1=((HT.sIx n n hi:Nat):Int)/\(sliceBounds lo hi none n).2.2=1:=by
 refine⟨?_,?_,rfl⟩
 ·cases lo with
  |none=>simp[sliceBounds,HT.sIx]
  |some i=>
   simp only[sliceBounds,HT.sIx,Option.getD_none,show(1:Int)>0 by decide,if_true];by_cases h:i<0
   ·simp only[h,if_true]<;>lia
   ·simp only[h,if_false]<;>lia
 ·cases hi with
  |none=>simp[sliceBounds,HT.sIx]
  |some i=>
   simp only[sliceBounds,HT.sIx,Option.getD_none,show(1:Int)>0 by decide,if_true];by_cases h:i<0
   ·simp only[h,if_true]<;>lia
   ·simp only[h,if_false]<;>lia
theorem la(its:List Value)(lo hi:Option Int):slicePick its.toArray lo hi none=((its.drop (HT.sIx its.length 0 lo)).take (HT.sIx its.length its.length hi-HT.sIx its.length 0 lo)).toArray:=by
 obtain⟨h1,h2,h3⟩:=mG lo hi its.toArray.size;unfold slicePick;rw[h1,h2,h3];simp only[sliceRange_one,pick_run,List.size_toArray]<;>rfl
def Db(K:PySem.W.Frag):V->Option Int->Option Int->Hp->VK->Prop:=fun x lo hi H Q=>∃a xs,x=.ref a/\SqL K H a xs/\∀p,H p=none->Q (.ref p) (upd H p (.lst (lw xs lo hi)))
theorem sl_list:SlR X (Db X.K):=by
 intro pins s σ H x v vl vu lo hi sl Q I rx hs pl pu h;obtain⟨a,xs,rfl,hx,q⟩:=h;cases rx;obtain⟨its,r,ht,hz⟩:=I.list hx;have hlen:=r.length;refine⟨"list",_,slot_list_getitem.lookup,ht.isList.typeIs,?_⟩;refine wpAny_getItem_list_slice ht.isList hs pl pu .none (by simp) ?_ (by rw[List.size_toArray]<;>lia);rw[la,<-hlen];refine⟨.ref s.heap.objs.size,_,I.laid (t':=s.toks) (o:=.lst (lw xs lo hi)) (fun b ob q=>Heap.get?_push_of_some _ q) (Nat.le_refl _) ?_,rfl,q _ (I.hok.fresh (Nat.le_refl _))⟩;exact⟨Nat.le_trans (jb xs lo hi) hz,_,0,(r.drop (HT.sIx xs.length 0 lo)).take (HT.sIx xs.length xs.length hi-HT.sIx xs.length 0 lo),Heap.get?_push_size _ rfl⟩
noncomputable def gi:V->Bool
 |.non=>true
 |.bl _=>true
 |.int _=>true
 |.str _=>true
 |_=>false
noncomputable def vD:V->V->Bool
 |.non,.non=>true
 |.bl a,.bl b=>a==b
 |.bl a,.int b=>(if a then 1 else 0)==b
 |.int a,.bl b=>a==(if b then 1 else 0)
 |.int a,.int b=>a==b
 |.str a,.str b=>a==b
 |_,_=>false
theorem zT{A:Around}{s:Shared}{y x:V}{u v:Value}(ry:RelV y u)(rx:RelV x v)(fy:gi y=true)(fx:gi x=true):SeqAt.EqAt A s u v (vD y x):=by
 cases y with
 |non=>
  cases ry;cases x with
  |non=>cases rx;exact SeqAt.EqAt.same _
  |bl b=>cases rx;exact SeqAt.EqAt.none_bool b
  |int b=>obtain⟨t,rfl⟩:=rx;exact SeqAt.EqAt.none_int b t
  |str b=>obtain⟨t,rfl⟩:=rx;exact SeqAt.EqAt.none_str b t
  |_=>exact absurd (show false=true from fx) Bool.false_ne_true
 |bl a=>
  cases ry;cases x with
  |non=>cases rx;exact SeqAt.EqAt.bool_none a
  |bl b=>cases rx;exact SeqAt.EqAt.bool_bool a b
  |int b=>obtain⟨t,rfl⟩:=rx;exact SeqAt.EqAt.bool_int a b t
  |str b=>obtain⟨t,rfl⟩:=rx;exact SeqAt.EqAt.bool_str a b t
  |_=>exact absurd (show false=true from fx) Bool.false_ne_true
 |int a=>
  obtain⟨t',rfl⟩:=ry;cases x with
  |non=>cases rx;exact SeqAt.EqAt.int_none a t'
  |bl b=>cases rx;exact SeqAt.EqAt.int_bool a t' b
  |int b=>obtain⟨t,rfl⟩:=rx;exact SeqAt.EqAt.int_int a t' b t
  |str b=>obtain⟨t,rfl⟩:=rx;exact SeqAt.EqAt.int_str a t' b t
  |_=>exact absurd (show false=true from fx) Bool.false_ne_true
 |str a=>
  obtain⟨t',rfl⟩:=ry;cases x with
  |non=>cases rx;exact SeqAt.EqAt.str_none a t'
  |bl b=>cases rx;exact SeqAt.EqAt.str_bool a t' b
  |int b=>obtain⟨t,rfl⟩:=rx;exact SeqAt.EqAt.str_int a t' b t
  |str b=>obtain⟨t,rfl⟩:=rx;exact SeqAt.EqAt.str_str a t' b t
  |_=>exact absurd (show false=true from fx) Bool.false_ne_true
 |_=>exact absurd (show false=true from fy) Bool.false_ne_true
noncomputable def xf(x:V)(u:Value):Bool:=match u with
 |.none=>vD .non x
 |.bool b=>vD (.bl b) x
 |.int i _=>vD (.int i) x
 |.str z _=>vD (.str z) x
 |_=>false
theorem uU{x y:V}{u:Value}(r:RelV y u)(f:gi y=true):xf x u=vD y x:=by
 cases y with
 |non=>cases r;rfl
 |bl b=>cases r;rfl
 |int i=>obtain⟨t,rfl⟩:=r;rfl
 |str z=>obtain⟨t,rfl⟩:=r;rfl
 |_=>exact absurd (show false=true from f) Bool.false_ne_true
theorem nl{x:V}:∀{xs:List V} {us:List Value},Vals xs us->xs.all gi=true->us.any (xf x)=xs.any fun y=>vD y x
 |_,_,.nil,_=>rfl
 |y::xs,u::us,.cons r t,f=>by
  rw[List.all_cons,Bool.and_eq_true]at f;rw[List.any_cons,List.any_cons,uU r f.1,nl t f.2]
theorem j9{A:Around}{s:Shared}{x:V}{v:Value}(rx:RelV x v)(fx:gi x=true):∀{xs:List V} {us:List Value},Vals xs us->xs.all gi=true->∀u∈us,SeqAt.EqAt A s u v (xf x u)
 |_,_,.nil,_=>fun u hu=>by cases hu
 |y::xs,u::us,.cons r t,f=>fun u' hu=>by
  rw[List.all_cons,Bool.and_eq_true]at f;rcases List.mem_cons.mp hu with rfl|hu
  ·rw[uU r f.1];exact zT r rx f.1 fx
  ·exact j9 rx fx t f.2 u' hu
noncomputable def Cn(x:V)(xs:List V):Bool:=xs.any fun y=>vD y x
def De(K:PySem.W.Frag)(neg:Bool):R2:=fun x y H Q=>∃p xs,y=.ref p/\(SqL K H p xs\/SqT K H p xs)/\gi x=true/\xs.all gi=true/\Q (.bl (if neg then !Cn x xs else Cn x xs)) H
theorem rW:OpR X (compareOp .In) (De X.K false):=by
 intro pins s σ H x y v u Q I rx ry h;obtain⟨p,xs,rfl,hq,fx,fs,q⟩:=h;cases ry;rcases hq with hq|hq
 ·obtain⟨its,r,pl,hz⟩:=I.list hq
  refine SeqAt.in_listAt (xf x) pl.isList (fun w hw=>j9 rx fx r fs w (by simpa using hw)) ⟨.bl _,H,I,rfl,?_⟩
  rw[show its.toArray.any (xf x)=its.any (xf x) by simp,nl r fs];exact q
 ·obtain⟨its,r,pl,hz⟩:=I.tuple hq
  refine SeqAt.in_tupleAt (xf x) pl (fun w hw=>j9 rx fx r fs w (by simpa using hw)) ⟨.bl _,H,I,rfl,?_⟩
  rw[show its.toArray.any (xf x)=its.any (xf x) by simp,nl r fs];exact q
theorem lA:CallR X (.type "tuple") (fun xs H Q=>∃p ys,xs=[.ref p]/\((SqL X.K H p ys/\∀l,H l=none->Q (.ref l) (upd H l (.tup ys)))\/(SqT X.K H p ys/\Q (.ref p) H))):=by
 intro pins s σ H xs us Q I r h;obtain⟨p,ys,rfl,h⟩:=h;obtain⟨u,rfl,rx⟩:=nD r;cases rx;rcases h with⟨hq,q⟩|⟨hq,q⟩
 ·obtain⟨its,r',pl,hz⟩:=I.list hq
  have hlen:=r'.length;refine call_tuple_list pl.isList (fun h' kp=>?_) (by simp only[List.size_toArray]<;>lia);have I1:Inv X pins σ H { s with heap:=h' }:=I.kept (t':=s.toks) kp;have I2:Inv X pins σ (upd H h'.objs.size (.tup ys)) { s with heap:=h'.push { cls:=.type "tuple",data:=.seq its.toArray } }:=
   I1.laid (t':=s.toks) (fun b o e=>Heap.get?_push_of_some _ e) (Nat.le_refl _) (show ObjOk X.prog X.w _ _ _ (.tup ys)from ⟨hz,its,r',IsTup.new _ _,NoDi.new _ _⟩)
  exact⟨.ref h'.objs.size,_,I2,rfl,q _ (I1.hok.fresh (Nat.le_refl _))⟩
 ·obtain⟨its,r',pl,hz⟩:=I.tuple hq
  exact call_tuple_same pl ⟨.ref p,H,I,rfl,q⟩
def CA(K:PySem.W.Frag)(T:String)(x:V)(H:Hp):Prop:=match x with
 |.str _=>T = "str"
 |.int _=>T = "int"
 |.ref p=>(T = "list" /\ ∃xs,SqL K H p xs)\/(T = "tuple" /\ ∃o,K.lookup p=some o/\o.cls=.type "tuple" /\ o.dict=none) \/
   (T = "dict" /\ ((∃kvs,H p=some (.dK kvs))\/∃kvs,H p=some (.dT kvs)))\/(T = "set" /\ ∃S n,H p=some (.set S n))
 |_=>False
theorem sZ{pins:List (Addr×Obj)}{σ:St}{H:Hp}{s:Shared}{T:String}{x:V}{v:Value}(I:Inv X pins σ H s)(r:RelV x v)(ty:CA X.K T x H):
  s.TypeIs v T/\∀a,v=.ref a->∃ob,s.heap.get? a=some ob/\ob.dict=none:=by
 cases x with
 |str z=>
  obtain⟨t,rfl⟩:=r;cases(show T = "str" from ty);exact⟨typeIs_str s z t,fun _ e=>nomatch e⟩
 |int i=>
  obtain⟨t,rfl⟩:=r;cases(show T = "int" from ty);exact⟨typeIs_int s i t,fun _ e=>nomatch e⟩
 |ref p=>
  cases r;rcases ty with⟨rfl,xs,hq⟩|⟨rfl,o,hk,hc,hd⟩|⟨rfl,hk⟩|⟨rfl,S,n,hk⟩
  ·obtain⟨its,_,pl,_⟩:=I.list hq
   refine⟨pl.isList.typeIs,fun a e=>?_⟩
   cases e;obtain⟨o,n,e,c,hd,_⟩:=pl;exact⟨o,e,hd⟩
  ·refine⟨⟨o,I.kIn p o hk,hc⟩,fun a e=>?_⟩
   cases e;exact⟨o,I.kIn _ o hk,hd⟩
  ·have z:∃o,s.heap.get? p=some o/\o.ExactDict:=by
    rcases hk with⟨kvs,hk⟩|⟨kvs,hk⟩
    ·obtain⟨_,_,_,_,o,_,_,e,ex,_⟩:=I.hok p _ hk
     exact⟨o,e,ex⟩
    ·obtain⟨_,_,_,_,o,_,_,e,ex,_⟩:=I.hok p _ hk
     exact⟨o,e,ex⟩
   obtain⟨o,e,ex⟩:=z;refine⟨⟨o,e,ex.1⟩,fun a e2=>?_⟩
   cases e2;exact⟨o,e,ex.2.1⟩
  ·obtain⟨o,_,_,_,e,ex,_⟩:=I.hok p _ hk
   refine⟨⟨o,e,ex.1⟩,fun a e2=>?_⟩
   cases e2;exact⟨o,e,ex.2.1⟩
 |_=>exact False.elim ty
def CT(K:PySem.W.Frag)(T:String)(r:V->List V->Hp->VK->Prop)(to:TE):TE:=fun σ H Q=>to σ H fun x H1=>CA K T x H1/\r x [] H1 Q
def EK(K:PySem.W.Frag)(T:String)(r:V->List V->Hp->VK->Prop)(to:TE)(t:TA):TE:=fun σ H Q=>to σ H fun x H1=>CA K T x H1/\t σ H1 fun xs H2=>r x xs H2 Q
variable{o e:Expr}{es:List Expr}{to:TE}{t:TA}{name:Str}{apos cpos:Pos}{T id:String}{r:V->List V->Hp->VK->Prop}
theorem yW(pa:PlainAttrs T)(slot:Slot T name id)(hty:typeOf (.builtin id)=pure (.type "method_descriptor"))(hm:DY X id r)(ho:PE X o to)
  (hbase:attributeBase o name X.env (eval o X.env)=eval o X.env:=by rfl) (hline:(apos.endLine==cpos.line)=true:=by rfl):PE X (.Call (.Attribute o name apos) [] [] cpos) (CT X.K T r to):=by
 intro pins s σ H Q I h;refine wpAny_Call_method0_late hbase hline (bT (ho pins s σ H _ I h) fun v s1 ⟨x,H1,I1,r1,ty,q1⟩=>?_)
 obtain⟨h1,h2⟩:=sZ I1 r1 ty;exact⟨T,id,pa,slot,hty,h1,h2,Calls.callWith_builtin rfl (PySem.evalArgs_none (hm pins s1 σ H1 x [] v [] Q I1 r1 .nil q1))⟩
theorem Bc(pa:PlainAttrs T)(slot:Slot T name id)(hty:typeOf (.builtin id)=pure (.type "method_descriptor"))(hm:DY X id r)(ho:PE X o to)(ha:PA X (e::es) t)
  (hbase:attributeBase o name X.env (eval o X.env)=eval o X.env:=by rfl)
  (hfew:((backTo cpos (starEach (e::es) X.env)).all (fun x=>!x.1)&&(backToKw cpos (keywordEach [] X.env)).all (fun x=>x.1.isSome)
   && decide ((e::es).length+([]:List Keyword).length+(if([]:List Keyword).isEmpty then 0 else 1)<30))=true:=by rfl)
  (hline:(apos.endLine==cpos.line)=true:=by rfl) (hs:starEach (e::es) X.env=(false,eval e X.env)::starEach es X.env:=by rfl) (hplain:(backTo cpos (starEach es X.env)).any (·.1)=false:=by rfl) :
  PE X (.Call (.Attribute o name apos) (e::es) [] cpos) (EK X.K T r to t):=by
 intro pins s σ H Q I h;refine wpAny_Call_method_late hbase hfew hline rfl (bT (ho pins s σ H _ I h) fun v s1 ⟨x,H1,I1,r1,ty,q1⟩=>?_)
 obtain⟨h1,h2⟩:=sZ I1 r1 ty;refine⟨T,id,pa,slot,hty,h1,h2,?_⟩;have hA:=ha cpos pins s1 σ H1 _ I1 q1;rw[hs]at hA ⊢;refine Calls.callWith_builtin (by show(false||(backTo cpos (starEach es X.env)).any (·.1))=false;rw[hplain]<;>rfl) (Calls.evalArgs_plain ?_);exact bT hA fun us s2 ⟨vs,H2,I2,r2,q2⟩=>hm pins s2 σ H2 x vs v us Q I2 r1 r2 q2
end
def E3(X:Cx)(id:String)(r:V->List V->Hp->VK->Prop):Prop:=
 ∀(pins:List (Addr×Obj)) (s:Shared) (σ:St) (H:Hp) (x:V) (xs:List V) (v:Value) (us:List Value) (Q:VK),Inv X pins σ H s->RelV x v->Vals xs us->r x xs H Q ->
  wpAny (model X.prog X.w) X.A (call (.builtin id) (v::us)) (EP X pins σ Q) X.xe s
theorem Vals.one:∀{x:V} {us:List Value},Vals [x] us->∃u,us=[u]/\RelV x u
 |_,_,h=>by
  cases h with
  |cons r t=>
   cases t;exact⟨_,rfl,r⟩
theorem Vals.rep{xs:List V}{us:List Value}(h:Vals xs us):∀k:Nat,Vals (List.replicate k xs).flatten (List.replicate k us).flatten
 | 0=>.nil
 |k+1=>by
  rw[List.replicate_succ,List.replicate_succ,List.flatten_cons,List.flatten_cons];exact Vals.append h (Vals.rep h k)
section
variable{X:Cx}{pins:List (Addr×Obj)}{σ:St}{H:Hp}{s:Shared}{l b:Addr}{xs ys zs:List V}
theorem Inv.lset{its its':List Value}{n:Nat}{f:Array Value->Array Value}{t':Nat}(I:Inv X pins σ H s)(hH:H l=some (.lst xs))
  (e:s.heap.get? l=some { cls:=.type "list",data:=.seq its.toArray n }) (hf:f its.toArray=its'.toArray) (hv:Vals ys its') (hz:ys.length<=sizeLine) :
  Inv X pins σ (upd H l (.lst ys)) { s with heap:=s.heap.update l (Obj.mapSeq f),toks:=t' }:=by
 have q:=PySem.IsL.update e f;rw[hf]at q;refine I.write (x:=l) (e:=l) (by rw[hH];exact trivial) (.inl rfl) (fun b' u hb hu=>(Heap.get?_update_other s.heap (Obj.mapSeq f) (Ne.symm hb)).trans hu) ⟨_,q⟩ ?_
 exact⟨hz,its',_,hv,q⟩
theorem Inv.lnew{its:List Value}{t':Nat}(I:Inv X pins σ H s)(hv:Vals ys its)(hz:ys.length<=sizeLine):
  Inv X pins σ (upd H s.heap.objs.size (.lst ys)) { s with heap:=s.heap.push { cls:=.type "list",data:=.seq its.toArray },toks:=t' }:=
 I.laid (fun _ _ q=>Heap.get?_push_of_some _ q) (Nat.le_refl _) ⟨hz,its,0,hv,Heap.get?_push_size _ rfl⟩
theorem Inv.fresh(I:Inv X pins σ H s):H s.heap.objs.size=none:=I.hok.fresh (Nat.le_refl _)
theorem Inv.lstM(I:Inv X pins σ H s)(hH:H l=some (.lst xs)):xs.length<=sizeLine/\∃(its:List Value) (n:Nat),Vals xs its/\xs.length=its.length/\s.heap.get? l=some { cls:=.type "list",data:=.seq its.toArray n }:=by
 obtain⟨z,its,n,r,e⟩:=I.hok l _ hH;exact⟨z,its,n,r,r.length,e⟩
end
section
variable{X:Cx}
def v8:V->List V->Hp->VK->Prop:=fun x vs H Q=>∃l xs y,x=.ref l/\vs=[y]/\H l=some (.lst xs)/\xs.length<sizeLine/\Q .non (upd H l (.lst (xs++[y])))
theorem r6:E3 X "list.append" v8:=by
 intro pins s σ H x vs v us Q I rx rv h;obtain⟨l,xs,y,rfl,rfl,hH,hz,q⟩:=h;cases rx;obtain⟨u,rfl,ru⟩:=rv.one;obtain⟨z,its,n,r,hl,e⟩:=I.lstM hH;refine call_meets F.slot_list_append ⟨_,e,rfl⟩ F.entry_list_append (F.args_list_append_2 _ _) (PySem.list_append l its.toArray n u (by rw[List.size_toArray];lia)) ⟨e,?_⟩;refine⟨.non,_,I.lset (its':=its++[u]) hH e (by simp) (r.append (.cons ru .nil)) ?_,rfl,q⟩;rw[List.length_append,List.length_singleton]
 lia
end
end L2
namespace Att
open PySem PySem.W PySem.Calls PyProof.Rows
theorem jv{P:Params}{h:Heap}:∀(ns:List Int) (vs:List Value),WellAll P h vs (ns.map WData.int)->IntsAre vs ns:=by
 intro ns
 induction ns with
 |nil=>
  intro vs w;rw[List.map_nil]at w;cases w;exact .nil
 |cons n ns ih=>
  intro vs w;rw[List.map_cons]at w;cases w with
  |cons a b=>
   cases a;exact .cons _ _ (ih _ b)
theorem rQ{l:OpenLaw}{n:Nat}(hn:l.most=some n){P:Params}{h:Heap}{args:List WData}{vals:List Value}
  (hpre:l.row.toRowW.claim.pre args=true) (hwl:WellAll P h vals args) :
  ∃a vs ns,vals=[Value.ref a]/\args=[WData.list (ns.map WData.int)]/\h.get? a=some { cls:=.type "list",data:=.seq vs.toArray }/\IntsAre vs ns/\ns.length<=n:=by
 have hsh:WShape.hasAll [] args [.list .int]=true:=(pre_splitW hpre).1;have hc:l.pre.holds [] { args:=args }=true:=(pre_splitW hpre).2;obtain⟨d,r,rfl,h1,h2⟩:=hasAllW_cons hsh;obtain rfl:=hasAllW_nil h2;obtain⟨xs,rfl,h3⟩:=hasW_list h1;obtain⟨ns,rfl⟩:=items_int h3;have hlen:ns.length<=n:=by
  unfold OpenLaw.pre at hc;have h4:(WTm.not (.lt (.lit (.int (n:Int))) (.len (.arg 0)))).holds [] { args:=[.list (ns.map .int)] }=true:=by
   have h4:=(holds_andW hc).1;rw[hn]at h4;exact h4
  have h5:=condW_of h4 (w_not (w_lt w_lit (w_len_list (w_arg rfl))));rw[List.length_map]at h5;refine Nat.le_of_not_lt fun q=>?_
  have q':(n:Int)<((ns.length:Nat):Int):=by lia
  first
   | (rw[decide_eq_true q']at h5;exact absurd h5 (by decide))
   | (simp at h5;lia)
 cases hwl with
 |cons w1 w2=>
  cases w2;cases w1 with
  |list ho hall=>exact⟨_,_,ns,rfl,rfl,ho,jv ns _ hall,hlen⟩
theorem rS(l:OpenLaw)(args:List WData):l.row.toRowW.claim.post args (.bool true) args=true:=
 postW_of (r:=l.row.toRowW) (X:=(true==true))
  (show WShape.has [] (.bool true) .bool=true by first|rfl|decide|simp[WShape.has,WShape.arms,WShape.armsAll])
  (show(WTm.eq .res (.lit (.bool true))).value [] { args:=args,res:=some (.bool true),after:=args }=some (.bool (true==true))from w_eq_bool (w_res rfl) w_lit) rfl
theorem pf{l:OpenLaw}{n:Nat}{q:Program}{loose:List Str}{XP:(Str->Option Value)->Heap->Prop}{YP:World->Heap->Prop}{d:DefRec}
  (hn:l.most=some n) (hdf:d.params.defaults=[])
  (call:∀(w:World) (s₀ s₁:Shared) (mg mb:Str->Option Value) (fa:Addr) (o:Obj) (pm cd doc:Value) (a:Addr) (vs:List Value) (ns:List Int),
   Ground q loose [] XP w s₀ mg mb s₁.heap->YP w s₁.heap ->
   s₁.heap.get? fa=some o->o.data=.func (docDef d.name d.params d.body d.scope pm cd doc)->s₁.heap.CodeRec cd d.name->mg d.name=some (.ref fa) ->
   s₁.heap.get? a=some { cls:=.type "list",data:=.seq vs.toArray }->IntsAre vs ns->ns.length<=n->s₁.gens = #[] ->
   codeAny (model l.prog w) callerA (.call (.ref fa) ⟨[.ref a],[]⟩) (fun r s'=>r=.ok (.ret (.bool true))/\OldK s₁.heap s'.heap/\s'.os=s₁.os/\AllBare s'.gens) s₁) :
  WalkO q loose XP YP l.row.toRowW d [] (fun f vs=>PySem.call f vs):=by
 intro w s₀ s₁ mg mb G Y fa o pm cd doc dV kV ho hd hcd hD hmg hg args vals as hpre hlay hrd hwl hlo;obtain rfl:dV=.none:=Dflts.none hD hdf;obtain rfl:kV=.none:=Dflts.noKw hD;obtain⟨a,vs,ns,rfl,rfl,hobj,hints,hlen⟩:=rQ hn hpre hwl;refine enter_call (codeAny_mono (call w s₀ s₁ mg mb fa o pm cd doc a vs ns G Y ho (fd_plain hd) hcd hmg hobj hints hlen hg) fun r s' hq=>?_)
 obtain⟨rfl,h2,h3,h4⟩:=hq;exact⟨.inl ⟨.bool true,.bool true,[],rfl,fun _=>rfl,.bool true,rS l _,fun _=>⟨List.Pairwise.nil,fun _ hm=>(nomatch hm)⟩⟩,h2,h3,h4⟩
section
variable{prog:Program}{w:World}{A:Around}{E:Value->Shared->Prop}{s:Shared}{K:Frag}
noncomputable def Dr(h:Heap)(L d:Addr):List (Addr×Obj):=(List.range h.objs.size).filterMap fun a=>if a=L\/a=d then none else(h.get? a).map fun o=>(a,o)
end
end Att
namespace L2
open PySem PySem.Spec PyProof.Rows
theorem gC:∀{vs:List Value} {ns:List Int},IntsAre vs ns->Vals (ns.map V.int) vs
 |_,_,.nil=>.nil
 |_,_,.cons n t h=>.cons ⟨t,rfl⟩ (gC h)
def Am(H:Hp):Prop:=∀b,H b=none\/(∃o xs,H b=some (.frz o (.lst xs)))\/∃ps,H b=some (.tbl ps)
noncomputable def cB(K:PySem.W.Frag):List Addr:=lamDefs.filterMap fun x=>(PySem.W.tabIn K x).map (·.2)
theorem lG{K:PySem.W.Frag}{x:Str}{c P:Addr}(hx:x∈lamDefs)(e:PySem.W.tabIn K x=some (c,P)):P∈cB K:=List.mem_filterMap.mpr ⟨x,hx,by rw[e];rfl⟩
theorem uy{P:Program}{w:World}{K:PySem.W.Frag}{mg mb:Str->Option Value}{CX:rA}{k:Nat}{fa a:Addr}{fd:FuncData}{x:Str}{sp:Sp}{s₁:Shared}{vs:List Value}{ns:List Int}
  (KX:K.In s₁.heap) (hns:s₁.heap.Ns mainGlobals mg) (hb:s₁.heap.Ns builtinsNs mb) (hbb:∀x:Str,x ≠ "__name__" -> mb x=bootBuiltins x) (hlim:s₁.heap.NoLimit) (hbm:BMain s₁.heap mg) (hTk:∀P∈cB K,s₁.heap.get? P=some (PySem.W.tabObj #[])/\isCodeTable s₁.heap P) (hTn:∀P∈cB K,K.lookup P=none) (hTc:∀x∈lamDefs,∀c P,PySem.W.tabIn K x=some (c,P)->PySem.W.CodeHd s₁.heap c P) (hg:s₁.gens = #[])
  (ha:s₁.heap.get? a=some { cls:=.type "list",data:=.seq vs.toArray }) (hi:IntsAre vs ns) (hl:ns.length<=sizeLine) (hr:Room k callerA)
  (F:∀base:Heap,K.In base->base.Ns mainGlobals mg->FnOk P w K mg base CX k fa fd [x] sp) (hbind:∀(s:Shared) (u:Value),BindsTo s fd ⟨[u],[]⟩ [(x,u)])
  (hsp:∀H:Hp,Am H->SqL K H a (ns.map V.int)->sp [.ref a] H (fun v _=>v=.bl true) fun _ _ _=>False)
  (hCX:∀H e s',CX [] H s₁ (fun _ _ _=>False) e s'->False) :
  codeAny (model P w) callerA (.call (.ref fa) ⟨[.ref a],[]⟩) (fun r s'=>r=.ok (.ret (.bool true))/\OldK s₁.heap s'.heap/\s'.os=s₁.os/\AllBare s'.gens) s₁:=by
 have rv:=gC hi;have lenV:=hi.length;have core:∀H:Hp,Am H->SqL K H a (ns.map V.int)->HOk P w H s₁.heap->(∀b,H b≠none->b=a\/b∈cB K)->(∀b,H b≠none->K.lookup b=none)->xI K H ->
   codeAny (model P w) callerA (.call (.ref fa) ⟨[.ref a],[]⟩) (fun r s'=>r=.ok (.ret (.bool true))/\OldK s₁.heap s'.heap/\s'.os=s₁.os/\AllBare s'.gens) s₁:=by
  intro H hO hS hok hA hK hTB;have base_of:∀{b:Addr} {o:Obj},s₁.heap.get? b=some o->H b=none->(kr s₁.heap H).get? b=some o:=fun e n=>uJ e n
  have noA:∀{b:Addr} {o:Obj} {es:Array DictEntry} {ep:Nat},s₁.heap.get? b=some o->o.data=.dict es ep->H b=none:=fun{b o es ep} e d=>by
   cases q:H b with
   |none=>rfl
   |some u=>
    rcases hA b (by rw[q];simp)with e' | e'
    ·subst e'
     rw[ha]at e;cases e;have d':Data.seq vs.toArray _=Data.dict es ep:=d;cases d'
    ·rw[(hTk b e').1]at e;cases e;cases d
  have nsK:∀{b:Addr} {m:Str->Option Value},s₁.heap.Ns b m->(kr s₁.heap H).Ns b m:=fun{b m} ⟨o,es,ep,e,d,r⟩=>⟨o,es,ep,base_of e (noA e d),d,r⟩
  have hKb:K.In (kr s₁.heap H):=fun b o e=>base_of (KX b o e) (by
   cases q:H b with
   |none=>rfl
   |some u=>
    rw[hK b (by rw[q];simp)]at e;cases e)
  have hbm':BMain (kr s₁.heap H) mg:=by
   obtain⟨bm,ob,b1,b2,b3,b4,b5,b6⟩:=hbm;refine⟨bm,ob,b1,b2,base_of b3 ?_,b4,b5,b6⟩;cases q:H bm with
   |none=>rfl
   |some u=>
    rcases hA bm (by rw[q];simp)with e' | e'
    ·subst e'
     rw[ha]at b3;cases b3;exact absurd (Value.type.inj b4) (by decide)
    ·rw[(hTk bm e').1]at b3;cases b3;cases b4
  have hTc':∀x∈lamDefs,∀c P,PySem.W.tabIn K x=some (c,P)->PySem.W.CodeHd (kr s₁.heap H) c P:=fun x hx c P e=>by
   obtain⟨o,vs,file,tf,flags,tg,inF,text,tt,e1,r⟩:=hTc x hx c P e;refine⟨o,vs,file,tf,flags,tg,inF,text,tt,base_of e1 ?_,r⟩;cases q:H c with
   |none=>rfl
   |some u=>
    obtain⟨o',h'⟩:=pA e;rw[hK c (by rw[q];simp)]at h';cases h'
  have hM:Mod K mg (kr s₁.heap H):=⟨hKb,nsK hns,⟨mb,nsK hb,hbb⟩,(let ⟨mc,h1,h2⟩:=hlim; ⟨mc,nsK h1,h2⟩),hbm',hTc'⟩;have e0:Env0 P w K mg (kr s₁.heap H) callerA [] s₁ H:=⟨rfl,hM,fun b o e=>wx e,Nat.le_of_eq (ss _ _),trivial,fun b hb=>absurd (show b∈([]:List Addr)from hb) (by simp),hok,.of_eq hg,hTB⟩
  refine codeAny_mono ((F _ hKb (nsK hns)).run callerA [] s₁ H ⟨[.ref a],[]⟩ [.ref a] [.ref a] _ _ hr e0 (hbind s₁ (.ref a)) (.cons rfl .nil) (hsp H hO hS)) fun r s' h=>?_
  cases r with
  |error e=>exact(hCX H e s' h).elim
  |ok fl=>
   cases fl with
   |next=>exact False.elim h
   |brk=>exact False.elim h
   |cont=>exact False.elim h
   |ret u=>
    obtain⟨v,H',os,bare,un,hok',r',q⟩:=h;have q':v=.bl true:=q;subst q';obtain rfl:u=Value.bool true:=r';have all:∀b o,s₁.heap.get? b=some o->s'.heap.get? b=some o\/(b∈cB K/\∃ps,s'.heap.get? b=some (PySem.W.tabObj ps)):=fun b o e=>by
     cases q:H b with
     |none=>exact .inl (un.keep b o e q (by intro z;exact absurd (show b∈([]:List Addr)from z) (by simp)) (by simp))
     |some u=>
      rcases hO b with z|⟨ob,xs,z⟩|⟨ps,z⟩
      ·rw[q]at z;cases z
      ·have z2:=un.frzs b ob _ z
       obtain⟨e1,_⟩:=hok b _ z;obtain⟨e2,_⟩:=hok' b _ z2;rw[e]at e1;cases e1;exact .inl e2
      ·obtain⟨m,z2⟩:=un.tbls b ps z
       obtain⟨ps',e2,_⟩:=hok' b _ z2;rcases hA b (by rw[q];simp)with e' | e'
       ·obtain⟨ps0,e0',_⟩:=hok b _ z
        subst e';rw[ha]at e0';cases e0'
       ·exact .inr ⟨e',ps',e2⟩
    refine⟨rfl,⟨fun b o e=>?_,fun b o e=>?_⟩,os,bare⟩
    ·rcases all b o e with z|⟨hb,ps,z⟩
     ·exact .inl z
     ·obtain⟨g1,g2⟩:=hTk b hb
      rw[e]at g1;cases g1;exact .inr (.inl ⟨g2,rfl,#[],ps,rfl,by rw[Array.empty_append];exact z⟩)
    ·rcases all b o e with z|⟨hb,ps,z⟩
     ·exact⟨_,z⟩
     ·exact⟨_,z⟩
 cases hk:K.lookup a with
 |some o=>
  have e:=KX a o hk;rw[ha]at e;cases e;refine core (fun b=>if b∈cB K then some (.tbl #[])else none) (fun b=>?_) (.inr ⟨_,vs.toArray,_,hk,rfl,rfl,rfl,by rw[List.size_toArray,lenV];exact hl,by simpa using rv⟩) (fun b u z=>?_) (fun b z=>?_) (fun b z=>?_) fun x hx c P e=>⟨#[],if_pos (lG hx e)⟩
  ·by_cases hb:b∈cB K
   ·exact .inr (.inr ⟨_,if_pos hb⟩)
   ·exact .inl (if_neg hb)
  ·by_cases hb:b∈cB K
   ·have z':=(if_pos hb).symm.trans z
    cases z';exact⟨#[],(hTk b hb).1,trivial,fun pos cv q=>nomatch q⟩
   ·have z':=(if_neg hb).symm.trans z
    cases z'
  ·by_cases hb:b∈cB K
   ·exact .inr hb
   ·exact absurd (if_neg hb) z
  ·by_cases hb:b∈cB K
   ·exact hTn b hb
   ·exact absurd (if_neg hb) z
 |none=>
  have hat:a ∉ cB K:=fun hb=>by
   have:=(hTk a hb).1;rw[ha]at this;cases this
  refine core (fun b=>if b=a then some (.frz { cls:=.type "list",data:=.seq vs.toArray } (.lst (ns.map V.int)))else if b∈cB K then some (.tbl #[])else none) (fun b=>?_) (.inl (.inr ⟨{ cls:=.type "list",data:=.seq vs.toArray },if_pos rfl⟩)) (fun b u z=>?_) (fun b z=>?_) (fun b z=>?_) fun x hx c P e=>⟨#[],?_⟩
  ·by_cases hb:b=a
   ·exact .inr (.inl ⟨_,_,if_pos hb⟩)
   ·by_cases hc:b∈cB K
    ·exact .inr (.inr ⟨_,(if_neg hb).trans (if_pos hc)⟩)
    ·exact .inl ((if_neg hb).trans (if_neg hc))
  ·by_cases hb:b=a
   ·have z':=(if_pos hb).symm.trans z
    cases z';subst hb;exact⟨ha,by rw[List.length_map];exact hl,vs,_,rv,ha⟩
   ·have z':=(if_neg hb).symm.trans z
    by_cases hc:b∈cB K
    ·have z':=(if_pos hc).symm.trans z'
     cases z';exact⟨#[],(hTk b hc).1,trivial,fun pos cv q=>nomatch q⟩
    ·have z':=(if_neg hc).symm.trans z'
     cases z'
  ·by_cases hb:b=a
   ·exact .inl hb
   ·by_cases hc:b∈cB K
    ·exact .inr hc
    ·exact absurd ((if_neg hb).trans (if_neg hc)) z
  ·by_cases hb:b=a
   ·subst hb;exact hk
   ·by_cases hc:b∈cB K
    ·exact hTn b hc
    ·exact absurd ((if_neg hb).trans (if_neg hc)) z
  ·have hP:=lG hx e
   have hb:P≠a:=fun z=>hat (z ▸ hP)
   exact(if_neg hb).trans (if_pos hP)
abbrev Fc{K:PySem.W.Frag}{h:Heap}(_:K.In h):PySem.W.Frag:=K
theorem vJ{l:PySem.W.OpenLaw}{n k:Nat}{q:Program}{loose:List Str}{XP:(Str->Option Value)->Heap->Prop}{YP:World->Heap->Prop}{d:DefRec}{K:Params->PySem.W.Frag}{CX:World->rA}{sp:World->Sp}{x:Str}
  (hn:l.most=some n) (hn2:n<=sizeLine) (hdf:d.params.defaults=[]) (hr:Room k callerA)
  (hY:∀(w:World) (h:Heap),YP w h->(K w.params).In h)
  (F:∀(w:World) (mg:Str->Option Value) (fa:Addr) (h:Heap),(K w.params).In h->h.Ns mainGlobals mg->mg d.name=some (.ref fa) ->
   ∃fd:FuncData,(∀(s:Shared) (u:Value),BindsTo s fd ⟨[u],[]⟩ [(x,u)]) /\
    ∀base:Heap,(K w.params).In base->base.Ns mainGlobals mg->FnOk l.prog w (K w.params) mg base (CX w) k fa fd [x] (sp w))
  (hsp:∀(w:World) (H:Hp) (a:Addr) (ns:List Int),ns.length<=n->Am H->SqL (K w.params) H a (ns.map V.int)->sp w [.ref a] H (fun v _=>v=.bl true) fun _ _ _=>False)
  (hCX:∀(w:World) (H:Hp) (s:Shared) (e:Value) (s':Shared),CX w [] H s (fun _ _ _=>False) e s'->False)
  (hTd:∀(w:World),∀x∈lamDefs,PySem.W.tabIn (K w.params) x=none\/∃d',(recsOf q).find? (fun e=>e.name==x)=some d') (hTn:∀(w:World),∀P∈cB (K w.params),(K w.params).lookup P=none) :
  PySem.W.WalkO q loose XP YP l.row.toRowW d [] (fun f vs=>PySem.call f vs):=by
 refine Att.pf hn hdf fun w s₀ s₁ mg mb fa o pm cd doc a vs ns G Y ho hd hcd hmg hobj hints hlen hg=>?_
 have KX:=hY w _ Y;obtain⟨fd,hb,hF⟩:=F w mg fa _ KX G.T.g hmg;have hTk:∀P∈cB (K w.params),s₁.heap.get? P=some (PySem.W.tabObj #[])/\isCodeTable s₁.heap P:=fun P hP=>by
  obtain⟨x,hx,e⟩:=List.mem_filterMap.mp hP;rcases hTd w x hx with z|⟨d',z⟩
  ·rw[z]at e;cases e
  ·cases e2:PySem.W.tabIn (K w.params) x with
   |none=>rw[e2]at e;cases e
   |some cp=>
    rw[e2]at e;cases e;obtain⟨g1,g2⟩:=PySem.W.tab_of G.T KX z e2;exact⟨g2,(g1.tab g2).isCodeTable⟩
 have hTc:∀x∈lamDefs,∀c P,PySem.W.tabIn (K w.params) x=some (c,P)->PySem.W.CodeHd s₁.heap c P:=fun x hx c P e=>by
  rcases hTd w x hx with z|⟨d',z⟩
  ·rw[z]at e;cases e
  ·exact(PySem.W.tab_of G.T KX z e).1
 exact uy KX G.T.g G.T.b G.T.builtins G.T.nolimit G.T.bmain hTk (hTn w) hTc hg hobj hints (Nat.le_trans hlen hn2) hr hF hb (fun H hO hS=>hsp w H a ns hlen hO hS) fun H e s'=>hCX w H s₁ e s'
noncomputable def cq(s:Stmt):Arguments:=match s with
 |.FunctionDef _ a _ _ _ _ _ _ _ _=>a
 |_=>{ posonlyargs:=[],args:=[],vararg:=none,kwonlyargs:=[],kw_defaults:=[],kwarg:=none,defaults:=[] }
noncomputable def bD(s:Stmt):List Stmt:=match s with
 |.FunctionDef _ _ b _ _ _ _ _ _ _=>b
 |_=>[]
noncomputable def af(s:Stmt):Scope:=match s with
 |.FunctionDef _ _ _ _ _ _ sc _ _ _=>sc
 |_=>{ kind:=.function,names:=[],isGenerator:=false,isCoroutine:=false }
abbrev cJ:rA:=fun _ _ _ _ _ _=>False
abbrev E0:XK:=fun _ _ _=>False
theorem uc{X:Cx}:ny cJ X E0:=fun _ _ _ _ _ _ _ h=>h.elim
def Same(H H':Hp):Prop:=∀b o,H b=some o->H' b=some o
theorem Same.refl(H:Hp):Same H H:=fun _ _ h=>h
theorem Same.trans{H H1 H2:Hp}(a:Same H H1)(b:Same H1 H2):Same H H2:=fun c o h=>b c o (a c o h)
end L2
set_option maxHeartbeats 4000000
namespace VL
open PySem L2
abbrev D:=PyData
inductive Oc where
 |l (ds:List D)|d (es:List (bb×D))
inductive Sl where
 |un|fz (d:D)|own (c:Oc)|fr (ds:List D)
abbrev Sl.ow(ds:List D):Sl:=.own (.l ds)
abbrev Sl.od(es:List (bb×D)):Sl:=.own (.d es)
noncomputable def lO:bb->D
 |.inl i=>.int i
 |.inr x=>.str x
noncomputable def BF(n:Str)(ds:List (Str×D)):List (D×D):=(.str "ins",.str n)::ds.map fun q=>(.str q.1,q.2)
noncomputable def zV(es:List (bb×Int)):List (D×D):=es.map fun p=>(lO p.1,.int p.2)
abbrev Dv:=List Sl
inductive Fl where
 |nx|bk|ct|rt (d:D)
abbrev Sf:=Dv->Option (Fl×Dv)
@[simp] noncomputable def o2(f1 f2:Dv->Option D)(g:D->D->Option D):Dv->Option D:=fun δ=>(f1 δ).bind fun x=>(f2 δ).bind fun y=>g x y
@[simp] noncomputable def o1(f:Dv->Option D)(g:D->Option D):Dv->Option D:=fun δ=>(f δ).bind g
@[simp] noncomputable def os(f:Dv->Option (List D))(g:List D->Option D):Dv->Option D:=fun δ=>(f δ).bind g
noncomputable def asB:D->Option Bool
 |.bool b=>some b
 |_=>none
@[simp] theorem BZ(b:Bool):asB (.bool b)=some b:=rfl
@[simp] noncomputable def ob(f:Dv->Option D):Dv->Option Bool:=fun δ=>(f δ).bind asB
@[simp] noncomputable def um(t u:Dv->Option Bool):Dv->Option Bool:=fun δ=>(t δ).bind fun b=>if b=true then u δ else some false
@[simp] noncomputable def wy(t u:Dv->Option Bool):Dv->Option Bool:=fun δ=>(t δ).bind fun b=>if b=true then some true else u δ
@[simp] noncomputable def iR(t:Dv->Option Bool):Dv->Option Bool:=fun δ=>(t δ).map (!·)
@[simp] noncomputable def oi(f1 f2:Dv->Option D):Dv->Option D:=fun δ=>(f1 δ).bind fun x=>(asB x).bind fun b=>if b=true then f2 δ else some (.bool false)
@[simp] noncomputable def ES(f1 f2:Dv->Option D):Dv->Option D:=fun δ=>(f1 δ).bind fun x=>(asB x).bind fun b=>if b=true then some (.bool true)else f2 δ
@[simp] noncomputable def wA(d:D):Option D:=(asB d).map fun b=>.bool (!b)
@[simp] noncomputable def ul(t:Dv->Option Bool)(f1 f2:Dv->Option D):Dv->Option D:=fun δ=>(t δ).bind fun b=>if b=true then f1 δ else f2 δ
noncomputable def AU:Option Sl->Option D
 |some (.fz d)=>some d
 |some (.fr ds)=>some (.list ds)
 |_=>none
@[simp] theorem CY(ds:List D):AU (some (.fr ds))=some (.list ds):=rfl
@[simp] theorem CW(d:D):AU (some (.fz d))=some d:=rfl
@[simp] noncomputable def oV(i:Nat):Dv->Option D:=fun δ=>AU δ[i]?
@[simp] noncomputable def oC(d:D):Dv->Option D:=fun _=>some d
@[simp] noncomputable def ak:Dv->Option (List D):=fun _=>some []
@[simp] noncomputable def ac(f:Dv->Option D)(fs:Dv->Option (List D)):Dv->Option (List D):=fun δ=>(f δ).bind fun x=>(fs δ).bind fun xs=>some (x::xs)
noncomputable def cK(ds:List D):Option D:=if ds.length<=sizeLine then some (.tuple ds)else none
noncomputable def lj(ds:List D):Option D:=if ds.length<=sizeLine then some (.list ds)else none
theorem mB{ds:List D}(h:ds.length<=16777216):cK ds=some (.tuple ds):=if_pos h
theorem qG{ds:List D}(h:ds.length<=16777216):lj ds=some (.list ds):=if_pos h
@[simp] theorem Ej:cK []=some (.tuple []):=rfl
@[simp] theorem Ei(a:D):cK [a]=some (.tuple [a]):=mB (by simp)
@[simp] theorem Eh(a b:D):cK [a,b]=some (.tuple [a,b]):=mB (by simp)
@[simp] theorem Eg(a b c:D):cK [a,b,c]=some (.tuple [a,b,c]):=mB (by simp)
@[simp] theorem Eu:lj []=some (.list []):=rfl
@[simp] theorem Et(a b c:D):lj [a,b,c]=some (.list [a,b,c]):=qG (by simp)
instance (i j:Int):Decidable (IntMulOk i j):=by unfold IntMulOk;infer_instance
noncomputable def iI(g:Int->Int->Int):D->D->Option D
 |.int i,.int j=>some (.int (g i j))
 |_,_=>none
noncomputable def iC(C:Int->Int->Bool)(g:Int->Int->Int):D->D->Option D
 |.int i,.int j=>if C i j=true then some (.int (g i j))else none
 |_,_=>none
noncomputable def iB(g:Int->Int->Bool):D->D->Option D
 |.int i,.int j=>some (.bool (g i j))
 |_,_=>none
@[simp] theorem Dw(g:Int->Int->Int)(i j:Int):iI g (.int i) (.int j)=some (.int (g i j)):=rfl
@[simp] theorem Dx(g:Int->Int->Bool)(i j:Int):iB g (.int i) (.int j)=some (.bool (g i j)):=rfl
theorem kq{C:Int->Int->Bool}{g:Int->Int->Int}{i j:Int}(h:C i j=true):iC C g (.int i) (.int j)=some (.int (g i j)):=if_pos h
noncomputable def DM(i j:Int):Bool:=decide (IntMulOk i j)
noncomputable def DO(i j:Int):Bool:=decide (0<j/\j<1073741824)
noncomputable def DN(i j:Int):Bool:=decide (0<j)
noncomputable def DL(i j:Int):Bool:=decide (0<=j/\(Builtin.Int.intBits i:Int)+j<=2^27)
noncomputable def DK(i j:Int):Bool:=decide (0<=j)
abbrev jj:=iI fun i j=>i-j
abbrev io:=iC DM fun i j=>i*j
abbrev m6:=iC DO fun i j=>i/j
abbrev cW:=iC DN fun i j=>i%j
abbrev gI:=iC DL fun i j=>i*2^j.toNat
abbrev fj:=iC DK fun i j=>i/2^j.toNat
abbrev dB:=iI Builtin.bitAnd
abbrev y0:=iI Builtin.bitOr
abbrev gU:=iI Builtin.bitXor
abbrev zn:=iB fun i j=>decide (i<j)
abbrev Dy:=iB fun i j=>decide (j<i)
abbrev Dz:=iB fun i j=>decide (j<=i)
@[simp] theorem ol{i j:Int}(h:IntMulOk i j):io (.int i) (.int j)=some (.int (i*j)):=kq (decide_eq_true h)
@[simp] theorem BR{i j:Int}(h:0<j)(h2:j<1073741824):m6 (.int i) (.int j)=some (.int (i/j)):=kq (decide_eq_true ⟨h,h2⟩)
@[simp] theorem f9{i j:Int}(h:0<j):cW (.int i) (.int j)=some (.int (i%j)):=kq (decide_eq_true h)
theorem jV{i j:Int}(h:0<=j)(h2:(Builtin.Int.intBits i:Int)+j<=2^27):gI (.int i) (.int j)=some (.int (i*2^j.toNat)):=kq (decide_eq_true ⟨h,h2⟩)
@[simp] theorem jU{i j:Int}(h:0<=j):fj (.int i) (.int j)=some (.int (i/2^j.toNat)):=kq (decide_eq_true h)
noncomputable def Dl:D->Option D
 |.int i=>some (.int (-i))
 |_=>none
@[simp] theorem Bm(i:Int):Dl (.int i)=some (.int (-i)):=rfl
noncomputable def eT:D->D->Option D
 |.int i,.int j=>some (.int (i+j))
 |.str x,.str y=>if x.length+y.length<=sizeLine then some (.str (x++y))else none
 |.list xs,.list ys=>if xs.length+ys.length<=sizeLine then some (.list (xs++ys))else none
 |.tuple xs,.tuple ys=>if xs.length+ys.length<=sizeLine then some (.tuple (xs++ys))else none
 |_,_=>none
@[simp] theorem B4(i j:Int):eT (.int i) (.int j)=some (.int (i+j)):=rfl
noncomputable def tM(d:D):Bool:=PySem.SeqAt.shaped d
noncomputable def cy:D->D->Option D:=fun a b=>if tM a=true/\tM b=true then some (.bool (PyData.eqv a b))else none
noncomputable def neD:D->D->Option D:=fun a b=>if tM a=true/\tM b=true then some (.bool (!PyData.eqv a b))else none
@[simp] theorem xg(i j:Int):cy (.int i) (.int j)=some (.bool (i==j)):=rfl
@[simp] theorem wD(i j:Int):neD (.int i) (.int j)=some (.bool (!(i==j))):=rfl
@[simp] theorem BO(i j:Bool):cy (.bool i) (.bool j)=some (.bool (i==j)):=rfl
@[simp] theorem Bn(i j:Bool):neD (.bool i) (.bool j)=some (.bool (!(i==j))):=rfl
noncomputable def zN(d:D):Bool:=match d with
 |.none=>true
 |_=>false
noncomputable def isD:D->D->Option D:=fun a b=>match b with
 |.none=>some (.bool (zN a))
 |_=>none
noncomputable def Bz:D->D->Option D:=fun a b=>match b with
 |.none=>some (.bool (!zN a))
 |_=>none
@[simp] theorem BB(a:D):isD a .none=some (.bool (zN a)):=rfl
@[simp] theorem zJ(a:D):Bz a .none=some (.bool (!zN a)):=rfl
@[simp] theorem BA:zN .none=true:=rfl
@[simp] theorem Cl(i:Int):zN (.int i)=false:=rfl
noncomputable def aF:D->D->Option D
 |.list xs,.int i=>h8 xs i
 |.tuple xs,.int i=>h8 xs i
 |_,_=>none
@[simp] theorem Bx(xs:List D)(i:Int):aF (.list xs) (.int i)=h8 xs i:=rfl
@[simp] theorem At(xs:List D)(i:Int):aF (.tuple xs) (.int i)=h8 xs i:=rfl
theorem ek{α:Type}{xs:List α}{i:Int}{j:Nat}{v:α}(hi:i=j)(h:xs[j]? = some v):h8 xs i=some v:=by
 have hl:j<xs.length:=(List.getElem?_eq_some_iff.mp h).1;subst hi;unfold h8 uG;rw[if_pos (by lia),if_pos (by lia)];simpa using h
@[simp] theorem DR{α:Type}(a:α)(r:List α):h8 (a::r) 0=some a:=ek (j:=0) rfl rfl
@[simp] theorem DQ{α:Type}(a b:α)(r:List α):h8 (a::b::r) 1=some b:=ek (j:=1) rfl rfl
@[simp] theorem DP{α:Type}(a b c:α)(r:List α):h8 (a::b::c::r) 2=some c:=ek (j:=2) rfl rfl
@[simp] theorem EB{α:Type}(a b c d:α)(r:List α):h8 (a::b::c::d::r) 3=some d:=ek (j:=3) rfl rfl
@[simp] theorem EA{α:Type}(a b c d e:α)(r:List α):h8 (a::b::c::d::e::r) 4=some e:=ek (j:=4) rfl rfl
@[simp] theorem Ez{α:Type}(a b c d e f:α)(r:List α):h8 (a::b::c::d::e::f::r) 5=some f:=ek (j:=5) rfl rfl
noncomputable def d5:List D->Option D
 |[.list xs]=>some (.int xs.length)
 |[.tuple xs]=>some (.int xs.length)
 |_=>none
@[simp] theorem As(xs:List D):d5 [.list xs]=some (.int xs.length):=rfl
@[simp] theorem zr(xs:List D):d5 [.tuple xs]=some (.int xs.length):=rfl
noncomputable def Dm:List D->Option D
 |[.int i,.int j]=>some (.int (if j<i then j else i))
 |_=>none
noncomputable def Do:List D->Option D
 |[.int i,.int j]=>some (.int (if j>i then j else i))
 |_=>none
@[simp] theorem Bo(i j:Int):Dm [.int i,.int j]=some (.int (if j<i then j else i)):=rfl
@[simp] theorem Bp(i j:Int):Do [.int i,.int j]=some (.int (if j>i then j else i)):=rfl
noncomputable def BE:List D->Option D
 |[.int i]=>some (.int i)
 |[.bool b]=>some (.int (if b then 1 else 0))
 |_=>none
@[simp] theorem BD(i:Int):BE [.int i]=some (.int i):=rfl
@[simp] theorem Aw(b:Bool):BE [.bool b]=some (.int (if b then 1 else 0)):=rfl
noncomputable def xW:List D->Option D
 |[.list xs]=>some (.list xs)
 |[.tuple xs]=>some (.list xs)
 |_=>none
@[simp] theorem zp(xs:List D):xW [.list xs]=some (.list xs):=rfl
@[simp] theorem xV(xs:List D):xW [.tuple xs]=some (.list xs):=rfl
noncomputable def eK:List D->Option D
 |[.list xs]=>some (.tuple xs)
 |[.tuple xs]=>some (.tuple xs)
 |_=>none
@[simp] theorem xK(xs:List D):eK [.list xs]=some (.tuple xs):=rfl
@[simp] theorem vN(xs:List D):eK [.tuple xs]=some (.tuple xs):=rfl
noncomputable def rh:D->Option D
 |.int i=>some (.int (Builtin.Int.intBits i))
 |_=>none
@[simp] theorem Ax(i:Int):rh (.int i)=some (.int (Builtin.Int.intBits i)):=rfl
noncomputable def tyN:D->String
 |.none=>"NoneType"
 |.bool _=>"bool"
 |.int _=>"int"
 |.str _=>"str"
 |.list _=>"list"
 |.tuple _=>"tuple"
 |.dict _=>"dict"
noncomputable def zL(t T:String):Bool:=t==T||(t == "bool" && T == "int")
noncomputable def qK:D->Bool
 |.dict _=>true
 |_=>false
noncomputable def fG(T:String)(d:D):Option D:=if qK d=true then none else if T = "int" \/ T = "bool" \/ T = "str" \/ T = "list" \/ T = "tuple" then some (.bool (zL (tyN d) T))else none
@[simp] theorem x8(i:Int):fG "int" (.int i)=some (.bool true):=rfl
@[simp] theorem wV(i:Int):fG "bool" (.int i)=some (.bool false):=rfl
@[simp] theorem wU(i:Bool):fG "int" (.bool i)=some (.bool true):=rfl
@[simp] theorem vB(i:Bool):fG "bool" (.bool i)=some (.bool true):=rfl
@[simp] theorem sP(xs:List D):fG "tuple" (.tuple xs)=some (.bool true):=rfl
@[simp] theorem vA(xs:List D):fG "list" (.list xs)=some (.bool true):=rfl
@[simp] noncomputable def be(f:Dv->Option D):Sf:=fun δ=>(f δ).bind fun d=>some (.rt d,δ)
@[simp] noncomputable def aT(i:Nat)(f:Dv->Option D):Sf:=fun δ=>(f δ).bind fun d=>some (.nx,δ.set i (.fz d))
@[simp] noncomputable def xN(f:Dv->Option D):Sf:=fun δ=>(f δ).bind fun _=>some (.nx,δ)
@[simp] noncomputable def gK:Sf:=fun δ=>some (.nx,δ)
@[simp] noncomputable def E8:Sf:=fun δ=>some (.bk,δ)
@[simp] noncomputable def E7:Sf:=fun δ=>some (.ct,δ)
@[simp] noncomputable def sSeq(s t:Sf):Sf:=fun δ=>(s δ).bind fun r=>match r with
 | (.nx,δ')=>t δ'
 |r=>some r
@[simp] noncomputable def sIf(t:Dv->Option Bool)(u w:Sf):Sf:=fun δ=>(t δ).bind fun c=>if c=true then u δ else w δ
noncomputable def sC(i:Nat)(δ:Dv):Dv:=match δ[i]? with
 |some (.own (.l ds))=>δ.set i (.fz (.list ds))
 |_=>δ
@[simp] noncomputable def gN(i:Nat):D->Dv->Option Dv:=fun d δ=>some (δ.set i (.fz d))
noncomputable def loop(g:D->Dv->Option Dv)(b:Sf):List D->Sf
 |[],δ=>some (.nx,δ)
 |d::ds,δ=>(g d δ).bind fun δ1=>(b δ1).bind fun r=>match r with
  | (.nx,δ2)=>loop g b ds δ2
  | (.ct,δ2)=>loop g b ds δ2
  | (.bk,δ2)=>some (.nx,δ2)
  | (.rt x,δ2)=>some (.rt x,δ2)
@[simp] theorem Br(g:D->Dv->Option Dv)(b:Sf)(δ:Dv):loop g b [] δ = some (.nx,δ):=rfl
@[simp] noncomputable def dX(f:Dv->Option (List D))(g:D->Dv->Option Dv)(b:Sf):Sf:=fun δ=>(f δ).bind fun ds=>loop g b ds δ
noncomputable def eu(t:Dv->Option Bool)(b:Sf):Nat->Sf
 | 0,_=>none
 |n+1,δ=>(t δ).bind fun c=>if c=true then(b δ).bind fun r=>match r with
   | (.nx,δ2)=>eu t b n δ2
   | (.ct,δ2)=>eu t b n δ2
   | (.bk,δ2)=>some (.nx,δ2)
   | (.rt x,δ2)=>some (.rt x,δ2)
  else some (.nx,δ)
noncomputable def iM(lo:Int)(n:Nat):List D:=(List.range n).map fun k=>.int (lo+(k:Nat))
noncomputable def bS:List D->Option (List D)
 |[.int j]=>if j<2^62 /\ -(2^62)<=j then some (iM 0 j.toNat)else none
 |_=>none
theorem iN{j:Int}(h:j<4611686018427387904)(h2:-4611686018427387904<=j):bS [.int j]=some (iM 0 j.toNat):=if_pos ⟨h,h2⟩
@[simp] noncomputable def oL(fs:Dv->Option (List D))(g:List D->Option (List D)):Dv->Option (List D):=fun δ=>(fs δ).bind g
noncomputable def da:D->Option (List D)
 |.list xs=>some xs
 |.tuple xs=>some xs
 |_=>none
@[simp] theorem Au(xs:List D):da (.list xs)=some xs:=rfl
@[simp] theorem zI(xs:List D):da (.tuple xs)=some xs:=rfl
noncomputable def wH:D->Option (List D)
 |.list xs=>some xs
 |_=>none
noncomputable def CB:D->Option (List D)
 |.tuple xs=>some xs
 |_=>none
@[simp] noncomputable def oI(f:Dv->Option D)(g:D->Option (List D)):Dv->Option (List D):=fun δ=>(f δ).bind g
noncomputable def rR(lo hi st:Int):Nat:=if lo<hi then((hi-lo-1)/st+1).toNat else 0
@[simp] noncomputable def Fa:Dv->Option (Option Int):=fun _=>some none
noncomputable def asI:D->Option (Option Int)
 |.int i=>some (some i)
 |_=>none
@[simp] theorem Cu(i:Int):asI (.int i)=some (some i):=rfl
@[simp] noncomputable def oP(f:Dv->Option D):Dv->Option (Option Int):=fun δ=>(f δ).bind asI
noncomputable def oS(xs:List D)(lo hi:Option Int):List D:=(xs.drop (HT.sIx xs.length 0 lo)).take (HT.sIx xs.length xs.length hi-HT.sIx xs.length 0 lo)
noncomputable def Cc:D->Option Int->Option Int->Option D
 |.list xs,lo,hi=>some (.list (oS xs lo hi))
 |.tuple xs,lo,hi=>some (.tuple (oS xs lo hi))
 |_,_,_=>none
@[simp] noncomputable def Er(f:Dv->Option D)(l u:Dv->Option (Option Int)):Dv->Option D:=fun δ=>(f δ).bind fun x=>(l δ).bind fun i=>(u δ).bind fun j=>Cc x i j
noncomputable def av(N:List Str)(as:List D):Dv:=as.map .fz++List.replicate (N.length-as.length) .un
noncomputable def runB(N:List Str)(n:Nat)(b:Sf):List D->Option D:=fun as=>if as.length=n then(b (av N as)).bind fun r=>match r with
  | (.rt d,_)=>some d
  | (.nx,_)=>some .none
  |_=>none
 else none
end VL
namespace VL
open PySem PySem.Spec PyProof.Rows L2
abbrev Fg:=PySem.W.Frag
abbrev St:=L2.St
noncomputable def EY(a C:Addr):HO:=.ext fun h=>∃o,h.get? a=some o/\o.cls=.ref C/\∃vs,o.data=.fields vs/\vs[2]? = some .none
theorem Rd.same{H H':Hp}{a:Addr}{u:HO}(h:Rd H a u)(s:Same H H'):Rd H' a u:=by
 rcases h with h|⟨o,h⟩
 ·exact .inl (s _ _ h)
 ·exact .inr ⟨o,s _ _ h⟩
inductive FI (K:Fg) (Z:Hp):V->D->Prop
 |int (i:Int):FI K Z (.int i) (.int i)
 |pair {b:Addr} {i j:Int}:SqT K Z b [.int i,.int j]->FI K Z (.ref b) (.tuple [.int i,.int j])
inductive FF (K:Fg) (Z:Hp):V->D->Prop
 |int (i:Int):FF K Z (.int i) (.int i)
 |lst {b:Addr} {xs:List V} {ds:List D}:Z b=some (.lst xs)->Paired (FI K Z) xs ds->FF K Z (.ref b) (.list ds)
inductive LamIs:Str->Arguments->Expr->Scope->Prop
 |id {p q:Pos} {m:List (Str×Const)}:LamIs "<lambda> id" { posonlyargs:=[],args:=[{ arg:="tie",annotation:=none,pos:=p }],vararg:=none,kwonlyargs:=[],kw_defaults:=[],kwarg:=none,defaults:=[] } (.Name "tie" q)
   { kind:=.function,names:=[("tie",.local)],isGenerator:=false,isCoroutine:=false,more:=m }
 |xor {p p' q q' r:Pos} {m:List (Str×Const)}:LamIs "<lambda> xor" { posonlyargs:=[],args:=[{ arg:="tie",annotation:=none,pos:=p },{ arg:="other",annotation:=none,pos:=p' }],vararg:=none,kwonlyargs:=[],kw_defaults:=[],kwarg:=none,defaults:=[] }
   (.BinOp (.Name "tie" q) .BitXor (.Name "other" q') r) { kind:=.function,names:=[("tie",.local),("other",.local)],isGenerator:=false,isCoroutine:=false,more:=m }
def B6(n:Str)(ob:Obj)(c:Addr):Prop:=∃(qual:Str) (params:Arguments) (body:Expr) (scope:Scope) (pm ctv:Value),ob=PySem.W.kla_obj "<lambda>" qual params body scope [] pm c ctv/\LamIs n params body scope
inductive LamIsC:Str->Arguments->Expr->Scope->Prop
 |shl {p q r t u v w x y z:Pos} {m:List (Str×Const)}:LamIsC "<lambda> shl" { posonlyargs:=[],args:=[{ arg:="word",annotation:=none,pos:=p }],vararg:=none,kwonlyargs:=[],kw_defaults:=[],kwarg:=none,defaults:=[] }
   (.BinOp (.BinOp (.Subscript (.Name "word" q) (.Constant (.int 0) 0 r) t) .LShift (.Name "wires" u) v) .BitOr (.Subscript (.Name "word" w) (.Constant (.int 1) 0 x) y) z)
   { kind:=.function,names:=[("word",.local),("wires",.free)],isGenerator:=false,isCoroutine:=false,more:=m }
def qh(n:Str)(ob:Obj)(c cl:Addr):Prop:=∃(qual:Str) (params:Arguments) (body:Expr) (scope:Scope) (pm ctv:Value),ob=PySem.W.kla_obj "<lambda>" qual params body scope [("wires",cl)] pm c ctv/\LamIsC n params body scope
inductive Opq (K:Fg) (Z:Hp) (a:Addr):List (D×D)->Prop
 |cap {n:Str} {ob oc:Obj} {c cl:Addr} {w:Int} {t:Tok}:PySem.W.nsIn K mainGlobals n=some none->qh n ob c cl->Z a=some (.frz ob (.cdc c cl oc))->oc.data=.cell (some (.int w t))->Opq K Z a [(.str "cap",.str n),(.str "wires",.int w)]
 |lam {n:Str} {ob:Obj} {c:Addr}:PySem.W.nsIn K mainGlobals n=some none->B6 n ob c->Z a=some (.frz ob (.cod c))->Opq K Z a [(.str "fn",.str n)]
 |exc {n:Str} {C:Addr}:PySem.W.nsIn K mainGlobals n=some (some (.ref C))->Rd Z a (EY a C)->Opq K Z a [(.str "exc",.str n)]
 |fn {n:Str}:PySem.W.nsIn K mainGlobals n=some (some (.ref a))->Opq K Z a [(.str "fn",.str n)]
 |ins {n:Str} {C dx:Addr} {fs:List (Str×V)} {ds:List (Str×D)}:PySem.W.nsIn K mainGlobals n=some (some (.ref C))->Z a=some (.ins C dx fs)->Paired (fun(p:Str×V) (q:Str×D)=>p.1=q.1/\FF K Z p.2 q.2) fs ds->Opq K Z a (BF n ds)
 |dct {kvs:List (D×D)} {es:List (bb×Int)}:kvs=zV es->Z a=some (.dK (es.map fun p=>(p.1,V.int p.2)))->Opq K Z a kvs
theorem qS{es:List (bb×Int)}{a:D}{x:Str}{r:List (D×D)}(h:(a,PyData.str x)::r=zV es):False:=by
 cases es with
 |nil=>cases h
 |cons e es=>simp[zV]at h
theorem SqT.same{K:Fg}{H H':Hp}{a:Addr}{xs:List V}(h:SqT K H a xs)(s:Same H H'):SqT K H' a xs:=by
 rcases h with h|h
 ·exact .inl (Rd.same h s)
 ·exact .inr h
theorem FI.same{K:Fg}{Z Z':Hp}(s:Same Z Z'){v:V}{d:D}(h:FI K Z v d):FI K Z' v d:=by
 cases h with
 |int i=>exact .int i
 |pair q=>exact .pair (SqT.same q s)
theorem FF.same{K:Fg}{Z Z':Hp}(s:Same Z Z'){v:V}{d:D}(h:FF K Z v d):FF K Z' v d:=by
 cases h with
 |int i=>exact .int i
 |lst q r=>exact .lst (s _ _ q) (Paired.mapP r fun _ _=>FI.same s)
theorem Opq.same{K:Fg}{Z Z':Hp}{a:Addr}{kvs:List (D×D)}(s:Same Z Z')(h:Opq K Z a kvs):Opq K Z' a kvs:=by
 cases h with
 |lam h1 h2 h3=>exact .lam h1 h2 (s _ _ h3)
 |cap h1 h2 h3 h4=>exact .cap h1 h2 (s _ _ h3) h4
 |exc h1 h2=>exact .exc h1 (Rd.same h2 s)
 |fn h1=>exact .fn h1
 |ins h1 h2 h3=>exact .ins h1 (s _ _ h2) (Paired.mapP h3 fun _ _ q=>⟨q.1,q.2.same s⟩)
 |dct h1 h2=>exact .dct h1 (s _ _ h2)
mutual
inductive Rep (K:Fg) (Z:Hp):V->D->Prop
 |non:Rep K Z .non .none
 |bl (b:Bool):Rep K Z (.bl b) (.bool b)
 |int (i:Int):Rep K Z (.int i) (.int i)
 |str (x:Str):Rep K Z (.str x) (.str x)
 |tup {a:Addr} {xs:List V} {ds:List D}:SqT K Z a xs->Reps K Z xs ds->Rep K Z (.ref a) (.tuple ds)
 |lst {a:Addr} {xs:List V} {ds:List D}:SqL K Z a xs->Reps K Z xs ds->Rep K Z (.ref a) (.list ds)
 |opq {a:Addr} {kvs:List (D×D)}:Opq K Z a kvs->Rep K Z (.ref a) (.dict kvs)
 |gdc {a:Addr} {kvs:List (bb×V)} {es:List (bb×D)} {l:List (D×D)}:Z a=some (.dK kvs)->es.map (·.1)=kvs.map (·.1)->Reps K Z (kvs.map (·.2)) (es.map (·.2))->l=es.map (fun p=>(lO p.1,p.2))->Rep K Z (.ref a) (.dict ((.none,.none)::l))
inductive Reps (K:Fg) (Z:Hp):List V->List D->Prop
 |nil:Reps K Z [] []
 |cons {v:V} {d:D} {vs:List V} {ds:List D}:Rep K Z v d->Reps K Z vs ds->Reps K Z (v::vs) (d::ds)
end
theorem SqL.same{K:Fg}{H H':Hp}{a:Addr}{xs:List V}(h:SqL K H a xs)(s:Same H H'):SqL K H' a xs:=by
 rcases h with h|h
 ·exact .inl (Rd.same h s)
 ·exact .inr h
mutual
theorem Rep.same{K:Fg}{Z Z':Hp}(s:Same Z Z'):∀{v:V} {d:D},Rep K Z v d->Rep K Z' v d
 |_,_,.non=>.non
 |_,_,.bl b=>.bl b
 |_,_,.int i=>.int i
 |_,_,.str x=>.str x
 |_,_,.tup h r=>.tup (SqT.same h s) (Reps.same s r)
 |_,_,.lst h r=>.lst (SqL.same h s) (Reps.same s r)
 |_,_,.opq h=>.opq (Opq.same s h)
 |_,_,.gdc h k r e=>.gdc (s _ _ h) k (Reps.same s r) e
theorem Reps.same{K:Fg}{Z Z':Hp}(s:Same Z Z'):∀{vs:List V} {ds:List D},Reps K Z vs ds->Reps K Z' vs ds
 |_,_,.nil=>.nil
 |_,_,.cons h r=>.cons (Rep.same s h) (Reps.same s r)
end
theorem Reps.length{K:Fg}{Z:Hp}:∀{vs:List V} {ds:List D},Reps K Z vs ds->vs.length=ds.length
 |_,_,.nil=>rfl
 |_,_,.cons _ r=>congrArg (· + 1) (Reps.length r)
theorem Reps.get{K:Fg}{Z:Hp}:∀{vs:List V} {ds:List D} {i:Nat} {d:D},Reps K Z vs ds->ds[i]? = some d->∃v,vs[i]? = some v/\Rep K Z v d
 |_,_,_,_,.nil,e=>by simp at e
 |_,_,0,_,.cons r _,e=>by simp at e;subst e;exact⟨_,rfl,r⟩
 |_,_,i+1,d,.cons _ t,e=>by
  obtain⟨u,h1,h2⟩:=Reps.get (i:=i) (d:=d) t (by simpa using e);exact⟨u,by simpa using h1,h2⟩
theorem Reps.set{K:Fg}{Z:Hp}{x:V}{u:D}(r:Rep K Z x u):∀{xs:List V} {us:List D} (i:Nat),Reps K Z xs us->Reps K Z (xs.set i x) (us.set i u)
 |_,_,_,.nil=>.nil
 |_,_,0,.cons _ t=>.cons r t
 |_,_,i+1,.cons q t=>.cons q (Reps.set r i t)
theorem Reps.append{K:Fg}{Z:Hp}:∀{xs ys:List V} {us ws:List D},Reps K Z xs us->Reps K Z ys ws->Reps K Z (xs++ys) (us++ws)
 |_,_,_,_,.nil,s=>s
 |_,_,_,_,.cons r t,s=>.cons r (Reps.append t s)
theorem Reps.take{K:Fg}{Z:Hp}:∀{xs:List V} {us:List D} (n:Nat),Reps K Z xs us->Reps K Z (xs.take n) (us.take n)
 |_,_,0,_=>.nil
 |_,_,_+1,.nil=>.nil
 |_,_,n+1,.cons r t=>.cons r (Reps.take n t)
theorem Reps.drop{K:Fg}{Z:Hp}:∀{xs:List V} {us:List D} (n:Nat),Reps K Z xs us->Reps K Z (xs.drop n) (us.drop n)
 |_,_,0,r=>r
 |_,_,_+1,.nil=>.nil
 |_,_,n+1,.cons _ t=>Reps.drop n t
theorem Rep.int_eq{K:Fg}{Z:Hp}{v:V}{i:Int}(h:Rep K Z v (.int i)):v=.int i:=by cases h;rfl
theorem Rep.bl_eq{K:Fg}{Z:Hp}{v:V}{b:Bool}(h:Rep K Z v (.bool b)):v=.bl b:=by cases h;rfl
theorem Reps.ints{K:Fg}{Z:Hp}:∀ns:List Int,Reps K Z (ns.map V.int) (ns.map PyData.int)
 |[]=>.nil
 |n::r=>.cons (.int n) (Reps.ints r)
mutual
theorem Rep.reads{X:Cx}{pins:List (Addr×Obj)}{σ:St}{H Z:Hp}{s:Shared}(I:Inv X pins σ H s)(zh:Same Z H):∀{v:V} {d:D} {u:Value},Rep X.K Z v d->RelV v u->d.canLay0=true->∃as,Reads s.heap u d as
 |_,_,u,.non,r,_=>by cases(show u=Value.none from r);exact⟨_,.none⟩
 |_,_,u,.bl b,r,_=>by cases(show u=Value.bool b from r);exact⟨_,.bool b⟩
 |_,_,u,.int i,r,_=>by obtain⟨t,rfl⟩:=(show ∃t,u=Value.int i t from r);exact⟨_,.int i t⟩
 |_,_,u,.str x,r,_=>by obtain⟨t,rfl⟩:=(show ∃t,u=Value.str x t from r);exact⟨_,.str x t⟩
 |_,_,u,.tup (a:=a) h q,r,hc=>by
  cases(show u=Value.ref a from r);obtain⟨its,rv,ht,_⟩:=I.tuple (SqT.same h zh);obtain⟨as,ra⟩:=Reps.reads I zh q rv hc;obtain⟨o,e,c,n,dd⟩:=ht;exact⟨_,reads_tuple_at e c dd (by simpa using ra)⟩
 |_,_,u,.lst (a:=a) h q,r,hc=>by
  cases(show u=Value.ref a from r);obtain⟨its,rv,ht,_⟩:=I.list (SqL.same h zh);obtain⟨as,ra⟩:=Reps.reads I zh q rv hc;obtain⟨o,n,e,c,_,dd⟩:=ht;exact⟨_,reads_list_at e c dd (by simpa using ra)⟩
 |_,_,u,.opq h,r,hc=>by cases hc
 |_,_,u,.gdc h k q e,r,hc=>by cases hc
theorem Reps.reads{X:Cx}{pins:List (Addr×Obj)}{σ:St}{H Z:Hp}{s:Shared}(I:Inv X pins σ H s)(zh:Same Z H):∀{vs:List V} {ds:List D} {us:List Value},Reps X.K Z vs ds->Vals vs us->PyData.canLayAll0 ds=true->∃as,ReadsAll s.heap us ds as
 |_,_,_,.nil,.nil,_=>⟨_,.nil⟩
 |_,_,_,.cons h q,.cons r t,hc=>by
  have hc':=Bool.and_eq_true_iff.mp hc;obtain⟨as,ha⟩:=Rep.reads I zh h r hc'.1;obtain⟨bs,hb⟩:=Reps.reads I zh q t hc'.2;exact⟨_,.cons ha hb⟩
end
noncomputable def zl:HO->Bool
 |.frz _ (.lst _)=>false
 |_=>true
def NoF(Z Z':Hp):Prop:=∀b o xs,Z' b=some (.frz o (.lst xs))->Z b=some (.frz o (.lst xs))
theorem NoF.refl(Z:Hp):NoF Z Z:=fun _ _ _ e=>e
theorem NoF.trans{Z Z1 Z2:Hp}(a:NoF Z Z1)(b:NoF Z1 Z2):NoF Z Z2:=fun c o xs e=>a c o xs (b c o xs e)
theorem NoF.upd{Z Z':Hp}(a:NoF Z Z')(p:Addr){u:HO}(hu:zl u=true:=by rfl):NoF Z (upd Z' p u):=fun b o xs e=>by
 by_cases hb:b=p
 ·subst hb
  rw[aG]at e;cases e;cases hu
 ·rw[az hb]at e
  exact a b o xs e
structure New (Z H Z' H':Hp):Prop where
 z:Same Z Z'
 h:Same H H'
 zh:Same Z' H'
 o:∀b,H b≠none->Z' b=Z b
 nf:NoF Z Z'
theorem New.refl{Z H:Hp}(zh:Same Z H):New Z H Z H:=⟨Same.refl _,Same.refl _,zh,fun _ _=>rfl,NoF.refl _⟩
theorem New.trans{Z H Z1 H1 Z2 H2:Hp}(a:New Z H Z1 H1)(b:New Z1 H1 Z2 H2):New Z H Z2 H2:=
 ⟨a.z.trans b.z,a.h.trans b.h,b.zh,fun c hc=>by
  have:H1 c≠none:=by
   cases e:H c with
   |none=>exact absurd e hc
   |some o=>rw[a.h c o e];intro z;cases z
  rw[b.o c this,a.o c hc],a.nf.trans b.nf⟩
theorem cM{H:Hp}{p:Addr}{o:HO}(h:H p=none):Same H (upd H p o):=fun b u e=>by
 rw[az (aR e h)];exact e
theorem mW{Z H:Hp}(zh:Same Z H){p:Addr}(h:H p=none):Z p=none:=by
 cases e:Z p with
 |none=>rfl
 |some o=>rw[zh p o e]at h;cases h
theorem New.add{Z H:Hp}(zh:Same Z H){p:Addr}(hp:H p=none)(o:HO)(hf:zl o=true:=by rfl):New Z H (upd Z p o) (upd H p o) where
 nf:=(NoF.refl Z).upd p hf
 z:=cM (mW zh hp)
 h:=cM hp
 zh:=fun b u e=>by
  by_cases hb:b=p
  ·subst hb;rw[aG]at e ⊢;exact e
  ·rw[az hb]at e ⊢;exact zh b u e
 o:=fun b hb=>by
  have:b≠p:=fun z=>hb (z ▸ hp)
  rw[az this]
def DX(K:Fg)(Z:Hp)(kvs:List (bb×V))(es:List (bb×D)):Prop:=es.map (·.1)=kvs.map (·.1)/\Reps K Z (kvs.map (·.2)) (es.map (·.2))
inductive OwR (K:Fg) (Z:Hp):HO->Oc->Prop
 |lst {xs:List V} {ds:List D}:Reps K Z xs ds->OwR K Z (.lst xs) (.l ds)
 |dct {kvs:List (bb×V)} {es:List (bb×D)}:DX K Z kvs es->OwR K Z (.dK kvs) (.d es)
theorem OwR.same{K:Fg}{Z Z':Hp}{o:HO}{c:Oc}(h:OwR K Z o c)(s:Same Z Z'):OwR K Z' o c:=by
 cases h with
 |lst r=>exact .lst (r.same s)
 |dct r=>exact .dct ⟨r.1,r.2.same s⟩
def FrOk(K:Fg)(H₀ Z₀ Z:Hp)(δ:Dv)(σ:St):Prop:=∀(i:Nat) ds,δ[i]? = some (.fr ds)->∃a xs,σ[i]? = some (some (.ref a))/\H₀ a=none/\Z₀ a=none/\Z a=some (.lst xs)/\Reps K Z xs ds
theorem FrOk.same{K:Fg}{H₀ Z₀ Z Z':Hp}{δ:Dv}{σ:St}(h:FrOk K H₀ Z₀ Z δ σ)(s:Same Z Z'):FrOk K H₀ Z₀ Z' δ σ:=fun i ds e=>
 let ⟨a,xs,h1,h2,h3,h4,h5⟩:=h i ds e; ⟨a,xs,h1,h2,h3,s _ _ h4,h5.same s⟩
theorem FrOk.put{K:Fg}{H₀ Z₀ Z:Hp}{δ:Dv}{σ σ':St}(h:FrOk K H₀ Z₀ Z δ σ){i:Nat}{x:Sl}(hx:∀ds,x≠Sl.fr ds)(hs:∀j:Nat,i≠j -> σ'[j]? = σ[j]?):FrOk K H₀ Z₀ Z (δ.set i x) σ':=fun j ds e=>by
 by_cases hj:i=j
 ·subst hj
  have hl:i < δ.length:=by have:=(List.getElem?_eq_some_iff.mp e).1;simpa using this
  rw[List.getElem?_set_self hl]at e;exact absurd (Option.some.inj e) (hx ds)
 ·rw[List.getElem?_set_ne hj]at e
  obtain⟨a,xs,h1,r⟩:=h j ds e;exact⟨a,xs,by rw[hs j hj];exact h1,r⟩
structure Hold (K:Fg) (H₀ Z₀ Z:Hp) (δ:Dv) (σ:St) (H:Hp):Prop where
 zh:Same Z H
 h0:Same H₀ H
 z0:Same Z₀ Z
 zb:∀b,H₀ b≠none->Z b=Z₀ b
 len:δ.length = σ.length
 fz:∀(i:Nat) d,δ[i]? = some (.fz d)->∃v,σ[i]? = some (some v)/\Rep K Z v d
 own:∀(i:Nat) c,δ[i]? = some (.own c)->∃a o,σ[i]? = some (some (.ref a))/\H₀ a=none/\Z a=none/\H a=some o/\OwR K Z o c
 dja:∀(i j:Nat) c c' a,i≠j -> δ[i]? = some (.own c) -> δ[j]? = some (.own c') -> σ[i]? = some (some (.ref a)) -> σ[j]? ≠ some (some (V.ref a))
 fr:FrOk K H₀ Z₀ Z δ σ
 nf:NoF Z₀ Z
section
variable{K:Fg}{H₀ Z₀ Z Z' H H':Hp}{δ:Dv}{σ:St}
theorem Hold.ow(h:Hold K H₀ Z₀ Z δ σ H)(i:Nat)(ds:List D)(e:δ[i]? = some (.ow ds)):∃a xs,σ[i]? = some (some (.ref a))/\H₀ a=none/\Z a=none/\H a=some (.lst xs)/\Reps K Z xs ds:=by
 obtain⟨a,o,h1,h2,h3,h4,h5⟩:=h.own i _ e;cases h5 with
 |lst r=>exact⟨a,_,h1,h2,h3,h4,r⟩
theorem Hold.new(h:Hold K H₀ Z₀ Z δ σ H)(n:New Z H Z' H'):Hold K H₀ Z₀ Z' δ σ H' where
 zh:=n.zh
 h0:=h.h0.trans n.h
 z0:=h.z0.trans n.z
 zb:=fun b hb=>by
  have:H b≠none:=by
   cases e:H₀ b with
   |none=>exact absurd e hb
   |some o=>rw[h.h0 b o e];intro z;cases z
  rw[n.o b this,h.zb b hb]
 len:=h.len
 fz:=fun i d e=>let ⟨v,a,r⟩:=h.fz i d e; ⟨v,a,r.same n.z⟩
 own:=fun i ds e=>by
  obtain⟨a,xs,h1,h2,h3,h4,h5⟩:=h.own i ds e;exact⟨a,xs,h1,h2,by rw[n.o a (by rw[h4];intro z;cases z)];exact h3,n.h a _ h4,h5.same n.z⟩
 dja:=h.dja
 fr:=h.fr.same n.z
 nf:=h.nf.trans n.nf
theorem Hold.set(h:Hold K H₀ Z₀ Z δ σ H){i:Nat}{v:V}{d:D}(r:Rep K Z v d):Hold K H₀ Z₀ Z (δ.set i (.fz d)) (σ.set i (some v)) H where
 zh:=h.zh
 h0:=h.h0
 z0:=h.z0
 zb:=h.zb
 len:=by simp[h.len]
 fz:=fun j e q=>by
  by_cases hj:i=j
  ·subst hj
   have hl:i < δ.length:=by
    have:=(List.getElem?_eq_some_iff.mp q).1;simpa using this
   rw[List.getElem?_set_self hl]at q;cases q;exact⟨v,List.getElem?_set_self (by rw[<-h.len];exact hl),r⟩
  ·rw[List.getElem?_set_ne hj]at q
   obtain⟨u,a,b⟩:=h.fz j e q;exact⟨u,by rw[List.getElem?_set_ne hj];exact a,b⟩
 own:=fun j es q=>by
  by_cases hj:i=j
  ·subst hj
   have hl:i < δ.length:=by
    have:=(List.getElem?_eq_some_iff.mp q).1;simpa using this
   rw[List.getElem?_set_self hl]at q;cases q
  ·rw[List.getElem?_set_ne hj]at q ⊢
   exact h.own j es q
 dja:=fun j k ds es a hjk q1 q2=>by
  by_cases hj:i=j
  ·subst hj
   have hl:i < δ.length:=by
    have:=(List.getElem?_eq_some_iff.mp q1).1;simpa using this
   rw[List.getElem?_set_self hl]at q1;cases q1
  ·by_cases hk:i=k
   ·subst hk
    have hl:i < δ.length:=by
     have:=(List.getElem?_eq_some_iff.mp q2).1;simpa using this
    rw[List.getElem?_set_self hl]at q2;cases q2
   ·rw[List.getElem?_set_ne hj]at q1
    rw[List.getElem?_set_ne hk]at q2;rw[List.getElem?_set_ne hj,List.getElem?_set_ne hk];exact h.dja j k ds es a hjk q1 q2
 fr:=h.fr.put (fun _ z=>nomatch z) fun _ hj=>List.getElem?_set_ne hj
 nf:=h.nf
theorem Hold.setW(h:Hold K H₀ Z₀ Z δ σ H){i:Nat}{p:Addr}{o:HO}{c:Oc}(hp:H p=none)(r:OwR K Z o c):Hold K H₀ Z₀ Z (δ.set i (.own c)) (σ.set i (some (.ref p))) (upd H p o) where
 zh:=h.zh.trans (cM hp)
 h0:=h.h0.trans (cM hp)
 z0:=h.z0
 zb:=h.zb
 len:=by simp[h.len]
 fz:=fun j e q=>by
  by_cases hj:i=j
  ·subst hj
   have hl:i < δ.length:=by
    have:=(List.getElem?_eq_some_iff.mp q).1;simpa using this
   rw[List.getElem?_set_self hl]at q;cases q
  ·rw[List.getElem?_set_ne hj]at q
   obtain⟨u,a,b⟩:=h.fz j e q;exact⟨u,by rw[List.getElem?_set_ne hj];exact a,b⟩
 own:=fun j es q=>by
  by_cases hj:i=j
  ·subst hj
   have hl:i < δ.length:=by
    have:=(List.getElem?_eq_some_iff.mp q).1;simpa using this
   rw[List.getElem?_set_self hl]at q;cases q;exact⟨p,o,List.getElem?_set_self (by rw[<-h.len];exact hl),mW h.h0 hp,mW h.zh hp,aG,r⟩
  ·rw[List.getElem?_set_ne hj]at q ⊢
   obtain⟨a,ys,h1,h2,h3,h4,h5⟩:=h.own j es q;exact⟨a,ys,h1,h2,h3,by rw[az (aR h4 hp)];exact h4,h5⟩
 dja:=fun j k ds es a hjk q1 q2=>by
  have old:∀{m:Nat} {fs:Oc},δ[m]? = some (.own fs) -> σ[m]? ≠ some (some (V.ref p)):=fun{m fs} q z=>by
   obtain⟨b,ys,h1,h2,h3,h4,h5⟩:=h.own m fs q;rw[h1]at z;cases z;rw[hp]at h4;cases h4
  have hl:∀{m:Nat} {x:Sl},(δ.set i x)[m]? ≠ none->m < σ.length:=fun{m x} q=>by
   have:m<(δ.set i x).length:=by
    rcases Nat.lt_or_ge m (δ.set i x).length with g|g
    ·exact g
    ·exact absurd (List.getElem?_eq_none_iff.mpr g) q
   rw[<-h.len];simpa using this
  by_cases hj:i=j
  ·subst hj
   have h1:i < σ.length:=hl (by rw[q1];intro z;cases z);rw[List.getElem?_set_self h1];intro e;cases e;rw[List.getElem?_set_ne hjk]at q2 ⊢;exact old q2
  ·rw[List.getElem?_set_ne hj]at q1 ⊢
   by_cases hk:i=k
   ·subst hk
    have h1:i < σ.length:=hl (by rw[q2];intro z;cases z);intro e z;rw[List.getElem?_set_self h1]at z;cases z;exact old q1 e
   ·rw[List.getElem?_set_ne hk]at q2 ⊢
    exact h.dja j k ds es a hjk q1 q2
 fr:=h.fr.put (fun _ z=>nomatch z) fun _ hj=>List.getElem?_set_ne hj
 nf:=h.nf
theorem Hold.setO(h:Hold K H₀ Z₀ Z δ σ H){i:Nat}{p:Addr}{xs:List V}{ds:List D}(hp:H p=none)(r:Reps K Z xs ds):Hold K H₀ Z₀ Z (δ.set i (.ow ds)) (σ.set i (some (.ref p))) (upd H p (.lst xs)):=h.setW hp (.lst r)
theorem Hold.chgW(h:Hold K H₀ Z₀ Z δ σ H){i:Nat}{p:Addr}{o:HO}{ds es:Oc}(e:δ[i]? = some (.own ds))(ep:σ[i]? = some (some (.ref p)))(r:OwR K Z o es):Hold K H₀ Z₀ Z (δ.set i (.own es)) σ (upd H p o):=by
 obtain⟨a,zs,h1,h2,h3,h4,h5⟩:=h.own i ds e;rw[ep]at h1;cases h1;have hl:i < δ.length:=(List.getElem?_eq_some_iff.mp e).1;refine⟨fun b o' q=>?_,fun b o' q=>?_,h.z0,h.zb,by simp[h.len],fun j d q=>?_,fun j d q=>?_,fun j k d1 d2 a hjk q1 q2=>?_,h.fr.put (fun _ z=>nomatch z) fun _ _=>rfl,h.nf⟩
 ·rw[az (aR q h3)];exact h.zh b o' q
 ·rw[az (aR q h2)];exact h.h0 b o' q
 ·by_cases hj:i=j
  ·subst hj
   rw[List.getElem?_set_self hl]at q;cases q
  ·rw[List.getElem?_set_ne hj]at q
   exact h.fz j d q
 ·by_cases hj:i=j
  ·subst hj
   rw[List.getElem?_set_self hl]at q;cases q;exact⟨p,o,ep,h2,h3,aG,r⟩
  ·rw[List.getElem?_set_ne hj]at q
   obtain⟨b,ws,g1,g2,g3,g4,g5⟩:=h.own j d q;refine⟨b,ws,g1,g2,g3,?_,g5⟩;have:b≠p:=fun z=>by subst z;exact h.dja i j ds d b hj e q ep g1
   rw[az this];exact g4
 ·have f:∀{m:Nat} {dm:Oc},(δ.set i (.own es))[m]? = some (.own dm)->∃dm',δ[m]? = some (.own dm'):=fun{m dm} q=>by
   by_cases hm:i=m
   ·subst hm;exact⟨ds,e⟩
   ·rw[List.getElem?_set_ne hm]at q;exact⟨dm,q⟩
  obtain⟨e1,g1⟩:=f q1;obtain⟨e2,g2⟩:=f q2;exact h.dja j k e1 e2 a hjk g1 g2
theorem Hold.chg(h:Hold K H₀ Z₀ Z δ σ H){i:Nat}{p:Addr}{xs ys:List V}{ds es:List D}(e:δ[i]? = some (.ow ds))(ep:σ[i]? = some (some (.ref p)))(r:Reps K Z ys es):Hold K H₀ Z₀ Z (δ.set i (.ow es)) σ (upd H p (.lst ys)):=h.chgW e ep (.lst r)
theorem Hold.frz(h:Hold K H₀ Z₀ Z δ σ H){i:Nat}{ds:List D}(e:δ[i]? = some (.ow ds)):∃Z',Same Z Z'/\Hold K H₀ Z₀ Z' (δ.set i (.fz (.list ds))) σ H:=by
 obtain⟨a,xs,h1,h2,h3,h4,h5⟩:=h.ow i ds e;have hl:i < δ.length:=(List.getElem?_eq_some_iff.mp e).1;have sz:Same Z (upd Z a (.lst xs)):=cM h3;refine⟨upd Z a (.lst xs),sz,fun b o q=>?_,h.h0,h.z0.trans sz,fun b hb=>?_,by simp[h.len],fun j d q=>?_,fun j d q=>?_,fun j k d1 d2 b hjk q1 q2=>?_,(h.fr.same sz).put (fun _ z=>nomatch z) fun _ _=>rfl,h.nf.upd a⟩
 ·by_cases hb:b=a
  ·subst hb;rw[aG]at q;cases q;exact h4
  ·rw[az hb]at q;exact h.zh b o q
 ·rw[az (fun z=>hb (by rw[z];exact h2))];exact h.zb b hb
 ·by_cases hj:i=j
  ·subst hj
   rw[List.getElem?_set_self hl]at q;cases q;exact⟨.ref a,h1,.lst (SqL.of aG) (h5.same sz)⟩
  ·rw[List.getElem?_set_ne hj]at q
   obtain⟨v,g1,g2⟩:=h.fz j d q;exact⟨v,g1,g2.same sz⟩
 ·by_cases hj:i=j
  ·subst hj
   rw[List.getElem?_set_self hl]at q;cases q
  ·rw[List.getElem?_set_ne hj]at q
   obtain⟨b,ws,g1,g2,g3,g4,g5⟩:=h.own j d q;have:b≠a:=fun z=>by subst z;exact h.dja i j _ d b hj e q h1 g1
   exact⟨b,ws,g1,g2,by rw[az this];exact g3,g4,g5.same sz⟩
 ·by_cases hj:i=j
  ·subst hj
   rw[List.getElem?_set_self hl]at q1;cases q1
  ·by_cases hk:i=k
   ·subst hk
    rw[List.getElem?_set_self hl]at q2;cases q2
   ·rw[List.getElem?_set_ne hj]at q1
    rw[List.getElem?_set_ne hk]at q2;exact h.dja j k d1 d2 b hjk q1 q2
end
def tV(K:Fg)(f:Dv->Option D):TE:=fun σ H Q=>∃H₀ Z₀ Z δ d,Hold K H₀ Z₀ Z δ σ H/\f δ = some d/\∀v Z' H',Hold K H₀ Z₀ Z' δ σ H'->Same Z Z'->Rep K Z' v d->Q v H'
def AI(K:Fg)(f:Dv->Option Bool):TT:=fun σ H Q=>∃H₀ Z₀ Z δ b,Hold K H₀ Z₀ Z δ σ H/\f δ = some b/\∀Z' H',Hold K H₀ Z₀ Z' δ σ H'->Same Z Z'->Q b H'
def Em(K:Fg)(f:Dv->Option (List D)):TA:=fun σ H Q=>∃H₀ Z₀ Z δ ds,Hold K H₀ Z₀ Z δ σ H/\f δ = some ds/\∀vs Z' H',Hold K H₀ Z₀ Z' δ σ H'->Same Z Z'->Reps K Z' vs ds->Q vs H'
def Fl.to(K:Fg)(Z:Hp)(D:Ends)(σ:St)(H:Hp):Fl->Prop
 |.nx=>D.nx σ H
 |.bk=>D.bk σ H
 |.ct=>D.ct σ H
 |.rt d=>∀v,Rep K Z v d->D.rt v H
def yn(K:Fg)(f:Dv->Option (Fl×Dv)):TS:=fun D σ H=>∃H₀ Z₀ Z δ r,Hold K H₀ Z₀ Z δ σ H/\f δ = some r/\∀ σ' H' Z',Hold K H₀ Z₀ Z' r.2 σ' H'->Same Z Z'->r.1.to K Z' D σ' H'
def EV(X:Cx)(e:Expr)(f:Dv->Option D):Prop:=PE X e (tV X.K f)
def TV(X:Cx)(e:Expr)(f:Dv->Option Bool):Prop:=PT X e (AI X.K f)
def AV(X:Cx)(es:List Expr)(f:Dv->Option (List D)):Prop:=PA X es (Em X.K f)
def SV(X:Cx)(st:Stmt)(f:Dv->Option (Fl×Dv)):Prop:=PS X st (yn X.K f)
def BV(X:Cx)(st:List Stmt)(f:Dv->Option (Fl×Dv)):Prop:=PSs X st (yn X.K f)
theorem PE.imp{X:Cx}{e:Expr}{t t':TE}(h:PE X e t)(i:∀ σ H Q,t' σ H Q->t σ H Q):PE X e t':=fun pins s σ H Q I hw=>h pins s σ H Q I (i _ _ _ hw)
theorem PT.imp{X:Cx}{e:Expr}{t t':TT}(h:PT X e t)(i:∀ σ H Q,t' σ H Q->t σ H Q):PT X e t':=fun pins s σ H Q I hw=>h pins s σ H Q I (i _ _ _ hw)
theorem PA.imp{X:Cx}{es:List Expr}{t t':TA}(h:PA X es t)(i:∀ σ H Q,t' σ H Q->t σ H Q):PA X es t':=fun pos pins s σ H Q I hw=>h pos pins s σ H Q I (i _ _ _ hw)
theorem PS.imp{X:Cx}{st:Stmt}{t t':TS}(h:PS X st t)(i:∀D σ H,t' D σ H->t D σ H):PS X st t':=fun pins s σ H D I hw=>h pins s σ H D I (i _ _ _ hw)
theorem PSs.imp{X:Cx}{st:List Stmt}{t t':TS}(h:PSs X st t)(i:∀D σ H,t' D σ H->t D σ H):PSs X st t':=fun pins s σ H D I hw=>h pins s σ H D I (i _ _ _ hw)
theorem OpR.imp{X:Cx}{f:Value->Value->Sem Value}{r r':R2}(h:OpR X f r)(i:∀x y H Q,r' x y H Q->r x y H Q):OpR X f r':=fun pins s σ H x y v u Q I rx ry q=>h pins s σ H x y v u Q I rx ry (i _ _ _ _ q)
theorem CallR.imp{X:Cx}{f:Value}{r r':List V->Hp->VK->Prop}(h:CallR X f r)(i:∀xs H Q,r' xs H Q->r xs H Q):CallR X f r':=fun pins s σ H xs us Q I rx q=>h pins s σ H xs us Q I rx (i _ _ _ q)
def rD(K:Fg)(g:D->D->Option D):R2:=fun x y H Q=>∃Z a b d,Same Z H/\Rep K Z x a/\Rep K Z y b/\g a b=some d/\∀v Z' H',New Z H Z' H'->Rep K Z' v d->Q v H'
def yE(K:Fg)(g:List D->Option D):List V->Hp->VK->Prop:=fun xs H Q=>∃Z as d,Same Z H/\Reps K Z xs as/\g as=some d/\∀v Z' H',New Z H Z' H'->Rep K Z' v d->Q v H'
def dG(K:Fg)(g:List D->Option D):Sp:=fun vs H Q _=>yE K g vs H Q
section
variable{X:Cx}{a b c e:Expr}{es:List Expr}{pos p:Pos}{f f1 f2 f3:Dv->Option D}{fs:Dv->Option (List D)}{ft fu:Dv->Option Bool}
theorem bind_some{α β:Type}{o:Option α}{k:α -> Option β}{r:β}(h:o.bind k=some r):∃a,o=some a/\k a=some r:=by
 cases o with
 |none=>cases h
 |some a=>exact⟨a,rfl,h⟩
theorem B8{K:Fg}{g:D->D->Option D}{σ:St}{H:Hp}{Q:VK}{r:R2}(hr:∀x y H Q,rD K g x y H Q->r x y H Q)(h:tV K (o2 f1 f2 g) σ H Q):AL r (tV K f1) (tV K f2) σ H Q:=by
 obtain⟨H₀,Z₀,Z,δ,d,hh,e,k⟩:=h;obtain⟨x,e1,e⟩:=bind_some e;obtain⟨y,e2,e⟩:=bind_some e;refine⟨H₀,Z₀,Z,δ,x,hh,e1,fun v Z1 H1 hh1 s1 r1=>⟨H₀,Z₀,Z1,δ,y,hh1,e2,fun u Z2 H2 hh2 s2 r2=>hr _ _ _ _ ⟨Z2,x,y,d,hh2.zh,r1.same s2,r2,e,fun w Z3 H3 n r3=>?_⟩⟩⟩
 exact k w Z3 H3 (hh2.new n) ((s1.trans s2).trans n.z) r3
theorem ai{op:Operator}{g:D->D->Option D}(ho:OpR X (binaryOp op) (rD X.K g))(ha:EV X a f1)(hb:EV X b f2):EV X (.BinOp a op b pos) (o2 f1 f2 g):=
 PE.imp (Ba ho ha hb) fun _ _ _ h=>B8 (fun _ _ _ _ q=>q) h
theorem gk{op:CmpOp}{g:D->D->Option D}(ho:OpR X (compareOp op) (rD X.K g))(ha:EV X a f1)(hb:EV X b f2)(hm:behindInMarks op b=false):EV X (.Compare a [op] [b] pos) (o2 f1 f2 g):=
 PE.imp (wn ho ha hb hm) fun _ _ _ h=>B8 (fun _ _ _ _ q=>q) h
theorem qe{d:D}{b:Bool}(h:asB d=some b):d=.bool b:=by
 cases d<;>simp[asB]at h;subst h;rfl
theorem Ek{K:Fg}{σ:St}{H:Hp}{Q:Bool->Hp->Prop}(h:AI K (ob f) σ H Q):tV K f σ H fun x H1=>∃c,x=.bl c/\Q c H1:=by
 obtain⟨H₀,Z₀,Z,δ,d,hh,e,k⟩:=h;obtain⟨x,e1,e⟩:=bind_some e;have:=qe e;subst this;exact⟨H₀,Z₀,Z,δ,_,hh,e1,fun v Z1 H1 hh1 s1 r1=>⟨_,r1.bl_eq,k Z1 H1 hh1 s1⟩⟩
theorem aH{op:CmpOp}{g:D->D->Option D}(ho:OpR X (compareOp op) (rD X.K g))(ha:EV X a f1)(hb:EV X b f2)(hm:behindInMarks op b=false):TV X (.Compare a [op] [b] pos) (ob (o2 f1 f2 g)):=
 PT.imp (wa ho ha hb hm) fun σ H Q h=>by
  have h':=Ek h;exact B8 (f1:=f1) (f2:=f2) (g:=g) (fun _ _ _ _ q=>q) h'
theorem dE(ha:EV X a f)(he:∀whole,isTrue a X.env whole=(do let v <-whole;standAt a.pos;holding [v] (truthy v)):=by intro _;rfl):TV X a (ob f):=
 PT.imp (yI ha he) fun _ _ _ h=>Ek h
def WV(X:Cx)(e:Expr)(f:Dv->Option Bool):Prop:=PW X e (AI X.K f)
theorem PW.imp{X:Cx}{e:Expr}{t t':TT}(h:PW X e t)(i:∀ σ H Q,t' σ H Q->t σ H Q):PW X e t':=fun whole pins s σ H Q I hw=>h whole pins s σ H Q I (i _ _ _ hw)
theorem qj(ha:TV X a ft):WV X (.BoolOp .And [a] pos) ft:=v9 ha
theorem iJ(ha:TV X a ft):WV X (.BoolOp .Or [a] pos) ft:=yF ha
theorem sR{rest:List Expr}(ha:TV X a ft)(hb:WV X (.BoolOp .And (b::rest) pos) fu):WV X (.BoolOp .And (a::b::rest) pos) (um ft fu):=
 PW.imp (yG ha hb) fun σ H Q h=>by
  obtain⟨H₀,Z₀,Z,δ,d,hh,e,k⟩:=h;obtain⟨x,e1,e⟩:=bind_some e;refine⟨H₀,Z₀,Z,δ,x,hh,e1,fun Z1 H1 hh1 s1=>?_⟩
  cases x with
  |true=>exact⟨H₀,Z₀,Z1,δ,d,hh1,e,fun Z2 H2 hh2 s2=>k Z2 H2 hh2 (s1.trans s2)⟩
  |false=>cases e;exact k Z1 H1 hh1 s1
theorem lE{rest:List Expr}(ha:TV X a ft)(hb:WV X (.BoolOp .Or (b::rest) pos) fu):WV X (.BoolOp .Or (a::b::rest) pos) (wy ft fu):=
 PW.imp (A7 ha hb) fun σ H Q h=>by
  obtain⟨H₀,Z₀,Z,δ,d,hh,e,k⟩:=h;obtain⟨x,e1,e⟩:=bind_some e;refine⟨H₀,Z₀,Z,δ,x,hh,e1,fun Z1 H1 hh1 s1=>?_⟩
  cases x with
  |true=>cases e;exact k Z1 H1 hh1 s1
  |false=>exact⟨H₀,Z₀,Z1,δ,d,hh1,e,fun Z2 H2 hh2 s2=>k Z2 H2 hh2 (s1.trans s2)⟩
theorem WV.tv(h:WV X a ft):TV X a ft:=PW.pt h
theorem fU(ha:TV X a ft):TV X (.UnaryOp .Not a pos) (iR ft):=
 PT.imp (yJ ha) fun σ H Q h=>by
  obtain⟨H₀,Z₀,Z,δ,d,hh,e,k⟩:=h;cases e1:ft δ with
  |none=>unfold iR at e;rw[e1]at e;cases e
  |some x=>
   unfold iR at e;rw[e1]at e;cases e;exact⟨H₀,Z₀,Z,δ,x,hh,e1,fun Z1 H1 hh1 s1=>k Z1 H1 hh1 s1⟩
theorem pU{op}(h:EV X a f):EV X (.BoolOp op [a] pos) f:=yS h
theorem mZ{rest:List Expr}(ha:EV X a f1)(hb:EV X (.BoolOp .And (b::rest) pos) f2):EV X (.BoolOp .And (a::b::rest) pos) (oi f1 f2):=
 PE.imp (yX ha hb) fun σ H Q h=>by
  obtain⟨H₀,Z₀,Z,δ,d,hh,e,k⟩:=h;obtain⟨x,e1,e⟩:=bind_some e;obtain⟨c,e2,e⟩:=bind_some e;have:=qe e2;subst this;refine⟨H₀,Z₀,Z,δ,_,hh,e1,fun v Z1 H1 hh1 s1 r1=>⟨c,r1.bl_eq,?_⟩⟩
  cases c with
  |true=>exact⟨H₀,Z₀,Z1,δ,d,hh1,e,fun v Z2 H2 hh2 s2 r2=>k v Z2 H2 hh2 (s1.trans s2) r2⟩
  |false=>cases e;exact k _ Z1 H1 hh1 s1 (.bl false)
theorem zR(ha:EV X a f):EV X (.UnaryOp .Not a pos) (o1 f wA):=
 PE.imp (yT ha) fun σ H Q h=>by
  obtain⟨H₀,Z₀,Z,δ,d,hh,e,k⟩:=h;obtain⟨x,e1,e⟩:=bind_some e;cases e2:asB x with
  |none=>unfold wA at e;rw[e2]at e;cases e
  |some c=>
   unfold wA at e;rw[e2]at e;cases e;have:=qe e2;subst this;exact⟨H₀,Z₀,Z,δ,_,hh,e1,fun v Z1 H1 hh1 s1 r1=>⟨c,r1.bl_eq,k _ Z1 H1 hh1 s1 (.bl _)⟩⟩
theorem gj(hc:TV X c ft)(ha:EV X a f1)(hb:EV X b f2):EV X (.IfExp c a b pos) (ul ft f1 f2):=
 PE.imp (ua hc ha hb) fun σ H Q h=>by
  obtain⟨H₀,Z₀,Z,δ,d,hh,e,k⟩:=h;obtain⟨x,e1,e⟩:=bind_some e;refine⟨H₀,Z₀,Z,δ,x,hh,e1,fun Z1 H1 hh1 s1=>?_⟩
  cases x with
  |true=>exact⟨H₀,Z₀,Z1,δ,d,hh1,e,fun v Z2 H2 hh2 s2 r2=>k v Z2 H2 hh2 (s1.trans s2) r2⟩
  |false=>exact⟨H₀,Z₀,Z1,δ,d,hh1,e,fun v Z2 H2 hh2 s2 r2=>k v Z2 H2 hh2 (s1.trans s2) r2⟩
theorem Hold.read{K:Fg}{H₀ Z₀ Z H:Hp}{δ:Dv}{σ:St}(hh:Hold K H₀ Z₀ Z δ σ H){i:Nat}{d:D}(h:oV i δ = some d):∃v,σ[i]? = some (some v)/\Rep K Z v d:=by
 unfold oV at h;cases q:δ[i]? with
 |none=>rw[q]at h;cases h
 |some x=>
  rw[q]at h;cases x with
  |fz e=>cases h;exact hh.fz i _ q
  |un=>cases h
  |own _=>cases h
  |fr ds=>
   cases h;obtain⟨a,xs,h1,_,_,h4,h5⟩:=hh.fr i ds q;exact⟨.ref a,h1,.lst (SqL.of h4) h5⟩
theorem aa(i:Nat){x:Str}(hN:X.N[i]? = some x:=by rfl)(hv:Ak X.env.scope x:=by first|exact Or.inl rfl|exact Or.inr (Or.inl rfl)|exact Or.inr (Or.inr rfl))(hd:(x==("__debug__":Str))=false:=by decide)(hcd:(x==("__classdict__":Str))=false:=by decide):
  EV X (.Name x pos) (oV i):=
 PE.imp (j3 hN hv hd hcd) fun σ H Q h=>by
  obtain⟨H₀,Z₀,Z,δ,d,hh,e,k⟩:=h;obtain⟨v,q,r⟩:=hh.read e;exact⟨v,q,k v Z H hh (Same.refl _) r⟩
theorem uT{d:D}{v:V}(h:PE X e (tC v))(r:∀Z,Rep X.K Z v d):EV X e (oC d):=
 PE.imp h fun σ H Q h=>by
  obtain⟨H₀,Z₀,Z,δ,d',hh,e,k⟩:=h;cases e;exact k v Z H hh (Same.refl _) (r Z)
theorem ad{i j}:EV X (.Constant (.int i) j pos) (oC (.int i)):=uT yV fun _=>.int i
theorem iz{i j}:EV X (.Constant (.bool i) j pos) (oC (.bool i)):=uT Bd fun _=>.bl i
theorem pV{j}:EV X (.Constant .none j pos) (oC .none):=uT yU fun _=>.non
theorem bN{i j}:EV X (.Constant (.str i) j pos) (oC (.str i)):=uT yR fun _=>.str i
theorem ae:AV X [] ak:=
 PA.imp mN fun σ H Q h=>by
  obtain⟨H₀,Z₀,Z,δ,d,hh,e,k⟩:=h;cases e;exact k [] Z H hh (Same.refl _) .nil
theorem ab(ha:EV X e f)(hr:AV X es fs)(hs:starEach (e::es) X.env=(false,eval e X.env)::starEach es X.env:=by rfl):AV X (e::es) (ac f fs):=
 PA.imp (ik ha hr hs) fun σ H Q h=>by
  obtain⟨H₀,Z₀,Z,δ,d,hh,e,k⟩:=h;obtain⟨x,e1,e⟩:=bind_some e;obtain⟨xs,e2,e⟩:=bind_some e;cases e;exact⟨H₀,Z₀,Z,δ,x,hh,e1,fun v Z1 H1 hh1 s1 r1=>⟨H₀,Z₀,Z1,δ,xs,hh1,e2,fun vs Z2 H2 hh2 s2 r2=>k _ Z2 H2 hh2 (s1.trans s2) (.cons (r1.same s2) r2)⟩⟩
theorem bA{x1}(h:AV X es fs):EV X (.Tuple es x1 pos) (os fs cK):=
 PE.imp (yQ h) fun σ H Q h=>by
  obtain⟨H₀,Z₀,Z,δ,d,hh,e,k⟩:=h;obtain⟨xs,e1,e⟩:=bind_some e;refine⟨H₀,Z₀,Z,δ,xs,hh,e1,fun vs Z1 H1 hh1 s1 r1=>?_⟩
  by_cases hl:xs.length<=sizeLine
  ·rw[cK,if_pos hl]at e
   cases e;refine⟨by rw[r1.length];exact hl,fun p hp=>?_⟩
   have n:=New.add hh1.zh hp (.tup vs);exact k _ _ _ (hh1.new n) (s1.trans n.z) (.tup (SqT.of aG) (r1.same n.z))
  ·rw[cK,if_neg hl]at e;cases e
theorem pW(h:AV X es fs):EV X (.List es pos) (os fs lj):=
 PE.imp (t9 h) fun σ H Q h=>by
  obtain⟨H₀,Z₀,Z,δ,d,hh,e,k⟩:=h;obtain⟨xs,e1,e⟩:=bind_some e;refine⟨H₀,Z₀,Z,δ,xs,hh,e1,fun vs Z1 H1 hh1 s1 r1=>?_⟩
  by_cases hl:xs.length<=sizeLine
  ·rw[lj,if_pos hl]at e
   cases e;refine⟨by rw[r1.length];exact hl,fun p hp=>?_⟩
   have n:=New.add hh1.zh hp (.lst vs);exact k _ _ _ (hh1.new n) (s1.trans n.z) (.lst (SqL.of aG) (r1.same n.z))
  ·rw[lj,if_neg hl]at e;cases e
theorem args{K:Fg}{g:List D->Option D}{σ:St}{H:Hp}{Q:VK}(h:tV K (os fs g) σ H Q):Em K fs σ H fun vs H1=>yE K g vs H1 Q:=by
 obtain⟨H₀,Z₀,Z,δ,d,hh,e,k⟩:=h;obtain⟨xs,e1,e⟩:=bind_some e;exact⟨H₀,Z₀,Z,δ,xs,hh,e1,fun vs Z1 H1 hh1 s1 r1=>⟨Z1,xs,d,hh1.zh,r1,e,fun w Z3 H3 n r3=>k w Z3 H3 (hh1.new n) (s1.trans n.z) r3⟩⟩
theorem dc{x:Str}{id:String}{g:List D->Option D}(hc:CallR X (.builtin id) (yE X.K g))(hg:Gl X x)(hm:X.mg x=none)(hv:bootBuiltins x=some (.builtin id))(ha:AV X (e::es) fs)(hn:x ≠ "__name__":=by decide)(hdb:(x==("__debug__":Str))=false:=by decide)
  (he:starEach (e::es) X.env=(false,eval e X.env)::starEach es X.env:=by rfl) (hpl:(backTo pos (starEach es X.env)).any (·.1)=false:=by rfl):EV X (.Call (.Name x p) (e::es) [] pos) (os fs g):=
 PE.imp (nX hc hg hm hv ha hn hdb he hpl) fun _ _ _ h=>args h
theorem e9{x:Str}{id:String}{g:List D->Option D}(hc:CallR X (.type id) (yE X.K g))(hg:Gl X x)(hm:X.mg x=none)(hv:bootBuiltins x=some (.type id))(ha:AV X (e::es) fs)(hn:x ≠ "__name__":=by decide)(hdb:(x==("__debug__":Str))=false:=by decide)
  (he:starEach (e::es) X.env=(false,eval e X.env)::starEach es X.env:=by rfl) (hpl:(backTo pos (starEach es X.env)).any (·.1)=false:=by rfl):EV X (.Call (.Name x p) (e::es) [] pos) (os fs g):=
 PE.imp (rU hc hg hm hv ha hn hdb he hpl) fun _ _ _ h=>args h
theorem xb{k:Nat}{fa:Addr}{fd:FuncData}{ps:List Str}{x:Str}{g:List D->Option D}{dd:List D}{dv:List V}{ds:List Value}(F:FnOk X.prog X.w X.K X.mg X.base cJ k fa fd ps (dG X.K g))(hr:Room k X.A)(hg:Gl X x)(hm:X.mg x=some (.ref fa))(hk:PySem.W.keepIn X.K (.ref fa)=true)
  (hb:Binds X.K fd ps ds) (hd:Vals dv ds) (hdd:∀Z,Reps X.K Z dv dd) (hx:ny cJ X E0) (ha:AV X (e::es) fs) (hdb:(x==("__debug__":Str))=false:=by decide) (he:starEach (e::es) X.env=(false,eval e X.env)::starEach es X.env:=by rfl) (hpl:(backTo pos (starEach es X.env)).any (·.1)=false:=by rfl) :
  EV X (.Call (.Name x p) (e::es) [] pos) (os fs fun as=>g (as++dd)):=
 PE.imp (wo F hr hg hm hk hb hd hx ha hdb he hpl) fun σ H Q h=>by
  obtain⟨H₀,Z₀,Z,δ,xs,hh,e1,q⟩:=args h;refine⟨H₀,Z₀,Z,δ,xs,hh,e1,fun vs Z1 H1 hh1 s1 r1=>?_⟩
  obtain⟨Z2,as,d,zh,ra,eg,kk⟩:=q vs Z1 H1 hh1 s1 r1;exact⟨Z2,as++dd,d,zh,ra.append (hdd Z2),eg,kk⟩
theorem IxR.imp{r r':R2}(h:IxR X r)(i:∀x y H Q,r' x y H Q->r x y H Q):IxR X r':=fun value slice pins s σ H x y v u Q I rx ry q hs=>h value slice pins s σ H x y v u Q I rx ry (i _ _ _ _ q) hs
theorem aq{g:D->D->Option D}(ho:IxR X (rD X.K g))(ha:EV X a f1)(hb:EV X b f2)(hs:rn b):EV X (.Subscript a b pos) (o2 f1 f2 g):=
 PE.imp (Bb ho ha hb hs) fun _ _ _ h=>B8 (fun _ _ _ _ q=>q) h
end
section
variable{X:Cx}{a b c e tg:Expr}{es:List Expr}{pos p:Pos}{f f1 f2 f3:Dv->Option D}{fs:Dv->Option (List D)}{ft fu:Dv->Option Bool}{st:Stmt}{sts body:List Stmt}{s1 s2:Dv->Option (Fl×Dv)}
theorem qE{F:Value->Value->Sem Value}{g:Int->Int->Int}(h:OpR X F (sO fun i j=>.int (g i j))):OpR X F (rD X.K (iI g)):=
 OpR.imp h fun x y H Q q=>by
  obtain⟨Z,a,b,d,zh,ra,rb,e,k⟩:=q;cases ra<;>cases rb<;>simp[iI]at e;subst e;exact⟨_,_,rfl,rfl,k _ Z H (New.refl zh) (.int _)⟩
theorem uf{F:Value->Value->Sem Value}{g:Int->Int->Bool}(h:OpR X F (sO fun i j=>.bl (g i j))):OpR X F (rD X.K (iB g)):=
 OpR.imp h fun x y H Q q=>by
  obtain⟨Z,a,b,d,zh,ra,rb,e,k⟩:=q;cases ra<;>cases rb<;>simp[iB]at e;subst e;exact⟨_,_,rfl,rfl,k _ Z H (New.refl zh) (.bl _)⟩
theorem nZ{F:Value->Value->Sem Value}{P:Int->Int->Prop}{C:Int->Int->Bool}{g:Int->Int->Int}(h:OpR X F (rI P fun i j=>.int (g i j)))(hc:∀i j,C i j=true->P i j):OpR X F (rD X.K (iC C g)):=
 OpR.imp h fun x y H Q q=>by
  obtain⟨Z,a,b,d,zh,ra,rb,e,k⟩:=q;cases ra with
  |int i=>
   cases rb with
   |int j=>
    by_cases hh:C i j=true
    ·simp only[iC,if_pos hh]at e
     cases e;exact⟨_,_,rfl,rfl,hc _ _ hh,k _ Z H (New.refl zh) (.int _)⟩
    ·simp only[iC,if_neg hh]at e
     cases e
   |_=>simp[iC]at e
  |_=>simp[iC]at e
theorem iA:OpR X (binaryOp .Sub) (rD X.K jj):=qE y9
theorem gn:OpR X (binaryOp .Mult) (rD X.K io):=nZ (P:=fun i j=>IntMulOk i j) (Bi fun _ _ _ _ _ _ _ hc q=>mul_int q hc) fun i j h=>of_decide_eq_true h
theorem kC:OpR X (binaryOp .FloorDiv) (rD X.K m6):=nZ wv fun i j h=>(of_decide_eq_true h:0<j/\j<1073741824)
theorem cf:OpR X (binaryOp .Mod) (rD X.K cW):=nZ zc fun i j h=>of_decide_eq_true h
theorem lU:OpR X (binaryOp .LShift) (rD X.K gI):=nZ (P:=fun i j=>0<=j/\(Builtin.Int.intBits i:Int)+j<=2^27) (Bi fun _ _ _ _ _ _ _ hc q=>lshift_int hc.1 hc.2 q) fun i j h=>of_decide_eq_true h
theorem lT:OpR X (binaryOp .RShift) (rD X.K fj):=nZ za fun i j h=>of_decide_eq_true h
theorem de:OpR X (binaryOp .BitAnd) (rD X.K dB):=qE ze
theorem xi:OpR X (binaryOp .BitOr) (rD X.K y0):=qE Be
theorem eG:OpR X (binaryOp .BitXor) (rD X.K gU):=qE y8
theorem sB:OpR X (compareOp .Lt) (rD X.K zn):=uf Bf
theorem DD:OpR X (compareOp .Gt) (rD X.K Dy):=uf Bg
theorem DF:OpR X (compareOp .GtE) (rD X.K Dz):=uf Bh
theorem Rep.str_eq{K:Fg}{Z:Hp}{v:V}{x:Str}(h:Rep K Z v (.str x)):v=.str x:=by cases h;rfl
theorem Rep.tup_ex{K:Fg}{Z:Hp}{v:V}{ds:List D}(h:Rep K Z v (.tuple ds)):∃a xs,v=.ref a/\SqT K Z a xs/\Reps K Z xs ds:=by
 cases h with
 |tup p q=>exact⟨_,_,rfl,p,q⟩
theorem Rep.lst_ex{K:Fg}{Z:Hp}{v:V}{ds:List D}(h:Rep K Z v (.list ds)):∃a xs,v=.ref a/\SqL K Z a xs/\Reps K Z xs ds:=by
 cases h with
 |lst p q=>exact⟨_,_,rfl,p,q⟩
theorem ir{p:Prop}[Decidable p]{α:Type}{x y:α}(h:(if p then some x else none)=some y):p/\x=y:=by
 by_cases q:p
 ·rw[if_pos q]at h;exact⟨q,Option.some.inj h⟩
 ·rw[if_neg q]at h;cases h
theorem Ai{a b d:D}(h:eT a b=some d):(∃i,a=.int i)\/(∃x,a=.str x)\/(∃xs,a=.list xs)\/∃xs,a=.tuple xs:=by
 cases a with
 |int i=>exact .inl ⟨_,rfl⟩
 |str i=>exact .inr (.inl ⟨_,rfl⟩)
 |list i=>exact .inr (.inr (.inl ⟨_,rfl⟩))
 |tuple i=>exact .inr (.inr (.inr ⟨_,rfl⟩))
 |_=>cases h
theorem Aj{i:Int}{b d:D}(h:eT (.int i) b=some d):∃j,b=.int j/\d=.int (i+j):=by
 cases b with
 |int j=>exact⟨j,rfl,(Option.some.inj h).symm⟩
 |_=>cases h
theorem Ag{i:Str}{b d:D}(h:eT (.str i) b=some d):∃j,b=.str j/\i.length+j.length<=sizeLine/\d=.str (i++j):=by
 cases b with
 |str j=>obtain⟨p,q⟩:=ir h;exact⟨j,rfl,p,q.symm⟩
 |_=>cases h
theorem Ah{i:List D}{b d:D}(h:eT (.list i) b=some d):∃j,b=.list j/\i.length+j.length<=sizeLine/\d=.list (i++j):=by
 cases b with
 |list j=>obtain⟨p,q⟩:=ir h;exact⟨j,rfl,p,q.symm⟩
 |_=>cases h
theorem Af{i:List D}{b d:D}(h:eT (.tuple i) b=some d):∃j,b=.tuple j/\i.length+j.length<=sizeLine/\d=.tuple (i++j):=by
 cases b with
 |tuple j=>obtain⟨p,q⟩:=ir h;exact⟨j,rfl,p,q.symm⟩
 |_=>cases h
theorem eH:OpR X (binaryOp .Add) (rD X.K eT):=by
 intro pins s σ H x y v u Q I rx ry q;obtain⟨Z,a,b,d,zh,ra,rb,e,k⟩:=q;rcases Ai e with⟨i,rfl⟩|⟨i,rfl⟩|⟨ds,rfl⟩|⟨ds,rfl⟩
 ·obtain⟨j,rfl,rfl⟩:=Aj e
  cases ra.int_eq;cases rb.int_eq;exact zf pins s σ H _ _ v u Q I rx ry ⟨_,_,rfl,rfl,k _ Z H (New.refl zh) (.int _)⟩
 ·obtain⟨j,rfl,hl,rfl⟩:=Ag e
  cases ra.str_eq;cases rb.str_eq;exact pI pins s σ H _ _ v u Q I rx ry ⟨_,_,rfl,rfl,hl,k _ Z H (New.refl zh) (.str _)⟩
 ·obtain⟨es,rfl,hl,rfl⟩:=Ah e
  obtain⟨a,xs,rfl,h1,q1⟩:=ra.lst_ex;obtain⟨b,ys,rfl,h2,q2⟩:=rb.lst_ex;cases rx;cases ry;obtain⟨its,r1,p1,z1⟩:=I.list (SqL.same h1 zh);obtain⟨its2,r2,p2,z2⟩:=I.list (SqL.same h2 zh);obtain⟨⟨cls,dd,data,sl⟩,n1,ho,hc,hdd,hd⟩:=p1;obtain⟨⟨cls2,dd2,data2,sl2⟩,n2,ho2,hc2,hdd2,hd2⟩:=p2;simp only at hc hd hc2 hd2;subst hc hd hc2 hd2;have hl1:=r1.length;have hl2:=r2.length;have ql1:=q1.length;have ql2:=q2.length;refine concat_meets ⟨_,ho,rfl⟩ ⟨_,ho2,rfl⟩ noFill_list_add seq_list_add PySem.F.slot_list_add PySem.F.entry_list_add (PySem.F.args_list_add_2 _ _) (list_addW a b its.toArray its2.toArray n1 n2 dd dd2 sl sl2 (by simp;lia)) ⟨ho,ho2,?_⟩;have ea:its.toArray++its2.toArray=(its++its2).toArray:=by simp
  rw[ea];have n:=New.add zh I.fresh (.lst (xs++ys));exact⟨.ref _,_,I.lnew (t':=s.toks) (r1.append r2) (by rw[List.length_append];lia),rfl,k _ _ _ n (.lst (SqL.of aG) ((q1.append q2).same n.z))⟩
 ·obtain⟨es,rfl,hl,rfl⟩:=Af e
  obtain⟨a,xs,rfl,h1,q1⟩:=ra.tup_ex;obtain⟨b,ys,rfl,h2,q2⟩:=rb.tup_ex;by_cases h0:ds.length=0
  ·have hd0:ds=[]:=List.eq_nil_of_length_eq_zero h0
   subst hd0;cases q1;cases rx;cases ry;obtain⟨its,r1,p1,z1⟩:=I.tuple (SqT.same h1 zh);obtain⟨its2,r2,p2,z2⟩:=I.tuple (SqT.same h2 zh);cases r1;obtain⟨⟨cls,dd,data,sl⟩,ho,hc,n,hd⟩:=id p1;obtain⟨⟨cls2,dd2,data2,sl2⟩,ho2,hc2,n2,hd2⟩:=id p2;simp only at hc hd hc2 hd2;subst hc hd hc2 hd2;exact concat_meets ⟨_,ho,rfl⟩ ⟨_,ho2,rfl⟩ noFill_tuple_add seq_tuple_add PySem.F.slot_tuple_add PySem.F.entry_tuple_add (PySem.F.args_tuple_add_2 _ _)
    (tuple_addW0 a b _ its2.toArray n n2 dd dd2 sl sl2 (by simp)) ⟨ho,ho2,⟨.ref b,H,I,rfl,k _ Z H (New.refl zh) (.tup h2 q2)⟩⟩
  refine ww pins s σ H _ _ v u Q I rx ry ⟨a,b,xs,ys,rfl,rfl,SqT.same h1 zh,SqT.same h2 zh,fun z=>h0 (by rw[<-q1.length,z];rfl),by rw[q1.length,q2.length];exact hl,fun z=>?_,fun z p hp=>?_⟩
  ·subst z
   cases q2;rw[List.append_nil]at k;exact k _ Z H (New.refl zh) (.tup h1 q1)
  ·have n:=New.add zh hp (.tup (xs++ys))
   exact k _ _ _ n (.tup (SqT.of aG) ((q1.append q2).same n.z))
theorem jG{d:D}(h:tM d=true):d.canLay0=true:=(Bool.and_eq_true_iff.mp h).1
theorem dP(hu:X.A.units+64<cLine):OpR X (compareOp .Eq) (rD X.K cy):=by
 intro pins s σ H x y v u Q I rx ry q;obtain⟨Z,a,b,d,zh,ra,rb,e,k⟩:=q;by_cases hs:tM a=true/\tM b=true
 ·rw[cy,if_pos hs]at e
  cases e;obtain⟨as,r1⟩:=ra.reads I zh rx (jG hs.1);obtain⟨bs,r2⟩:=rb.reads I zh ry (jG hs.2);exact eq_dataH r1 r2 hs.1 hs.2 hu ⟨.bl _,H,I,rfl,k _ Z H (New.refl zh) (.bl _)⟩
 ·rw[cy,if_neg hs]at e;cases e
theorem kB(hu:X.A.units+64<cLine):OpR X (compareOp .NotEq) (rD X.K neD):=by
 intro pins s σ H x y v u Q I rx ry q;obtain⟨Z,a,b,d,zh,ra,rb,e,k⟩:=q;by_cases hs:tM a=true/\tM b=true
 ·rw[neD,if_pos hs]at e
  cases e;obtain⟨as,r1⟩:=ra.reads I zh rx (jG hs.1);obtain⟨bs,r2⟩:=rb.reads I zh ry (jG hs.2);exact ne_dataH r1 r2 hs.1 hs.2 hu ⟨.bl _,H,I,rfl,k _ Z H (New.refl zh) (.bl _)⟩
 ·rw[neD,if_neg hs]at e;cases e
theorem zM{K:Fg}{Z:Hp}{v:V}{d:D}(r:Rep K Z v d):decide (v=.non)=zN d:=by cases r<;>rfl
theorem BS:OpR X (compareOp .Is) (rD X.K isD):=
 OpR.imp zd fun x y H Q q=>by
  obtain⟨Z,a,b,d,zh,ra,rb,e,k⟩:=q;cases rb<;>simp[isD]at e;subst e;exact⟨rfl,by rw[zM ra];exact k _ Z H (New.refl zh) (.bl _)⟩
theorem Reps.at{K:Fg}{Z:Hp}{vs:List V}{ds:List D}{i:Int}{d:D}(r:Reps K Z vs ds)(h:h8 ds i=some d):∃v,h8 vs i=some v/\Rep K Z v d:=by
 unfold h8 at h ⊢;rw[r.length];obtain⟨j,e,h⟩:=bind_some h;obtain⟨v,q,rr⟩:=r.get h;exact⟨v,by rw[e];exact q,rr⟩
theorem By{a b d:D}(h:aF a b=some d):(∃xs,a=.list xs)\/∃xs,a=.tuple xs:=by
 cases a with
 |list i=>exact .inl ⟨_,rfl⟩
 |tuple i=>exact .inr ⟨_,rfl⟩
 |_=>cases h
theorem x2{xs:List D}{b d:D}(h:aF (.list xs) b=some d):∃i,b=.int i/\h8 xs i=some d:=by
 cases b with
 |int i=>exact⟨i,rfl,h⟩
 |_=>cases h
theorem aA:IxR X (rD X.K aF):=
 IxR.imp (ix_list.or zF) fun x y H Q q=>by
  obtain⟨Z,a,b,d,zh,ra,rb,e,k⟩:=q;rcases By e with⟨xs,rfl⟩|⟨xs,rfl⟩
  ·obtain⟨i,rfl,e⟩:=x2 e
   obtain⟨a,vs,rfl,h1,q1⟩:=ra.lst_ex;cases rb.int_eq;obtain⟨v,ev,rv⟩:=q1.at e;exact .inl ⟨_,_,_,v,rfl,rfl,SqL.same h1 zh,ev,k v Z H (New.refl zh) rv⟩
  ·obtain⟨i,rfl,e⟩:=x2 (xs:=xs) (b:=b) (by cases b<;>exact e)
   obtain⟨a,vs,rfl,h1,q1⟩:=ra.tup_ex;cases rb.int_eq;obtain⟨v,ev,rv⟩:=q1.at e;exact .inr ⟨_,_,_,v,rfl,rfl,SqT.same h1 zh,ev,k v Z H (New.refl zh) rv⟩
theorem jc:CallR X (.builtin "len") (yE X.K d5):=
 CallR.imp u8 fun xs H Q q=>by
  obtain⟨Z,as,d,zh,ra,e,k⟩:=q;cases ra with
  |nil=>cases e
  |cons r1 r2=>
   cases r2 with
   |cons _ _=>cases r1<;>cases e
   |nil=>
    cases r1 with
    |lst h1 q1=>cases e;exact⟨_,_,rfl,.inl ⟨_,SqL.same h1 zh,rfl⟩,k _ Z H (New.refl zh) (by rw[q1.length];exact .int _)⟩
    |tup h1 q1=>cases e;exact⟨_,_,rfl,.inr ⟨_,SqT.same h1 zh,rfl⟩,k _ Z H (New.refl zh) (by rw[q1.length];exact .int _)⟩
    |_=>cases e
theorem iE:CallR X (.type "tuple") (yE X.K eK):=
 CallR.imp lA fun xs H Q q=>by
  obtain⟨Z,as,d,zh,ra,e,k⟩:=q;cases ra with
  |nil=>cases e
  |cons r1 r2=>
   cases r2 with
   |cons _ _=>cases r1<;>cases e
   |nil=>
    cases r1 with
    |lst h1 q1=>cases e;exact⟨_,_,rfl,.inl ⟨SqL.same h1 zh,fun l hl=>let n:=New.add zh hl (.tup _);k _ _ _ n (.tup (SqT.of aG) (q1.same n.z))⟩⟩
    |tup h1 q1=>cases e;exact⟨_,_,rfl,.inr ⟨SqT.same h1 zh,k _ Z H (New.refl zh) (.tup h1 q1)⟩⟩
    |_=>cases e
theorem wE:DY X "int.bit_length" (fun x xs H Q=>∃i,x=.int i/\xs=[]/\Q (.int (Builtin.Int.intBits i)) H):=by
 intro pins s σ H x xs v us Q I rx rs q;obtain⟨i,rfl,rfl,q⟩:=q;obtain⟨t,rfl⟩:=rx;cases rs;exact call_int_bit_length ⟨.int _,H,I.tok _,⟨_,rfl⟩,q⟩
theorem xc{apos:Pos}(ha:EV X a f)(hbase:attributeBase a "bit_length" X.env (eval a X.env)=eval a X.env:=by rfl)(hline:(apos.endLine==pos.line)=true:=by rfl):EV X (.Call (.Attribute a "bit_length" apos) [] [] pos) (o1 f rh):=
 PE.imp (yW PySem.F.plainAttrs_int PySem.F.slot_int_bit_length PySem.F.type_int_bit_length wE ha hbase hline) fun σ H Q h=>by
  obtain⟨H₀,Z₀,Z,δ,d,hh,e,k⟩:=h;obtain⟨x,e1,e⟩:=bind_some e;refine⟨H₀,Z₀,Z,δ,x,hh,e1,fun v Z1 H1 hh1 s1 r1=>?_⟩
  cases r1<;>simp[rh]at e;subst e;exact⟨rfl,_,rfl,rfl,k _ Z1 H1 hh1 s1 (.int _)⟩
theorem zy(K:Fg){t T:String}(ht:t = "NoneType" \/ t = "bool" \/ t = "int" \/ t = "str" \/ t = "list" \/ t = "tuple")(hT:T = "int" \/ T = "bool" \/ T = "str" \/ T = "list" \/ T = "tuple"):PySem.W.kitOne K (.type t) (.type T)=some (zL t T):=by
 rcases ht with rfl|rfl|rfl|rfl|rfl|rfl<;>rcases hT with rfl|rfl|rfl|rfl|rfl<;>rfl
theorem Rep.ty{K:Fg}{Z H:Hp}{v:V}{d:D}(zh:Same Z H)(r:Rep K Z v d)(hD:¬qK d=true):(tyN d = "NoneType" \/ tyN d = "bool" \/ tyN d = "int" \/ tyN d = "str" \/ tyN d = "list" \/ tyN d = "tuple"):=by
 cases r<;>simp[tyN]
 ·exact absurd rfl hD
 ·exact absurd rfl hD
theorem zK{pins:List (Addr×Obj)}{σ:St}{H Z:Hp}{s:Shared}{x:V}{u:Value}{d:D}{T:String}{A:Around}{E:Value->Shared->Prop}{Q:Value->Shared->Prop}(I:Inv X pins σ H s)(zh:Same Z H)(rx:RelV x u)(r:Rep X.K Z x d)(hD:¬qK d=true)
  (hT:T = "int" \/ T = "bool" \/ T = "str" \/ T = "list" \/ T = "tuple") (h:∀tk,Q (.bool (zL (tyN d) T)) { s with toks:=tk }):wpAny (model X.prog X.w) A (call (.builtin "isinstance") [u,.type T]) Q E s:=by
 have ko:=zy X.K (Rep.ty zh r hD) hT;cases r with
 |non=>exact gF I rx (.non) ko h
 |bl b=>exact gF I rx (.bl b) ko h
 |int b=>exact gF I rx (.int b) ko h
 |str b=>exact gF I rx (.str b) ko h
 | @tup a xs ds h1 q1=>
  cases(show u=Value.ref a from rx);obtain⟨its,_,p,_⟩:=I.tuple (SqT.same h1 zh);obtain⟨o,h1,h2,_⟩:=p;exact PySem.W.kia_one PySem.W.kitx_tuple I.kIn ⟨o,h1,h2⟩ ko (fun z=>nomatch z) h
 | @lst a xs ds h1 q1=>
  cases(show u=Value.ref a from rx);obtain⟨its,_,p,_⟩:=I.list (SqL.same h1 zh);obtain⟨o,n,h1,h2,_⟩:=p;exact PySem.W.kia_one PySem.W.kitx_list I.kIn ⟨o,h1,h2⟩ ko (fun z=>nomatch z) h
 |opq h1=>exact absurd rfl hD
 |gdc _ _ _ _=>exact absurd rfl hD
theorem BX(T:String):CallR X (.builtin "isinstance") (fun xs H Q=>∃x Z d r,xs=[x,.ty T]/\Same Z H/\Rep X.K Z x d/\fG T d=some r/\∃b,r=.bool b/\Q (.bl b) H):=by
 intro pins s σ H xs us Q I rv h;obtain⟨x,Z,d,r,rfl,zh,rr,e,b,rfl,q⟩:=h;obtain⟨u,w',rfl,r1,r2⟩:=AD rv;cases(show w'=Value.type T from r2);by_cases hD:qK d=true
 ·rw[fG,if_pos hD]at e;cases e
 by_cases hT:T = "int" \/ T = "bool" \/ T = "str" \/ T = "list" \/ T = "tuple"
 ·rw[fG,if_neg hD,if_pos hT]at e
  cases e;exact zK I zh r1 rr hD hT fun tk=>⟨.bl _,H,I.tok _,rfl,q⟩
 ·rw[fG,if_neg hD,if_neg hT]at e;cases e
theorem mY{x:Str}{T:String}{p2:Pos}(hg:Gl X "isinstance")(hm:X.mg "isinstance" = none)(hgT:Gl X x)(hmT:X.mg x=none)(hvT:bootBuiltins x=some (.type T))(hnT:x ≠ "__name__")(hdT:(x==("__debug__":Str))=false)(ha:EV X a f)
  (he:starEach (a::[.Name x p2]) X.env=(false,eval a X.env)::starEach [.Name x p2] X.env:=by rfl) (he2:starEach ((.Name x p2)::[]) X.env=(false,eval (.Name x p2) X.env)::starEach [] X.env:=by rfl) (hpl:(backTo pos (starEach [.Name x p2] X.env)).any (·.1)=false:=by rfl) :
  EV X (.Call (.Name "isinstance" p) [a,.Name x p2] [] pos) (o1 f (fG T)):=
 PE.imp (nX (BX T) hg hm PyProof.Rows.boot_isinstance (ik ha (ik (wp (v:=.ty T) hgT hmT hvT rfl hnT hdT) mN he2) he) (by decide) (by decide) he hpl) fun σ H Q h=>by
  obtain⟨H₀,Z₀,Z,δ,d,hh,e,k⟩:=h;obtain⟨y,e1,e⟩:=bind_some e;refine⟨H₀,Z₀,Z,δ,y,hh,e1,fun v Z1 H1 hh1 s1 r1=>⟨v,Z1,y,d,rfl,hh1.zh,r1,e,?_⟩⟩
  have:∃b,d=.bool b:=by
   unfold fG at e;split at e
   ·cases e
   ·split at e
    ·cases e;exact⟨_,rfl⟩
    ·cases e
  obtain⟨b,rfl⟩:=this;exact⟨b,rfl,k _ Z1 H1 hh1 s1 (.bl b)⟩
end
section
variable{X:Cx}{a b c e tg iter:Expr}{es:List Expr}{pos p:Pos}{f f1 f2 f3:Dv->Option D}{fs:Dv->Option (List D)}{ft fu:Dv->Option Bool}{st:Stmt}{sts body orelse:List Stmt}{s1 s2 s3:Sf}
theorem ax(he:EV X e f):SV X (.Return (some e) pos) (be f):=
 PS.imp (yK he) fun D σ H h=>by
  obtain⟨H₀,Z₀,Z,δ,r,hh,e,k⟩:=h;obtain⟨x,e1,e⟩:=bind_some e;cases e;exact⟨H₀,Z₀,Z,δ,x,hh,e1,fun v Z1 H1 hh1 s1 r1=>k σ H1 Z1 hh1 s1 v r1⟩
theorem ay(i:Nat){x:Str}{pos':Pos}(hN:X.N.Nodup)(he:EV X e f)(hi:X.N[i]? = some x:=by rfl)(hx:vF X.env.scope x:=by first|exact Or.inl rfl|exact Or.inr rfl)(hs:swapsWith e (some (.Name x pos')) pos.line X.env=pure false:=by rfl)
  (hf:X.fn x=true\/X.env.scope.names.lookup x=some .local:=by first|exact .inl rfl|exact .inr rfl|assumption):SV X (.Assign [.Name x pos'] e pos) (aT i f):=
 PS.imp (t6 hN hi hx he hs hf) fun D σ H h=>by
  obtain⟨H₀,Z₀,Z,δ,r,hh,e,k⟩:=h;obtain⟨x,e1,e⟩:=bind_some e;cases e;exact⟨H₀,Z₀,Z,δ,x,hh,e1,fun v Z1 H1 hh1 s1 r1=>k _ H1 Z1 (hh1.set r1) s1⟩
theorem vU(he:EV X e f)(hs:swapsWith e none pos.line X.env=pure false:=by rfl):SV X (.Expr e pos) (xN f):=
 PS.imp (qA he hs) fun D σ H h=>by
  obtain⟨H₀,Z₀,Z,δ,r,hh,e,k⟩:=h;obtain⟨x,e1,e⟩:=bind_some e;cases e;exact⟨H₀,Z₀,Z,δ,x,hh,e1,fun v Z1 H1 hh1 s1 r1=>k σ H1 Z1 hh1 s1⟩
theorem Bl{D:Ends}{σ:St}{H:Hp}{K:Fg}(h:yn K gK D σ H):D.nx σ H:=by
 obtain⟨H₀,Z₀,Z,δ,r,hh,e,k⟩:=h;cases e;exact k σ H Z hh (Same.refl _)
theorem aW:BV X [] gK:=PSs.imp wc fun D σ H h=>Bl h
theorem ah(h1:SV X st s1)(h2:BV X sts s2):BV X (st::sts) (sSeq s1 s2):=
 PSs.imp (tZ h1 h2) fun D σ H h=>by
  obtain⟨H₀,Z₀,Z,δ,r,hh,e,k⟩:=h;obtain⟨⟨fl,δ'⟩,e1,e⟩:=bind_some e;refine⟨H₀,Z₀,Z,δ,(fl,δ'),hh,e1,fun σ' H' Z' hh' s'=>?_⟩
  cases fl with
  |nx=>exact⟨H₀,Z₀,Z',δ',r,hh',e,fun σ2 H2 Z2 hh2 s2=>by
    have:=k σ2 H2 Z2 hh2 (s'.trans s2);obtain⟨fl,δ2⟩:=r;cases fl<;>exact this⟩
  |bk=>cases e;exact k σ' H' Z' hh' s'
  |ct=>cases e;exact k σ' H' Z' hh' s'
  |rt d=>cases e;exact k σ' H' Z' hh' s'
theorem aj(h1:SV X st s1):BV X [st] s1:=wb h1
theorem bt(hc:TV X c ft)(ha:BV X body s1)(hb:BV X orelse s2):SV X (.If c body orelse pos) (sIf ft s1 s2):=
 PS.imp (A8 hc ha hb) fun D σ H h=>by
  obtain⟨H₀,Z₀,Z,δ,r,hh,e,k⟩:=h;obtain⟨x,e1,e⟩:=bind_some e;refine⟨H₀,Z₀,Z,δ,x,hh,e1,fun Z1 H1 hh1 t1=>?_⟩
  cases x with
  |true=>exact⟨H₀,Z₀,Z1,δ,r,hh1,e,fun σ2 H2 Z2 hh2 t2=>k σ2 H2 Z2 hh2 (t1.trans t2)⟩
  |false=>exact⟨H₀,Z₀,Z1,δ,r,hh1,e,fun σ2 H2 Z2 hh2 t2=>k σ2 H2 Z2 hh2 (t1.trans t2)⟩
theorem BK{K:Fg}(i:Nat){D:Ends}{σ:St}{H:Hp}(h:yn K (fun δ=>s1 (sC i δ)) D σ H):yn K s1 D σ H:=by
 obtain⟨H₀,Z₀,Z,δ,r,hh,e,k⟩:=h;have e:s1 (sC i δ)=some r:=e;unfold sC at e;split at e
 ·rename_i ds q
  obtain⟨Z1,t1,hh1⟩:=hh.frz q;exact⟨H₀,Z₀,Z1,_,r,hh1,e,fun σ2 H2 Z2 hh2 t2=>k σ2 H2 Z2 hh2 (t1.trans t2)⟩
 ·exact⟨H₀,Z₀,Z,_,r,hh,e,k⟩
theorem tH(i:Nat)(h:SV X st s1):SV X st (fun δ=>s1 (sC i δ)):=PS.imp h fun D σ H q=>BK i q
def EG(K:Fg)(g:D->Dv->Option Dv):TG:=fun v σ H Q=>∃H₀ Z₀ Z δ d δ',Hold K H₀ Z₀ Z δ σ H/\Rep K Z v d/\g d δ = some δ'/\∀ σ' H' Z',Hold K H₀ Z₀ Z' δ' σ' H'->Same Z Z'->Q σ' H'
def GV(X:Cx)(tg:Expr)(g:D->Dv->Option Dv):Prop:=PG X tg (EG X.K g)
theorem PG.imp{t t':TG}(h:PG X tg t)(i:∀v σ H Q,t' v σ H Q->t v σ H Q):PG X tg t':=fun pins s σ H x v Q I r q=>h pins s σ H x v Q I r (i _ _ _ _ q)
theorem cn(i:Nat){x:Str}(hN:X.N.Nodup)(hi:X.N[i]? = some x:=by rfl)(hx:vF X.env.scope x:=by first|exact Or.inl rfl|exact Or.inr rfl)
  (hf:X.fn x=true\/X.env.scope.names.lookup x=some .local:=by first|exact .inl rfl|exact .inr rfl|assumption):GV X (.Name x pos) (gN i):=
 PG.imp (b7 hN hi hx hf) fun v σ H Q h=>by
  obtain⟨H₀,Z₀,Z,δ,d,δ',hh,r,e,k⟩:=h;cases e;exact k _ H Z (hh.set r) (Same.refl _)
structure ItOk (K:Fg) (Z:Hp) (J:It) (ds:List D):Prop where
 go:∀(i:Nat) (H:Hp),Same Z H->i<ds.length->J.go i H
 yld:∀(i:Nat) (H:Hp) x H' d,Same Z H->ds[i]? = some d->J.yld i H x H'->H'=H/\Rep K Z x d
 stop:∀(i:Nat) (H:Hp),Same Z H->ds.length<=i->J.stop i H
def Cb(K:Fg)(f:Dv->Option (List D)):TI:=fun σ H R=>∃H₀ Z₀ Z δ ds,Hold K H₀ Z₀ Z δ σ H/\f δ = some ds/\∀J Z' H',Hold K H₀ Z₀ Z' δ σ H'->Same Z Z'->ItOk K Z' J ds->R J H'
def IV(X:Cx)(tg iter:Expr)(f:Dv->Option (List D)):Prop:=PI X tg iter (Cb X.K f)
theorem PI.imp{t t':TI}(h:PI X tg iter t)(i:∀ σ H R,t' σ H R->t σ H R):PI X tg iter t':=fun pins s σ H R I q=>h pins s σ H R I (i _ _ _ q)
theorem dF{g:D->Dv->Option Dv}(hp:PassesOwn (model X.prog X.w) X.A X.env X.xe)(hc:X.calm=true)(hi:IV X tg iter fs)(hg:GV X tg g)(hb:BV X body s1)
  (hs:∀x,foldedSetIterable iter X.env x=pure x:=by intro _;rfl):SV X (.For tg iter body [] pos) (dX fs g s1):=
 PS.imp (yL hp hc hi hg hb hs) fun D σ H h=>by
  obtain⟨H₀,Z₀,Z,δ,r,hh,e,k⟩:=h;obtain⟨ds,e1,e⟩:=bind_some e;refine⟨H₀,Z₀,Z,δ,ds,hh,e1,fun J Z1 H1 hh1 t1 ok=>?_⟩
  refine⟨fun i m σ H=>m=ds.length-i/\i<=ds.length/\∃Zc δc,Hold X.K H₀ Z₀ Zc δc σ H/\Same Z1 Zc/\loop g s1 (ds.drop i) δc=some r,⟨ds.length,by simp,Nat.zero_le _,Z1,δ,hh1,Same.refl _,e⟩,?_⟩
  rintro i m σ2 H2 ⟨rfl,hi2,Zc,δc,hhc,tc,ec⟩;have zh:Same Z1 H2:=tc.trans hhc.zh;by_cases hlt:i<ds.length
  ·refine .inr ⟨ok.go i H2 zh hlt,fun σ3 H3=>∃Zc δc,Hold X.K H₀ Z₀ Zc δc σ3 H3/\Same Z1 Zc/\loop g s1 (ds.drop (i+1)) δc=some r,fun σ3 H3 q=>⟨ds.length-(i+1),by lia,rfl,hlt,q⟩,fun x H3 y=>?_⟩
   have ed:ds[i]? = some ds[i]:=by simp[hlt]
   obtain⟨rfl,rx⟩:=ok.yld i H2 x H3 _ zh ed y;rw[List.drop_eq_getElem_cons hlt]at ec;obtain⟨δ1,g1,ec⟩:=bind_some ec;obtain⟨⟨fl,δ2⟩,g2,ec⟩:=bind_some ec;refine⟨H₀,Z₀,Zc,δc,_,δ1,hhc,rx.same tc,g1,fun σ4 H4 Z4 hh4 t4=>⟨H₀,Z₀,Z4,δ1,(fl,δ2),hh4,g2,fun σ5 H5 Z5 hh5 t5=>?_⟩⟩
   cases fl with
   |nx=>exact⟨Z5,δ2,hh5,(tc.trans t4).trans t5,ec⟩
   |ct=>exact⟨Z5,δ2,hh5,(tc.trans t4).trans t5,ec⟩
   |bk=>cases ec;exact k σ5 H5 Z5 hh5 (((t1.trans tc).trans t4).trans t5)
   |rt d=>cases ec;exact k σ5 H5 Z5 hh5 (((t1.trans tc).trans t4).trans t5)
  ·have e2:ds.drop i=[]:=List.drop_eq_nil_iff.mpr (by lia)
   rw[e2]at ec;cases ec;exact .inl ⟨ok.stop i H2 zh (by lia),k σ2 H2 Zc hhc (t1.trans tc)⟩
theorem tF(n:Dv->Nat)(hp:PassesOwn (model X.prog X.w) X.A X.env X.xe)(hc:TV X c ft)(hb:BV X body s1):SV X (.While c body [] pos) (fun δ=>eu ft s1 (n δ) δ):=
 PS.imp (t0 hp hc hb) fun D σ H h=>by
  obtain⟨H₀,Z₀,Z,δ,r,hh,e,k⟩:=h;refine⟨fun m σ H=>∃Zc δc,Hold X.K H₀ Z₀ Zc δc σ H/\Same Z Zc/\eu ft s1 m δc=some r,⟨n δ,Z,δ,hh,Same.refl _,e⟩,?_⟩
  rintro m σ2 H2 ⟨Zc,δc,hhc,tc,ec⟩;cases m with
  |zero=>cases ec
  |succ m=>
   obtain⟨cc,g1,ec⟩:=bind_some ec;refine⟨H₀,Z₀,Zc,δc,cc,hhc,g1,fun Z3 H3 hh3 t3=>?_⟩
   cases cc with
   |false=>cases ec;exact k σ2 H3 Z3 hh3 (tc.trans t3)
   |true=>
    obtain⟨⟨fl,δ2⟩,g2,ec⟩:=bind_some ec;refine⟨fun σ4 H4=>∃Zc δc,Hold X.K H₀ Z₀ Zc δc σ4 H4/\Same Z Zc/\eu ft s1 m δc=some r,fun σ4 H4 q=>⟨m,Nat.lt_succ_self m,q⟩,?_⟩
    refine⟨H₀,Z₀,Z3,δc,(fl,δ2),hh3,g2,fun σ5 H5 Z5 hh5 t5=>?_⟩
    cases fl with
    |nx=>exact⟨Z5,δ2,hh5,(tc.trans t3).trans t5,ec⟩
    |ct=>exact⟨Z5,δ2,hh5,(tc.trans t3).trans t5,ec⟩
    |bk=>cases ec;exact k σ5 H5 Z5 hh5 ((tc.trans t3).trans t5)
    |rt d=>cases ec;exact k σ5 H5 Z5 hh5 ((tc.trans t3).trans t5)
theorem uH{K:Fg}{Z:Hp}{lo:Int}{n:Nat}:ItOk K Z (Ay lo n) (iM lo n) where
 go:=fun i H _ h=>by simpa[iM,Ay]using h
 yld:=fun i H x H' d _ e y=>by
  obtain⟨rfl,rfl⟩:=y;refine⟨rfl,?_⟩;unfold iM at e;rw[List.getElem?_map]at e;cases q:(List.range n)[i]? with
  |none=>rw[q]at e;cases e
  |some k=>
   rw[q]at e;cases e;have:k=i:=by
    obtain⟨h,h2⟩:=List.getElem?_eq_some_iff.mp q;simpa using h2.symm
   subst this;exact .int _
 stop:=fun i H _ h=>by simpa[iM,Ay]using h
theorem b8(hg:Gl X "range")(hm:X.mg "range" = none)(ha:AV X [a] fs)(hs:starEach [a] X.env=[(false,eval a X.env)]:=by rfl):IV X tg (.Call (.Name "range" p) [a] [] pos) (oL fs bS):=
 PI.imp (rT hg hm ha hs) fun σ H R h=>by
  obtain⟨H₀,Z₀,Z,δ,ds,hh,e,k⟩:=h;obtain⟨as,e1,e⟩:=bind_some e;refine⟨H₀,Z₀,Z,δ,as,hh,e1,fun vs Z1 H1 hh1 t1 r1=>?_⟩
  unfold bS at e;split at e
  ·rename_i j
   split at e
   ·rename_i hj
    cases e;cases r1 with
    |cons q1 q2=>
     cases q2;exact⟨j,by rw[q1.int_eq],hj.2,hj.1,k _ Z1 H1 hh1 t1 uH⟩
   ·cases e
  ·cases e
theorem wT(ha:EV X a f):IV X tg a (oI f wH):=
 PI.imp (wg ha) fun σ H R h=>by
  obtain⟨H₀,Z₀,Z,δ,ds,hh,e,k⟩:=h;obtain⟨y,e1,e⟩:=bind_some e;refine⟨H₀,Z₀,Z,δ,y,hh,e1,fun v Z1 H1 hh1 t1 r1=>?_⟩
  cases r1 with
  | @lst l xs ds' h1 q1=>
   cases e;refine⟨l,rfl,⟨xs,SqL.same h1 hh1.zh⟩,k _ Z1 H1 hh1 t1 ⟨fun i H2 z hi=>?_,fun i H2 x H3 d z ed y=>?_,fun i H2 z hi=>⟨xs,SqL.same h1 z,by rw[q1.length];exact hi⟩⟩⟩
   ·have hi':i<xs.length:=by rw[q1.length];exact hi
    exact⟨xs,xs[i],SqL.same h1 z,by simp[hi']⟩
   ·obtain⟨rfl,y⟩:=y
    obtain⟨v,ev,rv⟩:=q1.get ed;have:=y xs (SqL.same h1 z);rw[ev]at this;cases this;exact⟨rfl,rv⟩
  |_=>cases e
theorem zH(ha:EV X a f):IV X tg a (oI f CB):=
 PI.imp (yO ha) fun σ H R h=>by
  obtain⟨H₀,Z₀,Z,δ,ds,hh,e,k⟩:=h;obtain⟨y,e1,e⟩:=bind_some e;refine⟨H₀,Z₀,Z,δ,y,hh,e1,fun v Z1 H1 hh1 t1 r1=>?_⟩
  cases r1 with
  | @tup l xs ds' h1 q1=>
   cases e;refine⟨l,rfl,⟨xs,SqT.same h1 hh1.zh⟩,k _ Z1 H1 hh1 t1 ⟨fun i H2 z hi=>?_,fun i H2 x H3 d z ed y=>?_,fun i H2 z hi=>⟨xs,SqT.same h1 z,by rw[q1.length];exact hi⟩⟩⟩
   ·have hi':i<xs.length:=by rw[q1.length];exact hi
    exact⟨xs,xs[i],SqT.same h1 z,by simp[hi']⟩
   ·obtain⟨rfl,y⟩:=y
    obtain⟨v,ev,rv⟩:=q1.get ed;have:=y xs (SqT.same h1 z);rw[ev]at this;cases this;exact⟨rfl,rv⟩
  |_=>cases e
end
section
variable{X:Cx}{e:Expr}{lo hi:Option Expr}{p2 pos:Pos}{f:Dv->Option D}
noncomputable def EF(K:Fg)(f:Dv->Option (Option Int)):TO:=fun σ H Q=>∃H₀ Z₀ Z δ d,Hold K H₀ Z₀ Z δ σ H/\f δ = some d/\∀Z' H',Hold K H₀ Z₀ Z' δ σ H'->Same Z Z'->Q d H'
def OV(X:Cx)(e:Option Expr)(f:Dv->Option (Option Int)):Prop:=PO X e (EF X.K f)
theorem PO.imp{eo:Option Expr}{t t':TO}(h:PO X eo t)(i:∀ σ H Q,t' σ H Q->t σ H Q):PO X eo t':=fun pins s σ H Q I q=>h pins s σ H Q I (i _ _ _ q)
theorem qD(h:EV X e f):OV X (some e) (oP f):=PO.imp (wf h) fun σ H Q h=>by
 obtain⟨H₀,Z₀,Z,δ,d,hh,e,k⟩:=h;obtain⟨x,e1,e⟩:=bind_some e;refine⟨H₀,Z₀,Z,δ,x,hh,e1,fun v Z1 H1 hh1 t1 r1=>?_⟩
 cases r1<;>simp[asI]at e;subst e;exact⟨_,rfl,k Z1 H1 hh1 t1⟩
theorem Reps.cut{K:Fg}{Z:Hp}{vs:List V}{ds:List D}(r:Reps K Z vs ds)(lo hi:Option Int):Reps K Z (lw vs lo hi) (oS ds lo hi):=by
 unfold lw oS;rw[r.length];exact(r.drop _).take _
theorem pX{ds:List D}{lo hi:Option Int}(h1:HT.sIx ds.length 0 lo=0)(h2:HT.sIx ds.length ds.length hi=ds.length):oS ds lo hi=ds:=by
 unfold oS;rw[h1,h2];simp
section
variable{prog:Program}{w:World}{A:Around}{E:Value->Shared->Prop}{s:Shared}
theorem mC{t sl:Addr}{items:Array Value}{vl vu:Value}{lo hi:Option Int}{Q:Value->Shared->Prop}(ht:IsTup s.heap t items)(hs:s.heap.IsSliceOf sl vl vu .none)(pl:IsPart vl lo)(pu:IsPart vu hi)
  (h1:HT.sIx items.size 0 lo=0) (h2:HT.sIx items.size items.size hi=items.size) (h:Q (.ref t) s):wpAny (model prog w) A (getItem (.ref t) (.ref sl)) Q E s:=by
 obtain⟨osl,hos,hcs,hds⟩:=id hs;have ty:s.TypeIs (.ref sl) "slice":=⟨osl,hos,hcs⟩;unfold getItem
 try with_reducible refine wpAny_holding ?_
 first|refine wpAny_bind (wpAny_pure ?_)|skip
 refine wpAny_bind (wpAny_sequenceKey ht.typeIs (by decide) ?_);refine wpAny_bind (wpAny_callSpecial?_slot (name:=Str.ofString "__getitem__") ht.typeIs PyProof.Rows.slot_tuple_getitem
  (wpAny_call_entry PyProof.Rows.slot_tuple_getitem ht.typeIs PyProof.Rows.entry_tuple_getitem ?_ (PyProof.Rows.args_tuple_getitem _ _)))
 show wpAny _ _ (Builtin.Tuple.tupleItemsOf (.ref t) >>= _) _ _ s;refine wpAny_bind (tupleItemsOf_ ht ?_);refine wpAny_bind (wpAny_typeOf ty ?_);rw[if_pos (by decide)];refine wpAny_bind (HT.eW hs pl pu ?_);have yes:(((((HT.sIx items.size 0 lo:Nat):Int)==0)&&((1:Int)==1))&&((HT.sIx items.size items.size hi-HT.sIx items.size 0 lo)==items.size))=true:=by
  rw[h1,h2];simp
 show wpAny _ _ (if(((((HT.sIx items.size 0 lo:Nat):Int)==0)&&((1:Int)==1))&&((HT.sIx items.size items.size hi-HT.sIx items.size 0 lo)==items.size))=true then _ else _) _ _ s;rw[if_pos yes];unfold Builtin.Tuple.tupleIsExact;refine wpAny_bind (wpAny_bind (wpAny_typeOf ht.typeIs (wpAny_pure ?_)));rw[if_pos (by decide)];exact wpAny_bind (wpAny_rule (wpAny_pure ⟨_,rfl,wpAny_pure h⟩))
end
def C9(K:PySem.W.Frag):V->Option Int->Option Int->Hp->VK->Prop:=fun x lo hi H Q=>∃a xs,x=.ref a/\SqT K H a xs/\HT.sIx xs.length 0 lo=0/\HT.sIx xs.length xs.length hi=xs.length/\Q (.ref a) H
theorem v5:SlR X (C9 X.K):=by
 intro pins s σ H x v vl vu lo hi sl Q I rx hs pl pu h;obtain⟨a,xs,rfl,hx,w1,w2,q⟩:=h;cases rx;obtain⟨its,r,ht,hz⟩:=I.tuple hx;have hlen:its.toArray.size=xs.length:=by rw[List.size_toArray];exact r.length.symm
 refine⟨"tuple",_,PyProof.Rows.slot_tuple_getitem.lookup,ht.typeIs,?_⟩;exact mC ht hs pl pu (by rw[hlen];exact w1) (by rw[hlen];exact w2) ⟨.ref a,H,I,rfl,q⟩
theorem uR{fl fu:Dv->Option (Option Int)}(he:EV X e f)(hl:OV X lo fl)(hu:OV X hi fu):EV X (.Subscript e (.Slice lo hi none p2) pos) (Er f fl fu):=
 PE.imp (t8 (sl_list.or (sl_tup.or v5)) he hl hu) fun σ H Q h=>by
  obtain⟨H₀,Z₀,Z,δ,d,hh,e,k⟩:=h;obtain⟨x,e1,e⟩:=bind_some e;obtain⟨i,e2,e⟩:=bind_some e;obtain⟨j,e3,e⟩:=bind_some e;refine⟨H₀,Z₀,Z,δ,x,hh,e1,fun v Z1 H1 hh1 t1 r1=>⟨H₀,Z₀,Z1,δ,i,hh1,e2,fun Z2 H2 hh2 t2=>⟨H₀,Z₀,Z2,δ,j,hh2,e3,fun Z3 H3 hh3 t3=>?_⟩⟩⟩
  have r3:=(r1.same t2).same t3;have tt:=(t1.trans t2).trans t3;cases r3 with
  | @lst a xs ds h1 q1=>
   cases e;refine .inl ⟨_,_,rfl,SqL.same h1 hh3.zh,fun p hp=>?_⟩
   have n:=New.add hh3.zh hp (.lst (lw xs i j));exact k _ _ _ (hh3.new n) (tt.trans n.z) (.lst (SqL.of aG) ((q1.cut i j).same n.z))
  | @tup a xs ds h1 q1=>
   simp only[Cc]at e;cases e;by_cases hw:HT.sIx ds.length 0 i=0/\HT.sIx ds.length ds.length j=ds.length
   ·refine .inr (.inr ⟨_,_,rfl,SqT.same h1 hh3.zh,by rw[q1.length];exact hw.1,by rw[q1.length];exact hw.2,?_⟩)
    refine k _ _ _ hh3 tt ?_;rw[pX hw.1 hw.2];exact .tup h1 q1
   ·refine .inr (.inl ⟨_,_,rfl,SqT.same h1 hh3.zh,by rw[q1.length];exact hw,fun p hp=>?_⟩)
    have n:=New.add hh3.zh hp (.tup (lw xs i j));exact k _ _ _ (hh3.new n) (tt.trans n.z) (.tup (SqT.of aG) ((q1.cut i j).same n.z))
  |_=>cases e
end
structure FunV (K:PySem.W.Frag) (x qual:Str) (st:Stmt) (f:Addr) (fd:FuncData) (dV:Value):Prop where
 ex:∃(oc:Value) (od:Option Addr) (kV doc pm:Value) (an:Option Addr) (cdv ct:Value) (osl:Array (Option Value)),
  fd=PySem.W.fnOf x qual (cq st) (bD st) (af st) dV kV doc pm an cdv ct/\K.lookup f=some ⟨oc,od,.func fd,osl⟩/\PySem.W.codeIn K cdv qual=true
 kp:PySem.W.keepIn K (.ref f)=true
section
variable{P:Program}{w:World}{K:PySem.W.Frag}{mg:Str->Option Value}{base:Heap}
theorem rM{N:List Str}{vs:List V}{as:List D}{Z:Hp}(r:Reps K Z vs as):∀(i:Nat) d,(av N as)[i]? = some (.fz d)->∃v,(fQ N vs)[i]? = some (some v)/\Rep K Z v d:=by
 intro i d e;unfold av at e;unfold L2.fQ;by_cases hi:i<as.length
 ·rw[List.getElem?_append_left (by simpa using hi),List.getElem?_map]at e
  cases q:as[i]? with
  |none=>rw[q]at e;cases e
  |some d'=>
   rw[q]at e;cases e;obtain⟨v,ev,rv⟩:=r.get q;exact⟨v,by rw[List.getElem?_append_left (by simpa[r.length]using hi),List.getElem?_map,ev];rfl,rv⟩
 ·rw[List.getElem?_append_right (by simpa using hi),List.getElem?_replicate]at e
  split at e<;>cases e
theorem lI{N:List Str}{as:List D}:∀(i:Nat) ds,(av N as)[i]? ≠ some (.own ds):=by
 intro i ds e;unfold av at e;by_cases hi:i<as.length
 ·rw[List.getElem?_append_left (by simpa using hi),List.getElem?_map]at e
  cases q:as[i]? with
  |none=>rw[q]at e;cases e
  |some d'=>rw[q]at e;cases e
 ·rw[List.getElem?_append_right (by simpa using hi),List.getElem?_replicate]at e
  split at e<;>cases e
theorem tJ{N:List Str}{as:List D}:∀(i:Nat) ds,(av N as)[i]? ≠ some (.fr ds):=by
 intro i ds e;unfold av at e;by_cases hi:i<as.length
 ·rw[List.getElem?_append_left (by simpa using hi),List.getElem?_map]at e
  cases q:as[i]? with
  |none=>rw[q]at e;cases e
  |some d'=>rw[q]at e;cases e
 ·rw[List.getElem?_append_right (by simpa using hi),List.getElem?_replicate]at e
  split at e<;>cases e
theorem g6{N:List Str}{vs:List V}{as:List D}{Z H:Hp}(zh:Same Z H)(r:Reps K Z vs as):Hold K H Z Z (av N as) (fQ N vs) H:=
 ⟨zh,Same.refl _,Same.refl _,fun _ _=>rfl,by simp[av,L2.fQ,r.length],rM r,fun i ds e=>absurd e (lI i ds),fun i j ds es a _ e=>absurd e (lI i ds),fun i ds e=>absurd e (tJ i ds),NoF.refl _⟩
theorem DC{x qual:Str}{st:Stmt}{f:Addr}{fd:FuncData}{dV:Value}{N ps:List Str}{k:Nat}{g:List D->Option D}{b:Sf}(F:FunV K x qual st f fd dV)(S:FnScope N ps (af st))(len:∀as d,g as=some d->as.length=ps.length)
  (hb:∀(cdv:Value) (A:Around) (outer:List Env) (s:Shared) (H:Hp) (E:XK),Room k (A.deeper (envOfC qual (af st) s.heap.objs.size f cdv))->BV (lq cJ P w K mg base N qual (af st) f cdv A outer s H E).nox (bD st) b)
  (hg:∀as d,g as=some d->∃ δ',b (av N as)=some (.rt d,δ')\/(d=.none/\b (av N as)=some (.nx,δ'))):FnOk P w K mg base cJ (k+1) f fd ps (dG K g):=by
 obtain⟨oc,od,kV,doc,pm,an,cdv,ct,osl,rfl,lk,hcd⟩:=F.ex;refine BL lk hcd S (fun vs H Q E h=>?_) fun A outer s H vs Q E hr hsp=>?_
 ·obtain⟨Z,as,d,zh,r,e,_⟩:=h
  rw[r.length];exact len as d e
 ·refine⟨_,PSs.nox (hb cdv A outer s H E hr),?_⟩
  obtain⟨Z,as,d,zh,r,e,kk⟩:=hsp;have hh:=g6 (N:=N) zh r;have fin:∀{σ':St} {H' Z':Hp} {δ':Dv},Hold K H Z Z' δ' σ' H'->Same Z Z'->New Z H Z' H':=fun h' z'=>⟨z',h'.h0,h'.zh,h'.zb,h'.nf⟩
  obtain⟨δ',e2|⟨rfl,e2⟩⟩:=hg as d e
  ·exact⟨H,Z,Z,_,_,hh,e2,fun σ' H' Z' h' z' v rv=>kk v Z' H' (fin h' z') rv⟩
  ·exact⟨H,Z,Z,_,_,hh,e2,fun σ' H' Z' h' z'=>kk _ Z' H' (fin h' z') .non⟩
theorem FunV.binds{x qual:Str}{st:Stmt}{f:Addr}{fd:FuncData}{ps:List Str}(F:FunV K x qual st f fd .none)
  (h:∀(kV doc pm:Value) (an:Option Addr) (cdv ct:Value) (us:List Value),us.length=ps.length->bindArgs (PySem.W.fnOf x qual (cq st) (bD st) (af st) .none kV doc pm an cdv ct) ⟨us,[]⟩=pure (ps.zip us)):Binds K fd ps []:=by
 obtain⟨oc,od,kV,doc,pm,an,cdv,ct,osl,rfl,lk,hcd⟩:=F.ex;exact .all (h kV doc pm an cdv ct)
theorem FunV.bindsD{x qual:Str}{st:Stmt}{f T:Addr}{fd:FuncData}{ps:List Str}{o:Obj}{items:Array Value}{n:Nat}{ds:List Value}(F:FunV K x qual st f fd (.ref T))(ho:K.lookup T=some o)(hs:o.data=.seq items n)(nu:Nat)(hn:nu+ds.length=ps.length)
  (h:∀(kV doc pm:Value) (an:Option Addr) (cdv ct:Value) (us:List Value),us.length=nu->∃kk,bindArgs (PySem.W.fnOf x qual (cq st) (bD st) (af st) (.ref T) kV doc pm an cdv ct) ⟨us,[]⟩=seqItems? (.ref T) >>= kk/\kk (some items)=pure (ps.zip (us++ds))):Binds K fd ps ds:=by
 obtain⟨oc,od,kV,doc,pm,an,cdv,ct,osl,rfl,lk,hcd⟩:=F.ex;intro s us KX hl;obtain⟨kk,h1,h2⟩:=h kV doc pm an cdv ct us (by rw[List.length_append]at hl;lia);exact BindsTo.of_defaults rfl (KX _ _ ho) hs h1 h2
theorem mV{x qual:Str}{st:Stmt}{f:Addr}{dV oc:Value}{od an:Option Addr}{osl:Array (Option Value)}{kV doc pm cdv ct:Value}(l:K.lookup f=some ⟨oc,od,.func (PySem.W.fnOf x qual (cq st) (bD st) (af st) dV kV doc pm an cdv ct),osl⟩)
  (c:PySem.W.codeIn K cdv qual=true) (k:PySem.W.keepIn K (.ref f)=true):FunV K x qual st f (PySem.W.fnOf x qual (cq st) (bD st) (af st) dV kV doc pm an cdv ct) dV:=⟨⟨oc,od,kV,doc,pm,an,cdv,ct,osl,rfl,l,c⟩,k⟩
def nM(K:PySem.W.Frag):Sp:=fun vs H Q _=>∃(a:Addr) (ns:List Int),vs=[.ref a]/\SqL K H a (ns.map V.int)/\ns.length<=63/\∀H',Q (.bl true) H'
theorem Bt{g:List D->Option D}{k:Nat}{f:Addr}{fd:FuncData}(F:FnOk P w K mg base cJ k f fd ["script"] (dG K g))(hg:∀ns:List Int,ns.length<=63->g [.list (ns.map .int)]=some (.bool true)):FnOk P w K mg base cJ k f fd ["script"] (nM K):=
 F.imp fun vs H Q E h=>by
  obtain⟨a,ns,rfl,hS,hl,q⟩:=h;exact⟨H,[.list (ns.map .int)],.bool true,Same.refl _,.cons (.lst hS (Reps.ints ns)) .nil,hg ns hl,fun v Z' H' _ r=>by cases r;exact q H'⟩
end
theorem AC{k:Nat}{l:PySem.W.OpenLaw}{q:Program}{loose:List Str}{XP:(Str->Option Value)->Heap->Prop}{YP:World->Heap->Prop}{d:DefRec}{K:Params->PySem.W.Frag}(hn:l.most=some 63)(hr:Room k callerA)(hdf:d.params.defaults=[])
  (hY:∀(w:World) (h:Heap),YP w h->(K w.params).In h)
  (F:∀(w:World) (mg:Str->Option Value) (fa:Addr) (h:Heap),(K w.params).In h->h.Ns mainGlobals mg->mg d.name=some (.ref fa) ->
   ∃fd:FuncData,(∀(s:Shared) (u:Value),BindsTo s fd ⟨[u],[]⟩ [("script",u)])/\∀base:Heap,(K w.params).In base->base.Ns mainGlobals mg->FnOk l.prog w (K w.params) mg base cJ k fa fd ["script"] (nM (K w.params)))
  (hTd:∀(w:World),∀x∈lamDefs,PySem.W.tabIn (K w.params) x=none\/∃d',(recsOf q).find? (fun e=>e.name==x)=some d') (hTn:∀(w:World),∀P∈cB (K w.params),(K w.params).lookup P=none) :
  PySem.W.WalkO q loose XP YP l.row.toRowW d [] (fun f vs=>PySem.call f vs):=
 L2.vJ (n:=63) (k:=k) (x:="script") (CX:=fun _=>cJ) (sp:=fun w=>nM (K w.params)) hn (by decide) hdf hr hY F (fun _ _ a ns hl _ hS=>⟨a,ns,rfl,hS,hl,fun _=>rfl⟩) (fun _ _ _ _ _ z=>z) hTd hTn
section
variable{P:Program}{w:World}{K:PySem.W.Frag}{mg:Str->Option Value}{base:Heap}
theorem ca{x qual:Str}{st:Stmt}{f:Addr}{fd:FuncData}{dV:Value}{N ps:List Str}{k:Nat}{b:Sf}(F:FunV K x qual st f fd dV)(S:FnScope N ps (af st))
  (hb:∀(cdv:Value) (A:Around) (outer:List Env) (s:Shared) (H:Hp) (E:XK),Room k (A.deeper (envOfC qual (af st) s.heap.objs.size f cdv))->BV (lq cJ P w K mg base N qual (af st) f cdv A outer s H E).nox (bD st) b) :
  FnOk P w K mg base cJ (k+1) f fd ps (dG K (runB N ps.length b)):=by
 refine DC F S (fun as d h=>?_) hb fun as d h=>?_
 ·unfold runB at h
  split at h
  ·assumption
  ·cases h
 ·unfold runB at h
  split at h
  ·obtain⟨⟨fl,δ'⟩,e,h⟩:=bind_some h
   cases fl with
   |nx=>cases h;exact⟨δ',.inr ⟨rfl,e⟩⟩
   |rt d=>cases h;exact⟨δ',.inl e⟩
   |bk=>cases h
   |ct=>cases h
  ·cases h
structure Cal (P:Program) (w:World) (K:PySem.W.Frag) (mg:Str->Option Value) (base:Heap) (x:Str) (k:Nat) (g:List D->Option D) (dd:List D):Prop where
 ex:∃(fa:Addr) (fd:FuncData) (ps:List Str) (ds:List Value) (dv:List V),FnOk P w K mg base cJ k fa fd ps (dG K g)/\mg x=some (.ref fa)/\PySem.W.keepIn K (.ref fa)=true/\Binds K fd ps ds/\Vals dv ds/\∀Z,Reps K Z dv dd
theorem Cal.mk0{x:Str}{k:Nat}{g:List D->Option D}{fa:Addr}{fd:FuncData}{ps:List Str}(F:FnOk P w K mg base cJ k fa fd ps (dG K g))(hm:mg x=some (.ref fa))(hk:PySem.W.keepIn K (.ref fa)=true)(hb:Binds K fd ps []):Cal P w K mg base x k g []:=
 ⟨⟨fa,fd,ps,[],[],F,hm,hk,hb,.nil,fun _=>.nil⟩⟩
end
section
variable{X:Cx}{e:Expr}{es:List Expr}{p pos:Pos}{fs:Dv->Option (List D)}
theorem zS{k:Nat}{x:Str}{g:List D->Option D}{dd:List D}(C:Cal X.prog X.w X.K X.mg X.base x k g dd)(hr:Room k X.A)(hg:Gl X x)(ha:AV X (e::es) fs)(hdb:(x==("__debug__":Str))=false:=by decide)(he:starEach (e::es) X.env=(false,eval e X.env)::starEach es X.env:=by rfl)
  (hpl:(backTo pos (starEach es X.env)).any (·.1)=false:=by rfl):EV X (.Call (.Name x p) (e::es) [] pos) (os fs fun as=>g (as++dd)):=by
 obtain⟨fa,fd,ps,ds,dv,F,hm,hk,hb,hd,hdd⟩:=C.ex;exact xb F hr hg hm hk hb hd hdd uc ha hdb he hpl
variable{tg a:Expr}{f:Dv->Option D}
theorem cZ(ha:EV X a f):IV X tg a (oI f da):=by
 intro pins s σ H R I h;obtain⟨H₀,Z₀,Z,δ,ds,hh,e,k⟩:=h;obtain⟨y,e1,e⟩:=bind_some e;cases y with
 |list xs=>exact wT ha pins s σ H R I ⟨H₀,Z₀,Z,δ,ds,hh,by unfold oI;rw[e1];exact e,k⟩
 |tuple xs=>exact zH ha pins s σ H R I ⟨H₀,Z₀,Z,δ,ds,hh,by unfold oI;rw[e1];exact e,k⟩
 |_=>cases e
end
noncomputable def clos(env:Env):List (Str×NameKind)->List (Str×Addr)->List (Str×Addr)
 |[],cs=>cs
 | (n,k)::r,cs=>if k == .free then clos env r ((n,(env.cells.lookup n).getD 0)::cs)else clos env r cs
theorem ku{env:Env}:∀(l:List (Str×NameKind)) (cs:List (Str×Addr)),(∀y∈l,y.2=.free->∃c,env.cells.lookup y.1=some c) ->
  (forIn l cs fun(x:Str×NameKind) (r:List (Str×Addr))=>(if(x.2==NameKind.free)=true then do let c <-cellOf env x.1;pure (ForInStep.yield ((x.1,c)::r))else pure (ForInStep.yield r):Sem (ForInStep (List (Str×Addr)))))=pure (clos env l cs)
 |[],cs,_=>rfl
 | (n,k)::r,cs,h=>by
  have ih:=fun cs'=>ku r cs' fun y hy=>h y (List.mem_cons_of_mem _ hy)
  rw[List.forIn_cons];cases hk:k==NameKind.free with
  |true=>
   have hk':k=.free:=by simpa using hk
   obtain⟨c,ec⟩:=h (n,k) List.mem_cons_self hk';have e1:cellOf env n=pure c:=by unfold cellOf;rw[ec]
   simp only[hk,if_true,e1,pure_bind,clos,ec,Option.getD_some];exact ih _
  |false=>
   simp only[hk,Bool.false_eq_true,if_false,pure_bind,clos];exact ih _
theorem eP{scope:Scope}{env:Env}(h:∀y∈scope.names,y.2=.free->∃c,env.cells.lookup y.1=some c):closureFor scope env=pure (clos env scope.names []):=by
 simp only[closureFor];have:=ku (env:=env) scope.names [] h
 first
  | (rw[this];rfl)
  | (simp only[this];rfl)
  | (unfold closureFor;simp_all)
theorem br{env:Env}:∀(l:List (Str×NameKind)) (cs:List (Str×Addr)) (y:Str) (c:Addr),(∀z∈l,z.2=.free->∃c,env.cells.lookup z.1=some c)->(clos env l cs).lookup y=some c->cs.lookup y=some c\/env.cells.lookup y=some c
 |[],cs,y,c,_,e=>.inl e
 | (n,k)::r,cs,y,c,h,e=>by
  unfold clos at e;have hr:=fun z hz=>h z (List.mem_cons_of_mem _ hz)
  split at e
  ·rename_i hk
   rcases br r _ y c hr e with q|q
   ·rw[List.lookup_cons]at q
    cases hy:y==n with
    |true=>
     have hy':y=n:=by simpa using hy
     subst hy';rw[hy]at q;obtain⟨c',ec⟩:=h (y,k) List.mem_cons_self (by simpa using hk);simp only[ec,Option.getD_some]at q;cases q;exact .inr ec
    |false=>rw[hy]at q;exact .inl q
   ·exact .inr q
  ·exact br r cs y c hr e
theorem iD{env:Env}:∀(l:List (Str×NameKind)) (cs:List (Str×Addr)) (y:Str),((y,NameKind.free)∈l\/(cs.lookup y).isSome=true)->((clos env l cs).lookup y).isSome=true
 |[],cs,y,h=>by
  rcases h with h|h
  ·cases h
  ·exact h
 | (n,k)::r,cs,y,h=>by
  unfold clos;split
  ·rename_i hk
   refine iD r _ y ?_;rcases h with h|h
   ·rcases List.mem_cons.mp h with e|e
    ·cases e;exact .inr (by simp[List.lookup_cons])
    ·exact .inl e
   ·refine .inr ?_
    rw[List.lookup_cons];cases hy:y==n with
    |true=>rfl
    |false=>exact h
  ·rename_i hk
   refine iD r cs y ?_;rcases h with h|h
   ·rcases List.mem_cons.mp h with e|e
    ·cases e;exact absurd rfl hk
    ·exact .inl e
   ·exact .inr h
theorem dY{env:Env}{y:Str}:∀(l:List (Str×NameKind)),(∀z∈l,z.2≠.cell) ->
  (((l.map fun(n,k)=>if(k==NameKind.free&&env.scope.kind == .function&&env.kindOf n==some .cell)then(n,NameKind.cell)else(n,k)).lookup y=some .cell\/(l.map fun(n,k)=>if(k==NameKind.free&&env.scope.kind == .function&&env.kindOf n==some .cell)then(n,NameKind.cell)else(n,k)).lookup y=some .free)↔l.lookup y=some .free)
 |[],_=>by simp
 | (n,k)::r,h=>by
  have ih:=dY (env:=env) (y:=y) r fun z hz=>h z (List.mem_cons_of_mem _ hz)
  have hk:k≠.cell:=h (n,k) List.mem_cons_self;rw[List.map_cons];cases hy:y==n with
  |true=>
   by_cases hc:(k==NameKind.free&&env.scope.kind == .function&&env.kindOf n==some .cell)=true
   ·have hf:k=.free:=by
     simp only[Bool.and_eq_true]at hc;simpa using hc.1.1
    simp only[if_pos hc,List.lookup_cons,hy];simp[hf]
   ·simp only[if_neg hc,List.lookup_cons,hy]
    simp[hk]
  |false=>
   by_cases hc:(k==NameKind.free&&env.scope.kind == .function&&env.kindOf n==some .cell)=true
   ·simp only[if_pos hc,List.lookup_cons,hy];exact ih
   ·simp only[if_neg hc,List.lookup_cons,hy];exact ih
noncomputable def cL(X:Cx)(scope:Scope)(N:List Str)(C:Addr)(s₀:Shared)(H₀:Hp)(ex:List Addr):Cx:=
 { X with N:=N,s₀:=s₀,H₀:=H₀,env:=compEnvC scope (clos X.env scope.names []) C X.env,outer:=X.stack,stack:=X.stack,ex:=ex,fn:=fun _=>false,cz:=fun _=>false,pn:=[],xe:=fun _ _=>False }
structure BlkOk (on:List (Str×NameKind)) (ON:List Str) (scope:Scope) (vars:List Str) (caps:List (Nat×Str)):Prop where
 kind:scope.kind=.function
 cell:∀y∈scope.names,y.2≠.cell
 names:∀y∈scope.names,y.2=.local->scope.names.lookup y.1=some .local
 free:∀y∈scope.names,y.2=.free->on.lookup y.1=some .cell\/on.lookup y.1=some .free
 cap:∀p∈caps,ON[p.1]? = some p.2/\scope.names.lookup p.2=some .free
section
variable{X:Cx}{pins:List (Addr×Obj)}{σ:St}{H H':Hp}{s s':Shared}{scope:Scope}{vars:List Str}{caps:List (Nat×Str)}{fp:List Addr}{C:Addr}
noncomputable def en(σ:St)(caps:List (Nat×Str)):St:=caps.map fun p=>(σ[p.1]?).getD none
theorem BlkOk.cells(B:BlkOk X.env.scope.names X.N scope vars caps)(I:Inv X pins σ H s):∀y∈scope.names,y.2=.free->∃c,X.env.cells.lookup y.1=some c:=fun y hy e=>I.ok.has y.1 (B.free y hy e)
theorem p6(B:BlkOk X.env.scope.names X.N scope vars caps)(I:Inv X pins σ H s)(hf:∀b∈fp,hX X pins H b)(hlt:∀b∈fp,b<s.heap.objs.size)(hC:s.heap.objs.size<=C):(cL X scope (vars++caps.map (·.2)) C s H fp).Ok where
 mod:=I.ok.mod
 kind:=B.kind
 glob:=I.ok.glob
 blt:=I.ok.blt
 above:=hC
 inj:=fun x y c e1 e2=>by
  rcases br _ _ _ _ (B.cells I) e1 with q1|q1
  ·cases q1
  ·rcases br _ _ _ _ (B.cells I) e2 with q2|q2
   ·cases q2
   ·exact I.ok.inj x y c q1 q2
 has:=fun x e=>by
  have:scope.names.lookup x=some .free:=(dY scope.names B.cell).mp e;have:=iD (env:=X.env) scope.names [] x (.inl (PySem.mem_of_lookup this));exact Option.isSome_iff_exists.mp this
 cab:=fun x c e=>e.elim nofun nofun
 hd:=I.ok.hd
 frames:=I.ok.frames
 stk:=.inl rfl
 exf:=fun b hb=>⟨Nat.ne_of_lt (Nat.lt_of_lt_of_le (hlt b hb) hC),fun x c e=>by
  rcases br _ _ _ _ (B.cells I) e with q|q
  ·cases q
  ·exact(hf b hb).2.2.2.2.1 x c q⟩
 tb:=I.tb
 bs:=I.bs
 bsz:=Nat.le_trans I.ok.bsz I.sz
 noex:=fun b o e hb=>by
  rcases (hf b hb).2.2.2.1 with z|z
  ·exact I.ok.noex b o e z
  ·exact absurd (Nat.lt_of_lt_of_le (Heap.lt_size e) (Nat.le_trans I.ok.bsz z)) (Nat.lt_irrefl _)
 exfs:=fun b hb z=>by
  rcases List.mem_cons.mp (I.stkSub b z)with q|q
  ·exact(hf b hb).2.1 q
  ·exact(hf b hb).2.2.1 q
 funs:=I.stack
 frf:=I.stkFree
theorem rf(B:BlkOk X.env.scope.names X.N scope vars caps)(I:Inv X pins σ H s)(hf:∀b∈fp,hX X pins H b)(hlt:∀b∈fp,b<s.heap.objs.size)(hC:s.heap.objs.size<=C){h₁:Heap}{m:Str->Option Value}{tk:Nat}(hns:h₁.Ns C m)(old:∀b o,s.heap.get? b=some o->h₁.get? b=some o):
  Inv (cL X scope (vars++caps.map (·.2)) C s H fp) [] (vars.map (fun _=>none)++en σ caps) H { s with heap:=h₁,toks:=tk }:=by
 refine⟨p6 B I hf hlt hC,rfl,I.bare,Un.kept old,⟨m,hns,fun i x v e1 e2 e3=>?_⟩,fun x c e=>?_,I.hok.fresh hC,fun x c e=>?_,fun p hp=>absurd (show p∈([]:List (Addr×Obj))from hp) (by simp),I.hok.kept old,?_⟩
 ·have e1:(vars++caps.map (·.2))[i]? = some x:=e1
  by_cases hi:i<vars.length
  ·rw[List.getElem?_append_left (by simpa using hi),List.getElem?_map]at e2
   cases q:vars[i]?<;>rw[q]at e2<;>cases e2
  ·rw[List.getElem?_append_right (by simpa using hi)]at e1 e2
   simp only[List.length_map]at e2;unfold en at e2;rw[List.getElem?_map]at e1 e2;cases q:caps[i-vars.length]? with
   |none=>rw[q]at e1;cases e1
   |some p=>
    rw[q]at e1 e2;cases e1;have hp:=List.mem_of_getElem? q;obtain⟨g1,g2⟩:=B.cap p hp;have gf:X.env.scope.names.lookup p.2=some .cell\/X.env.scope.names.lookup p.2=some .free:=B.free (p.2,.free) (PySem.mem_of_lookup g2) rfl;have ev:σ[p.1]? = some (some v):=by
     have e2:(σ[p.1]?).getD none=some v:=Option.some.inj e2;cases z:σ[p.1]? with
     |none=>rw[z]at e2;cases e2
     |some w=>rw[z]at e2;rw[show w=some v from e2]
    obtain⟨m',_,hl⟩:=I.loc;obtain⟨u,r,l⟩:=hl p.1 p.2 v g1 ev (gf.elim (fun z=>.inr (.inl z)) fun z=>.inr (.inr z))
    refine⟨u,r,.inr ⟨?_,?_⟩⟩
    ·exact(dY scope.names B.cell).mpr g2
    ·rcases l with⟨z,_⟩|⟨_,c,ec,hc⟩
     ·have z:X.env.scope.names.lookup p.2=some .local:=z
      rcases gf with w|w<;>rw[z]at w<;>cases w
     ·obtain⟨c',q'⟩:=Option.isSome_iff_exists.mp (iD (env:=X.env) scope.names [] p.2 (.inl (PySem.mem_of_lookup g2)))
      rcases br _ _ _ _ (B.cells I) q' with w|w
      ·cases w
      ·rw[ec]at w
       cases w;obtain⟨o,ho,hd⟩:=hc;exact⟨c,q',o,old c o ho,hd⟩
 ·rcases br _ _ _ _ (B.cells I) e with q|q
  ·cases q
  ·obtain⟨v,o,ho,hd⟩:=I.cell x c q
   exact⟨v,o,old c o ho,hd⟩
 ·rcases br _ _ _ _ (B.cells I) e with q|q
  ·cases q
  ·exact(I.freeC x c q).imp id fun z=>⟨rfl,z.2⟩
 ·simp[cL,en]
theorem re(I:Inv X pins σ H s)(hf:∀b∈fp,hX X pins H b){D:Addr}{s':Shared}{σ':St}{N:List Str}{ys:List V}{its:List Value}(hC:s.heap.objs.size<=C)(hD:s.heap.objs.size<=D)(hDC:D≠C)
  (J:Inv (cL X scope N C s H fp) [] σ' H' s') (hD':H' D=none) (hp:s'.heap.PlainList D its.toArray) (hv:Vals ys its) (hz:ys.length<=sizeLine) {h':Heap} (hs:Heap.SameBut C s'.heap h') :
  Inv X pins σ (upd H' D (.lst ys)) { s' with heap:=h' }:=by
 have U:Un (sQ X.stack) fp H H' s.heap s'.heap:=J.base;have neC:∀b o,s.heap.get? b=some o->b≠C:=fun b o e=>Nat.ne_of_lt (Nat.lt_of_lt_of_le (Heap.lt_size e) hC)
 have neD:∀b o,s.heap.get? b=some o->b≠D:=fun b o e=>Nat.ne_of_lt (Nat.lt_of_lt_of_le (Heap.lt_size e) hD)
 have mv:∀b o,b≠C->s'.heap.get? b=some o->h'.get? b=some o:=fun b o hb e=>hs.extBut b o hb e
 have tD:∀b o,H' b=some o->(upd H' D (.lst ys)) b=some o:=fun b o e=>by rw[az (aR e hD')];exact e
 refine I.call' (s':={ s' with heap:=h' }) (ch:=fp) J.os ⟨fun b o e n h1 h2=>mv b o (neC b o e) (U.keep b o e n h1 h2),fun b o e n h1 h2=>?_,fun b o e n h2=>?_,fun b o e h2=>?_,fun b xs e=>tD _ _ (U.tups b xs e),fun b o xs e=>tD _ _ (U.frzs b o xs e),fun b ps e=>?_⟩ (fun b o e=>?_) J.bare
  (fun b hb=>⟨(hf b hb).2.2.2.1,(hf b hb).2.1,(hf b hb).2.2.2.2.1,(hf b hb).2.2.2.2.2⟩)
 ·obtain⟨sl,q⟩:=U.slot b o e n h1 h2
  exact⟨sl,mv b _ (neC b o e) q⟩
 ·rw[az (neD b o e)];exact U.free b o e n h2
 ·obtain⟨o',q⟩:=U.there b o e h2
  exact⟨o',mv b _ (neC b o e) q⟩
 ·obtain⟨more,q⟩:=U.tbls b ps e
  exact⟨more,tD _ _ q⟩
 ·by_cases hb:b=D
  ·subst hb
   rw[aG]at e;cases e;obtain⟨n,q⟩:=hp;exact⟨hz,its,n,hv,mv _ _ hDC q⟩
  ·rw[az hb]at e
   refine(J.hok b o e).stay (fun c v hc q=>mv c v ?_ q) (fun c q=>tD _ _ q) (fun c xs q=>tD _ _ q) fun c o xs q=>tD _ _ q
   intro z;have fc:H' C=none:=J.free;rcases hc with w|w
   ·rw[<-w,z,fc]at e;cases e
   ·rw[z,fc]at w;cases w
theorem oU(elt target iter:Expr)(scope:Scope)(pos:Pos)(it acc:Value)(env:Env):
  compTurn (.ListComp elt [⟨target,iter,[],0⟩] scope pos) 0 it acc env=(standAt iter.pos >>= fun _=>pyNext it >>= fun r=>match r with
   |none=>pure (.done .next)
   |some v=>letOwnedTupleGo target it v >>= fun _=>assign target env v >>= fun _=>
    (eval elt env >>= fun x=>call (.builtin "list.append") [acc,x] >>= fun _=>pure ()) >>= fun _=>
     again (.compLoop (.ListComp elt [⟨target,iter,[],0⟩] scope pos) 0 it acc env)):=by rfl
def rz(σ σ':St):Prop:=σ.length = σ'.length/\∀(i:Nat) v,σ[i]? = some (some v) -> σ'[i]? = some (some v)
def qt(wi:TI)(g:TG)(te:TE)(vars:List Str)(caps:List (Nat×Str)):TE:=fun σ H Q=>wi σ H fun J H1=>∃W:Nat->Nat->List V->Hp->Prop,(∃m,W 0 m [] H1)/\∀i m ys H,W i m ys H ->
 (J.stop i H/\ys.length<=sizeLine/\∀p,H p=none->Q (.ref p) (upd H p (.lst ys))) \/
 (J.go i H/\ys.length<sizeLine/\∀x H',J.yld i H x H'->g x (vars.map (fun _=>none)++en σ caps) H' fun σ2 H2=>rz (vars.map (fun _=>none)++en σ caps) σ2/\te σ2 H2 fun y H3=>∃m',m'<m/\W (i+1) m' (ys++[y]) H3)
theorem jw{prog:Program}{w:World}{A:Around}{R:Result->Shared->Prop}{s:Shared}{elt target iter:Expr}{scope:Scope}{pos:Pos}{it acc:Value}{env:Env}(I:Nat->Shared->Prop)
  (turn:∀n s,I n s->wpAny (model prog w) A (pyNext it) (fun r s₁=>match r with
   |none=>R (.ok .next) s₁
   |some v=>wpAny (model prog w) A (letOwnedTupleGo target it v) (fun _ s₁=>wpAny (model prog w) A (assign target env v) (fun _ s₂=>wpAny (model prog w) A (eval elt env) (fun x s₃=>
     wpAny (model prog w) A (call (.builtin "list.append") [acc,x]) (fun _ s₄=>∃m,m<n/\I m s₄) (fun _ _=>False) s₃) (fun _ _=>False) s₂) (fun _ _=>False) s₁) (fun _ _=>False) s₁) (fun _ _=>False) s)
  (n:Nat) (h:I n s):codeAny (model prog w) A (.compLoop (.ListComp elt [⟨target,iter,[],0⟩] scope pos) 0 it acc env) R s:=by
 refine codeAny_loop rfl I (fun n s hI=>?_) n h;show wpAny _ _ ((compTurn (.ListComp elt [⟨target,iter,[],0⟩] scope pos) 0 it acc env).onRaise (fun x=>do noteFrame x env;theTreesLotGoes x)) _ _ s;refine wpAny_noted ?_;rw[oU];refine wpAny_bind (wpAny_standAt (wpAny_bind (wpAny_mono (turn n s hI) (fun r s₁ h₁=>?_) fun _ _ h'=>h'.elim)))
 cases r with
 |none=>exact wpAny_pure h₁
 |some v=>
  refine wpAny_bind (wpAny_mono h₁ (fun _ s₁ h₁=>?_) fun _ _ h'=>h'.elim)
  exact wpAny_bind (wpAny_mono h₁ (fun _ s₂ h₂=>wpAny_bind (wpAny_bind (wpAny_mono h₂ (fun x s₃ h₃=>wpAny_bind (wpAny_mono h₃
   (fun _ s₄ h₄=>wpAny_pure (wpAny_pure ⟨rfl,h₄⟩)) fun _ _ h'=>h'.elim)) fun _ _ h'=>h'.elim))) fun _ _ h'=>h'.elim)
end
section
variable{X:Cx}{scope:Scope}{vars:List Str}{caps:List (Nat×Str)}{elt tg iter:Expr}{pos:Pos}{wi:TI}{g:TG}{te:TE}
theorem kD(B:BlkOk X.env.scope.names X.N scope vars caps)(hc:X.calm=true)
  (hg:∀C s₀ H₀ ex,PG (cL X scope (vars++caps.map (·.2)) C s₀ H₀ ex) tg g) (he:∀C s₀ H₀ ex,PE (cL X scope (vars++caps.map (·.2)) C s₀ H₀ ex) elt te)
  {pins:List (Addr×Obj)} {σ:St} {H2:Hp} {s2:Shared} {Q:VK} {it:Addr} {fp:List Addr} {tn:Nat->Heap->Prop} {J:It} (I2:Inv X pins σ H2 s2) (T:vo X.prog X.w X.K tg J fp it tn) (st2:tn 0 s2.heap) (f2:∀b∈fp,hX X pins H2 b)
  {W:Nat->Nat->List V->Hp->Prop} {m0:Nat} (w0:W 0 m0 [] H2) (turn:∀i m ys H,W i m ys H ->
   (J.stop i H/\ys.length<=sizeLine/\∀p,H p=none->Q (.ref p) (upd H p (.lst ys))) \/
   (J.go i H/\ys.length<sizeLine/\∀x H',J.yld i H x H'->g x (vars.map (fun _=>none)++en σ caps) H' fun σ2 H2=>rz (vars.map (fun _=>none)++en σ caps) σ2/\te σ2 H2 fun y H3=>∃m',m'<m/\W (i+1) m' (ys++[y]) H3))
  {RR:Value->Addr->Result->Shared->Prop} {E:Value->Shared->Prop}
  (hRR:∀D C s' m,s'.heap.Ns C m->D≠C->s2.heap.objs.size<=D->s2.heap.objs.size<=C->∀H',H' C=none->(∀h',Heap.SameBut C s'.heap h'->Inv X pins σ H' { s' with heap:=h' })->Q (.ref D) H'->RR (.ref D) C (.ok .next) s') :
  wpAny (model X.prog X.w) X.A (newList []) (fun acc s₃=>wpAny (model X.prog X.w) X.A (newFunctionEnv scope X.env.globals (clos X.env scope.names []) [] X.env.qual none .none (some X.env)) (fun cenv s₄=>
   codeAny (model X.prog X.w) X.A (.compStart (.ListComp elt [⟨tg,iter,[],0⟩] scope pos) 0 (.ref it) acc { cenv with scope:=relabel scope X.env }) (RR acc cenv.locals) s₄) E s₃) E s2:=by
 refine wpAny_newObj_type (wpAny_newFunctionEnv B.cell (by intro y hy;simp at hy) (fun h₁ hns₁ hsb₁=>?_) B.kind);dsimp only at hns₁ hsb₁ ⊢;generalize hP:s2.heap.push { cls:=.type "list",dict:=none,data:=.seq ([]:List Value).toArray }=HP at hns₁ hsb₁ ⊢;have hCs:HP.objs.size=s2.heap.objs.size+1:=by rw[<-hP,Heap.size_push]
 have hDC:s2.heap.objs.size≠HP.objs.size:=by rw[hCs];exact Nat.ne_of_lt (Nat.lt_succ_self _)
 have hCle:s2.heap.objs.size<=HP.objs.size:=by rw[hCs];exact Nat.le_succ _
 have old:∀b o,s2.heap.get? b=some o->h₁.get? b=some o:=fun b o e=>hsb₁.extBut b o (Nat.ne_of_lt (Nat.lt_of_lt_of_le (Heap.lt_size e) hCle)) (Heap.get?_push_of_some _ (hP ▸ Heap.get?_push_of_some _ e))
 have hacc:h₁.PlainList s2.heap.objs.size #[]:=⟨_,hsb₁.extBut _ _ hDC (Heap.get?_push_of_some _ (hP ▸ Heap.get?_push_size _ rfl))⟩;have flt:∀b∈fp,b<s2.heap.objs.size:=fun b hb=>by
  obtain⟨o,e,_⟩:=T.obj _ _ st2 b hb;exact Heap.lt_size e
 have st1:tn 0 h₁:=T.keep _ _ _ st2 fun b _ o e=>old b o e
 have loop:∀s3:Shared,s3={ s2 with heap:=h₁,toks:=s2.toks+([]:List (Str×Value)).length } ->
   codeAny (model X.prog X.w) X.A (.compLoop (.ListComp elt [⟨tg,iter,[],0⟩] scope pos) 0 (.ref it) (.ref s2.heap.objs.size) (compEnvC scope (clos X.env scope.names []) HP.objs.size X.env))
    (RR (.ref s2.heap.objs.size) HP.objs.size) s3:=by
  rintro s3 rfl;have X':=cL X scope (vars++caps.map (·.2)) HP.objs.size s2 H2 fp;have fpo:∀{H':Hp},(∀b∈fp,H' b=none)->∀b∈fp,hX (cL X scope (vars++caps.map (·.2)) HP.objs.size s2 H2 fp) [] H' b:=fun hn b hb=>by
   have ok:=p6 B I2 f2 flt hCle;exact⟨hn b hb,(ok.exf b hb).1,ok.exfs b hb,.inl hb,(ok.exf b hb).2,fun p hp=>absurd (show p∈([]:List (Addr×Obj))from hp) (by simp)⟩
  refine jw (fun n s=>∃i ys H its,Inv (cL X scope (vars++caps.map (·.2)) HP.objs.size s2 H2 fp) [] (vars.map (fun _=>none)++en σ caps) H s/\tn i s.heap/\(∀b∈fp,H b=none)/\s.heap.PlainList s2.heap.objs.size (List.toArray its)/\H s2.heap.objs.size=none/\Vals ys its/\W i n ys H) ?_ m0
   ⟨0,[],H2,[],rf B I2 f2 flt hCle hns₁ old,st1,fun b hb=>(f2 b hb).1,hacc,I2.hok.fresh (Nat.le_refl _),.nil,w0⟩
  rintro n s4 ⟨i,ys,H4,its,I4,st4,fr4,pl4,nD4,v4,w4⟩;obtain⟨nn,eD⟩:=id pl4;have DnL:s2.heap.objs.size≠(cL X scope (vars++caps.map (·.2)) HP.objs.size s2 H2 fp).env.locals:=hDC;have Dfs:s2.heap.objs.size ∉ (cL X scope (vars++caps.map (·.2)) HP.objs.size s2 H2 fp).fs:=fun z=>by
   rcases List.mem_cons.mp (I2.stkSub _ z)with q|q
   ·have:=I2.lt;rw[<-q]at this;exact Nat.lt_irrefl _ this
   ·exact I2.nofs (Nat.le_refl _) q
  have Dfp:∀b∈fp,s2.heap.objs.size≠b:=fun b hb z=>by have:=flt b hb;rw[<-z]at this;exact Nat.lt_irrefl _ this
  have DnC:∀x c,(cL X scope (vars++caps.map (·.2)) HP.objs.size s2 H2 fp).env.cells.lookup x=some c->c≠s2.heap.objs.size:=fun x c e z=>by
   rcases br _ _ _ _ (B.cells I2) e with q|q
   ·cases q
   ·obtain⟨v,o,ho,_⟩:=I2.cell x c q
    have:=Heap.lt_size ho;rw[z]at this;exact Nat.lt_irrefl _ this
  have pinD:∀{σ':St} {H':Hp} {s':Shared},Inv (cL X scope (vars++caps.map (·.2)) HP.objs.size s2 H2 fp) [(s2.heap.objs.size,{ cls:=.type "list",data:=.seq its.toArray nn })] σ' H' s'->s'.heap.PlainList s2.heap.objs.size its.toArray/\H' s2.heap.objs.size=none:=fun{σ' H' s'} I'=>by
   obtain⟨q1,q2,_⟩:=I'.pin (s2.heap.objs.size,{ cls:=.type "list",data:=.seq its.toArray nn }) (by simp[cL]);exact⟨⟨nn,q1⟩,q2⟩
  have I4p:Inv (cL X scope (vars++caps.map (·.2)) HP.objs.size s2 H2 fp) [(s2.heap.objs.size,{ cls:=.type "list",data:=.seq its.toArray nn })] (vars.map (fun _=>none)++en σ caps) H4 s4:=
   I4.pins_of fun p hp=>by
    have e:p=(s2.heap.objs.size,{ cls:=.type "list",data:=.seq its.toArray nn }):=by simpa[cL]using hp
    subst e;exact⟨eD,nD4,DnL,Dfs,fun v z=>by cases z⟩
  have fpo':∀{H':Hp},(∀b∈fp,H' b=none)->∀b∈fp,hX (cL X scope (vars++caps.map (·.2)) HP.objs.size s2 H2 fp) [(s2.heap.objs.size,{ cls:=.type "list",data:=.seq its.toArray nn })] H' b:=fun hn b hb=>by
   obtain⟨q1,q2,q3,q4,q5,_⟩:=fpo hn b hb;exact⟨q1,q2,q3,q4,q5,fun p hp=>by
    have e:p=(s2.heap.objs.size,{ cls:=.type "list",data:=.seq its.toArray nn }):=by simpa[cL]using hp
    subst e;exact Dfp b hb⟩
  have unp:∀{pl:List (Addr×Obj)} {σ':St} {H':Hp} {s':Shared},Inv (cL X scope (vars++caps.map (·.2)) HP.objs.size s2 H2 fp) pl σ' H' s'->Inv (cL X scope (vars++caps.map (·.2)) HP.objs.size s2 H2 fp) [] σ' H' s':=fun{pl σ' H' s'} I'=>
   I'.pins_of fun p hp=>absurd (show p∈([]:List (Addr×Obj))from hp) (by simp)
  rcases turn i n ys H4 w4 with⟨stop,hz,qn⟩|⟨go,hz,step⟩
  ·refine bT (T.done (cL X scope (vars++caps.map (·.2)) HP.objs.size s2 H2 fp) rfl rfl rfl hc i _ s4 _ H4 _ I4p (fpo' fr4) st4 stop) fun r s5 ⟨hr,I5⟩=>?_
   subst hr;obtain⟨p5,n5⟩:=pinD I5;obtain⟨m5,ns5,_⟩:=I5.loc;refine hRR _ _ s5 m5 ns5 hDC (Nat.le_refl _) hCle _ ?_ (fun h' hs'=>re I2 f2 hCle (Nat.le_refl _) hDC (unp I5) n5 p5 v4 hz hs') (qn _ n5)
   rw[az hDC.symm];exact I5.free
  ·refine bT (T.item (cL X scope (vars++caps.map (·.2)) HP.objs.size s2 H2 fp) rfl rfl rfl hc i _ s4 _ H4 _ I4p (fpo' fr4) st4 go) fun r s5 ⟨u,hr,h5⟩=>?_
   subst hr;refine bT h5 fun _ s6 ⟨x,H6,I6,rx,yx,st6,fr6⟩=>?_
   have I6p:=I6.pinned (fpo' fr6) (T.obj _ _ st6);refine bT (hg _ _ _ _ _ s6 _ H6 x u _ I6p rx (step x H6 yx)) fun _ s7 ⟨σ7,H7,I7,kp,q7⟩=>?_
   refine bT (he _ _ _ _ _ s7 σ7 H7 _ I7 q7) fun v s8 ⟨y,H8,I8,ry,m',hm,w8⟩=>?_
   obtain⟨p8,n8⟩:=pinD I8.unpinned;have st8:tn (i+1) s8.heap:=T.keep _ _ _ st6 fun b hb o e=>(I8.pin (b,o) (List.mem_append_right _ (List.mem_append_right _ (bX hb e)))).1
   have fr8:∀b∈fp,H8 b=none:=fun b hb=>by
    obtain⟨o,e,d⟩:=T.obj _ _ st6 b hb;exact(I8.pin (b,o) (List.mem_append_right _ (List.mem_append_right _ (bX hb e)))).2.1
   have hl:=v4.length;refine wpAny_list_append_plain p8 (fun h9 p9 sb9=>⟨m',hm,i+1,ys++[y],H8,its++[v],?_,?_,fr8,by simpa using p9,n8,v4.append (.cons ry .nil),w8⟩) (by simp;lia)
   ·have I9:Inv (cL X scope (vars++caps.map (·.2)) HP.objs.size s2 H2 fp) [] σ7 H8 { s8 with heap:=h9,toks:=s8.toks }:=
     (unp I8).turned (it:=s2.heap.objs.size) (fun b o hb e=>sb9.extBut b o hb e) n8 DnL (.inr (Nat.le_refl _)) DnC fun p hp=>absurd (show p∈([]:List (Addr×Obj))from hp) (by simp)
    exact I9.weak kp.1 kp.2
   ·exact T.keep _ _ _ st8 fun b hb o e=>sb9.extBut b o (Dfp b hb).symm e
 exact codeAny_compStart_list (loop _ rfl) (T.self _ 0 _ _ _ st1 (loop _ rfl))
theorem wm(B:BlkOk X.env.scope.names X.N scope vars caps)(hc:X.calm=true)(hi:PI X tg iter wi)
  (hg:∀C s₀ H₀ ex,PG (cL X scope (vars++caps.map (·.2)) C s₀ H₀ ex) tg g) (he:∀C s₀ H₀ ex,PE (cL X scope (vars++caps.map (·.2)) C s₀ H₀ ex) elt te) (hs:∀x,foldedSetIterable iter X.env x=pure x:=by intro _;rfl) :
  PE X (.ListComp elt [⟨tg,iter,[],0⟩] scope pos) (qt wi g te vars caps):=by
 intro pins s σ H Q I h;rw[eval_ListComp];refine wpAny_comprehension_free (use:=none) rfl hs (eP (B.cells I)) B.kind B.names ?_;show wpAny _ _ (eval iter X.env) _ _ s;refine bT (hi pins s σ H _ I h) fun v s1 h1=>bT h1 fun itv s2 h2=>?_
 obtain⟨it,fp,tn,J,H2,e,I2,T,st2,f2,W,⟨m0,w0⟩,turn⟩:=h2;subst e;exact kD B hc hg he I2 T st2 f2 w0 turn (RR:=fun acc C=>compPost (model X.prog X.w) X.A X.xe none (EP X pins σ Q) acc C) fun D C s' m ns _ _ _ H' _ k q=>⟨m,ns,fun h' hs'=>⟨.ref D,H',k h' hs',rfl,q⟩⟩
theorem qB{i:Nat}{y:Str}{py spos:Pos}(B:BlkOk X.env.scope.names X.N scope vars caps)(hc:X.calm=true)(hi:PI X tg iter wi)
  (hg:∀C s₀ H₀ ex,PG (cL X scope (vars++caps.map (·.2)) C s₀ H₀ ex) tg g) (he:∀C s₀ H₀ ex,PE (cL X scope (vars++caps.map (·.2)) C s₀ H₀ ex) elt te)
  (hN:X.N.Nodup) (hy:X.N[i]? = some y) (hx:vF X.env.scope y) (hsw:swapsWith (.ListComp elt [⟨tg,iter,[],0⟩] scope pos) (some (.Name y py)) spos.line X.env=pure true)
  (hf:X.fn y=true\/X.env.scope.names.lookup y=some .local) (hs:∀x,foldedSetIterable iter X.env x=pure x:=by intro _;rfl) :
  PS X (.Assign [.Name y py] (.ListComp elt [⟨tg,iter,[],0⟩] scope pos) spos) (fun D σ H=>qt wi g te vars caps σ H fun v H1=>D.nx (σ.set i (some v)) H1):=by
 intro pins s σ H DE I h;rw[exec_Assign_Name_used _ _ _ _ hsw];refine wpAny_bind (wpAny_standAt (wpAny_bind ?_));show wpAny _ X.A (do let _ <-comprehension (.ListComp elt [⟨tg,iter,[],0⟩] scope pos) scope X.env _ (newList []) false (eval iter X.env) (some (assign (.Name y py) X.env))) _ _ s;refine wpAny_bind (wpAny_mono (wpAny_comprehension_free (use:=some (assign (.Name y py) X.env)) (Q:=fun _ s'=>SP X pins DE .next s') rfl hs (eP (B.cells I)) B.kind B.names
  (bT (hi pins s σ H _ I h) fun v s1 h1=>bT h1 fun itv s2 h2=>?_)) (fun _ s' hq=>wpAny_pure (wpAny_pure hq)) fun _ _ e=>e)
 obtain⟨it,fp,tn,J,H2,e,I2,T,st2,f2,W,⟨m0,w0⟩,turn⟩:=h2;subst e;refine kD (Q:=fun v H1=>DE.nx (σ.set i (some v)) H1) B hc hg he I2 T st2 f2 w0 turn (RR:=fun acc C=>compPost (model X.prog X.w) X.A X.xe (some (assign (.Name y py) X.env)) (fun _ s'=>SP X pins DE .next s') acc C) ?_
 intro D C s' m ns hDC hD hC H' hHC k q;obtain⟨oC,es,ep,eC,dC,rC⟩:=ns;have I':Inv X pins σ H' s':=k s'.heap (Heap.SameBut.refl ..);have nL:C≠X.env.locals:=fun z=>by have:=I2.lt;rw[<-z]at this;exact absurd (Nat.lt_of_lt_of_le this hC) (Nat.lt_irrefl _)
 have nF:C ∉ X.fs:=I2.nofs hC;have nCell:∀x c,X.env.cells.lookup x=some c->c≠C:=fun x c e z=>by
  obtain⟨v,o,ho,_⟩:=I2.cell x c e;have:=Heap.lt_size ho;rw[z]at this;exact absurd (Nat.lt_of_lt_of_le this hC) (Nat.lt_irrefl _)
 have nPin:∀p∈X.pn++pins,p.1≠C:=fun p hp z=>by
  have:=Heap.lt_size (I2.pin p hp).1;rw[z]at this;exact absurd (Nat.lt_of_lt_of_le this hC) (Nat.lt_irrefl _)
 have Ip:Inv X (pins++[(C,oC)]) σ H' s':=I'.pins_of fun p hp=>by
  rcases List.mem_append.mp hp with z|z
  ·exact I'.pin p (List.mem_append_right _ z)
  ·have e:p=(C,oC):=by simpa using z
   subst e;exact⟨eC,hHC,nL,nF,fun v z=>by rw[dC]at z;cases z⟩
 refine bT (b7 (pos:=py) hN hy hx hf _ s' σ H' (.ref D) (.ref D) (fun σ' H''=>σ' = σ.set i (some (.ref D))/\H''=H'/\DE.nx σ' H'') Ip rfl ⟨rfl,rfl,q⟩) fun _ s'' ⟨σ'',H'',I'',e1,e2,q''⟩=>?_
 subst e1 e2;have eC'':s''.heap.get? C=some oC:=(I''.pin (C,oC) (List.mem_append_right _ (List.mem_append_right _ (by simp)))).1;refine⟨m,⟨oC,es,ep,eC'',dC,rC⟩,fun h' hs'=>⟨_,H'',?_,q''⟩⟩
 exact I''.unpinned.turned (t':=s''.toks) (it:=C) (fun b o hb e=>hs'.extBut b o hb e) hHC nL (.inr (Nat.le_trans I2.sz hC)) nCell nPin
end
noncomputable def AW:Option Sl->Sl
 |some (.fz d)=>.fz d
 |_=>.un
@[simp] theorem C1(d:D):AW (some (.fz d))=.fz d:=rfl
noncomputable def capS(δ:Dv)(caps:List (Nat×Str)):Dv:=caps.map fun p=>AW δ[p.1]?
noncomputable def r9(f:D->Option D):List D->Option (List D)
 |[]=>some []
 |d::ds=>(f d).bind fun e=>(r9 f ds).bind fun es=>some (e::es)
noncomputable def dJ(fi:Dv->Option (List D))(caps:List (Nat×Str))(bv:D->Option (List D))(fe:Dv->Option D):Dv->Option D:=fun δ=>(fi δ).bind fun ds=>if ds.length<=sizeLine then(r9 (fun d=>(bv d).bind fun vs=>fe (vs.map .fz++capS δ caps)) ds).bind fun es=>some (.list es)else none
noncomputable def q9:D->Option (List D):=fun d=>some [d]
theorem gb{f:D->Option D}:∀{ds es:List D},r9 f ds=some es->es.length=ds.length
 |[],es,h=>by cases h;rfl
 |d::ds,es,h=>by
  obtain⟨e,_,h⟩:=bind_some h;obtain⟨es',h2,h⟩:=bind_some h;cases h;exact congrArg (· + 1) (gb h2)
theorem kb{f:D->Option D}:∀{ds es:List D} {i:Nat} {d:D},r9 f ds=some es->ds[i]? = some d->∃e,f d=some e/\es[i]? = some e
 |[],es,i,d,h,q=>by simp at q
 |d::ds,es,i,d',h,q=>by
  obtain⟨e,h1,h⟩:=bind_some h;obtain⟨es',h2,h⟩:=bind_some h;cases h;cases i with
  |zero=>simp at q;subst q;exact⟨e,h1,rfl⟩
  |succ i=>simp at q;obtain⟨e',g1,g2⟩:=kb (i:=i) h2 q;exact⟨e',g1,by simpa using g2⟩
def ph(K:Fg)(g:TG)(n:Nat)(bv:D->Option (List D)):Prop:=∀(x:V) (Z:Hp) (d:D) (vs:List D) (σc:St) (H:Hp) (R:St->Hp->Prop),Rep K Z x d->Same Z H->bv d=some vs->(∀us,Reps K Z us vs->us.length=n->R (us.map some ++ σc) H)->g x (List.replicate n none ++ σc) H R
theorem dS{K:Fg}:ph K (uO 0) 1 q9:=fun x Z d vs σc H R r zh e k=>by
 cases e;exact k [x] (.cons r .nil) rfl
section
variable{X:Cx}{scope:Scope}{vars:List Str}{caps:List (Nat×Str)}{elt tg iter:Expr}{pos:Pos}{g:TG}{fi:Dv->Option (List D)}{fe:Dv->Option D}{bv:D->Option (List D)}
theorem u5{σ:St}{δ:Dv}{K:Fg}{H₀ Z₀ Z H:Hp}(hh:Hold K H₀ Z₀ Z δ σ H):∀(j:Nat) d,(capS δ caps)[j]? = some (.fz d)->∃v,(en σ caps)[j]? = some (some v)/\Rep K Z v d:=fun j d e=>by
 unfold capS at e;unfold en;rw[List.getElem?_map]at e ⊢;cases q:caps[j]? with
 |none=>rw[q]at e;cases e
 |some p=>
  rw[q]at e;have e:AW δ[p.1]? = .fz d:=Option.some.inj e;cases z:δ[p.1]? with
  |none=>rw[z]at e;cases e
  |some sl=>
   rw[z]at e;cases sl with
   |fz d'=>
    cases e;obtain⟨v,g1,g2⟩:=hh.fz p.1 _ z;exact⟨v,by show some ((σ[p.1]?).getD none)=_;rw[g1];rfl,g2⟩
   |un=>cases e
   |own _=>cases e
   |fr _=>cases e
theorem xp{δ:Dv}:∀(j:Nat) ds,(capS δ caps)[j]? ≠ some (.own ds):=fun j ds e=>by
 unfold capS at e;rw[List.getElem?_map]at e;cases q:caps[j]? with
 |none=>rw[q]at e;cases e
 |some p=>
  rw[q]at e;have e:AW δ[p.1]? = .own ds:=Option.some.inj e;cases z:δ[p.1]? with
  |none=>rw[z]at e;cases e
  |some sl=>rw[z]at e;cases sl<;>cases e
theorem xq{δ:Dv}:∀(j:Nat) ds,(capS δ caps)[j]? ≠ some (.fr ds):=fun j ds e=>by
 unfold capS at e;rw[List.getElem?_map]at e;cases q:caps[j]? with
 |none=>rw[q]at e;cases e
 |some p=>
  rw[q]at e;have e:AW δ[p.1]? = .fr ds:=Option.some.inj e;cases z:δ[p.1]? with
  |none=>rw[z]at e;cases e
  |some sl=>rw[z]at e;cases sl<;>cases e
theorem kF{σ:St}{δ:Dv}{K:Fg}{H₀ Z₀ Z H:Hp}(hh:Hold K H₀ Z₀ Z δ σ H){us:List V}{vs:List D}(r:Reps K Z us vs):Hold K H Z Z (vs.map .fz++capS δ caps) (us.map some++en σ caps) H:=by
 have hl:=r.length;refine⟨hh.zh,Same.refl _,Same.refl _,fun _ _=>rfl,by simp[capS,en,hl],fun i d e=>?_,fun i ds e=>?_,fun i j ds es a _ e=>?_,fun i ds e=>?_,NoF.refl _⟩
 ·by_cases hi:i<vs.length
  ·rw[List.getElem?_append_left (by simpa using hi),List.getElem?_map]at e
   cases q:vs[i]? with
   |none=>rw[q]at e;cases e
   |some d'=>
    rw[q]at e;cases e;obtain⟨v,g1,g2⟩:=r.get q;exact⟨v,by rw[List.getElem?_append_left (by simpa[hl]using hi),List.getElem?_map,g1];rfl,g2⟩
  ·rw[List.getElem?_append_right (by simpa using hi)]at e
   obtain⟨v,g1,g2⟩:=u5 hh _ d e;refine⟨v,?_,g2⟩;rw[List.getElem?_append_right (by simpa[hl]using hi)];simp only[List.length_map]at g1 ⊢;rw[hl];exact g1
 all_goals
  exfalso;by_cases hi:i<vs.length
  ·rw[List.getElem?_append_left (by simpa using hi),List.getElem?_map]at e
   cases q:vs[i]?<;>rw[q]at e<;>cases e
  ·rw[List.getElem?_append_right (by simpa using hi)]at e
   first|exact xp _ _ e|exact xq _ _ e
theorem lV(tk:ph X.K g vars.length bv){σ:St}{H:Hp}{Q:VK}(h:tV X.K (dJ fi caps bv fe) σ H Q):qt (Cb X.K fi) g (tV X.K fe) vars caps σ H Q:=by
 obtain⟨H₀,Z₀,Z,δ,d,hh,e,k⟩:=h;obtain⟨ds,e1,e⟩:=bind_some e;by_cases hz:ds.length<=sizeLine
 ·rw[if_pos hz]at e
  obtain⟨es,e2,e⟩:=bind_some e;cases e;have le:=gb e2;have hv:vars.map (fun _=>(none:Option V))=List.replicate vars.length none:=by rw[List.map_const']
  refine⟨H₀,Z₀,Z,δ,ds,hh,e1,fun J Z1 H1 hh1 t1 ok=>?_⟩
  refine⟨fun i m ys H=>m=ds.length-i/\i<=ds.length/\∃Zc,Hold X.K H₀ Z₀ Zc δ σ H/\Same Z1 Zc/\Reps X.K Zc ys (es.take i),⟨ds.length,by simp,Nat.zero_le _,Z1,hh1,Same.refl _,by simpa using .nil⟩,?_⟩
  rintro i m ys H2 ⟨rfl,hi2,Zc,hhc,tc,rc⟩;have zh:Same Z1 H2:=tc.trans hhc.zh;have ly:=rc.length;rw[List.length_take]at ly;by_cases hlt:i<ds.length
  ·refine .inr ⟨ok.go i H2 zh hlt,by lia,fun x H3 y=>?_⟩
   have ed:ds[i]? = some ds[i]:=by simp[hlt]
   obtain⟨rfl,rx⟩:=ok.yld i H2 x H3 _ zh ed y;obtain⟨ei,f1,f2⟩:=kb e2 ed;obtain⟨vs,f3,f1⟩:=bind_some f1;rw[hv];refine tk x Zc ds[i] vs (en σ caps) H3 _ (rx.same tc) hhc.zh f3 fun us ru hn=>⟨⟨by simp[hn],fun j v q=>?_⟩,?_⟩
   ·by_cases hj:j<vars.length
    ·rw[List.getElem?_append_left (by simpa using hj),List.getElem?_replicate]at q
     split at q<;>cases q
    ·rw[List.getElem?_append_right (by simpa using hj)]at q
     rw[List.getElem?_append_right (by simpa[hn]using hj)];simpa[hn]using q
   ·refine⟨H3,Zc,Zc,_,ei,kF hhc ru,f1,fun v Z4 H4 h4 t4 r4=>⟨ds.length-(i+1),by lia,rfl,hlt,Z4,hhc.new ⟨t4,h4.h0,h4.zh,h4.zb,h4.nf⟩,tc.trans t4,?_⟩⟩
    have:es.take (i+1)=es.take i++[ei]:=by
     rw[List.take_add_one,f2];rfl
    rw[this];exact(rc.same t4).append (.cons r4 .nil)
  ·have hie:i=ds.length:=by lia
   subst hie;refine .inl ⟨ok.stop _ H2 zh (Nat.le_refl _),by lia,fun p hp=>?_⟩
   rw[<-le,List.take_length]at rc;have n:=New.add hhc.zh hp (.lst ys);exact k _ _ _ (hhc.new n) ((t1.trans tc).trans n.z) (.lst (SqL.of aG) (rc.same n.z))
 ·rw[if_neg hz]at e;cases e
theorem gG(B:BlkOk X.env.scope.names X.N scope vars caps)(hc:X.calm=true)(hi:IV X tg iter fi)(tk:ph X.K g vars.length bv)
  (hg:∀C s₀ H₀ ex,PG (cL X scope (vars++caps.map (·.2)) C s₀ H₀ ex) tg g) (he:∀C s₀ H₀ ex,EV (cL X scope (vars++caps.map (·.2)) C s₀ H₀ ex) elt fe) (hs:∀x,foldedSetIterable iter X.env x=pure x:=by intro _;rfl) :
  EV X (.ListComp elt [⟨tg,iter,[],0⟩] scope pos) (dJ fi caps bv fe):=
 PE.imp (wm (te:=tV X.K fe) B hc hi hg he hs) fun _ _ _ h=>lV tk h
theorem vV(i:Nat){y:Str}{py spos:Pos}(hN:X.N.Nodup)(B:BlkOk X.env.scope.names X.N scope vars caps)(hc:X.calm=true)(hi:IV X tg iter fi)(tk:ph X.K g vars.length bv)
  (hg:∀C s₀ H₀ ex,PG (cL X scope (vars++caps.map (·.2)) C s₀ H₀ ex) tg g) (he:∀C s₀ H₀ ex,EV (cL X scope (vars++caps.map (·.2)) C s₀ H₀ ex) elt fe)
  (hy:X.N[i]? = some y:=by rfl) (hx:vF X.env.scope y:=by first|exact Or.inl rfl|exact Or.inr rfl) (hsw:swapsWith (.ListComp elt [⟨tg,iter,[],0⟩] scope pos) (some (.Name y py)) spos.line X.env=pure true:=by rfl)
  (hf:X.fn y=true\/X.env.scope.names.lookup y=some .local:=by first|exact .inl rfl|exact .inr rfl|assumption) (hs:∀x,foldedSetIterable iter X.env x=pure x:=by intro _;rfl) :
  SV X (.Assign [.Name y py] (.ListComp elt [⟨tg,iter,[],0⟩] scope pos) spos) (aT i (dJ fi caps bv fe)):=
 PS.imp (qB (te:=tV X.K fe) B hc hi hg he hN hy hx hsw hf hs) fun D σ H h=>by
  obtain⟨H₀,Z₀,Z,δ,r,hh,e,k⟩:=h;obtain⟨x,e1,e⟩:=bind_some e;cases e;exact lV tk ⟨H₀,Z₀,Z,δ,x,hh,e1,fun v Z1 H1 hh1 s1 r1=>k _ H1 Z1 (hh1.set r1) s1⟩
end
section
variable{X:Cx}{e:Expr}{es:List Expr}{p pos:Pos}{fs:Dv->Option (List D)}
theorem ao{k:Nat}{x:Str}{g:List D->Option D}(C:Cal X.prog X.w X.K X.mg X.base x k g [])(hr:Room k X.A)(hg:Gl X x)(ha:AV X (e::es) fs)(hdb:(x==("__debug__":Str))=false:=by decide)(he:starEach (e::es) X.env=(false,eval e X.env)::starEach es X.env:=by rfl)
  (hpl:(backTo pos (starEach es X.env)).any (·.1)=false:=by rfl):EV X (.Call (.Name x p) (e::es) [] pos) (os fs g):=by
 have h:=zS C hr hg ha hdb he hpl (p:=p) (pos:=pos);have e:(fun as=>g (as++[]))=g:=by funext as;rw[List.append_nil]
 rw[e]at h;exact h
end
noncomputable def sN:Option Sl->Option (List D)
 |some (.own (.l ds))=>some ds
 |_=>none
@[simp] theorem CZ(ds:List D):sN (some (.ow ds))=some ds:=rfl
theorem pD{o:Option Sl}{ds:List D}(h:sN o=some ds):o=some (.ow ds):=by
 cases o with
 |none=>cases h
 |some x=>
  cases x with
  |own c=>
   cases c with
   |l es=>cases h;rfl
   |d es=>cases h
  |un=>cases h
  |fz d=>cases h
  |fr _=>cases h
@[simp] noncomputable def A0(i:Nat)(fs:Dv->Option (List D)):Sf:=fun δ=>(fs δ).bind fun ds=>if ds.length<=sizeLine then some (.nx,δ.set i (.ow ds))else none
@[simp] noncomputable def ET(i:Nat)(f:Dv->Option D):Dv->Option D:=fun δ=>(sN δ[i]?).bind fun ds=>(f δ).bind fun k=>aF (.list ds) k
@[simp] noncomputable def Es(i:Nat):Dv->Option D:=fun δ=>(sN δ[i]?).bind fun ds=>some (.int ds.length)
noncomputable def yH(ds:List D)(k v:D):Option (List D):=match k with
 |.int j=>(uG ds.length j).map fun n=>ds.set n v
 |_=>none
@[simp] theorem jZ(ds:List D)(j:Int)(v:D):yH ds (.int j) v=(uG ds.length j).map fun n=>ds.set n v:=rfl
@[simp] noncomputable def AZ(i:Nat)(fk fv:Dv->Option D):Sf:=fun δ=>(fv δ).bind fun v=>(fk δ).bind fun k=>(sN δ[i]?).bind fun ds=>(yH ds k v).bind fun ds'=>some (.nx,δ.set i (.ow ds'))
@[simp] noncomputable def yv(i:Nat)(f:Dv->Option D):Sf:=fun δ=>(f δ).bind fun v=>(sN δ[i]?).bind fun ds=>if ds.length<sizeLine then some (.nx,δ.set i (.ow (ds++[v])))else none
section
variable{X:Cx}{e b:Expr}{es:List Expr}{p pos tpos apos:Pos}{fs:Dv->Option (List D)}{f fk fv:Dv->Option D}
theorem yp(i:Nat){x:Str}{pos':Pos}(hN:X.N.Nodup)(ha:AV X es fs)(hi:X.N[i]? = some x:=by rfl)(hx:vF X.env.scope x:=by first|exact Or.inl rfl|exact Or.inr rfl)(hs:swapsWith (.List es p) (some (.Name x pos')) pos.line X.env=pure false:=by rfl)
  (hf:X.fn x=true\/X.env.scope.names.lookup x=some .local:=by first|exact .inl rfl|exact .inr rfl|assumption):SV X (.Assign [.Name x pos'] (.List es p) pos) (A0 i fs):=
 PS.imp (t6 hN hi hx (t9 ha) hs hf) fun D σ H h=>by
  obtain⟨H₀,Z₀,Z,δ,r,hh,e,k⟩:=h;obtain⟨ds,e1,e⟩:=bind_some e;by_cases hl:ds.length<=sizeLine
  ·rw[if_pos hl]at e
   cases e;exact⟨H₀,Z₀,Z,δ,ds,hh,e1,fun vs Z1 H1 hh1 t1 r1=>⟨by rw[r1.length];exact hl,fun p hp=>k _ _ Z1 (hh1.setO hp r1) t1⟩⟩
  ·rw[if_neg hl]at e;cases e
theorem qC{K:Fg}{H₀ Z₀ Z:Hp}{δ:Dv}{σ:St}{H:Hp}(hh:Hold K H₀ Z₀ Z δ σ H){i:Nat}{ds:List D}(h:sN δ[i]? = some ds):∃a xs,σ[i]? = some (some (V.ref a))/\H a=some (.lst xs)/\Reps K Z xs ds:=by
 obtain⟨a,xs,h1,_,_,h4,h5⟩:=hh.ow i ds (pD h);exact⟨a,xs,h1,h4,h5⟩
theorem yo(i:Nat){x:Str}(hb:EV X b fk)(hv':EV X e fv)(hN:X.N[i]? = some x:=by rfl)(hv:Ak X.env.scope x:=by first|exact Or.inl rfl|exact Or.inr (Or.inl rfl)|exact Or.inr (Or.inr rfl))(hd:(x==("__debug__":Str))=false:=by decide)(hcd:(x==("__classdict__":Str))=false:=by decide)
  (hs:swapsWithSole [.Subscript (.Name x p) b tpos] e pos.line X.env=pure false:=by rfl) (hw:swappedStores [.Subscript (.Name x p) b tpos] e X.env=pure none:=by rfl)
  (ha:∀v,assign (.Subscript (.Name x p) b tpos) X.env v=(do
   let ov <-holding [v] (eval (.Name x p) X.env)
   let iv <-holding [v,ov] (eval b X.env)
   standAt tpos
   holding [v,ov,iv] (setItem ov iv v)
   release [v,ov,iv] []):=by intro _;rfl):SV X (.Assign [.Subscript (.Name x p) b tpos] e pos) (AZ i fk fv):=
 PS.imp (yM hv' (yP (j3 hN hv hd hcd) hb tP ha) hs hw) fun D σ H h=>by
  obtain⟨H₀,Z₀,Z,δ,r,hh,e,k⟩:=h;obtain⟨v,e1,e⟩:=bind_some e;obtain⟨y,e2,e⟩:=bind_some e;obtain⟨ds,e3,e⟩:=bind_some e;obtain⟨ds',e4,e⟩:=bind_some e;cases e;refine⟨H₀,Z₀,Z,δ,v,hh,e1,fun w Z1 H1 hh1 t1 r1=>?_⟩
  obtain⟨a,xs,h1,h4,h5⟩:=qC hh1 e3;refine⟨_,h1,H₀,Z₀,Z1,δ,y,hh1,e2,fun u Z2 H2 hh2 t2 r2=>?_⟩
  obtain⟨a',xs',g1,g4,g5⟩:=qC hh2 e3;rw[h1]at g1;cases g1;cases r2 with
  |int j=>
   rw[jZ]at e4;cases q:uG ds.length j with
   |none=>rw[q]at e4;cases e4
   |some n=>
    rw[q]at e4;cases e4;refine⟨a,xs',j,n,rfl,rfl,g4,by rw[g5.length];exact q,?_⟩;exact k σ _ Z2 (hh2.chg (xs:=xs') (pD e3) h1 (g5.set (r1.same t2) n)) (t1.trans t2)
  |_=>cases e4
theorem yq(i:Nat){x:Str}{cpos:Pos}(hv':EV X e f)(hN:X.N[i]? = some x:=by rfl)(hv:Ak X.env.scope x:=by first|exact Or.inl rfl|exact Or.inr (Or.inl rfl)|exact Or.inr (Or.inr rfl))(hd:(x==("__debug__":Str))=false:=by decide)(hcd:(x==("__classdict__":Str))=false:=by decide)
  (hbase:attributeBase (.Name x p) "append" X.env (eval (.Name x p) X.env)=eval (.Name x p) X.env:=by rfl)
  (hfew:((backTo cpos (starEach [e] X.env)).all (fun x=>!x.1)&&(backToKw cpos (keywordEach [] X.env)).all (fun x=>x.1.isSome)
   && decide ([e].length+([]:List Keyword).length+(if([]:List Keyword).isEmpty then 0 else 1)<30))=true:=by rfl)
  (hline:(apos.endLine==cpos.line)=true:=by rfl) (hs:starEach [e] X.env=(false,eval e X.env)::starEach [] X.env:=by rfl) (hplain:(backTo cpos (starEach [] X.env)).any (·.1)=false:=by rfl)
  (hsw:swapsWith (.Call (.Attribute (.Name x p) "append" apos) [e] [] cpos) none pos.line X.env=pure false:=by rfl):SV X (.Expr (.Call (.Attribute (.Name x p) "append" apos) [e] [] cpos) pos) (yv i f):=
 PS.imp (qA (Bc PySem.F.plainAttrs_list PySem.F.slot_list_append PySem.F.type_list_append r6 (j3 hN hv hd hcd) (ik hv' mN hs) hbase hfew hline hs hplain) hsw) fun D σ H h=>by
  obtain⟨H₀,Z₀,Z,δ,r,hh,e,k⟩:=h;obtain⟨v,e1,e⟩:=bind_some e;obtain⟨ds,e2,e⟩:=bind_some e;by_cases hl:ds.length<sizeLine
  ·rw[if_pos hl]at e
   cases e;obtain⟨a,xs,h1,h4,h5⟩:=qC hh e2;refine⟨_,h1,.inl ⟨rfl,xs,SqL.of h4⟩,H₀,Z₀,Z,δ,v,hh,e1,fun w Z1 H1 hh1 t1 r1=>?_⟩
   obtain⟨a',xs',g1,g4,g5⟩:=qC hh1 e2;rw[h1]at g1;cases g1;exact⟨a,xs',w,rfl,rfl,g4,by rw[g5.length];exact hl,k σ _ Z1 (hh1.chg (xs:=xs') (pD e2) h1 (g5.append (.cons r1 .nil))) t1⟩
  ·rw[if_neg hl]at e;cases e
end
section
def tE(wi:TI)(g:TG)(tt:TT)(te:TE)(vars:List Str)(caps:List (Nat×Str)):TE:=fun σ H Q=>wi σ H fun J H1=>∃W:Nat->Nat->List V->Hp->Prop,(∃m,W 0 m [] H1)/\∀i m ys H,W i m ys H ->
 (J.stop i H/\ys.length<=sizeLine/\∀p,H p=none->Q (.ref p) (upd H p (.lst ys))) \/
 (J.go i H/\ys.length<sizeLine/\∀x H',J.yld i H x H'->g x (vars.map (fun _=>none)++en σ caps) H' fun σ2 H2=>rz (vars.map (fun _=>none)++en σ caps) σ2/\tt σ2 H2 fun b H3=>if b=true then te σ2 H3 fun y H4=>∃m',m'<m/\W (i+1) m' (ys++[y]) H4 else ∃m',m'<m/\W (i+1) m' ys H3)
theorem iY{prog:Program}{w:World}{A:Around}{R:Result->Shared->Prop}{s:Shared}{elt target iter cnd:Expr}{scope:Scope}{pos:Pos}{it acc:Value}{env:Env}(I:Nat->Shared->Prop)
  (turn:∀n s,I n s->wpAny (model prog w) A (pyNext it) (fun r s₁=>match r with
   |none=>R (.ok .next) s₁
   |some v=>wpAny (model prog w) A (letOwnedTupleGo target it v) (fun _ s₁=>wpAny (model prog w) A (assign target env v) (fun _ s₂=>wpAny (model prog w) A (isTrue cnd env (eval cnd env)) (fun ok s₂=>if ok=true then wpAny (model prog w) A (eval elt env) (fun x s₃=>
     wpAny (model prog w) A (call (.builtin "list.append") [acc,x]) (fun _ s₄=>∃m,m<n/\I m s₄) (fun _ _=>False) s₃) (fun _ _=>False) s₂ else ∃m,m<n/\I m s₂) (fun _ _=>False) s₂) (fun _ _=>False) s₁) (fun _ _=>False) s₁) (fun _ _=>False) s)
  (n:Nat) (h:I n s):codeAny (model prog w) A (.compLoop (.ListComp elt [⟨target,iter,[cnd],0⟩] scope pos) 0 it acc env) R s:=by
 refine codeAny_loop rfl I (fun n s hI=>?_) n h;show wpAny _ _ ((compTurn (.ListComp elt [⟨target,iter,[cnd],0⟩] scope pos) 0 it acc env).onRaise (fun x=>do noteFrame x env;theTreesLotGoes x)) _ _ s;refine wpAny_noted ?_;rw[compTurn_list];refine wpAny_bind (wpAny_standAt (wpAny_bind (wpAny_mono (turn n s hI) (fun r s₁ h₁=>?_) fun _ _ h'=>h'.elim)))
 cases r with
 |none=>exact wpAny_pure h₁
 |some v=>
  refine wpAny_bind (wpAny_mono h₁ (fun _ s₁ h₁=>?_) fun _ _ h'=>h'.elim)
  refine wpAny_bind (wpAny_mono h₁ (fun _ s₂ h₂=>?_) fun _ _ h'=>h'.elim)
  refine wpAny_bind (wpAny_tests_one (wpAny_mono h₂ (fun okb s₃ h₃=>?_) fun _ _ h'=>h'.elim))
  cases okb with
  |false=>exact wpAny_pure ⟨rfl,h₃⟩
  |true=>exact wpAny_bind (wpAny_bind (wpAny_mono h₃ (fun x s₄ h₄=>wpAny_bind (wpAny_mono h₄ (fun _ s₅ h₅=>wpAny_pure (wpAny_pure ⟨rfl,h₅⟩)) fun _ _ h'=>h'.elim)) fun _ _ h'=>h'.elim))
end
section
variable{X:Cx}{scope:Scope}{vars:List Str}{caps:List (Nat×Str)}{elt tg iter cnd:Expr}{pos:Pos}{wi:TI}{g:TG}{tt:TT}{te:TE}
theorem oT{Cm:Cx->Prop}(B:BlkOk X.env.scope.names X.N scope vars caps)
  (hg:∀C s₀ H₀ ex,PG (cL X scope (vars++caps.map (·.2)) C s₀ H₀ ex) tg g) (hb:∀C s₀ H₀ ex,PT (cL X scope (vars++caps.map (·.2)) C s₀ H₀ ex) cnd tt) (he:∀C s₀ H₀ ex,PE (cL X scope (vars++caps.map (·.2)) C s₀ H₀ ex) elt te)
  {pins:List (Addr×Obj)} {σ:St} {H2:Hp} {s2:Shared} {Q:VK} {it:Addr} {fp:List Addr} {tn:Nat->Heap->Prop} {J:It} (I2:Inv X pins σ H2 s2) (T:TurnG Cm X.prog X.w X.K tg J fp it tn) (st2:tn 0 s2.heap) (f2:∀b∈fp,hX X pins H2 b) (hc:∀C,Cm (cL X scope (vars++caps.map (·.2)) C s2 H2 fp))
  {W:Nat->Nat->List V->Hp->Prop} {m0:Nat} (w0:W 0 m0 [] H2) (turn:∀i m ys H,W i m ys H ->
   (J.stop i H/\ys.length<=sizeLine/\∀p,H p=none->Q (.ref p) (upd H p (.lst ys))) \/
   (J.go i H/\ys.length<sizeLine/\∀x H',J.yld i H x H'->g x (vars.map (fun _=>none)++en σ caps) H' fun σ2 H2=>rz (vars.map (fun _=>none)++en σ caps) σ2/\tt σ2 H2 fun b H3=>if b=true then te σ2 H3 fun y H4=>∃m',m'<m/\W (i+1) m' (ys++[y]) H4 else ∃m',m'<m/\W (i+1) m' ys H3))
  {RR:Value->Addr->Result->Shared->Prop} {E:Value->Shared->Prop}
  (hRR:∀D C s' m,s'.heap.Ns C m->D≠C->s2.heap.objs.size<=D->s2.heap.objs.size<=C->∀H',H' C=none->(∀h',Heap.SameBut C s'.heap h'->Inv X pins σ H' { s' with heap:=h' })->Q (.ref D) H'->RR (.ref D) C (.ok .next) s') :
  wpAny (model X.prog X.w) X.A (newList []) (fun acc s₃=>wpAny (model X.prog X.w) X.A (newFunctionEnv scope X.env.globals (clos X.env scope.names []) [] X.env.qual none .none (some X.env)) (fun cenv s₄=>
   codeAny (model X.prog X.w) X.A (.compStart (.ListComp elt [⟨tg,iter,[cnd],0⟩] scope pos) 0 (.ref it) acc { cenv with scope:=relabel scope X.env }) (RR acc cenv.locals) s₄) E s₃) E s2:=by
 refine wpAny_newObj_type (wpAny_newFunctionEnv B.cell (by intro y hy;simp at hy) (fun h₁ hns₁ hsb₁=>?_) B.kind);dsimp only at hns₁ hsb₁ ⊢;generalize hP:s2.heap.push { cls:=.type "list",dict:=none,data:=.seq ([]:List Value).toArray }=HP at hns₁ hsb₁ ⊢;have hCs:HP.objs.size=s2.heap.objs.size+1:=by rw[<-hP,Heap.size_push]
 have hDC:s2.heap.objs.size≠HP.objs.size:=by rw[hCs];exact Nat.ne_of_lt (Nat.lt_succ_self _)
 have hCle:s2.heap.objs.size<=HP.objs.size:=by rw[hCs];exact Nat.le_succ _
 have old:∀b o,s2.heap.get? b=some o->h₁.get? b=some o:=fun b o e=>hsb₁.extBut b o (Nat.ne_of_lt (Nat.lt_of_lt_of_le (Heap.lt_size e) hCle)) (Heap.get?_push_of_some _ (hP ▸ Heap.get?_push_of_some _ e))
 have hacc:h₁.PlainList s2.heap.objs.size #[]:=⟨_,hsb₁.extBut _ _ hDC (Heap.get?_push_of_some _ (hP ▸ Heap.get?_push_size _ rfl))⟩;have flt:∀b∈fp,b<s2.heap.objs.size:=fun b hb=>by
  obtain⟨o,e,_⟩:=T.obj _ _ st2 b hb;exact Heap.lt_size e
 have st1:tn 0 h₁:=T.keep _ _ _ st2 fun b _ o e=>old b o e
 have loop:∀s3:Shared,s3={ s2 with heap:=h₁,toks:=s2.toks+([]:List (Str×Value)).length } ->
   codeAny (model X.prog X.w) X.A (.compLoop (.ListComp elt [⟨tg,iter,[cnd],0⟩] scope pos) 0 (.ref it) (.ref s2.heap.objs.size) (compEnvC scope (clos X.env scope.names []) HP.objs.size X.env))
    (RR (.ref s2.heap.objs.size) HP.objs.size) s3:=by
  rintro s3 rfl;have X':=cL X scope (vars++caps.map (·.2)) HP.objs.size s2 H2 fp;have fpo:∀{H':Hp},(∀b∈fp,H' b=none)->∀b∈fp,hX (cL X scope (vars++caps.map (·.2)) HP.objs.size s2 H2 fp) [] H' b:=fun hn b hb=>by
   have ok:=p6 B I2 f2 flt hCle;exact⟨hn b hb,(ok.exf b hb).1,ok.exfs b hb,.inl hb,(ok.exf b hb).2,fun p hp=>absurd (show p∈([]:List (Addr×Obj))from hp) (by simp)⟩
  refine iY (fun n s=>∃i ys H its,Inv (cL X scope (vars++caps.map (·.2)) HP.objs.size s2 H2 fp) [] (vars.map (fun _=>none)++en σ caps) H s/\tn i s.heap/\(∀b∈fp,H b=none)/\s.heap.PlainList s2.heap.objs.size (List.toArray its)/\H s2.heap.objs.size=none/\Vals ys its/\W i n ys H) ?_ m0
   ⟨0,[],H2,[],rf B I2 f2 flt hCle hns₁ old,st1,fun b hb=>(f2 b hb).1,hacc,I2.hok.fresh (Nat.le_refl _),.nil,w0⟩
  rintro n s4 ⟨i,ys,H4,its,I4,st4,fr4,pl4,nD4,v4,w4⟩;obtain⟨nn,eD⟩:=id pl4;have DnL:s2.heap.objs.size≠(cL X scope (vars++caps.map (·.2)) HP.objs.size s2 H2 fp).env.locals:=hDC;have Dfs:s2.heap.objs.size ∉ (cL X scope (vars++caps.map (·.2)) HP.objs.size s2 H2 fp).fs:=fun z=>by
   rcases List.mem_cons.mp (I2.stkSub _ z)with q|q
   ·have:=I2.lt;rw[<-q]at this;exact Nat.lt_irrefl _ this
   ·exact I2.nofs (Nat.le_refl _) q
  have Dfp:∀b∈fp,s2.heap.objs.size≠b:=fun b hb z=>by have:=flt b hb;rw[<-z]at this;exact Nat.lt_irrefl _ this
  have DnC:∀x c,(cL X scope (vars++caps.map (·.2)) HP.objs.size s2 H2 fp).env.cells.lookup x=some c->c≠s2.heap.objs.size:=fun x c e z=>by
   rcases br _ _ _ _ (B.cells I2) e with q|q
   ·cases q
   ·obtain⟨v,o,ho,_⟩:=I2.cell x c q
    have:=Heap.lt_size ho;rw[z]at this;exact Nat.lt_irrefl _ this
  have pinD:∀{σ':St} {H':Hp} {s':Shared},Inv (cL X scope (vars++caps.map (·.2)) HP.objs.size s2 H2 fp) [(s2.heap.objs.size,{ cls:=.type "list",data:=.seq its.toArray nn })] σ' H' s'->s'.heap.PlainList s2.heap.objs.size its.toArray/\H' s2.heap.objs.size=none:=fun{σ' H' s'} I'=>by
   obtain⟨q1,q2,_⟩:=I'.pin (s2.heap.objs.size,{ cls:=.type "list",data:=.seq its.toArray nn }) (by simp[cL]);exact⟨⟨nn,q1⟩,q2⟩
  have I4p:Inv (cL X scope (vars++caps.map (·.2)) HP.objs.size s2 H2 fp) [(s2.heap.objs.size,{ cls:=.type "list",data:=.seq its.toArray nn })] (vars.map (fun _=>none)++en σ caps) H4 s4:=
   I4.pins_of fun p hp=>by
    have e:p=(s2.heap.objs.size,{ cls:=.type "list",data:=.seq its.toArray nn }):=by simpa[cL]using hp
    subst e;exact⟨eD,nD4,DnL,Dfs,fun v z=>by cases z⟩
  have fpo':∀{H':Hp},(∀b∈fp,H' b=none)->∀b∈fp,hX (cL X scope (vars++caps.map (·.2)) HP.objs.size s2 H2 fp) [(s2.heap.objs.size,{ cls:=.type "list",data:=.seq its.toArray nn })] H' b:=fun hn b hb=>by
   obtain⟨q1,q2,q3,q4,q5,_⟩:=fpo hn b hb;exact⟨q1,q2,q3,q4,q5,fun p hp=>by
    have e:p=(s2.heap.objs.size,{ cls:=.type "list",data:=.seq its.toArray nn }):=by simpa[cL]using hp
    subst e;exact Dfp b hb⟩
  have unp:∀{pl:List (Addr×Obj)} {σ':St} {H':Hp} {s':Shared},Inv (cL X scope (vars++caps.map (·.2)) HP.objs.size s2 H2 fp) pl σ' H' s'->Inv (cL X scope (vars++caps.map (·.2)) HP.objs.size s2 H2 fp) [] σ' H' s':=fun{pl σ' H' s'} I'=>
   I'.pins_of fun p hp=>absurd (show p∈([]:List (Addr×Obj))from hp) (by simp)
  rcases turn i n ys H4 w4 with⟨stop,hz,qn⟩|⟨go,hz,step⟩
  ·refine bT (T.done (cL X scope (vars++caps.map (·.2)) HP.objs.size s2 H2 fp) rfl rfl rfl (hc _) i _ s4 _ H4 _ I4p (fpo' fr4) st4 stop) fun r s5 ⟨hr,I5⟩=>?_
   subst hr;obtain⟨p5,n5⟩:=pinD I5;obtain⟨m5,ns5,_⟩:=I5.loc;refine hRR _ _ s5 m5 ns5 hDC (Nat.le_refl _) hCle _ ?_ (fun h' hs'=>re I2 f2 hCle (Nat.le_refl _) hDC (unp I5) n5 p5 v4 hz hs') (qn _ n5)
   rw[az hDC.symm];exact I5.free
  ·refine bT (T.item (cL X scope (vars++caps.map (·.2)) HP.objs.size s2 H2 fp) rfl rfl rfl (hc _) i _ s4 _ H4 _ I4p (fpo' fr4) st4 go) fun r s5 ⟨u,hr,h5⟩=>?_
   subst hr;refine bT h5 fun _ s6 ⟨x,H6,I6,rx,yx,st6,fr6⟩=>?_
   have I6p:=I6.pinned (fpo' fr6) (T.obj _ _ st6);refine bT (hg _ _ _ _ _ s6 _ H6 x u _ I6p rx (step x H6 yx)) fun _ s7 ⟨σ7,H7,I7,kp,q7⟩=>?_
   refine bT (hb _ _ _ _ _ s7 σ7 H7 _ I7 q7) fun okb s7' q7'=>?_
   obtain⟨H7',I7',q7'⟩:=q7';cases okb with
   |false=>
    obtain⟨m',hm,w8⟩:=q7';rw[if_neg (by decide)];obtain⟨p8,n8⟩:=pinD I7'.unpinned;have st8:tn (i+1) s7'.heap:=T.keep _ _ _ st6 fun b hb o e=>(I7'.pin (b,o) (List.mem_append_right _ (List.mem_append_right _ (bX hb e)))).1
    have fr8:∀b∈fp,H7' b=none:=fun b hb=>by
     obtain⟨o,e,d⟩:=T.obj _ _ st6 b hb;exact(I7'.pin (b,o) (List.mem_append_right _ (List.mem_append_right _ (bX hb e)))).2.1
    exact⟨m',hm,i+1,ys,H7',its,(unp I7').weak kp.1 kp.2,st8,fr8,p8,n8,v4,w8⟩
   |true=>
   rw[if_pos rfl];rw[if_pos rfl]at q7';refine bT (he _ _ _ _ _ s7' σ7 H7' _ I7' q7') fun v s8 ⟨y,H8,I8,ry,m',hm,w8⟩=>?_
   obtain⟨p8,n8⟩:=pinD I8.unpinned;have st8:tn (i+1) s8.heap:=T.keep _ _ _ st6 fun b hb o e=>(I8.pin (b,o) (List.mem_append_right _ (List.mem_append_right _ (bX hb e)))).1
   have fr8:∀b∈fp,H8 b=none:=fun b hb=>by
    obtain⟨o,e,d⟩:=T.obj _ _ st6 b hb;exact(I8.pin (b,o) (List.mem_append_right _ (List.mem_append_right _ (bX hb e)))).2.1
   have hl:=v4.length;refine wpAny_list_append_plain p8 (fun h9 p9 sb9=>⟨m',hm,i+1,ys++[y],H8,its++[v],?_,?_,fr8,by simpa using p9,n8,v4.append (.cons ry .nil),w8⟩) (by simp;lia)
   ·have I9:Inv (cL X scope (vars++caps.map (·.2)) HP.objs.size s2 H2 fp) [] σ7 H8 { s8 with heap:=h9,toks:=s8.toks }:=
     (unp I8).turned (it:=s2.heap.objs.size) (fun b o hb e=>sb9.extBut b o hb e) n8 DnL (.inr (Nat.le_refl _)) DnC fun p hp=>absurd (show p∈([]:List (Addr×Obj))from hp) (by simp)
    exact I9.weak kp.1 kp.2
   ·exact T.keep _ _ _ st8 fun b hb o e=>sb9.extBut b o (Dfp b hb).symm e
 exact codeAny_compStart_list (loop _ rfl) (T.self _ 0 _ _ _ st1 (loop _ rfl))
theorem ub(B:BlkOk X.env.scope.names X.N scope vars caps)(hc:X.calm=true)(hi:PI X tg iter wi)
  (hg:∀C s₀ H₀ ex,PG (cL X scope (vars++caps.map (·.2)) C s₀ H₀ ex) tg g) (hb:∀C s₀ H₀ ex,PT (cL X scope (vars++caps.map (·.2)) C s₀ H₀ ex) cnd tt) (he:∀C s₀ H₀ ex,PE (cL X scope (vars++caps.map (·.2)) C s₀ H₀ ex) elt te) (hs:∀x,foldedSetIterable iter X.env x=pure x:=by intro _;rfl) :
  PE X (.ListComp elt [⟨tg,iter,[cnd],0⟩] scope pos) (tE wi g tt te vars caps):=by
 intro pins s σ H Q I h;rw[eval_ListComp];refine wpAny_comprehension_free (use:=none) rfl hs (eP (B.cells I)) B.kind B.names ?_;show wpAny _ _ (eval iter X.env) _ _ s;refine bT (hi pins s σ H _ I h) fun v s1 h1=>bT h1 fun itv s2 h2=>?_
 obtain⟨it,fp,tn,J,H2,e,I2,T,st2,f2,W,⟨m0,w0⟩,turn⟩:=h2;subst e;exact oT (Cm:=fun X=>X.calm=true) B hg hb he I2 T st2 f2 (fun _=>hc) w0 turn (RR:=fun acc C=>compPost (model X.prog X.w) X.A X.xe none (EP X pins σ Q) acc C) fun D C s' m ns _ _ _ H' _ k q=>⟨m,ns,fun h' hs'=>⟨.ref D,H',k h' hs',rfl,q⟩⟩
end
noncomputable def fH(t:D->Option Bool)(f:D->Option D):List D->Option (List D)
 |[]=>some []
 |d::ds=>(t d).bind fun b=>if b=true then(f d).bind fun e=>(fH t f ds).bind fun es=>some (e::es)else fH t f ds
@[simp] theorem BN{t:D->Option Bool}{f:D->Option D}:fH t f []=some []:=rfl
noncomputable def iS(fi:Dv->Option (List D))(caps:List (Nat×Str))(bv:D->Option (List D))(ft:Dv->Option Bool)(fe:Dv->Option D):Dv->Option D:=fun δ=>(fi δ).bind fun ds=>if ds.length<=sizeLine then(fH (fun d=>(bv d).bind fun vs=>ft (vs.map .fz++capS δ caps)) (fun d=>(bv d).bind fun vs=>fe (vs.map .fz++capS δ caps)) ds).bind fun es=>some (.list es)else none
theorem iX{t:D->Option Bool}{f:D->Option D}:∀{ds es:List D} {i:Nat} {d:D},fH t f ds=some es->ds[i]? = some d->∃xs,fH t f (ds.take i)=some xs/\∃b,t d=some b/\(b=false->fH t f (ds.take (i+1))=some xs)/\(b=true->∃e,f d=some e/\fH t f (ds.take (i+1))=some (xs++[e]))
 |[],es,i,d,h,q=>by simp at q
 |d::ds,es,i,d',h,q=>by
  obtain⟨b,h1,h⟩:=bind_some h;cases i with
  |zero=>
   simp at q;subst q;refine⟨[],rfl,b,h1,fun hb=>?_,fun hb=>?_⟩
   ·subst hb;simp[fH,h1]
   ·subst hb
    rw[if_pos rfl]at h;obtain⟨e,h2,h⟩:=bind_some h;exact⟨e,h2,by simp[fH,h1,h2]⟩
  |succ i=>
   simp at q;cases b with
   |false=>
    rw[if_neg (by decide)]at h;obtain⟨xs,g1,b',g2,g3,g4⟩:=iX (i:=i) h q;refine⟨xs,by simp[fH,h1,g1],b',g2,fun hb=>by simpa[fH,h1]using g3 hb,fun hb=>?_⟩
    obtain⟨e,k1,k2⟩:=g4 hb;exact⟨e,k1,by simpa[fH,h1]using k2⟩
   |true=>
    rw[if_pos rfl]at h;obtain⟨e0,h2,h⟩:=bind_some h;obtain⟨es',h3,h⟩:=bind_some h;obtain⟨xs,g1,b',g2,g3,g4⟩:=iX (i:=i) h3 q;refine⟨e0::xs,by simp[fH,h1,h2,g1],b',g2,fun hb=>by simp[fH,h1,h2,g3 hb],fun hb=>?_⟩
    obtain⟨e,k1,k2⟩:=g4 hb;exact⟨e,k1,by simp[fH,h1,h2,k2]⟩
theorem mX{t:D->Option Bool}{f:D->Option D}:∀{ds es:List D},fH t f ds=some es->es.length<=ds.length
 |[],es,h=>by cases h;exact Nat.le_refl _
 |d::ds,es,h=>by
  obtain⟨b,h1,h⟩:=bind_some h;cases b with
  |false=>rw[if_neg (by decide)]at h;exact Nat.le_succ_of_le (mX h)
  |true=>
   rw[if_pos rfl]at h;obtain⟨e0,h2,h⟩:=bind_some h;obtain⟨es',h3,h⟩:=bind_some h;cases h;exact Nat.succ_le_succ (mX h3)
section
variable{X:Cx}{scope:Scope}{vars:List Str}{caps:List (Nat×Str)}{elt tg iter cnd:Expr}{pos:Pos}{g:TG}{fi:Dv->Option (List D)}{ft:Dv->Option Bool}{fe:Dv->Option D}{bv:D->Option (List D)}
theorem pZ(tk:ph X.K g vars.length bv){σ:St}{H:Hp}{Q:VK}(h:tV X.K (iS fi caps bv ft fe) σ H Q):tE (Cb X.K fi) g (AI X.K ft) (tV X.K fe) vars caps σ H Q:=by
 obtain⟨H₀,Z₀,Z,δ,d,hh,e,k⟩:=h;obtain⟨ds,e1,e⟩:=bind_some e;by_cases hz:ds.length<=sizeLine
 ·rw[if_pos hz]at e
  obtain⟨es,e2,e⟩:=bind_some e;cases e;have hv:vars.map (fun _=>(none:Option V))=List.replicate vars.length none:=by rw[List.map_const']
  refine⟨H₀,Z₀,Z,δ,ds,hh,e1,fun J Z1 H1 hh1 t1 ok=>?_⟩
  refine⟨fun i m ys H=>m=ds.length-i/\i<=ds.length/\∃Zc xs,Hold X.K H₀ Z₀ Zc δ σ H/\Same Z1 Zc/\fH (fun d=>(bv d).bind fun vs=>ft (vs.map .fz++capS δ caps)) (fun d=>(bv d).bind fun vs=>fe (vs.map .fz++capS δ caps)) (ds.take i)=some xs/\Reps X.K Zc ys xs,⟨ds.length,by simp,Nat.zero_le _,Z1,[],hh1,Same.refl _,rfl,.nil⟩,?_⟩
  rintro i m ys H2 ⟨rfl,hi2,Zc,xs,hhc,tc,fx,rc⟩;have zh:Same Z1 H2:=tc.trans hhc.zh;have ly:=rc.length;have lx:=mX fx;rw[List.length_take]at lx;by_cases hlt:i<ds.length
  ·refine .inr ⟨ok.go i H2 zh hlt,by lia,fun x H3 y=>?_⟩
   have ed:ds[i]? = some ds[i]:=by simp[hlt]
   obtain⟨rfl,rx⟩:=ok.yld i H2 x H3 _ zh ed y;obtain⟨xs',f0,b,fb,ff,ftr⟩:=iX e2 ed;rw[fx]at f0;cases f0;obtain⟨vs,f3,f1⟩:=bind_some fb;rw[hv];refine tk x Zc ds[i] vs (en σ caps) H3 _ (rx.same tc) hhc.zh f3 fun us ru hn=>⟨⟨by simp[hn],fun j v q=>?_⟩,?_⟩
   ·by_cases hj:j<vars.length
    ·rw[List.getElem?_append_left (by simpa using hj),List.getElem?_replicate]at q
     split at q<;>cases q
    ·rw[List.getElem?_append_right (by simpa using hj)]at q
     rw[List.getElem?_append_right (by simpa[hn]using hj)];simpa[hn]using q
   ·refine⟨H3,Zc,Zc,_,b,kF hhc ru,f1,fun Z3 H3' h3 t3=>?_⟩
    have hh3:=hhc.new ⟨t3,h3.h0,h3.zh,h3.zb,h3.nf⟩;cases b with
    |false=>
     dsimp only;rw[if_neg (by decide)];exact⟨ds.length-(i+1),by lia,rfl,hlt,Z3,xs,hh3,tc.trans t3,ff rfl,rc.same t3⟩
    |true=>
     dsimp only;rw[if_pos rfl];obtain⟨ei,f2,f4⟩:=ftr rfl;rw[f3]at f2;refine⟨H3,Zc,Z3,_,ei,h3,f2,fun v Z4 H4 h4 t4 r4=>⟨ds.length-(i+1),by lia,rfl,hlt,Z4,xs++[ei],?_,(tc.trans t3).trans t4,f4,((rc.same t3).same t4).append (.cons r4 .nil)⟩⟩
     exact hhc.new ⟨t3.trans t4,h4.h0,h4.zh,h4.zb,h4.nf⟩
  ·have hie:i=ds.length:=by lia
   subst hie;refine .inl ⟨ok.stop _ H2 zh (Nat.le_refl _),by lia,fun p hp=>?_⟩
   rw[List.take_length,e2]at fx;cases fx;have n:=New.add hhc.zh hp (.lst ys);exact k _ _ _ (hhc.new n) ((t1.trans tc).trans n.z) (.lst (SqL.of aG) (rc.same n.z))
 ·rw[if_neg hz]at e;cases e
theorem oQ(B:BlkOk X.env.scope.names X.N scope vars caps)(hc:X.calm=true)(hi:IV X tg iter fi)(tk:ph X.K g vars.length bv)
  (hg:∀C s₀ H₀ ex,PG (cL X scope (vars++caps.map (·.2)) C s₀ H₀ ex) tg g) (hb:∀C s₀ H₀ ex,TV (cL X scope (vars++caps.map (·.2)) C s₀ H₀ ex) cnd ft) (he:∀C s₀ H₀ ex,EV (cL X scope (vars++caps.map (·.2)) C s₀ H₀ ex) elt fe) (hs:∀x,foldedSetIterable iter X.env x=pure x:=by intro _;rfl) :
  EV X (.ListComp elt [⟨tg,iter,[cnd],0⟩] scope pos) (iS fi caps bv ft fe):=
 PE.imp (ub (tt:=AI X.K ft) (te:=tV X.K fe) B hc hi hg hb he hs) fun _ _ _ h=>pZ tk h
end
noncomputable def vC:D->Bool
 |.none=>true
 |.bool _=>true
 |.int _=>true
 |.str _=>true
 |_=>false
noncomputable def Co(x:D)(ds:List D):Bool:=ds.any fun y=>PyData.eqv y x
noncomputable def BG(neg:Bool):D->D->Option D:=fun a b=>(da b).bind fun ds=>if vC a=true/\ds.all vC=true then some (.bool (if neg=true then !Co a ds else Co a ds))else none
theorem Rep.flat{K:Fg}{Z:Hp}{v:V}{d:D}(r:Rep K Z v d):gi v=vC d:=by cases r<;>rfl
theorem Rep.eqF{K:Fg}{Z:Hp}{v u:V}{d e:D}(r:Rep K Z v d)(q:Rep K Z u e)(h1:vC d=true)(h2:vC e=true):vD v u=PyData.eqv d e:=by
 cases r<;>first|(cases q<;>first|rfl|cases h2)|cases h1
theorem Reps.allF{K:Fg}{Z:Hp}:∀{vs:List V} {ds:List D},Reps K Z vs ds->vs.all gi=ds.all vC
 |_,_,.nil=>rfl
 |_,_,.cons r t=>by rw[List.all_cons,List.all_cons,r.flat,t.allF]
theorem Reps.inF{K:Fg}{Z:Hp}{x:V}{a:D}(q:Rep K Z x a)(h:vC a=true):∀{vs:List V} {ds:List D},Reps K Z vs ds->ds.all vC=true->Cn x vs=Co a ds
 |_,_,.nil,_=>rfl
 |_,_,.cons r t,f=>by
  rw[List.all_cons,Bool.and_eq_true]at f;show(vD _ x||Cn x _)=(PyData.eqv _ a||Co a _);rw[r.eqF q f.1 h,t.inF q h f.2]
theorem wY{K:Fg}{neg:Bool}{x y:V}{H:Hp}{Q:VK}(h:rD K (BG neg) x y H Q):De K neg x y H Q:=by
 obtain⟨Z,a,b,d,zh,ra,rb,e,k⟩:=h;obtain⟨ds,e1,e⟩:=bind_some e;by_cases c:vC a=true/\ds.all vC=true
 ·rw[if_pos c]at e
  cases e;have go:∀(xs:List V),Reps K Z xs ds->(∃p,y=.ref p/\(SqL K H p xs\/SqT K H p xs))->De K neg x y H Q:=fun xs r ⟨p,ey,hq⟩=>by
   refine⟨p,xs,ey,hq,by rw[ra.flat];exact c.1,by rw[r.allF];exact c.2,?_⟩;have:=r.inF ra c.1 c.2;rw[this];exact k _ Z H (New.refl zh) (.bl _)
  cases rb with
  |lst h q=>cases e1;exact go _ q ⟨_,rfl,.inl (SqL.same h zh)⟩
  |tup h q=>cases e1;exact go _ q ⟨_,rfl,.inr (SqT.same h zh)⟩
  |_=>cases e1
 ·rw[if_neg c]at e;cases e
theorem BT{X:Cx}:OpR X (compareOp .In) (rD X.K (BG false)):=OpR.imp rW fun _ _ _ _ h=>wY h
noncomputable def gT:List (D->Dv->Option Dv)->List D->Dv->Option Dv
 |[],[],δ=>some δ
 |g::gs,d::ds,δ=>(g d δ).bind fun δ1=>gT gs ds δ1
 |_,_,_=>none
noncomputable def EX(gs:List (D->Dv->Option Dv)):D->Dv->Option Dv
 |.tuple ds,δ=>gT gs ds δ
 |_,_=>none
@[simp] theorem DA(δ:Dv):gT [] [] δ = some δ:=rfl
@[simp] theorem Cs(g:D->Dv->Option Dv)(gs:List (D->Dv->Option Dv))(d:D)(ds:List D)(δ:Dv):gT (g::gs) (d::ds) δ = (g d δ).bind fun δ1=>gT gs ds δ1:=rfl
@[simp] theorem Cr(gs:List (D->Dv->Option Dv))(ds:List D)(δ:Dv):EX gs (.tuple ds) δ = gT gs ds δ:=rfl
noncomputable def wN:Nat:=1000000
theorem gW{t:Dv->Option Bool}{b:Sf}:∀{n m:Nat} {δ:Dv} {r:Fl×Dv},eu t b n δ = some r->n<=m->eu t b m δ = some r
 | 0,_,_,_,h,_=>by cases h
 |n+1,0,_,_,_,hm=>by lia
 |n+1,m+1,δ,r,h,hm=>by
  have hm:n<=m:=by lia
  obtain⟨c,h1,h⟩:=bind_some h;show((t δ).bind fun c=>_)=_
  rw[h1,Option.bind_some];cases c with
  |false=>exact h
  |true=>
   rw[if_pos rfl]at h ⊢;obtain⟨⟨fl,δ2⟩,h2,h⟩:=bind_some h;rw[h2,Option.bind_some];cases fl with
   |nx=>exact gW h hm
   |ct=>exact gW h hm
   |bk=>exact h
   |rt d=>exact h
theorem pj{t:Dv->Option Bool}{b:Sf}{δ:Dv}(n:Nat)(h:t δ = some false):eu t b (n+1) δ = some (.nx,δ):=by
 show((t δ).bind fun c=>_)=_
 rw[h];rfl
theorem sT{t:Dv->Option Bool}{b:Sf}{δ δ2:Dv}{r:Fl×Dv}(n:Nat)(h:t δ = some true)(h2:b δ = some (.nx,δ2))(h3:eu t b n δ2=some r):eu t b (n+1) δ = some r:=by
 show((t δ).bind fun c=>_)=_
 rw[h,Option.bind_some,if_pos rfl,h2,Option.bind_some];exact h3
theorem bn{g:D->Dv->Option Dv}{b:Sf}{d:D}{ds:List D}{δ δ1 δ2:Dv}(h1:g d δ = some δ1)(h2:b δ1=some (.nx,δ2)):loop g b (d::ds) δ = loop g b ds δ2:=by
 show((g d δ).bind fun δ1=>_)=_
 rw[h1,Option.bind_some,h2];rfl
def tO(K:Fg)(f:Dv->Option (List D)):TE:=fun σ H Q=>∃H₀ Z₀ Z δ ds,Hold K H₀ Z₀ Z δ σ H/\f δ = some ds/\∀p vs Z' H',Hold K H₀ Z₀ Z' δ σ H'->Same Z Z'->H' p=none->Reps K Z' vs ds->Q (.ref p) (upd H' p (.lst vs))
noncomputable def Ar(f:Dv->Option D):Dv->Option (List D):=fun δ=>(f δ).bind wH
@[simp] noncomputable def nS(i:Nat)(f:Dv->Option (List D)):Sf:=fun δ=>(f δ).bind fun ds=>some (.nx,δ.set i (.ow ds))
section
variable{X:Cx}{e:Expr}{es:List Expr}{p pos:Pos}{f:Dv->Option (List D)}{fs:Dv->Option (List D)}
theorem ue{K:Fg}{D:Ends}{i:Nat}{σ:St}{H:Hp}(h:yn K (nS i f) D σ H):tO K f σ H fun v H1=>D.nx (σ.set i (some v)) H1:=by
 obtain⟨H₀,Z₀,Z,δ,r,hh,e,k⟩:=h;obtain⟨ds,e1,e⟩:=bind_some e;cases e;exact⟨H₀,Z₀,Z,δ,ds,hh,e1,fun p vs Z1 H1 hh1 t1 hp r1=>k _ _ Z1 (hh1.setO hp r1) t1⟩
end
section
variable{X:Cx}{scope:Scope}{vars:List Str}{caps:List (Nat×Str)}{elt tg iter cnd:Expr}{pos:Pos}{g:TG}{fi:Dv->Option (List D)}{ft:Dv->Option Bool}{fe:Dv->Option D}{bv:D->Option (List D)}
theorem pY(tk:ph X.K g vars.length bv){σ:St}{H:Hp}{Q:VK}(h:tO X.K (Ar (dJ fi caps bv fe)) σ H Q):qt (Cb X.K fi) g (tV X.K fe) vars caps σ H Q:=by
 obtain⟨H₀,Z₀,Z,δ,d0,hh,e0,k⟩:=h;obtain⟨d,e,e0⟩:=bind_some e0;obtain⟨ds,e1,e⟩:=bind_some e;by_cases hz:ds.length<=sizeLine
 ·rw[if_pos hz]at e
  obtain⟨es,e2,e⟩:=bind_some e;cases e;obtain rfl:es=d0:=Option.some.inj e0;have le:=gb e2;have hv:vars.map (fun _=>(none:Option V))=List.replicate vars.length none:=by rw[List.map_const']
  refine⟨H₀,Z₀,Z,δ,ds,hh,e1,fun J Z1 H1 hh1 t1 ok=>?_⟩
  refine⟨fun i m ys H=>m=ds.length-i/\i<=ds.length/\∃Zc,Hold X.K H₀ Z₀ Zc δ σ H/\Same Z1 Zc/\Reps X.K Zc ys (es.take i),⟨ds.length,by simp,Nat.zero_le _,Z1,hh1,Same.refl _,by simpa using .nil⟩,?_⟩
  rintro i m ys H2 ⟨rfl,hi2,Zc,hhc,tc,rc⟩;have zh:Same Z1 H2:=tc.trans hhc.zh;have ly:=rc.length;rw[List.length_take]at ly;by_cases hlt:i<ds.length
  ·refine .inr ⟨ok.go i H2 zh hlt,by lia,fun x H3 y=>?_⟩
   have ed:ds[i]? = some ds[i]:=by simp[hlt]
   obtain⟨rfl,rx⟩:=ok.yld i H2 x H3 _ zh ed y;obtain⟨ei,f1,f2⟩:=kb e2 ed;obtain⟨vs,f3,f1⟩:=bind_some f1;rw[hv];refine tk x Zc ds[i] vs (en σ caps) H3 _ (rx.same tc) hhc.zh f3 fun us ru hn=>⟨⟨by simp[hn],fun j v q=>?_⟩,?_⟩
   ·by_cases hj:j<vars.length
    ·rw[List.getElem?_append_left (by simpa using hj),List.getElem?_replicate]at q
     split at q<;>cases q
    ·rw[List.getElem?_append_right (by simpa using hj)]at q
     rw[List.getElem?_append_right (by simpa[hn]using hj)];simpa[hn]using q
   ·refine⟨H3,Zc,Zc,_,ei,kF hhc ru,f1,fun v Z4 H4 h4 t4 r4=>⟨ds.length-(i+1),by lia,rfl,hlt,Z4,hhc.new ⟨t4,h4.h0,h4.zh,h4.zb,h4.nf⟩,tc.trans t4,?_⟩⟩
    have:es.take (i+1)=es.take i++[ei]:=by
     rw[List.take_add_one,f2];rfl
    rw[this];exact(rc.same t4).append (.cons r4 .nil)
  ·have hie:i=ds.length:=by lia
   subst hie;refine .inl ⟨ok.stop _ H2 zh (Nat.le_refl _),by lia,fun p hp=>?_⟩
   rw[<-le,List.take_length]at rc;exact k p ys Zc _ hhc (t1.trans tc) hp rc
 ·rw[if_neg hz]at e;cases e
theorem nI(i:Nat){y:Str}{py spos:Pos}(hN:X.N.Nodup)(B:BlkOk X.env.scope.names X.N scope vars caps)(hc:X.calm=true)(hi:IV X tg iter fi)(tk:ph X.K g vars.length bv)
  (hg:∀C s₀ H₀ ex,PG (cL X scope (vars++caps.map (·.2)) C s₀ H₀ ex) tg g) (he:∀C s₀ H₀ ex,EV (cL X scope (vars++caps.map (·.2)) C s₀ H₀ ex) elt fe)
  (hy:X.N[i]? = some y:=by rfl) (hx:vF X.env.scope y:=by first|exact Or.inl rfl|exact Or.inr rfl) (hsw:swapsWith (.ListComp elt [⟨tg,iter,[],0⟩] scope pos) (some (.Name y py)) spos.line X.env=pure true:=by rfl)
  (hf:X.fn y=true\/X.env.scope.names.lookup y=some .local:=by first|exact .inl rfl|exact .inr rfl|assumption) (hs:∀x,foldedSetIterable iter X.env x=pure x:=by intro _;rfl) :
  SV X (.Assign [.Name y py] (.ListComp elt [⟨tg,iter,[],0⟩] scope pos) spos) (nS i (Ar (dJ fi caps bv fe))):=
 PS.imp (qB (te:=tV X.K fe) B hc hi hg he hN hy hx hsw hf hs) fun D σ H h=>pY tk (ue h)
end
noncomputable def rP(t:Sf):Fl×Dv->Option (Fl×Dv)
 | (.nx,δ)=>t δ
 |r=>some r
@[simp] theorem Ce(t:Sf)(δ:Dv):rP t (.nx,δ)=t δ:=rfl
@[simp] theorem Cd(t:Sf)(d:D)(δ:Dv):rP t (.rt d,δ)=some (.rt d,δ):=rfl
@[simp] theorem Cg(t:Sf)(δ:Dv):rP t (.bk,δ)=some (.bk,δ):=rfl
@[simp] theorem Cf(t:Sf)(δ:Dv):rP t (.ct,δ)=some (.ct,δ):=rfl
noncomputable def BH(u w:Sf)(δ:Dv):Bool->Option (Fl×Dv)
 |true=>u δ
 |false=>w δ
@[simp] theorem Ev(u w:Sf)(δ:Dv):BH u w δ true=u δ:=rfl
@[simp] theorem Ew(u w:Sf)(δ:Dv):BH u w δ false=w δ:=rfl
theorem aK(s t:Sf)(δ:Dv):sSeq s t δ = (s δ).bind (rP t):=by
 unfold sSeq rP;congr 1
theorem bf(t:Dv->Option Bool)(u w:Sf)(δ:Dv):sIf t u w δ = (t δ).bind (BH u w δ):=by
 unfold sIf;congr 1;funext c;cases c<;>rfl
noncomputable def p4:List D->Option (List Bool)
 |[]=>some []
 |.bool b::r=>(p4 r).map (b :: ·)
 |_=>none
noncomputable def Ac:List D->Option D
 |[.list xs]=>(p4 xs).map fun bs=>.bool (bs.any id)
 |_=>none
noncomputable def A3:D->Option D
 |.list xs=>some (.list xs.reverse)
 |_=>none
@[simp] theorem yz(xs:List D):A3 (.list xs)=some (.list xs.reverse):=rfl
noncomputable def A4:D->Option (List D)
 |.list xs=>some xs.reverse
 |.tuple xs=>some xs.reverse
 |_=>none
@[simp] theorem Aq(xs:List D):A4 (.list xs)=some xs.reverse:=rfl
@[simp] theorem yA(xs:List D):A4 (.tuple xs)=some xs.reverse:=rfl
@[simp] noncomputable def Ch:Sf:=fun _=>none
@[simp] noncomputable def ER(i:Nat)(f:Dv->Option D):Sf:=fun δ=>(f δ).bind fun v=>(da v).bind fun es=>(sN δ[i]?).bind fun ds=>if ds.length+es.length<=sizeLine then some (.nx,δ.set i (.ow (ds++es)))else none
section
variable{X:Cx}{e:Expr}{es:List Expr}{p pos tpos apos:Pos}{f:Dv->Option D}{st:Stmt}
theorem rd{K:Fg}{Z:Hp}:∀{xs:List V} {ds:List D} {bs:List Bool} {its:List Value},Reps K Z xs ds->Vals xs its->p4 ds=some bs->its.length=bs.length/\∀(i:Nat) (v:Value),its[i]? = some v->∃b,bs[i]? = some b/\v=.bool b
 |_,_,bs,_,.nil,.nil,h=>by cases h;exact⟨rfl,fun i v q=>by simp at q⟩
 |_,_,bs,_,.cons r t,.cons q u,h=>by
  cases r with
  |bl b=>
   unfold p4 at h;cases g:p4 _ with
   |none=>rw[g]at h;cases h
   |some cs=>
    rw[g]at h;cases h;obtain⟨h1,h2⟩:=rd t u g;refine⟨by simp[h1],fun i v e=>?_⟩
    cases i with
    |zero=>simp at e;subst e;exact⟨b,rfl,q⟩
    |succ i=>simp at e;simpa using h2 i v e
  |_=>cases h
theorem BY(hc:X.calm=true):CallR X (.builtin "any") (yE X.K Ac):=by
 intro pins s σ H xs us Q I rs q;obtain⟨Z,as,d,zh,ra,e,k⟩:=q;cases ra with
 |nil=>cases e
 |cons r1 r2=>
  cases r2 with
  |cons _ _=>cases r1<;>cases e
  |nil=>
   cases r1 with
   | @lst l ys ds h1 q1=>
    have e:(p4 ds).map (fun bs=>PyData.bool (bs.any id))=some d:=e
    cases g:p4 ds with
    |none=>rw[g]at e;cases e
    |some bs=>
     rw[g]at e;cases e;obtain⟨u,rfl,ru⟩:=nD rs;cases ru;obtain⟨its,rv,pl,hz⟩:=I.list (SqL.same h1 zh);obtain⟨hlen,hget⟩:=rd q1 rv g;have hl:=pl.isList;have hlt:l<s.heap.objs.size:=by obtain⟨_,e,_⟩:=hl;exact Heap.lt_size e
     refine call_any_walk (wpAny_pyIter_list hl ?_);refine⟨s.heap.objs.size,[s.heap.objs.size,l],[s.heap.objs.size],its.toArray.size,_,_,fun i=>(bs[i]?).getD false,rfl,Walks.list (A:=X.A.in1) (I.ok.hd hc) _ l (Nat.ne_of_lt hlt) its.toArray,
      ⟨⟨_,Heap.get?_push_size _ rfl,rfl,rfl⟩,hl.push _⟩,fun i v s' Q' E' hP hQ=>?_,fun h' tk hk=>?_⟩
     ·obtain⟨b,e,rfl⟩:=hget i v (by simpa using hP)
      simp only[e,Option.getD_some]at hQ;exact wpAny_truthy_bool hQ
     ·have e:((List.range its.toArray.size).any fun i=>(bs[i]?).getD false)=bs.any id:=by
       rw[List.size_toArray,hlen];exact LSm.range_any bs
      rw[e];exact⟨.bl _,H,I.kept (t':=tk) (LSm.kept_iter hk),rfl,k _ Z H (New.refl zh) (.bl _)⟩
   |_=>cases e
theorem tG{st:Stmt}:SV X st Ch:=fun pins s σ H D I h=>by
 obtain⟨_,_,_,_,_,_,e,_⟩:=h;cases e
end
noncomputable def C8:D->Option (List D)
 |.tuple xs=>some xs.reverse
 |_=>none
@[simp] theorem yy(xs:List D):C8 (.tuple xs)=some xs.reverse:=rfl
noncomputable def zP(n:Str):D:=.dict [(.str "fn",.str n)]
abbrev Xf:=Dv->Option (Str×Dv)
@[simp] noncomputable def E5:Xf:=fun _=>none
@[simp] noncomputable def Cy(n:Str)(f:Dv->Option D):Xf:=fun δ=>(f δ).bind fun _=>some (n,δ)
@[simp] noncomputable def xE(f:Dv->Option Str):Xf:=fun δ=>(f δ).bind fun n=>some (n,δ)
@[simp] noncomputable def E6(t:Dv->Option Bool)(u w:Xf):Xf:=fun δ=>(t δ).bind fun c=>if c=true then u δ else w δ
@[simp] noncomputable def Cw(s:Sf)(u:Xf):Xf:=fun δ=>(s δ).bind fun r=>match r with
 | (.nx,δ')=>u δ'
 |_=>none
@[simp] noncomputable def Ef(u1:Xf)(s:Sf)(u:Xf):Xf:=fun δ=>match u1 δ with
 |some r=>some r
 |none=>Cw s u δ
@[simp] noncomputable def E9(fs:Dv->Option (List D))(g:List D->Option Str):Dv->Option Str:=fun δ=>(fs δ).bind g
noncomputable def sn:Sl->Bool
 |.own _=>true
 |_=>false
@[simp] theorem Ck(d:D):sn (.fz d)=false:=rfl
@[simp] theorem Cj:sn .un=false:=rfl
noncomputable def vZ:Nat->Dv->Bool
 |_,[]=>true
 | 0,_::r=>r.all fun s=>!sn s
 |n+1,s::r=>!sn s&&vZ n r
@[simp] theorem Ao(s:Sl)(r:Dv):vZ 0 (s::r)=r.all fun s=>!sn s:=rfl
@[simp] theorem Ap(n:Nat)(s:Sl)(r:Dv):vZ (n+1) (s::r)=(!sn s&&vZ n r):=rfl
@[simp] noncomputable def Ee(f:Dv->Option D)(u:Dv->Option Str):Dv->Option Str:=fun δ=>(f δ).bind fun _=>u δ
noncomputable def kw:D->Option Str
 |.dict [(.str k,.str n)]=>if k = "fn" then some n else none
 |_=>none
theorem sy(n:Str):kw (zP n)=some n:=by simp[kw,zP]
noncomputable def f8(i:Nat)(fs:Dv->Option (List D))(tbl:List (Str×(List D->Option D))):Dv->Option D:=fun δ=>(oV i δ).bind fun d=>(kw d).bind fun n=>(tbl.lookup n).bind fun g=>(fs δ).bind g
@[simp] noncomputable def Eo(i:Nat)(f:Dv->Option D):Sf:=fun δ=>(f δ).bind fun v=>(wH v).bind fun es=>(sN δ[i]?).bind fun ds=>if ds.length+es.length<=sizeLine then some (.nx,δ.set i (.ow (ds++es)))else none
theorem sA{d:D}{n:Str}(h:kw d=some n):d=zP n:=by
 unfold kw at h;split at h
 ·split at h
  ·rename_i hk;subst hk;cases h;rfl
  ·cases h
 ·cases h
structure CalF (P:Program) (w:World) (K:PySem.W.Frag) (mg:Str->Option Value) (base:Heap) (x:Str) (k:Nat) (g:List D->Option D):Prop where
 ex:∃(fa:Addr) (fd:FuncData) (ps:List Str),FnOk P w K mg base cJ k fa fd ps (dG K g)/\PySem.W.nsIn K mainGlobals x=some (some (.ref fa))/\mg x=some (.ref fa)/\PySem.W.keepIn K (.ref fa)=true/\Binds K fd ps []
theorem uM{P:Program}{w:World}{K:PySem.W.Frag}{mg:Str->Option Value}{base:Heap}{k:Nat}:∀n g,([]:List (Str×(List D->Option D))).lookup n=some g->∃j,j<=k/\CalF P w K mg base n j g:=fun _ _ h=>by cases h
theorem qN{P:Program}{w:World}{K:PySem.W.Frag}{mg:Str->Option Value}{base:Heap}{k j:Nat}{c:Str}{gc:List D->Option D}{tbl:List (Str×(List D->Option D))}(hj:j<=k)(V:CalF P w K mg base c j gc)(h:∀n g,tbl.lookup n=some g->∃j,j<=k/\CalF P w K mg base n j g):∀n g,((c,gc)::tbl).lookup n=some g->∃j,j<=k/\CalF P w K mg base n j g:=fun n g e=>by
 rw[List.lookup_cons]at e;split at e
 ·rename_i hn
  cases e;have:n=c:=by simpa using hn
  subst this;exact⟨j,hj,V⟩
 ·exact h n g e
structure Fnm (K:PySem.W.Frag) (mg:Str->Option Value) (x:Str):Prop where
 ex:∃fa,PySem.W.nsIn K mainGlobals x=some (some (.ref fa))/\mg x=some (.ref fa)
section
variable{X:Cx}{e:Expr}{es:List Expr}{p pos:Pos}{fs:Dv->Option (List D)}
theorem uS{x:Str}(F:Fnm X.K X.mg x)(hg:Gl X x)(hdb:(x==("__debug__":Str))=false:=by decide):EV X (.Name x pos) (oC (zP x)):=by
 obtain⟨fa,h1,h2⟩:=F.ex;exact uT (wl (v:=.ref fa) (u:=.ref fa) hg h2 rfl hdb) fun Z=>.opq (.fn h1)
theorem oR(i:Nat){x:Str}{k:Nat}{tbl:List (Str×(List D->Option D))}(hT:∀n g,tbl.lookup n=some g->∃j,j<=k/\CalF X.prog X.w X.K X.mg X.base n j g)(hr:Room k X.A)(ha:AV X (e::es) fs)(hN:X.N[i]? = some x:=by rfl)(hv:Ak X.env.scope x:=by first|exact Or.inl rfl|exact Or.inr (Or.inl rfl)|exact Or.inr (Or.inr rfl))(hdb:(x==("__debug__":Str))=false:=by decide)(hcd:(x==("__classdict__":Str))=false:=by decide)
  (he:starEach (e::es) X.env=(false,eval e X.env)::starEach es X.env:=by rfl) (hpl:(backTo pos (starEach es X.env)).any (·.1)=false:=by rfl):EV X (.Call (.Name x p) (e::es) [] pos) (f8 i fs tbl):=by
 intro pins s σ H Q I h;obtain⟨H₀,Z₀,Z,δ,d,hh,e0,kk⟩:=h;unfold f8 at e0;obtain⟨c,e1,e0⟩:=bind_some e0;obtain⟨n,e2,e4⟩:=bind_some e0;obtain⟨g,e3,e5⟩:=bind_some e4;have:=sA e2;subst this;obtain⟨v,hσ,rv⟩:=hh.read e1;obtain⟨j,hj,CF⟩:=hT n g e3;obtain⟨fa,fd,ps,F,hns,hm,hk,hb⟩:=CF.ex;have hva:v=.ref fa:=by
  cases rv with
  |opq o=>
   cases o with
   |fn h1=>rw[hns]at h1;cases h1;rfl
   |lam h1=>rw[hns]at h1;cases h1
   |dct h1 _=>exact absurd h1 fun z=>qS z
 subst hva;refine wpAny_Call_Name_kw (bT (j3 hN hv hdb hcd pins s σ H (fun v' H'=>v'=.ref fa/\H'=H) I ⟨_,hσ,rfl,rfl⟩) fun u s1 hq=>?_)
 obtain⟨v',H',I1,r1,hv',hH'⟩:=hq;subst hv';subst hH';cases(show u=Value.ref fa from r1);have ht:tV X.K (os fs g) σ H' Q:=⟨H₀,Z₀,Z,δ,d,hh,e5,kk⟩;obtain⟨H₀',Z₀',Z',δ',xs,hh',ea,q⟩:=args ht;refine PySem.W.callWith_K (h₀:=X.base) I1.ok.mod.kin hk (bT (ha pos pins s1 σ H' (fun vs H1=>dG X.K g (vs++[]) H1 Q E0) I1 ⟨H₀',Z₀',Z',δ',xs,hh',ea,fun vs Z1 H1 hh1 t1 r1=>?_⟩) fun us s2 ⟨vs,H1,I2,r,q2⟩=>⟨I2.kIn,tS F (hr.mono hj) hb .nil uc I2 r q2⟩) he hpl
 show dG X.K g (vs++[]) H1 Q E0;rw[List.append_nil];exact q vs Z1 H1 hh1 t1 r1
end
theorem lz{pos:Pos}{cv:Value}(l r:List Value)(ht:TriplesOk l)(h:codeAmong pos (l++r)=some cv):codeAmong pos l=some cv\/codeAmong pos r=some cv:=by
 fun_induction TriplesOk l with
 |case1=>exact .inr h
 |case2 a t b u c rest ih=>
  rw[List.cons_append,List.cons_append,List.cons_append]at h;unfold codeAmong at h;split at h
  ·rename_i hc
   left;unfold codeAmong;rw[if_pos hc];exact h
  ·rename_i hc
   rcases ih ht h with z|z
   ·left
    unfold codeAmong;rw[if_neg hc];exact z
   ·exact .inr z
 |case3=>exact ht.elim
section
variable{X:Cx}{params:Arguments}{body:Expr}{scope:Scope}{pos:Pos}
theorem Inv.bat{pins:List (Addr×Obj)}{σ:St}{H:Hp}{s:Shared}{P:Addr}(I:Inv X pins σ H s)(hP:H P≠none):s.heap.BuiltinsAt X.mg P:=by
 obtain⟨bm,ob,b1,b2,b3,b4,b5,b6⟩:=I.ok.mod.bmain;have hbP:bm≠P:=fun q=>hP (by rw[<-q];exact(I.bs bm ob b3).2)
 have hbG:bm≠mainGlobals:=fun q=>by
  obtain⟨o,es,ep,e,hd,_⟩:=I.ok.mod.glob;rw[q,e]at b3;cases b3;rw[hd]at b6;cases b6
 exact⟨bm,ob,b1,b2,hbG,hbP,I.bk _ _ b3,b4,b5,b6⟩
theorem Inv.gl{pins:List (Addr×Obj)}{σ:St}{H:Hp}{s:Shared}(I:Inv X pins σ H s):s.heap.Ns mainGlobals X.mg:=by
 obtain⟨o,es,ep,e,r⟩:=I.ok.mod.glob;exact⟨o,es,ep,I.bk _ _ e,r⟩
abbrev mU(X:Cx)(params:Arguments)(body:Expr)(scope:Scope)(clos:List (Str×Addr))(c':Addr)(ctv:Value):Obj:=PySem.W.kla_obj "<lambda>" (X.env.qual ++ "<lambda>") params body scope clos ((X.mg "__name__").getD .none) c' ctv
theorem oE{x:Str}{c P:Addr}{clos:List (Str×Addr)}{pins:List (Addr×Obj)}{σ:St}{H Z:Hp}{s:Shared}{Q:VK}(I:Inv X pins σ H s)(zh:Same Z H)(hx:x∈lamDefs)(ht:PySem.W.tabIn X.K x=some (c,P))(hcode:X.env.code=.ref c)
  (hcl:closureFor scope X.env=pure clos) (hdef:defaultsOf params X.env=([],[])) (fz:Addr->HO) (hnf:∀(ob:Obj) (c':Addr),zl (.frz ob (fz c'))=true) (hfz:∀(H':Hp) (h':Heap) (a c':Addr),(∀b o,H b=some o->H' b=some o)->ObjOk X.prog X.w H' h' a (.cod c')->ObjOk X.prog X.w H' h' a (fz c'))
  (k:∀(f c':Addr) (ctv:Value) (Z' H':Hp),New Z H Z' H'->Z' f=some (.frz (mU X params body scope clos c' ctv) (fz c'))->Q (.ref f) H') :
  wpAny (model X.prog X.w) X.A (eval (.Lambda params body scope pos) X.env) (EP X pins σ Q) X.xe s:=by
 refine PySem.W.kla_eval hdef ?_;obtain⟨ps0,hP⟩:=I.tb x hx c P ht;obtain⟨ps,gP,tr,good⟩:=I.hok P _ hP;have hPn:H P≠none:=by rw[hP];simp
 have C:PySem.W.CodeHd s.heap c P:=(I.ok.mod.tabs x hx c P ht).keeps I.bk;have hgP:mainGlobals≠P:=fun q=>by
  obtain⟨o,es,ep,e,r⟩:=I.ok.mod.glob;exact hPn (by rw[<-q];exact(I.bs _ _ e).2)
 have hLP:X.env.locals≠P:=fun q=>hPn (by rw[<-q];exact I.free)
 cases hf:codeAmong pos ps.toList with
 |some cv=>
  obtain⟨c',oc,u,vs,q,t,rfl,hc,hd,hv⟩:=good pos cv hf;refine PySem.W.kla_makeFunctionHit (mg:=X.mg) hcl I.ok.glob (Inv.gl I) hcode C gP tr hf (Inv.bat I hPn) fun ctv h' tk hk hsz=>?_
  have hsz':s.heap.objs.size<=h'.objs.size:=hsz;have hfr:H h'.objs.size=none:=I.hok.fresh hsz';have hkk:∀b u,s.heap.get? b=some u->(h'.push (mU X params body scope clos c' ctv)).get? b=some u:=fun b u e=>Heap.get?_push_of_some _ (hk b u e)
  refine⟨.ref h'.objs.size,_,I.laid (o:=.frz (mU X params body scope clos c' ctv) (fz c')) hkk hsz' ?_,rfl,?_⟩
  ·refine⟨Heap.get?_push_size _ rfl,hfz _ _ _ _ (fun b o e=>by rw[az (aR e hfr)];exact e) ⟨⟨_,Heap.get?_push_size _ rfl⟩,oc,u,vs,q,t,?_,hd,hv⟩⟩
   rw[az (fun z=>by rw[z,hfr]at hc;cases hc)];exact hc
  ·have nw:=New.add zh hfr (.frz (mU X params body scope clos c' ctv) (fz c')) (hnf _ _)
   exact k _ c' ctv _ _ nw aG
 |none=>
  refine PySem.W.kla_makeFunction (mg:=X.mg) hcl I.ok.glob (Inv.gl I) hcode C gP tr hf hgP (Inv.bat I hPn) fun c' ctv h' tk hx' hge hlt hrec htb=>?_
  obtain⟨c2,oc,vs,t,e2,hoc,hd,hv⟩:=hrec;cases e2;have cP:c'≠P:=fun z=>by
   rw[z]at hge;exact absurd (Nat.lt_of_lt_of_le (Heap.lt_size gP) hge) (Nat.lt_irrefl _)
  have hcn:H c'=none:=I.hok.fresh hge;have hsz':s.heap.objs.size<=h'.objs.size:=Nat.le_trans hge (Nat.le_of_lt hlt);have hfn:H h'.objs.size=none:=I.hok.fresh hsz';have hfc:h'.objs.size≠c':=Nat.ne_of_gt hlt;have keep:∀b o,b≠P->s.heap.get? b=some o->(h'.push (mU X params body scope clos c' ctv)).get? b=some o:=fun b o hb e=>Heap.get?_push_of_some _ (hx' b o hb e)
  have nP:∀b,H b=none->b≠P:=fun b hb z=>hPn (by rw[<-z];exact hb)
  have low:∀b o,s.heap.get? b=some o->b≠c'/\b≠h'.objs.size:=fun b o e=>⟨Nat.ne_of_lt (Nat.lt_of_lt_of_le (Heap.lt_size e) hge),Nat.ne_of_lt (Nat.lt_of_lt_of_le (Heap.lt_size e) hsz')⟩
  have up:∀b o,H b=some o->upd (upd H c' (.frz oc (.own 0))) h'.objs.size (.frz (mU X params body scope clos c' ctv) (fz c')) b=some o:=fun b o e=>by
   rw[az (aR e hfn),az (aR e hcn)];exact e
  have gc:upd (upd H c' (.frz oc (.own 0))) h'.objs.size (.frz (mU X params body scope clos c' ctv) (fz c')) c'=some (.frz oc (.own 0)):=by
   rw[az (Ne.symm hfc),aG]
  refine⟨.ref h'.objs.size,upd (upd H c' (.frz oc (.own 0))) h'.objs.size (.frz (mU X params body scope clos c' ctv) (fz c')),I.step (g':=s.gens) (d':=s.drawn) (ch:=[]) (fun _ z=>nomatch z) (fun b o _ _ _ e n=>keep b o (nP b n) e) (fun b o _ _ _ e n=>⟨o.slots,keep b o (nP b n) e⟩)
   (fun b o _ e n=>?_) (fun b o _ e=>?_) (fun b xs e=>up b _ e) (fun b o u e=>up b _ e) (fun b ps e=>⟨#[],by rw[Array.append_empty];exact up b _ e⟩) (fun m hm=>?_) (fun b o e=>?_) I.bare,rfl,?_⟩
  ·rw[az (low b o e).2,az (low b o e).1];exact n
  ·by_cases hb:b=P
   ·subst hb;exact⟨_,Heap.get?_push_of_some _ htb⟩
   ·exact⟨o,keep b o hb e⟩
  ·obtain⟨o,es,ep,e,r⟩:=hm
   exact⟨o,es,ep,keep _ o hLP e,r⟩
  ·by_cases hbf:b=h'.objs.size
   ·subst hbf
    rw[aG]at e;cases e;exact⟨Heap.get?_push_size _ rfl,hfz _ _ _ _ up ⟨⟨_,Heap.get?_push_size _ rfl⟩,oc,_,vs,_,t,gc,hd,hv⟩⟩
   ·by_cases hbc:b=c'
    ·subst hbc
     rw[gc]at e;cases e;exact⟨Heap.get?_push_of_some _ hoc,⟨_,Heap.get?_push_of_some _ hoc⟩⟩
    ·have e':=e
     rw[az hbf,az hbc]at e';by_cases hb:b=P
     ·subst hb
      rw[hP]at e';cases e';refine⟨_,Heap.get?_push_of_some _ htb,by rw[Array.toList_append];exact TriplesOk_snoc _ _ _ _ tr,fun pos' cv q=>?_⟩
      rw[Array.toList_append]at q;rcases lz _ _ tr q with z|z
      ·obtain⟨c1,oc1,u1,vs1,q1,t1,g1,g2,g3⟩:=good pos' cv z
       exact⟨c1,oc1,u1,vs1,q1,t1,g1,up _ _ g2,g3⟩
      ·have z':cv=.ref c':=by
        have z:codeAmong pos' [rawInt pos.line,rawInt pos.col,.ref c']=some cv:=z;unfold rawInt at z;unfold codeAmong at z;split at z
        ·exact(Option.some.inj z).symm
        ·cases z
       exact⟨c',oc,_,vs,_,t,z',gc,hd,hv⟩
     ·refine(I.hok b o e').stay (fun b2 u hb2 q=>keep b2 u ?_ q) (fun b2 q=>up b2 _ q) (fun b2 xs q=>up b2 _ q) fun b2 o2 u2 q=>up b2 _ q
      rcases hb2 with z|z
      ·rw[z];exact hb
      ·intro y;rw[y,hP]at z;cases z
  ·have nw1:New Z H Z (upd H c' (.frz oc (.own 0))):=⟨Same.refl _,cM hcn,zh.trans (cM hcn),fun _ _=>rfl,NoF.refl _⟩
   have nw2:=New.add nw1.zh (show upd H c' (.frz oc (.own 0)) h'.objs.size=none by rw[az hfc];exact hfn) (.frz (mU X params body scope clos c' ctv) (fz c')) (hnf _ _);exact k _ c' ctv _ _ (nw1.trans nw2) aG
end
section
variable{prog:Program}{w:World}{A:Around}{R:Result->Shared->Prop}{s:Shared}
theorem BW{a:Addr}{args:Args}{o:Obj}{fd:FuncData}{body:Expr}{c:Addr}{oc:Obj}{vs:Array Value}{q:Str}{tq:Tok}(hroom:A.depth<recursionLimit)(ho:s.heap.get? a=some o)
  (hd':o.data=.func fd) (hco:fd.scope.isCoroutine=false) (hgen:fd.scope.isGenerator=false) (hbody:fd.body=.expr body) (hc:fd.code=.ref c) (hoc:s.heap.get? c=some oc) (hdc:oc.data=.fields vs) (hq:vs[1]? = some (.str q tq))
  (h:wpAny (model prog w) A.in1 (bindArgs fd args) (fun binds s₁=>
   wpAny (model prog w) A.in1 (newFunctionEnv fd.scope fd.globals fd.closure binds (q ++ ".<locals>.") (some a) fd.code none fd.builtins)
    (fun env s₂=>s₂.heap.NoLimit/\codeAny (model prog w) A (.expr body env) R s₂) (fun e s'=>R (.error e) s') s₁) (fun e s'=>R (.error e) s') s) :
  codeAny (model prog w) A (.call (.ref a) args) R s:=by
 refine codeAny_of_tree ?_;show wpAny _ A.in1 (callAny (.ref a) args) _ _ s;simp only[callAny];refine wpAny_bind (wpAny_load ho ?_);simp only[hd',callFunction,hco,hgen,hbody,hc];rw[hc]at h;refine wpAny_bind (m:=field (.ref c) 1) (wpAny_field hoc hdc hq (wpAny_bind (wpAny_pure ?_)));exact wpAny_bind (wpAny_mono h (fun binds s₁ h₁=>wpAny_bind (wpAny_mono h₁ (fun env s₂ h₂=>wpAny_bind (wpAny_enterFrame h₂.1 hroom
  (wpAny_pure (And.intro rfl h₂.2)))) fun _ _ h'=>h')) fun _ _ h'=>h')
end
theorem pP{α:Type}:∀{us:List α},us.length=1->∃a,us=[a]
 |[a],_=>⟨a,rfl⟩
theorem fF{α:Type}{us:List α}(h:us.length=2):∃a b,us=[a,b]:=by
 cases us with
 |nil=>cases h
 |cons a r=>
  obtain⟨b,rfl⟩:=pP (Nat.succ.inj h);exact⟨a,b,rfl⟩
theorem lm{α:Type}{us:List α}(h:us.length=3):∃a b c,us=[a,b,c]:=by
 cases us with
 |nil=>cases h
 |cons a r=>
  obtain⟨b,c,rfl⟩:=fF (Nat.succ.inj h);exact⟨a,b,c,rfl⟩
def DefIn(K:PySem.W.Frag)(x y:Str)(st:Stmt):Prop:=∃f fd,PySem.W.nsIn K mainGlobals x=some (some (.ref f))/\FunV K y y st f fd .none/\PySem.W.keepIn K (.ref f)=true
def aD(x:Str)(st:Stmt)(ps:List Str):Prop:=∀(kV doc pm:Value) (an:Option Addr) (cdv ct:Value) (us:List Value),us.length=ps.length->bindArgs (PySem.W.fnOf x x (cq st) (bD st) (af st) .none kV doc pm an cdv ct) ⟨us,[]⟩=pure (ps.zip us)
section
variable{P:Program}{w:World}{K:PySem.W.Frag}{mg:Str->Option Value}{base h:Heap}{x y:Str}{st:Stmt}{k:Nat}{ps:List Str}
theorem DefIn.mk{f:Addr}{oc:Value}{od an:Option Addr}{osl:Array (Option Value)}{kV doc pm cdv ct:Value}(a:PySem.W.nsIn K mainGlobals x=some (some (.ref f)))(l:K.lookup f=some ⟨oc,od,.func (PySem.W.fnOf y y (cq st) (bD st) (af st) .none kV doc pm an cdv ct),osl⟩)
  (c:PySem.W.codeIn K cdv y=true) (k:PySem.W.keepIn K (.ref f)=true):DefIn K x y st:=⟨_,_,a,mV l c k,k⟩
variable(D:DefIn K x y st)(X:K.In h)(G:h.Ns mainGlobals mg)(b:aD y st ps)
include D X G
theorem DefIn.fnm:Fnm K mg x:=by
 obtain⟨f,fd,a,F,hk⟩:=D;exact⟨⟨_,a,PySem.W.mg_of X G a⟩⟩
include b
theorem DefIn.cal{g:List VL.D->Option VL.D}(ok:∀f fd,FunV K y y st f fd .none->FnOk P w K mg base cJ k f fd ps (dG K g)):Cal P w K mg base x k g []:=by
 obtain⟨f,fd,a,F,hk⟩:=D;exact Cal.mk0 (ok f fd F) (PySem.W.mg_of X G a) hk (F.binds b)
theorem DefIn.calF{g:List VL.D->Option VL.D}(ok:∀f fd,FunV K y y st f fd .none->FnOk P w K mg base cJ k f fd ps (dG K g)):CalF P w K mg base x k g:=by
 obtain⟨f,fd,a,F,hk⟩:=D;exact⟨⟨_,_,_,ok f fd F,a,PySem.W.mg_of X G a,hk,F.binds b⟩⟩
end
noncomputable def Ex(fd:FuncData)(us:List Value):{kk:Option (Array Value)->Sem (List (Str×Value)) // bindArgs fd ⟨us,[]⟩=seqItems? fd.defaults >>= kk}:=⟨_,rfl⟩
theorem FunV.bindsK{K:PySem.W.Frag}{x qual:Str}{st:Stmt}{f T:Addr}{fd:FuncData}{ps:List Str}{o:Obj}{items:Array Value}{n:Nat}{ds:List Value}(F:FunV K x qual st f fd (.ref T))(ho:K.lookup T=some o)(hs:o.data=.seq items n)(nu:Nat)(hn:nu+ds.length=ps.length)
  (h:∀(kV doc pm:Value) (an:Option Addr) (cdv ct:Value) (us:List Value),us.length=nu->(Ex (PySem.W.fnOf x qual (cq st) (bD st) (af st) (.ref T) kV doc pm an cdv ct) us).1 (some items)=pure (ps.zip (us++ds))):Binds K fd ps ds:=
 F.bindsD ho hs nu hn fun kV doc pm an cdv ct us hl=>⟨_,(Ex (PySem.W.fnOf x qual (cq st) (bD st) (af st) (.ref T) kV doc pm an cdv ct) us).2,h kV doc pm an cdv ct us hl⟩
section
variable{P:Program}{w:World}{K:PySem.W.Frag}{mg:Str->Option Value}{base:Heap}
theorem oW{x:Str}{f c t:Addr}{fd:FuncData}{oc:Value}{od:Option Addr}{osl:Array (Option Value)}(hns:PySem.W.nsIn K mainGlobals x=some (some (.ref f)))(lk:K.lookup f=some ⟨oc,od,.func fd,osl⟩)(ht:PySem.W.tabIn K x=some (c,t)):fd.code=.ref c:=by
 unfold PySem.W.tabIn at ht;rw[hns]at ht;dsimp only at ht;rw[lk]at ht;dsimp only at ht;split at ht
 ·rename_i c' hc
  split at ht
  ·split at ht
   ·cases ht;exact hc
   ·cases ht
  ·cases ht
 ·cases ht
end
section
variable{P:Program}{w:World}{K:PySem.W.Frag}{mg:Str->Option Value}{base h:Heap}{x y:Str}{st:Stmt}{k:Nat}{ps:List Str}
theorem DefIn.calL(D:DefIn K x y st)(X:K.In h)(G:h.Ns mainGlobals mg)(b:aD y st ps){g:List VL.D->Option VL.D}(ok:∀f fd,PySem.W.nsIn K mainGlobals x=some (some (.ref f))->FunV K y y st f fd .none->FnOk P w K mg base cJ k f fd ps (dG K g)):Cal P w K mg base x k g []:=by
 obtain⟨f,fd,a,F,hk⟩:=D;exact Cal.mk0 (ok f fd a F) (PySem.W.mg_of X G a) hk (F.binds b)
end
theorem yh{k:Nat}{l:PySem.W.OpenLaw}{q:Program}{loose:List Str}{XP:(Str->Option Value)->Heap->Prop}{YP:World->Heap->Prop}{d:DefRec}{K:Params->PySem.W.Frag}(hn:l.most=some 63)(hr:Room k callerA)(hdf:d.params.defaults=[])
  (hY:∀(w:World) (h:Heap),YP w h->(K w.params).In h)
  (F:∀(w:World) (mg:Str->Option Value) (fa:Addr) (h:Heap),(K w.params).In h->h.Ns mainGlobals mg->mg d.name=some (.ref fa) ->
   ∃fd:FuncData,(∀(s:Shared) (u:Value),BindsTo s fd ⟨[u],[]⟩ [("script",u)])/\∀base:Heap,(K w.params).In base->base.Ns mainGlobals mg->FnOk l.prog w (K w.params) mg base cJ k fa fd ["script"] (nM (K w.params)))
  (hTd:∀(w:World),(lamDefs.all fun x=>(PySem.W.tabIn (K w.params) x).isNone||((recsOf q).find? (fun e=>e.name==x)).isSome)=true) (hTn:∀(w:World),((cB (K w.params)).all fun P=>((K w.params).lookup P).isNone)=true) :
  PySem.W.WalkO q loose XP YP l.row.toRowW d [] (fun f vs=>PySem.call f vs):=
 AC hn hr hdf hY F (fun w x hx=>by
  have:=List.all_eq_true.mp (hTd w) x hx;rcases Bool.or_eq_true_iff.mp this with z|z
  ·exact .inl (Option.isNone_iff_eq_none.mp z)
  ·exact .inr (Option.isSome_iff_exists.mp z)) fun w P hP=>Option.isNone_iff_eq_none.mp (List.all_eq_true.mp (hTn w) P hP)
noncomputable def u7(n:Str)(w:Int):D:=.dict [(.str "cap",.str n),(.str "wires",.int w)]
noncomputable def DJ(n:Str):D->Option D
 |.int w=>some (u7 n w)
 |_=>none
noncomputable def wz(n:Str)(i:Nat):Dv->Option D:=fun δ=>(oV i δ).bind (DJ n)
noncomputable def o7(n:Str):D->Option Int
 |.dict [(.str k,.str m),(.str j,.int w)]=>if k = "cap" /\ m=n/\j = "wires" then some w else none
 |_=>none
theorem sH(n:Str)(w:Int):o7 n (u7 n w)=some w:=by simp[o7,u7]
noncomputable def cw(i:Nat)(fs:Dv->Option (List D))(n:Str)(g:Int->List D->Option D):Dv->Option D:=fun δ=>(oV i δ).bind fun c=>(o7 n c).bind fun w=>(fs δ).bind fun as=>g w as
noncomputable def gJ(w:Int):List D->Option D
 |[d]=>((aF d (.int 0)).bind fun a=>gI a (.int w)).bind fun b=>(aF d (.int 1)).bind fun c=>y0 b c
 |_=>none
theorem u6{n:Str}{c:D}{w:Int}(h:o7 n c=some w):c=u7 n w:=by
 unfold o7 at h;split at h
 ·split at h
  ·rename_i q
   obtain⟨rfl,rfl,rfl⟩:=q;cases h;rfl
  ·cases h
 ·cases h
abbrev _root_.L2.Cx.sw(X:Cx):Cx:={ X with fn:=fun _=>false,cz:=X.fn }
section
variable{X:Cx}{pins:List (Addr×Obj)}{σ:St}{H:Hp}{s:Shared}
theorem Inv.sw(I:Inv X pins σ H s):Inv X.sw pins σ H s:=
 ⟨⟨I.ok.mod,I.ok.kind,I.ok.glob,I.ok.blt,I.ok.above,I.ok.inj,I.ok.has,fun x c h e=>I.ok.cab x c (h.elim nofun .inl) e,I.ok.hd,I.ok.frames,I.ok.stk,I.ok.exf,I.ok.bs,I.ok.bsz,I.ok.noex,I.ok.exfs,I.ok.funs,I.ok.frf,I.ok.tb⟩,
  I.os,I.bare,I.base,I.loc,I.cell,I.free,fun x c e=>(I.freeC x c e).imp id fun z=>⟨rfl,z.2⟩,I.pin,I.hok,I.len⟩
theorem Inv.frzC{x:Str}{c:Addr}{oc:Obj}{v:Option Value}(I:Inv X pins σ H s)(hcz:X.cz x=true)(hfn:X.fn x=false)(hc:X.env.cells.lookup x=some c)(hn:H c=none)(ho:s.heap.get? c=some oc)(hd:oc.data=.cell v):Inv X pins σ (upd H c (.frz oc (.own 0))) s:=by
 have new:∀b o,X.s₀.heap.get? b=some o->b≠c:=fun b o e z=>absurd (Nat.lt_of_lt_of_le (Heap.lt_size e) (I.ok.cab x c (.inr hcz) hc)) (by rw[z];exact Nat.lt_irrefl _)
 have up:∀b o,H b=some o->upd H c (.frz oc (.own 0)) b=some o:=fun b o e=>by rw[az (aR e hn)];exact e
 refine⟨I.ok,I.os,I.bare,⟨I.base.keep,I.base.slot,fun b o e n hb=>by rw[az (new b o e)];exact I.base.free b o e n hb,I.base.there,fun b xs e=>up _ _ (I.base.tups b xs e),fun b o u e=>up _ _ (I.base.frzs b o u e),fun b ps e=>let ⟨m,q⟩:=I.base.tbls b ps e; ⟨m,up _ _ q⟩⟩,
  I.loc,I.cell,by rw[az (fun z=>I.cne x c hc z.symm)];exact I.free,fun y b e=>?_,fun p hp=>?_,fun b o e=>?_,I.len⟩
 ·by_cases hb:b=c
  ·have:=I.ok.inj _ _ _ (hb ▸ e) hc
   subst this;exact .inr ⟨hfn,oc,by rw[hb,aG]⟩
  ·rw[az hb]
   exact I.freeC y b e
 ·obtain⟨e,n,ne,nf,d⟩:=I.pin p hp
  have:p.1≠c:=fun z=>by
   rw[z,ho]at e;cases e;exact d v hd
  exact⟨e,by rw[az this];exact n,ne,nf,d⟩
 ·by_cases hb:b=c
  ·subst hb
   rw[aG]at e;cases e;exact⟨ho,⟨_,ho⟩⟩
  ·rw[az hb]at e
   exact(I.hok b o e).stay (fun _ _ _ q=>q) (fun _ q=>up _ _ q) (fun _ _ q=>up _ _ q) fun _ _ _ q=>up _ _ q
end
section
variable{X:Cx}{params:Arguments}{body:Expr}{scope:Scope}{pos:Pos}
theorem xa{n x:Str}{c P:Addr}(i:Nat)(hL:LamIsC n params body scope)(hns:PySem.W.nsIn X.K mainGlobals n=some none)(hx:x∈lamDefs)(ht:PySem.W.tabIn X.K x=some (c,P))(hcode:X.env.code=.ref c)(hN:X.N[i]? = some ("wires":Str))(hk:X.env.kindOf "wires" = some .cell)(hcz:X.cz "wires" = true)(hfn:X.fn "wires" = false):
  EV X (.Lambda params body scope pos) (wz n i):=by
 intro pins s σ H Q I h;obtain⟨H₀,Z₀,Z,δ,d,hh,e,k⟩:=h;obtain⟨dw,e1,e⟩:=bind_some e;cases dw with
 |int w=>
  cases e;obtain⟨v,hσ,rv⟩:=hh.read e1;cases rv;obtain⟨m,hn,hl⟩:=I.loc;obtain⟨u,ru,lk⟩:=hl i "wires" _ hN hσ (.inr (.inl hk));rcases lk with⟨z,_⟩|⟨_,cc,hcc,oc,hoc,hod⟩
  ·rw[hk]at z;cases z
  obtain⟨t,rfl⟩:=ru;have hcl:closureFor scope X.env=pure [(("wires":Str),cc)]:=by
   cases hL;unfold closureFor cellOf;simp[hcc]
  have hdef:defaultsOf params X.env=([],[]):=by cases hL;rfl
  rcases I.freeC "wires" cc hcc with hnone|⟨_,o1,hfr⟩
  ·have I1:=Inv.frzC I hcz hfn hcc hnone hoc hod
   have nw1:New Z H Z (upd H cc (.frz oc (.own 0))):=⟨Same.refl _,cM hnone,hh.zh.trans (cM hnone),fun _ _=>rfl,NoF.refl _⟩
   refine oE I1 nw1.zh hx ht hcode hcl hdef (fun c'=>.cdc c' cc oc) (fun _ _=>rfl) (fun H' h' a c' up x=>⟨x.1,x.2,up _ _ aG⟩) fun f c' ctv Z' H' nw hf=>?_
   exact k _ _ _ (hh.new (nw1.trans nw)) nw.z (.opq (.cap hns ⟨_,params,body,scope,_,_,rfl,hL⟩ hf hod))
  ·have e1:=(I.hok cc _ hfr).1
   rw[hoc]at e1;cases e1;refine oE I hh.zh hx ht hcode hcl hdef (fun c'=>.cdc c' cc oc) (fun _ _=>rfl) (fun H' h' a c' up x=>⟨x.1,x.2,up _ _ hfr⟩) fun f c' ctv Z' H' nw hf=>?_
   exact k _ _ _ (hh.new nw) nw.z (.opq (.cap hns ⟨_,params,body,scope,_,_,rfl,hL⟩ hf hod))
 |_=>cases e
end
noncomputable def DG(P:Program)(w:World)(K:PySem.W.Frag)(mg:Str->Option Value)(base:Heap)(N:List Str)(env:Env)(A:Around)(outer:List Env)(s:Shared)(H:Hp):Cx where
 prog:=P
 w:=w
 K:=K
 mg:=mg
 base:=base
 A:=A.deeper env
 N:=N
 s₀:=s
 H₀:=H
 env:=env
 outer:=outer
 stack:=env::outer
 ex:=[]
 fn:=fun _=>false
 cz:=fun _=>false
 calm:=true
 pn:=[]
 xe:=fun _ _=>False
abbrev AY(m:List (Str×Const)):Scope:={ kind:=.function,names:=[("word",.local),("wires",.free)],isGenerator:=false,isCoroutine:=false,more:=m }
abbrev tN(m:List (Str×Const))(L cl f c:Addr)(q:Str):Env:=newEnv (AY m) L mainGlobals [("wires",cl)] q (some f) (.ref c) none builtinsNs
theorem il{cl c:Addr}{y:Str}(h:([("wires",cl)]:List (Str×Addr)).lookup y=some c):y = "wires" /\ c=cl:=by
 rw[List.lookup_cons]at h;split at h
 ·rename_i q
  cases h;exact⟨by simpa using q,rfl⟩
 ·cases h
section
variable{P:Program}{w:World}{K:PySem.W.Frag}{mg:Str->Option Value}{base:Heap}
theorem wW{m:List (Str×Const)}{A:Around}{outer:List Env}{s:Shared}{H:Hp}{f c cl:Addr}{oc:Obj}{q:Str}{u0:Value}{v0:V}{wi:Int}{t:Tok}{h':Heap}{tk:Nat}(hd:A.handled=none)(e0:Env0 P w K mg base A outer s H)(hkp:∀b o,s.heap.get? b=some o->h'.get? b=some o)
  (hns:h'.Ns s.heap.objs.size (fun x=>([("word",u0)]:List (Str×Value)).reverse.lookup x)) (r0:RelV v0 u0) (hcl:H cl=some (.frz oc (.own 0))) (hcell:s.heap.get? cl=some oc) (hod:oc.data=.cell (some (.int wi t))) :
  Inv (DG P w K mg base ["word","wires"] (tN m s.heap.objs.size cl f c q) A outer s H) [] [some v0,some (.int wi)] H { s with heap:=h',toks:=tk }:=by
 have noA:∀b:Addr,b ∉ ([]:List Addr):=fun b z=>nomatch z
 refine⟨⟨e0.mod,rfl,rfl,rfl,Nat.le_refl _,fun y z c h1 h2=>?_,fun y hy=>?_,fun y c h=>h.elim nofun nofun,fun _=>hd,Around.frames_deeper e0.frames,.inr ⟨rfl,rfl⟩,fun b z=>absurd z (noA b),e0.bs,e0.bsz,fun b _ _=>noA b,fun b z=>absurd z (noA b),e0.funs,e0.frf,e0.tb⟩,
  rfl,e0.bare,Un.kept hkp,⟨_,hns,fun i y v h1 h2 h3=>?_⟩,fun y c h=>?_,e0.hok.fresh (Nat.le_refl _),fun y c h=>?_,fun p hp=>absurd (show p∈([]:List (Addr×Obj))from hp) (by simp),e0.hok.kept hkp,rfl⟩
 ·exact(il h1).1.trans (il h2).1.symm
 ·have hy:([("word",NameKind.local),("wires",NameKind.free)]:List (Str×NameKind)).lookup y=some .cell\/([("word",NameKind.local),("wires",NameKind.free)]:List (Str×NameKind)).lookup y=some .free:=hy
  refine⟨cl,?_⟩;show([("wires",cl)]:List (Str×Addr)).lookup y=some cl;rw[List.lookup_cons]at hy ⊢;rw[List.lookup_cons]at hy;cases e1:(y==("word":Str))<;>cases e2:(y==("wires":Str))<;>simp[e1,e2]at hy ⊢
 ·match i,h1,h2 with
  | 0,h1,h2=>
   cases h1;cases h2;exact⟨u0,r0,.inl ⟨rfl,rfl⟩⟩
  | 1,h1,h2=>
   cases h1;cases h2;exact⟨.int wi t,⟨t,rfl⟩,.inr ⟨.inr rfl,cl,rfl,oc,hkp _ _ hcell,hod⟩⟩
  |i+2,h1,_=>simp[DG]at h1
 ·obtain⟨rfl,rfl⟩:=il h
  exact⟨_,oc,hkp _ _ hcell,hod⟩
 ·obtain⟨rfl,rfl⟩:=il h
  exact .inr ⟨rfl,oc,hcl⟩
theorem v6{k:Nat}{A:Around}{outer:List Env}{s:Shared}{H Z:Hp}{f c cl:Addr}{ob oc:Obj}{us:List Value}{vs:List V}{as:List D}{d:D}{Q:VK}{E:XK}{wi:Int}{t:Tok}
  (hr:Room (k+1) A) (e0:Env0 P w K mg base A outer s H) (zh:Same Z H) (hL:qh "<lambda> shl" ob c cl) (hf:Z f=some (.frz ob (.cdc c cl oc))) (hod:oc.data=.cell (some (.int wi t))) (r:Vals vs us) (rr:Reps K Z vs as) (e:gJ wi as=some d)
  (kk:∀v Z' H',New Z H Z' H'->Rep K Z' v d->Q v H'):codeAny (model P w) A (.call (.ref f) ⟨us,[]⟩) (CR cJ outer P w H s Q E) s:=by
 obtain⟨qual,params,body,scope,pm,ctv,rfl,hl⟩:=hL;obtain⟨ho,_,⟨oc',u,vs',q,tq,hc,hd,hv⟩,hcl⟩:=e0.hok f _ (zh _ _ hf);obtain⟨hoc,_⟩:=e0.hok c _ hc;obtain⟨hcell,_⟩:=e0.hok cl _ hcl;obtain⟨d0,rfl⟩:∃d0,as=[d0]:=by
  match as,e with
  |[d0],_=>exact⟨d0,rfl⟩
 obtain⟨v0,rfl,r0⟩:∃v0,vs=[v0]/\Rep K Z v0 d0:=by
  cases rr with
  |cons a b=>cases b;exact⟨_,rfl,a⟩
 obtain⟨u0,rfl,ru0⟩:=nD r;have lim:s.heap.NoLimit:=e0.mod.nolimit.keeps fun b o e=>(e0.bs b o e).1
 generalize hn:("<lambda> shl":Str)=n at hl;cases hl with
 |shl=>
  refine BW hr.depth ho rfl rfl rfl rfl rfl hoc hd hv ?_;refine wpAny_of_eq (a:=[(("word":Str),u0)]) rfl ?_;refine wpAny_newFunctionEnv (by intro y hy;simp at hy;rcases hy with rfl|rfl<;>(intro z;cases z)) (by intro y hy;simp at hy;subst hy;rfl) (fun h' hns hsb=>?_) rfl;have hkp:∀b o,s.heap.get? b=some o->h'.get? b=some o:=fun b o e=>(hsb.2 b (Nat.ne_of_lt (Heap.lt_size e))).trans (Heap.get?_push_of_some _ e)
  refine⟨lim.keeps hkp,PySem.W.kla_codeExpr ?_⟩;have rr2:Reps K Z [v0,.int wi] [d0,.int wi]:=.cons r0 (.cons (.int wi) .nil);refine wpAny_mono ((show EV (DG P w K mg base ["word","wires"] (tN _ s.heap.objs.size cl f c _) A outer s H) _ (o2 (o2 (o2 (oV 0) (oC (.int 0)) aF) (oV 1) gI) (o2 (oV 0) (oC (.int 1)) aF) y0)from
   ai xi (ai lU (aq aA (aa 0) ad (fun _ _=>rfl)) (aa 1)) (aq aA (aa 0) ad (fun _ _=>rfl))) [] _ _ H Q (wW hr.hd e0 hkp hns ru0 hcl hcell hod) ⟨H,Z,Z,_,d,g6 (N:=["word","wires"]) zh rr2,e,fun v Z' H' h' z' rv=>kk v Z' H' ⟨z',h'.h0,h'.zh,h'.zb,h'.nf⟩ rv⟩) (fun u s' hs=>?_) fun e s' hs=>hs.elim
  obtain⟨v,H',J,rv,q⟩:=hs;exact⟨v,H',J.os,J.bare,J.base,J.hok,rv,q⟩
end
section
variable{X:Cx}{e:Expr}{es:List Expr}{p pos:Pos}{fs:Dv->Option (List D)}
theorem gm(i:Nat){x:Str}{k:Nat}(hns:PySem.W.nsIn X.K mainGlobals "<lambda> shl" = some none)(hr:Room (k+1) X.A)(ha:AV X (e::es) fs)(hN:X.N[i]? = some x:=by rfl)(hv:Ak X.env.scope x:=by first|exact Or.inl rfl|exact Or.inr (Or.inl rfl)|exact Or.inr (Or.inr rfl))(hdb:(x==("__debug__":Str))=false:=by decide)(hcd:(x==("__classdict__":Str))=false:=by decide)
  (he:starEach (e::es) X.env=(false,eval e X.env)::starEach es X.env:=by rfl) (hpl:(backTo pos (starEach es X.env)).any (·.1)=false:=by rfl):EV X (.Call (.Name x p) (e::es) [] pos) (cw i fs "<lambda> shl" gJ):=by
 intro pins s σ H Q I h;obtain⟨H₀,Z₀,Z,δ,d,hh,e0,kk⟩:=h;obtain⟨c,e1,e0⟩:=bind_some e0;obtain⟨wi,e2,e5⟩:=bind_some e0;obtain⟨xs,ea,eg⟩:=bind_some e5;have:=u6 e2;subst this;obtain⟨v,hσ,rv⟩:=hh.read e1;have hva:∃(a:Addr) (ob oc:Obj) (c cl:Addr) (t:Tok),v=.ref a/\qh "<lambda> shl" ob c cl/\Z a=some (.frz ob (.cdc c cl oc))/\oc.data=.cell (some (.int wi t)):=by
  cases rv with
  |opq o=>
   generalize hk:[((PyData.str "cap":D),(PyData.str "<lambda> shl":D)),(PyData.str "wires",PyData.int wi)]=kvs at o;cases o with
   |cap h1 h2 h3 h4=>
    injection hk with k1 k2
    injection k1 with _ k3
    injection k3 with k4
    subst k4;injection k2 with k5 _
    injection k5 with _ k6
    injection k6 with k7
    subst k7;exact⟨_,_,_,_,_,_,rfl,h2,h3,h4⟩
   |lam=>simp at hk
   |exc=>simp at hk
   |fn=>simp at hk
   |ins=>unfold BF at hk;injection hk with k1 _;injection k1 with k3 _;injection k3 with k4;exact absurd k4 (by decide)
   |dct h1 _=>exact absurd (hk.trans h1) fun z=>qS z
 obtain⟨fa,ob,oc,c,cl,t,rfl,hL,hZ,hod⟩:=hva;refine wpAny_Call_Name_kw (bT (j3 hN hv hdb hcd pins s σ H (fun v' H'=>v'=.ref fa/\H'=H) I ⟨_,hσ,rfl,rfl⟩) fun u s1 hq=>?_)
 obtain⟨v',H',I1,r1,hv',hH'⟩:=hq;subst hv';subst hH';cases(show u=Value.ref fa from r1);have fnAt:∀{s2:Shared} {H2:Hp},HOk X.prog X.w H2 s2.heap->H2 fa=some (.frz ob (.cdc c cl oc))->PySem.W.FnAt fa s2.heap:=fun{s2 H2} hk hf=>by
  obtain⟨qual,params,body,scope,pm,ctv,rfl,_⟩:=hL;exact⟨_,_,_,_,(hk fa _ hf).1⟩
 refine PySem.W.callWith_F (first:=[]) (fnAt I1.hok (hh.zh _ _ hZ)) (bT (ha pos pins s1 σ H' (fun vs H1=>∃Z1,Same Z1 H1/\Z1 fa=some (.frz ob (.cdc c cl oc))/\Reps X.K Z1 vs xs/\∀v Z' H'',New Z1 H1 Z' H''->Rep X.K Z' v d->Q v H'') I1
  ⟨H₀,Z₀,Z,δ,xs,hh,ea,fun vs Z1 H1 hh1 t1 r1=>⟨Z1,hh1.zh,t1 _ _ hZ,r1,fun v Z' H'' nw rv=>kk v Z' H'' (hh1.new nw) (t1.trans nw.z) rv⟩⟩) fun us s2 ⟨vs,H1,I2,r,Z1,z1,z2,z3,z4⟩=>⟨fnAt I2.hok (z1 _ _ z2),?_⟩) he hpl
 rw[List.nil_append];refine wpAny_call (codeAny_mono (v6 (E:=E0) hr I2.env0 z1 hL z2 hod r z3 eg z4) fun r s' hq=>?_)
 cases r with
 |error e=>exact(uc (X:=X) pins σ H1 s2 e s' I2 hq)
 |ok fl=>
  cases fl with
  |ret u=>exact I2.after hq
  |next=>exact False.elim hq
  |brk=>exact False.elim hq
  |cont=>exact False.elim hq
end
section
variable{P:Program}{w:World}{K:PySem.W.Frag}{mg:Str->Option Value}{base:Heap}
theorem BM{x qual:Str}{st st1:Stmt}{rest:List Stmt}{f c t:Addr}{fd:FuncData}{dV:Value}{N ps:List Str}{k:Nat}{b1 b2:Sf}(hns:PySem.W.nsIn K mainGlobals x=some (some (.ref f)))(ht:PySem.W.tabIn K x=some (c,t))(F:FunV K x qual st f fd dV)(S:FnScope N ps (af st))(hst:bD st=st1::rest)
  (h1:∀(A:Around) (outer:List Env) (s:Shared) (H:Hp) (E:XK),Room k (A.deeper (envOfC qual (af st) s.heap.objs.size f (.ref c)))->SV (lq cJ P w K mg base N qual (af st) f (.ref c) A outer s H E).nox st1 b1)
  (h2:∀(A:Around) (outer:List Env) (s:Shared) (H:Hp) (E:XK),Room k (A.deeper (envOfC qual (af st) s.heap.objs.size f (.ref c)))->BV (lq cJ P w K mg base N qual (af st) f (.ref c) A outer s H E).nox.sw rest b2) :
  FnOk P w K mg base cJ (k+1) f fd ps (dG K (runB N ps.length (sSeq b1 b2))):=by
 obtain⟨oc,od,kV,doc,pm,an,cdv,ct,osl,rfl,lk,hcd⟩:=F.ex;have hc:cdv=.ref c:=oW hns lk ht;subst hc;have len:∀vs H Q E,dG K (runB N ps.length (sSeq b1 b2)) vs H Q E->vs.length=ps.length:=fun vs H Q E h=>by
  obtain⟨Z,as,d,zh,r,e,_⟩:=h;rw[r.length];unfold runB at e;split at e
  ·assumption
  ·cases e
 refine⟨len,fun A outer s H args us vs Q E hr e0 hb r hsp=>?_⟩
 have hl:=len _ _ _ _ hsp;have KX:K.In s.heap:=e0.mod.kin.keeps fun b o e=>(e0.bs b o e).1
 have lim:s.heap.NoLimit:=e0.mod.nolimit.keeps fun b o e=>(e0.bs b o e).1
 have hkind:∀y∈ps.zip us,(af st).names.lookup y.1=some .local\/((af st).names.lookup y.1=some .cell/\((cellsFrom (s.heap.objs.size+1) (af st).names []).lookup y.1).isSome=true):=fun⟨n,v⟩ hy=>by
  rcases S.par n (List.of_mem_zip hy).1 with q|q
  ·exact .inl q
  ·exact .inr ⟨q,PySem.W.cellsFrom_some _ _ _ (.inl q)⟩
 refine codeAny_call_function hr.depth (KX _ _ lk) rfl S.co S.gen rfl (PySem.W.codeRec_of KX hcd) (hb _ _ _ _ ?_);refine wpAny_newFunctionEnv_cells S.kind hkind fun env he s1 x=>?_
 subst he;refine⟨lim.keeps x.toInCall.keep,codeAny_func ?_⟩;have I:Inv (lq cJ P w K mg base N qual (af st) f (.ref c) A outer s H E).nox [] (L2.fQ N vs) H s1:=(lR (CX:=cJ) (qual:=qual) (f:=f) (cd:=.ref c) (E:=E) S hr.hd e0 hl r x).wish _;obtain⟨Z,as,d,zh,rr,e,kk⟩:=hsp;have hh:=g6 (N:=N) zh rr;have fin:∀{σ':St} {H' Z':Hp} {δ':Dv},Hold K H Z Z' δ' σ' H'->Same Z Z'->New Z H Z' H':=fun h' z'=>⟨z',h'.h0,h'.zh,h'.zb,h'.nf⟩
 unfold runB at e;split at e
 ·obtain⟨⟨fl,δ'⟩,e2,h⟩:=bind_some e
  obtain⟨⟨fl1,δ1⟩,e3,e4⟩:=bind_some e2;have endE:∀{σ':St} {H' Z':Hp},Hold K H Z Z' δ' σ' H'->Same Z Z'->fl.to K Z' { nx:=fun _ H'=>Q .non H',rt:=Q } σ' H':=fun{σ' H' Z'} h' z'=>by
   cases fl with
   |nx=>cases h;exact kk _ Z' H' (fin h' z') .non
   |rt d=>cases h;exact fun v rv=>kk v Z' H' (fin h' z') rv
   |bk=>cases h
   |ct=>cases h
  show wpAny _ _ (execs (bD st) _) _ _ s1;rw[hst];refine wpAny_execs_cons (wpAny_mono (h1 A outer s H E (hr.deeper _) [] s1 _ H { nx:=fun σ' H'=>yn K b2 { nx:=fun _ H'=>Q .non H',rt:=Q } σ' H',rt:=Q } I ⟨H,Z,Z,_,(fl1,δ1),hh,e3,fun σ' H' Z' h' z'=>?_⟩) (fun fl2 s2 q=>?_) fun e s' hs=>hs.elim)
  ·cases fl1 with
   |nx=>exact⟨H,Z,Z',δ1,(fl,δ'),h',e4,fun σ2 H2 Z2 hh2 s2=>endE hh2 (z'.trans s2)⟩
   |bk=>cases e4;cases h
   |ct=>cases e4;cases h
   |rt d=>cases e4;exact endE h' z'
  ·cases fl2 with
   |ret u=>
    obtain⟨v,σ',H',J,rv,q⟩:=q;exact⟨v,H',J.os,J.bare,J.base,J.hok,rv,q⟩
   |next=>
    obtain⟨σ',H',I',q⟩:=q;refine wpAny_mono (h2 A outer s H E (hr.deeper _) [] s2 σ' H' { nx:=fun _ H'=>Q .non H',rt:=Q } (Inv.sw I') q) (fun fl3 s3 q=>?_) fun e s' hs=>hs.elim
    cases fl3 with
    |ret u=>
     obtain⟨v,σ',H',J,rv,q⟩:=q;exact⟨v,H',J.os,J.bare,J.base,J.hok,rv,q⟩
    |next=>
     obtain⟨σ',H',J,q⟩:=q;exact⟨V.non,H',J.os,J.bare,J.base,J.hok,rfl,q⟩
    |brk=>obtain⟨_,_,_,q⟩:=q;exact q.elim
    |cont=>obtain⟨_,_,_,q⟩:=q;exact q.elim
   |brk=>obtain⟨_,_,_,q⟩:=q;exact q.elim
   |cont=>obtain⟨_,_,_,q⟩:=q;exact q.elim
 ·cases e
end
end VL
namespace VL
open PySem PySem.Spec PyProof.Rows L2
open AutoSeq1 (wpAny_loadPart')
end VL
namespace VL
open PySem PySem.Spec PyProof.Rows L2
noncomputable def EW(z:Bool):D->D->Option D
 |.bool a,.bool b=>some (.bool (z != (a==b)))
 |_,_=>none
@[simp] theorem BC(z a b:Bool):EW z (.bool a) (.bool b)=some (.bool (z != (a==b))):=rfl
end VL
namespace L2
open PySem PySem.Spec PyProof.Rows
section
variable{κ:Type}[DecidableEq κ]
noncomputable def mx(kvs:List (κ × V))(k:κ):Option V:=(kvs.find? fun kv=>decide (kv.1=k)).map (·.2)
theorem nE{p:κ × V}{r:List (κ × V)}{k:κ}(e:p.1=k):mx (p::r) k=some p.2:=by simp[mx,List.find?_cons,e]
theorem nG{p:κ × V}{r:List (κ × V)}{k:κ}(e:¬p.1=k):mx (p::r) k=mx r k:=by simp[mx,List.find?_cons,e]
theorem RelO.isSome_eq{o:Option V}{u:Option Value}(r:RelO o u):o.isSome=u.isSome:=by
 cases o with
 |none=>cases u with
  |none=>rfl
  |some _=>exact(show False from r).elim
 |some _=>cases u with
  |none=>exact(show False from r).elim
  |some _=>rfl
theorem KV.val{kvs:List (κ × V)}{vs:List (κ × Value)}(r:KV kvs vs)(k:κ):RelO (mx kvs k) (valueAt vs k):=by
 unfold KV at r
 induction r with
 |nil=>exact True.intro
 | @cons p q ps qs h t ih=>
  obtain⟨h1,h2⟩:=h;by_cases e:p.1=k
  ·have e':q.1=k:=h1.symm.trans e
   have b:valueAt (q::qs) k=some q.2:=by simp[valueAt,List.find?_cons,e']
   rw[nE e,b];exact h2
  ·have e':¬q.1=k:=fun z=>e (h1.trans z)
   have b:valueAt (q::qs) k=valueAt qs k:=by simp[valueAt,List.find?_cons,e']
   rw[nG e,b];exact ih
end
theorem x0{P:Program}{w:World}{k:bb}{u:Value}(r:RelV (kV k) u):(du P w).is k u=true:=by
 cases k with
 |inl i=>obtain⟨t,e⟩:=(show ∃t,u=Value.int i t from r);subst e;exact ot P w i t
 |inr x=>obtain⟨t,e⟩:=(show ∃t,u=Value.str x t from r);subst e;exact om P w x t
theorem lQ{P:Program}{w:World}:∀{ks:List bb} {us:List Value},Vals (ks.map kV) us->ItemsAre (du P w) ks us
 |[],_,r=>by rw[List.map_nil]at r;cases r;exact .nil
 |k::ks,_,r=>by
  rw[List.map_cons]at r;cases r with
  |cons h t=>exact .cons (x0 h) (lQ t)
abbrev KT(H:Hp):List (List bb×V)->List (List bb×Addr×Value)->Prop:=Paired fun p q=>p.1=q.1/\H q.2.1=some (.tup (p.1.map kV))/\RelV p.2 q.2.2
theorem KT.val{H:Hp}{kvs:List (List bb×V)}{xs:List (List bb×Addr×Value)}(r:KT H kvs xs)(k:List bb):RelO (mx kvs k) ((atKey xs k).map (·.2)):=by
 induction r with
 |nil=>exact True.intro
 | @cons p q ps qs h t ih=>
  obtain⟨h1,_,h2⟩:=h;by_cases e:p.1=k
  ·have e':q.1=k:=h1.symm.trans e
   have b:atKey (q::qs) k=some q.2:=by simp[atKey,List.find?_cons,e']
   rw[nE e,b];exact h2
  ·have e':¬q.1=k:=fun z=>e (h1.trans z)
   have b:atKey (q::qs) k=atKey qs k:=by simp[atKey,List.find?_cons,e']
   rw[nG e,b];exact ih
section
variable{P:Program}{w:World}{H:Hp}{h:Heap}{a:Addr}
theorem xO{u:HO}(ok:HOk P w H h)(e:Rd H a u):ObjOk P w H h a u:=e.ok ok
theorem BQ{kvs:List (bb×V)}(ok:HOk P w H h)(e:Rd H a (.dK kvs)):kvs.length<=sizeLine/\(a==sysModules)=false/\∃vs,KV kvs vs/\h.DictOf (du P w) a vs:=
 show ObjOk P w H h a (.dK kvs)from xO ok e
theorem uD{ks:List bb}(ok:HOk P w H h)(e:H a=some (.tup (ks.map kV))):(tupleKind (du P w)).is h ks a:=by
 obtain⟨_,its,r,⟨o,h1,h2,n,h3⟩,_⟩:=(show ObjOk P w H h a (.tup (ks.map kV))from ok a _ e);exact⟨o,its.toArray,n,h1,h2,h3,by simpa using lQ r⟩
theorem BP{kvs:List (List bb×V)}(ok:HOk P w H h)(e:Rd H a (.dT kvs)):kvs.length<=sizeLine/\(a==sysModules)=false /\
  ∃xs,KT H kvs xs/\h.DictOfH (tupleKind (du P w)) a xs:=by
 obtain⟨z,y,xs,r,o,es,ep,h1,h2,h3,h4,h5⟩:=(show ObjOk P w H h a (.dT kvs)from xO ok e);refine⟨z,y,xs,r,o,es,ep,h1,h2,h3,h4,fun x hx=>?_,h5⟩
 have all:∀{l:List (List bb×V)} {m:List (List bb×Addr×Value)},KT H l m->∀x∈m,(tupleKind (du P w)).is h x.1 x.2.1:=by
  intro l m q
  induction q with
  |nil=>intro x hx;exact nomatch hx
  | @cons p q ps qs hq t ih=>
   intro x hx;rcases List.mem_cons.mp hx with e|hx
   ·subst e
    exact uD ok (by rw[<-hq.1];exact hq.2.1)
   ·exact ih x hx
 exact all r x hx
end
def Ec(H:Hp)(a:Addr)(y:V)(r:Option V):Prop:=
 (∃kvs k,Rd H a (.dK kvs)/\y=kV k/\r=mx kvs k)\/∃kvs k b,Rd H a (.dT kvs)/\y=.ref b/\H b=some (.tup (k.map kV))/\r=mx kvs k
section
variable{X:Cx}{pins:List (Addr×Obj)}{σ:St}{H:Hp}{s:Shared}{a:Addr}{y v:V}{u r:Value}{o:Option V}{A:Around}{E:Value->Shared->Prop}
theorem BT{Q:Value->Shared->Prop}(hu:A.units+1<cLine)(I:Inv X pins σ H s)(g:Ec H a y o)(ry:RelV y u)(h:∀s',Inv X pins σ H s'->Q (.bool o.isSome) s'):
  wpAny (model X.prog X.w) A (compareOp .In u (.ref a)) Q E s:=by
 rcases g with⟨kvs,k,e,ey,l⟩|⟨kvs,k,b,e,ey,eb,l⟩
 ·subst ey
  obtain⟨z,hd,vs,rel,dd⟩:=BQ I.hok e;refine wpAny_in_of (x0 ry) hd dd.mapOf ?_;rw[<-(rel.val k).isSome_eq,<-l];exact h _ (I.tok _)
 ·subst ey
  cases(show u=Value.ref b from ry);obtain⟨z,hd,xs,rel,dd⟩:=BP I.hok e;refine wpAny_in_heap (tupleKind_room_in1 hu) (uD I.hok eb) hd dd ?_;have q:=(rel.val k).isSome_eq;rw[Option.isSome_map]at q;rw[<-q,<-l];exact h _ (I.tok _)
end
end L2
namespace Att
open PySem PySem.W PySem.Calls PyProof.Rows
end Att
namespace L2
open PySem PySem.Spec PyProof.Rows
end L2
namespace VL
open PySem PySem.Spec PyProof.Rows L2
noncomputable def Bw:D->Option bb
 |.int i=>some (.inl i)
 |.str x=>some (.inr x)
 |_=>none
@[simp] theorem Bv(i:Int):Bw (.int i)=some (.inl i):=rfl
noncomputable def EL:Option Sl->Option (List (bb×D))
 |some (.own (.d es))=>some es
 |_=>none
@[simp] theorem C0(es:List (bb×D)):EL (some (.od es))=some es:=rfl
theorem gC:∀{out:List Value} {l:List Int},IntsAre out l->Vals (l.map V.int) out
 |_,_,.nil=>.nil
 |_,_,.cons n t r=>.cons ⟨t,rfl⟩ (gC r)
theorem gg{h:Heap}{a b:Addr}{f:Obj->Obj}{o:Obj}(hab:b≠a)(e:h.get? b=some o):(h.update a f).get? b=some o:=(Heap.get?_update_other _ _ (Ne.symm hab)).trans e
noncomputable def Az:List D->Option D
 |[.list a,.list b]=>some (.list (List.zipWith (fun x y=>.tuple [x,y]) a b))
 |_=>none
@[simp] noncomputable def Fb(fs:Dv->Option (List D))(g:List D->Option D):Dv->Option D:=fun δ=>(fs δ).bind g
@[simp] theorem B7(a b:List D):Az [.list a,.list b]=some (.list (List.zipWith (fun x y=>.tuple [x,y]) a b)):=rfl
section
variable{cmp:Nat->Nat->(Bool->Shared->Prop)->Shared->Prop}{N:Nat}{key:Nat->Int}
noncomputable def ky(key:Nat->Int)(p:Array Nat)(i:Nat):Int:=key (p.getD i 0)
structure Pm (N:Nat) (p:Array Nat):Prop where
 perm:p.toList.Perm (List.range N)
theorem Pm.size{p:Array Nat}(h:Pm N p):p.size=N:=by
 have:=h.perm.length_eq;simpa using this
theorem Pm.lt{p:Array Nat}(h:Pm N p)(i:Nat)(hN:0<N):p.getD i 0<N:=by
 by_cases hi:i<p.size
 ·have e:p.getD i 0=p[i]:=by simp[Array.getD,hi]
  rw[e];have m:p[i]∈p.toList:=Array.getElem_mem_toList hi;exact List.mem_range.mp (h.perm.mem_iff.mp m)
 ·have e:p.getD i 0=0:=by simp[Array.getD,hi]
  rw[e];exact hN
theorem Pm.ne{p:Array Nat}(h:Pm N p){i j:Nat}(hi:i<N)(hj:j<N)(e:p.getD i 0=p.getD j 0):i=j:=by
 have nd:p.toList.Nodup:=h.perm.nodup_iff.mpr List.nodup_range;have hz:=h.size;have e1:p.getD i 0=p.toList[i]'(by simpa[hz]using hi):=by simp[Array.getD,hz,hi]
 have e2:p.getD j 0=p.toList[j]'(by simpa[hz]using hj):=by simp[Array.getD,hz,hj]
 rw[e1,e2]at e;have pw:=List.pairwise_iff_getElem.mp nd;rcases Nat.lt_trichotomy i j with q|q|q
 ·exact absurd e (pw i j (by simpa[hz]using hi) (by simpa[hz]using hj) q)
 ·exact q
 ·exact absurd e.symm (pw j i (by simpa[hz]using hj) (by simpa[hz]using hi) q)
theorem Pm.of{p q:Array Nat}(h:Pm N p)(e:q.Perm p):Pm N q:=⟨(Array.perm_iff_toList_perm.mp e).trans h.perm⟩
variable{s:Shared}(hinj:∀i j,i<N->j<N->key i=key j->i=j)(hc:∀i j,i<N->j<N->i≠j->∀C:Bool->Shared->Prop,C (decide (key i<key j)) s->cmp i j C s)
def Up(key:Nat->Int)(p:Array Nat)(m:Nat):Prop:=∀i j,i<j->j<m->ky key p i<ky key p j
def Dn(key:Nat->Int)(p:Array Nat)(m:Nat):Prop:=∀i j,i<j->j<m->ky key p j<ky key p i
include hinj in
theorem uz{p:Array Nat}(h:Pm N p){i j:Nat}(hi:i<N)(hj:j<N)(hij:i≠j):ky key p i≠ky key p j:=fun e=>
 hij (h.ne hi hj (hinj _ _ (h.lt i (by lia)) (h.lt j (by lia)) e))
include hc in
theorem kL{α:Type}{p:Array Nat}(h:Pm N p)(hN:0<N)(i j:Nat)(hi:i<N)(hj:j<N)(hij:i≠j){k:Bool->PySem.W.KasT α}{Q:α -> Shared->Prop}(hk:(k (decide (ky key p i<ky key p j))).kasWp cmp Q s):(PySem.W.KasT.ask (p.getD i 0) (p.getD j 0) k).kasWp cmp Q s:=
 hc _ _ (h.lt i hN) (h.lt j hN) (fun e=>hij (h.ne hi hj e)) _ hk
include hinj hc in
theorem qd{p:Array Nat}(h:Pm N p){Q:Nat->Shared->Prop}{M:Nat}(hM:M<=N):∀(f n:Nat),1<=n->n+f=M->Up key p n->(∀m,n<=m->m<=M->Up key p m->(m=M\/ky key p m<ky key p (m-1))->Q m s)->(PySem.W.kas_asc p f n).kasWp cmp Q s
 | 0,n,h1,hf,up,q=>q n (Nat.le_refl _) (by lia) up (.inl (by lia))
 |f+1,n,h1,hf,up,q=>by
  refine kL hc h (by lia) n (n-1) (by lia) (by lia) (by lia) ?_;by_cases d:ky key p n<ky key p (n-1)
  ·rw[decide_eq_true d,if_pos rfl]
   exact q n (Nat.le_refl _) (by lia) up (.inr d)
  ·rw[decide_eq_false d,if_neg (by decide)]
   have ne:=uz hinj h (i:=n) (j:=n-1) (by lia) (by lia) (by lia);refine qd h hM f (n+1) (by lia) (by lia) (fun i j hij hj=>?_) fun m a1 a2 a3 a4=>q m (by lia) a2 a3 a4
   by_cases hjn:j=n
   ·subst hjn
    by_cases hi:i=j-1
    ·subst hi;lia
    ·have:=up i (j-1) (by lia) (by lia);lia
   ·exact up i j hij (by lia)
include hinj hc in
theorem qR{p:Array Nat}(h:Pm N p){Q:Array Nat×Nat×Nat->Shared->Prop}{M:Nat}(hM:M<=N):∀(f n:Nat),1<=n->n+f=M->Dn key p n->(∀m,n<=m->m<=M->Dn key p m->Q (p,m,0) s)->(PySem.W.kas_desc f p n 0).kasWp cmp Q s
 | 0,n,h1,hf,dn,q=>q n (Nat.le_refl _) (by lia) dn
 |f+1,n,h1,hf,dn,q=>by
  refine kL hc h (by lia) n (n-1) (by lia) (by lia) (by lia) ?_;have ne:=uz hinj h (i:=n) (j:=n-1) (by lia) (by lia) (by lia);by_cases d:ky key p n<ky key p (n-1)
  ·rw[decide_eq_true d,if_pos rfl,if_neg (by decide)]
   refine qR h hM f (n+1) (by lia) (by lia) (fun i j hij hj=>?_) fun m a1 a2 a3=>q m (by lia) a2 a3
   by_cases hjn:j=n
   ·subst hjn
    by_cases hi:i=j-1
    ·subst hi;lia
    ·have:=dn i (j-1) (by lia) (by lia);lia
   ·exact dn i j hij (by lia)
  ·rw[decide_eq_false d,if_neg (by decide)]
   refine kL hc h (by lia) (n-1) n (by lia) (by lia) (by lia) ?_;rw[decide_eq_true (show ky key p (n-1)<ky key p n by lia),if_pos rfl];exact q n (Nat.le_refl _) (by lia) dn
theorem tU{p:Array Nat}(h:Pm N p)(i j:Nat):Pm N (PySem.W.kas_rev p i j):=h.of (mirror_perm _ _ _ _)
theorem ix{p q:Array Nat}{i j:Nat}(e:p[i]? = q[j]?):p.getD i 0=q.getD j 0:=by
 rw[Array.getD_eq_getD_getElem?,Array.getD_eq_getD_getElem?,e]
theorem tW{p:Array Nat}(h:Pm N p){n:Nat}(hn:n<=N)(k:Nat):ky key (PySem.W.kas_rev p 0 n) k=if k<n then ky key p (n-1-k)else ky key p k:=by
 have e:=getElem?_mirror_all (xs:=p) (i:=0) (j:=n) (by rw[h.size];exact hn) k;unfold ky PySem.W.kas_rev;by_cases hk:k<n
 ·rw[if_pos ⟨Nat.zero_le _,hk⟩]at e
  rw[if_pos hk,ix e,Nat.zero_add]
 ·rw[if_neg (by lia)]at e
  rw[if_neg hk,ix e]
theorem yw{p:Array Nat}(h:Pm N p){n:Nat}(hn:n<=N)(dn:Dn key p n):Up key (PySem.W.kas_rev p 0 n) n:=fun i j hij hj=>by
 rw[tW h hn,tW h hn,if_pos (by lia),if_pos hj];exact dn _ _ (by lia) (by lia)
include hinj hc in
theorem vR{p:Array Nat}(h:Pm N p){Q:Nat×Array Nat->Shared->Prop}{n:Nat}(h1:1<=n)(hn:n<=N)(dn:Dn key p n)(q:∀m p',1<=m->m<=N->Pm N p'->Up key p' m->Q (m,p') s):(PySem.W.kas_tail3 n N p).kasWp cmp Q s:=by
 unfold PySem.W.kas_tail3;rw[PySem.W.KasT.kasWp_bind];exact qd hinj hc (tU h 0 n) (Nat.le_refl N) (N-n) n h1 (by lia) (yw h hn dn) fun m a1 a2 a3 _=>q m _ (by lia) a2 (tU h 0 n) a3
include hinj hc in
theorem uV{p:Array Nat}(h:Pm N p)(hN:2<=N){Q:Nat×Array Nat->Shared->Prop}(q:∀m p',1<=m->m<=N->Pm N p'->Up key p' m->Q (m,p') s):(PySem.W.kas_count N p).kasWp cmp Q s:=by
 unfold PySem.W.kas_count;rw[PySem.W.KasT.kasWp_bind];refine qd hinj hc h (Nat.le_refl N) (N-1) 1 (Nat.le_refl _) (by lia) (fun i j a b=>by lia) fun n a1 a2 a3 a4=>?_
 by_cases e:(n==N)=true
 ·rw[if_pos e]
  exact q n p a1 a2 h a3
 ·rw[if_neg e]
  have hne:n≠N:=fun z=>e (by rw[z];exact beq_self_eq_true _)
  by_cases e2:n>1
  ·rw[if_pos e2]
   refine kL hc h (by lia) 0 (n-1) (by lia) (by lia) (by lia) ?_;rw[decide_eq_true (a3 0 (n-1) (by lia) (by lia)),if_pos rfl];exact q n p a1 a2 h a3
  ·rw[if_neg e2]
   have hn1:n=1:=by lia
   subst hn1;have d:ky key p 1<ky key p 0:=by
    rcases a4 with z|z
    ·exact absurd z hne
    ·exact z
   unfold PySem.W.kas_descPart;rw[PySem.W.KasT.kasWp_bind];refine qR hinj hc h (Nat.le_refl N) (N-(1+1)) (1+1) (by lia) (by lia) (fun i j hij hj=>?_) fun m b1 b2 b3=>?_
   ·have:i=0:=by lia
    have:j=1:=by lia
    subst i;subst j;exact d
   ·rw[if_neg (by show ¬(0>0);decide)]
    exact vR hinj hc h (show 1<=m from Nat.le_trans (by decide) b1) b2 b3 q
include hinj hc in
theorem j0{p:Array Nat}(h:Pm N p){Q:Nat->Shared->Prop}{k:Nat}(hk:k<N)(up:Up key p k):∀(f l r:Nat),r-l<=f->l<=r->r<=k->(∀i,i<l->ky key p i<ky key p k)->(∀i,r<=i->i<k->ky key p k<ky key p i) ->
  (∀l',l'<=k->(∀i,i<l'->ky key p i<ky key p k)->(∀i,l'<=i->i<k->ky key p k<ky key p i)->Q l' s)->(PySem.W.kas_place p k f l r).kasWp cmp Q s
 | 0,l,r,hf,hlr,hr,lo,hi,q=>q l (by lia) lo fun i h1 h2=>hi i (by lia) h2
 |f+1,l,r,hf,hlr,hr,lo,hi,q=>by
  unfold PySem.W.kas_place;by_cases e:l>=r
  ·rw[if_pos e]
   exact q l (by lia) lo fun i h1 h2=>hi i (by lia) h2
  ·rw[if_neg e]
   refine kL hc h (by lia) k ((l+r)/2) hk (by lia) (by lia) ?_;have ne:=uz hinj h (i:=k) (j:=(l+r)/2) hk (by lia) (by lia);by_cases d:ky key p k<ky key p ((l+r)/2)
   ·rw[decide_eq_true d,if_pos rfl]
    refine j0 h hk up f l ((l+r)/2) (by lia) (by lia) (by lia) lo (fun i h1 h2=>?_) q;by_cases z:i=(l+r)/2
    ·subst z;exact d
    ·have:=up ((l+r)/2) i (by lia) h2;lia
   ·rw[decide_eq_false d,if_neg (by decide)]
    refine j0 h hk up f ((l+r)/2+1) r (by lia) (by lia) hr (fun i h1=>?_) hi q;by_cases z:i=(l+r)/2
    ·subst z;lia
    ·have:=up i ((l+r)/2) (by lia) (by lia);lia
theorem vc{p:Array Nat}(h:Pm N p){k d:Nat}(hk:k<N)(hd:d<=k)(i:Nat):ky key (bubble p k d) i=if i=k-d then ky key p k else if k-d<i/\i<=k then ky key p (i-1)else ky key p i:=by
 have e:=getElem?_bubble (xs:=p) (src:=k) (by rw[h.size];exact hk) d hd i;unfold ky;by_cases h1:i=k-d
 ·rw[if_pos h1]at e ⊢
  rw[ix e]
 ·rw[if_neg h1]at e ⊢
  by_cases h2:k-d<i/\i<=k
  ·rw[if_pos h2]at e ⊢
   rw[ix e]
  ·rw[if_neg h2]at e ⊢
   rw[ix e]
include hinj hc in
theorem ve{Q:Array Nat->Shared->Prop}(q:∀p',Pm N p'->Up key p' N->Q p' s):∀(f:Nat) (p:Array Nat) (k:Nat),k+f=N->Pm N p->Up key p k->(PySem.W.kas_bin f p k).kasWp cmp Q s
 | 0,p,k,hf,h,up=>q p h (by rw[show N=k by lia];exact up)
 |f+1,p,k,hf,h,up=>by
  unfold PySem.W.kas_bin;rw[PySem.W.KasT.kasWp_bind];refine j0 hinj hc h (by lia) up k 0 k (by lia) (Nat.zero_le _) (Nat.le_refl _) (fun i hi=>by lia) (fun i h1 h2=>by lia) fun l hl lo hi=>?_
  refine ve q f (bubble p k (k-l)) (k+1) (by lia) (h.of (bubble_perm _ _ _)) fun i j hij hj=>?_
  rw[vc h (by lia) (by lia),vc h (by lia) (by lia),show k-(k-l)=l by lia];by_cases i1:i=l
  ·rw[if_pos i1,if_neg (by lia),if_pos (by lia)]
   exact hi (j-1) (by lia) (by lia)
  ·rw[if_neg i1]
   by_cases j1:j=l
   ·rw[if_pos j1,if_neg (by lia)]
    exact lo i (by lia)
   ·rw[if_neg j1]
    by_cases i2:l<i/\i<=k
    ·rw[if_pos i2,if_pos (by lia)]
     exact up (i-1) (j-1) (by lia) (by lia)
    ·rw[if_neg i2]
     by_cases j2:l<j/\j<=k
     ·rw[if_pos j2]
      by_cases z:i=j-1
      ·lia
      ·exact up i (j-1) (by lia) (by lia)
     ·rw[if_neg j2]
      exact up i j hij (by lia)
include hinj hc in
theorem vY(hN:2<=N){Q:Array Nat->Shared->Prop}(q:∀p',Pm N p'->Up key p' N->Q p' s):(PySem.W.kas_sort N).kasWp cmp Q s:=by
 unfold PySem.W.kas_sort;rw[PySem.W.KasT.kasWp_bind];refine uV hinj hc (p:=List.toArray (List.range N)) ⟨List.Perm.refl _⟩ hN fun m p a1 a2 a3 a4=>?_
 dsimp only;by_cases e:m<N
 ·rw[if_pos e]
  rw[show max m 1=m by lia];exact ve hinj hc q (N-m) p m (by lia) a3 a4
 ·rw[if_neg e]
  exact q p a3 (by rw[show N=m by lia];exact a4)
end
noncomputable def EU(a:Addr)(H:Hp):Hp:=fun b=>if b=a then none else H b
end VL
namespace VL
open PySem PySem.Spec PyProof.Rows
section
variable{κ:Keyed->Int}{all out l ra rb:List Keyed}{m:Keyed}
def E4(κ:Keyed->Int)(l:List Keyed):Prop:=l.Pairwise fun x y=>κ x <= κ y
end
section
variable{M:Model}{A:Around}{E:Value->Shared->Prop}{s:Shared}{κ:Keyed->Int}{S:Keyed->Prop}{kd:SortKind}
def Good(κ:Keyed->Int)(a b out:Array Keyed):Prop:=out.toList.Perm (a.toList++b.toList)/\E4 κ out.toList
variable{a b out:Array Keyed}{ia ib:Nat}
end
end VL
namespace VL
open PySem PySem.Spec PyProof.Rows L2
noncomputable def e8:bb->bb->Bool
 |.inl a,.inl b=>decide (a<b)
 |.inr a,.inr b=>decide (a.cps.toList<b.cps.toList)
 |.inl _,.inr _=>true
 |.inr _,.inl _=>false
noncomputable def cX:List bb->List bb->Bool
 |[],[]=>false
 |[],_::_=>true
 |_::_,[]=>false
 |a::r,b::t=>if a=b then cX r t else e8 a b
noncomputable def sr(x:List bb):List (List bb)->List (List bb)
 |[]=>[x]
 |y::r=>if cX y x then y::sr x r else x::y::r
noncomputable def bJ:List (List bb)->List (List bb)
 |[]=>[]
 |x::r=>sr x (bJ r)
noncomputable def uC:List D->Option (List bb)
 |[]=>some []
 |d::r=>(Bw d).bind fun k=>(uC r).bind fun l=>some (k::l)
noncomputable def Bu:D->Option (List bb)
 |.tuple ds=>uC ds
 |_=>none
noncomputable def lM:List D->Option (List (List bb))
 |[]=>some []
 |d::r=>(Bu d).bind fun k=>(lM r).bind fun l=>some (k::l)
noncomputable def Av:bb->Bool
 |.inl _=>true
 |.inr _=>false
noncomputable def xM:List bb->Bool
 |.inr _::r=>r.all Av
 |_=>false
noncomputable def nr:List bb->Bool
 |.inl _::r=>r.all Av
 |_=>false
theorem str_eq{x y:Str}(h:x.cps.toList=y.cps.toList):x=y:=by
 cases x;cases y;simp only[Str.mk.injEq];exact Array.toList_inj.mp h
theorem sf(a:bb):e8 a a=false:=by
 cases a with
 |inl a=>simp[e8]
 |inr a=>simp[e8,List.lt_irrefl]
theorem se(a b:bb)(h:a≠b):e8 a b=!e8 b a:=by
 cases a with
 |inl a=>
  cases b with
  |inl b=>
   have:a≠b:=fun z=>h (by rw[z])
   simp only[e8];rcases Int.lt_trichotomy a b with q|q|q
   ·rw[decide_eq_true q,decide_eq_false (by lia)];rfl
   ·exact absurd q this
   ·rw[decide_eq_false (by lia),decide_eq_true q];rfl
  |inr b=>rfl
 |inr a=>
  cases b with
  |inl b=>rfl
  |inr b=>
   have:a.cps.toList≠b.cps.toList:=fun z=>h (by rw[str_eq z])
   simp only[e8];by_cases q:a.cps.toList<b.cps.toList
   ·rw[decide_eq_true q,decide_eq_false (List.lt_asymm q)];rfl
   ·rw[decide_eq_false q]
    have q:=List.not_lt.mp q;rcases List.le_iff_lt_or_eq.mp q with q|q
    ·rw[decide_eq_true q];rfl
    ·exact absurd q.symm this
theorem uE{a b c:bb}(h1:e8 a b=true)(h2:e8 b c=true):e8 a c=true:=by
 cases a<;>cases b<;>cases c<;>simp only[e8,decide_eq_true_eq,Bool.false_eq_true]at h1 h2 ⊢
 ·lia
 ·exact List.lt_trans h1 h2
theorem kh:∀a:List bb,cX a a=false
 |[]=>rfl
 |x::r=>by simp[cX,kh r]
theorem ip:∀(a b:List bb),a≠b->cX a b=!cX b a
 |[],[],h=>absurd rfl h
 |[],_::_,_=>rfl
 |_::_,[],_=>rfl
 |x::r,y::t,h=>by
  by_cases e:x=y
  ·subst e
   simp only[cX,if_true];exact ip r t fun z=>h (by rw[z])
  ·simp only[cX]
   rw[if_neg e,if_neg (Ne.symm e)];exact se x y e
theorem iq:∀{a b c:List bb},cX a b=true->cX b c=true->cX a c=true
 |[],[],_,h,_=>by cases h
 |[],_::_,[],_,h=>by cases h
 |[],_::_,_::_,_,_=>rfl
 |_::_,[],_,h,_=>by cases h
 |_::_,_::_,[],_,h=>by cases h
 |x::r,y::t,z::u,h1,h2=>by
  simp only[cX]at h1 h2 ⊢;by_cases e:x=y
  ·subst e
   rw[if_pos rfl]at h1;by_cases e2:x=z
   ·subst e2
    rw[if_pos rfl]at h2 ⊢;exact iq h1 h2
   ·rw[if_neg e2]at h2 ⊢
    exact h2
  ·rw[if_neg e]at h1
   by_cases e2:y=z
   ·subst e2
    rw[if_neg e];exact h1
   ·rw[if_neg e2]at h2
    have h3:=uE h1 h2;by_cases e3:x=z
    ·subst e3
     rw[sf]at h3;cases h3
    ·rw[if_neg e3];exact h3
def pi(a b:List bb):Prop:=cX b a=false
theorem oD{a b:List bb}(h1:pi a b)(h2:pi b a):a=b:=by
 by_cases e:a=b
 ·exact e
 ·have:=ip a b e
  unfold pi at h1 h2;rw[h1,h2]at this;cases this
theorem zt{a b c:List bb}(h1:pi a b)(h2:pi b c):pi a c:=by
 unfold pi at *;cases h:cX c a with
 |false=>rfl
 |true=>
  by_cases e:b=c
  ·subst e;rw[h]at h1;cases h1
  ·have:=ip b c e
   rw[h2]at this;rw[iq (by simpa using this) h]at h1;cases h1
theorem iV(x:List bb):∀l,(sr x l).Perm (x::l)
 |[]=>.refl _
 |y::r=>by
  unfold sr;split
  ·exact((iV x r).cons y).trans (.swap x y r)
  ·exact .refl _
theorem gh:∀l,(bJ l).Perm l
 |[]=>.refl _
 |x::r=>(iV x _).trans ((gh r).cons x)
theorem qM(x:List bb):∀l,l.Pairwise pi->(sr x l).Pairwise pi
 |[],_=>List.pairwise_singleton _ _
 |y::r,h=>by
  unfold sr;obtain⟨h1,h2⟩:=List.pairwise_cons.mp h;split
  ·rename_i q
   refine List.pairwise_cons.mpr ⟨fun z hz=>?_,qM x r h2⟩
   rcases List.mem_cons.mp ((iV x r).mem_iff.mp hz)with rfl|hz
   ·unfold pi
    cases e:cX z y with
    |false=>rfl
    |true=>
     have:=iq q e;rw[kh]at this;cases this
   ·exact h1 z hz
  ·rename_i q
   have q:pi x y:=by simpa[pi]using q
   refine List.pairwise_cons.mpr ⟨fun z hz=>?_,h⟩
   rcases List.mem_cons.mp hz with rfl|hz
   ·exact q
   ·exact zt q (h1 z hz)
theorem iU:∀l,(bJ l).Pairwise pi
 |[]=>.nil
 |x::r=>qM x _ (iU r)
theorem i9:∀{a b:List (List bb)},a.Perm b->a.Pairwise pi->b.Pairwise pi->a=b
 |[],b,p,_,_=>(List.nil_perm.mp p).symm
 |x::r,[],p,_,_=>absurd p.length_eq (by simp)
 |x::r,y::t,p,h1,h2=>by
  obtain⟨a1,a2⟩:=List.pairwise_cons.mp h1;obtain⟨b1,b2⟩:=List.pairwise_cons.mp h2;have e:x=y:=by
   rcases List.mem_cons.mp (p.mem_iff.mp (List.mem_cons_self (a:=x) (l:=r)))with e|e
   ·exact e
   ·rcases List.mem_cons.mp (p.mem_iff.mpr (List.mem_cons_self (a:=y) (l:=t)))with f|f
    ·exact f.symm
    ·exact oD (a1 y f) (b1 x e)
  subst e;rw[i9 ((List.perm_cons x).mp p) a2 b2]
theorem sm{a b:List (List bb)}(p:a.Perm b)(h:a.Pairwise pi):a=bJ b:=i9 (p.trans (gh b).symm) h (iU b)
section
variable{prog:Program}{w:World}{A:Around}{E:Value->Shared->Prop}{s:Shared}
def Eb:bb->Value->Prop
 |.inl i,v=>∃t,v=.int i t
 |.inr x,v=>∃t,v=.str x t
inductive KVals:List bb->List Value->Prop
 |nil:KVals [] []
 |cons {k v ks vs}:Eb k v->KVals ks vs->KVals (k::ks) (v::vs)
theorem KVals.one:∀{k k':List bb} {vs:List Value},KVals k vs->KVals k' vs->k=k'
 |_,_,_,.nil,.nil=>rfl
 |_,_,_,.cons (k:=a) h1 r1,.cons (k:=b) h2 r2=>by
  have e:=KVals.one r1 r2;subst e;cases a<;>cases b<;>obtain⟨t,rfl⟩:=h1<;>obtain⟨u,h2⟩:=h2<;>first|cases h2;rfl|cases h2
noncomputable def gp:List bb->List bb->Bool
 |a::r,b::t=>if a=b then gp r t else Av a==Av b
 |_,_=>true
theorem ux{fin:Bool}{Q:Bool->Shared->Prop}:∀{k1 k2:List bb} {xs ys:List Value} {i:Nat},KVals k1 xs->KVals k2 ys->gp k1 k2=true->fin=decide (xs.length<ys.length)->Q (cX k1 k2) s->PySem.W.KatLex prog w A true fin Q (xs.zip ys) i s
 |_,_,_,_,i,.nil,.nil,_,hf,q=>by
  subst hf;exact PySem.W.kat_nil q
 |_,_,_,_,i,.nil,.cons h r,_,hf,q=>by
  subst hf;exact PySem.W.kat_nil (by simpa[cX]using q)
 |_,_,_,_,i,.cons h r,.nil,_,hf,q=>by
  subst hf;rw[List.zip_nil_right];exact PySem.W.kat_nil (by simpa[cX]using q)
 |_,_,_,_,i,.cons (k:=a) (vs:=xs) h1 r1,.cons (k:=b) (vs:=ys) h2 r2,hc,hf,q=>by
  have hf:fin=decide (xs.length<ys.length):=by rw[hf];simp
  rw[List.zip_cons_cons];refine PySem.W.kat_cons ?_;simp only[cX,gp]at q hc;by_cases e:a=b
  ·subst e
   rw[if_pos rfl]at q hc;have go:=ux (i:=i+1) r1 r2 hc hf q;cases a with
   |inl a=>
    obtain⟨t,rfl⟩:=h1;obtain⟨u,rfl⟩:=h2;refine SeqAt.EqAt.int_int a t a u _ _ _ _ ?_;rw[beq_self_eq_true];exact PySem.W.kat_yes go
   |inr a=>
    obtain⟨t,rfl⟩:=h1;obtain⟨u,rfl⟩:=h2;refine SeqAt.EqAt.str_str a t a u _ _ _ _ ?_;rw[beq_self_eq_true];exact PySem.W.kat_yes go
  ·rw[if_neg e]at q hc
   cases a with
   |inl a=>
    cases b with
    |inr b=>cases hc
    |inl b=>
     obtain⟨t,rfl⟩:=h1;obtain⟨u,rfl⟩:=h2;refine SeqAt.EqAt.int_int a t b u _ _ _ _ ?_;rw[beq_eq_false_iff_ne.mpr fun z=>e (by rw[z])]
     refine PySem.W.kat_no ?_;cases i with
     |zero=>exact oneLt_int q
     |succ i=>exact PySem.W.kat_one _ _ (lt_int q)
   |inr a=>
    cases b with
    |inl b=>cases hc
    |inr b=>
     obtain⟨t,rfl⟩:=h1;obtain⟨u,rfl⟩:=h2;refine SeqAt.EqAt.str_str a t b u _ _ _ _ ?_;rw[beq_eq_false_iff_ne.mpr fun z=>e (by rw[z])]
     refine PySem.W.kat_no ?_;cases i with
     |zero=>exact oneLt_str q
     |succ i=>exact PySem.W.kat_one _ _ (lt_str q)
def KAt(h:Heap)(v:Value)(k:List bb):Prop:=∃b o xs n,v=.ref b/\h.get? b=some o/\o.cls=.type "tuple" /\ o.data=.seq xs n/\KVals k xs.toList
theorem KAt.one{h:Heap}{v:Value}{k k':List bb}(h1:KAt h v k)(h2:KAt h v k'):k=k':=by
 obtain⟨b,o,xs,n,rfl,e1,e2,e3,e4⟩:=h1;obtain⟨b',o',xs',n',q,f1,f2,f3,f4⟩:=h2;cases q;rw[e1]at f1;cases f1;rw[e3]at f3;cases f3;exact e4.one f4
theorem KAt.keeps{h h':Heap}{v:Value}{k:List bb}(x:KAt h v k)(kp:∀b o,o.cls=.type "tuple" -> h.get? b=some o->h'.get? b=some o):KAt h' v k:=by
 obtain⟨b,o,xs,n,rfl,e1,e2,e3,e4⟩:=x;exact⟨b,o,xs,n,rfl,kp b o e2 e1,e2,e3,e4⟩
theorem yi{x y:Value}{k1 k2:List bb}{Q:Bool->Shared->Prop}(h1:KAt s.heap x k1)(h2:KAt s.heap y k2)(hc:gp k1 k2=true)(q:Q (cX k1 k2) s):wpAny (model prog w) A (keyLt' (tuples' true) x y) Q E s:=by
 obtain⟨b,o,xs,n,rfl,e1,e2,e3,e4⟩:=h1;obtain⟨b',o',xs',n',rfl,f1,f2,f3,f4⟩:=h2;exact PySem.W.kat_lt e1 e3 f1 f3 (ux e4 f4 hc (by simp) q)
noncomputable def fR(ks:List (List bb))(k:List bb):Int:=((ks.filter fun x=>cX x k).length:Nat)
theorem iW{α:Type}{p q:α -> Bool}:∀(l:List α),(∀x∈l,p x=true->q x=true)->(l.filter p).length<=(l.filter q).length
 |[],_=>Nat.le_refl _
 |x::l,h=>by
  have ih:=iW l fun y hy=>h y (List.mem_cons_of_mem _ hy)
  have hx:=h x List.mem_cons_self;rw[List.filter_cons,List.filter_cons];cases e:p x with
  |false=>
   rw[if_neg (by simp)];split
   ·rw[List.length_cons];lia
   ·exact ih
  |true=>
   rw[if_pos rfl,if_pos (hx e),List.length_cons,List.length_cons];lia
theorem lS{α:Type}{p q:α -> Bool}:∀(l:List α),(∀x∈l,p x=true->q x=true)->(∃x∈l,p x=false/\q x=true)->(l.filter p).length<(l.filter q).length
 |[],_,⟨x,hx,_⟩=>by cases hx
 |x::l,h,⟨y,hy,h1,h2⟩=>by
  have ih:=iW l fun y hy=>h y (List.mem_cons_of_mem _ hy)
  have hx:=h x List.mem_cons_self;rw[List.filter_cons,List.filter_cons];rcases List.mem_cons.mp hy with rfl|hy
  ·rw[if_neg (by rw[h1];simp),if_pos h2,List.length_cons];lia
  ·have ih:=lS l (fun y hy=>h y (List.mem_cons_of_mem _ hy)) ⟨y,hy,h1,h2⟩
   cases e:p x with
   |false=>
    rw[if_neg (by simp)];split
    ·rw[List.length_cons];lia
    ·exact ih
   |true=>
    rw[if_pos rfl,if_pos (hx e),List.length_cons,List.length_cons];lia
theorem tX{ks:List (List bb)}{x y:List bb}(hx:x∈ks):decide (fR ks x<fR ks y)=cX x y:=by
 unfold fR;cases e:cX x y with
 |true=>
  refine decide_eq_true ?_;exact Int.ofNat_lt.mpr (lS ks (fun z _ hz=>iq hz e) ⟨x,hx,kh x,e⟩)
 |false=>
  refine decide_eq_false ?_;have:=iW (p:=fun z=>cX z y) (q:=fun z=>cX z x) ks fun z _ hz=>by
   by_cases q:y=x
   ·subst q;exact hz
   ·have:=ip y x q
    rw[e]at this;exact iq hz this
  lia
theorem oJ:∀{a b:List bb},a.all Av=true->b.all Av=true->gp a b=true
 |[],_,_,_=>by simp[gp]
 |_::_,[],_,_=>by simp[gp]
 |x::r,y::t,h1,h2=>by
  simp only[List.all_cons,Bool.and_eq_true]at h1 h2;simp only[gp];split
  ·exact oJ h1.2 h2.2
  ·rw[h1.1,h2.1];rfl
theorem xC{a b:List bb}(h1:nr a=true)(h2:nr b=true):gp a b=true:=by
 match a,b,h1,h2 with
 |.inl x::r,.inl y::t,h1,h2=>
  simp only[gp];split
  ·exact oJ h1 h2
  ·rfl
inductive KAts (h:Heap):List Value->List (List bb)->Prop
 |nil:KAts h [] []
 |cons {v k vs ks}:KAt h v k->KAts h vs ks->KAts h (v::vs) (k::ks)
theorem KAts.keeps{h h':Heap}(kp:∀b o,o.cls=.type "tuple" -> h.get? b=some o->h'.get? b=some o):∀{vs:List Value} {ks:List (List bb)},KAts h vs ks->KAts h' vs ks
 |_,_,.nil=>.nil
 |_,_,.cons x r=>.cons (x.keeps kp) (KAts.keeps kp r)
noncomputable def An:Bool->Value
 |true=>.type "str"
 |false=>.type "int"
theorem KAts.tups{h:Heap}{b:Bool}:∀{vs:List Value} {ks:List (List bb)},KAts h vs ks->(∀k∈ks,(if b then xM k else nr k)=true)->∃fs:List Value,fs.length=vs.length/\PySem.W.KatTups h vs fs/\∀v∈fs,∀M:Model,PySem.W.Looks M h (typeOf v) (An b)
 |_,_,.nil,_=>⟨[],rfl,trivial,fun v h=>by cases h⟩
 |_,_,.cons (k:=k) x r,hk=>by
  obtain⟨fs,h1,h2,h3⟩:=KAts.tups r fun k' m=>hk k' (List.mem_cons_of_mem _ m)
  obtain⟨a,o,xs,n,rfl,e1,e2,e3,e4⟩:=x;have hk:=hk k List.mem_cons_self;obtain⟨f,ef,lf⟩:∃f,xs[0]? = some f/\∀M:Model,PySem.W.Looks M h (typeOf f) (An b):=by
   cases b with
   |true=>
    match k,hk,e4 with
    |.inr y::t,_,e4=>
     generalize exs:xs.toList=l at e4;cases e4 with
     |cons hv hr=>
      obtain⟨u,rfl⟩:=hv;refine⟨_,by rw[<-Array.getElem?_toList,exs];rfl,fun M=>PySem.W.Looks.of_pure rfl⟩
   |false=>
    match k,hk,e4 with
    |.inl y::t,_,e4=>
     generalize exs:xs.toList=l at e4;cases e4 with
     |cons hv hr=>
      obtain⟨u,rfl⟩:=hv;refine⟨_,by rw[<-Array.getElem?_toList,exs];rfl,fun M=>PySem.W.Looks.of_pure rfl⟩
  refine⟨f::fs,by rw[List.length_cons,List.length_cons,h1],⟨⟨a,o,xs,n,rfl,e1,e2,e3,ef⟩,h2⟩,fun v hv=>?_⟩
  rcases List.mem_cons.mp hv with rfl|hv
  ·exact lf
  ·exact h3 v hv
end
section
variable{X:Cx}
noncomputable def pQ:bb->V
 |.inl i=>.int i
 |.inr x=>.str x
noncomputable def Ca:Value->V
 |.ref b=>.ref b
 |_=>.non
inductive KeyVs (K:Fg) (H:Hp):List V->List (List bb)->Prop
 |nil:KeyVs K H [] []
 |cons {b k vs ks}:SqT K H b (k.map pQ)->KeyVs K H vs ks->KeyVs K H (.ref b::vs) (k::ks)
theorem kj:∀{k:List bb} {us:List Value},Vals (k.map pQ) us->KVals k us
 |[],_,.nil=>.nil
 |.inl i::k,_,.cons h r=>.cons h (kj r)
 |.inr x::k,_,.cons h r=>.cons h (kj r)
theorem uF{pins:List (Addr×Obj)}{σ:St}{H:Hp}{s:Shared}(I:Inv X pins σ H s){b:Addr}{k:List bb}(h:SqT X.K H b (k.map pQ)):KAt s.heap (.ref b) k:=by
 obtain⟨its,r,⟨o,e1,e2,n,e3⟩,z⟩:=I.tuple h;exact⟨b,o,its.toArray,n,rfl,e1,e2,e3,by simpa using kj r⟩
theorem oF{pins:List (Addr×Obj)}{σ:St}{Z H:Hp}{s:Shared}(I:Inv X pins σ H s)(zh:Same Z H):∀{vs:List V} {ks:List (List bb)} {its:List Value},KeyVs X.K Z vs ks->Vals vs its->KAts s.heap its ks/\∀u∈its,∃(b:Addr) (k:List bb),u=.ref b/\SqT X.K Z b (k.map pQ)
 |_,_,_,.nil,.nil=>⟨.nil,fun u h=>by cases h⟩
 |_,_,_,.cons (b:=b) (k:=k) h r,.cons hv hr=>by
  obtain⟨a2,a3⟩:=oF I zh r hr;have hv:=hv;cases hv;refine⟨.cons (uF I (SqT.same h zh)) a2,fun u hu=>?_⟩
  rcases List.mem_cons.mp hu with rfl|hu
  ·exact⟨b,k,rfl,h⟩
  ·exact a3 u hu
theorem km{pins:List (Addr×Obj)}{σ:St}{Z H:Hp}{s:Shared}(I:Inv X pins σ H s)(zh:Same Z H):∀{out:List Value} {ks:List (List bb)},KAts s.heap out ks->(∀u∈out,∃(b:Addr) (k:List bb),u=.ref b/\SqT X.K Z b (k.map pQ))->KeyVs X.K Z (out.map Ca) ks/\Vals (out.map Ca) out
 |_,_,.nil,_=>⟨.nil,.nil⟩
 |_,_,.cons h r,hs=>by
  obtain⟨a1,a2⟩:=km I zh r fun u hu=>hs u (List.mem_cons_of_mem _ hu)
  obtain⟨b,k',rfl,q⟩:=hs _ List.mem_cons_self;have:=h.one (uF I (SqT.same q zh));subst this;exact⟨.cons q a1,.cons rfl a2⟩
theorem lK{K:Fg}{Z:Hp}:∀{us:List V} {ds:List D} {k:List bb},Reps K Z us ds->uC ds=some k->us=k.map pQ
 |_,_,_,.nil,h=>by cases h;rfl
 |_,d::ds,_,.cons r rs,h=>by
  obtain⟨x,e1,h⟩:=bind_some h;obtain⟨k',e2,h⟩:=bind_some h;cases h;rw[List.map_cons,<-lK rs e2];cases r<;>cases e1<;>rfl
theorem iT{K:Fg}{Z:Hp}:∀{vs:List V} {ds:List D} {ks:List (List bb)},Reps K Z vs ds->lM ds=some ks->KeyVs K Z vs ks
 |_,_,_,.nil,h=>by cases h;exact .nil
 |_,d::ds,_,.cons r rs,h=>by
  obtain⟨k,e1,h⟩:=bind_some h;obtain⟨k',e2,h⟩:=bind_some h;cases h;cases r with
  |tup sq r2=>
   have e:=lK r2 e1;subst e;exact .cons sq (iT rs e2)
  |_=>cases e1
theorem iO{K:Fg}{Z:Hp}:∀k:List bb,Reps K Z (k.map pQ) (k.map lO)
 |[]=>.nil
 |.inl i::k=>.cons (.int i) (iO k)
 |.inr x::k=>.cons (.str x) (iO k)
theorem lL{K:Fg}{Z:Hp}:∀{vs:List V} {ks:List (List bb)},KeyVs K Z vs ks->Reps K Z vs (ks.map fun k=>.tuple (k.map lO))
 |_,_,.nil=>.nil
 |_,_,.cons h r=>.cons (.tup h (iO _)) (lL r)
variable{e:Expr}{p pos:Pos}{te:TE}{f:Dv->Option D}
end
section
variable{prog:Program}{w:World}{A:Around}{E:Value->Shared->Prop}{s:Shared}
theorem kn{h:Heap}:∀{vs:List Value} {ks:List (List bb)},KAts h vs ks->ks.length=vs.length
 |_,_,.nil=>rfl
 |_,_,.cons _ r=>by rw[List.length_cons,List.length_cons,kn r]
theorem gE{h:Heap}:∀{vs:List Value} {ks:List (List bb)} {i:Nat},KAts h vs ks->i<vs.length->KAt h (vs.getD i Value.none) (ks.getD i [])
 |_,_,i,.nil,hi=>absurd hi (Nat.not_lt_zero _)
 |_,_,0,.cons x r,hi=>x
 |_,_,i+1,.cons x r,hi=>by
  have:=gE (i:=i) r (Nat.lt_of_succ_lt_succ hi);exact this
theorem lP{h:Heap}{f:Nat->Value}{g:Nat->List bb}:∀(l:List Nat),(∀i∈l,KAt h (f i) (g i))->KAts h (l.map f) (l.map g)
 |[],_=>.nil
 |i::l,H=>.cons (H i List.mem_cons_self) (lP l fun j hj=>H j (List.mem_cons_of_mem _ hj))
theorem jY{α:Type}(l:List α)(d:α):(List.range l.length).map (fun i=>l.getD i d)=l:=by
 apply List.ext_getElem?;intro k;by_cases hk:k<l.length
 ·simp[hk,List.getD_eq_getElem?_getD]
 ·simp[hk]
theorem wZ{α:Type}{l:List α}{i:Nat}{d:α}(hi:i<l.length):l.getD i d∈l:=by
 rw[List.getD_eq_getElem?_getD,List.getElem?_eq_getElem hi];exact List.getElem_mem hi
end
theorem jE(a:Value):argsOk "list.sort" ⟨[a],[("reverse",.bool true)]⟩:=by unfold argsOk;kernel_rfl
theorem nk(a:Value):argsOk "sorted" ⟨[a],[("reverse",.bool true)]⟩:=by unfold argsOk;kernel_rfl
theorem ll(a:Addr):Builtin.«list.sort» ⟨[.ref a],[("reverse",.bool true)]⟩=(do
  let items <-Builtin.List.listItems (.ref a)
  Builtin.List.listUpdate (.ref a) fun _=>#[]
  let before <-seqEpoch a
  let held <-newTuple items.toList
  let keyStore <-newList []
  holding [held,keyStore] do
   rule "list.sort.reverse"
   let kind <-if items.size<2 then pure general' else keyKind' items
   let ((),s) <-(if items.size<2 then pure ()else sortRuns').run (SortSt.mk' kind (items.zip items).reverse #[] 7 none)
   let sorted:=(arrOf s).map (·.2)
   let touched:=(<-seqEpoch a) != before
   Builtin.List.listUpdate (.ref a) fun _=>sorted.reverse
   if let some e:=failedOf s then rule "list.sort.comparison-raised";throw e
   if touched then rule "list.sort.modified";raiseError "ValueError" "list modified during sort"
   ret .none):=rfl
theorem gB{α:Type}:∀l:List α,l.zip l=l.map fun x=>(x,x)
 |[]=>rfl
 |x::l=>by rw[List.zip_cons_cons,gB l];rfl
section
variable{prog:Program}{w:World}{A:Around}{E:Value->Shared->Prop}{s:Shared}
theorem kg{a:Addr}{vs:List Value}{key:Nat->Int}{n:Nat}{P:PySem.Fin->Shared->Prop}(ho:s.heap.get? a=some (seqObj "list" vs.toArray n))(PA:Heap->Prop)(x:PA s.heap)(keeps:∀h h':Heap,PA h->(∀b o,o.cls=.type "tuple" -> h.get? b=some o->h'.get? b=some o)->PA h'){T:Value}(hT2:(T==T)=true)(hT3:(T != Value.type "tuple")=true)(tups:∀h,PA h->∃fs:List Value,fs.length=vs.length/\PySem.W.KatTups h vs fs/\∀v∈fs,∀M:Model,PySem.W.Looks M h (typeOf v) T)
  (ask:∀s':Shared,PA s'.heap->∀i j,i<vs.length->j<vs.length->i≠j->∀C:Bool->Shared->Prop,C (decide (key i<key j)) s'->PySem.W.kas_ask prog w A (tuples' true) vs.reverse i j C s') (hinj:∀i j,i<vs.length->j<vs.length->key i=key j->i=j) (h64:vs.length<64)
  (h:∀p:Array Nat,Pm vs.length p->Up key p vs.length->P (.done (.ret .none)) { s with heap:=sortedHeap s.heap a vs (List.toArray (p.toList.map fun i=>vs.reverse.getD i Value.none)).reverse }) :
  wpAny (model prog w) A (Builtin.«list.sort» ⟨[.ref a],[("reverse",.bool true)]⟩) P E s:=by
 rw[ll];have hlr:vs.reverse.length=vs.length:=List.length_reverse;have hzr:(vs.toArray.zip vs.toArray).reverse=vs.reverse.toArray.zip vs.reverse.toArray:=by
  apply Array.toList_inj.mp;rw[Array.toList_reverse,Array.toList_zip,Array.toList_zip,gB,gB,List.map_reverse]
 have ha:a<s.heap.objs.size:=Heap.lt_size ho;refine wpAny_bind (listItems_at ho rfl ?_);refine wpAny_bind (listUpdate_at ho rfl ?_);obtain⟨e1,ho1⟩:∃e1,(s.heap.update a (Obj.mapSeq fun _=>#[])).get? a=some (seqObj "list" #[] e1):=⟨_,get?_update_seq ho (fun _=>#[])⟩;refine wpAny_bind (seqEpoch_at ho1 rfl ?_);refine wpAny_bind (wpAny_newTuple ?_);refine wpAny_bind (wpAny_newList ?_);refine wpAny_holding (wpAny_bind (wpAny_rule ?_));have ho6:(((s.heap.update a (Obj.mapSeq fun _=>#[])).push (seqObj "tuple" vs.toArray 0)).push (seqObj "list" #[] 0)).get? a=some (seqObj "list" #[] e1):=Heap.get?_push_of_some _ (Heap.get?_push_of_some _ ho1);have kp:∀b o,o.cls=.type "tuple" -> s.heap.get? b=some o->(((s.heap.update a (Obj.mapSeq fun _=>#[])).push (seqObj "tuple" vs.toArray 0)).push (seqObj "list" #[] 0)).get? b=some o:=fun b o hc eo=>by
  have hb:b≠a:=fun z=>by
   subst z;rw[ho]at eo;cases eo;exact absurd hc (by intro z;injection z with z;exact absurd z (by decide))
  exact Heap.get?_push_of_some _ (Heap.get?_push_of_some _ (gg hb eo))
 have x6:=keeps _ _ x kp;show wpAny (model prog w) A _ P E { s with heap:=((s.heap.update a (Obj.mapSeq fun _=>#[])).push (seqObj "tuple" vs.toArray 0)).push (seqObj "list" #[] 0) };dsimp only;have fin:∀p:Array Nat,Pm vs.length p->Up key p vs.length->∀st':SortSt,(arrOf st').map (·.2)=List.toArray (p.toList.map fun i=>vs.reverse.getD i Value.none)->failedOf st'=none ->
   wpAny (model prog w) A (do
    let sorted:=(arrOf st').map (·.2)
    let touched:=(<-seqEpoch a) != e1
    Builtin.List.listUpdate (.ref a) fun _=>sorted.reverse
    if let some e:=failedOf st' then rule "list.sort.comparison-raised";throw e
    if touched then rule "list.sort.modified";raiseError "ValueError" "list modified during sort"
    ret .none) P E { s with heap:=((s.heap.update a (Obj.mapSeq fun _=>#[])).push (seqObj "tuple" vs.toArray 0)).push (seqObj "list" #[] 0) }:=fun p hp hu st' ha' hf=>by
  have hsz:(List.toArray (p.toList.map fun i=>vs.reverse.getD i Value.none)).reverse.size=vs.length:=by rw[Array.size_reverse,List.size_toArray,List.length_map,Array.length_toList,hp.size]
  refine wpAny_bind (seqEpoch_at ho6 rfl ?_);refine wpAny_bind (listUpdate_at ho6 rfl ?_ (hsz2:=by rw[ha',hsz,sizeLine_eq];lia));rw[hf,ha'];simp only[bne_self_eq_false,Bool.false_eq_true,if_false];exact wpAny_pure (h p hp hu)
 by_cases h2:vs.toArray.size<2
 ·rw[if_pos h2,if_pos h2]
  refine wpAny_bind (wpAny_pure ?_);rw[StateT.run_pure];refine wpAny_bind (wpAny_pure ?_);refine fin (List.toArray (List.range vs.length)) ⟨List.Perm.refl _⟩ (fun i j hij hj=>by simp at h2;lia) (SortSt.mk' general' (vs.toArray.zip vs.toArray).reverse #[] 7 none) ?_ rfl;apply Array.toList_inj.mp;show((vs.toArray.zip vs.toArray).reverse.map (·.2)).toList=_;rw[hzr,Array.toList_map,Array.toList_zip,gB,List.map_map,<-hlr];show vs.reverse.map (fun x=>x)=(List.range vs.reverse.length).map fun i=>vs.reverse.getD i Value.none
  rw[jY,List.map_id']
 ·rw[if_neg h2,if_neg h2]
  have hn2:2<=vs.length:=by simp at h2;lia
  obtain⟨fs,f1,f2,f3⟩:=tups _ x6;rw[hzr];refine wpAny_bind (PySem.W.kat_kind (s:={ s with heap:=((s.heap.update a (Obj.mapSeq fun _=>#[])).push (seqObj "tuple" vs.toArray 0)).push (seqObj "list" #[] 0) }) (T:=T) f2 (by lia) (fun v hv=>f3 v hv _) hT2 ?_)
  ·rw[hT3]
   refine wpAny_bind (wpAny_mono (PySem.W.kat_run (s:={ s with heap:=((s.heap.update a (Obj.mapSeq fun _=>#[])).push (seqObj "tuple" vs.toArray 0)).push (seqObj "list" #[] 0) })
    (Q:=fun st' s'=>∃p:Array Nat,Pm vs.length p/\Up key p vs.length/\(arrOf st').map (·.2)=List.toArray (p.toList.map fun i=>vs.reverse.getD i Value.none)/\failedOf st'=none/\s'={ s with heap:=((s.heap.update a (Obj.mapSeq fun _=>#[])).push (seqObj "tuple" vs.toArray 0)).push (seqObj "list" #[] 0) })
    (G:=fun p s'=>Pm vs.length p/\Up key p vs.length/\s'={ s with heap:=((s.heap.update a (Obj.mapSeq fun _=>#[])).push (seqObj "tuple" vs.toArray 0)).push (seqObj "list" #[] 0) })
    (ks:=vs.reverse) (vs:=vs.reverse) rfl (by rw[hlr];exact hn2) (by rw[hlr];exact h64) (fun p st' s' a1 a2 a3 a4=>⟨p,a4.1,a4.2.1,PySem.W.kat_snds rfl a2,a3,a4.2.2⟩) ?_) ?_ fun _ _ e=>e)
   ·rw[hlr]
    exact vY hinj (fun i j hi hj hij C hC=>ask _ x6 i j hi hj hij C hC) hn2 fun p hp hu=>⟨hp,hu,rfl⟩
   ·rintro⟨⟨⟩,st'⟩ s' ⟨p,hp,hu,har,hf,rfl⟩
    exact fin p hp hu st' har hf
end
section
variable{prog:Program}{w:World}{A:Around}{E:Value->Shared->Prop}{s:Shared}
theorem oH{h:Heap}{vs:List Value}{ks:List (List bb)}(x:KAts h vs ks):KAts h vs.reverse ks.reverse:=by
 have app:∀{a b:List Value} {c d:List (List bb)},KAts h a c->KAts h b d->KAts h (a++b) (c++d):=fun{a b c d} p q=>by
  induction p with
  |nil=>exact q
  |cons e _ ih=>exact .cons e ih
 induction x with
 |nil=>exact .nil
 |cons e r ih=>
  rw[List.reverse_cons,List.reverse_cons];exact app ih (.cons e .nil)
theorem ju{a:Addr}{vs:List Value}{ks:List (List bb)}{n:Nat}{P:PySem.Fin->Shared->Prop}(ho:s.heap.get? a=some (seqObj "list" vs.toArray n))(x:KAts s.heap vs ks)(hk:ks.all nr=true)(nd:ks.Nodup)(h64:vs.length<64)
  (h:∀out:List Value,out.Perm vs->KAts s.heap out (bJ ks).reverse->P (.done (.ret .none)) { s with heap:=sortedHeap s.heap a vs out.toArray }) :
  wpAny (model prog w) A (Builtin.«list.sort» ⟨[.ref a],[("reverse",.bool true)]⟩) P E s:=by
 have hc:∀x∈ks,∀y∈ks,gp x y=true:=fun x hx y hy=>xC (List.all_eq_true.mp hk x hx) (List.all_eq_true.mp hk y hy)
 have hb:∀k∈ks,(if false=true then xM k else nr k)=true:=fun k m=>List.all_eq_true.mp hk k m
 have xr:=oH x;have ndr:ks.reverse.Nodup:=(List.reverse_perm ks).nodup_iff.mpr nd;have lr:vs.reverse.length=vs.length:=List.length_reverse;have ln:=kn xr;have kin:∀{i},i<vs.length->ks.reverse.getD i []∈ks:=fun hi=>List.mem_reverse.mp (wZ (by lia))
 have rk:∀{i j},i<vs.length->decide (fR ks (ks.reverse.getD i [])<fR ks (ks.reverse.getD j []))=cX (ks.reverse.getD i []) (ks.reverse.getD j []):=fun hi=>tX (kin hi)
 refine kg (key:=fun i=>fR ks (ks.reverse.getD i [])) ho (fun h'=>∀(b:Addr) (o:Obj),o.cls=.type "tuple" -> s.heap.get? b=some o->h'.get? b=some o) (fun _ _ _ e=>e)
  (fun h1 h2 (p:∀(b:Addr) (o:Obj),o.cls=.type "tuple" -> s.heap.get? b=some o->h1.get? b=some o) kp b o (ec:o.cls=.type "tuple") e=>kp b o ec (p b o ec e)) (T:=An false) (by decide) (by decide) (fun h' kp=>(x.keeps kp).tups (b:=false) hb)
  (fun s' kp i j hi hj hij C hC=>?_) (fun i j hi hj e=>?_) h64 fun p hp hu=>?_
 ·have hC:C (decide (fR ks (ks.reverse.getD i [])<fR ks (ks.reverse.getD j []))) s':=hC
  rw[rk hi]at hC;exact yi ((gE xr (by lia)).keeps kp) ((gE xr (by lia)).keeps kp) (hc _ (kin hi) _ (kin hj)) hC
 ·have e:fR ks (ks.reverse.getD i [])=fR ks (ks.reverse.getD j []):=e
  have e1:=rk (j:=j) hi;have e2:=rk (j:=i) hj;rw[decide_eq_false (by lia)]at e1 e2;have q:ks.reverse.getD i []=ks.reverse.getD j []:=oD e2.symm e1.symm;rw[List.getD_eq_getElem?_getD,List.getD_eq_getElem?_getD,List.getElem?_eq_getElem (by lia:i<ks.reverse.length),List.getElem?_eq_getElem (by lia:j<ks.reverse.length)]at q;exact(List.getElem_inj ndr).mp q
 ·have pm:=hp.perm
  have m:∀i∈p.toList,i<vs.length:=fun i hi=>List.mem_range.mp (pm.mem_iff.mp hi)
  have oe:(List.toArray (p.toList.map fun i=>vs.reverse.getD i Value.none)).reverse=(p.toList.map fun i=>vs.reverse.getD i Value.none).reverse.toArray:=by simp
  rw[oe];refine h _ ?_ ?_
  ·have q:=pm.map fun i=>vs.reverse.getD i Value.none
   rw[<-lr,jY]at q;exact(List.reverse_perm _).trans (q.trans (List.reverse_perm vs))
  ·have ko:=lP (h:=s.heap) (f:=fun i=>vs.reverse.getD i Value.none) (g:=fun i=>ks.reverse.getD i []) p.toList fun i hi=>gE xr (by have:=m i hi;lia)
   have kp:=pm.map fun i=>ks.reverse.getD i []
   rw[<-lr,<-ln,jY]at kp;have e:p.toList.map (fun i=>ks.reverse.getD i [])=bJ ks:=by
    refine sm (kp.trans (List.reverse_perm ks)) (List.pairwise_map.mpr (List.pairwise_iff_getElem.mpr fun i j hi hj hij=>?_));have hz:=hp.size;have hi':i<p.size:=by simpa using hi
    have hj':j<p.size:=by simpa using hj
    have u:=hu i j hij (by lia);have g1:p.getD i 0=p.toList[i]:=by simp[Array.getD,hi']
    have g2:p.getD j 0=p.toList[j]:=by simp[Array.getD,hj']
    have u:fR ks (ks.reverse.getD (p.getD i 0) [])<fR ks (ks.reverse.getD (p.getD j 0) []):=u;rw[g1,g2]at u;have q:=rk (j:=p.toList[i]) (m _ (List.getElem_mem hj));rw[decide_eq_false (by lia)]at q;exact q.symm
   rw[e]at ko;exact oH ko
end
noncomputable def jS(d:D):Option D:=(da d).bind fun ds=>(lM ds).bind fun ks=>if ks.all nr=true/\ks.Nodup/\ks.length<64 then some (.list ((bJ ks).reverse.map fun k=>.tuple (k.map lO)))else none
section
variable{X:Cx}
theorem tL{pins:List (Addr×Obj)}{σ:St}{H:Hp}{s:Shared}{a:Addr}{vs:List V}{Q:VK}{Z:Hp}{ks:List (List bb)}(I:Inv X pins σ H s)(zh:Same Z H)(hs:SqL X.K H a vs\/SqT X.K H a vs)(kv:KeyVs X.K Z vs ks)(ok:ks.all nr=true)(nd:ks.Nodup)(h64:ks.length<64)(q:∀vs',KeyVs X.K Z vs' (bJ ks).reverse->∀l,H l=none->Q (.ref l) (upd H l (.lst vs'))):
  wpAny (model X.prog X.w) X.A (call (.builtin "sorted") [.ref a] [("reverse",.bool true)]) (EP X pins σ Q) X.xe s:=by
 obtain⟨its,rv,T,o,n,hT,e1,e2,e3,hz⟩:∃(its:List Value),Vals vs its/\∃(T:String) (o:Obj) (n:Nat),(T = "list" \/ T = "tuple")/\s.heap.get? a=some o/\o.cls=.type T/\o.data=.seq its.toArray n/\its.length<=sizeLine:=by
  rcases hs with hs|hs
  ·obtain⟨its,r,⟨o,n,e1,e2,e3,e4⟩,z⟩:=I.list hs
   exact⟨its,r,"list",o,n,.inl rfl,e1,e2,e4,by rw[<-r.length];exact z⟩
  ·obtain⟨its,r,⟨o,e1,e2,n,e3⟩,z⟩:=I.tuple hs
   exact⟨its,r,"tuple",o,n,.inr rfl,e1,e2,e3,by rw[<-r.length];exact z⟩
 refine call_function_entry_kw kind_sorted plain_sorted entry_sorted (nk _) ?_;unfold Builtin.«sorted»;refine wpAny_bind (m:=checkCount "sorted" 1 1 _) (wpAny_pure ?_);refine wpAny_bind (wpAny_collect_seq a hT e1 e2 e3 (fun h' hk'=>?_) (by simpa using hz));show wpAny _ _ (newList its >>= _) _ _ { s with heap:=h' };refine wpAny_bind (wpAny_newList ?_ hz);have hoL:(h'.push (seqObj "list" its.toArray 0)).get? h'.objs.size=some (seqObj "list" its.toArray 0):=Heap.get?_push_size _ rfl;have I1:Inv X pins σ H { s with heap:=h' }:=I.kept (t':=s.toks) hk';have I2:Inv X pins σ H { s with heap:=h'.push (seqObj "list" its.toArray 0) }:=I1.kept (t':=s.toks) fun b o eo=>Heap.get?_push_of_some _ eo
 obtain⟨v2,v3⟩:=oF I2 zh kv rv;have hln:its.length=ks.length:=(kn v2).symm;refine wpAny_bind (wpAny_holding (wpAny_call_entry_kw slot_list_sort ⟨_,hoL,rfl⟩ entry_list_sort (ju hoL v2 ok nd (by lia) fun out pm ka=>⟨_,rfl,?_⟩) (jE _)))
 refine wpAny_pure ⟨_,rfl,?_⟩;obtain⟨b1,b2⟩:=km I2 zh ka fun u hu=>v3 u (pm.mem_iff.mp hu)
 have kp:∀b o,h'.get? b=some o->(sortedHeap (h'.push (seqObj "list" its.toArray 0)) h'.objs.size its out.toArray).get? b=some o:=fun b o eo=>by
  have hb:b≠h'.objs.size:=Nat.ne_of_lt (Heap.lt_size eo);exact gg hb (Heap.get?_push_of_some _ (Heap.get?_push_of_some _ (gg hb (Heap.get?_push_of_some _ eo))))
 obtain⟨e1,ho1⟩:∃e1,((h'.push (seqObj "list" its.toArray 0)).update h'.objs.size (Obj.mapSeq fun _=>#[])).get? h'.objs.size=some (seqObj "list" #[] e1):=⟨_,get?_update_seq hoL (fun _=>#[])⟩;have ho2:=Heap.get?_push_of_some (seqObj "list" #[] 0) (Heap.get?_push_of_some (seqObj "tuple" its.toArray 0) ho1);have ho3:=get?_update_seq ho2 (fun _=>out.toArray);have L:=I1.laid (h':=sortedHeap (h'.push (seqObj "list" its.toArray 0)) h'.objs.size its out.toArray) (a:=h'.objs.size) (o:=.lst (out.map Ca)) (t':=s.toks) kp (Nat.le_refl _)
  (show ObjOk X.prog X.w _ _ _ (.lst (out.map Ca))from ⟨by rw[List.length_map,pm.length_eq];exact hz,out,_,b2,ho3⟩)
 exact⟨.ref h'.objs.size,_,L,rfl,q _ b1 _ (I1.hok.fresh (Nat.le_refl _))⟩
variable{e:Expr}{p pos kp kc:Pos}{n:Nat}{f:Dv->Option D}
theorem uQ(hg:Gl X "sorted")(hm:X.mg "sorted" = none)(ha:EV X e f)(he:starEach [e] X.env=(false,eval e X.env)::starEach [] X.env:=by rfl)(hpl:(backTo pos (starEach [e] X.env)).any (·.1)=false:=by rfl):
  EV X (.Call (.Name "sorted" p) [e] [⟨some "reverse",.Constant (.bool true) 0 kc,kp⟩] pos) (o1 f jS):=by
 intro pins s σ H Q I h;refine wpAny_Call_Name_kw (ki I hg hm (u:=.builtin "sorted") (by decide +kernel) ?_ (by decide) (by decide));refine PyProof.Rows.callWith_kw (bT (ik ha mN he pos pins s σ H (fun xs H1=>∃(a:Addr) (vs:List V) (Z:Hp) (ks:List (List bb)),xs=[V.ref a]/\Same Z H1/\(SqL X.K H1 a vs\/SqT X.K H1 a vs)/\KeyVs X.K Z vs ks/\ks.all nr=true/\ks.Nodup/\ks.length<64/\∀vs',KeyVs X.K Z vs' (bJ ks).reverse->∀l,H1 l=none->Q (.ref l) (upd H1 l (.lst vs'))) I ?_) fun us s1 ⟨vs,H1,I1,r1,q1⟩=>?_) (by rw[he];rfl) hpl
 ·obtain⟨H₀,Z₀,Z,δ,d,hh,e,k⟩:=h
  obtain⟨d1,e1,e⟩:=bind_some e;refine⟨H₀,Z₀,Z,δ,d1,hh,e1,fun v Z1 H1 hh1 t1 r1=>?_⟩
  unfold jS at e;obtain⟨ds,e2,e⟩:=bind_some e;obtain⟨ks,e3,e⟩:=bind_some e;obtain⟨⟨c1,c2,c3⟩,e⟩:=ir e;cases e;have key:∀vs',KeyVs X.K Z1 vs' (bJ ks).reverse->∀b,H1 b=none->Q (.ref b) (upd H1 b (.lst vs')):=fun vs' kv b hb=>by
   have n:=New.add hh1.zh hb (.lst vs');exact k _ _ _ (hh1.new n) (t1.trans n.z) (.lst (SqL.of aG) ((lL kv).same n.z))
  cases r1 with
  |lst sq rs=>
   cases e2;exact⟨_,_,Z1,ks,rfl,hh1.zh,.inl (SqL.same sq hh1.zh),iT rs e3,c1,c2,c3,key⟩
  |tup sq rs=>
   cases e2;exact⟨_,_,Z1,ks,rfl,hh1.zh,.inr (SqT.same sq hh1.zh),iT rs e3,c1,c2,c3,key⟩
  |_=>cases e2
 ·obtain⟨a,xs,Z,ks,e1,zh,hsq,kv,c1,c2,c3,q⟩:=q1
  subst e1;obtain⟨u,rfl,rx⟩:=nD r1;cases rx;refine kws_cons (wpAny_pure (kws_nil ?_));exact tL I1 zh hsq kv c1 c2 c3 q
end
@[simp] noncomputable def EQ(i:Nat)(fk fv:Dv->Option D):Sf:=fun δ=>(fk δ).bind fun dk=>(fv δ).bind fun v=>(sN δ[i]?).bind fun ds=>match dk with
 |.int k=>if 0<=k/\k.toNat<=ds.length/\ds.length<sizeLine then some (.nx,δ.set i (.ow (ds.take k.toNat++v::ds.drop k.toNat)))else none
 |_=>none
section
variable{K:Fg}
noncomputable def gi(ps:List (V×V)):List V:=ps.flatMap fun p=>[p.1,p.2]
end
@[simp] noncomputable def EO(i:Nat)(fk:Dv->Option D):Sf:=fun δ=>(fk δ).bind fun dk=>(sN δ[i]?).bind fun ds=>match dk with
 |.int k=>if 0<=k/\k.toNat<ds.length/\ds.length<sizeLine then some (.nx,δ.set i (.ow (ds.eraseIdx k.toNat)))else none
 |_=>none
@[simp] noncomputable def EN(i:Nat):Sf:=fun δ=>(sN δ[i]?).bind fun ds=>if ds.length<sizeLine then some (.nx,δ.set i (.ow ds.reverse))else none
noncomputable def lps(M:Nat):Nat->Nat×Nat->Nat×Nat
 | 0,x=>x
 |k+1,x=>lps M k (SetTable.leap M x.1 x.2)
theorem mS(M:Nat):∀(a b:Nat) (x:Nat×Nat),lps M (a+b) x=lps M b (lps M a x)
 | 0,b,x=>by rw[Nat.zero_add];rfl
 |a+1,b,x=>by rw[Nat.add_right_comm];exact mS M a b _
theorem uv(M:Nat):∀(k:Nat) (i q:Nat),(lps M k (i,q)).2=q/32^k
 | 0,i,q=>by simp[lps]
 |k+1,i,q=>by
  show(lps M k (SetTable.leap M i q)).2=_;have:SetTable.leap M i q=((SetTable.leap M i q).1,q/32):=rfl;rw[this,uv M k,Nat.div_div_eq_div_mul,Nat.pow_succ,Nat.mul_comm]
theorem uw(M:Nat):∀(k:Nat) (i q:Nat),i<M+1->(lps M k (i,q)).1<M+1
 | 0,i,q,h=>h
 |k+1,i,q,h=>uw M k _ _ (Nat.mod_lt _ (by lia))
noncomputable def fiv(k:Nat):Nat:=(5^k-1)/4
theorem kz(k:Nat):fiv (k+1)=5*fiv k+1:=by
 unfold fiv;have h1:5^k%4=1:=by
  induction k with
  |zero=>rfl
  |succ k ih=>rw[Nat.pow_succ];lia
 have h2:1<=5^k:=Nat.pow_pos (by decide);rw[Nat.pow_succ]
 lia
theorem xU(M:Nat):∀(k:Nat) (i:Nat),i<M+1->(lps M k (i,0)).1=(5^k*i+fiv k)%(M+1)
 | 0,i,h=>by rw[Nat.pow_zero,Nat.one_mul];show i=(i+0)%(M+1);rw[Nat.add_zero,Nat.mod_eq_of_lt h]
 |k+1,i,h=>by
  have e:lps M (k+1) (i,0)=lps M 1 (lps M k (i,0)):=mS M k 1 _;have q:=uv M k i 0;rw[Nat.zero_div]at q;have e2:lps M k (i,0)=((lps M k (i,0)).1,0):=Prod.ext rfl q;rw[e,e2,xU M k i h];show((5^k*i+fiv k)%(M+1)*5+1+0/32)%(M+1)=_;rw[kz,Nat.zero_div,Nat.add_zero,Nat.add_mod,Nat.mul_mod,Nat.mod_mod,<-Nat.mul_mod,<-Nat.add_mod];congr 1;rw[Nat.pow_succ];generalize 5^k=p;generalize fiv k=f;rw[Nat.add_mul,Nat.mul_right_comm,Nat.mul_comm f 5,Nat.add_assoc]
def Dj(M:Nat):Prop:=M=7\/M=31\/M=127
theorem B1:∀j,j<8->∃s,s<8/\fiv s%8=j:=by decide +kernel
theorem Ae:∀j,j<32->∃s,s<32/\fiv s%32=j:=by decide +kernel
theorem xD:∀j,j<128->∃s,s<128/\fiv s%128=j:=by decide +kernel
theorem B0{M:Nat}(h:Dj M):(∀j,j<M+1->∃s,s<M+1/\fiv s%(M+1)=j)/\fiv (M+1)%(M+1)=0/\5^(M+1)%(M+1)=1:=by
 rcases h with rfl|rfl|rfl
 ·exact⟨B1,by decide +kernel,by decide +kernel⟩
 ·exact⟨Ae,by decide +kernel,by decide +kernel⟩
 ·exact⟨xD,by decide +kernel,by decide +kernel⟩
theorem qO(a b:Nat):fiv (a+b)=5^b*fiv a+fiv b:=by
 induction b with
 |zero=>rw[Nat.pow_zero,Nat.one_mul];rfl
 |succ b ih=>
  rw[Nat.add_succ,kz,ih,kz,Nat.pow_succ];generalize 5^b=p;generalize fiv a=x;generalize fiv b=y;rw[Nat.mul_add,Nat.mul_comm p 5,Nat.mul_assoc,Nat.add_assoc]
theorem yD{M:Nat}(h:Dj M){i j:Nat}(hi:i<M+1)(hj:j<M+1):∃s,s<M+1/\(lps M s (i,0)).1=j:=by
 obtain⟨a,b,c⟩:=B0 h;obtain⟨si,h1,h2⟩:=a i hi;obtain⟨sj,h3,h4⟩:=a j hj;have key:∀s,(lps M s (i,0)).1=fiv (si+s)%(M+1):=fun s=>by
  rw[xU M s i hi,qO,<-h2,Nat.add_mod,Nat.mul_mod,Nat.mod_mod,<-Nat.mul_mod,<-Nat.add_mod]
 by_cases q:si<=sj
 ·exact⟨sj-si,by lia,by rw[key,show si+(sj-si)=sj by lia,h4]⟩
 ·refine⟨M+1+sj-si,by lia,?_⟩
  rw[key,show si+(M+1+sj-si)=(M+1)+sj by lia,qO,Nat.add_mod,Nat.mul_mod,b,Nat.mul_zero,Nat.zero_mod,Nat.zero_add,Nat.mod_mod,h4]
theorem xv(h:Int):SetTable.bits h<2^64:=by
 unfold SetTable.bits
 lia
theorem Ep{M:Nat}(h:Dj M)(x:Int){j:Nat}(hj:j<M+1):∃k,k<SetTable.turns M/\(lps M k (SetTable.bits x%(M+1),SetTable.bits x)).1=j:=by
 have lt:SetTable.bits x%(M+1)<M+1:=Nat.mod_lt _ (by lia);have q:=uv M 13 (SetTable.bits x%(M+1)) (SetTable.bits x);have z:SetTable.bits x/32^13=0:=Nat.div_eq_of_lt (Nat.lt_of_lt_of_le (xv x) (by decide));rw[z]at q;obtain⟨s,h1,h2⟩:=yD h (uw M 13 _ (SetTable.bits x) lt) hj;refine⟨13+s,by unfold SetTable.turns;lia,?_⟩;rw[mS];generalize lps M 13 (SetTable.bits x%(M+1),SetTable.bits x)=y at q h2;obtain⟨y1,y2⟩:=y;dsimp only at q h2;subst q;exact h2
theorem qL{α:Type}{xs:Array α}{p:Nat}{x:α}(hp:p<=xs.size)(i:Nat):(SetTable.insertAt xs p x)[i]? = if i<p then xs[i]? else if i=p then some x else xs[i-1]?:=by
 rw[<-Array.getElem?_toList,SetTable.toList_insertAt];have hl:(xs.toList.take p).length=p:=by rw[List.length_take,Array.length_toList];lia
 by_cases h1:i<p
 ·rw[if_pos h1,List.getElem?_append_left (by lia),List.getElem?_take_of_lt h1,Array.getElem?_toList]
 ·rw[if_neg h1,List.getElem?_append_right (by lia),hl]
  by_cases h2:i=p
  ·subst h2
   rw[if_pos rfl,Nat.sub_self,List.getElem?_cons_zero]
  ·rw[if_neg h2]
   obtain⟨k,rfl⟩:∃k,i=p+k+1:=⟨i-p-1,by lia⟩;rw[show p+k+1-p=k+1 by lia,List.getElem?_cons_succ,List.getElem?_drop,Array.getElem?_toList];rfl
end VL
namespace MA
open PySem
theorem lJ(x y:Int):Builtin.bitOr x y=2*Builtin.bitOr (x/2) (y/2)+(if x%2=0/\y%2=0 then 0 else 1):=by
 unfold Builtin.bitOr Builtin.bitNot;have h:=PySem.W.kbt_halves (-x-1) (-y-1);have hx:(-x-1)/2 = -(x/2)-1:=by lia
 have hy:(-y-1)/2 = -(y/2)-1:=by lia
 rw[hx,hy]at h;rw[h];by_cases c:x%2=0/\y%2=0
 ·rw[if_pos c,if_pos (by lia)];lia
 ·rw[if_neg c,if_neg (by lia)];lia
theorem nU(n:Nat):(0:Int)<2^n:=by
 induction n with
 |zero=>decide
 |succ n ih=>rw[Int.pow_succ];lia
theorem fI(x:Int)(n:Nat):x/2^(n+1)=x/2/2^n:=by
 rw[Int.pow_succ,Int.mul_comm,Int.ediv_ediv_of_nonneg (by decide)]
theorem dO(x:Int)(n:Nat):2^(n+1) ∣ x↔x%2=0/\2^n ∣ x/2:=by
 constructor
 ·rintro⟨c,rfl⟩
  rw[Int.pow_succ];refine⟨?_,c,?_⟩
  ·rw[Int.mul_comm (2^n) 2,Int.mul_assoc];lia
  ·rw[Int.mul_comm (2^n) 2,Int.mul_assoc,Int.mul_ediv_cancel_left _ (by decide)]
 ·rintro⟨h,c,hc⟩
  refine⟨c,?_⟩;rw[Int.pow_succ,Int.mul_comm (2^n) 2,Int.mul_assoc,<-hc]
  lia
theorem pH(n:Nat):∀x y:Int,(2^n ∣ Builtin.bitOr x y↔2^n ∣ x/\2^n ∣ y)/\(2^n ∣ Builtin.bitOr x y->Builtin.bitOr x y/2^n=Builtin.bitOr (x/2^n) (y/2^n)):=by
 induction n with
 |zero=>intro x y;simp
 |succ n ih=>
  intro x y;have h:=lJ x y;have hd:Builtin.bitOr x y/2=Builtin.bitOr (x/2) (y/2):=by rw[h];split<;>lia
  have hm:Builtin.bitOr x y%2=0↔x%2=0/\y%2=0:=by
   rw[h];by_cases c:x%2=0/\y%2=0
   ·rw[if_pos c];constructor
    ·intro _;exact c
    ·intro _;lia
   ·rw[if_neg c];constructor
    ·intro z;lia
    ·intro z;exact absurd z c
  obtain⟨i1,i2⟩:=ih (x/2) (y/2);constructor
  ·rw[dO,dO,dO,hd,hm,i1]
   constructor
   ·rintro⟨⟨a,b⟩,c,d⟩;exact⟨⟨a,c⟩,b,d⟩
   ·rintro⟨⟨a,c⟩,b,d⟩;exact⟨⟨a,b⟩,c,d⟩
  ·intro q
   rw[dO,hd]at q;rw[fI,fI,fI,hd,i2 q.2]
theorem tK:∀(n:Nat) (j:Int),j.natAbs<=n->j≠0->∃(t:Nat) (a:Int),j=2^t*(2*a+1)
 | 0,j,h,h0=>by lia
 |n+1,j,h,h0=>by
  by_cases c:j%2=0
  ·obtain⟨t,a,e⟩:=tK n (j/2) (by lia) (by lia)
   refine⟨t+1,a,?_⟩;rw[Int.pow_succ,Int.mul_comm (2^t) 2,Int.mul_assoc,<-e]
   lia
  ·exact⟨0,j/2,by simp;lia⟩
theorem vd(t:Nat):Builtin.Int.intBits (2^t)=t+1:=by
 unfold Builtin.Int.intBits;have h:(2:Int)^t≠0:=Int.ne_of_gt (nU t);have e:((2:Int)^t).natAbs=2^t:=by
  have:((2^t:Nat):Int)=(2:Int)^t:=by simp
  rw[<-this,Int.natAbs_natCast]
 rw[if_neg (by simpa using h),e,Nat.log2_two_pow]
noncomputable def vM(j most:Int):Int:=if j=0 then most else if(Builtin.Int.intBits (Builtin.bitAnd j (-j)):Int)-1<most then(Builtin.Int.intBits (Builtin.bitAnd j (-j)):Int)-1 else most
theorem rB(j most:Int)(hm:0<=most):∃t:Nat,vM j most=t/\(t:Int)<=most/\2^t ∣ j/\((t:Int)<most->¬j/2^t%2=0):=by
 unfold vM;by_cases h:j=0
 ·subst h
  refine⟨most.toNat,by rw[if_pos rfl];lia,by lia,Int.dvd_zero _,fun z=>by lia⟩
 ·obtain⟨t,a,e⟩:=tK _ j (Nat.le_refl _) h
  have hb:Builtin.Int.intBits (Builtin.bitAnd j (-j))=t+1:=by rw[e,PySem.W.kbt_low,vd]
  rw[if_neg h,hb];have q:((t+1:Nat):Int)-1=t:=by lia
  rw[q];by_cases c:(t:Int)<most
  ·refine⟨t,by rw[if_pos c],by lia,⟨_,e⟩,fun _=>?_⟩
   rw[e,Int.mul_ediv_cancel_left _ (Int.ne_of_gt (nU t))]
   lia
  ·refine⟨most.toNat,by rw[if_neg c];lia,by lia,?_,fun z=>by lia⟩
   refine Int.dvd_trans ?_ ⟨_,e⟩;have:t=most.toNat+(t-most.toNat):=by lia
   rw[this,Int.pow_add];exact Int.dvd_mul_right _ _
theorem jM{a:Int}{m:Nat}(h:a.natAbs<2^m):Builtin.Int.intBits a<=m:=by
 unfold Builtin.Int.intBits;split
 ·exact Nat.zero_le _
 ·rename_i h0
  have h0:a≠0:=by simpa using h0
  have:a.natAbs.log2<m:=(Nat.log2_lt (by lia)).mpr h
  lia
theorem uu{a b:Int}(m n:Nat)(ha:a.natAbs<2^m)(hb:b.natAbs<2^n)(h:m+n<=134217728):IntMulOk a b:=by
 have h1:=jM ha;have h2:=jM hb;have hc:Builtin.Int.intTooBig (Builtin.Int.intBits a+Builtin.Int.intBits b)=false:=by
  unfold Builtin.Int.intTooBig bitsLine;exact decide_eq_false (by lia)
 unfold IntMulOk;rw[hc];simp
structure Q4 where
 a:Int
 b:Int
 c:Int
 d:Int
namespace Q4
theorem ext'{x y:Q4}(h1:x.a=y.a)(h2:x.b=y.b)(h3:x.c=y.c)(h4:x.d=y.d):x=y:=by
 cases x;cases y;simp at h1 h2 h3 h4;subst h1 h2 h3 h4;rfl
noncomputable def add(x y:Q4):Q4:=⟨x.a+y.a,x.b+y.b,x.c+y.c,x.d+y.d⟩
noncomputable def rt(x:Q4):Q4:=⟨x.b-x.d,x.a+x.c,x.b+x.d,x.c-x.a⟩
noncomputable def dbl(n:Int)(x:Q4):Q4:=⟨x.a*n,x.b*n,x.c*n,x.d*n⟩
noncomputable def tn(x:Q4):Q4:=⟨-x.d,x.a,x.b,x.c⟩
noncomputable def rtn:Nat->Q4->Q4
 | 0,x=>x
 |n+1,x=>rtn n (rt x)
theorem rtn_add(m n:Nat)(x:Q4):rtn (m+n) x=rtn m (rtn n x):=by
 induction n generalizing x with
 |zero=>rfl
 |succ n ih=>exact ih (rt x)
theorem A1(x:Q4):rt (rt x)=dbl 2 x:=by
 apply ext'<;>simp[rt,dbl]<;>lia
theorem xh(m n:Int)(x:Q4):dbl m (dbl n x)=dbl (n*m) x:=by
 apply ext'<;>simp[dbl,Int.mul_assoc]
theorem rtn_two(t:Nat)(x:Q4):rtn (2*t) x=dbl (2^t) x:=by
 induction t generalizing x with
 |zero=>apply ext'<;>simp[rtn,dbl]
 |succ t ih=>
  have e:2*(t+1)=2*t+1+1:=by lia
  rw[e];show rtn (2*t) (rt (rt x))=_;rw[ih,A1,xh,Int.pow_succ,Int.mul_comm]
def Odd(x:Q4):Prop:=¬((x.a-x.c)%2=0/\(x.b-x.d)%2=0)
def Least(x:Q4)(k:Int):Prop:=0<=k/\(0<k->Odd x)
end Q4
theorem rE(a b c d most:Int)(hm:0<=most):∃t:Nat,vM (Builtin.bitOr (Builtin.bitOr (Builtin.bitOr a b) c) d) most=t/\(t:Int)<=most/\a=a/2^t*2^t/\b=b/2^t*2^t/\c=c/2^t*2^t/\d=d/2^t*2^t /\
  ((t:Int)<most->¬(a/2^t%2=0/\b/2^t%2=0/\c/2^t%2=0/\d/2^t%2=0)):=by
 obtain⟨t,e,h1,h2,h3⟩:=rB (Builtin.bitOr (Builtin.bitOr (Builtin.bitOr a b) c) d) most hm;have o1:=pH t (Builtin.bitOr (Builtin.bitOr a b) c) d;have d1:=o1.1.mp h2;have o2:=pH t (Builtin.bitOr a b) c;have d2:=o2.1.mp d1.1;have o3:=pH t a b;have d3:=o3.1.mp d2.1;refine⟨t,e,h1,(Int.ediv_mul_cancel d3.1).symm,(Int.ediv_mul_cancel d3.2).symm,(Int.ediv_mul_cancel d2.2).symm,(Int.ediv_mul_cancel d1.2).symm,fun z w=>h3 z ?_⟩
 have ev:∀x y:Int,x%2=0->y%2=0->Builtin.bitOr x y%2=0:=fun x y hx hy=>by
  rw[lJ,if_pos ⟨hx,hy⟩];lia
 rw[o1.2 h2,o2.2 d1.1,o3.2 d2.1];exact ev _ _ (ev _ _ (ev _ _ w.1 w.2.1) w.2.2.1) w.2.2.2
noncomputable def rZ(x:Q4)(k:Int):Q4×Int:=
 let t:=(vM (Builtin.bitOr (Builtin.bitOr (Builtin.bitOr x.a x.b) x.c) x.d) (k/2)).toNat
 let y:Q4:=⟨x.a/2^t,x.b/2^t,x.c/2^t,x.d/2^t⟩
 if k-2*t=0\/(y.a-y.c)%2=1\/(y.b-y.d)%2=1 then(y,k-2*t)else(⟨(y.b-y.d)/2,(y.a+y.c)/2,(y.b+y.d)/2,(y.c-y.a)/2⟩,k-2*t-1)
theorem pT{p q:Int}(h:(p-q)%2=0):(p+q)/2-(q-p)/2=p/\(p+q)/2+(q-p)/2=q:=by lia
theorem pS{p q:Int}(h:(p-q)%2=0):(p-q)/2+(p+q)/2=p/\(p+q)/2-(p-q)/2=q:=by lia
theorem yZ{x y:Int}(h:(x-y)%2=0)(k:y%2=0):x%2=0:=by lia
theorem wu{x y:Int}(h:(x-y)%2=0)(k:x%2=0):y%2=0:=by lia
theorem uj{a b c d:Int}(g1:(a-c)%2=0)(g2:(b-d)%2=0)(h:¬(a%2=0/\b%2=0/\c%2=0/\d%2=0)):Q4.Odd ⟨(b-d)/2,(a+c)/2,(b+d)/2,(c-a)/2⟩:=fun z=>by
 have z1:((b-d)/2-(b+d)/2)%2=0:=z.1;have z2:((a+c)/2-(c-a)/2)%2=0:=z.2;rw[(pT g1).1]at z2;have e:=(pS g2).2;have z3:d%2=0:=by lia
 exact h ⟨z2,yZ g2 z3,wu g1 z2,z3⟩
theorem ur(x:Q4)(k:Int)(hk:0<=k):Q4.Least (rZ x k).1 (rZ x k).2/\(rZ x k).2<=k/\Q4.rtn (k-(rZ x k).2).toNat (rZ x k).1=x:=by
 obtain⟨t,e,h1,ha,hb,hc,hd,h3⟩:=rE x.a x.b x.c x.d (k/2) (by lia);have l2:2*(t:Int)<=k:=by lia
 unfold rZ;simp only[e,Int.toNat_natCast];generalize x.a/2^t=a at *;generalize x.b/2^t=b at *;generalize x.c/2^t=c at *;generalize x.d/2^t=d at *;have e2:Q4.dbl (2^t) ⟨a,b,c,d⟩=x:=Q4.ext' ha.symm hb.symm hc.symm hd.symm;split
 ·rename_i h
  refine⟨⟨Int.sub_nonneg_of_le l2,fun z=>?_⟩,Int.sub_le_self _ (by lia),?_⟩
  ·rcases h with h|h|h
   ·exact absurd h (Int.ne_of_gt z)
   ·exact fun w=>absurd (h.symm.trans w.1) (by decide)
   ·exact fun w=>absurd (h.symm.trans w.2) (by decide)
  ·have:(k-(k-2*(t:Int))).toNat=2*t:=by lia
   simp only[this];rw[Q4.rtn_two,e2]
 ·rename_i h
  have g0:k-2*(t:Int)≠0:=fun z=>h (.inl z)
  have g1:(a-c)%2=0:=(Int.emod_two_eq (a-c)).resolve_right fun z=>h (.inr (.inl z))
  have g2:(b-d)%2=0:=(Int.emod_two_eq (b-d)).resolve_right fun z=>h (.inr (.inr z))
  refine⟨⟨(by lia:0<=k-2*(t:Int)-1),fun z=>uj g1 g2 (h3 ?_)⟩,(by lia:k-2*(t:Int)-1<=k),?_⟩
  ·have z:0<k-2*(t:Int)-1:=z
   lia
  ·have:(k-(k-2*(t:Int)-1)).toNat=2*t+1:=by lia
   simp only[this];show Q4.rtn (2*t) (Q4.rt _)=x;rw[Q4.rtn_two];have e3:Q4.rt ⟨(b-d)/2,(a+c)/2,(b+d)/2,(c-a)/2⟩=⟨a,b,c,d⟩:=Q4.ext' (pT g1).1 (pS g2).1 (pT g1).2 (pS g2).2;rw[e3,e2]
noncomputable def xP(x:Q4)(c:Int)(y:Q4)(d:Int):Q4×Int:=rZ (Q4.add (Q4.rtn (max c d-c).toNat x) (Q4.rtn (max c d-d).toNat y)) (max c d)
noncomputable def El:Nat->Q4->Q4
 | 0,x=>x
 |n+1,x=>Q4.tn (El n x)
structure S2 where
 p:Int
 q:Int
namespace S2
end S2
abbrev Nu:=Q4×Nat
inductive Row where
 |swing (j:Nat)|turn (j:Nat) (e:Nat)|flip (j:Nat)|tie (i j:Nat)|sign (i j:Nat)|cross (i j:Nat)
noncomputable def xQ(u v:Nu):Nu:=((xP u.1 u.2 v.1 v.2).1,(xP u.1 u.2 v.1 v.2).2.toNat)
noncomputable def x9(u:Nu):Nu:=((rZ u.1 ((u.2+1:Nat):Int)).1,(rZ u.1 ((u.2+1:Nat):Int)).2.toNat)
noncomputable def s9(e:Nat)(u:Nu):Nu:=(El (e%8) u.1,u.2)
noncomputable def wt(n j:Nat):Nat:=2^(n-1-j)
noncomputable def ar(w p:Nat):Nat:=p/w%2
noncomputable def jL(w p:Nat):Nat:=if ar w p=0 then p+w else p-w
noncomputable def oN(n:Nat):Row->Nat->Nat
 |.flip j,p=>jL (wt n j) p
 |.tie i j,p=>if ar (wt n i) p=0 then p else jL (wt n j) p
 |.cross i j,p=>if ar (wt n i) p=ar (wt n j) p then p else jL (wt n j) (jL (wt n i) p)
 |_,p=>p
noncomputable def zU(n:Nat)(f:Nat->Nu):Row->Nat->Nu
 |.swing j,p=>if ar (wt n j) p=0 then x9 (xQ (f p) (f (p+wt n j)))else x9 (xQ (f (p-wt n j)) (s9 4 (f p)))
 |.turn j e,p=>s9 (e*ar (wt n j) p) (f p)
 |.sign i j,p=>s9 (4*ar (wt n i) p*ar (wt n j) p) (f p)
 |r,p=>f (oN n r p)
def Row.ok(n:Nat):Row->Prop
 |.swing j=>j<n
 |.turn j e=>j<n/\1<=e/\e<=7
 |.flip j=>j<n
 |.tie i j=>i<n/\j<n/\i≠j
 |.sign i j=>i<n/\j<n/\i≠j
 |.cross i j=>i<n/\j<n/\i≠j
theorem dD(n j:Nat):0<wt n j:=Nat.pow_pos (by decide)
theorem AB{n j:Nat}(h:j<n):2*wt n j<=2^n:=by
 unfold wt;rw[show 2*2^(n-1-j)=2^(n-1-j+1) by rw[Nat.pow_succ,Nat.mul_comm]];exact Nat.pow_le_pow_right (by decide) (by lia)
theorem d7(w p:Nat):ar w p<2:=Nat.mod_lt _ (by decide)
theorem md(w p:Nat)(hw:0<w):∃q r,p=(2*q+ar w p)*w+r/\r<w:=by
 refine⟨p/w/2,p%w,?_,Nat.mod_lt _ hw⟩;unfold ar;rw[Nat.div_add_mod,Nat.div_add_mod']
theorem z8{w q b r:Nat}(hb:b<2)(hr:r<w):ar w ((2*q+b)*w+r)=b:=by
 unfold ar;rw[Nat.mul_comm,Nat.mul_add_div (by lia),Nat.div_eq_of_lt hr]
 lia
theorem xz{w p:Nat}(hw:0<w)(h:ar w p=1):w<=p:=by
 obtain⟨q,r,e,_⟩:=md w p hw;rw[h]at e;have:(2*q+1)*w=2*q*w+w:=by rw[Nat.add_mul,Nat.one_mul]
 lia
theorem w9{w p:Nat}(hw:0<w):jL w p/(2*w)=p/(2*w):=by
 obtain⟨q,r,e,hr⟩:=md w p hw;have h2:=d7 w p;have e1:(2*q+ar w p)*w=2*w*q+ar w p*w:=by rw[Nat.add_mul,Nat.mul_right_comm]
 have one:∀x,x<2*w->(2*w*q+x)/(2*w)=q:=fun x hx=>by rw[Nat.mul_add_div (by lia),Nat.div_eq_of_lt hx,Nat.add_zero]
 unfold jL;split
 ·rename_i h
  rw[h]at e e1;have a:=one (r+w) (by lia);have b:=one r (by lia);rw[show p+w=2*w*q+(r+w) by lia,a,show p=2*w*q+r by lia,b]
 ·rename_i h
  have h1:ar w p=1:=by lia
  rw[h1]at e e1;have a:=one (r+w) (by lia);have b:=one r (by lia);rw[show p-w=2*w*q+r by lia,b,show p=2*w*q+(r+w) by lia,a]
theorem mf(x p m:Nat)(hx:0<x):ar x (p+2*x*m)=ar x p:=by
 unfold ar;rw[show p+2*x*m=p+x*(2*m) by rw[Nat.mul_comm 2 x,Nat.mul_assoc],Nat.add_mul_div_left _ _ hx]
 lia
theorem xy{n i j p:Nat}(hi:i<n)(hj:j<n)(hij:i≠j):ar (wt n j) (jL (wt n i) p)=ar (wt n j) p:=by
 have hw:=dD n i;by_cases h:j<i
 ·
  have e:wt n j=2*wt n i*2^(i-j-1):=by
   unfold wt;rw[show 2*2^(n-1-i)=2^(n-1-i+1) by rw[Nat.pow_succ,Nat.mul_comm],<-Nat.pow_add];congr 1;lia
  unfold ar;rw[e,<-Nat.div_div_eq_div_mul (jL (wt n i) p) (2*wt n i),<-Nat.div_div_eq_div_mul p (2*wt n i),w9 hw]
 ·have e:wt n i=2*wt n j*2^(j-i-1):=by
   unfold wt;rw[show 2*2^(n-1-j)=2^(n-1-j+1) by rw[Nat.pow_succ,Nat.mul_comm],<-Nat.pow_add];congr 1;lia
  unfold jL;split
  ·rw[e];exact mf _ _ _ (dD n j)
  ·rename_i hb
   have h2:=d7 (wt n i) p;have:=xz (w:=wt n i) (p:=p) hw (by lia);have:=mf (wt n j) (p-wt n i) (2^(j-i-1)) (dD n j);rw[<-this,<-e,Nat.sub_add_cancel (by assumption)]
theorem nh(a b:Nat):Builtin.bitAnd (a:Int) (b:Int)=((a &&& b:Nat):Int):=by
 unfold Builtin.bitAnd;simp
theorem rF{x y z:Nat}(h:x/2=y/2+z/2)(m:x%2=y%2+z%2):x=y+z:=by lia
theorem r8{u v w:Nat}{p q:Prop}(hu:u<2)(hv:v<2)(hw:w<2)(m1:u=1↔p\/q)(m2:v=1 ↔ ¬(p↔q))(m3:w=1↔p/\q):u=v+w:=by
 have z:∀{x:Nat},x<2->¬x=1->x=0:=fun h k=>by lia
 by_cases a:p<;>by_cases b:q
 ·rw[m1.mpr (.inl a),m3.mpr ⟨a,b⟩,z hv fun e=>m2.mp e ⟨fun _=>b,fun _=>a⟩]
 ·rw[m1.mpr (.inl a),m2.mpr fun e=>b (e.mp a),z hw fun e=>b (m3.mp e).2]
 ·rw[m1.mpr (.inr b),m2.mpr fun e=>a (e.mpr b),z hw fun e=>a (m3.mp e).1]
 ·rw[z hu fun e=>(m1.mp e).elim a b,z hv fun e=>m2.mp e ⟨fun c=>absurd c a,fun c=>absurd c b⟩,z hw fun e=>a (m3.mp e).1]
theorem kM:∀(k a b:Nat),a<2^k->b<2^k->(a ||| b)=(a ^^^ b)+(a &&& b)
 | 0,a,b,ha,hb=>by
  have:a=0:=by simpa using ha
  have:b=0:=by simpa using hb
  subst a;subst b;rfl
 |k+1,a,b,ha,hb=>by
  have ih:=kM k (a/2) (b/2) (by rw[Nat.pow_succ]at ha;lia) (by rw[Nat.pow_succ]at hb;lia);have h1:=@Nat.or_div_two a b;have h2:=@Nat.xor_div_two a b;have h3:=@Nat.and_div_two a b;have m1:=@Nat.or_mod_two_eq_one a b;have m2:=@Nat.xor_mod_two_eq_one a b;have m3:=@Nat.and_mod_two_eq_one a b;rw[<-h1,<-h2,<-h3]at ih;exact rF ih (r8 (Nat.mod_lt _ (by decide)) (Nat.mod_lt _ (by decide)) (Nat.mod_lt _ (by decide)) m1 m2 m3)
theorem Ct(a b:Nat):Builtin.bitOr (a:Int) (b:Int)=((a ||| b:Nat):Int):=by
 have h1:¬(0:Int)<=Builtin.bitNot (a:Int):=by unfold Builtin.bitNot;lia
 have h2:¬(0:Int)<=Builtin.bitNot (b:Int):=by unfold Builtin.bitNot;lia
 have e1:(Builtin.bitNot (Builtin.bitNot (a:Int))).toNat=a:=by unfold Builtin.bitNot;lia
 have e2:(Builtin.bitNot (Builtin.bitNot (b:Int))).toNat=b:=by unfold Builtin.bitNot;lia
 unfold Builtin.bitOr Builtin.bitAnd;rw[decide_eq_false h1,decide_eq_false h2];dsimp only;rw[e1,e2];unfold Builtin.bitNot
 lia
theorem g9(a b:Nat):Builtin.bitXor (a:Int) (b:Int)=((a ^^^ b:Nat):Int):=by
 unfold Builtin.bitXor;rw[Ct,nh];have h:∀n:Nat,n<2^n:=fun n=>Nat.lt_two_pow_self
 have:=kM (max a b) a b (Nat.lt_of_lt_of_le (h a) (Nat.pow_le_pow_right (by decide) (by lia))) (Nat.lt_of_lt_of_le (h b) (Nat.pow_le_pow_right (by decide) (by lia)))
 lia
noncomputable def lY(n:Nat):Nat:=if n=0 then 0 else n%2+lY (n/2)
termination_by n
decreasing_by lia
theorem fg:lY 0=0:=by unfold lY;simp
theorem bQ(n:Nat):lY n=n%2+lY (n/2):=by
 by_cases h:n=0
 ·subst h;simp[fg]
 ·rw[lY,if_neg h]
theorem uW:∀(k n:Nat),n<2^k->lY n<=k
 | 0,n,h=>by
  have:n=0:=by simpa using h
  subst this;rw[fg];lia
 |k+1,n,h=>by
  have:=uW k (n/2) (by rw[Nat.pow_succ]at h;lia);rw[bQ];lia
theorem lX:∀(k a b:Nat),a<2^k->b<2^k->lY (a ^^^ b)%2=(lY a+lY b)%2
 | 0,a,b,ha,hb=>by
  have:a=0:=by simpa using ha
  have:b=0:=by simpa using hb
  subst a;subst b;simp[fg]
 |k+1,a,b,ha,hb=>by
  have ih:=lX k (a/2) (b/2) (by rw[Nat.pow_succ]at ha;lia) (by rw[Nat.pow_succ]at hb;lia);have h2:=@Nat.xor_div_two a b;have m2:=@Nat.xor_mod_two_eq_one a b;rw[bQ (a ^^^ b),bQ a,bQ b,h2]
  lia
theorem oA(a b:Nat):∃k,a<2^k/\b<2^k:=by
 have h:∀n:Nat,n<2^n:=fun n=>Nat.lt_two_pow_self
 exact⟨max a b,Nat.lt_of_lt_of_le (h a) (Nat.pow_le_pow_right (by decide) (by lia)),Nat.lt_of_lt_of_le (h b) (Nat.pow_le_pow_right (by decide) (by lia))⟩
theorem xk(a b:Nat):lY (a ^^^ b)%2=(lY a+lY b)%2:=by
 obtain⟨k,h1,h2⟩:=oA a b;exact lX k a b h1 h2
theorem iZ:∀(k n:Nat),n<2^k->n≠0->lY (n &&& (n-1))+1=lY n
 | 0,n,h,h0=>by
  have:n=0:=by simpa using h
  exact absurd this h0
 |k+1,n,h,h0=>by
  have h3:=@Nat.and_div_two n (n-1);have m3:=@Nat.and_mod_two_eq_one n (n-1);rw[bQ (n &&& (n-1)),bQ n,h3];by_cases o:n%2=1
  ·have e:(n-1)/2=n/2:=by lia
   rw[e,Nat.and_self]
   lia
  ·have ih:=iZ k (n/2) (by rw[Nat.pow_succ]at h;lia) (by lia)
   have e:(n-1)/2=n/2-1:=by lia
   rw[e]
   lia
noncomputable def par(n:Nat):Nat:=lY n%2
theorem cu(n:Nat):par n<2:=Nat.mod_lt _ (by decide)
theorem ii(a b:Nat):par (a ^^^ b)=(par a+par b)%2:=by
 unfold par;rw[xk];lia
theorem bE:par 0=0:=by unfold par;rw[fg]
theorem j5{n:Nat}(h:n<64):par n=(n%2+n/2%2+n/4%2+n/8%2+n/16%2+n/32%2)%2:=by
 unfold par;rw[bQ n,bQ (n/2),bQ (n/2/2),bQ (n/2/2/2),bQ (n/2/2/2/2),bQ (n/2/2/2/2/2),show n/2/2/2/2/2/2=0 by lia,fg];simp only[Nat.div_div_eq_div_mul]
 lia
structure Wd where
 x:Nat
 z:Nat
 s:Nat
def Wd.ok(n:Nat)(w:Wd):Prop:=w.x<2^n/\w.z<2^n/\w.s<4
noncomputable def au(u v:Wd):Wd:=⟨u.x ^^^ v.x,u.z ^^^ v.z,(u.s+v.s+2*par (u.z &&& v.x))%4⟩
theorem aS{n:Nat}{u v:Wd}(hu:u.ok n)(hv:v.ok n):(au u v).ok n:=⟨Nat.xor_lt_two_pow hu.1 hv.1,Nat.xor_lt_two_pow hu.2.1 hv.2.1,Nat.mod_lt _ (by decide)⟩
def Sh(k:Nat)(d:PyData):Prop:=d.canLay0=true/\d.depth<=k
theorem Sh.int(k:Nat)(i:Int):Sh k (.int i):=⟨by simp[PyData.canLay0],by simp[PyData.depth]⟩
theorem Sh.all{k:Nat}:∀(xs:List PyData),(∀x∈xs,Sh k x)->PyData.canLayAll0 xs=true/\PyData.depthAll xs<=k
 |[],_=>⟨by simp[PyData.canLayAll0],by simp[PyData.depthAll]⟩
 |x::xs,h=>by
  obtain⟨a,b⟩:=Sh.all xs fun y hy=>h y (List.mem_cons_of_mem _ hy)
  obtain⟨c,d⟩:=h x List.mem_cons_self;refine⟨by simp[PyData.canLayAll0,a,c],?_⟩;simp only[PyData.depthAll]
  lia
theorem Sh.tuple{k:Nat}{xs:List PyData}(h:∀x∈xs,Sh k x):Sh (k+1) (.tuple xs):=by
 obtain⟨a,b⟩:=Sh.all xs h;exact⟨by simp[PyData.canLay0,a],by simp only[PyData.depth];lia⟩
theorem Sh.list{k:Nat}{xs:List PyData}(h:∀x∈xs,Sh k x):Sh (k+1) (.list xs):=by
 obtain⟨a,b⟩:=Sh.all xs h;exact⟨by simp[PyData.canLay0,a],by simp only[PyData.depth];lia⟩
theorem Ci(x:Q4)(k M:Nat)(h:k<=M):Q4.rtn (M-(rZ x k).2.toNat) (rZ x k).1=Q4.rtn (M-k) x:=by
 obtain⟨s1,s2,s3⟩:=ur x k (by lia);have h0:=s1.1;have e:M-(rZ x (k:Int)).2.toNat=(M-k)+((k:Int)-(rZ x (k:Int)).2).toNat:=by lia
 rw[e,Q4.rtn_add,s3]
noncomputable def tI:Nat->(Nat->Int)->Int
 | 0,_=>0
 |n+1,F=>tI n F+F n
theorem pC{F G:Nat->Int}:∀(n:Nat),(∀p,p<n->F p=G p)->tI n F=tI n G
 | 0,_=>rfl
 |n+1,h=>by
  show tI n F+F n=tI n G+G n;rw[pC n fun p hp=>h p (by lia),h n (by lia)]
theorem CH:((List.range 6).all fun k=>(List.range 64).all fun p=>p &&& 2^k==2^k*ar (2^k) p)=true:=by decide +kernel
theorem jf{n i a:Nat}(hn:n<=6)(hi:i<n)(ha:a<2^n):a &&& wt n i=wt n i*ar (wt n i) a:=by
 have h:=CH;rw[List.all_eq_true]at h;have h:=h (n-1-i) (List.mem_range.mpr (by lia));rw[List.all_eq_true]at h;have h:=h a (List.mem_range.mpr (Nat.lt_of_lt_of_le ha (Nat.pow_le_pow_right (by decide) hn:2^n<=2^6)));exact beq_iff_eq.mp h
theorem wq:∀k,k<6->par (2^k)=1
 | 0,_=>by rw[j5 (by decide)]
 | 1,_=>by rw[j5 (by decide)]
 | 2,_=>by rw[j5 (by decide)]
 | 3,_=>by rw[j5 (by decide)]
 | 4,_=>by rw[j5 (by decide)]
 | 5,_=>by rw[j5 (by decide)]
 |k+6,h=>by lia
theorem qi(a b:Nat):∀k,(a ^^^ b)/2^k=a/2^k ^^^ b/2^k
 | 0=>by simp
 |k+1=>by
  rw[Nat.pow_succ,<-Nat.div_div_eq_div_mul,<-Nat.div_div_eq_div_mul,<-Nat.div_div_eq_div_mul,qi a b k,Nat.xor_div_two]
theorem aV(n i a b:Nat):ar (wt n i) (a ^^^ b)=(ar (wt n i) a+ar (wt n i) b)%2:=by
 unfold ar wt;rw[qi];have:=@Nat.xor_mod_two_eq_one (a/2^(n-1-i)) (b/2^(n-1-i))
 lia
theorem gu(w:Nat):ar w 0=0:=by unfold ar;simp
theorem jd{n i:Nat}(e:Nat)(he:e<2):ar (wt n i) (wt n i*e)=e:=by
 have:=z8 (w:=wt n i) (q:=0) (b:=e) (r:=0) he (dD n i);rw[show(2*0+e)*wt n i+0=wt n i*e by rw[Nat.mul_zero,Nat.zero_add,Nat.add_zero,Nat.mul_comm]]at this;exact this
theorem hE{n i j:Nat}(hi:i<n)(hj:j<n)(hij:i≠j)(e:Nat)(he:e<2):ar (wt n i) (wt n j*e)=0:=by
 have h:e=0\/e=1:=by lia
 rcases h with rfl|rfl
 ·rw[Nat.mul_zero,gu]
 ·have:=xy (p:=0) hj hi (Ne.symm hij)
  rw[show jL (wt n j) 0=wt n j by unfold jL;rw[if_pos (gu _),Nat.zero_add],gu]at this;rw[Nat.mul_one];exact this
theorem cr{n i z:Nat}(hn:n<=6)(hi:i<n)(hz:z<2^n)(e:Nat)(he:e<2):par ((wt n i*e) &&& z)=e*ar (wt n i) z:=by
 have h:e=0\/e=1:=by lia
 have hb:=d7 (wt n i) z;rcases h with rfl|rfl
 ·rw[Nat.mul_zero,Nat.zero_and,bE,Nat.zero_mul]
 ·rw[Nat.mul_one,Nat.and_comm,jf hn hi hz,Nat.one_mul]
  have h2:ar (wt n i) z=0\/ar (wt n i) z=1:=by lia
  rcases h2 with h2|h2
  ·rw[h2,Nat.mul_zero,bE]
  ·rw[h2,Nat.mul_one];exact wq _ (by lia)
theorem ij(a b c:Nat):par ((a ^^^ b) &&& c)=(par (a &&& c)+par (b &&& c))%2:=by rw[Nat.and_xor_distrib_right,ii]
theorem gL(a b c:Nat):par (a &&& (b ^^^ c))=(par (a &&& b)+par (a &&& c))%2:=by rw[Nat.and_xor_distrib_left,ii]
theorem j4{n i z:Nat}(hn:n<=6)(hi:i<n)(hz:z<2^n)(e:Nat)(he:e<2):par (z &&& (wt n i*e))=e*ar (wt n i) z:=by rw[Nat.and_comm];exact cr hn hi hz e he
theorem w_lt{n i:Nat}(hi:i<n)(e:Nat)(he:e<2):wt n i*e<2^n:=by
 have h:=AB hi;have h0:=dD n i;have:e=0\/e=1:=by lia
 rcases this with rfl|rfl
 ·have:0<2^n:=Nat.pow_pos (by decide)
  lia
 ·lia
theorem jP(w a b:Nat)(ha:a<2)(hb:b<2):w*((a+b)%2)=w*a ^^^ w*b:=by
 have h1:a=0\/a=1:=by lia
 have h2:b=0\/b=1:=by lia
 rcases h1 with rfl|rfl<;>rcases h2 with rfl|rfl<;>simp
noncomputable def carry(n:Nat):Row->Wd->Wd
 |.swing j,u=>⟨u.x ^^^ wt n j*((ar (wt n j) u.x+ar (wt n j) u.z)%2),u.z ^^^ wt n j*((ar (wt n j) u.x+ar (wt n j) u.z)%2),(u.s+2*(ar (wt n j) u.x*ar (wt n j) u.z))%4⟩
 |.turn j e,u=>⟨u.x,u.z ^^^ wt n j*(ar (wt n j) u.x*(if e%4=2 then 1 else 0)),(u.s+(e/2)*ar (wt n j) u.x)%4⟩
 |.flip j,u=>⟨u.x,u.z,(u.s+2*ar (wt n j) u.z)%4⟩
 |.tie i j,u=>⟨u.x ^^^ wt n j*ar (wt n i) u.x,u.z ^^^ wt n i*ar (wt n j) u.z,u.s⟩
 |.sign i j,u=>⟨u.x,u.z ^^^ wt n j*ar (wt n i) u.x ^^^ wt n i*ar (wt n j) u.x,(u.s+2*(ar (wt n i) u.x*ar (wt n j) u.x))%4⟩
 |.cross i j,u=>⟨u.x ^^^ (wt n i*((ar (wt n i) u.x+ar (wt n j) u.x)%2) ^^^ wt n j*((ar (wt n i) u.x+ar (wt n j) u.x)%2)),u.z ^^^ (wt n i*((ar (wt n i) u.z+ar (wt n j) u.z)%2) ^^^ wt n j*((ar (wt n i) u.z+ar (wt n j) u.z)%2)),u.s⟩
def vp(n:Nat):Row->Wd->Prop
 |.turn j e,u=>e%2=0\/ar (wt n j) u.x=0
 |_,_=>True
theorem gq{n:Nat}{r:Row}(hr:r.ok n){u:Wd}(hu:u.ok n):(carry n r u).ok n:=by
 obtain⟨h1,h2,h3⟩:=hu;have m:∀a:Nat,a%2<2:=fun a=>Nat.mod_lt _ (by decide)
 have m4:∀a:Nat,a%4<4:=fun a=>Nat.mod_lt _ (by decide)
 have b:∀w p,ar w p<2:=d7;have bc:∀w p (c:Nat),c<2->ar w p*c<2:=fun w p c hc=>by
  have h:=b w p;have h1:ar w p=0\/ar w p=1:=by lia
  rcases h1 with h1|h1<;>rw[h1]<;>lia
 cases r with
 |swing j=>exact⟨Nat.xor_lt_two_pow h1 (w_lt hr _ (m _)),Nat.xor_lt_two_pow h2 (w_lt hr _ (m _)),m4 _⟩
 |turn j e=>exact⟨h1,Nat.xor_lt_two_pow h2 (w_lt hr.1 _ (bc _ _ _ (by split<;>decide))),m4 _⟩
 |flip j=>exact⟨h1,h2,m4 _⟩
 |tie i j=>exact⟨Nat.xor_lt_two_pow h1 (w_lt hr.2.1 _ (b _ _)),Nat.xor_lt_two_pow h2 (w_lt hr.1 _ (b _ _)),h3⟩
 |sign i j=>exact⟨h1,Nat.xor_lt_two_pow (Nat.xor_lt_two_pow h2 (w_lt hr.2.1 _ (b _ _))) (w_lt hr.1 _ (b _ _)),m4 _⟩
 |cross i j=>exact⟨Nat.xor_lt_two_pow h1 (Nat.xor_lt_two_pow (w_lt hr.1 _ (m _)) (w_lt hr.2.1 _ (m _))),Nat.xor_lt_two_pow h2 (Nat.xor_lt_two_pow (w_lt hr.1 _ (m _)) (w_lt hr.2.1 _ (m _))),h3⟩
theorem cb{u v:Wd}(h1:u.x=v.x)(h2:u.z=v.z)(h3:u.s=v.s):u=v:=by
 cases u;cases v;simp_all
theorem ud{n i z x:Nat}(hn:n<=6)(hi:i<n)(hz:z<2^n)(hx:x<2^n)(a c:Nat)(ha:a<2)(hc:c<2):par ((z ^^^ wt n i*a) &&& (x ^^^ wt n i*c))=(par (z &&& x)+c*ar (wt n i) z+a*ar (wt n i) x+a*c)%2:=by
 rw[ij,gL,gL,j4 hn hi hz c hc,cr hn hi hx a ha,cr hn hi (w_lt hi c hc) a ha,jd c hc]
 lia
theorem nY{n i j z x:Nat}(hn:n<=6)(hi:i<n)(hj:j<n)(hij:i≠j)(hz:z<2^n)(hx:x<2^n)(a b c d:Nat)(ha:a<2)(hb:b<2)(hc:c<2)(hd:d<2):par ((z ^^^ (wt n i*a ^^^ wt n j*b)) &&& (x ^^^ (wt n i*c ^^^ wt n j*d)))=(par (z &&& x)+c*ar (wt n i) z+d*ar (wt n j) z+a*ar (wt n i) x+b*ar (wt n j) x+a*c+b*d)%2:=by
 rw[ij,gL,gL z,j4 hn hi hz c hc,j4 hn hj hz d hd,ij (wt n i*a),gL (wt n i*a),gL (wt n j*b),cr hn hi hx a ha,cr hn hj hx b hb,gL (wt n i*a),gL (wt n j*b),cr hn hi (w_lt hi c hc) a ha,cr hn hi (w_lt hj d hd) a ha,cr hn hj (w_lt hi c hc) b hb,cr hn hj (w_lt hj d hd) b hb,jd c hc,jd d hd,hE hi hj hij d hd,hE hj hi (Ne.symm hij) c hc]
 lia
theorem b01(w p:Nat):ar w p=0\/ar w p=1:=by have:=d7 w p;lia
theorem zero_xor(a:Nat):0 ^^^ a=a:=Nat.zero_xor a
theorem i0{n:Nat}(hn:n<=6){r:Row}(hr:r.ok n){u v:Wd}(hu:u.ok n)(hv:v.ok n)(lu:vp n r u)(lv:vp n r v):carry n r (au u v)=au (carry n r u) (carry n r v):=by
 have m:∀a:Nat,a%2<2:=fun a=>Nat.mod_lt _ (by decide)
 have b:∀w p,ar w p<2:=d7;cases r with
 |swing j=>
  have e1:wt n j*((ar (wt n j) (u.x ^^^ v.x)+ar (wt n j) (u.z ^^^ v.z))%2)=wt n j*((ar (wt n j) u.x+ar (wt n j) u.z)%2) ^^^ wt n j*((ar (wt n j) v.x+ar (wt n j) v.z)%2):=by
   rw[<-jP _ _ _ (m _) (m _),aV,aV];congr 1
   lia
  apply cb
  ·show(u.x ^^^ v.x) ^^^ wt n j*((ar (wt n j) (u.x ^^^ v.x)+ar (wt n j) (u.z ^^^ v.z))%2)=(u.x ^^^ _) ^^^ (v.x ^^^ _)
   rw[e1];ac_rfl
  ·show(u.z ^^^ v.z) ^^^ wt n j*((ar (wt n j) (u.x ^^^ v.x)+ar (wt n j) (u.z ^^^ v.z))%2)=(u.z ^^^ _) ^^^ (v.z ^^^ _)
   rw[e1];ac_rfl
  ·show((u.s+v.s+2*par (u.z &&& v.x))%4+2*(ar (wt n j) (u.x ^^^ v.x)*ar (wt n j) (u.z ^^^ v.z)))%4=((u.s+2*(ar (wt n j) u.x*ar (wt n j) u.z))%4+(v.s+2*(ar (wt n j) v.x*ar (wt n j) v.z))%4+2*par ((u.z ^^^ wt n j*((ar (wt n j) u.x+ar (wt n j) u.z)%2)) &&& (v.x ^^^ wt n j*((ar (wt n j) v.x+ar (wt n j) v.z)%2))))%4
   rw[ud hn hr hu.2.1 hv.1 _ _ (m _) (m _),aV,aV];generalize par (u.z &&& v.x)=P;rcases b01 (wt n j) u.x with h1|h1<;>rcases b01 (wt n j) u.z with h2|h2<;>rcases b01 (wt n j) v.x with h3|h3<;>rcases b01 (wt n j) v.z with h4|h4<;>rw[h1,h2,h3,h4]<;>lia
 |turn j e=>
  have k:(if e%4=2 then 1 else 0:Nat)<2:=by split<;>decide
  have lt:∀w:Wd,ar (wt n j) w.x*(if e%4=2 then 1 else 0)<2:=fun w=>by rcases b01 (wt n j) w.x with h|h<;>rw[h]<;>lia
  have e1:wt n j*(ar (wt n j) (u.x ^^^ v.x)*(if e%4=2 then 1 else 0))=wt n j*(ar (wt n j) u.x*(if e%4=2 then 1 else 0)) ^^^ wt n j*(ar (wt n j) v.x*(if e%4=2 then 1 else 0)):=by
   rw[<-jP _ _ _ (lt u) (lt v),aV];congr 1;rcases b01 (wt n j) u.x with h1|h1<;>rcases b01 (wt n j) v.x with h2|h2<;>rw[h1,h2]<;>split<;>rfl
  apply cb
  ·rfl
  ·show(u.z ^^^ v.z) ^^^ wt n j*(ar (wt n j) (u.x ^^^ v.x)*_)=(u.z ^^^ _) ^^^ (v.z ^^^ _)
   rw[e1];ac_rfl
  ·show((u.s+v.s+2*par (u.z &&& v.x))%4+(e/2)*ar (wt n j) (u.x ^^^ v.x))%4=((u.s+(e/2)*ar (wt n j) u.x)%4+(v.s+(e/2)*ar (wt n j) v.x)%4+2*par ((u.z ^^^ wt n j*(ar (wt n j) u.x*(if e%4=2 then 1 else 0))) &&& v.x))%4
   rw[ij,cr hn hr.1 hv.1 _ (lt u),aV];generalize par (u.z &&& v.x)=P;have lu:e%2=0\/ar (wt n j) u.x=0:=lu;have lv:e%2=0\/ar (wt n j) v.x=0:=lv;rcases b01 (wt n j) u.x with h1|h1<;>rcases b01 (wt n j) v.x with h2|h2<;>rw[h1]at lu<;>rw[h2]at lv<;>rw[h1,h2]<;>split<;>lia
 |flip j=>
  apply cb
  ·rfl
  ·rfl
  ·show((u.s+v.s+2*par (u.z &&& v.x))%4+2*ar (wt n j) (u.z ^^^ v.z))%4=((u.s+2*ar (wt n j) u.z)%4+(v.s+2*ar (wt n j) v.z)%4+2*par (u.z &&& v.x))%4
   rw[aV]
   lia
 |tie i j=>
  obtain⟨hi,hj,hij⟩:=hr;apply cb
  ·show(u.x ^^^ v.x) ^^^ wt n j*ar (wt n i) (u.x ^^^ v.x)=(u.x ^^^ _) ^^^ (v.x ^^^ _)
   rw[aV,jP _ _ _ (b _ _) (b _ _)];ac_rfl
  ·show(u.z ^^^ v.z) ^^^ wt n i*ar (wt n j) (u.z ^^^ v.z)=(u.z ^^^ _) ^^^ (v.z ^^^ _)
   rw[aV,jP _ _ _ (b _ _) (b _ _)];ac_rfl
  ·show(u.s+v.s+2*par (u.z &&& v.x))%4=(u.s+v.s+2*par ((u.z ^^^ wt n i*ar (wt n j) u.z) &&& (v.x ^^^ wt n j*ar (wt n i) v.x)))%4
   have:=nY hn hi hj hij hu.2.1 hv.1 (ar (wt n j) u.z) 0 0 (ar (wt n i) v.x) (b _ _) (by decide) (by decide) (b _ _);rw[Nat.mul_zero,Nat.mul_zero,Nat.xor_zero,zero_xor]at this;rw[this];generalize par (u.z &&& v.x)=P;rcases b01 (wt n j) u.z with h1|h1<;>rcases b01 (wt n i) v.x with h2|h2<;>rw[h1,h2]<;>lia
 |sign i j=>
  obtain⟨hi,hj,hij⟩:=hr;apply cb
  ·rfl
  ·show(u.z ^^^ v.z) ^^^ wt n j*ar (wt n i) (u.x ^^^ v.x) ^^^ wt n i*ar (wt n j) (u.x ^^^ v.x)=(u.z ^^^ _ ^^^ _) ^^^ (v.z ^^^ _ ^^^ _)
   rw[aV,aV,jP _ _ _ (b _ _) (b _ _),jP _ _ _ (b _ _) (b _ _)];ac_rfl
  ·show((u.s+v.s+2*par (u.z &&& v.x))%4+2*(ar (wt n i) (u.x ^^^ v.x)*ar (wt n j) (u.x ^^^ v.x)))%4=((u.s+2*(ar (wt n i) u.x*ar (wt n j) u.x))%4+(v.s+2*(ar (wt n i) v.x*ar (wt n j) v.x))%4+2*par ((u.z ^^^ wt n j*ar (wt n i) u.x ^^^ wt n i*ar (wt n j) u.x) &&& v.x))%4
   rw[ij,ij,cr hn hj hv.1 _ (b _ _),cr hn hi hv.1 _ (b _ _),aV,aV];generalize par (u.z &&& v.x)=P;rcases b01 (wt n i) u.x with h1|h1<;>rcases b01 (wt n j) u.x with h2|h2<;>rcases b01 (wt n i) v.x with h3|h3<;>rcases b01 (wt n j) v.x with h4|h4<;>rw[h1,h2,h3,h4]<;>lia
 |cross i j=>
  obtain⟨hi,hj,hij⟩:=hr;have e1:∀a c w:Nat,w*((ar (wt n i) (a ^^^ c)+ar (wt n j) (a ^^^ c))%2)=w*((ar (wt n i) a+ar (wt n j) a)%2) ^^^ w*((ar (wt n i) c+ar (wt n j) c)%2):=fun a c w=>by
   rw[<-jP _ _ _ (m _) (m _),aV,aV];congr 1
   lia
  apply cb
  ·show(u.x ^^^ v.x) ^^^ (wt n i*((ar (wt n i) (u.x ^^^ v.x)+ar (wt n j) (u.x ^^^ v.x))%2) ^^^ wt n j*((ar (wt n i) (u.x ^^^ v.x)+ar (wt n j) (u.x ^^^ v.x))%2))=(u.x ^^^ (_ ^^^ _)) ^^^ (v.x ^^^ (_ ^^^ _))
   rw[e1,e1];ac_rfl
  ·show(u.z ^^^ v.z) ^^^ (wt n i*((ar (wt n i) (u.z ^^^ v.z)+ar (wt n j) (u.z ^^^ v.z))%2) ^^^ wt n j*((ar (wt n i) (u.z ^^^ v.z)+ar (wt n j) (u.z ^^^ v.z))%2))=(u.z ^^^ (_ ^^^ _)) ^^^ (v.z ^^^ (_ ^^^ _))
   rw[e1,e1];ac_rfl
  ·show(u.s+v.s+2*par (u.z &&& v.x))%4=(u.s+v.s+2*par ((u.z ^^^ (wt n i*((ar (wt n i) u.z+ar (wt n j) u.z)%2) ^^^ wt n j*((ar (wt n i) u.z+ar (wt n j) u.z)%2))) &&& (v.x ^^^ (wt n i*((ar (wt n i) v.x+ar (wt n j) v.x)%2) ^^^ wt n j*((ar (wt n i) v.x+ar (wt n j) v.x)%2)))))%4
   rw[nY hn hi hj hij hu.2.1 hv.1 _ _ _ _ (m _) (m _) (m _) (m _)];generalize par (u.z &&& v.x)=P;rcases b01 (wt n i) u.z with h1|h1<;>rcases b01 (wt n j) u.z with h2|h2<;>rcases b01 (wt n i) v.x with h3|h3<;>rcases b01 (wt n j) v.x with h4|h4<;>rw[h1,h2,h3,h4]<;>lia
noncomputable def kJ:Row->Row
 |.turn j e=>.turn j (8-e)
 |r=>r
theorem fh(a b:Nat):a ^^^ b ^^^ b=a:=by rw[Nat.xor_assoc,Nat.xor_self,Nat.xor_zero]
theorem g8{n:Nat}{r:Row}(hr:r.ok n){u:Wd}(hu:u.ok n)(lu:vp n r u):carry n (kJ r) (carry n r u)=u:=by
 have m:∀a:Nat,a%2<2:=fun a=>Nat.mod_lt _ (by decide)
 have b:∀w p,ar w p<2:=d7;have hs:=hu.2.2;cases r with
 |swing j=>
  have f1:ar (wt n j) (u.x ^^^ wt n j*((ar (wt n j) u.x+ar (wt n j) u.z)%2))=ar (wt n j) u.z:=by
   rw[aV,jd _ (m _)];have:=b (wt n j) u.x;have:=b (wt n j) u.z
   lia
  have f2:ar (wt n j) (u.z ^^^ wt n j*((ar (wt n j) u.x+ar (wt n j) u.z)%2))=ar (wt n j) u.x:=by
   rw[aV,jd _ (m _)];have:=b (wt n j) u.x;have:=b (wt n j) u.z
   lia
  apply cb
  ·show(u.x ^^^ _) ^^^ wt n j*((ar (wt n j) (u.x ^^^ _)+ar (wt n j) (u.z ^^^ _))%2)=u.x
   rw[f1,f2,Nat.add_comm (ar (wt n j) u.z),fh]
  ·show(u.z ^^^ _) ^^^ wt n j*((ar (wt n j) (u.x ^^^ _)+ar (wt n j) (u.z ^^^ _))%2)=u.z
   rw[f1,f2,Nat.add_comm (ar (wt n j) u.z),fh]
  ·show((u.s+2*(ar (wt n j) u.x*ar (wt n j) u.z))%4+2*(ar (wt n j) (u.x ^^^ _)*ar (wt n j) (u.z ^^^ _)))%4=u.s
   rw[f1,f2];rcases b01 (wt n j) u.x with h1|h1<;>rcases b01 (wt n j) u.z with h2|h2<;>rw[h1,h2]<;>lia
 |turn j e=>
  have k:(if(8-e)%4=2 then 1 else 0:Nat)=(if e%4=2 then 1 else 0):=by
   have:=hr.2;by_cases h:e%4=2
   ·rw[if_pos h,if_pos (by lia)]
   ·rw[if_neg h,if_neg (by lia)]
  apply cb
  ·rfl
  ·show(u.z ^^^ _) ^^^ wt n j*(ar (wt n j) u.x*(if(8-e)%4=2 then 1 else 0))=u.z
   rw[k,fh]
  ·show((u.s+(e/2)*ar (wt n j) u.x)%4+((8-e)/2)*ar (wt n j) u.x)%4=u.s
   have lu:e%2=0\/ar (wt n j) u.x=0:=lu;have:=hr.2;rcases b01 (wt n j) u.x with h1|h1<;>rw[h1]at lu<;>rw[h1]<;>lia
 |flip j=>
  apply cb
  ·rfl
  ·rfl
  ·show((u.s+2*ar (wt n j) u.z)%4+2*ar (wt n j) u.z)%4=u.s
   lia
 |tie i j=>
  obtain⟨hi,hj,hij⟩:=hr;apply cb
  ·show(u.x ^^^ _) ^^^ wt n j*ar (wt n i) (u.x ^^^ wt n j*ar (wt n i) u.x)=u.x
   rw[aV,hE hi hj hij _ (b _ _),Nat.add_zero,Nat.mod_eq_of_lt (b _ _),fh]
  ·show(u.z ^^^ _) ^^^ wt n i*ar (wt n j) (u.z ^^^ wt n i*ar (wt n j) u.z)=u.z
   rw[aV,hE hj hi (Ne.symm hij) _ (b _ _),Nat.add_zero,Nat.mod_eq_of_lt (b _ _),fh]
  ·rfl
 |sign i j=>
  apply cb
  ·rfl
  ·show(u.z ^^^ wt n j*ar (wt n i) u.x ^^^ wt n i*ar (wt n j) u.x) ^^^ wt n j*ar (wt n i) u.x ^^^ wt n i*ar (wt n j) u.x=u.z
   rw[show(u.z ^^^ wt n j*ar (wt n i) u.x ^^^ wt n i*ar (wt n j) u.x) ^^^ wt n j*ar (wt n i) u.x ^^^ wt n i*ar (wt n j) u.x=u.z ^^^ (wt n j*ar (wt n i) u.x ^^^ wt n j*ar (wt n i) u.x) ^^^ (wt n i*ar (wt n j) u.x ^^^ wt n i*ar (wt n j) u.x) by ac_rfl,Nat.xor_self,Nat.xor_self,Nat.xor_zero,Nat.xor_zero]
  ·show((u.s+2*(ar (wt n i) u.x*ar (wt n j) u.x))%4+2*(ar (wt n i) u.x*ar (wt n j) u.x))%4=u.s
   lia
 |cross i j=>
  obtain⟨hi,hj,hij⟩:=hr;have k:∀a:Nat,(ar (wt n i) (a ^^^ (wt n i*((ar (wt n i) a+ar (wt n j) a)%2) ^^^ wt n j*((ar (wt n i) a+ar (wt n j) a)%2)))+ar (wt n j) (a ^^^ (wt n i*((ar (wt n i) a+ar (wt n j) a)%2) ^^^ wt n j*((ar (wt n i) a+ar (wt n j) a)%2))))%2=(ar (wt n i) a+ar (wt n j) a)%2:=fun a=>by
   rw[aV,aV n j,aV n i (wt n i*_),aV n j (wt n i*_),jd _ (m _),jd _ (m _),hE hi hj hij _ (m _),hE hj hi (Ne.symm hij) _ (m _)]
   lia
  apply cb
  ·show(u.x ^^^ _) ^^^ (wt n i*((ar (wt n i) (u.x ^^^ _)+ar (wt n j) (u.x ^^^ _))%2) ^^^ wt n j*((ar (wt n i) (u.x ^^^ _)+ar (wt n j) (u.x ^^^ _))%2))=u.x
   rw[k,fh]
  ·show(u.z ^^^ _) ^^^ (wt n i*((ar (wt n i) (u.z ^^^ _)+ar (wt n j) (u.z ^^^ _))%2) ^^^ wt n j*((ar (wt n i) (u.z ^^^ _)+ar (wt n j) (u.z ^^^ _))%2))=u.z
   rw[k,fh]
  ·rfl
theorem CG:((List.range 6).all fun k=>(List.range 64).all fun p=>p ^^^ 2^k==jL (2^k) p)=true:=by decide +kernel
theorem ya{n i a:Nat}(hn:n<=6)(hi:i<n)(ha:a<2^n):jL (wt n i) a=a ^^^ wt n i:=by
 have h:=CG;rw[List.all_eq_true]at h;have h:=h (n-1-i) (List.mem_range.mpr (by lia));rw[List.all_eq_true]at h;have h:=h a (List.mem_range.mpr (Nat.lt_of_lt_of_le ha (Nat.pow_le_pow_right (by decide) hn:2^n<=2^6)));exact(beq_iff_eq.mp h).symm
theorem qk{n i:Nat}(hi:i<n):wt n i<2^n:=by
 have:=w_lt hi 1 (by decide)
 rwa [Nat.mul_one]at this
theorem qT{n i j p:Nat}(hn:n<=6)(hi:i<n)(hj:j<n)(hp:p<2^n):oN n (.cross i j) p=p ^^^ (wt n i*((ar (wt n i) p+ar (wt n j) p)%2) ^^^ wt n j*((ar (wt n i) p+ar (wt n j) p)%2)):=by
 show(if ar (wt n i) p=ar (wt n j) p then p else jL (wt n j) (jL (wt n i) p))=_;have hf:jL (wt n j) (jL (wt n i) p)=p ^^^ (wt n i ^^^ wt n j):=by
  rw[ya hn hi hp,ya hn hj (Nat.xor_lt_two_pow hp (qk hi)),Nat.xor_assoc]
 rw[hf];rcases b01 (wt n i) p with h|h<;>rcases b01 (wt n j) p with h2|h2<;>rw[h,h2]
 ·simp
 ·rw[if_neg (by decide),show(0+1)%2=1 from rfl,Nat.mul_one,Nat.mul_one]
 ·rw[if_neg (by decide),show(1+0)%2=1 from rfl,Nat.mul_one,Nat.mul_one]
 ·simp
end MA
namespace GN
open PySem L2 VL
noncomputable def top(i:Nat):Stmt:=PySem.Challenge.pw_wavewires_k50_settled_keepers.main.body.getD i (.Pass ⟨0,0,0,0⟩)
abbrev jH:Stmt:=top 5
abbrev rp:List Str:=["wires","wire"]
noncomputable def ni:Sf:=be (o2 (oC (.int 1)) (o2 (o2 (oV 0) (oC (.int 1)) jj) (oV 1) jj) gI)
noncomputable def bK:List D->Option D:=runB rp 2 ni
abbrev eZ:Stmt:=top 6
abbrev i8:List Str:=["wires","place"]
noncomputable def gZ:Dv->Option D:=dJ (oL (ac (oV 0) (ak)) bS) [(0,"wires"),(1,"place")] q9 (o2 (o2 (oV 2) (o2 (o2 (oV 1) (oC (.int 1)) jj) (oV 0) jj) fj) (oC (.int 1)) dB)
noncomputable def i5:Sf:=be (os (ac (gZ) (ak)) eK)
noncomputable def cG:List D->Option D:=runB i8 2 i5
abbrev eE:Stmt:=top 7
abbrev ji:List Str:=["place","both"]
noncomputable def eJ:Sf:=be (ul (ob (o2 (o2 (oV 0) (oV 1) dB) (os (ac (oC (.int 0)) (ac (oV 1) (ak))) cK) (BG false))) (oV 0) (o2 (oV 0) (oV 1) gU))
noncomputable def bh:List D->Option D:=runB ji 2 eJ
abbrev fm:Stmt:=top 9
abbrev kP:List Str:=["bitset","bits","shared","value"]
noncomputable def cC:Dv->Option Bool:=ob (o2 (oV 2) (oC (.int 0)) neD)
noncomputable def dy:Sf:=sSeq (aT 2 (o2 (oV 2) (o2 (oV 2) (oC (.int 1)) jj) dB)) (aT 3 (o2 (oC (.int 1)) (oV 3) jj))
noncomputable def hG:Sf:=sSeq (aT 2 (o2 (oV 0) (oV 1) dB)) (sSeq (aT 3 (oC (.int 0))) (sSeq (fun δ=>eu (cC) (dy) wN δ) (be (oV 3))))
noncomputable def aY:List D->Option D:=runB kP 2 hG
abbrev qw:Stmt:=top 11
abbrev yf:List Str:=["bitset","bit"]
noncomputable def vi:Sf:=be (o2 (o2 (o2 (oV 0) (oV 1) fj) (oC (.int 1)) dB) (oC (.int 1)) cy)
noncomputable def iy:List D->Option D:=runB yf 2 vi
abbrev dM:Stmt:=top 13
abbrev N_word_times:List Str:=["one","other","s"]
noncomputable def fJ:Sf:=sSeq (aT 2 (o2 (o2 (o2 (oV 0) (oC (.int 2)) aF) (o2 (oV 1) (oC (.int 2)) aF) eT) (o2 (oC (.int 2)) (os (ac (o2 (oV 0) (oC (.int 1)) aF) (ac (o2 (oV 1) (oC (.int 0)) aF) (ak))) aY) io) eT)) (be (os (ac (o2 (o2 (oV 0) (oC (.int 0)) aF) (o2 (oV 1) (oC (.int 0)) aF) gU) (ac (o2 (o2 (oV 0) (oC (.int 1)) aF) (o2 (oV 1) (oC (.int 1)) aF) gU) (ac (o2 (oV 2) (oC (.int 4)) cW) (ak)))) cK))
noncomputable def aw:List D->Option D:=runB N_word_times 2 fJ
abbrev jI:Stmt:=top 14
abbrev rq:List Str:=["one","other"]
noncomputable def nj:Sf:=be (o2 (os (ac (oV 0) (ac (oV 1) (ak))) aw) (os (ac (oV 1) (ac (oV 0) (ak))) aw) cy)
noncomputable def b9:List D->Option D:=runB rq 2 nj
abbrev cg:Stmt:=top 15
abbrev fT:List Str:=["word","bit","changed","s"]
noncomputable def dI:Sf:=sSeq (aT 2 (o2 (o2 (o2 (oV 0) (oC (.int 0)) aF) (o2 (oV 0) (oC (.int 1)) aF) gU) (oV 1) dB)) (sSeq (aT 3 (o2 (o2 (oV 0) (oC (.int 2)) aF) (o2 (oC (.int 2)) (os (ac (o2 (o2 (oV 0) (oC (.int 0)) aF) (o2 (oV 0) (oC (.int 1)) aF) dB) (ac (oV 1) (ak))) aY) io) eT)) (be (os (ac (o2 (o2 (oV 0) (oC (.int 0)) aF) (oV 2) gU) (ac (o2 (o2 (oV 0) (oC (.int 1)) aF) (oV 2) gU) (ac (o2 (oV 3) (oC (.int 4)) cW) (ak)))) cK)))
noncomputable def bo:List D->Option D:=runB fT 2 dI
abbrev cN:Stmt:=top 16
abbrev gw:List Str:=["word","bit","e","z"]
noncomputable def b0:Sf:=sSeq (sIf (ob (o2 (o2 (o2 (oV 0) (oC (.int 0)) aF) (oV 1) dB) (oC (.int 0)) cy)) (be (oV 0)) (gK)) (sSeq (sIf (ob (o2 (o2 (oV 2) (oC (.int 2)) cW) (oC (.int 1)) cy)) (Ch) (gK)) (sSeq (aT 3 (ul (ob (o2 (o2 (oV 2) (oC (.int 4)) cW) (oC (.int 2)) cy)) (o2 (o2 (oV 0) (oC (.int 1)) aF) (oV 1) gU) (o2 (oV 0) (oC (.int 1)) aF))) (be (os (ac (o2 (oV 0) (oC (.int 0)) aF) (ac (oV 3) (ac (o2 (o2 (o2 (oV 0) (oC (.int 2)) aF) (o2 (oV 2) (oC (.int 2)) m6) eT) (oC (.int 4)) cW) (ak)))) cK))))
noncomputable def aP:List D->Option D:=runB gw 3 b0
abbrev dq:Stmt:=top 17
abbrev gR:List Str:=["word","first","second","x","z"]
noncomputable def bR:Sf:=sSeq (aT 3 (ul (ob (o2 (o2 (o2 (oV 0) (oC (.int 0)) aF) (oV 1) dB) (oC (.int 0)) neD)) (o2 (o2 (oV 0) (oC (.int 0)) aF) (oV 2) gU) (o2 (oV 0) (oC (.int 0)) aF))) (sSeq (aT 4 (ul (ob (o2 (o2 (o2 (oV 0) (oC (.int 1)) aF) (oV 2) dB) (oC (.int 0)) neD)) (o2 (o2 (oV 0) (oC (.int 1)) aF) (oV 1) gU) (o2 (oV 0) (oC (.int 1)) aF))) (be (os (ac (oV 3) (ac (oV 4) (ac (o2 (oV 0) (oC (.int 2)) aF) (ak)))) cK)))
noncomputable def aX:List D->Option D:=runB gR 3 bR
abbrev cR:Stmt:=top 18
abbrev gy:List Str:=["word","first","second","z","both","s"]
noncomputable def d8:Sf:=sSeq (aT 3 (o2 (oV 0) (oC (.int 1)) aF)) (sSeq (sIf (ob (o2 (o2 (o2 (oV 0) (oC (.int 0)) aF) (oV 1) dB) (oC (.int 0)) neD)) (aT 3 (o2 (oV 3) (oV 2) gU)) (gK)) (sSeq (sIf (ob (o2 (o2 (o2 (oV 0) (oC (.int 0)) aF) (oV 2) dB) (oC (.int 0)) neD)) (aT 3 (o2 (oV 3) (oV 1) gU)) (gK)) (sSeq (aT 4 (o2 (oV 1) (oV 2) y0)) (sSeq (aT 5 (ul (ob (o2 (o2 (o2 (oV 0) (oC (.int 0)) aF) (oV 4) dB) (oV 4) cy)) (o2 (o2 (oV 0) (oC (.int 2)) aF) (oC (.int 2)) eT) (o2 (oV 0) (oC (.int 2)) aF))) (be (os (ac (o2 (oV 0) (oC (.int 0)) aF) (ac (oV 3) (ac (o2 (oV 5) (oC (.int 4)) cW) (ak)))) cK))))))
noncomputable def bu:List D->Option D:=runB gy 3 d8
abbrev gD:Stmt:=top 19
abbrev ms:List Str:=["wires","word","row","first","second"]
noncomputable def cH:Sf:=sSeq (aT 3 (os (ac (oV 0) (ac (o2 (oV 2) (oC (.int 1)) aF) (ak))) bK)) (sSeq (sIf (ob (o2 (o2 (oV 2) (oC (.int 0)) aF) (oC (.str "swing")) cy)) (be (os (ac (oV 1) (ac (oV 3) (ak))) bo)) (gK)) (sSeq (sIf (ob (o2 (o2 (oV 2) (oC (.int 0)) aF) (oC (.str "turn")) cy)) (be (os (ac (oV 1) (ac (oV 3) (ac (o2 (oV 2) (oC (.int 2)) aF) (ak)))) aP)) (gK)) (sSeq (sIf (ob (o2 (o2 (oV 2) (oC (.int 0)) aF) (oC (.str "flip")) cy)) (be (os (ac (o2 (oV 1) (oC (.int 0)) aF) (ac (o2 (oV 1) (oC (.int 1)) aF) (ac (o2 (o2 (o2 (oV 1) (oC (.int 2)) aF) (o2 (oC (.int 2)) (os (ac (o2 (oV 1) (oC (.int 1)) aF) (ac (oV 3) (ak))) aY) io) eT) (oC (.int 4)) cW) (ak)))) cK)) (gK)) (sSeq (aT 4 (os (ac (oV 0) (ac (o2 (oV 2) (oC (.int 2)) aF) (ak))) bK)) (sSeq (sIf (ob (o2 (o2 (oV 2) (oC (.int 0)) aF) (oC (.str "tie")) cy)) (be (os (ac (oV 1) (ac (oV 3) (ac (oV 4) (ak)))) aX)) (gK)) (sSeq (sIf (ob (o2 (o2 (oV 2) (oC (.int 0)) aF) (oC (.str "sign")) cy)) (be (os (ac (oV 1) (ac (oV 3) (ac (oV 4) (ak)))) bu)) (gK)) (be (os (ac (os (ac (o2 (oV 1) (oC (.int 0)) aF) (ac (o2 (oV 3) (oV 4) y0) (ak))) bh) (ac (os (ac (o2 (oV 1) (oC (.int 1)) aF) (ac (o2 (oV 3) (oV 4) y0) (ak))) bh) (ac (o2 (oV 1) (oC (.int 2)) aF) (ak)))) cK))))))))
noncomputable def aO:List D->Option D:=runB ms 3 cH
abbrev bU:Stmt:=top 21
abbrev fN:List Str:=["wires","place","bits","flips"]
noncomputable def fZ:Dv->Option D:=dJ (oL (ac (oV 0) (ak)) bS) [(0,"wires")] q9 (os (ac (oV 1) (ac (oV 0) (ak))) bK)
noncomputable def fY:Dv->Option D:=dJ (oL (ac (oV 0) (ak)) bS) [(2,"bits"),(3,"flips")] q9 (os (ac (os (ac (o2 (oV 2) (oV 0) aF) (ac (oC (.int 0)) (ac (oC (.int 0)) (ak)))) cK) (ac (os (ac (oC (.int 0)) (ac (o2 (oV 2) (oV 0) aF) (ac (o2 (oC (.int 2)) (o2 (oV 1) (oV 0) aF) io) (ak)))) cK) (ak))) cK)
noncomputable def hJ:Sf:=sSeq (aT 2 (os (ac (oV 0) (ac (oV 1) (ak))) cG)) (sSeq (aT 3 (fZ)) (be (os (ac (fY) (ak)) eK)))
noncomputable def bL:List D->Option D:=runB fN 2 hJ
abbrev cS:Stmt:=top 22
abbrev fP:List Str:=["rows"]
noncomputable def gM:Dv->Option D:=dJ (oI (oV 0) da) [] q9 (oi (o2 (o2 (oV 0) (oC (.int 0)) aF) (oC (.str "turn")) cy) (o2 (o2 (o2 (oV 0) (oC (.int 2)) aF) (oC (.int 2)) cW) (oC (.int 1)) cy))
noncomputable def fL:Sf:=sIf (ob (os (ac (gM) (ak)) Ac)) (Ch) (gK)
noncomputable def bM:List D->Option D:=runB fP 1 fL
abbrev cQ:Stmt:=top 23
abbrev fO:List Str:=["table","row","wires"]
noncomputable def eL:Dv->Option D:=dJ (oI (oV 0) da) [(1,"row"),(2,"wires")] q9 (os (ac (os (ac (oV 2) (ac (o2 (oV 0) (oC (.int 0)) aF) (ac (oV 1) (ak)))) aO) (ac (os (ac (oV 2) (ac (o2 (oV 0) (oC (.int 1)) aF) (ac (oV 1) (ak)))) aO) (ak))) cK)
noncomputable def fK:Sf:=sSeq (xN (os (ac (os (ac (oV 1) (ak)) cK) (ak)) bM)) (sSeq (aT 2 (os (ac (oV 0) (ak)) d5)) (be (os (ac (eL) (ak)) eK)))
noncomputable def bC:List D->Option D:=runB fO 2 fK
abbrev eA:Stmt:=top 24
abbrev jg:List Str:=["table","wire","mark"]
noncomputable def gv:Sf:=be (os (ac (oC (.int 0)) (ac (os (ac (os (ac (oV 0) (ak)) d5) (ac (oV 1) (ak))) bK) (ac (o2 (oC (.int 2)) (oV 2) io) (ak)))) cK)
noncomputable def aU:List D->Option D:=runB jg 3 gv
abbrev bV:Stmt:=top 25
abbrev el:List Str:=["table","word"]
noncomputable def fS:Dv->Option D:=iS (oL (ac (os (ac (oV 0) (ak)) d5) (ak)) bS) [(0,"table"),(1,"word")] q9 (iR (ob (os (ac (o2 (o2 (oV 1) (oV 0) aF) (oC (.int 1)) aF) (ac (oV 2) (ak))) b9))) (oV 0)
noncomputable def d9:Sf:=be (fS)
noncomputable def aI:List D->Option D:=runB el 2 d9
abbrev ce:Stmt:=top 26
abbrev eU:List Str:=["table","word"]
noncomputable def f7:Dv->Option D:=iS (oL (ac (os (ac (oV 0) (ak)) d5) (ak)) bS) [(0,"table"),(1,"word")] q9 (iR (ob (os (ac (o2 (o2 (oV 1) (oV 0) aF) (oC (.int 0)) aF) (ac (oV 2) (ak))) b9))) (oV 0)
noncomputable def eR:Sf:=be (f7)
noncomputable def bq:List D->Option D:=runB eU 2 eR
abbrev eB:Stmt:=top 27
abbrev jh:List Str:=["table","wire","word","product","other"]
noncomputable def cY:Sf:=aT 3 (os (ac (oV 3) (ac (o2 (o2 (oV 0) (oV 4) aF) (oC (.int 1)) aF) (ak))) aw)
noncomputable def eI:Sf:=sSeq (aT 2 (os (ac (oV 0) (ac (oV 1) (ac (oC (.int 0)) (ak)))) aU)) (sSeq (sIf (ob (o2 (os (ac (oV 0) (ac (oV 2) (ak))) aI) (os (ak) lj) neD)) (be (oC .none)) (gK)) (sSeq (aT 3 (os (ac (oC (.int 0)) (ac (oC (.int 0)) (ac (oC (.int 0)) (ak)))) cK)) (sSeq (dX (oI (os (ac (oV 0) (ac (oV 2) (ak))) bq) da) (gN 4) (cY)) (be (ul (ob (o2 (oV 3) (oV 2) cy)) (oC (.int 0)) (oC (.int 1)))))))
noncomputable def aJ:List D->Option D:=runB jh 2 eI
abbrev fw:Stmt:=top 28
abbrev kS:List Str:=["word","look","keeper"]
noncomputable def hU:Sf:=be (ul (ob (os (ac (oV 0) (ac (oV 1) (ak))) b9)) (oV 0) (os (ac (oV 0) (ac (oV 2) (ak))) aw))
noncomputable def bZ:List D->Option D:=runB kS 3 hU
abbrev fX:Stmt:=top 29
abbrev kQ:List Str:=["table","wire","look","keeper","told"]
noncomputable def iP:Dv->Option D:=dJ (oI (oV 0) da) [(2,"look"),(3,"keeper")] q9 (os (ac (os (ac (o2 (oV 0) (oC (.int 0)) aF) (ac (oV 1) (ac (oV 2) (ak)))) bZ) (ac (os (ac (o2 (oV 0) (oC (.int 1)) aF) (ac (oV 1) (ac (oV 2) (ak)))) bZ) (ak))) cK)
noncomputable def kK:Sf:=sSeq (aT 3 (o2 (o2 (oV 0) (oV 1) aF) (oC (.int 1)) aF)) (sSeq (nS 4 (Ar (iP))) (sSeq (AZ 4 (oV 1) (os (ac (oV 3) (ac (oV 2) (ak))) cK)) (fun δ=>(be (os (ac (oV 4) (ak)) eK)) (sC 4 δ))))
noncomputable def dA:List D->Option D:=runB kQ 3 kK
abbrev cO:Stmt:=top 30
abbrev gx:List Str:=["table","wire","mark","told","look"]
noncomputable def dg:Sf:=sSeq (aT 3 (os (ac (oV 0) (ac (oV 1) (ak))) aJ)) (sSeq (aT 4 (os (ac (oV 0) (ac (oV 1) (ac (oV 2) (ak)))) aU)) (sSeq (sIf (ob (o2 (oV 3) (oC .none) isD)) (be (os (ac (oV 0) (ac (o2 (os (ac (oV 0) (ac (oV 4) (ak))) aI) (oC (.int 0)) aF) (ac (oV 4) (ak)))) dA)) (gK)) (sSeq (sIf (ob (o2 (oV 3) (oV 2) neD)) (Ch) (gK)) (be (oV 0)))))
noncomputable def aM:List D->Option D:=runB gx 3 dg
abbrev fq:Stmt:=top 31
abbrev kR:List Str:=["bitset"]
noncomputable def hR:Sf:=be (o2 (o1 (oV 0) rh) (oC (.int 1)) jj)
noncomputable def bY:List D->Option D:=runB kR 1 hR
abbrev eY:Stmt:=top 32
abbrev i7:List Str:=["things","bits_in","product","told","thing","other","top"]
noncomputable def gY:Dv->Option D:=dJ (oI (oV 3) da) [(1,"bits_in"),(2,"product"),(4,"thing"),(6,"top")] q9 (ul (ob (os (ac (cw 1 (ac (oV 0) (ak)) "<lambda> shl" gJ) (ac (oV 4) (ak))) iy)) (f8 2 (ac (oV 0) (ac (oV 3) (ak))) (("word_times",aw)::[])) (oV 0))
noncomputable def cx:Sf:=sIf (ob (os (ac (cw 1 (ac (oV 4) (ak)) "<lambda> shl" gJ) (ac (os (ac (cw 1 (ac (oV 5) (ak)) "<lambda> shl" gJ) (ak)) bY) (ak))) iy)) (aT 4 (f8 2 (ac (oV 4) (ac (oV 5) (ak))) (("word_times",aw)::[]))) (gK)
noncomputable def d6:Sf:=sSeq (fun δ=>(dX (oI (oV 3) da) (gN 5) (cx)) (sC 3 δ)) (sIf (ob (o2 (cw 1 (ac (oV 4) (ak)) "<lambda> shl" gJ) (oC (.int 0)) neD)) (sSeq (aT 6 (os (ac (cw 1 (ac (oV 4) (ak)) "<lambda> shl" gJ) (ak)) bY)) (sSeq (nS 3 (Ar (gY))) (yv 3 (oV 4)))) (gK))
noncomputable def i4:Sf:=sSeq (A0 3 (ak)) (sSeq (dX (oI (oV 0) da) (gN 4) (d6)) (fun δ=>(be (oV 3)) (sC 3 δ)))
noncomputable def dR:List D->Option D:=runB i7 3 i4
abbrev eX:Stmt:=top 33
abbrev i6:List Str:=["table","wires","keepers"]
noncomputable def fE:Dv->Option D:=dJ (oI (oV 0) da) [] q9 (o2 (oV 0) (oC (.int 1)) aF)
noncomputable def mo:Sf:=sSeq (aT 1 (os (ac (oV 0) (ak)) d5)) (sSeq (aT 2 (os (ac (fE) (ac (wz "<lambda> shl" 1) (ac (oC (zP "word_times")) (ak)))) dR)) (be (os (ac (o1 (oV 2) jS) (ak)) eK)))
noncomputable def dQ:List D->Option D:=runB i6 1 mo
abbrev cV:Stmt:=top 35
abbrev gA:List Str:=["script","k"]
noncomputable def dh:Sf:=sSeq (sIf (ob (o2 (oV 1) (os (ac (oV 0) (ak)) d5) zn)) (be (o2 (oV 0) (oV 1) aF)) (gK)) (be (oC (.int 0)))
noncomputable def aQ:List D->Option D:=runB gA 2 dh
abbrev dN:Stmt:=top 36
abbrev iG:List Str:=["found"]
noncomputable def fM:Sf:=be (oi (o1 (oV 0) (fG "int")) (o1 (o1 (oV 0) (fG "bool")) wA))
noncomputable def db:List D->Option D:=runB iG 1 fM
abbrev fD:Stmt:=top 37
abbrev kX:List Str:=["place","odd","bit"]
noncomputable def cF:Sf:=aT 1 (o2 (oV 1) (o2 (o2 (oV 0) (oV 2) fj) (oC (.int 1)) dB) gU)
noncomputable def hW:Sf:=sSeq (aT 1 (oC (.int 0))) (sSeq (dX (oL (ac (oC (.int 6)) (ak)) bS) (gN 2) (cF)) (be (oV 1)))
noncomputable def bw:List D->Option D:=runB kX 1 hW
abbrev cU:Stmt:=top 38
abbrev gz:List Str:=["found","wires","part"]
noncomputable def bP:Sf:=sIf (wy (iR (ob (os (ac (oV 2) (ak)) db))) (ob (o2 (oV 2) (oC (.int 0)) zn))) (be (oC (.bool false))) (gK)
noncomputable def eh:Sf:=sSeq (sIf (wy (iR (ob (o1 (oV 0) (fG "tuple")))) (ob (o2 (os (ac (oV 0) (ak)) d5) (oC (.int 3)) neD))) (be (oC (.bool false))) (gK)) (sSeq (dX (oI (oV 0) da) (gN 2) (bP)) (be (oi (o2 (o2 (oV 0) (oC (.int 0)) aF) (o2 (oC (.int 1)) (oV 1) gI) zn) (oi (o2 (o2 (oV 0) (oC (.int 1)) aF) (o2 (oC (.int 1)) (oV 1) gI) zn) (o2 (o2 (oV 0) (oC (.int 2)) aF) (oC (.int 4)) zn)))))
noncomputable def bi:List D->Option D:=runB gz 2 eh
abbrev fB:Stmt:=top 39
abbrev kU:List Str:=["cell","wires","kind","wire"]
noncomputable def cA:Sf:=sSeq (aT 2 (o2 (os (ac (oC (.str "swing")) (ac (oC (.str "turn")) (ac (oC (.str "flip")) (ac (oC (.str "tie")) (ac (oC (.str "sign")) (ac (oC (.str "cross")) (ak))))))) lj) (o2 (oV 0) (oC (.int 6)) cW) aF)) (sSeq (sIf (ob (o2 (oV 1) (oC (.int 1)) cy)) (aT 2 (o2 (os (ac (oC (.str "swing")) (ac (oC (.str "turn")) (ac (oC (.str "flip")) (ak)))) lj) (o2 (oV 0) (oC (.int 3)) cW) aF)) (gK)) (sSeq (aT 3 (o2 (o2 (oV 0) (oC (.int 6)) m6) (oV 1) cW)) (sSeq (sIf (ob (o2 (oV 2) (oC (.str "turn")) cy)) (be (os (ac (oC (.str "turn")) (ac (oV 3) (ac (o2 (oC (.int 2)) (o2 (oC (.int 2)) (o2 (o2 (oV 0) (oC (.int 36)) m6) (oC (.int 3)) cW) io) eT) (ak)))) cK)) (gK)) (sSeq (sIf (wy (ob (o2 (oV 2) (oC (.str "swing")) cy)) (ob (o2 (oV 2) (oC (.str "flip")) cy))) (be (os (ac (oV 2) (ac (oV 3) (ak))) cK)) (gK)) (be (os (ac (oV 2) (ac (oV 3) (ac (o2 (o2 (o2 (oV 3) (oC (.int 1)) eT) (o2 (o2 (oV 0) (oC (.int 36)) m6) (o2 (oV 1) (oC (.int 1)) jj) cW) eT) (oV 1) cW) (ak)))) cK))))))
noncomputable def ba:List D->Option D:=runB kU 2 cA
abbrev dt:Stmt:=top 40
abbrev gS:List Str:=["word","wires"]
noncomputable def eS:Sf:=be (o2 (o2 (o2 (oV 0) (oC (.int 0)) aF) (o2 (oC (.int 1)) (oV 1) gI) io) (o2 (oV 0) (oC (.int 1)) aF) eT)
noncomputable def aB:List D->Option D:=runB gS 2 eS
abbrev fA:Stmt:=top 41
abbrev kT:List Str:=["weight","top","bit"]
noncomputable def eF:Sf:=sIf (ob (o2 (o2 (o2 (oV 0) (oV 2) fj) (oC (.int 1)) dB) (oC (.int 1)) cy)) (aT 1 (oV 2)) (gK)
noncomputable def hV:Sf:=sSeq (aT 1 (oC (.int 0))) (sSeq (dX (oL (ac (oC (.int 12)) (ak)) bS) (gN 2) (eF)) (be (oV 1)))
noncomputable def bp:List D->Option D:=runB kT 1 hV
abbrev bj:Stmt:=top 42
abbrev cI:List Str:=["keeper","found","wires","x","z","s","word"]
noncomputable def aE:Sf:=sIf (ob (o2 (o2 (o2 (os (ac (oV 0) (ac (oV 2) (ak))) aB) (os (ac (os (ac (oV 6) (ac (oV 2) (ak))) aB) (ak)) bp) fj) (oC (.int 1)) dB) (oC (.int 1)) cy)) (sSeq (aT 5 (o2 (o2 (o2 (oV 5) (o2 (oV 6) (oC (.int 2)) aF) eT) (o2 (oC (.int 2)) (os (ac (o2 (oV 4) (o2 (oV 6) (oC (.int 0)) aF) dB) (ak)) bw) io) eT) (oC (.int 4)) cW)) (sSeq (aT 3 (o2 (oV 3) (o2 (oV 6) (oC (.int 0)) aF) gU)) (aT 4 (o2 (oV 4) (o2 (oV 6) (oC (.int 1)) aF) gU)))) (gK)
noncomputable def bH:Sf:=sSeq (aT 3 (o2 (oV 0) (oC (.int 0)) aF)) (sSeq (aT 4 (o2 (oV 0) (oC (.int 1)) aF)) (sSeq (aT 5 (o2 (oV 0) (oC (.int 2)) aF)) (sSeq (dX (oI (oV 1) da) (gN 6) (aE)) (be (o2 (os (ac (oV 3) (ac (oV 4) (ac (oV 5) (ak)))) cK) (os (ac (oC (.int 0)) (ac (oC (.int 0)) (ac (oC (.int 0)) (ak)))) cK) cy)))))
noncomputable def aL:List D->Option D:=runB cI 3 bH
abbrev bW:Stmt:=top 43
abbrev dj:List Str:=["table","wires","found","word","weights","i","j","pair"]
noncomputable def dH:Dv->Option D:=dJ (oI (oV 2) da) [(1,"wires")] q9 (os (ac (oV 0) (ac (oV 1) (ak))) aB)
noncomputable def cm:Sf:=sIf (wy (iR (ob (os (ac (oV 3) (ac (oV 1) (ak))) bi))) (ob (o2 (o2 (o2 (o2 (oV 3) (oC (.int 2)) aF) (os (ac (o2 (o2 (oV 3) (oC (.int 0)) aF) (o2 (oV 3) (oC (.int 1)) aF) dB) (ak)) bw) eT) (oC (.int 2)) cW) (oC (.int 1)) cy))) (be (oC (.bool false))) (gK)
noncomputable def ck:Sf:=sIf (um (ob (o2 (oV 5) (oV 6) neD)) (ob (o2 (o2 (o2 (o2 (oV 4) (oV 6) aF) (os (ac (o2 (oV 4) (oV 5) aF) (ak)) bp) fj) (oC (.int 1)) dB) (oC (.int 1)) cy))) (be (oC (.bool false))) (gK)
noncomputable def cj:Sf:=sSeq (sIf (wy (ob (o2 (o2 (oV 4) (oV 5) aF) (oC (.int 0)) cy)) (um (ob (o2 (oV 5) (oC (.int 0)) Dy)) (ob (o2 (o2 (oV 4) (oV 5) aF) (o2 (oV 4) (o2 (oV 5) (oC (.int 1)) jj) aF) Dz)))) (be (oC (.bool false))) (gK)) (dX (oL (ac (oV 1) (ak)) bS) (gN 6) (ck))
noncomputable def ci:Sf:=sIf (iR (ob (os (ac (o2 (oV 7) (oC (.int 1)) aF) (ac (oV 2) (ac (oV 1) (ak)))) aL))) (be (oC (.bool false))) (gK)
noncomputable def ee:Sf:=sSeq (aT 2 (os (ac (oV 0) (ak)) dQ)) (sSeq (sIf (wy (iR (ob (o1 (oV 2) (fG "tuple")))) (ob (o2 (os (ac (oV 2) (ak)) d5) (oV 1) neD))) (be (oC (.bool false))) (gK)) (sSeq (dX (oI (oV 2) da) (gN 3) (cm)) (sSeq (aT 4 (dH)) (sSeq (dX (oL (ac (oV 1) (ak)) bS) (gN 5) (cj)) (sSeq (dX (oI (oV 0) da) (gN 7) (ci)) (be (oC (.bool true))))))))
noncomputable def aZ:List D->Option D:=runB dj 2 ee
abbrev ie:Stmt:=top 44
abbrev ye:List Str:=["script","wires","table","cell","wire","mark"]
noncomputable def eO:Sf:=sIf (ob (o2 (o2 (oV 3) (oC (.int 5)) cW) (oC (.int 4)) zn)) (aT 2 (os (ac (oV 2) (ac (os (ac (o2 (oV 3) (oC (.int 5)) m6) (ac (oV 1) (ak))) ba) (ak))) bC)) (sSeq (aT 4 (o2 (o2 (oV 3) (oC (.int 5)) m6) (oV 1) cW)) (sSeq (aT 5 (os (ac (oV 2) (ac (oV 4) (ak))) aJ)) (sSeq (sIf (ob (o2 (oV 5) (oC .none) isD)) (aT 5 (o2 (o2 (oV 3) (oC (.int 30)) m6) (oC (.int 2)) cW)) (gK)) (sSeq (aT 2 (os (ac (oV 2) (ac (oV 4) (ac (oV 5) (ak)))) aM)) (sIf (iR (ob (os (ac (oV 2) (ac (oV 1) (ak))) aZ))) (be (oC (.bool false))) (gK))))))
noncomputable def vh:Sf:=sSeq (aT 1 (o2 (oC (.int 1)) (o2 (os (ac (oV 0) (ac (oC (.int 0)) (ak))) aQ) (oC (.int 6)) cW) eT)) (sSeq (aT 2 (os (ac (oV 1) (ac (o2 (os (ac (oV 0) (ac (oC (.int 1)) (ak))) aQ) (o2 (oC (.int 1)) (oV 1) gI) cW) (ak))) bL)) (sSeq (dX (oI (Er (oV 0) (oP (oC (.int 2))) (oP (oC (.int 122)))) da) (gN 3) (eO)) (be (os (ac (oV 2) (ac (oV 1) (ak))) aZ))))
noncomputable def oM:List D->Option D:=runB ye 1 vh
open MA (Nu Row wt ar jL oN zU Wd par au)
noncomputable def xR(a:Str):Bool:=tM (.str a)
theorem kZ{a b:Str}(ha:xR a=true)(hb:xR b=true):cy (.str a) (.str b)=some (.bool (a==b)):=if_pos ⟨ha,hb⟩
theorem bI:xR "swing" = true:=by decide +kernel
theorem cD:xR "turn" = true:=by decide +kernel
theorem cE:xR "flip" = true:=by decide +kernel
theorem dZ:xR "tie" = true:=by decide +kernel
theorem dl:xR "sign" = true:=by decide +kernel
theorem d4:xR "cross" = true:=by decide +kernel
@[simp] theorem uA:cy (.str "swing") (.str "swing")=some (.bool true):=(kZ bI bI).trans (congrArg (fun z=>some (PyData.bool z)) (show(("swing":Str)==("swing":Str))=true by decide +kernel))
@[simp] theorem vr:cy (.str "swing") (.str "turn")=some (.bool false):=(kZ bI cD).trans (congrArg (fun z=>some (PyData.bool z)) (show(("swing":Str)==("turn":Str))=false by decide +kernel))
@[simp] theorem vt:cy (.str "swing") (.str "flip")=some (.bool false):=(kZ bI cE).trans (congrArg (fun z=>some (PyData.bool z)) (show(("swing":Str)==("flip":Str))=false by decide +kernel))
@[simp] theorem vq:cy (.str "turn") (.str "swing")=some (.bool false):=(kZ cD bI).trans (congrArg (fun z=>some (PyData.bool z)) (show(("turn":Str)==("swing":Str))=false by decide +kernel))
@[simp] theorem wJ:cy (.str "turn") (.str "turn")=some (.bool true):=(kZ cD cD).trans (congrArg (fun z=>some (PyData.bool z)) (show(("turn":Str)==("turn":Str))=true by decide +kernel))
@[simp] theorem vw:cy (.str "flip") (.str "swing")=some (.bool false):=(kZ cE bI).trans (congrArg (fun z=>some (PyData.bool z)) (show(("flip":Str)==("swing":Str))=false by decide +kernel))
@[simp] theorem wP:cy (.str "flip") (.str "turn")=some (.bool false):=(kZ cE cD).trans (congrArg (fun z=>some (PyData.bool z)) (show(("flip":Str)==("turn":Str))=false by decide +kernel))
@[simp] theorem wQ:cy (.str "flip") (.str "flip")=some (.bool true):=(kZ cE cE).trans (congrArg (fun z=>some (PyData.bool z)) (show(("flip":Str)==("flip":Str))=true by decide +kernel))
@[simp] theorem wK:cy (.str "tie") (.str "swing")=some (.bool false):=(kZ dZ bI).trans (congrArg (fun z=>some (PyData.bool z)) (show(("tie":Str)==("swing":Str))=false by decide +kernel))
@[simp] theorem xX:cy (.str "tie") (.str "turn")=some (.bool false):=(kZ dZ cD).trans (congrArg (fun z=>some (PyData.bool z)) (show(("tie":Str)==("turn":Str))=false by decide +kernel))
@[simp] theorem xY:cy (.str "tie") (.str "flip")=some (.bool false):=(kZ dZ cE).trans (congrArg (fun z=>some (PyData.bool z)) (show(("tie":Str)==("flip":Str))=false by decide +kernel))
@[simp] theorem zu:cy (.str "tie") (.str "tie")=some (.bool true):=(kZ dZ dZ).trans (congrArg (fun z=>some (PyData.bool z)) (show(("tie":Str)==("tie":Str))=true by decide +kernel))
@[simp] theorem vv:cy (.str "sign") (.str "swing")=some (.bool false):=(kZ dl bI).trans (congrArg (fun z=>some (PyData.bool z)) (show(("sign":Str)==("swing":Str))=false by decide +kernel))
@[simp] theorem wL:cy (.str "sign") (.str "turn")=some (.bool false):=(kZ dl cD).trans (congrArg (fun z=>some (PyData.bool z)) (show(("sign":Str)==("turn":Str))=false by decide +kernel))
@[simp] theorem wO:cy (.str "sign") (.str "flip")=some (.bool false):=(kZ dl cE).trans (congrArg (fun z=>some (PyData.bool z)) (show(("sign":Str)==("flip":Str))=false by decide +kernel))
@[simp] theorem xZ:cy (.str "sign") (.str "tie")=some (.bool false):=(kZ dl dZ).trans (congrArg (fun z=>some (PyData.bool z)) (show(("sign":Str)==("tie":Str))=false by decide +kernel))
@[simp] theorem wM:cy (.str "sign") (.str "sign")=some (.bool true):=(kZ dl dl).trans (congrArg (fun z=>some (PyData.bool z)) (show(("sign":Str)==("sign":Str))=true by decide +kernel))
@[simp] theorem uB:cy (.str "cross") (.str "swing")=some (.bool false):=(kZ d4 bI).trans (congrArg (fun z=>some (PyData.bool z)) (show(("cross":Str)==("swing":Str))=false by decide +kernel))
@[simp] theorem vx:cy (.str "cross") (.str "turn")=some (.bool false):=(kZ d4 cD).trans (congrArg (fun z=>some (PyData.bool z)) (show(("cross":Str)==("turn":Str))=false by decide +kernel))
@[simp] theorem vz:cy (.str "cross") (.str "flip")=some (.bool false):=(kZ d4 cE).trans (congrArg (fun z=>some (PyData.bool z)) (show(("cross":Str)==("flip":Str))=false by decide +kernel))
@[simp] theorem wR:cy (.str "cross") (.str "tie")=some (.bool false):=(kZ d4 dZ).trans (congrArg (fun z=>some (PyData.bool z)) (show(("cross":Str)==("tie":Str))=false by decide +kernel))
@[simp] theorem vy:cy (.str "cross") (.str "sign")=some (.bool false):=(kZ d4 dl).trans (congrArg (fun z=>some (PyData.bool z)) (show(("cross":Str)==("sign":Str))=false by decide +kernel))
@[simp] theorem Cq(u w:Sf)(δ:Dv)(a b:Int):BH u w δ (a==b)=if a=b then u δ else w δ:=by
 by_cases h:a=b
 ·subst h;simp
 ·have:(a==b)=false:=by simpa using h
  rw[this,if_neg h];rfl
theorem ou{α:Type}{f:D->Option D}{h k:α -> D}:∀(xs:List α),(∀x∈xs,f (h x)=some (k x))->r9 f (xs.map h)=some (xs.map k)
 |[],_=>rfl
 |x::xs,H=>by
  show((f (h x)).bind fun y=>_)=_
  rw[H x List.mem_cons_self];show((r9 f (xs.map h)).bind fun ys=>_)=_
  rw[ou xs fun y hy=>H y (List.mem_cons_of_mem _ hy)]
  rfl
theorem oO{α:Type}{t:D->Option Bool}{f:D->Option D}{h k:α -> D}{b:α -> Bool}:∀(xs:List α),(∀x∈xs,t (h x)=some (b x))->(∀x∈xs,b x=true->f (h x)=some (k x))->fH t f (xs.map h)=some ((xs.filter b).map k)
 |[],_,_=>rfl
 |x::xs,H,G=>by
  have ih:=oO (k:=k) xs (fun y hy=>H y (List.mem_cons_of_mem _ hy)) (fun y hy=>G y (List.mem_cons_of_mem _ hy))
  show((t (h x)).bind fun c=>_)=_
  rw[H x List.mem_cons_self,Option.bind_some];cases e:b x with
  |false=>simp[e,ih]
  |true=>simp[e,ih,G x List.mem_cons_self e]
theorem df{α:Type}{fi:Dv->Option (List D)}{caps:List (Nat×Str)}{fe:Dv->Option D}{δ:Dv}{h k:α -> D}{xs:List α}(e:fi δ = some (xs.map h))(hl:xs.length<=16777216)(H:∀x∈xs,fe (.fz (h x)::capS δ caps)=some (k x)):dJ fi caps q9 fe δ = some (.list (xs.map k)):=by
 unfold dJ;rw[e,Option.bind_some,if_pos (by rw[List.length_map];exact hl),ou xs (k:=k) fun x hx=>by
  show fe _=_;exact H x hx]
 rfl
theorem lW{α:Type}{fi:Dv->Option (List D)}{caps:List (Nat×Str)}{ft:Dv->Option Bool}{fe:Dv->Option D}{δ:Dv}{h k:α -> D}{b:α -> Bool}{xs:List α}(e:fi δ = some (xs.map h))(hl:xs.length<=16777216)(H:∀x∈xs,ft (.fz (h x)::capS δ caps)=some (b x))(G:∀x∈xs,b x=true->fe (.fz (h x)::capS δ caps)=some (k x)):iS fi caps q9 ft fe δ = some (.list ((xs.filter b).map k)):=by
 unfold iS;rw[e,Option.bind_some,if_pos (by rw[List.length_map];exact hl),oO xs (b:=b) (k:=k) (fun x hx=>by
  show ft _=_;exact H x hx) (fun x hx hb=>by
  show fe _=_;exact G x hx hb)]
 rfl
@[simp] theorem Cp(u w:Sf)(δ:Dv)(a b:Int):BH u w δ (!(a==b))=if a=b then w δ else u δ:=by
 by_cases h:a=b
 ·subst h;simp
 ·have:(a==b)=false:=by simpa using h
  rw[this,if_neg h];rfl
@[simp] theorem Dq(a b c d e f:D):lj [a,b,c,d,e,f]=some (.list [a,b,c,d,e,f]):=qG (by simp)
noncomputable def rowD:Row->D
 |.swing j=>.tuple [.str "swing",.int j]
 |.turn j e=>.tuple [.str "turn",.int j,.int e]
 |.flip j=>.tuple [.str "flip",.int j]
 |.tie i j=>.tuple [.str "tie",.int i,.int j]
 |.sign i j=>.tuple [.str "sign",.int i,.int j]
 |.cross i j=>.tuple [.str "cross",.int i,.int j]
theorem ke{b:Sf}{k:Nat}(I:Nat->Dv->Prop)(n:Nat)(h:∀i,i<n->∀ δ,I i δ -> ∃ δ2,b (δ.set k (.fz (.int i)))=some (.nx,δ2)/\I (i+1) δ2):∀ δ,I 0 δ -> ∃ δ',loop (gN k) b (iM 0 n) δ = some (.nx,δ')/\I n δ':=by
 have go:∀(m i:Nat),i+m=n->∀ δ,I i δ -> ∃ δ',loop (gN k) b ((List.range' i m).map fun(k:Nat)=>PyData.int (0+(k:Int))) δ = some (.nx,δ')/\I n δ':=by
  intro m
  induction m with
  |zero=>intro i e δ h;exact⟨δ,rfl,by rw[<-e];exact h⟩
  |succ m ih=>
   intro i e δ hi;obtain⟨δ2,e2,h2⟩:=h i (by lia) δ hi;obtain⟨δ',e3,h3⟩:=ih (i+1) (by lia) δ2 h2;refine⟨δ',?_,h3⟩;rw[<-e3,List.range'_succ,List.map_cons];exact bn (δ1:=δ.set k (.fz (.int i))) (by simp) e2
 intro δ h0;have:=go n 0 (by lia) δ h0;rw[<-List.range_eq_range']at this;exact this
open MA (Wd par au)
noncomputable def aN(w:Wd):D:=.tuple [.int w.x,.int w.z,.int w.s]
theorem jQ(A B:Sl):∀(c n:Nat) (v:Nat),MA.lY n=c->v<2->eu cC dy (c+1) [A,B,.fz (.int n),.fz (.int v)]=some (.nx,[A,B,.fz (.int 0),.fz (.int ((v+c)%2:Nat))])
 | 0,n,v,hc,hv=>by
  have:n=0:=by
   refine Classical.byContradiction fun h=>?_
   have:=MA.iZ n n Nat.lt_two_pow_self h
   lia
  subst this;rw[pj _ (by simp[cC])];rw[show(v+0)%2=v by lia];rfl
 |c+1,n,v,hc,hv=>by
  have h0:n≠0:=fun z=>by subst z;rw[MA.fg]at hc;lia
  have hcl:=MA.iZ n n Nat.lt_two_pow_self h0;have ih:=jQ A B c (n &&& (n-1)) (1-v) (by lia) (by lia);have e1:Builtin.bitAnd (n:Int) ((n:Int)-1)=((n &&& (n-1):Nat):Int):=by
   rw[show(n:Int)-1=((n-1:Nat):Int) by lia];exact MA.nh _ _
  have e2:(1:Int)-(v:Int)=((1-v:Nat):Int):=by lia
  have e3:(1-v+c)%2=(v+(c+1))%2:=by lia
  rw[e3]at ih;exact sT _ (by simp[cC,h0]) (by simp[dy,e1,e2]) ih
theorem vK(a b n P:Int){r:Sl}(e1:Builtin.bitAnd a b=n)(e:eu cC dy wN [.fz (.int a),.fz (.int b),.fz (.int n),.fz (.int 0)]=some (.nx,[.fz (.int a),.fz (.int b),r,.fz (.int P)])):aY [.int a,.int b]=some (.int P):=by
 simp[-sSeq,-sIf,aK,bf,aY,runB,hG,av,e1,e]
theorem jR(a b:Nat)(h:a<2^100000):aY [.int a,.int b]=some (.int (par (a &&& b):Nat)):=by
 have hc:MA.lY (a &&& b)<=100000:=MA.uW _ _ (Nat.lt_of_le_of_lt Nat.and_le_left h);have e:=gW (jQ (.fz (.int a)) (.fz (.int b)) (MA.lY (a &&& b)) (a &&& b) 0 rfl (by decide)) (m:=wN) (by show _<=1000000;lia);have e1:=MA.nh a b;rw[show(0+MA.lY (a &&& b))%2=par (a &&& b) by unfold par;lia]at e;have e':eu cC dy wN [.fz (.int a),.fz (.int b),.fz (.int ((a &&& b:Nat):Int)),.fz (.int 0)]=_:=e;exact vK _ _ _ _ e1 e'
theorem vQ(a b c x y z v p q r:Int)(hv:aY [.int b,.int x]=some (.int v))(h1:Builtin.bitXor a x=p)(h2:Builtin.bitXor b y=q)(h3:(c+z+2*v)%4=r)(hm:IntMulOk 2 v):aw [.tuple [.int a,.int b,.int c],.tuple [.int x,.int y,.int z]]=some (.tuple [.int p,.int q,.int r]):=by
 simp[-sSeq,-sIf,aK,bf,aw,runB,fJ,av,hv,h1,h2,h3,hm]
theorem eV(u v:Wd){n:Nat}(hn:n<=6)(hu:u.ok n)(hv:v.ok n):aw [aN u,aN v]=some (aN (au u v)):=by
 have h:u.z<2^100000:=Nat.lt_of_lt_of_le hu.2.1 (Nat.pow_le_pow_right (by decide) (by lia));refine vQ _ _ _ _ _ _ _ _ _ _ (jR u.z v.x h) (MA.g9 _ _) (MA.g9 _ _) ?_ (.of_left (by decide));show _=(((u.s+v.s+2*par (u.z &&& v.x))%4:Nat):Int)
 lia
theorem qq(a b c x y z:Int):cy (.tuple [.int a,.int b,.int c]) (.tuple [.int x,.int y,.int z])=some (.bool (a==x&&(b==y&&c==z))):=by
 show(if _ then _ else _)=_;rw[if_pos ⟨rfl,rfl⟩];simp[PyData.eqv,PyData.eqvAll]
theorem CI:((List.range 6).all fun k=>(List.range 6).all fun l=>(List.range 64).all fun p=>(k==l)||((2^k ||| 2^l==2^k+2^l)&&(p &&& (2^k+2^l)==2^k*ar (2^k) p+2^l*ar (2^l) p)&&(p ^^^ (2^k+2^l)==jL (2^l) (jL (2^k) p))))=true:=by decide +kernel
section
variable{n:Nat}(hn:n<=6)
include hn
theorem nV:2^n<=64:=(Nat.pow_le_pow_right (by decide) hn:2^n<=2^6)
theorem nq{i j p:Nat}(hi:i<n)(hj:j<n)(hij:i≠j)(hp:p<2^n):wt n i ||| wt n j=wt n i+wt n j/\p &&& (wt n i+wt n j)=wt n i*ar (wt n i) p+wt n j*ar (wt n j) p/\p ^^^ (wt n i+wt n j)=jL (wt n j) (jL (wt n i) p):=by
 have h:=CI;rw[List.all_eq_true]at h;have h:=h (n-1-i) (List.mem_range.mpr (by lia));rw[List.all_eq_true]at h;have h:=h (n-1-j) (List.mem_range.mpr (by lia));rw[List.all_eq_true]at h;have h:=h p (List.mem_range.mpr (Nat.lt_of_lt_of_le hp (nV hn)));rw[Bool.or_eq_true,Bool.and_eq_true,Bool.and_eq_true,beq_iff_eq,beq_iff_eq,beq_iff_eq,beq_iff_eq]at h;rcases h with h|h
 ·exact absurd h (by lia)
 ·exact⟨h.1.1,h.1.2,h.2⟩
theorem bO{j:Nat}(hj:j<n):bK [.int n,.int j]=some (.int (wt n j:Nat)):=by
 have hb:Builtin.Int.intBits 1=1:=by decide +kernel
 have e:=jV (i:=1) (j:=(n:Int)-1-(j:Int)) (by lia) (by lia);have e2:(1:Int)*2^((n:Int)-1-(j:Int)).toNat=((wt n j:Nat):Int):=by
  unfold MA.wt;rw[show((n:Int)-1-(j:Int)).toNat=n-1-j by lia]
  push_cast
  lia
 rw[e2]at e;simp[bK,runB,ni,av,e]
end
theorem uP(p W m q r:Int)(c:Bool){b:Bool}(h1:Builtin.bitAnd p W=m)(h2:Builtin.bitXor p W=q)(h3:BG false (.int m) (.tuple [.int 0,.int W])=some (.bool b))(hb:b=c)(hr:(if c=true then p else q)=r):bh [.int p,.int W]=some (.int r):=by
 subst hb;cases b
 ·simp at hr;subst hr;simp[bh,runB,eJ,av,h1,h2,h3]
 ·simp at hr;subst hr;simp[bh,runB,eJ,av,h1,h2,h3]
section
variable{n:Nat}(hn:n<=6)
include hn
theorem qP{i j:Nat}(hi:i<n)(hj:j<n)(hij:i≠j){p:Nat}(hp:p<2^n):bh [.int p,.int ((wt n i+wt n j:Nat):Int)]=some (.int (oN n (.cross i j) p:Nat)):=by
 have ha:=nq hn hi hj hij hp;have b1:=MA.nh p (wt n i+wt n j);have b2:=MA.g9 p (wt n i+wt n j);rw[ha.2.1]at b1;rw[ha.2.2]at b2;have hwi:=MA.dD n i;have hwj:=MA.dD n j;have l1:=MA.d7 (wt n i) p;have l2:=MA.d7 (wt n j) p;have inT:∀a b:Int,BG false (.int a) (.tuple [.int 0,.int b])=some (.bool (0==a||b==a)):=fun a b=>by
  show some (PyData.bool (PyData.eqv (.int 0) (.int a)||(PyData.eqv (.int b) (.int a)||false)))=_;rw[Bool.or_false];rfl
 have ef:oN n (.cross i j) p=if ar (wt n i) p=ar (wt n j) p then p else jL (wt n j) (jL (wt n i) p):=rfl
 rw[ef];by_cases h:ar (wt n i) p=ar (wt n j) p
 ·rw[if_pos h]
  have hb:ar (wt n i) p=0\/ar (wt n i) p=1:=by lia
  refine uP _ _ _ _ _ true b1 b2 (inT _ _) ?_ rfl;rcases hb with hb|hb
  ·rw[<-h,hb];simp
  ·rw[<-h,hb];simp
 ·rw[if_neg h]
  refine uP _ _ _ _ _ false b1 b2 (inT _ _) ?_ rfl;have hb:(ar (wt n i) p=0/\ar (wt n j) p=1)\/(ar (wt n i) p=1/\ar (wt n j) p=0):=by lia
  rcases hb with⟨hb,hc⟩|⟨hb,hc⟩
  ·rw[hb,hc,Nat.mul_zero,Nat.mul_one,Nat.zero_add,Bool.or_eq_false_iff,beq_eq_false_iff_ne,beq_eq_false_iff_ne]
   lia
  ·rw[hb,hc,Nat.mul_zero,Nat.mul_one,Nat.add_zero,Bool.or_eq_false_iff,beq_eq_false_iff_ne,beq_eq_false_iff_ne]
   lia
end
theorem je(a b:Nat){c:Nat}(h:a &&& b=c):Builtin.bitAnd (a:Int) (b:Int)=(c:Int):=by rw[MA.nh,h]
theorem CV(U:D)(W x z s y c a v e x' z' s':Int)(u0:aF U (.int 0)=some (.int x))(u1:aF U (.int 1)=some (.int z))(u2:aF U (.int 2)=some (.int s))(h1:Builtin.bitXor x z=y)(h2:Builtin.bitAnd y W=c)(h3:Builtin.bitAnd x z=a)(h4:aY [.int a,.int W]=some (.int v))(m:IntMulOk 2 v)(h5:Builtin.bitXor x c=x')(h6:Builtin.bitXor z c=z')(h7:(s+2*v)%4=s'):bo [U,.int W]=some (.tuple [.int x',.int z',.int s']):=by
 simp[-sSeq,-sIf,aK,bf,bo,runB,dI,av,u0,u1,u2,h1,h2,h3,h4,m,h5,h6,h7]
theorem AG(U:D)(W x e:Int)(u0:aF U (.int 0)=some (.int x))(h1:Builtin.bitAnd x W=0):aP [U,.int W,.int e]=some U:=by
 simp[-sSeq,-sIf,aK,bf,aP,runB,b0,av,u0,h1]
theorem AF(U:D)(W x z s e a z' zz s':Int)(u0:aF U (.int 0)=some (.int x))(u1:aF U (.int 1)=some (.int z))(u2:aF U (.int 2)=some (.int s))(h1:Builtin.bitAnd x W=a)(ha:¬a=0)(he:¬e%2=1)(h2:Builtin.bitXor z W=zz)(hz:(if e%4=2 then zz else z)=z')(h3:(s+e/2)%4=s'):aP [U,.int W,.int e]=some (.tuple [.int x,.int z',.int s']):=by
 by_cases q:e%4=2
 ·rw[if_pos q]at hz;subst hz
  simp[-sSeq,-sIf,aK,bf,aP,runB,b0,av,u0,u1,u2,h1,ha,he,h2,q,h3]
 ·rw[if_neg q]at hz;subst hz
  simp[-sSeq,-sIf,aK,bf,aP,runB,b0,av,u0,u1,u2,h1,ha,he,h2,q,h3]
theorem CC(U:D)(W V x z s a b xx zz x' z':Int)(u0:aF U (.int 0)=some (.int x))(u1:aF U (.int 1)=some (.int z))(u2:aF U (.int 2)=some (.int s))(h1:Builtin.bitAnd x W=a)(h2:Builtin.bitAnd z V=b)(h3:Builtin.bitXor x V=xx)(h4:Builtin.bitXor z W=zz)(hx:(if a=0 then x else xx)=x')(hz:(if b=0 then z else zz)=z'):aX [U,.int W,.int V]=some (.tuple [.int x',.int z',.int s]):=by
 by_cases p:a=0<;>by_cases q:b=0
 ·rw[if_pos p]at hx;rw[if_pos q]at hz;subst hx hz
  simp[-sSeq,-sIf,aK,bf,aX,runB,bR,av,u0,u1,u2,h1,h2,h3,h4,p,q]
 ·rw[if_pos p]at hx;rw[if_neg q]at hz;subst hx hz
  simp[-sSeq,-sIf,aK,bf,aX,runB,bR,av,u0,u1,u2,h1,h2,h3,h4,p,q]
 ·rw[if_neg p]at hx;rw[if_pos q]at hz;subst hx hz
  simp[-sSeq,-sIf,aK,bf,aX,runB,bR,av,u0,u1,u2,h1,h2,h3,h4,p,q]
 ·rw[if_neg p]at hx;rw[if_neg q]at hz;subst hx hz
  simp[-sSeq,-sIf,aK,bf,aX,runB,bR,av,u0,u1,u2,h1,h2,h3,h4,p,q]
theorem C2(U:D)(W V x z s a b c B zz z' s2 s':Int)(u0:aF U (.int 0)=some (.int x))(u1:aF U (.int 1)=some (.int z))(u2:aF U (.int 2)=some (.int s))(h1:Builtin.bitAnd x W=a)(h2:Builtin.bitAnd x V=b)(hB:Builtin.bitOr W V=B)(h3:Builtin.bitAnd x B=c)(h4:Builtin.bitXor z V=zz)(hz:(if a=0 then(if b=0 then z else Builtin.bitXor z W)else(if b=0 then zz else Builtin.bitXor zz W))=z')(hs:(if c=B then s+2 else s)=s2)(h5:s2%4=s'):bu [U,.int W,.int V]=some (.tuple [.int x,.int z',.int s']):=by
 have k:∀a:Int,¬a=0->(!(a==0))=true:=fun a h=>by simpa using h
 by_cases p:a=0<;>by_cases q:b=0<;>by_cases r:c=B
 all_goals
  simp only[p,q,r,if_true,if_false]at hz hs;subst hz hs h5;simp[-sSeq,-sIf,aK,bf,bu,runB,d8,av,u0,u1,u2,h1,h2,hB,h3,h4,p,q,r]
section
variable(N:Int)(U R:D)(i j W V:Int)(r1:aF R (.int 1)=some (.int i))(v1:bK [.int N,.int i]=some (.int W))
include r1 v1
theorem u9(Y:D)(r0:aF R (.int 0)=some (.str "swing"))(h:bo [U,.int W]=some Y):aO [.int N,U,R]=some Y:=by
 simp[-sSeq,-sIf,aK,bf,aO,runB,cH,av,r0,r1,v1,h]
theorem q8(Y:D)(e:Int)(r0:aF R (.int 0)=some (.str "turn"))(r2:aF R (.int 2)=some (.int e))(h:aP [U,.int W,.int e]=some Y):aO [.int N,U,R]=some Y:=by
 simp[-sSeq,-sIf,aK,bf,aO,runB,cH,av,r0,r1,r2,v1,h]
theorem xu(x z s v s':Int)(r0:aF R (.int 0)=some (.str "flip"))(u0:aF U (.int 0)=some (.int x))(u1:aF U (.int 1)=some (.int z))(u2:aF U (.int 2)=some (.int s))(h:aY [.int z,.int W]=some (.int v))(m:IntMulOk 2 v)(hs:(s+2*v)%4=s'):aO [.int N,U,R]=some (.tuple [.int x,.int z,.int s']):=by
 simp[-sSeq,-sIf,aK,bf,aO,runB,cH,av,r0,r1,v1,u0,u1,u2,h,m,hs]
variable(r2:aF R (.int 2)=some (.int j))(v2:bK [.int N,.int j]=some (.int V))
include r2 v2
theorem zX(Y:D)(r0:aF R (.int 0)=some (.str "tie"))(h:aX [U,.int W,.int V]=some Y):aO [.int N,U,R]=some Y:=by
 simp[-sSeq,-sIf,aK,bf,aO,runB,cH,av,r0,r1,r2,v1,v2,h]
theorem xt(Y:D)(r0:aF R (.int 0)=some (.str "sign"))(h:bu [U,.int W,.int V]=some Y):aO [.int N,U,R]=some Y:=by
 simp[-sSeq,-sIf,aK,bf,aO,runB,cH,av,r0,r1,r2,v1,v2,h]
theorem va(x z s B x' z':Int)(r0:aF R (.int 0)=some (.str "cross"))(u0:aF U (.int 0)=some (.int x))(u1:aF U (.int 1)=some (.int z))(u2:aF U (.int 2)=some (.int s))(hB:Builtin.bitOr W V=B)(h1:bh [.int x,.int B]=some (.int x'))(h2:bh [.int z,.int B]=some (.int z')):aO [.int N,U,R]=some (.tuple [.int x',.int z',.int s]):=by
 simp[-sSeq,-sIf,aK,bf,aO,runB,cH,av,r0,r1,r2,v1,v2,u0,u1,u2,hB,h1,h2]
end
theorem kE{n:Nat}(hn:n<=6){r:Row}(hr:r.ok n){u:Wd}(hu:u.ok n)(lu:MA.vp n r u):aO [.int n,aN u,rowD r]=some (aN (MA.carry n r u)):=by
 have big:∀a:Nat,a<2^n->a<2^100000:=fun a h=>Nat.lt_of_lt_of_le h (Nat.pow_le_pow_right (by decide) (by lia))
 cases r with
 |swing j=>
  have hx:u.x ^^^ u.z<2^n:=Nat.xor_lt_two_pow hu.1 hu.2.1;have ha:u.x &&& u.z<2^n:=Nat.lt_of_le_of_lt Nat.and_le_left hu.1;have ec:(u.x ^^^ u.z) &&& wt n j=wt n j*((ar (wt n j) u.x+ar (wt n j) u.z)%2):=by rw[MA.jf hn hr hx,MA.aV]
  have ev:=jR (u.x &&& u.z) (wt n j) (big _ ha);have e2:par ((u.x &&& u.z) &&& wt n j)=ar (wt n j) u.x*ar (wt n j) u.z:=by
   have:=MA.j4 hn hr hu.1 (ar (wt n j) u.z) (MA.d7 _ _);rw[Nat.and_assoc,MA.jf hn hr hu.2.1,this,Nat.mul_comm]
  rw[e2]at ev;exact u9 n (aN u) _ j _ rfl (bO hn hr) _ rfl (CV (aN u) _ _ _ _ _ _ _ _ 0 _ _ _ rfl rfl rfl (MA.g9 _ _) (je _ _ ec) (MA.nh _ _) ev (.of_left (by decide +kernel)) (MA.g9 _ _) (MA.g9 _ _) (by show _=(((u.s+2*(ar (wt n j) u.x*ar (wt n j) u.z))%4:Nat):Int);lia))
 |turn j e=>
  have ha:=MA.jf hn hr.1 hu.1;have lu:e%2=0\/ar (wt n j) u.x=0:=lu;have hw:=MA.dD n j;rcases MA.b01 (wt n j) u.x with h|h
  ·have e0:MA.carry n (.turn j e) u=u:=by
    apply MA.cb
    ·rfl
    ·show u.z ^^^ wt n j*(ar (wt n j) u.x*_)=u.z
     rw[h,Nat.zero_mul,Nat.mul_zero,Nat.xor_zero]
    ·show(u.s+(e/2)*ar (wt n j) u.x)%4=u.s
     rw[h];have:=hu.2.2;lia
   rw[e0];refine q8 n (aN u) _ j _ rfl (bO hn hr.1) _ e rfl rfl (AG (aN u) _ _ _ rfl (je _ _ (c:=0) ?_));rw[ha,h,Nat.mul_zero]
  ·refine q8 n (aN u) _ j _ rfl (bO hn hr.1) _ e rfl rfl (AF (aN u) (wt n j:Nat) u.x u.z u.s e ((wt n j:Nat):Int) _ ((u.z ^^^ wt n j:Nat):Int) _ rfl rfl rfl (je _ _ (c:=wt n j) ?_) (by lia) (by lia) (MA.g9 _ _) ?_ ?_)
   ·rw[ha,h,Nat.mul_one]
   ·show _=((u.z ^^^ wt n j*(ar (wt n j) u.x*(if e%4=2 then 1 else 0)):Nat):Int)
    rw[h,Nat.one_mul];by_cases q:e%4=2
    ·rw[if_pos (by lia),if_pos q,Nat.mul_one]
    ·rw[if_neg (by lia),if_neg q,Nat.mul_zero,Nat.xor_zero]
   ·show _=(((u.s+(e/2)*ar (wt n j) u.x)%4:Nat):Int)
    rw[h,Nat.mul_one];lia
 |flip j=>
  have ev:=jR u.z (wt n j) (big _ hu.2.1);have e2:par (u.z &&& wt n j)=ar (wt n j) u.z:=by
   have:=MA.j4 hn hr hu.2.1 1 (by decide);rw[Nat.mul_one,Nat.one_mul]at this;exact this
  rw[e2]at ev;exact xu n (aN u) _ j _ rfl (bO hn hr) _ _ u.s _ _ rfl rfl rfl rfl ev (.of_left (by decide +kernel)) (by show _=(((u.s+2*ar (wt n j) u.z)%4:Nat):Int);lia)
 |tie i j=>
  obtain⟨hi,hj,hij⟩:=hr;have a1:=MA.jf hn hi hu.1;have a2:=MA.jf hn hj hu.2.1;have w1:=MA.dD n i;have w2:=MA.dD n j;refine zX n (aN u) _ i j _ _ rfl (bO hn hi) rfl (bO hn hj) _ rfl (CC (aN u) _ _ u.x u.z u.s _ _ _ _ _ _ rfl rfl rfl (je _ _ a1) (je _ _ a2) (MA.g9 _ _) (MA.g9 _ _) ?_ ?_)
  ·show _=((u.x ^^^ wt n j*ar (wt n i) u.x:Nat):Int)
   rcases MA.b01 (wt n i) u.x with h|h<;>rw[h]
   ·rw[Nat.mul_zero,if_pos (show((0:Nat):Int)=0 from rfl),Nat.mul_zero,Nat.xor_zero]
   ·simp only[Nat.mul_one]
    rw[if_neg (by lia)]
  ·show _=((u.z ^^^ wt n i*ar (wt n j) u.z:Nat):Int)
   rcases MA.b01 (wt n j) u.z with h|h<;>rw[h]
   ·rw[Nat.mul_zero,if_pos (show((0:Nat):Int)=0 from rfl),Nat.mul_zero,Nat.xor_zero]
   ·simp only[Nat.mul_one]
    rw[if_neg (by lia)]
 |sign i j=>
  obtain⟨hi,hj,hij⟩:=hr;have a1:=MA.jf hn hi hu.1;have a2:=MA.jf hn hj hu.1;have w1:=MA.dD n i;have w2:=MA.dD n j;have hB:=MA.Ct (wt n i) (wt n j);have t2:=nq hn hi hj hij hu.1;rw[t2.1]at hB;refine xt n (aN u) _ i j _ _ rfl (bO hn hi) rfl (bO hn hj) _ rfl (C2 (aN u) _ _ u.x u.z u.s _ _ _ _ _ _ _ _ rfl rfl rfl (je _ _ a1) (je _ _ a2) hB (je _ _ t2.2.1) (MA.g9 _ _) ?_ rfl ?_)
  ·show _=((u.z ^^^ wt n j*ar (wt n i) u.x ^^^ wt n i*ar (wt n j) u.x:Nat):Int)
   rw[MA.g9,MA.g9];rcases MA.b01 (wt n i) u.x with h|h<;>rcases MA.b01 (wt n j) u.x with h2|h2<;>rw[h,h2]
   ·simp
   ·rw[Nat.mul_zero,Nat.mul_one,if_pos (show((0:Nat):Int)=0 from rfl),if_neg (by lia),Nat.mul_zero,Nat.mul_one,Nat.xor_zero]
   ·rw[Nat.mul_zero,Nat.mul_one,if_neg (by lia),if_pos (show((0:Nat):Int)=0 from rfl),Nat.mul_zero,Nat.mul_one,Nat.xor_zero]
   ·simp only[Nat.mul_one]
    rw[if_neg (by lia),if_neg (by lia)]
  ·show _=(((u.s+2*(ar (wt n i) u.x*ar (wt n j) u.x))%4:Nat):Int)
   rcases MA.b01 (wt n i) u.x with h|h<;>rcases MA.b01 (wt n j) u.x with h2|h2<;>rw[h,h2]
   ·rw[if_neg (by lia)];lia
   ·rw[if_neg (by lia)];lia
   ·rw[if_neg (by lia)];lia
   ·rw[if_pos (by lia)];lia
 |cross i j=>
  obtain⟨hi,hj,hij⟩:=hr;have hB:=MA.Ct (wt n i) (wt n j);rw[(nq hn hi hj hij hu.1).1]at hB;have e1:=qP hn hi hj hij hu.1;have e2:=qP hn hi hj hij hu.2.1;rw[MA.qT hn hi hj hu.1]at e1;rw[MA.qT hn hi hj hu.2.1]at e2;exact va n (aN u) _ i j _ _ rfl (bO hn hi) rfl (bO hn hj) _ _ _ _ _ _ rfl rfl rfl rfl hB e1 e2
theorem AA(a b:Nat)(ha:a<2)(hb:b<2):Builtin.bitXor (a:Int) (b:Int)=((a+b)%2:Nat):=by
 rw[MA.g9];have:a=0\/a=1:=by lia
 have:b=0\/b=1:=by lia
 rcases ‹a=0\/a=1› with rfl|rfl<;>rcases ‹b=0\/b=1› with rfl|rfl<;>rfl
theorem xB(a:Nat):Builtin.bitAnd (a:Int) 1=((a%2:Nat):Int):=by
 have:=MA.nh a 1;rw[show((1:Nat):Int)=1 from rfl]at this;rw[this,Nat.and_one_is_mod]
theorem Bk(p i o b s r:Int)(h0:fj (.int p) (.int i)=some (.int s))(h1:Builtin.bitAnd s 1=b)(h2:Builtin.bitXor o b=r):cF [.fz (.int p),.fz (.int o),.fz (.int i)]=some (.nx,[.fz (.int p),.fz (.int r),.fz (.int i)]):=by
 simp[cF,h0,h1,h2]
theorem e6(p i o:Nat)(ho:o<2):cF [.fz (.int p),.fz (.int o),.fz (.int i)]=some (.nx,[.fz (.int p),.fz (.int ((o+p/2^i%2)%2:Nat)),.fz (.int i)]):=by
 have e0:fj (.int (p:Int)) (.int (i:Int))=some (.int ((p/2^i:Nat):Int)):=by
  rw[jU (by lia),Int.toNat_natCast];congr 2
 exact Bk _ _ _ _ _ _ e0 (xB (p/2^i)) (AA o (p/2^i%2) ho (Nat.mod_lt _ (by decide)))
theorem Bj(p P:Int)(L:List D)(z:Sl)(e:bS [.int 6]=some L)(lp:loop (gN 2) cF L [.fz (.int p),.fz (.int 0),.un]=some (.nx,[.fz (.int p),.fz (.int P),z])):bw [.int p]=some (.int P):=by
 simp[bw,runB,hW,av,e,lp]
theorem uk(p:Nat)(h:p<64):bw [.int p]=some (.int (par p:Nat)):=by
 have e:bS [.int 6]=some [.int 0,.int 1,.int 2,.int 3,.int 4,.int 5]:=rfl;have s0:=e6 p 0 0 (by decide);have s1:=e6 p 1 ((0+p/2^0%2)%2) (by lia);have s2:=e6 p 2 (((0+p/2^0%2)%2+p/2^1%2)%2) (by lia);have s3:=e6 p 3 ((((0+p/2^0%2)%2+p/2^1%2)%2+p/2^2%2)%2) (by lia);have s4:=e6 p 4 (((((0+p/2^0%2)%2+p/2^1%2)%2+p/2^2%2)%2+p/2^3%2)%2) (by lia);have s5:=e6 p 5 ((((((0+p/2^0%2)%2+p/2^1%2)%2+p/2^2%2)%2+p/2^3%2)%2+p/2^4%2)%2) (by lia);have hp:=MA.j5 h;have ef:((((((0+p/2^0%2)%2+p/2^1%2)%2+p/2^2%2)%2+p/2^3%2)%2+p/2^4%2)%2+p/2^5%2)%2=par p:=by
  rw[hp];simp only[show(2:Nat)^0=1 from rfl,show(2:Nat)^1=2 from rfl,show(2:Nat)^2=4 from rfl,show(2:Nat)^3=8 from rfl,show(2:Nat)^4=16 from rfl,show(2:Nat)^5=32 from rfl,Nat.div_one]
  lia
 rw[ef]at s5;have lp:loop (gN 2) cF [.int 0,.int 1,.int 2,.int 3,.int 4,.int 5] [.fz (.int p),.fz (.int 0),.un]=some (.nx,[.fz (.int p),.fz (.int (par p:Nat)),.fz (.int 5)]):=by
  rw[bn (by rfl) s0,bn (by rfl) s1,bn (by rfl) s2,bn (by rfl) s3,bn (by rfl) s4,bn (by rfl) s5];rfl
 exact Bj _ _ _ _ e lp
theorem q0(ns:List Int)(k:Int)(hk:0<=k):∃c,aQ [.list (ns.map .int),.int k]=some (.int c):=by
 by_cases h:k<ns.length
 ·have hk':k.toNat<ns.length:=by lia
  refine⟨ns[k.toNat],?_⟩;have e:h8 (ns.map PyData.int) k=some (.int ns[k.toNat]):=ek (j:=k.toNat) (by lia) (by simp[hk']);simp[aQ,runB,dh,av,h,e]
 ·exact⟨0,by simp[aQ,runB,dh,av,h]⟩
theorem C3(w:Nat)(h:w<=100):gI (.int 1) (.int (w:Int))=some (.int ((2^w:Nat):Int)):=by
 have hb:Builtin.Int.intBits 1=1:=by decide +kernel
 have e:=jV (i:=1) (j:=(w:Int)) (by lia) (by lia);rw[e];simp
theorem uI(U:D)(n M x z s:Int)(L:List D)(q:Sl)(f1:fG "tuple" U=some (.bool true))(f2:d5 [U]=some (.int 3))(f3:da U=some L)(f4:aF U (.int 0)=some (.int x))(f5:aF U (.int 1)=some (.int z))(f6:aF U (.int 2)=some (.int s))(lp:loop (gN 2) bP L [.fz U,.fz (.int n),.un]=some (.nx,[.fz U,.fz (.int n),q]))(hs:gI (.int 1) (.int n)=some (.int M))(a:x<M)(b:z<M)(c:s<4):bi [U,.int n]=some (.bool true):=by
 simp[-sSeq,-sIf,aK,bf,bi,runB,eh,av,f1,f2,f3,f4,f5,f6,lp,hs,a,b,c]
theorem sk(u:Wd)(n:Nat)(hn:n<=6)(hu:u.ok n):bi [aN u,.int n]=some (.bool true):=by
 have hs:=C3 n (by lia);have a:(u.x:Int)<((2^n:Nat):Int):=by have:=hu.1;lia
 have b:(u.z:Int)<((2^n:Nat):Int):=by have:=hu.2.1;lia
 have c:(u.s:Int)<4:=by have:=hu.2.2;lia
 have st:∀(i:Nat) (z:Sl),bP [.fz (aN u),.fz (.int n),.fz (.int i)]=some (.nx,[.fz (aN u),.fz (.int n),.fz (.int i)]):=fun i z=>by
  have:¬((i:Int)<0):=by lia
  simp[-sSeq,-sIf,aK,bf,bP,db,runB,fM,av,this]
 have lp:loop (gN 2) bP [.int u.x,.int u.z,.int u.s] [.fz (aN u),.fz (.int n),.un]=some (.nx,[.fz (aN u),.fz (.int n),.fz (.int u.s)]):=by
  rw[bn (by rfl) (st u.x .un),bn (by rfl) (st u.z .un),bn (by rfl) (st u.s .un)];rfl
 have f1:fG "tuple" (aN u)=some (.bool true):=rfl;have f2:d5 [aN u]=some (.int 3):=rfl;have f3:da (aN u)=some [.int u.x,.int u.z,.int u.s]:=rfl;have f4:aF (aN u) (.int 0)=some (.int u.x):=rfl;have f5:aF (aN u) (.int 1)=some (.int u.z):=rfl;have f6:aF (aN u) (.int 2)=some (.int u.s):=rfl;exact uI _ _ _ _ _ _ _ _ f1 f2 f3 f4 f5 f6 lp hs a b c
noncomputable def agB(u v:Wd):Bool:=decide (par (u.z &&& v.x)=par (u.x &&& v.z))
noncomputable def dU(u:Wd):Bool:=decide ((u.s+par (u.x &&& u.z))%2=0)
def kA:Row->Prop
 |.turn _ e=>e%2=0
 |_=>True
theorem bF{n:Nat}{r:Row}(h:kA r)(u:Wd):MA.vp n r u:=by
 cases r<;>first|exact trivial|exact .inl h
theorem qf{n:Nat}{u v:Wd}(hu:u.ok n)(hv:v.ok n):agB u v=true↔au u v=au v u:=by
 have p1:=MA.cu (u.z &&& v.x);have p2:=MA.cu (v.z &&& u.x);have e:par (u.x &&& v.z)=par (v.z &&& u.x):=by rw[Nat.and_comm]
 unfold agB;rw[decide_eq_true_iff,e];constructor
 ·intro h
  refine MA.cb (Nat.xor_comm _ _) (Nat.xor_comm _ _) ?_;show(u.s+v.s+2*par (u.z &&& v.x))%4=(v.s+u.s+2*par (v.z &&& u.x))%4;rw[h,Nat.add_comm u.s v.s]
 ·intro h
  have h:(u.s+v.s+2*par (u.z &&& v.x))%4=(v.s+u.s+2*par (v.z &&& u.x))%4:=congrArg Wd.s h
  lia
theorem str_iff{u:Wd}:dU u=true↔au u u=⟨0,0,0⟩:=by
 have p1:=MA.cu (u.z &&& u.x);have e:par (u.x &&& u.z)=par (u.z &&& u.x):=by rw[Nat.and_comm]
 unfold dU;rw[decide_eq_true_iff,e];constructor
 ·intro h
  refine MA.cb (Nat.xor_self _) (Nat.xor_self _) ?_;show(u.s+u.s+2*par (u.z &&& u.x))%4=0
  lia
 ·intro h
  have h:(u.s+u.s+2*par (u.z &&& u.x))%4=0:=congrArg Wd.s h
  lia
theorem sE(n:Nat)(r:Row):MA.carry n r ⟨0,0,0⟩=⟨0,0,0⟩:=by
 cases r<;>simp[MA.carry,MA.gu]
section
variable{n:Nat}(hn:n<=6){r:Row}(hr:r.ok n)(he:kA r)
include hn hr he
theorem sG{u v:Wd}(hu:u.ok n)(hv:v.ok n)(h:MA.carry n r u=MA.carry n r v):u=v:=by
 rw[<-MA.g8 hr hu (bF he u),<-MA.g8 hr hv (bF he v),h]
theorem iF{u v:Wd}(hu:u.ok n)(hv:v.ok n):agB (MA.carry n r u) (MA.carry n r v)=agB u v:=by
 rw[Bool.eq_iff_iff,qf (MA.gq hr hu) (MA.gq hr hv),qf hu hv,<-MA.i0 hn hr hu hv (bF he u) (bF he v),<-MA.i0 hn hr hv hu (bF he v) (bF he u)];exact⟨fun h=>sG hn hr he (MA.aS hu hv) (MA.aS hv hu) h,fun h=>by rw[h]⟩
theorem rK{u:Wd}(hu:u.ok n)(h:dU u=true):dU (MA.carry n r u)=true:=by
 rw[str_iff,<-MA.i0 hn hr hu hu (bF he u) (bF he u),str_iff.mp h,sE]
end
noncomputable def jm(p:Wd×Wd):D:=.tuple [aN p.1,aN p.2]
noncomputable def bd(T:List (Wd×Wd)):D:=.tuple (T.map jm)
structure Good (n:Nat) (T:List (Wd×Wd)):Prop where
 len:T.length=n
 ok:∀p∈T,p.1.ok n/\p.2.ok n/\dU p.2=true
 ag:∀(i j:Nat) (p q:Wd×Wd),T[i]? = some p->T[j]? = some q->agB p.2 q.2=true/\agB p.1 q.2=!decide (i=j)
noncomputable def cT(n:Nat)(r:Row)(p:Wd×Wd):Wd×Wd:=(MA.carry n r p.1,MA.carry n r p.2)
theorem Good.carry{n:Nat}(hn:n<=6){r:Row}(hr:r.ok n)(he:kA r){T:List (Wd×Wd)}(g:Good n T):Good n (T.map (cT n r)):=by
 refine⟨by rw[List.length_map,g.len],fun p hp=>?_,fun i j p q hp hq=>?_⟩
 ·obtain⟨q,hq,rfl⟩:=List.mem_map.mp hp
  obtain⟨a,b,c⟩:=g.ok q hq;exact⟨MA.gq hr a,MA.gq hr b,rK hn hr he b c⟩
 ·rw[List.getElem?_map]at hp hq
  obtain⟨p',hp',rfl⟩:=Option.map_eq_some_iff.mp hp;obtain⟨q',hq',rfl⟩:=Option.map_eq_some_iff.mp hq;obtain⟨a1,a2,_⟩:=g.ok p' (List.mem_of_getElem? hp');obtain⟨b1,b2,_⟩:=g.ok q' (List.mem_of_getElem? hq');obtain⟨c1,c2⟩:=g.ag i j p' q' hp' hq';exact⟨(iF hn hr he a2 b2).trans c1,(iF hn hr he a1 b2).trans c2⟩
theorem yc{n a b:Nat}(hn:n<=6)(ha:a<2^n):a &&& b<64:=Nat.lt_of_le_of_lt Nat.and_le_left (Nat.lt_of_lt_of_le ha (nV hn))
theorem Df(p:Wd×Wd):aF (jm p) (.int 0)=some (aN p.1):=rfl
theorem A9(p:Wd×Wd):aF (jm p) (.int 1)=some (aN p.2):=rfl
theorem nb(b:Bool):neD (.bool b) (.bool b)=some (.bool false):=by cases b<;>rfl
theorem Dk(i j:Nat):neD (.int (i:Int)) (.int (j:Int))=some (.bool (!decide (i=j))):=by
 have:neD (.int (i:Int)) (.int (j:Int))=some (.bool (!((i:Int)==(j:Int)))):=rfl;rw[this];by_cases h:i=j
 ·subst h;simp
 ·have h':¬(i:Int)=j:=by lia
  simp[h,h']
noncomputable def ja:Row->Bool
 |.turn _ e=>e%2==1
 |_=>false
theorem qQ{r:Row}(h:ja r=false):kA r:=by
 cases r<;>first|exact trivial|(rename_i j e;have h:(e%2==1)=false:=h;have:¬e%2=1:=(by simpa using h);show e%2=0;lia)
theorem em2(e:Nat):((e:Int)%2==1)=(e%2==1):=by
 rcases Nat.mod_two_eq_zero_or_one e with h|h
 ·have:(e:Int)%2=0:=by lia
  rw[h,this];rfl
 ·have:(e:Int)%2=1:=by lia
  rw[h,this];rfl
theorem C7(r:Row):gM [.fz (.tuple [rowD r])]=some (.list [.bool (ja r)]):=by
 refine df (h:=rowD) (k:=fun r=>PyData.bool (ja r)) (xs:=[r]) (by simp) (by simp) fun q _=>?_
 cases q<;>simp[capS,rowD,ja,em2]
theorem DS(b:Bool):Ac [.list [.bool b]]=some (.bool b):=by cases b<;>rfl
theorem A2{r:Row}(h:ja r=false):bM [.tuple [rowD r]]=some .none:=by
 have p:=C7 r;rw[h]at p;have a:=DS false;simp[-sSeq,-sIf,aK,bf,bM,runB,fL,av,p,a]
theorem CD(F R G:D)(n:Int)(L:List D)(ro:bM [.tuple [R]]=some .none)(ln:d5 [F]=some (.int n))(p:eL [.fz F,.fz R,.fz (.int n)]=some (.list L))(tp:eK [.list L]=some G):bC [F,R]=some G:=by
 simp[-sSeq,-sIf,aK,bf,bC,runB,fK,av,ro,ln,p,tp]
theorem AH{n:Nat}(hn:n<=6){r:Row}(hr:r.ok n)(ho:ja r=false){T:List (Wd×Wd)}(g:Good n T):bC [bd T,rowD r]=some (bd (T.map (cT n r))):=by
 have he:=qQ ho;have p:eL [.fz (bd T),.fz (rowD r),.fz (.int n)]=some (.list (T.map fun p=>jm (cT n r p))):=df (h:=jm) (k:=fun p=>jm (cT n r p)) (xs:=T) (by simp[bd]) (by rw[g.len];lia) fun p hp=>by
  obtain⟨a,b,_⟩:=g.ok p hp;have c1:=kE hn hr a (bF he _);have c2:=kE hn hr b (bF he _);simp[capS,Df,A9,c1,c2,jm,cT]
 refine CD _ _ _ n _ (A2 ho) (by show some (PyData.int _)=_;rw[List.length_map,g.len]) p ?_;unfold bd;rw[List.map_map];rfl
noncomputable def pB(n p:Nat):List (Wd×Wd):=(List.range n).map fun i=>(⟨wt n i,0,0⟩,⟨0,wt n i,2*ar (wt n i) p⟩)
theorem yY{n i j:Nat}(hn:n<=6)(hi:i<n)(hj:j<n):par (wt n i &&& wt n j)=if i=j then 1 else 0:=by
 have h:=MA.cr (e:=1) hn hi (MA.qk hj) (by decide);rw[Nat.mul_one,Nat.one_mul]at h;rw[h];by_cases e:i=j
 ·subst e
  rw[if_pos rfl];have:=MA.jd (n:=n) (i:=i) 1 (by decide)
  rwa [Nat.mul_one]at this
 ·rw[if_neg e]
  have:=MA.hE hi hj e 1 (by decide)
  rwa [Nat.mul_one]at this
theorem mE{n p i:Nat}{x:Wd×Wd}(h:(pB n p)[i]? = some x):i<n/\x=(⟨wt n i,0,0⟩,⟨0,wt n i,2*ar (wt n i) p⟩):=by
 unfold pB at h;rw[List.getElem?_map]at h;obtain⟨k,hk,rfl⟩:=Option.map_eq_some_iff.mp h;have hi:i<n:=by
  have:=(List.getElem?_eq_some_iff.mp hk).1;simpa using this
 rw[List.getElem?_range hi]at hk;cases hk;exact⟨hi,rfl⟩
theorem rJ{n:Nat}(hn:n<=6)(p:Nat):Good n (pB n p):=by
 refine⟨by simp[pB],fun x hx=>?_,fun i j x y hx hy=>?_⟩
 ·obtain⟨i,hi⟩:=List.mem_iff_getElem?.mp hx
  obtain⟨h,rfl⟩:=mE hi;have b:=MA.d7 (wt n i) p;have w:=MA.qk h;refine⟨⟨w,Nat.pow_pos (by decide),(by show 0<4;decide)⟩,⟨Nat.pow_pos (by decide),w,by show 2*_<4;lia⟩,?_⟩;unfold dU;rw[decide_eq_true_iff];show(2*ar (wt n i) p+par (0 &&& wt n i))%2=0;rw[Nat.zero_and,MA.bE]
  lia
 ·obtain⟨h1,rfl⟩:=mE hx
  obtain⟨h2,rfl⟩:=mE hy;constructor
  ·unfold agB
   rw[decide_eq_true_iff];show par (wt n i &&& 0)=par (0 &&& wt n j);rw[Nat.zero_and,Nat.and_zero]
  ·unfold agB
   show decide (par (0 &&& 0)=par (wt n i &&& wt n j))=_;rw[Nat.zero_and,MA.bE,yY hn h1 h2];by_cases e:i=j<;>simp[e]
theorem v7(n:Nat):iM 0 n=(List.range n).map fun(k:Nat)=>PyData.int (k:Int):=by
 unfold iM;refine List.map_congr_left fun k _=>?_
 rw[Int.zero_add]
theorem zZ(n p i:Nat)(hi:i<n):fj (.int (p:Int)) (.int ((n:Int)-1-(i:Int)))=some (.int ((p/wt n i:Nat):Int)):=by
 rw[jU (by lia),show((n:Int)-1-(i:Int)).toNat=n-1-i by lia];congr 2
theorem z7(n p:Int)(xs:List Nat)(f:Nat->Nat)(hN:bS [.int n]=some (xs.map fun(k:Nat)=>PyData.int (k:Int)))(hl:xs.length<=1000)(H:∀i∈xs,∃q:Int,fj (.int p) (.int (n-1-(i:Int)))=some (.int q)/\Builtin.bitAnd q 1=(f i:Int)):gZ [.fz (.int n),.fz (.int p)]=some (.list (xs.map fun i=>.int (f i:Nat))):=
 df (h:=fun(k:Nat)=>PyData.int (k:Int)) (k:=fun i=>PyData.int (f i:Nat)) (xs:=xs) (by simp[hN]) (by lia) fun i hi=>by
  obtain⟨q,s,a⟩:=H i hi;simp[capS,s,a]
theorem zY(n p:Int)(L:List D)(e:gZ [.fz (.int n),.fz (.int p)]=some (.list L)):cG [.int n,.int p]=some (.tuple L):=by
 simp[cG,runB,i5,av,e]
theorem rR(n:Nat)(hn:n<=6):bS [.int (n:Int)]=some ((List.range n).map fun(k:Nat)=>PyData.int (k:Int)):=by
 rw[<-v7];exact iN (j:=(n:Int)) (by lia) (by lia)
theorem xw(n p:Nat)(hn:n<=6):cG [.int n,.int p]=some (.tuple ((List.range n).map fun i=>.int (ar (wt n i) p:Nat))):=
 zY _ _ _ (z7 n p (List.range n) (fun i=>ar (wt n i) p) (rR n hn) (by rw[List.length_range];lia) fun i hi=>⟨_,zZ n p i (List.mem_range.mp hi),xB _⟩)
theorem vS(n p:Int)(B:D)(F L:List D)(b:cG [.int n,.int p]=some B)(p1:∀z3,fZ [.fz (.int n),.fz (.int p),.fz B,z3]=some (.list F))(p2:fY [.fz (.int n),.fz (.int p),.fz B,.fz (.list F)]=some (.list L)):bL [.int n,.int p]=some (.tuple L):=by
 simp[-sSeq,-sIf,aK,bf,bL,runB,hJ,av,b,p1,p2]
theorem Ey{n i:Nat}(hi:i<n)(f:Nat->D):h8 ((List.range n).map f) (i:Int)=some (f i):=ek (j:=i) rfl (by simp[hi])
theorem yl(n p:Int)(B:D)(z3:Sl)(xs:List Nat)(f:Nat->Nat)(hN:bS [.int n]=some (xs.map fun(k:Nat)=>PyData.int (k:Int)))(hl:xs.length<=1000)(H:∀i∈xs,bK [.int n,.int (i:Nat)]=some (.int (f i:Nat))):fZ [.fz (.int n),.fz (.int p),.fz B,z3]=some (.list (xs.map fun i=>.int (f i:Nat))):=
 df (h:=fun(k:Nat)=>PyData.int (k:Int)) (k:=fun i=>PyData.int (f i:Nat)) (xs:=xs) (by simp[hN]) (by lia) fun i hi=>by
  have s:=H i hi;simp[capS,s]
theorem yk(n p:Int)(B F:D)(xs:List Nat)(f g:Nat->Nat)(hN:bS [.int n]=some (xs.map fun(k:Nat)=>PyData.int (k:Int)))(hl:xs.length<=1000)(hB:∀i∈xs,aF B (.int (i:Nat))=some (.int (g i:Nat)))(hF:∀i∈xs,aF F (.int (i:Nat))=some (.int (f i:Nat))):fY [.fz (.int n),.fz (.int p),.fz B,.fz F]=some (.list (xs.map fun i=>jm (⟨f i,0,0⟩,⟨0,f i,2*g i⟩))):=
 df (h:=fun(k:Nat)=>PyData.int (k:Int)) (k:=fun i=>jm (⟨f i,0,0⟩,⟨0,f i,2*g i⟩)) (xs:=xs) (by simp[hN]) (by lia) fun i hi=>by
  have a:=hB i hi;have b:=hF i hi;have m:IntMulOk 2 ((g i:Nat):Int):=.of_left (Nat.le_trans (MA.jM (m:=2) (by lia)) (by decide));simp[capS,a,b,m,jm,aN]
theorem tz{n:Nat}(hn:n<=6)(p:Nat):bL [.int n,.int p]=some (bd (pB n p)):=by
 have hl:(List.range n).length<=1000:=by rw[List.length_range];lia
 have e2:=yk n p (.tuple ((List.range n).map fun i=>.int (ar (wt n i) p:Nat))) (.list ((List.range n).map fun i=>.int (wt n i:Nat))) (List.range n) (fun i=>wt n i) (fun i=>ar (wt n i) p) (rR n hn) hl (fun i hi=>Ey (List.mem_range.mp hi) fun i=>PyData.int (ar (wt n i) p:Nat)) (fun i hi=>Ey (List.mem_range.mp hi) fun i=>PyData.int (wt n i:Nat))
 have:=vS n p _ _ _ (xw n p hn) (fun z3=>yl n p _ z3 (List.range n) (fun i=>wt n i) (rR n hn) hl fun i hi=>bO hn (List.mem_range.mp hi)) e2
 rw[this];unfold bd pB;rw[List.map_map];rfl
theorem bz(u v:Wd):agB u v=agB v u:=by
 unfold agB;rw[Nat.and_comm u.z v.x,Nat.and_comm u.x v.z];by_cases h:par (v.x &&& u.z)=par (v.z &&& u.x)<;>simp[h,eq_comm]
theorem nt(u:Wd):agB u u=true:=by
 unfold agB;rw[Nat.and_comm u.z u.x];simp
theorem nv(u v w:Wd):agB (au u v) w=(agB u w==agB v w):=by
 unfold agB;show decide (par ((u.z ^^^ v.z) &&& w.x)=par ((u.x ^^^ v.x) &&& w.z))=_;rw[MA.ij,MA.ij];have a1:=MA.cu (u.z &&& w.x);have a2:=MA.cu (v.z &&& w.x);have a3:=MA.cu (u.x &&& w.z);have a4:=MA.cu (v.x &&& w.z);generalize par (u.z &&& w.x)=a at *;generalize par (v.z &&& w.x)=b at *;generalize par (u.x &&& w.z)=c at *;generalize par (v.x &&& w.z)=d at *;by_cases h1:a=c<;>by_cases h2:b=d<;>simp[h1,h2]<;>lia
theorem di(u v w:Wd):agB w (au u v)=(agB w u==agB w v):=by rw[bz,nv,bz u,bz v]
theorem mF{u v:Wd}(hu:dU u=true)(hv:dU v=true)(h:agB u v=true):dU (au u v)=true:=by
 unfold dU at *;unfold agB at h;rw[decide_eq_true_iff]at *;show((u.s+v.s+2*par (u.z &&& v.x))%4+par ((u.x ^^^ v.x) &&& (u.z ^^^ v.z)))%2=0;rw[MA.ij,MA.gL,MA.gL,Nat.and_comm v.x u.z]
 lia
structure Tb (n:Nat) (T:List (Wd×Wd)):Prop where
 good:Good n T
 inj:∀w:Wd,w.ok n->(∀p∈T,agB p.1 w=true/\agB p.2 w=true)->w.x=0/\w.z=0
theorem wB:((List.range 7).all fun n=>(List.range (2^n)).all fun p=>(p==0)||(List.range n).any fun i=>ar (wt n i) p != 0)=true:=by decide +kernel
theorem ma{n p:Nat}(hn:n<=6)(hp:p<2^n)(h:∀i,i<n->ar (wt n i) p=0):p=0:=by
 have q:=wB;rw[List.all_eq_true]at q;have q:=q n (List.mem_range.mpr (by lia));rw[List.all_eq_true]at q;have q:=q p (List.mem_range.mpr hp);rw[Bool.or_eq_true]at q;rcases q with q|q
 ·simpa using q
 ·obtain⟨i,hi,hb⟩:=List.any_eq_true.mp q
  have:=h i (List.mem_range.mp hi);rw[this]at hb;cases hb
theorem DT{n i:Nat}(hn:n<=6)(hi:i<n){w:Wd}(hw:w.ok n)(s:Nat):agB ⟨0,wt n i,s⟩ w=decide (ar (wt n i) w.x=0):=by
 unfold agB;show decide (par (wt n i &&& w.x)=par (0 &&& w.z))=_;have:=MA.cr hn hi hw.1 1 (by decide);rw[Nat.mul_one,Nat.one_mul]at this;rw[this,Nat.zero_and,MA.bE]
theorem DU{n i:Nat}(hn:n<=6)(hi:i<n){w:Wd}(hw:w.ok n)(s:Nat):agB ⟨wt n i,0,s⟩ w=decide (ar (wt n i) w.z=0):=by
 unfold agB;show decide (par (0 &&& w.x)=par (wt n i &&& w.z))=_;have:=MA.cr hn hi hw.2.1 1 (by decide);rw[Nat.mul_one,Nat.one_mul]at this;rw[this,Nat.zero_and,MA.bE];by_cases h:ar (wt n i) w.z=0<;>simp[h,eq_comm]
theorem vT{n:Nat}(hn:n<=6)(p:Nat):Tb n (pB n p):=by
 refine⟨rJ hn p,fun w hw h=>?_⟩
 have at':∀i,i<n->ar (wt n i) w.z=0/\ar (wt n i) w.x=0:=fun i hi=>by
  obtain⟨h1,h2⟩:=h (⟨wt n i,0,0⟩,⟨0,wt n i,2*ar (wt n i) p⟩) (List.mem_map.mpr ⟨i,List.mem_range.mpr hi,rfl⟩);have h1:agB ⟨wt n i,0,0⟩ w=true:=h1;have h2:agB ⟨0,wt n i,2*ar (wt n i) p⟩ w=true:=h2;rw[DU hn hi hw]at h1;rw[DT hn hi hw]at h2;exact⟨of_decide_eq_true h1,of_decide_eq_true h2⟩
 exact⟨ma hn hw.1 fun i hi=>(at' i hi).2,ma hn hw.2.1 fun i hi=>(at' i hi).1⟩
theorem xA{n:Nat}{r:Row}(hr:r.ok n):(MA.kJ r).ok n:=by
 cases r with
 |turn j e=>exact⟨hr.1,by have:=hr.2;lia,by have:=hr.2;lia⟩
 |_=>exact hr
theorem sJ{n:Nat}{r:Row}(hr:r.ok n)(he:kA r):kA (MA.kJ r):=by
 cases r with
 |turn j e=>show(8-e)%2=0;have:=hr.2;have he:e%2=0:=he;lia
 |_=>exact he
theorem sM{n:Nat}{r:Row}(hr:r.ok n):MA.kJ (MA.kJ r)=r:=by
 cases r with
 |turn j e=>show Row.turn j (8-(8-e))=_;have:=hr.2;rw[show 8-(8-e)=e by lia]
 |_=>rfl
theorem sF(n:Nat)(r:Row)(w:Wd)(h1:w.x=0)(h2:w.z=0):(MA.carry n r w).x=0/\(MA.carry n r w).z=0:=by
 obtain⟨x,z,s⟩:=w;dsimp only at h1 h2;subst h1 h2;cases r<;>simp[MA.carry,MA.gu]
theorem Tb.carry{n:Nat}(hn:n<=6){r:Row}(hr:r.ok n)(he:kA r){T:List (Wd×Wd)}(t:Tb n T):Tb n (T.map (cT n r)):=by
 refine⟨t.good.carry hn hr he,fun w hw h=>?_⟩
 have hb:=xA hr;have hw':=MA.gq hb hw;have e:MA.carry n r (MA.carry n (MA.kJ r) w)=w:=by
  have:=MA.g8 hb hw (bF (sJ hr he) w)
  rwa [sM hr]at this
 obtain⟨a,b⟩:=t.inj (MA.carry n (MA.kJ r) w) hw' fun p hp=>by
  obtain⟨o1,o2,_⟩:=t.good.ok p hp;obtain⟨g1,g2⟩:=h (cT n r p) (List.mem_map.mpr ⟨p,hp,rfl⟩);rw[<-e]at g1 g2;exact⟨(iF hn hr he o1 hw').symm.trans g1,(iF hn hr he o2 hw').symm.trans g2⟩
 have:=sF n r _ a b
 rwa [e]at this
noncomputable def nA(L K w:Wd):Wd:=if agB w L=true then w else au w K
noncomputable def yd(L K:Wd)(p:Wd×Wd):Wd×Wd:=(nA L K p.1,nA L K p.2)
theorem vj{n:Nat}{L K w:Wd}(hw:w.ok n)(hK:K.ok n):(nA L K w).ok n:=by
 unfold nA;split
 ·exact hw
 ·exact MA.aS hw hK
theorem vk{L K w:Wd}(h:agB K L=false):agB (nA L K w) L=true:=by
 unfold nA;split
 ·assumption
 ·rename_i h2
  rw[nv,h,Bool.eq_false_iff.mpr h2];rfl
theorem mr{L K w v:Wd}(h:agB K v=true):agB (nA L K w) v=agB w v:=by
 unfold nA;split
 ·rfl
 ·rw[nv,h]
  cases agB w v<;>rfl
theorem rm{L K w v:Wd}(hw:agB K w=true)(hv:agB K v=true):agB (nA L K w) (nA L K v)=agB w v:=by
 have h1:agB K (nA L K v)=true:=by rw[bz,mr (nt K),bz];exact hv
 rw[mr h1,bz,mr hw,bz]
theorem xG{L K w:Wd}(hw:dU w=true)(hK:dU K=true)(h:agB w K=true):dU (nA L K w)=true:=by
 unfold nA;split
 ·exact hw
 ·exact mF hw hK h
theorem mH{α β:Type}{T:List α}{f:α -> β}{k i:Nat}{x q:β}(h:((T.map f).set k x)[i]? = some q):(i=k/\q=x)\/(i≠k/\∃p,T[i]? = some p/\q=f p):=by
 by_cases hi:k=i
 ·subst hi
  rw[List.getElem?_set]at h;simp only[if_true]at h;split at h
  ·cases h;exact .inl ⟨rfl,rfl⟩
  ·cases h
 ·rw[List.getElem?_set_ne hi,List.getElem?_map]at h
  obtain⟨p,hp,rfl⟩:=Option.map_eq_some_iff.mp h;exact .inr ⟨fun z=>hi z.symm,p,hp,rfl⟩
theorem B3{u v w:Wd}(h1:u.x=v.x)(h2:u.z=v.z):agB u w=agB v w:=by
 unfold agB;rw[h1,h2]
theorem dL{a b:Nat}(h:a ^^^ b=0):a=b:=by
 have:(a ^^^ b) ^^^ b=b:=by rw[h,Nat.zero_xor]
 rwa [Nat.xor_assoc,Nat.xor_self,Nat.xor_zero]at this
theorem Tb.opened{n:Nat}{T:List (Wd×Wd)}(t:Tb n T){k:Nat}{p:Wd×Wd}(hk:T[k]? = some p){L:Wd}(hL:L.ok n)(sL:dU L=true)(hA:agB p.2 L=false):Tb n ((T.map (yd L p.2)).set k (p.2,L)):=by
 have okp:=t.good.ok p (List.mem_of_getElem? hk);have hklt:k<T.length:=(List.getElem?_eq_some_iff.mp hk).1;have sK:∀(i:Nat) (q:Wd×Wd),T[i]? = some q->agB p.2 q.2=true:=fun i q hq=>(t.good.ag k i p q hk hq).1
 have dK:∀(i:Nat) (q:Wd×Wd),i≠k->T[i]? = some q->agB p.2 q.1=true:=fun i q hi hq=>by
  have:=(t.good.ag i k q p hq hk).2;rw[bz,this];simp[hi]
 refine⟨⟨by rw[List.length_set,List.length_map];exact t.good.len,fun q hq=>?_,fun i j q r hq hr=>?_⟩,fun w hw h=>?_⟩
 ·obtain⟨i,hi⟩:=List.mem_iff_getElem?.mp hq
  rcases mH hi with⟨_,rfl⟩|⟨_,q',hq',rfl⟩
  ·exact⟨okp.2.1,hL,sL⟩
  ·have o:=t.good.ok q' (List.mem_of_getElem? hq')
   exact⟨vj o.1 okp.2.1,vj o.2.1 okp.2.1,xG o.2.2 okp.2.2 (by rw[bz];exact sK i q' hq')⟩
 ·rcases mH hq with⟨rfl,rfl⟩|⟨hi,q',hq',rfl⟩
  ·rcases mH hr with⟨rfl,rfl⟩|⟨hj,r',hr',rfl⟩
   ·exact⟨nt L,by show agB p.2 L=_;rw[hA];simp⟩
   ·refine⟨by show agB L (nA L p.2 r'.2)=true;rw[bz];exact vk hA,?_⟩
    show agB p.2 (nA L p.2 r'.2)=_;rw[bz,mr (nt _),bz,sK j r' hr'];simp[Ne.symm hj]
  ·rcases mH hr with⟨rfl,rfl⟩|⟨hj,r',hr',rfl⟩
   ·exact⟨vk hA,by show agB (nA L p.2 q'.1) L=_;rw[vk hA];simp[hi]⟩
   ·have g:=t.good.ag i j q' r' hq' hr'
    exact⟨(rm (sK i q' hq') (sK j r' hr')).trans g.1,(rm (dK i q' hi hq') (sK j r' hr')).trans g.2⟩
 ·have hself:=h (p.2,L) (List.mem_iff_getElem?.mpr ⟨k,by rw[List.getElem?_set,if_pos rfl,if_pos (by simpa using hklt)]⟩)
  have hK:agB p.2 w=true:=hself.1;have hLw:agB L w=true:=hself.2;have oth:∀(i:Nat) (q:Wd×Wd),i≠k->T[i]? = some q->agB q.1 w=true/\agB q.2 w=true:=fun i q hi hq=>by
   obtain⟨g1,g2⟩:=h (yd L p.2 q) (List.mem_iff_getElem?.mpr ⟨i,by rw[List.getElem?_set_ne (Ne.symm hi),List.getElem?_map,hq];rfl⟩);exact⟨(mr hK).symm.trans g1,(mr hK).symm.trans g2⟩
  have all2:∀q∈T,agB q.2 w=true:=fun q hq=>by
   obtain⟨i,hi⟩:=List.mem_iff_getElem?.mp hq;by_cases hik:i=k
   ·subst hik;rw[hk]at hi;cases hi;exact hK
   ·exact(oth i q hik hi).2
  cases hb:agB p.1 w with
  |true=>
   refine t.inj w hw fun q hq=>⟨?_,all2 q hq⟩
   obtain⟨i,hi⟩:=List.mem_iff_getElem?.mp hq;by_cases hik:i=k
   ·subst hik;rw[hk]at hi;cases hi;exact hb
   ·exact(oth i q hik hi).1
  |false=>
   exfalso;obtain⟨v1,v2⟩:=t.inj (au w p.2) (MA.aS hw okp.2.1) fun q hq=>by
    obtain⟨i,hi⟩:=List.mem_iff_getElem?.mp hq;have e2:agB q.2 (au w p.2)=true:=by
     rw[di,all2 q hq,bz,sK i q hi];rfl
    refine⟨?_,e2⟩;rw[di,(t.good.ag i k q p hi hk).2];by_cases hik:i=k
    ·subst hik;rw[hk]at hi;cases hi;rw[hb];simp
    ·rw[(oth i q hik hi).1];simp[hik]
   have:=B3 (w:=L) (dL v1) (dL v2);rw[hA,bz,hLw]at this;cases this
noncomputable def sx(T:List (Wd×Wd))(i:Nat):Wd:=(T[i]?.getD (⟨0,0,0⟩,⟨0,0,0⟩)).2
noncomputable def dx(T:List (Wd×Wd))(i:Nat):Wd:=(T[i]?.getD (⟨0,0,0⟩,⟨0,0,0⟩)).1
theorem lH{T:List (Wd×Wd)}{i:Nat}{p:Wd×Wd}(h:T[i]? = some p):sx T i=p.2/\dx T i=p.1:=by
 unfold sx dx;rw[h];exact⟨rfl,rfl⟩
noncomputable def nT(T:List (Wd×Wd))(I:List Nat):Wd:=I.foldl (fun a i=>au a (sx T i)) ⟨0,0,0⟩
noncomputable def jK(T:List (Wd×Wd))(w:Wd)(m:Nat):List Nat:=(List.range m).filter fun i=>!agB (dx T i) w
theorem wd(T:List (Wd×Wd))(I:List Nat)(i:Nat):nT T (I++[i])=au (nT T I) (sx T i):=by
 unfold nT;rw[List.foldl_append];rfl
theorem mw(n:Nat):(⟨0,0,0⟩:Wd).ok n:=⟨Nat.pow_pos (by decide),Nat.pow_pos (by decide),by decide⟩
theorem jN(u:Wd):agB u ⟨0,0,0⟩=true:=by unfold agB;simp
theorem mL{n:Nat}{T:List (Wd×Wd)}(t:Tb n T)(w:Wd):∀m,m<=n->(nT T (jK T w m)).ok n/\dU (nT T (jK T w m))=true/\(∀p∈T,agB p.2 (nT T (jK T w m))=true)/\∀(j:Nat) (p:Wd×Wd),T[j]? = some p->agB p.1 (nT T (jK T w m))=(agB p.1 w || !decide (j<m))
 | 0,_=>⟨mw n,(str_iff.mpr (by show au ⟨0,0,0⟩ ⟨0,0,0⟩=_;unfold au;simp[MA.bE])),fun p _=>jN _,fun j p _=>by
   show agB p.1 ⟨0,0,0⟩=_;rw[jN];simp⟩
 |m+1,hm=>by
  obtain⟨h1,h2,h3,h4⟩:=mL t w m (by lia);have hlt:m<T.length:=by rw[t.good.len];lia
  have hq:T[m]? = some T[m]:=by simp[hlt]
  obtain⟨e1,e2⟩:=lH hq;have oq:=t.good.ok T[m] (List.getElem_mem hlt);cases hc:agB (dx T m) w with
  |true=>
   have e:jK T w (m+1)=jK T w m:=by
    unfold jK;rw[List.range_succ,List.filter_append];simp[hc]
   rw[e];refine⟨h1,h2,h3,fun j p hp=>?_⟩
   rw[h4 j p hp];by_cases hj:j=m
   ·subst hj;rw[hq]at hp;cases hp;rw[e2]at hc;rw[hc];rfl
   ·have:(j<m+1)=(j<m):=by simp;lia
    simp[this]
  |false=>
   have e:jK T w (m+1)=jK T w m++[m]:=by
    unfold jK;rw[List.range_succ,List.filter_append];simp[hc]
   rw[e,wd,e1];refine⟨MA.aS h1 oq.2.1,mF h2 oq.2.2 (by rw[bz];exact h3 T[m] (List.getElem_mem hlt)),fun p hp=>?_,fun j p hp=>?_⟩
   ·obtain⟨i,hi⟩:=List.mem_iff_getElem?.mp hp
    rw[di,h3 p hp,(t.good.ag i m p T[m] hi hq).1];rfl
   ·rw[di,h4 j p hp,(t.good.ag j m p T[m] hp hq).2]
    by_cases hj:j=m
    ·subst hj
     rw[hq]at hp;cases hp;rw[e2]at hc;rw[hc];simp
    ·have:(j<m+1)=(j<m):=by simp;lia
     simp[this,hj]
theorem yN{n:Nat}{T:List (Wd×Wd)}(t:Tb n T){w:Wd}(hw:w.ok n)(hA:∀p∈T,agB p.2 w=true):(nT T (jK T w n)).x=w.x/\(nT T (jK T w n)).z=w.z:=by
 obtain⟨h1,h2,h3,h4⟩:=mL t w n (Nat.le_refl _);obtain⟨a,b⟩:=t.inj (au (nT T (jK T w n)) w) (MA.aS h1 hw) fun p hp=>by
  obtain⟨i,hi⟩:=List.mem_iff_getElem?.mp hp;have hil:i<n:=by rw[<-t.good.len];exact(List.getElem?_eq_some_iff.mp hi).1
  refine⟨?_,by rw[di,h3 p hp,hA p hp];rfl⟩;rw[di,h4 i p hi];simp[hil]
 exact⟨dL a,dL b⟩
noncomputable def iH(n j m:Nat):Wd:=⟨0,wt n j,2*m⟩
theorem kf{n j m:Nat}(hj:j<n)(hm:m<2):(iH n j m).ok n:=⟨Nat.pow_pos (by decide),MA.qk hj,by show 2*m<4;lia⟩
theorem zo(n j m:Nat):dU (iH n j m)=true:=by
 unfold dU;rw[decide_eq_true_iff];show(2*m+par (0 &&& wt n j))%2=0;rw[Nat.zero_and,MA.bE];lia
theorem yj{n:Nat}{T:List (Wd×Wd)}(t:Tb n T){j:Nat}(hj:j<n)(hA:∀p∈T,agB p.2 (iH n j 0)=true):∃m,m<2/\nT T (jK T (iH n j 0) n)=iH n j m:=by
 obtain⟨e1,e2⟩:=yN t (kf hj (m:=0) (by decide)) hA;obtain⟨h1,h2,_,_⟩:=mL t (iH n j 0) n (Nat.le_refl _);have e1:(nT T (jK T (iH n j 0) n)).x=0:=e1;have e2:(nT T (jK T (iH n j 0) n)).z=wt n j:=e2;unfold dU at h2;rw[decide_eq_true_iff,e1,Nat.zero_and,MA.bE]at h2;have h3:=h1.2.2;refine⟨(nT T (jK T (iH n j 0) n)).s/2,by lia,MA.cb e1 e2 ?_⟩;show(nT T (jK T (iH n j 0) n)).s=2*((nT T (jK T (iH n j 0) n)).s/2)
 lia
theorem kN(u v:Wd){n:Nat}(hn:n<=6)(hu:u.ok n)(hv:v.ok n):b9 [aN u,aN v]=some (.bool (agB u v)):=by
 have e1:=eV u v hn hu hv;have e2:=eV v u hn hv hu;have e3:cy (aN (au u v)) (aN (au v u))=some (.bool (agB u v)):=by
  unfold aN;rw[qq];have a1:=MA.cu (u.z &&& v.x);have a2:=MA.cu (v.z &&& u.x);unfold au agB;rw[Nat.xor_comm v.x u.x,Nat.xor_comm v.z u.z,Nat.and_comm u.x v.z];simp only[beq_self_eq_true,Bool.true_and];congr 2;rw[Bool.eq_iff_iff];simp only[beq_iff_eq,decide_eq_true_iff]
  lia
 simp[b9,runB,nj,av,e1,e2,e3]
theorem jJ{n:Nat}{T:List (Wd×Wd)}(g:Good n T):d5 [bd T]=some (.int (n:Int)):=by
 show some (PyData.int _)=_;rw[List.length_map,g.len]
theorem Dp(F:D)(n j m w q:Int)(ln:d5 [F]=some (.int n))(h:bK [.int n,.int j]=some (.int w))(hm:IntMulOk 2 m)(hq:2*m=q):aU [F,.int j,.int m]=some (.tuple [.int 0,.int w,.int q]):=by
 simp[aU,runB,gv,av,ln,h,hm,hq]
theorem qF{n:Nat}(hn:n<=6){T:List (Wd×Wd)}(g:Good n T){j m:Nat}(hj:j<n)(hm:m<2):aU [bd T,.int j,.int m]=some (aN (iH n j m)):=
 Dp _ n j m _ _ (jJ g) (bO hn hj) (.of_left (by decide +kernel)) (by show 2*(m:Int)=((2*m:Nat):Int);push_cast;rfl)
theorem mD{T:List (Wd×Wd)}{i:Nat}(hi:i<T.length):aF (bd T) (.int (i:Int))=some (jm T[i]):=ek (j:=i) rfl (by simp[hi])
noncomputable def vE(T:List (Wd×Wd))(w:Wd)(n:Nat):List Nat:=(List.range n).filter fun i=>!agB (sx T i) w
theorem DV(F W:D)(n:Int)(N:Nat)(hN:N<=1000)(b:Nat->Bool)(ln:d5 [F]=some (.int n))(rg:bS [.int n]=some ((List.range N).map fun(k:Nat)=>PyData.int (k:Int)))(H:∀i,i<N->∃P U:D,aF F (.int (i:Nat))=some P/\aF P (.int 1)=some U/\b9 [U,W]=some (.bool (b i))):aI [F,W]=some (.list (((List.range N).filter fun i=>!b i).map fun(k:Nat)=>PyData.int (k:Int))):=by
 have p:fS [.fz F,.fz W]=some (.list (((List.range N).filter fun i=>!b i).map fun(k:Nat)=>PyData.int (k:Int))):=lW (h:=fun(k:Nat)=>PyData.int (k:Int)) (k:=fun(k:Nat)=>PyData.int (k:Int)) (b:=fun i=>!b i) (xs:=List.range N) (by simp[ln,rg]) (by rw[List.length_range];lia) (fun i hi=>by
  obtain⟨P,U,h1,h2,h3⟩:=H i (List.mem_range.mp hi);simp[capS,h1,h2,h3]) (fun i hi _=>by simp)
 simp[aI,runB,d9,av,p]
theorem Ds(F W:D)(n:Int)(N:Nat)(hN:N<=1000)(b:Nat->Bool)(ln:d5 [F]=some (.int n))(rg:bS [.int n]=some ((List.range N).map fun(k:Nat)=>PyData.int (k:Int)))(H:∀i,i<N->∃P U:D,aF F (.int (i:Nat))=some P/\aF P (.int 0)=some U/\b9 [U,W]=some (.bool (b i))):bq [F,W]=some (.list (((List.range N).filter fun i=>!b i).map fun(k:Nat)=>PyData.int (k:Int))):=by
 have p:f7 [.fz F,.fz W]=some (.list (((List.range N).filter fun i=>!b i).map fun(k:Nat)=>PyData.int (k:Int))):=lW (h:=fun(k:Nat)=>PyData.int (k:Int)) (k:=fun(k:Nat)=>PyData.int (k:Int)) (b:=fun i=>!b i) (xs:=List.range N) (by simp[ln,rg]) (by rw[List.length_range];lia) (fun i hi=>by
  obtain⟨P,U,h1,h2,h3⟩:=H i (List.mem_range.mp hi);simp[capS,h1,h2,h3]) (fun i hi _=>by simp)
 simp[bq,runB,eR,av,p]
theorem kO{n:Nat}(hn:n<=6){T:List (Wd×Wd)}(g:Good n T){w:Wd}(hw:w.ok n):aI [bd T,aN w]=some (.list ((vE T w n).map fun(k:Nat)=>PyData.int (k:Int))):=by
 refine DV _ _ n n (by lia) (fun i=>agB (sx T i) w) (jJ g) (rR n hn) fun i hi=>?_
 have hi':i<T.length:=by rw[g.len];exact hi
 refine⟨_,_,mD hi',A9 _,?_⟩;rw[(lH (List.getElem?_eq_getElem hi')).1];exact kN _ _ hn (g.ok _ (List.getElem_mem hi')).2.1 hw
theorem pR{n:Nat}(hn:n<=6){T:List (Wd×Wd)}(g:Good n T){w:Wd}(hw:w.ok n):bq [bd T,aN w]=some (.list ((jK T w n).map fun(k:Nat)=>PyData.int (k:Int))):=by
 refine Ds _ _ n n (by lia) (fun i=>agB (dx T i) w) (jJ g) (rR n hn) fun i hi=>?_
 have hi':i<T.length:=by rw[g.len];exact hi
 refine⟨_,_,mD hi',Df _,?_⟩;rw[(lH (List.getElem?_eq_getElem hi')).2];exact kN _ _ hn (g.ok _ (List.getElem_mem hi')).1 hw
theorem xH{n:Nat}{T:List (Wd×Wd)}(g:Good n T){w:Wd}(h:vE T w n=[]):∀p∈T,agB p.2 w=true:=fun p hp=>by
 obtain⟨i,hi⟩:=List.mem_iff_getElem?.mp hp;have hil:i<n:=by rw[<-g.len];exact(List.getElem?_eq_some_iff.mp hi).1
 cases e:agB p.2 w with
 |true=>rfl
 |false=>
  have:i∈vE T w n:=List.mem_filter.mpr ⟨List.mem_range.mpr hil,by rw[(lH hi).1,e];rfl⟩;rw[h]at this;cases this
theorem vn{n:Nat}{T:List (Wd×Wd)}(g:Good n T){w:Wd}{k:Nat}{I:List Nat}(h:vE T w n=k::I):∃p,T[k]? = some p/\agB p.2 w=false/\k<n:=by
 have hk:k∈vE T w n:=by rw[h];exact List.mem_cons_self
 obtain⟨h1,h2⟩:=List.mem_filter.mp hk;have h1:=List.mem_range.mp h1;have hl:k<T.length:=by rw[g.len];exact h1
 refine⟨T[k],List.getElem?_eq_getElem hl,?_,h1⟩;rw[(lH (List.getElem?_eq_getElem hl)).1]at h2;simpa using h2
theorem wX(I:List Nat):MA.Sh 1 (.list (I.map fun(k:Nat)=>PyData.int (k:Int))):=MA.Sh.list fun x hx=>by
 obtain⟨i,_,rfl⟩:=List.mem_map.mp hx;exact .int _ _
theorem yr{d:D}{k:Nat}(h:MA.Sh k d)(hk:k<=64):tM d=true:=by
 show(d.canLay0&&decide (d.depth<=64))=true;rw[h.1,decide_eq_true (Nat.le_trans h.2 hk)];rfl
theorem wC(k:Nat)(I:List Nat):neD (.list ((k::I).map fun(k:Nat)=>PyData.int (k:Int))) (.list [])=some (.bool true):=by
 unfold neD;rw[if_pos ⟨yr (wX _) (by decide),by rfl⟩];rfl
theorem zm:neD (.list ([].map fun(k:Nat)=>PyData.int (k:Int))) (.list [])=some (.bool false):=by rfl
theorem wG(F W A:D)(j:Int)(h1:aU [F,.int j,.int 0]=some W)(h2:aI [F,W]=some A)(ne:neD A (.list [])=some (.bool true)):aJ [F,.int j]=some .none:=by
 simp[-sSeq,-sIf,aK,bf,aJ,runB,eI,av,h1,h2,ne]
theorem Bq(F P V A B:D)(z1 z2:Sl)(k:Int)(h1:aF F (.int k)=some P)(h2:aF P (.int 1)=some V)(h3:aw [A,V]=some B):cY [.fz F,z1,z2,.fz A,.fz (.int k)]=some (.nx,[.fz F,z1,z2,.fz B,.fz (.int k)]):=by
 simp[cY,h1,h2,h3]
theorem oy{n:Nat}(hn:n<=6){T:List (Wd×Wd)}(g:Good n T)(z1 z2:Sl):∀(I:List Nat),(∀i∈I,i<n)->∀(a:Wd),a.ok n->∀z4,∃y4,loop (gN 4) cY (I.map fun(k:Nat)=>PyData.int (k:Int)) [.fz (bd T),z1,z2,.fz (aN a),z4]=some (.nx,[.fz (bd T),z1,z2,.fz (aN (I.foldl (fun a i=>au a (sx T i)) a)),y4])
 |[],_,a,_,z4=>⟨z4,rfl⟩
 |i::I,hI,a,ha,z4=>by
  have hi:i<T.length:=by rw[g.len];exact hI i List.mem_cons_self
  have e1:=(lH (List.getElem?_eq_getElem hi)).1;have ok:=(g.ok _ (List.getElem_mem hi)).2.1;obtain⟨y4,e⟩:=oy hn g z1 z2 I (fun j hj=>hI j (List.mem_cons_of_mem _ hj)) (au a (sx T i)) (by rw[e1];exact MA.aS ha ok) (.fz (.int i))
  refine⟨y4,?_⟩;rw[List.map_cons,bn (δ1:=[.fz (bd T),z1,z2,.fz (aN a),.fz (.int i)]) (by simp) (Bq _ _ _ _ _ z1 z2 i (mD hi) (A9 _) (eV a T[i].2 hn ha ok)),<-e1,e];rfl
theorem wF(F W A P:D)(j:Int)(L:List D)(y4:Sl)(b:Bool)(h1:aU [F,.int j,.int 0]=some W)(h2:aI [F,W]=some A)(ne:neD A (.list [])=some (.bool false))(h3:bq [F,W]=some (.list L))(lp:loop (gN 4) cY L [.fz F,.fz (.int j),.fz W,.fz (.tuple [.int 0,.int 0,.int 0]),.un]=some (.nx,[.fz F,.fz (.int j),.fz W,.fz P,y4]))(q:cy P W=some (.bool b)):aJ [F,.int j]=some (.int (if b=true then 0 else 1)):=by
 cases b<;>simp[-sSeq,-sIf,aK,bf,aJ,runB,eI,av,h1,h2,ne,h3,lp,q]
theorem zw{T:List (Wd×Wd)}{w:Wd}{n i:Nat}(h:i∈jK T w n):i<n:=List.mem_range.mp (List.mem_filter.mp h).1
theorem lF{n:Nat}(hn:n<=6){T:List (Wd×Wd)}(g:Good n T){j k:Nat}(hj:j<n){I:List Nat}(h:vE T (iH n j 0) n=k::I):aJ [bd T,.int j]=some .none:=
 wG _ _ _ j (qF hn g hj (m:=0) (by decide)) (kO hn g (kf hj (by decide))) (by rw[h];exact wC k I)
theorem rH{n:Nat}(hn:n<=6){T:List (Wd×Wd)}(t:Tb n T){j:Nat}(hj:j<n)(h:vE T (iH n j 0) n=[]):∃m,m<2/\nT T (jK T (iH n j 0) n)=iH n j m/\aJ [bd T,.int j]=some (.int (m:Nat)):=by
 obtain⟨m,hm,e⟩:=yj t hj (xH t.good h);refine⟨m,hm,e,?_⟩;obtain⟨y4,lp⟩:=oy hn t.good (.fz (.int j)) (.fz (aN (iH n j 0))) (jK T (iH n j 0) n) (fun i hi=>zw hi) ⟨0,0,0⟩ (mw n) .un;have e2:(jK T (iH n j 0) n).foldl (fun a i=>au a (sx T i)) ⟨0,0,0⟩=iH n j m:=e
 rw[e2]at lp;have q:cy (aN (iH n j m)) (aN (iH n j 0))=some (.bool (decide (m=0))):=by
  unfold aN;rw[qq];have:(((2*m:Nat):Int)==((2*0:Nat):Int))=decide (m=0):=by
   rw[Bool.eq_iff_iff,beq_iff_eq,decide_eq_true_iff];lia
  show some (PyData.bool ((0:Int)==0&&((wt n j:Int)==(wt n j:Int)&&(((2*m:Nat):Int)==((2*0:Nat):Int)))))=_;rw[this];simp
 have:=wF _ _ _ _ j _ y4 _ (qF hn t.good hj (m:=0) (by decide)) (kO hn t.good (kf hj (by decide))) (by rw[h];exact zm) (pR hn t.good (kf hj (by decide))) lp q;rw[this];have hm2:m=0\/m=1:=by lia
 rcases hm2 with rfl|rfl<;>rfl
theorem B2(U L K V:D)(b:Bool)(h1:b9 [U,L]=some (.bool b))(h2:aw [U,K]=some V):bZ [U,L,K]=some (if b=true then U else V):=by
 cases b<;>simp[bZ,runB,hU,av,h1,h2]
theorem vm{n:Nat}(hn:n<=6){w L K:Wd}(hw:w.ok n)(hL:L.ok n)(hK:K.ok n):bZ [aN w,aN L,aN K]=some (aN (nA L K w)):=by
 rw[B2 _ _ _ _ _ (kN w L hn hw hL) (eV w K hn hw hK)];unfold nA;split<;>rfl
theorem Di(F L K P:D)(k:Int)(N N':List D)(hk:aF F (.int k)=some P)(h1:aF P (.int 1)=some K)(hp:∀z4,iP [.fz F,.fz (.int k),.fz L,.fz K,z4]=some (.list N))(pt:yH N (.int k) (.tuple [K,L])=some N'):dA [F,.int k,L]=some (.tuple N'):=by
 rw[jZ]at pt;simp[-sSeq,-sIf,aK,bf,dA,runB,kK,av,hk,h1,hp,pt,Ar,wH,sC]
theorem zG{N i:Nat}(h:i<N):uG N (i:Int)=some i:=by
 unfold uG;simp
 lia
theorem rV{n:Nat}(hn:n<=6){T:List (Wd×Wd)}(g:Good n T){k:Nat}{p:Wd×Wd}(hk:T[k]? = some p){L:Wd}(hL:L.ok n):dA [bd T,.int k,aN L]=some (bd ((T.map (yd L p.2)).set k (p.2,L))):=by
 have hkl:k<T.length:=(List.getElem?_eq_some_iff.mp hk).1;have ep:T[k]=p:=by rw[List.getElem?_eq_getElem hkl]at hk;exact Option.some.inj hk
 have okp:=(g.ok p (List.mem_of_getElem? hk)).2.1;have hp:∀z4,iP [.fz (bd T),.fz (.int k),.fz (aN L),.fz (aN p.2),z4]=some (.list (T.map fun q=>jm (yd L p.2 q))):=fun z4=>df (h:=jm) (k:=fun q=>jm (yd L p.2 q)) (xs:=T) (by simp[bd]) (by rw[g.len];lia) fun q hq=>by
  obtain⟨a,b,_⟩:=g.ok q hq;have c1:=vm hn a hL okp;have c2:=vm hn b hL okp;simp[capS,Df,A9,c1,c2,jm,yd]
 have t1:=mD (T:=T) hkl;rw[ep]at t1;have:=Di _ (aN L) _ _ k _ ((T.map fun q=>jm (yd L p.2 q)).set k (jm (p.2,L))) t1 (A9 p) hp (by
  rw[jZ,List.length_map,zG hkl];rfl)
 rw[this];unfold bd;rw[List.map_set,List.map_map];rfl
theorem vP(F W A G:D)(j m k:Int)(h0:aJ [F,.int j]=some .none)(h1:aU [F,.int j,.int m]=some W)(h2:aI [F,W]=some A)(h3:aF A (.int 0)=some (.int k))(h4:dA [F,.int k,W]=some G):aM [F,.int j,.int m]=some G:=by
 simp[-sSeq,-sIf,aK,bf,aM,runB,dg,av,h0,h1,h2,h3,h4,isD]
theorem vO(F W:D)(j m:Int)(h0:aJ [F,.int j]=some (.int m))(h1:aU [F,.int j,.int m]=some W):aM [F,.int j,.int m]=some F:=by
 simp[-sSeq,-sIf,aK,bf,aM,runB,dg,av,h0,h1,isD]
theorem oB{n:Nat}(hn:n<=6){T:List (Wd×Wd)}(g:Good n T){j m k:Nat}(hj:j<n)(hm:m<2){I:List Nat}(h:vE T (iH n j 0) n=k::I){p:Wd×Wd}(hk:T[k]? = some p):aM [bd T,.int j,.int m]=some (bd ((T.map (yd (iH n j m) p.2)).set k (p.2,iH n j m))):=by
 have ha:=kO hn g (kf (m:=m) hj hm);have e:vE T (iH n j m) n=k::I:=h;rw[e]at ha;exact vP _ _ _ _ j m k (lF hn g hj h) (qF hn g hj hm) ha (ek (j:=0) rfl rfl) (rV hn g hk (kf hj hm))
section
variable(c w j t s:Int)(hj:cW (.int (c/6)) (.int w)=some (.int j))
include hj
theorem qH(hk:(if w=1 then h8 [PyData.str "swing",.str "turn",.str "flip"] (c%3)else h8 [PyData.str "swing",.str "turn",.str "flip",.str "tie",.str "sign",.str "cross"] (c%6))=some (.str "turn"))(k0:∃d,h8 [PyData.str "swing",.str "turn",.str "flip",.str "tie",.str "sign",.str "cross"] (c%6)=some d):ba [.int c,.int w]=some (.tuple [.str "turn",.int j,.int (2+2*(c/36%3))]):=by
 have im:IntMulOk 2 (c/36%3):=.of_left (by decide +kernel);obtain⟨d,k0⟩:=k0;by_cases q:w=1
 ·rw[if_pos q]at hk
  subst q;simp[-sSeq,-sIf,aK,bf,ba,runB,cA,av,k0,hk,hj,im]
 ·rw[if_neg q]at hk
  simp[-sSeq,-sIf,aK,bf,ba,runB,cA,av,hk,q,hj,im]
theorem mR(x:Str)(hx:x = "swing" \/ x = "flip")(hk:(if w=1 then h8 [PyData.str "swing",.str "turn",.str "flip"] (c%3)else h8 [PyData.str "swing",.str "turn",.str "flip",.str "tie",.str "sign",.str "cross"] (c%6))=some (.str x))(k0:∃d,h8 [PyData.str "swing",.str "turn",.str "flip",.str "tie",.str "sign",.str "cross"] (c%6)=some d):ba [.int c,.int w]=some (.tuple [.str x,.int j]):=by
 obtain⟨d,k0⟩:=k0;by_cases q:w=1
 ·rw[if_pos q]at hk
  subst q;rcases hx with rfl|rfl<;>simp[-sSeq,-sIf,aK,bf,ba,runB,cA,av,k0,hk,hj]
 ·rw[if_neg q]at hk
  rcases hx with rfl|rfl<;>simp[-sSeq,-sIf,aK,bf,ba,runB,cA,av,hk,q,hj]
theorem pO(q:¬w=1)(x:Str)(hx:x = "tie" \/ x = "sign" \/ x = "cross")(hk:h8 [PyData.str "swing",.str "turn",.str "flip",.str "tie",.str "sign",.str "cross"] (c%6)=some (.str x))(ht:cW (.int (c/36)) (.int (w-1))=some (.int t))(hs:cW (.int (j+1+t)) (.int w)=some (.int s)):ba [.int c,.int w]=some (.tuple [.str x,.int j,.int s]):=by
 rcases hx with rfl|rfl|rfl<;>simp[-sSeq,-sIf,aK,bf,ba,runB,cA,av,hk,q,hj,ht,hs]
end
theorem wI(c:Int)(w:Nat)(hw:1<=w):∃r:Row,r.ok w/\ja r=false/\ba [.int c,.int w]=some (rowD r):=by
 have hw0:(0:Int)<w:=by lia
 have a1:=Int.emod_nonneg (c/6) (show(w:Int)≠0 by lia);have a2:=Int.emod_lt_of_pos (c/6) hw0;obtain⟨j,hj⟩:∃j:Nat,c/6%w=j:=⟨(c/6%w).toNat,by lia⟩;have ej:=f9 (i:=c/6) hw0;rw[hj]at ej a1 a2;obtain⟨e,he⟩:∃e:Nat,2+2*(c/36%3)=(e:Int):=⟨(2+2*(c/36%3)).toNat,by lia⟩;have e20:e%2=0:=by lia
 have eo:ja (.turn j e)=false:=by
  show(e%2==1)=false;rw[e20];rfl
 have c6:c%6=0\/c%6=1\/c%6=2\/c%6=3\/c%6=4\/c%6=5:=by lia
 have k0:∃d,h8 [PyData.str "swing",.str "turn",.str "flip",.str "tie",.str "sign",.str "cross"] (c%6)=some d:=by
  rcases c6 with h|h|h|h|h|h<;>rw[h]
  ·exact⟨_,DR _ _⟩
  ·exact⟨_,DQ _ _ _⟩
  ·exact⟨_,DP _ _ _ _⟩
  ·exact⟨_,EB _ _ _ _ _⟩
  ·exact⟨_,EA _ _ _ _ _ _⟩
  ·exact⟨_,Ez _ _ _ _ _ _ _⟩
 have ok1:j<w:=by lia
 have okT:j<w/\1<=e/\e<=7:=by lia
 by_cases q:w=1
 ·have q':(w:Int)=1:=by lia
  have:c%3=0\/c%3=1\/c%3=2:=by lia
  rcases this with h|h|h
  ·exact⟨.swing j,ok1,rfl,mR c w j ej "swing" (.inl rfl) (by rw[if_pos q',h];exact DR _ _) k0⟩
  ·have:=qH c w j ej (by rw[if_pos q',h];exact DQ _ _ _) k0
   rw[he]at this;exact⟨.turn j e,okT,eo,this⟩
  ·exact⟨.flip j,ok1,rfl,mR c w j ej "flip" (.inr rfl) (by rw[if_pos q',h];exact DP _ _ _ _) k0⟩
 ·have q':¬(w:Int)=1:=by lia
  have b1:=Int.emod_nonneg (c/36) (show(w:Int)-1≠0 by lia);have b2:=Int.emod_lt_of_pos (c/36) (show 0<(w:Int)-1 by lia);have et:=f9 (i:=c/36) (show 0<(w:Int)-1 by lia);generalize c/36%((w:Int)-1)=t at *;have c1:=Int.emod_nonneg ((j:Int)+1+t) (show(w:Int)≠0 by lia);have c2:=Int.emod_lt_of_pos ((j:Int)+1+t) hw0;have ei:=f9 (i:=(j:Int)+1+t) hw0;obtain⟨i,hi⟩:∃i:Nat,((j:Int)+1+t)%w=i:=⟨(((j:Int)+1+t)%w).toNat,by lia⟩;have hij:j≠i:=fun z=>by
   by_cases hh:(j:Int)+1+t<w
   ·rw[Int.emod_eq_of_lt (by lia) hh]at hi;lia
   ·have:((j:Int)+1+t)%w=(j:Int)+1+t-w:=by
     rw[<-Int.sub_emod_right,Int.emod_eq_of_lt (by lia) (by lia)]
    lia
  rw[hi]at ei c1 c2;have k:j<w/\i<w/\j≠i:=⟨by lia,by lia,hij⟩;rcases c6 with h|h|h|h|h|h
  ·exact⟨.swing j,ok1,rfl,mR c w j ej "swing" (.inl rfl) (by rw[if_neg q',h];exact DR _ _) k0⟩
  ·have:=qH c w j ej (by rw[if_neg q',h];exact DQ _ _ _) k0
   rw[he]at this;exact⟨.turn j e,okT,eo,this⟩
  ·exact⟨.flip j,ok1,rfl,mR c w j ej "flip" (.inr rfl) (by rw[if_neg q',h];exact DP _ _ _ _) k0⟩
  ·exact⟨.tie j i,k,rfl,pO c w j t i ej q' "tie" (.inl rfl) (by rw[h];exact EB _ _ _ _ _) et ei⟩
  ·exact⟨.sign j i,k,rfl,pO c w j t i ej q' "sign" (.inr (.inl rfl)) (by rw[h];exact EA _ _ _ _ _ _) et ei⟩
  ·exact⟨.cross j i,k,rfl,pO c w j t i ej q' "cross" (.inr (.inr rfl)) (by rw[h];exact Ez _ _ _ _ _ _ _) et ei⟩
theorem xj(ns:List Int)(lo hi:Option Int):∃cs:List Int,cs.length<=ns.length/\Cc (.list (ns.map .int)) lo hi=some (.list (cs.map .int)):=by
 refine⟨(ns.drop (HT.sIx ns.length 0 lo)).take (HT.sIx ns.length ns.length hi-HT.sIx ns.length 0 lo),?_,?_⟩
 ·rw[List.length_take,List.length_drop];lia
 ·show some (PyData.list (oS _ _ _))=_
  unfold oS;rw[List.length_map,<-List.map_drop,<-List.map_take]
noncomputable def hasB(b k:Nat):Bool:=decide (b/2^k%2=1)
theorem kt(x k:Nat):hasB x k=x.testBit k:=by rw[Nat.testBit_eq_decide_div_mod_eq];rfl
theorem dz(a b k:Nat):hasB (a ^^^ b) k=(hasB a k != hasB b k):=by
 have e:∀x,hasB x k=x.testBit k:=fun x=>by
  rw[Nat.testBit_eq_decide_div_mod_eq];rfl
 rw[e,e,e,Nat.testBit_xor]
theorem Dh(a b c:Nat):par ((a ^^^ b) &&& c)=(par (a &&& c)+par (b &&& c))%2:=by rw[Nat.and_xor_distrib_right,MA.ii]
theorem Dg(a b c:Nat):par (a &&& (b ^^^ c))=(par (a &&& b)+par (a &&& c))%2:=by rw[Nat.and_xor_distrib_left,MA.ii]
noncomputable def tp(n:Nat):Nat:=Nat.log2 n
theorem fV{n:Nat}(h:n≠0):hasB n (tp n)=true:=by
 rw[kt];unfold tp;exact Nat.testBit_log2 h
theorem nH{n k:Nat}(h:tp n<k):hasB n k=false:=by
 rw[kt];exact Nat.testBit_lt_two_pow (Nat.lt_of_lt_of_le (Nat.lt_log2_self) (Nat.pow_le_pow_right (by decide) h))
theorem AE{n k:Nat}(h:hasB n k=true)(g:∀j,k<j->hasB n j=false):tp n=k:=by
 have hn:n≠0:=fun z=>by subst z;rw[kt,Nat.zero_testBit]at h;cases h
 rcases Nat.lt_trichotomy (tp n) k with z|z|z
 ·rw[nH z]at h;cases h
 ·exact z
 ·have:=fV hn
  rw[g _ z]at this;cases this
noncomputable def clr1(told:List Nat)(t:Nat):Nat:=told.foldl (fun t o=>if hasB t (tp o)then t ^^^ o else t) t
noncomputable def g7(told:List Nat)(a:Nat):List Nat:=if clr1 told a=0 then told else(told.map fun o=>if hasB o (tp (clr1 told a))then o ^^^ clr1 told a else o)++[clr1 told a]
noncomputable def DI(l:List Nat):List Nat:=l.foldl g7 []
structure Red (l:List Nat):Prop where
 nz:∀a∈l,a≠0
 pw:l.Pairwise fun a b=>hasB a (tp b)=false/\hasB b (tp a)=false
theorem bG(o:Nat)(l:List Nat)(t:Nat):clr1 (o::l) t=clr1 l (if hasB t (tp o)then t ^^^ o else t):=rfl
theorem u4{k:Nat}:∀(l:List Nat) (t:Nat),(∀o∈l,hasB o k=false)->hasB (clr1 l t) k=hasB t k
 |[],_,_=>rfl
 |o::l,t,h=>by
  rw[bG,u4 l _ fun a ha=>h a (.tail _ ha)]
  split
  ·rw[dz,h o (.head _)];simp
  ·rfl
theorem qY:∀(l:List Nat) (t:Nat),(∀a∈l,a≠0)->(l.Pairwise fun a b=>hasB a (tp b)=false/\hasB b (tp a)=false)->∀o∈l,hasB (clr1 l t) (tp o)=false
 |[],_,_,_,_,h=>by cases h
 |a::l,t,nz,pw,o,ho=>by
  rw[bG];have pw':=List.pairwise_cons.mp pw;rcases List.mem_cons.mp ho with rfl|ho
  ·rw[u4 l _ fun b hb=>(pw'.1 b hb).2]
   split
   ·rename_i h
    rw[dz,h,fV (nz _ (.head _))];rfl
   ·rename_i h
    exact Bool.eq_false_iff.mpr h
  ·exact qY l _ (fun b hb=>nz b (.tail _ hb)) pw'.2 o ho
noncomputable def vb(x a:Nat):Bool:=par (a &&& x)==1
theorem pk(x a b:Nat):vb x (a ^^^ b)=(vb x a != vb x b):=by
 unfold vb;rw[Nat.and_xor_distrib_right,MA.ii];have h1:=MA.cu (a &&& x);have h2:=MA.cu (b &&& x);rcases (by lia:par (a &&& x)=0\/par (a &&& x)=1)with e1|e1<;>rcases (by lia:par (b &&& x)=0\/par (b &&& x)=1)with e2|e2<;>rw[e1,e2]<;>rfl
theorem m8(x:Nat):∀(l:List Nat) (t:Nat),(∀o∈l,vb x o=false)->vb x (clr1 l t)=vb x t
 |[],_,_=>rfl
 |o::l,t,h=>by
  rw[bG,m8 x l _ fun a ha=>h a (.tail _ ha)]
  split
  ·rw[pk,h o (.head _)];simp
  ·rfl
theorem zW(x:Nat)(l:List Nat)(a:Nat):(∀o∈g7 l a,vb x o=false)↔(∀o∈l,vb x o=false)/\vb x a=false:=by
 unfold g7;split
 ·rename_i h
  constructor
  ·intro g
   refine⟨g,?_⟩;rw[<-m8 x l a g,h];unfold vb;rw[Nat.zero_and,MA.bE];rfl
  ·exact fun g=>g.1
 ·constructor
  ·intro g
   have gt:vb x (clr1 l a)=false:=g _ (List.mem_append_right _ (.head _));have gl:∀o∈l,vb x o=false:=fun o ho=>by
    have:=g _ (List.mem_append_left _ (List.mem_map_of_mem ho));split at this
    ·rw[pk,gt]at this
     simpa using this
    ·exact this
   exact⟨gl,by rw[<-m8 x l a gl];exact gt⟩
  ·rintro⟨gl,ga⟩ o ho
   have gt:vb x (clr1 l a)=false:=by rw[m8 x l a gl];exact ga
   rcases List.mem_append.mp ho with ho|ho
   ·obtain⟨o',h',rfl⟩:=List.mem_map.mp ho
    split
    ·rw[pk,gl o' h',gt];rfl
    ·exact gl o' h'
   ·rcases List.mem_singleton.mp ho with rfl
    exact gt
theorem oX{l:List Nat}(h:Red l)(a:Nat):Red (g7 l a):=by
 unfold g7;split
 ·exact h
 ·rename_i ht
  generalize hT:clr1 l a=t at ht ⊢;have no:∀o∈l,hasB t (tp o)=false:=hT ▸ qY l a h.nz h.pw;have hh:=fV ht;have tpS:∀o∈l,tp (if hasB o (tp t)then o ^^^ t else o)=tp o:=fun o ho=>by
   split
   ·rename_i hs
    refine AE (by rw[dz,fV (h.nz o ho),no o ho];rfl) fun j hj=>?_
    have lt:tp t<tp o:=by
     rcases Nat.lt_trichotomy (tp t) (tp o)with z|z|z
     ·exact z
     ·have:=no o ho;rw[<-z,hh]at this;cases this
     ·rw[nH z]at hs;cases hs
    rw[dz,nH hj,nH (Nat.lt_trans lt hj)];rfl
   ·rfl
  have bitS:∀o∈l,∀k,hasB t k=false->hasB (if hasB o (tp t)then o ^^^ t else o) k=hasB o k:=fun o ho k hk=>by
   split
   ·rw[dz,hk];simp
   ·rfl
  have topS:∀o∈l,hasB (if hasB o (tp t)then o ^^^ t else o) (tp t)=false:=fun o ho=>by
   split
   ·rename_i hs;rw[dz,hs,hh];rfl
   ·rename_i hs;exact Bool.eq_false_iff.mpr hs
  refine⟨fun b hb=>?_,List.pairwise_append.mpr ⟨List.pairwise_map.mpr (h.pw.imp_of_mem fun{a b} ha hb q=>⟨?_,?_⟩),List.pairwise_singleton _ _,fun b hb c hc=>?_⟩⟩
  ·rcases List.mem_append.mp hb with hb|hb
   ·obtain⟨o,ho,rfl⟩:=List.mem_map.mp hb
    intro z;have:=bitS o ho (tp o) (no o ho);rw[z,fV (h.nz o ho),kt,Nat.zero_testBit]at this;cases this
   ·rcases List.mem_singleton.mp hb with rfl
    exact ht
  ·rw[tpS b hb,bitS a ha _ (no b hb)];exact q.1
  ·rw[tpS a ha,bitS b hb _ (no a ha)];exact q.2
  ·obtain⟨o,ho,rfl⟩:=List.mem_map.mp hb
   rcases List.mem_singleton.mp hc with rfl
   exact⟨topS o ho,by rw[tpS o ho];exact no o ho⟩
theorem u3(x:Nat):∀(ts l:List Nat),Red l->Red (ts.foldl g7 l)/\((∀o∈ts.foldl g7 l,vb x o=false)↔(∀o∈l,vb x o=false)/\∀a∈ts,vb x a=false)
 |[],l,h=>⟨h,by simp⟩
 |a::ts,l,h=>by
  have g:=u3 x ts (g7 l a) (oX h a);refine⟨g.1,g.2.trans ?_⟩;rw[zW];constructor
  ·rintro⟨⟨g1,g2⟩,g3⟩
   exact⟨g1,fun b hb=>by rcases List.mem_cons.mp hb with rfl|hb;exact g2;exact g3 b hb⟩
  ·rintro⟨g1,g2⟩
   exact⟨⟨g1,g2 a (.head _)⟩,fun b hb=>g2 b (.tail _ hb)⟩
theorem xn(ts:List Nat):Red (DI ts):=(u3 0 ts [] ⟨(fun _ h=>nomatch h),.nil⟩).1
inductive Sp (l:List Nat):Nat->Prop
 |zero:Sp l 0
 |add {a b:Nat}:a∈l->Sp l b->Sp l (a ^^^ b)
theorem Sp.one{l:List Nat}{a:Nat}(h:a∈l):Sp l a:=by
 have:=Sp.add h Sp.zero
 rwa [Nat.xor_zero]at this
theorem Sp.xor{l:List Nat}{a b:Nat}(ha:Sp l a)(hb:Sp l b):Sp l (a ^^^ b):=by
 induction ha with
 |zero=>rw[Nat.zero_xor];exact hb
 |add h _ ih=>rw[Nat.xor_assoc];exact .add h ih
theorem Sp.sub{l l':List Nat}(h:∀a∈l,Sp l' a){a:Nat}(ha:Sp l a):Sp l' a:=by
 induction ha with
 |zero=>exact .zero
 |add g _ ih=>exact(h _ g).xor ih
theorem jF(a b:Nat):a ^^^ b ^^^ b=a:=by rw[Nat.xor_assoc,Nat.xor_self,Nat.xor_zero]
theorem qX(l:List Nat):∀(told:List Nat) (t:Nat),(∀o∈told,Sp l o)->∃s,Sp l s/\clr1 told t=t ^^^ s
 |[],t,_=>⟨0,.zero,(Nat.xor_zero t).symm⟩
 |o::told,t,h=>by
  rw[bG];obtain⟨s,hs,e⟩:=qX l told (if hasB t (tp o)then t ^^^ o else t) fun a ha=>h a (.tail _ ha)
  split at e
  ·rename_i q
   exact⟨o ^^^ s,(h o (.head _)).xor hs,by rw[if_pos q,e,Nat.xor_assoc]⟩
  ·rename_i q
   exact⟨s,hs,by rw[if_neg q,e]⟩
theorem qW(l:List Nat)(a b:Nat):Sp (g7 l a) b↔Sp (a::l) b:=by
 obtain⟨s,hs,e⟩:=qX l l a fun o ho=>.one ho
 have up:∀{c},Sp l c->Sp (a::l) c:=fun h=>h.sub fun o ho=>.one (.tail _ ho)
 have ht:Sp (a::l) (clr1 l a):=by rw[e];exact(Sp.one (.head _)).xor (up hs)
 unfold g7;split
 ·rename_i z
  refine⟨up,fun h=>h.sub fun o ho=>?_⟩
  rcases List.mem_cons.mp ho with rfl|ho
  ·have:o=s:=by
    have q:=e.symm.trans z;have:=jF o s;rw[q,Nat.zero_xor]at this;exact this.symm
   rw[this];exact hs
  ·exact .one ho
 ·generalize clr1 l a=t at *
  constructor
  ·intro h
   refine h.sub fun o ho=>?_
   rcases List.mem_append.mp ho with ho|ho
   ·obtain⟨o',h',rfl⟩:=List.mem_map.mp ho
    split
    ·exact(Sp.one (.tail _ h')).xor ht
    ·exact .one (.tail _ h')
   ·rw[List.mem_singleton.mp ho];exact ht
  ·intro h
   have t':Sp (l.map (fun o=>if hasB o (tp t)then o ^^^ t else o)++[t]) t:=.one (List.mem_append_right _ (.head _))
   have l':∀o∈l,Sp (l.map (fun o=>if hasB o (tp t)then o ^^^ t else o)++[t]) o:=fun o ho=>by
    have q:Sp (l.map (fun o=>if hasB o (tp t)then o ^^^ t else o)++[t]) (if hasB o (tp t)then o ^^^ t else o):=.one (List.mem_append_left _ (List.mem_map_of_mem ho))
    split at q
    ·have:=q.xor t'
     rwa [jF]at this
    ·exact q
   refine h.sub fun o ho=>?_
   rcases List.mem_cons.mp ho with z|ho
   ·have q:=t'.xor (hs.sub l')
    have y:t ^^^ s=o:=by rw[e,jF];exact z.symm
    rwa [y]at q
   ·exact l' o ho
theorem uZ:∀(ts l:List Nat) (b:Nat),Sp (ts.foldl g7 l) b↔Sp (ts++l) b
 |[],l,b=>Iff.rfl
 |t::ts,l,b=>by
  rw[List.foldl_cons,uZ ts];constructor
  ·intro h
   refine h.sub fun o ho=>?_
   rcases List.mem_append.mp ho with ho|ho
   ·exact .one (List.mem_append_left _ (.tail _ ho))
   ·refine((qW l t o).mp (.one ho)).sub fun c hc=>.one ?_
    rcases List.mem_cons.mp hc with rfl|hc
    ·exact List.mem_append_left _ (.head _)
    ·exact List.mem_append_right _ hc
  ·intro h
   have inl:∀c,Sp (t::l) c->Sp (ts++g7 l t) c:=fun c hc=>((qW l t c).mpr hc).sub fun o ho=>.one (List.mem_append_right _ ho)
   refine h.sub fun o ho=>?_
   rcases List.mem_append.mp ho with ho|ho
   ·rcases List.mem_cons.mp ho with rfl|ho
    ·exact inl _ (.one (.head _))
    ·exact .one (List.mem_append_left _ ho)
   ·exact inl _ (.one (.tail _ ho))
theorem uY(ts:List Nat)(b:Nat):Sp (DI ts) b↔Sp ts b:=by
 have:=uZ ts [] b
 rwa [List.append_nil]at this
theorem su(k:Nat):hasB 0 k=false:=by rw[kt,Nat.zero_testBit]
theorem oZ:∀(l:List Nat) (a b:Nat),clr1 l (a ^^^ b)=clr1 l a ^^^ clr1 l b
 |[],_,_=>rfl
 |o::l,a,b=>by
  rw[bG,bG,bG,<-oZ l];congr 1;rw[dz];cases h1:hasB a (tp o)<;>cases h2:hasB b (tp o)<;>simp
  ·rw[Nat.xor_assoc]
  ·rw[Nat.xor_assoc,Nat.xor_assoc,Nat.xor_comm o b]
  ·rw[Nat.xor_assoc,<-Nat.xor_assoc o b o,Nat.xor_comm o b,jF]
theorem lZ(l:List Nat):clr1 l 0=0:=by
 induction l with
 |nil=>rfl
 |cons o l ih=>rw[bG,su];exact ih
theorem oY:∀(l:List Nat),(∀a∈l,a≠0)->(l.Pairwise fun a b=>hasB a (tp b)=false/\hasB b (tp a)=false)->∀o∈l,clr1 l o=0
 |[],_,_,_,h=>nomatch h
 |a::l,nz,pw,o,ho=>by
  have pw':=List.pairwise_cons.mp pw;rw[bG];rcases List.mem_cons.mp ho with rfl|ho
  ·rw[fV (nz _ (.head _)),if_pos rfl,Nat.xor_self,lZ]
  ·rw[(pw'.1 o ho).2]
   exact oY l (fun b hb=>nz b (.tail _ hb)) pw'.2 o ho
theorem vX{R:List Nat}(r:Red R){s:Nat}(h:Sp R s):clr1 R s=0:=by
 induction h with
 |zero=>exact lZ R
 |add g _ ih=>rw[oZ,ih,oY R r.nz r.pw _ g];rfl
theorem ic(u v w:Wd):au (au u v) w=au u (au v w):=by
 unfold MA.au;have h1:=MA.cu (u.z &&& v.x);have h2:=MA.cu (u.z &&& w.x);have h3:=MA.cu (v.z &&& w.x);simp only[Wd.mk.injEq];refine⟨Nat.xor_assoc _ _ _,Nat.xor_assoc _ _ _,?_⟩;rw[Dh,Dg];rcases (by lia:par (u.z &&& v.x)=0\/par (u.z &&& v.x)=1)with e1|e1<;>rcases (by lia:par (u.z &&& w.x)=0\/par (u.z &&& w.x)=1)with e2|e2<;>rcases (by lia:par (v.z &&& w.x)=0\/par (v.z &&& w.x)=1)with e3|e3<;>rw[e1,e2,e3]<;>lia
theorem zi{n:Nat}{v:Wd}(h:v.ok n):au ⟨0,0,0⟩ v=v:=by
 obtain⟨a,b,c⟩:=h;cases v with
 |mk x z s=>
  unfold MA.au;simp only[Nat.zero_xor,Nat.zero_and,MA.bE,Nat.mul_zero,Nat.add_zero,Nat.zero_add];rw[Nat.mod_eq_of_lt c]
theorem sS{n:Nat}{v:Wd}(h:v.ok n):au v ⟨0,0,0⟩=v:=by
 obtain⟨a,b,c⟩:=h;cases v with
 |mk x z s=>
  unfold MA.au;simp only[Nat.xor_zero,Nat.and_zero,MA.bE,Nat.mul_zero,Nat.add_zero];rw[Nat.mod_eq_of_lt c]
inductive Gr (ks:List Wd):Wd->Prop
 |one:Gr ks ⟨0,0,0⟩
 |mul {a b:Wd}:a∈ks->Gr ks b->Gr ks (au a b)
structure Kp (n:Nat) (ks:List Wd):Prop where
 ok:∀a∈ks,a.ok n
 str:∀a∈ks,dU a=true
 ag:∀a∈ks,∀b∈ks,agB a b=true
theorem Gr.ok{n:Nat}{ks:List Wd}(h:Kp n ks){w:Wd}(g:Gr ks w):w.ok n:=by
 induction g with
 |one=>exact mw n
 |mul a _ ih=>exact MA.aS (h.ok _ a) ih
theorem vG(u:Wd):agB ⟨0,0,0⟩ u=true:=by rw[bz];exact jN u
theorem Gr.ag1{n:Nat}{ks:List Wd}(h:Kp n ks){w:Wd}(g:Gr ks w){a:Wd}(ha:a∈ks):agB w a=true:=by
 induction g with
 |one=>exact vG a
 |mul b _ ih=>rw[nv,h.ag _ b _ ha,ih];rfl
theorem Gr.str{n:Nat}{ks:List Wd}(h:Kp n ks){w:Wd}(g:Gr ks w):dU w=true:=by
 induction g with
 |one=>unfold dU;rw[Nat.zero_and,MA.bE];rfl
 |mul a b ih=>exact mF (h.str _ a) ih (by rw[bz];exact b.ag1 h a)
theorem Gr.in{n:Nat}{ks:List Wd}(h:Kp n ks){a:Wd}(ha:a∈ks):Gr ks a:=by
 have:=Gr.mul ha .one
 rwa [sS (h.ok a ha)]at this
theorem Gr.times{n:Nat}{ks:List Wd}(h:Kp n ks){u v:Wd}(g:Gr ks u)(g':Gr ks v):Gr ks (au u v):=by
 induction g with
 |one=>rw[zi (g'.ok h)];exact g'
 |mul a _ ih=>rw[ic];exact .mul a ih
noncomputable def dW(ks:List Wd)(E:Nat->Bool):Nat->Wd
 | 0=>⟨0,0,0⟩
 |m+1=>if E m then au (dW ks E m) (ks.getD m ⟨0,0,0⟩)else dW ks E m
noncomputable def xL(E:Nat->Bool)(j:Nat):Nat->Bool:=fun i=>if i=j then !E i else E i
theorem mI{n:Nat}{ks:List Wd}(h:Kp n ks)(E:Nat->Bool):∀m,m<=ks.length->Gr ks (dW ks E m)
 | 0,_=>.one
 |m+1,hm=>by
  unfold dW;split
  ·refine(mI h E m (by lia)).times h (Gr.in h ?_)
   rw[List.getD_eq_getElem?_getD,List.getElem?_eq_getElem (by lia)];exact List.getElem_mem _
  ·exact mI h E m (by lia)
theorem iL{ks:List Wd}{E E':Nat->Bool}:∀m,(∀i,i<m->E i=E' i)->dW ks E m=dW ks E' m
 | 0,_=>rfl
 |m+1,h=>by
  unfold dW;rw[h m (by lia),iL m fun i hi=>h i (by lia)]
theorem nO{n:Nat}{ks:List Wd}(h:Kp n ks)(E:Nat->Bool){j:Nat}(hj:j<ks.length):∀m,m<=ks.length->j<m->au (ks.getD j ⟨0,0,0⟩) (dW ks E m)=dW ks (xL E j) m
 | 0,_,h0=>absurd h0 (Nat.not_lt_zero _)
 |m+1,hm,hjm=>by
  have mem:∀{i},i<ks.length->ks.getD i ⟨0,0,0⟩∈ks:=fun hi=>by
   rw[List.getD_eq_getElem?_getD,List.getElem?_eq_getElem hi];exact List.getElem_mem _
  by_cases e:j=m
  ·subst e
   have g:=mI h E j (by lia);have com:au (ks.getD j ⟨0,0,0⟩) (dW ks E j)=au (dW ks E j) (ks.getD j ⟨0,0,0⟩):=(qf (h.ok _ (mem hj)) (g.ok h)).mp (by rw[bz];exact g.ag1 h (mem hj));have same:dW ks (xL E j) j=dW ks E j:=iL j fun i hi=>by unfold xL;rw[if_neg (by lia)]
   have tj:xL E j j=!E j:=by unfold xL;rw[if_pos rfl]
   unfold dW;rw[tj,same];cases E j with
   |true=>
    simp only[Bool.not_true,Bool.false_eq_true,if_true,if_false];rw[<-ic,com,ic,str_iff.mp (h.str _ (mem hj)),sS (g.ok h)]
   |false=>
    simp only[Bool.not_false,Bool.false_eq_true,if_true,if_false];exact com
  ·have ih:=nO h E hj m (by lia) (by lia)
   have tm:xL E j m=E m:=by unfold xL;rw[if_neg (by lia)]
   unfold dW;rw[tm];split
   ·rw[<-ic,ih]
   ·exact ih
theorem zO{n:Nat}{ks:List Wd}(h:Kp n ks){w:Wd}(g:Gr ks w):∃E,w=dW ks E ks.length:=by
 induction g with
 |one=>
  refine⟨fun _=>false,?_⟩
  have:∀m,dW ks (fun _=>false) m=⟨0,0,0⟩:=fun m=>by
   induction m with
   |zero=>rfl
   |succ m ih=>unfold dW;simpa using ih
  exact(this _).symm
 |mul a _ ih=>
  obtain⟨E,rfl⟩:=ih;obtain⟨j,hj,rfl⟩:=List.mem_iff_getElem.mp a;refine⟨xL E j,?_⟩;have:=nO h E hj ks.length (Nat.le_refl _) hj
  rwa [List.getD_eq_getElem?_getD,List.getElem?_eq_getElem hj]at this
noncomputable def e7(T:List (Wd×Wd)):List Wd:=T.map (·.2)
theorem Good.kp{n:Nat}{T:List (Wd×Wd)}(g:Good n T):Kp n (e7 T):=by
 refine⟨fun a ha=>?_,fun a ha=>?_,fun a ha b hb=>?_⟩
 ·obtain⟨p,hp,rfl⟩:=List.mem_map.mp ha
  exact(g.ok p hp).2.1
 ·obtain⟨p,hp,rfl⟩:=List.mem_map.mp ha
  exact(g.ok p hp).2.2
 ·obtain⟨p,hp,rfl⟩:=List.mem_map.mp ha
  obtain⟨q,hq,rfl⟩:=List.mem_map.mp hb;obtain⟨i,hi,rfl⟩:=List.mem_iff_getElem.mp hp;obtain⟨j,hj,rfl⟩:=List.mem_iff_getElem.mp hq;exact(g.ag i j _ _ (List.getElem?_eq_getElem hi) (List.getElem?_eq_getElem hj)).1
theorem zv{T:List (Wd×Wd)}{i:Nat}(hi:i<T.length):(e7 T).getD i ⟨0,0,0⟩=T[i].2:=by
 unfold e7;rw[List.getD_eq_getElem?_getD,List.getElem?_map,List.getElem?_eq_getElem hi];rfl
theorem nN{n:Nat}{T:List (Wd×Wd)}(g:Good n T)(E:Nat->Bool){j:Nat}(hj:j<T.length):∀m,m<=T.length->agB T[j].1 (dW (e7 T) E m)=!(E j&&decide (j<m))
 | 0,_=>by show agB T[j].1 ⟨0,0,0⟩=_;rw[jN];simp
 |m+1,hm=>by
  have ih:=nN g E hj m (by lia);have q:=(g.ag j m _ _ (List.getElem?_eq_getElem hj) (List.getElem?_eq_getElem (by lia))).2;unfold dW;split
  ·rename_i e
   rw[di,ih,zv (by lia),q];by_cases z:j=m
   ·subst z;simp[e]
   ·have:(decide (j<m+1))=decide (j<m):=decide_eq_decide.mpr (by lia)
    rw[this];simp[z]
  ·rename_i e
   rw[ih];by_cases z:j=m
   ·subst z
    have:E j=false:=Bool.eq_false_iff.mpr e;simp[this]
   ·have:(decide (j<m+1))=decide (j<m):=decide_eq_decide.mpr (by lia)
    rw[this]
theorem sv{n:Nat}{T:List (Wd×Wd)}(g:Good n T){w:Wd}(h:Gr (e7 T) w)(hx:w.x=0)(hz:w.z=0):w=⟨0,0,0⟩:=by
 obtain⟨E,rfl⟩:=zO g.kp h;have ln:(e7 T).length=T.length:=List.length_map ..;rw[ln]at hx hz ⊢;have no:∀j,j<T.length->E j=false:=fun j hj=>by
  have q:=nN g E hj T.length (Nat.le_refl _);have z:agB T[j].1 (dW (e7 T) E T.length)=true:=by
   unfold agB;rw[hx,hz,Nat.and_zero,Nat.and_zero];simp
  rw[z,decide_eq_true hj]at q;simpa using q.symm
 rw[iL (E':=fun _=>false) T.length no];have:∀m,dW (e7 T) (fun _=>false) m=⟨0,0,0⟩:=fun m=>by
  induction m with
  |zero=>rfl
  |succ m ih=>unfold dW;simpa using ih
 exact this _
noncomputable def tw(n:Nat)(w:Wd):Nat:=2^n*w.x+w.z
theorem pv{n:Nat}{w:Wd}(h:w.ok n)(i:Nat):(tw n w).testBit i=if i<n then w.z.testBit i else w.x.testBit (i-n):=by
 unfold tw;exact Nat.testBit_two_pow_mul_add w.x h.2.1 i
theorem pr{n:Nat}{u v:Wd}(hu:u.ok n)(hv:v.ok n):tw n (au u v)=tw n u ^^^ tw n v:=by
 apply Nat.eq_of_testBit_eq;intro i;rw[Nat.testBit_xor,pv (MA.aS hu hv),pv hu,pv hv];unfold MA.au;dsimp only;split
 ·rw[Nat.testBit_xor]
 ·rw[Nat.testBit_xor]
theorem qp{n:Nat}{w:Wd}(h:tw n w=0):w.x=0/\w.z=0:=by
 unfold tw at h;have p:=Nat.two_pow_pos n;have h1:w.z=0:=by lia
 have h2:2^n*w.x=0:=by lia
 rcases Nat.mul_eq_zero.mp h2 with q|q
 ·lia
 ·exact⟨q,h1⟩
noncomputable def gH(n:Nat)(told:List Wd)(t:Wd):Wd:=told.foldl (fun t o=>if hasB (tw n t) (tp (tw n o))then au t o else t) t
noncomputable def kY(n:Nat)(told:List Wd)(a:Wd):List Wd:=if tw n (gH n told a)=0 then told else(told.map fun o=>if hasB (tw n o) (tp (tw n (gH n told a)))then au o (gH n told a)else o)++[gH n told a]
noncomputable def nC(n:Nat)(l:List Wd):List Wd:=l.foldl (kY n) []
theorem jO(n:Nat)(o:Wd)(l:List Wd)(t:Wd):gH n (o::l) t=gH n l (if hasB (tw n t) (tp (tw n o))then au t o else t):=rfl
theorem qo{n:Nat}{P:Wd->Prop}(hP:∀u v,P u->P v->P (au u v)):∀(l:List Wd) (t:Wd),(∀o∈l,P o)->P t->P (gH n l t)
 |[],_,_,h=>h
 |o::l,t,h,ht=>by
  rw[jO];refine qo hP l _ (fun a ha=>h a (.tail _ ha)) ?_
  split
  ·exact hP _ _ ht (h o (.head _))
  ·exact ht
theorem sX{n:Nat}{P:Wd->Prop}(hP:∀u v,P u->P v->P (au u v)){l:List Wd}{a:Wd}(h:∀o∈l,P o)(ha:P a):∀o∈kY n l a,P o:=by
 have hu:=qo (n:=n) hP l a h ha;unfold kY;split
 ·exact h
 ·intro o ho
  rcases List.mem_append.mp ho with ho|ho
  ·obtain⟨q,hq,rfl⟩:=List.mem_map.mp ho
   split
   ·exact hP _ _ (h q hq) hu
   ·exact h q hq
  ·rw[List.mem_singleton.mp ho];exact hu
theorem sV{n:Nat}{P:Wd->Prop}(hP:∀u v,P u->P v->P (au u v)):∀(ls l:List Wd),(∀o∈l,P o)->(∀o∈ls,P o)->∀o∈ls.foldl (kY n) l,P o
 |[],l,h,_=>h
 |a::ls,l,h,hl=>by
  rw[List.foldl_cons];exact sV hP ls _ (sX hP h (hl a (.head _))) fun o ho=>hl o (.tail _ ho)
theorem sY{n:Nat}:∀(l:List Wd) (t:Wd),(∀o∈l,o.ok n)->t.ok n->tw n (gH n l t)=clr1 (l.map (tw n)) (tw n t)
 |[],_,_,_=>rfl
 |o::l,t,h,ht=>by
  rw[jO,List.map_cons,bG];have ho:=h o (.head _);rw[sY l _ (fun a ha=>h a (.tail _ ha)) (by split;exact MA.aS ht ho;exact ht)]
  split
  ·rw[pr ht ho]
  ·rfl
theorem sW{n:Nat}{l:List Wd}{a:Wd}(h:∀o∈l,o.ok n)(ha:a.ok n):(kY n l a).map (tw n)=g7 (l.map (tw n)) (tw n a):=by
 have e:=sY l a h ha;have uo:(gH n l a).ok n:=qo (P:=fun w=>w.ok n) (fun _ _=>MA.aS) l a h ha;unfold kY g7;rw[<-e];split
 ·rfl
 ·rw[List.map_append,List.map_map,List.map_map]
  congr 1;refine List.map_congr_left fun o ho=>?_
  show tw n (if _ then _ else _)=if hasB (tw n o) _ then _ else _
  split
  ·rw[pr (h o ho) uo]
  ·rfl
theorem qm{n:Nat}:∀(ls l:List Wd),(∀o∈l,o.ok n)->(∀o∈ls,o.ok n)->(ls.foldl (kY n) l).map (tw n)=(ls.map (tw n)).foldl g7 (l.map (tw n))
 |[],l,_,_=>rfl
 |a::ls,l,h,hl=>by
  rw[List.foldl_cons,List.map_cons,List.foldl_cons,<-sW h (hl a (.head _))];exact qm ls _ (sX (P:=fun w=>w.ok n) (fun _ _=>MA.aS) h (hl a (.head _))) fun o ho=>hl o (.tail _ ho)
theorem nB{n:Nat}{T:List (Wd×Wd)}(g:Good n T):∀m,m<=T.length->(((e7 T).take m).foldl (kY n) []).length=m/\∀o∈((e7 T).take m).foldl (kY n) [],∀j (hj:j<T.length),m<=j->agB T[j].1 o=true
 | 0,_=>⟨rfl,fun o ho=>nomatch ho⟩
 |m+1,hm=>by
  obtain⟨l1,l2⟩:=nB g m (by lia);have hk:(e7 T)[m]? = some T[m].2:=by unfold e7;rw[List.getElem?_map,List.getElem?_eq_getElem (by lia)];rfl
  have et:(e7 T).take (m+1)=(e7 T).take m++[T[m].2]:=by rw[List.take_succ,hk];rfl
  rw[et,List.foldl_append];show(kY n _ T[m].2).length=_/\∀o∈kY n _ T[m].2,_;generalize hL:((e7 T).take m).foldl (kY n) []=L at l1 l2;have ag:∀j (hj:j<T.length),agB T[j].1 T[m].2=!decide (j=m):=fun j hj=>(g.ag j m _ _ (List.getElem?_eq_getElem hj) (List.getElem?_eq_getElem (by lia))).2
  have key:∀j (hj:j<T.length),m<=j->∀(l:List Wd) (t:Wd),(∀o∈l,agB T[j].1 o=true)->agB T[j].1 (gH n l t)=agB T[j].1 t:=fun j hj _ l=>by
   induction l with
   |nil=>intro t _;rfl
   |cons o l ih=>
    intro t h;rw[jO,ih _ fun a ha=>h a (.tail _ ha)]
    split
    ·rw[di,h o (.head _)];cases agB T[j].1 t<;>rfl
    ·rfl
  have nz:¬tw n (gH n L T[m].2)=0:=fun z=>by
   obtain⟨zx,zz⟩:=qp z;have q:=key m (by lia) (Nat.le_refl _) L T[m].2 fun o ho=>l2 o ho m (by lia) (Nat.le_refl _)
   rw[ag m (by lia)]at q;unfold agB at q;rw[zx,zz,Nat.and_zero,Nat.and_zero]at q;simp at q
  unfold kY;rw[if_neg nz];refine⟨by rw[List.length_append,List.length_map,l1];rfl,fun o ho j hj mj=>?_⟩
  have hu:agB T[j].1 (gH n L T[m].2)=true:=by
   rw[key j hj (by lia) L _ fun o ho=>l2 o ho j hj (by lia),ag j hj,decide_eq_false (by lia)];rfl
  rcases List.mem_append.mp ho with ho|ho
  ·obtain⟨q,hq,rfl⟩:=List.mem_map.mp ho
   split
   ·rw[di,l2 q hq j hj (by lia),hu];rfl
   ·exact l2 q hq j hj (by lia)
  ·rw[List.mem_singleton.mp ho];exact hu
structure Wr (n:Nat) (T:List (Wd×Wd)) (R:List Wd):Prop where
 len:R.length=n
 gr:∀w∈R,Gr (e7 T) w
 red:Red (R.map (tw n))
 sp:∀w∈e7 T,Sp (R.map (tw n)) (tw n w)
theorem vH{n:Nat}{T:List (Wd×Wd)}(g:Good n T):Wr n T (nC n (e7 T)):=by
 have kp:=g.kp;have e:=qm (n:=n) (e7 T) [] (fun _ h=>nomatch h) kp.ok;have e:(nC n (e7 T)).map (tw n)=DI ((e7 T).map (tw n)):=e;refine⟨?_,sV (P:=Gr (e7 T)) (fun u v=>Gr.times kp) (e7 T) [] (fun _ h=>nomatch h) fun o ho=>Gr.in kp ho,?_,fun w hw=>?_⟩
 ·have:=(nB g T.length (Nat.le_refl _)).1
  rw[show(e7 T).take T.length=e7 T from List.take_of_length_le (by unfold e7;rw[List.length_map];exact Nat.le_refl _)]at this;exact this.trans g.len
 ·rw[e];exact xn _
 ·rw[e]
  exact(uY _ _).mpr (.one (List.mem_map_of_mem hw))
theorem Wr.perm{n:Nat}{T:List (Wd×Wd)}{R R':List Wd}(h:Wr n T R)(p:R'.Perm R):Wr n T R':=by
 have pm:(R'.map (tw n)).Perm (R.map (tw n)):=p.map _;refine⟨p.length_eq.trans h.len,fun w hw=>h.gr w (p.mem_iff.mp hw),⟨fun a ha=>h.red.nz a (pm.mem_iff.mp ha),(pm.pairwise_iff fun{a b} q=>⟨q.2,q.1⟩).mpr h.red.pw⟩,fun w hw=>(h.sp w hw).sub fun o ho=>.one (pm.mem_iff.mpr ho)⟩
noncomputable def xm(n:Nat)(k:Wd)(R:List Wd)(a:Wd):Wd:=R.foldl (fun a o=>if hasB (tw n k) (tp (tw n o))then au a o else a) a
theorem uX{k:Nat}:∀(R:List Nat) (t:Nat),(∀a∈R,a≠0)->(R.Pairwise fun a b=>hasB a (tp b)=false/\hasB b (tp a)=false)->(∀o∈R,hasB t (tp o)=hasB k (tp o))->R.foldl (fun t o=>if hasB k (tp o)then t ^^^ o else t) t=clr1 R t
 |[],_,_,_,_=>rfl
 |o::R,t,nz,pw,h=>by
  have pw':=List.pairwise_cons.mp pw;rw[List.foldl_cons,bG,h o (.head _)];refine uX R _ (fun a ha=>nz a (.tail _ ha)) pw'.2 fun a ha=>?_
  split
  ·rw[dz,h a (.tail _ ha),(pw'.1 a ha).1];cases hasB k (tp a)<;>rfl
  ·exact h a (.tail _ ha)
theorem qV{n:Nat}(k:Wd):∀(R:List Wd) (a:Wd),(∀o∈R,o.ok n)->a.ok n->tw n (xm n k R a)=(R.map (tw n)).foldl (fun t o=>if hasB (tw n k) (tp o)then t ^^^ o else t) (tw n a)
 |[],_,_,_=>rfl
 |o::R,a,h,ha=>by
  have ho:=h o (.head _);show tw n (xm n k R (if _ then _ else _))=_;rw[qV k R _ (fun b hb=>h b (.tail _ hb)) (by split;exact MA.aS ha ho;exact ha),List.map_cons,List.foldl_cons]
  split
  ·rw[pr ha ho]
  ·rfl
theorem sD{n:Nat}{T:List (Wd×Wd)}{R:List Wd}(g:Good n T)(r:Wr n T R){k:Wd}(hk:k∈e7 T):xm n k R k=⟨0,0,0⟩:=by
 have kp:=g.kp;have rok:∀o∈R,o.ok n:=fun o ho=>(r.gr o ho).ok kp
 have gr:Gr (e7 T) (xm n k R k):=by
  have:∀(l:List Wd) (a:Wd),(∀o∈l,Gr (e7 T) o)->Gr (e7 T) a->Gr (e7 T) (xm n k l a):=fun l=>by
   induction l with
   |nil=>intro a _ h;exact h
   |cons o l ih=>
    intro a h ha;refine ih _ (fun b hb=>h b (.tail _ hb)) ?_
    dsimp only;split
    ·exact ha.times kp (h o (.head _))
    ·exact ha
  exact this R k r.gr (Gr.in kp hk)
 have z:tw n (xm n k R k)=0:=by
  rw[qV k R k rok (kp.ok k hk),uX _ _ r.red.nz r.red.pw fun _ _=>rfl]
  exact vX r.red (r.sp k hk)
 obtain⟨zx,zz⟩:=qp z;exact sv g gr zx zz
theorem eN{s t:Sf}{δ δ':Dv}(h:s δ = some (.nx,δ')):sSeq s t δ = t δ':=by simp only[sSeq,h,Option.bind_some]
theorem ut{N:List Str}{n:Nat}{b:Sf}{as:List D}{d:D}{δ':Dv}(hl:as.length=n)(h:b (av N as)=some (.rt d,δ')):runB N n b as=some d:=by unfold runB;rw[if_pos hl,h];rfl
theorem xS{f g:Dv->Option Bool}{δ:Dv}(h:f δ = some false):wy f g δ = g δ:=by unfold wy;rw[h];rfl
theorem qx{t:Dv->Option Bool}{u w:Sf}{δ:Dv}(h:t δ = some true):sIf t u w δ = u δ:=by unfold sIf;rw[h];rfl
theorem ig{t:Dv->Option Bool}{u w:Sf}{δ:Dv}(h:t δ = some false):sIf t u w δ = w δ:=by unfold sIf;rw[h];rfl
theorem qu(a h:Nat):fj (.int (a:Int)) (.int (h:Int))=some (.int ((a/2^h:Nat):Int)):=by
 rw[jU (by lia),Int.toNat_natCast];congr 2
theorem qv{a:Nat}(k:Nat)(ha:a<2^100000)(hk:k<=100000):gI (.int (a:Int)) (.int (k:Int))=some (.int ((a*2^k:Nat):Int)):=by
 have hb:(a:Int).natAbs<2^100000:=by rw[Int.natAbs_natCast];exact ha
 have:=MA.jM hb;rw[jV (by lia) (by lia),Int.toNat_natCast];congr 2
theorem rO{a:Nat}(h:a<2^64):a<2^100000:=Nat.lt_of_lt_of_le h (Nat.pow_le_pow_right (by decide) (by decide))
theorem xT{fs:Dv->Option (List D)}{g:List D->Option (List D)}{δ:Dv}{ds r:List D}(h:fs δ = some ds)(h2:g ds=some r):oL fs g δ = some r:=by unfold oL;rw[h];exact h2
theorem nW{k:Nat}(hk:k<=100000):gI (.int 1) (.int (k:Int))=some (.int ((2^k:Nat):Int)):=by
 have:=qv (a:=1) k (rO (by decide)) hk;rw[Nat.one_mul]at this;exact this
theorem uL(b k:Nat):(((b/2^k%2:Nat):Int)==1)=hasB b k:=by
 unfold hasB;rcases Nat.mod_two_eq_zero_or_one (b/2^k)with h|h<;>rw[h]<;>rfl
theorem uK(b k:Nat):iy [.int b,.int k]=some (.bool (hasB b k)):=by
 have s:=qu b k;have o:=xB (b/2^k);have h:=uL b k;generalize b/2^k%2=z at *;generalize b/2^k=y at *;simp[iy,runB,vi,av,s,o,h]
theorem oK{o:Nat}(h:o≠0):bY [.int (o:Int)]=some (.int ((tp o:Nat):Int)):=by
 have e:((Builtin.Int.intBits (o:Int):Nat):Int)-1=(tp o:Int):=by
  unfold Builtin.Int.intBits tp;rw[if_neg (by simpa using h),Int.natAbs_natCast]
  lia
 simp[bY,runB,hR,av,e]
abbrev fC(n:Nat):D:=u7 "<lambda> shl" (n:Int)
abbrev fW:D:=zP "word_times"
abbrev wsD(l:List Wd):List D:=l.map aN
theorem AX{n:Nat}(hn:n<=6){w:Wd}(h:w.ok n):gJ (n:Int) [aN w]=some (.int ((tw n w:Nat):Int)):=by
 have l:w.x<2^100000:=Nat.lt_of_lt_of_le h.1 (Nat.pow_le_pow_right (by decide) (by lia));have s:=qv (a:=w.x) n l (by lia);show((gI (.int (w.x:Int)) (.int (n:Int))).bind fun b=>y0 b (.int (w.z:Int)))=_
 rw[s,Option.bind_some];show some (PyData.int (Builtin.bitOr ((w.x*2^n:Nat):Int) (w.z:Int)))=_;rw[MA.Ct];unfold tw;rw[Nat.mul_comm,Nat.two_pow_add_eq_or_of_lt h.2.1]
theorem m7{δ:Dv}{i n:Nat}{fs:Dv->Option (List D)}{w:Wd}(hn:n<=6)(hw:w.ok n)(h:AU δ[i]? = some (fC n))(hf:fs δ = some [aN w]):cw i fs "<lambda> shl" gJ δ = some (.int ((tw n w:Nat):Int)):=by
 unfold cw oV;rw[h,Option.bind_some,sH,Option.bind_some,hf,Option.bind_some,AX hn hw]
theorem yb{δ:Dv}{i n:Nat}{fs:Dv->Option (List D)}{u v:Wd}(hn:n<=6)(hu:u.ok n)(hv:v.ok n)(h:AU δ[i]? = some fW)(hf:fs δ = some [aN u,aN v]):f8 i fs (("word_times",aw)::[]) δ = some (aN (au u v)):=by
 unfold f8 oV;rw[h];simp only[Option.bind_some,sy,hf,List.lookup_cons,beq_self_eq_true];exact eV u v hn hu hv
section
variable{n:Nat}(hn:n<=6)
include hn
theorem E2(X T:Sl)(t o:Wd)(y:Sl)(ht:t.ok n)(ho:o.ok n)(h0:tw n o≠0):cx [X,.fz (fC n),.fz fW,T,.fz (aN t),.fz (aN o),y]=some (.nx,[X,.fz (fC n),.fz fW,T,.fz (aN (if hasB (tw n t) (tp (tw n o))then au t o else t)),.fz (aN o),y]):=by
 have hb:(ob (VL.os (ac (cw 1 (ac (oV 4) (ak)) "<lambda> shl" gJ) (ac (VL.os (ac (cw 1 (ac (oV 5) (ak)) "<lambda> shl" gJ) (ak)) bY) (ak))) iy)) [X,.fz (fC n),.fz fW,T,.fz (aN t),.fz (aN o),y]=some (hasB (tw n t) (tp (tw n o))):=by
  have e1:cw 1 (ac (oV 4) (ak)) "<lambda> shl" gJ [X,.fz (fC n),.fz fW,T,.fz (aN t),.fz (aN o),y]=some (.int ((tw n t:Nat):Int)):=m7 hn ht rfl rfl;have e2:cw 1 (ac (oV 5) (ak)) "<lambda> shl" gJ [X,.fz (fC n),.fz fW,T,.fz (aN t),.fz (aN o),y]=some (.int ((tw n o:Nat):Int)):=m7 hn ho rfl rfl;simp only[ob,VL.os,ac,ak,e1,e2,Option.bind_some,oK h0,uK];rfl
 cases h:hasB (tw n t) (tp (tw n o))with
 |true=>
  rw[h]at hb;unfold cx;rw[qx hb];have e3:f8 2 (ac (oV 4) (ac (oV 5) (ak))) (("word_times",aw)::[]) [X,.fz (fC n),.fz fW,T,.fz (aN t),.fz (aN o),y]=some (aN (au t o)):=yb hn ht ho rfl rfl;unfold aT;rw[e3];rfl
 |false=>
  rw[h]at hb;unfold cx;rw[ig hb];rfl
theorem o5(X T:Sl)(y:Sl):∀(l:List Wd) (t:Wd) (z:Sl),(∀o∈l,o.ok n/\tw n o≠0)->t.ok n->∃z',loop (gN 5) cx (wsD l) [X,.fz (fC n),.fz fW,T,.fz (aN t),z,y]=some (.nx,[X,.fz (fC n),.fz fW,T,.fz (aN (gH n l t)),z',y])
 |[],t,z,_,_=>⟨z,rfl⟩
 |o::l,t,z,h,ht=>by
  have ho:=h o (.head _);obtain⟨z',e⟩:=o5 X T y l (if hasB (tw n t) (tp (tw n o))then au t o else t) (.fz (aN o)) (fun a ha=>h a (.tail _ ha)) (by split;exact MA.aS ht ho.1;exact ht)
  refine⟨z',?_⟩;have s:=E2 hn X T t o y ht ho.1 ho.2;show((gN 5 (aN o) [X,.fz (fC n),.fz fW,T,.fz (aN t),z,y]).bind fun δ1=>(cx δ1).bind _)=_
  simp only[gN,Option.bind_some,List.set_cons_succ,List.set_cons_zero];rw[s];exact e
theorem EZ(X z5:Sl)(told:List Wd)(t:Wd)(top:Nat)(hl:told.length<=1000)(ho:∀o∈told,o.ok n)(ht:t.ok n):gY [X,.fz (fC n),.fz fW,.fz (.list (wsD told)),.fz (aN t),z5,.fz (.int (top:Int))]=some (.list (wsD (told.map fun o=>if hasB (tw n o) top then au o t else o))):=by
 have e:wsD (told.map fun o=>if hasB (tw n o) top then au o t else o)=told.map fun o=>aN (if hasB (tw n o) top then au o t else o):=by unfold wsD;rw[List.map_map];rfl
 rw[e];unfold gY;refine df (h:=aN) (xs:=told) rfl (by lia) fun o hm=>?_
 have oo:=ho o hm;show ul _ _ _ [.fz (aN o),.fz (fC n),.fz fW,.fz (aN t),.fz (.int (top:Int))]=_;have e1:cw 1 (ac (oV 0) (ak)) "<lambda> shl" gJ [.fz (aN o),.fz (fC n),.fz fW,.fz (aN t),.fz (.int (top:Int))]=some (.int ((tw n o:Nat):Int)):=m7 hn oo rfl rfl;have e3:f8 2 (ac (oV 0) (ac (oV 3) (ak))) (("word_times",aw)::[]) [.fz (aN o),.fz (fC n),.fz fW,.fz (aN t),.fz (.int (top:Int))]=some (aN (au o t)):=yb hn oo ht rfl rfl;have e2:oV 4 [.fz (aN o),.fz (fC n),.fz fW,.fz (aN t),.fz (.int (top:Int))]=some (.int (top:Int)):=rfl;have e0:oV 0 [.fz (aN o),.fz (fC n),.fz fW,.fz (aN t),.fz (.int (top:Int))]=some (aN o):=rfl;have hb:ob (VL.os (ac (cw 1 (ac (oV 0) (ak)) "<lambda> shl" gJ) (ac (oV 4) (ak))) iy) [.fz (aN o),.fz (fC n),.fz fW,.fz (aN t),.fz (.int (top:Int))]=some (hasB (tw n o) top):=by
  simp only[ob,VL.os,ac,ak,e1,e2,Option.bind_some,uK];rfl
 unfold ul;rw[hb];cases h:hasB (tw n o) top with
 |true=>exact e3
 |false=>exact e0
end
def TS(S:Sl)(told:List Wd):Prop:=S=.ow (wsD told)\/S=.fz (.list (wsD told))
section
variable{n:Nat}(hn:n<=6)
include hn
theorem E1(X S:Sl)(told:List Wd)(a:Wd)(z5 z6:Sl)(hS:TS S told)(nz:∀o∈told,o.ok n/\tw n o≠0)(ha:a.ok n)(hl:told.length<=1000):∃S' y5 y6,TS S' (kY n told a)/\d6 [X,.fz (fC n),.fz fW,S,.fz (aN a),z5,z6]=some (.nx,[X,.fz (fC n),.fz fW,S',.fz (aN (gH n told a)),y5,y6]):=by
 have hd:sC 3 [X,.fz (fC n),.fz fW,S,.fz (aN a),z5,z6]=[X,.fz (fC n),.fz fW,.fz (.list (wsD told)),.fz (aN a),z5,z6]:=by rcases hS with rfl|rfl<;>rfl
 obtain⟨z',e⟩:=o5 hn X (.fz (.list (wsD told))) z6 told a z5 nz ha;have uo:(gH n told a).ok n:=qo (P:=fun w=>w.ok n) (fun _ _=>MA.aS) told a (fun o ho=>(nz o ho).1) ha
 have e1:(fun δ=>(dX (oI (oV 3) da) (gN 5) (cx)) (sC 3 δ)) [X,.fz (fC n),.fz fW,S,.fz (aN a),z5,z6]=some (.nx,[X,.fz (fC n),.fz fW,.fz (.list (wsD told)),.fz (aN (gH n told a)),z',z6]):=by
  show dX _ _ _ (sC 3 _)=_;rw[hd];unfold dX;rw[show(oI (oV 3) da) [X,.fz (fC n),.fz fW,.fz (.list (wsD told)),.fz (aN a),z5,z6]=some (wsD told)from rfl];exact e
 have c1:cw 1 (ac (oV 4) (ak)) "<lambda> shl" gJ [X,.fz (fC n),.fz fW,.fz (.list (wsD told)),.fz (aN (gH n told a)),z',z6]=some (.int ((tw n (gH n told a):Nat):Int)):=m7 hn uo rfl rfl;unfold d6;by_cases ht:tw n (gH n told a)=0
 ·refine⟨.fz (.list (wsD told)),z',z6,.inr (by unfold kY;rw[if_pos ht]),(eN e1).trans ((ig ?_).trans rfl)⟩
  simp only[ob,o2,c1,ht,oC,Option.bind_some];rfl
 ·refine⟨.ow (wsD (kY n told a)),z',.fz (.int ((tp (tw n (gH n told a)):Nat):Int)),.inl rfl,(eN e1).trans ((qx ?_).trans ((eN (δ':=[X,.fz (fC n),.fz fW,.fz (.list (wsD told)),.fz (aN (gH n told a)),z',.fz (.int ((tp (tw n (gH n told a)):Nat):Int))]) ?_).trans ((eN (δ':=[X,.fz (fC n),.fz fW,.ow (wsD (told.map fun o=>if hasB (tw n o) (tp (tw n (gH n told a)))then au o (gH n told a)else o)),.fz (aN (gH n told a)),z',.fz (.int ((tp (tw n (gH n told a)):Nat):Int))]) ?_).trans ?_)))⟩
  ·simp only[ob,o2,c1,oC,Option.bind_some]
   simp[ht]
  ·unfold aT VL.os
   simp only[ac,ak,c1,Option.bind_some,oK ht];rfl
  ·unfold nS Ar
   rw[EZ hn X z' told (gH n told a) (tp (tw n (gH n told a))) hl (fun o ho=>(nz o ho).1) uo]
   rfl
  ·unfold kY
   rw[if_neg ht];generalize hM:(told.map fun o=>if hasB (tw n o) (tp (tw n (gH n told a)))then au o (gH n told a)else o)=M
   have ml:M.length=told.length:=by rw[<-hM,List.length_map]
   have hl':(wsD M).length<sizeLine:=by unfold wsD;rw[List.length_map];unfold sizeLine;lia
   have ap:wsD (M++[gH n told a])=wsD M++[aN (gH n told a)]:=by unfold wsD;rw[List.map_append];rfl
   rw[ap];generalize wsD M=L at hl';simp[yv,hl']
end
theorem vI(n:Nat)(l:List Wd)(a:Wd):(kY n l a).length<=l.length+1:=by
 unfold kY;split
 ·lia
 ·simp
theorem yg{n:Nat}{l:List Wd}{a:Wd}(h:∀o∈l,o.ok n)(r:Red (l.map (tw n)))(ha:a.ok n):Red ((kY n l a).map (tw n)):=by
 rw[sW h ha];exact oX r _
theorem o4{n:Nat}(hn:n<=6)(X:Sl):∀(ts told:List Wd) (S z4 z5 z6:Sl),TS S told->(∀o∈told,o.ok n)->Red (told.map (tw n))->(∀o∈ts,o.ok n)->told.length+ts.length<=1000->∃S' y4 y5 y6,TS S' (ts.foldl (kY n) told)/\loop (gN 4) d6 (wsD ts) [X,.fz (fC n),.fz fW,S,z4,z5,z6]=some (.nx,[X,.fz (fC n),.fz fW,S',y4,y5,y6])
 |[],told,S,z4,z5,z6,hS,_,_,_,_=>⟨S,z4,z5,z6,hS,rfl⟩
 |a::ts,told,S,z4,z5,z6,hS,ho,hr,hts,hl=>by
  rw[List.length_cons]at hl;have ha:=hts a (.head _);obtain⟨S1,y5,y6,h1,e1⟩:=E1 hn X S told a z5 z6 hS (fun o h=>⟨ho o h,hr.nz _ (List.mem_map_of_mem h)⟩) ha (by lia)
  obtain⟨S2,w4,w5,w6,h2,e2⟩:=o4 hn X ts (kY n told a) S1 (.fz (aN (gH n told a))) y5 y6 h1 (sX (P:=fun w=>w.ok n) (fun _ _=>MA.aS) ho ha) (yg ho hr ha) (fun o h=>hts o (.tail _ h)) (by have:=vI n told a;lia)
  refine⟨S2,w4,w5,w6,h2,?_⟩;show((gN 4 (aN a) [X,.fz (fC n),.fz fW,S,z4,z5,z6]).bind fun δ1=>(d6 δ1).bind _)=_
  simp only[gN,Option.bind_some,List.set_cons_succ,List.set_cons_zero];rw[e1];exact e2
theorem p0{n:Nat}(hn:n<=6)(ts:List Wd)(hts:∀o∈ts,o.ok n)(hl:ts.length<=1000):dR [.list (wsD ts),fC n,fW]=some (.list (wsD (nC n ts))):=by
 obtain⟨S,y4,y5,y6,hS,e⟩:=o4 hn (.fz (.list (wsD ts))) ts [] (.ow []) .un .un .un (.inl rfl) (fun _ h=>nomatch h) ⟨(fun _ h=>nomatch h),.nil⟩ hts (by simpa using hl);have hd:sC 3 [.fz (.list (wsD ts)),.fz (fC n),.fz fW,S,y4,y5,y6]=[.fz (.list (wsD ts)),.fz (fC n),.fz fW,.fz (.list (wsD (nC n ts))),y4,y5,y6]:=by rcases hS with rfl|rfl<;>rfl
 refine ut rfl (δ':=[.fz (.list (wsD ts)),.fz (fC n),.fz fW,.fz (.list (wsD (nC n ts))),y4,y5,y6]) ?_;unfold i4;refine(eN (δ':=[.fz (.list (wsD ts)),.fz (fC n),.fz fW,.ow [],.un,.un,.un]) rfl).trans ((eN (δ':=[.fz (.list (wsD ts)),.fz (fC n),.fz fW,S,y4,y5,y6]) ?_).trans ?_)
 ·unfold dX
  rw[show(oI (oV 0) da) [.fz (.list (wsD ts)),.fz (fC n),.fz fW,.ow [],.un,.un,.un]=some (wsD ts)from rfl];exact e
 ·show(be (oV 3)) (sC 3 _)=_
  rw[hd];rfl
noncomputable def kW(w:Wd):List bb:=[.inl (w.x:Int),.inl (w.z:Int),.inl (w.s:Int)]
noncomputable def vL:List bb->Wd
 |[.inl x,.inl z,.inl s]=>⟨x.toNat,z.toNat,s.toNat⟩
 |_=>⟨0,0,0⟩
theorem mz(w:Wd):vL (kW w)=w:=by cases w;rfl
theorem zE{u v:Wd}(h:kW u=kW v):u=v:=by rw[<-mz u,h,mz]
theorem oG:∀R:List Wd,lM (wsD R)=some (R.map kW)
 |[]=>rfl
 |w::R=>by
  show(Bu (aN w)).bind (fun k=>(lM (wsD R)).bind fun l=>some (k::l))=_
  rw[oG R];rfl
theorem wS(R:List Wd):((R.map kW).map fun k=>(PyData.tuple (k.map lO):D))=wsD R:=by
 rw[List.map_map];rfl
theorem zq{n:Nat}{a b:Wd}(ha:a.ok n)(hb:b.ok n)(h:cX (kW a) (kW b)=false):tw n b<=tw n a:=by
 refine Nat.le_of_not_lt fun lt=>?_
 have q:cX (kW a) (kW b)=true:=by
  unfold kW;simp only[cX,e8];unfold tw at lt;have h1:=ha.2.1;have h2:=hb.2.1;by_cases ex:a.x=b.x
  ·rw[if_pos (by rw[ex])]
   by_cases ez:a.z=b.z
   ·rw[ex,ez]at lt;lia
   ·rw[if_neg (by intro z;injection z with z;lia)]
    rw[ex]at lt;exact decide_eq_true (by lia)
  ·rw[if_neg (by intro z;injection z with z;lia)]
   refine decide_eq_true ?_;have:a.x<b.x:=by
    refine Nat.lt_of_not_le fun z=>?_
    have:b.x+1<=a.x:=by lia
    have m:=Nat.mul_le_mul_left (2^n) this;rw[Nat.mul_add]at m
    lia
   lia
 rw[q]at h;cases h
theorem yB{l:List Nat}(h:Red l):l.Nodup:=by
 refine h.pw.imp_of_mem fun{a b} ha hb q z=>?_
 rw[z,fV (h.nz b hb)]at q;cases q.1
theorem rN{n:Nat}{R:List Wd}(ok:∀w∈R,w.ok n)(red:Red (R.map (tw n)))(hl:R.length<64):∃R':List Wd,R'.Perm R/\(R'.map (tw n)).Pairwise (· > ·)/\jS (.list (wsD R))=some (.list (wsD R')):=by
 have ndt:=yB red;have nd:R.Nodup:=by
  have:=List.pairwise_map.mp ndt;exact this.imp fun{a b} q z=>q (by rw[z])
 have ndk:(R.map kW).Nodup:=List.pairwise_map.mpr (nd.imp fun{a b} q z=>q (zE z))
 have al:(R.map kW).all nr=true:=List.all_eq_true.mpr fun k hk=>by
  obtain⟨w,_,rfl⟩:=List.mem_map.mp hk;rfl
 have pm:=gh (R.map kW);have back:∀k∈bJ (R.map kW),kW (vL k)=k:=fun k hk=>by
  obtain⟨w,_,rfl⟩:=List.mem_map.mp (pm.mem_iff.mp hk);rw[mz]
 have e1:((bJ (R.map kW)).map vL).map kW=bJ (R.map kW):=by
  rw[List.map_map]
  conv=>rhs;rw[<-List.map_id (bJ (R.map kW))]
  exact List.map_congr_left back
 have p1:((bJ (R.map kW)).map vL).Perm R:=by
  have:=pm.map vL;rw[List.map_map]at this;have e:R.map (vL ∘ kW)=R:=by
   conv=>rhs;rw[<-List.map_id R]
   exact List.map_congr_left fun w _=>mz w
  rwa [e]at this
 refine⟨((bJ (R.map kW)).map vL).reverse,(List.reverse_perm _).trans p1,?_,?_⟩
 ·have pw:=iU (R.map kW)
  rw[<-e1]at pw;have pw:=List.pairwise_map.mp pw;rw[List.map_reverse,List.pairwise_reverse,List.pairwise_map];have nd2:(((bJ (R.map kW)).map vL).map (tw n)).Nodup:=(p1.map (tw n)).nodup_iff.mpr ndt;have nd2:=List.pairwise_map.mp nd2;refine List.Pairwise.imp_of_mem ?_ (pw.and nd2);intro a b ha hb ⟨q,ne⟩;have:=zq (n:=n) (ok b (p1.mem_iff.mp hb)) (ok a (p1.mem_iff.mp ha)) q;show tw n b>tw n a
  lia
 ·unfold jS
  show(lM (wsD R)).bind _=_;rw[oG,Option.bind_some,if_pos ⟨al,ndk,by rw[List.length_map];exact hl⟩];have:(bJ (R.map kW)).reverse=(((bJ (R.map kW)).map vL).reverse).map kW:=by rw[List.map_reverse,e1]
  rw[this,wS]
theorem pE{n:Nat}(hn:n<=6){T:List (Wd×Wd)}(g:Good n T):∃R:List Wd,Wr n T R/\(R.map (tw n)).Pairwise (· > ·)/\dQ [bd T]=some (.tuple (wsD R)):=by
 have wr:=vH g;have kp:=g.kp;obtain⟨R,p,pw,e⟩:=rN (n:=n) (fun w hw=>(wr.gr w hw).ok kp) wr.red (by have:=wr.len;lia)
 refine⟨R,wr.perm p,pw,?_⟩;have ln:=jJ g;have lt:T.length<=1000:=by have:=g.len;lia
 have kl:(e7 T).length<=1000:=by unfold e7;rw[List.length_map];exact lt
 have cl:=p0 hn (e7 T) kp.ok kl;have p1:fE [.fz (bd T),.fz (.int (n:Int)),.un]=some (.list (wsD (e7 T))):=by
  have:wsD (e7 T)=T.map fun p=>aN p.2:=by unfold wsD e7;rw[List.map_map];rfl
  rw[this];unfold fE;exact df (h:=jm) (xs:=T) rfl (by lia) fun p _=>rfl
 have tl:(wsD R).length<=sizeLine:=by
  have:=(wr.perm p).len;unfold wsD;rw[List.length_map,this,sizeLine_eq];lia
 refine ut rfl (δ':=[.fz (bd T),.fz (.int (n:Int)),.fz (.list (wsD (nC n (e7 T))))]) ?_;unfold mo;refine(eN (δ':=[.fz (bd T),.fz (.int (n:Int)),.un]) ?_).trans ((eN (δ':=[.fz (bd T),.fz (.int (n:Int)),.fz (.list (wsD (nC n (e7 T))))]) ?_).trans ?_)
 ·unfold aT VL.os
  show((d5 [bd T]).bind _)=_;rw[ln];rfl
 ·have c:wz "<lambda> shl" 1 [.fz (bd T),.fz (.int (n:Int)),.un]=some (fC n):=rfl
  unfold aT VL.os;simp only[ac,ak,p1,c,Option.bind_some,oC,cl];rfl
 ·have:(o1 (oV 2) jS) [.fz (bd T),.fz (.int (n:Int)),.fz (.list (wsD (nC n (e7 T))))]=some (.list (wsD R)):=e
  unfold be VL.os;simp only[ac,ak,this,Option.bind_some];rfl
theorem sU(W:D)(x z p q:Int)(n:Int)(w0:aF W (.int 0)=some (.int x))(w1:aF W (.int 1)=some (.int z))(hp:gI (.int 1) (.int n)=some (.int p))(hm:io (.int x) (.int p)=some (.int q)):aB [W,.int n]=some (.int (q+z)):=by
 simp[aB,runB,eS,av,w0,w1,hp,hm]
theorem iK{n:Nat}(hn:n<=6){w:Wd}(h:w.ok n):aB [aN w,.int (n:Int)]=some (.int ((tw n w:Nat):Int)):=by
 have x64:w.x<64:=Nat.lt_of_lt_of_le h.1 (nV hn);have p64:2^n<=64:=nV hn;have m:io (.int (w.x:Int)) (.int ((2^n:Nat):Int))=some (.int ((w.x:Int)*((2^n:Nat):Int))):=ol (MA.uu 10 10 (by rw[Int.natAbs_natCast];lia) (by rw[Int.natAbs_natCast];lia) (by decide));rw[sU (aN w) w.x w.z _ _ n rfl rfl (nW (by lia)) m];unfold tw;rw[Int.natCast_add,Int.natCast_mul,Int.mul_comm]
noncomputable def topN(a:Nat):Nat->Nat
 | 0=>0
 |i+1=>if hasB a i then i else topN a i
theorem qr{a:Nat}(h:a≠0):∀i,tp a<i->topN a i=tp a
 | 0,h0=>absurd h0 (Nat.not_lt_zero _)
 |i+1,hi=>by
  unfold topN;by_cases e:tp a=i
  ·rw[if_pos (by rw[<-e];exact fV h),e]
  ·rw[if_neg (by rw[nH (by lia)];simp),qr h i (by lia)]
theorem EM(a i:Nat):(ob (o2 (o2 (o2 (oC (.int (a:Int))) (oC (.int (i:Int))) fj) (oC (.int 1)) dB) (oC (.int 1)) cy)) []=some (hasB a i):=by
 have e:=qu a i;have h:=uL a i;simp only[ob,o2,oC,Option.bind_some,e];show some (Builtin.bitAnd ((a/2^i:Nat):Int) 1==1)=_;rw[xB];rw[h]
theorem z9{δ:Dv}{f1 f2:Dv->Option D}{a i:Nat}(h1:f1 δ = some (.int (a:Int)))(h2:f2 δ = some (.int (i:Int))):(ob (o2 (o2 (o2 f1 f2 fj) (oC (.int 1)) dB) (oC (.int 1)) cy)) δ = some (hasB a i):=by
 rw[<-EM a i];simp only[ob,o2,h1,h2,oC]
theorem tu{a:Nat}(h:a≠0)(ha:a<2^12):bp [.int (a:Int)]=some (.int ((tp a:Nat):Int)):=by
 have r:bS [.int 12]=some (iM 0 12):=rfl;obtain⟨δ,e,x,hx⟩:=ke (b:=eF) (k:=2) (fun i δ=>∃x,δ = [.fz (.int (a:Int)),.fz (.int ((topN a i:Nat):Int)),x]) 12 (fun i _ δ ⟨x,hx⟩=>by
  subst hx;refine⟨[.fz (.int (a:Int)),.fz (.int ((topN a (i+1):Nat):Int)),.fz (.int (i:Int))],?_,_,rfl⟩;have t:(ob (o2 (o2 (o2 (oV 0) (oV 2) fj) (oC (.int 1)) dB) (oC (.int 1)) cy)) [.fz (.int (a:Int)),.fz (.int ((topN a i:Nat):Int)),.fz (.int (i:Int))]=some (hasB a i):=z9 rfl rfl;show eF [.fz (.int (a:Int)),.fz (.int ((topN a i:Nat):Int)),.fz (.int (i:Int))]=_;unfold eF;rw[show topN a (i+1)=if hasB a i then i else topN a i from rfl];cases hb:hasB a i with
  |true=>rw[hb]at t;rw[qx t];rfl
  |false=>rw[hb]at t;rw[ig t];rfl) [.fz (.int (a:Int)),.fz (.int 0),.un] ⟨.un,rfl⟩
 subst hx;have tl:tp a<12:=(Nat.log2_lt h).mpr ha;rw[qr h 12 tl]at e;refine ut rfl (δ':=[.fz (.int (a:Int)),.fz (.int ((tp a:Nat):Int)),x]) ?_;unfold hV;refine(eN (δ':=[.fz (.int (a:Int)),.fz (.int 0),.un]) rfl).trans ((eN (δ':=[.fz (.int (a:Int)),.fz (.int ((tp a:Nat):Int)),x]) ?_).trans rfl);unfold dX;rw[show(oL (ac (oC (.int 12)) (ak)) bS) [.fz (.int (a:Int)),.fz (.int 0),.un]=some (iM 0 12)from r];exact e
theorem xJ{n:Nat}(hn:n<=6){w:Wd}(h:w.ok n):tw n w<2^12:=by
 unfold tw;have p64:2^n<=64:=nV hn;have h1:=h.1;have h2:=h.2.1;have m:=Nat.mul_le_mul_left (2^n) (show w.x+1<=2^n by lia);rw[Nat.mul_add]at m;have m2:=Nat.mul_le_mul p64 p64;have:(2:Nat)^12=64*64:=rfl
 lia
theorem DH(K F O:D)(n x z s kx tk to p:Int)(ox oz os' sz a q r x' z':Int)(hb:(ob (o2 (o2 (o2 (VL.os (ac (oV 0) (ac (oV 2) (ak))) aB) (VL.os (ac (VL.os (ac (oV 6) (ac (oV 2) (ak))) aB) (ak)) bp) fj) (oC (.int 1)) dB) (oC (.int 1)) cy)) [.fz K,.fz F,.fz (.int n),.fz (.int x),.fz (.int z),.fz (.int s),.fz O]=some true)
  (o0:aF O (.int 0)=some (.int ox)) (o1:aF O (.int 1)=some (.int oz)) (o2':aF O (.int 2)=some (.int os')) (ha:Builtin.bitAnd z ox=a) (od:bw [.int a]=some (.int p)) (hm:io (.int 2) (.int p)=some (.int q)) (hr:(s+os'+q)%4=r) (hx:Builtin.bitXor x ox=x') (hz:Builtin.bitXor z oz=z') :
  aE [.fz K,.fz F,.fz (.int n),.fz (.int x),.fz (.int z),.fz (.int s),.fz O]=some (.nx,[.fz K,.fz F,.fz (.int n),.fz (.int x'),.fz (.int z'),.fz (.int r),.fz O]):=by
 unfold aE;rw[qx hb];simp[o0,o1,o2',ha,od,hm,hr,hx,hz]
theorem xl{n:Nat}(hn:n<=6)(F:D){k a o:Wd}(hk:k.ok n)(ha:a.ok n)(ho:o.ok n)(h0:tw n o≠0):aE [.fz (aN k),.fz F,.fz (.int (n:Int)),.fz (.int (a.x:Int)),.fz (.int (a.z:Int)),.fz (.int (a.s:Int)),.fz (aN o)] =
  some (.nx,[.fz (aN k),.fz F,.fz (.int (n:Int)),.fz (.int ((if hasB (tw n k) (tp (tw n o))then au a o else a).x:Int)),.fz (.int ((if hasB (tw n k) (tp (tw n o))then au a o else a).z:Int)),.fz (.int ((if hasB (tw n k) (tp (tw n o))then au a o else a).s:Int)),.fz (aN o)]):=by
 have hb:(ob (o2 (o2 (o2 (VL.os (ac (oV 0) (ac (oV 2) (ak))) aB) (VL.os (ac (VL.os (ac (oV 6) (ac (oV 2) (ak))) aB) (ak)) bp) fj) (oC (.int 1)) dB) (oC (.int 1)) cy)) [.fz (aN k),.fz F,.fz (.int (n:Int)),.fz (.int (a.x:Int)),.fz (.int (a.z:Int)),.fz (.int (a.s:Int)),.fz (aN o)]=some (hasB (tw n k) (tp (tw n o))):=by
  refine z9 (iK hn hk) ?_;have w:=iK hn ho;have t:=tu h0 (xJ hn ho);show((aB [aN o,.int (n:Int)]).bind fun x=>some [x]).bind bp=_
  rw[w];exact t
 cases h:hasB (tw n k) (tp (tw n o))with
 |true=>
  rw[h]at hb;have l64:a.z &&& o.x<64:=yc hn ha.2.1;have pl:=MA.cu (a.z &&& o.x);have mp:io (.int 2) (.int ((par (a.z &&& o.x):Nat):Int))=some (.int (2*((par (a.z &&& o.x):Nat):Int))):=ol (MA.uu 10 10 (by decide) (by rw[Int.natAbs_natCast];lia) (by decide));have x:=DH (aN k) F (aN o) n a.x a.z a.s 0 0 0 ((par (a.z &&& o.x):Nat):Int) o.x o.z o.s 0 ((a.z &&& o.x:Nat):Int) (2*((par (a.z &&& o.x):Nat):Int)) (((a.s+o.s+2*par (a.z &&& o.x))%4:Nat):Int) ((a.x ^^^ o.x:Nat):Int) ((a.z ^^^ o.z:Nat):Int) hb rfl rfl rfl (MA.nh _ _) (uk _ l64) mp (by lia) (MA.g9 _ _) (MA.g9 _ _);rw[x];rfl
 |false=>
  rw[h]at hb;unfold aE;rw[ig hb];rfl
theorem qU{n:Nat}(hn:n<=6)(F:D){k:Wd}(hk:k.ok n):∀(R:List Wd) (a:Wd) (y:Sl),a.ok n->(∀o∈R,o.ok n/\tw n o≠0)->∃y',loop (gN 6) aE (wsD R) [.fz (aN k),.fz F,.fz (.int (n:Int)),.fz (.int (a.x:Int)),.fz (.int (a.z:Int)),.fz (.int (a.s:Int)),y] =
  some (.nx,[.fz (aN k),.fz F,.fz (.int (n:Int)),.fz (.int ((xm n k R a).x:Int)),.fz (.int ((xm n k R a).z:Int)),.fz (.int ((xm n k R a).s:Int)),y'])
 |[],a,y,_,_=>⟨y,rfl⟩
 |o::R,a,y,ha,h=>by
  have ho:=h o (.head _);obtain⟨y',e⟩:=qU hn F hk R (if hasB (tw n k) (tp (tw n o))then au a o else a) (.fz (aN o)) (by split;exact MA.aS ha ho.1;exact ha) fun b hb=>h b (.tail _ hb)
  refine⟨y',?_⟩;have s:=xl hn F hk ha ho.1 ho.2;show((gN 6 (aN o) [.fz (aN k),.fz F,.fz (.int (n:Int)),.fz (.int (a.x:Int)),.fz (.int (a.z:Int)),.fz (.int (a.s:Int)),y]).bind fun δ1=>(aE δ1).bind _)=_
  simp only[gN,Option.bind_some,List.set_cons_succ,List.set_cons_zero];rw[s];exact e
theorem BU{n:Nat}(hn:n<=6){T:List (Wd×Wd)}{R:List Wd}(g:Good n T)(r:Wr n T R){k:Wd}(hk:k∈e7 T):aL [aN k,.tuple (wsD R),.int (n:Int)]=some (.bool true):=by
 have kp:=g.kp;have ko:=kp.ok k hk;obtain⟨y,e⟩:=qU hn (.tuple (wsD R)) ko R k .un ko fun o ho=>⟨(r.gr o ho).ok kp,r.red.nz _ (List.mem_map_of_mem ho)⟩
 rw[sD g r hk]at e;refine ut rfl (δ':=[.fz (aN k),.fz (.tuple (wsD R)),.fz (.int (n:Int)),.fz (.int 0),.fz (.int 0),.fz (.int 0),y]) ?_;unfold bH;refine(eN (δ':=[.fz (aN k),.fz (.tuple (wsD R)),.fz (.int (n:Int)),.fz (.int (k.x:Int)),.un,.un,.un]) rfl).trans ((eN (δ':=[.fz (aN k),.fz (.tuple (wsD R)),.fz (.int (n:Int)),.fz (.int (k.x:Int)),.fz (.int (k.z:Int)),.un,.un]) rfl).trans ((eN (δ':=[.fz (aN k),.fz (.tuple (wsD R)),.fz (.int (n:Int)),.fz (.int (k.x:Int)),.fz (.int (k.z:Int)),.fz (.int (k.s:Int)),.un]) rfl).trans ((eN (δ':=[.fz (aN k),.fz (.tuple (wsD R)),.fz (.int (n:Int)),.fz (.int 0),.fz (.int 0),.fz (.int 0),y]) ?_).trans ?_)))
 ·unfold dX
  rw[show(oI (oV 1) da) [.fz (aN k),.fz (.tuple (wsD R)),.fz (.int (n:Int)),.fz (.int (k.x:Int)),.fz (.int (k.z:Int)),.fz (.int (k.s:Int)),.un]=some (wsD R)from rfl];exact e
 ·rfl
theorem C6(T F O:D)(n x z s a p:Int)(y4 y5 y6 y7:Sl)(iw:bi [O,.int n]=some (.bool true))(o0:aF O (.int 0)=some (.int x))(o1:aF O (.int 1)=some (.int z))(o2':aF O (.int 2)=some (.int s))(ha:Builtin.bitAnd x z=a)(od:bw [.int a]=some (.int p))(hs:(s+p)%2=0):
  cm [.fz T,.fz (.int n),.fz F,.fz O,y4,y5,y6,y7]=some (.nx,[.fz T,.fz (.int n),.fz F,.fz O,y4,y5,y6,y7]):=by
 unfold cm;rw[ig ?_]
 ·rfl
 ·simp[iw,o0,o1,o2',ha,od,hs]
theorem qz{n:Nat}(hn:n<=6)(T F:D)(y4 y5 y6 y7:Sl):∀(R:List Wd) (y:Sl),(∀o∈R,o.ok n/\dU o=true)->∃y',loop (gN 3) cm (wsD R) [.fz T,.fz (.int (n:Int)),.fz F,y,y4,y5,y6,y7]=some (.nx,[.fz T,.fz (.int (n:Int)),.fz F,y',y4,y5,y6,y7])
 |[],y,_=>⟨y,rfl⟩
 |o::R,y,h=>by
  obtain⟨ho,hs⟩:=h o (.head _);obtain⟨y',e⟩:=qz hn T F y4 y5 y6 y7 R (.fz (aN o)) fun b hb=>h b (.tail _ hb)
  refine⟨y',?_⟩;have hs:(o.s+par (o.x &&& o.z))%2=0:=by unfold dU at hs;simpa using hs
  have s:=C6 T F (aN o) n o.x o.z o.s _ _ y4 y5 y6 y7 (sk o n hn ho) rfl rfl rfl (MA.nh _ _) (uk _ (yc hn ho.1)) (by lia);rw[show wsD (o::R)=aN o::wsD R from rfl,bn (δ1:=[.fz T,.fz (.int (n:Int)),.fz F,.fz (aN o),y4,y5,y6,y7]) (by rfl) s];exact e
noncomputable def gX(n:Nat)(R:List Wd):List D:=R.map fun w=>.int ((tw n w:Nat):Int)
theorem ql{n:Nat}{R:List Wd}{i:Nat}(hi:i<R.length):aF (.list (gX n R)) (.int (i:Int))=some (.int ((tw n R[i]:Nat):Int)):=ek (j:=i) rfl (by unfold gX;rw[List.getElem?_map,List.getElem?_eq_getElem hi];rfl)
theorem Cz{n:Nat}(hn:n<=6)(T:D)(R:List Wd)(hl:R.length<=1000)(ok:∀o∈R,o.ok n)(y3 y4 y5 y6 y7:Sl):dH [.fz T,.fz (.int (n:Int)),.fz (.tuple (wsD R)),y3,y4,y5,y6,y7]=some (.list (gX n R)):=by
 unfold dH gX;refine df (h:=aN) (xs:=R) rfl (by lia) fun o ho=>?_
 show(aB [aN o,.int (n:Int)])=_;exact iK hn (ok o ho)
theorem yC{l:List Nat}(h:Red l):∀(i j:Nat) (hi:i<l.length) (hj:j<l.length),i≠j->hasB l[j] (tp l[i])=false:=fun i j hi hj ne=>by
 have q:=List.pairwise_iff_getElem.mp h.pw;rcases Nat.lt_or_gt_of_ne ne with z|z
 ·exact(q i j hi hj z).2
 ·exact(q j i hj hi z).1
theorem uq{f1 f2:Dv->Option D}{g:D->D->Option D}{δ:Dv}{a b:D}(h1:f1 δ = some a)(h2:f2 δ = some b):o2 f1 f2 g δ = g a b:=by unfold o2;rw[h1,h2];rfl
theorem C5{n:Nat}(hn:n<=6)(T F:D){R:List Wd}(ok:∀o∈R,o.ok n)(red:Red (R.map (tw n))){i j:Nat}(hi:i<R.length)(hj:j<R.length)(y3 y7:Sl):
  ck [.fz T,.fz (.int (n:Int)),.fz F,y3,.fz (.list (gX n R)),.fz (.int (i:Int)),.fz (.int (j:Int)),y7]=some (.nx,[.fz T,.fz (.int (n:Int)),.fz F,y3,.fz (.list (gX n R)),.fz (.int (i:Int)),.fz (.int (j:Int)),y7]):=by
 have wi:=ql (n:=n) hi;have wj:=ql (n:=n) hj;have hm:R[i]∈R:=List.getElem_mem hi;have t:=tu (red.nz _ (List.mem_map_of_mem hm)) (xJ hn (ok _ hm));have b:(ob (o2 (o2 (o2 (o2 (oV 4) (oV 6) aF) (VL.os (ac (o2 (oV 4) (oV 5) aF) (ak)) bp) fj) (oC (.int 1)) dB) (oC (.int 1)) cy)) [.fz T,.fz (.int (n:Int)),.fz F,y3,.fz (.list (gX n R)),.fz (.int (i:Int)),.fz (.int (j:Int)),y7]=some (hasB (tw n R[j]) (tp (tw n R[i]))):=by
  refine z9 wj ?_;show((aF (.list (gX n R)) (.int (i:Int))).bind fun x=>some [x]).bind bp=_
  rw[wi];exact t
 have a:(ob (o2 (oV 5) (oV 6) neD)) [.fz T,.fz (.int (n:Int)),.fz F,y3,.fz (.list (gX n R)),.fz (.int (i:Int)),.fz (.int (j:Int)),y7]=some (!decide (i=j)):=by
  show(neD (.int (i:Int)) (.int (j:Int))).bind asB=_;rw[Dk];rfl
 unfold ck;rw[ig ?_]
 ·rfl
 ·unfold um
  rw[a];by_cases e:i=j
  ·simp[e]
  ·have r:=yC red i j (by rw[List.length_map];exact hi) (by rw[List.length_map];exact hj) e
   rw[List.getElem_map,List.getElem_map]at r;rw[r]at b;rw[decide_eq_false e];exact b
theorem C4{n:Nat}(hn:n<=6)(T F:D){R:List Wd}(hl:R.length=n)(ok:∀o∈R,o.ok n)(red:Red (R.map (tw n)))(dn:(R.map (tw n)).Pairwise (· > ·)){i:Nat}(hi:i<R.length)(y3 y6 y7:Sl):
  ∃y',cj [.fz T,.fz (.int (n:Int)),.fz F,y3,.fz (.list (gX n R)),.fz (.int (i:Int)),y6,y7]=some (.nx,[.fz T,.fz (.int (n:Int)),.fz F,y3,.fz (.list (gX n R)),.fz (.int (i:Int)),y',y7]):=by
 have wi:=ql (n:=n) hi;have hm:R[i]∈R:=List.getElem_mem hi;have nz:tw n R[i]≠0:=red.nz _ (List.mem_map_of_mem hm);have rg:bS [.int (n:Int)]=some (iM 0 n):=by
  have:=iN (j:=(n:Int)) (by lia) (by lia)
  rwa [Int.toNat_natCast]at this
 obtain⟨δ,e,y',hx⟩:=ke (b:=ck) (k:=6) (fun _ δ=>∃y',δ = [.fz T,.fz (.int (n:Int)),.fz F,y3,.fz (.list (gX n R)),.fz (.int (i:Int)),y',y7]) n (fun j hj δ ⟨y,h⟩=>by
  subst h;exact⟨_,C5 hn T F ok red hi (show j<R.length by lia) y3 y7,_,rfl⟩) [.fz T,.fz (.int (n:Int)),.fz F,y3,.fz (.list (gX n R)),.fz (.int (i:Int)),y6,y7] ⟨y6,rfl⟩
 subst hx;refine⟨y',?_⟩;unfold cj;refine(eN (δ':=[.fz T,.fz (.int (n:Int)),.fz F,y3,.fz (.list (gX n R)),.fz (.int (i:Int)),y6,y7]) ((ig ?_).trans rfl)).trans ?_
 ·have c1:(ob (o2 (o2 (oV 4) (oV 5) aF) (oC (.int 0)) cy)) [.fz T,.fz (.int (n:Int)),.fz F,y3,.fz (.list (gX n R)),.fz (.int (i:Int)),y6,y7]=some false:=by
   have w':(o2 (oV 4) (oV 5) aF) [.fz T,.fz (.int (n:Int)),.fz F,y3,.fz (.list (gX n R)),.fz (.int (i:Int)),y6,y7]=some (.int ((tw n R[i]:Nat):Int)):=wi;unfold ob;rw[uq w' (b:=.int 0) rfl,xg];have:(((tw n R[i]:Nat):Int)==0)=false:=beq_eq_false_iff_ne.mpr (by lia);rw[this];rfl
  rw[xS c1];unfold um;cases i with
  |zero=>rfl
  |succ k=>
   have g0:(ob (o2 (oV 5) (oC (.int 0)) Dy)) [.fz T,.fz (.int (n:Int)),.fz F,y3,.fz (.list (gX n R)),.fz (.int ((k+1:Nat):Int)),y6,y7]=some true:=by
    show some (decide (((k+1:Nat):Int)>0))=_;rw[decide_eq_true (by lia)]
   rw[g0];have wk:=ql (n:=n) (show k<R.length by lia);have c2:(ob (o2 (o2 (oV 4) (oV 5) aF) (o2 (oV 4) (o2 (oV 5) (oC (.int 1)) jj) aF) Dz)) [.fz T,.fz (.int (n:Int)),.fz F,y3,.fz (.list (gX n R)),.fz (.int ((k+1:Nat):Int)),y6,y7]=some false:=by
    have s1:(o2 (oV 4) (o2 (oV 5) (oC (.int 1)) jj) aF) [.fz T,.fz (.int (n:Int)),.fz F,y3,.fz (.list (gX n R)),.fz (.int ((k+1:Nat):Int)),y6,y7]=some (.int ((tw n R[k]:Nat):Int)):=by
     show aF (.list (gX n R)) (.int (((k+1:Nat):Int)-1))=_;rw[show(((k+1:Nat):Int)-1)=(k:Int) by lia];exact wk
    have w':(o2 (oV 4) (oV 5) aF) [.fz T,.fz (.int (n:Int)),.fz F,y3,.fz (.list (gX n R)),.fz (.int ((k+1:Nat):Int)),y6,y7]=some (.int ((tw n R[k+1]:Nat):Int)):=wi;unfold ob;rw[uq w' s1];have q:=List.pairwise_iff_getElem.mp dn k (k+1) (by rw[List.length_map];lia) (by rw[List.length_map];exact hi) (by lia);rw[List.getElem_map,List.getElem_map]at q;show some (decide (((tw n R[k+1]:Nat):Int)>=((tw n R[k]:Nat):Int)))=_;rw[decide_eq_false (by lia)]
   exact c2
 ·unfold dX
  rw[xT (δ:=[.fz T,.fz (.int (n:Int)),.fz F,y3,.fz (.list (gX n R)),.fz (.int (i:Int)),y6,y7]) (fs:=ac (oV 1) (ak)) (ds:=[.int (n:Int)]) rfl rg];exact e
theorem qy{n:Nat}(hn:n<=6){T:List (Wd×Wd)}{R:List Wd}(g:Good n T)(r:Wr n T R)(TD:D)(y3 y4 y5 y6:Sl):∀(S:List (Wd×Wd)) (y:Sl),(∀p∈S,p∈T)->∃y',loop (gN 7) ci (S.map jm) [.fz TD,.fz (.int (n:Int)),.fz (.tuple (wsD R)),y3,y4,y5,y6,y]=some (.nx,[.fz TD,.fz (.int (n:Int)),.fz (.tuple (wsD R)),y3,y4,y5,y6,y'])
 |[],y,_=>⟨y,rfl⟩
 |p::S,y,h=>by
  obtain⟨y',e⟩:=qy hn g r TD y3 y4 y5 y6 S (.fz (jm p)) fun b hb=>h b (.tail _ hb)
  refine⟨y',?_⟩;have c:=BU hn g r (k:=p.2) (List.mem_map_of_mem (h p (.head _)));have s:ci [.fz TD,.fz (.int (n:Int)),.fz (.tuple (wsD R)),y3,y4,y5,y6,.fz (jm p)]=some (.nx,[.fz TD,.fz (.int (n:Int)),.fz (.tuple (wsD R)),y3,y4,y5,y6,.fz (jm p)]):=by
   unfold ci;rw[ig ?_]
   ·rfl
   ·have q:(VL.os (ac (o2 (oV 7) (oC (.int 1)) aF) (ac (oV 2) (ac (oV 1) (ak)))) aL) [.fz TD,.fz (.int (n:Int)),.fz (.tuple (wsD R)),y3,y4,y5,y6,.fz (jm p)]=some (.bool true):=c
    unfold iR ob;rw[q];rfl
  rw[List.map_cons,bn (δ1:=[.fz TD,.fz (.int (n:Int)),.fz (.tuple (wsD R)),y3,y4,y5,y6,.fz (jm p)]) (by rfl) s];exact e
theorem gd{n:Nat}(hn:n<=6){T:List (Wd×Wd)}(g:Good n T):aZ [bd T,.int (n:Int)]=some (.bool true):=by
 obtain⟨R,r,dn,e⟩:=pE hn g;have kp:=g.kp;have ok:∀o∈R,o.ok n:=fun o ho=>(r.gr o ho).ok kp
 have rl:=r.len;have ln:d5 [.tuple (wsD R)]=some (.int (n:Int)):=by
  show some (PyData.int ((wsD R).length:Int))=_;unfold wsD;rw[List.length_map,rl]
 have rg:bS [.int (n:Int)]=some (iM 0 n):=by
  have:=iN (j:=(n:Int)) (by lia) (by lia)
  rwa [Int.toNat_natCast]at this
 obtain⟨y3,e1⟩:=qz hn (bd T) (.tuple (wsD R)) .un .un .un .un R .un fun o ho=>⟨ok o ho,(r.gr o ho).str kp⟩
 have p1:=Cz hn (bd T) R (by lia) ok y3 .un .un .un .un;obtain⟨δ,e3,y5,y6,hx⟩:=ke (b:=cj) (k:=5) (fun _ δ=>∃y5 y6,δ = [.fz (bd T),.fz (.int (n:Int)),.fz (.tuple (wsD R)),y3,.fz (.list (gX n R)),y5,y6,.un]) n (fun i hi δ ⟨y5,y6,h⟩=>by
  subst h;obtain⟨y',q⟩:=C4 hn (bd T) (.tuple (wsD R)) rl ok r.red dn (show i<R.length by lia) y3 y6 .un;exact⟨_,q,_,_,rfl⟩) [.fz (bd T),.fz (.int (n:Int)),.fz (.tuple (wsD R)),y3,.fz (.list (gX n R)),.un,.un,.un] ⟨.un,.un,rfl⟩
 subst hx;obtain⟨y7,e4⟩:=qy hn g r (bd T) y3 (.fz (.list (gX n R))) y5 y6 T .un fun _ h=>h
 refine ut rfl (δ':=[.fz (bd T),.fz (.int (n:Int)),.fz (.tuple (wsD R)),y3,.fz (.list (gX n R)),y5,y6,y7]) ?_;unfold ee;refine(eN (δ':=[.fz (bd T),.fz (.int (n:Int)),.fz (.tuple (wsD R)),.un,.un,.un,.un,.un]) ?_).trans ((eN (δ':=[.fz (bd T),.fz (.int (n:Int)),.fz (.tuple (wsD R)),.un,.un,.un,.un,.un]) ((ig ?_).trans rfl)).trans ((eN (δ':=[.fz (bd T),.fz (.int (n:Int)),.fz (.tuple (wsD R)),y3,.un,.un,.un,.un]) ?_).trans ((eN (δ':=[.fz (bd T),.fz (.int (n:Int)),.fz (.tuple (wsD R)),y3,.fz (.list (gX n R)),.un,.un,.un]) ?_).trans ((eN (δ':=[.fz (bd T),.fz (.int (n:Int)),.fz (.tuple (wsD R)),y3,.fz (.list (gX n R)),y5,y6,.un]) ?_).trans ((eN (δ':=[.fz (bd T),.fz (.int (n:Int)),.fz (.tuple (wsD R)),y3,.fz (.list (gX n R)),y5,y6,y7]) ?_).trans rfl)))))
 ·unfold aT
  rw[show(VL.os (ac (oV 0) (ak)) dQ) (av dj [bd T,.int (n:Int)])=some (.tuple (wsD R))from e];rfl
 ·have t1:(iR (ob (o1 (oV 2) (fG "tuple")))) [.fz (bd T),.fz (.int (n:Int)),.fz (.tuple (wsD R)),.un,.un,.un,.un,.un]=some false:=rfl
  have t2:(ob (o2 (VL.os (ac (oV 2) (ak)) d5) (oV 1) neD)) [.fz (bd T),.fz (.int (n:Int)),.fz (.tuple (wsD R)),.un,.un,.un,.un,.un]=some false:=by
   have l':(VL.os (ac (oV 2) (ak)) d5) [.fz (bd T),.fz (.int (n:Int)),.fz (.tuple (wsD R)),.un,.un,.un,.un,.un]=some (.int (n:Int)):=ln;unfold ob;rw[uq l' (b:=.int (n:Int)) rfl,wD,beq_self_eq_true];rfl
  rw[xS t1];exact t2
 ·unfold dX
  rw[show(oI (oV 2) da) [.fz (bd T),.fz (.int (n:Int)),.fz (.tuple (wsD R)),.un,.un,.un,.un,.un]=some (wsD R)from rfl];exact e1
 ·unfold aT
  rw[p1];rfl
 ·unfold dX
  rw[xT (δ:=[.fz (bd T),.fz (.int (n:Int)),.fz (.tuple (wsD R)),y3,.fz (.list (gX n R)),.un,.un,.un]) (fs:=ac (oV 1) (ak)) (ds:=[.int (n:Int)]) rfl rg];exact e3
 ·unfold dX
  rw[show(oI (oV 0) da) [.fz (bd T),.fz (.int (n:Int)),.fz (.tuple (wsD R)),y3,.fz (.list (gX n R)),y5,y6,.un]=some (T.map jm)from rfl];exact e4
section
variable(z0 z4 z5:Sl)(F F':D)(n c:Int)
theorem sa(R:D)(hc:c%5<4)(h1:ba [.int (c/5),.int n]=some R)(h2:bC [F,R]=some F'):eO [z0,.fz (.int n),.fz F,.fz (.int c),z4,z5]=some (.nx,[z0,.fz (.int n),.fz F',.fz (.int c),z4,z5]):=by
 simp[-sSeq,-sIf,aK,bf,eO,hc,h1,h2]
theorem sb(j m:Int)(hc:¬c%5<4)(hj:cW (.int (c/5)) (.int n)=some (.int j))(ht:aJ [F,.int j]=some (.int m))(h2:aM [F,.int j,.int m]=some F')(hs:aZ [F',.int n]=some (.bool true)):eO [z0,.fz (.int n),.fz F,.fz (.int c),z4,z5]=some (.nx,[z0,.fz (.int n),.fz F',.fz (.int c),.fz (.int j),.fz (.int m)]):=by
 simp[-sSeq,-sIf,aK,bf,eO,hc,hj,ht,h2,hs,isD]
theorem sc(j m:Int)(hc:¬c%5<4)(hj:cW (.int (c/5)) (.int n)=some (.int j))(ht:aJ [F,.int j]=some .none)(hm:c/30%2=m)(h2:aM [F,.int j,.int m]=some F')(hs:aZ [F',.int n]=some (.bool true)):eO [z0,.fz (.int n),.fz F,.fz (.int c),z4,z5]=some (.nx,[z0,.fz (.int n),.fz F',.fz (.int c),.fz (.int j),.fz (.int m)]):=by
 simp[-sSeq,-sIf,aK,bf,eO,hc,hj,ht,hm,h2,hs,isD]
end
theorem vW{n:Nat}(h1:1<=n)(hn:n<=6)(z0:Sl)(c:Int){T:List (Wd×Wd)}(t:Tb n T)(z4 z5:Sl):∃T' y4 y5,Tb n T'/\eO [z0,.fz (.int n),.fz (bd T),.fz (.int c),z4,z5]=some (.nx,[z0,.fz (.int n),.fz (bd T'),.fz (.int c),y4,y5]):=by
 by_cases hc:c%5<4
 ·obtain⟨r,hr,ho,er⟩:=wI (c/5) n h1
  exact⟨_,_,_,t.carry hn hr (qQ ho),sa z0 z4 z5 _ _ n c _ hc er (AH hn hr ho t.good)⟩
 ·have hw0:(0:Int)<n:=by lia
  have a1:=Int.emod_nonneg (c/5) (show(n:Int)≠0 by lia);have a2:=Int.emod_lt_of_pos (c/5) hw0;obtain⟨j,hj⟩:∃j:Nat,c/5%n=j:=⟨(c/5%n).toNat,by lia⟩;have ej:=f9 (i:=c/5) hw0;rw[hj]at ej a1 a2;have hjn:j<n:=by lia
  cases h:vE T (iH n j 0) n with
  |nil=>
   obtain⟨m,hm,e,told⟩:=rH hn t hjn h;exact⟨_,_,_,t,sb z0 z4 z5 _ _ n c j m hc ej told (vO _ _ _ _ told (qF hn t.good hjn hm)) (gd hn t.good)⟩
  |cons k I=>
   obtain⟨q,hk,hA,_⟩:=vn t.good h;obtain⟨m,em⟩:∃m:Nat,c/30%2=(m:Int):=⟨(c/30%2).toNat,by lia⟩;have hm:m<2:=by lia
   have hA':agB q.2 (iH n j m)=false:=hA;have to:=t.opened hk (kf hjn hm) (zo n j m) hA';exact⟨_,_,_,to,sc z0 z4 z5 _ _ n c j m hc ej (lF hn t.good hjn h) em (oB hn t.good hjn hm h hk) (gd hn to.good)⟩
theorem nK{n:Nat}(h1:1<=n)(hn:n<=6)(z0:Sl):∀(cs:List Int) {T:List (Wd×Wd)},Tb n T->∀z3 z4 z5:Sl,∃T' y3 y4 y5,Tb n T'/\loop (gN 3) eO (cs.map .int) [z0,.fz (.int n),.fz (bd T),z3,z4,z5]=some (.nx,[z0,.fz (.int n),.fz (bd T'),y3,y4,y5])
 |[],T,t,z3,z4,z5=>⟨T,z3,z4,z5,t,rfl⟩
 |c::cs,T,t,z3,z4,z5=>by
  obtain⟨T1,y4,y5,t1,e1⟩:=vW h1 hn z0 c t z4 z5;obtain⟨T2,x3,x4,x5,t2,e2⟩:=nK h1 hn z0 cs t1 (.fz (.int c)) y4 y5;exact⟨T2,x3,x4,x5,t2,by rw[List.map_cons,bn (δ1:=[z0,.fz (.int n),.fz (bd T),.fz (.int c),z4,z5]) (by simp) e1,e2]⟩
theorem Bs(S B T T':D)(c d n p q:Int)(L:List D)(y3 y4 y5:Sl)(h0:aQ [S,.int 0]=some (.int c))(hw:1+c%6=n)(h1:aQ [S,.int 1]=some (.int d))(hp:gI (.int 1) (.int n)=some (.int p))(hq:cW (.int d) (.int p)=some (.int q))(bg:bL [.int n,.int q]=some T)(sl:Cc S (some 2) (some 122)=some B)(it:da B=some L)(lp:loop (gN 3) eO L [.fz S,.fz (.int n),.fz T,.un,.un,.un]=some (.nx,[.fz S,.fz (.int n),.fz T',y3,y4,y5]))(lg:aZ [T',.int n]=some (.bool true)):oM [S]=some (.bool true):=by
 simp[-sSeq,-sIf,aK,bf,oM,runB,vh,av,h0,hw,h1,hp,hq,bg,sl,it,lp,lg]
theorem law_true(ns:List Int)(hl:ns.length<=63):oM [.list (ns.map .int)]=some (.bool true):=by
 obtain⟨c,hc⟩:=q0 ns 0 (by decide);obtain⟨d,hd⟩:=q0 ns 1 (by decide);obtain⟨n,hw⟩:∃w:Nat,1+c%6=(w:Int):=⟨(1+c%6).toNat,by lia⟩;have h1:1<=n:=by lia
 have h6:n<=6:=by lia
 have pp:=Nat.two_pow_pos n;obtain⟨q,hq⟩:∃q:Nat,d%((2^n:Nat):Int)=(q:Int):=⟨(d%((2^n:Nat):Int)).toNat,(Int.toNat_of_nonneg (Int.emod_nonneg _ (by lia))).symm⟩;have mq:=f9 (i:=d) (j:=((2^n:Nat):Int)) (by lia);rw[hq]at mq;obtain⟨cs,hcl,hsl⟩:=xj ns (some 2) (some 122);obtain⟨T',y3,y4,y5,t',lp⟩:=nK h1 h6 (.fz (.list (ns.map .int))) cs (vT h6 q) .un .un .un;exact Bs _ _ _ _ c d n _ _ _ y3 y4 y5 hc hw hd (nW (by lia)) mq (tz h6 q) hsl rfl lp (gd h6 t'.good)
end GN
namespace GN
open PySem PySem.Spec PyProof.Rows L2 VL
structure Txt (mg:Str->Option Value):Prop where
 tuple:mg "tuple" = none
 range:mg "range" = none
 any:mg "any" = none
 len:mg "len" = none
 sorted:mg "sorted" = none
 isinstance:mg "isinstance" = none
 int:mg "int" = none
 bool:mg "bool" = none
section
variable{P:Program}{w:World}{K:PySem.W.Frag}{mg:Str->Option Value}{base:Heap}
theorem tQ:FnScope rp ["wires","wire"] (af jH):=⟨rfl,rfl,rfl,by decide +kernel,rfl,by decide +kernel,by decide +kernel⟩
theorem uh{f:Addr}{fd:FuncData}{dV:Value}(F:FunV K "worth" "worth" jH f fd dV)(T:Txt mg):FnOk P w K mg base cJ 1 f fd ["wires","wire"] (dG K bK):=
 ca (k:=0) (b:=ni) F tQ fun cdv A outer s H E hr=>(aj (ax (ai lU ad (ai iA (ai iA (aa 0) ad) (aa 1)))))
theorem pF:FnScope i8 ["wires","place"] (af eZ):=⟨rfl,rfl,rfl,by decide +kernel,rfl,by decide +kernel,by decide +kernel⟩
theorem pM{f:Addr}{fd:FuncData}{dV:Value}(F:FunV K "bits_of" "bits_of" eZ f fd dV)(T:Txt mg):FnOk P w K mg base cJ 1 f fd ["wires","place"] (dG K cG):=
 ca (k:=0) (b:=i5) F pF fun cdv A outer s H E hr=>(aj (ax (e9 iE rfl T.tuple (by decide +kernel) (ab (gG (vars:=["wire"]) (caps:=[(0,"wires"),(1,"place")]) (by change BlkOk (af eZ).names i8 _ _ _;exact⟨rfl,by decide +kernel,by decide +kernel,by decide +kernel,by decide +kernel⟩) rfl (b8 rfl T.range (ab (aa 0) ae)) dS (fun _ _ _ _=>b7 (i:=0) (show(["wire","wires","place"]:List Str).Nodup by decide +kernel) rfl (Or.inl rfl) (.inr rfl)) (fun _ _ _ _=>(ai de (ai lT (aa 2) (ai iA (ai iA (aa 1) ad) (aa 0))) ad))) ae))))
theorem mK:FnScope ji ["place","both"] (af eE):=⟨rfl,rfl,rfl,by decide +kernel,rfl,by decide +kernel,by decide +kernel⟩
theorem mQ{f:Addr}{fd:FuncData}{dV:Value}(F:FunV K "exchanged" "exchanged" eE f fd dV)(T:Txt mg):FnOk P w K mg base cJ 1 f fd ["place","both"] (dG K bh):=
 ca (k:=0) (b:=eJ) F mK fun cdv A outer s H E hr=>(aj (ax (gj (aH BT (ai de (aa 0) (aa 1)) (bA (ab ad (ab (aa 1) ae))) (by with_unfolding_all rfl)) (aa 0) (ai eG (aa 0) (aa 1)))))
theorem sc_value_of:FnScope kP ["bitset","bits"] (af fm):=⟨rfl,rfl,rfl,by decide +kernel,rfl,by decide +kernel,by decide +kernel⟩
theorem n0{f:Addr}{fd:FuncData}{dV:Value}(F:FunV K "value_of" "value_of" fm f fd dV)(T:Txt mg):FnOk P w K mg base cJ 1 f fd ["bitset","bits"] (dG K aY):=
 ca (k:=0) (b:=hG) F sc_value_of fun cdv A outer s H E hr=>(ah (ay 2 sc_value_of.nd (ai de (aa 0) (aa 1))) (ah (ay 3 sc_value_of.nd ad) (ah (tF (fun _=>wN) PassesOwn.never (aH (kB hr.units) (aa 2) ad (aC _)) (ah (ay 2 sc_value_of.nd (ai de (aa 2) (ai iA (aa 2) ad))) (aj (ay 3 sc_value_of.nd (ai iA ad (aa 3)))))) (aj (ax (aa 3))))))
theorem yt:FnScope yf ["bitset","bit"] (af qw):=⟨rfl,rfl,rfl,by decide +kernel,rfl,by decide +kernel,by decide +kernel⟩
theorem zk{f:Addr}{fd:FuncData}{dV:Value}(F:FunV K "has" "has" qw f fd dV)(T:Txt mg):FnOk P w K mg base cJ 1 f fd ["bitset","bit"] (dG K iy):=
 ca (k:=0) (b:=vi) F yt fun cdv A outer s H E hr=>(aj (ax (gk (dP hr.units) (ai de (ai lT (aa 0) (aa 1)) ad) ad (aC _))))
theorem sc_word_times:FnScope N_word_times ["one","other"] (af dM):=⟨rfl,rfl,rfl,by decide +kernel,rfl,by decide +kernel,by decide +kernel⟩
theorem gO{f:Addr}{fd:FuncData}{dV:Value}(F:FunV K "word_times" "word_times" dM f fd dV)(T:Txt mg)(C_value_of:Cal P w K mg base "value_of" 1 aY []):FnOk P w K mg base cJ 2 f fd ["one","other"] (dG K aw):=
 ca (k:=1) (b:=fJ) F sc_word_times fun cdv A outer s H E hr=>(ah (ay 2 sc_word_times.nd (ai eH (ai eH (aq aA (aa 0) ad (fun _ _=>rfl)) (aq aA (aa 1) ad (fun _ _=>rfl))) (ai gn ad (ao C_value_of (hr.mono (by decide)) rfl (ab (aq aA (aa 0) ad (fun _ _=>rfl)) (ab (aq aA (aa 1) ad (fun _ _=>rfl)) ae)))))) (aj (ax (bA (ab (ai eG (aq aA (aa 0) ad (fun _ _=>rfl)) (aq aA (aa 1) ad (fun _ _=>rfl))) (ab (ai eG (aq aA (aa 0) ad (fun _ _=>rfl)) (aq aA (aa 1) ad (fun _ _=>rfl))) (ab (ai cf (aa 2) ad) ae)))))))
theorem tR:FnScope rq ["one","other"] (af jI):=⟨rfl,rfl,rfl,by decide +kernel,rfl,by decide +kernel,by decide +kernel⟩
theorem ui{f:Addr}{fd:FuncData}{dV:Value}(F:FunV K "agree" "agree" jI f fd dV)(T:Txt mg)(C_word_times:Cal P w K mg base "word_times" 2 aw []):FnOk P w K mg base cJ 3 f fd ["one","other"] (dG K b9):=
 ca (k:=2) (b:=nj) F tR fun cdv A outer s H E hr=>(aj (ax (gk (dP hr.units) (ao C_word_times (hr.mono (by decide)) rfl (ab (aa 0) (ab (aa 1) ae))) (ao C_word_times (hr.mono (by decide)) rfl (ab (aa 1) (ab (aa 0) ae))) (aC _))))
theorem sc_swing_carried:FnScope fT ["word","bit"] (af cg):=⟨rfl,rfl,rfl,by decide +kernel,rfl,by decide +kernel,by decide +kernel⟩
theorem iQ{f:Addr}{fd:FuncData}{dV:Value}(F:FunV K "swing_carried" "swing_carried" cg f fd dV)(T:Txt mg)(C_value_of:Cal P w K mg base "value_of" 1 aY []):FnOk P w K mg base cJ 2 f fd ["word","bit"] (dG K bo):=
 ca (k:=1) (b:=dI) F sc_swing_carried fun cdv A outer s H E hr=>(ah (ay 2 sc_swing_carried.nd (ai de (ai eG (aq aA (aa 0) ad (fun _ _=>rfl)) (aq aA (aa 0) ad (fun _ _=>rfl))) (aa 1))) (ah (ay 3 sc_swing_carried.nd (ai eH (aq aA (aa 0) ad (fun _ _=>rfl)) (ai gn ad (ao C_value_of (hr.mono (by decide)) rfl (ab (ai de (aq aA (aa 0) ad (fun _ _=>rfl)) (aq aA (aa 0) ad (fun _ _=>rfl))) (ab (aa 1) ae)))))) (aj (ax (bA (ab (ai eG (aq aA (aa 0) ad (fun _ _=>rfl)) (aa 2)) (ab (ai eG (aq aA (aa 0) ad (fun _ _=>rfl)) (aa 2)) (ab (ai cf (aa 3) ad) ae))))))))
theorem sc_turn_carried:FnScope gw ["word","bit","e"] (af cN):=⟨rfl,rfl,rfl,by decide +kernel,rfl,by decide +kernel,by decide +kernel⟩
theorem jn{f:Addr}{fd:FuncData}{dV:Value}(F:FunV K "turn_carried" "turn_carried" cN f fd dV)(T:Txt mg):FnOk P w K mg base cJ 1 f fd ["word","bit","e"] (dG K aP):=
 ca (k:=0) (b:=b0) F sc_turn_carried fun cdv A outer s H E hr=>(ah (bt (aH (dP hr.units) (ai de (aq aA (aa 0) ad (fun _ _=>rfl)) (aa 1)) ad (aC _)) (aj (ax (aa 0))) aW) (ah (bt (aH (dP hr.units) (ai cf (aa 2) ad) ad (aC _)) (aj tG) aW) (ah (ay 3 sc_turn_carried.nd (gj (aH (dP hr.units) (ai cf (aa 2) ad) ad (aC _)) (ai eG (aq aA (aa 0) ad (fun _ _=>rfl)) (aa 1)) (aq aA (aa 0) ad (fun _ _=>rfl)))) (aj (ax (bA (ab (aq aA (aa 0) ad (fun _ _=>rfl)) (ab (aa 3) (ab (ai cf (ai eH (aq aA (aa 0) ad (fun _ _=>rfl)) (ai kC (aa 2) ad)) ad) ae)))))))))
theorem sc_tie_carried:FnScope gR ["word","first","second"] (af dq):=⟨rfl,rfl,rfl,by decide +kernel,rfl,by decide +kernel,by decide +kernel⟩
theorem j6{f:Addr}{fd:FuncData}{dV:Value}(F:FunV K "tie_carried" "tie_carried" dq f fd dV)(T:Txt mg):FnOk P w K mg base cJ 1 f fd ["word","first","second"] (dG K aX):=
 ca (k:=0) (b:=bR) F sc_tie_carried fun cdv A outer s H E hr=>(ah (ay 3 sc_tie_carried.nd (gj (aH (kB hr.units) (ai de (aq aA (aa 0) ad (fun _ _=>rfl)) (aa 1)) ad (aC _)) (ai eG (aq aA (aa 0) ad (fun _ _=>rfl)) (aa 2)) (aq aA (aa 0) ad (fun _ _=>rfl)))) (ah (ay 4 sc_tie_carried.nd (gj (aH (kB hr.units) (ai de (aq aA (aa 0) ad (fun _ _=>rfl)) (aa 2)) ad (aC _)) (ai eG (aq aA (aa 0) ad (fun _ _=>rfl)) (aa 1)) (aq aA (aa 0) ad (fun _ _=>rfl)))) (aj (ax (bA (ab (aa 3) (ab (aa 4) (ab (aq aA (aa 0) ad (fun _ _=>rfl)) ae))))))))
theorem sc_sign_carried:FnScope gy ["word","first","second"] (af cR):=⟨rfl,rfl,rfl,by decide +kernel,rfl,by decide +kernel,by decide +kernel⟩
theorem jp{f:Addr}{fd:FuncData}{dV:Value}(F:FunV K "sign_carried" "sign_carried" cR f fd dV)(T:Txt mg):FnOk P w K mg base cJ 1 f fd ["word","first","second"] (dG K bu):=
 ca (k:=0) (b:=d8) F sc_sign_carried fun cdv A outer s H E hr=>(ah (ay 3 sc_sign_carried.nd (aq aA (aa 0) ad (fun _ _=>rfl))) (ah (bt (aH (kB hr.units) (ai de (aq aA (aa 0) ad (fun _ _=>rfl)) (aa 1)) ad (aC _)) (aj (ay 3 sc_sign_carried.nd (ai eG (aa 3) (aa 2)))) aW) (ah (bt (aH (kB hr.units) (ai de (aq aA (aa 0) ad (fun _ _=>rfl)) (aa 2)) ad (aC _)) (aj (ay 3 sc_sign_carried.nd (ai eG (aa 3) (aa 1)))) aW) (ah (ay 4 sc_sign_carried.nd (ai xi (aa 1) (aa 2))) (ah (ay 5 sc_sign_carried.nd (gj (aH (dP hr.units) (ai de (aq aA (aa 0) ad (fun _ _=>rfl)) (aa 4)) (aa 4) (aC _)) (ai eH (aq aA (aa 0) ad (fun _ _=>rfl)) ad) (aq aA (aa 0) ad (fun _ _=>rfl)))) (aj (ax (bA (ab (aq aA (aa 0) ad (fun _ _=>rfl)) (ab (aa 3) (ab (ai cf (aa 5) ad) ae)))))))))))
theorem sc_carried:FnScope ms ["wires","word","row"] (af gD):=⟨rfl,rfl,rfl,by decide +kernel,rfl,by decide +kernel,by decide +kernel⟩
theorem pL{f:Addr}{fd:FuncData}{dV:Value}(F:FunV K "carried" "carried" gD f fd dV)(T:Txt mg)(C_worth:Cal P w K mg base "worth" 1 bK [])(C_swing_carried:Cal P w K mg base "swing_carried" 2 bo [])(C_turn_carried:Cal P w K mg base "turn_carried" 1 aP [])(C_tie_carried:Cal P w K mg base "tie_carried" 1 aX [])(C_sign_carried:Cal P w K mg base "sign_carried" 1 bu [])(C_exchanged:Cal P w K mg base "exchanged" 1 bh [])(C_value_of:Cal P w K mg base "value_of" 1 aY []):FnOk P w K mg base cJ 3 f fd ["wires","word","row"] (dG K aO):=
 ca (k:=2) (b:=cH) F sc_carried fun cdv A outer s H E hr=>(ah (ay 3 sc_carried.nd (ao C_worth (hr.mono (by decide)) rfl (ab (aa 0) (ab (aq aA (aa 2) ad (fun _ _=>rfl)) ae)))) (ah (bt (aH (dP hr.units) (aq aA (aa 2) ad (fun _ _=>rfl)) bN (aC _)) (aj (ax (ao C_swing_carried (hr.mono (by decide)) rfl (ab (aa 1) (ab (aa 3) ae))))) aW) (ah (bt (aH (dP hr.units) (aq aA (aa 2) ad (fun _ _=>rfl)) bN (aC _)) (aj (ax (ao C_turn_carried (hr.mono (by decide)) rfl (ab (aa 1) (ab (aa 3) (ab (aq aA (aa 2) ad (fun _ _=>rfl)) ae)))))) aW) (ah (bt (aH (dP hr.units) (aq aA (aa 2) ad (fun _ _=>rfl)) bN (aC _)) (aj (ax (bA (ab (aq aA (aa 1) ad (fun _ _=>rfl)) (ab (aq aA (aa 1) ad (fun _ _=>rfl)) (ab (ai cf (ai eH (aq aA (aa 1) ad (fun _ _=>rfl)) (ai gn ad (ao C_value_of (hr.mono (by decide)) rfl (ab (aq aA (aa 1) ad (fun _ _=>rfl)) (ab (aa 3) ae))))) ad) ae)))))) aW) (ah (ay 4 sc_carried.nd (ao C_worth (hr.mono (by decide)) rfl (ab (aa 0) (ab (aq aA (aa 2) ad (fun _ _=>rfl)) ae)))) (ah (bt (aH (dP hr.units) (aq aA (aa 2) ad (fun _ _=>rfl)) bN (aC _)) (aj (ax (ao C_tie_carried (hr.mono (by decide)) rfl (ab (aa 1) (ab (aa 3) (ab (aa 4) ae)))))) aW) (ah (bt (aH (dP hr.units) (aq aA (aa 2) ad (fun _ _=>rfl)) bN (aC _)) (aj (ax (ao C_sign_carried (hr.mono (by decide)) rfl (ab (aa 1) (ab (aa 3) (ab (aa 4) ae)))))) aW) (aj (ax (bA (ab (ao C_exchanged (hr.mono (by decide)) rfl (ab (aq aA (aa 1) ad (fun _ _=>rfl)) (ab (ai xi (aa 3) (aa 4)) ae))) (ab (ao C_exchanged (hr.mono (by decide)) rfl (ab (aq aA (aa 1) ad (fun _ _=>rfl)) (ab (ai xi (aa 3) (aa 4)) ae))) (ab (aq aA (aa 1) ad (fun _ _=>rfl)) ae)))))))))))))
theorem sc_table_of:FnScope fN ["wires","place"] (af bU):=⟨rfl,rfl,rfl,by decide +kernel,rfl,by decide +kernel,by decide +kernel⟩
theorem n4{f:Addr}{fd:FuncData}{dV:Value}(F:FunV K "table_of" "table_of" bU f fd dV)(T:Txt mg)(C_bits_of:Cal P w K mg base "bits_of" 1 cG [])(C_worth:Cal P w K mg base "worth" 1 bK []):FnOk P w K mg base cJ 2 f fd ["wires","place"] (dG K bL):=
 ca (k:=1) (b:=hJ) F sc_table_of fun cdv A outer s H E hr=>(ah (ay 2 sc_table_of.nd (ao C_bits_of (hr.mono (by decide)) rfl (ab (aa 0) (ab (aa 1) ae)))) (ah (ay 3 sc_table_of.nd (gG (vars:=["wire"]) (caps:=[(0,"wires")]) (by change BlkOk (af bU).names fN _ _ _;exact⟨rfl,by decide +kernel,by decide +kernel,by decide +kernel,by decide +kernel⟩) rfl (b8 rfl T.range (ab (aa 0) ae)) dS (fun _ _ _ _=>b7 (i:=0) (show(["wire","wires"]:List Str).Nodup by decide +kernel) rfl (Or.inl rfl) (.inr rfl)) (fun _ _ _ _=>(ao C_worth (hr.mono (by decide)) rfl (ab (aa 1) (ab (aa 0) ae)))))) (aj (ax (e9 iE rfl T.tuple (by decide +kernel) (ab (gG (vars:=["wire"]) (caps:=[(2,"bits"),(3,"flips")]) (by change BlkOk (af bU).names fN _ _ _;exact⟨rfl,by decide +kernel,by decide +kernel,by decide +kernel,by decide +kernel⟩) rfl (b8 rfl T.range (ab (aa 0) ae)) dS (fun _ _ _ _=>b7 (i:=0) (show(["wire","bits","flips"]:List Str).Nodup by decide +kernel) rfl (Or.inl rfl) (.inr rfl)) (fun _ _ _ _=>(bA (ab (bA (ab (aq aA (aa 2) (aa 0) (fun _ _=>rfl)) (ab ad (ab ad ae)))) (ab (bA (ab ad (ab (aq aA (aa 2) (aa 0) (fun _ _=>rfl)) (ab (ai gn ad (aq aA (aa 1) (aa 0) (fun _ _=>rfl))) ae)))) ae))))) ae))))))
theorem lb:FnScope fP ["rows"] (af cS):=⟨rfl,rfl,rfl,by decide +kernel,rfl,by decide +kernel,by decide +kernel⟩
theorem lh{f:Addr}{fd:FuncData}{dV:Value}(F:FunV K "refuse_odd" "refuse_odd" cS f fd dV)(T:Txt mg):FnOk P w K mg base cJ 1 f fd ["rows"] (dG K bM):=
 ca (k:=0) (b:=fL) F lb fun cdv A outer s H E hr=>(aj (bt (dE (dc (BY rfl) rfl T.any (by decide +kernel) (ab (gG (vars:=["row"]) (caps:=[]) (by change BlkOk (af cS).names fP _ _ _;exact⟨rfl,by decide +kernel,by decide +kernel,by decide +kernel,by decide +kernel⟩) rfl (cZ (aa 0)) dS (fun _ _ _ _=>b7 (i:=0) (show(["row"]:List Str).Nodup by decide +kernel) rfl (Or.inl rfl) (.inr rfl)) (fun _ _ _ _=>(mZ (gk (dP hr.units) (aq aA (aa 0) ad (fun _ _=>rfl)) bN (aC _)) (pU (gk (dP hr.units) (ai cf (aq aA (aa 0) ad (fun _ _=>rfl)) ad) ad (aC _)))))) ae))) (aj tG) aW))
theorem sc_table_done:FnScope fO ["table","row"] (af cQ):=⟨rfl,rfl,rfl,by decide +kernel,rfl,by decide +kernel,by decide +kernel⟩
theorem ld{f:Addr}{fd:FuncData}{dV:Value}(F:FunV K "table_done" "table_done" cQ f fd dV)(T:Txt mg)(C_refuse_odd:Cal P w K mg base "refuse_odd" 1 bM [])(C_carried:Cal P w K mg base "carried" 3 aO []):FnOk P w K mg base cJ 4 f fd ["table","row"] (dG K bC):=
 ca (k:=3) (b:=fK) F sc_table_done fun cdv A outer s H E hr=>(ah (vU (ao C_refuse_odd (hr.mono (by decide)) rfl (ab (bA (ab (aa 1) ae)) ae))) (ah (ay 2 sc_table_done.nd (dc jc rfl T.len (by decide +kernel) (ab (aa 0) ae))) (aj (ax (e9 iE rfl T.tuple (by decide +kernel) (ab (gG (vars:=["pair"]) (caps:=[(1,"row"),(2,"wires")]) (by change BlkOk (af cQ).names fO _ _ _;exact⟨rfl,by decide +kernel,by decide +kernel,by decide +kernel,by decide +kernel⟩) rfl (cZ (aa 0)) dS (fun _ _ _ _=>b7 (i:=0) (show(["pair","row","wires"]:List Str).Nodup by decide +kernel) rfl (Or.inl rfl) (.inr rfl)) (fun _ _ _ _=>(bA (ab (ao C_carried (hr.mono (by decide)) rfl (ab (aa 2) (ab (aq aA (aa 0) ad (fun _ _=>rfl)) (ab (aa 1) ae)))) (ab (ao C_carried (hr.mono (by decide)) rfl (ab (aa 2) (ab (aq aA (aa 0) ad (fun _ _=>rfl)) (ab (aa 1) ae)))) ae))))) ae))))))
theorem mJ:FnScope jg ["table","wire","mark"] (af eA):=⟨rfl,rfl,rfl,by decide +kernel,rfl,by decide +kernel,by decide +kernel⟩
theorem mO{f:Addr}{fd:FuncData}{dV:Value}(F:FunV K "look_word" "look_word" eA f fd dV)(T:Txt mg)(C_worth:Cal P w K mg base "worth" 1 bK []):FnOk P w K mg base cJ 2 f fd ["table","wire","mark"] (dG K aU):=
 ca (k:=1) (b:=gv) F mJ fun cdv A outer s H E hr=>(aj (ax (bA (ab ad (ab (ao C_worth (hr.mono (by decide)) rfl (ab (dc jc rfl T.len (by decide +kernel) (ab (aa 0) ae)) (ab (aa 1) ae))) (ab (ai gn ad (aa 2)) ae))))))
theorem jk:FnScope el ["table","word"] (af bV):=⟨rfl,rfl,rfl,by decide +kernel,rfl,by decide +kernel,by decide +kernel⟩
theorem jq{f:Addr}{fd:FuncData}{dV:Value}(F:FunV K "against_look" "against_look" bV f fd dV)(T:Txt mg)(C_agree:Cal P w K mg base "agree" 3 b9 []):FnOk P w K mg base cJ 4 f fd ["table","word"] (dG K aI):=
 ca (k:=3) (b:=d9) F jk fun cdv A outer s H E hr=>(aj (ax (oQ (vars:=["wire"]) (caps:=[(0,"table"),(1,"word")]) (by change BlkOk (af bV).names el _ _ _;exact⟨rfl,by decide +kernel,by decide +kernel,by decide +kernel,by decide +kernel⟩) rfl (b8 rfl T.range (ab (dc jc rfl T.len (by decide +kernel) (ab (aa 0) ae)) ae)) dS (fun _ _ _ _=>b7 (i:=0) (show(["wire","table","word"]:List Str).Nodup by decide +kernel) rfl (Or.inl rfl) (.inr rfl)) (fun _ _ _ _=>(fU (dE (ao C_agree (hr.mono (by decide)) rfl (ab (aq aA (aq aA (aa 1) (aa 0) (fun _ _=>rfl)) ad (fun _ _=>rfl)) (ab (aa 2) ae)))))) (fun _ _ _ _=>(aa 0)))))
theorem jW:FnScope eU ["table","word"] (af ce):=⟨rfl,rfl,rfl,by decide +kernel,rfl,by decide +kernel,by decide +kernel⟩
theorem j7{f:Addr}{fd:FuncData}{dV:Value}(F:FunV K "keepers_for" "keepers_for" ce f fd dV)(T:Txt mg)(C_agree:Cal P w K mg base "agree" 3 b9 []):FnOk P w K mg base cJ 4 f fd ["table","word"] (dG K bq):=
 ca (k:=3) (b:=eR) F jW fun cdv A outer s H E hr=>(aj (ax (oQ (vars:=["wire"]) (caps:=[(0,"table"),(1,"word")]) (by change BlkOk (af ce).names eU _ _ _;exact⟨rfl,by decide +kernel,by decide +kernel,by decide +kernel,by decide +kernel⟩) rfl (b8 rfl T.range (ab (dc jc rfl T.len (by decide +kernel) (ab (aa 0) ae)) ae)) dS (fun _ _ _ _=>b7 (i:=0) (show(["wire","table","word"]:List Str).Nodup by decide +kernel) rfl (Or.inl rfl) (.inr rfl)) (fun _ _ _ _=>(fU (dE (ao C_agree (hr.mono (by decide)) rfl (ab (aq aA (aq aA (aa 1) (aa 0) (fun _ _=>rfl)) ad (fun _ _=>rfl)) (ab (aa 2) ae)))))) (fun _ _ _ _=>(aa 0)))))
theorem sc_look_told:FnScope jh ["table","wire"] (af eB):=⟨rfl,rfl,rfl,by decide +kernel,rfl,by decide +kernel,by decide +kernel⟩
theorem mP{f:Addr}{fd:FuncData}{dV:Value}(F:FunV K "look_told" "look_told" eB f fd dV)(T:Txt mg)(C_look_word:Cal P w K mg base "look_word" 2 aU [])(C_keepers_for:Cal P w K mg base "keepers_for" 4 bq [])(C_against_look:Cal P w K mg base "against_look" 4 aI [])(C_word_times:Cal P w K mg base "word_times" 2 aw []):FnOk P w K mg base cJ 5 f fd ["table","wire"] (dG K aJ):=
 ca (k:=4) (b:=eI) F sc_look_told fun cdv A outer s H E hr=>(ah (ay 2 sc_look_told.nd (ao C_look_word (hr.mono (by decide)) rfl (ab (aa 0) (ab (aa 1) (ab ad ae))))) (ah (bt (aH (kB hr.units) (ao C_against_look (hr.mono (by decide)) rfl (ab (aa 0) (ab (aa 2) ae))) (pW ae) (aC _)) (aj (ax pV)) aW) (ah (ay 3 sc_look_told.nd (bA (ab ad (ab ad (ab ad ae))))) (ah (dF PassesOwn.never rfl (cZ (ao C_keepers_for (hr.mono (by decide)) rfl (ab (aa 0) (ab (aa 2) ae)))) (cn 4 sc_look_told.nd) (aj (ay 3 sc_look_told.nd (ao C_word_times (hr.mono (by decide)) rfl (ab (aa 3) (ab (aq aA (aq aA (aa 0) (aa 4) (fun _ _=>rfl)) ad (fun _ _=>rfl)) ae)))))) (aj (ax (gj (aH (dP hr.units) (aa 3) (aa 2) (aC _)) ad ad)))))))
theorem nR:FnScope kS ["word","look","keeper"] (af fw):=⟨rfl,rfl,rfl,by decide +kernel,rfl,by decide +kernel,by decide +kernel⟩
theorem n9{f:Addr}{fd:FuncData}{dV:Value}(F:FunV K "agreeing" "agreeing" fw f fd dV)(T:Txt mg)(C_agree:Cal P w K mg base "agree" 3 b9 [])(C_word_times:Cal P w K mg base "word_times" 2 aw []):FnOk P w K mg base cJ 4 f fd ["word","look","keeper"] (dG K bZ):=
 ca (k:=3) (b:=hU) F nR fun cdv A outer s H E hr=>(aj (ax (gj (dE (ao C_agree (hr.mono (by decide)) rfl (ab (aa 0) (ab (aa 1) ae)))) (aa 0) (ao C_word_times (hr.mono (by decide)) rfl (ab (aa 0) (ab (aa 2) ae))))))
theorem sc_opened:FnScope kQ ["table","wire","look"] (af fX):=⟨rfl,rfl,rfl,by decide +kernel,rfl,by decide +kernel,by decide +kernel⟩
theorem rX{f:Addr}{fd:FuncData}{dV:Value}(F:FunV K "opened" "opened" fX f fd dV)(T:Txt mg)(C_agreeing:Cal P w K mg base "agreeing" 4 bZ []):FnOk P w K mg base cJ 5 f fd ["table","wire","look"] (dG K dA):=
 ca (k:=4) (b:=kK) F sc_opened fun cdv A outer s H E hr=>(ah (ay 3 sc_opened.nd (aq aA (aq aA (aa 0) (aa 1) (fun _ _=>rfl)) ad (fun _ _=>rfl))) (ah (nI 4 sc_opened.nd (vars:=["pair"]) (caps:=[(2,"look"),(3,"keeper")]) (by change BlkOk (af fX).names kQ _ _ _;exact⟨rfl,by decide +kernel,by decide +kernel,by decide +kernel,by decide +kernel⟩) rfl (cZ (aa 0)) dS (fun _ _ _ _=>b7 (i:=0) (show(["pair","look","keeper"]:List Str).Nodup by decide +kernel) rfl (Or.inl rfl) (.inr rfl)) (fun _ _ _ _=>(bA (ab (ao C_agreeing (hr.mono (by decide)) rfl (ab (aq aA (aa 0) ad (fun _ _=>rfl)) (ab (aa 1) (ab (aa 2) ae)))) (ab (ao C_agreeing (hr.mono (by decide)) rfl (ab (aq aA (aa 0) ad (fun _ _=>rfl)) (ab (aa 1) (ab (aa 2) ae)))) ae))))) (ah (yo 4 (aa 1) (bA (ab (aa 3) (ab (aa 2) ae)))) (aj (tH 4 (ax (e9 iE rfl T.tuple (by decide +kernel) (ab (aa 4) ae))))))))
theorem sc_table_looked:FnScope gx ["table","wire","mark"] (af cO):=⟨rfl,rfl,rfl,by decide +kernel,rfl,by decide +kernel,by decide +kernel⟩
theorem jo{f:Addr}{fd:FuncData}{dV:Value}(F:FunV K "table_looked" "table_looked" cO f fd dV)(T:Txt mg)(C_look_told:Cal P w K mg base "look_told" 5 aJ [])(C_look_word:Cal P w K mg base "look_word" 2 aU [])(C_opened:Cal P w K mg base "opened" 5 dA [])(C_against_look:Cal P w K mg base "against_look" 4 aI []):FnOk P w K mg base cJ 6 f fd ["table","wire","mark"] (dG K aM):=
 ca (k:=5) (b:=dg) F sc_table_looked fun cdv A outer s H E hr=>(ah (ay 3 sc_table_looked.nd (ao C_look_told (hr.mono (by decide)) rfl (ab (aa 0) (ab (aa 1) ae)))) (ah (ay 4 sc_table_looked.nd (ao C_look_word (hr.mono (by decide)) rfl (ab (aa 0) (ab (aa 1) (ab (aa 2) ae))))) (ah (bt (aH BS (aa 3) pV (aC _)) (aj (ax (ao C_opened (hr.mono (by decide)) rfl (ab (aa 0) (ab (aq aA (ao C_against_look (hr.mono (by decide)) rfl (ab (aa 0) (ab (aa 4) ae))) ad (fun _ _=>rfl)) (ab (aa 4) ae)))))) aW) (ah (bt (aH (kB hr.units) (aa 3) (aa 2) (aC _)) (aj tG) aW) (aj (ax (aa 0)))))))
theorem nQ:FnScope kR ["bitset"] (af fq):=⟨rfl,rfl,rfl,by decide +kernel,rfl,by decide +kernel,by decide +kernel⟩
theorem n6{f:Addr}{fd:FuncData}{dV:Value}(F:FunV K "greatest" "greatest" fq f fd dV)(T:Txt mg):FnOk P w K mg base cJ 1 f fd ["bitset"] (dG K bY):=
 ca (k:=0) (b:=hR) F nQ fun cdv A outer s H E hr=>(aj (ax (ai iA (xc (aa 0)) ad)))
theorem sc_cleared:FnScope i7 ["things","bits_in","product"] (af eY):=⟨rfl,rfl,rfl,by decide +kernel,rfl,by decide +kernel,by decide +kernel⟩
theorem pK{f:Addr}{fd:FuncData}{dV:Value}(F:FunV K "cleared" "cleared" eY f fd dV)(T:Txt mg)(C_has:Cal P w K mg base "has" 1 iy [])(C_greatest:Cal P w K mg base "greatest" 1 bY [])(G_shl:PySem.W.nsIn K mainGlobals "<lambda> shl" = some none)(V_word_times:CalF P w K mg base "word_times" 2 aw):FnOk P w K mg base cJ 3 f fd ["things","bits_in","product"] (dG K dR):=
 ca (k:=2) (b:=i4) F sc_cleared fun cdv A outer s H E hr=>(ah (yp 3 sc_cleared.nd ae) (ah (dF PassesOwn.never rfl (cZ (aa 0)) (cn 4 sc_cleared.nd) (ah (tH 3 (dF PassesOwn.never rfl (cZ (aa 3)) (cn 5 sc_cleared.nd) (aj (bt (dE (ao C_has (hr.mono (by decide)) rfl (ab (gm 1 (k:=0) G_shl (hr.mono (by decide)) (ab (aa 4) ae)) (ab (ao C_greatest (hr.mono (by decide)) rfl (ab (gm 1 (k:=0) G_shl (hr.mono (by decide)) (ab (aa 5) ae)) ae)) ae)))) (aj (ay 4 sc_cleared.nd (oR 2 (k:=2) (qN (by decide) V_word_times uM) (hr.mono (by decide)) (ab (aa 4) (ab (aa 5) ae))))) aW)))) (aj (bt (aH (kB hr.units) (gm 1 (k:=0) G_shl (hr.mono (by decide)) (ab (aa 4) ae)) ad (aC _)) (ah (ay 6 sc_cleared.nd (ao C_greatest (hr.mono (by decide)) rfl (ab (gm 1 (k:=0) G_shl (hr.mono (by decide)) (ab (aa 4) ae)) ae))) (ah (nI 3 sc_cleared.nd (vars:=["other"]) (caps:=[(1,"bits_in"),(2,"product"),(4,"thing"),(6,"top")]) (by change BlkOk (af eY).names i7 _ _ _;exact⟨rfl,by decide +kernel,by decide +kernel,by decide +kernel,by decide +kernel⟩) rfl (cZ (aa 3)) dS (fun _ _ _ _=>b7 (i:=0) (show(["other","bits_in","product","thing","top"]:List Str).Nodup by decide +kernel) rfl (Or.inl rfl) (.inr rfl)) (fun _ _ _ _=>(gj (dE (ao C_has (hr.mono (by decide)) rfl (ab (gm 1 (k:=0) G_shl (hr.mono (by decide)) (ab (aa 0) ae)) (ab (aa 4) ae)))) (oR 2 (k:=2) (qN (by decide) V_word_times uM) (hr.mono (by decide)) (ab (aa 0) (ab (aa 3) ae))) (aa 0)))) (aj (yq 3 (aa 4))))) aW)))) (aj (tH 3 (ax (aa 3))))))
theorem sc_settled:FnScope i6 ["table"] (af eX):=⟨rfl,rfl,rfl,by decide +kernel,rfl,by decide +kernel,by decide +kernel⟩
theorem pJ{f:Addr}{fd:FuncData}{dV:Value}(F:FunV K "settled" "settled" eX f fd dV)(T:Txt mg){cT tT:Addr}(hns:PySem.W.nsIn K mainGlobals "settled" = some (some (.ref f)))(hT:PySem.W.tabIn K "settled" = some (cT,tT))(C_cleared:Cal P w K mg base "cleared" 3 dR [])(N_word_times:Fnm K mg "word_times")(G_shl:PySem.W.nsIn K mainGlobals "<lambda> shl" = some none):FnOk P w K mg base cJ 4 f fd ["table"] (dG K dQ):=
 BM (k:=3) (b1:=(aT 1 (os (ac (oV 0) (ak)) d5))) (b2:=(sSeq (aT 2 (os (ac (fE) (ac (wz "<lambda> shl" 1) (ac (oC (zP "word_times")) (ak)))) dR)) (be (os (ac (o1 (oV 2) jS) (ak)) eK)))) hns hT F sc_settled rfl (fun A outer s H E hr=>(ay 1 sc_settled.nd (dc jc rfl T.len (by decide +kernel) (ab (aa 0) ae)))) (fun A outer s H E hr=>(ah (ay 2 sc_settled.nd (ao C_cleared (hr.mono (by decide)) rfl (ab (gG (vars:=["pair"]) (caps:=[]) (by change BlkOk (af eX).names i6 _ _ _;exact⟨rfl,by decide +kernel,by decide +kernel,by decide +kernel,by decide +kernel⟩) rfl (cZ (aa 0)) dS (fun _ _ _ _=>b7 (i:=0) (show(["pair"]:List Str).Nodup by decide +kernel) rfl (Or.inl rfl) (.inr rfl)) (fun _ _ _ _=>(aq aA (aa 0) ad (fun _ _=>rfl)))) (ab (xa 1 .shl G_shl (by decide) hT rfl rfl rfl rfl rfl) (ab (uS N_word_times rfl) ae))))) (aj (ax (e9 iE rfl T.tuple (by decide +kernel) (ab (uQ rfl T.sorted (aa 2)) ae))))))
theorem jl:FnScope gA ["script","k"] (af cV):=⟨rfl,rfl,rfl,by decide +kernel,rfl,by decide +kernel,by decide +kernel⟩
theorem jt{f:Addr}{fd:FuncData}{dV:Value}(F:FunV K "_law_cell_at" "_law_cell_at" cV f fd dV)(T:Txt mg):FnOk P w K mg base cJ 1 f fd ["script","k"] (dG K aQ):=
 ca (k:=0) (b:=dh) F jl fun cdv A outer s H E hr=>(ah (bt (aH sB (aa 1) (dc jc rfl T.len (by decide +kernel) (ab (aa 0) ae)) (aC _)) (aj (ax (aq aA (aa 0) (aa 1) (fun _ _=>rfl)))) aW) (aj (ax ad)))
theorem lc:FnScope iG ["found"] (af dN):=⟨rfl,rfl,rfl,by decide +kernel,rfl,by decide +kernel,by decide +kernel⟩
theorem li{f:Addr}{fd:FuncData}{dV:Value}(F:FunV K "_law_whole" "_law_whole" dN f fd dV)(T:Txt mg):FnOk P w K mg base cJ 1 f fd ["found"] (dG K db):=
 ca (k:=0) (b:=fM) F lc fun cdv A outer s H E hr=>(aj (ax (mZ (mY (T:="int") rfl T.isinstance rfl T.int (by decide +kernel) (by decide) (by decide) (aa 0)) (pU (zR (mY (T:="bool") rfl T.isinstance rfl T.bool (by decide +kernel) (by decide) (by decide) (aa 0)))))))
theorem sc__law_odd:FnScope kX ["place"] (af fD):=⟨rfl,rfl,rfl,by decide +kernel,rfl,by decide +kernel,by decide +kernel⟩
theorem oh{f:Addr}{fd:FuncData}{dV:Value}(F:FunV K "_law_odd" "_law_odd" fD f fd dV)(T:Txt mg):FnOk P w K mg base cJ 1 f fd ["place"] (dG K bw):=
 ca (k:=0) (b:=hW) F sc__law_odd fun cdv A outer s H E hr=>(ah (ay 1 sc__law_odd.nd ad) (ah (dF PassesOwn.never rfl (b8 rfl T.range (ab ad ae)) (cn 2 sc__law_odd.nd) (aj (ay 1 sc__law_odd.nd (ai eG (aa 1) (ai de (ai lT (aa 0) (aa 2)) ad))))) (aj (ax (aa 1)))))
theorem sc__law_is_word:FnScope gz ["found","wires"] (af cU):=⟨rfl,rfl,rfl,by decide +kernel,rfl,by decide +kernel,by decide +kernel⟩
theorem js{f:Addr}{fd:FuncData}{dV:Value}(F:FunV K "_law_is_word" "_law_is_word" cU f fd dV)(T:Txt mg)(C__law_whole:Cal P w K mg base "_law_whole" 1 db []):FnOk P w K mg base cJ 2 f fd ["found","wires"] (dG K bi):=
 ca (k:=1) (b:=eh) F sc__law_is_word fun cdv A outer s H E hr=>(ah (bt (WV.tv (lE (fU (dE (mY (T:="tuple") rfl T.isinstance rfl T.tuple (by decide +kernel) (by decide) (by decide) (aa 0)))) (iJ (aH (kB hr.units) (dc jc rfl T.len (by decide +kernel) (ab (aa 0) ae)) ad (aC _))))) (aj (ax iz)) aW) (ah (dF PassesOwn.never rfl (cZ (aa 0)) (cn 2 sc__law_is_word.nd) (aj (bt (WV.tv (lE (fU (dE (ao C__law_whole (hr.mono (by decide)) rfl (ab (aa 2) ae)))) (iJ (aH sB (aa 2) ad (aC _))))) (aj (ax iz)) aW))) (aj (ax (mZ (gk sB (aq aA (aa 0) ad (fun _ _=>rfl)) (ai lU ad (aa 1)) (aC _)) (mZ (gk sB (aq aA (aa 0) ad (fun _ _=>rfl)) (ai lU ad (aa 1)) (aC _)) (pU (gk sB (aq aA (aa 0) ad (fun _ _=>rfl)) ad (aC _)))))))))
theorem sc__law_row:FnScope kU ["cell","wires"] (af fB):=⟨rfl,rfl,rfl,by decide +kernel,rfl,by decide +kernel,by decide +kernel⟩
theorem og{f:Addr}{fd:FuncData}{dV:Value}(F:FunV K "_law_row" "_law_row" fB f fd dV)(T:Txt mg):FnOk P w K mg base cJ 1 f fd ["cell","wires"] (dG K ba):=
 ca (k:=0) (b:=cA) F sc__law_row fun cdv A outer s H E hr=>(ah (ay 2 sc__law_row.nd (aq aA (pW (ab bN (ab bN (ab bN (ab bN (ab bN (ab bN ae))))))) (ai cf (aa 0) ad) (fun _ _=>rfl))) (ah (bt (aH (dP hr.units) (aa 1) ad (aC _)) (aj (ay 2 sc__law_row.nd (aq aA (pW (ab bN (ab bN (ab bN ae)))) (ai cf (aa 0) ad) (fun _ _=>rfl)))) aW) (ah (ay 3 sc__law_row.nd (ai cf (ai kC (aa 0) ad) (aa 1))) (ah (bt (aH (dP hr.units) (aa 2) bN (aC _)) (aj (ax (bA (ab bN (ab (aa 3) (ab (ai eH ad (ai gn ad (ai cf (ai kC (aa 0) ad) ad))) ae)))))) aW) (ah (bt (WV.tv (lE (aH (dP hr.units) (aa 2) bN (aC _)) (iJ (aH (dP hr.units) (aa 2) bN (aC _))))) (aj (ax (bA (ab (aa 2) (ab (aa 3) ae))))) aW) (aj (ax (bA (ab (aa 2) (ab (aa 3) (ab (ai cf (ai eH (ai eH (aa 3) ad) (ai cf (ai kC (aa 0) ad) (ai iA (aa 1) ad))) (aa 1)) ae)))))))))))
theorem jX:FnScope gS ["word","wires"] (af dt):=⟨rfl,rfl,rfl,by decide +kernel,rfl,by decide +kernel,by decide +kernel⟩
theorem j8{f:Addr}{fd:FuncData}{dV:Value}(F:FunV K "_law_weight" "_law_weight" dt f fd dV)(T:Txt mg):FnOk P w K mg base cJ 1 f fd ["word","wires"] (dG K aB):=
 ca (k:=0) (b:=eS) F jX fun cdv A outer s H E hr=>(aj (ax (ai eH (ai gn (aq aA (aa 0) ad (fun _ _=>rfl)) (ai lU ad (aa 1))) (aq aA (aa 0) ad (fun _ _=>rfl)))))
theorem sc__law_top:FnScope kT ["weight"] (af fA):=⟨rfl,rfl,rfl,by decide +kernel,rfl,by decide +kernel,by decide +kernel⟩
theorem oa{f:Addr}{fd:FuncData}{dV:Value}(F:FunV K "_law_top" "_law_top" fA f fd dV)(T:Txt mg):FnOk P w K mg base cJ 1 f fd ["weight"] (dG K bp):=
 ca (k:=0) (b:=hV) F sc__law_top fun cdv A outer s H E hr=>(ah (ay 1 sc__law_top.nd ad) (ah (dF PassesOwn.never rfl (b8 rfl T.range (ab ad ae)) (cn 2 sc__law_top.nd) (aj (bt (aH (dP hr.units) (ai de (ai lT (aa 0) (aa 2)) ad) ad (aC _)) (aj (ay 1 sc__law_top.nd (aa 2))) aW))) (aj (ax (aa 1)))))
theorem sc__law_comes_to_nothing:FnScope cI ["keeper","found","wires"] (af bj):=⟨rfl,rfl,rfl,by decide +kernel,rfl,by decide +kernel,by decide +kernel⟩
theorem eM{f:Addr}{fd:FuncData}{dV:Value}(F:FunV K "_law_comes_to_nothing" "_law_comes_to_nothing" bj f fd dV)(T:Txt mg)(C__law_weight:Cal P w K mg base "_law_weight" 1 aB [])(C__law_top:Cal P w K mg base "_law_top" 1 bp [])(C__law_odd:Cal P w K mg base "_law_odd" 1 bw []):FnOk P w K mg base cJ 2 f fd ["keeper","found","wires"] (dG K aL):=
 ca (k:=1) (b:=bH) F sc__law_comes_to_nothing fun cdv A outer s H E hr=>(ah (ay 3 sc__law_comes_to_nothing.nd (aq aA (aa 0) ad (fun _ _=>rfl))) (ah (ay 4 sc__law_comes_to_nothing.nd (aq aA (aa 0) ad (fun _ _=>rfl))) (ah (ay 5 sc__law_comes_to_nothing.nd (aq aA (aa 0) ad (fun _ _=>rfl))) (ah (dF PassesOwn.never rfl (cZ (aa 1)) (cn 6 sc__law_comes_to_nothing.nd) (aj (bt (aH (dP hr.units) (ai de (ai lT (ao C__law_weight (hr.mono (by decide)) rfl (ab (aa 0) (ab (aa 2) ae))) (ao C__law_top (hr.mono (by decide)) rfl (ab (ao C__law_weight (hr.mono (by decide)) rfl (ab (aa 6) (ab (aa 2) ae))) ae))) ad) ad (aC _)) (ah (ay 5 sc__law_comes_to_nothing.nd (ai cf (ai eH (ai eH (aa 5) (aq aA (aa 6) ad (fun _ _=>rfl))) (ai gn ad (ao C__law_odd (hr.mono (by decide)) rfl (ab (ai de (aa 4) (aq aA (aa 6) ad (fun _ _=>rfl))) ae)))) ad)) (ah (ay 3 sc__law_comes_to_nothing.nd (ai eG (aa 3) (aq aA (aa 6) ad (fun _ _=>rfl)))) (aj (ay 4 sc__law_comes_to_nothing.nd (ai eG (aa 4) (aq aA (aa 6) ad (fun _ _=>rfl))))))) aW))) (aj (ax (gk (dP hr.units) (bA (ab (aa 3) (ab (aa 4) (ab (aa 5) ae)))) (bA (ab ad (ab ad (ab ad ae)))) (aC _))))))))
theorem sc__law_settled:FnScope dj ["table","wires"] (af bW):=⟨rfl,rfl,rfl,by decide +kernel,rfl,by decide +kernel,by decide +kernel⟩
theorem jr{f:Addr}{fd:FuncData}{dV:Value}(F:FunV K "_law_settled" "_law_settled" bW f fd dV)(T:Txt mg)(C_settled:Cal P w K mg base "settled" 4 dQ [])(C__law_weight:Cal P w K mg base "_law_weight" 1 aB [])(C__law_comes_to_nothing:Cal P w K mg base "_law_comes_to_nothing" 2 aL [])(C__law_is_word:Cal P w K mg base "_law_is_word" 2 bi [])(C__law_odd:Cal P w K mg base "_law_odd" 1 bw [])(C__law_top:Cal P w K mg base "_law_top" 1 bp []):FnOk P w K mg base cJ 5 f fd ["table","wires"] (dG K aZ):=
 ca (k:=4) (b:=ee) F sc__law_settled fun cdv A outer s H E hr=>(ah (ay 2 sc__law_settled.nd (ao C_settled (hr.mono (by decide)) rfl (ab (aa 0) ae))) (ah (bt (WV.tv (lE (fU (dE (mY (T:="tuple") rfl T.isinstance rfl T.tuple (by decide +kernel) (by decide) (by decide) (aa 2)))) (iJ (aH (kB hr.units) (dc jc rfl T.len (by decide +kernel) (ab (aa 2) ae)) (aa 1) (aC _))))) (aj (ax iz)) aW) (ah (dF PassesOwn.never rfl (cZ (aa 2)) (cn 3 sc__law_settled.nd) (aj (bt (WV.tv (lE (fU (dE (ao C__law_is_word (hr.mono (by decide)) rfl (ab (aa 3) (ab (aa 1) ae))))) (iJ (aH (dP hr.units) (ai cf (ai eH (aq aA (aa 3) ad (fun _ _=>rfl)) (ao C__law_odd (hr.mono (by decide)) rfl (ab (ai de (aq aA (aa 3) ad (fun _ _=>rfl)) (aq aA (aa 3) ad (fun _ _=>rfl))) ae))) ad) ad (aC _))))) (aj (ax iz)) aW))) (ah (vV 4 sc__law_settled.nd (vars:=["word"]) (caps:=[(1,"wires")]) (by change BlkOk (af bW).names dj _ _ _;exact⟨rfl,by decide +kernel,by decide +kernel,by decide +kernel,by decide +kernel⟩) rfl (cZ (aa 2)) dS (fun _ _ _ _=>b7 (i:=0) (show(["word","wires"]:List Str).Nodup by decide +kernel) rfl (Or.inl rfl) (.inr rfl)) (fun _ _ _ _=>(ao C__law_weight (hr.mono (by decide)) rfl (ab (aa 0) (ab (aa 1) ae))))) (ah (dF PassesOwn.never rfl (b8 rfl T.range (ab (aa 1) ae)) (cn 5 sc__law_settled.nd) (ah (bt (WV.tv (lE (aH (dP hr.units) (aq aA (aa 4) (aa 5) (fun _ _=>rfl)) ad (aC _)) (iJ (WV.tv (sR (aH DD (aa 5) ad (aC _)) (qj (aH DF (aq aA (aa 4) (aa 5) (fun _ _=>rfl)) (aq aA (aa 4) (ai iA (aa 5) ad) (fun _ _=>rfl)) (aC _)))))))) (aj (ax iz)) aW) (aj (dF PassesOwn.never rfl (b8 rfl T.range (ab (aa 1) ae)) (cn 6 sc__law_settled.nd) (aj (bt (WV.tv (sR (aH (kB hr.units) (aa 5) (aa 6) (aC _)) (qj (aH (dP hr.units) (ai de (ai lT (aq aA (aa 4) (aa 6) (fun _ _=>rfl)) (ao C__law_top (hr.mono (by decide)) rfl (ab (aq aA (aa 4) (aa 5) (fun _ _=>rfl)) ae))) ad) ad (aC _))))) (aj (ax iz)) aW)))))) (ah (dF PassesOwn.never rfl (cZ (aa 0)) (cn 7 sc__law_settled.nd) (aj (bt (fU (dE (ao C__law_comes_to_nothing (hr.mono (by decide)) rfl (ab (aq aA (aa 7) ad (fun _ _=>rfl)) (ab (aa 2) (ab (aa 1) ae)))))) (aj (ax iz)) aW))) (aj (ax iz))))))))
theorem sc_law:FnScope ye ["script"] (af ie):=⟨rfl,rfl,rfl,by decide +kernel,rfl,by decide +kernel,by decide +kernel⟩
theorem zj{f:Addr}{fd:FuncData}{dV:Value}(F:FunV K "law" "law" ie f fd dV)(T:Txt mg)(C_table_of:Cal P w K mg base "table_of" 2 bL [])(C__law_settled:Cal P w K mg base "_law_settled" 5 aZ [])(C__law_cell_at:Cal P w K mg base "_law_cell_at" 1 aQ [])(C_table_done:Cal P w K mg base "table_done" 4 bC [])(C_look_told:Cal P w K mg base "look_told" 5 aJ [])(C_table_looked:Cal P w K mg base "table_looked" 6 aM [])(C__law_row:Cal P w K mg base "_law_row" 1 ba []):FnOk P w K mg base cJ 7 f fd ["script"] (dG K oM):=
 ca (k:=6) (b:=vh) F sc_law fun cdv A outer s H E hr=>(ah (ay 1 sc_law.nd (ai eH ad (ai cf (ao C__law_cell_at (hr.mono (by decide)) rfl (ab (aa 0) (ab ad ae))) ad))) (ah (ay 2 sc_law.nd (ao C_table_of (hr.mono (by decide)) rfl (ab (aa 1) (ab (ai cf (ao C__law_cell_at (hr.mono (by decide)) rfl (ab (aa 0) (ab ad ae))) (ai lU ad (aa 1))) ae)))) (ah (dF PassesOwn.never rfl (cZ (uR (aa 0) (qD ad) (qD ad))) (cn 3 sc_law.nd) (aj (bt (aH sB (ai cf (aa 3) ad) ad (aC _)) (aj (ay 2 sc_law.nd (ao C_table_done (hr.mono (by decide)) rfl (ab (aa 2) (ab (ao C__law_row (hr.mono (by decide)) rfl (ab (ai kC (aa 3) ad) (ab (aa 1) ae))) ae))))) (ah (ay 4 sc_law.nd (ai cf (ai kC (aa 3) ad) (aa 1))) (ah (ay 5 sc_law.nd (ao C_look_told (hr.mono (by decide)) rfl (ab (aa 2) (ab (aa 4) ae)))) (ah (bt (aH BS (aa 5) pV (aC _)) (aj (ay 5 sc_law.nd (ai cf (ai kC (aa 3) ad) ad))) aW) (ah (ay 2 sc_law.nd (ao C_table_looked (hr.mono (by decide)) rfl (ab (aa 2) (ab (aa 4) (ab (aa 5) ae))))) (aj (bt (fU (dE (ao C__law_settled (hr.mono (by decide)) rfl (ab (aa 2) (ab (aa 1) ae))))) (aj (ax iz)) aW))))))))) (aj (ax (ao C__law_settled (hr.mono (by decide)) rfl (ab (aa 2) (ab (aa 1) ae))))))))
end
theorem vf:aD "worth" jH ["wires","wire"]:=fun _ _ _ _ _ _ us hl=>by obtain⟨_,_,rfl⟩:=fF hl;exact rfl
theorem qc:aD "bits_of" eZ ["wires","place"]:=fun _ _ _ _ _ _ us hl=>by obtain⟨_,_,rfl⟩:=fF hl;exact rfl
theorem ng:aD "exchanged" eE ["place","both"]:=fun _ _ _ _ _ _ us hl=>by obtain⟨_,_,rfl⟩:=fF hl;exact rfl
theorem o8:aD "value_of" fm ["bitset","bits"]:=fun _ _ _ _ _ _ us hl=>by obtain⟨_,_,rfl⟩:=fF hl;exact rfl
theorem Ab:aD "has" qw ["bitset","bit"]:=fun _ _ _ _ _ _ us hl=>by obtain⟨_,_,rfl⟩:=fF hl;exact rfl
theorem gQ:aD "word_times" dM ["one","other"]:=fun _ _ _ _ _ _ us hl=>by obtain⟨_,_,rfl⟩:=fF hl;exact rfl
theorem vg:aD "agree" jI ["one","other"]:=fun _ _ _ _ _ _ us hl=>by obtain⟨_,_,rfl⟩:=fF hl;exact rfl
theorem i3:aD "swing_carried" cg ["word","bit"]:=fun _ _ _ _ _ _ us hl=>by obtain⟨_,_,rfl⟩:=fF hl;exact rfl
theorem jx:aD "turn_carried" cN ["word","bit","e"]:=fun _ _ _ _ _ _ us hl=>by obtain⟨_,_,_,rfl⟩:=lm hl;exact rfl
theorem kG:aD "tie_carried" dq ["word","first","second"]:=fun _ _ _ _ _ _ us hl=>by obtain⟨_,_,_,rfl⟩:=lm hl;exact rfl
theorem jz:aD "sign_carried" cR ["word","first","second"]:=fun _ _ _ _ _ _ us hl=>by obtain⟨_,_,_,rfl⟩:=lm hl;exact rfl
theorem qb:aD "carried" gD ["wires","word","row"]:=fun _ _ _ _ _ _ us hl=>by obtain⟨_,_,_,rfl⟩:=lm hl;exact rfl
theorem lC:aD "refuse_odd" cS ["rows"]:=fun _ _ _ _ _ _ us hl=>by obtain⟨_,rfl⟩:=pP hl;exact rfl
theorem lB:aD "table_done" cQ ["table","row"]:=fun _ _ _ _ _ _ us hl=>by obtain⟨_,_,rfl⟩:=fF hl;exact rfl
theorem m9:aD "look_word" eA ["table","wire","mark"]:=fun _ _ _ _ _ _ us hl=>by obtain⟨_,_,_,rfl⟩:=lm hl;exact rfl
theorem jA:aD "against_look" bV ["table","word"]:=fun _ _ _ _ _ _ us hl=>by obtain⟨_,_,rfl⟩:=fF hl;exact rfl
theorem kH:aD "keepers_for" ce ["table","word"]:=fun _ _ _ _ _ _ us hl=>by obtain⟨_,_,rfl⟩:=fF hl;exact rfl
theorem nc:aD "look_told" eB ["table","wire"]:=fun _ _ _ _ _ _ us hl=>by obtain⟨_,_,rfl⟩:=fF hl;exact rfl
theorem pb:aD "agreeing" fw ["word","look","keeper"]:=fun _ _ _ _ _ _ us hl=>by obtain⟨_,_,_,rfl⟩:=lm hl;exact rfl
theorem sI:aD "opened" fX ["table","wire","look"]:=fun _ _ _ _ _ _ us hl=>by obtain⟨_,_,_,rfl⟩:=lm hl;exact rfl
theorem jy:aD "table_looked" cO ["table","wire","mark"]:=fun _ _ _ _ _ _ us hl=>by obtain⟨_,_,_,rfl⟩:=lm hl;exact rfl
theorem o9:aD "greatest" fq ["bitset"]:=fun _ _ _ _ _ _ us hl=>by obtain⟨_,rfl⟩:=pP hl;exact rfl
theorem qa:aD "cleared" eY ["things","bits_in","product"]:=fun _ _ _ _ _ _ us hl=>by obtain⟨_,_,_,rfl⟩:=lm hl;exact rfl
theorem p7:aD "settled" eX ["table"]:=fun _ _ _ _ _ _ us hl=>by obtain⟨_,rfl⟩:=pP hl;exact rfl
theorem jD:aD "_law_cell_at" cV ["script","k"]:=fun _ _ _ _ _ _ us hl=>by obtain⟨_,_,rfl⟩:=fF hl;exact rfl
theorem lD:aD "_law_whole" dN ["found"]:=fun _ _ _ _ _ _ us hl=>by obtain⟨_,rfl⟩:=pP hl;exact rfl
theorem pe:aD "_law_odd" fD ["place"]:=fun _ _ _ _ _ _ us hl=>by obtain⟨_,rfl⟩:=pP hl;exact rfl
theorem jC:aD "_law_is_word" cU ["found","wires"]:=fun _ _ _ _ _ _ us hl=>by obtain⟨_,_,rfl⟩:=fF hl;exact rfl
theorem pd:aD "_law_row" fB ["cell","wires"]:=fun _ _ _ _ _ _ us hl=>by obtain⟨_,_,rfl⟩:=fF hl;exact rfl
theorem kI:aD "_law_weight" dt ["word","wires"]:=fun _ _ _ _ _ _ us hl=>by obtain⟨_,_,rfl⟩:=fF hl;exact rfl
theorem pc:aD "_law_top" fA ["weight"]:=fun _ _ _ _ _ _ us hl=>by obtain⟨_,rfl⟩:=pP hl;exact rfl
theorem eQ:aD "_law_comes_to_nothing" bj ["keeper","found","wires"]:=fun _ _ _ _ _ _ us hl=>by obtain⟨_,_,_,rfl⟩:=lm hl;exact rfl
theorem jB:aD "_law_settled" bW ["table","wires"]:=fun _ _ _ _ _ _ us hl=>by obtain⟨_,_,rfl⟩:=fF hl;exact rfl
theorem Ad{l:PySem.W.OpenLaw}{w:World}{K:PySem.W.Frag}{h:Heap}{mg:Str->Option Value}{fa f12 f34 t12:Addr}{od12 an12 od34 an34 td12:Option Addr}{sl12 sl34 ts12:Array (Option Value)}{oc12 kV12 dc12 pm12 cd12 ct12 oc34 kV34 dc34 pm34 cd34 ct34 tc12:Value}{tn12:Nat}{tk12_0:Tok}(X:K.In h)(G:h.Ns mainGlobals mg)(hfa:mg "law" = some (.ref fa))
  (D0:DefIn K "worth" "worth" jH)
  (D1:DefIn K "bits_of" "bits_of" eZ)
  (D2:DefIn K "exchanged" "exchanged" eE)
  (D3:DefIn K "value_of" "value_of" fm)
  (D4:DefIn K "has" "has" qw)
  (D5:DefIn K "word_times" "word_times" dM)
  (D6:DefIn K "agree" "agree" jI)
  (D7:DefIn K "swing_carried" "swing_carried" cg)
  (D8:DefIn K "turn_carried" "turn_carried" cN)
  (D9:DefIn K "tie_carried" "tie_carried" dq)
  (D10:DefIn K "sign_carried" "sign_carried" cR)
  (D11:DefIn K "carried" "carried" gD)
  (a12:PySem.W.nsIn K mainGlobals "table_of" = some (some (.ref f12))) (l12:K.lookup f12=some ⟨oc12,od12,.func (PySem.W.fnOf "table_of" "table_of" (cq bU) (bD bU) (af bU) (.ref t12) kV12 dc12 pm12 an12 cd12 ct12),sl12⟩) (c12:PySem.W.codeIn K cd12 "table_of" = true) (k12:PySem.W.keepIn K (.ref f12)=true)
  (d12:K.lookup t12=some ⟨tc12,td12,.seq #[.int 0 tk12_0] tn12,ts12⟩)
  (D13:DefIn K "refuse_odd" "refuse_odd" cS)
  (D14:DefIn K "table_done" "table_done" cQ)
  (D15:DefIn K "look_word" "look_word" eA)
  (D16:DefIn K "against_look" "against_look" bV)
  (D17:DefIn K "keepers_for" "keepers_for" ce)
  (D18:DefIn K "look_told" "look_told" eB)
  (D19:DefIn K "agreeing" "agreeing" fw)
  (D20:DefIn K "opened" "opened" fX)
  (D21:DefIn K "table_looked" "table_looked" cO)
  (D22:DefIn K "greatest" "greatest" fq)
  (D23:DefIn K "cleared" "cleared" eY)
  (D24:DefIn K "settled" "settled" eX)
  (D25:DefIn K "_law_cell_at" "_law_cell_at" cV)
  (D26:DefIn K "_law_whole" "_law_whole" dN)
  (D27:DefIn K "_law_odd" "_law_odd" fD)
  (D28:DefIn K "_law_is_word" "_law_is_word" cU)
  (D29:DefIn K "_law_row" "_law_row" fB)
  (D30:DefIn K "_law_weight" "_law_weight" dt)
  (D31:DefIn K "_law_top" "_law_top" fA)
  (D32:DefIn K "_law_comes_to_nothing" "_law_comes_to_nothing" bj)
  (D33:DefIn K "_law_settled" "_law_settled" bW)
  (a34:PySem.W.nsIn K mainGlobals "law" = some (some (.ref f34))) (l34:K.lookup f34=some ⟨oc34,od34,.func (PySem.W.fnOf "law" "law" (cq ie) (bD ie) (af ie) .none kV34 dc34 pm34 an34 cd34 ct34),sl34⟩) (c34:PySem.W.codeIn K cd34 "law" = true) (k34:PySem.W.keepIn K (.ref f34)=true)
  (z_tuple:PySem.W.nsIn K mainGlobals "tuple" = some none)
  (z_range:PySem.W.nsIn K mainGlobals "range" = some none)
  (z_any:PySem.W.nsIn K mainGlobals "any" = some none)
  (z_len:PySem.W.nsIn K mainGlobals "len" = some none)
  (z_sorted:PySem.W.nsIn K mainGlobals "sorted" = some none)
  (z_isinstance:PySem.W.nsIn K mainGlobals "isinstance" = some none)
  (z_int:PySem.W.nsIn K mainGlobals "int" = some none)
  (z_bool:PySem.W.nsIn K mainGlobals "bool" = some none)
  (zG_shl:PySem.W.nsIn K mainGlobals "<lambda> shl" = some none)
  (hs_settled:(PySem.W.tabIn K "settled").isSome=true)
   :∃fd:FuncData,(∀(s:Shared) (v:Value),BindsTo s fd ⟨[v],[]⟩ [("script",v)])/\∀base:Heap,K.In base->base.Ns mainGlobals mg->FnOk l.prog w K mg base cJ 7 fa fd ["script"] (nM K):=by
 have e:=hfa.symm.trans (PySem.W.mg_of X G a34);cases e;have T:Txt mg:=⟨PySem.W.mg_none_of X G z_tuple,PySem.W.mg_none_of X G z_range,PySem.W.mg_none_of X G z_any,PySem.W.mg_none_of X G z_len,PySem.W.mg_none_of X G z_sorted,PySem.W.mg_none_of X G z_isinstance,PySem.W.mg_none_of X G z_int,PySem.W.mg_none_of X G z_bool⟩;have F12:=mV (st:=bU) l12 c12 k12;have F34:=mV (st:=ie) l34 c34 k34;have N_word_times:Fnm K mg "word_times":=D5.fnm X G;refine⟨PySem.W.fnOf "law" "law" (cq ie) (bD ie) (af ie) .none kV34 dc34 pm34 an34 cd34 ct34,fun s v=>.of_eq rfl,fun base _ _=>?_⟩
 have G_shl:PySem.W.nsIn K mainGlobals "<lambda> shl" = some none:=zG_shl;obtain⟨⟨cT_settled,tT_settled⟩,hT_settled⟩:=Option.isSome_iff_exists.mp hs_settled;have C_worth:Cal l.prog w K mg base "worth" 1 bK []:=D0.cal X G vf fun _ _ F=>uh F T
 have C_bits_of:Cal l.prog w K mg base "bits_of" 1 cG []:=D1.cal X G qc fun _ _ F=>pM F T
 have C_exchanged:Cal l.prog w K mg base "exchanged" 1 bh []:=D2.cal X G ng fun _ _ F=>mQ F T
 have C_value_of:Cal l.prog w K mg base "value_of" 1 aY []:=D3.cal X G o8 fun _ _ F=>n0 F T
 have C_has:Cal l.prog w K mg base "has" 1 iy []:=D4.cal X G Ab fun _ _ F=>zk F T
 have V_word_times:CalF l.prog w K mg base "word_times" 2 aw:=D5.calF X G gQ fun _ _ F=>gO F T C_value_of
 have C_word_times:Cal l.prog w K mg base "word_times" 2 aw []:=D5.cal X G gQ fun _ _ F=>gO F T C_value_of
 have C_agree:Cal l.prog w K mg base "agree" 3 b9 []:=D6.cal X G vg fun _ _ F=>ui F T C_word_times
 have C_swing_carried:Cal l.prog w K mg base "swing_carried" 2 bo []:=D7.cal X G i3 fun _ _ F=>iQ F T C_value_of
 have C_turn_carried:Cal l.prog w K mg base "turn_carried" 1 aP []:=D8.cal X G jx fun _ _ F=>jn F T
 have C_tie_carried:Cal l.prog w K mg base "tie_carried" 1 aX []:=D9.cal X G kG fun _ _ F=>j6 F T
 have C_sign_carried:Cal l.prog w K mg base "sign_carried" 1 bu []:=D10.cal X G jz fun _ _ F=>jp F T
 have C_carried:Cal l.prog w K mg base "carried" 3 aO []:=D11.cal X G qb fun _ _ F=>pL F T C_worth C_swing_carried C_turn_carried C_tie_carried C_sign_carried C_exchanged C_value_of
 have O12:FnOk l.prog w K mg base cJ 2 _ _ _ (dG K bL):=n4 F12 T C_bits_of C_worth;have C_table_of:Cal l.prog w K mg base "table_of" 2 bL []:=⟨⟨_,_,_,[],[],O12,PySem.W.mg_of X G a12,k12,F12.bindsK d12 rfl (ps:=["wires","place"]) 2 rfl (fun _ _ _ _ _ _ us hl=>by obtain⟨_,_,rfl⟩:=fF hl;exact rfl),.nil,fun _=>.nil⟩⟩
 have C_refuse_odd:Cal l.prog w K mg base "refuse_odd" 1 bM []:=D13.cal X G lC fun _ _ F=>lh F T
 have C_table_done:Cal l.prog w K mg base "table_done" 4 bC []:=D14.cal X G lB fun _ _ F=>ld F T C_refuse_odd C_carried
 have C_look_word:Cal l.prog w K mg base "look_word" 2 aU []:=D15.cal X G m9 fun _ _ F=>mO F T C_worth
 have C_against_look:Cal l.prog w K mg base "against_look" 4 aI []:=D16.cal X G jA fun _ _ F=>jq F T C_agree
 have C_keepers_for:Cal l.prog w K mg base "keepers_for" 4 bq []:=D17.cal X G kH fun _ _ F=>j7 F T C_agree
 have C_look_told:Cal l.prog w K mg base "look_told" 5 aJ []:=D18.cal X G nc fun _ _ F=>mP F T C_look_word C_keepers_for C_against_look C_word_times
 have C_agreeing:Cal l.prog w K mg base "agreeing" 4 bZ []:=D19.cal X G pb fun _ _ F=>n9 F T C_agree C_word_times
 have C_opened:Cal l.prog w K mg base "opened" 5 dA []:=D20.cal X G sI fun _ _ F=>rX F T C_agreeing
 have C_table_looked:Cal l.prog w K mg base "table_looked" 6 aM []:=D21.cal X G jy fun _ _ F=>jo F T C_look_told C_look_word C_opened C_against_look
 have C_greatest:Cal l.prog w K mg base "greatest" 1 bY []:=D22.cal X G o9 fun _ _ F=>n6 F T
 have C_cleared:Cal l.prog w K mg base "cleared" 3 dR []:=D23.cal X G qa fun _ _ F=>pK F T C_has C_greatest G_shl V_word_times
 have C_settled:Cal l.prog w K mg base "settled" 4 dQ []:=D24.calL X G p7 fun _ _ a F=>pJ F T a hT_settled C_cleared N_word_times G_shl
 have C__law_cell_at:Cal l.prog w K mg base "_law_cell_at" 1 aQ []:=D25.cal X G jD fun _ _ F=>jt F T
 have C__law_whole:Cal l.prog w K mg base "_law_whole" 1 db []:=D26.cal X G lD fun _ _ F=>li F T
 have C__law_odd:Cal l.prog w K mg base "_law_odd" 1 bw []:=D27.cal X G pe fun _ _ F=>oh F T
 have C__law_is_word:Cal l.prog w K mg base "_law_is_word" 2 bi []:=D28.cal X G jC fun _ _ F=>js F T C__law_whole
 have C__law_row:Cal l.prog w K mg base "_law_row" 1 ba []:=D29.cal X G pd fun _ _ F=>og F T
 have C__law_weight:Cal l.prog w K mg base "_law_weight" 1 aB []:=D30.cal X G kI fun _ _ F=>j8 F T
 have C__law_top:Cal l.prog w K mg base "_law_top" 1 bp []:=D31.cal X G pc fun _ _ F=>oa F T
 have C__law_comes_to_nothing:Cal l.prog w K mg base "_law_comes_to_nothing" 2 aL []:=D32.cal X G eQ fun _ _ F=>eM F T C__law_weight C__law_top C__law_odd
 have C__law_settled:Cal l.prog w K mg base "_law_settled" 5 aZ []:=D33.cal X G jB fun _ _ F=>jr F T C_settled C__law_weight C__law_comes_to_nothing C__law_is_word C__law_odd C__law_top
 have O34:FnOk l.prog w K mg base cJ 7 _ _ _ (dG K oM):=zj F34 T C_table_of C__law_settled C__law_cell_at C_table_done C_look_told C_table_looked C__law_row;exact Bt O34 fun ns hl=>law_true ns hl
end GN
open PySem PySem.W PyProof.Rows
set_option maxRecDepth 1000000 in
set_option maxHeartbeats 0 in
theorem PySem.Challenge.cw_wavewires_k50_settled_keepers_holds : PySem.Challenge.rw_wavewires_k50_settled_keepers.Holds := by
  refine topT ?_
  k_fill
  refine VL.yh (k := 7) (l := PySem.Challenge.rw_wavewires_k50_settled_keepers) rfl ⟨rfl, by decide, by decide⟩ rfl (fun w h Y => PySem.W.km_in_of Y) ?F (fun w => by kernel_rfl) (fun w => by kernel_rfl)
  case F =>
    intro w mg fa h KX G hmg
    refine' GN.Ad KX G hmg (VL.DefIn.mk ?a0 ?l0 ?c0 ?k0) (VL.DefIn.mk ?a1 ?l1 ?c1 ?k1) (VL.DefIn.mk ?a2 ?l2 ?c2 ?k2) (VL.DefIn.mk ?a3 ?l3 ?c3 ?k3) (VL.DefIn.mk ?a4 ?l4 ?c4 ?k4) (VL.DefIn.mk ?a5 ?l5 ?c5 ?k5) (VL.DefIn.mk ?a6 ?l6 ?c6 ?k6) (VL.DefIn.mk ?a7 ?l7 ?c7 ?k7) (VL.DefIn.mk ?a8 ?l8 ?c8 ?k8) (VL.DefIn.mk ?a9 ?l9 ?c9 ?k9) (VL.DefIn.mk ?a10 ?l10 ?c10 ?k10) (VL.DefIn.mk ?a11 ?l11 ?c11 ?k11) ?a12 ?l12 ?c12 ?k12 ?d12 (VL.DefIn.mk ?a13 ?l13 ?c13 ?k13) (VL.DefIn.mk ?a14 ?l14 ?c14 ?k14) (VL.DefIn.mk ?a15 ?l15 ?c15 ?k15) (VL.DefIn.mk ?a16 ?l16 ?c16 ?k16) (VL.DefIn.mk ?a17 ?l17 ?c17 ?k17) (VL.DefIn.mk ?a18 ?l18 ?c18 ?k18) (VL.DefIn.mk ?a19 ?l19 ?c19 ?k19) (VL.DefIn.mk ?a20 ?l20 ?c20 ?k20) (VL.DefIn.mk ?a21 ?l21 ?c21 ?k21) (VL.DefIn.mk ?a22 ?l22 ?c22 ?k22) (VL.DefIn.mk ?a23 ?l23 ?c23 ?k23) (VL.DefIn.mk ?a24 ?l24 ?c24 ?k24) (VL.DefIn.mk ?a25 ?l25 ?c25 ?k25) (VL.DefIn.mk ?a26 ?l26 ?c26 ?k26) (VL.DefIn.mk ?a27 ?l27 ?c27 ?k27) (VL.DefIn.mk ?a28 ?l28 ?c28 ?k28) (VL.DefIn.mk ?a29 ?l29 ?c29 ?k29) (VL.DefIn.mk ?a30 ?l30 ?c30 ?k30) (VL.DefIn.mk ?a31 ?l31 ?c31 ?k31) (VL.DefIn.mk ?a32 ?l32 ?c32 ?k32) (VL.DefIn.mk ?a33 ?l33 ?c33 ?k33) ?a34 ?l34 ?c34 ?k34 ?z_tuple ?z_range ?z_any ?z_len ?z_sorted ?z_isinstance ?z_int ?z_bool ?zG_shl ?hs_settled
    (case a0 => k_is)
    (case l0 => k_is)
    (case c0 => k_is)
    (case k0 => k_is)
    (case a1 => k_is)
    (case l1 => k_is)
    (case c1 => k_is)
    (case k1 => k_is)
    (case a2 => k_is)
    (case l2 => k_is)
    (case c2 => k_is)
    (case k2 => k_is)
    (case a3 => k_is)
    (case l3 => k_is)
    (case c3 => k_is)
    (case k3 => k_is)
    (case a4 => k_is)
    (case l4 => k_is)
    (case c4 => k_is)
    (case k4 => k_is)
    (case a5 => k_is)
    (case l5 => k_is)
    (case c5 => k_is)
    (case k5 => k_is)
    (case a6 => k_is)
    (case l6 => k_is)
    (case c6 => k_is)
    (case k6 => k_is)
    (case a7 => k_is)
    (case l7 => k_is)
    (case c7 => k_is)
    (case k7 => k_is)
    (case a8 => k_is)
    (case l8 => k_is)
    (case c8 => k_is)
    (case k8 => k_is)
    (case a9 => k_is)
    (case l9 => k_is)
    (case c9 => k_is)
    (case k9 => k_is)
    (case a10 => k_is)
    (case l10 => k_is)
    (case c10 => k_is)
    (case k10 => k_is)
    (case a11 => k_is)
    (case l11 => k_is)
    (case c11 => k_is)
    (case k11 => k_is)
    (case a12 => k_is)
    (case l12 => k_is)
    (case c12 => k_is)
    (case k12 => k_is)
    (case d12 => k_is)
    (case a13 => k_is)
    (case l13 => k_is)
    (case c13 => k_is)
    (case k13 => k_is)
    (case a14 => k_is)
    (case l14 => k_is)
    (case c14 => k_is)
    (case k14 => k_is)
    (case a15 => k_is)
    (case l15 => k_is)
    (case c15 => k_is)
    (case k15 => k_is)
    (case a16 => k_is)
    (case l16 => k_is)
    (case c16 => k_is)
    (case k16 => k_is)
    (case a17 => k_is)
    (case l17 => k_is)
    (case c17 => k_is)
    (case k17 => k_is)
    (case a18 => k_is)
    (case l18 => k_is)
    (case c18 => k_is)
    (case k18 => k_is)
    (case a19 => k_is)
    (case l19 => k_is)
    (case c19 => k_is)
    (case k19 => k_is)
    (case a20 => k_is)
    (case l20 => k_is)
    (case c20 => k_is)
    (case k20 => k_is)
    (case a21 => k_is)
    (case l21 => k_is)
    (case c21 => k_is)
    (case k21 => k_is)
    (case a22 => k_is)
    (case l22 => k_is)
    (case c22 => k_is)
    (case k22 => k_is)
    (case a23 => k_is)
    (case l23 => k_is)
    (case c23 => k_is)
    (case k23 => k_is)
    (case a24 => k_is)
    (case l24 => k_is)
    (case c24 => k_is)
    (case k24 => k_is)
    (case a25 => k_is)
    (case l25 => k_is)
    (case c25 => k_is)
    (case k25 => k_is)
    (case a26 => k_is)
    (case l26 => k_is)
    (case c26 => k_is)
    (case k26 => k_is)
    (case a27 => k_is)
    (case l27 => k_is)
    (case c27 => k_is)
    (case k27 => k_is)
    (case a28 => k_is)
    (case l28 => k_is)
    (case c28 => k_is)
    (case k28 => k_is)
    (case a29 => k_is)
    (case l29 => k_is)
    (case c29 => k_is)
    (case k29 => k_is)
    (case a30 => k_is)
    (case l30 => k_is)
    (case c30 => k_is)
    (case k30 => k_is)
    (case a31 => k_is)
    (case l31 => k_is)
    (case c31 => k_is)
    (case k31 => k_is)
    (case a32 => k_is)
    (case l32 => k_is)
    (case c32 => k_is)
    (case k32 => k_is)
    (case a33 => k_is)
    (case l33 => k_is)
    (case c33 => k_is)
    (case k33 => k_is)
    (case a34 => k_is)
    (case l34 => k_is)
    (case c34 => k_is)
    (case k34 => k_is)
    (case z_tuple => k_is)
    (case z_range => k_is)
    (case z_any => k_is)
    (case z_len => k_is)
    (case z_sorted => k_is)
    (case z_isinstance => k_is)
    (case z_int => k_is)
    (case z_bool => k_is)
    (case zG_shl => k_is)
    (case hs_settled => kernel_rfl)

end