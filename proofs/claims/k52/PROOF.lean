import PyProof.Rows.All
import Wide.All
import OpenK.AllK
import Wide.FinOn
import Lean
import PyProof.EqAt
import PyProof.EqKinds
import PyProof.TupleCall
import KE.KLam
import PySem.Challenge.RW_wavewires_k52_whole_settled_alike
section TopS
set_option Elab.async false
set_option linter.all false
open PySem PySem.W PyProof.Rows
def viewQ : Program := view PySem.Challenge.rw_wavewires_k52_whole_settled_alike.prog [1, 2, 4, 5, 6, 7, 9, 10, 11, 12, 13, 14, 16, 17, 19, 20, 21, 22, 23, 24, 26, 28, 30, 31, 32, 33, 34, 35, 38, 39, 40, 41, 42, 44, 45, 46, 47, 48, 49, 50]
local macro_rules
  | `(tactic| o_head $H) => do
    let hw := Lean.mkIdent `hw
    let hc := Lean.mkIdent `hc
    `(tactic| refine holds_open (q := viewQ) (loose := ["number", "beginning", "table_of"]) (Xt := fun s => xlAt viewQ [] s && recOk (RowW.records (OpenRow.toRowW PySem.Challenge.rw_wavewires_k52_whole_settled_alike.row)) s) (XP := XL viewQ []) (Yf := Hook.obs $H) (Ya := Hook.val $H) (YP := Hook.says $H) (N := 6000) (fun w => by (unfold openEnds fencedOpening topFrom; rw [Fast.te10274390034422433532, Fast.te14082659384304107361, Fast.te1435165496053646825, Fast.te14289696077712309145, Fast.te14364793385576792824, Fast.te4187177175401517315, Fast.te5923862056798008813]; kernel_rfl)) (Hook.of $H) (Hook.keeps $H) (fun s e => xl_of s (Bool.and_eq_true_iff.mp e).1) XL.keeps (by rfl) (by rfl) (by rfl) (fun s e => recFacts_of (Bool.and_eq_true_iff.mp e).2) (by rfl) (by first | assumption | decide +kernel) (by decide +kernel) ⟨rfl, rfl, rfl, rfl, rfl, by decide +kernel⟩ ?$hw ?$hc)
set_option maxRecDepth 1000000 in
set_option maxHeartbeats 0 in
open_top topT for PySem.Challenge.rw_wavewires_k52_whole_settled_alike
end TopS
noncomputable section
set_option Elab.async false
set_option linter.all false
set_option maxRecDepth 100000
namespace L2
open PySem PySem.Spec PyProof.Rows
abbrev bf:=Sum Int Str
noncomputable def nC:bf->Value->Bool
 |.inl k,v=>Value.isInt k v
 |.inr x,v=>Value.isStrOf x v
noncomputable def Gm(w:World):bf->Int
 |.inl k=>hashInt k
 |.inr x=>hashStr w x
theorem bN:∀{k:bf} {v:Value},nC k v=true->(∃i t,k=Sum.inl i/\v=Value.int i t)\/(∃x t,k=Sum.inr x/\v=Value.str x t)
 |.inl i,v,h=>by
  obtain⟨t,e⟩:=Value.isInt_shape (k:=i) (v:=v) h;exact .inl ⟨i,t,rfl,e⟩
 |.inr x,v,h=>by
  obtain⟨t,e⟩:=Value.isStrOf_shape (x:=x) (v:=v) h;exact .inr ⟨x,t,rfl,e⟩
theorem uN(i:Int)(t:Tok):nC (.inl i) (.int i t)=true:=by simp[nC,Value.isInt]
theorem uM(x:Str)(t:Tok):nC (.inr x) (.str x t)=true:=by simp[nC,Value.isStrOf]
theorem Cr(a b:Int):decide ((Sum.inl a:bf)=Sum.inl b)=(a==b):=by
 by_cases e:a=b
 ·subst e;simp
 ·have h:¬(Sum.inl a:bf)=Sum.inl b:=fun q=>e (Sum.inl.inj q)
  rw[decide_eq_false h];exact(beq_eq_false_iff_ne.mpr e).symm
theorem Co(a b:Str):decide ((Sum.inr a:bf)=Sum.inr b)=decide (a=b):=by
 by_cases e:a=b
 ·subst e;simp
 ·have h:¬(Sum.inr a:bf)=Sum.inr b:=fun q=>e (Sum.inr.inj q)
  rw[decide_eq_false h,decide_eq_false e]
theorem Cq(a:Int)(b:Str):decide ((Sum.inl a:bf)=Sum.inr b)=false:=decide_eq_false (fun q=>nomatch q)
theorem Cp(a:Str)(b:Int):decide ((Sum.inr a:bf)=Sum.inl b)=false:=decide_eq_false (fun q=>nomatch q)
noncomputable def dQ(prog:Program)(w:World):PySem.KeyKind prog w bf where
 is:=nC
 hash:=Gm w
 inj:=fun v a b ha hb=>by
  rcases bN ha with⟨i,t,rfl,rfl⟩|⟨x,t,rfl,rfl⟩
  ·rcases bN hb with⟨j,u,rfl,e⟩|⟨y,u,rfl,e⟩
   ·injection e with e1 _;rw[e1]
   ·exact nomatch e
  ·rcases bN hb with⟨j,u,rfl,e⟩|⟨y,u,rfl,e⟩
   ·exact nomatch e
   ·injection e with e1 _;rw[e1]
 byValue:=fun k v h=>by
  rcases bN h with⟨i,t,rfl,rfl⟩|⟨x,t,rfl,rfl⟩<;>rfl
 pyHash:=fun hv h=>by
  rcases bN hv with⟨i,t,rfl,rfl⟩|⟨x,t,rfl,rfl⟩
  ·exact wpAny_pyHash_int h
  ·exact wpAny_pyHash_str h
 eqBool:=fun hu hv h=>by
  rcases bN hu with⟨i,t,rfl,rfl⟩|⟨x,t,rfl,rfl⟩
  ·rcases bN hv with⟨j,u,rfl,rfl⟩|⟨y,u,rfl,rfl⟩
   ·rw[Cr]at h;exact wpAny_eqBool_int h
   ·rw[Cq]at h;exact SeqAt.EqAt.int_str i t y u _ _ _ _ h
  ·rcases bN hv with⟨j,u,rfl,rfl⟩|⟨y,u,rfl,rfl⟩
   ·rw[Cp]at h;exact SeqAt.EqAt.str_int x t j u _ _ _ _ h
   ·rw[Co]at h;exact wpAny_eqBool_str h
 «strs»:=fun k x t v h=>by
  rcases bN h with⟨i,u,rfl,e⟩|⟨y,u,rfl,e⟩
  ·exact nomatch e
  ·injection e with e1 _
   subst e1;cases v<;>rfl
theorem qb(prog:Program)(w:World)(i:Int)(t:Tok):(dQ prog w).is (.inl i) (.int i t)=true:=uN i t
theorem qa(prog:Program)(w:World)(x:Str)(t:Tok):(dQ prog w).is (.inr x) (.str x t)=true:=uM x t
inductive V where
 |non|bl (b:Bool)|int (i:Int)|str (x:Str)|byt (b:Array UInt8)|flt (b:UInt64)|ref (a:Addr)|ty (n:String)
 deriving DecidableEq
def RelV:V->Value->Prop
 |.non,u=>u=Value.none
 |.bl b,u=>u=Value.bool b
 |.int i,u=>∃t,u=Value.int i t
 |.str x,u=>∃t,u=Value.str x t
 |.byt b,u=>∃t,u=Value.bytes b t
 |.flt b,u=>∃t,u=Value.float b t
 |.ref a,u=>u=Value.ref a
 |.ty n,u=>u=Value.type n
abbrev Vals:List V->List Value->Prop:=Paired RelV
theorem Vals.length{xs:List V}{us:List Value}(r:Vals xs us):xs.length=us.length:=Paired.length r
theorem Vals.get:∀{xs:List V} {us:List Value} {i:Nat} {x:V},Vals xs us->xs[i]? = some x->∃u,us[i]? = some u/\RelV x u
 |_,_,_,_,.nil,e=>by simp at e
 |_,_,0,_,.cons r _,e=>by simp at e;subst e;exact⟨_,rfl,r⟩
 |_,_,i+1,x,.cons _ t,e=>by
  obtain⟨u,h1,h2⟩:=Vals.get (i:=i) (x:=x) t (by simpa using e);exact⟨u,by simpa using h1,h2⟩
theorem Vals.append:∀{xs ys:List V} {us ws:List Value},Vals xs us->Vals ys ws->Vals (xs++ys) (us++ws)
 |_,_,_,_,.nil,s=>s
 |_,_,_,_,.cons r t,s=>.cons r (Vals.append t s)
theorem Vals.take:∀{xs:List V} {us:List Value} (n:Nat),Vals xs us->Vals (xs.take n) (us.take n)
 |_,_,0,_=>.nil
 |_,_,_+1,.nil=>.nil
 |_,_,n+1,.cons r t=>.cons r (Vals.take n t)
theorem Vals.drop:∀{xs:List V} {us:List Value} (n:Nat),Vals xs us->Vals (xs.drop n) (us.drop n)
 |_,_,0,r=>r
 |_,_,_+1,.nil=>.nil
 |_,_,n+1,.cons _ t=>Vals.drop n t
def RelO:Option V->Option Value->Prop
 |some v,some u=>RelV v u
 |none,none=>True
 |_,_=>False
def KV{κ:Type}:List (κ × V)->List (κ × Value)->Prop:=Paired fun(p:κ × V) (q:κ × Value)=>p.1=q.1/\RelV p.2 q.2
noncomputable def kV:bf->V
 |.inl i=>.int i
 |.inr x=>.str x
inductive HO where
 |lst (xs:List V)
 |tup (xs:List V)
 |dK (kvs:List (bf×V))|dT (kvs:List (List bf×V))
 |set (S:Int->Bool) (n:Nat)
 |ins (C dx:Addr) (fs:List (Str×V))
 |own (x:Addr)
 |xd (fs:List (Str×V))
 |met (f x:Addr)
 |rng (lo hi:Int)
 |frz (o:Obj) (u:HO)
 |tbl (ps:Array Value)
 |cod (c:Addr)
 |cdc (c cl:Addr) (oc:Obj)
 |ext (φ:Heap->Prop)
abbrev Hp:=Addr->Option HO
noncomputable def upd(H:Hp)(a:Addr)(o:HO):Hp:=fun b=>if b=a then some o else H b
theorem aJ{H:Hp}{a:Addr}{o:HO}:upd H a o a=some o:=by unfold upd;rw[if_pos rfl]
theorem aE{H:Hp}{a b:Addr}{o:HO}(h:b≠a):upd H a o b=H b:=by unfold upd;rw[if_neg h]
theorem aW{H:Hp}{a b:Addr}{o:HO}(h:H a=some o)(h':H b=none):a≠b:=by
 intro e;subst e;rw[h]at h';cases h'
section
variable(P:Program)(w:World)
def NoDi(h:Heap)(a:Addr):Prop:=∃o,h.get? a=some o/\o.dict=none
theorem NoDi.new(h:Heap)(o:Obj)(e:o.dict=none:=by rfl)(f:o.isFreed=false:=by rfl):NoDi (h.push o) h.objs.size:=⟨o,Heap.get?_push_size h f,e⟩
def ObjOk(H:Hp)(h:Heap)(a:Addr):HO->Prop
 |.lst xs=>xs.length<=sizeLine/\∃(its:List Value) (n:Nat),Vals xs its/\h.get? a=some { cls:=.type "list",data:=.seq its.toArray n }
 |.tup xs=>xs.length<=sizeLine/\∃its:List Value,Vals xs its/\IsTup h a its.toArray/\NoDi h a
 |.dK kvs=>kvs.length<=sizeLine/\(a==sysModules)=false/\∃vs,KV kvs vs/\h.DictOf (dQ P w) a vs
 |.dT kvs=>kvs.length<=sizeLine/\(a==sysModules)=false/\∃xs:List (List bf×Addr×Value),
   Paired (fun(p:List bf×V) (q:List bf×Addr×Value)=>p.1=q.1/\H q.2.1=some (.tup (p.1.map kV))/\RelV p.2 q.2.2) kvs xs /\
   ∃o es ep,h.get? a=some o/\o.ExactDict/\o.data=.dict es ep/\es.toList=xs.map (entryOfKey (tupleKind (dQ P w)))/\(xs.map (·.1)).Nodup
 |.set S n=>h.SetOf (intKind P w) a S n
 |.ins C dx fs=>H dx=some (.own a)/\fs.length<=1000/\dx≠a/\h.get? a=some (PySem.W.instObj C dx) /\
   ∃mA,h.Ns1 dx mA/\(∀f,RelO (fs.lookup f) (mA f))/\PySem.Within mA (fs.map (·.1))
 |.own _=>∃o,h.get? a=some o
 |.xd fs=>∃mA,h.Ns1 a mA/\∀f,RelO (fs.lookup f) (mA f)
 |.rng lo hi=>∃t u v,h.get? a=some { cls:=.type "range",data:=.fields #[.int lo t,.int hi u,.int 1 v] }
 |.frz o u=>h.get? a=some o/\ObjOk H h a u
 |.tbl _=>∃ps:Array Value,h.get? a=some { cls:=.none,data:=.fields ps }/\TriplesOk ps.toList/\∀pos cv,codeAmong pos ps.toList=some cv ->
   ∃(c:Addr) (oc:Obj) (u:HO) (vs:Array Value) (q:Str) (t:Tok),cv=.ref c/\H c=some (.frz oc u)/\oc.data=.fields vs/\vs[1]? = some (.str q t)
 |.cod c=>(∃o,h.get? a=some o)/\∃(oc:Obj) (u:HO) (vs:Array Value) (q:Str) (t:Tok),H c=some (.frz oc u)/\oc.data=.fields vs/\vs[1]? = some (.str q t)
 |.cdc c cl ob=>(∃o,h.get? a=some o)/\(∃(oc:Obj) (u:HO) (vs:Array Value) (q:Str) (t:Tok),H c=some (.frz oc u)/\oc.data=.fields vs/\vs[1]? = some (.str q t))/\H cl=some (.frz ob (.own 0))
 |.met f x=>h.get? a=some (PySem.W.methodObj (.ref f) (.ref x))
 |.ext φ=>φ h/\(∃o,h.get? a=some o)/\∀h1 h2:Heap,φ h1->(∀o,h1.get? a=some o->h2.get? a=some o) -> φ h2
def HOk(H:Hp)(h:Heap):Prop:=∀a o,H a=some o->ObjOk P w H h a o
end
section
variable{P:Program}{w:World}{H H':Hp}{h h':Heap}{a:Addr}{o:HO}
theorem ObjOk.lt(x:ObjOk P w H h a o):a<h.objs.size:=by
 cases o with
 |lst xs=>obtain⟨_,_,_,_,e⟩:=x;exact Heap.lt_size e
 |tup xs=>obtain⟨_,_,_,p⟩:=x;exact p.1.lt
 |dK kvs=>obtain⟨_,_,_,_,o,_,_,e,_⟩:=x;exact Heap.lt_size e
 |dT kvs=>obtain⟨_,_,_,_,o,_,_,e,_⟩:=x;exact Heap.lt_size e
 |set S n=>obtain⟨o,_,_,_,e,_⟩:=x;exact Heap.lt_size e
 |ins C dx fs=>obtain⟨_,_,_,e,_⟩:=x;exact Heap.lt_size e
 |own y=>obtain⟨_,e⟩:=x;exact Heap.lt_size e
 |xd fs=>obtain⟨_,⟨_,_,_,e,_⟩,_⟩:=x;exact Heap.lt_size e
 |rng lo hi=>obtain⟨_,_,_,e⟩:=x;exact Heap.lt_size e
 |frz ob u=>obtain⟨e,_⟩:=x;exact Heap.lt_size e
 |tbl ps=>obtain⟨_,e,_⟩:=x;exact Heap.lt_size e
 |cod c=>obtain⟨⟨_,e⟩,_⟩:=x;exact Heap.lt_size e
 |cdc c cl ob=>obtain⟨⟨_,e⟩,_⟩:=x;exact Heap.lt_size e
 |met f y=>exact Heap.lt_size (show h.get? a=some _ from x)
 |ext φ=>obtain⟨_,⟨_,e⟩,_⟩:=x;exact Heap.lt_size e
theorem Paired.mapP{α β:Type}{F G:α -> β -> Prop}:∀{l₁:List α} {l₂:List β},Paired F l₁ l₂ -> (∀a b,F a b->G a b)->Paired G l₁ l₂
 |_,_,.nil,_=>.nil
 |_,_,.cons r t,f=>.cons (f _ _ r) (Paired.mapP t f)
theorem ObjOk.stay(x:ObjOk P w H h a o)(k:∀b u,(b=a\/H b=some (.own a))->h.get? b=some u->h'.get? b=some u)
  (ho:∀b,H b=some (.own a)->H' b=some (.own a)) (ht:∀b xs,H b=some (.tup xs)->H' b=some (.tup xs)) (hf:∀b o u,H b=some (.frz o u)->H' b=some (.frz o u)):ObjOk P w H' h' a o:=by
 induction o with
 |lst xs=>obtain⟨z,its,n,r,e⟩:=x;exact⟨z,its,n,r,k _ _ (.inl rfl) e⟩
 |tup xs=>obtain⟨z,its,r,⟨ob,e,c⟩,od,e',c'⟩:=x;exact⟨z,its,r,⟨ob,k _ _ (.inl rfl) e,c⟩,od,k _ _ (.inl rfl) e',c'⟩
 |dK kvs=>obtain⟨z,y,vs,r,ob,es,ep,e,c⟩:=x;exact⟨z,y,vs,r,ob,es,ep,k _ _ (.inl rfl) e,c⟩
 |dT kvs=>
  obtain⟨z,y,xs,r,ob,es,ep,e,c⟩:=x;exact⟨z,y,xs,Paired.mapP r fun p q z=>⟨z.1,ht _ _ z.2.1,z.2.2⟩,ob,es,ep,k _ _ (.inl rfl) e,c⟩
 |set S n=>obtain⟨ob,es,ep,t,e,c⟩:=x;exact⟨ob,es,ep,t,k _ _ (.inl rfl) e,c⟩
 |ins C dx fs=>
  obtain⟨d,z,ne,e,mA,⟨od,es,ep,e2,c⟩,r⟩:=x;exact⟨ho _ d,z,ne,k _ _ (.inl rfl) e,mA,⟨od,es,ep,k _ _ (.inr d) e2,c⟩,r⟩
 |own y=>obtain⟨ob,e⟩:=x;exact⟨ob,k _ _ (.inl rfl) e⟩
 |xd fs=>obtain⟨mA,⟨od,es,ep,e,c⟩,r⟩:=x;exact⟨mA,⟨od,es,ep,k _ _ (.inl rfl) e,c⟩,r⟩
 |rng lo hi=>obtain⟨t,u,v,e⟩:=x;exact⟨t,u,v,k _ _ (.inl rfl) e⟩
 |frz ob u ih=>obtain⟨e,q⟩:=x;exact⟨k _ _ (.inl rfl) e,ih q⟩
 |tbl ps=>
  obtain⟨ps,e,t,g⟩:=x;exact⟨ps,k a _ (.inl rfl) e,t,fun pos cv q=>let ⟨c,oc,u,vs,q',t',e1,e2,r⟩:=g pos cv q; ⟨c,oc,u,vs,q',t',e1,hf _ _ _ e2,r⟩⟩
 |cod c=>
  obtain⟨⟨o,e⟩,oc,u,vs,q',t',e2,r⟩:=x;exact⟨⟨o,k a _ (.inl rfl) e⟩,oc,u,vs,q',t',hf _ _ _ e2,r⟩
 |cdc c cl ob=>
  obtain⟨⟨o,e⟩,⟨oc,u,vs,q',t',e2,r⟩,e3⟩:=x;exact⟨⟨o,k a _ (.inl rfl) e⟩,⟨oc,u,vs,q',t',hf _ _ _ e2,r⟩,hf _ _ _ e3⟩
 |met f y=>
  have e:h.get? a=some (PySem.W.methodObj (.ref f) (.ref y)):=x;show h'.get? a=some (PySem.W.methodObj (.ref f) (.ref y));exact k a _ (.inl rfl) e
 |ext φ=>obtain⟨p,⟨o,e⟩,st⟩:=x;exact⟨st _ _ p fun o q=>k _ _ (.inl rfl) q,⟨o,k _ _ (.inl rfl) e⟩,st⟩
theorem HOk.lt(x:HOk P w H h)(e:H a=some o):a<h.objs.size:=(x a o e).lt
theorem HOk.fresh(x:HOk P w H h)(e:h.objs.size<=a):H a=none:=by
 cases q:H a with
 |none=>rfl
 |some u=>exact absurd (Nat.lt_of_lt_of_le (x.lt q) e) (Nat.lt_irrefl _)
theorem HOk.kept(x:HOk P w H h)(k:∀b u,h.get? b=some u->h'.get? b=some u):HOk P w H h':=fun a o e=>
 (x a o e).stay (fun b u _ q=>k b u q) (fun _ q=>q) (fun _ _ q=>q) fun _ _ _ q=>q
theorem HOk.laid(x:HOk P w H h)(k:∀b u,h.get? b=some u->h'.get? b=some u)(hp:h.objs.size<=a)(new:ObjOk P w (upd H a o) h' a o):HOk P w (upd H a o) h':=fun b u e=>by
 have hn:=x.fresh hp;by_cases hb:b=a
 ·subst hb;rw[aJ]at e;cases e;exact new
 ·rw[aE hb]at e
  exact(x b u e).stay (fun c v _ q=>k c v q) (fun c q=>by rw[aE (aW q hn)];exact q) (fun c xs q=>by rw[aE (aW q hn)];exact q) fun c o xs q=>by rw[aE (aW q hn)];exact q
end
def Rd(H:Hp)(a:Addr)(u:HO):Prop:=H a=some u\/∃o,H a=some (.frz o u)
theorem Rd.ok{P:Program}{w:World}{H:Hp}{h:Heap}{a:Addr}{u:HO}(r:Rd H a u)(x:HOk P w H h):ObjOk P w H h a u:=by
 rcases r with r|⟨o,r⟩
 ·exact x a u r
 ·obtain⟨_,q⟩:=x a _ r
  exact q
def Fo:Option HO->Prop
 |some (.lst _)=>True
 |some (.dK _)=>True
 |some (.dT _)=>True
 |some (.set _ _)=>True
 |some (.ins _ _ _)=>True
 |some (.ext _)=>True
 |_=>False
section
variable{P:Program}{w:World}{H:Hp}{h h':Heap}{x e:Addr}{o':HO}
theorem HOk.write(ok:HOk P w H h)(mu:Fo (H x))(he:e=x\/H e=some (.own x))(k:∀b u,b≠e->h.get? b=some u->h'.get? b=some u)(heo:∃u,h'.get? e=some u)
  (new:ObjOk P w (upd H x o') h' x o'):HOk P w (upd H x o') h':=fun b u q=>by
 have nown:∀c y,H c=some (.own y)->c≠x:=fun c y r z=>by subst z;rw[r]at mu;exact mu
 have ntup:∀c xs,H c=some (.tup xs)->c≠x:=fun c xs r z=>by subst z;rw[r]at mu;exact mu
 have nfrz:∀c o xs,H c=some (.frz o xs)->c≠x:=fun c o xs r z=>by subst z;rw[r]at mu;exact mu
 by_cases hb:b=x
 ·subst hb;rw[aJ]at q;cases q;exact new
 ·rw[aE hb]at q
  by_cases hbe:b=e
  ·have q':H b=some (.own x):=by
    rcases he with z|z
    ·exact absurd (hbe.trans z) hb
    ·rw[hbe];exact z
   rw[q]at q';cases q';obtain⟨v,hv⟩:=heo;exact⟨v,by rw[hbe];exact hv⟩
  ·refine(ok b u q).stay (fun c v hc r=>k c v ?_ r) (fun c r=>by rw[aE (nown c b r)];exact r) (fun c xs r=>by rw[aE (ntup c xs r)];exact r) fun c o xs r=>by rw[aE (nfrz c o xs r)];exact r
   rcases hc with rfl|hc
   ·exact hbe
   ·rintro rfl
    rcases he with z|z
    ·exact nown c b hc z
    ·rw[hc]at z;cases z;exact hb rfl
end
structure Un (fs ex:List Addr) (H H':Hp) (h h':Heap):Prop where
 keep:∀b o,h.get? b=some o->H b=none->b ∉ fs->b ∉ ex->h'.get? b=some o
 slot:∀b o,h.get? b=some o->H b=none->b∈fs->b ∉ ex->∃sl,h'.get? b=some { o with slots:=sl }
 free:∀b o,h.get? b=some o->H b=none->b ∉ ex->H' b=none
 there:∀b o,h.get? b=some o->b ∉ ex->∃o',h'.get? b=some o'
 tups:∀b xs,H b=some (.tup xs)->H' b=some (.tup xs)
 frzs:∀b o u,H b=some (.frz o u)->H' b=some (.frz o u)
 tbls:∀b ps,H b=some (.tbl ps)->∃more,H' b=some (.tbl (ps++more))
section
variable{fs fs' ex ex':List Addr}{H H1 H2:Hp}{h h1 h2 h':Heap}{a x e:Addr}{o:HO}
theorem Un.any(u:Un fs ex H H1 h h1){b:Addr}{ob:Obj}(q:h.get? b=some ob)(n:H b=none)(hx:b ∉ ex):∃sl,h1.get? b=some { ob with slots:=sl }:=by
 by_cases hb:b∈fs
 ·exact u.slot b ob q n hb hx
 ·exact⟨ob.slots,u.keep b ob q n hb hx⟩
theorem Un.kept(k:∀b u,h.get? b=some u->h'.get? b=some u):Un fs ex H H h h':=
 ⟨fun b ob q _ _ _=>k b ob q,fun b ob q _ _ _=>⟨ob.slots,k b ob q⟩,fun _ _ _ n _=>n,fun b ob q _=>⟨ob,k b ob q⟩,fun _ _ q=>q,fun _ _ _ q=>q,fun _ ps q=>⟨#[],by rw[q];simp⟩⟩
theorem Un.refl:Un fs ex H H h h:=Un.kept fun _ _ q=>q
theorem Un.laid(k:∀b u,h.get? b=some u->h'.get? b=some u)(hp:h.objs.size<=a)(hn:H a=none):Un fs ex H (upd H a o) h h' where
 keep:=fun b u q _ _ _=>k b u q
 slot:=fun b u q _ _ _=>⟨u.slots,k b u q⟩
 free:=fun b u q n _=>by rw[aE (Nat.ne_of_lt (Nat.lt_of_lt_of_le (Heap.lt_size q) hp))];exact n
 there:=fun b u q _=>⟨u,k b u q⟩
 tups:=fun b xs q=>by rw[aE (aW q hn)];exact q
 frzs:=fun b u xs q=>by rw[aE (aW q hn)];exact q
 tbls:=fun b ps q=>⟨#[],by rw[aE (aW q hn),q];simp⟩
theorem Un.write(mu:Fo (H x))(he:e=x\/H e=some (.own x))(k:∀b u,b≠e->h.get? b=some u->h'.get? b=some u)(heo:∃u,h'.get? e=some u):Un fs ex H (upd H x o) h h':=by
 have hx:∀b,H b=none->b≠x:=fun b n z=>by subst z;rw[n]at mu;exact mu
 have hb:∀b,H b=none->b≠e:=fun b n z=>by
  subst z;rcases he with r|r
  ·exact hx b n r
  ·rw[n]at r;cases r
 have hm:∀b u,H b=some u->¬Fo (some u)->b≠x:=fun b u q nm z=>by subst z;rw[q]at mu;exact nm mu
 refine⟨fun b u q n _ _=>k b u (hb b n) q,fun b u q n _ _=>⟨u.slots,k b u (hb b n) q⟩,fun b u q n _=>by rw[aE (hx b n)];exact n,fun b u q _=>?_,
  fun b xs q=>by rw[aE (hm b _ q fun z=>z)];exact q,fun b u xs q=>by rw[aE (hm b _ q fun z=>z)];exact q,fun b ps q=>⟨#[],by rw[aE (hm b _ q fun z=>z),q];simp⟩⟩
 by_cases hbe:b=e
 ·subst hbe;exact heo
 ·exact⟨u,k b u hbe q⟩
end
noncomputable def E3(h:Heap)(H:Hp):List Addr:=(List.range h.objs.size).filter fun a=>(H a).isSome
noncomputable def lY(h:Heap)(H:Hp):Heap:=PySem.W.hideAll h (E3 h H)
theorem uT(h:Heap)(H:Hp):(lY h H).objs.size=h.objs.size:=PySem.W.hideAll_size _ _
theorem w9{h:Heap}{H:Hp}{b:Addr}{o:Obj}(e:h.get? b=some o)(n:H b=none):(lY h H).get? b=some o:=
 PySem.W.hideAll_get _ e fun hm=>by
  have q:(H b).isSome=true:=(List.mem_filter.mp hm).2;rw[n]at q;simp at q
theorem zf{h:Heap}{H:Hp}{b:Addr}{o:Obj}(e:(lY h H).get? b=some o):h.get? b=some o/\H b=none:=by
 have e':h.get? b=some o:=PySem.W.of_hideAll (E3 h H) e;refine⟨e',?_⟩;cases q:H b with
 |none=>rfl
 |some x=>
  have hm:b∈E3 h H:=List.mem_filter.mpr ⟨List.mem_range.mpr (Heap.lt_size e'),by simp[q]⟩;have z:(lY h H).get? b=none:=PySem.W.hideAll_none (E3 h H) hm;rw[z]at e;cases e
noncomputable def Aq(g h:Heap)(L:Addr):List (Addr×Obj):=(List.range h.objs.size).filterMap fun a=>if a=L\/(g.get? a).isSome=true then none else(h.get? a).map fun o=>(a,o)
noncomputable def rest(g h:Heap)(L d:Addr):List (Addr×Obj):=(Aq g h L).filter fun p=>decide (p.1≠d)
noncomputable def lamDefs:List Str:=["settled_sum","settled"]
theorem rg{K:PySem.W.Frag}{x:Str}{c P:Addr}(ht:PySem.W.tabIn K x=some (c,P)):∃o,K.lookup c=some o:=by
 unfold PySem.W.tabIn at ht;split at ht
 ·split at ht
  ·split at ht
   ·split at ht
    ·rename_i h
     split at ht
     ·cases ht;exact⟨_,h⟩
     ·cases ht
    ·cases ht
   ·cases ht
  ·cases ht
 ·cases ht
structure Mod (K:PySem.W.Frag) (mg:Str->Option Value) (base:Heap):Prop where
 kin:K.In base
 glob:base.Ns mainGlobals mg
 blt:∃mb,base.Ns builtinsNs mb/\∀x:Str,x ≠ "__name__" -> mb x=bootBuiltins x
 nolimit:base.NoLimit
 bmain:BMain base mg
 tabs:∀x∈lamDefs,∀c P,PySem.W.tabIn K x=some (c,P)->PySem.W.CodeHd base c P
def As(K:PySem.W.Frag)(H:Hp):Prop:=∀x∈lamDefs,∀c P,PySem.W.tabIn K x=some (c,P)->∃ps,H P=some (.tbl ps)
structure Cx where
 prog:Program
 w:World
 K:PySem.W.Frag
 mg:Str->Option Value
 base:Heap
 A:Around
 N:List Str
 s₀:Shared
 H₀:Hp
 env:Env
 outer:List Env
 stack:List Env
 ex:List Addr
 fn:Str->Bool
 cz:Str->Bool
 calm:Bool
 pn:List (Addr×Obj)
 xe:Value->Shared->Prop
noncomputable def vq(l:List Env):List Addr:=l.filterMap (·.frame)
abbrev Cx.fs(X:Cx):List Addr:=vq X.outer
def A3(sc:Scope)(x:Str):Prop:=sc.names.lookup x=some .local\/sc.names.lookup x=some .cell\/sc.names.lookup x=some .free
def At(sc:Scope)(x:Str):Prop:=sc.names.lookup x=some .local\/sc.names.lookup x=some .cell
def GU(env:Env)(h:Heap)(m:Str->Option Value)(x:Str)(u:Value):Prop:=
 (env.kindOf x=some .local/\m x=some u)\/((env.kindOf x=some .cell\/env.kindOf x=some .free)/\∃c,env.cells.lookup x=some c/\h.IsCell c (some u))
structure Cx.Ok (X:Cx):Prop where
 mod:Mod X.K X.mg X.base
 kind:X.env.scope.kind=.function
 glob:X.env.globals=mainGlobals
 blt:X.env.builtins=builtinsNs
 above:X.s₀.heap.objs.size<=X.env.locals
 inj:∀x y c,X.env.cells.lookup x=some c->X.env.cells.lookup y=some c->x=y
 has:∀x,(X.env.kindOf x=some .cell\/X.env.kindOf x=some .free)->∃c,X.env.cells.lookup x=some c
 cab:∀x c,(X.fn x=true\/X.cz x=true)->X.env.cells.lookup x=some c->X.s₀.heap.objs.size<=c
 hd:X.calm=true->X.A.handled=none
 frames:X.A.frames=some X.stack
 stk:X.stack=X.outer\/(X.stack=X.env::X.outer/\X.env.frame=some X.env.locals)
 exf:∀b∈X.ex,b≠X.env.locals/\∀x c,X.env.cells.lookup x=some c->c≠b
 bs:∀b o,X.base.get? b=some o->X.s₀.heap.get? b=some o/\X.H₀ b=none
 bsz:X.base.objs.size<=X.s₀.heap.objs.size
 noex:∀b o,X.base.get? b=some o->b ∉ X.ex
 exfs:∀b∈X.ex,b ∉ X.fs
 funs:X.s₀.heap.FunFrames X.base X.outer
 frf:∀b∈X.fs,X.H₀ b=none
 tb:As X.K X.H₀
structure Inv (X:Cx) (pins:List (Addr×Obj)) (σ:List (Option V)) (H:Hp) (s:Shared):Prop where
 ok:X.Ok
 os:s.os=X.s₀.os
 bare:AllBare s.gens
 base:Un X.fs X.ex X.H₀ H X.s₀.heap s.heap
 loc:∃m,s.heap.Ns X.env.locals m/\∀(i:Nat) (x:Str) (v:V),X.N[i]? = some x -> σ[i]? = some (some v)->A3 X.env.scope x->∃u,RelV v u/\GU X.env s.heap m x u
 cell:∀x c,X.env.cells.lookup x=some c->∃v,s.heap.IsCell c v
 free:H X.env.locals=none
 freeC:∀x c,X.env.cells.lookup x=some c->H c=none\/(X.fn x=false/\∃o,H c=some (.frz o (.own 0)))
 pin:∀p∈X.pn++pins,s.heap.get? p.1=some p.2/\H p.1=none/\p.1≠X.env.locals/\p.1 ∉ X.fs/\∀v,p.2.data≠.cell v
 hok:HOk X.prog X.w H s.heap
 len:σ.length=X.N.length
section
variable{X:Cx}{pins:List (Addr×Obj)}{σ:List (Option V)}{H H':Hp}{s:Shared}{h':Heap}
theorem Cx.Ok.nofr(ok:X.Ok){b:Addr}{o:Obj}(e:X.base.get? b=some o):b ∉ X.fs:=fun hb=>by
 have:=(ok.funs.mem hb).1;rw[e]at this;cases this
theorem Inv.bs(I:Inv X pins σ H s):∀b o,X.base.get? b=some o->s.heap.get? b=some o/\H b=none:=fun b o e=>
 ⟨I.base.keep b o (I.ok.bs b o e).1 (I.ok.bs b o e).2 (I.ok.nofr e) (I.ok.noex b o e),I.base.free b o (I.ok.bs b o e).1 (I.ok.bs b o e).2 (I.ok.noex b o e)⟩
theorem Inv.bk(I:Inv X pins σ H s):∀b o,X.base.get? b=some o->s.heap.get? b=some o:=fun b o e=>(I.bs b o e).1
theorem Inv.mod(I:Inv X pins σ H s):Mod X.K X.mg X.base:=I.ok.mod
theorem Inv.tb(I:Inv X pins σ H s):As X.K H:=fun x hx c P e=>by
 obtain⟨ps,h⟩:=I.ok.tb x hx c P e;obtain⟨m,h'⟩:=I.base.tbls P ps h;exact⟨_,h'⟩
theorem Inv.kIn(I:Inv X pins σ H s):X.K.In s.heap:=I.ok.mod.kin.keeps I.bk
theorem Inv.fr(I:Inv X pins σ H s):∃m,Fr X.base X.env.locals s.heap m:=
 let ⟨m,hn,_⟩:=I.loc
 ⟨m,hn,I.bk,Nat.le_trans I.ok.bsz I.ok.above⟩
theorem Inv.lt(I:Inv X pins σ H s):X.env.locals<s.heap.objs.size:=let ⟨_,hn,_⟩:=I.loc;hn.lt
theorem Inv.sz(I:Inv X pins σ H s):X.s₀.heap.objs.size<=s.heap.objs.size:=Nat.le_trans I.ok.above (Nat.le_of_lt I.lt)
theorem Inv.nofs(I:Inv X pins σ H s){a:Addr}(h:s.heap.objs.size<=a):a ∉ X.fs:=fun hb=>by
 obtain⟨_,o,ho,_⟩:=I.ok.funs.mem hb;exact absurd (Nat.lt_of_lt_of_le (Heap.lt_size ho) (Nat.le_trans I.sz h)) (Nat.lt_irrefl _)
theorem Inv.cne(I:Inv X pins σ H s):∀x c,X.env.cells.lookup x=some c->c≠X.env.locals:=fun x c e z=>by
 obtain⟨v,o,ho,hd⟩:=I.cell x c e;obtain⟨m,⟨o',es,ep,ho',hd',_⟩,_⟩:=I.loc;rw[z,ho']at ho;cases ho;rw[hd']at hd;cases hd
theorem Inv.funs(I:Inv X pins σ H s):s.heap.FunFrames X.base X.outer:=by
 have all:∀(l:List Env),(∀b∈vq l,b∈X.fs)->X.s₀.heap.FunFrames X.base l->s.heap.FunFrames X.base l:=by
  intro l
  induction l with
  |nil=>intro _ _;trivial
  |cons env r ih=>
   intro hs hl;obtain⟨hk,⟨L,o,hf,hn,ho,hd⟩,hr⟩:=hl;have hL:L∈X.fs:=hs L (by unfold vq;rw[List.filterMap_cons,hf];exact List.mem_cons_self);obtain⟨sl,e⟩:=I.base.slot L o ho (I.ok.frf L hL) hL fun z=>I.ok.exfs L z hL
   exact⟨hk,⟨L,_,hf,hn,e,hd⟩,ih (fun b hb=>hs b (by unfold vq;rw[List.filterMap_cons,hf];exact List.mem_cons_of_mem _ hb)) hr⟩
 exact all X.outer (fun _ hb=>hb) I.ok.funs
theorem Inv.stack(I:Inv X pins σ H s):s.heap.FunFrames X.base X.stack:=by
 rcases I.ok.stk with e|⟨e,hf⟩
 ·rw[e];exact I.funs
 ·rw[e]
  obtain⟨m,hn,_⟩:=I.loc;refine .cons (by rw[I.ok.kind];decide) hf hn ?_ I.funs;exact Heap.get?_none_of_le (Nat.le_trans I.ok.bsz I.ok.above)
theorem Inv.stkSub(I:Inv X pins σ H s):∀b∈vq X.stack,b∈X.env.locals::X.fs:=fun b hb=>by
 rcases I.ok.stk with e|⟨e,hf⟩
 ·rw[e]at hb;exact List.mem_cons_of_mem _ hb
 ·rw[e]at hb
  unfold vq at hb;rw[List.filterMap_cons,hf]at hb;exact hb
theorem Inv.stkFree(I:Inv X pins σ H s):∀b∈vq X.stack,H b=none:=fun b hb=>by
 rcases List.mem_cons.mp (I.stkSub b hb)with e|hb
 ·rw[e];exact I.free
 ·obtain⟨_,o,ho,_⟩:=I.ok.funs.mem hb
  exact I.base.free b o ho (I.ok.frf b hb) fun z=>I.ok.exfs b z hb
theorem Inv.step{g':Array GenState}{t':Nat}{d':Drawn}{ch:List Addr}(I:Inv X pins σ H s)
  (hch:∀b∈ch,(b∈X.ex\/X.s₀.heap.objs.size<=b)/\b≠X.env.locals/\(∀x c,X.env.cells.lookup x=some c->c≠b)/\∀p∈X.pn++pins,p.1≠b)
  (keep:∀b o,b≠X.env.locals->b ∉ X.fs->b ∉ ch->s.heap.get? b=some o->H b=none->h'.get? b=some o)
  (slot:∀b o,b≠X.env.locals->b∈X.fs->b ∉ ch->s.heap.get? b=some o->H b=none->∃sl,h'.get? b=some { o with slots:=sl }) (free:∀b o,b ∉ ch->s.heap.get? b=some o->H b=none->H' b=none)
  (there:∀b o,b ∉ ch->s.heap.get? b=some o->∃o',h'.get? b=some o')
  (tups:∀b xs,H b=some (.tup xs)->H' b=some (.tup xs)) (frzs:∀b o u,H b=some (.frz o u)->H' b=some (.frz o u)) (tbls:∀b ps,H b=some (.tbl ps)->∃more,H' b=some (.tbl (ps++more)))
  (ns:∀m,s.heap.Ns X.env.locals m->h'.Ns X.env.locals m) (hok:HOk X.prog X.w H' h') (hg:AllBare g') :
  Inv X pins σ H' { s with heap:=h',gens:=g',drawn:=d',toks:=t' }:=by
 have neL:∀b o,X.s₀.heap.get? b=some o->b≠X.env.locals:=fun b o e=>Nat.ne_of_lt (Nat.lt_of_lt_of_le (Heap.lt_size e) I.ok.above)
 have neC:∀b o,X.s₀.heap.get? b=some o->b ∉ X.ex->b ∉ ch:=fun b o e hx hb=>by
  rcases (hch b hb).1 with z|z
  ·exact hx z
  ·exact absurd (Nat.lt_of_lt_of_le (Heap.lt_size e) z) (Nat.lt_irrefl _)
 have cellK:∀x c,X.env.cells.lookup x=some c->∀v,s.heap.IsCell c v->h'.IsCell c v:=fun x c e v ⟨o,ho,hd⟩=>by
  have nch:c ∉ ch:=fun z=>(hch c z).2.2.1 x c e rfl
  rcases I.freeC x c e with n|⟨_,o1,n⟩
  ·by_cases hc:c∈X.fs
   ·obtain⟨sl,q⟩:=slot c o (I.cne x c e) hc nch ho n
    exact⟨_,q,hd⟩
   ·exact⟨o,keep c o (I.cne x c e) hc nch ho n,hd⟩
  ·have e1:=(I.hok c _ n).1
   rw[ho]at e1;cases e1;exact⟨o,(hok c _ (frzs c _ _ n)).1,hd⟩
 refine⟨I.ok,I.os,hg,⟨fun b o e n hb hx=>?_,fun b o e n hb hx=>?_,fun b o e n hx=>?_,fun b o e hx=>?_,fun b xs e=>tups b xs (I.base.tups b xs e),fun b o xs e=>frzs b o xs (I.base.frzs b o xs e),fun b ps e=>?_⟩,?_,fun x c e=>?_,?_,fun x c e=>?_,fun p hp=>?_,hok,I.len⟩
 ·exact keep b o (neL b o e) hb (neC b o e hx) (I.base.keep b o e n hb hx) (I.base.free b o e n hx)
 ·obtain⟨sl,e1⟩:=I.base.slot b o e n hb hx
  obtain⟨sl',e2⟩:=slot b _ (neL b o e) hb (neC b o e hx) e1 (I.base.free b o e n hx);exact⟨sl',e2⟩
 ·obtain⟨o',e1⟩:=I.base.there b o e hx
  exact free b o' (neC b o e hx) e1 (I.base.free b o e n hx)
 ·obtain⟨o',e1⟩:=I.base.there b o e hx
  exact there b o' (neC b o e hx) e1
 ·obtain⟨m1,e1⟩:=I.base.tbls b ps e
  obtain⟨m2,e2⟩:=tbls b _ e1;exact⟨m1++m2,by rw[e2,Array.append_assoc]⟩
 ·obtain⟨m,hn,hl⟩:=I.loc
  refine⟨m,ns m hn,fun i x v e1 e2 e3=>?_⟩
  obtain⟨u,r,l⟩:=hl i x v e1 e2 e3;refine⟨u,r,?_⟩;rcases l with l|⟨k,c,e,z⟩
  ·exact .inl l
  ·exact .inr ⟨k,c,e,cellK x c e _ z⟩
 ·obtain⟨v,z⟩:=I.cell x c e
  exact⟨v,cellK x c e v z⟩
 ·obtain⟨m,⟨o,_,_,ho,_⟩,_⟩:=I.loc
  exact free _ o (fun z=>(hch _ z).2.1 rfl) ho I.free
 ·obtain⟨v,o,ho,hd⟩:=I.cell x c e
  exact(I.freeC x c e).imp (free c o (fun z=>(hch c z).2.2.1 x c e rfl) ho) fun⟨a,o1,n⟩=>⟨a,o1,frzs _ _ _ n⟩
 ·obtain⟨e,n,ne,nf,d⟩:=I.pin p hp
  have nch:p.1 ∉ ch:=fun z=>(hch p.1 z).2.2.2 p hp rfl
  exact⟨keep p.1 p.2 ne nf nch e n,free p.1 p.2 nch e n,ne,nf,d⟩
theorem Inv.un{t':Nat}(I:Inv X pins σ H s)(u:Un X.fs [] H H' s.heap h')(hok:HOk X.prog X.w H' h'):Inv X pins σ H' { s with heap:=h',toks:=t' }:=by
 obtain⟨m,⟨o,es,ep,ho,r⟩,_⟩:=id I.loc;obtain⟨sl,hL⟩:=u.any ho I.free (by simp);exact I.step (g':=s.gens) (d':=s.drawn) (ch:=[]) (fun _ z=>nomatch z) (fun b o _ hb _ e n=>u.keep b o e n hb (by simp)) (fun b o _ hb _ e n=>u.slot b o e n hb (by simp)) (fun b o _ e n=>u.free b o e n (by simp)) (fun b o _ e=>u.there b o e (by simp)) u.tups u.frzs u.tbls (fun m' hm=>by
  obtain⟨o',es',ep',ho',r'⟩:=hm;rw[ho]at ho';cases ho';exact⟨_,es',ep',hL,r'⟩) hok I.bare
theorem Inv.call{g':Array GenState}{t':Nat}{d':Drawn}{ch:List Addr}(I:Inv X pins σ H s)(u:Un (vq X.stack) ch H H' s.heap h')(hok:HOk X.prog X.w H' h')(hg:AllBare g')
  (hch:∀b∈ch,(b∈X.ex\/X.s₀.heap.objs.size<=b)/\b≠X.env.locals/\(∀x c,X.env.cells.lookup x=some c->c≠b)/\∀p∈X.pn++pins,p.1≠b) :
  Inv X pins σ H' { s with heap:=h',gens:=g',drawn:=d',toks:=t' }:=by
 obtain⟨m,⟨o,es,ep,ho,r⟩,_⟩:=id I.loc;obtain⟨sl,hL⟩:=u.any ho I.free fun z=>(hch _ z).2.1 rfl
 exact I.step (ch:=ch) hch (fun b o hL hb hc e n=>u.keep b o e n (fun z=>(List.mem_cons.mp (I.stkSub b z)).elim hL hb) hc) (fun b o _ _ hc e n=>u.any e n hc) (fun b o hc e n=>u.free b o e n hc) (fun b o hc e=>u.there b o e hc) u.tups u.frzs u.tbls (fun m' hm=>by
  obtain⟨o',es',ep',ho',r'⟩:=hm;rw[ho]at ho';cases ho';exact⟨_,es',ep',hL,r'⟩) hok hg
theorem Inv.turned{t':Nat}{it:Addr}(I:Inv X pins σ H s)(k:∀b o,b≠it->s.heap.get? b=some o->h'.get? b=some o)(hn:H it=none)(hL:it≠X.env.locals)
  (h1:it∈X.ex\/X.s₀.heap.objs.size<=it) (h2:∀x c,X.env.cells.lookup x=some c->c≠it) (h3:∀p∈X.pn++pins,p.1≠it):Inv X pins σ H { s with heap:=h',toks:=t' }:=by
 have nit:∀b u,H b=some u->b≠it:=fun b u e z=>by rw[z,hn]at e;cases e
 refine I.step (g':=s.gens) (d':=s.drawn) (ch:=[it]) (fun b hb=>?_) (fun b o _ _ hc e _=>k b o (fun z=>hc (by simp[z])) e) (fun b o _ _ hc e _=>⟨o.slots,k b o (fun z=>hc (by simp[z])) e⟩) (fun _ _ _ _ n=>n)
  (fun b o hc e=>⟨o,k b o (fun z=>hc (by simp[z])) e⟩) (fun _ _ e=>e) (fun _ _ _ e=>e) (fun b ps e=>⟨#[],by rw[e];simp⟩) (fun m hm=>?_) (fun b u e=>?_) I.bare
 ·have e:b=it:=by simpa using hb
  subst e;exact⟨h1,hL,h2,h3⟩
 ·obtain⟨o,es,ep,ho,r⟩:=hm
  exact⟨o,es,ep,k _ o (Ne.symm hL) ho,r⟩
 ·refine(I.hok b u e).stay (fun c v hc q=>k c v ?_ q) (fun _ q=>q) (fun _ _ q=>q) fun _ _ _ q=>q
  rcases hc with z|z
  ·rw[z];exact nit b u e
  ·exact nit c _ z
theorem Inv.tok(I:Inv X pins σ H s)(t:Nat):Inv X pins σ H { s with toks:=t }:=I.un (h':=s.heap) (t':=t) Un.refl I.hok
theorem Inv.kept{t':Nat}(I:Inv X pins σ H s)(k:∀b u,s.heap.get? b=some u->h'.get? b=some u):Inv X pins σ H { s with heap:=h',toks:=t' }:=I.un (Un.kept k) (I.hok.kept k)
theorem Inv.laid{a:Addr}{o:HO}{t':Nat}(I:Inv X pins σ H s)(k:∀b u,s.heap.get? b=some u->h'.get? b=some u)(hp:s.heap.objs.size<=a)(new:ObjOk X.prog X.w (upd H a o) h' a o):
  Inv X pins σ (upd H a o) { s with heap:=h',toks:=t' }:=I.un (Un.laid k hp (I.hok.fresh hp)) (I.hok.laid k hp new)
theorem Inv.write{x e:Addr}{o:HO}{t':Nat}(I:Inv X pins σ H s)(mu:Fo (H x))(he:e=x\/H e=some (.own x))(k:∀b u,b≠e->s.heap.get? b=some u->h'.get? b=some u)(heo:∃u,h'.get? e=some u)
  (new:ObjOk X.prog X.w (upd H x o) h' x o):Inv X pins σ (upd H x o) { s with heap:=h',toks:=t' }:=I.un (Un.write mu he k heo) (I.hok.write mu he k heo new)
theorem Inv.weak{σ':List (Option V)}(I:Inv X pins σ H s)(hl:σ'.length = σ.length)(w:∀(i:Nat) v,σ'[i]? = some (some v) -> σ[i]? = some (some v)):Inv X pins σ' H s:=
 ⟨I.ok,I.os,I.bare,I.base,let ⟨m,hn,hl'⟩:=I.loc; ⟨m,hn,fun i x v e1 e2 e3=>hl' i x v e1 (w i v e2) e3⟩,I.cell,I.free,I.freeC,I.pin,I.hok,hl.trans I.len⟩
theorem Inv.pins_of{pins':List (Addr×Obj)}(I:Inv X pins σ H s)(h:∀p∈pins',s.heap.get? p.1=some p.2/\H p.1=none/\p.1≠X.env.locals/\p.1 ∉ X.fs/\∀v,p.2.data≠.cell v):Inv X pins' σ H s:=
 ⟨I.ok,I.os,I.bare,I.base,I.loc,I.cell,I.free,I.freeC,fun p hp=>(List.mem_append.mp hp).elim (fun z=>I.pin p (List.mem_append_left _ z)) (h p),I.hok,I.len⟩
theorem pZ{N:List Str}(hN:N.Nodup){i j:Nat}{x:Str}(a:N[i]? = some x)(b:N[j]? = some x):i=j:=by
 obtain⟨h1,e1⟩:=List.getElem?_eq_some_iff.mp a;obtain⟨h2,e2⟩:=List.getElem?_eq_some_iff.mp b;exact(List.getElem_inj hN).mp (e1.trans e2.symm)
theorem ui{M:Model}{A:Around}{E:Value->Shared->Prop}{i:Nat}{x:Str}{v:V}{u:Value}{Q:Unit->Shared->Prop}(I:Inv X pins σ H s)(hN:X.N.Nodup)(hi:X.N[i]? = some x)(hx:At X.env.scope x)(r:RelV v u)
  (h:∀s',Inv X pins (σ.set i (some v)) H s'->(∃a,Heap.SameBut a s.heap s'.heap/\(a=X.env.locals\/X.env.cells.lookup x=some a))->Q () s') (hf:X.fn x=true\/X.env.scope.names.lookup x=some .local:=by first|exact .inl rfl|exact .inr rfl|assumption):wpAny M A (storeName X.env x u) Q E s:=by
 obtain⟨m,hn,hl⟩:=id I.loc;have hcls:(X.env.scope.kind == .class||(X.env.scope.kind == .module&&X.env.locals != X.env.globals))=false:=by rw[I.ok.kind];rfl
 have hiσ:i < σ.length:=by rw[I.len];exact(List.getElem?_eq_some_iff.mp hi).1
 have cne:=I.cne;have tracked:∀{a:Addr} {h':Heap},(∃o,s.heap.get? a=some o/\H a=none)->Heap.SameBut a s.heap h'->HOk X.prog X.w H h':=fun{a h'} ha hs b ob e=>by
  obtain⟨_,_,hfree⟩:=ha;refine(I.hok b ob e).stay (fun c w' hc q=>(hs.2 c ?_).trans q) (fun _ q=>q) (fun _ _ q=>q) fun _ _ _ q=>q
  rintro rfl;rcases hc with rfl|hc
  ·rw[hfree]at e;cases e
  ·rw[hfree]at hc;cases hc
 rcases hx with hk|hk
 ·refine wpAny_storeName_local hk hn (fun h' hn' hs=>?_) hcls
  obtain⟨oL,_,_,hoL,_⟩:=id hn;refine h _ ⟨I.ok,I.os,I.bare,⟨fun b o e n hb hx=>?_,fun b o e n hb hx=>?_,I.base.free,fun b o e hx=>?_,I.base.tups,I.base.frzs,I.base.tbls⟩,⟨_,hn',fun j y v' e1 e2 e3=>?_⟩,fun y c e=>?_,I.free,I.freeC,fun p hp=>?_,tracked ⟨oL,hoL,I.free⟩ hs,by simpa using I.len⟩ ⟨_,hs,.inl rfl⟩
  ·exact(hs.2 b (Nat.ne_of_lt (Nat.lt_of_lt_of_le (Heap.lt_size e) I.ok.above))).trans (I.base.keep b o e n hb hx)
  ·obtain⟨sl,e1⟩:=I.base.slot b o e n hb hx
   exact⟨sl,(hs.2 b (Nat.ne_of_lt (Nat.lt_of_lt_of_le (Heap.lt_size e) I.ok.above))).trans e1⟩
  ·obtain⟨o',e1⟩:=I.base.there b o e hx
   exact⟨o',(hs.2 b (Nat.ne_of_lt (Nat.lt_of_lt_of_le (Heap.lt_size e) I.ok.above))).trans e1⟩
  ·by_cases hj:j=i
   ·subst hj
    rw[hi]at e1;cases e1;rw[List.getElem?_set_self hiσ]at e2;cases e2;exact⟨u,r,.inl ⟨hk,by simp⟩⟩
   ·rw[List.getElem?_set_ne (Ne.symm hj)]at e2
    obtain⟨u',r',q⟩:=hl j y v' e1 e2 e3;refine⟨u',r',?_⟩;rcases q with⟨k,e⟩|⟨k,c,e,z⟩
    ·refine .inl ⟨k,?_⟩
     have:y≠x:=fun e=>hj (pZ hN e1 (e ▸ hi))
     simp[this,e]
    ·exact .inr ⟨k,c,e,z.sameBut hs (cne y c e)⟩
  ·obtain⟨w',z⟩:=I.cell y c e
   exact⟨w',z.sameBut hs (cne y c e)⟩
  ·obtain⟨e,n,ne,nf,d⟩:=I.pin p hp
   exact⟨(hs.2 p.1 ne).trans e,n,ne,nf,d⟩
 ·have hfn:X.fn x=true:=by
   rcases hf with z|z
   ·exact z
   ·rw[z]at hk;cases hk
  obtain⟨c,hc⟩:=I.ok.has x (.inl hk);obtain⟨w',z⟩:=I.cell x c hc;refine wpAny_storeName_cell I.ok.kind hk hc z (fun h' hc' hs=>?_);obtain⟨oc,hoc,hocd⟩:=id z;refine h { s with heap:=h' } ⟨I.ok,I.os,I.bare,⟨fun b o e n hb hx=>?_,fun b o e n hb hx=>?_,I.base.free,fun b o e hx=>?_,I.base.tups,I.base.frzs,I.base.tbls⟩,⟨m,hn.sameBut hs (Ne.symm (cne x c hc)),fun j y v' e1 e2 e3=>?_⟩,fun y c' e=>?_,I.free,I.freeC,fun p hp=>?_,tracked ⟨oc,hoc,(I.freeC x c hc).resolve_right fun z=>by rw[hfn]at z;exact nomatch z.1⟩ hs,by simpa using I.len⟩ ⟨c,hs,.inr hc⟩
  ·exact(hs.2 b (Nat.ne_of_lt (Nat.lt_of_lt_of_le (Heap.lt_size e) (I.ok.cab x c (.inl hfn) hc)))).trans (I.base.keep b o e n hb hx)
  ·obtain⟨sl,e1⟩:=I.base.slot b o e n hb hx
   exact⟨sl,(hs.2 b (Nat.ne_of_lt (Nat.lt_of_lt_of_le (Heap.lt_size e) (I.ok.cab x c (.inl hfn) hc)))).trans e1⟩
  ·obtain⟨o',e1⟩:=I.base.there b o e hx
   exact⟨o',(hs.2 b (Nat.ne_of_lt (Nat.lt_of_lt_of_le (Heap.lt_size e) (I.ok.cab x c (.inl hfn) hc)))).trans e1⟩
  ·by_cases hj:j=i
   ·subst hj
    rw[hi]at e1;cases e1;rw[List.getElem?_set_self hiσ]at e2;cases e2;exact⟨u,r,.inr ⟨.inl hk,c,hc,hc'⟩⟩
   ·rw[List.getElem?_set_ne (Ne.symm hj)]at e2
    obtain⟨u',r',q⟩:=hl j y v' e1 e2 e3;refine⟨u',r',?_⟩;rcases q with q|⟨k,c',e,z'⟩
    ·exact .inl q
    ·refine .inr ⟨k,c',e,z'.sameBut hs ?_⟩
     rintro rfl;exact hj (pZ hN e1 (I.ok.inj _ _ _ e hc ▸ hi))
  ·by_cases hcc:c'=c
   ·subst hcc;exact⟨_,hc'⟩
   ·obtain⟨w2,z2⟩:=I.cell y c' e
    exact⟨w2,z2.sameBut hs hcc⟩
  ·obtain⟨e,n,ne,nf,d⟩:=I.pin p hp
   refine⟨(hs.2 p.1 ?_).trans e,n,ne,nf,d⟩;intro q;rw[q,hoc]at e;have q':oc=p.2:=Option.some.inj e;exact d w' (by rw[<-q'];exact hocd)
theorem pG{M:Model}{A:Around}{E:Value->Shared->Prop}{i:Nat}{x:Str}{v:V}{u:Value}{Q:Unit->Shared->Prop}(I:Inv X pins σ H s)(hN:X.N.Nodup)(hi:X.N[i]? = some x)(hx:At X.env.scope x)(r:RelV v u)
  (h:∀s',Inv X pins (σ.set i (some v)) H s'->Q () s') (hf:X.fn x=true\/X.env.scope.names.lookup x=some .local:=by first|exact .inl rfl|exact .inr rfl|assumption):wpAny M A (storeName X.env x u) Q E s:=
 ui I hN hi hx r (fun s' I' _=>h s' I') hf
theorem Inv.call'{s':Shared}{ch:List Addr}(I:Inv X pins σ H s)(ho:s'.os=s.os)(u:Un (vq X.stack) ch H H' s.heap s'.heap)(hok:HOk X.prog X.w H' s'.heap)(hg:AllBare s'.gens)
  (hch:∀b∈ch,(b∈X.ex\/X.s₀.heap.objs.size<=b)/\b≠X.env.locals/\(∀x c,X.env.cells.lookup x=some c->c≠b)/\∀p∈X.pn++pins,p.1≠b):Inv X pins σ H' s':=by
 obtain⟨h',g',d',t',o'⟩:=s';have e:o'=s.os:=ho;subst e;exact I.call (g':=g') (t':=t') (d':=d') u hok hg hch
end
abbrev XK:=Value->Option Addr->Hp->Prop
abbrev St:=List (Option V)
abbrev VK:=V->Hp->Prop
abbrev TE:=St->Hp->VK->Prop
abbrev TT:=St->Hp->(Bool->Hp->Prop)->Prop
abbrev TA:=St->Hp->(List V->Hp->Prop)->Prop
structure Ends where
 nx:St->Hp->Prop
 rt:VK
 bk:St->Hp->Prop:=fun _ _=>False
 ct:St->Hp->Prop:=fun _ _=>False
abbrev TS:=Ends->St->Hp->Prop
def EP(X:Cx)(pins:List (Addr×Obj))(σ:St)(Q:VK)(u:Value)(s':Shared):Prop:=∃v H',Inv X pins σ H' s'/\RelV v u/\Q v H'
def TP(X:Cx)(pins:List (Addr×Obj))(σ:St)(Q:Bool->Hp->Prop)(b:Bool)(s':Shared):Prop:=∃H',Inv X pins σ H' s'/\Q b H'
def AP(X:Cx)(pins:List (Addr×Obj))(σ:St)(Q:List V->Hp->Prop)(us:List Value)(s':Shared):Prop:=∃vs H',Inv X pins σ H' s'/\Vals vs us/\Q vs H'
def SP(X:Cx)(pins:List (Addr×Obj))(D:Ends)(f:Flow)(s':Shared):Prop:=
 match f with
 |.next=>∃ σ' H',Inv X pins σ' H' s'/\D.nx σ' H'
 |.brk=>∃ σ' H',Inv X pins σ' H' s'/\D.bk σ' H'
 |.cont=>∃ σ' H',Inv X pins σ' H' s'/\D.ct σ' H'
 |.ret u=>∃v σ' H',Inv X pins σ' H' s'/\RelV v u/\D.rt v H'
def PE(X:Cx)(e:Expr)(t:TE):Prop:=
 ∀(pins:List (Addr×Obj)) (s:Shared) (σ:St) (H:Hp) (Q:VK),Inv X pins σ H s->t σ H Q->wpAny (model X.prog X.w) X.A (eval e X.env) (EP X pins σ Q) X.xe s
def PT(X:Cx)(e:Expr)(t:TT):Prop:=
 ∀(pins:List (Addr×Obj)) (s:Shared) (σ:St) (H:Hp) (Q:Bool->Hp->Prop),Inv X pins σ H s->t σ H Q->wpAny (model X.prog X.w) X.A (isTrue e X.env (eval e X.env)) (TP X pins σ Q) X.xe s
def PW(X:Cx)(e:Expr)(t:TT):Prop:=
 ∀(whole:Sem Value) (pins:List (Addr×Obj)) (s:Shared) (σ:St) (H:Hp) (Q:Bool->Hp->Prop),Inv X pins σ H s->t σ H Q->wpAny (model X.prog X.w) X.A (isTrue e X.env whole) (TP X pins σ Q) X.xe s
theorem PW.pt{X:Cx}{e:Expr}{t:TT}(h:PW X e t):PT X e t:=h _
def PA(X:Cx)(es:List Expr)(t:TA):Prop:=
 ∀(pos:Pos) (pins:List (Addr×Obj)) (s:Shared) (σ:St) (H:Hp) (Q:List V->Hp->Prop),Inv X pins σ H s->t σ H Q->wpAny (model X.prog X.w) X.A (spliced (backTo pos (starEach es X.env))) (AP X pins σ Q) X.xe s
def PS(X:Cx)(st:Stmt)(t:TS):Prop:=
 ∀(pins:List (Addr×Obj)) (s:Shared) (σ:St) (H:Hp) (D:Ends),Inv X pins σ H s->t D σ H->wpAny (model X.prog X.w) X.A (exec st X.env) (SP X pins D) X.xe s
def PSs(X:Cx)(st:List Stmt)(t:TS):Prop:=
 ∀(pins:List (Addr×Obj)) (s:Shared) (σ:St) (H:Hp) (D:Ends),Inv X pins σ H s->t D σ H->wpAny (model X.prog X.w) X.A (execs st X.env) (SP X pins D) X.xe s
theorem dF{α:Type}{t:Sem α}{Q Q':α -> Shared->Prop}{M:Model}{A:Around}{E:Value->Shared->Prop}{s:Shared}(h:wpAny M A t Q E s)(hQ:∀a s,Q a s->Q' a s):wpAny M A t Q' E s:=wpAny_mono h hQ fun _ _ x=>x
section
variable{X:Cx}
def FD(i:Nat):TE:=fun σ H Q=>∃v,σ[i]? = some (some v)/\Q v H
def tC(v:V):TE:=fun _ H Q=>Q v H
theorem jO{i:Nat}{x:Str}{pos:Pos}(hN:X.N[i]? = some x)(hv:A3 X.env.scope x)(hd:(x==("__debug__":Str))=false:=by decide)(hcd:(x==("__classdict__":Str))=false:=by decide):PE X (.Name x pos) (FD i):=by
 intro pins s σ H Q I h;obtain⟨v,e,h⟩:=h;obtain⟨m,hn,hl⟩:=I.loc;obtain⟨u,r,l⟩:=hl i x v hN e hv;have fin:EP X pins σ Q u s:=⟨v,H,I,r,h⟩;rcases l with⟨hk,hm⟩|⟨hk,c,hc,hcell⟩
 ·exact wpAny_Name (wpAny_loadName_local I.ok.kind hk hn hm fin) hd
 ·rcases hk with hk|hk
  ·exact wpAny_Name (wpAny_loadName_cell I.ok.kind hk hc hcell fin) hd
  ·exact wpAny_Name (wpAny_loadName_free I.ok.kind hk hc hcell fin hcd) hd
theorem BO{i j pos}:PE X (.Constant (.int i) j pos) (tC (.int i)):=fun _ _ _ H _ I h=>wpAny_Constant_int ⟨.int i,H,I.tok _,⟨_,rfl⟩,h⟩
theorem DU{b j pos}:PE X (.Constant (.bool b) j pos) (tC (.bl b)):=fun _ _ _ H _ I h=>Constant_bool ⟨.bl b,H,I,rfl,h⟩
theorem BM{x j pos}:PE X (.Constant (.str x) j pos) (tC (.str x)):=fun _ _ _ H _ I h=>Calls.Constant_str ⟨.str x,H,I.tok _,⟨_,rfl⟩,h⟩
def Gl(X:Cx)(x:Str):Prop:=X.env.kindOf x=some .globalImplicit
theorem tz{E:Value->Shared->Prop}{pins:List (Addr×Obj)}{s:Shared}{σ:St}{H:Hp}{x:Str}{u:Value}{pos:Pos}{Q:Value->Shared->Prop}(I:Inv X pins σ H s)(hg:Gl X x)(hm:X.mg x=some u)(h:Q u s)
  (hd:(x==("__debug__":Str))=false:=by decide):wpAny (model X.prog X.w) X.A (eval (.Name x pos) X.env) Q E s:=
 Calls.Name_function_global I.ok.kind hg (Calls.loadGlobal_global (by rw[I.ok.glob];exact I.mod.glob.keeps I.bk) hm h) hd
theorem oT{E:Value->Shared->Prop}{pins:List (Addr×Obj)}{s:Shared}{σ:St}{H:Hp}{x:Str}{u:Value}{pos:Pos}{Q:Value->Shared->Prop}(I:Inv X pins σ H s)(hg:Gl X x)(hm:X.mg x=none)(hv:bootBuiltins x=some u)(h:Q u s)
  (hn:x ≠ "__name__":=by decide) (hd:(x==("__debug__":Str))=false:=by decide):wpAny (model X.prog X.w) X.A (eval (.Name x pos) X.env) Q E s:=by
 obtain⟨mb,h1,h2⟩:=I.mod.blt;exact Calls.Name_function_global I.ok.kind hg (Calls.loadGlobal_builtin (by rw[I.ok.glob];exact I.mod.glob.keeps I.bk) hm (by rw[I.ok.blt];exact h1.keeps I.bk) ((h2 x hn).trans hv) h) hd
theorem sW{x:Str}{v:V}{u:Value}{pos:Pos}(hg:Gl X x)(hm:X.mg x=some u)(r:RelV v u)(hd:(x==("__debug__":Str))=false:=by decide):PE X (.Name x pos) (tC v):=
 fun _ _ _ H _ I h=>tz I hg hm ⟨v,H,I,r,h⟩ hd
variable{a b:Expr}{ta tb:TE}{pos:Pos}
def tB(t:TE):TT:=fun σ H Q=>t σ H fun x H1=>∃c,x=.bl c/\Q c H1
theorem BG{e:Expr}{t:TE}(h:PE X e t)(he:∀whole,isTrue e X.env whole=(do let v <-whole;standAt e.pos;holding [v] (truthy v)):=by intro _;rfl):PT X e (tB t):=by
 intro pins s σ H Q I hw;refine isTrue_plain (dF (h pins s σ H _ I hw) fun v s1 ⟨x,H1,I1,r1,q1⟩=>?_) (he _)
 obtain⟨d,rfl,q⟩:=q1;cases r1;exact wpAny_truthy_bool ⟨H1,I1,q⟩
variable{tA tB':TT}{rest:List Expr}
def HE(t u:TT):TT:=fun σ H Q=>t σ H fun c H1=>if c=true then Q true H1 else u σ H1 Q
theorem BF(ha:PT X a tA):PW X (.BoolOp .Or [a] pos) tA:=by
 intro wh pins s σ H Q I h;refine isTrue_or (dF (ha pins s σ H Q I h) fun c s1 e=>?_)
 cases c with
 |false=>exact isTrue_or_nil e
 |true=>exact e
theorem DN(ha:PT X a tA)(hb:PW X (.BoolOp .Or (b::rest) pos) tB'):PW X (.BoolOp .Or (a::b::rest) pos) (HE tA tB'):=by
 intro wh pins s σ H Q I h;refine isTrue_or (dF (ha pins s σ H _ I h) fun c s1 ⟨H1,I1,q1⟩=>?_)
 cases c with
 |true=>exact⟨H1,I1,q1⟩
 |false=>exact hb wh pins s1 σ H1 Q I1 q1
def DA(ta tb:TE):TE:=fun σ H Q=>ta σ H fun x H1=>∃c,x=.bl c/\if c=true then tb σ H1 Q else Q (.bl false) H1
theorem BN{op}{t:TE}(h:PE X a t):PE X (.BoolOp op [a] pos) t:=fun pins s σ H Q I hw=>BoolOp_one (h pins s σ H Q I hw)
theorem BQ(ha:PE X a ta)(hb:PE X (.BoolOp .And (b::rest) pos) tb):PE X (.BoolOp .And (a::b::rest) pos) (DA ta tb):=by
 intro pins s σ H Q I h;refine BoolOp_and (dF (ha pins s σ H _ I h) fun v s1 ⟨x,H1,I1,r1,q1⟩=>?_)
 obtain⟨c,rfl,q1⟩:=q1;cases r1;refine wpAny_truthy_bool ?_;cases c with
 |true=>exact hb pins s1 σ H1 Q I1 q1
 |false=>exact⟨.bl false,H1,I1,rfl,q1⟩
def HF(t:TT)(ta tb:TE):TE:=fun σ H Q=>t σ H fun c H1=>if c=true then ta σ H1 Q else tb σ H1 Q
theorem wx{c:Expr}(hc:PT X c tA)(ha:PE X a ta)(hb:PE X b tb):PE X (.IfExp c a b pos) (HF tA ta tb):=by
 intro pins s σ H Q I h;refine wpAny_IfExp (dF (hc pins s σ H _ I h) fun d s1 ⟨H1,I1,q1⟩=>?_)
 cases d with
 |true=>exact ha pins s1 σ H1 Q I1 q1
 |false=>exact hb pins s1 σ H1 Q I1 q1
end
def SqL(K:PySem.W.Frag)(H:Hp)(a:Addr)(xs:List V):Prop:=
 Rd H a (.lst xs) \/
  ∃(o:Obj) (its:Array Value) (n:Nat),K.lookup a=some o/\o.cls=.type "list" /\ o.dict=none/\o.data=.seq its n/\its.size<=sizeLine/\Vals xs its.toList
def SqT(K:PySem.W.Frag)(H:Hp)(a:Addr)(xs:List V):Prop:=
 Rd H a (.tup xs) \/
  ∃(o:Obj) (its:Array Value) (n:Nat),K.lookup a=some o/\o.cls=.type "tuple" /\ o.data=.seq its n/\its.size<=sizeLine/\Vals xs its.toList/\o.dict=none
noncomputable def GR:Value->Option V
 |.none=>some .non
 |.bool b=>some (.bl b)
 |.int i _=>some (.int i)
 |.str x _=>some (.str x)
 |.bytes b _=>some (.byt b)
 |.float b _=>some (.flt b)
 |.ref a=>some (.ref a)
 |.type n=>some (.ty n)
 |_=>none
theorem RelV.abs{x:V}{u:Value}(r:RelV x u):GR u=some x:=by
 cases x with
 |non=>cases r;rfl
 |bl _=>cases r;rfl
 |int _=>obtain⟨t,rfl⟩:=r;rfl
 |str _=>obtain⟨t,rfl⟩:=r;rfl
 |byt _=>obtain⟨t,rfl⟩:=r;rfl
 |flt _=>obtain⟨t,rfl⟩:=r;rfl
 |ref _=>cases r;rfl
 |ty _=>cases r;rfl
theorem RelV.inj{x y:V}{u:Value}(r:RelV x u)(q:RelV y u):x=y:=Option.some.inj (r.abs.symm.trans q.abs)
theorem Vals.inj:∀{xs ys:List V} {us:List Value},Vals xs us->Vals ys us->xs=ys
 |_,_,_,.nil,.nil=>rfl
 |_,_,_,.cons r t,.cons r' t'=>by rw[r.inj r',Vals.inj t t']
section
variable{X:Cx}{pins:List (Addr×Obj)}{σ:St}{H:Hp}{s:Shared}{a:Addr}{xs ys:List V}
theorem SqL.of{K:PySem.W.Frag}(h:H a=some (.lst xs)):SqL K H a xs:=.inl (.inl h)
theorem SqT.of{K:PySem.W.Frag}(h:H a=some (.tup xs)):SqT K H a xs:=.inl (.inl h)
theorem Inv.list(I:Inv X pins σ H s)(h:SqL X.K H a xs):∃its:List Value,Vals xs its/\PlainL s.heap a its.toArray/\xs.length<=sizeLine:=by
 rcases h with h|⟨o,its,n,hk,hc,hd,hs,hz,r⟩
 ·obtain⟨z,its,n,r,e⟩:=h.ok I.hok
  exact⟨its,r,⟨_,n,e,rfl,rfl,rfl⟩,z⟩
 ·refine⟨its.toList,r,⟨o,n,I.kIn a o hk,hc,hd,by simpa using hs⟩,?_⟩
  have e:=r.length;simp only[Array.length_toList]at e
  lia
theorem Inv.tuple(I:Inv X pins σ H s)(h:SqT X.K H a xs):∃its:List Value,Vals xs its/\IsTup s.heap a its.toArray/\xs.length<=sizeLine:=by
 rcases h with h|⟨o,its,n,hk,hc,hs,hz,r,hd⟩
 ·obtain⟨z,its,r,p⟩:=h.ok I.hok
  exact⟨its,r,p.1,z⟩
 ·refine⟨its.toList,r,⟨o,I.kIn a o hk,hc,n,by simpa using hs⟩,?_⟩
  have e:=r.length;simp only[Array.length_toList]at e
  lia
theorem Inv.list_inj(I:Inv X pins σ H s)(h:SqL X.K H a xs)(h':SqL X.K H a ys):xs=ys:=by
 obtain⟨its,r,⟨o,n,e,_,_,d⟩,_⟩:=I.list h;obtain⟨its',r',⟨o',n',e',_,_,d'⟩,_⟩:=I.list h';rw[e]at e';cases e';rw[d]at d';injection d' with d1 _
 have:its=its':=by simpa using congrArg Array.toList d1
 subst this;exact r.inj r'
theorem Inv.tuple_inj(I:Inv X pins σ H s)(h:SqT X.K H a xs)(h':SqT X.K H a ys):xs=ys:=by
 obtain⟨its,r,⟨o,e,_,n,d⟩,_⟩:=I.tuple h;obtain⟨its',r',⟨o',e',_,n',d'⟩,_⟩:=I.tuple h';rw[e]at e';cases e';rw[d]at d';injection d' with d1 _
 have:its=its':=by simpa using congrArg Array.toList d1
 subst this;exact r.inj r'
end
abbrev Cx.wish(X:Cx)(E:Value->Shared->Prop):Cx:={ X with xe:=E }
abbrev Cx.nox(X:Cx):Cx:=X.wish fun _ _=>False
theorem Cx.Ok.wish{X:Cx}(ok:X.Ok)(E:Value->Shared->Prop):(X.wish E).Ok:=
 ⟨ok.mod,ok.kind,ok.glob,ok.blt,ok.above,ok.inj,ok.has,ok.cab,ok.hd,ok.frames,ok.stk,ok.exf,ok.bs,ok.bsz,ok.noex,ok.exfs,ok.funs,ok.frf,ok.tb⟩
theorem Cx.Ok.unwish{X:Cx}{E:Value->Shared->Prop}(ok:(X.wish E).Ok):X.Ok:=
 ⟨ok.mod,ok.kind,ok.glob,ok.blt,ok.above,ok.inj,ok.has,ok.cab,ok.hd,ok.frames,ok.stk,ok.exf,ok.bs,ok.bsz,ok.noex,ok.exfs,ok.funs,ok.frf,ok.tb⟩
section
variable{X:Cx}{pins:List (Addr×Obj)}{σ:St}{H:Hp}{s:Shared}{E:Value->Shared->Prop}
theorem Inv.wish(I:Inv X pins σ H s)(E:Value->Shared->Prop):Inv (X.wish E) pins σ H s:=⟨I.ok.wish E,I.os,I.bare,I.base,I.loc,I.cell,I.free,I.freeC,I.pin,I.hok,I.len⟩
theorem Inv.unwish(I:Inv (X.wish E) pins σ H s):Inv X pins σ H s:=⟨I.ok.unwish,I.os,I.bare,I.base,I.loc,I.cell,I.free,I.freeC,I.pin,I.hok,I.len⟩
theorem SP.unwish{D:Ends}{f:Flow}{s':Shared}(h:SP (X.wish E) pins D f s'):SP X pins D f s':=by
 cases f with
 |next=>obtain⟨σ',H',I,q⟩:=h;exact⟨σ',H',I.unwish,q⟩
 |brk=>obtain⟨σ',H',I,q⟩:=h;exact⟨σ',H',I.unwish,q⟩
 |cont=>obtain⟨σ',H',I,q⟩:=h;exact⟨σ',H',I.unwish,q⟩
 |ret u=>obtain⟨v,σ',H',I,r,q⟩:=h;exact⟨v,σ',H',I.unwish,r,q⟩
theorem PSs.nox{st:List Stmt}{t:TS}(h:PSs X.nox st t):PSs X st t:=fun pins s σ H D I hw=>
 wpAny_mono (h pins s σ H D (I.wish _) hw) (fun _ _ q=>q.unwish) fun _ _ z=>False.elim z
end
section
variable{X:Cx}{st:Stmt}{rest:List Stmt}{t u:TS}{e:Expr}{te:TE}{pos:Pos}
def Dw:TS:=fun D σ H=>D.nx σ H
def FJ(t u:TS):TS:=fun D σ H=>t { D with nx:=u D } σ H
theorem yS:PSs X [] Dw:=fun _ _ σ H _ I h=>wpAny_execs_nil ⟨σ,H,I,h⟩
theorem wg(h1:PS X st t)(h2:PSs X rest u):PSs X (st::rest) (FJ t u):=by
 intro pins s σ H D I h;refine wpAny_execs_cons (dF (h1 pins s σ H { D with nx:=u D } I h) fun f s1 q=>?_)
 cases f with
 |next=>
  obtain⟨σ',H',I',q⟩:=q;exact h2 pins s1 σ' H' D I' q
 |ret v=>exact q
 |brk=>exact q
 |cont=>exact q
theorem yR(h1:PS X st t):PSs X [st] t:=by
 intro pins s σ H D I h;refine wpAny_execs_cons (dF (h1 pins s σ H D I h) fun f s1 q=>?_)
 cases f with
 |next=>exact wpAny_execs_nil q
 |ret v=>exact q
 |brk=>exact q
 |cont=>exact q
theorem Inv.quiet{pins:List (Addr×Obj)}{σ:St}{H:Hp}{s:Shared}(I:Inv X pins σ H s):interactive X.env=false:=by simp[interactive,I.ok.kind]
def Dx(te:TE):TS:=fun D σ H=>te σ H fun _ H1=>D.nx σ H1
theorem oE(he:PE X e te)(hs:swapsWith e none pos.line X.env=pure false:=by rfl):PS X (.Expr e pos) (Dx te):=by
 intro pins s σ H D I h;exact wpAny_Expr_any (dF (he pins s σ H _ I h) fun v s1 ⟨x,H1,I1,r1,q1⟩=>⟨σ,H1,I1,q1⟩) I.quiet hs
def FK(te:TE):TS:=fun D σ H=>te σ H D.rt
theorem BH(he:PE X e te):PS X (.Return (some e) pos) (FK te):=by
 intro pins s σ H D I h;exact wpAny_Return_some (dF (he pins s σ H _ I h) fun v s1 ⟨x,H1,I1,r1,q1⟩=>⟨x,σ,H1,I1,r1,q1⟩)
def FN(c:TT)(t u:TS):TS:=fun D σ H=>c σ H fun b H1=>if b=true then t D σ H1 else u D σ H1
theorem DQ{c:Expr}{a b:List Stmt}{tc:TT}(hc:PT X c tc)(ha:PSs X a t)(hb:PSs X b u):PS X (.If c a b pos) (FN tc t u):=by
 intro pins s σ H D I h;refine wpAny_If (dF (hc pins s σ H _ I h) fun d s1 ⟨H1,I1,q1⟩=>?_)
 cases d with
 |true=>exact ha pins s1 σ H1 D I1 q1
 |false=>exact hb pins s1 σ H1 D I1 q1
end
abbrev TG:=V->St->Hp->(St->Hp->Prop)->Prop
def PG(X:Cx)(target:Expr)(t:TG):Prop:=
 ∀(pins:List (Addr×Obj)) (s:Shared) (σ:St) (H:Hp) (v:V) (u:Value) (Q:St->Hp->Prop),Inv X pins σ H s->RelV v u->t v σ H Q ->
  wpAny (model X.prog X.w) X.A (assign target X.env u) (fun _ s'=>∃ σ' H',Inv X pins σ' H' s'/\Q σ' H') X.xe s
section
variable{X:Cx}{pos:Pos}
def xf(i:Nat):TG:=fun v σ H Q=>Q (σ.set i (some v)) H
theorem cJ{i:Nat}{x:Str}(hN:X.N.Nodup)(hi:X.N[i]? = some x)(hx:At X.env.scope x)(hf:X.fn x=true\/X.env.scope.names.lookup x=some .local:=by first|exact .inl rfl|exact .inr rfl|assumption):PG X (.Name x pos) (xf i):=by
 intro pins s σ H v u Q I r h;exact wpAny_assign_Name (pG I hN hi hx r (fun s' I'=>⟨_,H,I',h⟩) hf)
def FQ(te:TE)(g:TG):TS:=fun D σ H=>te σ H fun x H1=>g x σ H1 D.nx
theorem wk{i:Nat}{x:Str}{e:Expr}{te:TE}{pos':Pos}(hN:X.N.Nodup)(hi:X.N[i]? = some x)(hx:At X.env.scope x)(he:PE X e te)(hs:swapsWith e (some (.Name x pos')) pos.line X.env=pure false:=by rfl)(hf:X.fn x=true\/X.env.scope.names.lookup x=some .local:=by first|exact .inl rfl|exact .inr rfl|assumption):
  PS X (.Assign [.Name x pos'] e pos) (FQ te (xf i)):=by
 intro pins s σ H D I h;refine wpAny_Assign_Name (dF (he pins s σ H _ I h) fun v s1 ⟨y,H1,I1,r1,q1⟩=>?_) hs
 exact pG I1 hN hi hx r1 (fun s2 I2=>⟨_,H1,I2,q1⟩) hf
end
section
variable{X:Cx}{pos:Pos}
def Bp(c:TT)(tb:TS):TS:=fun D σ H=>∃W:Nat->St->Hp->Prop,(∃m,W m σ H)/\∀m σ H,W m σ H ->
 c σ H fun b H1=>if b=true then ∃N:St->Hp->Prop,(∀ σ' H',N σ' H'->∃m',m'<m/\W m' σ' H')/\tb { D with nx:=N,ct:=N,bk:=D.nx } σ H1 else D.nx σ H1
theorem wj{c:Expr}{body:List Stmt}{tc:TT}{tb:TS}(hp:PassesOwn (model X.prog X.w) X.A X.env X.xe)(hc:PT X c tc)(hb:PSs X body tb):PS X (.While c body [] pos) (Bp tc tb):=by
 intro pins s σ H D I h;obtain⟨W,⟨m0,w0⟩,turn⟩:=h;refine wpAny_While (codeAny_whileLoop (fun n s'=>∃ σ' H',Inv X pins σ' H' s'/\W n σ' H') ?_ m0 ⟨σ,H,I,w0⟩);rintro n s1 ⟨σ1,H1,I1,w1⟩;refine wpAny_passesOwn hp (dF (hc pins s1 σ1 H1 _ I1 (turn n σ1 H1 w1)) fun b s2 ⟨H2,I2,q2⟩=>?_)
 cases b with
 |true=>
  obtain⟨N,hN,q2⟩:=q2;rw[if_pos rfl];refine wpAny_passesOwn hp (dF (hb pins s2 σ1 H2 _ I2 q2) fun f s3 q3=>?_)
  cases f with
  |next=>
   obtain⟨σ3,H3,I3,n3⟩:=q3;obtain⟨m',hm,w3⟩:=hN σ3 H3 n3;exact⟨m',hm,σ3,H3,I3,w3⟩
  |cont=>
   obtain⟨σ3,H3,I3,n3⟩:=q3;obtain⟨m',hm,w3⟩:=hN σ3 H3 n3;exact⟨m',hm,σ3,H3,I3,w3⟩
  |brk=>exact q3
  |ret v=>exact q3
 |false=>
  rw[if_neg Bool.false_ne_true];exact wpAny_execs_nil ⟨σ1,H2,I2,q2⟩
end
structure It where
 go:Nat->Hp->Prop
 yld:Nat->Hp->V->Hp->Prop
 stop:Nat->Hp->Prop
def kQ(X:Cx)(pins:List (Addr×Obj))(H:Hp)(b:Addr):Prop:=
 H b=none/\b≠X.env.locals/\b ∉ X.fs/\(b∈X.ex\/X.s₀.heap.objs.size<=b)/\(∀x c,X.env.cells.lookup x=some c->c≠b)/\∀p∈X.pn++pins,p.1≠b
theorem Inv.fpOk{X:Cx}{pins:List (Addr×Obj)}{σ:St}{H H':Hp}{s:Shared}{b:Addr}(I:Inv X pins σ H s)(hb:s.heap.objs.size<=b)(hn:H' b=none):kQ X pins H' b:=by
 refine⟨hn,Nat.ne_of_gt (Nat.lt_of_lt_of_le I.lt hb),I.nofs hb,.inr (Nat.le_trans I.sz hb),fun x c e z=>?_,fun p hp z=>?_⟩
 ·obtain⟨v,q⟩:=I.cell x c e
  exact absurd (Nat.lt_of_lt_of_le q.lt (by rw[z];exact hb)) (Nat.lt_irrefl _)
 ·exact absurd (Nat.lt_of_lt_of_le (Heap.lt_size (I.pin p hp).1) (by rw[z];exact hb)) (Nat.lt_irrefl _)
structure TurnG (Cm:Cx->Prop) (P:Program) (w:World) (K:PySem.W.Frag) (tg:Expr) (J:It) (fp:List Addr) (it:Addr) (tn:Nat->Heap->Prop):Prop where
 mem:it∈fp
 obj:∀i h,tn i h->∀b∈fp,∃o,h.get? b=some o/\∀v,o.data≠.cell v
 keep:∀i h h',tn i h->(∀b∈fp,∀o,h.get? b=some o->h'.get? b=some o)->tn i h'
 item:∀(X:Cx),X.prog=P->X.w=w->X.K=K->Cm X->∀(i:Nat) (pins:List (Addr×Obj)) (s:Shared) (σ:St) (H:Hp) (E:Value->Shared->Prop),Inv X pins σ H s->(∀b∈fp,kQ X pins H b)->tn i s.heap->J.go i H ->
  wpAny (model P w) X.A (pyNext (.ref it)) (fun r s1=>∃u,r=some u /\
   wpAny (model P w) X.A (letOwnedTupleGo tg (.ref it) u) (fun _ s2=>∃x H',Inv X pins σ H' s2/\RelV x u/\J.yld i H x H'/\tn (i+1) s2.heap/\∀b∈fp,H' b=none) E s1) E s
 done:∀(X:Cx),X.prog=P->X.w=w->X.K=K->Cm X->∀(i:Nat) (pins:List (Addr×Obj)) (s:Shared) (σ:St) (H:Hp) (E:Value->Shared->Prop),Inv X pins σ H s->(∀b∈fp,kQ X pins H b)->tn i s.heap->J.stop i H ->
  wpAny (model P w) X.A (pyNext (.ref it)) (fun r s1=>r=none/\Inv X pins σ H s1) E s
 self:∀(A:Around) (i:Nat) (s:Shared) (Q:Value->Shared->Prop) (E:Value->Shared->Prop),tn i s.heap->Q (.ref it) s->wpAny (model P w) A (pyIter (.ref it)) Q E s
abbrev xW(P:Program)(w:World)(K:PySem.W.Frag)(tg:Expr)(J:It)(fp:List Addr)(it:Addr)(tn:Nat->Heap->Prop):Prop:=TurnG (fun X=>X.calm=true) P w K tg J fp it tn
abbrev TI:=St->Hp->(It->Hp->Prop)->Prop
def Ht(X:Cx)(pins:List (Addr×Obj))(σ:St)(tg:Expr)(R:It->Hp->Prop)(itv:Value)(s2:Shared):Prop:=
 ∃(it:Addr) (fp:List Addr) (tn:Nat->Heap->Prop) (J:It) (H':Hp),itv=.ref it/\Inv X pins σ H' s2/\xW X.prog X.w X.K tg J fp it tn/\tn 0 s2.heap/\(∀b∈fp,kQ X pins H' b)/\R J H'
def PI(X:Cx)(tg iter:Expr)(wi:TI):Prop:=
 ∀(pins:List (Addr×Obj)) (s:Shared) (σ:St) (H:Hp) (R:It->Hp->Prop),Inv X pins σ H s->wi σ H R ->
  wpAny (model X.prog X.w) X.A (eval iter X.env) (fun v s1=>wpAny (model X.prog X.w) X.A (pyIter v) (Ht X pins σ tg R) X.xe s1) X.xe s
theorem xc{M:Model}{A:Around}{E:Value->Shared->Prop}{s:Shared}{tg:Expr}{it:Addr}{u:Value}{o:Obj}{n:String}{vs:Array Value}{Q:Unit->Shared->Prop}(ho:s.heap.get? it=some o)(hc:o.cls=.type n)(hd:o.data=.fields vs)
  (hn:["enumerate","zip","dict_itemiterator","dict_reverseitemiterator","odict_iterator","itertools.zip_longest","itertools.pairwise"].contains n=false) (hQ:Q () s):wpAny M A (letOwnedTupleGo tg (.ref it) u) Q E s:=by
 unfold letOwnedTupleGo;cases tg<;>first
  |exact wpAny_pure hQ
  | (cases u<;>first
    |exact wpAny_pure hQ
    | (refine wpAny_bind (wpAny_load ho ?_)
       rw[hc,hd];show wpAny M A (if(["enumerate","zip","dict_itemiterator","dict_reverseitemiterator","odict_iterator","itertools.zip_longest","itertools.pairwise"].contains n&&vs[0]? == some (rawInt _))=true then _ else _) Q E s;rw[if_neg (by intro h;rw[hn,Bool.false_and]at h;cases h)];exact wpAny_pure hQ))
noncomputable def Hw(K:PySem.W.Frag)(a:Addr):It:=
 ⟨fun i H=>∃xs x,SqL K H a xs/\xs[i]? = some x,fun i H x H'=>H'=H/\∀xs,SqL K H a xs->xs[i]? = some x,fun i H=>∃xs,SqL K H a xs/\xs.length<=i⟩
noncomputable def Hv(K:PySem.W.Frag)(a:Addr):It:=
 ⟨fun i H=>∃xs x,SqT K H a xs/\xs[i]? = some x,fun i H x H'=>H'=H/\∀xs,SqT K H a xs->xs[i]? = some x,fun i H=>∃xs,SqT K H a xs/\xs.length<=i⟩
noncomputable def Di(lo:Int)(n:Nat):It:=⟨fun i _=>i<n,fun i H x H'=>H'=H/\x=.int (lo+i),fun i _=>n<=i⟩
theorem ue{P:Program}{w:World}{K:PySem.W.Frag}{tg:Expr}(a it:Addr):xW P w K tg (Hw K a) [it] it (fun i h=>h.IsListIter it a i) where
 mem:=by simp
 obj:=fun i h st b hb=>by
  have e:b=it:=by simpa using hb
  subst e;obtain⟨o,e,c,d⟩:=st;exact⟨o,e,fun v z=>by rw[d]at z;cases z⟩
 keep:=fun i h h' st k=>st.at fun o e=>k it (by simp) o e
 item:=by
  intro X hP hw hK hc i pins s σ H E I hf st hg;subst hP hw hK;obtain⟨xs,x,hq,hx⟩:=hg;obtain⟨its,rv,p,hz⟩:=I.list hq;obtain⟨u,hu,ru⟩:=rv.get hx;obtain⟨f0,f1,f2,f3,f4,f5⟩:=hf it (by simp);refine wpAny_pyNext_list_item st p.isList (x:=u) (by simpa using hu) fun h' st' sb=>?_
  have I1:Inv X pins σ H { s with heap:=h' }:=I.turned (t':=s.toks) (fun b o hb e=>(sb.2 b hb).trans e) f0 f1 f3 f4 f5
  obtain⟨o,e,c,d⟩:=id st';exact⟨u,rfl,xc (s:={ s with heap:=h' }) e c d (by decide) ⟨x,H,I1,ru,⟨rfl,fun ys hy=>by rw[I.list_inj hy hq];exact hx⟩,st',fun b hb=>(hf b hb).1⟩⟩
 done:=by
  intro X hP hw hK hc i pins s σ H E I hf st hg;subst hP hw hK;obtain⟨xs,hq,hx⟩:=hg;obtain⟨its,rv,p,hz⟩:=I.list hq;obtain⟨f0,f1,f2,f3,f4,f5⟩:=hf it (by simp);have hl:=rv.length;exact wpAny_pyNext_list_end (I.ok.hd hc) st p.isList (by simp;lia) fun h' eb=>⟨rfl,I.turned (t':=s.toks) (fun b o hb e=>eb b o hb e) f0 f1 f3 f4 f5⟩
 self:=fun _ _ _ _ _ st h=>wpAny_pyIter_listiter st h
theorem re{P:Program}{w:World}{K:PySem.W.Frag}{tg:Expr}(a it:Addr):xW P w K tg (Hv K a) [it] it (fun i h=>h.IsTupleIter it a i) where
 mem:=by simp
 obj:=fun i h st b hb=>by
  have e:b=it:=by simpa using hb
  subst e;obtain⟨o,e,c,d⟩:=st;exact⟨o,e,fun v z=>by rw[d]at z;cases z⟩
 keep:=fun i h h' st k=>st.at fun o e=>k it (by simp) o e
 item:=by
  intro X hP hw hK hc i pins s σ H E I hf st hg;subst hP hw hK;obtain⟨xs,x,hq,hx⟩:=hg;obtain⟨its,rv,p,hz⟩:=I.tuple hq;obtain⟨u,hu,ru⟩:=rv.get hx;obtain⟨f0,f1,f2,f3,f4,f5⟩:=hf it (by simp);refine wpAny_pyNext_tuple_item st (show s.heap.IsTuple a its.toArray from p) (x:=u) (by simpa using hu) fun h' st' sb=>?_
  have I1:Inv X pins σ H { s with heap:=h' }:=I.turned (t':=s.toks) (fun b o hb e=>(sb.2 b hb).trans e) f0 f1 f3 f4 f5
  obtain⟨o,e,c,d⟩:=id st';exact⟨u,rfl,xc (s:={ s with heap:=h' }) e c d (by decide) ⟨x,H,I1,ru,⟨rfl,fun ys hy=>by rw[I.tuple_inj hy hq];exact hx⟩,st',fun b hb=>(hf b hb).1⟩⟩
 done:=by
  intro X hP hw hK hc i pins s σ H E I hf st hg;subst hP hw hK;obtain⟨xs,hq,hx⟩:=hg;obtain⟨its,rv,p,hz⟩:=I.tuple hq;obtain⟨f0,f1,f2,f3,f4,f5⟩:=hf it (by simp);have hl:=rv.length;exact wpAny_pyNext_tuple_end (I.ok.hd hc) st (show s.heap.IsTuple a its.toArray from p) (by simp;lia) fun h' eb=>⟨rfl,I.turned (t':=s.toks) (fun b o hb e=>eb b o hb e) f0 f1 f3 f4 f5⟩
 self:=fun _ _ _ _ _ st h=>wpAny_pyIter_tupleiter st h
theorem rf{P:Program}{w:World}{K:PySem.W.Frag}{tg:Expr}(it:Addr)(lo:Int)(n:Nat):xW P w K tg (Di lo n) [it] it (fun i h=>IsRangeIter h it (lo+(i:Nat)*1) ((n:Int)-(i:Nat)) 1) where
 mem:=by simp
 obj:=fun i h st b hb=>by
  have e:b=it:=by simpa using hb
  subst e;exact⟨_,st,fun v z=>by
   have z':Data.fields _=Data.cell v:=z;cases z'⟩
 keep:=fun i h h' st k=>k it (by simp) _ st
 item:=by
  intro X hP hw hK hc i pins s σ H E I hf st hg;subst hP hw hK;obtain⟨f0,f1,f2,f3,f4,f5⟩:=hf it (by simp);have W:=Walks.range (prog:=X.prog) (w:=X.w) (I.ok.hd hc) it lo 1 n;refine W.item i s _ _ hg st fun v h' tk hv st' kk=>?_
  obtain⟨t,rfl⟩:=hv;have I1:Inv X pins σ H { s with heap:=h',toks:=tk }:=I.turned (fun b o hb e=>kk b o (by simpa using hb) e) f0 f1 f3 f4 f5
  refine⟨_,rfl,xc (s:={ s with heap:=h',toks:=tk }) (n:="range_iterator") st' rfl rfl (by decide) ⟨.int (lo+i),H,I1,⟨t,?_⟩,⟨rfl,rfl⟩,st',fun b hb=>(hf b hb).1⟩⟩
  rw[Int.mul_one]
 done:=by
  intro X hP hw hK hc i pins s σ H E I hf st hg;subst hP hw hK;obtain⟨f0,f1,f2,f3,f4,f5⟩:=hf it (by simp);exact wpAny_pyNext_range_end (I.ok.hd hc) st (by have:n<=i:=hg;lia) fun h' eb=>⟨rfl,I.turned (t':=s.toks) (fun b o hb e=>eb b o hb e) f0 f1 f3 f4 f5⟩
 self:=fun _ _ _ _ _ st h=>wpAny_pyIter_rangeiter st h
section
variable{X:Cx}{tg:Expr}
def EB(K:PySem.W.Frag)(tl:TE):TI:=fun σ H R=>tl σ H fun x H1=>∃a,x=.ref a/\(∃xs,SqL K H1 a xs)/\R (Hw K a) H1
def Go(K:PySem.W.Frag)(tl:TE):TI:=fun σ H R=>tl σ H fun x H1=>∃a,x=.ref a/\(∃xs,SqT K H1 a xs)/\R (Hv K a) H1
theorem yX{l:Expr}{tl:TE}(hl:PE X l tl):PI X tg l (EB X.K tl):=by
 intro pins s σ H R I h;refine dF (hl pins s σ H _ I h) fun v s1 ⟨x,H1,I1,r1,q1⟩=>?_
 obtain⟨a,e,⟨xs,hq⟩,q⟩:=q1;subst e;cases r1;obtain⟨its,rv,p,hz⟩:=I1.list hq;refine wpAny_pyIter_list p.isList ?_;refine⟨s1.heap.objs.size,[s1.heap.objs.size],_,_,H1,rfl,I1.kept (t':=s1.toks) fun b o e=>Heap.get?_push_of_some _ e,ue a _,⟨_,Heap.get?_push_size _ rfl,rfl,rfl⟩,fun b hb=>?_,q⟩
 have e:b=s1.heap.objs.size:=by simpa using hb
 subst e;exact I1.fpOk (Nat.le_refl _) (I1.hok.fresh (Nat.le_refl _))
theorem BK{l:Expr}{tl:TE}(hl:PE X l tl):PI X tg l (Go X.K tl):=by
 intro pins s σ H R I h;refine dF (hl pins s σ H _ I h) fun v s1 ⟨x,H1,I1,r1,q1⟩=>?_
 obtain⟨a,e,⟨xs,hq⟩,q⟩:=q1;subst e;cases r1;obtain⟨its,rv,p,hz⟩:=I1.tuple hq;refine wpAny_pyIter_tuple (show s1.heap.IsTuple a its.toArray from p) ?_;refine⟨s1.heap.objs.size,[s1.heap.objs.size],_,_,H1,rfl,I1.kept (t':=s1.toks) fun b o e=>Heap.get?_push_of_some _ e,re a _,⟨_,Heap.get?_push_size _ rfl,rfl,rfl⟩,fun b hb=>?_,q⟩
 have e:b=s1.heap.objs.size:=by simpa using hb
 subst e;exact I1.fpOk (Nat.le_refl _) (I1.hok.fresh (Nat.le_refl _))
theorem wf{pins:List (Addr×Obj)}{σ:St}{H:Hp}{s:Shared}{R:It->Hp->Prop}{E:Value->Shared->Prop}{lo hi:Int}{t u v:Tok}{tk:Nat}(I:Inv X pins σ H s)(h1:-(2^62)<=lo)(h2:lo<2^62)(h3:-(2^62)<=hi)(h4:hi<2^62)
  (q:R (Di lo (hi-lo).toNat) H):wpAny (model X.prog X.w) X.A (pyIter (.ref s.heap.objs.size)) (Ht X pins σ tg R) E { s with heap:=s.heap.push { cls:=.type "range",data:=.fields #[.int lo t,.int hi u,.int 1 v] },toks:=tk }:=by
 refine wpAny_pyIter_range (IsRange.new ..) (small_one h1 h2 h3 h4) ?_;have I1:Inv X pins σ H { s with heap:=s.heap.push { cls:=.type "range",data:=.fields #[.int lo t,.int hi u,.int 1 v] },toks:=tk }:=I.kept fun b o e=>Heap.get?_push_of_some _ e
 refine⟨(s.heap.push { cls:=.type "range",data:=.fields #[.int lo t,.int hi u,.int 1 v] }).objs.size,[(s.heap.push { cls:=.type "range",data:=.fields #[.int lo t,.int hi u,.int 1 v] }).objs.size],_,_,H,rfl,
  I1.kept (t':=tk) fun b o e=>Heap.get?_push_of_some _ e,rf _ lo (hi-lo).toNat,?_,fun b hb=>?_,q⟩
 ·have e1:lo+((0:Nat):Int)*1=lo:=by simp
  have e2:(((hi-lo).toNat:Nat):Int)-((0:Nat):Int)=Builtin.Range.rangeSize lo hi 1:=by rw[rangeSize_one];split<;>lia
  show IsRangeIter _ _ (lo+((0:Nat):Int)*1) ((((hi-lo).toNat:Nat):Int)-((0:Nat):Int)) 1;rw[e1,e2];exact Heap.get?_push_size _ rfl
 ·have e:b=(s.heap.push { cls:=.type "range",data:=.fields #[.int lo t,.int hi u,.int 1 v] }).objs.size:=by simpa using hb
  subst e;exact I1.fpOk (Nat.le_refl _) (I1.hok.fresh (Nat.le_refl _))
def EA(ta:TA):TI:=fun σ H R=>ta σ H fun vs H1=>∃j:Int,vs=[.int j] /\ -(2^62)<=j/\j<2^62/\R (Di 0 j.toNat) H1
theorem uw{a:Expr}{ta:TA}{p pos:Pos}(hg:Gl X "range")(hm:X.mg "range" = none)(ha:PA X [a] ta)(hs:starEach [a] X.env=[(false,eval a X.env)]:=by rfl):PI X tg (.Call (.Name "range" p) [a] [] pos) (EA ta):=by
 intro pins s σ H R I h;refine Call_ (oT I hg hm boot_range (PyProof.Rows.callWith_type1 (dF (ha pos pins s σ H _ I h) fun us s1 ⟨vs,H1,I1,r1,q1⟩=>?_) hs rfl))
 obtain⟨j,e,q1,q2,q⟩:=q1;subst e;cases r1 with
 |cons r rr=>
  cases rr;obtain⟨t,rfl⟩:=r;exact call_range_1 (wf I1 (by lia) (by lia) q1 q2 (by simpa using q))
def FO(wi:TI)(g:TG)(tb:TS):TS:=fun D σ H=>wi σ H fun J H1=>∃W:Nat->Nat->St->Hp->Prop,(∃m,W 0 m σ H1)/\∀i m σ H,W i m σ H ->
 (J.stop i H/\D.nx σ H)\/(J.go i H/\∃N:St->Hp->Prop,(∀ σ' H',N σ' H'->∃m',m'<m/\W (i+1) m' σ' H')/\∀x H',J.yld i H x H'->g x σ H' fun σ2 H2=>tb { D with nx:=N,ct:=N,bk:=D.nx } σ2 H2)
noncomputable def oF(fp:List Addr)(h:Heap):List (Addr×Obj):=fp.filterMap fun b=>(h.get? b).map fun o=>(b,o)
theorem gh{fp:List Addr}{h:Heap}{b:Addr}{o:Obj}(hb:b∈fp)(e:h.get? b=some o):(b,o)∈oF fp h:=List.mem_filterMap.mpr ⟨b,hb,by rw[e];rfl⟩
theorem uD{fp:List Addr}{h:Heap}{p:Addr×Obj}(hp:p∈oF fp h):p.1∈fp/\h.get? p.1=some p.2:=by
 obtain⟨b,hb,e⟩:=List.mem_filterMap.mp hp;cases q:h.get? b with
 |none=>rw[q]at e;cases e
 |some o=>
  rw[q]at e;have e':(b,o)=p:=Option.some.inj e;subst e';exact⟨hb,q⟩
theorem Inv.pinned{pins:List (Addr×Obj)}{σ:St}{H:Hp}{s:Shared}{fp:List Addr}(I:Inv X pins σ H s)(hf:∀b∈fp,kQ X pins H b)(ho:∀b∈fp,∃o,s.heap.get? b=some o/\∀v,o.data≠.cell v):Inv X (pins++oF fp s.heap) σ H s:=
 I.pins_of fun p hp=>(List.mem_append.mp hp).elim (fun z=>I.pin p (List.mem_append_right _ z)) fun z=>by
  obtain⟨hb,e⟩:=uD z;obtain⟨f0,f1,f2,_⟩:=hf p.1 hb;obtain⟨o,e',d⟩:=ho p.1 hb;rw[e]at e';cases e';exact⟨e,f0,f1,f2,d⟩
theorem Inv.unpinned{pins pl:List (Addr×Obj)}{σ:St}{H:Hp}{s:Shared}(I:Inv X (pins++pl) σ H s):Inv X pins σ H s:=I.pins_of fun p hp=>I.pin p (List.mem_append_right _ (List.mem_append_left _ hp))
theorem BI{iter:Expr}{body:List Stmt}{wi:TI}{g:TG}{tb:TS}{pos:Pos}(hp:PassesOwn (model X.prog X.w) X.A X.env X.xe)(hc:X.calm=true)(hi:PI X tg iter wi)(hg:PG X tg g)(hb:PSs X body tb)
  (hs:∀x,foldedSetIterable iter X.env x=pure x:=by intro _;rfl):PS X (.For tg iter body [] pos) (FO wi g tb):=by
 intro pins s σ H D I h;refine wpAny_For (dF (hi pins s σ H _ I h) fun v s1 h1=>dF h1 fun itv s2 h2=>?_) hs
 obtain⟨it,fp,tn,J,H2,e,I2,T,st2,f2,W,⟨m0,w0⟩,turn⟩:=h2;subst e;have stat:∀{H':Hp},(∀b∈fp,H' b=none)->∀b∈fp,kQ X pins H' b:=fun hn b hb=>⟨hn b hb,(f2 b hb).2⟩
 refine codeAny_forLoop_any (fun n s'=>∃i σ' H',Inv X pins σ' H' s'/\tn i s'.heap/\(∀b∈fp,H' b=none)/\W i n σ' H') ?_ m0 ⟨0,σ,H2,I2,st2,fun b hb=>(f2 b hb).1,w0⟩
 rintro n s3 ⟨i,σ3,H3,I3,st3,fr3,w3⟩;rcases turn i n σ3 H3 w3 with⟨stop,qn⟩|⟨go,N,hN,step⟩
 ·refine wpAny_passesOwn hp (dF (T.done X rfl rfl rfl hc i pins s3 σ3 H3 X.xe I3 (stat fr3) st3 stop) fun r s4 ⟨hr,I4⟩=>?_)
  subst hr;exact wpAny_execs_nil ⟨σ3,H3,I4,qn⟩
 ·refine wpAny_passesOwn hp (dF (T.item X rfl rfl rfl hc i pins s3 σ3 H3 X.xe I3 (stat fr3) st3 go) fun r s4 ⟨u,hr,h4⟩=>?_)
  subst hr;refine wpAny_passesOwn hp (dF h4 fun _ s5 ⟨x,H5,I5,r5,y5,st5,fr5⟩=>?_);have I5':=I5.pinned (stat fr5) (T.obj _ _ st5);refine wpAny_passesOwn hp (dF (hg _ s5 σ3 H5 x u _ I5' r5 (step x H5 y5)) fun _ s6 ⟨σ6,H6,I6,q6⟩=>?_)
  refine wpAny_passesOwn hp (dF (hb _ s6 σ6 H6 _ I6 q6) fun f s7 q7=>?_)
  have again:∀{σ7:St} {H7:Hp},Inv X (pins++oF fp s5.heap) σ7 H7 s7->N σ7 H7->∃m,m<n/\∃i σ' H',Inv X pins σ' H' s7/\tn i s7.heap/\(∀b∈fp,H' b=none)/\W i m σ' H':=fun{σ7 H7} I7 n7=>by
   obtain⟨m',hm,w7⟩:=hN σ7 H7 n7;refine⟨m',hm,i+1,σ7,H7,I7.unpinned,T.keep _ _ _ st5 fun b hb o e=>(I7.pin (b,o) (List.mem_append_right _ (List.mem_append_right _ (gh hb e)))).1,fun b hb=>?_,w7⟩
   obtain⟨o,e,d⟩:=T.obj _ _ st5 b hb;exact(I7.pin (b,o) (List.mem_append_right _ (List.mem_append_right _ (gh hb e)))).2.1
  cases f with
  |next=>obtain⟨σ7,H7,I7,n7⟩:=q7;exact again I7 n7
  |cont=>obtain⟨σ7,H7,I7,n7⟩:=q7;exact again I7 n7
  |brk=>obtain⟨σ7,H7,I7,q7⟩:=q7;exact⟨σ7,H7,I7.unpinned,q7⟩
  |ret v=>obtain⟨x7,σ7,H7,I7,r7,q7⟩:=q7;exact⟨x7,σ7,H7,I7.unpinned,r7,q7⟩
end
abbrev R2:=V->V->Hp->VK->Prop
def OpR(X:Cx)(f:Value->Value->Sem Value)(r:R2):Prop:=
 ∀(pins:List (Addr×Obj)) (s:Shared) (σ:St) (H:Hp) (x y:V) (v u:Value) (Q:VK),Inv X pins σ H s->RelV x v->RelV y u->r x y H Q ->
  wpAny (model X.prog X.w) X.A (f v u) (EP X pins σ Q) X.xe s
def EZ(X:Cx)(f:Value->Sem Value)(r:V->Hp->VK->Prop):Prop:=
 ∀(pins:List (Addr×Obj)) (s:Shared) (σ:St) (H:Hp) (x:V) (v:Value) (Q:VK),Inv X pins σ H s->RelV x v->r x H Q ->
  wpAny (model X.prog X.w) X.A (f v) (EP X pins σ Q) X.xe s
def CallR(X:Cx)(f:Value)(r:List V->Hp->VK->Prop):Prop:=
 ∀(pins:List (Addr×Obj)) (s:Shared) (σ:St) (H:Hp) (xs:List V) (us:List Value) (Q:VK),Inv X pins σ H s->Vals xs us->r xs H Q ->
  wpAny (model X.prog X.w) X.A (call f us) (EP X pins σ Q) X.xe s
def Du(r:R2)(ta tb:TE):TE:=fun σ H Q=>ta σ H fun x H1=>tb σ H1 fun y H2=>r x y H2 Q
def HC(r:V->Hp->VK->Prop)(ta:TE):TE:=fun σ H Q=>ta σ H fun x H1=>r x H1 Q
def rI(C:Int->Int->Prop)(g:Int->Int->V):R2:=fun x y H Q=>∃i j,x=.int i/\y=.int j/\C i j/\Q (g i j) H
def xZ(g:Int->Int->V):R2:=fun x y H Q=>∃i j,x=.int i/\y=.int j/\Q (g i j) H
def rU(g:Int->V):V->Hp->VK->Prop:=fun x H Q=>∃i,x=.int i/\Q (g i) H
section
variable{X:Cx}{a b c:Expr}{ta tb tc:TE}{pos:Pos}
theorem CQ(ha:PE X a ta)(hb:PE X b tb){pins:List (Addr×Obj)}{s:Shared}{σ:St}{H:Hp}{R:V->V->Hp->Prop}(I:Inv X pins σ H s)
  (h:ta σ H fun x H1=>tb σ H1 fun y H2=>R x y H2) {Q:Value->Shared->Prop} {f:Value->Value->Sem Value}
  (hf:∀v u s2 x y H2,Inv X pins σ H2 s2->RelV x v->RelV y u->R x y H2->wpAny (model X.prog X.w) X.A (f v u) Q X.xe s2) :
  wpAny (model X.prog X.w) X.A (eval a X.env) (fun v s₁=>wpAny (model X.prog X.w) X.A (eval b X.env) (fun u s₂=>wpAny (model X.prog X.w) X.A (f v u) Q X.xe s₂) X.xe s₁) X.xe s:=by
 refine dF (ha pins s σ H _ I h) fun v s1 ⟨x,H1,I1,r1,q1⟩=>?_
 refine dF (hb pins s1 σ H1 _ I1 q1) fun u s2 ⟨y,H2,I2,r2,q2⟩=>?_
 exact hf v u s2 x y H2 I2 r1 r2 q2
theorem DS{op:Operator}{r:R2}(ho:OpR X (binaryOp op) r)(ha:PE X a ta)(hb:PE X b tb):PE X (.BinOp a op b pos) (Du r ta tb):=by
 intro pins s σ H Q I h;exact wpAny_BinOp (CQ ha hb I h fun v u s2 x y H2 I2 rx ry q=>ho pins s2 σ H2 x y v u Q I2 rx ry q)
theorem DR{op:UnaryOp}{r:V->Hp->VK->Prop}(ho:EZ X (unaryOp op) r)(ha:PE X a ta):PE X (.UnaryOp op a pos) (HC r ta):=by
 intro pins s σ H Q I h;exact UnaryOp_ (dF (ha pins s σ H _ I h) fun v s1 ⟨x,H1,I1,r1,q1⟩=>ho pins s1 σ H1 x v Q I1 r1 q1)
theorem DY{f:Value->Value->Sem Value}{C:Int->Int->Prop}{g:Int->Int->Int}
  (rule:∀(i j:Int) (t u:Tok) (s:Shared) (Q:Value->Shared->Prop) (E:Value->Shared->Prop),C i j->Q (.int (g i j) s.toks) { s with toks:=s.toks+1 }->wpAny (model X.prog X.w) X.A (f (.int i t) (.int j u)) Q E s) :
  OpR X f (rI C fun i j=>.int (g i j)):=by
 intro pins s σ H x y v u Q I rx ry h;obtain⟨i,j,rfl,rfl,hc,q⟩:=h;obtain⟨t,rfl⟩:=rx;obtain⟨t',rfl⟩:=ry;exact rule i j t t' s _ _ hc ⟨.int (g i j),H,I.tok _,⟨_,rfl⟩,q⟩
theorem wA{f:Value->Value->Sem Value}{g:Int->Int->Int}
  (rule:∀(i j:Int) (t u:Tok) (s:Shared) (Q:Value->Shared->Prop) (E:Value->Shared->Prop),Q (.int (g i j) s.toks) { s with toks:=s.toks+1 }->wpAny (model X.prog X.w) X.A (f (.int i t) (.int j u)) Q E s) :
  OpR X f (xZ fun i j=>.int (g i j)):=by
 intro pins s σ H x y v u Q I rx ry h;obtain⟨i,j,rfl,rfl,q⟩:=h;obtain⟨t,rfl⟩:=rx;obtain⟨t',rfl⟩:=ry;exact rule i j t t' s _ _ ⟨.int (g i j),H,I.tok _,⟨_,rfl⟩,q⟩
theorem Gb{f:Value->Value->Sem Value}{g:Int->Int->Bool}
  (rule:∀(i j:Int) (t u:Tok) (s:Shared) (Q:Value->Shared->Prop) (E:Value->Shared->Prop),Q (.bool (g i j)) s->wpAny (model X.prog X.w) X.A (f (.int i t) (.int j u)) Q E s) :
  OpR X f (xZ fun i j=>.bl (g i j)):=by
 intro pins s σ H x y v u Q I rx ry h;obtain⟨i,j,rfl,rfl,q⟩:=h;obtain⟨t,rfl⟩:=rx;obtain⟨t',rfl⟩:=ry;exact rule i j t t' s _ _ ⟨.bl (g i j),H,I,rfl,q⟩
def GZ(i j:Int):Prop:=0<j/\j<1073741824
theorem q8(k:Nat):(0:Int)<=2^k:=by
 rw[two_pow_cast];exact Int.natCast_nonneg _
theorem BZ:OpR X (binaryOp .Add) (xZ fun i j=>.int (i+j)):=wA fun _ _ _ _ _ _ _ q=>add_int q
theorem BU:OpR X (binaryOp .Sub) (xZ fun i j=>.int (i-j)):=wA fun _ _ _ _ _ _ _ q=>sub_int q
theorem y9:OpR X (binaryOp .FloorDiv) (rI GZ fun i j=>.int (i/j)):=DY fun i j _ _ _ _ _ hc q=>by
 have h1:(0:Int)<j:=hc.1;have h2:j<1073741824:=hc.2;exact floordiv_int (by lia) (by rw[Int.fdiv_eq_ediv_of_nonneg i (by lia)];exact q) (.inl (PyProof.noPylong_small (by lia)))
theorem BX:OpR X (binaryOp .Mod) (rI (fun _ j=>0<j) fun i j=>.int (i%j)):=DY fun i j _ _ _ _ _ hc q=>by
 have h1:(0:Int)<j:=hc;exact mod_int' (by lia) (by rw[Int.fmod_eq_emod_of_nonneg i (by lia)];exact q)
theorem BW:OpR X (binaryOp .RShift) (rI (fun _ j=>0<=j) fun i j=>.int (i/2^j.toNat)):=DY fun i j _ _ _ _ _ hc q=>
 rshift_int hc (by rw[Int.fdiv_eq_ediv_of_nonneg i (q8 _)];exact q)
theorem BY:OpR X (binaryOp .BitAnd) (xZ fun i j=>.int (Builtin.bitAnd i j)):=wA fun _ _ _ _ _ _ _ q=>and_int q
theorem DV:OpR X (binaryOp .BitOr) (xZ fun i j=>.int (Builtin.bitOr i j)):=wA fun _ _ _ _ _ _ _ q=>or_int q
theorem BT:OpR X (binaryOp .BitXor) (xZ fun i j=>.int (Builtin.bitXor i j)):=wA fun _ _ _ _ _ _ _ q=>xor_int q
theorem Hy{f:Value->Sem Value}{g:Int->Int}
  (rule:∀(i:Int) (t:Tok) (s:Shared) (Q:Value->Shared->Prop) (E:Value->Shared->Prop),Q (.int (g i) s.toks) { s with toks:=s.toks+1 }->wpAny (model X.prog X.w) X.A (f (.int i t)) Q E s) :
  EZ X f (rU fun i=>.int (g i)):=by
 intro pins s σ H x v Q I rx h;obtain⟨i,rfl,q⟩:=h;obtain⟨t,rfl⟩:=rx;exact rule i t s _ _ ⟨.int (g i),H,I.tok _,⟨_,rfl⟩,q⟩
theorem Be:EZ X (unaryOp .USub) (rU fun i=>.int (-i)):=Hy fun _ _ _ _ _ q=>neg_int q
end
section
variable{X:Cx}{a b c:Expr}{ta tb tc:TE}{pos:Pos}
theorem DW:OpR X (compareOp .Lt) (xZ fun i j=>.bl (decide (i<j))):=Gb fun _ _ _ _ _ _ _ q=>lt_int q
theorem aH(b:Expr){op:CmpOp}(h:op≠.In:=by decide)(h2:op≠.NotIn:=by decide):behindInMarks op b=false:=by
 have e1:(op==CmpOp.In)=false:=by cases op<;>first|rfl|exact absurd rfl h
 have e2:(op==CmpOp.NotIn)=false:=by cases op<;>first|rfl|exact absurd rfl h2
 cases b<;>simp[behindInMarks,e1,e2]
theorem yZ{op:CmpOp}{r:R2}(ho:OpR X (compareOp op) r)(ha:PE X a ta)(hb:PE X b tb)(hm:behindInMarks op b=false):PE X (.Compare a [op] [b] pos) (Du r ta tb):=by
 intro pins s σ H Q I h;exact wpAny_Compare1 (CQ ha hb I h fun v u s2 x y H2 I2 rx ry q=>ho pins s2 σ H2 x y v u Q I2 rx ry q) hm
def Ds(t:TE):TT:=fun σ H Q=>t σ H fun x H'=>∃k,x=.bl k/\Q k H'
theorem yQ{op:CmpOp}{r:R2}(ho:OpR X (compareOp op) r)(ha:PE X a ta)(hb:PE X b tb)(hm:behindInMarks op b=false):PT X (.Compare a [op] [b] pos) (Ds (Du r ta tb)):=by
 intro pins s σ H Q I h;refine wpAny_isTrue_Compare1 (dF (ha pins s σ H _ I h) fun v s1 ⟨x,H1,I1,r1,q1⟩=>dF (hb pins s1 σ H1 _ I1 q1) fun u s2 ⟨y,H2,I2,r2,q2⟩=>
  dF (ho pins s2 σ H2 x y v u _ I2 r1 r2 q2) fun c s3 ⟨z,H3,I3,r3,k,e,q3⟩=>?_) hm
 subst e;cases r3;exact wpAny_truthy_bool ⟨H3,I3,q3⟩
theorem rO:(sizeLine:Nat)<2^63:=by rw[sizeLine_eq];decide
theorem rB:OpR X (binaryOp .Add) (fun x y H Q=>∃i j,x=.str i/\y=.str j/\i.length+j.length<=sizeLine/\Q (.str (i++j)) H):=by
 intro pins s σ H x y v u Q I rx ry h;obtain⟨i,j,rfl,rfl,hz,q⟩:=h;obtain⟨t,rfl⟩:=rx;obtain⟨t',rfl⟩:=ry;exact add_str (fun t' tk=>⟨.str (i++j),H,I.tok _,⟨_,rfl⟩,q⟩) hz
theorem lz{x:V}{us:List Value}(r:Vals [x] us):∃u,us=[u]/\RelV x u:=by
 cases r with
 |cons r1 r2=>cases r2;exact⟨_,rfl,r1⟩
theorem Au{x y:V}{us:List Value}(r:Vals [x,y] us):∃u w',us=[u,w']/\RelV x u/\RelV y w':=by
 cases r with
 |cons r1 r2=>
  cases r2 with
  |cons r3 r4=>cases r4;exact⟨_,_,rfl,r1,r3⟩
theorem u9(hc:X.calm=true):CallR X (.builtin "max") (fun xs H Q=>∃i j,xs=[.int i,.int j]/\Q (.int (if j>i then j else i)) H):=by
 intro pins s σ H xs us Q I r h;obtain⟨i,j,rfl,q⟩:=h;obtain⟨u,w',rfl,⟨t,rfl⟩,⟨t',rfl⟩⟩:=Au r;refine max_two_ints (I.ok.hd hc) fun h' tk k=>⟨_,H,I.kept k,?_,q⟩
 by_cases hj:j>i
 ·rw[if_pos hj,if_pos hj];exact⟨_,rfl⟩
 ·rw[if_neg hj,if_neg hj];exact⟨_,rfl⟩
theorem u8(hc:X.calm=true):CallR X (.builtin "min") (fun xs H Q=>∃i j,xs=[.int i,.int j]/\Q (.int (if j<i then j else i)) H):=by
 intro pins s σ H xs us Q I r h;obtain⟨i,j,rfl,q⟩:=h;obtain⟨u,w',rfl,⟨t,rfl⟩,⟨t',rfl⟩⟩:=Au r;refine min_two_ints (I.ok.hd hc) fun h' tk k=>⟨_,H,I.kept k,?_,q⟩
 by_cases hj:j<i
 ·rw[if_pos hj,if_pos hj];exact⟨_,rfl⟩
 ·rw[if_neg hj,if_neg hj];exact⟨_,rfl⟩
theorem va:CallR X (.type "int") (fun xs H Q=>(∃i,xs=[.int i]/\Q (.int i) H)\/∃k,xs=[.bl k]/\Q (.int (if k then 1 else 0)) H):=by
 intro pins s σ H xs us Q I r h;rcases h with⟨i,rfl,q⟩|⟨k,rfl,q⟩
 ·obtain⟨u,rfl,t,rfl⟩:=lz r
  exact call_int_int ⟨.int i,H,I,⟨_,rfl⟩,q⟩
 ·obtain⟨u,rfl,r1⟩:=lz r
  cases r1;exact call_int_bool ⟨.int (if k then 1 else 0),H,I.tok _,⟨_,rfl⟩,q⟩
def GW(K:PySem.W.Frag)(x:V)(H:Hp)(n:Nat):Prop:=
 match x with
 |.str y=>y.length<=sizeLine/\n=y.length
 |.byt y=>y.size<=sizeLine/\n=y.size
 |.ref p=>(∃xs,SqL K H p xs/\n=xs.length)\/∃xs,SqT K H p xs/\n=xs.length
 |_=>False
theorem qI:CallR X (.builtin "len") (fun xs H Q=>∃x n,xs=[x]/\GW X.K x H n/\Q (.int n) H):=by
 intro pins s σ H xs us Q I r h;obtain⟨x,n,rfl,e,q⟩:=h;obtain⟨u,rfl,rx⟩:=lz r;have hl:=rO;have hs:sizeLine=16777216:=sizeLine_eq;cases x with
 |str y=>
  obtain⟨t,rfl⟩:=rx;obtain⟨hy,e'⟩:y.length<=sizeLine/\n=y.length:=e;subst e';exact len_str (by lia) ⟨.int _,H,I.tok _,⟨_,rfl⟩,q⟩
 |byt y=>
  obtain⟨t,rfl⟩:=rx;obtain⟨hy,e'⟩:y.size<=sizeLine/\n=y.size:=e;subst e';exact PySem.W.len_bytes (by lia) ⟨.int _,H,I.tok _,⟨_,rfl⟩,q⟩
 |ref p=>
  cases rx;have e':(∃xs,SqL X.K H p xs/\n=xs.length)\/∃xs,SqT X.K H p xs/\n=xs.length:=e;rcases e' with⟨xs,hx,e'⟩|⟨xs,hx,e'⟩
  ·subst e'
   obtain⟨its,r',pl,hz⟩:=I.list hx;have hlen:=r'.length;exact Calls.call_len_list pl.isList (by simp only[List.size_toArray];lia) ⟨.int xs.length,H,I.tok _,⟨_,by simp only[List.size_toArray];rw[hlen]⟩,q⟩
  ·subst e'
   obtain⟨its,r',pl,hz⟩:=I.tuple hx;have hlen:=r'.length;exact len_tuple pl (by simp only[List.size_toArray];lia) ⟨.int xs.length,H,I.tok _,⟨_,by simp only[List.size_toArray];rw[hlen]⟩,q⟩
 |_=>exact(show False from e).elim
end
structure Room (k:Nat) (A:Around):Prop where
 hd:A.handled=none
 dp:A.depth+3*k+5<recursionLimit
 un:A.units+16*k+200<cLine
theorem Room.mono{j k:Nat}{A:Around}(r:Room k A)(h:j<=k):Room j A:=⟨r.hd,by have:=r.dp;lia,by have:=r.un;lia⟩
theorem Room.deeper{k:Nat}{A:Around}(r:Room (k+1) A)(env:Env):Room k (A.deeper env):=
 ⟨r.hd,by have:=r.dp;show A.depth+1+3*k+5<_;lia,by have:=r.un;show A.units+3+16*k+200<_;lia⟩
theorem Room.depth{k:Nat}{A:Around}(r:Room k A):A.depth<recursionLimit:=by have:=r.dp;lia
theorem Room.units{k:Nat}{A:Around}(r:Room k A):A.units+64<cLine:=by have:=r.un;lia
def FL:TA:=fun _ H Q=>Q [] H
def Dy(ta:TE)(tr:TA):TA:=fun σ H Q=>ta σ H fun x H1=>tr σ H1 fun xs H2=>Q (x::xs) H2
section
variable{X:Cx}{e:Expr}{es:List Expr}{te:TE}{t:TA}{pos:Pos}
theorem lN:PA X [] FL:=fun _ _ _ _ H Q I h=>Calls.spliced_nil ⟨[],H,I,.nil,h⟩
theorem iu(ha:PE X e te)(hr:PA X es t)(hs:starEach (e::es) X.env=(false,eval e X.env)::starEach es X.env:=by rfl):PA X (e::es) (Dy te t):=by
 intro pos pins s σ H Q I h;rw[hs];show wpAny _ _ (spliced ((false,eval e X.env)::backTo pos (starEach es X.env))) _ _ s;refine Calls.spliced_cons (dF (ha pins s σ H _ I h) fun u s1 ⟨x,H1,I1,r1,q1⟩=>?_)
 exact dF (hr pos pins s1 σ H1 _ I1 q1) fun us s2 ⟨xs,H2,I2,r2,q2⟩=>⟨x::xs,H2,I2,.cons r1 r2,q2⟩
def FH(t:TA):TE:=fun σ H Q=>t σ H fun xs H1=>xs.length<=sizeLine/\∀p,H1 p=none->Q (.ref p) (upd H1 p (.tup xs))
def FM(t:TA):TE:=fun σ H Q=>t σ H fun xs H1=>xs.length<=sizeLine/\∀p,H1 p=none->Q (.ref p) (upd H1 p (.lst xs))
theorem BL{x1}(h:PA X es t):PE X (.Tuple es x1 pos) (FH t):=by
 intro pins s σ H Q I hq;refine wpAny_Tuple_spliced (dF (h pos pins s σ H _ I hq) fun us s1 ⟨xs,H1,I1,r,z,q⟩=>⟨by rw[<-r.length];exact z,?_⟩)
 have hf:H1 s1.heap.objs.size=none:=I1.hok.fresh (Nat.le_refl _);refine⟨.ref s1.heap.objs.size,upd H1 s1.heap.objs.size (.tup xs),I1.laid (t':=s1.toks) (fun b u e=>Heap.get?_push_of_some _ e) (Nat.le_refl _) ?_,rfl,q _ hf⟩;exact⟨z,us,r,⟨_,Heap.get?_push_size _ rfl,rfl,_,rfl⟩,NoDi.new _ _⟩
theorem ww(h:PA X es t):PE X (.List es pos) (FM t):=by
 intro pins s σ H Q I hq;refine wpAny_List_spliced (dF (h pos pins s σ H _ I hq) fun us s1 ⟨xs,H1,I1,r,z,q⟩=>⟨by rw[<-r.length];exact z,?_⟩)
 have hf:H1 s1.heap.objs.size=none:=I1.hok.fresh (Nat.le_refl _);refine⟨.ref s1.heap.objs.size,upd H1 s1.heap.objs.size (.lst xs),I1.laid (t':=s1.toks) (fun b u e=>Heap.get?_push_of_some _ e) (Nat.le_refl _) ?_,rfl,q _ hf⟩;exact⟨z,us,0,r,Heap.get?_push_size _ rfl⟩
end
abbrev Sp:=List V->Hp->VK->XK->Prop
abbrev t9:=List Env->Hp->Shared->XK->Value->Shared->Prop
structure Env0 (P:Program) (w:World) (K:PySem.W.Frag) (mg:Str->Option Value) (base:Heap) (A:Around) (outer:List Env) (s:Shared) (H:Hp):Prop where
 frames:A.frames=some outer
 mod:Mod K mg base
 bs:∀b o,base.get? b=some o->s.heap.get? b=some o/\H b=none
 bsz:base.objs.size<=s.heap.objs.size
 funs:s.heap.FunFrames base outer
 frf:∀b∈vq outer,H b=none
 hok:HOk P w H s.heap
 bare:AllBare s.gens
 tb:As K H
def CE(outer:List Env)(P:Program)(w:World)(H:Hp)(s:Shared)(Q:VK)(u:Value)(s':Shared):Prop:=
 ∃v H',s'.os=s.os/\AllBare s'.gens/\Un (vq outer) [] H H' s.heap s'.heap/\HOk P w H' s'.heap/\RelV v u/\Q v H'
def CR(CX:t9)(outer:List Env)(P:Program)(w:World)(H:Hp)(s:Shared)(Q:VK)(E:XK)(r:Result)(s':Shared):Prop:=
 match r with
 |.ok (.ret u)=>CE outer P w H s Q u s'
 |.ok _=>False
 |.error e=>CX outer H s E e s'
structure FnOk (P:Program) (w:World) (K:PySem.W.Frag) (mg:Str->Option Value) (base:Heap) (CX:t9) (k:Nat) (f:Addr) (fd:FuncData) (ps:List Str) (sp:Sp):Prop where
 len:∀vs H Q E,sp vs H Q E->vs.length=ps.length
 run:∀(A:Around) (outer:List Env) (s:Shared) (H:Hp) (args:Args) (us:List Value) (vs:List V) (Q:VK) (E:XK),Room k A->Env0 P w K mg base A outer s H->BindsTo s fd args (ps.zip us)->Vals vs us->sp vs H Q E ->
  codeAny (model P w) A (.call (.ref f) args) (CR CX outer P w H s Q E) s
theorem FnOk.imp{P:Program}{w:World}{K:PySem.W.Frag}{mg:Str->Option Value}{base:Heap}{CX:t9}{k:Nat}{f:Addr}{fd:FuncData}{ps:List Str}{sp sp':Sp}(F:FnOk P w K mg base CX k f fd ps sp)
  (h:∀vs H Q E,sp' vs H Q E->sp vs H Q E):FnOk P w K mg base CX k f fd ps sp':=
 ⟨fun vs H Q E q=>F.len vs H Q E (h _ _ _ _ q),fun A outer s H args us vs Q E hr he hb hv hs=>F.run A outer s H args us vs Q E hr he hb hv (h _ _ _ _ hs)⟩
section
variable{X:Cx}{pins:List (Addr×Obj)}{σ:St}{H:Hp}{s s':Shared}
theorem Inv.env0(I:Inv X pins σ H s):Env0 X.prog X.w X.K X.mg X.base X.A X.stack s H:=
 ⟨I.ok.frames,I.ok.mod,I.bs,Nat.le_trans I.ok.bsz I.sz,I.stack,I.stkFree,I.hok,I.bare,I.tb⟩
theorem Inv.after{Q:VK}{u:Value}(I:Inv X pins σ H s)(h:CE X.stack X.prog X.w H s Q u s'):EP X pins σ Q u s':=by
 obtain⟨v,H',os,bare,un,hok,r,q⟩:=h;obtain⟨hh,g,d,t,os'⟩:=s';obtain rfl:os'=s.os:=os;exact⟨v,H',I.call (h':=hh) (g':=g) (d':=d) (t':=t) (ch:=[]) un hok bare (fun b z=>absurd z (by simp)),r,q⟩
end
def Dz(sp:Sp)(dvs:List V)(E:XK)(t:TA):TE:=fun σ H Q=>t σ H fun vs H1=>sp (vs++dvs) H1 Q E
def Binds(K:PySem.W.Frag)(fd:FuncData)(ps:List Str)(ds:List Value):Prop:=
 ∀(s:Shared) (us:List Value),K.In s.heap->(us++ds).length=ps.length->BindsTo s fd ⟨us,[]⟩ (ps.zip (us++ds))
theorem Binds.all{K:PySem.W.Frag}{fd:FuncData}{ps:List Str}(h:∀us:List Value,us.length=ps.length->bindArgs fd ⟨us,[]⟩=pure (ps.zip us)):Binds K fd ps []:=fun s us _ hl=>by
 rw[List.append_nil]at hl ⊢;exact .of_eq (h us hl)
def pk(CX:t9)(X:Cx)(E:XK):Prop:=∀(pins:List (Addr×Obj)) (σ:St) (H:Hp) (s:Shared) (e:Value) (s':Shared),Inv X pins σ H s->CX X.stack H s E e s'->X.xe e s'
section
variable{X:Cx}{CX:t9}{k:Nat}{f C:Addr}{fd:FuncData}{ps:List Str}{sp:Sp}{dvs:List V}{ds:List Value}{E:XK}{x m:Str}{p pos apos:Pos}{e o:Expr}{es:List Expr}{ta:TE}{t:TA}
theorem v7{pins:List (Addr×Obj)}{σ:St}{H:Hp}{s:Shared}{Q:VK}{us:List Value}{vs:List V}(F:FnOk X.prog X.w X.K X.mg X.base CX k f fd ps sp)(hr:Room k X.A)(hb:Binds X.K fd ps ds)(hd:Vals dvs ds)(hx:pk CX X E)
  (I:Inv X pins σ H s) (r:Vals vs us) (h:sp (vs++dvs) H Q E):wpAny (model X.prog X.w) X.A (call (.ref f) us) (EP X pins σ Q) X.xe s:=by
 have r2:Vals (vs++dvs) (us++ds):=r.append hd;have hl:(us++ds).length=ps.length:=by rw[<-r2.length];exact F.len _ _ _ _ h
 refine wpAny_call (codeAny_mono (F.run X.A X.stack s H ⟨us,[]⟩ (us++ds) (vs++dvs) Q E hr I.env0 (hb s us I.kIn hl) r2 h) fun r s' hq=>?_)
 cases r with
 |error e=>exact hx pins σ H s e s' I hq
 |ok fl=>
  cases fl with
  |ret u=>exact I.after hq
  |next=>exact False.elim hq
  |brk=>exact False.elim hq
  |cont=>exact False.elim hq
theorem y0(F:FnOk X.prog X.w X.K X.mg X.base CX k f fd ps sp)(hr:Room k X.A)(hg:Gl X x)(hm:X.mg x=some (.ref f))(hk:PySem.W.keepIn X.K (.ref f)=true)(hb:Binds X.K fd ps ds)(hd:Vals dvs ds)(hx:pk CX X E)
  (ha:PA X (e::es) t) (hdb:(x==("__debug__":Str))=false:=by decide) (he:starEach (e::es) X.env=(false,eval e X.env)::starEach es X.env:=by rfl) (hpl:(backTo pos (starEach es X.env)).any (·.1)=false:=by rfl) :
  PE X (.Call (.Name x p) (e::es) [] pos) (Dz sp dvs E t):=by
 intro pins s σ H Q I h;refine wpAny_Call_Name_kw (tz I hg hm ?_ hdb);refine PySem.W.callWith_K (h₀:=X.base) I.ok.mod.kin hk (dF (ha pos pins s σ H _ I h) fun us s1 ⟨vs,H1,I1,r,q⟩=>⟨I1.kIn,?_⟩) he hpl
 exact v7 F hr hb hd hx I1 r q
end
structure FnScope (N P:List Str) (sc:Scope):Prop where
 kind:sc.kind=.function
 co:sc.isCoroutine=false
 gen:sc.isGenerator=false
 nd:N.Nodup
 pre:N.take P.length=P
 par:∀x∈P,sc.names.lookup x=some .local\/sc.names.lookup x=some .cell
 nofree:∀y∈sc.names,y.2≠.free
theorem nW{kindOf:Str->Option NameKind}{x:Str}:∀{binds:List (Str×Value)} {m:Str->Option Value},(∀v,(x,v) ∉ binds)->bindL kindOf binds m x=m x
 |[],_,_=>rfl
 | (n,v)::r,m,h=>by
  unfold bindL;rw[nW fun w hw=>h w (List.mem_cons_of_mem _ hw)]
  split
  ·have:x≠n:=by rintro rfl;exact h v List.mem_cons_self
   simp[this]
  ·rfl
theorem nY{kindOf:Str->Option NameKind}{x:Str}:∀{binds:List (Str×Value)} {m:Str->Option Value},(∀v,(x,v) ∉ binds)->bindC kindOf binds m x=m x
 |[],_,_=>rfl
 | (n,v)::r,m,h=>by
  unfold bindC;rw[nY fun w hw=>h w (List.mem_cons_of_mem _ hw)]
  split
  ·rfl
  ·have:x≠n:=by rintro rfl;exact h v List.mem_cons_self
   simp[this]
theorem nX{kindOf:Str->Option NameKind}{x:Str}{v:Value}:∀{P:List Str} {vs:List Value} {i:Nat} {m:Str->Option Value},P.Nodup->P[i]? = some x->vs[i]? = some v->kindOf x=some .local ->
  bindL kindOf (P.zip vs) m x=some v
 |[],_,_,_,_,h,_,_=>by simp at h
 |_::_,[],_,_,_,_,h,_=>by simp at h
 |p::P,w::vs,0,m,nd,h1,h2,hk=>by
  simp at h1 h2;subst h1;subst h2;show bindL kindOf ((p,w)::P.zip vs) m p=_;unfold bindL;rw[nW fun v hv=>(List.nodup_cons.mp nd).1 (List.of_mem_zip hv).1,if_pos hk]
  simp
 |p::P,w::vs,i+1,m,nd,h1,h2,hk=>by
  show bindL kindOf ((p,w)::P.zip vs) m x=_;unfold bindL;exact nX (i:=i) (List.nodup_cons.mp nd).2 (by simpa using h1) (by simpa using h2) hk
theorem nZ{kindOf:Str->Option NameKind}{x:Str}{v:Value}:∀{P:List Str} {vs:List Value} {i:Nat} {m:Str->Option Value},P.Nodup->P[i]? = some x->vs[i]? = some v->kindOf x≠some .local ->
  bindC kindOf (P.zip vs) m x=some v
 |[],_,_,_,_,h,_,_=>by simp at h
 |_::_,[],_,_,_,_,h,_=>by simp at h
 |p::P,w::vs,0,m,nd,h1,h2,hk=>by
  simp at h1 h2;subst h1;subst h2;show bindC kindOf ((p,w)::P.zip vs) m p=_;unfold bindC;rw[nY fun v hv=>(List.nodup_cons.mp nd).1 (List.of_mem_zip hv).1,if_neg hk]
  simp
 |p::P,w::vs,i+1,m,nd,h1,h2,hk=>by
  show bindC kindOf ((p,w)::P.zip vs) m x=_;unfold bindC;exact nZ (i:=i) (List.nodup_cons.mp nd).2 (by simpa using h1) (by simpa using h2) hk
noncomputable def gA(N:List Str)(vs:List V):St:=vs.map some++List.replicate (N.length-vs.length) none
noncomputable def mW(CX:t9)(P:Program)(w:World)(K:PySem.W.Frag)(mg:Str->Option Value)(base:Heap)(N:List Str)(qual:Str)(scope:Scope)(f:Addr)(cd:Value)(A:Around)(outer:List Env)(s:Shared)(H:Hp)(E:XK):Cx where
 prog:=P
 w:=w
 K:=K
 mg:=mg
 base:=base
 A:=A.deeper (envOfC qual scope s.heap.objs.size f cd)
 N:=N
 s₀:=s
 H₀:=H
 env:=envOfC qual scope s.heap.objs.size f cd
 outer:=outer
 stack:=envOfC qual scope s.heap.objs.size f cd::outer
 ex:=[]
 calm:=true
 fn:=fun _=>true
 cz:=fun _=>false
 pn:=[]
 xe:=fun e s'=>wpAny (model P w) (A.deeper (envOfC qual scope s.heap.objs.size f cd)) (leaving (envOfC qual scope s.heap.objs.size f cd) e) (fun _ s''=>CX outer H s E e s'') (fun e' s''=>CX outer H s E e' s'') s'
theorem qG{sc:Scope}{n:Nat}{x:Str}(h:sc.names.lookup x=some .cell):∃c,(cellsFrom n sc.names []).lookup x=some c:=by
 have q:=PySem.W.cellsFrom_some sc.names n [] (.inl h);exact Option.isSome_iff_exists.mp q
theorem nI{CX:t9}{P:Program}{w:World}{K:PySem.W.Frag}{mg:Str->Option Value}{base:Heap}{N ps:List Str}{qual:Str}{scope:Scope}{f:Addr}{cd:Value}{A:Around}{outer:List Env}{s s1:Shared}{H:Hp}{E:XK}{us:List Value}{vs:List V}
  (S:FnScope N ps scope) (hd:A.handled=none) (e0:Env0 P w K mg base A outer s H) (hl:vs.length=ps.length) (r:Vals vs us)
  (x:InCallC s s.heap.objs.size (bindL (envOfC qual scope s.heap.objs.size f cd).kindOf (ps.zip us) fun _=>none) (cellsFrom (s.heap.objs.size+1) scope.names []) (bindC (envOfC qual scope s.heap.objs.size f cd).kindOf (ps.zip us) fun _=>none) s1) :
  Inv (mW CX P w K mg base N qual scope f cd A outer s H E) [] (gA N vs) H s1:=by
 have hpl:ps.length<=N.length:=by have:=congrArg List.length S.pre;rw[List.length_take]at this;lia
 obtain⟨h1,tk,rfl,hk⟩:=x.done;have noA:∀b:Addr,b ∉ (mW CX P w K mg base N qual scope f cd A outer s H E).ex:=fun b z=>absurd (show b∈([]:List Addr)from z) (by simp)
 refine⟨⟨e0.mod,S.kind,rfl,rfl,Nat.le_refl _,fun y z c h1 h2=>?_,fun y hy=>?_,fun y c _ h=>?_,fun _=>hd,Around.frames_deeper e0.frames,.inr ⟨rfl,rfl⟩,fun b z=>absurd z (noA b),e0.bs,e0.bsz,fun b _ _=>noA b,fun b z=>absurd z (noA b),e0.funs,e0.frf,e0.tb⟩,
  rfl,e0.bare,Un.kept hk,⟨_,x.toInCall.ns,fun i y v h1 h2 h3=>?_⟩,fun y c h=>⟨_,x.cell y c h⟩,e0.hok.fresh (Nat.le_refl _),fun y c h=>?_,fun p hp=>absurd (show p∈([]:List (Addr×Obj))from hp) (by simp),e0.hok.kept hk,?_⟩
 ·exact name_of_addr x.apart (PySem.mem_of_lookup h1) (PySem.mem_of_lookup h2)
 ·have hy:scope.names.lookup y=some .cell\/scope.names.lookup y=some .free:=hy
  rcases hy with hy|hy
  ·exact qG hy
  ·exact absurd rfl (S.nofree _ (PySem.mem_of_lookup hy))
 ·exact Nat.le_of_lt (x.above y c (PySem.mem_of_lookup h))
 ·have hi:i<vs.length:=by
   unfold gA at h2;by_cases hi:i<vs.length
   ·exact hi
   ·rw[List.getElem?_append_right (by simpa using hi)]at h2
    rw[List.getElem?_replicate]at h2;split at h2<;>cases h2
  have ha:vs[i]? = some v:=by
   unfold gA at h2;rw[List.getElem?_append_left (by simpa using hi),List.getElem?_map]at h2;cases e:vs[i]? with
   |none=>rw[e]at h2;cases h2
   |some a=>rw[e]at h2;cases h2;rfl
  obtain⟨u,hu,rv⟩:=r.get ha;have hp:ps[i]? = some y:=by
   rw[<-S.pre,List.getElem?_take_of_lt (by lia)];exact h1
  have ndP:ps.Nodup:=by rw[<-S.pre];exact S.nd.sublist (List.take_sublist _ _)
  refine⟨u,rv,?_⟩;rcases S.par y (List.mem_of_getElem? hp)with k|k
  ·exact .inl ⟨k,nX ndP hp hu k⟩
  ·obtain⟨c,e⟩:=qG (n:=s.heap.objs.size+1) k
   refine .inr ⟨.inl k,c,e,?_⟩;have q:=x.cell y c e;rw[nZ ndP hp hu (by show scope.names.lookup y≠_;rw[k];decide)]at q;exact q
 ·exact .inl (e0.hok.fresh (Nat.le_of_lt (x.above y c (PySem.mem_of_lookup h))))
 ·unfold gA
  show _=N.length;rw[List.length_append,List.length_map,List.length_replicate]
  lia
theorem ED{CX:t9}{P:Program}{w:World}{K:PySem.W.Frag}{mg:Str->Option Value}{base:Heap}{k:Nat}{f:Addr}{name qual:Str}{params:Arguments}{body:List Stmt}{scope:Scope}{dV kV doc pm cdv ct oc:Value}{an od:Option Addr}
  {osl:Array (Option Value)} {N ps:List Str} {sp:Sp} (lk:K.lookup f=some ⟨oc,od,.func (PySem.W.fnOf name qual params body scope dV kV doc pm an cdv ct),osl⟩) (hcd:PySem.W.codeIn K cdv qual=true) (S:FnScope N ps scope)
  (len:∀vs H Q E,sp vs H Q E->vs.length=ps.length)
  (hbody:∀(A:Around) (outer:List Env) (s:Shared) (H:Hp) (vs:List V) (Q:VK) (E:XK),Room k (A.deeper (envOfC qual scope s.heap.objs.size f cdv))->sp vs H Q E ->
   ∃t,PSs (mW CX P w K mg base N qual scope f cdv A outer s H E) body t/\t { nx:=fun _ H'=>Q .non H',rt:=Q } (gA N vs) H) :
  FnOk P w K mg base CX (k+1) f (PySem.W.fnOf name qual params body scope dV kV doc pm an cdv ct) ps sp:=by
 refine⟨len,fun A outer s H args us vs Q E hr e0 hb r hsp=>?_⟩
 have hl:=len _ _ _ _ hsp;have KX:K.In s.heap:=e0.mod.kin.keeps fun b o e=>(e0.bs b o e).1
 have lim:s.heap.NoLimit:=e0.mod.nolimit.keeps fun b o e=>(e0.bs b o e).1
 have hkind:∀y∈ps.zip us,scope.names.lookup y.1=some .local\/(scope.names.lookup y.1=some .cell/\((cellsFrom (s.heap.objs.size+1) scope.names []).lookup y.1).isSome=true):=fun⟨n,v⟩ hy=>by
  rcases S.par n (List.of_mem_zip hy).1 with q|q
  ·exact .inl q
  ·exact .inr ⟨q,PySem.W.cellsFrom_some _ _ _ (.inl q)⟩
 refine codeAny_call_function hr.depth (KX _ _ lk) rfl S.co S.gen rfl (PySem.W.codeRec_of KX hcd) (hb _ _ _ _ ?_);refine wpAny_newFunctionEnv_cells S.kind hkind fun env he s1 x=>?_
 subst he;refine⟨lim.keeps x.toInCall.keep,codeAny_func ?_⟩;obtain⟨t,ht,hq⟩:=hbody A outer s H vs Q E (hr.deeper _) hsp;have I:Inv (mW CX P w K mg base N qual scope f cdv A outer s H E) [] (gA N vs) H s1:=nI S hr.hd e0 hl r x;refine wpAny_mono (ht [] s1 (gA N vs) H _ I hq) (fun fl s' hs=>?_) fun e s' hs=>hs
 have fin:∀{σ':St} {H':Hp} {v:V} {u:Value},Inv (mW CX P w K mg base N qual scope f cdv A outer s H E) [] σ' H' s'->RelV v u->Q v H'->CE outer P w H s Q u s':=
  fun{σ' H' v u} J rv q=>⟨v,H',J.os,J.bare,J.base,J.hok,rv,q⟩
 cases fl with
 |ret u=>
  obtain⟨v,σ',H',J,rv,q⟩:=hs;exact fin J rv q
 |next=>
  obtain⟨σ',H',J,q⟩:=hs;exact fin (v:=V.non) (u:=Value.none) J rfl q
 |brk=>
  obtain⟨_,_,_,q⟩:=hs;exact False.elim q
 |cont=>
  obtain⟨_,_,_,q⟩:=hs;exact False.elim q
section
variable{X:Cx}{x:Str}{p pos:Pos}{e:Expr}{es:List Expr}{t:TA}{id T:String}{r:List V->Hp->VK->Prop}
def Hb(r:List V->Hp->VK->Prop)(t:TA):TE:=fun σ H Q=>t σ H fun vs H1=>r vs H1 Q
theorem pQ(hc:CallR X (.builtin id) r)(hg:Gl X x)(hm:X.mg x=none)(hv:bootBuiltins x=some (.builtin id))(ha:PA X (e::es) t)(hn:x ≠ "__name__":=by decide)(hdb:(x==("__debug__":Str))=false:=by decide)
  (he:starEach (e::es) X.env=(false,eval e X.env)::starEach es X.env:=by rfl) (hpl:(backTo pos (starEach es X.env)).any (·.1)=false:=by rfl):PE X (.Call (.Name x p) (e::es) [] pos) (Hb r t):=by
 intro pins s σ H Q I h;refine wpAny_Call_Name_kw (oT I hg hm hv ?_ hn hdb);exact PyProof.Rows.callWith_builtin1 (dF (ha pos pins s σ H _ I h) fun us s1 ⟨vs,H1,I1,r1,q1⟩=>hc pins s1 σ H1 vs us Q I1 r1 q1) he hpl
theorem ux(hc:CallR X (.type T) r)(hg:Gl X x)(hm:X.mg x=none)(hv:bootBuiltins x=some (.type T))(ha:PA X (e::es) t)(hn:x ≠ "__name__":=by decide)(hdb:(x==("__debug__":Str))=false:=by decide)
  (he:starEach (e::es) X.env=(false,eval e X.env)::starEach es X.env:=by rfl) (hpl:(backTo pos (starEach es X.env)).any (·.1)=false:=by rfl):PE X (.Call (.Name x p) (e::es) [] pos) (Hb r t):=by
 intro pins s σ H Q I h;refine wpAny_Call_Name_kw (oT I hg hm hv ?_ hn hdb);exact PyProof.Rows.callWith_type1 (dF (ha pos pins s σ H _ I h) fun us s1 ⟨vs,H1,I1,r1,q1⟩=>hc pins s1 σ H1 vs us Q I1 r1 q1) he hpl
end
end L2
namespace HT
open PySem PyProof.Rows
section
variable{prog:Program}{w:World}{A:Around}{E:Value->Shared->Prop}{s:Shared}
theorem z8{t b:Addr}{vs ws:List Value}{Q:Value->Shared->Prop}(ht:IsTup s.heap t vs.toArray)(hb:IsTup s.heap b ws.toArray)(hv:vs≠[])
  (h1:ws=[]->Q (.ref t) s) (h2:ws≠[]->Q (.ref s.heap.objs.size) { s with heap:=s.heap.push { cls:=.type "tuple",data:=.seq (vs++ws).toArray } })
  (hsz:vs.length+ws.length<=sizeLine):wpAny (model prog w) A (binaryOp .Add (.ref t) (.ref b)) Q E s:=by
 obtain⟨⟨cls,dd,data,sl⟩,ho,hc,n,hd⟩:=id ht;obtain⟨⟨cls2,dd2,data2,sl2⟩,ho2,hc2,n2,hd2⟩:=id hb;simp only at hc hd hc2 hd2;subst hc hd hc2 hd2;have e:vs.toArray++ws.toArray=(vs++ws).toArray:=by simp
 by_cases hw:ws=[]
 ·exact concat_meets ⟨_,ho,rfl⟩ ⟨_,ho2,rfl⟩ noFill_tuple_add seq_tuple_add PySem.F.slot_tuple_add PySem.F.entry_tuple_add (PySem.F.args_tuple_add_2 _ _)
   (tuple_addW1 t b vs.toArray ws.toArray n n2 dd dd2 sl sl2 (by simpa using hv) (by simp[hw])) ⟨ho,ho2,h1 hw⟩
 ·refine concat_meets ⟨_,ho,rfl⟩ ⟨_,ho2,rfl⟩ noFill_tuple_add seq_tuple_add PySem.F.slot_tuple_add PySem.F.entry_tuple_add (PySem.F.args_tuple_add_2 _ _)
   (tuple_addW2 t b vs.toArray ws.toArray n n2 dd dd2 sl sl2 (by simpa using hv) (by simpa using hw) (by rw[List.size_toArray,List.size_toArray];exact hsz)) ⟨ho,ho2,?_⟩
  rw[e];exact h2 hw
noncomputable def sIx(n d:Nat):Option Int->Nat
 |none=>d
 |some v=>if v<0 then(v+(n:Int)).toNat else min v.toNat n
theorem Bt(n d:Nat)(hd:d<=n)(o:Option Int):sIx n d o<=n:=by
 cases o with
 |none=>exact hd
 |some v=>
  show(if v<0 then(v+(n:Int)).toNat else min v.toNat n)<=n;by_cases hv:v<0
  ·rw[if_pos hv];lia
  ·rw[if_neg hv];exact Nat.min_le_right _ _
theorem tR(v:Int)(n d:Nat):(if v<0 then max (v+(n:Int)) 0 else min v (n:Int))=((sIx n d (some v):Nat):Int):=by
 show(if v<0 then max (v+(n:Int)) 0 else min v (n:Int))=(((if v<0 then(v+(n:Int)).toNat else min v.toNat n):Nat):Int);by_cases hv:v<0
 ·simp only[if_pos hv];lia
 ·simp only[if_neg hv];lia
theorem sy(lo hi:Option Int)(n:Nat):Builtin.Slice.sliceAdjust lo hi 1 (n:Int)=(((sIx n 0 lo:Nat):Int),((sIx n n hi:Nat):Int)):=by
 have h1:¬((1:Int)<0):=by lia
 unfold Builtin.Slice.sliceAdjust;simp only[h1,if_false];refine Prod.ext ?_ ?_
 ·cases lo with
  |none=>rfl
  |some v=>exact tR v n 0
 ·cases hi with
  |none=>rfl
  |some v=>exact tR v n n
theorem rq(i j:Nat):Builtin.Slice.slicePlaces (i:Int) (j:Int) 1=j-i:=by
 unfold Builtin.Slice.slicePlaces;have h1:(1:Int)>0:=by lia
 simp only[h1,if_true,Int.ediv_one];split<;>lia
theorem lG{v:Value}{o:Option Int}{Q:Option Int->Shared->Prop}(p:IsPart v o)(h:Q o s):wpAny (model prog w) A (Builtin.Slice.slicePartIndex v) Q E s:=by
 cases p with
 |none=>exact slicePart_none h
 |int i t=>exact slicePart_int h
theorem fH{sl:Addr}{vl vu:Value}{lo hi:Option Int}{n:Nat}{Q:Int×Int×Nat->Shared->Prop}(hs:s.heap.IsSliceOf sl vl vu .none)(pl:IsPart vl lo)(pu:IsPart vu hi)
  (h:Q (((sIx n 0 lo:Nat):Int),1,sIx n n hi-sIx n 0 lo) s):wpAny (model prog w) A (Builtin.Slice.sliceApplied (.ref sl) (pure (n:Int))) Q E s:=by
 obtain⟨os,hos,hcs,hds⟩:=id hs;unfold Builtin.Slice.sliceApplied Builtin.Slice.sliceFields;refine wpAny_bind (wpAny_bind (wpAny_field hos hds (x:=vl) rfl (wpAny_bind (wpAny_field hos hds (x:=vu) rfl (wpAny_bind (wpAny_field hos hds (x:=.none) rfl (wpAny_pure ?_)))))));refine wpAny_bind (slicePart_none ?_);show wpAny _ _ (if((1:Int)==0)=true then _ else _) _ _ s;rw[if_neg (by decide)];refine wpAny_bind (lG pl (wpAny_bind (lG pu (wpAny_bind (wpAny_pure ?_)))));show wpAny _ _ (match Builtin.Slice.sliceAdjust lo hi 1 (n:Int)with|(lo,hi)=>pure (lo,(1:Int),Builtin.Slice.slicePlaces lo hi 1)) _ _ s
 rw[sy lo hi n];show wpAny _ _ (pure (((sIx n 0 lo:Nat):Int),(1:Int),Builtin.Slice.slicePlaces ((sIx n 0 lo:Nat):Int) ((sIx n n hi:Nat):Int) 1)) _ _ s;rw[rq];exact wpAny_pure h
theorem wu(xs:Array Value)(i k:Nat):((List.range k).filterMap fun(m:Nat)=>xs[((i:Int)+(m:Int)*1).toNat]?).toArray=((xs.toList.drop i).take k).toArray:=by
 have e:(fun(m:Nat)=>xs[((i:Int)+(m:Int)*1).toNat]?)=fun m=>xs[i+m]?:=by
  funext m;have:((i:Int)+(m:Int)*1).toNat=i+m:=by lia
  rw[this]
 rw[e];have:=pick_run xs i k;rw[List.filterMap_map]at this;have e2:((fun x=>xs[x]?) ∘ fun x=>i+x)=fun m=>xs[i+m]?:=rfl
 rw[e2]at this;rw[this]
theorem jo{t sl:Addr}{items:Array Value}{vl vu:Value}{lo hi:Option Int}{Q:Value->Shared->Prop}(ht:IsTup s.heap t items)(hs:s.heap.IsSliceOf sl vl vu .none)(pl:IsPart vl lo)(pu:IsPart vu hi)
  (hw:¬(sIx items.size 0 lo=0/\sIx items.size items.size hi=items.size))
  (h:Q (.ref s.heap.objs.size) { s with heap:=s.heap.push { cls:=.type "tuple",data:=.seq ((items.toList.drop (sIx items.size 0 lo)).take (sIx items.size items.size hi-sIx items.size 0 lo)).toArray } })
  (hsz:items.size<=sizeLine):wpAny (model prog w) A (getItem (.ref t) (.ref sl)) Q E s:=by
 have htake:sizeOk (.seq ((items.toList.drop (sIx items.size 0 lo)).take (sIx items.size items.size hi-sIx items.size 0 lo)).toArray):=by
  show((items.toList.drop (sIx items.size 0 lo)).take (sIx items.size items.size hi-sIx items.size 0 lo)).toArray.size<=sizeLine;rw[List.size_toArray,List.length_take,List.length_drop,Array.length_toList]
  lia
 have hj:sIx items.size items.size hi<=items.size:=Bt _ _ (Nat.le_refl _) hi;obtain⟨os,hos,hcs,hds⟩:=id hs;have hTs:s.TypeIs (.ref sl) "slice":=⟨os,hos,hcs⟩;unfold getItem
 try with_reducible refine wpAny_holding ?_
 first|refine wpAny_bind (wpAny_pure ?_)|skip
 refine wpAny_bind (wpAny_sequenceKey ht.typeIs (by decide) ?_);refine wpAny_bind (wpAny_callSpecial?_slot (name:=Str.ofString "__getitem__") ht.typeIs PyProof.Rows.slot_tuple_getitem
  (wpAny_call_entry PyProof.Rows.slot_tuple_getitem ht.typeIs entry_tuple_getitem ?_ (args_tuple_getitem _ _)))
 show wpAny _ _ (Builtin.Tuple.tupleItemsOf (.ref t) >>= _) _ _ s;refine wpAny_bind (tupleItemsOf_ ht ?_);refine wpAny_bind (wpAny_typeOf hTs ?_);rw[if_pos (by decide)];refine wpAny_bind (fH hs pl pu ?_);have hno:¬((((sIx items.size 0 lo:Nat):Int)==0&&(1:Int)==1&&(sIx items.size items.size hi-sIx items.size 0 lo)==items.size)=true):=by
  intro q;rw[Bool.and_eq_true,Bool.and_eq_true]at q;have q1:((sIx items.size 0 lo:Nat):Int)=0:=eq_of_beq q.1.1;have q2:sIx items.size items.size hi-sIx items.size 0 lo=items.size:=eq_of_beq q.2;exact hw ⟨by lia,by lia⟩
 show wpAny _ _ (if(((sIx items.size 0 lo:Nat):Int)==0&&(1:Int)==1&&(sIx items.size items.size hi-sIx items.size 0 lo)==items.size)=true then _ else _) _ _ s;rw[if_neg hno,wu]
 first
  |exact wpAny_bind (m:=Builtin.Tuple.tupleExact _) (wpAny_newObj_type (wpAny_pure ⟨_,rfl,wpAny_pure h⟩) htake)
  |exact wpAny_bind (m:=Builtin.Tuple.tupleExact _) (wpAny_newObj_type (wpAny_bind (wpAny_pure (wpAny_pure ⟨_,rfl,wpAny_pure h⟩))) htake)
  |exact wpAny_bind (wpAny_bind (m:=Builtin.Tuple.tupleExact _) (wpAny_newObj_type (wpAny_pure (wpAny_pure ⟨_,rfl,wpAny_pure h⟩)) htake))
  |exact wpAny_bind (wpAny_bind (m:=Builtin.Tuple.tupleExact _) (wpAny_newObj_type (wpAny_pure ⟨_,rfl,wpAny_pure h⟩) htake))
end
end HT
namespace L2
open PySem PySem.Spec PyProof.Rows
abbrev TO:=St->Hp->(Option Int->Hp->Prop)->Prop
def PO(X:Cx)(e:Option Expr)(t:TO):Prop:=
 ∀(pins:List (Addr×Obj)) (s:Shared) (σ:St) (H:Hp) (Q:Option Int->Hp->Prop),Inv X pins σ H s->t σ H Q ->
  wpAny (model X.prog X.w) X.A (evalPart e X.env) (fun u s'=>∃o H',Inv X pins σ H' s'/\IsPart u o/\Q o H') X.xe s
def Dt(t:TE):TO:=fun σ H Q=>t σ H fun x H1=>∃i,x=.int i/\Q (some i) H1
section
variable{X:Cx}{e:Expr}{te:TE}{lo hi:Option Expr}{tl th:TO}{pos p2:Pos}
theorem yV(h:PE X e te):PO X (some e) (Dt te):=by
 intro pins s σ H Q I hw;rw[evalPart_some];refine dF (h pins s σ H _ I hw) fun u s1 ⟨x,H1,I1,r1,q1⟩=>?_
 obtain⟨i,rfl,q⟩:=q1;obtain⟨t,rfl⟩:=r1;exact⟨some i,H1,I1,.int i t,q⟩
def SlR(X:Cx)(r:V->Option Int->Option Int->Hp->VK->Prop):Prop:=
 ∀(pins:List (Addr×Obj)) (s:Shared) (σ:St) (H:Hp) (x:V) (v vl vu:Value) (lo hi:Option Int) (sl:Addr) (Q:VK),Inv X pins σ H s->RelV x v->s.heap.IsSliceOf sl vl vu .none->IsPart vl lo->IsPart vu hi->r x lo hi H Q ->
  ∃T id,typeLookup (.type T) "__getitem__" = pure (some (.builtin id))/\s.TypeIs v T/\wpAny (model X.prog X.w) X.A (getItem v (.ref sl)) (EP X pins σ Q) X.xe s
theorem SlR.or{r r':V->Option Int->Option Int->Hp->VK->Prop}(h:SlR X r)(h':SlR X r'):SlR X (fun x lo hi H Q=>r x lo hi H Q\/r' x lo hi H Q):=by
 intro pins s σ H x v vl vu lo hi sl Q I rx hs pl pu q;rcases q with q|q
 ·exact h pins s σ H x v vl vu lo hi sl Q I rx hs pl pu q
 ·exact h' pins s σ H x v vl vu lo hi sl Q I rx hs pl pu q
def HD(r:V->Option Int->Option Int->Hp->VK->Prop)(te:TE)(tl th:TO):TE:=fun σ H Q=>te σ H fun x H1=>tl σ H1 fun l H2=>th σ H2 fun u H3=>r x l u H3 Q
theorem wv{r:V->Option Int->Option Int->Hp->VK->Prop}(hr:SlR X r)(he:PE X e te)(hl:PO X lo tl)(hu:PO X hi th):PE X (.Subscript e (.Slice lo hi none p2) pos) (HD r te tl th):=by
 intro pins s σ H Q I h;refine Subscript_ (dF (he pins s σ H _ I h) fun v s1 ⟨x,H1,I1,r1,q1⟩=>?_)
 refine wpAny_Slice (dF (hl pins s1 σ H1 _ I1 q1) fun vl s2 ⟨l,H2,I2,pl,q2⟩=>dF (hu pins s2 σ H2 _ I2 q2) fun vu s3 ⟨u,H3,I3,pu,q3⟩=>?_)
 rw[evalPart_none];refine wpAny_pure ?_;have I4:Inv X pins σ H3 { s3 with heap:=s3.heap.push { cls:=.type "slice",data:=.fields #[vl,vu,.none] } }:=I3.kept (t':=s3.toks) fun b ob q=>Heap.get?_push_of_some _ q
 obtain⟨T,id,hT,ht,hg⟩:=hr pins { s3 with heap:=s3.heap.push { cls:=.type "slice",data:=.fields #[vl,vu,.none] } } σ H3 x v vl vu l u s3.heap.objs.size Q I4 r1 (Heap.IsSliceOf.new ..) pl pu q3;show wpAny (model X.prog X.w) X.A (subscriptTail e (.Slice lo hi none p2) v (.ref s3.heap.objs.size)) (EP X pins σ Q) X.xe { s3 with heap:=s3.heap.push { cls:=.type "slice",data:=.fields #[vl,vu,.none] } };exact tail_any (ops:=[.ref s3.heap.objs.size,v]) ht hT hg (by with_unfolding_all rfl)
noncomputable def mX(xs:List V)(lo hi:Option Int):List V:=(xs.drop (HT.sIx xs.length 0 lo)).take (HT.sIx xs.length xs.length hi-HT.sIx xs.length 0 lo)
theorem kn(xs:List V)(lo hi:Option Int):(mX xs lo hi).length<=xs.length:=by
 unfold mX;rw[List.length_take,List.length_drop]
 lia
def F4(K:PySem.W.Frag):V->Option Int->Option Int->Hp->VK->Prop:=fun x lo hi H Q=>∃a xs,x=.ref a/\SqT K H a xs /\
 ¬(HT.sIx xs.length 0 lo=0/\HT.sIx xs.length xs.length hi=xs.length)/\∀p,H p=none->Q (.ref p) (upd H p (.tup (mX xs lo hi)))
theorem sl_tup:SlR X (F4 X.K):=by
 intro pins s σ H x v vl vu lo hi sl Q I rx hs pl pu h;obtain⟨a,xs,rfl,hx,hw,q⟩:=h;cases rx;obtain⟨its,r,ht,hz⟩:=I.tuple hx;have hlen:its.toArray.size=xs.length:=by rw[List.size_toArray];exact r.length.symm
 refine⟨"tuple",_,PyProof.Rows.slot_tuple_getitem.lookup,ht.typeIs,?_⟩;refine HT.jo ht hs pl pu (by rw[hlen];exact hw) ?_ (by rw[hlen];exact hz);rw[hlen];refine⟨.ref s.heap.objs.size,_,I.laid (t':=s.toks) (o:=.tup (mX xs lo hi)) (fun b ob q=>Heap.get?_push_of_some _ q) (Nat.le_refl _) ?_,rfl,q _ (I.hok.fresh (Nat.le_refl _))⟩;exact⟨Nat.le_trans (kn xs lo hi) hz,_,(r.drop (HT.sIx xs.length 0 lo)).take (HT.sIx xs.length xs.length hi-HT.sIx xs.length 0 lo),IsTup.new _ _,NoDi.new _ _⟩
def DM(K:PySem.W.Frag):R2:=fun x y H Q=>∃a b xs ys,x=.ref a/\y=.ref b/\SqT K H a xs/\SqT K H b ys/\xs≠[]/\xs.length+ys.length<=sizeLine /\
 (ys=[]->Q (.ref a) H)/\(ys≠[]->∀p,H p=none->Q (.ref p) (upd H p (.tup (xs++ys))))
theorem Vals.nil_iff{xs:List V}{us:List Value}(r:Vals xs us):us=[]↔xs=[]:=by
 cases r with
 |nil=>simp
 |cons _ _=>simp
theorem za:OpR X (binaryOp .Add) (DM X.K):=by
 intro pins s σ H x y v u Q I rx ry h;obtain⟨a,b,xs,ys,rfl,rfl,ha,hb,hx,hz,q1,q2⟩:=h;cases rx;cases ry;obtain⟨its,r1,p1,_⟩:=I.tuple ha;obtain⟨its2,r2,p2,_⟩:=I.tuple hb;refine HT.z8 p1 p2 (fun z=>hx (r1.nil_iff.mp z)) (fun z=>⟨.ref a,H,I,rfl,q1 (r2.nil_iff.mp z)⟩) (fun z=>?_) (by rw[<-r1.length,<-r2.length];exact hz)
 refine⟨.ref s.heap.objs.size,_,I.laid (t':=s.toks) (o:=.tup (xs++ys)) (fun b ob q=>Heap.get?_push_of_some _ q) (Nat.le_refl _) ?_,rfl,q2 (fun w=>z (r2.nil_iff.mpr w)) _ (I.hok.fresh (Nat.le_refl _))⟩
 exact⟨by rw[List.length_append];exact hz,_,r1.append r2,IsTup.new _ _,NoDi.new _ _⟩
end
noncomputable def Cu(n:Nat)(i:Int):Option Nat:=if 0<=i then(if i<n then some i.toNat else none)else if -(n:Int)<=i then some (i+n).toNat else none
noncomputable def gF{α:Type}(xs:List α)(i:Int):Option α:=(Cu xs.length i).bind fun j=>xs[j]?
theorem zE{n:Nat}{i:Int}{j:Nat}(h:Cu n i=some j):seqIndex? i n=some j/\j<n /\ -(n:Int)<=i/\i<n:=by
 unfold Cu at h;by_cases h0:0<=i
 ·rw[if_pos h0]at h
  by_cases h1:i<n
  ·rw[if_pos h1]at h
   have e:i.toNat=j:=Option.some.inj h;exact⟨by rw[seqIndex_of h0 h1,e],by lia,by lia,h1⟩
  ·rw[if_neg h1]at h;cases h
 ·rw[if_neg h0]at h
  by_cases h1:-(n:Int)<=i
  ·rw[if_pos h1]at h
   have e:(i+n).toNat=j:=Option.some.inj h;exact⟨by rw[seqIndex_neg (by lia) h1,e],by lia,h1,by lia⟩
  ·rw[if_neg h1]at h;cases h
theorem tY{α:Type}{xs:List α}{i:Int}{v:α}(h:gF xs i=some v):∃j,seqIndex? i xs.length=some j/\xs[j]? = some v/\j<xs.length /\ -(xs.length:Int)<=i/\i<xs.length:=by
 unfold gF at h;cases e:Cu xs.length i with
 |none=>rw[e]at h;cases h
 |some j=>
  rw[e]at h;obtain⟨h1,h2,h3,h4⟩:=zE e;exact⟨j,h1,h,h2,h3,h4⟩
def tZ(b:Expr):Prop:=∀o i,subscripted b false o i=operate [o,i] (getItem o i)
def IxR(X:Cx)(r:R2):Prop:=
 ∀(value slice:Expr) (pins:List (Addr×Obj)) (s:Shared) (σ:St) (H:Hp) (x y:V) (v u:Value) (Q:VK),Inv X pins σ H s->RelV x v->RelV y u->r x y H Q ->
  subscripted slice false v u=operate [v,u] (getItem v u)->wpAny (model X.prog X.w) X.A (subscriptTail value slice v u) (EP X pins σ Q) X.xe s
def GT(X:Cx)(id:String)(r:V->List V->Hp->VK->Prop):Prop:=
 ∀(pins:List (Addr×Obj)) (s:Shared) (σ:St) (H:Hp) (x:V) (xs:List V) (v:Value) (us:List Value) (Q:VK),Inv X pins σ H s->RelV x v->Vals xs us->r x xs H Q ->
  wpAny (model X.prog X.w) X.A (call (.builtin id) (v::us)) (EP X pins σ Q) X.xe s
section
variable{X:Cx}{a b:Expr}{ta tb:TE}{pos:Pos}
theorem IxR.or{r r':R2}(h:IxR X r)(h':IxR X r'):IxR X (fun x y H Q=>r x y H Q\/r' x y H Q):=by
 intro value slice pins s σ H x y v u Q I rx ry q hs;rcases q with q|q
 ·exact h value slice pins s σ H x y v u Q I rx ry q hs
 ·exact h' value slice pins s σ H x y v u Q I rx ry q hs
theorem DT{r:R2}(hr:IxR X r)(ha:PE X a ta)(hb:PE X b tb)(hs:tZ b):PE X (.Subscript a b pos) (Du r ta tb):=by
 intro pins s σ H Q I h;exact Subscript_ (CQ ha hb I h fun v u s2 x y H2 I2 rx ry q=>hr a b pins s2 σ H2 x y v u Q I2 rx ry q (hs _ _))
def F7(K:PySem.W.Frag):R2:=fun x y H Q=>∃p xs i v,x=.ref p/\y=.int i/\SqL K H p xs/\gF xs i=some v/\Q v H
def F6(K:PySem.W.Frag):R2:=fun x y H Q=>∃p xs i v,x=.ref p/\y=.int i/\SqT K H p xs/\gF xs i=some v/\Q v H
theorem ix_list:IxR X (F7 X.K):=by
 intro value slice pins s σ H x y v u Q I rx ry h hs;obtain⟨p,xs,i,z,rfl,rfl,hq,he,q⟩:=h;cases rx;obtain⟨t,rfl⟩:=ry;obtain⟨its,r,pl,hz⟩:=I.list hq;obtain⟨j,h1,h2,h3,h4,h5⟩:=tY he;obtain⟨w,ew,rw'⟩:=r.get h2;have hl:=r.length;have hn:=rO;have fin:EP X pins σ Q w s:=⟨z,H,I,rw',q⟩;by_cases h0:0<=i
 ·have hj:i.toNat=j:=by
   rw[seqIndex_of h0 h5]at h1;exact Option.some.inj h1
  exact item_listR pl.isList h0 (by lia) (by rw[hj];simpa using ew) fin hs
 ·have hj:(i+(its.toArray.size:Int)).toNat=j:=by
   rw[seqIndex_neg (by lia) h4]at h1;rw[List.size_toArray,<-hl];exact Option.some.inj h1
  exact subscriptTail_builtinR (x:=w) pl.isList.typeIs slot_list_getitem.lookup
   (wpAny_getItem_list_neg (Q:=fun r s'=>r=w/\EP X pins σ Q r s') pl.isList (by lia) (by rw[List.size_toArray]<;>lia) (by lia) (by rw[hj];simpa using ew) ⟨rfl,fin⟩) hs
theorem Ct:IxR X (F6 X.K):=by
 intro value slice pins s σ H x y v u Q I rx ry h hs;obtain⟨p,xs,i,z,rfl,rfl,hq,he,q⟩:=h;cases rx;obtain⟨t,rfl⟩:=ry;obtain⟨its,r,pl,hz⟩:=I.tuple hq;obtain⟨j,h1,h2,h3,h4,h5⟩:=tY he;obtain⟨w,ew,rw'⟩:=r.get h2;have hl:=r.length;have hn:=rO;have fin:EP X pins σ Q w s:=⟨z,H,I,rw',q⟩;exact subscriptTail_builtinR (x:=w) pl.typeIs slot_tuple_getitem.lookup
  (getItem_tuple (j:=j) (Q:=fun r s'=>r=w/\EP X pins σ Q r s') pl (by lia) (by lia) (by rw[List.size_toArray,<-hl];exact h1) (by simpa using ew) ⟨rfl,fin⟩) hs
theorem ox(lo hi:Option Int)(n:Nat):(sliceBounds lo hi none n).1=((HT.sIx n 0 lo:Nat):Int)/\(sliceBounds lo hi none n).2.1=((HT.sIx n n hi:Nat):Int)/\(sliceBounds lo hi none n).2.2=1:=by
 refine⟨?_,?_,rfl⟩
 ·cases lo with
  |none=>simp[sliceBounds,HT.sIx]
  |some i=>
   simp only[sliceBounds,HT.sIx,Option.getD_none,show(1:Int)>0 by decide,if_true];by_cases h:i<0
   ·simp only[h,if_true]<;>lia
   ·simp only[h,if_false]<;>lia
 ·cases hi with
  |none=>simp[sliceBounds,HT.sIx]
  |some i=>
   simp only[sliceBounds,HT.sIx,Option.getD_none,show(1:Int)>0 by decide,if_true];by_cases h:i<0
   ·simp only[h,if_true]<;>lia
   ·simp only[h,if_false]<;>lia
theorem mM(its:List Value)(lo hi:Option Int):slicePick its.toArray lo hi none=((its.drop (HT.sIx its.length 0 lo)).take (HT.sIx its.length its.length hi-HT.sIx its.length 0 lo)).toArray:=by
 obtain⟨h1,h2,h3⟩:=ox lo hi its.toArray.size;unfold slicePick;rw[h1,h2,h3];simp only[sliceRange_one,pick_run,List.size_toArray]<;>rfl
def F5(K:PySem.W.Frag):V->Option Int->Option Int->Hp->VK->Prop:=fun x lo hi H Q=>∃a xs,x=.ref a/\SqL K H a xs/\∀p,H p=none->Q (.ref p) (upd H p (.lst (mX xs lo hi)))
theorem sl_list:SlR X (F5 X.K):=by
 intro pins s σ H x v vl vu lo hi sl Q I rx hs pl pu h;obtain⟨a,xs,rfl,hx,q⟩:=h;cases rx;obtain⟨its,r,ht,hz⟩:=I.list hx;have hlen:=r.length;refine⟨"list",_,slot_list_getitem.lookup,ht.isList.typeIs,?_⟩;refine wpAny_getItem_list_slice ht.isList hs pl pu .none (by simp) ?_ (by rw[List.size_toArray]<;>lia);rw[mM,<-hlen];refine⟨.ref s.heap.objs.size,_,I.laid (t':=s.toks) (o:=.lst (mX xs lo hi)) (fun b ob q=>Heap.get?_push_of_some _ q) (Nat.le_refl _) ?_,rfl,q _ (I.hok.fresh (Nat.le_refl _))⟩;exact⟨Nat.le_trans (kn xs lo hi) hz,_,0,(r.drop (HT.sIx xs.length 0 lo)).take (HT.sIx xs.length xs.length hi-HT.sIx xs.length 0 lo),Heap.get?_push_size _ rfl⟩
noncomputable def gZ:V->Bool
 |.non=>true
 |.bl _=>true
 |.int _=>true
 |.str _=>true
 |_=>false
noncomputable def yl:V->V->Bool
 |.non,.non=>true
 |.bl a,.bl b=>a==b
 |.bl a,.int b=>(if a then 1 else 0)==b
 |.int a,.bl b=>a==(if b then 1 else 0)
 |.int a,.int b=>a==b
 |.str a,.str b=>a==b
 |_,_=>false
theorem CJ{A:Around}{s:Shared}{y x:V}{u v:Value}(ry:RelV y u)(rx:RelV x v)(fy:gZ y=true)(fx:gZ x=true):SeqAt.EqAt A s u v (yl y x):=by
 cases y with
 |non=>
  cases ry;cases x with
  |non=>cases rx;exact SeqAt.EqAt.same _
  |bl b=>cases rx;exact SeqAt.EqAt.none_bool b
  |int b=>obtain⟨t,rfl⟩:=rx;exact SeqAt.EqAt.none_int b t
  |str b=>obtain⟨t,rfl⟩:=rx;exact SeqAt.EqAt.none_str b t
  |_=>exact absurd (show false=true from fx) Bool.false_ne_true
 |bl a=>
  cases ry;cases x with
  |non=>cases rx;exact SeqAt.EqAt.bool_none a
  |bl b=>cases rx;exact SeqAt.EqAt.bool_bool a b
  |int b=>obtain⟨t,rfl⟩:=rx;exact SeqAt.EqAt.bool_int a b t
  |str b=>obtain⟨t,rfl⟩:=rx;exact SeqAt.EqAt.bool_str a b t
  |_=>exact absurd (show false=true from fx) Bool.false_ne_true
 |int a=>
  obtain⟨t',rfl⟩:=ry;cases x with
  |non=>cases rx;exact SeqAt.EqAt.int_none a t'
  |bl b=>cases rx;exact SeqAt.EqAt.int_bool a t' b
  |int b=>obtain⟨t,rfl⟩:=rx;exact SeqAt.EqAt.int_int a t' b t
  |str b=>obtain⟨t,rfl⟩:=rx;exact SeqAt.EqAt.int_str a t' b t
  |_=>exact absurd (show false=true from fx) Bool.false_ne_true
 |str a=>
  obtain⟨t',rfl⟩:=ry;cases x with
  |non=>cases rx;exact SeqAt.EqAt.str_none a t'
  |bl b=>cases rx;exact SeqAt.EqAt.str_bool a t' b
  |int b=>obtain⟨t,rfl⟩:=rx;exact SeqAt.EqAt.str_int a t' b t
  |str b=>obtain⟨t,rfl⟩:=rx;exact SeqAt.EqAt.str_str a t' b t
  |_=>exact absurd (show false=true from fx) Bool.false_ne_true
 |_=>exact absurd (show false=true from fy) Bool.false_ne_true
noncomputable def zT(x:V)(u:Value):Bool:=match u with
 |.none=>yl .non x
 |.bool b=>yl (.bl b) x
 |.int i _=>yl (.int i) x
 |.str z _=>yl (.str z) x
 |_=>false
theorem xo{x y:V}{u:Value}(r:RelV y u)(f:gZ y=true):zT x u=yl y x:=by
 cases y with
 |non=>cases r;rfl
 |bl b=>cases r;rfl
 |int i=>obtain⟨t,rfl⟩:=r;rfl
 |str z=>obtain⟨t,rfl⟩:=r;rfl
 |_=>exact absurd (show false=true from f) Bool.false_ne_true
theorem ph{x:V}:∀{xs:List V} {us:List Value},Vals xs us->xs.all gZ=true->us.any (zT x)=xs.any fun y=>yl y x
 |_,_,.nil,_=>rfl
 |y::xs,u::us,.cons r t,f=>by
  rw[List.all_cons,Bool.and_eq_true]at f;rw[List.any_cons,List.any_cons,xo r f.1,ph t f.2]
theorem lQ{A:Around}{s:Shared}{x:V}{v:Value}(rx:RelV x v)(fx:gZ x=true):∀{xs:List V} {us:List Value},Vals xs us->xs.all gZ=true->∀u∈us,SeqAt.EqAt A s u v (zT x u)
 |_,_,.nil,_=>fun u hu=>by cases hu
 |y::xs,u::us,.cons r t,f=>fun u' hu=>by
  rw[List.all_cons,Bool.and_eq_true]at f;rcases List.mem_cons.mp hu with rfl|hu
  ·rw[xo r f.1];exact CJ r rx f.1 fx
  ·exact lQ rx fx t f.2 u' hu
noncomputable def Ff(x:V)(xs:List V):Bool:=xs.any fun y=>yl y x
def F8(K:PySem.W.Frag)(neg:Bool):R2:=fun x y H Q=>∃p xs,y=.ref p/\(SqL K H p xs\/SqT K H p xs)/\gZ x=true/\xs.all gZ=true/\Q (.bl (if neg then !Ff x xs else Ff x xs)) H
theorem uy:OpR X (compareOp .In) (F8 X.K false):=by
 intro pins s σ H x y v u Q I rx ry h;obtain⟨p,xs,rfl,hq,fx,fs,q⟩:=h;cases ry;rcases hq with hq|hq
 ·obtain⟨its,r,pl,hz⟩:=I.list hq
  refine SeqAt.in_listAt (zT x) pl.isList (fun w hw=>lQ rx fx r fs w (by simpa using hw)) ⟨.bl _,H,I,rfl,?_⟩
  rw[show its.toArray.any (zT x)=its.any (zT x) by simp,ph r fs];exact q
 ·obtain⟨its,r,pl,hz⟩:=I.tuple hq
  refine SeqAt.in_tupleAt (zT x) pl (fun w hw=>lQ rx fx r fs w (by simpa using hw)) ⟨.bl _,H,I,rfl,?_⟩
  rw[show its.toArray.any (zT x)=its.any (zT x) by simp,ph r fs];exact q
theorem mZ:CallR X (.type "tuple") (fun xs H Q=>∃p ys,xs=[.ref p]/\((SqL X.K H p ys/\∀l,H l=none->Q (.ref l) (upd H l (.tup ys)))\/(SqT X.K H p ys/\Q (.ref p) H))):=by
 intro pins s σ H xs us Q I r h;obtain⟨p,ys,rfl,h⟩:=h;obtain⟨u,rfl,rx⟩:=lz r;cases rx;rcases h with⟨hq,q⟩|⟨hq,q⟩
 ·obtain⟨its,r',pl,hz⟩:=I.list hq
  have hlen:=r'.length;refine call_tuple_list pl.isList (fun h' kp=>?_) (by simp only[List.size_toArray]<;>lia);have I1:Inv X pins σ H { s with heap:=h' }:=I.kept (t':=s.toks) kp;have I2:Inv X pins σ (upd H h'.objs.size (.tup ys)) { s with heap:=h'.push { cls:=.type "tuple",data:=.seq its.toArray } }:=
   I1.laid (t':=s.toks) (fun b o e=>Heap.get?_push_of_some _ e) (Nat.le_refl _) (show ObjOk X.prog X.w _ _ _ (.tup ys)from ⟨hz,its,r',IsTup.new _ _,NoDi.new _ _⟩)
  exact⟨.ref h'.objs.size,_,I2,rfl,q _ (I1.hok.fresh (Nat.le_refl _))⟩
 ·obtain⟨its,r',pl,hz⟩:=I.tuple hq
  exact call_tuple_same pl ⟨.ref p,H,I,rfl,q⟩
def Fs(K:PySem.W.Frag)(T:String)(x:V)(H:Hp):Prop:=match x with
 |.str _=>T = "str"
 |.int _=>T = "int"
 |.ref p=>(T = "list" /\ ∃xs,SqL K H p xs)\/(T = "tuple" /\ ∃o,K.lookup p=some o/\o.cls=.type "tuple" /\ o.dict=none) \/
   (T = "dict" /\ ((∃kvs,H p=some (.dK kvs))\/∃kvs,H p=some (.dT kvs)))\/(T = "set" /\ ∃S n,H p=some (.set S n))
 |_=>False
theorem vC{pins:List (Addr×Obj)}{σ:St}{H:Hp}{s:Shared}{T:String}{x:V}{v:Value}(I:Inv X pins σ H s)(r:RelV x v)(ty:Fs X.K T x H):
  s.TypeIs v T/\∀a,v=.ref a->∃ob,s.heap.get? a=some ob/\ob.dict=none:=by
 cases x with
 |str z=>
  obtain⟨t,rfl⟩:=r;cases(show T = "str" from ty);exact⟨typeIs_str s z t,fun _ e=>nomatch e⟩
 |int i=>
  obtain⟨t,rfl⟩:=r;cases(show T = "int" from ty);exact⟨typeIs_int s i t,fun _ e=>nomatch e⟩
 |ref p=>
  cases r;rcases ty with⟨rfl,xs,hq⟩|⟨rfl,o,hk,hc,hd⟩|⟨rfl,hk⟩|⟨rfl,S,n,hk⟩
  ·obtain⟨its,_,pl,_⟩:=I.list hq
   refine⟨pl.isList.typeIs,fun a e=>?_⟩
   cases e;obtain⟨o,n,e,c,hd,_⟩:=pl;exact⟨o,e,hd⟩
  ·refine⟨⟨o,I.kIn p o hk,hc⟩,fun a e=>?_⟩
   cases e;exact⟨o,I.kIn _ o hk,hd⟩
  ·have z:∃o,s.heap.get? p=some o/\o.ExactDict:=by
    rcases hk with⟨kvs,hk⟩|⟨kvs,hk⟩
    ·obtain⟨_,_,_,_,o,_,_,e,ex,_⟩:=I.hok p _ hk
     exact⟨o,e,ex⟩
    ·obtain⟨_,_,_,_,o,_,_,e,ex,_⟩:=I.hok p _ hk
     exact⟨o,e,ex⟩
   obtain⟨o,e,ex⟩:=z;refine⟨⟨o,e,ex.1⟩,fun a e2=>?_⟩
   cases e2;exact⟨o,e,ex.2.1⟩
  ·obtain⟨o,_,_,_,e,ex,_⟩:=I.hok p _ hk
   refine⟨⟨o,e,ex.1⟩,fun a e2=>?_⟩
   cases e2;exact⟨o,e,ex.2.1⟩
 |_=>exact False.elim ty
def FP(K:PySem.W.Frag)(T:String)(r:V->List V->Hp->VK->Prop)(to:TE):TE:=fun σ H Q=>to σ H fun x H1=>Fs K T x H1/\r x [] H1 Q
def HG(K:PySem.W.Frag)(T:String)(r:V->List V->Hp->VK->Prop)(to:TE)(t:TA):TE:=fun σ H Q=>to σ H fun x H1=>Fs K T x H1/\t σ H1 fun xs H2=>r x xs H2 Q
variable{o e:Expr}{es:List Expr}{to:TE}{t:TA}{name:Str}{apos cpos:Pos}{T id:String}{r:V->List V->Hp->VK->Prop}
theorem BP(pa:PlainAttrs T)(slot:Slot T name id)(hty:typeOf (.builtin id)=pure (.type "method_descriptor"))(hm:GT X id r)(ho:PE X o to)
  (hbase:attributeBase o name X.env (eval o X.env)=eval o X.env:=by rfl) (hline:(apos.endLine==cpos.line)=true:=by rfl):PE X (.Call (.Attribute o name apos) [] [] cpos) (FP X.K T r to):=by
 intro pins s σ H Q I h;refine wpAny_Call_method0_late hbase hline (dF (ho pins s σ H _ I h) fun v s1 ⟨x,H1,I1,r1,ty,q1⟩=>?_)
 obtain⟨h1,h2⟩:=vC I1 r1 ty;exact⟨T,id,pa,slot,hty,h1,h2,Calls.callWith_builtin rfl (PySem.evalArgs_none (hm pins s1 σ H1 x [] v [] Q I1 r1 .nil q1))⟩
theorem AF(pa:PlainAttrs T)(slot:Slot T name id)(hty:typeOf (.builtin id)=pure (.type "method_descriptor"))(hm:GT X id r)(ho:PE X o to)(ha:PA X (e::es) t)
  (hbase:attributeBase o name X.env (eval o X.env)=eval o X.env:=by rfl)
  (hfew:((backTo cpos (starEach (e::es) X.env)).all (fun x=>!x.1)&&(backToKw cpos (keywordEach [] X.env)).all (fun x=>x.1.isSome)
   && decide ((e::es).length+([]:List Keyword).length+(if([]:List Keyword).isEmpty then 0 else 1)<30))=true:=by rfl)
  (hline:(apos.endLine==cpos.line)=true:=by rfl) (hs:starEach (e::es) X.env=(false,eval e X.env)::starEach es X.env:=by rfl) (hplain:(backTo cpos (starEach es X.env)).any (·.1)=false:=by rfl) :
  PE X (.Call (.Attribute o name apos) (e::es) [] cpos) (HG X.K T r to t):=by
 intro pins s σ H Q I h;refine wpAny_Call_method_late hbase hfew hline rfl (dF (ho pins s σ H _ I h) fun v s1 ⟨x,H1,I1,r1,ty,q1⟩=>?_)
 obtain⟨h1,h2⟩:=vC I1 r1 ty;refine⟨T,id,pa,slot,hty,h1,h2,?_⟩;have hA:=ha cpos pins s1 σ H1 _ I1 q1;rw[hs]at hA ⊢;refine Calls.callWith_builtin (by show(false||(backTo cpos (starEach es X.env)).any (·.1))=false;rw[hplain]<;>rfl) (Calls.evalArgs_plain ?_);exact dF hA fun us s2 ⟨vs,H2,I2,r2,q2⟩=>hm pins s2 σ H2 x vs v us Q I2 r1 r2 q2
end
def Hu(X:Cx)(id:String)(r:V->List V->Hp->VK->Prop):Prop:=
 ∀(pins:List (Addr×Obj)) (s:Shared) (σ:St) (H:Hp) (x:V) (xs:List V) (v:Value) (us:List Value) (Q:VK),Inv X pins σ H s->RelV x v->Vals xs us->r x xs H Q ->
  wpAny (model X.prog X.w) X.A (call (.builtin id) (v::us)) (EP X pins σ Q) X.xe s
theorem Vals.one:∀{x:V} {us:List Value},Vals [x] us->∃u,us=[u]/\RelV x u
 |_,_,h=>by
  cases h with
  |cons r t=>
   cases t;exact⟨_,rfl,r⟩
theorem Vals.two:∀{x y:V} {us:List Value},Vals [x,y] us->∃u v,us=[u,v]/\RelV x u/\RelV y v
 |_,_,_,h=>by
  cases h with
  |cons r t=>
   cases t with
   |cons q t2=>
    cases t2;exact⟨_,_,rfl,r,q⟩
theorem Vals.rep{xs:List V}{us:List Value}(h:Vals xs us):∀k:Nat,Vals (List.replicate k xs).flatten (List.replicate k us).flatten
 | 0=>.nil
 |k+1=>by
  rw[List.replicate_succ,List.replicate_succ,List.flatten_cons,List.flatten_cons];exact Vals.append h (Vals.rep h k)
section
variable{X:Cx}{pins:List (Addr×Obj)}{σ:St}{H:Hp}{s:Shared}{l b:Addr}{xs ys zs:List V}
theorem Inv.lset{its its':List Value}{n:Nat}{f:Array Value->Array Value}{t':Nat}(I:Inv X pins σ H s)(hH:H l=some (.lst xs))
  (e:s.heap.get? l=some { cls:=.type "list",data:=.seq its.toArray n }) (hf:f its.toArray=its'.toArray) (hv:Vals ys its') (hz:ys.length<=sizeLine) :
  Inv X pins σ (upd H l (.lst ys)) { s with heap:=s.heap.update l (Obj.mapSeq f),toks:=t' }:=by
 have q:=PySem.IsL.update e f;rw[hf]at q;refine I.write (x:=l) (e:=l) (by rw[hH];exact trivial) (.inl rfl) (fun b' u hb hu=>(Heap.get?_update_other s.heap (Obj.mapSeq f) (Ne.symm hb)).trans hu) ⟨_,q⟩ ?_
 exact⟨hz,its',_,hv,q⟩
theorem Inv.lnew{its:List Value}{t':Nat}(I:Inv X pins σ H s)(hv:Vals ys its)(hz:ys.length<=sizeLine):
  Inv X pins σ (upd H s.heap.objs.size (.lst ys)) { s with heap:=s.heap.push { cls:=.type "list",data:=.seq its.toArray },toks:=t' }:=
 I.laid (fun _ _ q=>Heap.get?_push_of_some _ q) (Nat.le_refl _) ⟨hz,its,0,hv,Heap.get?_push_size _ rfl⟩
theorem Inv.fresh(I:Inv X pins σ H s):H s.heap.objs.size=none:=I.hok.fresh (Nat.le_refl _)
theorem Inv.lstM(I:Inv X pins σ H s)(hH:H l=some (.lst xs)):xs.length<=sizeLine/\∃(its:List Value) (n:Nat),Vals xs its/\xs.length=its.length/\s.heap.get? l=some { cls:=.type "list",data:=.seq its.toArray n }:=by
 obtain⟨z,its,n,r,e⟩:=I.hok l _ hH;exact⟨z,its,n,r,r.length,e⟩
end
section
variable{X:Cx}
def yP:V->List V->Hp->VK->Prop:=fun x vs H Q=>∃l xs y,x=.ref l/\vs=[y]/\H l=some (.lst xs)/\xs.length<sizeLine/\Q .non (upd H l (.lst (xs++[y])))
theorem uH:Hu X "list.append" yP:=by
 intro pins s σ H x vs v us Q I rx rv h;obtain⟨l,xs,y,rfl,rfl,hH,hz,q⟩:=h;cases rx;obtain⟨u,rfl,ru⟩:=rv.one;obtain⟨z,its,n,r,hl,e⟩:=I.lstM hH;refine call_meets F.slot_list_append ⟨_,e,rfl⟩ F.entry_list_append (F.args_list_append_2 _ _) (PySem.list_append l its.toArray n u (by rw[List.size_toArray];lia)) ⟨e,?_⟩;refine⟨.non,_,I.lset (its':=its++[u]) hH e (by simp) (r.append (.cons ru .nil)) ?_,rfl,q⟩;rw[List.length_append,List.length_singleton]
 lia
end
end L2
namespace Att
open PySem PySem.W PySem.Calls PyProof.Rows
theorem kI{P:Params}{h:Heap}:∀(ns:List Int) (vs:List Value),WellAll P h vs (ns.map WData.int)->IntsAre vs ns:=by
 intro ns
 induction ns with
 |nil=>
  intro vs w;rw[List.map_nil]at w;cases w;exact .nil
 |cons n ns ih=>
  intro vs w;rw[List.map_cons]at w;cases w with
  |cons a b=>
   cases a;exact .cons _ _ (ih _ b)
theorem uq{l:OpenLaw}{n:Nat}(hn:l.most=some n){P:Params}{h:Heap}{args:List WData}{vals:List Value}
  (hpre:l.row.toRowW.claim.pre args=true) (hwl:WellAll P h vals args) :
  ∃a vs ns,vals=[Value.ref a]/\args=[WData.list (ns.map WData.int)]/\h.get? a=some { cls:=.type "list",data:=.seq vs.toArray }/\IntsAre vs ns/\ns.length<=n:=by
 have hsh:WShape.hasAll [] args [.list .int]=true:=(pre_splitW hpre).1;have hc:l.pre.holds [] { args:=args }=true:=(pre_splitW hpre).2;obtain⟨d,r,rfl,h1,h2⟩:=hasAllW_cons hsh;obtain rfl:=hasAllW_nil h2;obtain⟨xs,rfl,h3⟩:=hasW_list h1;obtain⟨ns,rfl⟩:=items_int h3;have hlen:ns.length<=n:=by
  unfold OpenLaw.pre at hc;have h4:(WTm.not (.lt (.lit (.int (n:Int))) (.len (.arg 0)))).holds [] { args:=[.list (ns.map .int)] }=true:=by
   have h4:=(holds_andW hc).1;rw[hn]at h4;exact h4
  have h5:=condW_of h4 (w_not (w_lt w_lit (w_len_list (w_arg rfl))));rw[List.length_map]at h5;refine Nat.le_of_not_lt fun q=>?_
  have q':(n:Int)<((ns.length:Nat):Int):=by lia
  first
   | (rw[decide_eq_true q']at h5;exact absurd h5 (by decide))
   | (simp at h5;lia)
 cases hwl with
 |cons w1 w2=>
  cases w2;cases w1 with
  |list ho hall=>exact⟨_,_,ns,rfl,rfl,ho,kI ns _ hall,hlen⟩
theorem uv(l:OpenLaw)(args:List WData):l.row.toRowW.claim.post args (.bool true) args=true:=
 postW_of (r:=l.row.toRowW) (X:=(true==true))
  (show WShape.has [] (.bool true) .bool=true by first|rfl|decide|simp[WShape.has,WShape.arms,WShape.armsAll])
  (show(WTm.eq .res (.lit (.bool true))).value [] { args:=args,res:=some (.bool true),after:=args }=some (.bool (true==true))from w_eq_bool (w_res rfl) w_lit) rfl
theorem qP{l:OpenLaw}{n:Nat}{q:Program}{loose:List Str}{XP:(Str->Option Value)->Heap->Prop}{YP:World->Heap->Prop}{d:DefRec}
  (hn:l.most=some n) (hdf:d.params.defaults=[])
  (call:∀(w:World) (s₀ s₁:Shared) (mg mb:Str->Option Value) (fa:Addr) (o:Obj) (pm cd doc:Value) (a:Addr) (vs:List Value) (ns:List Int),
   Ground q loose [] XP w s₀ mg mb s₁.heap->YP w s₁.heap ->
   s₁.heap.get? fa=some o->o.data=.func (docDef d.name d.params d.body d.scope pm cd doc)->s₁.heap.CodeRec cd d.name->mg d.name=some (.ref fa) ->
   s₁.heap.get? a=some { cls:=.type "list",data:=.seq vs.toArray }->IntsAre vs ns->ns.length<=n->s₁.gens = #[] ->
   codeAny (model l.prog w) callerA (.call (.ref fa) ⟨[.ref a],[]⟩) (fun r s'=>r=.ok (.ret (.bool true))/\OldK s₁.heap s'.heap/\s'.os=s₁.os/\AllBare s'.gens) s₁) :
  WalkO q loose XP YP l.row.toRowW d [] (fun f vs=>PySem.call f vs):=by
 intro w s₀ s₁ mg mb G Y fa o pm cd doc dV kV ho hd hcd hD hmg hg args vals as hpre hlay hrd hwl hlo;obtain rfl:dV=.none:=Dflts.none hD hdf;obtain rfl:kV=.none:=Dflts.noKw hD;obtain⟨a,vs,ns,rfl,rfl,hobj,hints,hlen⟩:=uq hn hpre hwl;refine enter_call (codeAny_mono (call w s₀ s₁ mg mb fa o pm cd doc a vs ns G Y ho (fd_plain hd) hcd hmg hobj hints hlen hg) fun r s' hq=>?_)
 obtain⟨rfl,h2,h3,h4⟩:=hq;exact⟨.inl ⟨.bool true,.bool true,[],rfl,fun _=>rfl,.bool true,uv l _,fun _=>⟨List.Pairwise.nil,fun _ hm=>(nomatch hm)⟩⟩,h2,h3,h4⟩
section
variable{prog:Program}{w:World}{A:Around}{E:Value->Shared->Prop}{s:Shared}{K:Frag}
noncomputable def Gk(h:Heap)(L d:Addr):List (Addr×Obj):=(List.range h.objs.size).filterMap fun a=>if a=L\/a=d then none else(h.get? a).map fun o=>(a,o)
end
end Att
namespace L2
open PySem PySem.Spec PyProof.Rows
theorem ij:∀{vs:List Value} {ns:List Int},IntsAre vs ns->Vals (ns.map V.int) vs
 |_,_,.nil=>.nil
 |_,_,.cons n t h=>.cons ⟨t,rfl⟩ (ij h)
def C6(H:Hp):Prop:=∀b,H b=none\/(∃o xs,H b=some (.frz o (.lst xs)))\/∃ps,H b=some (.tbl ps)
noncomputable def cW(K:PySem.W.Frag):List Addr:=lamDefs.filterMap fun x=>(PySem.W.tabIn K x).map (·.2)
theorem nj{K:PySem.W.Frag}{x:Str}{c P:Addr}(hx:x∈lamDefs)(e:PySem.W.tabIn K x=some (c,P)):P∈cW K:=List.mem_filterMap.mpr ⟨x,hx,by rw[e];rfl⟩
theorem wR{P:Program}{w:World}{K:PySem.W.Frag}{mg mb:Str->Option Value}{CX:t9}{k:Nat}{fa a:Addr}{fd:FuncData}{x:Str}{sp:Sp}{s₁:Shared}{vs:List Value}{ns:List Int}
  (KX:K.In s₁.heap) (hns:s₁.heap.Ns mainGlobals mg) (hb:s₁.heap.Ns builtinsNs mb) (hbb:∀x:Str,x ≠ "__name__" -> mb x=bootBuiltins x) (hlim:s₁.heap.NoLimit) (hbm:BMain s₁.heap mg) (hTk:∀P∈cW K,s₁.heap.get? P=some (PySem.W.tabObj #[])/\isCodeTable s₁.heap P) (hTn:∀P∈cW K,K.lookup P=none) (hTc:∀x∈lamDefs,∀c P,PySem.W.tabIn K x=some (c,P)->PySem.W.CodeHd s₁.heap c P) (hg:s₁.gens = #[])
  (ha:s₁.heap.get? a=some { cls:=.type "list",data:=.seq vs.toArray }) (hi:IntsAre vs ns) (hl:ns.length<=sizeLine) (hr:Room k callerA)
  (F:∀base:Heap,K.In base->base.Ns mainGlobals mg->FnOk P w K mg base CX k fa fd [x] sp) (hbind:∀(s:Shared) (u:Value),BindsTo s fd ⟨[u],[]⟩ [(x,u)])
  (hsp:∀H:Hp,C6 H->SqL K H a (ns.map V.int)->sp [.ref a] H (fun v _=>v=.bl true) fun _ _ _=>False)
  (hCX:∀H e s',CX [] H s₁ (fun _ _ _=>False) e s'->False) :
  codeAny (model P w) callerA (.call (.ref fa) ⟨[.ref a],[]⟩) (fun r s'=>r=.ok (.ret (.bool true))/\OldK s₁.heap s'.heap/\s'.os=s₁.os/\AllBare s'.gens) s₁:=by
 have rv:=ij hi;have lenV:=hi.length;have core:∀H:Hp,C6 H->SqL K H a (ns.map V.int)->HOk P w H s₁.heap->(∀b,H b≠none->b=a\/b∈cW K)->(∀b,H b≠none->K.lookup b=none)->As K H ->
   codeAny (model P w) callerA (.call (.ref fa) ⟨[.ref a],[]⟩) (fun r s'=>r=.ok (.ret (.bool true))/\OldK s₁.heap s'.heap/\s'.os=s₁.os/\AllBare s'.gens) s₁:=by
  intro H hO hS hok hA hK hTB;have base_of:∀{b:Addr} {o:Obj},s₁.heap.get? b=some o->H b=none->(lY s₁.heap H).get? b=some o:=fun e n=>w9 e n
  have noA:∀{b:Addr} {o:Obj} {es:Array DictEntry} {ep:Nat},s₁.heap.get? b=some o->o.data=.dict es ep->H b=none:=fun{b o es ep} e d=>by
   cases q:H b with
   |none=>rfl
   |some u=>
    rcases hA b (by rw[q];simp)with e' | e'
    ·subst e'
     rw[ha]at e;cases e;have d':Data.seq vs.toArray _=Data.dict es ep:=d;cases d'
    ·rw[(hTk b e').1]at e;cases e;cases d
  have nsK:∀{b:Addr} {m:Str->Option Value},s₁.heap.Ns b m->(lY s₁.heap H).Ns b m:=fun{b m} ⟨o,es,ep,e,d,r⟩=>⟨o,es,ep,base_of e (noA e d),d,r⟩
  have hKb:K.In (lY s₁.heap H):=fun b o e=>base_of (KX b o e) (by
   cases q:H b with
   |none=>rfl
   |some u=>
    rw[hK b (by rw[q];simp)]at e;cases e)
  have hbm':BMain (lY s₁.heap H) mg:=by
   obtain⟨bm,ob,b1,b2,b3,b4,b5,b6⟩:=hbm;refine⟨bm,ob,b1,b2,base_of b3 ?_,b4,b5,b6⟩;cases q:H bm with
   |none=>rfl
   |some u=>
    rcases hA bm (by rw[q];simp)with e' | e'
    ·subst e'
     rw[ha]at b3;cases b3;exact absurd (Value.type.inj b4) (by decide)
    ·rw[(hTk bm e').1]at b3;cases b3;cases b4
  have hTc':∀x∈lamDefs,∀c P,PySem.W.tabIn K x=some (c,P)->PySem.W.CodeHd (lY s₁.heap H) c P:=fun x hx c P e=>by
   obtain⟨o,vs,file,tf,flags,tg,inF,text,tt,e1,r⟩:=hTc x hx c P e;refine⟨o,vs,file,tf,flags,tg,inF,text,tt,base_of e1 ?_,r⟩;cases q:H c with
   |none=>rfl
   |some u=>
    obtain⟨o',h'⟩:=rg e;rw[hK c (by rw[q];simp)]at h';cases h'
  have hM:Mod K mg (lY s₁.heap H):=⟨hKb,nsK hns,⟨mb,nsK hb,hbb⟩,(let ⟨mc,h1,h2⟩:=hlim; ⟨mc,nsK h1,h2⟩),hbm',hTc'⟩;have e0:Env0 P w K mg (lY s₁.heap H) callerA [] s₁ H:=⟨rfl,hM,fun b o e=>zf e,Nat.le_of_eq (uT _ _),trivial,fun b hb=>absurd (show b∈([]:List Addr)from hb) (by simp),hok,.of_eq hg,hTB⟩
  refine codeAny_mono ((F _ hKb (nsK hns)).run callerA [] s₁ H ⟨[.ref a],[]⟩ [.ref a] [.ref a] _ _ hr e0 (hbind s₁ (.ref a)) (.cons rfl .nil) (hsp H hO hS)) fun r s' h=>?_
  cases r with
  |error e=>exact(hCX H e s' h).elim
  |ok fl=>
   cases fl with
   |next=>exact False.elim h
   |brk=>exact False.elim h
   |cont=>exact False.elim h
   |ret u=>
    obtain⟨v,H',os,bare,un,hok',r',q⟩:=h;have q':v=.bl true:=q;subst q';obtain rfl:u=Value.bool true:=r';have all:∀b o,s₁.heap.get? b=some o->s'.heap.get? b=some o\/(b∈cW K/\∃ps,s'.heap.get? b=some (PySem.W.tabObj ps)):=fun b o e=>by
     cases q:H b with
     |none=>exact .inl (un.keep b o e q (by intro z;exact absurd (show b∈([]:List Addr)from z) (by simp)) (by simp))
     |some u=>
      rcases hO b with z|⟨ob,xs,z⟩|⟨ps,z⟩
      ·rw[q]at z;cases z
      ·have z2:=un.frzs b ob _ z
       obtain⟨e1,_⟩:=hok b _ z;obtain⟨e2,_⟩:=hok' b _ z2;rw[e]at e1;cases e1;exact .inl e2
      ·obtain⟨m,z2⟩:=un.tbls b ps z
       obtain⟨ps',e2,_⟩:=hok' b _ z2;rcases hA b (by rw[q];simp)with e' | e'
       ·obtain⟨ps0,e0',_⟩:=hok b _ z
        subst e';rw[ha]at e0';cases e0'
       ·exact .inr ⟨e',ps',e2⟩
    refine⟨rfl,⟨fun b o e=>?_,fun b o e=>?_⟩,os,bare⟩
    ·rcases all b o e with z|⟨hb,ps,z⟩
     ·exact .inl z
     ·obtain⟨g1,g2⟩:=hTk b hb
      rw[e]at g1;cases g1;exact .inr (.inl ⟨g2,rfl,#[],ps,rfl,by rw[Array.empty_append];exact z⟩)
    ·rcases all b o e with z|⟨hb,ps,z⟩
     ·exact⟨_,z⟩
     ·exact⟨_,z⟩
 cases hk:K.lookup a with
 |some o=>
  have e:=KX a o hk;rw[ha]at e;cases e;refine core (fun b=>if b∈cW K then some (.tbl #[])else none) (fun b=>?_) (.inr ⟨_,vs.toArray,_,hk,rfl,rfl,rfl,by rw[List.size_toArray,lenV];exact hl,by simpa using rv⟩) (fun b u z=>?_) (fun b z=>?_) (fun b z=>?_) fun x hx c P e=>⟨#[],if_pos (nj hx e)⟩
  ·by_cases hb:b∈cW K
   ·exact .inr (.inr ⟨_,if_pos hb⟩)
   ·exact .inl (if_neg hb)
  ·by_cases hb:b∈cW K
   ·have z':=(if_pos hb).symm.trans z
    cases z';exact⟨#[],(hTk b hb).1,trivial,fun pos cv q=>nomatch q⟩
   ·have z':=(if_neg hb).symm.trans z
    cases z'
  ·by_cases hb:b∈cW K
   ·exact .inr hb
   ·exact absurd (if_neg hb) z
  ·by_cases hb:b∈cW K
   ·exact hTn b hb
   ·exact absurd (if_neg hb) z
 |none=>
  have hat:a ∉ cW K:=fun hb=>by
   have:=(hTk a hb).1;rw[ha]at this;cases this
  refine core (fun b=>if b=a then some (.frz { cls:=.type "list",data:=.seq vs.toArray } (.lst (ns.map V.int)))else if b∈cW K then some (.tbl #[])else none) (fun b=>?_) (.inl (.inr ⟨{ cls:=.type "list",data:=.seq vs.toArray },if_pos rfl⟩)) (fun b u z=>?_) (fun b z=>?_) (fun b z=>?_) fun x hx c P e=>⟨#[],?_⟩
  ·by_cases hb:b=a
   ·exact .inr (.inl ⟨_,_,if_pos hb⟩)
   ·by_cases hc:b∈cW K
    ·exact .inr (.inr ⟨_,(if_neg hb).trans (if_pos hc)⟩)
    ·exact .inl ((if_neg hb).trans (if_neg hc))
  ·by_cases hb:b=a
   ·have z':=(if_pos hb).symm.trans z
    cases z';subst hb;exact⟨ha,by rw[List.length_map];exact hl,vs,_,rv,ha⟩
   ·have z':=(if_neg hb).symm.trans z
    by_cases hc:b∈cW K
    ·have z':=(if_pos hc).symm.trans z'
     cases z';exact⟨#[],(hTk b hc).1,trivial,fun pos cv q=>nomatch q⟩
    ·have z':=(if_neg hc).symm.trans z'
     cases z'
  ·by_cases hb:b=a
   ·exact .inl hb
   ·by_cases hc:b∈cW K
    ·exact .inr hc
    ·exact absurd ((if_neg hb).trans (if_neg hc)) z
  ·by_cases hb:b=a
   ·subst hb;exact hk
   ·by_cases hc:b∈cW K
    ·exact hTn b hc
    ·exact absurd ((if_neg hb).trans (if_neg hc)) z
  ·have hP:=nj hx e
   have hb:P≠a:=fun z=>hat (z ▸ hP)
   exact(if_neg hb).trans (if_pos hP)
abbrev IA{K:PySem.W.Frag}{h:Heap}(_:K.In h):PySem.W.Frag:=K
theorem yp{l:PySem.W.OpenLaw}{n k:Nat}{q:Program}{loose:List Str}{XP:(Str->Option Value)->Heap->Prop}{YP:World->Heap->Prop}{d:DefRec}{K:Params->PySem.W.Frag}{CX:World->t9}{sp:World->Sp}{x:Str}
  (hn:l.most=some n) (hn2:n<=sizeLine) (hdf:d.params.defaults=[]) (hr:Room k callerA)
  (hY:∀(w:World) (h:Heap),YP w h->(K w.params).In h)
  (F:∀(w:World) (mg:Str->Option Value) (fa:Addr) (h:Heap),(K w.params).In h->h.Ns mainGlobals mg->mg d.name=some (.ref fa) ->
   ∃fd:FuncData,(∀(s:Shared) (u:Value),BindsTo s fd ⟨[u],[]⟩ [(x,u)]) /\
    ∀base:Heap,(K w.params).In base->base.Ns mainGlobals mg->FnOk l.prog w (K w.params) mg base (CX w) k fa fd [x] (sp w))
  (hsp:∀(w:World) (H:Hp) (a:Addr) (ns:List Int),ns.length<=n->C6 H->SqL (K w.params) H a (ns.map V.int)->sp w [.ref a] H (fun v _=>v=.bl true) fun _ _ _=>False)
  (hCX:∀(w:World) (H:Hp) (s:Shared) (e:Value) (s':Shared),CX w [] H s (fun _ _ _=>False) e s'->False)
  (hTd:∀(w:World),∀x∈lamDefs,PySem.W.tabIn (K w.params) x=none\/∃d',(recsOf q).find? (fun e=>e.name==x)=some d') (hTn:∀(w:World),∀P∈cW (K w.params),(K w.params).lookup P=none) :
  PySem.W.WalkO q loose XP YP l.row.toRowW d [] (fun f vs=>PySem.call f vs):=by
 refine Att.qP hn hdf fun w s₀ s₁ mg mb fa o pm cd doc a vs ns G Y ho hd hcd hmg hobj hints hlen hg=>?_
 have KX:=hY w _ Y;obtain⟨fd,hb,hF⟩:=F w mg fa _ KX G.T.g hmg;have hTk:∀P∈cW (K w.params),s₁.heap.get? P=some (PySem.W.tabObj #[])/\isCodeTable s₁.heap P:=fun P hP=>by
  obtain⟨x,hx,e⟩:=List.mem_filterMap.mp hP;rcases hTd w x hx with z|⟨d',z⟩
  ·rw[z]at e;cases e
  ·cases e2:PySem.W.tabIn (K w.params) x with
   |none=>rw[e2]at e;cases e
   |some cp=>
    rw[e2]at e;cases e;obtain⟨g1,g2⟩:=PySem.W.tab_of G.T KX z e2;exact⟨g2,(g1.tab g2).isCodeTable⟩
 have hTc:∀x∈lamDefs,∀c P,PySem.W.tabIn (K w.params) x=some (c,P)->PySem.W.CodeHd s₁.heap c P:=fun x hx c P e=>by
  rcases hTd w x hx with z|⟨d',z⟩
  ·rw[z]at e;cases e
  ·exact(PySem.W.tab_of G.T KX z e).1
 exact wR KX G.T.g G.T.b G.T.builtins G.T.nolimit G.T.bmain hTk (hTn w) hTc hg hobj hints (Nat.le_trans hlen hn2) hr hF hb (fun H hO hS=>hsp w H a ns hlen hO hS) fun H e s'=>hCX w H s₁ e s'
noncomputable def cu(s:Stmt):Arguments:=match s with
 |.FunctionDef _ a _ _ _ _ _ _ _ _=>a
 |_=>{ posonlyargs:=[],args:=[],vararg:=none,kwonlyargs:=[],kw_defaults:=[],kwarg:=none,defaults:=[] }
noncomputable def bI(s:Stmt):List Stmt:=match s with
 |.FunctionDef _ _ b _ _ _ _ _ _ _=>b
 |_=>[]
noncomputable def aj(s:Stmt):Scope:=match s with
 |.FunctionDef _ _ _ _ _ _ sc _ _ _=>sc
 |_=>{ kind:=.function,names:=[],isGenerator:=false,isCoroutine:=false }
abbrev cM:t9:=fun _ _ _ _ _ _=>False
abbrev E0:XK:=fun _ _ _=>False
theorem wy{X:Cx}:pk cM X E0:=fun _ _ _ _ _ _ _ h=>h.elim
def Same(H H':Hp):Prop:=∀b o,H b=some o->H' b=some o
theorem Same.refl(H:Hp):Same H H:=fun _ _ h=>h
theorem Same.trans{H H1 H2:Hp}(a:Same H H1)(b:Same H1 H2):Same H H2:=fun c o h=>b c o (a c o h)
end L2
set_option maxHeartbeats 4000000
namespace VL
open PySem L2
abbrev D:=PyData
inductive Oc where
 |l (ds:List D)|d (es:List (bf×D))
inductive Sl where
 |un|fz (d:D)|own (c:Oc)|fr (ds:List D)
abbrev Sl.ow(ds:List D):Sl:=.own (.l ds)
abbrev Sl.od(es:List (bf×D)):Sl:=.own (.d es)
noncomputable def nD:bf->D
 |.inl i=>.int i
 |.inr x=>.str x
noncomputable def Ex(n:Str)(ds:List (Str×D)):List (D×D):=(.str "ins",.str n)::ds.map fun q=>(.str q.1,q.2)
noncomputable def CK(es:List (bf×Int)):List (D×D):=es.map fun p=>(nD p.1,.int p.2)
abbrev Dv:=List Sl
inductive Fl where
 |nx|bk|ct|rt (d:D)
abbrev Sf:=Dv->Option (Fl×Dv)
@[simp] noncomputable def o2(f1 f2:Dv->Option D)(g:D->D->Option D):Dv->Option D:=fun δ=>(f1 δ).bind fun x=>(f2 δ).bind fun y=>g x y
@[simp] noncomputable def o1(f:Dv->Option D)(g:D->Option D):Dv->Option D:=fun δ=>(f δ).bind g
@[simp] noncomputable def os(f:Dv->Option (List D))(g:List D->Option D):Dv->Option D:=fun δ=>(f δ).bind g
noncomputable def asB:D->Option Bool
 |.bool b=>some b
 |_=>none
@[simp] theorem xP(b:Bool):asB (.bool b)=some b:=rfl
@[simp] noncomputable def ob(f:Dv->Option D):Dv->Option Bool:=fun δ=>(f δ).bind asB
@[simp] noncomputable def HV(t u:Dv->Option Bool):Dv->Option Bool:=fun δ=>(t δ).bind fun b=>if b=true then u δ else some false
@[simp] noncomputable def x9(t u:Dv->Option Bool):Dv->Option Bool:=fun δ=>(t δ).bind fun b=>if b=true then some true else u δ
@[simp] noncomputable def HS(t:Dv->Option Bool):Dv->Option Bool:=fun δ=>(t δ).map (!·)
@[simp] noncomputable def AJ(f1 f2:Dv->Option D):Dv->Option D:=fun δ=>(f1 δ).bind fun x=>(asB x).bind fun b=>if b=true then f2 δ else some (.bool false)
@[simp] noncomputable def HR(f1 f2:Dv->Option D):Dv->Option D:=fun δ=>(f1 δ).bind fun x=>(asB x).bind fun b=>if b=true then some (.bool true)else f2 δ
@[simp] noncomputable def Ic(d:D):Option D:=(asB d).map fun b=>.bool (!b)
@[simp] noncomputable def vo(t:Dv->Option Bool)(f1 f2:Dv->Option D):Dv->Option D:=fun δ=>(t δ).bind fun b=>if b=true then f1 δ else f2 δ
noncomputable def DB:Option Sl->Option D
 |some (.fz d)=>some d
 |some (.fr ds)=>some (.list ds)
 |_=>none
@[simp] theorem FT(ds:List D):DB (some (.fr ds))=some (.list ds):=rfl
@[simp] theorem FS(d:D):DB (some (.fz d))=some d:=rfl
@[simp] noncomputable def oV(i:Nat):Dv->Option D:=fun δ=>DB δ[i]?
@[simp] noncomputable def oC(d:D):Dv->Option D:=fun _=>some d
@[simp] noncomputable def au:Dv->Option (List D):=fun _=>some []
@[simp] noncomputable def ae(f:Dv->Option D)(fs:Dv->Option (List D)):Dv->Option (List D):=fun δ=>(f δ).bind fun x=>(fs δ).bind fun xs=>some (x::xs)
noncomputable def cb(ds:List D):Option D:=if ds.length<=sizeLine then some (.tuple ds)else none
noncomputable def oO(ds:List D):Option D:=if ds.length<=sizeLine then some (.list ds)else none
theorem il{ds:List D}(h:ds.length<=16777216):cb ds=some (.tuple ds):=if_pos h
theorem ti{ds:List D}(h:ds.length<=16777216):oO ds=some (.list ds):=if_pos h
@[simp] theorem G8:cb []=some (.tuple []):=rfl
@[simp] theorem G7(a:D):cb [a]=some (.tuple [a]):=il (by simp)
@[simp] theorem G6(a b:D):cb [a,b]=some (.tuple [a,b]):=il (by simp)
@[simp] theorem G5(a b c:D):cb [a,b,c]=some (.tuple [a,b,c]):=il (by simp)
@[simp] theorem G4(a b c d:D):cb [a,b,c,d]=some (.tuple [a,b,c,d]):=il (by simp)
@[simp] theorem G3(a b c d e:D):cb [a,b,c,d,e]=some (.tuple [a,b,c,d,e]):=il (by simp)
@[simp] theorem G2(a b c d e f g h:D):cb [a,b,c,d,e,f,g,h]=some (.tuple [a,b,c,d,e,f,g,h]):=il (by simp)
@[simp] theorem Hi:oO []=some (.list []):=rfl
@[simp] theorem Hh(a b c:D):oO [a,b,c]=some (.list [a,b,c]):=ti (by simp)
instance (i j:Int):Decidable (IntMulOk i j):=by unfold IntMulOk;infer_instance
noncomputable def iI(g:Int->Int->Int):D->D->Option D
 |.int i,.int j=>some (.int (g i j))
 |_,_=>none
noncomputable def iC(C:Int->Int->Bool)(g:Int->Int->Int):D->D->Option D
 |.int i,.int j=>if C i j=true then some (.int (g i j))else none
 |_,_=>none
noncomputable def iB(g:Int->Int->Bool):D->D->Option D
 |.int i,.int j=>some (.bool (g i j))
 |_,_=>none
@[simp] theorem Gp(g:Int->Int->Int)(i j:Int):iI g (.int i) (.int j)=some (.int (g i j)):=rfl
@[simp] theorem Gq(g:Int->Int->Bool)(i j:Int):iB g (.int i) (.int j)=some (.bool (g i j)):=rfl
theorem lX{C:Int->Int->Bool}{g:Int->Int->Int}{i j:Int}(h:C i j=true):iC C g (.int i) (.int j)=some (.int (g i j)):=if_pos h
noncomputable def GC(i j:Int):Bool:=decide (IntMulOk i j)
noncomputable def GE(i j:Int):Bool:=decide (0<j/\j<1073741824)
noncomputable def GD(i j:Int):Bool:=decide (0<j)
noncomputable def GB(i j:Int):Bool:=decide (0<=j/\(Builtin.Int.intBits i:Int)+j<=2^27)
noncomputable def GA(i j:Int):Bool:=decide (0<=j)
abbrev ce:=iI fun i j=>i-j
abbrev dH:=iC GC fun i j=>i*j
abbrev fQ:=iC GE fun i j=>i/j
abbrev bV:=iC GD fun i j=>i%j
abbrev gJ:=iC GB fun i j=>i*2^j.toNat
abbrev iP:=iC GA fun i j=>i/2^j.toNat
abbrev gG:=iI Builtin.bitAnd
abbrev rA:=iI Builtin.bitOr
abbrev iM:=iI Builtin.bitXor
abbrev Hg:=iB fun i j=>decide (i<j)
@[simp] theorem p7{i j:Int}(h:IntMulOk i j):dH (.int i) (.int j)=some (.int (i*j)):=lX (decide_eq_true h)
@[simp] theorem EK{i j:Int}(h:0<j)(h2:j<1073741824):fQ (.int i) (.int j)=some (.int (i/j)):=lX (decide_eq_true ⟨h,h2⟩)
@[simp] theorem gS{i j:Int}(h:0<j):bV (.int i) (.int j)=some (.int (i%j)):=lX (decide_eq_true h)
theorem jc{i j:Int}(h:0<=j)(h2:(Builtin.Int.intBits i:Int)+j<=2^27):gJ (.int i) (.int j)=some (.int (i*2^j.toNat)):=lX (decide_eq_true ⟨h,h2⟩)
@[simp] theorem pI{i j:Int}(h:0<=j):iP (.int i) (.int j)=some (.int (i/2^j.toNat)):=lX (decide_eq_true h)
noncomputable def negD:D->Option D
 |.int i=>some (.int (-i))
 |_=>none
@[simp] theorem Ed(i:Int):negD (.int i)=some (.int (-i)):=rfl
noncomputable def cL:D->D->Option D
 |.int i,.int j=>some (.int (i+j))
 |.str x,.str y=>if x.length+y.length<=sizeLine then some (.str (x++y))else none
 |.list xs,.list ys=>if xs.length+ys.length<=sizeLine then some (.list (xs++ys))else none
 |.tuple xs,.tuple ys=>if xs.length+ys.length<=sizeLine then some (.tuple (xs++ys))else none
 |_,_=>none
@[simp] theorem EY(i j:Int):cL (.int i) (.int j)=some (.int (i+j)):=rfl
noncomputable def vT(d:D):Bool:=PySem.SeqAt.shaped d
noncomputable def cn:D->D->Option D:=fun a b=>if vT a=true/\vT b=true then some (.bool (PyData.eqv a b))else none
noncomputable def neD:D->D->Option D:=fun a b=>if vT a=true/\vT b=true then some (.bool (!PyData.eqv a b))else none
@[simp] theorem zU(i j:Int):cn (.int i) (.int j)=some (.bool (i==j)):=rfl
@[simp] theorem Fb(i j:Int):neD (.int i) (.int j)=some (.bool (!(i==j))):=rfl
@[simp] theorem EH(i j:Bool):cn (.bool i) (.bool j)=some (.bool (i==j)):=rfl
@[simp] theorem Ee(i j:Bool):neD (.bool i) (.bool j)=some (.bool (!(i==j))):=rfl
noncomputable def De(d:D):Bool:=match d with
 |.none=>true
 |_=>false
noncomputable def Ie:D->D->Option D:=fun a b=>match b with
 |.none=>some (.bool (De a))
 |_=>none
noncomputable def Er:D->D->Option D:=fun a b=>match b with
 |.none=>some (.bool (!De a))
 |_=>none
@[simp] theorem Eu(a:D):Ie a .none=some (.bool (De a)):=rfl
@[simp] theorem Cy(a:D):Er a .none=some (.bool (!De a)):=rfl
@[simp] theorem Es:De .none=true:=rfl
@[simp] theorem Fe(i:Int):De (.int i)=false:=rfl
noncomputable def az:D->D->Option D
 |.list xs,.int i=>gF xs i
 |.tuple xs,.int i=>gF xs i
 |_,_=>none
@[simp] theorem Eo(xs:List D)(i:Int):az (.list xs) (.int i)=gF xs i:=rfl
@[simp] theorem Dc(xs:List D)(i:Int):az (.tuple xs) (.int i)=gF xs i:=rfl
theorem d9{α:Type}{xs:List α}{i:Int}{j:Nat}{v:α}(hi:i=j)(h:xs[j]? = some v):gF xs i=some v:=by
 have hl:j<xs.length:=(List.getElem?_eq_some_iff.mp h).1;subst hi;unfold gF Cu;rw[if_pos (by lia),if_pos (by lia)];simpa using h
@[simp] theorem GI{α:Type}(a:α)(r:List α):gF (a::r) 0=some a:=d9 (j:=0) rfl rfl
@[simp] theorem GH{α:Type}(a b:α)(r:List α):gF (a::b::r) 1=some b:=d9 (j:=1) rfl rfl
@[simp] theorem GG{α:Type}(a b c:α)(r:List α):gF (a::b::c::r) 2=some c:=d9 (j:=2) rfl rfl
@[simp] theorem Hs{α:Type}(a b c d:α)(r:List α):gF (a::b::c::d::r) 3=some d:=d9 (j:=3) rfl rfl
@[simp] theorem Hr{α:Type}(a b c d e:α)(r:List α):gF (a::b::c::d::e::r) 4=some e:=d9 (j:=4) rfl rfl
@[simp] theorem Hq{α:Type}(a b c d e f:α)(r:List α):gF (a::b::c::d::e::f::r) 5=some f:=d9 (j:=5) rfl rfl
@[simp] theorem Iz{α:Type}(a b c d e f g:α)(r:List α):gF (a::b::c::d::e::f::g::r) 6=some g:=d9 (j:=6) rfl rfl
@[simp] theorem Iy{α:Type}(a b c d e f g h:α)(r:List α):gF (a::b::c::d::e::f::g::h::r) 7=some h:=d9 (j:=7) rfl rfl
noncomputable def eA:List D->Option D
 |[.list xs]=>some (.int xs.length)
 |[.tuple xs]=>some (.int xs.length)
 |_=>none
@[simp] theorem Db(xs:List D):eA [.list xs]=some (.int xs.length):=rfl
@[simp] theorem Ci(xs:List D):eA [.tuple xs]=some (.int xs.length):=rfl
noncomputable def zp:List D->Option D
 |[.int i,.int j]=>some (.int (if j<i then j else i))
 |_=>none
noncomputable def wK:List D->Option D
 |[.int i,.int j]=>some (.int (if j>i then j else i))
 |_=>none
@[simp] theorem Eg(i j:Int):zp [.int i,.int j]=some (.int (if j<i then j else i)):=rfl
@[simp] theorem qc(i j:Int):wK [.int i,.int j]=some (.int (if j>i then j else i)):=rfl
noncomputable def uR:List D->Option D
 |[.int i]=>some (.int i)
 |[.bool b]=>some (.int (if b then 1 else 0))
 |_=>none
@[simp] theorem Ew(i:Int):uR [.int i]=some (.int i):=rfl
@[simp] theorem Dg(b:Bool):uR [.bool b]=some (.int (if b then 1 else 0)):=rfl
noncomputable def AM:List D->Option D
 |[.list xs]=>some (.list xs)
 |[.tuple xs]=>some (.list xs)
 |_=>none
@[simp] theorem Cg(xs:List D):AM [.list xs]=some (.list xs):=rfl
@[simp] theorem AL(xs:List D):AM [.tuple xs]=some (.list xs):=rfl
noncomputable def bY:List D->Option D
 |[.list xs]=>some (.tuple xs)
 |[.tuple xs]=>some (.tuple xs)
 |_=>none
@[simp] theorem Aw(xs:List D):bY [.list xs]=some (.tuple xs):=rfl
@[simp] theorem yu(xs:List D):bY [.tuple xs]=some (.tuple xs):=rfl
noncomputable def kq:D->Option D
 |.int i=>some (.int (Builtin.Int.intBits i))
 |_=>none
@[simp] theorem vd(i:Int):kq (.int i)=some (.int (Builtin.Int.intBits i)):=rfl
noncomputable def Hz:D->String
 |.none=>"NoneType"
 |.bool _=>"bool"
 |.int _=>"int"
 |.str _=>"str"
 |.list _=>"list"
 |.tuple _=>"tuple"
 |.dict _=>"dict"
noncomputable def Gn(t T:String):Bool:=t==T||(t == "bool" && T == "int")
noncomputable def Et:D->Bool
 |.dict _=>true
 |_=>false
noncomputable def uP(T:String)(d:D):Option D:=if Et d=true then none else if T = "int" \/ T = "bool" \/ T = "str" \/ T = "list" \/ T = "tuple" then some (.bool (Gn (Hz d) T))else none
@[simp] theorem AT(i:Int):uP "int" (.int i)=some (.bool true):=rfl
@[simp] theorem zH(i:Int):uP "bool" (.int i)=some (.bool false):=rfl
@[simp] theorem zG(i:Bool):uP "int" (.bool i)=some (.bool true):=rfl
@[simp] theorem yj(i:Bool):uP "bool" (.bool i)=some (.bool true):=rfl
@[simp] theorem vp(xs:List D):uP "tuple" (.tuple xs)=some (.bool true):=rfl
@[simp] theorem yi(xs:List D):uP "list" (.list xs)=some (.bool true):=rfl
@[simp] noncomputable def aV(f:Dv->Option D):Sf:=fun δ=>(f δ).bind fun d=>some (.rt d,δ)
@[simp] noncomputable def aL(i:Nat)(f:Dv->Option D):Sf:=fun δ=>(f δ).bind fun d=>some (.nx,δ.set i (.fz d))
@[simp] noncomputable def AD(f:Dv->Option D):Sf:=fun δ=>(f δ).bind fun _=>some (.nx,δ)
@[simp] noncomputable def jg:Sf:=fun δ=>some (.nx,δ)
@[simp] noncomputable def Iu:Sf:=fun δ=>some (.bk,δ)
@[simp] noncomputable def Ir:Sf:=fun δ=>some (.ct,δ)
@[simp] noncomputable def sSeq(s t:Sf):Sf:=fun δ=>(s δ).bind fun r=>match r with
 | (.nx,δ')=>t δ'
 |r=>some r
@[simp] noncomputable def sIf(t:Dv->Option Bool)(u w:Sf):Sf:=fun δ=>(t δ).bind fun c=>if c=true then u δ else w δ
noncomputable def qx(i:Nat)(δ:Dv):Dv:=match δ[i]? with
 |some (.own (.l ds))=>δ.set i (.fz (.list ds))
 |_=>δ
@[simp] noncomputable def gN(i:Nat):D->Dv->Option Dv:=fun d δ=>some (δ.set i (.fz d))
noncomputable def loop(g:D->Dv->Option Dv)(b:Sf):List D->Sf
 |[],δ=>some (.nx,δ)
 |d::ds,δ=>(g d δ).bind fun δ1=>(b δ1).bind fun r=>match r with
  | (.nx,δ2)=>loop g b ds δ2
  | (.ct,δ2)=>loop g b ds δ2
  | (.bk,δ2)=>some (.nx,δ2)
  | (.rt x,δ2)=>some (.rt x,δ2)
@[simp] theorem Eh(g:D->Dv->Option Dv)(b:Sf)(δ:Dv):loop g b [] δ = some (.nx,δ):=rfl
@[simp] noncomputable def jL(f:Dv->Option (List D))(g:D->Dv->Option Dv)(b:Sf):Sf:=fun δ=>(f δ).bind fun ds=>loop g b ds δ
noncomputable def eZ(t:Dv->Option Bool)(b:Sf):Nat->Sf
 | 0,_=>none
 |n+1,δ=>(t δ).bind fun c=>if c=true then(b δ).bind fun r=>match r with
   | (.nx,δ2)=>eZ t b n δ2
   | (.ct,δ2)=>eZ t b n δ2
   | (.bk,δ2)=>some (.nx,δ2)
   | (.rt x,δ2)=>some (.rt x,δ2)
  else some (.nx,δ)
noncomputable def mO(lo:Int)(n:Nat):List D:=(List.range n).map fun k=>.int (lo+(k:Nat))
noncomputable def bL:List D->Option (List D)
 |[.int j]=>if j<2^62 /\ -(2^62)<=j then some (mO 0 j.toNat)else none
 |_=>none
theorem jM{j:Int}(h:j<4611686018427387904)(h2:-4611686018427387904<=j):bL [.int j]=some (mO 0 j.toNat):=if_pos ⟨h,h2⟩
@[simp] noncomputable def oL(fs:Dv->Option (List D))(g:List D->Option (List D)):Dv->Option (List D):=fun δ=>(fs δ).bind g
noncomputable def eY:D->Option (List D)
 |.list xs=>some xs
 |.tuple xs=>some xs
 |_=>none
@[simp] theorem Dd(xs:List D):eY (.list xs)=some xs:=rfl
@[simp] theorem Cw(xs:List D):eY (.tuple xs)=some xs:=rfl
noncomputable def Cf:D->Option (List D)
 |.list xs=>some xs
 |_=>none
noncomputable def Fu:D->Option (List D)
 |.tuple xs=>some xs
 |_=>none
@[simp] noncomputable def oI(f:Dv->Option D)(g:D->Option (List D)):Dv->Option (List D):=fun δ=>(f δ).bind g
noncomputable def yM(lo hi st:Int):Nat:=if lo<hi then((hi-lo-1)/st+1).toNat else 0
@[simp] noncomputable def Iw:Dv->Option (Option Int):=fun _=>some none
noncomputable def asI:D->Option (Option Int)
 |.int i=>some (some i)
 |_=>none
@[simp] theorem Fn(i:Int):asI (.int i)=some (some i):=rfl
@[simp] noncomputable def oP(f:Dv->Option D):Dv->Option (Option Int):=fun δ=>(f δ).bind asI
noncomputable def qy(xs:List D)(lo hi:Option Int):List D:=(xs.drop (HT.sIx xs.length 0 lo)).take (HT.sIx xs.length xs.length hi-HT.sIx xs.length 0 lo)
noncomputable def E5:D->Option Int->Option Int->Option D
 |.list xs,lo,hi=>some (.list (qy xs lo hi))
 |.tuple xs,lo,hi=>some (.tuple (qy xs lo hi))
 |_,_,_=>none
@[simp] noncomputable def Hf(f:Dv->Option D)(l u:Dv->Option (Option Int)):Dv->Option D:=fun δ=>(f δ).bind fun x=>(l δ).bind fun i=>(u δ).bind fun j=>E5 x i j
noncomputable def aw(N:List Str)(as:List D):Dv:=as.map .fz++List.replicate (N.length-as.length) .un
noncomputable def runB(N:List Str)(n:Nat)(b:Sf):List D->Option D:=fun as=>if as.length=n then(b (aw N as)).bind fun r=>match r with
  | (.rt d,_)=>some d
  | (.nx,_)=>some .none
  |_=>none
 else none
end VL
namespace VL
open PySem PySem.Spec PyProof.Rows L2
abbrev Fg:=PySem.W.Frag
abbrev St:=L2.St
noncomputable def Ii(a C:Addr):HO:=.ext fun h=>∃o,h.get? a=some o/\o.cls=.ref C/\∃vs,o.data=.fields vs/\vs[2]? = some .none
theorem Rd.same{H H':Hp}{a:Addr}{u:HO}(h:Rd H a u)(s:Same H H'):Rd H' a u:=by
 rcases h with h|⟨o,h⟩
 ·exact .inl (s _ _ h)
 ·exact .inr ⟨o,s _ _ h⟩
inductive FI (K:Fg) (Z:Hp):V->D->Prop
 |int (i:Int):FI K Z (.int i) (.int i)
 |pair {b:Addr} {i j:Int}:SqT K Z b [.int i,.int j]->FI K Z (.ref b) (.tuple [.int i,.int j])
inductive FF (K:Fg) (Z:Hp):V->D->Prop
 |int (i:Int):FF K Z (.int i) (.int i)
 |lst {b:Addr} {xs:List V} {ds:List D}:Z b=some (.lst xs)->Paired (FI K Z) xs ds->FF K Z (.ref b) (.list ds)
inductive LamIs:Str->Arguments->Expr->Scope->Prop
 |id {p q:Pos} {m:List (Str×Const)}:LamIs "<lambda> id" { posonlyargs:=[],args:=[{ arg:="tie",annotation:=none,pos:=p }],vararg:=none,kwonlyargs:=[],kw_defaults:=[],kwarg:=none,defaults:=[] } (.Name "tie" q)
   { kind:=.function,names:=[("tie",.local)],isGenerator:=false,isCoroutine:=false,more:=m }
 |xor {p p' q q' r:Pos} {m:List (Str×Const)}:LamIs "<lambda> xor" { posonlyargs:=[],args:=[{ arg:="tie",annotation:=none,pos:=p },{ arg:="other",annotation:=none,pos:=p' }],vararg:=none,kwonlyargs:=[],kw_defaults:=[],kwarg:=none,defaults:=[] }
   (.BinOp (.Name "tie" q) .BitXor (.Name "other" q') r) { kind:=.function,names:=[("tie",.local),("other",.local)],isGenerator:=false,isCoroutine:=false,more:=m }
def E1(n:Str)(ob:Obj)(c:Addr):Prop:=∃(qual:Str) (params:Arguments) (body:Expr) (scope:Scope) (pm ctv:Value),ob=PySem.W.kla_obj "<lambda>" qual params body scope [] pm c ctv/\LamIs n params body scope
inductive LamIsC:Str->Arguments->Expr->Scope->Prop
 |shl {p q r t u v w x y z:Pos} {m:List (Str×Const)}:LamIsC "<lambda> shl" { posonlyargs:=[],args:=[{ arg:="word",annotation:=none,pos:=p }],vararg:=none,kwonlyargs:=[],kw_defaults:=[],kwarg:=none,defaults:=[] }
   (.BinOp (.BinOp (.Subscript (.Name "word" q) (.Constant (.int 0) 0 r) t) .LShift (.Name "wires" u) v) .BitOr (.Subscript (.Name "word" w) (.Constant (.int 1) 0 x) y) z)
   { kind:=.function,names:=[("word",.local),("wires",.free)],isGenerator:=false,isCoroutine:=false,more:=m }
def sB(n:Str)(ob:Obj)(c cl:Addr):Prop:=∃(qual:Str) (params:Arguments) (body:Expr) (scope:Scope) (pm ctv:Value),ob=PySem.W.kla_obj "<lambda>" qual params body scope [("wires",cl)] pm c ctv/\LamIsC n params body scope
inductive Opq (K:Fg) (Z:Hp) (a:Addr):List (D×D)->Prop
 |cap {n:Str} {ob oc:Obj} {c cl:Addr} {w:Int} {t:Tok}:PySem.W.nsIn K mainGlobals n=some none->sB n ob c cl->Z a=some (.frz ob (.cdc c cl oc))->oc.data=.cell (some (.int w t))->Opq K Z a [(.str "cap",.str n),(.str "wires",.int w)]
 |lam {n:Str} {ob:Obj} {c:Addr}:PySem.W.nsIn K mainGlobals n=some none->E1 n ob c->Z a=some (.frz ob (.cod c))->Opq K Z a [(.str "fn",.str n)]
 |exc {n:Str} {C:Addr}:PySem.W.nsIn K mainGlobals n=some (some (.ref C))->Rd Z a (Ii a C)->Opq K Z a [(.str "exc",.str n)]
 |fn {n:Str}:PySem.W.nsIn K mainGlobals n=some (some (.ref a))->Opq K Z a [(.str "fn",.str n)]
 |ins {n:Str} {C dx:Addr} {fs:List (Str×V)} {ds:List (Str×D)}:PySem.W.nsIn K mainGlobals n=some (some (.ref C))->Z a=some (.ins C dx fs)->Paired (fun(p:Str×V) (q:Str×D)=>p.1=q.1/\FF K Z p.2 q.2) fs ds->Opq K Z a (Ex n ds)
 |dct {kvs:List (D×D)} {es:List (bf×Int)}:kvs=CK es->Z a=some (.dK (es.map fun p=>(p.1,V.int p.2)))->Opq K Z a kvs
theorem tK{es:List (bf×Int)}{a:D}{x:Str}{r:List (D×D)}(h:(a,PyData.str x)::r=CK es):False:=by
 cases es with
 |nil=>cases h
 |cons e es=>simp[CK]at h
theorem SqT.same{K:Fg}{H H':Hp}{a:Addr}{xs:List V}(h:SqT K H a xs)(s:Same H H'):SqT K H' a xs:=by
 rcases h with h|h
 ·exact .inl (Rd.same h s)
 ·exact .inr h
theorem FI.same{K:Fg}{Z Z':Hp}(s:Same Z Z'){v:V}{d:D}(h:FI K Z v d):FI K Z' v d:=by
 cases h with
 |int i=>exact .int i
 |pair q=>exact .pair (SqT.same q s)
theorem FF.same{K:Fg}{Z Z':Hp}(s:Same Z Z'){v:V}{d:D}(h:FF K Z v d):FF K Z' v d:=by
 cases h with
 |int i=>exact .int i
 |lst q r=>exact .lst (s _ _ q) (Paired.mapP r fun _ _=>FI.same s)
theorem Opq.same{K:Fg}{Z Z':Hp}{a:Addr}{kvs:List (D×D)}(s:Same Z Z')(h:Opq K Z a kvs):Opq K Z' a kvs:=by
 cases h with
 |lam h1 h2 h3=>exact .lam h1 h2 (s _ _ h3)
 |cap h1 h2 h3 h4=>exact .cap h1 h2 (s _ _ h3) h4
 |exc h1 h2=>exact .exc h1 (Rd.same h2 s)
 |fn h1=>exact .fn h1
 |ins h1 h2 h3=>exact .ins h1 (s _ _ h2) (Paired.mapP h3 fun _ _ q=>⟨q.1,q.2.same s⟩)
 |dct h1 h2=>exact .dct h1 (s _ _ h2)
mutual
inductive Rep (K:Fg) (Z:Hp):V->D->Prop
 |non:Rep K Z .non .none
 |bl (b:Bool):Rep K Z (.bl b) (.bool b)
 |int (i:Int):Rep K Z (.int i) (.int i)
 |str (x:Str):Rep K Z (.str x) (.str x)
 |tup {a:Addr} {xs:List V} {ds:List D}:SqT K Z a xs->Reps K Z xs ds->Rep K Z (.ref a) (.tuple ds)
 |lst {a:Addr} {xs:List V} {ds:List D}:SqL K Z a xs->Reps K Z xs ds->Rep K Z (.ref a) (.list ds)
 |opq {a:Addr} {kvs:List (D×D)}:Opq K Z a kvs->Rep K Z (.ref a) (.dict kvs)
 |gdc {a:Addr} {kvs:List (bf×V)} {es:List (bf×D)} {l:List (D×D)}:Z a=some (.dK kvs)->es.map (·.1)=kvs.map (·.1)->Reps K Z (kvs.map (·.2)) (es.map (·.2))->l=es.map (fun p=>(nD p.1,p.2))->Rep K Z (.ref a) (.dict ((.none,.none)::l))
inductive Reps (K:Fg) (Z:Hp):List V->List D->Prop
 |nil:Reps K Z [] []
 |cons {v:V} {d:D} {vs:List V} {ds:List D}:Rep K Z v d->Reps K Z vs ds->Reps K Z (v::vs) (d::ds)
end
theorem SqL.same{K:Fg}{H H':Hp}{a:Addr}{xs:List V}(h:SqL K H a xs)(s:Same H H'):SqL K H' a xs:=by
 rcases h with h|h
 ·exact .inl (Rd.same h s)
 ·exact .inr h
mutual
theorem Rep.same{K:Fg}{Z Z':Hp}(s:Same Z Z'):∀{v:V} {d:D},Rep K Z v d->Rep K Z' v d
 |_,_,.non=>.non
 |_,_,.bl b=>.bl b
 |_,_,.int i=>.int i
 |_,_,.str x=>.str x
 |_,_,.tup h r=>.tup (SqT.same h s) (Reps.same s r)
 |_,_,.lst h r=>.lst (SqL.same h s) (Reps.same s r)
 |_,_,.opq h=>.opq (Opq.same s h)
 |_,_,.gdc h k r e=>.gdc (s _ _ h) k (Reps.same s r) e
theorem Reps.same{K:Fg}{Z Z':Hp}(s:Same Z Z'):∀{vs:List V} {ds:List D},Reps K Z vs ds->Reps K Z' vs ds
 |_,_,.nil=>.nil
 |_,_,.cons h r=>.cons (Rep.same s h) (Reps.same s r)
end
theorem Reps.length{K:Fg}{Z:Hp}:∀{vs:List V} {ds:List D},Reps K Z vs ds->vs.length=ds.length
 |_,_,.nil=>rfl
 |_,_,.cons _ r=>congrArg (· + 1) (Reps.length r)
theorem Reps.get{K:Fg}{Z:Hp}:∀{vs:List V} {ds:List D} {i:Nat} {d:D},Reps K Z vs ds->ds[i]? = some d->∃v,vs[i]? = some v/\Rep K Z v d
 |_,_,_,_,.nil,e=>by simp at e
 |_,_,0,_,.cons r _,e=>by simp at e;subst e;exact⟨_,rfl,r⟩
 |_,_,i+1,d,.cons _ t,e=>by
  obtain⟨u,h1,h2⟩:=Reps.get (i:=i) (d:=d) t (by simpa using e);exact⟨u,by simpa using h1,h2⟩
theorem Reps.append{K:Fg}{Z:Hp}:∀{xs ys:List V} {us ws:List D},Reps K Z xs us->Reps K Z ys ws->Reps K Z (xs++ys) (us++ws)
 |_,_,_,_,.nil,s=>s
 |_,_,_,_,.cons r t,s=>.cons r (Reps.append t s)
theorem Reps.take{K:Fg}{Z:Hp}:∀{xs:List V} {us:List D} (n:Nat),Reps K Z xs us->Reps K Z (xs.take n) (us.take n)
 |_,_,0,_=>.nil
 |_,_,_+1,.nil=>.nil
 |_,_,n+1,.cons r t=>.cons r (Reps.take n t)
theorem Reps.drop{K:Fg}{Z:Hp}:∀{xs:List V} {us:List D} (n:Nat),Reps K Z xs us->Reps K Z (xs.drop n) (us.drop n)
 |_,_,0,r=>r
 |_,_,_+1,.nil=>.nil
 |_,_,n+1,.cons _ t=>Reps.drop n t
theorem Rep.int_eq{K:Fg}{Z:Hp}{v:V}{i:Int}(h:Rep K Z v (.int i)):v=.int i:=by cases h;rfl
theorem Rep.bl_eq{K:Fg}{Z:Hp}{v:V}{b:Bool}(h:Rep K Z v (.bool b)):v=.bl b:=by cases h;rfl
theorem Reps.ints{K:Fg}{Z:Hp}:∀ns:List Int,Reps K Z (ns.map V.int) (ns.map PyData.int)
 |[]=>.nil
 |n::r=>.cons (.int n) (Reps.ints r)
mutual
theorem Rep.reads{X:Cx}{pins:List (Addr×Obj)}{σ:St}{H Z:Hp}{s:Shared}(I:Inv X pins σ H s)(zh:Same Z H):∀{v:V} {d:D} {u:Value},Rep X.K Z v d->RelV v u->d.canLay0=true->∃as,Reads s.heap u d as
 |_,_,u,.non,r,_=>by cases(show u=Value.none from r);exact⟨_,.none⟩
 |_,_,u,.bl b,r,_=>by cases(show u=Value.bool b from r);exact⟨_,.bool b⟩
 |_,_,u,.int i,r,_=>by obtain⟨t,rfl⟩:=(show ∃t,u=Value.int i t from r);exact⟨_,.int i t⟩
 |_,_,u,.str x,r,_=>by obtain⟨t,rfl⟩:=(show ∃t,u=Value.str x t from r);exact⟨_,.str x t⟩
 |_,_,u,.tup (a:=a) h q,r,hc=>by
  cases(show u=Value.ref a from r);obtain⟨its,rv,ht,_⟩:=I.tuple (SqT.same h zh);obtain⟨as,ra⟩:=Reps.reads I zh q rv hc;obtain⟨o,e,c,n,dd⟩:=ht;exact⟨_,reads_tuple_at e c dd (by simpa using ra)⟩
 |_,_,u,.lst (a:=a) h q,r,hc=>by
  cases(show u=Value.ref a from r);obtain⟨its,rv,ht,_⟩:=I.list (SqL.same h zh);obtain⟨as,ra⟩:=Reps.reads I zh q rv hc;obtain⟨o,n,e,c,_,dd⟩:=ht;exact⟨_,reads_list_at e c dd (by simpa using ra)⟩
 |_,_,u,.opq h,r,hc=>by cases hc
 |_,_,u,.gdc h k q e,r,hc=>by cases hc
theorem Reps.reads{X:Cx}{pins:List (Addr×Obj)}{σ:St}{H Z:Hp}{s:Shared}(I:Inv X pins σ H s)(zh:Same Z H):∀{vs:List V} {ds:List D} {us:List Value},Reps X.K Z vs ds->Vals vs us->PyData.canLayAll0 ds=true->∃as,ReadsAll s.heap us ds as
 |_,_,_,.nil,.nil,_=>⟨_,.nil⟩
 |_,_,_,.cons h q,.cons r t,hc=>by
  have hc':=Bool.and_eq_true_iff.mp hc;obtain⟨as,ha⟩:=Rep.reads I zh h r hc'.1;obtain⟨bs,hb⟩:=Reps.reads I zh q t hc'.2;exact⟨_,.cons ha hb⟩
end
noncomputable def Cc:HO->Bool
 |.frz _ (.lst _)=>false
 |_=>true
def NoF(Z Z':Hp):Prop:=∀b o xs,Z' b=some (.frz o (.lst xs))->Z b=some (.frz o (.lst xs))
theorem NoF.refl(Z:Hp):NoF Z Z:=fun _ _ _ e=>e
theorem NoF.trans{Z Z1 Z2:Hp}(a:NoF Z Z1)(b:NoF Z1 Z2):NoF Z Z2:=fun c o xs e=>a c o xs (b c o xs e)
theorem NoF.upd{Z Z':Hp}(a:NoF Z Z')(p:Addr){u:HO}(hu:Cc u=true:=by rfl):NoF Z (upd Z' p u):=fun b o xs e=>by
 by_cases hb:b=p
 ·subst hb
  rw[aJ]at e;cases e;cases hu
 ·rw[aE hb]at e
  exact a b o xs e
structure New (Z H Z' H':Hp):Prop where
 z:Same Z Z'
 h:Same H H'
 zh:Same Z' H'
 o:∀b,H b≠none->Z' b=Z b
 nf:NoF Z Z'
theorem New.refl{Z H:Hp}(zh:Same Z H):New Z H Z H:=⟨Same.refl _,Same.refl _,zh,fun _ _=>rfl,NoF.refl _⟩
theorem New.trans{Z H Z1 H1 Z2 H2:Hp}(a:New Z H Z1 H1)(b:New Z1 H1 Z2 H2):New Z H Z2 H2:=
 ⟨a.z.trans b.z,a.h.trans b.h,b.zh,fun c hc=>by
  have:H1 c≠none:=by
   cases e:H c with
   |none=>exact absurd e hc
   |some o=>rw[a.h c o e];intro z;cases z
  rw[b.o c this,a.o c hc],a.nf.trans b.nf⟩
theorem dh{H:Hp}{p:Addr}{o:HO}(h:H p=none):Same H (upd H p o):=fun b u e=>by
 rw[aE (aW e h)];exact e
theorem oW{Z H:Hp}(zh:Same Z H){p:Addr}(h:H p=none):Z p=none:=by
 cases e:Z p with
 |none=>rfl
 |some o=>rw[zh p o e]at h;cases h
theorem New.add{Z H:Hp}(zh:Same Z H){p:Addr}(hp:H p=none)(o:HO)(hf:Cc o=true:=by rfl):New Z H (upd Z p o) (upd H p o) where
 nf:=(NoF.refl Z).upd p hf
 z:=dh (oW zh hp)
 h:=dh hp
 zh:=fun b u e=>by
  by_cases hb:b=p
  ·subst hb;rw[aJ]at e ⊢;exact e
  ·rw[aE hb]at e ⊢;exact zh b u e
 o:=fun b hb=>by
  have:b≠p:=fun z=>hb (z ▸ hp)
  rw[aE this]
def GS(K:Fg)(Z:Hp)(kvs:List (bf×V))(es:List (bf×D)):Prop:=es.map (·.1)=kvs.map (·.1)/\Reps K Z (kvs.map (·.2)) (es.map (·.2))
inductive OwR (K:Fg) (Z:Hp):HO->Oc->Prop
 |lst {xs:List V} {ds:List D}:Reps K Z xs ds->OwR K Z (.lst xs) (.l ds)
 |dct {kvs:List (bf×V)} {es:List (bf×D)}:GS K Z kvs es->OwR K Z (.dK kvs) (.d es)
theorem OwR.same{K:Fg}{Z Z':Hp}{o:HO}{c:Oc}(h:OwR K Z o c)(s:Same Z Z'):OwR K Z' o c:=by
 cases h with
 |lst r=>exact .lst (r.same s)
 |dct r=>exact .dct ⟨r.1,r.2.same s⟩
def FrOk(K:Fg)(H₀ Z₀ Z:Hp)(δ:Dv)(σ:St):Prop:=∀(i:Nat) ds,δ[i]? = some (.fr ds)->∃a xs,σ[i]? = some (some (.ref a))/\H₀ a=none/\Z₀ a=none/\Z a=some (.lst xs)/\Reps K Z xs ds
theorem FrOk.same{K:Fg}{H₀ Z₀ Z Z':Hp}{δ:Dv}{σ:St}(h:FrOk K H₀ Z₀ Z δ σ)(s:Same Z Z'):FrOk K H₀ Z₀ Z' δ σ:=fun i ds e=>
 let ⟨a,xs,h1,h2,h3,h4,h5⟩:=h i ds e; ⟨a,xs,h1,h2,h3,s _ _ h4,h5.same s⟩
theorem FrOk.put{K:Fg}{H₀ Z₀ Z:Hp}{δ:Dv}{σ σ':St}(h:FrOk K H₀ Z₀ Z δ σ){i:Nat}{x:Sl}(hx:∀ds,x≠Sl.fr ds)(hs:∀j:Nat,i≠j -> σ'[j]? = σ[j]?):FrOk K H₀ Z₀ Z (δ.set i x) σ':=fun j ds e=>by
 by_cases hj:i=j
 ·subst hj
  have hl:i < δ.length:=by have:=(List.getElem?_eq_some_iff.mp e).1;simpa using this
  rw[List.getElem?_set_self hl]at e;exact absurd (Option.some.inj e) (hx ds)
 ·rw[List.getElem?_set_ne hj]at e
  obtain⟨a,xs,h1,r⟩:=h j ds e;exact⟨a,xs,by rw[hs j hj];exact h1,r⟩
structure Hold (K:Fg) (H₀ Z₀ Z:Hp) (δ:Dv) (σ:St) (H:Hp):Prop where
 zh:Same Z H
 h0:Same H₀ H
 z0:Same Z₀ Z
 zb:∀b,H₀ b≠none->Z b=Z₀ b
 len:δ.length = σ.length
 fz:∀(i:Nat) d,δ[i]? = some (.fz d)->∃v,σ[i]? = some (some v)/\Rep K Z v d
 own:∀(i:Nat) c,δ[i]? = some (.own c)->∃a o,σ[i]? = some (some (.ref a))/\H₀ a=none/\Z a=none/\H a=some o/\OwR K Z o c
 dja:∀(i j:Nat) c c' a,i≠j -> δ[i]? = some (.own c) -> δ[j]? = some (.own c') -> σ[i]? = some (some (.ref a)) -> σ[j]? ≠ some (some (V.ref a))
 fr:FrOk K H₀ Z₀ Z δ σ
 nf:NoF Z₀ Z
section
variable{K:Fg}{H₀ Z₀ Z Z' H H':Hp}{δ:Dv}{σ:St}
theorem Hold.ow(h:Hold K H₀ Z₀ Z δ σ H)(i:Nat)(ds:List D)(e:δ[i]? = some (.ow ds)):∃a xs,σ[i]? = some (some (.ref a))/\H₀ a=none/\Z a=none/\H a=some (.lst xs)/\Reps K Z xs ds:=by
 obtain⟨a,o,h1,h2,h3,h4,h5⟩:=h.own i _ e;cases h5 with
 |lst r=>exact⟨a,_,h1,h2,h3,h4,r⟩
theorem Hold.new(h:Hold K H₀ Z₀ Z δ σ H)(n:New Z H Z' H'):Hold K H₀ Z₀ Z' δ σ H' where
 zh:=n.zh
 h0:=h.h0.trans n.h
 z0:=h.z0.trans n.z
 zb:=fun b hb=>by
  have:H b≠none:=by
   cases e:H₀ b with
   |none=>exact absurd e hb
   |some o=>rw[h.h0 b o e];intro z;cases z
  rw[n.o b this,h.zb b hb]
 len:=h.len
 fz:=fun i d e=>let ⟨v,a,r⟩:=h.fz i d e; ⟨v,a,r.same n.z⟩
 own:=fun i ds e=>by
  obtain⟨a,xs,h1,h2,h3,h4,h5⟩:=h.own i ds e;exact⟨a,xs,h1,h2,by rw[n.o a (by rw[h4];intro z;cases z)];exact h3,n.h a _ h4,h5.same n.z⟩
 dja:=h.dja
 fr:=h.fr.same n.z
 nf:=h.nf.trans n.nf
theorem Hold.set(h:Hold K H₀ Z₀ Z δ σ H){i:Nat}{v:V}{d:D}(r:Rep K Z v d):Hold K H₀ Z₀ Z (δ.set i (.fz d)) (σ.set i (some v)) H where
 zh:=h.zh
 h0:=h.h0
 z0:=h.z0
 zb:=h.zb
 len:=by simp[h.len]
 fz:=fun j e q=>by
  by_cases hj:i=j
  ·subst hj
   have hl:i < δ.length:=by
    have:=(List.getElem?_eq_some_iff.mp q).1;simpa using this
   rw[List.getElem?_set_self hl]at q;cases q;exact⟨v,List.getElem?_set_self (by rw[<-h.len];exact hl),r⟩
  ·rw[List.getElem?_set_ne hj]at q
   obtain⟨u,a,b⟩:=h.fz j e q;exact⟨u,by rw[List.getElem?_set_ne hj];exact a,b⟩
 own:=fun j es q=>by
  by_cases hj:i=j
  ·subst hj
   have hl:i < δ.length:=by
    have:=(List.getElem?_eq_some_iff.mp q).1;simpa using this
   rw[List.getElem?_set_self hl]at q;cases q
  ·rw[List.getElem?_set_ne hj]at q ⊢
   exact h.own j es q
 dja:=fun j k ds es a hjk q1 q2=>by
  by_cases hj:i=j
  ·subst hj
   have hl:i < δ.length:=by
    have:=(List.getElem?_eq_some_iff.mp q1).1;simpa using this
   rw[List.getElem?_set_self hl]at q1;cases q1
  ·by_cases hk:i=k
   ·subst hk
    have hl:i < δ.length:=by
     have:=(List.getElem?_eq_some_iff.mp q2).1;simpa using this
    rw[List.getElem?_set_self hl]at q2;cases q2
   ·rw[List.getElem?_set_ne hj]at q1
    rw[List.getElem?_set_ne hk]at q2;rw[List.getElem?_set_ne hj,List.getElem?_set_ne hk];exact h.dja j k ds es a hjk q1 q2
 fr:=h.fr.put (fun _ z=>nomatch z) fun _ hj=>List.getElem?_set_ne hj
 nf:=h.nf
theorem Hold.setW(h:Hold K H₀ Z₀ Z δ σ H){i:Nat}{p:Addr}{o:HO}{c:Oc}(hp:H p=none)(r:OwR K Z o c):Hold K H₀ Z₀ Z (δ.set i (.own c)) (σ.set i (some (.ref p))) (upd H p o) where
 zh:=h.zh.trans (dh hp)
 h0:=h.h0.trans (dh hp)
 z0:=h.z0
 zb:=h.zb
 len:=by simp[h.len]
 fz:=fun j e q=>by
  by_cases hj:i=j
  ·subst hj
   have hl:i < δ.length:=by
    have:=(List.getElem?_eq_some_iff.mp q).1;simpa using this
   rw[List.getElem?_set_self hl]at q;cases q
  ·rw[List.getElem?_set_ne hj]at q
   obtain⟨u,a,b⟩:=h.fz j e q;exact⟨u,by rw[List.getElem?_set_ne hj];exact a,b⟩
 own:=fun j es q=>by
  by_cases hj:i=j
  ·subst hj
   have hl:i < δ.length:=by
    have:=(List.getElem?_eq_some_iff.mp q).1;simpa using this
   rw[List.getElem?_set_self hl]at q;cases q;exact⟨p,o,List.getElem?_set_self (by rw[<-h.len];exact hl),oW h.h0 hp,oW h.zh hp,aJ,r⟩
  ·rw[List.getElem?_set_ne hj]at q ⊢
   obtain⟨a,ys,h1,h2,h3,h4,h5⟩:=h.own j es q;exact⟨a,ys,h1,h2,h3,by rw[aE (aW h4 hp)];exact h4,h5⟩
 dja:=fun j k ds es a hjk q1 q2=>by
  have old:∀{m:Nat} {fs:Oc},δ[m]? = some (.own fs) -> σ[m]? ≠ some (some (V.ref p)):=fun{m fs} q z=>by
   obtain⟨b,ys,h1,h2,h3,h4,h5⟩:=h.own m fs q;rw[h1]at z;cases z;rw[hp]at h4;cases h4
  have hl:∀{m:Nat} {x:Sl},(δ.set i x)[m]? ≠ none->m < σ.length:=fun{m x} q=>by
   have:m<(δ.set i x).length:=by
    rcases Nat.lt_or_ge m (δ.set i x).length with g|g
    ·exact g
    ·exact absurd (List.getElem?_eq_none_iff.mpr g) q
   rw[<-h.len];simpa using this
  by_cases hj:i=j
  ·subst hj
   have h1:i < σ.length:=hl (by rw[q1];intro z;cases z);rw[List.getElem?_set_self h1];intro e;cases e;rw[List.getElem?_set_ne hjk]at q2 ⊢;exact old q2
  ·rw[List.getElem?_set_ne hj]at q1 ⊢
   by_cases hk:i=k
   ·subst hk
    have h1:i < σ.length:=hl (by rw[q2];intro z;cases z);intro e z;rw[List.getElem?_set_self h1]at z;cases z;exact old q1 e
   ·rw[List.getElem?_set_ne hk]at q2 ⊢
    exact h.dja j k ds es a hjk q1 q2
 fr:=h.fr.put (fun _ z=>nomatch z) fun _ hj=>List.getElem?_set_ne hj
 nf:=h.nf
theorem Hold.setO(h:Hold K H₀ Z₀ Z δ σ H){i:Nat}{p:Addr}{xs:List V}{ds:List D}(hp:H p=none)(r:Reps K Z xs ds):Hold K H₀ Z₀ Z (δ.set i (.ow ds)) (σ.set i (some (.ref p))) (upd H p (.lst xs)):=h.setW hp (.lst r)
theorem Hold.chgW(h:Hold K H₀ Z₀ Z δ σ H){i:Nat}{p:Addr}{o:HO}{ds es:Oc}(e:δ[i]? = some (.own ds))(ep:σ[i]? = some (some (.ref p)))(r:OwR K Z o es):Hold K H₀ Z₀ Z (δ.set i (.own es)) σ (upd H p o):=by
 obtain⟨a,zs,h1,h2,h3,h4,h5⟩:=h.own i ds e;rw[ep]at h1;cases h1;have hl:i < δ.length:=(List.getElem?_eq_some_iff.mp e).1;refine⟨fun b o' q=>?_,fun b o' q=>?_,h.z0,h.zb,by simp[h.len],fun j d q=>?_,fun j d q=>?_,fun j k d1 d2 a hjk q1 q2=>?_,h.fr.put (fun _ z=>nomatch z) fun _ _=>rfl,h.nf⟩
 ·rw[aE (aW q h3)];exact h.zh b o' q
 ·rw[aE (aW q h2)];exact h.h0 b o' q
 ·by_cases hj:i=j
  ·subst hj
   rw[List.getElem?_set_self hl]at q;cases q
  ·rw[List.getElem?_set_ne hj]at q
   exact h.fz j d q
 ·by_cases hj:i=j
  ·subst hj
   rw[List.getElem?_set_self hl]at q;cases q;exact⟨p,o,ep,h2,h3,aJ,r⟩
  ·rw[List.getElem?_set_ne hj]at q
   obtain⟨b,ws,g1,g2,g3,g4,g5⟩:=h.own j d q;refine⟨b,ws,g1,g2,g3,?_,g5⟩;have:b≠p:=fun z=>by subst z;exact h.dja i j ds d b hj e q ep g1
   rw[aE this];exact g4
 ·have f:∀{m:Nat} {dm:Oc},(δ.set i (.own es))[m]? = some (.own dm)->∃dm',δ[m]? = some (.own dm'):=fun{m dm} q=>by
   by_cases hm:i=m
   ·subst hm;exact⟨ds,e⟩
   ·rw[List.getElem?_set_ne hm]at q;exact⟨dm,q⟩
  obtain⟨e1,g1⟩:=f q1;obtain⟨e2,g2⟩:=f q2;exact h.dja j k e1 e2 a hjk g1 g2
theorem Hold.chg(h:Hold K H₀ Z₀ Z δ σ H){i:Nat}{p:Addr}{xs ys:List V}{ds es:List D}(e:δ[i]? = some (.ow ds))(ep:σ[i]? = some (some (.ref p)))(r:Reps K Z ys es):Hold K H₀ Z₀ Z (δ.set i (.ow es)) σ (upd H p (.lst ys)):=h.chgW e ep (.lst r)
theorem Hold.frz(h:Hold K H₀ Z₀ Z δ σ H){i:Nat}{ds:List D}(e:δ[i]? = some (.ow ds)):∃Z',Same Z Z'/\Hold K H₀ Z₀ Z' (δ.set i (.fz (.list ds))) σ H:=by
 obtain⟨a,xs,h1,h2,h3,h4,h5⟩:=h.ow i ds e;have hl:i < δ.length:=(List.getElem?_eq_some_iff.mp e).1;have sz:Same Z (upd Z a (.lst xs)):=dh h3;refine⟨upd Z a (.lst xs),sz,fun b o q=>?_,h.h0,h.z0.trans sz,fun b hb=>?_,by simp[h.len],fun j d q=>?_,fun j d q=>?_,fun j k d1 d2 b hjk q1 q2=>?_,(h.fr.same sz).put (fun _ z=>nomatch z) fun _ _=>rfl,h.nf.upd a⟩
 ·by_cases hb:b=a
  ·subst hb;rw[aJ]at q;cases q;exact h4
  ·rw[aE hb]at q;exact h.zh b o q
 ·rw[aE (fun z=>hb (by rw[z];exact h2))];exact h.zb b hb
 ·by_cases hj:i=j
  ·subst hj
   rw[List.getElem?_set_self hl]at q;cases q;exact⟨.ref a,h1,.lst (SqL.of aJ) (h5.same sz)⟩
  ·rw[List.getElem?_set_ne hj]at q
   obtain⟨v,g1,g2⟩:=h.fz j d q;exact⟨v,g1,g2.same sz⟩
 ·by_cases hj:i=j
  ·subst hj
   rw[List.getElem?_set_self hl]at q;cases q
  ·rw[List.getElem?_set_ne hj]at q
   obtain⟨b,ws,g1,g2,g3,g4,g5⟩:=h.own j d q;have:b≠a:=fun z=>by subst z;exact h.dja i j _ d b hj e q h1 g1
   exact⟨b,ws,g1,g2,by rw[aE this];exact g3,g4,g5.same sz⟩
 ·by_cases hj:i=j
  ·subst hj
   rw[List.getElem?_set_self hl]at q1;cases q1
  ·by_cases hk:i=k
   ·subst hk
    rw[List.getElem?_set_self hl]at q2;cases q2
   ·rw[List.getElem?_set_ne hj]at q1
    rw[List.getElem?_set_ne hk]at q2;exact h.dja j k d1 d2 b hjk q1 q2
end
def tV(K:Fg)(f:Dv->Option D):TE:=fun σ H Q=>∃H₀ Z₀ Z δ d,Hold K H₀ Z₀ Z δ σ H/\f δ = some d/\∀v Z' H',Hold K H₀ Z₀ Z' δ σ H'->Same Z Z'->Rep K Z' v d->Q v H'
def FE(K:Fg)(f:Dv->Option Bool):TT:=fun σ H Q=>∃H₀ Z₀ Z δ b,Hold K H₀ Z₀ Z δ σ H/\f δ = some b/\∀Z' H',Hold K H₀ Z₀ Z' δ σ H'->Same Z Z'->Q b H'
def Ha(K:Fg)(f:Dv->Option (List D)):TA:=fun σ H Q=>∃H₀ Z₀ Z δ ds,Hold K H₀ Z₀ Z δ σ H/\f δ = some ds/\∀vs Z' H',Hold K H₀ Z₀ Z' δ σ H'->Same Z Z'->Reps K Z' vs ds->Q vs H'
def Fl.to(K:Fg)(Z:Hp)(D:Ends)(σ:St)(H:Hp):Fl->Prop
 |.nx=>D.nx σ H
 |.bk=>D.bk σ H
 |.ct=>D.ct σ H
 |.rt d=>∀v,Rep K Z v d->D.rt v H
def Bq(K:Fg)(f:Dv->Option (Fl×Dv)):TS:=fun D σ H=>∃H₀ Z₀ Z δ r,Hold K H₀ Z₀ Z δ σ H/\f δ = some r/\∀ σ' H' Z',Hold K H₀ Z₀ Z' r.2 σ' H'->Same Z Z'->r.1.to K Z' D σ' H'
def EV(X:Cx)(e:Expr)(f:Dv->Option D):Prop:=PE X e (tV X.K f)
def TV(X:Cx)(e:Expr)(f:Dv->Option Bool):Prop:=PT X e (FE X.K f)
def AV(X:Cx)(es:List Expr)(f:Dv->Option (List D)):Prop:=PA X es (Ha X.K f)
def SV(X:Cx)(st:Stmt)(f:Dv->Option (Fl×Dv)):Prop:=PS X st (Bq X.K f)
def BV(X:Cx)(st:List Stmt)(f:Dv->Option (Fl×Dv)):Prop:=PSs X st (Bq X.K f)
theorem PE.imp{X:Cx}{e:Expr}{t t':TE}(h:PE X e t)(i:∀ σ H Q,t' σ H Q->t σ H Q):PE X e t':=fun pins s σ H Q I hw=>h pins s σ H Q I (i _ _ _ hw)
theorem PT.imp{X:Cx}{e:Expr}{t t':TT}(h:PT X e t)(i:∀ σ H Q,t' σ H Q->t σ H Q):PT X e t':=fun pins s σ H Q I hw=>h pins s σ H Q I (i _ _ _ hw)
theorem PA.imp{X:Cx}{es:List Expr}{t t':TA}(h:PA X es t)(i:∀ σ H Q,t' σ H Q->t σ H Q):PA X es t':=fun pos pins s σ H Q I hw=>h pos pins s σ H Q I (i _ _ _ hw)
theorem PS.imp{X:Cx}{st:Stmt}{t t':TS}(h:PS X st t)(i:∀D σ H,t' D σ H->t D σ H):PS X st t':=fun pins s σ H D I hw=>h pins s σ H D I (i _ _ _ hw)
theorem PSs.imp{X:Cx}{st:List Stmt}{t t':TS}(h:PSs X st t)(i:∀D σ H,t' D σ H->t D σ H):PSs X st t':=fun pins s σ H D I hw=>h pins s σ H D I (i _ _ _ hw)
theorem OpR.imp{X:Cx}{f:Value->Value->Sem Value}{r r':R2}(h:OpR X f r)(i:∀x y H Q,r' x y H Q->r x y H Q):OpR X f r':=fun pins s σ H x y v u Q I rx ry q=>h pins s σ H x y v u Q I rx ry (i _ _ _ _ q)
theorem CallR.imp{X:Cx}{f:Value}{r r':List V->Hp->VK->Prop}(h:CallR X f r)(i:∀xs H Q,r' xs H Q->r xs H Q):CallR X f r':=fun pins s σ H xs us Q I rx q=>h pins s σ H xs us Q I rx (i _ _ _ q)
def rD(K:Fg)(g:D->D->Option D):R2:=fun x y H Q=>∃Z a b d,Same Z H/\Rep K Z x a/\Rep K Z y b/\g a b=some d/\∀v Z' H',New Z H Z' H'->Rep K Z' v d->Q v H'
def He(K:Fg)(g:D->Option D):V->Hp->VK->Prop:=fun x H Q=>∃Z a d,Same Z H/\Rep K Z x a/\g a=some d/\∀v Z' H',New Z H Z' H'->Rep K Z' v d->Q v H'
def x8(K:Fg)(g:List D->Option D):List V->Hp->VK->Prop:=fun xs H Q=>∃Z as d,Same Z H/\Reps K Z xs as/\g as=some d/\∀v Z' H',New Z H Z' H'->Rep K Z' v d->Q v H'
def dG(K:Fg)(g:List D->Option D):Sp:=fun vs H Q _=>x8 K g vs H Q
section
variable{X:Cx}{a b c e:Expr}{es:List Expr}{pos p:Pos}{f f1 f2 f3:Dv->Option D}{fs:Dv->Option (List D)}{ft fu:Dv->Option Bool}
theorem bind_some{α β:Type}{o:Option α}{k:α -> Option β}{r:β}(h:o.bind k=some r):∃a,o=some a/\k a=some r:=by
 cases o with
 |none=>cases h
 |some a=>exact⟨a,rfl,h⟩
theorem two{K:Fg}{g:D->D->Option D}{σ:St}{H:Hp}{Q:VK}{r:R2}(hr:∀x y H Q,rD K g x y H Q->r x y H Q)(h:tV K (o2 f1 f2 g) σ H Q):Du r (tV K f1) (tV K f2) σ H Q:=by
 obtain⟨H₀,Z₀,Z,δ,d,hh,e,k⟩:=h;obtain⟨x,e1,e⟩:=bind_some e;obtain⟨y,e2,e⟩:=bind_some e;refine⟨H₀,Z₀,Z,δ,x,hh,e1,fun v Z1 H1 hh1 s1 r1=>⟨H₀,Z₀,Z1,δ,y,hh1,e2,fun u Z2 H2 hh2 s2 r2=>hr _ _ _ _ ⟨Z2,x,y,d,hh2.zh,r1.same s2,r2,e,fun w Z3 H3 n r3=>?_⟩⟩⟩
 exact k w Z3 H3 (hh2.new n) ((s1.trans s2).trans n.z) r3
theorem ah{op:Operator}{g:D->D->Option D}(ho:OpR X (binaryOp op) (rD X.K g))(ha:EV X a f1)(hb:EV X b f2):EV X (.BinOp a op b pos) (o2 f1 f2 g):=
 PE.imp (DS ho ha hb) fun _ _ _ h=>two (fun _ _ _ _ q=>q) h
theorem jv{op:UnaryOp}{g:D->Option D}(ho:EZ X (unaryOp op) (He X.K g))(ha:EV X a f):EV X (.UnaryOp op a pos) (o1 f g):=
 PE.imp (DR ho ha) fun σ H Q h=>by
  obtain⟨H₀,Z₀,Z,δ,d,hh,e,k⟩:=h;obtain⟨x,e1,e⟩:=bind_some e;exact⟨H₀,Z₀,Z,δ,x,hh,e1,fun v Z1 H1 hh1 s1 r1=>⟨Z1,x,d,hh1.zh,r1,e,fun w Z3 H3 n r3=>k w Z3 H3 (hh1.new n) (s1.trans n.z) r3⟩⟩
theorem jX{op:CmpOp}{g:D->D->Option D}(ho:OpR X (compareOp op) (rD X.K g))(ha:EV X a f1)(hb:EV X b f2)(hm:behindInMarks op b=false):EV X (.Compare a [op] [b] pos) (o2 f1 f2 g):=
 PE.imp (yZ ho ha hb hm) fun _ _ _ h=>two (fun _ _ _ _ q=>q) h
theorem xO{d:D}{b:Bool}(h:asB d=some b):d=.bool b:=by
 cases d<;>simp[asB]at h;subst h;rfl
theorem G9{K:Fg}{σ:St}{H:Hp}{Q:Bool->Hp->Prop}(h:FE K (ob f) σ H Q):tV K f σ H fun x H1=>∃c,x=.bl c/\Q c H1:=by
 obtain⟨H₀,Z₀,Z,δ,d,hh,e,k⟩:=h;obtain⟨x,e1,e⟩:=bind_some e;have:=xO e;subst this;exact⟨H₀,Z₀,Z,δ,_,hh,e1,fun v Z1 H1 hh1 s1 r1=>⟨_,r1.bl_eq,k Z1 H1 hh1 s1⟩⟩
theorem aI{op:CmpOp}{g:D->D->Option D}(ho:OpR X (compareOp op) (rD X.K g))(ha:EV X a f1)(hb:EV X b f2)(hm:behindInMarks op b=false):TV X (.Compare a [op] [b] pos) (ob (o2 f1 f2 g)):=
 PT.imp (yQ ho ha hb hm) fun σ H Q h=>by
  have h':=G9 h;exact two (f1:=f1) (f2:=f2) (g:=g) (fun _ _ _ _ q=>q) h'
theorem rd(ha:EV X a f)(he:∀whole,isTrue a X.env whole=(do let v <-whole;standAt a.pos;holding [v] (truthy v)):=by intro _;rfl):TV X a (ob f):=
 PT.imp (BG ha he) fun _ _ _ h=>G9 h
def WV(X:Cx)(e:Expr)(f:Dv->Option Bool):Prop:=PW X e (FE X.K f)
theorem PW.imp{X:Cx}{e:Expr}{t t':TT}(h:PW X e t)(i:∀ σ H Q,t' σ H Q->t σ H Q):PW X e t':=fun whole pins s σ H Q I hw=>h whole pins s σ H Q I (i _ _ _ hw)
theorem vr(ha:TV X a ft):WV X (.BoolOp .Or [a] pos) ft:=BF ha
theorem vt{rest:List Expr}(ha:TV X a ft)(hb:WV X (.BoolOp .Or (b::rest) pos) fu):WV X (.BoolOp .Or (a::b::rest) pos) (x9 ft fu):=
 PW.imp (DN ha hb) fun σ H Q h=>by
  obtain⟨H₀,Z₀,Z,δ,d,hh,e,k⟩:=h;obtain⟨x,e1,e⟩:=bind_some e;refine⟨H₀,Z₀,Z,δ,x,hh,e1,fun Z1 H1 hh1 s1=>?_⟩
  cases x with
  |true=>cases e;exact k Z1 H1 hh1 s1
  |false=>exact⟨H₀,Z₀,Z1,δ,d,hh1,e,fun Z2 H2 hh2 s2=>k Z2 H2 hh2 (s1.trans s2)⟩
theorem WV.tv(h:WV X a ft):TV X a ft:=PW.pt h
theorem CD{op}(h:EV X a f):EV X (.BoolOp op [a] pos) f:=BN h
theorem CH{rest:List Expr}(ha:EV X a f1)(hb:EV X (.BoolOp .And (b::rest) pos) f2):EV X (.BoolOp .And (a::b::rest) pos) (AJ f1 f2):=
 PE.imp (BQ ha hb) fun σ H Q h=>by
  obtain⟨H₀,Z₀,Z,δ,d,hh,e,k⟩:=h;obtain⟨x,e1,e⟩:=bind_some e;obtain⟨c,e2,e⟩:=bind_some e;have:=xO e2;subst this;refine⟨H₀,Z₀,Z,δ,_,hh,e1,fun v Z1 H1 hh1 s1 r1=>⟨c,r1.bl_eq,?_⟩⟩
  cases c with
  |true=>exact⟨H₀,Z₀,Z1,δ,d,hh1,e,fun v Z2 H2 hh2 s2 r2=>k v Z2 H2 hh2 (s1.trans s2) r2⟩
  |false=>cases e;exact k _ Z1 H1 hh1 s1 (.bl false)
theorem gk(hc:TV X c ft)(ha:EV X a f1)(hb:EV X b f2):EV X (.IfExp c a b pos) (vo ft f1 f2):=
 PE.imp (wx hc ha hb) fun σ H Q h=>by
  obtain⟨H₀,Z₀,Z,δ,d,hh,e,k⟩:=h;obtain⟨x,e1,e⟩:=bind_some e;refine⟨H₀,Z₀,Z,δ,x,hh,e1,fun Z1 H1 hh1 s1=>?_⟩
  cases x with
  |true=>exact⟨H₀,Z₀,Z1,δ,d,hh1,e,fun v Z2 H2 hh2 s2 r2=>k v Z2 H2 hh2 (s1.trans s2) r2⟩
  |false=>exact⟨H₀,Z₀,Z1,δ,d,hh1,e,fun v Z2 H2 hh2 s2 r2=>k v Z2 H2 hh2 (s1.trans s2) r2⟩
theorem Hold.read{K:Fg}{H₀ Z₀ Z H:Hp}{δ:Dv}{σ:St}(hh:Hold K H₀ Z₀ Z δ σ H){i:Nat}{d:D}(h:oV i δ = some d):∃v,σ[i]? = some (some v)/\Rep K Z v d:=by
 unfold oV at h;cases q:δ[i]? with
 |none=>rw[q]at h;cases h
 |some x=>
  rw[q]at h;cases x with
  |fz e=>cases h;exact hh.fz i _ q
  |un=>cases h
  |own _=>cases h
  |fr ds=>
   cases h;obtain⟨a,xs,h1,_,_,h4,h5⟩:=hh.fr i ds q;exact⟨.ref a,h1,.lst (SqL.of h4) h5⟩
theorem aa(i:Nat){x:Str}(hN:X.N[i]? = some x:=by rfl)(hv:A3 X.env.scope x:=by first|exact Or.inl rfl|exact Or.inr (Or.inl rfl)|exact Or.inr (Or.inr rfl))(hd:(x==("__debug__":Str))=false:=by decide)(hcd:(x==("__classdict__":Str))=false:=by decide):
  EV X (.Name x pos) (oV i):=
 PE.imp (jO hN hv hd hcd) fun σ H Q h=>by
  obtain⟨H₀,Z₀,Z,δ,d,hh,e,k⟩:=h;obtain⟨v,q,r⟩:=hh.read e;exact⟨v,q,k v Z H hh (Same.refl _) r⟩
theorem xm{d:D}{v:V}(h:PE X e (tC v))(r:∀Z,Rep X.K Z v d):EV X e (oC d):=
 PE.imp h fun σ H Q h=>by
  obtain⟨H₀,Z₀,Z,δ,d',hh,e,k⟩:=h;cases e;exact k v Z H hh (Same.refl _) (r Z)
theorem ad{i j}:EV X (.Constant (.int i) j pos) (oC (.int i)):=xm BO fun _=>.int i
theorem AX{i j}:EV X (.Constant (.bool i) j pos) (oC (.bool i)):=xm DU fun _=>.bl i
theorem br{i j}:EV X (.Constant (.str i) j pos) (oC (.str i)):=xm BM fun _=>.str i
theorem af:AV X [] au:=
 PA.imp lN fun σ H Q h=>by
  obtain⟨H₀,Z₀,Z,δ,d,hh,e,k⟩:=h;cases e;exact k [] Z H hh (Same.refl _) .nil
theorem ac(ha:EV X e f)(hr:AV X es fs)(hs:starEach (e::es) X.env=(false,eval e X.env)::starEach es X.env:=by rfl):AV X (e::es) (ae f fs):=
 PA.imp (iu ha hr hs) fun σ H Q h=>by
  obtain⟨H₀,Z₀,Z,δ,d,hh,e,k⟩:=h;obtain⟨x,e1,e⟩:=bind_some e;obtain⟨xs,e2,e⟩:=bind_some e;cases e;exact⟨H₀,Z₀,Z,δ,x,hh,e1,fun v Z1 H1 hh1 s1 r1=>⟨H₀,Z₀,Z1,δ,xs,hh1,e2,fun vs Z2 H2 hh2 s2 r2=>k _ Z2 H2 hh2 (s1.trans s2) (.cons (r1.same s2) r2)⟩⟩
theorem bz{x1}(h:AV X es fs):EV X (.Tuple es x1 pos) (os fs cb):=
 PE.imp (BL h) fun σ H Q h=>by
  obtain⟨H₀,Z₀,Z,δ,d,hh,e,k⟩:=h;obtain⟨xs,e1,e⟩:=bind_some e;refine⟨H₀,Z₀,Z,δ,xs,hh,e1,fun vs Z1 H1 hh1 s1 r1=>?_⟩
  by_cases hl:xs.length<=sizeLine
  ·rw[cb,if_pos hl]at e
   cases e;refine⟨by rw[r1.length];exact hl,fun p hp=>?_⟩
   have n:=New.add hh1.zh hp (.tup vs);exact k _ _ _ (hh1.new n) (s1.trans n.z) (.tup (SqT.of aJ) (r1.same n.z))
  ·rw[cb,if_neg hl]at e;cases e
theorem xk(h:AV X es fs):EV X (.List es pos) (os fs oO):=
 PE.imp (ww h) fun σ H Q h=>by
  obtain⟨H₀,Z₀,Z,δ,d,hh,e,k⟩:=h;obtain⟨xs,e1,e⟩:=bind_some e;refine⟨H₀,Z₀,Z,δ,xs,hh,e1,fun vs Z1 H1 hh1 s1 r1=>?_⟩
  by_cases hl:xs.length<=sizeLine
  ·rw[oO,if_pos hl]at e
   cases e;refine⟨by rw[r1.length];exact hl,fun p hp=>?_⟩
   have n:=New.add hh1.zh hp (.lst vs);exact k _ _ _ (hh1.new n) (s1.trans n.z) (.lst (SqL.of aJ) (r1.same n.z))
  ·rw[oO,if_neg hl]at e;cases e
theorem args{K:Fg}{g:List D->Option D}{σ:St}{H:Hp}{Q:VK}(h:tV K (os fs g) σ H Q):Ha K fs σ H fun vs H1=>x8 K g vs H1 Q:=by
 obtain⟨H₀,Z₀,Z,δ,d,hh,e,k⟩:=h;obtain⟨xs,e1,e⟩:=bind_some e;exact⟨H₀,Z₀,Z,δ,xs,hh,e1,fun vs Z1 H1 hh1 s1 r1=>⟨Z1,xs,d,hh1.zh,r1,e,fun w Z3 H3 n r3=>k w Z3 H3 (hh1.new n) (s1.trans n.z) r3⟩⟩
theorem cj{x:Str}{id:String}{g:List D->Option D}(hc:CallR X (.builtin id) (x8 X.K g))(hg:Gl X x)(hm:X.mg x=none)(hv:bootBuiltins x=some (.builtin id))(ha:AV X (e::es) fs)(hn:x ≠ "__name__":=by decide)(hdb:(x==("__debug__":Str))=false:=by decide)
  (he:starEach (e::es) X.env=(false,eval e X.env)::starEach es X.env:=by rfl) (hpl:(backTo pos (starEach es X.env)).any (·.1)=false:=by rfl):EV X (.Call (.Name x p) (e::es) [] pos) (os fs g):=
 PE.imp (pQ hc hg hm hv ha hn hdb he hpl) fun _ _ _ h=>args h
theorem bJ{x:Str}{id:String}{g:List D->Option D}(hc:CallR X (.type id) (x8 X.K g))(hg:Gl X x)(hm:X.mg x=none)(hv:bootBuiltins x=some (.type id))(ha:AV X (e::es) fs)(hn:x ≠ "__name__":=by decide)(hdb:(x==("__debug__":Str))=false:=by decide)
  (he:starEach (e::es) X.env=(false,eval e X.env)::starEach es X.env:=by rfl) (hpl:(backTo pos (starEach es X.env)).any (·.1)=false:=by rfl):EV X (.Call (.Name x p) (e::es) [] pos) (os fs g):=
 PE.imp (ux hc hg hm hv ha hn hdb he hpl) fun _ _ _ h=>args h
theorem zS{k:Nat}{fa:Addr}{fd:FuncData}{ps:List Str}{x:Str}{g:List D->Option D}{dd:List D}{dv:List V}{ds:List Value}(F:FnOk X.prog X.w X.K X.mg X.base cM k fa fd ps (dG X.K g))(hr:Room k X.A)(hg:Gl X x)(hm:X.mg x=some (.ref fa))(hk:PySem.W.keepIn X.K (.ref fa)=true)
  (hb:Binds X.K fd ps ds) (hd:Vals dv ds) (hdd:∀Z,Reps X.K Z dv dd) (hx:pk cM X E0) (ha:AV X (e::es) fs) (hdb:(x==("__debug__":Str))=false:=by decide) (he:starEach (e::es) X.env=(false,eval e X.env)::starEach es X.env:=by rfl) (hpl:(backTo pos (starEach es X.env)).any (·.1)=false:=by rfl) :
  EV X (.Call (.Name x p) (e::es) [] pos) (os fs fun as=>g (as++dd)):=
 PE.imp (y0 F hr hg hm hk hb hd hx ha hdb he hpl) fun σ H Q h=>by
  obtain⟨H₀,Z₀,Z,δ,xs,hh,e1,q⟩:=args h;refine⟨H₀,Z₀,Z,δ,xs,hh,e1,fun vs Z1 H1 hh1 s1 r1=>?_⟩
  obtain⟨Z2,as,d,zh,ra,eg,kk⟩:=q vs Z1 H1 hh1 s1 r1;exact⟨Z2,as++dd,d,zh,ra.append (hdd Z2),eg,kk⟩
theorem IxR.imp{r r':R2}(h:IxR X r)(i:∀x y H Q,r' x y H Q->r x y H Q):IxR X r':=fun value slice pins s σ H x y v u Q I rx ry q hs=>h value slice pins s σ H x y v u Q I rx ry (i _ _ _ _ q) hs
theorem ai{g:D->D->Option D}(ho:IxR X (rD X.K g))(ha:EV X a f1)(hb:EV X b f2)(hs:tZ b):EV X (.Subscript a b pos) (o2 f1 f2 g):=
 PE.imp (DT ho ha hb hs) fun _ _ _ h=>two (fun _ _ _ _ q=>q) h
end
section
variable{X:Cx}{a b c e tg:Expr}{es:List Expr}{pos p:Pos}{f f1 f2 f3:Dv->Option D}{fs:Dv->Option (List D)}{ft fu:Dv->Option Bool}{st:Stmt}{sts body:List Stmt}{s1 s2:Dv->Option (Fl×Dv)}
theorem sZ{F:Value->Value->Sem Value}{g:Int->Int->Int}(h:OpR X F (xZ fun i j=>.int (g i j))):OpR X F (rD X.K (iI g)):=
 OpR.imp h fun x y H Q q=>by
  obtain⟨Z,a,b,d,zh,ra,rb,e,k⟩:=q;cases ra<;>cases rb<;>simp[iI]at e;subst e;exact⟨_,_,rfl,rfl,k _ Z H (New.refl zh) (.int _)⟩
theorem DX{F:Value->Value->Sem Value}{g:Int->Int->Bool}(h:OpR X F (xZ fun i j=>.bl (g i j))):OpR X F (rD X.K (iB g)):=
 OpR.imp h fun x y H Q q=>by
  obtain⟨Z,a,b,d,zh,ra,rb,e,k⟩:=q;cases ra<;>cases rb<;>simp[iB]at e;subst e;exact⟨_,_,rfl,rfl,k _ Z H (New.refl zh) (.bl _)⟩
theorem pT{F:Value->Value->Sem Value}{P:Int->Int->Prop}{C:Int->Int->Bool}{g:Int->Int->Int}(h:OpR X F (rI P fun i j=>.int (g i j)))(hc:∀i j,C i j=true->P i j):OpR X F (rD X.K (iC C g)):=
 OpR.imp h fun x y H Q q=>by
  obtain⟨Z,a,b,d,zh,ra,rb,e,k⟩:=q;cases ra with
  |int i=>
   cases rb with
   |int j=>
    by_cases hh:C i j=true
    ·simp only[iC,if_pos hh]at e
     cases e;exact⟨_,_,rfl,rfl,hc _ _ hh,k _ Z H (New.refl zh) (.int _)⟩
    ·simp only[iC,if_neg hh]at e
     cases e
   |_=>simp[iC]at e
  |_=>simp[iC]at e
theorem bR:OpR X (binaryOp .Sub) (rD X.K ce):=sZ BU
theorem bH:OpR X (binaryOp .Mult) (rD X.K dH):=pT (P:=fun i j=>IntMulOk i j) (DY fun _ _ _ _ _ _ _ hc q=>mul_int q hc) fun i j h=>of_decide_eq_true h
theorem fR:OpR X (binaryOp .FloorDiv) (rD X.K fQ):=pT y9 fun i j h=>(of_decide_eq_true h:0<j/\j<1073741824)
theorem bW:OpR X (binaryOp .Mod) (rD X.K bV):=pT BX fun i j h=>of_decide_eq_true h
theorem km:OpR X (binaryOp .LShift) (rD X.K gJ):=pT (P:=fun i j=>0<=j/\(Builtin.Int.intBits i:Int)+j<=2^27) (DY fun _ _ _ _ _ _ _ hc q=>lshift_int hc.1 hc.2 q) fun i j h=>of_decide_eq_true h
theorem nQ:OpR X (binaryOp .RShift) (rD X.K iP):=pT BW fun i j h=>of_decide_eq_true h
theorem dZ:OpR X (binaryOp .BitAnd) (rD X.K gG):=sZ BY
theorem o6:OpR X (binaryOp .BitOr) (rD X.K rA):=sZ DV
theorem fq:OpR X (binaryOp .BitXor) (rD X.K iM):=sZ BT
theorem Gv:OpR X (compareOp .Lt) (rD X.K Hg):=DX DW
theorem jw:EZ X (unaryOp .USub) (He X.K negD):=by
 intro pins s σ H x v Q I rx q;obtain⟨Z,a,d,zh,ra,e,k⟩:=q;cases ra<;>simp[negD]at e;subst e;exact Be pins s σ H _ v Q I rx ⟨_,rfl,k _ Z H (New.refl zh) (.int _)⟩
theorem Rep.str_eq{K:Fg}{Z:Hp}{v:V}{x:Str}(h:Rep K Z v (.str x)):v=.str x:=by cases h;rfl
theorem Rep.tup_ex{K:Fg}{Z:Hp}{v:V}{ds:List D}(h:Rep K Z v (.tuple ds)):∃a xs,v=.ref a/\SqT K Z a xs/\Reps K Z xs ds:=by
 cases h with
 |tup p q=>exact⟨_,_,rfl,p,q⟩
theorem Rep.lst_ex{K:Fg}{Z:Hp}{v:V}{ds:List D}(h:Rep K Z v (.list ds)):∃a xs,v=.ref a/\SqL K Z a xs/\Reps K Z xs ds:=by
 cases h with
 |lst p q=>exact⟨_,_,rfl,p,q⟩
theorem gX{p:Prop}[Decidable p]{α:Type}{x y:α}(h:(if p then some x else none)=some y):p/\x=y:=by
 by_cases q:p
 ·rw[if_pos q]at h;exact⟨q,Option.some.inj h⟩
 ·rw[if_neg q]at h;cases h
theorem C4{a b d:D}(h:cL a b=some d):(∃i,a=.int i)\/(∃x,a=.str x)\/(∃xs,a=.list xs)\/∃xs,a=.tuple xs:=by
 cases a with
 |int i=>exact .inl ⟨_,rfl⟩
 |str i=>exact .inr (.inl ⟨_,rfl⟩)
 |list i=>exact .inr (.inr (.inl ⟨_,rfl⟩))
 |tuple i=>exact .inr (.inr (.inr ⟨_,rfl⟩))
 |_=>cases h
theorem C5{i:Int}{b d:D}(h:cL (.int i) b=some d):∃j,b=.int j/\d=.int (i+j):=by
 cases b with
 |int j=>exact⟨j,rfl,(Option.some.inj h).symm⟩
 |_=>cases h
theorem C2{i:Str}{b d:D}(h:cL (.str i) b=some d):∃j,b=.str j/\i.length+j.length<=sizeLine/\d=.str (i++j):=by
 cases b with
 |str j=>obtain⟨p,q⟩:=gX h;exact⟨j,rfl,p,q.symm⟩
 |_=>cases h
theorem C3{i:List D}{b d:D}(h:cL (.list i) b=some d):∃j,b=.list j/\i.length+j.length<=sizeLine/\d=.list (i++j):=by
 cases b with
 |list j=>obtain⟨p,q⟩:=gX h;exact⟨j,rfl,p,q.symm⟩
 |_=>cases h
theorem C1{i:List D}{b d:D}(h:cL (.tuple i) b=some d):∃j,b=.tuple j/\i.length+j.length<=sizeLine/\d=.tuple (i++j):=by
 cases b with
 |tuple j=>obtain⟨p,q⟩:=gX h;exact⟨j,rfl,p,q.symm⟩
 |_=>cases h
theorem bX:OpR X (binaryOp .Add) (rD X.K cL):=by
 intro pins s σ H x y v u Q I rx ry q;obtain⟨Z,a,b,d,zh,ra,rb,e,k⟩:=q;rcases C4 e with⟨i,rfl⟩|⟨i,rfl⟩|⟨ds,rfl⟩|⟨ds,rfl⟩
 ·obtain⟨j,rfl,rfl⟩:=C5 e
  cases ra.int_eq;cases rb.int_eq;exact BZ pins s σ H _ _ v u Q I rx ry ⟨_,_,rfl,rfl,k _ Z H (New.refl zh) (.int _)⟩
 ·obtain⟨j,rfl,hl,rfl⟩:=C2 e
  cases ra.str_eq;cases rb.str_eq;exact rB pins s σ H _ _ v u Q I rx ry ⟨_,_,rfl,rfl,hl,k _ Z H (New.refl zh) (.str _)⟩
 ·obtain⟨es,rfl,hl,rfl⟩:=C3 e
  obtain⟨a,xs,rfl,h1,q1⟩:=ra.lst_ex;obtain⟨b,ys,rfl,h2,q2⟩:=rb.lst_ex;cases rx;cases ry;obtain⟨its,r1,p1,z1⟩:=I.list (SqL.same h1 zh);obtain⟨its2,r2,p2,z2⟩:=I.list (SqL.same h2 zh);obtain⟨⟨cls,dd,data,sl⟩,n1,ho,hc,hdd,hd⟩:=p1;obtain⟨⟨cls2,dd2,data2,sl2⟩,n2,ho2,hc2,hdd2,hd2⟩:=p2;simp only at hc hd hc2 hd2;subst hc hd hc2 hd2;have hl1:=r1.length;have hl2:=r2.length;have ql1:=q1.length;have ql2:=q2.length;refine concat_meets ⟨_,ho,rfl⟩ ⟨_,ho2,rfl⟩ noFill_list_add seq_list_add PySem.F.slot_list_add PySem.F.entry_list_add (PySem.F.args_list_add_2 _ _) (list_addW a b its.toArray its2.toArray n1 n2 dd dd2 sl sl2 (by simp;lia)) ⟨ho,ho2,?_⟩;have ea:its.toArray++its2.toArray=(its++its2).toArray:=by simp
  rw[ea];have n:=New.add zh I.fresh (.lst (xs++ys));exact⟨.ref _,_,I.lnew (t':=s.toks) (r1.append r2) (by rw[List.length_append];lia),rfl,k _ _ _ n (.lst (SqL.of aJ) ((q1.append q2).same n.z))⟩
 ·obtain⟨es,rfl,hl,rfl⟩:=C1 e
  obtain⟨a,xs,rfl,h1,q1⟩:=ra.tup_ex;obtain⟨b,ys,rfl,h2,q2⟩:=rb.tup_ex;by_cases h0:ds.length=0
  ·have hd0:ds=[]:=List.eq_nil_of_length_eq_zero h0
   subst hd0;cases q1;cases rx;cases ry;obtain⟨its,r1,p1,z1⟩:=I.tuple (SqT.same h1 zh);obtain⟨its2,r2,p2,z2⟩:=I.tuple (SqT.same h2 zh);cases r1;obtain⟨⟨cls,dd,data,sl⟩,ho,hc,n,hd⟩:=id p1;obtain⟨⟨cls2,dd2,data2,sl2⟩,ho2,hc2,n2,hd2⟩:=id p2;simp only at hc hd hc2 hd2;subst hc hd hc2 hd2;exact concat_meets ⟨_,ho,rfl⟩ ⟨_,ho2,rfl⟩ noFill_tuple_add seq_tuple_add PySem.F.slot_tuple_add PySem.F.entry_tuple_add (PySem.F.args_tuple_add_2 _ _)
    (tuple_addW0 a b _ its2.toArray n n2 dd dd2 sl sl2 (by simp)) ⟨ho,ho2,⟨.ref b,H,I,rfl,k _ Z H (New.refl zh) (.tup h2 q2)⟩⟩
  refine za pins s σ H _ _ v u Q I rx ry ⟨a,b,xs,ys,rfl,rfl,SqT.same h1 zh,SqT.same h2 zh,fun z=>h0 (by rw[<-q1.length,z];rfl),by rw[q1.length,q2.length];exact hl,fun z=>?_,fun z p hp=>?_⟩
  ·subst z
   cases q2;rw[List.append_nil]at k;exact k _ Z H (New.refl zh) (.tup h1 q1)
  ·have n:=New.add zh hp (.tup (xs++ys))
   exact k _ _ _ n (.tup (SqT.of aJ) ((q1.append q2).same n.z))
theorem kU{d:D}(h:vT d=true):d.canLay0=true:=(Bool.and_eq_true_iff.mp h).1
theorem cw(hu:X.A.units+64<cLine):OpR X (compareOp .Eq) (rD X.K cn):=by
 intro pins s σ H x y v u Q I rx ry q;obtain⟨Z,a,b,d,zh,ra,rb,e,k⟩:=q;by_cases hs:vT a=true/\vT b=true
 ·rw[cn,if_pos hs]at e
  cases e;obtain⟨as,r1⟩:=ra.reads I zh rx (kU hs.1);obtain⟨bs,r2⟩:=rb.reads I zh ry (kU hs.2);exact eq_dataH r1 r2 hs.1 hs.2 hu ⟨.bl _,H,I,rfl,k _ Z H (New.refl zh) (.bl _)⟩
 ·rw[cn,if_neg hs]at e;cases e
theorem rX(hu:X.A.units+64<cLine):OpR X (compareOp .NotEq) (rD X.K neD):=by
 intro pins s σ H x y v u Q I rx ry q;obtain⟨Z,a,b,d,zh,ra,rb,e,k⟩:=q;by_cases hs:vT a=true/\vT b=true
 ·rw[neD,if_pos hs]at e
  cases e;obtain⟨as,r1⟩:=ra.reads I zh rx (kU hs.1);obtain⟨bs,r2⟩:=rb.reads I zh ry (kU hs.2);exact ne_dataH r1 r2 hs.1 hs.2 hu ⟨.bl _,H,I,rfl,k _ Z H (New.refl zh) (.bl _)⟩
 ·rw[neD,if_neg hs]at e;cases e
theorem Reps.at{K:Fg}{Z:Hp}{vs:List V}{ds:List D}{i:Int}{d:D}(r:Reps K Z vs ds)(h:gF ds i=some d):∃v,gF vs i=some v/\Rep K Z v d:=by
 unfold gF at h ⊢;rw[r.length];obtain⟨j,e,h⟩:=bind_some h;obtain⟨v,q,rr⟩:=r.get h;exact⟨v,by rw[e];exact q,rr⟩
theorem Ep{a b d:D}(h:az a b=some d):(∃xs,a=.list xs)\/∃xs,a=.tuple xs:=by
 cases a with
 |list i=>exact .inl ⟨_,rfl⟩
 |tuple i=>exact .inr ⟨_,rfl⟩
 |_=>cases h
theorem AS{xs:List D}{b d:D}(h:az (.list xs) b=some d):∃i,b=.int i/\gF xs i=some d:=by
 cases b with
 |int i=>exact⟨i,rfl,h⟩
 |_=>cases h
theorem aq:IxR X (rD X.K az):=
 IxR.imp (ix_list.or Ct) fun x y H Q q=>by
  obtain⟨Z,a,b,d,zh,ra,rb,e,k⟩:=q;rcases Ep e with⟨xs,rfl⟩|⟨xs,rfl⟩
  ·obtain⟨i,rfl,e⟩:=AS e
   obtain⟨a,vs,rfl,h1,q1⟩:=ra.lst_ex;cases rb.int_eq;obtain⟨v,ev,rv⟩:=q1.at e;exact .inl ⟨_,_,_,v,rfl,rfl,SqL.same h1 zh,ev,k v Z H (New.refl zh) rv⟩
  ·obtain⟨i,rfl,e⟩:=AS (xs:=xs) (b:=b) (by cases b<;>exact e)
   obtain⟨a,vs,rfl,h1,q1⟩:=ra.tup_ex;cases rb.int_eq;obtain⟨v,ev,rv⟩:=q1.at e;exact .inr ⟨_,_,_,v,rfl,rfl,SqT.same h1 zh,ev,k v Z H (New.refl zh) rv⟩
theorem jy:CallR X (.builtin "len") (x8 X.K eA):=
 CallR.imp qI fun xs H Q q=>by
  obtain⟨Z,as,d,zh,ra,e,k⟩:=q;cases ra with
  |nil=>cases e
  |cons r1 r2=>
   cases r2 with
   |cons _ _=>cases r1<;>cases e
   |nil=>
    cases r1 with
    |lst h1 q1=>cases e;exact⟨_,_,rfl,.inl ⟨_,SqL.same h1 zh,rfl⟩,k _ Z H (New.refl zh) (by rw[q1.length];exact .int _)⟩
    |tup h1 q1=>cases e;exact⟨_,_,rfl,.inr ⟨_,SqT.same h1 zh,rfl⟩,k _ Z H (New.refl zh) (by rw[q1.length];exact .int _)⟩
    |_=>cases e
theorem pD{K:Fg}{Z:Hp}{xs:List V}{as:List D}{d:D}{g:List D->Option D}{h:Int->Int->Int}(hg:∀as d,g as=some d->∃i j,as=[.int i,.int j]/\d=.int (h i j))(r:Reps K Z xs as)(e:g as=some d):
  ∃i j,xs=[.int i,.int j]/\d=.int (h i j):=by
 obtain⟨i,j,rfl,rfl⟩:=hg _ _ e;cases r with
 |cons r1 r2=>
  cases r2 with
  |cons r3 r4=>
   cases r4;exact⟨i,j,by rw[r1.int_eq,r3.int_eq],rfl⟩
theorem EN(hc:X.calm=true):CallR X (.builtin "min") (x8 X.K zp):=
 CallR.imp (u8 hc) fun xs H Q q=>by
  obtain⟨Z,as,d,zh,ra,e,k⟩:=q;obtain⟨i,j,rfl,rfl⟩:=pD (h:=fun i j=>if j<i then j else i) (fun as d h=>by unfold zp at h;split at h<;>cases h;exact⟨_,_,rfl,rfl⟩) ra e;exact⟨i,j,rfl,k _ Z H (New.refl zh) (.int _)⟩
theorem EO(hc:X.calm=true):CallR X (.builtin "max") (x8 X.K wK):=
 CallR.imp (u9 hc) fun xs H Q q=>by
  obtain⟨Z,as,d,zh,ra,e,k⟩:=q;obtain⟨i,j,rfl,rfl⟩:=pD (h:=fun i j=>if j>i then j else i) (fun as d h=>by unfold wK at h;split at h<;>cases h;exact⟨_,_,rfl,rfl⟩) ra e;exact⟨i,j,rfl,k _ Z H (New.refl zh) (.int _)⟩
theorem EQ:CallR X (.type "int") (x8 X.K uR):=
 CallR.imp va fun xs H Q q=>by
  obtain⟨Z,as,d,zh,ra,e,k⟩:=q;cases ra with
  |nil=>cases e
  |cons r1 r2=>
   cases r2 with
   |cons _ _=>cases r1<;>cases e
   |nil=>
    cases r1 with
    |int i=>cases e;exact .inl ⟨_,rfl,k _ Z H (New.refl zh) (.int _)⟩
    |bl i=>cases e;exact .inr ⟨_,rfl,k _ Z H (New.refl zh) (.int _)⟩
    |_=>cases e
theorem dB:CallR X (.type "tuple") (x8 X.K bY):=
 CallR.imp mZ fun xs H Q q=>by
  obtain⟨Z,as,d,zh,ra,e,k⟩:=q;cases ra with
  |nil=>cases e
  |cons r1 r2=>
   cases r2 with
   |cons _ _=>cases r1<;>cases e
   |nil=>
    cases r1 with
    |lst h1 q1=>cases e;exact⟨_,_,rfl,.inl ⟨SqL.same h1 zh,fun l hl=>let n:=New.add zh hl (.tup _);k _ _ _ n (.tup (SqT.of aJ) (q1.same n.z))⟩⟩
    |tup h1 q1=>cases e;exact⟨_,_,rfl,.inr ⟨SqT.same h1 zh,k _ Z H (New.refl zh) (.tup h1 q1)⟩⟩
    |_=>cases e
theorem zo:GT X "int.bit_length" (fun x xs H Q=>∃i,x=.int i/\xs=[]/\Q (.int (Builtin.Int.intBits i)) H):=by
 intro pins s σ H x xs v us Q I rx rs q;obtain⟨i,rfl,rfl,q⟩:=q;obtain⟨t,rfl⟩:=rx;cases rs;exact call_int_bit_length ⟨.int _,H,I.tok _,⟨_,rfl⟩,q⟩
theorem oZ{apos:Pos}(ha:EV X a f)(hbase:attributeBase a "bit_length" X.env (eval a X.env)=eval a X.env:=by rfl)(hline:(apos.endLine==pos.line)=true:=by rfl):EV X (.Call (.Attribute a "bit_length" apos) [] [] pos) (o1 f kq):=
 PE.imp (BP PySem.F.plainAttrs_int PySem.F.slot_int_bit_length PySem.F.type_int_bit_length zo ha hbase hline) fun σ H Q h=>by
  obtain⟨H₀,Z₀,Z,δ,d,hh,e,k⟩:=h;obtain⟨x,e1,e⟩:=bind_some e;refine⟨H₀,Z₀,Z,δ,x,hh,e1,fun v Z1 H1 hh1 s1 r1=>?_⟩
  cases r1<;>simp[kq]at e;subst e;exact⟨rfl,_,rfl,rfl,k _ Z1 H1 hh1 s1 (.int _)⟩
end
section
variable{X:Cx}{a b c e tg iter:Expr}{es:List Expr}{pos p:Pos}{f f1 f2 f3:Dv->Option D}{fs:Dv->Option (List D)}{ft fu:Dv->Option Bool}{st:Stmt}{sts body orelse:List Stmt}{s1 s2 s3:Sf}
theorem aA(he:EV X e f):SV X (.Return (some e) pos) (aV f):=
 PS.imp (BH he) fun D σ H h=>by
  obtain⟨H₀,Z₀,Z,δ,r,hh,e,k⟩:=h;obtain⟨x,e1,e⟩:=bind_some e;cases e;exact⟨H₀,Z₀,Z,δ,x,hh,e1,fun v Z1 H1 hh1 s1 r1=>k σ H1 Z1 hh1 s1 v r1⟩
theorem ay(i:Nat){x:Str}{pos':Pos}(hN:X.N.Nodup)(he:EV X e f)(hi:X.N[i]? = some x:=by rfl)(hx:At X.env.scope x:=by first|exact Or.inl rfl|exact Or.inr rfl)(hs:swapsWith e (some (.Name x pos')) pos.line X.env=pure false:=by rfl)
  (hf:X.fn x=true\/X.env.scope.names.lookup x=some .local:=by first|exact .inl rfl|exact .inr rfl|assumption):SV X (.Assign [.Name x pos'] e pos) (aL i f):=
 PS.imp (wk hN hi hx he hs hf) fun D σ H h=>by
  obtain⟨H₀,Z₀,Z,δ,r,hh,e,k⟩:=h;obtain⟨x,e1,e⟩:=bind_some e;cases e;exact⟨H₀,Z₀,Z,δ,x,hh,e1,fun v Z1 H1 hh1 s1 r1=>k _ H1 Z1 (hh1.set r1) s1⟩
theorem yC(he:EV X e f)(hs:swapsWith e none pos.line X.env=pure false:=by rfl):SV X (.Expr e pos) (AD f):=
 PS.imp (oE he hs) fun D σ H h=>by
  obtain⟨H₀,Z₀,Z,δ,r,hh,e,k⟩:=h;obtain⟨x,e1,e⟩:=bind_some e;cases e;exact⟨H₀,Z₀,Z,δ,x,hh,e1,fun v Z1 H1 hh1 s1 r1=>k σ H1 Z1 hh1 s1⟩
theorem DZ{D:Ends}{σ:St}{H:Hp}{K:Fg}(h:Bq K jg D σ H):D.nx σ H:=by
 obtain⟨H₀,Z₀,Z,δ,r,hh,e,k⟩:=h;cases e;exact k σ H Z hh (Same.refl _)
theorem bt:BV X [] jg:=PSs.imp yS fun D σ H h=>DZ h
theorem ao(h1:SV X st s1)(h2:BV X sts s2):BV X (st::sts) (sSeq s1 s2):=
 PSs.imp (wg h1 h2) fun D σ H h=>by
  obtain⟨H₀,Z₀,Z,δ,r,hh,e,k⟩:=h;obtain⟨⟨fl,δ'⟩,e1,e⟩:=bind_some e;refine⟨H₀,Z₀,Z,δ,(fl,δ'),hh,e1,fun σ' H' Z' hh' s'=>?_⟩
  cases fl with
  |nx=>exact⟨H₀,Z₀,Z',δ',r,hh',e,fun σ2 H2 Z2 hh2 s2=>by
    have:=k σ2 H2 Z2 hh2 (s'.trans s2);obtain⟨fl,δ2⟩:=r;cases fl<;>exact this⟩
  |bk=>cases e;exact k σ' H' Z' hh' s'
  |ct=>cases e;exact k σ' H' Z' hh' s'
  |rt d=>cases e;exact k σ' H' Z' hh' s'
theorem ar(h1:SV X st s1):BV X [st] s1:=yR h1
theorem bK(hc:TV X c ft)(ha:BV X body s1)(hb:BV X orelse s2):SV X (.If c body orelse pos) (sIf ft s1 s2):=
 PS.imp (DQ hc ha hb) fun D σ H h=>by
  obtain⟨H₀,Z₀,Z,δ,r,hh,e,k⟩:=h;obtain⟨x,e1,e⟩:=bind_some e;refine⟨H₀,Z₀,Z,δ,x,hh,e1,fun Z1 H1 hh1 t1=>?_⟩
  cases x with
  |true=>exact⟨H₀,Z₀,Z1,δ,r,hh1,e,fun σ2 H2 Z2 hh2 t2=>k σ2 H2 Z2 hh2 (t1.trans t2)⟩
  |false=>exact⟨H₀,Z₀,Z1,δ,r,hh1,e,fun σ2 H2 Z2 hh2 t2=>k σ2 H2 Z2 hh2 (t1.trans t2)⟩
theorem EC{K:Fg}(i:Nat){D:Ends}{σ:St}{H:Hp}(h:Bq K (fun δ=>s1 (qx i δ)) D σ H):Bq K s1 D σ H:=by
 obtain⟨H₀,Z₀,Z,δ,r,hh,e,k⟩:=h;have e:s1 (qx i δ)=some r:=e;unfold qx at e;split at e
 ·rename_i ds q
  obtain⟨Z1,t1,hh1⟩:=hh.frz q;exact⟨H₀,Z₀,Z1,_,r,hh1,e,fun σ2 H2 Z2 hh2 t2=>k σ2 H2 Z2 hh2 (t1.trans t2)⟩
 ·exact⟨H₀,Z₀,Z,_,r,hh,e,k⟩
theorem pF(i:Nat)(h:SV X st s1):SV X st (fun δ=>s1 (qx i δ)):=PS.imp h fun D σ H q=>EC i q
def HB(K:Fg)(g:D->Dv->Option Dv):TG:=fun v σ H Q=>∃H₀ Z₀ Z δ d δ',Hold K H₀ Z₀ Z δ σ H/\Rep K Z v d/\g d δ = some δ'/\∀ σ' H' Z',Hold K H₀ Z₀ Z' δ' σ' H'->Same Z Z'->Q σ' H'
def GV(X:Cx)(tg:Expr)(g:D->Dv->Option Dv):Prop:=PG X tg (HB X.K g)
theorem PG.imp{t t':TG}(h:PG X tg t)(i:∀v σ H Q,t' v σ H Q->t v σ H Q):PG X tg t':=fun pins s σ H x v Q I r q=>h pins s σ H x v Q I r (i _ _ _ _ q)
theorem fj(i:Nat){x:Str}(hN:X.N.Nodup)(hi:X.N[i]? = some x:=by rfl)(hx:At X.env.scope x:=by first|exact Or.inl rfl|exact Or.inr rfl)
  (hf:X.fn x=true\/X.env.scope.names.lookup x=some .local:=by first|exact .inl rfl|exact .inr rfl|assumption):GV X (.Name x pos) (gN i):=
 PG.imp (cJ hN hi hx hf) fun v σ H Q h=>by
  obtain⟨H₀,Z₀,Z,δ,d,δ',hh,r,e,k⟩:=h;cases e;exact k _ H Z (hh.set r) (Same.refl _)
structure ItOk (K:Fg) (Z:Hp) (J:It) (ds:List D):Prop where
 go:∀(i:Nat) (H:Hp),Same Z H->i<ds.length->J.go i H
 yld:∀(i:Nat) (H:Hp) x H' d,Same Z H->ds[i]? = some d->J.yld i H x H'->H'=H/\Rep K Z x d
 stop:∀(i:Nat) (H:Hp),Same Z H->ds.length<=i->J.stop i H
def FG(K:Fg)(f:Dv->Option (List D)):TI:=fun σ H R=>∃H₀ Z₀ Z δ ds,Hold K H₀ Z₀ Z δ σ H/\f δ = some ds/\∀J Z' H',Hold K H₀ Z₀ Z' δ σ H'->Same Z Z'->ItOk K Z' J ds->R J H'
def IV(X:Cx)(tg iter:Expr)(f:Dv->Option (List D)):Prop:=PI X tg iter (FG X.K f)
theorem PI.imp{t t':TI}(h:PI X tg iter t)(i:∀ σ H R,t' σ H R->t σ H R):PI X tg iter t':=fun pins s σ H R I q=>h pins s σ H R I (i _ _ _ q)
theorem gI{g:D->Dv->Option Dv}(hp:PassesOwn (model X.prog X.w) X.A X.env X.xe)(hc:X.calm=true)(hi:IV X tg iter fs)(hg:GV X tg g)(hb:BV X body s1)
  (hs:∀x,foldedSetIterable iter X.env x=pure x:=by intro _;rfl):SV X (.For tg iter body [] pos) (jL fs g s1):=
 PS.imp (BI hp hc hi hg hb hs) fun D σ H h=>by
  obtain⟨H₀,Z₀,Z,δ,r,hh,e,k⟩:=h;obtain⟨ds,e1,e⟩:=bind_some e;refine⟨H₀,Z₀,Z,δ,ds,hh,e1,fun J Z1 H1 hh1 t1 ok=>?_⟩
  refine⟨fun i m σ H=>m=ds.length-i/\i<=ds.length/\∃Zc δc,Hold X.K H₀ Z₀ Zc δc σ H/\Same Z1 Zc/\loop g s1 (ds.drop i) δc=some r,⟨ds.length,by simp,Nat.zero_le _,Z1,δ,hh1,Same.refl _,e⟩,?_⟩
  rintro i m σ2 H2 ⟨rfl,hi2,Zc,δc,hhc,tc,ec⟩;have zh:Same Z1 H2:=tc.trans hhc.zh;by_cases hlt:i<ds.length
  ·refine .inr ⟨ok.go i H2 zh hlt,fun σ3 H3=>∃Zc δc,Hold X.K H₀ Z₀ Zc δc σ3 H3/\Same Z1 Zc/\loop g s1 (ds.drop (i+1)) δc=some r,fun σ3 H3 q=>⟨ds.length-(i+1),by lia,rfl,hlt,q⟩,fun x H3 y=>?_⟩
   have ed:ds[i]? = some ds[i]:=by simp[hlt]
   obtain⟨rfl,rx⟩:=ok.yld i H2 x H3 _ zh ed y;rw[List.drop_eq_getElem_cons hlt]at ec;obtain⟨δ1,g1,ec⟩:=bind_some ec;obtain⟨⟨fl,δ2⟩,g2,ec⟩:=bind_some ec;refine⟨H₀,Z₀,Zc,δc,_,δ1,hhc,rx.same tc,g1,fun σ4 H4 Z4 hh4 t4=>⟨H₀,Z₀,Z4,δ1,(fl,δ2),hh4,g2,fun σ5 H5 Z5 hh5 t5=>?_⟩⟩
   cases fl with
   |nx=>exact⟨Z5,δ2,hh5,(tc.trans t4).trans t5,ec⟩
   |ct=>exact⟨Z5,δ2,hh5,(tc.trans t4).trans t5,ec⟩
   |bk=>cases ec;exact k σ5 H5 Z5 hh5 (((t1.trans tc).trans t4).trans t5)
   |rt d=>cases ec;exact k σ5 H5 Z5 hh5 (((t1.trans tc).trans t4).trans t5)
  ·have e2:ds.drop i=[]:=List.drop_eq_nil_iff.mpr (by lia)
   rw[e2]at ec;cases ec;exact .inl ⟨ok.stop i H2 zh (by lia),k σ2 H2 Zc hhc (t1.trans tc)⟩
theorem vM(n:Dv->Nat)(hp:PassesOwn (model X.prog X.w) X.A X.env X.xe)(hc:TV X c ft)(hb:BV X body s1):SV X (.While c body [] pos) (fun δ=>eZ ft s1 (n δ) δ):=
 PS.imp (wj hp hc hb) fun D σ H h=>by
  obtain⟨H₀,Z₀,Z,δ,r,hh,e,k⟩:=h;refine⟨fun m σ H=>∃Zc δc,Hold X.K H₀ Z₀ Zc δc σ H/\Same Z Zc/\eZ ft s1 m δc=some r,⟨n δ,Z,δ,hh,Same.refl _,e⟩,?_⟩
  rintro m σ2 H2 ⟨Zc,δc,hhc,tc,ec⟩;cases m with
  |zero=>cases ec
  |succ m=>
   obtain⟨cc,g1,ec⟩:=bind_some ec;refine⟨H₀,Z₀,Zc,δc,cc,hhc,g1,fun Z3 H3 hh3 t3=>?_⟩
   cases cc with
   |false=>cases ec;exact k σ2 H3 Z3 hh3 (tc.trans t3)
   |true=>
    obtain⟨⟨fl,δ2⟩,g2,ec⟩:=bind_some ec;refine⟨fun σ4 H4=>∃Zc δc,Hold X.K H₀ Z₀ Zc δc σ4 H4/\Same Z Zc/\eZ ft s1 m δc=some r,fun σ4 H4 q=>⟨m,Nat.lt_succ_self m,q⟩,?_⟩
    refine⟨H₀,Z₀,Z3,δc,(fl,δ2),hh3,g2,fun σ5 H5 Z5 hh5 t5=>?_⟩
    cases fl with
    |nx=>exact⟨Z5,δ2,hh5,(tc.trans t3).trans t5,ec⟩
    |ct=>exact⟨Z5,δ2,hh5,(tc.trans t3).trans t5,ec⟩
    |bk=>cases ec;exact k σ5 H5 Z5 hh5 ((tc.trans t3).trans t5)
    |rt d=>cases ec;exact k σ5 H5 Z5 hh5 ((tc.trans t3).trans t5)
theorem wZ{K:Fg}{Z:Hp}{lo:Int}{n:Nat}:ItOk K Z (Di lo n) (mO lo n) where
 go:=fun i H _ h=>by simpa[mO,Di]using h
 yld:=fun i H x H' d _ e y=>by
  obtain⟨rfl,rfl⟩:=y;refine⟨rfl,?_⟩;unfold mO at e;rw[List.getElem?_map]at e;cases q:(List.range n)[i]? with
  |none=>rw[q]at e;cases e
  |some k=>
   rw[q]at e;cases e;have:k=i:=by
    obtain⟨h,h2⟩:=List.getElem?_eq_some_iff.mp q;simpa using h2.symm
   subst this;exact .int _
 stop:=fun i H _ h=>by simpa[mO,Di]using h
theorem cm(hg:Gl X "range")(hm:X.mg "range" = none)(ha:AV X [a] fs)(hs:starEach [a] X.env=[(false,eval a X.env)]:=by rfl):IV X tg (.Call (.Name "range" p) [a] [] pos) (oL fs bL):=
 PI.imp (uw hg hm ha hs) fun σ H R h=>by
  obtain⟨H₀,Z₀,Z,δ,ds,hh,e,k⟩:=h;obtain⟨as,e1,e⟩:=bind_some e;refine⟨H₀,Z₀,Z,δ,as,hh,e1,fun vs Z1 H1 hh1 t1 r1=>?_⟩
  unfold bL at e;split at e
  ·rename_i j
   split at e
   ·rename_i hj
    cases e;cases r1 with
    |cons q1 q2=>
     cases q2;exact⟨j,by rw[q1.int_eq],hj.2,hj.1,k _ Z1 H1 hh1 t1 wZ⟩
   ·cases e
  ·cases e
theorem zF(ha:EV X a f):IV X tg a (oI f Cf):=
 PI.imp (yX ha) fun σ H R h=>by
  obtain⟨H₀,Z₀,Z,δ,ds,hh,e,k⟩:=h;obtain⟨y,e1,e⟩:=bind_some e;refine⟨H₀,Z₀,Z,δ,y,hh,e1,fun v Z1 H1 hh1 t1 r1=>?_⟩
  cases r1 with
  | @lst l xs ds' h1 q1=>
   cases e;refine⟨l,rfl,⟨xs,SqL.same h1 hh1.zh⟩,k _ Z1 H1 hh1 t1 ⟨fun i H2 z hi=>?_,fun i H2 x H3 d z ed y=>?_,fun i H2 z hi=>⟨xs,SqL.same h1 z,by rw[q1.length];exact hi⟩⟩⟩
   ·have hi':i<xs.length:=by rw[q1.length];exact hi
    exact⟨xs,xs[i],SqL.same h1 z,by simp[hi']⟩
   ·obtain⟨rfl,y⟩:=y
    obtain⟨v,ev,rv⟩:=q1.get ed;have:=y xs (SqL.same h1 z);rw[ev]at this;cases this;exact⟨rfl,rv⟩
  |_=>cases e
theorem Cv(ha:EV X a f):IV X tg a (oI f Fu):=
 PI.imp (BK ha) fun σ H R h=>by
  obtain⟨H₀,Z₀,Z,δ,ds,hh,e,k⟩:=h;obtain⟨y,e1,e⟩:=bind_some e;refine⟨H₀,Z₀,Z,δ,y,hh,e1,fun v Z1 H1 hh1 t1 r1=>?_⟩
  cases r1 with
  | @tup l xs ds' h1 q1=>
   cases e;refine⟨l,rfl,⟨xs,SqT.same h1 hh1.zh⟩,k _ Z1 H1 hh1 t1 ⟨fun i H2 z hi=>?_,fun i H2 x H3 d z ed y=>?_,fun i H2 z hi=>⟨xs,SqT.same h1 z,by rw[q1.length];exact hi⟩⟩⟩
   ·have hi':i<xs.length:=by rw[q1.length];exact hi
    exact⟨xs,xs[i],SqT.same h1 z,by simp[hi']⟩
   ·obtain⟨rfl,y⟩:=y
    obtain⟨v,ev,rv⟩:=q1.get ed;have:=y xs (SqT.same h1 z);rw[ev]at this;cases this;exact⟨rfl,rv⟩
  |_=>cases e
end
section
variable{X:Cx}{e:Expr}{lo hi:Option Expr}{p2 pos:Pos}{f:Dv->Option D}
noncomputable def HA(K:Fg)(f:Dv->Option (Option Int)):TO:=fun σ H Q=>∃H₀ Z₀ Z δ d,Hold K H₀ Z₀ Z δ σ H/\f δ = some d/\∀Z' H',Hold K H₀ Z₀ Z' δ σ H'->Same Z Z'->Q d H'
def OV(X:Cx)(e:Option Expr)(f:Dv->Option (Option Int)):Prop:=PO X e (HA X.K f)
theorem PO.imp{eo:Option Expr}{t t':TO}(h:PO X eo t)(i:∀ σ H Q,t' σ H Q->t σ H Q):PO X eo t':=fun pins s σ H Q I q=>h pins s σ H Q I (i _ _ _ q)
theorem sY(h:EV X e f):OV X (some e) (oP f):=PO.imp (yV h) fun σ H Q h=>by
 obtain⟨H₀,Z₀,Z,δ,d,hh,e,k⟩:=h;obtain⟨x,e1,e⟩:=bind_some e;refine⟨H₀,Z₀,Z,δ,x,hh,e1,fun v Z1 H1 hh1 t1 r1=>?_⟩
 cases r1<;>simp[asI]at e;subst e;exact⟨_,rfl,k Z1 H1 hh1 t1⟩
theorem Reps.cut{K:Fg}{Z:Hp}{vs:List V}{ds:List D}(r:Reps K Z vs ds)(lo hi:Option Int):Reps K Z (mX vs lo hi) (qy ds lo hi):=by
 unfold mX qy;rw[r.length];exact(r.drop _).take _
theorem rY{ds:List D}{lo hi:Option Int}(h1:HT.sIx ds.length 0 lo=0)(h2:HT.sIx ds.length ds.length hi=ds.length):qy ds lo hi=ds:=by
 unfold qy;rw[h1,h2];simp
section
variable{prog:Program}{w:World}{A:Around}{E:Value->Shared->Prop}{s:Shared}
theorem ot{t sl:Addr}{items:Array Value}{vl vu:Value}{lo hi:Option Int}{Q:Value->Shared->Prop}(ht:IsTup s.heap t items)(hs:s.heap.IsSliceOf sl vl vu .none)(pl:IsPart vl lo)(pu:IsPart vu hi)
  (h1:HT.sIx items.size 0 lo=0) (h2:HT.sIx items.size items.size hi=items.size) (h:Q (.ref t) s):wpAny (model prog w) A (getItem (.ref t) (.ref sl)) Q E s:=by
 obtain⟨osl,hos,hcs,hds⟩:=id hs;have ty:s.TypeIs (.ref sl) "slice":=⟨osl,hos,hcs⟩;unfold getItem
 try with_reducible refine wpAny_holding ?_
 first|refine wpAny_bind (wpAny_pure ?_)|skip
 refine wpAny_bind (wpAny_sequenceKey ht.typeIs (by decide) ?_);refine wpAny_bind (wpAny_callSpecial?_slot (name:=Str.ofString "__getitem__") ht.typeIs PyProof.Rows.slot_tuple_getitem
  (wpAny_call_entry PyProof.Rows.slot_tuple_getitem ht.typeIs PyProof.Rows.entry_tuple_getitem ?_ (PyProof.Rows.args_tuple_getitem _ _)))
 show wpAny _ _ (Builtin.Tuple.tupleItemsOf (.ref t) >>= _) _ _ s;refine wpAny_bind (tupleItemsOf_ ht ?_);refine wpAny_bind (wpAny_typeOf ty ?_);rw[if_pos (by decide)];refine wpAny_bind (HT.fH hs pl pu ?_);have yes:(((((HT.sIx items.size 0 lo:Nat):Int)==0)&&((1:Int)==1))&&((HT.sIx items.size items.size hi-HT.sIx items.size 0 lo)==items.size))=true:=by
  rw[h1,h2];simp
 show wpAny _ _ (if(((((HT.sIx items.size 0 lo:Nat):Int)==0)&&((1:Int)==1))&&((HT.sIx items.size items.size hi-HT.sIx items.size 0 lo)==items.size))=true then _ else _) _ _ s;rw[if_pos yes];unfold Builtin.Tuple.tupleIsExact;refine wpAny_bind (wpAny_bind (wpAny_typeOf ht.typeIs (wpAny_pure ?_)));rw[if_pos (by decide)];exact wpAny_bind (wpAny_rule (wpAny_pure ⟨_,rfl,wpAny_pure h⟩))
end
def F3(K:PySem.W.Frag):V->Option Int->Option Int->Hp->VK->Prop:=fun x lo hi H Q=>∃a xs,x=.ref a/\SqT K H a xs/\HT.sIx xs.length 0 lo=0/\HT.sIx xs.length xs.length hi=xs.length/\Q (.ref a) H
theorem yG:SlR X (F3 X.K):=by
 intro pins s σ H x v vl vu lo hi sl Q I rx hs pl pu h;obtain⟨a,xs,rfl,hx,w1,w2,q⟩:=h;cases rx;obtain⟨its,r,ht,hz⟩:=I.tuple hx;have hlen:its.toArray.size=xs.length:=by rw[List.size_toArray];exact r.length.symm
 refine⟨"tuple",_,PyProof.Rows.slot_tuple_getitem.lookup,ht.typeIs,?_⟩;exact ot ht hs pl pu (by rw[hlen];exact w1) (by rw[hlen];exact w2) ⟨.ref a,H,I,rfl,q⟩
theorem xj{fl fu:Dv->Option (Option Int)}(he:EV X e f)(hl:OV X lo fl)(hu:OV X hi fu):EV X (.Subscript e (.Slice lo hi none p2) pos) (Hf f fl fu):=
 PE.imp (wv (sl_list.or (sl_tup.or yG)) he hl hu) fun σ H Q h=>by
  obtain⟨H₀,Z₀,Z,δ,d,hh,e,k⟩:=h;obtain⟨x,e1,e⟩:=bind_some e;obtain⟨i,e2,e⟩:=bind_some e;obtain⟨j,e3,e⟩:=bind_some e;refine⟨H₀,Z₀,Z,δ,x,hh,e1,fun v Z1 H1 hh1 t1 r1=>⟨H₀,Z₀,Z1,δ,i,hh1,e2,fun Z2 H2 hh2 t2=>⟨H₀,Z₀,Z2,δ,j,hh2,e3,fun Z3 H3 hh3 t3=>?_⟩⟩⟩
  have r3:=(r1.same t2).same t3;have tt:=(t1.trans t2).trans t3;cases r3 with
  | @lst a xs ds h1 q1=>
   cases e;refine .inl ⟨_,_,rfl,SqL.same h1 hh3.zh,fun p hp=>?_⟩
   have n:=New.add hh3.zh hp (.lst (mX xs i j));exact k _ _ _ (hh3.new n) (tt.trans n.z) (.lst (SqL.of aJ) ((q1.cut i j).same n.z))
  | @tup a xs ds h1 q1=>
   simp only[E5]at e;cases e;by_cases hw:HT.sIx ds.length 0 i=0/\HT.sIx ds.length ds.length j=ds.length
   ·refine .inr (.inr ⟨_,_,rfl,SqT.same h1 hh3.zh,by rw[q1.length];exact hw.1,by rw[q1.length];exact hw.2,?_⟩)
    refine k _ _ _ hh3 tt ?_;rw[rY hw.1 hw.2];exact .tup h1 q1
   ·refine .inr (.inl ⟨_,_,rfl,SqT.same h1 hh3.zh,by rw[q1.length];exact hw,fun p hp=>?_⟩)
    have n:=New.add hh3.zh hp (.tup (mX xs i j));exact k _ _ _ (hh3.new n) (tt.trans n.z) (.tup (SqT.of aJ) ((q1.cut i j).same n.z))
  |_=>cases e
end
structure FunV (K:PySem.W.Frag) (x qual:Str) (st:Stmt) (f:Addr) (fd:FuncData) (dV:Value):Prop where
 ex:∃(oc:Value) (od:Option Addr) (kV doc pm:Value) (an:Option Addr) (cdv ct:Value) (osl:Array (Option Value)),
  fd=PySem.W.fnOf x qual (cu st) (bI st) (aj st) dV kV doc pm an cdv ct/\K.lookup f=some ⟨oc,od,.func fd,osl⟩/\PySem.W.codeIn K cdv qual=true
 kp:PySem.W.keepIn K (.ref f)=true
section
variable{P:Program}{w:World}{K:PySem.W.Frag}{mg:Str->Option Value}{base:Heap}
theorem uj{N:List Str}{vs:List V}{as:List D}{Z:Hp}(r:Reps K Z vs as):∀(i:Nat) d,(aw N as)[i]? = some (.fz d)->∃v,(gA N vs)[i]? = some (some v)/\Rep K Z v d:=by
 intro i d e;unfold aw at e;unfold L2.gA;by_cases hi:i<as.length
 ·rw[List.getElem?_append_left (by simpa using hi),List.getElem?_map]at e
  cases q:as[i]? with
  |none=>rw[q]at e;cases e
  |some d'=>
   rw[q]at e;cases e;obtain⟨v,ev,rv⟩:=r.get q;exact⟨v,by rw[List.getElem?_append_left (by simpa[r.length]using hi),List.getElem?_map,ev];rfl,rv⟩
 ·rw[List.getElem?_append_right (by simpa using hi),List.getElem?_replicate]at e
  split at e<;>cases e
theorem nk{N:List Str}{as:List D}:∀(i:Nat) ds,(aw N as)[i]? ≠ some (.own ds):=by
 intro i ds e;unfold aw at e;by_cases hi:i<as.length
 ·rw[List.getElem?_append_left (by simpa using hi),List.getElem?_map]at e
  cases q:as[i]? with
  |none=>rw[q]at e;cases e
  |some d'=>rw[q]at e;cases e
 ·rw[List.getElem?_append_right (by simpa using hi),List.getElem?_replicate]at e
  split at e<;>cases e
theorem vQ{N:List Str}{as:List D}:∀(i:Nat) ds,(aw N as)[i]? ≠ some (.fr ds):=by
 intro i ds e;unfold aw at e;by_cases hi:i<as.length
 ·rw[List.getElem?_append_left (by simpa using hi),List.getElem?_map]at e
  cases q:as[i]? with
  |none=>rw[q]at e;cases e
  |some d'=>rw[q]at e;cases e
 ·rw[List.getElem?_append_right (by simpa using hi),List.getElem?_replicate]at e
  split at e<;>cases e
theorem iS{N:List Str}{vs:List V}{as:List D}{Z H:Hp}(zh:Same Z H)(r:Reps K Z vs as):Hold K H Z Z (aw N as) (gA N vs) H:=
 ⟨zh,Same.refl _,Same.refl _,fun _ _=>rfl,by simp[aw,L2.gA,r.length],uj r,fun i ds e=>absurd e (nk i ds),fun i j ds es a _ e=>absurd e (nk i ds),fun i ds e=>absurd e (vQ i ds),NoF.refl _⟩
theorem Gu{x qual:Str}{st:Stmt}{f:Addr}{fd:FuncData}{dV:Value}{N ps:List Str}{k:Nat}{g:List D->Option D}{b:Sf}(F:FunV K x qual st f fd dV)(S:FnScope N ps (aj st))(len:∀as d,g as=some d->as.length=ps.length)
  (hb:∀(cdv:Value) (A:Around) (outer:List Env) (s:Shared) (H:Hp) (E:XK),Room k (A.deeper (envOfC qual (aj st) s.heap.objs.size f cdv))->BV (mW cM P w K mg base N qual (aj st) f cdv A outer s H E).nox (bI st) b)
  (hg:∀as d,g as=some d->∃ δ',b (aw N as)=some (.rt d,δ')\/(d=.none/\b (aw N as)=some (.nx,δ'))):FnOk P w K mg base cM (k+1) f fd ps (dG K g):=by
 obtain⟨oc,od,kV,doc,pm,an,cdv,ct,osl,rfl,lk,hcd⟩:=F.ex;refine ED lk hcd S (fun vs H Q E h=>?_) fun A outer s H vs Q E hr hsp=>?_
 ·obtain⟨Z,as,d,zh,r,e,_⟩:=h
  rw[r.length];exact len as d e
 ·refine⟨_,PSs.nox (hb cdv A outer s H E hr),?_⟩
  obtain⟨Z,as,d,zh,r,e,kk⟩:=hsp;have hh:=iS (N:=N) zh r;have fin:∀{σ':St} {H' Z':Hp} {δ':Dv},Hold K H Z Z' δ' σ' H'->Same Z Z'->New Z H Z' H':=fun h' z'=>⟨z',h'.h0,h'.zh,h'.zb,h'.nf⟩
  obtain⟨δ',e2|⟨rfl,e2⟩⟩:=hg as d e
  ·exact⟨H,Z,Z,_,_,hh,e2,fun σ' H' Z' h' z' v rv=>kk v Z' H' (fin h' z') rv⟩
  ·exact⟨H,Z,Z,_,_,hh,e2,fun σ' H' Z' h' z'=>kk _ Z' H' (fin h' z') .non⟩
theorem FunV.binds{x qual:Str}{st:Stmt}{f:Addr}{fd:FuncData}{ps:List Str}(F:FunV K x qual st f fd .none)
  (h:∀(kV doc pm:Value) (an:Option Addr) (cdv ct:Value) (us:List Value),us.length=ps.length->bindArgs (PySem.W.fnOf x qual (cu st) (bI st) (aj st) .none kV doc pm an cdv ct) ⟨us,[]⟩=pure (ps.zip us)):Binds K fd ps []:=by
 obtain⟨oc,od,kV,doc,pm,an,cdv,ct,osl,rfl,lk,hcd⟩:=F.ex;exact .all (h kV doc pm an cdv ct)
theorem FunV.bindsD{x qual:Str}{st:Stmt}{f T:Addr}{fd:FuncData}{ps:List Str}{o:Obj}{items:Array Value}{n:Nat}{ds:List Value}(F:FunV K x qual st f fd (.ref T))(ho:K.lookup T=some o)(hs:o.data=.seq items n)(nu:Nat)(hn:nu+ds.length=ps.length)
  (h:∀(kV doc pm:Value) (an:Option Addr) (cdv ct:Value) (us:List Value),us.length=nu->∃kk,bindArgs (PySem.W.fnOf x qual (cu st) (bI st) (aj st) (.ref T) kV doc pm an cdv ct) ⟨us,[]⟩=seqItems? (.ref T) >>= kk/\kk (some items)=pure (ps.zip (us++ds))):Binds K fd ps ds:=by
 obtain⟨oc,od,kV,doc,pm,an,cdv,ct,osl,rfl,lk,hcd⟩:=F.ex;intro s us KX hl;obtain⟨kk,h1,h2⟩:=h kV doc pm an cdv ct us (by rw[List.length_append]at hl;lia);exact BindsTo.of_defaults rfl (KX _ _ ho) hs h1 h2
theorem jr{x qual:Str}{st:Stmt}{f:Addr}{dV oc:Value}{od an:Option Addr}{osl:Array (Option Value)}{kV doc pm cdv ct:Value}(l:K.lookup f=some ⟨oc,od,.func (PySem.W.fnOf x qual (cu st) (bI st) (aj st) dV kV doc pm an cdv ct),osl⟩)
  (c:PySem.W.codeIn K cdv qual=true) (k:PySem.W.keepIn K (.ref f)=true):FunV K x qual st f (PySem.W.fnOf x qual (cu st) (bI st) (aj st) dV kV doc pm an cdv ct) dV:=⟨⟨oc,od,kV,doc,pm,an,cdv,ct,osl,rfl,l,c⟩,k⟩
def pH(K:PySem.W.Frag):Sp:=fun vs H Q _=>∃(a:Addr) (ns:List Int),vs=[.ref a]/\SqL K H a (ns.map V.int)/\ns.length<=63/\∀H',Q (.bl true) H'
theorem Ek{g:List D->Option D}{k:Nat}{f:Addr}{fd:FuncData}(F:FnOk P w K mg base cM k f fd ["script"] (dG K g))(hg:∀ns:List Int,ns.length<=63->g [.list (ns.map .int)]=some (.bool true)):FnOk P w K mg base cM k f fd ["script"] (pH K):=
 F.imp fun vs H Q E h=>by
  obtain⟨a,ns,rfl,hS,hl,q⟩:=h;exact⟨H,[.list (ns.map .int)],.bool true,Same.refl _,.cons (.lst hS (Reps.ints ns)) .nil,hg ns hl,fun v Z' H' _ r=>by cases r;exact q H'⟩
end
theorem Dl{k:Nat}{l:PySem.W.OpenLaw}{q:Program}{loose:List Str}{XP:(Str->Option Value)->Heap->Prop}{YP:World->Heap->Prop}{d:DefRec}{K:Params->PySem.W.Frag}(hn:l.most=some 63)(hr:Room k callerA)(hdf:d.params.defaults=[])
  (hY:∀(w:World) (h:Heap),YP w h->(K w.params).In h)
  (F:∀(w:World) (mg:Str->Option Value) (fa:Addr) (h:Heap),(K w.params).In h->h.Ns mainGlobals mg->mg d.name=some (.ref fa) ->
   ∃fd:FuncData,(∀(s:Shared) (u:Value),BindsTo s fd ⟨[u],[]⟩ [("script",u)])/\∀base:Heap,(K w.params).In base->base.Ns mainGlobals mg->FnOk l.prog w (K w.params) mg base cM k fa fd ["script"] (pH (K w.params)))
  (hTd:∀(w:World),∀x∈lamDefs,PySem.W.tabIn (K w.params) x=none\/∃d',(recsOf q).find? (fun e=>e.name==x)=some d') (hTn:∀(w:World),∀P∈cW (K w.params),(K w.params).lookup P=none) :
  PySem.W.WalkO q loose XP YP l.row.toRowW d [] (fun f vs=>PySem.call f vs):=
 L2.yp (n:=63) (k:=k) (x:="script") (CX:=fun _=>cM) (sp:=fun w=>pH (K w.params)) hn (by decide) hdf hr hY F (fun _ _ a ns hl _ hS=>⟨a,ns,rfl,hS,hl,fun _=>rfl⟩) (fun _ _ _ _ _ z=>z) hTd hTn
section
variable{P:Program}{w:World}{K:PySem.W.Frag}{mg:Str->Option Value}{base:Heap}
theorem ci{x qual:Str}{st:Stmt}{f:Addr}{fd:FuncData}{dV:Value}{N ps:List Str}{k:Nat}{b:Sf}(F:FunV K x qual st f fd dV)(S:FnScope N ps (aj st))
  (hb:∀(cdv:Value) (A:Around) (outer:List Env) (s:Shared) (H:Hp) (E:XK),Room k (A.deeper (envOfC qual (aj st) s.heap.objs.size f cdv))->BV (mW cM P w K mg base N qual (aj st) f cdv A outer s H E).nox (bI st) b) :
  FnOk P w K mg base cM (k+1) f fd ps (dG K (runB N ps.length b)):=by
 refine Gu F S (fun as d h=>?_) hb fun as d h=>?_
 ·unfold runB at h
  split at h
  ·assumption
  ·cases h
 ·unfold runB at h
  split at h
  ·obtain⟨⟨fl,δ'⟩,e,h⟩:=bind_some h
   cases fl with
   |nx=>cases h;exact⟨δ',.inr ⟨rfl,e⟩⟩
   |rt d=>cases h;exact⟨δ',.inl e⟩
   |bk=>cases h
   |ct=>cases h
  ·cases h
structure Cal (P:Program) (w:World) (K:PySem.W.Frag) (mg:Str->Option Value) (base:Heap) (x:Str) (k:Nat) (g:List D->Option D) (dd:List D):Prop where
 ex:∃(fa:Addr) (fd:FuncData) (ps:List Str) (ds:List Value) (dv:List V),FnOk P w K mg base cM k fa fd ps (dG K g)/\mg x=some (.ref fa)/\PySem.W.keepIn K (.ref fa)=true/\Binds K fd ps ds/\Vals dv ds/\∀Z,Reps K Z dv dd
theorem Cal.mk0{x:Str}{k:Nat}{g:List D->Option D}{fa:Addr}{fd:FuncData}{ps:List Str}(F:FnOk P w K mg base cM k fa fd ps (dG K g))(hm:mg x=some (.ref fa))(hk:PySem.W.keepIn K (.ref fa)=true)(hb:Binds K fd ps []):Cal P w K mg base x k g []:=
 ⟨⟨fa,fd,ps,[],[],F,hm,hk,hb,.nil,fun _=>.nil⟩⟩
end
section
variable{X:Cx}{e:Expr}{es:List Expr}{p pos:Pos}{fs:Dv->Option (List D)}
theorem CG{k:Nat}{x:Str}{g:List D->Option D}{dd:List D}(C:Cal X.prog X.w X.K X.mg X.base x k g dd)(hr:Room k X.A)(hg:Gl X x)(ha:AV X (e::es) fs)(hdb:(x==("__debug__":Str))=false:=by decide)(he:starEach (e::es) X.env=(false,eval e X.env)::starEach es X.env:=by rfl)
  (hpl:(backTo pos (starEach es X.env)).any (·.1)=false:=by rfl):EV X (.Call (.Name x p) (e::es) [] pos) (os fs fun as=>g (as++dd)):=by
 obtain⟨fa,fd,ps,ds,dv,F,hm,hk,hb,hd,hdd⟩:=C.ex;exact zS F hr hg hm hk hb hd hdd wy ha hdb he hpl
variable{tg a:Expr}{f:Dv->Option D}
theorem gi(ha:EV X a f):IV X tg a (oI f eY):=by
 intro pins s σ H R I h;obtain⟨H₀,Z₀,Z,δ,ds,hh,e,k⟩:=h;obtain⟨y,e1,e⟩:=bind_some e;cases y with
 |list xs=>exact zF ha pins s σ H R I ⟨H₀,Z₀,Z,δ,ds,hh,by unfold oI;rw[e1];exact e,k⟩
 |tuple xs=>exact Cv ha pins s σ H R I ⟨H₀,Z₀,Z,δ,ds,hh,by unfold oI;rw[e1];exact e,k⟩
 |_=>cases e
end
noncomputable def clos(env:Env):List (Str×NameKind)->List (Str×Addr)->List (Str×Addr)
 |[],cs=>cs
 | (n,k)::r,cs=>if k == .free then clos env r ((n,(env.cells.lookup n).getD 0)::cs)else clos env r cs
theorem ma{env:Env}:∀(l:List (Str×NameKind)) (cs:List (Str×Addr)),(∀y∈l,y.2=.free->∃c,env.cells.lookup y.1=some c) ->
  (forIn l cs fun(x:Str×NameKind) (r:List (Str×Addr))=>(if(x.2==NameKind.free)=true then do let c <-cellOf env x.1;pure (ForInStep.yield ((x.1,c)::r))else pure (ForInStep.yield r):Sem (ForInStep (List (Str×Addr)))))=pure (clos env l cs)
 |[],cs,_=>rfl
 | (n,k)::r,cs,h=>by
  have ih:=fun cs'=>ma r cs' fun y hy=>h y (List.mem_cons_of_mem _ hy)
  rw[List.forIn_cons];cases hk:k==NameKind.free with
  |true=>
   have hk':k=.free:=by simpa using hk
   obtain⟨c,ec⟩:=h (n,k) List.mem_cons_self hk';have e1:cellOf env n=pure c:=by unfold cellOf;rw[ec]
   simp only[hk,if_true,e1,pure_bind,clos,ec,Option.getD_some];exact ih _
  |false=>
   simp only[hk,Bool.false_eq_true,if_false,pure_bind,clos];exact ih _
theorem iJ{scope:Scope}{env:Env}(h:∀y∈scope.names,y.2=.free->∃c,env.cells.lookup y.1=some c):closureFor scope env=pure (clos env scope.names []):=by
 simp only[closureFor];have:=ma (env:=env) scope.names [] h
 first
  | (rw[this];rfl)
  | (simp only[this];rfl)
  | (unfold closureFor;simp_all)
theorem bS{env:Env}:∀(l:List (Str×NameKind)) (cs:List (Str×Addr)) (y:Str) (c:Addr),(∀z∈l,z.2=.free->∃c,env.cells.lookup z.1=some c)->(clos env l cs).lookup y=some c->cs.lookup y=some c\/env.cells.lookup y=some c
 |[],cs,y,c,_,e=>.inl e
 | (n,k)::r,cs,y,c,h,e=>by
  unfold clos at e;have hr:=fun z hz=>h z (List.mem_cons_of_mem _ hz)
  split at e
  ·rename_i hk
   rcases bS r _ y c hr e with q|q
   ·rw[List.lookup_cons]at q
    cases hy:y==n with
    |true=>
     have hy':y=n:=by simpa using hy
     subst hy';rw[hy]at q;obtain⟨c',ec⟩:=h (y,k) List.mem_cons_self (by simpa using hk);simp only[ec,Option.getD_some]at q;cases q;exact .inr ec
    |false=>rw[hy]at q;exact .inl q
   ·exact .inr q
  ·exact bS r cs y c hr e
theorem jx{env:Env}:∀(l:List (Str×NameKind)) (cs:List (Str×Addr)) (y:Str),((y,NameKind.free)∈l\/(cs.lookup y).isSome=true)->((clos env l cs).lookup y).isSome=true
 |[],cs,y,h=>by
  rcases h with h|h
  ·cases h
  ·exact h
 | (n,k)::r,cs,y,h=>by
  unfold clos;split
  ·rename_i hk
   refine jx r _ y ?_;rcases h with h|h
   ·rcases List.mem_cons.mp h with e|e
    ·cases e;exact .inr (by simp[List.lookup_cons])
    ·exact .inl e
   ·refine .inr ?_
    rw[List.lookup_cons];cases hy:y==n with
    |true=>rfl
    |false=>exact h
  ·rename_i hk
   refine jx r cs y ?_;rcases h with h|h
   ·rcases List.mem_cons.mp h with e|e
    ·cases e;exact absurd rfl hk
    ·exact .inl e
   ·exact .inr h
theorem eN{env:Env}{y:Str}:∀(l:List (Str×NameKind)),(∀z∈l,z.2≠.cell) ->
  (((l.map fun(n,k)=>if(k==NameKind.free&&env.scope.kind == .function&&env.kindOf n==some .cell)then(n,NameKind.cell)else(n,k)).lookup y=some .cell\/(l.map fun(n,k)=>if(k==NameKind.free&&env.scope.kind == .function&&env.kindOf n==some .cell)then(n,NameKind.cell)else(n,k)).lookup y=some .free)↔l.lookup y=some .free)
 |[],_=>by simp
 | (n,k)::r,h=>by
  have ih:=eN (env:=env) (y:=y) r fun z hz=>h z (List.mem_cons_of_mem _ hz)
  have hk:k≠.cell:=h (n,k) List.mem_cons_self;rw[List.map_cons];cases hy:y==n with
  |true=>
   by_cases hc:(k==NameKind.free&&env.scope.kind == .function&&env.kindOf n==some .cell)=true
   ·have hf:k=.free:=by
     simp only[Bool.and_eq_true]at hc;simpa using hc.1.1
    simp only[if_pos hc,List.lookup_cons,hy];simp[hf]
   ·simp only[if_neg hc,List.lookup_cons,hy]
    simp[hk]
  |false=>
   by_cases hc:(k==NameKind.free&&env.scope.kind == .function&&env.kindOf n==some .cell)=true
   ·simp only[if_pos hc,List.lookup_cons,hy];exact ih
   ·simp only[if_neg hc,List.lookup_cons,hy];exact ih
noncomputable def iZ(X:Cx)(scope:Scope)(N:List Str)(C:Addr)(s₀:Shared)(H₀:Hp)(ex:List Addr):Cx:=
 { X with N:=N,s₀:=s₀,H₀:=H₀,env:=compEnvC scope (clos X.env scope.names []) C X.env,outer:=X.stack,stack:=X.stack,ex:=ex,fn:=fun _=>false,cz:=fun _=>false,pn:=[],xe:=fun _ _=>False }
structure BlkOk (on:List (Str×NameKind)) (ON:List Str) (scope:Scope) (vars:List Str) (caps:List (Nat×Str)):Prop where
 kind:scope.kind=.function
 cell:∀y∈scope.names,y.2≠.cell
 names:∀y∈scope.names,y.2=.local->scope.names.lookup y.1=some .local
 free:∀y∈scope.names,y.2=.free->on.lookup y.1=some .cell\/on.lookup y.1=some .free
 cap:∀p∈caps,ON[p.1]? = some p.2/\scope.names.lookup p.2=some .free
section
variable{X:Cx}{pins:List (Addr×Obj)}{σ:St}{H H':Hp}{s s':Shared}{scope:Scope}{vars:List Str}{caps:List (Nat×Str)}{fp:List Addr}{C:Addr}
noncomputable def iX(σ:St)(caps:List (Nat×Str)):St:=caps.map fun p=>(σ[p.1]?).getD none
theorem BlkOk.cells(B:BlkOk X.env.scope.names X.N scope vars caps)(I:Inv X pins σ H s):∀y∈scope.names,y.2=.free->∃c,X.env.cells.lookup y.1=some c:=fun y hy e=>I.ok.has y.1 (B.free y hy e)
theorem xG(B:BlkOk X.env.scope.names X.N scope vars caps)(I:Inv X pins σ H s)(hf:∀b∈fp,kQ X pins H b)(hlt:∀b∈fp,b<s.heap.objs.size)(hC:s.heap.objs.size<=C):(iZ X scope (vars++caps.map (·.2)) C s H fp).Ok where
 mod:=I.ok.mod
 kind:=B.kind
 glob:=I.ok.glob
 blt:=I.ok.blt
 above:=hC
 inj:=fun x y c e1 e2=>by
  rcases bS _ _ _ _ (B.cells I) e1 with q1|q1
  ·cases q1
  ·rcases bS _ _ _ _ (B.cells I) e2 with q2|q2
   ·cases q2
   ·exact I.ok.inj x y c q1 q2
 has:=fun x e=>by
  have:scope.names.lookup x=some .free:=(eN scope.names B.cell).mp e;have:=jx (env:=X.env) scope.names [] x (.inl (PySem.mem_of_lookup this));exact Option.isSome_iff_exists.mp this
 cab:=fun x c e=>e.elim nofun nofun
 hd:=I.ok.hd
 frames:=I.ok.frames
 stk:=.inl rfl
 exf:=fun b hb=>⟨Nat.ne_of_lt (Nat.lt_of_lt_of_le (hlt b hb) hC),fun x c e=>by
  rcases bS _ _ _ _ (B.cells I) e with q|q
  ·cases q
  ·exact(hf b hb).2.2.2.2.1 x c q⟩
 tb:=I.tb
 bs:=I.bs
 bsz:=Nat.le_trans I.ok.bsz I.sz
 noex:=fun b o e hb=>by
  rcases (hf b hb).2.2.2.1 with z|z
  ·exact I.ok.noex b o e z
  ·exact absurd (Nat.lt_of_lt_of_le (Heap.lt_size e) (Nat.le_trans I.ok.bsz z)) (Nat.lt_irrefl _)
 exfs:=fun b hb z=>by
  rcases List.mem_cons.mp (I.stkSub b z)with q|q
  ·exact(hf b hb).2.1 q
  ·exact(hf b hb).2.2.1 q
 funs:=I.stack
 frf:=I.stkFree
theorem Ae(B:BlkOk X.env.scope.names X.N scope vars caps)(I:Inv X pins σ H s)(hf:∀b∈fp,kQ X pins H b)(hlt:∀b∈fp,b<s.heap.objs.size)(hC:s.heap.objs.size<=C){h₁:Heap}{m:Str->Option Value}{tk:Nat}(hns:h₁.Ns C m)(old:∀b o,s.heap.get? b=some o->h₁.get? b=some o):
  Inv (iZ X scope (vars++caps.map (·.2)) C s H fp) [] (vars.map (fun _=>none)++iX σ caps) H { s with heap:=h₁,toks:=tk }:=by
 refine⟨xG B I hf hlt hC,rfl,I.bare,Un.kept old,⟨m,hns,fun i x v e1 e2 e3=>?_⟩,fun x c e=>?_,I.hok.fresh hC,fun x c e=>?_,fun p hp=>absurd (show p∈([]:List (Addr×Obj))from hp) (by simp),I.hok.kept old,?_⟩
 ·have e1:(vars++caps.map (·.2))[i]? = some x:=e1
  by_cases hi:i<vars.length
  ·rw[List.getElem?_append_left (by simpa using hi),List.getElem?_map]at e2
   cases q:vars[i]?<;>rw[q]at e2<;>cases e2
  ·rw[List.getElem?_append_right (by simpa using hi)]at e1 e2
   simp only[List.length_map]at e2;unfold iX at e2;rw[List.getElem?_map]at e1 e2;cases q:caps[i-vars.length]? with
   |none=>rw[q]at e1;cases e1
   |some p=>
    rw[q]at e1 e2;cases e1;have hp:=List.mem_of_getElem? q;obtain⟨g1,g2⟩:=B.cap p hp;have gf:X.env.scope.names.lookup p.2=some .cell\/X.env.scope.names.lookup p.2=some .free:=B.free (p.2,.free) (PySem.mem_of_lookup g2) rfl;have ev:σ[p.1]? = some (some v):=by
     have e2:(σ[p.1]?).getD none=some v:=Option.some.inj e2;cases z:σ[p.1]? with
     |none=>rw[z]at e2;cases e2
     |some w=>rw[z]at e2;rw[show w=some v from e2]
    obtain⟨m',_,hl⟩:=I.loc;obtain⟨u,r,l⟩:=hl p.1 p.2 v g1 ev (gf.elim (fun z=>.inr (.inl z)) fun z=>.inr (.inr z))
    refine⟨u,r,.inr ⟨?_,?_⟩⟩
    ·exact(eN scope.names B.cell).mpr g2
    ·rcases l with⟨z,_⟩|⟨_,c,ec,hc⟩
     ·have z:X.env.scope.names.lookup p.2=some .local:=z
      rcases gf with w|w<;>rw[z]at w<;>cases w
     ·obtain⟨c',q'⟩:=Option.isSome_iff_exists.mp (jx (env:=X.env) scope.names [] p.2 (.inl (PySem.mem_of_lookup g2)))
      rcases bS _ _ _ _ (B.cells I) q' with w|w
      ·cases w
      ·rw[ec]at w
       cases w;obtain⟨o,ho,hd⟩:=hc;exact⟨c,q',o,old c o ho,hd⟩
 ·rcases bS _ _ _ _ (B.cells I) e with q|q
  ·cases q
  ·obtain⟨v,o,ho,hd⟩:=I.cell x c q
   exact⟨v,o,old c o ho,hd⟩
 ·rcases bS _ _ _ _ (B.cells I) e with q|q
  ·cases q
  ·exact(I.freeC x c q).imp id fun z=>⟨rfl,z.2⟩
 ·simp[iZ,iX]
theorem Ad(I:Inv X pins σ H s)(hf:∀b∈fp,kQ X pins H b){D:Addr}{s':Shared}{σ':St}{N:List Str}{ys:List V}{its:List Value}(hC:s.heap.objs.size<=C)(hD:s.heap.objs.size<=D)(hDC:D≠C)
  (J:Inv (iZ X scope N C s H fp) [] σ' H' s') (hD':H' D=none) (hp:s'.heap.PlainList D its.toArray) (hv:Vals ys its) (hz:ys.length<=sizeLine) {h':Heap} (hs:Heap.SameBut C s'.heap h') :
  Inv X pins σ (upd H' D (.lst ys)) { s' with heap:=h' }:=by
 have U:Un (vq X.stack) fp H H' s.heap s'.heap:=J.base;have neC:∀b o,s.heap.get? b=some o->b≠C:=fun b o e=>Nat.ne_of_lt (Nat.lt_of_lt_of_le (Heap.lt_size e) hC)
 have neD:∀b o,s.heap.get? b=some o->b≠D:=fun b o e=>Nat.ne_of_lt (Nat.lt_of_lt_of_le (Heap.lt_size e) hD)
 have mv:∀b o,b≠C->s'.heap.get? b=some o->h'.get? b=some o:=fun b o hb e=>hs.extBut b o hb e
 have tD:∀b o,H' b=some o->(upd H' D (.lst ys)) b=some o:=fun b o e=>by rw[aE (aW e hD')];exact e
 refine I.call' (s':={ s' with heap:=h' }) (ch:=fp) J.os ⟨fun b o e n h1 h2=>mv b o (neC b o e) (U.keep b o e n h1 h2),fun b o e n h1 h2=>?_,fun b o e n h2=>?_,fun b o e h2=>?_,fun b xs e=>tD _ _ (U.tups b xs e),fun b o xs e=>tD _ _ (U.frzs b o xs e),fun b ps e=>?_⟩ (fun b o e=>?_) J.bare
  (fun b hb=>⟨(hf b hb).2.2.2.1,(hf b hb).2.1,(hf b hb).2.2.2.2.1,(hf b hb).2.2.2.2.2⟩)
 ·obtain⟨sl,q⟩:=U.slot b o e n h1 h2
  exact⟨sl,mv b _ (neC b o e) q⟩
 ·rw[aE (neD b o e)];exact U.free b o e n h2
 ·obtain⟨o',q⟩:=U.there b o e h2
  exact⟨o',mv b _ (neC b o e) q⟩
 ·obtain⟨more,q⟩:=U.tbls b ps e
  exact⟨more,tD _ _ q⟩
 ·by_cases hb:b=D
  ·subst hb
   rw[aJ]at e;cases e;obtain⟨n,q⟩:=hp;exact⟨hz,its,n,hv,mv _ _ hDC q⟩
  ·rw[aE hb]at e
   refine(J.hok b o e).stay (fun c v hc q=>mv c v ?_ q) (fun c q=>tD _ _ q) (fun c xs q=>tD _ _ q) fun c o xs q=>tD _ _ q
   intro z;have fc:H' C=none:=J.free;rcases hc with w|w
   ·rw[<-w,z,fc]at e;cases e
   ·rw[z,fc]at w;cases w
theorem qz(elt target iter:Expr)(scope:Scope)(pos:Pos)(it acc:Value)(env:Env):
  compTurn (.ListComp elt [⟨target,iter,[],0⟩] scope pos) 0 it acc env=(standAt iter.pos >>= fun _=>pyNext it >>= fun r=>match r with
   |none=>pure (.done .next)
   |some v=>letOwnedTupleGo target it v >>= fun _=>assign target env v >>= fun _=>
    (eval elt env >>= fun x=>call (.builtin "list.append") [acc,x] >>= fun _=>pure ()) >>= fun _=>
     again (.compLoop (.ListComp elt [⟨target,iter,[],0⟩] scope pos) 0 it acc env)):=by rfl
def A6(σ σ':St):Prop:=σ.length = σ'.length/\∀(i:Nat) v,σ[i]? = some (some v) -> σ'[i]? = some (some v)
def sM(wi:TI)(g:TG)(te:TE)(vars:List Str)(caps:List (Nat×Str)):TE:=fun σ H Q=>wi σ H fun J H1=>∃W:Nat->Nat->List V->Hp->Prop,(∃m,W 0 m [] H1)/\∀i m ys H,W i m ys H ->
 (J.stop i H/\ys.length<=sizeLine/\∀p,H p=none->Q (.ref p) (upd H p (.lst ys))) \/
 (J.go i H/\ys.length<sizeLine/\∀x H',J.yld i H x H'->g x (vars.map (fun _=>none)++iX σ caps) H' fun σ2 H2=>A6 (vars.map (fun _=>none)++iX σ caps) σ2/\te σ2 H2 fun y H3=>∃m',m'<m/\W (i+1) m' (ys++[y]) H3)
theorem kJ{prog:Program}{w:World}{A:Around}{R:Result->Shared->Prop}{s:Shared}{elt target iter:Expr}{scope:Scope}{pos:Pos}{it acc:Value}{env:Env}(I:Nat->Shared->Prop)
  (turn:∀n s,I n s->wpAny (model prog w) A (pyNext it) (fun r s₁=>match r with
   |none=>R (.ok .next) s₁
   |some v=>wpAny (model prog w) A (letOwnedTupleGo target it v) (fun _ s₁=>wpAny (model prog w) A (assign target env v) (fun _ s₂=>wpAny (model prog w) A (eval elt env) (fun x s₃=>
     wpAny (model prog w) A (call (.builtin "list.append") [acc,x]) (fun _ s₄=>∃m,m<n/\I m s₄) (fun _ _=>False) s₃) (fun _ _=>False) s₂) (fun _ _=>False) s₁) (fun _ _=>False) s₁) (fun _ _=>False) s)
  (n:Nat) (h:I n s):codeAny (model prog w) A (.compLoop (.ListComp elt [⟨target,iter,[],0⟩] scope pos) 0 it acc env) R s:=by
 refine codeAny_loop rfl I (fun n s hI=>?_) n h;show wpAny _ _ ((compTurn (.ListComp elt [⟨target,iter,[],0⟩] scope pos) 0 it acc env).onRaise (fun x=>do noteFrame x env;theTreesLotGoes x)) _ _ s;refine wpAny_noted ?_;rw[qz];refine wpAny_bind (wpAny_standAt (wpAny_bind (wpAny_mono (turn n s hI) (fun r s₁ h₁=>?_) fun _ _ h'=>h'.elim)))
 cases r with
 |none=>exact wpAny_pure h₁
 |some v=>
  refine wpAny_bind (wpAny_mono h₁ (fun _ s₁ h₁=>?_) fun _ _ h'=>h'.elim)
  exact wpAny_bind (wpAny_mono h₁ (fun _ s₂ h₂=>wpAny_bind (wpAny_bind (wpAny_mono h₂ (fun x s₃ h₃=>wpAny_bind (wpAny_mono h₃
   (fun _ s₄ h₄=>wpAny_pure (wpAny_pure ⟨rfl,h₄⟩)) fun _ _ h'=>h'.elim)) fun _ _ h'=>h'.elim))) fun _ _ h'=>h'.elim)
end
section
variable{X:Cx}{scope:Scope}{vars:List Str}{caps:List (Nat×Str)}{elt tg iter:Expr}{pos:Pos}{wi:TI}{g:TG}{te:TE}
theorem mi(B:BlkOk X.env.scope.names X.N scope vars caps)(hc:X.calm=true)
  (hg:∀C s₀ H₀ ex,PG (iZ X scope (vars++caps.map (·.2)) C s₀ H₀ ex) tg g) (he:∀C s₀ H₀ ex,PE (iZ X scope (vars++caps.map (·.2)) C s₀ H₀ ex) elt te)
  {pins:List (Addr×Obj)} {σ:St} {H2:Hp} {s2:Shared} {Q:VK} {it:Addr} {fp:List Addr} {tn:Nat->Heap->Prop} {J:It} (I2:Inv X pins σ H2 s2) (T:xW X.prog X.w X.K tg J fp it tn) (st2:tn 0 s2.heap) (f2:∀b∈fp,kQ X pins H2 b)
  {W:Nat->Nat->List V->Hp->Prop} {m0:Nat} (w0:W 0 m0 [] H2) (turn:∀i m ys H,W i m ys H ->
   (J.stop i H/\ys.length<=sizeLine/\∀p,H p=none->Q (.ref p) (upd H p (.lst ys))) \/
   (J.go i H/\ys.length<sizeLine/\∀x H',J.yld i H x H'->g x (vars.map (fun _=>none)++iX σ caps) H' fun σ2 H2=>A6 (vars.map (fun _=>none)++iX σ caps) σ2/\te σ2 H2 fun y H3=>∃m',m'<m/\W (i+1) m' (ys++[y]) H3))
  {RR:Value->Addr->Result->Shared->Prop} {E:Value->Shared->Prop}
  (hRR:∀D C s' m,s'.heap.Ns C m->D≠C->s2.heap.objs.size<=D->s2.heap.objs.size<=C->∀H',H' C=none->(∀h',Heap.SameBut C s'.heap h'->Inv X pins σ H' { s' with heap:=h' })->Q (.ref D) H'->RR (.ref D) C (.ok .next) s') :
  wpAny (model X.prog X.w) X.A (newList []) (fun acc s₃=>wpAny (model X.prog X.w) X.A (newFunctionEnv scope X.env.globals (clos X.env scope.names []) [] X.env.qual none .none (some X.env)) (fun cenv s₄=>
   codeAny (model X.prog X.w) X.A (.compStart (.ListComp elt [⟨tg,iter,[],0⟩] scope pos) 0 (.ref it) acc { cenv with scope:=relabel scope X.env }) (RR acc cenv.locals) s₄) E s₃) E s2:=by
 refine wpAny_newObj_type (wpAny_newFunctionEnv B.cell (by intro y hy;simp at hy) (fun h₁ hns₁ hsb₁=>?_) B.kind);dsimp only at hns₁ hsb₁ ⊢;generalize hP:s2.heap.push { cls:=.type "list",dict:=none,data:=.seq ([]:List Value).toArray }=HP at hns₁ hsb₁ ⊢;have hCs:HP.objs.size=s2.heap.objs.size+1:=by rw[<-hP,Heap.size_push]
 have hDC:s2.heap.objs.size≠HP.objs.size:=by rw[hCs];exact Nat.ne_of_lt (Nat.lt_succ_self _)
 have hCle:s2.heap.objs.size<=HP.objs.size:=by rw[hCs];exact Nat.le_succ _
 have old:∀b o,s2.heap.get? b=some o->h₁.get? b=some o:=fun b o e=>hsb₁.extBut b o (Nat.ne_of_lt (Nat.lt_of_lt_of_le (Heap.lt_size e) hCle)) (Heap.get?_push_of_some _ (hP ▸ Heap.get?_push_of_some _ e))
 have hacc:h₁.PlainList s2.heap.objs.size #[]:=⟨_,hsb₁.extBut _ _ hDC (Heap.get?_push_of_some _ (hP ▸ Heap.get?_push_size _ rfl))⟩;have flt:∀b∈fp,b<s2.heap.objs.size:=fun b hb=>by
  obtain⟨o,e,_⟩:=T.obj _ _ st2 b hb;exact Heap.lt_size e
 have st1:tn 0 h₁:=T.keep _ _ _ st2 fun b _ o e=>old b o e
 have loop:∀s3:Shared,s3={ s2 with heap:=h₁,toks:=s2.toks+([]:List (Str×Value)).length } ->
   codeAny (model X.prog X.w) X.A (.compLoop (.ListComp elt [⟨tg,iter,[],0⟩] scope pos) 0 (.ref it) (.ref s2.heap.objs.size) (compEnvC scope (clos X.env scope.names []) HP.objs.size X.env))
    (RR (.ref s2.heap.objs.size) HP.objs.size) s3:=by
  rintro s3 rfl;have X':=iZ X scope (vars++caps.map (·.2)) HP.objs.size s2 H2 fp;have fpo:∀{H':Hp},(∀b∈fp,H' b=none)->∀b∈fp,kQ (iZ X scope (vars++caps.map (·.2)) HP.objs.size s2 H2 fp) [] H' b:=fun hn b hb=>by
   have ok:=xG B I2 f2 flt hCle;exact⟨hn b hb,(ok.exf b hb).1,ok.exfs b hb,.inl hb,(ok.exf b hb).2,fun p hp=>absurd (show p∈([]:List (Addr×Obj))from hp) (by simp)⟩
  refine kJ (fun n s=>∃i ys H its,Inv (iZ X scope (vars++caps.map (·.2)) HP.objs.size s2 H2 fp) [] (vars.map (fun _=>none)++iX σ caps) H s/\tn i s.heap/\(∀b∈fp,H b=none)/\s.heap.PlainList s2.heap.objs.size (List.toArray its)/\H s2.heap.objs.size=none/\Vals ys its/\W i n ys H) ?_ m0
   ⟨0,[],H2,[],Ae B I2 f2 flt hCle hns₁ old,st1,fun b hb=>(f2 b hb).1,hacc,I2.hok.fresh (Nat.le_refl _),.nil,w0⟩
  rintro n s4 ⟨i,ys,H4,its,I4,st4,fr4,pl4,nD4,v4,w4⟩;obtain⟨nn,eD⟩:=id pl4;have DnL:s2.heap.objs.size≠(iZ X scope (vars++caps.map (·.2)) HP.objs.size s2 H2 fp).env.locals:=hDC;have Dfs:s2.heap.objs.size ∉ (iZ X scope (vars++caps.map (·.2)) HP.objs.size s2 H2 fp).fs:=fun z=>by
   rcases List.mem_cons.mp (I2.stkSub _ z)with q|q
   ·have:=I2.lt;rw[<-q]at this;exact Nat.lt_irrefl _ this
   ·exact I2.nofs (Nat.le_refl _) q
  have Dfp:∀b∈fp,s2.heap.objs.size≠b:=fun b hb z=>by have:=flt b hb;rw[<-z]at this;exact Nat.lt_irrefl _ this
  have DnC:∀x c,(iZ X scope (vars++caps.map (·.2)) HP.objs.size s2 H2 fp).env.cells.lookup x=some c->c≠s2.heap.objs.size:=fun x c e z=>by
   rcases bS _ _ _ _ (B.cells I2) e with q|q
   ·cases q
   ·obtain⟨v,o,ho,_⟩:=I2.cell x c q
    have:=Heap.lt_size ho;rw[z]at this;exact Nat.lt_irrefl _ this
  have pinD:∀{σ':St} {H':Hp} {s':Shared},Inv (iZ X scope (vars++caps.map (·.2)) HP.objs.size s2 H2 fp) [(s2.heap.objs.size,{ cls:=.type "list",data:=.seq its.toArray nn })] σ' H' s'->s'.heap.PlainList s2.heap.objs.size its.toArray/\H' s2.heap.objs.size=none:=fun{σ' H' s'} I'=>by
   obtain⟨q1,q2,_⟩:=I'.pin (s2.heap.objs.size,{ cls:=.type "list",data:=.seq its.toArray nn }) (by simp[iZ]);exact⟨⟨nn,q1⟩,q2⟩
  have I4p:Inv (iZ X scope (vars++caps.map (·.2)) HP.objs.size s2 H2 fp) [(s2.heap.objs.size,{ cls:=.type "list",data:=.seq its.toArray nn })] (vars.map (fun _=>none)++iX σ caps) H4 s4:=
   I4.pins_of fun p hp=>by
    have e:p=(s2.heap.objs.size,{ cls:=.type "list",data:=.seq its.toArray nn }):=by simpa[iZ]using hp
    subst e;exact⟨eD,nD4,DnL,Dfs,fun v z=>by cases z⟩
  have fpo':∀{H':Hp},(∀b∈fp,H' b=none)->∀b∈fp,kQ (iZ X scope (vars++caps.map (·.2)) HP.objs.size s2 H2 fp) [(s2.heap.objs.size,{ cls:=.type "list",data:=.seq its.toArray nn })] H' b:=fun hn b hb=>by
   obtain⟨q1,q2,q3,q4,q5,_⟩:=fpo hn b hb;exact⟨q1,q2,q3,q4,q5,fun p hp=>by
    have e:p=(s2.heap.objs.size,{ cls:=.type "list",data:=.seq its.toArray nn }):=by simpa[iZ]using hp
    subst e;exact Dfp b hb⟩
  have unp:∀{pl:List (Addr×Obj)} {σ':St} {H':Hp} {s':Shared},Inv (iZ X scope (vars++caps.map (·.2)) HP.objs.size s2 H2 fp) pl σ' H' s'->Inv (iZ X scope (vars++caps.map (·.2)) HP.objs.size s2 H2 fp) [] σ' H' s':=fun{pl σ' H' s'} I'=>
   I'.pins_of fun p hp=>absurd (show p∈([]:List (Addr×Obj))from hp) (by simp)
  rcases turn i n ys H4 w4 with⟨stop,hz,qn⟩|⟨go,hz,step⟩
  ·refine dF (T.done (iZ X scope (vars++caps.map (·.2)) HP.objs.size s2 H2 fp) rfl rfl rfl hc i _ s4 _ H4 _ I4p (fpo' fr4) st4 stop) fun r s5 ⟨hr,I5⟩=>?_
   subst hr;obtain⟨p5,n5⟩:=pinD I5;obtain⟨m5,ns5,_⟩:=I5.loc;refine hRR _ _ s5 m5 ns5 hDC (Nat.le_refl _) hCle _ ?_ (fun h' hs'=>Ad I2 f2 hCle (Nat.le_refl _) hDC (unp I5) n5 p5 v4 hz hs') (qn _ n5)
   rw[aE hDC.symm];exact I5.free
  ·refine dF (T.item (iZ X scope (vars++caps.map (·.2)) HP.objs.size s2 H2 fp) rfl rfl rfl hc i _ s4 _ H4 _ I4p (fpo' fr4) st4 go) fun r s5 ⟨u,hr,h5⟩=>?_
   subst hr;refine dF h5 fun _ s6 ⟨x,H6,I6,rx,yx,st6,fr6⟩=>?_
   have I6p:=I6.pinned (fpo' fr6) (T.obj _ _ st6);refine dF (hg _ _ _ _ _ s6 _ H6 x u _ I6p rx (step x H6 yx)) fun _ s7 ⟨σ7,H7,I7,kp,q7⟩=>?_
   refine dF (he _ _ _ _ _ s7 σ7 H7 _ I7 q7) fun v s8 ⟨y,H8,I8,ry,m',hm,w8⟩=>?_
   obtain⟨p8,n8⟩:=pinD I8.unpinned;have st8:tn (i+1) s8.heap:=T.keep _ _ _ st6 fun b hb o e=>(I8.pin (b,o) (List.mem_append_right _ (List.mem_append_right _ (gh hb e)))).1
   have fr8:∀b∈fp,H8 b=none:=fun b hb=>by
    obtain⟨o,e,d⟩:=T.obj _ _ st6 b hb;exact(I8.pin (b,o) (List.mem_append_right _ (List.mem_append_right _ (gh hb e)))).2.1
   have hl:=v4.length;refine wpAny_list_append_plain p8 (fun h9 p9 sb9=>⟨m',hm,i+1,ys++[y],H8,its++[v],?_,?_,fr8,by simpa using p9,n8,v4.append (.cons ry .nil),w8⟩) (by simp;lia)
   ·have I9:Inv (iZ X scope (vars++caps.map (·.2)) HP.objs.size s2 H2 fp) [] σ7 H8 { s8 with heap:=h9,toks:=s8.toks }:=
     (unp I8).turned (it:=s2.heap.objs.size) (fun b o hb e=>sb9.extBut b o hb e) n8 DnL (.inr (Nat.le_refl _)) DnC fun p hp=>absurd (show p∈([]:List (Addr×Obj))from hp) (by simp)
    exact I9.weak kp.1 kp.2
   ·exact T.keep _ _ _ st8 fun b hb o e=>sb9.extBut b o (Dfp b hb).symm e
 exact codeAny_compStart_list (loop _ rfl) (T.self _ 0 _ _ _ st1 (loop _ rfl))
theorem yY(B:BlkOk X.env.scope.names X.N scope vars caps)(hc:X.calm=true)(hi:PI X tg iter wi)
  (hg:∀C s₀ H₀ ex,PG (iZ X scope (vars++caps.map (·.2)) C s₀ H₀ ex) tg g) (he:∀C s₀ H₀ ex,PE (iZ X scope (vars++caps.map (·.2)) C s₀ H₀ ex) elt te) (hs:∀x,foldedSetIterable iter X.env x=pure x:=by intro _;rfl) :
  PE X (.ListComp elt [⟨tg,iter,[],0⟩] scope pos) (sM wi g te vars caps):=by
 intro pins s σ H Q I h;rw[eval_ListComp];refine wpAny_comprehension_free (use:=none) rfl hs (iJ (B.cells I)) B.kind B.names ?_;show wpAny _ _ (eval iter X.env) _ _ s;refine dF (hi pins s σ H _ I h) fun v s1 h1=>dF h1 fun itv s2 h2=>?_
 obtain⟨it,fp,tn,J,H2,e,I2,T,st2,f2,W,⟨m0,w0⟩,turn⟩:=h2;subst e;exact mi B hc hg he I2 T st2 f2 w0 turn (RR:=fun acc C=>compPost (model X.prog X.w) X.A X.xe none (EP X pins σ Q) acc C) fun D C s' m ns _ _ _ H' _ k q=>⟨m,ns,fun h' hs'=>⟨.ref D,H',k h' hs',rfl,q⟩⟩
theorem yT{i:Nat}{y:Str}{py spos:Pos}(B:BlkOk X.env.scope.names X.N scope vars caps)(hc:X.calm=true)(hi:PI X tg iter wi)
  (hg:∀C s₀ H₀ ex,PG (iZ X scope (vars++caps.map (·.2)) C s₀ H₀ ex) tg g) (he:∀C s₀ H₀ ex,PE (iZ X scope (vars++caps.map (·.2)) C s₀ H₀ ex) elt te)
  (hN:X.N.Nodup) (hy:X.N[i]? = some y) (hx:At X.env.scope y) (hsw:swapsWith (.ListComp elt [⟨tg,iter,[],0⟩] scope pos) (some (.Name y py)) spos.line X.env=pure true)
  (hf:X.fn y=true\/X.env.scope.names.lookup y=some .local) (hs:∀x,foldedSetIterable iter X.env x=pure x:=by intro _;rfl) :
  PS X (.Assign [.Name y py] (.ListComp elt [⟨tg,iter,[],0⟩] scope pos) spos) (fun D σ H=>sM wi g te vars caps σ H fun v H1=>D.nx (σ.set i (some v)) H1):=by
 intro pins s σ H DE I h;rw[exec_Assign_Name_used _ _ _ _ hsw];refine wpAny_bind (wpAny_standAt (wpAny_bind ?_));show wpAny _ X.A (do let _ <-comprehension (.ListComp elt [⟨tg,iter,[],0⟩] scope pos) scope X.env _ (newList []) false (eval iter X.env) (some (assign (.Name y py) X.env))) _ _ s;refine wpAny_bind (wpAny_mono (wpAny_comprehension_free (use:=some (assign (.Name y py) X.env)) (Q:=fun _ s'=>SP X pins DE .next s') rfl hs (iJ (B.cells I)) B.kind B.names
  (dF (hi pins s σ H _ I h) fun v s1 h1=>dF h1 fun itv s2 h2=>?_)) (fun _ s' hq=>wpAny_pure (wpAny_pure hq)) fun _ _ e=>e)
 obtain⟨it,fp,tn,J,H2,e,I2,T,st2,f2,W,⟨m0,w0⟩,turn⟩:=h2;subst e;refine mi (Q:=fun v H1=>DE.nx (σ.set i (some v)) H1) B hc hg he I2 T st2 f2 w0 turn (RR:=fun acc C=>compPost (model X.prog X.w) X.A X.xe (some (assign (.Name y py) X.env)) (fun _ s'=>SP X pins DE .next s') acc C) ?_
 intro D C s' m ns hDC hD hC H' hHC k q;obtain⟨oC,es,ep,eC,dC,rC⟩:=ns;have I':Inv X pins σ H' s':=k s'.heap (Heap.SameBut.refl ..);have nL:C≠X.env.locals:=fun z=>by have:=I2.lt;rw[<-z]at this;exact absurd (Nat.lt_of_lt_of_le this hC) (Nat.lt_irrefl _)
 have nF:C ∉ X.fs:=I2.nofs hC;have nCell:∀x c,X.env.cells.lookup x=some c->c≠C:=fun x c e z=>by
  obtain⟨v,o,ho,_⟩:=I2.cell x c e;have:=Heap.lt_size ho;rw[z]at this;exact absurd (Nat.lt_of_lt_of_le this hC) (Nat.lt_irrefl _)
 have nPin:∀p∈X.pn++pins,p.1≠C:=fun p hp z=>by
  have:=Heap.lt_size (I2.pin p hp).1;rw[z]at this;exact absurd (Nat.lt_of_lt_of_le this hC) (Nat.lt_irrefl _)
 have Ip:Inv X (pins++[(C,oC)]) σ H' s':=I'.pins_of fun p hp=>by
  rcases List.mem_append.mp hp with z|z
  ·exact I'.pin p (List.mem_append_right _ z)
  ·have e:p=(C,oC):=by simpa using z
   subst e;exact⟨eC,hHC,nL,nF,fun v z=>by rw[dC]at z;cases z⟩
 refine dF (cJ (pos:=py) hN hy hx hf _ s' σ H' (.ref D) (.ref D) (fun σ' H''=>σ' = σ.set i (some (.ref D))/\H''=H'/\DE.nx σ' H'') Ip rfl ⟨rfl,rfl,q⟩) fun _ s'' ⟨σ'',H'',I'',e1,e2,q''⟩=>?_
 subst e1 e2;have eC'':s''.heap.get? C=some oC:=(I''.pin (C,oC) (List.mem_append_right _ (List.mem_append_right _ (by simp)))).1;refine⟨m,⟨oC,es,ep,eC'',dC,rC⟩,fun h' hs'=>⟨_,H'',?_,q''⟩⟩
 exact I''.unpinned.turned (t':=s''.toks) (it:=C) (fun b o hb e=>hs'.extBut b o hb e) hHC nL (.inr (Nat.le_trans I2.sz hC)) nCell nPin
end
noncomputable def DC:Option Sl->Sl
 |some (.fz d)=>.fz d
 |_=>.un
@[simp] theorem FW(d:D):DC (some (.fz d))=.fz d:=rfl
noncomputable def capS(δ:Dv)(caps:List (Nat×Str)):Dv:=caps.map fun p=>DC δ[p.1]?
noncomputable def uJ(f:D->Option D):List D->Option (List D)
 |[]=>some []
 |d::ds=>(f d).bind fun e=>(uJ f ds).bind fun es=>some (e::es)
noncomputable def dy(fi:Dv->Option (List D))(caps:List (Nat×Str))(bv:D->Option (List D))(fe:Dv->Option D):Dv->Option D:=fun δ=>(fi δ).bind fun ds=>if ds.length<=sizeLine then(uJ (fun d=>(bv d).bind fun vs=>fe (vs.map .fz++capS δ caps)) ds).bind fun es=>some (.list es)else none
noncomputable def r9:D->Option (List D):=fun d=>some [d]
theorem gU{f:D->Option D}:∀{ds es:List D},uJ f ds=some es->es.length=ds.length
 |[],es,h=>by cases h;rfl
 |d::ds,es,h=>by
  obtain⟨e,_,h⟩:=bind_some h;obtain⟨es',h2,h⟩:=bind_some h;cases h;exact congrArg (· + 1) (gU h2)
theorem lR{f:D->Option D}:∀{ds es:List D} {i:Nat} {d:D},uJ f ds=some es->ds[i]? = some d->∃e,f d=some e/\es[i]? = some e
 |[],es,i,d,h,q=>by simp at q
 |d::ds,es,i,d',h,q=>by
  obtain⟨e,h1,h⟩:=bind_some h;obtain⟨es',h2,h⟩:=bind_some h;cases h;cases i with
  |zero=>simp at q;subst q;exact⟨e,h1,rfl⟩
  |succ i=>simp at q;obtain⟨e',g1,g2⟩:=lR (i:=i) h2 q;exact⟨e',g1,by simpa using g2⟩
def xX(K:Fg)(g:TG)(n:Nat)(bv:D->Option (List D)):Prop:=∀(x:V) (Z:Hp) (d:D) (vs:List D) (σc:St) (H:Hp) (R:St->Hp->Prop),Rep K Z x d->Same Z H->bv d=some vs->(∀us,Reps K Z us vs->us.length=n->R (us.map some ++ σc) H)->g x (List.replicate n none ++ σc) H R
theorem eL{K:Fg}:xX K (xf 0) 1 r9:=fun x Z d vs σc H R r zh e k=>by
 cases e;exact k [x] (.cons r .nil) rfl
section
variable{X:Cx}{scope:Scope}{vars:List Str}{caps:List (Nat×Str)}{elt tg iter:Expr}{pos:Pos}{g:TG}{fi:Dv->Option (List D)}{fe:Dv->Option D}{bv:D->Option (List D)}
theorem xz{σ:St}{δ:Dv}{K:Fg}{H₀ Z₀ Z H:Hp}(hh:Hold K H₀ Z₀ Z δ σ H):∀(j:Nat) d,(capS δ caps)[j]? = some (.fz d)->∃v,(iX σ caps)[j]? = some (some v)/\Rep K Z v d:=fun j d e=>by
 unfold capS at e;unfold iX;rw[List.getElem?_map]at e ⊢;cases q:caps[j]? with
 |none=>rw[q]at e;cases e
 |some p=>
  rw[q]at e;have e:DC δ[p.1]? = .fz d:=Option.some.inj e;cases z:δ[p.1]? with
  |none=>rw[z]at e;cases e
  |some sl=>
   rw[z]at e;cases sl with
   |fz d'=>
    cases e;obtain⟨v,g1,g2⟩:=hh.fz p.1 _ z;exact⟨v,by show some ((σ[p.1]?).getD none)=_;rw[g1];rfl,g2⟩
   |un=>cases e
   |own _=>cases e
   |fr _=>cases e
theorem z9{δ:Dv}:∀(j:Nat) ds,(capS δ caps)[j]? ≠ some (.own ds):=fun j ds e=>by
 unfold capS at e;rw[List.getElem?_map]at e;cases q:caps[j]? with
 |none=>rw[q]at e;cases e
 |some p=>
  rw[q]at e;have e:DC δ[p.1]? = .own ds:=Option.some.inj e;cases z:δ[p.1]? with
  |none=>rw[z]at e;cases e
  |some sl=>rw[z]at e;cases sl<;>cases e
theorem Aa{δ:Dv}:∀(j:Nat) ds,(capS δ caps)[j]? ≠ some (.fr ds):=fun j ds e=>by
 unfold capS at e;rw[List.getElem?_map]at e;cases q:caps[j]? with
 |none=>rw[q]at e;cases e
 |some p=>
  rw[q]at e;have e:DC δ[p.1]? = .fr ds:=Option.some.inj e;cases z:δ[p.1]? with
  |none=>rw[z]at e;cases e
  |some sl=>rw[z]at e;cases sl<;>cases e
theorem qJ{σ:St}{δ:Dv}{K:Fg}{H₀ Z₀ Z H:Hp}(hh:Hold K H₀ Z₀ Z δ σ H){us:List V}{vs:List D}(r:Reps K Z us vs):Hold K H Z Z (vs.map .fz++capS δ caps) (us.map some++iX σ caps) H:=by
 have hl:=r.length;refine⟨hh.zh,Same.refl _,Same.refl _,fun _ _=>rfl,by simp[capS,iX,hl],fun i d e=>?_,fun i ds e=>?_,fun i j ds es a _ e=>?_,fun i ds e=>?_,NoF.refl _⟩
 ·by_cases hi:i<vs.length
  ·rw[List.getElem?_append_left (by simpa using hi),List.getElem?_map]at e
   cases q:vs[i]? with
   |none=>rw[q]at e;cases e
   |some d'=>
    rw[q]at e;cases e;obtain⟨v,g1,g2⟩:=r.get q;exact⟨v,by rw[List.getElem?_append_left (by simpa[hl]using hi),List.getElem?_map,g1];rfl,g2⟩
  ·rw[List.getElem?_append_right (by simpa using hi)]at e
   obtain⟨v,g1,g2⟩:=xz hh _ d e;refine⟨v,?_,g2⟩;rw[List.getElem?_append_right (by simpa[hl]using hi)];simp only[List.length_map]at g1 ⊢;rw[hl];exact g1
 all_goals
  exfalso;by_cases hi:i<vs.length
  ·rw[List.getElem?_append_left (by simpa using hi),List.getElem?_map]at e
   cases q:vs[i]?<;>rw[q]at e<;>cases e
  ·rw[List.getElem?_append_right (by simpa using hi)]at e
   first|exact z9 _ _ e|exact Aa _ _ e
theorem uZ(tk:xX X.K g vars.length bv){σ:St}{H:Hp}{Q:VK}(h:tV X.K (dy fi caps bv fe) σ H Q):sM (FG X.K fi) g (tV X.K fe) vars caps σ H Q:=by
 obtain⟨H₀,Z₀,Z,δ,d,hh,e,k⟩:=h;obtain⟨ds,e1,e⟩:=bind_some e;by_cases hz:ds.length<=sizeLine
 ·rw[if_pos hz]at e
  obtain⟨es,e2,e⟩:=bind_some e;cases e;have le:=gU e2;have hv:vars.map (fun _=>(none:Option V))=List.replicate vars.length none:=by rw[List.map_const']
  refine⟨H₀,Z₀,Z,δ,ds,hh,e1,fun J Z1 H1 hh1 t1 ok=>?_⟩
  refine⟨fun i m ys H=>m=ds.length-i/\i<=ds.length/\∃Zc,Hold X.K H₀ Z₀ Zc δ σ H/\Same Z1 Zc/\Reps X.K Zc ys (es.take i),⟨ds.length,by simp,Nat.zero_le _,Z1,hh1,Same.refl _,by simpa using .nil⟩,?_⟩
  rintro i m ys H2 ⟨rfl,hi2,Zc,hhc,tc,rc⟩;have zh:Same Z1 H2:=tc.trans hhc.zh;have ly:=rc.length;rw[List.length_take]at ly;by_cases hlt:i<ds.length
  ·refine .inr ⟨ok.go i H2 zh hlt,by lia,fun x H3 y=>?_⟩
   have ed:ds[i]? = some ds[i]:=by simp[hlt]
   obtain⟨rfl,rx⟩:=ok.yld i H2 x H3 _ zh ed y;obtain⟨ei,f1,f2⟩:=lR e2 ed;obtain⟨vs,f3,f1⟩:=bind_some f1;rw[hv];refine tk x Zc ds[i] vs (iX σ caps) H3 _ (rx.same tc) hhc.zh f3 fun us ru hn=>⟨⟨by simp[hn],fun j v q=>?_⟩,?_⟩
   ·by_cases hj:j<vars.length
    ·rw[List.getElem?_append_left (by simpa using hj),List.getElem?_replicate]at q
     split at q<;>cases q
    ·rw[List.getElem?_append_right (by simpa using hj)]at q
     rw[List.getElem?_append_right (by simpa[hn]using hj)];simpa[hn]using q
   ·refine⟨H3,Zc,Zc,_,ei,qJ hhc ru,f1,fun v Z4 H4 h4 t4 r4=>⟨ds.length-(i+1),by lia,rfl,hlt,Z4,hhc.new ⟨t4,h4.h0,h4.zh,h4.zb,h4.nf⟩,tc.trans t4,?_⟩⟩
    have:es.take (i+1)=es.take i++[ei]:=by
     rw[List.take_add_one,f2];rfl
    rw[this];exact(rc.same t4).append (.cons r4 .nil)
  ·have hie:i=ds.length:=by lia
   subst hie;refine .inl ⟨ok.stop _ H2 zh (Nat.le_refl _),by lia,fun p hp=>?_⟩
   rw[<-le,List.take_length]at rc;have n:=New.add hhc.zh hp (.lst ys);exact k _ _ _ (hhc.new n) ((t1.trans tc).trans n.z) (.lst (SqL.of aJ) (rc.same n.z))
 ·rw[if_neg hz]at e;cases e
theorem dS(B:BlkOk X.env.scope.names X.N scope vars caps)(hc:X.calm=true)(hi:IV X tg iter fi)(tk:xX X.K g vars.length bv)
  (hg:∀C s₀ H₀ ex,PG (iZ X scope (vars++caps.map (·.2)) C s₀ H₀ ex) tg g) (he:∀C s₀ H₀ ex,EV (iZ X scope (vars++caps.map (·.2)) C s₀ H₀ ex) elt fe) (hs:∀x,foldedSetIterable iter X.env x=pure x:=by intro _;rfl) :
  EV X (.ListComp elt [⟨tg,iter,[],0⟩] scope pos) (dy fi caps bv fe):=
 PE.imp (yY (te:=tV X.K fe) B hc hi hg he hs) fun _ _ _ h=>uZ tk h
end
section
variable{X:Cx}{e:Expr}{es:List Expr}{p pos:Pos}{fs:Dv->Option (List D)}
theorem av{k:Nat}{x:Str}{g:List D->Option D}(C:Cal X.prog X.w X.K X.mg X.base x k g [])(hr:Room k X.A)(hg:Gl X x)(ha:AV X (e::es) fs)(hdb:(x==("__debug__":Str))=false:=by decide)(he:starEach (e::es) X.env=(false,eval e X.env)::starEach es X.env:=by rfl)
  (hpl:(backTo pos (starEach es X.env)).any (·.1)=false:=by rfl):EV X (.Call (.Name x p) (e::es) [] pos) (os fs g):=by
 have h:=CG C hr hg ha hdb he hpl (p:=p) (pos:=pos);have e:(fun as=>g (as++[]))=g:=by funext as;rw[List.append_nil]
 rw[e]at h;exact h
end
structure TopV (K:Fg) (mg:Str->Option Value) (x:Str) (d:D):Prop where
 ex:∃v u,mg x=some u/\RelV v u/\∀Z,Rep K Z v d
theorem TopV.tup{K:Fg}{mg:Str->Option Value}{x:Str}{a:Addr}{its:Array Value}{tn:Nat}{ts:Array (Option Value)}{xs:List V}{ds:List D}(hm:mg x=some (.ref a))(hk:K.lookup a=some ⟨.type "tuple",none,.seq its tn,ts⟩)
  (hz:its.size<=sizeLine) (hv:Vals xs its.toList) (hr:∀Z,Reps K Z xs ds):TopV K mg x (.tuple ds):=⟨.ref a,.ref a,hm,rfl,fun Z=>.tup (.inr ⟨_,its,tn,hk,rfl,rfl,hz,hv,rfl⟩) (hr Z)⟩
theorem tI{X:Cx}{x:Str}{pos:Pos}{d:D}(T:TopV X.K X.mg x d)(hg:Gl X x)(hd:(x==("__debug__":Str))=false:=by decide):EV X (.Name x pos) (oC d):=by
 obtain⟨v,u,hm,r,h⟩:=T.ex;exact xm (sW hg hm r hd) h
noncomputable def vn:Option Sl->Option (List D)
 |some (.own (.l ds))=>some ds
 |_=>none
@[simp] theorem FU(ds:List D):vn (some (.ow ds))=some ds:=rfl
theorem ri{o:Option Sl}{ds:List D}(h:vn o=some ds):o=some (.ow ds):=by
 cases o with
 |none=>cases h
 |some x=>
  cases x with
  |own c=>
   cases c with
   |l es=>cases h;rfl
   |d es=>cases h
  |un=>cases h
  |fz d=>cases h
  |fr _=>cases h
@[simp] noncomputable def vZ(i:Nat)(fs:Dv->Option (List D)):Sf:=fun δ=>(fs δ).bind fun ds=>if ds.length<=sizeLine then some (.nx,δ.set i (.ow ds))else none
@[simp] noncomputable def HU(i:Nat)(f:Dv->Option D):Dv->Option D:=fun δ=>(vn δ[i]?).bind fun ds=>(f δ).bind fun k=>az (.list ds) k
@[simp] noncomputable def AI(i:Nat):Dv->Option D:=fun δ=>(vn δ[i]?).bind fun ds=>some (.int ds.length)
noncomputable def DP(ds:List D)(k v:D):Option (List D):=match k with
 |.int j=>(Cu ds.length j).map fun n=>ds.set n v
 |_=>none
@[simp] theorem DO(ds:List D)(j:Int)(v:D):DP ds (.int j) v=(Cu ds.length j).map fun n=>ds.set n v:=rfl
@[simp] noncomputable def HK(i:Nat)(fk fv:Dv->Option D):Sf:=fun δ=>(fv δ).bind fun v=>(fk δ).bind fun k=>(vn δ[i]?).bind fun ds=>(DP ds k v).bind fun ds'=>some (.nx,δ.set i (.ow ds'))
@[simp] noncomputable def pN(i:Nat)(f:Dv->Option D):Sf:=fun δ=>(f δ).bind fun v=>(vn δ[i]?).bind fun ds=>if ds.length<sizeLine then some (.nx,δ.set i (.ow (ds++[v])))else none
section
variable{X:Cx}{e b:Expr}{es:List Expr}{p pos tpos apos:Pos}{fs:Dv->Option (List D)}{f fk fv:Dv->Option D}
theorem ou(i:Nat){x:Str}{pos':Pos}(hN:X.N.Nodup)(ha:AV X es fs)(hi:X.N[i]? = some x:=by rfl)(hx:At X.env.scope x:=by first|exact Or.inl rfl|exact Or.inr rfl)(hs:swapsWith (.List es p) (some (.Name x pos')) pos.line X.env=pure false:=by rfl)
  (hf:X.fn x=true\/X.env.scope.names.lookup x=some .local:=by first|exact .inl rfl|exact .inr rfl|assumption):SV X (.Assign [.Name x pos'] (.List es p) pos) (vZ i fs):=
 PS.imp (wk hN hi hx (ww ha) hs hf) fun D σ H h=>by
  obtain⟨H₀,Z₀,Z,δ,r,hh,e,k⟩:=h;obtain⟨ds,e1,e⟩:=bind_some e;by_cases hl:ds.length<=sizeLine
  ·rw[if_pos hl]at e
   cases e;exact⟨H₀,Z₀,Z,δ,ds,hh,e1,fun vs Z1 H1 hh1 t1 r1=>⟨by rw[r1.length];exact hl,fun p hp=>k _ _ Z1 (hh1.setO hp r1) t1⟩⟩
  ·rw[if_neg hl]at e;cases e
theorem pS{K:Fg}{H₀ Z₀ Z:Hp}{δ:Dv}{σ:St}{H:Hp}(hh:Hold K H₀ Z₀ Z δ σ H){i:Nat}{ds:List D}(h:vn δ[i]? = some ds):∃a xs,σ[i]? = some (some (V.ref a))/\H a=some (.lst xs)/\Reps K Z xs ds:=by
 obtain⟨a,xs,h1,_,_,h4,h5⟩:=hh.ow i ds (ri h);exact⟨a,xs,h1,h4,h5⟩
theorem zQ(i:Nat){x:Str}{p2:Pos}(hg:Gl X "len")(hm:X.mg "len" = none)(hN:X.N[i]? = some x:=by rfl)(hv:A3 X.env.scope x:=by first|exact Or.inl rfl|exact Or.inr (Or.inl rfl)|exact Or.inr (Or.inr rfl))(hd:(x==("__debug__":Str))=false:=by decide)(hcd:(x==("__classdict__":Str))=false:=by decide)
  (he:starEach [.Name x p2] X.env=(false,eval (.Name x p2) X.env)::starEach [] X.env:=by rfl) (hpl:(backTo pos (starEach [] X.env)).any (·.1)=false:=by rfl):EV X (.Call (.Name "len" p) [.Name x p2] [] pos) (AI i):=
 PE.imp (pQ qI hg hm PySem.boot_len (iu (jO hN hv hd hcd) lN he) (by decide) (by decide) he hpl) fun σ H Q h=>by
  obtain⟨H₀,Z₀,Z,δ,d,hh,e,k⟩:=h;obtain⟨ds,e1,e⟩:=bind_some e;cases e;obtain⟨a,xs,h1,h4,h5⟩:=pS hh e1;exact⟨_,h1,_,_,rfl,.inl ⟨xs,SqL.of h4,rfl⟩,k _ Z H hh (Same.refl _) (by rw[h5.length];exact .int _)⟩
theorem jI(i:Nat){x:Str}{cpos:Pos}(hv':EV X e f)(hN:X.N[i]? = some x:=by rfl)(hv:A3 X.env.scope x:=by first|exact Or.inl rfl|exact Or.inr (Or.inl rfl)|exact Or.inr (Or.inr rfl))(hd:(x==("__debug__":Str))=false:=by decide)(hcd:(x==("__classdict__":Str))=false:=by decide)
  (hbase:attributeBase (.Name x p) "append" X.env (eval (.Name x p) X.env)=eval (.Name x p) X.env:=by rfl)
  (hfew:((backTo cpos (starEach [e] X.env)).all (fun x=>!x.1)&&(backToKw cpos (keywordEach [] X.env)).all (fun x=>x.1.isSome)
   && decide ([e].length+([]:List Keyword).length+(if([]:List Keyword).isEmpty then 0 else 1)<30))=true:=by rfl)
  (hline:(apos.endLine==cpos.line)=true:=by rfl) (hs:starEach [e] X.env=(false,eval e X.env)::starEach [] X.env:=by rfl) (hplain:(backTo cpos (starEach [] X.env)).any (·.1)=false:=by rfl)
  (hsw:swapsWith (.Call (.Attribute (.Name x p) "append" apos) [e] [] cpos) none pos.line X.env=pure false:=by rfl):SV X (.Expr (.Call (.Attribute (.Name x p) "append" apos) [e] [] cpos) pos) (pN i f):=
 PS.imp (oE (AF PySem.F.plainAttrs_list PySem.F.slot_list_append PySem.F.type_list_append uH (jO hN hv hd hcd) (iu hv' lN hs) hbase hfew hline hs hplain) hsw) fun D σ H h=>by
  obtain⟨H₀,Z₀,Z,δ,r,hh,e,k⟩:=h;obtain⟨v,e1,e⟩:=bind_some e;obtain⟨ds,e2,e⟩:=bind_some e;by_cases hl:ds.length<sizeLine
  ·rw[if_pos hl]at e
   cases e;obtain⟨a,xs,h1,h4,h5⟩:=pS hh e2;refine⟨_,h1,.inl ⟨rfl,xs,SqL.of h4⟩,H₀,Z₀,Z,δ,v,hh,e1,fun w Z1 H1 hh1 t1 r1=>?_⟩
   obtain⟨a',xs',g1,g4,g5⟩:=pS hh1 e2;rw[h1]at g1;cases g1;exact⟨a,xs',w,rfl,rfl,g4,by rw[g5.length];exact hl,k σ _ Z1 (hh1.chg (xs:=xs') (ri e2) h1 (g5.append (.cons r1 .nil))) t1⟩
  ·rw[if_neg hl]at e;cases e
end
noncomputable def CC(t:D->Option Bool)(f:D->Option D):List D->Option (List D)
 |[]=>some []
 |d::ds=>(t d).bind fun b=>if b=true then(f d).bind fun e=>(CC t f ds).bind fun es=>some (e::es)else CC t f ds
@[simp] theorem EF{t:D->Option Bool}{f:D->Option D}:CC t f []=some []:=rfl
noncomputable def yk:D->Bool
 |.none=>true
 |.bool _=>true
 |.int _=>true
 |.str _=>true
 |_=>false
noncomputable def Fh(x:D)(ds:List D):Bool:=ds.any fun y=>PyData.eqv y x
noncomputable def Ey(neg:Bool):D->D->Option D:=fun a b=>(eY b).bind fun ds=>if yk a=true/\ds.all yk=true then some (.bool (if neg=true then !Fh a ds else Fh a ds))else none
theorem Rep.flat{K:Fg}{Z:Hp}{v:V}{d:D}(r:Rep K Z v d):gZ v=yk d:=by cases r<;>rfl
theorem Rep.eqF{K:Fg}{Z:Hp}{v u:V}{d e:D}(r:Rep K Z v d)(q:Rep K Z u e)(h1:yk d=true)(h2:yk e=true):yl v u=PyData.eqv d e:=by
 cases r<;>first|(cases q<;>first|rfl|cases h2)|cases h1
theorem Reps.allF{K:Fg}{Z:Hp}:∀{vs:List V} {ds:List D},Reps K Z vs ds->vs.all gZ=ds.all yk
 |_,_,.nil=>rfl
 |_,_,.cons r t=>by rw[List.all_cons,List.all_cons,r.flat,t.allF]
theorem Reps.inF{K:Fg}{Z:Hp}{x:V}{a:D}(q:Rep K Z x a)(h:yk a=true):∀{vs:List V} {ds:List D},Reps K Z vs ds->ds.all yk=true->Ff x vs=Fh a ds
 |_,_,.nil,_=>rfl
 |_,_,.cons r t,f=>by
  rw[List.all_cons,Bool.and_eq_true]at f;show(yl _ x||Ff x _)=(PyData.eqv _ a||Fh a _);rw[r.eqF q f.1 h,t.inF q h f.2]
theorem zJ{K:Fg}{neg:Bool}{x y:V}{H:Hp}{Q:VK}(h:rD K (Ey neg) x y H Q):F8 K neg x y H Q:=by
 obtain⟨Z,a,b,d,zh,ra,rb,e,k⟩:=h;obtain⟨ds,e1,e⟩:=bind_some e;by_cases c:yk a=true/\ds.all yk=true
 ·rw[if_pos c]at e
  cases e;have go:∀(xs:List V),Reps K Z xs ds->(∃p,y=.ref p/\(SqL K H p xs\/SqT K H p xs))->F8 K neg x y H Q:=fun xs r ⟨p,ey,hq⟩=>by
   refine⟨p,xs,ey,hq,by rw[ra.flat];exact c.1,by rw[r.allF];exact c.2,?_⟩;have:=r.inF ra c.1 c.2;rw[this];exact k _ Z H (New.refl zh) (.bl _)
  cases rb with
  |lst h q=>cases e1;exact go _ q ⟨_,rfl,.inl (SqL.same h zh)⟩
  |tup h q=>cases e1;exact go _ q ⟨_,rfl,.inr (SqT.same h zh)⟩
  |_=>cases e1
 ·rw[if_neg c]at e;cases e
theorem EL{X:Cx}:OpR X (compareOp .In) (rD X.K (Ey false)):=OpR.imp uy fun _ _ _ _ h=>zJ h
noncomputable def gT:List (D->Dv->Option Dv)->List D->Dv->Option Dv
 |[],[],δ=>some δ
 |g::gs,d::ds,δ=>(g d δ).bind fun δ1=>gT gs ds δ1
 |_,_,_=>none
noncomputable def Ih(gs:List (D->Dv->Option Dv)):D->Dv->Option Dv
 |.tuple ds,δ=>gT gs ds δ
 |_,_=>none
@[simp] theorem Gs(δ:Dv):gT [] [] δ = some δ:=rfl
@[simp] theorem Fm(g:D->Dv->Option Dv)(gs:List (D->Dv->Option Dv))(d:D)(ds:List D)(δ:Dv):gT (g::gs) (d::ds) δ = (g d δ).bind fun δ1=>gT gs ds δ1:=rfl
@[simp] theorem Fk(gs:List (D->Dv->Option Dv))(ds:List D)(δ:Dv):Ih gs (.tuple ds) δ = gT gs ds δ:=rfl
noncomputable def wN:Nat:=1000000
theorem iN{t:Dv->Option Bool}{b:Sf}:∀{n m:Nat} {δ:Dv} {r:Fl×Dv},eZ t b n δ = some r->n<=m->eZ t b m δ = some r
 | 0,_,_,_,h,_=>by cases h
 |n+1,0,_,_,_,hm=>by lia
 |n+1,m+1,δ,r,h,hm=>by
  have hm:n<=m:=by lia
  obtain⟨c,h1,h⟩:=bind_some h;show((t δ).bind fun c=>_)=_
  rw[h1,Option.bind_some];cases c with
  |false=>exact h
  |true=>
   rw[if_pos rfl]at h ⊢;obtain⟨⟨fl,δ2⟩,h2,h⟩:=bind_some h;rw[h2,Option.bind_some];cases fl with
   |nx=>exact iN h hm
   |ct=>exact iN h hm
   |bk=>exact h
   |rt d=>exact h
theorem qX{t:Dv->Option Bool}{b:Sf}{δ:Dv}(n:Nat)(h:t δ = some false):eZ t b (n+1) δ = some (.nx,δ):=by
 show((t δ).bind fun c=>_)=_
 rw[h];rfl
theorem vw{t:Dv->Option Bool}{b:Sf}{δ δ2:Dv}{r:Fl×Dv}(n:Nat)(h:t δ = some true)(h2:b δ = some (.nx,δ2))(h3:eZ t b n δ2=some r):eZ t b (n+1) δ = some r:=by
 show((t δ).bind fun c=>_)=_
 rw[h,Option.bind_some,if_pos rfl,h2,Option.bind_some];exact h3
theorem eH{g:D->Dv->Option Dv}{b:Sf}{d:D}{ds:List D}{δ δ1 δ2:Dv}(h1:g d δ = some δ1)(h2:b δ1=some (.nx,δ2)):loop g b (d::ds) δ = loop g b ds δ2:=by
 show((g d δ).bind fun δ1=>_)=_
 rw[h1,Option.bind_some,h2];rfl
theorem qf{g:D->Dv->Option Dv}{b:Sf}{d x:D}{ds:List D}{δ δ1 δ2:Dv}(h1:g d δ = some δ1)(h2:b δ1=some (.rt x,δ2)):loop g b (d::ds) δ = some (.rt x,δ2):=by
 show((g d δ).bind fun δ1=>_)=_
 rw[h1,Option.bind_some,h2];rfl
def tO(K:Fg)(f:Dv->Option (List D)):TE:=fun σ H Q=>∃H₀ Z₀ Z δ ds,Hold K H₀ Z₀ Z δ σ H/\f δ = some ds/\∀p vs Z' H',Hold K H₀ Z₀ Z' δ σ H'->Same Z Z'->H' p=none->Reps K Z' vs ds->Q (.ref p) (upd H' p (.lst vs))
noncomputable def Fa(f:Dv->Option D):Dv->Option (List D):=fun δ=>(f δ).bind Cf
@[simp] noncomputable def sQ(i:Nat)(f:Dv->Option (List D)):Sf:=fun δ=>(f δ).bind fun ds=>some (.nx,δ.set i (.ow ds))
section
variable{X:Cx}{e:Expr}{es:List Expr}{p pos:Pos}{f:Dv->Option (List D)}{fs:Dv->Option (List D)}
theorem wz{K:Fg}{D:Ends}{i:Nat}{σ:St}{H:Hp}(h:Bq K (sQ i f) D σ H):tO K f σ H fun v H1=>D.nx (σ.set i (some v)) H1:=by
 obtain⟨H₀,Z₀,Z,δ,r,hh,e,k⟩:=h;obtain⟨ds,e1,e⟩:=bind_some e;cases e;exact⟨H₀,Z₀,Z,δ,ds,hh,e1,fun p vs Z1 H1 hh1 t1 hp r1=>k _ _ Z1 (hh1.setO hp r1) t1⟩
end
section
variable{X:Cx}{scope:Scope}{vars:List Str}{caps:List (Nat×Str)}{elt tg iter cnd:Expr}{pos:Pos}{g:TG}{fi:Dv->Option (List D)}{ft:Dv->Option Bool}{fe:Dv->Option D}{bv:D->Option (List D)}
theorem rZ(tk:xX X.K g vars.length bv){σ:St}{H:Hp}{Q:VK}(h:tO X.K (Fa (dy fi caps bv fe)) σ H Q):sM (FG X.K fi) g (tV X.K fe) vars caps σ H Q:=by
 obtain⟨H₀,Z₀,Z,δ,d0,hh,e0,k⟩:=h;obtain⟨d,e,e0⟩:=bind_some e0;obtain⟨ds,e1,e⟩:=bind_some e;by_cases hz:ds.length<=sizeLine
 ·rw[if_pos hz]at e
  obtain⟨es,e2,e⟩:=bind_some e;cases e;obtain rfl:es=d0:=Option.some.inj e0;have le:=gU e2;have hv:vars.map (fun _=>(none:Option V))=List.replicate vars.length none:=by rw[List.map_const']
  refine⟨H₀,Z₀,Z,δ,ds,hh,e1,fun J Z1 H1 hh1 t1 ok=>?_⟩
  refine⟨fun i m ys H=>m=ds.length-i/\i<=ds.length/\∃Zc,Hold X.K H₀ Z₀ Zc δ σ H/\Same Z1 Zc/\Reps X.K Zc ys (es.take i),⟨ds.length,by simp,Nat.zero_le _,Z1,hh1,Same.refl _,by simpa using .nil⟩,?_⟩
  rintro i m ys H2 ⟨rfl,hi2,Zc,hhc,tc,rc⟩;have zh:Same Z1 H2:=tc.trans hhc.zh;have ly:=rc.length;rw[List.length_take]at ly;by_cases hlt:i<ds.length
  ·refine .inr ⟨ok.go i H2 zh hlt,by lia,fun x H3 y=>?_⟩
   have ed:ds[i]? = some ds[i]:=by simp[hlt]
   obtain⟨rfl,rx⟩:=ok.yld i H2 x H3 _ zh ed y;obtain⟨ei,f1,f2⟩:=lR e2 ed;obtain⟨vs,f3,f1⟩:=bind_some f1;rw[hv];refine tk x Zc ds[i] vs (iX σ caps) H3 _ (rx.same tc) hhc.zh f3 fun us ru hn=>⟨⟨by simp[hn],fun j v q=>?_⟩,?_⟩
   ·by_cases hj:j<vars.length
    ·rw[List.getElem?_append_left (by simpa using hj),List.getElem?_replicate]at q
     split at q<;>cases q
    ·rw[List.getElem?_append_right (by simpa using hj)]at q
     rw[List.getElem?_append_right (by simpa[hn]using hj)];simpa[hn]using q
   ·refine⟨H3,Zc,Zc,_,ei,qJ hhc ru,f1,fun v Z4 H4 h4 t4 r4=>⟨ds.length-(i+1),by lia,rfl,hlt,Z4,hhc.new ⟨t4,h4.h0,h4.zh,h4.zb,h4.nf⟩,tc.trans t4,?_⟩⟩
    have:es.take (i+1)=es.take i++[ei]:=by
     rw[List.take_add_one,f2];rfl
    rw[this];exact(rc.same t4).append (.cons r4 .nil)
  ·have hie:i=ds.length:=by lia
   subst hie;refine .inl ⟨ok.stop _ H2 zh (Nat.le_refl _),by lia,fun p hp=>?_⟩
   rw[<-le,List.take_length]at rc;exact k p ys Zc _ hhc (t1.trans tc) hp rc
 ·rw[if_neg hz]at e;cases e
theorem vO(i:Nat){y:Str}{py spos:Pos}(hN:X.N.Nodup)(B:BlkOk X.env.scope.names X.N scope vars caps)(hc:X.calm=true)(hi:IV X tg iter fi)(tk:xX X.K g vars.length bv)
  (hg:∀C s₀ H₀ ex,PG (iZ X scope (vars++caps.map (·.2)) C s₀ H₀ ex) tg g) (he:∀C s₀ H₀ ex,EV (iZ X scope (vars++caps.map (·.2)) C s₀ H₀ ex) elt fe)
  (hy:X.N[i]? = some y:=by rfl) (hx:At X.env.scope y:=by first|exact Or.inl rfl|exact Or.inr rfl) (hsw:swapsWith (.ListComp elt [⟨tg,iter,[],0⟩] scope pos) (some (.Name y py)) spos.line X.env=pure true:=by rfl)
  (hf:X.fn y=true\/X.env.scope.names.lookup y=some .local:=by first|exact .inl rfl|exact .inr rfl|assumption) (hs:∀x,foldedSetIterable iter X.env x=pure x:=by intro _;rfl) :
  SV X (.Assign [.Name y py] (.ListComp elt [⟨tg,iter,[],0⟩] scope pos) spos) (sQ i (Fa (dy fi caps bv fe))):=
 PS.imp (yT (te:=tV X.K fe) B hc hi hg he hN hy hx hsw hf hs) fun D σ H h=>rZ tk (wz h)
end
noncomputable def um(t:Sf):Fl×Dv->Option (Fl×Dv)
 | (.nx,δ)=>t δ
 |r=>some r
@[simp] theorem E7(t:Sf)(δ:Dv):um t (.nx,δ)=t δ:=rfl
@[simp] theorem E6(t:Sf)(d:D)(δ:Dv):um t (.rt d,δ)=some (.rt d,δ):=rfl
@[simp] theorem E9(t:Sf)(δ:Dv):um t (.bk,δ)=some (.bk,δ):=rfl
@[simp] theorem E8(t:Sf)(δ:Dv):um t (.ct,δ)=some (.ct,δ):=rfl
noncomputable def Ez(u w:Sf)(δ:Dv):Bool->Option (Fl×Dv)
 |true=>u δ
 |false=>w δ
@[simp] theorem Hl(u w:Sf)(δ:Dv):Ez u w δ true=u δ:=rfl
@[simp] theorem Hm(u w:Sf)(δ:Dv):Ez u w δ false=w δ:=rfl
theorem aG(s t:Sf)(δ:Dv):sSeq s t δ = (s δ).bind (um t):=by
 unfold sSeq um;congr 1
theorem aO(t:Dv->Option Bool)(u w:Sf)(δ:Dv):sIf t u w δ = (t δ).bind (Ez u w δ):=by
 unfold sIf;congr 1;funext c;cases c<;>rfl
noncomputable def sd:List D->Option (List Bool)
 |[]=>some []
 |.bool b::r=>(sd r).map (b :: ·)
 |_=>none
noncomputable def CU:List D->Option D
 |[.list xs]=>(sd xs).map fun bs=>.bool (bs.any id)
 |_=>none
noncomputable def DK:D->Option D
 |.list xs=>some (.list xs.reverse)
 |_=>none
@[simp] theorem BB(xs:List D):DK (.list xs)=some (.list xs.reverse):=rfl
noncomputable def DL:D->Option (List D)
 |.list xs=>some xs.reverse
 |.tuple xs=>some xs.reverse
 |_=>none
@[simp] theorem Da(xs:List D):DL (.list xs)=some xs.reverse:=rfl
@[simp] theorem BC(xs:List D):DL (.tuple xs)=some xs.reverse:=rfl
@[simp] noncomputable def FY:Sf:=fun _=>none
@[simp] noncomputable def HM(i:Nat)(f:Dv->Option D):Sf:=fun δ=>(f δ).bind fun v=>(eY v).bind fun es=>(vn δ[i]?).bind fun ds=>if ds.length+es.length<=sizeLine then some (.nx,δ.set i (.ow (ds++es)))else none
section
variable{X:Cx}{e:Expr}{es:List Expr}{p pos tpos apos:Pos}{f:Dv->Option D}{st:Stmt}
theorem tW{K:Fg}{Z:Hp}:∀{xs:List V} {ds:List D} {bs:List Bool} {its:List Value},Reps K Z xs ds->Vals xs its->sd ds=some bs->its.length=bs.length/\∀(i:Nat) (v:Value),its[i]? = some v->∃b,bs[i]? = some b/\v=.bool b
 |_,_,bs,_,.nil,.nil,h=>by cases h;exact⟨rfl,fun i v q=>by simp at q⟩
 |_,_,bs,_,.cons r t,.cons q u,h=>by
  cases r with
  |bl b=>
   unfold sd at h;cases g:sd _ with
   |none=>rw[g]at h;cases h
   |some cs=>
    rw[g]at h;cases h;obtain⟨h1,h2⟩:=tW t u g;refine⟨by simp[h1],fun i v e=>?_⟩
    cases i with
    |zero=>simp at e;subst e;exact⟨b,rfl,q⟩
    |succ i=>simp at e;simpa using h2 i v e
  |_=>cases h
theorem ER(hc:X.calm=true):CallR X (.builtin "any") (x8 X.K CU):=by
 intro pins s σ H xs us Q I rs q;obtain⟨Z,as,d,zh,ra,e,k⟩:=q;cases ra with
 |nil=>cases e
 |cons r1 r2=>
  cases r2 with
  |cons _ _=>cases r1<;>cases e
  |nil=>
   cases r1 with
   | @lst l ys ds h1 q1=>
    have e:(sd ds).map (fun bs=>PyData.bool (bs.any id))=some d:=e
    cases g:sd ds with
    |none=>rw[g]at e;cases e
    |some bs=>
     rw[g]at e;cases e;obtain⟨u,rfl,ru⟩:=lz rs;cases ru;obtain⟨its,rv,pl,hz⟩:=I.list (SqL.same h1 zh);obtain⟨hlen,hget⟩:=tW q1 rv g;have hl:=pl.isList;have hlt:l<s.heap.objs.size:=by obtain⟨_,e,_⟩:=hl;exact Heap.lt_size e
     refine call_any_walk (wpAny_pyIter_list hl ?_);refine⟨s.heap.objs.size,[s.heap.objs.size,l],[s.heap.objs.size],its.toArray.size,_,_,fun i=>(bs[i]?).getD false,rfl,Walks.list (A:=X.A.in1) (I.ok.hd hc) _ l (Nat.ne_of_lt hlt) its.toArray,
      ⟨⟨_,Heap.get?_push_size _ rfl,rfl,rfl⟩,hl.push _⟩,fun i v s' Q' E' hP hQ=>?_,fun h' tk hk=>?_⟩
     ·obtain⟨b,e,rfl⟩:=hget i v (by simpa using hP)
      simp only[e,Option.getD_some]at hQ;exact wpAny_truthy_bool hQ
     ·have e:((List.range its.toArray.size).any fun i=>(bs[i]?).getD false)=bs.any id:=by
       rw[List.size_toArray,hlen];exact LSm.range_any bs
      rw[e];exact⟨.bl _,H,I.kept (t':=tk) (LSm.kept_iter hk),rfl,k _ Z H (New.refl zh) (.bl _)⟩
   |_=>cases e
theorem AB{st:Stmt}:SV X st FY:=fun pins s σ H D I h=>by
 obtain⟨_,_,_,_,_,_,e,_⟩:=h;cases e
end
noncomputable def F1:D->Option (List D)
 |.tuple xs=>some xs.reverse
 |_=>none
@[simp] theorem BA(xs:List D):F1 (.tuple xs)=some xs.reverse:=rfl
def F2(h:Heap)(e:Addr):Prop:=∃oe vs,h.get? e=some oe/\oe.data=.fields vs/\vs[2]? = some .none
noncomputable def CB(n:Str):D:=.dict [(.str "fn",.str n)]
abbrev Xf:=Dv->Option (Str×Dv)
@[simp] noncomputable def Io:Xf:=fun _=>none
@[simp] noncomputable def Fq(n:Str)(f:Dv->Option D):Xf:=fun δ=>(f δ).bind fun _=>some (n,δ)
@[simp] noncomputable def xE(f:Dv->Option Str):Xf:=fun δ=>(f δ).bind fun n=>some (n,δ)
@[simp] noncomputable def Iq(t:Dv->Option Bool)(u w:Xf):Xf:=fun δ=>(t δ).bind fun c=>if c=true then u δ else w δ
@[simp] noncomputable def Fp(s:Sf)(u:Xf):Xf:=fun δ=>(s δ).bind fun r=>match r with
 | (.nx,δ')=>u δ'
 |_=>none
@[simp] noncomputable def G1(u1:Xf)(s:Sf)(u:Xf):Xf:=fun δ=>match u1 δ with
 |some r=>some r
 |none=>Fp s u δ
@[simp] noncomputable def Iv(fs:Dv->Option (List D))(g:List D->Option Str):Dv->Option Str:=fun δ=>(fs δ).bind g
noncomputable def uQ:Sl->Bool
 |.own _=>true
 |_=>false
@[simp] theorem Fd(d:D):uQ (.fz d)=false:=rfl
@[simp] theorem Fc:uQ .un=false:=rfl
noncomputable def yF:Nat->Dv->Bool
 |_,[]=>true
 | 0,_::r=>r.all fun s=>!uQ s
 |n+1,s::r=>!uQ s&&yF n r
@[simp] theorem C8(s:Sl)(r:Dv):yF 0 (s::r)=r.all fun s=>!uQ s:=rfl
@[simp] theorem C9(n:Nat)(s:Sl)(r:Dv):yF (n+1) (s::r)=(!uQ s&&yF n r):=rfl
@[simp] noncomputable def G0(f:Dv->Option D)(u:Dv->Option Str):Dv->Option Str:=fun δ=>(f δ).bind fun _=>u δ
noncomputable def md:D->Option Str
 |.dict [(.str k,.str n)]=>if k = "fn" then some n else none
 |_=>none
theorem uX(n:Str):md (CB n)=some n:=by simp[md,CB]
noncomputable def gR(i:Nat)(fs:Dv->Option (List D))(tbl:List (Str×(List D->Option D))):Dv->Option D:=fun δ=>(oV i δ).bind fun d=>(md d).bind fun n=>(tbl.lookup n).bind fun g=>(fs δ).bind g
@[simp] noncomputable def Hc(i:Nat)(f:Dv->Option D):Sf:=fun δ=>(f δ).bind fun v=>(Cf v).bind fun es=>(vn δ[i]?).bind fun ds=>if ds.length+es.length<=sizeLine then some (.nx,δ.set i (.ow (ds++es)))else none
theorem uY{d:D}{n:Str}(h:md d=some n):d=CB n:=by
 unfold md at h;split at h
 ·split at h
  ·rename_i hk;subst hk;cases h;rfl
  ·cases h
 ·cases h
structure CalF (P:Program) (w:World) (K:PySem.W.Frag) (mg:Str->Option Value) (base:Heap) (x:Str) (k:Nat) (g:List D->Option D):Prop where
 ex:∃(fa:Addr) (fd:FuncData) (ps:List Str),FnOk P w K mg base cM k fa fd ps (dG K g)/\PySem.W.nsIn K mainGlobals x=some (some (.ref fa))/\mg x=some (.ref fa)/\PySem.W.keepIn K (.ref fa)=true/\Binds K fd ps []
theorem xb{P:Program}{w:World}{K:PySem.W.Frag}{mg:Str->Option Value}{base:Heap}{k:Nat}:∀n g,([]:List (Str×(List D->Option D))).lookup n=some g->∃j,j<=k/\CalF P w K mg base n j g:=fun _ _ h=>by cases h
theorem tG{P:Program}{w:World}{K:PySem.W.Frag}{mg:Str->Option Value}{base:Heap}{k j:Nat}{c:Str}{gc:List D->Option D}{tbl:List (Str×(List D->Option D))}(hj:j<=k)(V:CalF P w K mg base c j gc)(h:∀n g,tbl.lookup n=some g->∃j,j<=k/\CalF P w K mg base n j g):∀n g,((c,gc)::tbl).lookup n=some g->∃j,j<=k/\CalF P w K mg base n j g:=fun n g e=>by
 rw[List.lookup_cons]at e;split at e
 ·rename_i hn
  cases e;have:n=c:=by simpa using hn
  subst this;exact⟨j,hj,V⟩
 ·exact h n g e
structure Fnm (K:PySem.W.Frag) (mg:Str->Option Value) (x:Str):Prop where
 ex:∃fa,PySem.W.nsIn K mainGlobals x=some (some (.ref fa))/\mg x=some (.ref fa)
section
variable{X:Cx}{e:Expr}{es:List Expr}{p pos:Pos}{fs:Dv->Option (List D)}
theorem xl{x:Str}(F:Fnm X.K X.mg x)(hg:Gl X x)(hdb:(x==("__debug__":Str))=false:=by decide):EV X (.Name x pos) (oC (CB x)):=by
 obtain⟨fa,h1,h2⟩:=F.ex;exact xm (sW (v:=.ref fa) (u:=.ref fa) hg h2 rfl hdb) fun Z=>.opq (.fn h1)
theorem qt(i:Nat){x:Str}{k:Nat}{tbl:List (Str×(List D->Option D))}(hT:∀n g,tbl.lookup n=some g->∃j,j<=k/\CalF X.prog X.w X.K X.mg X.base n j g)(hr:Room k X.A)(ha:AV X (e::es) fs)(hN:X.N[i]? = some x:=by rfl)(hv:A3 X.env.scope x:=by first|exact Or.inl rfl|exact Or.inr (Or.inl rfl)|exact Or.inr (Or.inr rfl))(hdb:(x==("__debug__":Str))=false:=by decide)(hcd:(x==("__classdict__":Str))=false:=by decide)
  (he:starEach (e::es) X.env=(false,eval e X.env)::starEach es X.env:=by rfl) (hpl:(backTo pos (starEach es X.env)).any (·.1)=false:=by rfl):EV X (.Call (.Name x p) (e::es) [] pos) (gR i fs tbl):=by
 intro pins s σ H Q I h;obtain⟨H₀,Z₀,Z,δ,d,hh,e0,kk⟩:=h;unfold gR at e0;obtain⟨c,e1,e0⟩:=bind_some e0;obtain⟨n,e2,e4⟩:=bind_some e0;obtain⟨g,e3,e5⟩:=bind_some e4;have:=uY e2;subst this;obtain⟨v,hσ,rv⟩:=hh.read e1;obtain⟨j,hj,CF⟩:=hT n g e3;obtain⟨fa,fd,ps,F,hns,hm,hk,hb⟩:=CF.ex;have hva:v=.ref fa:=by
  cases rv with
  |opq o=>
   cases o with
   |fn h1=>rw[hns]at h1;cases h1;rfl
   |lam h1=>rw[hns]at h1;cases h1
   |dct h1 _=>exact absurd h1 fun z=>tK z
 subst hva;refine wpAny_Call_Name_kw (dF (jO hN hv hdb hcd pins s σ H (fun v' H'=>v'=.ref fa/\H'=H) I ⟨_,hσ,rfl,rfl⟩) fun u s1 hq=>?_)
 obtain⟨v',H',I1,r1,hv',hH'⟩:=hq;subst hv';subst hH';cases(show u=Value.ref fa from r1);have ht:tV X.K (os fs g) σ H' Q:=⟨H₀,Z₀,Z,δ,d,hh,e5,kk⟩;obtain⟨H₀',Z₀',Z',δ',xs,hh',ea,q⟩:=args ht;refine PySem.W.callWith_K (h₀:=X.base) I1.ok.mod.kin hk (dF (ha pos pins s1 σ H' (fun vs H1=>dG X.K g (vs++[]) H1 Q E0) I1 ⟨H₀',Z₀',Z',δ',xs,hh',ea,fun vs Z1 H1 hh1 t1 r1=>?_⟩) fun us s2 ⟨vs,H1,I2,r,q2⟩=>⟨I2.kIn,v7 F (hr.mono hj) hb .nil wy I2 r q2⟩) he hpl
 show dG X.K g (vs++[]) H1 Q E0;rw[List.append_nil];exact q vs Z1 H1 hh1 t1 r1
end
theorem mY{pos:Pos}{cv:Value}(l r:List Value)(ht:TriplesOk l)(h:codeAmong pos (l++r)=some cv):codeAmong pos l=some cv\/codeAmong pos r=some cv:=by
 fun_induction TriplesOk l with
 |case1=>exact .inr h
 |case2 a t b u c rest ih=>
  rw[List.cons_append,List.cons_append,List.cons_append]at h;unfold codeAmong at h;split at h
  ·rename_i hc
   left;unfold codeAmong;rw[if_pos hc];exact h
  ·rename_i hc
   rcases ih ht h with z|z
   ·left
    unfold codeAmong;rw[if_neg hc];exact z
   ·exact .inr z
 |case3=>exact ht.elim
section
variable{X:Cx}{params:Arguments}{body:Expr}{scope:Scope}{pos:Pos}
theorem Inv.bat{pins:List (Addr×Obj)}{σ:St}{H:Hp}{s:Shared}{P:Addr}(I:Inv X pins σ H s)(hP:H P≠none):s.heap.BuiltinsAt X.mg P:=by
 obtain⟨bm,ob,b1,b2,b3,b4,b5,b6⟩:=I.ok.mod.bmain;have hbP:bm≠P:=fun q=>hP (by rw[<-q];exact(I.bs bm ob b3).2)
 have hbG:bm≠mainGlobals:=fun q=>by
  obtain⟨o,es,ep,e,hd,_⟩:=I.ok.mod.glob;rw[q,e]at b3;cases b3;rw[hd]at b6;cases b6
 exact⟨bm,ob,b1,b2,hbG,hbP,I.bk _ _ b3,b4,b5,b6⟩
theorem Inv.gl{pins:List (Addr×Obj)}{σ:St}{H:Hp}{s:Shared}(I:Inv X pins σ H s):s.heap.Ns mainGlobals X.mg:=by
 obtain⟨o,es,ep,e,r⟩:=I.ok.mod.glob;exact⟨o,es,ep,I.bk _ _ e,r⟩
abbrev oU(X:Cx)(params:Arguments)(body:Expr)(scope:Scope)(clos:List (Str×Addr))(c':Addr)(ctv:Value):Obj:=PySem.W.kla_obj "<lambda>" (X.env.qual ++ "<lambda>") params body scope clos ((X.mg "__name__").getD .none) c' ctv
theorem qh{x:Str}{c P:Addr}{clos:List (Str×Addr)}{pins:List (Addr×Obj)}{σ:St}{H Z:Hp}{s:Shared}{Q:VK}(I:Inv X pins σ H s)(zh:Same Z H)(hx:x∈lamDefs)(ht:PySem.W.tabIn X.K x=some (c,P))(hcode:X.env.code=.ref c)
  (hcl:closureFor scope X.env=pure clos) (hdef:defaultsOf params X.env=([],[])) (fz:Addr->HO) (hnf:∀(ob:Obj) (c':Addr),Cc (.frz ob (fz c'))=true) (hfz:∀(H':Hp) (h':Heap) (a c':Addr),(∀b o,H b=some o->H' b=some o)->ObjOk X.prog X.w H' h' a (.cod c')->ObjOk X.prog X.w H' h' a (fz c'))
  (k:∀(f c':Addr) (ctv:Value) (Z' H':Hp),New Z H Z' H'->Z' f=some (.frz (oU X params body scope clos c' ctv) (fz c'))->Q (.ref f) H') :
  wpAny (model X.prog X.w) X.A (eval (.Lambda params body scope pos) X.env) (EP X pins σ Q) X.xe s:=by
 refine PySem.W.kla_eval hdef ?_;obtain⟨ps0,hP⟩:=I.tb x hx c P ht;obtain⟨ps,gP,tr,good⟩:=I.hok P _ hP;have hPn:H P≠none:=by rw[hP];simp
 have C:PySem.W.CodeHd s.heap c P:=(I.ok.mod.tabs x hx c P ht).keeps I.bk;have hgP:mainGlobals≠P:=fun q=>by
  obtain⟨o,es,ep,e,r⟩:=I.ok.mod.glob;exact hPn (by rw[<-q];exact(I.bs _ _ e).2)
 have hLP:X.env.locals≠P:=fun q=>hPn (by rw[<-q];exact I.free)
 cases hf:codeAmong pos ps.toList with
 |some cv=>
  obtain⟨c',oc,u,vs,q,t,rfl,hc,hd,hv⟩:=good pos cv hf;refine PySem.W.kla_makeFunctionHit (mg:=X.mg) hcl I.ok.glob (Inv.gl I) hcode C gP tr hf (Inv.bat I hPn) fun ctv h' tk hk hsz=>?_
  have hsz':s.heap.objs.size<=h'.objs.size:=hsz;have hfr:H h'.objs.size=none:=I.hok.fresh hsz';have hkk:∀b u,s.heap.get? b=some u->(h'.push (oU X params body scope clos c' ctv)).get? b=some u:=fun b u e=>Heap.get?_push_of_some _ (hk b u e)
  refine⟨.ref h'.objs.size,_,I.laid (o:=.frz (oU X params body scope clos c' ctv) (fz c')) hkk hsz' ?_,rfl,?_⟩
  ·refine⟨Heap.get?_push_size _ rfl,hfz _ _ _ _ (fun b o e=>by rw[aE (aW e hfr)];exact e) ⟨⟨_,Heap.get?_push_size _ rfl⟩,oc,u,vs,q,t,?_,hd,hv⟩⟩
   rw[aE (fun z=>by rw[z,hfr]at hc;cases hc)];exact hc
  ·have nw:=New.add zh hfr (.frz (oU X params body scope clos c' ctv) (fz c')) (hnf _ _)
   exact k _ c' ctv _ _ nw aJ
 |none=>
  refine PySem.W.kla_makeFunction (mg:=X.mg) hcl I.ok.glob (Inv.gl I) hcode C gP tr hf hgP (Inv.bat I hPn) fun c' ctv h' tk hx' hge hlt hrec htb=>?_
  obtain⟨c2,oc,vs,t,e2,hoc,hd,hv⟩:=hrec;cases e2;have cP:c'≠P:=fun z=>by
   rw[z]at hge;exact absurd (Nat.lt_of_lt_of_le (Heap.lt_size gP) hge) (Nat.lt_irrefl _)
  have hcn:H c'=none:=I.hok.fresh hge;have hsz':s.heap.objs.size<=h'.objs.size:=Nat.le_trans hge (Nat.le_of_lt hlt);have hfn:H h'.objs.size=none:=I.hok.fresh hsz';have hfc:h'.objs.size≠c':=Nat.ne_of_gt hlt;have keep:∀b o,b≠P->s.heap.get? b=some o->(h'.push (oU X params body scope clos c' ctv)).get? b=some o:=fun b o hb e=>Heap.get?_push_of_some _ (hx' b o hb e)
  have nP:∀b,H b=none->b≠P:=fun b hb z=>hPn (by rw[<-z];exact hb)
  have low:∀b o,s.heap.get? b=some o->b≠c'/\b≠h'.objs.size:=fun b o e=>⟨Nat.ne_of_lt (Nat.lt_of_lt_of_le (Heap.lt_size e) hge),Nat.ne_of_lt (Nat.lt_of_lt_of_le (Heap.lt_size e) hsz')⟩
  have up:∀b o,H b=some o->upd (upd H c' (.frz oc (.own 0))) h'.objs.size (.frz (oU X params body scope clos c' ctv) (fz c')) b=some o:=fun b o e=>by
   rw[aE (aW e hfn),aE (aW e hcn)];exact e
  have gc:upd (upd H c' (.frz oc (.own 0))) h'.objs.size (.frz (oU X params body scope clos c' ctv) (fz c')) c'=some (.frz oc (.own 0)):=by
   rw[aE (Ne.symm hfc),aJ]
  refine⟨.ref h'.objs.size,upd (upd H c' (.frz oc (.own 0))) h'.objs.size (.frz (oU X params body scope clos c' ctv) (fz c')),I.step (g':=s.gens) (d':=s.drawn) (ch:=[]) (fun _ z=>nomatch z) (fun b o _ _ _ e n=>keep b o (nP b n) e) (fun b o _ _ _ e n=>⟨o.slots,keep b o (nP b n) e⟩)
   (fun b o _ e n=>?_) (fun b o _ e=>?_) (fun b xs e=>up b _ e) (fun b o u e=>up b _ e) (fun b ps e=>⟨#[],by rw[Array.append_empty];exact up b _ e⟩) (fun m hm=>?_) (fun b o e=>?_) I.bare,rfl,?_⟩
  ·rw[aE (low b o e).2,aE (low b o e).1];exact n
  ·by_cases hb:b=P
   ·subst hb;exact⟨_,Heap.get?_push_of_some _ htb⟩
   ·exact⟨o,keep b o hb e⟩
  ·obtain⟨o,es,ep,e,r⟩:=hm
   exact⟨o,es,ep,keep _ o hLP e,r⟩
  ·by_cases hbf:b=h'.objs.size
   ·subst hbf
    rw[aJ]at e;cases e;exact⟨Heap.get?_push_size _ rfl,hfz _ _ _ _ up ⟨⟨_,Heap.get?_push_size _ rfl⟩,oc,_,vs,_,t,gc,hd,hv⟩⟩
   ·by_cases hbc:b=c'
    ·subst hbc
     rw[gc]at e;cases e;exact⟨Heap.get?_push_of_some _ hoc,⟨_,Heap.get?_push_of_some _ hoc⟩⟩
    ·have e':=e
     rw[aE hbf,aE hbc]at e';by_cases hb:b=P
     ·subst hb
      rw[hP]at e';cases e';refine⟨_,Heap.get?_push_of_some _ htb,by rw[Array.toList_append];exact TriplesOk_snoc _ _ _ _ tr,fun pos' cv q=>?_⟩
      rw[Array.toList_append]at q;rcases mY _ _ tr q with z|z
      ·obtain⟨c1,oc1,u1,vs1,q1,t1,g1,g2,g3⟩:=good pos' cv z
       exact⟨c1,oc1,u1,vs1,q1,t1,g1,up _ _ g2,g3⟩
      ·have z':cv=.ref c':=by
        have z:codeAmong pos' [rawInt pos.line,rawInt pos.col,.ref c']=some cv:=z;unfold rawInt at z;unfold codeAmong at z;split at z
        ·exact(Option.some.inj z).symm
        ·cases z
       exact⟨c',oc,_,vs,_,t,z',gc,hd,hv⟩
     ·refine(I.hok b o e').stay (fun b2 u hb2 q=>keep b2 u ?_ q) (fun b2 q=>up b2 _ q) (fun b2 xs q=>up b2 _ q) fun b2 o2 u2 q=>up b2 _ q
      rcases hb2 with z|z
      ·rw[z];exact hb
      ·intro y;rw[y,hP]at z;cases z
  ·have nw1:New Z H Z (upd H c' (.frz oc (.own 0))):=⟨Same.refl _,dh hcn,zh.trans (dh hcn),fun _ _=>rfl,NoF.refl _⟩
   have nw2:=New.add nw1.zh (show upd H c' (.frz oc (.own 0)) h'.objs.size=none by rw[aE hfc];exact hfn) (.frz (oU X params body scope clos c' ctv) (fz c')) (hnf _ _);exact k _ c' ctv _ _ (nw1.trans nw2) aJ
end
section
variable{prog:Program}{w:World}{A:Around}{R:Result->Shared->Prop}{s:Shared}
theorem EM{a:Addr}{args:Args}{o:Obj}{fd:FuncData}{body:Expr}{c:Addr}{oc:Obj}{vs:Array Value}{q:Str}{tq:Tok}(hroom:A.depth<recursionLimit)(ho:s.heap.get? a=some o)
  (hd':o.data=.func fd) (hco:fd.scope.isCoroutine=false) (hgen:fd.scope.isGenerator=false) (hbody:fd.body=.expr body) (hc:fd.code=.ref c) (hoc:s.heap.get? c=some oc) (hdc:oc.data=.fields vs) (hq:vs[1]? = some (.str q tq))
  (h:wpAny (model prog w) A.in1 (bindArgs fd args) (fun binds s₁=>
   wpAny (model prog w) A.in1 (newFunctionEnv fd.scope fd.globals fd.closure binds (q ++ ".<locals>.") (some a) fd.code none fd.builtins)
    (fun env s₂=>s₂.heap.NoLimit/\codeAny (model prog w) A (.expr body env) R s₂) (fun e s'=>R (.error e) s') s₁) (fun e s'=>R (.error e) s') s) :
  codeAny (model prog w) A (.call (.ref a) args) R s:=by
 refine codeAny_of_tree ?_;show wpAny _ A.in1 (callAny (.ref a) args) _ _ s;simp only[callAny];refine wpAny_bind (wpAny_load ho ?_);simp only[hd',callFunction,hco,hgen,hbody,hc];rw[hc]at h;refine wpAny_bind (m:=field (.ref c) 1) (wpAny_field hoc hdc hq (wpAny_bind (wpAny_pure ?_)));exact wpAny_bind (wpAny_mono h (fun binds s₁ h₁=>wpAny_bind (wpAny_mono h₁ (fun env s₂ h₂=>wpAny_bind (wpAny_enterFrame h₂.1 hroom
  (wpAny_pure (And.intro rfl h₂.2)))) fun _ _ h'=>h')) fun _ _ h'=>h')
end
theorem rP{α:Type}:∀{us:List α},us.length=1->∃a,us=[a]
 |[a],_=>⟨a,rfl⟩
theorem eR{α:Type}{us:List α}(h:us.length=2):∃a b,us=[a,b]:=by
 cases us with
 |nil=>cases h
 |cons a r=>
  obtain⟨b,rfl⟩:=rP (Nat.succ.inj h);exact⟨a,b,rfl⟩
theorem oS{α:Type}{us:List α}(h:us.length=3):∃a b c,us=[a,b,c]:=by
 cases us with
 |nil=>cases h
 |cons a r=>
  obtain⟨b,c,rfl⟩:=eR (Nat.succ.inj h);exact⟨a,b,c,rfl⟩
theorem Ei{α:Type}{us:List α}(h:us.length=4):∃a b c d,us=[a,b,c,d]:=by
 cases us with
 |nil=>cases h
 |cons a r=>
  obtain⟨b,c,d,rfl⟩:=oS (Nat.succ.inj h);exact⟨a,b,c,d,rfl⟩
theorem Gj{α:Type}{us:List α}(h:us.length=5):∃a b c d e,us=[a,b,c,d,e]:=by
 cases us with
 |nil=>cases h
 |cons a r=>
  obtain⟨b,c,d,e,rfl⟩:=Ei (Nat.succ.inj h);exact⟨a,b,c,d,e,rfl⟩
def DefIn(K:PySem.W.Frag)(x y:Str)(st:Stmt):Prop:=∃f fd,PySem.W.nsIn K mainGlobals x=some (some (.ref f))/\FunV K y y st f fd .none/\PySem.W.keepIn K (.ref f)=true
def aF(x:Str)(st:Stmt)(ps:List Str):Prop:=∀(kV doc pm:Value) (an:Option Addr) (cdv ct:Value) (us:List Value),us.length=ps.length->bindArgs (PySem.W.fnOf x x (cu st) (bI st) (aj st) .none kV doc pm an cdv ct) ⟨us,[]⟩=pure (ps.zip us)
section
variable{P:Program}{w:World}{K:PySem.W.Frag}{mg:Str->Option Value}{base h:Heap}{x y:Str}{st:Stmt}{k:Nat}{ps:List Str}
theorem DefIn.mk{f:Addr}{oc:Value}{od an:Option Addr}{osl:Array (Option Value)}{kV doc pm cdv ct:Value}(a:PySem.W.nsIn K mainGlobals x=some (some (.ref f)))(l:K.lookup f=some ⟨oc,od,.func (PySem.W.fnOf y y (cu st) (bI st) (aj st) .none kV doc pm an cdv ct),osl⟩)
  (c:PySem.W.codeIn K cdv y=true) (k:PySem.W.keepIn K (.ref f)=true):DefIn K x y st:=⟨_,_,a,jr l c k,k⟩
variable(D:DefIn K x y st)(X:K.In h)(G:h.Ns mainGlobals mg)(b:aF y st ps)
include D X G
theorem DefIn.fnm:Fnm K mg x:=by
 obtain⟨f,fd,a,F,hk⟩:=D;exact⟨⟨_,a,PySem.W.mg_of X G a⟩⟩
include b
theorem DefIn.cal{g:List VL.D->Option VL.D}(ok:∀f fd,FunV K y y st f fd .none->FnOk P w K mg base cM k f fd ps (dG K g)):Cal P w K mg base x k g []:=by
 obtain⟨f,fd,a,F,hk⟩:=D;exact Cal.mk0 (ok f fd F) (PySem.W.mg_of X G a) hk (F.binds b)
theorem DefIn.calF{g:List VL.D->Option VL.D}(ok:∀f fd,FunV K y y st f fd .none->FnOk P w K mg base cM k f fd ps (dG K g)):CalF P w K mg base x k g:=by
 obtain⟨f,fd,a,F,hk⟩:=D;exact⟨⟨_,_,_,ok f fd F,a,PySem.W.mg_of X G a,hk,F.binds b⟩⟩
end
noncomputable def Hn(fd:FuncData)(us:List Value):{kk:Option (Array Value)->Sem (List (Str×Value)) // bindArgs fd ⟨us,[]⟩=seqItems? fd.defaults >>= kk}:=⟨_,rfl⟩
theorem FunV.bindsK{K:PySem.W.Frag}{x qual:Str}{st:Stmt}{f T:Addr}{fd:FuncData}{ps:List Str}{o:Obj}{items:Array Value}{n:Nat}{ds:List Value}(F:FunV K x qual st f fd (.ref T))(ho:K.lookup T=some o)(hs:o.data=.seq items n)(nu:Nat)(hn:nu+ds.length=ps.length)
  (h:∀(kV doc pm:Value) (an:Option Addr) (cdv ct:Value) (us:List Value),us.length=nu->(Hn (PySem.W.fnOf x qual (cu st) (bI st) (aj st) (.ref T) kV doc pm an cdv ct) us).1 (some items)=pure (ps.zip (us++ds))):Binds K fd ps ds:=
 F.bindsD ho hs nu hn fun kV doc pm an cdv ct us hl=>⟨_,(Hn (PySem.W.fnOf x qual (cu st) (bI st) (aj st) (.ref T) kV doc pm an cdv ct) us).2,h kV doc pm an cdv ct us hl⟩
section
variable{P:Program}{w:World}{K:PySem.W.Frag}{mg:Str->Option Value}{base:Heap}
theorem qA{x:Str}{f c t:Addr}{fd:FuncData}{oc:Value}{od:Option Addr}{osl:Array (Option Value)}(hns:PySem.W.nsIn K mainGlobals x=some (some (.ref f)))(lk:K.lookup f=some ⟨oc,od,.func fd,osl⟩)(ht:PySem.W.tabIn K x=some (c,t)):fd.code=.ref c:=by
 unfold PySem.W.tabIn at ht;rw[hns]at ht;dsimp only at ht;rw[lk]at ht;dsimp only at ht;split at ht
 ·rename_i c' hc
  split at ht
  ·split at ht
   ·cases ht;exact hc
   ·cases ht
  ·cases ht
 ·cases ht
end
section
variable{P:Program}{w:World}{K:PySem.W.Frag}{mg:Str->Option Value}{base h:Heap}{x y:Str}{st:Stmt}{k:Nat}{ps:List Str}
theorem DefIn.calL(D:DefIn K x y st)(X:K.In h)(G:h.Ns mainGlobals mg)(b:aF y st ps){g:List VL.D->Option VL.D}(ok:∀f fd,PySem.W.nsIn K mainGlobals x=some (some (.ref f))->FunV K y y st f fd .none->FnOk P w K mg base cM k f fd ps (dG K g)):Cal P w K mg base x k g []:=by
 obtain⟨f,fd,a,F,hk⟩:=D;exact Cal.mk0 (ok f fd a F) (PySem.W.mg_of X G a) hk (F.binds b)
end
theorem Bb{k:Nat}{l:PySem.W.OpenLaw}{q:Program}{loose:List Str}{XP:(Str->Option Value)->Heap->Prop}{YP:World->Heap->Prop}{d:DefRec}{K:Params->PySem.W.Frag}(hn:l.most=some 63)(hr:Room k callerA)(hdf:d.params.defaults=[])
  (hY:∀(w:World) (h:Heap),YP w h->(K w.params).In h)
  (F:∀(w:World) (mg:Str->Option Value) (fa:Addr) (h:Heap),(K w.params).In h->h.Ns mainGlobals mg->mg d.name=some (.ref fa) ->
   ∃fd:FuncData,(∀(s:Shared) (u:Value),BindsTo s fd ⟨[u],[]⟩ [("script",u)])/\∀base:Heap,(K w.params).In base->base.Ns mainGlobals mg->FnOk l.prog w (K w.params) mg base cM k fa fd ["script"] (pH (K w.params)))
  (hTd:∀(w:World),(lamDefs.all fun x=>(PySem.W.tabIn (K w.params) x).isNone||((recsOf q).find? (fun e=>e.name==x)).isSome)=true) (hTn:∀(w:World),((cW (K w.params)).all fun P=>((K w.params).lookup P).isNone)=true) :
  PySem.W.WalkO q loose XP YP l.row.toRowW d [] (fun f vs=>PySem.call f vs):=
 Dl hn hr hdf hY F (fun w x hx=>by
  have:=List.all_eq_true.mp (hTd w) x hx;rcases Bool.or_eq_true_iff.mp this with z|z
  ·exact .inl (Option.isNone_iff_eq_none.mp z)
  ·exact .inr (Option.isSome_iff_exists.mp z)) fun w P hP=>Option.isNone_iff_eq_none.mp (List.all_eq_true.mp (hTn w) P hP)
noncomputable def xB(n:Str)(w:Int):D:=.dict [(.str "cap",.str n),(.str "wires",.int w)]
noncomputable def Gz(n:Str):D->Option D
 |.int w=>some (xB n w)
 |_=>none
noncomputable def zg(n:Str)(i:Nat):Dv->Option D:=fun δ=>(oV i δ).bind (Gz n)
noncomputable def qH(n:Str):D->Option Int
 |.dict [(.str k,.str m),(.str j,.int w)]=>if k = "cap" /\ m=n/\j = "wires" then some w else none
 |_=>none
theorem u7(n:Str)(w:Int):qH n (xB n w)=some w:=by simp[qH,xB]
noncomputable def cS(i:Nat)(fs:Dv->Option (List D))(n:Str)(g:Int->List D->Option D):Dv->Option D:=fun δ=>(oV i δ).bind fun c=>(qH n c).bind fun w=>(fs δ).bind fun as=>g w as
noncomputable def iF(w:Int):List D->Option D
 |[d]=>((az d (.int 0)).bind fun a=>gJ a (.int w)).bind fun b=>(az d (.int 1)).bind fun c=>rA b c
 |_=>none
theorem xA{n:Str}{c:D}{w:Int}(h:qH n c=some w):c=xB n w:=by
 unfold qH at h;split at h
 ·split at h
  ·rename_i q
   obtain⟨rfl,rfl,rfl⟩:=q;cases h;rfl
  ·cases h
 ·cases h
abbrev _root_.L2.Cx.sw(X:Cx):Cx:={ X with fn:=fun _=>false,cz:=X.fn }
section
variable{X:Cx}{pins:List (Addr×Obj)}{σ:St}{H:Hp}{s:Shared}
theorem Inv.sw(I:Inv X pins σ H s):Inv X.sw pins σ H s:=
 ⟨⟨I.ok.mod,I.ok.kind,I.ok.glob,I.ok.blt,I.ok.above,I.ok.inj,I.ok.has,fun x c h e=>I.ok.cab x c (h.elim nofun .inl) e,I.ok.hd,I.ok.frames,I.ok.stk,I.ok.exf,I.ok.bs,I.ok.bsz,I.ok.noex,I.ok.exfs,I.ok.funs,I.ok.frf,I.ok.tb⟩,
  I.os,I.bare,I.base,I.loc,I.cell,I.free,fun x c e=>(I.freeC x c e).imp id fun z=>⟨rfl,z.2⟩,I.pin,I.hok,I.len⟩
theorem Inv.frzC{x:Str}{c:Addr}{oc:Obj}{v:Option Value}(I:Inv X pins σ H s)(hcz:X.cz x=true)(hfn:X.fn x=false)(hc:X.env.cells.lookup x=some c)(hn:H c=none)(ho:s.heap.get? c=some oc)(hd:oc.data=.cell v):Inv X pins σ (upd H c (.frz oc (.own 0))) s:=by
 have new:∀b o,X.s₀.heap.get? b=some o->b≠c:=fun b o e z=>absurd (Nat.lt_of_lt_of_le (Heap.lt_size e) (I.ok.cab x c (.inr hcz) hc)) (by rw[z];exact Nat.lt_irrefl _)
 have up:∀b o,H b=some o->upd H c (.frz oc (.own 0)) b=some o:=fun b o e=>by rw[aE (aW e hn)];exact e
 refine⟨I.ok,I.os,I.bare,⟨I.base.keep,I.base.slot,fun b o e n hb=>by rw[aE (new b o e)];exact I.base.free b o e n hb,I.base.there,fun b xs e=>up _ _ (I.base.tups b xs e),fun b o u e=>up _ _ (I.base.frzs b o u e),fun b ps e=>let ⟨m,q⟩:=I.base.tbls b ps e; ⟨m,up _ _ q⟩⟩,
  I.loc,I.cell,by rw[aE (fun z=>I.cne x c hc z.symm)];exact I.free,fun y b e=>?_,fun p hp=>?_,fun b o e=>?_,I.len⟩
 ·by_cases hb:b=c
  ·have:=I.ok.inj _ _ _ (hb ▸ e) hc
   subst this;exact .inr ⟨hfn,oc,by rw[hb,aJ]⟩
  ·rw[aE hb]
   exact I.freeC y b e
 ·obtain⟨e,n,ne,nf,d⟩:=I.pin p hp
  have:p.1≠c:=fun z=>by
   rw[z,ho]at e;cases e;exact d v hd
  exact⟨e,by rw[aE this];exact n,ne,nf,d⟩
 ·by_cases hb:b=c
  ·subst hb
   rw[aJ]at e;cases e;exact⟨ho,⟨_,ho⟩⟩
  ·rw[aE hb]at e
   exact(I.hok b o e).stay (fun _ _ _ q=>q) (fun _ q=>up _ _ q) (fun _ _ q=>up _ _ q) fun _ _ _ q=>up _ _ q
end
section
variable{X:Cx}{params:Arguments}{body:Expr}{scope:Scope}{pos:Pos}
theorem zR{n x:Str}{c P:Addr}(i:Nat)(hL:LamIsC n params body scope)(hns:PySem.W.nsIn X.K mainGlobals n=some none)(hx:x∈lamDefs)(ht:PySem.W.tabIn X.K x=some (c,P))(hcode:X.env.code=.ref c)(hN:X.N[i]? = some ("wires":Str))(hk:X.env.kindOf "wires" = some .cell)(hcz:X.cz "wires" = true)(hfn:X.fn "wires" = false):
  EV X (.Lambda params body scope pos) (zg n i):=by
 intro pins s σ H Q I h;obtain⟨H₀,Z₀,Z,δ,d,hh,e,k⟩:=h;obtain⟨dw,e1,e⟩:=bind_some e;cases dw with
 |int w=>
  cases e;obtain⟨v,hσ,rv⟩:=hh.read e1;cases rv;obtain⟨m,hn,hl⟩:=I.loc;obtain⟨u,ru,lk⟩:=hl i "wires" _ hN hσ (.inr (.inl hk));rcases lk with⟨z,_⟩|⟨_,cc,hcc,oc,hoc,hod⟩
  ·rw[hk]at z;cases z
  obtain⟨t,rfl⟩:=ru;have hcl:closureFor scope X.env=pure [(("wires":Str),cc)]:=by
   cases hL;unfold closureFor cellOf;simp[hcc]
  have hdef:defaultsOf params X.env=([],[]):=by cases hL;rfl
  rcases I.freeC "wires" cc hcc with hnone|⟨_,o1,hfr⟩
  ·have I1:=Inv.frzC I hcz hfn hcc hnone hoc hod
   have nw1:New Z H Z (upd H cc (.frz oc (.own 0))):=⟨Same.refl _,dh hnone,hh.zh.trans (dh hnone),fun _ _=>rfl,NoF.refl _⟩
   refine qh I1 nw1.zh hx ht hcode hcl hdef (fun c'=>.cdc c' cc oc) (fun _ _=>rfl) (fun H' h' a c' up x=>⟨x.1,x.2,up _ _ aJ⟩) fun f c' ctv Z' H' nw hf=>?_
   exact k _ _ _ (hh.new (nw1.trans nw)) nw.z (.opq (.cap hns ⟨_,params,body,scope,_,_,rfl,hL⟩ hf hod))
  ·have e1:=(I.hok cc _ hfr).1
   rw[hoc]at e1;cases e1;refine qh I hh.zh hx ht hcode hcl hdef (fun c'=>.cdc c' cc oc) (fun _ _=>rfl) (fun H' h' a c' up x=>⟨x.1,x.2,up _ _ hfr⟩) fun f c' ctv Z' H' nw hf=>?_
   exact k _ _ _ (hh.new nw) nw.z (.opq (.cap hns ⟨_,params,body,scope,_,_,rfl,hL⟩ hf hod))
 |_=>cases e
end
noncomputable def Gw(P:Program)(w:World)(K:PySem.W.Frag)(mg:Str->Option Value)(base:Heap)(N:List Str)(env:Env)(A:Around)(outer:List Env)(s:Shared)(H:Hp):Cx where
 prog:=P
 w:=w
 K:=K
 mg:=mg
 base:=base
 A:=A.deeper env
 N:=N
 s₀:=s
 H₀:=H
 env:=env
 outer:=outer
 stack:=env::outer
 ex:=[]
 fn:=fun _=>false
 cz:=fun _=>false
 calm:=true
 pn:=[]
 xe:=fun _ _=>False
abbrev DF(m:List (Str×Const)):Scope:={ kind:=.function,names:=[("word",.local),("wires",.free)],isGenerator:=false,isCoroutine:=false,more:=m }
abbrev vU(m:List (Str×Const))(L cl f c:Addr)(q:Str):Env:=newEnv (DF m) L mainGlobals [("wires",cl)] q (some f) (.ref c) none builtinsNs
theorem jk{cl c:Addr}{y:Str}(h:([("wires",cl)]:List (Str×Addr)).lookup y=some c):y = "wires" /\ c=cl:=by
 rw[List.lookup_cons]at h;split at h
 ·rename_i q
  cases h;exact⟨by simpa using q,rfl⟩
 ·cases h
section
variable{P:Program}{w:World}{K:PySem.W.Frag}{mg:Str->Option Value}{base:Heap}
theorem zI{m:List (Str×Const)}{A:Around}{outer:List Env}{s:Shared}{H:Hp}{f c cl:Addr}{oc:Obj}{q:Str}{u0:Value}{v0:V}{wi:Int}{t:Tok}{h':Heap}{tk:Nat}(hd:A.handled=none)(e0:Env0 P w K mg base A outer s H)(hkp:∀b o,s.heap.get? b=some o->h'.get? b=some o)
  (hns:h'.Ns s.heap.objs.size (fun x=>([("word",u0)]:List (Str×Value)).reverse.lookup x)) (r0:RelV v0 u0) (hcl:H cl=some (.frz oc (.own 0))) (hcell:s.heap.get? cl=some oc) (hod:oc.data=.cell (some (.int wi t))) :
  Inv (Gw P w K mg base ["word","wires"] (vU m s.heap.objs.size cl f c q) A outer s H) [] [some v0,some (.int wi)] H { s with heap:=h',toks:=tk }:=by
 have noA:∀b:Addr,b ∉ ([]:List Addr):=fun b z=>nomatch z
 refine⟨⟨e0.mod,rfl,rfl,rfl,Nat.le_refl _,fun y z c h1 h2=>?_,fun y hy=>?_,fun y c h=>h.elim nofun nofun,fun _=>hd,Around.frames_deeper e0.frames,.inr ⟨rfl,rfl⟩,fun b z=>absurd z (noA b),e0.bs,e0.bsz,fun b _ _=>noA b,fun b z=>absurd z (noA b),e0.funs,e0.frf,e0.tb⟩,
  rfl,e0.bare,Un.kept hkp,⟨_,hns,fun i y v h1 h2 h3=>?_⟩,fun y c h=>?_,e0.hok.fresh (Nat.le_refl _),fun y c h=>?_,fun p hp=>absurd (show p∈([]:List (Addr×Obj))from hp) (by simp),e0.hok.kept hkp,rfl⟩
 ·exact(jk h1).1.trans (jk h2).1.symm
 ·have hy:([("word",NameKind.local),("wires",NameKind.free)]:List (Str×NameKind)).lookup y=some .cell\/([("word",NameKind.local),("wires",NameKind.free)]:List (Str×NameKind)).lookup y=some .free:=hy
  refine⟨cl,?_⟩;show([("wires",cl)]:List (Str×Addr)).lookup y=some cl;rw[List.lookup_cons]at hy ⊢;rw[List.lookup_cons]at hy;cases e1:(y==("word":Str))<;>cases e2:(y==("wires":Str))<;>simp[e1,e2]at hy ⊢
 ·match i,h1,h2 with
  | 0,h1,h2=>
   cases h1;cases h2;exact⟨u0,r0,.inl ⟨rfl,rfl⟩⟩
  | 1,h1,h2=>
   cases h1;cases h2;exact⟨.int wi t,⟨t,rfl⟩,.inr ⟨.inr rfl,cl,rfl,oc,hkp _ _ hcell,hod⟩⟩
  |i+2,h1,_=>simp[Gw]at h1
 ·obtain⟨rfl,rfl⟩:=jk h
  exact⟨_,oc,hkp _ _ hcell,hod⟩
 ·obtain⟨rfl,rfl⟩:=jk h
  exact .inr ⟨rfl,oc,hcl⟩
theorem yJ{k:Nat}{A:Around}{outer:List Env}{s:Shared}{H Z:Hp}{f c cl:Addr}{ob oc:Obj}{us:List Value}{vs:List V}{as:List D}{d:D}{Q:VK}{E:XK}{wi:Int}{t:Tok}
  (hr:Room (k+1) A) (e0:Env0 P w K mg base A outer s H) (zh:Same Z H) (hL:sB "<lambda> shl" ob c cl) (hf:Z f=some (.frz ob (.cdc c cl oc))) (hod:oc.data=.cell (some (.int wi t))) (r:Vals vs us) (rr:Reps K Z vs as) (e:iF wi as=some d)
  (kk:∀v Z' H',New Z H Z' H'->Rep K Z' v d->Q v H'):codeAny (model P w) A (.call (.ref f) ⟨us,[]⟩) (CR cM outer P w H s Q E) s:=by
 obtain⟨qual,params,body,scope,pm,ctv,rfl,hl⟩:=hL;obtain⟨ho,_,⟨oc',u,vs',q,tq,hc,hd,hv⟩,hcl⟩:=e0.hok f _ (zh _ _ hf);obtain⟨hoc,_⟩:=e0.hok c _ hc;obtain⟨hcell,_⟩:=e0.hok cl _ hcl;obtain⟨d0,rfl⟩:∃d0,as=[d0]:=by
  match as,e with
  |[d0],_=>exact⟨d0,rfl⟩
 obtain⟨v0,rfl,r0⟩:∃v0,vs=[v0]/\Rep K Z v0 d0:=by
  cases rr with
  |cons a b=>cases b;exact⟨_,rfl,a⟩
 obtain⟨u0,rfl,ru0⟩:=lz r;have lim:s.heap.NoLimit:=e0.mod.nolimit.keeps fun b o e=>(e0.bs b o e).1
 generalize hn:("<lambda> shl":Str)=n at hl;cases hl with
 |shl=>
  refine EM hr.depth ho rfl rfl rfl rfl rfl hoc hd hv ?_;refine wpAny_of_eq (a:=[(("word":Str),u0)]) rfl ?_;refine wpAny_newFunctionEnv (by intro y hy;simp at hy;rcases hy with rfl|rfl<;>(intro z;cases z)) (by intro y hy;simp at hy;subst hy;rfl) (fun h' hns hsb=>?_) rfl;have hkp:∀b o,s.heap.get? b=some o->h'.get? b=some o:=fun b o e=>(hsb.2 b (Nat.ne_of_lt (Heap.lt_size e))).trans (Heap.get?_push_of_some _ e)
  refine⟨lim.keeps hkp,PySem.W.kla_codeExpr ?_⟩;have rr2:Reps K Z [v0,.int wi] [d0,.int wi]:=.cons r0 (.cons (.int wi) .nil);refine wpAny_mono ((show EV (Gw P w K mg base ["word","wires"] (vU _ s.heap.objs.size cl f c _) A outer s H) _ (o2 (o2 (o2 (oV 0) (oC (.int 0)) az) (oV 1) gJ) (o2 (oV 0) (oC (.int 1)) az) rA)from
   ah o6 (ah km (ai aq (aa 0) ad (fun _ _=>rfl)) (aa 1)) (ai aq (aa 0) ad (fun _ _=>rfl))) [] _ _ H Q (zI hr.hd e0 hkp hns ru0 hcl hcell hod) ⟨H,Z,Z,_,d,iS (N:=["word","wires"]) zh rr2,e,fun v Z' H' h' z' rv=>kk v Z' H' ⟨z',h'.h0,h'.zh,h'.zb,h'.nf⟩ rv⟩) (fun u s' hs=>?_) fun e s' hs=>hs.elim
  obtain⟨v,H',J,rv,q⟩:=hs;exact⟨v,H',J.os,J.bare,J.base,J.hok,rv,q⟩
end
section
variable{X:Cx}{e:Expr}{es:List Expr}{p pos:Pos}{fs:Dv->Option (List D)}
theorem g6(i:Nat){x:Str}{k:Nat}(hns:PySem.W.nsIn X.K mainGlobals "<lambda> shl" = some none)(hr:Room (k+1) X.A)(ha:AV X (e::es) fs)(hN:X.N[i]? = some x:=by rfl)(hv:A3 X.env.scope x:=by first|exact Or.inl rfl|exact Or.inr (Or.inl rfl)|exact Or.inr (Or.inr rfl))(hdb:(x==("__debug__":Str))=false:=by decide)(hcd:(x==("__classdict__":Str))=false:=by decide)
  (he:starEach (e::es) X.env=(false,eval e X.env)::starEach es X.env:=by rfl) (hpl:(backTo pos (starEach es X.env)).any (·.1)=false:=by rfl):EV X (.Call (.Name x p) (e::es) [] pos) (cS i fs "<lambda> shl" iF):=by
 intro pins s σ H Q I h;obtain⟨H₀,Z₀,Z,δ,d,hh,e0,kk⟩:=h;obtain⟨c,e1,e0⟩:=bind_some e0;obtain⟨wi,e2,e5⟩:=bind_some e0;obtain⟨xs,ea,eg⟩:=bind_some e5;have:=xA e2;subst this;obtain⟨v,hσ,rv⟩:=hh.read e1;have hva:∃(a:Addr) (ob oc:Obj) (c cl:Addr) (t:Tok),v=.ref a/\sB "<lambda> shl" ob c cl/\Z a=some (.frz ob (.cdc c cl oc))/\oc.data=.cell (some (.int wi t)):=by
  cases rv with
  |opq o=>
   generalize hk:[((PyData.str "cap":D),(PyData.str "<lambda> shl":D)),(PyData.str "wires",PyData.int wi)]=kvs at o;cases o with
   |cap h1 h2 h3 h4=>
    injection hk with k1 k2
    injection k1 with _ k3
    injection k3 with k4
    subst k4;injection k2 with k5 _
    injection k5 with _ k6
    injection k6 with k7
    subst k7;exact⟨_,_,_,_,_,_,rfl,h2,h3,h4⟩
   |lam=>simp at hk
   |exc=>simp at hk
   |fn=>simp at hk
   |ins=>unfold Ex at hk;injection hk with k1 _;injection k1 with k3 _;injection k3 with k4;exact absurd k4 (by decide)
   |dct h1 _=>exact absurd (hk.trans h1) fun z=>tK z
 obtain⟨fa,ob,oc,c,cl,t,rfl,hL,hZ,hod⟩:=hva;refine wpAny_Call_Name_kw (dF (jO hN hv hdb hcd pins s σ H (fun v' H'=>v'=.ref fa/\H'=H) I ⟨_,hσ,rfl,rfl⟩) fun u s1 hq=>?_)
 obtain⟨v',H',I1,r1,hv',hH'⟩:=hq;subst hv';subst hH';cases(show u=Value.ref fa from r1);have fnAt:∀{s2:Shared} {H2:Hp},HOk X.prog X.w H2 s2.heap->H2 fa=some (.frz ob (.cdc c cl oc))->PySem.W.FnAt fa s2.heap:=fun{s2 H2} hk hf=>by
  obtain⟨qual,params,body,scope,pm,ctv,rfl,_⟩:=hL;exact⟨_,_,_,_,(hk fa _ hf).1⟩
 refine PySem.W.callWith_F (first:=[]) (fnAt I1.hok (hh.zh _ _ hZ)) (dF (ha pos pins s1 σ H' (fun vs H1=>∃Z1,Same Z1 H1/\Z1 fa=some (.frz ob (.cdc c cl oc))/\Reps X.K Z1 vs xs/\∀v Z' H'',New Z1 H1 Z' H''->Rep X.K Z' v d->Q v H'') I1
  ⟨H₀,Z₀,Z,δ,xs,hh,ea,fun vs Z1 H1 hh1 t1 r1=>⟨Z1,hh1.zh,t1 _ _ hZ,r1,fun v Z' H'' nw rv=>kk v Z' H'' (hh1.new nw) (t1.trans nw.z) rv⟩⟩) fun us s2 ⟨vs,H1,I2,r,Z1,z1,z2,z3,z4⟩=>⟨fnAt I2.hok (z1 _ _ z2),?_⟩) he hpl
 rw[List.nil_append];refine wpAny_call (codeAny_mono (yJ (E:=E0) hr I2.env0 z1 hL z2 hod r z3 eg z4) fun r s' hq=>?_)
 cases r with
 |error e=>exact(wy (X:=X) pins σ H1 s2 e s' I2 hq)
 |ok fl=>
  cases fl with
  |ret u=>exact I2.after hq
  |next=>exact False.elim hq
  |brk=>exact False.elim hq
  |cont=>exact False.elim hq
end
section
variable{P:Program}{w:World}{K:PySem.W.Frag}{mg:Str->Option Value}{base:Heap}
theorem EE{x qual:Str}{st st1:Stmt}{rest:List Stmt}{f c t:Addr}{fd:FuncData}{dV:Value}{N ps:List Str}{k:Nat}{b1 b2:Sf}(hns:PySem.W.nsIn K mainGlobals x=some (some (.ref f)))(ht:PySem.W.tabIn K x=some (c,t))(F:FunV K x qual st f fd dV)(S:FnScope N ps (aj st))(hst:bI st=st1::rest)
  (h1:∀(A:Around) (outer:List Env) (s:Shared) (H:Hp) (E:XK),Room k (A.deeper (envOfC qual (aj st) s.heap.objs.size f (.ref c)))->SV (mW cM P w K mg base N qual (aj st) f (.ref c) A outer s H E).nox st1 b1)
  (h2:∀(A:Around) (outer:List Env) (s:Shared) (H:Hp) (E:XK),Room k (A.deeper (envOfC qual (aj st) s.heap.objs.size f (.ref c)))->BV (mW cM P w K mg base N qual (aj st) f (.ref c) A outer s H E).nox.sw rest b2) :
  FnOk P w K mg base cM (k+1) f fd ps (dG K (runB N ps.length (sSeq b1 b2))):=by
 obtain⟨oc,od,kV,doc,pm,an,cdv,ct,osl,rfl,lk,hcd⟩:=F.ex;have hc:cdv=.ref c:=qA hns lk ht;subst hc;have len:∀vs H Q E,dG K (runB N ps.length (sSeq b1 b2)) vs H Q E->vs.length=ps.length:=fun vs H Q E h=>by
  obtain⟨Z,as,d,zh,r,e,_⟩:=h;rw[r.length];unfold runB at e;split at e
  ·assumption
  ·cases e
 refine⟨len,fun A outer s H args us vs Q E hr e0 hb r hsp=>?_⟩
 have hl:=len _ _ _ _ hsp;have KX:K.In s.heap:=e0.mod.kin.keeps fun b o e=>(e0.bs b o e).1
 have lim:s.heap.NoLimit:=e0.mod.nolimit.keeps fun b o e=>(e0.bs b o e).1
 have hkind:∀y∈ps.zip us,(aj st).names.lookup y.1=some .local\/((aj st).names.lookup y.1=some .cell/\((cellsFrom (s.heap.objs.size+1) (aj st).names []).lookup y.1).isSome=true):=fun⟨n,v⟩ hy=>by
  rcases S.par n (List.of_mem_zip hy).1 with q|q
  ·exact .inl q
  ·exact .inr ⟨q,PySem.W.cellsFrom_some _ _ _ (.inl q)⟩
 refine codeAny_call_function hr.depth (KX _ _ lk) rfl S.co S.gen rfl (PySem.W.codeRec_of KX hcd) (hb _ _ _ _ ?_);refine wpAny_newFunctionEnv_cells S.kind hkind fun env he s1 x=>?_
 subst he;refine⟨lim.keeps x.toInCall.keep,codeAny_func ?_⟩;have I:Inv (mW cM P w K mg base N qual (aj st) f (.ref c) A outer s H E).nox [] (L2.gA N vs) H s1:=(nI (CX:=cM) (qual:=qual) (f:=f) (cd:=.ref c) (E:=E) S hr.hd e0 hl r x).wish _;obtain⟨Z,as,d,zh,rr,e,kk⟩:=hsp;have hh:=iS (N:=N) zh rr;have fin:∀{σ':St} {H' Z':Hp} {δ':Dv},Hold K H Z Z' δ' σ' H'->Same Z Z'->New Z H Z' H':=fun h' z'=>⟨z',h'.h0,h'.zh,h'.zb,h'.nf⟩
 unfold runB at e;split at e
 ·obtain⟨⟨fl,δ'⟩,e2,h⟩:=bind_some e
  obtain⟨⟨fl1,δ1⟩,e3,e4⟩:=bind_some e2;have endE:∀{σ':St} {H' Z':Hp},Hold K H Z Z' δ' σ' H'->Same Z Z'->fl.to K Z' { nx:=fun _ H'=>Q .non H',rt:=Q } σ' H':=fun{σ' H' Z'} h' z'=>by
   cases fl with
   |nx=>cases h;exact kk _ Z' H' (fin h' z') .non
   |rt d=>cases h;exact fun v rv=>kk v Z' H' (fin h' z') rv
   |bk=>cases h
   |ct=>cases h
  show wpAny _ _ (execs (bI st) _) _ _ s1;rw[hst];refine wpAny_execs_cons (wpAny_mono (h1 A outer s H E (hr.deeper _) [] s1 _ H { nx:=fun σ' H'=>Bq K b2 { nx:=fun _ H'=>Q .non H',rt:=Q } σ' H',rt:=Q } I ⟨H,Z,Z,_,(fl1,δ1),hh,e3,fun σ' H' Z' h' z'=>?_⟩) (fun fl2 s2 q=>?_) fun e s' hs=>hs.elim)
  ·cases fl1 with
   |nx=>exact⟨H,Z,Z',δ1,(fl,δ'),h',e4,fun σ2 H2 Z2 hh2 s2=>endE hh2 (z'.trans s2)⟩
   |bk=>cases e4;cases h
   |ct=>cases e4;cases h
   |rt d=>cases e4;exact endE h' z'
  ·cases fl2 with
   |ret u=>
    obtain⟨v,σ',H',J,rv,q⟩:=q;exact⟨v,H',J.os,J.bare,J.base,J.hok,rv,q⟩
   |next=>
    obtain⟨σ',H',I',q⟩:=q;refine wpAny_mono (h2 A outer s H E (hr.deeper _) [] s2 σ' H' { nx:=fun _ H'=>Q .non H',rt:=Q } (Inv.sw I') q) (fun fl3 s3 q=>?_) fun e s' hs=>hs.elim
    cases fl3 with
    |ret u=>
     obtain⟨v,σ',H',J,rv,q⟩:=q;exact⟨v,H',J.os,J.bare,J.base,J.hok,rv,q⟩
    |next=>
     obtain⟨σ',H',J,q⟩:=q;exact⟨V.non,H',J.os,J.bare,J.base,J.hok,rfl,q⟩
    |brk=>obtain⟨_,_,_,q⟩:=q;exact q.elim
    |cont=>obtain⟨_,_,_,q⟩:=q;exact q.elim
   |brk=>obtain⟨_,_,_,q⟩:=q;exact q.elim
   |cont=>obtain⟨_,_,_,q⟩:=q;exact q.elim
 ·cases e
end
end VL
namespace VL
open PySem PySem.Spec PyProof.Rows L2
open AutoSeq1 (wpAny_loadPart')
end VL
namespace VL
open PySem PySem.Spec PyProof.Rows L2
noncomputable def Ig(z:Bool):D->D->Option D
 |.bool a,.bool b=>some (.bool (z != (a==b)))
 |_,_=>none
@[simp] theorem Ev(z a b:Bool):Ig z (.bool a) (.bool b)=some (.bool (z != (a==b))):=rfl
end VL
namespace L2
open PySem PySem.Spec PyProof.Rows
section
variable{κ:Type}[DecidableEq κ]
noncomputable def oj(kvs:List (κ × V))(k:κ):Option V:=(kvs.find? fun kv=>decide (kv.1=k)).map (·.2)
theorem pB{p:κ × V}{r:List (κ × V)}{k:κ}(e:p.1=k):oj (p::r) k=some p.2:=by simp[oj,List.find?_cons,e]
theorem pC{p:κ × V}{r:List (κ × V)}{k:κ}(e:¬p.1=k):oj (p::r) k=oj r k:=by simp[oj,List.find?_cons,e]
theorem RelO.isSome_eq{o:Option V}{u:Option Value}(r:RelO o u):o.isSome=u.isSome:=by
 cases o with
 |none=>cases u with
  |none=>rfl
  |some _=>exact(show False from r).elim
 |some _=>cases u with
  |none=>exact(show False from r).elim
  |some _=>rfl
theorem KV.val{kvs:List (κ × V)}{vs:List (κ × Value)}(r:KV kvs vs)(k:κ):RelO (oj kvs k) (valueAt vs k):=by
 unfold KV at r
 induction r with
 |nil=>exact True.intro
 | @cons p q ps qs h t ih=>
  obtain⟨h1,h2⟩:=h;by_cases e:p.1=k
  ·have e':q.1=k:=h1.symm.trans e
   have b:valueAt (q::qs) k=some q.2:=by simp[valueAt,List.find?_cons,e']
   rw[pB e,b];exact h2
  ·have e':¬q.1=k:=fun z=>e (h1.trans z)
   have b:valueAt (q::qs) k=valueAt qs k:=by simp[valueAt,List.find?_cons,e']
   rw[pC e,b];exact ih
end
theorem AR{P:Program}{w:World}{k:bf}{u:Value}(r:RelV (kV k) u):(dQ P w).is k u=true:=by
 cases k with
 |inl i=>obtain⟨t,e⟩:=(show ∃t,u=Value.int i t from r);subst e;exact qb P w i t
 |inr x=>obtain⟨t,e⟩:=(show ∃t,u=Value.str x t from r);subst e;exact qa P w x t
theorem nH{P:Program}{w:World}:∀{ks:List bf} {us:List Value},Vals (ks.map kV) us->ItemsAre (dQ P w) ks us
 |[],_,r=>by rw[List.map_nil]at r;cases r;exact .nil
 |k::ks,_,r=>by
  rw[List.map_cons]at r;cases r with
  |cons h t=>exact .cons (AR h) (nH t)
abbrev KT(H:Hp):List (List bf×V)->List (List bf×Addr×Value)->Prop:=Paired fun p q=>p.1=q.1/\H q.2.1=some (.tup (p.1.map kV))/\RelV p.2 q.2.2
theorem KT.val{H:Hp}{kvs:List (List bf×V)}{xs:List (List bf×Addr×Value)}(r:KT H kvs xs)(k:List bf):RelO (oj kvs k) ((atKey xs k).map (·.2)):=by
 induction r with
 |nil=>exact True.intro
 | @cons p q ps qs h t ih=>
  obtain⟨h1,_,h2⟩:=h;by_cases e:p.1=k
  ·have e':q.1=k:=h1.symm.trans e
   have b:atKey (q::qs) k=some q.2:=by simp[atKey,List.find?_cons,e']
   rw[pB e,b];exact h2
  ·have e':¬q.1=k:=fun z=>e (h1.trans z)
   have b:atKey (q::qs) k=atKey qs k:=by simp[atKey,List.find?_cons,e']
   rw[pC e,b];exact ih
section
variable{P:Program}{w:World}{H:Hp}{h:Heap}{a:Addr}
theorem AE{u:HO}(ok:HOk P w H h)(e:Rd H a u):ObjOk P w H h a u:=e.ok ok
theorem EJ{kvs:List (bf×V)}(ok:HOk P w H h)(e:Rd H a (.dK kvs)):kvs.length<=sizeLine/\(a==sysModules)=false/\∃vs,KV kvs vs/\h.DictOf (dQ P w) a vs:=
 show ObjOk P w H h a (.dK kvs)from AE ok e
theorem wW{ks:List bf}(ok:HOk P w H h)(e:H a=some (.tup (ks.map kV))):(tupleKind (dQ P w)).is h ks a:=by
 obtain⟨_,its,r,⟨o,h1,h2,n,h3⟩,_⟩:=(show ObjOk P w H h a (.tup (ks.map kV))from ok a _ e);exact⟨o,its.toArray,n,h1,h2,h3,by simpa using nH r⟩
theorem EI{kvs:List (List bf×V)}(ok:HOk P w H h)(e:Rd H a (.dT kvs)):kvs.length<=sizeLine/\(a==sysModules)=false /\
  ∃xs,KT H kvs xs/\h.DictOfH (tupleKind (dQ P w)) a xs:=by
 obtain⟨z,y,xs,r,o,es,ep,h1,h2,h3,h4,h5⟩:=(show ObjOk P w H h a (.dT kvs)from AE ok e);refine⟨z,y,xs,r,o,es,ep,h1,h2,h3,h4,fun x hx=>?_,h5⟩
 have all:∀{l:List (List bf×V)} {m:List (List bf×Addr×Value)},KT H l m->∀x∈m,(tupleKind (dQ P w)).is h x.1 x.2.1:=by
  intro l m q
  induction q with
  |nil=>intro x hx;exact nomatch hx
  | @cons p q ps qs hq t ih=>
   intro x hx;rcases List.mem_cons.mp hx with e|hx
   ·subst e
    exact wW ok (by rw[<-hq.1];exact hq.2.1)
   ·exact ih x hx
 exact all r x hx
end
def GY(H:Hp)(a:Addr)(y:V)(r:Option V):Prop:=
 (∃kvs k,Rd H a (.dK kvs)/\y=kV k/\r=oj kvs k)\/∃kvs k b,Rd H a (.dT kvs)/\y=.ref b/\H b=some (.tup (k.map kV))/\r=oj kvs k
section
variable{X:Cx}{pins:List (Addr×Obj)}{σ:St}{H:Hp}{s:Shared}{a:Addr}{y v:V}{u r:Value}{o:Option V}{A:Around}{E:Value->Shared->Prop}
theorem EL{Q:Value->Shared->Prop}(hu:A.units+1<cLine)(I:Inv X pins σ H s)(g:GY H a y o)(ry:RelV y u)(h:∀s',Inv X pins σ H s'->Q (.bool o.isSome) s'):
  wpAny (model X.prog X.w) A (compareOp .In u (.ref a)) Q E s:=by
 rcases g with⟨kvs,k,e,ey,l⟩|⟨kvs,k,b,e,ey,eb,l⟩
 ·subst ey
  obtain⟨z,hd,vs,rel,dd⟩:=EJ I.hok e;refine wpAny_in_of (AR ry) hd dd.mapOf ?_;rw[<-(rel.val k).isSome_eq,<-l];exact h _ (I.tok _)
 ·subst ey
  cases(show u=Value.ref b from ry);obtain⟨z,hd,xs,rel,dd⟩:=EI I.hok e;refine wpAny_in_heap (tupleKind_room_in1 hu) (wW I.hok eb) hd dd ?_;have q:=(rel.val k).isSome_eq;rw[Option.isSome_map]at q;rw[<-q,<-l];exact h _ (I.tok _)
end
end L2
namespace Att
open PySem PySem.W PySem.Calls PyProof.Rows
end Att
namespace L2
open PySem PySem.Spec PyProof.Rows
end L2
namespace VL
open PySem PySem.Spec PyProof.Rows L2
noncomputable def En:D->Option bf
 |.int i=>some (.inl i)
 |.str x=>some (.inr x)
 |_=>none
@[simp] theorem Em(i:Int):En (.int i)=some (.inl i):=rfl
noncomputable def HH:Option Sl->Option (List (bf×D))
 |some (.own (.d es))=>some es
 |_=>none
@[simp] theorem FV(es:List (bf×D)):HH (some (.od es))=some es:=rfl
theorem ij:∀{out:List Value} {l:List Int},IntsAre out l->Vals (l.map V.int) out
 |_,_,.nil=>.nil
 |_,_,.cons n t r=>.cons ⟨t,rfl⟩ (ij r)
theorem gW{h:Heap}{a b:Addr}{f:Obj->Obj}{o:Obj}(hab:b≠a)(e:h.get? b=some o):(h.update a f).get? b=some o:=(Heap.get?_update_other _ _ (Ne.symm hab)).trans e
noncomputable def Dj:List D->Option D
 |[.list a,.list b]=>some (.list (List.zipWith (fun x y=>.tuple [x,y]) a b))
 |_=>none
@[simp] noncomputable def Ix(fs:Dv->Option (List D))(g:List D->Option D):Dv->Option D:=fun δ=>(fs δ).bind g
@[simp] theorem E2(a b:List D):Dj [.list a,.list b]=some (.list (List.zipWith (fun x y=>.tuple [x,y]) a b)):=rfl
section
variable{cmp:Nat->Nat->(Bool->Shared->Prop)->Shared->Prop}{N:Nat}{key:Nat->Int}
noncomputable def ky(key:Nat->Int)(p:Array Nat)(i:Nat):Int:=key (p.getD i 0)
structure Pm (N:Nat) (p:Array Nat):Prop where
 perm:p.toList.Perm (List.range N)
theorem Pm.size{p:Array Nat}(h:Pm N p):p.size=N:=by
 have:=h.perm.length_eq;simpa using this
theorem Pm.lt{p:Array Nat}(h:Pm N p)(i:Nat)(hN:0<N):p.getD i 0<N:=by
 by_cases hi:i<p.size
 ·have e:p.getD i 0=p[i]:=by simp[Array.getD,hi]
  rw[e];have m:p[i]∈p.toList:=Array.getElem_mem_toList hi;exact List.mem_range.mp (h.perm.mem_iff.mp m)
 ·have e:p.getD i 0=0:=by simp[Array.getD,hi]
  rw[e];exact hN
theorem Pm.ne{p:Array Nat}(h:Pm N p){i j:Nat}(hi:i<N)(hj:j<N)(e:p.getD i 0=p.getD j 0):i=j:=by
 have nd:p.toList.Nodup:=h.perm.nodup_iff.mpr List.nodup_range;have hz:=h.size;have e1:p.getD i 0=p.toList[i]'(by simpa[hz]using hi):=by simp[Array.getD,hz,hi]
 have e2:p.getD j 0=p.toList[j]'(by simpa[hz]using hj):=by simp[Array.getD,hz,hj]
 rw[e1,e2]at e;have pw:=List.pairwise_iff_getElem.mp nd;rcases Nat.lt_trichotomy i j with q|q|q
 ·exact absurd e (pw i j (by simpa[hz]using hi) (by simpa[hz]using hj) q)
 ·exact q
 ·exact absurd e.symm (pw j i (by simpa[hz]using hj) (by simpa[hz]using hi) q)
theorem Pm.of{p q:Array Nat}(h:Pm N p)(e:q.Perm p):Pm N q:=⟨(Array.perm_iff_toList_perm.mp e).trans h.perm⟩
variable{s:Shared}(hinj:∀i j,i<N->j<N->key i=key j->i=j)(hc:∀i j,i<N->j<N->i≠j->∀C:Bool->Shared->Prop,C (decide (key i<key j)) s->cmp i j C s)
def Up(key:Nat->Int)(p:Array Nat)(m:Nat):Prop:=∀i j,i<j->j<m->ky key p i<ky key p j
def Dn(key:Nat->Int)(p:Array Nat)(m:Nat):Prop:=∀i j,i<j->j<m->ky key p j<ky key p i
include hinj in
theorem wS{p:Array Nat}(h:Pm N p){i j:Nat}(hi:i<N)(hj:j<N)(hij:i≠j):ky key p i≠ky key p j:=fun e=>
 hij (h.ne hi hj (hinj _ _ (h.lt i (by lia)) (h.lt j (by lia)) e))
include hc in
theorem mB{α:Type}{p:Array Nat}(h:Pm N p)(hN:0<N)(i j:Nat)(hi:i<N)(hj:j<N)(hij:i≠j){k:Bool->PySem.W.KasT α}{Q:α -> Shared->Prop}(hk:(k (decide (ky key p i<ky key p j))).kasWp cmp Q s):(PySem.W.KasT.ask (p.getD i 0) (p.getD j 0) k).kasWp cmp Q s:=
 hc _ _ (h.lt i hN) (h.lt j hN) (fun e=>hij (h.ne hi hj e)) _ hk
include hinj hc in
theorem su{p:Array Nat}(h:Pm N p){Q:Nat->Shared->Prop}{M:Nat}(hM:M<=N):∀(f n:Nat),1<=n->n+f=M->Up key p n->(∀m,n<=m->m<=M->Up key p m->(m=M\/ky key p m<ky key p (m-1))->Q m s)->(PySem.W.kas_asc p f n).kasWp cmp Q s
 | 0,n,h1,hf,up,q=>q n (Nat.le_refl _) (by lia) up (.inl (by lia))
 |f+1,n,h1,hf,up,q=>by
  refine mB hc h (by lia) n (n-1) (by lia) (by lia) (by lia) ?_;by_cases d:ky key p n<ky key p (n-1)
  ·rw[decide_eq_true d,if_pos rfl]
   exact q n (Nat.le_refl _) (by lia) up (.inr d)
  ·rw[decide_eq_false d,if_neg (by decide)]
   have ne:=wS hinj h (i:=n) (j:=n-1) (by lia) (by lia) (by lia);refine su h hM f (n+1) (by lia) (by lia) (fun i j hij hj=>?_) fun m a1 a2 a3 a4=>q m (by lia) a2 a3 a4
   by_cases hjn:j=n
   ·subst hjn
    by_cases hi:i=j-1
    ·subst hi;lia
    ·have:=up i (j-1) (by lia) (by lia);lia
   ·exact up i j hij (by lia)
include hinj hc in
theorem tJ{p:Array Nat}(h:Pm N p){Q:Array Nat×Nat×Nat->Shared->Prop}{M:Nat}(hM:M<=N):∀(f n:Nat),1<=n->n+f=M->Dn key p n->(∀m,n<=m->m<=M->Dn key p m->Q (p,m,0) s)->(PySem.W.kas_desc f p n 0).kasWp cmp Q s
 | 0,n,h1,hf,dn,q=>q n (Nat.le_refl _) (by lia) dn
 |f+1,n,h1,hf,dn,q=>by
  refine mB hc h (by lia) n (n-1) (by lia) (by lia) (by lia) ?_;have ne:=wS hinj h (i:=n) (j:=n-1) (by lia) (by lia) (by lia);by_cases d:ky key p n<ky key p (n-1)
  ·rw[decide_eq_true d,if_pos rfl,if_neg (by decide)]
   refine tJ h hM f (n+1) (by lia) (by lia) (fun i j hij hj=>?_) fun m a1 a2 a3=>q m (by lia) a2 a3
   by_cases hjn:j=n
   ·subst hjn
    by_cases hi:i=j-1
    ·subst hi;lia
    ·have:=dn i (j-1) (by lia) (by lia);lia
   ·exact dn i j hij (by lia)
  ·rw[decide_eq_false d,if_neg (by decide)]
   refine mB hc h (by lia) (n-1) n (by lia) (by lia) (by lia) ?_;rw[decide_eq_true (show ky key p (n-1)<ky key p n by lia),if_pos rfl];exact q n (Nat.le_refl _) (by lia) dn
theorem wa{p:Array Nat}(h:Pm N p)(i j:Nat):Pm N (PySem.W.kas_rev p i j):=h.of (mirror_perm _ _ _ _)
theorem jp{p q:Array Nat}{i j:Nat}(e:p[i]? = q[j]?):p.getD i 0=q.getD j 0:=by
 rw[Array.getD_eq_getD_getElem?,Array.getD_eq_getD_getElem?,e]
theorem wb{p:Array Nat}(h:Pm N p){n:Nat}(hn:n<=N)(k:Nat):ky key (PySem.W.kas_rev p 0 n) k=if k<n then ky key p (n-1-k)else ky key p k:=by
 have e:=getElem?_mirror_all (xs:=p) (i:=0) (j:=n) (by rw[h.size];exact hn) k;unfold ky PySem.W.kas_rev;by_cases hk:k<n
 ·rw[if_pos ⟨Nat.zero_le _,hk⟩]at e
  rw[if_pos hk,jp e,Nat.zero_add]
 ·rw[if_neg (by lia)]at e
  rw[if_neg hk,jp e]
theorem Bz{p:Array Nat}(h:Pm N p){n:Nat}(hn:n<=N)(dn:Dn key p n):Up key (PySem.W.kas_rev p 0 n) n:=fun i j hij hj=>by
 rw[wb h hn,wb h hn,if_pos (by lia),if_pos hj];exact dn _ _ (by lia) (by lia)
include hinj hc in
theorem yw{p:Array Nat}(h:Pm N p){Q:Nat×Array Nat->Shared->Prop}{n:Nat}(h1:1<=n)(hn:n<=N)(dn:Dn key p n)(q:∀m p',1<=m->m<=N->Pm N p'->Up key p' m->Q (m,p') s):(PySem.W.kas_tail3 n N p).kasWp cmp Q s:=by
 unfold PySem.W.kas_tail3;rw[PySem.W.KasT.kasWp_bind];exact su hinj hc (wa h 0 n) (Nat.le_refl N) (N-n) n h1 (by lia) (Bz h hn dn) fun m a1 a2 a3 _=>q m _ (by lia) a2 (wa h 0 n) a3
include hinj hc in
theorem xp{p:Array Nat}(h:Pm N p)(hN:2<=N){Q:Nat×Array Nat->Shared->Prop}(q:∀m p',1<=m->m<=N->Pm N p'->Up key p' m->Q (m,p') s):(PySem.W.kas_count N p).kasWp cmp Q s:=by
 unfold PySem.W.kas_count;rw[PySem.W.KasT.kasWp_bind];refine su hinj hc h (Nat.le_refl N) (N-1) 1 (Nat.le_refl _) (by lia) (fun i j a b=>by lia) fun n a1 a2 a3 a4=>?_
 by_cases e:(n==N)=true
 ·rw[if_pos e]
  exact q n p a1 a2 h a3
 ·rw[if_neg e]
  have hne:n≠N:=fun z=>e (by rw[z];exact beq_self_eq_true _)
  by_cases e2:n>1
  ·rw[if_pos e2]
   refine mB hc h (by lia) 0 (n-1) (by lia) (by lia) (by lia) ?_;rw[decide_eq_true (a3 0 (n-1) (by lia) (by lia)),if_pos rfl];exact q n p a1 a2 h a3
  ·rw[if_neg e2]
   have hn1:n=1:=by lia
   subst hn1;have d:ky key p 1<ky key p 0:=by
    rcases a4 with z|z
    ·exact absurd z hne
    ·exact z
   unfold PySem.W.kas_descPart;rw[PySem.W.KasT.kasWp_bind];refine tJ hinj hc h (Nat.le_refl N) (N-(1+1)) (1+1) (by lia) (by lia) (fun i j hij hj=>?_) fun m b1 b2 b3=>?_
   ·have:i=0:=by lia
    have:j=1:=by lia
    subst i;subst j;exact d
   ·rw[if_neg (by show ¬(0>0);decide)]
    exact yw hinj hc h (show 1<=m from Nat.le_trans (by decide) b1) b2 b3 q
include hinj hc in
theorem lM{p:Array Nat}(h:Pm N p){Q:Nat->Shared->Prop}{k:Nat}(hk:k<N)(up:Up key p k):∀(f l r:Nat),r-l<=f->l<=r->r<=k->(∀i,i<l->ky key p i<ky key p k)->(∀i,r<=i->i<k->ky key p k<ky key p i) ->
  (∀l',l'<=k->(∀i,i<l'->ky key p i<ky key p k)->(∀i,l'<=i->i<k->ky key p k<ky key p i)->Q l' s)->(PySem.W.kas_place p k f l r).kasWp cmp Q s
 | 0,l,r,hf,hlr,hr,lo,hi,q=>q l (by lia) lo fun i h1 h2=>hi i (by lia) h2
 |f+1,l,r,hf,hlr,hr,lo,hi,q=>by
  unfold PySem.W.kas_place;by_cases e:l>=r
  ·rw[if_pos e]
   exact q l (by lia) lo fun i h1 h2=>hi i (by lia) h2
  ·rw[if_neg e]
   refine mB hc h (by lia) k ((l+r)/2) hk (by lia) (by lia) ?_;have ne:=wS hinj h (i:=k) (j:=(l+r)/2) hk (by lia) (by lia);by_cases d:ky key p k<ky key p ((l+r)/2)
   ·rw[decide_eq_true d,if_pos rfl]
    refine lM h hk up f l ((l+r)/2) (by lia) (by lia) (by lia) lo (fun i h1 h2=>?_) q;by_cases z:i=(l+r)/2
    ·subst z;exact d
    ·have:=up ((l+r)/2) i (by lia) h2;lia
   ·rw[decide_eq_false d,if_neg (by decide)]
    refine lM h hk up f ((l+r)/2+1) r (by lia) (by lia) hr (fun i h1=>?_) hi q;by_cases z:i=(l+r)/2
    ·subst z;lia
    ·have:=up i ((l+r)/2) (by lia) (by lia);lia
theorem xF{p:Array Nat}(h:Pm N p){k d:Nat}(hk:k<N)(hd:d<=k)(i:Nat):ky key (bubble p k d) i=if i=k-d then ky key p k else if k-d<i/\i<=k then ky key p (i-1)else ky key p i:=by
 have e:=getElem?_bubble (xs:=p) (src:=k) (by rw[h.size];exact hk) d hd i;unfold ky;by_cases h1:i=k-d
 ·rw[if_pos h1]at e ⊢
  rw[jp e]
 ·rw[if_neg h1]at e ⊢
  by_cases h2:k-d<i/\i<=k
  ·rw[if_pos h2]at e ⊢
   rw[jp e]
  ·rw[if_neg h2]at e ⊢
   rw[jp e]
include hinj hc in
theorem xH{Q:Array Nat->Shared->Prop}(q:∀p',Pm N p'->Up key p' N->Q p' s):∀(f:Nat) (p:Array Nat) (k:Nat),k+f=N->Pm N p->Up key p k->(PySem.W.kas_bin f p k).kasWp cmp Q s
 | 0,p,k,hf,h,up=>q p h (by rw[show N=k by lia];exact up)
 |f+1,p,k,hf,h,up=>by
  unfold PySem.W.kas_bin;rw[PySem.W.KasT.kasWp_bind];refine lM hinj hc h (by lia) up k 0 k (by lia) (Nat.zero_le _) (Nat.le_refl _) (fun i hi=>by lia) (fun i h1 h2=>by lia) fun l hl lo hi=>?_
  refine xH q f (bubble p k (k-l)) (k+1) (by lia) (h.of (bubble_perm _ _ _)) fun i j hij hj=>?_
  rw[xF h (by lia) (by lia),xF h (by lia) (by lia),show k-(k-l)=l by lia];by_cases i1:i=l
  ·rw[if_pos i1,if_neg (by lia),if_pos (by lia)]
   exact hi (j-1) (by lia) (by lia)
  ·rw[if_neg i1]
   by_cases j1:j=l
   ·rw[if_pos j1,if_neg (by lia)]
    exact lo i (by lia)
   ·rw[if_neg j1]
    by_cases i2:l<i/\i<=k
    ·rw[if_pos i2,if_pos (by lia)]
     exact up (i-1) (j-1) (by lia) (by lia)
    ·rw[if_neg i2]
     by_cases j2:l<j/\j<=k
     ·rw[if_pos j2]
      by_cases z:i=j-1
      ·lia
      ·exact up i (j-1) (by lia) (by lia)
     ·rw[if_neg j2]
      exact up i j hij (by lia)
include hinj hc in
theorem yE(hN:2<=N){Q:Array Nat->Shared->Prop}(q:∀p',Pm N p'->Up key p' N->Q p' s):(PySem.W.kas_sort N).kasWp cmp Q s:=by
 unfold PySem.W.kas_sort;rw[PySem.W.KasT.kasWp_bind];refine xp hinj hc (p:=List.toArray (List.range N)) ⟨List.Perm.refl _⟩ hN fun m p a1 a2 a3 a4=>?_
 dsimp only;by_cases e:m<N
 ·rw[if_pos e]
  rw[show max m 1=m by lia];exact xH hinj hc q (N-m) p m (by lia) a3 a4
 ·rw[if_neg e]
  exact q p a3 (by rw[show N=m by lia];exact a4)
end
noncomputable def Id(a:Addr)(H:Hp):Hp:=fun b=>if b=a then none else H b
end VL
namespace VL
open PySem PySem.Spec PyProof.Rows
section
variable{κ:Keyed->Int}{all out l ra rb:List Keyed}{m:Keyed}
def Im(κ:Keyed->Int)(l:List Keyed):Prop:=l.Pairwise fun x y=>κ x <= κ y
end
section
variable{M:Model}{A:Around}{E:Value->Shared->Prop}{s:Shared}{κ:Keyed->Int}{S:Keyed->Prop}{kd:SortKind}
def Good(κ:Keyed->Int)(a b out:Array Keyed):Prop:=out.toList.Perm (a.toList++b.toList)/\Im κ out.toList
variable{a b out:Array Keyed}{ia ib:Nat}
end
end VL
namespace VL
open PySem PySem.Spec PyProof.Rows L2
noncomputable def fP:bf->bf->Bool
 |.inl a,.inl b=>decide (a<b)
 |.inr a,.inr b=>decide (a.cps.toList<b.cps.toList)
 |.inl _,.inr _=>true
 |.inr _,.inl _=>false
noncomputable def dz:List bf->List bf->Bool
 |[],[]=>false
 |[],_::_=>true
 |_::_,[]=>false
 |a::r,b::t=>if a=b then dz r t else fP a b
noncomputable def uS(x:List bf):List (List bf)->List (List bf)
 |[]=>[x]
 |y::r=>if dz y x then y::uS x r else x::y::r
noncomputable def b8:List (List bf)->List (List bf)
 |[]=>[]
 |x::r=>uS x (b8 r)
noncomputable def wV:List D->Option (List bf)
 |[]=>some []
 |d::r=>(En d).bind fun k=>(wV r).bind fun l=>some (k::l)
noncomputable def El:D->Option (List bf)
 |.tuple ds=>wV ds
 |_=>none
noncomputable def nB:List D->Option (List (List bf))
 |[]=>some []
 |d::r=>(El d).bind fun k=>(nB r).bind fun l=>some (k::l)
noncomputable def Df:bf->Bool
 |.inl _=>true
 |.inr _=>false
noncomputable def Az:List bf->Bool
 |.inr _::r=>r.all Df
 |_=>false
noncomputable def pi:List bf->Bool
 |.inl _::r=>r.all Df
 |_=>false
theorem str_eq{x y:Str}(h:x.cps.toList=y.cps.toList):x=y:=by
 cases x;cases y;simp only[Str.mk.injEq];exact Array.toList_inj.mp h
theorem uL(a:bf):fP a a=false:=by
 cases a with
 |inl a=>simp[fP]
 |inr a=>simp[fP,List.lt_irrefl]
theorem uK(a b:bf)(h:a≠b):fP a b=!fP b a:=by
 cases a with
 |inl a=>
  cases b with
  |inl b=>
   have:a≠b:=fun z=>h (by rw[z])
   simp only[fP];rcases Int.lt_trichotomy a b with q|q|q
   ·rw[decide_eq_true q,decide_eq_false (by lia)];rfl
   ·exact absurd q this
   ·rw[decide_eq_false (by lia),decide_eq_true q];rfl
  |inr b=>rfl
 |inr a=>
  cases b with
  |inl b=>rfl
  |inr b=>
   have:a.cps.toList≠b.cps.toList:=fun z=>h (by rw[str_eq z])
   simp only[fP];by_cases q:a.cps.toList<b.cps.toList
   ·rw[decide_eq_true q,decide_eq_false (List.lt_asymm q)];rfl
   ·rw[decide_eq_false q]
    have q:=List.not_lt.mp q;rcases List.le_iff_lt_or_eq.mp q with q|q
    ·rw[decide_eq_true q];rfl
    ·exact absurd q.symm this
theorem wX{a b c:bf}(h1:fP a b=true)(h2:fP b c=true):fP a c=true:=by
 cases a<;>cases b<;>cases c<;>simp only[fP,decide_eq_true_eq,Bool.false_eq_true]at h1 h2 ⊢
 ·lia
 ·exact List.lt_trans h1 h2
theorem lT:∀a:List bf,dz a a=false
 |[]=>rfl
 |x::r=>by simp[dz,lT r]
theorem jm:∀(a b:List bf),a≠b->dz a b=!dz b a
 |[],[],h=>absurd rfl h
 |[],_::_,_=>rfl
 |_::_,[],_=>rfl
 |x::r,y::t,h=>by
  by_cases e:x=y
  ·subst e
   simp only[dz,if_true];exact jm r t fun z=>h (by rw[z])
  ·simp only[dz]
   rw[if_neg e,if_neg (Ne.symm e)];exact uK x y e
theorem jn:∀{a b c:List bf},dz a b=true->dz b c=true->dz a c=true
 |[],[],_,h,_=>by cases h
 |[],_::_,[],_,h=>by cases h
 |[],_::_,_::_,_,_=>rfl
 |_::_,[],_,h,_=>by cases h
 |_::_,_::_,[],_,h=>by cases h
 |x::r,y::t,z::u,h1,h2=>by
  simp only[dz]at h1 h2 ⊢;by_cases e:x=y
  ·subst e
   rw[if_pos rfl]at h1;by_cases e2:x=z
   ·subst e2
    rw[if_pos rfl]at h2 ⊢;exact jn h1 h2
   ·rw[if_neg e2]at h2 ⊢
    exact h2
  ·rw[if_neg e]at h1
   by_cases e2:y=z
   ·subst e2
    rw[if_neg e];exact h1
   ·rw[if_neg e2]at h2
    have h3:=wX h1 h2;by_cases e3:x=z
    ·subst e3
     rw[uL]at h3;cases h3
    ·rw[if_neg e3];exact h3
def qW(a b:List bf):Prop:=dz b a=false
theorem qg{a b:List bf}(h1:qW a b)(h2:qW b a):a=b:=by
 by_cases e:a=b
 ·exact e
 ·have:=jm a b e
  unfold qW at h1 h2;rw[h1,h2]at this;cases this
theorem Cj{a b c:List bf}(h1:qW a b)(h2:qW b c):qW a c:=by
 unfold qW at *;cases h:dz c a with
 |false=>rfl
 |true=>
  by_cases e:b=c
  ·subst e;rw[h]at h1;cases h1
  ·have:=jm b c e
   rw[h2]at this;rw[jn (by simpa using this) h]at h1;cases h1
theorem jV(x:List bf):∀l,(uS x l).Perm (x::l)
 |[]=>.refl _
 |y::r=>by
  unfold uS;split
  ·exact((jV x r).cons y).trans (.swap x y r)
  ·exact .refl _
theorem gY:∀l,(b8 l).Perm l
 |[]=>.refl _
 |x::r=>(jV x _).trans ((gY r).cons x)
theorem tF(x:List bf):∀l,l.Pairwise qW->(uS x l).Pairwise qW
 |[],_=>List.pairwise_singleton _ _
 |y::r,h=>by
  unfold uS;obtain⟨h1,h2⟩:=List.pairwise_cons.mp h;split
  ·rename_i q
   refine List.pairwise_cons.mpr ⟨fun z hz=>?_,tF x r h2⟩
   rcases List.mem_cons.mp ((jV x r).mem_iff.mp hz)with rfl|hz
   ·unfold qW
    cases e:dz z y with
    |false=>rfl
    |true=>
     have:=jn q e;rw[lT]at this;cases this
   ·exact h1 z hz
  ·rename_i q
   have q:qW x y:=by simpa[qW]using q
   refine List.pairwise_cons.mpr ⟨fun z hz=>?_,h⟩
   rcases List.mem_cons.mp hz with rfl|hz
   ·exact q
   ·exact Cj q (h1 z hz)
theorem jU:∀l,(b8 l).Pairwise qW
 |[]=>.nil
 |x::r=>tF x _ (jU r)
theorem kg:∀{a b:List (List bf)},a.Perm b->a.Pairwise qW->b.Pairwise qW->a=b
 |[],b,p,_,_=>(List.nil_perm.mp p).symm
 |x::r,[],p,_,_=>absurd p.length_eq (by simp)
 |x::r,y::t,p,h1,h2=>by
  obtain⟨a1,a2⟩:=List.pairwise_cons.mp h1;obtain⟨b1,b2⟩:=List.pairwise_cons.mp h2;have e:x=y:=by
   rcases List.mem_cons.mp (p.mem_iff.mp (List.mem_cons_self (a:=x) (l:=r)))with e|e
   ·exact e
   ·rcases List.mem_cons.mp (p.mem_iff.mpr (List.mem_cons_self (a:=y) (l:=t)))with f|f
    ·exact f.symm
    ·exact qg (a1 y f) (b1 x e)
  subst e;rw[kg ((List.perm_cons x).mp p) a2 b2]
theorem uO{a b:List (List bf)}(p:a.Perm b)(h:a.Pairwise qW):a=b8 b:=kg (p.trans (gY b).symm) h (jU b)
section
variable{prog:Program}{w:World}{A:Around}{E:Value->Shared->Prop}{s:Shared}
def GX:bf->Value->Prop
 |.inl i,v=>∃t,v=.int i t
 |.inr x,v=>∃t,v=.str x t
inductive KVals:List bf->List Value->Prop
 |nil:KVals [] []
 |cons {k v ks vs}:GX k v->KVals ks vs->KVals (k::ks) (v::vs)
theorem KVals.one:∀{k k':List bf} {vs:List Value},KVals k vs->KVals k' vs->k=k'
 |_,_,_,.nil,.nil=>rfl
 |_,_,_,.cons (k:=a) h1 r1,.cons (k:=b) h2 r2=>by
  have e:=KVals.one r1 r2;subst e;cases a<;>cases b<;>obtain⟨t,rfl⟩:=h1<;>obtain⟨u,h2⟩:=h2<;>first|cases h2;rfl|cases h2
noncomputable def g7:List bf->List bf->Bool
 |a::r,b::t=>if a=b then g7 r t else Df a==Df b
 |_,_=>true
theorem wQ{fin:Bool}{Q:Bool->Shared->Prop}:∀{k1 k2:List bf} {xs ys:List Value} {i:Nat},KVals k1 xs->KVals k2 ys->g7 k1 k2=true->fin=decide (xs.length<ys.length)->Q (dz k1 k2) s->PySem.W.KatLex prog w A true fin Q (xs.zip ys) i s
 |_,_,_,_,i,.nil,.nil,_,hf,q=>by
  subst hf;exact PySem.W.kat_nil q
 |_,_,_,_,i,.nil,.cons h r,_,hf,q=>by
  subst hf;exact PySem.W.kat_nil (by simpa[dz]using q)
 |_,_,_,_,i,.cons h r,.nil,_,hf,q=>by
  subst hf;rw[List.zip_nil_right];exact PySem.W.kat_nil (by simpa[dz]using q)
 |_,_,_,_,i,.cons (k:=a) (vs:=xs) h1 r1,.cons (k:=b) (vs:=ys) h2 r2,hc,hf,q=>by
  have hf:fin=decide (xs.length<ys.length):=by rw[hf];simp
  rw[List.zip_cons_cons];refine PySem.W.kat_cons ?_;simp only[dz,g7]at q hc;by_cases e:a=b
  ·subst e
   rw[if_pos rfl]at q hc;have go:=wQ (i:=i+1) r1 r2 hc hf q;cases a with
   |inl a=>
    obtain⟨t,rfl⟩:=h1;obtain⟨u,rfl⟩:=h2;refine SeqAt.EqAt.int_int a t a u _ _ _ _ ?_;rw[beq_self_eq_true];exact PySem.W.kat_yes go
   |inr a=>
    obtain⟨t,rfl⟩:=h1;obtain⟨u,rfl⟩:=h2;refine SeqAt.EqAt.str_str a t a u _ _ _ _ ?_;rw[beq_self_eq_true];exact PySem.W.kat_yes go
  ·rw[if_neg e]at q hc
   cases a with
   |inl a=>
    cases b with
    |inr b=>cases hc
    |inl b=>
     obtain⟨t,rfl⟩:=h1;obtain⟨u,rfl⟩:=h2;refine SeqAt.EqAt.int_int a t b u _ _ _ _ ?_;rw[beq_eq_false_iff_ne.mpr fun z=>e (by rw[z])]
     refine PySem.W.kat_no ?_;cases i with
     |zero=>exact oneLt_int q
     |succ i=>exact PySem.W.kat_one _ _ (lt_int q)
   |inr a=>
    cases b with
    |inl b=>cases hc
    |inr b=>
     obtain⟨t,rfl⟩:=h1;obtain⟨u,rfl⟩:=h2;refine SeqAt.EqAt.str_str a t b u _ _ _ _ ?_;rw[beq_eq_false_iff_ne.mpr fun z=>e (by rw[z])]
     refine PySem.W.kat_no ?_;cases i with
     |zero=>exact oneLt_str q
     |succ i=>exact PySem.W.kat_one _ _ (lt_str q)
def KAt(h:Heap)(v:Value)(k:List bf):Prop:=∃b o xs n,v=.ref b/\h.get? b=some o/\o.cls=.type "tuple" /\ o.data=.seq xs n/\KVals k xs.toList
theorem KAt.one{h:Heap}{v:Value}{k k':List bf}(h1:KAt h v k)(h2:KAt h v k'):k=k':=by
 obtain⟨b,o,xs,n,rfl,e1,e2,e3,e4⟩:=h1;obtain⟨b',o',xs',n',q,f1,f2,f3,f4⟩:=h2;cases q;rw[e1]at f1;cases f1;rw[e3]at f3;cases f3;exact e4.one f4
theorem KAt.keeps{h h':Heap}{v:Value}{k:List bf}(x:KAt h v k)(kp:∀b o,o.cls=.type "tuple" -> h.get? b=some o->h'.get? b=some o):KAt h' v k:=by
 obtain⟨b,o,xs,n,rfl,e1,e2,e3,e4⟩:=x;exact⟨b,o,xs,n,rfl,kp b o e2 e1,e2,e3,e4⟩
theorem Bh{x y:Value}{k1 k2:List bf}{Q:Bool->Shared->Prop}(h1:KAt s.heap x k1)(h2:KAt s.heap y k2)(hc:g7 k1 k2=true)(q:Q (dz k1 k2) s):wpAny (model prog w) A (keyLt' (tuples' true) x y) Q E s:=by
 obtain⟨b,o,xs,n,rfl,e1,e2,e3,e4⟩:=h1;obtain⟨b',o',xs',n',rfl,f1,f2,f3,f4⟩:=h2;exact PySem.W.kat_lt e1 e3 f1 f3 (wQ e4 f4 hc (by simp) q)
noncomputable def gB(ks:List (List bf))(k:List bf):Int:=((ks.filter fun x=>dz x k).length:Nat)
theorem jW{α:Type}{p q:α -> Bool}:∀(l:List α),(∀x∈l,p x=true->q x=true)->(l.filter p).length<=(l.filter q).length
 |[],_=>Nat.le_refl _
 |x::l,h=>by
  have ih:=jW l fun y hy=>h y (List.mem_cons_of_mem _ hy)
  have hx:=h x List.mem_cons_self;rw[List.filter_cons,List.filter_cons];cases e:p x with
  |false=>
   rw[if_neg (by simp)];split
   ·rw[List.length_cons];lia
   ·exact ih
  |true=>
   rw[if_pos rfl,if_pos (hx e),List.length_cons,List.length_cons];lia
theorem nM{α:Type}{p q:α -> Bool}:∀(l:List α),(∀x∈l,p x=true->q x=true)->(∃x∈l,p x=false/\q x=true)->(l.filter p).length<(l.filter q).length
 |[],_,⟨x,hx,_⟩=>by cases hx
 |x::l,h,⟨y,hy,h1,h2⟩=>by
  have ih:=jW l fun y hy=>h y (List.mem_cons_of_mem _ hy)
  have hx:=h x List.mem_cons_self;rw[List.filter_cons,List.filter_cons];rcases List.mem_cons.mp hy with rfl|hy
  ·rw[if_neg (by rw[h1];simp),if_pos h2,List.length_cons];lia
  ·have ih:=nM l (fun y hy=>h y (List.mem_cons_of_mem _ hy)) ⟨y,hy,h1,h2⟩
   cases e:p x with
   |false=>
    rw[if_neg (by simp)];split
    ·rw[List.length_cons];lia
    ·exact ih
   |true=>
    rw[if_pos rfl,if_pos (hx e),List.length_cons,List.length_cons];lia
theorem wd{ks:List (List bf)}{x y:List bf}(hx:x∈ks):decide (gB ks x<gB ks y)=dz x y:=by
 unfold gB;cases e:dz x y with
 |true=>
  refine decide_eq_true ?_;exact Int.ofNat_lt.mpr (nM ks (fun z _ hz=>jn hz e) ⟨x,hx,lT x,e⟩)
 |false=>
  refine decide_eq_false ?_;have:=jW (p:=fun z=>dz z y) (q:=fun z=>dz z x) ks fun z _ hz=>by
   by_cases q:y=x
   ·subst q;exact hz
   ·have:=jm y x q
    rw[e]at this;exact jn hz this
  lia
theorem ql:∀{a b:List bf},a.all Df=true->b.all Df=true->g7 a b=true
 |[],_,_,_=>by simp[g7]
 |_::_,[],_,_=>by simp[g7]
 |x::r,y::t,h1,h2=>by
  simp only[List.all_cons,Bool.and_eq_true]at h1 h2;simp only[g7];split
  ·exact ql h1.2 h2.2
  ·rw[h1.1,h2.1];rfl
theorem Ao{a b:List bf}(h1:pi a=true)(h2:pi b=true):g7 a b=true:=by
 match a,b,h1,h2 with
 |.inl x::r,.inl y::t,h1,h2=>
  simp only[g7];split
  ·exact ql h1 h2
  ·rfl
inductive KAts (h:Heap):List Value->List (List bf)->Prop
 |nil:KAts h [] []
 |cons {v k vs ks}:KAt h v k->KAts h vs ks->KAts h (v::vs) (k::ks)
theorem KAts.keeps{h h':Heap}(kp:∀b o,o.cls=.type "tuple" -> h.get? b=some o->h'.get? b=some o):∀{vs:List Value} {ks:List (List bf)},KAts h vs ks->KAts h' vs ks
 |_,_,.nil=>.nil
 |_,_,.cons x r=>.cons (x.keeps kp) (KAts.keeps kp r)
noncomputable def C7:Bool->Value
 |true=>.type "str"
 |false=>.type "int"
theorem KAts.tups{h:Heap}{b:Bool}:∀{vs:List Value} {ks:List (List bf)},KAts h vs ks->(∀k∈ks,(if b then Az k else pi k)=true)->∃fs:List Value,fs.length=vs.length/\PySem.W.KatTups h vs fs/\∀v∈fs,∀M:Model,PySem.W.Looks M h (typeOf v) (C7 b)
 |_,_,.nil,_=>⟨[],rfl,trivial,fun v h=>by cases h⟩
 |_,_,.cons (k:=k) x r,hk=>by
  obtain⟨fs,h1,h2,h3⟩:=KAts.tups r fun k' m=>hk k' (List.mem_cons_of_mem _ m)
  obtain⟨a,o,xs,n,rfl,e1,e2,e3,e4⟩:=x;have hk:=hk k List.mem_cons_self;obtain⟨f,ef,lf⟩:∃f,xs[0]? = some f/\∀M:Model,PySem.W.Looks M h (typeOf f) (C7 b):=by
   cases b with
   |true=>
    match k,hk,e4 with
    |.inr y::t,_,e4=>
     generalize exs:xs.toList=l at e4;cases e4 with
     |cons hv hr=>
      obtain⟨u,rfl⟩:=hv;refine⟨_,by rw[<-Array.getElem?_toList,exs];rfl,fun M=>PySem.W.Looks.of_pure rfl⟩
   |false=>
    match k,hk,e4 with
    |.inl y::t,_,e4=>
     generalize exs:xs.toList=l at e4;cases e4 with
     |cons hv hr=>
      obtain⟨u,rfl⟩:=hv;refine⟨_,by rw[<-Array.getElem?_toList,exs];rfl,fun M=>PySem.W.Looks.of_pure rfl⟩
  refine⟨f::fs,by rw[List.length_cons,List.length_cons,h1],⟨⟨a,o,xs,n,rfl,e1,e2,e3,ef⟩,h2⟩,fun v hv=>?_⟩
  rcases List.mem_cons.mp hv with rfl|hv
  ·exact lf
  ·exact h3 v hv
end
section
variable{X:Cx}
noncomputable def rR:bf->V
 |.inl i=>.int i
 |.inr x=>.str x
noncomputable def E4:Value->V
 |.ref b=>.ref b
 |_=>.non
inductive KeyVs (K:Fg) (H:Hp):List V->List (List bf)->Prop
 |nil:KeyVs K H [] []
 |cons {b k vs ks}:SqT K H b (k.map rR)->KeyVs K H vs ks->KeyVs K H (.ref b::vs) (k::ks)
theorem lU:∀{k:List bf} {us:List Value},Vals (k.map rR) us->KVals k us
 |[],_,.nil=>.nil
 |.inl i::k,_,.cons h r=>.cons h (lU r)
 |.inr x::k,_,.cons h r=>.cons h (lU r)
theorem wY{pins:List (Addr×Obj)}{σ:St}{H:Hp}{s:Shared}(I:Inv X pins σ H s){b:Addr}{k:List bf}(h:SqT X.K H b (k.map rR)):KAt s.heap (.ref b) k:=by
 obtain⟨its,r,⟨o,e1,e2,n,e3⟩,z⟩:=I.tuple h;exact⟨b,o,its.toArray,n,rfl,e1,e2,e3,by simpa using lU r⟩
theorem qi{pins:List (Addr×Obj)}{σ:St}{Z H:Hp}{s:Shared}(I:Inv X pins σ H s)(zh:Same Z H):∀{vs:List V} {ks:List (List bf)} {its:List Value},KeyVs X.K Z vs ks->Vals vs its->KAts s.heap its ks/\∀u∈its,∃(b:Addr) (k:List bf),u=.ref b/\SqT X.K Z b (k.map rR)
 |_,_,_,.nil,.nil=>⟨.nil,fun u h=>by cases h⟩
 |_,_,_,.cons (b:=b) (k:=k) h r,.cons hv hr=>by
  obtain⟨a2,a3⟩:=qi I zh r hr;have hv:=hv;cases hv;refine⟨.cons (wY I (SqT.same h zh)) a2,fun u hu=>?_⟩
  rcases List.mem_cons.mp hu with rfl|hu
  ·exact⟨b,k,rfl,h⟩
  ·exact a3 u hu
theorem lV{pins:List (Addr×Obj)}{σ:St}{Z H:Hp}{s:Shared}(I:Inv X pins σ H s)(zh:Same Z H):∀{out:List Value} {ks:List (List bf)},KAts s.heap out ks->(∀u∈out,∃(b:Addr) (k:List bf),u=.ref b/\SqT X.K Z b (k.map rR))->KeyVs X.K Z (out.map E4) ks/\Vals (out.map E4) out
 |_,_,.nil,_=>⟨.nil,.nil⟩
 |_,_,.cons h r,hs=>by
  obtain⟨a1,a2⟩:=lV I zh r fun u hu=>hs u (List.mem_cons_of_mem _ hu)
  obtain⟨b,k',rfl,q⟩:=hs _ List.mem_cons_self;have:=h.one (wY I (SqT.same q zh));subst this;exact⟨.cons q a1,.cons rfl a2⟩
theorem ny{K:Fg}{Z:Hp}:∀{us:List V} {ds:List D} {k:List bf},Reps K Z us ds->wV ds=some k->us=k.map rR
 |_,_,_,.nil,h=>by cases h;rfl
 |_,d::ds,_,.cons r rs,h=>by
  obtain⟨x,e1,h⟩:=bind_some h;obtain⟨k',e2,h⟩:=bind_some h;cases h;rw[List.map_cons,<-ny rs e2];cases r<;>cases e1<;>rfl
theorem jS{K:Fg}{Z:Hp}:∀{vs:List V} {ds:List D} {ks:List (List bf)},Reps K Z vs ds->nB ds=some ks->KeyVs K Z vs ks
 |_,_,_,.nil,h=>by cases h;exact .nil
 |_,d::ds,_,.cons r rs,h=>by
  obtain⟨k,e1,h⟩:=bind_some h;obtain⟨k',e2,h⟩:=bind_some h;cases h;cases r with
  |tup sq r2=>
   have e:=ny r2 e1;subst e;exact .cons sq (jS rs e2)
  |_=>cases e1
theorem jN{K:Fg}{Z:Hp}:∀k:List bf,Reps K Z (k.map rR) (k.map nD)
 |[]=>.nil
 |.inl i::k=>.cons (.int i) (jN k)
 |.inr x::k=>.cons (.str x) (jN k)
theorem nA{K:Fg}{Z:Hp}:∀{vs:List V} {ks:List (List bf)},KeyVs K Z vs ks->Reps K Z vs (ks.map fun k=>.tuple (k.map nD))
 |_,_,.nil=>.nil
 |_,_,.cons h r=>.cons (.tup h (jN _)) (nA r)
variable{e:Expr}{p pos:Pos}{te:TE}{f:Dv->Option D}
end
section
variable{prog:Program}{w:World}{A:Around}{E:Value->Shared->Prop}{s:Shared}
theorem lW{h:Heap}:∀{vs:List Value} {ks:List (List bf)},KAts h vs ks->ks.length=vs.length
 |_,_,.nil=>rfl
 |_,_,.cons _ r=>by rw[List.length_cons,List.length_cons,lW r]
theorem iv{h:Heap}:∀{vs:List Value} {ks:List (List bf)} {i:Nat},KAts h vs ks->i<vs.length->KAt h (vs.getD i Value.none) (ks.getD i [])
 |_,_,i,.nil,hi=>absurd hi (Nat.not_lt_zero _)
 |_,_,0,.cons x r,hi=>x
 |_,_,i+1,.cons x r,hi=>by
  have:=iv (i:=i) r (Nat.lt_of_succ_lt_succ hi);exact this
theorem nG{h:Heap}{f:Nat->Value}{g:Nat->List bf}:∀(l:List Nat),(∀i∈l,KAt h (f i) (g i))->KAts h (l.map f) (l.map g)
 |[],_=>.nil
 |i::l,H=>.cons (H i List.mem_cons_self) (nG l fun j hj=>H j (List.mem_cons_of_mem _ hj))
theorem lK{α:Type}(l:List α)(d:α):(List.range l.length).map (fun i=>l.getD i d)=l:=by
 apply List.ext_getElem?;intro k;by_cases hk:k<l.length
 ·simp[hk,List.getD_eq_getElem?_getD]
 ·simp[hk]
theorem zM{α:Type}{l:List α}{i:Nat}{d:α}(hi:i<l.length):l.getD i d∈l:=by
 rw[List.getD_eq_getElem?_getD,List.getElem?_eq_getElem hi];exact List.getElem_mem hi
end
theorem kP(a:Value):argsOk "list.sort" ⟨[a],[("reverse",.bool true)]⟩:=by unfold argsOk;kernel_rfl
theorem pg(a:Value):argsOk "sorted" ⟨[a],[("reverse",.bool true)]⟩:=by unfold argsOk;kernel_rfl
theorem mV(a:Addr):Builtin.«list.sort» ⟨[.ref a],[("reverse",.bool true)]⟩=(do
  let items <-Builtin.List.listItems (.ref a)
  Builtin.List.listUpdate (.ref a) fun _=>#[]
  let before <-seqEpoch a
  let held <-newTuple items.toList
  let keyStore <-newList []
  holding [held,keyStore] do
   rule "list.sort.reverse"
   let kind <-if items.size<2 then pure general' else keyKind' items
   let ((),s) <-(if items.size<2 then pure ()else sortRuns').run (SortSt.mk' kind (items.zip items).reverse #[] 7 none)
   let sorted:=(arrOf s).map (·.2)
   let touched:=(<-seqEpoch a) != before
   Builtin.List.listUpdate (.ref a) fun _=>sorted.reverse
   if let some e:=failedOf s then rule "list.sort.comparison-raised";throw e
   if touched then rule "list.sort.modified";raiseError "ValueError" "list modified during sort"
   ret .none):=rfl
theorem ig{α:Type}:∀l:List α,l.zip l=l.map fun x=>(x,x)
 |[]=>rfl
 |x::l=>by rw[List.zip_cons_cons,ig l];rfl
section
variable{prog:Program}{w:World}{A:Around}{E:Value->Shared->Prop}{s:Shared}
theorem lS{a:Addr}{vs:List Value}{key:Nat->Int}{n:Nat}{P:PySem.Fin->Shared->Prop}(ho:s.heap.get? a=some (seqObj "list" vs.toArray n))(PA:Heap->Prop)(x:PA s.heap)(keeps:∀h h':Heap,PA h->(∀b o,o.cls=.type "tuple" -> h.get? b=some o->h'.get? b=some o)->PA h'){T:Value}(hT2:(T==T)=true)(hT3:(T != Value.type "tuple")=true)(tups:∀h,PA h->∃fs:List Value,fs.length=vs.length/\PySem.W.KatTups h vs fs/\∀v∈fs,∀M:Model,PySem.W.Looks M h (typeOf v) T)
  (ask:∀s':Shared,PA s'.heap->∀i j,i<vs.length->j<vs.length->i≠j->∀C:Bool->Shared->Prop,C (decide (key i<key j)) s'->PySem.W.kas_ask prog w A (tuples' true) vs.reverse i j C s') (hinj:∀i j,i<vs.length->j<vs.length->key i=key j->i=j) (h64:vs.length<64)
  (h:∀p:Array Nat,Pm vs.length p->Up key p vs.length->P (.done (.ret .none)) { s with heap:=sortedHeap s.heap a vs (List.toArray (p.toList.map fun i=>vs.reverse.getD i Value.none)).reverse }) :
  wpAny (model prog w) A (Builtin.«list.sort» ⟨[.ref a],[("reverse",.bool true)]⟩) P E s:=by
 rw[mV];have hlr:vs.reverse.length=vs.length:=List.length_reverse;have hzr:(vs.toArray.zip vs.toArray).reverse=vs.reverse.toArray.zip vs.reverse.toArray:=by
  apply Array.toList_inj.mp;rw[Array.toList_reverse,Array.toList_zip,Array.toList_zip,ig,ig,List.map_reverse]
 have ha:a<s.heap.objs.size:=Heap.lt_size ho;refine wpAny_bind (listItems_at ho rfl ?_);refine wpAny_bind (listUpdate_at ho rfl ?_);obtain⟨e1,ho1⟩:∃e1,(s.heap.update a (Obj.mapSeq fun _=>#[])).get? a=some (seqObj "list" #[] e1):=⟨_,get?_update_seq ho (fun _=>#[])⟩;refine wpAny_bind (seqEpoch_at ho1 rfl ?_);refine wpAny_bind (wpAny_newTuple ?_);refine wpAny_bind (wpAny_newList ?_);refine wpAny_holding (wpAny_bind (wpAny_rule ?_));have ho6:(((s.heap.update a (Obj.mapSeq fun _=>#[])).push (seqObj "tuple" vs.toArray 0)).push (seqObj "list" #[] 0)).get? a=some (seqObj "list" #[] e1):=Heap.get?_push_of_some _ (Heap.get?_push_of_some _ ho1);have kp:∀b o,o.cls=.type "tuple" -> s.heap.get? b=some o->(((s.heap.update a (Obj.mapSeq fun _=>#[])).push (seqObj "tuple" vs.toArray 0)).push (seqObj "list" #[] 0)).get? b=some o:=fun b o hc eo=>by
  have hb:b≠a:=fun z=>by
   subst z;rw[ho]at eo;cases eo;exact absurd hc (by intro z;injection z with z;exact absurd z (by decide))
  exact Heap.get?_push_of_some _ (Heap.get?_push_of_some _ (gW hb eo))
 have x6:=keeps _ _ x kp;show wpAny (model prog w) A _ P E { s with heap:=((s.heap.update a (Obj.mapSeq fun _=>#[])).push (seqObj "tuple" vs.toArray 0)).push (seqObj "list" #[] 0) };dsimp only;have fin:∀p:Array Nat,Pm vs.length p->Up key p vs.length->∀st':SortSt,(arrOf st').map (·.2)=List.toArray (p.toList.map fun i=>vs.reverse.getD i Value.none)->failedOf st'=none ->
   wpAny (model prog w) A (do
    let sorted:=(arrOf st').map (·.2)
    let touched:=(<-seqEpoch a) != e1
    Builtin.List.listUpdate (.ref a) fun _=>sorted.reverse
    if let some e:=failedOf st' then rule "list.sort.comparison-raised";throw e
    if touched then rule "list.sort.modified";raiseError "ValueError" "list modified during sort"
    ret .none) P E { s with heap:=((s.heap.update a (Obj.mapSeq fun _=>#[])).push (seqObj "tuple" vs.toArray 0)).push (seqObj "list" #[] 0) }:=fun p hp hu st' ha' hf=>by
  have hsz:(List.toArray (p.toList.map fun i=>vs.reverse.getD i Value.none)).reverse.size=vs.length:=by rw[Array.size_reverse,List.size_toArray,List.length_map,Array.length_toList,hp.size]
  refine wpAny_bind (seqEpoch_at ho6 rfl ?_);refine wpAny_bind (listUpdate_at ho6 rfl ?_ (hsz2:=by rw[ha',hsz,sizeLine_eq];lia));rw[hf,ha'];simp only[bne_self_eq_false,Bool.false_eq_true,if_false];exact wpAny_pure (h p hp hu)
 by_cases h2:vs.toArray.size<2
 ·rw[if_pos h2,if_pos h2]
  refine wpAny_bind (wpAny_pure ?_);rw[StateT.run_pure];refine wpAny_bind (wpAny_pure ?_);refine fin (List.toArray (List.range vs.length)) ⟨List.Perm.refl _⟩ (fun i j hij hj=>by simp at h2;lia) (SortSt.mk' general' (vs.toArray.zip vs.toArray).reverse #[] 7 none) ?_ rfl;apply Array.toList_inj.mp;show((vs.toArray.zip vs.toArray).reverse.map (·.2)).toList=_;rw[hzr,Array.toList_map,Array.toList_zip,ig,List.map_map,<-hlr];show vs.reverse.map (fun x=>x)=(List.range vs.reverse.length).map fun i=>vs.reverse.getD i Value.none
  rw[lK,List.map_id']
 ·rw[if_neg h2,if_neg h2]
  have hn2:2<=vs.length:=by simp at h2;lia
  obtain⟨fs,f1,f2,f3⟩:=tups _ x6;rw[hzr];refine wpAny_bind (PySem.W.kat_kind (s:={ s with heap:=((s.heap.update a (Obj.mapSeq fun _=>#[])).push (seqObj "tuple" vs.toArray 0)).push (seqObj "list" #[] 0) }) (T:=T) f2 (by lia) (fun v hv=>f3 v hv _) hT2 ?_)
  ·rw[hT3]
   refine wpAny_bind (wpAny_mono (PySem.W.kat_run (s:={ s with heap:=((s.heap.update a (Obj.mapSeq fun _=>#[])).push (seqObj "tuple" vs.toArray 0)).push (seqObj "list" #[] 0) })
    (Q:=fun st' s'=>∃p:Array Nat,Pm vs.length p/\Up key p vs.length/\(arrOf st').map (·.2)=List.toArray (p.toList.map fun i=>vs.reverse.getD i Value.none)/\failedOf st'=none/\s'={ s with heap:=((s.heap.update a (Obj.mapSeq fun _=>#[])).push (seqObj "tuple" vs.toArray 0)).push (seqObj "list" #[] 0) })
    (G:=fun p s'=>Pm vs.length p/\Up key p vs.length/\s'={ s with heap:=((s.heap.update a (Obj.mapSeq fun _=>#[])).push (seqObj "tuple" vs.toArray 0)).push (seqObj "list" #[] 0) })
    (ks:=vs.reverse) (vs:=vs.reverse) rfl (by rw[hlr];exact hn2) (by rw[hlr];exact h64) (fun p st' s' a1 a2 a3 a4=>⟨p,a4.1,a4.2.1,PySem.W.kat_snds rfl a2,a3,a4.2.2⟩) ?_) ?_ fun _ _ e=>e)
   ·rw[hlr]
    exact yE hinj (fun i j hi hj hij C hC=>ask _ x6 i j hi hj hij C hC) hn2 fun p hp hu=>⟨hp,hu,rfl⟩
   ·rintro⟨⟨⟩,st'⟩ s' ⟨p,hp,hu,har,hf,rfl⟩
    exact fin p hp hu st' har hf
end
section
variable{prog:Program}{w:World}{A:Around}{E:Value->Shared->Prop}{s:Shared}
theorem qk{h:Heap}{vs:List Value}{ks:List (List bf)}(x:KAts h vs ks):KAts h vs.reverse ks.reverse:=by
 have app:∀{a b:List Value} {c d:List (List bf)},KAts h a c->KAts h b d->KAts h (a++b) (c++d):=fun{a b c d} p q=>by
  induction p with
  |nil=>exact q
  |cons e _ ih=>exact .cons e ih
 induction x with
 |nil=>exact .nil
 |cons e r ih=>
  rw[List.reverse_cons,List.reverse_cons];exact app ih (.cons e .nil)
theorem kH{a:Addr}{vs:List Value}{ks:List (List bf)}{n:Nat}{P:PySem.Fin->Shared->Prop}(ho:s.heap.get? a=some (seqObj "list" vs.toArray n))(x:KAts s.heap vs ks)(hk:ks.all pi=true)(nd:ks.Nodup)(h64:vs.length<64)
  (h:∀out:List Value,out.Perm vs->KAts s.heap out (b8 ks).reverse->P (.done (.ret .none)) { s with heap:=sortedHeap s.heap a vs out.toArray }) :
  wpAny (model prog w) A (Builtin.«list.sort» ⟨[.ref a],[("reverse",.bool true)]⟩) P E s:=by
 have hc:∀x∈ks,∀y∈ks,g7 x y=true:=fun x hx y hy=>Ao (List.all_eq_true.mp hk x hx) (List.all_eq_true.mp hk y hy)
 have hb:∀k∈ks,(if false=true then Az k else pi k)=true:=fun k m=>List.all_eq_true.mp hk k m
 have xr:=qk x;have ndr:ks.reverse.Nodup:=(List.reverse_perm ks).nodup_iff.mpr nd;have lr:vs.reverse.length=vs.length:=List.length_reverse;have ln:=lW xr;have kin:∀{i},i<vs.length->ks.reverse.getD i []∈ks:=fun hi=>List.mem_reverse.mp (zM (by lia))
 have rk:∀{i j},i<vs.length->decide (gB ks (ks.reverse.getD i [])<gB ks (ks.reverse.getD j []))=dz (ks.reverse.getD i []) (ks.reverse.getD j []):=fun hi=>wd (kin hi)
 refine lS (key:=fun i=>gB ks (ks.reverse.getD i [])) ho (fun h'=>∀(b:Addr) (o:Obj),o.cls=.type "tuple" -> s.heap.get? b=some o->h'.get? b=some o) (fun _ _ _ e=>e)
  (fun h1 h2 (p:∀(b:Addr) (o:Obj),o.cls=.type "tuple" -> s.heap.get? b=some o->h1.get? b=some o) kp b o (ec:o.cls=.type "tuple") e=>kp b o ec (p b o ec e)) (T:=C7 false) (by decide) (by decide) (fun h' kp=>(x.keeps kp).tups (b:=false) hb)
  (fun s' kp i j hi hj hij C hC=>?_) (fun i j hi hj e=>?_) h64 fun p hp hu=>?_
 ·have hC:C (decide (gB ks (ks.reverse.getD i [])<gB ks (ks.reverse.getD j []))) s':=hC
  rw[rk hi]at hC;exact Bh ((iv xr (by lia)).keeps kp) ((iv xr (by lia)).keeps kp) (hc _ (kin hi) _ (kin hj)) hC
 ·have e:gB ks (ks.reverse.getD i [])=gB ks (ks.reverse.getD j []):=e
  have e1:=rk (j:=j) hi;have e2:=rk (j:=i) hj;rw[decide_eq_false (by lia)]at e1 e2;have q:ks.reverse.getD i []=ks.reverse.getD j []:=qg e2.symm e1.symm;rw[List.getD_eq_getElem?_getD,List.getD_eq_getElem?_getD,List.getElem?_eq_getElem (by lia:i<ks.reverse.length),List.getElem?_eq_getElem (by lia:j<ks.reverse.length)]at q;exact(List.getElem_inj ndr).mp q
 ·have pm:=hp.perm
  have m:∀i∈p.toList,i<vs.length:=fun i hi=>List.mem_range.mp (pm.mem_iff.mp hi)
  have oe:(List.toArray (p.toList.map fun i=>vs.reverse.getD i Value.none)).reverse=(p.toList.map fun i=>vs.reverse.getD i Value.none).reverse.toArray:=by simp
  rw[oe];refine h _ ?_ ?_
  ·have q:=pm.map fun i=>vs.reverse.getD i Value.none
   rw[<-lr,lK]at q;exact(List.reverse_perm _).trans (q.trans (List.reverse_perm vs))
  ·have ko:=nG (h:=s.heap) (f:=fun i=>vs.reverse.getD i Value.none) (g:=fun i=>ks.reverse.getD i []) p.toList fun i hi=>iv xr (by have:=m i hi;lia)
   have kp:=pm.map fun i=>ks.reverse.getD i []
   rw[<-lr,<-ln,lK]at kp;have e:p.toList.map (fun i=>ks.reverse.getD i [])=b8 ks:=by
    refine uO (kp.trans (List.reverse_perm ks)) (List.pairwise_map.mpr (List.pairwise_iff_getElem.mpr fun i j hi hj hij=>?_));have hz:=hp.size;have hi':i<p.size:=by simpa using hi
    have hj':j<p.size:=by simpa using hj
    have u:=hu i j hij (by lia);have g1:p.getD i 0=p.toList[i]:=by simp[Array.getD,hi']
    have g2:p.getD j 0=p.toList[j]:=by simp[Array.getD,hj']
    have u:gB ks (ks.reverse.getD (p.getD i 0) [])<gB ks (ks.reverse.getD (p.getD j 0) []):=u;rw[g1,g2]at u;have q:=rk (j:=p.toList[i]) (m _ (List.getElem_mem hj));rw[decide_eq_false (by lia)]at q;exact q.symm
   rw[e]at ko;exact qk ko
end
noncomputable def lF(d:D):Option D:=(eY d).bind fun ds=>(nB ds).bind fun ks=>if ks.all pi=true/\ks.Nodup/\ks.length<64 then some (.list ((b8 ks).reverse.map fun k=>.tuple (k.map nD)))else none
section
variable{X:Cx}
theorem vS{pins:List (Addr×Obj)}{σ:St}{H:Hp}{s:Shared}{a:Addr}{vs:List V}{Q:VK}{Z:Hp}{ks:List (List bf)}(I:Inv X pins σ H s)(zh:Same Z H)(hs:SqL X.K H a vs\/SqT X.K H a vs)(kv:KeyVs X.K Z vs ks)(ok:ks.all pi=true)(nd:ks.Nodup)(h64:ks.length<64)(q:∀vs',KeyVs X.K Z vs' (b8 ks).reverse->∀l,H l=none->Q (.ref l) (upd H l (.lst vs'))):
  wpAny (model X.prog X.w) X.A (call (.builtin "sorted") [.ref a] [("reverse",.bool true)]) (EP X pins σ Q) X.xe s:=by
 obtain⟨its,rv,T,o,n,hT,e1,e2,e3,hz⟩:∃(its:List Value),Vals vs its/\∃(T:String) (o:Obj) (n:Nat),(T = "list" \/ T = "tuple")/\s.heap.get? a=some o/\o.cls=.type T/\o.data=.seq its.toArray n/\its.length<=sizeLine:=by
  rcases hs with hs|hs
  ·obtain⟨its,r,⟨o,n,e1,e2,e3,e4⟩,z⟩:=I.list hs
   exact⟨its,r,"list",o,n,.inl rfl,e1,e2,e4,by rw[<-r.length];exact z⟩
  ·obtain⟨its,r,⟨o,e1,e2,n,e3⟩,z⟩:=I.tuple hs
   exact⟨its,r,"tuple",o,n,.inr rfl,e1,e2,e3,by rw[<-r.length];exact z⟩
 refine call_function_entry_kw kind_sorted plain_sorted entry_sorted (pg _) ?_;unfold Builtin.«sorted»;refine wpAny_bind (m:=checkCount "sorted" 1 1 _) (wpAny_pure ?_);refine wpAny_bind (wpAny_collect_seq a hT e1 e2 e3 (fun h' hk'=>?_) (by simpa using hz));show wpAny _ _ (newList its >>= _) _ _ { s with heap:=h' };refine wpAny_bind (wpAny_newList ?_ hz);have hoL:(h'.push (seqObj "list" its.toArray 0)).get? h'.objs.size=some (seqObj "list" its.toArray 0):=Heap.get?_push_size _ rfl;have I1:Inv X pins σ H { s with heap:=h' }:=I.kept (t':=s.toks) hk';have I2:Inv X pins σ H { s with heap:=h'.push (seqObj "list" its.toArray 0) }:=I1.kept (t':=s.toks) fun b o eo=>Heap.get?_push_of_some _ eo
 obtain⟨v2,v3⟩:=qi I2 zh kv rv;have hln:its.length=ks.length:=(lW v2).symm;refine wpAny_bind (wpAny_holding (wpAny_call_entry_kw slot_list_sort ⟨_,hoL,rfl⟩ entry_list_sort (kH hoL v2 ok nd (by lia) fun out pm ka=>⟨_,rfl,?_⟩) (kP _)))
 refine wpAny_pure ⟨_,rfl,?_⟩;obtain⟨b1,b2⟩:=lV I2 zh ka fun u hu=>v3 u (pm.mem_iff.mp hu)
 have kp:∀b o,h'.get? b=some o->(sortedHeap (h'.push (seqObj "list" its.toArray 0)) h'.objs.size its out.toArray).get? b=some o:=fun b o eo=>by
  have hb:b≠h'.objs.size:=Nat.ne_of_lt (Heap.lt_size eo);exact gW hb (Heap.get?_push_of_some _ (Heap.get?_push_of_some _ (gW hb (Heap.get?_push_of_some _ eo))))
 obtain⟨e1,ho1⟩:∃e1,((h'.push (seqObj "list" its.toArray 0)).update h'.objs.size (Obj.mapSeq fun _=>#[])).get? h'.objs.size=some (seqObj "list" #[] e1):=⟨_,get?_update_seq hoL (fun _=>#[])⟩;have ho2:=Heap.get?_push_of_some (seqObj "list" #[] 0) (Heap.get?_push_of_some (seqObj "tuple" its.toArray 0) ho1);have ho3:=get?_update_seq ho2 (fun _=>out.toArray);have L:=I1.laid (h':=sortedHeap (h'.push (seqObj "list" its.toArray 0)) h'.objs.size its out.toArray) (a:=h'.objs.size) (o:=.lst (out.map E4)) (t':=s.toks) kp (Nat.le_refl _)
  (show ObjOk X.prog X.w _ _ _ (.lst (out.map E4))from ⟨by rw[List.length_map,pm.length_eq];exact hz,out,_,b2,ho3⟩)
 exact⟨.ref h'.objs.size,_,L,rfl,q _ b1 _ (I1.hok.fresh (Nat.le_refl _))⟩
variable{e:Expr}{p pos kp kc:Pos}{n:Nat}{f:Dv->Option D}
theorem xi(hg:Gl X "sorted")(hm:X.mg "sorted" = none)(ha:EV X e f)(he:starEach [e] X.env=(false,eval e X.env)::starEach [] X.env:=by rfl)(hpl:(backTo pos (starEach [e] X.env)).any (·.1)=false:=by rfl):
  EV X (.Call (.Name "sorted" p) [e] [⟨some "reverse",.Constant (.bool true) 0 kc,kp⟩] pos) (o1 f lF):=by
 intro pins s σ H Q I h;refine wpAny_Call_Name_kw (oT I hg hm (u:=.builtin "sorted") (by decide +kernel) ?_ (by decide) (by decide));refine PyProof.Rows.callWith_kw (dF (iu ha lN he pos pins s σ H (fun xs H1=>∃(a:Addr) (vs:List V) (Z:Hp) (ks:List (List bf)),xs=[V.ref a]/\Same Z H1/\(SqL X.K H1 a vs\/SqT X.K H1 a vs)/\KeyVs X.K Z vs ks/\ks.all pi=true/\ks.Nodup/\ks.length<64/\∀vs',KeyVs X.K Z vs' (b8 ks).reverse->∀l,H1 l=none->Q (.ref l) (upd H1 l (.lst vs'))) I ?_) fun us s1 ⟨vs,H1,I1,r1,q1⟩=>?_) (by rw[he];rfl) hpl
 ·obtain⟨H₀,Z₀,Z,δ,d,hh,e,k⟩:=h
  obtain⟨d1,e1,e⟩:=bind_some e;refine⟨H₀,Z₀,Z,δ,d1,hh,e1,fun v Z1 H1 hh1 t1 r1=>?_⟩
  unfold lF at e;obtain⟨ds,e2,e⟩:=bind_some e;obtain⟨ks,e3,e⟩:=bind_some e;obtain⟨⟨c1,c2,c3⟩,e⟩:=gX e;cases e;have key:∀vs',KeyVs X.K Z1 vs' (b8 ks).reverse->∀b,H1 b=none->Q (.ref b) (upd H1 b (.lst vs')):=fun vs' kv b hb=>by
   have n:=New.add hh1.zh hb (.lst vs');exact k _ _ _ (hh1.new n) (t1.trans n.z) (.lst (SqL.of aJ) ((nA kv).same n.z))
  cases r1 with
  |lst sq rs=>
   cases e2;exact⟨_,_,Z1,ks,rfl,hh1.zh,.inl (SqL.same sq hh1.zh),jS rs e3,c1,c2,c3,key⟩
  |tup sq rs=>
   cases e2;exact⟨_,_,Z1,ks,rfl,hh1.zh,.inr (SqT.same sq hh1.zh),jS rs e3,c1,c2,c3,key⟩
  |_=>cases e2
 ·obtain⟨a,xs,Z,ks,e1,zh,hsq,kv,c1,c2,c3,q⟩:=q1
  subst e1;obtain⟨u,rfl,rx⟩:=lz r1;cases rx;refine kws_cons (wpAny_pure (kws_nil ?_));exact vS I1 zh hsq kv c1 c2 c3 q
end
@[simp] noncomputable def v5(i:Nat)(fk fv:Dv->Option D):Sf:=fun δ=>(fk δ).bind fun dk=>(fv δ).bind fun v=>(vn δ[i]?).bind fun ds=>match dk with
 |.int k=>if 0<=k/\k.toNat<=ds.length/\ds.length<sizeLine then some (.nx,δ.set i (.ow (ds.take k.toNat++v::ds.drop k.toNat)))else none
 |_=>none
section
variable{X:Cx}
def yO:V->List V->Hp->VK->Prop:=fun x vs H Q=>∃l xs k y,x=.ref l/\vs=[.int k,y]/\H l=some (.lst xs)/\0<=k/\k.toNat<=xs.length/\xs.length<sizeLine/\Q .non (upd H l (.lst (xs.take k.toNat++y::xs.drop k.toNat)))
theorem Vals.takeV:∀{xs:List V} {us:List Value} (n:Nat),Vals xs us->Vals (xs.take n) (us.take n)
 |_,_,0,_=>by simpa using .nil
 |_,_,n+1,.nil=>.nil
 |_,_,n+1,.cons h r=>.cons h (Vals.takeV n r)
theorem Vals.dropV:∀{xs:List V} {us:List Value} (n:Nat),Vals xs us->Vals (xs.drop n) (us.drop n)
 |_,_,0,h=>h
 |_,_,n+1,.nil=>.nil
 |_,_,n+1,.cons h r=>Vals.dropV n r
theorem uG:Hu X "list.insert" yO:=by
 intro pins s σ H x vs v us Q I rx rv h;obtain⟨l,xs,k,y,rfl,rfl,hH,h0,hk,hz,q⟩:=h;cases rx;obtain⟨u,w,rfl,⟨t,rfl⟩,rw_⟩:=rv.two;obtain⟨z,its,n,r,hl,e⟩:=I.lstM hH;have hlen:xs.length=its.length:=r.length;have hf:Builtin.List.listFitsIndex k=true:=by
  unfold Builtin.List.listFitsIndex;have:k<16777217:=by rw[sizeLine_eq]at hz;lia
  simp only[Bool.and_eq_true,decide_eq_true_eq];exact⟨by lia,by lia⟩
 refine call_meets PySem.F.slot_list_insert ⟨_,e,rfl⟩ PySem.F.entry_list_insert (PySem.F.args_list_insert_3 _ _ _) (PySem.AutoSeq1.list_insert_list_int_val_1 l its.toArray n k t w (by simp[hf]) (by rw[List.size_toArray,<-hlen];lia)) ⟨e,?_⟩;refine⟨.non,_,I.lset (its':=its.take k.toNat++w::its.drop k.toNat) hH e ?_ ((Vals.takeV _ r).append (.cons rw_ (Vals.dropV _ r))) ?_,rfl,q⟩
 ·have e1:(if k<0 then(k+(its.toArray.size:Int)).toNat else min k.toNat its.toArray.size)=k.toNat:=by
   rw[if_neg (by lia),List.size_toArray]
   lia
  show(its.toArray.extract 0 (if k<0 then(k+(its.toArray.size:Int)).toNat else min k.toNat its.toArray.size)).push w++its.toArray.extract (if k<0 then(k+(its.toArray.size:Int)).toNat else min k.toNat its.toArray.size)=_;rw[e1];apply Array.toList_inj.mp;simp;exact List.take_of_length_le (by simp)
 ·simp only[List.length_append,List.length_cons,List.length_take,List.length_drop]
  lia
theorem Reps.takeV{K:Fg}{Z:Hp}:∀{xs:List V} {us:List D} (n:Nat),Reps K Z xs us->Reps K Z (xs.take n) (us.take n)
 |_,_,0,_=>by simpa using .nil
 |_,_,n+1,.nil=>.nil
 |_,_,n+1,.cons h r=>.cons h (Reps.takeV n r)
theorem Reps.dropV{K:Fg}{Z:Hp}:∀{xs:List V} {us:List D} (n:Nat),Reps K Z xs us->Reps K Z (xs.drop n) (us.drop n)
 |_,_,0,h=>h
 |_,_,n+1,.nil=>.nil
 |_,_,n+1,.cons h r=>Reps.dropV n r
variable{e b:Expr}{p pos apos:Pos}{fk fv:Dv->Option D}
theorem vN(i:Nat){x:Str}{cpos:Pos}(hk:EV X b fk)(hv':EV X e fv)(hN:X.N[i]? = some x:=by rfl)(hv:A3 X.env.scope x:=by first|exact Or.inl rfl|exact Or.inr (Or.inl rfl)|exact Or.inr (Or.inr rfl))(hd:(x==("__debug__":Str))=false:=by decide)(hcd:(x==("__classdict__":Str))=false:=by decide)
  (hbase:attributeBase (.Name x p) "insert" X.env (eval (.Name x p) X.env)=eval (.Name x p) X.env:=by rfl)
  (hfew:((backTo cpos (starEach [b,e] X.env)).all (fun x=>!x.1)&&(backToKw cpos (keywordEach [] X.env)).all (fun x=>x.1.isSome)
   && decide ([b,e].length+([]:List Keyword).length+(if([]:List Keyword).isEmpty then 0 else 1)<30))=true:=by rfl)
  (hline:(apos.endLine==cpos.line)=true:=by rfl) (hs:starEach [b,e] X.env=(false,eval b X.env)::starEach [e] X.env:=by rfl) (hs2:starEach [e] X.env=(false,eval e X.env)::starEach [] X.env:=by rfl) (hplain:(backTo cpos (starEach [e] X.env)).any (·.1)=false:=by rfl)
  (hsw:swapsWith (.Call (.Attribute (.Name x p) "insert" apos) [b,e] [] cpos) none pos.line X.env=pure false:=by rfl):SV X (.Expr (.Call (.Attribute (.Name x p) "insert" apos) [b,e] [] cpos) pos) (v5 i fk fv):=
 PS.imp (oE (AF PySem.F.plainAttrs_list PySem.F.slot_list_insert PySem.F.type_list_insert uG (jO hN hv hd hcd) (iu hk (iu hv' lN hs2) hs) hbase hfew hline hs hplain) hsw) fun D σ H h=>by
  obtain⟨H₀,Z₀,Z,δ,r,hh,e,k⟩:=h;obtain⟨dk,e0,e⟩:=bind_some e;obtain⟨v,e1,e⟩:=bind_some e;obtain⟨ds,e2,e⟩:=bind_some e;cases dk with
  |int n=>
   obtain⟨⟨h0,hn,hl⟩,e⟩:=gX e;cases e;obtain⟨a,xs,h1,h4,h5⟩:=pS hh e2;refine⟨_,h1,.inl ⟨rfl,xs,SqL.of h4⟩,H₀,Z₀,Z,δ,.int n,hh,e0,fun w Z1 H1 hh1 t1 r1=>?_⟩
   refine⟨H₀,Z₀,Z1,δ,v,hh1,e1,fun w2 Z2 H2 hh2 t2 r2=>?_⟩
   obtain⟨a',xs',g1,g4,g5⟩:=pS hh2 e2;rw[h1]at g1;cases g1;have:=r1.int_eq;subst this;have gl:=g5.length;exact⟨a,xs',n,w2,rfl,rfl,g4,h0,by rw[gl];exact hn,by rw[gl];exact hl,k σ _ Z2 (hh2.chg (xs:=xs') (ri e2) h1 ((Reps.takeV _ g5).append (.cons r2 (Reps.dropV _ g5)))) (t1.trans t2)⟩
  |_=>cases e
end
section
variable{K:Fg}
noncomputable def gZ(ps:List (V×V)):List V:=ps.flatMap fun p=>[p.1,p.2]
end
@[simp] noncomputable def HL(i:Nat)(fk:Dv->Option D):Sf:=fun δ=>(fk δ).bind fun dk=>(vn δ[i]?).bind fun ds=>match dk with
 |.int k=>if 0<=k/\k.toNat<ds.length/\ds.length<sizeLine then some (.nx,δ.set i (.ow (ds.eraseIdx k.toNat)))else none
 |_=>none
@[simp] noncomputable def HJ(i:Nat):Sf:=fun δ=>(vn δ[i]?).bind fun ds=>if ds.length<sizeLine then some (.nx,δ.set i (.ow ds.reverse))else none
noncomputable def lps(M:Nat):Nat->Nat×Nat->Nat×Nat
 | 0,x=>x
 |k+1,x=>lps M k (SetTable.leap M x.1 x.2)
theorem oR(M:Nat):∀(a b:Nat) (x:Nat×Nat),lps M (a+b) x=lps M b (lps M a x)
 | 0,b,x=>by rw[Nat.zero_add];rfl
 |a+1,b,x=>by rw[Nat.add_right_comm];exact oR M a b _
theorem wL(M:Nat):∀(k:Nat) (i q:Nat),(lps M k (i,q)).2=q/32^k
 | 0,i,q=>by simp[lps]
 |k+1,i,q=>by
  show(lps M k (SetTable.leap M i q)).2=_;have:SetTable.leap M i q=((SetTable.leap M i q).1,q/32):=rfl;rw[this,wL M k,Nat.div_div_eq_div_mul,Nat.pow_succ,Nat.mul_comm]
theorem wM(M:Nat):∀(k:Nat) (i q:Nat),i<M+1->(lps M k (i,q)).1<M+1
 | 0,i,q,h=>h
 |k+1,i,q,h=>wM M k _ _ (Nat.mod_lt _ (by lia))
noncomputable def fiv(k:Nat):Nat:=(5^k-1)/4
theorem mf(k:Nat):fiv (k+1)=5*fiv k+1:=by
 unfold fiv;have h1:5^k%4=1:=by
  induction k with
  |zero=>rfl
  |succ k ih=>rw[Nat.pow_succ];lia
 have h2:1<=5^k:=Nat.pow_pos (by decide);rw[Nat.pow_succ]
 lia
theorem AK(M:Nat):∀(k:Nat) (i:Nat),i<M+1->(lps M k (i,0)).1=(5^k*i+fiv k)%(M+1)
 | 0,i,h=>by rw[Nat.pow_zero,Nat.one_mul];show i=(i+0)%(M+1);rw[Nat.add_zero,Nat.mod_eq_of_lt h]
 |k+1,i,h=>by
  have e:lps M (k+1) (i,0)=lps M 1 (lps M k (i,0)):=oR M k 1 _;have q:=wL M k i 0;rw[Nat.zero_div]at q;have e2:lps M k (i,0)=((lps M k (i,0)).1,0):=Prod.ext rfl q;rw[e,e2,AK M k i h];show((5^k*i+fiv k)%(M+1)*5+1+0/32)%(M+1)=_;rw[mf,Nat.zero_div,Nat.add_zero,Nat.add_mod,Nat.mul_mod,Nat.mod_mod,<-Nat.mul_mod,<-Nat.add_mod];congr 1;rw[Nat.pow_succ];generalize 5^k=p;generalize fiv k=f;rw[Nat.add_mul,Nat.mul_right_comm,Nat.mul_comm f 5,Nat.add_assoc]
def Gc(M:Nat):Prop:=M=7\/M=31\/M=127
theorem EW:∀j,j<8->∃s,s<8/\fiv s%8=j:=by decide +kernel
theorem CZ:∀j,j<32->∃s,s<32/\fiv s%32=j:=by decide +kernel
theorem Ap:∀j,j<128->∃s,s<128/\fiv s%128=j:=by decide +kernel
theorem EU{M:Nat}(h:Gc M):(∀j,j<M+1->∃s,s<M+1/\fiv s%(M+1)=j)/\fiv (M+1)%(M+1)=0/\5^(M+1)%(M+1)=1:=by
 rcases h with rfl|rfl|rfl
 ·exact⟨EW,by decide +kernel,by decide +kernel⟩
 ·exact⟨CZ,by decide +kernel,by decide +kernel⟩
 ·exact⟨Ap,by decide +kernel,by decide +kernel⟩
theorem tH(a b:Nat):fiv (a+b)=5^b*fiv a+fiv b:=by
 induction b with
 |zero=>rw[Nat.pow_zero,Nat.one_mul];rfl
 |succ b ih=>
  rw[Nat.add_succ,mf,ih,mf,Nat.pow_succ];generalize 5^b=p;generalize fiv a=x;generalize fiv b=y;rw[Nat.mul_add,Nat.mul_comm p 5,Nat.mul_assoc,Nat.add_assoc]
theorem BE{M:Nat}(h:Gc M){i j:Nat}(hi:i<M+1)(hj:j<M+1):∃s,s<M+1/\(lps M s (i,0)).1=j:=by
 obtain⟨a,b,c⟩:=EU h;obtain⟨si,h1,h2⟩:=a i hi;obtain⟨sj,h3,h4⟩:=a j hj;have key:∀s,(lps M s (i,0)).1=fiv (si+s)%(M+1):=fun s=>by
  rw[AK M s i hi,tH,<-h2,Nat.add_mod,Nat.mul_mod,Nat.mod_mod,<-Nat.mul_mod,<-Nat.add_mod]
 by_cases q:si<=sj
 ·exact⟨sj-si,by lia,by rw[key,show si+(sj-si)=sj by lia,h4]⟩
 ·refine⟨M+1+sj-si,by lia,?_⟩
  rw[key,show si+(M+1+sj-si)=(M+1)+sj by lia,tH,Nat.add_mod,Nat.mul_mod,b,Nat.mul_zero,Nat.zero_mod,Nat.zero_add,Nat.mod_mod,h4]
theorem Af(h:Int):SetTable.bits h<2^64:=by
 unfold SetTable.bits
 lia
theorem Hd{M:Nat}(h:Gc M)(x:Int){j:Nat}(hj:j<M+1):∃k,k<SetTable.turns M/\(lps M k (SetTable.bits x%(M+1),SetTable.bits x)).1=j:=by
 have lt:SetTable.bits x%(M+1)<M+1:=Nat.mod_lt _ (by lia);have q:=wL M 13 (SetTable.bits x%(M+1)) (SetTable.bits x);have z:SetTable.bits x/32^13=0:=Nat.div_eq_of_lt (Nat.lt_of_lt_of_le (Af x) (by decide));rw[z]at q;obtain⟨s,h1,h2⟩:=BE h (wM M 13 _ (SetTable.bits x) lt) hj;refine⟨13+s,by unfold SetTable.turns;lia,?_⟩;rw[oR];generalize lps M 13 (SetTable.bits x%(M+1),SetTable.bits x)=y at q h2;obtain⟨y1,y2⟩:=y;dsimp only at q h2;subst q;exact h2
end VL
namespace MA
open PySem
theorem nr(x y:Int):Builtin.bitOr x y=2*Builtin.bitOr (x/2) (y/2)+(if x%2=0/\y%2=0 then 0 else 1):=by
 unfold Builtin.bitOr Builtin.bitNot;have h:=PySem.W.kbt_halves (-x-1) (-y-1);have hx:(-x-1)/2 = -(x/2)-1:=by lia
 have hy:(-y-1)/2 = -(y/2)-1:=by lia
 rw[hx,hy]at h;rw[h];by_cases c:x%2=0/\y%2=0
 ·rw[if_pos c,if_pos (by lia)];lia
 ·rw[if_neg c,if_neg (by lia)];lia
theorem lL(n:Nat):(0:Int)<2^n:=by
 induction n with
 |zero=>decide
 |succ n ih=>rw[Int.pow_succ];lia
theorem gm(x:Int)(n:Nat):x/2^(n+1)=x/2/2^n:=by
 rw[Int.pow_succ,Int.mul_comm,Int.ediv_ediv_of_nonneg (by decide)]
theorem eB(x:Int)(n:Nat):2^(n+1) ∣ x↔x%2=0/\2^n ∣ x/2:=by
 constructor
 ·rintro⟨c,rfl⟩
  rw[Int.pow_succ];refine⟨?_,c,?_⟩
  ·rw[Int.mul_comm (2^n) 2,Int.mul_assoc];lia
  ·rw[Int.mul_comm (2^n) 2,Int.mul_assoc,Int.mul_ediv_cancel_left _ (by decide)]
 ·rintro⟨h,c,hc⟩
  refine⟨c,?_⟩;rw[Int.pow_succ,Int.mul_comm (2^n) 2,Int.mul_assoc,<-hc]
  lia
theorem rz(n:Nat):∀x y:Int,(2^n ∣ Builtin.bitOr x y↔2^n ∣ x/\2^n ∣ y)/\(2^n ∣ Builtin.bitOr x y->Builtin.bitOr x y/2^n=Builtin.bitOr (x/2^n) (y/2^n)):=by
 induction n with
 |zero=>intro x y;simp
 |succ n ih=>
  intro x y;have h:=nr x y;have hd:Builtin.bitOr x y/2=Builtin.bitOr (x/2) (y/2):=by rw[h];split<;>lia
  have hm:Builtin.bitOr x y%2=0↔x%2=0/\y%2=0:=by
   rw[h];by_cases c:x%2=0/\y%2=0
   ·rw[if_pos c];constructor
    ·intro _;exact c
    ·intro _;lia
   ·rw[if_neg c];constructor
    ·intro z;lia
    ·intro z;exact absurd z c
  obtain⟨i1,i2⟩:=ih (x/2) (y/2);constructor
  ·rw[eB,eB,eB,hd,hm,i1]
   constructor
   ·rintro⟨⟨a,b⟩,c,d⟩;exact⟨⟨a,c⟩,b,d⟩
   ·rintro⟨⟨a,c⟩,b,d⟩;exact⟨⟨a,b⟩,c,d⟩
  ·intro q
   rw[eB,hd]at q;rw[gm,gm,gm,hd,i2 q.2]
theorem vR:∀(n:Nat) (j:Int),j.natAbs<=n->j≠0->∃(t:Nat) (a:Int),j=2^t*(2*a+1)
 | 0,j,h,h0=>by lia
 |n+1,j,h,h0=>by
  by_cases c:j%2=0
  ·obtain⟨t,a,e⟩:=vR n (j/2) (by lia) (by lia)
   refine⟨t+1,a,?_⟩;rw[Int.pow_succ,Int.mul_comm (2^t) 2,Int.mul_assoc,<-e]
   lia
  ·exact⟨0,j/2,by simp;lia⟩
theorem qK(t:Nat):Builtin.Int.intBits (2^t)=t+1:=by
 unfold Builtin.Int.intBits;have h:(2:Int)^t≠0:=Int.ne_of_gt (lL t);have e:((2:Int)^t).natAbs=2^t:=by
  have:((2^t:Nat):Int)=(2:Int)^t:=by simp
  rw[<-this,Int.natAbs_natCast]
 rw[if_neg (by simpa using h),e,Nat.log2_two_pow]
noncomputable def qZ(j most:Int):Int:=if j=0 then most else if(Builtin.Int.intBits (Builtin.bitAnd j (-j)):Int)-1<most then(Builtin.Int.intBits (Builtin.bitAnd j (-j)):Int)-1 else most
theorem ub(j most:Int)(hm:0<=most):∃t:Nat,qZ j most=t/\(t:Int)<=most/\2^t ∣ j/\((t:Int)<most->¬j/2^t%2=0):=by
 unfold qZ;by_cases h:j=0
 ·subst h
  refine⟨most.toNat,by rw[if_pos rfl];lia,by lia,Int.dvd_zero _,fun z=>by lia⟩
 ·obtain⟨t,a,e⟩:=vR _ j (Nat.le_refl _) h
  have hb:Builtin.Int.intBits (Builtin.bitAnd j (-j))=t+1:=by rw[e,PySem.W.kbt_low,qK]
  rw[if_neg h,hb];have q:((t+1:Nat):Int)-1=t:=by lia
  rw[q];by_cases c:(t:Int)<most
  ·refine⟨t,by rw[if_pos c],by lia,⟨_,e⟩,fun _=>?_⟩
   rw[e,Int.mul_ediv_cancel_left _ (Int.ne_of_gt (lL t))]
   lia
  ·refine⟨most.toNat,by rw[if_neg c];lia,by lia,?_,fun z=>by lia⟩
   refine Int.dvd_trans ?_ ⟨_,e⟩;have:t=most.toNat+(t-most.toNat):=by lia
   rw[this,Int.pow_add];exact Int.dvd_mul_right _ _
theorem jz{a:Int}{m:Nat}(h:a.natAbs<2^m):Builtin.Int.intBits a<=m:=by
 unfold Builtin.Int.intBits;split
 ·exact Nat.zero_le _
 ·rename_i h0
  have h0:a≠0:=by simpa using h0
  have:a.natAbs.log2<m:=(Nat.log2_lt (by lia)).mpr h
  lia
theorem rL{a b:Int}(m n:Nat)(ha:a.natAbs<2^m)(hb:b.natAbs<2^n)(h:m+n<=134217728):IntMulOk a b:=by
 have h1:=jz ha;have h2:=jz hb;have hc:Builtin.Int.intTooBig (Builtin.Int.intBits a+Builtin.Int.intBits b)=false:=by
  unfold Builtin.Int.intTooBig bitsLine;exact decide_eq_false (by lia)
 unfold IntMulOk;rw[hc];simp
structure Q4 where
 a:Int
 b:Int
 c:Int
 d:Int
namespace Q4
theorem ext'{x y:Q4}(h1:x.a=y.a)(h2:x.b=y.b)(h3:x.c=y.c)(h4:x.d=y.d):x=y:=by
 cases x;cases y;simp at h1 h2 h3 h4;subst h1 h2 h3 h4;rfl
noncomputable def add(x y:Q4):Q4:=⟨x.a+y.a,x.b+y.b,x.c+y.c,x.d+y.d⟩
noncomputable def neg(x:Q4):Q4:=⟨-x.a,-x.b,-x.c,-x.d⟩
noncomputable def mul(x y:Q4):Q4:=⟨x.a*y.a-x.b*y.d-x.c*y.c-x.d*y.b,x.a*y.b+x.b*y.a-x.c*y.d-x.d*y.c,x.a*y.c+x.b*y.b+x.c*y.a-x.d*y.d,x.a*y.d+x.b*y.c+x.c*y.b+x.d*y.a⟩
noncomputable def rt(x:Q4):Q4:=⟨x.b-x.d,x.a+x.c,x.b+x.d,x.c-x.a⟩
noncomputable def dbl(n:Int)(x:Q4):Q4:=⟨x.a*n,x.b*n,x.c*n,x.d*n⟩
noncomputable def mir(x:Q4):Q4:=⟨x.a,-x.d,-x.c,-x.b⟩
noncomputable def tn(x:Q4):Q4:=⟨-x.d,x.a,x.b,x.c⟩
noncomputable def rtn:Nat->Q4->Q4
 | 0,x=>x
 |n+1,x=>rtn n (rt x)
theorem rtn_succ(n:Nat)(x:Q4):rtn (n+1) x=rt (rtn n x):=by
 induction n generalizing x with
 |zero=>rfl
 |succ n ih=>exact ih (rt x)
theorem rtn_add(m n:Nat)(x:Q4):rtn (m+n) x=rtn m (rtn n x):=by
 induction n generalizing x with
 |zero=>rfl
 |succ n ih=>exact ih (rt x)
theorem rt_rt(x:Q4):rt (rt x)=dbl 2 x:=by
 apply ext'<;>simp[rt,dbl]<;>lia
theorem zW(m n:Int)(x:Q4):dbl m (dbl n x)=dbl (n*m) x:=by
 apply ext'<;>simp[dbl,Int.mul_assoc]
theorem rtn_two(t:Nat)(x:Q4):rtn (2*t) x=dbl (2^t) x:=by
 induction t generalizing x with
 |zero=>apply ext'<;>simp[rtn,dbl]
 |succ t ih=>
  have e:2*(t+1)=2*t+1+1:=by lia
  rw[e];show rtn (2*t) (rt (rt x))=_;rw[ih,rt_rt,zW,Int.pow_succ,Int.mul_comm]
theorem rt_inj{x y:Q4}(h:rt x=rt y):x=y:=by
 have h1:=congrArg rt h;rw[rt_rt,rt_rt]at h1;have h2:=congrArg Q4.a h1;have h3:=congrArg Q4.b h1;have h4:=congrArg Q4.c h1;have h5:=congrArg Q4.d h1;simp only[dbl]at h2 h3 h4 h5;apply ext'<;>lia
theorem sS{n:Nat}{x y:Q4}(h:rtn n x=rtn n y):x=y:=by
 induction n generalizing x y with
 |zero=>exact h
 |succ n ih=>exact rt_inj (ih h)
theorem rt_add(x y:Q4):rt (add x y)=add (rt x) (rt y):=by apply ext'<;>simp[rt,add]<;>lia
theorem v9(x:Q4):rt (neg x)=neg (rt x):=by apply ext'<;>simp[rt,neg]<;>lia
theorem rtn_addQ(n:Nat)(x y:Q4):rtn n (add x y)=add (rtn n x) (rtn n y):=by
 induction n generalizing x y with
 |zero=>rfl
 |succ n ih=>show rtn n (rt (add x y))=_;rw[rt_add,ih];rfl
theorem rt_mul(x y:Q4):rt (mul x y)=mul (rt x) y:=by apply ext'<;>simp only[rt,mul]<;>grind
theorem sR(n:Nat)(x y:Q4):rtn n (mul x y)=mul (rtn n x) y:=by
 induction n generalizing x with
 |zero=>rfl
 |succ n ih=>show rtn n (rt (mul x y))=_;rw[rt_mul,ih];rfl
theorem mul_comm(x y:Q4):mul x y=mul y x:=by apply ext'<;>simp only[mul]<;>grind
theorem mul_assoc(x y z:Q4):mul (mul x y) z=mul x (mul y z):=by apply ext'<;>simp only[mul]<;>grind
theorem add_comm(x y:Q4):add x y=add y x:=by apply ext'<;>simp only[add]<;>lia
theorem rtn_mul2(m n:Nat)(x y:Q4):rtn (m+n) (mul x y)=mul (rtn m x) (rtn n y):=by
 rw[rtn_add,mul_comm,sR,mul_comm,sR]
theorem tn_mul(x y:Q4):tn (mul x y)=mul x (tn y):=by apply ext'<;>simp only[mul,tn]<;>grind
theorem tn_rt(x:Q4):tn (rt x)=rt (tn x):=by apply ext'<;>simp only[rt,tn]<;>lia
def Odd(x:Q4):Prop:=¬((x.a-x.c)%2=0/\(x.b-x.d)%2=0)
theorem yK(x:Q4):¬Odd (rt x):=by
 unfold Odd rt;simp only
 lia
def Least(x:Q4)(k:Int):Prop:=0<=k/\(0<k->Odd x)
theorem Least.one{x y:Q4}{k l m:Nat}(hx:Least x k)(hy:Least y l)(h1:k<=m)(h2:l<=m)(h:rtn (m-k) x=rtn (m-l) y):x=y/\k=l:=by
 have key:∀{x y:Q4} {k l:Nat},Least y l->k<=m->l<=m->k<l->rtn (m-k) x=rtn (m-l) y->False:=by
  intro x y k l hy h1 h2 hlt h;have e:m-k=(m-l)+(l-k):=by lia
  rw[e,rtn_add]at h;have h3:=sS h;obtain⟨n,hn⟩:∃n,l-k=n+1:=⟨l-k-1,by lia⟩;rw[hn,rtn_succ]at h3;have:=hy.2 (by lia);rw[<-h3]at this;exact yK _ this
 rcases Nat.lt_trichotomy k l with q|q|q
 ·exact(key hy h1 h2 q h).elim
 ·subst q;exact⟨sS h,rfl⟩
 ·exact(key hx h2 h1 q h.symm).elim
end Q4
theorem jH(a b c d most:Int)(hm:0<=most):∃t:Nat,qZ (Builtin.bitOr (Builtin.bitOr (Builtin.bitOr a b) c) d) most=t/\(t:Int)<=most/\a=a/2^t*2^t/\b=b/2^t*2^t/\c=c/2^t*2^t/\d=d/2^t*2^t /\
  ((t:Int)<most->¬(a/2^t%2=0/\b/2^t%2=0/\c/2^t%2=0/\d/2^t%2=0)):=by
 obtain⟨t,e,h1,h2,h3⟩:=ub (Builtin.bitOr (Builtin.bitOr (Builtin.bitOr a b) c) d) most hm;have o1:=rz t (Builtin.bitOr (Builtin.bitOr a b) c) d;have d1:=o1.1.mp h2;have o2:=rz t (Builtin.bitOr a b) c;have d2:=o2.1.mp d1.1;have o3:=rz t a b;have d3:=o3.1.mp d2.1;refine⟨t,e,h1,(Int.ediv_mul_cancel d3.1).symm,(Int.ediv_mul_cancel d3.2).symm,(Int.ediv_mul_cancel d2.2).symm,(Int.ediv_mul_cancel d1.2).symm,fun z w=>h3 z ?_⟩
 have ev:∀x y:Int,x%2=0->y%2=0->Builtin.bitOr x y%2=0:=fun x y hx hy=>by
  rw[nr,if_pos ⟨hx,hy⟩];lia
 rw[o1.2 h2,o2.2 d1.1,o3.2 d2.1];exact ev _ _ (ev _ _ (ev _ _ w.1 w.2.1) w.2.2.1) w.2.2.2
noncomputable def num(x:Q4)(k:Int):Q4×Int:=
 let t:=(qZ (Builtin.bitOr (Builtin.bitOr (Builtin.bitOr x.a x.b) x.c) x.d) (k/2)).toNat
 let y:Q4:=⟨x.a/2^t,x.b/2^t,x.c/2^t,x.d/2^t⟩
 if k-2*t=0\/(y.a-y.c)%2=1\/(y.b-y.d)%2=1 then(y,k-2*t)else(⟨(y.b-y.d)/2,(y.a+y.c)/2,(y.b+y.d)/2,(y.c-y.a)/2⟩,k-2*t-1)
theorem rT{p q:Int}(h:(p-q)%2=0):(p+q)/2-(q-p)/2=p/\(p+q)/2+(q-p)/2=q:=by lia
theorem rS{p q:Int}(h:(p-q)%2=0):(p-q)/2+(p+q)/2=p/\(p+q)/2-(p-q)/2=q:=by lia
theorem BS{x y:Int}(h:(x-y)%2=0)(k:y%2=0):x%2=0:=by lia
theorem y8{x y:Int}(h:(x-y)%2=0)(k:x%2=0):y%2=0:=by lia
theorem wF{a b c d:Int}(g1:(a-c)%2=0)(g2:(b-d)%2=0)(h:¬(a%2=0/\b%2=0/\c%2=0/\d%2=0)):Q4.Odd ⟨(b-d)/2,(a+c)/2,(b+d)/2,(c-a)/2⟩:=fun z=>by
 have z1:((b-d)/2-(b+d)/2)%2=0:=z.1;have z2:((a+c)/2-(c-a)/2)%2=0:=z.2;rw[(rT g1).1]at z2;have e:=(rS g2).2;have z3:d%2=0:=by lia
 exact h ⟨z2,BS g2 z3,y8 g1 z2,z3⟩
theorem eQ(x:Q4)(k:Int)(hk:0<=k):Q4.Least (num x k).1 (num x k).2/\(num x k).2<=k/\Q4.rtn (k-(num x k).2).toNat (num x k).1=x:=by
 obtain⟨t,e,h1,ha,hb,hc,hd,h3⟩:=jH x.a x.b x.c x.d (k/2) (by lia);have l2:2*(t:Int)<=k:=by lia
 unfold num;simp only[e,Int.toNat_natCast];generalize x.a/2^t=a at *;generalize x.b/2^t=b at *;generalize x.c/2^t=c at *;generalize x.d/2^t=d at *;have e2:Q4.dbl (2^t) ⟨a,b,c,d⟩=x:=Q4.ext' ha.symm hb.symm hc.symm hd.symm;split
 ·rename_i h
  refine⟨⟨Int.sub_nonneg_of_le l2,fun z=>?_⟩,Int.sub_le_self _ (by lia),?_⟩
  ·rcases h with h|h|h
   ·exact absurd h (Int.ne_of_gt z)
   ·exact fun w=>absurd (h.symm.trans w.1) (by decide)
   ·exact fun w=>absurd (h.symm.trans w.2) (by decide)
  ·have:(k-(k-2*(t:Int))).toNat=2*t:=by lia
   simp only[this];rw[Q4.rtn_two,e2]
 ·rename_i h
  have g0:k-2*(t:Int)≠0:=fun z=>h (.inl z)
  have g1:(a-c)%2=0:=(Int.emod_two_eq (a-c)).resolve_right fun z=>h (.inr (.inl z))
  have g2:(b-d)%2=0:=(Int.emod_two_eq (b-d)).resolve_right fun z=>h (.inr (.inr z))
  refine⟨⟨(by lia:0<=k-2*(t:Int)-1),fun z=>wF g1 g2 (h3 ?_)⟩,(by lia:k-2*(t:Int)-1<=k),?_⟩
  ·have z:0<k-2*(t:Int)-1:=z
   lia
  ·have:(k-(k-2*(t:Int)-1)).toNat=2*t+1:=by lia
   simp only[this];show Q4.rtn (2*t) (Q4.rt _)=x;rw[Q4.rtn_two];have e3:Q4.rt ⟨(b-d)/2,(a+c)/2,(b+d)/2,(c-a)/2⟩=⟨a,b,c,d⟩:=Q4.ext' (rT g1).1 (rS g2).1 (rT g1).2 (rS g2).2;rw[e3,e2]
def Q4.Le(M:Nat)(x:Q4):Prop:=x.a.natAbs<=M/\x.b.natAbs<=M/\x.c.natAbs<=M/\x.d.natAbs<=M
theorem o5(a:Int)(t:Nat)(h:a=a/2^t*2^t):(a/2^t).natAbs<=a.natAbs:=by
 have pw:=lL t;have:a.natAbs=(a/2^t).natAbs*((2:Int)^t).natAbs:=by rw[<-Int.natAbs_mul,<-h]
 rw[this];exact Nat.le_mul_of_pos_right _ (by lia)
theorem kj{a b:Int}{M:Nat}(ha:a.natAbs<=M)(hb:b.natAbs<=M):((a+b)/2).natAbs<=M:=by lia
theorem ki{a b:Int}{M:Nat}(ha:a.natAbs<=M)(hb:b.natAbs<=M):((a-b)/2).natAbs<=M:=by lia
theorem wG(x:Q4)(k:Int)(hk:0<=k)(M:Nat)(h:Q4.Le M x):Q4.Le M (num x k).1:=by
 obtain⟨t,e,h1,ha,hb,hc,hd,h3⟩:=jH x.a x.b x.c x.d (k/2) (by lia);have la:=Nat.le_trans (o5 _ _ ha) h.1;have lb:=Nat.le_trans (o5 _ _ hb) h.2.1;have lc:=Nat.le_trans (o5 _ _ hc) h.2.2.1;have ld:=Nat.le_trans (o5 _ _ hd) h.2.2.2;unfold num Q4.Le;simp only[e,Int.toNat_natCast];split
 ·exact⟨la,lb,lc,ld⟩
 ·exact⟨ki lb ld,kj la lc,kj lb ld,ki lc la⟩
theorem dJ{a b:Int}{M N:Nat}(ha:a.natAbs<=M)(hb:b.natAbs<=N):(a+b).natAbs<=M+N:=Nat.le_trans (Int.natAbs_add_le a b) (Nat.add_le_add ha hb)
theorem lB{a b:Int}{M N:Nat}(ha:a.natAbs<=M)(hb:b.natAbs<=N):(a-b).natAbs<=M+N:=Nat.le_trans (Int.natAbs_sub_le a b) (Nat.add_le_add ha hb)
theorem DH{x:Q4}{M:Nat}(h:Q4.Le M x):Q4.Le (2*M) (Q4.rt x):=by
 obtain⟨g1,g2,g3,g4⟩:=h;rw[Nat.two_mul];unfold Q4.Le Q4.rt;exact⟨lB g2 g4,dJ g1 g3,dJ g2 g4,lB g3 g1⟩
theorem v8{x:Q4}{M:Nat}:∀(n:Nat),Q4.Le M x->Q4.Le (2^n*M) (Q4.rtn n x)
 | 0,h=>by simpa[Q4.rtn]using h
 |n+1,h=>by
  have:=DH (v8 n h);rw[Q4.rtn_succ];rw[Nat.pow_succ,Nat.mul_comm (2^n) 2,Nat.mul_assoc];exact this
theorem Q4.Le.mono{x:Q4}{M N:Nat}(h:Q4.Le M x)(hl:M<=N):Q4.Le N x:=⟨Nat.le_trans h.1 hl,Nat.le_trans h.2.1 hl,Nat.le_trans h.2.2.1 hl,Nat.le_trans h.2.2.2 hl⟩
theorem C0{x y:Q4}{M N:Nat}(h:Q4.Le M x)(h':Q4.Le N y):Q4.Le (M+N) (Q4.add x y):=
 ⟨dJ h.1 h'.1,dJ h.2.1 h'.2.1,dJ h.2.2.1 h'.2.2.1,dJ h.2.2.2 h'.2.2.2⟩
noncomputable def fg(x:Q4)(c:Int)(y:Q4)(d:Int):Q4×Int:=num (Q4.add (Q4.rtn (max c d-c).toNat x) (Q4.rtn (max c d-d).toNat y)) (max c d)
noncomputable def eK(x:Q4)(c:Int)(y:Q4)(d:Int):Q4×Int:=num (Q4.mul x y) (c+d)
noncomputable def df:Nat->Q4->Q4
 | 0,x=>x
 |n+1,x=>Q4.tn (df n x)
theorem lE{x:Q4}{M:Nat}:∀n:Nat,Q4.Le M x->Q4.Le M (df n x)
 | 0,h=>h
 |n+1,h=>by
  obtain⟨a,b,c,d⟩:=lE n h;exact⟨by simpa[df,Q4.tn]using d,a,b,c⟩
theorem tn_odd{x:Q4}:Q4.Odd (Q4.tn x)↔Q4.Odd x:=by
 unfold Q4.Odd Q4.tn;simp only
 lia
theorem sJ{x:Q4}:∀n:Nat,Q4.Odd (df n x)↔Q4.Odd x
 | 0=>Iff.rfl
 |n+1=>tn_odd.trans (sJ n)
theorem uf{x:Q4}{c:Int}(n:Nat)(h:Q4.Least x c):Q4.Least (df n x) c:=⟨h.1,fun z=>(sJ n).mpr (h.2 z)⟩
def Is(x:Q4)(c:Nat)(u:Q4)(k:Nat):Prop:=Q4.Least x c/\Q4.rtn k x=Q4.rtn c u
theorem B3(u:Q4)(k:Nat):∃c:Nat,(num u k).2=c/\c<=k/\Is (num u k).1 c u k:=by
 obtain⟨s1,s2,s3⟩:=eQ u k (by lia);obtain⟨c,hc⟩:∃c:Nat,(num u k).2=c:=⟨(num u k).2.toNat,by have:=s1.1;lia⟩;rw[hc]at s1 s2 s3;refine⟨c,hc,by lia,s1,?_⟩;have e:((k:Int)-c).toNat=k-c:=by lia
 rw[e]at s3
 conv=>rhs;rw[<-s3]
 rw[<-Q4.rtn_add];congr 1
 lia
theorem Bk(n:Nat)(x:Q4):Q4.tn (Q4.rtn n x)=Q4.rtn n (Q4.tn x):=by
 induction n generalizing x with
 |zero=>rfl
 |succ n ih=>show Q4.tn (Q4.rtn n (Q4.rt x))=Q4.rtn n (Q4.rt (Q4.tn x));rw[ih,Q4.tn_rt]
theorem sI(m n:Nat)(x:Q4):df m (Q4.rtn n x)=Q4.rtn n (df m x):=by
 induction m with
 |zero=>rfl
 |succ m ih=>show Q4.tn (df m (Q4.rtn n x))=_;rw[ih,Bk];rfl
theorem dN(m n:Nat)(x:Q4):df (m+n) x=df m (df n x):=by
 induction m with
 |zero=>rw[Nat.zero_add];rfl
 |succ m ih=>rw[Nat.succ_add];show Q4.tn (df (m+n) x)=_;rw[ih];rfl
theorem Fv(x:Q4):df 8 x=x:=by simp[df,Q4.tn]
theorem e7(n:Nat)(x:Q4):df (n%8) x=df n x:=by
 conv=>rhs;rw[<-Nat.mod_add_div n 8]
 rw[dN];congr 1;generalize n/8=q
 induction q with
 |zero=>rfl
 |succ q ih=>rw[Nat.mul_succ,dN,Fv];exact ih
theorem kR(n:Nat)(x y:Q4):df n (Q4.mul x y)=Q4.mul x (df n y):=by
 induction n with
 |zero=>rfl
 |succ n ih=>show Q4.tn (df n (Q4.mul x y))=_;rw[ih,Q4.tn_mul];rfl
theorem wp{x y:Q4}{c d:Nat}{p r:Nat}(hx:Q4.Le (2^p) x)(hy:Q4.Le (2^p) y)(hc:c<=r)(hd:d<=r):Q4.Le (2^(p+r+1)) (fg x c y d).1:=by
 have em:max (c:Int) d=((max c d:Nat):Int):=by lia
 unfold fg;refine wG _ _ (by lia) _ ?_;have up:∀(n:Nat) (z:Q4),n<=r->Q4.Le (2^p) z->Q4.Le (2^(p+r)) (Q4.rtn n z):=fun n z hn hz=>by
  refine(v8 n hz).mono ?_;rw[<-Nat.pow_add];exact Nat.pow_le_pow_right (by decide) (by lia)
 have:=C0 (up (max (c:Int) d-c).toNat x (by lia) hx) (up (max (c:Int) d-d).toNat y (by lia) hy);rw[Nat.pow_succ,Nat.mul_two];exact this
structure S2 where
 p:Int
 q:Int
namespace S2
end S2
noncomputable def nrm(x:Q4):S2:=⟨x.a*x.a+x.b*x.b+x.c*x.c+x.d*x.d,x.a*x.b+x.b*x.c+x.c*x.d-x.d*x.a⟩
noncomputable def AZ(s:S2):Q4:=⟨s.p,s.q,0,-s.q⟩
theorem zn(x:Q4):Q4.mul x (Q4.mir x)=AZ (nrm x):=by apply Q4.ext'<;>simp only[Q4.mul,Q4.mir,AZ,nrm]<;>grind
theorem sN(a:Int):0<=a*a:=by
 rcases Int.le_total 0 a with h|h
 ·exact Int.mul_nonneg h h
 ·have:=Int.mul_nonneg (Int.neg_nonneg.mpr h) (Int.neg_nonneg.mpr h)
  rwa [Int.neg_mul_neg]at this
theorem wI{x:Q4}(h:(nrm x).p=0):x=⟨0,0,0,0⟩:=by
 have h1:=sN x.a;have h2:=sN x.b;have h3:=sN x.c;have h4:=sN x.d;simp only[nrm]at h;have z:∀a:Int,a*a=0->a=0:=fun a e=>by rcases Int.mul_eq_zero.mp e with q|q<;>exact q
 exact Q4.ext' (z _ (by omega)) (z _ (by omega)) (z _ (by omega)) (z _ (by omega))
abbrev Nu:=Q4×Nat
inductive Row where
 |swing (j:Nat)|turn (j:Nat) (e:Nat)|flip (j:Nat)|tie (i j:Nat)|sign (i j:Nat)|cross (i j:Nat)
noncomputable def bM(u v:Nu):Nu:=((fg u.1 u.2 v.1 v.2).1,(fg u.1 u.2 v.1 v.2).2.toNat)
noncomputable def cg(u:Nu):Nu:=((num u.1 ((u.2+1:Nat):Int)).1,(num u.1 ((u.2+1:Nat):Int)).2.toNat)
noncomputable def aD(e:Nat)(u:Nu):Nu:=(df (e%8) u.1,u.2)
noncomputable def wt(n j:Nat):Nat:=2^(n-1-j)
noncomputable def ak(w p:Nat):Nat:=p/w%2
noncomputable def flp(w p:Nat):Nat:=if ak w p=0 then p+w else p-w
noncomputable def eh(n:Nat):Row->Nat->Nat
 |.flip j,p=>flp (wt n j) p
 |.tie i j,p=>if ak (wt n i) p=0 then p else flp (wt n j) p
 |.cross i j,p=>if ak (wt n i) p=ak (wt n j) p then p else flp (wt n j) (flp (wt n i) p)
 |_,p=>p
noncomputable def aB(n:Nat)(f:Nat->Nu):Row->Nat->Nu
 |.swing j,p=>if ak (wt n j) p=0 then cg (bM (f p) (f (p+wt n j)))else cg (bM (f (p-wt n j)) (aD 4 (f p)))
 |.turn j e,p=>aD (e*ak (wt n j) p) (f p)
 |.sign i j,p=>aD (4*ak (wt n i) p*ak (wt n j) p) (f p)
 |r,p=>f (eh n r p)
def Row.ok(n:Nat):Row->Prop
 |.swing j=>j<n
 |.turn j e=>j<n/\1<=e/\e<=7
 |.flip j=>j<n
 |.tie i j=>i<n/\j<n/\i≠j
 |.sign i j=>i<n/\j<n/\i≠j
 |.cross i j=>i<n/\j<n/\i≠j
theorem aU(n j:Nat):0<wt n j:=Nat.pow_pos (by decide)
theorem A9{n j:Nat}(h:j<n):2^n=wt n j*2^(j+1):=by
 unfold wt;rw[<-Nat.pow_add];congr 1;lia
theorem Dk{n j:Nat}(h:j<n):2*wt n j<=2^n:=by
 unfold wt;rw[show 2*2^(n-1-j)=2^(n-1-j+1) by rw[Nat.pow_succ,Nat.mul_comm]];exact Nat.pow_le_pow_right (by decide) (by lia)
theorem bA(w p:Nat):ak w p<2:=Nat.mod_lt _ (by decide)
theorem iy(w p:Nat)(hw:0<w):∃q r,p=(2*q+ak w p)*w+r/\r<w:=by
 refine⟨p/w/2,p%w,?_,Nat.mod_lt _ hw⟩;unfold ak;rw[Nat.div_add_mod,Nat.div_add_mod']
theorem se{w q b r:Nat}(hb:b<2)(hr:r<w):ak w ((2*q+b)*w+r)=b:=by
 unfold ak;rw[Nat.mul_comm,Nat.mul_add_div (by lia),Nat.div_eq_of_lt hr]
 lia
theorem li{w p:Nat}(hw:0<w)(h:ak w p=1):w<=p:=by
 obtain⟨q,r,e,_⟩:=iy w p hw;rw[h]at e;have:(2*q+1)*w=2*q*w+w:=by rw[Nat.add_mul,Nat.one_mul]
 lia
theorem tX{n j p:Nat}(hj:j<n)(hp:p<2^n)(h:ak (wt n j) p=0):p+wt n j<2^n:=by
 obtain⟨q,r,e,hr⟩:=iy (wt n j) p (aU n j);rw[h]at e;have h2:=A9 hj;have hq:q<2^j:=by
  refine Nat.lt_of_not_le fun z=>?_
  have:2*2^j*wt n j<=2*q*wt n j:=Nat.mul_le_mul_right _ (by lia);have e2:wt n j*2^(j+1)=2*2^j*wt n j:=by rw[Nat.pow_succ,Nat.mul_comm,Nat.mul_comm (2^j) 2]
  rw[Nat.add_zero]at e
  lia
 have:(2*q+2)*wt n j<=2*2^j*wt n j:=Nat.mul_le_mul_right _ (by lia);have e2:wt n j*2^(j+1)=2*2^j*wt n j:=by rw[Nat.pow_succ,Nat.mul_comm,Nat.mul_comm (2^j) 2]
 have e3:(2*q+2)*wt n j=2*q*wt n j+2*wt n j:=Nat.add_mul ..;rw[Nat.add_zero]at e
 lia
theorem iT{n j p:Nat}(hj:j<n)(hp:p<2^n):flp (wt n j) p<2^n:=by
 unfold flp;split
 ·exact tX hj hp (by assumption)
 ·lia
theorem gj{n p:Nat}{r:Row}(hr:r.ok n)(hp:p<2^n):eh n r p<2^n:=by
 cases r with
 |flip j=>exact iT hr hp
 |tie i j=>show(if _ then _ else _)<_;split;exact hp;exact iT hr.2.1 hp
 |cross i j=>show(if _ then _ else _)<_;split;exact hp;exact iT hr.2.1 (iT hr.1 hp)
 |_=>exact hp
theorem zO{w p:Nat}(hw:0<w):flp w p/(2*w)=p/(2*w):=by
 obtain⟨q,r,e,hr⟩:=iy w p hw;have h2:=bA w p;have e1:(2*q+ak w p)*w=2*w*q+ak w p*w:=by rw[Nat.add_mul,Nat.mul_right_comm]
 have one:∀x,x<2*w->(2*w*q+x)/(2*w)=q:=fun x hx=>by rw[Nat.mul_add_div (by lia),Nat.div_eq_of_lt hx,Nat.add_zero]
 unfold flp;split
 ·rename_i h
  rw[h]at e e1;have a:=one (r+w) (by lia);have b:=one r (by lia);rw[show p+w=2*w*q+(r+w) by lia,a,show p=2*w*q+r by lia,b]
 ·rename_i h
  have h1:ak w p=1:=by lia
  rw[h1]at e e1;have a:=one (r+w) (by lia);have b:=one r (by lia);rw[show p-w=2*w*q+r by lia,b,show p=2*w*q+(r+w) by lia,a]
theorem nV(x p m:Nat)(hx:0<x):ak x (p+2*x*m)=ak x p:=by
 unfold ak;rw[show p+2*x*m=p+x*(2*m) by rw[Nat.mul_comm 2 x,Nat.mul_assoc],Nat.add_mul_div_left _ _ hx]
 lia
theorem iz{n i j p:Nat}(hi:i<n)(hj:j<n)(hij:i≠j):ak (wt n j) (flp (wt n i) p)=ak (wt n j) p:=by
 have hw:=aU n i;by_cases h:j<i
 ·
  have e:wt n j=2*wt n i*2^(i-j-1):=by
   unfold wt;rw[show 2*2^(n-1-i)=2^(n-1-i+1) by rw[Nat.pow_succ,Nat.mul_comm],<-Nat.pow_add];congr 1;lia
  unfold ak;rw[e,<-Nat.div_div_eq_div_mul (flp (wt n i) p) (2*wt n i),<-Nat.div_div_eq_div_mul p (2*wt n i),zO hw]
 ·have e:wt n i=2*wt n j*2^(j-i-1):=by
   unfold wt;rw[show 2*2^(n-1-j)=2^(n-1-j+1) by rw[Nat.pow_succ,Nat.mul_comm],<-Nat.pow_add];congr 1;lia
  unfold flp;split
  ·rw[e];exact nV _ _ _ (aU n j)
  ·rename_i hb
   have h2:=bA (wt n i) p;have:=li (w:=wt n i) (p:=p) hw (by lia);have:=nV (wt n j) (p-wt n i) (2^(j-i-1)) (aU n j);rw[<-this,<-e,Nat.sub_add_cancel (by assumption)]
theorem dD{w p:Nat}(hw:0<w):ak w (flp w p)=1-ak w p:=by
 obtain⟨q,r,e,hr⟩:=iy w p hw;have h2:=bA w p;unfold flp;split
 ·rename_i h
  rw[h]at e;rw[h,show p+w=(2*q+1)*w+r by rw[Nat.add_mul]at e ⊢;lia];exact se (by decide) hr
 ·rename_i h
  have h1:ak w p=1:=by lia
  rw[h1]at e;rw[h1,show p-w=(2*q+0)*w+r by rw[Nat.add_mul]at e ⊢;lia];exact se (by decide) hr
theorem lg{w p:Nat}(hw:0<w):flp w (flp w p)=p:=by
 have h:=dD (p:=p) hw;have h2:=bA w p;by_cases c:ak w p=0
 ·have e:flp w p=p+w:=if_pos c
  rw[c]at h;rw[e]at h ⊢;unfold flp;rw[if_neg (by lia)];lia
 ·have c1:ak w p=1:=by lia
  have e:flp w p=p-w:=if_neg c;have:=li hw c1;rw[c1]at h;rw[e]at h ⊢;unfold flp;rw[if_pos (by lia)];lia
theorem kO(a b:Nat):Builtin.bitAnd (a:Int) (b:Int)=((a &&& b:Nat):Int):=by
 unfold Builtin.bitAnd;simp
theorem uc{x y z:Nat}(h:x/2=y/2+z/2)(m:x%2=y%2+z%2):x=y+z:=by lia
theorem uI{u v w:Nat}{p q:Prop}(hu:u<2)(hv:v<2)(hw:w<2)(m1:u=1↔p\/q)(m2:v=1 ↔ ¬(p↔q))(m3:w=1↔p/\q):u=v+w:=by
 have z:∀{x:Nat},x<2->¬x=1->x=0:=fun h k=>by lia
 by_cases a:p<;>by_cases b:q
 ·rw[m1.mpr (.inl a),m3.mpr ⟨a,b⟩,z hv fun e=>m2.mp e ⟨fun _=>b,fun _=>a⟩]
 ·rw[m1.mpr (.inl a),m2.mpr fun e=>b (e.mp a),z hw fun e=>b (m3.mp e).2]
 ·rw[m1.mpr (.inr b),m2.mpr fun e=>a (e.mpr b),z hw fun e=>a (m3.mp e).1]
 ·rw[z hu fun e=>(m1.mp e).elim a b,z hv fun e=>m2.mp e ⟨fun c=>absurd c a,fun c=>absurd c b⟩,z hw fun e=>a (m3.mp e).1]
theorem mD:∀(k a b:Nat),a<2^k->b<2^k->(a ||| b)=(a ^^^ b)+(a &&& b)
 | 0,a,b,ha,hb=>by
  have:a=0:=by simpa using ha
  have:b=0:=by simpa using hb
  subst a;subst b;rfl
 |k+1,a,b,ha,hb=>by
  have ih:=mD k (a/2) (b/2) (by rw[Nat.pow_succ]at ha;lia) (by rw[Nat.pow_succ]at hb;lia);have h1:=@Nat.or_div_two a b;have h2:=@Nat.xor_div_two a b;have h3:=@Nat.and_div_two a b;have m1:=@Nat.or_mod_two_eq_one a b;have m2:=@Nat.xor_mod_two_eq_one a b;have m3:=@Nat.and_mod_two_eq_one a b;rw[<-h1,<-h2,<-h3]at ih;exact uc ih (uI (Nat.mod_lt _ (by decide)) (Nat.mod_lt _ (by decide)) (Nat.mod_lt _ (by decide)) m1 m2 m3)
theorem Dh(a b:Nat):Builtin.bitOr (a:Int) (b:Int)=((a ||| b:Nat):Int):=by
 have h1:¬(0:Int)<=Builtin.bitNot (a:Int):=by unfold Builtin.bitNot;lia
 have h2:¬(0:Int)<=Builtin.bitNot (b:Int):=by unfold Builtin.bitNot;lia
 have e1:(Builtin.bitNot (Builtin.bitNot (a:Int))).toNat=a:=by unfold Builtin.bitNot;lia
 have e2:(Builtin.bitNot (Builtin.bitNot (b:Int))).toNat=b:=by unfold Builtin.bitNot;lia
 unfold Builtin.bitOr Builtin.bitAnd;rw[decide_eq_false h1,decide_eq_false h2];dsimp only;rw[e1,e2];unfold Builtin.bitNot
 lia
theorem iY(a b:Nat):Builtin.bitXor (a:Int) (b:Int)=((a ^^^ b:Nat):Int):=by
 unfold Builtin.bitXor;rw[Dh,kO];have h:∀n:Nat,n<2^n:=fun n=>Nat.lt_two_pow_self
 have:=mD (max a b) a b (Nat.lt_of_lt_of_le (h a) (Nat.pow_le_pow_right (by decide) (by lia))) (Nat.lt_of_lt_of_le (h b) (Nat.pow_le_pow_right (by decide) (by lia)))
 lia
noncomputable def nS(n:Nat):Nat:=if n=0 then 0 else n%2+nS (n/2)
termination_by n
decreasing_by lia
theorem fS:nS 0=0:=by unfold nS;simp
theorem ck(n:Nat):nS n=n%2+nS (n/2):=by
 by_cases h:n=0
 ·subst h;simp[fS]
 ·rw[nS,if_neg h]
theorem xq:∀(k n:Nat),n<2^k->nS n<=k
 | 0,n,h=>by
  have:n=0:=by simpa using h
  subst this;rw[fS];lia
 |k+1,n,h=>by
  have:=xq k (n/2) (by rw[Nat.pow_succ]at h;lia);rw[ck];lia
theorem nR:∀(k a b:Nat),a<2^k->b<2^k->nS (a ^^^ b)%2=(nS a+nS b)%2
 | 0,a,b,ha,hb=>by
  have:a=0:=by simpa using ha
  have:b=0:=by simpa using hb
  subst a;subst b;simp[fS]
 |k+1,a,b,ha,hb=>by
  have ih:=nR k (a/2) (b/2) (by rw[Nat.pow_succ]at ha;lia) (by rw[Nat.pow_succ]at hb;lia);have h2:=@Nat.xor_div_two a b;have m2:=@Nat.xor_mod_two_eq_one a b;rw[ck (a ^^^ b),ck a,ck b,h2]
  lia
theorem qe(a b:Nat):∃k,a<2^k/\b<2^k:=by
 have h:∀n:Nat,n<2^n:=fun n=>Nat.lt_two_pow_self
 exact⟨max a b,Nat.lt_of_lt_of_le (h a) (Nat.pow_le_pow_right (by decide) (by lia)),Nat.lt_of_lt_of_le (h b) (Nat.pow_le_pow_right (by decide) (by lia))⟩
theorem zZ(a b:Nat):nS (a ^^^ b)%2=(nS a+nS b)%2:=by
 obtain⟨k,h1,h2⟩:=qe a b;exact nR k a b h1 h2
theorem jZ:∀(k n:Nat),n<2^k->n≠0->nS (n &&& (n-1))+1=nS n
 | 0,n,h,h0=>by
  have:n=0:=by simpa using h
  exact absurd this h0
 |k+1,n,h,h0=>by
  have h3:=@Nat.and_div_two n (n-1);have m3:=@Nat.and_mod_two_eq_one n (n-1);rw[ck (n &&& (n-1)),ck n,h3];by_cases o:n%2=1
  ·have e:(n-1)/2=n/2:=by lia
   rw[e,Nat.and_self]
   lia
  ·have ih:=jZ k (n/2) (by rw[Nat.pow_succ]at h;lia) (by lia)
   have e:(n-1)/2=n/2-1:=by lia
   rw[e]
   lia
noncomputable def par(n:Nat):Nat:=nS n%2
theorem d5(n:Nat):par n<2:=Nat.mod_lt _ (by decide)
theorem ji(a b:Nat):par (a ^^^ b)=(par a+par b)%2:=by
 unfold par;rw[zZ];lia
theorem cD:par 0=0:=by unfold par;rw[fS]
theorem nq{n:Nat}(h:n<64):par n=(n%2+n/2%2+n/4%2+n/8%2+n/16%2+n/32%2)%2:=by
 unfold par;rw[ck n,ck (n/2),ck (n/2/2),ck (n/2/2/2),ck (n/2/2/2/2),ck (n/2/2/2/2/2),show n/2/2/2/2/2/2=0 by lia,fS];simp only[Nat.div_div_eq_div_mul]
 lia
structure Wd where
 x:Nat
 z:Nat
 s:Nat
def Wd.ok(n:Nat)(w:Wd):Prop:=w.x<2^n/\w.z<2^n/\w.s<4
noncomputable def ax(u v:Wd):Wd:=⟨u.x ^^^ v.x,u.z ^^^ v.z,(u.s+v.s+2*par (u.z &&& v.x))%4⟩
theorem be{n:Nat}{u v:Wd}(hu:u.ok n)(hv:v.ok n):(ax u v).ok n:=⟨Nat.xor_lt_two_pow hu.1 hv.1,Nat.xor_lt_two_pow hu.2.1 hv.2.1,Nat.mod_lt _ (by decide)⟩
def Sh(k:Nat)(d:PyData):Prop:=d.canLay0=true/\d.depth<=k
theorem Sh.int(k:Nat)(i:Int):Sh k (.int i):=⟨by simp[PyData.canLay0],by simp[PyData.depth]⟩
theorem Sh.all{k:Nat}:∀(xs:List PyData),(∀x∈xs,Sh k x)->PyData.canLayAll0 xs=true/\PyData.depthAll xs<=k
 |[],_=>⟨by simp[PyData.canLayAll0],by simp[PyData.depthAll]⟩
 |x::xs,h=>by
  obtain⟨a,b⟩:=Sh.all xs fun y hy=>h y (List.mem_cons_of_mem _ hy)
  obtain⟨c,d⟩:=h x List.mem_cons_self;refine⟨by simp[PyData.canLayAll0,a,c],?_⟩;simp only[PyData.depthAll]
  lia
theorem Sh.tuple{k:Nat}{xs:List PyData}(h:∀x∈xs,Sh k x):Sh (k+1) (.tuple xs):=by
 obtain⟨a,b⟩:=Sh.all xs h;exact⟨by simp[PyData.canLay0,a],by simp only[PyData.depth];lia⟩
noncomputable def val(M:Nat)(u:Nu):Q4:=Q4.rtn (M-u.2) u.1
theorem oN(x:Q4)(k M:Nat)(h:k<=M):Q4.rtn (M-(num x k).2.toNat) (num x k).1=Q4.rtn (M-k) x:=by
 obtain⟨s1,s2,s3⟩:=eQ x k (by lia);have h0:=s1.1;have e:M-(num x (k:Int)).2.toNat=(M-k)+((k:Int)-(num x (k:Int)).2).toNat:=by lia
 rw[e,Q4.rtn_add,s3]
theorem lA(M e:Nat)(u:Nu):val M (aD e u)=df (e%8) (val M u):=by
 unfold val aD;rw[sI]
theorem pz{M:Nat}{u v:Nu}(hu:u.2<=M)(hv:v.2<=M):val M (bM u v)=Q4.add (val M u) (val M v):=by
 unfold val bM fg;have hk:max (u.2:Int) v.2=((max u.2 v.2:Nat):Int):=by lia
 rw[hk];simp only;rw[oN _ _ M (by lia),Q4.rtn_addQ,<-Q4.rtn_add,<-Q4.rtn_add];congr 2<;>congr 1<;>lia
theorem pA{M:Nat}{u:Nu}(hu:u.2+1<=M):Q4.rt (val M (cg u))=val M u:=by
 unfold val cg;rw[oN _ _ M hu,<-Q4.rtn_succ];congr 1
 lia
def bu(u:Nu):Prop:=Q4.Least u.1 u.2
theorem fV{M:Nat}{u v:Nu}(hu:bu u)(hv:bu v)(h1:u.2<=M)(h2:v.2<=M)(h:val M u=val M v):u=v:=by
 obtain⟨a,b⟩:=Q4.Least.one hu hv h1 h2 h;exact Prod.ext a b
theorem nt(x:Q4)(k:Nat):bu ((num x k).1,(num x k).2.toNat):=by
 obtain⟨s1,s2,s3⟩:=eQ x k (by lia);show Q4.Least (num x k).1 ((num x k).2.toNat:Int);rw[Int.toNat_of_nonneg s1.1];exact s1
theorem rV(u:Nu):bu (cg u):=nt _ _
theorem iO{u:Nu}(e:Nat)(h:bu u):bu (aD e u):=uf _ h
theorem dM{f:Nat->Nu}(h:∀p,bu (f p))(n:Nat)(r:Row)(p:Nat):bu (aB n f r p):=by
 cases r with
 |swing j=>
  show bu (if ak (wt n j) p=0 then _ else _);split<;>exact rV _
 |turn j e=>exact iO _ (h p)
 |sign i j=>exact iO _ (h p)
 |flip j=>exact h _
 |tie i j=>exact h _
 |cross i j=>exact h _
noncomputable def vP:Nat->(Nat->Int)->Int
 | 0,_=>0
 |n+1,F=>vP n F+F n
theorem rh{F G:Nat->Int}:∀(n:Nat),(∀p,p<n->F p=G p)->vP n F=vP n G
 | 0,_=>rfl
 |n+1,h=>by
  show vP n F+F n=vP n G+G n;rw[rh n fun p hp=>h p (by lia),h n (by lia)]
theorem zP{w p:Nat}(hw:0<w):((flp w p:Nat):Int)=(p:Int)+w-2*((w*ak w p:Nat):Int):=by
 have h2:=bA w p;unfold flp;by_cases h:ak w p=0
 ·rw[if_pos h,h];lia
 ·have h1:ak w p=1:=by lia
  have:=li hw h1;rw[if_neg h,h1];lia
theorem xg{n i j p:Nat}(hi:i<n)(hj:j<n)(hij:i≠j):flp (wt n j) (flp (wt n i) p)=flp (wt n i) (flp (wt n j) p):=by
 have a:=zP (p:=flp (wt n i) p) (aU n j);have b:=zP (p:=flp (wt n j) p) (aU n i);rw[iz hi hj hij,zP (aU n i)]at a;rw[iz hj hi (Ne.symm hij),zP (aU n j)]at b
 lia
theorem fM(u v:Nu):(bM u v).2<=max u.2 v.2:=by
 have hk:max (u.2:Int) v.2=((max u.2 v.2:Nat):Int):=by lia
 unfold bM fg;rw[hk];obtain⟨s1,s2,s3⟩:=eQ (Q4.add (Q4.rtn (((max u.2 v.2:Nat):Int)-u.2).toNat u.1) (Q4.rtn (((max u.2 v.2:Nat):Int)-v.2).toNat v.1)) ((max u.2 v.2:Nat):Int) (by lia);show(num _ _).2.toNat<=_
 lia
theorem sT(x y:Q4):Q4.rt (Q4.rt (Q4.mul x y))=Q4.mul (Q4.rt x) (Q4.rt y):=by
 rw[Q4.rt_mul,Q4.mul_comm,Q4.rt_mul,Q4.mul_comm]
noncomputable def aK(u v:Nu):Nu:=((eK u.1 u.2 v.1 v.2).1,(eK u.1 u.2 v.1 v.2).2.toNat)
theorem fY(u v:Nu):(u.2:Int)+v.2=((u.2+v.2:Nat):Int):=by lia
theorem e8(u v:Nu):bu (aK u v):=by
 unfold aK eK;rw[fY];exact nt _ _
theorem io(u v:Nu):(aK u v).2<=u.2+v.2:=by
 unfold aK eK;rw[fY];obtain⟨s1,s2,s3⟩:=eQ (Q4.mul u.1 v.1) ((u.2+v.2:Nat):Int) (by lia);show(num _ _).2.toNat<=_
 lia
theorem ik{M N:Nat}{u v:Nu}(hu:u.2<=M)(hv:v.2<=N):val (M+N) (aK u v)=Q4.mul (val M u) (val N v):=by
 unfold val aK eK;rw[fY];simp only;rw[oN _ _ (M+N) (by lia),show M+N-(u.2+v.2)=(M-u.2)+(N-v.2) by lia,Q4.rtn_mul2]
theorem pO:∀k,Q4.rtn k ⟨0,0,0,0⟩=⟨0,0,0,0⟩
 | 0=>rfl
 |k+1=>by rw[Q4.rtn_succ,pO k];rfl
theorem Bl(x y:Q4):Q4.tn (Q4.add x y)=Q4.add (Q4.tn x) (Q4.tn y):=by apply Q4.ext'<;>simp only[Q4.tn,Q4.add]<;>lia
theorem vE(e:Nat):∀(x y:Q4),df e (Q4.add x y)=Q4.add (df e x) (df e y):=by
 induction e with
 |zero=>intro x y;rfl
 |succ e ih=>
  intro x y;have e1:∀z,df (e+1) z=df e (Q4.tn z):=fun z=>by rw[dN e 1 z];rfl
  rw[e1,e1,e1,Bl,ih]
theorem eG{n M j:Nat}{f:Nat->Nu}(hf:∀p,(f p).2+1<=M)(x:Nat):Q4.rt (val M (aB n f (.swing j) x))=if ak (wt n j) x=0 then Q4.add (val M (f x)) (val M (f (x+wt n j)))else Q4.add (val M (f (x-wt n j))) (df 4 (val M (f x))):=by
 show Q4.rt (val M (if ak (wt n j) x=0 then cg (bM (f x) (f (x+wt n j)))else cg (bM (f (x-wt n j)) (aD 4 (f x)))))=_;split
 ·have a:=hf x
  have b:=hf (x+wt n j);have l:=fM (f x) (f (x+wt n j));rw[pA (by lia),pz (by lia) (by lia)]
 ·have a:=hf x
  have b:=hf (x-wt n j);have l:(bM (f (x-wt n j)) (aD 4 (f x))).2<=max (f (x-wt n j)).2 (f x).2:=fM _ _;rw[pA (by lia),pz (by lia) (by show(f x).2<=M;lia),lA]
noncomputable def du(p:Nat):Nat->Nu:=fun q=>if q=p then(⟨1,0,0,0⟩,0)else(⟨0,0,0,0⟩,0)
theorem nv(x:Q4):Q4.mul x ⟨0,0,0,0⟩=⟨0,0,0,0⟩:=by apply Q4.ext'<;>simp[Q4.mul]
theorem gH(M:Nat):val M (⟨0,0,0,0⟩,0)=⟨0,0,0,0⟩:=pO _
theorem uz(p x:Nat):bu (du p x):=by
 unfold du;split
 ·exact⟨Int.le_refl 0,fun z=>absurd z (Int.lt_irrefl 0)⟩
 ·exact⟨Int.le_refl 0,fun z=>absurd z (Int.lt_irrefl 0)⟩
theorem FA:((List.range 6).all fun k=>(List.range 64).all fun p=>p &&& 2^k==2^k*ak (2^k) p)=true:=by decide +kernel
theorem kt{n i a:Nat}(hn:n<=6)(hi:i<n)(ha:a<2^n):a &&& wt n i=wt n i*ak (wt n i) a:=by
 have h:=FA;rw[List.all_eq_true]at h;have h:=h (n-1-i) (List.mem_range.mpr (by lia));rw[List.all_eq_true]at h;have h:=h a (List.mem_range.mpr (Nat.lt_of_lt_of_le ha (Nat.pow_le_pow_right (by decide) hn:2^n<=2^6)));exact beq_iff_eq.mp h
theorem y7:∀k,k<6->par (2^k)=1
 | 0,_=>by rw[nq (by decide)]
 | 1,_=>by rw[nq (by decide)]
 | 2,_=>by rw[nq (by decide)]
 | 3,_=>by rw[nq (by decide)]
 | 4,_=>by rw[nq (by decide)]
 | 5,_=>by rw[nq (by decide)]
 |k+6,h=>by lia
theorem sE(a b:Nat):∀k,(a ^^^ b)/2^k=a/2^k ^^^ b/2^k
 | 0=>by simp
 |k+1=>by
  rw[Nat.pow_succ,<-Nat.div_div_eq_div_mul,<-Nat.div_div_eq_div_mul,<-Nat.div_div_eq_div_mul,sE a b k,Nat.xor_div_two]
theorem aC(n i a b:Nat):ak (wt n i) (a ^^^ b)=(ak (wt n i) a+ak (wt n i) b)%2:=by
 unfold ak wt;rw[sE];have:=@Nat.xor_mod_two_eq_one (a/2^(n-1-i)) (b/2^(n-1-i))
 lia
theorem g8(w:Nat):ak w 0=0:=by unfold ak;simp
theorem g9{n i:Nat}(e:Nat)(he:e<2):ak (wt n i) (wt n i*e)=e:=by
 have:=se (w:=wt n i) (q:=0) (b:=e) (r:=0) he (aU n i);rw[show(2*0+e)*wt n i+0=wt n i*e by rw[Nat.mul_zero,Nat.zero_add,Nat.add_zero,Nat.mul_comm]]at this;exact this
theorem fF{n i j:Nat}(hi:i<n)(hj:j<n)(hij:i≠j)(e:Nat)(he:e<2):ak (wt n i) (wt n j*e)=0:=by
 have h:e=0\/e=1:=by lia
 rcases h with rfl|rfl
 ·rw[Nat.mul_zero,g8]
 ·have:=iz (p:=0) hj hi (Ne.symm hij)
  rw[show flp (wt n j) 0=wt n j by unfold flp;rw[if_pos (g8 _),Nat.zero_add],g8]at this;rw[Nat.mul_one];exact this
theorem bZ{n i z:Nat}(hn:n<=6)(hi:i<n)(hz:z<2^n)(e:Nat)(he:e<2):par ((wt n i*e) &&& z)=e*ak (wt n i) z:=by
 have h:e=0\/e=1:=by lia
 have hb:=bA (wt n i) z;rcases h with rfl|rfl
 ·rw[Nat.mul_zero,Nat.zero_and,cD,Nat.zero_mul]
 ·rw[Nat.mul_one,Nat.and_comm,kt hn hi hz,Nat.one_mul]
  have h2:ak (wt n i) z=0\/ak (wt n i) z=1:=by lia
  rcases h2 with h2|h2
  ·rw[h2,Nat.mul_zero,cD]
  ·rw[h2,Nat.mul_one];exact y7 _ (by lia)
theorem fN(a b c:Nat):par ((a ^^^ b) &&& c)=(par (a &&& c)+par (b &&& c))%2:=by rw[Nat.and_xor_distrib_right,ji]
theorem fh(a b c:Nat):par (a &&& (b ^^^ c))=(par (a &&& b)+par (a &&& c))%2:=by rw[Nat.and_xor_distrib_left,ji]
theorem gK{n i z:Nat}(hn:n<=6)(hi:i<n)(hz:z<2^n)(e:Nat)(he:e<2):par (z &&& (wt n i*e))=e*ak (wt n i) z:=by rw[Nat.and_comm];exact bZ hn hi hz e he
theorem w_lt{n i:Nat}(hi:i<n)(e:Nat)(he:e<2):wt n i*e<2^n:=by
 have h:=Dk hi;have h0:=aU n i;have:e=0\/e=1:=by lia
 rcases this with rfl|rfl
 ·have:0<2^n:=Nat.pow_pos (by decide)
  lia
 ·lia
theorem iG(w a b:Nat)(ha:a<2)(hb:b<2):w*((a+b)%2)=w*a ^^^ w*b:=by
 have h1:a=0\/a=1:=by lia
 have h2:b=0\/b=1:=by lia
 rcases h1 with rfl|rfl<;>rcases h2 with rfl|rfl<;>simp
noncomputable def carry(n:Nat):Row->Wd->Wd
 |.swing j,u=>⟨u.x ^^^ wt n j*((ak (wt n j) u.x+ak (wt n j) u.z)%2),u.z ^^^ wt n j*((ak (wt n j) u.x+ak (wt n j) u.z)%2),(u.s+2*(ak (wt n j) u.x*ak (wt n j) u.z))%4⟩
 |.turn j e,u=>⟨u.x,u.z ^^^ wt n j*(ak (wt n j) u.x*(if e%4=2 then 1 else 0)),(u.s+(e/2)*ak (wt n j) u.x)%4⟩
 |.flip j,u=>⟨u.x,u.z,(u.s+2*ak (wt n j) u.z)%4⟩
 |.tie i j,u=>⟨u.x ^^^ wt n j*ak (wt n i) u.x,u.z ^^^ wt n i*ak (wt n j) u.z,u.s⟩
 |.sign i j,u=>⟨u.x,u.z ^^^ wt n j*ak (wt n i) u.x ^^^ wt n i*ak (wt n j) u.x,(u.s+2*(ak (wt n i) u.x*ak (wt n j) u.x))%4⟩
 |.cross i j,u=>⟨u.x ^^^ (wt n i*((ak (wt n i) u.x+ak (wt n j) u.x)%2) ^^^ wt n j*((ak (wt n i) u.x+ak (wt n j) u.x)%2)),u.z ^^^ (wt n i*((ak (wt n i) u.z+ak (wt n j) u.z)%2) ^^^ wt n j*((ak (wt n i) u.z+ak (wt n j) u.z)%2)),u.s⟩
def vm(n:Nat):Row->Wd->Prop
 |.turn j e,u=>e%2=0\/ak (wt n j) u.x=0
 |_,_=>True
theorem fT{n:Nat}{r:Row}(hr:r.ok n){u:Wd}(hu:u.ok n):(carry n r u).ok n:=by
 obtain⟨h1,h2,h3⟩:=hu;have m:∀a:Nat,a%2<2:=fun a=>Nat.mod_lt _ (by decide)
 have m4:∀a:Nat,a%4<4:=fun a=>Nat.mod_lt _ (by decide)
 have b:∀w p,ak w p<2:=bA;have bc:∀w p (c:Nat),c<2->ak w p*c<2:=fun w p c hc=>by
  have h:=b w p;have h1:ak w p=0\/ak w p=1:=by lia
  rcases h1 with h1|h1<;>rw[h1]<;>lia
 cases r with
 |swing j=>exact⟨Nat.xor_lt_two_pow h1 (w_lt hr _ (m _)),Nat.xor_lt_two_pow h2 (w_lt hr _ (m _)),m4 _⟩
 |turn j e=>exact⟨h1,Nat.xor_lt_two_pow h2 (w_lt hr.1 _ (bc _ _ _ (by split<;>decide))),m4 _⟩
 |flip j=>exact⟨h1,h2,m4 _⟩
 |tie i j=>exact⟨Nat.xor_lt_two_pow h1 (w_lt hr.2.1 _ (b _ _)),Nat.xor_lt_two_pow h2 (w_lt hr.1 _ (b _ _)),h3⟩
 |sign i j=>exact⟨h1,Nat.xor_lt_two_pow (Nat.xor_lt_two_pow h2 (w_lt hr.2.1 _ (b _ _))) (w_lt hr.1 _ (b _ _)),m4 _⟩
 |cross i j=>exact⟨Nat.xor_lt_two_pow h1 (Nat.xor_lt_two_pow (w_lt hr.1 _ (m _)) (w_lt hr.2.1 _ (m _))),Nat.xor_lt_two_pow h2 (Nat.xor_lt_two_pow (w_lt hr.1 _ (m _)) (w_lt hr.2.1 _ (m _))),h3⟩
theorem cx{u v:Wd}(h1:u.x=v.x)(h2:u.z=v.z)(h3:u.s=v.s):u=v:=by
 cases u;cases v;simp_all
theorem pR{n i z x:Nat}(hn:n<=6)(hi:i<n)(hz:z<2^n)(hx:x<2^n)(a c:Nat)(ha:a<2)(hc:c<2):par ((z ^^^ wt n i*a) &&& (x ^^^ wt n i*c))=(par (z &&& x)+c*ak (wt n i) z+a*ak (wt n i) x+a*c)%2:=by
 rw[fN,fh,fh,gK hn hi hz c hc,bZ hn hi hx a ha,bZ hn hi (w_lt hi c hc) a ha,g9 c hc]
 lia
theorem gM{n i j z x:Nat}(hn:n<=6)(hi:i<n)(hj:j<n)(hij:i≠j)(hz:z<2^n)(hx:x<2^n)(a b c d:Nat)(ha:a<2)(hb:b<2)(hc:c<2)(hd:d<2):par ((z ^^^ (wt n i*a ^^^ wt n j*b)) &&& (x ^^^ (wt n i*c ^^^ wt n j*d)))=(par (z &&& x)+c*ak (wt n i) z+d*ak (wt n j) z+a*ak (wt n i) x+b*ak (wt n j) x+a*c+b*d)%2:=by
 rw[fN,fh,fh z,gK hn hi hz c hc,gK hn hj hz d hd,fN (wt n i*a),fh (wt n i*a),fh (wt n j*b),bZ hn hi hx a ha,bZ hn hj hx b hb,fh (wt n i*a),fh (wt n j*b),bZ hn hi (w_lt hi c hc) a ha,bZ hn hi (w_lt hj d hd) a ha,bZ hn hj (w_lt hi c hc) b hb,bZ hn hj (w_lt hj d hd) b hb,g9 c hc,g9 d hd,fF hi hj hij d hd,fF hj hi (Ne.symm hij) c hc]
 lia
theorem b01(w p:Nat):ak w p=0\/ak w p=1:=by have:=bA w p;lia
theorem zero_xor(a:Nat):0 ^^^ a=a:=Nat.zero_xor a
theorem j0{n:Nat}(hn:n<=6){r:Row}(hr:r.ok n){u v:Wd}(hu:u.ok n)(hv:v.ok n)(lu:vm n r u)(lv:vm n r v):carry n r (ax u v)=ax (carry n r u) (carry n r v):=by
 have m:∀a:Nat,a%2<2:=fun a=>Nat.mod_lt _ (by decide)
 have b:∀w p,ak w p<2:=bA;cases r with
 |swing j=>
  have e1:wt n j*((ak (wt n j) (u.x ^^^ v.x)+ak (wt n j) (u.z ^^^ v.z))%2)=wt n j*((ak (wt n j) u.x+ak (wt n j) u.z)%2) ^^^ wt n j*((ak (wt n j) v.x+ak (wt n j) v.z)%2):=by
   rw[<-iG _ _ _ (m _) (m _),aC,aC];congr 1
   lia
  apply cx
  ·show(u.x ^^^ v.x) ^^^ wt n j*((ak (wt n j) (u.x ^^^ v.x)+ak (wt n j) (u.z ^^^ v.z))%2)=(u.x ^^^ _) ^^^ (v.x ^^^ _)
   rw[e1];ac_rfl
  ·show(u.z ^^^ v.z) ^^^ wt n j*((ak (wt n j) (u.x ^^^ v.x)+ak (wt n j) (u.z ^^^ v.z))%2)=(u.z ^^^ _) ^^^ (v.z ^^^ _)
   rw[e1];ac_rfl
  ·show((u.s+v.s+2*par (u.z &&& v.x))%4+2*(ak (wt n j) (u.x ^^^ v.x)*ak (wt n j) (u.z ^^^ v.z)))%4=((u.s+2*(ak (wt n j) u.x*ak (wt n j) u.z))%4+(v.s+2*(ak (wt n j) v.x*ak (wt n j) v.z))%4+2*par ((u.z ^^^ wt n j*((ak (wt n j) u.x+ak (wt n j) u.z)%2)) &&& (v.x ^^^ wt n j*((ak (wt n j) v.x+ak (wt n j) v.z)%2))))%4
   rw[pR hn hr hu.2.1 hv.1 _ _ (m _) (m _),aC,aC];generalize par (u.z &&& v.x)=P;rcases b01 (wt n j) u.x with h1|h1<;>rcases b01 (wt n j) u.z with h2|h2<;>rcases b01 (wt n j) v.x with h3|h3<;>rcases b01 (wt n j) v.z with h4|h4<;>rw[h1,h2,h3,h4]<;>lia
 |turn j e=>
  have k:(if e%4=2 then 1 else 0:Nat)<2:=by split<;>decide
  have lt:∀w:Wd,ak (wt n j) w.x*(if e%4=2 then 1 else 0)<2:=fun w=>by rcases b01 (wt n j) w.x with h|h<;>rw[h]<;>lia
  have e1:wt n j*(ak (wt n j) (u.x ^^^ v.x)*(if e%4=2 then 1 else 0))=wt n j*(ak (wt n j) u.x*(if e%4=2 then 1 else 0)) ^^^ wt n j*(ak (wt n j) v.x*(if e%4=2 then 1 else 0)):=by
   rw[<-iG _ _ _ (lt u) (lt v),aC];congr 1;rcases b01 (wt n j) u.x with h1|h1<;>rcases b01 (wt n j) v.x with h2|h2<;>rw[h1,h2]<;>split<;>rfl
  apply cx
  ·rfl
  ·show(u.z ^^^ v.z) ^^^ wt n j*(ak (wt n j) (u.x ^^^ v.x)*_)=(u.z ^^^ _) ^^^ (v.z ^^^ _)
   rw[e1];ac_rfl
  ·show((u.s+v.s+2*par (u.z &&& v.x))%4+(e/2)*ak (wt n j) (u.x ^^^ v.x))%4=((u.s+(e/2)*ak (wt n j) u.x)%4+(v.s+(e/2)*ak (wt n j) v.x)%4+2*par ((u.z ^^^ wt n j*(ak (wt n j) u.x*(if e%4=2 then 1 else 0))) &&& v.x))%4
   rw[fN,bZ hn hr.1 hv.1 _ (lt u),aC];generalize par (u.z &&& v.x)=P;have lu:e%2=0\/ak (wt n j) u.x=0:=lu;have lv:e%2=0\/ak (wt n j) v.x=0:=lv;rcases b01 (wt n j) u.x with h1|h1<;>rcases b01 (wt n j) v.x with h2|h2<;>rw[h1]at lu<;>rw[h2]at lv<;>rw[h1,h2]<;>split<;>lia
 |flip j=>
  apply cx
  ·rfl
  ·rfl
  ·show((u.s+v.s+2*par (u.z &&& v.x))%4+2*ak (wt n j) (u.z ^^^ v.z))%4=((u.s+2*ak (wt n j) u.z)%4+(v.s+2*ak (wt n j) v.z)%4+2*par (u.z &&& v.x))%4
   rw[aC]
   lia
 |tie i j=>
  obtain⟨hi,hj,hij⟩:=hr;apply cx
  ·show(u.x ^^^ v.x) ^^^ wt n j*ak (wt n i) (u.x ^^^ v.x)=(u.x ^^^ _) ^^^ (v.x ^^^ _)
   rw[aC,iG _ _ _ (b _ _) (b _ _)];ac_rfl
  ·show(u.z ^^^ v.z) ^^^ wt n i*ak (wt n j) (u.z ^^^ v.z)=(u.z ^^^ _) ^^^ (v.z ^^^ _)
   rw[aC,iG _ _ _ (b _ _) (b _ _)];ac_rfl
  ·show(u.s+v.s+2*par (u.z &&& v.x))%4=(u.s+v.s+2*par ((u.z ^^^ wt n i*ak (wt n j) u.z) &&& (v.x ^^^ wt n j*ak (wt n i) v.x)))%4
   have:=gM hn hi hj hij hu.2.1 hv.1 (ak (wt n j) u.z) 0 0 (ak (wt n i) v.x) (b _ _) (by decide) (by decide) (b _ _);rw[Nat.mul_zero,Nat.mul_zero,Nat.xor_zero,zero_xor]at this;rw[this];generalize par (u.z &&& v.x)=P;rcases b01 (wt n j) u.z with h1|h1<;>rcases b01 (wt n i) v.x with h2|h2<;>rw[h1,h2]<;>lia
 |sign i j=>
  obtain⟨hi,hj,hij⟩:=hr;apply cx
  ·rfl
  ·show(u.z ^^^ v.z) ^^^ wt n j*ak (wt n i) (u.x ^^^ v.x) ^^^ wt n i*ak (wt n j) (u.x ^^^ v.x)=(u.z ^^^ _ ^^^ _) ^^^ (v.z ^^^ _ ^^^ _)
   rw[aC,aC,iG _ _ _ (b _ _) (b _ _),iG _ _ _ (b _ _) (b _ _)];ac_rfl
  ·show((u.s+v.s+2*par (u.z &&& v.x))%4+2*(ak (wt n i) (u.x ^^^ v.x)*ak (wt n j) (u.x ^^^ v.x)))%4=((u.s+2*(ak (wt n i) u.x*ak (wt n j) u.x))%4+(v.s+2*(ak (wt n i) v.x*ak (wt n j) v.x))%4+2*par ((u.z ^^^ wt n j*ak (wt n i) u.x ^^^ wt n i*ak (wt n j) u.x) &&& v.x))%4
   rw[fN,fN,bZ hn hj hv.1 _ (b _ _),bZ hn hi hv.1 _ (b _ _),aC,aC];generalize par (u.z &&& v.x)=P;rcases b01 (wt n i) u.x with h1|h1<;>rcases b01 (wt n j) u.x with h2|h2<;>rcases b01 (wt n i) v.x with h3|h3<;>rcases b01 (wt n j) v.x with h4|h4<;>rw[h1,h2,h3,h4]<;>lia
 |cross i j=>
  obtain⟨hi,hj,hij⟩:=hr;have e1:∀a c w:Nat,w*((ak (wt n i) (a ^^^ c)+ak (wt n j) (a ^^^ c))%2)=w*((ak (wt n i) a+ak (wt n j) a)%2) ^^^ w*((ak (wt n i) c+ak (wt n j) c)%2):=fun a c w=>by
   rw[<-iG _ _ _ (m _) (m _),aC,aC];congr 1
   lia
  apply cx
  ·show(u.x ^^^ v.x) ^^^ (wt n i*((ak (wt n i) (u.x ^^^ v.x)+ak (wt n j) (u.x ^^^ v.x))%2) ^^^ wt n j*((ak (wt n i) (u.x ^^^ v.x)+ak (wt n j) (u.x ^^^ v.x))%2))=(u.x ^^^ (_ ^^^ _)) ^^^ (v.x ^^^ (_ ^^^ _))
   rw[e1,e1];ac_rfl
  ·show(u.z ^^^ v.z) ^^^ (wt n i*((ak (wt n i) (u.z ^^^ v.z)+ak (wt n j) (u.z ^^^ v.z))%2) ^^^ wt n j*((ak (wt n i) (u.z ^^^ v.z)+ak (wt n j) (u.z ^^^ v.z))%2))=(u.z ^^^ (_ ^^^ _)) ^^^ (v.z ^^^ (_ ^^^ _))
   rw[e1,e1];ac_rfl
  ·show(u.s+v.s+2*par (u.z &&& v.x))%4=(u.s+v.s+2*par ((u.z ^^^ (wt n i*((ak (wt n i) u.z+ak (wt n j) u.z)%2) ^^^ wt n j*((ak (wt n i) u.z+ak (wt n j) u.z)%2))) &&& (v.x ^^^ (wt n i*((ak (wt n i) v.x+ak (wt n j) v.x)%2) ^^^ wt n j*((ak (wt n i) v.x+ak (wt n j) v.x)%2)))))%4
   rw[gM hn hi hj hij hu.2.1 hv.1 _ _ _ _ (m _) (m _) (m _) (m _)];generalize par (u.z &&& v.x)=P;rcases b01 (wt n i) u.z with h1|h1<;>rcases b01 (wt n j) u.z with h2|h2<;>rcases b01 (wt n i) v.x with h3|h3<;>rcases b01 (wt n j) v.x with h4|h4<;>rw[h1,h2,h3,h4]<;>lia
noncomputable def mw:Row->Row
 |.turn j e=>.turn j (8-e)
 |r=>r
theorem fU(a b:Nat):a ^^^ b ^^^ b=a:=by rw[Nat.xor_assoc,Nat.xor_self,Nat.xor_zero]
theorem iW{n:Nat}{r:Row}(hr:r.ok n){u:Wd}(hu:u.ok n)(lu:vm n r u):carry n (mw r) (carry n r u)=u:=by
 have m:∀a:Nat,a%2<2:=fun a=>Nat.mod_lt _ (by decide)
 have b:∀w p,ak w p<2:=bA;have hs:=hu.2.2;cases r with
 |swing j=>
  have f1:ak (wt n j) (u.x ^^^ wt n j*((ak (wt n j) u.x+ak (wt n j) u.z)%2))=ak (wt n j) u.z:=by
   rw[aC,g9 _ (m _)];have:=b (wt n j) u.x;have:=b (wt n j) u.z
   lia
  have f2:ak (wt n j) (u.z ^^^ wt n j*((ak (wt n j) u.x+ak (wt n j) u.z)%2))=ak (wt n j) u.x:=by
   rw[aC,g9 _ (m _)];have:=b (wt n j) u.x;have:=b (wt n j) u.z
   lia
  apply cx
  ·show(u.x ^^^ _) ^^^ wt n j*((ak (wt n j) (u.x ^^^ _)+ak (wt n j) (u.z ^^^ _))%2)=u.x
   rw[f1,f2,Nat.add_comm (ak (wt n j) u.z),fU]
  ·show(u.z ^^^ _) ^^^ wt n j*((ak (wt n j) (u.x ^^^ _)+ak (wt n j) (u.z ^^^ _))%2)=u.z
   rw[f1,f2,Nat.add_comm (ak (wt n j) u.z),fU]
  ·show((u.s+2*(ak (wt n j) u.x*ak (wt n j) u.z))%4+2*(ak (wt n j) (u.x ^^^ _)*ak (wt n j) (u.z ^^^ _)))%4=u.s
   rw[f1,f2];rcases b01 (wt n j) u.x with h1|h1<;>rcases b01 (wt n j) u.z with h2|h2<;>rw[h1,h2]<;>lia
 |turn j e=>
  have k:(if(8-e)%4=2 then 1 else 0:Nat)=(if e%4=2 then 1 else 0):=by
   have:=hr.2;by_cases h:e%4=2
   ·rw[if_pos h,if_pos (by lia)]
   ·rw[if_neg h,if_neg (by lia)]
  apply cx
  ·rfl
  ·show(u.z ^^^ _) ^^^ wt n j*(ak (wt n j) u.x*(if(8-e)%4=2 then 1 else 0))=u.z
   rw[k,fU]
  ·show((u.s+(e/2)*ak (wt n j) u.x)%4+((8-e)/2)*ak (wt n j) u.x)%4=u.s
   have lu:e%2=0\/ak (wt n j) u.x=0:=lu;have:=hr.2;rcases b01 (wt n j) u.x with h1|h1<;>rw[h1]at lu<;>rw[h1]<;>lia
 |flip j=>
  apply cx
  ·rfl
  ·rfl
  ·show((u.s+2*ak (wt n j) u.z)%4+2*ak (wt n j) u.z)%4=u.s
   lia
 |tie i j=>
  obtain⟨hi,hj,hij⟩:=hr;apply cx
  ·show(u.x ^^^ _) ^^^ wt n j*ak (wt n i) (u.x ^^^ wt n j*ak (wt n i) u.x)=u.x
   rw[aC,fF hi hj hij _ (b _ _),Nat.add_zero,Nat.mod_eq_of_lt (b _ _),fU]
  ·show(u.z ^^^ _) ^^^ wt n i*ak (wt n j) (u.z ^^^ wt n i*ak (wt n j) u.z)=u.z
   rw[aC,fF hj hi (Ne.symm hij) _ (b _ _),Nat.add_zero,Nat.mod_eq_of_lt (b _ _),fU]
  ·rfl
 |sign i j=>
  apply cx
  ·rfl
  ·show(u.z ^^^ wt n j*ak (wt n i) u.x ^^^ wt n i*ak (wt n j) u.x) ^^^ wt n j*ak (wt n i) u.x ^^^ wt n i*ak (wt n j) u.x=u.z
   rw[show(u.z ^^^ wt n j*ak (wt n i) u.x ^^^ wt n i*ak (wt n j) u.x) ^^^ wt n j*ak (wt n i) u.x ^^^ wt n i*ak (wt n j) u.x=u.z ^^^ (wt n j*ak (wt n i) u.x ^^^ wt n j*ak (wt n i) u.x) ^^^ (wt n i*ak (wt n j) u.x ^^^ wt n i*ak (wt n j) u.x) by ac_rfl,Nat.xor_self,Nat.xor_self,Nat.xor_zero,Nat.xor_zero]
  ·show((u.s+2*(ak (wt n i) u.x*ak (wt n j) u.x))%4+2*(ak (wt n i) u.x*ak (wt n j) u.x))%4=u.s
   lia
 |cross i j=>
  obtain⟨hi,hj,hij⟩:=hr;have k:∀a:Nat,(ak (wt n i) (a ^^^ (wt n i*((ak (wt n i) a+ak (wt n j) a)%2) ^^^ wt n j*((ak (wt n i) a+ak (wt n j) a)%2)))+ak (wt n j) (a ^^^ (wt n i*((ak (wt n i) a+ak (wt n j) a)%2) ^^^ wt n j*((ak (wt n i) a+ak (wt n j) a)%2))))%2=(ak (wt n i) a+ak (wt n j) a)%2:=fun a=>by
   rw[aC,aC n j,aC n i (wt n i*_),aC n j (wt n i*_),g9 _ (m _),g9 _ (m _),fF hi hj hij _ (m _),fF hj hi (Ne.symm hij) _ (m _)]
   lia
  apply cx
  ·show(u.x ^^^ _) ^^^ (wt n i*((ak (wt n i) (u.x ^^^ _)+ak (wt n j) (u.x ^^^ _))%2) ^^^ wt n j*((ak (wt n i) (u.x ^^^ _)+ak (wt n j) (u.x ^^^ _))%2))=u.x
   rw[k,fU]
  ·show(u.z ^^^ _) ^^^ (wt n i*((ak (wt n i) (u.z ^^^ _)+ak (wt n j) (u.z ^^^ _))%2) ^^^ wt n j*((ak (wt n i) (u.z ^^^ _)+ak (wt n j) (u.z ^^^ _))%2))=u.z
   rw[k,fU]
  ·rfl
noncomputable def eX(f:Nat->Nu)(w:Wd)(p:Nat):Nu:=aD (2*w.s+4*par ((p ^^^ w.x) &&& w.z)) (f (p ^^^ w.x))
theorem Fz:((List.range 6).all fun k=>(List.range 64).all fun p=>p ^^^ 2^k==flp (2^k) p)=true:=by decide +kernel
theorem nK{n i a:Nat}(hn:n<=6)(hi:i<n)(ha:a<2^n):flp (wt n i) a=a ^^^ wt n i:=by
 have h:=Fz;rw[List.all_eq_true]at h;have h:=h (n-1-i) (List.mem_range.mpr (by lia));rw[List.all_eq_true]at h;have h:=h a (List.mem_range.mpr (Nat.lt_of_lt_of_le ha (Nat.pow_le_pow_right (by decide) hn:2^n<=2^6)));exact(beq_iff_eq.mp h).symm
theorem pp{n i:Nat}(hi:i<n):wt n i<2^n:=by
 have:=w_lt hi 1 (by decide)
 rwa [Nat.mul_one]at this
theorem Ay{n i j p:Nat}(hn:n<=6)(hj:j<n)(hp:p<2^n):eh n (.tie i j) p=p ^^^ wt n j*ak (wt n i) p:=by
 show(if ak (wt n i) p=0 then p else flp (wt n j) p)=_;rcases b01 (wt n i) p with h|h<;>rw[h]
 ·rw[if_pos rfl,Nat.mul_zero,Nat.xor_zero]
 ·rw[if_neg (by decide),Nat.mul_one,nK hn hj hp]
theorem lh{n i j p:Nat}(hn:n<=6)(hi:i<n)(hj:j<n)(hp:p<2^n):eh n (.cross i j) p=p ^^^ (wt n i*((ak (wt n i) p+ak (wt n j) p)%2) ^^^ wt n j*((ak (wt n i) p+ak (wt n j) p)%2)):=by
 show(if ak (wt n i) p=ak (wt n j) p then p else flp (wt n j) (flp (wt n i) p))=_;have hf:flp (wt n j) (flp (wt n i) p)=p ^^^ (wt n i ^^^ wt n j):=by
  rw[nK hn hi hp,nK hn hj (Nat.xor_lt_two_pow hp (pp hi)),Nat.xor_assoc]
 rw[hf];rcases b01 (wt n i) p with h|h<;>rcases b01 (wt n j) p with h2|h2<;>rw[h,h2]
 ·simp
 ·rw[if_neg (by decide),show(0+1)%2=1 from rfl,Nat.mul_one,Nat.mul_one]
 ·rw[if_neg (by decide),show(1+0)%2=1 from rfl,Nat.mul_one,Nat.mul_one]
 ·simp
theorem fX(a b:Nat)(u:Nu):aD a (aD b u)=aD (a+b) u:=by
 unfold aD;simp only[e7];rw[<-dN]
theorem fG{a b:Nat}(h:a%8=b%8)(u:Nu):aD a u=aD b u:=by
 unfold aD;rw[h]
theorem ni{a b:Nat}(h:a%8=b%8)(x:Q4):df a x=df b x:=by rw[<-e7 a,<-e7 b,h]
theorem kT{n M j:Nat}(hn:n<=6)(hj:j<n){f:Nat->Nu}(hf:∀p,(f p).2+1<=M){p:Nat}(hp:p<2^n):Q4.rt (val M (aB n f (.swing j) p))=if ak (wt n j) p=0 then Q4.add (val M (f p)) (val M (f (p ^^^ wt n j)))else Q4.add (val M (f (p ^^^ wt n j))) (df 4 (val M (f p))):=by
 rw[eG hf p];have h:=nK hn hj hp;unfold flp at h;by_cases c:ak (wt n j) p=0
 ·rw[if_pos c,if_pos c]
  rw[if_pos c]at h;rw[h]
 ·rw[if_neg c,if_neg c]
  rw[if_neg c]at h;rw[h]
theorem ii{f:Nat->Nu}(hf:∀p,bu (f p))(w:Wd)(p:Nat):bu (eX f w p):=iO _ (hf _)
theorem ja(M:Nat)(f:Nat->Nu)(w:Wd)(p:Nat):val M (eX f w p)=df (2*w.s+4*par ((p ^^^ w.x) &&& w.z)) (val M (f (p ^^^ w.x))):=by
 unfold eX;rw[lA,e7]
theorem qp(u:Nu):(cg u).2<=u.2+1:=by
 obtain⟨s1,s2,s3⟩:=eQ u.1 ((u.2+1:Nat):Int) (by lia);show(num u.1 ((u.2+1:Nat):Int)).2.toNat<=_
 lia
theorem Bj(e:Nat)(x:Q4):df e (Q4.rt x)=Q4.rt (df e x):=sI e 1 x
theorem mh{a b c d:Q4}(h1:a=c)(h2:b=d):Q4.add a b=Q4.add c d:=by rw[h1,h2]
theorem vi:∀a b c d e f:Fin 2,(0*((c.1+a.1)%2)+(0*((d.1+b.1)%2)+((c.1+d.1)%2*e.1+((c.1+d.1)%2*f.1+((c.1+d.1)%2*0+(c.1+d.1)%2*0)))))%2=((e.1+f.1)%2*((c.1+a.1)%2)+((e.1+f.1)%2*((d.1+b.1)%2)+((a.1+b.1)%2*e.1+((a.1+b.1)%2*f.1+((a.1+b.1)%2*((e.1+f.1)%2)+(a.1+b.1)%2*((e.1+f.1)%2))))))%2:=by decide +kernel
theorem A2(P x y z u v w:Nat):P+x+y+z+u+v+w=P+(x+(y+(z+(u+(v+w))))):=by simp only[Nat.add_assoc]
theorem xQ(s P:Nat){a b c d e f:Nat}(ha:a<2)(hb:b<2)(hc:c<2)(hd:d<2)(he:e<2)(hf:f<2):(2*s+4*((P+0*((c+a)%2)+0*((d+b)%2)+(c+d)%2*e+(c+d)%2*f+(c+d)%2*0+(c+d)%2*0)%2))%8=(2*s+4*((P+(e+f)%2*((c+a)%2)+(e+f)%2*((d+b)%2)+(a+b)%2*e+(a+b)%2*f+(a+b)%2*((e+f)%2)+(a+b)%2*((e+f)%2))%2))%8:=by
 have h:=vi ⟨a,ha⟩ ⟨b,hb⟩ ⟨c,hc⟩ ⟨d,hd⟩ ⟨e,he⟩ ⟨f,hf⟩;dsimp only at h;rw[A2,A2,Nat.add_mod P,h,<-Nat.add_mod P]
theorem mn{n:Nat}(hn:n<=6){r:Row}(hr:r.ok n){u:Wd}(hu:u.ok n)(lu:vm n r u){f:Nat->Nu}(hl:∀p,bu (f p)){M:Nat}(hM:∀p,(f p).2+1<=M){p:Nat}(hp:p<2^n):aB n (eX f u) r p=eX (aB n f r) (carry n r u) p:=by
 have m:∀a:Nat,a%2<2:=fun a=>Nat.mod_lt _ (by decide)
 have b:∀w p,ak w p<2:=bA;have hq:p ^^^ u.x<2^n:=Nat.xor_lt_two_pow hp hu.1;cases r with
 |flip j=>
  show eX f u (flp (wt n j) p)=aD (2*((u.s+2*ak (wt n j) u.z)%4)+4*par ((p ^^^ u.x) &&& u.z)) (f (flp (wt n j) (p ^^^ u.x)));rw[nK hn hr hp,nK hn hr hq];unfold eX;rw[show p ^^^ wt n j ^^^ u.x=p ^^^ u.x ^^^ wt n j by ac_rfl];apply fG;have e:=bZ hn hr hu.2.1 1 (by decide);rw[Nat.mul_one,Nat.one_mul]at e;rw[fN (p ^^^ u.x),e];have:=b (wt n j) u.z
  lia
 |turn j e=>
  show aD (e*ak (wt n j) p) (eX f u p)=aD (2*((u.s+(e/2)*ak (wt n j) u.x)%4)+4*par ((p ^^^ u.x) &&& (u.z ^^^ wt n j*(ak (wt n j) u.x*(if e%4=2 then 1 else 0))))) (aD (e*ak (wt n j) (p ^^^ u.x)) (f (p ^^^ u.x)));unfold eX;rw[fX,fX];apply fG;have lt:ak (wt n j) u.x*(if e%4=2 then 1 else 0)<2:=by rcases b01 (wt n j) u.x with h|h<;>rw[h]<;>split<;>decide
  rw[fh,gK hn hr.1 hq _ lt,aC];generalize par ((p ^^^ u.x) &&& u.z)=P;have lu:e%2=0\/ak (wt n j) u.x=0:=lu;have he:=hr.2;have h8:e=1\/e=2\/e=3\/e=4\/e=5\/e=6\/e=7:=by lia
  rcases b01 (wt n j) u.x with h1|h1<;>rcases b01 (wt n j) p with h2|h2<;>rw[h1]at lu<;>rw[h1,h2]<;>rcases h8 with rfl|rfl|rfl|rfl|rfl|rfl|rfl<;>simp at lu ⊢<;>lia
 |sign i j=>
  obtain⟨hi,hj,hij⟩:=hr;show aD (4*ak (wt n i) p*ak (wt n j) p) (eX f u p)=aD (2*((u.s+2*(ak (wt n i) u.x*ak (wt n j) u.x))%4)+4*par ((p ^^^ u.x) &&& (u.z ^^^ wt n j*ak (wt n i) u.x ^^^ wt n i*ak (wt n j) u.x))) (aD (4*ak (wt n i) (p ^^^ u.x)*ak (wt n j) (p ^^^ u.x)) (f (p ^^^ u.x)));unfold eX;rw[fX,fX];apply fG;rw[fh,fh,gK hn hj hq _ (b _ _),gK hn hi hq _ (b _ _),aC,aC];generalize par ((p ^^^ u.x) &&& u.z)=P;rcases b01 (wt n i) u.x with h1|h1<;>rcases b01 (wt n j) u.x with h2|h2<;>rcases b01 (wt n i) p with h3|h3<;>rcases b01 (wt n j) p with h4|h4<;>rw[h1,h2,h3,h4]<;>lia
 |tie i j=>
  obtain⟨hi,hj,hij⟩:=hr;have hx':p ^^^ (u.x ^^^ wt n j*ak (wt n i) u.x)<2^n:=Nat.xor_lt_two_pow hp (Nat.xor_lt_two_pow hu.1 (w_lt hj _ (b _ _)));show eX f u (eh n (.tie i j) p)=aD (2*u.s+4*par ((p ^^^ (u.x ^^^ wt n j*ak (wt n i) u.x)) &&& (u.z ^^^ wt n i*ak (wt n j) u.z))) (f (eh n (.tie i j) (p ^^^ (u.x ^^^ wt n j*ak (wt n i) u.x))));rw[Ay hn hj hp,Ay hn hj hx'];have e1:ak (wt n i) (p ^^^ (u.x ^^^ wt n j*ak (wt n i) u.x))=(ak (wt n i) p+ak (wt n i) u.x)%2:=by
   rw[aC,aC n i u.x,fF hi hj hij _ (b _ _)]
   lia
  have e2:p ^^^ (u.x ^^^ wt n j*ak (wt n i) u.x) ^^^ wt n j*((ak (wt n i) p+ak (wt n i) u.x)%2)=p ^^^ wt n j*ak (wt n i) p ^^^ u.x:=by
   rw[iG _ _ _ (b _ _) (b _ _),show p ^^^ (u.x ^^^ wt n j*ak (wt n i) u.x) ^^^ (wt n j*ak (wt n i) p ^^^ wt n j*ak (wt n i) u.x)=p ^^^ wt n j*ak (wt n i) p ^^^ u.x ^^^ (wt n j*ak (wt n i) u.x ^^^ wt n j*ak (wt n i) u.x) by ac_rfl,Nat.xor_self,Nat.xor_zero]
  rw[e1,e2];unfold eX;apply fG;have e3:=gM hn hi hj hij hq hu.2.1 0 (ak (wt n i) u.x) (ak (wt n j) u.z) 0 (by decide) (b _ _) (b _ _) (by decide);rw[Nat.mul_zero,Nat.mul_zero,zero_xor,Nat.xor_zero,show p ^^^ u.x ^^^ wt n j*ak (wt n i) u.x=p ^^^ (u.x ^^^ wt n j*ak (wt n i) u.x) by ac_rfl]at e3;rw[e3,show p ^^^ wt n j*ak (wt n i) p ^^^ u.x=p ^^^ u.x ^^^ wt n j*ak (wt n i) p by ac_rfl,fN (p ^^^ u.x),bZ hn hj hu.2.1 _ (b _ _),aC];generalize par ((p ^^^ u.x) &&& u.z)=P;rcases b01 (wt n i) u.x with h1|h1<;>rcases b01 (wt n j) u.z with h2|h2<;>rcases b01 (wt n i) p with h3|h3<;>rw[h1,h2,h3]<;>lia
 |cross i j=>
  obtain⟨hi,hj,hij⟩:=hr;have hX:u.x ^^^ (wt n i*((ak (wt n i) u.x+ak (wt n j) u.x)%2) ^^^ wt n j*((ak (wt n i) u.x+ak (wt n j) u.x)%2))<2^n:=Nat.xor_lt_two_pow hu.1 (Nat.xor_lt_two_pow (w_lt hi _ (m _)) (w_lt hj _ (m _)));show eX f u (eh n (.cross i j) p)=aD (2*u.s+4*par ((p ^^^ (u.x ^^^ (wt n i*((ak (wt n i) u.x+ak (wt n j) u.x)%2) ^^^ wt n j*((ak (wt n i) u.x+ak (wt n j) u.x)%2)))) &&& (u.z ^^^ (wt n i*((ak (wt n i) u.z+ak (wt n j) u.z)%2) ^^^ wt n j*((ak (wt n i) u.z+ak (wt n j) u.z)%2))))) (f (eh n (.cross i j) (p ^^^ (u.x ^^^ (wt n i*((ak (wt n i) u.x+ak (wt n j) u.x)%2) ^^^ wt n j*((ak (wt n i) u.x+ak (wt n j) u.x)%2))))));rw[lh hn hi hj hp,lh hn hi hj (Nat.xor_lt_two_pow hp hX)];have e1:(ak (wt n i) (p ^^^ (u.x ^^^ (wt n i*((ak (wt n i) u.x+ak (wt n j) u.x)%2) ^^^ wt n j*((ak (wt n i) u.x+ak (wt n j) u.x)%2))))+ak (wt n j) (p ^^^ (u.x ^^^ (wt n i*((ak (wt n i) u.x+ak (wt n j) u.x)%2) ^^^ wt n j*((ak (wt n i) u.x+ak (wt n j) u.x)%2)))))%2=((ak (wt n i) p+ak (wt n j) p)%2+(ak (wt n i) u.x+ak (wt n j) u.x)%2)%2:=by
   rw[aC,aC n j p,aC n i u.x,aC n j u.x,aC n i (wt n i*_),aC n j (wt n i*_),g9 _ (m _),g9 _ (m _),fF hi hj hij _ (m _),fF hj hi (Ne.symm hij) _ (m _)]
   lia
  rw[e1,iG _ _ _ (m _) (m _),iG _ _ _ (m _) (m _)];have e2:∀A B C E X:Nat,p ^^^ (X ^^^ (A ^^^ B)) ^^^ ((C ^^^ A) ^^^ (E ^^^ B))=p ^^^ (C ^^^ E) ^^^ X:=fun A B C E X=>by
   rw[show p ^^^ (X ^^^ (A ^^^ B)) ^^^ ((C ^^^ A) ^^^ (E ^^^ B))=p ^^^ (C ^^^ E) ^^^ X ^^^ ((A ^^^ A) ^^^ (B ^^^ B)) by ac_rfl,Nat.xor_self,Nat.xor_self,Nat.xor_zero,Nat.xor_zero]
  rw[e2];unfold eX;apply fG;have e3:=gM hn hi hj hij hq hu.2.1 ((ak (wt n i) u.x+ak (wt n j) u.x)%2) ((ak (wt n i) u.x+ak (wt n j) u.x)%2) ((ak (wt n i) u.z+ak (wt n j) u.z)%2) ((ak (wt n i) u.z+ak (wt n j) u.z)%2) (m _) (m _) (m _) (m _);rw[show ∀A B:Nat,p ^^^ u.x ^^^ (A ^^^ B)=p ^^^ (u.x ^^^ (A ^^^ B))from fun A B=>by ac_rfl]at e3
  have e4:=gM hn hi hj hij hq hu.2.1 ((ak (wt n i) p+ak (wt n j) p)%2) ((ak (wt n i) p+ak (wt n j) p)%2) 0 0 (m _) (m _) (by decide) (by decide);rw[Nat.mul_zero,Nat.mul_zero,Nat.xor_self,Nat.xor_zero]at e4;rw[e3,show ∀A B:Nat,p ^^^ (A ^^^ B) ^^^ u.x=p ^^^ u.x ^^^ (A ^^^ B)from fun A B=>by ac_rfl,e4,aC,aC]
  generalize par ((p ^^^ u.x) &&& u.z)=P;exact xQ _ _ (b _ _) (b _ _) (b _ _) (b _ _) (b _ _) (b _ _)
 |swing j=>
  have hc:(ak (wt n j) u.x+ak (wt n j) u.z)%2<2:=m _;have hW:=pp hr;have lw:∀p,(eX f u p).2+1<=M:=fun p=>hM _
  have ld:bu (aB n (eX f u) (.swing j) p):=dM (ii hl u) n (.swing j) p;have lr:bu (eX (aB n f (.swing j)) (carry n (.swing j) u) p):=ii (dM hl n (.swing j)) _ p;have kd:∀(g:Nat->Nu),(∀p,(g p).2+1<=M)->∀p,(aB n g (.swing j) p).2<=M:=fun g hg p=>by
   show(if ak (wt n j) p=0 then cg (bM (g p) (g (p+wt n j)))else cg (bM (g (p-wt n j)) (aD 4 (g p)))).2<=M;split
   ·have a:=fM (g p) (g (p+wt n j))
    have c:=qp (bM (g p) (g (p+wt n j)));have:=hg p;have:=hg (p+wt n j)
    lia
   ·have a:(bM (g (p-wt n j)) (aD 4 (g p))).2<=max (g (p-wt n j)).2 (g p).2:=fM _ _
    have c:=qp (bM (g (p-wt n j)) (aD 4 (g p)));have:=hg p;have:=hg (p-wt n j)
    lia
  refine fV (M:=M) ld lr (kd _ lw p) (kd f hM _) ?_;apply Q4.rt_inj;have hq':p ^^^ (u.x ^^^ wt n j*((ak (wt n j) u.x+ak (wt n j) u.z)%2))<2^n:=Nat.xor_lt_two_pow hp (Nat.xor_lt_two_pow hu.1 (w_lt hr _ hc));rw[kT hn hr lw hp,ja,ja,ja,<-Bj,show(carry n (.swing j) u).x=u.x ^^^ wt n j*((ak (wt n j) u.x+ak (wt n j) u.z)%2)from rfl,kT hn hr hM hq'];show _=df (2*((u.s+2*(ak (wt n j) u.x*ak (wt n j) u.z))%4)+4*par ((p ^^^ (u.x ^^^ wt n j*((ak (wt n j) u.x+ak (wt n j) u.z)%2))) &&& (u.z ^^^ wt n j*((ak (wt n j) u.x+ak (wt n j) u.z)%2)))) _;have e3:=pR hn hr hq hu.2.1 _ _ hc hc;rw[show ∀A:Nat,p ^^^ u.x ^^^ A=p ^^^ (u.x ^^^ A)from fun A=>by ac_rfl]at e3
  have e4:par ((p ^^^ wt n j ^^^ u.x) &&& u.z)=(par ((p ^^^ u.x) &&& u.z)+ak (wt n j) u.z)%2:=by
   have e:=bZ hn hr hu.2.1 1 (by decide);rw[Nat.mul_one,Nat.one_mul]at e;rw[show p ^^^ wt n j ^^^ u.x=p ^^^ u.x ^^^ wt n j by ac_rfl,fN (p ^^^ u.x),e]
  have e5:ak (wt n j) (p ^^^ (u.x ^^^ wt n j*((ak (wt n j) u.x+ak (wt n j) u.z)%2)))=(ak (wt n j) p+ak (wt n j) u.z)%2:=by
   rw[aC,aC n j u.x,g9 _ hc]
   lia
  rw[e3,e4,e5,aC];have i1:p ^^^ (u.x ^^^ wt n j*0)=p ^^^ u.x:=by rw[Nat.mul_zero,Nat.xor_zero]
  have i2:p ^^^ (u.x ^^^ wt n j*1)=p ^^^ wt n j ^^^ u.x:=by rw[Nat.mul_one];ac_rfl
  have i3:p ^^^ wt n j ^^^ u.x ^^^ wt n j=p ^^^ u.x:=by rw[show p ^^^ wt n j ^^^ u.x ^^^ wt n j=p ^^^ u.x ^^^ (wt n j ^^^ wt n j) by ac_rfl,Nat.xor_self,Nat.xor_zero]
  have i4:p ^^^ u.x ^^^ wt n j=p ^^^ wt n j ^^^ u.x:=by ac_rfl
  generalize par ((p ^^^ u.x) &&& u.z)=P;have tt:∀(a c:Nat) (X:Q4),df a (df c X)=df (a+c) X:=fun a c X=>(dN a c X).symm
  rcases b01 (wt n j) u.x with h1|h1<;>rcases b01 (wt n j) u.z with h2|h2<;>rcases b01 (wt n j) p with h3|h3<;>rw[h1,h2,h3]<;>simp only[Nat.zero_add,Nat.add_zero,Nat.reduceAdd,Nat.reduceMod,Nat.mul_zero,Nat.mul_one,Nat.zero_mul,Nat.xor_zero,if_true,Nat.one_ne_zero,if_false]<;>(try rw[show p ^^^ (u.x ^^^ wt n j)=p ^^^ wt n j ^^^ u.x by ac_rfl])<;>(try rw[i3])<;>(try rw[i4])<;>rw[vE]<;>(try rw[tt])<;>(try rw[tt])
  all_goals first
   | (apply mh<;>(apply ni;lia))
   | (rw[Q4.add_comm];apply mh<;>(apply ni;lia))
noncomputable def Row.about:Row->Row
 |.turn j e=>.turn j (8-e)
 |r=>r
theorem Row.about_ok{n:Nat}{r:Row}(h:r.ok n):r.about.ok n:=by
 cases r<;>simp only[Row.about,Row.ok]at h ⊢<;>lia
theorem Row.about_about{n:Nat}{r:Row}(h:r.ok n):r.about.about=r:=by
 cases r with
 |turn j e=>have:e<=7:=h.2.2;show Row.turn j (8-(8-e))=_;rw[show 8-(8-e)=e by lia]
 |_=>rfl
theorem nh(a b:Nat)(h:(a+b)%8=0)(u:Nu):aD a (aD b u)=u:=by
 unfold aD;have e:df (a%8) (df (b%8) u.1)=u.1:=by
  rw[e7,e7,<-dN,<-e7,h];rfl
 rw[e]
theorem Ah{n j x:Nat}(h:ak (wt n j) x≠0):ak (wt n j) (x-wt n j)=0/\wt n j<=x:=by
 have h2:=bA (wt n j) x;have h3:=li (aU n j) (show ak (wt n j) x=1 by lia);have:=dD (p:=x) (aU n j);unfold flp at this;rw[if_neg h]at this;exact⟨by lia,h3⟩
theorem Ai{n j x:Nat}(h:ak (wt n j) x=0):ak (wt n j) (x+wt n j)=1:=by
 have:=dD (p:=x) (aU n j);unfold flp at this;rw[if_pos h,h]at this;exact this
theorem jt(x:Q4):df 4 x=Q4.neg x:=by apply Q4.ext'<;>simp[df,Q4.tn,Q4.neg]
theorem Bf(a b:Q4):Q4.add (Q4.add a b) (Q4.add a (Q4.neg b))=Q4.rt (Q4.rt a):=by
 rw[Q4.rt_rt];apply Q4.ext'<;>simp[Q4.add,Q4.neg,Q4.dbl]<;>lia
theorem Bg(a b:Q4):Q4.add (Q4.add a b) (Q4.neg (Q4.add a (Q4.neg b)))=Q4.rt (Q4.rt b):=by
 rw[Q4.rt_rt];apply Q4.ext'<;>simp[Q4.add,Q4.neg,Q4.dbl]<;>lia
theorem v9(x:Q4):Q4.rt (Q4.neg x)=Q4.neg (Q4.rt x):=by apply Q4.ext'<;>simp[Q4.rt,Q4.neg]<;>lia
theorem uV(u:Nu):(cg u).2<=u.2+1:=by
 obtain⟨s1,s2,s3⟩:=eQ u.1 ((u.2+1:Nat):Int) (by lia);show(num u.1 ((u.2+1:Nat):Int)).2.toNat<=_
 lia
theorem ix(n:Nat)(f:Nat->Nu)(r:Row)(M:Nat)(h:∀p,(f p).2<=M)(x:Nat):(aB n f r x).2<=M+1:=by
 have hp:∀u v:Nu,u.2<=M->v.2<=M->(cg (bM u v)).2<=M+1:=fun u v hu hv=>by
  have a:=fM u v;have b:=uV (bM u v)
  lia
 cases r with
 |swing j=>
  show(if ak (wt n j) x=0 then cg (bM (f x) (f (x+wt n j)))else cg (bM (f (x-wt n j)) (aD 4 (f x)))).2<=_;split
  ·exact hp _ _ (h _) (h _)
  ·exact hp _ _ (h _) (h _)
 |turn j e=>exact Nat.le_succ_of_le (h x)
 |sign i j=>exact Nat.le_succ_of_le (h x)
 |flip j=>exact Nat.le_succ_of_le (h _)
 |tie i j=>exact Nat.le_succ_of_le (h _)
 |cross i j=>exact Nat.le_succ_of_le (h _)
theorem jY{n:Nat}{f:Nat->Nu}(hl:∀p,bu (f p)){M:Nat}(hM:∀p,(f p).2<=M)(r:Row)(hr:r.ok n)(x:Nat):aB n (aB n f r) r.about x=f x:=by
 cases r with
 |swing j=>
  have b1:∀p,(f p).2+1<=M+2:=fun p=>by have:=hM p;lia
  have b2:∀p,(aB n f (.swing j) p).2+1<=M+2:=fun p=>by have:=ix n f (.swing j) M hM p;lia
  have b3:=ix n (aB n f (.swing j)) (.swing j) (M+1) (ix n f (.swing j) M hM) x;refine fV (M:=M+2) (dM (dM hl n _) n _ x) (hl x) b3 (by have:=hM x;lia) ?_;apply Q4.rt_inj;apply Q4.rt_inj;show Q4.rt (Q4.rt (val (M+2) (aB n (aB n f (.swing j)) (.swing j) x)))=_;rw[eG b2 x];split
  ·rename_i c
   have c2:=Ai (n:=n) (j:=j) c;rw[Q4.rt_add,eG b1 x,eG b1 (x+wt n j),if_pos c,if_neg (by lia),Nat.add_sub_cancel,jt,Bf]
  ·rename_i c
   obtain⟨c2,c3⟩:=Ah (n:=n) (j:=j) c;rw[Q4.rt_add,jt,v9,eG b1 x,eG b1 (x-wt n j),if_pos c2,if_neg c,Nat.sub_add_cancel c3,jt,Bg]
 |turn j e=>
  have h8:e<=7:=hr.2.2;show aD ((8-e)*ak (wt n j) x) (aD (e*ak (wt n j) x) (f x))=f x;refine nh _ _ ?_ _;rw[<-Nat.add_mul,Nat.sub_add_cancel (by lia)];exact Nat.mul_mod_right 8 _
 |sign i j=>
  show aD (4*ak (wt n i) x*ak (wt n j) x) (aD (4*ak (wt n i) x*ak (wt n j) x) (f x))=f x;refine nh _ _ ?_ _;rw[show 4*ak (wt n i) x*ak (wt n j) x+4*ak (wt n i) x*ak (wt n j) x=8*(ak (wt n i) x*ak (wt n j) x) by rw[Nat.mul_assoc];lia];exact Nat.mul_mod_right 8 _
 |flip j=>show f (flp (wt n j) (flp (wt n j) x))=_;rw[lg (aU n j)]
 |tie i j=>
  obtain⟨hi,hj,hij⟩:=hr;show f (eh n (.tie i j) (eh n (.tie i j) x))=_;congr 1;show(if ak (wt n i) (if ak (wt n i) x=0 then x else flp (wt n j) x)=0 then(if ak (wt n i) x=0 then x else flp (wt n j) x)else flp (wt n j) (if ak (wt n i) x=0 then x else flp (wt n j) x))=x;by_cases c:ak (wt n i) x=0
  ·simp only[if_pos c]
  ·simp only[if_neg c]
   rw[if_neg (by rw[iz hj hi (Ne.symm hij)];exact c),lg (aU n j)]
 |cross i j=>
  obtain⟨hi,hj,hij⟩:=hr;show f (eh n (.cross i j) (eh n (.cross i j) x))=_;congr 1;have bi:=bA (wt n i) x;have bj:=bA (wt n j) x;show(if ak (wt n i) (if ak (wt n i) x=ak (wt n j) x then x else flp (wt n j) (flp (wt n i) x))=ak (wt n j) (if ak (wt n i) x=ak (wt n j) x then x else flp (wt n j) (flp (wt n i) x))then(if ak (wt n i) x=ak (wt n j) x then x else flp (wt n j) (flp (wt n i) x))else flp (wt n j) (flp (wt n i) (if ak (wt n i) x=ak (wt n j) x then x else flp (wt n j) (flp (wt n i) x))))=x;by_cases c:ak (wt n i) x=ak (wt n j) x
  ·simp only[if_pos c]
  ·simp only[if_neg c]
   have e1:ak (wt n i) (flp (wt n j) (flp (wt n i) x))=1-ak (wt n i) x:=by rw[iz hj hi (Ne.symm hij),dD (aU n i)]
   have e2:ak (wt n j) (flp (wt n j) (flp (wt n i) x))=1-ak (wt n j) x:=by rw[dD (aU n j),iz hi hj hij]
   rw[if_neg (by lia),xg hi hj hij,lg (aU n j),lg (aU n i)]
end MA
namespace GN
open PySem L2 VL
noncomputable def top(i:Nat):Stmt:=PySem.Challenge.pw_wavewires_k52_whole_settled_alike.main.body.getD i (.Pass ⟨0,0,0,0⟩)
abbrev dO:Stmt:=top 6
abbrev iK:List Str:=["joined","most"]
noncomputable def dU:Sf:=sSeq (sIf (ob (o2 (oV 0) (oC (.int 0)) cn)) (aV (oV 1)) (jg)) (aV (os (ae (oV 1) (ae (o2 (o1 (o2 (oV 0) (o1 (oV 0) negD) gG) kq) (oC (.int 1)) ce) (au))) zp))
noncomputable def bn:List D->Option D:=runB iK 2 dU
abbrev iq:Stmt:=top 7
abbrev og:List Str:=["a","b","c","d"]
noncomputable def j7:Sf:=aV (os (ae (o2 (oV 1) (oV 3) ce) (ae (o2 (oV 0) (oV 2) cL) (ae (o2 (oV 1) (oV 3) cL) (ae (o2 (oV 2) (oV 0) ce) (au))))) cb)
noncomputable def cK:List D->Option D:=runB og 4 j7
abbrev fJ:Stmt:=top 8
abbrev mF:List Str:=["a","b","c","d","k","twos","doubled"]
noncomputable def jA:Sf:=sSeq (aL 5 (os (ae (o2 (o2 (o2 (oV 0) (oV 1) rA) (oV 2) rA) (oV 3) rA) (ae (o2 (oV 4) (oC (.int 2)) fQ) (au))) bn)) (sSeq (aL 0 (o2 (oV 0) (oV 5) iP)) (sSeq (aL 1 (o2 (oV 1) (oV 5) iP)) (sSeq (aL 2 (o2 (oV 2) (oV 5) iP)) (sSeq (aL 3 (o2 (oV 3) (oV 5) iP)) (sSeq (aL 4 (o2 (oV 4) (o2 (oC (.int 2)) (oV 5) dH) ce)) (sSeq (sIf (x9 (ob (o2 (oV 4) (oC (.int 0)) cn)) (x9 (ob (o2 (o2 (o2 (oV 0) (oV 2) ce) (oC (.int 2)) bV) (oC (.int 1)) cn)) (ob (o2 (o2 (o2 (oV 1) (oV 3) ce) (oC (.int 2)) bV) (oC (.int 1)) cn)))) (aV (os (ae (oV 0) (ae (oV 1) (ae (oV 2) (ae (oV 3) (ae (oV 4) (au)))))) cb)) (jg)) (sSeq (aL 6 (os (ae (oV 0) (ae (oV 1) (ae (oV 2) (ae (oV 3) (au))))) cK)) (aV (os (ae (o2 (o2 (oV 6) (oC (.int 0)) az) (oC (.int 2)) fQ) (ae (o2 (o2 (oV 6) (oC (.int 1)) az) (oC (.int 2)) fQ) (ae (o2 (o2 (oV 6) (oC (.int 2)) az) (oC (.int 2)) fQ) (ae (o2 (o2 (oV 6) (oC (.int 3)) az) (oC (.int 2)) fQ) (ae (o2 (oV 4) (oC (.int 1)) ce) (au)))))) cb)))))))))
noncomputable def cF:List D->Option D:=runB mF 5 jA
abbrev el:Stmt:=top 9
abbrev jD:List Str:=["x","k","more","twos","a","b","c","d"]
noncomputable def eE:Sf:=sSeq (aL 2 (o2 (oV 1) (o2 (oV 0) (oC (.int 4)) az) ce)) (sSeq (aL 3 (o2 (oV 2) (oC (.int 2)) fQ)) (sSeq (aL 4 (o2 (o2 (oV 0) (oC (.int 0)) az) (oV 3) gJ)) (sSeq (aL 5 (o2 (o2 (oV 0) (oC (.int 1)) az) (oV 3) gJ)) (sSeq (aL 6 (o2 (o2 (oV 0) (oC (.int 2)) az) (oV 3) gJ)) (sSeq (aL 7 (o2 (o2 (oV 0) (oC (.int 3)) az) (oV 3) gJ)) (sSeq (sIf (ob (o2 (o2 (oV 2) (oC (.int 2)) bV) (oC (.int 1)) cn)) (aV (os (ae (oV 4) (ae (oV 5) (ae (oV 6) (ae (oV 7) (au))))) cK)) (jg)) (aV (os (ae (oV 4) (ae (oV 5) (ae (oV 6) (ae (oV 7) (au))))) cb))))))))
noncomputable def bQ:List D->Option D:=runB jD 2 eE
abbrev oD:Stmt:=top 10
abbrev xY:List Str:=["x","y","k","s","t"]
noncomputable def ss:Sf:=sSeq (aL 2 (os (ae (o2 (oV 0) (oC (.int 4)) az) (ae (o2 (oV 1) (oC (.int 4)) az) (au))) wK)) (sSeq (aL 3 (os (ae (oV 0) (ae (oV 2) (au))) bQ)) (sSeq (aL 4 (os (ae (oV 1) (ae (oV 2) (au))) bQ)) (aV (os (ae (o2 (o2 (oV 3) (oC (.int 0)) az) (o2 (oV 4) (oC (.int 0)) az) cL) (ae (o2 (o2 (oV 3) (oC (.int 1)) az) (o2 (oV 4) (oC (.int 1)) az) cL) (ae (o2 (o2 (oV 3) (oC (.int 2)) az) (o2 (oV 4) (oC (.int 2)) az) cL) (ae (o2 (o2 (oV 3) (oC (.int 3)) az) (o2 (oV 4) (oC (.int 3)) az) cL) (ae (oV 2) (au)))))) cF))))
noncomputable def fE:List D->Option D:=runB xY 2 ss
abbrev kY:Stmt:=top 11
abbrev t7:List Str:=["x","y"]
noncomputable def pe:Sf:=aV (os (ae (o2 (o2 (o2 (o2 (o2 (oV 0) (oC (.int 0)) az) (o2 (oV 1) (oC (.int 0)) az) dH) (o2 (o2 (oV 0) (oC (.int 1)) az) (o2 (oV 1) (oC (.int 3)) az) dH) ce) (o2 (o2 (oV 0) (oC (.int 2)) az) (o2 (oV 1) (oC (.int 2)) az) dH) ce) (o2 (o2 (oV 0) (oC (.int 3)) az) (o2 (oV 1) (oC (.int 1)) az) dH) ce) (ae (o2 (o2 (o2 (o2 (o2 (oV 0) (oC (.int 0)) az) (o2 (oV 1) (oC (.int 1)) az) dH) (o2 (o2 (oV 0) (oC (.int 1)) az) (o2 (oV 1) (oC (.int 0)) az) dH) cL) (o2 (o2 (oV 0) (oC (.int 2)) az) (o2 (oV 1) (oC (.int 3)) az) dH) ce) (o2 (o2 (oV 0) (oC (.int 3)) az) (o2 (oV 1) (oC (.int 2)) az) dH) ce) (ae (o2 (o2 (o2 (o2 (o2 (oV 0) (oC (.int 0)) az) (o2 (oV 1) (oC (.int 2)) az) dH) (o2 (o2 (oV 0) (oC (.int 1)) az) (o2 (oV 1) (oC (.int 1)) az) dH) cL) (o2 (o2 (oV 0) (oC (.int 2)) az) (o2 (oV 1) (oC (.int 0)) az) dH) cL) (o2 (o2 (oV 0) (oC (.int 3)) az) (o2 (oV 1) (oC (.int 3)) az) dH) ce) (ae (o2 (o2 (o2 (o2 (o2 (oV 0) (oC (.int 0)) az) (o2 (oV 1) (oC (.int 3)) az) dH) (o2 (o2 (oV 0) (oC (.int 1)) az) (o2 (oV 1) (oC (.int 2)) az) dH) cL) (o2 (o2 (oV 0) (oC (.int 2)) az) (o2 (oV 1) (oC (.int 1)) az) dH) cL) (o2 (o2 (oV 0) (oC (.int 3)) az) (o2 (oV 1) (oC (.int 0)) az) dH) cL) (ae (o2 (o2 (oV 0) (oC (.int 4)) az) (o2 (oV 1) (oC (.int 4)) az) cL) (au)))))) cF)
noncomputable def dR:List D->Option D:=runB t7 2 pe
abbrev ir:Stmt:=top 12
abbrev oh:List Str:=["x"]
noncomputable def j9:Sf:=aV (os (ae (o1 (o2 (oV 0) (oC (.int 0)) az) negD) (ae (o1 (o2 (oV 0) (oC (.int 1)) az) negD) (ae (o1 (o2 (oV 0) (oC (.int 2)) az) negD) (ae (o1 (o2 (oV 0) (oC (.int 3)) az) negD) (ae (o2 (oV 0) (oC (.int 4)) az) (au)))))) cb)
noncomputable def dc:List D->Option D:=runB oh 1 j9
abbrev jd:Stmt:=top 13
abbrev qT:List Str:=["x","e","around"]
noncomputable def mx:Sf:=sSeq (aL 2 (os (ae (o2 (oV 0) (oC (.int 0)) az) (ae (o2 (oV 0) (oC (.int 1)) az) (ae (o2 (oV 0) (oC (.int 2)) az) (ae (o2 (oV 0) (oC (.int 3)) az) (ae (o1 (o2 (oV 0) (oC (.int 0)) az) negD) (ae (o1 (o2 (oV 0) (oC (.int 1)) az) negD) (ae (o1 (o2 (oV 0) (oC (.int 2)) az) negD) (ae (o1 (o2 (oV 0) (oC (.int 3)) az) negD) (au))))))))) cb)) (aV (os (ae (o2 (oV 2) (o2 (o2 (oC (.int 0)) (oV 1) ce) (oC (.int 8)) bV) az) (ae (o2 (oV 2) (o2 (o2 (oC (.int 1)) (oV 1) ce) (oC (.int 8)) bV) az) (ae (o2 (oV 2) (o2 (o2 (oC (.int 2)) (oV 1) ce) (oC (.int 8)) bV) az) (ae (o2 (oV 2) (o2 (o2 (oC (.int 3)) (oV 1) ce) (oC (.int 8)) bV) az) (ae (o2 (oV 0) (oC (.int 4)) az) (au)))))) cb))
noncomputable def cO:List D->Option D:=runB qT 2 mx
abbrev jf:Stmt:=top 14
abbrev qU:List Str:=["x"]
noncomputable def mz:Sf:=aV (os (ae (o2 (oV 0) (oC (.int 0)) az) (ae (o2 (oV 0) (oC (.int 1)) az) (ae (o2 (oV 0) (oC (.int 2)) az) (ae (o2 (oV 0) (oC (.int 3)) az) (ae (o2 (o2 (oV 0) (oC (.int 4)) az) (oC (.int 1)) cL) (au)))))) cF)
noncomputable def cQ:List D->Option D:=runB qU 1 mz
abbrev kX:Stmt:=top 16
abbrev t6:List Str:=["wires","wire"]
noncomputable def pd:Sf:=aV (o2 (oC (.int 1)) (o2 (o2 (oV 0) (oC (.int 1)) ce) (oV 1) ce) gJ)
noncomputable def bO:List D->Option D:=runB t6 2 pd
abbrev fL:Stmt:=top 17
abbrev kf:List Str:=["wires","place"]
noncomputable def iR:Dv->Option D:=dy (oL (ae (oV 0) (au)) bL) [(0,"wires"),(1,"place")] r9 (o2 (o2 (oV 2) (o2 (o2 (oV 1) (oC (.int 1)) ce) (oV 0) ce) iP) (oC (.int 1)) gG)
noncomputable def j8:Sf:=aV (os (ae (iR) (au)) bY)
noncomputable def db:List D->Option D:=runB kf 2 j8
abbrev cC:Stmt:=top 18
abbrev hV:List Str:=["wires","place"]
noncomputable def jj:Dv->Option D:=dy (oL (ae (o2 (oC (.int 1)) (oV 0) gJ) (au)) bL) [(1,"place")] r9 (vo (ob (o2 (oV 0) (oV 1) cn)) (oC (.tuple [.int 1,.int 0,.int 0,.int 0,.int 0])) (oC (.tuple [.int 0,.int 0,.int 0,.int 0,.int 0])))
noncomputable def hG:Sf:=aV (os (ae (jj) (au)) bY)
noncomputable def bC:List D->Option D:=runB hV 2 hG
abbrev kZ:Stmt:=top 19
abbrev t8:List Str:=["state","bit","told","p"]
noncomputable def dX:Sf:=sIf (ob (o2 (o2 (oV 3) (oV 1) gG) (oC (.int 0)) cn)) (pN 2 (os (ae (os (ae (o2 (oV 0) (oV 3) az) (ae (o2 (oV 0) (o2 (oV 3) (oV 1) iM) az) (au))) fE) (au)) cQ)) (pN 2 (os (ae (os (ae (o2 (oV 0) (o2 (oV 3) (oV 1) iM) az) (ae (os (ae (o2 (oV 0) (oV 3) az) (au)) dc) (au))) fE) (au)) cQ))
noncomputable def pf:Sf:=sSeq (vZ 2 (au)) (sSeq (jL (oL (ae (os (ae (oV 0) (au)) eA) (au)) bL) (gN 3) (dX)) (fun δ=>(aV (os (ae (oV 2) (au)) bY)) (qx 2 δ)))
noncomputable def fm:List D->Option D:=runB t8 2 pf
abbrev cA:Stmt:=top 20
abbrev eW:List Str:=["state","held","e"]
noncomputable def gC:Dv->Option D:=dy (oL (ae (os (ae (oV 0) (au)) eA) (au)) bL) [(0,"state"),(1,"held"),(2,"e")] r9 (vo (ob (o2 (o2 (oV 0) (oV 2) gG) (oV 2) cn)) (os (ae (o2 (oV 1) (oV 0) az) (ae (oV 3) (au))) cO) (o2 (oV 1) (oV 0) az))
noncomputable def eT:Sf:=aV (os (ae (gC) (au)) bY)
noncomputable def aR:List D->Option D:=runB eW 3 eT
abbrev cf:Stmt:=top 21
abbrev ee:List Str:=["state","held","bit"]
noncomputable def fO:Dv->Option D:=dy (oL (ae (os (ae (oV 0) (au)) eA) (au)) bL) [(0,"state"),(1,"held"),(2,"bit")] r9 (vo (ob (o2 (o2 (oV 0) (oV 2) gG) (oV 2) cn)) (o2 (oV 1) (o2 (oV 0) (oV 3) iM) az) (o2 (oV 1) (oV 0) az))
noncomputable def d8:Sf:=aV (os (ae (fO) (au)) bY)
noncomputable def aM:List D->Option D:=runB ee 3 d8
abbrev e9:Stmt:=top 22
abbrev kw:List Str:=["place","both"]
noncomputable def fw:Sf:=aV (vo (ob (o2 (o2 (oV 0) (oV 1) gG) (os (ae (oC (.int 0)) (ae (oV 1) (au))) cb) (Ey false))) (oV 0) (o2 (oV 0) (oV 1) iM))
noncomputable def aP:List D->Option D:=runB kw 2 fw
abbrev lJ:Stmt:=top 23
abbrev sA:List Str:=["state","row","wires","first","second"]
noncomputable def oG:Dv->Option D:=dy (oL (ae (os (ae (oV 0) (au)) eA) (au)) bL) [(0,"state"),(3,"first"),(4,"second")] r9 (o2 (oV 1) (os (ae (oV 0) (ae (o2 (oV 2) (oV 3) rA) (au))) aP) az)
noncomputable def hE:Sf:=sSeq (aL 2 (o2 (o1 (os (ae (oV 0) (au)) eA) kq) (oC (.int 1)) ce)) (sSeq (aL 3 (os (ae (oV 2) (ae (o2 (oV 1) (oC (.int 1)) az) (au))) bO)) (sSeq (sIf (ob (o2 (o2 (oV 1) (oC (.int 0)) az) (oC (.str "swing")) cn)) (aV (os (ae (oV 0) (ae (oV 3) (au))) fm)) (jg)) (sSeq (sIf (ob (o2 (o2 (oV 1) (oC (.int 0)) az) (oC (.str "turn")) cn)) (aV (os (ae (oV 0) (ae (oV 3) (ae (o2 (oV 1) (oC (.int 2)) az) (au)))) aR)) (jg)) (sSeq (sIf (ob (o2 (o2 (oV 1) (oC (.int 0)) az) (oC (.str "flip")) cn)) (aV (os (ae (oV 0) (ae (oC (.int 0)) (ae (oV 3) (au)))) aM)) (jg)) (sSeq (aL 4 (os (ae (oV 2) (ae (o2 (oV 1) (oC (.int 2)) az) (au))) bO)) (sSeq (sIf (ob (o2 (o2 (oV 1) (oC (.int 0)) az) (oC (.str "tie")) cn)) (aV (os (ae (oV 0) (ae (oV 3) (ae (oV 4) (au)))) aM)) (jg)) (sSeq (sIf (ob (o2 (o2 (oV 1) (oC (.int 0)) az) (oC (.str "sign")) cn)) (aV (os (ae (oV 0) (ae (o2 (oV 3) (oV 4) rA) (ae (oC (.int 4)) (au)))) aR)) (jg)) (aV (os (ae (oG) (au)) bY)))))))))
noncomputable def cr:List D->Option D:=runB sA 2 hE
abbrev f8:Stmt:=top 24
abbrev mH:List Str:=["state","rows","row"]
noncomputable def dY:Sf:=aL 0 (os (ae (oV 0) (ae (oV 2) (au))) cr)
noncomputable def i7:Sf:=sSeq (jL (oI (oV 1) eY) (gN 2) (dY)) (aV (oV 0))
noncomputable def bG:List D->Option D:=runB mH 2 i7
abbrev f6:Stmt:=top 26
abbrev mE:List Str:=["bitset","bits","shared","value"]
noncomputable def cX:Dv->Option Bool:=ob (o2 (oV 2) (oC (.int 0)) neD)
noncomputable def dW:Sf:=sSeq (aL 2 (o2 (oV 2) (o2 (oV 2) (oC (.int 1)) ce) gG)) (aL 3 (o2 (oC (.int 1)) (oV 3) ce))
noncomputable def i0:Sf:=sSeq (aL 2 (o2 (oV 0) (oV 1) gG)) (sSeq (aL 3 (oC (.int 0))) (sSeq (fun δ=>eZ (cX) (dW) wN δ) (aV (oV 3))))
noncomputable def bd:List D->Option D:=runB mE 2 i0
abbrev sP:Stmt:=top 28
abbrev A5:List Str:=["bitset","bit"]
noncomputable def xN:Sf:=aV (o2 (o2 (o2 (oV 0) (oV 1) iP) (oC (.int 1)) gG) (oC (.int 1)) cn)
noncomputable def jq:List D->Option D:=runB A5 2 xN
abbrev ek:Stmt:=top 30
abbrev N_word_times:List Str:=["one","other","s"]
noncomputable def gn:Sf:=sSeq (aL 2 (o2 (o2 (o2 (oV 0) (oC (.int 2)) az) (o2 (oV 1) (oC (.int 2)) az) cL) (o2 (oC (.int 2)) (os (ae (o2 (oV 0) (oC (.int 1)) az) (ae (o2 (oV 1) (oC (.int 0)) az) (au))) bd) dH) cL)) (aV (os (ae (o2 (o2 (oV 0) (oC (.int 0)) az) (o2 (oV 1) (oC (.int 0)) az) iM) (ae (o2 (o2 (oV 0) (oC (.int 1)) az) (o2 (oV 1) (oC (.int 1)) az) iM) (ae (o2 (oV 2) (oC (.int 4)) bV) (au)))) cb))
noncomputable def bb:List D->Option D:=runB N_word_times 2 gn
abbrev cR:Stmt:=top 31
abbrev gE:List Str:=["word","bit","changed","s"]
noncomputable def d7:Sf:=sSeq (aL 2 (o2 (o2 (o2 (oV 0) (oC (.int 0)) az) (o2 (oV 0) (oC (.int 1)) az) iM) (oV 1) gG)) (sSeq (aL 3 (o2 (o2 (oV 0) (oC (.int 2)) az) (o2 (oC (.int 2)) (os (ae (o2 (o2 (oV 0) (oC (.int 0)) az) (o2 (oV 0) (oC (.int 1)) az) gG) (ae (oV 1) (au))) bd) dH) cL)) (aV (os (ae (o2 (o2 (oV 0) (oC (.int 0)) az) (oV 2) iM) (ae (o2 (o2 (oV 0) (oC (.int 1)) az) (oV 2) iM) (ae (o2 (oV 3) (oC (.int 4)) bV) (au)))) cb)))
noncomputable def bw:List D->Option D:=runB gE 2 d7
abbrev di:Stmt:=top 32
abbrev hR:List Str:=["word","bit","e","z"]
noncomputable def cI:Sf:=sSeq (sIf (ob (o2 (o2 (o2 (oV 0) (oC (.int 0)) az) (oV 1) gG) (oC (.int 0)) cn)) (aV (oV 0)) (jg)) (sSeq (sIf (ob (o2 (o2 (oV 2) (oC (.int 2)) bV) (oC (.int 1)) cn)) (FY) (jg)) (sSeq (aL 3 (vo (ob (o2 (o2 (oV 2) (oC (.int 4)) bV) (oC (.int 2)) cn)) (o2 (o2 (oV 0) (oC (.int 1)) az) (oV 1) iM) (o2 (oV 0) (oC (.int 1)) az))) (aV (os (ae (o2 (oV 0) (oC (.int 0)) az) (ae (oV 3) (ae (o2 (o2 (o2 (oV 0) (oC (.int 2)) az) (o2 (oV 2) (oC (.int 2)) fQ) cL) (oC (.int 4)) bV) (au)))) cb))))
noncomputable def aS:List D->Option D:=runB hR 3 cI
abbrev dP:Stmt:=top 33
abbrev iL:List Str:=["word","first","second","x","z"]
noncomputable def cq:Sf:=sSeq (aL 3 (vo (ob (o2 (o2 (o2 (oV 0) (oC (.int 0)) az) (oV 1) gG) (oC (.int 0)) neD)) (o2 (o2 (oV 0) (oC (.int 0)) az) (oV 2) iM) (o2 (oV 0) (oC (.int 0)) az))) (sSeq (aL 4 (vo (ob (o2 (o2 (o2 (oV 0) (oC (.int 1)) az) (oV 2) gG) (oC (.int 0)) neD)) (o2 (o2 (oV 0) (oC (.int 1)) az) (oV 1) iM) (o2 (oV 0) (oC (.int 1)) az))) (aV (os (ae (oV 3) (ae (oV 4) (ae (o2 (oV 0) (oC (.int 2)) az) (au)))) cb)))
noncomputable def aZ:List D->Option D:=runB iL 3 cq
abbrev dl:Stmt:=top 34
abbrev hU:List Str:=["word","first","second","z","both","s"]
noncomputable def eU:Sf:=sSeq (aL 3 (o2 (oV 0) (oC (.int 1)) az)) (sSeq (sIf (ob (o2 (o2 (o2 (oV 0) (oC (.int 0)) az) (oV 1) gG) (oC (.int 0)) neD)) (aL 3 (o2 (oV 3) (oV 2) iM)) (jg)) (sSeq (sIf (ob (o2 (o2 (o2 (oV 0) (oC (.int 0)) az) (oV 2) gG) (oC (.int 0)) neD)) (aL 3 (o2 (oV 3) (oV 1) iM)) (jg)) (sSeq (aL 4 (o2 (oV 1) (oV 2) rA)) (sSeq (aL 5 (vo (ob (o2 (o2 (o2 (oV 0) (oC (.int 0)) az) (oV 4) gG) (oV 4) cn)) (o2 (o2 (oV 0) (oC (.int 2)) az) (oC (.int 2)) cL) (o2 (oV 0) (oC (.int 2)) az))) (aV (os (ae (o2 (oV 0) (oC (.int 0)) az) (ae (oV 3) (ae (o2 (oV 5) (oC (.int 4)) bV) (au)))) cb))))))
noncomputable def bF:List D->Option D:=runB hU 3 eU
abbrev ip:Stmt:=top 35
abbrev n9:List Str:=["wires","word","row","first","second"]
noncomputable def de:Sf:=sSeq (aL 3 (os (ae (oV 0) (ae (o2 (oV 2) (oC (.int 1)) az) (au))) bO)) (sSeq (sIf (ob (o2 (o2 (oV 2) (oC (.int 0)) az) (oC (.str "swing")) cn)) (aV (os (ae (oV 1) (ae (oV 3) (au))) bw)) (jg)) (sSeq (sIf (ob (o2 (o2 (oV 2) (oC (.int 0)) az) (oC (.str "turn")) cn)) (aV (os (ae (oV 1) (ae (oV 3) (ae (o2 (oV 2) (oC (.int 2)) az) (au)))) aS)) (jg)) (sSeq (sIf (ob (o2 (o2 (oV 2) (oC (.int 0)) az) (oC (.str "flip")) cn)) (aV (os (ae (o2 (oV 1) (oC (.int 0)) az) (ae (o2 (oV 1) (oC (.int 1)) az) (ae (o2 (o2 (o2 (oV 1) (oC (.int 2)) az) (o2 (oC (.int 2)) (os (ae (o2 (oV 1) (oC (.int 1)) az) (ae (oV 3) (au))) bd) dH) cL) (oC (.int 4)) bV) (au)))) cb)) (jg)) (sSeq (aL 4 (os (ae (oV 0) (ae (o2 (oV 2) (oC (.int 2)) az) (au))) bO)) (sSeq (sIf (ob (o2 (o2 (oV 2) (oC (.int 0)) az) (oC (.str "tie")) cn)) (aV (os (ae (oV 1) (ae (oV 3) (ae (oV 4) (au)))) aZ)) (jg)) (sSeq (sIf (ob (o2 (o2 (oV 2) (oC (.int 0)) az) (oC (.str "sign")) cn)) (aV (os (ae (oV 1) (ae (oV 3) (ae (oV 4) (au)))) bF)) (jg)) (aV (os (ae (os (ae (o2 (oV 1) (oC (.int 0)) az) (ae (o2 (oV 3) (oV 4) rA) (au))) aP) (ae (os (ae (o2 (oV 1) (oC (.int 1)) az) (ae (o2 (oV 3) (oV 4) rA) (au))) aP) (ae (o2 (oV 1) (oC (.int 2)) az) (au)))) cb))))))))
noncomputable def aQ:List D->Option D:=runB n9 3 de
abbrev cB:Stmt:=top 37
abbrev gx:List Str:=["wires","place","bits","flips"]
noncomputable def gQ:Dv->Option D:=dy (oL (ae (oV 0) (au)) bL) [(0,"wires")] r9 (os (ae (oV 1) (ae (oV 0) (au))) bO)
noncomputable def gO:Dv->Option D:=dy (oL (ae (oV 0) (au)) bL) [(2,"bits"),(3,"flips")] r9 (os (ae (os (ae (o2 (oV 2) (oV 0) az) (ae (oC (.int 0)) (ae (oC (.int 0)) (au)))) cb) (ae (os (ae (oC (.int 0)) (ae (o2 (oV 2) (oV 0) az) (ae (o2 (oC (.int 2)) (o2 (oV 1) (oV 0) az) dH) (au)))) cb) (au))) cb)
noncomputable def i5:Sf:=sSeq (aL 2 (os (ae (oV 0) (ae (oV 1) (au))) db)) (sSeq (aL 3 (gQ)) (aV (os (ae (gO) (au)) bY)))
noncomputable def b9:List D->Option D:=runB gx 2 i5
abbrev dq:Stmt:=top 38
abbrev gz:List Str:=["rows"]
noncomputable def iH:Dv->Option D:=dy (oI (oV 0) eY) [] r9 (AJ (o2 (o2 (oV 0) (oC (.int 0)) az) (oC (.str "turn")) cn) (o2 (o2 (o2 (oV 0) (oC (.int 2)) az) (oC (.int 2)) bV) (oC (.int 1)) cn))
noncomputable def gq:Sf:=sIf (ob (os (ae (iH) (au)) CU)) (FY) (jg)
noncomputable def ca:List D->Option D:=runB gz 1 gq
abbrev dj:Stmt:=top 39
abbrev gy:List Str:=["table","row","wires"]
noncomputable def fD:Dv->Option D:=dy (oI (oV 0) eY) [(1,"row"),(2,"wires")] r9 (os (ae (os (ae (oV 2) (ae (o2 (oV 0) (oC (.int 0)) az) (ae (oV 1) (au)))) aQ) (ae (os (ae (oV 2) (ae (o2 (oV 0) (oC (.int 1)) az) (ae (oV 1) (au)))) aQ) (au))) cb)
noncomputable def gp:Sf:=sSeq (AD (os (ae (os (ae (oV 1) (au)) cb) (au)) ca)) (sSeq (aL 2 (os (ae (oV 0) (au)) eA)) (aV (os (ae (fD) (au)) bY)))
noncomputable def bP:List D->Option D:=runB gy 2 gp
abbrev f7:Stmt:=top 40
abbrev mG:List Str:=["bitset"]
noncomputable def i6:Sf:=aV (o2 (o1 (oV 0) kq) (oC (.int 1)) ce)
noncomputable def cG:List D->Option D:=runB mG 1 i6
abbrev fK:Stmt:=top 41
abbrev ke:List Str:=["things","bits_in","product","told","thing","other","top"]
noncomputable def iQ:Dv->Option D:=dy (oI (oV 3) eY) [(1,"bits_in"),(2,"product"),(4,"thing"),(6,"top")] r9 (vo (ob (os (ae (cS 1 (ae (oV 0) (au)) "<lambda> shl" iF) (ae (oV 4) (au))) jq)) (gR 2 (ae (oV 0) (ae (oV 3) (au))) (("word_times",bb)::[])) (oV 0))
noncomputable def cU:Sf:=sIf (ob (os (ae (cS 1 (ae (oV 4) (au)) "<lambda> shl" iF) (ae (os (ae (cS 1 (ae (oV 5) (au)) "<lambda> shl" iF) (au)) cG) (au))) jq)) (aL 4 (gR 2 (ae (oV 4) (ae (oV 5) (au))) (("word_times",bb)::[]))) (jg)
noncomputable def eS:Sf:=sSeq (fun δ=>(jL (oI (oV 3) eY) (gN 5) (cU)) (qx 3 δ)) (sIf (ob (o2 (cS 1 (ae (oV 4) (au)) "<lambda> shl" iF) (oC (.int 0)) neD)) (sSeq (aL 6 (os (ae (cS 1 (ae (oV 4) (au)) "<lambda> shl" iF) (au)) cG)) (sSeq (sQ 3 (Fa (iQ))) (pN 3 (oV 4)))) (jg))
noncomputable def j6:Sf:=sSeq (vZ 3 (au)) (sSeq (jL (oI (oV 0) eY) (gN 4) (eS)) (fun δ=>(aV (oV 3)) (qx 3 δ)))
noncomputable def eI:List D->Option D:=runB ke 3 j6
abbrev fI:Stmt:=top 42
abbrev kb:List Str:=["table","wires","keepers"]
noncomputable def gd:Dv->Option D:=dy (oI (oV 0) eY) [] r9 (o2 (oV 0) (oC (.int 1)) az)
noncomputable def n4:Sf:=sSeq (aL 1 (os (ae (oV 0) (au)) eA)) (sSeq (aL 2 (os (ae (gd) (ae (zg "<lambda> shl" 1) (ae (oC (CB "word_times")) (au)))) eI)) (aV (os (ae (o1 (oV 2) lF) (au)) bY)))
noncomputable def da:List D->Option D:=runB kb 1 n4
abbrev dt:Stmt:=top 44
abbrev ic:List Str:=["script","k"]
noncomputable def dE:Sf:=sSeq (sIf (ob (o2 (oV 1) (os (ae (oV 0) (au)) eA) Hg)) (aV (o2 (oV 0) (oV 1) az)) (jg)) (aV (oC (.int 0)))
noncomputable def aT:List D->Option D:=runB ic 2 dE
abbrev f9:Stmt:=top 45
abbrev mI:List Str:=["cell","wires","kind","wire"]
noncomputable def cV:Sf:=sSeq (aL 2 (o2 (os (ae (oC (.str "swing")) (ae (oC (.str "turn")) (ae (oC (.str "flip")) (ae (oC (.str "tie")) (ae (oC (.str "sign")) (ae (oC (.str "cross")) (au))))))) oO) (o2 (oV 0) (oC (.int 6)) bV) az)) (sSeq (sIf (ob (o2 (oV 1) (oC (.int 1)) cn)) (aL 2 (o2 (os (ae (oC (.str "swing")) (ae (oC (.str "turn")) (ae (oC (.str "flip")) (au)))) oO) (o2 (oV 0) (oC (.int 3)) bV) az)) (jg)) (sSeq (aL 3 (o2 (o2 (oV 0) (oC (.int 6)) fQ) (oV 1) bV)) (sSeq (sIf (ob (o2 (oV 2) (oC (.str "turn")) cn)) (aV (os (ae (oC (.str "turn")) (ae (oV 3) (ae (o2 (oC (.int 2)) (o2 (oC (.int 2)) (o2 (o2 (oV 0) (oC (.int 36)) fQ) (oC (.int 3)) bV) dH) cL) (au)))) cb)) (jg)) (sSeq (sIf (x9 (ob (o2 (oV 2) (oC (.str "swing")) cn)) (ob (o2 (oV 2) (oC (.str "flip")) cn))) (aV (os (ae (oV 2) (ae (oV 3) (au))) cb)) (jg)) (aV (os (ae (oV 2) (ae (oV 3) (ae (o2 (o2 (o2 (oV 3) (oC (.int 1)) cL) (o2 (o2 (oV 0) (oC (.int 36)) fQ) (o2 (oV 1) (oC (.int 1)) ce) bV) cL) (oV 1) bV) (au)))) cb))))))
noncomputable def aN:List D->Option D:=runB mI 2 cV
abbrev ff:Stmt:=top 46
abbrev kz:List Str:=["row"]
noncomputable def fA:Sf:=sSeq (sIf (ob (o2 (o2 (oV 0) (oC (.int 0)) az) (oC (.str "turn")) cn)) (aV (os (ae (oC (.str "turn")) (ae (o2 (oV 0) (oC (.int 1)) az) (ae (o2 (oC (.int 8)) (o2 (oV 0) (oC (.int 2)) az) ce) (au)))) cb)) (jg)) (aV (oV 0))
noncomputable def bq:List D->Option D:=runB kz 1 fA
abbrev fb:Stmt:=top 47
abbrev kx:List Str:=["cells","wires","one","two","cell","row","at"]
noncomputable def bh:Sf:=sSeq (aL 5 (os (ae (o2 (oV 4) (oC (.int 6)) fQ) (ae (oV 1) (au))) aN)) (sIf (ob (o2 (o2 (oV 4) (oC (.int 2)) bV) (oC (.int 0)) cn)) (sSeq (pN 2 (oV 5)) (pN 3 (oV 5))) (sIf (ob (o2 (o2 (o2 (oV 4) (oC (.int 2)) fQ) (oC (.int 3)) bV) (oC (.int 0)) cn)) (pN 3 (oV 5)) (sSeq (aL 6 (o2 (o2 (oV 4) (oC (.int 12)) fQ) (o2 (AI 3) (oC (.int 1)) cL) bV)) (sSeq (v5 3 (oV 6) (oV 5)) (v5 3 (o2 (oV 6) (oC (.int 1)) cL) (os (ae (oV 5) (au)) bq))))))
noncomputable def hJ:Sf:=sSeq (vZ 2 (au)) (sSeq (vZ 3 (au)) (sSeq (jL (oI (oV 0) eY) (gN 4) (bh)) (fun δ=>(fun δ=>(aV (os (ae (oV 2) (ae (oV 3) (au))) cb)) (qx 2 δ)) (qx 3 δ))))
noncomputable def cH:List D->Option D:=runB kx 2 hJ
abbrev en:Stmt:=top 48
abbrev jE:List Str:=["rows","wires","place","table","row"]
noncomputable def cN:Sf:=aL 3 (os (ae (oV 3) (ae (oV 4) (au))) bP)
noncomputable def gw:Sf:=sSeq (aL 3 (os (ae (oV 1) (ae (oV 2) (au))) b9)) (sSeq (jL (oI (oV 0) eY) (gN 4) (cN)) (aV (oV 3)))
noncomputable def bo:List D->Option D:=runB jE 3 gw
abbrev eu:Stmt:=top 49
abbrev jF:List Str:=["first","second","one","two"]
noncomputable def bB:Sf:=sIf (ob (o2 (os (ae (o2 (oV 0) (oV 2) az) (ae (o2 (oV 1) (oV 3) az) (au))) dR) (os (ae (o2 (oV 0) (oV 3) az) (ae (o2 (oV 1) (oV 2) az) (au))) dR) neD)) (aV (oC (.bool false))) (jg)
noncomputable def aY:Sf:=jL (oL (ae (oV 2) (au)) bL) (gN 3) (bB)
noncomputable def eF:Sf:=sSeq (jL (oL (ae (os (ae (oV 0) (au)) eA) (au)) bL) (gN 2) (aY)) (aV (oC (.bool true)))
noncomputable def bp:List D->Option D:=runB jF 2 eF
abbrev je:Stmt:=top 50
abbrev A4:List Str:=["script","wires","place","rows","first","second","same"]
noncomputable def xM:Sf:=sSeq (aL 1 (o2 (oC (.int 1)) (o2 (os (ae (oV 0) (ae (oC (.int 0)) (au))) aT) (oC (.int 3)) bV) cL)) (sSeq (aL 2 (o2 (os (ae (oV 0) (ae (oC (.int 1)) (au))) aT) (o2 (oC (.int 1)) (oV 1) gJ) bV)) (sSeq (aL 3 (os (ae (Hf (oV 0) (oP (oC (.int 2))) (oP (o2 (oC (.int 32)) (o2 (oC (.int 14)) (os (ae (o2 (oV 1) (oC (.int 3)) cn) (au)) uR) dH) ce))) (ae (oV 1) (au))) cH)) (sSeq (aL 4 (os (ae (os (ae (oV 1) (ae (oV 2) (au))) bC) (ae (os (ae (o2 (oV 3) (oC (.int 0)) az) (au)) bY) (au))) bG)) (sSeq (aL 5 (os (ae (os (ae (oV 1) (ae (oV 2) (au))) bC) (ae (os (ae (o2 (oV 3) (oC (.int 1)) az) (au)) bY) (au))) bG)) (sSeq (aL 6 (o2 (os (ae (os (ae (o2 (oV 3) (oC (.int 0)) az) (ae (oV 1) (ae (oV 2) (au)))) bo) (au)) da) (os (ae (os (ae (o2 (oV 3) (oC (.int 1)) az) (ae (oV 1) (ae (oV 2) (au)))) bo) (au)) da) cn)) (aV (o2 (oV 6) (os (ae (oV 4) (ae (oV 5) (au))) bp) cn)))))))
noncomputable def qr:List D->Option D:=runB A4 1 xM
open MA (Nu Row wt ak flp eh aB Wd par ax)
theorem yt(j m:Int):bn [.int j,.int m]=some (.int (MA.qZ j m)):=by
 by_cases h:j=0
 ·subst h
  simp[bn,runB,dU,aw,MA.qZ]
 ·simp[bn,runB,dU,aw,MA.qZ,h]
theorem sU(a b c d:Int):cK [.int a,.int b,.int c,.int d]=some (.tuple [.int (b-d),.int (a+c),.int (b+d),.int (c-a)]):=by
 simp[cK,runB,j7,aw]
noncomputable def tup5(x:MA.Q4)(k:Int):D:=.tuple [.int x.a,.int x.b,.int x.c,.int x.d,.int k]
noncomputable def Ca:Sf:=aL 5 (VL.os (ae (o2 (o2 (o2 (oV 0) (oV 1) rA) (oV 2) rA) (oV 3) rA) (ae (o2 (oV 4) (oC (.int 2)) fQ) (au))) bn)
noncomputable def B9:Sf:=aL 0 (o2 (oV 0) (oV 5) iP)
noncomputable def B8:Sf:=aL 1 (o2 (oV 1) (oV 5) iP)
noncomputable def B7:Sf:=aL 2 (o2 (oV 2) (oV 5) iP)
noncomputable def B6:Sf:=aL 3 (o2 (oV 3) (oV 5) iP)
noncomputable def B5:Sf:=aL 4 (o2 (oV 4) (o2 (oC (.int 2)) (oV 5) dH) ce)
noncomputable def zk:Sf:=sIf (x9 (ob (o2 (oV 4) (oC (.int 0)) cn)) (x9 (ob (o2 (o2 (o2 (oV 0) (oV 2) ce) (oC (.int 2)) bV) (oC (.int 1)) cn)) (ob (o2 (o2 (o2 (oV 1) (oV 3) ce) (oC (.int 2)) bV) (oC (.int 1)) cn)))) (aV (VL.os (ae (oV 0) (ae (oV 1) (ae (oV 2) (ae (oV 3) (ae (oV 4) (au)))))) cb)) (jg)
noncomputable def zj:Sf:=aL 6 (VL.os (ae (oV 0) (ae (oV 1) (ae (oV 2) (ae (oV 3) (au))))) cK)
noncomputable def zi:Sf:=aV (VL.os (ae (o2 (o2 (oV 6) (oC (.int 0)) az) (oC (.int 2)) fQ) (ae (o2 (o2 (oV 6) (oC (.int 1)) az) (oC (.int 2)) fQ) (ae (o2 (o2 (oV 6) (oC (.int 2)) az) (oC (.int 2)) fQ) (ae (o2 (o2 (oV 6) (oC (.int 3)) az) (oC (.int 2)) fQ) (ae (o2 (oV 4) (oC (.int 1)) ce) (au)))))) cb)
theorem uE:jA=sSeq Ca (sSeq B9 (sSeq B8 (sSeq B7 (sSeq B6 (sSeq B5 (sSeq zk (sSeq zj (zi)))))))):=rfl
theorem gg{s t:Sf}{δ δ':Dv}(h:s δ = some (.nx,δ')):sSeq s t δ = t δ':=by simp only[sSeq,h,Option.bind_some]
theorem Gf{s t:Sf}{δ δ':Dv}{d:D}(h:s δ = some (.rt d,δ')):sSeq s t δ = some (.rt d,δ'):=by simp only[sSeq,h,Option.bind_some]
theorem zl{N:List Str}{n:Nat}{b:Sf}{as:List D}{d:D}{δ':Dv}(hl:as.length=n)(h:b (aw N as)=some (.rt d,δ')):runB N n b as=some d:=by unfold runB;rw[if_pos hl,h];rfl
theorem Ib{a b c d k t:Int}(h:bn [.int (Builtin.bitOr (Builtin.bitOr (Builtin.bitOr a b) c) d),.int (k/2)]=some (.int t)):Ca [.fz (.int a),.fz (.int b),.fz (.int c),.fz (.int d),.fz (.int k),.un,.un]=some (.nx,[.fz (.int a),.fz (.int b),.fz (.int c),.fz (.int d),.fz (.int k),.fz (.int t),.un]):=by simp[Ca,h]
theorem Ia(a:Int)(t:Nat)(x1 x2 x3 x4 x6:Sl):B9 [.fz (.int a),x1,x2,x3,x4,.fz (.int t),x6]=some (.nx,[.fz (.int (a/2^t)),x1,x2,x3,x4,.fz (.int t),x6]):=by simp[B9]
theorem H9(a:Int)(t:Nat)(x1 x2 x3 x4 x6:Sl):B8 [x1,.fz (.int a),x2,x3,x4,.fz (.int t),x6]=some (.nx,[x1,.fz (.int (a/2^t)),x2,x3,x4,.fz (.int t),x6]):=by simp[B8]
theorem H0(a:Int)(t:Nat)(x1 x2 x3 x4 x6:Sl):B7 [x1,x2,.fz (.int a),x3,x4,.fz (.int t),x6]=some (.nx,[x1,x2,.fz (.int (a/2^t)),x3,x4,.fz (.int t),x6]):=by simp[B7]
theorem HZ(a:Int)(t:Nat)(x1 x2 x3 x4 x6:Sl):B6 [x1,x2,x3,.fz (.int a),x4,.fz (.int t),x6]=some (.nx,[x1,x2,x3,.fz (.int (a/2^t)),x4,.fz (.int t),x6]):=by simp[B6]
theorem HY(a:Int)(t:Nat)(x1 x2 x3 x4 x6:Sl):B5 [x1,x2,x3,x4,.fz (.int a),.fz (.int t),x6]=some (.nx,[x1,x2,x3,x4,.fz (.int (a-2*t)),.fz (.int t),x6]):=by
 have m2:IntMulOk 2 (t:Int):=.of_left (by decide);simp[B5,m2]
theorem AH{f g:Dv->Option Bool}{δ:Dv}(h:f δ = some true):x9 f g δ = some true:=by unfold x9;rw[h];rfl
theorem s0{f g:Dv->Option Bool}{δ:Dv}(h:f δ = some false):x9 f g δ = g δ:=by unfold x9;rw[h];rfl
section
variable(a b c d k:Int)(x5 x6:Sl)
theorem Ec:(ob (o2 (oV 4) (oC (.int 0)) cn)) [.fz (.int a),.fz (.int b),.fz (.int c),.fz (.int d),.fz (.int k),x5,x6]=some (k==0):=rfl
theorem D2{f g:Dv->Option D}{δ:Dv}{x y:Int}(hf:f δ = some (.int x))(hg:g δ = some (.int y)):(ob (o2 (o2 (o2 f g ce) (oC (.int 2)) bV) (oC (.int 1)) cn)) δ = some ((x-y)%2==1):=by
 have s:ce (.int x) (.int y)=some (.int (x-y)):=rfl;have m:bV (.int (x-y)) (.int 2)=some (.int ((x-y)%2)):=gS (by decide);simp only[ob,o2,oC,hf,hg,Option.bind_some,s,m,zU,xP]
theorem Eb:(ob (o2 (o2 (o2 (oV 0) (oV 2) ce) (oC (.int 2)) bV) (oC (.int 1)) cn)) [.fz (.int a),.fz (.int b),.fz (.int c),.fz (.int d),.fz (.int k),x5,x6]=some ((a-c)%2==1):=D2 rfl rfl
theorem Ea:(ob (o2 (o2 (o2 (oV 1) (oV 3) ce) (oC (.int 2)) bV) (oC (.int 1)) cn)) [.fz (.int a),.fz (.int b),.fz (.int c),.fz (.int d),.fz (.int k),x5,x6]=some ((b-d)%2==1):=D2 rfl rfl
end
theorem v6{t:Dv->Option Bool}{u w:Sf}{δ:Dv}(h:t δ = some true):sIf t u w δ = u δ:=by unfold sIf;rw[h];rfl
theorem pM{t:Dv->Option Bool}{u w:Sf}{δ:Dv}(h:t δ = some false):sIf t u w δ = w δ:=by unfold sIf;rw[h];rfl
theorem Gd(a b c d k:Int)(x5 x6:Sl)(h:k=0\/(a-c)%2=1\/(b-d)%2=1):zk [.fz (.int a),.fz (.int b),.fz (.int c),.fz (.int d),.fz (.int k),x5,x6]=some (.rt (.tuple [.int a,.int b,.int c,.int d,.int k]),[.fz (.int a),.fz (.int b),.fz (.int c),.fz (.int d),.fz (.int k),x5,x6]):=by
 refine(v6 ?_).trans rfl;have t1:=Ec a b c d k x5 x6;have t2:=Eb a b c d k x5 x6;have t3:=Ea a b c d k x5 x6;by_cases q0:k=0
 ·rw[beq_iff_eq.mpr q0]at t1;exact AH t1
 ·rw[beq_eq_false_iff_ne.mpr q0]at t1
  refine(s0 t1).trans ?_;by_cases q1:(a-c)%2=1
  ·rw[beq_iff_eq.mpr q1]at t2;exact AH t2
  ·rw[beq_eq_false_iff_ne.mpr q1]at t2
   refine(s0 t2).trans ?_;rcases h with h|h|h
   ·exact absurd h q0
   ·exact absurd h q1
   ·rw[beq_iff_eq.mpr h]at t3;exact t3
theorem Ge(a b c d k:Int)(x5 x6:Sl)(h:¬(k=0\/(a-c)%2=1\/(b-d)%2=1)):zk [.fz (.int a),.fz (.int b),.fz (.int c),.fz (.int d),.fz (.int k),x5,x6]=some (.nx,[.fz (.int a),.fz (.int b),.fz (.int c),.fz (.int d),.fz (.int k),x5,x6]):=by
 have t1:=Ec a b c d k x5 x6;have t2:=Eb a b c d k x5 x6;have t3:=Ea a b c d k x5 x6;rw[beq_eq_false_iff_ne.mpr fun q=>h (.inl q)]at t1
 rw[beq_eq_false_iff_ne.mpr fun q=>h (.inr (.inl q))]at t2
 rw[beq_eq_false_iff_ne.mpr fun q=>h (.inr (.inr q))]at t3
 exact(pM ((s0 t1).trans ((s0 t2).trans t3))).trans rfl
theorem HX(a b c d:Int)(x4 x5 x6:Sl):zj [.fz (.int a),.fz (.int b),.fz (.int c),.fz (.int d),x4,x5,x6]=some (.nx,[.fz (.int a),.fz (.int b),.fz (.int c),.fz (.int d),x4,x5,.fz (.tuple [.int (b-d),.int (a+c),.int (b+d),.int (c-a)])]):=by simp[zj,sU]
theorem HW(p q r s k:Int)(x0 x1 x2 x3 x5:Sl):zi [x0,x1,x2,x3,.fz (.int k),x5,.fz (.tuple [.int p,.int q,.int r,.int s])]=some (.rt (.tuple [.int (p/2),.int (q/2),.int (r/2),.int (s/2),.int (k-1)]),[x0,x1,x2,x3,.fz (.int k),x5,.fz (.tuple [.int p,.int q,.int r,.int s])]):=by simp[zi]
theorem uF(a b c d k:Int)(hk:0<=k):cF [.int a,.int b,.int c,.int d,.int k]=some (tup5 (MA.num ⟨a,b,c,d⟩ k).1 (MA.num ⟨a,b,c,d⟩ k).2):=by
 obtain⟨t,e,h1,_⟩:=MA.jH a b c d (k/2) (Int.ediv_nonneg hk (by decide));have tw:=yt (Builtin.bitOr (Builtin.bitOr (Builtin.bitOr a b) c) d) (k/2);rw[e]at tw;unfold MA.num tup5;simp only[e,Int.toNat_natCast];generalize ha:a/2^t=A;generalize hb:b/2^t=B;generalize hc:c/2^t=C;generalize hd:d/2^t=E;have go:jA (aw mF [.int a,.int b,.int c,.int d,.int k])=(sSeq zk (sSeq zj zi)) [.fz (.int A),.fz (.int B),.fz (.int C),.fz (.int E),.fz (.int (k-2*t)),.fz (.int t),.un]:=by
  rw[uE,<-ha,<-hb,<-hc,<-hd];exact(gg (Ib tw)).trans ((gg (Ia _ _ _ _ _ _ _)).trans ((gg (H9 _ _ _ _ _ _ _)).trans ((gg (H0 _ _ _ _ _ _ _)).trans ((gg (HZ _ _ _ _ _ _ _)).trans (gg (HY _ _ _ _ _ _ _))))))
 by_cases q:k-2*(t:Int)=0\/(A-C)%2=1\/(B-E)%2=1
 ·rw[if_pos q]
  exact zl rfl (go.trans (Gf (Gd _ _ _ _ _ _ _ q)))
 ·rw[if_neg q]
  exact zl rfl (go.trans ((gg (Ge _ _ _ _ _ _ _ q)).trans ((gg (HX _ _ _ _ _ _ _)).trans (HW _ _ _ _ _ _ _ _ _ _))))
theorem Gg(c f:Int):wK [.int c,.int f]=some (.int (max c f)):=by
 rw[qc];congr 2;rw[Int.max_def];split<;>split<;>lia
theorem B4(x:MA.Q4)(k:Int)(hk:0<=k):cF [.int x.a,.int x.b,.int x.c,.int x.d,.int k]=some (tup5 (MA.num x k).1 (MA.num x k).2):=uF _ _ _ _ _ hk
noncomputable def Bi(x:MA.Q4):D:=.tuple [.int x.a,.int x.b,.int x.c,.int x.d]
theorem sX(x:MA.Q4)(c k:Int)(h:MA.Q4.Le (2^100000) x)(h1:c<=k)(h2:k-c<=100000):bQ [tup5 x c,.int k]=some (Bi (MA.Q4.rtn (k-c).toNat x)):=by
 obtain⟨l1,l2,l3,l4⟩:=h;obtain⟨t,ht⟩:∃t:Nat,(k-c)/2=t:=⟨((k-c)/2).toNat,by lia⟩;have s:∀i:Int,i.natAbs<=2^100000->gJ (.int i) (.int (t:Int))=some (.int (i*2^t)):=fun i hi=>by
  have hb:i.natAbs<2^100001:=Nat.lt_of_le_of_lt hi (Nat.pow_lt_pow_right (by decide) (by decide));have:=MA.jz hb;have q:=jc (i:=i) (j:=(t:Int)) (by lia) (by lia);simpa using q
 have r2:=MA.Q4.rtn_two t x;unfold tup5 Bi;by_cases o:(k-c)%2=1
 ·have e:(k-c).toNat=2*t+1:=by lia
  have m:(2*(t:Int)+1)%2=1:=by lia
  rw[e,MA.Q4.rtn_succ,r2];simp[bQ,runB,eE,aw,ht,o,s _ l1,s _ l2,s _ l3,s _ l4,sU,MA.Q4.rt,MA.Q4.dbl]
 ·have e:(k-c).toNat=2*t:=by lia
  rw[e,r2];simp[bQ,runB,eE,aw,ht,o,s _ l1,s _ l2,s _ l3,s _ l4,MA.Q4.dbl]
theorem yW(x:MA.Q4)(c:Int)(y:MA.Q4)(d:Int)(hx:MA.Q4.Le (2^100000) x)(hy:MA.Q4.Le (2^100000) y)(hc:0<=c)(hd:0<=d)(hc1:c<=100000)(hd1:d<=100000):fE [tup5 x c,tup5 y d]=some (tup5 (MA.fg x c y d).1 (MA.fg x c y d).2):=by
 have hm:=Gg c d;have k1:c<=max c d:=Int.le_max_left ..;have k2:d<=max c d:=Int.le_max_right ..;have k3:max c d=c\/max c d=d:=by lia
 have o1:=sX x c (max c d) hx k1 (by lia);have o2:=sX y d (max c d) hy k2 (by lia);unfold MA.fg;have nm:=B4 (MA.Q4.add (MA.Q4.rtn (max c d-c).toNat x) (MA.Q4.rtn (max c d-d).toNat y)) (max c d) (by lia);generalize max c d=m at *;generalize MA.Q4.rtn (m-c).toNat x=u at *;generalize MA.Q4.rtn (m-d).toNat y=v at *;generalize MA.num (MA.Q4.add u v) m=r at *;simp only[MA.Q4.add]at nm;generalize tup5 r.1 r.2=R at *;simp only[tup5,Bi]at o1 o2 ⊢;simp[-qc,fE,runB,ss,aw,hm,o1,o2,nm]
theorem uU(x:MA.Q4)(c:Int)(hc:0<=c):cQ [tup5 x c]=some (tup5 (MA.num x (c+1)).1 (MA.num x (c+1)).2):=by
 have nm:=B4 x (c+1) (by lia);generalize tup5 (MA.num x (c+1)).1 (MA.num x (c+1)).2=R at *;simp only[tup5];simp[cQ,runB,mz,aw,nm]
theorem ud(x:MA.Q4)(c e:Int):cO [tup5 x c,.int e]=some (tup5 (MA.df (e%8).toNat x) c):=by
 have w:e%8=0\/e%8=1\/e%8=2\/e%8=3\/e%8=4\/e%8=5\/e%8=6\/e%8=7:=by lia
 have go:∀(r a0 a1 a2 a3:Int),e%8=r->(0-e)%8=a0->(1-e)%8=a1->(2-e)%8=a2->(3-e)%8=a3->∀b0 b1 b2 b3:Int,gF [PyData.int x.a,.int x.b,.int x.c,.int x.d,.int (-x.a),.int (-x.b),.int (-x.c),.int (-x.d)] a0=some (.int b0)->gF [PyData.int x.a,.int x.b,.int x.c,.int x.d,.int (-x.a),.int (-x.b),.int (-x.c),.int (-x.d)] a1=some (.int b1) ->
   gF [PyData.int x.a,.int x.b,.int x.c,.int x.d,.int (-x.a),.int (-x.b),.int (-x.c),.int (-x.d)] a2=some (.int b2)->gF [PyData.int x.a,.int x.b,.int x.c,.int x.d,.int (-x.a),.int (-x.b),.int (-x.c),.int (-x.d)] a3=some (.int b3)->cO [tup5 x c,.int e]=some (.tuple [.int b0,.int b1,.int b2,.int b3,.int c]):=by
  intro r a0 a1 a2 a3 _ h0 h1 h2 h3 b0 b1 b2 b3 k0 k1 k2 k3;have h0:-e%8=a0:=by lia
  simp only[tup5];simp[cO,runB,mx,aw,h0,h1,h2,h3,k0,k1,k2,k3]
 rcases w with w|w|w|w|w|w|w|w<;>rw[w]
 ·exact go 0 0 1 2 3 w (by lia) (by lia) (by lia) (by lia) _ _ _ _ (by simp;rfl) (by simp;rfl) (by simp;rfl) (by simp;rfl)
 ·exact go 1 7 0 1 2 w (by lia) (by lia) (by lia) (by lia) _ _ _ _ (by simp;rfl) (by simp;rfl) (by simp;rfl) (by simp;rfl)
 ·exact go 2 6 7 0 1 w (by lia) (by lia) (by lia) (by lia) _ _ _ _ (by simp;rfl) (by simp;rfl) (by simp;rfl) (by simp;rfl)
 ·exact go 3 5 6 7 0 w (by lia) (by lia) (by lia) (by lia) _ _ _ _ (by simp;rfl) (by simp;rfl) (by simp;rfl) (by simp;rfl)
 ·exact go 4 4 5 6 7 w (by lia) (by lia) (by lia) (by lia) _ _ _ _ (by simp;rfl) (by simp;rfl) (by simp;rfl) (by simp;rfl)
 ·have e0:tup5 (MA.df (5:Int).toNat x) c=.tuple [.int x.d,.int (-x.a),.int (-x.b),.int (-x.c),.int c]:=by simp[tup5,MA.df,MA.Q4.tn]
  rw[e0];exact go 5 3 4 5 6 w (by lia) (by lia) (by lia) (by lia) _ _ _ _ (by simp) (by simp) (by simp) (by simp)
 ·have e0:tup5 (MA.df (6:Int).toNat x) c=.tuple [.int x.c,.int x.d,.int (-x.a),.int (-x.b),.int c]:=by simp[tup5,MA.df,MA.Q4.tn]
  rw[e0];exact go 6 2 3 4 5 w (by lia) (by lia) (by lia) (by lia) _ _ _ _ (by simp) (by simp) (by simp) (by simp)
 ·have e0:tup5 (MA.df (7:Int).toNat x) c=.tuple [.int x.b,.int x.c,.int x.d,.int (-x.a),.int c]:=by simp[tup5,MA.df,MA.Q4.tn]
  rw[e0];exact go 7 1 2 3 4 w (by lia) (by lia) (by lia) (by lia) _ _ _ _ (by simp) (by simp) (by simp) (by simp)
theorem sv(x:MA.Q4)(c:Int):dc [tup5 x c]=some (tup5 (MA.Q4.neg x) c):=by
 simp only[tup5];simp[dc,runB,j9,aw,MA.Q4.neg]
noncomputable def AG(a:Str):Bool:=vT (.str a)
theorem mK{a b:Str}(ha:AG a=true)(hb:AG b=true):cn (.str a) (.str b)=some (.bool (a==b)):=if_pos ⟨ha,hb⟩
theorem b7:AG "swing" = true:=by decide +kernel
theorem cY:AG "turn" = true:=by decide +kernel
theorem cZ:AG "flip" = true:=by decide +kernel
theorem eO:AG "tie" = true:=by decide +kernel
theorem dL:AG "sign" = true:=by decide +kernel
theorem eP:AG "cross" = true:=by decide +kernel
@[simp] theorem wT:cn (.str "swing") (.str "swing")=some (.bool true):=(mK b7 b7).trans (congrArg (fun z=>some (PyData.bool z)) (show(("swing":Str)==("swing":Str))=true by decide +kernel))
@[simp] theorem yb:cn (.str "swing") (.str "turn")=some (.bool false):=(mK b7 cY).trans (congrArg (fun z=>some (PyData.bool z)) (show(("swing":Str)==("turn":Str))=false by decide +kernel))
@[simp] theorem yc:cn (.str "swing") (.str "flip")=some (.bool false):=(mK b7 cZ).trans (congrArg (fun z=>some (PyData.bool z)) (show(("swing":Str)==("flip":Str))=false by decide +kernel))
@[simp] theorem ya:cn (.str "turn") (.str "swing")=some (.bool false):=(mK cY b7).trans (congrArg (fun z=>some (PyData.bool z)) (show(("turn":Str)==("swing":Str))=false by decide +kernel))
@[simp] theorem zt:cn (.str "turn") (.str "turn")=some (.bool true):=(mK cY cY).trans (congrArg (fun z=>some (PyData.bool z)) (show(("turn":Str)==("turn":Str))=true by decide +kernel))
@[simp] theorem ye:cn (.str "flip") (.str "swing")=some (.bool false):=(mK cZ b7).trans (congrArg (fun z=>some (PyData.bool z)) (show(("flip":Str)==("swing":Str))=false by decide +kernel))
@[simp] theorem zA:cn (.str "flip") (.str "turn")=some (.bool false):=(mK cZ cY).trans (congrArg (fun z=>some (PyData.bool z)) (show(("flip":Str)==("turn":Str))=false by decide +kernel))
@[simp] theorem zB:cn (.str "flip") (.str "flip")=some (.bool true):=(mK cZ cZ).trans (congrArg (fun z=>some (PyData.bool z)) (show(("flip":Str)==("flip":Str))=true by decide +kernel))
@[simp] theorem zu:cn (.str "tie") (.str "swing")=some (.bool false):=(mK eO b7).trans (congrArg (fun z=>some (PyData.bool z)) (show(("tie":Str)==("swing":Str))=false by decide +kernel))
@[simp] theorem AN:cn (.str "tie") (.str "turn")=some (.bool false):=(mK eO cY).trans (congrArg (fun z=>some (PyData.bool z)) (show(("tie":Str)==("turn":Str))=false by decide +kernel))
@[simp] theorem AO:cn (.str "tie") (.str "flip")=some (.bool false):=(mK eO cZ).trans (congrArg (fun z=>some (PyData.bool z)) (show(("tie":Str)==("flip":Str))=false by decide +kernel))
@[simp] theorem Ck:cn (.str "tie") (.str "tie")=some (.bool true):=(mK eO eO).trans (congrArg (fun z=>some (PyData.bool z)) (show(("tie":Str)==("tie":Str))=true by decide +kernel))
@[simp] theorem yd:cn (.str "sign") (.str "swing")=some (.bool false):=(mK dL b7).trans (congrArg (fun z=>some (PyData.bool z)) (show(("sign":Str)==("swing":Str))=false by decide +kernel))
@[simp] theorem zv:cn (.str "sign") (.str "turn")=some (.bool false):=(mK dL cY).trans (congrArg (fun z=>some (PyData.bool z)) (show(("sign":Str)==("turn":Str))=false by decide +kernel))
@[simp] theorem zy:cn (.str "sign") (.str "flip")=some (.bool false):=(mK dL cZ).trans (congrArg (fun z=>some (PyData.bool z)) (show(("sign":Str)==("flip":Str))=false by decide +kernel))
@[simp] theorem AQ:cn (.str "sign") (.str "tie")=some (.bool false):=(mK dL eO).trans (congrArg (fun z=>some (PyData.bool z)) (show(("sign":Str)==("tie":Str))=false by decide +kernel))
@[simp] theorem zw:cn (.str "sign") (.str "sign")=some (.bool true):=(mK dL dL).trans (congrArg (fun z=>some (PyData.bool z)) (show(("sign":Str)==("sign":Str))=true by decide +kernel))
@[simp] theorem wU:cn (.str "cross") (.str "swing")=some (.bool false):=(mK eP b7).trans (congrArg (fun z=>some (PyData.bool z)) (show(("cross":Str)==("swing":Str))=false by decide +kernel))
@[simp] theorem yf:cn (.str "cross") (.str "turn")=some (.bool false):=(mK eP cY).trans (congrArg (fun z=>some (PyData.bool z)) (show(("cross":Str)==("turn":Str))=false by decide +kernel))
@[simp] theorem yh:cn (.str "cross") (.str "flip")=some (.bool false):=(mK eP cZ).trans (congrArg (fun z=>some (PyData.bool z)) (show(("cross":Str)==("flip":Str))=false by decide +kernel))
@[simp] theorem zC:cn (.str "cross") (.str "tie")=some (.bool false):=(mK eP eO).trans (congrArg (fun z=>some (PyData.bool z)) (show(("cross":Str)==("tie":Str))=false by decide +kernel))
@[simp] theorem yg:cn (.str "cross") (.str "sign")=some (.bool false):=(mK eP dL).trans (congrArg (fun z=>some (PyData.bool z)) (show(("cross":Str)==("sign":Str))=false by decide +kernel))
@[simp] theorem Fj(u w:Sf)(δ:Dv)(a b:Int):Ez u w δ (a==b)=if a=b then u δ else w δ:=by
 by_cases h:a=b
 ·subst h;simp
 ·have:(a==b)=false:=by simpa using h
  rw[this,if_neg h];rfl
theorem qd{α:Type}{f:D->Option D}{h k:α -> D}:∀(xs:List α),(∀x∈xs,f (h x)=some (k x))->uJ f (xs.map h)=some (xs.map k)
 |[],_=>rfl
 |x::xs,H=>by
  show((f (h x)).bind fun y=>_)=_
  rw[H x List.mem_cons_self];show((uJ f (xs.map h)).bind fun ys=>_)=_
  rw[qd xs fun y hy=>H y (List.mem_cons_of_mem _ hy)]
  rfl
theorem dA{α:Type}{fi:Dv->Option (List D)}{caps:List (Nat×Str)}{fe:Dv->Option D}{δ:Dv}{h k:α -> D}{xs:List α}(e:fi δ = some (xs.map h))(hl:xs.length<=16777216)(H:∀x∈xs,fe (.fz (h x)::capS δ caps)=some (k x)):dy fi caps r9 fe δ = some (.list (xs.map k)):=by
 unfold dy;rw[e,Option.bind_some,if_pos (by rw[List.length_map];exact hl),qd xs (k:=k) fun x hx=>by
  show fe _=_;exact H x hx]
 rfl
@[simp] theorem Fi(u w:Sf)(δ:Dv)(a b:Int):Ez u w δ (!(a==b))=if a=b then w δ else u δ:=by
 by_cases h:a=b
 ·subst h;simp
 ·have:(a==b)=false:=by simpa using h
  rw[this,if_neg h];rfl
@[simp] theorem Gh(a b c d e f:D):oO [a,b,c,d,e,f]=some (.list [a,b,c,d,e,f]):=ti (by simp)
open MA (Nu Row wt ak flp eh aB)
noncomputable def bT(u:Nu):D:=tup5 u.1 u.2
noncomputable def dI(n:Nat)(f:Nat->Nu):D:=.tuple ((List.range (2^n)).map fun p=>bT (f p))
noncomputable def rowD:Row->D
 |.swing j=>.tuple [.str "swing",.int j]
 |.turn j e=>.tuple [.str "turn",.int j,.int e]
 |.flip j=>.tuple [.str "flip",.int j]
 |.tie i j=>.tuple [.str "tie",.int i,.int j]
 |.sign i j=>.tuple [.str "sign",.int i,.int j]
 |.cross i j=>.tuple [.str "cross",.int i,.int j]
theorem jb{n:Nat}{f:Nat->Nu}{i:Int}(p:Nat)(hi:i=p)(hp:p<2^n):az (dI n f) (.int i)=some (bT (f p)):=by
 show gF _ _=_;exact d9 (j:=p) hi (by simp[hp])
theorem jR(n:Nat)(f:Nat->Nu):eA [dI n f]=some (.int ((2^n:Nat):Int)):=by
 show some (PyData.int (((List.range (2^n)).map fun p=>bT (f p)).length:Nat))=_
 rw[List.length_map,List.length_range]
theorem wO{b:Sf}{k:Nat}(I:Nat->Dv->Prop)(n:Nat)(h:∀i,i<n->∀ δ,I i δ -> ∃ δ2,b (δ.set k (.fz (.int i)))=some (.nx,δ2)/\I (i+1) δ2):∀ δ,I 0 δ -> ∃ δ',loop (gN k) b (mO 0 n) δ = some (.nx,δ')/\I n δ':=by
 have go:∀(m i:Nat),i+m=n->∀ δ,I i δ -> ∃ δ',loop (gN k) b ((List.range' i m).map fun(k:Nat)=>PyData.int (0+(k:Int))) δ = some (.nx,δ')/\I n δ':=by
  intro m
  induction m with
  |zero=>intro i e δ h;exact⟨δ,rfl,by rw[<-e];exact h⟩
  |succ m ih=>
   intro i e δ hi;obtain⟨δ2,e2,h2⟩:=h i (by lia) δ hi;obtain⟨δ',e3,h3⟩:=ih (i+1) (by lia) δ2 h2;refine⟨δ',?_,h3⟩;rw[<-e3,List.range'_succ,List.map_cons];exact eH (δ1:=δ.set k (.fz (.int i))) (by simp) e2
 intro δ h0;have:=go n 0 (by lia) δ h0;rw[<-List.range_eq_range']at this;exact this
theorem wH(x:MA.Q4)(k:Nat):∃c:Nat,(MA.num x k).2=c/\c<=k:=by
 obtain⟨c,e,h,_⟩:=MA.B3 x k;exact⟨c,e,h⟩
theorem wq(u v:Nu):(MA.bM u v).2<=max u.2 v.2:=by
 obtain⟨c,e2,h⟩:=wH (MA.Q4.add (MA.Q4.rtn (max (u.2:Int) v.2-u.2).toNat u.1) (MA.Q4.rtn (max (u.2:Int) v.2-v.2).toNat v.1)) (max u.2 v.2);have e3:((max u.2 v.2:Nat):Int)=max (u.2:Int) v.2:=by lia
 rw[e3]at e2;show(MA.fg u.1 u.2 v.1 v.2).2.toNat<=_;unfold MA.fg;rw[e2];exact h
theorem jh(n:Nat)(hn:n<=6):bL [.int ((2^n:Nat):Int)]=some ((List.range (2^n)).map fun k:Nat=>PyData.int (0+(k:Int))):=by
 have sq:(2^n:Nat)<=64:=(Nat.pow_le_pow_right (by decide) hn:2^n<=2^6);generalize (2^n:Nat)=N at sq ⊢;exact jM (j:=(N:Int)) (by lia) (by lia)
theorem zY{fi:Dv->Option (List D)}{caps:List (Nat×Str)}{fe:Dv->Option D}{δ:Dv}{N:Nat}{y:Nat->D}(e:fi δ = some ((List.range N).map fun k:Nat=>PyData.int (0+(k:Int))))(hl:N<=16777216)(H:∀p:Nat,p<N->fe (.fz (.int p)::capS δ caps)=some (y p)):dy fi caps r9 fe δ = some (.list ((List.range N).map y)):=by
 refine dA e (by rw[List.length_range];exact hl) fun p hp=>?_
 rw[Int.zero_add];exact H p (List.mem_range.mp hp)
def Bd(k p:Nat)(f:Nat->Nu):Prop:=∀x,(f x).2<=k/\MA.Q4.Le (2^p) (f x).1
theorem zK(u:Nu):(MA.cg u).2<=u.2+1:=by
 obtain⟨c,e,h⟩:=wH u.1 (u.2+1);show(MA.num u.1 ((u.2+1:Nat):Int)).2.toNat<=_;rw[e];exact h
theorem zL{u:Nu}{M:Nat}(h:MA.Q4.Le M u.1):MA.Q4.Le M (MA.cg u).1:=MA.wG _ _ (by lia) _ h
theorem Bd.done{k p:Nat}{f:Nat->Nu}(h:Bd k p f)(n:Nat)(r:Row):Bd (k+1) (p+k+1) (aB n f r):=fun x=>by
 have mono:∀y,(f y).2<=k+1/\MA.Q4.Le (2^(p+k+1)) (f y).1:=fun y=>⟨by have:=(h y).1;lia,(h y).2.mono (Nat.pow_le_pow_right (by decide) (by lia))⟩
 have pl:∀(u v:Nu),u.2<=k->v.2<=k->MA.Q4.Le (2^p) u.1->MA.Q4.Le (2^p) v.1->(MA.cg (MA.bM u v)).2<=k+1/\MA.Q4.Le (2^(p+k+1)) (MA.cg (MA.bM u v)).1:=fun u v h1 h2 h3 h4=>by
  refine⟨?_,zL ?_⟩
  ·have:=zK (MA.bM u v)
   have:=wq u v
   lia
  ·exact MA.wp h3 h4 h1 h2
 cases r with
 |swing j=>
  show(if ak (wt n j) x=0 then _ else _:Nu).2<=_/\MA.Q4.Le _ (if ak (wt n j) x=0 then _ else _:Nu).1;split
  ·exact pl _ _ (h _).1 (h _).1 (h _).2 (h _).2
  ·exact pl _ _ (h _).1 (h _).1 (h _).2 (MA.lE _ (h _).2)
 |turn j e=>exact⟨(mono x).1,MA.lE _ (mono x).2⟩
 |sign i j=>exact⟨(mono x).1,MA.lE _ (mono x).2⟩
 |flip j=>exact mono _
 |tie i j=>exact mono _
 |cross i j=>exact mono _
theorem FC:((List.range 6).all fun k=>(List.range 64).all fun p=>(p &&& 2^k==2^k*ak (2^k) p)&&(p ^^^ 2^k==flp (2^k) p))=true:=by decide +kernel
theorem FB:((List.range 6).all fun k=>(List.range 6).all fun l=>(List.range 64).all fun p=>(k==l)||((2^k ||| 2^l==2^k+2^l)&&(p &&& (2^k+2^l)==2^k*ak (2^k) p+2^l*ak (2^l) p)&&(p ^^^ (2^k+2^l)==flp (2^l) (flp (2^k) p))))=true:=by decide +kernel
section
variable{n:Nat}(hn:n<=6)
include hn
theorem kh:2^n<=64:=(Nat.pow_le_pow_right (by decide) hn:2^n<=2^6)
theorem mC{j p:Nat}(hj:j<n)(hp:p<2^n):p &&& wt n j=wt n j*ak (wt n j) p/\p ^^^ wt n j=flp (wt n j) p:=by
 have h:=FC;rw[List.all_eq_true]at h;have h:=h (n-1-j) (List.mem_range.mpr (by lia));rw[List.all_eq_true]at h;have h:=h p (List.mem_range.mpr (Nat.lt_of_lt_of_le hp (kh hn)));rw[Bool.and_eq_true,beq_iff_eq,beq_iff_eq]at h;exact h
theorem iA{i j p:Nat}(hi:i<n)(hj:j<n)(hij:i≠j)(hp:p<2^n):wt n i ||| wt n j=wt n i+wt n j/\p &&& (wt n i+wt n j)=wt n i*ak (wt n i) p+wt n j*ak (wt n j) p/\p ^^^ (wt n i+wt n j)=flp (wt n j) (flp (wt n i) p):=by
 have h:=FB;rw[List.all_eq_true]at h;have h:=h (n-1-i) (List.mem_range.mpr (by lia));rw[List.all_eq_true]at h;have h:=h (n-1-j) (List.mem_range.mpr (by lia));rw[List.all_eq_true]at h;have h:=h p (List.mem_range.mpr (Nat.lt_of_lt_of_le hp (kh hn)));rw[Bool.or_eq_true,Bool.and_eq_true,Bool.and_eq_true,beq_iff_eq,beq_iff_eq,beq_iff_eq,beq_iff_eq]at h;rcases h with h|h
 ·exact absurd h (by lia)
 ·exact⟨h.1.1,h.1.2,h.2⟩
theorem aX{j:Nat}(hj:j<n):bO [.int n,.int j]=some (.int (wt n j:Nat)):=by
 have hb:Builtin.Int.intBits 1=1:=by decide +kernel
 have e:=jc (i:=1) (j:=(n:Int)-1-(j:Int)) (by lia) (by lia);have e2:(1:Int)*2^((n:Int)-1-(j:Int)).toNat=((wt n j:Nat):Int):=by
  unfold MA.wt;rw[show((n:Int)-1-(j:Int)).toNat=n-1-j by lia]
  push_cast
  lia
 rw[e2]at e;simp[bO,runB,pd,aw,e]
theorem vx(f:Nat->Nu):kq (.int ((2^n:Nat):Int))=some (.int ((n:Int)+1)):=by
 have e:((2^n:Nat):Int)=2^n:=by push_cast;rfl
 have:=MA.qK n;rw[vd,e,this];rfl
theorem wo(u v:Nu)(hu:MA.Q4.Le (2^100000) u.1)(hv:MA.Q4.Le (2^100000) v.1)(hc:u.2<=50000)(hd:v.2<=50000):fE [bT u,bT v]=some (bT (MA.bM u v)):=by
 have e:=yW u.1 u.2 v.1 v.2 hu hv (by lia) (by lia) (by lia) (by lia);unfold bT MA.bM;rw[e];obtain⟨c,e2,h⟩:=wH (MA.Q4.add (MA.Q4.rtn (max (u.2:Int) v.2-u.2).toNat u.1) (MA.Q4.rtn (max (u.2:Int) v.2-v.2).toNat v.1)) (max u.2 v.2);have e3:((max u.2 v.2:Nat):Int)=max (u.2:Int) v.2:=by lia
 rw[e3]at e2;show some (tup5 _ (MA.fg u.1 u.2 v.1 v.2).2)=some (tup5 _ ((MA.fg u.1 u.2 v.1 v.2).2.toNat:Int));unfold MA.fg;rw[e2];rfl
theorem qm(u:Nu):cQ [bT u]=some (bT (MA.cg u)):=by
 have e:=uU u.1 u.2 (by lia);obtain⟨c,e2,h⟩:=wH u.1 (u.2+1);have e3:((u.2+1:Nat):Int)=(u.2:Int)+1:=by lia
 unfold bT MA.cg;rw[e,e3];rw[e3]at e2;rw[e2];rfl
theorem vj(u:Nu):dc [bT u]=some (bT (MA.aD 4 u)):=by
 have e:=sv u.1 u.2;unfold bT MA.aD;rw[e];have:MA.df (4%8) u.1=MA.Q4.neg u.1:=by
  show MA.Q4.tn (MA.Q4.tn (MA.Q4.tn (MA.Q4.tn u.1)))=_;unfold MA.Q4.tn MA.Q4.neg;rfl
 rw[this]
theorem pE(u:Nu)(e:Nat):cO [bT u,.int e]=some (bT (MA.aD e u)):=by
 have h:=ud u.1 u.2 e;unfold bT MA.aD;rw[h,show((e:Int)%8).toNat=e%8 by lia]
end
section
variable{n:Nat}(hn:n<=6)(f:Nat->Nu)(hf:∀p,(f p).2<=40000)(hL:∀p,MA.Q4.Le (2^100000) (f p).1)
include hn
theorem vJ(X x y a b:D)(p w q:Int)(ds:List D)(hs:ds.length<sizeLine)(h1:Builtin.bitAnd p w=0)(h2:Builtin.bitXor p w=q)(a0:az X (.int p)=some x)(a1:az X (.int q)=some y)(e1:fE [x,y]=some a)(e2:cQ [a]=some b):
  dX [.fz X,.fz (.int w),.ow ds,.fz (.int p)]=some (.nx,[.fz X,.fz (.int w),.ow (ds++[b]),.fz (.int p)]):=by
 simp[-sSeq,-sIf,aG,aO,dX,h1,h2,a0,a1,e1,e2,hs]
theorem vI(X x y z a b:D)(p w q m:Int)(ds:List D)(hs:ds.length<sizeLine)(h1:Builtin.bitAnd p w=m)(hm:m≠0)(h2:Builtin.bitXor p w=q)(a0:az X (.int p)=some x)(a1:az X (.int q)=some y)(e0:dc [x]=some z)(e1:fE [y,z]=some a)(e2:cQ [a]=some b):
  dX [.fz X,.fz (.int w),.ow ds,.fz (.int p)]=some (.nx,[.fz X,.fz (.int w),.ow (ds++[b]),.fz (.int p)]):=by
 have hm':(m==0)=false:=by simpa using hm
 simp[-sSeq,-sIf,aG,aO,dX,h1,hm',h2,a0,a1,e0,e1,e2,hs]
include hf hL
theorem vL{j:Nat}(hj:j<n)(p:Nat)(hp:p<2^n)(ds:List D)(hl:ds.length<1000):
  dX [.fz (dI n f),.fz (.int (wt n j:Nat)),.ow ds,.fz (.int p)]=some (.nx,[.fz (dI n f),.fz (.int (wt n j:Nat)),.ow (ds++[bT (aB n f (.swing j) p)]),.fz (.int p)]):=by
 have hs:ds.length<sizeLine:=by show _<16777216;lia
 have ha:=mC hn hj hp;have b1:=MA.kO p (wt n j);have b2:=MA.iY p (wt n j);rw[ha.1]at b1;rw[ha.2]at b2;have hw:=MA.aU n j;have q:=MA.iT hj hp;have a0:az (dI n f) (.int (p:Int))=some (bT (f p)):=jb p rfl hp;have a1:az (dI n f) (.int ((flp (wt n j) p:Nat):Int))=some (bT (f (flp (wt n j) p))):=jb _ rfl q;by_cases h:ak (wt n j) p=0
 ·rw[h,Nat.mul_zero]at b1
  have e:aB n f (.swing j) p=MA.cg (MA.bM (f p) (f (p+wt n j))):=if_pos h;have ef:flp (wt n j) p=p+wt n j:=if_pos h;rw[ef]at a1 b2;rw[e];exact vJ hn _ _ _ _ _ _ _ _ _ hs b1 b2 a0 a1 (wo hn _ _ (hL _) (hL _) (by have:=hf p;lia) (by have:=hf (p+wt n j);lia)) (qm hn _)
 ·have h1:ak (wt n j) p=1:=by have:=MA.bA (wt n j) p;lia
  rw[h1,Nat.mul_one]at b1;have e:aB n f (.swing j) p=MA.cg (MA.bM (f (p-wt n j)) (MA.aD 4 (f p))):=if_neg h;have ef:flp (wt n j) p=p-wt n j:=if_neg h;rw[ef]at a1 b2;rw[e];exact vI hn _ _ _ _ _ _ _ _ _ _ _ hs b1 (by lia) b2 a0 a1 (vj hn _) (wo hn _ _ (hL _) (MA.lE _ (hL p)) (by have:=hf (p-wt n j);lia) (by show(f p).2<=_;have:=hf p;lia)) (qm hn _)
omit hf hL hn in
theorem yB(X Y:D)(w S:Int)(RL L:List D)(y:Sl)(ln:eA [X]=some (.int S))(hN:bL [.int S]=some RL)(e:loop (gN 3) dX RL [.fz X,.fz (.int w),.ow [],.un]=some (.nx,[.fz X,.fz (.int w),.ow L,y]))(tp:bY [.list L]=some Y):fm [X,.int w]=some Y:=by
 simp[-sSeq,-sIf,aG,aO,fm,runB,pf,aw,ln,hN,e,qx,tp]
theorem vK{j:Nat}(hj:j<n):fm [dI n f,.int (wt n j:Nat)]=some (dI n (aB n f (.swing j))):=by
 have sq:=kh hn;have hN:bL [.int ((2^n:Nat):Int)]=some (mO 0 (2^n)):=jh n hn;obtain⟨δ',e,y3,rfl⟩:=wO (b:=dX) (k:=3) (fun i δ=>∃y3,δ = [.fz (dI n f),.fz (.int (wt n j:Nat)),.ow ((List.range i).map fun p=>bT (aB n f (.swing j) p)),y3]) (2^n) (by
   rintro i hi δ ⟨y3,rfl⟩;have e:=vL hn f hf hL hj i hi ((List.range i).map fun p=>bT (aB n f (.swing j) p)) (by simp;lia)
   refine⟨[.fz (dI n f),.fz (.int (wt n j:Nat)),.ow ((List.range (i+1)).map fun p=>bT (aB n f (.swing j) p)),.fz (.int i)],?_,_,rfl⟩
   rw[List.range_succ,List.map_append];exact e) [.fz (dI n f),.fz (.int (wt n j:Nat)),.ow [],.un] ⟨_,rfl⟩
 have ln:=jR n f;have tp:bY [.list ((List.range (2^n)).map fun p=>bT (aB n f (.swing j) p))]=some (dI n (aB n f (.swing j))):=rfl
 exact yB _ _ _ _ _ _ _ ln hN e tp
omit hf hL
omit hn in
theorem r6{fi:Dv->Option (List D)}{caps:List (Nat×Str)}{fe:Dv->Option D}{δ:Dv}{N:Nat}{y:Nat->D}(e:fi δ = some ((List.range N).map fun k:Nat=>PyData.int (0+(k:Int))))(hl:N<=16777216)(H:∀p:Nat,p<N->fe (.fz (.int p)::capS δ caps)=some (y p)):dy fi caps r9 fe δ = some (.list ((List.range N).map y)):=by
 refine dA e (by rw[List.length_range];exact hl) fun p hp=>?_
 rw[Int.zero_add];exact H p (List.mem_range.mp hp)
omit hn in
theorem Ft(X:D)(h e S:Int)(N:Nat)(x y:Nat->D)(ln:eA [X]=some (.int S))(hN:bL [.int S]=some ((List.range N).map fun k:Nat=>PyData.int (0+(k:Int))))(hl:N<=16777216)(a:∀p:Nat,p<N->az X (.int p)=some (x p))
  (t:∀p:Nat,p<N->Builtin.bitAnd p h=h->cO [x p,.int e]=some (y p)) (u:∀p:Nat,p<N->Builtin.bitAnd p h≠h->y p=x p):aR [X,.int h,.int e]=some (.tuple ((List.range N).map y)):=by
 have c:gC [.fz X,.fz (.int h),.fz (.int e)]=some (.list ((List.range N).map y)):=r6 (by simp[ln,hN]) hl fun p hp=>by
  have a0:=a p hp;by_cases q:Builtin.bitAnd p h=h
  ·have t:=t p hp q
   simp[capS,a0,q,t]
  ·have t:=u p hp q
   rw[t];simp[capS,a0,q]
 simp[aR,runB,eT,aw,c]
omit hn in
theorem Gt(X:D)(h w S:Int)(N:Nat)(x y:Nat->D)(ln:eA [X]=some (.int S))(hN:bL [.int S]=some ((List.range N).map fun k:Nat=>PyData.int (0+(k:Int))))(hl:N<=16777216)(a:∀p:Nat,p<N->az X (.int p)=some (x p))
  (t:∀p:Nat,p<N->Builtin.bitAnd p h=h->∃q:Nat,q<N/\Builtin.bitXor p w=q/\y p=x q) (u:∀p:Nat,p<N->Builtin.bitAnd p h≠h->y p=x p):aM [X,.int h,.int w]=some (.tuple ((List.range N).map y)):=by
 have c:fO [.fz X,.fz (.int h),.fz (.int w)]=some (.list ((List.range N).map y)):=r6 (by simp[ln,hN]) hl fun p hp=>by
  have a0:=a p hp;by_cases q:Builtin.bitAnd p h=h
  ·obtain⟨q',hq,e1,e2⟩:=t p hp q
   have a1:=a q' hq;rw[e2];simp[capS,e1,q,a1]
  ·have t:=u p hp q
   rw[t];simp[capS,a0,q]
 simp[aM,runB,d8,aw,c]
theorem Av(h e:Int)(g:Nat->Nu)(H:∀p:Nat,p<2^n->(Builtin.bitAnd p h=h->cO [bT (f p),.int e]=some (bT (g p)))/\(Builtin.bitAnd p h≠h->g p=f p)):aR [dI n f,.int h,.int e]=some (dI n g):=
 Ft (dI n f) h e _ (2^n) (fun p=>bT (f p)) (fun p=>bT (g p)) (jR n f) (jh n hn) (Nat.le_trans (kh hn) (by decide)) (fun p hp=>jb p rfl hp) (fun p hp q=>(H p hp).1 q) (fun p hp q=>congrArg bT ((H p hp).2 q))
theorem AW(h w:Int)(g:Nat->Nu)(H:∀p:Nat,p<2^n->(Builtin.bitAnd p h=h->∃q:Nat,q<2^n/\Builtin.bitXor p w=q/\g p=f q)/\(Builtin.bitAnd p h≠h->g p=f p)):aM [dI n f,.int h,.int w]=some (dI n g):=
 Gt (dI n f) h w _ (2^n) (fun p=>bT (f p)) (fun p=>bT (g p)) (jR n f) (jh n hn) (Nat.le_trans (kh hn) (by decide)) (fun p hp=>jb p rfl hp) (fun p hp q=>let ⟨q',h1,h2,h3⟩:=(H p hp).1 q; ⟨q',h1,h2,congrArg bT h3⟩) (fun p hp q=>congrArg bT ((H p hp).2 q))
omit hn in
theorem xh(p W m q r:Int)(c:Bool){b:Bool}(h1:Builtin.bitAnd p W=m)(h2:Builtin.bitXor p W=q)(h3:Ey false (.int m) (.tuple [.int 0,.int W])=some (.bool b))(hb:b=c)(hr:(if c=true then p else q)=r):aP [.int p,.int W]=some (.int r):=by
 subst hb;cases b
 ·simp at hr;subst hr;simp[aP,runB,fw,aw,h1,h2,h3]
 ·simp at hr;subst hr;simp[aP,runB,fw,aw,h1,h2,h3]
theorem oX{i j:Nat}(hi:i<n)(hj:j<n)(hij:i≠j){p:Nat}(hp:p<2^n):aP [.int p,.int ((wt n i+wt n j:Nat):Int)]=some (.int (eh n (.cross i j) p:Nat)):=by
 have ha:=iA hn hi hj hij hp;have b1:=MA.kO p (wt n i+wt n j);have b2:=MA.iY p (wt n i+wt n j);rw[ha.2.1]at b1;rw[ha.2.2]at b2;have hwi:=MA.aU n i;have hwj:=MA.aU n j;have l1:=MA.bA (wt n i) p;have l2:=MA.bA (wt n j) p;have inT:∀a b:Int,Ey false (.int a) (.tuple [.int 0,.int b])=some (.bool (0==a||b==a)):=fun a b=>by
  show some (PyData.bool (PyData.eqv (.int 0) (.int a)||(PyData.eqv (.int b) (.int a)||false)))=_;rw[Bool.or_false];rfl
 have ef:eh n (.cross i j) p=if ak (wt n i) p=ak (wt n j) p then p else flp (wt n j) (flp (wt n i) p):=rfl
 rw[ef];by_cases h:ak (wt n i) p=ak (wt n j) p
 ·rw[if_pos h]
  have hb:ak (wt n i) p=0\/ak (wt n i) p=1:=by lia
  refine xh _ _ _ _ _ true b1 b2 (inT _ _) ?_ rfl;rcases hb with hb|hb
  ·rw[<-h,hb];simp
  ·rw[<-h,hb];simp
 ·rw[if_neg h]
  refine xh _ _ _ _ _ false b1 b2 (inT _ _) ?_ rfl;have hb:(ak (wt n i) p=0/\ak (wt n j) p=1)\/(ak (wt n i) p=1/\ak (wt n j) p=0):=by lia
  rcases hb with⟨hb,hc⟩|⟨hb,hc⟩
  ·rw[hb,hc,Nat.mul_zero,Nat.mul_one,Nat.zero_add,Bool.or_eq_false_iff,beq_eq_false_iff_ne,beq_eq_false_iff_ne]
   lia
  ·rw[hb,hc,Nat.mul_zero,Nat.mul_one,Nat.add_zero,Bool.or_eq_false_iff,beq_eq_false_iff_ne,beq_eq_false_iff_ne]
   lia
omit hn in
theorem Gx(X:D)(S W1 W2 W:Int)(N:Nat)(x y:Nat->D)(R w0:Sl)(ho:Builtin.bitOr W1 W2=W)(ln:eA [X]=some (.int S))(hN:bL [.int S]=some ((List.range N).map fun k:Nat=>PyData.int (0+(k:Int))))(hl:N<=16777216)(a:∀p:Nat,p<N->az X (.int p)=some (x p))
  (t:∀p:Nat,p<N->∃q:Nat,q<N/\aP [.int p,.int W]=some (.int q)/\y p=x q):oG [.fz X,R,w0,.fz (.int W1),.fz (.int W2)]=some (.list ((List.range N).map y)):=
 r6 (by simp[ln,hN]) hl fun p hp=>by
  obtain⟨q,hq,e1,e2⟩:=t p hp;have a1:=a q hq;rw[e2];simp[capS,ho,e1,a1]
section
omit hn
variable(X R Y:D)(S N w1 w2:Int)(i j:Int)(ln:eA [X]=some (.int S))(bl:kq (.int S)=some (.int (N+1)))(r1:az R (.int 1)=some (.int i))(v1:bO [.int N,.int i]=some (.int w1))
include ln bl r1 v1
theorem o0(r0:az R (.int 0)=some (.str "swing"))(h:fm [X,.int w1]=some Y):cr [X,R]=some Y:=by
 simp[-sSeq,-sIf,aG,aO,cr,runB,hE,aw,ln,bl,r0,r1,v1,h]
theorem qu(r0:az R (.int 0)=some (.str "turn"))(r2:az R (.int 2)=some (.int j))(h:aR [X,.int w1,.int j]=some Y):cr [X,R]=some Y:=by
 simp[-sSeq,-sIf,aG,aO,cr,runB,hE,aw,ln,bl,r0,r1,r2,v1,h]
theorem qw(r0:az R (.int 0)=some (.str "flip"))(h:aM [X,.int 0,.int w1]=some Y):cr [X,R]=some Y:=by
 simp[-sSeq,-sIf,aG,aO,cr,runB,hE,aw,ln,bl,r0,r1,v1,h]
variable(r2:az R (.int 2)=some (.int j))(v2:bO [.int N,.int j]=some (.int w2))
include r2 v2
theorem rW(r0:az R (.int 0)=some (.str "tie"))(h:aM [X,.int w1,.int w2]=some Y):cr [X,R]=some Y:=by
 simp[-sSeq,-sIf,aG,aO,cr,runB,hE,aw,ln,bl,r0,r1,r2,v1,v2,h]
theorem qv(W:Int)(ho:Builtin.bitOr w1 w2=W)(r0:az R (.int 0)=some (.str "sign"))(h:aR [X,.int W,.int 4]=some Y):cr [X,R]=some Y:=by
 simp[-sSeq,-sIf,aG,aO,cr,runB,hE,aw,ln,bl,r0,r1,r2,v1,v2,ho,h]
theorem o4(L:D)(r0:az R (.int 0)=some (.str "cross"))(h:oG [.fz X,.fz R,.fz (.int N),.fz (.int w1),.fz (.int w2)]=some L)(t:bY [L]=some Y):cr [X,R]=some Y:=by
 simp[-sSeq,-sIf,aG,aO,cr,runB,hE,aw,ln,bl,r0,r1,r2,v1,v2,h,t]
end
include hf hL
theorem zV(r:Row)(hr:r.ok n):cr [dI n f,rowD r]=some (dI n (aB n f r)):=by
 have ln:=jR n f;have bl:=vx hn f;have sq:=kh hn;cases r with
 |swing j=>exact o0 _ _ _ _ _ _ _ ln bl rfl (aX hn hr) rfl (vK hn f hf hL hr)
 |turn j e=>
  refine qu _ _ _ _ _ _ _ _ ln bl rfl (aX hn hr.1) rfl rfl (Av hn f _ _ _ fun p hp=>?_);have ha:=(mC hn hr.1 hp).1;have b1:=MA.kO p (wt n j);rw[ha]at b1;have hw:=MA.aU n j;have hb:ak (wt n j) p=0\/ak (wt n j) p=1:=by have:=MA.bA (wt n j) p;lia
  have e1:aB n f (.turn j e) p=MA.aD (e*ak (wt n j) p) (f p):=rfl;rw[e1,b1];rcases hb with hb|hb
  ·rw[hb,Nat.mul_zero,Nat.mul_zero]
   exact⟨fun q=>absurd q (by lia),fun _=>rfl⟩
  ·rw[hb,Nat.mul_one,Nat.mul_one]
   exact⟨fun _=>pE hn _ _,fun q=>absurd rfl q⟩
 |flip j=>
  refine qw _ _ _ _ _ _ _ ln bl rfl (aX hn hr) rfl (AW hn f _ _ _ fun p hp=>?_);have b2:=MA.iY p (wt n j);rw[(mC hn hr hp).2]at b2;have b0:=MA.kO p 0;rw[Nat.and_zero]at b0;exact⟨fun _=>⟨_,MA.iT hr hp,b2,rfl⟩,fun q=>absurd b0 q⟩
 |tie i j=>
  refine rW _ _ _ _ _ _ _ _ _ ln bl rfl (aX hn hr.1) rfl (aX hn hr.2.1) rfl (AW hn f _ _ _ fun p hp=>?_);have b2:=MA.iY p (wt n j);rw[(mC hn hr.2.1 hp).2]at b2;have b1:=MA.kO p (wt n i);rw[(mC hn hr.1 hp).1]at b1;have hw:=MA.aU n i;have hb:ak (wt n i) p=0\/ak (wt n i) p=1:=by have:=MA.bA (wt n i) p;lia
  have e1:aB n f (.tie i j) p=f (if ak (wt n i) p=0 then p else flp (wt n j) p):=rfl;rw[e1,b1];rcases hb with hb|hb
  ·rw[hb,Nat.mul_zero]
   exact⟨fun q=>absurd q (by lia),fun _=>rfl⟩
  ·rw[hb,Nat.mul_one,if_neg (by decide)]
   exact⟨fun _=>⟨_,MA.iT hr.2.1 hp,b2,rfl⟩,fun q=>absurd rfl q⟩
 |sign i j=>
  have ho:=MA.Dh (wt n i) (wt n j);rw[(iA hn hr.1 hr.2.1 hr.2.2 (p:=0) (Nat.pow_pos (by decide))).1]at ho;refine qv _ _ _ _ _ _ _ _ _ ln bl rfl (aX hn hr.1) rfl (aX hn hr.2.1) _ ho rfl (Av hn f _ _ _ fun p hp=>?_);have b1:=MA.kO p (wt n i+wt n j);rw[(iA hn hr.1 hr.2.1 hr.2.2 hp).2.1]at b1;have hw:=MA.aU n i;have hw2:=MA.aU n j;have hb:ak (wt n i) p=0\/ak (wt n i) p=1:=by have:=MA.bA (wt n i) p;lia
  have hc:ak (wt n j) p=0\/ak (wt n j) p=1:=by have:=MA.bA (wt n j) p;lia
  have e1:aB n f (.sign i j) p=MA.aD (4*ak (wt n i) p*ak (wt n j) p) (f p):=rfl;rw[e1,b1];rcases hb with hb|hb
  ·rw[hb,Nat.mul_zero,Nat.mul_zero,Nat.zero_mul]
   refine⟨fun q=>absurd q ?_,fun _=>rfl⟩
   rcases hc with hc|hc<;>rw[hc]<;>lia
  ·rcases hc with hc|hc
   ·rw[hb,hc,Nat.mul_one,Nat.mul_zero,Nat.mul_zero]
    exact⟨fun q=>absurd q (by lia),fun _=>rfl⟩
   ·rw[hb,hc,Nat.mul_one,Nat.mul_one,Nat.mul_one,Nat.mul_one]
    exact⟨fun _=>pE hn _ 4,fun q=>absurd rfl q⟩
 |cross i j=>
  have ho:=MA.Dh (wt n i) (wt n j);rw[(iA hn hr.1 hr.2.1 hr.2.2 (p:=0) (Nat.pow_pos (by decide))).1]at ho;refine o4 _ _ _ _ _ _ _ _ _ ln bl rfl (aX hn hr.1) rfl (aX hn hr.2.1) _ rfl (Gx (dI n f) _ _ _ _ (2^n) (fun p=>bT (f p)) (fun p=>bT (aB n f (.cross i j) p)) _ _ ho ln (jh n hn) (by lia) (fun p hp=>jb p rfl hp) fun p hp=>?_) rfl
  exact⟨_,MA.gj (r:=.cross i j) hr hp,oX hn hr.1 hr.2.1 hr.2.2 hp,rfl⟩
end
theorem CW(rows:Sl)(X Y r:D)(h1:cr [X,r]=some Y):dY [.fz X,rows,.fz r]=some (.nx,[.fz Y,rows,.fz r]):=by
 simp[dY,h1]
noncomputable def nO(n:Nat)(f:Nat->Nu):List Row->Nat->Nu
 |[]=>f
 |r::rs=>nO n (aB n f r) rs
theorem n6(rows:Sl){n:Nat}(hn:n<=6):∀(rs:List Row),(∀r∈rs,r.ok n)->∀(k p:Nat) (f:Nat->Nu),Bd k p f->k+rs.length<=300->p+400*rs.length<=80000->∀z,∃y,loop (gN 2) dY (rs.map rowD) [.fz (dI n f),rows,z]=some (.nx,[.fz (dI n (nO n f rs)),rows,y])
 |[],_,_,_,_,_,_,_,z=>⟨z,rfl⟩
 |r::rs,hr,k,p,f,hb,hk,hp,z=>by
  simp only[List.length_cons]at hk hp;have h1:=zV hn f (fun x=>by have:=(hb x).1;lia) (fun x=>(hb x).2.mono (Nat.pow_le_pow_right (by decide) (by lia))) r (hr r List.mem_cons_self)
  obtain⟨y,e⟩:=n6 rows hn rs (fun q hq=>hr q (List.mem_cons_of_mem _ hq)) (k+1) (p+k+1) (aB n f r) (hb.done n r) (by lia) (by lia) (.fz (rowD r))
  exact⟨y,by rw[List.map_cons,eH (by rfl) (CW rows _ _ _ h1)];exact e⟩
theorem CV(X Y R:D)(L:List D)(y:Sl)(it:eY R=some L)(e:loop (gN 2) dY L [.fz X,.fz R,.un]=some (.nx,[.fz Y,.fz R,y])):bG [X,R]=some Y:=by
 simp[bG,runB,i7,aw,it,e]
theorem An{n:Nat}(hn:n<=6)(rs:List Row)(hr:∀r∈rs,r.ok n){k p:Nat}{f:Nat->Nu}(hb:Bd k p f)(hk:k+rs.length<=300)(hp:p+400*rs.length<=80000):bG [dI n f,.tuple (rs.map rowD)]=some (dI n (nO n f rs)):=by
 obtain⟨y,e⟩:=n6 (.fz (.tuple (rs.map rowD))) hn rs hr k p f hb hk hp .un;exact CV _ _ _ _ y rfl e
open MA (Wd par ax)
noncomputable def bU(w:Wd):D:=.tuple [.int w.x,.int w.z,.int w.s]
theorem lq(A B:Sl):∀(c n:Nat) (v:Nat),MA.nS n=c->v<2->eZ cX dW (c+1) [A,B,.fz (.int n),.fz (.int v)]=some (.nx,[A,B,.fz (.int 0),.fz (.int ((v+c)%2:Nat))])
 | 0,n,v,hc,hv=>by
  have:n=0:=by
   refine Classical.byContradiction fun h=>?_
   have:=MA.jZ n n Nat.lt_two_pow_self h
   lia
  subst this;rw[qX _ (by simp[cX])];rw[show(v+0)%2=v by lia];rfl
 |c+1,n,v,hc,hv=>by
  have h0:n≠0:=fun z=>by subst z;rw[MA.fS]at hc;lia
  have hcl:=MA.jZ n n Nat.lt_two_pow_self h0;have ih:=lq A B c (n &&& (n-1)) (1-v) (by lia) (by lia);have e1:Builtin.bitAnd (n:Int) ((n:Int)-1)=((n &&& (n-1):Nat):Int):=by
   rw[show(n:Int)-1=((n-1:Nat):Int) by lia];exact MA.kO _ _
  have e2:(1:Int)-(v:Int)=((1-v:Nat):Int):=by lia
  have e3:(1-v+c)%2=(v+(c+1))%2:=by lia
  rw[e3]at ih;exact vw _ (by simp[cX,h0]) (by simp[dW,e1,e2]) ih
theorem yq(a b n P:Int){r:Sl}(e1:Builtin.bitAnd a b=n)(e:eZ cX dW wN [.fz (.int a),.fz (.int b),.fz (.int n),.fz (.int 0)]=some (.nx,[.fz (.int a),.fz (.int b),r,.fz (.int P)])):bd [.int a,.int b]=some (.int P):=by
 simp[-sSeq,-sIf,aG,aO,bd,runB,i0,aw,e1,e]
theorem lx(a b:Nat)(h:a<2^100000):bd [.int a,.int b]=some (.int (par (a &&& b):Nat)):=by
 have hc:MA.nS (a &&& b)<=100000:=MA.xq _ _ (Nat.lt_of_le_of_lt Nat.and_le_left h);have e:=iN (lq (.fz (.int a)) (.fz (.int b)) (MA.nS (a &&& b)) (a &&& b) 0 rfl (by decide)) (m:=wN) (by show _<=1000000;lia);have e1:=MA.kO a b;rw[show(0+MA.nS (a &&& b))%2=par (a &&& b) by unfold par;lia]at e;have e':eZ cX dW wN [.fz (.int a),.fz (.int b),.fz (.int ((a &&& b:Nat):Int)),.fz (.int 0)]=_:=e;exact yq _ _ _ _ e1 e'
theorem yv(a b c x y z v p q r:Int)(hv:bd [.int b,.int x]=some (.int v))(h1:Builtin.bitXor a x=p)(h2:Builtin.bitXor b y=q)(h3:(c+z+2*v)%4=r)(hm:IntMulOk 2 v):bb [.tuple [.int a,.int b,.int c],.tuple [.int x,.int y,.int z]]=some (.tuple [.int p,.int q,.int r]):=by
 simp[-sSeq,-sIf,aG,aO,bb,runB,gn,aw,hv,h1,h2,h3,hm]
theorem ua(u v:Wd){n:Nat}(hn:n<=6)(hu:u.ok n)(hv:v.ok n):bb [bU u,bU v]=some (bU (ax u v)):=by
 have h:u.z<2^100000:=Nat.lt_of_lt_of_le hu.2.1 (Nat.pow_le_pow_right (by decide) (by lia));refine yv _ _ _ _ _ _ _ _ _ _ (lx u.z v.x h) (MA.iY _ _) (MA.iY _ _) ?_ (.of_left (by decide));show _=(((u.s+v.s+2*par (u.z &&& v.x))%4:Nat):Int)
 lia
theorem ET(a:Nat):Builtin.bitAnd (a:Int) 1=((a%2:Nat):Int):=by
 have:=MA.kO a 1;rw[show((1:Nat):Int)=1 from rfl]at this;rw[this,Nat.and_one_is_mod]
theorem tS(ns:List Int)(k:Int)(hk:0<=k):∃c,aT [.list (ns.map .int),.int k]=some (.int c):=by
 by_cases h:k<ns.length
 ·have hk':k.toNat<ns.length:=by lia
  refine⟨ns[k.toNat],?_⟩;have e:gF (ns.map PyData.int) k=some (.int ns[k.toNat]):=d9 (j:=k.toNat) (by lia) (by simp[hk']);simp[aT,runB,dE,aw,h,e]
 ·exact⟨0,by simp[aT,runB,dE,aw,h]⟩
theorem DG(w:Nat)(h:w<=100):gJ (.int 1) (.int (w:Int))=some (.int ((2^w:Nat):Int)):=by
 have hb:Builtin.Int.intBits 1=1:=by decide +kernel
 have e:=jc (i:=1) (j:=(w:Int)) (by lia) (by lia);rw[e];simp
theorem AY(c:Int)(m:Nat)(hm:0<m):∃x:Nat,x<m/\c%(m:Int)=x/\bV (.int c) (.int (m:Int))=some (.int (x:Int)):=by
 have h1:=Int.emod_nonneg c (show(m:Int)≠0 by lia);have h2:=Int.emod_lt_of_pos c (show(0:Int)<m by lia);have h3:=gS (i:=c) (show(0:Int)<m by lia);refine⟨(c%(m:Int)).toNat,by lia,by lia,?_⟩;rw[h3,Int.toNat_of_nonneg h1]
open MA (Wd par ax)
theorem e6(a b:Nat)(u:Nu):MA.aD a (MA.aD b u)=MA.aD (a+b) u:=by
 unfold MA.aD;simp only[MA.e7];rw[<-MA.dN]
theorem cy{a b:Nat}(h:a%8=b%8)(u:Nu):MA.aD a u=MA.aD b u:=by
 unfold MA.aD;rw[h]
theorem kr(a b:Nat){c:Nat}(h:a &&& b=c):Builtin.bitAnd (a:Int) (b:Int)=(c:Int):=by rw[MA.kO,h]
theorem FR(U:D)(W x z s y c a v e x' z' s':Int)(u0:az U (.int 0)=some (.int x))(u1:az U (.int 1)=some (.int z))(u2:az U (.int 2)=some (.int s))(h1:Builtin.bitXor x z=y)(h2:Builtin.bitAnd y W=c)(h3:Builtin.bitAnd x z=a)(h4:bd [.int a,.int W]=some (.int v))(m:IntMulOk 2 v)(h5:Builtin.bitXor x c=x')(h6:Builtin.bitXor z c=z')(h7:(s+2*v)%4=s'):bw [U,.int W]=some (.tuple [.int x',.int z',.int s']):=by
 simp[-sSeq,-sIf,aG,aO,bw,runB,d7,aw,u0,u1,u2,h1,h2,h3,h4,m,h5,h6,h7]
theorem Dq(U:D)(W x e:Int)(u0:az U (.int 0)=some (.int x))(h1:Builtin.bitAnd x W=0):aS [U,.int W,.int e]=some U:=by
 simp[-sSeq,-sIf,aG,aO,aS,runB,cI,aw,u0,h1]
theorem Dp(U:D)(W x z s e a z' zz s':Int)(u0:az U (.int 0)=some (.int x))(u1:az U (.int 1)=some (.int z))(u2:az U (.int 2)=some (.int s))(h1:Builtin.bitAnd x W=a)(ha:¬a=0)(he:¬e%2=1)(h2:Builtin.bitXor z W=zz)(hz:(if e%4=2 then zz else z)=z')(h3:(s+e/2)%4=s'):aS [U,.int W,.int e]=some (.tuple [.int x,.int z',.int s']):=by
 by_cases q:e%4=2
 ·rw[if_pos q]at hz;subst hz
  simp[-sSeq,-sIf,aG,aO,aS,runB,cI,aw,u0,u1,u2,h1,ha,he,h2,q,h3]
 ·rw[if_neg q]at hz;subst hz
  simp[-sSeq,-sIf,aG,aO,aS,runB,cI,aw,u0,u1,u2,h1,ha,he,h2,q,h3]
theorem Fx(U:D)(W V x z s a b xx zz x' z':Int)(u0:az U (.int 0)=some (.int x))(u1:az U (.int 1)=some (.int z))(u2:az U (.int 2)=some (.int s))(h1:Builtin.bitAnd x W=a)(h2:Builtin.bitAnd z V=b)(h3:Builtin.bitXor x V=xx)(h4:Builtin.bitXor z W=zz)(hx:(if a=0 then x else xx)=x')(hz:(if b=0 then z else zz)=z'):aZ [U,.int W,.int V]=some (.tuple [.int x',.int z',.int s]):=by
 by_cases p:a=0<;>by_cases q:b=0
 ·rw[if_pos p]at hx;rw[if_pos q]at hz;subst hx hz
  simp[-sSeq,-sIf,aG,aO,aZ,runB,cq,aw,u0,u1,u2,h1,h2,h3,h4,p,q]
 ·rw[if_pos p]at hx;rw[if_neg q]at hz;subst hx hz
  simp[-sSeq,-sIf,aG,aO,aZ,runB,cq,aw,u0,u1,u2,h1,h2,h3,h4,p,q]
 ·rw[if_neg p]at hx;rw[if_pos q]at hz;subst hx hz
  simp[-sSeq,-sIf,aG,aO,aZ,runB,cq,aw,u0,u1,u2,h1,h2,h3,h4,p,q]
 ·rw[if_neg p]at hx;rw[if_neg q]at hz;subst hx hz
  simp[-sSeq,-sIf,aG,aO,aZ,runB,cq,aw,u0,u1,u2,h1,h2,h3,h4,p,q]
theorem FX(U:D)(W V x z s a b c B zz z' s2 s':Int)(u0:az U (.int 0)=some (.int x))(u1:az U (.int 1)=some (.int z))(u2:az U (.int 2)=some (.int s))(h1:Builtin.bitAnd x W=a)(h2:Builtin.bitAnd x V=b)(hB:Builtin.bitOr W V=B)(h3:Builtin.bitAnd x B=c)(h4:Builtin.bitXor z V=zz)(hz:(if a=0 then(if b=0 then z else Builtin.bitXor z W)else(if b=0 then zz else Builtin.bitXor zz W))=z')(hs:(if c=B then s+2 else s)=s2)(h5:s2%4=s'):bF [U,.int W,.int V]=some (.tuple [.int x,.int z',.int s']):=by
 have k:∀a:Int,¬a=0->(!(a==0))=true:=fun a h=>by simpa using h
 by_cases p:a=0<;>by_cases q:b=0<;>by_cases r:c=B
 all_goals
  simp only[p,q,r,if_true,if_false]at hz hs;subst hz hs h5;simp[-sSeq,-sIf,aG,aO,bF,runB,eU,aw,u0,u1,u2,h1,h2,hB,h3,h4,p,q,r]
section
variable(N:Int)(U R:D)(i j W V:Int)(r1:az R (.int 1)=some (.int i))(v1:bO [.int N,.int i]=some (.int W))
include r1 v1
theorem xC(Y:D)(r0:az R (.int 0)=some (.str "swing"))(h:bw [U,.int W]=some Y):aQ [.int N,U,R]=some Y:=by
 simp[-sSeq,-sIf,aG,aO,aQ,runB,de,aw,r0,r1,v1,h]
theorem tU(Y:D)(e:Int)(r0:az R (.int 0)=some (.str "turn"))(r2:az R (.int 2)=some (.int e))(h:aS [U,.int W,.int e]=some Y):aQ [.int N,U,R]=some Y:=by
 simp[-sSeq,-sIf,aG,aO,aQ,runB,de,aw,r0,r1,r2,v1,h]
theorem Ac(x z s v s':Int)(r0:az R (.int 0)=some (.str "flip"))(u0:az U (.int 0)=some (.int x))(u1:az U (.int 1)=some (.int z))(u2:az U (.int 2)=some (.int s))(h:bd [.int z,.int W]=some (.int v))(m:IntMulOk 2 v)(hs:(s+2*v)%4=s'):aQ [.int N,U,R]=some (.tuple [.int x,.int z,.int s']):=by
 simp[-sSeq,-sIf,aG,aO,aQ,runB,de,aw,r0,r1,v1,u0,u1,u2,h,m,hs]
variable(r2:az R (.int 2)=some (.int j))(v2:bO [.int N,.int j]=some (.int V))
include r2 v2
theorem CM(Y:D)(r0:az R (.int 0)=some (.str "tie"))(h:aZ [U,.int W,.int V]=some Y):aQ [.int N,U,R]=some Y:=by
 simp[-sSeq,-sIf,aG,aO,aQ,runB,de,aw,r0,r1,r2,v1,v2,h]
theorem Ab(Y:D)(r0:az R (.int 0)=some (.str "sign"))(h:bF [U,.int W,.int V]=some Y):aQ [.int N,U,R]=some Y:=by
 simp[-sSeq,-sIf,aG,aO,aQ,runB,de,aw,r0,r1,r2,v1,v2,h]
theorem xD(x z s B x' z':Int)(r0:az R (.int 0)=some (.str "cross"))(u0:az U (.int 0)=some (.int x))(u1:az U (.int 1)=some (.int z))(u2:az U (.int 2)=some (.int s))(hB:Builtin.bitOr W V=B)(h1:aP [.int x,.int B]=some (.int x'))(h2:aP [.int z,.int B]=some (.int z')):aQ [.int N,U,R]=some (.tuple [.int x',.int z',.int s]):=by
 simp[-sSeq,-sIf,aG,aO,aQ,runB,de,aw,r0,r1,r2,v1,v2,u0,u1,u2,hB,h1,h2]
end
theorem mo{n:Nat}(hn:n<=6){r:Row}(hr:r.ok n){u:Wd}(hu:u.ok n)(lu:MA.vm n r u):aQ [.int n,bU u,rowD r]=some (bU (MA.carry n r u)):=by
 have big:∀a:Nat,a<2^n->a<2^100000:=fun a h=>Nat.lt_of_lt_of_le h (Nat.pow_le_pow_right (by decide) (by lia))
 cases r with
 |swing j=>
  have hx:u.x ^^^ u.z<2^n:=Nat.xor_lt_two_pow hu.1 hu.2.1;have ha:u.x &&& u.z<2^n:=Nat.lt_of_le_of_lt Nat.and_le_left hu.1;have ec:(u.x ^^^ u.z) &&& wt n j=wt n j*((ak (wt n j) u.x+ak (wt n j) u.z)%2):=by rw[MA.kt hn hr hx,MA.aC]
  have ev:=lx (u.x &&& u.z) (wt n j) (big _ ha);have e2:par ((u.x &&& u.z) &&& wt n j)=ak (wt n j) u.x*ak (wt n j) u.z:=by
   have:=MA.gK hn hr hu.1 (ak (wt n j) u.z) (MA.bA _ _);rw[Nat.and_assoc,MA.kt hn hr hu.2.1,this,Nat.mul_comm]
  rw[e2]at ev;exact xC n (bU u) _ j _ rfl (aX hn hr) _ rfl (FR (bU u) _ _ _ _ _ _ _ _ 0 _ _ _ rfl rfl rfl (MA.iY _ _) (kr _ _ ec) (MA.kO _ _) ev (.of_left (by decide +kernel)) (MA.iY _ _) (MA.iY _ _) (by show _=(((u.s+2*(ak (wt n j) u.x*ak (wt n j) u.z))%4:Nat):Int);lia))
 |turn j e=>
  have ha:=MA.kt hn hr.1 hu.1;have lu:e%2=0\/ak (wt n j) u.x=0:=lu;have hw:=MA.aU n j;rcases MA.b01 (wt n j) u.x with h|h
  ·have e0:MA.carry n (.turn j e) u=u:=by
    apply MA.cx
    ·rfl
    ·show u.z ^^^ wt n j*(ak (wt n j) u.x*_)=u.z
     rw[h,Nat.zero_mul,Nat.mul_zero,Nat.xor_zero]
    ·show(u.s+(e/2)*ak (wt n j) u.x)%4=u.s
     rw[h];have:=hu.2.2;lia
   rw[e0];refine tU n (bU u) _ j _ rfl (aX hn hr.1) _ e rfl rfl (Dq (bU u) _ _ _ rfl (kr _ _ (c:=0) ?_));rw[ha,h,Nat.mul_zero]
  ·refine tU n (bU u) _ j _ rfl (aX hn hr.1) _ e rfl rfl (Dp (bU u) (wt n j:Nat) u.x u.z u.s e ((wt n j:Nat):Int) _ ((u.z ^^^ wt n j:Nat):Int) _ rfl rfl rfl (kr _ _ (c:=wt n j) ?_) (by lia) (by lia) (MA.iY _ _) ?_ ?_)
   ·rw[ha,h,Nat.mul_one]
   ·show _=((u.z ^^^ wt n j*(ak (wt n j) u.x*(if e%4=2 then 1 else 0)):Nat):Int)
    rw[h,Nat.one_mul];by_cases q:e%4=2
    ·rw[if_pos (by lia),if_pos q,Nat.mul_one]
    ·rw[if_neg (by lia),if_neg q,Nat.mul_zero,Nat.xor_zero]
   ·show _=(((u.s+(e/2)*ak (wt n j) u.x)%4:Nat):Int)
    rw[h,Nat.mul_one];lia
 |flip j=>
  have ev:=lx u.z (wt n j) (big _ hu.2.1);have e2:par (u.z &&& wt n j)=ak (wt n j) u.z:=by
   have:=MA.gK hn hr hu.2.1 1 (by decide);rw[Nat.mul_one,Nat.one_mul]at this;exact this
  rw[e2]at ev;exact Ac n (bU u) _ j _ rfl (aX hn hr) _ _ u.s _ _ rfl rfl rfl rfl ev (.of_left (by decide +kernel)) (by show _=(((u.s+2*ak (wt n j) u.z)%4:Nat):Int);lia)
 |tie i j=>
  obtain⟨hi,hj,hij⟩:=hr;have a1:=MA.kt hn hi hu.1;have a2:=MA.kt hn hj hu.2.1;have w1:=MA.aU n i;have w2:=MA.aU n j;refine CM n (bU u) _ i j _ _ rfl (aX hn hi) rfl (aX hn hj) _ rfl (Fx (bU u) _ _ u.x u.z u.s _ _ _ _ _ _ rfl rfl rfl (kr _ _ a1) (kr _ _ a2) (MA.iY _ _) (MA.iY _ _) ?_ ?_)
  ·show _=((u.x ^^^ wt n j*ak (wt n i) u.x:Nat):Int)
   rcases MA.b01 (wt n i) u.x with h|h<;>rw[h]
   ·rw[Nat.mul_zero,if_pos (show((0:Nat):Int)=0 from rfl),Nat.mul_zero,Nat.xor_zero]
   ·simp only[Nat.mul_one]
    rw[if_neg (by lia)]
  ·show _=((u.z ^^^ wt n i*ak (wt n j) u.z:Nat):Int)
   rcases MA.b01 (wt n j) u.z with h|h<;>rw[h]
   ·rw[Nat.mul_zero,if_pos (show((0:Nat):Int)=0 from rfl),Nat.mul_zero,Nat.xor_zero]
   ·simp only[Nat.mul_one]
    rw[if_neg (by lia)]
 |sign i j=>
  obtain⟨hi,hj,hij⟩:=hr;have a1:=MA.kt hn hi hu.1;have a2:=MA.kt hn hj hu.1;have w1:=MA.aU n i;have w2:=MA.aU n j;have hB:=MA.Dh (wt n i) (wt n j);have t2:=iA hn hi hj hij hu.1;rw[t2.1]at hB;refine Ab n (bU u) _ i j _ _ rfl (aX hn hi) rfl (aX hn hj) _ rfl (FX (bU u) _ _ u.x u.z u.s _ _ _ _ _ _ _ _ rfl rfl rfl (kr _ _ a1) (kr _ _ a2) hB (kr _ _ t2.2.1) (MA.iY _ _) ?_ rfl ?_)
  ·show _=((u.z ^^^ wt n j*ak (wt n i) u.x ^^^ wt n i*ak (wt n j) u.x:Nat):Int)
   rw[MA.iY,MA.iY];rcases MA.b01 (wt n i) u.x with h|h<;>rcases MA.b01 (wt n j) u.x with h2|h2<;>rw[h,h2]
   ·simp
   ·rw[Nat.mul_zero,Nat.mul_one,if_pos (show((0:Nat):Int)=0 from rfl),if_neg (by lia),Nat.mul_zero,Nat.mul_one,Nat.xor_zero]
   ·rw[Nat.mul_zero,Nat.mul_one,if_neg (by lia),if_pos (show((0:Nat):Int)=0 from rfl),Nat.mul_zero,Nat.mul_one,Nat.xor_zero]
   ·simp only[Nat.mul_one]
    rw[if_neg (by lia),if_neg (by lia)]
  ·show _=(((u.s+2*(ak (wt n i) u.x*ak (wt n j) u.x))%4:Nat):Int)
   rcases MA.b01 (wt n i) u.x with h|h<;>rcases MA.b01 (wt n j) u.x with h2|h2<;>rw[h,h2]
   ·rw[if_neg (by lia)];lia
   ·rw[if_neg (by lia)];lia
   ·rw[if_neg (by lia)];lia
   ·rw[if_pos (by lia)];lia
 |cross i j=>
  obtain⟨hi,hj,hij⟩:=hr;have hB:=MA.Dh (wt n i) (wt n j);rw[(iA hn hi hj hij hu.1).1]at hB;have e1:=oX hn hi hj hij hu.1;have e2:=oX hn hi hj hij hu.2.1;rw[MA.lh hn hi hj hu.1]at e1;rw[MA.lh hn hi hj hu.2.1]at e2;exact xD n (bU u) _ i j _ _ rfl (aX hn hi) rfl (aX hn hj) _ _ _ _ _ _ rfl rfl rfl rfl hB e1 e2
theorem iU{n:Nat}{f g:Nat->Nu}(h:∀p,p<2^n->f p=g p){r:Row}(hr:r.ok n){p:Nat}(hp:p<2^n):aB n f r p=aB n g r p:=by
 cases r with
 |swing j=>
  show(if ak (wt n j) p=0 then _ else _)=(if ak (wt n j) p=0 then _ else _);by_cases c:ak (wt n j) p=0
  ·rw[if_pos c,if_pos c,h p hp,h _ (MA.tX hr hp c)]
  ·rw[if_neg c,if_neg c,h p hp,h (p-wt n j) (by lia)]
 |turn j e=>show MA.aD _ (f p)=MA.aD _ (g p);rw[h p hp]
 |sign i j=>show MA.aD _ (f p)=MA.aD _ (g p);rw[h p hp]
 |flip j=>exact h _ (MA.gj (r:=.flip j) hr hp)
 |tie i j=>exact h _ (MA.gj (r:=.tie i j) hr hp)
 |cross i j=>exact h _ (MA.gj (r:=.cross i j) hr hp)
theorem jG{n:Nat}{f g:Nat->Nu}(h:∀p,p<2^n->f p=g p){u:Wd}(hu:u.ok n):∀p,p<2^n->MA.eX f u p=MA.eX g u p:=fun p hp=>by
 unfold MA.eX;rw[h _ (Nat.xor_lt_two_pow hp hu.1)]
theorem zc(p q:Nat):(if(q:Int)=(p:Int)then some (PyData.tuple [.int 1,.int 0,.int 0,.int 0,.int 0])else some (PyData.tuple [.int 0,.int 0,.int 0,.int 0,.int 0]))=some (bT (MA.du p q)):=by
 unfold MA.du;by_cases h:q=p
 ·rw[if_pos h,if_pos (by lia)];rfl
 ·rw[if_neg h,if_neg (by lia)];rfl
theorem ES(w M:Int)(N:Nat)(p:Nat)(hl:N<=16777216)(hs:gJ (.int 1) (.int w)=some (.int M))(hN:bL [.int M]=some ((List.range N).map fun k:Nat=>PyData.int (0+(k:Int)))):bC [.int w,.int p]=some (.tuple ((List.range N).map fun q=>bT (MA.du p q))):=by
 have c:jj [.fz (.int w),.fz (.int p)]=some (.list ((List.range N).map fun q=>bT (MA.du p q))):=zY (by simp[hs,hN]) hl fun q hq=>by
  have:=zc p q;simp[-Int.natCast_inj,capS,this]
 simp[bC,runB,hG,aw,c]
theorem xI{n:Nat}(hn:n<=6)(p:Nat):bC [.int n,.int p]=some (dI n (MA.du p)):=
 ES _ _ (2^n) p (Nat.le_trans (Nat.pow_le_pow_right (by decide) hn:2^n<=2^6) (by decide)) (DG n (by lia)) (jh n hn)
theorem wB(p:Nat):Bd 0 0 (MA.du p):=fun x=>by
 unfold MA.du;split
 ·exact⟨Nat.le_refl _,by decide,by decide,by decide,by decide⟩
 ·exact⟨Nat.le_refl _,by decide,by decide,by decide,by decide⟩
noncomputable def agB(u v:Wd):Bool:=decide (par (u.z &&& v.x)=par (u.x &&& v.z))
noncomputable def kA(u:Wd):Bool:=decide ((u.s+par (u.x &&& u.z))%2=0)
def ju:Row->Prop
 |.turn _ e=>e%2=0
 |_=>True
theorem bD{n:Nat}{r:Row}(h:ju r)(u:Wd):MA.vm n r u:=by
 cases r<;>first|exact trivial|exact .inl h
theorem pj{n:Nat}{u v:Wd}(hu:u.ok n)(hv:v.ok n):agB u v=true↔ax u v=ax v u:=by
 have p1:=MA.d5 (u.z &&& v.x);have p2:=MA.d5 (v.z &&& u.x);have e:par (u.x &&& v.z)=par (v.z &&& u.x):=by rw[Nat.and_comm]
 unfold agB;rw[decide_eq_true_iff,e];constructor
 ·intro h
  refine MA.cx (Nat.xor_comm _ _) (Nat.xor_comm _ _) ?_;show(u.s+v.s+2*par (u.z &&& v.x))%4=(v.s+u.s+2*par (v.z &&& u.x))%4;rw[h,Nat.add_comm u.s v.s]
 ·intro h
  have h:(u.s+v.s+2*par (u.z &&& v.x))%4=(v.s+u.s+2*par (v.z &&& u.x))%4:=congrArg Wd.s h
  lia
theorem str_iff{u:Wd}:kA u=true↔ax u u=⟨0,0,0⟩:=by
 have p1:=MA.d5 (u.z &&& u.x);have e:par (u.x &&& u.z)=par (u.z &&& u.x):=by rw[Nat.and_comm]
 unfold kA;rw[decide_eq_true_iff,e];constructor
 ·intro h
  refine MA.cx (Nat.xor_self _) (Nat.xor_self _) ?_;show(u.s+u.s+2*par (u.z &&& u.x))%4=0
  lia
 ·intro h
  have h:(u.s+u.s+2*par (u.z &&& u.x))%4=0:=congrArg Wd.s h
  lia
theorem u4(n:Nat)(r:Row):MA.carry n r ⟨0,0,0⟩=⟨0,0,0⟩:=by
 cases r<;>simp[MA.carry,MA.g8]
section
variable{n:Nat}(hn:n<=6){r:Row}(hr:r.ok n)(he:ju r)
include hn hr he
theorem u6{u v:Wd}(hu:u.ok n)(hv:v.ok n)(h:MA.carry n r u=MA.carry n r v):u=v:=by
 rw[<-MA.iW hr hu (bD he u),<-MA.iW hr hv (bD he v),h]
theorem jC{u v:Wd}(hu:u.ok n)(hv:v.ok n):agB (MA.carry n r u) (MA.carry n r v)=agB u v:=by
 rw[Bool.eq_iff_iff,pj (MA.fT hr hu) (MA.fT hr hv),pj hu hv,<-MA.j0 hn hr hu hv (bD he u) (bD he v),<-MA.j0 hn hr hv hu (bD he v) (bD he u)];exact⟨fun h=>u6 hn hr he (MA.be hu hv) (MA.be hv hu) h,fun h=>by rw[h]⟩
theorem uh{u:Wd}(hu:u.ok n)(h:kA u=true):kA (MA.carry n r u)=true:=by
 rw[str_iff,<-MA.j0 hn hr hu hu (bD he u) (bD he u),str_iff.mp h,u4]
end
noncomputable def wn(p:Wd×Wd):D:=.tuple [bU p.1,bU p.2]
noncomputable def fZ(T:List (Wd×Wd)):D:=.tuple (T.map wn)
structure Good (n:Nat) (T:List (Wd×Wd)):Prop where
 len:T.length=n
 ok:∀p∈T,p.1.ok n/\p.2.ok n/\kA p.2=true
 ag:∀(i j:Nat) (p q:Wd×Wd),T[i]? = some p->T[j]? = some q->agB p.2 q.2=true/\agB p.1 q.2=!decide (i=j)
noncomputable def cT(n:Nat)(r:Row)(p:Wd×Wd):Wd×Wd:=(MA.carry n r p.1,MA.carry n r p.2)
theorem Good.carry{n:Nat}(hn:n<=6){r:Row}(hr:r.ok n)(he:ju r){T:List (Wd×Wd)}(g:Good n T):Good n (T.map (cT n r)):=by
 refine⟨by rw[List.length_map,g.len],fun p hp=>?_,fun i j p q hp hq=>?_⟩
 ·obtain⟨q,hq,rfl⟩:=List.mem_map.mp hp
  obtain⟨a,b,c⟩:=g.ok q hq;exact⟨MA.fT hr a,MA.fT hr b,uh hn hr he b c⟩
 ·rw[List.getElem?_map]at hp hq
  obtain⟨p',hp',rfl⟩:=Option.map_eq_some_iff.mp hp;obtain⟨q',hq',rfl⟩:=Option.map_eq_some_iff.mp hq;obtain⟨a1,a2,_⟩:=g.ok p' (List.mem_of_getElem? hp');obtain⟨b1,b2,_⟩:=g.ok q' (List.mem_of_getElem? hq');obtain⟨c1,c2⟩:=g.ag i j p' q' hp' hq';exact⟨(jC hn hr he a2 b2).trans c1,(jC hn hr he a1 b2).trans c2⟩
theorem HQ(p:Wd×Wd):az (wn p) (.int 0)=some (bU p.1):=rfl
theorem HN(p:Wd×Wd):az (wn p) (.int 1)=some (bU p.2):=rfl
theorem nb(b:Bool):neD (.bool b) (.bool b)=some (.bool false):=by cases b<;>rfl
noncomputable def gD:Row->Bool
 |.turn _ e=>e%2==1
 |_=>false
theorem oY{r:Row}(h:gD r=false):ju r:=by
 cases r<;>first|exact trivial|(rename_i j e;have h:(e%2==1)=false:=h;have:¬e%2=1:=(by simpa using h);show e%2=0;lia)
theorem em2(e:Nat):((e:Int)%2==1)=(e%2==1):=by
 rcases Nat.mod_two_eq_zero_or_one e with h|h
 ·have:(e:Int)%2=0:=by lia
  rw[h,this];rfl
 ·have:(e:Int)%2=1:=by lia
  rw[h,this];rfl
theorem FZ(r:Row):iH [.fz (.tuple [rowD r])]=some (.list [.bool (gD r)]):=by
 refine dA (h:=rowD) (k:=fun r=>PyData.bool (gD r)) (xs:=[r]) (by simp) (by simp) fun q _=>?_
 cases q<;>simp[capS,rowD,gD,em2]
theorem GJ(b:Bool):CU [.list [.bool b]]=some (.bool b):=by cases b<;>rfl
theorem DI{r:Row}(h:gD r=false):ca [.tuple [rowD r]]=some .none:=by
 have p:=FZ r;rw[h]at p;have a:=GJ false;simp[-sSeq,-sIf,aG,aO,ca,runB,gq,aw,p,a]
theorem Fy(F R G:D)(n:Int)(L:List D)(ro:ca [.tuple [R]]=some .none)(ln:eA [F]=some (.int n))(p:fD [.fz F,.fz R,.fz (.int n)]=some (.list L))(tp:bY [.list L]=some G):bP [F,R]=some G:=by
 simp[-sSeq,-sIf,aG,aO,bP,runB,gp,aw,ro,ln,p,tp]
theorem Dr{n:Nat}(hn:n<=6){r:Row}(hr:r.ok n)(ho:gD r=false){T:List (Wd×Wd)}(g:Good n T):bP [fZ T,rowD r]=some (fZ (T.map (cT n r))):=by
 have he:=oY ho;have p:fD [.fz (fZ T),.fz (rowD r),.fz (.int n)]=some (.list (T.map fun p=>wn (cT n r p))):=dA (h:=wn) (k:=fun p=>wn (cT n r p)) (xs:=T) (by simp[fZ]) (by rw[g.len];lia) fun p hp=>by
  obtain⟨a,b,_⟩:=g.ok p hp;have c1:=mo hn hr a (bD he _);have c2:=mo hn hr b (bD he _);simp[capS,HQ,HN,c1,c2,wn,cT]
 refine Fy _ _ _ n _ (DI ho) (by show some (PyData.int _)=_;rw[List.length_map,g.len]) p ?_;unfold fZ;rw[List.map_map];rfl
noncomputable def mL(n p:Nat):List (Wd×Wd):=(List.range n).map fun i=>(⟨wt n i,0,0⟩,⟨0,wt n i,2*ak (wt n i) p⟩)
theorem BR{n i j:Nat}(hn:n<=6)(hi:i<n)(hj:j<n):par (wt n i &&& wt n j)=if i=j then 1 else 0:=by
 have h:=MA.bZ (e:=1) hn hi (MA.pp hj) (by decide);rw[Nat.mul_one,Nat.one_mul]at h;rw[h];by_cases e:i=j
 ·subst e
  rw[if_pos rfl];have:=MA.g9 (n:=n) (i:=i) 1 (by decide)
  rwa [Nat.mul_one]at this
 ·rw[if_neg e]
  have:=MA.fF hi hj e 1 (by decide)
  rwa [Nat.mul_one]at this
theorem kS{n p i:Nat}{x:Wd×Wd}(h:(mL n p)[i]? = some x):i<n/\x=(⟨wt n i,0,0⟩,⟨0,wt n i,2*ak (wt n i) p⟩):=by
 unfold mL at h;rw[List.getElem?_map]at h;obtain⟨k,hk,rfl⟩:=Option.map_eq_some_iff.mp h;have hi:i<n:=by
  have:=(List.getElem?_eq_some_iff.mp hk).1;simpa using this
 rw[List.getElem?_range hi]at hk;cases hk;exact⟨hi,rfl⟩
theorem ug{n:Nat}(hn:n<=6)(p:Nat):Good n (mL n p):=by
 refine⟨by simp[mL],fun x hx=>?_,fun i j x y hx hy=>?_⟩
 ·obtain⟨i,hi⟩:=List.mem_iff_getElem?.mp hx
  obtain⟨h,rfl⟩:=kS hi;have b:=MA.bA (wt n i) p;have w:=MA.pp h;refine⟨⟨w,Nat.pow_pos (by decide),(by show 0<4;decide)⟩,⟨Nat.pow_pos (by decide),w,by show 2*_<4;lia⟩,?_⟩;unfold kA;rw[decide_eq_true_iff];show(2*ak (wt n i) p+par (0 &&& wt n i))%2=0;rw[Nat.zero_and,MA.cD]
  lia
 ·obtain⟨h1,rfl⟩:=kS hx
  obtain⟨h2,rfl⟩:=kS hy;constructor
  ·unfold agB
   rw[decide_eq_true_iff];show par (wt n i &&& 0)=par (0 &&& wt n j);rw[Nat.zero_and,Nat.and_zero]
  ·unfold agB
   show decide (par (0 &&& 0)=par (wt n i &&& wt n j))=_;rw[Nat.zero_and,MA.cD,BR hn h1 h2];by_cases e:i=j<;>simp[e]
theorem yL(n:Nat):mO 0 n=(List.range n).map fun(k:Nat)=>PyData.int (k:Int):=by
 unfold mO;refine List.map_congr_left fun k _=>?_
 rw[Int.zero_add]
theorem CO(n p i:Nat)(hi:i<n):iP (.int (p:Int)) (.int ((n:Int)-1-(i:Int)))=some (.int ((p/wt n i:Nat):Int)):=by
 rw[pI (by lia),show((n:Int)-1-(i:Int)).toNat=n-1-i by lia];congr 2
theorem CP(n p:Int)(xs:List Nat)(f:Nat->Nat)(hN:bL [.int n]=some (xs.map fun(k:Nat)=>PyData.int (k:Int)))(hl:xs.length<=1000)(H:∀i∈xs,∃q:Int,iP (.int p) (.int (n-1-(i:Int)))=some (.int q)/\Builtin.bitAnd q 1=(f i:Int)):iR [.fz (.int n),.fz (.int p)]=some (.list (xs.map fun i=>.int (f i:Nat))):=
 dA (h:=fun(k:Nat)=>PyData.int (k:Int)) (k:=fun i=>PyData.int (f i:Nat)) (xs:=xs) (by simp[hN]) (by lia) fun i hi=>by
  obtain⟨q,s,a⟩:=H i hi;simp[capS,s,a]
theorem CN(n p:Int)(L:List D)(e:iR [.fz (.int n),.fz (.int p)]=some (.list L)):db [.int n,.int p]=some (.tuple L):=by
 simp[db,runB,j8,aw,e]
theorem yM(n:Nat)(hn:n<=6):bL [.int (n:Int)]=some ((List.range n).map fun(k:Nat)=>PyData.int (k:Int)):=by
 rw[<-yL];exact jM (j:=(n:Int)) (by lia) (by lia)
theorem Ag(n p:Nat)(hn:n<=6):db [.int n,.int p]=some (.tuple ((List.range n).map fun i=>.int (ak (wt n i) p:Nat))):=
 CN _ _ _ (CP n p (List.range n) (fun i=>ak (wt n i) p) (yM n hn) (by rw[List.length_range];lia) fun i hi=>⟨_,CO n p i (List.mem_range.mp hi),ET _⟩)
theorem yy(n p:Int)(B:D)(F L:List D)(b:db [.int n,.int p]=some B)(p1:∀z3,gQ [.fz (.int n),.fz (.int p),.fz B,z3]=some (.list F))(p2:gO [.fz (.int n),.fz (.int p),.fz B,.fz (.list F)]=some (.list L)):b9 [.int n,.int p]=some (.tuple L):=by
 simp[-sSeq,-sIf,aG,aO,b9,runB,i5,aw,b,p1,p2]
theorem Ho{n i:Nat}(hi:i<n)(f:Nat->D):gF ((List.range n).map f) (i:Int)=some (f i):=d9 (j:=i) rfl (by simp[hi])
theorem Bo(n p:Int)(B:D)(z3:Sl)(xs:List Nat)(f:Nat->Nat)(hN:bL [.int n]=some (xs.map fun(k:Nat)=>PyData.int (k:Int)))(hl:xs.length<=1000)(H:∀i∈xs,bO [.int n,.int (i:Nat)]=some (.int (f i:Nat))):gQ [.fz (.int n),.fz (.int p),.fz B,z3]=some (.list (xs.map fun i=>.int (f i:Nat))):=
 dA (h:=fun(k:Nat)=>PyData.int (k:Int)) (k:=fun i=>PyData.int (f i:Nat)) (xs:=xs) (by simp[hN]) (by lia) fun i hi=>by
  have s:=H i hi;simp[capS,s]
theorem Bn(n p:Int)(B F:D)(xs:List Nat)(f g:Nat->Nat)(hN:bL [.int n]=some (xs.map fun(k:Nat)=>PyData.int (k:Int)))(hl:xs.length<=1000)(hB:∀i∈xs,az B (.int (i:Nat))=some (.int (g i:Nat)))(hF:∀i∈xs,az F (.int (i:Nat))=some (.int (f i:Nat))):gO [.fz (.int n),.fz (.int p),.fz B,.fz F]=some (.list (xs.map fun i=>wn (⟨f i,0,0⟩,⟨0,f i,2*g i⟩))):=
 dA (h:=fun(k:Nat)=>PyData.int (k:Int)) (k:=fun i=>wn (⟨f i,0,0⟩,⟨0,f i,2*g i⟩)) (xs:=xs) (by simp[hN]) (by lia) fun i hi=>by
  have a:=hB i hi;have b:=hF i hi;have m:IntMulOk 2 ((g i:Nat):Int):=.of_left (Nat.le_trans (MA.jz (m:=2) (by lia)) (by decide));simp[capS,a,b,m,wn,bU]
theorem vH{n:Nat}(hn:n<=6)(p:Nat):b9 [.int n,.int p]=some (fZ (mL n p)):=by
 have hl:(List.range n).length<=1000:=by rw[List.length_range];lia
 have e2:=Bn n p (.tuple ((List.range n).map fun i=>.int (ak (wt n i) p:Nat))) (.list ((List.range n).map fun i=>.int (wt n i:Nat))) (List.range n) (fun i=>wt n i) (fun i=>ak (wt n i) p) (yM n hn) hl (fun i hi=>Ho (List.mem_range.mp hi) fun i=>PyData.int (ak (wt n i) p:Nat)) (fun i hi=>Ho (List.mem_range.mp hi) fun i=>PyData.int (wt n i:Nat))
 have:=yy n p _ _ _ (Ag n p hn) (fun z3=>Bo n p _ z3 (List.range n) (fun i=>wt n i) (yM n hn) hl fun i hi=>aX hn (List.mem_range.mp hi)) e2
 rw[this];unfold fZ mL;rw[List.map_map];rfl
theorem HI(a b c:Int):MA.Sh 1 (.tuple [.int a,.int b,.int c]):=MA.Sh.tuple fun y hy=>by
 simp only[List.mem_cons,List.not_mem_nil,or_false]at hy;rcases hy with rfl|rfl|rfl<;>exact MA.Sh.int 0 _
theorem iD(u v:Wd):agB u v=agB v u:=by
 unfold agB;rw[Nat.and_comm u.z v.x,Nat.and_comm u.x v.z];by_cases h:par (v.x &&& u.z)=par (v.z &&& u.x)<;>simp[h,eq_comm]
theorem xV(u v w:Wd):agB (ax u v) w=(agB u w==agB v w):=by
 unfold agB;show decide (par ((u.z ^^^ v.z) &&& w.x)=par ((u.x ^^^ v.x) &&& w.z))=_;rw[MA.fN,MA.fN];have a1:=MA.d5 (u.z &&& w.x);have a2:=MA.d5 (v.z &&& w.x);have a3:=MA.d5 (u.x &&& w.z);have a4:=MA.d5 (v.x &&& w.z);generalize par (u.z &&& w.x)=a at *;generalize par (v.z &&& w.x)=b at *;generalize par (u.x &&& w.z)=c at *;generalize par (v.x &&& w.z)=d at *;by_cases h1:a=c<;>by_cases h2:b=d<;>simp[h1,h2]<;>lia
theorem eV(u v w:Wd):agB w (ax u v)=(agB w u==agB w v):=by rw[iD,xV,iD u,iD v]
theorem yD{u v:Wd}(hu:kA u=true)(hv:kA v=true)(h:agB u v=true):kA (ax u v)=true:=by
 unfold kA at *;unfold agB at h;rw[decide_eq_true_iff]at *;show((u.s+v.s+2*par (u.z &&& v.x))%4+par ((u.x ^^^ v.x) &&& (u.z ^^^ v.z)))%2=0;rw[MA.fN,MA.fh,MA.fh,Nat.and_comm v.x u.z]
 lia
structure Tb (n:Nat) (T:List (Wd×Wd)):Prop where
 good:Good n T
 inj:∀w:Wd,w.ok n->(∀p∈T,agB p.1 w=true/\agB p.2 w=true)->w.x=0/\w.z=0
theorem zm:((List.range 7).all fun n=>(List.range (2^n)).all fun p=>(p==0)||(List.range n).any fun i=>ak (wt n i) p != 0)=true:=by decide +kernel
theorem j3{n p:Nat}(hn:n<=6)(hp:p<2^n)(h:∀i,i<n->ak (wt n i) p=0):p=0:=by
 have q:=zm;rw[List.all_eq_true]at q;have q:=q n (List.mem_range.mpr (by lia));rw[List.all_eq_true]at q;have q:=q p (List.mem_range.mpr hp);rw[Bool.or_eq_true]at q;rcases q with q|q
 ·simpa using q
 ·obtain⟨i,hi,hb⟩:=List.any_eq_true.mp q
  have:=h i (List.mem_range.mp hi);rw[this]at hb;cases hb
theorem GO{n i:Nat}(hn:n<=6)(hi:i<n){w:Wd}(hw:w.ok n)(s:Nat):agB ⟨0,wt n i,s⟩ w=decide (ak (wt n i) w.x=0):=by
 unfold agB;show decide (par (wt n i &&& w.x)=par (0 &&& w.z))=_;have:=MA.bZ hn hi hw.1 1 (by decide);rw[Nat.mul_one,Nat.one_mul]at this;rw[this,Nat.zero_and,MA.cD]
theorem GP{n i:Nat}(hn:n<=6)(hi:i<n){w:Wd}(hw:w.ok n)(s:Nat):agB ⟨wt n i,0,s⟩ w=decide (ak (wt n i) w.z=0):=by
 unfold agB;show decide (par (0 &&& w.x)=par (wt n i &&& w.z))=_;have:=MA.bZ hn hi hw.2.1 1 (by decide);rw[Nat.mul_one,Nat.one_mul]at this;rw[this,Nat.zero_and,MA.cD];by_cases h:ak (wt n i) w.z=0<;>simp[h,eq_comm]
theorem yA{n:Nat}(hn:n<=6)(p:Nat):Tb n (mL n p):=by
 refine⟨ug hn p,fun w hw h=>?_⟩
 have at':∀i,i<n->ak (wt n i) w.z=0/\ak (wt n i) w.x=0:=fun i hi=>by
  obtain⟨h1,h2⟩:=h (⟨wt n i,0,0⟩,⟨0,wt n i,2*ak (wt n i) p⟩) (List.mem_map.mpr ⟨i,List.mem_range.mpr hi,rfl⟩);have h1:agB ⟨wt n i,0,0⟩ w=true:=h1;have h2:agB ⟨0,wt n i,2*ak (wt n i) p⟩ w=true:=h2;rw[GP hn hi hw]at h1;rw[GO hn hi hw]at h2;exact⟨of_decide_eq_true h1,of_decide_eq_true h2⟩
 exact⟨j3 hn hw.1 fun i hi=>(at' i hi).2,j3 hn hw.2.1 fun i hi=>(at' i hi).1⟩
theorem Al{n:Nat}{r:Row}(hr:r.ok n):(MA.mw r).ok n:=by
 cases r with
 |turn j e=>exact⟨hr.1,by have:=hr.2;lia,by have:=hr.2;lia⟩
 |_=>exact hr
theorem vg{n:Nat}{r:Row}(hr:r.ok n)(he:ju r):ju (MA.mw r):=by
 cases r with
 |turn j e=>show(8-e)%2=0;have:=hr.2;have he:e%2=0:=he;lia
 |_=>exact he
theorem vh{n:Nat}{r:Row}(hr:r.ok n):MA.mw (MA.mw r)=r:=by
 cases r with
 |turn j e=>show Row.turn j (8-(8-e))=_;have:=hr.2;rw[show 8-(8-e)=e by lia]
 |_=>rfl
theorem u5(n:Nat)(r:Row)(w:Wd)(h1:w.x=0)(h2:w.z=0):(MA.carry n r w).x=0/\(MA.carry n r w).z=0:=by
 obtain⟨x,z,s⟩:=w;dsimp only at h1 h2;subst h1 h2;cases r<;>simp[MA.carry,MA.g8]
theorem Tb.carry{n:Nat}(hn:n<=6){r:Row}(hr:r.ok n)(he:ju r){T:List (Wd×Wd)}(t:Tb n T):Tb n (T.map (cT n r)):=by
 refine⟨t.good.carry hn hr he,fun w hw h=>?_⟩
 have hb:=Al hr;have hw':=MA.fT hb hw;have e:MA.carry n r (MA.carry n (MA.mw r) w)=w:=by
  have:=MA.iW hb hw (bD (vg hr he) w)
  rwa [vh hr]at this
 obtain⟨a,b⟩:=t.inj (MA.carry n (MA.mw r) w) hw' fun p hp=>by
  obtain⟨o1,o2,_⟩:=t.good.ok p hp;obtain⟨g1,g2⟩:=h (cT n r p) (List.mem_map.mpr ⟨p,hp,rfl⟩);rw[<-e]at g1 g2;exact⟨(jC hn hr he o1 hw').symm.trans g1,(jC hn hr he o2 hw').symm.trans g2⟩
 have:=u5 n r _ a b
 rwa [e]at this
theorem dg{a b:Nat}(h:a ^^^ b=0):a=b:=by
 have:(a ^^^ b) ^^^ b=b:=by rw[h,Nat.zero_xor]
 rwa [Nat.xor_assoc,Nat.xor_self,Nat.xor_zero]at this
noncomputable def sx(T:List (Wd×Wd))(i:Nat):Wd:=(T[i]?.getD (⟨0,0,0⟩,⟨0,0,0⟩)).2
noncomputable def dx(T:List (Wd×Wd))(i:Nat):Wd:=(T[i]?.getD (⟨0,0,0⟩,⟨0,0,0⟩)).1
theorem AA{T:List (Wd×Wd)}{i:Nat}{p:Wd×Wd}(h:T[i]? = some p):sx T i=p.2/\dx T i=p.1:=by
 unfold sx dx;rw[h];exact⟨rfl,rfl⟩
noncomputable def wm(T:List (Wd×Wd))(I:List Nat):Wd:=I.foldl (fun a i=>ax a (sx T i)) ⟨0,0,0⟩
noncomputable def rQ(T:List (Wd×Wd))(w:Wd)(m:Nat):List Nat:=(List.range m).filter fun i=>!agB (dx T i) w
theorem yU(T:List (Wd×Wd))(I:List Nat)(i:Nat):wm T (I++[i])=ax (wm T I) (sx T i):=by
 unfold wm;rw[List.foldl_append];rfl
theorem sC(n:Nat):(⟨0,0,0⟩:Wd).ok n:=⟨Nat.pow_pos (by decide),Nat.pow_pos (by decide),by decide⟩
theorem lj(u:Wd):agB u ⟨0,0,0⟩=true:=by unfold agB;simp
theorem sV{n:Nat}{T:List (Wd×Wd)}(t:Tb n T)(w:Wd):∀m,m<=n->(wm T (rQ T w m)).ok n/\kA (wm T (rQ T w m))=true/\(∀p∈T,agB p.2 (wm T (rQ T w m))=true)/\∀(j:Nat) (p:Wd×Wd),T[j]? = some p->agB p.1 (wm T (rQ T w m))=(agB p.1 w || !decide (j<m))
 | 0,_=>⟨sC n,(str_iff.mpr (by show ax ⟨0,0,0⟩ ⟨0,0,0⟩=_;unfold ax;simp[MA.cD])),fun p _=>lj _,fun j p _=>by
   show agB p.1 ⟨0,0,0⟩=_;rw[lj];simp⟩
 |m+1,hm=>by
  obtain⟨h1,h2,h3,h4⟩:=sV t w m (by lia);have hlt:m<T.length:=by rw[t.good.len];lia
  have hq:T[m]? = some T[m]:=by simp[hlt]
  obtain⟨e1,e2⟩:=AA hq;have oq:=t.good.ok T[m] (List.getElem_mem hlt);cases hc:agB (dx T m) w with
  |true=>
   have e:rQ T w (m+1)=rQ T w m:=by
    unfold rQ;rw[List.range_succ,List.filter_append];simp[hc]
   rw[e];refine⟨h1,h2,h3,fun j p hp=>?_⟩
   rw[h4 j p hp];by_cases hj:j=m
   ·subst hj;rw[hq]at hp;cases hp;rw[e2]at hc;rw[hc];rfl
   ·have:(j<m+1)=(j<m):=by simp;lia
    simp[this]
  |false=>
   have e:rQ T w (m+1)=rQ T w m++[m]:=by
    unfold rQ;rw[List.range_succ,List.filter_append];simp[hc]
   rw[e,yU,e1];refine⟨MA.be h1 oq.2.1,yD h2 oq.2.2 (by rw[iD];exact h3 T[m] (List.getElem_mem hlt)),fun p hp=>?_,fun j p hp=>?_⟩
   ·obtain⟨i,hi⟩:=List.mem_iff_getElem?.mp hp
    rw[eV,h3 p hp,(t.good.ag i m p T[m] hi hq).1];rfl
   ·rw[eV,h4 j p hp,(t.good.ag j m p T[m] hp hq).2]
    by_cases hj:j=m
    ·subst hj
     rw[hq]at hp;cases hp;rw[e2]at hc;rw[hc];simp
    ·have:(j<m+1)=(j<m):=by simp;lia
     simp[this,hj]
theorem BJ{n:Nat}{T:List (Wd×Wd)}(t:Tb n T){w:Wd}(hw:w.ok n)(hA:∀p∈T,agB p.2 w=true):(wm T (rQ T w n)).x=w.x/\(wm T (rQ T w n)).z=w.z:=by
 obtain⟨h1,h2,h3,h4⟩:=sV t w n (Nat.le_refl _);obtain⟨a,b⟩:=t.inj (ax (wm T (rQ T w n)) w) (MA.be h1 hw) fun p hp=>by
  obtain⟨i,hi⟩:=List.mem_iff_getElem?.mp hp;have hil:i<n:=by rw[<-t.good.len];exact(List.getElem?_eq_some_iff.mp hi).1
  refine⟨?_,by rw[eV,h3 p hp,hA p hp];rfl⟩;rw[eV,h4 i p hi];simp[hil]
 exact⟨dg a,dg b⟩
noncomputable def Gi(n j m:Nat):Wd:=⟨0,wt n j,2*m⟩
theorem zr{n:Nat}{T:List (Wd×Wd)}(g:Good n T):eA [fZ T]=some (.int (n:Int)):=by
 show some (PyData.int _)=_;rw[List.length_map,g.len]
theorem vV{d:D}{k:Nat}(h:MA.Sh k d)(hk:k<=64):vT d=true:=by
 show(d.canLay0&&decide (d.depth<=64))=true;rw[h.1,decide_eq_true (Nat.le_trans h.2 hk)];rfl
theorem Cn{T:List (Wd×Wd)}{w:Wd}{n i:Nat}(h:i∈rQ T w n):i<n:=List.mem_range.mp (List.mem_filter.mp h).1
section
variable(c w j t s:Int)(hj:bV (.int (c/6)) (.int w)=some (.int j))
include hj
theorem tu(hk:(if w=1 then gF [PyData.str "swing",.str "turn",.str "flip"] (c%3)else gF [PyData.str "swing",.str "turn",.str "flip",.str "tie",.str "sign",.str "cross"] (c%6))=some (.str "turn"))(k0:∃d,gF [PyData.str "swing",.str "turn",.str "flip",.str "tie",.str "sign",.str "cross"] (c%6)=some d):aN [.int c,.int w]=some (.tuple [.str "turn",.int j,.int (2+2*(c/36%3))]):=by
 have im:IntMulOk 2 (c/36%3):=.of_left (by decide +kernel);obtain⟨d,k0⟩:=k0;by_cases q:w=1
 ·rw[if_pos q]at hk
  subst q;simp[-sSeq,-sIf,aG,aO,aN,runB,cV,aw,k0,hk,hj,im]
 ·rw[if_neg q]at hk
  simp[-sSeq,-sIf,aG,aO,aN,runB,cV,aw,hk,q,hj,im]
theorem oQ(x:Str)(hx:x = "swing" \/ x = "flip")(hk:(if w=1 then gF [PyData.str "swing",.str "turn",.str "flip"] (c%3)else gF [PyData.str "swing",.str "turn",.str "flip",.str "tie",.str "sign",.str "cross"] (c%6))=some (.str x))(k0:∃d,gF [PyData.str "swing",.str "turn",.str "flip",.str "tie",.str "sign",.str "cross"] (c%6)=some d):aN [.int c,.int w]=some (.tuple [.str x,.int j]):=by
 obtain⟨d,k0⟩:=k0;by_cases q:w=1
 ·rw[if_pos q]at hk
  subst q;rcases hx with rfl|rfl<;>simp[-sSeq,-sIf,aG,aO,aN,runB,cV,aw,k0,hk,hj]
 ·rw[if_neg q]at hk
  rcases hx with rfl|rfl<;>simp[-sSeq,-sIf,aG,aO,aN,runB,cV,aw,hk,q,hj]
theorem rN(q:¬w=1)(x:Str)(hx:x = "tie" \/ x = "sign" \/ x = "cross")(hk:gF [PyData.str "swing",.str "turn",.str "flip",.str "tie",.str "sign",.str "cross"] (c%6)=some (.str x))(ht:bV (.int (c/36)) (.int (w-1))=some (.int t))(hs:bV (.int (j+1+t)) (.int w)=some (.int s)):aN [.int c,.int w]=some (.tuple [.str x,.int j,.int s]):=by
 rcases hx with rfl|rfl|rfl<;>simp[-sSeq,-sIf,aG,aO,aN,runB,cV,aw,hk,q,hj,ht,hs]
end
theorem zq(c:Int)(w:Nat)(hw:1<=w):∃r:Row,r.ok w/\gD r=false/\aN [.int c,.int w]=some (rowD r):=by
 have hw0:(0:Int)<w:=by lia
 have a1:=Int.emod_nonneg (c/6) (show(w:Int)≠0 by lia);have a2:=Int.emod_lt_of_pos (c/6) hw0;obtain⟨j,hj⟩:∃j:Nat,c/6%w=j:=⟨(c/6%w).toNat,by lia⟩;have ej:=gS (i:=c/6) hw0;rw[hj]at ej a1 a2;obtain⟨e,he⟩:∃e:Nat,2+2*(c/36%3)=(e:Int):=⟨(2+2*(c/36%3)).toNat,by lia⟩;have e20:e%2=0:=by lia
 have eo:gD (.turn j e)=false:=by
  show(e%2==1)=false;rw[e20];rfl
 have c6:c%6=0\/c%6=1\/c%6=2\/c%6=3\/c%6=4\/c%6=5:=by lia
 have k0:∃d,gF [PyData.str "swing",.str "turn",.str "flip",.str "tie",.str "sign",.str "cross"] (c%6)=some d:=by
  rcases c6 with h|h|h|h|h|h<;>rw[h]
  ·exact⟨_,GI _ _⟩
  ·exact⟨_,GH _ _ _⟩
  ·exact⟨_,GG _ _ _ _⟩
  ·exact⟨_,Hs _ _ _ _ _⟩
  ·exact⟨_,Hr _ _ _ _ _ _⟩
  ·exact⟨_,Hq _ _ _ _ _ _ _⟩
 have ok1:j<w:=by lia
 have okT:j<w/\1<=e/\e<=7:=by lia
 by_cases q:w=1
 ·have q':(w:Int)=1:=by lia
  have:c%3=0\/c%3=1\/c%3=2:=by lia
  rcases this with h|h|h
  ·exact⟨.swing j,ok1,rfl,oQ c w j ej "swing" (.inl rfl) (by rw[if_pos q',h];exact GI _ _) k0⟩
  ·have:=tu c w j ej (by rw[if_pos q',h];exact GH _ _ _) k0
   rw[he]at this;exact⟨.turn j e,okT,eo,this⟩
  ·exact⟨.flip j,ok1,rfl,oQ c w j ej "flip" (.inr rfl) (by rw[if_pos q',h];exact GG _ _ _ _) k0⟩
 ·have q':¬(w:Int)=1:=by lia
  have b1:=Int.emod_nonneg (c/36) (show(w:Int)-1≠0 by lia);have b2:=Int.emod_lt_of_pos (c/36) (show 0<(w:Int)-1 by lia);have et:=gS (i:=c/36) (show 0<(w:Int)-1 by lia);generalize c/36%((w:Int)-1)=t at *;have c1:=Int.emod_nonneg ((j:Int)+1+t) (show(w:Int)≠0 by lia);have c2:=Int.emod_lt_of_pos ((j:Int)+1+t) hw0;have ei:=gS (i:=(j:Int)+1+t) hw0;obtain⟨i,hi⟩:∃i:Nat,((j:Int)+1+t)%w=i:=⟨(((j:Int)+1+t)%w).toNat,by lia⟩;have hij:j≠i:=fun z=>by
   by_cases hh:(j:Int)+1+t<w
   ·rw[Int.emod_eq_of_lt (by lia) hh]at hi;lia
   ·have:((j:Int)+1+t)%w=(j:Int)+1+t-w:=by
     rw[<-Int.sub_emod_right,Int.emod_eq_of_lt (by lia) (by lia)]
    lia
  rw[hi]at ei c1 c2;have k:j<w/\i<w/\j≠i:=⟨by lia,by lia,hij⟩;rcases c6 with h|h|h|h|h|h
  ·exact⟨.swing j,ok1,rfl,oQ c w j ej "swing" (.inl rfl) (by rw[if_neg q',h];exact GI _ _) k0⟩
  ·have:=tu c w j ej (by rw[if_neg q',h];exact GH _ _ _) k0
   rw[he]at this;exact⟨.turn j e,okT,eo,this⟩
  ·exact⟨.flip j,ok1,rfl,oQ c w j ej "flip" (.inr rfl) (by rw[if_neg q',h];exact GG _ _ _ _) k0⟩
  ·exact⟨.tie j i,k,rfl,rN c w j t i ej q' "tie" (.inl rfl) (by rw[h];exact Hs _ _ _ _ _) et ei⟩
  ·exact⟨.sign j i,k,rfl,rN c w j t i ej q' "sign" (.inr (.inl rfl)) (by rw[h];exact Hr _ _ _ _ _ _) et ei⟩
  ·exact⟨.cross j i,k,rfl,rN c w j t i ej q' "cross" (.inr (.inr rfl)) (by rw[h];exact Hq _ _ _ _ _ _ _) et ei⟩
noncomputable def zN:Nu:=(⟨0,0,0,0⟩,0)
theorem ll(e:Nat):MA.aD e zN=zN:=by
 have h:e%8=0\/e%8=1\/e%8=2\/e%8=3\/e%8=4\/e%8=5\/e%8=6\/e%8=7:=by lia
 unfold MA.aD;rcases h with h|h|h|h|h|h|h|h<;>rw[h]<;>rfl
theorem A7:MA.cg (MA.bM zN zN)=zN:=by rfl
theorem A8(n:Nat)(r:Row)(p:Nat):aB n (fun _=>zN) r p=zN:=by
 cases r with
 |swing j=>
  show(if ak (wt n j) p=0 then MA.cg (MA.bM zN zN)else MA.cg (MA.bM zN (MA.aD 4 zN)))=zN;rw[ll,A7];split<;>rfl
 |turn j e=>exact ll _
 |sign i j=>exact ll _
 |flip j=>rfl
 |tie i j=>rfl
 |cross i j=>rfl
theorem oi:MA.bu zN:=⟨by decide,fun h=>absurd h (by decide)⟩
theorem p0{u:Nu}(hl:MA.bu u)(h:MA.aD 4 u=u):u=zN:=by
 obtain⟨⟨a,b,c,d⟩,k⟩:=u;have h1:MA.df 4 ⟨a,b,c,d⟩=⟨a,b,c,d⟩:=congrArg Prod.fst h;rw[MA.jt]at h1;have e1:-a=a:=congrArg MA.Q4.a h1;have e2:-b=b:=congrArg MA.Q4.b h1;have e3:-c=c:=congrArg MA.Q4.c h1;have e4:-d=d:=congrArg MA.Q4.d h1;have a0:a=0:=by lia
 have b0:b=0:=by lia
 have c0:c=0:=by lia
 have d0:d=0:=by lia
 subst a0 b0 c0 d0;have hk:k=0:=by
  cases k with
  |zero=>rfl
  |succ k=>exact absurd (hl.2 (by show(0:Int)<((k+1:Nat):Int);lia)) (by show ¬MA.Q4.Odd ⟨0,0,0,0⟩;unfold MA.Q4.Odd;decide)
 subst hk;rfl
theorem sF(f:Nat->Nu)(u v:Wd)(p:Nat):MA.eX (MA.eX f u) v p=MA.eX f (ax v u) p:=by
 unfold MA.eX;rw[e6];show MA.aD _ (f (p ^^^ v.x ^^^ u.x))=MA.aD (2*((v.s+u.s+2*par (v.z &&& u.x))%4)+4*par ((p ^^^ (v.x ^^^ u.x)) &&& (v.z ^^^ u.z))) (f (p ^^^ (v.x ^^^ u.x)));rw[Nat.xor_assoc];apply cy;have e:par ((p ^^^ (v.x ^^^ u.x)) &&& (v.z ^^^ u.z))=(par ((p ^^^ v.x) &&& v.z)+par (u.x &&& v.z)+par ((p ^^^ v.x ^^^ u.x) &&& u.z))%2:=by
  rw[MA.fh,<-Nat.xor_assoc,MA.fN (p ^^^ v.x) u.x v.z]
  lia
 rw[e,Nat.and_comm v.z u.x,<-Nat.xor_assoc]
 lia
structure Bel (n:Nat) (T:List (Wd×Wd)) (f:Nat->Nu):Prop where
 tb:Tb n T
 ls:∀p,MA.bu (f p)
 nz:∃p,p<2^n/\f p≠zN
 st:∀q∈T,∀p,p<2^n->MA.eX f q.2 p=f p
theorem Bel.row{n:Nat}(hn:n<=6){r:Row}(hr:r.ok n)(he:ju r){T:List (Wd×Wd)}{f:Nat->Nu}(b:Bel n T f){M:Nat}(hM:∀p,(f p).2<=M):Bel n (T.map (cT n r)) (aB n f r):=by
 refine⟨b.tb.carry hn hr he,MA.dM b.ls n r,?_,fun q hq p hp=>?_⟩
 ·by_cases h:∃p,p<2^n/\aB n f r p≠zN
  ·exact h
  ·exfalso
   obtain⟨p,hp,hne⟩:=b.nz;have z:∀x,x<2^n->aB n f r x=(fun _=>zN) x:=fun x hx=>by
    by_cases e:aB n f r x=zN
    ·exact e
    ·exact absurd ⟨x,hx,e⟩ h
   have u:=MA.jY b.ls hM r hr p;rw[iU z (MA.Row.about_ok hr) hp,A8]at u;exact hne u.symm
 ·obtain⟨q',hq',rfl⟩:=List.mem_map.mp hq
  have ok:=(b.tb.good.ok q' hq').2.1;have:=MA.mn hn hr ok (bD he q'.2) b.ls (M:=M+1) (fun p=>Nat.succ_le_succ (hM p)) hp
  show MA.eX (aB n f r) (MA.carry n r q'.2) p=_;rw[<-this];exact iU (fun x hx=>b.st q' hq' x hx) hr hp
theorem wP{n:Nat}(hn:n<=6){j:Nat}(hj:j<n)(m:Nat)(f:Nat->Nu){p:Nat}(hp:p<2^n):MA.eX f (Gi n j m) p=MA.aD (4*(m+ak (wt n j) p)) (f p):=by
 unfold MA.eX;show MA.aD (2*(2*m)+4*par ((p ^^^ 0) &&& wt n j)) (f (p ^^^ 0))=_;rw[Nat.xor_zero,Nat.and_comm];have:=MA.bZ hn hj hp 1 (by decide);rw[Nat.mul_one,Nat.one_mul]at this;rw[this];congr 1
 lia
theorem pr{n:Nat}{f:Nat->Nu}{u v:Wd}(hv:v.ok n)(h1:∀p,p<2^n->MA.eX f u p=f p)(h2:∀p,p<2^n->MA.eX f v p=f p){p:Nat}(hp:p<2^n):MA.eX f (ax v u) p=f p:=by
 rw[<-sF,jG h1 hv p hp,h2 p hp]
theorem qV{a b:Int}(ha:a.natAbs<=2^200000)(hb:b.natAbs<=2^200000):IntMulOk a b:=
 MA.rL 200001 200001 (Nat.lt_of_le_of_lt ha (Nat.pow_lt_pow_right (by decide) (by decide))) (Nat.lt_of_le_of_lt hb (Nat.pow_lt_pow_right (by decide) (by decide))) (by decide)
theorem vF(x:MA.Q4)(c:Int)(y:MA.Q4)(d:Int)(hx:MA.Q4.Le (2^200000) x)(hy:MA.Q4.Le (2^200000) y)(hc:0<=c)(hd:0<=d):dR [tup5 x c,tup5 y d]=some (tup5 (MA.eK x c y d).1 (MA.eK x c y d).2):=by
 obtain⟨l1,l2,l3,l4⟩:=hx;obtain⟨m1,m2,m3,m4⟩:=hy;have a1:=qV l1 m1;have a2:=qV l1 m2;have a3:=qV l1 m3;have a4:=qV l1 m4;have b1:=qV l2 m1;have b2:=qV l2 m2;have b3:=qV l2 m3;have b4:=qV l2 m4;have c1:=qV l3 m1;have c2:=qV l3 m2;have c3:=qV l3 m3;have c4:=qV l3 m4;have d1:=qV l4 m1;have d2:=qV l4 m2;have d3:=qV l4 m3;have d4:=qV l4 m4;have nm:=B4 (MA.Q4.mul x y) (c+d) (by lia);unfold MA.eK;generalize MA.num (MA.Q4.mul x y) (c+d)=r at *;simp only[MA.Q4.mul]at nm;generalize tup5 r.1 r.2=R at *;simp only[tup5];simp[dR,runB,pe,aw,a1,a2,a3,a4,b1,b2,b3,b4,c1,c2,c3,c4,d1,d2,d3,d4,nm]
theorem sL(u v:Nu)(hu:MA.Q4.Le (2^200000) u.1)(hv:MA.Q4.Le (2^200000) v.1):dR [bT u,bT v]=some (bT (MA.aK u v)):=by
 have e:=vF u.1 u.2 v.1 v.2 hu hv (by lia) (by lia);unfold bT MA.aK;rw[e];obtain⟨c,e2,h⟩:=wH (MA.Q4.mul u.1 v.1) (u.2+v.2);have e3:=MA.fY u v;show some (tup5 _ (MA.eK u.1 u.2 v.1 v.2).2)=some (tup5 _ ((MA.eK u.1 u.2 v.1 v.2).2.toNat:Int));unfold MA.eK;rw[e3,e2];rfl
theorem zX(ns:List Int)(lo hi:Option Int):∃cs:List Int,cs.length<=ns.length/\E5 (.list (ns.map .int)) lo hi=some (.list (cs.map .int)):=by
 refine⟨(ns.drop (HT.sIx ns.length 0 lo)).take (HT.sIx ns.length ns.length hi-HT.sIx ns.length 0 lo),?_,?_⟩
 ·rw[List.length_take,List.length_drop];lia
 ·show some (PyData.list (qy _ _ _))=_
  unfold qy;rw[List.length_map,<-List.map_drop,<-List.map_take]
theorem GF{n:Nat}(hn:n<=6){p:Nat}(hp:p<2^n):Bel n (mL n p) (MA.du p):=by
 refine⟨yA hn p,MA.uz p,⟨p,hp,?_⟩,fun q hq x hx=>?_⟩
 ·unfold MA.du
  rw[if_pos rfl];intro h;exact absurd (congrArg (fun u:Nu=>u.1.a) h) (by decide)
 ·obtain⟨i,hi⟩:=List.mem_iff_getElem?.mp hq
  obtain⟨h,rfl⟩:=kS hi;show MA.eX (MA.du p) (Gi n i (ak (wt n i) p)) x=_;rw[wP hn h _ _ hx];by_cases e:x=p
  ·subst e
   rw[cy (b:=0) (by lia)];rfl
  ·have:MA.du p x=zN:=by unfold MA.du;rw[if_neg e];rfl
   rw[this,ll]
noncomputable def hasB(b k:Nat):Bool:=decide (b/2^k%2=1)
theorem lZ(x k:Nat):hasB x k=x.testBit k:=by rw[Nat.testBit_eq_decide_div_mod_eq];rfl
theorem cE(a b k:Nat):hasB (a ^^^ b) k=(hasB a k != hasB b k):=by
 have e:∀x,hasB x k=x.testBit k:=fun x=>by
  rw[Nat.testBit_eq_decide_div_mod_eq];rfl
 rw[e,e,e,Nat.testBit_xor]
theorem pP:∀{a b:List Nat},a.Pairwise (· < ·)->b.Pairwise (· < ·)->(∀k,k∈a↔k∈b)->a=b
 |[],b,_,_,h=>by
  cases b with
  |nil=>rfl
  |cons y b=>exact absurd ((h y).mpr List.mem_cons_self) (by simp)
 |x::a,b,ha,hb,h=>by
  cases b with
  |nil=>exact absurd ((h x).mp List.mem_cons_self) (by simp)
  |cons y b=>
   obtain⟨a1,a2⟩:=List.pairwise_cons.mp ha;obtain⟨b1,b2⟩:=List.pairwise_cons.mp hb;have e:x=y:=by
    rcases List.mem_cons.mp ((h x).mp List.mem_cons_self)with z|z
    ·exact z
    ·rcases List.mem_cons.mp ((h y).mpr List.mem_cons_self)with w|w
     ·exact w.symm
     ·have:=b1 x z
      have:=a1 y w
      lia
   subst e;rw[pP a2 b2 fun k=>?_]
   constructor
   ·intro z
    rcases List.mem_cons.mp ((h k).mp (List.mem_cons_of_mem _ z))with w|w
    ·have:=a1 k z;lia
    ·exact w
   ·intro z
    rcases List.mem_cons.mp ((h k).mpr (List.mem_cons_of_mem _ z))with w|w
    ·have:=b1 k z;lia
    ·exact w
theorem Ga(a b c:Nat):par ((a ^^^ b) &&& c)=(par (a &&& c)+par (b &&& c))%2:=by rw[Nat.and_xor_distrib_right,MA.ji]
theorem F9(a b c:Nat):par (a &&& (b ^^^ c))=(par (a &&& b)+par (a &&& c))%2:=by rw[Nat.and_xor_distrib_left,MA.ji]
noncomputable def tp(n:Nat):Nat:=Nat.log2 n
theorem eJ{n:Nat}(h:n≠0):hasB n (tp n)=true:=by
 rw[lZ];unfold tp;exact Nat.testBit_log2 h
theorem lD{n k:Nat}(h:tp n<k):hasB n k=false:=by
 rw[lZ];exact Nat.testBit_lt_two_pow (Nat.lt_of_lt_of_le (Nat.lt_log2_self) (Nat.pow_le_pow_right (by decide) h))
theorem Do{n k:Nat}(h:hasB n k=true)(g:∀j,k<j->hasB n j=false):tp n=k:=by
 have hn:n≠0:=fun z=>by subst z;rw[lZ,Nat.zero_testBit]at h;cases h
 rcases Nat.lt_trichotomy (tp n) k with z|z|z
 ·rw[lD z]at h;cases h
 ·exact z
 ·have:=eJ hn
  rw[g _ z]at this;cases this
noncomputable def clr1(told:List Nat)(t:Nat):Nat:=told.foldl (fun t o=>if hasB t (tp o)then t ^^^ o else t) t
noncomputable def iV(told:List Nat)(a:Nat):List Nat:=if clr1 told a=0 then told else(told.map fun o=>if hasB o (tp (clr1 told a))then o ^^^ clr1 told a else o)++[clr1 told a]
noncomputable def Gy(l:List Nat):List Nat:=l.foldl iV []
structure Red (l:List Nat):Prop where
 nz:∀a∈l,a≠0
 pw:l.Pairwise fun a b=>hasB a (tp b)=false/\hasB b (tp a)=false
theorem bE(o:Nat)(l:List Nat)(t:Nat):clr1 (o::l) t=clr1 l (if hasB t (tp o)then t ^^^ o else t):=rfl
theorem xy{k:Nat}:∀(l:List Nat) (t:Nat),(∀o∈l,hasB o k=false)->hasB (clr1 l t) k=hasB t k
 |[],_,_=>rfl
 |o::l,t,h=>by
  rw[bE,xy l _ fun a ha=>h a (.tail _ ha)]
  split
  ·rw[cE,h o (.head _)];simp
  ·rfl
theorem tQ:∀(l:List Nat) (t:Nat),(∀a∈l,a≠0)->(l.Pairwise fun a b=>hasB a (tp b)=false/\hasB b (tp a)=false)->∀o∈l,hasB (clr1 l t) (tp o)=false
 |[],_,_,_,_,h=>by cases h
 |a::l,t,nz,pw,o,ho=>by
  rw[bE];have pw':=List.pairwise_cons.mp pw;rcases List.mem_cons.mp ho with rfl|ho
  ·rw[xy l _ fun b hb=>(pw'.1 b hb).2]
   split
   ·rename_i h
    rw[cE,h,eJ (nz _ (.head _))];rfl
   ·rename_i h
    exact Bool.eq_false_iff.mpr h
  ·exact tQ l _ (fun b hb=>nz b (.tail _ hb)) pw'.2 o ho
noncomputable def vb(x a:Nat):Bool:=par (a &&& x)==1
theorem qY(x a b:Nat):vb x (a ^^^ b)=(vb x a != vb x b):=by
 unfold vb;rw[Nat.and_xor_distrib_right,MA.ji];have h1:=MA.d5 (a &&& x);have h2:=MA.d5 (b &&& x);rcases (by lia:par (a &&& x)=0\/par (a &&& x)=1)with e1|e1<;>rcases (by lia:par (b &&& x)=0\/par (b &&& x)=1)with e2|e2<;>rw[e1,e2]<;>rfl
theorem o8(x:Nat):∀(l:List Nat) (t:Nat),(∀o∈l,vb x o=false)->vb x (clr1 l t)=vb x t
 |[],_,_=>rfl
 |o::l,t,h=>by
  rw[bE,o8 x l _ fun a ha=>h a (.tail _ ha)]
  split
  ·rw[qY,h o (.head _)];simp
  ·rfl
theorem CL(x:Nat)(l:List Nat)(a:Nat):(∀o∈iV l a,vb x o=false)↔(∀o∈l,vb x o=false)/\vb x a=false:=by
 unfold iV;split
 ·rename_i h
  constructor
  ·intro g
   refine⟨g,?_⟩;rw[<-o8 x l a g,h];unfold vb;rw[Nat.zero_and,MA.cD];rfl
  ·exact fun g=>g.1
 ·constructor
  ·intro g
   have gt:vb x (clr1 l a)=false:=g _ (List.mem_append_right _ (.head _));have gl:∀o∈l,vb x o=false:=fun o ho=>by
    have:=g _ (List.mem_append_left _ (List.mem_map_of_mem ho));split at this
    ·rw[qY,gt]at this
     simpa using this
    ·exact this
   exact⟨gl,by rw[<-o8 x l a gl];exact gt⟩
  ·rintro⟨gl,ga⟩ o ho
   have gt:vb x (clr1 l a)=false:=by rw[o8 x l a gl];exact ga
   rcases List.mem_append.mp ho with ho|ho
   ·obtain⟨o',h',rfl⟩:=List.mem_map.mp ho
    split
    ·rw[qY,gl o' h',gt];rfl
    ·exact gl o' h'
   ·rcases List.mem_singleton.mp ho with rfl
    exact gt
theorem qB{l:List Nat}(h:Red l)(a:Nat):Red (iV l a):=by
 unfold iV;split
 ·exact h
 ·rename_i ht
  generalize hT:clr1 l a=t at ht ⊢;have no:∀o∈l,hasB t (tp o)=false:=hT ▸ tQ l a h.nz h.pw;have hh:=eJ ht;have tpS:∀o∈l,tp (if hasB o (tp t)then o ^^^ t else o)=tp o:=fun o ho=>by
   split
   ·rename_i hs
    refine Do (by rw[cE,eJ (h.nz o ho),no o ho];rfl) fun j hj=>?_
    have lt:tp t<tp o:=by
     rcases Nat.lt_trichotomy (tp t) (tp o)with z|z|z
     ·exact z
     ·have:=no o ho;rw[<-z,hh]at this;cases this
     ·rw[lD z]at hs;cases hs
    rw[cE,lD hj,lD (Nat.lt_trans lt hj)];rfl
   ·rfl
  have bitS:∀o∈l,∀k,hasB t k=false->hasB (if hasB o (tp t)then o ^^^ t else o) k=hasB o k:=fun o ho k hk=>by
   split
   ·rw[cE,hk];simp
   ·rfl
  have topS:∀o∈l,hasB (if hasB o (tp t)then o ^^^ t else o) (tp t)=false:=fun o ho=>by
   split
   ·rename_i hs;rw[cE,hs,hh];rfl
   ·rename_i hs;exact Bool.eq_false_iff.mpr hs
  refine⟨fun b hb=>?_,List.pairwise_append.mpr ⟨List.pairwise_map.mpr (h.pw.imp_of_mem fun{a b} ha hb q=>⟨?_,?_⟩),List.pairwise_singleton _ _,fun b hb c hc=>?_⟩⟩
  ·rcases List.mem_append.mp hb with hb|hb
   ·obtain⟨o,ho,rfl⟩:=List.mem_map.mp hb
    intro z;have:=bitS o ho (tp o) (no o ho);rw[z,eJ (h.nz o ho),lZ,Nat.zero_testBit]at this;cases this
   ·rcases List.mem_singleton.mp hb with rfl
    exact ht
  ·rw[tpS b hb,bitS a ha _ (no b hb)];exact q.1
  ·rw[tpS a ha,bitS b hb _ (no a ha)];exact q.2
  ·obtain⟨o,ho,rfl⟩:=List.mem_map.mp hb
   rcases List.mem_singleton.mp hc with rfl
   exact⟨topS o ho,by rw[tpS o ho];exact no o ho⟩
theorem xw(x:Nat):∀(ts l:List Nat),Red l->Red (ts.foldl iV l)/\((∀o∈ts.foldl iV l,vb x o=false)↔(∀o∈l,vb x o=false)/\∀a∈ts,vb x a=false)
 |[],l,h=>⟨h,by simp⟩
 |a::ts,l,h=>by
  have g:=xw x ts (iV l a) (qB h a);refine⟨g.1,g.2.trans ?_⟩;rw[CL];constructor
  ·rintro⟨⟨g1,g2⟩,g3⟩
   exact⟨g1,fun b hb=>by rcases List.mem_cons.mp hb with rfl|hb;exact g2;exact g3 b hb⟩
  ·rintro⟨g1,g2⟩
   exact⟨⟨g1,g2 a (.head _)⟩,fun b hb=>g2 b (.tail _ hb)⟩
theorem z7(ts:List Nat):Red (Gy ts):=(xw 0 ts [] ⟨(fun _ h=>nomatch h),.nil⟩).1
inductive Sp (l:List Nat):Nat->Prop
 |zero:Sp l 0
 |add {a b:Nat}:a∈l->Sp l b->Sp l (a ^^^ b)
theorem Sp.one{l:List Nat}{a:Nat}(h:a∈l):Sp l a:=by
 have:=Sp.add h Sp.zero
 rwa [Nat.xor_zero]at this
theorem Sp.xor{l:List Nat}{a b:Nat}(ha:Sp l a)(hb:Sp l b):Sp l (a ^^^ b):=by
 induction ha with
 |zero=>rw[Nat.zero_xor];exact hb
 |add h _ ih=>rw[Nat.xor_assoc];exact .add h ih
theorem Sp.sub{l l':List Nat}(h:∀a∈l,Sp l' a){a:Nat}(ha:Sp l a):Sp l' a:=by
 induction ha with
 |zero=>exact .zero
 |add g _ ih=>exact(h _ g).xor ih
theorem i8(a b:Nat):a ^^^ b ^^^ b=a:=by rw[Nat.xor_assoc,Nat.xor_self,Nat.xor_zero]
theorem tP(l:List Nat):∀(told:List Nat) (t:Nat),(∀o∈told,Sp l o)->∃s,Sp l s/\clr1 told t=t ^^^ s
 |[],t,_=>⟨0,.zero,(Nat.xor_zero t).symm⟩
 |o::told,t,h=>by
  rw[bE];obtain⟨s,hs,e⟩:=tP l told (if hasB t (tp o)then t ^^^ o else t) fun a ha=>h a (.tail _ ha)
  split at e
  ·rename_i q
   exact⟨o ^^^ s,(h o (.head _)).xor hs,by rw[if_pos q,e,Nat.xor_assoc]⟩
  ·rename_i q
   exact⟨s,hs,by rw[if_neg q,e]⟩
theorem tN(l:List Nat)(a b:Nat):Sp (iV l a) b↔Sp (a::l) b:=by
 obtain⟨s,hs,e⟩:=tP l l a fun o ho=>.one ho
 have up:∀{c},Sp l c->Sp (a::l) c:=fun h=>h.sub fun o ho=>.one (.tail _ ho)
 have ht:Sp (a::l) (clr1 l a):=by rw[e];exact(Sp.one (.head _)).xor (up hs)
 unfold iV;split
 ·rename_i z
  refine⟨up,fun h=>h.sub fun o ho=>?_⟩
  rcases List.mem_cons.mp ho with rfl|ho
  ·have:o=s:=by
    have q:=e.symm.trans z;have:=i8 o s;rw[q,Nat.zero_xor]at this;exact this.symm
   rw[this];exact hs
  ·exact .one ho
 ·generalize clr1 l a=t at *
  constructor
  ·intro h
   refine h.sub fun o ho=>?_
   rcases List.mem_append.mp ho with ho|ho
   ·obtain⟨o',h',rfl⟩:=List.mem_map.mp ho
    split
    ·exact(Sp.one (.tail _ h')).xor ht
    ·exact .one (.tail _ h')
   ·rw[List.mem_singleton.mp ho];exact ht
  ·intro h
   have t':Sp (l.map (fun o=>if hasB o (tp t)then o ^^^ t else o)++[t]) t:=.one (List.mem_append_right _ (.head _))
   have l':∀o∈l,Sp (l.map (fun o=>if hasB o (tp t)then o ^^^ t else o)++[t]) o:=fun o ho=>by
    have q:Sp (l.map (fun o=>if hasB o (tp t)then o ^^^ t else o)++[t]) (if hasB o (tp t)then o ^^^ t else o):=.one (List.mem_append_left _ (List.mem_map_of_mem ho))
    split at q
    ·have:=q.xor t'
     rwa [i8]at this
    ·exact q
   refine h.sub fun o ho=>?_
   rcases List.mem_cons.mp ho with z|ho
   ·have q:=t'.xor (hs.sub l')
    have y:t ^^^ s=o:=by rw[e,i8];exact z.symm
    rwa [y]at q
   ·exact l' o ho
theorem xv:∀(ts l:List Nat) (b:Nat),Sp (ts.foldl iV l) b↔Sp (ts++l) b
 |[],l,b=>Iff.rfl
 |t::ts,l,b=>by
  rw[List.foldl_cons,xv ts];constructor
  ·intro h
   refine h.sub fun o ho=>?_
   rcases List.mem_append.mp ho with ho|ho
   ·exact .one (List.mem_append_left _ (.tail _ ho))
   ·refine((tN l t o).mp (.one ho)).sub fun c hc=>.one ?_
    rcases List.mem_cons.mp hc with rfl|hc
    ·exact List.mem_append_left _ (.head _)
    ·exact List.mem_append_right _ hc
  ·intro h
   have inl:∀c,Sp (t::l) c->Sp (ts++iV l t) c:=fun c hc=>((tN l t c).mpr hc).sub fun o ho=>.one (List.mem_append_right _ ho)
   refine h.sub fun o ho=>?_
   rcases List.mem_append.mp ho with ho|ho
   ·rcases List.mem_cons.mp ho with rfl|ho
    ·exact inl _ (.one (.head _))
    ·exact .one (List.mem_append_left _ ho)
   ·exact inl _ (.one (.tail _ ho))
theorem xu(ts:List Nat)(b:Nat):Sp (Gy ts) b↔Sp ts b:=by
 have:=xv ts [] b
 rwa [List.append_nil]at this
theorem nJ(k:Nat):hasB 0 k=false:=by rw[lZ,Nat.zero_testBit]
theorem qD:∀(l:List Nat) (a b:Nat),clr1 l (a ^^^ b)=clr1 l a ^^^ clr1 l b
 |[],_,_=>rfl
 |o::l,a,b=>by
  rw[bE,bE,bE,<-qD l];congr 1;rw[cE];cases h1:hasB a (tp o)<;>cases h2:hasB b (tp o)<;>simp
  ·rw[Nat.xor_assoc]
  ·rw[Nat.xor_assoc,Nat.xor_assoc,Nat.xor_comm o b]
  ·rw[Nat.xor_assoc,<-Nat.xor_assoc o b o,Nat.xor_comm o b,i8]
theorem nT(l:List Nat):clr1 l 0=0:=by
 induction l with
 |nil=>rfl
 |cons o l ih=>rw[bE,nJ];exact ih
theorem nU:∀(l:List Nat) (t:Nat),(∀o∈l,hasB t (tp o)=false)->clr1 l t=t
 |[],_,_=>rfl
 |o::l,t,h=>by
  rw[bE,h o (.head _)];exact nU l t fun a ha=>h a (.tail _ ha)
theorem qC:∀(l:List Nat),(∀a∈l,a≠0)->(l.Pairwise fun a b=>hasB a (tp b)=false/\hasB b (tp a)=false)->∀o∈l,clr1 l o=0
 |[],_,_,_,h=>nomatch h
 |a::l,nz,pw,o,ho=>by
  have pw':=List.pairwise_cons.mp pw;rw[bE];rcases List.mem_cons.mp ho with rfl|ho
  ·rw[eJ (nz _ (.head _)),if_pos rfl,Nat.xor_self,nT]
  ·rw[(pw'.1 o ho).2]
   exact qC l (fun b hb=>nz b (.tail _ hb)) pw'.2 o ho
theorem ov{R:List Nat}(r:Red R){s:Nat}(h:Sp R s):clr1 R s=0:=by
 induction h with
 |zero=>exact nT R
 |add g _ ih=>rw[qD,ih,qC R r.nz r.pw _ g];rfl
theorem uk{R:List Nat}(r:Red R){s:Nat}(h:Sp R s)(g:∀o∈R,hasB s (tp o)=false):s=0:=by
 rw[<-nU R s g];exact ov r h
theorem mm{k:Nat}:∀(l:List Nat) (t:Nat),hasB t k=true->(∀j,k<j->hasB t j=false)->(∀o∈l,o≠0/\tp o≠k)->hasB (clr1 l t) k=true
 |[],t,h,_,_=>h
 |o::l,t,h,g,q=>by
  rw[bE];have qo:=q o (.head _);split
  ·rename_i z
   have lt:tp o<k:=by
    rcases Nat.lt_trichotomy (tp o) k with y|y|y
    ·exact y
    ·exact absurd y qo.2
    ·rw[g _ y]at z;cases z
   refine mm l _ (by rw[cE,h,lD lt];rfl) (fun j hj=>?_) fun a ha=>q a (.tail _ ha)
   rw[cE,g j hj,lD (Nat.lt_trans lt hj)];rfl
  ·exact mm l t h g fun a ha=>q a (.tail _ ha)
theorem sO{R:List Nat}(r:Red R){s:Nat}(h:Sp R s)(h0:s≠0):∃o∈R,tp o=tp s:=by
 rcases Classical.em (∃o∈R,tp o=tp s)with q|q
 ·exact q
 ·have:=mm R s (eJ h0) (fun j hj=>lD hj) fun o ho=>⟨r.nz o ho,fun z=>q ⟨o,ho,z⟩⟩
  rw[ov r h,nJ]at this;cases this
theorem wc{R R':List Nat}(r:Red R)(r':Red R')(h:∀a,Sp R a↔Sp R' a){a:Nat}(ha:a∈R):a∈R':=by
 obtain⟨b,hb,e⟩:=sO r' ((h a).mp (.one ha)) (r.nz a ha);have s:Sp R (a ^^^ b):=(Sp.one ha).xor ((h b).mpr (.one hb));have sym:∀{l:List Nat},Red l->∀{x y},x∈l->y∈l->x≠y->hasB x (tp y)=false:=fun{l} rl {x y} hx hy ne=>by
  have hp:=rl.pw;clear s e hb ha
  induction l with
  |nil=>cases hx
  |cons z l ih=>
   have pw':=List.pairwise_cons.mp hp;rcases List.mem_cons.mp hx with e1|hx'<;>rcases List.mem_cons.mp hy with e2|hy'
   ·exact absurd (e1.trans e2.symm) ne
   ·rw[e1];exact(pw'.1 y hy').1
   ·rw[e2];exact(pw'.1 x hx').2
   ·exact ih ⟨fun q hq=>rl.nz q (.tail _ hq),pw'.2⟩ hx' hy' pw'.2
 have z:=uk r s fun o ho=>by
  rw[cE];by_cases q:o=a
  ·subst q
   rw[eJ (r.nz o ho),<-e,eJ (r'.nz b hb)];rfl
  ·rw[sym r ha ho (Ne.symm q)]
   obtain⟨c,hc,e2⟩:=sO r' ((h o).mp (.one ho)) (r.nz o ho);have ne:c≠b:=fun y=>by
    subst y;have:=sym r ha ho (Ne.symm q);rw[<-e2,e,eJ (r.nz a ha)]at this;cases this
   rw[<-e2,sym r' hb hc (Ne.symm ne)];rfl
 have:a=b:=by
  have y:=i8 a b;rw[z,Nat.zero_xor]at y;exact y.symm
 rw[this];exact hb
theorem yN{R R' rs rs':List Nat}(r:Red R)(r':Red R')(h:∀a,Sp R a↔Sp R' a)(p:rs.Perm R)(p':rs'.Perm R')(u:rs.Pairwise (· < ·))(u':rs'.Pairwise (· < ·)):rs=rs':=
 pP u u' fun k=>⟨fun z=>p'.mem_iff.mpr (wc r r' h (p.mem_iff.mp z)),fun z=>p.mem_iff.mpr (wc r' r (fun a=>(h a).symm) (p'.mem_iff.mp z))⟩
theorem i9(u v w:Wd):ax (ax u v) w=ax u (ax v w):=by
 unfold MA.ax;have h1:=MA.d5 (u.z &&& v.x);have h2:=MA.d5 (u.z &&& w.x);have h3:=MA.d5 (v.z &&& w.x);simp only[Wd.mk.injEq];refine⟨Nat.xor_assoc _ _ _,Nat.xor_assoc _ _ _,?_⟩;rw[Ga,F9];rcases (by lia:par (u.z &&& v.x)=0\/par (u.z &&& v.x)=1)with e1|e1<;>rcases (by lia:par (u.z &&& w.x)=0\/par (u.z &&& w.x)=1)with e2|e2<;>rcases (by lia:par (v.z &&& w.x)=0\/par (v.z &&& w.x)=1)with e3|e3<;>rw[e1,e2,e3]<;>lia
theorem B0{n:Nat}{v:Wd}(h:v.ok n):ax ⟨0,0,0⟩ v=v:=by
 obtain⟨a,b,c⟩:=h;cases v with
 |mk x z s=>
  unfold MA.ax;simp only[Nat.zero_xor,Nat.zero_and,MA.cD,Nat.mul_zero,Nat.add_zero,Nat.zero_add];rw[Nat.mod_eq_of_lt c]
theorem vv{n:Nat}{v:Wd}(h:v.ok n):ax v ⟨0,0,0⟩=v:=by
 obtain⟨a,b,c⟩:=h;cases v with
 |mk x z s=>
  unfold MA.ax;simp only[Nat.xor_zero,Nat.and_zero,MA.cD,Nat.mul_zero,Nat.add_zero];rw[Nat.mod_eq_of_lt c]
inductive Gr (ks:List Wd):Wd->Prop
 |one:Gr ks ⟨0,0,0⟩
 |mul {a b:Wd}:a∈ks->Gr ks b->Gr ks (ax a b)
structure Kp (n:Nat) (ks:List Wd):Prop where
 ok:∀a∈ks,a.ok n
 str:∀a∈ks,kA a=true
 ag:∀a∈ks,∀b∈ks,agB a b=true
theorem Gr.ok{n:Nat}{ks:List Wd}(h:Kp n ks){w:Wd}(g:Gr ks w):w.ok n:=by
 induction g with
 |one=>exact sC n
 |mul a _ ih=>exact MA.be (h.ok _ a) ih
theorem ym(u:Wd):agB ⟨0,0,0⟩ u=true:=by rw[iD];exact lj u
theorem Gr.ag1{n:Nat}{ks:List Wd}(h:Kp n ks){w:Wd}(g:Gr ks w){a:Wd}(ha:a∈ks):agB w a=true:=by
 induction g with
 |one=>exact ym a
 |mul b _ ih=>rw[xV,h.ag _ b _ ha,ih];rfl
theorem Gr.in{n:Nat}{ks:List Wd}(h:Kp n ks){a:Wd}(ha:a∈ks):Gr ks a:=by
 have:=Gr.mul ha .one
 rwa [vv (h.ok a ha)]at this
theorem Gr.times{n:Nat}{ks:List Wd}(h:Kp n ks){u v:Wd}(g:Gr ks u)(g':Gr ks v):Gr ks (ax u v):=by
 induction g with
 |one=>rw[B0 (g'.ok h)];exact g'
 |mul a _ ih=>rw[i9];exact .mul a ih
noncomputable def eM(ks:List Wd)(E:Nat->Bool):Nat->Wd
 | 0=>⟨0,0,0⟩
 |m+1=>if E m then ax (eM ks E m) (ks.getD m ⟨0,0,0⟩)else eM ks E m
noncomputable def Ax(E:Nat->Bool)(j:Nat):Nat->Bool:=fun i=>if i=j then !E i else E i
theorem oy{n:Nat}{ks:List Wd}(h:Kp n ks)(E:Nat->Bool):∀m,m<=ks.length->Gr ks (eM ks E m)
 | 0,_=>.one
 |m+1,hm=>by
  unfold eM;split
  ·refine(oy h E m (by lia)).times h (Gr.in h ?_)
   rw[List.getD_eq_getElem?_getD,List.getElem?_eq_getElem (by lia)];exact List.getElem_mem _
  ·exact oy h E m (by lia)
theorem jJ{ks:List Wd}{E E':Nat->Bool}:∀m,(∀i,i<m->E i=E' i)->eM ks E m=eM ks E' m
 | 0,_=>rfl
 |m+1,h=>by
  unfold eM;rw[h m (by lia),jJ m fun i hi=>h i (by lia)]
theorem pK{n:Nat}{ks:List Wd}(h:Kp n ks)(E:Nat->Bool){j:Nat}(hj:j<ks.length):∀m,m<=ks.length->j<m->ax (ks.getD j ⟨0,0,0⟩) (eM ks E m)=eM ks (Ax E j) m
 | 0,_,h0=>absurd h0 (Nat.not_lt_zero _)
 |m+1,hm,hjm=>by
  have mem:∀{i},i<ks.length->ks.getD i ⟨0,0,0⟩∈ks:=fun hi=>by
   rw[List.getD_eq_getElem?_getD,List.getElem?_eq_getElem hi];exact List.getElem_mem _
  by_cases e:j=m
  ·subst e
   have g:=oy h E j (by lia);have com:ax (ks.getD j ⟨0,0,0⟩) (eM ks E j)=ax (eM ks E j) (ks.getD j ⟨0,0,0⟩):=(pj (h.ok _ (mem hj)) (g.ok h)).mp (by rw[iD];exact g.ag1 h (mem hj));have same:eM ks (Ax E j) j=eM ks E j:=jJ j fun i hi=>by unfold Ax;rw[if_neg (by lia)]
   have tj:Ax E j j=!E j:=by unfold Ax;rw[if_pos rfl]
   unfold eM;rw[tj,same];cases E j with
   |true=>
    simp only[Bool.not_true,Bool.false_eq_true,if_true,if_false];rw[<-i9,com,i9,str_iff.mp (h.str _ (mem hj)),vv (g.ok h)]
   |false=>
    simp only[Bool.not_false,Bool.false_eq_true,if_true,if_false];exact com
  ·have ih:=pK h E hj m (by lia) (by lia)
   have tm:Ax E j m=E m:=by unfold Ax;rw[if_neg (by lia)]
   unfold eM;rw[tm];split
   ·rw[<-i9,ih]
   ·exact ih
theorem CA{n:Nat}{ks:List Wd}(h:Kp n ks){w:Wd}(g:Gr ks w):∃E,w=eM ks E ks.length:=by
 induction g with
 |one=>
  refine⟨fun _=>false,?_⟩
  have:∀m,eM ks (fun _=>false) m=⟨0,0,0⟩:=fun m=>by
   induction m with
   |zero=>rfl
   |succ m ih=>unfold eM;simpa using ih
  exact(this _).symm
 |mul a _ ih=>
  obtain⟨E,rfl⟩:=ih;obtain⟨j,hj,rfl⟩:=List.mem_iff_getElem.mp a;refine⟨Ax E j,?_⟩;have:=pK h E hj ks.length (Nat.le_refl _) hj
  rwa [List.getD_eq_getElem?_getD,List.getElem?_eq_getElem hj]at this
noncomputable def d6(T:List (Wd×Wd)):List Wd:=T.map (·.2)
theorem Good.kp{n:Nat}{T:List (Wd×Wd)}(g:Good n T):Kp n (d6 T):=by
 refine⟨fun a ha=>?_,fun a ha=>?_,fun a ha b hb=>?_⟩
 ·obtain⟨p,hp,rfl⟩:=List.mem_map.mp ha
  exact(g.ok p hp).2.1
 ·obtain⟨p,hp,rfl⟩:=List.mem_map.mp ha
  exact(g.ok p hp).2.2
 ·obtain⟨p,hp,rfl⟩:=List.mem_map.mp ha
  obtain⟨q,hq,rfl⟩:=List.mem_map.mp hb;obtain⟨i,hi,rfl⟩:=List.mem_iff_getElem.mp hp;obtain⟨j,hj,rfl⟩:=List.mem_iff_getElem.mp hq;exact(g.ag i j _ _ (List.getElem?_eq_getElem hi) (List.getElem?_eq_getElem hj)).1
theorem Cl{T:List (Wd×Wd)}{i:Nat}(hi:i<T.length):(d6 T).getD i ⟨0,0,0⟩=T[i].2:=by
 unfold d6;rw[List.getD_eq_getElem?_getD,List.getElem?_map,List.getElem?_eq_getElem hi];rfl
theorem pJ{n:Nat}{T:List (Wd×Wd)}(g:Good n T)(E:Nat->Bool){j:Nat}(hj:j<T.length):∀m,m<=T.length->agB T[j].1 (eM (d6 T) E m)=!(E j&&decide (j<m))
 | 0,_=>by show agB T[j].1 ⟨0,0,0⟩=_;rw[lj];simp
 |m+1,hm=>by
  have ih:=pJ g E hj m (by lia);have q:=(g.ag j m _ _ (List.getElem?_eq_getElem hj) (List.getElem?_eq_getElem (by lia))).2;unfold eM;split
  ·rename_i e
   rw[eV,ih,Cl (by lia),q];by_cases z:j=m
   ·subst z;simp[e]
   ·have:(decide (j<m+1))=decide (j<m):=decide_eq_decide.mpr (by lia)
    rw[this];simp[z]
  ·rename_i e
   rw[ih];by_cases z:j=m
   ·subst z
    have:E j=false:=Bool.eq_false_iff.mpr e;simp[this]
   ·have:(decide (j<m+1))=decide (j<m):=decide_eq_decide.mpr (by lia)
    rw[this]
theorem uW{n:Nat}{T:List (Wd×Wd)}(g:Good n T){w:Wd}(h:Gr (d6 T) w)(hx:w.x=0)(hz:w.z=0):w=⟨0,0,0⟩:=by
 obtain⟨E,rfl⟩:=CA g.kp h;have ln:(d6 T).length=T.length:=List.length_map ..;rw[ln]at hx hz ⊢;have no:∀j,j<T.length->E j=false:=fun j hj=>by
  have q:=pJ g E hj T.length (Nat.le_refl _);have z:agB T[j].1 (eM (d6 T) E T.length)=true:=by
   unfold agB;rw[hx,hz,Nat.and_zero,Nat.and_zero];simp
  rw[z,decide_eq_true hj]at q;simpa using q.symm
 rw[jJ (E':=fun _=>false) T.length no];have:∀m,eM (d6 T) (fun _=>false) m=⟨0,0,0⟩:=fun m=>by
  induction m with
  |zero=>rfl
  |succ m ih=>unfold eM;simpa using ih
 exact this _
noncomputable def tw(n:Nat)(w:Wd):Nat:=2^n*w.x+w.z
theorem q9{n:Nat}{w:Wd}(h:w.ok n)(i:Nat):(tw n w).testBit i=if i<n then w.z.testBit i else w.x.testBit (i-n):=by
 unfold tw;exact Nat.testBit_two_pow_mul_add w.x h.2.1 i
theorem lC{n:Nat}{u v:Wd}(hu:u.ok n)(hv:v.ok n):tw n (ax u v)=tw n u ^^^ tw n v:=by
 apply Nat.eq_of_testBit_eq;intro i;rw[Nat.testBit_xor,q9 (MA.be hu hv),q9 hu,q9 hv];unfold MA.ax;dsimp only;split
 ·rw[Nat.testBit_xor]
 ·rw[Nat.testBit_xor]
theorem om{n:Nat}{w:Wd}(h:tw n w=0):w.x=0/\w.z=0:=by
 unfold tw at h;have p:=Nat.two_pow_pos n;have h1:w.z=0:=by lia
 have h2:2^n*w.x=0:=by lia
 rcases Nat.mul_eq_zero.mp h2 with q|q
 ·lia
 ·exact⟨q,h1⟩
noncomputable def iE(n:Nat)(told:List Wd)(t:Wd):Wd:=told.foldl (fun t o=>if hasB (tw n t) (tp (tw n o))then ax t o else t) t
noncomputable def mJ(n:Nat)(told:List Wd)(a:Wd):List Wd:=if tw n (iE n told a)=0 then told else(told.map fun o=>if hasB (tw n o) (tp (tw n (iE n told a)))then ax o (iE n told a)else o)++[iE n told a]
noncomputable def px(n:Nat)(l:List Wd):List Wd:=l.foldl (mJ n) []
theorem lm(n:Nat)(o:Wd)(l:List Wd)(t:Wd):iE n (o::l) t=iE n l (if hasB (tw n t) (tp (tw n o))then ax t o else t):=rfl
theorem sH{n:Nat}{P:Wd->Prop}(hP:∀u v,P u->P v->P (ax u v)):∀(l:List Wd) (t:Wd),(∀o∈l,P o)->P t->P (iE n l t)
 |[],_,_,h=>h
 |o::l,t,h,ht=>by
  rw[lm];refine sH hP l _ (fun a ha=>h a (.tail _ ha)) ?_
  split
  ·exact hP _ _ ht (h o (.head _))
  ·exact ht
theorem vA{n:Nat}{P:Wd->Prop}(hP:∀u v,P u->P v->P (ax u v)){l:List Wd}{a:Wd}(h:∀o∈l,P o)(ha:P a):∀o∈mJ n l a,P o:=by
 have hu:=sH (n:=n) hP l a h ha;unfold mJ;split
 ·exact h
 ·intro o ho
  rcases List.mem_append.mp ho with ho|ho
  ·obtain⟨q,hq,rfl⟩:=List.mem_map.mp ho
   split
   ·exact hP _ _ (h q hq) hu
   ·exact h q hq
  ·rw[List.mem_singleton.mp ho];exact hu
theorem vy{n:Nat}{P:Wd->Prop}(hP:∀u v,P u->P v->P (ax u v)):∀(ls l:List Wd),(∀o∈l,P o)->(∀o∈ls,P o)->∀o∈ls.foldl (mJ n) l,P o
 |[],l,h,_=>h
 |a::ls,l,h,hl=>by
  rw[List.foldl_cons];exact vy hP ls _ (vA hP h (hl a (.head _))) fun o ho=>hl o (.tail _ ho)
theorem vB{n:Nat}:∀(l:List Wd) (t:Wd),(∀o∈l,o.ok n)->t.ok n->tw n (iE n l t)=clr1 (l.map (tw n)) (tw n t)
 |[],_,_,_=>rfl
 |o::l,t,h,ht=>by
  rw[lm,List.map_cons,bE];have ho:=h o (.head _);rw[vB l _ (fun a ha=>h a (.tail _ ha)) (by split;exact MA.be ht ho;exact ht)]
  split
  ·rw[lC ht ho]
  ·rfl
theorem vz{n:Nat}{l:List Wd}{a:Wd}(h:∀o∈l,o.ok n)(ha:a.ok n):(mJ n l a).map (tw n)=iV (l.map (tw n)) (tw n a):=by
 have e:=vB l a h ha;have uo:(iE n l a).ok n:=sH (P:=fun w=>w.ok n) (fun _ _=>MA.be) l a h ha;unfold mJ iV;rw[<-e];split
 ·rfl
 ·rw[List.map_append,List.map_map,List.map_map]
  congr 1;refine List.map_congr_left fun o ho=>?_
  show tw n (if _ then _ else _)=if hasB (tw n o) _ then _ else _
  split
  ·rw[lC (h o ho) uo]
  ·rfl
theorem sG{n:Nat}:∀(ls l:List Wd),(∀o∈l,o.ok n)->(∀o∈ls,o.ok n)->(ls.foldl (mJ n) l).map (tw n)=(ls.map (tw n)).foldl iV (l.map (tw n))
 |[],l,_,_=>rfl
 |a::ls,l,h,hl=>by
  rw[List.foldl_cons,List.map_cons,List.foldl_cons,<-vz h (hl a (.head _))];exact sG ls _ (vA (P:=fun w=>w.ok n) (fun _ _=>MA.be) h (hl a (.head _))) fun o ho=>hl o (.tail _ ho)
theorem pv{n:Nat}{T:List (Wd×Wd)}(g:Good n T):∀m,m<=T.length->(((d6 T).take m).foldl (mJ n) []).length=m/\∀o∈((d6 T).take m).foldl (mJ n) [],∀j (hj:j<T.length),m<=j->agB T[j].1 o=true
 | 0,_=>⟨rfl,fun o ho=>nomatch ho⟩
 |m+1,hm=>by
  obtain⟨l1,l2⟩:=pv g m (by lia);have hk:(d6 T)[m]? = some T[m].2:=by unfold d6;rw[List.getElem?_map,List.getElem?_eq_getElem (by lia)];rfl
  have et:(d6 T).take (m+1)=(d6 T).take m++[T[m].2]:=by rw[List.take_succ,hk];rfl
  rw[et,List.foldl_append];show(mJ n _ T[m].2).length=_/\∀o∈mJ n _ T[m].2,_;generalize hL:((d6 T).take m).foldl (mJ n) []=L at l1 l2;have ag:∀j (hj:j<T.length),agB T[j].1 T[m].2=!decide (j=m):=fun j hj=>(g.ag j m _ _ (List.getElem?_eq_getElem hj) (List.getElem?_eq_getElem (by lia))).2
  have key:∀j (hj:j<T.length),m<=j->∀(l:List Wd) (t:Wd),(∀o∈l,agB T[j].1 o=true)->agB T[j].1 (iE n l t)=agB T[j].1 t:=fun j hj _ l=>by
   induction l with
   |nil=>intro t _;rfl
   |cons o l ih=>
    intro t h;rw[lm,ih _ fun a ha=>h a (.tail _ ha)]
    split
    ·rw[eV,h o (.head _)];cases agB T[j].1 t<;>rfl
    ·rfl
  have nz:¬tw n (iE n L T[m].2)=0:=fun z=>by
   obtain⟨zx,zz⟩:=om z;have q:=key m (by lia) (Nat.le_refl _) L T[m].2 fun o ho=>l2 o ho m (by lia) (Nat.le_refl _)
   rw[ag m (by lia)]at q;unfold agB at q;rw[zx,zz,Nat.and_zero,Nat.and_zero]at q;simp at q
  unfold mJ;rw[if_neg nz];refine⟨by rw[List.length_append,List.length_map,l1];rfl,fun o ho j hj mj=>?_⟩
  have hu:agB T[j].1 (iE n L T[m].2)=true:=by
   rw[key j hj (by lia) L _ fun o ho=>l2 o ho j hj (by lia),ag j hj,decide_eq_false (by lia)];rfl
  rcases List.mem_append.mp ho with ho|ho
  ·obtain⟨q,hq,rfl⟩:=List.mem_map.mp ho
   split
   ·rw[eV,l2 q hq j hj (by lia),hu];rfl
   ·exact l2 q hq j hj (by lia)
  ·rw[List.mem_singleton.mp ho];exact hu
structure Wr (n:Nat) (T:List (Wd×Wd)) (R:List Wd):Prop where
 len:R.length=n
 gr:∀w∈R,Gr (d6 T) w
 red:Red (R.map (tw n))
 sp:∀w∈d6 T,Sp (R.map (tw n)) (tw n w)
theorem yn{n:Nat}{T:List (Wd×Wd)}(g:Good n T):Wr n T (px n (d6 T)):=by
 have kp:=g.kp;have e:=sG (n:=n) (d6 T) [] (fun _ h=>nomatch h) kp.ok;have e:(px n (d6 T)).map (tw n)=Gy ((d6 T).map (tw n)):=e;refine⟨?_,vy (P:=Gr (d6 T)) (fun u v=>Gr.times kp) (d6 T) [] (fun _ h=>nomatch h) fun o ho=>Gr.in kp ho,?_,fun w hw=>?_⟩
 ·have:=(pv g T.length (Nat.le_refl _)).1
  rw[show(d6 T).take T.length=d6 T from List.take_of_length_le (by unfold d6;rw[List.length_map];exact Nat.le_refl _)]at this;exact this.trans g.len
 ·rw[e];exact z7 _
 ·rw[e]
  exact(xu _ _).mpr (.one (List.mem_map_of_mem hw))
theorem Wr.perm{n:Nat}{T:List (Wd×Wd)}{R R':List Wd}(h:Wr n T R)(p:R'.Perm R):Wr n T R':=by
 have pm:(R'.map (tw n)).Perm (R.map (tw n)):=p.map _;refine⟨p.length_eq.trans h.len,fun w hw=>h.gr w (p.mem_iff.mp hw),⟨fun a ha=>h.red.nz a (pm.mem_iff.mp ha),(pm.pairwise_iff fun{a b} q=>⟨q.2,q.1⟩).mpr h.red.pw⟩,fun w hw=>(h.sp w hw).sub fun o ho=>.one (pm.mem_iff.mpr ho)⟩
noncomputable def A1(n:Nat)(k:Wd)(R:List Wd)(a:Wd):Wd:=R.foldl (fun a o=>if hasB (tw n k) (tp (tw n o))then ax a o else a) a
theorem xt{k:Nat}:∀(R:List Nat) (t:Nat),(∀a∈R,a≠0)->(R.Pairwise fun a b=>hasB a (tp b)=false/\hasB b (tp a)=false)->(∀o∈R,hasB t (tp o)=hasB k (tp o))->R.foldl (fun t o=>if hasB k (tp o)then t ^^^ o else t) t=clr1 R t
 |[],_,_,_,_=>rfl
 |o::R,t,nz,pw,h=>by
  have pw':=List.pairwise_cons.mp pw;rw[List.foldl_cons,bE,h o (.head _)];refine xt R _ (fun a ha=>nz a (.tail _ ha)) pw'.2 fun a ha=>?_
  split
  ·rw[cE,h a (.tail _ ha),(pw'.1 a ha).1];cases hasB k (tp a)<;>rfl
  ·exact h a (.tail _ ha)
theorem tM{n:Nat}(k:Wd):∀(R:List Wd) (a:Wd),(∀o∈R,o.ok n)->a.ok n->tw n (A1 n k R a)=(R.map (tw n)).foldl (fun t o=>if hasB (tw n k) (tp o)then t ^^^ o else t) (tw n a)
 |[],_,_,_=>rfl
 |o::R,a,h,ha=>by
  have ho:=h o (.head _);show tw n (A1 n k R (if _ then _ else _))=_;rw[tM k R _ (fun b hb=>h b (.tail _ hb)) (by split;exact MA.be ha ho;exact ha),List.map_cons,List.foldl_cons]
  split
  ·rw[lC ha ho]
  ·rfl
theorem u3{n:Nat}{T:List (Wd×Wd)}{R:List Wd}(g:Good n T)(r:Wr n T R){k:Wd}(hk:k∈d6 T):A1 n k R k=⟨0,0,0⟩:=by
 have kp:=g.kp;have rok:∀o∈R,o.ok n:=fun o ho=>(r.gr o ho).ok kp
 have gr:Gr (d6 T) (A1 n k R k):=by
  have:∀(l:List Wd) (a:Wd),(∀o∈l,Gr (d6 T) o)->Gr (d6 T) a->Gr (d6 T) (A1 n k l a):=fun l=>by
   induction l with
   |nil=>intro a _ h;exact h
   |cons o l ih=>
    intro a h ha;refine ih _ (fun b hb=>h b (.tail _ hb)) ?_
    dsimp only;split
    ·exact ha.times kp (h o (.head _))
    ·exact ha
  exact this R k r.gr (Gr.in kp hk)
 have z:tw n (A1 n k R k)=0:=by
  rw[tM k R k rok (kp.ok k hk),xt _ _ r.red.nz r.red.pw fun _ _=>rfl]
  exact ov r.red (r.sp k hk)
 obtain⟨zx,zz⟩:=om z;exact uW g gr zx zz
theorem yH(a h:Nat):iP (.int (a:Int)) (.int (h:Int))=some (.int ((a/2^h:Nat):Int)):=by
 rw[pI (by lia),Int.toNat_natCast];congr 2
theorem yI{a:Nat}(k:Nat)(ha:a<2^100000)(hk:k<=100000):gJ (.int (a:Int)) (.int (k:Int))=some (.int ((a*2^k:Nat):Int)):=by
 have hb:(a:Int).natAbs<2^100000:=by rw[Int.natAbs_natCast];exact ha
 have:=MA.jz hb;rw[jc (by lia) (by lia),Int.toNat_natCast];congr 2
theorem F0{n:Nat}(hn:n<=16777216):bL [.int (n:Int)]=some ((List.range n).map fun k:Nat=>PyData.int (0+(k:Int))):=jM (j:=(n:Int)) (by lia) (by lia)
theorem Cz(b k:Nat):(((b/2^k%2:Nat):Int)==1)=hasB b k:=by
 unfold hasB;rcases Nat.mod_two_eq_zero_or_one (b/2^k)with h|h<;>rw[h]<;>rfl
theorem xa(b k:Nat):jq [.int b,.int k]=some (.bool (hasB b k)):=by
 have s:=yH b k;have o:=ET (b/2^k);have h:=Cz b k;generalize b/2^k%2=z at *;generalize b/2^k=y at *;simp[jq,runB,xN,aw,s,o,h]
theorem qq{o:Nat}(h:o≠0):cG [.int (o:Int)]=some (.int ((tp o:Nat):Int)):=by
 have e:((Builtin.Int.intBits (o:Int):Nat):Int)-1=(tp o:Int):=by
  unfold Builtin.Int.intBits tp;rw[if_neg (by simpa using h),Int.natAbs_natCast]
  lia
 simp[cG,runB,i6,aw,e]
abbrev fC(n:Nat):D:=xB "<lambda> shl" (n:Int)
abbrev fW:D:=CB "word_times"
abbrev wsD(l:List Wd):List D:=l.map bU
theorem DD{n:Nat}(hn:n<=6){w:Wd}(h:w.ok n):iF (n:Int) [bU w]=some (.int ((tw n w:Nat):Int)):=by
 have l:w.x<2^100000:=Nat.lt_of_lt_of_le h.1 (Nat.pow_le_pow_right (by decide) (by lia));have s:=yI (a:=w.x) n l (by lia);show((gJ (.int (w.x:Int)) (.int (n:Int))).bind fun b=>rA b (.int (w.z:Int)))=_
 rw[s,Option.bind_some];show some (PyData.int (Builtin.bitOr ((w.x*2^n:Nat):Int) (w.z:Int)))=_;rw[MA.Dh];unfold tw;rw[Nat.mul_comm,Nat.two_pow_add_eq_or_of_lt h.2.1]
theorem o7{δ:Dv}{i n:Nat}{fs:Dv->Option (List D)}{w:Wd}(hn:n<=6)(hw:w.ok n)(h:DB δ[i]? = some (fC n))(hf:fs δ = some [bU w]):cS i fs "<lambda> shl" iF δ = some (.int ((tw n w:Nat):Int)):=by
 unfold cS oV;rw[h,Option.bind_some,u7,Option.bind_some,hf,Option.bind_some,DD hn hw]
theorem A0{δ:Dv}{i n:Nat}{fs:Dv->Option (List D)}{u v:Wd}(hn:n<=6)(hu:u.ok n)(hv:v.ok n)(h:DB δ[i]? = some fW)(hf:fs δ = some [bU u,bU v]):gR i fs (("word_times",bb)::[]) δ = some (bU (ax u v)):=by
 unfold gR oV;rw[h];simp only[Option.bind_some,uX,hf,List.lookup_cons,beq_self_eq_true];exact ua u v hn hu hv
section
variable{n:Nat}(hn:n<=6)
include hn
theorem Il(X T:Sl)(t o:Wd)(y:Sl)(ht:t.ok n)(ho:o.ok n)(h0:tw n o≠0):cU [X,.fz (fC n),.fz fW,T,.fz (bU t),.fz (bU o),y]=some (.nx,[X,.fz (fC n),.fz fW,T,.fz (bU (if hasB (tw n t) (tp (tw n o))then ax t o else t)),.fz (bU o),y]):=by
 have hb:(ob (VL.os (ae (cS 1 (ae (oV 4) (au)) "<lambda> shl" iF) (ae (VL.os (ae (cS 1 (ae (oV 5) (au)) "<lambda> shl" iF) (au)) cG) (au))) jq)) [X,.fz (fC n),.fz fW,T,.fz (bU t),.fz (bU o),y]=some (hasB (tw n t) (tp (tw n o))):=by
  have e1:cS 1 (ae (oV 4) (au)) "<lambda> shl" iF [X,.fz (fC n),.fz fW,T,.fz (bU t),.fz (bU o),y]=some (.int ((tw n t:Nat):Int)):=o7 hn ht rfl rfl;have e2:cS 1 (ae (oV 5) (au)) "<lambda> shl" iF [X,.fz (fC n),.fz fW,T,.fz (bU t),.fz (bU o),y]=some (.int ((tw n o:Nat):Int)):=o7 hn ho rfl rfl;simp only[ob,VL.os,ae,au,e1,e2,Option.bind_some,qq h0,xa];rfl
 cases h:hasB (tw n t) (tp (tw n o))with
 |true=>
  rw[h]at hb;unfold cU;rw[v6 hb];have e3:gR 2 (ae (oV 4) (ae (oV 5) (au))) (("word_times",bb)::[]) [X,.fz (fC n),.fz fW,T,.fz (bU t),.fz (bU o),y]=some (bU (ax t o)):=A0 hn ht ho rfl rfl;unfold aL;rw[e3];rfl
 |false=>
  rw[h]at hb;unfold cU;rw[pM hb];rfl
theorem qF(X T:Sl)(y:Sl):∀(l:List Wd) (t:Wd) (z:Sl),(∀o∈l,o.ok n/\tw n o≠0)->t.ok n->∃z',loop (gN 5) cU (wsD l) [X,.fz (fC n),.fz fW,T,.fz (bU t),z,y]=some (.nx,[X,.fz (fC n),.fz fW,T,.fz (bU (iE n l t)),z',y])
 |[],t,z,_,_=>⟨z,rfl⟩
 |o::l,t,z,h,ht=>by
  have ho:=h o (.head _);obtain⟨z',e⟩:=qF X T y l (if hasB (tw n t) (tp (tw n o))then ax t o else t) (.fz (bU o)) (fun a ha=>h a (.tail _ ha)) (by split;exact MA.be ht ho.1;exact ht)
  refine⟨z',?_⟩;have s:=Il hn X T t o y ht ho.1 ho.2;show((gN 5 (bU o) [X,.fz (fC n),.fz fW,T,.fz (bU t),z,y]).bind fun δ1=>(cU δ1).bind _)=_
  simp only[gN,Option.bind_some,List.set_cons_succ,List.set_cons_zero];rw[s];exact e
theorem Ij(X z5:Sl)(told:List Wd)(t:Wd)(top:Nat)(hl:told.length<=1000)(ho:∀o∈told,o.ok n)(ht:t.ok n):iQ [X,.fz (fC n),.fz fW,.fz (.list (wsD told)),.fz (bU t),z5,.fz (.int (top:Int))]=some (.list (wsD (told.map fun o=>if hasB (tw n o) top then ax o t else o))):=by
 have e:wsD (told.map fun o=>if hasB (tw n o) top then ax o t else o)=told.map fun o=>bU (if hasB (tw n o) top then ax o t else o):=by unfold wsD;rw[List.map_map];rfl
 rw[e];unfold iQ;refine dA (h:=bU) (xs:=told) rfl (by lia) fun o hm=>?_
 have oo:=ho o hm;show vo _ _ _ [.fz (bU o),.fz (fC n),.fz fW,.fz (bU t),.fz (.int (top:Int))]=_;have e1:cS 1 (ae (oV 0) (au)) "<lambda> shl" iF [.fz (bU o),.fz (fC n),.fz fW,.fz (bU t),.fz (.int (top:Int))]=some (.int ((tw n o:Nat):Int)):=o7 hn oo rfl rfl;have e3:gR 2 (ae (oV 0) (ae (oV 3) (au))) (("word_times",bb)::[]) [.fz (bU o),.fz (fC n),.fz fW,.fz (bU t),.fz (.int (top:Int))]=some (bU (ax o t)):=A0 hn oo ht rfl rfl;have e2:oV 4 [.fz (bU o),.fz (fC n),.fz fW,.fz (bU t),.fz (.int (top:Int))]=some (.int (top:Int)):=rfl;have e0:oV 0 [.fz (bU o),.fz (fC n),.fz fW,.fz (bU t),.fz (.int (top:Int))]=some (bU o):=rfl;have hb:ob (VL.os (ae (cS 1 (ae (oV 0) (au)) "<lambda> shl" iF) (ae (oV 4) (au))) jq) [.fz (bU o),.fz (fC n),.fz fW,.fz (bU t),.fz (.int (top:Int))]=some (hasB (tw n o) top):=by
  simp only[ob,VL.os,ae,au,e1,e2,Option.bind_some,xa];rfl
 unfold vo;rw[hb];cases h:hasB (tw n o) top with
 |true=>exact e3
 |false=>exact e0
end
def TS(S:Sl)(told:List Wd):Prop:=S=.ow (wsD told)\/S=.fz (.list (wsD told))
section
variable{n:Nat}(hn:n<=6)
include hn
theorem Ik(X S:Sl)(told:List Wd)(a:Wd)(z5 z6:Sl)(hS:TS S told)(nz:∀o∈told,o.ok n/\tw n o≠0)(ha:a.ok n)(hl:told.length<=1000):∃S' y5 y6,TS S' (mJ n told a)/\eS [X,.fz (fC n),.fz fW,S,.fz (bU a),z5,z6]=some (.nx,[X,.fz (fC n),.fz fW,S',.fz (bU (iE n told a)),y5,y6]):=by
 have hd:qx 3 [X,.fz (fC n),.fz fW,S,.fz (bU a),z5,z6]=[X,.fz (fC n),.fz fW,.fz (.list (wsD told)),.fz (bU a),z5,z6]:=by rcases hS with rfl|rfl<;>rfl
 obtain⟨z',e⟩:=qF hn X (.fz (.list (wsD told))) z6 told a z5 nz ha;have uo:(iE n told a).ok n:=sH (P:=fun w=>w.ok n) (fun _ _=>MA.be) told a (fun o ho=>(nz o ho).1) ha
 have e1:(fun δ=>(jL (oI (oV 3) eY) (gN 5) (cU)) (qx 3 δ)) [X,.fz (fC n),.fz fW,S,.fz (bU a),z5,z6]=some (.nx,[X,.fz (fC n),.fz fW,.fz (.list (wsD told)),.fz (bU (iE n told a)),z',z6]):=by
  show jL _ _ _ (qx 3 _)=_;rw[hd];unfold jL;rw[show(oI (oV 3) eY) [X,.fz (fC n),.fz fW,.fz (.list (wsD told)),.fz (bU a),z5,z6]=some (wsD told)from rfl];exact e
 have c1:cS 1 (ae (oV 4) (au)) "<lambda> shl" iF [X,.fz (fC n),.fz fW,.fz (.list (wsD told)),.fz (bU (iE n told a)),z',z6]=some (.int ((tw n (iE n told a):Nat):Int)):=o7 hn uo rfl rfl;unfold eS;by_cases ht:tw n (iE n told a)=0
 ·refine⟨.fz (.list (wsD told)),z',z6,.inr (by unfold mJ;rw[if_pos ht]),(gg e1).trans ((pM ?_).trans rfl)⟩
  simp only[ob,o2,c1,ht,oC,Option.bind_some];rfl
 ·refine⟨.ow (wsD (mJ n told a)),z',.fz (.int ((tp (tw n (iE n told a)):Nat):Int)),.inl rfl,(gg e1).trans ((v6 ?_).trans ((gg (δ':=[X,.fz (fC n),.fz fW,.fz (.list (wsD told)),.fz (bU (iE n told a)),z',.fz (.int ((tp (tw n (iE n told a)):Nat):Int))]) ?_).trans ((gg (δ':=[X,.fz (fC n),.fz fW,.ow (wsD (told.map fun o=>if hasB (tw n o) (tp (tw n (iE n told a)))then ax o (iE n told a)else o)),.fz (bU (iE n told a)),z',.fz (.int ((tp (tw n (iE n told a)):Nat):Int))]) ?_).trans ?_)))⟩
  ·simp only[ob,o2,c1,oC,Option.bind_some]
   simp[ht]
  ·unfold aL VL.os
   simp only[ae,au,c1,Option.bind_some,qq ht];rfl
  ·unfold sQ Fa
   rw[Ij hn X z' told (iE n told a) (tp (tw n (iE n told a))) hl (fun o ho=>(nz o ho).1) uo]
   rfl
  ·unfold mJ
   rw[if_neg ht];generalize hM:(told.map fun o=>if hasB (tw n o) (tp (tw n (iE n told a)))then ax o (iE n told a)else o)=M
   have ml:M.length=told.length:=by rw[<-hM,List.length_map]
   have hl':(wsD M).length<sizeLine:=by unfold wsD;rw[List.length_map];unfold sizeLine;lia
   have ap:wsD (M++[iE n told a])=wsD M++[bU (iE n told a)]:=by unfold wsD;rw[List.map_append];rfl
   rw[ap];generalize wsD M=L at hl';simp[pN,hl']
end
theorem yo(n:Nat)(l:List Wd)(a:Wd):(mJ n l a).length<=l.length+1:=by
 unfold mJ;split
 ·lia
 ·simp
theorem Ba{n:Nat}{l:List Wd}{a:Wd}(h:∀o∈l,o.ok n)(r:Red (l.map (tw n)))(ha:a.ok n):Red ((mJ n l a).map (tw n)):=by
 rw[vz h ha];exact qB r _
theorem qE{n:Nat}(hn:n<=6)(X:Sl):∀(ts told:List Wd) (S z4 z5 z6:Sl),TS S told->(∀o∈told,o.ok n)->Red (told.map (tw n))->(∀o∈ts,o.ok n)->told.length+ts.length<=1000->∃S' y4 y5 y6,TS S' (ts.foldl (mJ n) told)/\loop (gN 4) eS (wsD ts) [X,.fz (fC n),.fz fW,S,z4,z5,z6]=some (.nx,[X,.fz (fC n),.fz fW,S',y4,y5,y6])
 |[],told,S,z4,z5,z6,hS,_,_,_,_=>⟨S,z4,z5,z6,hS,rfl⟩
 |a::ts,told,S,z4,z5,z6,hS,ho,hr,hts,hl=>by
  rw[List.length_cons]at hl;have ha:=hts a (.head _);obtain⟨S1,y5,y6,h1,e1⟩:=Ik hn X S told a z5 z6 hS (fun o h=>⟨ho o h,hr.nz _ (List.mem_map_of_mem h)⟩) ha (by lia)
  obtain⟨S2,w4,w5,w6,h2,e2⟩:=qE hn X ts (mJ n told a) S1 (.fz (bU (iE n told a))) y5 y6 h1 (vA (P:=fun w=>w.ok n) (fun _ _=>MA.be) ho ha) (Ba ho hr ha) (fun o h=>hts o (.tail _ h)) (by have:=yo n told a;lia)
  refine⟨S2,w4,w5,w6,h2,?_⟩;show((gN 4 (bU a) [X,.fz (fC n),.fz fW,S,z4,z5,z6]).bind fun δ1=>(eS δ1).bind _)=_
  simp only[gN,Option.bind_some,List.set_cons_succ,List.set_cons_zero];rw[e1];exact e2
theorem r8{n:Nat}(hn:n<=6)(ts:List Wd)(hts:∀o∈ts,o.ok n)(hl:ts.length<=1000):eI [.list (wsD ts),fC n,fW]=some (.list (wsD (px n ts))):=by
 obtain⟨S,y4,y5,y6,hS,e⟩:=qE hn (.fz (.list (wsD ts))) ts [] (.ow []) .un .un .un (.inl rfl) (fun _ h=>nomatch h) ⟨(fun _ h=>nomatch h),.nil⟩ hts (by simpa using hl);have hd:qx 3 [.fz (.list (wsD ts)),.fz (fC n),.fz fW,S,y4,y5,y6]=[.fz (.list (wsD ts)),.fz (fC n),.fz fW,.fz (.list (wsD (px n ts))),y4,y5,y6]:=by rcases hS with rfl|rfl<;>rfl
 refine zl rfl (δ':=[.fz (.list (wsD ts)),.fz (fC n),.fz fW,.fz (.list (wsD (px n ts))),y4,y5,y6]) ?_;unfold j6;refine(gg (δ':=[.fz (.list (wsD ts)),.fz (fC n),.fz fW,.ow [],.un,.un,.un]) rfl).trans ((gg (δ':=[.fz (.list (wsD ts)),.fz (fC n),.fz fW,S,y4,y5,y6]) ?_).trans ?_)
 ·unfold jL
  rw[show(oI (oV 0) eY) [.fz (.list (wsD ts)),.fz (fC n),.fz fW,.ow [],.un,.un,.un]=some (wsD ts)from rfl];exact e
 ·show(aV (oV 3)) (qx 3 _)=_
  rw[hd];rfl
noncomputable def kW(w:Wd):List bf:=[.inl (w.x:Int),.inl (w.z:Int),.inl (w.s:Int)]
noncomputable def yr:List bf->Wd
 |[.inl x,.inl z,.inl s]=>⟨x.toNat,z.toNat,s.toNat⟩
 |_=>⟨0,0,0⟩
theorem ol(w:Wd):yr (kW w)=w:=by cases w;rfl
theorem Cs{u v:Wd}(h:kW u=kW v):u=v:=by rw[<-ol u,h,ol]
theorem qj:∀R:List Wd,nB (wsD R)=some (R.map kW)
 |[]=>rfl
 |w::R=>by
  show(El (bU w)).bind (fun k=>(nB (wsD R)).bind fun l=>some (k::l))=_
  rw[qj R];rfl
theorem zD(R:List Wd):((R.map kW).map fun k=>(PyData.tuple (k.map nD):D))=wsD R:=by
 rw[List.map_map];rfl
theorem Ch{n:Nat}{a b:Wd}(ha:a.ok n)(hb:b.ok n)(h:dz (kW a) (kW b)=false):tw n b<=tw n a:=by
 refine Nat.le_of_not_lt fun lt=>?_
 have q:dz (kW a) (kW b)=true:=by
  unfold kW;simp only[dz,fP];unfold tw at lt;have h1:=ha.2.1;have h2:=hb.2.1;by_cases ex:a.x=b.x
  ·rw[if_pos (by rw[ex])]
   by_cases ez:a.z=b.z
   ·rw[ex,ez]at lt;lia
   ·rw[if_neg (by intro z;injection z with z;lia)]
    rw[ex]at lt;exact decide_eq_true (by lia)
  ·rw[if_neg (by intro z;injection z with z;lia)]
   refine decide_eq_true ?_;have:a.x<b.x:=by
    refine Nat.lt_of_not_le fun z=>?_
    have:b.x+1<=a.x:=by lia
    have m:=Nat.mul_le_mul_left (2^n) this;rw[Nat.mul_add]at m
    lia
   lia
 rw[q]at h;cases h
theorem BD{l:List Nat}(h:Red l):l.Nodup:=by
 refine h.pw.imp_of_mem fun{a b} ha hb q z=>?_
 rw[z,eJ (h.nz b hb)]at q;cases q.1
theorem ul{n:Nat}{R:List Wd}(ok:∀w∈R,w.ok n)(red:Red (R.map (tw n)))(hl:R.length<64):∃R':List Wd,R'.Perm R/\(R'.map (tw n)).Pairwise (· > ·)/\lF (.list (wsD R))=some (.list (wsD R')):=by
 have ndt:=BD red;have nd:R.Nodup:=by
  have:=List.pairwise_map.mp ndt;exact this.imp fun{a b} q z=>q (by rw[z])
 have ndk:(R.map kW).Nodup:=List.pairwise_map.mpr (nd.imp fun{a b} q z=>q (Cs z))
 have al:(R.map kW).all pi=true:=List.all_eq_true.mpr fun k hk=>by
  obtain⟨w,_,rfl⟩:=List.mem_map.mp hk;rfl
 have pm:=gY (R.map kW);have back:∀k∈b8 (R.map kW),kW (yr k)=k:=fun k hk=>by
  obtain⟨w,_,rfl⟩:=List.mem_map.mp (pm.mem_iff.mp hk);rw[ol]
 have e1:((b8 (R.map kW)).map yr).map kW=b8 (R.map kW):=by
  rw[List.map_map]
  conv=>rhs;rw[<-List.map_id (b8 (R.map kW))]
  exact List.map_congr_left back
 have p1:((b8 (R.map kW)).map yr).Perm R:=by
  have:=pm.map yr;rw[List.map_map]at this;have e:R.map (yr ∘ kW)=R:=by
   conv=>rhs;rw[<-List.map_id R]
   exact List.map_congr_left fun w _=>ol w
  rwa [e]at this
 refine⟨((b8 (R.map kW)).map yr).reverse,(List.reverse_perm _).trans p1,?_,?_⟩
 ·have pw:=jU (R.map kW)
  rw[<-e1]at pw;have pw:=List.pairwise_map.mp pw;rw[List.map_reverse,List.pairwise_reverse,List.pairwise_map];have nd2:(((b8 (R.map kW)).map yr).map (tw n)).Nodup:=(p1.map (tw n)).nodup_iff.mpr ndt;have nd2:=List.pairwise_map.mp nd2;refine List.Pairwise.imp_of_mem ?_ (pw.and nd2);intro a b ha hb ⟨q,ne⟩;have:=Ch (n:=n) (ok b (p1.mem_iff.mp hb)) (ok a (p1.mem_iff.mp ha)) q;show tw n b>tw n a
  lia
 ·unfold lF
  show(nB (wsD R)).bind _=_;rw[qj,Option.bind_some,if_pos ⟨al,ndk,by rw[List.length_map];exact hl⟩];have:(b8 (R.map kW)).reverse=(((b8 (R.map kW)).map yr).reverse).map kW:=by rw[List.map_reverse,e1]
  rw[this,zD]
theorem lH{n:Nat}(hn:n<=6){T:List (Wd×Wd)}(g:Good n T):∃R:List Wd,Wr n T R/\(R.map (tw n)).Pairwise (· > ·)/\da [fZ T]=some (.tuple (wsD R)):=by
 have wr:=yn g;have kp:=g.kp;obtain⟨R,p,pw,e⟩:=ul (n:=n) (fun w hw=>(wr.gr w hw).ok kp) wr.red (by have:=wr.len;lia)
 refine⟨R,wr.perm p,pw,?_⟩;have ln:=zr g;have lt:T.length<=1000:=by have:=g.len;lia
 have kl:(d6 T).length<=1000:=by unfold d6;rw[List.length_map];exact lt
 have cl:=r8 hn (d6 T) kp.ok kl;have p1:gd [.fz (fZ T),.fz (.int (n:Int)),.un]=some (.list (wsD (d6 T))):=by
  have:wsD (d6 T)=T.map fun p=>bU p.2:=by unfold wsD d6;rw[List.map_map];rfl
  rw[this];unfold gd;exact dA (h:=wn) (xs:=T) rfl (by lia) fun p _=>rfl
 have tl:(wsD R).length<=sizeLine:=by
  have:=(wr.perm p).len;unfold wsD;rw[List.length_map,this,sizeLine_eq];lia
 refine zl rfl (δ':=[.fz (fZ T),.fz (.int (n:Int)),.fz (.list (wsD (px n (d6 T))))]) ?_;unfold n4;refine(gg (δ':=[.fz (fZ T),.fz (.int (n:Int)),.un]) ?_).trans ((gg (δ':=[.fz (fZ T),.fz (.int (n:Int)),.fz (.list (wsD (px n (d6 T))))]) ?_).trans ?_)
 ·unfold aL VL.os
  show((eA [fZ T]).bind _)=_;rw[ln];rfl
 ·have c:zg "<lambda> shl" 1 [.fz (fZ T),.fz (.int (n:Int)),.un]=some (fC n):=rfl
  unfold aL VL.os;simp only[ae,au,p1,c,Option.bind_some,oC,cl];rfl
 ·have:(o1 (oV 2) lF) [.fz (fZ T),.fz (.int (n:Int)),.fz (.list (wsD (px n (d6 T))))]=some (.list (wsD R)):=e
  unfold aV VL.os;simp only[ae,au,this,Option.bind_some];rfl
theorem GQ(a b c d:MA.Q4):MA.Q4.add (MA.Q4.add a b) (MA.Q4.add c d)=MA.Q4.add (MA.Q4.add a c) (MA.Q4.add b d):=by
 apply MA.Q4.ext'<;>simp only[MA.Q4.add]<;>lia
theorem p4(x y z:MA.Q4):MA.Q4.mul (MA.Q4.add x y) z=MA.Q4.add (MA.Q4.mul x z) (MA.Q4.mul y z):=by
 apply MA.Q4.ext'<;>simp only[MA.Q4.mul,MA.Q4.add]<;>grind
theorem wJ(x y z:MA.Q4):MA.Q4.mul z (MA.Q4.add x y)=MA.Q4.add (MA.Q4.mul z x) (MA.Q4.mul z y):=by
 rw[MA.Q4.mul_comm,p4,MA.Q4.mul_comm x,MA.Q4.mul_comm y]
theorem Ce(e d:Nat)(x y:MA.Q4):MA.Q4.mul (MA.df e x) (MA.df d y)=MA.df (e+d) (MA.Q4.mul x y):=by
 rw[<-MA.kR,MA.Q4.mul_comm,<-MA.kR,MA.Q4.mul_comm,<-MA.dN,Nat.add_comm]
theorem Bu(x:MA.Q4):MA.Q4.rt x=MA.Q4.add (MA.df 1 x) (MA.df 7 x):=by
 apply MA.Q4.ext'<;>simp[MA.Q4.rt,MA.Q4.add,MA.df,MA.Q4.tn]<;>lia
theorem jl{n:Nat}{r:Row}{p P E:Nat}(hP:P<2^n)(h:∀f:Nat->Nu,aB n f r p=MA.aD E (f P)):∃p1 p2 e1 e2:Nat,p1<2^n/\p2<2^n/\∀(M:Nat) (f:Nat->Nu),(∀q,(f q).2+1<=M)->MA.Q4.rt (MA.val M (aB n f r p))=MA.Q4.add (MA.df e1 (MA.val M (f p1))) (MA.df e2 (MA.val M (f p2))):=
 ⟨P,P,1+E%8,7+E%8,hP,hP,fun M f _=>by rw[h f,MA.lA,Bu,<-MA.dN,<-MA.dN]⟩
theorem Dm(u:Nu):MA.aD 0 u=u:=rfl
theorem Hj{n:Nat}(hn:n<=6){r:Row}(hr:r.ok n){p:Nat}(hp:p<2^n):∃p1 p2 e1 e2:Nat,p1<2^n/\p2<2^n/\∀(M:Nat) (f:Nat->Nu),(∀q,(f q).2+1<=M)->MA.Q4.rt (MA.val M (aB n f r p))=MA.Q4.add (MA.df e1 (MA.val M (f p1))) (MA.df e2 (MA.val M (f p2))):=by
 cases r with
 |swing j=>
  have hj:j<n:=hr;have hx:p ^^^ wt n j<2^n:=Nat.xor_lt_two_pow hp (MA.pp hj);by_cases b:ak (wt n j) p=0
  ·refine⟨p,p ^^^ wt n j,0,0,hp,hx,fun M f hf=>?_⟩
   rw[MA.kT hn hj hf hp,if_pos b];rfl
  ·refine⟨p ^^^ wt n j,p,0,4,hx,hp,fun M f hf=>?_⟩
   rw[MA.kT hn hj hf hp,if_neg b];rfl
 |turn j e=>exact jl hp fun f=>rfl
 |sign i j=>exact jl hp fun f=>rfl
 |flip j=>exact jl (MA.gj hr hp) (E:=0) fun f=>rfl
 |tie i j=>exact jl (MA.gj hr hp) (E:=0) fun f=>rfl
 |cross i j=>exact jl (MA.gj hr hp) (E:=0) fun f=>rfl
def po(n:Nat)(f g:Nat->Nu):Prop:=∀a b,a<2^n->b<2^n->MA.aK (f a) (g b)=MA.aK (f b) (g a)
theorem jB{f g:Nat->Nu}{M:Nat}(hf:∀q,(f q).2<=M)(hg:∀q,(g q).2<=M)(a b:Nat):MA.aK (f a) (g b)=MA.aK (f b) (g a)↔MA.Q4.mul (MA.val M (f a)) (MA.val M (g b))=MA.Q4.mul (MA.val M (f b)) (MA.val M (g a)):=by
 rw[<-MA.ik (hf a) (hg b),<-MA.ik (hf b) (hg a)];refine⟨fun h=>by rw[h],fun h=>MA.fV (M:=M+M) (MA.e8 _ _) (MA.e8 _ _) ?_ ?_ h⟩
 ·have:=MA.io (f a) (g b);have:=hf a;have:=hg b;lia
 ·have:=MA.io (f b) (g a);have:=hf b;have:=hg a;lia
theorem Ar{n:Nat}(hn:n<=6){r:Row}(hr:r.ok n){f g:Nat->Nu}{K:Nat}(hf:∀q,(f q).2<=K)(hg:∀q,(g q).2<=K)(h:po n f g):po n (aB n f r) (aB n g r):=fun a b ha hb=>by
 refine(jB (MA.ix n f r K hf) (MA.ix n g r K hg) a b).mpr ?_;obtain⟨p1,p2,e1,e2,h1,h2,A⟩:=Hj hn hr ha;obtain⟨q1,q2,d1,d2,k1,k2,B⟩:=Hj hn hr hb;have hf':∀q,(f q).2+1<=K+1:=fun q=>Nat.succ_le_succ (hf q)
 have hg':∀q,(g q).2+1<=K+1:=fun q=>Nat.succ_le_succ (hg q)
 have k:∀x y,x<2^n->y<2^n->MA.Q4.mul (MA.val (K+1) (f x)) (MA.val (K+1) (g y))=MA.Q4.mul (MA.val (K+1) (f y)) (MA.val (K+1) (g x)):=fun x y hx hy=>(jB (fun q=>Nat.le_succ_of_le (hf q)) (fun q=>Nat.le_succ_of_le (hg q)) x y).mp (h x y hx hy)
 refine MA.Q4.rt_inj (MA.Q4.rt_inj ?_);rw[MA.sT,MA.sT,A _ f hf',B _ g hg',B _ f hf',A _ g hg'];simp only[p4,wJ,Ce];rw[k p1 q1 h1 k1,k p1 q2 h1 k2,k p2 q1 h2 k1,k p2 q2 h2 k2,Nat.add_comm d1 e1,Nat.add_comm d1 e2,Nat.add_comm d2 e1,Nat.add_comm d2 e2];exact GQ _ _ _ _
def Uq(n:Nat)(T:List (Wd×Wd))(f:Nat->Nu):Prop:=∀g:Nat->Nu,(∀p,MA.bu (g p))->(∃K,∀q,(g q).2<=K)->(∀q∈T,∀p,p<2^n->MA.eX g q.2 p=g p)->po n f g
theorem Uq.row{n:Nat}(hn:n<=6){r:Row}(hr:r.ok n)(he:ju r){T:List (Wd×Wd)}{f:Nat->Nu}(b:Bel n T f){K:Nat}(hK:∀q,(f q).2<=K)(u:Uq n T f):Uq n (T.map (cT n r)) (aB n f r):=by
 intro g gl gb st;obtain⟨L,gL⟩:=gb;have g'l:=MA.dM gl n r.about;have g'L:=MA.ix n g r.about L gL;have back:∀x,aB n (aB n g r.about) r x=g x:=fun x=>by
  have:=MA.jY gl gL r.about (MA.Row.about_ok hr) x;rw[MA.Row.about_about hr]at this;exact this
 have st':∀q∈T,∀p,p<2^n->MA.eX (aB n g r.about) q.2 p=aB n g r.about p:=fun q hq p hp=>by
  have ok:=(b.tb.good.ok q hq).2.1;have e:∀x,x<2^n->aB n (MA.eX (aB n g r.about) q.2) r x=g x:=fun x hx=>by
   rw[MA.mn hn hr ok (bD he q.2) g'l (M:=L+2) (fun p=>Nat.succ_le_succ (g'L p)) hx,jG (fun y _=>back y) (MA.fT hr ok) x hx]
   exact st _ (List.mem_map_of_mem hq) x hx
  have u2:=MA.jY (f:=MA.eX (aB n g r.about) q.2) (MA.ii g'l q.2) (M:=L+1) (fun p=>g'L _) r hr p;rw[<-u2,iU e (MA.Row.about_ok hr) hp]
 have A:=u _ g'l ⟨_,g'L⟩ st';have B:=Ar hn hr (K:=K+L+1) (fun q=>by have:=hK q;lia) (fun q=>by have:=g'L q;lia) A;intro x y hx hy;have:=B x y hx hy;rw[back,back]at this;exact this
theorem sK(u:Nu):MA.aK u zN=zN:=by
 refine MA.fV (M:=u.2+u.2) (MA.e8 _ _) oi (by have:=MA.io u zN;have:zN.2=0:=rfl;lia) (Nat.zero_le _) ?_;rw[MA.ik (Nat.le_refl _) (Nat.zero_le _)];show MA.Q4.mul _ (MA.val u.2 (⟨0,0,0,0⟩,0))=MA.val (u.2+u.2) (⟨0,0,0,0⟩,0);rw[MA.gH,MA.gH,MA.nv]
theorem sD(u:Nu):MA.aK zN u=zN:=by
 refine MA.fV (M:=u.2+u.2) (MA.e8 _ _) oi (by have:=MA.io zN u;have:zN.2=0:=rfl;lia) (Nat.zero_le _) ?_;rw[MA.ik (Nat.zero_le _) (Nat.le_refl _)];show MA.Q4.mul (MA.val u.2 (⟨0,0,0,0⟩,0)) _=MA.val (u.2+u.2) (⟨0,0,0,0⟩,0);rw[MA.gH,MA.gH,MA.Q4.mul_comm,MA.nv]
theorem vc{n p q:Nat}(hn:n<=6)(hp:p<2^n)(hq:q<2^n)(h:∀i,i<n->ak (wt n i) p=ak (wt n i) q):p=q:=by
 refine dg (j3 hn (Nat.xor_lt_two_pow hp hq) fun i hi=>?_)
 rw[MA.aC,h i hi]
 lia
theorem Hx{n:Nat}(hn:n<=6){p:Nat}(hp:p<2^n):Uq n (mL n p) (MA.du p):=by
 intro g gl _ st;have z:∀q,q<2^n->q≠p->g q=zN:=fun q hq ne=>by
  by_cases h:∀i,i<n->ak (wt n i) q=ak (wt n i) p
  ·exact absurd (vc hn hq hp h) ne
  ·obtain⟨i,hi⟩:=Classical.not_forall.mp h
   obtain⟨hi,hb⟩:=Classical.not_imp.mp hi;have e:=st (⟨wt n i,0,0⟩,⟨0,wt n i,2*ak (wt n i) p⟩) (List.mem_map.mpr ⟨i,List.mem_range.mpr hi,rfl⟩) q hq;have e:MA.eX g (Gi n i (ak (wt n i) p)) q=g q:=e;rw[wP hn hi _ _ hq]at e;have:=MA.bA (wt n i) q;have:=MA.bA (wt n i) p;rw[cy (b:=4) (by lia)]at e;exact p0 (gl q) e
 have o:∀q,q≠p->MA.du p q=zN:=fun q ne=>by unfold MA.du;rw[if_neg ne];rfl
 intro a b ha hb;by_cases ea:a=p
 ·by_cases eb:b=p
  ·rw[ea,eb]
  ·rw[o b eb,z b hb eb,sK,sD]
 ·rw[o a ea,z a ha ea,sK,sD]
noncomputable def sm(c:Int)(u:MA.Q4):MA.Q4:=⟨c*u.a,c*u.b,c*u.c,c*u.d⟩
theorem Hk:∀(m:Nat) (p q:Int),q.natAbs<=m->p*p=2*(q*q)->q=0
 | 0,p,q,h,_=>by lia
 |m+1,p,q,h,e=>by
  have par:p%2=0:=by
   have h2:p*p%2=0:=by rw[e];lia
   rw[Int.mul_emod]at h2;rcases (by lia:p%2=0\/p%2=1)with z|z
   ·exact z
   ·rw[z]at h2;lia
  obtain⟨r,rfl⟩:∃r,p=2*r:=⟨p/2,by lia⟩;have e2:q*q=2*(r*r):=by
   have:2*r*(2*r)=2*(2*(r*r)):=by grind
   rw[this]at e
   lia
  by_cases z:q=0
  ·exact z
  ·have lt:r.natAbs<=m:=by
    apply Nat.le_of_lt_succ;apply Nat.lt_of_not_le;intro ge;have g1:q.natAbs*q.natAbs<=r.natAbs*r.natAbs:=Nat.mul_le_mul (by lia) (by lia);have g2:q.natAbs*q.natAbs=2*(r.natAbs*r.natAbs):=by
     rw[<-Int.natAbs_mul,<-Int.natAbs_mul,e2,Int.natAbs_mul];rfl
    have g3:0<q.natAbs*q.natAbs:=Nat.mul_pos (by lia) (by lia)
    lia
   have r0:=Hk m q r lt e2;subst r0;have:q*q=0:=by rw[e2];rfl
   exact(Int.mul_eq_zero.mp this).elim id id
noncomputable def nN(s:MA.S2):Int:=s.p*s.p-2*(s.q*s.q)
theorem Ef{s:MA.S2}(h:s.p≠0):nN s≠0:=fun z=>by
 have e:s.p*s.p=2*(s.q*s.q):=by unfold nN at z;lia
 have q0:=Hk s.q.natAbs s.p s.q (Nat.le_refl _) e;rw[q0]at e;exact h ((Int.mul_eq_zero.mp e).elim id id)
theorem Cb{u:MA.Q4}(h:u≠⟨0,0,0,0⟩):(MA.nrm u).p≠0:=fun z=>h (MA.wI z)
theorem rM{u x y:MA.Q4}(hu:u≠⟨0,0,0,0⟩)(h:MA.Q4.mul u x=MA.Q4.mul u y):x=y:=by
 have n:=Ef (Cb hu);have k:MA.Q4.mul (MA.AZ (MA.nrm u)) x=MA.Q4.mul (MA.AZ (MA.nrm u)) y:=by
  rw[<-MA.zn,MA.Q4.mul_comm u,MA.Q4.mul_assoc,MA.Q4.mul_assoc,h]
 generalize MA.nrm u=s at n k;have k2:=congrArg (MA.Q4.mul (MA.AZ ⟨s.p,-s.q⟩)) k;rw[<-MA.Q4.mul_assoc,<-MA.Q4.mul_assoc]at k2;have e:MA.Q4.mul (MA.AZ ⟨s.p,-s.q⟩) (MA.AZ s)=⟨nN s,0,0,0⟩:=by
  apply MA.Q4.ext'<;>simp only[MA.Q4.mul,MA.AZ,nN]<;>grind
 rw[e]at k2;have f:∀z:MA.Q4,MA.Q4.mul ⟨nN s,0,0,0⟩ z=sm (nN s) z:=fun z=>by apply MA.Q4.ext'<;>simp[MA.Q4.mul,sm]
 rw[f,f]at k2;have inj:∀{a b:Int},nN s*a=nN s*b->a=b:=fun e=>Int.eq_of_mul_eq_mul_left n e
 exact MA.Q4.ext' (inj (congrArg MA.Q4.a k2)) (inj (congrArg MA.Q4.b k2)) (inj (congrArg MA.Q4.c k2)) (inj (congrArg MA.Q4.d k2))
theorem pq(f:Nat->Nu)(p:Nat):MA.eX f ⟨0,0,0⟩ p=f p:=by
 show MA.aD (2*0+4*par ((p ^^^ 0) &&& 0)) (f (p ^^^ 0))=f p;rw[Nat.and_zero,MA.cD,Nat.xor_zero];rfl
def fB(n:Nat)(f:Nat->Nu)(w:Wd):Prop:=∀p,p<2^n->MA.eX f w p=f p
theorem iw{n:Nat}{T:List (Wd×Wd)}{f:Nat->Nu}(b:Bel n T f){w:Wd}(h:Gr (d6 T) w):fB n f w:=by
 induction h with
 |one=>exact fun p _=>pq f p
 |mul ha _ ih=>
  obtain⟨q,hq,rfl⟩:=List.mem_map.mp ha;exact fun p hp=>pr (b.tb.good.ok q hq).2.1 ih (b.st q hq) hp
theorem tL{n:Nat}{f:Nat->Nu}(k:Wd):∀(R:List Wd),(∀o∈R,o.ok n/\fB n f o)->∀a:Wd,a.ok n->∀p,p<2^n->MA.eX f (A1 n k R a) p=MA.eX f a p
 |[],_,_,_,_,_=>rfl
 |o::R,h,a,ha,p,hp=>by
  obtain⟨oo,ko⟩:=h o List.mem_cons_self;have ih:=tL k R (fun x hx=>h x (List.mem_cons_of_mem _ hx))
  show MA.eX f (A1 n k R (if hasB (tw n k) (tp (tw n o))then ax a o else a)) p=_;split
  ·rw[ih _ (MA.be ha oo) p hp,<-sF]
   exact jG ko ha p hp
  ·exact ih a ha p hp
theorem vD{n:Nat}{T1 T2:List (Wd×Wd)}{f1 f2:Nat->Nu}(b1:Bel n T1 f1)(u1:Uq n T1 f1)(b2:Bel n T2 f2){K:Nat}(hK:∀q,(f2 q).2<=K){R:List Wd}(r1:Wr n T1 R)(r2:Wr n T2 R):po n f1 f2:=
 u1 f2 b2.ls ⟨K,hK⟩ fun q hq p hp=>by
  have hk:q.2∈d6 T1:=List.mem_map_of_mem hq;have e:=tL (f:=f2) q.2 R (fun o ho=>⟨(r2.gr o ho).ok b2.tb.good.kp,iw b2 (r2.gr o ho)⟩) q.2 (b1.tb.good.ok q hq).2.1 p hp
  rw[u3 b1.tb.good r1 hk,pq]at e;exact e.symm
theorem Bc{M:Nat}{u:Nu}(hl:MA.bu u)(h:u≠zN)(hM:u.2<=M):MA.val M u≠⟨0,0,0,0⟩:=fun e=>h (MA.fV hl oi hM (Nat.zero_le _) (e.trans (MA.gH M).symm))
theorem qQ{n:Nat}{f1 f2:Nat->Nu}(l1:∀p,MA.bu (f1 p))(l2:∀p,MA.bu (f2 p))(nz:∃p,p<2^n/\f2 p≠zN){K:Nat}(h1:∀q,(f1 q).2<=K)(h2:∀q,(f2 q).2<=K)(A:po n f1 f2){w:Wd}(hw:w.ok n)(k:fB n f2 w):fB n f1 w:=fun p hp=>by
 obtain⟨b,hb,ne⟩:=nz;have hx:p ^^^ w.x<2^n:=Nat.xor_lt_two_pow hp hw.1;have al:=fun x y hx hy=>(jB h1 h2 x y).mp (A x y hx hy)
 refine MA.fV (M:=K) (MA.ii l1 w p) (l1 p) (h1 _) (h1 p) (rM (Bc (l2 b) ne (h2 b)) ?_);rw[MA.ja,<-MA.kR,MA.Q4.mul_comm,al _ b hx hb,MA.kR,<-MA.ja,k p hp,al b p hb hp,MA.Q4.mul_comm]
theorem Bs{E s s':Nat}{v:Nu}(hl:MA.bu v)(hv:v≠zN)(hs:s<4)(hs':s'<4)(h:MA.aD (2*s+E) v=MA.aD (2*s'+E) v):s=s':=by
 by_cases ne:s=s'
 ·exact ne
 exfalso;have e:=congrArg (MA.aD (7*(2*s'+E))) h;rw[e6,e6,cy (a:=7*(2*s'+E)+(2*s'+E)) (b:=0) (by lia),Dm,cy (b:=2*s+6*s') (by lia)]at e;have e4:MA.aD 4 v=v:=by
  by_cases c:(2*s+6*s')%8=4
  ·rw[cy (b:=4) c]at e;exact e
  ·have e2:=congrArg (MA.aD (2*s+6*s')) e
   rw[e6,e,cy (b:=4) (by lia)]at e2;exact e2
 exact hv (p0 hl e4)
theorem jT{n:Nat}{f:Nat->Nu}(hl:∀p,MA.bu (f p))(nz:∃p,p<2^n/\f p≠zN){u v:Wd}(hu:u.ok n)(hv:v.ok n)(ku:fB n f u)(kv:fB n f v)(hx:u.x=v.x)(hz:u.z=v.z):u=v:=by
 obtain⟨p,hp,ne⟩:=nz;have e:=(ku p hp).trans (kv p hp).symm;unfold MA.eX at e;rw[<-hx,<-hz]at e;have n0:f (p ^^^ u.x)≠zN:=fun z=>ne (by rw[<-ku p hp];unfold MA.eX;rw[z,ll])
 exact MA.cx hx hz (Bs (hl _) n0 hu.2.2 hv.2.2 e)
theorem nE{n:Nat}{f:Nat->Nu}{u v:Wd}(hv:v.ok n)(ku:fB n f u)(kv:fB n f v):fB n f (ax v u):=fun _ hp=>pr hv ku kv hp
theorem wl{n:Nat}{T:List (Wd×Wd)}(g:Good n T):∀(I:List Nat),(∀i∈I,i<n)->∀a:Wd,Gr (d6 T) a->Gr (d6 T) (I.foldl (fun a i=>ax a (sx T i)) a)
 |[],_,_,h=>h
 |i::I,hI,a,h=>by
  have hi:i<T.length:=by rw[g.len];exact hI i List.mem_cons_self
  refine wl g I (fun j hj=>hI j (List.mem_cons_of_mem _ hj)) _ (Gr.times g.kp h (Gr.in g.kp ?_))
  rw[(AA (List.getElem?_eq_getElem hi)).1];exact List.mem_map_of_mem (List.getElem_mem hi)
theorem tE{n:Nat}{T:List (Wd×Wd)}{f:Nat->Nu}(b:Bel n T f){w:Wd}(hw:w.ok n)(k:fB n f w):Gr (d6 T) w:=by
 have ag:∀p∈T,agB p.2 w=true:=fun q hq=>by
  have ok:=(b.tb.good.ok q hq).2.1;refine(pj ok hw).mpr (jT b.ls b.nz (MA.be ok hw) (MA.be hw ok) (nE ok k (b.st q hq)) (nE hw (b.st q hq) k) (Nat.xor_comm _ _) (Nat.xor_comm _ _))
 obtain⟨ex,ez⟩:=BJ b.tb hw ag;have gr:Gr (d6 T) (wm T (rQ T w n)):=wl b.tb.good _ (fun i hi=>Cn hi) _ .one;rw[<-jT b.ls b.nz (gr.ok b.tb.good.kp) hw (iw b gr) k ex ez];exact gr
theorem AU{n:Nat}{T:List (Wd×Wd)}(g:Good n T){R:List Wd}(r:Wr n T R){w:Wd}(h:Gr (d6 T) w):Sp (R.map (tw n)) (tw n w):=by
 induction h with
 |one=>exact .zero
 |mul ha hb ih=>
  rw[lC (g.kp.ok _ ha) (hb.ok g.kp)];exact(r.sp _ ha).xor ih
theorem s9{β:Type}{h:Wd -> β}:∀(l1 l2:List Wd),l1.map h=l2.map h->(∀u∈l1,∀v∈l2,h u=h v->u=v)->l1=l2
 |[],[],_,_=>rfl
 |[],_::_,e,_=>nomatch e
 |_::_,[],e,_=>nomatch e
 |a::l1,b::l2,e,H=>by
  obtain⟨e1,e2⟩:=List.cons.inj e;rw[H a List.mem_cons_self b List.mem_cons_self e1,s9 l1 l2 e2 fun u hu v hv=>H u (List.mem_cons_of_mem _ hu) v (List.mem_cons_of_mem _ hv)]
theorem uu{n:Nat}{T1 T2:List (Wd×Wd)}{f1 f2:Nat->Nu}(b1:Bel n T1 f1)(b2:Bel n T2 f2)(k12:∀w:Wd,w.ok n->fB n f1 w->fB n f2 w)(k21:∀w:Wd,w.ok n->fB n f2 w->fB n f1 w){R1 R2:List Wd}(r1:Wr n T1 R1)(r2:Wr n T2 R2)(d1:(R1.map (tw n)).Pairwise (· > ·))(d2:(R2.map (tw n)).Pairwise (· > ·)):R1=R2:=by
 have g1:=b1.tb.good;have g2:=b2.tb.good;have g12:∀w,Gr (d6 T1) w->Gr (d6 T2) w:=fun w h=>tE b2 (h.ok g1.kp) (k12 w (h.ok g1.kp) (iw b1 h))
 have g21:∀w,Gr (d6 T2) w->Gr (d6 T1) w:=fun w h=>tE b1 (h.ok g2.kp) (k21 w (h.ok g2.kp) (iw b2 h))
 have sp:∀a,Sp (R1.map (tw n)) a↔Sp (R2.map (tw n)) a:=fun a=>⟨Sp.sub fun o ho=>by
   obtain⟨w,hw,rfl⟩:=List.mem_map.mp ho;exact AU g2 r2 (g12 w (r1.gr w hw)),Sp.sub fun o ho=>by
   obtain⟨w,hw,rfl⟩:=List.mem_map.mp ho;exact AU g1 r1 (g21 w (r2.gr w hw))⟩
 have e:=yN r1.red r2.red sp (List.reverse_perm _) (List.reverse_perm _) (List.pairwise_reverse.mpr d1) (List.pairwise_reverse.mpr d2);refine s9 R1 R2 (List.reverse_inj.mp e) fun u hu v hv t=>?_
 have gu:=g12 u (r1.gr u hu);have gv:=r2.gr v hv;have z:tw n (ax u v)=0:=by rw[lC (gu.ok g2.kp) (gv.ok g2.kp),t,Nat.xor_self]
 obtain⟨zx,zz⟩:=om z;exact jT b2.ls b2.nz (gu.ok g2.kp) (gv.ok g2.kp) (iw b2 gu) (iw b2 gv) (dg zx) (dg zz)
theorem xR{n:Nat}{f g:Nat->Nu}{K:Nat}(hf:∀q,(f q).2<=K)(hg:∀q,(g q).2<=K)(A:po n f g):po n g f:=fun a b ha hb=>by
 refine(jB hg hf a b).mpr ?_;rw[MA.Q4.mul_comm,<-(jB hf hg a b).mp (A a b ha hb),MA.Q4.mul_comm]
theorem vY{n:Nat}{T1 T2:List (Wd×Wd)}{f1 f2:Nat->Nu}(b1:Bel n T1 f1)(u1:Uq n T1 f1)(b2:Bel n T2 f2){K:Nat}(h1:∀q,(f1 q).2<=K)(h2:∀q,(f2 q).2<=K){R1 R2:List Wd}(r1:Wr n T1 R1)(r2:Wr n T2 R2)(d1:(R1.map (tw n)).Pairwise (· > ·))(d2:(R2.map (tw n)).Pairwise (· > ·)):R1=R2↔po n f1 f2:=by
 refine⟨fun e=>?_,fun A=>?_⟩
 ·subst e
  exact vD b1 u1 b2 h2 r1 r2
 ·exact uu b1 b2 (fun w hw k=>qQ b2.ls b1.ls b1.nz h2 h1 (xR h1 h2 A) hw k) (fun w hw k=>qQ b1.ls b2.ls b2.nz h1 h2 A hw k) r1 r2 d1 d2
theorem AC(R:List Wd):MA.Sh 2 (.tuple (wsD R)):=MA.Sh.tuple fun x hx=>by
 obtain⟨w,_,rfl⟩:=List.mem_map.mp hx;exact HI _ _ _
theorem CI(u v:Wd):PyData.eqv (bU u) (bU v)=true↔u=v:=by
 have e:PyData.eqv (bU u) (bU v)=((u.x:Int)==(v.x:Int)&&((u.z:Int)==(v.z:Int)&&((u.s:Int)==(v.s:Int)&&true))):=by
  simp only[bU,PyData.eqv,PyData.eqvAll]
 rw[e];constructor
 ·intro t
  simp only[Bool.and_eq_true,beq_iff_eq]at t;exact MA.cx (by lia) (by lia) (by lia)
 ·intro h
  subst h;simp
theorem xn:∀a b:List Wd,PyData.eqvAll (wsD a) (wsD b)=true↔a=b
 |[],[]=>by simp[wsD,PyData.eqvAll]
 |[],_::_=>by simp[wsD,PyData.eqvAll]
 |_::_,[]=>by simp[wsD,PyData.eqvAll]
 |x::a,y::b=>by
  have ih:=xn a b;have e:=CI x y;show(PyData.eqv (bU x) (bU y)&&PyData.eqvAll (wsD a) (wsD b))=true↔_;rw[Bool.and_eq_true,e,ih];exact⟨fun h=>by rw[h.1,h.2],fun h=>List.cons.inj h⟩
theorem EG(a b:List Wd):∃c:Bool,cn (.tuple (wsD a)) (.tuple (wsD b))=some (.bool c)/\(c=true↔a=b):=by
 refine⟨PyData.eqvAll (wsD a) (wsD b),?_,xn a b⟩;unfold cn;rw[if_pos ⟨vV (AC a) (by decide),vV (AC b) (by decide)⟩];congr 2
theorem Cd(u v:Nu):∃c:Bool,neD (bT u) (bT v)=some (.bool c)/\(c=false↔u=v):=by
 refine⟨!(u.1.a==v.1.a&&(u.1.b==v.1.b&&(u.1.c==v.1.c&&(u.1.d==v.1.d&&((u.2:Int)==(v.2:Int)&&true))))),rfl,?_⟩;rw[Bool.not_eq_false'];constructor
 ·intro t
  simp only[Bool.and_eq_true,beq_iff_eq]at t;exact Prod.ext (MA.Q4.ext' t.1 t.2.1 t.2.2.1 t.2.2.2.1) (by lia)
 ·intro h
  subst h;simp
theorem DJ{n:Nat}(hn:n<=64):bL [.int (n:Int)]=some ((List.range n).map fun k:Nat=>PyData.int (k:Int)):=by
 rw[F0 (by lia)];congr 1;refine List.map_congr_left fun k _=>?_
 rw[Int.zero_add]
theorem GK(X Y a b c d s t:D)(i j:Int)(e:Bool)(h1:az X (.int i)=some a)(h2:az Y (.int j)=some b)(h3:az X (.int j)=some c)(h4:az Y (.int i)=some d)(h5:dR [a,b]=some s)(h6:dR [c,d]=some t)(h7:neD s t=some (.bool e)):bB [.fz X,.fz Y,.fz (.int i),.fz (.int j)]=some (if e=true then .rt (.bool false)else .nx,[.fz X,.fz Y,.fz (.int i),.fz (.int j)]):=by
 cases e<;>simp[-sSeq,-sIf,aG,aO,bB,h1,h2,h3,h4,h5,h6,h7]
theorem xS(X Y:D)(S:Int)(L:List D)(δ:Dv)(ln:eA [X]=some (.int S))(rn:bL [.int S]=some L)(h:loop (gN 2) aY L [.fz X,.fz Y,.un,.un]=some (.nx,δ)):bp [X,Y]=some (.bool true):=by
 simp[-sSeq,-sIf,aG,aO,bp,runB,eF,aw,ln,rn,h]
theorem xT(X Y:D)(S:Int)(L:List D)(δ:Dv)(ln:eA [X]=some (.int S))(rn:bL [.int S]=some L)(h:loop (gN 2) aY L [.fz X,.fz Y,.un,.un]=some (.rt (.bool false),δ)):bp [X,Y]=some (.bool false):=by
 simp[-sSeq,-sIf,aG,aO,bp,runB,eF,aw,ln,rn,h]
theorem EX(X Y:D)(z:Sl)(a:Int)(L:List D)(rn:bL [.int a]=some L):aY [.fz X,.fz Y,.fz (.int a),z]=loop (gN 3) bB L [.fz X,.fz Y,.fz (.int a),z]:=by
 simp[aY,rn]
section
variable{n:Nat}{f g:Nat->Nu}(hf:∀q,MA.Q4.Le (2^200000) (f q).1)(hg:∀q,MA.Q4.Le (2^200000) (g q).1)
include hf hg
theorem GM{a t:Nat}(ha:a<2^n)(ht:t<2^n):∃e:Bool,(e=false↔MA.aK (f a) (g t)=MA.aK (f t) (g a))/\bB [.fz (dI n f),.fz (dI n g),.fz (.int (a:Int)),.fz (.int (t:Int))]=some (if e=true then .rt (.bool false)else .nx,[.fz (dI n f),.fz (dI n g),.fz (.int (a:Int)),.fz (.int (t:Int))]):=by
 obtain⟨e,h,i⟩:=Cd (MA.aK (f a) (g t)) (MA.aK (f t) (g a));exact⟨e,i,GK _ _ _ _ _ _ _ _ _ _ e (jb a rfl ha) (jb t rfl ht) (jb t rfl ht) (jb a rfl ha) (sL _ _ (hf a) (hg t)) (sL _ _ (hf t) (hg a)) h⟩
theorem qS{a:Nat}(ha:a<2^n):∀(xs:List Nat),(∀t∈xs,t<2^n)->∀z:Sl,((∀t∈xs,MA.aK (f a) (g t)=MA.aK (f t) (g a))->∃y,loop (gN 3) bB (xs.map fun k:Nat=>PyData.int (k:Int)) [.fz (dI n f),.fz (dI n g),.fz (.int (a:Int)),z]=some (.nx,[.fz (dI n f),.fz (dI n g),.fz (.int (a:Int)),y]))/\((¬∀t∈xs,MA.aK (f a) (g t)=MA.aK (f t) (g a))->∃ δ,loop (gN 3) bB (xs.map fun k:Nat=>PyData.int (k:Int)) [.fz (dI n f),.fz (dI n g),.fz (.int (a:Int)),z]=some (.rt (.bool false),δ))
 |[],_,z=>⟨fun _=>⟨z,rfl⟩,fun h=>absurd (fun _ h=>nomatch h) h⟩
 |t::xs,hx,z=>by
  obtain⟨e,i,h⟩:=GM hf hg ha (hx t List.mem_cons_self);obtain⟨i1,i2⟩:=qS ha xs (fun x h=>hx x (List.mem_cons_of_mem _ h)) (.fz (.int (t:Int)))
  by_cases c:MA.aK (f a) (g t)=MA.aK (f t) (g a)
  ·have e0:=i.mpr c
   subst e0;rw[List.map_cons,eH (by rfl) h];exact⟨fun H=>i1 fun x hx=>H x (List.mem_cons_of_mem _ hx),fun H=>i2 fun k=>H fun x hx=>(List.mem_cons.mp hx).elim (fun q=>q ▸ c) (k x)⟩
  ·have e0:e=true:=by
    cases e with
    |true=>rfl
    |false=>exact absurd (i.mp rfl) c
   subst e0;rw[List.map_cons,qf (by rfl) h];exact⟨fun H=>absurd (H t List.mem_cons_self) c,fun _=>⟨_,rfl⟩⟩
theorem GL(hn:n<=6){a:Nat}(ha:a<2^n)(z:Sl):((∀t,t<a->MA.aK (f a) (g t)=MA.aK (f t) (g a))->∃y,aY [.fz (dI n f),.fz (dI n g),.fz (.int (a:Int)),z]=some (.nx,[.fz (dI n f),.fz (dI n g),.fz (.int (a:Int)),y]))/\((¬∀t,t<a->MA.aK (f a) (g t)=MA.aK (f t) (g a))->∃ δ,aY [.fz (dI n f),.fz (dI n g),.fz (.int (a:Int)),z]=some (.rt (.bool false),δ)):=by
 obtain⟨i1,i2⟩:=qS hf hg ha (List.range a) (fun t ht=>Nat.lt_trans (List.mem_range.mp ht) ha) z
 have p6:=kh hn;have e:aY [.fz (dI n f),.fz (dI n g),.fz (.int (a:Int)),z]=loop (gN 3) bB ((List.range a).map fun k:Nat=>PyData.int (k:Int)) [.fz (dI n f),.fz (dI n g),.fz (.int (a:Int)),z]:=EX _ _ _ _ _ (DJ (show a<=64 by lia))
 rw[e];exact⟨fun H=>i1 fun t ht=>H t (List.mem_range.mp ht),fun H=>i2 fun k=>H fun t ht=>k t (List.mem_range.mpr ht)⟩
theorem qR(hn:n<=6):∀(xs:List Nat),(∀t∈xs,t<2^n)->∀z2 z3:Sl,((∀a∈xs,∀t,t<a->MA.aK (f a) (g t)=MA.aK (f t) (g a))->∃y2 y3,loop (gN 2) aY (xs.map fun k:Nat=>PyData.int (k:Int)) [.fz (dI n f),.fz (dI n g),z2,z3]=some (.nx,[.fz (dI n f),.fz (dI n g),y2,y3]))/\((¬∀a∈xs,∀t,t<a->MA.aK (f a) (g t)=MA.aK (f t) (g a))->∃ δ,loop (gN 2) aY (xs.map fun k:Nat=>PyData.int (k:Int)) [.fz (dI n f),.fz (dI n g),z2,z3]=some (.rt (.bool false),δ))
 |[],_,z2,z3=>⟨fun _=>⟨z2,z3,rfl⟩,fun h=>absurd (fun _ h=>nomatch h) h⟩
 |a::xs,hx,z2,z3=>by
  obtain⟨k1,k2⟩:=GL hf hg hn (hx a List.mem_cons_self) z3;by_cases c:∀t,t<a->MA.aK (f a) (g t)=MA.aK (f t) (g a)
  ·obtain⟨y,h⟩:=k1 c
   obtain⟨i1,i2⟩:=qR hn xs (fun x h=>hx x (List.mem_cons_of_mem _ h)) (.fz (.int (a:Int))) y
   rw[List.map_cons,eH (by rfl) h];exact⟨fun H=>i1 fun x hx=>H x (List.mem_cons_of_mem _ hx),fun H=>i2 fun k=>H fun x hx=>(List.mem_cons.mp hx).elim (fun q=>q ▸ c) (k x)⟩
  ·obtain⟨δ,h⟩:=k2 c
   rw[List.map_cons,qf (by rfl) h];exact⟨fun H=>absurd (H a List.mem_cons_self) c,fun _=>⟨_,rfl⟩⟩
theorem xU(hn:n<=6):∃c:Bool,bp [dI n f,dI n g]=some (.bool c)/\(c=true↔po n f g):=by
 obtain⟨i1,i2⟩:=qR hf hg hn (List.range (2^n)) (fun t ht=>List.mem_range.mp ht) .un .un;have p6:=kh hn;have rn:=DJ (n:=2^n) (by lia);by_cases c:∀a∈List.range (2^n),∀t,t<a->MA.aK (f a) (g t)=MA.aK (f t) (g a)
 ·obtain⟨y2,y3,h⟩:=i1 c
  refine⟨true,?_,fun _ a b ha hb=>?_,fun _=>rfl⟩
  ·exact xS _ _ _ _ _ (jR n f) rn h
  ·rcases Nat.lt_trichotomy a b with z|z|z
   ·exact(c b (List.mem_range.mpr hb) a z).symm
   ·rw[z]
   ·exact c a (List.mem_range.mpr ha) b z
 ·obtain⟨δ,h⟩:=i2 c
  refine⟨false,?_,(fun h=>nomatch h),fun H=>absurd (fun a ha t ht=>H a t (List.mem_range.mp ha) (Nat.lt_trans ht (List.mem_range.mp ha))) c⟩
  exact xT _ _ _ _ _ (jR n f) rn h
end
theorem CT(j e d:Int)(h:8-e=d):bq [.tuple [.str "turn",.int j,.int e]]=some (.tuple [.str "turn",.int j,.int d]):=by
 simp[-sSeq,-sIf,aG,aO,bq,runB,fA,aw,h]
theorem ms(x:Str)(js:List D)(h:cn (.str x) (.str "turn")=some (.bool false)):bq [.tuple (.str x::js)]=some (.tuple (.str x::js)):=by
 have h0:az (.tuple (.str x::js)) (.int 0)=some (.str x):=d9 (j:=0) rfl rfl;simp[-sSeq,-sIf,aG,aO,bq,runB,fA,aw,h0,h]
theorem Am{n:Nat}{r:Row}(hr:r.ok n):bq [rowD r]=some (rowD r.about):=by
 cases r with
 |turn j e=>
  have:e<=7:=hr.2.2;exact CT _ _ _ (by lia)
 |swing j=>exact ms _ _ (by simp)
 |flip j=>exact ms _ _ (by simp)
 |tie i j=>exact ms _ _ (by simp)
 |sign i j=>exact ms _ _ (by simp)
 |cross i j=>exact ms _ _ (by simp)
theorem vk{n:Nat}{r:Row}(hr:r.ok n)(h:gD r=false):gD r.about=false:=by
 cases r with
 |turn j e=>
  have:e<=7:=hr.2.2;have h2:(e%2==1)=false:=h;show((8-e)%2==1)=false;rw[beq_eq_false_iff_ne]at h2 ⊢
  lia
 |_=>rfl
theorem By(A:Sl)(n c:Int)(R:D)(ds es:List D)(z5 z6:Sl)(hr:aN [.int (c/6),.int n]=some R)(hc:c%2=0)(h1:ds.length<sizeLine)(h2:es.length<sizeLine):bh [A,.fz (.int n),.ow ds,.ow es,.fz (.int c),z5,z6]=some (.nx,[A,.fz (.int n),.ow (ds++[R]),.ow (es++[R]),.fz (.int c),.fz R,z6]):=by
 simp[-sSeq,-sIf,aG,aO,bh,hr,hc,h1,h2]
theorem Bx(A:Sl)(n c:Int)(R:D)(ds es:List D)(z5 z6:Sl)(hr:aN [.int (c/6),.int n]=some R)(hc:¬c%2=0)(hd:c/2%3=0)(h2:es.length<sizeLine):bh [A,.fz (.int n),.ow ds,.ow es,.fz (.int c),z5,z6]=some (.nx,[A,.fz (.int n),.ow ds,.ow (es++[R]),.fz (.int c),.fz R,z6]):=by
 simp[-sSeq,-sIf,aG,aO,bh,hr,hc,hd,h2]
theorem Bw(A:Sl)(n c:Int)(R B:D)(ds es:List D)(z5 z6:Sl)(k:Nat)(hr:aN [.int (c/6),.int n]=some R)(hc:¬c%2=0)(hd:¬c/2%3=0)(hm:bV (.int (c/12)) (.int ((es.length:Int)+1))=some (.int (k:Int)))(hk:k<=es.length)(hb:bq [R]=some B)(h2:es.length+1<sizeLine):bh [A,.fz (.int n),.ow ds,.ow es,.fz (.int c),z5,z6]=some (.nx,[A,.fz (.int n),.ow ds,.ow ((es.take k++R::es.drop k).take (k+1)++B::(es.take k++R::es.drop k).drop (k+1)),.fz (.int c),.fz R,.fz (.int (k:Int))]):=by
 have l1:es.length<sizeLine:=by lia
 have tn:((k:Int)+1).toNat=k+1:=by lia
 have c0:(0:Int)<=(k:Int)+1:=by lia
 have c2:k+1<=(es.take k++R::es.drop k).length:=by simp;lia
 have c3:(es.take k++R::es.drop k).length<sizeLine:=by rw[List.length_append,List.length_cons,List.length_take,List.length_drop];lia
 have i1:∀ δ:Dv,δ = [A,.fz (.int n),.ow ds,.ow es,.fz (.int c),.fz R,.fz (.int (k:Int))]->v5 3 (oV 6) (oV 5) δ = some (.nx,[A,.fz (.int n),.ow ds,.ow (es.take k++R::es.drop k),.fz (.int c),.fz R,.fz (.int (k:Int))]):=fun δ e=>by
  subst e;simp[hk,l1]
 generalize hx:es.take k++R::es.drop k=xs at *;have i2:v5 3 (o2 (oV 6) (oC (.int 1)) cL) (os (ae (oV 5) (au)) bq) [A,.fz (.int n),.ow ds,.ow xs,.fz (.int c),.fz R,.fz (.int (k:Int))]=some (.nx,[A,.fz (.int n),.ow ds,.ow (xs.take (k+1)++B::xs.drop (k+1)),.fz (.int c),.fz R,.fz (.int (k:Int))]):=by
  have c4:(k:Int)+1<=(xs.length:Int):=by lia
  simp[hb,c0,c2,c3,c4,tn]
 simp only[bh];rw[gg (δ':=[A,.fz (.int n),.ow ds,.ow es,.fz (.int c),.fz R,z6]) (by simp[hr]),pM (by simp[hc]),pM (by simp[hd]),gg (δ':=[A,.fz (.int n),.ow ds,.ow es,.fz (.int c),.fz R,.fz (.int (k:Int))]) (by simp[hm]),gg (i1 _ rfl)];exact i2
def OkL(n:Nat)(rs:List Row):Prop:=∀r∈rs,r.ok n/\gD r=false
theorem OkL.app{n:Nat}{as bs:List Row}(ha:OkL n as)(hb:OkL n bs):OkL n (as++bs):=fun r hr=>(List.mem_append.mp hr).elim (ha r) (hb r)
theorem OkL.cons{n:Nat}{r:Row}{bs:List Row}(hr:r.ok n)(ho:gD r=false)(hb:OkL n bs):OkL n (r::bs):=fun x hx=>(List.mem_cons.mp hx).elim (fun e=>e ▸ ⟨hr,ho⟩) (hb x)
theorem OkL.take{n:Nat}{bs:List Row}(hb:OkL n bs)(k:Nat):OkL n (bs.take k):=fun r hr=>hb r (List.mem_of_mem_take hr)
theorem OkL.drop{n:Nat}{bs:List Row}(hb:OkL n bs)(k:Nat):OkL n (bs.drop k):=fun r hr=>hb r (List.mem_of_mem_drop hr)
theorem ut{n:Nat}(h1:1<=n)(A:Sl)(c:Int){as bs:List Row}(ha:OkL n as)(hb:OkL n bs)(la:as.length<=900)(lb:bs.length<=900)(z5 z6:Sl):∃as' bs' y5 y6,OkL n as'/\OkL n bs'/\as'.length<=as.length+1/\bs'.length<=bs.length+2/\bh [A,.fz (.int n),.ow (as.map rowD),.ow (bs.map rowD),.fz (.int c),z5,z6]=some (.nx,[A,.fz (.int n),.ow (as'.map rowD),.ow (bs'.map rowD),.fz (.int c),y5,y6]):=by
 obtain⟨r,hr,ho,er⟩:=zq (c/6) n h1;have nil:OkL n []:=fun _ h=>nomatch h
 have sa:(as.map rowD).length<sizeLine:=by rw[List.length_map];exact Nat.lt_of_le_of_lt la (by decide)
 have sb:(bs.map rowD).length+1<sizeLine:=by rw[List.length_map];exact Nat.lt_of_le_of_lt (Nat.succ_le_succ lb) (by decide)
 by_cases c1:c%2=0
 ·refine⟨as++[r],bs++[r],.fz (rowD r),z6,ha.app (nil.cons hr ho),hb.app (nil.cons hr ho),by simp,by simp,?_⟩
  rw[By A n c _ _ _ z5 z6 er c1 sa (by lia),List.map_append,List.map_append];rfl
 ·by_cases c2:c/2%3=0
  ·refine⟨as,bs++[r],.fz (rowD r),z6,ha,hb.app (nil.cons hr ho),by simp,by simp,?_⟩
   rw[Bx A n c _ _ _ z5 z6 er c1 c2 (by lia),List.map_append];rfl
  ·obtain⟨k,hk,_,hm⟩:=AY (c/12) (bs.length+1) (by lia)
   have hm':bV (.int (c/12)) (.int (((bs.map rowD).length:Int)+1))=some (.int (k:Int)):=by rw[List.length_map];exact hm
   have ab:OkL n (bs.take k++r::bs.drop k):=(hb.take k).app ((hb.drop k).cons hr ho);refine⟨as,(bs.take k++r::bs.drop k).take (k+1)++r.about::(bs.take k++r::bs.drop k).drop (k+1),.fz (rowD r),.fz (.int (k:Int)),ha,(ab.take _).app ((ab.drop _).cons (MA.Row.about_ok hr) (vk hr ho)),by lia,?_,?_⟩
   ·have e:∀(l:List Row) (x:Row) (j:Nat),(l.take j++x::l.drop j).length=l.length+1:=fun l x j=>by
     rw[List.length_append,List.length_cons,List.length_take,List.length_drop];lia
    rw[e,e];exact Nat.le_refl _
   ·rw[Bw A n c _ _ _ _ z5 z6 k er c1 c2 hm' (by rw[List.length_map];lia) (Am hr) sb]
    simp only[List.map_append,List.map_cons,List.map_take,List.map_drop]
theorem nl{n:Nat}(h1:1<=n)(A:Sl):∀(cs:List Int) (as bs:List Row),OkL n as->OkL n bs->as.length+cs.length<=900->bs.length+2*cs.length<=900->∀z4 z5 z6:Sl,∃as' bs' y4 y5 y6,OkL n as'/\OkL n bs'/\as'.length<=as.length+cs.length/\bs'.length<=bs.length+2*cs.length/\loop (gN 4) bh (cs.map .int) [A,.fz (.int n),.ow (as.map rowD),.ow (bs.map rowD),z4,z5,z6]=some (.nx,[A,.fz (.int n),.ow (as'.map rowD),.ow (bs'.map rowD),y4,y5,y6])
 |[],as,bs,ha,hb,_,_,z4,z5,z6=>⟨as,bs,z4,z5,z6,ha,hb,Nat.le_refl _,Nat.le_refl _,rfl⟩
 |c::cs,as,bs,ha,hb,la,lb,z4,z5,z6=>by
  simp only[List.length_cons]at la lb;obtain⟨as1,bs1,y5,y6,ha1,hb1,la1,lb1,e⟩:=ut h1 A c ha hb (by lia) (by lia) z5 z6;obtain⟨as2,bs2,w4,w5,w6,ha2,hb2,la2,lb2,e2⟩:=nl h1 A cs as1 bs1 ha1 hb1 (by lia) (by lia) (.fz (.int c)) y5 y6;refine⟨as2,bs2,w4,w5,w6,ha2,hb2,by simp only[List.length_cons];lia,by simp only[List.length_cons];lia,?_⟩;rw[List.map_cons,eH (by rfl) e];exact e2
theorem Bv(C:D)(n:Int)(L ds es:List D)(y4 y5 y6:Sl)(it:eY C=some L)(lp:loop (gN 4) bh L [.fz C,.fz (.int n),.ow [],.ow [],.un,.un,.un]=some (.nx,[.fz C,.fz (.int n),.ow ds,.ow es,y4,y5,y6])):cH [C,.int n]=some (.tuple [.list ds,.list es]):=by
 have d1:qx 2 (qx 3 [.fz C,.fz (.int n),.ow ds,.ow es,y4,y5,y6])=[.fz C,.fz (.int n),.fz (.list ds),.fz (.list es),y4,y5,y6]:=rfl;simp[-sSeq,-sIf,aG,aO,cH,runB,hJ,aw,it,lp,d1]
noncomputable def Bm(n:Nat)(rs:List Row)(T:List (Wd×Wd)):List (Wd×Wd):=rs.foldl (fun T r=>T.map (cT n r)) T
theorem Fw(z0 z1 z2:Sl)(T R T':D)(h:bP [T,R]=some T'):cN [z0,z1,z2,.fz T,.fz R]=some (.nx,[z0,z1,z2,.fz T',.fz R]):=by
 simp[cN,h]
theorem vG{n:Nat}(hn:n<=6)(z0 z1 z2:Sl):∀(rs:List Row),OkL n rs->∀(T:List (Wd×Wd)) (f:Nat->Nu) (K P:Nat),Bel n T f->Uq n T f->Bd K P f->K+rs.length<=300->Bel n (Bm n rs T) (nO n f rs)/\Uq n (Bm n rs T) (nO n f rs)/\(∃P',P'<=P+400*rs.length/\Bd (K+rs.length) P' (nO n f rs))/\∀z4:Sl,∃y4,loop (gN 4) cN (rs.map rowD) [z0,z1,z2,.fz (fZ T),z4]=some (.nx,[z0,z1,z2,.fz (fZ (Bm n rs T)),y4])
 |[],_,T,f,K,P,b,u,d,_=>⟨b,u,⟨P,by lia,d⟩,fun z4=>⟨z4,rfl⟩⟩
 |r::rs,h,T,f,K,P,b,u,d,hK=>by
  simp only[List.length_cons]at hK;obtain⟨hr,ho⟩:=h r List.mem_cons_self;obtain⟨b2,u2,⟨P',hP,d2⟩,lp⟩:=vG hn z0 z1 z2 rs (fun x hx=>h x (List.mem_cons_of_mem _ hx)) (T.map (cT n r)) (aB n f r) (K+1) (P+K+1) (b.row hn hr (oY ho) (fun p=>(d p).1)) (u.row hn hr (oY ho) b (fun p=>(d p).1)) (d.done n r) (by lia)
  refine⟨b2,u2,⟨P',by simp only[List.length_cons];lia,?_⟩,fun z4=>?_⟩
  ·rw[List.length_cons,show K+(rs.length+1)=K+1+rs.length by lia];exact d2
  ·obtain⟨y4,e⟩:=lp (.fz (rowD r))
   exact⟨y4,by rw[List.map_cons,eH (by rfl) (Fw z0 z1 z2 _ _ _ (Dr hn hr ho b.tb.good))];exact e⟩
theorem yz(R T T':D)(n p:Int)(L:List D)(y4:Sl)(t0:b9 [.int n,.int p]=some T)(it:eY R=some L)(lp:loop (gN 4) cN L [.fz R,.fz (.int n),.fz (.int p),.fz T,.un]=some (.nx,[.fz R,.fz (.int n),.fz (.int p),.fz T',y4])):bo [R,.int n,.int p]=some T':=by
 simp[-sSeq,-sIf,aG,aO,bo,runB,gw,aw,t0,it,lp]
theorem Ej(S B X F G T U V W:D)(as bs:List D)(c c1 n M p h:Int)(i3:Int)(e a:Bool)(h0:aT [S,.int 0]=some (.int c))(hw:1+c%3=n)(h1:aT [S,.int 1]=some (.int c1))(hs:gJ (.int 1) (.int n)=some (.int M))(hp:bV (.int c1) (.int M)=some (.int p))
  (hi:uR [.bool (n==3)]=some (.int i3)) (hm:dH (.int 14) (.int i3)=some (.int (14*i3))) (hh:32-14*i3=h) (sl:E5 S (some 2) (some h)=some B) (rw:cH [B,.int n]=some (.tuple [.list as,.list bs])) (ta:as.length<=sizeLine) (tb:bs.length<=sizeLine)
  (bg:bC [.int n,.int p]=some X) (fa:bG [X,.tuple as]=some F) (ga:bG [X,.tuple bs]=some G) (t1:bo [.list as,.int n,.int p]=some T) (t2:bo [.list bs,.int n,.int p]=some U) (s1:da [T]=some V) (s2:da [U]=some W) (eq:cn V W=some (.bool e)) (al:bp [F,G]=some (.bool a)) (ea:e=a):qr [S]=some (.bool true):=by
 subst ea;have e2:cn (.bool e) (.bool e)=some (.bool true):=by cases e<;>rfl
 simp[-sSeq,-sIf,aG,aO,qr,runB,xM,aw,h0,hw,h1,hs,hp,hi,hm,hh,sl,rw,ta,tb,bg,fa,ga,t1,t2,s1,s2,eq,al,e2]
theorem law_true(ns:List Int)(hl:ns.length<=63):qr [.list (ns.map .int)]=some (.bool true):=by
 obtain⟨c,hc⟩:=tS ns 0 (by decide);obtain⟨c1,hc1⟩:=tS ns 1 (by decide);obtain⟨n,hw⟩:∃w:Nat,1+c%3=(w:Int):=⟨(1+c%3).toNat,by lia⟩;have h1:1<=n:=by lia
 have h6:n<=6:=by lia
 obtain⟨p,hpl,_,hp⟩:=AY c1 (2^n) (Nat.pow_pos (by decide));obtain⟨i3,hi,hm⟩:∃i3:Int,uR [.bool ((n:Int)==3)]=some (.int i3)/\dH (.int 14) (.int i3)=some (.int (14*i3)):=by
  cases h:((n:Int)==3)
  ·exact⟨0,rfl,p7 (MA.rL 5 5 (by decide) (by decide) (by decide))⟩
  ·exact⟨1,rfl,p7 (MA.rL 5 5 (by decide) (by decide) (by decide))⟩
 obtain⟨cs,hcl,hsl⟩:=zX ns (some 2) (some (32-14*i3));have nil:OkL n []:=fun _ h=>nomatch h
 obtain⟨as,bs,y4,y5,y6,oa,ob,la,lb,lp⟩:=nl h1 (.fz (.list (cs.map .int))) cs [] [] nil nil (by simp;lia) (by simp;lia) .un .un .un;simp only[List.length_nil,Nat.zero_add]at la lb;have ba:∀{rs:List Row},OkL n rs->rs.length<=126->∀R:D,eY R=some (rs.map rowD)->∃T f P,Bel n T f/\Uq n T f/\P<=60000/\Bd 126 P f/\bG [dI n (MA.du p),.tuple (rs.map rowD)]=some (dI n f)/\bo [R,.int n,.int p]=some (fZ T):=fun{rs} o l R it=>by
  obtain⟨b,u,⟨P,hP,d⟩,lp⟩:=vG h6 (.fz R) (.fz (.int n)) (.fz (.int p)) rs o (mL n p) (MA.du p) 0 0 (GF h6 hpl) (Hx h6 hpl) (wB p) (by lia);obtain⟨y,e⟩:=lp .un;exact⟨_,_,P,b,u,by lia,fun x=>⟨Nat.le_trans (d x).1 (by lia),(d x).2⟩,An h6 rs (fun r hr=>(o r hr).1) (wB p) (by lia) (by lia),yz _ _ _ _ _ _ y (vH h6 p) it e⟩
 obtain⟨T,f,P,b1,u1,hP,d1,fa,t1⟩:=ba oa (by lia) (.list (as.map rowD)) rfl;obtain⟨U,g,Q,b2,u2,hQ,d2,ga,t2⟩:=ba ob (by lia) (.list (bs.map rowD)) rfl;obtain⟨R1,r1,w1,s1⟩:=lH h6 b1.tb.good;obtain⟨R2,r2,w2,s2⟩:=lH h6 b2.tb.good;obtain⟨e,he,ie⟩:=EG R1 R2;obtain⟨a,al,ia⟩:=xU (n:=n) (f:=f) (g:=g) (fun q=>(d1 q).2.mono (Nat.pow_le_pow_right (by decide) (by lia))) (fun q=>(d2 q).2.mono (Nat.pow_le_pow_right (by decide) (by lia))) h6
 have same:=vY b1 u1 b2 (fun q=>(d1 q).1) (fun q=>(d2 q).1) r1 r2 w1 w2
 refine Ej _ _ _ _ _ _ _ _ _ (as.map rowD) (bs.map rowD) c c1 n _ p _ i3 e a hc hw hc1 (DG n (by lia)) hp hi hm rfl hsl (Bv _ _ _ _ _ y4 y5 y6 rfl lp) ?_ ?_ (xI h6 p) fa ga t1 t2 s1 s2 he al (Bool.eq_iff_iff.mpr (ie.trans (same.trans ia.symm)))
 ·rw[List.length_map,sizeLine_eq];lia
 ·rw[List.length_map,sizeLine_eq];lia
end GN
namespace GN
open PySem PySem.Spec PyProof.Rows L2 VL
structure Txt (mg:Str->Option Value):Prop where
 min:mg "min" = none
 max:mg "max" = none
 tuple:mg "tuple" = none
 range:mg "range" = none
 len:mg "len" = none
 any:mg "any" = none
 sorted:mg "sorted" = none
 int:mg "int" = none
section
variable{P:Program}{w:World}{K:PySem.W.Frag}{mg:Str->Option Value}{base:Heap}
theorem lI:FnScope iK ["joined","most"] (aj dO):=⟨rfl,rfl,rfl,by decide +kernel,rfl,by decide +kernel,by decide +kernel⟩
theorem lO{f:Addr}{fd:FuncData}{dV:Value}(F:FunV K "twos_shared" "twos_shared" dO f fd dV)(T:Txt mg):FnOk P w K mg base cM 1 f fd ["joined","most"] (dG K bn):=
 ci (k:=0) (b:=dU) F lI fun cdv A outer s H E hr=>(ao (bK (aI (cw hr.units) (aa 0) ad (aH _)) (ar (aA (aa 1))) bt) (ar (aA (cj (EN rfl) rfl T.min (by decide +kernel) (ac (aa 1) (ac (ah bR (oZ (ah dZ (aa 0) (jv jw (aa 0)))) ad) af))))))
theorem rj:FnScope og ["a","b","c","d"] (aj iq):=⟨rfl,rfl,rfl,by decide +kernel,rfl,by decide +kernel,by decide +kernel⟩
theorem rH{f:Addr}{fd:FuncData}{dV:Value}(F:FunV K "by_root" "by_root" iq f fd dV)(T:Txt mg):FnOk P w K mg base cM 1 f fd ["a","b","c","d"] (dG K cK):=
 ci (k:=0) (b:=j7) F rj fun cdv A outer s H E hr=>(ar (aA (bz (ac (ah bR (aa 1) (aa 3)) (ac (ah bX (aa 0) (aa 2)) (ac (ah bX (aa 1) (aa 3)) (ac (ah bR (aa 2) (aa 0)) af)))))))
theorem sc_number:FnScope mF ["a","b","c","d","k"] (aj fJ):=⟨rfl,rfl,rfl,by decide +kernel,rfl,by decide +kernel,by decide +kernel⟩
theorem uB{f:Addr}{fd:FuncData}{dV:Value}(F:FunV K "number" "number" fJ f fd dV)(T:Txt mg)(C_twos_shared:Cal P w K mg base "twos_shared" 1 bn [])(C_by_root:Cal P w K mg base "by_root" 1 cK []):FnOk P w K mg base cM 2 f fd ["a","b","c","d","k"] (dG K cF):=
 ci (k:=1) (b:=jA) F sc_number fun cdv A outer s H E hr=>(ao (ay 5 sc_number.nd (av C_twos_shared (hr.mono (by decide)) rfl (ac (ah o6 (ah o6 (ah o6 (aa 0) (aa 1)) (aa 2)) (aa 3)) (ac (ah fR (aa 4) ad) af)))) (ao (ay 0 sc_number.nd (ah nQ (aa 0) (aa 5))) (ao (ay 1 sc_number.nd (ah nQ (aa 1) (aa 5))) (ao (ay 2 sc_number.nd (ah nQ (aa 2) (aa 5))) (ao (ay 3 sc_number.nd (ah nQ (aa 3) (aa 5))) (ao (ay 4 sc_number.nd (ah bR (aa 4) (ah bH ad (aa 5)))) (ao (bK (WV.tv (vt (aI (cw hr.units) (aa 4) ad (aH _)) (vt (aI (cw hr.units) (ah bW (ah bR (aa 0) (aa 2)) ad) ad (aH _)) (vr (aI (cw hr.units) (ah bW (ah bR (aa 1) (aa 3)) ad) ad (aH _)))))) (ar (aA (bz (ac (aa 0) (ac (aa 1) (ac (aa 2) (ac (aa 3) (ac (aa 4) af)))))))) bt) (ao (ay 6 sc_number.nd (av C_by_root (hr.mono (by decide)) rfl (ac (aa 0) (ac (aa 1) (ac (aa 2) (ac (aa 3) af)))))) (ar (aA (bz (ac (ah fR (ai aq (aa 6) ad (fun _ _=>rfl)) ad) (ac (ah fR (ai aq (aa 6) ad (fun _ _=>rfl)) ad) (ac (ah fR (ai aq (aa 6) ad (fun _ _=>rfl)) ad) (ac (ah fR (ai aq (aa 6) ad (fun _ _=>rfl)) ad) (ac (ah bR (aa 4) ad) af))))))))))))))))
theorem sc_parts_over:FnScope jD ["x","k"] (aj el):=⟨rfl,rfl,rfl,by decide +kernel,rfl,by decide +kernel,by decide +kernel⟩
theorem mS{f:Addr}{fd:FuncData}{dV:Value}(F:FunV K "parts_over" "parts_over" el f fd dV)(T:Txt mg)(C_by_root:Cal P w K mg base "by_root" 1 cK []):FnOk P w K mg base cM 2 f fd ["x","k"] (dG K bQ):=
 ci (k:=1) (b:=eE) F sc_parts_over fun cdv A outer s H E hr=>(ao (ay 2 sc_parts_over.nd (ah bR (aa 1) (ai aq (aa 0) ad (fun _ _=>rfl)))) (ao (ay 3 sc_parts_over.nd (ah fR (aa 2) ad)) (ao (ay 4 sc_parts_over.nd (ah km (ai aq (aa 0) ad (fun _ _=>rfl)) (aa 3))) (ao (ay 5 sc_parts_over.nd (ah km (ai aq (aa 0) ad (fun _ _=>rfl)) (aa 3))) (ao (ay 6 sc_parts_over.nd (ah km (ai aq (aa 0) ad (fun _ _=>rfl)) (aa 3))) (ao (ay 7 sc_parts_over.nd (ah km (ai aq (aa 0) ad (fun _ _=>rfl)) (aa 3))) (ao (bK (aI (cw hr.units) (ah bW (aa 2) ad) ad (aH _)) (ar (aA (av C_by_root (hr.mono (by decide)) rfl (ac (aa 4) (ac (aa 5) (ac (aa 6) (ac (aa 7) af))))))) bt) (ar (aA (bz (ac (aa 4) (ac (aa 5) (ac (aa 6) (ac (aa 7) af))))))))))))))
theorem sc_plus:FnScope xY ["x","y"] (aj oD):=⟨rfl,rfl,rfl,by decide +kernel,rfl,by decide +kernel,by decide +kernel⟩
theorem zd{f:Addr}{fd:FuncData}{dV:Value}(F:FunV K "plus" "plus" oD f fd dV)(T:Txt mg)(C_parts_over:Cal P w K mg base "parts_over" 2 bQ [])(C_number:Cal P w K mg base "number" 2 cF []):FnOk P w K mg base cM 3 f fd ["x","y"] (dG K fE):=
 ci (k:=2) (b:=ss) F sc_plus fun cdv A outer s H E hr=>(ao (ay 2 sc_plus.nd (cj (EO rfl) rfl T.max (by decide +kernel) (ac (ai aq (aa 0) ad (fun _ _=>rfl)) (ac (ai aq (aa 1) ad (fun _ _=>rfl)) af)))) (ao (ay 3 sc_plus.nd (av C_parts_over (hr.mono (by decide)) rfl (ac (aa 0) (ac (aa 2) af)))) (ao (ay 4 sc_plus.nd (av C_parts_over (hr.mono (by decide)) rfl (ac (aa 1) (ac (aa 2) af)))) (ar (aA (av C_number (hr.mono (by decide)) rfl (ac (ah bX (ai aq (aa 3) ad (fun _ _=>rfl)) (ai aq (aa 4) ad (fun _ _=>rfl))) (ac (ah bX (ai aq (aa 3) ad (fun _ _=>rfl)) (ai aq (aa 4) ad (fun _ _=>rfl))) (ac (ah bX (ai aq (aa 3) ad (fun _ _=>rfl)) (ai aq (aa 4) ad (fun _ _=>rfl))) (ac (ah bX (ai aq (aa 3) ad (fun _ _=>rfl)) (ai aq (aa 4) ad (fun _ _=>rfl))) (ac (aa 2) af)))))))))))
theorem vX:FnScope t7 ["x","y"] (aj kY):=⟨rfl,rfl,rfl,by decide +kernel,rfl,by decide +kernel,by decide +kernel⟩
theorem wD{f:Addr}{fd:FuncData}{dV:Value}(F:FunV K "times" "times" kY f fd dV)(T:Txt mg)(C_number:Cal P w K mg base "number" 2 cF []):FnOk P w K mg base cM 3 f fd ["x","y"] (dG K dR):=
 ci (k:=2) (b:=pe) F vX fun cdv A outer s H E hr=>(ar (aA (av C_number (hr.mono (by decide)) rfl (ac (ah bR (ah bR (ah bR (ah bH (ai aq (aa 0) ad (fun _ _=>rfl)) (ai aq (aa 1) ad (fun _ _=>rfl))) (ah bH (ai aq (aa 0) ad (fun _ _=>rfl)) (ai aq (aa 1) ad (fun _ _=>rfl)))) (ah bH (ai aq (aa 0) ad (fun _ _=>rfl)) (ai aq (aa 1) ad (fun _ _=>rfl)))) (ah bH (ai aq (aa 0) ad (fun _ _=>rfl)) (ai aq (aa 1) ad (fun _ _=>rfl)))) (ac (ah bR (ah bR (ah bX (ah bH (ai aq (aa 0) ad (fun _ _=>rfl)) (ai aq (aa 1) ad (fun _ _=>rfl))) (ah bH (ai aq (aa 0) ad (fun _ _=>rfl)) (ai aq (aa 1) ad (fun _ _=>rfl)))) (ah bH (ai aq (aa 0) ad (fun _ _=>rfl)) (ai aq (aa 1) ad (fun _ _=>rfl)))) (ah bH (ai aq (aa 0) ad (fun _ _=>rfl)) (ai aq (aa 1) ad (fun _ _=>rfl)))) (ac (ah bR (ah bX (ah bX (ah bH (ai aq (aa 0) ad (fun _ _=>rfl)) (ai aq (aa 1) ad (fun _ _=>rfl))) (ah bH (ai aq (aa 0) ad (fun _ _=>rfl)) (ai aq (aa 1) ad (fun _ _=>rfl)))) (ah bH (ai aq (aa 0) ad (fun _ _=>rfl)) (ai aq (aa 1) ad (fun _ _=>rfl)))) (ah bH (ai aq (aa 0) ad (fun _ _=>rfl)) (ai aq (aa 1) ad (fun _ _=>rfl)))) (ac (ah bX (ah bX (ah bX (ah bH (ai aq (aa 0) ad (fun _ _=>rfl)) (ai aq (aa 1) ad (fun _ _=>rfl))) (ah bH (ai aq (aa 0) ad (fun _ _=>rfl)) (ai aq (aa 1) ad (fun _ _=>rfl)))) (ah bH (ai aq (aa 0) ad (fun _ _=>rfl)) (ai aq (aa 1) ad (fun _ _=>rfl)))) (ah bH (ai aq (aa 0) ad (fun _ _=>rfl)) (ai aq (aa 1) ad (fun _ _=>rfl)))) (ac (ah bX (ai aq (aa 0) ad (fun _ _=>rfl)) (ai aq (aa 1) ad (fun _ _=>rfl))) af))))))))
theorem rp:FnScope oh ["x"] (aj ir):=⟨rfl,rfl,rfl,by decide +kernel,rfl,by decide +kernel,by decide +kernel⟩
theorem rK{f:Addr}{fd:FuncData}{dV:Value}(F:FunV K "against" "against" ir f fd dV)(T:Txt mg):FnOk P w K mg base cM 1 f fd ["x"] (dG K dc):=
 ci (k:=0) (b:=j9) F rp fun cdv A outer s H E hr=>(ar (aA (bz (ac (jv jw (ai aq (aa 0) ad (fun _ _=>rfl))) (ac (jv jw (ai aq (aa 0) ad (fun _ _=>rfl))) (ac (jv jw (ai aq (aa 0) ad (fun _ _=>rfl))) (ac (jv jw (ai aq (aa 0) ad (fun _ _=>rfl))) (ac (ai aq (aa 0) ad (fun _ _=>rfl)) af))))))))
theorem sc_turned:FnScope qT ["x","e"] (aj jd):=⟨rfl,rfl,rfl,by decide +kernel,rfl,by decide +kernel,by decide +kernel⟩
theorem uA{f:Addr}{fd:FuncData}{dV:Value}(F:FunV K "turned" "turned" jd f fd dV)(T:Txt mg):FnOk P w K mg base cM 1 f fd ["x","e"] (dG K cO):=
 ci (k:=0) (b:=mx) F sc_turned fun cdv A outer s H E hr=>(ao (ay 2 sc_turned.nd (bz (ac (ai aq (aa 0) ad (fun _ _=>rfl)) (ac (ai aq (aa 0) ad (fun _ _=>rfl)) (ac (ai aq (aa 0) ad (fun _ _=>rfl)) (ac (ai aq (aa 0) ad (fun _ _=>rfl)) (ac (jv jw (ai aq (aa 0) ad (fun _ _=>rfl))) (ac (jv jw (ai aq (aa 0) ad (fun _ _=>rfl))) (ac (jv jw (ai aq (aa 0) ad (fun _ _=>rfl))) (ac (jv jw (ai aq (aa 0) ad (fun _ _=>rfl))) af)))))))))) (ar (aA (bz (ac (ai aq (aa 2) (ah bW (ah bR ad (aa 1)) ad) (fun _ _=>rfl)) (ac (ai aq (aa 2) (ah bW (ah bR ad (aa 1)) ad) (fun _ _=>rfl)) (ac (ai aq (aa 2) (ah bW (ah bR ad (aa 1)) ad) (fun _ _=>rfl)) (ac (ai aq (aa 2) (ah bW (ah bR ad (aa 1)) ad) (fun _ _=>rfl)) (ac (ai aq (aa 0) ad (fun _ _=>rfl)) af)))))))))
theorem ur:FnScope qU ["x"] (aj jf):=⟨rfl,rfl,rfl,by decide +kernel,rfl,by decide +kernel,by decide +kernel⟩
theorem uC{f:Addr}{fd:FuncData}{dV:Value}(F:FunV K "halved" "halved" jf f fd dV)(T:Txt mg)(C_number:Cal P w K mg base "number" 2 cF []):FnOk P w K mg base cM 3 f fd ["x"] (dG K cQ):=
 ci (k:=2) (b:=mz) F ur fun cdv A outer s H E hr=>(ar (aA (av C_number (hr.mono (by decide)) rfl (ac (ai aq (aa 0) ad (fun _ _=>rfl)) (ac (ai aq (aa 0) ad (fun _ _=>rfl)) (ac (ai aq (aa 0) ad (fun _ _=>rfl)) (ac (ai aq (aa 0) ad (fun _ _=>rfl)) (ac (ah bX (ai aq (aa 0) ad (fun _ _=>rfl)) ad) af))))))))
theorem vW:FnScope t6 ["wires","wire"] (aj kX):=⟨rfl,rfl,rfl,by decide +kernel,rfl,by decide +kernel,by decide +kernel⟩
theorem wC{f:Addr}{fd:FuncData}{dV:Value}(F:FunV K "worth" "worth" kX f fd dV)(T:Txt mg):FnOk P w K mg base cM 1 f fd ["wires","wire"] (dG K bO):=
 ci (k:=0) (b:=pd) F vW fun cdv A outer s H E hr=>(ar (aA (ah km ad (ah bR (ah bR (aa 0) ad) (aa 1)))))
theorem rm:FnScope kf ["wires","place"] (aj fL):=⟨rfl,rfl,rfl,by decide +kernel,rfl,by decide +kernel,by decide +kernel⟩
theorem rJ{f:Addr}{fd:FuncData}{dV:Value}(F:FunV K "bits_of" "bits_of" fL f fd dV)(T:Txt mg):FnOk P w K mg base cM 1 f fd ["wires","place"] (dG K db):=
 ci (k:=0) (b:=j8) F rm fun cdv A outer s H E hr=>(ar (aA (bJ dB rfl T.tuple (by decide +kernel) (ac (dS (vars:=["wire"]) (caps:=[(0,"wires"),(1,"place")]) (by change BlkOk (aj fL).names kf _ _ _;exact⟨rfl,by decide +kernel,by decide +kernel,by decide +kernel,by decide +kernel⟩) rfl (cm rfl T.range (ac (aa 0) af)) eL (fun _ _ _ _=>cJ (i:=0) (show(["wire","wires","place"]:List Str).Nodup by decide +kernel) rfl (Or.inl rfl) (.inr rfl)) (fun _ _ _ _=>(ah dZ (ah nQ (aa 2) (ah bR (ah bR (aa 1) ad) (aa 0))) ad))) af))))
theorem oA:FnScope hV ["wires","place"] (aj cC):=⟨rfl,rfl,rfl,by decide +kernel,rfl,by decide +kernel,by decide +kernel⟩
theorem oJ{f:Addr}{fd:FuncData}{dV:Value}(F:FunV K "beginning" "beginning" cC f fd dV)(T:Txt mg)(T_NOUGHT:TopV K mg "NOUGHT" (.tuple [.int 0,.int 0,.int 0,.int 0,.int 0]))(T_ONE:TopV K mg "ONE" (.tuple [.int 1,.int 0,.int 0,.int 0,.int 0])):FnOk P w K mg base cM 1 f fd ["wires","place"] (dG K bC):=
 ci (k:=0) (b:=hG) F oA fun cdv A outer s H E hr=>(ar (aA (bJ dB rfl T.tuple (by decide +kernel) (ac (dS (vars:=["p"]) (caps:=[(1,"place")]) (by change BlkOk (aj cC).names hV _ _ _;exact⟨rfl,by decide +kernel,by decide +kernel,by decide +kernel,by decide +kernel⟩) rfl (cm rfl T.range (ac (ah km ad (aa 0)) af)) eL (fun _ _ _ _=>cJ (i:=0) (show(["p","place"]:List Str).Nodup by decide +kernel) rfl (Or.inl rfl) (.inr rfl)) (fun _ _ _ _=>(gk (aI (cw hr.units) (aa 0) (aa 1) (aH _)) (tI T_ONE rfl) (tI T_NOUGHT rfl)))) af))))
theorem sc_swung:FnScope t8 ["state","bit"] (aj kZ):=⟨rfl,rfl,rfl,by decide +kernel,rfl,by decide +kernel,by decide +kernel⟩
theorem wE{f:Addr}{fd:FuncData}{dV:Value}(F:FunV K "swung" "swung" kZ f fd dV)(T:Txt mg)(C_halved:Cal P w K mg base "halved" 3 cQ [])(C_plus:Cal P w K mg base "plus" 3 fE [])(C_against:Cal P w K mg base "against" 1 dc []):FnOk P w K mg base cM 4 f fd ["state","bit"] (dG K fm):=
 ci (k:=3) (b:=pf) F sc_swung fun cdv A outer s H E hr=>(ao (ou 2 sc_swung.nd af) (ao (gI PassesOwn.never rfl (cm rfl T.range (ac (cj jy rfl T.len (by decide +kernel) (ac (aa 0) af)) af)) (fj 3 sc_swung.nd) (ar (bK (aI (cw hr.units) (ah dZ (aa 3) (aa 1)) ad (aH _)) (ar (jI 2 (av C_halved (hr.mono (by decide)) rfl (ac (av C_plus (hr.mono (by decide)) rfl (ac (ai aq (aa 0) (aa 3) (fun _ _=>rfl)) (ac (ai aq (aa 0) (ah fq (aa 3) (aa 1)) (fun _ _=>rfl)) af))) af)))) (ar (jI 2 (av C_halved (hr.mono (by decide)) rfl (ac (av C_plus (hr.mono (by decide)) rfl (ac (ai aq (aa 0) (ah fq (aa 3) (aa 1)) (fun _ _=>rfl)) (ac (av C_against (hr.mono (by decide)) rfl (ac (ai aq (aa 0) (aa 3) (fun _ _=>rfl)) af)) af))) af))))))) (ar (pF 2 (aA (bJ dB rfl T.tuple (by decide +kernel) (ac (aa 2) af)))))))
theorem kB:FnScope eW ["state","held","e"] (aj cA):=⟨rfl,rfl,rfl,by decide +kernel,rfl,by decide +kernel,by decide +kernel⟩
theorem kD{f:Addr}{fd:FuncData}{dV:Value}(F:FunV K "turned_where" "turned_where" cA f fd dV)(T:Txt mg)(C_turned:Cal P w K mg base "turned" 1 cO []):FnOk P w K mg base cM 2 f fd ["state","held","e"] (dG K aR):=
 ci (k:=1) (b:=eT) F kB fun cdv A outer s H E hr=>(ar (aA (bJ dB rfl T.tuple (by decide +kernel) (ac (dS (vars:=["p"]) (caps:=[(0,"state"),(1,"held"),(2,"e")]) (by change BlkOk (aj cA).names eW _ _ _;exact⟨rfl,by decide +kernel,by decide +kernel,by decide +kernel,by decide +kernel⟩) rfl (cm rfl T.range (ac (cj jy rfl T.len (by decide +kernel) (ac (aa 0) af)) af)) eL (fun _ _ _ _=>cJ (i:=0) (show(["p","state","held","e"]:List Str).Nodup by decide +kernel) rfl (Or.inl rfl) (.inr rfl)) (fun _ _ _ _=>(gk (aI (cw hr.units) (ah dZ (aa 0) (aa 2)) (aa 2) (aH _)) (av C_turned (hr.mono (by decide)) rfl (ac (ai aq (aa 1) (aa 0) (fun _ _=>rfl)) (ac (aa 3) af))) (ai aq (aa 1) (aa 0) (fun _ _=>rfl))))) af))))
theorem jK:FnScope ee ["state","held","bit"] (aj cf):=⟨rfl,rfl,rfl,by decide +kernel,rfl,by decide +kernel,by decide +kernel⟩
theorem jQ{f:Addr}{fd:FuncData}{dV:Value}(F:FunV K "flipped_where" "flipped_where" cf f fd dV)(T:Txt mg):FnOk P w K mg base cM 1 f fd ["state","held","bit"] (dG K aM):=
 ci (k:=0) (b:=d8) F jK fun cdv A outer s H E hr=>(ar (aA (bJ dB rfl T.tuple (by decide +kernel) (ac (dS (vars:=["p"]) (caps:=[(0,"state"),(1,"held"),(2,"bit")]) (by change BlkOk (aj cf).names ee _ _ _;exact⟨rfl,by decide +kernel,by decide +kernel,by decide +kernel,by decide +kernel⟩) rfl (cm rfl T.range (ac (cj jy rfl T.len (by decide +kernel) (ac (aa 0) af)) af)) eL (fun _ _ _ _=>cJ (i:=0) (show(["p","state","held","bit"]:List Str).Nodup by decide +kernel) rfl (Or.inl rfl) (.inr rfl)) (fun _ _ _ _=>(gk (aI (cw hr.units) (ah dZ (aa 0) (aa 2)) (aa 2) (aH _)) (ai aq (aa 1) (ah fq (aa 0) (aa 3)) (fun _ _=>rfl)) (ai aq (aa 1) (aa 0) (fun _ _=>rfl))))) af))))
theorem oz:FnScope kw ["place","both"] (aj e9):=⟨rfl,rfl,rfl,by decide +kernel,rfl,by decide +kernel,by decide +kernel⟩
theorem oH{f:Addr}{fd:FuncData}{dV:Value}(F:FunV K "exchanged" "exchanged" e9 f fd dV)(T:Txt mg):FnOk P w K mg base cM 1 f fd ["place","both"] (dG K aP):=
 ci (k:=0) (b:=fw) F oz fun cdv A outer s H E hr=>(ar (aA (gk (aI EL (ah dZ (aa 0) (aa 1)) (bz (ac ad (ac (aa 1) af))) (by with_unfolding_all rfl)) (aa 0) (ah fq (aa 0) (aa 1)))))
theorem sc_done:FnScope sA ["state","row"] (aj lJ):=⟨rfl,rfl,rfl,by decide +kernel,rfl,by decide +kernel,by decide +kernel⟩
theorem ze{f:Addr}{fd:FuncData}{dV:Value}(F:FunV K "done" "done" lJ f fd dV)(T:Txt mg)(C_worth:Cal P w K mg base "worth" 1 bO [])(C_swung:Cal P w K mg base "swung" 4 fm [])(C_turned_where:Cal P w K mg base "turned_where" 2 aR [])(C_flipped_where:Cal P w K mg base "flipped_where" 1 aM [])(C_exchanged:Cal P w K mg base "exchanged" 1 aP []):FnOk P w K mg base cM 5 f fd ["state","row"] (dG K cr):=
 ci (k:=4) (b:=hE) F sc_done fun cdv A outer s H E hr=>(ao (ay 2 sc_done.nd (ah bR (oZ (cj jy rfl T.len (by decide +kernel) (ac (aa 0) af))) ad)) (ao (ay 3 sc_done.nd (av C_worth (hr.mono (by decide)) rfl (ac (aa 2) (ac (ai aq (aa 1) ad (fun _ _=>rfl)) af)))) (ao (bK (aI (cw hr.units) (ai aq (aa 1) ad (fun _ _=>rfl)) br (aH _)) (ar (aA (av C_swung (hr.mono (by decide)) rfl (ac (aa 0) (ac (aa 3) af))))) bt) (ao (bK (aI (cw hr.units) (ai aq (aa 1) ad (fun _ _=>rfl)) br (aH _)) (ar (aA (av C_turned_where (hr.mono (by decide)) rfl (ac (aa 0) (ac (aa 3) (ac (ai aq (aa 1) ad (fun _ _=>rfl)) af)))))) bt) (ao (bK (aI (cw hr.units) (ai aq (aa 1) ad (fun _ _=>rfl)) br (aH _)) (ar (aA (av C_flipped_where (hr.mono (by decide)) rfl (ac (aa 0) (ac ad (ac (aa 3) af)))))) bt) (ao (ay 4 sc_done.nd (av C_worth (hr.mono (by decide)) rfl (ac (aa 2) (ac (ai aq (aa 1) ad (fun _ _=>rfl)) af)))) (ao (bK (aI (cw hr.units) (ai aq (aa 1) ad (fun _ _=>rfl)) br (aH _)) (ar (aA (av C_flipped_where (hr.mono (by decide)) rfl (ac (aa 0) (ac (aa 3) (ac (aa 4) af)))))) bt) (ao (bK (aI (cw hr.units) (ai aq (aa 1) ad (fun _ _=>rfl)) br (aH _)) (ar (aA (av C_turned_where (hr.mono (by decide)) rfl (ac (aa 0) (ac (ah o6 (aa 3) (aa 4)) (ac ad af)))))) bt) (ar (aA (bJ dB rfl T.tuple (by decide +kernel) (ac (dS (vars:=["p"]) (caps:=[(0,"state"),(3,"first"),(4,"second")]) (by change BlkOk (aj lJ).names sA _ _ _;exact⟨rfl,by decide +kernel,by decide +kernel,by decide +kernel,by decide +kernel⟩) rfl (cm rfl T.range (ac (cj jy rfl T.len (by decide +kernel) (ac (aa 0) af)) af)) eL (fun _ _ _ _=>cJ (i:=0) (show(["p","state","first","second"]:List Str).Nodup by decide +kernel) rfl (Or.inl rfl) (.inr rfl)) (fun _ _ _ _=>(ai aq (aa 1) (av C_exchanged (hr.mono (by decide)) rfl (ac (aa 0) (ac (ah o6 (aa 2) (aa 3)) af))) (fun _ _=>rfl)))) af))))))))))))
theorem sc_all_done:FnScope mH ["state","rows"] (aj f8):=⟨rfl,rfl,rfl,by decide +kernel,rfl,by decide +kernel,by decide +kernel⟩
theorem pX{f:Addr}{fd:FuncData}{dV:Value}(F:FunV K "all_done" "all_done" f8 f fd dV)(T:Txt mg)(C_done:Cal P w K mg base "done" 5 cr []):FnOk P w K mg base cM 6 f fd ["state","rows"] (dG K bG):=
 ci (k:=5) (b:=i7) F sc_all_done fun cdv A outer s H E hr=>(ao (gI PassesOwn.never rfl (gi (aa 1)) (fj 2 sc_all_done.nd) (ar (ay 0 sc_all_done.nd (av C_done (hr.mono (by decide)) rfl (ac (aa 0) (ac (aa 2) af)))))) (ar (aA (aa 0))))
theorem sc_value_of:FnScope mE ["bitset","bits"] (aj f6):=⟨rfl,rfl,rfl,by decide +kernel,rfl,by decide +kernel,by decide +kernel⟩
theorem pU{f:Addr}{fd:FuncData}{dV:Value}(F:FunV K "value_of" "value_of" f6 f fd dV)(T:Txt mg):FnOk P w K mg base cM 1 f fd ["bitset","bits"] (dG K bd):=
 ci (k:=0) (b:=i0) F sc_value_of fun cdv A outer s H E hr=>(ao (ay 2 sc_value_of.nd (ah dZ (aa 0) (aa 1))) (ao (ay 3 sc_value_of.nd ad) (ao (vM (fun _=>wN) PassesOwn.never (aI (rX hr.units) (aa 2) ad (aH _)) (ao (ay 2 sc_value_of.nd (ah dZ (aa 2) (ah bR (aa 2) ad))) (ar (ay 3 sc_value_of.nd (ah bR ad (aa 3)))))) (ar (aA (aa 3))))))
theorem Br:FnScope A5 ["bitset","bit"] (aj sP):=⟨rfl,rfl,rfl,by decide +kernel,rfl,by decide +kernel,by decide +kernel⟩
theorem B2{f:Addr}{fd:FuncData}{dV:Value}(F:FunV K "has" "has" sP f fd dV)(T:Txt mg):FnOk P w K mg base cM 1 f fd ["bitset","bit"] (dG K jq):=
 ci (k:=0) (b:=xN) F Br fun cdv A outer s H E hr=>(ar (aA (jX (cw hr.units) (ah dZ (ah nQ (aa 0) (aa 1)) ad) ad (aH _))))
theorem sc_word_times:FnScope N_word_times ["one","other"] (aj ek):=⟨rfl,rfl,rfl,by decide +kernel,rfl,by decide +kernel,by decide +kernel⟩
theorem mP{f:Addr}{fd:FuncData}{dV:Value}(F:FunV K "word_times" "word_times" ek f fd dV)(T:Txt mg)(C_value_of:Cal P w K mg base "value_of" 1 bd []):FnOk P w K mg base cM 2 f fd ["one","other"] (dG K bb):=
 ci (k:=1) (b:=gn) F sc_word_times fun cdv A outer s H E hr=>(ao (ay 2 sc_word_times.nd (ah bX (ah bX (ai aq (aa 0) ad (fun _ _=>rfl)) (ai aq (aa 1) ad (fun _ _=>rfl))) (ah bH ad (av C_value_of (hr.mono (by decide)) rfl (ac (ai aq (aa 0) ad (fun _ _=>rfl)) (ac (ai aq (aa 1) ad (fun _ _=>rfl)) af)))))) (ar (aA (bz (ac (ah fq (ai aq (aa 0) ad (fun _ _=>rfl)) (ai aq (aa 1) ad (fun _ _=>rfl))) (ac (ah fq (ai aq (aa 0) ad (fun _ _=>rfl)) (ai aq (aa 1) ad (fun _ _=>rfl))) (ac (ah bW (aa 2) ad) af)))))))
theorem sc_swing_carried:FnScope gE ["word","bit"] (aj cR):=⟨rfl,rfl,rfl,by decide +kernel,rfl,by decide +kernel,by decide +kernel⟩
theorem jP{f:Addr}{fd:FuncData}{dV:Value}(F:FunV K "swing_carried" "swing_carried" cR f fd dV)(T:Txt mg)(C_value_of:Cal P w K mg base "value_of" 1 bd []):FnOk P w K mg base cM 2 f fd ["word","bit"] (dG K bw):=
 ci (k:=1) (b:=d7) F sc_swing_carried fun cdv A outer s H E hr=>(ao (ay 2 sc_swing_carried.nd (ah dZ (ah fq (ai aq (aa 0) ad (fun _ _=>rfl)) (ai aq (aa 0) ad (fun _ _=>rfl))) (aa 1))) (ao (ay 3 sc_swing_carried.nd (ah bX (ai aq (aa 0) ad (fun _ _=>rfl)) (ah bH ad (av C_value_of (hr.mono (by decide)) rfl (ac (ah dZ (ai aq (aa 0) ad (fun _ _=>rfl)) (ai aq (aa 0) ad (fun _ _=>rfl))) (ac (aa 1) af)))))) (ar (aA (bz (ac (ah fq (ai aq (aa 0) ad (fun _ _=>rfl)) (aa 2)) (ac (ah fq (ai aq (aa 0) ad (fun _ _=>rfl)) (aa 2)) (ac (ah bW (aa 3) ad) af))))))))
theorem sc_turn_carried:FnScope hR ["word","bit","e"] (aj di):=⟨rfl,rfl,rfl,by decide +kernel,rfl,by decide +kernel,by decide +kernel⟩
theorem kE{f:Addr}{fd:FuncData}{dV:Value}(F:FunV K "turn_carried" "turn_carried" di f fd dV)(T:Txt mg):FnOk P w K mg base cM 1 f fd ["word","bit","e"] (dG K aS):=
 ci (k:=0) (b:=cI) F sc_turn_carried fun cdv A outer s H E hr=>(ao (bK (aI (cw hr.units) (ah dZ (ai aq (aa 0) ad (fun _ _=>rfl)) (aa 1)) ad (aH _)) (ar (aA (aa 0))) bt) (ao (bK (aI (cw hr.units) (ah bW (aa 2) ad) ad (aH _)) (ar AB) bt) (ao (ay 3 sc_turn_carried.nd (gk (aI (cw hr.units) (ah bW (aa 2) ad) ad (aH _)) (ah fq (ai aq (aa 0) ad (fun _ _=>rfl)) (aa 1)) (ai aq (aa 0) ad (fun _ _=>rfl)))) (ar (aA (bz (ac (ai aq (aa 0) ad (fun _ _=>rfl)) (ac (aa 3) (ac (ah bW (ah bX (ai aq (aa 0) ad (fun _ _=>rfl)) (ah fR (aa 2) ad)) ad) af)))))))))
theorem sc_tie_carried:FnScope iL ["word","first","second"] (aj dP):=⟨rfl,rfl,rfl,by decide +kernel,rfl,by decide +kernel,by decide +kernel⟩
theorem lP{f:Addr}{fd:FuncData}{dV:Value}(F:FunV K "tie_carried" "tie_carried" dP f fd dV)(T:Txt mg):FnOk P w K mg base cM 1 f fd ["word","first","second"] (dG K aZ):=
 ci (k:=0) (b:=cq) F sc_tie_carried fun cdv A outer s H E hr=>(ao (ay 3 sc_tie_carried.nd (gk (aI (rX hr.units) (ah dZ (ai aq (aa 0) ad (fun _ _=>rfl)) (aa 1)) ad (aH _)) (ah fq (ai aq (aa 0) ad (fun _ _=>rfl)) (aa 2)) (ai aq (aa 0) ad (fun _ _=>rfl)))) (ao (ay 4 sc_tie_carried.nd (gk (aI (rX hr.units) (ah dZ (ai aq (aa 0) ad (fun _ _=>rfl)) (aa 2)) ad (aH _)) (ah fq (ai aq (aa 0) ad (fun _ _=>rfl)) (aa 1)) (ai aq (aa 0) ad (fun _ _=>rfl)))) (ar (aA (bz (ac (aa 3) (ac (aa 4) (ac (ai aq (aa 0) ad (fun _ _=>rfl)) af))))))))
theorem sc_sign_carried:FnScope hU ["word","first","second"] (aj dl):=⟨rfl,rfl,rfl,by decide +kernel,rfl,by decide +kernel,by decide +kernel⟩
theorem kF{f:Addr}{fd:FuncData}{dV:Value}(F:FunV K "sign_carried" "sign_carried" dl f fd dV)(T:Txt mg):FnOk P w K mg base cM 1 f fd ["word","first","second"] (dG K bF):=
 ci (k:=0) (b:=eU) F sc_sign_carried fun cdv A outer s H E hr=>(ao (ay 3 sc_sign_carried.nd (ai aq (aa 0) ad (fun _ _=>rfl))) (ao (bK (aI (rX hr.units) (ah dZ (ai aq (aa 0) ad (fun _ _=>rfl)) (aa 1)) ad (aH _)) (ar (ay 3 sc_sign_carried.nd (ah fq (aa 3) (aa 2)))) bt) (ao (bK (aI (rX hr.units) (ah dZ (ai aq (aa 0) ad (fun _ _=>rfl)) (aa 2)) ad (aH _)) (ar (ay 3 sc_sign_carried.nd (ah fq (aa 3) (aa 1)))) bt) (ao (ay 4 sc_sign_carried.nd (ah o6 (aa 1) (aa 2))) (ao (ay 5 sc_sign_carried.nd (gk (aI (cw hr.units) (ah dZ (ai aq (aa 0) ad (fun _ _=>rfl)) (aa 4)) (aa 4) (aH _)) (ah bX (ai aq (aa 0) ad (fun _ _=>rfl)) ad) (ai aq (aa 0) ad (fun _ _=>rfl)))) (ar (aA (bz (ac (ai aq (aa 0) ad (fun _ _=>rfl)) (ac (aa 3) (ac (ah bW (aa 5) ad) af)))))))))))
theorem sc_carried:FnScope n9 ["wires","word","row"] (aj ip):=⟨rfl,rfl,rfl,by decide +kernel,rfl,by decide +kernel,by decide +kernel⟩
theorem rG{f:Addr}{fd:FuncData}{dV:Value}(F:FunV K "carried" "carried" ip f fd dV)(T:Txt mg)(C_worth:Cal P w K mg base "worth" 1 bO [])(C_swing_carried:Cal P w K mg base "swing_carried" 2 bw [])(C_turn_carried:Cal P w K mg base "turn_carried" 1 aS [])(C_tie_carried:Cal P w K mg base "tie_carried" 1 aZ [])(C_sign_carried:Cal P w K mg base "sign_carried" 1 bF [])(C_exchanged:Cal P w K mg base "exchanged" 1 aP [])(C_value_of:Cal P w K mg base "value_of" 1 bd []):FnOk P w K mg base cM 3 f fd ["wires","word","row"] (dG K aQ):=
 ci (k:=2) (b:=de) F sc_carried fun cdv A outer s H E hr=>(ao (ay 3 sc_carried.nd (av C_worth (hr.mono (by decide)) rfl (ac (aa 0) (ac (ai aq (aa 2) ad (fun _ _=>rfl)) af)))) (ao (bK (aI (cw hr.units) (ai aq (aa 2) ad (fun _ _=>rfl)) br (aH _)) (ar (aA (av C_swing_carried (hr.mono (by decide)) rfl (ac (aa 1) (ac (aa 3) af))))) bt) (ao (bK (aI (cw hr.units) (ai aq (aa 2) ad (fun _ _=>rfl)) br (aH _)) (ar (aA (av C_turn_carried (hr.mono (by decide)) rfl (ac (aa 1) (ac (aa 3) (ac (ai aq (aa 2) ad (fun _ _=>rfl)) af)))))) bt) (ao (bK (aI (cw hr.units) (ai aq (aa 2) ad (fun _ _=>rfl)) br (aH _)) (ar (aA (bz (ac (ai aq (aa 1) ad (fun _ _=>rfl)) (ac (ai aq (aa 1) ad (fun _ _=>rfl)) (ac (ah bW (ah bX (ai aq (aa 1) ad (fun _ _=>rfl)) (ah bH ad (av C_value_of (hr.mono (by decide)) rfl (ac (ai aq (aa 1) ad (fun _ _=>rfl)) (ac (aa 3) af))))) ad) af)))))) bt) (ao (ay 4 sc_carried.nd (av C_worth (hr.mono (by decide)) rfl (ac (aa 0) (ac (ai aq (aa 2) ad (fun _ _=>rfl)) af)))) (ao (bK (aI (cw hr.units) (ai aq (aa 2) ad (fun _ _=>rfl)) br (aH _)) (ar (aA (av C_tie_carried (hr.mono (by decide)) rfl (ac (aa 1) (ac (aa 3) (ac (aa 4) af)))))) bt) (ao (bK (aI (cw hr.units) (ai aq (aa 2) ad (fun _ _=>rfl)) br (aH _)) (ar (aA (av C_sign_carried (hr.mono (by decide)) rfl (ac (aa 1) (ac (aa 3) (ac (aa 4) af)))))) bt) (ar (aA (bz (ac (av C_exchanged (hr.mono (by decide)) rfl (ac (ai aq (aa 1) ad (fun _ _=>rfl)) (ac (ah o6 (aa 3) (aa 4)) af))) (ac (av C_exchanged (hr.mono (by decide)) rfl (ac (ai aq (aa 1) ad (fun _ _=>rfl)) (ac (ah o6 (aa 3) (aa 4)) af))) (ac (ai aq (aa 1) ad (fun _ _=>rfl)) af)))))))))))))
theorem sc_table_of:FnScope gx ["wires","place"] (aj cB):=⟨rfl,rfl,rfl,by decide +kernel,rfl,by decide +kernel,by decide +kernel⟩
theorem pV{f:Addr}{fd:FuncData}{dV:Value}(F:FunV K "table_of" "table_of" cB f fd dV)(T:Txt mg)(C_bits_of:Cal P w K mg base "bits_of" 1 db [])(C_worth:Cal P w K mg base "worth" 1 bO []):FnOk P w K mg base cM 2 f fd ["wires","place"] (dG K b9):=
 ci (k:=1) (b:=i5) F sc_table_of fun cdv A outer s H E hr=>(ao (ay 2 sc_table_of.nd (av C_bits_of (hr.mono (by decide)) rfl (ac (aa 0) (ac (aa 1) af)))) (ao (ay 3 sc_table_of.nd (dS (vars:=["wire"]) (caps:=[(0,"wires")]) (by change BlkOk (aj cB).names gx _ _ _;exact⟨rfl,by decide +kernel,by decide +kernel,by decide +kernel,by decide +kernel⟩) rfl (cm rfl T.range (ac (aa 0) af)) eL (fun _ _ _ _=>cJ (i:=0) (show(["wire","wires"]:List Str).Nodup by decide +kernel) rfl (Or.inl rfl) (.inr rfl)) (fun _ _ _ _=>(av C_worth (hr.mono (by decide)) rfl (ac (aa 1) (ac (aa 0) af)))))) (ar (aA (bJ dB rfl T.tuple (by decide +kernel) (ac (dS (vars:=["wire"]) (caps:=[(2,"bits"),(3,"flips")]) (by change BlkOk (aj cB).names gx _ _ _;exact⟨rfl,by decide +kernel,by decide +kernel,by decide +kernel,by decide +kernel⟩) rfl (cm rfl T.range (ac (aa 0) af)) eL (fun _ _ _ _=>cJ (i:=0) (show(["wire","bits","flips"]:List Str).Nodup by decide +kernel) rfl (Or.inl rfl) (.inr rfl)) (fun _ _ _ _=>(bz (ac (bz (ac (ai aq (aa 2) (aa 0) (fun _ _=>rfl)) (ac ad (ac ad af)))) (ac (bz (ac ad (ac (ai aq (aa 2) (aa 0) (fun _ _=>rfl)) (ac (ah bH ad (ai aq (aa 1) (aa 0) (fun _ _=>rfl))) af)))) af))))) af))))))
theorem mN:FnScope gz ["rows"] (aj dq):=⟨rfl,rfl,rfl,by decide +kernel,rfl,by decide +kernel,by decide +kernel⟩
theorem mR{f:Addr}{fd:FuncData}{dV:Value}(F:FunV K "refuse_odd" "refuse_odd" dq f fd dV)(T:Txt mg):FnOk P w K mg base cM 1 f fd ["rows"] (dG K ca):=
 ci (k:=0) (b:=gq) F mN fun cdv A outer s H E hr=>(ar (bK (rd (cj (ER rfl) rfl T.any (by decide +kernel) (ac (dS (vars:=["row"]) (caps:=[]) (by change BlkOk (aj dq).names gz _ _ _;exact⟨rfl,by decide +kernel,by decide +kernel,by decide +kernel,by decide +kernel⟩) rfl (gi (aa 0)) eL (fun _ _ _ _=>cJ (i:=0) (show(["row"]:List Str).Nodup by decide +kernel) rfl (Or.inl rfl) (.inr rfl)) (fun _ _ _ _=>(CH (jX (cw hr.units) (ai aq (aa 0) ad (fun _ _=>rfl)) br (aH _)) (CD (jX (cw hr.units) (ah bW (ai aq (aa 0) ad (fun _ _=>rfl)) ad) ad (aH _)))))) af))) (ar AB) bt))
theorem sc_table_done:FnScope gy ["table","row"] (aj dj):=⟨rfl,rfl,rfl,by decide +kernel,rfl,by decide +kernel,by decide +kernel⟩
theorem mQ{f:Addr}{fd:FuncData}{dV:Value}(F:FunV K "table_done" "table_done" dj f fd dV)(T:Txt mg)(C_refuse_odd:Cal P w K mg base "refuse_odd" 1 ca [])(C_carried:Cal P w K mg base "carried" 3 aQ []):FnOk P w K mg base cM 4 f fd ["table","row"] (dG K bP):=
 ci (k:=3) (b:=gp) F sc_table_done fun cdv A outer s H E hr=>(ao (yC (av C_refuse_odd (hr.mono (by decide)) rfl (ac (bz (ac (aa 1) af)) af))) (ao (ay 2 sc_table_done.nd (cj jy rfl T.len (by decide +kernel) (ac (aa 0) af))) (ar (aA (bJ dB rfl T.tuple (by decide +kernel) (ac (dS (vars:=["pair"]) (caps:=[(1,"row"),(2,"wires")]) (by change BlkOk (aj dj).names gy _ _ _;exact⟨rfl,by decide +kernel,by decide +kernel,by decide +kernel,by decide +kernel⟩) rfl (gi (aa 0)) eL (fun _ _ _ _=>cJ (i:=0) (show(["pair","row","wires"]:List Str).Nodup by decide +kernel) rfl (Or.inl rfl) (.inr rfl)) (fun _ _ _ _=>(bz (ac (av C_carried (hr.mono (by decide)) rfl (ac (aa 2) (ac (ai aq (aa 0) ad (fun _ _=>rfl)) (ac (aa 1) af)))) (ac (av C_carried (hr.mono (by decide)) rfl (ac (aa 2) (ac (ai aq (aa 0) ad (fun _ _=>rfl)) (ac (aa 1) af)))) af))))) af))))))
theorem pL:FnScope mG ["bitset"] (aj f7):=⟨rfl,rfl,rfl,by decide +kernel,rfl,by decide +kernel,by decide +kernel⟩
theorem pW{f:Addr}{fd:FuncData}{dV:Value}(F:FunV K "greatest" "greatest" f7 f fd dV)(T:Txt mg):FnOk P w K mg base cM 1 f fd ["bitset"] (dG K cG):=
 ci (k:=0) (b:=i6) F pL fun cdv A outer s H E hr=>(ar (aA (ah bR (oZ (aa 0)) ad)))
theorem sc_cleared:FnScope ke ["things","bits_in","product"] (aj fK):=⟨rfl,rfl,rfl,by decide +kernel,rfl,by decide +kernel,by decide +kernel⟩
theorem rF{f:Addr}{fd:FuncData}{dV:Value}(F:FunV K "cleared" "cleared" fK f fd dV)(T:Txt mg)(C_has:Cal P w K mg base "has" 1 jq [])(C_greatest:Cal P w K mg base "greatest" 1 cG [])(G_shl:PySem.W.nsIn K mainGlobals "<lambda> shl" = some none)(V_word_times:CalF P w K mg base "word_times" 2 bb):FnOk P w K mg base cM 3 f fd ["things","bits_in","product"] (dG K eI):=
 ci (k:=2) (b:=j6) F sc_cleared fun cdv A outer s H E hr=>(ao (ou 3 sc_cleared.nd af) (ao (gI PassesOwn.never rfl (gi (aa 0)) (fj 4 sc_cleared.nd) (ao (pF 3 (gI PassesOwn.never rfl (gi (aa 3)) (fj 5 sc_cleared.nd) (ar (bK (rd (av C_has (hr.mono (by decide)) rfl (ac (g6 1 (k:=0) G_shl (hr.mono (by decide)) (ac (aa 4) af)) (ac (av C_greatest (hr.mono (by decide)) rfl (ac (g6 1 (k:=0) G_shl (hr.mono (by decide)) (ac (aa 5) af)) af)) af)))) (ar (ay 4 sc_cleared.nd (qt 2 (k:=2) (tG (by decide) V_word_times xb) (hr.mono (by decide)) (ac (aa 4) (ac (aa 5) af))))) bt)))) (ar (bK (aI (rX hr.units) (g6 1 (k:=0) G_shl (hr.mono (by decide)) (ac (aa 4) af)) ad (aH _)) (ao (ay 6 sc_cleared.nd (av C_greatest (hr.mono (by decide)) rfl (ac (g6 1 (k:=0) G_shl (hr.mono (by decide)) (ac (aa 4) af)) af))) (ao (vO 3 sc_cleared.nd (vars:=["other"]) (caps:=[(1,"bits_in"),(2,"product"),(4,"thing"),(6,"top")]) (by change BlkOk (aj fK).names ke _ _ _;exact⟨rfl,by decide +kernel,by decide +kernel,by decide +kernel,by decide +kernel⟩) rfl (gi (aa 3)) eL (fun _ _ _ _=>cJ (i:=0) (show(["other","bits_in","product","thing","top"]:List Str).Nodup by decide +kernel) rfl (Or.inl rfl) (.inr rfl)) (fun _ _ _ _=>(gk (rd (av C_has (hr.mono (by decide)) rfl (ac (g6 1 (k:=0) G_shl (hr.mono (by decide)) (ac (aa 0) af)) (ac (aa 4) af)))) (qt 2 (k:=2) (tG (by decide) V_word_times xb) (hr.mono (by decide)) (ac (aa 0) (ac (aa 3) af))) (aa 0)))) (ar (jI 3 (aa 4))))) bt)))) (ar (pF 3 (aA (aa 3))))))
theorem sc_settled:FnScope kb ["table"] (aj fI):=⟨rfl,rfl,rfl,by decide +kernel,rfl,by decide +kernel,by decide +kernel⟩
theorem rE{f:Addr}{fd:FuncData}{dV:Value}(F:FunV K "settled" "settled" fI f fd dV)(T:Txt mg){cT tT:Addr}(hns:PySem.W.nsIn K mainGlobals "settled" = some (some (.ref f)))(hT:PySem.W.tabIn K "settled" = some (cT,tT))(C_cleared:Cal P w K mg base "cleared" 3 eI [])(N_word_times:Fnm K mg "word_times")(G_shl:PySem.W.nsIn K mainGlobals "<lambda> shl" = some none):FnOk P w K mg base cM 4 f fd ["table"] (dG K da):=
 EE (k:=3) (b1:=(aL 1 (os (ae (oV 0) (au)) eA))) (b2:=(sSeq (aL 2 (os (ae (gd) (ae (zg "<lambda> shl" 1) (ae (oC (CB "word_times")) (au)))) eI)) (aV (os (ae (o1 (oV 2) lF) (au)) bY)))) hns hT F sc_settled rfl (fun A outer s H E hr=>(ay 1 sc_settled.nd (cj jy rfl T.len (by decide +kernel) (ac (aa 0) af)))) (fun A outer s H E hr=>(ao (ay 2 sc_settled.nd (av C_cleared (hr.mono (by decide)) rfl (ac (dS (vars:=["pair"]) (caps:=[]) (by change BlkOk (aj fI).names kb _ _ _;exact⟨rfl,by decide +kernel,by decide +kernel,by decide +kernel,by decide +kernel⟩) rfl (gi (aa 0)) eL (fun _ _ _ _=>cJ (i:=0) (show(["pair"]:List Str).Nodup by decide +kernel) rfl (Or.inl rfl) (.inr rfl)) (fun _ _ _ _=>(ai aq (aa 0) ad (fun _ _=>rfl)))) (ac (zR 1 .shl G_shl (by decide) hT rfl rfl rfl rfl rfl) (ac (xl N_word_times rfl) af))))) (ar (aA (bJ dB rfl T.tuple (by decide +kernel) (ac (xi rfl T.sorted (aa 2)) af))))))
theorem kC:FnScope ic ["script","k"] (aj dt):=⟨rfl,rfl,rfl,by decide +kernel,rfl,by decide +kernel,by decide +kernel⟩
theorem kG{f:Addr}{fd:FuncData}{dV:Value}(F:FunV K "_law_cell_at" "_law_cell_at" dt f fd dV)(T:Txt mg):FnOk P w K mg base cM 1 f fd ["script","k"] (dG K aT):=
 ci (k:=0) (b:=dE) F kC fun cdv A outer s H E hr=>(ao (bK (aI Gv (aa 1) (cj jy rfl T.len (by decide +kernel) (ac (aa 0) af)) (aH _)) (ar (aA (ai aq (aa 0) (aa 1) (fun _ _=>rfl)))) bt) (ar (aA ad)))
theorem sc__law_row:FnScope mI ["cell","wires"] (aj f9):=⟨rfl,rfl,rfl,by decide +kernel,rfl,by decide +kernel,by decide +kernel⟩
theorem pY{f:Addr}{fd:FuncData}{dV:Value}(F:FunV K "_law_row" "_law_row" f9 f fd dV)(T:Txt mg):FnOk P w K mg base cM 1 f fd ["cell","wires"] (dG K aN):=
 ci (k:=0) (b:=cV) F sc__law_row fun cdv A outer s H E hr=>(ao (ay 2 sc__law_row.nd (ai aq (xk (ac br (ac br (ac br (ac br (ac br (ac br af))))))) (ah bW (aa 0) ad) (fun _ _=>rfl))) (ao (bK (aI (cw hr.units) (aa 1) ad (aH _)) (ar (ay 2 sc__law_row.nd (ai aq (xk (ac br (ac br (ac br af)))) (ah bW (aa 0) ad) (fun _ _=>rfl)))) bt) (ao (ay 3 sc__law_row.nd (ah bW (ah fR (aa 0) ad) (aa 1))) (ao (bK (aI (cw hr.units) (aa 2) br (aH _)) (ar (aA (bz (ac br (ac (aa 3) (ac (ah bX ad (ah bH ad (ah bW (ah fR (aa 0) ad) ad))) af)))))) bt) (ao (bK (WV.tv (vt (aI (cw hr.units) (aa 2) br (aH _)) (vr (aI (cw hr.units) (aa 2) br (aH _))))) (ar (aA (bz (ac (aa 2) (ac (aa 3) af))))) bt) (ar (aA (bz (ac (aa 2) (ac (aa 3) (ac (ah bW (ah bX (ah bX (aa 3) ad) (ah bW (ah fR (aa 0) ad) (ah bR (aa 1) ad))) (aa 1)) af)))))))))))
theorem oB:FnScope kz ["row"] (aj ff):=⟨rfl,rfl,rfl,by decide +kernel,rfl,by decide +kernel,by decide +kernel⟩
theorem oM{f:Addr}{fd:FuncData}{dV:Value}(F:FunV K "_law_back" "_law_back" ff f fd dV)(T:Txt mg):FnOk P w K mg base cM 1 f fd ["row"] (dG K bq):=
 ci (k:=0) (b:=fA) F oB fun cdv A outer s H E hr=>(ao (bK (aI (cw hr.units) (ai aq (aa 0) ad (fun _ _=>rfl)) br (aH _)) (ar (aA (bz (ac br (ac (ai aq (aa 0) ad (fun _ _=>rfl)) (ac (ah bR ad (ai aq (aa 0) ad (fun _ _=>rfl))) af)))))) bt) (ar (aA (aa 0))))
theorem sc__law_rows:FnScope kx ["cells","wires"] (aj fb):=⟨rfl,rfl,rfl,by decide +kernel,rfl,by decide +kernel,by decide +kernel⟩
theorem oK{f:Addr}{fd:FuncData}{dV:Value}(F:FunV K "_law_rows" "_law_rows" fb f fd dV)(T:Txt mg)(C__law_row:Cal P w K mg base "_law_row" 1 aN [])(C__law_back:Cal P w K mg base "_law_back" 1 bq []):FnOk P w K mg base cM 2 f fd ["cells","wires"] (dG K cH):=
 ci (k:=1) (b:=hJ) F sc__law_rows fun cdv A outer s H E hr=>(ao (ou 2 sc__law_rows.nd af) (ao (ou 3 sc__law_rows.nd af) (ao (gI PassesOwn.never rfl (gi (aa 0)) (fj 4 sc__law_rows.nd) (ao (ay 5 sc__law_rows.nd (av C__law_row (hr.mono (by decide)) rfl (ac (ah fR (aa 4) ad) (ac (aa 1) af)))) (ar (bK (aI (cw hr.units) (ah bW (aa 4) ad) ad (aH _)) (ao (jI 2 (aa 5)) (ar (jI 3 (aa 5)))) (ar (bK (aI (cw hr.units) (ah bW (ah fR (aa 4) ad) ad) ad (aH _)) (ar (jI 3 (aa 5))) (ao (ay 6 sc__law_rows.nd (ah bW (ah fR (aa 4) ad) (ah bX (zQ 3 rfl T.len) ad))) (ao (vN 3 (aa 6) (aa 5)) (ar (vN 3 (ah bX (aa 6) ad) (av C__law_back (hr.mono (by decide)) rfl (ac (aa 5) af)))))))))))) (ar (pF 3 (pF 2 (aA (bz (ac (aa 2) (ac (aa 3) af))))))))))
theorem sc__law_table:FnScope jE ["rows","wires","place"] (aj en):=⟨rfl,rfl,rfl,by decide +kernel,rfl,by decide +kernel,by decide +kernel⟩
theorem mT{f:Addr}{fd:FuncData}{dV:Value}(F:FunV K "_law_table" "_law_table" en f fd dV)(T:Txt mg)(C_table_of:Cal P w K mg base "table_of" 2 b9 [])(C_table_done:Cal P w K mg base "table_done" 4 bP []):FnOk P w K mg base cM 5 f fd ["rows","wires","place"] (dG K bo):=
 ci (k:=4) (b:=gw) F sc__law_table fun cdv A outer s H E hr=>(ao (ay 3 sc__law_table.nd (av C_table_of (hr.mono (by decide)) rfl (ac (aa 1) (ac (aa 2) af)))) (ao (gI PassesOwn.never rfl (gi (aa 0)) (fj 4 sc__law_table.nd) (ar (ay 3 sc__law_table.nd (av C_table_done (hr.mono (by decide)) rfl (ac (aa 3) (ac (aa 4) af)))))) (ar (aA (aa 3)))))
theorem sc__law_alike:FnScope jF ["first","second"] (aj eu):=⟨rfl,rfl,rfl,by decide +kernel,rfl,by decide +kernel,by decide +kernel⟩
theorem mU{f:Addr}{fd:FuncData}{dV:Value}(F:FunV K "_law_alike" "_law_alike" eu f fd dV)(T:Txt mg)(C_times:Cal P w K mg base "times" 3 dR []):FnOk P w K mg base cM 4 f fd ["first","second"] (dG K bp):=
 ci (k:=3) (b:=eF) F sc__law_alike fun cdv A outer s H E hr=>(ao (gI PassesOwn.never rfl (cm rfl T.range (ac (cj jy rfl T.len (by decide +kernel) (ac (aa 0) af)) af)) (fj 2 sc__law_alike.nd) (ar (gI PassesOwn.never rfl (cm rfl T.range (ac (aa 2) af)) (fj 3 sc__law_alike.nd) (ar (bK (aI (rX hr.units) (av C_times (hr.mono (by decide)) rfl (ac (ai aq (aa 0) (aa 2) (fun _ _=>rfl)) (ac (ai aq (aa 1) (aa 3) (fun _ _=>rfl)) af))) (av C_times (hr.mono (by decide)) rfl (ac (ai aq (aa 0) (aa 3) (fun _ _=>rfl)) (ac (ai aq (aa 1) (aa 2) (fun _ _=>rfl)) af))) (aH _)) (ar (aA AX)) bt))))) (ar (aA AX)))
theorem sc_law:FnScope A4 ["script"] (aj je):=⟨rfl,rfl,rfl,by decide +kernel,rfl,by decide +kernel,by decide +kernel⟩
theorem B1{f:Addr}{fd:FuncData}{dV:Value}(F:FunV K "law" "law" je f fd dV)(T:Txt mg)(C__law_rows:Cal P w K mg base "_law_rows" 2 cH [])(C_all_done:Cal P w K mg base "all_done" 6 bG [])(C__law_cell_at:Cal P w K mg base "_law_cell_at" 1 aT [])(C_beginning:Cal P w K mg base "beginning" 1 bC [])(C_settled:Cal P w K mg base "settled" 4 da [])(C__law_alike:Cal P w K mg base "_law_alike" 4 bp [])(C__law_table:Cal P w K mg base "_law_table" 5 bo []):FnOk P w K mg base cM 7 f fd ["script"] (dG K qr):=
 ci (k:=6) (b:=xM) F sc_law fun cdv A outer s H E hr=>(ao (ay 1 sc_law.nd (ah bX ad (ah bW (av C__law_cell_at (hr.mono (by decide)) rfl (ac (aa 0) (ac ad af))) ad))) (ao (ay 2 sc_law.nd (ah bW (av C__law_cell_at (hr.mono (by decide)) rfl (ac (aa 0) (ac ad af))) (ah km ad (aa 1)))) (ao (ay 3 sc_law.nd (av C__law_rows (hr.mono (by decide)) rfl (ac (xj (aa 0) (sY ad) (sY (ah bR ad (ah bH ad (bJ EQ rfl T.int (by decide +kernel) (ac (jX (cw hr.units) (aa 1) ad (aH _)) af)))))) (ac (aa 1) af)))) (ao (ay 4 sc_law.nd (av C_all_done (hr.mono (by decide)) rfl (ac (av C_beginning (hr.mono (by decide)) rfl (ac (aa 1) (ac (aa 2) af))) (ac (bJ dB rfl T.tuple (by decide +kernel) (ac (ai aq (aa 3) ad (fun _ _=>rfl)) af)) af)))) (ao (ay 5 sc_law.nd (av C_all_done (hr.mono (by decide)) rfl (ac (av C_beginning (hr.mono (by decide)) rfl (ac (aa 1) (ac (aa 2) af))) (ac (bJ dB rfl T.tuple (by decide +kernel) (ac (ai aq (aa 3) ad (fun _ _=>rfl)) af)) af)))) (ao (ay 6 sc_law.nd (jX (cw hr.units) (av C_settled (hr.mono (by decide)) rfl (ac (av C__law_table (hr.mono (by decide)) rfl (ac (ai aq (aa 3) ad (fun _ _=>rfl)) (ac (aa 1) (ac (aa 2) af)))) af)) (av C_settled (hr.mono (by decide)) rfl (ac (av C__law_table (hr.mono (by decide)) rfl (ac (ai aq (aa 3) ad (fun _ _=>rfl)) (ac (aa 1) (ac (aa 2) af)))) af)) (aH _))) (ar (aA (jX (cw hr.units) (aa 6) (av C__law_alike (hr.mono (by decide)) rfl (ac (aa 4) (ac (aa 5) af))) (aH _))))))))))
end
theorem mq:aF "twos_shared" dO ["joined","most"]:=fun _ _ _ _ _ _ us hl=>by obtain⟨_,_,rfl⟩:=eR hl;exact rfl
theorem sk:aF "by_root" iq ["a","b","c","d"]:=fun _ _ _ _ _ _ us hl=>by obtain⟨_,_,_,_,rfl⟩:=Ei hl;exact rfl
theorem m9:aF "parts_over" el ["x","k"]:=fun _ _ _ _ _ _ us hl=>by obtain⟨_,_,rfl⟩:=eR hl;exact rfl
theorem Aj:aF "plus" oD ["x","y"]:=fun _ _ _ _ _ _ us hl=>by obtain⟨_,_,rfl⟩:=eR hl;exact rfl
theorem xK:aF "times" kY ["x","y"]:=fun _ _ _ _ _ _ us hl=>by obtain⟨_,_,rfl⟩:=eR hl;exact rfl
theorem sr:aF "against" ir ["x"]:=fun _ _ _ _ _ _ us hl=>by obtain⟨_,rfl⟩:=rP hl;exact rfl
theorem ve:aF "turned" jd ["x","e"]:=fun _ _ _ _ _ _ us hl=>by obtain⟨_,_,rfl⟩:=eR hl;exact rfl
theorem vf:aF "halved" jf ["x"]:=fun _ _ _ _ _ _ us hl=>by obtain⟨_,rfl⟩:=rP hl;exact rfl
theorem xJ:aF "worth" kX ["wires","wire"]:=fun _ _ _ _ _ _ us hl=>by obtain⟨_,_,rfl⟩:=eR hl;exact rfl
theorem sn:aF "bits_of" fL ["wires","place"]:=fun _ _ _ _ _ _ us hl=>by obtain⟨_,_,rfl⟩:=eR hl;exact rfl
theorem xL:aF "swung" kZ ["state","bit"]:=fun _ _ _ _ _ _ us hl=>by obtain⟨_,_,rfl⟩:=eR hl;exact rfl
theorem kK:aF "turned_where" cA ["state","held","e"]:=fun _ _ _ _ _ _ us hl=>by obtain⟨_,_,_,rfl⟩:=oS hl;exact rfl
theorem j5:aF "flipped_where" cf ["state","held","bit"]:=fun _ _ _ _ _ _ us hl=>by obtain⟨_,_,_,rfl⟩:=oS hl;exact rfl
theorem o9:aF "exchanged" e9 ["place","both"]:=fun _ _ _ _ _ _ us hl=>by obtain⟨_,_,rfl⟩:=eR hl;exact rfl
theorem Ak:aF "done" lJ ["state","row"]:=fun _ _ _ _ _ _ us hl=>by obtain⟨_,_,rfl⟩:=eR hl;exact rfl
theorem qN:aF "all_done" f8 ["state","rows"]:=fun _ _ _ _ _ _ us hl=>by obtain⟨_,_,rfl⟩:=eR hl;exact rfl
theorem qL:aF "value_of" f6 ["bitset","bits"]:=fun _ _ _ _ _ _ us hl=>by obtain⟨_,_,rfl⟩:=eR hl;exact rfl
theorem CS:aF "has" sP ["bitset","bit"]:=fun _ _ _ _ _ _ us hl=>by obtain⟨_,_,rfl⟩:=eR hl;exact rfl
theorem m6:aF "word_times" ek ["one","other"]:=fun _ _ _ _ _ _ us hl=>by obtain⟨_,_,rfl⟩:=eR hl;exact rfl
theorem j4:aF "swing_carried" cR ["word","bit"]:=fun _ _ _ _ _ _ us hl=>by obtain⟨_,_,rfl⟩:=eR hl;exact rfl
theorem kL:aF "turn_carried" di ["word","bit","e"]:=fun _ _ _ _ _ _ us hl=>by obtain⟨_,_,_,rfl⟩:=oS hl;exact rfl
theorem mr:aF "tie_carried" dP ["word","first","second"]:=fun _ _ _ _ _ _ us hl=>by obtain⟨_,_,_,rfl⟩:=oS hl;exact rfl
theorem kM:aF "sign_carried" dl ["word","first","second"]:=fun _ _ _ _ _ _ us hl=>by obtain⟨_,_,_,rfl⟩:=oS hl;exact rfl
theorem sh:aF "carried" ip ["wires","word","row"]:=fun _ _ _ _ _ _ us hl=>by obtain⟨_,_,_,rfl⟩:=oS hl;exact rfl
theorem m8:aF "refuse_odd" dq ["rows"]:=fun _ _ _ _ _ _ us hl=>by obtain⟨_,rfl⟩:=rP hl;exact rfl
theorem m7:aF "table_done" dj ["table","row"]:=fun _ _ _ _ _ _ us hl=>by obtain⟨_,_,rfl⟩:=eR hl;exact rfl
theorem qM:aF "greatest" f7 ["bitset"]:=fun _ _ _ _ _ _ us hl=>by obtain⟨_,rfl⟩:=rP hl;exact rfl
theorem sg:aF "cleared" fK ["things","bits_in","product"]:=fun _ _ _ _ _ _ us hl=>by obtain⟨_,_,_,rfl⟩:=oS hl;exact rfl
theorem sf:aF "settled" fI ["table"]:=fun _ _ _ _ _ _ us hl=>by obtain⟨_,rfl⟩:=rP hl;exact rfl
theorem kN:aF "_law_cell_at" dt ["script","k"]:=fun _ _ _ _ _ _ us hl=>by obtain⟨_,_,rfl⟩:=eR hl;exact rfl
theorem qO:aF "_law_row" f9 ["cell","wires"]:=fun _ _ _ _ _ _ us hl=>by obtain⟨_,_,rfl⟩:=eR hl;exact rfl
theorem pc:aF "_law_back" ff ["row"]:=fun _ _ _ _ _ _ us hl=>by obtain⟨_,rfl⟩:=rP hl;exact rfl
theorem pb:aF "_law_rows" fb ["cells","wires"]:=fun _ _ _ _ _ _ us hl=>by obtain⟨_,_,rfl⟩:=eR hl;exact rfl
theorem nc:aF "_law_table" en ["rows","wires","place"]:=fun _ _ _ _ _ _ us hl=>by obtain⟨_,_,_,rfl⟩:=oS hl;exact rfl
theorem ng:aF "_law_alike" eu ["first","second"]:=fun _ _ _ _ _ _ us hl=>by obtain⟨_,_,rfl⟩:=eR hl;exact rfl
theorem CY{l:PySem.W.OpenLaw}{w:World}{K:PySem.W.Frag}{h:Heap}{mg:Str->Option Value}{fa f2 f11 f26 f38 t2 t11 t26 f_NOUGHT f_ONE:Addr}{od2 an2 od11 an11 od26 an26 od38 an38 td2 td11 td26:Option Addr}{sl2 sl11 sl26 sl38 ts2 ts11 ts26 ts_NOUGHT ts_ONE:Array (Option Value)}{oc2 kV2 dc2 pm2 cd2 ct2 oc11 kV11 dc11 pm11 cd11 ct11 oc26 kV26 dc26 pm26 cd26 ct26 oc38 kV38 dc38 pm38 cd38 ct38 tc2 tc11 tc26:Value}{tn2 tn11 tn26 tn_NOUGHT tn_ONE:Nat}{tk2_0 tk11_0 tk26_0 tk_NOUGHT_0 tk_NOUGHT_1 tk_NOUGHT_2 tk_NOUGHT_3 tk_NOUGHT_4 tk_ONE_0 tk_ONE_1 tk_ONE_2 tk_ONE_3 tk_ONE_4:Tok}(X:K.In h)(G:h.Ns mainGlobals mg)(hfa:mg "law" = some (.ref fa))
  (D0:DefIn K "twos_shared" "twos_shared" dO)
  (D1:DefIn K "by_root" "by_root" iq)
  (a2:PySem.W.nsIn K mainGlobals "number" = some (some (.ref f2))) (l2:K.lookup f2=some ⟨oc2,od2,.func (PySem.W.fnOf "number" "number" (cu fJ) (bI fJ) (aj fJ) (.ref t2) kV2 dc2 pm2 an2 cd2 ct2),sl2⟩) (c2:PySem.W.codeIn K cd2 "number" = true) (k2:PySem.W.keepIn K (.ref f2)=true)
  (d2:K.lookup t2=some ⟨tc2,td2,.seq #[.int 0 tk2_0] tn2,ts2⟩)
  (D3:DefIn K "parts_over" "parts_over" el)
  (D4:DefIn K "plus" "plus" oD)
  (D5:DefIn K "times" "times" kY)
  (D6:DefIn K "against" "against" ir)
  (D7:DefIn K "turned" "turned" jd)
  (D8:DefIn K "halved" "halved" jf)
  (D9:DefIn K "worth" "worth" kX)
  (D10:DefIn K "bits_of" "bits_of" fL)
  (a11:PySem.W.nsIn K mainGlobals "beginning" = some (some (.ref f11))) (l11:K.lookup f11=some ⟨oc11,od11,.func (PySem.W.fnOf "beginning" "beginning" (cu cC) (bI cC) (aj cC) (.ref t11) kV11 dc11 pm11 an11 cd11 ct11),sl11⟩) (c11:PySem.W.codeIn K cd11 "beginning" = true) (k11:PySem.W.keepIn K (.ref f11)=true)
  (d11:K.lookup t11=some ⟨tc11,td11,.seq #[.int 0 tk11_0] tn11,ts11⟩)
  (D12:DefIn K "swung" "swung" kZ)
  (D13:DefIn K "turned_where" "turned_where" cA)
  (D14:DefIn K "flipped_where" "flipped_where" cf)
  (D15:DefIn K "exchanged" "exchanged" e9)
  (D16:DefIn K "done" "done" lJ)
  (D17:DefIn K "all_done" "all_done" f8)
  (D18:DefIn K "value_of" "value_of" f6)
  (D19:DefIn K "has" "has" sP)
  (D20:DefIn K "word_times" "word_times" ek)
  (D21:DefIn K "swing_carried" "swing_carried" cR)
  (D22:DefIn K "turn_carried" "turn_carried" di)
  (D23:DefIn K "tie_carried" "tie_carried" dP)
  (D24:DefIn K "sign_carried" "sign_carried" dl)
  (D25:DefIn K "carried" "carried" ip)
  (a26:PySem.W.nsIn K mainGlobals "table_of" = some (some (.ref f26))) (l26:K.lookup f26=some ⟨oc26,od26,.func (PySem.W.fnOf "table_of" "table_of" (cu cB) (bI cB) (aj cB) (.ref t26) kV26 dc26 pm26 an26 cd26 ct26),sl26⟩) (c26:PySem.W.codeIn K cd26 "table_of" = true) (k26:PySem.W.keepIn K (.ref f26)=true)
  (d26:K.lookup t26=some ⟨tc26,td26,.seq #[.int 0 tk26_0] tn26,ts26⟩)
  (D27:DefIn K "refuse_odd" "refuse_odd" dq)
  (D28:DefIn K "table_done" "table_done" dj)
  (D29:DefIn K "greatest" "greatest" f7)
  (D30:DefIn K "cleared" "cleared" fK)
  (D31:DefIn K "settled" "settled" fI)
  (D32:DefIn K "_law_cell_at" "_law_cell_at" dt)
  (D33:DefIn K "_law_row" "_law_row" f9)
  (D34:DefIn K "_law_back" "_law_back" ff)
  (D35:DefIn K "_law_rows" "_law_rows" fb)
  (D36:DefIn K "_law_table" "_law_table" en)
  (D37:DefIn K "_law_alike" "_law_alike" eu)
  (a38:PySem.W.nsIn K mainGlobals "law" = some (some (.ref f38))) (l38:K.lookup f38=some ⟨oc38,od38,.func (PySem.W.fnOf "law" "law" (cu je) (bI je) (aj je) .none kV38 dc38 pm38 an38 cd38 ct38),sl38⟩) (c38:PySem.W.codeIn K cd38 "law" = true) (k38:PySem.W.keepIn K (.ref f38)=true)
  (z_min:PySem.W.nsIn K mainGlobals "min" = some none)
  (z_max:PySem.W.nsIn K mainGlobals "max" = some none)
  (z_tuple:PySem.W.nsIn K mainGlobals "tuple" = some none)
  (z_range:PySem.W.nsIn K mainGlobals "range" = some none)
  (z_len:PySem.W.nsIn K mainGlobals "len" = some none)
  (z_any:PySem.W.nsIn K mainGlobals "any" = some none)
  (z_sorted:PySem.W.nsIn K mainGlobals "sorted" = some none)
  (z_int:PySem.W.nsIn K mainGlobals "int" = some none)
  (zG_shl:PySem.W.nsIn K mainGlobals "<lambda> shl" = some none)
  (hs_settled:(PySem.W.tabIn K "settled").isSome=true)
  (a_NOUGHT:PySem.W.nsIn K mainGlobals "NOUGHT" = some (some (.ref f_NOUGHT))) (d_NOUGHT:K.lookup f_NOUGHT=some ⟨.type "tuple",none,.seq #[.int 0 tk_NOUGHT_0,.int 0 tk_NOUGHT_1,.int 0 tk_NOUGHT_2,.int 0 tk_NOUGHT_3,.int 0 tk_NOUGHT_4] tn_NOUGHT,ts_NOUGHT⟩)
  (a_ONE:PySem.W.nsIn K mainGlobals "ONE" = some (some (.ref f_ONE))) (d_ONE:K.lookup f_ONE=some ⟨.type "tuple",none,.seq #[.int 1 tk_ONE_0,.int 0 tk_ONE_1,.int 0 tk_ONE_2,.int 0 tk_ONE_3,.int 0 tk_ONE_4] tn_ONE,ts_ONE⟩)
   :∃fd:FuncData,(∀(s:Shared) (v:Value),BindsTo s fd ⟨[v],[]⟩ [("script",v)])/\∀base:Heap,K.In base->base.Ns mainGlobals mg->FnOk l.prog w K mg base cM 7 fa fd ["script"] (pH K):=by
 have e:=hfa.symm.trans (PySem.W.mg_of X G a38);cases e;have T:Txt mg:=⟨PySem.W.mg_none_of X G z_min,PySem.W.mg_none_of X G z_max,PySem.W.mg_none_of X G z_tuple,PySem.W.mg_none_of X G z_range,PySem.W.mg_none_of X G z_len,PySem.W.mg_none_of X G z_any,PySem.W.mg_none_of X G z_sorted,PySem.W.mg_none_of X G z_int⟩;have T_NOUGHT:TopV K mg "NOUGHT" (.tuple [.int 0,.int 0,.int 0,.int 0,.int 0]):=TopV.tup (xs:=[.int 0,.int 0,.int 0,.int 0,.int 0]) (PySem.W.mg_of X G a_NOUGHT) d_NOUGHT (by simp[sizeLine]) (.cons ⟨_,rfl⟩ (.cons ⟨_,rfl⟩ (.cons ⟨_,rfl⟩ (.cons ⟨_,rfl⟩ (.cons ⟨_,rfl⟩ (.nil)))))) fun _=>.cons (.int _) (.cons (.int _) (.cons (.int _) (.cons (.int _) (.cons (.int _) (.nil)))))
 have T_ONE:TopV K mg "ONE" (.tuple [.int 1,.int 0,.int 0,.int 0,.int 0]):=TopV.tup (xs:=[.int 1,.int 0,.int 0,.int 0,.int 0]) (PySem.W.mg_of X G a_ONE) d_ONE (by simp[sizeLine]) (.cons ⟨_,rfl⟩ (.cons ⟨_,rfl⟩ (.cons ⟨_,rfl⟩ (.cons ⟨_,rfl⟩ (.cons ⟨_,rfl⟩ (.nil)))))) fun _=>.cons (.int _) (.cons (.int _) (.cons (.int _) (.cons (.int _) (.cons (.int _) (.nil)))))
 have F2:=jr (st:=fJ) l2 c2 k2;have F11:=jr (st:=cC) l11 c11 k11;have F26:=jr (st:=cB) l26 c26 k26;have F38:=jr (st:=je) l38 c38 k38;have N_word_times:Fnm K mg "word_times":=D20.fnm X G;refine⟨PySem.W.fnOf "law" "law" (cu je) (bI je) (aj je) .none kV38 dc38 pm38 an38 cd38 ct38,fun s v=>.of_eq rfl,fun base _ _=>?_⟩
 have G_shl:PySem.W.nsIn K mainGlobals "<lambda> shl" = some none:=zG_shl;obtain⟨⟨cT_settled,tT_settled⟩,hT_settled⟩:=Option.isSome_iff_exists.mp hs_settled;have C_twos_shared:Cal l.prog w K mg base "twos_shared" 1 bn []:=D0.cal X G mq fun _ _ F=>lO F T
 have C_by_root:Cal l.prog w K mg base "by_root" 1 cK []:=D1.cal X G sk fun _ _ F=>rH F T
 have O2:FnOk l.prog w K mg base cM 2 _ _ _ (dG K cF):=uB F2 T C_twos_shared C_by_root;have C_number:Cal l.prog w K mg base "number" 2 cF []:=⟨⟨_,_,_,[],[],O2,PySem.W.mg_of X G a2,k2,F2.bindsK d2 rfl (ps:=["a","b","c","d","k"]) 5 rfl (fun _ _ _ _ _ _ us hl=>by obtain⟨_,_,_,_,_,rfl⟩:=Gj hl;exact rfl),.nil,fun _=>.nil⟩⟩
 have C_parts_over:Cal l.prog w K mg base "parts_over" 2 bQ []:=D3.cal X G m9 fun _ _ F=>mS F T C_by_root
 have C_plus:Cal l.prog w K mg base "plus" 3 fE []:=D4.cal X G Aj fun _ _ F=>zd F T C_parts_over C_number
 have C_times:Cal l.prog w K mg base "times" 3 dR []:=D5.cal X G xK fun _ _ F=>wD F T C_number
 have C_against:Cal l.prog w K mg base "against" 1 dc []:=D6.cal X G sr fun _ _ F=>rK F T
 have C_turned:Cal l.prog w K mg base "turned" 1 cO []:=D7.cal X G ve fun _ _ F=>uA F T
 have C_halved:Cal l.prog w K mg base "halved" 3 cQ []:=D8.cal X G vf fun _ _ F=>uC F T C_number
 have C_worth:Cal l.prog w K mg base "worth" 1 bO []:=D9.cal X G xJ fun _ _ F=>wC F T
 have C_bits_of:Cal l.prog w K mg base "bits_of" 1 db []:=D10.cal X G sn fun _ _ F=>rJ F T
 have O11:FnOk l.prog w K mg base cM 1 _ _ _ (dG K bC):=oJ F11 T T_NOUGHT T_ONE;have C_beginning:Cal l.prog w K mg base "beginning" 1 bC []:=⟨⟨_,_,_,[],[],O11,PySem.W.mg_of X G a11,k11,F11.bindsK d11 rfl (ps:=["wires","place"]) 2 rfl (fun _ _ _ _ _ _ us hl=>by obtain⟨_,_,rfl⟩:=eR hl;exact rfl),.nil,fun _=>.nil⟩⟩
 have C_swung:Cal l.prog w K mg base "swung" 4 fm []:=D12.cal X G xL fun _ _ F=>wE F T C_halved C_plus C_against
 have C_turned_where:Cal l.prog w K mg base "turned_where" 2 aR []:=D13.cal X G kK fun _ _ F=>kD F T C_turned
 have C_flipped_where:Cal l.prog w K mg base "flipped_where" 1 aM []:=D14.cal X G j5 fun _ _ F=>jQ F T
 have C_exchanged:Cal l.prog w K mg base "exchanged" 1 aP []:=D15.cal X G o9 fun _ _ F=>oH F T
 have C_done:Cal l.prog w K mg base "done" 5 cr []:=D16.cal X G Ak fun _ _ F=>ze F T C_worth C_swung C_turned_where C_flipped_where C_exchanged
 have C_all_done:Cal l.prog w K mg base "all_done" 6 bG []:=D17.cal X G qN fun _ _ F=>pX F T C_done
 have C_value_of:Cal l.prog w K mg base "value_of" 1 bd []:=D18.cal X G qL fun _ _ F=>pU F T
 have C_has:Cal l.prog w K mg base "has" 1 jq []:=D19.cal X G CS fun _ _ F=>B2 F T
 have V_word_times:CalF l.prog w K mg base "word_times" 2 bb:=D20.calF X G m6 fun _ _ F=>mP F T C_value_of
 have C_swing_carried:Cal l.prog w K mg base "swing_carried" 2 bw []:=D21.cal X G j4 fun _ _ F=>jP F T C_value_of
 have C_turn_carried:Cal l.prog w K mg base "turn_carried" 1 aS []:=D22.cal X G kL fun _ _ F=>kE F T
 have C_tie_carried:Cal l.prog w K mg base "tie_carried" 1 aZ []:=D23.cal X G mr fun _ _ F=>lP F T
 have C_sign_carried:Cal l.prog w K mg base "sign_carried" 1 bF []:=D24.cal X G kM fun _ _ F=>kF F T
 have C_carried:Cal l.prog w K mg base "carried" 3 aQ []:=D25.cal X G sh fun _ _ F=>rG F T C_worth C_swing_carried C_turn_carried C_tie_carried C_sign_carried C_exchanged C_value_of
 have O26:FnOk l.prog w K mg base cM 2 _ _ _ (dG K b9):=pV F26 T C_bits_of C_worth;have C_table_of:Cal l.prog w K mg base "table_of" 2 b9 []:=⟨⟨_,_,_,[],[],O26,PySem.W.mg_of X G a26,k26,F26.bindsK d26 rfl (ps:=["wires","place"]) 2 rfl (fun _ _ _ _ _ _ us hl=>by obtain⟨_,_,rfl⟩:=eR hl;exact rfl),.nil,fun _=>.nil⟩⟩
 have C_refuse_odd:Cal l.prog w K mg base "refuse_odd" 1 ca []:=D27.cal X G m8 fun _ _ F=>mR F T
 have C_table_done:Cal l.prog w K mg base "table_done" 4 bP []:=D28.cal X G m7 fun _ _ F=>mQ F T C_refuse_odd C_carried
 have C_greatest:Cal l.prog w K mg base "greatest" 1 cG []:=D29.cal X G qM fun _ _ F=>pW F T
 have C_cleared:Cal l.prog w K mg base "cleared" 3 eI []:=D30.cal X G sg fun _ _ F=>rF F T C_has C_greatest G_shl V_word_times
 have C_settled:Cal l.prog w K mg base "settled" 4 da []:=D31.calL X G sf fun _ _ a F=>rE F T a hT_settled C_cleared N_word_times G_shl
 have C__law_cell_at:Cal l.prog w K mg base "_law_cell_at" 1 aT []:=D32.cal X G kN fun _ _ F=>kG F T
 have C__law_row:Cal l.prog w K mg base "_law_row" 1 aN []:=D33.cal X G qO fun _ _ F=>pY F T
 have C__law_back:Cal l.prog w K mg base "_law_back" 1 bq []:=D34.cal X G pc fun _ _ F=>oM F T
 have C__law_rows:Cal l.prog w K mg base "_law_rows" 2 cH []:=D35.cal X G pb fun _ _ F=>oK F T C__law_row C__law_back
 have C__law_table:Cal l.prog w K mg base "_law_table" 5 bo []:=D36.cal X G nc fun _ _ F=>mT F T C_table_of C_table_done
 have C__law_alike:Cal l.prog w K mg base "_law_alike" 4 bp []:=D37.cal X G ng fun _ _ F=>mU F T C_times
 have O38:FnOk l.prog w K mg base cM 7 _ _ _ (dG K qr):=B1 F38 T C__law_rows C_all_done C__law_cell_at C_beginning C_settled C__law_alike C__law_table;exact Ek O38 fun ns hl=>law_true ns hl
end GN
open PySem PySem.W PyProof.Rows
set_option maxRecDepth 1000000 in
set_option maxHeartbeats 0 in
theorem PySem.Challenge.cw_wavewires_k52_whole_settled_alike_holds : PySem.Challenge.rw_wavewires_k52_whole_settled_alike.Holds := by
  refine topT ?_
  k_fill
  refine VL.Bb (k := 7) (l := PySem.Challenge.rw_wavewires_k52_whole_settled_alike) rfl ⟨rfl, by decide, by decide⟩ rfl (fun w h Y => PySem.W.km_in_of Y) ?F (fun w => by kernel_rfl) (fun w => by kernel_rfl)
  case F =>
    intro w mg fa h KX G hmg
    refine' GN.CY KX G hmg (VL.DefIn.mk ?a0 ?l0 ?c0 ?k0) (VL.DefIn.mk ?a1 ?l1 ?c1 ?k1) ?a2 ?l2 ?c2 ?k2 ?d2 (VL.DefIn.mk ?a3 ?l3 ?c3 ?k3) (VL.DefIn.mk ?a4 ?l4 ?c4 ?k4) (VL.DefIn.mk ?a5 ?l5 ?c5 ?k5) (VL.DefIn.mk ?a6 ?l6 ?c6 ?k6) (VL.DefIn.mk ?a7 ?l7 ?c7 ?k7) (VL.DefIn.mk ?a8 ?l8 ?c8 ?k8) (VL.DefIn.mk ?a9 ?l9 ?c9 ?k9) (VL.DefIn.mk ?a10 ?l10 ?c10 ?k10) ?a11 ?l11 ?c11 ?k11 ?d11 (VL.DefIn.mk ?a12 ?l12 ?c12 ?k12) (VL.DefIn.mk ?a13 ?l13 ?c13 ?k13) (VL.DefIn.mk ?a14 ?l14 ?c14 ?k14) (VL.DefIn.mk ?a15 ?l15 ?c15 ?k15) (VL.DefIn.mk ?a16 ?l16 ?c16 ?k16) (VL.DefIn.mk ?a17 ?l17 ?c17 ?k17) (VL.DefIn.mk ?a18 ?l18 ?c18 ?k18) (VL.DefIn.mk ?a19 ?l19 ?c19 ?k19) (VL.DefIn.mk ?a20 ?l20 ?c20 ?k20) (VL.DefIn.mk ?a21 ?l21 ?c21 ?k21) (VL.DefIn.mk ?a22 ?l22 ?c22 ?k22) (VL.DefIn.mk ?a23 ?l23 ?c23 ?k23) (VL.DefIn.mk ?a24 ?l24 ?c24 ?k24) (VL.DefIn.mk ?a25 ?l25 ?c25 ?k25) ?a26 ?l26 ?c26 ?k26 ?d26 (VL.DefIn.mk ?a27 ?l27 ?c27 ?k27) (VL.DefIn.mk ?a28 ?l28 ?c28 ?k28) (VL.DefIn.mk ?a29 ?l29 ?c29 ?k29) (VL.DefIn.mk ?a30 ?l30 ?c30 ?k30) (VL.DefIn.mk ?a31 ?l31 ?c31 ?k31) (VL.DefIn.mk ?a32 ?l32 ?c32 ?k32) (VL.DefIn.mk ?a33 ?l33 ?c33 ?k33) (VL.DefIn.mk ?a34 ?l34 ?c34 ?k34) (VL.DefIn.mk ?a35 ?l35 ?c35 ?k35) (VL.DefIn.mk ?a36 ?l36 ?c36 ?k36) (VL.DefIn.mk ?a37 ?l37 ?c37 ?k37) ?a38 ?l38 ?c38 ?k38 ?z_min ?z_max ?z_tuple ?z_range ?z_len ?z_any ?z_sorted ?z_int ?zG_shl ?hs_settled ?a_NOUGHT ?d_NOUGHT ?a_ONE ?d_ONE
    (case a0 => k_is)
    (case l0 => k_is)
    (case c0 => k_is)
    (case k0 => k_is)
    (case a1 => k_is)
    (case l1 => k_is)
    (case c1 => k_is)
    (case k1 => k_is)
    (case a2 => k_is)
    (case l2 => k_is)
    (case c2 => k_is)
    (case k2 => k_is)
    (case d2 => k_is)
    (case a3 => k_is)
    (case l3 => k_is)
    (case c3 => k_is)
    (case k3 => k_is)
    (case a4 => k_is)
    (case l4 => k_is)
    (case c4 => k_is)
    (case k4 => k_is)
    (case a5 => k_is)
    (case l5 => k_is)
    (case c5 => k_is)
    (case k5 => k_is)
    (case a6 => k_is)
    (case l6 => k_is)
    (case c6 => k_is)
    (case k6 => k_is)
    (case a7 => k_is)
    (case l7 => k_is)
    (case c7 => k_is)
    (case k7 => k_is)
    (case a8 => k_is)
    (case l8 => k_is)
    (case c8 => k_is)
    (case k8 => k_is)
    (case a9 => k_is)
    (case l9 => k_is)
    (case c9 => k_is)
    (case k9 => k_is)
    (case a10 => k_is)
    (case l10 => k_is)
    (case c10 => k_is)
    (case k10 => k_is)
    (case a11 => k_is)
    (case l11 => k_is)
    (case c11 => k_is)
    (case k11 => k_is)
    (case d11 => k_is)
    (case a12 => k_is)
    (case l12 => k_is)
    (case c12 => k_is)
    (case k12 => k_is)
    (case a13 => k_is)
    (case l13 => k_is)
    (case c13 => k_is)
    (case k13 => k_is)
    (case a14 => k_is)
    (case l14 => k_is)
    (case c14 => k_is)
    (case k14 => k_is)
    (case a15 => k_is)
    (case l15 => k_is)
    (case c15 => k_is)
    (case k15 => k_is)
    (case a16 => k_is)
    (case l16 => k_is)
    (case c16 => k_is)
    (case k16 => k_is)
    (case a17 => k_is)
    (case l17 => k_is)
    (case c17 => k_is)
    (case k17 => k_is)
    (case a18 => k_is)
    (case l18 => k_is)
    (case c18 => k_is)
    (case k18 => k_is)
    (case a19 => k_is)
    (case l19 => k_is)
    (case c19 => k_is)
    (case k19 => k_is)
    (case a20 => k_is)
    (case l20 => k_is)
    (case c20 => k_is)
    (case k20 => k_is)
    (case a21 => k_is)
    (case l21 => k_is)
    (case c21 => k_is)
    (case k21 => k_is)
    (case a22 => k_is)
    (case l22 => k_is)
    (case c22 => k_is)
    (case k22 => k_is)
    (case a23 => k_is)
    (case l23 => k_is)
    (case c23 => k_is)
    (case k23 => k_is)
    (case a24 => k_is)
    (case l24 => k_is)
    (case c24 => k_is)
    (case k24 => k_is)
    (case a25 => k_is)
    (case l25 => k_is)
    (case c25 => k_is)
    (case k25 => k_is)
    (case a26 => k_is)
    (case l26 => k_is)
    (case c26 => k_is)
    (case k26 => k_is)
    (case d26 => k_is)
    (case a27 => k_is)
    (case l27 => k_is)
    (case c27 => k_is)
    (case k27 => k_is)
    (case a28 => k_is)
    (case l28 => k_is)
    (case c28 => k_is)
    (case k28 => k_is)
    (case a29 => k_is)
    (case l29 => k_is)
    (case c29 => k_is)
    (case k29 => k_is)
    (case a30 => k_is)
    (case l30 => k_is)
    (case c30 => k_is)
    (case k30 => k_is)
    (case a31 => k_is)
    (case l31 => k_is)
    (case c31 => k_is)
    (case k31 => k_is)
    (case a32 => k_is)
    (case l32 => k_is)
    (case c32 => k_is)
    (case k32 => k_is)
    (case a33 => k_is)
    (case l33 => k_is)
    (case c33 => k_is)
    (case k33 => k_is)
    (case a34 => k_is)
    (case l34 => k_is)
    (case c34 => k_is)
    (case k34 => k_is)
    (case a35 => k_is)
    (case l35 => k_is)
    (case c35 => k_is)
    (case k35 => k_is)
    (case a36 => k_is)
    (case l36 => k_is)
    (case c36 => k_is)
    (case k36 => k_is)
    (case a37 => k_is)
    (case l37 => k_is)
    (case c37 => k_is)
    (case k37 => k_is)
    (case a38 => k_is)
    (case l38 => k_is)
    (case c38 => k_is)
    (case k38 => k_is)
    (case z_min => k_is)
    (case z_max => k_is)
    (case z_tuple => k_is)
    (case z_range => k_is)
    (case z_len => k_is)
    (case z_any => k_is)
    (case z_sorted => k_is)
    (case z_int => k_is)
    (case zG_shl => k_is)
    (case hs_settled => kernel_rfl)
    (case a_NOUGHT => k_is)
    (case d_NOUGHT => k_is)
    (case a_ONE => k_is)
    (case d_ONE => k_is)

end