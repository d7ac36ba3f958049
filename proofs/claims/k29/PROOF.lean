import PyProof.Rows.All
import Wide.All
import OpenK.AllK
import Wide.FinOn
import Lean
import PyProof.EqAt
import PyProof.EqKinds
import PyProof.TupleCall
import PySem.Challenge.RW_wavewires_k29_a_circuit_woven
section TopS
set_option Elab.async false
set_option linter.all false
open PySem PySem.W PyProof.Rows
def viewQ : Program := view PySem.Challenge.rw_wavewires_k29_a_circuit_woven.prog [1, 3, 4, 5, 6, 7, 9, 10, 11, 12, 13, 14, 15, 16, 17, 18, 19, 20, 21]
local macro_rules
  | `(tactic| o_head $H) => do
    let hw := Lean.mkIdent `hw
    let hc := Lean.mkIdent `hc
    `(tactic| refine holds_open (q := viewQ) (loose := []) (Xt := fun s => xlAt viewQ [] s && recOk (RowW.records (OpenRow.toRowW PySem.Challenge.rw_wavewires_k29_a_circuit_woven.row)) s) (XP := XL viewQ []) (Yf := Hook.obs $H) (Ya := Hook.val $H) (YP := Hook.says $H) (N := 6000) (fun w => by (unfold openEnds fencedOpening topFrom; rw [Fast.te10274390034422433532, Fast.te14082659384304107361, Fast.te1435165496053646825, Fast.te14289696077712309145, Fast.te14364793385576792824, Fast.te4187177175401517315, Fast.te5923862056798008813]; kernel_rfl)) (Hook.of $H) (Hook.keeps $H) (fun s e => xl_of s (Bool.and_eq_true_iff.mp e).1) XL.keeps (by rfl) (by rfl) (by rfl) (fun s e => recFacts_of (Bool.and_eq_true_iff.mp e).2) (by rfl) (by first | assumption | decide +kernel) (by decide +kernel) ⟨rfl, rfl, rfl, rfl, rfl, by decide +kernel⟩ ?$hw ?$hc)
set_option maxRecDepth 1000000 in
set_option maxHeartbeats 0 in
open_top topT for PySem.Challenge.rw_wavewires_k29_a_circuit_woven
end TopS
noncomputable section
set_option Elab.async false
set_option linter.all false
set_option maxRecDepth 100000
namespace L2
open PySem PySem.Spec PyProof.Rows
abbrev ao:=Sum Int Str
noncomputable def lc:ao->Value->Bool
 |.inl k,v=>Value.isInt k v
 |.inr x,v=>Value.isStrOf x v
noncomputable def JN(w:World):ao->Int
 |.inl k=>hashInt k
 |.inr x=>hashStr w x
theorem bz:∀{k:ao} {v:Value},lc k v=true->(∃i t,k=Sum.inl i/\v=Value.int i t)\/(∃x t,k=Sum.inr x/\v=Value.str x t)
 |.inl i,v,h=>by
  obtain⟨t,e⟩:=Value.isInt_shape (k:=i) (v:=v) h;exact .inl ⟨i,t,rfl,e⟩
 |.inr x,v,h=>by
  obtain⟨t,e⟩:=Value.isStrOf_shape (x:=x) (v:=v) h;exact .inr ⟨x,t,rfl,e⟩
theorem wM(i:Int)(t:Tok):lc (.inl i) (.int i t)=true:=by simp[lc,Value.isInt]
theorem wL(x:Str)(t:Tok):lc (.inr x) (.str x t)=true:=by simp[lc,Value.isStrOf]
theorem Ff(a b:Int):decide ((Sum.inl a:ao)=Sum.inl b)=(a==b):=by
 by_cases e:a=b
 ·subst e;simp
 ·have h:¬(Sum.inl a:ao)=Sum.inl b:=fun q=>e (Sum.inl.inj q)
  rw[decide_eq_false h];exact(beq_eq_false_iff_ne.mpr e).symm
theorem Fc(a b:Str):decide ((Sum.inr a:ao)=Sum.inr b)=decide (a=b):=by
 by_cases e:a=b
 ·subst e;simp
 ·have h:¬(Sum.inr a:ao)=Sum.inr b:=fun q=>e (Sum.inr.inj q)
  rw[decide_eq_false h,decide_eq_false e]
theorem Fe(a:Int)(b:Str):decide ((Sum.inl a:ao)=Sum.inr b)=false:=decide_eq_false (fun q=>nomatch q)
theorem Fd(a:Str)(b:Int):decide ((Sum.inr a:ao)=Sum.inl b)=false:=decide_eq_false (fun q=>nomatch q)
noncomputable def aL(prog:Program)(w:World):PySem.KeyKind prog w ao where
 is:=lc
 hash:=JN w
 inj:=fun v a b ha hb=>by
  rcases bz ha with⟨i,t,rfl,rfl⟩|⟨x,t,rfl,rfl⟩
  ·rcases bz hb with⟨j,u,rfl,e⟩|⟨y,u,rfl,e⟩
   ·injection e with e1 _;rw[e1]
   ·exact nomatch e
  ·rcases bz hb with⟨j,u,rfl,e⟩|⟨y,u,rfl,e⟩
   ·exact nomatch e
   ·injection e with e1 _;rw[e1]
 byValue:=fun k v h=>by
  rcases bz h with⟨i,t,rfl,rfl⟩|⟨x,t,rfl,rfl⟩<;>rfl
 pyHash:=fun hv h=>by
  rcases bz hv with⟨i,t,rfl,rfl⟩|⟨x,t,rfl,rfl⟩
  ·exact wpAny_pyHash_int h
  ·exact wpAny_pyHash_str h
 eqBool:=fun hu hv h=>by
  rcases bz hu with⟨i,t,rfl,rfl⟩|⟨x,t,rfl,rfl⟩
  ·rcases bz hv with⟨j,u,rfl,rfl⟩|⟨y,u,rfl,rfl⟩
   ·rw[Ff]at h;exact wpAny_eqBool_int h
   ·rw[Fe]at h;exact SeqAt.EqAt.int_str i t y u _ _ _ _ h
  ·rcases bz hv with⟨j,u,rfl,rfl⟩|⟨y,u,rfl,rfl⟩
   ·rw[Fd]at h;exact SeqAt.EqAt.str_int x t j u _ _ _ _ h
   ·rw[Fc]at h;exact wpAny_eqBool_str h
 «strs»:=fun k x t v h=>by
  rcases bz h with⟨i,u,rfl,e⟩|⟨y,u,rfl,e⟩
  ·exact nomatch e
  ·injection e with e1 _
   subst e1;cases v<;>rfl
theorem sJ(prog:Program)(w:World)(i:Int)(t:Tok):(aL prog w).is (.inl i) (.int i t)=true:=wM i t
theorem sI(prog:Program)(w:World)(x:Str)(t:Tok):(aL prog w).is (.inr x) (.str x t)=true:=wL x t
inductive V where
 |non|bl (b:Bool)|int (i:Int)|str (x:Str)|byt (b:Array UInt8)|flt (b:UInt64)|ref (a:Addr)|ty (n:String)
 deriving DecidableEq
def RelV:V->Value->Prop
 |.non,u=>u=Value.none
 |.bl b,u=>u=Value.bool b
 |.int i,u=>∃t,u=Value.int i t
 |.str x,u=>∃t,u=Value.str x t
 |.byt b,u=>∃t,u=Value.bytes b t
 |.flt b,u=>∃t,u=Value.float b t
 |.ref a,u=>u=Value.ref a
 |.ty n,u=>u=Value.type n
abbrev Vals:List V->List Value->Prop:=Paired RelV
theorem Vals.length{xs:List V}{us:List Value}(r:Vals xs us):xs.length=us.length:=Paired.length r
theorem Vals.get:∀{xs:List V} {us:List Value} {i:Nat} {x:V},Vals xs us->xs[i]? = some x->∃u,us[i]? = some u/\RelV x u
 |_,_,_,_,.nil,e=>by simp at e
 |_,_,0,_,.cons r _,e=>by simp at e;subst e;exact⟨_,rfl,r⟩
 |_,_,i+1,x,.cons _ t,e=>by
  obtain⟨u,h1,h2⟩:=Vals.get (i:=i) (x:=x) t (by simpa using e);exact⟨u,by simpa using h1,h2⟩
theorem Vals.set{x:V}{u:Value}(r:RelV x u):∀{xs:List V} {us:List Value} (i:Nat),Vals xs us->Vals (xs.set i x) (us.set i u)
 |_,_,_,.nil=>.nil
 |_,_,0,.cons _ t=>.cons r t
 |_,_,i+1,.cons q t=>.cons q (Vals.set r i t)
theorem Vals.append:∀{xs ys:List V} {us ws:List Value},Vals xs us->Vals ys ws->Vals (xs++ys) (us++ws)
 |_,_,_,_,.nil,s=>s
 |_,_,_,_,.cons r t,s=>.cons r (Vals.append t s)
theorem Vals.take:∀{xs:List V} {us:List Value} (n:Nat),Vals xs us->Vals (xs.take n) (us.take n)
 |_,_,0,_=>.nil
 |_,_,_+1,.nil=>.nil
 |_,_,n+1,.cons r t=>.cons r (Vals.take n t)
theorem Vals.drop:∀{xs:List V} {us:List Value} (n:Nat),Vals xs us->Vals (xs.drop n) (us.drop n)
 |_,_,0,r=>r
 |_,_,_+1,.nil=>.nil
 |_,_,n+1,.cons _ t=>Vals.drop n t
def RelO:Option V->Option Value->Prop
 |some v,some u=>RelV v u
 |none,none=>True
 |_,_=>False
def KV{κ:Type}:List (κ × V)->List (κ × Value)->Prop:=Paired fun(p:κ × V) (q:κ × Value)=>p.1=q.1/\RelV p.2 q.2
noncomputable def kV:ao->V
 |.inl i=>.int i
 |.inr x=>.str x
inductive HO where
 |lst (xs:List V)
 |tup (xs:List V)
 |dK (kvs:List (ao×V))|dT (kvs:List (List ao×V))
 |set (S:Int->Bool) (n:Nat)
 |ins (C dx:Addr) (fs:List (Str×V))
 |own (x:Addr)
 |xd (fs:List (Str×V))
 |met (f x:Addr)
 |rng (lo hi:Int)
 |frz (o:Obj) (u:HO)
 |tbl (ps:Array Value)
 |ext (φ:Heap->Prop)
abbrev Hp:=Addr->Option HO
noncomputable def upd(H:Hp)(a:Addr)(o:HO):Hp:=fun b=>if b=a then some o else H b
theorem aw{H:Hp}{a:Addr}{o:HO}:upd H a o a=some o:=by unfold upd;rw[if_pos rfl]
theorem ak{H:Hp}{a b:Addr}{o:HO}(h:b≠a):upd H a o b=H b:=by unfold upd;rw[if_neg h]
theorem Hc{H:Hp}{a b:Addr}{o u:HO}(h:H a=some o)(h':H b=some u)(d:o≠u):a≠b:=by
 intro e;subst e;rw[h]at h';exact d (Option.some.inj h')
theorem aH{H:Hp}{a b:Addr}{o:HO}(h:H a=some o)(h':H b=none):a≠b:=by
 intro e;subst e;rw[h]at h';cases h'
section
variable(P:Program)(w:World)
def NoDi(h:Heap)(a:Addr):Prop:=∃o,h.get? a=some o/\o.dict=none
theorem NoDi.new(h:Heap)(o:Obj)(e:o.dict=none:=by rfl)(f:o.isFreed=false:=by rfl):NoDi (h.push o) h.objs.size:=⟨o,Heap.get?_push_size h f,e⟩
def ObjOk(H:Hp)(h:Heap)(a:Addr):HO->Prop
 |.lst xs=>xs.length<=sizeLine/\∃(its:List Value) (n:Nat),Vals xs its/\h.get? a=some { cls:=.type "list",data:=.seq its.toArray n }
 |.tup xs=>xs.length<=sizeLine/\∃its:List Value,Vals xs its/\IsTup h a its.toArray/\NoDi h a
 |.dK kvs=>kvs.length<=sizeLine/\(a==sysModules)=false/\∃vs,KV kvs vs/\h.DictOf (aL P w) a vs
 |.dT kvs=>kvs.length<=sizeLine/\(a==sysModules)=false/\∃xs:List (List ao×Addr×Value),
   Paired (fun(p:List ao×V) (q:List ao×Addr×Value)=>p.1=q.1/\H q.2.1=some (.tup (p.1.map kV))/\RelV p.2 q.2.2) kvs xs /\
   ∃o es ep,h.get? a=some o/\o.ExactDict/\o.data=.dict es ep/\es.toList=xs.map (entryOfKey (tupleKind (aL P w)))/\(xs.map (·.1)).Nodup
 |.set S n=>h.SetOf (intKind P w) a S n
 |.ins C dx fs=>H dx=some (.own a)/\fs.length<=1000/\dx≠a/\h.get? a=some (PySem.W.instObj C dx) /\
   ∃mA,h.Ns1 dx mA/\(∀f,RelO (fs.lookup f) (mA f))/\PySem.Within mA (fs.map (·.1))
 |.own _=>∃o,h.get? a=some o
 |.xd fs=>∃mA,h.Ns1 a mA/\∀f,RelO (fs.lookup f) (mA f)
 |.rng lo hi=>∃t u v,h.get? a=some { cls:=.type "range",data:=.fields #[.int lo t,.int hi u,.int 1 v] }
 |.frz o u=>h.get? a=some o/\ObjOk H h a u
 |.tbl ps=>h.get? a=some { cls:=.none,data:=.fields ps }
 |.met f x=>h.get? a=some (PySem.W.methodObj (.ref f) (.ref x))
 |.ext φ=>φ h/\(∃o,h.get? a=some o)/\∀h1 h2:Heap,φ h1->(∀o,h1.get? a=some o->h2.get? a=some o) -> φ h2
def HOk(H:Hp)(h:Heap):Prop:=∀a o,H a=some o->ObjOk P w H h a o
end
section
variable{P:Program}{w:World}{H H':Hp}{h h':Heap}{a:Addr}{o:HO}
theorem ObjOk.lt(x:ObjOk P w H h a o):a<h.objs.size:=by
 cases o with
 |lst xs=>obtain⟨_,_,_,_,e⟩:=x;exact Heap.lt_size e
 |tup xs=>obtain⟨_,_,_,p⟩:=x;exact p.1.lt
 |dK kvs=>obtain⟨_,_,_,_,o,_,_,e,_⟩:=x;exact Heap.lt_size e
 |dT kvs=>obtain⟨_,_,_,_,o,_,_,e,_⟩:=x;exact Heap.lt_size e
 |set S n=>obtain⟨o,_,_,_,e,_⟩:=x;exact Heap.lt_size e
 |ins C dx fs=>obtain⟨_,_,_,e,_⟩:=x;exact Heap.lt_size e
 |own y=>obtain⟨_,e⟩:=x;exact Heap.lt_size e
 |xd fs=>obtain⟨_,⟨_,_,_,e,_⟩,_⟩:=x;exact Heap.lt_size e
 |rng lo hi=>obtain⟨_,_,_,e⟩:=x;exact Heap.lt_size e
 |frz ob u=>obtain⟨e,_⟩:=x;exact Heap.lt_size e
 |tbl ps=>exact Heap.lt_size (show h.get? a=some _ from x)
 |met f y=>exact Heap.lt_size (show h.get? a=some _ from x)
 |ext φ=>obtain⟨_,⟨_,e⟩,_⟩:=x;exact Heap.lt_size e
theorem Paired.mapP{α β:Type}{F G:α -> β -> Prop}:∀{l₁:List α} {l₂:List β},Paired F l₁ l₂ -> (∀a b,F a b->G a b)->Paired G l₁ l₂
 |_,_,.nil,_=>.nil
 |_,_,.cons r t,f=>.cons (f _ _ r) (Paired.mapP t f)
theorem ObjOk.stay(x:ObjOk P w H h a o)(k:∀b u,(b=a\/H b=some (.own a))->h.get? b=some u->h'.get? b=some u)
  (ho:∀b,H b=some (.own a)->H' b=some (.own a)) (ht:∀b xs,H b=some (.tup xs)->H' b=some (.tup xs)):ObjOk P w H' h' a o:=by
 induction o with
 |lst xs=>obtain⟨z,its,n,r,e⟩:=x;exact⟨z,its,n,r,k _ _ (.inl rfl) e⟩
 |tup xs=>obtain⟨z,its,r,⟨ob,e,c⟩,od,e',c'⟩:=x;exact⟨z,its,r,⟨ob,k _ _ (.inl rfl) e,c⟩,od,k _ _ (.inl rfl) e',c'⟩
 |dK kvs=>obtain⟨z,y,vs,r,ob,es,ep,e,c⟩:=x;exact⟨z,y,vs,r,ob,es,ep,k _ _ (.inl rfl) e,c⟩
 |dT kvs=>
  obtain⟨z,y,xs,r,ob,es,ep,e,c⟩:=x;exact⟨z,y,xs,Paired.mapP r fun p q z=>⟨z.1,ht _ _ z.2.1,z.2.2⟩,ob,es,ep,k _ _ (.inl rfl) e,c⟩
 |set S n=>obtain⟨ob,es,ep,t,e,c⟩:=x;exact⟨ob,es,ep,t,k _ _ (.inl rfl) e,c⟩
 |ins C dx fs=>
  obtain⟨d,z,ne,e,mA,⟨od,es,ep,e2,c⟩,r⟩:=x;exact⟨ho _ d,z,ne,k _ _ (.inl rfl) e,mA,⟨od,es,ep,k _ _ (.inr d) e2,c⟩,r⟩
 |own y=>obtain⟨ob,e⟩:=x;exact⟨ob,k _ _ (.inl rfl) e⟩
 |xd fs=>obtain⟨mA,⟨od,es,ep,e,c⟩,r⟩:=x;exact⟨mA,⟨od,es,ep,k _ _ (.inl rfl) e,c⟩,r⟩
 |rng lo hi=>obtain⟨t,u,v,e⟩:=x;exact⟨t,u,v,k _ _ (.inl rfl) e⟩
 |frz ob u ih=>obtain⟨e,q⟩:=x;exact⟨k _ _ (.inl rfl) e,ih q⟩
 |tbl ps=>
  have e:h.get? a=some { cls:=.none,data:=.fields ps }:=x;show h'.get? a=some { cls:=.none,data:=.fields ps };exact k a _ (.inl rfl) e
 |met f y=>
  have e:h.get? a=some (PySem.W.methodObj (.ref f) (.ref y)):=x;show h'.get? a=some (PySem.W.methodObj (.ref f) (.ref y));exact k a _ (.inl rfl) e
 |ext φ=>obtain⟨p,⟨o,e⟩,st⟩:=x;exact⟨st _ _ p fun o q=>k _ _ (.inl rfl) q,⟨o,k _ _ (.inl rfl) e⟩,st⟩
theorem HOk.lt(x:HOk P w H h)(e:H a=some o):a<h.objs.size:=(x a o e).lt
theorem HOk.fresh(x:HOk P w H h)(e:h.objs.size<=a):H a=none:=by
 cases q:H a with
 |none=>rfl
 |some u=>exact absurd (Nat.lt_of_lt_of_le (x.lt q) e) (Nat.lt_irrefl _)
theorem HOk.kept(x:HOk P w H h)(k:∀b u,h.get? b=some u->h'.get? b=some u):HOk P w H h':=fun a o e=>
 (x a o e).stay (fun b u _ q=>k b u q) (fun _ q=>q) fun _ _ q=>q
theorem HOk.laid(x:HOk P w H h)(k:∀b u,h.get? b=some u->h'.get? b=some u)(hp:h.objs.size<=a)(new:ObjOk P w (upd H a o) h' a o):HOk P w (upd H a o) h':=fun b u e=>by
 have hn:=x.fresh hp;by_cases hb:b=a
 ·subst hb;rw[aw]at e;cases e;exact new
 ·rw[ak hb]at e
  exact(x b u e).stay (fun c v _ q=>k c v q) (fun c q=>by rw[ak (aH q hn)];exact q) fun c xs q=>by rw[ak (aH q hn)];exact q
end
def Rd(H:Hp)(a:Addr)(u:HO):Prop:=H a=some u\/∃o,H a=some (.frz o u)
theorem Rd.ok{P:Program}{w:World}{H:Hp}{h:Heap}{a:Addr}{u:HO}(r:Rd H a u)(x:HOk P w H h):ObjOk P w H h a u:=by
 rcases r with r|⟨o,r⟩
 ·exact x a u r
 ·obtain⟨_,q⟩:=x a _ r
  exact q
def Ie:Option HO->Prop
 |some (.lst _)=>True
 |some (.dK _)=>True
 |some (.dT _)=>True
 |some (.set _ _)=>True
 |some (.ins _ _ _)=>True
 |some (.ext _)=>True
 |_=>False
section
variable{P:Program}{w:World}{H:Hp}{h h':Heap}{x e:Addr}{o':HO}
theorem HOk.write(ok:HOk P w H h)(mu:Ie (H x))(he:e=x\/H e=some (.own x))(k:∀b u,b≠e->h.get? b=some u->h'.get? b=some u)(heo:∃u,h'.get? e=some u)
  (new:ObjOk P w (upd H x o') h' x o'):HOk P w (upd H x o') h':=fun b u q=>by
 have nown:∀c y,H c=some (.own y)->c≠x:=fun c y r z=>by subst z;rw[r]at mu;exact mu
 have ntup:∀c xs,H c=some (.tup xs)->c≠x:=fun c xs r z=>by subst z;rw[r]at mu;exact mu
 by_cases hb:b=x
 ·subst hb;rw[aw]at q;cases q;exact new
 ·rw[ak hb]at q
  by_cases hbe:b=e
  ·have q':H b=some (.own x):=by
    rcases he with z|z
    ·exact absurd (hbe.trans z) hb
    ·rw[hbe];exact z
   rw[q]at q';cases q';obtain⟨v,hv⟩:=heo;exact⟨v,by rw[hbe];exact hv⟩
  ·refine(ok b u q).stay (fun c v hc r=>k c v ?_ r) (fun c r=>by rw[ak (nown c b r)];exact r) fun c xs r=>by rw[ak (ntup c xs r)];exact r
   rcases hc with rfl|hc
   ·exact hbe
   ·rintro rfl
    rcases he with z|z
    ·exact nown c b hc z
    ·rw[hc]at z;cases z;exact hb rfl
end
structure Un (fs ex:List Addr) (H H':Hp) (h h':Heap):Prop where
 keep:∀b o,h.get? b=some o->H b=none->b ∉ fs->b ∉ ex->h'.get? b=some o
 slot:∀b o,h.get? b=some o->H b=none->b∈fs->b ∉ ex->∃sl,h'.get? b=some { o with slots:=sl }
 free:∀b o,h.get? b=some o->H b=none->b ∉ ex->H' b=none
 there:∀b o,h.get? b=some o->b ∉ ex->∃o',h'.get? b=some o'
 tups:∀b xs,H b=some (.tup xs)->H' b=some (.tup xs)
 frzs:∀b o u,H b=some (.frz o u)->H' b=some (.frz o u)
 tbls:∀b ps,H b=some (.tbl ps)->∃more,H' b=some (.tbl (ps++more))
section
variable{fs fs' ex ex':List Addr}{H H1 H2:Hp}{h h1 h2 h':Heap}{a x e:Addr}{o:HO}
theorem Un.any(u:Un fs ex H H1 h h1){b:Addr}{ob:Obj}(q:h.get? b=some ob)(n:H b=none)(hx:b ∉ ex):∃sl,h1.get? b=some { ob with slots:=sl }:=by
 by_cases hb:b∈fs
 ·exact u.slot b ob q n hb hx
 ·exact⟨ob.slots,u.keep b ob q n hb hx⟩
theorem Un.kept(k:∀b u,h.get? b=some u->h'.get? b=some u):Un fs ex H H h h':=
 ⟨fun b ob q _ _ _=>k b ob q,fun b ob q _ _ _=>⟨ob.slots,k b ob q⟩,fun _ _ _ n _=>n,fun b ob q _=>⟨ob,k b ob q⟩,fun _ _ q=>q,fun _ _ _ q=>q,fun _ ps q=>⟨#[],by rw[q];simp⟩⟩
theorem Un.refl:Un fs ex H H h h:=Un.kept fun _ _ q=>q
theorem Un.laid(k:∀b u,h.get? b=some u->h'.get? b=some u)(hp:h.objs.size<=a)(hn:H a=none):Un fs ex H (upd H a o) h h' where
 keep:=fun b u q _ _ _=>k b u q
 slot:=fun b u q _ _ _=>⟨u.slots,k b u q⟩
 free:=fun b u q n _=>by rw[ak (Nat.ne_of_lt (Nat.lt_of_lt_of_le (Heap.lt_size q) hp))];exact n
 there:=fun b u q _=>⟨u,k b u q⟩
 tups:=fun b xs q=>by rw[ak (aH q hn)];exact q
 frzs:=fun b u xs q=>by rw[ak (aH q hn)];exact q
 tbls:=fun b ps q=>⟨#[],by rw[ak (aH q hn),q];simp⟩
theorem Un.write(mu:Ie (H x))(he:e=x\/H e=some (.own x))(k:∀b u,b≠e->h.get? b=some u->h'.get? b=some u)(heo:∃u,h'.get? e=some u):Un fs ex H (upd H x o) h h':=by
 have hx:∀b,H b=none->b≠x:=fun b n z=>by subst z;rw[n]at mu;exact mu
 have hb:∀b,H b=none->b≠e:=fun b n z=>by
  subst z;rcases he with r|r
  ·exact hx b n r
  ·rw[n]at r;cases r
 have hm:∀b u,H b=some u->¬Ie (some u)->b≠x:=fun b u q nm z=>by subst z;rw[q]at mu;exact nm mu
 refine⟨fun b u q n _ _=>k b u (hb b n) q,fun b u q n _ _=>⟨u.slots,k b u (hb b n) q⟩,fun b u q n _=>by rw[ak (hx b n)];exact n,fun b u q _=>?_,
  fun b xs q=>by rw[ak (hm b _ q fun z=>z)];exact q,fun b u xs q=>by rw[ak (hm b _ q fun z=>z)];exact q,fun b ps q=>⟨#[],by rw[ak (hm b _ q fun z=>z),q];simp⟩⟩
 by_cases hbe:b=e
 ·subst hbe;exact heo
 ·exact⟨u,k b u hbe q⟩
end
noncomputable def Ij(h:Heap)(H:Hp):List Addr:=(List.range h.objs.size).filter fun a=>(H a).isSome
noncomputable def qZ(h:Heap)(H:Hp):Heap:=PySem.W.hideAll h (Ij h H)
theorem wU(h:Heap)(H:Hp):(qZ h H).objs.size=h.objs.size:=PySem.W.hideAll_size _ _
theorem zd{h:Heap}{H:Hp}{b:Addr}{o:Obj}(e:h.get? b=some o)(n:H b=none):(qZ h H).get? b=some o:=
 PySem.W.hideAll_get _ e fun hm=>by
  have q:(H b).isSome=true:=(List.mem_filter.mp hm).2;rw[n]at q;simp at q
theorem Bk{h:Heap}{H:Hp}{b:Addr}{o:Obj}(e:(qZ h H).get? b=some o):h.get? b=some o/\H b=none:=by
 have e':h.get? b=some o:=PySem.W.of_hideAll (Ij h H) e;refine⟨e',?_⟩;cases q:H b with
 |none=>rfl
 |some x=>
  have hm:b∈Ij h H:=List.mem_filter.mpr ⟨List.mem_range.mpr (Heap.lt_size e'),by simp[q]⟩;have z:(qZ h H).get? b=none:=PySem.W.hideAll_none (Ij h H) hm;rw[z]at e;cases e
noncomputable def Cj(g h:Heap)(L:Addr):List (Addr×Obj):=(List.range h.objs.size).filterMap fun a=>if a=L\/(g.get? a).isSome=true then none else(h.get? a).map fun o=>(a,o)
noncomputable def rest(g h:Heap)(L d:Addr):List (Addr×Obj):=(Cj g h L).filter fun p=>decide (p.1≠d)
structure Mod (K:PySem.W.Frag) (mg:Str->Option Value) (base:Heap):Prop where
 kin:K.In base
 glob:base.Ns mainGlobals mg
 blt:∃mb,base.Ns builtinsNs mb/\∀x:Str,x ≠ "__name__" -> mb x=bootBuiltins x
 nolimit:base.NoLimit
structure Cx where
 prog:Program
 w:World
 K:PySem.W.Frag
 mg:Str->Option Value
 base:Heap
 A:Around
 N:List Str
 s₀:Shared
 H₀:Hp
 env:Env
 outer:List Env
 stack:List Env
 ex:List Addr
 fn:Str->Bool
 calm:Bool
 pn:List (Addr×Obj)
 xe:Value->Shared->Prop
noncomputable def vK(l:List Env):List Addr:=l.filterMap (·.frame)
abbrev Cx.fs(X:Cx):List Addr:=vK X.outer
def oH(sc:Scope)(x:Str):Prop:=sc.names.lookup x=some .local\/sc.names.lookup x=some .cell\/sc.names.lookup x=some .free
def rL(sc:Scope)(x:Str):Prop:=sc.names.lookup x=some .local\/sc.names.lookup x=some .cell
def J9(env:Env)(h:Heap)(m:Str->Option Value)(x:Str)(u:Value):Prop:=
 (env.kindOf x=some .local/\m x=some u)\/((env.kindOf x=some .cell\/env.kindOf x=some .free)/\∃c,env.cells.lookup x=some c/\h.IsCell c (some u))
structure Cx.Ok (X:Cx):Prop where
 mod:Mod X.K X.mg X.base
 kind:X.env.scope.kind=.function
 glob:X.env.globals=mainGlobals
 blt:X.env.builtins=builtinsNs
 above:X.s₀.heap.objs.size<=X.env.locals
 inj:∀x y c,X.env.cells.lookup x=some c->X.env.cells.lookup y=some c->x=y
 has:∀x,(X.env.kindOf x=some .cell\/X.env.kindOf x=some .free)->∃c,X.env.cells.lookup x=some c
 cab:∀x c,X.fn x=true->X.env.cells.lookup x=some c->X.s₀.heap.objs.size<=c
 hd:X.calm=true->X.A.handled=none
 frames:X.A.frames=some X.stack
 stk:X.stack=X.outer\/(X.stack=X.env::X.outer/\X.env.frame=some X.env.locals)
 exf:∀b∈X.ex,b≠X.env.locals/\∀x c,X.env.cells.lookup x=some c->c≠b
 bs:∀b o,X.base.get? b=some o->X.s₀.heap.get? b=some o/\X.H₀ b=none
 bsz:X.base.objs.size<=X.s₀.heap.objs.size
 noex:∀b o,X.base.get? b=some o->b ∉ X.ex
 exfs:∀b∈X.ex,b ∉ X.fs
 funs:X.s₀.heap.FunFrames X.base X.outer
 frf:∀b∈X.fs,X.H₀ b=none
structure Inv (X:Cx) (pins:List (Addr×Obj)) (σ:List (Option V)) (H:Hp) (s:Shared):Prop where
 ok:X.Ok
 os:s.os=X.s₀.os
 bare:AllBare s.gens
 base:Un X.fs X.ex X.H₀ H X.s₀.heap s.heap
 loc:∃m,s.heap.Ns X.env.locals m/\∀(i:Nat) (x:Str) (v:V),X.N[i]? = some x -> σ[i]? = some (some v)->oH X.env.scope x->∃u,RelV v u/\J9 X.env s.heap m x u
 cell:∀x c,X.env.cells.lookup x=some c->∃v,s.heap.IsCell c v
 free:H X.env.locals=none
 freeC:∀x c,X.env.cells.lookup x=some c->H c=none
 pin:∀p∈X.pn++pins,s.heap.get? p.1=some p.2/\H p.1=none/\p.1≠X.env.locals/\p.1 ∉ X.fs/\∀v,p.2.data≠.cell v
 hok:HOk X.prog X.w H s.heap
 len:σ.length=X.N.length
section
variable{X:Cx}{pins:List (Addr×Obj)}{σ:List (Option V)}{H H':Hp}{s:Shared}{h':Heap}
theorem Cx.Ok.nofr(ok:X.Ok){b:Addr}{o:Obj}(e:X.base.get? b=some o):b ∉ X.fs:=fun hb=>by
 have:=(ok.funs.mem hb).1;rw[e]at this;cases this
theorem Inv.bs(I:Inv X pins σ H s):∀b o,X.base.get? b=some o->s.heap.get? b=some o/\H b=none:=fun b o e=>
 ⟨I.base.keep b o (I.ok.bs b o e).1 (I.ok.bs b o e).2 (I.ok.nofr e) (I.ok.noex b o e),I.base.free b o (I.ok.bs b o e).1 (I.ok.bs b o e).2 (I.ok.noex b o e)⟩
theorem Inv.bk(I:Inv X pins σ H s):∀b o,X.base.get? b=some o->s.heap.get? b=some o:=fun b o e=>(I.bs b o e).1
theorem Inv.mod(I:Inv X pins σ H s):Mod X.K X.mg X.base:=I.ok.mod
theorem Inv.kIn(I:Inv X pins σ H s):X.K.In s.heap:=I.ok.mod.kin.keeps I.bk
theorem Inv.fr(I:Inv X pins σ H s):∃m,Fr X.base X.env.locals s.heap m:=
 let ⟨m,hn,_⟩:=I.loc
 ⟨m,hn,I.bk,Nat.le_trans I.ok.bsz I.ok.above⟩
theorem Inv.lt(I:Inv X pins σ H s):X.env.locals<s.heap.objs.size:=let ⟨_,hn,_⟩:=I.loc;hn.lt
theorem Inv.sz(I:Inv X pins σ H s):X.s₀.heap.objs.size<=s.heap.objs.size:=Nat.le_trans I.ok.above (Nat.le_of_lt I.lt)
theorem Inv.nofs(I:Inv X pins σ H s){a:Addr}(h:s.heap.objs.size<=a):a ∉ X.fs:=fun hb=>by
 obtain⟨_,o,ho,_⟩:=I.ok.funs.mem hb;exact absurd (Nat.lt_of_lt_of_le (Heap.lt_size ho) (Nat.le_trans I.sz h)) (Nat.lt_irrefl _)
theorem Inv.cne(I:Inv X pins σ H s):∀x c,X.env.cells.lookup x=some c->c≠X.env.locals:=fun x c e z=>by
 obtain⟨v,o,ho,hd⟩:=I.cell x c e;obtain⟨m,⟨o',es,ep,ho',hd',_⟩,_⟩:=I.loc;rw[z,ho']at ho;cases ho;rw[hd']at hd;cases hd
theorem Inv.funs(I:Inv X pins σ H s):s.heap.FunFrames X.base X.outer:=by
 have all:∀(l:List Env),(∀b∈vK l,b∈X.fs)->X.s₀.heap.FunFrames X.base l->s.heap.FunFrames X.base l:=by
  intro l
  induction l with
  |nil=>intro _ _;trivial
  |cons env r ih=>
   intro hs hl;obtain⟨hk,⟨L,o,hf,hn,ho,hd⟩,hr⟩:=hl;have hL:L∈X.fs:=hs L (by unfold vK;rw[List.filterMap_cons,hf];exact List.mem_cons_self);obtain⟨sl,e⟩:=I.base.slot L o ho (I.ok.frf L hL) hL fun z=>I.ok.exfs L z hL
   exact⟨hk,⟨L,_,hf,hn,e,hd⟩,ih (fun b hb=>hs b (by unfold vK;rw[List.filterMap_cons,hf];exact List.mem_cons_of_mem _ hb)) hr⟩
 exact all X.outer (fun _ hb=>hb) I.ok.funs
theorem Inv.stack(I:Inv X pins σ H s):s.heap.FunFrames X.base X.stack:=by
 rcases I.ok.stk with e|⟨e,hf⟩
 ·rw[e];exact I.funs
 ·rw[e]
  obtain⟨m,hn,_⟩:=I.loc;refine .cons (by rw[I.ok.kind];decide) hf hn ?_ I.funs;exact Heap.get?_none_of_le (Nat.le_trans I.ok.bsz I.ok.above)
theorem Inv.stkSub(I:Inv X pins σ H s):∀b∈vK X.stack,b∈X.env.locals::X.fs:=fun b hb=>by
 rcases I.ok.stk with e|⟨e,hf⟩
 ·rw[e]at hb;exact List.mem_cons_of_mem _ hb
 ·rw[e]at hb
  unfold vK at hb;rw[List.filterMap_cons,hf]at hb;exact hb
theorem Inv.stkFree(I:Inv X pins σ H s):∀b∈vK X.stack,H b=none:=fun b hb=>by
 rcases List.mem_cons.mp (I.stkSub b hb)with e|hb
 ·rw[e];exact I.free
 ·obtain⟨_,o,ho,_⟩:=I.ok.funs.mem hb
  exact I.base.free b o ho (I.ok.frf b hb) fun z=>I.ok.exfs b z hb
theorem Inv.step{g':Array GenState}{t':Nat}{d':Drawn}{ch:List Addr}(I:Inv X pins σ H s)
  (hch:∀b∈ch,(b∈X.ex\/X.s₀.heap.objs.size<=b)/\b≠X.env.locals/\(∀x c,X.env.cells.lookup x=some c->c≠b)/\∀p∈X.pn++pins,p.1≠b)
  (keep:∀b o,b≠X.env.locals->b ∉ X.fs->b ∉ ch->s.heap.get? b=some o->H b=none->h'.get? b=some o)
  (slot:∀b o,b≠X.env.locals->b∈X.fs->b ∉ ch->s.heap.get? b=some o->H b=none->∃sl,h'.get? b=some { o with slots:=sl }) (free:∀b o,b ∉ ch->s.heap.get? b=some o->H b=none->H' b=none)
  (there:∀b o,b ∉ ch->s.heap.get? b=some o->∃o',h'.get? b=some o')
  (tups:∀b xs,H b=some (.tup xs)->H' b=some (.tup xs)) (frzs:∀b o u,H b=some (.frz o u)->H' b=some (.frz o u)) (tbls:∀b ps,H b=some (.tbl ps)->∃more,H' b=some (.tbl (ps++more)))
  (ns:∀m,s.heap.Ns X.env.locals m->h'.Ns X.env.locals m) (hok:HOk X.prog X.w H' h') (hg:AllBare g') :
  Inv X pins σ H' { s with heap:=h',gens:=g',drawn:=d',toks:=t' }:=by
 have neL:∀b o,X.s₀.heap.get? b=some o->b≠X.env.locals:=fun b o e=>Nat.ne_of_lt (Nat.lt_of_lt_of_le (Heap.lt_size e) I.ok.above)
 have neC:∀b o,X.s₀.heap.get? b=some o->b ∉ X.ex->b ∉ ch:=fun b o e hx hb=>by
  rcases (hch b hb).1 with z|z
  ·exact hx z
  ·exact absurd (Nat.lt_of_lt_of_le (Heap.lt_size e) z) (Nat.lt_irrefl _)
 have cellK:∀x c,X.env.cells.lookup x=some c->∀v,s.heap.IsCell c v->h'.IsCell c v:=fun x c e v ⟨o,ho,hd⟩=>by
  have nch:c ∉ ch:=fun z=>(hch c z).2.2.1 x c e rfl
  by_cases hc:c∈X.fs
  ·obtain⟨sl,q⟩:=slot c o (I.cne x c e) hc nch ho (I.freeC x c e)
   exact⟨_,q,hd⟩
  ·exact⟨o,keep c o (I.cne x c e) hc nch ho (I.freeC x c e),hd⟩
 refine⟨I.ok,I.os,hg,⟨fun b o e n hb hx=>?_,fun b o e n hb hx=>?_,fun b o e n hx=>?_,fun b o e hx=>?_,fun b xs e=>tups b xs (I.base.tups b xs e),fun b o xs e=>frzs b o xs (I.base.frzs b o xs e),fun b ps e=>?_⟩,?_,fun x c e=>?_,?_,fun x c e=>?_,fun p hp=>?_,hok,I.len⟩
 ·exact keep b o (neL b o e) hb (neC b o e hx) (I.base.keep b o e n hb hx) (I.base.free b o e n hx)
 ·obtain⟨sl,e1⟩:=I.base.slot b o e n hb hx
  obtain⟨sl',e2⟩:=slot b _ (neL b o e) hb (neC b o e hx) e1 (I.base.free b o e n hx);exact⟨sl',e2⟩
 ·obtain⟨o',e1⟩:=I.base.there b o e hx
  exact free b o' (neC b o e hx) e1 (I.base.free b o e n hx)
 ·obtain⟨o',e1⟩:=I.base.there b o e hx
  exact there b o' (neC b o e hx) e1
 ·obtain⟨m1,e1⟩:=I.base.tbls b ps e
  obtain⟨m2,e2⟩:=tbls b _ e1;exact⟨m1++m2,by rw[e2,Array.append_assoc]⟩
 ·obtain⟨m,hn,hl⟩:=I.loc
  refine⟨m,ns m hn,fun i x v e1 e2 e3=>?_⟩
  obtain⟨u,r,l⟩:=hl i x v e1 e2 e3;refine⟨u,r,?_⟩;rcases l with l|⟨k,c,e,z⟩
  ·exact .inl l
  ·exact .inr ⟨k,c,e,cellK x c e _ z⟩
 ·obtain⟨v,z⟩:=I.cell x c e
  exact⟨v,cellK x c e v z⟩
 ·obtain⟨m,⟨o,_,_,ho,_⟩,_⟩:=I.loc
  exact free _ o (fun z=>(hch _ z).2.1 rfl) ho I.free
 ·obtain⟨v,o,ho,hd⟩:=I.cell x c e
  exact free c o (fun z=>(hch c z).2.2.1 x c e rfl) ho (I.freeC x c e)
 ·obtain⟨e,n,ne,nf,d⟩:=I.pin p hp
  have nch:p.1 ∉ ch:=fun z=>(hch p.1 z).2.2.2 p hp rfl
  exact⟨keep p.1 p.2 ne nf nch e n,free p.1 p.2 nch e n,ne,nf,d⟩
theorem Inv.un{t':Nat}(I:Inv X pins σ H s)(u:Un X.fs [] H H' s.heap h')(hok:HOk X.prog X.w H' h'):Inv X pins σ H' { s with heap:=h',toks:=t' }:=by
 obtain⟨m,⟨o,es,ep,ho,r⟩,_⟩:=id I.loc;obtain⟨sl,hL⟩:=u.any ho I.free (by simp);exact I.step (g':=s.gens) (d':=s.drawn) (ch:=[]) (fun _ z=>nomatch z) (fun b o _ hb _ e n=>u.keep b o e n hb (by simp)) (fun b o _ hb _ e n=>u.slot b o e n hb (by simp)) (fun b o _ e n=>u.free b o e n (by simp)) (fun b o _ e=>u.there b o e (by simp)) u.tups u.frzs u.tbls (fun m' hm=>by
  obtain⟨o',es',ep',ho',r'⟩:=hm;rw[ho]at ho';cases ho';exact⟨_,es',ep',hL,r'⟩) hok I.bare
theorem Inv.call{g':Array GenState}{t':Nat}{d':Drawn}{ch:List Addr}(I:Inv X pins σ H s)(u:Un (vK X.stack) ch H H' s.heap h')(hok:HOk X.prog X.w H' h')(hg:AllBare g')
  (hch:∀b∈ch,(b∈X.ex\/X.s₀.heap.objs.size<=b)/\b≠X.env.locals/\(∀x c,X.env.cells.lookup x=some c->c≠b)/\∀p∈X.pn++pins,p.1≠b) :
  Inv X pins σ H' { s with heap:=h',gens:=g',drawn:=d',toks:=t' }:=by
 obtain⟨m,⟨o,es,ep,ho,r⟩,_⟩:=id I.loc;obtain⟨sl,hL⟩:=u.any ho I.free fun z=>(hch _ z).2.1 rfl
 exact I.step (ch:=ch) hch (fun b o hL hb hc e n=>u.keep b o e n (fun z=>(List.mem_cons.mp (I.stkSub b z)).elim hL hb) hc) (fun b o _ _ hc e n=>u.any e n hc) (fun b o hc e n=>u.free b o e n hc) (fun b o hc e=>u.there b o e hc) u.tups u.frzs u.tbls (fun m' hm=>by
  obtain⟨o',es',ep',ho',r'⟩:=hm;rw[ho]at ho';cases ho';exact⟨_,es',ep',hL,r'⟩) hok hg
theorem Inv.turned{t':Nat}{it:Addr}(I:Inv X pins σ H s)(k:∀b o,b≠it->s.heap.get? b=some o->h'.get? b=some o)(hn:H it=none)(hL:it≠X.env.locals)
  (h1:it∈X.ex\/X.s₀.heap.objs.size<=it) (h2:∀x c,X.env.cells.lookup x=some c->c≠it) (h3:∀p∈X.pn++pins,p.1≠it):Inv X pins σ H { s with heap:=h',toks:=t' }:=by
 have nit:∀b u,H b=some u->b≠it:=fun b u e z=>by rw[z,hn]at e;cases e
 refine I.step (g':=s.gens) (d':=s.drawn) (ch:=[it]) (fun b hb=>?_) (fun b o _ _ hc e _=>k b o (fun z=>hc (by simp[z])) e) (fun b o _ _ hc e _=>⟨o.slots,k b o (fun z=>hc (by simp[z])) e⟩) (fun _ _ _ _ n=>n)
  (fun b o hc e=>⟨o,k b o (fun z=>hc (by simp[z])) e⟩) (fun _ _ e=>e) (fun _ _ _ e=>e) (fun b ps e=>⟨#[],by rw[e];simp⟩) (fun m hm=>?_) (fun b u e=>?_) I.bare
 ·have e:b=it:=by simpa using hb
  subst e;exact⟨h1,hL,h2,h3⟩
 ·obtain⟨o,es,ep,ho,r⟩:=hm
  exact⟨o,es,ep,k _ o (Ne.symm hL) ho,r⟩
 ·refine(I.hok b u e).stay (fun c v hc q=>k c v ?_ q) (fun _ q=>q) fun _ _ q=>q
  rcases hc with z|z
  ·rw[z];exact nit b u e
  ·exact nit c _ z
theorem Inv.tok(I:Inv X pins σ H s)(t:Nat):Inv X pins σ H { s with toks:=t }:=I.un (h':=s.heap) (t':=t) Un.refl I.hok
theorem Inv.kept{t':Nat}(I:Inv X pins σ H s)(k:∀b u,s.heap.get? b=some u->h'.get? b=some u):Inv X pins σ H { s with heap:=h',toks:=t' }:=I.un (Un.kept k) (I.hok.kept k)
theorem Inv.laid{a:Addr}{o:HO}{t':Nat}(I:Inv X pins σ H s)(k:∀b u,s.heap.get? b=some u->h'.get? b=some u)(hp:s.heap.objs.size<=a)(new:ObjOk X.prog X.w (upd H a o) h' a o):
  Inv X pins σ (upd H a o) { s with heap:=h',toks:=t' }:=I.un (Un.laid k hp (I.hok.fresh hp)) (I.hok.laid k hp new)
theorem Inv.write{x e:Addr}{o:HO}{t':Nat}(I:Inv X pins σ H s)(mu:Ie (H x))(he:e=x\/H e=some (.own x))(k:∀b u,b≠e->s.heap.get? b=some u->h'.get? b=some u)(heo:∃u,h'.get? e=some u)
  (new:ObjOk X.prog X.w (upd H x o) h' x o):Inv X pins σ (upd H x o) { s with heap:=h',toks:=t' }:=I.un (Un.write mu he k heo) (I.hok.write mu he k heo new)
theorem Inv.weak{σ':List (Option V)}(I:Inv X pins σ H s)(hl:σ'.length = σ.length)(w:∀(i:Nat) v,σ'[i]? = some (some v) -> σ[i]? = some (some v)):Inv X pins σ' H s:=
 ⟨I.ok,I.os,I.bare,I.base,let ⟨m,hn,hl'⟩:=I.loc; ⟨m,hn,fun i x v e1 e2 e3=>hl' i x v e1 (w i v e2) e3⟩,I.cell,I.free,I.freeC,I.pin,I.hok,hl.trans I.len⟩
theorem Inv.pins_of{pins':List (Addr×Obj)}(I:Inv X pins σ H s)(h:∀p∈pins',s.heap.get? p.1=some p.2/\H p.1=none/\p.1≠X.env.locals/\p.1 ∉ X.fs/\∀v,p.2.data≠.cell v):Inv X pins' σ H s:=
 ⟨I.ok,I.os,I.bare,I.base,I.loc,I.cell,I.free,I.freeC,fun p hp=>(List.mem_append.mp hp).elim (fun z=>I.pin p (List.mem_append_left _ z)) (h p),I.hok,I.len⟩
theorem sH{N:List Str}(hN:N.Nodup){i j:Nat}{x:Str}(a:N[i]? = some x)(b:N[j]? = some x):i=j:=by
 obtain⟨h1,e1⟩:=List.getElem?_eq_some_iff.mp a;obtain⟨h2,e2⟩:=List.getElem?_eq_some_iff.mp b;exact(List.getElem_inj hN).mp (e1.trans e2.symm)
theorem wb{M:Model}{A:Around}{E:Value->Shared->Prop}{i:Nat}{x:Str}{v:V}{u:Value}{Q:Unit->Shared->Prop}(I:Inv X pins σ H s)(hN:X.N.Nodup)(hi:X.N[i]? = some x)(hx:rL X.env.scope x)(r:RelV v u)
  (h:∀s',Inv X pins (σ.set i (some v)) H s'->(∃a,Heap.SameBut a s.heap s'.heap/\(a=X.env.locals\/X.env.cells.lookup x=some a))->Q () s') (hf:X.fn x=true\/X.env.scope.names.lookup x=some .local:=by first|exact .inl rfl|exact .inr rfl|assumption):wpAny M A (storeName X.env x u) Q E s:=by
 obtain⟨m,hn,hl⟩:=id I.loc;have hcls:(X.env.scope.kind == .class||(X.env.scope.kind == .module&&X.env.locals != X.env.globals))=false:=by rw[I.ok.kind];rfl
 have hiσ:i < σ.length:=by rw[I.len];exact(List.getElem?_eq_some_iff.mp hi).1
 have cne:=I.cne;have tracked:∀{a:Addr} {h':Heap},(∃o,s.heap.get? a=some o/\H a=none)->Heap.SameBut a s.heap h'->HOk X.prog X.w H h':=fun{a h'} ha hs b ob e=>by
  obtain⟨_,_,hfree⟩:=ha;refine(I.hok b ob e).stay (fun c w' hc q=>(hs.2 c ?_).trans q) (fun _ q=>q) fun _ _ q=>q
  rintro rfl;rcases hc with rfl|hc
  ·rw[hfree]at e;cases e
  ·rw[hfree]at hc;cases hc
 rcases hx with hk|hk
 ·refine wpAny_storeName_local hk hn (fun h' hn' hs=>?_) hcls
  obtain⟨oL,_,_,hoL,_⟩:=id hn;refine h _ ⟨I.ok,I.os,I.bare,⟨fun b o e n hb hx=>?_,fun b o e n hb hx=>?_,I.base.free,fun b o e hx=>?_,I.base.tups,I.base.frzs,I.base.tbls⟩,⟨_,hn',fun j y v' e1 e2 e3=>?_⟩,fun y c e=>?_,I.free,I.freeC,fun p hp=>?_,tracked ⟨oL,hoL,I.free⟩ hs,by simpa using I.len⟩ ⟨_,hs,.inl rfl⟩
  ·exact(hs.2 b (Nat.ne_of_lt (Nat.lt_of_lt_of_le (Heap.lt_size e) I.ok.above))).trans (I.base.keep b o e n hb hx)
  ·obtain⟨sl,e1⟩:=I.base.slot b o e n hb hx
   exact⟨sl,(hs.2 b (Nat.ne_of_lt (Nat.lt_of_lt_of_le (Heap.lt_size e) I.ok.above))).trans e1⟩
  ·obtain⟨o',e1⟩:=I.base.there b o e hx
   exact⟨o',(hs.2 b (Nat.ne_of_lt (Nat.lt_of_lt_of_le (Heap.lt_size e) I.ok.above))).trans e1⟩
  ·by_cases hj:j=i
   ·subst hj
    rw[hi]at e1;cases e1;rw[List.getElem?_set_self hiσ]at e2;cases e2;exact⟨u,r,.inl ⟨hk,by simp⟩⟩
   ·rw[List.getElem?_set_ne (Ne.symm hj)]at e2
    obtain⟨u',r',q⟩:=hl j y v' e1 e2 e3;refine⟨u',r',?_⟩;rcases q with⟨k,e⟩|⟨k,c,e,z⟩
    ·refine .inl ⟨k,?_⟩
     have:y≠x:=fun e=>hj (sH hN e1 (e ▸ hi))
     simp[this,e]
    ·exact .inr ⟨k,c,e,z.sameBut hs (cne y c e)⟩
  ·obtain⟨w',z⟩:=I.cell y c e
   exact⟨w',z.sameBut hs (cne y c e)⟩
  ·obtain⟨e,n,ne,nf,d⟩:=I.pin p hp
   exact⟨(hs.2 p.1 ne).trans e,n,ne,nf,d⟩
 ·have hfn:X.fn x=true:=by
   rcases hf with z|z
   ·exact z
   ·rw[z]at hk;cases hk
  obtain⟨c,hc⟩:=I.ok.has x (.inl hk);obtain⟨w',z⟩:=I.cell x c hc;refine wpAny_storeName_cell I.ok.kind hk hc z (fun h' hc' hs=>?_);obtain⟨oc,hoc,hocd⟩:=id z;refine h { s with heap:=h' } ⟨I.ok,I.os,I.bare,⟨fun b o e n hb hx=>?_,fun b o e n hb hx=>?_,I.base.free,fun b o e hx=>?_,I.base.tups,I.base.frzs,I.base.tbls⟩,⟨m,hn.sameBut hs (Ne.symm (cne x c hc)),fun j y v' e1 e2 e3=>?_⟩,fun y c' e=>?_,I.free,I.freeC,fun p hp=>?_,tracked ⟨oc,hoc,I.freeC x c hc⟩ hs,by simpa using I.len⟩ ⟨c,hs,.inr hc⟩
  ·exact(hs.2 b (Nat.ne_of_lt (Nat.lt_of_lt_of_le (Heap.lt_size e) (I.ok.cab x c hfn hc)))).trans (I.base.keep b o e n hb hx)
  ·obtain⟨sl,e1⟩:=I.base.slot b o e n hb hx
   exact⟨sl,(hs.2 b (Nat.ne_of_lt (Nat.lt_of_lt_of_le (Heap.lt_size e) (I.ok.cab x c hfn hc)))).trans e1⟩
  ·obtain⟨o',e1⟩:=I.base.there b o e hx
   exact⟨o',(hs.2 b (Nat.ne_of_lt (Nat.lt_of_lt_of_le (Heap.lt_size e) (I.ok.cab x c hfn hc)))).trans e1⟩
  ·by_cases hj:j=i
   ·subst hj
    rw[hi]at e1;cases e1;rw[List.getElem?_set_self hiσ]at e2;cases e2;exact⟨u,r,.inr ⟨.inl hk,c,hc,hc'⟩⟩
   ·rw[List.getElem?_set_ne (Ne.symm hj)]at e2
    obtain⟨u',r',q⟩:=hl j y v' e1 e2 e3;refine⟨u',r',?_⟩;rcases q with q|⟨k,c',e,z'⟩
    ·exact .inl q
    ·refine .inr ⟨k,c',e,z'.sameBut hs ?_⟩
     rintro rfl;exact hj (sH hN e1 (I.ok.inj _ _ _ e hc ▸ hi))
  ·by_cases hcc:c'=c
   ·subst hcc;exact⟨_,hc'⟩
   ·obtain⟨w2,z2⟩:=I.cell y c' e
    exact⟨w2,z2.sameBut hs hcc⟩
  ·obtain⟨e,n,ne,nf,d⟩:=I.pin p hp
   refine⟨(hs.2 p.1 ?_).trans e,n,ne,nf,d⟩;intro q;rw[q,hoc]at e;have q':oc=p.2:=Option.some.inj e;exact d w' (by rw[<-q'];exact hocd)
theorem r8{M:Model}{A:Around}{E:Value->Shared->Prop}{i:Nat}{x:Str}{v:V}{u:Value}{Q:Unit->Shared->Prop}(I:Inv X pins σ H s)(hN:X.N.Nodup)(hi:X.N[i]? = some x)(hx:rL X.env.scope x)(r:RelV v u)
  (h:∀s',Inv X pins (σ.set i (some v)) H s'->Q () s') (hf:X.fn x=true\/X.env.scope.names.lookup x=some .local:=by first|exact .inl rfl|exact .inr rfl|assumption):wpAny M A (storeName X.env x u) Q E s:=
 wb I hN hi hx r (fun s' I' _=>h s' I') hf
theorem Inv.call'{s':Shared}{ch:List Addr}(I:Inv X pins σ H s)(ho:s'.os=s.os)(u:Un (vK X.stack) ch H H' s.heap s'.heap)(hok:HOk X.prog X.w H' s'.heap)(hg:AllBare s'.gens)
  (hch:∀b∈ch,(b∈X.ex\/X.s₀.heap.objs.size<=b)/\b≠X.env.locals/\(∀x c,X.env.cells.lookup x=some c->c≠b)/\∀p∈X.pn++pins,p.1≠b):Inv X pins σ H' s':=by
 obtain⟨h',g',d',t',o'⟩:=s';have e:o'=s.os:=ho;subst e;exact I.call (g':=g') (t':=t') (d':=d') u hok hg hch
end
abbrev XK:=Value->Option Addr->Hp->Prop
abbrev St:=List (Option V)
abbrev VK:=V->Hp->Prop
abbrev TE:=St->Hp->VK->Prop
abbrev TT:=St->Hp->(Bool->Hp->Prop)->Prop
abbrev TA:=St->Hp->(List V->Hp->Prop)->Prop
structure Ends where
 nx:St->Hp->Prop
 rt:VK
 bk:St->Hp->Prop:=fun _ _=>False
 ct:St->Hp->Prop:=fun _ _=>False
abbrev TS:=Ends->St->Hp->Prop
def EP(X:Cx)(pins:List (Addr×Obj))(σ:St)(Q:VK)(u:Value)(s':Shared):Prop:=∃v H',Inv X pins σ H' s'/\RelV v u/\Q v H'
def TP(X:Cx)(pins:List (Addr×Obj))(σ:St)(Q:Bool->Hp->Prop)(b:Bool)(s':Shared):Prop:=∃H',Inv X pins σ H' s'/\Q b H'
def AP(X:Cx)(pins:List (Addr×Obj))(σ:St)(Q:List V->Hp->Prop)(us:List Value)(s':Shared):Prop:=∃vs H',Inv X pins σ H' s'/\Vals vs us/\Q vs H'
def SP(X:Cx)(pins:List (Addr×Obj))(D:Ends)(f:Flow)(s':Shared):Prop:=
 match f with
 |.next=>∃ σ' H',Inv X pins σ' H' s'/\D.nx σ' H'
 |.brk=>∃ σ' H',Inv X pins σ' H' s'/\D.bk σ' H'
 |.cont=>∃ σ' H',Inv X pins σ' H' s'/\D.ct σ' H'
 |.ret u=>∃v σ' H',Inv X pins σ' H' s'/\RelV v u/\D.rt v H'
def PE(X:Cx)(e:Expr)(t:TE):Prop:=
 ∀(pins:List (Addr×Obj)) (s:Shared) (σ:St) (H:Hp) (Q:VK),Inv X pins σ H s->t σ H Q->wpAny (model X.prog X.w) X.A (eval e X.env) (EP X pins σ Q) X.xe s
def PT(X:Cx)(e:Expr)(t:TT):Prop:=
 ∀(pins:List (Addr×Obj)) (s:Shared) (σ:St) (H:Hp) (Q:Bool->Hp->Prop),Inv X pins σ H s->t σ H Q->wpAny (model X.prog X.w) X.A (isTrue e X.env (eval e X.env)) (TP X pins σ Q) X.xe s
def PW(X:Cx)(e:Expr)(t:TT):Prop:=
 ∀(whole:Sem Value) (pins:List (Addr×Obj)) (s:Shared) (σ:St) (H:Hp) (Q:Bool->Hp->Prop),Inv X pins σ H s->t σ H Q->wpAny (model X.prog X.w) X.A (isTrue e X.env whole) (TP X pins σ Q) X.xe s
theorem PW.pt{X:Cx}{e:Expr}{t:TT}(h:PW X e t):PT X e t:=h _
def PA(X:Cx)(es:List Expr)(t:TA):Prop:=
 ∀(pos:Pos) (pins:List (Addr×Obj)) (s:Shared) (σ:St) (H:Hp) (Q:List V->Hp->Prop),Inv X pins σ H s->t σ H Q->wpAny (model X.prog X.w) X.A (spliced (backTo pos (starEach es X.env))) (AP X pins σ Q) X.xe s
def PS(X:Cx)(st:Stmt)(t:TS):Prop:=
 ∀(pins:List (Addr×Obj)) (s:Shared) (σ:St) (H:Hp) (D:Ends),Inv X pins σ H s->t D σ H->wpAny (model X.prog X.w) X.A (exec st X.env) (SP X pins D) X.xe s
def PSs(X:Cx)(st:List Stmt)(t:TS):Prop:=
 ∀(pins:List (Addr×Obj)) (s:Shared) (σ:St) (H:Hp) (D:Ends),Inv X pins σ H s->t D σ H->wpAny (model X.prog X.w) X.A (execs st X.env) (SP X pins D) X.xe s
theorem cn{α:Type}{t:Sem α}{Q Q':α -> Shared->Prop}{M:Model}{A:Around}{E:Value->Shared->Prop}{s:Shared}(h:wpAny M A t Q E s)(hQ:∀a s,Q a s->Q' a s):wpAny M A t Q' E s:=wpAny_mono h hQ fun _ _ x=>x
section
variable{X:Cx}
def IU(i:Nat):TE:=fun σ H Q=>∃v,σ[i]? = some (some v)/\Q v H
def tC(v:V):TE:=fun _ H Q=>Q v H
theorem cf{i:Nat}{x:Str}{pos:Pos}(hN:X.N[i]? = some x)(hv:oH X.env.scope x)(hd:(x==("__debug__":Str))=false:=by decide)(hcd:(x==("__classdict__":Str))=false:=by decide):PE X (.Name x pos) (IU i):=by
 intro pins s σ H Q I h;obtain⟨v,e,h⟩:=h;obtain⟨m,hn,hl⟩:=I.loc;obtain⟨u,r,l⟩:=hl i x v hN e hv;have fin:EP X pins σ Q u s:=⟨v,H,I,r,h⟩;rcases l with⟨hk,hm⟩|⟨hk,c,hc,hcell⟩
 ·exact wpAny_Name (wpAny_loadName_local I.ok.kind hk hn hm fin) hd
 ·rcases hk with hk|hk
  ·exact wpAny_Name (wpAny_loadName_cell I.ok.kind hk hc hcell fin) hd
  ·exact wpAny_Name (wpAny_loadName_free I.ok.kind hk hc hcell fin hcd) hd
theorem DS{i j pos}:PE X (.Constant (.int i) j pos) (tC (.int i)):=fun _ _ _ H _ I h=>wpAny_Constant_int ⟨.int i,H,I.tok _,⟨_,rfl⟩,h⟩
theorem GY{b j pos}:PE X (.Constant (.bool b) j pos) (tC (.bl b)):=fun _ _ _ H _ I h=>Constant_bool ⟨.bl b,H,I,rfl,h⟩
theorem DP{x j pos}:PE X (.Constant (.str x) j pos) (tC (.str x)):=fun _ _ _ H _ I h=>Calls.Constant_str ⟨.str x,H,I.tok _,⟨_,rfl⟩,h⟩
def Gl(X:Cx)(x:Str):Prop:=X.env.kindOf x=some .globalImplicit
theorem vx{E:Value->Shared->Prop}{pins:List (Addr×Obj)}{s:Shared}{σ:St}{H:Hp}{x:Str}{u:Value}{pos:Pos}{Q:Value->Shared->Prop}(I:Inv X pins σ H s)(hg:Gl X x)(hm:X.mg x=some u)(h:Q u s)
  (hd:(x==("__debug__":Str))=false:=by decide):wpAny (model X.prog X.w) X.A (eval (.Name x pos) X.env) Q E s:=
 Calls.Name_function_global I.ok.kind hg (Calls.loadGlobal_global (by rw[I.ok.glob];exact I.mod.glob.keeps I.bk) hm h) hd
theorem jh{E:Value->Shared->Prop}{pins:List (Addr×Obj)}{s:Shared}{σ:St}{H:Hp}{x:Str}{u:Value}{pos:Pos}{Q:Value->Shared->Prop}(I:Inv X pins σ H s)(hg:Gl X x)(hm:X.mg x=none)(hv:bootBuiltins x=some u)(h:Q u s)
  (hn:x ≠ "__name__":=by decide) (hd:(x==("__debug__":Str))=false:=by decide):wpAny (model X.prog X.w) X.A (eval (.Name x pos) X.env) Q E s:=by
 obtain⟨mb,h1,h2⟩:=I.mod.blt;exact Calls.Name_function_global I.ok.kind hg (Calls.loadGlobal_builtin (by rw[I.ok.glob];exact I.mod.glob.keeps I.bk) hm (by rw[I.ok.blt];exact h1.keeps I.bk) ((h2 x hn).trans hv) h) hd
theorem Bf{x:Str}{v:V}{u:Value}{pos:Pos}(hg:Gl X x)(hm:X.mg x=none)(hv:bootBuiltins x=some u)(r:RelV v u)(hn:x ≠ "__name__":=by decide)(hd:(x==("__debug__":Str))=false:=by decide):PE X (.Name x pos) (tC v):=
 fun _ _ _ H _ I h=>jh I hg hm hv ⟨v,H,I,r,h⟩ hn hd
variable{a b:Expr}{ta tb:TE}{pos:Pos}
def tB(t:TE):TT:=fun σ H Q=>t σ H fun x H1=>∃c,x=.bl c/\Q c H1
theorem DK{e:Expr}{t:TE}(h:PE X e t)(he:∀whole,isTrue e X.env whole=(do let v <-whole;standAt e.pos;holding [v] (truthy v)):=by intro _;rfl):PT X e (tB t):=by
 intro pins s σ H Q I hw;refine isTrue_plain (cn (h pins s σ H _ I hw) fun v s1 ⟨x,H1,I1,r1,q1⟩=>?_) (he _)
 obtain⟨d,rfl,q⟩:=q1;cases r1;exact wpAny_truthy_bool ⟨H1,I1,q⟩
variable{tA tB':TT}{rest:List Expr}
def Je(t u:TT):TT:=fun σ H Q=>t σ H fun c H1=>if c=true then u σ H1 Q else Q false H1
def KY(t u:TT):TT:=fun σ H Q=>t σ H fun c H1=>if c=true then Q true H1 else u σ H1 Q
def IZ(t:TT):TT:=fun σ H Q=>t σ H fun c H1=>Q (!c) H1
theorem AY(ha:PT X a tA):PW X (.BoolOp .And [a] pos) tA:=by
 intro wh pins s σ H Q I h;refine isTrue_and (cn (ha pins s σ H Q I h) fun c s1 e=>?_)
 cases c with
 |true=>exact isTrue_and_nil e
 |false=>exact e
theorem DI(ha:PT X a tA):PW X (.BoolOp .Or [a] pos) tA:=by
 intro wh pins s σ H Q I h;refine isTrue_or (cn (ha pins s σ H Q I h) fun c s1 e=>?_)
 cases c with
 |false=>exact isTrue_or_nil e
 |true=>exact e
theorem DJ(ha:PT X a tA)(hb:PW X (.BoolOp .And (b::rest) pos) tB'):PW X (.BoolOp .And (a::b::rest) pos) (Je tA tB'):=by
 intro wh pins s σ H Q I h;refine isTrue_and (cn (ha pins s σ H _ I h) fun c s1 ⟨H1,I1,q1⟩=>?_)
 cases c with
 |true=>exact hb wh pins s1 σ H1 Q I1 q1
 |false=>exact⟨H1,I1,q1⟩
theorem GT(ha:PT X a tA)(hb:PW X (.BoolOp .Or (b::rest) pos) tB'):PW X (.BoolOp .Or (a::b::rest) pos) (KY tA tB'):=by
 intro wh pins s σ H Q I h;refine isTrue_or (cn (ha pins s σ H _ I h) fun c s1 ⟨H1,I1,q1⟩=>?_)
 cases c with
 |true=>exact⟨H1,I1,q1⟩
 |false=>exact hb wh pins s1 σ H1 Q I1 q1
theorem DL(ha:PT X a tA):PT X (.UnaryOp .Not a pos) (IZ tA):=by
 intro pins s σ H Q I h;exact isTrue_not (ha pins s σ H (fun c H1=>Q (!c) H1) I h)
def GD(ta tb:TE):TE:=fun σ H Q=>ta σ H fun x H1=>∃c,x=.bl c/\if c=true then tb σ H1 Q else Q (.bl false) H1
def Gr(ta:TE):TE:=fun σ H Q=>ta σ H fun x H1=>∃c,x=.bl c/\Q (.bl (!c)) H1
theorem DQ{op}{t:TE}(h:PE X a t):PE X (.BoolOp op [a] pos) t:=fun pins s σ H Q I hw=>BoolOp_one (h pins s σ H Q I hw)
theorem DT(ha:PE X a ta)(hb:PE X (.BoolOp .And (b::rest) pos) tb):PE X (.BoolOp .And (a::b::rest) pos) (GD ta tb):=by
 intro pins s σ H Q I h;refine BoolOp_and (cn (ha pins s σ H _ I h) fun v s1 ⟨x,H1,I1,r1,q1⟩=>?_)
 obtain⟨c,rfl,q1⟩:=q1;cases r1;refine wpAny_truthy_bool ?_;cases c with
 |true=>exact hb pins s1 σ H1 Q I1 q1
 |false=>exact⟨.bl false,H1,I1,rfl,q1⟩
theorem DR(ha:PE X a ta):PE X (.UnaryOp .Not a pos) (Gr ta):=by
 intro pins s σ H Q I h;refine UnaryOp_ (cn (ha pins s σ H _ I h) fun v s1 ⟨x,H1,I1,r1,q1⟩=>?_)
 obtain⟨c,rfl,q1⟩:=q1;cases r1;exact not_of (wpAny_truthy_bool ⟨.bl (!c),H1,I1,rfl,q1⟩)
end
def SqL(K:PySem.W.Frag)(H:Hp)(a:Addr)(xs:List V):Prop:=
 Rd H a (.lst xs) \/
  ∃(o:Obj) (its:Array Value) (n:Nat),K.lookup a=some o/\o.cls=.type "list" /\ o.dict=none/\o.data=.seq its n/\its.size<=sizeLine/\Vals xs its.toList
def SqT(K:PySem.W.Frag)(H:Hp)(a:Addr)(xs:List V):Prop:=
 Rd H a (.tup xs) \/
  ∃(o:Obj) (its:Array Value) (n:Nat),K.lookup a=some o/\o.cls=.type "tuple" /\ o.data=.seq its n/\its.size<=sizeLine/\Vals xs its.toList/\o.dict=none
noncomputable def J7:Value->Option V
 |.none=>some .non
 |.bool b=>some (.bl b)
 |.int i _=>some (.int i)
 |.str x _=>some (.str x)
 |.bytes b _=>some (.byt b)
 |.float b _=>some (.flt b)
 |.ref a=>some (.ref a)
 |.type n=>some (.ty n)
 |_=>none
theorem RelV.abs{x:V}{u:Value}(r:RelV x u):J7 u=some x:=by
 cases x with
 |non=>cases r;rfl
 |bl _=>cases r;rfl
 |int _=>obtain⟨t,rfl⟩:=r;rfl
 |str _=>obtain⟨t,rfl⟩:=r;rfl
 |byt _=>obtain⟨t,rfl⟩:=r;rfl
 |flt _=>obtain⟨t,rfl⟩:=r;rfl
 |ref _=>cases r;rfl
 |ty _=>cases r;rfl
theorem RelV.inj{x y:V}{u:Value}(r:RelV x u)(q:RelV y u):x=y:=Option.some.inj (r.abs.symm.trans q.abs)
theorem Vals.inj:∀{xs ys:List V} {us:List Value},Vals xs us->Vals ys us->xs=ys
 |_,_,_,.nil,.nil=>rfl
 |_,_,_,.cons r t,.cons r' t'=>by rw[r.inj r',Vals.inj t t']
section
variable{X:Cx}{pins:List (Addr×Obj)}{σ:St}{H:Hp}{s:Shared}{a:Addr}{xs ys:List V}
theorem SqL.of{K:PySem.W.Frag}(h:H a=some (.lst xs)):SqL K H a xs:=.inl (.inl h)
theorem SqT.of{K:PySem.W.Frag}(h:H a=some (.tup xs)):SqT K H a xs:=.inl (.inl h)
theorem Inv.list(I:Inv X pins σ H s)(h:SqL X.K H a xs):∃its:List Value,Vals xs its/\PlainL s.heap a its.toArray/\xs.length<=sizeLine:=by
 rcases h with h|⟨o,its,n,hk,hc,hd,hs,hz,r⟩
 ·obtain⟨z,its,n,r,e⟩:=h.ok I.hok
  exact⟨its,r,⟨_,n,e,rfl,rfl,rfl⟩,z⟩
 ·refine⟨its.toList,r,⟨o,n,I.kIn a o hk,hc,hd,by simpa using hs⟩,?_⟩
  have e:=r.length;simp only[Array.length_toList]at e;omega
theorem Inv.tuple(I:Inv X pins σ H s)(h:SqT X.K H a xs):∃its:List Value,Vals xs its/\IsTup s.heap a its.toArray/\xs.length<=sizeLine:=by
 rcases h with h|⟨o,its,n,hk,hc,hs,hz,r,hd⟩
 ·obtain⟨z,its,r,p⟩:=h.ok I.hok
  exact⟨its,r,p.1,z⟩
 ·refine⟨its.toList,r,⟨o,I.kIn a o hk,hc,n,by simpa using hs⟩,?_⟩
  have e:=r.length;simp only[Array.length_toList]at e;omega
theorem Inv.noDi(I:Inv X pins σ H s)(h:SqT X.K H a xs):NoDi s.heap a:=by
 rcases h with h|⟨o,its,n,hk,hc,hs,hz,r,hd⟩
 ·obtain⟨z,its,r,p⟩:=h.ok I.hok
  exact p.2
 ·exact⟨o,I.kIn a o hk,hd⟩
theorem Inv.list_inj(I:Inv X pins σ H s)(h:SqL X.K H a xs)(h':SqL X.K H a ys):xs=ys:=by
 obtain⟨its,r,⟨o,n,e,_,_,d⟩,_⟩:=I.list h;obtain⟨its',r',⟨o',n',e',_,_,d'⟩,_⟩:=I.list h';rw[e]at e';cases e';rw[d]at d';injection d' with d1 _
 have:its=its':=by simpa using congrArg Array.toList d1
 subst this;exact r.inj r'
theorem Inv.tuple_inj(I:Inv X pins σ H s)(h:SqT X.K H a xs)(h':SqT X.K H a ys):xs=ys:=by
 obtain⟨its,r,⟨o,e,_,n,d⟩,_⟩:=I.tuple h;obtain⟨its',r',⟨o',e',_,n',d'⟩,_⟩:=I.tuple h';rw[e]at e';cases e';rw[d]at d';injection d' with d1 _
 have:its=its':=by simpa using congrArg Array.toList d1
 subst this;exact r.inj r'
end
abbrev Cx.wish(X:Cx)(E:Value->Shared->Prop):Cx:={ X with xe:=E }
abbrev Cx.nox(X:Cx):Cx:=X.wish fun _ _=>False
theorem Cx.Ok.wish{X:Cx}(ok:X.Ok)(E:Value->Shared->Prop):(X.wish E).Ok:=
 ⟨ok.mod,ok.kind,ok.glob,ok.blt,ok.above,ok.inj,ok.has,ok.cab,ok.hd,ok.frames,ok.stk,ok.exf,ok.bs,ok.bsz,ok.noex,ok.exfs,ok.funs,ok.frf⟩
theorem Cx.Ok.unwish{X:Cx}{E:Value->Shared->Prop}(ok:(X.wish E).Ok):X.Ok:=
 ⟨ok.mod,ok.kind,ok.glob,ok.blt,ok.above,ok.inj,ok.has,ok.cab,ok.hd,ok.frames,ok.stk,ok.exf,ok.bs,ok.bsz,ok.noex,ok.exfs,ok.funs,ok.frf⟩
section
variable{X:Cx}{pins:List (Addr×Obj)}{σ:St}{H:Hp}{s:Shared}{E:Value->Shared->Prop}
theorem Inv.wish(I:Inv X pins σ H s)(E:Value->Shared->Prop):Inv (X.wish E) pins σ H s:=⟨I.ok.wish E,I.os,I.bare,I.base,I.loc,I.cell,I.free,I.freeC,I.pin,I.hok,I.len⟩
theorem Inv.unwish(I:Inv (X.wish E) pins σ H s):Inv X pins σ H s:=⟨I.ok.unwish,I.os,I.bare,I.base,I.loc,I.cell,I.free,I.freeC,I.pin,I.hok,I.len⟩
theorem SP.unwish{D:Ends}{f:Flow}{s':Shared}(h:SP (X.wish E) pins D f s'):SP X pins D f s':=by
 cases f with
 |next=>obtain⟨σ',H',I,q⟩:=h;exact⟨σ',H',I.unwish,q⟩
 |brk=>obtain⟨σ',H',I,q⟩:=h;exact⟨σ',H',I.unwish,q⟩
 |cont=>obtain⟨σ',H',I,q⟩:=h;exact⟨σ',H',I.unwish,q⟩
 |ret u=>obtain⟨v,σ',H',I,r,q⟩:=h;exact⟨v,σ',H',I.unwish,r,q⟩
theorem PSs.nox{st:List Stmt}{t:TS}(h:PSs X.nox st t):PSs X st t:=fun pins s σ H D I hw=>
 wpAny_mono (h pins s σ H D (I.wish _) hw) (fun _ _ q=>q.unwish) fun _ _ z=>False.elim z
end
section
variable{X:Cx}{st:Stmt}{rest:List Stmt}{t u:TS}{e:Expr}{te:TE}{pos:Pos}
def Gu:TS:=fun D σ H=>D.nx σ H
def IX(t u:TS):TS:=fun D σ H=>t { D with nx:=u D } σ H
theorem qD:PSs X [] Gu:=fun _ _ σ H _ I h=>wpAny_execs_nil ⟨σ,H,I,h⟩
theorem fK(h1:PS X st t)(h2:PSs X rest u):PSs X (st::rest) (IX t u):=by
 intro pins s σ H D I h;refine wpAny_execs_cons (cn (h1 pins s σ H { D with nx:=u D } I h) fun f s1 q=>?_)
 cases f with
 |next=>
  obtain⟨σ',H',I',q⟩:=q;exact h2 pins s1 σ' H' D I' q
 |ret v=>exact q
 |brk=>exact q
 |cont=>exact q
theorem jL(h1:PS X st t):PSs X [st] t:=by
 intro pins s σ H D I h;refine wpAny_execs_cons (cn (h1 pins s σ H D I h) fun f s1 q=>?_)
 cases f with
 |next=>exact wpAny_execs_nil q
 |ret v=>exact q
 |brk=>exact q
 |cont=>exact q
theorem Inv.quiet{pins:List (Addr×Obj)}{σ:St}{H:Hp}{s:Shared}(I:Inv X pins σ H s):interactive X.env=false:=by simp[interactive,I.ok.kind]
def Gx(te:TE):TS:=fun D σ H=>te σ H fun _ H1=>D.nx σ H1
theorem iN(he:PE X e te)(hs:swapsWith e none pos.line X.env=pure false:=by rfl):PS X (.Expr e pos) (Gx te):=by
 intro pins s σ H D I h;exact wpAny_Expr_any (cn (he pins s σ H _ I h) fun v s1 ⟨x,H1,I1,r1,q1⟩=>⟨σ,H1,I1,q1⟩) I.quiet hs
def IY(te:TE):TS:=fun D σ H=>te σ H D.rt
theorem DM(he:PE X e te):PS X (.Return (some e) pos) (IY te):=by
 intro pins s σ H D I h;exact wpAny_Return_some (cn (he pins s σ H _ I h) fun v s1 ⟨x,H1,I1,r1,q1⟩=>⟨x,σ,H1,I1,r1,q1⟩)
def Jb(c:TT)(t u:TS):TS:=fun D σ H=>c σ H fun b H1=>if b=true then t D σ H1 else u D σ H1
theorem vg{c:Expr}{a b:List Stmt}{tc:TT}(hc:PT X c tc)(ha:PSs X a t)(hb:PSs X b u):PS X (.If c a b pos) (Jb tc t u):=by
 intro pins s σ H D I h;refine wpAny_If (cn (hc pins s σ H _ I h) fun d s1 ⟨H1,I1,q1⟩=>?_)
 cases d with
 |true=>exact ha pins s1 σ H1 D I1 q1
 |false=>exact hb pins s1 σ H1 D I1 q1
end
abbrev TG:=V->St->Hp->(St->Hp->Prop)->Prop
def PG(X:Cx)(target:Expr)(t:TG):Prop:=
 ∀(pins:List (Addr×Obj)) (s:Shared) (σ:St) (H:Hp) (v:V) (u:Value) (Q:St->Hp->Prop),Inv X pins σ H s->RelV v u->t v σ H Q ->
  wpAny (model X.prog X.w) X.A (assign target X.env u) (fun _ s'=>∃ σ' H',Inv X pins σ' H' s'/\Q σ' H') X.xe s
abbrev FT:=V->V->V->Hp->(Hp->Prop)->Prop
def Id(X:Cx)(t:FT):Prop:=
 ∀(pins:List (Addr×Obj)) (s:Shared) (σ:St) (H:Hp) (o i v:V) (ov iv u:Value) (Q:Hp->Prop),Inv X pins σ H s->RelV o ov->RelV i iv->RelV v u->t o i v H Q ->
  wpAny (model X.prog X.w) X.A (setItem ov iv u) (fun _ s'=>∃H',Inv X pins σ H' s'/\Q H') X.xe s
section
variable{X:Cx}{pos:Pos}
def zp(i:Nat):TG:=fun v σ H Q=>Q (σ.set i (some v)) H
theorem cR{i:Nat}{x:Str}(hN:X.N.Nodup)(hi:X.N[i]? = some x)(hx:rL X.env.scope x)(hf:X.fn x=true\/X.env.scope.names.lookup x=some .local:=by first|exact .inl rfl|exact .inr rfl|assumption):PG X (.Name x pos) (zp i):=by
 intro pins s σ H v u Q I r h;exact wpAny_assign_Name (r8 I hN hi hx r (fun s' I'=>⟨_,H,I',h⟩) hf)
def JT(to ti:TE)(t:FT):TG:=fun v σ H Q=>to σ H fun o H1=>ti σ H1 fun i H2=>t o i v H2 fun H3=>Q σ H3
theorem ya{o i:Expr}{to ti:TE}{t:FT}(ho:PE X o to)(hi:PE X i ti)(hs:Id X t)
  (ha:∀v,assign (.Subscript o i pos) X.env v=(do
   let ov <-holding [v] (eval o X.env)
   let iv <-holding [v,ov] (eval i X.env)
   standAt pos
   holding [v,ov,iv] (setItem ov iv v)
   release [v,ov,iv] []):=by intro _;rfl):PG X (.Subscript o i pos) (JT to ti t):=by
 intro pins s σ H v u Q I r h;rw[ha];refine wpAny_bind (wpAny_holding (cn (ho pins s σ H _ I h) fun ov s1 ⟨x,H1,I1,r1,q1⟩=>?_))
 refine wpAny_bind (wpAny_holding (cn (hi pins s1 σ H1 _ I1 q1) fun iv s2 ⟨y,H2,I2,r2,q2⟩=>?_))
 refine wpAny_bind (wpAny_standAt (wpAny_bind (wpAny_holding (cn (hs pins s2 σ H2 x y v ov iv u _ I2 r1 r2 r q2) fun _ s3 ⟨H3,I3,q3⟩=>?_))))
 exact wpAny_release ⟨σ,H3,I3,q3⟩
def GC(te:TE)(g:TG):TS:=fun D σ H=>te σ H fun x H1=>g x σ H1 D.nx
theorem xX{tg e:Expr}{te:TE}{g:TG}(he:PE X e te)(hg:PG X tg g)(hs:swapsWithSole [tg] e pos.line X.env=pure false:=by rfl)(hw:swappedStores [tg] e X.env=pure none:=by rfl)
  (h1:(assignEach [tg] X.env).map (·.2)=[assign tg X.env]:=by rfl):PS X (.Assign [tg] e pos) (GC te g):=by
 intro pins s σ H D I h;refine wpAny_Assign_stores (cn (he pins s σ H _ I h) fun v s1 ⟨x,H1,I1,r1,q1⟩=>?_) hs hw
 rw[h1];exact cn (hg pins s1 σ H1 x v _ I1 r1 q1) fun _ s2 q=>q
theorem gH{i:Nat}{x:Str}{e:Expr}{te:TE}{pos':Pos}(hN:X.N.Nodup)(hi:X.N[i]? = some x)(hx:rL X.env.scope x)(he:PE X e te)(hs:swapsWith e (some (.Name x pos')) pos.line X.env=pure false:=by rfl)(hf:X.fn x=true\/X.env.scope.names.lookup x=some .local:=by first|exact .inl rfl|exact .inr rfl|assumption):
  PS X (.Assign [.Name x pos'] e pos) (GC te (zp i)):=by
 intro pins s σ H D I h;refine wpAny_Assign_Name (cn (he pins s σ H _ I h) fun v s1 ⟨y,H1,I1,r1,q1⟩=>?_) hs
 exact r8 I1 hN hi hx r1 (fun s2 I2=>⟨_,H1,I2,q1⟩) hf
end
structure It where
 go:Nat->Hp->Prop
 yld:Nat->Hp->V->Hp->Prop
 stop:Nat->Hp->Prop
def js(X:Cx)(pins:List (Addr×Obj))(H:Hp)(b:Addr):Prop:=
 H b=none/\b≠X.env.locals/\b ∉ X.fs/\(b∈X.ex\/X.s₀.heap.objs.size<=b)/\(∀x c,X.env.cells.lookup x=some c->c≠b)/\∀p∈X.pn++pins,p.1≠b
theorem Inv.fpOk{X:Cx}{pins:List (Addr×Obj)}{σ:St}{H H':Hp}{s:Shared}{b:Addr}(I:Inv X pins σ H s)(hb:s.heap.objs.size<=b)(hn:H' b=none):js X pins H' b:=by
 refine⟨hn,Nat.ne_of_gt (Nat.lt_of_lt_of_le I.lt hb),I.nofs hb,.inr (Nat.le_trans I.sz hb),fun x c e z=>?_,fun p hp z=>?_⟩
 ·obtain⟨v,q⟩:=I.cell x c e
  exact absurd (Nat.lt_of_lt_of_le q.lt (by rw[z];exact hb)) (Nat.lt_irrefl _)
 ·exact absurd (Nat.lt_of_lt_of_le (Heap.lt_size (I.pin p hp).1) (by rw[z];exact hb)) (Nat.lt_irrefl _)
structure TurnG (Cm:Cx->Prop) (P:Program) (w:World) (K:PySem.W.Frag) (tg:Expr) (J:It) (fp:List Addr) (it:Addr) (tn:Nat->Heap->Prop):Prop where
 mem:it∈fp
 obj:∀i h,tn i h->∀b∈fp,∃o,h.get? b=some o/\∀v,o.data≠.cell v
 keep:∀i h h',tn i h->(∀b∈fp,∀o,h.get? b=some o->h'.get? b=some o)->tn i h'
 item:∀(X:Cx),X.prog=P->X.w=w->X.K=K->Cm X->∀(i:Nat) (pins:List (Addr×Obj)) (s:Shared) (σ:St) (H:Hp) (E:Value->Shared->Prop),Inv X pins σ H s->(∀b∈fp,js X pins H b)->tn i s.heap->J.go i H ->
  wpAny (model P w) X.A (pyNext (.ref it)) (fun r s1=>∃u,r=some u /\
   wpAny (model P w) X.A (letOwnedTupleGo tg (.ref it) u) (fun _ s2=>∃x H',Inv X pins σ H' s2/\RelV x u/\J.yld i H x H'/\tn (i+1) s2.heap/\∀b∈fp,H' b=none) E s1) E s
 done:∀(X:Cx),X.prog=P->X.w=w->X.K=K->Cm X->∀(i:Nat) (pins:List (Addr×Obj)) (s:Shared) (σ:St) (H:Hp) (E:Value->Shared->Prop),Inv X pins σ H s->(∀b∈fp,js X pins H b)->tn i s.heap->J.stop i H ->
  wpAny (model P w) X.A (pyNext (.ref it)) (fun r s1=>r=none/\Inv X pins σ H s1) E s
 self:∀(A:Around) (i:Nat) (s:Shared) (Q:Value->Shared->Prop) (E:Value->Shared->Prop),tn i s.heap->Q (.ref it) s->wpAny (model P w) A (pyIter (.ref it)) Q E s
abbrev zL(P:Program)(w:World)(K:PySem.W.Frag)(tg:Expr)(J:It)(fp:List Addr)(it:Addr)(tn:Nat->Heap->Prop):Prop:=TurnG (fun X=>X.calm=true) P w K tg J fp it tn
abbrev TI:=St->Hp->(It->Hp->Prop)->Prop
def KI(X:Cx)(pins:List (Addr×Obj))(σ:St)(tg:Expr)(R:It->Hp->Prop)(itv:Value)(s2:Shared):Prop:=
 ∃(it:Addr) (fp:List Addr) (tn:Nat->Heap->Prop) (J:It) (H':Hp),itv=.ref it/\Inv X pins σ H' s2/\zL X.prog X.w X.K tg J fp it tn/\tn 0 s2.heap/\(∀b∈fp,js X pins H' b)/\R J H'
def PI(X:Cx)(tg iter:Expr)(wi:TI):Prop:=
 ∀(pins:List (Addr×Obj)) (s:Shared) (σ:St) (H:Hp) (R:It->Hp->Prop),Inv X pins σ H s->wi σ H R ->
  wpAny (model X.prog X.w) X.A (eval iter X.env) (fun v s1=>wpAny (model X.prog X.w) X.A (pyIter v) (KI X pins σ tg R) X.xe s1) X.xe s
theorem zi{M:Model}{A:Around}{E:Value->Shared->Prop}{s:Shared}{tg:Expr}{it:Addr}{u:Value}{o:Obj}{n:String}{vs:Array Value}{Q:Unit->Shared->Prop}(ho:s.heap.get? it=some o)(hc:o.cls=.type n)(hd:o.data=.fields vs)
  (hn:["enumerate","zip","dict_itemiterator","dict_reverseitemiterator","odict_iterator","itertools.zip_longest","itertools.pairwise"].contains n=false) (hQ:Q () s):wpAny M A (letOwnedTupleGo tg (.ref it) u) Q E s:=by
 unfold letOwnedTupleGo;cases tg<;>first
  |exact wpAny_pure hQ
  | (cases u<;>first
    |exact wpAny_pure hQ
    | (refine wpAny_bind (wpAny_load ho ?_)
       rw[hc,hd];show wpAny M A (if(["enumerate","zip","dict_itemiterator","dict_reverseitemiterator","odict_iterator","itertools.zip_longest","itertools.pairwise"].contains n&&vs[0]? == some (rawInt _))=true then _ else _) Q E s;rw[if_neg (by intro h;rw[hn,Bool.false_and]at h;cases h)];exact wpAny_pure hQ))
noncomputable def KL(K:PySem.W.Frag)(a:Addr):It:=
 ⟨fun i H=>∃xs x,SqL K H a xs/\xs[i]? = some x,fun i H x H'=>H'=H/\∀xs,SqL K H a xs->xs[i]? = some x,fun i H=>∃xs,SqL K H a xs/\xs.length<=i⟩
noncomputable def KK(K:PySem.W.Frag)(a:Addr):It:=
 ⟨fun i H=>∃xs x,SqT K H a xs/\xs[i]? = some x,fun i H x H'=>H'=H/\∀xs,SqT K H a xs->xs[i]? = some x,fun i H=>∃xs,SqT K H a xs/\xs.length<=i⟩
noncomputable def Gc(lo:Int)(n:Nat):It:=⟨fun i _=>i<n,fun i H x H'=>H'=H/\x=.int (lo+i),fun i _=>n<=i⟩
theorem v8{P:Program}{w:World}{K:PySem.W.Frag}{tg:Expr}(a it:Addr):zL P w K tg (KL K a) [it] it (fun i h=>h.IsListIter it a i) where
 mem:=by simp
 obj:=fun i h st b hb=>by
  have e:b=it:=by simpa using hb
  subst e;obtain⟨o,e,c,d⟩:=st;exact⟨o,e,fun v z=>by rw[d]at z;cases z⟩
 keep:=fun i h h' st k=>st.at fun o e=>k it (by simp) o e
 item:=by
  intro X hP hw hK hc i pins s σ H E I hf st hg;subst hP hw hK;obtain⟨xs,x,hq,hx⟩:=hg;obtain⟨its,rv,p,hz⟩:=I.list hq;obtain⟨u,hu,ru⟩:=rv.get hx;obtain⟨f0,f1,f2,f3,f4,f5⟩:=hf it (by simp);refine wpAny_pyNext_list_item st p.isList (x:=u) (by simpa using hu) fun h' st' sb=>?_
  have I1:Inv X pins σ H { s with heap:=h' }:=I.turned (t':=s.toks) (fun b o hb e=>(sb.2 b hb).trans e) f0 f1 f3 f4 f5
  obtain⟨o,e,c,d⟩:=id st';exact⟨u,rfl,zi (s:={ s with heap:=h' }) e c d (by decide) ⟨x,H,I1,ru,⟨rfl,fun ys hy=>by rw[I.list_inj hy hq];exact hx⟩,st',fun b hb=>(hf b hb).1⟩⟩
 done:=by
  intro X hP hw hK hc i pins s σ H E I hf st hg;subst hP hw hK;obtain⟨xs,hq,hx⟩:=hg;obtain⟨its,rv,p,hz⟩:=I.list hq;obtain⟨f0,f1,f2,f3,f4,f5⟩:=hf it (by simp);have hl:=rv.length;exact wpAny_pyNext_list_end (I.ok.hd hc) st p.isList (by simp;omega) fun h' eb=>⟨rfl,I.turned (t':=s.toks) (fun b o hb e=>eb b o hb e) f0 f1 f3 f4 f5⟩
 self:=fun _ _ _ _ _ st h=>wpAny_pyIter_listiter st h
theorem tT{P:Program}{w:World}{K:PySem.W.Frag}{tg:Expr}(a it:Addr):zL P w K tg (KK K a) [it] it (fun i h=>h.IsTupleIter it a i) where
 mem:=by simp
 obj:=fun i h st b hb=>by
  have e:b=it:=by simpa using hb
  subst e;obtain⟨o,e,c,d⟩:=st;exact⟨o,e,fun v z=>by rw[d]at z;cases z⟩
 keep:=fun i h h' st k=>st.at fun o e=>k it (by simp) o e
 item:=by
  intro X hP hw hK hc i pins s σ H E I hf st hg;subst hP hw hK;obtain⟨xs,x,hq,hx⟩:=hg;obtain⟨its,rv,p,hz⟩:=I.tuple hq;obtain⟨u,hu,ru⟩:=rv.get hx;obtain⟨f0,f1,f2,f3,f4,f5⟩:=hf it (by simp);refine wpAny_pyNext_tuple_item st (show s.heap.IsTuple a its.toArray from p) (x:=u) (by simpa using hu) fun h' st' sb=>?_
  have I1:Inv X pins σ H { s with heap:=h' }:=I.turned (t':=s.toks) (fun b o hb e=>(sb.2 b hb).trans e) f0 f1 f3 f4 f5
  obtain⟨o,e,c,d⟩:=id st';exact⟨u,rfl,zi (s:={ s with heap:=h' }) e c d (by decide) ⟨x,H,I1,ru,⟨rfl,fun ys hy=>by rw[I.tuple_inj hy hq];exact hx⟩,st',fun b hb=>(hf b hb).1⟩⟩
 done:=by
  intro X hP hw hK hc i pins s σ H E I hf st hg;subst hP hw hK;obtain⟨xs,hq,hx⟩:=hg;obtain⟨its,rv,p,hz⟩:=I.tuple hq;obtain⟨f0,f1,f2,f3,f4,f5⟩:=hf it (by simp);have hl:=rv.length;exact wpAny_pyNext_tuple_end (I.ok.hd hc) st (show s.heap.IsTuple a its.toArray from p) (by simp;omega) fun h' eb=>⟨rfl,I.turned (t':=s.toks) (fun b o hb e=>eb b o hb e) f0 f1 f3 f4 f5⟩
 self:=fun _ _ _ _ _ st h=>wpAny_pyIter_tupleiter st h
theorem tU{P:Program}{w:World}{K:PySem.W.Frag}{tg:Expr}(it:Addr)(lo:Int)(n:Nat):zL P w K tg (Gc lo n) [it] it (fun i h=>IsRangeIter h it (lo+(i:Nat)*1) ((n:Int)-(i:Nat)) 1) where
 mem:=by simp
 obj:=fun i h st b hb=>by
  have e:b=it:=by simpa using hb
  subst e;exact⟨_,st,fun v z=>by
   have z':Data.fields _=Data.cell v:=z;cases z'⟩
 keep:=fun i h h' st k=>k it (by simp) _ st
 item:=by
  intro X hP hw hK hc i pins s σ H E I hf st hg;subst hP hw hK;obtain⟨f0,f1,f2,f3,f4,f5⟩:=hf it (by simp);have W:=Walks.range (prog:=X.prog) (w:=X.w) (I.ok.hd hc) it lo 1 n;refine W.item i s _ _ hg st fun v h' tk hv st' kk=>?_
  obtain⟨t,rfl⟩:=hv;have I1:Inv X pins σ H { s with heap:=h',toks:=tk }:=I.turned (fun b o hb e=>kk b o (by simpa using hb) e) f0 f1 f3 f4 f5
  refine⟨_,rfl,zi (s:={ s with heap:=h',toks:=tk }) (n:="range_iterator") st' rfl rfl (by decide) ⟨.int (lo+i),H,I1,⟨t,?_⟩,⟨rfl,rfl⟩,st',fun b hb=>(hf b hb).1⟩⟩
  rw[Int.mul_one]
 done:=by
  intro X hP hw hK hc i pins s σ H E I hf st hg;subst hP hw hK;obtain⟨f0,f1,f2,f3,f4,f5⟩:=hf it (by simp);exact wpAny_pyNext_range_end (I.ok.hd hc) st (by have:n<=i:=hg;omega) fun h' eb=>⟨rfl,I.turned (t':=s.toks) (fun b o hb e=>eb b o hb e) f0 f1 f3 f4 f5⟩
 self:=fun _ _ _ _ _ st h=>wpAny_pyIter_rangeiter st h
section
variable{X:Cx}{tg:Expr}
def HB(K:PySem.W.Frag)(tl:TE):TI:=fun σ H R=>tl σ H fun x H1=>∃a,x=.ref a/\(∃xs,SqL K H1 a xs)/\R (KL K a) H1
def JO(K:PySem.W.Frag)(tl:TE):TI:=fun σ H R=>tl σ H fun x H1=>∃a,x=.ref a/\(∃xs,SqT K H1 a xs)/\R (KK K a) H1
theorem A9{l:Expr}{tl:TE}(hl:PE X l tl):PI X tg l (HB X.K tl):=by
 intro pins s σ H R I h;refine cn (hl pins s σ H _ I h) fun v s1 ⟨x,H1,I1,r1,q1⟩=>?_
 obtain⟨a,e,⟨xs,hq⟩,q⟩:=q1;subst e;cases r1;obtain⟨its,rv,p,hz⟩:=I1.list hq;refine wpAny_pyIter_list p.isList ?_;refine⟨s1.heap.objs.size,[s1.heap.objs.size],_,_,H1,rfl,I1.kept (t':=s1.toks) fun b o e=>Heap.get?_push_of_some _ e,v8 a _,⟨_,Heap.get?_push_size _ rfl,rfl,rfl⟩,fun b hb=>?_,q⟩
 have e:b=s1.heap.objs.size:=by simpa using hb
 subst e;exact I1.fpOk (Nat.le_refl _) (I1.hok.fresh (Nat.le_refl _))
theorem DN{l:Expr}{tl:TE}(hl:PE X l tl):PI X tg l (JO X.K tl):=by
 intro pins s σ H R I h;refine cn (hl pins s σ H _ I h) fun v s1 ⟨x,H1,I1,r1,q1⟩=>?_
 obtain⟨a,e,⟨xs,hq⟩,q⟩:=q1;subst e;cases r1;obtain⟨its,rv,p,hz⟩:=I1.tuple hq;refine wpAny_pyIter_tuple (show s1.heap.IsTuple a its.toArray from p) ?_;refine⟨s1.heap.objs.size,[s1.heap.objs.size],_,_,H1,rfl,I1.kept (t':=s1.toks) fun b o e=>Heap.get?_push_of_some _ e,tT a _,⟨_,Heap.get?_push_size _ rfl,rfl,rfl⟩,fun b hb=>?_,q⟩
 have e:b=s1.heap.objs.size:=by simpa using hb
 subst e;exact I1.fpOk (Nat.le_refl _) (I1.hok.fresh (Nat.le_refl _))
theorem xU{pins:List (Addr×Obj)}{σ:St}{H:Hp}{s:Shared}{R:It->Hp->Prop}{E:Value->Shared->Prop}{lo hi:Int}{t u v:Tok}{tk:Nat}(I:Inv X pins σ H s)(h1:-(2^62)<=lo)(h2:lo<2^62)(h3:-(2^62)<=hi)(h4:hi<2^62)
  (q:R (Gc lo (hi-lo).toNat) H):wpAny (model X.prog X.w) X.A (pyIter (.ref s.heap.objs.size)) (KI X pins σ tg R) E { s with heap:=s.heap.push { cls:=.type "range",data:=.fields #[.int lo t,.int hi u,.int 1 v] },toks:=tk }:=by
 refine wpAny_pyIter_range (IsRange.new ..) (small_one h1 h2 h3 h4) ?_;have I1:Inv X pins σ H { s with heap:=s.heap.push { cls:=.type "range",data:=.fields #[.int lo t,.int hi u,.int 1 v] },toks:=tk }:=I.kept fun b o e=>Heap.get?_push_of_some _ e
 refine⟨(s.heap.push { cls:=.type "range",data:=.fields #[.int lo t,.int hi u,.int 1 v] }).objs.size,[(s.heap.push { cls:=.type "range",data:=.fields #[.int lo t,.int hi u,.int 1 v] }).objs.size],_,_,H,rfl,
  I1.kept (t':=tk) fun b o e=>Heap.get?_push_of_some _ e,tU _ lo (hi-lo).toNat,?_,fun b hb=>?_,q⟩
 ·have e1:lo+((0:Nat):Int)*1=lo:=by simp
  have e2:(((hi-lo).toNat:Nat):Int)-((0:Nat):Int)=Builtin.Range.rangeSize lo hi 1:=by rw[rangeSize_one];split<;>omega
  show IsRangeIter _ _ (lo+((0:Nat):Int)*1) ((((hi-lo).toNat:Nat):Int)-((0:Nat):Int)) 1;rw[e1,e2];exact Heap.get?_push_size _ rfl
 ·have e:b=(s.heap.push { cls:=.type "range",data:=.fields #[.int lo t,.int hi u,.int 1 v] }).objs.size:=by simpa using hb
  subst e;exact I1.fpOk (Nat.le_refl _) (I1.hok.fresh (Nat.le_refl _))
def HA(ta:TA):TI:=fun σ H R=>ta σ H fun vs H1=>∃j:Int,vs=[.int j] /\ -(2^62)<=j/\j<2^62/\R (Gc 0 j.toNat) H1
theorem wB{a:Expr}{ta:TA}{p pos:Pos}(hg:Gl X "range")(hm:X.mg "range" = none)(ha:PA X [a] ta)(hs:starEach [a] X.env=[(false,eval a X.env)]:=by rfl):PI X tg (.Call (.Name "range" p) [a] [] pos) (HA ta):=by
 intro pins s σ H R I h;refine Call_ (jh I hg hm boot_range (PyProof.Rows.callWith_type1 (cn (ha pos pins s σ H _ I h) fun us s1 ⟨vs,H1,I1,r1,q1⟩=>?_) hs rfl))
 obtain⟨j,e,q1,q2,q⟩:=q1;subst e;cases r1 with
 |cons r rr=>
  cases rr;obtain⟨t,rfl⟩:=r;exact call_range_1 (xU I1 (by omega) (by omega) q1 q2 (by simpa using q))
def Jc(wi:TI)(g:TG)(tb:TS):TS:=fun D σ H=>wi σ H fun J H1=>∃W:Nat->Nat->St->Hp->Prop,(∃m,W 0 m σ H1)/\∀i m σ H,W i m σ H ->
 (J.stop i H/\D.nx σ H)\/(J.go i H/\∃N:St->Hp->Prop,(∀ σ' H',N σ' H'->∃m',m'<m/\W (i+1) m' σ' H')/\∀x H',J.yld i H x H'->g x σ H' fun σ2 H2=>tb { D with nx:=N,ct:=N,bk:=D.nx } σ2 H2)
noncomputable def qE(fp:List Addr)(h:Heap):List (Addr×Obj):=fp.filterMap fun b=>(h.get? b).map fun o=>(b,o)
theorem cW{fp:List Addr}{h:Heap}{b:Addr}{o:Obj}(hb:b∈fp)(e:h.get? b=some o):(b,o)∈qE fp h:=List.mem_filterMap.mpr ⟨b,hb,by rw[e];rfl⟩
theorem wF{fp:List Addr}{h:Heap}{p:Addr×Obj}(hp:p∈qE fp h):p.1∈fp/\h.get? p.1=some p.2:=by
 obtain⟨b,hb,e⟩:=List.mem_filterMap.mp hp;cases q:h.get? b with
 |none=>rw[q]at e;cases e
 |some o=>
  rw[q]at e;have e':(b,o)=p:=Option.some.inj e;subst e';exact⟨hb,q⟩
theorem Inv.pinned{pins:List (Addr×Obj)}{σ:St}{H:Hp}{s:Shared}{fp:List Addr}(I:Inv X pins σ H s)(hf:∀b∈fp,js X pins H b)(ho:∀b∈fp,∃o,s.heap.get? b=some o/\∀v,o.data≠.cell v):Inv X (pins++qE fp s.heap) σ H s:=
 I.pins_of fun p hp=>(List.mem_append.mp hp).elim (fun z=>I.pin p (List.mem_append_right _ z)) fun z=>by
  obtain⟨hb,e⟩:=wF z;obtain⟨f0,f1,f2,_⟩:=hf p.1 hb;obtain⟨o,e',d⟩:=ho p.1 hb;rw[e]at e';cases e';exact⟨e,f0,f1,f2,d⟩
theorem Inv.unpinned{pins pl:List (Addr×Obj)}{σ:St}{H:Hp}{s:Shared}(I:Inv X (pins++pl) σ H s):Inv X pins σ H s:=I.pins_of fun p hp=>I.pin p (List.mem_append_right _ (List.mem_append_left _ hp))
theorem xW{iter:Expr}{body:List Stmt}{wi:TI}{g:TG}{tb:TS}{pos:Pos}(hp:PassesOwn (model X.prog X.w) X.A X.env X.xe)(hc:X.calm=true)(hi:PI X tg iter wi)(hg:PG X tg g)(hb:PSs X body tb)
  (hs:∀x,foldedSetIterable iter X.env x=pure x:=by intro _;rfl):PS X (.For tg iter body [] pos) (Jc wi g tb):=by
 intro pins s σ H D I h;refine wpAny_For (cn (hi pins s σ H _ I h) fun v s1 h1=>cn h1 fun itv s2 h2=>?_) hs
 obtain⟨it,fp,tn,J,H2,e,I2,T,st2,f2,W,⟨m0,w0⟩,turn⟩:=h2;subst e;have stat:∀{H':Hp},(∀b∈fp,H' b=none)->∀b∈fp,js X pins H' b:=fun hn b hb=>⟨hn b hb,(f2 b hb).2⟩
 refine codeAny_forLoop_any (fun n s'=>∃i σ' H',Inv X pins σ' H' s'/\tn i s'.heap/\(∀b∈fp,H' b=none)/\W i n σ' H') ?_ m0 ⟨0,σ,H2,I2,st2,fun b hb=>(f2 b hb).1,w0⟩
 rintro n s3 ⟨i,σ3,H3,I3,st3,fr3,w3⟩;rcases turn i n σ3 H3 w3 with⟨stop,qn⟩|⟨go,N,hN,step⟩
 ·refine wpAny_passesOwn hp (cn (T.done X rfl rfl rfl hc i pins s3 σ3 H3 X.xe I3 (stat fr3) st3 stop) fun r s4 ⟨hr,I4⟩=>?_)
  subst hr;exact wpAny_execs_nil ⟨σ3,H3,I4,qn⟩
 ·refine wpAny_passesOwn hp (cn (T.item X rfl rfl rfl hc i pins s3 σ3 H3 X.xe I3 (stat fr3) st3 go) fun r s4 ⟨u,hr,h4⟩=>?_)
  subst hr;refine wpAny_passesOwn hp (cn h4 fun _ s5 ⟨x,H5,I5,r5,y5,st5,fr5⟩=>?_);have I5':=I5.pinned (stat fr5) (T.obj _ _ st5);refine wpAny_passesOwn hp (cn (hg _ s5 σ3 H5 x u _ I5' r5 (step x H5 y5)) fun _ s6 ⟨σ6,H6,I6,q6⟩=>?_)
  refine wpAny_passesOwn hp (cn (hb _ s6 σ6 H6 _ I6 q6) fun f s7 q7=>?_)
  have again:∀{σ7:St} {H7:Hp},Inv X (pins++qE fp s5.heap) σ7 H7 s7->N σ7 H7->∃m,m<n/\∃i σ' H',Inv X pins σ' H' s7/\tn i s7.heap/\(∀b∈fp,H' b=none)/\W i m σ' H':=fun{σ7 H7} I7 n7=>by
   obtain⟨m',hm,w7⟩:=hN σ7 H7 n7;refine⟨m',hm,i+1,σ7,H7,I7.unpinned,T.keep _ _ _ st5 fun b hb o e=>(I7.pin (b,o) (List.mem_append_right _ (List.mem_append_right _ (cW hb e)))).1,fun b hb=>?_,w7⟩
   obtain⟨o,e,d⟩:=T.obj _ _ st5 b hb;exact(I7.pin (b,o) (List.mem_append_right _ (List.mem_append_right _ (cW hb e)))).2.1
  cases f with
  |next=>obtain⟨σ7,H7,I7,n7⟩:=q7;exact again I7 n7
  |cont=>obtain⟨σ7,H7,I7,n7⟩:=q7;exact again I7 n7
  |brk=>obtain⟨σ7,H7,I7,q7⟩:=q7;exact⟨σ7,H7,I7.unpinned,q7⟩
  |ret v=>obtain⟨x7,σ7,H7,I7,r7,q7⟩:=q7;exact⟨x7,σ7,H7,I7.unpinned,r7,q7⟩
end
abbrev R2:=V->V->Hp->VK->Prop
def OpR(X:Cx)(f:Value->Value->Sem Value)(r:R2):Prop:=
 ∀(pins:List (Addr×Obj)) (s:Shared) (σ:St) (H:Hp) (x y:V) (v u:Value) (Q:VK),Inv X pins σ H s->RelV x v->RelV y u->r x y H Q ->
  wpAny (model X.prog X.w) X.A (f v u) (EP X pins σ Q) X.xe s
def Ib(X:Cx)(f:Value->Sem Value)(r:V->Hp->VK->Prop):Prop:=
 ∀(pins:List (Addr×Obj)) (s:Shared) (σ:St) (H:Hp) (x:V) (v:Value) (Q:VK),Inv X pins σ H s->RelV x v->r x H Q ->
  wpAny (model X.prog X.w) X.A (f v) (EP X pins σ Q) X.xe s
def CallR(X:Cx)(f:Value)(r:List V->Hp->VK->Prop):Prop:=
 ∀(pins:List (Addr×Obj)) (s:Shared) (σ:St) (H:Hp) (xs:List V) (us:List Value) (Q:VK),Inv X pins σ H s->Vals xs us->r xs H Q ->
  wpAny (model X.prog X.w) X.A (call f us) (EP X pins σ Q) X.xe s
def Gq(r:R2)(ta tb:TE):TE:=fun σ H Q=>ta σ H fun x H1=>tb σ H1 fun y H2=>r x y H2 Q
def KU(r:V->Hp->VK->Prop)(ta:TE):TE:=fun σ H Q=>ta σ H fun x H1=>r x H1 Q
def rI(C:Int->Int->Prop)(g:Int->Int->V):R2:=fun x y H Q=>∃i j,x=.int i/\y=.int j/\C i j/\Q (g i j) H
def zQ(g:Int->Int->V):R2:=fun x y H Q=>∃i j,x=.int i/\y=.int j/\Q (g i j) H
def rU(g:Int->V):V->Hp->VK->Prop:=fun x H Q=>∃i,x=.int i/\Q (g i) H
section
variable{X:Cx}{a b c:Expr}{ta tb tc:TE}{pos:Pos}
theorem FH(ha:PE X a ta)(hb:PE X b tb){pins:List (Addr×Obj)}{s:Shared}{σ:St}{H:Hp}{R:V->V->Hp->Prop}(I:Inv X pins σ H s)
  (h:ta σ H fun x H1=>tb σ H1 fun y H2=>R x y H2) {Q:Value->Shared->Prop} {f:Value->Value->Sem Value}
  (hf:∀v u s2 x y H2,Inv X pins σ H2 s2->RelV x v->RelV y u->R x y H2->wpAny (model X.prog X.w) X.A (f v u) Q X.xe s2) :
  wpAny (model X.prog X.w) X.A (eval a X.env) (fun v s₁=>wpAny (model X.prog X.w) X.A (eval b X.env) (fun u s₂=>wpAny (model X.prog X.w) X.A (f v u) Q X.xe s₂) X.xe s₁) X.xe s:=by
 refine cn (ha pins s σ H _ I h) fun v s1 ⟨x,H1,I1,r1,q1⟩=>?_
 refine cn (hb pins s1 σ H1 _ I1 q1) fun u s2 ⟨y,H2,I2,r2,q2⟩=>?_
 exact hf v u s2 x y H2 I2 r1 r2 q2
theorem GX{op:Operator}{r:R2}(ho:OpR X (binaryOp op) r)(ha:PE X a ta)(hb:PE X b tb):PE X (.BinOp a op b pos) (Gq r ta tb):=by
 intro pins s σ H Q I h;exact wpAny_BinOp (FH ha hb I h fun v u s2 x y H2 I2 rx ry q=>ho pins s2 σ H2 x y v u Q I2 rx ry q)
theorem GW{op:UnaryOp}{r:V->Hp->VK->Prop}(ho:Ib X (unaryOp op) r)(ha:PE X a ta):PE X (.UnaryOp op a pos) (KU r ta):=by
 intro pins s σ H Q I h;exact UnaryOp_ (cn (ha pins s σ H _ I h) fun v s1 ⟨x,H1,I1,r1,q1⟩=>ho pins s1 σ H1 x v Q I1 r1 q1)
theorem G3{f:Value->Value->Sem Value}{C:Int->Int->Prop}{g:Int->Int->Int}
  (rule:∀(i j:Int) (t u:Tok) (s:Shared) (Q:Value->Shared->Prop) (E:Value->Shared->Prop),C i j->Q (.int (g i j) s.toks) { s with toks:=s.toks+1 }->wpAny (model X.prog X.w) X.A (f (.int i t) (.int j u)) Q E s) :
  OpR X f (rI C fun i j=>.int (g i j)):=by
 intro pins s σ H x y v u Q I rx ry h;obtain⟨i,j,rfl,rfl,hc,q⟩:=h;obtain⟨t,rfl⟩:=rx;obtain⟨t',rfl⟩:=ry;exact rule i j t t' s _ _ hc ⟨.int (g i j),H,I.tok _,⟨_,rfl⟩,q⟩
theorem Bj{f:Value->Value->Sem Value}{g:Int->Int->Int}
  (rule:∀(i j:Int) (t u:Tok) (s:Shared) (Q:Value->Shared->Prop) (E:Value->Shared->Prop),Q (.int (g i j) s.toks) { s with toks:=s.toks+1 }->wpAny (model X.prog X.w) X.A (f (.int i t) (.int j u)) Q E s) :
  OpR X f (zQ fun i j=>.int (g i j)):=by
 intro pins s σ H x y v u Q I rx ry h;obtain⟨i,j,rfl,rfl,q⟩:=h;obtain⟨t,rfl⟩:=rx;obtain⟨t',rfl⟩:=ry;exact rule i j t t' s _ _ ⟨.int (g i j),H,I.tok _,⟨_,rfl⟩,q⟩
theorem G4{f:Value->Value->Sem Value}{g:Int->Int->Bool}
  (rule:∀(i j:Int) (t u:Tok) (s:Shared) (Q:Value->Shared->Prop) (E:Value->Shared->Prop),Q (.bool (g i j)) s->wpAny (model X.prog X.w) X.A (f (.int i t) (.int j u)) Q E s) :
  OpR X f (zQ fun i j=>.bl (g i j)):=by
 intro pins s σ H x y v u Q I rx ry h;obtain⟨i,j,rfl,rfl,q⟩:=h;obtain⟨t,rfl⟩:=rx;obtain⟨t',rfl⟩:=ry;exact rule i j t t' s _ _ ⟨.bl (g i j),H,I,rfl,q⟩
def Ke(i j:Int):Prop:=0<j/\j<1073741824
def Kd(i j:Int):Prop:=0<=j/\j<=1000000/\i.natAbs<2^64
theorem DZ:OpR X (binaryOp .Add) (zQ fun i j=>.int (i+j)):=Bj fun _ _ _ _ _ _ _ q=>add_int q
theorem DV:OpR X (binaryOp .Sub) (zQ fun i j=>.int (i-j)):=Bj fun _ _ _ _ _ _ _ q=>sub_int q
theorem Bh:OpR X (binaryOp .FloorDiv) (rI Ke fun i j=>.int (i/j)):=G3 fun i j _ _ _ _ _ hc q=>by
 have h1:(0:Int)<j:=hc.1;have h2:j<1073741824:=hc.2;exact floordiv_int (by omega) (by rw[Int.fdiv_eq_ediv_of_nonneg i (by omega)];exact q) (.inl (PyProof.noPylong_small (by omega)))
theorem DX:OpR X (binaryOp .Mod) (rI (fun _ j=>0<j) fun i j=>.int (i%j)):=G3 fun i j _ _ _ _ _ hc q=>by
 have h1:(0:Int)<j:=hc;exact mod_int' (by omega) (by rw[Int.fmod_eq_emod_of_nonneg i (by omega)];exact q)
theorem DW:OpR X (binaryOp .Pow) (rI Kd fun i j=>.int (i^j.toNat)):=G3 fun _ _ _ _ _ _ _ hc q=>pow_int_small hc.1 hc.2.1 hc.2.2 q
theorem DY:OpR X (binaryOp .BitAnd) (zQ fun i j=>.int (Builtin.bitAnd i j)):=Bj fun _ _ _ _ _ _ _ q=>and_int q
theorem DU:OpR X (binaryOp .BitXor) (zQ fun i j=>.int (Builtin.bitXor i j)):=Bj fun _ _ _ _ _ _ _ q=>xor_int q
theorem KO{f:Value->Sem Value}{g:Int->Int}
  (rule:∀(i:Int) (t:Tok) (s:Shared) (Q:Value->Shared->Prop) (E:Value->Shared->Prop),Q (.int (g i) s.toks) { s with toks:=s.toks+1 }->wpAny (model X.prog X.w) X.A (f (.int i t)) Q E s) :
  Ib X f (rU fun i=>.int (g i)):=by
 intro pins s σ H x v Q I rx h;obtain⟨i,rfl,q⟩:=h;obtain⟨t,rfl⟩:=rx;exact rule i t s _ _ ⟨.int (g i),H,I.tok _,⟨_,rfl⟩,q⟩
theorem Df:Ib X (unaryOp .USub) (rU fun i=>.int (-i)):=KO fun _ _ _ _ _ q=>neg_int q
end
section
variable{X:Cx}{a b c:Expr}{ta tb tc:TE}{pos:Pos}
theorem G1:OpR X (compareOp .Lt) (zQ fun i j=>.bl (decide (i<j))):=G4 fun _ _ _ _ _ _ _ q=>lt_int q
theorem G2:OpR X (compareOp .Gt) (zQ fun i j=>.bl (decide (j<i))):=G4 fun _ _ _ _ _ _ _ q=>gt_int q
theorem aM(b:Expr){op:CmpOp}(h:op≠.In:=by decide)(h2:op≠.NotIn:=by decide):behindInMarks op b=false:=by
 have e1:(op==CmpOp.In)=false:=by cases op<;>first|rfl|exact absurd rfl h
 have e2:(op==CmpOp.NotIn)=false:=by cases op<;>first|rfl|exact absurd rfl h2
 cases b<;>simp[behindInMarks,e1,e2]
theorem Be{op:CmpOp}{r:R2}(ho:OpR X (compareOp op) r)(ha:PE X a ta)(hb:PE X b tb)(hm:behindInMarks op b=false):PE X (.Compare a [op] [b] pos) (Gq r ta tb):=by
 intro pins s σ H Q I h;exact wpAny_Compare1 (FH ha hb I h fun v u s2 x y H2 I2 rx ry q=>ho pins s2 σ H2 x y v u Q I2 rx ry q) hm
def Gn(t:TE):TT:=fun σ H Q=>t σ H fun x H'=>∃k,x=.bl k/\Q k H'
theorem AZ{op:CmpOp}{r:R2}(ho:OpR X (compareOp op) r)(ha:PE X a ta)(hb:PE X b tb)(hm:behindInMarks op b=false):PT X (.Compare a [op] [b] pos) (Gn (Gq r ta tb)):=by
 intro pins s σ H Q I h;refine wpAny_isTrue_Compare1 (cn (ha pins s σ H _ I h) fun v s1 ⟨x,H1,I1,r1,q1⟩=>cn (hb pins s1 σ H1 _ I1 q1) fun u s2 ⟨y,H2,I2,r2,q2⟩=>
  cn (ho pins s2 σ H2 x y v u _ I2 r1 r2 q2) fun c s3 ⟨z,H3,I3,r3,k,e,q3⟩=>?_) hm
 subst e;cases r3;exact wpAny_truthy_bool ⟨H3,I3,q3⟩
theorem qT:(sizeLine:Nat)<2^63:=by rw[sizeLine_eq];decide
theorem uq:OpR X (binaryOp .Add) (fun x y H Q=>∃i j,x=.str i/\y=.str j/\i.length+j.length<=sizeLine/\Q (.str (i++j)) H):=by
 intro pins s σ H x y v u Q I rx ry h;obtain⟨i,j,rfl,rfl,hz,q⟩:=h;obtain⟨t,rfl⟩:=rx;obtain⟨t',rfl⟩:=ry;exact add_str (fun t' tk=>⟨.str (i++j),H,I.tok _,⟨_,rfl⟩,q⟩) hz
theorem pK{x:V}{us:List Value}(r:Vals [x] us):∃u,us=[u]/\RelV x u:=by
 cases r with
 |cons r1 r2=>cases r2;exact⟨_,rfl,r1⟩
theorem Cq{x y:V}{us:List Value}(r:Vals [x,y] us):∃u w',us=[u,w']/\RelV x u/\RelV y w':=by
 cases r with
 |cons r1 r2=>
  cases r2 with
  |cons r3 r4=>cases r4;exact⟨_,_,rfl,r1,r3⟩
def Ka(K:PySem.W.Frag)(x:V)(H:Hp)(n:Nat):Prop:=
 match x with
 |.str y=>y.length<=sizeLine/\n=y.length
 |.byt y=>y.size<=sizeLine/\n=y.size
 |.ref p=>(∃xs,SqL K H p xs/\n=xs.length)\/∃xs,SqT K H p xs/\n=xs.length
 |_=>False
theorem tG:CallR X (.builtin "len") (fun xs H Q=>∃x n,xs=[x]/\Ka X.K x H n/\Q (.int n) H):=by
 intro pins s σ H xs us Q I r h;obtain⟨x,n,rfl,e,q⟩:=h;obtain⟨u,rfl,rx⟩:=pK r;have hl:=qT;have hs:sizeLine=16777216:=sizeLine_eq;cases x with
 |str y=>
  obtain⟨t,rfl⟩:=rx;obtain⟨hy,e'⟩:y.length<=sizeLine/\n=y.length:=e;subst e';exact len_str (by omega) ⟨.int _,H,I.tok _,⟨_,rfl⟩,q⟩
 |byt y=>
  obtain⟨t,rfl⟩:=rx;obtain⟨hy,e'⟩:y.size<=sizeLine/\n=y.size:=e;subst e';exact PySem.W.len_bytes (by omega) ⟨.int _,H,I.tok _,⟨_,rfl⟩,q⟩
 |ref p=>
  cases rx;have e':(∃xs,SqL X.K H p xs/\n=xs.length)\/∃xs,SqT X.K H p xs/\n=xs.length:=e;rcases e' with⟨xs,hx,e'⟩|⟨xs,hx,e'⟩
  ·subst e'
   obtain⟨its,r',pl,hz⟩:=I.list hx;have hlen:=r'.length;exact Calls.call_len_list pl.isList (by simp only[List.size_toArray];omega) ⟨.int xs.length,H,I.tok _,⟨_,by simp only[List.size_toArray];rw[hlen]⟩,q⟩
  ·subst e'
   obtain⟨its,r',pl,hz⟩:=I.tuple hx;have hlen:=r'.length;exact len_tuple pl (by simp only[List.size_toArray];omega) ⟨.int xs.length,H,I.tok _,⟨_,by simp only[List.size_toArray];rw[hlen]⟩,q⟩
 |_=>exact(show False from e).elim
end
structure ObjM (h:Heap) (x dx C:Addr) (mA:Str->Option Value):Prop where
 obj:h.get? x=some (PySem.W.instObj C dx)
 ns:h.Ns1 dx mA
 ne:dx≠x
theorem wI{h:Heap}{dx:Addr}{mA:Str->Option Value}(n:h.Ns1 dx mA):∃od,h.get? dx=some od/\∀name,PySem.W.lookIn name od=some (mA name):=by
 obtain⟨o,es,ep,ho,hd,hk,_,hm⟩:=n;refine⟨o,ho,fun name=>?_⟩
 have e:=hm name;unfold nsFind findBy at e;rw[<-Array.find?_toList]at e;unfold PySem.W.lookIn;rw[hd];dsimp only;split
 ·rename_i y q
  rw[q]at e;exact congrArg some e
 ·rename_i q
  rw[q]at e;have a:es.toList.any (·.refKey)=false:=by
   rw[List.any_eq_false];intro y hy;obtain⟨z,t,hkey⟩:=hk y (Array.mem_toList_iff.mp hy);simp[DictEntry.refKey,hkey]
  have a':¬es.toList.any (·.refKey)=true:=by rw[a];exact Bool.false_ne_true
  rw[if_neg a'];exact congrArg some e
theorem ObjM.look{h:Heap}{x dx C:Addr}{mA:Str->Option Value}(I:ObjM h x dx C mA):∃od,PySem.W.InstAt h x (PySem.W.instObj C dx) C (some od)/\∀name,PySem.W.lookIn name od=some (mA name):=
 let ⟨od,ho,hl⟩:=wI I.ns
 ⟨od,⟨I.obj,rfl,rfl,ho⟩,hl⟩
section
variable{prog:Program}{w:World}{A:Around}{E:Value->Shared->Prop}{s:Shared}{K:PySem.W.Frag}{x dx C f:Addr}{mA:Str->Option Value}{name:Str}{v:Value}
theorem BU{expr:Bool}{Q:Value->Shared->Prop}(X:K.In s.heap)(I:ObjM s.heap x dx C mA)(hg:PySem.W.plainGet K C name=true)(hh:PySem.W.hasDictIn K C=true)
  (ha:PySem.W.findIn K (.ref C) name=some none) (hv:mA name=some v) (hv':PySem.W.handedIn v=true) (h:Q v { s with toks:=s.toks+1 }) :
  wpAny (model prog w) A (getAttr (.ref x) name expr) Q E s:=by
 obtain⟨od,J,hl⟩:=I.look;exact PySem.W.get_value X J (PySem.W.plainGet_of hg).1 (PySem.W.findObj_own hh ha rfl (by rw[hl,hv])) hv' h
theorem zl{pl:Sem Bool}{Q:Value×List Value->Shared->Prop}(X:K.In s.heap)(I:ObjM s.heap x dx C mA)(hg:PySem.W.plainGet K C name=true)
  (hf:PySem.W.findIn K (.ref C) name=some (some (.ref f))) (ht:PySem.W.isFn K (.ref f)=true) (hv:mA name=none) (h:Q (.ref f,[.ref x]) s) :
  wpAny (model prog w) A (getMethod (.ref x) name pl) Q E s:=by
 obtain⟨od,J,hl⟩:=I.look;exact PySem.W.method_fn X J (PySem.W.plainGet_of hg).1 (PySem.W.plainGet_of hg).2 hf (beq_iff_eq.mp ht) (by show(PySem.W.lookIn name od).map (·.isSome)=some false;rw[hl,hv];rfl) h
theorem AO{ns:List Str}{Q:Unit->Shared->Prop}(X:K.In s.heap)(I:ObjM s.heap x dx C mA)
  (hs:PySem.W.findIn K (.ref C) "__setattr__" = some (some (.builtin "object.__setattr__"))) (hp:PySem.W.plainOver K C=true) (ht:PySem.W.takerIn K C name=some none) (hh:PySem.W.hasDictIn K C=true)
  (hw:PySem.Within mA ns) (hsz:ns.length<=sizeLine)
  (h:∀h',ObjM h' x dx C (fun y=>if y=name then some v else mA y)->Heap.SameBut dx s.heap h'->Q () { s with heap:=h',toks:=s.toks+2 }) :
  wpAny (model prog w) A (setAttr (.ref x) name v) Q E s:=by
 obtain⟨od,J,hl⟩:=I.look;refine PySem.W.set_plain X J hs (PySem.W.osa_open (s:={ s with toks:=s.toks+1 }) (r:=none) X J hp ht fun b=>?_)
 obtain⟨cd,hc,hd'⟩:=PySem.W.any_some hh;have hx:s.heap.get? x=some ⟨.ref C,some dx,.plain,#[]⟩:=I.obj;refine wpAny_bind (wpAny_pure (wpAny_bind (wpAny_bind (wpAny_loadPart hx (wpAny_bind (PySem.W.Looks.here (s:={ s with toks:=s.toks+1 }) (PySem.W.looks_clsIn X hc) ?_))))));rw[hd'];refine wpAny_pure (a:=some dx) (wpAny_bind (wpAny_pure (wpAny_bind ?_)));refine wpAny_nsSet1 (s:={ s with toks:=s.toks+1 }) I.ns fun h' hn2 hs2=>?_
 obtain⟨oD,esD,epD,hoD,hdD,hcD⟩:=hn2.count (PySem.Within.cons name v hw);refine wpAny_bind (wpAny_lookBehind hoD (by rw[hdD];exact pastItsLine_dict (Nat.le_trans hcD (by rw[List.length_cons];omega))) ?_);exact wpAny_pure (h _ ⟨(hs2.2 _ (Ne.symm I.ne)).trans I.obj,hn2,I.ne⟩ hs2)
theorem yw{R:Result->Shared->Prop}{vs:List Value}{kw:List (Str×Value)}(X:K.In s.heap)(hm:PySem.W.makesIn K C=true)
  (hi:PySem.W.findIn K (.ref C) "__init__" = some (some (.ref f))) (hf:PySem.W.typeIn K (.ref f)=some (.type "function"))
  (h:codeAny (model prog w) (A.under (.builtin "type.__call__" ⟨.ref C::vs,kw⟩)) (.call (.ref f) ⟨.ref (s.heap.objs.size+1)::vs,kw⟩) (PySem.W.InitBack (s.heap.objs.size+1) R)
   { s with heap:=(s.heap.push PySem.W.emptyDict).push (PySem.W.instObj C s.heap.objs.size) }) :
  codeAny (model prog w) A (.call (.ref C) ⟨vs,kw⟩) R s:=by
 obtain⟨hh,g,d,t,os⟩:=s;exact PySem.W.make_core (PySem.W.makes_of X hm) (PySem.W.looks_findIn X hi) (fun self=>PySem.W.bind_fn X self hf) (.inl rfl) h
end
noncomputable def dA(f:Str)(v:V):List (Str×V)->List (Str×V)
 |[]=>[(f,v)]
 | (g,x)::r=>if g=f then(g,v)::r else(g,x)::dA f v r
theorem kZ(f g:Str)(v:V):∀fs:List (Str×V),(dA f v fs).lookup g=if g=f then some v else fs.lookup g
 |[]=>by
  show List.lookup g [(f,v)]=_;by_cases h:g=f
  ·have hb:(g==f)=true:=beq_iff_eq.mpr h
   simp only[List.lookup,hb,if_pos h]
  ·have hb:(g==f)=false:=beq_eq_false_iff_ne.mpr h
   simp only[List.lookup,hb,if_neg h]
 | (k,x)::r=>by
  have ih:=kZ f g v r;rw[show dA f v ((k,x)::r)=(if k=f then(k,v)::r else(k,x)::dA f v r)from rfl];by_cases hk:k=f
  ·rw[if_pos hk]
   by_cases h:g=k
   ·have hb:(g==k)=true:=beq_iff_eq.mpr h
    simp only[List.lookup,hb,if_pos (h.trans hk)]
   ·have hb:(g==k)=false:=beq_eq_false_iff_ne.mpr h
    simp only[List.lookup,hb,if_neg (fun e:g=f=>h (e.trans hk.symm))]
  ·rw[if_neg hk]
   by_cases h:g=k
   ·have hb:(g==k)=true:=beq_iff_eq.mpr h
    simp only[List.lookup,hb,if_neg (fun e:g=f=>hk (h.symm.trans e))]
   ·have hb:(g==k)=false:=beq_eq_false_iff_ne.mpr h
    simp only[List.lookup,hb];exact ih
theorem kG(f:Str)(v:V):∀fs:List (Str×V),f∈(dA f v fs).map (·.1)/\∀g,g∈fs.map (·.1)->g∈(dA f v fs).map (·.1)
 |[]=>⟨by simp[dA],fun g h=>by simp at h⟩
 | (k,x)::r=>by
  obtain⟨i1,i2⟩:=kG f v r;rw[show dA f v ((k,x)::r)=(if k=f then(k,v)::r else(k,x)::dA f v r)from rfl];by_cases hk:k=f
  ·rw[if_pos hk]
   subst hk;exact⟨by simp,fun g h=>by simpa using h⟩
  ·rw[if_neg hk]
   refine⟨?_,fun g h=>?_⟩
   ·rw[List.map_cons]
    exact List.mem_cons_of_mem _ i1
   ·rw[List.map_cons]at h ⊢
    rcases List.mem_cons.mp h with e|e
    ·exact List.mem_cons.mpr (.inl e)
    ·exact List.mem_cons_of_mem _ (i2 g e)
theorem lb(f:Str)(v:V):∀fs:List (Str×V),(dA f v fs).length<=fs.length+1
 |[]=>by simp[dA]
 | (k,x)::r=>by
  have ih:=lb f v r;rw[show dA f v ((k,x)::r)=(if k=f then(k,v)::r else(k,x)::dA f v r)from rfl];by_cases hk:k=f
  ·rw[if_pos hk,List.length_cons,List.length_cons];omega
  ·rw[if_neg hk,List.length_cons,List.length_cons];omega
theorem RelO.some_of{v:V}{o:Option Value}(r:RelO (some v) o):∃u,o=some u/\RelV v u:=by
 cases o with
 |none=>exact(show False from r).elim
 |some u=>exact⟨u,rfl,r⟩
theorem RelO.none_of{o:Option Value}(r:RelO none o):o=none:=by
 cases o with
 |none=>rfl
 |some u=>exact(show False from r).elim
theorem wV{v:V}{u:Value}(r:RelV v u):PySem.W.handedIn u=true:=by
 cases v with
 |non=>cases(show u=Value.none from r);rfl
 |bl b=>cases(show u=Value.bool b from r);rfl
 |int i=>obtain⟨t,e⟩:=(show ∃t,u=Value.int i t from r);cases e;rfl
 |str x=>obtain⟨t,e⟩:=(show ∃t,u=Value.str x t from r);cases e;rfl
 |byt b=>obtain⟨t,e⟩:=(show ∃t,u=Value.bytes b t from r);cases e;rfl
 |flt b=>obtain⟨t,e⟩:=(show ∃t,u=Value.float b t from r);cases e;rfl
 |ref a=>cases(show u=Value.ref a from r);rfl
 |ty n=>cases(show u=Value.type n from r);rfl
section
variable{P:Program}{w:World}{H H':Hp}{h h':Heap}{a C dx:Addr}{fs fs':List (Str×V)}
theorem mh(hok:HOk P w H h)(e:H a=some (.ins C dx fs)):∃mA,ObjM h a dx C mA/\(∀f,RelO (fs.lookup f) (mA f))/\PySem.Within mA (fs.map (·.1))/\fs.length<=1000/\H dx=some (.own a):=by
 obtain⟨d,z,ne,ob,mA,n,r,q⟩:=(show ObjOk P w H h a (.ins C dx fs)from hok a _ e);exact⟨mA,⟨ob,n,ne⟩,r,q,z,d⟩
end
structure Cls (K:PySem.W.Frag) (C:Addr):Prop where
 pg:PySem.W.plainGet K C Str.empty=true
 hd:PySem.W.hasDictIn K C=true
 po:PySem.W.plainOver K C=true
 sa:PySem.W.findIn K (.ref C) "__setattr__" = some (some (.builtin "object.__setattr__"))
theorem Cls.get{K:PySem.W.Frag}{C:Addr}(c:Cls K C)(f:Str):PySem.W.plainGet K C f=true:=c.pg
def NoAttr(K:PySem.W.Frag)(C:Addr)(f:Str):Prop:=PySem.W.findIn K (.ref C) f=some none
theorem NoAttr.taker{K:PySem.W.Frag}{C:Addr}{f:Str}(n:NoAttr K C f):PySem.W.takerIn K C f=some none:=by
 unfold PySem.W.takerIn;rw[show PySem.W.findIn K (.ref C) f=some none from n];rfl
structure Meth (K:PySem.W.Frag) (C:Addr) (m:Str) (f:Addr):Prop where
 at_:PySem.W.findIn K (.ref C) m=some (some (.ref f))
 fn:PySem.W.isFn K (.ref f)=true
 kp:PySem.W.keepIn K (.ref f)=true
section
variable{X:Cx}{pins:List (Addr×Obj)}{σ:St}{H:Hp}{s:Shared}{a C dx:Addr}{fs:List (Str×V)}{f:Str}{v:V}{A:Around}{E:Value->Shared->Prop}
theorem uE{b:Bool}{Q:Value->Shared->Prop}(I:Inv X pins σ H s)(e:H a=some (.ins C dx fs))(c:Cls X.K C)(n:NoAttr X.K C f)(l:fs.lookup f=some v)
  (h:∀u s',Inv X pins σ H s'->RelV v u->Q u s'):wpAny (model X.prog X.w) A (getAttr (.ref a) f b) Q E s:=by
 obtain⟨mA,O,r,_,_,_⟩:=mh I.hok e;obtain⟨u,hu,ru⟩:=RelO.some_of (v:=v) (o:=mA f) (by rw[<-l];exact r f);exact BU I.kIn O (c.get f) c.hd n hu (wV ru) (h u _ (I.tok _) ru)
theorem uD{m:Str}{g:Addr}{pl:Sem Bool}{Q:Value×List Value->Shared->Prop}(I:Inv X pins σ H s)(e:H a=some (.ins C dx fs))(c:Cls X.K C)(k:Meth X.K C m g)(l:fs.lookup m=none)
  (h:Q (.ref g,[.ref a]) s):wpAny (model X.prog X.w) A (getMethod (.ref a) m pl) Q E s:=by
 obtain⟨mA,O,r,_,_,_⟩:=mh I.hok e;have hn:mA m=none:=RelO.none_of (by rw[<-l];exact r m);exact zl I.kIn O (c.get m) k.at_ k.fn hn h
theorem t9{y:V}{u:Value}{Q:Unit->Shared->Prop}(I:Inv X pins σ H s)(e:H a=some (.ins C dx fs))(c:Cls X.K C)(n:NoAttr X.K C f)(hl:fs.length<1000)(ry:RelV y u)
  (h:∀s',Inv X pins σ (upd H a (.ins C dx (dA f y fs))) s'->Q () s'):wpAny (model X.prog X.w) A (setAttr (.ref a) f u) Q E s:=by
 obtain⟨mA,O,r,wi,_,ho⟩:=mh I.hok e;have hz:(fs.map (·.1)).length<=sizeLine:=by rw[List.length_map,sizeLine_eq];omega
 refine AO I.kIn O c.sa c.po n.taker c.hd wi hz fun h' O' sb=>h _ ?_
 have hd:∃o,h'.get? dx=some o:=let ⟨o,_,_,e',_⟩:=O'.ns; ⟨o,e'⟩
 refine I.write (x:=a) (e:=dx) (by rw[e];exact True.intro) (.inr ho) (fun b q hb z=>(sb.2 b hb).trans z) hd ?_
 refine⟨by rw[ak O.ne];exact ho,?_,O.ne,O'.obj,_,O'.ns,fun g=>?_,fun g hg=>?_⟩
 ·have:=lb f y fs;omega
 ·show RelO ((dA f y fs).lookup g) (if g=f then some u else mA g)
  rw[kZ];by_cases q:g=f
  ·rw[if_pos q,if_pos q];exact ry
  ·rw[if_neg q,if_neg q];exact r g
 ·by_cases q:g=f
  ·rw[q];exact(kG f y fs).1
  ·refine(kG f y fs).2 g (wi g fun z=>hg ?_)
   show(if g=f then some u else mA g)=none;rw[if_neg q];exact z
theorem Inv.made(I:Inv X pins σ H s):Inv X pins σ (upd (upd H s.heap.objs.size (.own (s.heap.objs.size+1))) (s.heap.objs.size+1) (.ins C s.heap.objs.size []))
  { s with heap:=(s.heap.push PySem.W.emptyDict).push (PySem.W.instObj C s.heap.objs.size) }:=by
 have e1:(s.heap.push PySem.W.emptyDict).get? s.heap.objs.size=some PySem.W.emptyDict:=Heap.get?_push_size s.heap rfl;have e2:((s.heap.push PySem.W.emptyDict).push (PySem.W.instObj C s.heap.objs.size)).get? (s.heap.objs.size+1)=some (PySem.W.instObj C s.heap.objs.size):=by
  have:=Heap.get?_push_size (s.heap.push PySem.W.emptyDict) (o:=PySem.W.instObj C s.heap.objs.size) rfl
  rwa [Heap.size_push]at this
 have e3:(s.heap.push PySem.W.emptyDict).Ns s.heap.objs.size (fun _=>none):=⟨PySem.W.emptyDict,#[],_,e1,rfl,(fun e he=>absurd he (by simp)),fun _=>rfl⟩
 have I1:=I.laid (a:=s.heap.objs.size) (o:=.own (s.heap.objs.size+1)) (h':=s.heap.push PySem.W.emptyDict) (t':=s.toks) (fun b u q=>Heap.get?_push_of_some _ q) (Nat.le_refl _) ⟨_,e1⟩;refine I1.laid (a:=s.heap.objs.size+1) (o:=.ins C s.heap.objs.size []) (t':=s.toks) (fun b u q=>Heap.get?_push_of_some _ q) (Nat.le_of_eq (Heap.size_push _ _)) ?_;have ne:s.heap.objs.size≠s.heap.objs.size+1:=Nat.ne_of_lt (Nat.lt_succ_self _);refine⟨by rw[ak ne,aw],Nat.zero_le _,ne,e2,fun _=>none,(Heap.Ns1.of_empty e3).at fun o q=>Heap.get?_push_of_some _ q,fun _=>True.intro,fun y hy=>absurd rfl hy⟩
theorem Ch{prog:Program}{w:World}{env:Env}{e:Expr}{f:Str}{pos:Pos}{s:Shared}{Q:Value->Shared->Prop}(hb:attributeBase e f env (eval e env)=eval e env)
  (h:wpAny (model prog w) A (eval e env) (fun o s₁=>wpAny (model prog w) A (getAttr o f true) Q E s₁) E s):wpAny (model prog w) A (eval (.Attribute e f pos) env) Q E s:=
 Attribute_any_ h (by rw[arm_eval_Attribute,hb])
end
def Jd(K:PySem.W.Frag)(ta:TE)(f:Str):TE:=fun σ H Q=>ta σ H fun x H1=>∃a C dx fs v,x=.ref a/\H1 a=some (.ins C dx fs)/\Cls K C/\NoAttr K C f/\fs.lookup f=some v/\Q v H1
def Jl(K:PySem.W.Frag)(ta tv:TE)(f:Str):TS:=fun D σ H=>tv σ H fun y H1=>ta σ H1 fun x H2=>∃a C dx fs,x=.ref a/\H2 a=some (.ins C dx fs)/\Cls K C/\NoAttr K C f/\fs.length<1000 /\
 D.nx σ (upd H2 a (.ins C dx (dA f y fs)))
section
variable{X:Cx}{o e value:Expr}{f:Str}{pos pos' tpos:Pos}{ta tv:TE}
theorem qG(he:PE X e ta)(hb:attributeBase e f X.env (eval e X.env)=eval e X.env):PE X (.Attribute e f pos) (Jd X.K ta f):=by
 intro pins s σ H Q I h;refine Ch hb (cn (he pins s σ H _ I h) fun u s1 ⟨x,H1,I1,rx,a,C,dx,fs,v,ex,ea,c,n,l,q⟩=>?_)
 subst ex;obtain rfl:u=Value.ref a:=rx;exact uE I1 ea c n l fun u' s2 I2 ru=>⟨v,H1,I2,ru,q⟩
theorem ui(ha:PE X o ta)(hv:PE X value tv)(hs:swapsWith value (some (.Attribute o f pos')) pos.line X.env=pure false):PS X (.Assign [.Attribute o f pos'] value pos) (Jl X.K ta tv f):=by
 intro pins s σ H D I h;refine plainObj_wpAny_Assign_Attribute (cn (hv pins s σ H _ I h) fun u s1 ⟨y,H1,I1,ry,q⟩=>cn (ha pins s1 σ H1 _ I1 q) fun ov s2 ⟨x,H2,I2,rx,a,C,dx,fs,ex,ea,c,n,l,q2⟩=>?_) hs
 subst ex;obtain rfl:ov=Value.ref a:=rx;exact t9 I2 ea c n l ry fun s3 I3=>⟨σ,_,I3,q2⟩
end
section
variable{X:Cx}{pins:List (Addr×Obj)}{σ:St}{H:Hp}{s:Shared}{A:Around}{E:Value->Shared->Prop}{Q:Value->Shared->Prop}{c:Value}{b:Bool}
inductive TyOf (K:PySem.W.Frag) (H:Hp):V->Value->Prop where
 |non:TyOf K H .non (.type "NoneType")
 |bl (x:Bool):TyOf K H (.bl x) (.type "bool")
 |int (i:Int):TyOf K H (.int i) (.type "int")
 |str (x:Str):TyOf K H (.str x) (.type "str")
 |flt (x:UInt64):TyOf K H (.flt x) (.type "float")
 |lst {a:Addr} {xs:List V} (e:H a=some (.lst xs)):TyOf K H (.ref a) (.type "list")
 |frz {a:Addr} {o:Obj} {xs:List V} (e:H a=some (.frz o (.lst xs))):TyOf K H (.ref a) (.type "list")
 |tup {a:Addr} {xs:List V} (e:H a=some (.tup xs)):TyOf K H (.ref a) (.type "tuple")
 |dK {a:Addr} {kvs:List (ao×V)} (e:H a=some (.dK kvs)):TyOf K H (.ref a) (.type "dict")
 |dT {a:Addr} {kvs:List (List ao×V)} (e:H a=some (.dT kvs)):TyOf K H (.ref a) (.type "dict")
 |ins {a C dx:Addr} {fs:List (Str×V)} (e:H a=some (.ins C dx fs)) (cl:Cls K C) (ha:PySem.W.findIn K (.ref C) "__class__" = some (some (.builtin "object.__class__")))
   (hn:PySem.W.specialIn K (.builtin "object.__class__") "__get__" = some (some (.builtin "getset_descriptor.__get__"))) (htk:PySem.W.takesIn K (.builtin "object.__class__")=some true)
   (hm:PySem.W.mroIn K C (.type "object")=some true):TyOf K H (.ref a) (.ref C)
theorem iP{x:V}{u t:Value}(I:Inv X pins σ H s)(rx:RelV x u)(ty:TyOf X.K H x t)(e:PySem.W.kitOne X.K t c=some b)(h:∀tk,Q (.bool b) { s with toks:=tk }):
  wpAny (model X.prog X.w) A (call (.builtin "isinstance") [u,c]) Q E s:=by
 cases ty with
 |non=>cases(show u=Value.none from rx);exact PySem.W.kia_one PySem.W.kitx_none I.kIn True.intro e (fun z=>nomatch z) h
 |bl y=>cases(show u=Value.bool y from rx);exact PySem.W.kia_one PySem.W.kitx_bool I.kIn True.intro e (fun z=>nomatch z) h
 |int i=>obtain⟨t,q⟩:=(show ∃t,u=Value.int i t from rx);cases q;exact PySem.W.kia_one PySem.W.kitx_int I.kIn True.intro e (fun z=>nomatch z) h
 |str y=>obtain⟨t,q⟩:=(show ∃t,u=Value.str y t from rx);cases q;exact PySem.W.kia_one PySem.W.kitx_str I.kIn True.intro e (fun z=>nomatch z) h
 |flt y=>obtain⟨t,q⟩:=(show ∃t,u=Value.float y t from rx);cases q;exact PySem.W.kia_one PySem.W.kitx_float I.kIn True.intro e (fun z=>nomatch z) h
 | @lst a xs ea=>
  cases(show u=Value.ref a from rx);obtain⟨_,_,n,_,h1⟩:=(show ObjOk X.prog X.w H s.heap a (.lst xs)from I.hok a _ ea);exact PySem.W.kia_one PySem.W.kitx_list I.kIn ⟨_,h1,rfl⟩ e (fun z=>nomatch z) h
 | @frz a ob xs ea=>
  cases(show u=Value.ref a from rx);obtain⟨_,_,_,n,_,h1⟩:=(show ObjOk X.prog X.w H s.heap a (.frz ob (.lst xs))from I.hok a _ ea);exact PySem.W.kia_one PySem.W.kitx_list I.kIn ⟨_,h1,rfl⟩ e (fun z=>nomatch z) h
 | @tup a xs ea=>
  cases(show u=Value.ref a from rx);obtain⟨_,_,_,p⟩:=(show ObjOk X.prog X.w H s.heap a (.tup xs)from I.hok a _ ea);obtain⟨o,h1,h2,_⟩:=p.1;exact PySem.W.kia_one PySem.W.kitx_tuple I.kIn ⟨o,h1,h2⟩ e (fun z=>nomatch z) h
 | @dK a kvs ea=>
  cases(show u=Value.ref a from rx);obtain⟨_,_,vs,_,p⟩:=(show ObjOk X.prog X.w H s.heap a (.dK kvs)from I.hok a _ ea);obtain⟨o,es,ep,h1,h2,_⟩:=p;exact PySem.W.kia_one PySem.W.kitx_dict I.kIn ⟨o,h1,h2.1⟩ e (fun z=>nomatch z) h
 | @dT a kvs ea=>
  cases(show u=Value.ref a from rx);obtain⟨_,_,xs,_,o,es,ep,h1,h2,_⟩:=(show ObjOk X.prog X.w H s.heap a (.dT kvs)from I.hok a _ ea);exact PySem.W.kia_one PySem.W.kitx_dict I.kIn ⟨o,h1,h2.1⟩ e (fun z=>nomatch z) h
 | @ins a C dx fs ea cl ha hn htk hm=>
  cases(show u=Value.ref a from rx);obtain⟨mA,O,_⟩:=mh I.hok ea;obtain⟨od,J,_⟩:=O.look;exact PySem.W.kia_one (PySem.W.kitx_own (cl.get _) cl.hd ha hn htk hm) I.kIn J e (fun z=>nomatch z) h
end
structure Room (k:Nat) (A:Around):Prop where
 hd:A.handled=none
 dp:A.depth+3*k+5<recursionLimit
 un:A.units+16*k+200<cLine
theorem Room.mono{j k:Nat}{A:Around}(r:Room k A)(h:j<=k):Room j A:=⟨r.hd,by have:=r.dp;omega,by have:=r.un;omega⟩
theorem Room.deeper{k:Nat}{A:Around}(r:Room (k+1) A)(env:Env):Room k (A.deeper env):=
 ⟨r.hd,by have:=r.dp;show A.depth+1+3*k+5<_;omega,by have:=r.un;show A.units+3+16*k+200<_;omega⟩
theorem ux{A:Around}{C:Addr}{us:List Value}{kw:List (Str×Value)}:(A.under (.builtin "type.__call__" ⟨.ref C::us,kw⟩)).depth=A.depth+1:=by
 first|rfl|simp[Around.under,Code.weight,Code.isCreation,Code.isGuard,Code.isCaller,Code.frames,Code.isFrame,guardIds]
theorem uw{A:Around}{C:Addr}{us:List Value}{kw:List (Str×Value)}:(A.under (.builtin "type.__call__" ⟨.ref C::us,kw⟩)).units=A.units+1:=by
 first|rfl|simp[Around.under,Code.cUnits,Code.frames,Code.isFrame]
theorem Room.make{k:Nat}{A:Around}(r:Room (k+1) A)(C:Addr)(us:List Value)(kw:List (Str×Value)):Room k (A.under (.builtin "type.__call__" ⟨.ref C::us,kw⟩)):=
 ⟨r.hd,by have:=r.dp;rw[ux];omega,by have:=r.un;rw[uw];omega⟩
theorem Room.depth{k:Nat}{A:Around}(r:Room k A):A.depth<recursionLimit:=by have:=r.dp;omega
theorem Room.units{k:Nat}{A:Around}(r:Room k A):A.units+64<cLine:=by have:=r.un;omega
def I0:TA:=fun _ H Q=>Q [] H
def GA(ta:TE)(tr:TA):TA:=fun σ H Q=>ta σ H fun x H1=>tr σ H1 fun xs H2=>Q (x::xs) H2
section
variable{X:Cx}{e:Expr}{es:List Expr}{te:TE}{t:TA}{pos:Pos}
theorem f7:PA X [] I0:=fun _ _ _ _ H Q I h=>Calls.spliced_nil ⟨[],H,I,.nil,h⟩
theorem cH(ha:PE X e te)(hr:PA X es t)(hs:starEach (e::es) X.env=(false,eval e X.env)::starEach es X.env:=by rfl):PA X (e::es) (GA te t):=by
 intro pos pins s σ H Q I h;rw[hs];show wpAny _ _ (spliced ((false,eval e X.env)::backTo pos (starEach es X.env))) _ _ s;refine Calls.spliced_cons (cn (ha pins s σ H _ I h) fun u s1 ⟨x,H1,I1,r1,q1⟩=>?_)
 exact cn (hr pos pins s1 σ H1 _ I1 q1) fun us s2 ⟨xs,H2,I2,r2,q2⟩=>⟨x::xs,H2,I2,.cons r1 r2,q2⟩
def IW(t:TA):TE:=fun σ H Q=>t σ H fun xs H1=>xs.length<=sizeLine/\∀p,H1 p=none->Q (.ref p) (upd H1 p (.tup xs))
def Ja(t:TA):TE:=fun σ H Q=>t σ H fun xs H1=>xs.length<=sizeLine/\∀p,H1 p=none->Q (.ref p) (upd H1 p (.lst xs))
theorem DO{x1}(h:PA X es t):PE X (.Tuple es x1 pos) (IW t):=by
 intro pins s σ H Q I hq;refine wpAny_Tuple_spliced (cn (h pos pins s σ H _ I hq) fun us s1 ⟨xs,H1,I1,r,z,q⟩=>⟨by rw[<-r.length];exact z,?_⟩)
 have hf:H1 s1.heap.objs.size=none:=I1.hok.fresh (Nat.le_refl _);refine⟨.ref s1.heap.objs.size,upd H1 s1.heap.objs.size (.tup xs),I1.laid (t':=s1.toks) (fun b u e=>Heap.get?_push_of_some _ e) (Nat.le_refl _) ?_,rfl,q _ hf⟩;exact⟨z,us,r,⟨_,Heap.get?_push_size _ rfl,rfl,_,rfl⟩,NoDi.new _ _⟩
theorem uo(h:PA X es t):PE X (.List es pos) (Ja t):=by
 intro pins s σ H Q I hq;refine wpAny_List_spliced (cn (h pos pins s σ H _ I hq) fun us s1 ⟨xs,H1,I1,r,z,q⟩=>⟨by rw[<-r.length];exact z,?_⟩)
 have hf:H1 s1.heap.objs.size=none:=I1.hok.fresh (Nat.le_refl _);refine⟨.ref s1.heap.objs.size,upd H1 s1.heap.objs.size (.lst xs),I1.laid (t':=s1.toks) (fun b u e=>Heap.get?_push_of_some _ e) (Nat.le_refl _) ?_,rfl,q _ hf⟩;exact⟨z,us,0,r,Heap.get?_push_size _ rfl⟩
end
abbrev Sp:=List V->Hp->VK->XK->Prop
abbrev v5:=List Env->Hp->Shared->XK->Value->Shared->Prop
structure Env0 (P:Program) (w:World) (K:PySem.W.Frag) (mg:Str->Option Value) (base:Heap) (A:Around) (outer:List Env) (s:Shared) (H:Hp):Prop where
 frames:A.frames=some outer
 mod:Mod K mg base
 bs:∀b o,base.get? b=some o->s.heap.get? b=some o/\H b=none
 bsz:base.objs.size<=s.heap.objs.size
 funs:s.heap.FunFrames base outer
 frf:∀b∈vK outer,H b=none
 hok:HOk P w H s.heap
 bare:AllBare s.gens
def CE(outer:List Env)(P:Program)(w:World)(H:Hp)(s:Shared)(Q:VK)(u:Value)(s':Shared):Prop:=
 ∃v H',s'.os=s.os/\AllBare s'.gens/\Un (vK outer) [] H H' s.heap s'.heap/\HOk P w H' s'.heap/\RelV v u/\Q v H'
def CR(CX:v5)(outer:List Env)(P:Program)(w:World)(H:Hp)(s:Shared)(Q:VK)(E:XK)(r:Result)(s':Shared):Prop:=
 match r with
 |.ok (.ret u)=>CE outer P w H s Q u s'
 |.ok _=>False
 |.error e=>CX outer H s E e s'
structure FnOk (P:Program) (w:World) (K:PySem.W.Frag) (mg:Str->Option Value) (base:Heap) (CX:v5) (k:Nat) (f:Addr) (fd:FuncData) (ps:List Str) (sp:Sp):Prop where
 len:∀vs H Q E,sp vs H Q E->vs.length=ps.length
 run:∀(A:Around) (outer:List Env) (s:Shared) (H:Hp) (args:Args) (us:List Value) (vs:List V) (Q:VK) (E:XK),Room k A->Env0 P w K mg base A outer s H->BindsTo s fd args (ps.zip us)->Vals vs us->sp vs H Q E ->
  codeAny (model P w) A (.call (.ref f) args) (CR CX outer P w H s Q E) s
theorem FnOk.imp{P:Program}{w:World}{K:PySem.W.Frag}{mg:Str->Option Value}{base:Heap}{CX:v5}{k:Nat}{f:Addr}{fd:FuncData}{ps:List Str}{sp sp':Sp}(F:FnOk P w K mg base CX k f fd ps sp)
  (h:∀vs H Q E,sp' vs H Q E->sp vs H Q E):FnOk P w K mg base CX k f fd ps sp':=
 ⟨fun vs H Q E q=>F.len vs H Q E (h _ _ _ _ q),fun A outer s H args us vs Q E hr he hb hv hs=>F.run A outer s H args us vs Q E hr he hb hv (h _ _ _ _ hs)⟩
theorem Env0.make{P:Program}{w:World}{K:PySem.W.Frag}{mg:Str->Option Value}{base:Heap}{A:Around}{outer:List Env}{s:Shared}{H:Hp}(e:Env0 P w K mg base A outer s H)(C:Addr)(us:List Value)(kw:List (Str×Value)):
  Env0 P w K mg base (A.under (.builtin "type.__call__" ⟨.ref C::us,kw⟩)) outer s H:=⟨by first|exact e.frames|(simpa[Around.under,Code.envs,Code.isFrame,pushEnvs]using e.frames),e.mod,e.bs,e.bsz,e.funs,e.frf,e.hok,e.bare⟩
section
variable{X:Cx}{pins:List (Addr×Obj)}{σ:St}{H:Hp}{s s':Shared}
theorem Inv.env0(I:Inv X pins σ H s):Env0 X.prog X.w X.K X.mg X.base X.A X.stack s H:=
 ⟨I.ok.frames,I.ok.mod,I.bs,Nat.le_trans I.ok.bsz I.sz,I.stack,I.stkFree,I.hok,I.bare⟩
theorem Inv.after{Q:VK}{u:Value}(I:Inv X pins σ H s)(h:CE X.stack X.prog X.w H s Q u s'):EP X pins σ Q u s':=by
 obtain⟨v,H',os,bare,un,hok,r,q⟩:=h;obtain⟨hh,g,d,t,os'⟩:=s';obtain rfl:os'=s.os:=os;exact⟨v,H',I.call (h':=hh) (g':=g) (d':=d) (t':=t) (ch:=[]) un hok bare (fun b z=>absurd z (by simp)),r,q⟩
end
def GB(sp:Sp)(dvs:List V)(E:XK)(t:TA):TE:=fun σ H Q=>t σ H fun vs H1=>sp (vs++dvs) H1 Q E
def Gv(C:Addr)(m:Str)(sp:Sp)(dvs:List V)(E:XK)(ta:TE)(t:TA):TE:=fun σ H Q=>ta σ H fun x H1=>∃a dx fs,x=.ref a/\H1 a=some (.ins C dx fs)/\fs.lookup m=none /\
 t σ H1 fun vs H2=>sp (x::(vs++dvs)) H2 Q E
def Gw(C:Addr)(sp:Sp)(dvs:List V)(E:XK)(t:TA):TE:=fun σ H Q=>t σ H fun vs H1=>∀x dx,H1 x=none->H1 dx=none->dx≠x ->
 sp (.ref x::(vs++dvs)) (upd (upd H1 dx (.own x)) x (.ins C dx [])) (fun v H2=>v=.non/\Q (.ref x) H2) E
def Binds(K:PySem.W.Frag)(fd:FuncData)(ps:List Str)(ds:List Value):Prop:=
 ∀(s:Shared) (us:List Value),K.In s.heap->(us++ds).length=ps.length->BindsTo s fd ⟨us,[]⟩ (ps.zip (us++ds))
theorem Binds.all{K:PySem.W.Frag}{fd:FuncData}{ps:List Str}(h:∀us:List Value,us.length=ps.length->bindArgs fd ⟨us,[]⟩=pure (ps.zip us)):Binds K fd ps []:=fun s us _ hl=>by
 rw[List.append_nil]at hl ⊢;exact .of_eq (h us hl)
def jo(CX:v5)(X:Cx)(E:XK):Prop:=∀(pins:List (Addr×Obj)) (σ:St) (H:Hp) (s:Shared) (e:Value) (s':Shared),Inv X pins σ H s->CX X.stack H s E e s'->X.xe e s'
section
variable{X:Cx}{CX:v5}{k:Nat}{f C:Addr}{fd:FuncData}{ps:List Str}{sp:Sp}{dvs:List V}{ds:List Value}{E:XK}{x m:Str}{p pos apos:Pos}{e o:Expr}{es:List Expr}{ta:TE}{t:TA}
theorem xS{pins:List (Addr×Obj)}{σ:St}{H:Hp}{s:Shared}{Q:VK}{us:List Value}{vs:List V}(F:FnOk X.prog X.w X.K X.mg X.base CX k f fd ps sp)(hr:Room k X.A)(hb:Binds X.K fd ps ds)(hd:Vals dvs ds)(hx:jo CX X E)
  (I:Inv X pins σ H s) (r:Vals vs us) (h:sp (vs++dvs) H Q E):wpAny (model X.prog X.w) X.A (call (.ref f) us) (EP X pins σ Q) X.xe s:=by
 have r2:Vals (vs++dvs) (us++ds):=r.append hd;have hl:(us++ds).length=ps.length:=by rw[<-r2.length];exact F.len _ _ _ _ h
 refine wpAny_call (codeAny_mono (F.run X.A X.stack s H ⟨us,[]⟩ (us++ds) (vs++dvs) Q E hr I.env0 (hb s us I.kIn hl) r2 h) fun r s' hq=>?_)
 cases r with
 |error e=>exact hx pins σ H s e s' I hq
 |ok fl=>
  cases fl with
  |ret u=>exact I.after hq
  |next=>exact False.elim hq
  |brk=>exact False.elim hq
  |cont=>exact False.elim hq
theorem qH(F:FnOk X.prog X.w X.K X.mg X.base CX k f fd ps sp)(hr:Room k X.A)(hg:Gl X x)(hm:X.mg x=some (.ref f))(hk:PySem.W.keepIn X.K (.ref f)=true)(hb:Binds X.K fd ps ds)(hd:Vals dvs ds)(hx:jo CX X E)
  (ha:PA X (e::es) t) (hdb:(x==("__debug__":Str))=false:=by decide) (he:starEach (e::es) X.env=(false,eval e X.env)::starEach es X.env:=by rfl) (hpl:(backTo pos (starEach es X.env)).any (·.1)=false:=by rfl) :
  PE X (.Call (.Name x p) (e::es) [] pos) (GB sp dvs E t):=by
 intro pins s σ H Q I h;refine wpAny_Call_Name_kw (vx I hg hm ?_ hdb);refine PySem.W.callWith_K (h₀:=X.base) I.ok.mod.kin hk (cn (ha pos pins s σ H _ I h) fun us s1 ⟨vs,H1,I1,r,q⟩=>⟨I1.kIn,?_⟩) he hpl
 exact xS F hr hb hd hx I1 r q
theorem vm{pl:Sem Bool}(he:PE X o ta)(c:Cls X.K C)(hm:Meth X.K C m f)(F:FnOk X.prog X.w X.K X.mg X.base CX k f fd ps sp)(hr:Room k X.A)(hb:Binds X.K fd ps ds)(hd:Vals dvs ds)(hx:jo CX X E)(ha:PA X (e::es) t)
  (hst:starEach (e::es) X.env=(false,eval e X.env)::starEach es X.env:=by rfl) (hpl:(backTo pos (starEach es X.env)).any (·.1)=false:=by rfl)
  (ht:eval (.Call (.Attribute o m apos) (e::es) [] pos) X.env=(do
   let ov <-eval o X.env
   standAt apos.atName
   let (f,first) <-holding [ov] (getMethod ov m pl)
   callWith pos f first (backTo pos (starEach (e::es) X.env)) (backToKw pos (keywordEach [] X.env))):=by rfl) :
  PE X (.Call (.Attribute o m apos) (e::es) [] pos) (Gv C m sp dvs E ta t):=by
 intro pins s σ H Q I h;refine PySem.W.methodCall_KW (pl:=pl) (cn (he pins s σ H _ I h) fun u s1 ⟨x,H1,I1,rx,a,dx,fs,ex,ea,l,q⟩=>?_) ht
 subst ex;obtain rfl:u=Value.ref a:=rx;refine uD I1 ea c hm l ?_;refine PySem.W.callWith_K (first:=[.ref a]) (h₀:=X.base) I.ok.mod.kin hm.kp (cn (ha pos pins s1 σ H1 _ I1 q) fun us s2 ⟨vs,H2,I2,r,q2⟩=>⟨I2.kIn,?_⟩) hst hpl
 exact xS (us:=.ref a::us) (vs:=.ref a::vs) F hr hb hd hx I2 (.cons rfl r) q2
structure Mk (K:PySem.W.Frag) (C f:Addr):Prop where
 makes:PySem.W.makesIn K C=true
 init:PySem.W.findIn K (.ref C) "__init__" = some (some (.ref f))
 fn:PySem.W.isFn K (.ref f)=true
 kp:PySem.W.keepIn K (.ref C)=true
theorem xR{pins:List (Addr×Obj)}{σ:St}{H:Hp}{s:Shared}{Q:VK}{us:List Value}{vs:List V}(M:Mk X.K C f)(F:FnOk X.prog X.w X.K X.mg X.base CX k f fd ps sp)(hr:Room (k+1) X.A)(hb:Binds X.K fd ps ds)(hd:Vals dvs ds)
  (hx:jo CX X E) (I:Inv X pins σ H s) (r:Vals vs us)
  (h:∀x dx,H x=none->H dx=none->dx≠x->sp (.ref x::(vs++dvs)) (upd (upd H dx (.own x)) x (.ins C dx [])) (fun v H2=>v=.non/\Q (.ref x) H2) E) :
  wpAny (model X.prog X.w) X.A (call (.ref C) us) (EP X pins σ Q) X.xe s:=by
 have hq:=h (s.heap.objs.size+1) s.heap.objs.size (I.hok.fresh (Nat.le_succ _)) (I.hok.fresh (Nat.le_refl _)) (Nat.ne_of_lt (Nat.lt_succ_self _));have I2:=Inv.made (C:=C) I;have r2:Vals (V.ref (s.heap.objs.size+1)::(vs++dvs)) (Value.ref (s.heap.objs.size+1)::(us++ds)):=.cons rfl (r.append hd);have hl:(Value.ref (s.heap.objs.size+1)::us++ds).length=ps.length:=by
  have e:=r2.length;rw[F.len _ _ _ _ hq]at e;exact e.symm
 refine wpAny_call (yw (f:=f) I.kIn M.makes M.init (beq_iff_eq.mp M.fn) (codeAny_mono (F.run _ X.stack _ _ ⟨Value.ref (s.heap.objs.size+1)::us,[]⟩ (Value.ref (s.heap.objs.size+1)::(us++ds)) _ _ E (hr.make C us [])
  (I2.env0.make C us []) (hb _ (Value.ref (s.heap.objs.size+1)::us) I2.kIn hl) r2 hq) fun r s' hq'=>?_))
 cases r with
 |error e=>exact hx pins σ _ _ e s' I2 hq'
 |ok fl=>
  cases fl with
  |ret u=>
   obtain⟨v,H',I3,rv,ev,q3⟩:=I2.after hq';subst ev;exact⟨rv,⟨V.ref (s.heap.objs.size+1),H',I3,rfl,q3⟩⟩
  |next=>exact False.elim hq'
  |brk=>exact False.elim hq'
  |cont=>exact False.elim hq'
theorem Bb(M:Mk X.K C f)(F:FnOk X.prog X.w X.K X.mg X.base CX k f fd ps sp)(hr:Room (k+1) X.A)(hg:Gl X x)(hm:X.mg x=some (.ref C))(hb:Binds X.K fd ps ds)(hd:Vals dvs ds)(hx:jo CX X E)
  (ha:PA X (e::es) t) (hdb:(x==("__debug__":Str))=false:=by decide) (he:starEach (e::es) X.env=(false,eval e X.env)::starEach es X.env:=by rfl) (hpl:(backTo pos (starEach es X.env)).any (·.1)=false:=by rfl) :
  PE X (.Call (.Name x p) (e::es) [] pos) (Gw C sp dvs E t):=by
 intro pins s σ H Q I h;refine wpAny_Call_Name_kw (vx I hg hm ?_ hdb);refine PySem.W.callWith_K (h₀:=X.base) I.ok.mod.kin M.kp (cn (ha pos pins s σ H _ I h) fun us s1 ⟨vs,H1,I1,r,q⟩=>⟨I1.kIn,?_⟩) he hpl
 exact xR M F hr hb hd hx I1 r q
end
structure FnScope (N P:List Str) (sc:Scope):Prop where
 kind:sc.kind=.function
 co:sc.isCoroutine=false
 gen:sc.isGenerator=false
 nd:N.Nodup
 pre:N.take P.length=P
 par:∀x∈P,sc.names.lookup x=some .local\/sc.names.lookup x=some .cell
 nofree:∀y∈sc.names,y.2≠.free
theorem qb{kindOf:Str->Option NameKind}{x:Str}:∀{binds:List (Str×Value)} {m:Str->Option Value},(∀v,(x,v) ∉ binds)->bindL kindOf binds m x=m x
 |[],_,_=>rfl
 | (n,v)::r,m,h=>by
  unfold bindL;rw[qb fun w hw=>h w (List.mem_cons_of_mem _ hw)]
  split
  ·have:x≠n:=by rintro rfl;exact h v List.mem_cons_self
   simp[this]
  ·rfl
theorem qd{kindOf:Str->Option NameKind}{x:Str}:∀{binds:List (Str×Value)} {m:Str->Option Value},(∀v,(x,v) ∉ binds)->bindC kindOf binds m x=m x
 |[],_,_=>rfl
 | (n,v)::r,m,h=>by
  unfold bindC;rw[qd fun w hw=>h w (List.mem_cons_of_mem _ hw)]
  split
  ·rfl
  ·have:x≠n:=by rintro rfl;exact h v List.mem_cons_self
   simp[this]
theorem qc{kindOf:Str->Option NameKind}{x:Str}{v:Value}:∀{P:List Str} {vs:List Value} {i:Nat} {m:Str->Option Value},P.Nodup->P[i]? = some x->vs[i]? = some v->kindOf x=some .local ->
  bindL kindOf (P.zip vs) m x=some v
 |[],_,_,_,_,h,_,_=>by simp at h
 |_::_,[],_,_,_,_,h,_=>by simp at h
 |p::P,w::vs,0,m,nd,h1,h2,hk=>by
  simp at h1 h2;subst h1;subst h2;show bindL kindOf ((p,w)::P.zip vs) m p=_;unfold bindL;rw[qb fun v hv=>(List.nodup_cons.mp nd).1 (List.of_mem_zip hv).1,if_pos hk]
  simp
 |p::P,w::vs,i+1,m,nd,h1,h2,hk=>by
  show bindL kindOf ((p,w)::P.zip vs) m x=_;unfold bindL;exact qc (i:=i) (List.nodup_cons.mp nd).2 (by simpa using h1) (by simpa using h2) hk
theorem qe{kindOf:Str->Option NameKind}{x:Str}{v:Value}:∀{P:List Str} {vs:List Value} {i:Nat} {m:Str->Option Value},P.Nodup->P[i]? = some x->vs[i]? = some v->kindOf x≠some .local ->
  bindC kindOf (P.zip vs) m x=some v
 |[],_,_,_,_,h,_,_=>by simp at h
 |_::_,[],_,_,_,_,h,_=>by simp at h
 |p::P,w::vs,0,m,nd,h1,h2,hk=>by
  simp at h1 h2;subst h1;subst h2;show bindC kindOf ((p,w)::P.zip vs) m p=_;unfold bindC;rw[qd fun v hv=>(List.nodup_cons.mp nd).1 (List.of_mem_zip hv).1,if_neg hk]
  simp
 |p::P,w::vs,i+1,m,nd,h1,h2,hk=>by
  show bindC kindOf ((p,w)::P.zip vs) m x=_;unfold bindC;exact qe (i:=i) (List.nodup_cons.mp nd).2 (by simpa using h1) (by simpa using h2) hk
noncomputable def cF(N:List Str)(vs:List V):St:=vs.map some++List.replicate (N.length-vs.length) none
noncomputable def nZ(CX:v5)(P:Program)(w:World)(K:PySem.W.Frag)(mg:Str->Option Value)(base:Heap)(N:List Str)(qual:Str)(scope:Scope)(f:Addr)(cd:Value)(A:Around)(outer:List Env)(s:Shared)(H:Hp)(E:XK):Cx where
 prog:=P
 w:=w
 K:=K
 mg:=mg
 base:=base
 A:=A.deeper (envOfC qual scope s.heap.objs.size f cd)
 N:=N
 s₀:=s
 H₀:=H
 env:=envOfC qual scope s.heap.objs.size f cd
 outer:=outer
 stack:=envOfC qual scope s.heap.objs.size f cd::outer
 ex:=[]
 calm:=true
 fn:=fun _=>true
 pn:=[]
 xe:=fun e s'=>wpAny (model P w) (A.deeper (envOfC qual scope s.heap.objs.size f cd)) (leaving (envOfC qual scope s.heap.objs.size f cd) e) (fun _ s''=>CX outer H s E e s'') (fun e' s''=>CX outer H s E e' s'') s'
theorem tF{sc:Scope}{n:Nat}{x:Str}(h:sc.names.lookup x=some .cell):∃c,(cellsFrom n sc.names []).lookup x=some c:=by
 have q:=PySem.W.cellsFrom_some sc.names n [] (.inl h);exact Option.isSome_iff_exists.mp q
theorem wP{CX:v5}{P:Program}{w:World}{K:PySem.W.Frag}{mg:Str->Option Value}{base:Heap}{N ps:List Str}{qual:Str}{scope:Scope}{f:Addr}{cd:Value}{A:Around}{outer:List Env}{s s1:Shared}{H:Hp}{E:XK}{us:List Value}{vs:List V}
  (S:FnScope N ps scope) (hd:A.handled=none) (e0:Env0 P w K mg base A outer s H) (hl:vs.length=ps.length) (r:Vals vs us)
  (x:InCallC s s.heap.objs.size (bindL (envOfC qual scope s.heap.objs.size f cd).kindOf (ps.zip us) fun _=>none) (cellsFrom (s.heap.objs.size+1) scope.names []) (bindC (envOfC qual scope s.heap.objs.size f cd).kindOf (ps.zip us) fun _=>none) s1) :
  Inv (nZ CX P w K mg base N qual scope f cd A outer s H E) [] (cF N vs) H s1:=by
 have hpl:ps.length<=N.length:=by have:=congrArg List.length S.pre;rw[List.length_take]at this;omega
 obtain⟨h1,tk,rfl,hk⟩:=x.done;have noA:∀b:Addr,b ∉ (nZ CX P w K mg base N qual scope f cd A outer s H E).ex:=fun b z=>absurd (show b∈([]:List Addr)from z) (by simp)
 refine⟨⟨e0.mod,S.kind,rfl,rfl,Nat.le_refl _,fun y z c h1 h2=>?_,fun y hy=>?_,fun y c _ h=>?_,fun _=>hd,Around.frames_deeper e0.frames,.inr ⟨rfl,rfl⟩,fun b z=>absurd z (noA b),e0.bs,e0.bsz,fun b _ _=>noA b,fun b z=>absurd z (noA b),e0.funs,e0.frf⟩,
  rfl,e0.bare,Un.kept hk,⟨_,x.toInCall.ns,fun i y v h1 h2 h3=>?_⟩,fun y c h=>⟨_,x.cell y c h⟩,e0.hok.fresh (Nat.le_refl _),fun y c h=>?_,fun p hp=>absurd (show p∈([]:List (Addr×Obj))from hp) (by simp),e0.hok.kept hk,?_⟩
 ·exact name_of_addr x.apart (PySem.mem_of_lookup h1) (PySem.mem_of_lookup h2)
 ·have hy:scope.names.lookup y=some .cell\/scope.names.lookup y=some .free:=hy
  rcases hy with hy|hy
  ·exact tF hy
  ·exact absurd rfl (S.nofree _ (PySem.mem_of_lookup hy))
 ·exact Nat.le_of_lt (x.above y c (PySem.mem_of_lookup h))
 ·have hi:i<vs.length:=by
   unfold cF at h2;by_cases hi:i<vs.length
   ·exact hi
   ·rw[List.getElem?_append_right (by simpa using hi)]at h2
    rw[List.getElem?_replicate]at h2;split at h2<;>cases h2
  have ha:vs[i]? = some v:=by
   unfold cF at h2;rw[List.getElem?_append_left (by simpa using hi),List.getElem?_map]at h2;cases e:vs[i]? with
   |none=>rw[e]at h2;cases h2
   |some a=>rw[e]at h2;cases h2;rfl
  obtain⟨u,hu,rv⟩:=r.get ha;have hp:ps[i]? = some y:=by
   rw[<-S.pre,List.getElem?_take_of_lt (by omega)];exact h1
  have ndP:ps.Nodup:=by rw[<-S.pre];exact S.nd.sublist (List.take_sublist _ _)
  refine⟨u,rv,?_⟩;rcases S.par y (List.mem_of_getElem? hp)with k|k
  ·exact .inl ⟨k,qc ndP hp hu k⟩
  ·obtain⟨c,e⟩:=tF (n:=s.heap.objs.size+1) k
   refine .inr ⟨.inl k,c,e,?_⟩;have q:=x.cell y c e;rw[qe ndP hp hu (by show scope.names.lookup y≠_;rw[k];decide)]at q;exact q
 ·exact e0.hok.fresh (Nat.le_of_lt (x.above y c (PySem.mem_of_lookup h)))
 ·unfold cF
  show _=N.length;rw[List.length_append,List.length_map,List.length_replicate];omega
theorem sU{CX:v5}{P:Program}{w:World}{K:PySem.W.Frag}{mg:Str->Option Value}{base:Heap}{k:Nat}{f:Addr}{name qual:Str}{params:Arguments}{body:List Stmt}{scope:Scope}{dV kV doc pm cdv ct oc:Value}{an od:Option Addr}
  {osl:Array (Option Value)} {N ps:List Str} {sp:Sp} (lk:K.lookup f=some ⟨oc,od,.func (PySem.W.fnOf name qual params body scope dV kV doc pm an cdv ct),osl⟩) (hcd:PySem.W.codeIn K cdv qual=true) (S:FnScope N ps scope)
  (len:∀vs H Q E,sp vs H Q E->vs.length=ps.length)
  (hbody:∀(A:Around) (outer:List Env) (s:Shared) (H:Hp) (vs:List V) (Q:VK) (E:XK),Room k (A.deeper (envOfC qual scope s.heap.objs.size f cdv))->sp vs H Q E ->
   ∃t,PSs (nZ CX P w K mg base N qual scope f cdv A outer s H E) body t/\t { nx:=fun _ H'=>Q .non H',rt:=Q } (cF N vs) H) :
  FnOk P w K mg base CX (k+1) f (PySem.W.fnOf name qual params body scope dV kV doc pm an cdv ct) ps sp:=by
 refine⟨len,fun A outer s H args us vs Q E hr e0 hb r hsp=>?_⟩
 have hl:=len _ _ _ _ hsp;have KX:K.In s.heap:=e0.mod.kin.keeps fun b o e=>(e0.bs b o e).1
 have lim:s.heap.NoLimit:=e0.mod.nolimit.keeps fun b o e=>(e0.bs b o e).1
 have hkind:∀y∈ps.zip us,scope.names.lookup y.1=some .local\/(scope.names.lookup y.1=some .cell/\((cellsFrom (s.heap.objs.size+1) scope.names []).lookup y.1).isSome=true):=fun⟨n,v⟩ hy=>by
  rcases S.par n (List.of_mem_zip hy).1 with q|q
  ·exact .inl q
  ·exact .inr ⟨q,PySem.W.cellsFrom_some _ _ _ (.inl q)⟩
 refine codeAny_call_function hr.depth (KX _ _ lk) rfl S.co S.gen rfl (PySem.W.codeRec_of KX hcd) (hb _ _ _ _ ?_);refine wpAny_newFunctionEnv_cells S.kind hkind fun env he s1 x=>?_
 subst he;refine⟨lim.keeps x.toInCall.keep,codeAny_func ?_⟩;obtain⟨t,ht,hq⟩:=hbody A outer s H vs Q E (hr.deeper _) hsp;have I:Inv (nZ CX P w K mg base N qual scope f cdv A outer s H E) [] (cF N vs) H s1:=wP S hr.hd e0 hl r x;refine wpAny_mono (ht [] s1 (cF N vs) H _ I hq) (fun fl s' hs=>?_) fun e s' hs=>hs
 have fin:∀{σ':St} {H':Hp} {v:V} {u:Value},Inv (nZ CX P w K mg base N qual scope f cdv A outer s H E) [] σ' H' s'->RelV v u->Q v H'->CE outer P w H s Q u s':=
  fun{σ' H' v u} J rv q=>⟨v,H',J.os,J.bare,J.base,J.hok,rv,q⟩
 cases fl with
 |ret u=>
  obtain⟨v,σ',H',J,rv,q⟩:=hs;exact fin J rv q
 |next=>
  obtain⟨σ',H',J,q⟩:=hs;exact fin (v:=V.non) (u:=Value.none) J rfl q
 |brk=>
  obtain⟨_,_,_,q⟩:=hs;exact False.elim q
 |cont=>
  obtain⟨_,_,_,q⟩:=hs;exact False.elim q
section
variable{X:Cx}{x:Str}{p pos:Pos}{e:Expr}{es:List Expr}{t:TA}{id T:String}{r:List V->Hp->VK->Prop}
def Ks(r:List V->Hp->VK->Prop)(t:TA):TE:=fun σ H Q=>t σ H fun vs H1=>r vs H1 Q
theorem iq(hc:CallR X (.builtin id) r)(hg:Gl X x)(hm:X.mg x=none)(hv:bootBuiltins x=some (.builtin id))(ha:PA X (e::es) t)(hn:x ≠ "__name__":=by decide)(hdb:(x==("__debug__":Str))=false:=by decide)
  (he:starEach (e::es) X.env=(false,eval e X.env)::starEach es X.env:=by rfl) (hpl:(backTo pos (starEach es X.env)).any (·.1)=false:=by rfl):PE X (.Call (.Name x p) (e::es) [] pos) (Ks r t):=by
 intro pins s σ H Q I h;refine wpAny_Call_Name_kw (jh I hg hm hv ?_ hn hdb);exact PyProof.Rows.callWith_builtin1 (cn (ha pos pins s σ H _ I h) fun us s1 ⟨vs,H1,I1,r1,q1⟩=>hc pins s1 σ H1 vs us Q I1 r1 q1) he hpl
theorem pR(hc:CallR X (.type T) r)(hg:Gl X x)(hm:X.mg x=none)(hv:bootBuiltins x=some (.type T))(ha:PA X (e::es) t)(hn:x ≠ "__name__":=by decide)(hdb:(x==("__debug__":Str))=false:=by decide)
  (he:starEach (e::es) X.env=(false,eval e X.env)::starEach es X.env:=by rfl) (hpl:(backTo pos (starEach es X.env)).any (·.1)=false:=by rfl):PE X (.Call (.Name x p) (e::es) [] pos) (Ks r t):=by
 intro pins s σ H Q I h;refine wpAny_Call_Name_kw (jh I hg hm hv ?_ hn hdb);exact PyProof.Rows.callWith_type1 (cn (ha pos pins s σ H _ I h) fun us s1 ⟨vs,H1,I1,r1,q1⟩=>hc pins s1 σ H1 vs us Q I1 r1 q1) he hpl
end
end L2
namespace HT
open PySem PyProof.Rows
section
variable{prog:Program}{w:World}{A:Around}{E:Value->Shared->Prop}{s:Shared}
theorem Cc{t b:Addr}{vs ws:List Value}{Q:Value->Shared->Prop}(ht:IsTup s.heap t vs.toArray)(hb:IsTup s.heap b ws.toArray)(hv:vs≠[])
  (h1:ws=[]->Q (.ref t) s) (h2:ws≠[]->Q (.ref s.heap.objs.size) { s with heap:=s.heap.push { cls:=.type "tuple",data:=.seq (vs++ws).toArray } })
  (hsz:vs.length+ws.length<=sizeLine):wpAny (model prog w) A (binaryOp .Add (.ref t) (.ref b)) Q E s:=by
 obtain⟨⟨cls,dd,data,sl⟩,ho,hc,n,hd⟩:=id ht;obtain⟨⟨cls2,dd2,data2,sl2⟩,ho2,hc2,n2,hd2⟩:=id hb;simp only at hc hd hc2 hd2;subst hc hd hc2 hd2;have e:vs.toArray++ws.toArray=(vs++ws).toArray:=by simp
 by_cases hw:ws=[]
 ·exact concat_meets ⟨_,ho,rfl⟩ ⟨_,ho2,rfl⟩ noFill_tuple_add seq_tuple_add PySem.F.slot_tuple_add PySem.F.entry_tuple_add (PySem.F.args_tuple_add_2 _ _)
   (tuple_addW1 t b vs.toArray ws.toArray n n2 dd dd2 sl sl2 (by simpa using hv) (by simp[hw])) ⟨ho,ho2,h1 hw⟩
 ·refine concat_meets ⟨_,ho,rfl⟩ ⟨_,ho2,rfl⟩ noFill_tuple_add seq_tuple_add PySem.F.slot_tuple_add PySem.F.entry_tuple_add (PySem.F.args_tuple_add_2 _ _)
   (tuple_addW2 t b vs.toArray ws.toArray n n2 dd dd2 sl sl2 (by simpa using hv) (by simpa using hw) (by rw[List.size_toArray,List.size_toArray];exact hsz)) ⟨ho,ho2,?_⟩
  rw[e];exact h2 hw
noncomputable def sIx(n d:Nat):Option Int->Nat
 |none=>d
 |some v=>if v<0 then(v+(n:Int)).toNat else min v.toNat n
theorem Dz(n d:Nat)(hd:d<=n)(o:Option Int):sIx n d o<=n:=by
 cases o with
 |none=>exact hd
 |some v=>
  show(if v<0 then(v+(n:Int)).toNat else min v.toNat n)<=n;by_cases hv:v<0
  ·rw[if_pos hv];omega
  ·rw[if_neg hv];exact Nat.min_le_right _ _
theorem vS(v:Int)(n d:Nat):(if v<0 then max (v+(n:Int)) 0 else min v (n:Int))=((sIx n d (some v):Nat):Int):=by
 show(if v<0 then max (v+(n:Int)) 0 else min v (n:Int))=(((if v<0 then(v+(n:Int)).toNat else min v.toNat n):Nat):Int);by_cases hv:v<0
 ·simp only[if_pos hv];omega
 ·simp only[if_neg hv];omega
theorem uV(lo hi:Option Int)(n:Nat):Builtin.Slice.sliceAdjust lo hi 1 (n:Int)=(((sIx n 0 lo:Nat):Int),((sIx n n hi:Nat):Int)):=by
 have h1:¬((1:Int)<0):=by omega
 unfold Builtin.Slice.sliceAdjust;simp only[h1,if_false];refine Prod.ext ?_ ?_
 ·cases lo with
  |none=>rfl
  |some v=>exact vS v n 0
 ·cases hi with
  |none=>rfl
  |some v=>exact vS v n n
theorem ul(i j:Nat):Builtin.Slice.slicePlaces (i:Int) (j:Int) 1=j-i:=by
 unfold Builtin.Slice.slicePlaces;have h1:(1:Int)>0:=by omega
 simp only[h1,if_true,Int.ediv_one];split<;>omega
theorem mE{v:Value}{o:Option Int}{Q:Option Int->Shared->Prop}(p:IsPart v o)(h:Q o s):wpAny (model prog w) A (Builtin.Slice.slicePartIndex v) Q E s:=by
 cases p with
 |none=>exact slicePart_none h
 |int i t=>exact slicePart_int h
theorem gh{sl:Addr}{vl vu:Value}{lo hi:Option Int}{n:Nat}{Q:Int×Int×Nat->Shared->Prop}(hs:s.heap.IsSliceOf sl vl vu .none)(pl:IsPart vl lo)(pu:IsPart vu hi)
  (h:Q (((sIx n 0 lo:Nat):Int),1,sIx n n hi-sIx n 0 lo) s):wpAny (model prog w) A (Builtin.Slice.sliceApplied (.ref sl) (pure (n:Int))) Q E s:=by
 obtain⟨os,hos,hcs,hds⟩:=id hs;unfold Builtin.Slice.sliceApplied Builtin.Slice.sliceFields;refine wpAny_bind (wpAny_bind (wpAny_field hos hds (x:=vl) rfl (wpAny_bind (wpAny_field hos hds (x:=vu) rfl (wpAny_bind (wpAny_field hos hds (x:=.none) rfl (wpAny_pure ?_)))))));refine wpAny_bind (slicePart_none ?_);show wpAny _ _ (if((1:Int)==0)=true then _ else _) _ _ s;rw[if_neg (by decide)];refine wpAny_bind (mE pl (wpAny_bind (mE pu (wpAny_bind (wpAny_pure ?_)))));show wpAny _ _ (match Builtin.Slice.sliceAdjust lo hi 1 (n:Int)with|(lo,hi)=>pure (lo,(1:Int),Builtin.Slice.slicePlaces lo hi 1)) _ _ s
 rw[uV lo hi n];show wpAny _ _ (pure (((sIx n 0 lo:Nat):Int),(1:Int),Builtin.Slice.slicePlaces ((sIx n 0 lo:Nat):Int) ((sIx n n hi:Nat):Int) 1)) _ _ s;rw[ul];exact wpAny_pure h
theorem xZ(xs:Array Value)(i k:Nat):((List.range k).filterMap fun(m:Nat)=>xs[((i:Int)+(m:Int)*1).toNat]?).toArray=((xs.toList.drop i).take k).toArray:=by
 have e:(fun(m:Nat)=>xs[((i:Int)+(m:Int)*1).toNat]?)=fun m=>xs[i+m]?:=by
  funext m;have:((i:Int)+(m:Int)*1).toNat=i+m:=by omega
  rw[this]
 rw[e];have:=pick_run xs i k;rw[List.filterMap_map]at this;have e2:((fun x=>xs[x]?) ∘ fun x=>i+x)=fun m=>xs[i+m]?:=rfl
 rw[e2]at this;rw[this]
theorem jZ{t sl:Addr}{items:Array Value}{vl vu:Value}{lo hi:Option Int}{Q:Value->Shared->Prop}(ht:IsTup s.heap t items)(hs:s.heap.IsSliceOf sl vl vu .none)(pl:IsPart vl lo)(pu:IsPart vu hi)
  (hw:¬(sIx items.size 0 lo=0/\sIx items.size items.size hi=items.size))
  (h:Q (.ref s.heap.objs.size) { s with heap:=s.heap.push { cls:=.type "tuple",data:=.seq ((items.toList.drop (sIx items.size 0 lo)).take (sIx items.size items.size hi-sIx items.size 0 lo)).toArray } })
  (hsz:items.size<=sizeLine):wpAny (model prog w) A (getItem (.ref t) (.ref sl)) Q E s:=by
 have htake:sizeOk (.seq ((items.toList.drop (sIx items.size 0 lo)).take (sIx items.size items.size hi-sIx items.size 0 lo)).toArray):=by
  show((items.toList.drop (sIx items.size 0 lo)).take (sIx items.size items.size hi-sIx items.size 0 lo)).toArray.size<=sizeLine;rw[List.size_toArray,List.length_take,List.length_drop,Array.length_toList];omega
 have hj:sIx items.size items.size hi<=items.size:=Dz _ _ (Nat.le_refl _) hi;obtain⟨os,hos,hcs,hds⟩:=id hs;have hTs:s.TypeIs (.ref sl) "slice":=⟨os,hos,hcs⟩;unfold getItem
 try with_reducible refine wpAny_holding ?_
 first|refine wpAny_bind (wpAny_pure ?_)|skip
 refine wpAny_bind (wpAny_sequenceKey ht.typeIs (by decide) ?_);refine wpAny_bind (wpAny_callSpecial?_slot (name:=Str.ofString "__getitem__") ht.typeIs PyProof.Rows.slot_tuple_getitem
  (wpAny_call_entry PyProof.Rows.slot_tuple_getitem ht.typeIs entry_tuple_getitem ?_ (args_tuple_getitem _ _)))
 show wpAny _ _ (Builtin.Tuple.tupleItemsOf (.ref t) >>= _) _ _ s;refine wpAny_bind (tupleItemsOf_ ht ?_);refine wpAny_bind (wpAny_typeOf hTs ?_);rw[if_pos (by decide)];refine wpAny_bind (gh hs pl pu ?_);have hno:¬((((sIx items.size 0 lo:Nat):Int)==0&&(1:Int)==1&&(sIx items.size items.size hi-sIx items.size 0 lo)==items.size)=true):=by
  intro q;rw[Bool.and_eq_true,Bool.and_eq_true]at q;have q1:((sIx items.size 0 lo:Nat):Int)=0:=eq_of_beq q.1.1;have q2:sIx items.size items.size hi-sIx items.size 0 lo=items.size:=eq_of_beq q.2;exact hw ⟨by omega,by omega⟩
 show wpAny _ _ (if(((sIx items.size 0 lo:Nat):Int)==0&&(1:Int)==1&&(sIx items.size items.size hi-sIx items.size 0 lo)==items.size)=true then _ else _) _ _ s;rw[if_neg hno,xZ]
 first
  |exact wpAny_bind (m:=Builtin.Tuple.tupleExact _) (wpAny_newObj_type (wpAny_pure ⟨_,rfl,wpAny_pure h⟩) htake)
  |exact wpAny_bind (m:=Builtin.Tuple.tupleExact _) (wpAny_newObj_type (wpAny_bind (wpAny_pure (wpAny_pure ⟨_,rfl,wpAny_pure h⟩))) htake)
  |exact wpAny_bind (wpAny_bind (m:=Builtin.Tuple.tupleExact _) (wpAny_newObj_type (wpAny_pure (wpAny_pure ⟨_,rfl,wpAny_pure h⟩)) htake))
  |exact wpAny_bind (wpAny_bind (m:=Builtin.Tuple.tupleExact _) (wpAny_newObj_type (wpAny_pure ⟨_,rfl,wpAny_pure h⟩) htake))
end
end HT
namespace L2
open PySem PySem.Spec PyProof.Rows
abbrev TO:=St->Hp->(Option Int->Hp->Prop)->Prop
def PO(X:Cx)(e:Option Expr)(t:TO):Prop:=
 ∀(pins:List (Addr×Obj)) (s:Shared) (σ:St) (H:Hp) (Q:Option Int->Hp->Prop),Inv X pins σ H s->t σ H Q ->
  wpAny (model X.prog X.w) X.A (evalPart e X.env) (fun u s'=>∃o H',Inv X pins σ H' s'/\IsPart u o/\Q o H') X.xe s
def Gp(t:TE):TO:=fun σ H Q=>t σ H fun x H1=>∃i,x=.int i/\Q (some i) H1
section
variable{X:Cx}{e:Expr}{te:TE}{lo hi:Option Expr}{tl th:TO}{pos p2:Pos}
theorem A8(h:PE X e te):PO X (some e) (Gp te):=by
 intro pins s σ H Q I hw;rw[evalPart_some];refine cn (h pins s σ H _ I hw) fun u s1 ⟨x,H1,I1,r1,q1⟩=>?_
 obtain⟨i,rfl,q⟩:=q1;obtain⟨t,rfl⟩:=r1;exact⟨some i,H1,I1,.int i t,q⟩
def SlR(X:Cx)(r:V->Option Int->Option Int->Hp->VK->Prop):Prop:=
 ∀(pins:List (Addr×Obj)) (s:Shared) (σ:St) (H:Hp) (x:V) (v vl vu:Value) (lo hi:Option Int) (sl:Addr) (Q:VK),Inv X pins σ H s->RelV x v->s.heap.IsSliceOf sl vl vu .none->IsPart vl lo->IsPart vu hi->r x lo hi H Q ->
  ∃T id,typeLookup (.type T) "__getitem__" = pure (some (.builtin id))/\s.TypeIs v T/\wpAny (model X.prog X.w) X.A (getItem v (.ref sl)) (EP X pins σ Q) X.xe s
theorem SlR.or{r r':V->Option Int->Option Int->Hp->VK->Prop}(h:SlR X r)(h':SlR X r'):SlR X (fun x lo hi H Q=>r x lo hi H Q\/r' x lo hi H Q):=by
 intro pins s σ H x v vl vu lo hi sl Q I rx hs pl pu q;rcases q with q|q
 ·exact h pins s σ H x v vl vu lo hi sl Q I rx hs pl pu q
 ·exact h' pins s σ H x v vl vu lo hi sl Q I rx hs pl pu q
def KW(r:V->Option Int->Option Int->Hp->VK->Prop)(te:TE)(tl th:TO):TE:=fun σ H Q=>te σ H fun x H1=>tl σ H1 fun l H2=>th σ H2 fun u H3=>r x l u H3 Q
theorem yb{r:V->Option Int->Option Int->Hp->VK->Prop}(hr:SlR X r)(he:PE X e te)(hl:PO X lo tl)(hu:PO X hi th):PE X (.Subscript e (.Slice lo hi none p2) pos) (KW r te tl th):=by
 intro pins s σ H Q I h;refine Subscript_ (cn (he pins s σ H _ I h) fun v s1 ⟨x,H1,I1,r1,q1⟩=>?_)
 refine wpAny_Slice (cn (hl pins s1 σ H1 _ I1 q1) fun vl s2 ⟨l,H2,I2,pl,q2⟩=>cn (hu pins s2 σ H2 _ I2 q2) fun vu s3 ⟨u,H3,I3,pu,q3⟩=>?_)
 rw[evalPart_none];refine wpAny_pure ?_;have I4:Inv X pins σ H3 { s3 with heap:=s3.heap.push { cls:=.type "slice",data:=.fields #[vl,vu,.none] } }:=I3.kept (t':=s3.toks) fun b ob q=>Heap.get?_push_of_some _ q
 obtain⟨T,id,hT,ht,hg⟩:=hr pins { s3 with heap:=s3.heap.push { cls:=.type "slice",data:=.fields #[vl,vu,.none] } } σ H3 x v vl vu l u s3.heap.objs.size Q I4 r1 (Heap.IsSliceOf.new ..) pl pu q3;show wpAny (model X.prog X.w) X.A (subscriptTail e (.Slice lo hi none p2) v (.ref s3.heap.objs.size)) (EP X pins σ Q) X.xe { s3 with heap:=s3.heap.push { cls:=.type "slice",data:=.fields #[vl,vu,.none] } };exact tail_any (ops:=[.ref s3.heap.objs.size,v]) ht hT hg (by with_unfolding_all rfl)
noncomputable def px(xs:List V)(lo hi:Option Int):List V:=(xs.drop (HT.sIx xs.length 0 lo)).take (HT.sIx xs.length xs.length hi-HT.sIx xs.length 0 lo)
theorem lz(xs:List V)(lo hi:Option Int):(px xs lo hi).length<=xs.length:=by
 unfold px;rw[List.length_take,List.length_drop];omega
def Jo(K:PySem.W.Frag):V->Option Int->Option Int->Hp->VK->Prop:=fun x lo hi H Q=>∃a xs,x=.ref a/\SqT K H a xs /\
 ¬(HT.sIx xs.length 0 lo=0/\HT.sIx xs.length xs.length hi=xs.length)/\∀p,H p=none->Q (.ref p) (upd H p (.tup (px xs lo hi)))
theorem sl_tup:SlR X (Jo X.K):=by
 intro pins s σ H x v vl vu lo hi sl Q I rx hs pl pu h;obtain⟨a,xs,rfl,hx,hw,q⟩:=h;cases rx;obtain⟨its,r,ht,hz⟩:=I.tuple hx;have hlen:its.toArray.size=xs.length:=by rw[List.size_toArray];exact r.length.symm
 refine⟨"tuple",_,PyProof.Rows.slot_tuple_getitem.lookup,ht.typeIs,?_⟩;refine HT.jZ ht hs pl pu (by rw[hlen];exact hw) ?_ (by rw[hlen];exact hz);rw[hlen];refine⟨.ref s.heap.objs.size,_,I.laid (t':=s.toks) (o:=.tup (px xs lo hi)) (fun b ob q=>Heap.get?_push_of_some _ q) (Nat.le_refl _) ?_,rfl,q _ (I.hok.fresh (Nat.le_refl _))⟩;exact⟨Nat.le_trans (lz xs lo hi) hz,_,(r.drop (HT.sIx xs.length 0 lo)).take (HT.sIx xs.length xs.length hi-HT.sIx xs.length 0 lo),IsTup.new _ _,NoDi.new _ _⟩
def GS(K:PySem.W.Frag):R2:=fun x y H Q=>∃a b xs ys,x=.ref a/\y=.ref b/\SqT K H a xs/\SqT K H b ys/\xs≠[]/\xs.length+ys.length<=sizeLine /\
 (ys=[]->Q (.ref a) H)/\(ys≠[]->∀p,H p=none->Q (.ref p) (upd H p (.tup (xs++ys))))
theorem Vals.nil_iff{xs:List V}{us:List Value}(r:Vals xs us):us=[]↔xs=[]:=by
 cases r with
 |nil=>simp
 |cons _ _=>simp
theorem Bi:OpR X (binaryOp .Add) (GS X.K):=by
 intro pins s σ H x y v u Q I rx ry h;obtain⟨a,b,xs,ys,rfl,rfl,ha,hb,hx,hz,q1,q2⟩:=h;cases rx;cases ry;obtain⟨its,r1,p1,_⟩:=I.tuple ha;obtain⟨its2,r2,p2,_⟩:=I.tuple hb;refine HT.Cc p1 p2 (fun z=>hx (r1.nil_iff.mp z)) (fun z=>⟨.ref a,H,I,rfl,q1 (r2.nil_iff.mp z)⟩) (fun z=>?_) (by rw[<-r1.length,<-r2.length];exact hz)
 refine⟨.ref s.heap.objs.size,_,I.laid (t':=s.toks) (o:=.tup (xs++ys)) (fun b ob q=>Heap.get?_push_of_some _ q) (Nat.le_refl _) ?_,rfl,q2 (fun w=>z (r2.nil_iff.mpr w)) _ (I.hok.fresh (Nat.le_refl _))⟩
 exact⟨by rw[List.length_append];exact hz,_,r1.append r2,IsTup.new _ _,NoDi.new _ _⟩
end
noncomputable def nC(n:Nat)(i:Int):Option Nat:=if 0<=i then(if i<n then some i.toNat else none)else if -(n:Int)<=i then some (i+n).toNat else none
noncomputable def hX{α:Type}(xs:List α)(i:Int):Option α:=(nC xs.length i).bind fun j=>xs[j]?
theorem vD{n:Nat}{i:Int}{j:Nat}(h:nC n i=some j):seqIndex? i n=some j/\j<n /\ -(n:Int)<=i/\i<n:=by
 unfold nC at h;by_cases h0:0<=i
 ·rw[if_pos h0]at h
  by_cases h1:i<n
  ·rw[if_pos h1]at h
   have e:i.toNat=j:=Option.some.inj h;exact⟨by rw[seqIndex_of h0 h1,e],by omega,by omega,h1⟩
  ·rw[if_neg h1]at h;cases h
 ·rw[if_neg h0]at h
  by_cases h1:-(n:Int)<=i
  ·rw[if_pos h1]at h
   have e:(i+n).toNat=j:=Option.some.inj h;exact⟨by rw[seqIndex_neg (by omega) h1,e],by omega,h1,by omega⟩
  ·rw[if_neg h1]at h;cases h
theorem vX{α:Type}{xs:List α}{i:Int}{v:α}(h:hX xs i=some v):∃j,seqIndex? i xs.length=some j/\xs[j]? = some v/\j<xs.length /\ -(xs.length:Int)<=i/\i<xs.length:=by
 unfold hX at h;cases e:nC xs.length i with
 |none=>rw[e]at h;cases h
 |some j=>
  rw[e]at h;obtain⟨h1,h2,h3,h4⟩:=vD e;exact⟨j,h1,h,h2,h3,h4⟩
def rH(b:Expr):Prop:=∀o i,subscripted b false o i=operate [o,i] (getItem o i)
def IxR(X:Cx)(r:R2):Prop:=
 ∀(value slice:Expr) (pins:List (Addr×Obj)) (s:Shared) (σ:St) (H:Hp) (x y:V) (v u:Value) (Q:VK),Inv X pins σ H s->RelV x v->RelV y u->r x y H Q ->
  subscripted slice false v u=operate [v,u] (getItem v u)->wpAny (model X.prog X.w) X.A (subscriptTail value slice v u) (EP X pins σ Q) X.xe s
def Lc(X:Cx)(id:String)(r:V->List V->Hp->VK->Prop):Prop:=
 ∀(pins:List (Addr×Obj)) (s:Shared) (σ:St) (H:Hp) (x:V) (xs:List V) (v:Value) (us:List Value) (Q:VK),Inv X pins σ H s->RelV x v->Vals xs us->r x xs H Q ->
  wpAny (model X.prog X.w) X.A (call (.builtin id) (v::us)) (EP X pins σ Q) X.xe s
section
variable{X:Cx}{a b:Expr}{ta tb:TE}{pos:Pos}
theorem IxR.or{r r':R2}(h:IxR X r)(h':IxR X r'):IxR X (fun x y H Q=>r x y H Q\/r' x y H Q):=by
 intro value slice pins s σ H x y v u Q I rx ry q hs;rcases q with q|q
 ·exact h value slice pins s σ H x y v u Q I rx ry q hs
 ·exact h' value slice pins s σ H x y v u Q I rx ry q hs
theorem CC{r:R2}(hr:IxR X r)(ha:PE X a ta)(hb:PE X b tb)(hs:rH b):PE X (.Subscript a b pos) (Gq r ta tb):=by
 intro pins s σ H Q I h;exact Subscript_ (FH ha hb I h fun v u s2 x y H2 I2 rx ry q=>hr a b pins s2 σ H2 x y v u Q I2 rx ry q (hs _ _))
def Jr(K:PySem.W.Frag):R2:=fun x y H Q=>∃p xs i v,x=.ref p/\y=.int i/\SqL K H p xs/\hX xs i=some v/\Q v H
def Jq(K:PySem.W.Frag):R2:=fun x y H Q=>∃p xs i v,x=.ref p/\y=.int i/\SqT K H p xs/\hX xs i=some v/\Q v H
theorem ix_list:IxR X (Jr X.K):=by
 intro value slice pins s σ H x y v u Q I rx ry h hs;obtain⟨p,xs,i,z,rfl,rfl,hq,he,q⟩:=h;cases rx;obtain⟨t,rfl⟩:=ry;obtain⟨its,r,pl,hz⟩:=I.list hq;obtain⟨j,h1,h2,h3,h4,h5⟩:=vX he;obtain⟨w,ew,rw'⟩:=r.get h2;have hl:=r.length;have hn:=qT;have fin:EP X pins σ Q w s:=⟨z,H,I,rw',q⟩;by_cases h0:0<=i
 ·have hj:i.toNat=j:=by
   rw[seqIndex_of h0 h5]at h1;exact Option.some.inj h1
  exact item_listR pl.isList h0 (by omega) (by rw[hj];simpa using ew) fin hs
 ·have hj:(i+(its.toArray.size:Int)).toNat=j:=by
   rw[seqIndex_neg (by omega) h4]at h1;rw[List.size_toArray,<-hl];exact Option.some.inj h1
  exact subscriptTail_builtinR (x:=w) pl.isList.typeIs slot_list_getitem.lookup
   (wpAny_getItem_list_neg (Q:=fun r s'=>r=w/\EP X pins σ Q r s') pl.isList (by omega) (by rw[List.size_toArray]<;>omega) (by omega) (by rw[hj];simpa using ew) ⟨rfl,fin⟩) hs
theorem Fh:IxR X (Jq X.K):=by
 intro value slice pins s σ H x y v u Q I rx ry h hs;obtain⟨p,xs,i,z,rfl,rfl,hq,he,q⟩:=h;cases rx;obtain⟨t,rfl⟩:=ry;obtain⟨its,r,pl,hz⟩:=I.tuple hq;obtain⟨j,h1,h2,h3,h4,h5⟩:=vX he;obtain⟨w,ew,rw'⟩:=r.get h2;have hl:=r.length;have hn:=qT;have fin:EP X pins σ Q w s:=⟨z,H,I,rw',q⟩;exact subscriptTail_builtinR (x:=w) pl.typeIs slot_tuple_getitem.lookup
  (getItem_tuple (j:=j) (Q:=fun r s'=>r=w/\EP X pins σ Q r s') pl (by omega) (by omega) (by rw[List.size_toArray,<-hl];exact h1) (by simpa using ew) ⟨rfl,fin⟩) hs
theorem uv(its:List Value)(n j:Nat)(u:Value):Obj.mapSeq (·.setIfInBounds j u) { cls:=.type "list",data:=.seq its.toArray n }={ cls:=.type "list",data:=.seq (its.set j u).toArray n }:=by
 simp[Obj.mapSeq]
theorem Inv.lst{pins:List (Addr×Obj)}{σ:St}{H:Hp}{s:Shared}{p:Addr}{xs:List V}(I:Inv X pins σ H s)(h:H p=some (.lst xs)):
  ∃(its:List Value) (n:Nat),Vals xs its/\s.heap.get? p=some { cls:=.type "list",data:=.seq its.toArray n }/\xs.length<=sizeLine:=by
 obtain⟨z,its,n,r,e⟩:=I.hok p _ h;exact⟨its,n,r,e,z⟩
theorem Inv.lstUpd{pins:List (Addr×Obj)}{σ:St}{H:Hp}{s:Shared}{p:Addr}{xs ys:List V}{its its':List Value}{n n':Nat}{f:Obj->Obj}(I:Inv X pins σ H s)(h:H p=some (.lst xs))
  (ho:s.heap.get? p=some { cls:=.type "list",data:=.seq its.toArray n }) (hf:f { cls:=.type "list",data:=.seq its.toArray n }={ cls:=.type "list",data:=.seq its'.toArray n' }) (r:Vals ys its') (hz:ys.length<=sizeLine) (t:Nat) :
  Inv X pins σ (upd H p (.lst ys)) { s with heap:=s.heap.update p f,toks:=t }:=by
 have e:(s.heap.update p f).get? p=some { cls:=.type "list",data:=.seq its'.toArray n' }:=by
  rw[Heap.get?_update_self f ho (by rw[hf]<;>rfl),hf]
 refine I.write (x:=p) (e:=p) (by rw[h];trivial) (.inl rfl) (fun b u hb q=>(Heap.get?_update_other _ _ (Ne.symm hb)).trans q) ⟨_,e⟩ ?_
 exact⟨hz,its',n',r,e⟩
def GQ:V->V->V->Hp->(Hp->Prop)->Prop:=fun o i v H Q=>∃p xs k j,o=.ref p/\i=.int k/\H p=some (.lst xs)/\nC xs.length k=some j/\Q (upd H p (.lst (xs.set j v)))
theorem sf:Id X GQ:=by
 intro pins s σ H o i v ov iv u Q I ro ri rv h;obtain⟨p,xs,k,j,rfl,rfl,hp,hj,q⟩:=h;cases ro;obtain⟨t,rfl⟩:=ri;obtain⟨its,n,r,ho,hz⟩:=I.lst hp;obtain⟨h1,h2,h3,h4⟩:=vD hj;have hl:=r.length;have hn:=qT;have I':Inv X pins σ (upd H p (.lst (xs.set j v))) { s with heap:=s.heap.update p (Obj.mapSeq (·.setIfInBounds j u)) }:=
  I.lstUpd hp ho (uv its n j u) (r.set rv j) (by rw[List.length_set];exact hz) s.toks
 by_cases h0:0<=k
 ·have hk:k.toNat=j:=by
   rw[seqIndex_of h0 h4]at h1;exact Option.some.inj h1
  exact PySem.W.ki_setAt ho h0 (by omega) (by rw[List.size_toArray,<-hl];exact h4) (by rw[hk];exact⟨_,I',q⟩)
 ·have hk:(k+(its.toArray.size:Int)).toNat=j:=by
   rw[seqIndex_neg (by omega) h3]at h1;rw[List.size_toArray,<-hl];exact Option.some.inj h1
  exact PySem.W.ki_setBack ho (by omega) (by rw[List.size_toArray,<-hl];exact h3) (by omega) (by rw[hk];exact⟨_,I',q⟩)
theorem qw(lo hi:Option Int)(n:Nat):(sliceBounds lo hi none n).1=((HT.sIx n 0 lo:Nat):Int)/\(sliceBounds lo hi none n).2.1=((HT.sIx n n hi:Nat):Int)/\(sliceBounds lo hi none n).2.2=1:=by
 refine⟨?_,?_,rfl⟩
 ·cases lo with
  |none=>simp[sliceBounds,HT.sIx]
  |some i=>
   simp only[sliceBounds,HT.sIx,Option.getD_none,show(1:Int)>0 by decide,if_true];by_cases h:i<0
   ·simp only[h,if_true]<;>omega
   ·simp only[h,if_false]<;>omega
 ·cases hi with
  |none=>simp[sliceBounds,HT.sIx]
  |some i=>
   simp only[sliceBounds,HT.sIx,Option.getD_none,show(1:Int)>0 by decide,if_true];by_cases h:i<0
   ·simp only[h,if_true]<;>omega
   ·simp only[h,if_false]<;>omega
theorem oO(its:List Value)(lo hi:Option Int):slicePick its.toArray lo hi none=((its.drop (HT.sIx its.length 0 lo)).take (HT.sIx its.length its.length hi-HT.sIx its.length 0 lo)).toArray:=by
 obtain⟨h1,h2,h3⟩:=qw lo hi its.toArray.size;unfold slicePick;rw[h1,h2,h3];simp only[sliceRange_one,pick_run,List.size_toArray]<;>rfl
def Jp(K:PySem.W.Frag):V->Option Int->Option Int->Hp->VK->Prop:=fun x lo hi H Q=>∃a xs,x=.ref a/\SqL K H a xs/\∀p,H p=none->Q (.ref p) (upd H p (.lst (px xs lo hi)))
theorem sl_list:SlR X (Jp X.K):=by
 intro pins s σ H x v vl vu lo hi sl Q I rx hs pl pu h;obtain⟨a,xs,rfl,hx,q⟩:=h;cases rx;obtain⟨its,r,ht,hz⟩:=I.list hx;have hlen:=r.length;refine⟨"list",_,slot_list_getitem.lookup,ht.isList.typeIs,?_⟩;refine wpAny_getItem_list_slice ht.isList hs pl pu .none (by simp) ?_ (by rw[List.size_toArray]<;>omega);rw[oO,<-hlen];refine⟨.ref s.heap.objs.size,_,I.laid (t':=s.toks) (o:=.lst (px xs lo hi)) (fun b ob q=>Heap.get?_push_of_some _ q) (Nat.le_refl _) ?_,rfl,q _ (I.hok.fresh (Nat.le_refl _))⟩;exact⟨Nat.le_trans (lz xs lo hi) hz,_,0,(r.drop (HT.sIx xs.length 0 lo)).take (HT.sIx xs.length xs.length hi-HT.sIx xs.length 0 lo),Heap.get?_push_size _ rfl⟩
theorem pz:CallR X (.type "tuple") (fun xs H Q=>∃p ys,xs=[.ref p]/\((SqL X.K H p ys/\∀l,H l=none->Q (.ref l) (upd H l (.tup ys)))\/(SqT X.K H p ys/\Q (.ref p) H))):=by
 intro pins s σ H xs us Q I r h;obtain⟨p,ys,rfl,h⟩:=h;obtain⟨u,rfl,rx⟩:=pK r;cases rx;rcases h with⟨hq,q⟩|⟨hq,q⟩
 ·obtain⟨its,r',pl,hz⟩:=I.list hq
  have hlen:=r'.length;refine call_tuple_list pl.isList (fun h' kp=>?_) (by simp only[List.size_toArray]<;>omega);have I1:Inv X pins σ H { s with heap:=h' }:=I.kept (t':=s.toks) kp;have I2:Inv X pins σ (upd H h'.objs.size (.tup ys)) { s with heap:=h'.push { cls:=.type "tuple",data:=.seq its.toArray } }:=
   I1.laid (t':=s.toks) (fun b o e=>Heap.get?_push_of_some _ e) (Nat.le_refl _) (show ObjOk X.prog X.w _ _ _ (.tup ys)from ⟨hz,its,r',IsTup.new _ _,NoDi.new _ _⟩)
  exact⟨.ref h'.objs.size,_,I2,rfl,q _ (I1.hok.fresh (Nat.le_refl _))⟩
 ·obtain⟨its,r',pl,hz⟩:=I.tuple hq
  exact call_tuple_same pl ⟨.ref p,H,I,rfl,q⟩
def Kh(K:PySem.W.Frag)(T:String)(x:V)(H:Hp):Prop:=match x with
 |.str _=>T = "str"
 |.int _=>T = "int"
 |.ref p=>(T = "list" /\ ∃xs,SqL K H p xs)\/(T = "tuple" /\ ∃o,K.lookup p=some o/\o.cls=.type "tuple" /\ o.dict=none) \/
   (T = "dict" /\ ((∃kvs,H p=some (.dK kvs))\/∃kvs,H p=some (.dT kvs)))\/(T = "set" /\ ∃S n,H p=some (.set S n))
 |_=>False
theorem Dg{pins:List (Addr×Obj)}{σ:St}{H:Hp}{s:Shared}{T:String}{x:V}{v:Value}(I:Inv X pins σ H s)(r:RelV x v)(ty:Kh X.K T x H):
  s.TypeIs v T/\∀a,v=.ref a->∃ob,s.heap.get? a=some ob/\ob.dict=none:=by
 cases x with
 |str z=>
  obtain⟨t,rfl⟩:=r;cases(show T = "str" from ty);exact⟨typeIs_str s z t,fun _ e=>nomatch e⟩
 |int i=>
  obtain⟨t,rfl⟩:=r;cases(show T = "int" from ty);exact⟨typeIs_int s i t,fun _ e=>nomatch e⟩
 |ref p=>
  cases r;rcases ty with⟨rfl,xs,hq⟩|⟨rfl,o,hk,hc,hd⟩|⟨rfl,hk⟩|⟨rfl,S,n,hk⟩
  ·obtain⟨its,_,pl,_⟩:=I.list hq
   refine⟨pl.isList.typeIs,fun a e=>?_⟩
   cases e;obtain⟨o,n,e,c,hd,_⟩:=pl;exact⟨o,e,hd⟩
  ·refine⟨⟨o,I.kIn p o hk,hc⟩,fun a e=>?_⟩
   cases e;exact⟨o,I.kIn _ o hk,hd⟩
  ·have z:∃o,s.heap.get? p=some o/\o.ExactDict:=by
    rcases hk with⟨kvs,hk⟩|⟨kvs,hk⟩
    ·obtain⟨_,_,_,_,o,_,_,e,ex,_⟩:=I.hok p _ hk
     exact⟨o,e,ex⟩
    ·obtain⟨_,_,_,_,o,_,_,e,ex,_⟩:=I.hok p _ hk
     exact⟨o,e,ex⟩
   obtain⟨o,e,ex⟩:=z;refine⟨⟨o,e,ex.1⟩,fun a e2=>?_⟩
   cases e2;exact⟨o,e,ex.2.1⟩
  ·obtain⟨o,_,_,_,e,ex,_⟩:=I.hok p _ hk
   refine⟨⟨o,e,ex.1⟩,fun a e2=>?_⟩
   cases e2;exact⟨o,e,ex.2.1⟩
 |_=>exact False.elim ty
def KZ(K:PySem.W.Frag)(T:String)(r:V->List V->Hp->VK->Prop)(to:TE)(t:TA):TE:=fun σ H Q=>to σ H fun x H1=>Kh K T x H1/\t σ H1 fun xs H2=>r x xs H2 Q
variable{o e:Expr}{es:List Expr}{to:TE}{t:TA}{name:Str}{apos cpos:Pos}{T id:String}{r:V->List V->Hp->VK->Prop}
theorem yf(pa:PlainAttrs T)(slot:Slot T name id)(hty:typeOf (.builtin id)=pure (.type "method_descriptor"))(hm:Lc X id r)(ho:PE X o to)(ha:PA X (e::es) t)
  (hbase:attributeBase o name X.env (eval o X.env)=eval o X.env:=by rfl)
  (hfew:((backTo cpos (starEach (e::es) X.env)).all (fun x=>!x.1)&&(backToKw cpos (keywordEach [] X.env)).all (fun x=>x.1.isSome)
   && decide ((e::es).length+([]:List Keyword).length+(if([]:List Keyword).isEmpty then 0 else 1)<30))=true:=by rfl)
  (hline:(apos.endLine==cpos.line)=true:=by rfl) (hs:starEach (e::es) X.env=(false,eval e X.env)::starEach es X.env:=by rfl) (hplain:(backTo cpos (starEach es X.env)).any (·.1)=false:=by rfl) :
  PE X (.Call (.Attribute o name apos) (e::es) [] cpos) (KZ X.K T r to t):=by
 intro pins s σ H Q I h;refine wpAny_Call_method_late hbase hfew hline rfl (cn (ho pins s σ H _ I h) fun v s1 ⟨x,H1,I1,r1,ty,q1⟩=>?_)
 obtain⟨h1,h2⟩:=Dg I1 r1 ty;refine⟨T,id,pa,slot,hty,h1,h2,?_⟩;have hA:=ha cpos pins s1 σ H1 _ I1 q1;rw[hs]at hA ⊢;refine Calls.callWith_builtin (by show(false||(backTo cpos (starEach es X.env)).any (·.1))=false;rw[hplain]<;>rfl) (Calls.evalArgs_plain ?_);exact cn hA fun us s2 ⟨vs,H2,I2,r2,q2⟩=>hm pins s2 σ H2 x vs v us Q I2 r1 r2 q2
end
def KJ(X:Cx)(id:String)(r:V->List V->Hp->VK->Prop):Prop:=
 ∀(pins:List (Addr×Obj)) (s:Shared) (σ:St) (H:Hp) (x:V) (xs:List V) (v:Value) (us:List Value) (Q:VK),Inv X pins σ H s->RelV x v->Vals xs us->r x xs H Q ->
  wpAny (model X.prog X.w) X.A (call (.builtin id) (v::us)) (EP X pins σ Q) X.xe s
theorem Vals.one:∀{x:V} {us:List Value},Vals [x] us->∃u,us=[u]/\RelV x u
 |_,_,h=>by
  cases h with
  |cons r t=>
   cases t;exact⟨_,rfl,r⟩
section
variable{X:Cx}{pins:List (Addr×Obj)}{σ:St}{H:Hp}{s:Shared}{l b:Addr}{xs ys zs:List V}
theorem Inv.lset{its its':List Value}{n:Nat}{f:Array Value->Array Value}{t':Nat}(I:Inv X pins σ H s)(hH:H l=some (.lst xs))
  (e:s.heap.get? l=some { cls:=.type "list",data:=.seq its.toArray n }) (hf:f its.toArray=its'.toArray) (hv:Vals ys its') (hz:ys.length<=sizeLine) :
  Inv X pins σ (upd H l (.lst ys)) { s with heap:=s.heap.update l (Obj.mapSeq f),toks:=t' }:=by
 have q:=PySem.IsL.update e f;rw[hf]at q;refine I.write (x:=l) (e:=l) (by rw[hH];exact trivial) (.inl rfl) (fun b' u hb hu=>(Heap.get?_update_other s.heap (Obj.mapSeq f) (Ne.symm hb)).trans hu) ⟨_,q⟩ ?_
 exact⟨hz,its',_,hv,q⟩
theorem Inv.lnew{its:List Value}{t':Nat}(I:Inv X pins σ H s)(hv:Vals ys its)(hz:ys.length<=sizeLine):
  Inv X pins σ (upd H s.heap.objs.size (.lst ys)) { s with heap:=s.heap.push { cls:=.type "list",data:=.seq its.toArray },toks:=t' }:=
 I.laid (fun _ _ q=>Heap.get?_push_of_some _ q) (Nat.le_refl _) ⟨hz,its,0,hv,Heap.get?_push_size _ rfl⟩
theorem Inv.fresh(I:Inv X pins σ H s):H s.heap.objs.size=none:=I.hok.fresh (Nat.le_refl _)
theorem Inv.lstM(I:Inv X pins σ H s)(hH:H l=some (.lst xs)):xs.length<=sizeLine/\∃(its:List Value) (n:Nat),Vals xs its/\xs.length=its.length/\s.heap.get? l=some { cls:=.type "list",data:=.seq its.toArray n }:=by
 obtain⟨z,its,n,r,e⟩:=I.hok l _ hH;exact⟨z,its,n,r,r.length,e⟩
theorem yo{n:Nat}(h:n<=sizeLine):Builtin.List.listTooLong n=false:=by
 unfold Builtin.List.listTooLong;exact decide_eq_false (by omega)
end
section
variable{X:Cx}
def AX:V->List V->Hp->VK->Prop:=fun x vs H Q=>∃l xs y,x=.ref l/\vs=[y]/\H l=some (.lst xs)/\xs.length<sizeLine/\Q .non (upd H l (.lst (xs++[y])))
theorem pV:KJ X "list.append" AX:=by
 intro pins s σ H x vs v us Q I rx rv h;obtain⟨l,xs,y,rfl,rfl,hH,hz,q⟩:=h;cases rx;obtain⟨u,rfl,ru⟩:=rv.one;obtain⟨z,its,n,r,hl,e⟩:=I.lstM hH;refine call_meets F.slot_list_append ⟨_,e,rfl⟩ F.entry_list_append (F.args_list_append_2 _ _) (PySem.list_append l its.toArray n u (by rw[List.size_toArray];omega)) ⟨e,?_⟩;refine⟨.non,_,I.lset (its':=its++[u]) hH e (by simp) (r.append (.cons ru .nil)) ?_,rfl,q⟩;rw[List.length_append,List.length_singleton];omega
end
end L2
namespace Att
open PySem PySem.W PySem.Calls PyProof.Rows
theorem lG{P:Params}{h:Heap}:∀(ns:List Int) (vs:List Value),WellAll P h vs (ns.map WData.int)->IntsAre vs ns:=by
 intro ns
 induction ns with
 |nil=>
  intro vs w;rw[List.map_nil]at w;cases w;exact .nil
 |cons n ns ih=>
  intro vs w;rw[List.map_cons]at w;cases w with
  |cons a b=>
   cases a;exact .cons _ _ (ih _ b)
theorem wq{l:OpenLaw}{n:Nat}(hn:l.most=some n){P:Params}{h:Heap}{args:List WData}{vals:List Value}
  (hpre:l.row.toRowW.claim.pre args=true) (hwl:WellAll P h vals args) :
  ∃a vs ns,vals=[Value.ref a]/\args=[WData.list (ns.map WData.int)]/\h.get? a=some { cls:=.type "list",data:=.seq vs.toArray }/\IntsAre vs ns/\ns.length<=n:=by
 have hsh:WShape.hasAll [] args [.list .int]=true:=(pre_splitW hpre).1;have hc:l.pre.holds [] { args:=args }=true:=(pre_splitW hpre).2;obtain⟨d,r,rfl,h1,h2⟩:=hasAllW_cons hsh;obtain rfl:=hasAllW_nil h2;obtain⟨xs,rfl,h3⟩:=hasW_list h1;obtain⟨ns,rfl⟩:=items_int h3;have hlen:ns.length<=n:=by
  unfold OpenLaw.pre at hc;have h4:(WTm.not (.lt (.lit (.int (n:Int))) (.len (.arg 0)))).holds [] { args:=[.list (ns.map .int)] }=true:=by
   have h4:=(holds_andW hc).1;rw[hn]at h4;exact h4
  have h5:=condW_of h4 (w_not (w_lt w_lit (w_len_list (w_arg rfl))));rw[List.length_map]at h5;refine Nat.le_of_not_lt fun q=>?_
  have q':(n:Int)<((ns.length:Nat):Int):=by omega
  first
   | (rw[decide_eq_true q']at h5;exact absurd h5 (by decide))
   | (simp at h5;omega)
 cases hwl with
 |cons w1 w2=>
  cases w2;cases w1 with
  |list ho hall=>exact⟨_,_,ns,rfl,rfl,ho,lG ns _ hall,hlen⟩
theorem wy(l:OpenLaw)(args:List WData):l.row.toRowW.claim.post args (.bool true) args=true:=
 postW_of (r:=l.row.toRowW) (X:=(true==true))
  (show WShape.has [] (.bool true) .bool=true by first|rfl|decide|simp[WShape.has,WShape.arms,WShape.armsAll])
  (show(WTm.eq .res (.lit (.bool true))).value [] { args:=args,res:=some (.bool true),after:=args }=some (.bool (true==true))from w_eq_bool (w_res rfl) w_lit) rfl
theorem tK{l:OpenLaw}{n:Nat}{q:Program}{loose:List Str}{XP:(Str->Option Value)->Heap->Prop}{YP:World->Heap->Prop}{d:DefRec}
  (hn:l.most=some n) (hdf:d.params.defaults=[])
  (call:∀(w:World) (s₀ s₁:Shared) (mg mb:Str->Option Value) (fa:Addr) (o:Obj) (pm cd doc:Value) (a:Addr) (vs:List Value) (ns:List Int),
   Ground q loose [] XP w s₀ mg mb s₁.heap->YP w s₁.heap ->
   s₁.heap.get? fa=some o->o.data=.func (docDef d.name d.params d.body d.scope pm cd doc)->s₁.heap.CodeRec cd d.name->mg d.name=some (.ref fa) ->
   s₁.heap.get? a=some { cls:=.type "list",data:=.seq vs.toArray }->IntsAre vs ns->ns.length<=n->s₁.gens = #[] ->
   codeAny (model l.prog w) callerA (.call (.ref fa) ⟨[.ref a],[]⟩) (fun r s'=>r=.ok (.ret (.bool true))/\OldK s₁.heap s'.heap/\s'.os=s₁.os/\AllBare s'.gens) s₁) :
  WalkO q loose XP YP l.row.toRowW d [] (fun f vs=>PySem.call f vs):=by
 intro w s₀ s₁ mg mb G Y fa o pm cd doc dV kV ho hd hcd hD hmg hg args vals as hpre hlay hrd hwl hlo;obtain rfl:dV=.none:=Dflts.none hD hdf;obtain rfl:kV=.none:=Dflts.noKw hD;obtain⟨a,vs,ns,rfl,rfl,hobj,hints,hlen⟩:=wq hn hpre hwl;refine enter_call (codeAny_mono (call w s₀ s₁ mg mb fa o pm cd doc a vs ns G Y ho (fd_plain hd) hcd hmg hobj hints hlen hg) fun r s' hq=>?_)
 obtain⟨rfl,h2,h3,h4⟩:=hq;exact⟨.inl ⟨.bool true,.bool true,[],rfl,fun _=>rfl,.bool true,wy l _,fun _=>⟨List.Pairwise.nil,fun _ hm=>(nomatch hm)⟩⟩,h2,h3,h4⟩
section
variable{prog:Program}{w:World}{A:Around}{E:Value->Shared->Prop}{s:Shared}{K:Frag}
noncomputable def JI(h:Heap)(L d:Addr):List (Addr×Obj):=(List.range h.objs.size).filterMap fun a=>if a=L\/a=d then none else(h.get? a).map fun o=>(a,o)
end
end Att
namespace L2
open PySem PySem.Spec PyProof.Rows
theorem da:∀{vs:List Value} {ns:List Int},IntsAre vs ns->Vals (ns.map V.int) vs
 |_,_,.nil=>.nil
 |_,_,.cons n t h=>.cons ⟨t,rfl⟩ (da h)
def FU(H:Hp):Prop:=∀b,H b=none\/∃o xs,H b=some (.frz o (.lst xs))
theorem yI{P:Program}{w:World}{K:PySem.W.Frag}{mg mb:Str->Option Value}{CX:v5}{k:Nat}{fa a:Addr}{fd:FuncData}{x:Str}{sp:Sp}{s₁:Shared}{vs:List Value}{ns:List Int}
  (KX:K.In s₁.heap) (hns:s₁.heap.Ns mainGlobals mg) (hb:s₁.heap.Ns builtinsNs mb) (hbb:∀x:Str,x ≠ "__name__" -> mb x=bootBuiltins x) (hlim:s₁.heap.NoLimit) (hg:s₁.gens = #[])
  (ha:s₁.heap.get? a=some { cls:=.type "list",data:=.seq vs.toArray }) (hi:IntsAre vs ns) (hl:ns.length<=sizeLine) (hr:Room k callerA)
  (F:∀base:Heap,K.In base->base.Ns mainGlobals mg->FnOk P w K mg base CX k fa fd [x] sp) (hbind:∀(s:Shared) (u:Value),BindsTo s fd ⟨[u],[]⟩ [(x,u)])
  (hsp:∀H:Hp,FU H->SqL K H a (ns.map V.int)->sp [.ref a] H (fun v _=>v=.bl true) fun _ _ _=>False)
  (hCX:∀H e s',CX [] H s₁ (fun _ _ _=>False) e s'->False) :
  codeAny (model P w) callerA (.call (.ref fa) ⟨[.ref a],[]⟩) (fun r s'=>r=.ok (.ret (.bool true))/\OldK s₁.heap s'.heap/\s'.os=s₁.os/\AllBare s'.gens) s₁:=by
 have rv:=da hi;have lenV:=hi.length;have core:∀H:Hp,FU H->SqL K H a (ns.map V.int)->HOk P w H s₁.heap->(∀b,H b≠none->b=a)->(H a≠none->K.lookup a=none) ->
   codeAny (model P w) callerA (.call (.ref fa) ⟨[.ref a],[]⟩) (fun r s'=>r=.ok (.ret (.bool true))/\OldK s₁.heap s'.heap/\s'.os=s₁.os/\AllBare s'.gens) s₁:=by
  intro H hO hS hok hA hK;have base_of:∀{b:Addr} {o:Obj},s₁.heap.get? b=some o->H b=none->(qZ s₁.heap H).get? b=some o:=fun e n=>zd e n
  have noA:∀{b:Addr} {o:Obj} {es:Array DictEntry} {ep:Nat},s₁.heap.get? b=some o->o.data=.dict es ep->H b=none:=fun{b o es ep} e d=>by
   cases q:H b with
   |none=>rfl
   |some u=>
    have e':b=a:=hA b (by rw[q];simp);subst e';rw[ha]at e;cases e;have d':Data.seq vs.toArray _=Data.dict es ep:=d;cases d'
  have nsK:∀{b:Addr} {m:Str->Option Value},s₁.heap.Ns b m->(qZ s₁.heap H).Ns b m:=fun{b m} ⟨o,es,ep,e,d,r⟩=>⟨o,es,ep,base_of e (noA e d),d,r⟩
  have hKb:K.In (qZ s₁.heap H):=fun b o e=>base_of (KX b o e) (by
   cases q:H b with
   |none=>rfl
   |some u=>
    have e':b=a:=hA b (by rw[q];simp);subst e';rw[hK (by rw[q];simp)]at e;cases e)
  have hM:Mod K mg (qZ s₁.heap H):=⟨hKb,nsK hns,⟨mb,nsK hb,hbb⟩,let ⟨mc,h1,h2⟩:=hlim; ⟨mc,nsK h1,h2⟩⟩;have e0:Env0 P w K mg (qZ s₁.heap H) callerA [] s₁ H:=⟨rfl,hM,fun b o e=>Bk e,Nat.le_of_eq (wU _ _),trivial,fun b hb=>absurd (show b∈([]:List Addr)from hb) (by simp),hok,.of_eq hg⟩
  refine codeAny_mono ((F _ hKb (nsK hns)).run callerA [] s₁ H ⟨[.ref a],[]⟩ [.ref a] [.ref a] _ _ hr e0 (hbind s₁ (.ref a)) (.cons rfl .nil) (hsp H hO hS)) fun r s' h=>?_
  cases r with
  |error e=>exact(hCX H e s' h).elim
  |ok fl=>
   cases fl with
   |next=>exact False.elim h
   |brk=>exact False.elim h
   |cont=>exact False.elim h
   |ret u=>
    obtain⟨v,H',os,bare,un,hok',r',q⟩:=h;have q':v=.bl true:=q;subst q';obtain rfl:u=Value.bool true:=r';refine⟨rfl,OldK.of_keep fun b o e=>?_,os,bare⟩
    cases q:H b with
    |none=>exact un.keep b o e q (by intro z;exact absurd (show b∈([]:List Addr)from z) (by simp)) (by simp)
    |some u=>
     rcases hO b with z|⟨ob,xs,z⟩
     ·rw[q]at z;cases z
     ·have z2:=un.frzs b ob _ z
      obtain⟨e1,_⟩:=hok b _ z;obtain⟨e2,_⟩:=hok' b _ z2;rw[e]at e1;cases e1;exact e2
 cases hk:K.lookup a with
 |some o=>
  have e:=KX a o hk;rw[ha]at e;cases e;refine core (fun _=>none) (fun _=>.inl rfl) (.inr ⟨_,vs.toArray,_,hk,rfl,rfl,rfl,by rw[List.size_toArray,lenV];exact hl,by simpa using rv⟩) (fun b u z=>by have z':(none:Option HO)=some u:=z;cases z') (fun b z=>absurd rfl z) fun z=>absurd rfl z
 |none=>
  refine core (fun b=>if b=a then some (.frz { cls:=.type "list",data:=.seq vs.toArray } (.lst (ns.map V.int)))else none) (fun b=>?_) (.inl (.inr ⟨{ cls:=.type "list",data:=.seq vs.toArray },if_pos rfl⟩)) (fun b u z=>?_) (fun b z=>?_) fun _=>hk
  ·by_cases hb:b=a
   ·exact .inr ⟨_,_,if_pos hb⟩
   ·exact .inl (if_neg hb)
  ·by_cases hb:b=a
   ·have z':=(if_pos hb).symm.trans z
    cases z';subst hb;exact⟨ha,by rw[List.length_map];exact hl,vs,_,rv,ha⟩
   ·have z':=(if_neg hb).symm.trans z
    cases z'
  ·by_cases hb:b=a
   ·exact hb
   ·exact absurd (if_neg hb) z
abbrev Lm{K:PySem.W.Frag}{h:Heap}(_:K.In h):PySem.W.Frag:=K
theorem Au{l:PySem.W.OpenLaw}{n k:Nat}{q:Program}{loose:List Str}{XP:(Str->Option Value)->Heap->Prop}{YP:World->Heap->Prop}{d:DefRec}{K:Params->PySem.W.Frag}{CX:World->v5}{sp:World->Sp}{x:Str}
  (hn:l.most=some n) (hn2:n<=sizeLine) (hdf:d.params.defaults=[]) (hr:Room k callerA)
  (hY:∀(w:World) (h:Heap),YP w h->(K w.params).In h)
  (F:∀(w:World) (mg:Str->Option Value) (fa:Addr) (h:Heap),(K w.params).In h->h.Ns mainGlobals mg->mg d.name=some (.ref fa) ->
   ∃fd:FuncData,(∀(s:Shared) (u:Value),BindsTo s fd ⟨[u],[]⟩ [(x,u)]) /\
    ∀base:Heap,(K w.params).In base->base.Ns mainGlobals mg->FnOk l.prog w (K w.params) mg base (CX w) k fa fd [x] (sp w))
  (hsp:∀(w:World) (H:Hp) (a:Addr) (ns:List Int),ns.length<=n->FU H->SqL (K w.params) H a (ns.map V.int)->sp w [.ref a] H (fun v _=>v=.bl true) fun _ _ _=>False)
  (hCX:∀(w:World) (H:Hp) (s:Shared) (e:Value) (s':Shared),CX w [] H s (fun _ _ _=>False) e s'->False) :
  PySem.W.WalkO q loose XP YP l.row.toRowW d [] (fun f vs=>PySem.call f vs):=by
 refine Att.tK hn hdf fun w s₀ s₁ mg mb fa o pm cd doc a vs ns G Y ho hd hcd hmg hobj hints hlen hg=>?_
 have KX:=hY w _ Y;obtain⟨fd,hb,hF⟩:=F w mg fa _ KX G.T.g hmg;exact yI KX G.T.g G.T.b G.T.builtins G.T.nolimit hg hobj hints (Nat.le_trans hlen hn2) hr hF hb (fun H hO hS=>hsp w H a ns hlen hO hS) fun H e s'=>hCX w H s₁ e s'
noncomputable def eI(s:Stmt):Arguments:=match s with
 |.FunctionDef _ a _ _ _ _ _ _ _ _=>a
 |_=>{ posonlyargs:=[],args:=[],vararg:=none,kwonlyargs:=[],kw_defaults:=[],kwarg:=none,defaults:=[] }
noncomputable def cx(s:Stmt):List Stmt:=match s with
 |.FunctionDef _ _ b _ _ _ _ _ _ _=>b
 |_=>[]
noncomputable def ag(s:Stmt):Scope:=match s with
 |.FunctionDef _ _ _ _ _ _ sc _ _ _=>sc
 |_=>{ kind:=.function,names:=[],isGenerator:=false,isCoroutine:=false }
abbrev dE:v5:=fun _ _ _ _ _ _=>False
abbrev E0:XK:=fun _ _ _=>False
theorem pS{X:Cx}:jo dE X E0:=fun _ _ _ _ _ _ _ h=>h.elim
def Same(H H':Hp):Prop:=∀b o,H b=some o->H' b=some o
theorem Same.refl(H:Hp):Same H H:=fun _ _ h=>h
theorem Same.trans{H H1 H2:Hp}(a:Same H H1)(b:Same H1 H2):Same H H2:=fun c o h=>b c o (a c o h)
end L2
set_option maxHeartbeats 4000000
namespace VL
open PySem L2
abbrev D:=PyData
inductive Oc where
 |l (ds:List D)|d (es:List (ao×D))
inductive Sl where
 |un|fz (d:D)|own (c:Oc)|fr (ds:List D)
abbrev Sl.ow(ds:List D):Sl:=.own (.l ds)
abbrev Sl.od(es:List (ao×D)):Sl:=.own (.d es)
noncomputable def vC:ao->D
 |.inl i=>.int i
 |.inr x=>.str x
noncomputable def nJ(n:Str)(ds:List (Str×D)):List (D×D):=(.str "ins",.str n)::ds.map fun q=>(.str q.1,q.2)
abbrev insD(n:Str)(ds:List (Str×D)):D:=.dict (nJ n ds)
noncomputable def ie(es:List (ao×Int)):List (D×D):=es.map fun p=>(vC p.1,.int p.2)
abbrev Dv:=List Sl
inductive Fl where
 |nx|bk|ct|rt (d:D)
abbrev Sf:=Dv->Option (Fl×Dv)
@[simp] noncomputable def o2(f1 f2:Dv->Option D)(g:D->D->Option D):Dv->Option D:=fun δ=>(f1 δ).bind fun x=>(f2 δ).bind fun y=>g x y
@[simp] noncomputable def o1(f:Dv->Option D)(g:D->Option D):Dv->Option D:=fun δ=>(f δ).bind g
@[simp] noncomputable def os(f:Dv->Option (List D))(g:List D->Option D):Dv->Option D:=fun δ=>(f δ).bind g
noncomputable def asB:D->Option Bool
 |.bool b=>some b
 |_=>none
@[simp] theorem HZ(b:Bool):asB (.bool b)=some b:=rfl
@[simp] noncomputable def ob(f:Dv->Option D):Dv->Option Bool:=fun δ=>(f δ).bind asB
@[simp] noncomputable def gK(t u:Dv->Option Bool):Dv->Option Bool:=fun δ=>(t δ).bind fun b=>if b=true then u δ else some false
@[simp] noncomputable def Iu(t u:Dv->Option Bool):Dv->Option Bool:=fun δ=>(t δ).bind fun b=>if b=true then some true else u δ
@[simp] noncomputable def pd(t:Dv->Option Bool):Dv->Option Bool:=fun δ=>(t δ).map (!·)
@[simp] noncomputable def ym(f1 f2:Dv->Option D):Dv->Option D:=fun δ=>(f1 δ).bind fun x=>(asB x).bind fun b=>if b=true then f2 δ else some (.bool false)
@[simp] noncomputable def K6(f1 f2:Dv->Option D):Dv->Option D:=fun δ=>(f1 δ).bind fun x=>(asB x).bind fun b=>if b=true then some (.bool true)else f2 δ
@[simp] noncomputable def Bl(d:D):Option D:=(asB d).map fun b=>.bool (!b)
@[simp] noncomputable def Ll(t:Dv->Option Bool)(f1 f2:Dv->Option D):Dv->Option D:=fun δ=>(t δ).bind fun b=>if b=true then f1 δ else f2 δ
noncomputable def Im:Option Sl->Option D
 |some (.fz d)=>some d
 |some (.fr ds)=>some (.list ds)
 |_=>none
@[simp] theorem Jg(ds:List D):Im (some (.fr ds))=some (.list ds):=rfl
@[simp] theorem Dp(d:D):Im (some (.fz d))=some d:=rfl
@[simp] noncomputable def oV(i:Nat):Dv->Option D:=fun δ=>Im δ[i]?
@[simp] noncomputable def oC(d:D):Dv->Option D:=fun _=>some d
@[simp] noncomputable def aE:Dv->Option (List D):=fun _=>some []
@[simp] noncomputable def ae(f:Dv->Option D)(fs:Dv->Option (List D)):Dv->Option (List D):=fun δ=>(f δ).bind fun x=>(fs δ).bind fun xs=>some (x::xs)
noncomputable def cT(ds:List D):Option D:=if ds.length<=sizeLine then some (.tuple ds)else none
noncomputable def gO(ds:List D):Option D:=if ds.length<=sizeLine then some (.list ds)else none
theorem lT{ds:List D}(h:ds.length<=16777216):cT ds=some (.tuple ds):=if_pos h
theorem qQ{ds:List D}(h:ds.length<=16777216):gO ds=some (.list ds):=if_pos h
@[simp] theorem Kk:cT []=some (.tuple []):=rfl
@[simp] theorem Kj(a b:D):cT [a,b]=some (.tuple [a,b]):=lT (by simp)
@[simp] theorem Ki(a b c:D):cT [a,b,c]=some (.tuple [a,b,c]):=lT (by simp)
@[simp] theorem KB:gO []=some (.list []):=rfl
@[simp] theorem Kz(a b:D):gO [a,b]=some (.list [a,b]):=qQ (by simp)
@[simp] theorem Ky(a b c:D):gO [a,b,c]=some (.list [a,b,c]):=qQ (by simp)
@[simp] theorem Kx(a b c d:D):gO [a,b,c,d]=some (.list [a,b,c,d]):=qQ (by simp)
instance (i j:Int):Decidable (IntMulOk i j):=by unfold IntMulOk;infer_instance
noncomputable def iI(g:Int->Int->Int):D->D->Option D
 |.int i,.int j=>some (.int (g i j))
 |_,_=>none
noncomputable def iC(C:Int->Int->Bool)(g:Int->Int->Int):D->D->Option D
 |.int i,.int j=>if C i j=true then some (.int (g i j))else none
 |_,_=>none
noncomputable def iB(g:Int->Int->Bool):D->D->Option D
 |.int i,.int j=>some (.bool (g i j))
 |_,_=>none
@[simp] theorem JP(g:Int->Int->Int)(i j:Int):iI g (.int i) (.int j)=some (.int (g i j)):=rfl
@[simp] theorem JQ(g:Int->Int->Bool)(i j:Int):iB g (.int i) (.int j)=some (.bool (g i j)):=rfl
theorem nM{C:Int->Int->Bool}{g:Int->Int->Int}{i j:Int}(h:C i j=true):iC C g (.int i) (.int j)=some (.int (g i j)):=if_pos h
noncomputable def JZ(i j:Int):Bool:=decide (IntMulOk i j)
noncomputable def J1(i j:Int):Bool:=decide (0<j/\j<1073741824)
noncomputable def J0(i j:Int):Bool:=decide (0<j)
noncomputable def JY(i j:Int):Bool:=decide (0<=j/\j<=1000000/\i.natAbs<2^64)
noncomputable def JX(i j:Int):Bool:=decide (0<=j/\(Builtin.Int.intBits i:Int)+j<=2^27)
abbrev wa:=iI fun i j=>i-j
abbrev nc:=iC JZ fun i j=>i*j
abbrev pv:=iC J1 fun i j=>i/j
abbrev df:=iC J0 fun i j=>i%j
abbrev A7:=iC JY fun i j=>i^j.toNat
abbrev h7:=iC JX fun i j=>i*2^j.toNat
abbrev H9:=iI Builtin.bitAnd
abbrev fS:=iI Builtin.bitXor
abbrev Iw:=iB fun i j=>decide (i<j)
abbrev BP:=iB fun i j=>decide (j<i)
@[simp] theorem yu{i j:Int}(h:IntMulOk i j):nc (.int i) (.int j)=some (.int (i*j)):=nM (decide_eq_true h)
@[simp] theorem HN{i j:Int}(h:0<j)(h2:j<1073741824):pv (.int i) (.int j)=some (.int (i/j)):=nM (decide_eq_true ⟨h,h2⟩)
@[simp] theorem jR{i j:Int}(h:0<j):df (.int i) (.int j)=some (.int (i%j)):=nM (decide_eq_true h)
@[simp] theorem GU{i j:Int}(h:0<=j)(h2:j<=1000000)(h3:i.natAbs<2^64):A7 (.int i) (.int j)=some (.int (i^j.toNat)):=nM (decide_eq_true ⟨h,h2,h3⟩)
theorem xJ{i j:Int}(h:0<=j)(h2:(Builtin.Int.intBits i:Int)+j<=2^27):h7 (.int i) (.int j)=some (.int (i*2^j.toNat)):=nM (decide_eq_true ⟨h,h2⟩)
noncomputable def negD:D->Option D
 |.int i=>some (.int (-i))
 |_=>none
@[simp] theorem Hb(i:Int):negD (.int i)=some (.int (-i)):=rfl
noncomputable def br:D->D->Option D
 |.int i,.int j=>some (.int (i+j))
 |.str x,.str y=>if x.length+y.length<=sizeLine then some (.str (x++y))else none
 |.list xs,.list ys=>if xs.length+ys.length<=sizeLine then some (.list (xs++ys))else none
 |.tuple xs,.tuple ys=>if xs.length+ys.length<=sizeLine then some (.tuple (xs++ys))else none
 |_,_=>none
@[simp] theorem Ia(i j:Int):br (.int i) (.int j)=some (.int (i+j)):=rfl
theorem xg{xs ys:List D}(h:xs.length+ys.length<=16777216):br (.list xs) (.list ys)=some (.list (xs++ys)):=if_pos h
theorem oG{xs ys:List D}(h:xs.length+ys.length<=16777216):br (.tuple xs) (.tuple ys)=some (.tuple (xs++ys)):=if_pos h
noncomputable def xh(d:D):Bool:=PySem.SeqAt.shaped d
noncomputable def bT:D->D->Option D:=fun a b=>if xh a=true/\xh b=true then some (.bool (PyData.eqv a b))else none
noncomputable def neD:D->D->Option D:=fun a b=>if xh a=true/\xh b=true then some (.bool (!PyData.eqv a b))else none
@[simp] theorem IG(i j:Int):bT (.int i) (.int j)=some (.bool (i==j)):=rfl
@[simp] theorem Iv(i j:Int):neD (.int i) (.int j)=some (.bool (!(i==j))):=rfl
@[simp] theorem HL(i j:Bool):bT (.bool i) (.bool j)=some (.bool (i==j)):=rfl
@[simp] theorem He(i j:Bool):neD (.bool i) (.bool j)=some (.bool (!(i==j))):=rfl
noncomputable def F7(d:D):Bool:=match d with
 |.none=>true
 |_=>false
noncomputable def K7:D->D->Option D:=fun a b=>match b with
 |.none=>some (.bool (F7 a))
 |_=>none
noncomputable def Ht:D->D->Option D:=fun a b=>match b with
 |.none=>some (.bool (!F7 a))
 |_=>none
@[simp] theorem Hv(a:D):K7 a .none=some (.bool (F7 a)):=rfl
@[simp] theorem Fm(a:D):Ht a .none=some (.bool (!F7 a)):=rfl
@[simp] theorem Hu:F7 .none=true:=rfl
@[simp] theorem IA(i:Int):F7 (.int i)=false:=rfl
noncomputable def aW:D->D->Option D
 |.list xs,.int i=>hX xs i
 |.tuple xs,.int i=>hX xs i
 |_,_=>none
@[simp] theorem Hq(xs:List D)(i:Int):aW (.list xs) (.int i)=hX xs i:=rfl
@[simp] theorem F5(xs:List D)(i:Int):aW (.tuple xs) (.int i)=hX xs i:=rfl
theorem oE{α:Type}{xs:List α}{i:Int}{j:Nat}{v:α}(hi:i=j)(h:xs[j]? = some v):hX xs i=some v:=by
 have hl:j<xs.length:=(List.getElem?_eq_some_iff.mp h).1;subst hi;unfold hX nC;rw[if_pos (by omega),if_pos (by omega)];simpa using h
@[simp] theorem J5{α:Type}(a:α)(r:List α):hX (a::r) 0=some a:=oE (j:=0) rfl rfl
@[simp] theorem J4{α:Type}(a b:α)(r:List α):hX (a::b::r) 1=some b:=oE (j:=1) rfl rfl
@[simp] theorem KH{α:Type}(a b c:α)(r:List α):hX (a::b::c::r) 2=some c:=oE (j:=2) rfl rfl
noncomputable def lE:List D->Option D
 |[.list xs]=>some (.int xs.length)
 |[.tuple xs]=>some (.int xs.length)
 |_=>none
@[simp] theorem F4(xs:List D):lE [.list xs]=some (.int xs.length):=rfl
@[simp] theorem E5(xs:List D):lE [.tuple xs]=some (.int xs.length):=rfl
noncomputable def Ju:List D->Option D
 |[.int i,.int j]=>some (.int (if j<i then j else i))
 |_=>none
noncomputable def Jv:List D->Option D
 |[.int i,.int j]=>some (.int (if j>i then j else i))
 |_=>none
@[simp] theorem Hg(i j:Int):Ju [.int i,.int j]=some (.int (if j<i then j else i)):=rfl
@[simp] theorem Hh(i j:Int):Jv [.int i,.int j]=some (.int (if j>i then j else i)):=rfl
noncomputable def Hy:List D->Option D
 |[.int i]=>some (.int i)
 |[.bool b]=>some (.int (if b then 1 else 0))
 |_=>none
@[simp] theorem Hx(i:Int):Hy [.int i]=some (.int i):=rfl
@[simp] theorem F9(b:Bool):Hy [.bool b]=some (.int (if b then 1 else 0)):=rfl
noncomputable def CL:List D->Option D
 |[.list xs]=>some (.list xs)
 |[.tuple xs]=>some (.list xs)
 |_=>none
@[simp] theorem E4(xs:List D):CL [.list xs]=some (.list xs):=rfl
@[simp] theorem CK(xs:List D):CL [.tuple xs]=some (.list xs):=rfl
noncomputable def f6:List D->Option D
 |[.list xs]=>some (.tuple xs)
 |[.tuple xs]=>some (.tuple xs)
 |_=>none
@[simp] theorem Cs(xs:List D):f6 [.list xs]=some (.tuple xs):=rfl
@[simp] theorem Aw(xs:List D):f6 [.tuple xs]=some (.tuple xs):=rfl
noncomputable def HX:D->Option D
 |.int i=>some (.int (Builtin.Int.intBits i))
 |_=>none
@[simp] theorem Ga(i:Int):HX (.int i)=some (.int (Builtin.Int.intBits i)):=rfl
noncomputable def tyN:D->String
 |.none=>"NoneType"
 |.bool _=>"bool"
 |.int _=>"int"
 |.str _=>"str"
 |.list _=>"list"
 |.tuple _=>"tuple"
 |.dict _=>"dict"
noncomputable def Fo(t T:String):Bool:=t==T||(t == "bool" && T == "int")
noncomputable def vE:D->Bool
 |.dict _=>true
 |_=>false
noncomputable def fT(T:String)(d:D):Option D:=if vE d=true then none else if T = "int" \/ T = "bool" \/ T = "str" \/ T = "list" \/ T = "tuple" then some (.bool (Fo (tyN d) T))else none
@[simp] theorem CU(i:Int):fT "int" (.int i)=some (.bool true):=rfl
@[simp] theorem BN(i:Int):fT "bool" (.int i)=some (.bool false):=rfl
@[simp] theorem BM(i:Bool):fT "int" (.bool i)=some (.bool true):=rfl
@[simp] theorem Ah(i:Bool):fT "bool" (.bool i)=some (.bool true):=rfl
@[simp] theorem xj(xs:List D):fT "tuple" (.tuple xs)=some (.bool true):=rfl
@[simp] theorem Ag(xs:List D):fT "list" (.list xs)=some (.bool true):=rfl
@[simp] noncomputable def eM(f:Dv->Option D):Sf:=fun δ=>(f δ).bind fun d=>some (.rt d,δ)
@[simp] noncomputable def cA(i:Nat)(f:Dv->Option D):Sf:=fun δ=>(f δ).bind fun d=>some (.nx,δ.set i (.fz d))
@[simp] noncomputable def Ku(f:Dv->Option D):Sf:=fun δ=>(f δ).bind fun _=>some (.nx,δ)
@[simp] noncomputable def oX:Sf:=fun δ=>some (.nx,δ)
@[simp] noncomputable def Lh:Sf:=fun δ=>some (.bk,δ)
@[simp] noncomputable def Lg:Sf:=fun δ=>some (.ct,δ)
@[simp] noncomputable def aq(s t:Sf):Sf:=fun δ=>(s δ).bind fun r=>match r with
 | (.nx,δ')=>t δ'
 |r=>some r
@[simp] noncomputable def b5(t:Dv->Option Bool)(u w:Sf):Sf:=fun δ=>(t δ).bind fun c=>if c=true then u δ else w δ
noncomputable def B8(i:Nat)(δ:Dv):Dv:=match δ[i]? with
 |some (.own (.l ds))=>δ.set i (.fz (.list ds))
 |_=>δ
@[simp] noncomputable def gN(i:Nat):D->Dv->Option Dv:=fun d δ=>some (δ.set i (.fz d))
noncomputable def loop(g:D->Dv->Option Dv)(b:Sf):List D->Sf
 |[],δ=>some (.nx,δ)
 |d::ds,δ=>(g d δ).bind fun δ1=>(b δ1).bind fun r=>match r with
  | (.nx,δ2)=>loop g b ds δ2
  | (.ct,δ2)=>loop g b ds δ2
  | (.bk,δ2)=>some (.nx,δ2)
  | (.rt x,δ2)=>some (.rt x,δ2)
@[simp] theorem Hk(g:D->Dv->Option Dv)(b:Sf)(δ:Dv):loop g b [] δ = some (.nx,δ):=rfl
@[simp] noncomputable def ub(f:Dv->Option (List D))(g:D->Dv->Option Dv)(b:Sf):Sf:=fun δ=>(f δ).bind fun ds=>loop g b ds δ
noncomputable def wv(lo:Int)(n:Nat):List D:=(List.range n).map fun k=>.int (lo+(k:Nat))
noncomputable def fH:List D->Option (List D)
 |[.int j]=>if j<2^62 /\ -(2^62)<=j then some (wv 0 j.toNat)else none
 |_=>none
theorem ww{j:Int}(h:j<4611686018427387904)(h2:-4611686018427387904<=j):fH [.int j]=some (wv 0 j.toNat):=if_pos ⟨h,h2⟩
@[simp] noncomputable def oL(fs:Dv->Option (List D))(g:List D->Option (List D)):Dv->Option (List D):=fun δ=>(fs δ).bind g
noncomputable def dB:D->Option (List D)
 |.list xs=>some xs
 |.tuple xs=>some xs
 |_=>none
@[simp] theorem F6(xs:List D):dB (.list xs)=some xs:=rfl
@[simp] theorem Fk(xs:List D):dB (.tuple xs)=some xs:=rfl
noncomputable def yy:D->Option (List D)
 |.list xs=>some xs
 |_=>none
noncomputable def IS:D->Option (List D)
 |.tuple xs=>some xs
 |_=>none
@[simp] noncomputable def oI(f:Dv->Option D)(g:D->Option (List D)):Dv->Option (List D):=fun δ=>(f δ).bind g
@[simp] noncomputable def Lj:Dv->Option (Option Int):=fun _=>some none
noncomputable def asI:D->Option (Option Int)
 |.int i=>some (some i)
 |_=>none
@[simp] theorem II(i:Int):asI (.int i)=some (some i):=rfl
@[simp] noncomputable def oP(f:Dv->Option D):Dv->Option (Option Int):=fun δ=>(f δ).bind asI
noncomputable def tj(xs:List D)(lo hi:Option Int):List D:=(xs.drop (HT.sIx xs.length 0 lo)).take (HT.sIx xs.length xs.length hi-HT.sIx xs.length 0 lo)
noncomputable def FZ:D->Option Int->Option Int->Option D
 |.list xs,lo,hi=>some (.list (tj xs lo hi))
 |.tuple xs,lo,hi=>some (.tuple (tj xs lo hi))
 |_,_,_=>none
@[simp] noncomputable def Js(f:Dv->Option D)(l u:Dv->Option (Option Int)):Dv->Option D:=fun δ=>(f δ).bind fun x=>(l δ).bind fun i=>(u δ).bind fun j=>FZ x i j
noncomputable def az(N:List Str)(as:List D):Dv:=as.map .fz++List.replicate (N.length-as.length) .un
noncomputable def cD(N:List Str)(n:Nat)(b:Sf):List D->Option D:=fun as=>if as.length=n then(b (az N as)).bind fun r=>match r with
  | (.rt d,_)=>some d
  | (.nx,_)=>some .none
  |_=>none
 else none
end VL
namespace VL
open PySem PySem.Spec PyProof.Rows L2
abbrev Fg:=PySem.W.Frag
abbrev St:=L2.St
noncomputable def JW(a C:Addr):HO:=.ext fun h=>∃o,h.get? a=some o/\o.cls=.ref C/\∃vs,o.data=.fields vs/\vs[2]? = some .none
theorem Rd.same{H H':Hp}{a:Addr}{u:HO}(h:Rd H a u)(s:Same H H'):Rd H' a u:=by
 rcases h with h|⟨o,h⟩
 ·exact .inl (s _ _ h)
 ·exact .inr ⟨o,s _ _ h⟩
inductive FI (K:Fg) (Z:Hp):V->D->Prop
 |int (i:Int):FI K Z (.int i) (.int i)
 |pair {b:Addr} {i j:Int}:SqT K Z b [.int i,.int j]->FI K Z (.ref b) (.tuple [.int i,.int j])
inductive FF (K:Fg) (Z:Hp):V->D->Prop
 |int (i:Int):FF K Z (.int i) (.int i)
 |lst {b:Addr} {xs:List V} {ds:List D}:Z b=some (.lst xs)->Paired (FI K Z) xs ds->FF K Z (.ref b) (.list ds)
inductive Opq (K:Fg) (Z:Hp) (a:Addr):List (D×D)->Prop
 |exc {n:Str} {C:Addr}:PySem.W.nsIn K mainGlobals n=some (some (.ref C))->Rd Z a (JW a C)->Opq K Z a [(.str "exc",.str n)]
 |fn {n:Str}:PySem.W.nsIn K mainGlobals n=some (some (.ref a))->Opq K Z a [(.str "fn",.str n)]
 |ins {n:Str} {C dx:Addr} {fs:List (Str×V)} {ds:List (Str×D)}:PySem.W.nsIn K mainGlobals n=some (some (.ref C))->Z a=some (.ins C dx fs)->Paired (fun(p:Str×V) (q:Str×D)=>p.1=q.1/\FF K Z p.2 q.2) fs ds->Opq K Z a (nJ n ds)
 |dct {kvs:List (D×D)} {es:List (ao×Int)}:kvs=ie es->Z a=some (.dK (es.map fun p=>(p.1,V.int p.2)))->Opq K Z a kvs
theorem B7{es:List (ao×Int)}{a:D}{x:Str}{r:List (D×D)}(h:(a,PyData.str x)::r=ie es):False:=by
 cases es with
 |nil=>cases h
 |cons e es=>simp[ie]at h
theorem SqT.same{K:Fg}{H H':Hp}{a:Addr}{xs:List V}(h:SqT K H a xs)(s:Same H H'):SqT K H' a xs:=by
 rcases h with h|h
 ·exact .inl (Rd.same h s)
 ·exact .inr h
theorem FI.same{K:Fg}{Z Z':Hp}(s:Same Z Z'){v:V}{d:D}(h:FI K Z v d):FI K Z' v d:=by
 cases h with
 |int i=>exact .int i
 |pair q=>exact .pair (SqT.same q s)
theorem FF.same{K:Fg}{Z Z':Hp}(s:Same Z Z'){v:V}{d:D}(h:FF K Z v d):FF K Z' v d:=by
 cases h with
 |int i=>exact .int i
 |lst q r=>exact .lst (s _ _ q) (Paired.mapP r fun _ _=>FI.same s)
theorem Opq.same{K:Fg}{Z Z':Hp}{a:Addr}{kvs:List (D×D)}(s:Same Z Z')(h:Opq K Z a kvs):Opq K Z' a kvs:=by
 cases h with
 |exc h1 h2=>exact .exc h1 (Rd.same h2 s)
 |fn h1=>exact .fn h1
 |ins h1 h2 h3=>exact .ins h1 (s _ _ h2) (Paired.mapP h3 fun _ _ q=>⟨q.1,q.2.same s⟩)
 |dct h1 h2=>exact .dct h1 (s _ _ h2)
mutual
inductive Rep (K:Fg) (Z:Hp):V->D->Prop
 |non:Rep K Z .non .none
 |bl (b:Bool):Rep K Z (.bl b) (.bool b)
 |int (i:Int):Rep K Z (.int i) (.int i)
 |str (x:Str):Rep K Z (.str x) (.str x)
 |tup {a:Addr} {xs:List V} {ds:List D}:SqT K Z a xs->Reps K Z xs ds->Rep K Z (.ref a) (.tuple ds)
 |lst {a:Addr} {xs:List V} {ds:List D}:SqL K Z a xs->Reps K Z xs ds->Rep K Z (.ref a) (.list ds)
 |opq {a:Addr} {kvs:List (D×D)}:Opq K Z a kvs->Rep K Z (.ref a) (.dict kvs)
 |gdc {a:Addr} {kvs:List (ao×V)} {es:List (ao×D)} {l:List (D×D)}:Z a=some (.dK kvs)->es.map (·.1)=kvs.map (·.1)->Reps K Z (kvs.map (·.2)) (es.map (·.2))->l=es.map (fun p=>(vC p.1,p.2))->Rep K Z (.ref a) (.dict ((.none,.none)::l))
inductive Reps (K:Fg) (Z:Hp):List V->List D->Prop
 |nil:Reps K Z [] []
 |cons {v:V} {d:D} {vs:List V} {ds:List D}:Rep K Z v d->Reps K Z vs ds->Reps K Z (v::vs) (d::ds)
end
theorem SqL.same{K:Fg}{H H':Hp}{a:Addr}{xs:List V}(h:SqL K H a xs)(s:Same H H'):SqL K H' a xs:=by
 rcases h with h|h
 ·exact .inl (Rd.same h s)
 ·exact .inr h
mutual
theorem Rep.same{K:Fg}{Z Z':Hp}(s:Same Z Z'):∀{v:V} {d:D},Rep K Z v d->Rep K Z' v d
 |_,_,.non=>.non
 |_,_,.bl b=>.bl b
 |_,_,.int i=>.int i
 |_,_,.str x=>.str x
 |_,_,.tup h r=>.tup (SqT.same h s) (Reps.same s r)
 |_,_,.lst h r=>.lst (SqL.same h s) (Reps.same s r)
 |_,_,.opq h=>.opq (Opq.same s h)
 |_,_,.gdc h k r e=>.gdc (s _ _ h) k (Reps.same s r) e
theorem Reps.same{K:Fg}{Z Z':Hp}(s:Same Z Z'):∀{vs:List V} {ds:List D},Reps K Z vs ds->Reps K Z' vs ds
 |_,_,.nil=>.nil
 |_,_,.cons h r=>.cons (Rep.same s h) (Reps.same s r)
end
theorem Reps.length{K:Fg}{Z:Hp}:∀{vs:List V} {ds:List D},Reps K Z vs ds->vs.length=ds.length
 |_,_,.nil=>rfl
 |_,_,.cons _ r=>congrArg (· + 1) (Reps.length r)
theorem Reps.get{K:Fg}{Z:Hp}:∀{vs:List V} {ds:List D} {i:Nat} {d:D},Reps K Z vs ds->ds[i]? = some d->∃v,vs[i]? = some v/\Rep K Z v d
 |_,_,_,_,.nil,e=>by simp at e
 |_,_,0,_,.cons r _,e=>by simp at e;subst e;exact⟨_,rfl,r⟩
 |_,_,i+1,d,.cons _ t,e=>by
  obtain⟨u,h1,h2⟩:=Reps.get (i:=i) (d:=d) t (by simpa using e);exact⟨u,by simpa using h1,h2⟩
theorem Reps.getV{K:Fg}{Z:Hp}:∀{vs:List V} {ds:List D} {i:Nat} {v:V},Reps K Z vs ds->vs[i]? = some v->∃d,ds[i]? = some d/\Rep K Z v d
 |_,_,_,_,.nil,e=>by simp at e
 |_,_,0,_,.cons r _,e=>by simp at e;subst e;exact⟨_,rfl,r⟩
 |_,_,i+1,v,.cons _ t,e=>by
  obtain⟨u,h1,h2⟩:=Reps.getV (i:=i) (v:=v) t (by simpa using e);exact⟨u,by simpa using h1,h2⟩
theorem Reps.set{K:Fg}{Z:Hp}{x:V}{u:D}(r:Rep K Z x u):∀{xs:List V} {us:List D} (i:Nat),Reps K Z xs us->Reps K Z (xs.set i x) (us.set i u)
 |_,_,_,.nil=>.nil
 |_,_,0,.cons _ t=>.cons r t
 |_,_,i+1,.cons q t=>.cons q (Reps.set r i t)
theorem Reps.append{K:Fg}{Z:Hp}:∀{xs ys:List V} {us ws:List D},Reps K Z xs us->Reps K Z ys ws->Reps K Z (xs++ys) (us++ws)
 |_,_,_,_,.nil,s=>s
 |_,_,_,_,.cons r t,s=>.cons r (Reps.append t s)
theorem Reps.take{K:Fg}{Z:Hp}:∀{xs:List V} {us:List D} (n:Nat),Reps K Z xs us->Reps K Z (xs.take n) (us.take n)
 |_,_,0,_=>.nil
 |_,_,_+1,.nil=>.nil
 |_,_,n+1,.cons r t=>.cons r (Reps.take n t)
theorem Reps.drop{K:Fg}{Z:Hp}:∀{xs:List V} {us:List D} (n:Nat),Reps K Z xs us->Reps K Z (xs.drop n) (us.drop n)
 |_,_,0,r=>r
 |_,_,_+1,.nil=>.nil
 |_,_,n+1,.cons _ t=>Reps.drop n t
theorem Rep.int_eq{K:Fg}{Z:Hp}{v:V}{i:Int}(h:Rep K Z v (.int i)):v=.int i:=by cases h;rfl
theorem Rep.bl_eq{K:Fg}{Z:Hp}{v:V}{b:Bool}(h:Rep K Z v (.bool b)):v=.bl b:=by cases h;rfl
theorem Reps.ints{K:Fg}{Z:Hp}:∀ns:List Int,Reps K Z (ns.map V.int) (ns.map PyData.int)
 |[]=>.nil
 |n::r=>.cons (.int n) (Reps.ints r)
mutual
theorem Rep.reads{X:Cx}{pins:List (Addr×Obj)}{σ:St}{H Z:Hp}{s:Shared}(I:Inv X pins σ H s)(zh:Same Z H):∀{v:V} {d:D} {u:Value},Rep X.K Z v d->RelV v u->d.canLay0=true->∃as,Reads s.heap u d as
 |_,_,u,.non,r,_=>by cases(show u=Value.none from r);exact⟨_,.none⟩
 |_,_,u,.bl b,r,_=>by cases(show u=Value.bool b from r);exact⟨_,.bool b⟩
 |_,_,u,.int i,r,_=>by obtain⟨t,rfl⟩:=(show ∃t,u=Value.int i t from r);exact⟨_,.int i t⟩
 |_,_,u,.str x,r,_=>by obtain⟨t,rfl⟩:=(show ∃t,u=Value.str x t from r);exact⟨_,.str x t⟩
 |_,_,u,.tup (a:=a) h q,r,hc=>by
  cases(show u=Value.ref a from r);obtain⟨its,rv,ht,_⟩:=I.tuple (SqT.same h zh);obtain⟨as,ra⟩:=Reps.reads I zh q rv hc;obtain⟨o,e,c,n,dd⟩:=ht;exact⟨_,reads_tuple_at e c dd (by simpa using ra)⟩
 |_,_,u,.lst (a:=a) h q,r,hc=>by
  cases(show u=Value.ref a from r);obtain⟨its,rv,ht,_⟩:=I.list (SqL.same h zh);obtain⟨as,ra⟩:=Reps.reads I zh q rv hc;obtain⟨o,n,e,c,_,dd⟩:=ht;exact⟨_,reads_list_at e c dd (by simpa using ra)⟩
 |_,_,u,.opq h,r,hc=>by cases hc
 |_,_,u,.gdc h k q e,r,hc=>by cases hc
theorem Reps.reads{X:Cx}{pins:List (Addr×Obj)}{σ:St}{H Z:Hp}{s:Shared}(I:Inv X pins σ H s)(zh:Same Z H):∀{vs:List V} {ds:List D} {us:List Value},Reps X.K Z vs ds->Vals vs us->PyData.canLayAll0 ds=true->∃as,ReadsAll s.heap us ds as
 |_,_,_,.nil,.nil,_=>⟨_,.nil⟩
 |_,_,_,.cons h q,.cons r t,hc=>by
  have hc':=Bool.and_eq_true_iff.mp hc;obtain⟨as,ha⟩:=Rep.reads I zh h r hc'.1;obtain⟨bs,hb⟩:=Reps.reads I zh q t hc'.2;exact⟨_,.cons ha hb⟩
end
noncomputable def Bm:HO->Bool
 |.frz _ (.lst _)=>false
 |_=>true
def NoF(Z Z':Hp):Prop:=∀b o xs,Z' b=some (.frz o (.lst xs))->Z b=some (.frz o (.lst xs))
theorem NoF.refl(Z:Hp):NoF Z Z:=fun _ _ _ e=>e
theorem NoF.trans{Z Z1 Z2:Hp}(a:NoF Z Z1)(b:NoF Z1 Z2):NoF Z Z2:=fun c o xs e=>a c o xs (b c o xs e)
theorem NoF.upd{Z Z':Hp}(a:NoF Z Z')(p:Addr){u:HO}(hu:Bm u=true:=by rfl):NoF Z (upd Z' p u):=fun b o xs e=>by
 by_cases hb:b=p
 ·subst hb
  rw[aw]at e;cases e;cases hu
 ·rw[ak hb]at e
  exact a b o xs e
structure New (Z H Z' H':Hp):Prop where
 z:Same Z Z'
 h:Same H H'
 zh:Same Z' H'
 o:∀b,H b≠none->Z' b=Z b
 nf:NoF Z Z'
theorem New.refl{Z H:Hp}(zh:Same Z H):New Z H Z H:=⟨Same.refl _,Same.refl _,zh,fun _ _=>rfl,NoF.refl _⟩
theorem dH{H:Hp}{p:Addr}{o:HO}(h:H p=none):Same H (upd H p o):=fun b u e=>by
 rw[ak (aH e h)];exact e
theorem gQ{Z H:Hp}(zh:Same Z H){p:Addr}(h:H p=none):Z p=none:=by
 cases e:Z p with
 |none=>rfl
 |some o=>rw[zh p o e]at h;cases h
theorem New.add{Z H:Hp}(zh:Same Z H){p:Addr}(hp:H p=none)(o:HO)(hf:Bm o=true:=by rfl):New Z H (upd Z p o) (upd H p o) where
 nf:=(NoF.refl Z).upd p hf
 z:=dH (gQ zh hp)
 h:=dH hp
 zh:=fun b u e=>by
  by_cases hb:b=p
  ·subst hb;rw[aw]at e ⊢;exact e
  ·rw[ak hb]at e ⊢;exact zh b u e
 o:=fun b hb=>by
  have:b≠p:=fun z=>hb (z ▸ hp)
  rw[ak this]
def g8(K:Fg)(Z:Hp)(kvs:List (ao×V))(es:List (ao×D)):Prop:=es.map (·.1)=kvs.map (·.1)/\Reps K Z (kvs.map (·.2)) (es.map (·.2))
inductive OwR (K:Fg) (Z:Hp):HO->Oc->Prop
 |lst {xs:List V} {ds:List D}:Reps K Z xs ds->OwR K Z (.lst xs) (.l ds)
 |dct {kvs:List (ao×V)} {es:List (ao×D)}:g8 K Z kvs es->OwR K Z (.dK kvs) (.d es)
theorem OwR.same{K:Fg}{Z Z':Hp}{o:HO}{c:Oc}(h:OwR K Z o c)(s:Same Z Z'):OwR K Z' o c:=by
 cases h with
 |lst r=>exact .lst (r.same s)
 |dct r=>exact .dct ⟨r.1,r.2.same s⟩
def FrOk(K:Fg)(H₀ Z₀ Z:Hp)(δ:Dv)(σ:St):Prop:=∀(i:Nat) ds,δ[i]? = some (.fr ds)->∃a xs,σ[i]? = some (some (.ref a))/\H₀ a=none/\Z₀ a=none/\Z a=some (.lst xs)/\Reps K Z xs ds
theorem FrOk.same{K:Fg}{H₀ Z₀ Z Z':Hp}{δ:Dv}{σ:St}(h:FrOk K H₀ Z₀ Z δ σ)(s:Same Z Z'):FrOk K H₀ Z₀ Z' δ σ:=fun i ds e=>
 let ⟨a,xs,h1,h2,h3,h4,h5⟩:=h i ds e; ⟨a,xs,h1,h2,h3,s _ _ h4,h5.same s⟩
theorem FrOk.put{K:Fg}{H₀ Z₀ Z:Hp}{δ:Dv}{σ σ':St}(h:FrOk K H₀ Z₀ Z δ σ){i:Nat}{x:Sl}(hx:∀ds,x≠Sl.fr ds)(hs:∀j:Nat,i≠j -> σ'[j]? = σ[j]?):FrOk K H₀ Z₀ Z (δ.set i x) σ':=fun j ds e=>by
 by_cases hj:i=j
 ·subst hj
  have hl:i < δ.length:=by have:=(List.getElem?_eq_some_iff.mp e).1;simpa using this
  rw[List.getElem?_set_self hl]at e;exact absurd (Option.some.inj e) (hx ds)
 ·rw[List.getElem?_set_ne hj]at e
  obtain⟨a,xs,h1,r⟩:=h j ds e;exact⟨a,xs,by rw[hs j hj];exact h1,r⟩
structure Hold (K:Fg) (H₀ Z₀ Z:Hp) (δ:Dv) (σ:St) (H:Hp):Prop where
 zh:Same Z H
 h0:Same H₀ H
 z0:Same Z₀ Z
 zb:∀b,H₀ b≠none->Z b=Z₀ b
 len:δ.length = σ.length
 fz:∀(i:Nat) d,δ[i]? = some (.fz d)->∃v,σ[i]? = some (some v)/\Rep K Z v d
 own:∀(i:Nat) c,δ[i]? = some (.own c)->∃a o,σ[i]? = some (some (.ref a))/\H₀ a=none/\Z a=none/\H a=some o/\OwR K Z o c
 dja:∀(i j:Nat) c c' a,i≠j -> δ[i]? = some (.own c) -> δ[j]? = some (.own c') -> σ[i]? = some (some (.ref a)) -> σ[j]? ≠ some (some (V.ref a))
 fr:FrOk K H₀ Z₀ Z δ σ
 nf:NoF Z₀ Z
section
variable{K:Fg}{H₀ Z₀ Z Z' H H':Hp}{δ:Dv}{σ:St}
theorem Hold.ow(h:Hold K H₀ Z₀ Z δ σ H)(i:Nat)(ds:List D)(e:δ[i]? = some (.ow ds)):∃a xs,σ[i]? = some (some (.ref a))/\H₀ a=none/\Z a=none/\H a=some (.lst xs)/\Reps K Z xs ds:=by
 obtain⟨a,o,h1,h2,h3,h4,h5⟩:=h.own i _ e;cases h5 with
 |lst r=>exact⟨a,_,h1,h2,h3,h4,r⟩
theorem Hold.od(h:Hold K H₀ Z₀ Z δ σ H)(i:Nat)(es:List (ao×D))(e:δ[i]? = some (.od es)):∃a kvs,σ[i]? = some (some (.ref a))/\H₀ a=none/\Z a=none/\H a=some (.dK kvs)/\g8 K Z kvs es:=by
 obtain⟨a,o,h1,h2,h3,h4,h5⟩:=h.own i _ e;cases h5 with
 |dct r=>exact⟨a,_,h1,h2,h3,h4,r⟩
theorem Hold.new(h:Hold K H₀ Z₀ Z δ σ H)(n:New Z H Z' H'):Hold K H₀ Z₀ Z' δ σ H' where
 zh:=n.zh
 h0:=h.h0.trans n.h
 z0:=h.z0.trans n.z
 zb:=fun b hb=>by
  have:H b≠none:=by
   cases e:H₀ b with
   |none=>exact absurd e hb
   |some o=>rw[h.h0 b o e];intro z;cases z
  rw[n.o b this,h.zb b hb]
 len:=h.len
 fz:=fun i d e=>let ⟨v,a,r⟩:=h.fz i d e; ⟨v,a,r.same n.z⟩
 own:=fun i ds e=>by
  obtain⟨a,xs,h1,h2,h3,h4,h5⟩:=h.own i ds e;exact⟨a,xs,h1,h2,by rw[n.o a (by rw[h4];intro z;cases z)];exact h3,n.h a _ h4,h5.same n.z⟩
 dja:=h.dja
 fr:=h.fr.same n.z
 nf:=h.nf.trans n.nf
theorem Hold.set(h:Hold K H₀ Z₀ Z δ σ H){i:Nat}{v:V}{d:D}(r:Rep K Z v d):Hold K H₀ Z₀ Z (δ.set i (.fz d)) (σ.set i (some v)) H where
 zh:=h.zh
 h0:=h.h0
 z0:=h.z0
 zb:=h.zb
 len:=by simp[h.len]
 fz:=fun j e q=>by
  by_cases hj:i=j
  ·subst hj
   have hl:i < δ.length:=by
    have:=(List.getElem?_eq_some_iff.mp q).1;simpa using this
   rw[List.getElem?_set_self hl]at q;cases q;exact⟨v,List.getElem?_set_self (by rw[<-h.len];exact hl),r⟩
  ·rw[List.getElem?_set_ne hj]at q
   obtain⟨u,a,b⟩:=h.fz j e q;exact⟨u,by rw[List.getElem?_set_ne hj];exact a,b⟩
 own:=fun j es q=>by
  by_cases hj:i=j
  ·subst hj
   have hl:i < δ.length:=by
    have:=(List.getElem?_eq_some_iff.mp q).1;simpa using this
   rw[List.getElem?_set_self hl]at q;cases q
  ·rw[List.getElem?_set_ne hj]at q ⊢
   exact h.own j es q
 dja:=fun j k ds es a hjk q1 q2=>by
  by_cases hj:i=j
  ·subst hj
   have hl:i < δ.length:=by
    have:=(List.getElem?_eq_some_iff.mp q1).1;simpa using this
   rw[List.getElem?_set_self hl]at q1;cases q1
  ·by_cases hk:i=k
   ·subst hk
    have hl:i < δ.length:=by
     have:=(List.getElem?_eq_some_iff.mp q2).1;simpa using this
    rw[List.getElem?_set_self hl]at q2;cases q2
   ·rw[List.getElem?_set_ne hj]at q1
    rw[List.getElem?_set_ne hk]at q2;rw[List.getElem?_set_ne hj,List.getElem?_set_ne hk];exact h.dja j k ds es a hjk q1 q2
 fr:=h.fr.put (fun _ z=>nomatch z) fun _ hj=>List.getElem?_set_ne hj
 nf:=h.nf
theorem Hold.setW(h:Hold K H₀ Z₀ Z δ σ H){i:Nat}{p:Addr}{o:HO}{c:Oc}(hp:H p=none)(r:OwR K Z o c):Hold K H₀ Z₀ Z (δ.set i (.own c)) (σ.set i (some (.ref p))) (upd H p o) where
 zh:=h.zh.trans (dH hp)
 h0:=h.h0.trans (dH hp)
 z0:=h.z0
 zb:=h.zb
 len:=by simp[h.len]
 fz:=fun j e q=>by
  by_cases hj:i=j
  ·subst hj
   have hl:i < δ.length:=by
    have:=(List.getElem?_eq_some_iff.mp q).1;simpa using this
   rw[List.getElem?_set_self hl]at q;cases q
  ·rw[List.getElem?_set_ne hj]at q
   obtain⟨u,a,b⟩:=h.fz j e q;exact⟨u,by rw[List.getElem?_set_ne hj];exact a,b⟩
 own:=fun j es q=>by
  by_cases hj:i=j
  ·subst hj
   have hl:i < δ.length:=by
    have:=(List.getElem?_eq_some_iff.mp q).1;simpa using this
   rw[List.getElem?_set_self hl]at q;cases q;exact⟨p,o,List.getElem?_set_self (by rw[<-h.len];exact hl),gQ h.h0 hp,gQ h.zh hp,aw,r⟩
  ·rw[List.getElem?_set_ne hj]at q ⊢
   obtain⟨a,ys,h1,h2,h3,h4,h5⟩:=h.own j es q;exact⟨a,ys,h1,h2,h3,by rw[ak (aH h4 hp)];exact h4,h5⟩
 dja:=fun j k ds es a hjk q1 q2=>by
  have old:∀{m:Nat} {fs:Oc},δ[m]? = some (.own fs) -> σ[m]? ≠ some (some (V.ref p)):=fun{m fs} q z=>by
   obtain⟨b,ys,h1,h2,h3,h4,h5⟩:=h.own m fs q;rw[h1]at z;cases z;rw[hp]at h4;cases h4
  have hl:∀{m:Nat} {x:Sl},(δ.set i x)[m]? ≠ none->m < σ.length:=fun{m x} q=>by
   have:m<(δ.set i x).length:=by
    rcases Nat.lt_or_ge m (δ.set i x).length with g|g
    ·exact g
    ·exact absurd (List.getElem?_eq_none_iff.mpr g) q
   rw[<-h.len];simpa using this
  by_cases hj:i=j
  ·subst hj
   have h1:i < σ.length:=hl (by rw[q1];intro z;cases z);rw[List.getElem?_set_self h1];intro e;cases e;rw[List.getElem?_set_ne hjk]at q2 ⊢;exact old q2
  ·rw[List.getElem?_set_ne hj]at q1 ⊢
   by_cases hk:i=k
   ·subst hk
    have h1:i < σ.length:=hl (by rw[q2];intro z;cases z);intro e z;rw[List.getElem?_set_self h1]at z;cases z;exact old q1 e
   ·rw[List.getElem?_set_ne hk]at q2 ⊢
    exact h.dja j k ds es a hjk q1 q2
 fr:=h.fr.put (fun _ z=>nomatch z) fun _ hj=>List.getElem?_set_ne hj
 nf:=h.nf
theorem Hold.setO(h:Hold K H₀ Z₀ Z δ σ H){i:Nat}{p:Addr}{xs:List V}{ds:List D}(hp:H p=none)(r:Reps K Z xs ds):Hold K H₀ Z₀ Z (δ.set i (.ow ds)) (σ.set i (some (.ref p))) (upd H p (.lst xs)):=h.setW hp (.lst r)
theorem Hold.chgW(h:Hold K H₀ Z₀ Z δ σ H){i:Nat}{p:Addr}{o:HO}{ds es:Oc}(e:δ[i]? = some (.own ds))(ep:σ[i]? = some (some (.ref p)))(r:OwR K Z o es):Hold K H₀ Z₀ Z (δ.set i (.own es)) σ (upd H p o):=by
 obtain⟨a,zs,h1,h2,h3,h4,h5⟩:=h.own i ds e;rw[ep]at h1;cases h1;have hl:i < δ.length:=(List.getElem?_eq_some_iff.mp e).1;refine⟨fun b o' q=>?_,fun b o' q=>?_,h.z0,h.zb,by simp[h.len],fun j d q=>?_,fun j d q=>?_,fun j k d1 d2 a hjk q1 q2=>?_,h.fr.put (fun _ z=>nomatch z) fun _ _=>rfl,h.nf⟩
 ·rw[ak (aH q h3)];exact h.zh b o' q
 ·rw[ak (aH q h2)];exact h.h0 b o' q
 ·by_cases hj:i=j
  ·subst hj
   rw[List.getElem?_set_self hl]at q;cases q
  ·rw[List.getElem?_set_ne hj]at q
   exact h.fz j d q
 ·by_cases hj:i=j
  ·subst hj
   rw[List.getElem?_set_self hl]at q;cases q;exact⟨p,o,ep,h2,h3,aw,r⟩
  ·rw[List.getElem?_set_ne hj]at q
   obtain⟨b,ws,g1,g2,g3,g4,g5⟩:=h.own j d q;refine⟨b,ws,g1,g2,g3,?_,g5⟩;have:b≠p:=fun z=>by subst z;exact h.dja i j ds d b hj e q ep g1
   rw[ak this];exact g4
 ·have f:∀{m:Nat} {dm:Oc},(δ.set i (.own es))[m]? = some (.own dm)->∃dm',δ[m]? = some (.own dm'):=fun{m dm} q=>by
   by_cases hm:i=m
   ·subst hm;exact⟨ds,e⟩
   ·rw[List.getElem?_set_ne hm]at q;exact⟨dm,q⟩
  obtain⟨e1,g1⟩:=f q1;obtain⟨e2,g2⟩:=f q2;exact h.dja j k e1 e2 a hjk g1 g2
theorem Hold.chg(h:Hold K H₀ Z₀ Z δ σ H){i:Nat}{p:Addr}{xs ys:List V}{ds es:List D}(e:δ[i]? = some (.ow ds))(ep:σ[i]? = some (some (.ref p)))(r:Reps K Z ys es):Hold K H₀ Z₀ Z (δ.set i (.ow es)) σ (upd H p (.lst ys)):=h.chgW e ep (.lst r)
theorem Hold.frz(h:Hold K H₀ Z₀ Z δ σ H){i:Nat}{ds:List D}(e:δ[i]? = some (.ow ds)):∃Z',Same Z Z'/\Hold K H₀ Z₀ Z' (δ.set i (.fz (.list ds))) σ H:=by
 obtain⟨a,xs,h1,h2,h3,h4,h5⟩:=h.ow i ds e;have hl:i < δ.length:=(List.getElem?_eq_some_iff.mp e).1;have sz:Same Z (upd Z a (.lst xs)):=dH h3;refine⟨upd Z a (.lst xs),sz,fun b o q=>?_,h.h0,h.z0.trans sz,fun b hb=>?_,by simp[h.len],fun j d q=>?_,fun j d q=>?_,fun j k d1 d2 b hjk q1 q2=>?_,(h.fr.same sz).put (fun _ z=>nomatch z) fun _ _=>rfl,h.nf.upd a⟩
 ·by_cases hb:b=a
  ·subst hb;rw[aw]at q;cases q;exact h4
  ·rw[ak hb]at q;exact h.zh b o q
 ·rw[ak (fun z=>hb (by rw[z];exact h2))];exact h.zb b hb
 ·by_cases hj:i=j
  ·subst hj
   rw[List.getElem?_set_self hl]at q;cases q;exact⟨.ref a,h1,.lst (SqL.of aw) (h5.same sz)⟩
  ·rw[List.getElem?_set_ne hj]at q
   obtain⟨v,g1,g2⟩:=h.fz j d q;exact⟨v,g1,g2.same sz⟩
 ·by_cases hj:i=j
  ·subst hj
   rw[List.getElem?_set_self hl]at q;cases q
  ·rw[List.getElem?_set_ne hj]at q
   obtain⟨b,ws,g1,g2,g3,g4,g5⟩:=h.own j d q;have:b≠a:=fun z=>by subst z;exact h.dja i j _ d b hj e q h1 g1
   exact⟨b,ws,g1,g2,by rw[ak this];exact g3,g4,g5.same sz⟩
 ·by_cases hj:i=j
  ·subst hj
   rw[List.getElem?_set_self hl]at q1;cases q1
  ·by_cases hk:i=k
   ·subst hk
    rw[List.getElem?_set_self hl]at q2;cases q2
   ·rw[List.getElem?_set_ne hj]at q1
    rw[List.getElem?_set_ne hk]at q2;exact h.dja j k d1 d2 b hjk q1 q2
end
def tV(K:Fg)(f:Dv->Option D):TE:=fun σ H Q=>∃H₀ Z₀ Z δ d,Hold K H₀ Z₀ Z δ σ H/\f δ = some d/\∀v Z' H',Hold K H₀ Z₀ Z' δ σ H'->Same Z Z'->Rep K Z' v d->Q v H'
def Gm(K:Fg)(f:Dv->Option Bool):TT:=fun σ H Q=>∃H₀ Z₀ Z δ b,Hold K H₀ Z₀ Z δ σ H/\f δ = some b/\∀Z' H',Hold K H₀ Z₀ Z' δ σ H'->Same Z Z'->Q b H'
def Kr(K:Fg)(f:Dv->Option (List D)):TA:=fun σ H Q=>∃H₀ Z₀ Z δ ds,Hold K H₀ Z₀ Z δ σ H/\f δ = some ds/\∀vs Z' H',Hold K H₀ Z₀ Z' δ σ H'->Same Z Z'->Reps K Z' vs ds->Q vs H'
def Fl.to(K:Fg)(Z:Hp)(D:Ends)(σ:St)(H:Hp):Fl->Prop
 |.nx=>D.nx σ H
 |.bk=>D.bk σ H
 |.ct=>D.ct σ H
 |.rt d=>∀v,Rep K Z v d->D.rt v H
def Cv(K:Fg)(f:Dv->Option (Fl×Dv)):TS:=fun D σ H=>∃H₀ Z₀ Z δ r,Hold K H₀ Z₀ Z δ σ H/\f δ = some r/\∀ σ' H' Z',Hold K H₀ Z₀ Z' r.2 σ' H'->Same Z Z'->r.1.to K Z' D σ' H'
def EV(X:Cx)(e:Expr)(f:Dv->Option D):Prop:=PE X e (tV X.K f)
def TV(X:Cx)(e:Expr)(f:Dv->Option Bool):Prop:=PT X e (Gm X.K f)
def AV(X:Cx)(es:List Expr)(f:Dv->Option (List D)):Prop:=PA X es (Kr X.K f)
def SV(X:Cx)(st:Stmt)(f:Dv->Option (Fl×Dv)):Prop:=PS X st (Cv X.K f)
def BV(X:Cx)(st:List Stmt)(f:Dv->Option (Fl×Dv)):Prop:=PSs X st (Cv X.K f)
theorem PE.imp{X:Cx}{e:Expr}{t t':TE}(h:PE X e t)(i:∀ σ H Q,t' σ H Q->t σ H Q):PE X e t':=fun pins s σ H Q I hw=>h pins s σ H Q I (i _ _ _ hw)
theorem PT.imp{X:Cx}{e:Expr}{t t':TT}(h:PT X e t)(i:∀ σ H Q,t' σ H Q->t σ H Q):PT X e t':=fun pins s σ H Q I hw=>h pins s σ H Q I (i _ _ _ hw)
theorem PA.imp{X:Cx}{es:List Expr}{t t':TA}(h:PA X es t)(i:∀ σ H Q,t' σ H Q->t σ H Q):PA X es t':=fun pos pins s σ H Q I hw=>h pos pins s σ H Q I (i _ _ _ hw)
theorem PS.imp{X:Cx}{st:Stmt}{t t':TS}(h:PS X st t)(i:∀D σ H,t' D σ H->t D σ H):PS X st t':=fun pins s σ H D I hw=>h pins s σ H D I (i _ _ _ hw)
theorem PSs.imp{X:Cx}{st:List Stmt}{t t':TS}(h:PSs X st t)(i:∀D σ H,t' D σ H->t D σ H):PSs X st t':=fun pins s σ H D I hw=>h pins s σ H D I (i _ _ _ hw)
theorem OpR.imp{X:Cx}{f:Value->Value->Sem Value}{r r':R2}(h:OpR X f r)(i:∀x y H Q,r' x y H Q->r x y H Q):OpR X f r':=fun pins s σ H x y v u Q I rx ry q=>h pins s σ H x y v u Q I rx ry (i _ _ _ _ q)
theorem CallR.imp{X:Cx}{f:Value}{r r':List V->Hp->VK->Prop}(h:CallR X f r)(i:∀xs H Q,r' xs H Q->r xs H Q):CallR X f r':=fun pins s σ H xs us Q I rx q=>h pins s σ H xs us Q I rx (i _ _ _ q)
def rD(K:Fg)(g:D->D->Option D):R2:=fun x y H Q=>∃Z a b d,Same Z H/\Rep K Z x a/\Rep K Z y b/\g a b=some d/\∀v Z' H',New Z H Z' H'->Rep K Z' v d->Q v H'
def Kv(K:Fg)(g:D->Option D):V->Hp->VK->Prop:=fun x H Q=>∃Z a d,Same Z H/\Rep K Z x a/\g a=some d/\∀v Z' H',New Z H Z' H'->Rep K Z' v d->Q v H'
def F1(K:Fg)(g:List D->Option D):List V->Hp->VK->Prop:=fun xs H Q=>∃Z as d,Same Z H/\Reps K Z xs as/\g as=some d/\∀v Z' H',New Z H Z' H'->Rep K Z' v d->Q v H'
def kW(K:Fg)(g:List D->Option D):Sp:=fun vs H Q _=>F1 K g vs H Q
section
variable{X:Cx}{a b c e:Expr}{es:List Expr}{pos p:Pos}{f f1 f2 f3:Dv->Option D}{fs:Dv->Option (List D)}{ft fu:Dv->Option Bool}
theorem bind_some{α β:Type}{o:Option α}{k:α -> Option β}{r:β}(h:o.bind k=some r):∃a,o=some a/\k a=some r:=by
 cases o with
 |none=>cases h
 |some a=>exact⟨a,rfl,h⟩
theorem Ii{K:Fg}{g:D->D->Option D}{σ:St}{H:Hp}{Q:VK}{r:R2}(hr:∀x y H Q,rD K g x y H Q->r x y H Q)(h:tV K (o2 f1 f2 g) σ H Q):Gq r (tV K f1) (tV K f2) σ H Q:=by
 obtain⟨H₀,Z₀,Z,δ,d,hh,e,k⟩:=h;obtain⟨x,e1,e⟩:=bind_some e;obtain⟨y,e2,e⟩:=bind_some e;refine⟨H₀,Z₀,Z,δ,x,hh,e1,fun v Z1 H1 hh1 s1 r1=>⟨H₀,Z₀,Z1,δ,y,hh1,e2,fun u Z2 H2 hh2 s2 r2=>hr _ _ _ _ ⟨Z2,x,y,d,hh2.zh,r1.same s2,r2,e,fun w Z3 H3 n r3=>?_⟩⟩⟩
 exact k w Z3 H3 (hh2.new n) ((s1.trans s2).trans n.z) r3
theorem aj{op:Operator}{g:D->D->Option D}(ho:OpR X (binaryOp op) (rD X.K g))(ha:EV X a f1)(hb:EV X b f2):EV X (.BinOp a op b pos) (o2 f1 f2 g):=
 PE.imp (GX ho ha hb) fun _ _ _ h=>Ii (fun _ _ _ _ q=>q) h
theorem CY{op:UnaryOp}{g:D->Option D}(ho:Ib X (unaryOp op) (Kv X.K g))(ha:EV X a f):EV X (.UnaryOp op a pos) (o1 f g):=
 PE.imp (GW ho ha) fun σ H Q h=>by
  obtain⟨H₀,Z₀,Z,δ,d,hh,e,k⟩:=h;obtain⟨x,e1,e⟩:=bind_some e;exact⟨H₀,Z₀,Z,δ,x,hh,e1,fun v Z1 H1 hh1 s1 r1=>⟨Z1,x,d,hh1.zh,r1,e,fun w Z3 H3 n r3=>k w Z3 H3 (hh1.new n) (s1.trans n.z) r3⟩⟩
theorem zA{op:CmpOp}{g:D->D->Option D}(ho:OpR X (compareOp op) (rD X.K g))(ha:EV X a f1)(hb:EV X b f2)(hm:behindInMarks op b=false):EV X (.Compare a [op] [b] pos) (o2 f1 f2 g):=
 PE.imp (Be ho ha hb hm) fun _ _ _ h=>Ii (fun _ _ _ _ q=>q) h
theorem uU{d:D}{b:Bool}(h:asB d=some b):d=.bool b:=by
 cases d<;>simp[asB]at h;subst h;rfl
theorem Kl{K:Fg}{σ:St}{H:Hp}{Q:Bool->Hp->Prop}(h:Gm K (ob f) σ H Q):tV K f σ H fun x H1=>∃c,x=.bl c/\Q c H1:=by
 obtain⟨H₀,Z₀,Z,δ,d,hh,e,k⟩:=h;obtain⟨x,e1,e⟩:=bind_some e;have:=uU e;subst this;exact⟨H₀,Z₀,Z,δ,_,hh,e1,fun v Z1 H1 hh1 s1 r1=>⟨_,r1.bl_eq,k Z1 H1 hh1 s1⟩⟩
theorem aN{op:CmpOp}{g:D->D->Option D}(ho:OpR X (compareOp op) (rD X.K g))(ha:EV X a f1)(hb:EV X b f2)(hm:behindInMarks op b=false):TV X (.Compare a [op] [b] pos) (ob (o2 f1 f2 g)):=
 PT.imp (AZ ho ha hb hm) fun σ H Q h=>by
  have h':=Kl h;exact Ii (f1:=f1) (f2:=f2) (g:=g) (fun _ _ _ _ q=>q) h'
theorem km(ha:EV X a f)(he:∀whole,isTrue a X.env whole=(do let v <-whole;standAt a.pos;holding [v] (truthy v)):=by intro _;rfl):TV X a (ob f):=
 PT.imp (DK ha he) fun _ _ _ h=>Kl h
def WV(X:Cx)(e:Expr)(f:Dv->Option Bool):Prop:=PW X e (Gm X.K f)
theorem PW.imp{X:Cx}{e:Expr}{t t':TT}(h:PW X e t)(i:∀ σ H Q,t' σ H Q->t σ H Q):PW X e t':=fun whole pins s σ H Q I hw=>h whole pins s σ H Q I (i _ _ _ hw)
theorem lQ(ha:TV X a ft):WV X (.BoolOp .And [a] pos) ft:=AY ha
theorem xk(ha:TV X a ft):WV X (.BoolOp .Or [a] pos) ft:=DI ha
theorem qg{rest:List Expr}(ha:TV X a ft)(hb:WV X (.BoolOp .And (b::rest) pos) fu):WV X (.BoolOp .And (a::b::rest) pos) (gK ft fu):=
 PW.imp (DJ ha hb) fun σ H Q h=>by
  obtain⟨H₀,Z₀,Z,δ,d,hh,e,k⟩:=h;obtain⟨x,e1,e⟩:=bind_some e;refine⟨H₀,Z₀,Z,δ,x,hh,e1,fun Z1 H1 hh1 s1=>?_⟩
  cases x with
  |true=>exact⟨H₀,Z₀,Z1,δ,d,hh1,e,fun Z2 H2 hh2 s2=>k Z2 H2 hh2 (s1.trans s2)⟩
  |false=>cases e;exact k Z1 H1 hh1 s1
theorem xl{rest:List Expr}(ha:TV X a ft)(hb:WV X (.BoolOp .Or (b::rest) pos) fu):WV X (.BoolOp .Or (a::b::rest) pos) (Iu ft fu):=
 PW.imp (GT ha hb) fun σ H Q h=>by
  obtain⟨H₀,Z₀,Z,δ,d,hh,e,k⟩:=h;obtain⟨x,e1,e⟩:=bind_some e;refine⟨H₀,Z₀,Z,δ,x,hh,e1,fun Z1 H1 hh1 s1=>?_⟩
  cases x with
  |true=>cases e;exact k Z1 H1 hh1 s1
  |false=>exact⟨H₀,Z₀,Z1,δ,d,hh1,e,fun Z2 H2 hh2 s2=>k Z2 H2 hh2 (s1.trans s2)⟩
theorem WV.tv(h:WV X a ft):TV X a ft:=PW.pt h
theorem kq(ha:TV X a ft):TV X (.UnaryOp .Not a pos) (pd ft):=
 PT.imp (DL ha) fun σ H Q h=>by
  obtain⟨H₀,Z₀,Z,δ,d,hh,e,k⟩:=h;cases e1:ft δ with
  |none=>unfold pd at e;rw[e1]at e;cases e
  |some x=>
   unfold pd at e;rw[e1]at e;cases e;exact⟨H₀,Z₀,Z,δ,x,hh,e1,fun Z1 H1 hh1 s1=>k Z1 H1 hh1 s1⟩
theorem zw{op}(h:EV X a f):EV X (.BoolOp op [a] pos) f:=DQ h
theorem zB{rest:List Expr}(ha:EV X a f1)(hb:EV X (.BoolOp .And (b::rest) pos) f2):EV X (.BoolOp .And (a::b::rest) pos) (ym f1 f2):=
 PE.imp (DT ha hb) fun σ H Q h=>by
  obtain⟨H₀,Z₀,Z,δ,d,hh,e,k⟩:=h;obtain⟨x,e1,e⟩:=bind_some e;obtain⟨c,e2,e⟩:=bind_some e;have:=uU e2;subst this;refine⟨H₀,Z₀,Z,δ,_,hh,e1,fun v Z1 H1 hh1 s1 r1=>⟨c,r1.bl_eq,?_⟩⟩
  cases c with
  |true=>exact⟨H₀,Z₀,Z1,δ,d,hh1,e,fun v Z2 H2 hh2 s2 r2=>k v Z2 H2 hh2 (s1.trans s2) r2⟩
  |false=>cases e;exact k _ Z1 H1 hh1 s1 (.bl false)
theorem Fu(ha:EV X a f):EV X (.UnaryOp .Not a pos) (o1 f Bl):=
 PE.imp (DR ha) fun σ H Q h=>by
  obtain⟨H₀,Z₀,Z,δ,d,hh,e,k⟩:=h;obtain⟨x,e1,e⟩:=bind_some e;cases e2:asB x with
  |none=>unfold Bl at e;rw[e2]at e;cases e
  |some c=>
   unfold Bl at e;rw[e2]at e;cases e;have:=uU e2;subst this;exact⟨H₀,Z₀,Z,δ,_,hh,e1,fun v Z1 H1 hh1 s1 r1=>⟨c,r1.bl_eq,k _ Z1 H1 hh1 s1 (.bl _)⟩⟩
theorem Hold.read{K:Fg}{H₀ Z₀ Z H:Hp}{δ:Dv}{σ:St}(hh:Hold K H₀ Z₀ Z δ σ H){i:Nat}{d:D}(h:oV i δ = some d):∃v,σ[i]? = some (some v)/\Rep K Z v d:=by
 unfold oV at h;cases q:δ[i]? with
 |none=>rw[q]at h;cases h
 |some x=>
  rw[q]at h;cases x with
  |fz e=>cases h;exact hh.fz i _ q
  |un=>cases h
  |own _=>cases h
  |fr ds=>
   cases h;obtain⟨a,xs,h1,_,_,h4,h5⟩:=hh.fr i ds q;exact⟨.ref a,h1,.lst (SqL.of h4) h5⟩
theorem aa(i:Nat){x:Str}(hN:X.N[i]? = some x:=by rfl)(hv:oH X.env.scope x:=by first|exact Or.inl rfl|exact Or.inr (Or.inl rfl)|exact Or.inr (Or.inr rfl))(hd:(x==("__debug__":Str))=false:=by decide)(hcd:(x==("__classdict__":Str))=false:=by decide):
  EV X (.Name x pos) (oV i):=
 PE.imp (cf hN hv hd hcd) fun σ H Q h=>by
  obtain⟨H₀,Z₀,Z,δ,d,hh,e,k⟩:=h;obtain⟨v,q,r⟩:=hh.read e;exact⟨v,q,k v Z H hh (Same.refl _) r⟩
theorem Fw{d:D}{v:V}(h:PE X e (tC v))(r:∀Z,Rep X.K Z v d):EV X e (oC d):=
 PE.imp h fun σ H Q h=>by
  obtain⟨H₀,Z₀,Z,δ,d',hh,e,k⟩:=h;cases e;exact k v Z H hh (Same.refl _) (r Z)
theorem ac{i j}:EV X (.Constant (.int i) j pos) (oC (.int i)):=Fw DS fun _=>.int i
theorem p7{i j}:EV X (.Constant (.bool i) j pos) (oC (.bool i)):=Fw GY fun _=>.bl i
theorem aV{i j}:EV X (.Constant (.str i) j pos) (oC (.str i)):=Fw DP fun _=>.str i
theorem ah:AV X [] aE:=
 PA.imp f7 fun σ H Q h=>by
  obtain⟨H₀,Z₀,Z,δ,d,hh,e,k⟩:=h;cases e;exact k [] Z H hh (Same.refl _) .nil
theorem ab(ha:EV X e f)(hr:AV X es fs)(hs:starEach (e::es) X.env=(false,eval e X.env)::starEach es X.env:=by rfl):AV X (e::es) (ae f fs):=
 PA.imp (cH ha hr hs) fun σ H Q h=>by
  obtain⟨H₀,Z₀,Z,δ,d,hh,e,k⟩:=h;obtain⟨x,e1,e⟩:=bind_some e;obtain⟨xs,e2,e⟩:=bind_some e;cases e;exact⟨H₀,Z₀,Z,δ,x,hh,e1,fun v Z1 H1 hh1 s1 r1=>⟨H₀,Z₀,Z1,δ,xs,hh1,e2,fun vs Z2 H2 hh2 s2 r2=>k _ Z2 H2 hh2 (s1.trans s2) (.cons (r1.same s2) r2)⟩⟩
theorem bI{x1}(h:AV X es fs):EV X (.Tuple es x1 pos) (os fs cT):=
 PE.imp (DO h) fun σ H Q h=>by
  obtain⟨H₀,Z₀,Z,δ,d,hh,e,k⟩:=h;obtain⟨xs,e1,e⟩:=bind_some e;refine⟨H₀,Z₀,Z,δ,xs,hh,e1,fun vs Z1 H1 hh1 s1 r1=>?_⟩
  by_cases hl:xs.length<=sizeLine
  ·rw[cT,if_pos hl]at e
   cases e;refine⟨by rw[r1.length];exact hl,fun p hp=>?_⟩
   have n:=New.add hh1.zh hp (.tup vs);exact k _ _ _ (hh1.new n) (s1.trans n.z) (.tup (SqT.of aw) (r1.same n.z))
  ·rw[cT,if_neg hl]at e;cases e
theorem nR(h:AV X es fs):EV X (.List es pos) (os fs gO):=
 PE.imp (uo h) fun σ H Q h=>by
  obtain⟨H₀,Z₀,Z,δ,d,hh,e,k⟩:=h;obtain⟨xs,e1,e⟩:=bind_some e;refine⟨H₀,Z₀,Z,δ,xs,hh,e1,fun vs Z1 H1 hh1 s1 r1=>?_⟩
  by_cases hl:xs.length<=sizeLine
  ·rw[gO,if_pos hl]at e
   cases e;refine⟨by rw[r1.length];exact hl,fun p hp=>?_⟩
   have n:=New.add hh1.zh hp (.lst vs);exact k _ _ _ (hh1.new n) (s1.trans n.z) (.lst (SqL.of aw) (r1.same n.z))
  ·rw[gO,if_neg hl]at e;cases e
theorem args{K:Fg}{g:List D->Option D}{σ:St}{H:Hp}{Q:VK}(h:tV K (os fs g) σ H Q):Kr K fs σ H fun vs H1=>F1 K g vs H1 Q:=by
 obtain⟨H₀,Z₀,Z,δ,d,hh,e,k⟩:=h;obtain⟨xs,e1,e⟩:=bind_some e;exact⟨H₀,Z₀,Z,δ,xs,hh,e1,fun vs Z1 H1 hh1 s1 r1=>⟨Z1,xs,d,hh1.zh,r1,e,fun w Z3 H3 n r3=>k w Z3 H3 (hh1.new n) (s1.trans n.z) r3⟩⟩
theorem eQ{x:Str}{id:String}{g:List D->Option D}(hc:CallR X (.builtin id) (F1 X.K g))(hg:Gl X x)(hm:X.mg x=none)(hv:bootBuiltins x=some (.builtin id))(ha:AV X (e::es) fs)(hn:x ≠ "__name__":=by decide)(hdb:(x==("__debug__":Str))=false:=by decide)
  (he:starEach (e::es) X.env=(false,eval e X.env)::starEach es X.env:=by rfl) (hpl:(backTo pos (starEach es X.env)).any (·.1)=false:=by rfl):EV X (.Call (.Name x p) (e::es) [] pos) (os fs g):=
 PE.imp (iq hc hg hm hv ha hn hdb he hpl) fun _ _ _ h=>args h
theorem d4{x:Str}{id:String}{g:List D->Option D}(hc:CallR X (.type id) (F1 X.K g))(hg:Gl X x)(hm:X.mg x=none)(hv:bootBuiltins x=some (.type id))(ha:AV X (e::es) fs)(hn:x ≠ "__name__":=by decide)(hdb:(x==("__debug__":Str))=false:=by decide)
  (he:starEach (e::es) X.env=(false,eval e X.env)::starEach es X.env:=by rfl) (hpl:(backTo pos (starEach es X.env)).any (·.1)=false:=by rfl):EV X (.Call (.Name x p) (e::es) [] pos) (os fs g):=
 PE.imp (pR hc hg hm hv ha hn hdb he hpl) fun _ _ _ h=>args h
theorem B0{k:Nat}{fa:Addr}{fd:FuncData}{ps:List Str}{x:Str}{g:List D->Option D}{dd:List D}{dv:List V}{ds:List Value}(F:FnOk X.prog X.w X.K X.mg X.base dE k fa fd ps (kW X.K g))(hr:Room k X.A)(hg:Gl X x)(hm:X.mg x=some (.ref fa))(hk:PySem.W.keepIn X.K (.ref fa)=true)
  (hb:Binds X.K fd ps ds) (hd:Vals dv ds) (hdd:∀Z,Reps X.K Z dv dd) (hx:jo dE X E0) (ha:AV X (e::es) fs) (hdb:(x==("__debug__":Str))=false:=by decide) (he:starEach (e::es) X.env=(false,eval e X.env)::starEach es X.env:=by rfl) (hpl:(backTo pos (starEach es X.env)).any (·.1)=false:=by rfl) :
  EV X (.Call (.Name x p) (e::es) [] pos) (os fs fun as=>g (as++dd)):=
 PE.imp (qH F hr hg hm hk hb hd hx ha hdb he hpl) fun σ H Q h=>by
  obtain⟨H₀,Z₀,Z,δ,xs,hh,e1,q⟩:=args h;refine⟨H₀,Z₀,Z,δ,xs,hh,e1,fun vs Z1 H1 hh1 s1 r1=>?_⟩
  obtain⟨Z2,as,d,zh,ra,eg,kk⟩:=q vs Z1 H1 hh1 s1 r1;exact⟨Z2,as++dd,d,zh,ra.append (hdd Z2),eg,kk⟩
theorem IxR.imp{r r':R2}(h:IxR X r)(i:∀x y H Q,r' x y H Q->r x y H Q):IxR X r':=fun value slice pins s σ H x y v u Q I rx ry q hs=>h value slice pins s σ H x y v u Q I rx ry (i _ _ _ _ q) hs
theorem ap{g:D->D->Option D}(ho:IxR X (rD X.K g))(ha:EV X a f1)(hb:EV X b f2)(hs:rH b):EV X (.Subscript a b pos) (o2 f1 f2 g):=
 PE.imp (CC ho ha hb hs) fun _ _ _ h=>Ii (fun _ _ _ _ q=>q) h
end
section
variable{X:Cx}{a b c e tg:Expr}{es:List Expr}{pos p:Pos}{f f1 f2 f3:Dv->Option D}{fs:Dv->Option (List D)}{ft fu:Dv->Option Bool}{st:Stmt}{sts body:List Stmt}{s1 s2:Dv->Option (Fl×Dv)}
theorem yj{F:Value->Value->Sem Value}{g:Int->Int->Int}(h:OpR X F (zQ fun i j=>.int (g i j))):OpR X F (rD X.K (iI g)):=
 OpR.imp h fun x y H Q q=>by
  obtain⟨Z,a,b,d,zh,ra,rb,e,k⟩:=q;cases ra<;>cases rb<;>simp[iI]at e;subst e;exact⟨_,_,rfl,rfl,k _ Z H (New.refl zh) (.int _)⟩
theorem CF{F:Value->Value->Sem Value}{g:Int->Int->Bool}(h:OpR X F (zQ fun i j=>.bl (g i j))):OpR X F (rD X.K (iB g)):=
 OpR.imp h fun x y H Q q=>by
  obtain⟨Z,a,b,d,zh,ra,rb,e,k⟩:=q;cases ra<;>cases rb<;>simp[iB]at e;subst e;exact⟨_,_,rfl,rfl,k _ Z H (New.refl zh) (.bl _)⟩
theorem sD{F:Value->Value->Sem Value}{P:Int->Int->Prop}{C:Int->Int->Bool}{g:Int->Int->Int}(h:OpR X F (rI P fun i j=>.int (g i j)))(hc:∀i j,C i j=true->P i j):OpR X F (rD X.K (iC C g)):=
 OpR.imp h fun x y H Q q=>by
  obtain⟨Z,a,b,d,zh,ra,rb,e,k⟩:=q;cases ra with
  |int i=>
   cases rb with
   |int j=>
    by_cases hh:C i j=true
    ·simp only[iC,if_pos hh]at e
     cases e;exact⟨_,_,rfl,rfl,hc _ _ hh,k _ Z H (New.refl zh) (.int _)⟩
    ·simp only[iC,if_neg hh]at e
     cases e
   |_=>simp[iC]at e
  |_=>simp[iC]at e
theorem s9:OpR X (binaryOp .Sub) (rD X.K wa):=yj DV
theorem nW:OpR X (binaryOp .Mult) (rD X.K nc):=sD (P:=fun i j=>IntMulOk i j) (G3 fun _ _ _ _ _ _ _ hc q=>mul_int q hc) fun i j h=>of_decide_eq_true h
theorem ls:OpR X (binaryOp .FloorDiv) (rD X.K pv):=sD Bh fun i j h=>(of_decide_eq_true h:0<j/\j<1073741824)
theorem dn:OpR X (binaryOp .Mod) (rD X.K df):=sD DX fun i j h=>of_decide_eq_true h
theorem HR:OpR X (binaryOp .Pow) (rD X.K A7):=sD DW fun i j h=>(of_decide_eq_true h:0<=j/\j<=1000000/\i.natAbs<2^64)
theorem j3:OpR X (binaryOp .LShift) (rD X.K h7):=sD (P:=fun i j=>0<=j/\(Builtin.Int.intBits i:Int)+j<=2^27) (G3 fun _ _ _ _ _ _ _ hc q=>lshift_int hc.1 hc.2 q) fun i j h=>of_decide_eq_true h
theorem HS:OpR X (binaryOp .BitAnd) (rD X.K H9):=yj DY
theorem iA:OpR X (binaryOp .BitXor) (rD X.K fS):=yj DU
theorem Fz:OpR X (compareOp .Lt) (rD X.K Iw):=CF G1
theorem zE:OpR X (compareOp .Gt) (rD X.K BP):=CF G2
theorem C2:Ib X (unaryOp .USub) (Kv X.K negD):=by
 intro pins s σ H x v Q I rx q;obtain⟨Z,a,d,zh,ra,e,k⟩:=q;cases ra<;>simp[negD]at e;subst e;exact Df pins s σ H _ v Q I rx ⟨_,rfl,k _ Z H (New.refl zh) (.int _)⟩
theorem Rep.str_eq{K:Fg}{Z:Hp}{v:V}{x:Str}(h:Rep K Z v (.str x)):v=.str x:=by cases h;rfl
theorem Rep.tup_ex{K:Fg}{Z:Hp}{v:V}{ds:List D}(h:Rep K Z v (.tuple ds)):∃a xs,v=.ref a/\SqT K Z a xs/\Reps K Z xs ds:=by
 cases h with
 |tup p q=>exact⟨_,_,rfl,p,q⟩
theorem Rep.lst_ex{K:Fg}{Z:Hp}{v:V}{ds:List D}(h:Rep K Z v (.list ds)):∃a xs,v=.ref a/\SqL K Z a xs/\Reps K Z xs ds:=by
 cases h with
 |lst p q=>exact⟨_,_,rfl,p,q⟩
theorem cO{p:Prop}[Decidable p]{α:Type}{x y:α}(h:(if p then some x else none)=some y):p/\x=y:=by
 by_cases q:p
 ·rw[if_pos q]at h;exact⟨q,Option.some.inj h⟩
 ·rw[if_neg q]at h;cases h
theorem FP{a b d:D}(h:br a b=some d):(∃i,a=.int i)\/(∃x,a=.str x)\/(∃xs,a=.list xs)\/∃xs,a=.tuple xs:=by
 cases a with
 |int i=>exact .inl ⟨_,rfl⟩
 |str i=>exact .inr (.inl ⟨_,rfl⟩)
 |list i=>exact .inr (.inr (.inl ⟨_,rfl⟩))
 |tuple i=>exact .inr (.inr (.inr ⟨_,rfl⟩))
 |_=>cases h
theorem FQ{i:Int}{b d:D}(h:br (.int i) b=some d):∃j,b=.int j/\d=.int (i+j):=by
 cases b with
 |int j=>exact⟨j,rfl,(Option.some.inj h).symm⟩
 |_=>cases h
theorem FM{i:Str}{b d:D}(h:br (.str i) b=some d):∃j,b=.str j/\i.length+j.length<=sizeLine/\d=.str (i++j):=by
 cases b with
 |str j=>obtain⟨p,q⟩:=cO h;exact⟨j,rfl,p,q.symm⟩
 |_=>cases h
theorem FN{i:List D}{b d:D}(h:br (.list i) b=some d):∃j,b=.list j/\i.length+j.length<=sizeLine/\d=.list (i++j):=by
 cases b with
 |list j=>obtain⟨p,q⟩:=cO h;exact⟨j,rfl,p,q.symm⟩
 |_=>cases h
theorem FL{i:List D}{b d:D}(h:br (.tuple i) b=some d):∃j,b=.tuple j/\i.length+j.length<=sizeLine/\d=.tuple (i++j):=by
 cases b with
 |tuple j=>obtain⟨p,q⟩:=cO h;exact⟨j,rfl,p,q.symm⟩
 |_=>cases h
theorem bN:OpR X (binaryOp .Add) (rD X.K br):=by
 intro pins s σ H x y v u Q I rx ry q;obtain⟨Z,a,b,d,zh,ra,rb,e,k⟩:=q;rcases FP e with⟨i,rfl⟩|⟨i,rfl⟩|⟨ds,rfl⟩|⟨ds,rfl⟩
 ·obtain⟨j,rfl,rfl⟩:=FQ e
  cases ra.int_eq;cases rb.int_eq;exact DZ pins s σ H _ _ v u Q I rx ry ⟨_,_,rfl,rfl,k _ Z H (New.refl zh) (.int _)⟩
 ·obtain⟨j,rfl,hl,rfl⟩:=FM e
  cases ra.str_eq;cases rb.str_eq;exact uq pins s σ H _ _ v u Q I rx ry ⟨_,_,rfl,rfl,hl,k _ Z H (New.refl zh) (.str _)⟩
 ·obtain⟨es,rfl,hl,rfl⟩:=FN e
  obtain⟨a,xs,rfl,h1,q1⟩:=ra.lst_ex;obtain⟨b,ys,rfl,h2,q2⟩:=rb.lst_ex;cases rx;cases ry;obtain⟨its,r1,p1,z1⟩:=I.list (SqL.same h1 zh);obtain⟨its2,r2,p2,z2⟩:=I.list (SqL.same h2 zh);obtain⟨⟨cls,dd,data,sl⟩,n1,ho,hc,hdd,hd⟩:=p1;obtain⟨⟨cls2,dd2,data2,sl2⟩,n2,ho2,hc2,hdd2,hd2⟩:=p2;simp only at hc hd hc2 hd2;subst hc hd hc2 hd2;have hl1:=r1.length;have hl2:=r2.length;have ql1:=q1.length;have ql2:=q2.length;refine concat_meets ⟨_,ho,rfl⟩ ⟨_,ho2,rfl⟩ noFill_list_add seq_list_add PySem.F.slot_list_add PySem.F.entry_list_add (PySem.F.args_list_add_2 _ _) (list_addW a b its.toArray its2.toArray n1 n2 dd dd2 sl sl2 (by simp;omega)) ⟨ho,ho2,?_⟩;have ea:its.toArray++its2.toArray=(its++its2).toArray:=by simp
  rw[ea];have n:=New.add zh I.fresh (.lst (xs++ys));exact⟨.ref _,_,I.lnew (t':=s.toks) (r1.append r2) (by rw[List.length_append];omega),rfl,k _ _ _ n (.lst (SqL.of aw) ((q1.append q2).same n.z))⟩
 ·obtain⟨es,rfl,hl,rfl⟩:=FL e
  obtain⟨a,xs,rfl,h1,q1⟩:=ra.tup_ex;obtain⟨b,ys,rfl,h2,q2⟩:=rb.tup_ex;by_cases h0:ds.length=0
  ·have hd0:ds=[]:=List.eq_nil_of_length_eq_zero h0
   subst hd0;cases q1;cases rx;cases ry;obtain⟨its,r1,p1,z1⟩:=I.tuple (SqT.same h1 zh);obtain⟨its2,r2,p2,z2⟩:=I.tuple (SqT.same h2 zh);cases r1;obtain⟨⟨cls,dd,data,sl⟩,ho,hc,n,hd⟩:=id p1;obtain⟨⟨cls2,dd2,data2,sl2⟩,ho2,hc2,n2,hd2⟩:=id p2;simp only at hc hd hc2 hd2;subst hc hd hc2 hd2;exact concat_meets ⟨_,ho,rfl⟩ ⟨_,ho2,rfl⟩ noFill_tuple_add seq_tuple_add PySem.F.slot_tuple_add PySem.F.entry_tuple_add (PySem.F.args_tuple_add_2 _ _)
    (tuple_addW0 a b _ its2.toArray n n2 dd dd2 sl sl2 (by simp)) ⟨ho,ho2,⟨.ref b,H,I,rfl,k _ Z H (New.refl zh) (.tup h2 q2)⟩⟩
  refine Bi pins s σ H _ _ v u Q I rx ry ⟨a,b,xs,ys,rfl,rfl,SqT.same h1 zh,SqT.same h2 zh,fun z=>h0 (by rw[<-q1.length,z];rfl),by rw[q1.length,q2.length];exact hl,fun z=>?_,fun z p hp=>?_⟩
  ·subst z
   cases q2;rw[List.append_nil]at k;exact k _ Z H (New.refl zh) (.tup h1 q1)
  ·have n:=New.add zh hp (.tup (xs++ys))
   exact k _ _ _ n (.tup (SqT.of aw) ((q1.append q2).same n.z))
theorem lX{d:D}(h:xh d=true):d.canLay0=true:=(Bool.and_eq_true_iff.mp h).1
theorem dq(hu:X.A.units+64<cLine):OpR X (compareOp .Eq) (rD X.K bT):=by
 intro pins s σ H x y v u Q I rx ry q;obtain⟨Z,a,b,d,zh,ra,rb,e,k⟩:=q;by_cases hs:xh a=true/\xh b=true
 ·rw[bT,if_pos hs]at e
  cases e;obtain⟨as,r1⟩:=ra.reads I zh rx (lX hs.1);obtain⟨bs,r2⟩:=rb.reads I zh ry (lX hs.2);exact eq_dataH r1 r2 hs.1 hs.2 hu ⟨.bl _,H,I,rfl,k _ Z H (New.refl zh) (.bl _)⟩
 ·rw[bT,if_neg hs]at e;cases e
theorem zD(hu:X.A.units+64<cLine):OpR X (compareOp .NotEq) (rD X.K neD):=by
 intro pins s σ H x y v u Q I rx ry q;obtain⟨Z,a,b,d,zh,ra,rb,e,k⟩:=q;by_cases hs:xh a=true/\xh b=true
 ·rw[neD,if_pos hs]at e
  cases e;obtain⟨as,r1⟩:=ra.reads I zh rx (lX hs.1);obtain⟨bs,r2⟩:=rb.reads I zh ry (lX hs.2);exact ne_dataH r1 r2 hs.1 hs.2 hu ⟨.bl _,H,I,rfl,k _ Z H (New.refl zh) (.bl _)⟩
 ·rw[neD,if_neg hs]at e;cases e
theorem Reps.at{K:Fg}{Z:Hp}{vs:List V}{ds:List D}{i:Int}{d:D}(r:Reps K Z vs ds)(h:hX ds i=some d):∃v,hX vs i=some v/\Rep K Z v d:=by
 unfold hX at h ⊢;rw[r.length];obtain⟨j,e,h⟩:=bind_some h;obtain⟨v,q,rr⟩:=r.get h;exact⟨v,by rw[e];exact q,rr⟩
theorem Hr{a b d:D}(h:aW a b=some d):(∃xs,a=.list xs)\/∃xs,a=.tuple xs:=by
 cases a with
 |list i=>exact .inl ⟨_,rfl⟩
 |tuple i=>exact .inr ⟨_,rfl⟩
 |_=>cases h
theorem CT{xs:List D}{b d:D}(h:aW (.list xs) b=some d):∃i,b=.int i/\hX xs i=some d:=by
 cases b with
 |int i=>exact⟨i,rfl,h⟩
 |_=>cases h
theorem aO:IxR X (rD X.K aW):=
 IxR.imp (ix_list.or Fh) fun x y H Q q=>by
  obtain⟨Z,a,b,d,zh,ra,rb,e,k⟩:=q;rcases Hr e with⟨xs,rfl⟩|⟨xs,rfl⟩
  ·obtain⟨i,rfl,e⟩:=CT e
   obtain⟨a,vs,rfl,h1,q1⟩:=ra.lst_ex;cases rb.int_eq;obtain⟨v,ev,rv⟩:=q1.at e;exact .inl ⟨_,_,_,v,rfl,rfl,SqL.same h1 zh,ev,k v Z H (New.refl zh) rv⟩
  ·obtain⟨i,rfl,e⟩:=CT (xs:=xs) (b:=b) (by cases b<;>exact e)
   obtain⟨a,vs,rfl,h1,q1⟩:=ra.tup_ex;cases rb.int_eq;obtain⟨v,ev,rv⟩:=q1.at e;exact .inr ⟨_,_,_,v,rfl,rfl,SqT.same h1 zh,ev,k v Z H (New.refl zh) rv⟩
theorem lA:CallR X (.builtin "len") (F1 X.K lE):=
 CallR.imp tG fun xs H Q q=>by
  obtain⟨Z,as,d,zh,ra,e,k⟩:=q;cases ra with
  |nil=>cases e
  |cons r1 r2=>
   cases r2 with
   |cons _ _=>cases r1<;>cases e
   |nil=>
    cases r1 with
    |lst h1 q1=>cases e;exact⟨_,_,rfl,.inl ⟨_,SqL.same h1 zh,rfl⟩,k _ Z H (New.refl zh) (by rw[q1.length];exact .int _)⟩
    |tup h1 q1=>cases e;exact⟨_,_,rfl,.inr ⟨_,SqT.same h1 zh,rfl⟩,k _ Z H (New.refl zh) (by rw[q1.length];exact .int _)⟩
    |_=>cases e
theorem gS:CallR X (.type "tuple") (F1 X.K f6):=
 CallR.imp pz fun xs H Q q=>by
  obtain⟨Z,as,d,zh,ra,e,k⟩:=q;cases ra with
  |nil=>cases e
  |cons r1 r2=>
   cases r2 with
   |cons _ _=>cases r1<;>cases e
   |nil=>
    cases r1 with
    |lst h1 q1=>cases e;exact⟨_,_,rfl,.inl ⟨SqL.same h1 zh,fun l hl=>let n:=New.add zh hl (.tup _);k _ _ _ n (.tup (SqT.of aw) (q1.same n.z))⟩⟩
    |tup h1 q1=>cases e;exact⟨_,_,rfl,.inr ⟨SqT.same h1 zh,k _ Z H (New.refl zh) (.tup h1 q1)⟩⟩
    |_=>cases e
theorem Fb(K:Fg){t T:String}(ht:t = "NoneType" \/ t = "bool" \/ t = "int" \/ t = "str" \/ t = "list" \/ t = "tuple")(hT:T = "int" \/ T = "bool" \/ T = "str" \/ T = "list" \/ T = "tuple"):PySem.W.kitOne K (.type t) (.type T)=some (Fo t T):=by
 rcases ht with rfl|rfl|rfl|rfl|rfl|rfl<;>rcases hT with rfl|rfl|rfl|rfl|rfl<;>rfl
theorem Rep.ty{K:Fg}{Z H:Hp}{v:V}{d:D}(zh:Same Z H)(r:Rep K Z v d)(hD:¬vE d=true):(tyN d = "NoneType" \/ tyN d = "bool" \/ tyN d = "int" \/ tyN d = "str" \/ tyN d = "list" \/ tyN d = "tuple"):=by
 cases r<;>simp[tyN]
 ·exact absurd rfl hD
 ·exact absurd rfl hD
theorem Fn{pins:List (Addr×Obj)}{σ:St}{H Z:Hp}{s:Shared}{x:V}{u:Value}{d:D}{T:String}{A:Around}{E:Value->Shared->Prop}{Q:Value->Shared->Prop}(I:Inv X pins σ H s)(zh:Same Z H)(rx:RelV x u)(r:Rep X.K Z x d)(hD:¬vE d=true)
  (hT:T = "int" \/ T = "bool" \/ T = "str" \/ T = "list" \/ T = "tuple") (h:∀tk,Q (.bool (Fo (tyN d) T)) { s with toks:=tk }):wpAny (model X.prog X.w) A (call (.builtin "isinstance") [u,.type T]) Q E s:=by
 have ko:=Fb X.K (Rep.ty zh r hD) hT;cases r with
 |non=>exact iP I rx (.non) ko h
 |bl b=>exact iP I rx (.bl b) ko h
 |int b=>exact iP I rx (.int b) ko h
 |str b=>exact iP I rx (.str b) ko h
 | @tup a xs ds h1 q1=>
  cases(show u=Value.ref a from rx);obtain⟨its,_,p,_⟩:=I.tuple (SqT.same h1 zh);obtain⟨o,h1,h2,_⟩:=p;exact PySem.W.kia_one PySem.W.kitx_tuple I.kIn ⟨o,h1,h2⟩ ko (fun z=>nomatch z) h
 | @lst a xs ds h1 q1=>
  cases(show u=Value.ref a from rx);obtain⟨its,_,p,_⟩:=I.list (SqL.same h1 zh);obtain⟨o,n,h1,h2,_⟩:=p;exact PySem.W.kia_one PySem.W.kitx_list I.kIn ⟨o,h1,h2⟩ ko (fun z=>nomatch z) h
 |opq h1=>exact absurd rfl hD
 |gdc _ _ _ _=>exact absurd rfl hD
theorem HU(T:String):CallR X (.builtin "isinstance") (fun xs H Q=>∃x Z d r,xs=[x,.ty T]/\Same Z H/\Rep X.K Z x d/\fT T d=some r/\∃b,r=.bool b/\Q (.bl b) H):=by
 intro pins s σ H xs us Q I rv h;obtain⟨x,Z,d,r,rfl,zh,rr,e,b,rfl,q⟩:=h;obtain⟨u,w',rfl,r1,r2⟩:=Cq rv;cases(show w'=Value.type T from r2);by_cases hD:vE d=true
 ·rw[fT,if_pos hD]at e;cases e
 by_cases hT:T = "int" \/ T = "bool" \/ T = "str" \/ T = "list" \/ T = "tuple"
 ·rw[fT,if_neg hD,if_pos hT]at e
  cases e;exact Fn I zh r1 rr hD hT fun tk=>⟨.bl _,H,I.tok _,rfl,q⟩
 ·rw[fT,if_neg hD,if_neg hT]at e;cases e
theorem nS{x:Str}{T:String}{p2:Pos}(hg:Gl X "isinstance")(hm:X.mg "isinstance" = none)(hgT:Gl X x)(hmT:X.mg x=none)(hvT:bootBuiltins x=some (.type T))(hnT:x ≠ "__name__")(hdT:(x==("__debug__":Str))=false)(ha:EV X a f)
  (he:starEach (a::[.Name x p2]) X.env=(false,eval a X.env)::starEach [.Name x p2] X.env:=by rfl) (he2:starEach ((.Name x p2)::[]) X.env=(false,eval (.Name x p2) X.env)::starEach [] X.env:=by rfl) (hpl:(backTo pos (starEach [.Name x p2] X.env)).any (·.1)=false:=by rfl) :
  EV X (.Call (.Name "isinstance" p) [a,.Name x p2] [] pos) (o1 f (fT T)):=
 PE.imp (iq (HU T) hg hm PyProof.Rows.boot_isinstance (cH ha (cH (Bf (v:=.ty T) hgT hmT hvT rfl hnT hdT) f7 he2) he) (by decide) (by decide) he hpl) fun σ H Q h=>by
  obtain⟨H₀,Z₀,Z,δ,d,hh,e,k⟩:=h;obtain⟨y,e1,e⟩:=bind_some e;refine⟨H₀,Z₀,Z,δ,y,hh,e1,fun v Z1 H1 hh1 s1 r1=>⟨v,Z1,y,d,rfl,hh1.zh,r1,e,?_⟩⟩
  have:∃b,d=.bool b:=by
   unfold fT at e;split at e
   ·cases e
   ·split at e
    ·cases e;exact⟨_,rfl⟩
    ·cases e
  obtain⟨b,rfl⟩:=this;exact⟨b,rfl,k _ Z1 H1 hh1 s1 (.bl b)⟩
end
section
variable{X:Cx}{a b c e tg iter:Expr}{es:List Expr}{pos p:Pos}{f f1 f2 f3:Dv->Option D}{fs:Dv->Option (List D)}{ft fu:Dv->Option Bool}{st:Stmt}{sts body orelse:List Stmt}{s1 s2 s3:Sf}
theorem bG(he:EV X e f):SV X (.Return (some e) pos) (eM f):=
 PS.imp (DM he) fun D σ H h=>by
  obtain⟨H₀,Z₀,Z,δ,r,hh,e,k⟩:=h;obtain⟨x,e1,e⟩:=bind_some e;cases e;exact⟨H₀,Z₀,Z,δ,x,hh,e1,fun v Z1 H1 hh1 s1 r1=>k σ H1 Z1 hh1 s1 v r1⟩
theorem be(i:Nat){x:Str}{pos':Pos}(hN:X.N.Nodup)(he:EV X e f)(hi:X.N[i]? = some x:=by rfl)(hx:rL X.env.scope x:=by first|exact Or.inl rfl|exact Or.inr rfl)(hs:swapsWith e (some (.Name x pos')) pos.line X.env=pure false:=by rfl)
  (hf:X.fn x=true\/X.env.scope.names.lookup x=some .local:=by first|exact .inl rfl|exact .inr rfl|assumption):SV X (.Assign [.Name x pos'] e pos) (cA i f):=
 PS.imp (gH hN hi hx he hs hf) fun D σ H h=>by
  obtain⟨H₀,Z₀,Z,δ,r,hh,e,k⟩:=h;obtain⟨x,e1,e⟩:=bind_some e;cases e;exact⟨H₀,Z₀,Z,δ,x,hh,e1,fun v Z1 H1 hh1 s1 r1=>k _ H1 Z1 (hh1.set r1) s1⟩
theorem G9{D:Ends}{σ:St}{H:Hp}{K:Fg}(h:Cv K oX D σ H):D.nx σ H:=by
 obtain⟨H₀,Z₀,Z,δ,r,hh,e,k⟩:=h;cases e;exact k σ H Z hh (Same.refl _)
theorem dR:BV X [] oX:=PSs.imp qD fun D σ H h=>G9 h
theorem ar(h1:SV X st s1)(h2:BV X sts s2):BV X (st::sts) (aq s1 s2):=
 PSs.imp (fK h1 h2) fun D σ H h=>by
  obtain⟨H₀,Z₀,Z,δ,r,hh,e,k⟩:=h;obtain⟨⟨fl,δ'⟩,e1,e⟩:=bind_some e;refine⟨H₀,Z₀,Z,δ,(fl,δ'),hh,e1,fun σ' H' Z' hh' s'=>?_⟩
  cases fl with
  |nx=>exact⟨H₀,Z₀,Z',δ',r,hh',e,fun σ2 H2 Z2 hh2 s2=>by
    have:=k σ2 H2 Z2 hh2 (s'.trans s2);obtain⟨fl,δ2⟩:=r;cases fl<;>exact this⟩
  |bk=>cases e;exact k σ' H' Z' hh' s'
  |ct=>cases e;exact k σ' H' Z' hh' s'
  |rt d=>cases e;exact k σ' H' Z' hh' s'
theorem aP(h1:SV X st s1):BV X [st] s1:=jL h1
theorem eK(hc:TV X c ft)(ha:BV X body s1)(hb:BV X orelse s2):SV X (.If c body orelse pos) (b5 ft s1 s2):=
 PS.imp (vg hc ha hb) fun D σ H h=>by
  obtain⟨H₀,Z₀,Z,δ,r,hh,e,k⟩:=h;obtain⟨x,e1,e⟩:=bind_some e;refine⟨H₀,Z₀,Z,δ,x,hh,e1,fun Z1 H1 hh1 t1=>?_⟩
  cases x with
  |true=>exact⟨H₀,Z₀,Z1,δ,r,hh1,e,fun σ2 H2 Z2 hh2 t2=>k σ2 H2 Z2 hh2 (t1.trans t2)⟩
  |false=>exact⟨H₀,Z₀,Z1,δ,r,hh1,e,fun σ2 H2 Z2 hh2 t2=>k σ2 H2 Z2 hh2 (t1.trans t2)⟩
theorem HF{K:Fg}(i:Nat){D:Ends}{σ:St}{H:Hp}(h:Cv K (fun δ=>s1 (B8 i δ)) D σ H):Cv K s1 D σ H:=by
 obtain⟨H₀,Z₀,Z,δ,r,hh,e,k⟩:=h;have e:s1 (B8 i δ)=some r:=e;unfold B8 at e;split at e
 ·rename_i ds q
  obtain⟨Z1,t1,hh1⟩:=hh.frz q;exact⟨H₀,Z₀,Z1,_,r,hh1,e,fun σ2 H2 Z2 hh2 t2=>k σ2 H2 Z2 hh2 (t1.trans t2)⟩
 ·exact⟨H₀,Z₀,Z,_,r,hh,e,k⟩
theorem Cw(i:Nat)(h:SV X st s1):SV X st (fun δ=>s1 (B8 i δ)):=PS.imp h fun D σ H q=>HF i q
def KR(K:Fg)(g:D->Dv->Option Dv):TG:=fun v σ H Q=>∃H₀ Z₀ Z δ d δ',Hold K H₀ Z₀ Z δ σ H/\Rep K Z v d/\g d δ = some δ'/\∀ σ' H' Z',Hold K H₀ Z₀ Z' δ' σ' H'->Same Z Z'->Q σ' H'
def GV(X:Cx)(tg:Expr)(g:D->Dv->Option Dv):Prop:=PG X tg (KR X.K g)
theorem PG.imp{t t':TG}(h:PG X tg t)(i:∀v σ H Q,t' v σ H Q->t v σ H Q):PG X tg t':=fun pins s σ H x v Q I r q=>h pins s σ H x v Q I r (i _ _ _ _ q)
theorem iQ(i:Nat){x:Str}(hN:X.N.Nodup)(hi:X.N[i]? = some x:=by rfl)(hx:rL X.env.scope x:=by first|exact Or.inl rfl|exact Or.inr rfl)
  (hf:X.fn x=true\/X.env.scope.names.lookup x=some .local:=by first|exact .inl rfl|exact .inr rfl|assumption):GV X (.Name x pos) (gN i):=
 PG.imp (cR hN hi hx hf) fun v σ H Q h=>by
  obtain⟨H₀,Z₀,Z,δ,d,δ',hh,r,e,k⟩:=h;cases e;exact k _ H Z (hh.set r) (Same.refl _)
structure ItOk (K:Fg) (Z:Hp) (J:It) (ds:List D):Prop where
 go:∀(i:Nat) (H:Hp),Same Z H->i<ds.length->J.go i H
 yld:∀(i:Nat) (H:Hp) x H' d,Same Z H->ds[i]? = some d->J.yld i H x H'->H'=H/\Rep K Z x d
 stop:∀(i:Nat) (H:Hp),Same Z H->ds.length<=i->J.stop i H
def Ik(K:Fg)(f:Dv->Option (List D)):TI:=fun σ H R=>∃H₀ Z₀ Z δ ds,Hold K H₀ Z₀ Z δ σ H/\f δ = some ds/\∀J Z' H',Hold K H₀ Z₀ Z' δ σ H'->Same Z Z'->ItOk K Z' J ds->R J H'
def IV(X:Cx)(tg iter:Expr)(f:Dv->Option (List D)):Prop:=PI X tg iter (Ik X.K f)
theorem PI.imp{t t':TI}(h:PI X tg iter t)(i:∀ σ H R,t' σ H R->t σ H R):PI X tg iter t':=fun pins s σ H R I q=>h pins s σ H R I (i _ _ _ q)
theorem ku{g:D->Dv->Option Dv}(hp:PassesOwn (model X.prog X.w) X.A X.env X.xe)(hc:X.calm=true)(hi:IV X tg iter fs)(hg:GV X tg g)(hb:BV X body s1)
  (hs:∀x,foldedSetIterable iter X.env x=pure x:=by intro _;rfl):SV X (.For tg iter body [] pos) (ub fs g s1):=
 PS.imp (xW hp hc hi hg hb hs) fun D σ H h=>by
  obtain⟨H₀,Z₀,Z,δ,r,hh,e,k⟩:=h;obtain⟨ds,e1,e⟩:=bind_some e;refine⟨H₀,Z₀,Z,δ,ds,hh,e1,fun J Z1 H1 hh1 t1 ok=>?_⟩
  refine⟨fun i m σ H=>m=ds.length-i/\i<=ds.length/\∃Zc δc,Hold X.K H₀ Z₀ Zc δc σ H/\Same Z1 Zc/\loop g s1 (ds.drop i) δc=some r,⟨ds.length,by simp,Nat.zero_le _,Z1,δ,hh1,Same.refl _,e⟩,?_⟩
  rintro i m σ2 H2 ⟨rfl,hi2,Zc,δc,hhc,tc,ec⟩;have zh:Same Z1 H2:=tc.trans hhc.zh;by_cases hlt:i<ds.length
  ·refine .inr ⟨ok.go i H2 zh hlt,fun σ3 H3=>∃Zc δc,Hold X.K H₀ Z₀ Zc δc σ3 H3/\Same Z1 Zc/\loop g s1 (ds.drop (i+1)) δc=some r,fun σ3 H3 q=>⟨ds.length-(i+1),by omega,rfl,hlt,q⟩,fun x H3 y=>?_⟩
   have ed:ds[i]? = some ds[i]:=by simp[hlt]
   obtain⟨rfl,rx⟩:=ok.yld i H2 x H3 _ zh ed y;rw[List.drop_eq_getElem_cons hlt]at ec;obtain⟨δ1,g1,ec⟩:=bind_some ec;obtain⟨⟨fl,δ2⟩,g2,ec⟩:=bind_some ec;refine⟨H₀,Z₀,Zc,δc,_,δ1,hhc,rx.same tc,g1,fun σ4 H4 Z4 hh4 t4=>⟨H₀,Z₀,Z4,δ1,(fl,δ2),hh4,g2,fun σ5 H5 Z5 hh5 t5=>?_⟩⟩
   cases fl with
   |nx=>exact⟨Z5,δ2,hh5,(tc.trans t4).trans t5,ec⟩
   |ct=>exact⟨Z5,δ2,hh5,(tc.trans t4).trans t5,ec⟩
   |bk=>cases ec;exact k σ5 H5 Z5 hh5 (((t1.trans tc).trans t4).trans t5)
   |rt d=>cases ec;exact k σ5 H5 Z5 hh5 (((t1.trans tc).trans t4).trans t5)
  ·have e2:ds.drop i=[]:=List.drop_eq_nil_iff.mpr (by omega)
   rw[e2]at ec;cases ec;exact .inl ⟨ok.stop i H2 zh (by omega),k σ2 H2 Zc hhc (t1.trans tc)⟩
theorem yT{K:Fg}{Z:Hp}{lo:Int}{n:Nat}:ItOk K Z (Gc lo n) (wv lo n) where
 go:=fun i H _ h=>by simpa[wv,Gc]using h
 yld:=fun i H x H' d _ e y=>by
  obtain⟨rfl,rfl⟩:=y;refine⟨rfl,?_⟩;unfold wv at e;rw[List.getElem?_map]at e;cases q:(List.range n)[i]? with
  |none=>rw[q]at e;cases e
  |some k=>
   rw[q]at e;cases e;have:k=i:=by
    obtain⟨h,h2⟩:=List.getElem?_eq_some_iff.mp q;simpa using h2.symm
   subst this;exact .int _
 stop:=fun i H _ h=>by simpa[wv,Gc]using h
theorem gn(hg:Gl X "range")(hm:X.mg "range" = none)(ha:AV X [a] fs)(hs:starEach [a] X.env=[(false,eval a X.env)]:=by rfl):IV X tg (.Call (.Name "range" p) [a] [] pos) (oL fs fH):=
 PI.imp (wB hg hm ha hs) fun σ H R h=>by
  obtain⟨H₀,Z₀,Z,δ,ds,hh,e,k⟩:=h;obtain⟨as,e1,e⟩:=bind_some e;refine⟨H₀,Z₀,Z,δ,as,hh,e1,fun vs Z1 H1 hh1 t1 r1=>?_⟩
  unfold fH at e;split at e
  ·rename_i j
   split at e
   ·rename_i hj
    cases e;cases r1 with
    |cons q1 q2=>
     cases q2;exact⟨j,by rw[q1.int_eq],hj.2,hj.1,k _ Z1 H1 hh1 t1 yT⟩
   ·cases e
  ·cases e
theorem BL(ha:EV X a f):IV X tg a (oI f yy):=
 PI.imp (A9 ha) fun σ H R h=>by
  obtain⟨H₀,Z₀,Z,δ,ds,hh,e,k⟩:=h;obtain⟨y,e1,e⟩:=bind_some e;refine⟨H₀,Z₀,Z,δ,y,hh,e1,fun v Z1 H1 hh1 t1 r1=>?_⟩
  cases r1 with
  | @lst l xs ds' h1 q1=>
   cases e;refine⟨l,rfl,⟨xs,SqL.same h1 hh1.zh⟩,k _ Z1 H1 hh1 t1 ⟨fun i H2 z hi=>?_,fun i H2 x H3 d z ed y=>?_,fun i H2 z hi=>⟨xs,SqL.same h1 z,by rw[q1.length];exact hi⟩⟩⟩
   ·have hi':i<xs.length:=by rw[q1.length];exact hi
    exact⟨xs,xs[i],SqL.same h1 z,by simp[hi']⟩
   ·obtain⟨rfl,y⟩:=y
    obtain⟨v,ev,rv⟩:=q1.get ed;have:=y xs (SqL.same h1 z);rw[ev]at this;cases this;exact⟨rfl,rv⟩
  |_=>cases e
theorem Fj(ha:EV X a f):IV X tg a (oI f IS):=
 PI.imp (DN ha) fun σ H R h=>by
  obtain⟨H₀,Z₀,Z,δ,ds,hh,e,k⟩:=h;obtain⟨y,e1,e⟩:=bind_some e;refine⟨H₀,Z₀,Z,δ,y,hh,e1,fun v Z1 H1 hh1 t1 r1=>?_⟩
  cases r1 with
  | @tup l xs ds' h1 q1=>
   cases e;refine⟨l,rfl,⟨xs,SqT.same h1 hh1.zh⟩,k _ Z1 H1 hh1 t1 ⟨fun i H2 z hi=>?_,fun i H2 x H3 d z ed y=>?_,fun i H2 z hi=>⟨xs,SqT.same h1 z,by rw[q1.length];exact hi⟩⟩⟩
   ·have hi':i<xs.length:=by rw[q1.length];exact hi
    exact⟨xs,xs[i],SqT.same h1 z,by simp[hi']⟩
   ·obtain⟨rfl,y⟩:=y
    obtain⟨v,ev,rv⟩:=q1.get ed;have:=y xs (SqT.same h1 z);rw[ev]at this;cases this;exact⟨rfl,rv⟩
  |_=>cases e
end
section
variable{X:Cx}{e:Expr}{lo hi:Option Expr}{p2 pos:Pos}{f:Dv->Option D}
noncomputable def KQ(K:Fg)(f:Dv->Option (Option Int)):TO:=fun σ H Q=>∃H₀ Z₀ Z δ d,Hold K H₀ Z₀ Z δ σ H/\f δ = some d/\∀Z' H',Hold K H₀ Z₀ Z' δ σ H'->Same Z Z'->Q d H'
def OV(X:Cx)(e:Option Expr)(f:Dv->Option (Option Int)):Prop:=PO X e (KQ X.K f)
theorem PO.imp{eo:Option Expr}{t t':TO}(h:PO X eo t)(i:∀ σ H Q,t' σ H Q->t σ H Q):PO X eo t':=fun pins s σ H Q I q=>h pins s σ H Q I (i _ _ _ q)
theorem lZ(h:EV X e f):OV X (some e) (oP f):=PO.imp (A8 h) fun σ H Q h=>by
 obtain⟨H₀,Z₀,Z,δ,d,hh,e,k⟩:=h;obtain⟨x,e1,e⟩:=bind_some e;refine⟨H₀,Z₀,Z,δ,x,hh,e1,fun v Z1 H1 hh1 t1 r1=>?_⟩
 cases r1<;>simp[asI]at e;subst e;exact⟨_,rfl,k Z1 H1 hh1 t1⟩
theorem Reps.cut{K:Fg}{Z:Hp}{vs:List V}{ds:List D}(r:Reps K Z vs ds)(lo hi:Option Int):Reps K Z (px vs lo hi) (tj ds lo hi):=by
 unfold px tj;rw[r.length];exact(r.drop _).take _
theorem uP{ds:List D}{lo hi:Option Int}(h1:HT.sIx ds.length 0 lo=0)(h2:HT.sIx ds.length ds.length hi=ds.length):tj ds lo hi=ds:=by
 unfold tj;rw[h1,h2];simp
section
variable{prog:Program}{w:World}{A:Around}{E:Value->Shared->Prop}{s:Shared}
theorem qp{t sl:Addr}{items:Array Value}{vl vu:Value}{lo hi:Option Int}{Q:Value->Shared->Prop}(ht:IsTup s.heap t items)(hs:s.heap.IsSliceOf sl vl vu .none)(pl:IsPart vl lo)(pu:IsPart vu hi)
  (h1:HT.sIx items.size 0 lo=0) (h2:HT.sIx items.size items.size hi=items.size) (h:Q (.ref t) s):wpAny (model prog w) A (getItem (.ref t) (.ref sl)) Q E s:=by
 obtain⟨osl,hos,hcs,hds⟩:=id hs;have ty:s.TypeIs (.ref sl) "slice":=⟨osl,hos,hcs⟩;unfold getItem
 try with_reducible refine wpAny_holding ?_
 first|refine wpAny_bind (wpAny_pure ?_)|skip
 refine wpAny_bind (wpAny_sequenceKey ht.typeIs (by decide) ?_);refine wpAny_bind (wpAny_callSpecial?_slot (name:=Str.ofString "__getitem__") ht.typeIs PyProof.Rows.slot_tuple_getitem
  (wpAny_call_entry PyProof.Rows.slot_tuple_getitem ht.typeIs PyProof.Rows.entry_tuple_getitem ?_ (PyProof.Rows.args_tuple_getitem _ _)))
 show wpAny _ _ (Builtin.Tuple.tupleItemsOf (.ref t) >>= _) _ _ s;refine wpAny_bind (tupleItemsOf_ ht ?_);refine wpAny_bind (wpAny_typeOf ty ?_);rw[if_pos (by decide)];refine wpAny_bind (HT.gh hs pl pu ?_);have yes:(((((HT.sIx items.size 0 lo:Nat):Int)==0)&&((1:Int)==1))&&((HT.sIx items.size items.size hi-HT.sIx items.size 0 lo)==items.size))=true:=by
  rw[h1,h2];simp
 show wpAny _ _ (if(((((HT.sIx items.size 0 lo:Nat):Int)==0)&&((1:Int)==1))&&((HT.sIx items.size items.size hi-HT.sIx items.size 0 lo)==items.size))=true then _ else _) _ _ s;rw[if_pos yes];unfold Builtin.Tuple.tupleIsExact;refine wpAny_bind (wpAny_bind (wpAny_typeOf ht.typeIs (wpAny_pure ?_)));rw[if_pos (by decide)];exact wpAny_bind (wpAny_rule (wpAny_pure ⟨_,rfl,wpAny_pure h⟩))
end
def Jn(K:PySem.W.Frag):V->Option Int->Option Int->Hp->VK->Prop:=fun x lo hi H Q=>∃a xs,x=.ref a/\SqT K H a xs/\HT.sIx xs.length 0 lo=0/\HT.sIx xs.length xs.length hi=xs.length/\Q (.ref a) H
theorem AL:SlR X (Jn X.K):=by
 intro pins s σ H x v vl vu lo hi sl Q I rx hs pl pu h;obtain⟨a,xs,rfl,hx,w1,w2,q⟩:=h;cases rx;obtain⟨its,r,ht,hz⟩:=I.tuple hx;have hlen:its.toArray.size=xs.length:=by rw[List.size_toArray];exact r.length.symm
 refine⟨"tuple",_,PyProof.Rows.slot_tuple_getitem.lookup,ht.typeIs,?_⟩;exact qp ht hs pl pu (by rw[hlen];exact w1) (by rw[hlen];exact w2) ⟨.ref a,H,I,rfl,q⟩
theorem sW{fl fu:Dv->Option (Option Int)}(he:EV X e f)(hl:OV X lo fl)(hu:OV X hi fu):EV X (.Subscript e (.Slice lo hi none p2) pos) (Js f fl fu):=
 PE.imp (yb (sl_list.or (sl_tup.or AL)) he hl hu) fun σ H Q h=>by
  obtain⟨H₀,Z₀,Z,δ,d,hh,e,k⟩:=h;obtain⟨x,e1,e⟩:=bind_some e;obtain⟨i,e2,e⟩:=bind_some e;obtain⟨j,e3,e⟩:=bind_some e;refine⟨H₀,Z₀,Z,δ,x,hh,e1,fun v Z1 H1 hh1 t1 r1=>⟨H₀,Z₀,Z1,δ,i,hh1,e2,fun Z2 H2 hh2 t2=>⟨H₀,Z₀,Z2,δ,j,hh2,e3,fun Z3 H3 hh3 t3=>?_⟩⟩⟩
  have r3:=(r1.same t2).same t3;have tt:=(t1.trans t2).trans t3;cases r3 with
  | @lst a xs ds h1 q1=>
   cases e;refine .inl ⟨_,_,rfl,SqL.same h1 hh3.zh,fun p hp=>?_⟩
   have n:=New.add hh3.zh hp (.lst (px xs i j));exact k _ _ _ (hh3.new n) (tt.trans n.z) (.lst (SqL.of aw) ((q1.cut i j).same n.z))
  | @tup a xs ds h1 q1=>
   simp only[FZ]at e;cases e;by_cases hw:HT.sIx ds.length 0 i=0/\HT.sIx ds.length ds.length j=ds.length
   ·refine .inr (.inr ⟨_,_,rfl,SqT.same h1 hh3.zh,by rw[q1.length];exact hw.1,by rw[q1.length];exact hw.2,?_⟩)
    refine k _ _ _ hh3 tt ?_;rw[uP hw.1 hw.2];exact .tup h1 q1
   ·refine .inr (.inl ⟨_,_,rfl,SqT.same h1 hh3.zh,by rw[q1.length];exact hw,fun p hp=>?_⟩)
    have n:=New.add hh3.zh hp (.tup (px xs i j));exact k _ _ _ (hh3.new n) (tt.trans n.z) (.tup (SqT.of aw) ((q1.cut i j).same n.z))
  |_=>cases e
end
structure FunV (K:PySem.W.Frag) (x qual:Str) (st:Stmt) (f:Addr) (fd:FuncData) (dV:Value):Prop where
 ex:∃(oc:Value) (od:Option Addr) (kV doc pm:Value) (an:Option Addr) (cdv ct:Value) (osl:Array (Option Value)),
  fd=PySem.W.fnOf x qual (eI st) (cx st) (ag st) dV kV doc pm an cdv ct/\K.lookup f=some ⟨oc,od,.func fd,osl⟩/\PySem.W.codeIn K cdv qual=true
 kp:PySem.W.keepIn K (.ref f)=true
section
variable{P:Program}{w:World}{K:PySem.W.Frag}{mg:Str->Option Value}{base:Heap}
theorem wc{N:List Str}{vs:List V}{as:List D}{Z:Hp}(r:Reps K Z vs as):∀(i:Nat) d,(az N as)[i]? = some (.fz d)->∃v,(cF N vs)[i]? = some (some v)/\Rep K Z v d:=by
 intro i d e;unfold az at e;unfold L2.cF;by_cases hi:i<as.length
 ·rw[List.getElem?_append_left (by simpa using hi),List.getElem?_map]at e
  cases q:as[i]? with
  |none=>rw[q]at e;cases e
  |some d'=>
   rw[q]at e;cases e;obtain⟨v,ev,rv⟩:=r.get q;exact⟨v,by rw[List.getElem?_append_left (by simpa[r.length]using hi),List.getElem?_map,ev];rfl,rv⟩
 ·rw[List.getElem?_append_right (by simpa using hi),List.getElem?_replicate]at e
  split at e<;>cases e
theorem kx{N:List Str}{as:List D}:∀(i:Nat) ds,(az N as)[i]? ≠ some (.own ds):=by
 intro i ds e;unfold az at e;by_cases hi:i<as.length
 ·rw[List.getElem?_append_left (by simpa using hi),List.getElem?_map]at e
  cases q:as[i]? with
  |none=>rw[q]at e;cases e
  |some d'=>rw[q]at e;cases e
 ·rw[List.getElem?_append_right (by simpa using hi),List.getElem?_replicate]at e
  split at e<;>cases e
theorem r9{N:List Str}{as:List D}:∀(i:Nat) ds,(az N as)[i]? ≠ some (.fr ds):=by
 intro i ds e;unfold az at e;by_cases hi:i<as.length
 ·rw[List.getElem?_append_left (by simpa using hi),List.getElem?_map]at e
  cases q:as[i]? with
  |none=>rw[q]at e;cases e
  |some d'=>rw[q]at e;cases e
 ·rw[List.getElem?_append_right (by simpa using hi),List.getElem?_replicate]at e
  split at e<;>cases e
theorem gP{N:List Str}{vs:List V}{as:List D}{Z H:Hp}(zh:Same Z H)(r:Reps K Z vs as):Hold K H Z Z (az N as) (cF N vs) H:=
 ⟨zh,Same.refl _,Same.refl _,fun _ _=>rfl,by simp[az,L2.cF,r.length],wc r,fun i ds e=>absurd e (kx i ds),fun i j ds es a _ e=>absurd e (kx i ds),fun i ds e=>absurd e (r9 i ds),NoF.refl _⟩
theorem JU{x qual:Str}{st:Stmt}{f:Addr}{fd:FuncData}{dV:Value}{N ps:List Str}{k:Nat}{g:List D->Option D}{b:Sf}(F:FunV K x qual st f fd dV)(S:FnScope N ps (ag st))(len:∀as d,g as=some d->as.length=ps.length)
  (hb:∀(cdv:Value) (A:Around) (outer:List Env) (s:Shared) (H:Hp) (E:XK),Room k (A.deeper (envOfC qual (ag st) s.heap.objs.size f cdv))->BV (nZ dE P w K mg base N qual (ag st) f cdv A outer s H E).nox (cx st) b)
  (hg:∀as d,g as=some d->∃ δ',b (az N as)=some (.rt d,δ')\/(d=.none/\b (az N as)=some (.nx,δ'))):FnOk P w K mg base dE (k+1) f fd ps (kW K g):=by
 obtain⟨oc,od,kV,doc,pm,an,cdv,ct,osl,rfl,lk,hcd⟩:=F.ex;refine sU lk hcd S (fun vs H Q E h=>?_) fun A outer s H vs Q E hr hsp=>?_
 ·obtain⟨Z,as,d,zh,r,e,_⟩:=h
  rw[r.length];exact len as d e
 ·refine⟨_,PSs.nox (hb cdv A outer s H E hr),?_⟩
  obtain⟨Z,as,d,zh,r,e,kk⟩:=hsp;have hh:=gP (N:=N) zh r;have fin:∀{σ':St} {H' Z':Hp} {δ':Dv},Hold K H Z Z' δ' σ' H'->Same Z Z'->New Z H Z' H':=fun h' z'=>⟨z',h'.h0,h'.zh,h'.zb,h'.nf⟩
  obtain⟨δ',e2|⟨rfl,e2⟩⟩:=hg as d e
  ·exact⟨H,Z,Z,_,_,hh,e2,fun σ' H' Z' h' z' v rv=>kk v Z' H' (fin h' z') rv⟩
  ·exact⟨H,Z,Z,_,_,hh,e2,fun σ' H' Z' h' z'=>kk _ Z' H' (fin h' z') .non⟩
theorem FunV.binds{x qual:Str}{st:Stmt}{f:Addr}{fd:FuncData}{ps:List Str}(F:FunV K x qual st f fd .none)
  (h:∀(kV doc pm:Value) (an:Option Addr) (cdv ct:Value) (us:List Value),us.length=ps.length->bindArgs (PySem.W.fnOf x qual (eI st) (cx st) (ag st) .none kV doc pm an cdv ct) ⟨us,[]⟩=pure (ps.zip us)):Binds K fd ps []:=by
 obtain⟨oc,od,kV,doc,pm,an,cdv,ct,osl,rfl,lk,hcd⟩:=F.ex;exact .all (h kV doc pm an cdv ct)
theorem q0{x qual:Str}{st:Stmt}{f:Addr}{dV oc:Value}{od an:Option Addr}{osl:Array (Option Value)}{kV doc pm cdv ct:Value}(l:K.lookup f=some ⟨oc,od,.func (PySem.W.fnOf x qual (eI st) (cx st) (ag st) dV kV doc pm an cdv ct),osl⟩)
  (c:PySem.W.codeIn K cdv qual=true) (k:PySem.W.keepIn K (.ref f)=true):FunV K x qual st f (PySem.W.fnOf x qual (eI st) (cx st) (ag st) dV kV doc pm an cdv ct) dV:=⟨⟨oc,od,kV,doc,pm,an,cdv,ct,osl,rfl,l,c⟩,k⟩
def u9(K:PySem.W.Frag):Sp:=fun vs H Q _=>∃(a:Addr) (ns:List Int),vs=[.ref a]/\SqL K H a (ns.map V.int)/\ns.length<=63/\∀H',Q (.bl true) H'
theorem Hn{g:List D->Option D}{k:Nat}{f:Addr}{fd:FuncData}(F:FnOk P w K mg base dE k f fd ["script"] (kW K g))(hg:∀ns:List Int,ns.length<=63->g [.list (ns.map .int)]=some (.bool true)):FnOk P w K mg base dE k f fd ["script"] (u9 K):=
 F.imp fun vs H Q E h=>by
  obtain⟨a,ns,rfl,hS,hl,q⟩:=h;exact⟨H,[.list (ns.map .int)],.bool true,Same.refl _,.cons (.lst hS (Reps.ints ns)) .nil,hg ns hl,fun v Z' H' _ r=>by cases r;exact q H'⟩
end
theorem Gi{k:Nat}{l:PySem.W.OpenLaw}{q:Program}{loose:List Str}{XP:(Str->Option Value)->Heap->Prop}{YP:World->Heap->Prop}{d:DefRec}{K:Params->PySem.W.Frag}(hn:l.most=some 63)(hr:Room k callerA)(hdf:d.params.defaults=[])
  (hY:∀(w:World) (h:Heap),YP w h->(K w.params).In h)
  (F:∀(w:World) (mg:Str->Option Value) (fa:Addr) (h:Heap),(K w.params).In h->h.Ns mainGlobals mg->mg d.name=some (.ref fa) ->
   ∃fd:FuncData,(∀(s:Shared) (u:Value),BindsTo s fd ⟨[u],[]⟩ [("script",u)])/\∀base:Heap,(K w.params).In base->base.Ns mainGlobals mg->FnOk l.prog w (K w.params) mg base dE k fa fd ["script"] (u9 (K w.params))) :
  PySem.W.WalkO q loose XP YP l.row.toRowW d [] (fun f vs=>PySem.call f vs):=
 L2.Au (n:=63) (k:=k) (x:="script") (CX:=fun _=>dE) (sp:=fun w=>u9 (K w.params)) hn (by decide) hdf hr hY F (fun _ _ a ns hl _ hS=>⟨a,ns,rfl,hS,hl,fun _=>rfl⟩) fun _ _ _ _ _ z=>z
section
variable{P:Program}{w:World}{K:PySem.W.Frag}{mg:Str->Option Value}{base:Heap}
theorem iT{x qual:Str}{st:Stmt}{f:Addr}{fd:FuncData}{dV:Value}{N ps:List Str}{k:Nat}{b:Sf}(F:FunV K x qual st f fd dV)(S:FnScope N ps (ag st))
  (hb:∀(cdv:Value) (A:Around) (outer:List Env) (s:Shared) (H:Hp) (E:XK),Room k (A.deeper (envOfC qual (ag st) s.heap.objs.size f cdv))->BV (nZ dE P w K mg base N qual (ag st) f cdv A outer s H E).nox (cx st) b) :
  FnOk P w K mg base dE (k+1) f fd ps (kW K (cD N ps.length b)):=by
 refine JU F S (fun as d h=>?_) hb fun as d h=>?_
 ·unfold cD at h
  split at h
  ·assumption
  ·cases h
 ·unfold cD at h
  split at h
  ·obtain⟨⟨fl,δ'⟩,e,h⟩:=bind_some h
   cases fl with
   |nx=>cases h;exact⟨δ',.inr ⟨rfl,e⟩⟩
   |rt d=>cases h;exact⟨δ',.inl e⟩
   |bk=>cases h
   |ct=>cases h
  ·cases h
structure Cal (P:Program) (w:World) (K:PySem.W.Frag) (mg:Str->Option Value) (base:Heap) (x:Str) (k:Nat) (g:List D->Option D) (dd:List D):Prop where
 ex:∃(fa:Addr) (fd:FuncData) (ps:List Str) (ds:List Value) (dv:List V),FnOk P w K mg base dE k fa fd ps (kW K g)/\mg x=some (.ref fa)/\PySem.W.keepIn K (.ref fa)=true/\Binds K fd ps ds/\Vals dv ds/\∀Z,Reps K Z dv dd
theorem Cal.mk0{x:Str}{k:Nat}{g:List D->Option D}{fa:Addr}{fd:FuncData}{ps:List Str}(F:FnOk P w K mg base dE k fa fd ps (kW K g))(hm:mg x=some (.ref fa))(hk:PySem.W.keepIn K (.ref fa)=true)(hb:Binds K fd ps []):Cal P w K mg base x k g []:=
 ⟨⟨fa,fd,ps,[],[],F,hm,hk,hb,.nil,fun _=>.nil⟩⟩
end
section
variable{X:Cx}{e:Expr}{es:List Expr}{p pos:Pos}{fs:Dv->Option (List D)}
theorem Fv{k:Nat}{x:Str}{g:List D->Option D}{dd:List D}(C:Cal X.prog X.w X.K X.mg X.base x k g dd)(hr:Room k X.A)(hg:Gl X x)(ha:AV X (e::es) fs)(hdb:(x==("__debug__":Str))=false:=by decide)(he:starEach (e::es) X.env=(false,eval e X.env)::starEach es X.env:=by rfl)
  (hpl:(backTo pos (starEach es X.env)).any (·.1)=false:=by rfl):EV X (.Call (.Name x p) (e::es) [] pos) (os fs fun as=>g (as++dd)):=by
 obtain⟨fa,fd,ps,ds,dv,F,hm,hk,hb,hd,hdd⟩:=C.ex;exact B0 F hr hg hm hk hb hd hdd pS ha hdb he hpl
variable{tg a:Expr}{f:Dv->Option D}
theorem dX(ha:EV X a f):IV X tg a (oI f dB):=by
 intro pins s σ H R I h;obtain⟨H₀,Z₀,Z,δ,ds,hh,e,k⟩:=h;obtain⟨y,e1,e⟩:=bind_some e;cases y with
 |list xs=>exact BL ha pins s σ H R I ⟨H₀,Z₀,Z,δ,ds,hh,by unfold oI;rw[e1];exact e,k⟩
 |tuple xs=>exact Fj ha pins s σ H R I ⟨H₀,Z₀,Z,δ,ds,hh,by unfold oI;rw[e1];exact e,k⟩
 |_=>cases e
end
noncomputable def jm(env:Env):List (Str×NameKind)->List (Str×Addr)->List (Str×Addr)
 |[],cs=>cs
 | (n,k)::r,cs=>if k == .free then jm env r ((n,(env.cells.lookup n).getD 0)::cs)else jm env r cs
theorem nP{env:Env}:∀(l:List (Str×NameKind)) (cs:List (Str×Addr)),(∀y∈l,y.2=.free->∃c,env.cells.lookup y.1=some c) ->
  (forIn l cs fun(x:Str×NameKind) (r:List (Str×Addr))=>(if(x.2==NameKind.free)=true then do let c <-cellOf env x.1;pure (ForInStep.yield ((x.1,c)::r))else pure (ForInStep.yield r):Sem (ForInStep (List (Str×Addr)))))=pure (jm env l cs)
 |[],cs,_=>rfl
 | (n,k)::r,cs,h=>by
  have ih:=fun cs'=>nP r cs' fun y hy=>h y (List.mem_cons_of_mem _ hy)
  rw[List.forIn_cons];cases hk:k==NameKind.free with
  |true=>
   have hk':k=.free:=by simpa using hk
   obtain⟨c,ec⟩:=h (n,k) List.mem_cons_self hk';have e1:cellOf env n=pure c:=by unfold cellOf;rw[ec]
   simp only[hk,if_true,e1,pure_bind,jm,ec,Option.getD_some];exact ih _
  |false=>
   simp only[hk,Bool.false_eq_true,if_false,pure_bind,jm];exact ih _
theorem f9{scope:Scope}{env:Env}(h:∀y∈scope.names,y.2=.free->∃c,env.cells.lookup y.1=some c):closureFor scope env=pure (jm env scope.names []):=by
 simp only[closureFor];have:=nP (env:=env) scope.names [] h
 first
  | (rw[this];rfl)
  | (simp only[this];rfl)
  | (unfold closureFor;simp_all)
theorem bQ{env:Env}:∀(l:List (Str×NameKind)) (cs:List (Str×Addr)) (y:Str) (c:Addr),(∀z∈l,z.2=.free->∃c,env.cells.lookup z.1=some c)->(jm env l cs).lookup y=some c->cs.lookup y=some c\/env.cells.lookup y=some c
 |[],cs,y,c,_,e=>.inl e
 | (n,k)::r,cs,y,c,h,e=>by
  unfold jm at e;have hr:=fun z hz=>h z (List.mem_cons_of_mem _ hz)
  split at e
  ·rename_i hk
   rcases bQ r _ y c hr e with q|q
   ·rw[List.lookup_cons]at q
    cases hy:y==n with
    |true=>
     have hy':y=n:=by simpa using hy
     subst hy';rw[hy]at q;obtain⟨c',ec⟩:=h (y,k) List.mem_cons_self (by simpa using hk);simp only[ec,Option.getD_some]at q;cases q;exact .inr ec
    |false=>rw[hy]at q;exact .inl q
   ·exact .inr q
  ·exact bQ r cs y c hr e
theorem j4{env:Env}:∀(l:List (Str×NameKind)) (cs:List (Str×Addr)) (y:Str),((y,NameKind.free)∈l\/(cs.lookup y).isSome=true)->((jm env l cs).lookup y).isSome=true
 |[],cs,y,h=>by
  rcases h with h|h
  ·cases h
  ·exact h
 | (n,k)::r,cs,y,h=>by
  unfold jm;split
  ·rename_i hk
   refine j4 r _ y ?_;rcases h with h|h
   ·rcases List.mem_cons.mp h with e|e
    ·cases e;exact .inr (by simp[List.lookup_cons])
    ·exact .inl e
   ·refine .inr ?_
    rw[List.lookup_cons];cases hy:y==n with
    |true=>rfl
    |false=>exact h
  ·rename_i hk
   refine j4 r cs y ?_;rcases h with h|h
   ·rcases List.mem_cons.mp h with e|e
    ·cases e;exact absurd rfl hk
    ·exact .inl e
   ·exact .inr h
theorem fI{env:Env}{y:Str}:∀(l:List (Str×NameKind)),(∀z∈l,z.2≠.cell) ->
  (((l.map fun(n,k)=>if(k==NameKind.free&&env.scope.kind == .function&&env.kindOf n==some .cell)then(n,NameKind.cell)else(n,k)).lookup y=some .cell\/(l.map fun(n,k)=>if(k==NameKind.free&&env.scope.kind == .function&&env.kindOf n==some .cell)then(n,NameKind.cell)else(n,k)).lookup y=some .free)↔l.lookup y=some .free)
 |[],_=>by simp
 | (n,k)::r,h=>by
  have ih:=fI (env:=env) (y:=y) r fun z hz=>h z (List.mem_cons_of_mem _ hz)
  have hk:k≠.cell:=h (n,k) List.mem_cons_self;rw[List.map_cons];cases hy:y==n with
  |true=>
   by_cases hc:(k==NameKind.free&&env.scope.kind == .function&&env.kindOf n==some .cell)=true
   ·have hf:k=.free:=by
     simp only[Bool.and_eq_true]at hc;simpa using hc.1.1
    simp only[if_pos hc,List.lookup_cons,hy];simp[hf]
   ·simp only[if_neg hc,List.lookup_cons,hy]
    simp[hk]
  |false=>
   by_cases hc:(k==NameKind.free&&env.scope.kind == .function&&env.kindOf n==some .cell)=true
   ·simp only[if_pos hc,List.lookup_cons,hy];exact ih
   ·simp only[if_neg hc,List.lookup_cons,hy];exact ih
noncomputable def dF(X:Cx)(scope:Scope)(N:List Str)(C:Addr)(s₀:Shared)(H₀:Hp)(ex:List Addr):Cx:=
 { X with N:=N,s₀:=s₀,H₀:=H₀,env:=compEnvC scope (jm X.env scope.names []) C X.env,outer:=X.stack,stack:=X.stack,ex:=ex,fn:=fun _=>false,pn:=[],xe:=fun _ _=>False }
structure BlkOk (on:List (Str×NameKind)) (ON:List Str) (scope:Scope) (vars:List Str) (caps:List (Nat×Str)):Prop where
 kind:scope.kind=.function
 cell:∀y∈scope.names,y.2≠.cell
 names:∀y∈scope.names,y.2=.local->scope.names.lookup y.1=some .local
 free:∀y∈scope.names,y.2=.free->on.lookup y.1=some .cell\/on.lookup y.1=some .free
 cap:∀p∈caps,ON[p.1]? = some p.2/\scope.names.lookup p.2=some .free
section
variable{X:Cx}{pins:List (Addr×Obj)}{σ:St}{H H':Hp}{s s':Shared}{scope:Scope}{vars:List Str}{caps:List (Nat×Str)}{fp:List Addr}{C:Addr}
noncomputable def fU(σ:St)(caps:List (Nat×Str)):St:=caps.map fun p=>(σ[p.1]?).getD none
theorem BlkOk.cells(B:BlkOk X.env.scope.names X.N scope vars caps)(I:Inv X pins σ H s):∀y∈scope.names,y.2=.free->∃c,X.env.cells.lookup y.1=some c:=fun y hy e=>I.ok.has y.1 (B.free y hy e)
theorem uT(B:BlkOk X.env.scope.names X.N scope vars caps)(I:Inv X pins σ H s)(hf:∀b∈fp,js X pins H b)(hlt:∀b∈fp,b<s.heap.objs.size)(hC:s.heap.objs.size<=C):(dF X scope (vars++caps.map (·.2)) C s H fp).Ok where
 mod:=I.ok.mod
 kind:=B.kind
 glob:=I.ok.glob
 blt:=I.ok.blt
 above:=hC
 inj:=fun x y c e1 e2=>by
  rcases bQ _ _ _ _ (B.cells I) e1 with q1|q1
  ·cases q1
  ·rcases bQ _ _ _ _ (B.cells I) e2 with q2|q2
   ·cases q2
   ·exact I.ok.inj x y c q1 q2
 has:=fun x e=>by
  have:scope.names.lookup x=some .free:=(fI scope.names B.cell).mp e;have:=j4 (env:=X.env) scope.names [] x (.inl (PySem.mem_of_lookup this));exact Option.isSome_iff_exists.mp this
 cab:=fun x c e=>nomatch e
 hd:=I.ok.hd
 frames:=I.ok.frames
 stk:=.inl rfl
 exf:=fun b hb=>⟨Nat.ne_of_lt (Nat.lt_of_lt_of_le (hlt b hb) hC),fun x c e=>by
  rcases bQ _ _ _ _ (B.cells I) e with q|q
  ·cases q
  ·exact(hf b hb).2.2.2.2.1 x c q⟩
 bs:=I.bs
 bsz:=Nat.le_trans I.ok.bsz I.sz
 noex:=fun b o e hb=>by
  rcases (hf b hb).2.2.2.1 with z|z
  ·exact I.ok.noex b o e z
  ·exact absurd (Nat.lt_of_lt_of_le (Heap.lt_size e) (Nat.le_trans I.ok.bsz z)) (Nat.lt_irrefl _)
 exfs:=fun b hb z=>by
  rcases List.mem_cons.mp (I.stkSub b z)with q|q
  ·exact(hf b hb).2.1 q
  ·exact(hf b hb).2.2.1 q
 funs:=I.stack
 frf:=I.stkFree
theorem vV(B:BlkOk X.env.scope.names X.N scope vars caps)(I:Inv X pins σ H s)(hf:∀b∈fp,js X pins H b)(hlt:∀b∈fp,b<s.heap.objs.size)(hC:s.heap.objs.size<=C){h₁:Heap}{m:Str->Option Value}{tk:Nat}(hns:h₁.Ns C m)(old:∀b o,s.heap.get? b=some o->h₁.get? b=some o):
  Inv (dF X scope (vars++caps.map (·.2)) C s H fp) [] (vars.map (fun _=>none)++fU σ caps) H { s with heap:=h₁,toks:=tk }:=by
 refine⟨uT B I hf hlt hC,rfl,I.bare,Un.kept old,⟨m,hns,fun i x v e1 e2 e3=>?_⟩,fun x c e=>?_,I.hok.fresh hC,fun x c e=>?_,fun p hp=>absurd (show p∈([]:List (Addr×Obj))from hp) (by simp),I.hok.kept old,?_⟩
 ·have e1:(vars++caps.map (·.2))[i]? = some x:=e1
  by_cases hi:i<vars.length
  ·rw[List.getElem?_append_left (by simpa using hi),List.getElem?_map]at e2
   cases q:vars[i]?<;>rw[q]at e2<;>cases e2
  ·rw[List.getElem?_append_right (by simpa using hi)]at e1 e2
   simp only[List.length_map]at e2;unfold fU at e2;rw[List.getElem?_map]at e1 e2;cases q:caps[i-vars.length]? with
   |none=>rw[q]at e1;cases e1
   |some p=>
    rw[q]at e1 e2;cases e1;have hp:=List.mem_of_getElem? q;obtain⟨g1,g2⟩:=B.cap p hp;have gf:X.env.scope.names.lookup p.2=some .cell\/X.env.scope.names.lookup p.2=some .free:=B.free (p.2,.free) (PySem.mem_of_lookup g2) rfl;have ev:σ[p.1]? = some (some v):=by
     have e2:(σ[p.1]?).getD none=some v:=Option.some.inj e2;cases z:σ[p.1]? with
     |none=>rw[z]at e2;cases e2
     |some w=>rw[z]at e2;rw[show w=some v from e2]
    obtain⟨m',_,hl⟩:=I.loc;obtain⟨u,r,l⟩:=hl p.1 p.2 v g1 ev (gf.elim (fun z=>.inr (.inl z)) fun z=>.inr (.inr z))
    refine⟨u,r,.inr ⟨?_,?_⟩⟩
    ·exact(fI scope.names B.cell).mpr g2
    ·rcases l with⟨z,_⟩|⟨_,c,ec,hc⟩
     ·have z:X.env.scope.names.lookup p.2=some .local:=z
      rcases gf with w|w<;>rw[z]at w<;>cases w
     ·obtain⟨c',q'⟩:=Option.isSome_iff_exists.mp (j4 (env:=X.env) scope.names [] p.2 (.inl (PySem.mem_of_lookup g2)))
      rcases bQ _ _ _ _ (B.cells I) q' with w|w
      ·cases w
      ·rw[ec]at w
       cases w;obtain⟨o,ho,hd⟩:=hc;exact⟨c,q',o,old c o ho,hd⟩
 ·rcases bQ _ _ _ _ (B.cells I) e with q|q
  ·cases q
  ·obtain⟨v,o,ho,hd⟩:=I.cell x c q
   exact⟨v,o,old c o ho,hd⟩
 ·rcases bQ _ _ _ _ (B.cells I) e with q|q
  ·cases q
  ·exact I.freeC x c q
 ·simp[dF,fU]
theorem vU(I:Inv X pins σ H s)(hf:∀b∈fp,js X pins H b){D:Addr}{s':Shared}{σ':St}{N:List Str}{ys:List V}{its:List Value}(hC:s.heap.objs.size<=C)(hD:s.heap.objs.size<=D)(hDC:D≠C)
  (J:Inv (dF X scope N C s H fp) [] σ' H' s') (hD':H' D=none) (hp:s'.heap.PlainList D its.toArray) (hv:Vals ys its) (hz:ys.length<=sizeLine) {h':Heap} (hs:Heap.SameBut C s'.heap h') :
  Inv X pins σ (upd H' D (.lst ys)) { s' with heap:=h' }:=by
 have U:Un (vK X.stack) fp H H' s.heap s'.heap:=J.base;have neC:∀b o,s.heap.get? b=some o->b≠C:=fun b o e=>Nat.ne_of_lt (Nat.lt_of_lt_of_le (Heap.lt_size e) hC)
 have neD:∀b o,s.heap.get? b=some o->b≠D:=fun b o e=>Nat.ne_of_lt (Nat.lt_of_lt_of_le (Heap.lt_size e) hD)
 have mv:∀b o,b≠C->s'.heap.get? b=some o->h'.get? b=some o:=fun b o hb e=>hs.extBut b o hb e
 have tD:∀b o,H' b=some o->(upd H' D (.lst ys)) b=some o:=fun b o e=>by rw[ak (aH e hD')];exact e
 refine I.call' (s':={ s' with heap:=h' }) (ch:=fp) J.os ⟨fun b o e n h1 h2=>mv b o (neC b o e) (U.keep b o e n h1 h2),fun b o e n h1 h2=>?_,fun b o e n h2=>?_,fun b o e h2=>?_,fun b xs e=>tD _ _ (U.tups b xs e),fun b o xs e=>tD _ _ (U.frzs b o xs e),fun b ps e=>?_⟩ (fun b o e=>?_) J.bare
  (fun b hb=>⟨(hf b hb).2.2.2.1,(hf b hb).2.1,(hf b hb).2.2.2.2.1,(hf b hb).2.2.2.2.2⟩)
 ·obtain⟨sl,q⟩:=U.slot b o e n h1 h2
  exact⟨sl,mv b _ (neC b o e) q⟩
 ·rw[ak (neD b o e)];exact U.free b o e n h2
 ·obtain⟨o',q⟩:=U.there b o e h2
  exact⟨o',mv b _ (neC b o e) q⟩
 ·obtain⟨more,q⟩:=U.tbls b ps e
  exact⟨more,tD _ _ q⟩
 ·by_cases hb:b=D
  ·subst hb
   rw[aw]at e;cases e;obtain⟨n,q⟩:=hp;exact⟨hz,its,n,hv,mv _ _ hDC q⟩
  ·rw[ak hb]at e
   refine(J.hok b o e).stay (fun c v hc q=>mv c v ?_ q) (fun c q=>tD _ _ q) fun c xs q=>tD _ _ q
   intro z;have fc:H' C=none:=J.free;rcases hc with w|w
   ·rw[<-w,z,fc]at e;cases e
   ·rw[z,fc]at w;cases w
theorem tw(elt target iter:Expr)(scope:Scope)(pos:Pos)(it acc:Value)(env:Env):
  compTurn (.ListComp elt [⟨target,iter,[],0⟩] scope pos) 0 it acc env=(standAt iter.pos >>= fun _=>pyNext it >>= fun r=>match r with
   |none=>pure (.done .next)
   |some v=>letOwnedTupleGo target it v >>= fun _=>assign target env v >>= fun _=>
    (eval elt env >>= fun x=>call (.builtin "list.append") [acc,x] >>= fun _=>pure ()) >>= fun _=>
     again (.compLoop (.ListComp elt [⟨target,iter,[],0⟩] scope pos) 0 it acc env)):=by rfl
def v3(σ σ':St):Prop:=σ.length = σ'.length/\∀(i:Nat) v,σ[i]? = some (some v) -> σ'[i]? = some (some v)
def uZ(wi:TI)(g:TG)(te:TE)(vars:List Str)(caps:List (Nat×Str)):TE:=fun σ H Q=>wi σ H fun J H1=>∃W:Nat->Nat->List V->Hp->Prop,(∃m,W 0 m [] H1)/\∀i m ys H,W i m ys H ->
 (J.stop i H/\ys.length<=sizeLine/\∀p,H p=none->Q (.ref p) (upd H p (.lst ys))) \/
 (J.go i H/\ys.length<sizeLine/\∀x H',J.yld i H x H'->g x (vars.map (fun _=>none)++fU σ caps) H' fun σ2 H2=>v3 (vars.map (fun _=>none)++fU σ caps) σ2/\te σ2 H2 fun y H3=>∃m',m'<m/\W (i+1) m' (ys++[y]) H3)
theorem lJ{prog:Program}{w:World}{A:Around}{R:Result->Shared->Prop}{s:Shared}{elt target iter:Expr}{scope:Scope}{pos:Pos}{it acc:Value}{env:Env}(I:Nat->Shared->Prop)
  (turn:∀n s,I n s->wpAny (model prog w) A (pyNext it) (fun r s₁=>match r with
   |none=>R (.ok .next) s₁
   |some v=>wpAny (model prog w) A (letOwnedTupleGo target it v) (fun _ s₁=>wpAny (model prog w) A (assign target env v) (fun _ s₂=>wpAny (model prog w) A (eval elt env) (fun x s₃=>
     wpAny (model prog w) A (call (.builtin "list.append") [acc,x]) (fun _ s₄=>∃m,m<n/\I m s₄) (fun _ _=>False) s₃) (fun _ _=>False) s₂) (fun _ _=>False) s₁) (fun _ _=>False) s₁) (fun _ _=>False) s)
  (n:Nat) (h:I n s):codeAny (model prog w) A (.compLoop (.ListComp elt [⟨target,iter,[],0⟩] scope pos) 0 it acc env) R s:=by
 refine codeAny_loop rfl I (fun n s hI=>?_) n h;show wpAny _ _ ((compTurn (.ListComp elt [⟨target,iter,[],0⟩] scope pos) 0 it acc env).onRaise (fun x=>do noteFrame x env;theTreesLotGoes x)) _ _ s;refine wpAny_noted ?_;rw[tw];refine wpAny_bind (wpAny_standAt (wpAny_bind (wpAny_mono (turn n s hI) (fun r s₁ h₁=>?_) fun _ _ h'=>h'.elim)))
 cases r with
 |none=>exact wpAny_pure h₁
 |some v=>
  refine wpAny_bind (wpAny_mono h₁ (fun _ s₁ h₁=>?_) fun _ _ h'=>h'.elim)
  exact wpAny_bind (wpAny_mono h₁ (fun _ s₂ h₂=>wpAny_bind (wpAny_bind (wpAny_mono h₂ (fun x s₃ h₃=>wpAny_bind (wpAny_mono h₃
   (fun _ s₄ h₄=>wpAny_pure (wpAny_pure ⟨rfl,h₄⟩)) fun _ _ h'=>h'.elim)) fun _ _ h'=>h'.elim))) fun _ _ h'=>h'.elim)
end
section
variable{X:Cx}{scope:Scope}{vars:List Str}{caps:List (Nat×Str)}{elt tg iter:Expr}{pos:Pos}{wi:TI}{g:TG}{te:TE}
theorem n6(B:BlkOk X.env.scope.names X.N scope vars caps)(hc:X.calm=true)
  (hg:∀C s₀ H₀ ex,PG (dF X scope (vars++caps.map (·.2)) C s₀ H₀ ex) tg g) (he:∀C s₀ H₀ ex,PE (dF X scope (vars++caps.map (·.2)) C s₀ H₀ ex) elt te)
  {pins:List (Addr×Obj)} {σ:St} {H2:Hp} {s2:Shared} {Q:VK} {it:Addr} {fp:List Addr} {tn:Nat->Heap->Prop} {J:It} (I2:Inv X pins σ H2 s2) (T:zL X.prog X.w X.K tg J fp it tn) (st2:tn 0 s2.heap) (f2:∀b∈fp,js X pins H2 b)
  {W:Nat->Nat->List V->Hp->Prop} {m0:Nat} (w0:W 0 m0 [] H2) (turn:∀i m ys H,W i m ys H ->
   (J.stop i H/\ys.length<=sizeLine/\∀p,H p=none->Q (.ref p) (upd H p (.lst ys))) \/
   (J.go i H/\ys.length<sizeLine/\∀x H',J.yld i H x H'->g x (vars.map (fun _=>none)++fU σ caps) H' fun σ2 H2=>v3 (vars.map (fun _=>none)++fU σ caps) σ2/\te σ2 H2 fun y H3=>∃m',m'<m/\W (i+1) m' (ys++[y]) H3))
  {RR:Value->Addr->Result->Shared->Prop} {E:Value->Shared->Prop}
  (hRR:∀D C s' m,s'.heap.Ns C m->D≠C->s2.heap.objs.size<=D->s2.heap.objs.size<=C->∀H',H' C=none->(∀h',Heap.SameBut C s'.heap h'->Inv X pins σ H' { s' with heap:=h' })->Q (.ref D) H'->RR (.ref D) C (.ok .next) s') :
  wpAny (model X.prog X.w) X.A (newList []) (fun acc s₃=>wpAny (model X.prog X.w) X.A (newFunctionEnv scope X.env.globals (jm X.env scope.names []) [] X.env.qual none .none (some X.env)) (fun cenv s₄=>
   codeAny (model X.prog X.w) X.A (.compStart (.ListComp elt [⟨tg,iter,[],0⟩] scope pos) 0 (.ref it) acc { cenv with scope:=relabel scope X.env }) (RR acc cenv.locals) s₄) E s₃) E s2:=by
 refine wpAny_newObj_type (wpAny_newFunctionEnv B.cell (by intro y hy;simp at hy) (fun h₁ hns₁ hsb₁=>?_) B.kind);dsimp only at hns₁ hsb₁ ⊢;generalize hP:s2.heap.push { cls:=.type "list",dict:=none,data:=.seq ([]:List Value).toArray }=HP at hns₁ hsb₁ ⊢;have hCs:HP.objs.size=s2.heap.objs.size+1:=by rw[<-hP,Heap.size_push]
 have hDC:s2.heap.objs.size≠HP.objs.size:=by rw[hCs];exact Nat.ne_of_lt (Nat.lt_succ_self _)
 have hCle:s2.heap.objs.size<=HP.objs.size:=by rw[hCs];exact Nat.le_succ _
 have old:∀b o,s2.heap.get? b=some o->h₁.get? b=some o:=fun b o e=>hsb₁.extBut b o (Nat.ne_of_lt (Nat.lt_of_lt_of_le (Heap.lt_size e) hCle)) (Heap.get?_push_of_some _ (hP ▸ Heap.get?_push_of_some _ e))
 have hacc:h₁.PlainList s2.heap.objs.size #[]:=⟨_,hsb₁.extBut _ _ hDC (Heap.get?_push_of_some _ (hP ▸ Heap.get?_push_size _ rfl))⟩;have flt:∀b∈fp,b<s2.heap.objs.size:=fun b hb=>by
  obtain⟨o,e,_⟩:=T.obj _ _ st2 b hb;exact Heap.lt_size e
 have st1:tn 0 h₁:=T.keep _ _ _ st2 fun b _ o e=>old b o e
 have loop:∀s3:Shared,s3={ s2 with heap:=h₁,toks:=s2.toks+([]:List (Str×Value)).length } ->
   codeAny (model X.prog X.w) X.A (.compLoop (.ListComp elt [⟨tg,iter,[],0⟩] scope pos) 0 (.ref it) (.ref s2.heap.objs.size) (compEnvC scope (jm X.env scope.names []) HP.objs.size X.env))
    (RR (.ref s2.heap.objs.size) HP.objs.size) s3:=by
  rintro s3 rfl;have X':=dF X scope (vars++caps.map (·.2)) HP.objs.size s2 H2 fp;have fpo:∀{H':Hp},(∀b∈fp,H' b=none)->∀b∈fp,js (dF X scope (vars++caps.map (·.2)) HP.objs.size s2 H2 fp) [] H' b:=fun hn b hb=>by
   have ok:=uT B I2 f2 flt hCle;exact⟨hn b hb,(ok.exf b hb).1,ok.exfs b hb,.inl hb,(ok.exf b hb).2,fun p hp=>absurd (show p∈([]:List (Addr×Obj))from hp) (by simp)⟩
  refine lJ (fun n s=>∃i ys H its,Inv (dF X scope (vars++caps.map (·.2)) HP.objs.size s2 H2 fp) [] (vars.map (fun _=>none)++fU σ caps) H s/\tn i s.heap/\(∀b∈fp,H b=none)/\s.heap.PlainList s2.heap.objs.size (List.toArray its)/\H s2.heap.objs.size=none/\Vals ys its/\W i n ys H) ?_ m0
   ⟨0,[],H2,[],vV B I2 f2 flt hCle hns₁ old,st1,fun b hb=>(f2 b hb).1,hacc,I2.hok.fresh (Nat.le_refl _),.nil,w0⟩
  rintro n s4 ⟨i,ys,H4,its,I4,st4,fr4,pl4,nD4,v4,w4⟩;obtain⟨nn,eD⟩:=id pl4;have DnL:s2.heap.objs.size≠(dF X scope (vars++caps.map (·.2)) HP.objs.size s2 H2 fp).env.locals:=hDC;have Dfs:s2.heap.objs.size ∉ (dF X scope (vars++caps.map (·.2)) HP.objs.size s2 H2 fp).fs:=fun z=>by
   rcases List.mem_cons.mp (I2.stkSub _ z)with q|q
   ·have:=I2.lt;rw[<-q]at this;exact Nat.lt_irrefl _ this
   ·exact I2.nofs (Nat.le_refl _) q
  have Dfp:∀b∈fp,s2.heap.objs.size≠b:=fun b hb z=>by have:=flt b hb;rw[<-z]at this;exact Nat.lt_irrefl _ this
  have DnC:∀x c,(dF X scope (vars++caps.map (·.2)) HP.objs.size s2 H2 fp).env.cells.lookup x=some c->c≠s2.heap.objs.size:=fun x c e z=>by
   rcases bQ _ _ _ _ (B.cells I2) e with q|q
   ·cases q
   ·obtain⟨v,o,ho,_⟩:=I2.cell x c q
    have:=Heap.lt_size ho;rw[z]at this;exact Nat.lt_irrefl _ this
  have pinD:∀{σ':St} {H':Hp} {s':Shared},Inv (dF X scope (vars++caps.map (·.2)) HP.objs.size s2 H2 fp) [(s2.heap.objs.size,{ cls:=.type "list",data:=.seq its.toArray nn })] σ' H' s'->s'.heap.PlainList s2.heap.objs.size its.toArray/\H' s2.heap.objs.size=none:=fun{σ' H' s'} I'=>by
   obtain⟨q1,q2,_⟩:=I'.pin (s2.heap.objs.size,{ cls:=.type "list",data:=.seq its.toArray nn }) (by simp[dF]);exact⟨⟨nn,q1⟩,q2⟩
  have I4p:Inv (dF X scope (vars++caps.map (·.2)) HP.objs.size s2 H2 fp) [(s2.heap.objs.size,{ cls:=.type "list",data:=.seq its.toArray nn })] (vars.map (fun _=>none)++fU σ caps) H4 s4:=
   I4.pins_of fun p hp=>by
    have e:p=(s2.heap.objs.size,{ cls:=.type "list",data:=.seq its.toArray nn }):=by simpa[dF]using hp
    subst e;exact⟨eD,nD4,DnL,Dfs,fun v z=>by cases z⟩
  have fpo':∀{H':Hp},(∀b∈fp,H' b=none)->∀b∈fp,js (dF X scope (vars++caps.map (·.2)) HP.objs.size s2 H2 fp) [(s2.heap.objs.size,{ cls:=.type "list",data:=.seq its.toArray nn })] H' b:=fun hn b hb=>by
   obtain⟨q1,q2,q3,q4,q5,_⟩:=fpo hn b hb;exact⟨q1,q2,q3,q4,q5,fun p hp=>by
    have e:p=(s2.heap.objs.size,{ cls:=.type "list",data:=.seq its.toArray nn }):=by simpa[dF]using hp
    subst e;exact Dfp b hb⟩
  have unp:∀{pl:List (Addr×Obj)} {σ':St} {H':Hp} {s':Shared},Inv (dF X scope (vars++caps.map (·.2)) HP.objs.size s2 H2 fp) pl σ' H' s'->Inv (dF X scope (vars++caps.map (·.2)) HP.objs.size s2 H2 fp) [] σ' H' s':=fun{pl σ' H' s'} I'=>
   I'.pins_of fun p hp=>absurd (show p∈([]:List (Addr×Obj))from hp) (by simp)
  rcases turn i n ys H4 w4 with⟨stop,hz,qn⟩|⟨go,hz,step⟩
  ·refine cn (T.done (dF X scope (vars++caps.map (·.2)) HP.objs.size s2 H2 fp) rfl rfl rfl hc i _ s4 _ H4 _ I4p (fpo' fr4) st4 stop) fun r s5 ⟨hr,I5⟩=>?_
   subst hr;obtain⟨p5,n5⟩:=pinD I5;obtain⟨m5,ns5,_⟩:=I5.loc;refine hRR _ _ s5 m5 ns5 hDC (Nat.le_refl _) hCle _ ?_ (fun h' hs'=>vU I2 f2 hCle (Nat.le_refl _) hDC (unp I5) n5 p5 v4 hz hs') (qn _ n5)
   rw[ak hDC.symm];exact I5.free
  ·refine cn (T.item (dF X scope (vars++caps.map (·.2)) HP.objs.size s2 H2 fp) rfl rfl rfl hc i _ s4 _ H4 _ I4p (fpo' fr4) st4 go) fun r s5 ⟨u,hr,h5⟩=>?_
   subst hr;refine cn h5 fun _ s6 ⟨x,H6,I6,rx,yx,st6,fr6⟩=>?_
   have I6p:=I6.pinned (fpo' fr6) (T.obj _ _ st6);refine cn (hg _ _ _ _ _ s6 _ H6 x u _ I6p rx (step x H6 yx)) fun _ s7 ⟨σ7,H7,I7,kp,q7⟩=>?_
   refine cn (he _ _ _ _ _ s7 σ7 H7 _ I7 q7) fun v s8 ⟨y,H8,I8,ry,m',hm,w8⟩=>?_
   obtain⟨p8,n8⟩:=pinD I8.unpinned;have st8:tn (i+1) s8.heap:=T.keep _ _ _ st6 fun b hb o e=>(I8.pin (b,o) (List.mem_append_right _ (List.mem_append_right _ (cW hb e)))).1
   have fr8:∀b∈fp,H8 b=none:=fun b hb=>by
    obtain⟨o,e,d⟩:=T.obj _ _ st6 b hb;exact(I8.pin (b,o) (List.mem_append_right _ (List.mem_append_right _ (cW hb e)))).2.1
   have hl:=v4.length;refine wpAny_list_append_plain p8 (fun h9 p9 sb9=>⟨m',hm,i+1,ys++[y],H8,its++[v],?_,?_,fr8,by simpa using p9,n8,v4.append (.cons ry .nil),w8⟩) (by simp;omega)
   ·have I9:Inv (dF X scope (vars++caps.map (·.2)) HP.objs.size s2 H2 fp) [] σ7 H8 { s8 with heap:=h9,toks:=s8.toks }:=
     (unp I8).turned (it:=s2.heap.objs.size) (fun b o hb e=>sb9.extBut b o hb e) n8 DnL (.inr (Nat.le_refl _)) DnC fun p hp=>absurd (show p∈([]:List (Addr×Obj))from hp) (by simp)
    exact I9.weak kp.1 kp.2
   ·exact T.keep _ _ _ st8 fun b hb o e=>sb9.extBut b o (Dfp b hb).symm e
 exact codeAny_compStart_list (loop _ rfl) (T.self _ 0 _ _ _ st1 (loop _ rfl))
theorem Bd(B:BlkOk X.env.scope.names X.N scope vars caps)(hc:X.calm=true)(hi:PI X tg iter wi)
  (hg:∀C s₀ H₀ ex,PG (dF X scope (vars++caps.map (·.2)) C s₀ H₀ ex) tg g) (he:∀C s₀ H₀ ex,PE (dF X scope (vars++caps.map (·.2)) C s₀ H₀ ex) elt te) (hs:∀x,foldedSetIterable iter X.env x=pure x:=by intro _;rfl) :
  PE X (.ListComp elt [⟨tg,iter,[],0⟩] scope pos) (uZ wi g te vars caps):=by
 intro pins s σ H Q I h;rw[eval_ListComp];refine wpAny_comprehension_free (use:=none) rfl hs (f9 (B.cells I)) B.kind B.names ?_;show wpAny _ _ (eval iter X.env) _ _ s;refine cn (hi pins s σ H _ I h) fun v s1 h1=>cn h1 fun itv s2 h2=>?_
 obtain⟨it,fp,tn,J,H2,e,I2,T,st2,f2,W,⟨m0,w0⟩,turn⟩:=h2;subst e;exact n6 B hc hg he I2 T st2 f2 w0 turn (RR:=fun acc C=>compPost (model X.prog X.w) X.A X.xe none (EP X pins σ Q) acc C) fun D C s' m ns _ _ _ H' _ k q=>⟨m,ns,fun h' hs'=>⟨.ref D,H',k h' hs',rfl,q⟩⟩
theorem vi{i:Nat}{y:Str}{py spos:Pos}(B:BlkOk X.env.scope.names X.N scope vars caps)(hc:X.calm=true)(hi:PI X tg iter wi)
  (hg:∀C s₀ H₀ ex,PG (dF X scope (vars++caps.map (·.2)) C s₀ H₀ ex) tg g) (he:∀C s₀ H₀ ex,PE (dF X scope (vars++caps.map (·.2)) C s₀ H₀ ex) elt te)
  (hN:X.N.Nodup) (hy:X.N[i]? = some y) (hx:rL X.env.scope y) (hsw:swapsWith (.ListComp elt [⟨tg,iter,[],0⟩] scope pos) (some (.Name y py)) spos.line X.env=pure true)
  (hf:X.fn y=true\/X.env.scope.names.lookup y=some .local) (hs:∀x,foldedSetIterable iter X.env x=pure x:=by intro _;rfl) :
  PS X (.Assign [.Name y py] (.ListComp elt [⟨tg,iter,[],0⟩] scope pos) spos) (fun D σ H=>uZ wi g te vars caps σ H fun v H1=>D.nx (σ.set i (some v)) H1):=by
 intro pins s σ H DE I h;rw[exec_Assign_Name_used _ _ _ _ hsw];refine wpAny_bind (wpAny_standAt (wpAny_bind ?_));show wpAny _ X.A (do let _ <-comprehension (.ListComp elt [⟨tg,iter,[],0⟩] scope pos) scope X.env _ (newList []) false (eval iter X.env) (some (assign (.Name y py) X.env))) _ _ s;refine wpAny_bind (wpAny_mono (wpAny_comprehension_free (use:=some (assign (.Name y py) X.env)) (Q:=fun _ s'=>SP X pins DE .next s') rfl hs (f9 (B.cells I)) B.kind B.names
  (cn (hi pins s σ H _ I h) fun v s1 h1=>cn h1 fun itv s2 h2=>?_)) (fun _ s' hq=>wpAny_pure (wpAny_pure hq)) fun _ _ e=>e)
 obtain⟨it,fp,tn,J,H2,e,I2,T,st2,f2,W,⟨m0,w0⟩,turn⟩:=h2;subst e;refine n6 (Q:=fun v H1=>DE.nx (σ.set i (some v)) H1) B hc hg he I2 T st2 f2 w0 turn (RR:=fun acc C=>compPost (model X.prog X.w) X.A X.xe (some (assign (.Name y py) X.env)) (fun _ s'=>SP X pins DE .next s') acc C) ?_
 intro D C s' m ns hDC hD hC H' hHC k q;obtain⟨oC,es,ep,eC,dC,rC⟩:=ns;have I':Inv X pins σ H' s':=k s'.heap (Heap.SameBut.refl ..);have nL:C≠X.env.locals:=fun z=>by have:=I2.lt;rw[<-z]at this;exact absurd (Nat.lt_of_lt_of_le this hC) (Nat.lt_irrefl _)
 have nF:C ∉ X.fs:=I2.nofs hC;have nCell:∀x c,X.env.cells.lookup x=some c->c≠C:=fun x c e z=>by
  obtain⟨v,o,ho,_⟩:=I2.cell x c e;have:=Heap.lt_size ho;rw[z]at this;exact absurd (Nat.lt_of_lt_of_le this hC) (Nat.lt_irrefl _)
 have nPin:∀p∈X.pn++pins,p.1≠C:=fun p hp z=>by
  have:=Heap.lt_size (I2.pin p hp).1;rw[z]at this;exact absurd (Nat.lt_of_lt_of_le this hC) (Nat.lt_irrefl _)
 have Ip:Inv X (pins++[(C,oC)]) σ H' s':=I'.pins_of fun p hp=>by
  rcases List.mem_append.mp hp with z|z
  ·exact I'.pin p (List.mem_append_right _ z)
  ·have e:p=(C,oC):=by simpa using z
   subst e;exact⟨eC,hHC,nL,nF,fun v z=>by rw[dC]at z;cases z⟩
 refine cn (cR (pos:=py) hN hy hx hf _ s' σ H' (.ref D) (.ref D) (fun σ' H''=>σ' = σ.set i (some (.ref D))/\H''=H'/\DE.nx σ' H'') Ip rfl ⟨rfl,rfl,q⟩) fun _ s'' ⟨σ'',H'',I'',e1,e2,q''⟩=>?_
 subst e1 e2;have eC'':s''.heap.get? C=some oC:=(I''.pin (C,oC) (List.mem_append_right _ (List.mem_append_right _ (by simp)))).1;refine⟨m,⟨oC,es,ep,eC'',dC,rC⟩,fun h' hs'=>⟨_,H'',?_,q''⟩⟩
 exact I''.unpinned.turned (t':=s''.toks) (it:=C) (fun b o hb e=>hs'.extBut b o hb e) hHC nL (.inr (Nat.le_trans I2.sz hC)) nCell nPin
end
noncomputable def GI:Option Sl->Sl
 |some (.fz d)=>.fz d
 |_=>.un
@[simp] theorem Jj(d:D):GI (some (.fz d))=.fz d:=rfl
noncomputable def dD(δ:Dv)(caps:List (Nat×Str)):Dv:=caps.map fun p=>GI δ[p.1]?
noncomputable def wH(f:D->Option D):List D->Option (List D)
 |[]=>some []
 |d::ds=>(f d).bind fun e=>(wH f ds).bind fun es=>some (e::es)
noncomputable def hJ(fi:Dv->Option (List D))(caps:List (Nat×Str))(bv:D->Option (List D))(fe:Dv->Option D):Dv->Option D:=fun δ=>(fi δ).bind fun ds=>if ds.length<=sizeLine then(wH (fun d=>(bv d).bind fun vs=>fe (vs.map .fz++dD δ caps)) ds).bind fun es=>some (.list es)else none
noncomputable def tR:D->Option (List D):=fun d=>some [d]
theorem iu{f:D->Option D}:∀{ds es:List D},wH f ds=some es->es.length=ds.length
 |[],es,h=>by cases h;rfl
 |d::ds,es,h=>by
  obtain⟨e,_,h⟩:=bind_some h;obtain⟨es',h2,h⟩:=bind_some h;cases h;exact congrArg (· + 1) (iu h2)
theorem nj{f:D->Option D}:∀{ds es:List D} {i:Nat} {d:D},wH f ds=some es->ds[i]? = some d->∃e,f d=some e/\es[i]? = some e
 |[],es,i,d,h,q=>by simp at q
 |d::ds,es,i,d',h,q=>by
  obtain⟨e,h1,h⟩:=bind_some h;obtain⟨es',h2,h⟩:=bind_some h;cases h;cases i with
  |zero=>simp at q;subst q;exact⟨e,h1,rfl⟩
  |succ i=>simp at q;obtain⟨e',g1,g2⟩:=nj (i:=i) h2 q;exact⟨e',g1,by simpa using g2⟩
def tL(K:Fg)(g:TG)(n:Nat)(bv:D->Option (List D)):Prop:=∀(x:V) (Z:Hp) (d:D) (vs:List D) (σc:St) (H:Hp) (R:St->Hp->Prop),Rep K Z x d->Same Z H->bv d=some vs->(∀us,Reps K Z us vs->us.length=n->R (us.map some ++ σc) H)->g x (List.replicate n none ++ σc) H R
theorem fD{K:Fg}:tL K (zp 0) 1 tR:=fun x Z d vs σc H R r zh e k=>by
 cases e;exact k [x] (.cons r .nil) rfl
section
variable{X:Cx}{scope:Scope}{vars:List Str}{caps:List (Nat×Str)}{elt tg iter:Expr}{pos:Pos}{g:TG}{fi:Dv->Option (List D)}{fe:Dv->Option D}{bv:D->Option (List D)}
theorem zG{σ:St}{δ:Dv}{K:Fg}{H₀ Z₀ Z H:Hp}(hh:Hold K H₀ Z₀ Z δ σ H):∀(j:Nat) d,(dD δ caps)[j]? = some (.fz d)->∃v,(fU σ caps)[j]? = some (some v)/\Rep K Z v d:=fun j d e=>by
 unfold dD at e;unfold fU;rw[List.getElem?_map]at e ⊢;cases q:caps[j]? with
 |none=>rw[q]at e;cases e
 |some p=>
  rw[q]at e;have e:GI δ[p.1]? = .fz d:=Option.some.inj e;cases z:δ[p.1]? with
  |none=>rw[z]at e;cases e
  |some sl=>
   rw[z]at e;cases sl with
   |fz d'=>
    cases e;obtain⟨v,g1,g2⟩:=hh.fz p.1 _ z;exact⟨v,by show some ((σ[p.1]?).getD none)=_;rw[g1];rfl,g2⟩
   |un=>cases e
   |own _=>cases e
   |fr _=>cases e
theorem Cd{δ:Dv}:∀(j:Nat) ds,(dD δ caps)[j]? ≠ some (.own ds):=fun j ds e=>by
 unfold dD at e;rw[List.getElem?_map]at e;cases q:caps[j]? with
 |none=>rw[q]at e;cases e
 |some p=>
  rw[q]at e;have e:GI δ[p.1]? = .own ds:=Option.some.inj e;cases z:δ[p.1]? with
  |none=>rw[z]at e;cases e
  |some sl=>rw[z]at e;cases sl<;>cases e
theorem Ce{δ:Dv}:∀(j:Nat) ds,(dD δ caps)[j]? ≠ some (.fr ds):=fun j ds e=>by
 unfold dD at e;rw[List.getElem?_map]at e;cases q:caps[j]? with
 |none=>rw[q]at e;cases e
 |some p=>
  rw[q]at e;have e:GI δ[p.1]? = .fr ds:=Option.some.inj e;cases z:δ[p.1]? with
  |none=>rw[z]at e;cases e
  |some sl=>rw[z]at e;cases sl<;>cases e
theorem oi{σ:St}{δ:Dv}{K:Fg}{H₀ Z₀ Z H:Hp}(hh:Hold K H₀ Z₀ Z δ σ H){us:List V}{vs:List D}(r:Reps K Z us vs):Hold K H Z Z (vs.map .fz++dD δ caps) (us.map some++fU σ caps) H:=by
 have hl:=r.length;refine⟨hh.zh,Same.refl _,Same.refl _,fun _ _=>rfl,by simp[dD,fU,hl],fun i d e=>?_,fun i ds e=>?_,fun i j ds es a _ e=>?_,fun i ds e=>?_,NoF.refl _⟩
 ·by_cases hi:i<vs.length
  ·rw[List.getElem?_append_left (by simpa using hi),List.getElem?_map]at e
   cases q:vs[i]? with
   |none=>rw[q]at e;cases e
   |some d'=>
    rw[q]at e;cases e;obtain⟨v,g1,g2⟩:=r.get q;exact⟨v,by rw[List.getElem?_append_left (by simpa[hl]using hi),List.getElem?_map,g1];rfl,g2⟩
  ·rw[List.getElem?_append_right (by simpa using hi)]at e
   obtain⟨v,g1,g2⟩:=zG hh _ d e;refine⟨v,?_,g2⟩;rw[List.getElem?_append_right (by simpa[hl]using hi)];simp only[List.length_map]at g1 ⊢;rw[hl];exact g1
 all_goals
  exfalso;by_cases hi:i<vs.length
  ·rw[List.getElem?_append_left (by simpa using hi),List.getElem?_map]at e
   cases q:vs[i]?<;>rw[q]at e<;>cases e
  ·rw[List.getElem?_append_right (by simpa using hi)]at e
   first|exact Cd _ _ e|exact Ce _ _ e
theorem wZ(tk:tL X.K g vars.length bv){σ:St}{H:Hp}{Q:VK}(h:tV X.K (hJ fi caps bv fe) σ H Q):uZ (Ik X.K fi) g (tV X.K fe) vars caps σ H Q:=by
 obtain⟨H₀,Z₀,Z,δ,d,hh,e,k⟩:=h;obtain⟨ds,e1,e⟩:=bind_some e;by_cases hz:ds.length<=sizeLine
 ·rw[if_pos hz]at e
  obtain⟨es,e2,e⟩:=bind_some e;cases e;have le:=iu e2;have hv:vars.map (fun _=>(none:Option V))=List.replicate vars.length none:=by rw[List.map_const']
  refine⟨H₀,Z₀,Z,δ,ds,hh,e1,fun J Z1 H1 hh1 t1 ok=>?_⟩
  refine⟨fun i m ys H=>m=ds.length-i/\i<=ds.length/\∃Zc,Hold X.K H₀ Z₀ Zc δ σ H/\Same Z1 Zc/\Reps X.K Zc ys (es.take i),⟨ds.length,by simp,Nat.zero_le _,Z1,hh1,Same.refl _,by simpa using .nil⟩,?_⟩
  rintro i m ys H2 ⟨rfl,hi2,Zc,hhc,tc,rc⟩;have zh:Same Z1 H2:=tc.trans hhc.zh;have ly:=rc.length;rw[List.length_take]at ly;by_cases hlt:i<ds.length
  ·refine .inr ⟨ok.go i H2 zh hlt,by omega,fun x H3 y=>?_⟩
   have ed:ds[i]? = some ds[i]:=by simp[hlt]
   obtain⟨rfl,rx⟩:=ok.yld i H2 x H3 _ zh ed y;obtain⟨ei,f1,f2⟩:=nj e2 ed;obtain⟨vs,f3,f1⟩:=bind_some f1;rw[hv];refine tk x Zc ds[i] vs (fU σ caps) H3 _ (rx.same tc) hhc.zh f3 fun us ru hn=>⟨⟨by simp[hn],fun j v q=>?_⟩,?_⟩
   ·by_cases hj:j<vars.length
    ·rw[List.getElem?_append_left (by simpa using hj),List.getElem?_replicate]at q
     split at q<;>cases q
    ·rw[List.getElem?_append_right (by simpa using hj)]at q
     rw[List.getElem?_append_right (by simpa[hn]using hj)];simpa[hn]using q
   ·refine⟨H3,Zc,Zc,_,ei,oi hhc ru,f1,fun v Z4 H4 h4 t4 r4=>⟨ds.length-(i+1),by omega,rfl,hlt,Z4,hhc.new ⟨t4,h4.h0,h4.zh,h4.zb,h4.nf⟩,tc.trans t4,?_⟩⟩
    have:es.take (i+1)=es.take i++[ei]:=by
     rw[List.take_add_one,f2];rfl
    rw[this];exact(rc.same t4).append (.cons r4 .nil)
  ·have hie:i=ds.length:=by omega
   subst hie;refine .inl ⟨ok.stop _ H2 zh (Nat.le_refl _),by omega,fun p hp=>?_⟩
   rw[<-le,List.take_length]at rc;have n:=New.add hhc.zh hp (.lst ys);exact k _ _ _ (hhc.new n) ((t1.trans tc).trans n.z) (.lst (SqL.of aw) (rc.same n.z))
 ·rw[if_neg hz]at e;cases e
theorem u7(i:Nat){y:Str}{py spos:Pos}(hN:X.N.Nodup)(B:BlkOk X.env.scope.names X.N scope vars caps)(hc:X.calm=true)(hi:IV X tg iter fi)(tk:tL X.K g vars.length bv)
  (hg:∀C s₀ H₀ ex,PG (dF X scope (vars++caps.map (·.2)) C s₀ H₀ ex) tg g) (he:∀C s₀ H₀ ex,EV (dF X scope (vars++caps.map (·.2)) C s₀ H₀ ex) elt fe)
  (hy:X.N[i]? = some y:=by rfl) (hx:rL X.env.scope y:=by first|exact Or.inl rfl|exact Or.inr rfl) (hsw:swapsWith (.ListComp elt [⟨tg,iter,[],0⟩] scope pos) (some (.Name y py)) spos.line X.env=pure true:=by rfl)
  (hf:X.fn y=true\/X.env.scope.names.lookup y=some .local:=by first|exact .inl rfl|exact .inr rfl|assumption) (hs:∀x,foldedSetIterable iter X.env x=pure x:=by intro _;rfl) :
  SV X (.Assign [.Name y py] (.ListComp elt [⟨tg,iter,[],0⟩] scope pos) spos) (cA i (hJ fi caps bv fe)):=
 PS.imp (vi (te:=tV X.K fe) B hc hi hg he hN hy hx hsw hf hs) fun D σ H h=>by
  obtain⟨H₀,Z₀,Z,δ,r,hh,e,k⟩:=h;obtain⟨x,e1,e⟩:=bind_some e;cases e;exact wZ tk ⟨H₀,Z₀,Z,δ,x,hh,e1,fun v Z1 H1 hh1 s1 r1=>k _ H1 Z1 (hh1.set r1) s1⟩
end
section
variable{X:Cx}{e:Expr}{es:List Expr}{p pos:Pos}{fs:Dv->Option (List D)}
theorem bZ{k:Nat}{x:Str}{g:List D->Option D}(C:Cal X.prog X.w X.K X.mg X.base x k g [])(hr:Room k X.A)(hg:Gl X x)(ha:AV X (e::es) fs)(hdb:(x==("__debug__":Str))=false:=by decide)(he:starEach (e::es) X.env=(false,eval e X.env)::starEach es X.env:=by rfl)
  (hpl:(backTo pos (starEach es X.env)).any (·.1)=false:=by rfl):EV X (.Call (.Name x p) (e::es) [] pos) (os fs g):=by
 have h:=Fv C hr hg ha hdb he hpl (p:=p) (pos:=pos);have e:(fun as=>g (as++[]))=g:=by funext as;rw[List.append_nil]
 rw[e]at h;exact h
end
noncomputable def va:Option Sl->Option (List D)
 |some (.own (.l ds))=>some ds
 |_=>none
@[simp] theorem Jh(ds:List D):va (some (.ow ds))=some ds:=rfl
theorem il{o:Option Sl}{ds:List D}(h:va o=some ds):o=some (.ow ds):=by
 cases o with
 |none=>cases h
 |some x=>
  cases x with
  |own c=>
   cases c with
   |l es=>cases h;rfl
   |d es=>cases h
  |un=>cases h
  |fz d=>cases h
  |fr _=>cases h
@[simp] noncomputable def Dx(i:Nat)(fs:Dv->Option (List D)):Sf:=fun δ=>(fs δ).bind fun ds=>if ds.length<=sizeLine then some (.nx,δ.set i (.ow ds))else none
@[simp] noncomputable def jP(i:Nat)(f:Dv->Option D):Dv->Option D:=fun δ=>(va δ[i]?).bind fun ds=>(f δ).bind fun k=>aW (.list ds) k
@[simp] noncomputable def CH(i:Nat):Dv->Option D:=fun δ=>(va δ[i]?).bind fun ds=>some (.int ds.length)
noncomputable def mQ(ds:List D)(k v:D):Option (List D):=match k with
 |.int j=>(nC ds.length j).map fun n=>ds.set n v
 |_=>none
@[simp] theorem sy(ds:List D)(j:Int)(v:D):mQ ds (.int j) v=(nC ds.length j).map fun n=>ds.set n v:=rfl
@[simp] noncomputable def je(i:Nat)(fk fv:Dv->Option D):Sf:=fun δ=>(fv δ).bind fun v=>(fk δ).bind fun k=>(va δ[i]?).bind fun ds=>(mQ ds k v).bind fun ds'=>some (.nx,δ.set i (.ow ds'))
@[simp] noncomputable def DA(i:Nat)(f:Dv->Option D):Sf:=fun δ=>(f δ).bind fun v=>(va δ[i]?).bind fun ds=>if ds.length<sizeLine then some (.nx,δ.set i (.ow (ds++[v])))else none
section
variable{X:Cx}{e b:Expr}{es:List Expr}{p pos tpos apos:Pos}{fs:Dv->Option (List D)}{f fk fv:Dv->Option D}
theorem xC(i:Nat){x:Str}{pos':Pos}(hN:X.N.Nodup)(ha:AV X es fs)(hi:X.N[i]? = some x:=by rfl)(hx:rL X.env.scope x:=by first|exact Or.inl rfl|exact Or.inr rfl)(hs:swapsWith (.List es p) (some (.Name x pos')) pos.line X.env=pure false:=by rfl)
  (hf:X.fn x=true\/X.env.scope.names.lookup x=some .local:=by first|exact .inl rfl|exact .inr rfl|assumption):SV X (.Assign [.Name x pos'] (.List es p) pos) (Dx i fs):=
 PS.imp (gH hN hi hx (uo ha) hs hf) fun D σ H h=>by
  obtain⟨H₀,Z₀,Z,δ,r,hh,e,k⟩:=h;obtain⟨ds,e1,e⟩:=bind_some e;by_cases hl:ds.length<=sizeLine
  ·rw[if_pos hl]at e
   cases e;exact⟨H₀,Z₀,Z,δ,ds,hh,e1,fun vs Z1 H1 hh1 t1 r1=>⟨by rw[r1.length];exact hl,fun p hp=>k _ _ Z1 (hh1.setO hp r1) t1⟩⟩
  ·rw[if_neg hl]at e;cases e
theorem mT{K:Fg}{H₀ Z₀ Z:Hp}{δ:Dv}{σ:St}{H:Hp}(hh:Hold K H₀ Z₀ Z δ σ H){i:Nat}{ds:List D}(h:va δ[i]? = some ds):∃a xs,σ[i]? = some (some (V.ref a))/\H a=some (.lst xs)/\Reps K Z xs ds:=by
 obtain⟨a,xs,h1,_,_,h4,h5⟩:=hh.ow i ds (il h);exact⟨a,xs,h1,h4,h5⟩
theorem dZ(i:Nat){x:Str}(hb:EV X b f)(hs:rH b)(hN:X.N[i]? = some x:=by rfl)(hv:oH X.env.scope x:=by first|exact Or.inl rfl|exact Or.inr (Or.inl rfl)|exact Or.inr (Or.inr rfl))(hd:(x==("__debug__":Str))=false:=by decide)(hcd:(x==("__classdict__":Str))=false:=by decide):
  EV X (.Subscript (.Name x p) b pos) (jP i f):=
 PE.imp (CC ix_list (cf hN hv hd hcd) hb hs) fun σ H Q h=>by
  obtain⟨H₀,Z₀,Z,δ,d,hh,e,k⟩:=h;obtain⟨ds,e1,e⟩:=bind_some e;obtain⟨y,e2,e⟩:=bind_some e;obtain⟨a,xs,h1,h4,h5⟩:=mT hh e1;refine⟨_,h1,H₀,Z₀,Z,δ,y,hh,e2,fun v Z1 H1 hh1 t1 r1=>?_⟩
  obtain⟨a',xs',g1,g4,g5⟩:=mT hh1 e1;rw[h1]at g1;cases g1;cases r1 with
  |int j=>
   obtain⟨w,ew,rw'⟩:=g5.at e;exact⟨_,_,_,w,rfl,rfl,SqL.of g4,ew,k w Z1 H1 hh1 t1 rw'⟩
  |_=>cases e
theorem BY(i:Nat){x:Str}{p2:Pos}(hg:Gl X "len")(hm:X.mg "len" = none)(hN:X.N[i]? = some x:=by rfl)(hv:oH X.env.scope x:=by first|exact Or.inl rfl|exact Or.inr (Or.inl rfl)|exact Or.inr (Or.inr rfl))(hd:(x==("__debug__":Str))=false:=by decide)(hcd:(x==("__classdict__":Str))=false:=by decide)
  (he:starEach [.Name x p2] X.env=(false,eval (.Name x p2) X.env)::starEach [] X.env:=by rfl) (hpl:(backTo pos (starEach [] X.env)).any (·.1)=false:=by rfl):EV X (.Call (.Name "len" p) [.Name x p2] [] pos) (CH i):=
 PE.imp (iq tG hg hm PySem.boot_len (cH (cf hN hv hd hcd) f7 he) (by decide) (by decide) he hpl) fun σ H Q h=>by
  obtain⟨H₀,Z₀,Z,δ,d,hh,e,k⟩:=h;obtain⟨ds,e1,e⟩:=bind_some e;cases e;obtain⟨a,xs,h1,h4,h5⟩:=mT hh e1;exact⟨_,h1,_,_,rfl,.inl ⟨xs,SqL.of h4,rfl⟩,k _ Z H hh (Same.refl _) (by rw[h5.length];exact .int _)⟩
theorem xF(i:Nat){x:Str}{cpos:Pos}(hv':EV X e f)(hN:X.N[i]? = some x:=by rfl)(hv:oH X.env.scope x:=by first|exact Or.inl rfl|exact Or.inr (Or.inl rfl)|exact Or.inr (Or.inr rfl))(hd:(x==("__debug__":Str))=false:=by decide)(hcd:(x==("__classdict__":Str))=false:=by decide)
  (hbase:attributeBase (.Name x p) "append" X.env (eval (.Name x p) X.env)=eval (.Name x p) X.env:=by rfl)
  (hfew:((backTo cpos (starEach [e] X.env)).all (fun x=>!x.1)&&(backToKw cpos (keywordEach [] X.env)).all (fun x=>x.1.isSome)
   && decide ([e].length+([]:List Keyword).length+(if([]:List Keyword).isEmpty then 0 else 1)<30))=true:=by rfl)
  (hline:(apos.endLine==cpos.line)=true:=by rfl) (hs:starEach [e] X.env=(false,eval e X.env)::starEach [] X.env:=by rfl) (hplain:(backTo cpos (starEach [] X.env)).any (·.1)=false:=by rfl)
  (hsw:swapsWith (.Call (.Attribute (.Name x p) "append" apos) [e] [] cpos) none pos.line X.env=pure false:=by rfl):SV X (.Expr (.Call (.Attribute (.Name x p) "append" apos) [e] [] cpos) pos) (DA i f):=
 PS.imp (iN (yf PySem.F.plainAttrs_list PySem.F.slot_list_append PySem.F.type_list_append pV (cf hN hv hd hcd) (cH hv' f7 hs) hbase hfew hline hs hplain) hsw) fun D σ H h=>by
  obtain⟨H₀,Z₀,Z,δ,r,hh,e,k⟩:=h;obtain⟨v,e1,e⟩:=bind_some e;obtain⟨ds,e2,e⟩:=bind_some e;by_cases hl:ds.length<sizeLine
  ·rw[if_pos hl]at e
   cases e;obtain⟨a,xs,h1,h4,h5⟩:=mT hh e2;refine⟨_,h1,.inl ⟨rfl,xs,SqL.of h4⟩,H₀,Z₀,Z,δ,v,hh,e1,fun w Z1 H1 hh1 t1 r1=>?_⟩
   obtain⟨a',xs',g1,g4,g5⟩:=mT hh1 e2;rw[h1]at g1;cases g1;exact⟨a,xs',w,rfl,rfl,g4,by rw[g5.length];exact hl,k σ _ Z1 (hh1.chg (xs:=xs') (il e2) h1 (g5.append (.cons r1 .nil))) t1⟩
  ·rw[if_neg hl]at e;cases e
end
section
def xy(wi:TI)(g:TG)(tt:TT)(te:TE)(vars:List Str)(caps:List (Nat×Str)):TE:=fun σ H Q=>wi σ H fun J H1=>∃W:Nat->Nat->List V->Hp->Prop,(∃m,W 0 m [] H1)/\∀i m ys H,W i m ys H ->
 (J.stop i H/\ys.length<=sizeLine/\∀p,H p=none->Q (.ref p) (upd H p (.lst ys))) \/
 (J.go i H/\ys.length<sizeLine/\∀x H',J.yld i H x H'->g x (vars.map (fun _=>none)++fU σ caps) H' fun σ2 H2=>v3 (vars.map (fun _=>none)++fU σ caps) σ2/\tt σ2 H2 fun b H3=>if b=true then te σ2 H3 fun y H4=>∃m',m'<m/\W (i+1) m' (ys++[y]) H4 else ∃m',m'<m/\W (i+1) m' ys H3)
theorem kP{prog:Program}{w:World}{A:Around}{R:Result->Shared->Prop}{s:Shared}{elt target iter cnd:Expr}{scope:Scope}{pos:Pos}{it acc:Value}{env:Env}(I:Nat->Shared->Prop)
  (turn:∀n s,I n s->wpAny (model prog w) A (pyNext it) (fun r s₁=>match r with
   |none=>R (.ok .next) s₁
   |some v=>wpAny (model prog w) A (letOwnedTupleGo target it v) (fun _ s₁=>wpAny (model prog w) A (assign target env v) (fun _ s₂=>wpAny (model prog w) A (isTrue cnd env (eval cnd env)) (fun ok s₂=>if ok=true then wpAny (model prog w) A (eval elt env) (fun x s₃=>
     wpAny (model prog w) A (call (.builtin "list.append") [acc,x]) (fun _ s₄=>∃m,m<n/\I m s₄) (fun _ _=>False) s₃) (fun _ _=>False) s₂ else ∃m,m<n/\I m s₂) (fun _ _=>False) s₂) (fun _ _=>False) s₁) (fun _ _=>False) s₁) (fun _ _=>False) s)
  (n:Nat) (h:I n s):codeAny (model prog w) A (.compLoop (.ListComp elt [⟨target,iter,[cnd],0⟩] scope pos) 0 it acc env) R s:=by
 refine codeAny_loop rfl I (fun n s hI=>?_) n h;show wpAny _ _ ((compTurn (.ListComp elt [⟨target,iter,[cnd],0⟩] scope pos) 0 it acc env).onRaise (fun x=>do noteFrame x env;theTreesLotGoes x)) _ _ s;refine wpAny_noted ?_;rw[compTurn_list];refine wpAny_bind (wpAny_standAt (wpAny_bind (wpAny_mono (turn n s hI) (fun r s₁ h₁=>?_) fun _ _ h'=>h'.elim)))
 cases r with
 |none=>exact wpAny_pure h₁
 |some v=>
  refine wpAny_bind (wpAny_mono h₁ (fun _ s₁ h₁=>?_) fun _ _ h'=>h'.elim)
  refine wpAny_bind (wpAny_mono h₁ (fun _ s₂ h₂=>?_) fun _ _ h'=>h'.elim)
  refine wpAny_bind (wpAny_tests_one (wpAny_mono h₂ (fun okb s₃ h₃=>?_) fun _ _ h'=>h'.elim))
  cases okb with
  |false=>exact wpAny_pure ⟨rfl,h₃⟩
  |true=>exact wpAny_bind (wpAny_bind (wpAny_mono h₃ (fun x s₄ h₄=>wpAny_bind (wpAny_mono h₄ (fun _ s₅ h₅=>wpAny_pure (wpAny_pure ⟨rfl,h₅⟩)) fun _ _ h'=>h'.elim)) fun _ _ h'=>h'.elim))
end
section
variable{X:Cx}{scope:Scope}{vars:List Str}{caps:List (Nat×Str)}{elt tg iter cnd:Expr}{pos:Pos}{wi:TI}{g:TG}{tt:TT}{te:TE}
theorem tm{Cm:Cx->Prop}(B:BlkOk X.env.scope.names X.N scope vars caps)
  (hg:∀C s₀ H₀ ex,PG (dF X scope (vars++caps.map (·.2)) C s₀ H₀ ex) tg g) (hb:∀C s₀ H₀ ex,PT (dF X scope (vars++caps.map (·.2)) C s₀ H₀ ex) cnd tt) (he:∀C s₀ H₀ ex,PE (dF X scope (vars++caps.map (·.2)) C s₀ H₀ ex) elt te)
  {pins:List (Addr×Obj)} {σ:St} {H2:Hp} {s2:Shared} {Q:VK} {it:Addr} {fp:List Addr} {tn:Nat->Heap->Prop} {J:It} (I2:Inv X pins σ H2 s2) (T:TurnG Cm X.prog X.w X.K tg J fp it tn) (st2:tn 0 s2.heap) (f2:∀b∈fp,js X pins H2 b) (hc:∀C,Cm (dF X scope (vars++caps.map (·.2)) C s2 H2 fp))
  {W:Nat->Nat->List V->Hp->Prop} {m0:Nat} (w0:W 0 m0 [] H2) (turn:∀i m ys H,W i m ys H ->
   (J.stop i H/\ys.length<=sizeLine/\∀p,H p=none->Q (.ref p) (upd H p (.lst ys))) \/
   (J.go i H/\ys.length<sizeLine/\∀x H',J.yld i H x H'->g x (vars.map (fun _=>none)++fU σ caps) H' fun σ2 H2=>v3 (vars.map (fun _=>none)++fU σ caps) σ2/\tt σ2 H2 fun b H3=>if b=true then te σ2 H3 fun y H4=>∃m',m'<m/\W (i+1) m' (ys++[y]) H4 else ∃m',m'<m/\W (i+1) m' ys H3))
  {RR:Value->Addr->Result->Shared->Prop} {E:Value->Shared->Prop}
  (hRR:∀D C s' m,s'.heap.Ns C m->D≠C->s2.heap.objs.size<=D->s2.heap.objs.size<=C->∀H',H' C=none->(∀h',Heap.SameBut C s'.heap h'->Inv X pins σ H' { s' with heap:=h' })->Q (.ref D) H'->RR (.ref D) C (.ok .next) s') :
  wpAny (model X.prog X.w) X.A (newList []) (fun acc s₃=>wpAny (model X.prog X.w) X.A (newFunctionEnv scope X.env.globals (jm X.env scope.names []) [] X.env.qual none .none (some X.env)) (fun cenv s₄=>
   codeAny (model X.prog X.w) X.A (.compStart (.ListComp elt [⟨tg,iter,[cnd],0⟩] scope pos) 0 (.ref it) acc { cenv with scope:=relabel scope X.env }) (RR acc cenv.locals) s₄) E s₃) E s2:=by
 refine wpAny_newObj_type (wpAny_newFunctionEnv B.cell (by intro y hy;simp at hy) (fun h₁ hns₁ hsb₁=>?_) B.kind);dsimp only at hns₁ hsb₁ ⊢;generalize hP:s2.heap.push { cls:=.type "list",dict:=none,data:=.seq ([]:List Value).toArray }=HP at hns₁ hsb₁ ⊢;have hCs:HP.objs.size=s2.heap.objs.size+1:=by rw[<-hP,Heap.size_push]
 have hDC:s2.heap.objs.size≠HP.objs.size:=by rw[hCs];exact Nat.ne_of_lt (Nat.lt_succ_self _)
 have hCle:s2.heap.objs.size<=HP.objs.size:=by rw[hCs];exact Nat.le_succ _
 have old:∀b o,s2.heap.get? b=some o->h₁.get? b=some o:=fun b o e=>hsb₁.extBut b o (Nat.ne_of_lt (Nat.lt_of_lt_of_le (Heap.lt_size e) hCle)) (Heap.get?_push_of_some _ (hP ▸ Heap.get?_push_of_some _ e))
 have hacc:h₁.PlainList s2.heap.objs.size #[]:=⟨_,hsb₁.extBut _ _ hDC (Heap.get?_push_of_some _ (hP ▸ Heap.get?_push_size _ rfl))⟩;have flt:∀b∈fp,b<s2.heap.objs.size:=fun b hb=>by
  obtain⟨o,e,_⟩:=T.obj _ _ st2 b hb;exact Heap.lt_size e
 have st1:tn 0 h₁:=T.keep _ _ _ st2 fun b _ o e=>old b o e
 have loop:∀s3:Shared,s3={ s2 with heap:=h₁,toks:=s2.toks+([]:List (Str×Value)).length } ->
   codeAny (model X.prog X.w) X.A (.compLoop (.ListComp elt [⟨tg,iter,[cnd],0⟩] scope pos) 0 (.ref it) (.ref s2.heap.objs.size) (compEnvC scope (jm X.env scope.names []) HP.objs.size X.env))
    (RR (.ref s2.heap.objs.size) HP.objs.size) s3:=by
  rintro s3 rfl;have X':=dF X scope (vars++caps.map (·.2)) HP.objs.size s2 H2 fp;have fpo:∀{H':Hp},(∀b∈fp,H' b=none)->∀b∈fp,js (dF X scope (vars++caps.map (·.2)) HP.objs.size s2 H2 fp) [] H' b:=fun hn b hb=>by
   have ok:=uT B I2 f2 flt hCle;exact⟨hn b hb,(ok.exf b hb).1,ok.exfs b hb,.inl hb,(ok.exf b hb).2,fun p hp=>absurd (show p∈([]:List (Addr×Obj))from hp) (by simp)⟩
  refine kP (fun n s=>∃i ys H its,Inv (dF X scope (vars++caps.map (·.2)) HP.objs.size s2 H2 fp) [] (vars.map (fun _=>none)++fU σ caps) H s/\tn i s.heap/\(∀b∈fp,H b=none)/\s.heap.PlainList s2.heap.objs.size (List.toArray its)/\H s2.heap.objs.size=none/\Vals ys its/\W i n ys H) ?_ m0
   ⟨0,[],H2,[],vV B I2 f2 flt hCle hns₁ old,st1,fun b hb=>(f2 b hb).1,hacc,I2.hok.fresh (Nat.le_refl _),.nil,w0⟩
  rintro n s4 ⟨i,ys,H4,its,I4,st4,fr4,pl4,nD4,v4,w4⟩;obtain⟨nn,eD⟩:=id pl4;have DnL:s2.heap.objs.size≠(dF X scope (vars++caps.map (·.2)) HP.objs.size s2 H2 fp).env.locals:=hDC;have Dfs:s2.heap.objs.size ∉ (dF X scope (vars++caps.map (·.2)) HP.objs.size s2 H2 fp).fs:=fun z=>by
   rcases List.mem_cons.mp (I2.stkSub _ z)with q|q
   ·have:=I2.lt;rw[<-q]at this;exact Nat.lt_irrefl _ this
   ·exact I2.nofs (Nat.le_refl _) q
  have Dfp:∀b∈fp,s2.heap.objs.size≠b:=fun b hb z=>by have:=flt b hb;rw[<-z]at this;exact Nat.lt_irrefl _ this
  have DnC:∀x c,(dF X scope (vars++caps.map (·.2)) HP.objs.size s2 H2 fp).env.cells.lookup x=some c->c≠s2.heap.objs.size:=fun x c e z=>by
   rcases bQ _ _ _ _ (B.cells I2) e with q|q
   ·cases q
   ·obtain⟨v,o,ho,_⟩:=I2.cell x c q
    have:=Heap.lt_size ho;rw[z]at this;exact Nat.lt_irrefl _ this
  have pinD:∀{σ':St} {H':Hp} {s':Shared},Inv (dF X scope (vars++caps.map (·.2)) HP.objs.size s2 H2 fp) [(s2.heap.objs.size,{ cls:=.type "list",data:=.seq its.toArray nn })] σ' H' s'->s'.heap.PlainList s2.heap.objs.size its.toArray/\H' s2.heap.objs.size=none:=fun{σ' H' s'} I'=>by
   obtain⟨q1,q2,_⟩:=I'.pin (s2.heap.objs.size,{ cls:=.type "list",data:=.seq its.toArray nn }) (by simp[dF]);exact⟨⟨nn,q1⟩,q2⟩
  have I4p:Inv (dF X scope (vars++caps.map (·.2)) HP.objs.size s2 H2 fp) [(s2.heap.objs.size,{ cls:=.type "list",data:=.seq its.toArray nn })] (vars.map (fun _=>none)++fU σ caps) H4 s4:=
   I4.pins_of fun p hp=>by
    have e:p=(s2.heap.objs.size,{ cls:=.type "list",data:=.seq its.toArray nn }):=by simpa[dF]using hp
    subst e;exact⟨eD,nD4,DnL,Dfs,fun v z=>by cases z⟩
  have fpo':∀{H':Hp},(∀b∈fp,H' b=none)->∀b∈fp,js (dF X scope (vars++caps.map (·.2)) HP.objs.size s2 H2 fp) [(s2.heap.objs.size,{ cls:=.type "list",data:=.seq its.toArray nn })] H' b:=fun hn b hb=>by
   obtain⟨q1,q2,q3,q4,q5,_⟩:=fpo hn b hb;exact⟨q1,q2,q3,q4,q5,fun p hp=>by
    have e:p=(s2.heap.objs.size,{ cls:=.type "list",data:=.seq its.toArray nn }):=by simpa[dF]using hp
    subst e;exact Dfp b hb⟩
  have unp:∀{pl:List (Addr×Obj)} {σ':St} {H':Hp} {s':Shared},Inv (dF X scope (vars++caps.map (·.2)) HP.objs.size s2 H2 fp) pl σ' H' s'->Inv (dF X scope (vars++caps.map (·.2)) HP.objs.size s2 H2 fp) [] σ' H' s':=fun{pl σ' H' s'} I'=>
   I'.pins_of fun p hp=>absurd (show p∈([]:List (Addr×Obj))from hp) (by simp)
  rcases turn i n ys H4 w4 with⟨stop,hz,qn⟩|⟨go,hz,step⟩
  ·refine cn (T.done (dF X scope (vars++caps.map (·.2)) HP.objs.size s2 H2 fp) rfl rfl rfl (hc _) i _ s4 _ H4 _ I4p (fpo' fr4) st4 stop) fun r s5 ⟨hr,I5⟩=>?_
   subst hr;obtain⟨p5,n5⟩:=pinD I5;obtain⟨m5,ns5,_⟩:=I5.loc;refine hRR _ _ s5 m5 ns5 hDC (Nat.le_refl _) hCle _ ?_ (fun h' hs'=>vU I2 f2 hCle (Nat.le_refl _) hDC (unp I5) n5 p5 v4 hz hs') (qn _ n5)
   rw[ak hDC.symm];exact I5.free
  ·refine cn (T.item (dF X scope (vars++caps.map (·.2)) HP.objs.size s2 H2 fp) rfl rfl rfl (hc _) i _ s4 _ H4 _ I4p (fpo' fr4) st4 go) fun r s5 ⟨u,hr,h5⟩=>?_
   subst hr;refine cn h5 fun _ s6 ⟨x,H6,I6,rx,yx,st6,fr6⟩=>?_
   have I6p:=I6.pinned (fpo' fr6) (T.obj _ _ st6);refine cn (hg _ _ _ _ _ s6 _ H6 x u _ I6p rx (step x H6 yx)) fun _ s7 ⟨σ7,H7,I7,kp,q7⟩=>?_
   refine cn (hb _ _ _ _ _ s7 σ7 H7 _ I7 q7) fun okb s7' q7'=>?_
   obtain⟨H7',I7',q7'⟩:=q7';cases okb with
   |false=>
    obtain⟨m',hm,w8⟩:=q7';rw[if_neg (by decide)];obtain⟨p8,n8⟩:=pinD I7'.unpinned;have st8:tn (i+1) s7'.heap:=T.keep _ _ _ st6 fun b hb o e=>(I7'.pin (b,o) (List.mem_append_right _ (List.mem_append_right _ (cW hb e)))).1
    have fr8:∀b∈fp,H7' b=none:=fun b hb=>by
     obtain⟨o,e,d⟩:=T.obj _ _ st6 b hb;exact(I7'.pin (b,o) (List.mem_append_right _ (List.mem_append_right _ (cW hb e)))).2.1
    exact⟨m',hm,i+1,ys,H7',its,(unp I7').weak kp.1 kp.2,st8,fr8,p8,n8,v4,w8⟩
   |true=>
   rw[if_pos rfl];rw[if_pos rfl]at q7';refine cn (he _ _ _ _ _ s7' σ7 H7' _ I7' q7') fun v s8 ⟨y,H8,I8,ry,m',hm,w8⟩=>?_
   obtain⟨p8,n8⟩:=pinD I8.unpinned;have st8:tn (i+1) s8.heap:=T.keep _ _ _ st6 fun b hb o e=>(I8.pin (b,o) (List.mem_append_right _ (List.mem_append_right _ (cW hb e)))).1
   have fr8:∀b∈fp,H8 b=none:=fun b hb=>by
    obtain⟨o,e,d⟩:=T.obj _ _ st6 b hb;exact(I8.pin (b,o) (List.mem_append_right _ (List.mem_append_right _ (cW hb e)))).2.1
   have hl:=v4.length;refine wpAny_list_append_plain p8 (fun h9 p9 sb9=>⟨m',hm,i+1,ys++[y],H8,its++[v],?_,?_,fr8,by simpa using p9,n8,v4.append (.cons ry .nil),w8⟩) (by simp;omega)
   ·have I9:Inv (dF X scope (vars++caps.map (·.2)) HP.objs.size s2 H2 fp) [] σ7 H8 { s8 with heap:=h9,toks:=s8.toks }:=
     (unp I8).turned (it:=s2.heap.objs.size) (fun b o hb e=>sb9.extBut b o hb e) n8 DnL (.inr (Nat.le_refl _)) DnC fun p hp=>absurd (show p∈([]:List (Addr×Obj))from hp) (by simp)
    exact I9.weak kp.1 kp.2
   ·exact T.keep _ _ _ st8 fun b hb o e=>sb9.extBut b o (Dfp b hb).symm e
 exact codeAny_compStart_list (loop _ rfl) (T.self _ 0 _ _ _ st1 (loop _ rfl))
theorem ye(B:BlkOk X.env.scope.names X.N scope vars caps)(hc:X.calm=true)(hi:PI X tg iter wi)
  (hg:∀C s₀ H₀ ex,PG (dF X scope (vars++caps.map (·.2)) C s₀ H₀ ex) tg g) (hb:∀C s₀ H₀ ex,PT (dF X scope (vars++caps.map (·.2)) C s₀ H₀ ex) cnd tt) (he:∀C s₀ H₀ ex,PE (dF X scope (vars++caps.map (·.2)) C s₀ H₀ ex) elt te) (hs:∀x,foldedSetIterable iter X.env x=pure x:=by intro _;rfl) :
  PE X (.ListComp elt [⟨tg,iter,[cnd],0⟩] scope pos) (xy wi g tt te vars caps):=by
 intro pins s σ H Q I h;rw[eval_ListComp];refine wpAny_comprehension_free (use:=none) rfl hs (f9 (B.cells I)) B.kind B.names ?_;show wpAny _ _ (eval iter X.env) _ _ s;refine cn (hi pins s σ H _ I h) fun v s1 h1=>cn h1 fun itv s2 h2=>?_
 obtain⟨it,fp,tn,J,H2,e,I2,T,st2,f2,W,⟨m0,w0⟩,turn⟩:=h2;subst e;exact tm (Cm:=fun X=>X.calm=true) B hg hb he I2 T st2 f2 (fun _=>hc) w0 turn (RR:=fun acc C=>compPost (model X.prog X.w) X.A X.xe none (EP X pins σ Q) acc C) fun D C s' m ns _ _ _ H' _ k q=>⟨m,ns,fun h' hs'=>⟨.ref D,H',k h' hs',rfl,q⟩⟩
end
noncomputable def gR(t:D->Option Bool)(f:D->Option D):List D->Option (List D)
 |[]=>some []
 |d::ds=>(t d).bind fun b=>if b=true then(f d).bind fun e=>(gR t f ds).bind fun es=>some (e::es)else gR t f ds
@[simp] theorem HK{t:D->Option Bool}{f:D->Option D}:gR t f []=some []:=rfl
noncomputable def eT(fi:Dv->Option (List D))(caps:List (Nat×Str))(bv:D->Option (List D))(ft:Dv->Option Bool)(fe:Dv->Option D):Dv->Option D:=fun δ=>(fi δ).bind fun ds=>if ds.length<=sizeLine then(gR (fun d=>(bv d).bind fun vs=>ft (vs.map .fz++dD δ caps)) (fun d=>(bv d).bind fun vs=>fe (vs.map .fz++dD δ caps)) ds).bind fun es=>some (.list es)else none
theorem kO{t:D->Option Bool}{f:D->Option D}:∀{ds es:List D} {i:Nat} {d:D},gR t f ds=some es->ds[i]? = some d->∃xs,gR t f (ds.take i)=some xs/\∃b,t d=some b/\(b=false->gR t f (ds.take (i+1))=some xs)/\(b=true->∃e,f d=some e/\gR t f (ds.take (i+1))=some (xs++[e]))
 |[],es,i,d,h,q=>by simp at q
 |d::ds,es,i,d',h,q=>by
  obtain⟨b,h1,h⟩:=bind_some h;cases i with
  |zero=>
   simp at q;subst q;refine⟨[],rfl,b,h1,fun hb=>?_,fun hb=>?_⟩
   ·subst hb;simp[gR,h1]
   ·subst hb
    rw[if_pos rfl]at h;obtain⟨e,h2,h⟩:=bind_some h;exact⟨e,h2,by simp[gR,h1,h2]⟩
  |succ i=>
   simp at q;cases b with
   |false=>
    rw[if_neg (by decide)]at h;obtain⟨xs,g1,b',g2,g3,g4⟩:=kO (i:=i) h q;refine⟨xs,by simp[gR,h1,g1],b',g2,fun hb=>by simpa[gR,h1]using g3 hb,fun hb=>?_⟩
    obtain⟨e,k1,k2⟩:=g4 hb;exact⟨e,k1,by simpa[gR,h1]using k2⟩
   |true=>
    rw[if_pos rfl]at h;obtain⟨e0,h2,h⟩:=bind_some h;obtain⟨es',h3,h⟩:=bind_some h;obtain⟨xs,g1,b',g2,g3,g4⟩:=kO (i:=i) h3 q;refine⟨e0::xs,by simp[gR,h1,h2,g1],b',g2,fun hb=>by simp[gR,h1,h2,g3 hb],fun hb=>?_⟩
    obtain⟨e,k1,k2⟩:=g4 hb;exact⟨e,k1,by simp[gR,h1,h2,k2]⟩
theorem q8{t:D->Option Bool}{f:D->Option D}:∀{ds es:List D},gR t f ds=some es->es.length<=ds.length
 |[],es,h=>by cases h;exact Nat.le_refl _
 |d::ds,es,h=>by
  obtain⟨b,h1,h⟩:=bind_some h;cases b with
  |false=>rw[if_neg (by decide)]at h;exact Nat.le_succ_of_le (q8 h)
  |true=>
   rw[if_pos rfl]at h;obtain⟨e0,h2,h⟩:=bind_some h;obtain⟨es',h3,h⟩:=bind_some h;cases h;exact Nat.succ_le_succ (q8 h3)
section
variable{X:Cx}{scope:Scope}{vars:List Str}{caps:List (Nat×Str)}{elt tg iter cnd:Expr}{pos:Pos}{g:TG}{fi:Dv->Option (List D)}{ft:Dv->Option Bool}{fe:Dv->Option D}{bv:D->Option (List D)}
theorem uQ(tk:tL X.K g vars.length bv){σ:St}{H:Hp}{Q:VK}(h:tV X.K (eT fi caps bv ft fe) σ H Q):xy (Ik X.K fi) g (Gm X.K ft) (tV X.K fe) vars caps σ H Q:=by
 obtain⟨H₀,Z₀,Z,δ,d,hh,e,k⟩:=h;obtain⟨ds,e1,e⟩:=bind_some e;by_cases hz:ds.length<=sizeLine
 ·rw[if_pos hz]at e
  obtain⟨es,e2,e⟩:=bind_some e;cases e;have hv:vars.map (fun _=>(none:Option V))=List.replicate vars.length none:=by rw[List.map_const']
  refine⟨H₀,Z₀,Z,δ,ds,hh,e1,fun J Z1 H1 hh1 t1 ok=>?_⟩
  refine⟨fun i m ys H=>m=ds.length-i/\i<=ds.length/\∃Zc xs,Hold X.K H₀ Z₀ Zc δ σ H/\Same Z1 Zc/\gR (fun d=>(bv d).bind fun vs=>ft (vs.map .fz++dD δ caps)) (fun d=>(bv d).bind fun vs=>fe (vs.map .fz++dD δ caps)) (ds.take i)=some xs/\Reps X.K Zc ys xs,⟨ds.length,by simp,Nat.zero_le _,Z1,[],hh1,Same.refl _,rfl,.nil⟩,?_⟩
  rintro i m ys H2 ⟨rfl,hi2,Zc,xs,hhc,tc,fx,rc⟩;have zh:Same Z1 H2:=tc.trans hhc.zh;have ly:=rc.length;have lx:=q8 fx;rw[List.length_take]at lx;by_cases hlt:i<ds.length
  ·refine .inr ⟨ok.go i H2 zh hlt,by omega,fun x H3 y=>?_⟩
   have ed:ds[i]? = some ds[i]:=by simp[hlt]
   obtain⟨rfl,rx⟩:=ok.yld i H2 x H3 _ zh ed y;obtain⟨xs',f0,b,fb,ff,ftr⟩:=kO e2 ed;rw[fx]at f0;cases f0;obtain⟨vs,f3,f1⟩:=bind_some fb;rw[hv];refine tk x Zc ds[i] vs (fU σ caps) H3 _ (rx.same tc) hhc.zh f3 fun us ru hn=>⟨⟨by simp[hn],fun j v q=>?_⟩,?_⟩
   ·by_cases hj:j<vars.length
    ·rw[List.getElem?_append_left (by simpa using hj),List.getElem?_replicate]at q
     split at q<;>cases q
    ·rw[List.getElem?_append_right (by simpa using hj)]at q
     rw[List.getElem?_append_right (by simpa[hn]using hj)];simpa[hn]using q
   ·refine⟨H3,Zc,Zc,_,b,oi hhc ru,f1,fun Z3 H3' h3 t3=>?_⟩
    have hh3:=hhc.new ⟨t3,h3.h0,h3.zh,h3.zb,h3.nf⟩;cases b with
    |false=>
     dsimp only;rw[if_neg (by decide)];exact⟨ds.length-(i+1),by omega,rfl,hlt,Z3,xs,hh3,tc.trans t3,ff rfl,rc.same t3⟩
    |true=>
     dsimp only;rw[if_pos rfl];obtain⟨ei,f2,f4⟩:=ftr rfl;rw[f3]at f2;refine⟨H3,Zc,Z3,_,ei,h3,f2,fun v Z4 H4 h4 t4 r4=>⟨ds.length-(i+1),by omega,rfl,hlt,Z4,xs++[ei],?_,(tc.trans t3).trans t4,f4,((rc.same t3).same t4).append (.cons r4 .nil)⟩⟩
     exact hhc.new ⟨t3.trans t4,h4.h0,h4.zh,h4.zb,h4.nf⟩
  ·have hie:i=ds.length:=by omega
   subst hie;refine .inl ⟨ok.stop _ H2 zh (Nat.le_refl _),by omega,fun p hp=>?_⟩
   rw[List.take_length,e2]at fx;cases fx;have n:=New.add hhc.zh hp (.lst ys);exact k _ _ _ (hhc.new n) ((t1.trans tc).trans n.z) (.lst (SqL.of aw) (rc.same n.z))
 ·rw[if_neg hz]at e;cases e
theorem fP(B:BlkOk X.env.scope.names X.N scope vars caps)(hc:X.calm=true)(hi:IV X tg iter fi)(tk:tL X.K g vars.length bv)
  (hg:∀C s₀ H₀ ex,PG (dF X scope (vars++caps.map (·.2)) C s₀ H₀ ex) tg g) (hb:∀C s₀ H₀ ex,TV (dF X scope (vars++caps.map (·.2)) C s₀ H₀ ex) cnd ft) (he:∀C s₀ H₀ ex,EV (dF X scope (vars++caps.map (·.2)) C s₀ H₀ ex) elt fe) (hs:∀x,foldedSetIterable iter X.env x=pure x:=by intro _;rfl) :
  EV X (.ListComp elt [⟨tg,iter,[cnd],0⟩] scope pos) (eT fi caps bv ft fe):=
 PE.imp (ye (tt:=Gm X.K ft) (te:=tV X.K fe) B hc hi hg hb he hs) fun _ _ _ h=>uQ tk h
end
noncomputable def gT:List (D->Dv->Option Dv)->List D->Dv->Option Dv
 |[],[],δ=>some δ
 |g::gs,d::ds,δ=>(g d δ).bind fun δ1=>gT gs ds δ1
 |_,_,_=>none
noncomputable def K9(gs:List (D->Dv->Option Dv)):D->Dv->Option Dv
 |.tuple ds,δ=>gT gs ds δ
 |_,_=>none
@[simp] theorem JS(δ:Dv):gT [] [] δ = some δ:=rfl
@[simp] theorem IF(g:D->Dv->Option Dv)(gs:List (D->Dv->Option Dv))(d:D)(ds:List D)(δ:Dv):gT (g::gs) (d::ds) δ = (g d δ).bind fun δ1=>gT gs ds δ1:=rfl
@[simp] theorem IE(gs:List (D->Dv->Option Dv))(ds:List D)(δ:Dv):K9 gs (.tuple ds) δ = gT gs ds δ:=rfl
theorem dU{g:D->Dv->Option Dv}{b:Sf}{d:D}{ds:List D}{δ δ1 δ2:Dv}(h1:g d δ = some δ1)(h2:b δ1=some (.nx,δ2)):loop g b (d::ds) δ = loop g b ds δ2:=by
 show((g d δ).bind fun δ1=>_)=_
 rw[h1,Option.bind_some,h2];rfl
def tO(K:Fg)(f:Dv->Option (List D)):TE:=fun σ H Q=>∃H₀ Z₀ Z δ ds,Hold K H₀ Z₀ Z δ σ H/\f δ = some ds/\∀p vs Z' H',Hold K H₀ Z₀ Z' δ σ H'->Same Z Z'->H' p=none->Reps K Z' vs ds->Q (.ref p) (upd H' p (.lst vs))
def EO(X:Cx)(e:Expr)(f:Dv->Option (List D)):Prop:=PE X e (tO X.K f)
noncomputable def yl(f:Dv->Option D):Dv->Option (List D):=fun δ=>(f δ).bind yy
@[simp] noncomputable def xN(i:Nat)(f:Dv->Option (List D)):Sf:=fun δ=>(f δ).bind fun ds=>some (.nx,δ.set i (.ow ds))
section
variable{X:Cx}{e:Expr}{es:List Expr}{p pos:Pos}{f:Dv->Option (List D)}{fs:Dv->Option (List D)}
theorem yi{K:Fg}{D:Ends}{i:Nat}{σ:St}{H:Hp}(h:Cv K (xN i f) D σ H):tO K f σ H fun v H1=>D.nx (σ.set i (some v)) H1:=by
 obtain⟨H₀,Z₀,Z,δ,r,hh,e,k⟩:=h;obtain⟨ds,e1,e⟩:=bind_some e;cases e;exact⟨H₀,Z₀,Z,δ,ds,hh,e1,fun p vs Z1 H1 hh1 t1 hp r1=>k _ _ Z1 (hh1.setO hp r1) t1⟩
end
section
variable{X:Cx}{scope:Scope}{vars:List Str}{caps:List (Nat×Str)}{elt tg iter cnd:Expr}{pos:Pos}{g:TG}{fi:Dv->Option (List D)}{ft:Dv->Option Bool}{fe:Dv->Option D}{bv:D->Option (List D)}
theorem n4(tk:tL X.K g vars.length bv){σ:St}{H:Hp}{Q:VK}(h:tO X.K (yl (hJ fi caps bv fe)) σ H Q):uZ (Ik X.K fi) g (tV X.K fe) vars caps σ H Q:=by
 obtain⟨H₀,Z₀,Z,δ,d0,hh,e0,k⟩:=h;obtain⟨d,e,e0⟩:=bind_some e0;obtain⟨ds,e1,e⟩:=bind_some e;by_cases hz:ds.length<=sizeLine
 ·rw[if_pos hz]at e
  obtain⟨es,e2,e⟩:=bind_some e;cases e;obtain rfl:es=d0:=Option.some.inj e0;have le:=iu e2;have hv:vars.map (fun _=>(none:Option V))=List.replicate vars.length none:=by rw[List.map_const']
  refine⟨H₀,Z₀,Z,δ,ds,hh,e1,fun J Z1 H1 hh1 t1 ok=>?_⟩
  refine⟨fun i m ys H=>m=ds.length-i/\i<=ds.length/\∃Zc,Hold X.K H₀ Z₀ Zc δ σ H/\Same Z1 Zc/\Reps X.K Zc ys (es.take i),⟨ds.length,by simp,Nat.zero_le _,Z1,hh1,Same.refl _,by simpa using .nil⟩,?_⟩
  rintro i m ys H2 ⟨rfl,hi2,Zc,hhc,tc,rc⟩;have zh:Same Z1 H2:=tc.trans hhc.zh;have ly:=rc.length;rw[List.length_take]at ly;by_cases hlt:i<ds.length
  ·refine .inr ⟨ok.go i H2 zh hlt,by omega,fun x H3 y=>?_⟩
   have ed:ds[i]? = some ds[i]:=by simp[hlt]
   obtain⟨rfl,rx⟩:=ok.yld i H2 x H3 _ zh ed y;obtain⟨ei,f1,f2⟩:=nj e2 ed;obtain⟨vs,f3,f1⟩:=bind_some f1;rw[hv];refine tk x Zc ds[i] vs (fU σ caps) H3 _ (rx.same tc) hhc.zh f3 fun us ru hn=>⟨⟨by simp[hn],fun j v q=>?_⟩,?_⟩
   ·by_cases hj:j<vars.length
    ·rw[List.getElem?_append_left (by simpa using hj),List.getElem?_replicate]at q
     split at q<;>cases q
    ·rw[List.getElem?_append_right (by simpa using hj)]at q
     rw[List.getElem?_append_right (by simpa[hn]using hj)];simpa[hn]using q
   ·refine⟨H3,Zc,Zc,_,ei,oi hhc ru,f1,fun v Z4 H4 h4 t4 r4=>⟨ds.length-(i+1),by omega,rfl,hlt,Z4,hhc.new ⟨t4,h4.h0,h4.zh,h4.zb,h4.nf⟩,tc.trans t4,?_⟩⟩
    have:es.take (i+1)=es.take i++[ei]:=by
     rw[List.take_add_one,f2];rfl
    rw[this];exact(rc.same t4).append (.cons r4 .nil)
  ·have hie:i=ds.length:=by omega
   subst hie;refine .inl ⟨ok.stop _ H2 zh (Nat.le_refl _),by omega,fun p hp=>?_⟩
   rw[<-le,List.take_length]at rc;exact k p ys Zc _ hhc (t1.trans tc) hp rc
 ·rw[if_neg hz]at e;cases e
theorem B5(B:BlkOk X.env.scope.names X.N scope vars caps)(hc:X.calm=true)(hi:IV X tg iter fi)(tk:tL X.K g vars.length bv)
  (hg:∀C s₀ H₀ ex,PG (dF X scope (vars++caps.map (·.2)) C s₀ H₀ ex) tg g) (he:∀C s₀ H₀ ex,EV (dF X scope (vars++caps.map (·.2)) C s₀ H₀ ex) elt fe) (hs:∀x,foldedSetIterable iter X.env x=pure x:=by intro _;rfl) :
  EO X (.ListComp elt [⟨tg,iter,[],0⟩] scope pos) (yl (hJ fi caps bv fe)):=
 PE.imp (Bd (te:=tV X.K fe) B hc hi hg he hs) fun _ _ _ h=>n4 tk h
theorem xD(i:Nat){y:Str}{py spos:Pos}(hN:X.N.Nodup)(B:BlkOk X.env.scope.names X.N scope vars caps)(hc:X.calm=true)(hi:IV X tg iter fi)(tk:tL X.K g vars.length bv)
  (hg:∀C s₀ H₀ ex,PG (dF X scope (vars++caps.map (·.2)) C s₀ H₀ ex) tg g) (he:∀C s₀ H₀ ex,EV (dF X scope (vars++caps.map (·.2)) C s₀ H₀ ex) elt fe)
  (hy:X.N[i]? = some y:=by rfl) (hx:rL X.env.scope y:=by first|exact Or.inl rfl|exact Or.inr rfl) (hsw:swapsWith (.ListComp elt [⟨tg,iter,[],0⟩] scope pos) (some (.Name y py)) spos.line X.env=pure true:=by rfl)
  (hf:X.fn y=true\/X.env.scope.names.lookup y=some .local:=by first|exact .inl rfl|exact .inr rfl|assumption) (hs:∀x,foldedSetIterable iter X.env x=pure x:=by intro _;rfl) :
  SV X (.Assign [.Name y py] (.ListComp elt [⟨tg,iter,[],0⟩] scope pos) spos) (xN i (yl (hJ fi caps bv fe))):=
 PS.imp (vi (te:=tV X.K fe) B hc hi hg he hN hy hx hsw hf hs) fun D σ H h=>n4 tk (yi h)
end
noncomputable def wo(t:Sf):Fl×Dv->Option (Fl×Dv)
 | (.nx,δ)=>t δ
 |r=>some r
@[simp] theorem Iq(t:Sf)(δ:Dv):wo t (.nx,δ)=t δ:=rfl
@[simp] theorem Io(t:Sf)(d:D)(δ:Dv):wo t (.rt d,δ)=some (.rt d,δ):=rfl
@[simp] theorem Is(t:Sf)(δ:Dv):wo t (.bk,δ)=some (.bk,δ):=rfl
@[simp] theorem Ir(t:Sf)(δ:Dv):wo t (.ct,δ)=some (.ct,δ):=rfl
noncomputable def IC(u w:Sf)(δ:Dv):Bool->Option (Fl×Dv)
 |true=>u δ
 |false=>w δ
@[simp] theorem KD(u w:Sf)(δ:Dv):IC u w δ true=u δ:=rfl
@[simp] theorem KE(u w:Sf)(δ:Dv):IC u w δ false=w δ:=rfl
theorem aG(s t:Sf)(δ:Dv):aq s t δ = (s δ).bind (wo t):=by
 unfold aq wo;congr 1
theorem aS(t:Dv->Option Bool)(u w:Sf)(δ:Dv):b5 t u w δ = (t δ).bind (IC u w δ):=by
 unfold b5;congr 1;funext c;cases c<;>rfl
noncomputable def GM:D->Option D
 |.list xs=>some (.list xs.reverse)
 |_=>none
@[simp] theorem DG(xs:List D):GM (.list xs)=some (.list xs.reverse):=rfl
noncomputable def GO:D->Option (List D)
 |.list xs=>some xs.reverse
 |.tuple xs=>some xs.reverse
 |_=>none
@[simp] theorem F0(xs:List D):GO (.list xs)=some xs.reverse:=rfl
@[simp] theorem DH(xs:List D):GO (.tuple xs)=some xs.reverse:=rfl
@[simp] noncomputable def Lf:Sf:=fun _=>none
@[simp] noncomputable def K5(i:Nat)(f:Dv->Option D):Sf:=fun δ=>(f δ).bind fun v=>(dB v).bind fun es=>(va δ[i]?).bind fun ds=>if ds.length+es.length<=sizeLine then some (.nx,δ.set i (.ow (ds++es)))else none
noncomputable def Jm:D->Option (List D)
 |.tuple xs=>some xs.reverse
 |_=>none
@[simp] theorem DF(xs:List D):Jm (.tuple xs)=some xs.reverse:=rfl
def F2(h:Heap)(e:Addr):Prop:=∃oe vs,h.get? e=some oe/\oe.data=.fields vs/\vs[2]? = some .none
def Kc(base:Heap)(l:List Env)(e:Addr)(cls a0:Value)(h:Heap):Prop:=Heap.FlyingW base l e cls a0 h/\F2 h e
abbrev Xf:=Dv->Option (Str×Dv)
@[simp] noncomputable def Ld:Xf:=fun _=>none
@[simp] noncomputable def IP(n:Str)(f:Dv->Option D):Xf:=fun δ=>(f δ).bind fun _=>some (n,δ)
@[simp] noncomputable def xE(f:Dv->Option Str):Xf:=fun δ=>(f δ).bind fun n=>some (n,δ)
@[simp] noncomputable def Le(t:Dv->Option Bool)(u w:Xf):Xf:=fun δ=>(t δ).bind fun c=>if c=true then u δ else w δ
@[simp] noncomputable def IN(s:Sf)(u:Xf):Xf:=fun δ=>(s δ).bind fun r=>match r with
 | (.nx,δ')=>u δ'
 |_=>none
@[simp] noncomputable def Kg(u1:Xf)(s:Sf)(u:Xf):Xf:=fun δ=>match u1 δ with
 |some r=>some r
 |none=>IN s u δ
@[simp] noncomputable def Li(fs:Dv->Option (List D))(g:List D->Option Str):Dv->Option Str:=fun δ=>(fs δ).bind g
structure Thrown (P:Program) (w:World) (outer:List Env) (H:Hp) (s:Shared) (x C:Addr) (H':Hp) (s':Shared):Prop where
 os:s'.os=s.os
 bare:AllBare s'.gens
 un:Un (vK outer) [] H H' s.heap s'.heap
 hok:HOk P w H' s'.heap
 sm:Same H H'
 is:H' x=some (JW x C)
 fly:∃B t,Kc B outer x (.ref C) t s'.heap/\(∀b o,H' b=some o->b≠x->∃ob,B.get? b=some ob)/\(∀b o,s.heap.get? b=some o->H b=none->b ∉ vK outer->B.get? b=some o)
theorem jQ{H H':Hp}{b:Addr}(s:Same H H')(h:H' b=none):H b=none:=by
 cases e:H b with
 |none=>rfl
 |some o=>rw[s b o e]at h;cases h
inductive Flung (m:Bool) (X:Cx) (n:Str) (Z H:Hp) (s:Shared) (e:Value) (s':Shared):Prop
 |made {x C:Addr} {vs:List Value}:m=true->PySem.W.nsIn X.K mainGlobals n=some (some (.ref C))->e=.ref x->s'={ s with heap:=s'.heap }->Heap.MadeExcOf s.heap s'.heap x (.ref C) vs->Flung m X n Z H s e s'
 |thrown {x C:Addr} {H' Z':Hp}:PySem.W.nsIn X.K mainGlobals n=some (some (.ref C))->e=.ref x->Thrown X.prog X.w X.stack H s x C H' s'->New Z H Z' H'->Z' x=some (JW x C)->H x=none->Flung m X n Z H s e s'
def KP(m:Bool)(X:Cx)(f:Xf):TS:=fun _ σ H=>∃H₀ Z₀ Z δ r,Hold X.K H₀ Z₀ Z δ σ H/\f δ = some r/\∀pins σ' H' Z' s e s',Hold X.K H₀ Z₀ Z' r.2 σ' H'->Same Z Z'->Inv X pins σ' H' s->Flung m X r.1 Z' H' s e s'->X.xe e s'
def SX(m:Bool)(X:Cx)(st:Stmt)(f:Xf):Prop:=PS X st (KP m X f)
noncomputable def wO:Sl->Bool
 |.own _=>true
 |_=>false
@[simp] theorem Iz(d:D):wO (.fz d)=false:=rfl
@[simp] theorem Iy:wO .un=false:=rfl
noncomputable def AK:Nat->Dv->Bool
 |_,[]=>true
 | 0,_::r=>r.all fun s=>!wO s
 |n+1,s::r=>!wO s&&AK n r
@[simp] theorem FX(s:Sl)(r:Dv):AK 0 (s::r)=r.all fun s=>!wO s:=rfl
@[simp] theorem FY(n:Nat)(s:Sl)(r:Dv):AK (n+1) (s::r)=(!wO s&&AK n r):=rfl
@[simp] noncomputable def Kf(f:Dv->Option D)(u:Dv->Option Str):Dv->Option Str:=fun δ=>(f δ).bind fun _=>u δ
@[simp] noncomputable def Kt(i:Nat)(f:Dv->Option D):Sf:=fun δ=>(f δ).bind fun v=>(yy v).bind fun es=>(va δ[i]?).bind fun ds=>if ds.length+es.length<=sizeLine then some (.nx,δ.set i (.ow (ds++es)))else none
theorem uL(l:Addr)(items:Array Value)(n:Nat)(b:Addr)(items2:Array Value)(n2:Nat)(sl:Array (Option Value))(hc0:¬(!items.isEmpty&&Builtin.List.listTooLong (items.size+items2.size))=true)(hc1:items.size<=sizeLine)(hs2:items.size+items2.size<=sizeLine+1):
  Meets (Builtin.«list.extend» ⟨[.ref l,.ref b],[]⟩) (fun _ R s=>s.heap.get? l=some { cls:=.type "list",dict:=none,data:=.seq items n,slots:=#[] }/\s.heap.get? b=some { cls:=.type "list",dict:=none,data:=.seq items2 n2,slots:=sl }/\R (.ok (.ret Value.none)) { s with heap:=s.heap.update l (Obj.mapSeq fun x=>x++items2),toks:=s.toks }):=
 .of_wp fun prog w A R s h=>by
  obtain⟨hp,g,d,tk,os⟩:=s;obtain⟨hl,hb,h⟩:=h;have f1:=AutoSeq1.idx_int;have f2:=AutoSeq1.sub_tuple_tuple;have f3:=AutoSeq1.sub_list_list;have f4:=AutoSeq1.sub_tuple_list;have f5:=AutoSeq1.sub_list_tuple;have hz':(items++items2).size<=sizeLine+1:=by rw[Array.size_append];exact hs2
  wp_walk using (wpAny_updateSeq hl rfl (hz:=hc1) (_hz':=hz')),AutoSeq1.wpAny_loadPart' hl,AutoSeq1.wpAny_loadPart' hb;exact⟨_,rfl,h⟩
def GR(K:Fg):V->List V->Hp->VK->Prop:=fun x vs H Q=>∃l b xs zs,x=.ref l/\vs=[.ref b]/\H l=some (.lst xs)/\SqL K H b zs/\xs.length+zs.length<=sizeLine/\Q .non (upd H l (.lst (xs++zs)))
section
variable{X:Cx}
theorem Bo:KJ X "list.extend" (GR X.K):=by
 intro pins s σ H x vs v us Q I rx rv h;obtain⟨l,b,xs,zs,rfl,rfl,hH,hB,hz,q⟩:=h;cases rx;obtain⟨u,rfl,ru⟩:=rv.one;cases ru;obtain⟨z,its,n,r,hl,e⟩:=I.lstM hH;obtain⟨its2,r2,⟨o2,n2,e2,hc,hd,hs⟩,z2⟩:=I.list hB;have hl2:=r2.length;obtain⟨c2,d2,dt2,sl2⟩:=o2;dsimp only at hc hd hs;subst hc hd hs;have hsz:its.toArray.size+its2.toArray.size<=sizeLine:=by rw[List.size_toArray,List.size_toArray];omega
 have hlong:¬(!its.toArray.isEmpty&&Builtin.List.listTooLong (its.toArray.size+its2.toArray.size))=true:=by
  rw[yo hsz,Bool.and_false];exact Bool.false_ne_true
 refine call_meets F.slot_list_extend ⟨_,e,rfl⟩ F.entry_list_extend (F.args_list_extend_2 _ _)
  (uL l its.toArray n b its2.toArray n2 sl2 hlong (by rw[List.size_toArray];omega) (by omega)) ⟨e,e2,?_⟩
 refine⟨.non,_,I.lset (its':=its++its2) hH e (by simp) (r.append r2) ?_,rfl,q⟩;rw[List.length_append];omega
end
theorem sO{α:Type}:∀{us:List α},us.length=1->∃a,us=[a]
 |[a],_=>⟨a,rfl⟩
theorem pf{α:Type}{us:List α}(h:us.length=2):∃a b,us=[a,b]:=by
 cases us with
 |nil=>cases h
 |cons a r=>
  obtain⟨b,rfl⟩:=sO (Nat.succ.inj h);exact⟨a,b,rfl⟩
theorem qU{α:Type}{us:List α}(h:us.length=3):∃a b c,us=[a,b,c]:=by
 cases us with
 |nil=>cases h
 |cons a r=>
  obtain⟨b,c,rfl⟩:=pf (Nat.succ.inj h);exact⟨a,b,c,rfl⟩
theorem Hl{α:Type}{us:List α}(h:us.length=4):∃a b c d,us=[a,b,c,d]:=by
 cases us with
 |nil=>cases h
 |cons a r=>
  obtain⟨b,c,d,rfl⟩:=qU (Nat.succ.inj h);exact⟨a,b,c,d,rfl⟩
theorem JH{α:Type}{us:List α}(h:us.length=5):∃a b c d e,us=[a,b,c,d,e]:=by
 cases us with
 |nil=>cases h
 |cons a r=>
  obtain⟨b,c,d,e,rfl⟩:=Hl (Nat.succ.inj h);exact⟨a,b,c,d,e,rfl⟩
def DefIn(K:PySem.W.Frag)(x y:Str)(st:Stmt):Prop:=∃f fd,PySem.W.nsIn K mainGlobals x=some (some (.ref f))/\FunV K y y st f fd .none/\PySem.W.keepIn K (.ref f)=true
def bF(x:Str)(st:Stmt)(ps:List Str):Prop:=∀(kV doc pm:Value) (an:Option Addr) (cdv ct:Value) (us:List Value),us.length=ps.length->bindArgs (PySem.W.fnOf x x (eI st) (cx st) (ag st) .none kV doc pm an cdv ct) ⟨us,[]⟩=pure (ps.zip us)
section
variable{P:Program}{w:World}{K:PySem.W.Frag}{mg:Str->Option Value}{base h:Heap}{x y:Str}{st:Stmt}{k:Nat}{ps:List Str}
theorem DefIn.mk{f:Addr}{oc:Value}{od an:Option Addr}{osl:Array (Option Value)}{kV doc pm cdv ct:Value}(a:PySem.W.nsIn K mainGlobals x=some (some (.ref f)))(l:K.lookup f=some ⟨oc,od,.func (PySem.W.fnOf y y (eI st) (cx st) (ag st) .none kV doc pm an cdv ct),osl⟩)
  (c:PySem.W.codeIn K cdv y=true) (k:PySem.W.keepIn K (.ref f)=true):DefIn K x y st:=⟨_,_,a,q0 l c k,k⟩
variable(D:DefIn K x y st)(X:K.In h)(G:h.Ns mainGlobals mg)(b:bF y st ps)
include D X G
include b
theorem DefIn.cal{g:List VL.D->Option VL.D}(ok:∀f fd,FunV K y y st f fd .none->FnOk P w K mg base dE k f fd ps (kW K g)):Cal P w K mg base x k g []:=by
 obtain⟨f,fd,a,F,hk⟩:=D;exact Cal.mk0 (ok f fd F) (PySem.W.mg_of X G a) hk (F.binds b)
end
end VL
namespace VL
open PySem PySem.Spec PyProof.Rows L2
open AutoSeq1 (wpAny_loadPart')
end VL
namespace VL
open PySem PySem.Spec PyProof.Rows L2
noncomputable def K8(z:Bool):D->D->Option D
 |.bool a,.bool b=>some (.bool (z != (a==b)))
 |_,_=>none
@[simp] theorem Hw(z a b:Bool):K8 z (.bool a) (.bool b)=some (.bool (z != (a==b))):=rfl
end VL
namespace L2
open PySem PySem.Spec PyProof.Rows
section
variable{κ:Type}[DecidableEq κ]
noncomputable def jv(kvs:List (κ × V))(k:κ):Option V:=(kvs.find? fun kv=>decide (kv.1=k)).map (·.2)
noncomputable def fJ(kvs:List (κ × V))(k:κ)(v:V):List (κ × V):=
 if(kvs.any fun kv=>decide (kv.1=k))=true then kvs.map (fun kv=>if kv.1=k then(kv.1,v)else kv)else kvs++[(k,v)]
theorem ig{p:κ × V}{r:List (κ × V)}{k:κ}(e:p.1=k):jv (p::r) k=some p.2:=by simp[jv,List.find?_cons,e]
theorem ii{p:κ × V}{r:List (κ × V)}{k:κ}(e:¬p.1=k):jv (p::r) k=jv r k:=by simp[jv,List.find?_cons,e]
theorem rT(k:κ):∀kvs:List (κ × V),(kvs.any fun kv=>decide (kv.1=k))=(jv kvs k).isSome
 |[]=>rfl
 |p::r=>by
  rw[List.any_cons];by_cases e:p.1=k
  ·simp only[ig e,decide_eq_true e,Bool.true_or,Option.isSome_some]
  ·rw[ii e,decide_eq_false e,Bool.false_or];exact rT k r
theorem fX(kvs:List (κ × V))(k:κ)(v:V):(fJ kvs k v).length<=kvs.length+1:=by
 unfold fJ;split
 ·rw[List.length_map];omega
 ·rw[List.length_append,List.length_cons,List.length_nil];omega
theorem RelO.isSome_eq{o:Option V}{u:Option Value}(r:RelO o u):o.isSome=u.isSome:=by
 cases o with
 |none=>cases u with
  |none=>rfl
  |some _=>exact(show False from r).elim
 |some _=>cases u with
  |none=>exact(show False from r).elim
  |some _=>rfl
theorem RelO.getD{o:Option V}{u:Option Value}{d:V}{d':Value}(r:RelO o u)(rd:RelV d d'):RelV (o.getD d) (u.getD d'):=by
 cases o with
 |none=>cases u with
  |none=>exact rd
  |some _=>exact(show False from r).elim
 |some _=>cases u with
  |none=>exact(show False from r).elim
  |some _=>exact r
theorem KV.val{kvs:List (κ × V)}{vs:List (κ × Value)}(r:KV kvs vs)(k:κ):RelO (jv kvs k) (valueAt vs k):=by
 unfold KV at r
 induction r with
 |nil=>exact True.intro
 | @cons p q ps qs h t ih=>
  obtain⟨h1,h2⟩:=h;by_cases e:p.1=k
  ·have e':q.1=k:=h1.symm.trans e
   have b:valueAt (q::qs) k=some q.2:=by simp[valueAt,List.find?_cons,e']
   rw[ig e,b];exact h2
  ·have e':¬q.1=k:=fun z=>e (h1.trans z)
   have b:valueAt (q::qs) k=valueAt qs k:=by simp[valueAt,List.find?_cons,e']
   rw[ii e,b];exact ih
theorem KV.any{kvs:List (κ × V)}{vs:List (κ × Value)}(r:KV kvs vs)(k:κ):(kvs.any fun kv=>decide (kv.1=k))=vs.any fun kv=>decide (kv.1=k):=by
 unfold KV at r
 induction r with
 |nil=>rfl
 |cons h t ih=>rw[List.any_cons,List.any_cons,ih,h.1]
theorem KV.repl{kvs:List (κ × V)}{vs:List (κ × Value)}(r:KV kvs vs)(k:κ){y:V}{u:Value}(ry:RelV y u):
  KV (kvs.map fun kv=>if kv.1=k then(kv.1,y)else kv) (vs.map fun kv=>if kv.1=k then(kv.1,u)else kv):=by
 unfold KV at r ⊢
 induction r with
 |nil=>exact .nil
 | @cons p q ps qs h t ih=>
  rw[List.map_cons,List.map_cons];refine .cons ?_ ih;obtain⟨h1,h2⟩:=h;by_cases e:p.1=k
  ·rw[if_pos e,if_pos (h1.symm.trans e)];exact⟨h1,ry⟩
  ·rw[if_neg e,if_neg (fun z=>e (h1.trans z))];exact⟨h1,h2⟩
theorem KV.put{kvs:List (κ × V)}{vs:List (κ × Value)}(r:KV kvs vs)(k:κ){y:V}{u:Value}(ry:RelV y u):KV (fJ kvs k y) (stored vs k u):=by
 unfold fJ stored;rw[r.any k];by_cases e:(vs.any fun kv=>decide (kv.1=k))=true
 ·rw[if_pos e,if_pos e];exact r.repl k ry
 ·rw[if_neg e,if_neg e];exact Paired.snoc r ⟨rfl,ry⟩
theorem KV.length{kvs:List (κ × V)}{vs:List (κ × Value)}(r:KV kvs vs):kvs.length=vs.length:=Paired.length r
end
theorem pY{P:Program}{w:World}{k:ao}{u:Value}(r:RelV (kV k) u):(aL P w).is k u=true:=by
 cases k with
 |inl i=>obtain⟨t,e⟩:=(show ∃t,u=Value.int i t from r);subst e;exact sJ P w i t
 |inr x=>obtain⟨t,e⟩:=(show ∃t,u=Value.str x t from r);subst e;exact sI P w x t
theorem pZ{P:Program}{w:World}:∀{ks:List ao} {us:List Value},Vals (ks.map kV) us->ItemsAre (aL P w) ks us
 |[],_,r=>by rw[List.map_nil]at r;cases r;exact .nil
 |k::ks,_,r=>by
  rw[List.map_cons]at r;cases r with
  |cons h t=>exact .cons (pY h) (pZ t)
abbrev KT(H:Hp):List (List ao×V)->List (List ao×Addr×Value)->Prop:=Paired fun p q=>p.1=q.1/\H q.2.1=some (.tup (p.1.map kV))/\RelV p.2 q.2.2
theorem KT.val{H:Hp}{kvs:List (List ao×V)}{xs:List (List ao×Addr×Value)}(r:KT H kvs xs)(k:List ao):RelO (jv kvs k) ((atKey xs k).map (·.2)):=by
 induction r with
 |nil=>exact True.intro
 | @cons p q ps qs h t ih=>
  obtain⟨h1,_,h2⟩:=h;by_cases e:p.1=k
  ·have e':q.1=k:=h1.symm.trans e
   have b:atKey (q::qs) k=some q.2:=by simp[atKey,List.find?_cons,e']
   rw[ig e,b];exact h2
  ·have e':¬q.1=k:=fun z=>e (h1.trans z)
   have b:atKey (q::qs) k=atKey qs k:=by simp[atKey,List.find?_cons,e']
   rw[ii e,b];exact ih
theorem KT.repl{H:Hp}{kvs:List (List ao×V)}{xs:List (List ao×Addr×Value)}(r:KT H kvs xs)(k:List ao){y:V}{u:Value}(ry:RelV y u):
  KT H (kvs.map fun kv=>if kv.1=k then(kv.1,y)else kv) (xs.map (putAt k u)):=by
 induction r with
 |nil=>exact .nil
 | @cons p q ps qs h t ih=>
  rw[List.map_cons,List.map_cons];refine .cons ?_ ih;obtain⟨h1,h2,h3⟩:=h;unfold putAt;by_cases e:p.1=k
  ·rw[if_pos e,if_pos (h1.symm.trans e)];exact⟨h1,h2,ry⟩
  ·rw[if_neg e,if_neg (fun z=>e (h1.trans z))];exact⟨h1,h2,h3⟩
theorem KT.put{H:Hp}{kvs:List (List ao×V)}{xs:List (List ao×Addr×Value)}(r:KT H kvs xs)(k:List ao){b:Addr}{y:V}{u:Value}(hb:H b=some (.tup (k.map kV)))(ry:RelV y u):
  KT H (fJ kvs k y) (storedH xs k b u):=by
 have e:(kvs.any fun kv=>decide (kv.1=k))=(atKey xs k).isSome:=by
  rw[rT,(r.val k).isSome_eq,Option.isSome_map]
 unfold fJ storedH;rw[e];by_cases q:(atKey xs k).isSome=true
 ·rw[if_pos q,if_pos q];exact r.repl k ry
 ·rw[if_neg q,if_neg q];exact Paired.snoc r ⟨rfl,hb,ry⟩
theorem KT.keeps{H H':Hp}{kvs:List (List ao×V)}{xs:List (List ao×Addr×Value)}(r:KT H kvs xs)(ht:∀b ys,H b=some (.tup ys)->H' b=some (.tup ys)):KT H' kvs xs:=
 Paired.mapP r fun _ _ z=>⟨z.1,ht _ _ z.2.1,z.2.2⟩
section
variable{P:Program}{w:World}{H:Hp}{h:Heap}{a:Addr}
theorem Cz{u:HO}(ok:HOk P w H h)(e:Rd H a u):ObjOk P w H h a u:=e.ok ok
theorem lr{kvs:List (ao×V)}(ok:HOk P w H h)(e:Rd H a (.dK kvs)):kvs.length<=sizeLine/\(a==sysModules)=false/\∃vs,KV kvs vs/\h.DictOf (aL P w) a vs:=
 show ObjOk P w H h a (.dK kvs)from Cz ok e
theorem CZ{kvs:List (ao×V)}(ok:HOk P w H h)(e:H a=some (.dK kvs)):kvs.length<=sizeLine/\(a==sysModules)=false/\∃vs,KV kvs vs/\h.DictOf (aL P w) a vs:=lr ok (.inl e)
theorem qV{ks:List ao}(ok:HOk P w H h)(e:H a=some (.tup (ks.map kV))):(tupleKind (aL P w)).is h ks a:=by
 obtain⟨_,its,r,⟨o,h1,h2,n,h3⟩,_⟩:=(show ObjOk P w H h a (.tup (ks.map kV))from ok a _ e);exact⟨o,its.toArray,n,h1,h2,h3,by simpa using pZ r⟩
theorem sY{kvs:List (List ao×V)}(ok:HOk P w H h)(e:Rd H a (.dT kvs)):kvs.length<=sizeLine/\(a==sysModules)=false /\
  ∃xs,KT H kvs xs/\h.DictOfH (tupleKind (aL P w)) a xs:=by
 obtain⟨z,y,xs,r,o,es,ep,h1,h2,h3,h4,h5⟩:=(show ObjOk P w H h a (.dT kvs)from Cz ok e);refine⟨z,y,xs,r,o,es,ep,h1,h2,h3,h4,fun x hx=>?_,h5⟩
 have all:∀{l:List (List ao×V)} {m:List (List ao×Addr×Value)},KT H l m->∀x∈m,(tupleKind (aL P w)).is h x.1 x.2.1:=by
  intro l m q
  induction q with
  |nil=>intro x hx;exact nomatch hx
  | @cons p q ps qs hq t ih=>
   intro x hx;rcases List.mem_cons.mp hx with e|hx
   ·subst e
    exact qV ok (by rw[<-hq.1];exact hq.2.1)
   ·exact ih x hx
 exact all r x hx
theorem HM{kvs:List (List ao×V)}(ok:HOk P w H h)(e:H a=some (.dT kvs)):kvs.length<=sizeLine/\(a==sysModules)=false /\
  ∃xs,KT H kvs xs/\h.DictOfH (tupleKind (aL P w)) a xs:=sY ok (.inl e)
end
def DGet(H:Hp)(a:Addr)(y:V)(r:Option V):Prop:=
 (∃kvs k,Rd H a (.dK kvs)/\y=kV k/\r=jv kvs k)\/∃kvs k b,Rd H a (.dT kvs)/\y=.ref b/\H b=some (.tup (k.map kV))/\r=jv kvs k
def DPut(H:Hp)(a:Addr)(y v:V)(H':Hp):Prop:=
 (∃kvs k,H a=some (.dK kvs)/\y=kV k/\kvs.length<sizeLine/\H'=upd H a (.dK (fJ kvs k v))) \/
 ∃kvs k b,H a=some (.dT kvs)/\y=.ref b/\H b=some (.tup (k.map kV))/\kvs.length<sizeLine/\H'=upd H a (.dT (fJ kvs k v))
theorem DGet.k{H:Hp}{a:Addr}{kvs:List (ao×V)}{k:ao}(e:H a=some (.dK kvs)):DGet H a (kV k) (jv kvs k):=.inl ⟨kvs,k,.inl e,rfl,rfl⟩
theorem DPut.k{H:Hp}{a:Addr}{kvs:List (ao×V)}{k:ao}{v:V}(e:H a=some (.dK kvs))(hl:kvs.length<sizeLine):DPut H a (kV k) v (upd H a (.dK (fJ kvs k v))):=.inl ⟨kvs,k,e,rfl,hl,rfl⟩
section
variable{X:Cx}{pins:List (Addr×Obj)}{σ:St}{H:Hp}{s:Shared}{a:Addr}{y v:V}{u r:Value}{o:Option V}{A:Around}{E:Value->Shared->Prop}
theorem Inv.big(I:Inv X pins σ H s):sysModules<s.heap.objs.size:=by
 have h:mainGlobals<s.heap.objs.size:=(I.mod.glob.keeps I.bk).lt;exact Nat.lt_trans (by decide) h
theorem wY{Q:Value->Shared->Prop}(hu:A.units+1<cLine)(I:Inv X pins σ H s)(g:DGet H a y (some v))(ry:RelV y u)(h:∀w' s',Inv X pins σ H s'->RelV v w'->Q w' s'):
  wpAny (model X.prog X.w) A (getItem (.ref a) u) Q E s:=by
 rcases g with⟨kvs,k,e,ey,l⟩|⟨kvs,k,b,e,ey,eb,l⟩
 ·subst ey
  obtain⟨z,hd,vs,rel,dd⟩:=lr I.hok e;obtain⟨w',hw,rw'⟩:=RelO.some_of (v:=v) (o:=valueAt vs k) (by rw[l];exact rel.val k);exact wpAny_getItem_of (pY ry) dd.mapOf hw (h w' _ (I.tok _) rw')
 ·subst ey
  cases(show u=Value.ref b from ry);obtain⟨z,hd,xs,rel,dd⟩:=sY I.hok e;obtain⟨w',hw,rw'⟩:=RelO.some_of (v:=v) (o:=(atKey xs k).map (·.2)) (by rw[l];exact rel.val k);obtain⟨p,hp,hp2⟩:=Option.map_eq_some_iff.mp hw;refine wpAny_getItem_heap (tupleKind_room_in1 hu) (qV I.hok eb) dd hp ?_;rw[hp2];exact h w' _ (I.tok _) rw'
theorem rh{h':Heap}{t':Nat}{ob:HO}(I:Inv X pins σ H s)(mu:Ie (H a))(hs:Heap.SameBut a s.heap h')(he:∃q,h'.get? a=some q)(new:ObjOk X.prog X.w (upd H a ob) h' a ob):
  Inv X pins σ (upd H a ob) { s with heap:=h',toks:=t' }:=
 I.write (x:=a) (e:=a) mu (.inl rfl) (fun b q hb z=>(hs.2 b hb).trans z) he new
theorem uO{P:Program}{w:World}{H':Hp}{h':Heap}{kvs:List (ao×V)}{vs:List (ao×Value)}(z:kvs.length<=sizeLine)(hd:(a==sysModules)=false)(rel:KV kvs vs)(dd:h'.DictOf (aL P w) a vs):
  ObjOk P w H' h' a (.dK kvs):=⟨z,hd,vs,rel,dd⟩
theorem wX{H':Hp}{Q:Unit->Shared->Prop}(hu:A.units+1<cLine)(I:Inv X pins σ H s)(g:DPut H a y v H')(ry:RelV y u)(rv:RelV v r)(h:∀s',Inv X pins σ H' s'->Q () s'):
  wpAny (model X.prog X.w) A (setItem (.ref a) u r) Q E s:=by
 rcases g with⟨kvs,k,e,ey,l,eH⟩|⟨kvs,k,b,e,ey,eb,l,eH⟩
 ·subst ey eH
  obtain⟨z,hd,vs,rel,dd⟩:=CZ I.hok e;have hz:vs.length<=sizeLine:=by rw[<-rel.length];exact z
  have hl:(fJ kvs k v).length<=sizeLine:=by have:=fX kvs k v;omega
  refine wpAny_setItem_pairs (hsz:=hz) (pY ry) dd fun h' dd' hs=>h _ ?_
  have he:∃q,h'.get? a=some q:=let ⟨q,_,_,hq,_⟩:=dd'; ⟨q,hq⟩
  exact rh I (by rw[e];exact True.intro) hs he (uO hl hd (rel.put k rv) dd')
 ·subst ey eH
  cases(show u=Value.ref b from ry);obtain⟨z,hd,xs,rel,dd⟩:=HM I.hok e;have hz:xs.length<=sizeLine:=by rw[<-Paired.length rel];exact z
  have hl:(fJ kvs k v).length<=sizeLine:=by have:=fX kvs k v;omega
  refine wpAny_setItem_heap (hsz:=hz) (tupleKind_room_in1 hu) (qV I.hok eb) dd fun h' dd' hs=>h _ ?_
  obtain⟨q,es,ep,hq,h2,h3,h4,_,h5⟩:=dd';refine rh I (by rw[e];exact True.intro) hs ⟨q,hq⟩ ⟨hl,hd,_,(rel.put k eb rv).keeps fun c ys ec=>?_,q,es,ep,hq,h2,h3,h4,h5⟩
  rw[ak (Hc ec e (fun z=>nomatch z))];exact ec
end
def Co(i:Expr):Prop:=∀ov iv,subscripted i false ov iv=operate [ov,iv] (getItem ov iv)
theorem AI{prog:Program}{w:World}{A:Around}{E:Value->Shared->Prop}{s:Shared}{env:Env}{value slice:Expr}{pos:Pos}{T id:String}{Q:Value->Shared->Prop}
  (hl:typeLookup (.type T) "__getitem__" = pure (some (.builtin id))) (hs:Co slice)
  (h:wpAny (model prog w) A (eval value env) (fun o s₁=>wpAny (model prog w) A (eval slice env) (fun i s₂=>s₂.TypeIs o T/\wpAny (model prog w) A (getItem o i) Q E s₂) E s₁) E s) :
  wpAny (model prog w) A (eval (.Subscript value slice pos) env) Q E s:=by
 refine Subscript_ (wpAny_mono h (fun o s₁ h₁=>wpAny_mono h₁ (fun i s₂ h₂=>?_) fun _ _ x=>x) fun _ _ x=>x)
 obtain⟨hT,h₂⟩:=h₂;unfold subscriptTail;refine wpAny_bind ?_;rw[getitemInPython_of_ne hT.not_modules];refine wpAny_bind (wpAny_specialOf hT hl ?_);have fin:wpAny (model prog w) A (subscripted slice false o i) (fun r s₃=>wpAny (model prog w) A (letTemporaryGo value o r >>= fun _=>pure r) Q E s₃) E s₂:=by
  rw[hs o i];exact wpAny_operating (wpAny_mono h₂ (fun r s₃ h₃=>wpAny_bind (wpAny_letTemporaryGo (wpAny_pure h₃))) fun _ _ x=>x)
 first
  |exact wpAny_pure (wpAny_bind fin)
  |exact wpAny_bind (wpAny_pure (wpAny_bind fin))
  |exact wpAny_bind fin
theorem s0{X:Cx}{pins:List (Addr×Obj)}{σ:St}{H:Hp}{s:Shared}{a:Addr}{y:V}{o:Option V}(I:Inv X pins σ H s)(g:DGet H a y o):s.TypeIs (.ref a) "dict":=by
 rcases g with⟨kvs,k,e,_,_⟩|⟨kvs,k,b,e,_,_,_⟩
 ·obtain⟨_,_,vs,_,dd⟩:=lr I.hok e
  exact dd.typeIs
 ·obtain⟨_,_,xs,_,dd⟩:=sY I.hok e
  exact dd.typeIs
def Gz(td ty:TE):TE:=fun σ H Q=>td σ H fun x H1=>ty σ H1 fun y H2=>∃a v,x=.ref a/\DGet H2 a y (some v)/\Q v H2
def GL(td ty tv:TE):TS:=fun D σ H=>tv σ H fun v H1=>td σ H1 fun x H2=>ty σ H2 fun y H3=>∃a H4,x=.ref a/\DPut H3 a y v H4/\D.nx σ H4
section
variable{X:Cx}{o i e value:Expr}{pos pos' tpos:Pos}{td ty tv:TE}
theorem vn(hu:X.A.units+1<cLine)(ho:PE X o td)(hi:PE X i ty)(hs:Co i):PE X (.Subscript o i pos) (Gz td ty):=by
 intro pins s σ H Q I h;refine AI PySem.F.slot_dict_getitem.lookup hs (cn (ho pins s σ H _ I h) fun u s1 ⟨x,H1,I1,rx,q1⟩=>cn (hi pins s1 σ H1 _ I1 q1) fun iv s2 ⟨y,H2,I2,ry,a,v,ex,g,q2⟩=>?_)
 subst ex;obtain rfl:u=Value.ref a:=rx;exact⟨s0 I2 g,wY hu I2 g ry fun w' s3 I3 rw'=>⟨v,H2,I3,rw',q2⟩⟩
theorem vh(hu:X.A.units+1<cLine)(ho:PE X o td)(hi:PE X i ty)(hv:PE X value tv)(hs:swapsWith value (some (.Subscript o i pos')) pos.line X.env=pure false):
  PS X (.Assign [.Subscript o i pos'] value pos) (GL td ty tv):=by
 intro pins s σ H D I h;refine wpAny_Assign_Subscript (cn (hv pins s σ H _ I h) fun r s1 ⟨v,H1,I1,rv,q1⟩=>cn (ho pins s1 σ H1 _ I1 q1) fun u s2 ⟨x,H2,I2,rx,q2⟩=>cn (hi pins s2 σ H2 _ I2 q2) fun iv s3 ⟨y,H3,I3,ry,a,H4,ex,g,q3⟩=>?_) hs
 subst ex;obtain rfl:u=Value.ref a:=rx;exact wX hu I3 g ry rv fun s4 I4=>⟨σ,H4,I4,q3⟩
end
theorem sZ{P:Program}{w:World}{H:Hp}(h:Heap)(hb:sysModules<h.objs.size):ObjOk P w H (h.push { cls:=.type "dict",data:=.dict #[] }) h.objs.size (.dK []):=
 ⟨Nat.zero_le _,beq_eq_false_iff_ne.mpr (Ne.symm (Nat.ne_of_lt hb)),[],.nil,Heap.DictOf.new h⟩
def Di:TE:=fun _ H Q=>∀p,H p=none->Q (.ref p) (upd H p (.dK []))
section
variable{X:Cx}{pos:Pos}
theorem yc:PE X (.Dict [] [] pos) Di:=fun pins s σ H Q I h=>
 wpAny_Dict_empty ⟨.ref s.heap.objs.size,_,I.laid (a:=s.heap.objs.size) (o:=.dK []) (t':=s.toks) (fun _ _ q=>Heap.get?_push_of_some _ q) (Nat.le_refl _) (sZ s.heap I.big),rfl,h _ (I.hok.fresh (Nat.le_refl _))⟩
end
def tY:List (TE×TE)->St->Hp->(List (V×V)->Hp->Prop)->Prop
 |[],_,H,Q=>Q [] H
 | (tk,tv)::r,σ,H,Q=>tk σ H fun x H1=>tv σ H1 fun y H2=>tY r σ H2 fun ps H3=>Q ((x,y)::ps) H3
abbrev VV:List (V×V)->List (Value×Value)->Prop:=Paired fun p q=>RelV p.1 q.1/\RelV p.2 q.2
def IK(X:Cx)(pos:Pos)(keys:List (Option Expr))(values:List Expr)(trs:List (TE×TE)):Prop:=
 ∀(pins:List (Addr×Obj)) (s:Shared) (σ:St) (H:Hp) (Q:List (V×V)->Hp->Prop),Inv X pins σ H s->tY trs σ H Q ->
  wpAny (model X.prog X.w) X.A (evalPairs (pairTrees keys values X.env pos)) (fun vs s'=>∃ps H',Inv X pins σ H' s'/\VV ps vs/\Q ps H') X.xe s
theorem A6{X:Cx}{pos:Pos}:IK X pos [] [] []:=fun pins s σ H Q I h=>pairTrees_nil_walk ⟨[],H,I,.nil,h⟩
theorem xY{X:Cx}{pos:Pos}{k v:Expr}{ks:List (Option Expr)}{vs:List Expr}{tk tv:TE}{trs:List (TE×TE)}(hk:PE X k tk)(hv:PE X v tv)(hr:IK X pos ks vs trs):
  IK X pos (some k::ks) (v::vs) ((tk,tv)::trs):=fun pins s σ H Q I h=>
 pairTrees_cons_walk (cn (hk pins s σ H _ I h) fun u s1 ⟨x,H1,I1,rx,q1⟩=>cn (hv pins s1 σ H1 _ I1 q1) fun w2 s2 ⟨y,H2,I2,ry,q2⟩=>
  cn (hr pins s2 σ H2 _ I2 q2) fun ws s3 ⟨ps,H3,I3,rel,q3⟩=>⟨(x,y)::ps,H3,I3,.cons ⟨rx,ry⟩ rel,q3⟩)
noncomputable def nh(kvs more:List (ao×V)):List (ao×V):=more.foldl (fun acc kv=>fJ acc kv.1 kv.2) kvs
theorem KV.merge:∀{more:List (ao×V)} {rs:List (ao×Value)} {kvs:List (ao×V)} {vs:List (ao×Value)},KV more rs->KV kvs vs->KV (nh kvs more) (merged vs rs):=by
 intro more rs kvs vs r;unfold KV at r
 induction r generalizing kvs vs with
 |nil=>intro q;exact q
 | @cons p q ps qs h t ih=>
  intro r0;have e:KV (fJ kvs p.1 p.2) (stored vs q.1 q.2):=by
   have:=r0.put p.1 h.2;rw[<-h.1];exact this
  exact ih e
theorem iY:∀(more kvs:List (ao×V)),(nh kvs more).length<=kvs.length+more.length
 |[],kvs=>by show kvs.length<=kvs.length+0;omega
 |p::r,kvs=>by
  have h1:=iY r (fJ kvs p.1 p.2);have h2:=fX kvs p.1 p.2;show(nh (fJ kvs p.1 p.2) r).length<=_;rw[List.length_cons];omega
theorem og{P:Program}{w:World}:∀{kvs:List (ao×V)} {ws:List (Value×Value)},VV (kvs.map fun kv=>(kV kv.1,kv.2)) ws->∃rs,Carries (aL P w) ws rs/\KV kvs rs
 |[],_,r=>by rw[List.map_nil]at r;cases r;exact⟨[],True.intro,.nil⟩
 |p::kvs,_,r=>by
  rw[List.map_cons]at r;cases r with
  | @cons a b as bs h t=>
   obtain⟨rs,c,q⟩:=og (P:=P) (w:=w) t;obtain⟨b1,b2⟩:=b;exact⟨(p.1,b2)::rs,⟨pY h.1,rfl,c⟩,.cons ⟨rfl,h.2⟩ q⟩
def Gy(trs:List (TE×TE)):TE:=fun σ H Q=>∀p,H p=none->tY trs σ (upd H p (.dK [])) fun ps H2=>H2 p=some (.dK [])/\∃kvs:List (ao×V),ps=kvs.map (fun kv=>(kV kv.1,kv.2))/\kvs.length<=15/\Q (.ref p) (upd H2 p (.dK (nh [] kvs)))
theorem Bc{X:Cx}{pos:Pos}{keys:List (Option Expr)}{values:List Expr}{trs:List (TE×TE)}(h:IK X pos keys values trs)(hall:keys.all (·.isSome)=true)(hl:keys.length=values.length)(h0:keys≠[])
  (h15:keys.length<=15):PE X (.Dict keys values pos) (Gy trs):=by
 intro pins s σ H Q I q;have hn:=I.hok.fresh (Nat.le_refl s.heap.objs.size);have I1:=I.laid (a:=s.heap.objs.size) (o:=.dK []) (h':=s.heap.push { cls:=.type "dict",data:=.dict #[] }) (t':=s.toks) (fun _ _ q=>Heap.get?_push_of_some _ q) (Nat.le_refl _) (sZ s.heap I.big);refine wpAny_Dict_walk (knd:=aL X.prog X.w) hall hl h0 h15 (cn (h pins _ σ _ _ I1 (q _ hn)) fun ws s2 ⟨ps,H2,I2,rel,e,kvs,ep,lk,q2⟩=>?_)
 subst ep;obtain⟨rs,c,rk⟩:=og (P:=X.prog) (w:=X.w) rel;obtain⟨z,hd,vs0,r0,dd⟩:=CZ I2.hok e;cases r0;refine⟨rs,c,dd,fun h' dd' hs=>⟨.ref s.heap.objs.size,_,?_,rfl,q2⟩⟩
 have hz:(nh [] kvs).length<=sizeLine:=by
  have h1:=iY kvs [];rw[List.length_nil]at h1;rw[sizeLine_eq];omega
 have he:∃q,h'.get? s.heap.objs.size=some q:=let ⟨q,_,_,hq,_⟩:=dd'; ⟨q,hq⟩
 exact rh I2 (by rw[e];exact True.intro) hs he (uO hz hd (rk.merge .nil) dd')
structure M2 (X:Cx) (o:Expr) (m:Str) (apos:Pos) (e f:Expr) (cpos:Pos):Prop where
 base:attributeBase o m X.env (eval o X.env)=eval o X.env
 few:((backTo cpos (starEach [e,f] X.env)).all (fun x=>!x.1)&&(backToKw cpos (keywordEach [] X.env)).all (fun x=>x.1.isSome)
  && decide (([e,f]:List Expr).length+([]:List Keyword).length+(if([]:List Keyword).isEmpty then 0 else 1)<30))=true
 line:(apos.endLine==cpos.line)=true
 trees:backTo cpos (starEach [e,f] X.env)=[(false,eval e X.env),(false,eval f X.env)]
def KM(H:Hp)(a:Addr):Prop:=(∃kvs,Rd H a (.dK kvs))\/∃kvs,Rd H a (.dT kvs)
theorem yX{X:Cx}{pins:List (Addr×Obj)}{σ:St}{H:Hp}{s:Shared}{a:Addr}(I:Inv X pins σ H s)(d:KM H a):
  s.TypeIs (.ref a) "dict" /\ (∀b,Value.ref a=.ref b->∃ob,s.heap.get? b=some ob/\ob.dict=none)/\(a==sysModules)=false:=by
 rcases d with⟨kvs,e⟩|⟨kvs,e⟩
 ·obtain⟨_,hd,vs,_,dd⟩:=lr I.hok e
  refine⟨dd.typeIs,fun b q=>?_,hd⟩
  cases q;obtain⟨ob,_,_,h1,h2,_⟩:=dd;exact⟨ob,h1,h2.2.1⟩
 ·obtain⟨_,hd,xs,_,dd⟩:=sY I.hok e
  refine⟨dd.typeIs,fun b q=>?_,hd⟩
  cases q;obtain⟨ob,_,_,h1,h2,_⟩:=dd;exact⟨ob,h1,h2.2.1⟩
section
variable{X:Cx}{pins:List (Addr×Obj)}{σ:St}{H:Hp}{s:Shared}{a:Addr}{y d:V}{u r:Value}{o:Option V}{A:Around}{E:Value->Shared->Prop}
theorem FC{Q:Value->Shared->Prop}(hu:A.units+1<cLine)(I:Inv X pins σ H s)(g:DGet H a y o)(ry:RelV y u)(rd:RelV d r)(h:∀w' s',Inv X pins σ H s'->RelV (o.getD d) w'->Q w' s'):
  wpAny (model X.prog X.w) A (call (.builtin "dict.get") [.ref a,u,r]) Q E s:=by
 rcases g with⟨kvs,k,e,ey,l⟩|⟨kvs,k,b,e,ey,eb,l⟩
 ·subst ey
  obtain⟨z,hd,vs,rel,dd⟩:=lr I.hok e;refine call_meetsIn PySem.F.slot_dict_get dd.typeIs PySem.F.entry_dict_get (PySem.F.args_dict_get_3 _ _ _) (meets_dict_get_default (aL X.prog X.w) a (pY ry) hd r) ⟨_,dd.mapOf,h _ _ (I.tok _) ?_⟩;rw[l];exact(rel.val k).getD rd
 ·subst ey
  cases(show u=Value.ref b from ry);obtain⟨z,hd,xs,rel,dd⟩:=sY I.hok e;refine call_meetsIn PySem.F.slot_dict_get dd.typeIs PySem.F.entry_dict_get (PySem.F.args_dict_get_3 _ _ _) (meetsH_dict_get_default (tupleKind (aL X.prog X.w)) a b hd r) ⟨tupleKind_room_in1 hu,k,xs,qV I.hok eb,dd,h _ _ (I.tok _) ?_⟩;rw[l];exact(rel.val k).getD rd
end
def Dj(td ty tx:TE):TE:=fun σ H Q=>td σ H fun x H1=>∃a,x=.ref a/\KM H1 a/\ty σ H1 fun y H2=>tx σ H2 fun z H3=>∃o,DGet H3 a y o/\Q (o.getD z) H3
section
variable{X:Cx}{o e f:Expr}{apos cpos:Pos}{td ty tx:TE}
theorem yd(hu:X.A.units+1<cLine)(ho:PE X o td)(he:PE X e ty)(hf:PE X f tx)(m:M2 X o "get" apos e f cpos):PE X (.Call (.Attribute o "get" apos) [e,f] [] cpos) (Dj td ty tx):=by
 intro pins s σ H Q I h;refine wpAny_Call_method m.base m.few m.line PySem.F.plainAttrs_dict PySem.F.slot_dict_get PySem.F.type_dict_get (cn (ho pins s σ H _ I h) fun u s1 ⟨x,H1,I1,rx,a,ex,d,q1⟩=>?_)
 subst ex;obtain rfl:u=Value.ref a:=rx;obtain⟨t1,t2,_⟩:=yX I1 d;refine⟨t1,t2,?_⟩;rw[m.trees];refine Calls.callWith_builtin rfl (Calls.evalArgs_plain (Calls.spliced_cons (cn (he pins s1 σ H1 _ I1 q1) fun iv s2 ⟨y,H2,I2,ry,q2⟩=>
  Calls.spliced_cons (cn (hf pins s2 σ H2 _ I2 q2) fun fv s3 ⟨z,H3,I3,rz,ov,g,q3⟩=>Calls.spliced_nil ?_))))
 exact FC hu I3 g ry rz fun w' s4 I4 rw'=>⟨_,H3,I4,rw',q3⟩
end
end L2
namespace Att
open PySem PySem.W PySem.Calls PyProof.Rows
end Att
namespace L2
open PySem PySem.Spec PyProof.Rows
end L2
namespace VL
open PySem PySem.Spec PyProof.Rows L2
noncomputable def jj:D->Option ao
 |.int i=>some (.inl i)
 |.str x=>some (.inr x)
 |_=>none
@[simp] theorem yS(i:Int):jj (.int i)=some (.inl i):=rfl
noncomputable def vb:Option Sl->Option (List (ao×D))
 |some (.own (.d es))=>some es
 |_=>none
@[simp] theorem Ji(es:List (ao×D)):vb (some (.od es))=some es:=rfl
noncomputable def eU(es:List (ao×D))(k:ao):Option D:=(es.find? fun p=>decide (p.1=k)).map (·.2)
noncomputable def gk(es:List (ao×D))(k:ao)(d:D):List (ao×D):=if(es.any fun p=>decide (p.1=k))=true then es.map (fun p=>if p.1=k then(p.1,d)else p)else es++[(k,d)]
noncomputable def xQ(i:Nat):Sf:=fun δ=>some (.nx,δ.set i (.od []))
noncomputable def vo(i:Nat)(fk:Dv->Option D):Dv->Option D:=fun δ=>(vb δ[i]?).bind fun es=>(fk δ).bind fun k=>(jj k).bind fun k=>eU es k
noncomputable def jf(i:Nat)(fk fx:Dv->Option D):Dv->Option D:=fun δ=>(vb δ[i]?).bind fun es=>(fk δ).bind fun k=>(fx δ).bind fun y=>(jj k).bind fun k=>some ((eU es k).getD y)
noncomputable def dw(i:Nat)(fk fv:Dv->Option D):Sf:=fun δ=>(fv δ).bind fun v=>(vb δ[i]?).bind fun es=>(fk δ).bind fun k=>(jj k).bind fun k=>if es.length<sizeLine then some (.nx,δ.set i (.od (gk es k v)))else none
theorem eS{o:Option Sl}{es:List (ao×D)}(h:vb o=some es):o=some (.od es):=by
 cases o with
 |none=>cases h
 |some x=>
  cases x with
  |own c=>
   cases c with
   |l ds=>cases h
   |d fs=>cases h;rfl
  |un=>cases h
  |fz d=>cases h
  |fr _=>cases h
theorem fN{K:Fg}{Z:Hp}{v:V}{d:D}{k:ao}(r:Rep K Z v d)(h:jj d=some k):v=kV k:=by
 cases d with
 |int i=>cases h;exact r.int_eq
 |str x=>cases h;exact r.str_eq
 |_=>cases h
theorem gj{K:Fg}{Z:Hp}{kvs:List (ao×V)}{es:List (ao×D)}(h:g8 K Z kvs es):kvs.length=es.length:=by
 have:=congrArg List.length h.1;rw[List.length_map,List.length_map]at this;exact this.symm
theorem iM{K:Fg}{Z:Hp}{kv:ao×V}{kvs:List (ao×V)}{es:List (ao×D)}(h:g8 K Z (kv::kvs) es):∃d fs,es=(kv.1,d)::fs/\Rep K Z kv.2 d/\g8 K Z kvs fs:=by
 obtain⟨h1,h2⟩:=h;cases es with
 |nil=>cases h1
 |cons e fs=>
  obtain⟨k,d⟩:=e;rw[List.map_cons,List.map_cons,List.cons.injEq]at h1;cases h2 with
  |cons r q=>exact⟨d,fs,by rw[<-h1.1],r,h1.2,q⟩
theorem mM{K:Fg}{Z:Hp}(k:ao):∀{kvs:List (ao×V)} {es:List (ao×D)},g8 K Z kvs es->(jv kvs k=none/\eU es k=none)\/∃v d,jv kvs k=some v/\eU es k=some d/\Rep K Z v d
 |[],es,h=>by
  have:es=[]:=List.length_eq_zero_iff.mp (gj h).symm;subst this;exact .inl ⟨rfl,rfl⟩
 |kv::kvs,es,h=>by
  obtain⟨d,fs,rfl,r,q⟩:=iM h;by_cases e:kv.1=k
  ·exact .inr ⟨kv.2,d,ig e,by simp[eU,List.find?_cons,e],r⟩
  ·rw[ii e]
   have:eU ((kv.1,d)::fs) k=eU fs k:=by simp[eU,List.find?_cons,e]
   rw[this];exact mM k q
theorem mL{K:Fg}{Z:Hp}{kvs:List (ao×V)}{es:List (ao×D)}(h:g8 K Z kvs es)(k:ao){v:V}{d:D}(r:Rep K Z v d):g8 K Z (fJ kvs k v) (gk es k d):=by
 have any:∀{kvs:List (ao×V)} {es:List (ao×D)},g8 K Z kvs es->(kvs.any fun kv=>decide (kv.1=k))=es.any fun p=>decide (p.1=k):=by
  intro kvs
  induction kvs with
  |nil=>
   intro es h;have:es=[]:=List.length_eq_zero_iff.mp (gj h).symm;subst this;rfl
  |cons kv kvs ih=>
   intro es h;obtain⟨d,fs,rfl,_,q⟩:=iM h;rw[List.any_cons,List.any_cons,ih q]
 unfold fJ gk;rw[any h];by_cases a:(es.any fun p=>decide (p.1=k))=true
 ·rw[if_pos a,if_pos a]
  clear a any;revert es
  induction kvs with
  |nil=>
   intro es h;have:es=[]:=List.length_eq_zero_iff.mp (gj h).symm;subst this;exact⟨rfl,.nil⟩
  |cons kv kvs ih=>
   intro es h;obtain⟨d',fs,rfl,r',q⟩:=iM h;obtain⟨i1,i2⟩:=ih q;by_cases e:kv.1=k
   ·rw[List.map_cons,List.map_cons,if_pos e,if_pos e]
    exact⟨by rw[List.map_cons,List.map_cons,i1],.cons r i2⟩
   ·rw[List.map_cons,List.map_cons,if_neg e,if_neg e]
    exact⟨by rw[List.map_cons,List.map_cons,i1],.cons r' i2⟩
 ·rw[if_neg a,if_neg a]
  refine⟨by rw[List.map_append,List.map_append,h.1];rfl,?_⟩;rw[List.map_append,List.map_append];exact h.2.append (.cons r .nil)
theorem xu{n:Nat}(h:n+64<cLine):n+1<cLine:=by omega
section
variable{X:Cx}{e b c:Expr}{p pos tpos apos cpos:Pos}{f fk fv fx:Dv->Option D}
theorem AG(i:Nat){x:Str}{pos':Pos}(hN:X.N.Nodup)(hi:X.N[i]? = some x:=by rfl)(hx:rL X.env.scope x:=by first|exact Or.inl rfl|exact Or.inr rfl)(hs:swapsWith (.Dict [] [] p) (some (.Name x pos')) pos.line X.env=pure false:=by rfl)
  (hf:X.fn x=true\/X.env.scope.names.lookup x=some .local:=by first|exact .inl rfl|exact .inr rfl|assumption):SV X (.Assign [.Name x pos'] (.Dict [] [] p) pos) (xQ i):=
 PS.imp (gH hN hi hx yc hs hf) fun D σ H h=>by
  obtain⟨H₀,Z₀,Z,δ,r,hh,e,k⟩:=h;cases e;exact fun p hp=>k _ _ Z (hh.setW hp (.dct ⟨rfl,.nil⟩)) (Same.refl _)
theorem iW{K:Fg}{H₀ Z₀ Z:Hp}{δ:Dv}{σ:St}{H:Hp}(hh:Hold K H₀ Z₀ Z δ σ H){i:Nat}{es:List (ao×D)}(h:vb δ[i]? = some es):∃a kvs,σ[i]? = some (some (V.ref a))/\H a=some (.dK kvs)/\g8 K Z kvs es:=by
 obtain⟨a,kvs,h1,_,_,h4,h5⟩:=hh.od i es (eS h);exact⟨a,kvs,h1,h4,h5⟩
theorem BZ(i:Nat){x:Str}(hu:X.A.units+1<cLine)(hb:EV X b fk)(hsl:Co b)(hN:X.N[i]? = some x:=by rfl)(hv:oH X.env.scope x:=by first|exact Or.inl rfl|exact Or.inr (Or.inl rfl)|exact Or.inr (Or.inr rfl))(hd:(x==("__debug__":Str))=false:=by decide)(hcd:(x==("__classdict__":Str))=false:=by decide):
  EV X (.Subscript (.Name x p) b pos) (vo i fk):=
 PE.imp (vn hu (cf hN hv hd hcd) hb hsl) fun σ H Q h=>by
  obtain⟨H₀,Z₀,Z,δ,d,hh,e,k⟩:=h;obtain⟨es,e1,e⟩:=bind_some e;obtain⟨y,e2,e⟩:=bind_some e;obtain⟨ky,e3,e⟩:=bind_some e;obtain⟨a,kvs,h1,h4,h5⟩:=iW hh e1;refine⟨_,h1,H₀,Z₀,Z,δ,y,hh,e2,fun v Z1 H1 hh1 t1 r1=>?_⟩
  obtain⟨a',kvs',g1,g4,g5⟩:=iW hh1 e1;rw[h1]at g1;cases g1;obtain rfl:=fN r1 e3;rcases mM ky g5 with⟨_,q⟩|⟨w,d',q1,q2,rw'⟩
  ·rw[e]at q;cases q
  ·rw[e]at q2
   cases q2;exact⟨a,w,rfl,q1 ▸ DGet.k g4,k w Z1 H1 hh1 t1 rw'⟩
theorem sX(i:Nat){x:Str}(hu:X.A.units+1<cLine)(hb:EV X b fk)(hc:EV X c fx)(m:M2 X (.Name x p) "get" apos b c cpos)(hN:X.N[i]? = some x:=by rfl)(hv:oH X.env.scope x:=by first|exact Or.inl rfl|exact Or.inr (Or.inl rfl)|exact Or.inr (Or.inr rfl))(hd:(x==("__debug__":Str))=false:=by decide)(hcd:(x==("__classdict__":Str))=false:=by decide):
  EV X (.Call (.Attribute (.Name x p) "get" apos) [b,c] [] cpos) (jf i fk fx):=
 PE.imp (yd hu (cf hN hv hd hcd) hb hc m) fun σ H Q h=>by
  obtain⟨H₀,Z₀,Z,δ,d,hh,e,k⟩:=h;obtain⟨es,e1,e⟩:=bind_some e;obtain⟨y,e2,e⟩:=bind_some e;obtain⟨z,e3,e⟩:=bind_some e;obtain⟨ky,e4,e⟩:=bind_some e;cases e;obtain⟨a,kvs,h1,h4,h5⟩:=iW hh e1;refine⟨_,h1,a,rfl,.inl ⟨kvs,.inl h4⟩,H₀,Z₀,Z,δ,y,hh,e2,fun v Z1 H1 hh1 t1 r1=>⟨H₀,Z₀,Z1,δ,z,hh1,e3,fun u Z2 H2 hh2 t2 r2=>?_⟩⟩
  obtain⟨a',kvs',g1,g4,g5⟩:=iW hh2 e1;rw[h1]at g1;cases g1;obtain rfl:=fN r1 e4;rcases mM ky g5 with⟨q,q'⟩|⟨w,d',q1,q2,rw'⟩
  ·refine⟨none,q ▸ DGet.k g4,k u Z2 H2 hh2 (t1.trans t2) ?_⟩
   rw[q'];exact r2
  ·refine⟨some w,q1 ▸ DGet.k g4,k w Z2 H2 hh2 (t1.trans t2) ?_⟩
   rw[q2];exact rw'
theorem qt(i:Nat){x:Str}(hu:X.A.units+1<cLine)(hb:EV X b fk)(hv':EV X e fv)(hN:X.N[i]? = some x:=by rfl)(hv:oH X.env.scope x:=by first|exact Or.inl rfl|exact Or.inr (Or.inl rfl)|exact Or.inr (Or.inr rfl))(hd:(x==("__debug__":Str))=false:=by decide)(hcd:(x==("__classdict__":Str))=false:=by decide)
  (hs:swapsWith e (some (.Subscript (.Name x p) b tpos)) pos.line X.env=pure false:=by rfl):SV X (.Assign [.Subscript (.Name x p) b tpos] e pos) (dw i fk fv):=
 PS.imp (vh hu (cf hN hv hd hcd) hb hv' hs) fun D σ H h=>by
  obtain⟨H₀,Z₀,Z,δ,r,hh,e,k⟩:=h;obtain⟨v,e1,e⟩:=bind_some e;obtain⟨es,e2,e⟩:=bind_some e;obtain⟨y,e3,e⟩:=bind_some e;obtain⟨ky,e4,e⟩:=bind_some e;obtain⟨hl,e5⟩:=cO e;cases e5;refine⟨H₀,Z₀,Z,δ,v,hh,e1,fun w Z1 H1 hh1 t1 r1=>?_⟩
  obtain⟨a,kvs,h1,h4,h5⟩:=iW hh1 e2;refine⟨_,h1,H₀,Z₀,Z1,δ,y,hh1,e3,fun u Z2 H2 hh2 t2 r2=>?_⟩
  obtain⟨a',kvs',g1,g4,g5⟩:=iW hh2 e2;rw[h1]at g1;cases g1;obtain rfl:=fN r2 e4;exact⟨a,_,rfl,DPut.k g4 (by rw[gj g5];exact hl),k σ _ Z2 (hh2.chgW (eS e2) h1 (.dct (mL g5 ky (r1.same t2)))) (t1.trans t2)⟩
end
noncomputable def uC(x:Int):List Int->List Int
 |[]=>[x]
 |y::r=>if x<=y then x::y::r else y::uC x r
noncomputable def bB:List Int->List Int
 |[]=>[]
 |x::r=>uC x (bB r)
theorem kL(x:Int):∀l:List Int,(uC x l).Perm (x::l)
 |[]=>.refl _
 |y::r=>by
  unfold uC;split
  ·exact .refl _
  ·exact((kL x r).cons y).trans (.swap x y r)
theorem dy:∀l:List Int,(bB l).Perm l
 |[]=>.refl _
 |x::r=>(kL x _).trans ((dy r).cons x)
theorem vG(x:Int):∀l:List Int,l.Pairwise (· <= ·)->(uC x l).Pairwise (· <= ·)
 |[],_=>by simp[uC]
 |y::r,h=>by
  obtain⟨h1,h2⟩:=List.pairwise_cons.mp h;unfold uC;split
  ·rename_i hx
   exact List.pairwise_cons.mpr ⟨fun z hz=>by rcases List.mem_cons.mp hz with rfl|hz;exact hx;exact Int.le_trans hx (h1 z hz),h⟩
  ·rename_i hx
   refine List.pairwise_cons.mpr ⟨fun z hz=>?_,vG x r h2⟩
   rcases List.mem_cons.mp ((kL x r).mem_iff.mp hz)with rfl|hz
   ·omega
   ·exact h1 z hz
theorem kJ:∀l:List Int,(bB l).Pairwise (· <= ·)
 |[]=>.nil
 |x::r=>vG x _ (kJ r)
theorem mD:∀{a b:List Int},a.Perm b->a.Pairwise (· <= ·)->b.Pairwise (· <= ·)->a=b
 |[],b,p,_,_=>(List.nil_perm.mp p).symm
 |x::a,b,p,ha,hb=>by
  cases b with
  |nil=>exact absurd (List.perm_nil.mp p) (by simp)
  |cons y b=>
   obtain⟨ha1,ha2⟩:=List.pairwise_cons.mp ha;obtain⟨hb1,hb2⟩:=List.pairwise_cons.mp hb;have e:x=y:=by
    have h1:x∈y::b:=p.mem_iff.mp List.mem_cons_self;have h2:y∈x::a:=p.mem_iff.mpr List.mem_cons_self;rcases List.mem_cons.mp h1 with h1|h1
    ·exact h1
    ·rcases List.mem_cons.mp h2 with h2|h2
     ·exact h2.symm
     ·exact Int.le_antisymm (ha1 y h2) (hb1 x h1)
   subst e;rw[mD (List.perm_cons x |>.mp p) ha2 hb2]
theorem iO{a b:List Int}(p:a.Perm b)(h:a.Pairwise (· <= ·)):a=bB b:=mD (p.trans (dy b).symm) h (kJ b)
noncomputable def JM:ao->Option Int
 |.inl i=>some i
 |.inr _=>none
noncomputable def jX:List (ao×D)->Option (List Int)
 |[]=>some []
 |p::r=>(JM p.1).bind fun i=>(jX r).bind fun l=>some (i::l)
noncomputable def m7(i:Nat):Dv->Option D:=fun δ=>(vb δ[i]?).bind fun es=>(jX es).bind fun l=>if l.length<64 then some (.list ((bB l).map .int))else none
theorem iw:∀{es:List (ao×D)} {l:List Int},jX es=some l->es.map (·.1)=l.map Sum.inl
 |[],_,h=>by cases h;rfl
 | (.inl i,d)::r,l,h=>by
  obtain⟨m,hm,e⟩:=bind_some h;cases hm;obtain⟨l',h',e⟩:=bind_some e;cases e;rw[List.map_cons,iw h'];rfl
 | (.inr x,d)::r,l,h=>by cases h
theorem qW{P:Program}{w:World}:∀{acc:List Value} {kvs:List (ao×Value)} {l:List Int},acc.length=kvs.length->(∀(j:Nat) (v:Value),acc[j]? = some v->∃k x,kvs[j]? = some (k,x)/\(aL P w).is k v=true)->kvs.map (·.1)=l.map Sum.inl->IntsAre acc l
 |[],kvs,l,h1,_,h3=>by
  have:kvs=[]:=List.length_eq_zero_iff.mp h1.symm;subst this;have:l=[]:=by simpa using h3.symm
  subst this;exact .nil
 |v::acc,kv::kvs,l,h1,h2,h3=>by
  cases l with
  |nil=>cases h3
  |cons i l=>
   rw[List.map_cons,List.map_cons,List.cons.injEq]at h3;obtain⟨k,x,e,hk⟩:=h2 0 v rfl;cases e;have hk':lc k v=true:=hk;have h3':k=Sum.inl i:=h3.1;subst h3';rcases bz hk' with⟨i',t,e1,rfl⟩|⟨y,t,e1,rfl⟩
   ·cases e1
    exact .cons i t (qW (P:=P) (w:=w) (by simpa using h1) (fun j v e=>h2 (j+1) v e) h3.2)
   ·cases e1
theorem da:∀{out:List Value} {l:List Int},IntsAre out l->Vals (l.map V.int) out
 |_,_,.nil=>.nil
 |_,_,.cons n t r=>.cons ⟨t,rfl⟩ (da r)
theorem mf{κ:Type}:∀{kvs:List (κ × V)} {vs:List (κ × Value)},KV kvs vs->vs.map (·.1)=kvs.map (·.1)
 |_,_,.nil=>rfl
 |_,_,.cons r q=>by rw[List.map_cons,List.map_cons,mf q,r.1]
theorem bA{h:Heap}{a b:Addr}{f:Obj->Obj}{o:Obj}(hab:b≠a)(e:h.get? b=some o):(h.update a f).get? b=some o:=(Heap.get?_update_other _ _ (Ne.symm hab)).trans e
section
variable{X:Cx}
theorem rm(hc:X.calm=true):CallR X (.builtin "sorted") (fun xs H Q=>∃a kvs ns,xs=[V.ref a]/\H a=some (.dK kvs)/\kvs.map (·.1)=ns.map Sum.inl/\ns.length<64/\∀l,H l=none->Q (.ref l) (upd H l (.lst ((bB ns).map V.int)))):=by
 intro pins s σ H xs us Q I r h;obtain⟨a,kvs,ns,rfl,ha,hk,h64,q⟩:=h;obtain⟨u,rfl,ru⟩:=pK r;cases ru;obtain⟨z,hd,vs,rel,dd⟩:=lr I.hok (.inl ha);obtain⟨ep,dat⟩:=dd.dictAt;have hln:vs.length=ns.length:=by
  have:=congrArg List.length hk;simp only[List.length_map]at this;rw[<-rel.length,this]
 refine Calls.call_function_entry kind_sorted plain_sorted entry_sorted (args_sorted1 _) ?_;unfold Builtin.«sorted»;refine wpAny_bind (m:=checkCount "sorted" 1 1 _) (wpAny_pure ?_);refine wpAny_bind (PySem.W.kdu_collect (A:=X.A.in1) (PySem.W.kdl_dict (knd:=aL X.prog X.w) (kvs:=vs) (ep:=ep) hd) (I.ok.hd hc) dat (by rw[hln,sizeLine_eq];omega) fun h' tk acc hk' hacc=>?_)
 have hal:acc.toList.length=vs.length:=by rw[Array.length_toList];exact hacc.1
 have hI:IntsAre acc.toList ns:=qW (P:=X.prog) (w:=X.w) hal (fun j v e=>hacc.2 j v (by rw[<-Array.getElem?_toList];exact e)) (by rw[mf rel];exact hk)
 refine wpAny_bind (wpAny_newList ?_ (by rw[hal,hln,sizeLine_eq];omega));have hoL:(h'.push (seqObj "list" acc.toList.toArray 0)).get? h'.objs.size=some (seqObj "list" acc.toList.toArray 0):=Heap.get?_push_size _ rfl;refine wpAny_bind (wpAny_holding (wpAny_call_entry slot_list_sort ⟨_,hoL,rfl⟩ entry_list_sort (list_sort_tree hoL hI (by rw[hal,hln];exact h64) fun out ns' a1 a2 a3=>⟨_,rfl,?_⟩) (args_list_sort _)))
 refine wpAny_pure ⟨_,rfl,?_⟩;have e:=iO a2 a3;subst e;have I1:Inv X pins σ H { s with heap:=h',toks:=tk }:=I.kept hk';have kp:∀b o,h'.get? b=some o->(sortedHeap (h'.push (seqObj "list" acc.toList.toArray 0)) h'.objs.size acc.toList out).get? b=some o:=fun b o eo=>by
  have hb:b≠h'.objs.size:=Nat.ne_of_lt (Heap.lt_size eo);exact bA hb (Heap.get?_push_of_some _ (Heap.get?_push_of_some _ (bA hb (Heap.get?_push_of_some _ eo))))
 have hlen:out.toList.length=ns.length:=by rw[(da a1).length.symm,List.length_map,a2.length_eq]
 obtain⟨e1,ho1⟩:∃e1,((h'.push (seqObj "list" acc.toList.toArray 0)).update h'.objs.size (Obj.mapSeq fun _=>#[])).get? h'.objs.size=some (seqObj "list" #[] e1):=⟨_,get?_update_seq hoL (fun _=>#[])⟩;have ho2:=Heap.get?_push_of_some (seqObj "list" #[] 0) (Heap.get?_push_of_some (seqObj "tuple" acc.toList.toArray 0) ho1);have ho3:=get?_update_seq ho2 (fun _=>out);have L:=I1.laid (h':=sortedHeap (h'.push (seqObj "list" acc.toList.toArray 0)) h'.objs.size acc.toList out) (a:=h'.objs.size) (o:=.lst ((bB ns).map V.int)) (t':=tk) kp (Nat.le_refl _)
  (show ObjOk X.prog X.w _ _ _ (.lst ((bB ns).map V.int))from ⟨by rw[List.length_map,(dy ns).length_eq,sizeLine_eq];omega,out.toList,_,da a1,by rw[Array.toArray_toList];exact ho3⟩)
 exact⟨.ref h'.objs.size,_,L,rfl,q _ (I1.hok.fresh (Nat.le_refl _))⟩
variable{e:Expr}{p p2 pos pos2:Pos}{te:TE}{f:Dv->Option D}
theorem zy(i:Nat){x:Str}(hg:Gl X "sorted")(hm:X.mg "sorted" = none)(hc:X.calm=true:=by rfl)(hN:X.N[i]? = some x:=by rfl)(hv:oH X.env.scope x:=by first|exact Or.inl rfl|exact Or.inr (Or.inl rfl)|exact Or.inr (Or.inr rfl))(hd:(x==("__debug__":Str))=false:=by decide)(hcd:(x==("__classdict__":Str))=false:=by decide)
  (he:starEach [.Name x p2] X.env=(false,eval (.Name x p2) X.env)::starEach [] X.env:=by rfl) (hpl:(backTo pos (starEach [] X.env)).any (·.1)=false:=by rfl):EV X (.Call (.Name "sorted" p) [.Name x p2] [] pos) (m7 i):=
 PE.imp (iq (rm hc) hg hm (by decide +kernel) (cH (cf hN hv hd hcd) f7 he) (by decide) (by decide) he hpl) fun σ H Q h=>by
  obtain⟨H₀,Z₀,Z,δ,d,hh,e,k⟩:=h;obtain⟨es,e1,e⟩:=bind_some e;obtain⟨l,e2,e⟩:=bind_some e;obtain⟨h64,e⟩:=cO e;cases e;obtain⟨a,kvs,h1,h4,h5⟩:=iW hh e1;refine⟨_,h1,a,kvs,l,rfl,h4,by rw[<-h5.1];exact iw e2,h64,fun l' hl=>?_⟩
  have n:=New.add hh.zh hl (.lst ((bB l).map V.int));exact k _ _ _ (hh.new n) n.z (.lst (SqL.of aw) (Reps.ints _))
end
noncomputable def Gd:List D->Option D
 |[.list a,.list b]=>some (.list (List.zipWith (fun x y=>.tuple [x,y]) a b))
 |_=>none
@[simp] noncomputable def Lk(fs:Dv->Option (List D))(g:List D->Option D):Dv->Option D:=fun δ=>(fs δ).bind g
@[simp] theorem Ih(a b:List D):Gd [.list a,.list b]=some (.list (List.zipWith (fun x y=>.tuple [x,y]) a b)):=rfl
theorem wQ{X:Cx}{pins:List (Addr×Obj)}{σ:St}{H H':Hp}{s:Shared}{h':Heap}{t':Nat}(I:Inv X pins σ H s)(k:∀b u,s.heap.get? b=some u->h'.get? b=some u)(ext:∀b,H b≠none->H' b=H b)
  (new:∀b o,H b=none->H' b=some o->s.heap.objs.size<=b/\ObjOk X.prog X.w H' h' b o):Inv X pins σ H' { s with heap:=h',toks:=t' }:=by
 have e':∀{b:Addr} {u:HO},H b=some u->H' b=some u:=fun{b u} q=>by rw[ext b (by rw[q];simp),q]
 refine I.un ⟨fun b u q _ _ _=>k b u q,fun b u q _ _ _=>⟨u.slots,k b u q⟩,fun b u q n _=>?_,fun b u q _=>⟨u,k b u q⟩,fun b xs q=>e' q,fun b u xs q=>e' q,fun b ps q=>⟨#[],by rw[e' q];simp⟩⟩ fun b u e=>?_
 ·cases q':H' b with
  |none=>rfl
  |some o=>exact absurd (Heap.lt_size q) (Nat.not_lt.mpr (new b o n q').1)
 ·by_cases n:H b=none
  ·exact(new b u n e).2
  ·cases q:H b with
   |none=>exact absurd q n
   |some u'=>
    have:=e' q;rw[e]at this;cases this;exact(I.hok b u q).stay (fun c v _ q=>k c v q) (fun c q=>e' q) fun c xs q=>e' q
noncomputable def wA:List Addr->List (List V)->Addr->Option HO
 |a::as,t::ts,b=>if b=a then some (.tup t)else wA as ts b
 |_,_,_=>none
theorem pQ:∀{as:List Addr} {ts:List (List V)} {b:Addr} {o:HO},wA as ts b=some o->∃(j:Nat) (t:List V),as[j]? = some b/\ts[j]? = some t/\o=.tup t
 |[],_,_,_,h=>by cases h
 |_::_,[],_,_,h=>by cases h
 |a::as,t::ts,b,o,h=>by
  unfold wA at h;split at h
  ·rename_i e
   cases h;exact⟨0,t,by rw[e];rfl,rfl,rfl⟩
  ·obtain⟨j,t',h1,h2,h3⟩:=pQ h
   exact⟨j+1,t',h1,h2,h3⟩
theorem sA:∀{as:List Addr} {ts:List (List V)} {j:Nat} {a:Addr} {t:List V},as.Pairwise (· < ·)->as[j]? = some a->ts[j]? = some t->wA as ts a=some (.tup t)
 |[],_,_,_,_,_,h,_=>by simp at h
 |_::_,[],_,_,_,_,_,h=>by simp at h
 |a::as,t::ts,0,_,_,_,h1,h2=>by cases h1;cases h2;exact if_pos rfl
 |a::as,t::ts,j+1,b,u,h,h1,h2=>by
  obtain⟨g1,g2⟩:=List.pairwise_cons.mp h;have hb:=g1 b (List.mem_of_getElem? (by simpa using h1));unfold wA;rw[if_neg (Nat.ne_of_gt hb)];exact sA g2 (by simpa using h1) (by simpa using h2)
section
variable{X:Cx}{e1 e2:Expr}{p p2 pos pos2:Pos}{ta:TA}{fs:Dv->Option (List D)}
noncomputable def FW:Option HO->Option HO
 |some (.frz _ (.lst _))=>none
 |o=>o
theorem rX{o:Option HO}{u:HO}(h:FW o=some u):o=some u/\Bm u=true:=by
 unfold FW at h;split at h
 ·cases h
 ·rename_i hn
  refine⟨h,?_⟩;unfold Bm;split
  ·exact absurd h (hn _ _)
  ·rfl
theorem New.many{Z H H':Hp}(zh:Same Z H)(ext:∀b,H b≠none->H' b=H b):New Z H (fun b=>if H b=none then FW (H' b)else Z b) H' where
 z:=fun b u e=>by
  have:H b=some u:=zh b u e;show(if H b=none then _ else _)=_;rw[if_neg (by rw[this];simp)];exact e
 h:=fun b u e=>by rw[ext b (by rw[e];simp),e]
 zh:=fun b u e=>by
  have e:(if H b=none then FW (H' b)else Z b)=some u:=e;split at e
  ·exact(rX e).1
  ·rename_i n
   rw[ext b n];exact zh b u e
 o:=fun b hb=>if_neg hb
 nf:=fun b o xs e=>by
  have e:(if H b=none then FW (H' b)else Z b)=_:=e;split at e
  ·cases(rX e).2
  ·exact e
end
noncomputable def nG:List (ao×D)->Option (List (ao×Int))
 |[]=>some []
 | (k,.int i)::r=>(nG r).bind fun l=>some ((k,i)::l)
 |_=>none
noncomputable def tf(i:Nat)(δ:Dv):Dv:=match δ[i]? with
 |some (.own (.d es))=>match nG es with
  |some l=>δ.set i (.fz (.dict (ie l)))
  |none=>δ
 |_=>δ
noncomputable def jw:List (D×D)->Option (List (ao×Int))
 |[]=>some []
 | (k,.int i)::r=>(jj k).bind fun k=>(jw r).bind fun l=>some ((k,i)::l)
 |_=>none
theorem uz(k:ao):jj (vC k)=some k:=by cases k<;>rfl
@[simp] theorem fC:∀es:List (ao×Int),jw (ie es)=some es
 |[]=>rfl
 | (k,i)::r=>by
  show(jj (vC k)).bind _=_;rw[uz];show(jw (ie r)).bind _=_;rw[fC r];rfl
noncomputable def nO(es:List (ao×Int))(k:ao):Option Int:=(es.find? fun p=>decide (p.1=k)).map (·.2)
noncomputable def j0:D->D->Option D
 |.dict kvs,k=>(jw kvs).bind fun es=>(jj k).bind fun k=>(nO es k).map .int
 |_,_=>none
theorem nE:∀{es:List (ao×D)} {l:List (ao×Int)},nG es=some l->es=l.map fun p=>(p.1,PyData.int p.2)
 |[],_,h=>by cases h;rfl
 | (k,.int i)::r,l,h=>by
  obtain⟨m,hm,e⟩:=bind_some h;cases e;rw[nE hm];rfl
 | (k,.none)::r,l,h=>by cases h
 | (k,.bool _)::r,l,h=>by cases h
 | (k,.str _)::r,l,h=>by cases h
 | (k,.tuple _)::r,l,h=>by cases h
 | (k,.list _)::r,l,h=>by cases h
 | (k,.dict _)::r,l,h=>by cases h
theorem kB{K:Fg}{Z:Hp}:∀{kvs:List (ao×V)} {l:List (ao×Int)},g8 K Z kvs (l.map fun p=>(p.1,PyData.int p.2))->kvs=l.map fun p=>(p.1,V.int p.2)
 |[],l,h=>by
  have:(l.map fun p=>(p.1,PyData.int p.2))=[]:=List.length_eq_zero_iff.mp (gj h).symm
  rw[List.map_eq_nil_iff.mp this];rfl
 |kv::kvs,l,h=>by
  obtain⟨d,fs,e,r,q⟩:=iM h;cases l with
  |nil=>cases e
  |cons p l=>
   rw[List.map_cons,List.cons.injEq,Prod.mk.injEq]at e;obtain⟨⟨e1,e2⟩,e3⟩:=e;subst e2;subst e3;obtain⟨k,v⟩:=kv;have e1:p.1=k:=e1;have rv:v=V.int p.2:=r.int_eq;subst rv;rw[List.map_cons,<-kB q,e1]
theorem wT{K:Fg}{H₀ Z₀ Z H:Hp}{δ:Dv}{σ:St}(h:Hold K H₀ Z₀ Z δ σ H){i:Nat}{l:List (ao×Int)}(e:δ[i]? = some (.od (l.map fun p=>(p.1,PyData.int p.2)))):∃Z',Same Z Z'/\Hold K H₀ Z₀ Z' (δ.set i (.fz (.dict (ie l)))) σ H:=by
 obtain⟨a,kvs,h1,h2,h3,h4,h5⟩:=h.od i _ e;obtain rfl:=kB h5;have hl:i < δ.length:=(List.getElem?_eq_some_iff.mp e).1;have sz:Same Z (upd Z a (.dK (l.map fun p=>(p.1,V.int p.2)))):=dH h3
 refine⟨_,sz,fun b o q=>?_,h.h0,h.z0.trans sz,fun b hb=>?_,by simp[h.len],fun j d q=>?_,fun j d q=>?_,fun j k d1 d2 b hjk q1 q2=>?_,(h.fr.same sz).put (fun _ z=>nomatch z) fun _ _=>rfl,h.nf.upd a⟩
 ·by_cases hb:b=a
  ·subst hb;rw[aw]at q;cases q;exact h4
  ·rw[ak hb]at q;exact h.zh b o q
 ·rw[ak (fun z=>hb (by rw[z];exact h2))];exact h.zb b hb
 ·by_cases hj:i=j
  ·subst hj
   rw[List.getElem?_set_self hl]at q;cases q;exact⟨.ref a,h1,.opq (.dct rfl aw)⟩
  ·rw[List.getElem?_set_ne hj]at q
   obtain⟨v,g1,g2⟩:=h.fz j d q;exact⟨v,g1,g2.same sz⟩
 ·by_cases hj:i=j
  ·subst hj
   rw[List.getElem?_set_self hl]at q;cases q
  ·rw[List.getElem?_set_ne hj]at q
   obtain⟨b,ws,g1,g2,g3,g4,g5⟩:=h.own j d q;have:b≠a:=fun z=>by subst z;exact h.dja i j _ d b hj e q h1 g1
   exact⟨b,ws,g1,g2,by rw[ak this];exact g3,g4,g5.same sz⟩
 ·by_cases hj:i=j
  ·subst hj
   rw[List.getElem?_set_self hl]at q1;cases q1
  ·by_cases hk:i=k
   ·subst hk
    rw[List.getElem?_set_self hl]at q2;cases q2
   ·rw[List.getElem?_set_ne hj]at q1
    rw[List.getElem?_set_ne hk]at q2;exact h.dja j k d1 d2 b hjk q1 q2
section
variable{X:Cx}{st:Stmt}{s1:Sf}{a b:Expr}{f fk:Dv->Option D}{p pos:Pos}
theorem Fs{K:Fg}(i:Nat){D:Ends}{σ:St}{H:Hp}(h:Cv K (fun δ=>s1 (tf i δ)) D σ H):Cv K s1 D σ H:=by
 obtain⟨H₀,Z₀,Z,δ,r,hh,e,k⟩:=h;have e:s1 (tf i δ)=some r:=e;unfold tf at e;split at e
 ·rename_i es q
  split at e
  ·rename_i l ql
   rw[nE ql]at q;obtain⟨Z1,t1,hh1⟩:=wT hh q;exact⟨H₀,Z₀,Z1,_,r,hh1,e,fun σ2 H2 Z2 hh2 t2=>k σ2 H2 Z2 hh2 (t1.trans t2)⟩
  ·exact⟨H₀,Z₀,Z,_,r,hh,e,k⟩
 ·exact⟨H₀,Z₀,Z,_,r,hh,e,k⟩
theorem Dk(i:Nat)(h:SV X st s1):SV X st (fun δ=>s1 (tf i δ)):=PS.imp h fun D σ H q=>Fs i q
theorem zC{K:Fg}{Z:Hp}{v:V}{kvs:List (D×D)}{es:List (ao×Int)}(r:Rep K Z v (.dict kvs))(h:jw kvs=some es):∃a,v=.ref a/\Z a=some (.dK (es.map fun p=>(p.1,V.int p.2))):=by
 cases r with
 | @opq a _ q=>
  cases q with
  |exc _ _=>cases h
  |fn _=>cases h
  |ins _ _ _=>cases h
  |dct h1 h2=>
   subst h1;rw[fC]at h;cases h;exact⟨a,rfl,h2⟩
 |gdc _ _ _ _=>cases h
theorem pL(k:ao):∀es:List (ao×Int),jv (es.map fun p=>(p.1,V.int p.2)) k=(nO es k).map V.int
 |[]=>rfl
 | (k',i)::r=>by
  by_cases e:k'=k
  ·rw[List.map_cons,ig e];simp[nO,List.find?_cons,e]
  ·rw[List.map_cons,ii e,pL k r];simp[nO,List.find?_cons,e]
theorem nT(hu:X.A.units+1<cLine)(ha:EV X a f)(hb:EV X b fk)(hsl:Co b):EV X (.Subscript a b pos) (o2 f fk j0):=
 PE.imp (vn hu ha hb hsl) fun σ H Q h=>by
  obtain⟨H₀,Z₀,Z,δ,d,hh,e,k⟩:=h;obtain⟨x,e1,e⟩:=bind_some e;obtain⟨y,e2,e⟩:=bind_some e;cases x with
  |dict kvs=>
   obtain⟨es,e3,e⟩:=bind_some e;obtain⟨ky,e4,e⟩:=bind_some e;obtain⟨i,e5,e⟩:=Option.map_eq_some_iff.mp e;subst e;refine⟨H₀,Z₀,Z,δ,_,hh,e1,fun v Z1 H1 hh1 t1 r1=>⟨H₀,Z₀,Z1,δ,y,hh1,e2,fun u Z2 H2 hh2 t2 r2=>?_⟩⟩
   obtain⟨ad,rfl,g⟩:=zC r1 e3;obtain rfl:=fN r2 e4;exact⟨ad,V.int i,rfl,by have:=DGet.k (k:=ky) (hh2.zh _ _ (t2 _ _ g));rw[pL,e5]at this;exact this,k _ Z2 H2 hh2 (t1.trans t2) (.int i)⟩
  |_=>cases e
end
section
variable{cmp:Nat->Nat->(Bool->Shared->Prop)->Shared->Prop}{N:Nat}{key:Nat->Int}
noncomputable def ky(key:Nat->Int)(p:Array Nat)(i:Nat):Int:=key (p.getD i 0)
structure Pm (N:Nat) (p:Array Nat):Prop where
 perm:p.toList.Perm (List.range N)
theorem Pm.size{p:Array Nat}(h:Pm N p):p.size=N:=by
 have:=h.perm.length_eq;simpa using this
variable{s:Shared}(hinj:∀i j,i<N->j<N->key i=key j->i=j)(hc:∀i j,i<N->j<N->i≠j->∀C:Bool->Shared->Prop,C (decide (key i<key j)) s->cmp i j C s)
def Up(key:Nat->Int)(p:Array Nat)(m:Nat):Prop:=∀i j,i<j->j<m->ky key p i<ky key p j
end
noncomputable def uA(es:List (ao×D))(l:List Int):List D:=(bB l).map fun k=>.tuple [.int k,(eU es (.inl k)).getD .none]
section
variable{X:Cx}{o:Expr}{p pos apos cpos:Pos}{td:TE}
theorem EY{ns:List Int}(h:ns.Nodup):∀i j,i<ns.length->j<ns.length->ns.getD i 0=ns.getD j 0->i=j:=fun i j hi hj e=>by
 rw[List.getD_eq_getElem?_getD,List.getD_eq_getElem?_getD,List.getElem?_eq_getElem hi,List.getElem?_eq_getElem hj]at e;have pw:=List.pairwise_iff_getElem.mp h;rcases Nat.lt_trichotomy i j with q|q|q
 ·exact absurd e (pw i j hi hj q)
 ·exact q
 ·exact absurd e.symm (pw j i hj hi q)
theorem uy{κ:Type}:∀(kvs:List (κ × V)) (vs:List (κ × Value)) (j:Nat) (k:κ) (u:Value),KV kvs vs->vs[j]? = some (k,u)->∃v,kvs[j]? = some (k,v)/\RelV v u
 |[],vs,j,k,u,h,e=>by cases h;simp at e
 |p::kvs,[],j,k,u,h,e=>by simp at e
 |p::kvs,r::vs,0,k,u,h,e=>by
  cases h with
  |cons a b=>
   have e:r=(k,u):=by simpa using e
   subst e;obtain⟨a1,a2⟩:=a;obtain⟨k',v⟩:=p;have a1:k'=k:=a1;subst a1;exact⟨v,rfl,a2⟩
 |p::kvs,r::vs,j+1,k,u,h,e=>by
  cases h with
  |cons a b=>
   obtain⟨v,h1,h2⟩:=uy kvs vs j k u b (by simpa using e);exact⟨v,by simpa using h1,h2⟩
theorem EX:∀{l:List Int},l.Nodup->(l.map (Sum.inl:Int->ao)).Nodup:=fun{l} h=>by
 show List.Pairwise _ _;rw[List.pairwise_map];exact List.Pairwise.imp (fun hne z=>hne (by cases z;rfl)) h
theorem vI:∀{es:List (ao×D)} {i:Nat} {k:ao} {d:D},(es.map (·.1)).Nodup->es[i]? = some (k,d)->eU es k=some d
 |[],i,k,d,_,h=>by simp at h
 |e::es,0,k,d,nd,h=>by
  have h:e=(k,d):=by simpa using h
  subst h;simp[eU,List.find?_cons]
 |e::es,i+1,k,d,nd,h=>by
  have h:es[i]? = some (k,d):=by simpa using h
  rw[List.map_cons]at nd;obtain⟨n1,n2⟩:=List.nodup_cons.mp nd;have ne:¬e.1=k:=fun z=>n1 (by rw[z];exact List.mem_map.mpr ⟨(k,d),List.mem_of_getElem? h,rfl⟩)
  have:=vI n2 h;unfold eU at this ⊢;rw[List.find?_cons,decide_eq_false ne];exact this
end
theorem qN:typeLookup (.type "tuple") "keys" = pure none:=by rw[typeLookup_type,builtinLookup_eq_fast];kernel_rfl
theorem sG:typeLookup (.type "list") "keys" = pure none:=by rw[typeLookup_type,builtinLookup_eq_fast];kernel_rfl
section
variable{prog:Program}{w:World}{A:Around}{E:Value->Shared->Prop}{s:Shared}
theorem lF{a:Addr}{o:Obj}{xs:Array Value}{k:Nat}{Q:Option Value->Shared->Prop}(hx:s.heap.get? a=some o)(hc:o.cls=.type "tuple")(hdat:o.data=.seq xs k)(hd:o.dict=none)(hA:A.handled=none)
  (h:∀h' tk,(∀b o,s.heap.get? b=some o->h'.get? b=some o)->Q none { s with heap:=h',toks:=tk }):wpAny (model prog w) A (getAttr? (.ref a) "keys") Q E s:=by
 obtain⟨c,dct,dat,sl⟩:=o;simp only at hc hdat hd;subst hc hdat hd;obtain⟨hp,g,d,tk,os⟩:=s;have hT:∀tk',(⟨hp,g,d,tk',os⟩:Shared).TypeIs (.ref a) "tuple":=fun _=>⟨_,hx,rfl⟩
 have f1:=sub_AttributeError;have f3:=PySem.F.slot_tuple_getattribute.lookup;have f4:=PySem.F.slot_tuple_getattribute.bind (.ref a);have f5:=am_tuple_getattr_none;unfold getAttr? getAttrBy? getAttrBy
 repeat (any_goals (first|assumption|exact hT _|((with_reducible show wpAny _ _ (call (Value.builtin "tuple.__getattribute__") _ _) _ _ _);refine call_meets PySem.F.slot_tuple_getattribute (hT _) am_entry_tuple_getattribute (PySem.F.args_tuple_getattribute_2 _ _) (meets_getattribute_miss_tuple a xs k sl "keys" _ qN (by decide +kernel) (by decide +kernel)) ⟨hx,hA,fun h' tk' e hx'=>?_⟩)|wp_step))
 obtain⟨t',u',he⟩:=hx'.there;show wpAny _ _ (getattributeRaised _ _ _ _ _ _ _) _ _ _;unfold getattributeRaised
 repeat (any_goals (first|assumption|wp_step))
 exact h h' tk' hx'.of.keeps
theorem nA{a:Addr}{o:Obj}{xs:Array Value}{k:Nat}{Q:Option Value->Shared->Prop}(hx:s.heap.get? a=some o)(hc:o.cls=.type "list")(hdat:o.data=.seq xs k)(hd:o.dict=none)(hA:A.handled=none)
  (h:∀h' tk,(∀b o,s.heap.get? b=some o->h'.get? b=some o)->Q none { s with heap:=h',toks:=tk }):wpAny (model prog w) A (getAttr? (.ref a) "keys") Q E s:=by
 obtain⟨c,dct,dat,sl⟩:=o;simp only at hc hdat hd;subst hc hdat hd;obtain⟨hp,g,d,tk,os⟩:=s;have hT:∀tk',(⟨hp,g,d,tk',os⟩:Shared).TypeIs (.ref a) "list":=fun _=>⟨_,hx,rfl⟩
 have f1:=sub_AttributeError;have f3:=PySem.F.slot_list_getattribute.lookup;have f4:=PySem.F.slot_list_getattribute.bind (.ref a);have f5:=am_list_getattr_none;unfold getAttr? getAttrBy? getAttrBy
 repeat (any_goals (first|assumption|exact hT _|((with_reducible show wpAny _ _ (call (Value.builtin "list.__getattribute__") _ _) _ _ _);refine call_meets PySem.F.slot_list_getattribute (hT _) am_entry_list_getattribute (PySem.F.args_list_getattribute_2 _ _) (meets_getattribute_miss_list a xs k sl "keys" _ sG (by decide +kernel) (by decide +kernel)) ⟨hx,hA,fun h' tk' e hx'=>?_⟩)|wp_step))
 obtain⟨t',u',he⟩:=hx'.there;show wpAny _ _ (getattributeRaised _ _ _ _ _ _ _) _ _ _;unfold getattributeRaised
 repeat (any_goals (first|assumption|wp_step))
 exact h h' tk' hx'.of.keeps
end
theorem iy:entryFor table "dict.update.loop" = some Builtin.«dict.update.loop»:=entryFor_of_tree (by kernel_rfl)
theorem cV:plainId "dict.update.loop" = true:=by decide +kernel
noncomputable def zI(kvs:List (ao×Value))(ps:List (ao×Value)):List (ao×Value):=ps.foldl (fun acc p=>stored acc p.1 p.2) kvs
theorem t7(kvs:List (ao×Value))(k:ao)(v:Value):(stored kvs k v).length<=kvs.length+1:=by
 unfold stored;split
 ·rw[List.length_map];omega
 ·simp
section
variable{prog:Program}{w:World}{A:Around}{R:Result->Shared->Prop}{I:Addr}{fp wr:List Addr}{G:Array GenState->Array GenState->Prop}{n:Nat}{P:Nat->Value->Prop}{St:Nat->Shared->Prop}
theorem rV(W:WalksS prog w A.in1 I fp wr G n P St)(S:Addr)(hSf:S ∉ fp)(res:Value)(ps:List (ao×Value))(hn:ps.length=n)(hz:n<=100000){h₁:Heap}
  (hP:∀i v,P i v->∃b key k u,v=.ref b/\b≠S/\b ∉ wr/\ps[i]? = some (k,u)/\(aL prog w).is k key=true/\IsTup h₁ b #[key,u]) :
  ∀(m i:Nat) (s:Shared) (kvs:List (ao×Value)),n-i=m->i<=n->St i s->s.heap.DictOf (aL prog w) S kvs->kvs.length<=i->(∀b o,b≠S->b ∉ wr->h₁.get? b=some o->s.heap.get? b=some o) ->
   (∀s',Moved (S::wr) G s s'->s'.heap.DictOf (aL prog w) S (zI kvs (ps.drop i))->R (.ok (.ret res)) s') ->
   codeAny (model prog w) A (.builtin "dict.update.loop" ⟨[.ref S,.ref I,rawInt i,res],[]⟩) R s:=by
 have hSw:S ∉ wr:=fun h=>hSf (W.sub _ h)
 have hsub:∀b∈wr,b∈S::wr:=fun b hb=>List.mem_cons_of_mem _ hb
 intro m
 induction m with
 |zero=>
  intro i s kvs hk hi hst hS hl hkp hR;have hin:i=n:=by omega
  subst hin;refine codeAny_builtin iy ?_;rw[Around.under_plainId cV _];show wpAny _ A.in1 (pyNext (.ref I) >>= _) _ _ s;refine wpAny_bind (W.done s _ _ hst fun s' hm=>?_);show wpAny _ A.in1 (Builtin.Dict.addKeywords S [] >>= _) _ _ _;refine wpAny_bind (wpAny_pure (wpAny_pure (hR s' (hm.mono hsub) ?_)));rw[List.drop_of_length_le (by omega)];obtain⟨o,es,ep,ho,r⟩:=hS;exact⟨o,es,ep,hm.heap S _ hSw ho,r⟩
 |succ m ih=>
  intro i s kvs hk hi hst hS hl hkp hR;have hlt:i<n:=by omega
  refine codeAny_builtin iy ?_;rw[Around.under_plainId cV _];show wpAny _ A.in1 (pyNext (.ref I) >>= _) _ _ s;refine wpAny_bind (W.item i s _ _ hlt hst fun v s' hv hst' hm=>?_);obtain⟨b,key,k,u,rfl,hbS,hbw,hpi,hkey,o,hb,hbc,nn,hbd⟩:=hP i v hv;have hb':=hm.heap b _ hbw (hkp b _ hbS hbw hb);have hS':s'.heap.DictOf (aL prog w) S kvs:=by
   obtain⟨o,es,ep,ho,r⟩:=hS;exact⟨o,es,ep,hm.heap S _ hSw ho,r⟩
  refine wpAny_bind (wpAny_holding ?_);refine wpAny_bind (wpAny_tryCatch ?_);unfold Builtin.Dict.pairItems;refine wpAny_bind (wpAny_typeOf (T:="tuple") ⟨o,hb',hbc⟩ ?_);rw[if_pos (by decide)];refine wpAny_bind (wpAny_seqItems hb' hbd (wpAny_pure ?_));show wpAny _ A.in1 (holding [key,u] (dictSet S key u)) _ _ _;refine wpAny_holding (wpAny_dictSet_pairs (hsz:=by rw[sizeLine_eq];omega) hkey hS' fun h' hD hs=>?_)
  have hc:((i:Int)+1)=((i+1:Nat):Int):=by push_cast;rfl
  show wpAny _ A.in1 (again (.builtin "dict.update.loop" ⟨[.ref S,.ref I,rawInt ((i:Int)+1),res],[]⟩)) _ _ _;rw[hc];refine wpAny_pure ⟨plainId_quiet cV _,ih (i+1) _ (stored kvs k u) (by omega) hlt (W.frame _ s' _ _ hst' (Nat.le_succ _) fun b hb o e=>hs.extBut b o (fun z=>hSf (z ▸ hb)) e) hD (by have:=t7 kvs k u;omega) (fun b o h1 h2 e=>hs.extBut b o h1 (hm.heap b o h2 (hkp b o h1 h2 e))) fun s'' hm'' hD''=>?_⟩
  refine hR s'' (Moved.trans W.gtrans ((hm.mono hsub).then_heap (Nat.le_succ _) fun b o hb e=>hs.extBut b o (fun z=>hb (by rw[z];exact List.mem_cons_self)) e) hm'') ?_
  have e:ps.drop i=(k,u)::ps.drop (i+1):=by
   obtain⟨hx,hy⟩:=List.getElem?_eq_some_iff.mp hpi;rw[List.drop_eq_getElem_cons hx,hy]
  rw[e];exact hD''
end
section
variable{prog:Program}{w:World}{A:Around}{E:Value->Shared->Prop}{s:Shared}
theorem lK{t:Addr}{items:Array Value}{ps:List (ao×Value)}{Q:Value->Shared->Prop}(ht:IsTup s.heap t items)(hnd:NoDi s.heap t)(hh:A.handled=none)(hn:ps.length=items.size)(hz:items.size<=100000)
  (hP:∀(i:Nat) (v:Value),items[i]? = some v->∃b key k u,v=.ref b/\ps[i]? = some (k,u)/\(aL prog w).is k key=true/\IsTup s.heap b #[key,u])
  (h:∀s':Shared,(∀b o,s.heap.get? b=some o->s'.heap.get? b=some o)->s'.gens=s.gens->s'.drawn=s.drawn->s'.os=s.os->s'.heap.DictOf (aL prog w) s.heap.objs.size (zI [] ps)->Q (.ref s.heap.objs.size) s') :
  wpAny (model prog w) A (call (.type "dict") [.ref t]) Q E s:=by
 refine callType_codes (Q₁:=fun obj s₁=>obj=.ref s.heap.objs.size/\s₁ = { s with heap:=s.heap.push { cls:=.type "dict",data:=.dict #[] } }) PySem.F.kt_called_dict (PySem.F.kt_typeCall_dict_1 _) PySem.F.entry_dict_init (kt_code_dict_new _ ⟨rfl,rfl⟩) ?_;rintro obj s₁ ⟨rfl,rfl⟩;have hnew:(s.heap.push { cls:=.type "dict",data:=.dict #[] }).DictOf (aL prog w) s.heap.objs.size []:=Heap.DictOf.new s.heap;refine⟨hnew.typeIs,PySem.F.args_dict_init_2 _ _,?_⟩;unfold Builtin.«dict.__init__»;refine wpAny_bind ?_;unfold Builtin.Dict.selfAndRest;refine wpAny_bind (wpAny_notOrdered_dict hnew.typeIs ?_);show wpAny _ _ (pure (s.heap.objs.size,[Value.ref t])) _ _ _;refine wpAny_pure ?_;show wpAny _ _ (Builtin.Dict.updateFrom "dict.__init__" s.heap.objs.size (.ref t) [] .none) _ _ _;unfold Builtin.Dict.updateFrom;obtain⟨o,ho,hc,n0,hd⟩:=ht;obtain⟨o',ho',hdn⟩:=hnd;rw[ho]at ho';cases ho';have ho1:=Heap.get?_push_of_some { cls:=.type "dict",data:=.dict #[] } ho;refine wpAny_bind (wpAny_typeOf (T:="tuple") ⟨o,ho1,hc⟩ ?_);rw[if_pos (by decide)];refine wpAny_bind (lF ho1 hc hd hdn hh fun h' tk keep=>?_);rw[if_pos (show(none:Option Value).isNone=true from rfl)];refine wpAny_bind (wpAny_rule ?_);have ht1:h'.IsTuple t items:=⟨o,keep _ _ ho1,hc,n0,hd⟩;refine wpAny_bind (wpAny_pyIter_tuple ht1 ?_);have hD1:h'.DictOf (aL prog w) s.heap.objs.size []:=by
  obtain⟨o2,es,ep,e2,r2⟩:=hnew;exact⟨o2,es,ep,keep _ _ e2,r2⟩
 have old:∀{b:Addr} {o:Obj},s.heap.get? b=some o->h'.get? b=some o:=fun{b o} e=>keep _ _ (Heap.get?_push_of_some _ e)
 have lt0:∀{b:Addr} {o:Obj},s.heap.get? b=some o->b≠s.heap.objs.size:=fun{b o} e=>Nat.ne_of_lt (Heap.lt_size e)
 have lt1:∀{b:Addr} {o:Obj},h'.get? b=some o->b≠h'.objs.size:=fun{b o} e=>Nat.ne_of_lt (Heap.lt_size e)
 have hSI:s.heap.objs.size≠h'.objs.size:=by
  obtain⟨o2,es,ep,e2,r2⟩:=hD1;exact lt1 e2
 have W:=(Walks.tuple (prog:=prog) (w:=w) (A:=A.in1.in1) hh h'.objs.size t (lt1 (old ho)) items).toS;refine wpAny_pure ⟨plainId_quiet cV _,?_⟩;refine rV W s.heap.objs.size (by simp[hSI];exact fun z=>lt0 ho z.symm) .none ps hn hz (h₁:=h'.push { cls:=.type "tuple_iterator",data:=.fields #[.ref t,.int 0 0] }) (fun i v e=>?_) items.size 0 _ [] rfl (Nat.zero_le _) ⟨?_,?_⟩ ?_ (Nat.zero_le _) (fun b o _ _ e=>e) fun s' mv dd=>?_
 ·obtain⟨b,key,k,u,rfl,h1,h2,o3,h3,h4⟩:=hP i v e
  exact⟨b,key,k,u,rfl,lt0 h3,by simp;exact lt1 (old h3),h1,h2,o3,Heap.get?_push_of_some _ (old h3),h4⟩
 ·exact⟨_,Heap.get?_push_size _ rfl,rfl,rfl⟩
 ·exact⟨o,Heap.get?_push_of_some _ (keep _ _ ho1),hc,n0,hd⟩
 ·obtain⟨o2,es,ep,e2,r2⟩:=hD1
  exact⟨o2,es,ep,Heap.get?_push_of_some _ e2,r2⟩
 ·refine⟨rfl,h s' (fun b o e=>mv.heap b o (by simp;exact⟨lt0 e,lt1 (old e)⟩) (Heap.get?_push_of_some _ (old e))) mv.gens mv.drawn mv.os ?_⟩
  simpa using dd
theorem kQ{t:Addr}{items:Array Value}{ps:List (ao×Value)}{Q:Value->Shared->Prop}(ht:PlainL s.heap t items)(hh:A.handled=none)(hn:ps.length=items.size)(hz:items.size<=100000)
  (hP:∀(i:Nat) (v:Value),items[i]? = some v->∃b key k u,v=.ref b/\ps[i]? = some (k,u)/\(aL prog w).is k key=true/\IsTup s.heap b #[key,u])
  (h:∀s':Shared,(∀b o,s.heap.get? b=some o->s'.heap.get? b=some o)->s'.gens=s.gens->s'.drawn=s.drawn->s'.os=s.os->s'.heap.DictOf (aL prog w) s.heap.objs.size (zI [] ps)->Q (.ref s.heap.objs.size) s') :
  wpAny (model prog w) A (call (.type "dict") [.ref t]) Q E s:=by
 refine callType_codes (Q₁:=fun obj s₁=>obj=.ref s.heap.objs.size/\s₁ = { s with heap:=s.heap.push { cls:=.type "dict",data:=.dict #[] } }) PySem.F.kt_called_dict (PySem.F.kt_typeCall_dict_1 _) PySem.F.entry_dict_init (kt_code_dict_new _ ⟨rfl,rfl⟩) ?_;rintro obj s₁ ⟨rfl,rfl⟩;have hnew:(s.heap.push { cls:=.type "dict",data:=.dict #[] }).DictOf (aL prog w) s.heap.objs.size []:=Heap.DictOf.new s.heap;refine⟨hnew.typeIs,PySem.F.args_dict_init_2 _ _,?_⟩;unfold Builtin.«dict.__init__»;refine wpAny_bind ?_;unfold Builtin.Dict.selfAndRest;refine wpAny_bind (wpAny_notOrdered_dict hnew.typeIs ?_);show wpAny _ _ (pure (s.heap.objs.size,[Value.ref t])) _ _ _;refine wpAny_pure ?_;show wpAny _ _ (Builtin.Dict.updateFrom "dict.__init__" s.heap.objs.size (.ref t) [] .none) _ _ _;unfold Builtin.Dict.updateFrom;obtain⟨o,n0,ho,hc,hdn,hd⟩:=ht;have ho1:=Heap.get?_push_of_some { cls:=.type "dict",data:=.dict #[] } ho;refine wpAny_bind (wpAny_typeOf (T:="list") ⟨o,ho1,hc⟩ ?_);rw[if_pos (by decide)];refine wpAny_bind (nA ho1 hc hd hdn hh fun h' tk keep=>?_);rw[if_pos (show(none:Option Value).isNone=true from rfl)];refine wpAny_bind (wpAny_rule ?_);have ht1:h'.IsList t items:=⟨o,keep _ _ ho1,hc,n0,hd⟩;refine wpAny_bind (wpAny_pyIter_list ht1 ?_);have hD1:h'.DictOf (aL prog w) s.heap.objs.size []:=by
  obtain⟨o2,es,ep,e2,r2⟩:=hnew;exact⟨o2,es,ep,keep _ _ e2,r2⟩
 have old:∀{b:Addr} {o:Obj},s.heap.get? b=some o->h'.get? b=some o:=fun{b o} e=>keep _ _ (Heap.get?_push_of_some _ e)
 have lt0:∀{b:Addr} {o:Obj},s.heap.get? b=some o->b≠s.heap.objs.size:=fun{b o} e=>Nat.ne_of_lt (Heap.lt_size e)
 have lt1:∀{b:Addr} {o:Obj},h'.get? b=some o->b≠h'.objs.size:=fun{b o} e=>Nat.ne_of_lt (Heap.lt_size e)
 have hSI:s.heap.objs.size≠h'.objs.size:=by
  obtain⟨o2,es,ep,e2,r2⟩:=hD1;exact lt1 e2
 have W:=(Walks.list (prog:=prog) (w:=w) (A:=A.in1.in1) hh h'.objs.size t (lt1 (old ho)) items).toS;refine wpAny_pure ⟨plainId_quiet cV _,?_⟩;refine rV W s.heap.objs.size (by simp[hSI];exact fun z=>lt0 ho z.symm) .none ps hn hz (h₁:=h'.push { cls:=.type "list_iterator",data:=.fields #[.ref t,.int 0 0] }) (fun i v e=>?_) items.size 0 _ [] rfl (Nat.zero_le _) ⟨?_,?_⟩ ?_ (Nat.zero_le _) (fun b o _ _ e=>e) fun s' mv dd=>?_
 ·obtain⟨b,key,k,u,rfl,h1,h2,o3,h3,h4⟩:=hP i v e
  exact⟨b,key,k,u,rfl,lt0 h3,by simp;exact lt1 (old h3),h1,h2,o3,Heap.get?_push_of_some _ (old h3),h4⟩
 ·exact⟨_,Heap.get?_push_size _ rfl,rfl,rfl⟩
 ·exact⟨o,Heap.get?_push_of_some _ (keep _ _ ho1),hc,n0,hd⟩
 ·obtain⟨o2,es,ep,e2,r2⟩:=hD1
  exact⟨o2,es,ep,Heap.get?_push_of_some _ e2,r2⟩
 ·refine⟨rfl,h s' (fun b o e=>mv.heap b o (by simp;exact⟨lt0 e,lt1 (old e)⟩) (Heap.get?_push_of_some _ (old e))) mv.gens mv.drawn mv.os ?_⟩
  simpa using dd
end
noncomputable def yh:D->Option (ao×D)
 |.tuple [k,v]=>(jj k).bind fun k=>some (k,v)
 |_=>none
noncomputable def qI:List D->Option (List (ao×D))
 |[]=>some []
 |d::ds=>(yh d).bind fun p=>(qI ds).bind fun ps=>some (p::ps)
noncomputable def vQ:D->Option (List (ao×D))
 |.tuple ds=>(qI ds).bind fun ps=>if ds.length<=1000 then some (ps.foldl (fun acc p=>gk acc p.1 p.2) [])else none
 |.list ds=>(qI ds).bind fun ps=>if ds.length<=1000 then some (ps.foldl (fun acc p=>gk acc p.1 p.2) [])else none
 |_=>none
noncomputable def uc(i:Nat)(f:Dv->Option D):Sf:=fun δ=>(f δ).bind fun d=>(vQ d).bind fun es=>some (.nx,δ.set i (.od es))
inductive PairsV (K:Fg) (H:Hp):List V->List (ao×V)->Prop
 |nil:PairsV K H [] []
 |cons {b:Addr} {k:ao} {v:V} {ts:List V} {ps:List (ao×V)}:SqT K H b [kV k,v]->PairsV K H ts ps->PairsV K H (.ref b::ts) ((k,v)::ps)
noncomputable def zJ(ps:List (ao×V)):List (ao×V):=ps.foldl (fun acc p=>fJ acc p.1 p.2) []
theorem PairsV.vals{X:Cx}{pins:List (Addr×Obj)}{σ:St}{H:Hp}{s:Shared}(I:Inv X pins σ H s):∀{ts:List V} {ps:List (ao×V)} {us:List Value},PairsV X.K H ts ps->Vals ts us->∃qs:List (ao×Value),KV ps qs/\qs.length=us.length/\∀(i:Nat) (v:Value),us[i]? = some v->∃b key k u,v=.ref b/\qs[i]? = some (k,u)/\(aL X.prog X.w).is k key=true/\IsTup s.heap b #[key,u]
 |_,_,_,.nil,.nil=>⟨[],.nil,rfl,fun i v e=>by simp at e⟩
 |_,_,_,.cons (b:=b) (k:=k) (v:=v) h r,.cons h1 r1=>by
  obtain⟨qs,g1,g2,g3⟩:=PairsV.vals I r r1;cases h1;obtain⟨its,rr,tp,_⟩:=I.tuple h;obtain⟨a1,a2,rfl,q1,q2⟩:=Cq rr;refine⟨(k,a2)::qs,.cons ⟨rfl,q2⟩ g1,by simp[g2],fun i w e=>?_⟩
  cases i with
  |zero=>
   have e:Value.ref b=w:=by simpa using e
   subst e;exact⟨b,a1,k,a2,rfl,rfl,pY q1,tp⟩
  |succ i=>exact g3 i w (by simpa using e)
theorem Fa{ps:List (ao×V)}{qs:List (ao×Value)}(r:KV ps qs):∀{kvs:List (ao×V)} {vs:List (ao×Value)},KV kvs vs->KV (ps.foldl (fun acc p=>fJ acc p.1 p.2) kvs) (zI vs qs):=by
 induction r with
 |nil=>intro kvs vs h;exact h
 |cons h r ih=>
  intro kvs vs g;obtain⟨h1,h2⟩:=h;refine ih ?_;dsimp only;rw[<-h1];exact g.put _ h2
theorem vv:∀(ps:List (ao×V)) (kvs:List (ao×V)),(ps.foldl (fun acc p=>fJ acc p.1 p.2) kvs).length<=kvs.length+ps.length
 |[],kvs=>Nat.le_refl _
 |p::ps,kvs=>by
  have:=vv ps (fJ kvs p.1 p.2);have:=fX kvs p.1 p.2;show(ps.foldl _ (fJ kvs p.1 p.2)).length<=_;rw[List.length_cons];omega
theorem PairsV.length{K:Fg}{H:Hp}{ts:List V}{ps:List (ao×V)}(h:PairsV K H ts ps):ps.length=ts.length:=by
 induction h with
 |nil=>rfl
 |cons _ _ ih=>simp[ih]
section
variable{X:Cx}
theorem uR(hc:X.calm=true):CallR X (.type "dict") (fun xs H Q=>∃a ts ps,xs=[V.ref a]/\(SqT X.K H a ts\/SqL X.K H a ts)/\PairsV X.K H ts ps/\ts.length<=1000/\∀l,H l=none->Q (.ref l) (upd H l (.dK (zJ ps)))):=by
 intro pins s σ H xs us Q I r h;obtain⟨a,ts,ps,rfl,ha,hp,hl,q⟩:=h;obtain⟨u,rfl,ru⟩:=pK r;cases ru;have fin:∀{its:List Value} (r1:Vals ts its) {qs:List (ao×Value)} (g1:KV ps qs) (s':Shared) (kp:∀b o,s.heap.get? b=some o->s'.heap.get? b=some o) (hg:s'.gens=s.gens) (hdr:s'.drawn=s.drawn) (hos:s'.os=s.os) (dd:s'.heap.DictOf (aL X.prog X.w) s.heap.objs.size (zI [] qs)),∃v H',Inv X pins σ H' s'/\RelV v (.ref s.heap.objs.size)/\Q v H':=by
  intro its r1 qs g1 s' kp hg hdr hos dd;have hf:H s.heap.objs.size=none:=I.hok.fresh (Nat.le_refl _);refine⟨.ref s.heap.objs.size,upd H s.heap.objs.size (.dK (zJ ps)),?_,rfl,q _ hf⟩;have big:=I.big;have L:=I.laid (h':=s'.heap) (a:=s.heap.objs.size) (o:=.dK (zJ ps)) (t':=s'.toks) kp (Nat.le_refl _) (uO (by
    have:=vv ps [];have:=hp.length;show(zJ ps).length<=sizeLine;rw[sizeLine_eq];unfold zJ;simp only[List.length_nil]at *;omega) (by rw[beq_eq_false_iff_ne];exact fun z=>Nat.lt_irrefl _ (z ▸ big)) (Fa g1 .nil) dd)
  obtain⟨hp',g',d',t',o'⟩:=s';obtain⟨hp0,g0,d0,t0,o0⟩:=s;simp only at hg hdr hos;subst hg hdr hos;exact L
 rcases ha with ha|ha
 ·obtain⟨its,r1,tp,_⟩:=I.tuple ha
  obtain⟨qs,g1,g2,g3⟩:=hp.vals I r1;have hlen:=r1.length;have e1:its.toArray.size=its.length:=by simp
  exact lK tp (I.noDi ha) (I.ok.hd hc) (ps:=qs) (by rw[e1];exact g2) (by rw[e1];omega) (fun i v e=>g3 i v (by simpa using e)) (fin r1 g1)
 ·obtain⟨its,r1,tp,_⟩:=I.list ha
  obtain⟨qs,g1,g2,g3⟩:=hp.vals I r1;have hlen:=r1.length;have e1:its.toArray.size=its.length:=by simp
  exact kQ tp (I.ok.hd hc) (ps:=qs) (by rw[e1];exact g2) (by rw[e1];omega) (fun i v e=>g3 i v (by simpa using e)) (fin r1 g1)
theorem AT{K:Fg}{Z H:Hp}(zh:Same Z H){v:V}{d:D}{p:ao×D}(r:Rep K Z v d)(h:yh d=some p):∃b w,v=.ref b/\SqT K H b [kV p.1,w]/\Rep K Z w p.2:=by
 unfold yh at h;split at h
 rotate_left
 ·cases h
 rename_i dk dv;obtain⟨k,e1,h⟩:=bind_some h;cases h;cases r with
 |tup sq rs=>
  cases rs with
  |cons r1 rs=>
   cases rs with
   |cons r2 rs=>
    cases rs;have:=fN r1 e1;subst this;exact⟨_,_,rfl,SqT.same sq zh,r2⟩
theorem mP{K:Fg}{Z H:Hp}(zh:Same Z H):∀{vs:List V} {ds:List D} {ps:List (ao×D)},Reps K Z vs ds->qI ds=some ps->∃qs:List (ao×V),PairsV K H vs qs/\qs.map (·.1)=ps.map (·.1)/\Reps K Z (qs.map (·.2)) (ps.map (·.2))
 |_,_,_,.nil,h=>by cases h;exact⟨[],.nil,rfl,.nil⟩
 |_,_,_,.cons r rs,h=>by
  obtain⟨p,e1,h⟩:=bind_some h;obtain⟨ps,e2,h⟩:=bind_some h;cases h;obtain⟨b,w,rfl,g1,g2⟩:=AT zh r e1;obtain⟨qs,g3,g4,g5⟩:=mP zh rs e2;exact⟨(p.1,w)::qs,.cons g1 g3,by simp[g4],.cons g2 g5⟩
theorem mN{K:Fg}{Z:Hp}:∀{qs:List (ao×V)} {ps:List (ao×D)},qs.map (·.1)=ps.map (·.1)->Reps K Z (qs.map (·.2)) (ps.map (·.2))->∀{kvs:List (ao×V)} {es:List (ao×D)},g8 K Z kvs es->g8 K Z (qs.foldl (fun acc p=>fJ acc p.1 p.2) kvs) (ps.foldl (fun acc p=>gk acc p.1 p.2) es)
 |[],[],_,_,kvs,es,h=>h
 |[],_::_,e,_,_,_,_=>by simp at e
 |_::_,[],e,_,_,_,_=>by simp at e
 |q::qs,p::ps,e,r,kvs,es,h=>by
  simp only[List.map_cons,List.cons.injEq]at e;cases r with
  |cons r1 r2=>
   refine mN e.2 r2 ?_;dsimp only;rw[e.1];exact mL h p.1 r1
theorem AH(i:Nat){x:Str}{e:Expr}{f:Dv->Option D}{p pos pos' cpos:Pos}(hN:X.N.Nodup)(hg:Gl X "dict")(hm:X.mg "dict" = none)(he':EV X e f)(hc:X.calm=true:=by rfl)(hi:X.N[i]? = some x:=by rfl)(hx:rL X.env.scope x:=by first|exact Or.inl rfl|exact Or.inr rfl)
  (he:starEach [e] X.env=(false,eval e X.env)::starEach [] X.env:=by rfl) (hpl:(backTo cpos (starEach [] X.env)).any (·.1)=false:=by rfl)
  (hs:swapsWith (.Call (.Name "dict" p) [e] [] cpos) (some (.Name x pos')) pos.line X.env=pure false:=by rfl)
  (hf:X.fn x=true\/X.env.scope.names.lookup x=some .local:=by first|exact .inl rfl|exact .inr rfl|assumption):SV X (.Assign [.Name x pos'] (.Call (.Name "dict" p) [e] [] cpos) pos) (uc i f):=
 PS.imp (gH hN hi hx (pR (uR hc) hg hm (by decide +kernel) (cH he' f7 he) (by decide) (by decide) he hpl) hs hf) fun D σ H h=>by
  obtain⟨H₀,Z₀,Z,δ,r,hh,e,k⟩:=h;obtain⟨d,e1,e⟩:=bind_some e;obtain⟨es,e2,e⟩:=bind_some e;cases e;refine⟨H₀,Z₀,Z,δ,d,hh,e1,fun v Z1 H1 hh1 t1 r1=>?_⟩
  unfold vQ at e2;split at e2
  ·rename_i ds
   obtain⟨ps,e3,e2⟩:=bind_some e2;obtain⟨hl,e2⟩:=cO e2;cases e2;cases r1 with
   |tup sq rs=>
    obtain⟨qs,g1,g2,g3⟩:=mP hh1.zh rs e3;refine⟨_,_,qs,rfl,.inl (SqT.same sq hh1.zh),g1,by rw[rs.length];exact hl,fun l hl'=>?_⟩
    exact k _ _ Z1 (hh1.setW hl' (.dct (mN g2 g3 ⟨rfl,.nil⟩))) t1
  ·rename_i ds
   obtain⟨ps,e3,e2⟩:=bind_some e2;obtain⟨hl,e2⟩:=cO e2;cases e2;cases r1 with
   |lst sq rs=>
    obtain⟨qs,g1,g2,g3⟩:=mP hh1.zh rs e3;refine⟨_,_,qs,rfl,.inr (SqL.same sq hh1.zh),g1,by rw[rs.length];exact hl,fun l hl'=>?_⟩
    exact k _ _ Z1 (hh1.setW hl' (.dct (mN g2 g3 ⟨rfl,.nil⟩))) t1
  ·cases e2
end
noncomputable def xP(i:Nat)(fk fv:Dv->Option D):Sf:=fun δ=>(fk δ).bind fun k=>(fv δ).bind fun v=>(jj k).bind fun k=>some (.nx,δ.set i (.od [(k,v)]))
section
variable{K:Fg}{H₀ Z₀ Z H:Hp}{δ:Dv}{σ:St}{p:Addr}{o:HO}
theorem Hold.aside(h:Hold K H₀ Z₀ Z δ σ H)(hp:H p=none)(o:HO):Hold K (upd H₀ p o) Z₀ Z δ σ (upd H p o) where
 zh:=h.zh.trans (dH hp)
 h0:=fun b u e=>by
  by_cases hb:b=p
  ·subst hb;rw[aw]at e ⊢;exact e
  ·rw[ak hb]at e ⊢;exact h.h0 b u e
 z0:=h.z0
 zb:=fun b hb=>by
  by_cases e:b=p
  ·subst e
   have z1:=gQ h.zh hp;rw[z1,jQ h.z0 z1]
  ·rw[ak e]at hb;exact h.zb b hb
 len:=h.len
 fz:=h.fz
 own:=fun i c e=>by
  obtain⟨a,u,h1,h2,h3,h4,h5⟩:=h.own i c e;have:a≠p:=fun z=>by rw[z,hp]at h4;cases h4
  exact⟨a,u,h1,by rw[ak this];exact h2,h3,by rw[ak this];exact h4,h5⟩
 dja:=h.dja
 fr:=fun i ds e=>by
  obtain⟨a,xs,h1,h2,h3,h4,h5⟩:=h.fr i ds e;have:a≠p:=fun z=>by have:=h.zh _ _ h4;rw[z,hp]at this;cases this
  exact⟨a,xs,h1,by rw[ak this];exact h2,h3,h4,h5⟩
 nf:=h.nf
theorem Hold.inside(h:Hold K (upd H₀ p o) Z₀ Z δ σ H)(h0:H₀ p=none)(hz:Z₀ p=none):H p=some o/\Hold K H₀ Z₀ Z δ σ (fun b=>if b=p then none else H b):=by
 have hzp:Z p=none:=by rw[h.zb p (by rw[aw];intro z;cases z)];exact hz
 refine⟨h.h0 p o aw,fun b u e=>?_,fun b u e=>?_,h.z0,fun b hb=>?_,h.len,h.fz,fun i c e=>?_,h.dja,fun i ds e=>?_,h.nf⟩
 ·show(if b=p then none else H b)=some u
  rw[if_neg (aH e hzp)];exact h.zh b u e
 ·show(if b=p then none else H b)=some u
  have:=aH e h0;rw[if_neg this];exact h.h0 b u (by rw[ak this];exact e)
 ·exact h.zb b (by rw[ak (fun z=>hb (by rw[z];exact h0))];exact hb)
 ·obtain⟨a,u,h1,h2,h3,h4,h5⟩:=h.own i c e
  have:a≠p:=fun z=>by rw[z,aw]at h2;cases h2
  exact⟨a,u,h1,by rw[ak this]at h2;exact h2,h3,by show(if a=p then none else H a)=_;rw[if_neg this];exact h4,h5⟩
 ·obtain⟨a,xs,h1,h2,h3,h4,h5⟩:=h.fr i ds e
  have:a≠p:=fun z=>by rw[z,aw]at h2;cases h2
  exact⟨a,xs,h1,by rw[ak this]at h2;exact h2,h3,h4,h5⟩
end
section
variable{X:Cx}
theorem AF(i:Nat){x:Str}{k v:Expr}{fk fv:Dv->Option D}{pos pos' dpos:Pos}(hN:X.N.Nodup)(hk:EV X k fk)(hv':EV X v fv)(hi:X.N[i]? = some x:=by rfl)(hx:rL X.env.scope x:=by first|exact Or.inl rfl|exact Or.inr rfl)
  (hs:swapsWith (.Dict [some k] [v] dpos) (some (.Name x pos')) pos.line X.env=pure false:=by rfl)
  (hf:X.fn x=true\/X.env.scope.names.lookup x=some .local:=by first|exact .inl rfl|exact .inr rfl|assumption):SV X (.Assign [.Name x pos'] (.Dict [some k] [v] dpos) pos) (xP i fk fv):=
 PS.imp (gH hN hi hx (Bc (xY hk hv' A6) rfl rfl (by simp) (by simp)) hs hf) fun D σ H h=>by
  obtain⟨H₀,Z₀,Z,δ,r,hh,e,kk⟩:=h;obtain⟨dk,e1,e⟩:=bind_some e;obtain⟨dv,e2,e⟩:=bind_some e;obtain⟨ky,e3,e⟩:=bind_some e;cases e;intro p hp;have z0:=jQ hh.z0 (gQ hh.zh hp);have h0:H₀ p=none:=by
   cases e:H₀ p with
   |none=>rfl
   |some o=>rw[hh.h0 p o e]at hp;cases hp
  refine⟨_,Z₀,Z,δ,dk,hh.aside hp (.dK []),e1,fun w1 Z1 H1 hh1 t1 r1=>⟨_,Z₀,Z1,δ,dv,hh1,e2,fun w2 Z2 H2 hh2 t2 r2=>?_⟩⟩
  obtain⟨g1,g2⟩:=hh2.inside h0 z0;have:=fN r1 e3;subst this;refine⟨g1,[(ky,w2)],rfl,by simp,?_⟩;have hn:(fun b=>if b=p then none else H2 b) p=none:=if_pos rfl;have st:=g2.setW (i:=i) hn (.dct (K:=X.K) (Z:=Z2) (kvs:=[(ky,w2)]) (es:=[(ky,dv)]) ⟨rfl,.cons r2 .nil⟩);have eH:upd (fun b=>if b=p then none else H2 b) p (.dK [(ky,w2)])=upd H2 p (.dK [(ky,w2)]):=funext fun b=>by
   by_cases hb:b=p
   ·subst hb;rw[aw,aw]
   ·rw[ak hb,ak hb];exact if_neg hb
  rw[eH]at st;exact kk _ _ Z2 st (t1.trans t2)
end
noncomputable def Dm(N:List Str)(es:List (ao×D))(as:List D):Dv:=(az N (.none::as)).set 0 (.od es)
noncomputable def oY(N:List Str)(n:Nat)(b:Sf):List (ao×D)->List D->Option (List (ao×D)):=fun es as=>if as.length+1=n then(b (Dm N es as)).bind fun r=>match r with
  | (.nx,δ)=>vb δ[0]?
  |_=>none
 else none
noncomputable def ip(i:Nat)(fs:Dv->Option (List D))(g:List (ao×D)->List D->Option (List (ao×D))):Sf:=fun δ=>(vb δ[i]?).bind fun es=>(fs δ).bind fun as=>(g es as).bind fun es'=>some (.nx,δ.set i (.od es'))
noncomputable def less(a:Addr)(H:Hp):Hp:=fun b=>if b=a then none else H b
theorem fA{a:Addr}{H:Hp}:less a H a=none:=if_pos rfl
theorem cw{a b:Addr}{H:Hp}(h:b≠a):less a H b=H b:=if_neg h
theorem yE{a:Addr}{H:Hp}:Same (less a H) H:=fun b o e=>by
 unfold less at e;split at e
 ·cases e
 ·exact e
theorem yD{a:Addr}{H:Hp}{o:HO}(e:H a=some o):upd (less a H) a o=H:=funext fun b=>by
 by_cases hb:b=a
 ·subst hb;rw[aw,e]
 ·rw[ak hb,cw hb]
theorem fB{a:Addr}{Z H:Hp}(z:Same Z H)(h:Z a=none):Same Z (less a H):=fun b o e=>by rw[cw (aH e h)];exact z b o e
def GH(K:Fg)(g:List (ao×D)->List D->Option (List (ao×D))):Sp:=fun vs H Q _=>∃Z a ws kvs es as es',vs=.ref a::ws/\Same Z H/\Z a=none/\H a=some (.dK kvs)/\g8 K Z kvs es/\Reps K Z ws as/\g es as=some es' /\
 ∀Z' H' kvs',New Z (less a H) Z' (less a H')->H' a=some (.dK kvs')->g8 K Z' kvs' es'->Q .non H'
def Kq(K:Fg)(a:Addr)(f:Sf):TS:=fun D σ H=>∃H₀ Z₀ Z δ r,Hold K H₀ Z₀ Z δ σ H /\ σ[0]? = some (some (.ref a))/\f δ = some r/\∀ σ' H' Z',Hold K H₀ Z₀ Z' r.2 σ' H' -> σ'[0]? = some (some (.ref a))->Same Z Z'->r.1.to K Z' D σ' H'
def Ic(X:Cx)(st:Stmt)(f:Sf):Prop:=∀a,PS X st (Kq X.K a f)
def C6(X:Cx)(sts:List Stmt)(f:Sf):Prop:=∀a,PSs X sts (Kq X.K a f)
section
variable{X:Cx}{e b c:Expr}{st:Stmt}{sts body orelse:List Stmt}{s1 s2:Sf}{f fk fv:Dv->Option D}{ft:Dv->Option Bool}{p pos tpos:Pos}
theorem u6(i:Nat){x:Str}{pos':Pos}(hN:X.N.Nodup)(he:EV X e f)(h0:0<i)(hi:X.N[i]? = some x:=by rfl)(hx:rL X.env.scope x:=by first|exact Or.inl rfl|exact Or.inr rfl)(hs:swapsWith e (some (.Name x pos')) pos.line X.env=pure false:=by rfl)
  (hf:X.fn x=true\/X.env.scope.names.lookup x=some .local:=by first|exact .inl rfl|exact .inr rfl|assumption):Ic X (.Assign [.Name x pos'] e pos) (cA i f):=fun a=>
 PS.imp (gH hN hi hx he hs hf) fun D σ H h=>by
  obtain⟨H₀,Z₀,Z,δ,r,hh,ha,e,k⟩:=h;obtain⟨x,e1,e⟩:=bind_some e;cases e;exact⟨H₀,Z₀,Z,δ,x,hh,e1,fun v Z1 H1 hh1 s1 r1=>k _ H1 Z1 (hh1.set r1) (by rw[List.getElem?_set_ne (by omega)];exact ha) s1⟩
theorem rY{x:Str}(hu:X.A.units+1<cLine)(hb:EV X b fk)(hv':EV X e fv)(hN:X.N[0]? = some x:=by rfl)(hv:oH X.env.scope x:=by first|exact Or.inl rfl|exact Or.inr (Or.inl rfl)|exact Or.inr (Or.inr rfl))(hd:(x==("__debug__":Str))=false:=by decide)(hcd:(x==("__classdict__":Str))=false:=by decide)
  (hs:swapsWith e (some (.Subscript (.Name x p) b tpos)) pos.line X.env=pure false:=by rfl):Ic X (.Assign [.Subscript (.Name x p) b tpos] e pos) (dw 0 fk fv):=fun a0=>
 PS.imp (vh hu (cf hN hv hd hcd) hb hv' hs) fun D σ H h=>by
  obtain⟨H₀,Z₀,Z,δ,r,hh,ha0,e,k⟩:=h;obtain⟨v,e1,e⟩:=bind_some e;obtain⟨es,e2,e⟩:=bind_some e;obtain⟨y,e3,e⟩:=bind_some e;obtain⟨ky,e4,e⟩:=bind_some e;obtain⟨hl,e5⟩:=cO e;cases e5;refine⟨H₀,Z₀,Z,δ,v,hh,e1,fun w Z1 H1 hh1 t1 r1=>?_⟩
  obtain⟨a,kvs,h1,h4,h5⟩:=iW hh1 e2;refine⟨_,h1,H₀,Z₀,Z1,δ,y,hh1,e3,fun u Z2 H2 hh2 t2 r2=>?_⟩
  obtain⟨a',kvs',g1,g4,g5⟩:=iW hh2 e2;rw[h1]at g1;cases g1;obtain rfl:=fN r2 e4;exact⟨a,_,rfl,DPut.k g4 (by rw[gj g5];exact hl),k σ _ Z2 (hh2.chgW (eS e2) h1 (.dct (mL g5 ky (r1.same t2)))) ha0 (t1.trans t2)⟩
theorem vT:C6 X [] oX:=fun a=>PSs.imp qD fun D σ H h=>by
 obtain⟨H₀,Z₀,Z,δ,r,hh,ha,e,k⟩:=h;cases e;exact k σ H Z hh ha (Same.refl _)
theorem rq(h1:Ic X st s1):C6 X [st] s1:=fun a=>jL (h1 a)
theorem oh(h1:Ic X st s1)(h2:C6 X sts s2):C6 X (st::sts) (aq s1 s2):=fun a=>
 PSs.imp (fK (h1 a) (h2 a)) fun D σ H h=>by
  obtain⟨H₀,Z₀,Z,δ,r,hh,ha,e,k⟩:=h;obtain⟨⟨fl,δ'⟩,e1,e⟩:=bind_some e;refine⟨H₀,Z₀,Z,δ,(fl,δ'),hh,ha,e1,fun σ' H' Z' hh' ha' s'=>?_⟩
  cases fl with
  |nx=>exact⟨H₀,Z₀,Z',δ',r,hh',ha',e,fun σ2 H2 Z2 hh2 ha2 s2=>by
    have:=k σ2 H2 Z2 hh2 ha2 (s'.trans s2);obtain⟨fl,δ2⟩:=r;cases fl<;>exact this⟩
  |bk=>cases e;exact k σ' H' Z' hh' ha' s'
  |ct=>cases e;exact k σ' H' Z' hh' ha' s'
  |rt d=>cases e;exact k σ' H' Z' hh' ha' s'
theorem xB(hc:TV X c ft)(ha:C6 X body s1)(hb:C6 X orelse s2):Ic X (.If c body orelse pos) (b5 ft s1 s2):=fun a=>
 PS.imp (vg hc (ha a) (hb a)) fun D σ H h=>by
  obtain⟨H₀,Z₀,Z,δ,r,hh,h0,e,k⟩:=h;obtain⟨x,e1,e⟩:=bind_some e;refine⟨H₀,Z₀,Z,δ,x,hh,e1,fun Z1 H1 hh1 t1=>?_⟩
  cases x with
  |true=>exact⟨H₀,Z₀,Z1,δ,r,hh1,h0,e,fun σ2 H2 Z2 hh2 h2 t2=>k σ2 H2 Z2 hh2 h2 (t1.trans t2)⟩
  |false=>exact⟨H₀,Z₀,Z1,δ,r,hh1,h0,e,fun σ2 H2 Z2 hh2 h2 t2=>k σ2 H2 Z2 hh2 h2 (t1.trans t2)⟩
end
section
variable{P:Program}{w:World}{K:PySem.W.Frag}{mg:Str->Option Value}{base:Heap}
theorem HH{x qual:Str}{st:Stmt}{f:Addr}{fd:FuncData}{dV:Value}{N ps:List Str}{k:Nat}{b:Sf}(F:FunV K x qual st f fd dV)(S:FnScope N ps (ag st))(hn:0<N.length)
  (hb:∀(cdv:Value) (A:Around) (outer:List Env) (s:Shared) (H:Hp) (E:XK),Room k (A.deeper (envOfC qual (ag st) s.heap.objs.size f cdv))->C6 (nZ dE P w K mg base N qual (ag st) f cdv A outer s H E).nox (cx st) b) :
  FnOk P w K mg base dE (k+1) f fd ps (GH K (oY N ps.length b)):=by
 obtain⟨oc,od,kV,doc,pm,an,cdv,ct,osl,rfl,lk,hcd⟩:=F.ex;have hlen:∀es as es',oY N ps.length b es as=some es'->as.length+1=ps.length:=fun es as es' h=>by
  unfold oY at h;split at h
  ·assumption
  ·cases h
 refine sU lk hcd S (fun vs H Q E h=>?_) fun A outer s H vs Q E hr hsp=>?_
 ·obtain⟨Z,a,ws,kvs,es,as,es',rfl,zh,za,ha,r1,r2,e,_⟩:=h
  have:=hlen es as es' e;have:=r2.length;simp only[List.length_cons];omega
 ·obtain⟨Z,a,ws,kvs,es,as,es',rfl,zh,za,ha,r1,r2,e,kk⟩:=hsp
  refine⟨_,PSs.nox (hb cdv A outer s H E hr a),?_⟩;have h1:=gP (K:=K) (N:=N) (H:=less a H) (fB zh za) (.cons (.non:Rep K Z .non .none) r2);have h2:=h1.setW (i:=0) (p:=a) fA (.dct r1);rw[yD ha]at h2;have hl0:0<(cF N (.non::ws)).length:=by simp[L2.cF]
  have es0:(cF N (.non::ws)).set 0 (some (.ref a))=cF N (.ref a::ws):=by simp[L2.cF]
  rw[es0]at h2;unfold oY at e;split at e
  rotate_left
  ·cases e
  obtain⟨⟨fl,δ'⟩,e2,e⟩:=bind_some e;cases fl with
  |nx=>
   refine⟨less a H,Z,Z,_,_,h2,by simp[L2.cF],e2,fun σ' H' Z' h' a' s'=>?_⟩
   obtain⟨a2,kvs',g1,g2,g3,g4,g5⟩:=h'.od 0 es' (eS e);rw[a']at g1;cases g1;refine kk Z' H' kvs' ⟨s',fun b o q=>?_,fB h'.zh g3,h'.zb,h'.nf⟩ g4 g5
   have hb':b≠a:=fun z=>by rw[z,fA]at q;cases q
   rw[cw hb'];exact h'.h0 b o q
  |rt d=>cases e
  |bk=>cases e
  |ct=>cases e
structure CalM (P:Program) (w:World) (K:PySem.W.Frag) (mg:Str->Option Value) (base:Heap) (x:Str) (k:Nat) (g:List (ao×D)->List D->Option (List (ao×D))):Prop where
 ex:∃(fa:Addr) (fd:FuncData) (ps:List Str),FnOk P w K mg base dE k fa fd ps (GH K g)/\mg x=some (.ref fa)/\PySem.W.keepIn K (.ref fa)=true/\Binds K fd ps []
end
section
variable{K:Fg}{H₀ Z₀ Z H:Hp}{δ:Dv}{σ:St}
theorem Hold.mod(h:Hold K H₀ Z₀ Z δ σ H){i:Nat}{a:Addr}{es es':List (ao×D)}{kvs':List (ao×V)}{Z' H':Hp}(q:δ[i]? = some (.od es))(h1:σ[i]? = some (some (.ref a)))(h2:H₀ a=none)(n:New Z (less a H) Z' (less a H'))(g4:H' a=some (.dK kvs'))(g5:g8 K Z' kvs' es'):
  Hold K H₀ Z₀ Z' (δ.set i (.od es')) σ H':=by
 have hl:i < δ.length:=(List.getElem?_eq_some_iff.mp q).1;have up:∀{b:Addr} {o:HO},b≠a->H b=some o->H' b=some o:=fun{b o} hb e=>by
  have:=n.h b o (by rw[cw hb];exact e)
  rwa [cw hb]at this
 have za:Z' a=none:=by
  cases e:Z' a with
  |none=>rfl
  |some o=>have:=n.zh a o e;rw[fA]at this;cases this
 refine⟨n.zh.trans yE,fun b o e=>up (aH e h2) (h.h0 b o e),h.z0.trans n.z,fun b hb=>?_,by simp[h.len],fun j d e=>?_,fun j d e=>?_,fun j k d1 d2 c hjk q1 q2=>?_,(h.fr.same n.z).put (fun _ z=>nomatch z) fun _ _=>rfl,h.nf.trans n.nf⟩
 ·have hba:b≠a:=fun z=>hb (by rw[z];exact h2)
  have:less a H b≠none:=by
   rw[cw hba];cases e:H₀ b with
   |none=>exact absurd e hb
   |some o=>rw[h.h0 b o e];intro z;cases z
  rw[n.o b this,h.zb b hb]
 ·by_cases hj:i=j
  ·subst hj
   rw[List.getElem?_set_self hl]at e;cases e
  ·rw[List.getElem?_set_ne hj]at e
   obtain⟨v,g1,g2⟩:=h.fz j d e;exact⟨v,g1,g2.same n.z⟩
 ·by_cases hj:i=j
  ·subst hj
   rw[List.getElem?_set_self hl]at e;cases e;exact⟨a,_,h1,h2,za,g4,.dct g5⟩
  ·rw[List.getElem?_set_ne hj]at e
   obtain⟨c,o,f1,f2,f3,f4,f5⟩:=h.own j d e;have hc:c≠a:=fun z=>by subst z;exact h.dja i j _ d c hj q e h1 f1
   exact⟨c,o,f1,f2,by rw[n.o c (by rw[cw hc,f4];intro z;cases z)];exact f3,up hc f4,f5.same n.z⟩
 ·have f:∀{m:Nat} {dm:Oc},(δ.set i (.od es'))[m]? = some (.own dm)->∃dm',δ[m]? = some (.own dm'):=fun{m dm} z=>by
   by_cases hm:i=m
   ·subst hm;exact⟨_,q⟩
   ·rw[List.getElem?_set_ne hm]at z;exact⟨dm,z⟩
  obtain⟨e1,f1⟩:=f q1;obtain⟨e2,f2⟩:=f q2;exact h.dja j k e1 e2 c hjk f1 f2
end
section
variable{P:Program}{w:World}{K:PySem.W.Frag}{mg:Str->Option Value}{base h:Heap}{x y:Str}{st:Stmt}{k:Nat}{ps:List Str}
theorem DefIn.calM(D:DefIn K x y st)(X:K.In h)(G:h.Ns mainGlobals mg)(b:bF y st ps){g:List (ao×VL.D)->List VL.D->Option (List (ao×VL.D))}(ok:∀f fd,FunV K y y st f fd .none->FnOk P w K mg base dE k f fd ps (GH K g)):CalM P w K mg base x k g:=by
 obtain⟨f,fd,a,F,hk⟩:=D;exact⟨⟨_,_,_,ok f fd F,PySem.W.mg_of X G a,hk,F.binds b⟩⟩
end
noncomputable def yY:List D->Option (List Int)
 |[]=>some []
 |.int i::r=>(yY r).bind fun l=>some (i::l)
 |_::_=>none
noncomputable def dg(ns:List Int)(x:Int):List Int:=if x∈ns then ns else ns++[x]
noncomputable def im(l:List Int):List Int:=l.foldl dg []
noncomputable def jA(d:D):Option D:=(dB d).bind fun ds=>(yY ds).bind fun l=>if l.length<64 then some (.list ((bB (im l)).map .int))else none
def UpA(xs:Array Nat):Prop:=∀i j (hi:i<xs.size) (hj:j<xs.size),i<j->xs[i]<xs[j]
theorem oq{xs:Array Nat}{j:Nat}(hu:UpA xs):∀(f lo hi:Nat),hi-lo<=f->lo<=hi->hi<=xs.size ->
  (∀i (h:i<xs.size),i<lo->xs[i]<j)->(∀i (h:i<xs.size),hi<=i->j<=xs[i]) ->
  SetTable.below.go xs j f lo hi<=xs.size/\(∀i (h:i<xs.size),i<SetTable.below.go xs j f lo hi->xs[i]<j)/\(∀i (h:i<xs.size),SetTable.below.go xs j f lo hi<=i->j<=xs[i])
 | 0,lo,hi,h1,h2,h3,a,b=>by
  have:lo=hi:=by omega
  subst this;exact⟨h3,a,b⟩
 |f+1,lo,hi,h1,h2,h3,a,b=>by
  unfold SetTable.below.go;by_cases h:lo<hi
  ·rw[if_pos h]
   have hm:(lo+hi)/2<xs.size:=by omega
   have e:xs.getD ((lo+hi)/2) j=xs[(lo+hi)/2]:=by simp[Array.getD,hm]
   dsimp only;rw[e];by_cases h':xs[(lo+hi)/2]<j
   ·rw[if_pos h']
    refine oq hu f _ hi (by omega) (by omega) h3 (fun i hi' hl=>?_) b;by_cases e2:i=(lo+hi)/2
    ·subst e2;exact h'
    ·exact Nat.lt_trans (hu i _ hi' hm (by omega)) h'
   ·rw[if_neg h']
    refine oq hu f lo _ (by omega) (by omega) (by omega) a fun i hi' hl=>?_
    by_cases e2:i=(lo+hi)/2
    ·subst e2;omega
    ·have:=hu _ i hm hi' (by omega);omega
  ·rw[if_neg h]
   have:lo=hi:=by omega
   subst this;exact⟨h3,a,b⟩
theorem om{xs:Array Nat}(hu:UpA xs)(j:Nat):SetTable.below xs j<=xs.size/\(∀i (h:i<xs.size),i<SetTable.below xs j->xs[i]<j)/\(∀i (h:i<xs.size),SetTable.below xs j<=i->j<=xs[i]):=
 oq hu xs.size 0 xs.size (by omega) (by omega) (Nat.le_refl _) (fun i _ h=>absurd h (by omega)) (fun i h h'=>absurd h (by omega))
theorem qY{xs:Array Nat}{p x:Nat}(hp:p<=xs.size)(i:Nat):(SetTable.insertAt xs p x)[i]? = if i<p then xs[i]? else if i=p then some x else xs[i-1]?:=by
 rw[<-Array.getElem?_toList,SetTable.toList_insertAt];have hl:(xs.toList.take p).length=p:=by rw[List.length_take,Array.length_toList];omega
 by_cases h1:i<p
 ·rw[if_pos h1,List.getElem?_append_left (by omega),List.getElem?_take_of_lt h1,Array.getElem?_toList]
 ·rw[if_neg h1,List.getElem?_append_right (by omega),hl]
  by_cases h2:i=p
  ·subst h2
   rw[if_pos rfl,Nat.sub_self,List.getElem?_cons_zero]
  ·rw[if_neg h2]
   obtain⟨k,rfl⟩:∃k,i=p+k+1:=⟨i-p-1,by omega⟩;rw[show p+k+1-p=k+1 by omega,List.getElem?_cons_succ,List.getElem?_drop,Array.getElem?_toList];rfl
theorem UpA.iff{xs:Array Nat}:UpA xs↔∀i j a b:Nat,i<j->xs[i]? = some a->xs[j]? = some b->a<b:=by
 constructor
 ·intro h i j a b hij ha hb
  obtain⟨h1,rfl⟩:=Array.getElem?_eq_some_iff.mp ha;obtain⟨h2,rfl⟩:=Array.getElem?_eq_some_iff.mp hb;exact h i j h1 h2 hij
 ·intro h i j hi hj hij
  exact h i j _ _ hij (Array.getElem?_eq_getElem hi) (Array.getElem?_eq_getElem hj)
theorem UpA.insert{xs:Array Nat}{j:Nat}(hu:UpA xs)(hn:xs[SetTable.below xs j]? ≠ some j):UpA (SetTable.insertAt xs (SetTable.below xs j) j):=by
 obtain⟨h1,h2,h3⟩:=om hu j;have lo:∀i a,i<SetTable.below xs j->xs[i]? = some a->a<j:=fun i a hi e=>by
  obtain⟨q,rfl⟩:=Array.getElem?_eq_some_iff.mp e;exact h2 i q hi
 have hi:∀i a,SetTable.below xs j<=i->xs[i]? = some a->j<a:=fun i a hi e=>by
  obtain⟨q,rfl⟩:=Array.getElem?_eq_some_iff.mp e;have hb:SetTable.below xs j<xs.size:=by omega
  have e1:j<=xs[SetTable.below xs j]:=h3 _ hb (Nat.le_refl _);have e2:xs[SetTable.below xs j]≠j:=fun z=>hn (by rw[Array.getElem?_eq_getElem hb,z])
  by_cases e3:i=SetTable.below xs j
  ·subst e3;omega
  ·have:=hu _ i hb q (by omega);omega
 rw[UpA.iff]at hu ⊢;intro i k a b hik ha hb;rw[qY h1]at ha hb;split at ha<;>split at hb
 ·exact hu i k a b hik ha hb
 ·split at hb
  ·cases hb;exact lo i a ‹_› ha
  ·exact Nat.lt_trans (lo i a ‹_› ha) (hi _ b (by omega) hb)
 ·omega
 ·split at ha<;>split at hb
  ·omega
  ·cases ha;exact hi _ b (by omega) hb
  ·omega
  ·exact hu (i-1) (k-1) a b (by omega) ha hb
theorem pO{t:SetTable}{j:Nat}(h:t.slot j=.empty\/t.slot j=.dummy):t.place[SetTable.below t.place j]? ≠ some j:=by
 intro e;unfold SetTable.slot at h;simp[e]at h
theorem mR{t:SetTable}{f:Nat->Int}{h:Int}:∀(n:Nat) (p:SetTable.Probe) (j:Nat) (d:Option Nat),(∀x,p.dummy=some x->t.slot x=.dummy)->SetTable.probe.go t f h n p=some (.empty j d)->t.slot j=.empty/\∀x,d=some x->t.slot x=.dummy
 | 0,p,j,d,hp,e=>by cases e
 |n+1,p,j,d,hp,e=>by
  unfold SetTable.probe.go at e;have adv:∀q:SetTable.Probe,(t.advance q).dummy=q.dummy:=fun q=>by unfold SetTable.advance;split<;>rfl
  split at e
  ·rename_i hs;cases e;exact⟨hs,hp⟩
  ·rename_i hs
   refine mR n _ j d (fun x hx=>?_) e;rw[adv]at hx;cases hx;exact hs
  ·split at e
   ·cases e
   ·exact mR n _ j d (fun x hx=>hp x (by rwa [adv]at hx)) e
theorem pi{t:SetTable}{h:Int}{j:Nat}{b:Bool}(e:t.freeSlot h=some (j,b)):t.place[SetTable.below t.place j]? ≠ some j:=by
 unfold SetTable.freeSlot at e;split at e
 ·rename_i j' d hq
  cases e;have:=mR _ _ _ _ (fun x hx=>by cases hx) hq;cases d with
  |none=>exact pO (.inl this.1)
  |some x=>exact pO (.inr (this.2 x rfl))
 ·cases e
structure WkT (led:Bool) (t:SetTable):Prop where
 led:t.led=led
 up:t.plain=true->UpA t.place
theorem WkT.fresh(led:Bool):WkT led (.fresh 0 0 led):=⟨rfl,fun _ i j hi=>absurd hi (by simp[SetTable.fresh])⟩
theorem WkT.standIn{led:Bool}{t:SetTable}(h:WkT led t)(n:Nat):WkT led (t.standIn n):=⟨h.led,fun e=>by cases e⟩
theorem WkT.orStandIn{led:Bool}{t:SetTable}(h:WkT led t)(n:Nat):WkT led (t.orStandIn n):=by
 unfold SetTable.orStandIn;split
 ·exact h
 ·exact h.standIn n
theorem WkT.put{led:Bool}{t:SetTable}(h:WkT led t){x:Int}{j:Nat}{b:Bool}(e:t.freeSlot x=some (j,b)):WkT led (t.put j).1:=⟨h.led,fun q=>(h.up q).insert (pi e)⟩
theorem WkT.layNew{led:Bool}{t:SetTable}(h:WkT led t)(es:Array (Int×Value))(x:Int)(v:Value):WkT led (layNew t es x v).2.1:=by
 unfold PySem.layNew;split
 ·rename_i e;exact(h.put e).orStandIn _
 ·exact h.standIn _
theorem gG(f:Nat->Option Nat):∀(l:List Nat),l.Pairwise (· < ·)->((l.filterMap fun j=>(f j).map (j,·)).map (·.1)).Pairwise (· < ·)
 |[],_=>.nil
 |a::l,h=>by
  obtain⟨h1,h2⟩:=List.pairwise_cons.mp h;rw[List.filterMap_cons];cases f a with
  |none=>exact gG f l h2
  |some b=>
   refine List.pairwise_cons.mpr ⟨fun z hz=>?_,gG f l h2⟩
   obtain⟨q,hq,rfl⟩:=List.mem_map.mp hz;obtain⟨c,hc,e⟩:=List.mem_filterMap.mp hq;obtain⟨d,_,rfl⟩:=Option.map_eq_some_iff.mp e;exact h1 _ hc
theorem WkT.relay{led:Bool}{t:SetTable}(h:WkT led t)(es:Array (Int×Value))(n:Nat):WkT led (relayAll t es n).2.1:=by
 unfold relayAll;split
 ·rename_i t' order e
  dsimp only;split
  ·unfold SetTable.relaid SetTable.laid at e
   obtain⟨o,_,e⟩:=Option.bind_eq_some_iff.mp e;cases e;refine⟨h.led,fun _ i j hi hj hij=>?_⟩
   have:=gG (fun j=>o.getD j none) (List.range (SetTable.sizeAbove n-1+1)) List.pairwise_lt_range;have:=List.pairwise_iff_getElem.mp this i j (by simpa using hi) (by simpa using hj) hij;simpa using this
  ·exact h.standIn _
 ·exact h.standIn _
theorem oo{xs:Array Nat}(hu:UpA xs){i:Nat}(hi:i<xs.size):SetTable.below xs (xs[i]+1)=i+1:=by
 obtain⟨h1,h2,h3⟩:=om hu (xs[i]+1);have a:i<SetTable.below xs (xs[i]+1):=by
  refine Nat.lt_of_not_le fun h=>?_
  have:=h3 i hi h;omega
 have b:¬(i+1<SetTable.below xs (xs[i]+1)):=fun h=>by
  have q:=h2 (i+1) (by omega) h;have:=hu i (i+1) hi (by omega) (by omega);omega
 omega
theorem oj{xs:Array Nat}(hu:UpA xs):SetTable.below xs 0=0:=by
 obtain⟨h1,h2,h3⟩:=om hu 0;refine Nat.eq_zero_of_not_pos fun h=>?_
 have:=h2 0 (by omega) h;omega
noncomputable def qo:Value->Int
 |.int k _=>k
 |_=>0
def uW(e:Int×Value):Prop:=∃k t,e=(hashInt k,Value.int k t)
def SetJ(w:World)(h:Heap)(a:Addr)(ns:List Int):Prop:=∃es ep t,h.get? a=some { cls:=.type "set",dict:=none,data:=.set es ep t,slots:=#[] }/\(∀e∈es.toList,uW e)/\(es.toList.map fun e=>qo e.2).Perm ns/\ns.length<scanBound/\t.fits es.size=true/\WkT (!w.params.followText "set-order") t
theorem SetJ.at{w:World}{h h':Heap}{a:Addr}{ns:List Int}(x:SetJ w h a ns)(e:∀o,h.get? a=some o->h'.get? a=some o):SetJ w h' a ns:=
 let ⟨es,ep,t,ho,r⟩:=x
 ⟨es,ep,t,e _ ho,r⟩
theorem ua(ns:List Int)(x:Int):(dg ns x).length<=ns.length+1:=by
 unfold dg;split
 ·omega
 ·simp
section
variable{prog:Program}{w:World}{A:Around}{E:Value->Shared->Prop}{s:Shared}
theorem nI{es:Array (Int×Value)}(h:∀e∈es.toList,uW e):ElemsOf (intKind prog w) es.toList:=fun e he=>by
 obtain⟨k,t,rfl⟩:=h e he;exact⟨⟨k,intKind_is prog w k t,rfl⟩,rfl⟩
theorem wR{l:List (Int×Value)}(h:∀e∈l,uW e)(k:Int):(l.findIdx? fun e=>(intKind prog w).is k e.2)=none↔k ∉ l.map fun e=>qo e.2:=by
 rw[List.findIdx?_eq_none_iff];constructor
 ·intro q z
  obtain⟨e,he,rfl⟩:=List.mem_map.mp z;obtain⟨k',t,rfl⟩:=h e he;have:=q _ he;rw[show(qo (hashInt k',Value.int k' t).2)=k' from rfl,show((hashInt k',Value.int k' t):Int×Value).2=Value.int k' t from rfl,intKind_is]at this;cases this
 ·intro q e he
  obtain⟨k',t,rfl⟩:=h e he;have hne:k≠k':=fun z=>q (List.mem_map.mpr ⟨_,he,z.symm⟩)
  cases hx:(intKind prog w).is k ((hashInt k',Value.int k' t):Int×Value).2 with
  |false=>rfl
  |true=>exact absurd ((intKind prog w).inj _ _ _ hx (intKind_is prog w k' t)) hne
theorem si{h:Heap}{a:Addr}{es es':Array (Int×Value)}{ep:Nat}{t t':SetTable}{ns:List Int}(ho:h.get? a=some { cls:=.type "set",dict:=none,data:=.set es ep t,slots:=#[] })(h1:∀e∈es'.toList,uW e)(h2:(es'.toList.map fun e=>qo e.2).Perm ns)(h3:ns.length<scanBound)(h4:t'.fits es'.size=true)(h5:WkT (!w.params.followText "set-order") t'):
  (h.update a (Obj.putSet es' t')).get? a=some { cls:=.type "set",dict:=none,data:=.set es' (ep+1) t',slots:=#[] }/\SetJ w (h.update a (Obj.putSet es' t')) a ns:=by
 have g:=Heap.get?_update_self (Obj.putSet es' t') ho (by rw[putSet_of es' t' rfl];rfl);rw[putSet_of es' t' rfl]at g;exact⟨g,es',ep+1,t',g,h1,h2,h3,h4,h5⟩
theorem sB{l l':List (Int×Value)}(p:List.Perm l' l):(l'.map fun e=>qo e.2).Perm (l.map fun e=>qo e.2):=p.map _
theorem AQ{a:Addr}{x:Int}{tk:Tok}{ns:List Int}{Q:Bool->Shared->Prop}(hS:SetJ w s.heap a ns)(hroom:ns.length+1<scanBound)
  (h:∀h' b,Heap.SameBut a s.heap h'->SetJ w h' a (dg ns x)->Q b { s with heap:=h' }):wpAny (model prog w) A (setAddHashed a (.int x tk) (hashInt x)) Q E s:=by
 obtain⟨es,ep,t,ho,hel,hp,hb,hf,hw⟩:=hS;have hsz:es.size=ns.length:=by
  have:=hp.length_eq;rw[List.length_map,Array.length_toList]at this;exact this
 have fl:=wR (prog:=prog) (w:=w) hel x;unfold setAddHashed setAddHashedIn;refine wpAny_holding (wpAny_bind (wpAny_setState_of ho rfl hf ?_));dsimp only;rw[byScan_of (knd:=intKind prog w) (x:=Value.int x tk) rfl (by omega) (nI hel)];simp only[↓reduceIte];unfold setAddByScan;refine wpAny_bind (wpAny_bind (wpAny_rule (wpAny_bind (wpAny_setScan_of (knd:=intKind prog w) (k:=x) (intKind_is prog w x tk) ho rfl hf (nI hel) ?_))));cases hr:es.toList.findIdx? fun e=>(intKind prog w).is x e.2 with
 |some j=>
  have hin:x∈ns:=by
   refine hp.mem_iff.mp (Classical.byContradiction fun z=>?_);rw[fl.mpr z]at hr;cases hr
  have e:dg ns x=ns:=if_pos hin;rw[e]at h;dsimp only;exact wpAny_pure (wpAny_pure (h s.heap _ (Heap.SameBut.refl a s.heap) ⟨es,ep,t,ho,hel,hp,hb,hf,hw⟩))
 |none=>
  have hin:x ∉ ns:=fun z=>fl.mp hr (hp.mem_iff.mpr z)
  have e:dg ns x=ns++[x]:=if_neg hin;rw[e]at h;dsimp only;have gw:∀(b:Bool) {s1:Shared} {Q':Unit->Shared->Prop},Q' () s1->wpAny (model prog w) A (match b with
   |true=>rule "set.scan.the-table-gave-way"
   |false=>pure ()) Q' E s1:=fun b s1 Q' hq=>by
   cases b
   ·exact wpAny_pure hq
   ·exact wpAny_rule hq
  have q1:=layNew_perm t es (hashInt x) (.int x tk);have q2:=layNew_fits t es (hashInt x) (.int x tk);have q3:=hw.layNew es (hashInt x) (.int x tk);generalize hL:PySem.layNew t es (hashInt x) (.int x tk)=L at q1 q2 q3;obtain⟨es1,t1,wd,gv⟩:=L;have hL':PySem.layNew t es ((intKind prog w).hash x) (.int x tk)=(es1,t1,wd,gv):=hL;dsimp only at q1 q2 q3;rw[Array.toList_push]at q1;have el1:∀e∈es1.toList,uW e:=fun e he=>by
   rcases List.mem_append.mp (q1.mem_iff.mp he)with he|he
   ·exact hel e he
   ·rw[List.mem_singleton.mp he];exact⟨x,tk,rfl⟩
  have pm1:(es1.toList.map fun e=>qo e.2).Perm (ns++[x]):=(sB q1).trans (by
   rw[List.map_append];exact hp.append_right _)
  have ln1:(ns++[x]).length<scanBound:=by simpa using hroom
  have sz1:es1.size=(ns++[x]).length:=by
   have:=pm1.length_eq;rw[List.length_map,Array.length_toList]at this;exact this
  dsimp only;refine wpAny_bind (gw _ ?_);refine wpAny_ite_split (fun _=>?_) (fun _=>?_)<;>refine wpAny_bind (wpAny_of_eq (a:=true) rfl ?_)<;>simp only[↓reduceIte]
  all_goals
   obtain⟨g1,g2⟩:=si (w:=w) ho el1 pm1 ln1 q2 q3;refine wpAny_bind (wpAny_storeSet_of ho rfl ?_ (fits_of_scanBound (by omega)));have sb:=Heap.SameBut.update s.heap a (Obj.putSet es1 t1);split
   ·have r1:=relayAll_perm t1 es1 (SetTable.grown es1.size)
    have r2:=relayAll_fits t1 es1 (SetTable.grown es1.size);have r3:=q3.relay es1 (SetTable.grown es1.size);generalize relayAll t1 es1 (SetTable.grown es1.size)=Rl at r1 r2 r3;obtain⟨es2,t2,gv2⟩:=Rl;dsimp only at r1 r2 r3 ⊢;have el2:∀e∈es2.toList,uW e:=fun e he=>el1 e (r1.mem_iff.mp he)
    have pm2:(es2.toList.map fun e=>qo e.2).Perm (ns++[x]):=(sB r1).trans pm1;have sz2:es2.size=(ns++[x]).length:=by
     have:=pm2.length_eq;rw[List.length_map,Array.length_toList]at this;exact this
    refine wpAny_bind (gw _ ?_);refine wpAny_bind (wpAny_storeSet_of g1 rfl ?_ (fits_of_scanBound (by omega)));exact wpAny_pure (wpAny_pure (h _ _ (sb.trans (Heap.SameBut.update _ a _)) (si (w:=w) g1 el2 pm2 ln1 r2 r3).2))
   ·exact wpAny_pure (wpAny_pure (h _ _ sb g2))
end
theorem mH:∀(l ns:List Int),(l.foldl dg ns).length<=ns.length+l.length
 |[],ns=>by simp
 |x::l,ns=>by
  have h1:=mH l (dg ns x);have h2:=ua ns x;show(l.foldl dg (dg ns x)).length<=_;rw[List.length_cons];omega
theorem wm{ns:List Int}{i:Nat}{k:Int}(h:ns[i]? = some k):im (ns.take (i+1))=dg (im (ns.take i)) k:=by
 unfold im;rw[List.take_succ,h,List.foldl_append];rfl
abbrev bE(led:Bool):Obj:={ cls:=.type "set",dict:=none,data:=.set #[] 0 (.fresh 0 0 led) }
theorem setJ_fresh{w:World}{h:Heap}:SetJ w (h.push (bE (!w.params.followText "set-order"))) h.objs.size []:=
 ⟨#[],0,_,Heap.get?_push_size _ rfl,fun e he=>by simp at he,.refl _,by decide,rfl,WkT.fresh _⟩
section
variable{prog:Program}{w:World}{A:Around}{R:Result->Shared->Prop}{I:Addr}{fp wr:List Addr}{G:Array GenState->Array GenState->Prop}{n:Nat}{P:Nat->Value->Prop}{St:Nat->Shared->Prop}
theorem sd(W:WalksS prog w A.in1 I fp wr G n P St)(S:Addr)(hSf:S ∉ fp)(ns:List Int)(hn:ns.length=n)(hP:∀i v,P i v->∃k t,ns[i]? = some k/\v=.int k t)(hz:n+1<scanBound):
  ∀(k i:Nat) (s:Shared),n-i=k->i<=n->St i s->SetJ w s.heap S (im (ns.take i))->(∀s',Moved (S::wr) G s s'->SetJ w s'.heap S (im ns)->R (.ok (.ret .none)) s') ->
   codeAny (model prog w) A (.builtin "set.update.loop" ⟨[.ref S,.ref I],[]⟩) R s:=by
 have nw:S ∉ wr:=fun h=>hSf (W.sub _ h)
 have up:∀b∈wr,b∈S::wr:=fun b hb=>List.mem_cons_of_mem _ hb
 intro k
 induction k with
 |zero=>
  intro i s hk hi hst hS hR;have e:i=n:=by omega
  subst e;refine codeAny_builtin F.entry_set_update_loop ?_;rw[Around.under_plainId F.plain_set_update_loop _];refine wpAny_bind (m:=pyNext (.ref I)) (W.done s _ _ hst fun s' hm=>?_);rw[<-hn,List.take_length]at hS;exact wpAny_pure (hR s' (hm.mono up) (hS.at fun o e=>hm.heap S o nw e))
 |succ k ih=>
  intro i s hk hi hst hS hR;have hlt:i<n:=by omega
  refine codeAny_builtin F.entry_set_update_loop ?_;rw[Around.under_plainId F.plain_set_update_loop _];refine wpAny_bind (m:=pyNext (.ref I)) (W.item i s _ _ hlt hst fun v s' hPv hst' hm=>?_);obtain⟨x,t,hx,rfl⟩:=hP i v hPv;have hS':=hS.at fun o e=>hm.heap S o nw e
  refine wpAny_bind (m:=holding [Value.int x t] (setAdd S (.int x t))) (wpAny_holding ?_);unfold setAdd;refine wpAny_holding (wpAny_bind ((intKind prog w).pyHash (k:=x) (intKind_is prog w x t) ?_));have ln:(im (ns.take i)).length<=i:=by
   have:=mH (ns.take i) [];rw[List.length_take]at this;unfold im;simp only[List.length_nil]at this;omega
  refine AQ (s:={ s' with toks:=s'.toks+1 }) hS' (by omega) fun h' b hsb hS2=>?_
  rw[<-wm hx]at hS2;refine wpAny_pure ⟨plainId_quiet F.plain_set_update_loop _,ih (i+1) _ (by omega) hlt (W.frame _ s' _ _ hst' (Nat.le_succ _) fun b hb o e=>?_) hS2 fun s'' hm'' hS''=>?_⟩
  ·rw[hsb.2 b (fun z=>hSf (z ▸ hb))];exact e
  ·refine hR s'' (Moved.trans W.gtrans ((hm.mono up).then_heap (Nat.le_succ _) fun b o hb e=>?_) hm'') hS''
   rw[hsb.2 b (fun z=>hb (z ▸ List.mem_cons_self))];exact e
end
section
variable{prog:Program}{w:World}{A:Around}{E:Value->Shared->Prop}{s:Shared}
theorem n9(a:Value){Q:Value->Shared->Prop}(h:Q (.ref s.heap.objs.size) { s with heap:=s.heap.push (bE (!w.params.followText "set-order")) }):
  codeAny (model prog w) A (.call (.builtin "set.__new__") ⟨[.type "set",a],[]⟩) (wants Q E) s:=by
 refine codeAny_of_tree ?_;refine wpAny_bind (m:=checkBuiltinCall "set.__new__" ⟨[.type "set",a],[]⟩) (wpAny_of_eq (F.newCall_set_1 a) (wpAny_pure ⟨plainId_quiet F.plain_set_new _,codeAny_builtin F.entry_set_new ?_⟩));rw[Around.under_plainId F.plain_set_new _];unfold Builtin.«set.__new__» Builtin.Frozenset.newClass;have f1:=sub_set_self;obtain⟨hp,g,d,tk,os⟩:=s;dsimp only
 wp_walk
 refine wpAny_askSetting (wpAny_pure ?_);dsimp only;simp only[newObj];exact wpAny_bind (wpAny_alloc (wpAny_pure (wpAny_pure h)))
theorem rp{v:Value}{Q:Value->Shared->Prop}
  (h:∀A':Around,A'.handled=A.handled->wpAny (model prog w) A' (Builtin.Frozenset.updateFrom "set.__init__" s.heap.objs.size v) (fun _ s2=>Q (.ref s.heap.objs.size) s2) E { s with heap:=s.heap.push (bE (!w.params.followText "set-order")) }) :
  wpAny (model prog w) A (call (.type "set") [v]) Q E s:=by
 obtain⟨c,tl,hmro⟩:=F.called_set.mro;have hmade:=F.called_set.made;have hsub:=F.called_set.sub;refine wpAny_call (codeAny_of_tree ?_);show wpAny _ _ (callAny (.type "set") _) _ _ _;refine wpAny_pure ⟨Code.quiet_builtin _ (by decide +kernel),codeAny_builtin F.entry_type_call ?_⟩;rw[Around.under_plain (weight_type_call_type "set" [v] []) rfl];have h1:=F.called_set.notType;have h2:=F.called_set.canCreate;have hct:=F.typeCall_set_1 v
 repeat (any_goals (first|assumption|wp_step))
 refine codeAny_mono (n9 v (E:=E) (Q:=fun obj s1=>obj=.ref s.heap.objs.size/\s1={ s with heap:=s.heap.push (bE (!w.params.followText "set-order")) }) ⟨rfl,rfl⟩) fun r s1 hr=>?_
 cases r with
 |error e=>exact hr
 |ok fl=>
  cases fl with
  |ret obj=>
   obtain⟨rfl,rfl⟩:=hr;have hT:Shared.TypeIs { s with heap:=s.heap.push (bE (!w.params.followText "set-order")) } (.ref s.heap.objs.size) "set":=⟨_,Heap.get?_push_size _ rfl,rfl⟩;have hS:(s.heap.push (bE (!w.params.followText "set-order"))).get? s.heap.objs.size=some (bE (!w.params.followText "set-order")):=Heap.get?_push_size _ rfl;have hli:=F.called_set.init.lookup;have hbi:=F.called_set.init.bind (.ref s.heap.objs.size)
   repeat (any_goals (first|assumption|wp_step))
   refine codeAny_mono (codeAny_call_builtin (R:=wants (fun r s2=>r=.none/\Q (.ref s.heap.objs.size) s2) E) F.called_set.init.plain F.entry_set_init (check_set_init_1 hT ?_)) fun r2 s2 hr2=>?_
   ·unfold Builtin.«set.__init__» noKeywords
    generalize hUF:Builtin.Frozenset.updateFrom=UF
    wp_walk
    subst hUF;refine wpAny_mono (h _ (by simp)) (fun _ s2 q=>?_) fun _ _ e=>e
    exact wpAny_pure ⟨rfl,q⟩
   ·cases r2 with
    |error e=>exact hr2
    |ok fl2=>
     cases fl2 with
     |ret r=>
      obtain⟨rfl,q⟩:=hr2
      repeat (any_goals (first|assumption|wp_step))
     |_=>exact hr2.elim
  |_=>exact hr.elim
end
theorem oN:isSubtype (.type "tuple") (.type "set")=pure false:=by rw[isSubtype_type];kernel_rfl
theorem iS:isSubtype (.type "tuple") (.type "frozenset")=pure false:=by rw[isSubtype_type];kernel_rfl
theorem uB{items:Array Value}{ns:List Int}(hi:IntsAre items.toList ns):ns.length=items.size/\∀(i:Nat) (v:Value),items[i]? = some v->∃k t,ns[i]? = some k/\v=Value.int k t:=by
 have hl:ns.length=items.size:=by
  have:=IntsAre.length hi;rw[Array.length_toList]at this;omega
 refine⟨hl,fun i v e=>?_⟩
 obtain⟨t,q⟩:=IntsAre.int_at hi i v (by rw[Array.getElem?_toList];exact e);have h:i<ns.length:=by
  have:=(Array.getElem?_eq_some_iff.mp e).1;omega
 exact⟨ns[i],t,by simp[h],by rw[q,List.getD_eq_getElem?_getD];simp[h]⟩
section
variable{prog:Program}{w:World}{A:Around}{E:Value->Shared->Prop}{s:Shared}
theorem pA{l:Addr}{items:Array Value}{ns:List Int}{Q:Value->Shared->Prop}(hh:A.handled=none)(hl:s.heap.IsList l items\/s.heap.IsTuple l items)(hi:IntsAre items.toList ns)(hb:items.size+1<scanBound)
  (h:∀(h':Heap) (tk:Nat),SetJ w h' s.heap.objs.size (im ns)->(∀b o,s.heap.get? b=some o->h'.get? b=some o)->Q (.ref s.heap.objs.size) { s with heap:=h',toks:=tk }):wpAny (model prog w) A (call (.type "set") [.ref l]) Q E s:=by
 obtain⟨hn,hP⟩:=uB hi;refine rp fun A' hA=>?_
 have hh':A'.handled=none:=hA.trans hh;have fin:∀(s':Shared) (I:Addr) (o:Obj),Moved [s.heap.objs.size,I] (fun a b=>b=a) { s with heap:=(s.heap.push (bE (!w.params.followText "set-order"))).push o } s'->I=(s.heap.push (bE (!w.params.followText "set-order"))).objs.size->SetJ w s'.heap s.heap.objs.size (im ns)->Q (.ref s.heap.objs.size) s':=fun s' I o hm hI hS=>by
  obtain⟨h',g',d',tk',os'⟩:=s';have eg:g'=s.gens:=hm.gens;have ed:d'=s.drawn:=hm.drawn;have eo:os'=s.os:=hm.os;subst eg ed eo;refine h h' tk' hS fun b o' e=>?_
  have lt:=Heap.lt_size e;refine hm.heap b o' ?_ (Heap.get?_push_of_some _ (Heap.get?_push_of_some _ e));rw[hI,Heap.size_push];simp only[List.mem_cons,List.not_mem_nil,or_false,not_or];exact⟨Nat.ne_of_lt lt,Nat.ne_of_lt (Nat.lt_succ_of_lt lt)⟩
 rcases hl with hl|hl
 ·obtain⟨ol,hol,hcl,nl,hdl⟩:=hl
  obtain⟨ocls,odict,odata,oslots⟩:=ol;simp only at hcl hdl;subst hcl hdl;have lt:=Heap.lt_size hol;have hol':=Heap.get?_push_of_some (bE (!w.params.followText "set-order")) hol;have f1:=F.sub_list_set;have f2:=F.sub_list_frozenset;have f3:(Value.type "list" == Value.type "dict")=false:=by decide
  have hl1:(s.heap.push (bE (!w.params.followText "set-order"))).IsList l items:=⟨_,hol',rfl,nl,rfl⟩;unfold Builtin.Frozenset.updateFrom;generalize hPI:pyIter=PI
  wp_walk
  subst hPI;refine wpAny_pyIter_list hl1 ?_;refine wpAny_bind (wpAny_runValue ?_);have ne:l≠(s.heap.push (bE (!w.params.followText "set-order"))).objs.size:=by rw[Heap.size_push];exact Nat.ne_of_lt (Nat.lt_succ_of_lt lt)
  have nf:s.heap.objs.size ∉ [(s.heap.push (bE (!w.params.followText "set-order"))).objs.size,l]:=by
   rw[Heap.size_push];simp only[List.mem_cons,List.not_mem_nil,or_false,not_or];exact⟨Nat.ne_of_lt (Nat.lt_succ_self _),Nat.ne_of_gt lt⟩
  refine sd ((Walks.list (by simpa using hh') _ l ne items).toS) s.heap.objs.size nf ns hn hP hb items.size 0 _ (by omega) (Nat.zero_le _) ⟨⟨_,Heap.get?_push_size _ rfl,rfl,rfl⟩,hl1.push _⟩ (setJ_fresh.at fun o e=>Heap.get?_push_of_some _ e) fun s' hm hS=>?_
  exact wpAny_pure ((fin s' _ _ hm rfl hS))
 ·obtain⟨ol,hol,hcl,nl,hdl⟩:=hl
  obtain⟨ocls,odict,odata,oslots⟩:=ol;simp only at hcl hdl;subst hcl hdl;have lt:=Heap.lt_size hol;have hol':=Heap.get?_push_of_some (bE (!w.params.followText "set-order")) hol;have f1:=oN;have f2:=iS;have f3:(Value.type "tuple" == Value.type "dict")=false:=by decide
  have hl1:(s.heap.push (bE (!w.params.followText "set-order"))).IsTuple l items:=⟨_,hol',rfl,nl,rfl⟩;unfold Builtin.Frozenset.updateFrom;generalize hPI:pyIter=PI
  wp_walk
  subst hPI;refine wpAny_pyIter_tuple hl1 ?_;refine wpAny_bind (wpAny_runValue ?_);have ne:l≠(s.heap.push (bE (!w.params.followText "set-order"))).objs.size:=by rw[Heap.size_push];exact Nat.ne_of_lt (Nat.lt_succ_of_lt lt)
  have nf:s.heap.objs.size ∉ [(s.heap.push (bE (!w.params.followText "set-order"))).objs.size,l]:=by
   rw[Heap.size_push];simp only[List.mem_cons,List.not_mem_nil,or_false,not_or];exact⟨Nat.ne_of_lt (Nat.lt_succ_self _),Nat.ne_of_gt lt⟩
  refine sd ((Walks.tuple (by simpa using hh') _ l ne items).toS) s.heap.objs.size nf ns hn hP hb items.size 0 _ (by omega) (Nat.zero_le _) ⟨⟨_,Heap.get?_push_size _ rfl,rfl,rfl⟩,hl1.push _⟩ (setJ_fresh.at fun o e=>Heap.get?_push_of_some _ e) fun s' hm hS=>?_
  exact wpAny_pure ((fin s' _ _ hm rfl hS))
end
theorem jl{α:Type}:∀(l:List α) (i:Nat) (x:α),l[i]? = some x->l.Perm (x::l.eraseIdx i)
 |a::l,0,x,h=>by
  have:a=x:=by simpa using h
  subst this;exact .refl _
 |a::l,i+1,x,h=>by
  have ih:=jl l i x (by simpa using h);rw[List.eraseIdx_cons_succ];exact(ih.cons a).trans (.swap x a _)
theorem vj{α:Type}(f:Nat->Nat):∀(n k:Nat) (l:List α) (out:Array α),l.length=n->(pickOrder.go f n k l out).toList.Perm (out.toList++l)
 | 0,k,l,out,h=>by
  have:l=[]:=List.length_eq_zero_iff.mp h;subst this;unfold pickOrder.go;simp
 |n+1,k,l,out,h=>by
  have hi:f k%l.length<l.length:=Nat.mod_lt _ (by omega);have hx:l[f k%l.length]? = some l[f k%l.length]:=by simp[hi]
  unfold pickOrder.go;rw[hx];have ih:=vj f n (k+1) (l.eraseIdx (f k%l.length)) (out.push l[f k%l.length]) (by rw[List.length_eraseIdx,if_pos hi];omega);refine ih.trans ?_;rw[Array.toList_push,List.append_assoc];exact(jl l _ _ hx).symm.append_left _
theorem wz{α:Type}(f:Nat->Nat)(xs:Array α):(pickOrder f xs).toList.Perm xs.toList:=by
 have:=vj f xs.size 0 xs.toList #[] (by simp);simpa[pickOrder]using this
theorem slot_si_next:Slot "set_iterator" "__next__" "set_iterator.__next__":=
 .of (owner:="set_iterator") (n:="__next__") (by rw[typeLookup_type,builtinLookup_eq_fast];kernel_rfl) (by decide +kernel) (by decide +kernel) (by decide +kernel)
  (by first|exact .inl (by decide +kernel)|exact .inr (by decide +kernel)) (by rw[isSubtype_type];kernel_rfl)
theorem pj:entryFor table "set_iterator.__next__" = some Builtin.«set_iterator.__next__»:=entryFor_of_tree (by kernel_rfl)
theorem sC:Manifest.owners.lookup (String.ofList ['r','o','t','a','r','e','t','i','_','t','e','s'].reverse)=some Manifest.sig_set_iterator:=by kernel_rfl
theorem rE(a:Value):argsOk "set_iterator.__next__" ⟨[a],[]⟩:=by
 unfold argsOk;rw[signature?_of (id:="set_iterator.__next__") (n:=['_','_','t','x','e','n','_','_']) (o:=['r','o','t','a','r','e','t','i','_','t','e','s']) (by kernel_rfl) sC];kernel_rfl
theorem lH:entryFor table "set.__iter__" = some Builtin.«frozenset.__iter__»:=
 entryFor_alias (id':="frozenset.__iter__") (by kernel_rfl) rfl (by decide +kernel) (by kernel_rfl)
section
variable{M:Model}{prog:Program}{w:World}{A:Around}{E:Value->Shared->Prop}{s:Shared}
theorem qi{src:Source}{n:Nat}{Q:Nat->Shared->Prop}(hn:n≠0)(h:∀k d,k<n->Q k { s with drawn:=d }):wpAny M A (choose src n) Q E s:=fun Γ p hΓ=>by
 show Sem.wp M Γ (.choose src n .pure) _ _ p s;rw[Sem.wp_choose];exact⟨hn,h _ _ (Nat.mod_lt _ (Nat.pos_of_ne_zero hn))⟩
theorem qa{α:Type}:∀(n:Nat) (xs:List α) (s:Shared) {Q:List α -> Shared->Prop},xs.length=n->(∀ys d,ys.Perm xs->Q ys { s with drawn:=d })->wpAny M A (drawOrder n xs) Q E s
 | 0,xs,s,Q,hn,h=>by
  have:xs=[]:=List.length_eq_zero_iff.mp hn;subst this;unfold drawOrder;exact wpAny_pure (h [] s.drawn (.refl _))
 |n+1,[],s,Q,hn,h=>by simp at hn
 |n+1,x::xs,s,Q,hn,h=>by
  unfold drawOrder;refine wpAny_bind (qi (by simp) fun k d hk=>?_)
  have hx:(x::xs)[k]? = some ((x::xs)[k]):=by simp[hk]
  rw[hx];refine wpAny_bind (qa n ((x::xs).eraseIdx k) _ (by rw[List.length_eraseIdx,if_pos hk];omega) fun ys d' p=>?_)
  exact wpAny_pure (h _ d' ((p.cons _).trans (jl _ _ _ hx).symm))
abbrev qz(es:Array (Int×Value))(ep:Nat)(t:SetTable):Obj:={ cls:=.type "set",dict:=none,data:=.set es ep t,slots:=#[] }
noncomputable def mF(first:Value)(i:Int)(a:Addr)(n ep:Int):Obj:={ cls:=.type "set_iterator",data:=.fields #[first,rawInt i,.ref a,rawInt n,rawInt ep] }
theorem iR{Q:Bool->Shared->Prop}(h:Q (w.params.followText "set-order") s):wpAny (model prog w) A setsByText Q E s:=by
 unfold setsByText;exact wpAny_bind (wpAny_askSetting (wpAny_pure h))
inductive Mode (w:World) (h:Heap) (a:Addr) (es:Array (Int×Value)) (ep:Nat) (t:SetTable) (vs:List Value):Nat->Value->Prop
 |text {i:Nat} {sl:Nat}:w.params.followText "set-order" = true->vs=(pickOrder (w.params.setOrder a ep) es).toList.map (·.2)->Mode w h a es ep t vs i (rawInt sl)
 |slots {i:Nat}:w.params.followText "set-order" = false->(!t.plain&&decide (es.size>1))=false->UpA t.place->vs=es.toList.map (·.2)->Mode w h a es ep t vs i (rawInt (if i=0 then 0 else t.place.getD (i-1) 0+1:Nat))
 |drawn {i:Nat} {tp:Addr} {o:Obj} {ps:List Nat} {k:Nat}:h.get? tp=some o->o.data=.seq (ps.map fun p:Nat=>rawInt (p:Int)).toArray k->vs.length=ps.length->(∀(j p:Nat),ps[j]? = some p->∃e:Int×Value,es[p]? = some e/\vs[j]? = some e.2)->Mode w h a es ep t vs i (.ref tp)
def SWk(w:World)(h:Heap)(I a:Addr)(vs:List Value)(tp:Addr)(i:Nat):Prop:=∃es ep t first,h.get? a=some (qz es ep t)/\t.fits es.size=true/\WkT (!w.params.followText "set-order") t/\vs.length=es.size/\h.get? I=some (mF first i a es.size ep)/\(∀b,first=.ref b->b=tp)/\Mode w h a es ep t vs i first
theorem Mode.keep{h h':Heap}{a tp:Addr}{es:Array (Int×Value)}{ep:Nat}{t:SetTable}{vs:List Value}{i:Nat}{first:Value}(m:Mode w h a es ep t vs i first)(hf:∀b,first=.ref b->b=tp)(k:∀o,h.get? tp=some o->h'.get? tp=some o):Mode w h' a es ep t vs i first:=by
 cases m with
 |text e1 e2=>exact .text e1 e2
 |slots e1 e2 e3 e4=>exact .slots e1 e2 e3 e4
 |drawn e1 e2 e3 e4=>
  have:=hf _ rfl;subst this;exact .drawn (k _ e1) e2 e3 e4
theorem fE{I:Addr}{first:Value}{i n ep:Int}{a:Addr}(h:s.heap.get? I=some (mF first i a n ep)):s.TypeIs (.ref I) "set_iterator":=⟨_,h,rfl⟩
theorem vc{I a:Addr}{first:Value}{i n:Nat}{es:Array (Int×Value)}{ep:Nat}{t:SetTable}{Q:Option Value->Shared->Prop}(hI:s.heap.get? I=some (mF first i a n ep))(ha:s.heap.get? a=some (qz es ep t))(hf:t.fits es.size=true)(hn:es.size=n)
  (h:wpAny (model prog w) A.in1 (if let .int slot _:=first then do
     match <-setNext a slot.toNat i ep with
     |some (x,next)=>
      setField (.ref I) 0 (rawInt next)
      setField (.ref I) 1 (rawInt ((i:Int)+1))
      ret x
     |none=>setField (.ref I) 2 .none;raiseNew (<-newExc (.type "StopIteration") [])
    else do
     let some places <-seqItems? first|unsupported "internal:set_iterator"
     match places[i]? with
     |some (.int place _)=>
      let x <-setNextDrawn a place.toNat ep
      setField (.ref I) 1 (rawInt ((i:Int)+1))
      ret x
     |some _=>unsupported "internal:set_iterator"
     |none=>setField (.ref I) 0 (rawInt 0);setField (.ref I) 2 .none;raiseNew (<-newExc (.type "StopIteration") []))
   (fun fin s'=>∃r,fin=.done (.ret r)/\Q (some r) s') (fun e s'=>wpAny (model prog w) A (do if <-isInstance e (.type "StopIteration")then pure none else throw e) Q E s') s):wpAny (model prog w) A (pyNext (.ref I)) Q E s:=by
 unfold pyNext;refine wpAny_bind (wpAny_attempt (wpAny_callSpecial?_slot (name:=Str.ofString "__next__") (fE hI) slot_si_next (wpAny_call_entry slot_si_next (fE hI) pj ?_ (rE _))));unfold Builtin.«set_iterator.__next__»;refine wpAny_bind (wpAny_of_eq (a:=(Value.ref I,[])) rfl ?_)
 try dsimp only
 refine wpAny_bind (wpAny_fieldsOf hI rfl ?_);show wpAny _ _ (setEntries a >>= fun q=>_) _ _ s;refine wpAny_bind (wpAny_setEntries_of ha rfl hf ?_);refine wpAny_ite_split (fun z=>absurd z (by simp[hn])) (fun _=>?_)
 simp only[Int.toNat_natCast];exact wpAny_mono h (fun fin s' q=>let ⟨r,e,q⟩:=q; ⟨r,e,wpAny_pure q⟩) fun _ _ e=>e
theorem qx{Q:Option Value->Shared->Prop}{P:PySem.Fin->Shared->Prop}(hh:A.handled=none)(h:∀h',(∀b o,s.heap.get? b=some o->h'.get? b=some o)->Q none { s with heap:=h' }):
  wpAny (model prog w) A.in1 (do
   let x <-newExc (.type "StopIteration") []
   raiseNew x) P (fun e s'=>wpAny (model prog w) A (do if <-isInstance e (.type "StopIteration")then pure none else throw e) Q E s') s:=by
 refine wpAny_bind ?_;simp only[newExc,newTuple];refine wpAny_bind (wpAny_newObj_type ?_ (by size_fits));refine wpAny_bind (m:=firstArgMember _ _) (wpAny_of_eq (a:=Value.none) (by first|rfl|(simp only[firstArgMember];rfl)) ?_);refine wpAny_newObj_type ?_ (by size_fits);simp only[raiseNew];refine wpAny_bind (wpAny_handled ?_);rw[show A.in1.handled=none from hh];refine wpAny_bind (wpAny_pure (wpAny_throw ?_));refine wpAny_bind (wpAny_isInstance (T:="StopIteration") (b:=true) ⟨_,Heap.get?_push_size _ rfl,rfl⟩ isSubtype_stop ?_);exact wpAny_pure (h _ fun b o e=>Heap.get?_push_of_some _ (Heap.get?_push_of_some _ e))
theorem bU{h:Heap}{I b:Addr}{f:Obj->Obj}{o:Obj}(hb:b≠I)(e:h.get? b=some o):(h.update I f).get? b=some o:=(Heap.get?_update_other _ _ (Ne.symm hb)).trans e
theorem jD{a:Addr}{es:Array (Int×Value)}{ep:Nat}{t:SetTable}{sl i:Nat}{Q:Option (Value×Nat)->Shared->Prop}(ha:s.heap.get? a=some (qz es ep t))(hf:t.fits es.size=true)(hT:w.params.followText "set-order" = true)(h:Q (((pickOrder (w.params.setOrder a ep) es)[i]?).map fun e=>(e.2,sl)) s):wpAny (model prog w) A (setNext a sl i ep) Q E s:=by
 unfold setNext;refine wpAny_bind (wpAny_setState_of ha rfl hf ?_);dsimp only;refine wpAny_bind (iR ?_);rw[hT,if_pos rfl];refine wpAny_ite_split (fun z=>absurd z (by simp)) (fun _=>?_)
 unfold setWalk;refine wpAny_bind (wpAny_bind (wpAny_setState_of ha rfl hf ?_));dsimp only;refine wpAny_bind (iR ?_);rw[hT,if_pos rfl];refine wpAny_bind (wpAny_askSetting (wpAny_pure ?_));exact wpAny_pure h
theorem jE{a:Addr}{es:Array (Int×Value)}{ep:Nat}{t:SetTable}{sl i:Nat}{Q:Option (Value×Nat)->Shared->Prop}(ha:s.heap.get? a=some (qz es ep t))(hf:t.fits es.size=true)(hT:w.params.followText "set-order" = false)(hp:(!t.plain&&decide (es.size>1))=false)(hw:t.led=true)
  (h:Q (match es[SetTable.below t.place sl]?,t.place[SetTable.below t.place sl]? with
   |some (_,x),some j=>some (x,j+1)
   |_,_=>none) s):wpAny (model prog w) A (setNext a sl i ep) Q E s:=by
 unfold setNext;refine wpAny_bind (wpAny_setState_of ha rfl hf ?_);dsimp only;refine wpAny_bind (iR ?_);rw[hT,if_neg (by decide)];show wpAny _ _ (if(!t.plain&&decide (es.size>1))=true then _ else _) _ _ _;rw[hp,if_neg (by decide)];show wpAny _ _ ((if(!t.led && !es.isEmpty)=true then _ else _) >>= _) _ _ _;rw[hw];simp only[Bool.not_true,Bool.false_and,Bool.false_eq_true,if_false];exact wpAny_bind (wpAny_pure (wpAny_pure h))
end
section
variable{prog:Program}{w:World}{A:Around}{E:Value->Shared->Prop}{s:Shared}
theorem kM{t:SetTable}{n:Nat}(h:t.fits n=true):t.place.size=n:=by
 simp only[SetTable.fits,Bool.and_eq_true,beq_iff_eq]at h;exact h.1
theorem xI{h:Heap}{I a:Addr}{first x:Value}{i n ep:Int}(hI:h.get? I=some (mF first i a n ep))(j:Int):((h.update I (Obj.mapFields (·.setIfInBounds 0 x))).update I (Obj.mapFields (·.setIfInBounds 1 (rawInt j)))).get? I=some (mF x j a n ep):=by
 have h1:=Heap.get?_update_self (Obj.mapFields (·.setIfInBounds 0 x)) hI rfl;exact Heap.get?_update_self (Obj.mapFields (·.setIfInBounds 1 (rawInt j))) h1 rfl
theorem Dr{h:Heap}{I a:Addr}{first:Value}{i n ep:Int}(hI:h.get? I=some (mF first i a n ep))(j:Int):(h.update I (Obj.mapFields (·.setIfInBounds 1 (rawInt j)))).get? I=some (mF first j a n ep):=
 Heap.get?_update_self (Obj.mapFields (·.setIfInBounds 1 (rawInt j))) hI rfl
theorem Az{I a tp:Addr}{vs:List Value}{i:Nat}{v:Value}{Q:Option Value->Shared->Prop}(ha:a≠I)(ht:tp≠I)(hW:SWk w s.heap I a vs tp i)(hv:vs[i]? = some v)
  (hQ:∀h',SWk w h' I a vs tp (i+1)->(∀b o,b≠I->s.heap.get? b=some o->h'.get? b=some o)->Q (some v) { s with heap:=h' }):wpAny (model prog w) A (pyNext (.ref I)) Q E s:=by
 obtain⟨es,ep,t,first,e1,e2,e3,e4,e5,e6,e7⟩:=hW;have hi:i<vs.length:=(List.getElem?_eq_some_iff.mp hv).1;refine vc e5 e1 e2 rfl ?_;cases e7 with
 |text m1 m2=>
  rename_i sl;show wpAny _ _ (setNext a ((sl:Int)).toNat i ep >>= _) _ _ _;rw[Int.toNat_natCast];have hx:∃e,(pickOrder (w.params.setOrder a ep) es)[i]? = some e/\e.2=v:=by
   rw[m2,List.getElem?_map,Array.getElem?_toList]at hv;exact Option.map_eq_some_iff.mp hv
  obtain⟨e,q1,q2⟩:=hx;refine wpAny_bind (jD e1 e2 m1 ?_);rw[q1];dsimp only[Option.map];rw[q2];refine wpAny_bind (wpAny_setField e5 rfl (by simp) ?_);have g1:=Heap.get?_update_self (Obj.mapFields (·.setIfInBounds 0 (rawInt (sl:Int)))) e5 rfl;refine wpAny_bind (wpAny_setField g1 rfl (by simp) (wpAny_pure ⟨v,rfl,hQ _ ?_ fun b o hb eo=>bU hb (bU hb eo)⟩))
  exact⟨es,ep,t,rawInt sl,bU ha (bU ha e1),e2,e3,e4,xI e5 _,fun b z=>(by cases z),.text m1 m2⟩
 |slots m1 m2 m3 m4=>
  have hz:=kM e2;have hb:SetTable.below t.place (if i=0 then 0 else t.place.getD (i-1) 0+1)=i:=by
   by_cases z:i=0
   ·subst z;rw[if_pos rfl,oj m3]
   ·rw[if_neg z]
    have:i-1<t.place.size:=by omega
    have e:t.place.getD (i-1) 0=t.place[i-1]:=by simp[Array.getD,this]
    rw[e,oo m3 this];omega
  have hp:t.place[i]? = some (t.place.getD i 0):=by
   have:i<t.place.size:=by omega
   simp[Array.getD,this]
  obtain⟨e,q1,q2⟩:∃e,es[i]? = some e/\e.2=v:=by
   rw[m4,List.getElem?_map,Array.getElem?_toList]at hv;exact Option.map_eq_some_iff.mp hv
  obtain⟨eh,ev⟩:=e;have q2:ev=v:=q2;subst q2;show wpAny _ _ (setNext a (((if i=0 then 0 else t.place.getD (i-1) 0+1:Nat):Int)).toNat i ep >>= _) _ _ _;rw[Int.toNat_natCast];refine wpAny_bind (jE e1 e2 m1 m2 (by rw[e3.led,m1];rfl) ?_);rw[hb,q1,hp];dsimp only;refine wpAny_bind (wpAny_setField e5 rfl (by simp) ?_);have g1:=Heap.get?_update_self (Obj.mapFields (·.setIfInBounds 0 (rawInt ((t.place.getD i 0+1:Nat):Int)))) e5 rfl;refine wpAny_bind (wpAny_setField g1 rfl (by simp) (wpAny_pure ⟨ev,rfl,hQ _ ?_ fun b o hb eo=>bU hb (bU hb eo)⟩))
  have m:Mode w ((s.heap.update I (Obj.mapFields (·.setIfInBounds 0 (rawInt ((t.place.getD i 0+1:Nat):Int))))).update I (Obj.mapFields (·.setIfInBounds 1 (rawInt ((i:Int)+1))))) a es ep t vs (i+1) (rawInt (if i+1=0 then 0 else t.place.getD (i+1-1) 0+1:Nat)):=.slots m1 m2 m3 m4;rw[if_neg (by omega),Nat.add_sub_cancel]at m;exact⟨es,ep,t,_,bU ha (bU ha e1),e2,e3,e4,xI e5 _,fun b z=>(by cases z),m⟩
 |drawn m1 m2 m3 m4=>
  rename_i tq o ps k;have:=e6 _ rfl;subst this;have hj:i<ps.length:=by omega
  have hp:ps[i]? = some ps[i]:=by simp[hj]
  obtain⟨e,q1,q2⟩:=m4 i _ hp;rw[hv]at q2;have q2:v=e.2:=by simpa using q2
  show wpAny _ _ (seqItems? (.ref tq) >>= _) _ _ _;refine wpAny_bind (wpAny_seqItems m1 m2 ?_);dsimp only;have pl:(ps.map fun p:Nat=>rawInt (p:Int)).toArray[i]? = some (rawInt (ps[i]:Int)):=by simp[hj]
  rw[pl];show wpAny _ _ (setNextDrawn a ((ps[i]:Int)).toNat ep >>= _) _ _ _;rw[Int.toNat_natCast];unfold setNextDrawn;refine wpAny_bind (wpAny_bind (wpAny_setState_of e1 rfl e2 ?_));dsimp only;refine wpAny_ite_split (fun z=>absurd z (by simp)) (fun _=>?_)
  rw[q1];refine wpAny_pure ?_;rw[<-q2];refine wpAny_bind (wpAny_setField e5 rfl (by simp) (wpAny_pure ⟨v,rfl,hQ _ ?_ fun b o hb eo=>bU hb eo⟩));exact⟨es,ep,t,.ref tq,bU ha e1,e2,e3,e4,Dr e5 _,e6,.drawn (bU ht m1) m2 m3 m4⟩
theorem AA{I a tp:Addr}{vs:List Value}{Q:Option Value->Shared->Prop}(hh:A.handled=none)(hW:SWk w s.heap I a vs tp vs.length)
  (hQ:∀h',(∀b o,b≠I->s.heap.get? b=some o->h'.get? b=some o)->Q none { s with heap:=h' }):wpAny (model prog w) A (pyNext (.ref I)) Q E s:=by
 obtain⟨es,ep,t,first,e1,e2,e3,e4,e5,e6,e7⟩:=hW;refine vc e5 e1 e2 rfl ?_;cases e7 with
 |text m1 m2=>
  rename_i sl;show wpAny _ _ (setNext a ((sl:Int)).toNat vs.length ep >>= _) _ _ _;rw[Int.toNat_natCast];refine wpAny_bind (jD e1 e2 m1 ?_);have hx:(pickOrder (w.params.setOrder a ep) es)[vs.length]? = none:=by
   rw[<-Array.getElem?_toList,List.getElem?_eq_none_iff,m2,List.length_map];exact Nat.le_refl _
  rw[hx];dsimp only[Option.map];refine wpAny_bind (wpAny_setField e5 rfl (by simp) ?_);exact qx hh fun h' kp=>hQ h' fun b o hb eo=>kp b o (bU hb eo)
 |slots m1 m2 m3 m4=>
  have hz:=kM e2;have hb:SetTable.below t.place (if vs.length=0 then 0 else t.place.getD (vs.length-1) 0+1)=vs.length:=by
   by_cases z:vs.length=0
   ·rw[if_pos z,oj m3,z]
   ·rw[if_neg z]
    have:vs.length-1<t.place.size:=by omega
    have e:t.place.getD (vs.length-1) 0=t.place[vs.length-1]:=by simp[Array.getD,this]
    rw[e,oo m3 this];omega
  show wpAny _ _ (setNext a (((if vs.length=0 then 0 else t.place.getD (vs.length-1) 0+1:Nat):Int)).toNat vs.length ep >>= _) _ _ _;rw[Int.toNat_natCast];refine wpAny_bind (jE e1 e2 m1 m2 (by rw[e3.led,m1];rfl) ?_);rw[hb];have hx:es[vs.length]? = none:=by rw[e4];simp
  rw[hx];dsimp only;refine wpAny_bind (wpAny_setField e5 rfl (by simp) ?_);exact qx hh fun h' kp=>hQ h' fun b o hb eo=>kp b o (bU hb eo)
 |drawn m1 m2 m3 m4=>
  rename_i tq o ps k;show wpAny _ _ (seqItems? (.ref tq) >>= _) _ _ _;refine wpAny_bind (wpAny_seqItems m1 m2 ?_);dsimp only;have pl:(ps.map fun p:Nat=>rawInt (p:Int)).toArray[vs.length]? = none:=by rw[m3];simp
  rw[pl];dsimp only;refine wpAny_bind (wpAny_setField e5 rfl (by simp) ?_);have g1:=Heap.get?_update_self (Obj.mapFields (·.setIfInBounds 0 (rawInt 0))) e5 rfl;refine wpAny_bind (wpAny_setField g1 rfl (by simp) ?_);exact qx hh fun h' kp=>hQ h' fun b o hb eo=>kp b o (bU hb (bU hb eo))
theorem SWk.frame{h h':Heap}{I a tp:Addr}{vs:List Value}{i:Nat}(x:SWk w h I a vs tp i)(k:∀b∈[I,a,tp],∀o,h.get? b=some o->h'.get? b=some o):SWk w h' I a vs tp i:=
 let ⟨es,ep,t,first,e1,e2,e3,e4,e5,e6,e7⟩:=x
 ⟨es,ep,t,first,k a (by simp) _ e1,e2,e3,e4,k I (by simp) _ e5,e6,e7.keep e6 (k tp (by simp))⟩
theorem pq:entryFor table "set_iterator.__iter__" = some Builtin.«dict_keyiterator.__iter__»:=
 entryFor_alias (id':="dict_keyiterator.__iter__") (by kernel_rfl) (by first|rfl|decide +kernel|(unfold String.splitOn;simp +decide [String.splitOnAux])) (by decide +kernel) (by kernel_rfl)
theorem jB:Slot "set_iterator" "__iter__" "set_iterator.__iter__":=
 .of (owner:="set_iterator") (n:="__iter__") (by rw[typeLookup_type,builtinLookup_eq_fast];kernel_rfl) (by decide +kernel) (by decide +kernel) (by decide +kernel)
  (by first|exact .inl (by decide +kernel)|exact .inr (by decide +kernel)) (by rw[isSubtype_type];kernel_rfl)
theorem rF(a:Value):argsOk "set_iterator.__iter__" ⟨[a],[]⟩:=by
 unfold argsOk;rw[signature?_of (id:="set_iterator.__iter__") (n:=['_','_','r','e','t','i','_','_']) (o:=['r','o','t','a','r','e','t','i','_','t','e','s']) (by kernel_rfl) sC];kernel_rfl
theorem xA(hh:A.handled=none){I a tp:Addr}(ha:a≠I)(ht:tp≠I)(vs:List Value):Walks prog w A I [I,a,tp] [I] vs.length (fun i v=>vs[i]? = some v) (fun i h=>SWk w h I a vs tp i) where
 sub:=fun b hb=>by simp at hb;simp[hb]
 frame:=fun _ _ _ st hk=>st.frame hk
 item:=fun i s Q E hi st hQ=>Az ha ht st (v:=vs[i]) (by simp[hi]) fun h' x k=>hQ _ h' s.toks (by simp[hi]) x fun b o hb e=>k b o (fun z=>hb (by simp[z])) e
 done:=fun s Q E st hQ=>AA hh st fun h' k=>hQ h' s.toks fun b o hb e=>k b o (fun z=>hb (by simp[z])) e
 self:=fun i s Q E st hQ=>by
  obtain⟨es,ep,t,first,e1,e2,e3,e4,e5,e6,e7⟩:=st;refine wpAny_pyIter_slot (fE e5) jB (wpAny_call_entry jB (fE e5) pq ?_ (rF _));exact wpAny_pure ⟨_,rfl,"set_iterator",_,fE e5,slot_si_next.lookup,hQ⟩
end
theorem jY:∀(l:List (Int×Value)),(∀e∈l,uW e)->IntsAre (l.map (·.2)) (l.map fun e=>qo e.2)
 |[],_=>.nil
 |e::l,h=>by
  obtain⟨k,t,rfl⟩:=h e List.mem_cons_self;exact .cons k t (jY l fun e he=>h e (List.mem_cons_of_mem _ he))
theorem ug(es:Array (Int×Value)):(List.range es.size).map (fun p=>es.getD p (0,.none))=es.toList:=by
 apply List.ext_getElem?;intro i;rw[List.getElem?_map];by_cases h:i<es.size
 ·rw[List.getElem?_range h]
  simp[Array.getD,h]
 ·rw[List.getElem?_eq_none (by rw[List.length_range];omega),List.getElem?_eq_none (by rw[Array.length_toList];omega)]
  rfl
section
variable{prog:Program}{w:World}{A:Around}{E:Value->Shared->Prop}{s:Shared}
theorem xK{a:Addr}{ns:List Int}{Q:Value->Shared->Prop}(hS:SetJ w s.heap a ns)
  (hQ:∀I tp h1 d vs ms,tp≠I->a≠I->(∀b o,s.heap.get? b=some o->h1.get? b=some o)->s.heap.objs.size<=I->I<h1.objs.size->(tp=a\/s.heap.objs.size<=tp)->SWk w h1 I a vs tp 0->IntsAre vs ms->ms.Perm ns->Q (.ref I) { s with heap:=h1,drawn:=d }):wpAny (model prog w) A (pyIter (.ref a)) Q E s:=by
 obtain⟨es,ep,t,ho,hel,hp,hb,hf,hw⟩:=hS;have hT:s.TypeIs (.ref a) "set":=⟨_,ho,rfl⟩;have lt:=Heap.lt_size ho;refine wpAny_pyIter_slot hT F.slot_set_iter (wpAny_call_entry F.slot_set_iter hT lH ?_ (F.args_set_iter_1 _));unfold Builtin.«frozenset.__iter__» Builtin.Frozenset.slot0;refine wpAny_bind (wpAny_bind (wpAny_of_eq (a:=(Value.ref a,[])) rfl ?_));unfold Builtin.Frozenset.addrOf Builtin.Frozenset.sizeOf;refine wpAny_pure ?_;refine wpAny_bind (wpAny_bind (wpAny_setEntries_of ho rfl hf (wpAny_pure ?_)));unfold setDrawn;refine wpAny_bind (wpAny_bind (wpAny_setState_of ho rfl hf ?_));dsimp only;refine wpAny_bind (iR (wpAny_pure ?_));have plain:∀vs ms,IntsAre vs ms->ms.Perm ns->vs.length=es.size->(∀h1:Heap,Mode w h1 a es ep t vs 0 (rawInt (0:Nat)))->wpAny (model prog w) A.in1 (do
   let ep <-setEpoch a
   let x <-newFields "set_iterator" [rawInt 0,rawInt 0,.ref a,rawInt es.size,rawInt ep]
   ret x) (fun fin s'=>∃v,fin=.done (.ret v)/\∃T' r,s'.TypeIs v T'/\typeLookup (.type T') "__next__" = pure (some r)/\Q v s') E s:=fun vs ms q1 q2 q3 q4=>by
  refine wpAny_bind (wpAny_setEpoch_of ho rfl hf ?_);refine wpAny_bind (wpAny_newObj_type (wpAny_pure ⟨_,rfl,"set_iterator",_,⟨_,Heap.get?_push_size _ rfl,rfl⟩,slot_si_next.lookup,?_⟩));refine hQ s.heap.objs.size a _ s.drawn vs ms (Nat.ne_of_lt lt) (Nat.ne_of_lt lt) (fun b o e=>Heap.get?_push_of_some _ e) (Nat.le_refl _) (by rw[Heap.size_push];exact Nat.lt_succ_self _) (.inl rfl) ⟨es,ep,t,rawInt (0:Nat),Heap.get?_push_of_some _ ho,hf,hw,q3,Heap.get?_push_size _ rfl,fun b z=>(by cases z),q4 _⟩ q1 q2
 cases hb1:w.params.followText "set-order" with
 |true=>
  simp only[Bool.not_true,Bool.false_and,Bool.false_eq_true,if_false];have pp:=wz (w.params.setOrder a ep) es;refine plain ((pickOrder (w.params.setOrder a ep) es).toList.map (·.2)) _ (jY _ fun e he=>hel e (pp.mem_iff.mp he)) ((pp.map _).trans hp) (by rw[List.length_map,pp.length_eq,Array.length_toList]) fun h1=>.text hb1 rfl
 |false=>
  by_cases hd:(!t.plain&&decide (es.size>1))=true
  ·show wpAny _ _ (if(!false&&(!t.plain&&decide (es.size>1)))=true then _ else _) _ _ _
   rw[hd];simp only[Bool.not_false,Bool.and_self,if_true];refine wpAny_bind (qa es.size (List.range es.size) s (List.length_range ..) fun ys d py=>?_)
   have hlen:ys.length=es.size:=by rw[py.length_eq,List.length_range]
   refine wpAny_bind (wpAny_newObj_type ?_ (by show(List.toArray _).size<=sizeLine;rw[List.size_toArray,List.length_map,hlen];have:=hp.length_eq;rw[List.length_map,Array.length_toList]at this;exact fits_of_scanBound (by omega)));have ho1:=Heap.get?_push_of_some { cls:=.type "tuple",data:=.seq (ys.map fun i:Nat=>rawInt (i:Int)).toArray } ho
   refine wpAny_bind (wpAny_setEpoch_of ho1 rfl hf ?_);refine wpAny_bind (wpAny_newObj_type (wpAny_pure ⟨_,rfl,"set_iterator",_,⟨_,Heap.get?_push_size _ rfl,rfl⟩,slot_si_next.lookup,?_⟩));have pe:(ys.map fun p=>es.getD p (0,.none)).Perm es.toList:=by
    have:=py.map fun p=>es.getD p (0,.none)
    rwa [ug]at this
   refine hQ (s.heap.push { cls:=.type "tuple",data:=.seq (ys.map fun i:Nat=>rawInt (i:Int)).toArray }).objs.size s.heap.objs.size _ d ((ys.map fun p=>es.getD p (0,.none)).map (·.2)) _ ?_ ?_ (fun b o e=>Heap.get?_push_of_some _ (Heap.get?_push_of_some _ e)) (by rw[Heap.size_push];exact Nat.le_succ _) (Heap.lt_size (Heap.get?_push_size _ rfl)) (.inr (Nat.le_refl _)) ⟨es,ep,t,.ref s.heap.objs.size,Heap.get?_push_of_some _ ho1,hf,hw,by simp[hlen],Heap.get?_push_size _ rfl,fun b z=>by injection z with z;exact z.symm,?_⟩ (jY _ fun e he=>hel e (pe.mem_iff.mp he)) ((pe.map _).trans hp)
   ·rw[Heap.size_push];exact Nat.ne_of_lt (Nat.lt_succ_self _)
   ·rw[Heap.size_push];exact Nat.ne_of_lt (Nat.lt_succ_of_lt lt)
   ·refine .drawn (ps:=ys) (Heap.get?_push_of_some _ (Heap.get?_push_size _ rfl)) rfl (by simp) fun j p hj=>?_
    have hpn:p<es.size:=List.mem_range.mp (py.mem_iff.mp (List.mem_of_getElem? hj));refine⟨es.getD p (0,.none),by simp[Array.getD,hpn],?_⟩;rw[List.getElem?_map,List.getElem?_map,hj];rfl
  ·show wpAny _ _ (if(!false&&(!t.plain&&decide (es.size>1)))=true then _ else _) _ _ _
   have hd':(!t.plain&&decide (es.size>1))=false:=by simpa using hd
   rw[hd'];simp only[Bool.not_false,Bool.and_false,Bool.false_eq_true,if_false];have up:UpA t.place:=by
    cases hpl:t.plain with
    |true=>exact hw.up hpl
    |false=>
     rw[hpl]at hd';have h1:es.size<=1:=by simpa using hd'
     have h2:=kM hf;intro i j hi hj hij;omega
   refine wpAny_bind (wpAny_pure ?_);refine plain (es.toList.map (·.2)) _ (jY _ hel) hp (by simp) fun h1=>?_
   have:=Mode.slots (w:=w) (h:=h1) (a:=a) (ep:=ep) (i:=0) hb1 hd' up (es:=es) rfl;simpa using this
theorem zc{r:Addr}{Q:Bool->Shared->Prop}(hT:s.TypeIs (.ref r) "set")(h:Q false s):wpAny (model prog w) A (Builtin.List.listLengthHint (.ref r)) Q E s:=by
 unfold Builtin.List.listLengthHint;refine wpAny_bind (wpAny_specialOf hT PySem.F.slot_set_len.lookup ?_);generalize hid:("set.__len__":String)=id0
 wp_delta
 rw[show splitId id0=some ("set","__len__")from by subst hid;decide +kernel];subst hid;refine wpAny_bind (wpAny_isInstance (T:="set") (b:=true) hT (by rw[isSubtype_type];kernel_rfl) ?_);refine wpAny_ite_split (fun z=>absurd z (by decide)) (fun _=>wpAny_ite_split (fun _=>?_) (fun z=>absurd (by decide +kernel) z))
 exact wpAny_bind (wpAny_typeOf hT (wpAny_pure h))
end
section
variable{prog:Program}{w:World}{A:Around}{E:Value->Shared->Prop}{s:Shared}
theorem yV{vs:List Value}{acc:Array Value}(h:ItemsOf (fun i v=>vs[i]? = some v) acc vs.length):acc.toList=vs:=by
 obtain⟨h1,h2⟩:=h;apply List.ext_getElem?;intro i;rw[Array.getElem?_toList];cases e:acc[i]? with
 |some v=>exact(h2 i v e).symm
 |none=>
  have:acc.size<=i:=by simpa using e
  rw[List.getElem?_eq_none (by omega)]
theorem tz{a:Addr}{ns:List Int}{R:List Value->Shared->Prop}(hh:A.handled=none)(hS:SetJ w s.heap a ns)
  (h:∀h' d tk vs ms,(∀b o,s.heap.get? b=some o->h'.get? b=some o)->IntsAre vs ms->ms.Perm ns->R vs { s with heap:=h',drawn:=d,toks:=tk }):wpAny (model prog w) A (collect (.ref a)) R E s:=by
 have hsz:ns.length<scanBound:=by obtain⟨es,ep,t,ho,hel,hp,hb,hf,hw⟩:=hS;exact hb
 have lta:a<s.heap.objs.size:=by obtain⟨es,ep,t,ho,hel,hp,hb,hf,hw⟩:=hS;exact Heap.lt_size ho
 unfold collect;refine wpAny_bind (wpAny_runValue (codeAny_builtin entry_proto_collect' ?_));rw[Around.under_plainId PySem.F.plain_proto_collect _];refine wpAny_bind (m:=newList []) (wpAny_newObj_type ?_);refine wpAny_pure ⟨plainId_quiet PySem.F.plain_list_iadd _,codeAny_builtin entry_list_iadd' ?_⟩;rw[Around.under_plainId PySem.F.plain_list_iadd _];show wpAny _ A.in1 (Builtin.List.listExtendWith (.ref s.heap.objs.size) (.ref a) (.ref s.heap.objs.size)) _ _ _;unfold Builtin.List.listExtendWith;have kp1:∀b o,s.heap.get? b=some o->(s.heap.push { cls:=.type "list",data:=.seq ([]:List Value).toArray }).get? b=some o:=fun b o e=>Heap.get?_push_of_some _ e
 have hS1:=hS.at fun o e=>kp1 a o e
 have hL:(s.heap.push { cls:=.type "list",data:=.seq ([]:List Value).toArray }).get? s.heap.objs.size=some { cls:=.type "list",data:=.seq #[] 0 }:=Heap.get?_push_size _ rfl;have hT:∀{s1:Shared},SetJ w s1.heap a ns->s1.TypeIs (.ref a) "set":=fun q=>by obtain⟨es,ep,t,ho,r⟩:=q;exact⟨_,ho,rfl⟩
 refine wpAny_bind (wpAny_typeOf (T:="set") (hT hS1) ?_);have h1:Builtin.List.listSameRef (.ref s.heap.objs.size) (.ref a)=false:=by simp[Builtin.List.listSameRef];exact Nat.ne_of_gt lta
 have h2:(Value.type "set" == Value.type "list")=false:=by decide
 have h3:(Value.type "set" == Value.type "tuple")=false:=by decide
 simp only[h1,h2,h3,Bool.or_false,Bool.false_eq_true,if_false];refine wpAny_bind (xK hS1 fun I tp h1 d vs ms htp haI kp2 hI hI2 htp2 sw iv pm=>?_);have ltL:s.heap.objs.size<(s.heap.push { cls:=.type "list",data:=.seq ([]:List Value).toArray }).objs.size:=Heap.lt_size hL;have neI:s.heap.objs.size≠I:=fun z=>by
  have q:s.heap.objs.size<I:=Nat.lt_of_lt_of_le ltL hI;rw[<-z]at q;exact Nat.lt_irrefl _ q
 have neT:s.heap.objs.size≠tp:=fun z=>by
  rcases htp2 with q|q
  ·rw[q]at z;exact absurd lta (by rw[z];exact Nat.lt_irrefl _)
  ·rw[<-z]at q;exact absurd ltL (Nat.not_lt.mpr q)
 have hL1:=kp2 _ _ hL;refine wpAny_bind (wpAny_holding (zc (hT (s1:={ s with heap:=h1,drawn:=d }) (hS1.at fun o e=>kp2 a o e)) ?_));have fin:∀(RR:Result->Shared->Prop) (hR:∀s',wpAny (model prog w) A (load s.heap.objs.size >>= fun o=>match o.data with
   |.seq xs _=>pure xs.toList
   |_=>unsupported "internal:collect") R E s'->RR (.ok (.ret (.ref s.heap.objs.size))) s') (h2:Heap) (c:Nat),h2.get? s.heap.objs.size=some { cls:=.type "list",data:=.seq #[] c }->(∀b o,b≠s.heap.objs.size->h1.get? b=some o->h2.get? b=some o)->codeAny (model prog w) A (.builtin "list.extend.loop" ⟨[.ref s.heap.objs.size,.ref I,.ref s.heap.objs.size],[]⟩) RR { s with heap:=h2,drawn:=d }:=fun RR hR h2 c e2 k2=>by
  have W:=(xA (prog:=prog) (w:=w) (A:=A.in1) hh haI htp vs).toS;have vl:vs.length=ns.length:=by rw[<-pm.length_eq];exact IntsAre.length iv
  refine codeAny_extend_loopS W (by rw[vl];exact fits_of_scanBound hsz) s.heap.objs.size (by simp only[List.mem_cons,List.not_mem_nil,or_false,not_or];exact⟨neI,Nat.ne_of_gt lta,neT⟩) (.ref s.heap.objs.size) vs.length 0 _ #[] c rfl (Nat.zero_le _) (sw.frame fun b hb o e=>?_) e2 (ItemsOf.nil _) fun s' acc c' hm hS' hacc=>?_
  ·refine k2 b o (fun z=>?_) e
   simp only[List.mem_cons,List.not_mem_nil,or_false]at hb;rcases hb with rfl|rfl|rfl
   ·exact neI z.symm
   ·exact Nat.ne_of_lt lta z
   ·exact neT z.symm
  ·refine hR s' (wpAny_bind (wpAny_load hS' (wpAny_pure ?_)))
   rw[yV hacc];obtain⟨h',g',d',tk',os'⟩:=s';have eg:g'=s.gens:=hm.gens;have ed:d'=d:=hm.drawn;have eo:os'=s.os:=hm.os;subst eg ed eo;refine h h' d' tk' vs ms (fun b o e=>?_) iv pm;have lt:=Heap.lt_size e;refine hm.heap b o ?_ (k2 b o (Nat.ne_of_lt lt) (kp2 b o (kp1 b o e)));simp only[List.mem_cons,List.not_mem_nil,or_false,not_or];exact⟨Nat.ne_of_lt lt,fun z=>by
    have q:b<I:=Nat.lt_trans lt (Nat.lt_of_lt_of_le ltL hI);rw[z]at q;exact Nat.lt_irrefl _ q⟩
 refine wpAny_ite_split (fun _=>?_) (fun _=>wpAny_pure ⟨plainId_quiet PySem.F.plain_extend_loop _,fin _ (fun s' q=>q) h1 0 hL1 fun b o _ e=>e⟩)
 refine wpAny_bind (wpAny_rule ?_);refine wpAny_bind ?_;show wpAny _ _ (updateSeq s.heap.objs.size (·.push .none) >>= fun _=>updateSeq s.heap.objs.size (·.pop)) _ _ _
 refine wpAny_bind (wpAny_updateSeq hL1 rfl ?_);have g2:=Heap.get?_update_self (Obj.mapSeq (·.push Value.none)) hL1 rfl;refine wpAny_updateSeq (hz:=by seq_fits) g2 rfl ?_;have g3:=Heap.get?_update_self (Obj.mapSeq (·.pop)) g2 rfl;exact wpAny_pure ⟨plainId_quiet PySem.F.plain_extend_loop _,fin _ (fun s' q=>q) _ _ g3 fun b o hb e=>bA hb (bA hb e)⟩
end
section
variable{X:Cx}
theorem Inv.keptD{pins:List (Addr×Obj)}{σ:St}{H:Hp}{s:Shared}{h':Heap}{t':Nat}{d:Drawn}(I:Inv X pins σ H s)(k:∀b u,s.heap.get? b=some u->h'.get? b=some u):Inv X pins σ H { s with heap:=h',drawn:=d,toks:=t' }:=by
 obtain⟨a1,a2,a3,a4,a5,a6,a7,a8,a9,a10,a11⟩:=I.kept (t':=t') k;exact⟨a1,a2,a3,a4,a5,a6,a7,a8,a9,a10,a11⟩
theorem t8(hc:X.calm=true){pins:List (Addr×Obj)}{σ:St}{H:Hp}{s:Shared}{a:Addr}{ns:List Int}{Q:VK}(I:Inv X pins σ H s)(hS:SetJ X.w s.heap a ns)(h64:ns.length<64)(q:∀l,H l=none->Q (.ref l) (upd H l (.lst ((bB ns).map V.int)))):
  wpAny (model X.prog X.w) X.A (call (.builtin "sorted") [.ref a]) (EP X pins σ Q) X.xe s:=by
 refine Calls.call_function_entry kind_sorted plain_sorted entry_sorted (args_sorted1 _) ?_;unfold Builtin.«sorted»;refine wpAny_bind (m:=checkCount "sorted" 1 1 _) (wpAny_pure ?_);refine wpAny_bind (tz (I.ok.hd hc) hS fun h' d tk acc ms hk' hI pm=>?_)
 have hln:acc.length=ns.length:=by rw[<-pm.length_eq];exact IntsAre.length hI
 refine wpAny_bind (wpAny_newList ?_ (by rw[hln,sizeLine_eq];omega));have hoL:(h'.push (seqObj "list" acc.toArray 0)).get? h'.objs.size=some (seqObj "list" acc.toArray 0):=Heap.get?_push_size _ rfl;refine wpAny_bind (wpAny_holding (wpAny_call_entry slot_list_sort ⟨_,hoL,rfl⟩ entry_list_sort (list_sort_tree hoL hI (by rw[hln];exact h64) fun out ns' a1 a2 a3=>⟨_,rfl,?_⟩) (args_list_sort _)))
 refine wpAny_pure ⟨_,rfl,?_⟩;have e:=iO (a2.trans pm) a3;subst e;have I1:Inv X pins σ H { s with heap:=h',drawn:=d,toks:=tk }:=Inv.keptD I hk';have kp:∀b o,h'.get? b=some o->(sortedHeap (h'.push (seqObj "list" acc.toArray 0)) h'.objs.size acc out).get? b=some o:=fun b o eo=>by
  have hb:b≠h'.objs.size:=Nat.ne_of_lt (Heap.lt_size eo);exact bA hb (Heap.get?_push_of_some _ (Heap.get?_push_of_some _ (bA hb (Heap.get?_push_of_some _ eo))))
 obtain⟨e1,ho1⟩:∃e1,((h'.push (seqObj "list" acc.toArray 0)).update h'.objs.size (Obj.mapSeq fun _=>#[])).get? h'.objs.size=some (seqObj "list" #[] e1):=⟨_,get?_update_seq hoL (fun _=>#[])⟩;have ho2:=Heap.get?_push_of_some (seqObj "list" #[] 0) (Heap.get?_push_of_some (seqObj "tuple" acc.toArray 0) ho1);have ho3:=get?_update_seq ho2 (fun _=>out);have L:=I1.laid (h':=sortedHeap (h'.push (seqObj "list" acc.toArray 0)) h'.objs.size acc out) (a:=h'.objs.size) (o:=.lst ((bB ns).map V.int)) (t':=tk) kp (Nat.le_refl _)
  (show ObjOk X.prog X.w _ _ _ (.lst ((bB ns).map V.int))from ⟨by rw[List.length_map,(dy ns).length_eq,sizeLine_eq];omega,out.toList,_,da a1,by rw[Array.toArray_toList];exact ho3⟩)
 exact⟨.ref h'.objs.size,_,L,rfl,q _ (I1.hok.fresh (Nat.le_refl _))⟩
variable{e:Expr}{p p2 pos pos2:Pos}{te:TE}{f:Dv->Option D}
def Go(X:Cx)(te:TE):TE:=fun σ H Q=>te σ H fun v H1=>∃(a:Addr) (l:List Int),[v]=[V.ref a]/\(SqL X.K H1 a (l.map V.int)\/SqT X.K H1 a (l.map V.int))/\l.length<64/\∀b,H1 b=none->Q (.ref b) (upd H1 b (.lst ((bB (im l)).map V.int)))
theorem jd:∀{l:List Int} {us:List Value},Vals (l.map V.int) us->IntsAre us l
 |[],[],.nil=>.nil
 |n::l,u::us,.cons h r=>by
  obtain⟨t,rfl⟩:=h;exact .cons n t (jd r)
theorem Ba(hc:X.calm=true)(hg:Gl X "sorted")(hm:X.mg "sorted" = none)(hg':Gl X "set")(hm':X.mg "set" = none)(ha:PE X e te)
  (he:starEach [.Call (.Name "set" p2) [e] [] pos2] X.env=(false,eval (.Call (.Name "set" p2) [e] [] pos2) X.env)::starEach [] X.env:=by rfl)
  (he2:starEach [e] X.env=(false,eval e X.env)::starEach [] X.env:=by rfl) (hpl:(backTo pos (starEach [] X.env)).any (·.1)=false:=by rfl) (hpl2:(backTo pos2 (starEach [] X.env)).any (·.1)=false:=by rfl) :
  PE X (.Call (.Name "sorted" p) [.Call (.Name "set" p2) [e] [] pos2] [] pos) (Go X te):=by
 intro pins s σ H Q I h;refine wpAny_Call_Name_kw (jh I hg hm (u:=.builtin "sorted") (by decide +kernel) ?_ (by decide) (by decide));refine PyProof.Rows.callWith_builtin1 ?_ he hpl;rw[he];show wpAny _ _ (spliced ((false,eval _ X.env)::backTo pos (starEach [] X.env))) _ _ s;refine Calls.spliced_cons ?_;refine wpAny_Call_Name_kw (jh I hg' hm' (u:=.type "set") (by decide +kernel) ?_ (by decide) (by decide));refine PyProof.Rows.callWith_type1 (cn (cH ha f7 he2 pos2 pins s σ H (fun xs H1=>∃(a:Addr) (l:List Int),xs=[V.ref a]/\(SqL X.K H1 a (l.map V.int)\/SqT X.K H1 a (l.map V.int))/\l.length<64/\∀b,H1 b=none->Q (.ref b) (upd H1 b (.lst ((bB (im l)).map V.int)))) I (by exact h)) fun us s1 ⟨vs,H1,I1,r1,q1⟩=>?_) he2 hpl2
 obtain⟨a,l,e1,hsq,h64,q⟩:=q1;subst e1;obtain⟨u,rfl,rx⟩:=pK r1;cases rx;obtain⟨its,iv,hl,hz⟩:∃its:List Value,IntsAre its l/\(s1.heap.IsList a its.toArray\/s1.heap.IsTuple a its.toArray)/\its.length=l.length:=by
  rcases hsq with hsq|hsq
  ·obtain⟨its,r,⟨o,n,e1,e2,e3,e4⟩,z⟩:=I1.list hsq
   exact⟨its,jd r,.inl ⟨o,e1,e2,n,e4⟩,by rw[<-r.length,List.length_map]⟩
  ·obtain⟨its,r,⟨o,e1,e2,n,e3⟩,z⟩:=I1.tuple hsq
   exact⟨its,jd r,.inr ⟨o,e1,e2,n,e3⟩,by rw[<-r.length,List.length_map]⟩
 refine pA (I1.ok.hd hc) hl (by simpa using iv) (by rw[List.size_toArray,hz];unfold scanBound;omega) fun h' tk hS kp=>?_
 refine Calls.spliced_nil ?_;have sl:(im l).length<=l.length:=by
  have:=mH l [];simpa[im]using this
 exact t8 hc (I1.kept kp) hS (by omega) fun b hb=>q b hb
theorem nH{K:Fg}{Z:Hp}:∀{vs:List V} {ds:List D} {l:List Int},Reps K Z vs ds->yY ds=some l->vs=l.map V.int
 |_,_,_,.nil,h=>by cases h;rfl
 |_,.int i::ds,l,.cons r rs,h=>by
  obtain⟨l',e,h⟩:=bind_some h;cases h;rw[r.int_eq,nH rs e];rfl
 |_,.none::ds,l,.cons r rs,h=>by cases h
 |_,.bool _::ds,l,.cons r rs,h=>by cases h
 |_,.str _::ds,l,.cons r rs,h=>by cases h
 |_,.list _::ds,l,.cons r rs,h=>by cases h
 |_,.tuple _::ds,l,.cons r rs,h=>by cases h
 |_,.dict _::ds,l,.cons r rs,h=>by cases h
theorem BX(hg:Gl X "sorted")(hm:X.mg "sorted" = none)(hg':Gl X "set")(hm':X.mg "set" = none)(ha:EV X e f)(hc:X.calm=true:=by rfl)
  (he:starEach [.Call (.Name "set" p2) [e] [] pos2] X.env=(false,eval (.Call (.Name "set" p2) [e] [] pos2) X.env)::starEach [] X.env:=by rfl)
  (he2:starEach [e] X.env=(false,eval e X.env)::starEach [] X.env:=by rfl) (hpl:(backTo pos (starEach [] X.env)).any (·.1)=false:=by rfl) (hpl2:(backTo pos2 (starEach [] X.env)).any (·.1)=false:=by rfl) :
  EV X (.Call (.Name "sorted" p) [.Call (.Name "set" p2) [e] [] pos2] [] pos) (o1 f jA):=
 PE.imp (Ba hc hg hm hg' hm' ha he he2 hpl hpl2) fun σ H Q h=>by
  obtain⟨H₀,Z₀,Z,δ,d,hh,e,k⟩:=h;obtain⟨d1,e1,e⟩:=bind_some e;refine⟨H₀,Z₀,Z,δ,d1,hh,e1,fun v Z1 H1 hh1 t1 r1=>?_⟩
  unfold jA at e;obtain⟨ds,e2,e⟩:=bind_some e;obtain⟨l,e3,e⟩:=bind_some e;obtain⟨h64,e⟩:=cO e;cases e;have key:∀b,H1 b=none->Q (.ref b) (upd H1 b (.lst ((bB (im l)).map V.int))):=fun b hb=>by
   have n:=New.add hh1.zh hb (.lst ((bB (im l)).map V.int));exact k _ _ _ (hh1.new n) (t1.trans n.z) (.lst (SqL.of aw) (Reps.ints _))
  cases r1 with
  |lst sq rs=>
   cases e2;have:=nH rs e3;subst this;exact⟨_,l,rfl,.inl (SqL.same sq hh1.zh),h64,key⟩
  |tup sq rs=>
   cases e2;have:=nH rs e3;subst this;exact⟨_,l,rfl,.inr (SqT.same sq hh1.zh),h64,key⟩
  |_=>cases e2
end
end VL
namespace VL
open PySem PySem.Spec PyProof.Rows
noncomputable def dQ:Bool->Keyed->Array Keyed->Nat->Nat->Nat->StateT SortSt Sem (Option Nat):=sortPriv% PySem.Builtin.gallop
noncomputable def di:Nat->StateT SortSt Sem Unit:=sortPriv% PySem.Builtin.setMinGallop
noncomputable def ng:Array Keyed->Array Keyed->StateT SortSt Sem (Array Keyed):=sortPriv% PySem.Builtin.mergeLo
noncomputable def ni:Array Keyed->Array Keyed->StateT SortSt Sem (Array Keyed):=sortPriv% PySem.Builtin.mergeHi
noncomputable def gU(left:Bool)(key:Keyed)(arr:Array Keyed)(base i:Nat):StateT SortSt Sem (Option Bool):=do
 let x <-elem' arr (base+i)
 if left then lt' x key else return (<-lt' key x).map (!·)
theorem uG(left:Bool)(key:Keyed)(arr:Array Keyed)(base n hint:Nat):dQ left key arr base n hint=(do
 let mut lastofs:=0
 let mut ofs:=1
 let mut lo:=0
 let mut hi:=0
 let some right <-gU left key arr base hint|return none
 if right then
  let maxofs:=n-hint
  for _ in [0:n] do
   if ofs>=maxofs then break
   let some more <-gU left key arr base (hint+ofs)|return none
   if !more then break
   lastofs:=ofs
   ofs:=2*ofs+1
  lo:=hint+lastofs+1
  hi:=hint+min ofs maxofs
 else
  let maxofs:=hint+1
  for _ in [0:n] do
   if ofs>=maxofs then break
   let some found <-gU left key arr base (hint-ofs)|return none
   if found then break
   lastofs:=ofs
   ofs:=2*ofs+1
  lo:=hint+1-min ofs maxofs
  hi:=hint-lastofs
 for _ in [0:n] do
  if lo>=hi then break
  let m:=lo+(hi-lo)/2
  let some more <-gU left key arr base m|return none
  if more then lo:=m+1 else hi:=m
 return some hi):=rfl
section
variable{M:Model}{A:Around}{E:Value->Shared->Prop}{s:Shared}{st:SortSt}
theorem ll{left:Bool}{key:Keyed}{arr:Array Keyed}{base n:Nat}{B:Nat->Bool}{lo hi:Nat}{Q:Option (Option Nat)×Nat×Nat->SortSt->Prop}
  (hb:∀i,i<n->∀Q:Option Bool->SortSt->Prop,Q (some (B i)) st->wpS M A E s (gU left key arr base i) Q st) (mono:∀i j,i<=j->j<n->B j=true->B i=true)
  (h1:lo<=hi) (h2:hi<=n) (hlo:∀i,i<lo->B i=true) (hhi:∀i,hi<=i->i<n->B i=false)
  (h:∀r,r<=n->(∀i,i<r->B i=true)->(∀i,r<=i->i<n->B i=false)->Q (none,r,r) st) :
  wpS M A E s (forIn [0:n] ((none,lo,hi):Option (Option Nat)×Nat×Nat) fun _ c=>do
   if c.2.1>=c.2.2 then pure (ForInStep.done (none,c.2.1,c.2.2))else do
    let x <-gU left key arr base (c.2.1+(c.2.2-c.2.1)/2)
    match x with
    |some more=>if more=true then pure (ForInStep.yield (none,c.2.1+(c.2.2-c.2.1)/2+1,c.2.2))else pure (ForInStep.yield (none,c.2.1,c.2.1+(c.2.2-c.2.1)/2))
    |_=>pure (ForInStep.done (some none,c.2.1,c.2.2))) Q st:=by
 refine wpS_forRange (I:=fun t c st'=>st'=st/\∃lo hi,c=(none,lo,hi)/\lo<=hi/\hi<=n/\hi-lo<=n-t/\(∀i,i<lo->B i=true)/\(∀i,hi<=i->i<n->B i=false)) ?step ?fin ⟨rfl,lo,hi,rfl,h1,h2,by omega,hlo,hhi⟩
 case fin=>
  rintro c st' ⟨rfl,lo,hi,rfl,a1,a2,a3,a4,a5⟩;have:lo=hi:=by omega
  subst this;exact h lo a2 a4 a5
 case step=>
  rintro t c st' _ ht ⟨rfl,lo,hi,rfl,a1,a2,a3,a4,a5⟩;dsimp only;by_cases q:lo>=hi
  ·rw[if_pos q]
   have:lo=hi:=by omega
   subst this;exact wpS_pure (h lo a2 a4 a5)
  ·rw[if_neg q]
   refine wpS_bind (hb _ (by omega) _ ?_);dsimp only;cases e:B (lo+(hi-lo)/2)with
   |true=>
    simp only[if_true];refine wpS_pure ⟨rfl,_,_,rfl,by omega,a2,by omega,fun i hi'=>mono i _ (by omega) (by omega) e,a5⟩
   |false=>
    simp only[Bool.false_eq_true,if_false];refine wpS_pure ⟨rfl,_,_,rfl,by omega,by omega,by omega,a4,fun i h3 h4=>?_⟩
    cases e2:B i with
    |false=>rfl
    |true=>rw[mono _ i h3 h4 e2]at e;cases e
theorem tS{left:Bool}{key:Keyed}{arr:Array Keyed}{base n hint:Nat}{B:Nat->Bool}{Q:Option Nat->SortSt->Prop}(hh:hint<n)
  (hb:∀i,i<n->∀Q:Option Bool->SortSt->Prop,Q (some (B i)) st->wpS M A E s (gU left key arr base i) Q st) (mono:∀i j,i<=j->j<n->B j=true->B i=true)
  (h:∀r,r<=n->(∀i,i<r->B i=true)->(∀i,r<=i->i<n->B i=false)->Q (some r) st) :
  wpS M A E s (dQ left key arr base n hint) Q st:=by
 rw[uG];refine wpS_bind (hb hint hh _ ?_);dsimp only;cases e:B hint with
 |true=>
  simp only[if_true];refine wpS_bind (wpS_mono (wpS_forRange (I:=fun t c st'=>st'=st/\∃last ofs,c=(none,last,ofs)/\last<ofs/\t+1<=ofs/\hint+last<n/\B (hint+last)=true)
   (Q:=fun c st'=>st'=st/\∃last ofs,c=(none,last,ofs)/\last<ofs/\hint+last<n/\B (hint+last)=true/\(n-hint<=ofs\/B (hint+ofs)=false)) ?step ?fin ⟨rfl,0,1,rfl,by omega,by omega,by omega,by simpa using e⟩) ?post)
  case fin=>
   rintro c st' ⟨rfl,last,ofs,rfl,a1,a2,a3,a4⟩;exact⟨rfl,last,ofs,rfl,a1,a3,a4,.inl (by omega)⟩
  case step=>
   rintro t c st' _ ht ⟨rfl,last,ofs,rfl,a1,a2,a3,a4⟩;dsimp only;by_cases q:ofs>=n-hint
   ·rw[if_pos q]
    exact wpS_pure ⟨rfl,last,ofs,rfl,a1,a3,a4,.inl q⟩
   ·rw[if_neg q]
    refine wpS_bind (hb _ (by omega) _ ?_);dsimp only;cases e2:B (hint+ofs)with
    |false=>
     simp only[Bool.not_false,if_true];exact wpS_pure ⟨rfl,last,ofs,rfl,a1,a3,a4,.inr e2⟩
    |true=>
     simp only[Bool.not_true,Bool.false_eq_true,if_false];exact wpS_pure ⟨rfl,ofs,2*ofs+1,rfl,by omega,by omega,by omega,e2⟩
  case post=>
   rintro c st' ⟨rfl,last,ofs,rfl,a1,a3,a4,a5⟩;dsimp only;refine wpS_bind (ll (lo:=hint+last+1) (hi:=hint+min ofs (n-hint)) hb mono (by omega) (by omega) (fun i hi=>mono i _ (by omega) a3 a4) (fun i h3 h4=>?_) fun r r1 r2 r3=>?_)
   ·rcases a5 with a5|a5
    ·omega
    ·cases e2:B i with
     |false=>rfl
     |true=>rw[mono _ i (by omega) h4 e2]at a5;cases a5
   ·exact wpS_pure (h r r1 r2 r3)
 |false=>
  simp only[Bool.false_eq_true,if_false];refine wpS_bind (wpS_mono (wpS_forRange (I:=fun t c st'=>st'=st/\∃last ofs,c=(none,last,ofs)/\last<ofs/\t+1<=ofs/\last<=hint/\B (hint-last)=false)
   (Q:=fun c st'=>st'=st/\∃last ofs,c=(none,last,ofs)/\last<ofs/\last<=hint/\B (hint-last)=false/\(hint+1<=ofs\/B (hint-ofs)=true)) ?step ?fin ⟨rfl,0,1,rfl,by omega,by omega,by omega,by simpa using e⟩) ?post)
  case fin=>
   rintro c st' ⟨rfl,last,ofs,rfl,a1,a2,a3,a4⟩;exact⟨rfl,last,ofs,rfl,a1,a3,a4,.inl (by omega)⟩
  case step=>
   rintro t c st' _ ht ⟨rfl,last,ofs,rfl,a1,a2,a3,a4⟩;dsimp only;by_cases q:ofs>=hint+1
   ·rw[if_pos q]
    exact wpS_pure ⟨rfl,last,ofs,rfl,a1,a3,a4,.inl q⟩
   ·rw[if_neg q]
    refine wpS_bind (hb _ (by omega) _ ?_);dsimp only;cases e2:B (hint-ofs)with
    |true=>
     simp only[if_true];exact wpS_pure ⟨rfl,last,ofs,rfl,a1,a3,a4,.inr e2⟩
    |false=>
     simp only[Bool.false_eq_true,if_false];exact wpS_pure ⟨rfl,ofs,2*ofs+1,rfl,by omega,by omega,by omega,e2⟩
  case post=>
   rintro c st' ⟨rfl,last,ofs,rfl,a1,a3,a4,a5⟩;dsimp only;refine wpS_bind (ll (lo:=hint+1-min ofs (hint+1)) (hi:=hint-last) hb mono (by omega) (by omega) (fun i hi=>?_) (fun i h3 h4=>?_) fun r r1 r2 r3=>?_)
   ·rcases a5 with a5|a5
    ·omega
    ·exact mono i _ (by omega) (by omega) a5
   ·cases e2:B i with
    |false=>rfl
    |true=>rw[mono _ i (by omega) h4 e2]at a4;cases a4
   ·exact wpS_pure (h r r1 r2 r3)
end
section
variable{κ:Keyed->Int}{all out l ra rb:List Keyed}{m:Keyed}
def Asc(κ:Keyed->Int)(l:List Keyed):Prop:=l.Pairwise fun x y=>κ x <= κ y
theorem Asc.app(h1:Asc κ l)(h2:Asc κ ra)(h:∀x∈l,∀y∈ra,κ x <= κ y):Asc κ (l++ra):=List.pairwise_append.mpr ⟨h1,h2,h⟩
theorem Asc.left(h:Asc κ (l++ra)):Asc κ l:=(List.pairwise_append.mp h).1
theorem Asc.right(h:Asc κ (l++ra)):Asc κ ra:=(List.pairwise_append.mp h).2.1
theorem Asc.mid(h:Asc κ (l++ra)):∀x∈l,∀y∈ra,κ x <= κ y:=(List.pairwise_append.mp h).2.2
structure LI (κ:Keyed->Int) (all out ra rb:List Keyed):Prop where
 pm:(out++(ra++rb)).Perm all
 so:Asc κ out
 le:∀x∈out,∀y∈ra++rb,κ x <= κ y
 sa:Asc κ ra
 sb:Asc κ rb
theorem LI.mvA(h:LI κ all out (l++ra) rb)(q:∀x∈l,∀y∈rb,κ x <= κ y):LI κ all (out++l) ra rb where
 pm:=by
  have:=h.pm;simpa[List.append_assoc]using this
 so:=h.so.app h.sa.left fun x hx y hy=>h.le x hx y (by simp[hy])
 le x hx y hy:=by
  rcases List.mem_append.mp hx with hx|hx
  ·exact h.le x hx y (by simp at hy ⊢;rcases hy with hy|hy<;>simp[hy])
  ·rcases List.mem_append.mp hy with hy|hy
   ·exact h.sa.mid x hx y hy
   ·exact q x hx y hy
 sa:=h.sa.right
 sb:=h.sb
theorem LI.swap(h:LI κ all out ra rb):LI κ all out rb ra where
 pm:=((List.Perm.refl out).append List.perm_append_comm).trans h.pm
 so:=h.so
 le x hx y hy:=h.le x hx y (by simp at hy ⊢;exact hy.symm)
 sa:=h.sb
 sb:=h.sa
theorem LI.mvB(h:LI κ all out ra (l++rb))(q:∀x∈l,∀y∈ra,κ x <= κ y):LI κ all (out++l) ra rb:=(h.swap.mvA q).swap
theorem LI.endA(h:LI κ all out ra []):(out++ra).Perm all/\Asc κ (out++ra):=⟨by simpa using h.pm,h.so.app h.sa fun x hx y hy=>h.le x hx y (by simp[hy])⟩
theorem LI.endB(h:LI κ all out [] rb):(out++rb).Perm all/\Asc κ (out++rb):=h.swap.endA
theorem LI.last(h:LI κ all out [m] rb)(q:∀y∈rb,κ y <= κ m):(out++(rb++[m])).Perm all/\Asc κ (out++(rb++[m])):=
 ⟨h.swap.pm,h.so.app (h.sb.app (List.pairwise_singleton _ _) fun x hx y hy=>by rw[List.mem_singleton.mp hy];exact q x hx) fun x hx y hy=>h.le x hx y (by simp at hy ⊢;exact hy.symm)⟩
end
section
variable{M:Model}{A:Around}{E:Value->Shared->Prop}{s:Shared}{κ:Keyed->Int}{S:Keyed->Prop}{kd:SortKind}
def dz(M:Model)(A:Around)(E:Value->Shared->Prop)(s:Shared)(kd:SortKind)(κ:Keyed->Int)(S:Keyed->Prop):Prop:=
 ∀x y,S x->S y->∀(st:SortSt) (Q:Option Bool->SortSt->Prop),kindOf st=kd->Q (some (decide (κ x < κ y))) st->wpS M A E s (lt' x y) Q st
theorem aX{arr:Array Keyed}{i:Nat}{x:Keyed}{st:SortSt}{Q:Keyed->SortSt->Prop}(h:arr[i]? = some x)(q:Q x st):wpS M A E s (elem' arr i) Q st:=by
 rw[elem'_eq,h];exact wpS_pure q
structure Stretch (κ:Keyed->Int) (S:Keyed->Prop) (arr:Array Keyed) (base n:Nat) (l:List Keyed):Prop where
 eq:(arr.toList.drop base).take n=l
 len:l.length=n
 all:∀x∈l,S x
 asc:Asc κ l
theorem Stretch.get{arr:Array Keyed}{base n:Nat}{l:List Keyed}(h:Stretch κ S arr base n l){i:Nat}(hi:i<l.length):arr[base+i]? = some l[i]:=by
 have e:((arr.toList.drop base).take n)[i]? = l[i]?:=by rw[h.eq]
 rw[List.getElem?_take_of_lt (by have:=h.len;omega),List.getElem?_drop,Array.getElem?_toList,List.getElem?_eq_getElem hi]at e;exact e
theorem Am(T:dz M A E s kd κ S){left:Bool}{key:Keyed}{arr:Array Keyed}{base i:Nat}{x:Keyed}{st:SortSt}{Q:Option Bool->SortSt->Prop}(hk:S key)(hx:arr[base+i]? = some x)(sx:S x)(ek:kindOf st=kd)
  (q:Q (some (if left=true then decide (κ x < κ key)else !decide (κ key < κ x))) st):wpS M A E s (gU left key arr base i) Q st:=by
 unfold gU;refine wpS_bind (aX hx ?_);cases left with
 |true=>
  simp only[if_true]at q ⊢;exact T x key sx hk st _ ek q
 |false=>
  simp only[Bool.false_eq_true,if_false]at q ⊢;exact wpS_bind (T key x hk sx st _ ek (wpS_pure q))
theorem iK(T:dz M A E s kd κ S){left:Bool}{key:Keyed}{arr:Array Keyed}{base n hint:Nat}{l:List Keyed}{st:SortSt}{Q:Option Nat->SortSt->Prop}(hs:Stretch κ S arr base n l)(hk:S key)(ek:kindOf st=kd)(hh:hint<n)
  (h:∀l1 l2,l=l1++l2->(∀x∈l1,if left=true then κ x < κ key else κ x <= κ key)->(∀x∈l2,if left=true then κ key <= κ x else κ key < κ x)->Q (some l1.length) st) :
  wpS M A E s (dQ left key arr base n hint) Q st:=by
 have hl:=hs.len;refine tS (B:=fun i=>if left=true then decide (κ (l.getD i key) < κ key)else !decide (κ key < κ (l.getD i key))) hh (fun i hi Q' q=>?_) (fun i j hij hj e=>?_) fun r hr r1 r2=>?_
 ·have e:l.getD i key=l[i]:=by simp[hl,hi]
  rw[e]at q;exact Am T hk (hs.get (by omega)) (hs.all _ (List.getElem_mem _)) ek q
 ·have e1:l.getD i key=l[i]'(by omega):=by simp[hl,show i<n by omega]
  have e2:l.getD j key=l[j]'(by omega):=by simp[hl,hj]
  have c:κ (l[i]'(by omega)) <= κ (l[j]'(by omega)):=by
   rcases Nat.lt_or_ge i j with q|q
   ·exact List.pairwise_iff_getElem.mp hs.asc i j (by omega) (by omega) q
   ·have:i=j:=by omega
    subst this;exact Int.le_refl _
  rw[e1];rw[e2]at e;cases left with
  |true=>simp only[if_true,decide_eq_true_eq]at e ⊢;omega
  |false=>
   simp only[Bool.false_eq_true,if_false,Bool.not_eq_true',decide_eq_false_iff_not]at e ⊢;omega
 ·have:=h (l.take r) (l.drop r) (List.take_append_drop r l).symm (fun x hx=>?_) (fun x hx=>?_)
  ·rw[List.length_take,hl,Nat.min_eq_left hr]at this;exact this
  ·obtain⟨i,hi,rfl⟩:=List.mem_iff_getElem.mp hx
   rw[List.length_take]at hi;have q:=r1 i (by omega);have e:l.getD i key=l[i]'(by omega):=by simp[hl,show i<n by omega]
   rw[e]at q;rw[List.getElem_take];cases left with
   |true=>simpa using q
   |false=>simpa using q
  ·obtain⟨i,hi,rfl⟩:=List.mem_iff_getElem.mp hx
   rw[List.length_drop]at hi;have q:=r2 (r+i) (by omega) (by omega);have e:l.getD (r+i) key=l[r+i]'(by omega):=by simp[hl,show r+i<n by omega]
   rw[e]at q;rw[List.getElem_drop];cases left with
   |true=>simpa using q
   |false=>simpa using q
end
theorem sK(a b:Array Keyed):ng a b=(do
 rule "list.sort.merge-lo"
 let mut out:Array Keyed:=#[<-elem' b 0]
 let mut ia:=0
 let mut ib:=1
 if ib==b.size then return out++a.extract ia a.size++b.extract ib b.size
 if ia+1==a.size then return out++b.extract ib b.size++a.extract ia a.size
 let mut minGallop:=gallopOf (<-get)
 for _ in [0:a.size+b.size] do
  let mut acount:=0
  let mut bcount:=0
  for _ in [0:a.size+b.size] do
   let some bWins <-lt' (<-elem' b ib) (<-elem' a ia)|return out++a.extract ia a.size++b.extract ib b.size
   if bWins then
    out:=out.push (<-elem' b ib);ib:=ib+1;bcount:=bcount+1;acount:=0
    if ib==b.size then return out++a.extract ia a.size++b.extract ib b.size
    if bcount>=minGallop then break
   else
    out:=out.push (<-elem' a ia);ia:=ia+1;acount:=acount+1;bcount:=0
    if ia+1==a.size then return out++b.extract ib b.size++a.extract ia a.size
    if acount>=minGallop then break
  rule "list.sort.gallop"
  minGallop:=minGallop+1
  for _ in [0:a.size+b.size] do
   if minGallop>1 then minGallop:=minGallop-1
   di minGallop
   let some k <-dQ false (<-elem' b ib) a ia (a.size-ia) 0|return out++a.extract ia a.size++b.extract ib b.size
   acount:=k
   if k>0 then
    out:=out++a.extract ia (ia+k);ia:=ia+k
    if ia+1==a.size then return out++b.extract ib b.size++a.extract ia a.size
    if ia==a.size then return out++a.extract ia a.size++b.extract ib b.size
   out:=out.push (<-elem' b ib);ib:=ib+1
   if ib==b.size then return out++a.extract ia a.size++b.extract ib b.size
   let some k <-dQ true (<-elem' a ia) b ib (b.size-ib) 0|return out++a.extract ia a.size++b.extract ib b.size
   bcount:=k
   if k>0 then
    out:=out++b.extract ib (ib+k);ib:=ib+k
    if ib==b.size then return out++a.extract ia a.size++b.extract ib b.size
   out:=out.push (<-elem' a ia);ia:=ia+1
   if ia+1==a.size then return out++b.extract ib b.size++a.extract ia a.size
   if acount<7&&bcount<7 then break
  minGallop:=minGallop+1
  di minGallop
 unsupported "internal:list.sort.merge-bound"):=rfl
section
variable{M:Model}{A:Around}{E:Value->Shared->Prop}{s:Shared}{κ:Keyed->Int}{S:Keyed->Prop}{kd:SortKind}
def SameBut(st st':SortSt):Prop:=kindOf st'=kindOf st/\arrOf st'=arrOf st/\pendingOf st'=pendingOf st/\failedOf st'=failedOf st
theorem SameBut.refl(st:SortSt):SameBut st st:=⟨rfl,rfl,rfl,rfl⟩
theorem jt{st0 st:SortSt}{g:Nat}{Q:Unit->SortSt->Prop}(sm:SameBut st0 st)(q:∀st',SameBut st0 st'->Q () st'):wpS M A E s (di g) Q st:=by
 show wpS M A E s (modify fun x=>SortSt.mk' (kindOf x) (arrOf x) (pendingOf x) g (failedOf x)) Q st
 exact wpS_modify (q _ sm)
def MI(κ:Keyed->Int)(a b out:Array Keyed)(ia ib:Nat):Prop:=LI κ (a.toList++b.toList) out.toList (a.toList.drop ia) (b.toList.drop ib)
def jr(κ:Keyed->Int)(a b out:Array Keyed):Prop:=out.toList.Perm (a.toList++b.toList)/\Asc κ out.toList
variable{a b out:Array Keyed}{ia ib:Nat}
theorem j1{xs:Array Keyed}{i:Nat}{x:Keyed}(h:xs[i]? = some x):xs.toList.drop i=[x]++xs.toList.drop (i+1):=by
 rw[<-Array.getElem?_toList]at h;obtain⟨q,e⟩:=List.getElem?_eq_some_iff.mp h;rw[List.drop_eq_getElem_cons q,e];rfl
theorem dY{xs:Array Keyed}{i:Nat}(h:i<xs.size):∃x,xs[i]? = some x:=⟨xs[i],Array.getElem?_eq_getElem h⟩
theorem j2{xs:Array Keyed}{i k:Nat}{l1 l2:List Keyed}(h:xs.toList.drop i=l1++l2)(hk:l1.length=k):(xs.extract i (i+k)).toList=l1/\xs.toList.drop (i+k)=l2:=by
 constructor
 ·rw[Array.toList_extract,List.extract_eq_drop_take,h,show i+k-i=k by omega,<-hk,List.take_left]
 ·rw[<-List.drop_drop,h,<-hk,List.drop_left]
theorem BW{xs:Array Keyed}(i:Nat):(xs.extract i xs.size).toList=xs.toList.drop i:=by
 rw[Array.toList_extract,List.extract_eq_drop_take,List.take_of_length_le (by simp)]
theorem MI.pushB(h:MI κ a b out ia ib){y:Keyed}(hy:b[ib]? = some y)(q:∀x∈a.toList.drop ia,κ y <= κ x):MI κ a b (out.push y) ia (ib+1):=by
 unfold MI at h ⊢;rw[j1 hy]at h;rw[Array.toList_push];exact h.mvB fun x hx z hz=>by rw[List.mem_singleton.mp hx];exact q z hz
theorem MI.pushA(h:MI κ a b out ia ib){y:Keyed}(hy:a[ia]? = some y)(q:∀x∈b.toList.drop ib,κ y <= κ x):MI κ a b (out.push y) (ia+1) ib:=by
 unfold MI at h ⊢;rw[j1 hy]at h;rw[Array.toList_push];exact h.mvA fun x hx z hz=>by rw[List.mem_singleton.mp hx];exact q z hz
theorem MI.appA(h:MI κ a b out ia ib){l1 l2:List Keyed}(e:a.toList.drop ia=l1++l2)(q:∀x∈l1,∀y∈b.toList.drop ib,κ x <= κ y):MI κ a b (out++a.extract ia (ia+l1.length)) (ia+l1.length) ib:=by
 obtain⟨e1,e2⟩:=j2 e rfl;unfold MI at h ⊢;rw[Array.toList_append,e1,e2];rw[e]at h;exact h.mvA q
theorem MI.appB(h:MI κ a b out ia ib){l1 l2:List Keyed}(e:b.toList.drop ib=l1++l2)(q:∀x∈l1,∀y∈a.toList.drop ia,κ x <= κ y):MI κ a b (out++b.extract ib (ib+l1.length)) ia (ib+l1.length):=by
 obtain⟨e1,e2⟩:=j2 e rfl;unfold MI at h ⊢;rw[Array.toList_append,e1,e2];rw[e]at h;exact h.mvB q
theorem MI.done(h:MI κ a b out ia ib)(e:ib=b.size\/ia=a.size):jr κ a b (out++a.extract ia a.size++b.extract ib b.size):=by
 unfold jr;unfold MI at h;rw[Array.toList_append,Array.toList_append,BW,BW];rcases e with e|e
 ·have:b.toList.drop ib=[]:=by rw[e];exact List.drop_of_length_le (by simp)
  rw[this]at h ⊢;rw[List.append_nil];exact h.endA
 ·have:a.toList.drop ia=[]:=by rw[e];exact List.drop_of_length_le (by simp)
  rw[this]at h ⊢;rw[List.append_nil];exact h.endB
theorem MI.last(h:MI κ a b out ia ib)(e:ia+1=a.size)(q:∀x,a[a.size-1]? = some x->∀y∈b.toList,κ y <= κ x):jr κ a b (out++b.extract ib b.size++a.extract ia a.size):=by
 unfold jr;obtain⟨x,hx⟩:=dY (xs:=a) (i:=ia) (by omega);have hd:=j1 hx;have:a.toList.drop (ia+1)=[]:=by rw[e];exact List.drop_of_length_le (by simp)
 rw[this,List.append_nil]at hd;unfold MI at h;rw[Array.toList_append,Array.toList_append,BW,BW,hd,List.append_assoc];rw[hd]at h;exact h.last fun y hy=>q x (by rw[show a.size-1=ia by omega];exact hx) y (List.mem_of_mem_drop hy)
end
section
variable{M:Model}{A:Around}{E:Value->Shared->Prop}{s:Shared}{κ:Keyed->Int}{S:Keyed->Prop}{kd:SortKind}
variable{a b:Array Keyed}
theorem Asc.rest{xs:Array Keyed}(h:Asc κ xs.toList)(i:Nat):Asc κ (xs.toList.drop i):=List.Pairwise.drop h
theorem j9{xs:Array Keyed}(h:Asc κ xs.toList){i:Nat}{x:Keyed}(e:xs[i]? = some x):∀y∈xs.toList.drop i,κ x <= κ y:=fun y hy=>by
 have q:=h.rest i;rw[j1 e]at q hy;rcases List.mem_append.mp hy with hy|hy
 ·rw[List.mem_singleton.mp hy];exact Int.le_refl _
 ·exact q.mid x (List.mem_singleton.mpr rfl) y hy
theorem fy{xs:Array Keyed}{i:Nat}{x:Keyed}(e:xs[i]? = some x):x∈xs.toList:=by
 rw[<-Array.getElem?_toList]at e;exact List.mem_of_getElem? e
theorem u8{xs:Array Keyed}(h:Asc κ xs.toList)(hS:∀x∈xs.toList,S x)(i:Nat):Stretch κ S xs i (xs.size-i) (xs.toList.drop i) where
 eq:=List.take_of_length_le (by simp)
 len:=by simp
 all x hx:=hS x (List.mem_of_mem_drop hx)
 asc:=h.rest i
def zN(κ:Keyed->Int)(a b:Array Keyed)(B:Nat)(ro:Option (Array Keyed))(out:Array Keyed)(ia ib:Nat):Prop:=
 (∃r,ro=some r/\jr κ a b r)\/(ro=none/\MI κ a b out ia ib/\ia+1<a.size/\ib<b.size/\(a.size-ia)+(b.size-ib)<=B)
abbrev Gs:Type:=Option (Array Keyed)×Array Keyed×Nat×Nat×Nat×Nat×Nat
def GsQ(κ:Keyed->Int)(a b:Array Keyed)(B:Nat)(st:SortSt)(r:ForInStep Gs)(st':SortSt):Prop:=SameBut st st'/\match r with
 |.done c=>zN κ a b B c.1 c.2.1 c.2.2.1 c.2.2.2.1
 |.yield c=>c.1=none/\zN κ a b B c.1 c.2.1 c.2.2.1 c.2.2.2.1
noncomputable def Ix(a b out:Array Keyed)(ia ib g k k1:Nat):StateT SortSt Sem (ForInStep Gs):=do
 let x <-elem' a ia
 if(ia+1+1==a.size)=true then pure (.done (some (out.push x++b.extract ib b.size++a.extract (ia+1) a.size),out.push x,ia+1,ib,g,k,k1))
 else if(decide (k<7)&&decide (k1<7))=true then pure (.done (none,out.push x,ia+1,ib,g,k,k1))else pure (.yield (none,out.push x,ia+1,ib,g,k,k1))
noncomputable def KC(a b out:Array Keyed)(ia ib g k n2:Nat):StateT SortSt Sem (ForInStep Gs):=do
 let y <-elem' b ib
 if(ib+1==b.size)=true then pure (.done (some (out.push y++a.extract ia a.size++b.extract (ib+1) b.size),out.push y,ia,ib+1,g,k,n2))
 else do
  let x <-elem' a ia
  let r <-dQ true x b (ib+1) (b.size-(ib+1)) 0
  match r with
  |some k1=>
   if k1>0 then
    if(ib+1+k1==b.size)=true then pure (.done (some (out.push y++b.extract (ib+1) (ib+1+k1)++a.extract ia a.size++b.extract (ib+1+k1) b.size),out.push y++b.extract (ib+1) (ib+1+k1),ia,ib+1+k1,g,k,k1))
    else Ix a b (out.push y++b.extract (ib+1) (ib+1+k1)) ia (ib+1+k1) g k k1
   else Ix a b (out.push y) ia (ib+1) g k k1
  |_=>pure (.done (some (out.push y++a.extract ia a.size++b.extract (ib+1) b.size),out.push y,ia,ib+1,g,k,n2))
theorem yA{st st':SortSt}{out:Array Keyed}{ia ib g k k1 B:Nat}{x:Keyed}(m:MI κ a b out ia ib)(hx:a[ia]? = some x)(q:∀z∈b.toList.drop ib,κ x <= κ z)(hl:∀x,a[a.size-1]? = some x->∀y∈b.toList,κ y <= κ x)(p1:ia+1<a.size)(p2:ib<b.size)(p3:(a.size-ia)+(b.size-ib)<=B)(sm:SameBut st st'):
  wpS M A E s (Ix a b out ia ib g k k1) (GsQ κ a b B st) st':=by
 unfold Ix;refine wpS_bind (aX hx ?_);have m':=m.pushA hx q;by_cases c:(ia+1+1==a.size)=true
 ·rw[if_pos c]
  exact wpS_pure ⟨sm,.inl ⟨_,rfl,m'.last (by simpa using c) hl⟩⟩
 rw[if_neg c];have c:ia+1+1≠a.size:=by simpa using c
 have pt:zN κ a b B none (out.push x) (ia+1) ib:=.inr ⟨rfl,m',by omega,p2,by omega⟩;split
 ·exact wpS_pure ⟨sm,pt⟩
 ·exact wpS_pure ⟨sm,rfl,pt⟩
theorem yB(T:dz M A E s kd κ S){st st':SortSt}{out:Array Keyed}{ia ib g k n2 B:Nat}{y:Keyed}(sa:Asc κ a.toList)(sb:Asc κ b.toList)(Sa:∀x∈a.toList,S x)(Sb:∀x∈b.toList,S x)(m:MI κ a b out ia ib)(hy:b[ib]? = some y)(q:∀z∈a.toList.drop ia,κ y <= κ z)(hl:∀x,a[a.size-1]? = some x->∀y∈b.toList,κ y <= κ x)
  (p1:ia+1<a.size) (p2:ib<b.size) (p3:(a.size-ia)+(b.size-ib)<=B) (sm:SameBut st st') (ek:kindOf st=kd):wpS M A E s (KC a b out ia ib g k n2) (GsQ κ a b B st) st':=by
 unfold KC;refine wpS_bind (aX hy ?_);have mB:=m.pushB hy q;by_cases c3:(ib+1==b.size)=true
 ·rw[if_pos c3]
  exact wpS_pure ⟨sm,.inl ⟨_,rfl,mB.done (.inl (by simpa using c3))⟩⟩
 rw[if_neg c3];have c3:ib+1≠b.size:=by simpa using c3
 obtain⟨x,hx⟩:=dY (xs:=a) (i:=ia) (by omega);refine wpS_bind (aX hx ?_);refine wpS_bind (iK T (u8 sb Sb (ib+1)) (Sa x (fy hx)) (sm.1.trans ek) (by omega) fun k1 k2 ek2 f1 f2=>?_)
 simp only[if_true]at f1 f2;dsimp only;rcases Nat.eq_zero_or_pos k1.length with h1|h1
 ·rw[if_neg (by omega)]
  have:k1=[]:=List.length_eq_zero_iff.mp h1;subst this;exact yA mB hx (fun z hz=>f2 z (by rw[ek2,List.nil_append]at hz;exact hz)) hl p1 (by omega) (by omega) sm
 ·rw[if_pos h1]
  have mC:=mB.appB ek2 fun z hz u hu=>Int.le_trans (Int.le_of_lt (f1 z hz)) (j9 sa hx u hu)
  have ln:k1.length+k2.length=b.size-(ib+1):=by
   have:=congrArg List.length ek2;rw[List.length_append,List.length_drop,Array.length_toList]at this;exact this.symm
  by_cases c4:(ib+1+k1.length==b.size)=true
  ·rw[if_pos c4]
   exact wpS_pure ⟨sm,.inl ⟨_,rfl,mC.done (.inl (by simpa using c4))⟩⟩
  rw[if_neg c4];have c4:ib+1+k1.length≠b.size:=by simpa using c4
  exact yA mC hx (fun z hz=>f2 z (by rw[(j2 ek2 rfl).2]at hz;exact hz)) hl p1 (by omega) (by omega) sm
theorem GsQ.y{B:Nat}{st st':SortSt}{c:Gs}(h:GsQ κ a b B st (.yield c) st'):SameBut st st'/\∃out ia ib g x y,c=(none,out,ia,ib,g,x,y)/\MI κ a b out ia ib/\ia+1<a.size/\ib<b.size/\(a.size-ia)+(b.size-ib)<=B:=by
 obtain⟨sm,e,pt⟩:=h;obtain⟨ro,out,ia,ib,g,x,y⟩:=c;have e:ro=none:=e;subst e;rcases pt with⟨r,e,_⟩|⟨_,m,p1,p2,p3⟩
 ·cases e
 ·exact⟨sm,out,ia,ib,g,x,y,rfl,m,p1,p2,p3⟩
theorem rO(T:dz M A E s kd κ S){st:SortSt}{Q:Array Keyed->SortSt->Prop}(sa:Asc κ a.toList)(sb:Asc κ b.toList)(Sa:∀x∈a.toList,S x)(Sb:∀x∈b.toList,S x)(na:1<=a.size)(nb:1<=b.size)
  (h0:∀y,b[0]? = some y->∀x∈a.toList,κ y <= κ x) (hl:∀x,a[a.size-1]? = some x->∀y∈b.toList,κ y <= κ x) (ek:kindOf st=kd) (h:∀out st',jr κ a b out->SameBut st st'->Q out st'):wpS M A E s (ng a b) Q st:=by
 rw[sK];refine wpS_bind (wpS_lift (wpAny_rule ⟨rfl,?_⟩));obtain⟨y0,hy0⟩:=dY (xs:=b) (i:=0) (by omega);refine wpS_bind (aX hy0 ?_);dsimp only;have m0:MI κ a b #[] 0 0:=⟨by simp,List.Pairwise.nil,fun x hx=>by simp at hx,sa,sb⟩
 have m1:MI κ a b #[y0] 0 1:=m0.pushB hy0 fun x hx=>h0 y0 hy0 x hx
 by_cases c1:(1==b.size)=true
 ·rw[if_pos c1]
  exact wpS_pure (h _ _ (m1.done (.inl (by simpa using c1))) (.refl _))
 rw[if_neg c1];have c1:1≠b.size:=by simpa using c1
 by_cases c2:(0+1==a.size)=true
 ·rw[if_pos c2]
  exact wpS_pure (h _ _ (m1.last (by simpa using c2) hl) (.refl _))
 rw[if_neg c2];have c2:0+1≠a.size:=by simpa using c2
 refine wpS_bind (wpS_get ?_);refine wpS_bind (wpS_mono (wpS_forRange (I:=fun t c st'=>SameBut st st'/\∃out ia ib g,c=(none,out,ia,ib,g)/\MI κ a b out ia ib/\ia+1<a.size/\ib<b.size/\(a.size-ia)+(b.size-ib)+t+1<=a.size+b.size)
  (Q:=fun c st'=>SameBut st st'/\∃r,c.1=some r/\jr κ a b r) ?step ?fin ⟨.refl _,_,_,_,_,rfl,m1,by omega,by omega,by omega⟩) ?post)
 case fin=>
  rintro c st' ⟨sm,out,ia,ib,g,rfl,m,p1,p2,p3⟩;omega
 case post=>
  rintro c st' ⟨sm,r,e,g⟩;rw[e];exact wpS_pure (h r st' g sm)
 case step=>
  rintro t c st1 _ ht ⟨sm1,out,ia,ib,g,rfl,m,p1,p2,p3⟩;dsimp only;refine wpS_bind (wpS_mono (wpS_forRange (I:=fun u c st'=>SameBut st st'/\∃out ia ib x y,c=(none,out,ia,ib,x,y)/\MI κ a b out ia ib/\ia+1<a.size/\ib<b.size/\(a.size-ia)+(b.size-ib)+t+1+min u 1<=a.size+b.size)
   (Q:=fun c st'=>SameBut st st'/\zN κ a b (a.size+b.size-t-2) c.1 c.2.1 c.2.2.1 c.2.2.2.1) ?step1 ?fin1 ⟨sm1,_,_,_,_,_,rfl,m,p1,p2,by omega⟩) ?post1)
  case fin1=>
   rintro c st' ⟨sm,out,ia,ib,x,y,rfl,m,p1,p2,p3⟩;exact⟨sm,.inr ⟨rfl,m,p1,p2,show a.size-ia+(b.size-ib)<=_ by omega⟩⟩
  case step1=>
   rintro u c st2 _ hu ⟨sm2,out,ia,ib,n1,n2,rfl,m,p1,p2,p3⟩;dsimp only;obtain⟨y,hy⟩:=dY (xs:=b) (i:=ib) p2;obtain⟨x,hx⟩:=dY (xs:=a) (i:=ia) (by omega);refine wpS_bind (aX hy (wpS_bind (aX hx (wpS_bind (T y x (Sb y (fy hy)) (Sa x (fy hx)) st2 _ (sm2.1.trans ek) ?_)))));dsimp only;by_cases q:κ y < κ x
   ·simp only[q,decide_true,if_true]
    refine wpS_bind (aX hy ?_);have m':=m.pushB hy fun z hz=>Int.le_trans (Int.le_of_lt q) (j9 sa hx z hz)
    by_cases c3:(ib+1==b.size)=true
    ·rw[if_pos c3]
     exact wpS_pure ⟨sm2,.inl ⟨_,rfl,m'.done (.inl (by simpa using c3))⟩⟩
    rw[if_neg c3];have c3:ib+1≠b.size:=by simpa using c3
    split
    ·exact wpS_pure ⟨sm2,.inr ⟨rfl,m',p1,show ib+1<b.size by omega,show a.size-ia+(b.size-(ib+1))<=_ by omega⟩⟩
    ·exact wpS_pure ⟨sm2,_,_,_,_,_,rfl,m',p1,by omega,by omega⟩
   ·simp only[q,decide_false,Bool.false_eq_true,if_false]
    refine wpS_bind (aX hx ?_);have m':=m.pushA hx fun z hz=>Int.le_trans (Int.not_lt.mp q) (j9 sb hy z hz)
    by_cases c3:(ia+1+1==a.size)=true
    ·rw[if_pos c3]
     exact wpS_pure ⟨sm2,.inl ⟨_,rfl,m'.last (by simpa using c3) hl⟩⟩
    rw[if_neg c3];have c3:ia+1+1≠a.size:=by simpa using c3
    split
    ·exact wpS_pure ⟨sm2,.inr ⟨rfl,m',show ia+1+1<a.size by omega,p2,show a.size-(ia+1)+(b.size-ib)<=_ by omega⟩⟩
    ·exact wpS_pure ⟨sm2,_,_,_,_,_,rfl,m',by omega,p2,by omega⟩
  case post1=>
   rintro⟨ro,out,ia,ib,n1,n2⟩ st2 ⟨sm2,pt⟩;rcases pt with⟨r,e,gd⟩|⟨e,m,p1,p2,p3⟩
   ·have e:ro=some r:=e
    subst e;exact wpS_pure ⟨sm2,r,rfl,gd⟩
   have e:ro=none:=e;subst e;dsimp only at m p1 p2 p3 ⊢;refine wpS_bind (wpS_lift (wpAny_rule ⟨rfl,?_⟩));refine wpS_bind (wpS_mono (wpS_forRange (I:=fun u c st'=>SameBut st st'/\∃out ia ib g x y,c=(none,out,ia,ib,g,x,y)/\MI κ a b out ia ib/\ia+1<a.size/\ib<b.size/\(a.size-ia)+(b.size-ib)<=a.size+b.size-t-2)
    (Q:=fun c st'=>SameBut st st'/\zN κ a b (a.size+b.size-t-2) c.1 c.2.1 c.2.2.1 c.2.2.2.1) ?step2 ?fin2 ⟨sm2,_,_,_,_,_,_,rfl,m,p1,p2,p3⟩) ?post2)
   case fin2=>
    rintro c st' ⟨sm,out,ia,ib,g,x,y,rfl,m,p1,p2,p3⟩;exact⟨sm,.inr ⟨rfl,m,p1,p2,p3⟩⟩
   case post2=>
    rintro⟨ro,out,ia,ib,g,n1,n2⟩ st3 ⟨sm3,pt⟩;rcases pt with⟨r,e,gd⟩|⟨e,m,p1,p2,p3⟩
    ·have e:ro=some r:=e
     subst e;exact wpS_pure ⟨sm3,r,rfl,gd⟩
    have e:ro=none:=e;subst e;dsimp only at m p1 p2 p3 ⊢;exact wpS_bind (jt sm3 fun st4 sm4=>wpS_pure ⟨sm4,_,_,_,_,rfl,m,p1,p2,by omega⟩)
   case step2=>
    rintro u c st3 _ hu ⟨sm3,out,ia,ib,g,n1,n2,rfl,m,p1,p2,p3⟩;dsimp only;obtain⟨y,hy⟩:=dY (xs:=b) (i:=ib) p2;have Sy:=Sb y (fy hy);rcases Nat.lt_or_ge 1 g with hg|hg
    all_goals
     first
     |rw[if_pos hg]
     |rw[if_neg (Nat.not_lt.mpr hg)]
     refine wpS_bind (jt sm3 fun st4 sm4=>?_);refine wpS_bind (aX hy ?_);refine wpS_bind (iK T (u8 sa Sa ia) Sy (sm4.1.trans ek) (by omega) fun l1 l2 el e1 e2=>?_)
     simp only[Bool.false_eq_true,if_false]at e1 e2;dsimp only;rcases Nat.eq_zero_or_pos l1.length with h1|h1
     ·rw[if_neg (by omega)]
      have l1n:l1=[]:=List.length_eq_zero_iff.mp h1;subst l1n;refine wpS_mono (yB (B:=a.size+b.size-t-2) (out:=out) (ia:=ia) (ib:=ib) (k:=0) (n2:=n2) T sa sb Sa Sb m hy (fun z hz=>Int.le_of_lt (e2 z (by rw[el,List.nil_append]at hz;exact hz))) hl p1 p2 p3 sm4 ek) fun r st5 gq=>?_
      cases r with
      |done c=>exact gq
      |yield c=>exact gq.y
     ·rw[if_pos h1]
      have mA:=m.appA el fun x hx z hz=>Int.le_trans (e1 x hx) (j9 sb hy z hz)
      have ln:l1.length+l2.length=a.size-ia:=by
       have:=congrArg List.length el;rw[List.length_append,List.length_drop,Array.length_toList]at this;exact this.symm
      by_cases c3:(ia+l1.length+1==a.size)=true
      ·rw[if_pos c3]
       exact wpS_pure ⟨sm4,.inl ⟨_,rfl,mA.last (by simpa using c3) hl⟩⟩
      rw[if_neg c3];by_cases c4:(ia+l1.length==a.size)=true
      ·rw[if_pos c4]
       exact wpS_pure ⟨sm4,.inl ⟨_,rfl,mA.done (.inr (by simpa using c4))⟩⟩
      rw[if_neg c4];have c3:ia+l1.length+1≠a.size:=by simpa using c3
      have c4:ia+l1.length≠a.size:=by simpa using c4
      refine wpS_mono (yB (B:=a.size+b.size-t-2) (out:=out++a.extract ia (ia+l1.length)) (ia:=ia+l1.length) (ib:=ib) (k:=l1.length) (n2:=n2) T sa sb Sa Sb mA hy (fun z hz=>Int.le_of_lt (e2 z (by rw[(j2 el rfl).2]at hz;exact hz))) hl (by omega) p2 (by omega) sm4 ek) fun r st5 gq=>?_
      cases r with
      |done c=>exact gq
      |yield c=>exact gq.y
end
theorem sL(a b:Array Keyed):ni a b=(do
 rule "list.sort.merge-hi"
 let mut na:=a.size-1
 let mut nb:=b.size
 let mut out:Array Keyed:=#[<-elem' a na]
 if na==0 then return a.extract 0 na++b.extract 0 nb++out.reverse
 if nb==1 then return b.extract 0 nb++a.extract 0 na++out.reverse
 let mut minGallop:=gallopOf (<-get)
 for _ in [0:a.size+b.size] do
  let mut acount:=0
  let mut bcount:=0
  for _ in [0:a.size+b.size] do
   let some aWins <-lt' (<-elem' b (nb-1)) (<-elem' a (na-1))|return a.extract 0 na++b.extract 0 nb++out.reverse
   if aWins then
    na:=na-1;out:=out.push (<-elem' a na);acount:=acount+1;bcount:=0
    if na==0 then return a.extract 0 na++b.extract 0 nb++out.reverse
    if acount>=minGallop then break
   else
    nb:=nb-1;out:=out.push (<-elem' b nb);bcount:=bcount+1;acount:=0
    if nb==1 then return b.extract 0 nb++a.extract 0 na++out.reverse
    if bcount>=minGallop then break
  rule "list.sort.gallop"
  minGallop:=minGallop+1
  for _ in [0:a.size+b.size] do
   if minGallop>1 then minGallop:=minGallop-1
   di minGallop
   let some at_ <-dQ false (<-elem' b (nb-1)) a 0 na (na-1)|return a.extract 0 na++b.extract 0 nb++out.reverse
   let k:=na-at_
   acount:=k
   if k>0 then
    out:=out++(a.extract at_ na).reverse;na:=at_
    if na==0 then return a.extract 0 na++b.extract 0 nb++out.reverse
   nb:=nb-1;out:=out.push (<-elem' b nb)
   if nb==1 then return b.extract 0 nb++a.extract 0 na++out.reverse
   let some at_ <-dQ true (<-elem' a (na-1)) b 0 nb (nb-1)|return a.extract 0 na++b.extract 0 nb++out.reverse
   let k:=nb-at_
   bcount:=k
   if k>0 then
    out:=out++(b.extract at_ nb).reverse;nb:=at_
    if nb==1 then return b.extract 0 nb++a.extract 0 na++out.reverse
    if nb==0 then return a.extract 0 na++b.extract 0 nb++out.reverse
   na:=na-1;out:=out.push (<-elem' a na)
   if na==0 then return a.extract 0 na++b.extract 0 nb++out.reverse
   if acount<7&&bcount<7 then break
  minGallop:=minGallop+1
  di minGallop
 unsupported "internal:list.sort.merge-bound"):=rfl
section
variable{M:Model}{A:Around}{E:Value->Shared->Prop}{s:Shared}{κ:Keyed->Int}{S:Keyed->Prop}{kd:SortKind}
variable{a b out:Array Keyed}{na nb:Nat}
theorem asc_neg{l:List Keyed}:Asc (fun x=>- κ x) l↔Asc κ l.reverse:=by
 unfold Asc;rw[List.pairwise_reverse];constructor
 ·intro h;exact h.imp fun{x y} (q:- κ x <= - κ y)=>(by omega:κ y <= κ x)
 ·intro h;exact h.imp fun{x y} (q:κ y <= κ x)=>(by omega:- κ x <= - κ y)
def HI(κ:Keyed->Int)(a b out:Array Keyed)(na nb:Nat):Prop:=LI (fun x=>- κ x) (a.toList++b.toList) out.toList (a.toList.take na).reverse (b.toList.take nb).reverse
theorem jy{xs:Array Keyed}{i:Nat}{x:Keyed}(h:xs[i]? = some x):(xs.toList.take (i+1)).reverse=[x]++(xs.toList.take i).reverse:=by
 rw[<-Array.getElem?_toList]at h;rw[List.take_add_one,h];simp
theorem HI.pushB(h:HI κ a b out na (nb+1)){y:Keyed}(hy:b[nb]? = some y)(q:∀x∈a.toList.take na,κ x <= κ y):HI κ a b (out.push y) na nb:=by
 unfold HI at h ⊢;rw[jy hy]at h;rw[Array.toList_push];exact h.mvB fun x hx z hz=>by
  have:=q z (List.mem_reverse.mp hz);rw[List.mem_singleton.mp hx];omega
theorem HI.pushA(h:HI κ a b out (na+1) nb){y:Keyed}(hy:a[na]? = some y)(q:∀x∈b.toList.take nb,κ x <= κ y):HI κ a b (out.push y) na nb:=by
 unfold HI at h ⊢;rw[jy hy]at h;rw[Array.toList_push];exact h.mvA fun x hx z hz=>by
  have:=q z (List.mem_reverse.mp hz);rw[List.mem_singleton.mp hx];omega
theorem jz{xs:Array Keyed}{n:Nat}{l1 l2:List Keyed}(hn:n<=xs.size)(h:xs.toList.take n=l1++l2):(xs.extract l1.length n).reverse.toList=l2.reverse/\xs.toList.take l1.length=l1:=by
 have hl:l1.length+l2.length=n:=by
  have:=congrArg List.length h;rw[List.length_append,List.length_take,Array.length_toList]at this;omega
 constructor
 ·rw[Array.toList_reverse,Array.toList_extract,List.extract_eq_drop_take]
  congr 1;have:(xs.toList.take n).drop l1.length=l2:=by rw[h,List.drop_left]
  rw[<-this,List.drop_take]
 ·have:(xs.toList.take n).take l1.length=l1:=by rw[h,List.take_left]
  rw[List.take_take,Nat.min_eq_left (by omega)]at this;exact this
theorem HI.appA(h:HI κ a b out na nb){l1 l2:List Keyed}(hn:na<=a.size)(e:a.toList.take na=l1++l2)(q:∀x∈l2,∀y∈b.toList.take nb,κ y <= κ x):HI κ a b (out++(a.extract l1.length na).reverse) l1.length nb:=by
 obtain⟨e1,e2⟩:=jz hn e;unfold HI at h ⊢;rw[Array.toList_append,e1,e2];rw[e,List.reverse_append]at h;exact h.mvA fun x hx y hy=>by have:=q x (List.mem_reverse.mp hx) y (List.mem_reverse.mp hy);omega
theorem HI.appB(h:HI κ a b out na nb){l1 l2:List Keyed}(hn:nb<=b.size)(e:b.toList.take nb=l1++l2)(q:∀x∈l2,∀y∈a.toList.take na,κ y <= κ x):HI κ a b (out++(b.extract l1.length nb).reverse) na l1.length:=by
 obtain⟨e1,e2⟩:=jz hn e;unfold HI at h ⊢;rw[Array.toList_append,e1,e2];rw[e,List.reverse_append]at h;exact h.mvB fun x hx y hy=>by have:=q x (List.mem_reverse.mp hx) y (List.mem_reverse.mp hy);omega
theorem zv{xs:Array Keyed}(n:Nat):(xs.extract 0 n).toList=xs.toList.take n:=by
 rw[Array.toList_extract,List.extract_eq_drop_take,Nat.sub_zero,List.drop_zero]
theorem nN{l:List Keyed}{r:Array Keyed}(e:r.toList=l.reverse)(h:l.Perm (a.toList++b.toList)/\Asc (fun x=>- κ x) l):jr κ a b r:=by
 unfold jr;rw[e];exact⟨(List.reverse_perm l).trans h.1,asc_neg.mp h.2⟩
theorem HI.done(h:HI κ a b out na nb)(e:na=0\/nb=0):jr κ a b (a.extract 0 na++b.extract 0 nb++out.reverse):=by
 unfold HI at h;rcases e with rfl|rfl
 ·rw[List.take_zero,List.reverse_nil]at h
  exact nN (by simp[zv]) h.endB
 ·rw[List.take_zero,List.reverse_nil]at h
  exact nN (by simp[zv]) h.endA
theorem HI.first(h:HI κ a b out na nb)(e:nb=1)(q:∀y,b[0]? = some y->∀x∈a.toList,κ y <= κ x)(hb:1<=b.size):jr κ a b (b.extract 0 nb++a.extract 0 na++out.reverse):=by
 subst e;obtain⟨y,hy⟩:=dY (xs:=b) (i:=0) (by omega);unfold HI at h;have t:=jy hy;rw[List.take_zero,List.reverse_nil,List.append_nil]at t;have t:(b.toList.take 1).reverse=[y]:=t;rw[t]at h;have t2:b.toList.take 1=[y]:=by rw[<-List.reverse_reverse (b.toList.take 1),t];rfl
 exact nN (by simp[zv,t2]) (h.swap.last fun x hx=>by have:=q y hy x (List.mem_of_mem_take (List.mem_reverse.mp hx));omega)
theorem j8{xs:Array Keyed}(h:Asc κ xs.toList){i:Nat}{x:Keyed}(e:xs[i]? = some x):∀y∈xs.toList.take (i+1),κ y <= κ x:=fun y hy=>by
 have q:Asc κ (xs.toList.take (i+1)):=List.Pairwise.take h;have t:xs.toList.take (i+1)=xs.toList.take i++[x]:=by rw[<-List.reverse_reverse (xs.toList.take (i+1)),jy e];simp
 rw[t]at q hy;rcases List.mem_append.mp hy with hy|hy
 ·exact q.mid y hy x (List.mem_singleton.mpr rfl)
 ·rw[List.mem_singleton.mp hy];exact Int.le_refl _
theorem r6{xs:Array Keyed}(h:Asc κ xs.toList)(hS:∀x∈xs.toList,S x){n:Nat}(hn:n<=xs.size):Stretch κ S xs 0 n (xs.toList.take n) where
 eq:=by rw[List.drop_zero]
 len:=by rw[List.length_take,Array.length_toList];omega
 all x hx:=hS x (List.mem_of_mem_take hx)
 asc:=List.Pairwise.take h
end
section
variable{M:Model}{A:Around}{E:Value->Shared->Prop}{s:Shared}{κ:Keyed->Int}{S:Keyed->Prop}{kd:SortKind}
variable{a b:Array Keyed}
abbrev Hs:Type:=Option (Array Keyed)×Nat×Nat×Array Keyed×Nat×Nat×Nat
def tM(κ:Keyed->Int)(a b:Array Keyed)(B:Nat)(ro:Option (Array Keyed))(na nb:Nat)(out:Array Keyed):Prop:=
 (∃r,ro=some r/\jr κ a b r)\/(ro=none/\HI κ a b out na nb/\1<=na/\2<=nb/\na<=a.size/\nb<=b.size/\na+nb<=B)
def HsQ(κ:Keyed->Int)(a b:Array Keyed)(B:Nat)(st:SortSt)(r:ForInStep Hs)(st':SortSt):Prop:=SameBut st st'/\match r with
 |.done c=>tM κ a b B c.1 c.2.1 c.2.2.1 c.2.2.2.1
 |.yield c=>c.1=none/\tM κ a b B c.1 c.2.1 c.2.2.1 c.2.2.2.1
noncomputable def ID(a b out:Array Keyed)(na nb g k k1:Nat):StateT SortSt Sem (ForInStep Hs):=do
 let x <-elem' a (na-1)
 if(na-1==0)=true then pure (.done (some (a.extract 0 (na-1)++b.extract 0 nb++(out.push x).reverse),na-1,nb,out.push x,g,k,k1))
 else if(decide (k<7)&&decide (k1<7))=true then pure (.done (none,na-1,nb,out.push x,g,k,k1))else pure (.yield (none,na-1,nb,out.push x,g,k,k1))
noncomputable def KF(a b out:Array Keyed)(na nb g k n2:Nat):StateT SortSt Sem (ForInStep Hs):=do
 let y <-elem' b (nb-1)
 if(nb-1==1)=true then pure (.done (some (b.extract 0 (nb-1)++a.extract 0 na++(out.push y).reverse),na,nb-1,out.push y,g,k,n2))
 else do
  let x <-elem' a (na-1)
  let r <-dQ true x b 0 (nb-1) (nb-1-1)
  match r with
  |some k1=>
   if nb-1-k1>0 then
    if(k1==1)=true then pure (.done (some (b.extract 0 k1++a.extract 0 na++(out.push y++(b.extract k1 (nb-1)).reverse).reverse),na,k1,out.push y++(b.extract k1 (nb-1)).reverse,g,k,nb-1-k1))
    else if(k1==0)=true then pure (.done (some (a.extract 0 na++b.extract 0 k1++(out.push y++(b.extract k1 (nb-1)).reverse).reverse),na,k1,out.push y++(b.extract k1 (nb-1)).reverse,g,k,nb-1-k1))
    else ID a b (out.push y++(b.extract k1 (nb-1)).reverse) na k1 g k (nb-1-k1)
   else ID a b (out.push y) na (nb-1) g k (nb-1-k1)
  |_=>pure (.done (some (a.extract 0 na++b.extract 0 (nb-1)++(out.push y).reverse),na,nb-1,out.push y,g,k,n2))
theorem ze{st st':SortSt}{out:Array Keyed}{na nb g k k1 B:Nat}{x:Keyed}(m:HI κ a b out na nb)(hx:a[na-1]? = some x)(q:∀z∈b.toList.take nb,κ z <= κ x)(p1:1<=na)(p2:2<=nb)(p4:na<=a.size)(p5:nb<=b.size)(p3:na+nb<=B)(sm:SameBut st st'):
  wpS M A E s (ID a b out na nb g k k1) (HsQ κ a b B st) st':=by
 unfold ID;refine wpS_bind (aX hx ?_);have m':HI κ a b (out.push x) (na-1) nb:=HI.pushA (by rw[show na-1+1=na by omega];exact m) hx q;by_cases c:(na-1==0)=true
 ·rw[if_pos c]
  exact wpS_pure ⟨sm,.inl ⟨_,rfl,m'.done (.inl (by simpa using c))⟩⟩
 rw[if_neg c];have c:na-1≠0:=by simpa using c
 have pt:tM κ a b B none (na-1) nb (out.push x):=.inr ⟨rfl,m',by omega,p2,by omega,p5,by omega⟩;split
 ·exact wpS_pure ⟨sm,pt⟩
 ·exact wpS_pure ⟨sm,rfl,pt⟩
theorem zf(T:dz M A E s kd κ S){st st':SortSt}{out:Array Keyed}{na nb g k n2 B:Nat}{y:Keyed}(sa:Asc κ a.toList)(sb:Asc κ b.toList)(Sa:∀x∈a.toList,S x)(Sb:∀x∈b.toList,S x)(m:HI κ a b out na nb)(hy:b[nb-1]? = some y)(q:∀z∈a.toList.take na,κ z <= κ y)(h0:∀y,b[0]? = some y->∀x∈a.toList,κ y <= κ x)
  (p1:1<=na) (p2:2<=nb) (p4:na<=a.size) (p5:nb<=b.size) (p3:na+nb<=B) (sm:SameBut st st') (ek:kindOf st=kd):wpS M A E s (KF a b out na nb g k n2) (HsQ κ a b B st) st':=by
 unfold KF;refine wpS_bind (aX hy ?_);have mB:HI κ a b (out.push y) na (nb-1):=HI.pushB (by rw[show nb-1+1=nb by omega];exact m) hy q;by_cases c3:(nb-1==1)=true
 ·rw[if_pos c3]
  exact wpS_pure ⟨sm,.inl ⟨_,rfl,mB.first (by simpa using c3) h0 (by omega)⟩⟩
 rw[if_neg c3];have c3:nb-1≠1:=by simpa using c3
 obtain⟨x,hx⟩:=dY (xs:=a) (i:=na-1) (by omega);refine wpS_bind (aX hx ?_);have ax:∀u∈a.toList.take na,κ u <= κ x:=fun u hu=>j8 sa hx u (by rw[show na-1+1=na by omega];exact hu)
 refine wpS_bind (iK T (r6 sb Sb (n:=nb-1) (by omega)) (Sa x (fy hx)) (sm.1.trans ek) (by omega) fun k1 k2 ek2 f1 f2=>?_)
 simp only[if_true]at f1 f2;dsimp only;have ln:k1.length+k2.length=nb-1:=by
  have:=congrArg List.length ek2;rw[List.length_append,List.length_take,Array.length_toList]at this;omega
 rcases Nat.eq_zero_or_pos (nb-1-k1.length)with h1|h1
 ·rw[if_neg (by omega)]
  have:k2=[]:=List.length_eq_zero_iff.mp (by omega);subst this;exact ze mB hx (fun z hz=>Int.le_of_lt (f1 z (by rw[ek2,List.append_nil]at hz;exact hz))) p1 (by omega) p4 (by omega) (by omega) sm
 ·rw[if_pos h1]
  have mC:=mB.appB (by omega) ek2 fun z hz u hu=>Int.le_trans (ax u hu) (f2 z hz)
  by_cases c4:(k1.length==1)=true
  ·rw[if_pos c4]
   exact wpS_pure ⟨sm,.inl ⟨_,rfl,mC.first (by simpa using c4) h0 (by omega)⟩⟩
  rw[if_neg c4];by_cases c5:(k1.length==0)=true
  ·rw[if_pos c5]
   exact wpS_pure ⟨sm,.inl ⟨_,rfl,mC.done (.inr (by simpa using c5))⟩⟩
  rw[if_neg c5];have c4:k1.length≠1:=by simpa using c4
  have c5:k1.length≠0:=by simpa using c5
  exact ze mC hx (fun z hz=>Int.le_of_lt (f1 z (by rw[(jz (by omega) ek2).2]at hz;exact hz))) p1 (by omega) p4 (by omega) (by omega) sm
theorem HsQ.y{B:Nat}{st st':SortSt}{c:Hs}(h:HsQ κ a b B st (.yield c) st'):SameBut st st'/\∃na nb out g x y,c=(none,na,nb,out,g,x,y)/\HI κ a b out na nb/\1<=na/\2<=nb/\na<=a.size/\nb<=b.size/\na+nb<=B:=by
 obtain⟨sm,e,pt⟩:=h;obtain⟨ro,na,nb,out,g,x,y⟩:=c;have e:ro=none:=e;subst e;rcases pt with⟨r,e,_⟩|⟨_,m,p1,p2,p3⟩
 ·cases e
 ·exact⟨sm,na,nb,out,g,x,y,rfl,m,p1,p2,p3⟩
theorem rP(T:dz M A E s kd κ S){st:SortSt}{Q:Array Keyed->SortSt->Prop}(sa:Asc κ a.toList)(sb:Asc κ b.toList)(Sa:∀x∈a.toList,S x)(Sb:∀x∈b.toList,S x)(na:1<=a.size)(nb:1<=b.size)
  (h0:∀y,b[0]? = some y->∀x∈a.toList,κ y <= κ x) (hl:∀x,a[a.size-1]? = some x->∀y∈b.toList,κ y <= κ x) (ek:kindOf st=kd) (h:∀out st',jr κ a b out->SameBut st st'->Q out st'):wpS M A E s (ni a b) Q st:=by
 rw[sL];refine wpS_bind (wpS_lift (wpAny_rule ⟨rfl,?_⟩));obtain⟨x0,hx0⟩:=dY (xs:=a) (i:=a.size-1) (by omega);refine wpS_bind (aX hx0 ?_);dsimp only;have m0:HI κ a b #[] a.size b.size:=by
  have e1:a.toList.take a.size=a.toList:=List.take_of_length_le (by simp);have e2:b.toList.take b.size=b.toList:=List.take_of_length_le (by simp);unfold HI;rw[e1,e2];exact⟨by rw[List.nil_append];exact(List.reverse_perm _).append (List.reverse_perm _),List.Pairwise.nil,fun x hx=>by simp at hx,asc_neg.mpr (by rw[List.reverse_reverse];exact sa),asc_neg.mpr (by rw[List.reverse_reverse];exact sb)⟩
 have m1:HI κ a b #[x0] (a.size-1) b.size:=HI.pushA (out:=#[]) (nb:=b.size) (na:=a.size-1) (by rw[show a.size-1+1=a.size by omega];exact m0) hx0 fun z hz=>hl x0 hx0 z (List.mem_of_mem_take hz)
 by_cases c1:(a.size-1==0)=true
 ·rw[if_pos c1]
  exact wpS_pure (h _ _ (m1.done (.inl (by simpa using c1))) (.refl _))
 rw[if_neg c1];have c1:a.size-1≠0:=by simpa using c1
 by_cases c2:(b.size==1)=true
 ·rw[if_pos c2]
  exact wpS_pure (h _ _ (m1.first (by simpa using c2) h0 nb) (.refl _))
 rw[if_neg c2];have c2:b.size≠1:=by simpa using c2
 refine wpS_bind (wpS_get ?_);refine wpS_bind (wpS_mono (wpS_forRange (I:=fun t c st'=>SameBut st st'/\∃na nb out g,c=(none,na,nb,out,g)/\HI κ a b out na nb/\1<=na/\2<=nb/\na<=a.size/\nb<=b.size/\na+nb+t+1<=a.size+b.size)
  (Q:=fun c st'=>SameBut st st'/\∃r,c.1=some r/\jr κ a b r) ?step ?fin ⟨.refl _,_,_,_,_,rfl,m1,by omega,by omega,by omega,by omega,by omega⟩) ?post)
 case fin=>
  rintro c st' ⟨sm,na,nb,out,g,rfl,m,p1,p2,p4,p5,p3⟩;omega
 case post=>
  rintro c st' ⟨sm,r,e,g⟩;rw[e];exact wpS_pure (h r st' g sm)
 case step=>
  rintro t c st1 _ ht ⟨sm1,na,nb,out,g,rfl,m,p1,p2,p4,p5,p3⟩;dsimp only;refine wpS_bind (wpS_mono (wpS_forRange (I:=fun u c st'=>SameBut st st'/\∃na nb out x y,c=(none,na,nb,out,x,y)/\HI κ a b out na nb/\1<=na/\2<=nb/\na<=a.size/\nb<=b.size/\na+nb+t+1+min u 1<=a.size+b.size)
   (Q:=fun c st'=>SameBut st st'/\tM κ a b (a.size+b.size-t-2) c.1 c.2.1 c.2.2.1 c.2.2.2.1) ?step1 ?fin1 ⟨sm1,_,_,_,_,_,rfl,m,p1,p2,p4,p5,by omega⟩) ?post1)
  case fin1=>
   rintro c st' ⟨sm,na,nb,out,x,y,rfl,m,p1,p2,p4,p5,p3⟩;exact⟨sm,.inr ⟨rfl,m,p1,p2,p4,p5,show na+nb<=_ by omega⟩⟩
  case step1=>
   rintro u c st2 _ hu ⟨sm2,na,nb,out,n1,n2,rfl,m,p1,p2,p4,p5,p3⟩;dsimp only;obtain⟨y,hy⟩:=dY (xs:=b) (i:=nb-1) (by omega);obtain⟨x,hx⟩:=dY (xs:=a) (i:=na-1) (by omega);have ax:∀u∈a.toList.take na,κ u <= κ x:=fun u hu=>j8 sa hx u (by rw[show na-1+1=na by omega];exact hu)
   have bx:∀u∈b.toList.take nb,κ u <= κ y:=fun u hu=>j8 sb hy u (by rw[show nb-1+1=nb by omega];exact hu)
   refine wpS_bind (aX hy (wpS_bind (aX hx (wpS_bind (T y x (Sb y (fy hy)) (Sa x (fy hx)) st2 _ (sm2.1.trans ek) ?_)))));dsimp only;by_cases q:κ y < κ x
   ·simp only[q,decide_true,if_true]
    refine wpS_bind (aX hx ?_);have m':HI κ a b (out.push x) (na-1) nb:=HI.pushA (by rw[show na-1+1=na by omega];exact m) hx fun z hz=>Int.le_trans (bx z hz) (Int.le_of_lt q)
    by_cases c3:(na-1==0)=true
    ·rw[if_pos c3]
     exact wpS_pure ⟨sm2,.inl ⟨_,rfl,m'.done (.inl (by simpa using c3))⟩⟩
    rw[if_neg c3];have c3:na-1≠0:=by simpa using c3
    split
    ·exact wpS_pure ⟨sm2,.inr ⟨rfl,m',show 1<=na-1 by omega,p2,show na-1<=_ by omega,p5,show na-1+nb<=_ by omega⟩⟩
    ·exact wpS_pure ⟨sm2,_,_,_,_,_,rfl,m',by omega,p2,by omega,p5,by omega⟩
   ·simp only[q,decide_false,Bool.false_eq_true,if_false]
    refine wpS_bind (aX hy ?_);have m':HI κ a b (out.push y) na (nb-1):=HI.pushB (by rw[show nb-1+1=nb by omega];exact m) hy fun z hz=>Int.le_trans (ax z hz) (Int.not_lt.mp q)
    by_cases c3:(nb-1==1)=true
    ·rw[if_pos c3]
     exact wpS_pure ⟨sm2,.inl ⟨_,rfl,m'.first (by simpa using c3) h0 (by omega)⟩⟩
    rw[if_neg c3];have c3:nb-1≠1:=by simpa using c3
    split
    ·exact wpS_pure ⟨sm2,.inr ⟨rfl,m',p1,show 2<=nb-1 by omega,p4,show nb-1<=_ by omega,show na+(nb-1)<=_ by omega⟩⟩
    ·exact wpS_pure ⟨sm2,_,_,_,_,_,rfl,m',p1,by omega,p4,by omega,by omega⟩
  case post1=>
   rintro⟨ro,na,nb,out,n1,n2⟩ st2 ⟨sm2,pt⟩;rcases pt with⟨r,e,gd⟩|⟨e,m,p1,p2,p4,p5,p3⟩
   ·have e:ro=some r:=e
    subst e;exact wpS_pure ⟨sm2,r,rfl,gd⟩
   have e:ro=none:=e;subst e;dsimp only at m p1 p2 p3 p4 p5 ⊢;refine wpS_bind (wpS_lift (wpAny_rule ⟨rfl,?_⟩));refine wpS_bind (wpS_mono (wpS_forRange (I:=fun u c st'=>SameBut st st'/\∃na nb out g x y,c=(none,na,nb,out,g,x,y)/\HI κ a b out na nb/\1<=na/\2<=nb/\na<=a.size/\nb<=b.size/\na+nb<=a.size+b.size-t-2)
    (Q:=fun c st'=>SameBut st st'/\tM κ a b (a.size+b.size-t-2) c.1 c.2.1 c.2.2.1 c.2.2.2.1) ?step2 ?fin2 ⟨sm2,_,_,_,_,_,_,rfl,m,p1,p2,p4,p5,p3⟩) ?post2)
   case fin2=>
    rintro c st' ⟨sm,na,nb,out,g,x,y,rfl,m,p⟩;exact⟨sm,.inr ⟨rfl,m,p⟩⟩
   case post2=>
    rintro⟨ro,na,nb,out,g,n1,n2⟩ st3 ⟨sm3,pt⟩;rcases pt with⟨r,e,gd⟩|⟨e,m,p1,p2,p4,p5,p3⟩
    ·have e:ro=some r:=e
     subst e;exact wpS_pure ⟨sm3,r,rfl,gd⟩
    have e:ro=none:=e;subst e;dsimp only at m p1 p2 p3 p4 p5 ⊢;exact wpS_bind (jt sm3 fun st4 sm4=>wpS_pure ⟨sm4,_,_,_,_,rfl,m,p1,p2,p4,p5,by omega⟩)
   case step2=>
    rintro u c st3 _ hu ⟨sm3,na,nb,out,g,n1,n2,rfl,m,p1,p2,p4,p5,p3⟩;dsimp only;obtain⟨y,hy⟩:=dY (xs:=b) (i:=nb-1) (by omega);have Sy:=Sb y (fy hy);have bx:∀u∈b.toList.take nb,κ u <= κ y:=fun u hu=>j8 sb hy u (by rw[show nb-1+1=nb by omega];exact hu)
    rcases Nat.lt_or_ge 1 g with hg|hg
    all_goals
     first
     |rw[if_pos hg]
     |rw[if_neg (Nat.not_lt.mpr hg)]
     refine wpS_bind (jt sm3 fun st4 sm4=>?_);refine wpS_bind (aX hy ?_);refine wpS_bind (iK T (r6 sa Sa p4) Sy (sm4.1.trans ek) (by omega) fun l1 l2 el e1 e2=>?_)
     simp only[Bool.false_eq_true,if_false]at e1 e2;dsimp only;have ln:l1.length+l2.length=na:=by
      have:=congrArg List.length el;rw[List.length_append,List.length_take,Array.length_toList]at this;omega
     rcases Nat.eq_zero_or_pos (na-l1.length)with h1|h1
     ·rw[if_neg (by omega)]
      have l2n:l2=[]:=List.length_eq_zero_iff.mp (by omega);subst l2n;refine wpS_mono (zf (B:=a.size+b.size-t-2) (out:=out) (na:=na) (nb:=nb) (k:=na-l1.length) (n2:=n2) T sa sb Sa Sb m hy (fun z hz=>e1 z (by rw[el,List.append_nil]at hz;exact hz)) h0 p1 p2 p4 p5 p3 sm4 ek) fun r st5 gq=>?_
      cases r with
      |done c=>exact gq
      |yield c=>exact gq.y
     ·rw[if_pos h1]
      have mA:=m.appA p4 el fun x hx z hz=>Int.le_trans (bx z hz) (Int.le_of_lt (e2 x hx))
      by_cases c3:(l1.length==0)=true
      ·rw[if_pos c3]
       exact wpS_pure ⟨sm4,.inl ⟨_,rfl,mA.done (.inl (by simpa using c3))⟩⟩
      rw[if_neg c3];have c3:l1.length≠0:=by simpa using c3
      refine wpS_mono (zf (B:=a.size+b.size-t-2) (out:=out++(a.extract l1.length na).reverse) (na:=l1.length) (nb:=nb) (k:=na-l1.length) (n2:=n2) T sa sb Sa Sb mA hy (fun z hz=>e1 z (by rw[(jz p4 el).2]at hz;exact hz)) h0 (by omega) p2 (by omega) p5 (by omega) sm4 ek) fun r st5 gq=>?_
      cases r with
      |done c=>exact gq
      |yield c=>exact gq.y
end
theorem sM(i:Nat):mergeAt' i=(do
 let s <-get
 let (some (sa,na,power),some (sb,nb,_)):=((pendingOf s)[i]?,(pendingOf s)[i+1]?)|unsupported "internal:list.sort.pending"
 set (setPending s (((pendingOf s).setIfInBounds i (sa,na+nb,power)).eraseIdxIfInBounds (i+1)))
 let some k <-dQ false (<-elem' (arrOf s) sb) (arrOf s) sa na 0|return false
 let (sa,na):=(sa+k,na-k)
 if na==0 then return true
 let some nb <-dQ true (<-elem' (arrOf s) (sa+na-1)) (arrOf s) sb nb (nb-1)|return false
 if nb==0 then return true
 let x:=(arrOf s).extract sa sb
 let y:=(arrOf s).extract sb (sb+nb)
 let merged <-if na<=nb then ng x y else ni x y
 modify fun s=>setArr s (merged.toList.zipIdx.foldl (fun a (p,j)=>a.setIfInBounds (sa+j) p) (arrOf s))
 return (failedOf (<-get)).isNone):=rfl
section
variable{M:Model}{A:Around}{E:Value->Shared->Prop}{s:Shared}{κ:Keyed->Int}{S:Keyed->Prop}{kd:SortKind}
theorem Aj{σ:Type}{x:σ}{Q:PUnit -> σ -> Prop}{st:σ}(h:Q ⟨⟩ x):wpS M A E s (set x:StateT σ Sem PUnit) Q st:=by
 unfold wpS;rw[StateT.run_set];exact wpAny_pure ⟨rfl,h⟩
theorem mo(o:Nat):∀(l:List Keyed) (k:Nat) (xs:Array Keyed),o+k+l.length<=xs.size->((l.zipIdx k).foldl (fun(a:Array Keyed) (q:Keyed×Nat)=>a.setIfInBounds (o+q.2) q.1) xs).toList=xs.toList.take (o+k)++l++xs.toList.drop (o+k+l.length)
 |[],k,xs,_=>by simp
 |x::l,k,xs,h=>by
  rw[List.length_cons]at h;rw[List.zipIdx_cons,List.foldl_cons,mo o l (k+1) _ (by rw[Array.size_setIfInBounds];omega),Array.toList_setIfInBounds];have hk:o+k<xs.toList.length:=by rw[Array.length_toList];omega
  rw[show o+(k+1)=o+k+1 by omega,List.take_add_one,List.take_set_of_le (Nat.le_refl _),List.getElem?_set_self hk,List.drop_set_of_lt (by omega),List.length_cons,show o+k+1+l.length=o+k+(l.length+1) by omega];simp
theorem Ai(T:dz M A E s kd κ S){st:SortSt}{L1 g1 g2 L2:List Keyed}{i pw pw2:Nat}{Q:Bool->SortSt->Prop}(ek:kindOf st=kd)(hf:failedOf st=none)(ha:(arrOf st).toList=L1++(g1++(g2++L2)))(a1:Asc κ g1)(a2:Asc κ g2)(n1:g1≠[])(n2:g2≠[])(hS:∀x∈g1++g2,S x)
  (p1:(pendingOf st)[i]? = some (L1.length,g1.length,pw)) (p2:(pendingOf st)[i+1]? = some (L1.length+g1.length,g2.length,pw2))
  (h:∀st' g,g.Perm (g1++g2)->Asc κ g->(arrOf st').toList=L1++(g++L2)->kindOf st'=kd->failedOf st'=none->pendingOf st'=((pendingOf st).setIfInBounds i (L1.length,g1.length+g2.length,pw)).eraseIdxIfInBounds (i+1)->Q true st') :
  wpS M A E s (mergeAt' i) Q st:=by
 rw[sM];refine wpS_bind (wpS_get ?_);rw[p1,p2];dsimp only;refine wpS_bind (Aj ?_);have sz:(arrOf st).size=L1.length+(g1.length+(g2.length+L2.length)):=by
  have:=congrArg List.length ha;simpa using this
 have l1:1<=g1.length:=List.length_pos_iff.mpr n1;have l2:1<=g2.length:=List.length_pos_iff.mpr n2;have st1:Stretch κ S (arrOf st) L1.length g1.length g1:=⟨by rw[ha,List.drop_left,List.take_left],rfl,fun x hx=>hS x (by simp[hx]),a1⟩
 have st2:Stretch κ S (arrOf st) (L1.length+g1.length) g2.length g2:=⟨by rw[ha,<-List.drop_drop,List.drop_left,List.drop_left,List.take_left],rfl,fun x hx=>hS x (by simp[hx]),a2⟩
 have hb:=st2.get (i:=0) (by omega);rw[Nat.add_zero]at hb;have Sb0:S g2[0]:=st2.all _ (List.getElem_mem _);have b0:∀z∈g2,κ g2[0] <= κ z:=fun z hz=>by
  obtain⟨j,hj,rfl⟩:=List.mem_iff_getElem.mp hz;rcases Nat.eq_zero_or_pos j with q|q
  ·subst q;exact Int.le_refl _
  ·exact List.pairwise_iff_getElem.mp a2 0 j (by omega) hj q
 have same:∀Z:SortSt,arrOf Z=arrOf st->kindOf Z=kindOf st->failedOf Z=failedOf st->pendingOf Z=((pendingOf st).setIfInBounds i (L1.length,g1.length+g2.length,pw)).eraseIdxIfInBounds (i+1)->(∀x∈g1,∀y∈g2,κ x <= κ y)->Q true Z:=fun Z e1 e2 e3 e4 q=>
  h Z (g1++g2) (List.Perm.refl _) (a1.app a2 q) (by rw[e1,ha,List.append_assoc]) (e2.trans ek) (e3.trans hf) e4
 refine wpS_bind (aX hb ?_);refine wpS_bind (iK T st1 Sb0 ek (by omega) fun u1 u2 eu e1 e2=>?_)
 simp only[Bool.false_eq_true,if_false]at e1 e2;dsimp only;have lu:u1.length+u2.length=g1.length:=by rw[eu,List.length_append]
 by_cases c1:(g1.length-u1.length==0)=true
 ·rw[if_pos c1]
  have:u2=[]:=List.length_eq_zero_iff.mp (by have:g1.length-u1.length=0:=(by simpa using c1);omega);subst this;rw[List.append_nil]at eu;refine wpS_pure (same _ rfl rfl rfl rfl fun x hx y hy=>Int.le_trans (e1 x (eu ▸ hx)) (b0 y hy))
 rw[if_neg c1];have c1:g1.length-u1.length≠0:=by simpa using c1
 have hlast:(arrOf st)[L1.length+u1.length+(g1.length-u1.length)-1]? = some g1[g1.length-1]:=by
  rw[show L1.length+u1.length+(g1.length-u1.length)-1=L1.length+(g1.length-1) by omega];exact st1.get (by omega)
 have gl:∀z∈g1,κ z <= κ g1[g1.length-1]:=fun z hz=>by
  obtain⟨j,hj,rfl⟩:=List.mem_iff_getElem.mp hz;rcases Nat.lt_or_ge j (g1.length-1)with q|q
  ·exact List.pairwise_iff_getElem.mp a1 j _ hj (by omega) q
  ·have:j=g1.length-1:=by omega
   subst this;exact Int.le_refl _
 refine wpS_bind (aX hlast ?_);refine wpS_bind (iK T st2 (st1.all _ (List.getElem_mem _)) ek (by omega) fun v1 v2 ev f1 f2=>?_)
 simp only[if_true]at f1 f2;dsimp only;by_cases c2:(v1.length==0)=true
 ·rw[if_pos c2]
  have:v1=[]:=List.length_eq_zero_iff.mp (by simpa using c2);subst this;rw[List.nil_append]at ev;refine wpS_pure (same _ rfl rfl rfl rfl fun x hx y hy=>Int.le_trans (gl x hx) (f2 y (ev ▸ hy)))
 rw[if_neg c2];have c2:v1.length≠0:=by simpa using c2
 have lv:v1.length+v2.length=g2.length:=by rw[ev,List.length_append]
 have ex:((arrOf st).extract (L1.length+u1.length) (L1.length+g1.length)).toList=u2:=by
  rw[Array.toList_extract,List.extract_eq_drop_take,ha,eu,<-List.drop_drop,List.drop_left,List.append_assoc,List.drop_left,List.length_append,show L1.length+(u1.length+u2.length)-(L1.length+u1.length)=u2.length by omega,List.take_left]
 have ey:((arrOf st).extract (L1.length+g1.length) (L1.length+g1.length+v1.length)).toList=v1:=by
  rw[Array.toList_extract,List.extract_eq_drop_take,ha,<-List.drop_drop,List.drop_left,List.drop_left,ev,List.append_assoc,show L1.length+g1.length+v1.length-(L1.length+g1.length)=v1.length by omega,List.take_left]
 have hm:∀(mg:Array Keyed) (st':SortSt),jr κ ((arrOf st).extract (L1.length+u1.length) (L1.length+g1.length)) ((arrOf st).extract (L1.length+g1.length) (L1.length+g1.length+v1.length)) mg->SameBut (setPending st (((pendingOf st).setIfInBounds i (L1.length,g1.length+g2.length,pw)).eraseIdxIfInBounds (i+1))) st' ->
   wpS M A E s (do
    modify fun s=>setArr s (mg.toList.zipIdx.foldl (fun(a:Array Keyed) (q:Keyed×Nat)=>a.setIfInBounds (L1.length+u1.length+q.2) q.1) (arrOf s))
    return (failedOf (<-get)).isNone) Q st':=fun mg st' gd sm=>by
  obtain⟨gp,ga⟩:=gd;rw[ex,ey]at gp;have ea:arrOf st'=arrOf st:=sm.2.1;have lm:mg.toList.length=u2.length+v1.length:=by rw[gp.length_eq,List.length_append]
  refine wpS_bind (wpS_modify (wpS_bind (wpS_get (wpS_pure ?_))));have fn:failedOf st'=none:=sm.2.2.2.trans hf;show Q (failedOf st').isNone _;rw[fn];refine h _ (u1++mg.toList++v2) ?_ ?_ ?_ (sm.1.trans ek) fn sm.2.2.1
  ·rw[eu,ev]
   have:=((List.Perm.refl u1).append gp).append (List.Perm.refl v2);simpa[List.append_assoc]using this
  ·have mem:∀z,z∈mg.toList->z∈u2\/z∈v1:=fun z hz=>List.mem_append.mp (gp.mem_iff.mp hz)
   have au:=eu ▸ a1;have av:=ev ▸ a2;have v0:∀z∈v1,κ g2[0] <= κ z:=fun z hz=>b0 z (by rw[ev];simp[hz])
   refine(au.left.app ga fun x hx z hz=>?_).app av.right fun x hx z hz=>?_
   ·rcases mem z hz with q|q
    ·exact au.mid x hx z q
    ·exact Int.le_trans (e1 x hx) (v0 z q)
   ·rcases List.mem_append.mp hx with q|q
    ·exact Int.le_trans (gl x (by rw[eu];simp[q])) (f2 z hz)
    ·rcases mem x q with q|q
     ·exact Int.le_trans (gl x (by rw[eu];simp[q])) (f2 z hz)
     ·exact av.mid x q z hz
  ·show(mg.toList.zipIdx.foldl _ (arrOf st')).toList=_
   rw[ea,mo (L1.length+u1.length) mg.toList 0 (arrOf st) (by rw[lm,sz];omega),Nat.add_zero,ha,eu,ev,lm];have t1:(L1++(u1++u2++(v1++v2++L2))).take (L1.length+u1.length)=L1++u1:=by
    rw[show L1++(u1++u2++(v1++v2++L2))=(L1++u1)++(u2++(v1++v2++L2)) by simp[List.append_assoc],<-List.length_append,List.take_left]
   have t2:(L1++(u1++u2++(v1++v2++L2))).drop (L1.length+u1.length+(u2.length+v1.length))=v2++L2:=by
    rw[show L1++(u1++u2++(v1++v2++L2))=(L1++u1++(u2++v1))++(v2++L2) by simp[List.append_assoc],<-List.length_append,<-List.length_append,<-List.length_append,List.drop_left]
   rw[t1,t2];simp[List.append_assoc]
 have ax:Asc κ ((arrOf st).extract (L1.length+u1.length) (L1.length+g1.length)).toList:=by rw[ex];exact(eu ▸ a1).right
 have ay:Asc κ ((arrOf st).extract (L1.length+g1.length) (L1.length+g1.length+v1.length)).toList:=by rw[ey];exact(ev ▸ a2).left
 have SX:∀x∈((arrOf st).extract (L1.length+u1.length) (L1.length+g1.length)).toList,S x:=by rw[ex];exact fun x hx=>hS x (by rw[eu];simp[hx])
 have SY:∀x∈((arrOf st).extract (L1.length+g1.length) (L1.length+g1.length+v1.length)).toList,S x:=by rw[ey];exact fun x hx=>hS x (by rw[ev];simp[hx])
 have nX:1<=((arrOf st).extract (L1.length+u1.length) (L1.length+g1.length)).size:=by rw[<-Array.length_toList,ex];omega
 have nY:1<=((arrOf st).extract (L1.length+g1.length) (L1.length+g1.length+v1.length)).size:=by rw[<-Array.length_toList,ey];omega
 have h0:∀y,((arrOf st).extract (L1.length+g1.length) (L1.length+g1.length+v1.length))[0]? = some y->∀x∈((arrOf st).extract (L1.length+u1.length) (L1.length+g1.length)).toList,κ y <= κ x:=fun y hy x hx=>by
  rw[<-Array.getElem?_toList,ey]at hy;have:g2[0]? = some y:=by rw[ev,List.getElem?_append_left (by omega)];exact hy
  obtain⟨_,e⟩:=List.getElem?_eq_some_iff.mp this;rw[ex]at hx;rw[<-e];exact Int.le_of_lt (e2 x hx)
 have hl:∀x,((arrOf st).extract (L1.length+u1.length) (L1.length+g1.length))[((arrOf st).extract (L1.length+u1.length) (L1.length+g1.length)).size-1]? = some x->∀y∈((arrOf st).extract (L1.length+g1.length) (L1.length+g1.length+v1.length)).toList,κ y <= κ x:=fun x hx y hy=>by
  rw[<-Array.length_toList,<-Array.getElem?_toList,ex]at hx;have:g1[g1.length-1]? = some x:=by
   rw[<-hx];have:g1.length-1=u1.length+(u2.length-1):=by omega
   rw[this]
   conv=>lhs;rw[eu]
   rw[List.getElem?_append_right (by omega),Nat.add_sub_cancel_left]
  obtain⟨_,e⟩:=List.getElem?_eq_some_iff.mp this;rw[ey]at hy;rw[<-e];exact Int.le_of_lt (f1 y hy)
 by_cases c3:g1.length-u1.length<=v1.length
 ·rw[if_pos c3]
  exact wpS_bind (rO T ax ay SX SY nX nY h0 hl ek fun mg st' gd sm=>hm mg st' gd sm)
 ·rw[if_neg c3]
  exact wpS_bind (rP T ax ay SX SY nX nY h0 hl ek fun mg st' gd sm=>hm mg st' gd sm)
end
noncomputable def KA(κ:Keyed->Int)(xs:Array Keyed)(i:Nat):Int:=match xs[i]? with
 |some p=>κ p
 |none=>0
def oJ(κ:Keyed->Int)(xs:Array Keyed)(lo k:Nat):Prop:=∀i j,i<=j->j<k->KA κ xs (lo+i)<=KA κ xs (lo+j)
def kU(κ:Keyed->Int)(xs:Array Keyed)(lo k:Nat):Prop:=∀i j,i<=j->j<k->KA κ xs (lo+j)<=KA κ xs (lo+i)
section
variable{M:Model}{A:Around}{E:Value->Shared->Prop}{s:Shared}{κ:Keyed->Int}{S:Keyed->Prop}{kd:SortKind}
theorem iJ{xs ys:Array Keyed}{i j:Nat}(h:xs[i]? = ys[j]?):KA κ xs i=KA κ ys j:=by unfold KA;rw[h]
theorem qf{xs:Array Keyed}{src d:Nat}(hs:src<xs.size)(hd:d<=src)(k:Nat):
  KA κ (bubble xs src d) k=if k=src-d then KA κ xs src else if src-d<k/\k<=src then KA κ xs (k-1)else KA κ xs k:=by
 have e:=getElem?_bubble hs d hd k;by_cases h1:k=src-d
 ·rw[if_pos h1]at e ⊢;exact iJ e
 ·rw[if_neg h1]at e ⊢
  by_cases h2:src-d<k/\k<=src
  ·rw[if_pos h2]at e ⊢;exact iJ e
  ·rw[if_neg h2]at e ⊢;exact iJ e
theorem kT{xs:Array Keyed}{i j:Nat}(hj:j<=xs.size)(k:Nat):KA κ (mirror xs i j ((j-i)/2)) k=if i<=k/\k<j then KA κ xs (i+j-1-k)else KA κ xs k:=by
 have e:=getElem?_mirror_all (i:=i) hj k;by_cases h1:i<=k/\k<j
 ·rw[if_pos h1]at e ⊢;exact iJ e
 ·rw[if_neg h1]at e ⊢;exact iJ e
theorem cP{xs:Array Keyed}{i j:Nat}(hj:j<=xs.size)(heq:∀k,i<=k->k<j->KA κ xs k=KA κ xs (j-1))(k:Nat):KA κ (mirror xs i j ((j-i)/2)) k=KA κ xs k:=by
 rw[kT hj];split
 ·rw[heq _ (by omega) (by omega),heq k (by omega) (by omega)]
 ·rfl
structure SB (S:Keyed->Prop) (kd:SortKind) (lo:Nat) (st0 st:SortSt):Prop where
 perm:(arrOf st).Perm (arrOf st0)
 pre:∀k,k<lo->(arrOf st)[k]? = (arrOf st0)[k]?
 kind:kindOf st=kd
 failed:failedOf st=none
 pend:pendingOf st=pendingOf st0
 gal:gallopOf st=gallopOf st0
 all:∀x∈(arrOf st0).toList,S x
theorem SB.size{lo:Nat}{st0 st:SortSt}(h:SB S kd lo st0 st):(arrOf st).size=(arrOf st0).size:=h.perm.size_eq
theorem SB.setArr{lo:Nat}{st0 st:SortSt}(h:SB S kd lo st0 st){xs:Array Keyed}(hp:xs.Perm (arrOf st))(hq:∀k,k<lo->xs[k]? = (arrOf st)[k]?):SB S kd lo st0 (setArr st xs):=
 ⟨hp.trans h.perm,fun k hk=>(hq k hk).trans (h.pre k hk),h.kind,h.failed,h.pend,h.gal,h.all⟩
theorem SB.at{lo:Nat}{st0 st:SortSt}(h:SB S kd lo st0 st){i:Nat}(hi:i<(arrOf st0).size):∃x,(arrOf st)[i]? = some x/\S x /\ κ x=KA κ (arrOf st) i:=by
 obtain⟨x,hx⟩:=dY (xs:=arrOf st) (i:=i) (by rw[h.size];exact hi);exact⟨x,hx,h.all x ((Array.perm_iff_toList_perm.mp h.perm).mem_iff.mp (fy hx)),by unfold KA;rw[hx]⟩
theorem ju(T:dz M A E s kd κ S){lo:Nat}{st0 st:SortSt}{i j:Nat}{Q:Option Bool->SortSt->Prop}(hB:SB S kd lo st0 st)(hi:i<(arrOf st0).size)(hj:j<(arrOf st0).size)
  (h:Q (some (decide (KA κ (arrOf st) i<KA κ (arrOf st) j))) st):wpS M A E s (ltAt' i j) Q st:=by
 obtain⟨x,e1,s1,k1⟩:=hB.at (κ:=κ) hi;obtain⟨y,e2,s2,k2⟩:=hB.at (κ:=κ) hj;rw[ltAt'_eq];refine wpS_bind (wpS_get ?_);exact wpS_bind (aX e1 (wpS_bind (aX e2 (T x y s1 s2 st _ hB.kind (by rw[k1,k2];exact h)))))
theorem gM{xs:Array Keyed}{i j lo:Nat}(hj:j<=xs.size)(hi:lo<=i):∀k,k<lo->(mirror xs i j ((j-i)/2))[k]? = xs[k]?:=fun k hk=>by
 rw[getElem?_mirror_all hj,if_neg (by omega)]
theorem uS{xs:Array Keyed}{src d lo:Nat}(hs:src<xs.size)(hd:d<=src)(hl:lo<=src-d):∀k,k<lo->(bubble xs src d)[k]? = xs[k]?:=fun k hk=>by
 rw[getElem?_bubble hs d hd,if_neg (by omega),if_neg (by omega)]
theorem Al(T:dz M A E s kd κ S){lo:Nat}{st0 st:SortSt}{n ok:Nat}{Q:Bool->SortSt->Prop}(hn:lo+n<=(arrOf st0).size)(hok:ok<=n)(hB:SB S kd lo st0 st)(hs:oJ κ (arrOf st) lo ok)
  (h:∀st',SB S kd lo st0 st'->oJ κ (arrOf st') lo n->Q true st'):wpS M A E s (binarySort' lo n ok) Q st:=by
 rw[binarySort'_eq];refine wpS_bind (wpS_mono (wpS_forRange (I:=fun k c st'=>c=(none,())/\SB S kd lo st0 st'/\oJ κ (arrOf st') lo (min k n))
  (Q:=fun c st'=>c=(none,())/\SB S kd lo st0 st'/\oJ κ (arrOf st') lo n) ?step ?fin ?init) ?post)
 case post=>
  rintro c st' ⟨rfl,hB',hs'⟩;exact wpS_pure (h st' hB' hs')
 case init=>
  refine⟨rfl,hB,fun i j hij hj=>?_⟩
  by_cases h1:ok=0
  ·have:i=j:=by omega
   subst this;exact Int.le_refl _
  ·exact hs i j hij (by omega)
 case fin=>
  rintro c st' ⟨hc,hB',hs'⟩;refine⟨hc,hB',?_⟩
  rwa [show min (max (max ok 1) n) n=n by omega]at hs'
 case step=>
  rintro k c st' hak hkn ⟨rfl,hB',hs'⟩;rw[show min k n=k by omega]at hs';have hk:lo+k<(arrOf st0).size:=by omega
  refine wpS_bind (wpS_mono (wpS_forRange (I:=fun x c st''=>st''=st'/\∃l r,c=(none,l,r)/\l<=r/\r<=k/\r-l<=k-x /\
    (∀i,i<l->KA κ (arrOf st') (lo+i)<=KA κ (arrOf st') (lo+k))/\(∀i,r<=i->i<k->KA κ (arrOf st') (lo+k)<KA κ (arrOf st') (lo+i)))
   (Q:=fun c st''=>st''=st'/\∃l r,c=(none,l,r)/\l<=k /\
    (∀i,i<l->KA κ (arrOf st') (lo+i)<=KA κ (arrOf st') (lo+k))/\(∀i,l<=i->i<k->KA κ (arrOf st') (lo+k)<KA κ (arrOf st') (lo+i))) ?istep ?ifin ?iinit) ?ipost)
  case iinit=>exact⟨rfl,0,k,rfl,by omega,by omega,by omega,fun i hi=>by omega,fun i h1 h2=>by omega⟩
  case ifin=>
   rintro c st'' ⟨rfl,l,r,rfl,hlr,hrk,hm,hlo,hhi⟩;have:l=r:=by omega
   subst this;exact⟨rfl,l,l,rfl,hrk,hlo,hhi⟩
  case istep=>
   rintro x c st'' _ hxk ⟨rfl,l,r,rfl,hlr,hrk,hm,hlo,hhi⟩;dsimp only;by_cases hge:l>=r
   ·rw[if_pos hge]
    have:l=r:=by omega
    subst this;exact wpS_pure ⟨rfl,l,l,rfl,hrk,hlo,hhi⟩
   ·rw[if_neg hge]
    refine wpS_bind (ju T hB' hk (by omega) ?_);by_cases hless:KA κ (arrOf st'') (lo+k)<KA κ (arrOf st'') (lo+(l+r)/2)
    ·simp only[hless,decide_true,if_true]
     refine wpS_pure ⟨rfl,l,(l+r)/2,rfl,by omega,by omega,by omega,hlo,fun i h1 h2=>?_⟩
     exact Int.lt_of_lt_of_le hless (hs' _ _ h1 h2)
    ·simp only[hless,decide_false,Bool.false_eq_true,if_false]
     refine wpS_pure ⟨rfl,(l+r)/2+1,r,rfl,by omega,by omega,by omega,fun i h1=>?_,hhi⟩
     exact Int.le_trans (hs' i ((l+r)/2) (by omega) (by omega)) (Int.not_lt.mp hless)
  case ipost=>
   rintro c st'' ⟨rfl,l,r,rfl,hlk,hlo,hhi⟩;show wpS _ _ _ _ (do moveDown' (lo+k) (lo+l);pure (ForInStep.yield (none,()))) _ _;rw[moveDown'_eq];have hks:lo+k<(arrOf st'').size:=by rw[hB'.size];exact hk
   refine wpS_bind (wpS_modify (wpS_pure ⟨rfl,hB'.setArr (bubble_perm _ _ _) (uS hks (by omega) (by omega)),?_⟩));rw[show min (k+1) n=k+1 by omega];intro i j hij hj;show KA κ (bubble (arrOf st'') (lo+k) (lo+k-(lo+l))) (lo+i)<=KA κ (bubble (arrOf st'') (lo+k) (lo+k-(lo+l))) (lo+j);rw[qf hks (by omega),qf hks (by omega),show lo+k-(lo+k-(lo+l))=lo+l by omega];have r1:∀i,l<i->lo+i-1=lo+(i-1):=fun i hi=>by omega
   repeat' split
   all_goals first
    | (exfalso;omega)
    |exact Int.le_refl _
    |exact hlo _ (by omega)
    | (rw[r1 _ (by omega)];exact Int.le_of_lt (hhi _ (by omega) (by omega)))
    | (rw[r1 _ (by omega),r1 _ (by omega)];exact hs' _ _ (by omega) (by omega))
    | (rw[r1 _ (by omega)];exact hs' _ _ (by omega) (by omega))
    |exact hs' _ _ (by omega) (by omega)
end
noncomputable def ascL(lo a nrem:Nat):StateT SortSt Sem AscSt:=
 forIn [a:nrem] ((none,a):AscSt) fun _ c=>do
  let x <-ltAt' (lo+c.snd) (lo+c.snd-1)
  match x with
  |some smaller=>if smaller=true then pure (ForInStep.done (none,c.snd))else pure (ForInStep.yield (none,c.snd+1))
  |_=>pure (ForInStep.done (some none,c.snd))
noncomputable def mz(lo n nrem:Nat):StateT SortSt Sem (Option Nat):=do
 reverseSlice' lo (lo+n)
 let c <-ascL lo n nrem
 match c.fst with
 |some r=>pure r
 |none=>pure (some c.snd)
noncomputable def vR(lo n nrem:Nat):StateT SortSt Sem DescSt:=
 forIn [n:nrem] ((none,n,0):DescSt) fun _ c=>do
  let x <-ltAt' (lo+c.snd.fst) (lo+c.snd.fst-1)
  match x with
  |some smaller=>
   if smaller=true then
    if c.snd.snd>0 then do
     reverseSlice' (lo+c.snd.fst-(c.snd.snd+1)) (lo+c.snd.fst)
     pure (ForInStep.yield (none,c.snd.fst+1,0))
    else pure (ForInStep.yield (none,c.snd.fst+1,0))
   else do
    let x <-ltAt' (lo+c.snd.fst-1) (lo+c.snd.fst)
    match x with
    |some larger=>
     if larger=true then pure (ForInStep.done (none,c.snd.fst,c.snd.snd))
     else pure (ForInStep.yield (none,c.snd.fst+1,c.snd.snd+1))
    |_=>pure (ForInStep.done (some none,c.snd.fst,c.snd.snd))
  |_=>pure (ForInStep.done (some none,c.snd.fst,c.snd.snd))
noncomputable def gu(lo n nrem:Nat):StateT SortSt Sem (Option Nat):=do
 liftM (rule "list.sort.descending-run")
 let c <-vR lo (n+1) nrem
 match c.fst with
 |some r=>pure r
 |none=>
  if c.snd.snd>0 then do
   reverseSlice' (lo+c.snd.fst-(c.snd.snd+1)) (lo+c.snd.fst)
   mz lo c.snd.fst nrem
  else mz lo c.snd.fst nrem
theorem rj(lo nrem:Nat):countRun' lo nrem=(do
  let c <-ascL lo 1 nrem
  match c.fst with
  |some r=>pure r
  |none=>
   if(c.snd==nrem)=true then pure (some c.snd)
   else if c.snd>1 then do
    let x <-ltAt' lo (lo+c.snd-1)
    match x with
    |some rose=>if rose=true then pure (some c.snd)else do
      reverseSlice' lo (lo+c.snd)
      gu lo c.snd nrem
    |_=>pure none
   else gu lo c.snd nrem):=by
 rw[countRun'_eq];unfold gu mz vR ascL;dsimp only;congr 1;funext c;obtain⟨r,n⟩:=c;cases r with
 |some r=>rfl
 |none=>
  dsimp only;split
  ·rfl
  ·split
   ·congr 1
    funext x;cases x with
    |none=>rfl
    |some rose=>
     dsimp only;split
     ·rfl
     ·congr 1
      funext u0;congr 1;funext u1;congr 1;congr 1;funext c2;obtain⟨r2,n2,q2⟩:=c2;cases r2 with
      |some r2=>rfl
      |none=>
       dsimp only;split
       ·congr 1
        funext u2;congr 1;funext u3;congr 1;funext c3;obtain⟨r3,n3⟩:=c3;cases r3<;>rfl
       ·congr 1
        funext u3;congr 1;funext c3;obtain⟨r3,n3⟩:=c3;cases r3<;>rfl
   ·congr 1
    funext u1;congr 1;congr 1;funext c2;obtain⟨r2,n2,q2⟩:=c2;cases r2 with
    |some r2=>rfl
    |none=>
     dsimp only;split
     ·congr 1
      funext u2;congr 1;funext u3;congr 1;funext c3;obtain⟨r3,n3⟩:=c3;cases r3<;>rfl
     ·congr 1
      funext u3;congr 1;funext c3;obtain⟨r3,n3⟩:=c3;cases r3<;>rfl
section
variable{M:Model}{A:Around}{E:Value->Shared->Prop}{s:Shared}{κ:Keyed->Int}{S:Keyed->Prop}{kd:SortKind}{lo:Nat}{st0 st:SortSt}
theorem lR{i j:Nat}{Q:Unit->SortSt->Prop}(h:Q () (setArr st (mirror (arrOf st) i j ((j-i)/2)))):wpS M A E s (reverseSlice' i j) Q st:=by
 rw[reverseSlice'_eq];exact wpS_modify h
theorem rQ(T:dz M A E s kd κ S){a nrem:Nat}{Q:AscSt->SortSt->Prop}(hn:lo+nrem<=(arrOf st0).size)(ha:1<=a)(han:a<=nrem)(hB:SB S kd lo st0 st)(hs:oJ κ (arrOf st) lo a)
  (h:∀n,a<=n->n<=nrem->oJ κ (arrOf st) lo n->(n=nrem\/KA κ (arrOf st) (lo+n)<KA κ (arrOf st) (lo+n-1))->Q (none,n) st):wpS M A E s (ascL lo a nrem) Q st:=by
 unfold ascL;refine wpS_forRange (I:=fun x c st'=>st'=st/\c=(none,x)/\oJ κ (arrOf st) lo x) ?step ?fin ⟨rfl,rfl,hs⟩
 case fin=>
  rintro c st' ⟨rfl,rfl,hs'⟩;rw[show max a nrem=nrem by omega]at hs' ⊢;exact h nrem han (Nat.le_refl _) hs' (.inl rfl)
 case step=>
  rintro x c st' hax hxn ⟨rfl,rfl,hs'⟩;dsimp only;refine wpS_bind (ju T hB (by omega) (by omega) ?_);by_cases hless:KA κ (arrOf st') (lo+x)<KA κ (arrOf st') (lo+x-1)
  ·simp only[hless,decide_true,if_true]
   exact wpS_pure (h x hax (by omega) hs' (.inr hless))
  ·simp only[hless,decide_false,Bool.false_eq_true,if_false]
   refine wpS_pure ⟨rfl,rfl,fun i j hij hj=>?_⟩
   by_cases hjx:j<x
   ·exact hs' i j hij hjx
   ·have hj':j=x:=by omega
    subst hj';by_cases hi':i=j
    ·subst hi';exact Int.le_refl _
    ·rw[show lo+j-1=lo+(j-1) by omega]at hless
     exact Int.le_trans (hs' i (j-1) (by omega) (by omega)) (Int.not_lt.mp hless)
theorem mq(T:dz M A E s kd κ S){n nrem:Nat}{Q:Option Nat->SortSt->Prop}(hn:lo+nrem<=(arrOf st0).size)(h1:1<=n)(hnn:n<=nrem)(hB:SB S kd lo st0 st)(hs:kU κ (arrOf st) lo n)
  (h:∀m st',SB S kd lo st0 st'->1<=m->m<=nrem->oJ κ (arrOf st') lo m->Q (some m) st'):wpS M A E s (mz lo n nrem) Q st:=by
 unfold mz;have hsz:lo+n<=(arrOf st).size:=by rw[hB.size];omega
 refine wpS_bind (lR ?_);have hB':SB S kd lo st0 (setArr st (mirror (arrOf st) lo (lo+n) ((lo+n-lo)/2))):=hB.setArr (mirror_perm _ _ _ _) (gM hsz (Nat.le_refl _));refine wpS_bind (rQ T hn h1 hnn hB' ?_ fun m hm1 hm2 hsm _=>wpS_pure (h m _ hB' (by omega) hm2 hsm))
 intro i j hij hj;show KA κ (mirror (arrOf st) lo (lo+n) ((lo+n-lo)/2)) (lo+i)<=KA κ (mirror (arrOf st) lo (lo+n) ((lo+n-lo)/2)) (lo+j);rw[kT hsz,kT hsz,if_pos (by omega),if_pos (by omega),show lo+(lo+n)-1-(lo+i)=lo+(n-1-i) by omega,show lo+(lo+n)-1-(lo+j)=lo+(n-1-j) by omega];exact hs _ _ (by omega) (by omega)
theorem v6(T:dz M A E s kd κ S){n nrem:Nat}{Q:DescSt->SortSt->Prop}(hn:lo+nrem<=(arrOf st0).size)(h1:1<=n)(hnn:n<=nrem)(hB:SB S kd lo st0 st)(hs:kU κ (arrOf st) lo n)
  (h:∀m neq st',SB S kd lo st0 st'->n<=m->m<=nrem->kU κ (arrOf st') lo m->neq+1<=m->(∀i,lo+m-(neq+1)<=i->i<lo+m->KA κ (arrOf st') i=KA κ (arrOf st') (lo+m-1))->Q (none,m,neq) st'):wpS M A E s (vR lo n nrem) Q st:=by
 unfold vR;refine wpS_forRange (I:=fun x c st'=>∃neq,c=(none,x,neq)/\SB S kd lo st0 st'/\kU κ (arrOf st') lo x/\neq+1<=x /\
   (∀i,lo+x-(neq+1)<=i->i<lo+x->KA κ (arrOf st') i=KA κ (arrOf st') (lo+x-1))) ?step ?fin ⟨0,rfl,hB,hs,by omega,fun i h1 h2=>by congr 1;omega⟩
 case fin=>
  rintro c st' ⟨neq,rfl,hB',hs',hq,he⟩;rw[show max n nrem=nrem by omega]at hs' hq he ⊢;exact h nrem neq st' hB' hnn (Nat.le_refl _) hs' hq he
 case step=>
  rintro x c st' hax hxn ⟨neq,rfl,hB',hs',hq,he⟩;dsimp only;have hsz:lo+x<=(arrOf st').size:=by rw[hB'.size];omega
  have e1:lo+x-1=lo+(x-1):=by omega
  refine wpS_bind (ju T hB' (by omega) (by omega) ?_);by_cases hless:KA κ (arrOf st') (lo+x)<KA κ (arrOf st') (lo+x-1)
  ·simp only[hless,decide_true,if_true]
   have step1:∀xs:Array Keyed,(∀k,KA κ xs k=KA κ (arrOf st') k)->kU κ xs lo (x+1):=by
    intro xs hk i j hij hj;rw[hk,hk];by_cases hjx:j<x
    ·exact hs' i j hij hjx
    ·have hj':j=x:=by omega
     subst hj';by_cases hi':i=j
     ·subst hi';exact Int.le_refl _
     ·rw[e1]at hless
      exact Int.le_trans (Int.le_of_lt hless) (hs' i (j-1) (by omega) (by omega))
   by_cases hneq:neq>0
   ·rw[if_pos hneq]
    refine wpS_bind (lR (wpS_pure ⟨0,rfl,hB'.setArr (mirror_perm _ _ _ _) (gM hsz (by omega)),step1 _ (cP hsz he),by omega,fun i h1 h2=>by congr 1;omega⟩))
   ·rw[if_neg hneq]
    exact wpS_pure ⟨0,rfl,hB',step1 _ (fun _=>rfl),by omega,fun i h1 h2=>by congr 1;omega⟩
  ·simp only[hless,decide_false,Bool.false_eq_true,if_false]
   refine wpS_bind (ju T hB' (by omega) (by omega) ?_);by_cases hlarger:KA κ (arrOf st') (lo+x-1)<KA κ (arrOf st') (lo+x)
   ·simp only[hlarger,decide_true,if_true]
    exact wpS_pure (h x neq st' hB' hax (by omega) hs' hq he)
   ·simp only[hlarger,decide_false,Bool.false_eq_true,if_false]
    have heqx:KA κ (arrOf st') (lo+x)=KA κ (arrOf st') (lo+x-1):=by omega
    refine wpS_pure ⟨neq+1,rfl,hB',fun i j hij hj=>?_,by omega,fun i h1 h2=>?_⟩
    ·by_cases hjx:j<x
     ·exact hs' i j hij hjx
     ·have hj':j=x:=by omega
      subst hj';by_cases hi':i=j
      ·subst hi';exact Int.le_refl _
      ·rw[heqx,e1];exact hs' i (j-1) (by omega) (by omega)
    ·rw[show lo+(x+1)-1=lo+x by omega]
     by_cases hix:i=lo+x
     ·subst hix;rfl
     ·rw[heqx];exact he i (by omega) (by omega)
theorem iU(T:dz M A E s kd κ S){n nrem:Nat}{Q:Option Nat->SortSt->Prop}(hn:lo+nrem<=(arrOf st0).size)(hnn:n+1<=nrem)(hB:SB S kd lo st0 st)(hs:kU κ (arrOf st) lo (n+1))
  (h:∀m st',SB S kd lo st0 st'->1<=m->m<=nrem->oJ κ (arrOf st') lo m->Q (some m) st'):wpS M A E s (gu lo n nrem) Q st:=by
 unfold gu;refine wpS_bind (wpS_lift (wpAny_rule ⟨rfl,?_⟩));refine wpS_bind (v6 T hn (by omega) hnn hB hs fun m neq st' hB' hm1 hm2 hs' hq he=>?_)
 dsimp only;have hsz:lo+m<=(arrOf st').size:=by rw[hB'.size];omega
 by_cases hneq:neq>0
 ·rw[if_pos hneq]
  refine wpS_bind (lR (mq T hn (by omega) hm2 (hB'.setArr (mirror_perm _ _ _ _) (gM hsz (by omega))) ?_ h));intro i j hij hj;show KA κ (mirror (arrOf st') _ _ _) (lo+j)<=KA κ (mirror (arrOf st') _ _ _) (lo+i);rw[cP hsz he,cP hsz he];exact hs' i j hij hj
 ·rw[if_neg hneq]
  exact mq T hn (by omega) hm2 hB' hs' h
theorem Ak(T:dz M A E s kd κ S){nrem:Nat}{Q:Option Nat->SortSt->Prop}(hn:lo+nrem<=(arrOf st0).size)(h1:1<=nrem)(hB:SB S kd lo st0 st)
  (h:∀m st',SB S kd lo st0 st'->1<=m->m<=nrem->oJ κ (arrOf st') lo m->Q (some m) st'):wpS M A E s (countRun' lo nrem) Q st:=by
 rw[rj];refine wpS_bind (rQ T hn (Nat.le_refl 1) h1 hB (fun i j hij hj=>by rw[show i=j by omega];exact Int.le_refl _) fun n hn1 hn2 hsn hor=>?_)
 dsimp only;by_cases hnn:n=nrem
 ·rw[if_pos (by simpa using hnn)]
  exact wpS_pure (h n st hB hn1 hn2 hsn)
 ·rw[if_neg (by simpa using hnn)]
  have hlt:KA κ (arrOf st) (lo+n)<KA κ (arrOf st) (lo+(n-1)):=by
   have:=hor.resolve_left hnn
   rwa [show lo+n-1=lo+(n-1) by omega]at this
  by_cases hgt:n>1
  ·rw[if_pos hgt]
   refine wpS_bind (ju T hB (by omega) (by omega) ?_);by_cases hrose:KA κ (arrOf st) lo<KA κ (arrOf st) (lo+n-1)
   ·simp only[hrose,decide_true,if_true]
    exact wpS_pure (h n st hB hn1 hn2 hsn)
   ·simp only[hrose,decide_false,Bool.false_eq_true,if_false]
    have hsz:lo+n<=(arrOf st).size:=by rw[hB.size];omega
    have hall:∀k,k<n->KA κ (arrOf st) (lo+k)=KA κ (arrOf st) (lo+n-1):=by
     intro k hk;have a1:=hsn 0 k (by omega) hk;have a2:=hsn k (n-1) (by omega) (by omega);rw[Nat.add_zero]at a1;rw[show lo+n-1=lo+(n-1) by omega]at hrose ⊢;omega
    have hall':∀k,lo<=k->k<lo+n->KA κ (arrOf st) k=KA κ (arrOf st) (lo+n-1):=fun k k1 k2=>by
     have:=hall (k-lo) (by omega)
     rwa [show lo+(k-lo)=k by omega]at this
    refine wpS_bind (lR (iU T hn (by omega) (hB.setArr (mirror_perm _ _ _ _) (gM hsz (Nat.le_refl _))) ?_ h));intro i j hij hj;show KA κ (mirror (arrOf st) _ _ _) (lo+j)<=KA κ (mirror (arrOf st) _ _ _) (lo+i);rw[cP hsz hall',cP hsz hall'];by_cases hjn:j<n
    ·rw[hall i (by omega),hall j hjn];exact Int.le_refl _
    ·have hj':j=n:=by omega
     subst hj';by_cases hi':i=j
     ·subst hi';exact Int.le_refl _
     ·rw[hall i (by omega),show lo+j-1=lo+(j-1) by omega];exact Int.le_of_lt hlt
  ·rw[if_neg hgt]
   have hn1':n=1:=by omega
   subst hn1';refine iU T hn (by omega) hB ?_ h;intro i j hij hj;by_cases hi':i=j
   ·subst hi';exact Int.le_refl _
   ·have hi0:i=0:=by omega
    have hj1:j=1:=by omega
    subst hi0;subst hj1;exact Int.le_of_lt hlt
end
noncomputable def kt:Nat->List (List Keyed)->List (Nat×Nat)
 |_,[]=>[]
 |o,g::gs=>(o,g.length)::kt (o+g.length) gs
theorem jx:∀(A B:List (List Keyed)) (o:Nat),kt o (A++B)=kt o A++kt (o+A.flatten.length) B
 |[],B,o=>by simp[kt]
 |g::A,B,o=>by
  rw[List.cons_append,kt,kt,jx A B,List.flatten_cons,List.length_append,Nat.add_assoc];rfl
theorem mx:∀(A:List (List Keyed)) (o:Nat),(kt o A).length=A.length
 |[],_=>rfl
 |g::A,o=>by rw[kt,List.length_cons,List.length_cons,mx A]
section
variable{M:Model}{A:Around}{E:Value->Shared->Prop}{s:Shared}{κ:Keyed->Int}{S:Keyed->Prop}{kd:SortKind}{all:List Keyed}
structure RS (κ:Keyed->Int) (S:Keyed->Prop) (kd:SortKind) (all:List Keyed) (st:SortSt) (segs:List (List Keyed)) (rest:List Keyed):Prop where
 arr:(arrOf st).toList=segs.flatten++rest
 tl:(pendingOf st).toList.map (fun e=>(e.1,e.2.1))=kt 0 segs
 asc:∀g∈segs,Asc κ g
 ne:∀g∈segs,g≠[]
 kind:kindOf st=kd
 failed:failedOf st=none
 perm:(arrOf st).toList.Perm all
 sall:∀x∈all,S x
theorem RS.size{st:SortSt}{segs:List (List Keyed)}{rest:List Keyed}(h:RS κ S kd all st segs rest):(pendingOf st).size=segs.length:=by
 have:=congrArg List.length h.tl;rw[List.length_map,Array.length_toList,mx]at this;exact this
theorem FD{α:Type}{l:List α}{i:Nat}(h:i+1<l.length):∃A x y B,l=A++x::y::B/\A.length=i:=
 ⟨l.take i,l[i],l[i+1],l.drop (i+2),by
  conv=>lhs;rw[<-List.take_append_drop i l]
  rw[List.drop_eq_getElem_cons (by omega),List.drop_eq_getElem_cons h],by rw[List.length_take];omega⟩
theorem mr(T:dz M A E s kd κ S){st:SortSt}{segs:List (List Keyed)}{rest:List Keyed}{i:Nat}{Q:Bool->SortSt->Prop}(h:RS κ S kd all st segs rest)(hi:i+1<segs.length)
  (q:∀st' segs',RS κ S kd all st' segs' rest->segs'.length+1=segs.length->segs'.flatten.length=segs.flatten.length->Q true st'):wpS M A E s (mergeAt' i) Q st:=by
 obtain⟨S1,g1,g2,S2,rfl,e⟩:=FD hi;have ha:(arrOf st).toList=S1.flatten++(g1++(g2++(S2.flatten++rest))):=by rw[h.arr];simp[List.append_assoc]
 have ht:=h.tl;rw[jx]at ht;simp only[kt,Nat.zero_add]at ht;obtain⟨P1,P2,ep,e1,e2⟩:=List.map_eq_append_iff.mp ht;obtain⟨⟨a1,a2,pw⟩,P3,rfl,f1,e3⟩:=List.map_eq_cons_iff.mp e2;obtain⟨⟨b1,b2,pw2⟩,P4,rfl,f2,e4⟩:=List.map_eq_cons_iff.mp e3;simp only[Prod.mk.injEq]at f1 f2;obtain⟨rfl,rfl⟩:=f1;obtain⟨rfl,rfl⟩:=f2;have lP:P1.length=i:=by
  have:=congrArg List.length e1;rw[List.length_map,mx]at this;omega
 have p1:(pendingOf st)[i]? = some (S1.flatten.length,g1.length,pw):=by
  rw[<-Array.getElem?_toList,ep,List.getElem?_append_right (by omega),lP,Nat.sub_self];rfl
 have p2:(pendingOf st)[i+1]? = some (S1.flatten.length+g1.length,g2.length,pw2):=by
  rw[<-Array.getElem?_toList,ep,List.getElem?_append_right (by omega),lP,show i+1-i=1 by omega];rfl
 refine Ai T h.kind h.failed ha (h.asc _ (by simp)) (h.asc _ (by simp)) (h.ne _ (by simp)) (h.ne _ (by simp)) (fun x hx=>h.sall x (h.perm.mem_iff.mp (by rw[ha];simp at hx ⊢;rcases hx with hx|hx<;>simp[hx]))) p1 p2 fun st' g gp ga ea ek ef epd=>?_
 have lg:g.length=g1.length+g2.length:=by rw[gp.length_eq,List.length_append]
 refine q st' (S1++g::S2) ⟨by rw[ea];simp[List.append_assoc],?_,fun x hx=>?_,fun x hx=>?_,ek,ef,?_,h.sall⟩ (by simp;omega) (by simp[lg];omega)
 ·rw[epd,Array.toList_eraseIdxIfInBounds,Array.toList_setIfInBounds,ep,<-lP]
  have t1:(P1++(S1.flatten.length,g1.length,pw)::(S1.flatten.length+g1.length,g2.length,pw2)::P4).set P1.length (S1.flatten.length,g1.length+g2.length,pw)=P1++(S1.flatten.length,g1.length+g2.length,pw)::(S1.flatten.length+g1.length,g2.length,pw2)::P4:=by simp
  rw[t1];have t2:(P1++(S1.flatten.length,g1.length+g2.length,pw)::(S1.flatten.length+g1.length,g2.length,pw2)::P4).eraseIdx (P1.length+1)=P1++(S1.flatten.length,g1.length+g2.length,pw)::P4:=by
   rw[List.eraseIdx_append_of_length_le (by omega),show P1.length+1-P1.length=1 by omega];rfl
  rw[t2,List.map_append,e1,List.map_cons,e4,jx,kt,lg,Nat.zero_add,Nat.add_assoc]
 ·rcases List.mem_append.mp hx with hx|hx
  ·exact h.asc x (by simp[hx])
  ·rcases List.mem_cons.mp hx with rfl|hx
   ·exact ga
   ·exact h.asc x (by simp[hx])
 ·rcases List.mem_append.mp hx with hx|hx
  ·exact h.ne x (by simp[hx])
  ·rcases List.mem_cons.mp hx with rfl|hx
   ·have:=h.ne g1 (by simp)
    intro z;subst z;have:=List.length_pos_iff.mpr this;simp at lg;omega
   ·exact h.ne x (by simp[hx])
 ·have hp:=h.perm
  rw[ha]at hp;rw[ea];refine List.Perm.trans ((List.Perm.refl S1.flatten).append ?_) hp;rw[<-List.append_assoc g1];exact gp.append_right _
end
section
variable{M:Model}{A:Around}{E:Value->Shared->Prop}{s:Shared}{κ:Keyed->Int}{S:Keyed->Prop}{kd:SortKind}{all:List Keyed}
theorem vf{st0 st:SortSt}{segs:List (List Keyed)}{rest:List Keyed}{n:Nat}(h:RS κ S kd all st0 segs rest)(hB:SB S kd segs.flatten.length st0 st)(hu:oJ κ (arrOf st) segs.flatten.length n)(hn:segs.flatten.length+n<=(arrOf st0).size):
  ∃rest',RS κ S kd all st segs rest'/\Asc κ (rest'.take n)/\rest'.length=rest.length:=by
 have hp:(arrOf st).toList.Perm (arrOf st0).toList:=Array.perm_iff_toList_perm.mp hB.perm;have pre0:∀lo,(∀k,k<lo->(arrOf st)[k]? = (arrOf st0)[k]?)->(arrOf st).toList.take lo=(arrOf st0).toList.take lo:=fun lo hq=>by
  apply List.ext_getElem?;intro k;by_cases hk:k<lo
  ·rw[List.getElem?_take_of_lt hk,List.getElem?_take_of_lt hk,Array.getElem?_toList,Array.getElem?_toList]
   exact hq k hk
  ·rw[List.getElem?_eq_none (by rw[List.length_take];omega),List.getElem?_eq_none (by rw[List.length_take];omega)]
 have pre:(arrOf st).toList.take segs.flatten.length=segs.flatten:=by rw[pre0 _ hB.pre,h.arr,List.take_left]
 have arr:(arrOf st).toList=segs.flatten++(arrOf st).toList.drop segs.flatten.length:=by
  conv=>lhs;rw[<-List.take_append_drop segs.flatten.length (arrOf st).toList,pre]
 have pm:=hp;rw[arr,h.arr]at pm;have pr:=(List.perm_append_left_iff _).mp pm;refine⟨_,⟨arr,by rw[hB.pend];exact h.tl,h.asc,h.ne,hB.kind,hB.failed,hp.trans h.perm,h.sall⟩,?_,pr.length_eq⟩;have get:∀i,i<n->((arrOf st).toList.drop segs.flatten.length)[i]? = (arrOf st)[segs.flatten.length+i]?:=fun i _=>by rw[List.getElem?_drop,Array.getElem?_toList]
 refine List.pairwise_iff_getElem.mpr fun i j hi hj hij=>?_
 rw[List.length_take]at hi hj;have:=hu i j (by omega) (by omega);unfold KA at this;rw[<-get i (by omega),<-get j (by omega),List.getElem?_eq_getElem (by omega),List.getElem?_eq_getElem (by omega)]at this;rw[List.getElem_take,List.getElem_take];exact this
theorem RS.push{st:SortSt}{segs:List (List Keyed)}{rest:List Keyed}{n pw:Nat}(h:RS κ S kd all st segs rest)(ha:Asc κ (rest.take n))(h1:1<=n)(hn:n<=rest.length):
  RS κ S kd all (setPending st ((pendingOf st).push (segs.flatten.length,n,pw))) (segs++[rest.take n]) (rest.drop n):=by
 have ln:(rest.take n).length=n:=by rw[List.length_take];omega
 refine⟨?_,?_,fun g hg=>?_,fun g hg=>?_,h.kind,h.failed,h.perm,h.sall⟩
 ·rw[List.flatten_append,List.append_assoc]
  simp only[List.flatten_cons,List.flatten_nil,List.append_nil];rw[List.take_append_drop];exact h.arr
 ·show((pendingOf st).push _).toList.map _=_
  rw[Array.toList_push,List.map_append,h.tl,jx];simp[kt,ln]
 ·rcases List.mem_append.mp hg with hg|hg
  ·exact h.asc g hg
  ·rw[List.mem_singleton.mp hg];exact ha
 ·rcases List.mem_append.mp hg with hg|hg
  ·exact h.ne g hg
  ·rw[List.mem_singleton.mp hg]
   intro z;rw[z]at ln;simp at ln;omega
theorem RS.pow{st:SortSt}{segs:List (List Keyed)}{rest:List Keyed}{pw i:Nat}(h:RS κ S kd all st segs rest):RS κ S kd all (setPending st ((pendingOf st).modify i fun x=>(x.1,x.2.1,pw))) segs rest:=by
 refine⟨h.arr,?_,h.asc,h.ne,h.kind,h.failed,h.perm,h.sall⟩;rw[<-h.tl];show((pendingOf st).modify i _).toList.map _=_;rw[Array.toList_modify];apply List.ext_getElem?;intro k;rw[List.getElem?_map,List.getElem?_map,List.getElem?_modify];cases(pendingOf st).toList[k]? with
 |none=>rfl
 |some x=>
  by_cases e:i=k
  ·simp[e]
  ·simp[e]
noncomputable def pW(size pw:Nat):StateT SortSt Sem (Option Unit×Unit):=
 forIn [0:size] ((none,()):Option Unit×Unit) fun _ _=>do
  let d <-get
  match if(pendingOf d).size>1 then(pendingOf d)[(pendingOf d).size-2]? else none with
  |some (_,_,older)=>
   if older<=pw then pure (ForInStep.done (none,()))
   else do
    let ok <-mergeAt' ((pendingOf d).size-2)
    if(!ok)=true then pure (ForInStep.done (some (),()))else pure (ForInStep.yield (none,()))
  |_=>pure (ForInStep.done (none,()))
theorem jS(T:dz M A E s kd κ S){st:SortSt}{segs:List (List Keyed)}{rest:List Keyed}{size pw:Nat}(r:RS κ S kd all st segs rest):
  wpS M A E s (pW size pw) (fun c st'=>c=(none,())/\∃segs',RS κ S kd all st' segs' rest/\segs'.flatten.length=segs.flatten.length) st:=by
 unfold pW;refine wpS_forRange (I:=fun _ c st'=>c=(none,())/\∃segs',RS κ S kd all st' segs' rest/\segs'.flatten.length=segs.flatten.length) ?step (fun _ _ h=>h) ⟨rfl,segs,r,rfl⟩
 rintro t c st' _ _ ⟨rfl,segs',r',e'⟩;refine wpS_bind (wpS_get ?_);have hs:=r'.size;by_cases c1:(pendingOf st').size>1
 ·rw[if_pos c1,Array.getElem?_eq_getElem (by omega)]
  dsimp only;split
  ·exact wpS_pure ⟨rfl,segs',r',e'⟩
  ·refine wpS_bind (mr T r' (by omega) fun st2 segs2 r2 _ e2=>?_)
   simp only[Bool.not_true,Bool.false_eq_true,if_false];exact wpS_pure ⟨rfl,segs2,r2,e2.trans e'⟩
 ·rw[if_neg c1]
  exact wpS_pure ⟨rfl,segs',r',e'⟩
theorem ml{segs:List (List Keyed)}{rest:List Keyed}{n:Nat}{st2:SortSt}{segs2:List (List Keyed)}(r2:RS κ S kd all st2 segs2 rest)(ha:Asc κ (rest.take n))(h1:1<=n)(hn:n<=rest.length)(e2:segs2.flatten.length=segs.flatten.length):wpS M A E s (do
   modify fun s=>setPending s ((pendingOf s).push (segs.flatten.length,n,0))
   pure (ForInStep.yield ((none:Option Unit),segs.flatten.length+n))) (fun c st'=>∃segs' rest',c=.yield (none,segs'.flatten.length)/\RS κ S kd all st' segs' rest'/\segs'.flatten.length=segs.flatten.length+n) st2:=by
 have ln:(segs2++[rest.take n]).flatten.length=segs.flatten.length+n:=by
  rw[List.flatten_append,List.length_append,e2];simp;omega
 refine wpS_bind (wpS_modify (wpS_pure ⟨segs2++[rest.take n],rest.drop n,by rw[ln],?_,ln⟩));rw[<-e2];exact r2.push ha h1 hn
theorem rN(T:dz M A E s kd κ S){st:SortSt}{Q:Unit->SortSt->Prop}(hk:kindOf st=kd)(hf:failedOf st=none)(hp:pendingOf st = #[])(hS:∀x∈(arrOf st).toList,S x)
  (h:∀st',(arrOf st').toList.Perm (arrOf st).toList->failedOf st'=none->Asc κ (arrOf st').toList->Q () st'):wpS M A E s sortRuns' Q st:=by
 rw[sortRuns'_eq];refine wpS_bind (wpS_get ?_);dsimp only;have r0:RS κ S kd (arrOf st).toList st [] (arrOf st).toList:=⟨rfl,by rw[hp];rfl,(fun _ z=>nomatch z),(fun _ z=>nomatch z),hk,hf,List.Perm.refl _,hS⟩;have sz:∀{st':SortSt} {segs:List (List Keyed)} {rest:List Keyed},RS κ S kd (arrOf st).toList st' segs rest->(arrOf st').size=(arrOf st).size:=fun r=>by
  have:=r.perm.length_eq
  rwa [Array.length_toList,Array.length_toList]at this
 refine wpS_bind (wpS_mono (wpS_forRange (I:=fun t c st'=>∃segs rest,c=(none,segs.flatten.length)/\RS κ S kd (arrOf st).toList st' segs rest/\t<=segs.flatten.length)
  (Q:=fun c st'=>∃segs,c.1=none/\RS κ S kd (arrOf st).toList st' segs []) ?step ?fin ⟨[],_,rfl,r0,by simp⟩) ?post)
 case fin=>
  rintro c st' ⟨segs,rest,rfl,r,ht⟩;have l:=congrArg List.length r.arr;rw[List.length_append,Array.length_toList,sz r]at l;have:rest=[]:=List.length_eq_zero_iff.mp (by omega);subst this;exact⟨segs,rfl,r⟩
 case post=>
  rintro c st' ⟨segs,hc,r⟩;rw[hc];dsimp only;have nl:segs.length<=(arrOf st).size:=by
   have l:=congrArg List.length r.arr;rw[List.append_nil,Array.length_toList,sz r]at l;have:∀L:List (List Keyed),(∀g∈L,g≠[])->L.length<=L.flatten.length:=by
    intro L
    induction L with
    |nil=>intro _;simp
    |cons g L ih=>
     intro hg;have:=ih fun x hx=>hg x (List.mem_cons_of_mem _ hx)
     have:=List.length_pos_iff.mpr (hg g List.mem_cons_self);rw[List.flatten_cons,List.length_append,List.length_cons];omega
   have:=this segs r.ne;omega
  refine wpS_bind (wpS_mono (wpS_forRange (I:=fun t c st'=>c=(none,())/\∃segs,RS κ S kd (arrOf st).toList st' segs []/\(segs.length<=1\/segs.length+t<=(arrOf st).size))
   (Q:=fun c st'=>c=(none,())/\∃segs,RS κ S kd (arrOf st).toList st' segs []/\segs.length<=1) ?step2 ?fin2 ⟨rfl,segs,r,.inr nl⟩) ?post2)
  case fin2=>
   rintro c st2 ⟨rfl,segs,r,hq⟩;exact⟨rfl,segs,r,by omega⟩
  case post2=>
   rintro c st2 ⟨rfl,segs,r,hq⟩;refine wpS_pure (h st2 r.perm r.failed ?_);rw[r.arr,List.append_nil]
   match segs,hq with
   |[],_=>exact List.Pairwise.nil
   |[g],_=>simpa using r.asc g (by simp)
  case step2=>
   rintro t c st2 _ ht ⟨rfl,segs,r,hq⟩;refine wpS_bind (wpS_get ?_);have hs:=r.size;by_cases c1:(pendingOf st2).size<=1
   ·rw[if_pos c1]
    exact wpS_pure ⟨rfl,segs,r,by omega⟩
   ·rw[if_neg c1]
    have ix:∀(c:Prop) [Decidable c],(if c then(pendingOf st2).size-2-1 else(pendingOf st2).size-2)+1<segs.length:=fun c _=>by split<;>omega
    refine wpS_bind (mr T r (ix _) fun st3 segs3 r3 e3 _=>?_)
    simp only[Bool.not_true,Bool.false_eq_true,if_false];exact wpS_pure ⟨rfl,segs3,r3,by omega⟩
 case step=>
  rintro t c st' _ ht ⟨segs,rest,rfl,r,hl⟩;dsimp only;have l:=congrArg List.length r.arr;rw[List.length_append,Array.length_toList,sz r]at l;by_cases c1:segs.flatten.length>=(arrOf st).size
  ·rw[if_pos c1]
   have:rest=[]:=List.length_eq_zero_iff.mp (by omega);subst this;exact wpS_pure ⟨segs,rfl,r⟩
  rw[if_neg c1];have b0:SB S kd segs.flatten.length st' st':=⟨Array.Perm.refl _,fun _ _=>rfl,r.kind,r.failed,rfl,rfl,fun x hx=>hS x (r.perm.mem_iff.mp hx)⟩
  refine wpS_bind (Ak T (by rw[sz r];omega) (by omega) b0 fun m st2 b2 m1 m2 u2=>?_)
  dsimp only;by_cases c2:m<minRun' (arrOf st).size (arrOf st).size 0
  ·rw[if_pos c2]
   refine wpS_bind (wpS_lift (wpAny_rule ⟨rfl,?_⟩));refine wpS_bind (Al T (by rw[sz r];omega) (by omega) b2 u2 fun st3 b3 u3=>?_)
   simp only[Bool.not_true,Bool.false_eq_true,if_false];obtain⟨rest',r3,a3,l3⟩:=vf r b3 u3 (by rw[sz r];omega);refine wpS_mono (Q:=fun c st'=>∃segs' rest',c=.yield (none,segs'.flatten.length)/\RS κ S kd (arrOf st).toList st' segs' rest'/\segs'.flatten.length=segs.flatten.length+(min ((arrOf st).size-segs.flatten.length) (minRun' (arrOf st).size (arrOf st).size 0))) ?_ ?_
   ·refine wpS_bind (wpS_get ?_)
    cases e:(pendingOf st3).back? with
    |none=>exact ml r3 a3 (by omega) (by omega) rfl
    |some x=>
     obtain⟨s1,n1,p1⟩:=x;dsimp only;refine wpS_bind (wpS_mono (jS (size:=(arrOf st).size) (pw:=power' (arrOf st).size (2*s1+n1) (2*s1+n1+n1+(min ((arrOf st).size-segs.flatten.length) (minRun' (arrOf st).size (arrOf st).size 0))) (arrOf st).size) T r3) ?_);rintro c st5 ⟨rfl,segs5,r5,e5⟩;dsimp only;exact wpS_bind (wpS_modify (ml r5.pow a3 (by omega) (by omega) e5))
   ·rintro c st4 ⟨segs',rest2,rfl,r4,e4⟩
    exact⟨segs',rest2,rfl,r4,by omega⟩
  ·rw[if_neg c2]
   obtain⟨rest',r3,a3,l3⟩:=vf r b2 u2 (by rw[sz r];omega);refine wpS_mono (Q:=fun c st'=>∃segs' rest',c=.yield (none,segs'.flatten.length)/\RS κ S kd (arrOf st).toList st' segs' rest'/\segs'.flatten.length=segs.flatten.length+m) ?_ ?_
   ·refine wpS_bind (wpS_get ?_)
    cases e:(pendingOf st2).back? with
    |none=>exact ml r3 a3 m1 (by omega) rfl
    |some x=>
     obtain⟨s1,n1,p1⟩:=x;dsimp only;refine wpS_bind (wpS_mono (jS (size:=(arrOf st).size) (pw:=power' (arrOf st).size (2*s1+n1) (2*s1+n1+n1+m) (arrOf st).size) T r3) ?_);rintro c st5 ⟨rfl,segs5,r5,e5⟩;dsimp only;exact wpS_bind (wpS_modify (ml r5.pow a3 m1 (by omega) e5))
   ·rintro c st4 ⟨segs',rest2,rfl,r4,e4⟩
    exact⟨segs',rest2,rfl,r4,by omega⟩
end
end VL
namespace VL
open PySem PySem.Spec PyProof.Rows L2
section
variable{prog:Program}{w:World}{A:Around}{E:Value->Shared->Prop}{s:Shared}
theorem iX{a:Addr}{vs:List Value}{n:Nat}{P:PySem.Fin->Shared->Prop}{kd:SortKind}{κ:Keyed->Int}{S:Keyed->Prop}(ho:s.heap.get? a=some (seqObj "list" vs.toArray n))(PA:Heap->Prop)(x:PA s.heap)(keeps:∀h h':Heap,PA h->(∀b o,o.cls=.type "tuple" -> h.get? b=some o->h'.get? b=some o)->PA h')
  (kindw:2<=vs.length->∀s':Shared,PA s'.heap->∀Q:SortKind->Shared->Prop,Q kd s'->wpAny (model prog w) A (keyKind' vs.toArray) Q E s') (T:∀s':Shared,PA s'.heap->dz (model prog w) A E s' kd κ S) (hS:∀v∈vs,S (v,v)) (hz:vs.length<=sizeLine)
  (h:∀out:List Value,out.Perm vs->(out.Pairwise fun x y=>κ (x,x) <= κ (y,y))->P (.done (.ret .none)) { s with heap:=sortedHeap s.heap a vs out.toArray }) :
  wpAny (model prog w) A (Builtin.«list.sort» ⟨[.ref a],[]⟩) P E s:=by
 rw[list_sort_plain];have ha:a<s.heap.objs.size:=Heap.lt_size ho;refine wpAny_bind (listItems_at ho rfl ?_);refine wpAny_bind (listUpdate_at ho rfl ?_);obtain⟨e1,ho1⟩:∃e1,(s.heap.update a (Obj.mapSeq fun _=>#[])).get? a=some (seqObj "list" #[] e1):=⟨_,get?_update_seq ho (fun _=>#[])⟩;refine wpAny_bind (seqEpoch_at ho1 rfl ?_);refine wpAny_bind (wpAny_newTuple ?_);refine wpAny_bind (wpAny_newList ?_);refine wpAny_holding ?_;have ho6:(((s.heap.update a (Obj.mapSeq fun _=>#[])).push (seqObj "tuple" vs.toArray 0)).push (seqObj "list" #[] 0)).get? a=some (seqObj "list" #[] e1):=Heap.get?_push_of_some _ (Heap.get?_push_of_some _ ho1);have kp:∀b o,o.cls=.type "tuple" -> s.heap.get? b=some o->(((s.heap.update a (Obj.mapSeq fun _=>#[])).push (seqObj "tuple" vs.toArray 0)).push (seqObj "list" #[] 0)).get? b=some o:=fun b o hc eo=>by
  have hb:b≠a:=fun z=>by
   subst z;rw[ho]at eo;cases eo;exact absurd hc (by intro z;injection z with z;exact absurd z (by decide))
  exact Heap.get?_push_of_some _ (Heap.get?_push_of_some _ (bA hb eo))
 have x6:=keeps _ _ x kp;show wpAny (model prog w) A _ P E { s with heap:=((s.heap.update a (Obj.mapSeq fun _=>#[])).push (seqObj "tuple" vs.toArray 0)).push (seqObj "list" #[] 0) };dsimp only;have fin:∀st':SortSt,(arrOf st').toList.Perm (pairsOf vs).toList->failedOf st'=none->Asc κ (arrOf st').toList ->
   wpAny (model prog w) A (do
    let sorted:=(arrOf st').map (·.2)
    let touched:=(<-seqEpoch a) != e1
    Builtin.List.listUpdate (.ref a) fun _=>sorted
    if let some e:=failedOf st' then rule "list.sort.comparison-raised";throw e
    if touched then rule "list.sort.modified";raiseError "ValueError" "list modified during sort"
    ret .none) P E { s with heap:=((s.heap.update a (Obj.mapSeq fun _=>#[])).push (seqObj "tuple" vs.toArray 0)).push (seqObj "list" #[] 0) }:=fun st' hp hf hs=>by
  have hm:∀p∈(arrOf st').toList,p=(p.2,p.2):=fun p hq=>by
   have:=hp.mem_iff.mp hq;rw[pairsOf_toList]at this;exact Prod.ext (mem_zip_self this).1 rfl
  have e2:((arrOf st').map (·.2)).toList=(arrOf st').toList.map (·.2):=Array.toList_map;have pm:((arrOf st').toList.map (·.2)).Perm vs:=by
   have:=hp.map (·.2);rw[pairsOf_toList,List.map_snd_zip (Nat.le_refl _)]at this;exact this
  have hsz:((arrOf st').map (·.2)).size=vs.length:=by rw[<-Array.length_toList,e2,pm.length_eq]
  refine wpAny_bind (seqEpoch_at ho6 rfl ?_);refine wpAny_bind (listUpdate_at ho6 rfl ?_ (hsz2:=by rw[hsz];exact Nat.le_succ_of_le hz));rw[hf];simp only[bne_self_eq_false,Bool.false_eq_true,if_false];have ea:(arrOf st').map (·.2)=((arrOf st').toList.map (·.2)).toArray:=by rw[<-e2]
  refine wpAny_pure ?_;have hh:=h ((arrOf st').toList.map (·.2)) pm ?_
  ·rw[<-ea]at hh
   exact hh
  ·rw[List.pairwise_map]
   refine List.Pairwise.imp_of_mem ?_ hs;intro p q hp' hq' hle;rw[hm p hp',hm q hq']at hle;exact hle
 by_cases h2:vs.toArray.size<2
 ·rw[if_pos h2,if_pos h2]
  refine wpAny_bind (wpAny_pure ?_);rw[StateT.run_pure];refine wpAny_bind (wpAny_pure ?_);refine fin (SortSt.mk' general' (vs.toArray.zip vs.toArray) #[] 7 none) (List.Perm.refl _) rfl ?_;show Asc κ (pairsOf vs).toList;rw[pairsOf_toList]
  match vs,h2 with
  |[],_=>exact List.Pairwise.nil
  |[v],_=>exact List.pairwise_singleton _ _
  |_::_::_,h2=>simp at h2;omega
 ·rw[if_neg h2,if_neg h2]
  refine wpAny_bind (kindw (by simp at h2;omega) _ x6 _ ?_);refine wpAny_bind (wpAny_mono (rN (T _ x6) (st:=SortSt.mk' kd (vs.toArray.zip vs.toArray) #[] 7 none)
   (Q:=fun _ st'=>(arrOf st').toList.Perm (pairsOf vs).toList/\failedOf st'=none/\Asc κ (arrOf st').toList) rfl rfl rfl (fun p hp=>?_) fun st' a1 a2 a3=>⟨a1,a2,a3⟩) ?_ fun _ _ e=>e)
  ·have hp:p∈(pairsOf vs).toList:=hp
   rw[pairsOf_toList]at hp;obtain⟨q1,q2⟩:=mem_zip_self hp;have:p=(p.1,p.1):=Prod.ext rfl q1.symm;rw[this];exact hS _ q2
  ·rintro⟨⟨⟩,st'⟩ s' ⟨rfl,hp,hf,hs⟩
   exact fin st' hp hf hs
theorem tX:dz (model prog w) A E s oneType' (fun p=>numOf p.1) (fun p=>∃n t,p.1=Value.int n t):=fun x y hx hy st Q ek q=>by
 obtain⟨n,t,e1⟩:=hx;obtain⟨m,u,e2⟩:=hy;rw[lt'_eq];refine wpS_bind (wpS_get ?_);rw[ek,keyLt'_oneType,e1,e2];have q:Q (some (decide (numOf x.1<numOf y.1))) st:=q;rw[e1,e2]at q;exact wpS_bind (wpS_lift (wpAny_attempt (oneLt_int ⟨rfl,wpS_pure q⟩)))
theorem nr{a:Addr}{vs:List Value}{ns:List Int}{n:Nat}{P:PySem.Fin->Shared->Prop}(ho:s.heap.get? a=some (seqObj "list" vs.toArray n))(hI:IntsAre vs ns)(hz:vs.length<=sizeLine)
  (h:∀(out:Array Value) (ns':List Int),IntsAre out.toList ns'->ns'.Perm ns->ns'.Pairwise (· <= ·)->P (.done (.ret .none)) { s with heap:=sortedHeap s.heap a vs out }) :
  wpAny (model prog w) A (Builtin.«list.sort» ⟨[.ref a],[]⟩) P E s:=by
 refine iX (kd:=oneType') (κ:=fun p=>numOf p.1) (S:=fun p=>∃n t,p.1=Value.int n t) ho (fun _=>True) trivial (fun _ _ _ _=>trivial) (fun h2 s' _ Q q=>?_) (fun _ _=>tX) (fun v hv=>hI.all v hv) hz fun out pm hs=>?_
 ·obtain⟨v₁,v₂,rest,rfl⟩:∃v₁ v₂ rest,vs=v₁ :: v₂ :: rest:=by
   match vs,h2 with
   |v₁ :: v₂ :: rest,_=>exact⟨v₁,v₂,rest,rfl⟩
  rw[keyKind_ints hI];exact wpAny_pure q
 ·refine h out.toArray (out.map numOf) (intsAre_map out fun v hv=>hI.all v (pm.mem_iff.mp hv)) ?_ ?_
  ·have:=pm.map numOf
   rwa [hI.nums]at this
  ·rw[List.pairwise_map];exact hs
end
noncomputable def hV:ao->ao->Bool
 |.inl a,.inl b=>decide (a<b)
 |.inr a,.inr b=>decide (a.cps.toList<b.cps.toList)
 |.inl _,.inr _=>true
 |.inr _,.inl _=>false
noncomputable def eP:List ao->List ao->Bool
 |[],[]=>false
 |[],_::_=>true
 |_::_,[]=>false
 |a::r,b::t=>if a=b then eP r t else hV a b
noncomputable def wS(x:List ao):List (List ao)->List (List ao)
 |[]=>[x]
 |y::r=>if eP y x then y::wS x r else x::y::r
noncomputable def kI:List (List ao)->List (List ao)
 |[]=>[]
 |x::r=>wS x (kI r)
noncomputable def F8:ao->Bool
 |.inl _=>true
 |.inr _=>false
noncomputable def pM:List ao->Bool
 |.inr _::r=>r.all F8
 |_=>false
noncomputable def xf:List ao->Bool
 |.inl _::r=>r.all F8
 |_=>false
theorem str_eq{x y:Str}(h:x.cps.toList=y.cps.toList):x=y:=by
 cases x;cases y;simp only[Str.mk.injEq];exact Array.toList_inj.mp h
theorem wK(a:ao):hV a a=false:=by
 cases a with
 |inl a=>simp[hV]
 |inr a=>simp[hV,List.lt_irrefl]
theorem wJ(a b:ao)(h:a≠b):hV a b=!hV b a:=by
 cases a with
 |inl a=>
  cases b with
  |inl b=>
   have:a≠b:=fun z=>h (by rw[z])
   simp only[hV];rcases Int.lt_trichotomy a b with q|q|q
   ·rw[decide_eq_true q,decide_eq_false (by omega)];rfl
   ·exact absurd q this
   ·rw[decide_eq_false (by omega),decide_eq_true q];rfl
  |inr b=>rfl
 |inr a=>
  cases b with
  |inl b=>rfl
  |inr b=>
   have:a.cps.toList≠b.cps.toList:=fun z=>h (by rw[str_eq z])
   simp only[hV];by_cases q:a.cps.toList<b.cps.toList
   ·rw[decide_eq_true q,decide_eq_false (List.lt_asymm q)];rfl
   ·rw[decide_eq_false q]
    have q:=List.not_lt.mp q;rcases List.le_iff_lt_or_eq.mp q with q|q
    ·rw[decide_eq_true q];rfl
    ·exact absurd q.symm this
theorem yR{a b c:ao}(h1:hV a b=true)(h2:hV b c=true):hV a c=true:=by
 cases a<;>cases b<;>cases c<;>simp only[hV,decide_eq_true_eq,Bool.false_eq_true]at h1 h2 ⊢
 ·omega
 ·exact List.lt_trans h1 h2
theorem nt:∀a:List ao,eP a a=false
 |[]=>rfl
 |x::r=>by simp[eP,nt r]
theorem jU:∀(a b:List ao),a≠b->eP a b=!eP b a
 |[],[],h=>absurd rfl h
 |[],_::_,_=>rfl
 |_::_,[],_=>rfl
 |x::r,y::t,h=>by
  by_cases e:x=y
  ·subst e
   simp only[eP,if_true];exact jU r t fun z=>h (by rw[z])
  ·simp only[eP]
   rw[if_neg e,if_neg (Ne.symm e)];exact wJ x y e
theorem jV:∀{a b c:List ao},eP a b=true->eP b c=true->eP a c=true
 |[],[],_,h,_=>by cases h
 |[],_::_,[],_,h=>by cases h
 |[],_::_,_::_,_,_=>rfl
 |_::_,[],_,h,_=>by cases h
 |_::_,_::_,[],_,h=>by cases h
 |x::r,y::t,z::u,h1,h2=>by
  simp only[eP]at h1 h2 ⊢;by_cases e:x=y
  ·subst e
   rw[if_pos rfl]at h1;by_cases e2:x=z
   ·subst e2
    rw[if_pos rfl]at h2 ⊢;exact jV h1 h2
   ·rw[if_neg e2]at h2 ⊢
    exact h2
  ·rw[if_neg e]at h1
   by_cases e2:y=z
   ·subst e2
    rw[if_neg e];exact h1
   ·rw[if_neg e2]at h2
    have h3:=yR h1 h2;by_cases e3:x=z
    ·subst e3
     rw[wK]at h3;cases h3
    ·rw[if_neg e3];exact h3
def rJ(a b:List ao):Prop:=eP b a=false
theorem yH{a b:List ao}(h1:rJ a b)(h2:rJ b a):a=b:=by
 by_cases e:a=b
 ·exact e
 ·have:=jU a b e
  unfold rJ at h1 h2;rw[h1,h2]at this;cases this
theorem E8{a b c:List ao}(h1:rJ a b)(h2:rJ b c):rJ a c:=by
 unfold rJ at *;cases h:eP c a with
 |false=>rfl
 |true=>
  by_cases e:b=c
  ·subst e;rw[h]at h1;cases h1
  ·have:=jU b c e
   rw[h2]at this;rw[jV (by simpa using this) h]at h1;cases h1
theorem kK(x:List ao):∀l,(wS x l).Perm (x::l)
 |[]=>.refl _
 |y::r=>by
  unfold wS;split
  ·exact((kK x r).cons y).trans (.swap x y r)
  ·exact .refl _
theorem ld:∀l,(kI l).Perm l
 |[]=>.refl _
 |x::r=>(kK x _).trans ((ld r).cons x)
theorem vF(x:List ao):∀l,l.Pairwise rJ->(wS x l).Pairwise rJ
 |[],_=>List.pairwise_singleton _ _
 |y::r,h=>by
  unfold wS;obtain⟨h1,h2⟩:=List.pairwise_cons.mp h;split
  ·rename_i q
   refine List.pairwise_cons.mpr ⟨fun z hz=>?_,vF x r h2⟩
   rcases List.mem_cons.mp ((kK x r).mem_iff.mp hz)with rfl|hz
   ·unfold rJ
    cases e:eP z y with
    |false=>rfl
    |true=>
     have:=jV q e;rw[nt]at this;cases this
   ·exact h1 z hz
  ·rename_i q
   have q:rJ x y:=by simpa[rJ]using q
   refine List.pairwise_cons.mpr ⟨fun z hz=>?_,h⟩
   rcases List.mem_cons.mp hz with rfl|hz
   ·exact q
   ·exact E8 q (h1 z hz)
theorem kH:∀l,(kI l).Pairwise rJ
 |[]=>.nil
 |x::r=>vF x _ (kH r)
theorem kX:∀{a b:List (List ao)},a.Perm b->a.Pairwise rJ->b.Pairwise rJ->a=b
 |[],b,p,_,_=>(List.nil_perm.mp p).symm
 |x::r,[],p,_,_=>absurd p.length_eq (by simp)
 |x::r,y::t,p,h1,h2=>by
  obtain⟨a1,a2⟩:=List.pairwise_cons.mp h1;obtain⟨b1,b2⟩:=List.pairwise_cons.mp h2;have e:x=y:=by
   rcases List.mem_cons.mp (p.mem_iff.mp (List.mem_cons_self (a:=x) (l:=r)))with e|e
   ·exact e
   ·rcases List.mem_cons.mp (p.mem_iff.mpr (List.mem_cons_self (a:=y) (l:=t)))with f|f
    ·exact f.symm
    ·exact yH (a1 y f) (b1 x e)
  subst e;rw[kX ((List.perm_cons x).mp p) a2 b2]
theorem wN{a b:List (List ao)}(p:a.Perm b)(h:a.Pairwise rJ):a=kI b:=kX (p.trans (ld b).symm) h (kH b)
section
variable{prog:Program}{w:World}{A:Around}{E:Value->Shared->Prop}{s:Shared}
def Kb:ao->Value->Prop
 |.inl i,v=>∃t,v=.int i t
 |.inr x,v=>∃t,v=.str x t
inductive KVals:List ao->List Value->Prop
 |nil:KVals [] []
 |cons {k v ks vs}:Kb k v->KVals ks vs->KVals (k::ks) (v::vs)
theorem KVals.one:∀{k k':List ao} {vs:List Value},KVals k vs->KVals k' vs->k=k'
 |_,_,_,.nil,.nil=>rfl
 |_,_,_,.cons (k:=a) h1 r1,.cons (k:=b) h2 r2=>by
  have e:=KVals.one r1 r2;subst e;cases a<;>cases b<;>obtain⟨t,rfl⟩:=h1<;>obtain⟨u,h2⟩:=h2<;>first|cases h2;rfl|cases h2
noncomputable def fZ:List ao->List ao->Bool
 |a::r,b::t=>if a=b then fZ r t else F8 a==F8 b
 |_,_=>true
theorem yC{fin:Bool}{Q:Bool->Shared->Prop}:∀{k1 k2:List ao} {xs ys:List Value} {i:Nat},KVals k1 xs->KVals k2 ys->fZ k1 k2=true->fin=decide (xs.length<ys.length)->Q (eP k1 k2) s->PySem.W.KatLex prog w A true fin Q (xs.zip ys) i s
 |_,_,_,_,i,.nil,.nil,_,hf,q=>by
  subst hf;exact PySem.W.kat_nil q
 |_,_,_,_,i,.nil,.cons h r,_,hf,q=>by
  subst hf;exact PySem.W.kat_nil (by simpa[eP]using q)
 |_,_,_,_,i,.cons h r,.nil,_,hf,q=>by
  subst hf;rw[List.zip_nil_right];exact PySem.W.kat_nil (by simpa[eP]using q)
 |_,_,_,_,i,.cons (k:=a) (vs:=xs) h1 r1,.cons (k:=b) (vs:=ys) h2 r2,hc,hf,q=>by
  have hf:fin=decide (xs.length<ys.length):=by rw[hf];simp
  rw[List.zip_cons_cons];refine PySem.W.kat_cons ?_;simp only[eP,fZ]at q hc;by_cases e:a=b
  ·subst e
   rw[if_pos rfl]at q hc;have go:=yC (i:=i+1) r1 r2 hc hf q;cases a with
   |inl a=>
    obtain⟨t,rfl⟩:=h1;obtain⟨u,rfl⟩:=h2;refine SeqAt.EqAt.int_int a t a u _ _ _ _ ?_;rw[beq_self_eq_true];exact PySem.W.kat_yes go
   |inr a=>
    obtain⟨t,rfl⟩:=h1;obtain⟨u,rfl⟩:=h2;refine SeqAt.EqAt.str_str a t a u _ _ _ _ ?_;rw[beq_self_eq_true];exact PySem.W.kat_yes go
  ·rw[if_neg e]at q hc
   cases a with
   |inl a=>
    cases b with
    |inr b=>cases hc
    |inl b=>
     obtain⟨t,rfl⟩:=h1;obtain⟨u,rfl⟩:=h2;refine SeqAt.EqAt.int_int a t b u _ _ _ _ ?_;rw[beq_eq_false_iff_ne.mpr fun z=>e (by rw[z])]
     refine PySem.W.kat_no ?_;cases i with
     |zero=>exact oneLt_int q
     |succ i=>exact PySem.W.kat_one _ _ (lt_int q)
   |inr a=>
    cases b with
    |inl b=>cases hc
    |inr b=>
     obtain⟨t,rfl⟩:=h1;obtain⟨u,rfl⟩:=h2;refine SeqAt.EqAt.str_str a t b u _ _ _ _ ?_;rw[beq_eq_false_iff_ne.mpr fun z=>e (by rw[z])]
     refine PySem.W.kat_no ?_;cases i with
     |zero=>exact oneLt_str q
     |succ i=>exact PySem.W.kat_one _ _ (lt_str q)
def KAt(h:Heap)(v:Value)(k:List ao):Prop:=∃b o xs n,v=.ref b/\h.get? b=some o/\o.cls=.type "tuple" /\ o.data=.seq xs n/\KVals k xs.toList
theorem KAt.one{h:Heap}{v:Value}{k k':List ao}(h1:KAt h v k)(h2:KAt h v k'):k=k':=by
 obtain⟨b,o,xs,n,rfl,e1,e2,e3,e4⟩:=h1;obtain⟨b',o',xs',n',q,f1,f2,f3,f4⟩:=h2;cases q;rw[e1]at f1;cases f1;rw[e3]at f3;cases f3;exact e4.one f4
theorem KAt.keeps{h h':Heap}{v:Value}{k:List ao}(x:KAt h v k)(kp:∀b o,o.cls=.type "tuple" -> h.get? b=some o->h'.get? b=some o):KAt h' v k:=by
 obtain⟨b,o,xs,n,rfl,e1,e2,e3,e4⟩:=x;exact⟨b,o,xs,n,rfl,kp b o e2 e1,e2,e3,e4⟩
theorem Dh{x y:Value}{k1 k2:List ao}{Q:Bool->Shared->Prop}(h1:KAt s.heap x k1)(h2:KAt s.heap y k2)(hc:fZ k1 k2=true)(q:Q (eP k1 k2) s):wpAny (model prog w) A (keyLt' (tuples' true) x y) Q E s:=by
 obtain⟨b,o,xs,n,rfl,e1,e2,e3,e4⟩:=h1;obtain⟨b',o',xs',n',rfl,f1,f2,f3,f4⟩:=h2;exact PySem.W.kat_lt e1 e3 f1 f3 (yC e4 f4 hc (by simp) q)
noncomputable def jK(ks:List (List ao))(k:List ao):Int:=((ks.filter fun x=>eP x k).length:Nat)
theorem kN{α:Type}{p q:α -> Bool}:∀(l:List α),(∀x∈l,p x=true->q x=true)->(l.filter p).length<=(l.filter q).length
 |[],_=>Nat.le_refl _
 |x::l,h=>by
  have ih:=kN l fun y hy=>h y (List.mem_cons_of_mem _ hy)
  have hx:=h x List.mem_cons_self;rw[List.filter_cons,List.filter_cons];cases e:p x with
  |false=>
   rw[if_neg (by simp)];split
   ·rw[List.length_cons];omega
   ·exact ih
  |true=>
   rw[if_pos rfl,if_pos (hx e),List.length_cons,List.length_cons];omega
theorem p6{α:Type}{p q:α -> Bool}:∀(l:List α),(∀x∈l,p x=true->q x=true)->(∃x∈l,p x=false/\q x=true)->(l.filter p).length<(l.filter q).length
 |[],_,⟨x,hx,_⟩=>by cases hx
 |x::l,h,⟨y,hy,h1,h2⟩=>by
  have ih:=kN l fun y hy=>h y (List.mem_cons_of_mem _ hy)
  have hx:=h x List.mem_cons_self;rw[List.filter_cons,List.filter_cons];rcases List.mem_cons.mp hy with rfl|hy
  ·rw[if_neg (by rw[h1];simp),if_pos h2,List.length_cons];omega
  ·have ih:=p6 l (fun y hy=>h y (List.mem_cons_of_mem _ hy)) ⟨y,hy,h1,h2⟩
   cases e:p x with
   |false=>
    rw[if_neg (by simp)];split
    ·rw[List.length_cons];omega
    ·exact ih
   |true=>
    rw[if_pos rfl,if_pos (hx e),List.length_cons,List.length_cons];omega
theorem sv{ks:List (List ao)}{x y:List ao}(hx:x∈ks):decide (jK ks x<jK ks y)=eP x y:=by
 unfold jK;cases e:eP x y with
 |true=>
  refine decide_eq_true ?_;exact Int.ofNat_lt.mpr (p6 ks (fun z _ hz=>jV hz e) ⟨x,hx,nt x,e⟩)
 |false=>
  refine decide_eq_false ?_;have:=kN (p:=fun z=>eP z y) (q:=fun z=>eP z x) ks fun z _ hz=>by
   by_cases q:y=x
   ·subst q;exact hz
   ·have:=jU y x q
    rw[e]at this;exact jV hz this
  omega
open Classical in
noncomputable def rK(h:Heap)(v:Value):List ao:=if q:∃k,KAt h v k then q.choose else []
theorem jk{h:Heap}{v:Value}{k:List ao}(x:KAt h v k):rK h v=k:=by
 unfold rK;have q:∃k,KAt h v k:=⟨k,x⟩;rw[dif_pos q];exact q.choose_spec.one x
theorem tW{h0:Heap}{ks:List (List ao)}(hc:∀x∈ks,∀y∈ks,fZ x y=true)(kp:∀b o,o.cls=.type "tuple" -> h0.get? b=some o->s.heap.get? b=some o):
  dz (model prog w) A E s (tuples' true) (fun p=>jK ks (rK h0 p.1)) (fun p=>∃k∈ks,KAt h0 p.1 k):=fun x y hx hy st Q ek q=>by
 obtain⟨k1,m1,a1⟩:=hx;obtain⟨k2,m2,a2⟩:=hy;have q:Q (some (decide (jK ks (rK h0 x.1)<jK ks (rK h0 y.1)))) st:=q;rw[jk a1,jk a2,sv m1]at q;rw[lt'_eq];refine wpS_bind (wpS_get ?_);rw[ek];exact wpS_bind (wpS_lift (wpAny_attempt (Dh (a1.keeps kp) (a2.keeps kp) (hc _ m1 _ m2) ⟨rfl,wpS_pure q⟩)))
theorem nD:∀{a b:List ao},a.all F8=true->b.all F8=true->fZ a b=true
 |[],_,_,_=>by simp[fZ]
 |_::_,[],_,_=>by simp[fZ]
 |x::r,y::t,h1,h2=>by
  simp only[List.all_cons,Bool.and_eq_true]at h1 h2;simp only[fZ];split
  ·exact nD h1.2 h2.2
  ·rw[h1.1,h2.1];rfl
theorem xw{a b:List ao}(h1:pM a=true)(h2:pM b=true):fZ a b=true:=by
 match a,b,h1,h2 with
 |.inr x::r,.inr y::t,h1,h2=>
  simp only[fZ];split
  ·exact nD h1 h2
  ·rfl
theorem Ci{a b:List ao}(h1:xf a=true)(h2:xf b=true):fZ a b=true:=by
 match a,b,h1,h2 with
 |.inl x::r,.inl y::t,h1,h2=>
  simp only[fZ];split
  ·exact nD h1 h2
  ·rfl
inductive KAts (h:Heap):List Value->List (List ao)->Prop
 |nil:KAts h [] []
 |cons {v k vs ks}:KAt h v k->KAts h vs ks->KAts h (v::vs) (k::ks)
theorem KAts.keeps{h h':Heap}(kp:∀b o,o.cls=.type "tuple" -> h.get? b=some o->h'.get? b=some o):∀{vs:List Value} {ks:List (List ao)},KAts h vs ks->KAts h' vs ks
 |_,_,.nil=>.nil
 |_,_,.cons x r=>.cons (x.keeps kp) (KAts.keeps kp r)
theorem KAts.map{h:Heap}:∀{vs:List Value} {ks:List (List ao)},KAts h vs ks->vs.map (rK h)=ks
 |_,_,.nil=>rfl
 |_,_,.cons x r=>by rw[List.map_cons,jk x,KAts.map r]
theorem KAts.mem{h:Heap}:∀{vs:List Value} {ks:List (List ao)},KAts h vs ks->∀v∈vs,∃k∈ks,KAt h v k
 |_,_,.cons (k:=k) x r,v,hv=>by
  rcases List.mem_cons.mp hv with rfl|hv
  ·exact⟨k,List.mem_cons_self,x⟩
  ·obtain⟨k',m,y⟩:=KAts.mem r v hv
   exact⟨k',List.mem_cons_of_mem _ m,y⟩
theorem KAts.of_map{h:Heap}:∀{vs:List Value},(∀v∈vs,∃k,KAt h v k)->KAts h vs (vs.map (rK h))
 |[],_=>.nil
 |v::vs,H=>by
  obtain⟨k,x⟩:=H v List.mem_cons_self;rw[List.map_cons,jk x];exact .cons x (KAts.of_map fun u hu=>H u (List.mem_cons_of_mem _ hu))
noncomputable def Cp:Bool->Value
 |true=>.type "str"
 |false=>.type "int"
theorem KAts.tups{h:Heap}{b:Bool}:∀{vs:List Value} {ks:List (List ao)},KAts h vs ks->(∀k∈ks,(if b then pM k else xf k)=true)->∃fs:List Value,fs.length=vs.length/\PySem.W.KatTups h vs fs/\∀v∈fs,∀M:Model,PySem.W.Looks M h (typeOf v) (Cp b)
 |_,_,.nil,_=>⟨[],rfl,trivial,fun v h=>by cases h⟩
 |_,_,.cons (k:=k) x r,hk=>by
  obtain⟨fs,h1,h2,h3⟩:=KAts.tups r fun k' m=>hk k' (List.mem_cons_of_mem _ m)
  obtain⟨a,o,xs,n,rfl,e1,e2,e3,e4⟩:=x;have hk:=hk k List.mem_cons_self;obtain⟨f,ef,lf⟩:∃f,xs[0]? = some f/\∀M:Model,PySem.W.Looks M h (typeOf f) (Cp b):=by
   cases b with
   |true=>
    match k,hk,e4 with
    |.inr y::t,_,e4=>
     generalize exs:xs.toList=l at e4;cases e4 with
     |cons hv hr=>
      obtain⟨u,rfl⟩:=hv;refine⟨_,by rw[<-Array.getElem?_toList,exs];rfl,fun M=>PySem.W.Looks.of_pure rfl⟩
   |false=>
    match k,hk,e4 with
    |.inl y::t,_,e4=>
     generalize exs:xs.toList=l at e4;cases e4 with
     |cons hv hr=>
      obtain⟨u,rfl⟩:=hv;refine⟨_,by rw[<-Array.getElem?_toList,exs];rfl,fun M=>PySem.W.Looks.of_pure rfl⟩
  refine⟨f::fs,by rw[List.length_cons,List.length_cons,h1],⟨⟨a,o,xs,n,rfl,e1,e2,e3,ef⟩,h2⟩,fun v hv=>?_⟩
  rcases List.mem_cons.mp hv with rfl|hv
  ·exact lf
  ·exact h3 v hv
theorem wx{α β:Type}{f:α -> β}{R:β -> β -> Prop}{l:List α}(h:l.Pairwise fun x y=>R (f x) (f y)):(l.map f).Pairwise R:=List.pairwise_map.mpr h
theorem nk{a:Addr}{vs:List Value}{ks:List (List ao)}{n:Nat}{P:PySem.Fin->Shared->Prop}(ho:s.heap.get? a=some (seqObj "list" vs.toArray n))(x:KAts s.heap vs ks)(hk:(ks.all pM||ks.all xf)=true)(hz:vs.length<=sizeLine)
  (h:∀out:List Value,out.Perm vs->KAts s.heap out (kI ks)->P (.done (.ret .none)) { s with heap:=sortedHeap s.heap a vs out.toArray }) :
  wpAny (model prog w) A (Builtin.«list.sort» ⟨[.ref a],[]⟩) P E s:=by
 have hc:∀x∈ks,∀y∈ks,fZ x y=true:=fun x hx y hy=>by
  rcases Bool.or_eq_true_iff.mp hk with q|q
  ·exact xw (List.all_eq_true.mp q x hx) (List.all_eq_true.mp q y hy)
  ·exact Ci (List.all_eq_true.mp q x hx) (List.all_eq_true.mp q y hy)
 obtain⟨b,hb⟩:∃b:Bool,∀k∈ks,(if b then pM k else xf k)=true:=by
  rcases Bool.or_eq_true_iff.mp hk with q|q
  ·exact⟨true,fun k m=>List.all_eq_true.mp q k m⟩
  ·exact⟨false,fun k m=>List.all_eq_true.mp q k m⟩
 refine iX (kd:=tuples' true) (κ:=fun p=>jK ks (rK s.heap p.1)) (S:=fun p=>∃k∈ks,KAt s.heap p.1 k) ho (fun h'=>∀(b:Addr) (o:Obj),o.cls=.type "tuple" -> s.heap.get? b=some o->h'.get? b=some o) (fun _ _ _ e=>e) (fun h1 h2 (p:∀(b:Addr) (o:Obj),o.cls=.type "tuple" -> s.heap.get? b=some o->h1.get? b=some o) kp b o (ec:o.cls=.type "tuple") e=>kp b o ec (p b o ec e)) (fun h2 s' kp Q q=>?_) (fun s' kp=>tW hc kp) (fun v hv=>x.mem v hv) hz fun out pm hs=>?_
 ·obtain⟨fs,f1,f2,f3⟩:=(x.keeps kp).tups hb
  refine PySem.W.kat_kind (T:=Cp b) f2 (by omega) (fun v hv=>f3 v hv _) (by cases b<;>decide) ?_;have:(Cp b != Value.type "tuple")=true:=by cases b<;>decide
  rw[this];exact q
 ·have H:∀v∈out,∃k,KAt s.heap v k:=fun v hv=>by
   obtain⟨k,_,y⟩:=x.mem v (pm.mem_iff.mp hv);exact⟨k,y⟩
  have X:=KAts.of_map H;have pk:(out.map (rK s.heap)).Perm ks:=by
   have:=pm.map (rK s.heap)
   rwa [x.map]at this
  have e:out.map (rK s.heap)=kI ks:=by
   refine wN pk ?_;refine wx ?_;refine List.Pairwise.imp_of_mem ?_ hs;intro p q hp hq hle;have m:rK s.heap q∈ks:=pk.mem_iff.mp (List.mem_map.mpr ⟨q,hq,rfl⟩);have:=sv (y:=rK s.heap p) m;unfold rJ;rw[<-this];have hle:jK ks (rK s.heap p)<=jK ks (rK s.heap q):=hle;exact decide_eq_false (by omega)
  rw[e]at X;exact h out pm X
end
mutual
def pU:D->Bool
 |.none=>true
 |.bool _=>true
 |.int _=>true
 |.str _=>true
 |.tuple xs=>noLs xs
 |.list _=>false
 |.dict _=>false
def noLs:List D->Bool
 |[]=>true
 |d::r=>pU d&&noLs r
end
noncomputable def kj:D->Bool
 |.int _=>true
 |.tuple [.int _,.int _]=>true
 |_=>false
noncomputable def af(f:Str):List (Str×D)->Option D
 |[]=>none
 | (g,x)::r=>if g=f then some x else af f r
noncomputable def cM(f:Str)(v:D):List (Str×D)->List (Str×D)
 |[]=>[(f,v)]
 | (g,x)::r=>if g=f then(g,v)::r else(g,x)::cM f v r
noncomputable def Cr:List (D×D)->Option (List (Str×D))
 |[]=>some []
 | (.str g,v)::r=>(Cr r).bind fun t=>some ((g,v)::t)
 |_=>none
noncomputable def ur(n:Str):D->Option (List (Str×D))
 |.dict ((.str t,.str m)::r)=>if t = "ins" /\ m=n then Cr r else none
 |_=>none
noncomputable def cE(n f:Str)(d:D):Option D:=(ur n d).bind (af f)
noncomputable def jC(n:Str):Option Sl->Option (List (Str×D))
 |some (.fz d)=>ur n d
 |_=>none
noncomputable def sr(j:Nat)(f:Dv->Option D):Sf:=fun δ=>(f δ).bind fun v=>if pU v then some (.nx,δ.set j (.fz v))else none
noncomputable def kY(n:Str)(i:Nat)(F:Str)(fk fv:Dv->Option D):Sf:=fun δ=>(fv δ).bind fun v=>(fk δ).bind fun y=>(jC n δ[i]?).bind fun ds=>(af F ds).bind fun l=>match l with
 |.list us=>if kj v then(mQ us y v).bind fun us'=>some (.nx,δ.set i (.fz (insD n (cM F (.list us') ds))))else none
 |_=>none
noncomputable def mJ(n:Str)(i:Nat)(F:Str)(fv:Dv->Option D):Sf:=fun δ=>(fv δ).bind fun v=>(jC n δ[i]?).bind fun ds=>(af F ds).bind fun l=>match l with
 |.list us=>if kj v=true/\us.length<sizeLine then some (.nx,δ.set i (.fz (insD n (cM F (.list (us++[v])) ds))))else none
 |_=>none
noncomputable def xM(n:Str)(i:Nat)(F:Str)(fv:Dv->Option D):Sf:=fun δ=>(fv δ).bind fun v=>(jC n δ[i]?).bind fun ds=>(af F ds).bind fun l=>match l,v with
 |.list us,.list ws=>if ws.all kj=true/\us.length+ws.length<=sizeLine then some (.nx,δ.set i (.fz (insD n (cM F (.list (us++ws)) ds))))else none
 |_,_=>none
noncomputable def xL(n:Str)(i:Nat)(F:Str)(fv:Dv->Option D):Sf:=fun δ=>(fv δ).bind fun v=>(jC n δ[i]?).bind fun ds=>(af F ds).bind fun l=>match l,v with
 |.int _,.int j=>if ds.length<1000 then some (.nx,δ.set i (.fz (insD n (cM F (.int j) ds))))else none
 |_,_=>none
noncomputable def bV(n:Str)(i:Nat)(m:Str)(fs:Dv->Option (List D))(g:List (Str×D)->List D->Option (List (Str×D))):Sf:=fun δ=>(jC n δ[i]?).bind fun ds=>(fs δ).bind fun as=>if af m ds=none/\noLs as=true then(g ds as).bind fun ds'=>some (.nx,δ.set i (.fz (insD n ds')))else none
noncomputable def fG(n:Str)(N:List Str)(l:Nat)(b:Sf):List (Str×D)->List D->Option (List (Str×D)):=fun ds as=>if as.length+1=l then(b (az N (insD n ds::as))).bind fun r=>match r with
  | (.nx,δ)=>jC n δ[0]?
  |_=>none
 else none
noncomputable def m6(n:Str)(m:Str)(f:Dv->Option D)(fs:Dv->Option (List D))(g:List D->Option D):Dv->Option D:=fun δ=>(f δ).bind fun d=>(ur n d).bind fun ds=>if af m ds=none then(fs δ).bind fun as=>g (d::as)else none
theorem lS:∀ds:List (Str×D),Cr (ds.map fun q=>(PyData.str q.1,q.2))=some ds
 |[]=>rfl
 | (g,v)::r=>by simp only[List.map_cons,Cr,lS r,Option.bind_some]
@[simp] theorem G8(n:Str)(ds:List (Str×D)):ur n (insD n ds)=some ds:=by
 show(if("ins":Str) = "ins" /\ n=n then Cr (ds.map fun q=>(PyData.str q.1,q.2))else none)=some ds
 rw[if_pos ⟨rfl,rfl⟩,lS]
theorem xt:∀{r:List (D×D)} {ds:List (Str×D)},Cr r=some ds->r=ds.map fun q=>(PyData.str q.1,q.2)
 |[],ds,h=>by cases h;rfl
 | (k,v)::r,ds,h=>by
  cases k with
  |str g=>
   obtain⟨t,e,h⟩:=bind_some (show(Cr r).bind _=some ds from h);cases h;rw[xt e];rfl
  |_=>cases h
theorem qM{n:Str}{d:D}{ds:List (Str×D)}(h:ur n d=some ds):d=insD n ds:=by
 unfold ur at h;split at h
 ·rename_i t m r
  split at h
  ·rename_i q
   obtain⟨rfl,rfl⟩:=q;rw[xt h];rfl
  ·cases h
 ·cases h
theorem gD{n:Str}{o:Option Sl}{ds:List (Str×D)}(h:jC n o=some ds):o=some (.fz (insD n ds)):=by
 unfold jC at h;split at h
 ·rw[qM h]
 ·cases h
def FA(K:Fg)(Z:Hp)(p:Str×V)(q:Str×D):Prop:=p.1=q.1/\FF K Z p.2 q.2
theorem dj{n m:Str}{ds es:List (Str×D)}(h:nJ n ds=nJ m es):n=m/\ds=es:=by
 unfold nJ at h;injection h with h1 h2
 injection h1 with _ h3
 injection h3 with h4
 refine⟨h4,?_⟩;have:=congrArg Cr h2;rw[lS,lS]at this;exact Option.some.inj this
theorem Bg{K:Fg}{Z:Hp}{a:Addr}{kvs:List (D×D)}{n:Str}{ds:List (Str×D)}(h:Opq K Z a kvs)(ek:nJ n ds=kvs):∃C dx fs,PySem.W.nsIn K mainGlobals n=some (some (.ref C))/\Z a=some (.ins C dx fs)/\Paired (FA K Z) fs ds:=by
 cases h with
 |exc h1 h2=>unfold nJ at ek;injection ek with e1 e2;injection e1 with e3 _;injection e3 with e4;exact absurd e4 (by decide)
 |fn h1=>unfold nJ at ek;injection ek with e1 e2;injection e1 with e3 _;injection e3 with e4;exact absurd e4 (by decide)
 |ins h1 h2 h3=>
  obtain⟨rfl,rfl⟩:=dj ek;exact⟨_,_,_,h1,h2,h3⟩
 |dct h1 h2=>exact(B7 (ek.trans h1)).elim
theorem yZ{K:Fg}{Z:Hp}{v:V}{n:Str}{ds:List (Str×D)}(h:Rep K Z v (.dict (nJ n ds))):∃a C dx fs,v=.ref a/\PySem.W.nsIn K mainGlobals n=some (some (.ref C))/\Z a=some (.ins C dx fs)/\Paired (FA K Z) fs ds:=by
 cases v with
 |ref a=>
  have:Opq K Z a (nJ n ds):=by
   unfold nJ at h ⊢;cases h with
   |opq h=>exact h
  obtain⟨C,dx,fs,h1,h2,h3⟩:=Bg this rfl;exact⟨a,C,dx,fs,rfl,h1,h2,h3⟩
 |_=>exact nomatch h
theorem vP{K:Fg}{Z:Hp}{f:Str}{d:D}:∀{fs:List (Str×V)} {ds:List (Str×D)},Paired (FA K Z) fs ds->af f ds=some d->∃v,fs.lookup f=some v/\FF K Z v d
 |_,_,.nil,h=>by cases h
 |_,_,.cons (a:=(g,v)) (b:=(g',x)) ⟨e,r⟩ t,h=>by
  obtain rfl:g=g':=e;unfold af at h;by_cases q:g=f
  ·rw[if_pos q]at h;cases h
   exact⟨v,by rw[List.lookup_cons];simp[q],r⟩
  ·rw[if_neg q]at h
   obtain⟨w,h1,h2⟩:=vP t h;refine⟨w,?_,h2⟩;rw[List.lookup_cons];have:(f==g)=false:=by simpa using fun z=>q z.symm
   rw[this];exact h1
theorem FI.rep{K:Fg}{Z:Hp}{v:V}{d:D}(h:FI K Z v d):Rep K Z v d:=by
 cases h with
 |int i=>exact .int i
 |pair q=>exact .tup q (.cons (.int _) (.cons (.int _) .nil))
theorem vM{K:Fg}{Z:Hp}:∀{xs:List V} {ds:List D},Paired (FI K Z) xs ds->Reps K Z xs ds
 |_,_,.nil=>.nil
 |_,_,.cons r t=>.cons r.rep (vM t)
theorem FF.rep{K:Fg}{Z:Hp}{v:V}{d:D}(h:FF K Z v d):Rep K Z v d:=by
 cases h with
 |int i=>exact .int i
 |lst q r=>exact .lst (SqL.of q) (vM r)
theorem zr{K:Fg}{Z:Hp}{v:V}{d:D}(h:Rep K Z v d)(e:kj d=true):FI K Z v d:=by
 cases d with
 |int i=>cases h;exact .int i
 |tuple ds=>
  unfold kj at e;split at e
  ·rename_i q;cases q
  ·rename_i i j q
   cases q;cases h with
   |tup q r=>
    cases r with
    |cons r1 r2=>
     cases r2 with
     |cons r3 r4=>
      cases r4;cases r1;cases r3;exact .pair q
  ·cases e
 |_=>cases e
theorem uI{K:Fg}{Z:Hp}:∀{xs:List V} {ds:List D},Reps K Z xs ds->ds.all kj=true->Paired (FI K Z) xs ds
 |_,_,.nil,_=>.nil
 |_,_,.cons r t,e=>by
  rw[List.all_cons,Bool.and_eq_true]at e;exact .cons (zr r e.1) (uI t e.2)
structure ClN (K:Fg) (n:Str):Prop where
 c:∀C,PySem.W.nsIn K mainGlobals n=some (some (.ref C))->Cls K C
structure NaN (K:Fg) (n f:Str):Prop where
 c:∀C,PySem.W.nsIn K mainGlobals n=some (some (.ref C))->NoAttr K C f
section
variable{X:Cx}{e b c:Expr}{es:List Expr}{f fk fv:Dv->Option D}{fs:Dv->Option (List D)}{ft:Dv->Option Bool}{p pos tpos apos:Pos}{n F:Str}
theorem cC(cl:ClN X.K n)(na:NaN X.K n F)(he:EV X e f)(hb:attributeBase e F X.env (eval e X.env)=eval e X.env:=by rfl):EV X (.Attribute e F pos) (o1 f (cE n F)):=
 PE.imp (qG he hb) fun σ H Q h=>by
  obtain⟨H₀,Z₀,Z,δ,d,hh,e,k⟩:=h;obtain⟨x,e1,e⟩:=bind_some e;obtain⟨ds,e2,e⟩:=bind_some (show(ur n x).bind _=some d from e);refine⟨H₀,Z₀,Z,δ,x,hh,e1,fun v Z1 H1 hh1 s1 r1=>?_⟩
  rw[qM e2]at r1;obtain⟨a,C,dx,fs,rfl,hC,hz,hp⟩:=yZ r1;obtain⟨w,h1,h2⟩:=vP hp e;exact⟨a,C,dx,fs,w,rfl,hh1.zh _ _ hz,cl.c C hC,na.c C hC,h1,k w Z1 H1 hh1 s1 h2.rep⟩
end
noncomputable def eN:List (Str×V)->List Addr
 |[]=>[]
 | (_,.ref b)::r=>b::eN r
 | (_,_)::r=>eN r
inductive FO (K:Fg) (H Z:Hp):V->D->Prop
 |int (i:Int):FO K H Z (.int i) (.int i)
 |lst {b:Addr} {xs:List V} {ds:List D}:H b=some (.lst xs)->Paired (FI K Z) xs ds->FO K H Z (.ref b) (.list ds)
def FB(K:Fg)(H Z:Hp)(p:Str×V)(q:Str×D):Prop:=p.1=q.1/\FO K H Z p.2 q.2
structure OW (K:Fg) (n:Str) (A:List Addr) (x:Addr) (ds:List (Str×D)) (Z H:Hp):Prop where
 ex:∃C dx fs,PySem.W.nsIn K mainGlobals n=some (some (.ref C))/\H x=some (.ins C dx fs)/\A=x::eN fs/\Paired (FB K H Z) fs ds
 nd:A.Nodup
 zn:∀b∈A,Z b=none
structure Kept (A:List Addr) (Z H Z' H':Hp):Prop where
 z:Same Z Z'
 h:∀b o,b ∉ A->H b=some o->H' b=some o
 zh:Same Z' H'
 o:∀b,H b≠none->Z' b=Z b
 t:∀b,H b≠none->H' b≠none
 nf:NoF Z Z'
theorem Kept.refl{A:List Addr}{Z H:Hp}(zh:Same Z H):Kept A Z H Z H:=⟨Same.refl _,fun _ _ _ e=>e,zh,fun _ _=>rfl,fun _ e=>e,NoF.refl _⟩
theorem Kept.trans{A:List Addr}{Z H Z1 H1 Z2 H2:Hp}(a:Kept A Z H Z1 H1)(b:Kept A Z1 H1 Z2 H2):Kept A Z H Z2 H2:=
 ⟨a.z.trans b.z,fun c o hc e=>b.h c o hc (a.h c o hc e),b.zh,fun c hc=>by rw[b.o c (a.t c hc),a.o c hc],fun c hc=>b.t c (a.t c hc),a.nf.trans b.nf⟩
theorem Kept.upd{A:List Addr}{Z H Z1 H1:Hp}(a:Kept A Z H Z1 H1){b:Addr}(hb:b∈A)(hz:Z1 b=none)(o:HO):Kept A Z H Z1 (upd H1 b o):=
 ⟨a.z,fun c u hc e=>by rw[ak (fun z:c=b=>hc (by rw[z];exact hb))];exact a.h c u hc e,fun c u e=>by rw[ak (aH e hz)];exact a.zh c u e,a.o,fun c hc=>by
  by_cases q:c=b
  ·rw[q,aw];intro z;cases z
  ·rw[ak q];exact a.t c hc,a.nf⟩
structure HoldW (K:Fg) (n:Str) (i:Nat) (A:List Addr) (x:Addr) (ds:List (Str×D)) (Z:Hp) (δ:Dv) (σ:St) (H:Hp):Prop where
 zh:Same Z H
 len:δ.length = σ.length
 at_:σ[i]? = some (some (.ref x))
 dat:δ[i]? = some (.fz (insD n ds))
 ob:OW K n A x ds Z H
 fz:∀(j:Nat) d,j≠i -> δ[j]? = some (.fz d)->∃v,σ[j]? = some (some v)/\Rep K Z v d
 now:∀(j:Nat) c,δ[j]? ≠ some (.own c)
 nfr:∀(j:Nat) l,δ[j]? ≠ some (.fr l)
noncomputable def Zp(A:List Addr)(H Z:Hp):Hp:=fun b=>if b∈A then H b else Z b
noncomputable def hU(A:List Addr)(Z:Hp):Hp:=fun b=>if b∈A then none else Z b
section
variable{K:Fg}{n:Str}{i:Nat}{A:List Addr}{x:Addr}{ds:List (Str×D)}{Z H:Hp}{δ:Dv}{σ:St}
theorem rM{b:Addr}(h:b∈A):Zp A H Z b=H b:=if_pos h
theorem jc{b:Addr}(h:b ∉ A):Zp A H Z b=Z b:=if_neg h
theorem vy{b:Addr}(h:b∈A):hU A Z b=none:=if_pos h
theorem ji{b:Addr}(h:b ∉ A):hU A Z b=Z b:=if_neg h
theorem lO(zn:∀b∈A,Z b=none):Same Z (Zp A H Z):=fun b o e=>by
 rw[jc (fun z=>by rw[zn b z]at e;cases e)];exact e
theorem OW.x_in(h:OW K n A x ds Z H):x∈A:=by obtain⟨C,dx,fs,_,_,rfl,_⟩:=h.ex;exact List.mem_cons_self ..
theorem zu:∀{fs:List (Str×V)} {ds:List (Str×D)},(∀b∈eN fs,b∈A)->Same Z (Zp A H Z)->Paired (FB K H Z) fs ds->Paired (fun(p:Str×V) (q:Str×D)=>p.1=q.1/\FF K (Zp A H Z) p.2 q.2) fs ds
 |[],[],_,_,.nil=>.nil
 | (g,v)::_,(g',y)::_,hs,s,.cons ⟨e,r⟩ t=>by
  cases r with
  |int i=>exact .cons ⟨e,.int i⟩ (zu (fun b hb=>hs b hb) s t)
  |lst q r=>exact .cons ⟨e,.lst (by rw[rM (hs _ (List.mem_cons_self ..))];exact q) (Paired.mapP r fun _ _=>FI.same s)⟩ (zu (fun b hb=>hs b (List.mem_cons_of_mem _ hb)) s t)
theorem OW.rep(h:OW K n A x ds Z H):Rep K (Zp A H Z) (.ref x) (insD n ds):=by
 have hx:=h.x_in;obtain⟨C,dx,fs,h1,h2,rfl,h4⟩:=h.ex;exact .opq (.ins h1 (by rw[rM hx];exact h2) (zu (fun b hb=>List.mem_cons_of_mem _ hb) (lO h.zn) h4))
theorem HoldW.frz(h:HoldW K n i A x ds Z δ σ H):Hold K H (Zp A H Z) (Zp A H Z) δ σ H where
 zh:=fun b o e=>by
  by_cases q:b∈A
  ·rw[rM q]at e;exact e
  ·rw[jc q]at e;exact h.zh b o e
 h0:=Same.refl _
 z0:=Same.refl _
 zb:=fun _ _=>rfl
 len:=h.len
 fz:=fun j d e=>by
  by_cases q:j=i
  ·subst q
   rw[h.dat]at e;cases e;exact⟨_,h.at_,h.ob.rep⟩
  ·obtain⟨v,h1,h2⟩:=h.fz j d q e
   exact⟨v,h1,h2.same (lO h.ob.zn)⟩
 own:=fun j c e=>absurd e (h.now j c)
 dja:=fun j k c c' a _ e=>absurd e (h.now j c)
 fr:=fun j l e=>absurd e (h.nfr j l)
 nf:=NoF.refl _
theorem FB.imp{H' Z':Hp}(s:Same Z Z'):∀{fs:List (Str×V)} {ds:List (Str×D)},(∀b∈eN fs,∀o,H b=some o->H' b=some o)->Paired (FB K H Z) fs ds->Paired (FB K H' Z') fs ds
 |[],[],_,.nil=>.nil
 | (g,v)::_,(g',y)::_,hs,.cons ⟨e,r⟩ t=>by
  cases r with
  |int i=>exact .cons ⟨e,.int i⟩ (FB.imp s (fun b hb=>hs b hb) t)
  |lst q r=>exact .cons ⟨e,.lst (hs _ (List.mem_cons_self ..) _ q) (Paired.mapP r fun _ _=>FI.same s)⟩ (FB.imp s (fun b hb=>hs b (List.mem_cons_of_mem _ hb)) t)
theorem OW.same{Z' H':Hp}(h:OW K n A x ds Z H)(s:Same Z Z')(hs:Same H H')(zn:∀b∈A,Z' b=none):OW K n A x ds Z' H':=by
 obtain⟨C,dx,fs,h1,h2,h3,h4⟩:=h.ex;exact⟨⟨C,dx,fs,h1,hs _ _ h2,h3,FB.imp s (fun b _ o e=>hs b o e) h4⟩,h.nd,zn⟩
theorem uJ{b:Addr}:∀{fs:List (Str×V)} {ds:List (Str×D)},Paired (FB K H Z) fs ds->b∈eN fs->∃xs,H b=some (.lst xs)
 |_,_,.nil,h=>by cases h
 |_,_,.cons (a:=(g,v)) (b:=(g',y)) ⟨e,r⟩ t,h=>by
  cases r with
  |int i=>exact uJ t h
  |lst q r=>
   rcases List.mem_cons.mp h with z|z
   ·subst z;exact⟨_,q⟩
   ·exact uJ t z
theorem OW.at_(h:OW K n A x ds Z H){b:Addr}(hb:b∈A):(∃C dx fs,H b=some (.ins C dx fs))\/∃xs,H b=some (.lst xs):=by
 obtain⟨C,dx,fs,h1,h2,rfl,h4⟩:=h.ex;rcases List.mem_cons.mp hb with z|z
 ·subst z;exact .inl ⟨_,_,_,h2⟩
 ·exact .inr (uJ h4 z)
theorem OW.some(h:OW K n A x ds Z H){b:Addr}(hb:b∈A):H b≠none:=by
 rcases h.at_ hb with⟨_,_,_,e⟩|⟨_,e⟩<;>(rw[e];intro z;cases z)
mutual
theorem Rep.tups{K:Fg}{Z Z':Hp}(s:∀b xs,Rd Z b (.tup xs)->Rd Z' b (.tup xs)):∀{v:V} {d:D},Rep K Z v d->pU d=true->Rep K Z' v d
 |_,_,.non,_=>.non
 |_,_,.bl b,_=>.bl b
 |_,_,.int i,_=>.int i
 |_,_,.str x,_=>.str x
 |_,_,.tup h r,e=>.tup (h.elim (fun q=>.inl (s _ _ q)) .inr) (Reps.tups s r e)
 |_,_,.lst h r,e=>nomatch e
 |_,_,.opq h,e=>nomatch e
 |_,_,.gdc _ _ _ _,e=>nomatch e
theorem Reps.tups{K:Fg}{Z Z':Hp}(s:∀b xs,Rd Z b (.tup xs)->Rd Z' b (.tup xs)):∀{vs:List V} {ds:List D},Reps K Z vs ds->noLs ds=true->Reps K Z' vs ds
 |_,_,.nil,_=>.nil
 |_,_,.cons h r,e=>.cons (Rep.tups s h (Bool.and_eq_true_iff.mp e).1) (Reps.tups s r (Bool.and_eq_true_iff.mp e).2)
end
structure Thaw (K:Fg) (n:Str) (i:Nat) (A:List Addr) (x:Addr) (ds:List (Str×D)) (Z:Hp) (δ:Dv) (σ:St) (H Z1 H1:Hp):Prop where
 w:HoldW K n i A x ds (hU A Z1) δ σ H1
 k:Kept A Z H (hU A Z1) H1
 t:∀b xs,Rd Z1 b (.tup xs)->Rd (hU A Z1) b (.tup xs)
 s:Same H H1
theorem HoldW.thaw(h:HoldW K n i A x ds Z δ σ H){Z1 H1:Hp}(g:Hold K H (Zp A H Z) Z1 δ σ H1):Thaw K n i A x ds Z δ σ H Z1 H1:=by
 have z1:∀b∈A,Z1 b=H b:=fun b hb=>by rw[g.zb b (h.ob.some hb),rM hb]
 have s:Same Z (hU A Z1):=fun b o e=>by
  have hb:b ∉ A:=fun z=>by rw[h.ob.zn b z]at e;cases e
  rw[ji hb];exact g.z0 b o (by rw[jc hb];exact e)
 have zh:Same (hU A Z1) H1:=fun b o e=>by
  by_cases q:b∈A
  ·rw[vy q]at e;cases e
  ·rw[ji q]at e;exact g.zh b o e
 refine⟨⟨zh,h.len,h.at_,h.dat,h.ob.same s g.h0 fun b hb=>vy hb,fun j d q e=>?_,h.now,h.nfr⟩,⟨s,fun b o _ e=>g.h0 b o e,zh,fun b hb=>?_,fun b hb=>?_,fun b o xs e=>?_⟩,fun b xs r=>?_,g.h0⟩
 ·obtain⟨v,h1,h2⟩:=h.fz j d q e
  exact⟨v,h1,h2.same s⟩
 ·by_cases q:b∈A
  ·rw[vy q,h.ob.zn b q]
  ·rw[ji q,g.zb b hb,jc q]
 ·cases e:H b with
  |none=>exact absurd e hb
  |some o=>rw[g.h0 b o e];intro z;cases z
 ·have q:b ∉ A:=fun z=>by rw[vy z]at e;cases e
  rw[ji q]at e;have:=g.nf b o xs e
  rwa [jc q]at this
 ·have q:b ∉ A:=fun z=>by
   rcases h.ob.at_ z with⟨_,_,_,e⟩|⟨_,e⟩<;>(rcases r with r|⟨o,r⟩<;>(rw[z1 b z,e]at r;cases r))
  rcases r with r|⟨o,r⟩
  ·exact .inl (by rw[ji q];exact r)
  ·exact .inr ⟨o,by rw[ji q];exact r⟩
theorem HoldW.set(h:HoldW K n i A x ds Z δ σ H){j:Nat}{v:V}{d:D}(hj:i≠j)(r:Rep K Z v d):HoldW K n i A x ds Z (δ.set j (.fz d)) (σ.set j (some v)) H where
 zh:=h.zh
 len:=by simp[h.len]
 at_:=by rw[List.getElem?_set_ne (Ne.symm hj)];exact h.at_
 dat:=by rw[List.getElem?_set_ne (Ne.symm hj)];exact h.dat
 ob:=h.ob
 fz:=fun k e hk q=>by
  by_cases hjk:j=k
  ·subst hjk
   have hl:j < δ.length:=by have:=(List.getElem?_eq_some_iff.mp q).1;simpa using this
   rw[List.getElem?_set_self hl]at q;cases q;exact⟨v,List.getElem?_set_self (by rw[<-h.len];exact hl),r⟩
  ·rw[List.getElem?_set_ne hjk]at q
   obtain⟨u,a,b⟩:=h.fz k e hk q;exact⟨u,by rw[List.getElem?_set_ne hjk];exact a,b⟩
 now:=fun k c q=>by
  by_cases hjk:j=k
  ·subst hjk
   have hl:j < δ.length:=by have:=(List.getElem?_eq_some_iff.mp q).1;simpa using this
   rw[List.getElem?_set_self hl]at q;cases q
  ·rw[List.getElem?_set_ne hjk]at q;exact h.now k c q
 nfr:=fun k c q=>by
  by_cases hjk:j=k
  ·subst hjk
   have hl:j < δ.length:=by have:=(List.getElem?_eq_some_iff.mp q).1;simpa using this
   rw[List.getElem?_set_self hl]at q;cases q
  ·rw[List.getElem?_set_ne hjk]at q;exact h.nfr k c q
theorem HoldW.chg(h:HoldW K n i A x ds Z δ σ H){ds':List (Str×D)}{Z' H':Hp}{A':List Addr}(zz:Same Z Z')(zh:Same Z' H')(ob:OW K n A' x ds' Z' H'):HoldW K n i A' x ds' Z' (δ.set i (.fz (insD n ds'))) σ H' where
 zh:=zh
 len:=by simp[h.len]
 at_:=h.at_
 dat:=List.getElem?_set_self (List.getElem?_eq_some_iff.mp h.dat).1
 ob:=ob
 fz:=fun k e hk q=>by
  rw[List.getElem?_set_ne (Ne.symm hk)]at q;obtain⟨u,a,b⟩:=h.fz k e hk q;exact⟨u,a,b.same zz⟩
 now:=fun k c q=>by
  by_cases hk:i=k
  ·subst hk
   rw[List.getElem?_set_self (List.getElem?_eq_some_iff.mp h.dat).1]at q;cases q
  ·rw[List.getElem?_set_ne hk]at q;exact h.now k c q
 nfr:=fun k c q=>by
  by_cases hk:i=k
  ·subst hk
   rw[List.getElem?_set_self (List.getElem?_eq_some_iff.mp h.dat).1]at q;cases q
  ·rw[List.getElem?_set_ne hk]at q;exact h.nfr k c q
theorem q9{f:Str}{us:List D}:∀{fs:List (Str×V)} {ds:List (Str×D)},Paired (FB K H Z) fs ds->af f ds=some (.list us)->∃b xs,fs.lookup f=some (.ref b)/\H b=some (.lst xs)/\Paired (FI K Z) xs us/\b∈eN fs
 |_,_,.nil,h=>by cases h
 |_,_,.cons (a:=(g,v)) (b:=(g',y)) ⟨e,r⟩ t,h=>by
  obtain rfl:g=g':=e;unfold af at h;by_cases q:g=f
  ·rw[if_pos q]at h;cases h
   cases r with
   |lst r1 r2=>exact⟨_,_,by rw[List.lookup_cons];simp[q],r1,r2,List.mem_cons_self ..⟩
  ·rw[if_neg q]at h
   obtain⟨b,xs,h1,h2,h3,h4⟩:=q9 t h;refine⟨b,xs,?_,h2,h3,?_⟩
   ·rw[List.lookup_cons]
    have:(f==g)=false:=by simpa using fun z=>q z.symm
    rw[this];exact h1
   ·cases r with
    |int i=>exact h4
    |lst _ _=>exact List.mem_cons_of_mem _ h4
theorem vN{f:Str}:∀{fs:List (Str×V)} {ds:List (Str×D)},Paired (FB K H Z) fs ds->af f ds=none->fs.lookup f=none
 |_,_,.nil,h=>rfl
 |_,_,.cons (a:=(g,v)) (b:=(g',y)) ⟨e,r⟩ t,h=>by
  obtain rfl:g=g':=e;unfold af at h;by_cases q:g=f
  ·rw[if_pos q]at h;cases h
  ·rw[if_neg q]at h
   rw[List.lookup_cons];have:(f==g)=false:=by simpa using fun z=>q z.symm
   rw[this];exact vN t h
theorem rf:∀{fs:List (Str×V)} {ds:List (Str×D)},Paired (FB K H Z) fs ds->fs.length=ds.length
 |_,_,.nil=>rfl
 |_,_,.cons _ t=>congrArg (· + 1) (rf t)
theorem nQ{b:Addr}{o:HO}{fs:List (Str×V)}{ds:List (Str×D)}(h:Paired (FB K H Z) fs ds)(hb:b ∉ eN fs):Paired (FB K (upd H b o) Z) fs ds:=
 FB.imp (Same.refl _) (fun c hc u e=>by rw[ak (fun z:c=b=>hb (by rw[<-z];exact hc))];exact e) h
theorem uK{f:Str}{us us':List D}{b:Addr}{xs':List V}(r':Paired (FI K Z) xs' us'):∀{fs:List (Str×V)} {ds:List (Str×D)},Paired (FB K H Z) fs ds->(eN fs).Nodup->fs.lookup f=some (.ref b)->af f ds=some (.list us)->Paired (FB K (upd H b (.lst xs')) Z) fs (cM f (.list us') ds)
 |_,_,.nil,_,h,_=>by cases h
 |_,_,.cons (a:=(g,v)) (b:=(g',y)) ⟨e,r⟩ t,nd,h,hl=>by
  obtain rfl:g=g':=e;unfold af at hl;unfold cM;by_cases q:g=f
  ·rw[List.lookup_cons]at h
   have:(f==g)=true:=by simpa using q.symm
   rw[this]at h;cases h;rw[if_pos q];have nd':(b::eN _).Nodup:=nd;exact .cons ⟨rfl,.lst aw r'⟩ (nQ t (List.nodup_cons.mp nd').1)
  ·rw[if_neg q]at hl
   have:(f==g)=false:=by simpa using fun z=>q z.symm
   rw[List.lookup_cons,this]at h;rw[if_neg q];obtain⟨b',xs,g1,g2,g3,g4⟩:=q9 t hl;rw[show(List.lookup f _=some (V.ref b))from h]at g1;cases g1;cases r with
   |int i=>exact .cons ⟨rfl,.int i⟩ (uK r' t nd h hl)
   | @lst c ys es r1 r2=>
    have nd':(c::eN _).Nodup:=nd;refine .cons ⟨rfl,.lst (by rw[ak (fun z:c=b=>(List.nodup_cons.mp nd').1 (by rw[z];exact g4))];exact r1) r2⟩ (uK r' t (List.nodup_cons.mp nd').2 h hl)
theorem zt{f:Str}{i j:Int}:∀{fs:List (Str×V)} {ds:List (Str×D)},Paired (FB K H Z) fs ds->af f ds=some (.int i)->Paired (FB K H Z) (dA f (.int j) fs) (cM f (.int j) ds)/\eN (dA f (.int j) fs)=eN fs
 |_,_,.nil,h=>by cases h
 |_,_,.cons (a:=(g,v)) (b:=(g',y)) ⟨e,r⟩ t,h=>by
  obtain rfl:g=g':=e;unfold af at h;unfold cM dA;by_cases q:g=f
  ·rw[if_pos q]at h ⊢
   cases h;rw[if_pos q];cases r with
   |int _=>exact⟨.cons ⟨rfl,.int j⟩ t,rfl⟩
  ·rw[if_neg q]at h ⊢
   rw[if_neg q];obtain⟨h1,h2⟩:=zt (j:=j) t h;refine⟨.cons ⟨rfl,r⟩ h1,?_⟩;cases r with
   |int _=>exact h2
   |lst _ _=>exact congrArg (_ :: ·) h2
end
theorem du{p:Prop}[Decidable p]{α:Type}{o:Option α}{y:α}(h:(if p then o else none)=some y):p/\o=some y:=by
 by_cases q:p
 ·rw[if_pos q]at h;exact⟨q,h⟩
 ·rw[if_neg q]at h;cases h
def Kn(K:Fg)(n:Str)(i:Nat)(f:Sf):TS:=fun D σ H=>∃A x ds Z δ r,HoldW K n i A x ds Z δ σ H/\f δ = some r/\∀ σ' H' Z' ds',HoldW K n i A x ds' Z' r.2 σ' H'->Kept A Z H Z' H'->r.1.to K Z' D σ' H'
def zM(X:Cx)(n:Str)(i:Nat)(st:Stmt)(f:Sf):Prop:=PS X st (Kn X.K n i f)
def FV(X:Cx)(n:Str)(i:Nat)(sts:List Stmt)(f:Sf):Prop:=PSs X sts (Kn X.K n i f)
def zP(K:Fg)(n:Str)(g:List (Str×D)->List D->Option (List (Str×D))):Sp:=fun vs H Q _=>∃Z A x ws ds as ds',vs=.ref x::ws/\Same Z H/\OW K n A x ds Z H/\Reps K Z ws as/\g ds as=some ds' /\
 ∀Z' H',Kept A Z H Z' H'->OW K n A x ds' Z' H'->Q .non H'
structure CalW (P:Program) (w:World) (K:PySem.W.Frag) (mg:Str->Option Value) (base:Heap) (n m:Str) (k:Nat) (g:List (Str×D)->List D->Option (List (Str×D))):Prop where
 ex:∃(C fa:Addr) (fd:FuncData) (ps:List Str),PySem.W.nsIn K mainGlobals n=some (some (.ref C))/\Cls K C/\Meth K C m fa/\FnOk P w K mg base dE k fa fd ps (zP K n g)/\Binds K fd ps []
structure CalV (P:Program) (w:World) (K:PySem.W.Frag) (mg:Str->Option Value) (base:Heap) (n m:Str) (k:Nat) (g:List D->Option D):Prop where
 ex:∃(C fa:Addr) (fd:FuncData) (ps:List Str),PySem.W.nsIn K mainGlobals n=some (some (.ref C))/\Cls K C/\Meth K C m fa/\FnOk P w K mg base dE k fa fd ps (kW K g)/\Binds K fd ps []
section
variable{K:Fg}{n:Str}{i:Nat}{A:List Addr}{x:Addr}{ds:List (Str×D)}{Z H:Hp}{δ:Dv}{σ:St}
theorem HoldW.list(h:HoldW K n i A x ds Z δ σ H){f:Str}{us us':List D}(hl:af f ds=some (.list us)):∃C dx fs b xs,PySem.W.nsIn K mainGlobals n=some (some (.ref C))/\H x=some (.ins C dx fs)/\fs.lookup f=some (.ref b)/\H b=some (.lst xs)/\Paired (FI K Z) xs us:=by
 obtain⟨C,dx,fs,h1,h2,rfl,h4⟩:=h.ob.ex;obtain⟨b,xs,g1,g2,g3,g4⟩:=q9 h4 hl;exact⟨C,dx,fs,b,xs,h1,h2,g1,g2,g3⟩
theorem HoldW.put(h:HoldW K n i A x ds Z δ σ H){C dx b:Addr}{fs:List (Str×V)}{f:Str}{us us':List D}{xs':List V}(hx:H x=some (.ins C dx fs))(hb:fs.lookup f=some (.ref b))(hl:af f ds=some (.list us))(r:Paired (FI K Z) xs' us'):
  HoldW K n i A x (cM f (.list us') ds) Z (δ.set i (.fz (insD n (cM f (.list us') ds)))) σ (upd H b (.lst xs'))/\b∈A/\Z b=none:=by
 obtain⟨C',dx',fs',h1,h2,e,h4⟩:=h.ob.ex;rw[hx]at h2;cases h2;obtain⟨b',xs,g1,g2,g3,g4⟩:=q9 h4 hl;rw[hb]at g1;cases g1;have nd:=h.ob.nd;rw[e]at nd;have hbA:b∈A:=by rw[e];exact List.mem_cons_of_mem _ g4
 have hz:=h.ob.zn b hbA;have hxb:x≠b:=fun z=>(List.nodup_cons.mp nd).1 (by rw[z];exact g4)
 refine⟨h.chg (Same.refl _) (fun c o q=>by rw[ak (aH q hz)];exact h.zh c o q) ⟨⟨C,dx,fs,h1,by rw[ak hxb];exact hx,e,uK r h4 (List.nodup_cons.mp nd).2 hb hl⟩,h.ob.nd,h.ob.zn⟩,hbA,hz⟩
theorem vO{f:Str}:∀{fs:List (Str×V)} {ds:List (Str×D)},Paired (FA K Z) fs ds->af f ds=none->fs.lookup f=none
 |_,_,.nil,h=>rfl
 |_,_,.cons (a:=(g,v)) (b:=(g',y)) ⟨e,r⟩ t,h=>by
  obtain rfl:g=g':=e;unfold af at h;by_cases q:g=f
  ·rw[if_pos q]at h;cases h
  ·rw[if_neg q]at h
   rw[List.lookup_cons];have:(f==g)=false:=by simpa using fun z=>q z.symm
   rw[this];exact vO t h
theorem lY:∀{xs:List V} {us:List D},Paired (FI K Z) xs us->xs.length=us.length
 |_,_,.nil=>rfl
 |_,_,.cons _ t=>congrArg (· + 1) (lY t)
theorem vk{v:V}{d:D}(r:FI K Z v d):∀{xs:List V} {us:List D} (m:Nat),Paired (FI K Z) xs us->Paired (FI K Z) (xs.set m v) (us.set m d)
 |_,_,_,.nil=>.nil
 |_,_,0,.cons _ t=>.cons r t
 |_,_,m+1,.cons q t=>.cons q (vk r m t)
theorem qF:∀{xs ys:List V} {us ws:List D},Paired (FI K Z) xs us->Paired (FI K Z) ys ws->Paired (FI K Z) (xs++ys) (us++ws)
 |_,_,_,_,.nil,q=>q
 |_,_,_,_,.cons r t,q=>.cons r (qF t q)
theorem ut{d:D}(h:kj d=true):pU d=true:=by
 cases d with
 |int i=>rfl
 |tuple ds=>
  unfold kj at h;split at h
  ·rename_i q;cases q
  ·rename_i q;cases q;rfl
  ·cases h
 |_=>cases h
theorem qO:∀{ds:List D},ds.all kj=true->noLs ds=true
 |[],_=>rfl
 |d::r,h=>by
  rw[List.all_cons,Bool.and_eq_true]at h;exact Bool.and_eq_true_iff.mpr ⟨ut h.1,qO h.2⟩
end
section
variable{X:Cx}{n F m:Str}{i:Nat}{e b c:Expr}{es:List Expr}{st:Stmt}{sts body orelse:List Stmt}{s1 s2:Sf}{f fk fv:Dv->Option D}{fs:Dv->Option (List D)}{ft:Dv->Option Bool}{p p2 pos tpos apos cpos:Pos}
theorem bg(h1:zM X n i st s1):FV X n i [st] s1:=jL h1
theorem gx(h1:zM X n i st s1)(h2:FV X n i sts s2):FV X n i (st::sts) (aq s1 s2):=
 PSs.imp (fK h1 h2) fun D σ H h=>by
  obtain⟨A,x,ds,Z,δ,r,hh,e,k⟩:=h;obtain⟨⟨fl,δ'⟩,e1,e⟩:=bind_some e;refine⟨A,x,ds,Z,δ,(fl,δ'),hh,e1,fun σ' H' Z' ds' hh' s'=>?_⟩
  cases fl with
  |nx=>exact⟨A,x,ds',Z',δ',r,hh',e,fun σ2 H2 Z2 ds2 hh2 s2=>by
    have:=k σ2 H2 Z2 ds2 hh2 (s'.trans s2);obtain⟨fl,δ2⟩:=r;cases fl<;>exact this⟩
  |bk=>cases e;exact k σ' H' Z' ds' hh' s'
  |ct=>cases e;exact k σ' H' Z' ds' hh' s'
  |rt d=>cases e;exact k σ' H' Z' ds' hh' s'
theorem ij(hc:TV X c ft)(ha:FV X n i body s1)(hb:FV X n i orelse s2):zM X n i (.If c body orelse pos) (b5 ft s1 s2):=
 PS.imp (vg hc ha hb) fun D σ H h=>by
  obtain⟨A,x,ds,Z,δ,r,hh,e,k⟩:=h;obtain⟨y,e1,e⟩:=bind_some e;refine⟨H,_,_,δ,y,hh.frz,e1,fun Z1 H1 hh1 t1=>?_⟩
  have T:=hh.thaw hh1;cases y with
  |true=>exact⟨A,x,ds,_,δ,r,T.w,e,fun σ2 H2 Z2 ds2 hh2 t2=>k σ2 H2 Z2 ds2 hh2 (T.k.trans t2)⟩
  |false=>exact⟨A,x,ds,_,δ,r,T.w,e,fun σ2 H2 Z2 ds2 hh2 t2=>k σ2 H2 Z2 ds2 hh2 (T.k.trans t2)⟩
theorem u4(j:Nat){x:Str}{pos':Pos}(hN:X.N.Nodup)(he:EV X e f)(hij:i≠j:=by decide)(hi:X.N[j]? = some x:=by rfl)(hx:rL X.env.scope x:=by first|exact Or.inl rfl|exact Or.inr rfl)(hs:swapsWith e (some (.Name x pos')) pos.line X.env=pure false:=by rfl)
  (hf:X.fn x=true\/X.env.scope.names.lookup x=some .local:=by first|exact .inl rfl|exact .inr rfl|assumption):zM X n i (.Assign [.Name x pos'] e pos) (sr j f):=
 PS.imp (gH hN hi hx he hs hf) fun D σ H h=>by
  obtain⟨A,x,ds,Z,δ,r,hh,e,k⟩:=h;obtain⟨y,e1,e⟩:=bind_some e;split at e
  ·rename_i hno
   cases e;refine⟨H,_,_,δ,y,hh.frz,e1,fun v Z1 H1 hh1 t1 r1=>?_⟩
   have T:=hh.thaw hh1;exact k _ H1 _ ds (T.w.set hij (Rep.tups T.t r1 hno)) T.k
  ·cases e
theorem AC{x:Str}(cl:ClN X.K n)(na:NaN X.K n F)(he:EV X e f)(hN:X.N[i]? = some x:=by rfl)(hv:oH X.env.scope x:=by first|exact Or.inl rfl|exact Or.inr (Or.inl rfl)|exact Or.inr (Or.inr rfl))(hd:(x==("__debug__":Str))=false:=by decide)(hcd:(x==("__classdict__":Str))=false:=by decide)
  (hs:swapsWith e (some (.Attribute (.Name x p) F tpos)) pos.line X.env=pure false:=by rfl):zM X n i (.Assign [.Attribute (.Name x p) F tpos] e pos) (xL n i F f):=
 PS.imp (ui (cf hN hv hd hcd) he hs) fun D σ H h=>by
  obtain⟨A,x,ds,Z,δ,r,hh,e,k⟩:=h;obtain⟨y,e1,e⟩:=bind_some e;obtain⟨ds0,e2,e⟩:=bind_some e;obtain⟨l,e3,e⟩:=bind_some e;have e4:=gD e2;rw[hh.dat]at e4;injection e4 with e4
  injection e4 with e4
  injection e4 with e4
  obtain⟨_,rfl⟩:=dj e4;cases l with
  |int i0=>
   cases y with
   |int j=>
    obtain⟨hlen,e⟩:=cO e;cases e;refine⟨H,_,_,δ,_,hh.frz,e1,fun v Z1 H1 hh1 t1 r1=>?_⟩
    cases r1;have T:=hh.thaw hh1;refine⟨_,hh.at_,?_⟩;obtain⟨C,dx,fs,h1,h2,h3,h4⟩:=T.w.ob.ex;obtain⟨g1,g2⟩:=zt (j:=j) h4 e3;have nd:=T.w.ob.nd;rw[h3]at nd;have hxn:x ∉ eN (dA F (.int j) fs):=by rw[g2];exact(List.nodup_cons.mp nd).1
    refine⟨x,C,dx,fs,rfl,h2,cl.c C h1,na.c C h1,by rw[rf h4];exact hlen,k σ _ _ _ (T.w.chg (Same.refl _) (fun c o q=>?_) ⟨⟨C,dx,_,h1,aw,by rw[g2];exact h3,nQ g1 hxn⟩,T.w.ob.nd,T.w.ob.zn⟩) (T.k.upd T.w.ob.x_in (T.w.ob.zn _ T.w.ob.x_in) _)⟩;rw[ak (aH q (T.w.ob.zn _ T.w.ob.x_in))];exact T.w.zh c o q
   |_=>cases e
  |_=>cases e
theorem lU{x:Str}(cl:ClN X.K n)(na:NaN X.K n F)(hb:EV X b fk)(he:EV X e fv)(hN:X.N[i]? = some x:=by rfl)(hv:oH X.env.scope x:=by first|exact Or.inl rfl|exact Or.inr (Or.inl rfl)|exact Or.inr (Or.inr rfl))(hd:(x==("__debug__":Str))=false:=by decide)(hcd:(x==("__classdict__":Str))=false:=by decide)
  (hab:attributeBase (.Name x p) F X.env (eval (.Name x p) X.env)=eval (.Name x p) X.env:=by rfl)
  (hs:swapsWithSole [.Subscript (.Attribute (.Name x p) F apos) b tpos] e pos.line X.env=pure false:=by rfl) (hw:swappedStores [.Subscript (.Attribute (.Name x p) F apos) b tpos] e X.env=pure none:=by rfl)
  (ha:∀v,assign (.Subscript (.Attribute (.Name x p) F apos) b tpos) X.env v=(do
   let ov <-holding [v] (eval (.Attribute (.Name x p) F apos) X.env)
   let iv <-holding [v,ov] (eval b X.env)
   standAt tpos
   holding [v,ov,iv] (setItem ov iv v)
   release [v,ov,iv] []):=by intro _;rfl):zM X n i (.Assign [.Subscript (.Attribute (.Name x p) F apos) b tpos] e pos) (kY n i F fk fv):=
 PS.imp (xX he (ya (qG (cf hN hv hd hcd) hab) hb sf ha) hs hw) fun D σ H h=>by
  obtain⟨A,x,ds,Z,δ,r,hh,e,k⟩:=h;obtain⟨v,e1,e⟩:=bind_some e;obtain⟨y,e2,e⟩:=bind_some e;obtain⟨ds0,e3,e⟩:=bind_some e;obtain⟨l,e4,e⟩:=bind_some e;have e5:=gD e3;rw[hh.dat]at e5;injection e5 with e5
  injection e5 with e5
  injection e5 with e5
  obtain⟨_,rfl⟩:=dj e5;cases l with
  |list us=>
   obtain⟨hit,e⟩:=du e;obtain⟨us',e6,e⟩:=bind_some e;cases e;refine⟨H,_,_,δ,v,hh.frz,e1,fun w Z1 H1 hh1 t1 r1=>?_⟩
   have T:=hh.thaw hh1;have f1:=zr (Rep.tups T.t r1 (ut hit)) hit;obtain⟨C,dx,fs,c,xs,h1,h2,h3,h4,h5⟩:=T.w.list (us':=us') e4;refine⟨_,hh.at_,x,C,dx,fs,.ref c,rfl,h2,cl.c C h1,na.c C h1,h3,H1,_,_,δ,y,T.w.frz,e2,fun u Z2 H2 hh2 t2 r2=>?_⟩
   have T2:=T.w.thaw hh2;obtain⟨C',dx',fs',c',xs',q1,q2,q3,q4,q5⟩:=T2.w.list (us':=us') e4;rw[T2.s _ _ h2]at q2;cases q2;rw[h3]at q3;cases q3;cases r2 with
   |int j=>
    rw[sy]at e6;cases q:nC us.length j with
    |none=>rw[q]at e6;cases e6
    |some m=>
     rw[q]at e6;cases e6;obtain⟨P1,P2,P3⟩:=T2.w.put (T2.s _ _ h2) h3 e4 (vk (f1.same T2.k.z) m q5);exact⟨c,xs',j,m,rfl,rfl,q4,by rw[lY q5];exact q,k σ _ _ _ P1 ((T.k.trans T2.k).upd P2 P3 _)⟩
   |_=>cases e6
  |_=>cases e
theorem qq{x:Str}{fpos:Pos}(cl:ClN X.K n)(na:NaN X.K n F)(he:EV X e f)(hN:X.N[i]? = some x:=by rfl)(hv:oH X.env.scope x:=by first|exact Or.inl rfl|exact Or.inr (Or.inl rfl)|exact Or.inr (Or.inr rfl))(hd:(x==("__debug__":Str))=false:=by decide)(hcd:(x==("__classdict__":Str))=false:=by decide)
  (hab:attributeBase (.Name x p) F X.env (eval (.Name x p) X.env)=eval (.Name x p) X.env:=by rfl)
  (hbase:attributeBase (.Attribute (.Name x p) F fpos) "append" X.env (eval (.Attribute (.Name x p) F fpos) X.env)=eval (.Attribute (.Name x p) F fpos) X.env:=by rfl)
  (hfew:((backTo cpos (starEach [e] X.env)).all (fun x=>!x.1)&&(backToKw cpos (keywordEach [] X.env)).all (fun x=>x.1.isSome)
   && decide ([e].length+([]:List Keyword).length+(if([]:List Keyword).isEmpty then 0 else 1)<30))=true:=by rfl)
  (hline:(apos.endLine==cpos.line)=true:=by rfl) (hs:starEach [e] X.env=(false,eval e X.env)::starEach [] X.env:=by rfl) (hplain:(backTo cpos (starEach [] X.env)).any (·.1)=false:=by rfl)
  (hsw:swapsWith (.Call (.Attribute (.Attribute (.Name x p) F fpos) "append" apos) [e] [] cpos) none pos.line X.env=pure false:=by rfl):zM X n i (.Expr (.Call (.Attribute (.Attribute (.Name x p) F fpos) "append" apos) [e] [] cpos) pos) (mJ n i F f):=
 PS.imp (iN (yf PySem.F.plainAttrs_list PySem.F.slot_list_append PySem.F.type_list_append pV (qG (cf hN hv hd hcd) hab) (cH he f7 hs) hbase hfew hline hs hplain) hsw) fun D σ H h=>by
  obtain⟨A,x,ds,Z,δ,r,hh,e,k⟩:=h;obtain⟨v,e1,e⟩:=bind_some e;obtain⟨ds0,e3,e⟩:=bind_some e;obtain⟨l,e4,e⟩:=bind_some e;have e5:=gD e3;rw[hh.dat]at e5;injection e5 with e5
  injection e5 with e5
  injection e5 with e5
  obtain⟨_,rfl⟩:=dj e5;cases l with
  |list us=>
   obtain⟨⟨hit,hl⟩,e⟩:=du e;cases e;obtain⟨C,dx,fs,c,xs,h1,h2,h3,h4,h5⟩:=hh.list (us':=us) e4;refine⟨_,hh.at_,x,C,dx,fs,.ref c,rfl,h2,cl.c C h1,na.c C h1,h3,.inl ⟨rfl,xs,SqL.of h4⟩,H,_,_,δ,v,hh.frz,e1,fun w Z1 H1 hh1 t1 r1=>?_⟩
   have T:=hh.thaw hh1;have f1:=zr (Rep.tups T.t r1 (ut hit)) hit;obtain⟨C',dx',fs',c',xs',q1,q2,q3,q4,q5⟩:=T.w.list (us':=us) e4;rw[T.s _ _ h2]at q2;cases q2;rw[h3]at q3;cases q3;obtain⟨P1,P2,P3⟩:=T.w.put (T.s _ _ h2) h3 e4 (qF q5 (.cons f1 .nil));exact⟨c,xs',w,rfl,rfl,q4,by rw[lY q5];exact hl,k σ _ _ _ P1 (T.k.upd P2 P3 _)⟩
  |_=>cases e
theorem AD{x:Str}{fpos:Pos}(cl:ClN X.K n)(na:NaN X.K n F)(he:EV X e f)(hN:X.N[i]? = some x:=by rfl)(hv:oH X.env.scope x:=by first|exact Or.inl rfl|exact Or.inr (Or.inl rfl)|exact Or.inr (Or.inr rfl))(hd:(x==("__debug__":Str))=false:=by decide)(hcd:(x==("__classdict__":Str))=false:=by decide)
  (hab:attributeBase (.Name x p) F X.env (eval (.Name x p) X.env)=eval (.Name x p) X.env:=by rfl)
  (hbase:attributeBase (.Attribute (.Name x p) F fpos) "extend" X.env (eval (.Attribute (.Name x p) F fpos) X.env)=eval (.Attribute (.Name x p) F fpos) X.env:=by rfl)
  (hfew:((backTo cpos (starEach [e] X.env)).all (fun x=>!x.1)&&(backToKw cpos (keywordEach [] X.env)).all (fun x=>x.1.isSome)
   && decide ([e].length+([]:List Keyword).length+(if([]:List Keyword).isEmpty then 0 else 1)<30))=true:=by rfl)
  (hline:(apos.endLine==cpos.line)=true:=by rfl) (hs:starEach [e] X.env=(false,eval e X.env)::starEach [] X.env:=by rfl) (hplain:(backTo cpos (starEach [] X.env)).any (·.1)=false:=by rfl)
  (hsw:swapsWith (.Call (.Attribute (.Attribute (.Name x p) F fpos) "extend" apos) [e] [] cpos) none pos.line X.env=pure false:=by rfl):zM X n i (.Expr (.Call (.Attribute (.Attribute (.Name x p) F fpos) "extend" apos) [e] [] cpos) pos) (xM n i F f):=
 PS.imp (iN (yf PySem.F.plainAttrs_list PySem.F.slot_list_extend PySem.F.type_list_extend Bo (qG (cf hN hv hd hcd) hab) (cH he f7 hs) hbase hfew hline hs hplain) hsw) fun D σ H h=>by
  obtain⟨A,x,ds,Z,δ,r,hh,e,k⟩:=h;obtain⟨v,e1,e⟩:=bind_some e;obtain⟨ds0,e3,e⟩:=bind_some e;obtain⟨l,e4,e⟩:=bind_some e;have e5:=gD e3;rw[hh.dat]at e5;injection e5 with e5
  injection e5 with e5
  injection e5 with e5
  obtain⟨_,rfl⟩:=dj e5;cases l with
  |list us=>
   cases v with
   |list ws=>
    obtain⟨⟨hit,hl⟩,e⟩:=du e;cases e;obtain⟨C,dx,fs,c,xs,h1,h2,h3,h4,h5⟩:=hh.list (us':=us) e4;refine⟨_,hh.at_,x,C,dx,fs,.ref c,rfl,h2,cl.c C h1,na.c C h1,h3,.inl ⟨rfl,xs,SqL.of h4⟩,H,_,_,δ,_,hh.frz,e1,fun w Z1 H1 hh1 t1 r1=>?_⟩
    have T:=hh.thaw hh1;obtain⟨C',dx',fs',c',xs',q1,q2,q3,q4,q5⟩:=T.w.list (us':=us) e4;rw[T.s _ _ h2]at q2;cases q2;rw[h3]at q3;cases q3;cases r1 with
    |lst s1 s2=>
     have f1:=uI (Reps.tups T.t s2 (qO hit)) hit;obtain⟨P1,P2,P3⟩:=T.w.put (T.s _ _ h2) h3 e4 (qF q5 f1);exact⟨c,_,xs',_,rfl,rfl,q4,SqL.same s1 hh1.zh,by rw[lY q5,s2.length];exact hl,k σ _ _ _ P1 (T.k.upd P2 P3 _)⟩
   |_=>cases e
  |_=>cases e
theorem cU{x:Str}{k:Nat}{g:List (Str×D)->List D->Option (List (Str×D))}{pl:Sem Bool}(C:CalW X.prog X.w X.K X.mg X.base n m k g)(hr:Room k X.A)(ha:AV X (e::es) fs)(hN:X.N[i]? = some x:=by rfl)(hv:oH X.env.scope x:=by first|exact Or.inl rfl|exact Or.inr (Or.inl rfl)|exact Or.inr (Or.inr rfl))(hd:(x==("__debug__":Str))=false:=by decide)(hcd:(x==("__classdict__":Str))=false:=by decide)
  (hst:starEach (e::es) X.env=(false,eval e X.env)::starEach es X.env:=by rfl) (hpl:(backTo cpos (starEach es X.env)).any (·.1)=false:=by rfl)
  (ht:eval (.Call (.Attribute (.Name x p) m apos) (e::es) [] cpos) X.env=(do
   let ov <-eval (.Name x p) X.env
   standAt apos.atName
   let (f,first) <-holding [ov] (getMethod ov m pl)
   callWith cpos f first (backTo cpos (starEach (e::es) X.env)) (backToKw cpos (keywordEach [] X.env))):=by rfl)
  (hs:swapsWith (.Call (.Attribute (.Name x p) m apos) (e::es) [] cpos) none pos.line X.env=pure false:=by rfl):zM X n i (.Expr (.Call (.Attribute (.Name x p) m apos) (e::es) [] cpos) pos) (bV n i m fs g):=by
 obtain⟨C0,fa,fd,ps,hC,hcl,hm,F,hb⟩:=C.ex;refine PS.imp (iN (vm (cf hN hv hd hcd) hcl hm F hr hb .nil pS ha hst hpl ht) hs) fun D σ H h=>?_
 obtain⟨A,x,ds,Z,δ,r,hh,e,kk⟩:=h;obtain⟨ds0,e3,e⟩:=bind_some e;obtain⟨as,e1,e⟩:=bind_some e;obtain⟨⟨e2,hno⟩,e⟩:=du e;obtain⟨ds',e4,e⟩:=bind_some e;cases e;have e5:=gD e3;rw[hh.dat]at e5;injection e5 with e5
 injection e5 with e5
 injection e5 with e5
 obtain⟨_,rfl⟩:=dj e5;obtain⟨C,dx,gs,h1,h2,h3,h4⟩:=hh.ob.ex;rw[hC]at h1;cases h1;refine⟨_,hh.at_,x,dx,gs,rfl,h2,vN h4 e2,H,_,_,δ,as,hh.frz,e1,fun vs Z1 H1 hh1 t1 r1=>?_⟩
 have T:=hh.thaw hh1;refine⟨_,A,x,vs,ds,as,ds',by simp,T.w.zh,T.w.ob,Reps.tups T.t r1 hno,e4,fun Z' H' K' O'=>?_⟩
 exact kk σ H' Z' ds' (T.w.chg K'.z K'.zh O') (T.k.trans K')
theorem rg{o:Expr}{k:Nat}{g:List D->Option D}{pl:Sem Bool}(C:CalV X.prog X.w X.K X.mg X.base n m k g)(hr:Room k X.A)(ho:EV X o f)(ha:AV X (e::es) fs)
  (hst:starEach (e::es) X.env=(false,eval e X.env)::starEach es X.env:=by rfl) (hpl:(backTo cpos (starEach es X.env)).any (·.1)=false:=by rfl)
  (ht:eval (.Call (.Attribute o m apos) (e::es) [] cpos) X.env=(do
   let ov <-eval o X.env
   standAt apos.atName
   let (f,first) <-holding [ov] (getMethod ov m pl)
   callWith cpos f first (backTo cpos (starEach (e::es) X.env)) (backToKw cpos (keywordEach [] X.env))):=by rfl):EV X (.Call (.Attribute o m apos) (e::es) [] cpos) (m6 n m f fs g):=by
 obtain⟨C0,fa,fd,ps,hC,hcl,hm,F,hb⟩:=C.ex;refine PE.imp (vm ho hcl hm F hr hb .nil pS ha hst hpl ht) fun σ H Q h=>?_
 obtain⟨H₀,Z₀,Z,δ,d,hh,e,kk⟩:=h;obtain⟨y,e1,e⟩:=bind_some e;obtain⟨ds,e2,e⟩:=bind_some e;obtain⟨e3,e⟩:=du e;obtain⟨as,e4,e⟩:=bind_some e;refine⟨H₀,Z₀,Z,δ,y,hh,e1,fun v Z1 H1 hh1 t1 r1=>?_⟩
 have r1':=r1;rw[qM e2]at r1';obtain⟨a,C',dx,gs,rfl,hC',hz,hp⟩:=yZ r1';rw[hC]at hC';cases hC';refine⟨a,dx,gs,rfl,hh1.zh _ _ hz,vO hp e3,H₀,Z₀,Z1,δ,as,hh1,e4,fun vs Z2 H2 hh2 t2 r2=>?_⟩
 exact⟨Z2,y::as,d,hh2.zh,by simpa using Reps.cons (r1.same t2) r2,e,fun w Z3 H3 nw r3=>kk w Z3 H3 (hh2.new nw) ((t1.trans t2).trans nw.z) r3⟩
end
noncomputable def xO(i j:Nat)(fs:Dv->Option (List D))(b:Sf):Sf:=fun δ=>(fs (δ.set i .un)).bind fun ds=>loop (gN j) b ds δ
noncomputable def su(n F:Str)(f:Dv->Option D):Sf:=fun δ=>(f δ).bind fun v=>(jC n δ[0]?).bind fun ds=>match v with
 |.int j=>if af F ds=none/\ds.length<1000 then some (.nx,δ.set 0 (.fz (insD n (cM F (.int j) ds))))else none
 |_=>none
noncomputable def pP(n F:Str)(f:Dv->Option (List D)):Sf:=fun δ=>(f δ).bind fun us=>(jC n δ[0]?).bind fun ds=>if af F ds=none/\ds.length<1000/\us.all kj=true then some (.nx,δ.set 0 (.fz (insD n (cM F (.list us) ds))))else none
noncomputable def DB(n:Str)(N:List Str)(l:Nat)(b:Sf):List D->Option (List (Str×D)):=fun as=>if as.length+1=l then(b (az N (insD n []::as))).bind fun r=>match r with
  | (.nx,δ)=>jC n δ[0]?
  |_=>none
 else none
noncomputable def uk:Sl->Bool
 |.un=>true
 |.fz _=>true
 |_=>false
noncomputable def Dy(n:Str)(i:Nat)(fs:Dv->Option (List D))(g:List D->Option (List (Str×D)))(s1 s2:Sf):Sf:=fun δ=>if δ.all uk=true/\i < δ.length then(fs δ).bind fun as=>(g as).bind fun ds=>(s1 (δ.set i (.fz (insD n ds)))).bind fun r=>match r with
  | (.nx,δ')=>s2 δ'
  |_=>none
 else none
section
variable{K:Fg}{n:Str}{i:Nat}{A:List Addr}{x:Addr}{ds:List (Str×D)}{Z H:Hp}{δ:Dv}{σ:St}
theorem lh{N:List Str}{ws:List V}{as:List D}(zh:Same Z H)(ob:OW K n A x ds Z H)(r:Reps K Z ws as):HoldW K n 0 A x ds Z (az N (insD n ds::as)) (cF N (.ref x::ws)) H:=by
 have h1:=gP (K:=K) (N:=N) (H:=H) zh (.cons (.non:Rep K Z .non .none) r);have e1:(az N (insD n ds::as))=(az N (.none::as)).set 0 (.fz (insD n ds)):=by simp[az]
 have e2:(cF N (.ref x::ws))=(cF N (.non::ws)).set 0 (some (.ref x)):=by simp[L2.cF]
 refine⟨zh,by rw[e1,e2];simp[h1.len],by simp[L2.cF],by simp[az],ob,fun j d hj e=>?_,fun j c=>kx j c,fun j c=>r9 j c⟩
 rw[e1,List.getElem?_set_ne (Ne.symm hj)]at e;rw[e2,List.getElem?_set_ne (Ne.symm hj)];exact h1.fz j d e
theorem HoldW.plain(h:HoldW K n i A x ds Z δ σ H):Hold K H Z Z (δ.set i .un) σ H:=by
 have f:∀{j:Nat} {s:Sl},s≠.un->(δ.set i .un)[j]? = some s->j≠i /\ δ[j]? = some s:=fun{j s} hs e=>by
  by_cases q:i=j
  ·subst q
   rw[List.getElem?_set_self (List.getElem?_eq_some_iff.mp h.dat).1]at e;exact absurd (Option.some.inj e).symm hs
  ·rw[List.getElem?_set_ne q]at e;exact⟨Ne.symm q,e⟩
 refine⟨h.zh,Same.refl _,Same.refl _,fun _ _=>rfl,by simp[h.len],fun j d e=>?_,fun j c e=>?_,fun j k c c' a _ e=>?_,fun j l e=>?_,NoF.refl _⟩
 ·obtain⟨q1,q2⟩:=f (by intro z;cases z) e
  exact h.fz j d q1 q2
 ·exact absurd (f (by intro z;cases z) e).2 (h.now j c)
 ·exact absurd (f (by intro z;cases z) e).2 (h.now j c)
 ·exact absurd (f (by intro z;cases z) e).2 (h.nfr j l)
theorem HoldW.unplain(h:HoldW K n i A x ds Z δ σ H){Z1 H1:Hp}(g:Hold K H Z Z1 (δ.set i .un) σ H1):HoldW K n i A x ds Z1 δ σ H1/\Kept A Z H Z1 H1:=by
 refine⟨⟨g.zh,h.len,h.at_,h.dat,h.ob.same g.z0 g.h0 fun b hb=>by rw[g.zb b (h.ob.some hb)];exact h.ob.zn b hb,fun j d q e=>?_,h.now,h.nfr⟩,⟨g.z0,fun b o _ e=>g.h0 b o e,g.zh,g.zb,fun b hb=>?_,g.nf⟩⟩
 ·obtain⟨v,h1,h2⟩:=h.fz j d q e
  exact⟨v,h1,h2.same g.z0⟩
 ·cases e:H b with
  |none=>exact absurd e hb
  |some o=>rw[g.h0 b o e];intro z;cases z
theorem mO{F:Str}{v:V}{d:D}(r:FO K H Z v d):∀{fs:List (Str×V)} {ds:List (Str×D)},Paired (FB K H Z) fs ds->af F ds=none->Paired (FB K H Z) (dA F v fs) (cM F d ds)/\eN (dA F v fs)=eN fs++eN [(F,v)]
 |_,_,.nil,_=>⟨.cons ⟨rfl,r⟩ .nil,rfl⟩
 |_,_,.cons (a:=(g,w)) (b:=(g',y)) ⟨e,q⟩ t,h=>by
  obtain rfl:g=g':=e;unfold af at h;unfold cM dA;by_cases hg:g=F
  ·rw[if_pos hg]at h;cases h
  ·rw[if_neg hg]at h
   rw[if_neg hg,if_neg hg];obtain⟨h1,h2⟩:=mO r t h;refine⟨.cons ⟨rfl,q⟩ h1,?_⟩;cases q with
   |int _=>exact h2
   |lst _ _=>exact congrArg (_ :: ·) h2
theorem Kept.less{Z' H':Hp}{A B:List Addr}(k:Kept A Z H Z' H')(s:Same H H'):Kept B Z H Z' H':=⟨k.z,fun b o _ e=>s b o e,k.zh,k.o,k.t,k.nf⟩
end
section
variable{P:Program}{w:World}{K:PySem.W.Frag}{mg:Str->Option Value}{base:Heap}
theorem uH{n x qual:Str}{st:Stmt}{f:Addr}{fd:FuncData}{dV:Value}{N ps:List Str}{k:Nat}{b:Sf}(F:FunV K x qual st f fd dV)(S:FnScope N ps (ag st))
  (hb:∀(cdv:Value) (A:Around) (outer:List Env) (s:Shared) (H:Hp) (E:XK),Room k (A.deeper (envOfC qual (ag st) s.heap.objs.size f cdv))->FV (nZ dE P w K mg base N qual (ag st) f cdv A outer s H E).nox n 0 (cx st) b) :
  FnOk P w K mg base dE (k+1) f fd ps (zP K n (fG n N ps.length b)):=by
 obtain⟨oc,od,kV,doc,pm,an,cdv,ct,osl,rfl,lk,hcd⟩:=F.ex;refine sU lk hcd S (fun vs H Q E h=>?_) fun A outer s H vs Q E hr hsp=>?_
 ·obtain⟨Z,A,a,ws,ds,as,ds',rfl,zh,ob,r,e,_⟩:=h
  have h1:=(du e).1;have:=r.length;simp only[List.length_cons];omega
 ·obtain⟨Z,A1,a,ws,ds,as,ds',rfl,zh,ob,r,e,kk⟩:=hsp
  refine⟨_,PSs.nox (hb cdv A outer s H E hr),?_⟩;obtain⟨_,e⟩:=du e;obtain⟨⟨fl,δ'⟩,e2,e⟩:=bind_some e;cases fl with
  |nx=>
   refine⟨A1,a,ds,Z,_,_,lh zh ob r,e2,fun σ' H' Z' ds2 h' k'=>?_⟩
   have e3:=gD e;rw[show δ'[0]? = some (.fz (insD n ds2))from h'.dat]at e3;injection e3 with e3
   injection e3 with e3
   injection e3 with e3
   obtain⟨_,rfl⟩:=dj e3;exact kk Z' H' k' h'.ob
  |rt d=>cases e
  |bk=>cases e
  |ct=>cases e
def Kp(K:Fg)(n:Str)(f:Sf):TS:=fun D σ H=>∃A x ds Z δ r,HoldW K n 0 A x ds Z δ σ H/\f δ = some r/\∀ σ' H' Z' A' ds',HoldW K n 0 A' x ds' Z' r.2 σ' H'->Kept [x] Z H Z' H'->(∀b∈A',b∈A\/H b=none)->r.1.to K Z' D σ' H'
def IJ(X:Cx)(n:Str)(st:Stmt)(f:Sf):Prop:=PS X st (Kp X.K n f)
def IL(X:Cx)(n:Str)(sts:List Stmt)(f:Sf):Prop:=PSs X sts (Kp X.K n f)
def Il(K:Fg)(n:Str)(g:List D->Option (List (Str×D))):Sp:=fun vs H Q _=>∃Z C dx x ws as ds',vs=.ref x::ws/\Same Z H/\PySem.W.nsIn K mainGlobals n=some (some (.ref C))/\H x=some (.ins C dx [])/\Z x=none/\Reps K Z ws as/\g as=some ds' /\
 ∀Z' H' A',Kept [x] Z H Z' H'->OW K n A' x ds' Z' H'->(∀b∈A',b=x\/H b=none)->Q .non H'
structure CalI (P:Program) (w:World) (K:PySem.W.Frag) (mg:Str->Option Value) (base:Heap) (n:Str) (k:Nat) (g:List D->Option (List (Str×D))):Prop where
 ex:∃(C fa:Addr) (fd:FuncData) (ps:List Str),PySem.W.nsIn K mainGlobals n=some (some (.ref C))/\Mk K C fa/\mg n=some (.ref C)/\FnOk P w K mg base dE k fa fd ps (Il K n g)/\Binds K fd ps []
theorem JV{n x qual:Str}{st:Stmt}{f:Addr}{fd:FuncData}{dV:Value}{N ps:List Str}{k:Nat}{b:Sf}(F:FunV K x qual st f fd dV)(S:FnScope N ps (ag st))
  (hb:∀(cdv:Value) (A:Around) (outer:List Env) (s:Shared) (H:Hp) (E:XK),Room k (A.deeper (envOfC qual (ag st) s.heap.objs.size f cdv))->IL (nZ dE P w K mg base N qual (ag st) f cdv A outer s H E).nox n (cx st) b) :
  FnOk P w K mg base dE (k+1) f fd ps (Il K n (DB n N ps.length b)):=by
 obtain⟨oc,od,kV,doc,pm,an,cdv,ct,osl,rfl,lk,hcd⟩:=F.ex;refine sU lk hcd S (fun vs H Q E h=>?_) fun A outer s H vs Q E hr hsp=>?_
 ·obtain⟨Z,C,dx,a,ws,as,ds',rfl,zh,hC,hx,zx,r,e,_⟩:=h
  have h1:=(du e).1;have:=r.length;simp only[List.length_cons];omega
 ·obtain⟨Z,C,dx,a,ws,as,ds',rfl,zh,hC,hx,zx,r,e,kk⟩:=hsp
  refine⟨_,PSs.nox (hb cdv A outer s H E hr),?_⟩;obtain⟨_,e⟩:=du e;obtain⟨⟨fl,δ'⟩,e2,e⟩:=bind_some e;cases fl with
  |nx=>
   have ob:OW K n [a] a [] Z H:=⟨⟨C,dx,[],hC,hx,rfl,.nil⟩,by simp,fun b hb=>by rw[List.mem_singleton.mp hb];exact zx⟩
   refine⟨[a],a,[],Z,_,_,lh zh ob r,e2,fun σ' H' Z' A' ds2 h' k' hA=>?_⟩
   have e3:=gD e;rw[show δ'[0]? = some (.fz (insD n ds2))from h'.dat]at e3;injection e3 with e3
   injection e3 with e3
   injection e3 with e3
   obtain⟨_,rfl⟩:=dj e3;exact kk Z' H' A' k' h'.ob fun b hb=>(hA b hb).imp List.mem_singleton.mp id
  |rt d=>cases e
  |bk=>cases e
  |ct=>cases e
end
section
variable{X:Cx}{n F m:Str}{i:Nat}{e b c:Expr}{es:List Expr}{st:Stmt}{sts body orelse:List Stmt}{s1 s2:Sf}{f fk fv:Dv->Option D}{fs:Dv->Option (List D)}{ft:Dv->Option Bool}{p p2 pos tpos apos cpos:Pos}
theorem Cg(h1:IJ X n st s1):IL X n [st] s1:=jL h1
theorem gz(h1:IJ X n st s1)(h2:IL X n sts s2):IL X n (st::sts) (aq s1 s2):=
 PSs.imp (fK h1 h2) fun D σ H h=>by
  obtain⟨A,x,ds,Z,δ,r,hh,e,k⟩:=h;obtain⟨⟨fl,δ'⟩,e1,e⟩:=bind_some e;refine⟨A,x,ds,Z,δ,(fl,δ'),hh,e1,fun σ' H' Z' A' ds' hh' s' a'=>?_⟩
  cases fl with
  |nx=>exact⟨A',x,ds',Z',δ',r,hh',e,fun σ2 H2 Z2 A2 ds2 hh2 s2 a2=>by
    have:=k σ2 H2 Z2 A2 ds2 hh2 (s'.trans s2) fun b hb=>by
     rcases a2 b hb with q|q
     ·exact a' b q
     ·right
      cases z:H b with
      |none=>rfl
      |some o=>exact absurd q (s'.t b (by rw[z];intro y;cases y))
    obtain⟨fl,δ2⟩:=r;cases fl<;>exact this⟩
  |bk=>cases e;exact k σ' H' Z' A' ds' hh' s' a'
  |ct=>cases e;exact k σ' H' Z' A' ds' hh' s' a'
  |rt d=>cases e;exact k σ' H' Z' A' ds' hh' s' a'
theorem qr{x:Str}(cl:ClN X.K n)(na:NaN X.K n F)(he:EV X e f)(hN:X.N[0]? = some x:=by rfl)(hv:oH X.env.scope x:=by first|exact Or.inl rfl|exact Or.inr (Or.inl rfl)|exact Or.inr (Or.inr rfl))(hd:(x==("__debug__":Str))=false:=by decide)(hcd:(x==("__classdict__":Str))=false:=by decide)
  (hs:swapsWith e (some (.Attribute (.Name x p) F tpos)) pos.line X.env=pure false:=by rfl):IJ X n (.Assign [.Attribute (.Name x p) F tpos] e pos) (su n F f):=
 PS.imp (ui (cf hN hv hd hcd) he hs) fun D σ H h=>by
  obtain⟨A,x,ds,Z,δ,r,hh,e,k⟩:=h;obtain⟨y,e1,e⟩:=bind_some e;obtain⟨ds0,e2,e⟩:=bind_some e;have e4:=gD e2;rw[hh.dat]at e4;injection e4 with e4
  injection e4 with e4
  injection e4 with e4
  obtain⟨_,rfl⟩:=dj e4;cases y with
  |int j=>
   obtain⟨⟨e3,hlen⟩,e⟩:=du e;cases e;refine⟨H,_,_,δ,_,hh.frz,e1,fun v Z1 H1 hh1 t1 r1=>?_⟩
   cases r1;have T:=hh.thaw hh1;refine⟨_,hh.at_,?_⟩;obtain⟨C,dx,fs,h1,h2,h3,h4⟩:=T.w.ob.ex;obtain⟨g1,g2⟩:=mO (FO.int j) h4 e3;have g2:eN (dA F (.int j) fs)=eN fs:=by rw[g2];exact List.append_nil _
   have nd:=T.w.ob.nd;rw[h3]at nd;have hxn:x ∉ eN (dA F (.int j) fs):=by rw[g2];exact(List.nodup_cons.mp nd).1
   refine⟨x,C,dx,fs,rfl,h2,cl.c C h1,na.c C h1,by rw[rf h4];exact hlen,k σ _ _ A _ (T.w.chg (Same.refl _) (fun c o q=>?_) ⟨⟨C,dx,_,h1,aw,by rw[g2];exact h3,nQ g1 hxn⟩,T.w.ob.nd,T.w.ob.zn⟩) ((T.k.less T.s).upd (List.mem_singleton.mpr rfl) (T.w.ob.zn _ T.w.ob.x_in) _) fun b hb=>.inl hb⟩
   rw[ak (aH q (T.w.ob.zn _ T.w.ob.x_in))];exact T.w.zh c o q
  |_=>cases e
theorem lV{x:Str}{f:Dv->Option (List D)}(cl:ClN X.K n)(na:NaN X.K n F)(he:EO X e f)(hN:X.N[0]? = some x:=by rfl)(hv:oH X.env.scope x:=by first|exact Or.inl rfl|exact Or.inr (Or.inl rfl)|exact Or.inr (Or.inr rfl))(hd:(x==("__debug__":Str))=false:=by decide)(hcd:(x==("__classdict__":Str))=false:=by decide)
  (hs:swapsWith e (some (.Attribute (.Name x p) F tpos)) pos.line X.env=pure false:=by rfl):IJ X n (.Assign [.Attribute (.Name x p) F tpos] e pos) (pP n F f):=
 PS.imp (ui (cf hN hv hd hcd) he hs) fun D σ H h=>by
  obtain⟨A,x,ds,Z,δ,r,hh,e,k⟩:=h;obtain⟨us,e1,e⟩:=bind_some e;obtain⟨ds0,e2,e⟩:=bind_some e;have e4:=gD e2;rw[hh.dat]at e4;injection e4 with e4
  injection e4 with e4
  injection e4 with e4
  obtain⟨_,rfl⟩:=dj e4;obtain⟨⟨e3,hlen,hit⟩,e⟩:=du e;cases e;refine⟨H,_,_,δ,_,hh.frz,e1,fun q vs Z1 H1 hh1 t1 hq r1=>?_⟩
  have T:=hh.thaw hh1;have f1:=uI (Reps.tups T.t r1 (qO hit)) hit;refine⟨_,hh.at_,?_⟩;obtain⟨C,dx,fs,h1,h2,h3,h4⟩:=T.w.ob.ex;have hqA:q ∉ A:=fun z=>T.w.ob.some z hq
  have hxq:x≠q:=fun z=>hqA (by rw[<-z];exact T.w.ob.x_in)
  have hz:hU A Z1 q=none:=by rw[ji hqA];exact gQ hh1.zh hq
  have b4:Paired (FB X.K (upd H1 q (.lst vs)) (hU A Z1)) fs ds:=nQ h4 fun z=>hqA (by rw[h3];exact List.mem_cons_of_mem _ z)
  obtain⟨g1,g2⟩:=mO (FO.lst (H:=upd H1 q (.lst vs)) aw f1) b4 e3;have g2:eN (dA F (.ref q) fs)=eN fs++[q]:=g2;have nd:=T.w.ob.nd;rw[h3]at nd;have hxn:x ∉ eN (dA F (.ref q) fs):=by
   rw[g2];intro z;rcases List.mem_append.mp z with z|z
   ·exact(List.nodup_cons.mp nd).1 z
   ·exact hxq (List.mem_singleton.mp z)
  have nd2:(x::eN (dA F (.ref q) fs)).Nodup:=by
   refine List.nodup_cons.mpr ⟨hxn,?_⟩;rw[g2];refine List.nodup_append.mpr ⟨(List.nodup_cons.mp nd).2,by simp,fun a ha b hb z=>?_⟩
   rw[List.mem_singleton.mp hb]at z;exact hqA (by rw[h3,<-z];exact List.mem_cons_of_mem _ ha)
  have zx:=T.w.ob.zn _ T.w.ob.x_in;have zn2:∀b∈x::eN (dA F (.ref q) fs),hU A Z1 b=none:=fun b hb=>by
   rw[g2]at hb;rcases List.mem_cons.mp hb with z|z
   ·rw[z];exact zx
   ·rcases List.mem_append.mp z with z|z
    ·exact T.w.ob.zn b (by rw[h3];exact List.mem_cons_of_mem _ z)
    ·rw[List.mem_singleton.mp z];exact hz
  refine⟨x,C,dx,fs,rfl,by rw[ak hxq];exact h2,cl.c C h1,na.c C h1,by rw[rf h4];exact hlen,k σ _ (hU A Z1) (x::eN (dA F (.ref q) fs)) _ (T.w.chg (Same.refl _) (fun c o z=>?_) ⟨⟨C,dx,_,h1,aw,rfl,nQ g1 hxn⟩,nd2,zn2⟩) ?_ fun b hb=>?_⟩
  ·rw[ak (aH z zx),ak (aH z hz)]
   exact T.w.zh c o z
  ·have k1:Kept [x] Z H (hU A Z1) (upd H1 q (.lst vs)):=by
    have k0:=T.k.less (B:=[x]) T.s;refine⟨k0.z,fun b o _ z=>?_,fun b o z=>?_,k0.o,fun b hb=>?_,k0.nf⟩
    ·rw[ak (aH (T.s b o z) hq)];exact T.s b o z
    ·rw[ak (aH z hz)];exact T.w.zh b o z
    ·by_cases z:b=q
     ·rw[z,aw];intro y;cases y
     ·rw[ak z];exact k0.t b hb
   exact k1.upd (List.mem_singleton.mpr rfl) zx _
  ·rw[g2]at hb
   rcases List.mem_cons.mp hb with z|z
   ·left;rw[z];exact T.w.ob.x_in
   ·rcases List.mem_append.mp z with z|z
    ·left;rw[h3];exact List.mem_cons_of_mem _ z
    ·right
     rw[List.mem_singleton.mp z];cases y:H q with
     |none=>rfl
     |some o=>rw[T.s q o y]at hq;cases hq
theorem uN(h:AV X es fs):EO X (.List es pos) (yl (os fs gO)):=
 PE.imp (uo h) fun σ H Q h=>by
  obtain⟨H₀,Z₀,Z,δ,d,hh,e,k⟩:=h;obtain⟨l,e0,e⟩:=bind_some e;obtain⟨xs,e1,e2⟩:=bind_some e0;refine⟨H₀,Z₀,Z,δ,xs,hh,e1,fun vs Z1 H1 hh1 s1 r1=>?_⟩
  by_cases hl:xs.length<=sizeLine
  ·rw[gO,if_pos hl]at e2
   cases e2;cases e;exact⟨by rw[r1.length];exact hl,fun p hp=>k p vs Z1 H1 hh1 s1 hp r1⟩
  ·rw[gO,if_neg hl]at e2;cases e2
theorem AB(j:Nat){y:Str}{iter:Expr}(hp:PassesOwn (model X.prog X.w) X.A X.env X.xe)(hc:X.calm=true)(hN:X.N.Nodup)(hi:IV X (.Name y p) iter fs)(hb:FV X n i body s1)(hij:i≠j:=by decide)(hj:X.N[j]? = some y:=by rfl)(hx:rL X.env.scope y:=by first|exact Or.inl rfl|exact Or.inr rfl)
  (hf:X.fn y=true\/X.env.scope.names.lookup y=some .local:=by first|exact .inl rfl|exact .inr rfl|assumption)
  (hs:∀x,foldedSetIterable iter X.env x=pure x:=by intro _;rfl):zM X n i (.For (.Name y p) iter body [] pos) (xO i j fs s1):=
 PS.imp (xW hp hc hi (cR hN hj hx hf) hb hs) fun D σ H h=>by
  obtain⟨A,x,ds,Z,δ,r,hh,e,k⟩:=h;obtain⟨us,e1,e⟩:=bind_some e;refine⟨H,Z,Z,_,us,hh.plain,e1,fun J Z1 H1 hh1 t1 ok=>?_⟩
  obtain⟨hw1,k1⟩:=hh.unplain hh1;refine⟨fun a m σ H=>m=us.length-a/\a<=us.length/\∃Zc δc dc,HoldW X.K n i A x dc Zc δc σ H/\Kept A Z1 H1 Zc H/\loop (gN j) s1 (us.drop a) δc=some r,⟨us.length,by simp,Nat.zero_le _,Z1,δ,ds,hw1,Kept.refl hw1.zh,e⟩,?_⟩
  rintro a m σ2 H2 ⟨rfl,hi2,Zc,δc,dc,hhc,kc,ec⟩;have zh:Same Z1 H2:=kc.z.trans hhc.zh;by_cases hlt:a<us.length
  ·refine .inr ⟨ok.go a H2 zh hlt,fun σ3 H3=>∃Zc δc dc,HoldW X.K n i A x dc Zc δc σ3 H3/\Kept A Z1 H1 Zc H3/\loop (gN j) s1 (us.drop (a+1)) δc=some r,fun σ3 H3 q=>⟨us.length-(a+1),by omega,rfl,hlt,q⟩,fun z H3 y=>?_⟩
   have ed:us[a]? = some us[a]:=by simp[hlt]
   obtain⟨rfl,rx⟩:=ok.yld a H2 z H3 _ zh ed y;rw[List.drop_eq_getElem_cons hlt]at ec;obtain⟨δ1,g1,ec⟩:=bind_some ec;cases g1;obtain⟨⟨fl,δ2⟩,g2,ec⟩:=bind_some ec;refine⟨A,x,dc,Zc,_,(fl,δ2),hhc.set hij (rx.same kc.z),g2,fun σ5 H5 Z5 d5 hh5 t5=>?_⟩
   cases fl with
   |nx=>exact⟨Z5,δ2,d5,hh5,kc.trans t5,ec⟩
   |ct=>exact⟨Z5,δ2,d5,hh5,kc.trans t5,ec⟩
   |bk=>cases ec;exact k σ5 H5 Z5 d5 hh5 ((k1.trans kc).trans t5)
   |rt d=>cases ec;exact k σ5 H5 Z5 d5 hh5 ((k1.trans kc).trans t5)
  ·have e2:us.drop a=[]:=List.drop_eq_nil_iff.mpr (by omega)
   rw[e2]at ec;cases ec;exact .inl ⟨ok.stop a H2 zh (by omega),k σ2 H2 Zc dc hhc (k1.trans kc)⟩
theorem FG(i:Nat){x:Str}{k:Nat}{g:List D->Option (List (Str×D))}{q:Pos}(C:CalI X.prog X.w X.K X.mg X.base n k g)(hr:Room (k+1) X.A)(hN:X.N.Nodup)(hg:Gl X n)(ha:AV X (e::es) fs)(h2:zM X n i st s1)(h3:BV X sts s2)
  (hi:X.N[i]? = some x:=by rfl) (hx:rL X.env.scope x:=by first|exact Or.inl rfl|exact Or.inr rfl) (hs:swapsWith (.Call (.Name n q) (e::es) [] cpos) (some (.Name x p)) pos.line X.env=pure false:=by rfl)
  (hf:X.fn x=true\/X.env.scope.names.lookup x=some .local:=by first|exact .inl rfl|exact .inr rfl|assumption) (hdb:(n==("__debug__":Str))=false:=by decide) (he:starEach (e::es) X.env=(false,eval e X.env)::starEach es X.env:=by rfl) (hpl:(backTo cpos (starEach es X.env)).any (·.1)=false:=by rfl) :
  BV X (.Assign [.Name x p] (.Call (.Name n q) (e::es) [] cpos) pos::st::sts) (Dy n i fs g s1 s2):=by
 obtain⟨C0,fa,fd,ps,hC,hM,hm,F,hb⟩:=C.ex;refine PSs.imp (fK (gH hN hi hx (Bb hM F hr hg hm hb .nil pS ha hdb he hpl) hs hf) (fK h2 h3)) fun D σ H h=>?_
 obtain⟨H₀,Z₀,Z,δ,r,hh,e,kk⟩:=h;obtain⟨⟨hpl2,hil⟩,e⟩:=du e;obtain⟨as,e1,e⟩:=bind_some e;obtain⟨ds,e2,e⟩:=bind_some e;obtain⟨⟨fl,δ'⟩,e3,e⟩:=bind_some e;cases fl with
 |nx=>
  refine⟨H₀,Z₀,Z,δ,as,hh,e1,fun vs Z1 H1 hh1 t1 r1 a dx hxa hdx hne=>?_⟩
  have hH:Same H1 (upd (upd H1 dx (.own a)) a (.ins C0 dx [])):=(dH hdx).trans (dH (by rw[ak (Ne.symm hne)];exact hxa));refine⟨Z1,C0,dx,a,vs,as,ds,by simp,hh1.zh.trans hH,hC,aw,gQ hh1.zh hxa,r1,e2,fun Z2 H2 A K2 O2 hA=>⟨rfl,?_⟩⟩
  have hpl3:∀(j:Nat) s,δ[j]? = some s->uk s=true:=fun j s q=>List.all_eq_true.mp hpl2 s (List.mem_of_getElem? q)
  have hil2:i < σ.length:=by rw[<-hh.len];exact hil
  have hlen:∀{j:Nat} {s:Sl},(∀d,s≠.fz d)->(δ.set i (.fz (insD n ds)))[j]? = some s -> δ[j]? = some s:=fun{j s} hs q=>by
   by_cases hj:i=j
   ·subst hj
    rw[List.getElem?_set_self hil]at q;exact absurd (Option.some.inj q).symm (hs _)
   ·rw[List.getElem?_set_ne hj]at q;exact q
  have W:HoldW X.K n i A a ds Z2 (δ.set i (.fz (insD n ds))) (σ.set i (some (.ref a))) H2:=by
   refine⟨K2.zh,by simp[hh.len],List.getElem?_set_self hil2,List.getElem?_set_self hil,O2,fun j d hj q=>?_,fun j c q=>?_,fun j c q=>?_⟩
   ·rw[List.getElem?_set_ne (Ne.symm hj)]at q ⊢
    obtain⟨v,g1,g2⟩:=hh1.fz j d q;exact⟨v,g1,g2.same K2.z⟩
   ·exact Bool.noConfusion (show false=true from hpl3 j _ (hlen (fun d z=>by cases z) q))
   ·exact Bool.noConfusion (show false=true from hpl3 j _ (hlen (fun d z=>by cases z) q))
  refine⟨A,a,ds,Z2,_,_,W,e3,fun σ3 H3 Z3 d3 hw3 k3=>?_⟩
  have f0:=hw3.frz;have hb0:∀{b:Addr} {o:HO},H₀ b=some o->H1 b=some o:=fun{b o} q=>hh1.h0 b o q
  have hbA:∀{b:Addr},H₀ b≠none->b ∉ A:=fun{b} q z=>by
   cases y:H₀ b with
   |none=>exact q y
   |some o=>
    rcases hA b z with w|w
    ·rw[w]at y;rw[hb0 y]at hxa;cases hxa
    ·rw[hH b o (hb0 y)]at w;cases w
  have h12:∀{b:Addr} {o:HO},H₀ b=some o->H2 b=some o:=fun{b o} q=>K2.h b o (fun z=>by rw[List.mem_singleton.mp z]at q;rw[hb0 q]at hxa;cases hxa) (hH b o (hb0 q))
  have h2n:∀{b:Addr},H₀ b≠none->H2 b≠none/\(upd (upd H1 dx (.own a)) a (.ins C0 dx [])) b≠none:=fun{b} q=>by
   cases y:H₀ b with
   |none=>exact absurd y q
   |some o=>rw[h12 y,hH b o (hb0 y)];exact⟨(fun z=>by cases z),(fun z=>by cases z)⟩
  have fin:Hold X.K H₀ Z₀ (Zp A H3 Z3) δ' σ3 H3:=by
   refine⟨f0.zh,fun b o q=>k3.h b o (hbA (by rw[q];intro z;cases z)) (h12 q),((hh1.z0.trans K2.z).trans k3.z).trans (lO hw3.ob.zn),fun b q=>?_,f0.len,f0.fz,fun j c q=>absurd q (hw3.now j c),fun j k c c' a _ q=>absurd q (hw3.now j c),fun j l q=>absurd q (hw3.nfr j l),fun b o xs q=>?_⟩
   ·obtain⟨n1,n2⟩:=h2n q
    rw[jc (hbA q),k3.o b n1,K2.o b n2,hh1.zb b q]
   ·by_cases hb:b∈A
    ·rw[rM hb]at q
     rcases hw3.ob.at_ hb with⟨_,_,_,y⟩|⟨_,y⟩<;>(rw[y]at q;cases q)
    ·rw[jc hb]at q
     exact hh1.nf b o xs (K2.nf b o xs (k3.nf b o xs q))
  exact⟨H₀,Z₀,_,δ',r,fin,e,fun σ4 H4 Z4 hh4 t4=>kk σ4 H4 Z4 hh4 ((((t1.trans K2.z).trans k3.z).trans (lO hw3.ob.zn)).trans t4)⟩
 |rt d=>cases e
 |bk=>cases e
 |ct=>cases e
end
noncomputable def dP(s:Stmt)(j:Nat):Stmt:=match s with
 |.ClassDef _ _ _ body _ _ _ _ _ _ _=>body.getD j (.Pass ⟨0,0,0,0⟩)
 |_=>.Pass ⟨0,0,0,0⟩
def MethIn(K:PySem.W.Frag)(C:Addr)(m q:Str)(st:Stmt):Prop:=∃f fd,Meth K C m f/\FunV K m q st f fd .none
def eY(x q:Str)(st:Stmt)(ps:List Str):Prop:=∀(kV doc pm:Value) (an:Option Addr) (cdv ct:Value) (us:List Value),us.length=ps.length->bindArgs (PySem.W.fnOf x q (eI st) (cx st) (ag st) .none kV doc pm an cdv ct) ⟨us,[]⟩=pure (ps.zip us)
section
variable{P:Program}{w:World}{K:PySem.W.Frag}{mg:Str->Option Value}{base h:Heap}{C:Addr}{n m q:Str}{st:Stmt}{k:Nat}{ps:List Str}
theorem MethIn.mk{f:Addr}{oc:Value}{od an:Option Addr}{osl:Array (Option Value)}{kV doc pm cdv ct:Value}(a:PySem.W.findIn K (.ref C) m=some (some (.ref f)))(i:PySem.W.isFn K (.ref f)=true)(l:K.lookup f=some ⟨oc,od,.func (PySem.W.fnOf m q (eI st) (cx st) (ag st) .none kV doc pm an cdv ct),osl⟩)
  (c:PySem.W.codeIn K cdv q=true) (k:PySem.W.keepIn K (.ref f)=true):MethIn K C m q st:=⟨_,_,⟨a,i,k⟩,q0 l c k⟩
theorem ClN.of(a:PySem.W.nsIn K mainGlobals n=some (some (.ref C)))(c:Cls K C):ClN K n:=⟨fun C' h=>by rw[a]at h;cases h;exact c⟩
theorem NaN.of{f:Str}(a:PySem.W.nsIn K mainGlobals n=some (some (.ref C)))(c:NoAttr K C f):NaN K n f:=⟨fun C' h=>by rw[a]at h;cases h;exact c⟩
theorem MethIn.calW(D:MethIn K C m q st)(a:PySem.W.nsIn K mainGlobals n=some (some (.ref C)))(c:Cls K C)(b:eY m q st ps){g:List (Str×VL.D)->List VL.D->Option (List (Str×VL.D))}(ok:∀f fd,FunV K m q st f fd .none->FnOk P w K mg base dE k f fd ps (zP K n g)):CalW P w K mg base n m k g:=by
 obtain⟨f,fd,M,F⟩:=D;exact⟨⟨C,f,fd,ps,a,c,M,ok f fd F,F.binds b⟩⟩
theorem MethIn.calV(D:MethIn K C m q st)(a:PySem.W.nsIn K mainGlobals n=some (some (.ref C)))(c:Cls K C)(b:eY m q st ps){g:List VL.D->Option VL.D}(ok:∀f fd,FunV K m q st f fd .none->FnOk P w K mg base dE k f fd ps (kW K g)):CalV P w K mg base n m k g:=by
 obtain⟨f,fd,M,F⟩:=D;exact⟨⟨C,f,fd,ps,a,c,M,ok f fd F,F.binds b⟩⟩
theorem MethIn.calI(D:MethIn K C "__init__" q st)(X:K.In h)(G:h.Ns mainGlobals mg)(a:PySem.W.nsIn K mainGlobals n=some (some (.ref C)))(hm:PySem.W.makesIn K C=true)(hk:PySem.W.keepIn K (.ref C)=true)(b:eY "__init__" q st ps){g:List VL.D->Option (List (Str×VL.D))}(ok:∀f fd,FunV K "__init__" q st f fd .none->FnOk P w K mg base dE k f fd ps (Il K n g)):CalI P w K mg base n k g:=by
 obtain⟨f,fd,M,F⟩:=D;exact⟨⟨C,f,fd,ps,a,⟨hm,M.at_,M.fn,hk⟩,PySem.W.mg_of X G a,ok f fd F,F.binds b⟩⟩
end
@[simp] noncomputable def K4(i:Nat)(fk fv:Dv->Option D):Sf:=fun δ=>(fk δ).bind fun dk=>(fv δ).bind fun v=>(va δ[i]?).bind fun ds=>match dk with
 |.int k=>if 0<=k/\k.toNat<=ds.length/\ds.length<sizeLine then some (.nx,δ.set i (.ow (ds.take k.toNat++v::ds.drop k.toNat)))else none
 |_=>none
@[simp] noncomputable def K3(i:Nat)(fk:Dv->Option D):Sf:=fun δ=>(fk δ).bind fun dk=>(va δ[i]?).bind fun ds=>match dk with
 |.int k=>if 0<=k/\k.toNat<ds.length/\ds.length<sizeLine then some (.nx,δ.set i (.ow (ds.eraseIdx k.toNat)))else none
 |_=>none
@[simp] noncomputable def K1(i:Nat):Sf:=fun δ=>(va δ[i]?).bind fun ds=>if ds.length<sizeLine then some (.nx,δ.set i (.ow ds.reverse))else none
noncomputable def Dn(N:List Str)(ds:List D)(es:List (ao×D))(as:List D):Dv:=match as with
 |d::as=>((az N (d :: .none :: .none::as)).set 1 (.ow ds)).set 2 (.od es)
 |[]=>[]
noncomputable def ud(N:List Str)(n:Nat)(b:Sf):List D->List (ao×D)->List D->Option (List D×List (ao×D)):=fun ds es as=>if as.length+2=n/\as≠[]then(b (Dn N ds es as)).bind fun r=>match r with
  | (.nx,δ)=>(va δ[1]?).bind fun ds'=>(vb δ[2]?).bind fun es'=>some (ds',es')
  |_=>none
 else none
noncomputable def ve(i j:Nat)(f0:Dv->Option D)(fs:Dv->Option (List D))(g:List D->List (ao×D)->List D->Option (List D×List (ao×D))):Sf:=fun δ=>(f0 δ).bind fun d=>(va δ[i]?).bind fun ds=>(vb δ[j]?).bind fun es=>(fs δ).bind fun as=>(g ds es (d::as)).bind fun r=>some (.nx,(δ.set i (.ow r.1)).set j (.od r.2))
def AJ(K:Fg)(g:List D->List (ao×D)->List D->Option (List D×List (ao×D))):Sp:=fun vs H Q _=>∃Z a b v0 ws xs kvs ds es d0 as ds' es',vs=v0 :: .ref a :: .ref b::ws/\b≠a/\Same Z H/\Z a=none/\Z b=none/\H a=some (.lst xs)/\H b=some (.dK kvs)/\Reps K Z xs ds/\g8 K Z kvs es/\Rep K Z v0 d0/\Reps K Z ws as/\g ds es (d0::as)=some (ds',es') /\
 ∀Z' H' xs' kvs',New Z (less b (less a H)) Z' (less b (less a H'))->H' a=some (.lst xs')->H' b=some (.dK kvs')->Reps K Z' xs' ds'->g8 K Z' kvs' es'->Q .non H'
def Ig(kp:List (Nat×Addr))(σ:St):Prop:=∀p∈kp,σ[p.1]? = some (some (.ref p.2))
def Ko(K:Fg)(kp:List (Nat×Addr))(f:Sf):TS:=fun D σ H=>∃H₀ Z₀ Z δ r,Hold K H₀ Z₀ Z δ σ H/\Ig kp σ /\ f δ = some r/\∀ σ' H' Z',Hold K H₀ Z₀ Z' r.2 σ' H'->Ig kp σ'->Same Z Z'->r.1.to K Z' D σ' H'
def Gb(X:Cx)(I:List Nat)(st:Stmt)(f:Sf):Prop:=∀kp:List (Nat×Addr),kp.map (·.1)=I->PS X st (Ko X.K kp f)
def C5(X:Cx)(I:List Nat)(sts:List Stmt)(f:Sf):Prop:=∀kp:List (Nat×Addr),kp.map (·.1)=I->PSs X sts (Ko X.K kp f)
section
variable{X:Cx}{I:List Nat}{e b c:Expr}{es:List Expr}{st:Stmt}{sts body orelse:List Stmt}{s1 s2:Sf}{f fk fv:Dv->Option D}{fs:Dv->Option (List D)}{ft:Dv->Option Bool}{p p2 pos tpos cpos:Pos}
theorem u5(i:Nat){x:Str}{pos':Pos}(hN:X.N.Nodup)(he:EV X e f)(h0:i ∉ I:=by decide)(hi:X.N[i]? = some x:=by rfl)(hx:rL X.env.scope x:=by first|exact Or.inl rfl|exact Or.inr rfl)(hs:swapsWith e (some (.Name x pos')) pos.line X.env=pure false:=by rfl)
  (hf:X.fn x=true\/X.env.scope.names.lookup x=some .local:=by first|exact .inl rfl|exact .inr rfl|assumption):Gb X I (.Assign [.Name x pos'] e pos) (cA i f):=fun kp hkp=>
 PS.imp (gH hN hi hx he hs hf) fun D σ H h=>by
  obtain⟨H₀,Z₀,Z,δ,r,hh,ha,e,k⟩:=h;obtain⟨x,e1,e⟩:=bind_some e;cases e;exact⟨H₀,Z₀,Z,δ,x,hh,e1,fun v Z1 H1 hh1 s1 r1=>k _ H1 Z1 (hh1.set r1) (fun q hq=>by rw[List.getElem?_set_ne (fun z=>h0 (by rw[<-hkp,z];exact List.mem_map.mpr ⟨q,hq,rfl⟩))];exact ha q hq) s1⟩
theorem iL(i:Nat){x:Str}(hb:EV X b fk)(hv':EV X e fv)(hN:X.N[i]? = some x:=by rfl)(hv:oH X.env.scope x:=by first|exact Or.inl rfl|exact Or.inr (Or.inl rfl)|exact Or.inr (Or.inr rfl))(hd:(x==("__debug__":Str))=false:=by decide)(hcd:(x==("__classdict__":Str))=false:=by decide)
  (hs:swapsWithSole [.Subscript (.Name x p) b tpos] e pos.line X.env=pure false:=by rfl) (hw:swappedStores [.Subscript (.Name x p) b tpos] e X.env=pure none:=by rfl)
  (ha:∀v,assign (.Subscript (.Name x p) b tpos) X.env v=(do
   let ov <-holding [v] (eval (.Name x p) X.env)
   let iv <-holding [v,ov] (eval b X.env)
   standAt tpos
   holding [v,ov,iv] (setItem ov iv v)
   release [v,ov,iv] []):=by intro _;rfl):Gb X I (.Assign [.Subscript (.Name x p) b tpos] e pos) (je i fk fv):=fun kp hkp=>
 PS.imp (xX hv' (ya (cf hN hv hd hcd) hb sf ha) hs hw) fun D σ H h=>by
  obtain⟨H₀,Z₀,Z,δ,r,hh,hk,e,k⟩:=h;obtain⟨v,e1,e⟩:=bind_some e;obtain⟨y,e2,e⟩:=bind_some e;obtain⟨ds,e3,e⟩:=bind_some e;obtain⟨ds',e4,e⟩:=bind_some e;cases e;refine⟨H₀,Z₀,Z,δ,v,hh,e1,fun w Z1 H1 hh1 t1 r1=>?_⟩
  obtain⟨a,xs,h1,h4,h5⟩:=mT hh1 e3;refine⟨_,h1,H₀,Z₀,Z1,δ,y,hh1,e2,fun u Z2 H2 hh2 t2 r2=>?_⟩
  obtain⟨a',xs',g1,g4,g5⟩:=mT hh2 e3;rw[h1]at g1;cases g1;cases r2 with
  |int j=>
   rw[sy]at e4;cases q:nC ds.length j with
   |none=>rw[q]at e4;cases e4
   |some n=>
    rw[q]at e4;cases e4;refine⟨a,xs',j,n,rfl,rfl,g4,by rw[g5.length];exact q,?_⟩;exact k σ _ Z2 (hh2.chg (xs:=xs') (il e3) h1 (g5.set (r1.same t2) n)) hk (t1.trans t2)
  |_=>cases e4
theorem gC(i:Nat){k:Nat}{x fx:Str}{g:List (ao×D)->List D->Option (List (ao×D))}(C:CalM X.prog X.w X.K X.mg X.base fx k g)(hr:Room k X.A)(hg:Gl X fx)(ha:AV X es fs)(hi:X.N[i]? = some x:=by rfl)(hv:oH X.env.scope x:=by first|exact Or.inl rfl|exact Or.inr (Or.inl rfl)|exact Or.inr (Or.inr rfl))(hd:(x==("__debug__":Str))=false:=by decide)(hcd:(x==("__classdict__":Str))=false:=by decide)(hdb:(fx==("__debug__":Str))=false:=by decide)
  (he:starEach (.Name x p2::es) X.env=(false,eval (.Name x p2) X.env)::starEach es X.env:=by rfl) (hpl:(backTo cpos (starEach es X.env)).any (·.1)=false:=by rfl)
  (hs:swapsWith (.Call (.Name fx p) (.Name x p2::es) [] cpos) none pos.line X.env=pure false:=by rfl):Gb X I (.Expr (.Call (.Name fx p) (.Name x p2::es) [] cpos) pos) (ip i fs g):=fun kp hkp=>by
 obtain⟨fa,fd,ps,F,hm,hk,hb⟩:=C.ex;refine PS.imp (iN (qH F hr hg hm hk hb .nil pS (cH (cf hi hv hd hcd) ha he) hdb he hpl) hs) fun D σ H h=>?_
 obtain⟨H₀,Z₀,Z,δ,r,hh,hkp',e,kk⟩:=h;obtain⟨es0,e1,e⟩:=bind_some e;obtain⟨as,e2,e⟩:=bind_some e;obtain⟨es',e3,e⟩:=bind_some e;cases e;obtain⟨a,kvs,h1,h2,h3,h4,h5⟩:=hh.od i es0 (eS e1);refine⟨.ref a,h1,H₀,Z₀,Z,δ,as,hh,e2,fun vs Z1 H1 hh1 t1 r1=>?_⟩
 obtain⟨a',kvs1,g1,g2,g3,g4,g5⟩:=hh1.od i es0 (eS e1);rw[h1]at g1;cases g1;refine⟨Z1,a,vs,kvs1,es0,as,es',by simp,hh1.zh,g3,g4,g5,r1,e3,fun Z' H' kvs' n f4 f5=>?_⟩
 exact kk σ H' Z' (hh1.mod (eS e1) h1 g2 n f4 f5) hkp' (t1.trans n.z)
theorem Cf:C5 X I [] oX:=fun kp _=>PSs.imp qD fun D σ H h=>by
 obtain⟨H₀,Z₀,Z,δ,r,hh,ha,e,k⟩:=h;cases e;exact k σ H Z hh ha (Same.refl _)
theorem b9(h1:Gb X I st s1):C5 X I [st] s1:=fun kp h=>jL (h1 kp h)
theorem gy(h1:Gb X I st s1)(h2:C5 X I sts s2):C5 X I (st::sts) (aq s1 s2):=fun kp hkp=>
 PSs.imp (fK (h1 kp hkp) (h2 kp hkp)) fun D σ H h=>by
  obtain⟨H₀,Z₀,Z,δ,r,hh,ha,e,k⟩:=h;obtain⟨⟨fl,δ'⟩,e1,e⟩:=bind_some e;refine⟨H₀,Z₀,Z,δ,(fl,δ'),hh,ha,e1,fun σ' H' Z' hh' ha' s'=>?_⟩
  cases fl with
  |nx=>exact⟨H₀,Z₀,Z',δ',r,hh',ha',e,fun σ2 H2 Z2 hh2 ha2 s2=>by
    have:=k σ2 H2 Z2 hh2 ha2 (s'.trans s2);obtain⟨fl,δ2⟩:=r;cases fl<;>exact this⟩
  |bk=>cases e;exact k σ' H' Z' hh' ha' s'
  |ct=>cases e;exact k σ' H' Z' hh' ha' s'
  |rt d=>cases e;exact k σ' H' Z' hh' ha' s'
theorem ik(hc:TV X c ft)(ha:C5 X I body s1)(hb:C5 X I orelse s2):Gb X I (.If c body orelse pos) (b5 ft s1 s2):=fun kp hkp=>
 PS.imp (vg hc (ha kp hkp) (hb kp hkp)) fun D σ H h=>by
  obtain⟨H₀,Z₀,Z,δ,r,hh,h0,e,k⟩:=h;obtain⟨x,e1,e⟩:=bind_some e;refine⟨H₀,Z₀,Z,δ,x,hh,e1,fun Z1 H1 hh1 t1=>?_⟩
  cases x with
  |true=>exact⟨H₀,Z₀,Z1,δ,r,hh1,h0,e,fun σ2 H2 Z2 hh2 h2 t2=>k σ2 H2 Z2 hh2 h2 (t1.trans t2)⟩
  |false=>exact⟨H₀,Z₀,Z1,δ,r,hh1,h0,e,fun σ2 H2 Z2 hh2 h2 t2=>k σ2 H2 Z2 hh2 h2 (t1.trans t2)⟩
theorem FE(h:C5 X [0] sts s1):C6 X sts s1:=fun a=>PSs.imp (h [(0,a)] rfl) fun D σ H q=>by
 obtain⟨H₀,Z₀,Z,δ,r,hh,ha,e,k⟩:=q;exact⟨H₀,Z₀,Z,δ,r,hh,fun p hp=>by rw[List.mem_singleton.mp hp];exact ha,e,fun σ' H' Z' h1 h2 h3=>k σ' H' Z' h1 (h2 _ List.mem_cons_self) h3⟩
end
section
variable{P:Program}{w:World}{K:PySem.W.Frag}{mg:Str->Option Value}{base:Heap}
theorem HG{x qual:Str}{st:Stmt}{f:Addr}{fd:FuncData}{dV:Value}{N ps:List Str}{k:Nat}{b:Sf}(F:FunV K x qual st f fd dV)(S:FnScope N ps (ag st))(hn:2<N.length)
  (hb:∀(cdv:Value) (A:Around) (outer:List Env) (s:Shared) (H:Hp) (E:XK),Room k (A.deeper (envOfC qual (ag st) s.heap.objs.size f cdv))->C5 (nZ dE P w K mg base N qual (ag st) f cdv A outer s H E).nox [1,2] (cx st) b) :
  FnOk P w K mg base dE (k+1) f fd ps (AJ K (ud N ps.length b)):=by
 obtain⟨oc,od,kV,doc,pm,an,cdv,ct,osl,rfl,lk,hcd⟩:=F.ex;have hlen:∀ds es as r,ud N ps.length b ds es as=some r->as.length+2=ps.length:=fun ds es as r h=>by
  unfold ud at h;split at h
  ·rename_i z;exact z.1
  ·cases h
 refine sU lk hcd S (fun vs H Q E h=>?_) fun A outer s H vs Q E hr hsp=>?_
 ·obtain⟨Z,a,b',v0,ws,xs,kvs,ds,es,d0,as,ds',es',rfl,hab,zh,za,zb,ha,hb',r1,r2,r3,r4,e,_⟩:=h
  have:=hlen ds es _ _ e;have:=r4.length;simp only[List.length_cons]at *;omega
 ·obtain⟨Z,a,b',v0,ws,xs,kvs,ds,es,d0,as,ds',es',rfl,hab,zh,za,zb,ha,hb',r1,r2,r3,r4,e,kk⟩:=hsp
  refine⟨_,PSs.nox (hb cdv A outer s H E hr [(1,a),(2,b')] rfl),?_⟩;have h1:=gP (K:=K) (N:=N) (H:=less b' (less a H)) (fB (fB zh za) zb) (.cons r3 (.cons (.non:Rep K Z .non .none) (.cons (.non:Rep K Z .non .none) r4)));have h2:=h1.setW (i:=1) (p:=a) (by rw[cw (Ne.symm hab)];exact fA) (.lst r1);have h3:=h2.setW (i:=2) (p:=b') (by rw[ak hab];exact fA) (.dct r2);have eh:upd (upd (less b' (less a H)) a (.lst xs)) b' (.dK kvs)=H:=funext fun c=>by
   by_cases hc:c=b'
   ·subst hc;rw[aw,hb']
   ·rw[ak hc]
    by_cases hc':c=a
    ·subst hc';rw[aw,ha]
    ·rw[ak hc',cw hc,cw hc']
  rw[eh]at h3;have es0:((cF N (v0 :: .non :: .non::ws)).set 1 (some (.ref a))).set 2 (some (.ref b'))=cF N (v0 :: .ref a :: .ref b'::ws):=by simp[L2.cF]
  rw[es0]at h3;unfold ud at e;split at e
  rotate_left
  ·cases e
  obtain⟨⟨fl,δ'⟩,e2,e⟩:=bind_some e;cases fl with
  |nx=>
   obtain⟨d1,e3,e⟩:=bind_some e;obtain⟨d2,e4,e⟩:=bind_some e;cases e;refine⟨less b' (less a H),Z,Z,_,_,h3,fun p hp=>?_,e2,fun σ' H' Z' h' a' s'=>?_⟩
   ·simp only[List.mem_cons,List.not_mem_nil,or_false]at hp
    rcases hp with rfl|rfl<;>simp[L2.cF]
   obtain⟨a2,xs',g1,g2,g3,g4,g5⟩:=h'.ow 1 _ (il e3);obtain⟨b2,kvs',f1,f2,f3,f4,f5⟩:=h'.od 2 _ (eS e4);have q1:=a' (1,a) List.mem_cons_self;have q2:=a' (2,b') (List.mem_cons_of_mem _ List.mem_cons_self);have q1:σ'[1]? = some (some (.ref a)):=q1;have q2:σ'[2]? = some (some (.ref b')):=q2;rw[q1]at g1;rw[q2]at f1;cases g1;cases f1;refine kk Z' H' xs' kvs' ⟨s',fun c o q=>?_,fB (fB h'.zh g3) f3,h'.zb,h'.nf⟩ g4 f4 g5 f5
   have hb2:c≠b':=fun z=>by rw[z,fA]at q;cases q
   have ha2:c≠a:=fun z=>by rw[z,cw (Ne.symm hab),fA]at q;cases q
   rw[cw hb2,cw ha2];exact h'.h0 c o q
  |rt d=>cases e
  |bk=>cases e
  |ct=>cases e
structure CalM2 (P:Program) (w:World) (K:PySem.W.Frag) (mg:Str->Option Value) (base:Heap) (x:Str) (k:Nat) (g:List D->List (ao×D)->List D->Option (List D×List (ao×D))):Prop where
 ex:∃(fa:Addr) (fd:FuncData) (ps:List Str),FnOk P w K mg base dE k fa fd ps (AJ K g)/\mg x=some (.ref fa)/\PySem.W.keepIn K (.ref fa)=true/\Binds K fd ps []
end
section
variable{K:Fg}{H₀ Z₀ Z H:Hp}{δ:Dv}{σ:St}
theorem Hold.mod2(h:Hold K H₀ Z₀ Z δ σ H){i j:Nat}{a b:Addr}{ds ds':List D}{es es':List (ao×D)}{xs':List V}{kvs':List (ao×V)}{Z' H':Hp}(hij:i≠j)(q:δ[i]? = some (.ow ds))(q2:δ[j]? = some (.od es))(h1:σ[i]? = some (some (.ref a)))(h1b:σ[j]? = some (some (.ref b)))(h2:H₀ a=none)(h2b:H₀ b=none)(n:New Z (less b (less a H)) Z' (less b (less a H')))(g4:H' a=some (.lst xs'))(g4b:H' b=some (.dK kvs'))(g5:Reps K Z' xs' ds')(g5b:g8 K Z' kvs' es'):
  Hold K H₀ Z₀ Z' ((δ.set i (.ow ds')).set j (.od es')) σ H':=by
 have hl:i < δ.length:=(List.getElem?_eq_some_iff.mp q).1;have hl2:j < δ.length:=(List.getElem?_eq_some_iff.mp q2).1;have hab:b≠a:=fun z=>by subst z;exact h.dja i j _ _ b hij q q2 h1 h1b
 have lx:∀{c:Addr} {H:Hp},c≠a->c≠b->less b (less a H) c=H c:=fun{c H} ca cb=>by rw[cw cb,cw ca]
 have la:∀{H:Hp},less b (less a H) a=none:=fun{H}=>by rw[cw (Ne.symm hab)];exact fA
 have up:∀{c:Addr} {o:HO},c≠a->c≠b->H c=some o->H' c=some o:=fun{c o} ca cb e=>by
  have:=n.h c o (by rw[lx ca cb];exact e)
  rwa [lx ca cb]at this
 have za:Z' a=none:=by
  cases e:Z' a with
  |none=>rfl
  |some o=>have:=n.zh a o e;rw[la]at this;cases this
 have zb:Z' b=none:=by
  cases e:Z' b with
  |none=>rfl
  |some o=>have:=n.zh b o e;rw[fA]at this;cases this
 have zh':Same Z' H':=fun c o e=>by
  have:=n.zh c o e;have cb:c≠b:=fun z=>by rw[z,zb]at e;cases e
  have ca:c≠a:=fun z=>by rw[z,za]at e;cases e
  rwa [lx ca cb]at this
 have at_:∀{m:Nat} {s:Sl},((δ.set i (.ow ds')).set j (.od es'))[m]? = some s->(m=j/\s=.od es')\/(m=i/\s=.ow ds')\/(m≠i/\m≠j /\ δ[m]? = some s):=fun{m s} e=>by
  by_cases hj:j=m
  ·subst hj
   rw[List.getElem?_set_self (by rw[List.length_set];exact hl2)]at e;cases e;exact .inl ⟨rfl,rfl⟩
  ·rw[List.getElem?_set_ne hj]at e
   by_cases hi:i=m
   ·subst hi
    rw[List.getElem?_set_self hl]at e;cases e;exact .inr (.inl ⟨rfl,rfl⟩)
   ·rw[List.getElem?_set_ne hi]at e
    exact .inr (.inr ⟨Ne.symm hi,Ne.symm hj,e⟩)
 refine⟨zh',fun c o e=>up (aH e h2) (aH e h2b) (h.h0 c o e),h.z0.trans n.z,fun c hc=>?_,by simp[h.len],fun m d e=>?_,fun m d e=>?_,fun m k d1 d2 c hmk e1 e2=>?_,((h.fr.same n.z).put (x:=.ow ds') (σ':=σ) (fun _ z=>nomatch z) fun _ _=>rfl).put (fun _ z=>nomatch z) fun _ _=>rfl,h.nf.trans n.nf⟩
 ·have ca:c≠a:=fun z=>hc (by rw[z];exact h2)
  have cb:c≠b:=fun z=>hc (by rw[z];exact h2b)
  have:less b (less a H) c≠none:=by
   rw[lx ca cb];cases e:H₀ c with
   |none=>exact absurd e hc
   |some o=>rw[h.h0 c o e];intro z;cases z
  rw[n.o c this,h.zb c hc]
 ·rcases at_ e with⟨_,z⟩|⟨_,z⟩|⟨_,_,e⟩
  ·cases z
  ·cases z
  ·obtain⟨v,g1,g2⟩:=h.fz m d e
   exact⟨v,g1,g2.same n.z⟩
 ·rcases at_ e with⟨rfl,z⟩|⟨rfl,z⟩|⟨mi,mj,e⟩
  ·cases z
   exact⟨b,_,h1b,h2b,zb,g4b,.dct g5b⟩
  ·cases z
   exact⟨a,_,h1,h2,za,g4,.lst g5⟩
  ·obtain⟨c,o,f1,f2,f3,f4,f5⟩:=h.own m d e
   have ca:c≠a:=fun z=>by subst z;exact h.dja i m _ d c (Ne.symm mi) q e h1 f1
   have cb:c≠b:=fun z=>by subst z;exact h.dja j m _ d c (Ne.symm mj) q2 e h1b f1
   exact⟨c,o,f1,f2,by rw[n.o c (by rw[lx ca cb,f4];intro z;cases z)];exact f3,up ca cb f4,f5.same n.z⟩
 ·have f:∀{m:Nat} {dm:Oc},((δ.set i (.ow ds')).set j (.od es'))[m]? = some (.own dm)->∃dm',δ[m]? = some (.own dm'):=fun{m dm} z=>by
   rcases at_ z with⟨rfl,_⟩|⟨rfl,_⟩|⟨_,_,e⟩
   ·exact⟨_,q2⟩
   ·exact⟨_,q⟩
   ·exact⟨_,e⟩
  obtain⟨x1,f1⟩:=f e1;obtain⟨x2,f2⟩:=f e2;exact h.dja m k x1 x2 c hmk f1 f2
end
section
variable{X:Cx}{e0:Expr}{es:List Expr}{f0:Dv->Option D}{fs:Dv->Option (List D)}{p p2 p3 pos cpos:Pos}
theorem AE(i j:Nat){k:Nat}{x y fx:Str}{g:List D->List (ao×D)->List D->Option (List D×List (ao×D))}(C:CalM2 X.prog X.w X.K X.mg X.base fx k g)(hr:Room k X.A)(hg:Gl X fx)(h0:EV X e0 f0)(ha:AV X es fs)(hij:i≠j:=by decide)(hi:X.N[i]? = some x:=by rfl)(hj:X.N[j]? = some y:=by rfl)(hv:oH X.env.scope x:=by first|exact Or.inl rfl|exact Or.inr (Or.inl rfl)|exact Or.inr (Or.inr rfl))(hvj:oH X.env.scope y:=by first|exact Or.inl rfl|exact Or.inr (Or.inl rfl)|exact Or.inr (Or.inr rfl))(hd:(x==("__debug__":Str))=false:=by decide)(hdj:(y==("__debug__":Str))=false:=by decide)(hcd:(x==("__classdict__":Str))=false:=by decide)(hcdj:(y==("__classdict__":Str))=false:=by decide)(hdb:(fx==("__debug__":Str))=false:=by decide)
  (he0:starEach (e0 :: .Name x p2 :: .Name y p3::es) X.env=(false,eval e0 X.env)::starEach (.Name x p2 :: .Name y p3::es) X.env:=by rfl)
  (he1:starEach (.Name x p2 :: .Name y p3::es) X.env=(false,eval (.Name x p2) X.env)::starEach (.Name y p3::es) X.env:=by rfl)
  (he2:starEach (.Name y p3::es) X.env=(false,eval (.Name y p3) X.env)::starEach es X.env:=by rfl) (hpl:(backTo cpos (starEach (.Name x p2 :: .Name y p3::es) X.env)).any (·.1)=false:=by rfl)
  (hs:swapsWith (.Call (.Name fx p) (e0 :: .Name x p2 :: .Name y p3::es) [] cpos) none pos.line X.env=pure false:=by rfl):SV X (.Expr (.Call (.Name fx p) (e0 :: .Name x p2 :: .Name y p3::es) [] cpos) pos) (ve i j f0 fs g):=by
 obtain⟨fa,fd,ps,F,hm,hk,hb⟩:=C.ex;refine PS.imp (iN (qH F hr hg hm hk hb .nil pS (cH h0 (cH (cf hi hv hd hcd) (cH (cf hj hvj hdj hcdj) ha he2) he1) he0) hdb he0 hpl) hs) fun D σ H h=>?_
 obtain⟨H₀,Z₀,Z,δ,r,hh,e,kk⟩:=h;obtain⟨d,e0,e⟩:=bind_some e;obtain⟨ds0,e1,e⟩:=bind_some e;obtain⟨es0,e2,e⟩:=bind_some e;obtain⟨as,e3,e⟩:=bind_some e;obtain⟨⟨ds',es'⟩,e4,e⟩:=bind_some e;cases e;refine⟨H₀,Z₀,Z,δ,d,hh,e0,fun v Z0 H0 hh0 t0 r0=>?_⟩
 obtain⟨a,xs,h1,h2,h3,h4,h5⟩:=hh0.ow i ds0 (il e1);obtain⟨b,kvs,k1,k2,k3,k4,k5⟩:=hh0.od j es0 (eS e2);refine⟨.ref a,h1,.ref b,k1,H₀,Z₀,Z0,δ,as,hh0,e3,fun vs Z1 H1 hh1 t1 r1=>?_⟩
 obtain⟨a',xs1,g1,g2,g3,g4,g5⟩:=hh1.ow i ds0 (il e1);obtain⟨b',kvs1,l1,l2,l3,l4,l5⟩:=hh1.od j es0 (eS e2);rw[h1]at g1;cases g1;rw[k1]at l1;cases l1;have hab:b≠a:=fun z=>by subst z;exact hh1.dja i j _ _ b hij (il e1) (eS e2) h1 k1
 refine⟨Z1,a,b,v,vs,xs1,kvs1,ds0,es0,d,as,ds',es',by simp,hab,hh1.zh,g3,l3,g4,l4,g5,l5,r0.same t1,r1,e4,fun Z' H' xs' kvs' n f4 f4b f5 f5b=>?_⟩
 exact kk σ H' Z' (hh1.mod2 hij (il e1) (eS e2) h1 k1 g2 l2 n f4 f4b f5 f5b) (t0.trans (t1.trans n.z))
end
section
variable{P:Program}{w:World}{K:PySem.W.Frag}{mg:Str->Option Value}{base h:Heap}{x y:Str}{st:Stmt}{k:Nat}{ps:List Str}
theorem DefIn.calM2(D:DefIn K x y st)(X:K.In h)(G:h.Ns mainGlobals mg)(b:bF y st ps){g:List VL.D->List (ao×VL.D)->List VL.D->Option (List VL.D×List (ao×VL.D))}(ok:∀f fd,FunV K y y st f fd .none->FnOk P w K mg base dE k f fd ps (AJ K g)):CalM2 P w K mg base x k g:=by
 obtain⟨f,fd,a,F,hk⟩:=D;exact⟨⟨_,_,_,ok f fd F,PySem.W.mg_of X G a,hk,F.binds b⟩⟩
end
noncomputable def qv:D->Option D
 |.dict kvs=>(jw kvs).bind fun es=>(jX (es.map fun p=>(p.1,PyData.int p.2))).bind fun l=>if l.length<=100000 then some (.list ((bB l).map .int))else none
 |_=>none
noncomputable def ir(i:Nat):Dv->Option D:=fun δ=>(vb δ[i]?).bind fun es=>(jX es).bind fun l=>if l.length<=100000/\l.Nodup/\(nG es).isSome then some (.list (uA es l))else none
section
variable{prog:Program}{w:World}{A:Around}{E:Value->Shared->Prop}{s:Shared}
theorem wC{α β:Type}{f:α -> β}{out l:List β}(h:out.Perm l):∀m:List α,l=m.map f->∃p:List α,p.Perm m/\out=p.map f:=by
 induction h with
 |nil=>intro m e;exact⟨[],by rw[List.map_eq_nil_iff.mp e.symm],rfl⟩
 |cons x h ih=>
  intro m e;cases m with
  |nil=>cases e
  |cons i m=>
   rw[List.map_cons,List.cons.injEq]at e;obtain⟨p,h1,h2⟩:=ih m e.2;exact⟨i::p,h1.cons i,by rw[List.map_cons,<-h2,e.1]⟩
 |swap x y l=>
  intro m e
  match m,e with
  |i::j::m,e=>
   rw[List.map_cons,List.map_cons,List.cons.injEq,List.cons.injEq]at e;exact⟨j::i::m,List.Perm.swap i j m,by rw[List.map_cons,List.map_cons,e.1,e.2.1,e.2.2]⟩
 |trans h1 h2 ih1 ih2=>
  intro m e;obtain⟨p2,a1,a2⟩:=ih2 m e;obtain⟨p1,b1,b2⟩:=ih1 p2 a2;exact⟨p1,b1.trans a1,b2⟩
theorem zo(vs:List Value):((List.range vs.length).map fun i=>vs.getD i Value.none)=vs:=by
 apply List.ext_getElem?;intro j;by_cases hj:j<vs.length
 ·rw[List.getElem?_map,List.getElem?_range hj,List.getElem?_eq_getElem hj]
  show some (vs.getD j Value.none)=_;rw[List.getD_eq_getElem?_getD,List.getElem?_eq_getElem hj];rfl
 ·rw[List.getElem?_eq_none (by simp;omega),List.getElem?_eq_none (by omega)]
def zO(h:Heap)(key:Nat->Int)(vs:List Value):Prop:=∀(j:Nat) (v:Value),vs[j]? = some v->∃b t m t',v=.ref b/\h.get? b=some { cls:=.type "tuple",data:=.seq #[.int (key j) t,.int m t'] }
theorem nq{a:Addr}{vs:List Value}{key:Nat->Int}{n:Nat}{P:PySem.Fin->Shared->Prop}(ho:s.heap.get? a=some (seqObj "list" vs.toArray n))(x:zO s.heap key vs)(hinj:∀i j,i<vs.length->j<vs.length->key i=key j->i=j)(hz:vs.length<=sizeLine)
  (h:∀p:Array Nat,Pm vs.length p->Up key p vs.length->P (.done (.ret .none)) { s with heap:=sortedHeap s.heap a vs (List.toArray (p.toList.map fun i=>vs.getD i Value.none)) }) :
  wpAny (model prog w) A (Builtin.«list.sort» ⟨[.ref a],[]⟩) P E s:=by
 have at_:∀j,j<vs.length->∃m,KAt s.heap (vs.getD j Value.none) [.inl (key j),.inl m]:=fun j hj=>by
  obtain⟨b,t,m,t',e1,e2⟩:=x j _ (List.getElem?_eq_getElem hj);refine⟨m,b,_,_,_,?_,e2,rfl,rfl,.cons ⟨t,rfl⟩ (.cons ⟨t',rfl⟩ .nil)⟩;rw[List.getD_eq_getElem?_getD,List.getElem?_eq_getElem hj];exact e1
 have mem_at:∀v∈vs,∃j,j<vs.length/\v=vs.getD j Value.none:=fun v hv=>by
  obtain⟨j,hj,e⟩:=List.getElem_of_mem hv;exact⟨j,hj,by rw[List.getD_eq_getElem?_getD,List.getElem?_eq_getElem hj,<-e];rfl⟩
 have KA:=KAts.of_map (h:=s.heap) (vs:=vs) fun v hv=>by
  obtain⟨j,hj,rfl⟩:=mem_at v hv;obtain⟨m,q⟩:=at_ j hj;exact⟨_,q⟩
 have ok:((vs.map (rK s.heap)).all pM||(vs.map (rK s.heap)).all xf)=true:=by
  rw[Bool.or_eq_true_iff];refine .inr (List.all_eq_true.mpr fun k hk=>?_);obtain⟨v,hv,rfl⟩:=List.mem_map.mp hk;obtain⟨j,hj,rfl⟩:=mem_at v hv;obtain⟨m,q⟩:=at_ j hj;rw[jk q];rfl
 refine nk ho KA ok hz fun out pm ka=>?_
 obtain⟨p,hp,rfl⟩:=wC (f:=fun i=>vs.getD i Value.none) pm (List.range vs.length) (zo vs).symm;have:=h p.toArray ⟨by simpa using hp⟩ fun i j hij hj=>?_
 ·simpa using this
 ·have pl:p.length=vs.length:=by simpa using hp.length_eq
  have em:=ka.map;have pw:=kH (vs.map (rK s.heap));rw[<-em,List.map_map,List.pairwise_map,List.pairwise_iff_getElem]at pw;have le:=pw i j (by omega) (by omega) hij;have nd:p.Nodup:=hp.nodup_iff.mpr List.nodup_range;have li:p[i]'(by omega)<vs.length:=List.mem_range.mp (hp.mem_iff.mp (List.getElem_mem _));have lj:p[j]'(by omega)<vs.length:=List.mem_range.mp (hp.mem_iff.mp (List.getElem_mem _));have ne:p[i]'(by omega)≠p[j]'(by omega):=List.pairwise_iff_getElem.mp nd i j (by omega) (by omega) hij;obtain⟨m1,q1⟩:=at_ _ li;obtain⟨m2,q2⟩:=at_ _ lj;simp only[Function.comp_apply,jk q1,jk q2]at le;have g1:(p.toArray).getD i 0=p[i]'(by omega):=by simp[Array.getD,show i<p.length by omega]
  have g2:(p.toArray).getD j 0=p[j]'(by omega):=by simp[Array.getD,show j<p.length by omega]
  unfold ky;rw[g1,g2];have hk:key (p[i]'(by omega))≠key (p[j]'(by omega)):=fun z=>ne (hinj _ _ li lj z)
  unfold rJ eP at le;rw[if_neg (fun z=>hk (Sum.inl.inj z).symm)]at le
  have le:decide (key (p[j]'(by omega))<key (p[i]'(by omega)))=false:=le;have:=of_decide_eq_false le;omega
end
section
variable{X:Cx}{o a:Expr}{p pos apos cpos:Pos}{td:TE}{f:Dv->Option D}
theorem rn(hc:X.calm=true):CallR X (.builtin "sorted") (fun xs H Q=>∃a kvs ns,xs=[V.ref a]/\H a=some (.dK kvs)/\kvs.map (·.1)=ns.map Sum.inl/\ns.length<=100000/\∀l,H l=none->Q (.ref l) (upd H l (.lst ((bB ns).map V.int)))):=by
 intro pins s σ H xs us Q I r h;obtain⟨a,kvs,ns,rfl,ha,hk,h64,q⟩:=h;obtain⟨u,rfl,ru⟩:=pK r;cases ru;obtain⟨z,hd,vs,rel,dd⟩:=lr I.hok (.inl ha);obtain⟨ep,dat⟩:=dd.dictAt;have hln:vs.length=ns.length:=by
  have:=congrArg List.length hk;simp only[List.length_map]at this;rw[<-rel.length,this]
 refine Calls.call_function_entry kind_sorted plain_sorted entry_sorted (args_sorted1 _) ?_;unfold Builtin.«sorted»;refine wpAny_bind (m:=checkCount "sorted" 1 1 _) (wpAny_pure ?_);refine wpAny_bind (PySem.W.kdu_collect (A:=X.A.in1) (PySem.W.kdl_dict (knd:=aL X.prog X.w) (kvs:=vs) (ep:=ep) hd) (I.ok.hd hc) dat (by rw[hln,sizeLine_eq];omega) fun h' tk acc hk' hacc=>?_)
 have hal:acc.toList.length=vs.length:=by rw[Array.length_toList];exact hacc.1
 have hI:IntsAre acc.toList ns:=qW (P:=X.prog) (w:=X.w) hal (fun j v e=>hacc.2 j v (by rw[<-Array.getElem?_toList];exact e)) (by rw[mf rel];exact hk)
 refine wpAny_bind (wpAny_newList ?_ (by rw[hal,hln,sizeLine_eq];omega));have hoL:(h'.push (seqObj "list" acc.toList.toArray 0)).get? h'.objs.size=some (seqObj "list" acc.toList.toArray 0):=Heap.get?_push_size _ rfl;refine wpAny_bind (wpAny_holding (wpAny_call_entry slot_list_sort ⟨_,hoL,rfl⟩ entry_list_sort (nr hoL hI (by rw[hal,hln,sizeLine_eq];omega) fun out ns' a1 a2 a3=>⟨_,rfl,?_⟩) (args_list_sort _)))
 refine wpAny_pure ⟨_,rfl,?_⟩;have e:=iO a2 a3;subst e;have I1:Inv X pins σ H { s with heap:=h',toks:=tk }:=I.kept hk';have kp:∀b o,h'.get? b=some o->(sortedHeap (h'.push (seqObj "list" acc.toList.toArray 0)) h'.objs.size acc.toList out).get? b=some o:=fun b o eo=>by
  have hb:b≠h'.objs.size:=Nat.ne_of_lt (Heap.lt_size eo);exact bA hb (Heap.get?_push_of_some _ (Heap.get?_push_of_some _ (bA hb (Heap.get?_push_of_some _ eo))))
 have hlen:out.toList.length=ns.length:=by rw[(da a1).length.symm,List.length_map,a2.length_eq]
 obtain⟨e1,ho1⟩:∃e1,((h'.push (seqObj "list" acc.toList.toArray 0)).update h'.objs.size (Obj.mapSeq fun _=>#[])).get? h'.objs.size=some (seqObj "list" #[] e1):=⟨_,get?_update_seq hoL (fun _=>#[])⟩;have ho2:=Heap.get?_push_of_some (seqObj "list" #[] 0) (Heap.get?_push_of_some (seqObj "tuple" acc.toList.toArray 0) ho1);have ho3:=get?_update_seq ho2 (fun _=>out);have L:=I1.laid (h':=sortedHeap (h'.push (seqObj "list" acc.toList.toArray 0)) h'.objs.size acc.toList out) (a:=h'.objs.size) (o:=.lst ((bB ns).map V.int)) (t':=tk) kp (Nat.le_refl _)
  (show ObjOk X.prog X.w _ _ _ (.lst ((bB ns).map V.int))from ⟨by rw[List.length_map,(dy ns).length_eq,sizeLine_eq];omega,out.toList,_,da a1,by rw[Array.toArray_toList];exact ho3⟩)
 exact⟨.ref h'.objs.size,_,L,rfl,q _ (I1.hok.fresh (Nat.le_refl _))⟩
theorem wW(hg:Gl X "sorted")(hm:X.mg "sorted" = none)(ha:EV X a f)(hc:X.calm=true:=by rfl)
  (he:starEach [a] X.env=(false,eval a X.env)::starEach [] X.env:=by rfl) (hpl:(backTo pos (starEach [] X.env)).any (·.1)=false:=by rfl):EV X (.Call (.Name "sorted" p) [a] [] pos) (o1 f qv):=
 PE.imp (iq (rn hc) hg hm (by decide +kernel) (cH ha f7 he) (by decide) (by decide) he hpl) fun σ H Q h=>by
  obtain⟨H₀,Z₀,Z,δ,d,hh,e,k⟩:=h;obtain⟨x,e1,e⟩:=bind_some e;cases x with
  |dict kvs=>
   obtain⟨es,e3,e⟩:=bind_some e;obtain⟨l,e4,e⟩:=bind_some e;obtain⟨h64,e⟩:=cO e;cases e;refine⟨H₀,Z₀,Z,δ,_,hh,e1,fun v Z1 H1 hh1 t1 r1=>?_⟩
   obtain⟨ad,rfl,g⟩:=zC r1 e3;refine⟨ad,_,l,rfl,hh1.zh _ _ g,by have:=iw e4;rw[<-this];simp[List.map_map,Function.comp_def],h64,fun l' hl=>?_⟩
   have n:=New.add hh1.zh hl (.lst ((bB l).map V.int));exact k _ _ _ (hh1.new n) (t1.trans n.z) (.lst (SqL.of aw) (Reps.ints _))
  |_=>cases e
def xx(td:TE):TE:=fun σ H Q=>td σ H fun x H1=>∃(a:Addr) (kvs:List (ao×V)) (ns ms:List Int),x=V.ref a/\H1 a=some (.dK kvs)/\kvs.map (·.1)=ns.map Sum.inl/\kvs.map (·.2)=ms.map V.int/\ns.length<=100000/\ns.Nodup /\
 ∀(H':Hp) (l:Addr) (as:List Addr) (q:Array Nat),(∀b,H1 b≠none->H' b=H1 b)->H1 l=none->Pm ns.length q->Up (fun j=>ns.getD j 0) q ns.length->as.length=ns.length->H' l=some (.lst (q.toList.map fun i=>V.ref (as.getD i 0))) ->
  (∀(j:Nat) (b:Addr),as[j]? = some b->H1 b=none/\∃k v,ns[j]? = some k/\kvs[j]? = some (.inl k,v)/\H' b=some (.tup [.int k,v]))->Q (.ref l) H'
theorem um(hc:X.calm=true)(hg:Gl X "sorted")(hm:X.mg "sorted" = none)(ho:PE X o td)
  (hbase:attributeBase o "items" X.env (eval o X.env)=eval o X.env:=by rfl) (hline:(apos.endLine==cpos.line)=true:=by rfl)
  (he:starEach [.Call (.Attribute o "items" apos) [] [] cpos] X.env=(false,eval (.Call (.Attribute o "items" apos) [] [] cpos) X.env)::starEach [] X.env:=by rfl) (hpl:(backTo pos (starEach [] X.env)).any (·.1)=false:=by rfl) :
  PE X (.Call (.Name "sorted" p) [.Call (.Attribute o "items" apos) [] [] cpos] [] pos) (xx td):=by
 intro pins s σ H Q I h;refine wpAny_Call_Name_kw (jh I hg hm (u:=.builtin "sorted") (by decide +kernel) ?_ (by decide) (by decide));refine PyProof.Rows.callWith_builtin1 ?_ he hpl;rw[he];show wpAny _ _ (spliced ((false,eval _ X.env)::backTo pos (starEach [] X.env))) _ _ s;refine Calls.spliced_cons ?_;refine wpAny_Call_method0_late hbase hline (cn (ho pins s σ H _ I h) fun v s1 ⟨x,H1,I1,r1,q1⟩=>?_)
 obtain⟨a,kvs,ns,ms,e1,ha,hk,hms,h64,nd,q⟩:=q1;subst e1;cases r1;obtain⟨t1,t2,_⟩:=yX I1 (.inl ⟨kvs,.inl ha⟩);obtain⟨z,hlo,vs,rel,dd⟩:=lr I1.hok (.inl ha);refine⟨"dict","dict.items",PySem.F.plainAttrs_dict,PySem.F.slot_dict_items,PySem.F.type_dict_items,t1,t2,Calls.callWith_builtin rfl (PySem.evalArgs_none ?_)⟩;refine call_meetsIn PySem.F.slot_dict_items dd.typeIs PySem.F.entry_dict_items (PySem.F.args_dict_items_1 _) (meets_dict_items (aL X.prog X.w) a hlo) ⟨⟨vs,dd⟩,?_⟩;refine Calls.spliced_nil ?_;have hln:vs.length=ns.length:=by
  have:=congrArg List.length hk;simp only[List.length_map]at this;rw[<-rel.length,this]
 have dd1:=dd.push { cls:=.type "dict_items",data:=.fields #[.ref a] };obtain⟨ep,dat⟩:=dd1.dictAt;refine Calls.call_function_entry kind_sorted plain_sorted entry_sorted (args_sorted1 _) ?_;unfold Builtin.«sorted»;refine wpAny_bind (m:=checkCount "sorted" 1 1 _) (wpAny_pure ?_);refine wpAny_bind (PySem.W.kdx_collect (A:=X.A.in1) (knd:=aL X.prog X.w) (kvs:=vs) (ep:=ep) (d:=a) (I1.ok.hd hc) ⟨_,Heap.get?_push_size _ rfl,rfl,rfl⟩ dat (by rw[hln,sizeLine_eq];omega) fun h' tk as hk' hal hG=>?_)
 dsimp only at hk' hG ⊢;have hasn:as.length=ns.length:=by rw[hal,hln]
 have kv:vs.map (·.1)=ns.map Sum.inl:=by rw[mf rel];exact hk
 have at_:∀(j:Nat) (b:Addr),as[j]? = some b->∃k t u,ns[j]? = some k/\vs[j]? = some (.inl k,u)/\h'.get? b=some { cls:=.type "tuple",data:=.seq #[.int k t,u] }:=fun j b eb=>by
  obtain⟨ky,k,u,e1,e2,e3⟩:=hG.pairs j b eb;have e4:(vs.map (·.1))[j]? = some k:=by rw[List.getElem?_map,e1];rfl
  rw[kv,List.getElem?_map]at e4;cases e5:ns[j]? with
  |none=>rw[e5]at e4;cases e4
  |some i=>
   rw[e5]at e4;have e4:Sum.inl i=k:=by simpa using e4
   subst e4;rcases bz (show lc (.inl i) ky=true from e2)with⟨i',t,q1,rfl⟩|⟨y,t,q1,rfl⟩
   ·cases q1
    exact⟨i,t,u,rfl,e1,e3⟩
   ·cases q1
 refine wpAny_bind (wpAny_newList ?_ (by rw[List.length_map,hasn,sizeLine_eq];omega));have hoL:(h'.push (seqObj "list" (as.map Value.ref).toArray 0)).get? h'.objs.size=some (seqObj "list" (as.map Value.ref).toArray 0):=Heap.get?_push_size _ rfl;have pa:zO (h'.push (seqObj "list" (as.map Value.ref).toArray 0)) (fun j=>ns.getD j 0) (as.map Value.ref):=fun j v ev=>by
  rw[List.getElem?_map]at ev;cases eb:as[j]? with
  |none=>rw[eb]at ev;cases ev
  |some b=>
   rw[eb]at ev;cases ev;obtain⟨k,t,u,e1,e2,e3⟩:=at_ j b eb;have ek:ns.getD j 0=k:=by rw[List.getD_eq_getElem?_getD,e1];rfl
   obtain⟨v,e4,e5⟩:=uy kvs vs j _ u rel e2;have e6:(kvs.map (·.2))[j]? = some v:=by rw[List.getElem?_map,e4];rfl
   rw[hms,List.getElem?_map]at e6;obtain⟨m,_,rfl⟩:=Option.map_eq_some_iff.mp e6;obtain⟨t',rfl⟩:=e5;refine⟨b,t,m,t',rfl,?_⟩;show _=some ({ cls:=.type "tuple",data:=.seq #[.int (ns.getD j 0) t,.int m t'] }:Obj);rw[ek];exact Heap.get?_push_of_some _ e3
 have hlv:(as.map Value.ref).length=ns.length:=by rw[List.length_map,hasn]
 refine wpAny_bind (wpAny_holding (wpAny_call_entry slot_list_sort ⟨_,hoL,rfl⟩ entry_list_sort (nq hoL pa (by rw[hlv];exact EY nd) (by rw[hlv,sizeLine_eq];omega) fun q' hp hu=>⟨_,rfl,?_⟩) (args_list_sort _)))
 refine wpAny_pure ⟨_,rfl,?_⟩;rw[hlv]at hp hu;generalize hout:List.toArray (q'.toList.map fun i=>(as.map Value.ref).getD i Value.none)=out
 have I2:Inv X pins σ H1 { s1 with heap:=h',toks:=tk }:=I1.kept fun b o eo=>hk' b o (Heap.get?_push_of_some _ eo)
 have kp:∀b o,h'.get? b=some o->(sortedHeap (h'.push (seqObj "list" (as.map Value.ref).toArray 0)) h'.objs.size (as.map Value.ref) out).get? b=some o:=fun b o eo=>by
  have hb:b≠h'.objs.size:=Nat.ne_of_lt (Heap.lt_size eo);exact bA hb (Heap.get?_push_of_some _ (Heap.get?_push_of_some _ (bA hb (Heap.get?_push_of_some _ eo))))
 obtain⟨e1,ho1⟩:∃e1,((h'.push (seqObj "list" (as.map Value.ref).toArray 0)).update h'.objs.size (Obj.mapSeq fun _=>#[])).get? h'.objs.size=some (seqObj "list" #[] e1):=⟨_,get?_update_seq hoL (fun _=>#[])⟩;have ho2:=Heap.get?_push_of_some (seqObj "list" #[] 0) (Heap.get?_push_of_some (seqObj "tuple" (as.map Value.ref).toArray 0) ho1);have ho3:=get?_update_seq ho2 (fun _=>out);generalize hts:((List.range ns.length).map fun j=>[V.int (ns.getD j 0),((kvs[j]?).map (·.2)).getD V.non])=ts
 have lo_:∀(j:Nat) (b:Addr),as[j]? = some b->s1.heap.objs.size<b:=fun j b eb=>by
  have:=hG.above b (List.mem_of_getElem? eb);rw[Heap.size_push]at this;exact Nat.lt_of_lt_of_le (Nat.lt_succ_self _) (Nat.le_of_lt this)
 have fr:∀(j:Nat) (b:Addr),as[j]? = some b->H1 b=none/\b≠h'.objs.size/\s1.heap.objs.size<=b:=fun j b eb=>by
  obtain⟨_,_,_,_,_,e3⟩:=at_ j b eb;exact⟨I1.hok.fresh (Nat.le_of_lt (lo_ j b eb)),Nat.ne_of_lt (Heap.lt_size e3),Nat.le_of_lt (lo_ j b eb)⟩
 have hD:H1 h'.objs.size=none:=I2.hok.fresh (Nat.le_refl _);have tsat:∀(j:Nat) (b:Addr),as[j]? = some b->∃k v u t,ns[j]? = some k/\kvs[j]? = some (.inl k,v)/\ts[j]? = some [V.int k,v]/\RelV v u/\h'.get? b=some { cls:=.type "tuple",data:=.seq #[.int k t,u] }:=fun j b eb=>by
  obtain⟨k,t,u,e1,e2,e3⟩:=at_ j b eb;obtain⟨v,e4,e5⟩:=uy kvs vs j _ u rel e2;have hj:j<ns.length:=(List.getElem?_eq_some_iff.mp e1).1;refine⟨k,v,u,t,e1,e4,?_,e5,e3⟩;rw[<-hts,List.getElem?_map,List.getElem?_range hj];show some [V.int (ns.getD j 0),((kvs[j]?).map (·.2)).getD V.non]=_;rw[e4,List.getD_eq_getElem?_getD,e1];rfl
 have ext:∀b,H1 b≠none->(fun b=>if H1 b≠none then H1 b else if b=h'.objs.size then some (HO.lst (q'.toList.map fun i=>V.ref (as.getD i 0)))else wA as ts b) b=H1 b:=fun b hb=>if_pos hb
 have le1:s1.heap.objs.size<=h'.objs.size:=by
  have v:=hk' s1.heap.objs.size _ (Heap.get?_push_size _ rfl);exact Nat.le_of_lt (Heap.lt_size v)
 have qlt:∀i∈q'.toList,i<ns.length:=fun i hi=>List.mem_range.mp (hp.perm.mem_iff.mp hi)
 have gv:∀i,i<ns.length->(as.map Value.ref).getD i Value.none=Value.ref (as.getD i 0):=fun i hi=>by
  rw[List.getD_eq_getElem?_getD,List.getElem?_map,List.getD_eq_getElem?_getD,List.getElem?_eq_getElem (by rw[hasn];exact hi)];rfl
 have L:=wQ (h':=sortedHeap (h'.push (seqObj "list" (as.map Value.ref).toArray 0)) h'.objs.size (as.map Value.ref) out) (t':=tk) I1 (fun b o eo=>kp b o (hk' b o (Heap.get?_push_of_some _ eo))) ext fun b o nb eb=>by
  simp only[nb,ne_eq,not_true,if_false]at eb;split at eb
  ·rename_i ebs
   subst ebs;cases eb;refine⟨le1,show ObjOk X.prog X.w _ _ _ (.lst (q'.toList.map fun i=>V.ref (as.getD i 0)))from ⟨by rw[List.length_map,Array.length_toList,hp.size,sizeLine_eq];omega,out.toList,_,?_,by rw[Array.toArray_toList];exact ho3⟩⟩
   rw[<-hout];show Vals _ (q'.toList.map fun i=>(as.map Value.ref).getD i Value.none)
   have key:∀l:List Nat,(∀i∈l,i<ns.length)->Vals (l.map fun i=>V.ref (as.getD i 0)) (l.map fun i=>(as.map Value.ref).getD i Value.none):=fun l=>by
    induction l with
    |nil=>intro _;exact .nil
    |cons x l ih=>
     intro hx;exact .cons (gv x (hx x List.mem_cons_self)) (ih fun i hi=>hx i (List.mem_cons_of_mem _ hi))
   exact key _ qlt
  ·obtain⟨j,t,h1',h2',rfl⟩:=pQ eb
   obtain⟨_,_,g⟩:=fr j b h1';obtain⟨k,v,u,tt,_,_,e3,e4,e5⟩:=tsat j b h1';rw[e3]at h2';cases h2';exact⟨g,show ObjOk X.prog X.w _ _ _ (.tup [V.int k,v])from ⟨by rw[sizeLine_eq];show 2<=16777216;decide,[.int k tt,u],.cons ⟨tt,rfl⟩ (.cons e4 .nil),⟨_,kp b _ e5,rfl,_,rfl⟩,_,kp b _ e5,rfl⟩⟩
 refine⟨.ref h'.objs.size,_,L,rfl,q _ _ as q' ext hD hp hu hasn (by simp[hD]) fun j b eb=>?_⟩
 obtain⟨g1,g2,g3⟩:=fr j b eb;obtain⟨k,v,u,tt,e1,e2,e3,_,_⟩:=tsat j b eb;exact⟨g1,k,v,e1,e2,by simp only[g1,ne_eq,not_true,if_false];rw[if_neg g2];exact sA hG.rise eb e3⟩
theorem uM(i:Nat){x:Str}{p3:Pos}(hg:Gl X "sorted")(hm:X.mg "sorted" = none)(hc:X.calm=true:=by rfl)(hN:X.N[i]? = some x:=by rfl)(hv:oH X.env.scope x:=by first|exact Or.inl rfl|exact Or.inr (Or.inl rfl)|exact Or.inr (Or.inr rfl))(hd:(x==("__debug__":Str))=false:=by decide)(hcd:(x==("__classdict__":Str))=false:=by decide)
  (hbase:attributeBase (.Name x p3) "items" X.env (eval (.Name x p3) X.env)=eval (.Name x p3) X.env:=by rfl) (hline:(apos.endLine==cpos.line)=true:=by rfl)
  (he:starEach [.Call (.Attribute (.Name x p3) "items" apos) [] [] cpos] X.env=(false,eval (.Call (.Attribute (.Name x p3) "items" apos) [] [] cpos) X.env)::starEach [] X.env:=by rfl) (hpl:(backTo pos (starEach [] X.env)).any (·.1)=false:=by rfl) :
  EV X (.Call (.Name "sorted" p) [.Call (.Attribute (.Name x p3) "items" apos) [] [] cpos] [] pos) (ir i):=
 PE.imp (um hc hg hm (cf hN hv hd hcd) hbase hline he hpl) fun σ H Q h=>by
  obtain⟨H₀,Z₀,Z,δ,d,hh,e,k⟩:=h;obtain⟨es,e1,e⟩:=bind_some e;obtain⟨l,e2,e⟩:=bind_some e;obtain⟨⟨h64,nd,hi⟩,e⟩:=cO e;cases e;obtain⟨a,kvs,h1,h4,h5⟩:=iW hh e1;have hkl:kvs.map (·.1)=l.map Sum.inl:=by rw[<-h5.1];exact iw e2
  obtain⟨li,hli⟩:=Option.isSome_iff_exists.mp hi;have hms:kvs.map (·.2)=(li.map (·.2)).map V.int:=by
   have h6:=h5;rw[nE hli]at h6;rw[kB h6,List.map_map,List.map_map];rfl
  refine⟨_,h1,a,kvs,l,_,rfl,h4,hkl,hms,h64,nd,fun H' lo as q' ext hl hp hu hal hl' hpr=>?_⟩
  have n:=New.many (Z:=Z) (H':=H') hh.zh ext;refine k _ _ _ (hh.new n) n.z (.lst (SqL.of (by rw[if_pos hl,hl'];rfl)) ?_);have ei:bB l=q'.toList.map fun i=>l.getD i 0:=by
   refine(iO ?_ ?_).symm
   ·have:=hp.perm.map fun i=>l.getD i 0
    have e:((List.range l.length).map fun i=>l.getD i 0)=l:=by
     apply List.ext_getElem?;intro j;by_cases hj:j<l.length
     ·rw[List.getElem?_map,List.getElem?_range hj,List.getElem?_eq_getElem hj]
      show some (l.getD j 0)=_;rw[List.getD_eq_getElem?_getD,List.getElem?_eq_getElem hj];rfl
     ·rw[List.getElem?_eq_none (by simp;omega),List.getElem?_eq_none (by omega)]
    rw[e]at this;exact this
   ·rw[List.pairwise_map,List.pairwise_iff_getElem]
    intro i j hi hj hij;have hz:=hp.size;have:=hu i j hij (by rw[Array.length_toList,hz]at hj;exact hj);unfold ky at this;have e1:q'.getD i 0=q'.toList[i]:=by simp[Array.getD,show i<q'.size by simpa using hi]
    have e2:q'.getD j 0=q'.toList[j]:=by simp[Array.getD,show j<q'.size by simpa using hj]
    rw[e1,e2]at this;exact Int.le_of_lt this
  unfold uA;rw[ei,List.map_map];have qlt:∀i∈q'.toList,i<l.length:=fun i hi=>List.mem_range.mp (hp.perm.mem_iff.mp hi)
  have key:∀u:List Nat,(∀i∈u,i<l.length)->Reps X.K (fun b=>if H b=none then FW (H' b)else Z b) (u.map fun i=>V.ref (as.getD i 0)) (u.map ((fun k=>PyData.tuple [.int k,(eU es (.inl k)).getD .none]) ∘ fun i=>l.getD i 0)):=fun u=>by
   induction u with
   |nil=>intro _;exact .nil
   |cons i u ih=>
    intro hx;refine .cons ?_ (ih fun j hj=>hx j (List.mem_cons_of_mem _ hj))
    have hi:=hx i List.mem_cons_self;have eb:as[i]? = some (as.getD i 0):=by rw[List.getD_eq_getElem?_getD,List.getElem?_eq_getElem (by rw[hal];exact hi)];rfl
    obtain⟨g1,k',v,g2,g3,g4⟩:=hpr i _ eb;have el:l.getD i 0=k':=by rw[List.getD_eq_getElem?_getD,g2];rfl
    have hkv:(kvs.map (·.2))[i]? = some v:=by rw[List.getElem?_map,g3];rfl
    obtain⟨d,q1,q2⟩:=h5.2.getV hkv;have hek:(es.map (·.1))[i]? = some (.inl k'):=by rw[h5.1,List.getElem?_map,g3];rfl
    have hes:es[i]? = some (.inl k',d):=by
     rw[List.getElem?_map]at q1 hek;cases e:es[i]? with
     |none=>rw[e]at q1;cases q1
     |some z=>
      rw[e]at q1 hek;obtain⟨z1,z2⟩:=z;have hek:z1=.inl k':=by simpa using hek
      have q1:z2=d:=by simpa using q1
      rw[hek,q1]
    have hgt:eU es (.inl k')=some d:=vI (by rw[iw e2];exact EX nd) hes;show Rep _ _ _ (.tuple [.int (l.getD i 0),(eU es (.inl (l.getD i 0))).getD .none]);rw[el,hgt];exact .tup (SqT.of (by rw[if_pos g1,g4];rfl)) (.cons (.int k') (.cons (q2.same n.z) .nil))
  exact key _ qlt
end
section
variable{X:Cx}{st:Stmt}{s1:Sf}
theorem Dl(i j:Nat)(h:SV X st s1):SV X st (fun δ=>s1 (tf j (B8 i δ))):=Cw i (s1:=fun δ=>s1 (tf j δ)) (Dk j h)
end
end VL
namespace MA
open PySem
noncomputable def IR(j most:Int):Int:=if j=0 then most else if(Builtin.Int.intBits (Builtin.bitAnd j (-j)):Int)-1<most then(Builtin.Int.intBits (Builtin.bitAnd j (-j)):Int)-1 else most
theorem vW{a:Int}{m:Nat}(h:a.natAbs<2^m):Builtin.Int.intBits a<=m:=by
 unfold Builtin.Int.intBits;split
 ·exact Nat.zero_le _
 ·rename_i h0
  have h0:a≠0:=by simpa using h0
  have:a.natAbs.log2<m:=(Nat.log2_lt (by omega)).mpr h;omega
structure Q4 where
 a:Int
 b:Int
 c:Int
 d:Int
namespace Q4
noncomputable def add(x y:Q4):Q4:=⟨x.a+y.a,x.b+y.b,x.c+y.c,x.d+y.d⟩
noncomputable def rt(x:Q4):Q4:=⟨x.b-x.d,x.a+x.c,x.b+x.d,x.c-x.a⟩
noncomputable def tn(x:Q4):Q4:=⟨-x.d,x.a,x.b,x.c⟩
noncomputable def rtn:Nat->Q4->Q4
 | 0,x=>x
 |n+1,x=>rtn n (rt x)
end Q4
noncomputable def Jt(x:Q4)(k:Int):Q4×Int:=
 let t:=(IR (Builtin.bitOr (Builtin.bitOr (Builtin.bitOr x.a x.b) x.c) x.d) (k/2)).toNat
 let y:Q4:=⟨x.a/2^t,x.b/2^t,x.c/2^t,x.d/2^t⟩
 if k-2*t=0\/(y.a-y.c)%2=1\/(y.b-y.d)%2=1 then(y,k-2*t)else(⟨(y.b-y.d)/2,(y.a+y.c)/2,(y.b+y.d)/2,(y.c-y.a)/2⟩,k-2*t-1)
noncomputable def CA(x:Q4)(c:Int)(y:Q4)(d:Int):Q4×Int:=Jt (Q4.add (Q4.rtn (max c d-c).toNat x) (Q4.rtn (max c d-d).toNat y)) (max c d)
noncomputable def Km:Nat->Q4->Q4
 | 0,x=>x
 |n+1,x=>Q4.tn (Km n x)
structure S2 where
 p:Int
 q:Int
namespace S2
end S2
abbrev Nu:=Q4×Nat
inductive Row where
 |swing (j:Nat)|turn (j:Nat) (e:Nat)|flip (j:Nat)|tie (i j:Nat)|sign (i j:Nat)|cross (i j:Nat)
noncomputable def CB(u v:Nu):Nu:=((CA u.1 u.2 v.1 v.2).1,(CA u.1 u.2 v.1 v.2).2.toNat)
noncomputable def CV(u:Nu):Nu:=((Jt u.1 ((u.2+1:Nat):Int)).1,(Jt u.1 ((u.2+1:Nat):Int)).2.toNat)
noncomputable def xv(e:Nat)(u:Nu):Nu:=(Km (e%8) u.1,u.2)
noncomputable def wt(n j:Nat):Nat:=2^(n-1-j)
noncomputable def bit(w p:Nat):Nat:=p/w%2
noncomputable def HJ(w p:Nat):Nat:=if bit w p=0 then p+w else p-w
noncomputable def CW(n:Nat):Row->Nat->Nat
 |.flip j,p=>HJ (wt n j) p
 |.tie i j,p=>if bit (wt n i) p=0 then p else HJ (wt n j) p
 |.cross i j,p=>if bit (wt n i) p=bit (wt n j) p then p else HJ (wt n j) (HJ (wt n i) p)
 |_,p=>p
noncomputable def Fy(n:Nat)(f:Nat->Nu):Row->Nat->Nu
 |.swing j,p=>if bit (wt n j) p=0 then CV (CB (f p) (f (p+wt n j)))else CV (CB (f (p-wt n j)) (xv 4 (f p)))
 |.turn j e,p=>xv (e*bit (wt n j) p) (f p)
 |.sign i j,p=>xv (4*bit (wt n i) p*bit (wt n j) p) (f p)
 |r,p=>f (CW n r p)
def Row.ok(n:Nat):Row->Prop
 |.swing j=>j<n
 |.turn j e=>j<n/\1<=e/\e<=7
 |.flip j=>j<n
 |.tie i j=>i<n/\j<n/\i≠j
 |.sign i j=>i<n/\j<n/\i≠j
 |.cross i j=>i<n/\j<n/\i≠j
theorem HY(a b:Nat):Builtin.bitAnd (a:Int) (b:Int)=((a &&& b:Nat):Int):=by
 unfold Builtin.bitAnd;simp
theorem v7{x y z:Nat}(h:x/2=y/2+z/2)(m:x%2=y%2+z%2):x=y+z:=by omega
theorem wG{u v w:Nat}{p q:Prop}(hu:u<2)(hv:v<2)(hw:w<2)(m1:u=1↔p\/q)(m2:v=1 ↔ ¬(p↔q))(m3:w=1↔p/\q):u=v+w:=by
 have z:∀{x:Nat},x<2->¬x=1->x=0:=fun h k=>by omega
 by_cases a:p<;>by_cases b:q
 ·rw[m1.mpr (.inl a),m3.mpr ⟨a,b⟩,z hv fun e=>m2.mp e ⟨fun _=>b,fun _=>a⟩]
 ·rw[m1.mpr (.inl a),m2.mpr fun e=>b (e.mp a),z hw fun e=>b (m3.mp e).2]
 ·rw[m1.mpr (.inr b),m2.mpr fun e=>a (e.mpr b),z hw fun e=>a (m3.mp e).1]
 ·rw[z hu fun e=>(m1.mp e).elim a b,z hv fun e=>m2.mp e ⟨fun c=>absurd c a,fun c=>absurd c b⟩,z hw fun e=>a (m3.mp e).1]
theorem oF:∀(k a b:Nat),a<2^k->b<2^k->(a ||| b)=(a ^^^ b)+(a &&& b)
 | 0,a,b,ha,hb=>by
  have:a=0:=by simpa using ha
  have:b=0:=by simpa using hb
  subst a;subst b;rfl
 |k+1,a,b,ha,hb=>by
  have ih:=oF k (a/2) (b/2) (by rw[Nat.pow_succ]at ha;omega) (by rw[Nat.pow_succ]at hb;omega);have h1:=@Nat.or_div_two a b;have h2:=@Nat.xor_div_two a b;have h3:=@Nat.and_div_two a b;have m1:=@Nat.or_mod_two_eq_one a b;have m2:=@Nat.xor_mod_two_eq_one a b;have m3:=@Nat.and_mod_two_eq_one a b;rw[<-h1,<-h2,<-h3]at ih;exact v7 ih (wG (Nat.mod_lt _ (by decide)) (Nat.mod_lt _ (by decide)) (Nat.mod_lt _ (by decide)) m1 m2 m3)
theorem Lb(a b:Nat):Builtin.bitOr (a:Int) (b:Int)=((a ||| b:Nat):Int):=by
 have h1:¬(0:Int)<=Builtin.bitNot (a:Int):=by unfold Builtin.bitNot;omega
 have h2:¬(0:Int)<=Builtin.bitNot (b:Int):=by unfold Builtin.bitNot;omega
 have e1:(Builtin.bitNot (Builtin.bitNot (a:Int))).toNat=a:=by unfold Builtin.bitNot;omega
 have e2:(Builtin.bitNot (Builtin.bitNot (b:Int))).toNat=b:=by unfold Builtin.bitNot;omega
 unfold Builtin.bitOr Builtin.bitAnd;rw[decide_eq_false h1,decide_eq_false h2];dsimp only;rw[e1,e2];unfold Builtin.bitNot;omega
theorem HW(a b:Nat):Builtin.bitXor (a:Int) (b:Int)=((a ^^^ b:Nat):Int):=by
 unfold Builtin.bitXor;rw[Lb,HY];have h:∀n:Nat,n<2^n:=fun n=>Nat.lt_two_pow_self
 have:=oF (max a b) a b (Nat.lt_of_lt_of_le (h a) (Nat.pow_le_pow_right (by decide) (by omega))) (Nat.lt_of_lt_of_le (h b) (Nat.pow_le_pow_right (by decide) (by omega)));omega
noncomputable def KG(n:Nat):Nat:=if n=0 then 0 else n%2+KG (n/2)
termination_by n
decreasing_by omega
noncomputable def par(n:Nat):Nat:=KG n%2
structure Wd where
 x:Nat
 z:Nat
 s:Nat
noncomputable def C7(u v:Wd):Wd:=⟨u.x ^^^ v.x,u.z ^^^ v.z,(u.s+v.s+2*par (u.z &&& v.x))%4⟩
def Sh(k:Nat)(d:PyData):Prop:=d.canLay0=true/\d.depth<=k
theorem Sh.int(k:Nat)(i:Int):Sh k (.int i):=⟨by simp[PyData.canLay0],by simp[PyData.depth]⟩
theorem Sh.all{k:Nat}:∀(xs:List PyData),(∀x∈xs,Sh k x)->PyData.canLayAll0 xs=true/\PyData.depthAll xs<=k
 |[],_=>⟨by simp[PyData.canLayAll0],by simp[PyData.depthAll]⟩
 |x::xs,h=>by
  obtain⟨a,b⟩:=Sh.all xs fun y hy=>h y (List.mem_cons_of_mem _ hy)
  obtain⟨c,d⟩:=h x List.mem_cons_self;refine⟨by simp[PyData.canLayAll0,a,c],?_⟩;simp only[PyData.depthAll];omega
theorem Sh.tuple{k:Nat}{xs:List PyData}(h:∀x∈xs,Sh k x):Sh (k+1) (.tuple xs):=by
 obtain⟨a,b⟩:=Sh.all xs h;exact⟨by simp[PyData.canLay0,a],by simp only[PyData.depth];omega⟩
mutual
theorem nV:∀d:PyData,d.canLay0=true->PyData.eqv d d=true
 |.none,_=>by simp[PyData.eqv]
 |.bool _,_=>by simp[PyData.eqv]
 |.int _,_=>by simp[PyData.eqv]
 |.str _,_=>by simp[PyData.eqv]
 |.list xs,h=>by
  simp only[PyData.eqv];exact eqvAll_self xs (by simpa[PyData.canLay0]using h)
 |.tuple xs,h=>by
  simp only[PyData.eqv];exact eqvAll_self xs (by simpa[PyData.canLay0]using h)
 |.dict _,h=>by simp[PyData.canLay0]at h
theorem eqvAll_self:∀xs:List PyData,PyData.canLayAll0 xs=true->PyData.eqvAll xs xs=true
 |[],_=>by simp[PyData.eqvAll]
 |x::xs,h=>by
  have h':x.canLay0=true/\PyData.canLayAll0 xs=true:=by simpa[PyData.canLayAll0]using h
  simp only[PyData.eqvAll,nV x h'.1,eqvAll_self xs h'.2,Bool.and_self]
end
noncomputable def val(M:Nat)(u:Nu):Q4:=Q4.rtn (M-u.2) u.1
end MA
namespace GN
open PySem L2 VL
noncomputable def kr(i:Nat):Stmt:=PySem.Challenge.pw_wavewires_k29_a_circuit_woven.main.body.getD i (.Pass ⟨0,0,0,0⟩)
abbrev fF:Stmt:=kr 1
abbrev jp:List Str:=["circuit"]
noncomputable def fW:Dv->Option D:=eT (oI (o2 (oV 0) (oC (.int 1)) aW) dB) [] tR (ob (o2 (o2 (oV 0) (oC (.int 0)) aW) (oC (.str "look")) bT)) (oV 0)
noncomputable def jn:Sf:=eM (os (ae (fW) (aE)) lE)
noncomputable def cY:List D->Option D:=cD jp 1 jn
abbrev eL:Stmt:=kr 3
abbrev iE:List Str:=["turn","turns","pairs","by_set","pair","bitset","e"]
noncomputable def gI:Dv->Option D:=eT (oI (ir 3) dB) [] tR (ob (o2 (o2 (oV 0) (oC (.int 1)) aW) (oC (.int 0)) neD)) (oV 0)
noncomputable def cJ:Sf:=aq (cA 5 (o2 (oV 4) (oC (.int 0)) aW)) (aq (cA 6 (o2 (oV 4) (oC (.int 1)) aW)) (aq (b5 (ob (o2 (o2 (oV 5) (oC (.int 1)) H9) (oC (.int 1)) bT)) (aq (cA 0 (o2 (oV 0) (oV 6) br)) (aq (cA 5 (o2 (oV 5) (oC (.int 1)) fS)) (cA 6 (o1 (oV 6) negD)))) (oX)) (b5 (ob (o2 (oV 5) (oC (.int 0)) neD)) (dw 3 (oV 5) (o2 (o2 (jf 3 (oV 5) (oC (.int 0))) (oV 6) br) (oC (.int 8)) df)) (oX))))
noncomputable def iD:Sf:=aq (uc 3 (oV 1)) (aq (ub (oI (oV 2) dB) (gN 4) (cJ)) (eM (os (ae (o2 (oV 0) (oC (.int 8)) df) (ae (os (ae (gI) (aE)) f6) (aE))) cT)))
noncomputable def cG:List D->Option D:=cD iE 3 iD
abbrev jI:Stmt:=kr 4
abbrev tN:List Str:=["one","other"]
noncomputable def oB:Sf:=eM (os (ae (os (ae (oV 0) (ae (oC (.int 2)) (aE))) cT) (ae (os (ae (oV 1) (ae (oC (.int 2)) (aE))) cT) (ae (os (ae (o2 (oV 0) (oV 1) fS) (ae (oC (.int 6)) (aE))) cT) (aE)))) gO)
noncomputable def fO:List D->Option D:=cD tN 2 oB
abbrev cL:Stmt:=kr 5
abbrev eX:List Str:=["ties"]
noncomputable def de:Dv->Option D:=eT (oI (o1 (oV 0) jA) dB) [] tR (ob (o2 (oV 0) (oC (.int 0)) neD)) (oV 0)
noncomputable def eV:Sf:=eM (os (ae (de) (aE)) f6)
noncomputable def bc:List D->Option D:=cD eX 1 eV
abbrev cz:Stmt:=dP (kr 6) 0
abbrev er:List Str:=["self","wires","looks"]
noncomputable def dO:Dv->Option D:=hJ (oL (ae (oV 1) (aE)) fH) [] tR (o2 (oC (.int 1)) (o2 (oC (.int 1)) (oV 0) br) h7)
noncomputable def d9:Sf:=aq (pP "Ways" "carried" (yl (dO))) (aq (pP "Ways" "pairs" (yl (os (aE) gO))) (aq (pP "Ways" "ties" (yl (os (aE) gO))) (aq (pP "Ways" "hidden" (yl (os (aE) gO))) (aq (su "Ways" "first_mark" (o2 (o2 (oC (.int 2)) (oV 1) nc) (oC (.int 1)) br)) (aq (su "Ways" "first_hidden" (o2 (o2 (o2 (oC (.int 2)) (oV 1) nc) (oC (.int 1)) br) (oV 2) br)) (su "Ways" "looked" (oC (.int 0))))))))
noncomputable def fY:List D->Option (List (Str×D)):=DB "Ways" er 3 d9
abbrev fj:Stmt:=dP (kr 6) 2
abbrev kg:List Str:=["self","one","other"]
noncomputable def gZ:Sf:=xM "Ways" 0 "pairs" (os (ae (oV 1) (ae (oV 2) (aE))) fO)
noncomputable def aQ:List (Str×D)->List D->Option (List (Str×D)):=fG "Ways" kg 3 gZ
abbrev eE:Stmt:=dP (kr 6) 3
abbrev ja:List Str:=["self","wire","bit"]
noncomputable def gc:Sf:=aq (sr 2 (o2 (o1 (oV 0) (cE "Ways" "first_hidden")) (os (ae (o1 (oV 0) (cE "Ways" "hidden")) (aE)) lE) br)) (aq (mJ "Ways" 0 "hidden" (oV 2)) (aq (bV "Ways" 0 "sign" (ae (o2 (o1 (oV 0) (cE "Ways" "carried")) (oV 1) aW) (ae (o2 (oC (.int 1)) (oV 2) h7) (aE))) aQ) (kY "Ways" 0 "carried" (oV 1) (o2 (oC (.int 1)) (oV 2) h7))))
noncomputable def bX:List (Str×D)->List D->Option (List (Str×D)):=fG "Ways" ja 2 gc
abbrev fw:Stmt:=dP (kr 6) 1
abbrev ki:List Str:=["self","wire","bitset"]
noncomputable def g7:Sf:=kY "Ways" 0 "carried" (oV 1) (o2 (o2 (o1 (oV 0) (cE "Ways" "carried")) (oV 1) aW) (oV 2) fS)
noncomputable def aR:List (Str×D)->List D->Option (List (Str×D)):=fG "Ways" ki 3 g7
abbrev eF:Stmt:=dP (kr 6) 4
abbrev jb:List Str:=["self","one","other","kept"]
noncomputable def gg:Sf:=aq (sr 3 (o2 (o1 (oV 0) (cE "Ways" "carried")) (oV 1) aW)) (aq (kY "Ways" 0 "carried" (oV 1) (o2 (o1 (oV 0) (cE "Ways" "carried")) (oV 2) aW)) (kY "Ways" 0 "carried" (oV 2) (oV 3)))
noncomputable def bY:List (Str×D)->List D->Option (List (Str×D)):=fG "Ways" jb 3 gg
abbrev db:Stmt:=dP (kr 6) 5
abbrev gB:List Str:=["self","mark"]
noncomputable def d8:Sf:=eM (o2 (oC (.int 1)) (o2 (o1 (oV 0) (cE "Ways" "first_mark")) (oV 1) br) h7)
noncomputable def aI:List D->Option D:=cD gB 2 d8
abbrev fq:Stmt:=dP (kr 6) 6
abbrev kh:List Str:=["self","wire"]
noncomputable def g6:Sf:=aq (mJ "Ways" 0 "ties" (o2 (o2 (o1 (oV 0) (cE "Ways" "carried")) (oV 1) aW) (m6 "Ways" "mark_set" (oV 0) (ae (o1 (oV 0) (cE "Ways" "looked")) (aE)) aI) fS)) (xL "Ways" 0 "looked" (o2 (o1 (oV 0) (cE "Ways" "looked")) (oC (.int 1)) br))
noncomputable def cg:List (Str×D)->List D->Option (List (Str×D)):=fG "Ways" kh 2 g6
abbrev eB:Stmt:=dP (kr 6) 7
abbrev i3:List Str:=["self","mark","row"]
noncomputable def eJ:Sf:=b5 (ob (o2 (o2 (oV 2) (oC (.int 0)) aW) (oC (.str "flip")) bT)) (bV "Ways" 0 "flip" (ae (o2 (oV 2) (oC (.int 1)) aW) (ae (m6 "Ways" "mark_set" (oV 0) (ae (oV 1) (aE)) aI) (aE))) aR) (bV "Ways" 0 "sign" (ae (m6 "Ways" "mark_set" (oV 0) (ae (oV 1) (aE)) aI) (ae (o2 (o1 (oV 0) (cE "Ways" "carried")) (o2 (oV 2) (oC (.int 1)) aW) aW) (aE))) aQ)
noncomputable def bi:List (Str×D)->List D->Option (List (Str×D)):=fG "Ways" i3 3 eJ
abbrev gF:Stmt:=dP (kr 6) 8
abbrev oM:List Str:=["self","row"]
noncomputable def cm:Sf:=b5 (ob (o2 (o2 (oV 1) (oC (.int 0)) aW) (oC (.str "swing")) bT)) (bV "Ways" 0 "swing" (ae (o2 (oV 1) (oC (.int 1)) aW) (aE)) bX) (b5 (ob (o2 (o2 (oV 1) (oC (.int 0)) aW) (oC (.str "turn")) bT)) (mJ "Ways" 0 "pairs" (os (ae (o2 (o1 (oV 0) (cE "Ways" "carried")) (o2 (oV 1) (oC (.int 1)) aW) aW) (ae (o2 (oV 1) (oC (.int 2)) aW) (aE))) cT)) (b5 (ob (o2 (o2 (oV 1) (oC (.int 0)) aW) (oC (.str "flip")) bT)) (bV "Ways" 0 "flip" (ae (o2 (oV 1) (oC (.int 1)) aW) (ae (oC (.int 1)) (aE))) aR) (b5 (ob (o2 (o2 (oV 1) (oC (.int 0)) aW) (oC (.str "tie")) bT)) (bV "Ways" 0 "flip" (ae (o2 (oV 1) (oC (.int 2)) aW) (ae (o2 (o1 (oV 0) (cE "Ways" "carried")) (o2 (oV 1) (oC (.int 1)) aW) aW) (aE))) aR) (b5 (ob (o2 (o2 (oV 1) (oC (.int 0)) aW) (oC (.str "sign")) bT)) (bV "Ways" 0 "sign" (ae (o2 (o1 (oV 0) (cE "Ways" "carried")) (o2 (oV 1) (oC (.int 1)) aW) aW) (ae (o2 (o1 (oV 0) (cE "Ways" "carried")) (o2 (oV 1) (oC (.int 2)) aW) aW) (aE))) aQ) (b5 (ob (o2 (o2 (oV 1) (oC (.int 0)) aW) (oC (.str "cross")) bT)) (bV "Ways" 0 "cross" (ae (o2 (oV 1) (oC (.int 1)) aW) (ae (o2 (oV 1) (oC (.int 2)) aW) (aE))) bY) (b5 (ob (o2 (o2 (oV 1) (oC (.int 0)) aW) (oC (.str "look")) bT)) (bV "Ways" 0 "look" (ae (o2 (oV 1) (oC (.int 1)) aW) (aE)) cg) (bV "Ways" 0 "where" (ae (o2 (oV 1) (oC (.int 1)) aW) (ae (o2 (oV 1) (oC (.int 2)) aW) (aE))) bi)))))))
noncomputable def aF:List (Str×D)->List D->Option (List (Str×D)):=fG "Ways" oM 2 cm
abbrev io:Stmt:=kr 7
abbrev oK:List Str:=["circuit","wires","looks","ways","row","ends","both"]
noncomputable def kC:Dv->Option D:=hJ (oL (ae (oV 1) (aE)) fH) [(1,"wires"),(3,"ways")] tR (o2 (o2 (o1 (oV 2) (cE "Ways" "carried")) (oV 0) aW) (o2 (oC (.int 1)) (o2 (o2 (oV 1) (oC (.int 1)) br) (oV 0) br) h7) fS)
noncomputable def gm:Sf:=bV "Ways" 3 "go" (ae (oV 4) (aE)) aF
noncomputable def oA:Sf:=aq (cA 1 (o2 (oV 0) (oC (.int 0)) aW)) (aq (cA 2 (os (ae (oV 0) (aE)) cY)) (Dy "Ways" 3 (ae (oV 1) (ae (oV 2) (aE))) fY (xO 3 4 (oI (o2 (oV 0) (oC (.int 1)) aW) dB) (gm)) (aq (cA 5 (kC)) (aq (cA 6 (os (ae (oC (.int 0)) (ae (os (aE) cT) (ae (o1 (oV 3) (cE "Ways" "pairs")) (aE)))) cG)) (eM (os (ae (os (ae (oV 1) (ae (oV 2) (aE))) cT) (ae (os (ae (o1 (oV 3) (cE "Ways" "hidden")) (aE)) lE) (ae (o2 (oV 6) (oC (.int 0)) aW) (ae (o2 (oV 6) (oC (.int 1)) aW) (ae (os (ae (o2 (o1 (oV 3) (cE "Ways" "ties")) (oV 5) br) (aE)) bc) (ae (os (ae (o1 (oV 3) (cE "Ways" "hidden")) (aE)) f6) (aE))))))) cT))))))
noncomputable def dl:List D->Option D:=cD oK 1 oA
abbrev dL:Stmt:=kr 9
abbrev iH:List Str:=["script","k"]
noncomputable def dS:Sf:=aq (b5 (ob (o2 (oV 1) (os (ae (oV 0) (aE)) lE) Iw)) (eM (o2 (oV 0) (oV 1) aW)) (oX)) (eM (oC (.int 0)))
noncomputable def bD:List D->Option D:=cD iH 2 dS
abbrev fg:Stmt:=kr 10
abbrev kf:List Str:=["cell"]
noncomputable def gY:Sf:=eM (o2 (o2 (o2 (o2 (oV 0) (o2 (oC (.int 10)) (oC (.int 60)) A7) df) (oC (.int 48271)) nc) (oC (.int 12345)) br) (oC (.int 2147483629)) df)
noncomputable def bt:List D->Option D:=cD kf 1 gY
abbrev e9:Stmt:=kr 11
abbrev ke:List Str:=["found"]
noncomputable def gW:Sf:=eM (ym (o1 (oV 0) (fT "int")) (o1 (o1 (oV 0) (fT "bool")) Bl))
noncomputable def cK:List D->Option D:=cD ke 1 gW
abbrev eA:Stmt:=kr 12
abbrev iZ:List Str:=["cell","wires","turn","first","e","kind","second"]
noncomputable def cj:Sf:=aq (cA 2 (os (ae (oV 0) (aE)) bt)) (aq (cA 3 (o2 (o2 (oV 2) (oC (.int 6)) pv) (oV 1) df)) (aq (cA 4 (o2 (oC (.int 1)) (o2 (o2 (oV 2) (oC (.int 300)) pv) (oC (.int 7)) df) br)) (aq (cA 5 (o2 (oV 2) (oC (.int 6)) df)) (aq (b5 (ob (o2 (oV 1) (oC (.int 1)) bT)) (eM (o2 (os (ae (os (ae (oC (.str "swing")) (ae (oC (.int 0)) (aE))) cT) (ae (os (ae (oC (.str "turn")) (ae (oC (.int 0)) (ae (oV 4) (aE)))) cT) (ae (os (ae (oC (.str "flip")) (ae (oC (.int 0)) (aE))) cT) (aE)))) gO) (o2 (oV 5) (oC (.int 3)) df) aW)) (oX)) (aq (cA 6 (o2 (o2 (o2 (oV 3) (oC (.int 1)) br) (o2 (o2 (oV 2) (oC (.int 60)) pv) (o2 (oV 1) (oC (.int 1)) wa) df) br) (oV 1) df)) (aq (b5 (ob (o2 (oV 5) (oC (.int 0)) bT)) (eM (os (ae (oC (.str "swing")) (ae (oV 3) (aE))) cT)) (oX)) (aq (b5 (ob (o2 (oV 5) (oC (.int 1)) bT)) (eM (os (ae (oC (.str "turn")) (ae (oV 3) (ae (oV 4) (aE)))) cT)) (oX)) (aq (b5 (ob (o2 (oV 5) (oC (.int 2)) bT)) (eM (os (ae (oC (.str "flip")) (ae (oV 3) (aE))) cT)) (oX)) (eM (os (ae (o2 (os (ae (oC (.str "tie")) (ae (oC (.str "sign")) (ae (oC (.str "cross")) (aE)))) gO) (o2 (oV 5) (oC (.int 3)) wa) aW) (ae (oV 3) (ae (oV 6) (aE)))) cT))))))))))
noncomputable def aK:List D->Option D:=cD iZ 2 cj
abbrev dI:Stmt:=kr 13
abbrev iG:List Str:=["cells","wires","swings","looks","rows","known","cell","row","turn","j"]
noncomputable def ai:Sf:=aq (cA 7 (os (ae (oV 6) (ae (oV 1) (aE))) aK)) (aq (cA 8 (o2 (os (ae (oV 6) (aE)) bt) (oC (.int 3000)) pv)) (aq (b5 (gK (ob (o2 (o2 (oV 8) (oC (.int 6)) df) (oC (.int 1)) bT)) (ob (o2 (oV 5) (oV 3) Iw))) (aq (cA 7 (os (ae (oC (.str "look")) (ae (o2 (o2 (oV 8) (oC (.int 6)) pv) (oV 1) df) (aE))) cT)) (cA 5 (o2 (oV 5) (oC (.int 1)) br))) (b5 (gK (ob (o2 (o2 (oV 8) (oC (.int 6)) df) (oC (.int 2)) bT)) (ob (o2 (oV 5) (oC (.int 0)) BP))) (aq (cA 9 (o2 (o2 (oV 8) (oC (.int 6)) pv) (oV 1) df)) (cA 7 (os (ae (oC (.str "where")) (ae (o2 (o2 (oV 8) (oC (.int 24)) pv) (oV 5) df) (ae (o2 (os (ae (os (ae (oC (.str "flip")) (ae (oV 9) (aE))) cT) (ae (os (ae (oC (.str "turn")) (ae (oV 9) (ae (oC (.int 4)) (aE)))) cT) (aE))) gO) (o2 (o2 (oV 8) (oC (.int 12)) pv) (oC (.int 2)) df) aW) (aE)))) cT))) (b5 (ob (o2 (o2 (oV 7) (oC (.int 0)) aW) (oC (.str "swing")) bT)) (aq (cA 2 (o2 (oV 2) (oC (.int 1)) wa)) (b5 (ob (o2 (oV 2) (oC (.int 0)) Iw)) (cA 7 (os (ae (oC (.str "turn")) (ae (o2 (oV 7) (oC (.int 1)) aW) (ae (o2 (oC (.int 1)) (o2 (oV 8) (oC (.int 7)) df) br) (aE)))) cT)) (oX))) (oX)))) (DA 4 (oV 7))))
noncomputable def fQ:Sf:=aq (Dx 4 (aE)) (aq (cA 5 (oC (.int 0))) (aq (ub (oI (oV 0) dB) (gN 6) (ai)) (fun δ=>(eM (os (ae (oV 4) (aE)) f6)) (B8 4 δ))))
noncomputable def bC:List D->Option D:=cD iG 4 fQ
abbrev gE:Stmt:=kr 14
abbrev jq:List Str:=["turns","bitset","e"]
noncomputable def ck:Sf:=aq (b5 (ob (o2 (o2 (oV 1) (oC (.int 2)) df) (oC (.int 1)) bT)) (aq (dw 0 (oC (.int 0)) (o2 (o2 (vo 0 (oC (.int 0))) (oV 2) br) (oC (.int 8)) df)) (aq (cA 2 (o2 (oC (.int 0)) (oV 2) wa)) (cA 1 (o2 (oV 1) (oC (.int 1)) wa)))) (oX)) (b5 (ob (o2 (oV 1) (oC (.int 0)) BP)) (dw 0 (oV 1) (o2 (o2 (jf 0 (oV 1) (oC (.int 0))) (oV 2) br) (oC (.int 8)) df)) (oX))
noncomputable def aY:List (ao×D)->List D->Option (List (ao×D)):=oY jq 3 ck
abbrev dJ:Stmt:=kr 15
abbrev hE:List Str:=["turns"]
noncomputable def iV:Dv->Option D:=eT (oI (o1 (oV 0) qv) dB) [(0,"turns")] tR (gK (ob (o2 (oV 0) (oC (.int 0)) BP)) (ob (o2 (o2 (oV 1) (oV 0) j0) (oC (.int 0)) BP))) (os (ae (oV 0) (ae (o2 (oV 1) (oV 0) j0) (aE))) cT)
noncomputable def gX:Sf:=eM (os (ae (iV) (aE)) f6)
noncomputable def b8:List D->Option D:=cD hE 1 gX
abbrev fV:Stmt:=kr 16
abbrev iF:List Str:=["turns","one","two"]
noncomputable def cZ:Sf:=aq (ip 0 (ae (oV 1) (ae (oC (.int 2)) (aE))) aY) (aq (ip 0 (ae (oV 2) (ae (oC (.int 2)) (aE))) aY) (ip 0 (ae (o2 (oV 1) (oV 2) fS) (ae (oC (.int 6)) (aE))) aY))
noncomputable def bb:List (ao×D)->List D->Option (List (ao×D)):=oY iF 3 cZ
abbrev e8:Stmt:=kr 17
abbrev g9:List Str:=["row","sets","turns","marks","fresh","j","kept"]
noncomputable def aC:Sf:=aq (cA 5 (o2 (oV 0) (o1 (oC (.int 1)) negD) aW)) (b5 (ob (o2 (o2 (oV 0) (oC (.int 0)) aW) (oC (.str "swing")) bT)) (aq (ip 2 (ae (jP 1 (oV 5)) (ae (oV 4) (aE))) bb) (je 1 (oV 5) (oV 4))) (b5 (ob (o2 (o2 (oV 0) (oC (.int 0)) aW) (oC (.str "turn")) bT)) (ip 2 (ae (jP 1 (o2 (oV 0) (oC (.int 1)) aW)) (ae (o2 (oV 0) (oC (.int 2)) aW) (aE))) aY) (b5 (ob (o2 (o2 (oV 0) (oC (.int 0)) aW) (oC (.str "flip")) bT)) (je 1 (oV 5) (o2 (jP 1 (oV 5)) (oC (.int 1)) fS)) (b5 (gK (ob (o2 (o2 (oV 0) (oC (.int 0)) aW) (oC (.str "where")) bT)) (ob (o2 (o2 (o2 (oV 0) (oC (.int 2)) aW) (oC (.int 0)) aW) (oC (.str "flip")) bT))) (je 1 (o2 (o2 (oV 0) (oC (.int 2)) aW) (oC (.int 1)) aW) (o2 (jP 1 (o2 (o2 (oV 0) (oC (.int 2)) aW) (oC (.int 1)) aW)) (o2 (oV 3) (o2 (oV 0) (oC (.int 1)) aW) aW) fS)) (b5 (ob (o2 (o2 (oV 0) (oC (.int 0)) aW) (oC (.str "where")) bT)) (ip 2 (ae (jP 1 (o2 (o2 (oV 0) (oC (.int 2)) aW) (oC (.int 1)) aW)) (ae (o2 (oV 3) (o2 (oV 0) (oC (.int 1)) aW) aW) (aE))) bb) (b5 (ob (o2 (o2 (oV 0) (oC (.int 0)) aW) (oC (.str "tie")) bT)) (je 1 (oV 5) (o2 (jP 1 (o2 (oV 0) (oC (.int 1)) aW)) (jP 1 (oV 5)) fS)) (b5 (ob (o2 (o2 (oV 0) (oC (.int 0)) aW) (oC (.str "sign")) bT)) (ip 2 (ae (jP 1 (o2 (oV 0) (oC (.int 1)) aW)) (ae (jP 1 (oV 5)) (aE))) bb) (b5 (ob (o2 (o2 (oV 0) (oC (.int 0)) aW) (oC (.str "cross")) bT)) (aq (cA 6 (jP 1 (oV 5))) (aq (je 1 (oV 5) (jP 1 (o2 (oV 0) (oC (.int 1)) aW))) (je 1 (o2 (oV 0) (oC (.int 1)) aW) (oV 6)))) (oX)))))))))
noncomputable def ci:List D->List (ao×D)->List D->Option (List D×List (ao×D)):=ud g9 5 aC
abbrev bO:Stmt:=kr 18
abbrev cQ:List Str:=["wires","rows","many","marks","sets","turns","ties","hidden","known","row","bit","j","kept"]
noncomputable def dN:Dv->Option D:=eT (oI (oV 1) dB) [] tR (ob (o2 (o2 (oV 0) (oC (.int 0)) aW) (oC (.str "look")) bT)) (oV 0)
noncomputable def fM:Dv->Option D:=hJ (oL (ae (oV 2) (aE)) fH) [(0,"wires")] tR (o2 (oC (.int 1)) (o2 (o2 (o2 (oC (.int 2)) (oV 1) nc) (oC (.int 1)) br) (oV 0) br) h7)
noncomputable def fL:Dv->Option D:=hJ (oL (ae (oV 0) (aE)) fH) [] tR (o2 (oC (.int 1)) (o2 (oC (.int 1)) (oV 0) br) h7)
noncomputable def dM:Dv->Option D:=eT (oI (m7 6) dB) [] tR (ob (o2 (oV 0) (oC (.int 0)) BP)) (oV 0)
noncomputable def bw:Sf:=aq (cA 10 (o2 (o2 (o2 (o2 (oC (.int 2)) (oV 0) nc) (oC (.int 1)) br) (oV 2) br) (CH 7) br)) (aq (b5 (ob (o2 (o2 (oV 9) (oC (.int 0)) aW) (oC (.str "look")) bT)) (aq (dw 6 (o2 (jP 4 (o2 (oV 9) (oC (.int 1)) aW)) (o2 (oV 3) (oV 8) aW) fS) (oC (.bool true))) (cA 8 (o2 (oV 8) (oC (.int 1)) br))) (ve 4 5 (oV 9) (ae (oV 3) (ae (o2 (oC (.int 1)) (oV 10) h7) (aE))) ci)) (b5 (ob (o2 (o2 (oV 9) (oC (.int 0)) aW) (oC (.str "swing")) bT)) (DA 7 (oV 10)) (oX)))
noncomputable def cX:Sf:=dw 6 (o2 (jP 4 (oV 11)) (o2 (oC (.int 1)) (o2 (o2 (oV 0) (oC (.int 1)) br) (oV 11) br) h7) fS) (oC (.bool true))
noncomputable def gb:Sf:=aq (cA 2 (os (ae (dN) (aE)) lE)) (aq (cA 3 (fM)) (aq (xN 4 (yl (fL))) (aq (xP 5 (oC (.int 0)) (oC (.int 0))) (aq (xQ 6) (aq (Dx 7 (aE)) (aq (cA 8 (oC (.int 0))) (aq (ub (oI (oV 1) dB) (gN 9) (bw)) (aq (ub (oL (ae (oV 0) (aE)) fH) (gN 11) (cX)) (aq (cA 12 (os (ae (dM) (aE)) f6)) (fun δ=>(eM (os (ae (os (ae (oV 0) (ae (oV 2) (aE))) cT) (ae (os (ae (oV 7) (aE)) lE) (ae (o2 (oV 5) (oC (.int 0)) j0) (ae (os (ae (oV 5) (aE)) b8) (ae (oV 12) (ae (os (ae (oV 7) (aE)) f6) (aE))))))) cT)) (tf 5 (B8 7 δ))))))))))))
noncomputable def bP:List D->Option D:=cD cQ 2 gb
abbrev cy:Stmt:=kr 19
abbrev en:List Str:=["parts"]
noncomputable def cS:Dv->Option D:=eT (oI (oV 0) dB) [] tR (pd (ob (os (ae (oV 0) (aE)) cK))) (oV 0)
noncomputable def d7:Sf:=eM (o2 (os (ae (cS) (aE)) lE) (oC (.int 0)) bT)
noncomputable def aZ:List D->Option D:=cD en 1 d7
abbrev dt:Stmt:=kr 20
abbrev hZ:List Str:=["found","due","k","pair"]
noncomputable def dW:Sf:=b5 (pd (ob (o1 (o2 (oV 0) (oV 2) aW) (fT "tuple")))) (eM (oC (.bool false))) (oX)
noncomputable def cB:Sf:=b5 (Iu (pd (ob (o1 (oV 3) (fT "tuple")))) (pd (ob (os (ae (oV 3) (aE)) aZ)))) (eM (oC (.bool false))) (oX)
noncomputable def eW:Sf:=aq (b5 (Iu (pd (ob (o1 (oV 0) (fT "tuple")))) (Iu (ob (o2 (os (ae (oV 0) (aE)) lE) (oC (.int 6)) neD)) (ob (o2 (oV 0) (oV 1) neD)))) (eM (oC (.bool false))) (oX)) (aq (ub (oI (os (ae (oC (.int 0)) (ae (oC (.int 3)) (ae (oC (.int 4)) (ae (oC (.int 5)) (aE))))) gO) dB) (gN 2) (dW)) (aq (ub (oI (o2 (oV 0) (oC (.int 3)) aW) dB) (gN 3) (cB)) (eM (os (ae (o2 (o2 (o2 (o2 (oV 0) (oC (.int 0)) aW) (Js (oV 0) (oP (oC (.int 1))) (oP (oC (.int 3)))) br) (o2 (oV 0) (oC (.int 4)) aW) br) (o2 (oV 0) (oC (.int 5)) aW) br) (aE)) aZ))))
noncomputable def bd:List D->Option D:=cD hZ 2 eW
abbrev jJ:Stmt:=kr 21
abbrev C4:List Str:=["script","wires","rows","circuit","due"]
noncomputable def zH:Sf:=aq (cA 1 (o2 (oC (.int 1)) (o2 (os (ae (oV 0) (ae (oC (.int 0)) (aE))) bD) (oC (.int 6)) df) br)) (aq (cA 2 (os (ae (Js (oV 0) (oP (oC (.int 1))) (oP (oC (.int 61)))) (ae (oV 1) (ae (oC (.int 60)) (ae (oC (.int 6)) (aE))))) bC)) (aq (cA 3 (os (ae (oV 1) (ae (oV 2) (aE))) cT)) (aq (cA 4 (os (ae (oV 1) (ae (oV 2) (aE))) bP)) (aq (b5 (pd (ob (os (ae (os (ae (oV 3) (aE)) dl) (ae (oV 4) (aE))) bd))) (eM (oC (.bool false))) (oX)) (eM (ym (os (ae (os (ae (oV 3) (aE)) dl) (ae (oV 4) (aE))) bd) (o2 (oV 3) (os (ae (oV 1) (ae (oV 2) (aE))) cT) bT)))))))
noncomputable def sR:List D->Option D:=cD C4 1 zH
open MA (Nu Row wt bit HJ CW Fy Wd par C7)
theorem J6(a:Nat):Builtin.bitAnd (a:Int) 1=((a%2:Nat):Int):=by
 have:=MA.HY a 1;rw[show((1:Nat):Int)=1 from rfl]at this;rw[this,Nat.and_one_is_mod]
theorem AN{a:Nat}(k:Nat)(ha:a<2^100000)(hk:k<=100000):h7 (.int (a:Int)) (.int (k:Int))=some (.int ((a*2^k:Nat):Int)):=by
 have hb:(a:Int).natAbs<2^100000:=by rw[Int.natAbs_natCast];exact ha
 have:=MA.vW hb;rw[xJ (by omega) (by omega),Int.toNat_natCast];congr 2
theorem wj{a:Nat}(h:a<2^64):a<2^100000:=Nat.lt_of_lt_of_le h (Nat.pow_le_pow_right (by decide) (by decide))
noncomputable def aA(hs:List Nat):List D:=hs.map fun h=>.int ((h:Nat):Int)
theorem bo(hs:List Nat):(aA hs).length=hs.length:=by simp[aA]
theorem yt(hs:List Nat){k:Nat}(h:k<hs.length):hX (aA hs) (k:Int)=some (.int (hs.getD k 0:Nat)):=by
 refine oE rfl ?_;unfold aA;rw[List.getElem?_map,List.getD_eq_getElem?_getD,List.getElem?_eq_getElem h];rfl
theorem DD{n:Nat}(hn:n<=16777216):fH [.int (n:Int)]=some ((List.range n).map fun k:Nat=>PyData.int (0+(k:Int))):=ww (j:=(n:Int)) (by omega) (by omega)
noncomputable def uj(p:Nat×Int):D:=.tuple [.int p.1,.int p.2]
theorem Fi{n q:Nat}(h:q<n):nC n (q:Int)=some q:=by
 unfold nC;rw[if_pos (by omega),if_pos (by omega)];simp
theorem eO{k:Nat}(hk:k<=100000):h7 (.int 1) (.int (k:Int))=some (.int ((2^k:Nat):Int)):=by
 have:=AN (a:=1) k (wj (by decide)) hk;rw[Nat.one_mul]at this;exact this
noncomputable def gJ(w l:Nat)(hv:Int)(c:Nat)(ps:List (Nat×Int))(ts hs:List Nat):D:=.tuple [.tuple [.int w,.int l],.int hv,.int c,.tuple (ps.map uj),.tuple (aA ts),.tuple (aA hs)]
theorem G7(w l:Nat)(hv:Int)(c:Nat)(ps:List (Nat×Int))(ts hs:List Nat):aW (gJ w l hv c ps ts hs) (.int 0)=some (.tuple [.int w,.int l]):=rfl
theorem CG(w l:Nat)(hv:Int)(c:Nat)(ps:List (Nat×Int))(ts hs:List Nat):aW (gJ w l hv c ps ts hs) (.int 3)=some (.tuple (ps.map uj)):=rfl
theorem G6(w l:Nat)(hv:Int)(c:Nat)(ps:List (Nat×Int))(ts hs:List Nat):aW (gJ w l hv c ps ts hs) (.int 4)=some (.tuple (aA ts)):=rfl
theorem G5(w l:Nat)(hv:Int)(c:Nat)(ps:List (Nat×Int))(ts hs:List Nat):aW (gJ w l hv c ps ts hs) (.int 5)=some (.tuple (aA hs)):=rfl
theorem sN{α:Type}{f:D->Option D}{h k:α -> D}:∀(xs:List α),(∀x∈xs,f (h x)=some (k x))->wH f (xs.map h)=some (xs.map k)
 |[],_=>rfl
 |x::xs,H=>by
  show((f (h x)).bind fun y=>_)=_
  rw[H x List.mem_cons_self];show((wH f (xs.map h)).bind fun ys=>_)=_
  rw[sN xs fun y hy=>H y (List.mem_cons_of_mem _ hy)]
  rfl
theorem sV{α:Type}{t:D->Option Bool}{f:D->Option D}{h k:α -> D}{b:α -> Bool}:∀(xs:List α),(∀x∈xs,t (h x)=some (b x))->(∀x∈xs,b x=true->f (h x)=some (k x))->gR t f (xs.map h)=some ((xs.filter b).map k)
 |[],_,_=>rfl
 |x::xs,H,G=>by
  have ih:=sV (k:=k) xs (fun y hy=>H y (List.mem_cons_of_mem _ hy)) (fun y hy=>G y (List.mem_cons_of_mem _ hy))
  show((t (h x)).bind fun c=>_)=_
  rw[H x List.mem_cons_self,Option.bind_some];cases e:b x with
  |false=>simp[e,ih]
  |true=>simp[e,ih,G x List.mem_cons_self e]
theorem zF{α:Type}{fi:Dv->Option (List D)}{caps:List (Nat×Str)}{fe:Dv->Option D}{δ:Dv}{h k:α -> D}{xs:List α}(e:fi δ = some (xs.map h))(hl:xs.length<=16777216)(H:∀x∈xs,fe (.fz (h x)::dD δ caps)=some (k x)):hJ fi caps tR fe δ = some (.list (xs.map k)):=by
 unfold hJ;rw[e,Option.bind_some,if_pos (by rw[List.length_map];exact hl),sN xs (k:=k) fun x hx=>by
  show fe _=_;exact H x hx]
 rfl
theorem d6{α:Type}{fi:Dv->Option (List D)}{caps:List (Nat×Str)}{ft:Dv->Option Bool}{fe:Dv->Option D}{δ:Dv}{h k:α -> D}{b:α -> Bool}{xs:List α}(e:fi δ = some (xs.map h))(hl:xs.length<=16777216)(H:∀x∈xs,ft (.fz (h x)::dD δ caps)=some (b x))(G:∀x∈xs,b x=true->fe (.fz (h x)::dD δ caps)=some (k x)):eT fi caps tR ft fe δ = some (.list ((xs.filter b).map k)):=by
 unfold eT;rw[e,Option.bind_some,if_pos (by rw[List.length_map];exact hl),sV xs (b:=b) (k:=k) (fun x hx=>by
  show ft _=_;exact H x hx) (fun x hx hb=>by
  show fe _=_;exact G x hx hb)]
 rfl
theorem mn{fi:Dv->Option (List D)}{caps:List (Nat×Str)}{fe:Dv->Option D}{δ:Dv}{N:Nat}{y:Nat->D}(e:fi δ = some ((List.range N).map fun k:Nat=>PyData.int (0+(k:Int))))(hl:N<=16777216)(H:∀p:Nat,p<N->fe (.fz (.int p)::dD δ caps)=some (y p)):hJ fi caps tR fe δ = some (.list ((List.range N).map y)):=by
 refine zF e (by rw[List.length_range];exact hl) fun p hp=>?_
 rw[Int.zero_add];exact H p (List.mem_range.mp hp)
theorem La:A7 (.int 10) (.int 60)=some (.int 1000000000000000000000000000000000000000000000000000000000000):=rfl
theorem pX(c:Int):∃T:Nat,bt [.int c]=some (.int T):=by
 have m:IntMulOk (c%1000000000000000000000000000000000000000000000000000000000000) 48271:=.of_right (by decide +kernel);have h2:0<=(c%1000000000000000000000000000000000000000000000000000000000000*48271+12345)%2147483629:=Int.emod_nonneg _ (by decide);refine⟨((c%1000000000000000000000000000000000000000000000000000000000000*48271+12345)%2147483629).toNat,?_⟩;rw[Int.toNat_of_nonneg h2];simp[bt,cD,gY,az,La,m]
theorem Cb(ns:List Int)(k:Int)(hk:0<=k):∃c,bD [.list (ns.map .int),.int k]=some (.int c):=by
 by_cases h:k<ns.length
 ·have hk':k.toNat<ns.length:=by omega
  refine⟨ns[k.toNat],?_⟩;have e:hX (ns.map PyData.int) k=some (.int ns[k.toNat]):=oE (j:=k.toNat) (by omega) (by simp[hk']);simp[bD,cD,dS,az,h,e]
 ·exact⟨0,by simp[bD,cD,dS,az,h]⟩
@[simp] theorem IB(u w:Sf)(δ:Dv)(a b:Int):IC u w δ (!(a==b))=if a=b then w δ else u δ:=by
 by_cases h:a=b
 ·subst h;simp
 ·have:(a==b)=false:=by simpa using h
  rw[this,if_neg h];rfl
abbrev As:=List (Nat×Nat)
noncomputable def vl(A:As)(k:Nat):Nat:=((A.find? fun p=>decide (p.1=k)).map (·.2)).getD 0
noncomputable def uh(A:As)(k v:Nat):As:=if(A.any fun p=>decide (p.1=k))=true then A.map (fun p=>if p.1=k then(p.1,v)else p)else A++[(k,v)]
noncomputable def esD(A:As):List (ao×D):=A.map fun p=>(.inl (p.1:Int),.int (p.2:Int))
noncomputable def aD(A:As):List Nat:=A.map (·.1)
theorem nK(a b:Nat):((Sum.inl (a:Int):ao)=.inl (b:Int))↔a=b:=by
 constructor
 ·intro h;exact Int.ofNat.inj (Sum.inl.inj h)
 ·intro h;rw[h]
theorem vJ(A:As)(k:Nat):eU (esD A) (.inl (k:Int))=(A.find? fun p=>decide (p.1=k)).map fun p=>.int (p.2:Int):=by
 induction A with
 |nil=>rfl
 |cons p A ih=>
  unfold eU esD at *;rw[List.map_cons,List.find?_cons,List.find?_cons];by_cases h:p.1=k
  ·have:((Sum.inl (p.1:Int):ao)=.inl (k:Int)):=(nK _ _).mpr h
   simp[h]
  ·have:¬((Sum.inl (p.1:Int):ao)=.inl (k:Int)):=fun z=>h ((nK _ _).mp z)
   simp only[this,h,decide_false];exact ih
theorem zm(A:As)(k:Nat):(eU (esD A) (.inl (k:Int))).getD (.int 0)=.int (vl A k:Int):=by
 rw[vJ];unfold vl;cases A.find? fun p=>decide (p.1=k)with
 |none=>rfl
 |some p=>rfl
theorem FJ(A:As)(k:Nat):((esD A).any fun p=>decide (p.1=.inl (k:Int)))=A.any fun p=>decide (p.1=k):=by
 unfold esD;rw[List.any_map];congr 1;funext p;simp only[Function.comp,decide_eq_decide];exact nK _ _
theorem qC(A:As)(k v:Nat):gk (esD A) (.inl (k:Int)) (.int (v:Int))=esD (uh A k v):=by
 unfold gk uh;rw[FJ];split
 ·unfold esD
  rw[List.map_map,List.map_map];apply List.map_congr_left;intro p _;show(if(Sum.inl (p.1:Int):ao)=.inl (k:Int)then _ else _)=_;by_cases h:p.1=k
  ·rw[if_pos ((nK _ _).mpr h)]
   simp[h]
  ·rw[if_neg (fun z=>h ((nK _ _).mp z))]
   simp[h]
 ·unfold esD
  rw[List.map_append];rfl
theorem kb(A:As)(k:Nat):(A.any fun p=>decide (p.1=k))=true↔k∈aD A:=by
 simp[aD,List.any_eq_true]
theorem eZ(p:Nat×Nat)(A:As)(k:Nat):vl (p::A) k=if p.1=k then p.2 else vl A k:=by
 unfold vl;rw[List.find?_cons];by_cases h:p.1=k<;>simp[h]
theorem rS{A:As}{k:Nat}(h:k ∉ aD A):vl A k=0:=by
 unfold vl;have:(A.find? fun p=>decide (p.1=k))=none:=by
  rw[List.find?_eq_none];intro p hp;simp only[decide_eq_true_eq];exact fun z=>h (List.mem_map.mpr ⟨p,hp,z⟩)
 rw[this];rfl
theorem De(A:As)(k v j:Nat)(h:k ∉ aD A):vl (A++[(k,v)]) j=if j=k then v else vl A j:=by
 induction A with
 |nil=>
  rw[List.nil_append,eZ];by_cases e:k=j
  ·rw[if_pos e,if_pos e.symm]
  ·rw[if_neg e,if_neg (Ne.symm e)]
 |cons p A ih=>
  have h1:k≠p.1:=fun z=>h (by rw[z];exact List.mem_cons_self)
  have h2:k ∉ aD A:=fun z=>h (List.mem_cons_of_mem _ z)
  rw[List.cons_append,eZ,eZ,ih h2];by_cases e:p.1=j
  ·rw[if_pos e,if_pos e,if_neg (fun z=>h1 (by rw[e];exact z.symm))]
  ·rw[if_neg e,if_neg e]
theorem Dd(A:As)(k v j:Nat)(h:k∈aD A):vl (A.map fun p=>if p.1=k then(p.1,v)else p) j=if j=k then v else vl A j:=by
 induction A with
 |nil=>cases h
 |cons p A ih=>
  rw[List.map_cons,eZ,eZ];by_cases hp:p.1=k
  ·rw[if_pos hp]
   show(if p.1=j then v else _)=_;by_cases e:p.1=j
   ·rw[if_pos e,if_pos (by rw[<-e];exact hp)]
   ·rw[if_neg e,if_neg e]
    by_cases hk:k∈aD A
    ·exact ih hk
    ·rw[if_neg (fun z=>e (by rw[hp];exact z.symm))]
     congr 1;have:∀B:As,k ∉ aD B->(B.map fun p=>if p.1=k then(p.1,v)else p)=B:=fun B=>by
      induction B with
      |nil=>intro _;rfl
      |cons q B ihB=>
       intro hB;rw[List.map_cons,ihB (fun z=>hB (List.mem_cons_of_mem _ z)),if_neg (fun z=>hB (by rw[<-z];exact List.mem_cons_self))]
     exact this A hk
  ·rw[if_neg hp]
   have hk:k∈aD A:=by
    rcases List.mem_cons.mp h with z|z
    ·exact absurd z.symm hp
    ·exact z
   rw[ih hk];by_cases e:p.1=j
   ·rw[if_pos e,if_pos e,if_neg (fun z=>hp (by rw[e];exact z))]
   ·rw[if_neg e,if_neg e]
theorem kl(A:As)(k v j:Nat):vl (uh A k v) j=if j=k then v else vl A j:=by
 unfold uh;by_cases h:(A.any fun p=>decide (p.1=k))=true
 ·rw[if_pos h];exact Dd A k v j ((kb A k).mp h)
 ·rw[if_neg h];exact De A k v j fun z=>h ((kb A k).mpr z)
theorem ny(A:As)(k v:Nat):aD (uh A k v)=if k∈aD A then aD A else aD A++[k]:=by
 unfold uh;by_cases h:k∈aD A
 ·rw[if_pos ((kb A k).mpr h),if_pos h]
  unfold aD;rw[List.map_map];apply List.map_congr_left;intro p _;simp only[Function.comp];split<;>rfl
 ·rw[if_neg (fun z=>h ((kb A k).mp z)),if_neg h]
  unfold aD;rw[List.map_append];rfl
theorem yr{A:As}(h:(aD A).Nodup)(k v:Nat):(aD (uh A k v)).Nodup:=by
 rw[ny];split
 ·exact h
 ·rename_i hk
  rw[List.nodup_append];exact⟨h,by simp,fun a ha b hb=>by simp at hb;subst hb;exact fun z=>hk (by rw[<-z];exact ha)⟩
theorem qm{A:As}(nd:(aD A).Nodup){p:Nat×Nat}(h:p∈A):vl A p.1=p.2:=by
 induction A with
 |nil=>cases h
 |cons q A ih=>
  rw[eZ];have nd':=List.nodup_cons.mp (show(q.1::aD A).Nodup from nd);rcases List.mem_cons.mp h with rfl|h
  ·rw[if_pos rfl]
  ·rw[if_neg (fun z=>nd'.1 (by rw[z];exact List.mem_map.mpr ⟨p,h,rfl⟩))]
   exact ih nd'.2 h
theorem mK:∀{a b:List Nat},a.Pairwise (· < ·)->b.Pairwise (· < ·)->(∀k,k∈a↔k∈b)->a=b
 |[],b,_,_,h=>by
  cases b with
  |nil=>rfl
  |cons y b=>exact absurd ((h y).mpr List.mem_cons_self) (by simp)
 |x::a,b,ha,hb,h=>by
  cases b with
  |nil=>exact absurd ((h x).mp List.mem_cons_self) (by simp)
  |cons y b=>
   obtain⟨a1,a2⟩:=List.pairwise_cons.mp ha;obtain⟨b1,b2⟩:=List.pairwise_cons.mp hb;have e:x=y:=by
    rcases List.mem_cons.mp ((h x).mp List.mem_cons_self)with z|z
    ·exact z
    ·rcases List.mem_cons.mp ((h y).mpr List.mem_cons_self)with w|w
     ·exact w.symm
     ·have:=b1 x z
      have:=a1 y w;omega
   subst e;rw[mK a2 b2 fun k=>?_]
   constructor
   ·intro z
    rcases List.mem_cons.mp ((h k).mp (List.mem_cons_of_mem _ z))with w|w
    ·have:=a1 k z;omega
    ·exact w
   ·intro z
    rcases List.mem_cons.mp ((h k).mpr (List.mem_cons_of_mem _ z))with w|w
    ·have:=b1 k z;omega
    ·exact w
noncomputable def cI(k:Nat):Int:=(k:Int)
noncomputable def pD(p:Nat×Nat):D:=.tuple [.int (p.1:Int),.int (p.2:Int)]
theorem nB:∀A:As,jX (esD A)=some ((aD A).map cI)
 |[]=>rfl
 |p::A=>by
  show(jX (esD A)).bind _=_;rw[nB A];rfl
theorem lW(ks:List Nat)(nd:ks.Nodup):∃rs:List Nat,bB (ks.map cI)=rs.map (cI)/\rs.Perm ks/\rs.Pairwise (· < ·):=by
 have pm:=dy (ks.map cI);have pw:=kJ (ks.map cI);obtain⟨l,hl⟩:∃l,bB (ks.map cI)=l:=⟨_,rfl⟩;rw[hl]at pm pw ⊢;have e:l=(l.map Int.toNat).map cI:=by
  rw[List.map_map];have:∀x∈l,((cI) ∘ Int.toNat) x=x:=fun x hx=>by
   obtain⟨k,_,rfl⟩:=List.mem_map.mp (pm.mem_iff.mp hx);simp[cI]
  rw[List.map_congr_left this,List.map_id']
 have p2:(l.map Int.toNat).Perm ks:=by
  have:=pm.map Int.toNat;rw[List.map_map]at this;have e2:ks.map (Int.toNat ∘ cI)=ks:=by
   have:∀x∈ks,(Int.toNat ∘ cI) x=x:=fun x _=>by simp[cI]
   rw[List.map_congr_left this,List.map_id']
  rw[e2]at this;exact this
 refine⟨l.map Int.toNat,e,p2,?_⟩;have nd2:(l.map Int.toNat).Nodup:=p2.nodup_iff.mpr nd;rw[e,List.pairwise_map]at pw;rw[List.nodup_iff_pairwise_ne]at nd2;exact(pw.and nd2).imp fun{a b} h=>by
  have h1:(a:Int)<=(b:Int):=h.1;have h2:=h.2;omega
theorem uF{A:As}{k:Nat}(h:k∈aD A):eU (esD A) (.inl (k:Int))=some (.int (vl A k:Int)):=by
 rw[vJ];unfold vl;cases e:A.find? fun p=>decide (p.1=k)with
 |none=>
  obtain⟨p,hp,rfl⟩:=List.mem_map.mp h;have:=List.find?_eq_none.mp e p hp;simp at this
 |some p=>rfl
noncomputable def lI(A:As):List (ao×Int):=A.map fun p=>(.inl (p.1:Int),(p.2:Int))
theorem qX:∀A:As,nG (esD A)=some (lI A)
 |[]=>rfl
 |p::A=>by
  show(nG (esD A)).bind _=_;rw[qX A];rfl
theorem yU(A:As)(nd:(aD A).Nodup)(hl:A.length<=900):∃rs:List Nat,rs.Perm (aD A)/\rs.Pairwise (· < ·)/\∀(δ:Dv) (i:Nat),vb δ[i]? = some (esD A)->ir i δ = some (.list (rs.map fun k=>pD (k,vl A k))):=by
 obtain⟨rs,e,p,pw⟩:=lW (aD A) nd;refine⟨rs,p,pw,fun δ i h=>?_⟩
 unfold ir;rw[h,Option.bind_some,nB,Option.bind_some,if_pos ⟨by rw[List.length_map];unfold aD;rw[List.length_map];omega,by
  rw[List.nodup_iff_pairwise_ne,List.pairwise_map];rw[List.nodup_iff_pairwise_ne]at nd;exact nd.imp fun{a b} h=>by unfold cI;omega,by rw[qX];rfl⟩]
 unfold uA;rw[e,List.map_map];congr 2;apply List.map_congr_left;intro k hk;have hk:=p.mem_iff.mp hk;show PyData.tuple [.int (k:Int),(eU (esD A) (.inl (k:Int))).getD .none]=_;rw[uF hk];rfl
theorem J8(b1 e1 G:Int)(es:List (ao×D))(z0 z1 z2 z4:Sl)(hG:(eU es (.inl b1)).getD (.int 0)=.int G)(hl:es.length<sizeLine):(if b1=0 then some (Fl.nx,[z0,z1,z2,.od es,z4,.fz (.int b1),.fz (.int e1)])else dw 3 (oV 5) (o2 (o2 (jf 3 (oV 5) (oC (.int 0))) (oV 6) br) (oC (.int 8)) df) [z0,z1,z2,.od es,z4,.fz (.int b1),.fz (.int e1)])=some (.nx,[z0,z1,z2,.od (if b1=0 then es else gk es (.inl b1) (.int ((G+e1)%8))),z4,.fz (.int b1),.fz (.int e1)]):=by
 by_cases h:b1=0
 ·rw[if_pos h,if_pos h]
 ·rw[if_neg h,if_neg h]
  simp[dw,jf,hG,hl]
theorem Cn(t b e a b1 e1 t1 G:Int)(es:List (ao×D))(P:D)(z1 z2 z5 z6:Sl)(p0:aW P (.int 0)=some (.int b))(p1:aW P (.int 1)=some (.int e))(ha:Builtin.bitAnd b 1=a)(hb1:(if a=1 then Builtin.bitXor b 1 else b)=b1)(he1:(if a=1 then -e else e)=e1)(ht1:(if a=1 then t+e else t)=t1)(hG:(eU es (.inl b1)).getD (.int 0)=.int G)(hl:es.length<sizeLine):cJ [.fz (.int t),z1,z2,.od es,.fz P,z5,z6]=some (.nx,[.fz (.int t1),z1,z2,.od (if b1=0 then es else gk es (.inl b1) (.int ((G+e1)%8))),.fz P,.fz (.int b1),.fz (.int e1)]):=by
 have q:=J8 b1 e1 G es (.fz (.int t1)) z1 z2 (.fz P) hG hl;by_cases h:a=1
 ·rw[if_pos h]at hb1 he1 ht1
  subst h hb1 he1 ht1;simp[-aq,-b5,aG,aS,cJ,p0,p1,ha];exact q
 ·rw[if_neg h]at hb1 he1 ht1
  subst hb1 he1 ht1;have n:bT (.int a) (.int 1)=some (.bool false):=by simp[h]
  simp[-aq,-b5,aG,aS,cJ,p0,p1,ha,n];exact q
noncomputable def CI(A:As)(rs:List Nat):As:=(rs.filter fun k=>decide (vl A k≠0)).map fun k=>(k,vl A k)
theorem GZ(A:As)(nd:(aD A).Nodup)(hl:A.length<=900):∃rs:List Nat,rs.Perm (aD A)/\rs.Pairwise (· < ·)/\∀z0 z1 z2 z4 z5 z6,gI [z0,z1,z2,.od (esD A),z4,z5,z6]=some (.list ((CI A rs).map pD)):=by
 obtain⟨rs,p,pw,it⟩:=yU A nd hl;refine⟨rs,p,pw,fun z0 z1 z2 z4 z5 z6=>?_⟩
 have hln:rs.length<=1000:=by rw[p.length_eq];unfold aD;rw[List.length_map];omega
 have:=d6 (fi:=oI (ir 3) dB) (caps:=[]) (ft:=ob (o2 (o2 (oV 0) (oC (.int 1)) aW) (oC (.int 0)) neD)) (fe:=oV 0) (δ:=[z0,z1,z2,.od (esD A),z4,z5,z6]) (h:=fun k=>pD (k,vl A k)) (k:=fun k=>pD (k,vl A k)) (b:=fun k=>decide (vl A k≠0)) (xs:=rs) (by
  have:=it [z0,z1,z2,.od (esD A),z4,z5,z6] 3 rfl;simp[this]) (by omega) (fun k _=>by
  have b1:aW (pD (k,vl A k)) (.int 1)=some (.int (vl A k:Int)):=rfl;have e:neD (.int (vl A k:Int)) (.int 0)=some (.bool (decide (vl A k≠0))):=by
   by_cases h:vl A k=0
   ·rw[h];rfl
   ·have:¬((vl A k:Int)=0):=by omega
    simp[h,this]
  simp only[dD,List.map_nil,List.append_nil];show(((aW (pD (k,vl A k)) (.int 1)).bind fun x=>neD x (.int 0)).bind asB)=_
  rw[b1,Option.bind_some,e];rfl) (fun k _ _=>by simp[dD])
 have e:(CI A rs).map pD=(rs.filter fun k=>decide (vl A k≠0)).map fun k=>pD (k,vl A k):=by unfold CI;rw[List.map_map];rfl
 rw[e];exact this
theorem JK(b e a b1 e1 G0 G:Int)(es es1:List (ao×D))(hm:b%2=a)(h0:eU es (.inl 0)=some (.int G0))(hes1:(if a=1 then gk es (.inl 0) (.int ((G0+e)%8))else es)=es1)(hb1:(if a=1 then b-1 else b)=b1)(he1:(if a=1 then -e else e)=e1)(hG:(eU es1 (.inl b1)).getD (.int 0)=.int G)(hl:es.length<sizeLine)(hl1:es1.length<sizeLine):ck [.od es,.fz (.int b),.fz (.int e)]=some (.nx,[.od (if 0<b1 then gk es1 (.inl b1) (.int ((G+e1)%8))else es1),.fz (.int b1),.fz (.int e1)]):=by
 have Q:dw 0 (oV 1) (o2 (o2 (jf 0 (oV 1) (oC (.int 0))) (oV 2) br) (oC (.int 8)) df) [.od es1,.fz (.int b1),.fz (.int e1)]=some (.nx,[.od (gk es1 (.inl b1) (.int ((G+e1)%8))),.fz (.int b1),.fz (.int e1)]):=by
  simp[dw,jf,hG,hl1]
 by_cases h:a=1
 ·rw[if_pos h]at hb1 he1 hes1
  subst h hb1 he1;have P:dw 0 (oC (.int 0)) (o2 (o2 (vo 0 (oC (.int 0))) (oV 2) br) (oC (.int 8)) df) [.od es,.fz (.int b),.fz (.int e)]=some (.nx,[.od es1,.fz (.int b),.fz (.int e)]):=by
   simp[dw,vo,h0,hl,hes1]
  by_cases hp:1<b
  ·simp[-aq,-b5,aG,aS,ck,hm,P,hp,Q]
  ·simp[-aq,-b5,aG,aS,ck,hm,P,hp]
 ·rw[if_neg h]at hb1 he1 hes1
  subst hb1 he1 hes1;have n:bT (.int a) (.int 1)=some (.bool false):=by simp[h]
  by_cases hp:0<b
  ·simp[-aq,-b5,aG,aS,ck,hm,n,hp,Q]
  ·simp[-aq,-b5,aG,aS,ck,hm,n,hp]
theorem JJ(b e:Int)(es es2:List (ao×D))(b1 e1:Int)(h:ck [.od es,.fz (.int b),.fz (.int e)]=some (.nx,[.od es2,.fz (.int b1),.fz (.int e1)])):aY es [.int b,.int e]=some es2:=by
 show oY jq 3 ck es [.int b,.int e]=_;unfold oY;rw[if_pos (show [PyData.int b,PyData.int e].length+1=3 from rfl)];show(ck [.od es,.fz (.int b),.fz (.int e)]).bind _=_;rw[h];rfl
theorem CM(A:As):(lI A).map (fun p=>(p.1,PyData.int p.2))=esD A:=by
 unfold lI esD;rw[List.map_map];rfl
theorem vH{A:As}{k:Nat}(h:k∈aD A):nO (lI A) (.inl (k:Int))=some (vl A k:Int):=by
 have g:=uF h;rw[<-CM]at g;unfold eU at g;unfold nO;rw[List.find?_map]at g;have e:((fun p:ao×D=>decide (p.1=Sum.inl (k:Int))) ∘ fun p:ao×Int=>(p.1,PyData.int p.2))=fun p=>decide (p.1=Sum.inl (k:Int)):=rfl
 rw[e]at g;cases q:(lI A).find? fun p=>decide (p.1=Sum.inl (k:Int))with
 |none=>rw[q]at g;cases g
 |some p=>
  rw[q]at g;have g:PyData.int p.2=PyData.int (vl A k:Int):=Option.some.inj g;show some p.2=_;rw[PyData.int.inj g]
noncomputable def mS(A:As)(rs:List Nat):As:=(rs.filter fun k=>decide (0<k/\0<vl A k)).map fun k=>(k,vl A k)
theorem JD(T:D)(L:List D)(p:iV [.fz T]=some (.list L)):b8 [T]=some (.tuple L):=by
 simp[b8,cD,gX,az,p]
theorem yg(A:As)(nd:(aD A).Nodup)(hl:A.length<=900):∃rs:List Nat,rs.Perm (aD A)/\rs.Pairwise (· < ·)/\b8 [.dict (ie (lI A))]=some (.tuple ((mS A rs).map pD)):=by
 obtain⟨rs,e,p,pw⟩:=lW (aD A) nd;refine⟨rs,p,pw,JD _ _ ?_⟩;have hln:rs.length<=900:=by rw[p.length_eq];unfold aD;rw[List.length_map];exact hl
 have so:qv (.dict (ie (lI A)))=some (.list (rs.map fun k:Nat=>PyData.int (k:Int))):=by
  show(jw (ie (lI A))).bind _=_;rw[fC,Option.bind_some,CM,nB,Option.bind_some,if_pos (by rw[List.length_map];unfold aD;rw[List.length_map];omega),e,List.map_map];rfl
 have gf:∀k∈rs,j0 (.dict (ie (lI A))) (.int (k:Int))=some (.int (vl A k:Int)):=fun k hk=>by
  show(jw (ie (lI A))).bind _=_;rw[fC,Option.bind_some];show(nO (lI A) (.inl (k:Int))).map PyData.int=_;rw[vH (p.mem_iff.mp hk)];rfl
 have:=d6 (fi:=oI (o1 (oV 0) qv) dB) (caps:=[(0,"turns")]) (ft:=gK (ob (o2 (oV 0) (oC (.int 0)) BP)) (ob (o2 (o2 (oV 1) (oV 0) j0) (oC (.int 0)) BP))) (fe:=VL.os (ae (oV 0) (ae (o2 (oV 1) (oV 0) j0) (aE))) cT) (δ:=[.fz (.dict (ie (lI A)))]) (h:=fun k:Nat=>PyData.int (k:Int)) (k:=fun k=>pD (k,vl A k)) (b:=fun k=>decide (0<k/\0<vl A k)) (xs:=rs) (by simp[so]) (by omega) (fun k hk=>by
  have g:=gf k hk;by_cases h1:0<k
  ·have h1':(0:Int)<(k:Int):=by omega
   by_cases h2:0<vl A k
   ·have h2':(0:Int)<(vl A k:Int):=by omega
    simp[dD,g,h1,h2]
   ·have h2':¬(0:Int)<(vl A k:Int):=by omega
    simp[dD,g,h1,h2]
  ·have h1':¬(0:Int)<(k:Int):=by omega
   simp[dD,h1]) (fun k hk _=>by
  have g:=gf k hk;simp[dD,g,pD])
 have e2:(mS A rs).map pD=(rs.filter fun k=>decide (0<k/\0<vl A k)).map fun k=>pD (k,vl A k):=by unfold mS;rw[List.map_map];rfl
 rw[e2];exact this
theorem IM(b:Nat)(h:b%2=1):b ^^^ 1=b-1:=by
 have h1:(b ^^^ 1)/2=b/2:=by rw[Nat.xor_div_two,show 1/2=0 from rfl,Nat.xor_zero]
 have h2:¬(b ^^^ 1)%2=1:=fun z=>by
  rw[Nat.xor_mod_two_eq_one]at z;exact z ⟨fun _=>rfl,fun _=>h⟩
 omega
theorem HV(b:Nat)(h:b%2=1):Builtin.bitXor (b:Int) 1=((b-1:Nat):Int):=by
 have:=MA.HW b 1;rw[IM b h]at this;exact this
noncomputable def nv(x:Nat)(e:Int):Nat:=(((x:Int)+e)%8).toNat
theorem pT(x:Nat)(e:Int):((nv x e:Nat):Int)=((x:Int)+e)%8:=by unfold nv;omega
theorem yn(x:Nat)(e:Int):nv x e<8:=by unfold nv;omega
structure OkA (A:As):Prop where
 nd:(aD A).Nodup
 z:0∈aD A
 lt:∀k,vl A k<8
noncomputable def hb(b:Nat):Nat:=b-b%2
noncomputable def he(b:Nat)(e:Int):Int:=if b%2=1 then -e else e
noncomputable def ph(A:As)(b:Nat)(e:Int):As:=if b%2=1 then uh A 0 (nv (vl A 0) e)else A
noncomputable def tP(A:As)(b:Nat)(e:Int):As:=if 0<hb b then uh (ph A b e) (hb b) (nv (vl (ph A b e) (hb b)) (he b e))else ph A b e
theorem yk{A:As}(h:OkA A)(k v:Nat)(hv:v<8):OkA (uh A k v):=by
 refine⟨yr h.nd k v,?_,fun j=>?_⟩
 ·rw[ny]
  split
  ·exact h.z
  ·exact List.mem_append_left _ h.z
 ·rw[kl]
  split
  ·exact hv
  ·exact h.lt j
theorem Kw{A:As}(h:OkA A)(b:Nat)(e:Int):OkA (ph A b e):=by
 unfold ph;split
 ·exact yk h _ _ (yn _ _)
 ·exact h
theorem F3{A:As}(h:OkA A)(b:Nat)(e:Int):OkA (tP A b e):=by
 unfold tP;split
 ·exact yk (Kw h b e) _ _ (yn _ _)
 ·exact Kw h b e
theorem vt(A:As)(k v:Nat):(uh A k v).length<=A.length+1:=by
 unfold uh;split
 ·rw[List.length_map];omega
 ·simp
theorem yF{A:As}(h:0∈aD A)(v:Nat):(uh A 0 v).length=A.length:=by
 unfold uh;rw[if_pos ((kb A 0).mpr h),List.length_map]
theorem vw{A:As}(h:OkA A)(b:Nat)(e:Int):(ph A b e).length=A.length/\(tP A b e).length<=A.length+1:=by
 have l1:(ph A b e).length=A.length:=by
  unfold ph;split
  ·exact yF h.z _
  ·rfl
 refine⟨l1,?_⟩;unfold tP;split
 ·have:=vt (ph A b e) (hb b) (nv (vl (ph A b e) (hb b)) (he b e));omega
 ·omega
theorem HC{b:Nat}(h:0<hb b):0≠hb b:=by omega
theorem IQ(A:As)(b:Nat)(e:Int)(k:Nat)(hk:0<k):vl (ph A b e) k=vl A k:=by
 unfold ph;split
 ·rw[kl,if_neg (by omega)]
 ·rfl
theorem Gj(A:As)(b:Nat)(e:Int):vl (tP A b e) 0=if b%2=1 then nv (vl A 0) e else vl A 0:=by
 have q:vl (ph A b e) 0=if b%2=1 then nv (vl A 0) e else vl A 0:=by
  unfold ph;split
  ·rw[kl,if_pos rfl]
  ·rfl
 unfold tP;split
 ·rename_i h
  rw[kl,if_neg (HC h),q]
 ·exact q
theorem KN(A:As)(b:Nat)(e:Int)(k:Nat)(hk:0<k):vl (tP A b e) k=if k=hb b then nv (vl A k) (he b e)else vl A k:=by
 unfold tP;split
 ·rename_i h
  rw[kl,IQ A b e _ h,IQ A b e _ hk];split
  ·rename_i z;rw[z]
  ·rfl
 ·rename_i h
  rw[if_neg (by omega),IQ A b e _ hk]
theorem vz{A:As}(h:OkA A)(hl:A.length<1000)(b:Nat)(e:Int):aY (esD A) [.int b,.int e]=some (esD (tP A b e)):=by
 have l:=vw h b e;have sz:sizeLine>=1001:=by decide
 have e1:(if((b%2:Nat):Int)=1 then gk (esD A) (.inl 0) (.int (((vl A 0:Nat)+e)%8))else esD A)=esD (ph A b e):=by
  unfold ph;by_cases o:b%2=1
  ·rw[if_pos o,if_pos (by omega),<-pT]
   exact qC A 0 _
  ·rw[if_neg o,if_neg (by omega)]
 have e2:(if((b%2:Nat):Int)=1 then(b:Int)-1 else b)=((hb b:Nat):Int):=by
  unfold hb;by_cases o:b%2=1
  ·rw[if_pos (by omega)];omega
  ·rw[if_neg (by omega)];omega
 have e3:(if((b%2:Nat):Int)=1 then -e else e)=he b e:=by
  unfold he;by_cases o:b%2=1
  ·rw[if_pos o,if_pos (by omega)]
  ·rw[if_neg o,if_neg (by omega)]
 have q:=JK b e ((b%2:Nat):Int) (hb b:Nat) (he b e) (vl A 0:Nat) (vl (ph A b e) (hb b):Nat) (esD A) (esD (ph A b e)) (by omega) (uF h.z) e1 e2 e3 (zm _ _) (by unfold esD;rw[List.length_map];omega) (by unfold esD;rw[List.length_map];omega);have e4:(if(0:Int)<((hb b:Nat):Int)then gk (esD (ph A b e)) (.inl (hb b:Nat)) (.int (((vl (ph A b e) (hb b):Nat)+he b e)%8))else esD (ph A b e))=esD (tP A b e):=by
  unfold tP;by_cases o:0<hb b
  ·rw[if_pos o,if_pos (by omega),<-pT]
   exact qC _ _ _
  ·rw[if_neg o,if_neg (by omega)]
 rw[e4]at q;exact JJ _ _ _ _ _ _ q
theorem jW(A:As)(rs:List Nat):aD (mS A rs)=rs.filter fun k=>decide (0<k/\0<vl A k):=by
 unfold aD mS;rw[List.map_map];exact List.map_id' _
theorem EW{A:As}(h:OkA A){rs:List Nat}(p:rs.Perm (aD A)):(aD (mS A rs)).Nodup:=by
 rw[jW];exact List.Nodup.sublist List.filter_sublist (p.nodup_iff.mpr h.nd)
theorem uu{A:As}{k:Nat}(h:vl A k≠0):k∈aD A:=Classical.byContradiction fun z=>h (rS z)
theorem Da{A:As}(h:OkA A){rs:List Nat}(p:rs.Perm (aD A))(k:Nat):vl (mS A rs) k=if 0<k then vl A k else 0:=by
 by_cases hk:k∈aD (mS A rs)
 ·have hk':=hk
  rw[jW,List.mem_filter]at hk';obtain⟨h1,h2⟩:=hk';have h2:0<k/\0<vl A k:=by simpa using h2
  rw[if_pos h2.1];exact qm (EW h p) (p:=(k,vl A k)) (List.mem_map.mpr ⟨k,List.mem_filter.mpr ⟨h1,by simpa using h2⟩,rfl⟩)
 ·rw[rS hk]
  by_cases h0:0<k
  ·rw[if_pos h0]
   refine Classical.byContradiction fun z=>hk ?_
   rw[jW,List.mem_filter];exact⟨p.mem_iff.mpr (uu (Ne.symm z)),by simp[h0];omega⟩
  ·rw[if_neg h0]
noncomputable def pB(S:As)(b:Nat)(e:Int):As:=if hb b=0 then S else uh S (hb b) (nv (vl S (hb b)) (he b e))
noncomputable def lN(ts:List Nat)(k:Nat):List Nat:=if k∈ts then ts else ts++[k]
theorem m9(rs:List Nat):(rs.map cI).map PyData.int=aA rs:=by
 unfold aA cI;rw[List.map_map];rfl
noncomputable def rW(A:As):List (Nat×Int):=A.map fun p=>(p.1,(p.2:Int))
theorem xr(A:As):(rW A).map uj=A.map pD:=by
 unfold rW;rw[List.map_map];rfl
noncomputable def pN(S:As):List (Nat×Int)->As
 |[]=>S
 |q::Q=>pN (pB S q.1 q.2) Q
noncomputable def tv:List (Nat×Int)->Int
 |[]=>0
 |q::Q=>(if q.1%2=1 then q.2 else 0)+tv Q
noncomputable def kv(k:Nat):List (Nat×Int)->Int
 |[]=>0
 |q::Q=>(if hb q.1=k then he q.1 q.2 else 0)+kv k Q
theorem Db(S:As)(b:Nat)(e:Int){k:Nat}(hk:0<k):vl (pB S b e) k=if hb b=k then nv (vl S k) (he b e)else vl S k:=by
 unfold pB;by_cases z:hb b=0
 ·rw[if_pos z,if_neg (by omega)]
 ·rw[if_neg z,kl]
  by_cases y:hb b=k
  ·rw[if_pos y,if_pos y.symm,y]
  ·rw[if_neg y,if_neg (fun q=>y q.symm)]
theorem xq{k:Nat}(hk:0<k):∀(Q:List (Nat×Int)) (S:As),vl S k<8->(vl (pN S Q) k:Int)=((vl S k:Int)+kv k Q)%8
 |[],S,h=>by
  show(vl S k:Int)=(_+0)%8;omega
 |q::Q,S,h=>by
  have ih:=xq hk Q (pB S q.1 q.2);have e:=Db S q.1 q.2 hk;show(vl (pN (pB S q.1 q.2) Q) k:Int)=((vl S k:Int)+((if hb q.1=k then he q.1 q.2 else 0)+kv k Q))%8;by_cases y:hb q.1=k
  ·rw[if_pos y]at e ⊢
   have h2:=yn (vl S k) (he q.1 q.2);have h3:=pT (vl S k) (he q.1 q.2);rw[ih (by omega),e,h3];omega
  ·rw[if_neg y]at e ⊢
   rw[ih (by omega),e];omega
theorem Hf{S:As}(h:(aD S).Nodup)(b:Nat)(e:Int):(aD (pB S b e)).Nodup:=by
 unfold pB;split
 ·exact h
 ·exact yr h _ _
theorem yG(S:As)(b:Nat)(e:Int):(pB S b e).length<=S.length+1:=by
 unfold pB;split
 ·omega
 ·exact vt S _ _
theorem yp:∀(Q:List (Nat×Int)) {S:As},(aD S).Nodup->(aD (pN S Q)).Nodup
 |[],_,h=>h
 |q::Q,_,h=>yp Q (Hf h q.1 q.2)
theorem vq:∀(Q:List (Nat×Int)) (S:As),(pN S Q).length<=S.length+Q.length
 |[],S=>Nat.le_refl _
 |q::Q,S=>by
  have:=vq Q (pB S q.1 q.2);have:=yG S q.1 q.2;show(pN (pB S q.1 q.2) Q).length<=_;rw[List.length_cons];omega
theorem FR(t:Int)(S:As)(b:Nat)(e:Int)(z1 z2 z5 z6:Sl)(hl:S.length<1000):∃y5 y6,cJ [.fz (.int t),z1,z2,.od (esD S),.fz (uj (b,e)),z5,z6]=some (.nx,[.fz (.int (t+if b%2=1 then e else 0)),z1,z2,.od (esD (pB S b e)),.fz (uj (b,e)),y5,y6]):=by
 have e2:(if((b%2:Nat):Int)=1 then Builtin.bitXor (b:Int) 1 else b)=((hb b:Nat):Int):=by
  unfold hb;by_cases o:b%2=1
  ·rw[if_pos (by omega),HV b o,o]
  ·rw[if_neg (by omega)];omega
 have e3:(if((b%2:Nat):Int)=1 then -e else e)=he b e:=by
  unfold he;by_cases o:b%2=1
  ·rw[if_pos o,if_pos (by omega)]
  ·rw[if_neg o,if_neg (by omega)]
 have e4:(if((hb b:Nat):Int)=0 then esD S else gk (esD S) (.inl (hb b:Nat)) (.int (((vl S (hb b):Nat)+he b e)%8)))=esD (pB S b e):=by
  unfold pB;by_cases o:hb b=0
  ·rw[if_pos o,if_pos (by omega)]
  ·rw[if_neg o,if_neg (by omega),<-pT]
   exact qC _ _ _
 have e5:(if((b%2:Nat):Int)=1 then t+e else t)=t+if b%2=1 then e else 0:=by
  by_cases o:b%2=1
  ·rw[if_pos o,if_pos (by omega)]
  ·rw[if_neg o,if_neg (by omega)];omega
 have sz:sizeLine>=1001:=by decide
 have st:=Cn t b e ((b%2:Nat):Int) (hb b:Nat) (he b e) _ (vl S (hb b):Nat) (esD S) (uj (b,e)) z1 z2 z5 z6 rfl rfl (J6 b) e2 e3 e5 (zm _ _) (by unfold esD;rw[List.length_map];omega);rw[e4]at st;exact⟨_,_,st⟩
theorem vZ(z1 z2:Sl):∀(Q:List (Nat×Int)) (t:Int) (S:As) (z4 z5 z6:Sl),S.length+Q.length<1000->∃y4 y5 y6,loop (gN 4) cJ (Q.map uj) [.fz (.int t),z1,z2,.od (esD S),z4,z5,z6]=some (.nx,[.fz (.int (t+tv Q)),z1,z2,.od (esD (pN S Q)),y4,y5,y6])
 |[],t,S,z4,z5,z6,_=>⟨z4,z5,z6,by
  show some (Fl.nx,[Sl.fz (.int t),z1,z2,.od (esD S),z4,z5,z6])=some (.nx,[.fz (.int (t+0)),z1,z2,.od (esD S),z4,z5,z6]);rw[Int.add_zero]⟩
 |q::Q,t,S,z4,z5,z6,h=>by
  rw[List.length_cons]at h;obtain⟨w5,w6,e1⟩:=FR t S q.1 q.2 z1 z2 z5 z6 (by omega);have hl:=yG S q.1 q.2;obtain⟨y4,y5,y6,e2⟩:=vZ z1 z2 Q (t+if q.1%2=1 then q.2 else 0) (pB S q.1 q.2) (.fz (uj q)) w5 w6 (by omega);refine⟨y4,y5,y6,?_⟩;rw[List.map_cons,dU (δ1:=[.fz (.int t),z1,z2,.od (esD S),.fz (uj q),z5,z6]) (by simp) e1,e2,Int.add_assoc];rfl
structure RR (R:As) (f:Nat->Int):Prop where
 pk:(aD R).Pairwise (· < ·)
 val:∀k,0<k->(vl R k:Int)=f k%8
 nz:∀p∈R,0<p.1/\p.2≠0
theorem yq{l:List Nat}(h:l.Pairwise (· < ·)):l.Nodup:=by
 rw[List.nodup_iff_pairwise_ne];exact h.imp fun{a b} q=>by omega
theorem RR.keys{R:As}{f:Nat->Int}(h:RR R f)(k:Nat):k∈aD R↔0<k/\f k%8≠0:=by
 constructor
 ·intro hk
  obtain⟨p,hp,rfl⟩:=List.mem_map.mp hk;have h1:=h.nz p hp;have h2:=h.val p.1 h1.1;rw[qm (yq h.pk) hp]at h2;exact⟨h1.1,by omega⟩
 ·intro ⟨h0,hk⟩
  have h2:=h.val k h0;exact uu (by omega)
theorem vY:∀{R:As},(aD R).Nodup->R=(aD R).map fun k=>(k,vl R k):=fun{R} nd=>by
 unfold aD;rw[List.map_map];refine(List.map_id R).symm.trans (List.map_congr_left fun p hp=>?_);show p=(p.1,vl R p.1);rw[qm nd hp]
theorem RR.one{R R':As}{f g:Nat->Int}(h:RR R f)(h':RR R' g)(e:∀k,0<k->f k%8=g k%8):R=R':=by
 have k1:aD R=aD R':=mK h.pk h'.pk fun k=>by
  rw[h.keys,h'.keys];constructor
  ·intro ⟨a,b⟩;exact⟨a,by rw[<-e k a];exact b⟩
  ·intro ⟨a,b⟩;exact⟨a,by rw[e k a];exact b⟩
 rw[vY (yq h.pk),vY (yq h'.pk),k1];refine List.map_congr_left fun k hk=>?_
 have h0:0<k:=((h'.keys k).mp hk).1;have h1:=h.val k h0;have h2:=h'.val k h0;have:=e k h0;congr 1;omega
theorem FS(t t':Int)(T:D)(Q L:List D)(es es':List (ao×D))(y4 y5 y6:Sl)(hT:vQ T=some es)(lp:loop (gN 4) cJ Q [.fz (.int t),.fz T,.fz (.list Q),.od es,.un,.un,.un]=some (.nx,[.fz (.int t'),.fz T,.fz (.list Q),.od es',y4,y5,y6]))(p:gI [.fz (.int t'),.fz T,.fz (.list Q),.od es',y4,y5,y6]=some (.list L)):cG [.int t,T,.list Q]=some (.tuple [.int (t' % 8),.tuple L]):=by
 simp[-aq,-b5,aG,aS,cG,cD,iD,az,uc,hT,lp,p]
theorem zk:∀(Q:List (Nat×Int)) {S:As},0 ∉ aD S->0 ∉ aD (pN S Q)
 |[],_,h=>h
 |q::Q,S,h=>zk Q (by
  unfold pB;split
  ·exact h
  ·rename_i z
   rw[ny];split
   ·exact h
   ·intro y
    rcases List.mem_append.mp y with y|y
    ·exact h y
    ·exact z (List.mem_singleton.mp y).symm)
theorem rG(t:Int)(S:As)(hk:(aD S).Nodup)(h8:∀k,vl S k<8)(Q:List (Nat×Int))(hl:S.length+Q.length<=900)(h0:0 ∉ aD S):∃R:As,RR R (fun k=>(vl S k:Int)+kv k Q)/\R.length<=S.length+Q.length/\∀T,vQ T=some (esD S)->cG [.int t,T,.list (Q.map uj)]=some (.tuple [.int ((t+tv Q)%8),.tuple (R.map pD)]):=by
 have nd:=yp Q hk;have ln:=vq Q S;obtain⟨rs,p,pw,hp⟩:=GZ (pN S Q) nd (by omega);refine⟨CI (pN S Q) rs,⟨?_,fun k h=>?_,fun q hq=>?_⟩,?_,fun T hT=>?_⟩
 ·unfold CI aD
  rw[List.map_map];have:(rs.filter fun k=>decide (vl (pN S Q) k≠0)).map ((fun p:Nat×Nat=>p.1) ∘ fun k=>(k,vl (pN S Q) k))=rs.filter fun k=>decide (vl (pN S Q) k≠0):=List.map_id' _
  rw[this];exact pw.sublist List.filter_sublist
 ·rw[<-xq h Q S (h8 k)]
  congr 1;by_cases z:vl (pN S Q) k=0
  ·rw[z]
   refine rS fun hq=>?_
   obtain⟨r,hr,rfl⟩:=List.mem_map.mp hq;obtain⟨j,hj,rfl⟩:=List.mem_map.mp hr;have:=(List.mem_filter.mp hj).2;simp at this;exact this z
  ·have nd2:(aD (CI (pN S Q) rs)).Nodup:=by
    unfold CI aD;rw[List.map_map];have:(rs.filter fun k=>decide (vl (pN S Q) k≠0)).map ((fun p:Nat×Nat=>p.1) ∘ fun k=>(k,vl (pN S Q) k))=rs.filter fun k=>decide (vl (pN S Q) k≠0):=List.map_id' _
    rw[this];exact List.Nodup.sublist List.filter_sublist (p.nodup_iff.mpr nd)
   exact qm nd2 (p:=(k,vl (pN S Q) k)) (List.mem_map.mpr ⟨k,List.mem_filter.mpr ⟨p.mem_iff.mpr (uu z),by simpa using z⟩,rfl⟩)
 ·obtain⟨j,hj,rfl⟩:=List.mem_map.mp hq
  have:=List.mem_filter.mp hj;refine⟨?_,by simpa using this.2⟩;refine Nat.pos_of_ne_zero fun z=>?_
  subst z;exact zk Q h0 (p.mem_iff.mp this.1)
 ·unfold CI
  rw[List.length_map];have:=List.length_filter_le (fun k=>decide (vl (pN S Q) k≠0)) rs
  have h2:=p.length_eq;unfold aD at h2;rw[List.length_map]at h2;omega
 ·obtain⟨y4,y5,y6,lp⟩:=vZ (.fz T) (.fz (.list (Q.map uj))) Q t S .un .un .un (by omega)
  exact FS _ _ _ _ _ _ _ _ _ _ hT lp (hp _ _ _ _ _ _)
noncomputable def wg(A:As):List (Nat×Int)->As
 |[]=>A
 |q::Q=>wg (tP A q.1 q.2) Q
theorem qK:∀(Q:List (Nat×Int)) {A:As},OkA A->OkA (wg A Q)
 |[],_,h=>h
 |q::Q,_,h=>qK Q (F3 h q.1 q.2)
theorem vr:∀(Q:List (Nat×Int)) {A:As},OkA A->(wg A Q).length<=A.length+Q.length
 |[],A,_=>Nat.le_refl _
 |q::Q,A,h=>by
  have h1:=vr Q (F3 h q.1 q.2);have h2:=(vw h q.1 q.2).2;show(wg (tP A q.1 q.2) Q).length<=_;rw[List.length_cons];omega
theorem uY:∀(Q:List (Nat×Int)) {A:As},OkA A->(vl (wg A Q) 0:Int)=((vl A 0:Int)+tv Q)%8
 |[],A,h=>by
  have:=h.lt 0;show(vl A 0:Int)=(_+0)%8;omega
 |q::Q,A,h=>by
  have ih:=uY Q (F3 h q.1 q.2);have e:=Gj A q.1 q.2;show(vl (wg (tP A q.1 q.2) Q) 0:Int)=((vl A 0:Int)+((if q.1%2=1 then q.2 else 0)+tv Q))%8;rw[ih,e];by_cases o:q.1%2=1
  ·rw[if_pos o,if_pos o,pT];omega
  ·rw[if_neg o,if_neg o];omega
theorem uX{k:Nat}(hk:0<k):∀(Q:List (Nat×Int)) {A:As},OkA A->(vl (wg A Q) k:Int)=((vl A k:Int)+kv k Q)%8
 |[],A,h=>by
  have:=h.lt k;show(vl A k:Int)=(_+0)%8;omega
 |q::Q,A,h=>by
  have ih:=uX hk Q (F3 h q.1 q.2);have e:=KN A q.1 q.2 k hk;show(vl (wg (tP A q.1 q.2) Q) k:Int)=((vl A k:Int)+((if hb q.1=k then he q.1 q.2 else 0)+kv k Q))%8;rw[ih,e];by_cases o:hb q.1=k
  ·rw[if_pos o,if_pos o.symm,pT];omega
  ·rw[if_neg o,if_neg (fun z=>o z.symm)];omega
theorem DC{A:As}(h:OkA A){rs:List Nat}(p:rs.Perm (aD A))(pw:rs.Pairwise (· < ·)){f:Nat->Int}(hf:∀k,0<k->(vl A k:Int)=f k%8):RR (mS A rs) f where
 pk:=by
  rw[jW];exact pw.sublist List.filter_sublist
 val:=fun k hk=>by
  rw[Da h p,if_pos hk];exact hf k hk
 nz:=fun q hq=>by
  obtain⟨k,hk,rfl⟩:=List.mem_map.mp hq;have:=(List.mem_filter.mp hk).2;have:0<k/\0<vl A k:=by simpa using this
  exact⟨this.1,by omega⟩
theorem kE{c:Nat}(h:c<8):OkA [(0,c)] where
 nd:=by simp[aD]
 z:=by simp[aD]
 lt:=fun k=>by
  rw[eZ];split
  ·exact h
  ·rw[rS (by simp[aD])];omega
theorem Dc(c:Nat){k:Nat}(hk:0<k):vl [(0,c)] k=0:=by
 rw[eZ,if_neg (by show ¬ 0=k;omega),rS (by simp[aD])]
theorem Av(c:Nat):vl [(0,c)] 0=c:=by rw[eZ,if_pos rfl]
noncomputable def IH(xs:List Nat):List Nat:=xs.foldl lN []
theorem zK{ts:List Nat}(h:ts.Nodup)(k:Nat):(lN ts k).Nodup:=by
 unfold lN;split
 ·exact h
 ·rename_i z
  rw[List.nodup_append];exact⟨h,by simp,fun a ha b hb=>by rw[List.mem_singleton.mp hb];exact fun q=>z (q ▸ ha)⟩
theorem Ck(ts:List Nat)(k a:Nat):a∈lN ts k↔a∈ts\/a=k:=by
 unfold lN;split
 ·rename_i z
  exact⟨.inl,fun h=>h.elim id fun e=>e ▸ z⟩
 ·simp
theorem vL:∀(xs:List Nat) {ts:List Nat},ts.Nodup->(xs.foldl lN ts).Nodup
 |[],_,h=>h
 |x::xs,_,h=>vL xs (zK h x)
theorem sS:∀(xs ts:List Nat) (a:Nat),a∈xs.foldl lN ts↔a∈ts\/a∈xs
 |[],ts,a=>by simp
 |x::xs,ts,a=>by
  show a∈xs.foldl lN (lN ts x)↔_;rw[sS xs,Ck,List.mem_cons,or_assoc]
theorem Cl(ts:List Nat)(k:Nat):(lN ts k).length<=ts.length+1:=by
 unfold lN;split
 ·omega
 ·simp
theorem sT:∀(xs ts:List Nat),(xs.foldl lN ts).length<=ts.length+xs.length
 |[],ts=>by simp
 |x::xs,ts=>by
  have:=sT xs (lN ts x);have:=Cl ts x;show(xs.foldl lN (lN ts x)).length<=_;rw[List.length_cons];omega
theorem wn(ts:List Nat)(k:Nat):dg (ts.map cI) (cI k)=(lN ts k).map cI:=by
 have e:cI k∈ts.map cI↔k∈ts:=by
  rw[List.mem_map];exact⟨fun⟨a,ha,q⟩=>(show a=k by unfold cI at q;omega) ▸ ha,fun h=>⟨k,h,rfl⟩⟩
 unfold dg lN;by_cases h:k∈ts
 ·rw[if_pos h,if_pos (e.mpr h)]
 ·rw[if_neg h,if_neg (fun z=>h (e.mp z)),List.map_append]
  rfl
theorem vd:∀(xs ts:List Nat),(xs.map cI).foldl dg (ts.map cI)=(xs.foldl lN ts).map cI
 |[],_=>rfl
 |x::xs,ts=>by
  show(xs.map cI).foldl dg (dg (ts.map cI) (cI x))=(xs.foldl lN (lN ts x)).map cI;rw[wn,vd]
theorem sP:∀xs:List Nat,yY (aA xs)=some (xs.map cI)
 |[]=>rfl
 |x::xs=>by
  show(yY (aA xs)).bind _=_;rw[sP xs];rfl
theorem xG(xs:List Nat)(hl:xs.length<64):∃rs:List Nat,rs.Pairwise (· < ·)/\(∀t,t∈rs↔t∈xs)/\rs.length<=xs.length/\jA (.list (aA xs))=some (.list (aA rs))/\jA (.tuple (aA xs))=some (.list (aA rs)):=by
 obtain⟨rs,e,p,pw⟩:=lW (IH xs) (vL xs .nil);have s:im (xs.map cI)=(IH xs).map cI:=vd xs [];have ln:=sT xs [];have key:∀d,dB d=some (aA xs)->jA d=some (.list (aA rs)):=fun d h=>by
  unfold jA;rw[h,Option.bind_some,sP,Option.bind_some,if_pos (by rw[List.length_map];exact hl),s,e,m9]
 refine⟨rs,pw,fun t=>?_,by rw[p.length_eq];simpa[IH]using ln,key _ rfl,key _ rfl⟩
 rw[p.mem_iff,IH,sS];simp
theorem qP(rs:List Nat)(f:Nat->Bool):aA (rs.filter f)=(rs.filter f).map fun k:Nat=>PyData.int (k:Int):=rfl
theorem Cu(xs rs:List Nat)(T:D)(hr:rs.length<=1000)(hs:jA T=some (.list (aA rs))):de [.fz T]=some (.list (aA (rs.filter fun k=>decide (0<k)))):=by
 unfold de;rw[qP];refine d6 (xs:=rs) (h:=fun k:Nat=>PyData.int (k:Int)) ?_ (by omega) (fun k _=>?_) fun k _ _=>?_
 ·show((jA T).bind dB)=_
  rw[hs];rfl
 ·have:neD (.int (k:Int)) (.int 0)=some (.bool (decide (0<k))):=by
   by_cases h:k=0
   ·subst h;rfl
   ·have h1:¬((k:Int)=0):=by omega
    have h2:0<k:=by omega
    simp[h,h1,h2]
  simp only[dD,List.map_nil,List.append_nil];show(neD (.int (k:Int)) (.int 0)).bind asB=_;rw[this];rfl
 ·simp[dD]
theorem Ct(T:D)(L:List D)(p:de [.fz T]=some (.list L)):bc [T]=some (.tuple L):=by
 simp[bc,cD,eV,az,p]
structure TT (ss:List Nat) (xs:List Nat):Prop where
 pw:ss.Pairwise (· < ·)
 mem:∀t,t∈ss↔t∈xs/\0<t
theorem TT.one{ss ss' xs ys:List Nat}(h:TT ss xs)(h':TT ss' ys)(e:∀t,0<t->(t∈xs↔t∈ys)):ss=ss':=
 mK h.pw h'.pw fun t=>by
  rw[h.mem,h'.mem];exact⟨fun⟨a,b⟩=>⟨(e t b).mp a,b⟩,fun⟨a,b⟩=>⟨(e t b).mpr a,b⟩⟩
theorem Ax(xs:List Nat)(hl:xs.length<64):∃ss:List Nat,TT ss xs/\ss.length<=xs.length/\bc [.list (aA xs)]=some (.tuple (aA ss))/\bc [.tuple (aA xs)]=some (.tuple (aA ss)):=by
 obtain⟨rs,h1,h2,h3,h4,h5⟩:=xG xs hl;refine⟨rs.filter fun k=>decide (0<k),⟨h1.sublist List.filter_sublist,fun t=>?_⟩,?_,Ct _ _ (Cu xs rs _ (by omega) h4),Ct _ _ (Cu xs rs _ (by omega) h5)⟩
 ·rw[List.mem_filter,h2]
  simp
 ·have:=List.length_filter_le (fun k=>decide (0<k)) rs
  omega
noncomputable def JR(b k:Nat):Bool:=decide (b/2^k%2=1)
noncomputable def oth(ps:As)(bit:Nat):As:=ps.filter fun p=>!JR p.1 bit
theorem t6(a b c d e f:D):cT [a,b,c,d,e,f]=some (.tuple [a,b,c,d,e,f]):=lT (by simp)
section
variable(w l:Nat)(hv:Int)(c:Nat)(ps:As)(ts hs:List Nat)
theorem o3:(oI (o2 (oV 0) (oC (.int 3)) aW) dB) (.fz (gJ w l hv c (rW ps) ts hs)::r)=some (ps.map pD):=by
 have:aW (gJ w l hv c (rW ps) ts hs) (.int 3)=some (.tuple (ps.map pD)):=by rw[CG,xr]
 show(aW (gJ w l hv c (rW ps) ts hs) (.int 3)).bind dB=_;rw[this];rfl
end
theorem B4{d:D}{k:Nat}(h:MA.Sh k d)(hk:k<=64):bT d d=some (.bool true):=by
 have hs:xh d=true:=by
  show(d.canLay0&&decide (d.depth<=64))=true;rw[h.1,decide_eq_true (Nat.le_trans h.2 hk)];rfl
 unfold bT;rw[if_pos ⟨hs,hs⟩,MA.nV d h.1]
theorem Bn{d:D}{k:Nat}(h:MA.Sh k d)(hk:k<=64):neD d d=some (.bool false):=by
 have hs:xh d=true:=by
  show(d.canLay0&&decide (d.depth<=64))=true;rw[h.1,decide_eq_true (Nat.le_trans h.2 hk)];rfl
 unfold neD;rw[if_pos ⟨hs,hs⟩,MA.nV d h.1];rfl
theorem Aq(i:Int):cK [.int i]=some (.bool true):=by simp[cK,cD,gW,az]
theorem J3(T:D)(is:List Int)(hl:is.length<=1000)(hT:dB T=some (is.map PyData.int)):cS [.fz T]=some (.list []):=by
 unfold cS;have:eT (oI (oV 0) dB) [] tR (pd (ob (VL.os (ae (oV 0) (aE)) cK))) (oV 0) [.fz T]=some (.list ((is.filter fun _=>false).map PyData.int)):=by
  refine d6 (xs:=is) (h:=PyData.int) ?_ (by omega) (fun i _=>?_) fun i _ h=>by cases h
  ·show((Im (some (Sl.fz T))).bind dB)=_
   rw[Dp,Option.bind_some,hT]
  ·have:=Aq i
   simp[dD,this]
 rw[this];have e:(is.filter fun _=>false)=[]:=by simp
 rw[e];rfl
theorem J2(T:D)(p:cS [.fz T]=some (.list [])):aZ [T]=some (.bool true):=by
 simp[aZ,cD,d7,az,p]
theorem C3(T:D)(is:List Int)(hl:is.length<=1000)(hT:dB T=some (is.map PyData.int)):aZ [T]=some (.bool true):=J2 T (J3 T is hl hT)
theorem Cy(O O':D)(x2:Sl):∀(ps:As) (x3:Sl),∃y3,loop (gN 3) cB (ps.map pD) [.fz O,.fz O',x2,x3]=some (.nx,[.fz O,.fz O',x2,y3])
 |[],x3=>⟨x3,rfl⟩
 |p::ps,x3=>by
  have a:=C3 (pD p) [(p.1:Int),(p.2:Int)] (by simp) rfl;have i:fT "tuple" (pD p)=some (.bool true):=rfl;have st:cB [.fz O,.fz O',x2,.fz (pD p)]=some (.nx,[.fz O,.fz O',x2,.fz (pD p)]):=by
   generalize pD p=P at *;simp[cB,i,a]
  obtain⟨y3,e⟩:=Cy O O' x2 ps (.fz (pD p));refine⟨y3,?_⟩;rw[List.map_cons,dU (δ1:=[.fz O,.fz O',x2,.fz (pD p)]) (by simp) st,e]
theorem Jf(O:D)(A0 A3 A4 A5 A12 B1 B2 B3:D)(PL:List D)(y3:Sl)(i:fT "tuple" O=some (.bool true))(ln:lE [O]=some (.int 6))(n:neD O O=some (.bool false))(o0:aW O (.int 0)=some A0)(o3:aW O (.int 3)=some (.tuple PL))(o4:aW O (.int 4)=some A4)(o5:aW O (.int 5)=some A5)(i0:fT "tuple" A0=some (.bool true))(i4:fT "tuple" A4=some (.bool true))(i5:fT "tuple" A5=some (.bool true))
  (lp:loop (gN 3) cB PL [.fz O,.fz O,.fz (.int 5),.un]=some (.nx,[.fz O,.fz O,.fz (.int 5),y3])) (sl:FZ O (some 1) (some 3)=some A12) (a1:br A0 A12=some B1) (a2:br B1 A4=some B2) (a3:br B2 A5=some B3) (w:aZ [B3]=some (.bool true)):bd [O,O]=some (.bool true):=by
 have l1:loop (gN 2) dW [.int 0,.int 3,.int 4,.int 5] [.fz O,.fz O,.un,.un]=some (.nx,[.fz O,.fz O,.fz (.int 5),.un]):=by
  simp[loop,dW,o0,o3,o4,o5,i0,i4,i5]
 simp[bd,cD,eW,az,i,ln,n,l1,o0,o3,o4,o5,lp,sl,a1,a2,a3,w]
theorem Ds(w l:Nat)(hv:Int)(c:Nat)(ps:As)(ts hs:List Nat):MA.Sh 4 (gJ w l hv c (rW ps) ts hs):=by
 unfold gJ;refine MA.Sh.tuple fun x hx=>?_
 simp only[List.mem_cons,List.not_mem_nil,or_false]at hx;rcases hx with rfl|rfl|rfl|rfl|rfl|rfl
 ·refine MA.Sh.tuple fun x hx=>?_
  simp only[List.mem_cons,List.not_mem_nil,or_false]at hx;rcases hx with rfl|rfl<;>exact MA.Sh.int 2 _
 ·exact MA.Sh.int 3 _
 ·exact MA.Sh.int 3 _
 ·rw[xr]
  refine MA.Sh.tuple fun x hx=>?_
  obtain⟨p,_,rfl⟩:=List.mem_map.mp hx;refine MA.Sh.tuple fun x hx=>?_
  simp only[List.mem_cons,List.not_mem_nil,or_false]at hx;rcases hx with rfl|rfl<;>exact MA.Sh.int 1 _
 ·refine MA.Sh.tuple fun x hx=>?_
  obtain⟨h,_,rfl⟩:=List.mem_map.mp hx;exact MA.Sh.int 2 _
 ·refine MA.Sh.tuple fun x hx=>?_
  obtain⟨h,_,rfl⟩:=List.mem_map.mp hx;exact MA.Sh.int 2 _
theorem m8(hs:List Nat):aA hs=(hs.map cI).map PyData.int:=(m9 hs).symm
theorem sn(w l:Nat)(hv:Int)(c:Nat)(ps:As)(ts hs:List Nat)(ht:ts.length<=200)(hh:hs.length<=200):bd [gJ w l hv c (rW ps) ts hs,gJ w l hv c (rW ps) ts hs]=some (.bool true):=by
 obtain⟨y3,lp⟩:=Cy (gJ w l hv c (rW ps) ts hs) (gJ w l hv c (rW ps) ts hs) (.fz (.int 5)) ps .un;have o3:aW (gJ w l hv c (rW ps) ts hs) (.int 3)=some (.tuple (ps.map pD)):=by rw[CG,xr]
 have sl:FZ (gJ w l hv c (rW ps) ts hs) (some 1) (some 3)=some (.tuple [.int hv,.int c]):=rfl;have a1:br (.tuple [.int w,.int l]) (.tuple [.int hv,.int c])=some (.tuple [.int w,.int l,.int hv,.int c]):=oG (by simp);have a2:br (.tuple [.int w,.int l,.int hv,.int c]) (.tuple (aA ts))=some (.tuple ([.int w,.int l,.int hv,.int c]++aA ts)):=oG (by simp[bo];omega);have a3:br (.tuple ([.int w,.int l,.int hv,.int c]++aA ts)) (.tuple (aA hs))=some (.tuple (([.int w,.int l,.int hv,.int c]++aA ts)++aA hs)):=oG (by simp[bo];omega);refine Jf _ (.tuple [.int w,.int l]) .none (.tuple (aA ts)) (.tuple (aA hs)) _ _ _ _ _ y3 rfl rfl (Bn (Ds w l hv c ps ts hs) (by decide)) (G7 ..) o3 (G6 ..) (G5 ..) rfl rfl rfl lp sl a1 a2 a3 (C3 _ ([(w:Int),(l:Int),hv,(c:Int)]++ts.map cI++hs.map cI) (by simp;omega) ?_);rw[List.map_append,List.map_append,<-m8,<-m8];rfl
noncomputable def xi(a:Str):Bool:=xh (.str a)
theorem fR{a b:Str}(ha:xi a=true)(hb:xi b=true):bT (.str a) (.str b)=some (.bool (a==b)):=if_pos ⟨ha,hb⟩
theorem bW:xi "swing" = true:=by decide +kernel
theorem bR:xi "turn" = true:=by decide +kernel
theorem bS:xi "flip" = true:=by decide +kernel
theorem cN:xi "tie" = true:=by decide +kernel
theorem b6:xi "sign" = true:=by decide +kernel
theorem bH:xi "cross" = true:=by decide +kernel
theorem bn:xi "look" = true:=by decide +kernel
theorem bh:xi "where" = true:=by decide +kernel
@[simp] theorem yN:bT (.str "swing") (.str "swing")=some (.bool true):=(fR bW bW).trans (congrArg (fun z=>some (PyData.bool z)) (show(("swing":Str)==("swing":Str))=true by decide +kernel))
@[simp] theorem zW:bT (.str "swing") (.str "look")=some (.bool false):=(fR bW bn).trans (congrArg (fun z=>some (PyData.bool z)) (show(("swing":Str)==("look":Str))=false by decide +kernel))
@[simp] theorem zV:bT (.str "turn") (.str "swing")=some (.bool false):=(fR bR bW).trans (congrArg (fun z=>some (PyData.bool z)) (show(("turn":Str)==("swing":Str))=false by decide +kernel))
@[simp] theorem Bt:bT (.str "turn") (.str "turn")=some (.bool true):=(fR bR bR).trans (congrArg (fun z=>some (PyData.bool z)) (show(("turn":Str)==("turn":Str))=true by decide +kernel))
@[simp] theorem Bv:bT (.str "turn") (.str "flip")=some (.bool false):=(fR bR bS).trans (congrArg (fun z=>some (PyData.bool z)) (show(("turn":Str)==("flip":Str))=false by decide +kernel))
@[simp] theorem Bu:bT (.str "turn") (.str "look")=some (.bool false):=(fR bR bn).trans (congrArg (fun z=>some (PyData.bool z)) (show(("turn":Str)==("look":Str))=false by decide +kernel))
@[simp] theorem Ab:bT (.str "flip") (.str "swing")=some (.bool false):=(fR bS bW).trans (congrArg (fun z=>some (PyData.bool z)) (show(("flip":Str)==("swing":Str))=false by decide +kernel))
@[simp] theorem BG:bT (.str "flip") (.str "turn")=some (.bool false):=(fR bS bR).trans (congrArg (fun z=>some (PyData.bool z)) (show(("flip":Str)==("turn":Str))=false by decide +kernel))
@[simp] theorem BI:bT (.str "flip") (.str "flip")=some (.bool true):=(fR bS bS).trans (congrArg (fun z=>some (PyData.bool z)) (show(("flip":Str)==("flip":Str))=true by decide +kernel))
@[simp] theorem BH:bT (.str "flip") (.str "look")=some (.bool false):=(fR bS bn).trans (congrArg (fun z=>some (PyData.bool z)) (show(("flip":Str)==("look":Str))=false by decide +kernel))
@[simp] theorem Bx:bT (.str "tie") (.str "swing")=some (.bool false):=(fR cN bW).trans (congrArg (fun z=>some (PyData.bool z)) (show(("tie":Str)==("swing":Str))=false by decide +kernel))
@[simp] theorem CN:bT (.str "tie") (.str "turn")=some (.bool false):=(fR cN bR).trans (congrArg (fun z=>some (PyData.bool z)) (show(("tie":Str)==("turn":Str))=false by decide +kernel))
@[simp] theorem CP:bT (.str "tie") (.str "flip")=some (.bool false):=(fR cN bS).trans (congrArg (fun z=>some (PyData.bool z)) (show(("tie":Str)==("flip":Str))=false by decide +kernel))
@[simp] theorem E9:bT (.str "tie") (.str "tie")=some (.bool true):=(fR cN cN).trans (congrArg (fun z=>some (PyData.bool z)) (show(("tie":Str)==("tie":Str))=true by decide +kernel))
@[simp] theorem CO:bT (.str "tie") (.str "look")=some (.bool false):=(fR cN bn).trans (congrArg (fun z=>some (PyData.bool z)) (show(("tie":Str)==("look":Str))=false by decide +kernel))
@[simp] theorem Bw:bT (.str "tie") (.str "where")=some (.bool false):=(fR cN bh).trans (congrArg (fun z=>some (PyData.bool z)) (show(("tie":Str)==("where":Str))=false by decide +kernel))
@[simp] theorem zY:bT (.str "sign") (.str "swing")=some (.bool false):=(fR b6 bW).trans (congrArg (fun z=>some (PyData.bool z)) (show(("sign":Str)==("swing":Str))=false by decide +kernel))
@[simp] theorem By:bT (.str "sign") (.str "turn")=some (.bool false):=(fR b6 bR).trans (congrArg (fun z=>some (PyData.bool z)) (show(("sign":Str)==("turn":Str))=false by decide +kernel))
@[simp] theorem BB:bT (.str "sign") (.str "flip")=some (.bool false):=(fR b6 bS).trans (congrArg (fun z=>some (PyData.bool z)) (show(("sign":Str)==("flip":Str))=false by decide +kernel))
@[simp] theorem CQ:bT (.str "sign") (.str "tie")=some (.bool false):=(fR b6 cN).trans (congrArg (fun z=>some (PyData.bool z)) (show(("sign":Str)==("tie":Str))=false by decide +kernel))
@[simp] theorem Bz:bT (.str "sign") (.str "sign")=some (.bool true):=(fR b6 b6).trans (congrArg (fun z=>some (PyData.bool z)) (show(("sign":Str)==("sign":Str))=true by decide +kernel))
@[simp] theorem BA:bT (.str "sign") (.str "look")=some (.bool false):=(fR b6 bn).trans (congrArg (fun z=>some (PyData.bool z)) (show(("sign":Str)==("look":Str))=false by decide +kernel))
@[simp] theorem zX:bT (.str "sign") (.str "where")=some (.bool false):=(fR b6 bh).trans (congrArg (fun z=>some (PyData.bool z)) (show(("sign":Str)==("where":Str))=false by decide +kernel))
@[simp] theorem yP:bT (.str "cross") (.str "swing")=some (.bool false):=(fR bH bW).trans (congrArg (fun z=>some (PyData.bool z)) (show(("cross":Str)==("swing":Str))=false by decide +kernel))
@[simp] theorem Ac:bT (.str "cross") (.str "turn")=some (.bool false):=(fR bH bR).trans (congrArg (fun z=>some (PyData.bool z)) (show(("cross":Str)==("turn":Str))=false by decide +kernel))
@[simp] theorem Af:bT (.str "cross") (.str "flip")=some (.bool false):=(fR bH bS).trans (congrArg (fun z=>some (PyData.bool z)) (show(("cross":Str)==("flip":Str))=false by decide +kernel))
@[simp] theorem BJ:bT (.str "cross") (.str "tie")=some (.bool false):=(fR bH cN).trans (congrArg (fun z=>some (PyData.bool z)) (show(("cross":Str)==("tie":Str))=false by decide +kernel))
@[simp] theorem Ad:bT (.str "cross") (.str "sign")=some (.bool false):=(fR bH b6).trans (congrArg (fun z=>some (PyData.bool z)) (show(("cross":Str)==("sign":Str))=false by decide +kernel))
@[simp] theorem yQ:bT (.str "cross") (.str "cross")=some (.bool true):=(fR bH bH).trans (congrArg (fun z=>some (PyData.bool z)) (show(("cross":Str)==("cross":Str))=true by decide +kernel))
@[simp] theorem Ae:bT (.str "cross") (.str "look")=some (.bool false):=(fR bH bn).trans (congrArg (fun z=>some (PyData.bool z)) (show(("cross":Str)==("look":Str))=false by decide +kernel))
@[simp] theorem yO:bT (.str "cross") (.str "where")=some (.bool false):=(fR bH bh).trans (congrArg (fun z=>some (PyData.bool z)) (show(("cross":Str)==("where":Str))=false by decide +kernel))
@[simp] theorem zZ:bT (.str "look") (.str "swing")=some (.bool false):=(fR bn bW).trans (congrArg (fun z=>some (PyData.bool z)) (show(("look":Str)==("swing":Str))=false by decide +kernel))
@[simp] theorem BC:bT (.str "look") (.str "turn")=some (.bool false):=(fR bn bR).trans (congrArg (fun z=>some (PyData.bool z)) (show(("look":Str)==("turn":Str))=false by decide +kernel))
@[simp] theorem BF:bT (.str "look") (.str "flip")=some (.bool false):=(fR bn bS).trans (congrArg (fun z=>some (PyData.bool z)) (show(("look":Str)==("flip":Str))=false by decide +kernel))
@[simp] theorem CS:bT (.str "look") (.str "tie")=some (.bool false):=(fR bn cN).trans (congrArg (fun z=>some (PyData.bool z)) (show(("look":Str)==("tie":Str))=false by decide +kernel))
@[simp] theorem BD:bT (.str "look") (.str "sign")=some (.bool false):=(fR bn b6).trans (congrArg (fun z=>some (PyData.bool z)) (show(("look":Str)==("sign":Str))=false by decide +kernel))
@[simp] theorem Aa:bT (.str "look") (.str "cross")=some (.bool false):=(fR bn bH).trans (congrArg (fun z=>some (PyData.bool z)) (show(("look":Str)==("cross":Str))=false by decide +kernel))
@[simp] theorem BE:bT (.str "look") (.str "look")=some (.bool true):=(fR bn bn).trans (congrArg (fun z=>some (PyData.bool z)) (show(("look":Str)==("look":Str))=true by decide +kernel))
@[simp] theorem yL:bT (.str "where") (.str "swing")=some (.bool false):=(fR bh bW).trans (congrArg (fun z=>some (PyData.bool z)) (show(("where":Str)==("swing":Str))=false by decide +kernel))
@[simp] theorem zR:bT (.str "where") (.str "turn")=some (.bool false):=(fR bh bR).trans (congrArg (fun z=>some (PyData.bool z)) (show(("where":Str)==("turn":Str))=false by decide +kernel))
@[simp] theorem zU:bT (.str "where") (.str "flip")=some (.bool false):=(fR bh bS).trans (congrArg (fun z=>some (PyData.bool z)) (show(("where":Str)==("flip":Str))=false by decide +kernel))
@[simp] theorem Bs:bT (.str "where") (.str "tie")=some (.bool false):=(fR bh cN).trans (congrArg (fun z=>some (PyData.bool z)) (show(("where":Str)==("tie":Str))=false by decide +kernel))
@[simp] theorem zS:bT (.str "where") (.str "sign")=some (.bool false):=(fR bh b6).trans (congrArg (fun z=>some (PyData.bool z)) (show(("where":Str)==("sign":Str))=false by decide +kernel))
@[simp] theorem yM:bT (.str "where") (.str "cross")=some (.bool false):=(fR bh bH).trans (congrArg (fun z=>some (PyData.bool z)) (show(("where":Str)==("cross":Str))=false by decide +kernel))
@[simp] theorem zT:bT (.str "where") (.str "look")=some (.bool false):=(fR bh bn).trans (congrArg (fun z=>some (PyData.bool z)) (show(("where":Str)==("look":Str))=false by decide +kernel))
@[simp] theorem yK:bT (.str "where") (.str "where")=some (.bool true):=(fR bh bh).trans (congrArg (fun z=>some (PyData.bool z)) (show(("where":Str)==("where":Str))=true by decide +kernel))
noncomputable def qB:Row->D
 |.swing j=>.tuple [.str "swing",.int j]
 |.turn j e=>.tuple [.str "turn",.int j,.int e]
 |.flip j=>.tuple [.str "flip",.int j]
 |.tie i j=>.tuple [.str "tie",.int i,.int j]
 |.sign i j=>.tuple [.str "sign",.int i,.int j]
 |.cross i j=>.tuple [.str "cross",.int i,.int j]
theorem B9(ns:List Int)(lo hi:Option Int):∃ms:List Int,ms.length<=ns.length/\FZ (.list (ns.map .int)) lo hi=some (.list (ms.map .int)):=by
 refine⟨(ns.drop (HT.sIx ns.length 0 lo)).take (HT.sIx ns.length ns.length hi-HT.sIx ns.length 0 lo),?_,?_⟩
 ·rw[List.length_take,List.length_drop];omega
 ·show some (PyData.list (tj _ _ _))=_
  unfold tj;rw[List.length_map,<-List.map_drop,<-List.map_take]
structure Wv where
 cr:Nat->Nat
 q:List (Nat×Int)
 hs:List Nat
noncomputable def sgnP(a b:Nat):List (Nat×Int):=[(a,2),(b,2),(a ^^^ b,6)]
noncomputable def setN(f:Nat->Nat)(j v:Nat):Nat->Nat:=fun k=>if k=j then v else f k
noncomputable def xm(fh:Nat)(W:Wv):Row->Wv
 |.swing j=>⟨setN W.cr j (2^(fh+W.hs.length)),W.q++sgnP (W.cr j) (2^(fh+W.hs.length)),W.hs++[fh+W.hs.length]⟩
 |.turn j e=>⟨W.cr,W.q++[(W.cr j,(e:Int))],W.hs⟩
 |.flip j=>⟨setN W.cr j (W.cr j ^^^ 1),W.q,W.hs⟩
 |.tie i j=>⟨setN W.cr j (W.cr j ^^^ W.cr i),W.q,W.hs⟩
 |.sign i j=>⟨W.cr,W.q++sgnP (W.cr i) (W.cr j),W.hs⟩
 |.cross i j=>⟨setN (setN W.cr i (W.cr j)) j (W.cr i),W.q,W.hs⟩
theorem Du(f:Nat->Nat)(j v:Nat):setN f j v j=v:=if_pos rfl
theorem Dw(f:Nat->Nat){j k:Nat}(v:Nat)(h:k≠j):setN f j v k=f k:=if_neg h
noncomputable def cc(C P Ti Hd:List D)(fm fh lk:Int):List (Str×D):=[("carried",.list C),("pairs",.list P),("ties",.list Ti),("hidden",.list Hd),("first_mark",.int fm),("first_hidden",.int fh),("looked",.int lk)]
section
variable(C P Ti Hd X:List D)(fm fh lk x:Int)
theorem aU:af "carried" (cc C P Ti Hd fm fh lk)=some (.list C):=by unfold cc;rw[af,if_pos rfl]
theorem ba:cM "carried" (.list X) (cc C P Ti Hd fm fh lk)=cc X P Ti Hd fm fh lk:=by unfold cc;rw[cM,if_pos rfl]
theorem bu:af "pairs" (cc C P Ti Hd fm fh lk)=some (.list P):=by unfold cc;rw[af,if_neg (by decide),af,if_pos rfl]
theorem bJ:cM "pairs" (.list X) (cc C P Ti Hd fm fh lk)=cc C X Ti Hd fm fh lk:=by unfold cc;rw[cM,if_neg (by decide),cM,if_pos rfl]
theorem b7:af "ties" (cc C P Ti Hd fm fh lk)=some (.list Ti):=by unfold cc;rw[af,if_neg (by decide),af,if_neg (by decide),af,if_pos rfl]
theorem cp:cM "ties" (.list X) (cc C P Ti Hd fm fh lk)=cc C P X Hd fm fh lk:=by unfold cc;rw[cM,if_neg (by decide),cM,if_neg (by decide),cM,if_pos rfl]
theorem bf:af "hidden" (cc C P Ti Hd fm fh lk)=some (.list Hd):=by unfold cc;rw[af,if_neg (by decide),af,if_neg (by decide),af,if_neg (by decide),af,if_pos rfl]
theorem bm:cM "hidden" (.list X) (cc C P Ti Hd fm fh lk)=cc C P Ti X fm fh lk:=by unfold cc;rw[cM,if_neg (by decide),cM,if_neg (by decide),cM,if_neg (by decide),cM,if_pos rfl]
theorem aJ:af "first_mark" (cc C P Ti Hd fm fh lk)=some (.int fm):=by unfold cc;rw[af,if_neg (by decide),af,if_neg (by decide),af,if_neg (by decide),af,if_neg (by decide),af,if_pos rfl]
theorem aB:af "first_hidden" (cc C P Ti Hd fm fh lk)=some (.int fh):=by unfold cc;rw[af,if_neg (by decide),af,if_neg (by decide),af,if_neg (by decide),af,if_neg (by decide),af,if_neg (by decide),af,if_pos rfl]
theorem bp:af "looked" (cc C P Ti Hd fm fh lk)=some (.int lk):=by unfold cc;rw[af,if_neg (by decide),af,if_neg (by decide),af,if_neg (by decide),af,if_neg (by decide),af,if_neg (by decide),af,if_neg (by decide),af,if_pos rfl]
theorem bj:cM "looked" (.int x) (cc C P Ti Hd fm fh lk)=cc C P Ti Hd fm fh x:=by unfold cc;rw[cM,if_neg (by decide),cM,if_neg (by decide),cM,if_neg (by decide),cM,if_neg (by decide),cM,if_neg (by decide),cM,if_neg (by decide),cM,if_pos rfl]
theorem cv:af "flip" (cc C P Ti Hd fm fh lk)=none:=by unfold cc;rw[af,if_neg (by decide),af,if_neg (by decide),af,if_neg (by decide),af,if_neg (by decide),af,if_neg (by decide),af,if_neg (by decide),af,if_neg (by decide),af]
theorem cq:af "sign" (cc C P Ti Hd fm fh lk)=none:=by unfold cc;rw[af,if_neg (by decide),af,if_neg (by decide),af,if_neg (by decide),af,if_neg (by decide),af,if_neg (by decide),af,if_neg (by decide),af,if_neg (by decide),af]
theorem bL:af "swing" (cc C P Ti Hd fm fh lk)=none:=by unfold cc;rw[af,if_neg (by decide),af,if_neg (by decide),af,if_neg (by decide),af,if_neg (by decide),af,if_neg (by decide),af,if_neg (by decide),af,if_neg (by decide),af]
theorem bM:af "cross" (cc C P Ti Hd fm fh lk)=none:=by unfold cc;rw[af,if_neg (by decide),af,if_neg (by decide),af,if_neg (by decide),af,if_neg (by decide),af,if_neg (by decide),af,if_neg (by decide),af,if_neg (by decide),af]
theorem aT:af "mark_set" (cc C P Ti Hd fm fh lk)=none:=by unfold cc;rw[af,if_neg (by decide),af,if_neg (by decide),af,if_neg (by decide),af,if_neg (by decide),af,if_neg (by decide),af,if_neg (by decide),af,if_neg (by decide),af]
theorem cu:af "look" (cc C P Ti Hd fm fh lk)=none:=by unfold cc;rw[af,if_neg (by decide),af,if_neg (by decide),af,if_neg (by decide),af,if_neg (by decide),af,if_neg (by decide),af,if_neg (by decide),af,if_neg (by decide),af]
theorem bK:af "where" (cc C P Ti Hd fm fh lk)=none:=by unfold cc;rw[af,if_neg (by decide),af,if_neg (by decide),af,if_neg (by decide),af,if_neg (by decide),af,if_neg (by decide),af,if_neg (by decide),af,if_neg (by decide),af]
theorem Ha:af "go" (cc C P Ti Hd fm fh lk)=none:=by unfold cc;rw[af,if_neg (by decide),af,if_neg (by decide),af,if_neg (by decide),af,if_neg (by decide),af,if_neg (by decide),af,if_neg (by decide),af,if_neg (by decide),af]
end
theorem Ft(C P Ti Hd:List D)(fm fh lk:Int)(j b c c':Int)(m:Nat)(h1:aW (.list C) (.int j)=some (.int c))(h2:fS (.int c) (.int b)=some (.int c'))(h3:nC C.length j=some m):aR (cc C P Ti Hd fm fh lk) [.int j,.int b]=some (cc (C.set m (.int c')) P Ti Hd fm fh lk):=by
 simp[aR,fG,g7,az,kY,jC,cE,kj,h1,h2,h3,aU,bu,b7,bf,aJ,aB,bp,ba,bJ,cp,bm,bj,cv,cq,bL,bM,aT,cu,bK]
theorem Dq(C P Ti Hd S:List D)(fm fh lk:Int)(a b:Int)(h1:fO [.int a,.int b]=some (.list S))(h2:S.all kj=true)(h3:P.length+S.length<=sizeLine):aQ (cc C P Ti Hd fm fh lk) [.int a,.int b]=some (cc C (P++S) Ti Hd fm fh lk):=by
 have h2':∀x∈S,kj x=true:=List.all_eq_true.mp h2;have hc:(∀x∈S,kj x=true)/\P.length+S.length<=sizeLine:=⟨h2',h3⟩;simp[aQ,fG,gZ,az,xM,jC,cE,h1,if_pos hc,aU,bu,b7,bf,aJ,aB,bp,ba,bJ,cp,bm,bj,cv,cq,bL,bM,aT,cu,bK]
theorem Ay(C P P' Ti Hd:List D)(fm fh lk:Int)(j n y c z:Int)(m:Nat)(h0:(Hd.length:Int)=n)(hy:fh+n=y)(hl:Hd.length<sizeLine)(h1:aW (.list C) (.int j)=some (.int c))(h2:h7 (.int 1) (.int y)=some (.int z))(g:aQ (cc C P Ti (Hd++[.int y]) fm fh lk) [.int c,.int z]=some (cc C P' Ti (Hd++[.int y]) fm fh lk))(h3:nC C.length j=some m):bX (cc C P Ti Hd fm fh lk) [.int j]=some (cc (C.set m (.int z)) P' Ti (Hd++[.int y]) fm fh lk):=by
 simp[bX,fG,gc,az,kY,mJ,bV,sr,jC,cE,kj,pU,noLs,h0,hy,hl,h1,h2,g,h3,aU,bu,b7,bf,aJ,aB,bp,ba,bJ,cp,bm,bj,cv,cq,bL,bM,aT,cu,bK]
theorem Ca(C P Ti Hd:List D)(fm fh lk:Int)(i j a b:Int)(m k:Nat)(h1:aW (.list C) (.int i)=some (.int a))(h2:aW (.list C) (.int j)=some (.int b))(h3:nC C.length i=some m)(h4:nC C.length j=some k):bY (cc C P Ti Hd fm fh lk) [.int i,.int j]=some (cc ((C.set m (.int b)).set k (.int a)) P Ti Hd fm fh lk):=by
 simp[bY,fG,gg,az,kY,sr,jC,cE,kj,pU,h1,h2,h3,h4,aU,bu,b7,bf,aJ,aB,bp,ba,bJ,cp,bm,bj,cv,cq,bL,bM,aT,cu,bK]
section
variable(C P Ti Hd:List D)(fm fh lk:Int)(ws':List (Str×D))
theorem zg(j:Int)(g:bX (cc C P Ti Hd fm fh lk) [.int j]=some ws'):aF (cc C P Ti Hd fm fh lk) [.tuple [.str "swing",.int j]]=some ws':=by
 simp[-aq,-b5,aG,aS,aF,fG,cm,az,bV,jC,cE,kj,pU,noLs,g,aU,bu,b7,bf,aJ,aB,bp,ba,bJ,cp,bm,bj,cv,cq,bL,bM,aT,cu,bK]
theorem BQ(j e c:Int)(h1:aW (.list C) (.int j)=some (.int c))(hl:P.length<sizeLine):aF (cc C P Ti Hd fm fh lk) [.tuple [.str "turn",.int j,.int e]]=some (cc C (P++[.tuple [.int c,.int e]]) Ti Hd fm fh lk):=by
 simp[-aq,-b5,aG,aS,aF,fG,cm,az,mJ,jC,cE,kj,pU,noLs,h1,hl,aU,bu,b7,bf,aJ,aB,bp,ba,bJ,cp,bm,bj,cv,cq,bL,bM,aT,cu,bK]
theorem BT(j:Int)(g:aR (cc C P Ti Hd fm fh lk) [.int j,.int 1]=some ws'):aF (cc C P Ti Hd fm fh lk) [.tuple [.str "flip",.int j]]=some ws':=by
 simp[-aq,-b5,aG,aS,aF,fG,cm,az,bV,jC,cE,kj,pU,noLs,g,aU,bu,b7,bf,aJ,aB,bp,ba,bJ,cp,bm,bj,cv,cq,bL,bM,aT,cu,bK]
theorem Fq(i j c:Int)(h1:aW (.list C) (.int i)=some (.int c))(g:aR (cc C P Ti Hd fm fh lk) [.int j,.int c]=some ws'):aF (cc C P Ti Hd fm fh lk) [.tuple [.str "tie",.int i,.int j]]=some ws':=by
 simp[-aq,-b5,aG,aS,aF,fG,cm,az,bV,jC,cE,kj,pU,noLs,h1,g,aU,bu,b7,bf,aJ,aB,bp,ba,bJ,cp,bm,bj,cv,cq,bL,bM,aT,cu,bK]
theorem BR(i j c d:Int)(h1:aW (.list C) (.int i)=some (.int c))(h2:aW (.list C) (.int j)=some (.int d))(g:aQ (cc C P Ti Hd fm fh lk) [.int c,.int d]=some ws'):aF (cc C P Ti Hd fm fh lk) [.tuple [.str "sign",.int i,.int j]]=some ws':=by
 simp[-aq,-b5,aG,aS,aF,fG,cm,az,bV,jC,cE,kj,pU,noLs,h1,h2,g,aU,bu,b7,bf,aJ,aB,bp,ba,bJ,cp,bm,bj,cv,cq,bL,bM,aT,cu,bK]
theorem zj(i j:Int)(g:bY (cc C P Ti Hd fm fh lk) [.int i,.int j]=some ws'):aF (cc C P Ti Hd fm fh lk) [.tuple [.str "cross",.int i,.int j]]=some ws':=by
 simp[-aq,-b5,aG,aS,aF,fG,cm,az,bV,jC,cE,kj,pU,noLs,g,aU,bu,b7,bf,aJ,aB,bp,ba,bJ,cp,bm,bj,cv,cq,bL,bM,aT,cu,bK]
end
theorem bq{n:Nat}{cr:Nat->Nat}{j:Nat}(hj:j<n):aW (.list (aA ((List.range n).map cr))) (.int (j:Int))=some (.int ((cr j:Nat):Int)):=by
 show hX _ _=_;rw[yt _ (by simpa using hj),List.getD_eq_getElem?_getD,List.getElem?_map,List.getElem?_range hj];rfl
theorem f8{n:Nat}{cr:Nat->Nat}{j:Nat}(hj:j<n):nC (aA ((List.range n).map cr)).length (j:Int)=some j:=by
 rw[bo,List.length_map,List.length_range];exact Fi hj
theorem eG{n:Nat}{cr:Nat->Nat}{j v:Nat}:(aA ((List.range n).map cr)).set j (.int ((v:Nat):Int))=aA ((List.range n).map (setN cr j v)):=by
 unfold aA;rw[List.map_map,List.map_map];apply List.ext_getElem?;intro k;rw[List.getElem?_set];by_cases h:j=k
 ·subst h
  rw[if_pos rfl];by_cases hj:j<n
  ·rw[if_pos (by simpa using hj),List.getElem?_map,List.getElem?_range hj]
   show _=some (PyData.int ((setN cr j v j:Nat):Int));rw[Du]
  ·rw[if_neg (by simpa using hj),List.getElem?_eq_none (by simp;omega)]
 ·rw[if_neg h,List.getElem?_map,List.getElem?_map]
  by_cases hk:k<n
  ·rw[List.getElem?_range hk]
   show some (PyData.int ((cr k:Nat):Int))=some (PyData.int ((setN cr j v k:Nat):Int));rw[Dw _ _ (Ne.symm h)]
  ·rw[List.getElem?_eq_none (by simp;omega)];rfl
theorem ez(a b:Nat):fS (.int (a:Int)) (.int (b:Int))=some (.int ((a ^^^ b:Nat):Int)):=by
 show some (PyData.int (Builtin.bitXor (a:Int) (b:Int)))=_;rw[MA.HW]
noncomputable def Dt(a b:Nat):List D:=(sgnP a b).map uj
theorem wk(a b:Nat):fO [.int (a:Int),.int (b:Int)]=some (.list (Dt a b)):=by
 have:=ez a b;simp[fO,cD,oB,az,this,Dt,sgnP,uj]
inductive Rk
 |pl (r:Row)
 |lk (j:Nat)
 |wf (m j:Nat)
 |wt (m j:Nat)
noncomputable def ic:Rk->D
 |.pl r=>qB r
 |.lk j=>.tuple [.str "look",.int (j:Int)]
 |.wf m j=>.tuple [.str "where",.int (m:Int),.tuple [.str "flip",.int (j:Int)]]
 |.wt m j=>.tuple [.str "where",.int (m:Int),.tuple [.str "turn",.int (j:Int),.int 4]]
def Rk.ok(n known:Nat):Rk->Prop
 |.pl r=>r.ok n
 |.lk j=>j<n
 |.wf m j=>m<known/\j<n
 |.wt m j=>m<known/\j<n
noncomputable def Rk.looks:Rk->Nat
 |.lk _=>1
 |_=>0
structure Wk where
 w:Wv
 ts:List Nat
 lk:Nat
noncomputable def dh(fm fh:Nat)(W:Wk):Rk->Wk
 |.pl r=>⟨xm fh W.w r,W.ts,W.lk⟩
 |.lk j=>⟨W.w,W.ts++[W.w.cr j ^^^ 2^(fm+W.lk)],W.lk+1⟩
 |.wf m j=>⟨⟨setN W.w.cr j (W.w.cr j ^^^ 2^(fm+m)),W.w.q,W.w.hs⟩,W.ts,W.lk⟩
 |.wt m j=>⟨⟨W.w.cr,W.w.q++sgnP (2^(fm+m)) (W.w.cr j),W.w.hs⟩,W.ts,W.lk⟩
section
variable(C P Ti Hd:List D)(fm fh lk:Int)(ws':List (Str×D))
theorem C8:(cc C P Ti Hd fm fh lk).length=7:=rfl
theorem EZ(m y z:Int)(hy:fm+m=y)(h:h7 (.int 1) (.int y)=some (.int z)):aI [insD "Ways" (cc C P Ti Hd fm fh lk),.int m]=some (.int z):=by
 simp[aI,cD,d8,az,cE,hy,h,aU,bu,b7,bf,aJ,aB,bp,ba,bJ,cp,bm,bj,cv,cq,bL,bM,aT,cu,bK]
theorem E3(j c z x:Int)(g:aI [insD "Ways" (cc C P Ti Hd fm fh lk),.int lk]=some (.int z))(h1:aW (.list C) (.int j)=some (.int c))(h2:fS (.int c) (.int z)=some (.int x))(hl:Ti.length<sizeLine):cg (cc C P Ti Hd fm fh lk) [.int j]=some (cc C P (Ti++[.int x]) Hd fm fh (lk+1)):=by
 simp[cg,fG,g6,az,mJ,xL,m6,jC,cE,kj,pU,noLs,g,h1,h2,hl,C8,aU,bu,b7,bf,aJ,aB,bp,ba,bJ,cp,bm,bj,cv,cq,bL,bM,aT,cu,bK]
theorem BS(j:Int)(g:cg (cc C P Ti Hd fm fh lk) [.int j]=some ws'):aF (cc C P Ti Hd fm fh lk) [.tuple [.str "look",.int j]]=some ws':=by
 simp[-aq,-b5,aG,aS,aF,fG,cm,az,bV,jC,cE,kj,pU,noLs,g,aU,bu,b7,bf,aJ,aB,bp,ba,bJ,cp,bm,bj,cv,cq,bL,bM,aT,cu,bK]
theorem sQ(m:Int)(R:D)(hn:pU R=true)(g:bi (cc C P Ti Hd fm fh lk) [.int m,R]=some ws'):aF (cc C P Ti Hd fm fh lk) [.tuple [.str "where",.int m,R]]=some ws':=by
 simp[-aq,-b5,aG,aS,aF,fG,cm,az,bV,jC,cE,kj,pU,noLs,hn,g,aU,bu,b7,bf,aJ,aB,bp,ba,bJ,cp,bm,bj,cv,cq,bL,bM,aT,cu,bK]
theorem At(m j z:Int)(g:aI [insD "Ways" (cc C P Ti Hd fm fh lk),.int m]=some (.int z))(g2:aR (cc C P Ti Hd fm fh lk) [.int j,.int z]=some ws'):bi (cc C P Ti Hd fm fh lk) [.int m,.tuple [.str "flip",.int j]]=some ws':=by
 simp[-aq,-b5,aG,aS,bi,fG,eJ,az,bV,m6,jC,cE,kj,pU,noLs,g,g2,aU,bu,b7,bf,aJ,aB,bp,ba,bJ,cp,bm,bj,cv,cq,bL,bM,aT,cu,bK]
theorem Ar(m j e c z:Int)(g:aI [insD "Ways" (cc C P Ti Hd fm fh lk),.int m]=some (.int z))(h1:aW (.list C) (.int j)=some (.int c))(g2:aQ (cc C P Ti Hd fm fh lk) [.int z,.int c]=some ws'):bi (cc C P Ti Hd fm fh lk) [.int m,.tuple [.str "turn",.int j,.int e]]=some ws':=by
 simp[-aq,-b5,aG,aS,bi,fG,eJ,az,bV,m6,jC,cE,kj,pU,noLs,g,h1,g2,aU,bu,b7,bf,aJ,aB,bp,ba,bJ,cp,bm,bj,cv,cq,bL,bM,aT,cu,bK]
end
noncomputable def qh(n fm fh:Nat)(W:Wk):List (Str×D):=cc (aA ((List.range n).map W.w.cr)) (W.w.q.map uj) (aA W.ts) (aA W.w.hs) (fm:Int) (fh:Int) (W.lk:Int)
theorem xH{n fm fh:Nat}{W:Wk}(a b:Nat)(hq:W.w.q.length<=10000):aQ (qh n fm fh W) [.int (a:Int),.int (b:Int)]=some (qh n fm fh ⟨⟨W.w.cr,W.w.q++sgnP a b,W.w.hs⟩,W.ts,W.lk⟩):=by
 unfold qh;rw[Dq _ _ _ _ (Dt a b) _ _ _ _ _ (wk a b) rfl (by rw[List.length_map,sizeLine_eq];show W.w.q.length+3<=_;omega),List.map_append];rfl
theorem zq{n fm fh:Nat}{W:Wk}{j:Nat}(hj:j<n)(b:Nat):aR (qh n fm fh W) [.int (j:Int),.int (b:Int)]=some (qh n fm fh ⟨⟨setN W.w.cr j (W.w.cr j ^^^ b),W.w.q,W.w.hs⟩,W.ts,W.lk⟩):=by
 unfold qh;rw[Ft _ _ _ _ _ _ _ _ _ _ _ j (bq hj) (ez (W.w.cr j) b) (f8 hj),eG]
theorem yv{n fm fh:Nat}{W:Wk}(m:Nat)(hm:fm+m<=1000):aI [insD "Ways" (qh n fm fh W),.int (m:Int)]=some (.int ((2^(fm+m):Nat):Int)):=
 EZ _ _ _ _ _ _ _ _ ((fm+m:Nat):Int) _ (by push_cast;rfl) (eO (k:=fm+m) (by omega))
theorem jg(l:List Nat)(x:Nat):aA l++[.int ((x:Nat):Int)]=aA (l++[x]):=by simp[aA]
theorem HD{n fm fh:Nat}{W:Wk}(hfm:fm<=200)(hfh:fh<=1000)(hh:W.w.hs.length<=1000)(hq:W.w.q.length<=10000)(ht:W.ts.length<=1000)(hlk:W.lk<=100){r:Rk}(hr:r.ok n W.lk):aF (qh n fm fh W) [ic r]=some (qh n fm fh (dh fm fh W r)):=by
 cases r with
 |pl r=>
  cases r with
  |swing j=>
   refine zg _ _ _ _ _ _ _ _ _ ?_;have hp:=jg W.w.hs (fh+W.w.hs.length);have g:=xH (n:=n) (fm:=fm) (fh:=fh) (W:=⟨⟨W.w.cr,W.w.q,W.w.hs++[fh+W.w.hs.length]⟩,W.ts,W.lk⟩) (W.w.cr j) (2^(fh+W.w.hs.length)) hq;unfold qh at g;dsimp only at g;rw[<-hp]at g;refine(Ay _ _ _ _ _ _ _ _ _ _ _ _ _ j rfl (by rw[bo];push_cast;rfl) (by rw[bo,sizeLine_eq];omega) (bq hr) (eO (k:=fh+W.w.hs.length) (by omega)) g (f8 hr)).trans ?_;rw[eG,hp];rfl
  |turn j e=>
   refine(BQ _ _ _ _ _ _ _ _ _ _ (bq hr.1) (by rw[List.length_map,sizeLine_eq];omega)).trans ?_;unfold qh dh xm;rw[List.map_append];rfl
  |flip j=>exact BT _ _ _ _ _ _ _ _ _ (zq (W:=W) hr 1)
  |tie i j=>exact Fq _ _ _ _ _ _ _ _ _ _ _ (bq hr.1) (zq (W:=W) hr.2.1 (W.w.cr i))
  |sign i j=>exact BR _ _ _ _ _ _ _ _ _ _ _ _ (bq hr.1) (bq hr.2.1) (xH (W:=W) (W.w.cr i) (W.w.cr j) hq)
  |cross i j=>
   refine zj _ _ _ _ _ _ _ _ _ _ ((Ca _ _ _ _ _ _ _ _ _ _ _ i j (bq hr.1) (bq hr.2.1) (f8 hr.1) (f8 hr.2.1)).trans ?_);rw[eG,eG];rfl
 |lk j=>
  have hr:j<n:=hr;refine BS _ _ _ _ _ _ _ _ _ ((E3 _ _ _ _ _ _ _ _ _ _ _ (yv (W:=W) W.lk (by omega)) (bq hr) (ez (W.w.cr j) (2^(fm+W.lk))) (by rw[bo,sizeLine_eq];omega)).trans ?_);rw[jg];unfold qh dh
  push_cast
  rfl
 |wf m j=>
  have hm:m<W.lk:=hr.1;exact sQ _ _ _ _ _ _ _ _ _ _ rfl (At _ _ _ _ _ _ _ _ _ _ _ (yv (W:=W) m (by omega)) (zq (W:=W) hr.2 _))
 |wt m j=>
  have hm:m<W.lk:=hr.1;exact sQ _ _ _ _ _ _ _ _ _ _ rfl (Ar _ _ _ _ _ _ _ _ _ _ _ _ _ (yv (W:=W) m (by omega)) (bq hr.2) (xH (W:=W) _ _ hq))
inductive OkR (n:Nat):Nat->List Rk->Prop
 |nil (k:Nat):OkR n k []
 |cons {k:Nat} {r:Rk} {rs:List Rk}:r.ok n k->OkR n (k+r.looks) rs->OkR n k (r::rs)
noncomputable def dG(fm fh:Nat)(W:Wk)(rs:List Rk):Wk:=rs.foldl (dh fm fh) W
noncomputable def lkN:List Rk->Nat
 |[]=>0
 |r::rs=>r.looks+lkN rs
theorem xp(fm fh:Nat)(W:Wk)(r:Rk):(dh fm fh W r).lk=W.lk+r.looks:=by cases r<;>rfl
theorem qk(fm fh:Nat)(W:Wk)(r:Rk):(dh fm fh W r).w.hs.length<=W.w.hs.length+1/\(dh fm fh W r).w.q.length<=W.w.q.length+3/\(dh fm fh W r).ts.length=W.ts.length+r.looks:=by
 cases r with
 |pl r=>cases r<;>simp[dh,xm,sgnP,Rk.looks]
 |_=>simp[dh,sgnP,Rk.looks]
theorem Eb(r:Rk):pU (ic r)=true:=by
 cases r with
 |pl r=>cases r<;>rfl
 |_=>rfl
theorem AM(x0 x1 x2 R:D)(ws ws':List (Str×D))(hn:pU R=true)(hk:af "go" ws=none)(g:aF ws [R]=some ws'):gm [.fz x0,.fz x1,.fz x2,.fz (insD "Ways" ws),.fz R,.un,.un]=some (.nx,[.fz x0,.fz x1,.fz x2,.fz (insD "Ways" ws'),.fz R,.un,.un]):=by
 simp[gm,bV,jC,hk,noLs,hn,g]
theorem rZ{n fm fh:Nat}(hfm:fm<=200)(hfh:fh<=1000)(x0 x1 x2:D):∀(rs:List Rk) (W:Wk) (y4:Sl),OkR n W.lk rs->W.w.hs.length+rs.length<=1000->W.w.q.length+3*rs.length<=10000->W.lk+lkN rs<=100->W.ts.length+lkN rs<=1000->∃z4,loop (gN 4) gm (rs.map ic) [.fz x0,.fz x1,.fz x2,.fz (insD "Ways" (qh n fm fh W)),y4,.un,.un]=some (.nx,[.fz x0,.fz x1,.fz x2,.fz (insD "Ways" (qh n fm fh (dG fm fh W rs))),z4,.un,.un])
 |[],W,y4,_,_,_,_,_=>⟨y4,rfl⟩
 |r::rs,W,y4,hr,h1,h2,h3,h4=>by
  cases hr with
  |cons hr hrs=>
   rw[List.length_cons]at h1 h2;obtain⟨l1,l2,l3⟩:=qk fm fh W r;have l4:=xp fm fh W r;have h3:W.lk+(r.looks+lkN rs)<=100:=h3;have h4:W.ts.length+(r.looks+lkN rs)<=1000:=h4;obtain⟨z4,e⟩:=rZ hfm hfh x0 x1 x2 rs (dh fm fh W r) (.fz (ic r)) (by rw[l4];exact hrs) (by omega) (by omega) (by omega) (by omega);refine⟨z4,?_⟩;have st:=AM x0 x1 x2 (ic r) (qh n fm fh W) _ (Eb r) (Ha _ _ _ _ _ _ _) (HD hfm hfh (by omega) (by omega) (by omega) (by omega) hr);rw[List.map_cons,dU (δ1:=[.fz x0,.fz x1,.fz x2,.fz (insD "Ways" (qh n fm fh W)),.fz (ic r),.un,.un]) (by rfl) st];exact e
theorem EU:(("carried":Str) = "pairs")=False:=eq_false (by decide)
theorem ET:(("carried":Str) = "ties")=False:=eq_false (by decide)
theorem ES:(("carried":Str) = "hidden")=False:=eq_false (by decide)
theorem ER:(("carried":Str) = "first_mark")=False:=eq_false (by decide)
theorem EQ:(("carried":Str) = "first_hidden")=False:=eq_false (by decide)
theorem EN:(("carried":Str) = "looked")=False:=eq_false (by decide)
theorem EM:(("pairs":Str) = "carried")=False:=eq_false (by decide)
theorem EL:(("pairs":Str) = "ties")=False:=eq_false (by decide)
theorem EK:(("pairs":Str) = "hidden")=False:=eq_false (by decide)
theorem EJ:(("pairs":Str) = "first_mark")=False:=eq_false (by decide)
theorem EI:(("pairs":Str) = "first_hidden")=False:=eq_false (by decide)
theorem EH:(("pairs":Str) = "looked")=False:=eq_false (by decide)
theorem EG:(("ties":Str) = "carried")=False:=eq_false (by decide)
theorem EF:(("ties":Str) = "pairs")=False:=eq_false (by decide)
theorem EE:(("ties":Str) = "hidden")=False:=eq_false (by decide)
theorem ED:(("ties":Str) = "first_mark")=False:=eq_false (by decide)
theorem EC:(("ties":Str) = "first_hidden")=False:=eq_false (by decide)
theorem EB:(("ties":Str) = "looked")=False:=eq_false (by decide)
theorem EA:(("hidden":Str) = "carried")=False:=eq_false (by decide)
theorem Ez:(("hidden":Str) = "pairs")=False:=eq_false (by decide)
theorem Ey:(("hidden":Str) = "ties")=False:=eq_false (by decide)
theorem Ex:(("hidden":Str) = "first_mark")=False:=eq_false (by decide)
theorem Ew:(("hidden":Str) = "first_hidden")=False:=eq_false (by decide)
theorem Ev:(("hidden":Str) = "looked")=False:=eq_false (by decide)
theorem Eu:(("first_mark":Str) = "carried")=False:=eq_false (by decide)
theorem Et:(("first_mark":Str) = "pairs")=False:=eq_false (by decide)
theorem Es:(("first_mark":Str) = "ties")=False:=eq_false (by decide)
theorem Er:(("first_mark":Str) = "hidden")=False:=eq_false (by decide)
theorem Ep:(("first_mark":Str) = "first_hidden")=False:=eq_false (by decide)
theorem Eo:(("first_mark":Str) = "looked")=False:=eq_false (by decide)
theorem En:(("first_hidden":Str) = "carried")=False:=eq_false (by decide)
theorem Em:(("first_hidden":Str) = "pairs")=False:=eq_false (by decide)
theorem El:(("first_hidden":Str) = "ties")=False:=eq_false (by decide)
theorem Ek:(("first_hidden":Str) = "hidden")=False:=eq_false (by decide)
theorem Ej:(("first_hidden":Str) = "first_mark")=False:=eq_false (by decide)
theorem Ei:(("first_hidden":Str) = "looked")=False:=eq_false (by decide)
theorem Eh:(("looked":Str) = "carried")=False:=eq_false (by decide)
theorem Eg:(("looked":Str) = "pairs")=False:=eq_false (by decide)
theorem Ef:(("looked":Str) = "ties")=False:=eq_false (by decide)
theorem Ee:(("looked":Str) = "hidden")=False:=eq_false (by decide)
theorem Ed:(("looked":Str) = "first_mark")=False:=eq_false (by decide)
theorem Ec:(("looked":Str) = "first_hidden")=False:=eq_false (by decide)
theorem Fp(L:List D)(w l m:Int)(p:dO [.fz (insD "Ways" []),.fz (.int w),.fz (.int l)]=some (.list L))(hL:∀x∈L,kj x=true)(h:nc (.int 2) (.int w)=some (.int m)):fY [.int w,.int l]=some (cc L [] [] [] (m+1) (m+1+l) 0):=by
 simp[fY,DB,d9,az,pP,su,jC,af,cM,cc,p,h,if_pos hL,yl,yy,EU,ET,ES,ER,EQ,EN,EM,EL,EK,EJ,EI,EH,EG,EF,EE,ED,EC,EB,EA,Ez,Ey,Ex,Ew,Ev,Eu,Et,Es,Er,Ep,Eo,En,Em,El,Ek,Ej,Ei,Eh,Eg,Ef,Ee,Ed,Ec]
theorem Hz(w l:Int){n:Nat}(hn:n<=100)(r:fH [.int w]=some ((List.range n).map fun k:Nat=>PyData.int (0+(k:Int)))):dO [.fz (insD "Ways" []),.fz (.int w),.fz (.int l)]=some (.list ((List.range n).map fun k=>PyData.int ((2^(1+k):Nat):Int))):=by
 refine mn (by simp only[oL,ae,oV,aE,List.getElem?_cons_succ,List.getElem?_cons_zero,Option.bind_some];exact r) (by omega) fun k hk=>?_
 have:=eO (k:=1+k) (by omega)
 push_cast at this
 simp[this]
theorem ma{a:Nat}(b:Nat)(ha:a<2^60):nc (.int (a:Int)) (.int (b:Int))=some (.int ((a*b:Nat):Int)):=by
 have:IntMulOk (a:Int) (b:Int):=.of_left (Nat.le_trans (MA.vW (m:=60) (by rw[Int.natAbs_natCast];exact ha)) (by decide));rw[yu this];congr 2
noncomputable def W0:Wv:=⟨fun j=>2^(1+j),[],[]⟩
noncomputable def K0:Wk:=⟨W0,[],0⟩
theorem BO{n:Nat}(l:Nat)(hn:n<=100)(r:fH [.int (n:Int)]=some ((List.range n).map fun k:Nat=>PyData.int (0+(k:Int)))):fY [.int (n:Int),.int (l:Int)]=some (qh n (2*n+1) (2*n+1+l) K0):=by
 refine(Fp _ _ _ ((2*n:Nat):Int) (Hz _ _ hn r) (fun x hx=>?_) (ma n (a:=2) (by decide))).trans ?_
 ·obtain⟨k,_,rfl⟩:=List.mem_map.mp hx
  rfl
 ·unfold qh aA
  rw[List.map_map]
  push_cast
  rfl
noncomputable def iz(n:Nat)(cr:Nat->Nat):List Nat:=(List.range n).map fun j=>cr j ^^^ 2^(n+1+j)
theorem Fx{n:Nat}(hn:n<=100)(cr:Nat->Nat)(P Ti Hd:List D)(fm fh lk w:Int)(hw:(n:Int)=w){k:Nat}(hk:k<n):(o2 (o2 (o1 (oV 2) (cE "Ways" "carried")) (oV 0) aW) (o2 (oC (.int 1)) (o2 (o2 (oV 1) (oC (.int 1)) br) (oV 0) br) h7) fS) [.fz (.int (k:Int)),.fz (.int w),.fz (insD "Ways" (cc (aA ((List.range n).map cr)) P Ti Hd fm fh lk))]=some (.int ((cr k ^^^ 2^(n+1+k):Nat):Int)):=by
 subst hw;have h1:=eO (k:=n+1+k) (by omega);have h2:=bq (cr:=cr) hk;have h3:=ez (cr k) (2^(n+1+k))
 push_cast at h1 h3
 simp[cE,aU,h1,h2,h3]
theorem B6{n fm fh:Nat}(hn:n<=100)(W:Wk)(w:Int)(x0 x2:D)(y4:Sl)(hw:(n:Int)=w)(r:fH [.int w]=some ((List.range n).map fun k:Nat=>PyData.int (0+(k:Int)))):kC [.fz x0,.fz (.int w),.fz x2,.fz (insD "Ways" (qh n fm fh W)),y4,.un,.un]=some (.list (aA (iz n W.w.cr))):=by
 have e:aA (iz n W.w.cr)=(List.range n).map fun j=>PyData.int ((W.w.cr j ^^^ 2^(n+1+j):Nat):Int):=by unfold aA iz;rw[List.map_map];rfl
 rw[e];exact mn (by simp only[oL,ae,oV,aE,List.getElem?_cons_succ,List.getElem?_cons_zero,Option.bind_some];exact r) (by omega) fun k hk=>Fx hn W.w.cr _ _ _ _ _ _ w hw hk
theorem yW(r:Rk):∃s:Str,aW (ic r) (.int 0)=some (.str s)/\bT (.str s) (.str "look")=some (.bool (r.looks==1)):=by
 cases r with
 |pl r=>cases r<;>exact⟨_,rfl,by simp[Rk.looks]⟩
 |lk j=>exact⟨_,rfl,by simp[Rk.looks]⟩
 |wf m j=>exact⟨_,rfl,by simp[Rk.looks]⟩
 |wt m j=>exact⟨_,rfl,by simp[Rk.looks]⟩
theorem qS:∀rs:List Rk,(rs.filter fun r=>r.looks==1).length=lkN rs
 |[]=>rfl
 |r::rs=>by
  have ih:=qS rs;rw[List.filter_cons];cases r<;>simp[Rk.looks,lkN]at ih ⊢<;>omega
theorem Bq(A:D)(L:List D)(p:fW [.fz A]=some (.list L)):cY [A]=some (.int (L.length:Int)):=by
 simp[cY,cD,jn,az,p]
noncomputable def oa(n:Nat)(rs:List Rk):D:=.tuple [.int (n:Int),.tuple (rs.map ic)]
theorem yz(n:Nat)(rs:List Rk)(hl:rs.length<=1000):cY [oa n rs]=some (.int (lkN rs:Int)):=by
 have p:fW [.fz (oa n rs)]=some (.list ((rs.filter fun r=>r.looks==1).map ic)):=by
  unfold fW;have i1:aW (oa n rs) (.int 1)=some (.tuple (rs.map ic)):=rfl;refine d6 (h:=ic) (k:=ic) (xs:=rs) (by simp[i1]) (by omega) (fun x _=>?_) fun x _ _=>by simp
  obtain⟨s,e1,e2⟩:=yW x;simp[e1,e2]
 rw[Bq _ _ p,List.length_map,qS]
theorem GG(RL C P Ti Hd E R Ts TE:List D)(ws0:List (Str×D))(w l T fm fh lk n:Int)(z4:Sl)(hl:(Hd.length:Int)=n)(hH:Hd.length<=1000)(hTE:br (.list Ti) (.list E)=some (.list TE))(gl:cY [.tuple [.int w,.tuple RL]]=some (.int l))(gi:fY [.int w,.int l]=some ws0)
  (lp:loop (gN 4) gm RL [.fz (.tuple [.int w,.tuple RL]),.fz (.int w),.fz (.int l),.fz (insD "Ways" ws0),.un,.un,.un]=some (.nx,[.fz (.tuple [.int w,.tuple RL]),.fz (.int w),.fz (.int l),.fz (insD "Ways" (cc C P Ti Hd fm fh lk)),z4,.un,.un]))
  (pe:kC [.fz (.tuple [.int w,.tuple RL]),.fz (.int w),.fz (.int l),.fz (insD "Ways" (cc C P Ti Hd fm fh lk)),z4,.un,.un]=some (.list E))
  (ga:cG [.int 0,.tuple [],.list P]=some (.tuple [.int T,.tuple R])) (gt:bc [.list TE]=some (.tuple Ts)) :
  dl [.tuple [.int w,.tuple RL]]=some (.tuple [.tuple [.int w,.int l],.int n,.int T,.tuple R,.tuple Ts,.tuple Hd]):=by
 have hH':Hd.length<=sizeLine:=by rw[sizeLine_eq];omega
 simp[-aq,-b5,aG,aS,dl,cD,oA,az,Dy,uk,xO,jC,cE,aU,bu,b7,bf,gl,gi,lp,pe,ga,gt,hl,hTE,hH'];rfl
theorem CD(R:As):R.map pD=(rW R).map uj:=by unfold rW;rw[List.map_map];rfl
theorem qj(fm fh:Nat):∀(rs:List Rk) (W:Wk),(dG fm fh W rs).w.hs.length<=W.w.hs.length+rs.length/\(dG fm fh W rs).w.q.length<=W.w.q.length+3*rs.length/\(dG fm fh W rs).ts.length=W.ts.length+lkN rs
 |[],W=>⟨Nat.le_refl _,Nat.le_refl _,rfl⟩
 |r::rs,W=>by
  obtain⟨a1,a2,a3⟩:=qk fm fh W r;obtain⟨b1,b2,b3⟩:=qj fm fh rs (dh fm fh W r);show(dG fm fh (dh fm fh W r) rs).w.hs.length<=_/\(dG fm fh (dh fm fh W r) rs).w.q.length<=_/\(dG fm fh (dh fm fh W r) rs).ts.length=W.ts.length+(r.looks+lkN rs);rw[List.length_cons];omega
theorem v9{n:Nat}(hn:n<=6)(rs:List Rk)(hr:OkR n 0 rs)(hl:rs.length<=64)(hk:lkN rs<=6)(W:Wk)(hW:dG (2*n+1) (2*n+1+lkN rs) K0 rs=W):∃(c:Nat) (R:As) (ss:List Nat),c<8/\RR R (fun k=>kv k W.w.q)/\(c:Int)=tv W.w.q%8/\TT ss (W.ts++iz n W.w.cr)/\ss.length<=100 /\
   dl [oa n rs]=some (gJ n (lkN rs) (W.w.hs.length:Int) c (rW R) ss W.w.hs):=by
 obtain⟨b1,b2,b3⟩:=qj (2*n+1) (2*n+1+lkN rs) rs K0;rw[hW]at b1 b2 b3;have h0:K0.w.hs.length=0:=rfl;have h1:K0.w.q.length=0:=rfl;have h2:K0.ts.length=0:=rfl;have h3:K0.lk=0:=rfl;obtain⟨z4,lp⟩:=rZ (n:=n) (fm:=2*n+1) (fh:=2*n+1+lkN rs) (by omega) (by omega) (oa n rs) (.int (n:Int)) (.int (lkN rs:Int)) rs K0 .un hr (by omega) (by omega) (by omega) (by omega);rw[hW]at lp;obtain⟨R,rr,rl,ga⟩:=rG 0 [] List.nodup_nil (fun k=>(by decide:(0:Nat)<8)) W.w.q (by show 0+_<=900;omega) (fun z=>nomatch z)
 obtain⟨ss,tt,sl,gt,_⟩:=Ax (W.ts++iz n W.w.cr) (by simp[iz];omega);have gA:=ga (.tuple []) rfl;have hT:br (.list (aA W.ts)) (.list (aA (iz n W.w.cr)))=some (.list (aA (W.ts++iz n W.w.cr))):=by
  rw[xg (by rw[bo,bo];simp[iz];omega)];unfold aA;rw[List.map_append]
 refine⟨(tv W.w.q%8).toNat,R,ss,by omega,⟨rr.pk,fun k hk=>?_,rr.nz⟩,by omega,tt,by
  have:(W.ts++iz n W.w.cr).length=W.ts.length+n:=by simp[iz]
  omega,?_⟩
 ·have:=rr.val k hk
  rw[this];show((0:Int)+_)%8=_;rw[Int.zero_add]
 ·have r:=DD (n:=n) (by omega)
  have e:=GG (rs.map ic) _ _ _ _ _ _ _ _ _ (n:Int) (lkN rs:Int) _ _ _ _ (W.w.hs.length:Int) z4 (by rw[bo]) (by rw[bo];omega) hT (yz n rs (by omega)) (BO (lkN rs) (by omega) r) lp (B6 (by omega) _ _ _ _ _ rfl r) gA gt;rw[CD]at e;refine e.trans ?_;unfold gJ;have:((tv W.w.q%8).toNat:Int)=(0+tv W.w.q)%8:=by omega
  rw[this]
section
variable(c w T j s e:Int)(hT:bt [.int c]=some (.int T))(hj:df (.int (T/6)) (.int w)=some (.int j))(he:1+T/300%7=e)
include hT hj he
theorem uf(hw:w=1)(R:D)(hR:hX [PyData.tuple [.str "swing",.int 0],.tuple [.str "turn",.int 0,.int e],.tuple [.str "flip",.int 0]] (T%3)=some R):aK [.int c,.int w]=some R:=by
 subst hw;simp[-aq,-b5,aG,aS,aK,cD,cj,az,hT,hj,he,hR]
variable(hw:¬w=1)(t:Int)(ht:df (.int (T/60)) (.int (w-1))=some (.int t))(hs:df (.int (j+1+t)) (.int w)=some (.int s))
include hw ht hs
theorem xT(h:T%6=0):aK [.int c,.int w]=some (.tuple [.str "swing",.int j]):=by
 have hw':(w==1)=false:=by simpa using hw
 simp[-aq,-b5,aG,aS,aK,cD,cj,az,hT,hj,he,hw',ht,hs,h]
theorem AU(h:T%6=1):aK [.int c,.int w]=some (.tuple [.str "turn",.int j,.int e]):=by
 have hw':(w==1)=false:=by simpa using hw
 simp[-aq,-b5,aG,aS,aK,cD,cj,az,hT,hj,he,hw',ht,hs,h]
theorem AW(h:T%6=2):aK [.int c,.int w]=some (.tuple [.str "flip",.int j]):=by
 have hw':(w==1)=false:=by simpa using hw
 simp[-aq,-b5,aG,aS,aK,cD,cj,az,hT,hj,he,hw',ht,hs,h]
theorem ue(h:3<=T%6)(x:D)(hx:hX [PyData.str "tie",.str "sign",.str "cross"] (T%6-3)=some x):aK [.int c,.int w]=some (.tuple [x,.int j,.int s]):=by
 have hw':(w==1)=false:=by simpa using hw
 have h0:(T%6==0)=false:=by simp;omega
 have h1:(T%6==1)=false:=by simp;omega
 have h2:(T%6==2)=false:=by simp;omega
 simp[-aq,-b5,aG,aS,aK,cD,cj,az,hT,hj,he,hw',ht,hs,h0,h1,h2,hx]
end
theorem GP(c:Int)(w:Nat)(hw:1<=w):∃r:Row,r.ok w/\aK [.int c,.int w]=some (qB r):=by
 obtain⟨T,hT⟩:=pX c;have hw0:(0:Int)<w:=by omega
 have a1:=Int.emod_nonneg ((T:Int)/6) (show(w:Int)≠0 by omega);have a2:=Int.emod_lt_of_pos ((T:Int)/6) hw0;obtain⟨j,hj⟩:∃j:Nat,(T:Int)/6%w=j:=⟨((T:Int)/6%w).toNat,by omega⟩;have ej:=jR (i:=(T:Int)/6) hw0;rw[hj]at ej a1 a2;obtain⟨e,he⟩:∃e:Nat,1+(T:Int)/300%7=e:=⟨(1+(T:Int)/300%7).toNat,by omega⟩;by_cases h1:w=1
 ·have:(T:Int)%3=0\/(T:Int)%3=1\/(T:Int)%3=2:=by omega
  have h1':(w:Int)=1:=by omega
  rcases this with z|z|z
  ·exact⟨.swing 0,(show 0<w by omega),uf c w T j e hT ej he h1' _ (by rw[z];exact J5 _ _)⟩
  ·exact⟨.turn 0 e,(show 0<w/\1<=e/\e<=7 by omega),uf c w T j e hT ej he h1' _ (by rw[z];exact J4 _ _ _)⟩
  ·exact⟨.flip 0,(show 0<w by omega),uf c w T j e hT ej he h1' _ (by rw[z];exact KH _ _ _ _)⟩
 have h1':¬(w:Int)=1:=by omega
 have b1:=Int.emod_nonneg ((T:Int)/60) (show(w:Int)-1≠0 by omega);have b2:=Int.emod_lt_of_pos ((T:Int)/60) (show 0<(w:Int)-1 by omega);have et:=jR (i:=(T:Int)/60) (show 0<(w:Int)-1 by omega);generalize (T:Int)/60%((w:Int)-1)=t at *;have c1:=Int.emod_nonneg ((j:Int)+1+t) (show(w:Int)≠0 by omega);have c2:=Int.emod_lt_of_pos ((j:Int)+1+t) hw0;have ei:=jR (i:=(j:Int)+1+t) hw0;obtain⟨i,hi⟩:∃i:Nat,((j:Int)+1+t)%w=i:=⟨(((j:Int)+1+t)%w).toNat,by omega⟩;have hij:j≠i:=fun z=>by
  by_cases hh:(j:Int)+1+t<w
  ·rw[Int.emod_eq_of_lt (by omega) hh]at hi;omega
  ·have:((j:Int)+1+t)%w=(j:Int)+1+t-w:=by
    rw[<-Int.sub_emod_right,Int.emod_eq_of_lt (by omega) (by omega)]
   omega
 rw[hi]at ei c1 c2;have k:j<w/\i<w/\j≠i:=⟨by omega,by omega,hij⟩;have:(T:Int)%6=0\/(T:Int)%6=1\/(T:Int)%6=2\/(T:Int)%6=3\/(T:Int)%6=4\/(T:Int)%6=5:=by omega
 rcases this with z|z|z|z|z|z
 ·exact⟨.swing j,(show j<w by omega),xT c w T j i e hT ej he h1' t et ei z⟩
 ·exact⟨.turn j e,(show j<w/\1<=e/\e<=7 by omega),AU c w T j i e hT ej he h1' t et ei z⟩
 ·exact⟨.flip j,(show j<w by omega),AW c w T j i e hT ej he h1' t et ei z⟩
 ·exact⟨.tie j i,k,ue c w T j i e hT ej he h1' t et ei (by omega) _ (by rw[z];exact J5 _ _)⟩
 ·exact⟨.sign j i,k,ue c w T j i e hT ej he h1' t et ei (by omega) _ (by rw[z];exact J4 _ _ _)⟩
 ·exact⟨.cross j i,k,ue c w T j i e hT ej he h1' t et ei (by omega) _ (by rw[z];exact KH _ _ _ _)⟩
section
variable(S:D)(w s L k c T t:Int)(R:D)(ds:List D)(y7 y8 y9:Sl)(hl:ds.length<sizeLine)(g1:aK [.int c,.int w]=some R)(g2:bt [.int c]=some (.int T))(ht:T/3000=t)
include hl g1 g2 ht
theorem JC(j:Int)(h1:t%6=1)(hk:k<L)(hj:df (.int (t/6)) (.int w)=some (.int j)):ai [.fz S,.fz (.int w),.fz (.int s),.fz (.int L),.ow ds,.fz (.int k),.fz (.int c),y7,y8,y9]=some (.nx,[.fz S,.fz (.int w),.fz (.int s),.fz (.int L),.ow (ds++[.tuple [.str "look",.int j]]),.fz (.int (k+1)),.fz (.int c),.fz (.tuple [.str "look",.int j]),.fz (.int t),y9]):=by
 simp[-aq,-b5,aG,aS,ai,g1,g2,ht,hl,h1,hk,hj,gK]
theorem Hj(j m:Int)(Q:D)(h2:t%6=2)(hk:0<k)(hj:df (.int (t/6)) (.int w)=some (.int j))(hm:df (.int (t/24)) (.int k)=some (.int m))(hQ:hX [PyData.tuple [.str "flip",.int j],.tuple [.str "turn",.int j,.int 4]] (t/12%2)=some Q):ai [.fz S,.fz (.int w),.fz (.int s),.fz (.int L),.ow ds,.fz (.int k),.fz (.int c),y7,y8,y9]=some (.nx,[.fz S,.fz (.int w),.fz (.int s),.fz (.int L),.ow (ds++[.tuple [.str "where",.int m,Q]]),.fz (.int k),.fz (.int c),.fz (.tuple [.str "where",.int m,Q]),.fz (.int t),.fz (.int j)]):=by
 have n1:¬t%6=1:=by omega
 have hQ':aW (.list [PyData.tuple [.str "flip",.int j],.tuple [.str "turn",.int j,.int 4]]) (.int (t/12%2))=some Q:=hQ;simp[-aq,-b5,aG,aS,ai,g1,g2,ht,hl,h2,n1,hk,hj,hm,hQ,hQ',gK]
variable(no1:¬(t%6=1/\k<L))(no2:¬(t%6=2/\0<k))
include no1 no2
theorem JA(q:D)(r0:aW R (.int 0)=some q)(h:bT q (.str "swing")=some (.bool false)):ai [.fz S,.fz (.int w),.fz (.int s),.fz (.int L),.ow ds,.fz (.int k),.fz (.int c),y7,y8,y9]=some (.nx,[.fz S,.fz (.int w),.fz (.int s),.fz (.int L),.ow (ds++[R]),.fz (.int k),.fz (.int c),.fz R,.fz (.int t),y9]):=by
 by_cases h1:t%6=1
 ·have n1:¬k<L:=fun z=>no1 ⟨h1,z⟩
  simp[-aq,-b5,aG,aS,ai,g1,g2,ht,r0,h,hl,h1,n1,gK]
 ·by_cases h2:t%6=2
  ·have n2:¬ 0<k:=fun z=>no2 ⟨h2,z⟩
   simp[-aq,-b5,aG,aS,ai,g1,g2,ht,r0,h,hl,h1,h2,n2,gK]
  ·simp[-aq,-b5,aG,aS,ai,g1,g2,ht,r0,h,hl,h1,h2,gK]
theorem Jz(j:D)(hR:R=.tuple [.str "swing",j])(h0:0<=s-1):ai [.fz S,.fz (.int w),.fz (.int s),.fz (.int L),.ow ds,.fz (.int k),.fz (.int c),y7,y8,y9]=some (.nx,[.fz S,.fz (.int w),.fz (.int (s-1)),.fz (.int L),.ow (ds++[R]),.fz (.int k),.fz (.int c),.fz R,.fz (.int t),y9]):=by
 have h0':¬s-1<0:=by omega
 subst hR;by_cases h1:t%6=1
 ·have n1:¬k<L:=fun z=>no1 ⟨h1,z⟩
  simp[-aq,-b5,aG,aS,ai,g1,g2,ht,hl,h1,n1,gK,h0']
 ·by_cases h2:t%6=2
  ·have n2:¬ 0<k:=fun z=>no2 ⟨h2,z⟩
   simp[-aq,-b5,aG,aS,ai,g1,g2,ht,hl,h1,h2,n2,gK,h0']
  ·simp[-aq,-b5,aG,aS,ai,g1,g2,ht,hl,h1,h2,gK,h0']
theorem JB(j:D)(hR:R=.tuple [.str "swing",j])(h0:s-1<0):ai [.fz S,.fz (.int w),.fz (.int s),.fz (.int L),.ow ds,.fz (.int k),.fz (.int c),y7,y8,y9]=some (.nx,[.fz S,.fz (.int w),.fz (.int (s-1)),.fz (.int L),.ow (ds++[.tuple [.str "turn",j,.int (1+t%7)]]),.fz (.int k),.fz (.int c),.fz (.tuple [.str "turn",j,.int (1+t%7)]),.fz (.int t),y9]):=by
 subst hR;by_cases h1:t%6=1
 ·have n1:¬k<L:=fun z=>no1 ⟨h1,z⟩
  simp[-aq,-b5,aG,aS,ai,g1,g2,ht,hl,h1,n1,gK,h0]
 ·by_cases h2:t%6=2
  ·have n2:¬ 0<k:=fun z=>no2 ⟨h2,z⟩
   simp[-aq,-b5,aG,aS,ai,g1,g2,ht,hl,h1,h2,n2,gK,h0]
  ·simp[-aq,-b5,aG,aS,ai,g1,g2,ht,hl,h1,h2,gK,h0]
end
theorem md(a:Int){n:Nat}(hn:0<n):∃j:Nat,j<n/\df (.int a) (.int (n:Int))=some (.int (j:Int)):=by
 have hk:=jR (i:=a) (show(0:Int)<(n:Int) by omega);have a1:=Int.emod_nonneg a (show(n:Int)≠0 by omega);have a2:=Int.emod_lt_of_pos a (show(0:Int)<(n:Int) by omega);obtain⟨k,ek⟩:∃k:Nat,a%(n:Int)=k:=⟨_,(Int.toNat_of_nonneg a1).symm⟩;rw[ek]at hk a2;exact⟨k,by omega,hk⟩
theorem Bp{n:Nat}(hn:1<=n)(S:D)(s c:Int)(L k:Nat)(ds:List D)(y7 y8 y9:Sl)(hl:ds.length<sizeLine):∃(r:Rk) (s':Int) (z7 z8 z9:Sl),r.ok n k/\(r.looks=1->k<L) /\
  ai [.fz S,.fz (.int (n:Int)),.fz (.int s),.fz (.int (L:Int)),.ow ds,.fz (.int (k:Int)),.fz (.int c),y7,y8,y9]=some (.nx,[.fz S,.fz (.int (n:Int)),.fz (.int s'),.fz (.int (L:Int)),.ow (ds++[ic r]),.fz (.int ((k+r.looks:Nat):Int)),.fz (.int c),z7,z8,z9]):=by
 obtain⟨r,hr,g1⟩:=GP c n hn;obtain⟨T,g2⟩:=pX c;obtain⟨t,ht⟩:∃t:Int,(T:Int)/3000=t:=⟨_,rfl⟩;by_cases y1:t%6=1/\(k:Int)<(L:Int)
 ·obtain⟨j,hj,ej⟩:=md (t/6) (n:=n) (by omega)
  exact⟨.lk j,s,_,_,_,hj,fun _=>by omega,JC S n s L k c T t (qB r) ds y7 y8 y9 hl g1 g2 ht j y1.1 y1.2 ej⟩
 by_cases y2:t%6=2/\0<(k:Int)
 ·obtain⟨j,hj,ej⟩:=md (t/6) (n:=n) (by omega)
  obtain⟨m,hm,em⟩:=md (t/24) (n:=k) (by omega);have c2:t/12%2=0\/t/12%2=1:=by omega
  rcases c2 with c2|c2
  ·exact⟨.wf m j,s,_,_,_,⟨hm,hj⟩,by simp[Rk.looks],Hj S n s L k c T t (qB r) ds y7 y8 y9 hl g1 g2 ht j m _ y2.1 y2.2 ej em (by rw[c2];exact J5 _ _)⟩
  ·exact⟨.wt m j,s,_,_,_,⟨hm,hj⟩,by simp[Rk.looks],Hj S n s L k c T t (qB r) ds y7 y8 y9 hl g1 g2 ht j m _ y2.1 y2.2 ej em (by rw[c2];exact J4 _ _ _)⟩
 have oth:∀q:D,aW (qB r) (.int 0)=some q->bT q (.str "swing")=some (.bool false)->∃(r:Rk) (s':Int) (z7 z8 z9:Sl),r.ok n k/\(r.looks=1->k<L) /\
  ai [.fz S,.fz (.int (n:Int)),.fz (.int s),.fz (.int (L:Int)),.ow ds,.fz (.int (k:Int)),.fz (.int c),y7,y8,y9]=some (.nx,[.fz S,.fz (.int (n:Int)),.fz (.int s'),.fz (.int (L:Int)),.ow (ds++[ic r]),.fz (.int ((k+r.looks:Nat):Int)),.fz (.int c),z7,z8,z9]):=fun q r0 h=>
  ⟨.pl r,s,_,_,_,hr,by simp[Rk.looks],JA S n s L k c T t (qB r) ds y7 y8 y9 hl g1 g2 ht y1 y2 q r0 h⟩
 cases r with
 |swing j=>
  by_cases h0:0<=s-1
  ·exact⟨.pl (.swing j),s-1,_,_,_,hr,by simp[Rk.looks],Jz S n s L k c T t (qB (.swing j)) ds y7 y8 y9 hl g1 g2 ht y1 y2 (.int j) rfl h0⟩
  ·have e:=JB S n s L k c T t (qB (.swing j)) ds y7 y8 y9 hl g1 g2 ht y1 y2 (.int j) rfl (by omega)
   have ee:ic (.pl (.turn j (1+t%7).toNat))=.tuple [.str "turn",.int j,.int (1+t%7)]:=by
    show PyData.tuple [.str "turn",.int j,.int (((1+t%7).toNat:Nat):Int)]=_;rw[Int.toNat_of_nonneg (by omega)]
   exact⟨.pl (.turn j (1+t%7).toNat),s-1,.fz (.tuple [.str "turn",.int j,.int (1+t%7)]),.fz (.int t),y9,(show _/\_ from ⟨hr,by omega,by omega⟩),by simp[Rk.looks],by rw[ee];exact e⟩
 |turn j e=>exact oth (.str "turn") rfl (by simp)
 |flip j=>exact oth (.str "flip") rfl (by simp)
 |tie i j=>exact oth (.str "tie") rfl (by simp)
 |sign i j=>exact oth (.str "sign") rfl (by simp)
 |cross i j=>exact oth (.str "cross") rfl (by simp)
theorem vp{n:Nat}(hn:1<=n)(L:Nat)(S:D):∀(cs:List Int) (s:Int) (k:Nat) (ds:List D) (y6 y7 y8 y9:Sl),k<=L->ds.length+cs.length<1000->∃(rs:List Rk) (s':Int) (k':Nat) (z6 z7 z8 z9:Sl),rs.length=cs.length/\OkR n k rs/\k+lkN rs<=L /\
  loop (gN 6) ai (cs.map .int) [.fz S,.fz (.int (n:Int)),.fz (.int s),.fz (.int (L:Int)),.ow ds,.fz (.int (k:Int)),y6,y7,y8,y9]=some (.nx,[.fz S,.fz (.int (n:Int)),.fz (.int s'),.fz (.int (L:Int)),.ow (ds++rs.map ic),.fz (.int (k':Int)),z6,z7,z8,z9])
 |[],s,k,ds,y6,y7,y8,y9,hk,_=>⟨[],s,k,y6,y7,y8,y9,rfl,.nil k,hk,by rw[List.map_nil,List.map_nil,List.append_nil];rfl⟩
 |c::cs,s,k,ds,y6,y7,y8,y9,hk,h=>by
  rw[List.length_cons]at h;obtain⟨r,s1,z7,z8,z9,o,lk,e⟩:=Bp hn S s c L k ds y7 y8 y9 (by rw[sizeLine_eq];omega);have l1:r.looks<=1:=by cases r<;>simp[Rk.looks]
  obtain⟨rs,s2,k2,w6,w7,w8,w9,l,os',m2,e2⟩:=vp hn L S cs s1 (k+r.looks) (ds++[ic r]) (.fz (.int c)) z7 z8 z9 (by
   by_cases z:r.looks=1
   ·have:=lk z;omega
   ·omega) (by rw[List.length_append,List.length_singleton];omega)
  refine⟨r::rs,s2,k2,w6,w7,w8,w9,by rw[List.length_cons,List.length_cons,l],.cons o os',by show k+(r.looks+lkN rs)<=L;omega,?_⟩;rw[List.map_cons,dU (δ1:=[.fz S,.fz (.int (n:Int)),.fz (.int s),.fz (.int (L:Int)),.ow ds,.fz (.int (k:Int)),.fz (.int c),y7,y8,y9]) (by simp) e,e2,List.append_assoc];rfl
theorem E2(A:D)(L L':List D)(w s s' K k':Int)(z6 z7 z8 z9:Sl)(hA:dB A=some L)(hl:L'.length<=sizeLine)(lp:loop (gN 6) ai L [.fz A,.fz (.int w),.fz (.int s),.fz (.int K),.ow [],.fz (.int 0),.un,.un,.un,.un]=some (.nx,[.fz A,.fz (.int w),.fz (.int s'),.fz (.int K),.ow L',.fz (.int k'),z6,z7,z8,z9])):bC [A,.int w,.int s,.int K]=some (.tuple L'):=by
 simp[-aq,-b5,aG,aS,bC,cD,fQ,az,hA,lp,B8,hl]
theorem AR{n:Nat}(hn:1<=n)(cs:List Int)(hc:cs.length<900)(s:Int)(L:Nat):∃rs:List Rk,rs.length=cs.length/\OkR n 0 rs/\lkN rs<=L/\bC [.list (cs.map .int),.int (n:Int),.int s,.int (L:Int)]=some (.tuple (rs.map ic)):=by
 obtain⟨rs,s',k',z6,z7,z8,z9,l,o,m,e⟩:=vp hn L (.list (cs.map .int)) cs s 0 [] .un .un .un .un (Nat.zero_le _) (by show 0+cs.length<1000;omega);exact⟨rs,l,o,by omega,E2 _ _ _ _ _ s' _ k' z6 z7 z8 z9 rfl (by rw[List.length_map,l,sizeLine_eq];omega) e⟩
theorem Jy(es e1 e2 e3:List (ao×D))(a b x:Int)(g1:aY es [.int a,.int 2]=some e1)(g2:aY e1 [.int b,.int 2]=some e2)(hx:fS (.int a) (.int b)=some (.int x))(g3:aY e2 [.int x,.int 6]=some e3):cZ [.od es,.fz (.int a),.fz (.int b)]=some (.nx,[.od e3,.fz (.int a),.fz (.int b)]):=by
 simp[-aq,-b5,aG,aS,cZ,ip,g1,g2,hx,g3]
theorem Jx(es e3:List (ao×D))(a b:Int)(h:cZ [.od es,.fz (.int a),.fz (.int b)]=some (.nx,[.od e3,.fz (.int a),.fz (.int b)])):bb es [.int a,.int b]=some e3:=by
 show oY iF 3 cZ es [.int a,.int b]=_;unfold oY;rw[if_pos (show [PyData.int a,PyData.int b].length+1=3 from rfl)];show(cZ [.od es,.fz (.int a),.fz (.int b)]).bind _=_;rw[h];rfl
theorem Hi{A:As}(h:OkA A)(hl:A.length<990)(a b:Nat):bb (esD A) [.int (a:Int),.int (b:Int)]=some (esD (wg A (sgnP a b))):=by
 have o1:=F3 h a 2;have o2:=F3 o1 b 2;have l1:=(vw h a 2).2;have l2:=(vw o1 b 2).2;exact Jx _ _ _ _ (Jy _ _ _ _ _ _ _ (vz h (by omega) a 2) (vz o1 (by omega) b 2) (ez a b) (vz o2 (by omega) (a ^^^ b) 6))
theorem CJ:negD (.int 1)=some (.int (-1)):=rfl
theorem m2(a b:D):hX [a,b] (-1)=some b:=rfl
theorem m3(a b c:D):hX [a,b,c] (-1)=some c:=rfl
section
variable(C:List D)(es es':List (ao×D))(M:D)(f:Int)
theorem xn(j c:Int)(m:Nat)(h1:aW (.list C) (.int j)=some (.int c))(h3:nC C.length j=some m)(g:bb es [.int c,.int f]=some es'):∃y,aC [.fz (.tuple [.str "swing",.int j]),.ow C,.od es,.fz M,.fz (.int f),.un,.un]=some (.nx,[.fz (.tuple [.str "swing",.int j]),.ow (C.set m (.int f)),.od es',.fz M,.fz (.int f),.fz (.int j),y]):=by
 have h1':hX C j=some (.int c):=h1;exact⟨.un,by simp[-aq,-b5,aG,aS,aC,CJ,m2,ip,je,mQ,h1,h1',h3,g]⟩
theorem An(j e c:Int)(h1:aW (.list C) (.int j)=some (.int c))(g:aY es [.int c,.int e]=some es'):aC [.fz (.tuple [.str "turn",.int j,.int e]),.ow C,.od es,.fz M,.fz (.int f),.un,.un]=some (.nx,[.fz (.tuple [.str "turn",.int j,.int e]),.ow C,.od es',.fz M,.fz (.int f),.fz (.int e),.un]):=by
 have h1':hX C j=some (.int c):=h1;simp[-aq,-b5,aG,aS,aC,CJ,m3,ip,je,mQ,h1,h1',g]
theorem Ap(j c x:Int)(m:Nat)(h1:aW (.list C) (.int j)=some (.int c))(h2:fS (.int c) (.int 1)=some (.int x))(h3:nC C.length j=some m):aC [.fz (.tuple [.str "flip",.int j]),.ow C,.od es,.fz M,.fz (.int f),.un,.un]=some (.nx,[.fz (.tuple [.str "flip",.int j]),.ow (C.set m (.int x)),.od es,.fz M,.fz (.int f),.fz (.int j),.un]):=by
 have h1':hX C j=some (.int c):=h1;simp[-aq,-b5,aG,aS,aC,CJ,m2,ip,je,mQ,h1,h1',h2,h3]
theorem C9(i j a b x:Int)(m:Nat)(h0:aW (.list C) (.int i)=some (.int a))(h1:aW (.list C) (.int j)=some (.int b))(h2:fS (.int a) (.int b)=some (.int x))(h3:nC C.length j=some m):aC [.fz (.tuple [.str "tie",.int i,.int j]),.ow C,.od es,.fz M,.fz (.int f),.un,.un]=some (.nx,[.fz (.tuple [.str "tie",.int i,.int j]),.ow (C.set m (.int x)),.od es,.fz M,.fz (.int f),.fz (.int j),.un]):=by
 have h0':hX C i=some (.int a):=h0;have h1':hX C j=some (.int b):=h1;simp[-aq,-b5,aG,aS,aC,CJ,m3,ip,je,mQ,h0,h0',h1,h1',h2,h3]
theorem Ao(i j a b:Int)(h0:aW (.list C) (.int i)=some (.int a))(h1:aW (.list C) (.int j)=some (.int b))(g:bb es [.int a,.int b]=some es'):aC [.fz (.tuple [.str "sign",.int i,.int j]),.ow C,.od es,.fz M,.fz (.int f),.un,.un]=some (.nx,[.fz (.tuple [.str "sign",.int i,.int j]),.ow C,.od es',.fz M,.fz (.int f),.fz (.int j),.un]):=by
 have h0':hX C i=some (.int a):=h0;have h1':hX C j=some (.int b):=h1;simp[-aq,-b5,aG,aS,aC,CJ,m3,ip,je,mQ,h0,h0',h1,h1',g]
theorem xo(i j a b:Int)(m k:Nat)(h0:aW (.list C) (.int i)=some (.int a))(h1:aW (.list C) (.int j)=some (.int b))(h3:nC C.length j=some m)(h4:nC C.length i=some k):aC [.fz (.tuple [.str "cross",.int i,.int j]),.ow C,.od es,.fz M,.fz (.int f),.un,.un]=some (.nx,[.fz (.tuple [.str "cross",.int i,.int j]),.ow ((C.set m (.int a)).set k (.int b)),.od es,.fz M,.fz (.int f),.fz (.int j),.fz (.int b)]):=by
 have h0':hX C i=some (.int a):=h0;have h1':hX C j=some (.int b):=h1;simp[-aq,-b5,aG,aS,aC,CJ,m3,ip,je,mQ,h0,h0',h1,h1',h3,h4]
theorem Gf(mk j c k x:Int)(m:Nat)(h0:aW M (.int mk)=some (.int k))(h1:aW (.list C) (.int j)=some (.int c))(h2:fS (.int c) (.int k)=some (.int x))(h3:nC C.length j=some m):∃y,aC [.fz (.tuple [.str "where",.int mk,.tuple [.str "flip",.int j]]),.ow C,.od es,.fz M,.fz (.int f),.un,.un]=some (.nx,[.fz (.tuple [.str "where",.int mk,.tuple [.str "flip",.int j]]),.ow (C.set m (.int x)),.od es,.fz M,.fz (.int f),y,.un]):=by
 have h1':hX C j=some (.int c):=h1;exact⟨.fz (.tuple [.str "flip",.int j]),by simp[-aq,-b5,aG,aS,aC,CJ,m3,ip,je,mQ,gK,h0,h1,h1',h2,h3]⟩
theorem Ge(mk j e c k:Int)(h0:aW M (.int mk)=some (.int k))(h1:aW (.list C) (.int j)=some (.int c))(g:bb es [.int c,.int k]=some es'):∃y,aC [.fz (.tuple [.str "where",.int mk,.tuple [.str "turn",.int j,.int e]]),.ow C,.od es,.fz M,.fz (.int f),.un,.un]=some (.nx,[.fz (.tuple [.str "where",.int mk,.tuple [.str "turn",.int j,.int e]]),.ow C,.od es',.fz M,.fz (.int f),y,.un]):=by
 have h1':hX C j=some (.int c):=h1;exact⟨.fz (.tuple [.str "turn",.int j,.int e]),by simp[-aq,-b5,aG,aS,aC,CJ,m3,ip,je,mQ,gK,h0,h1,h1',g]⟩
theorem rR(R:D)(C':List D)(z0 z3 z4 z5 z6:Sl)(h:aC [.fz R,.ow C,.od es,.fz M,.fz (.int f),.un,.un]=some (.nx,[z0,.ow C',.od es',z3,z4,z5,z6])):ci C es [R,M,.int f]=some (C',es'):=by
 show ud g9 5 aC C es [R,M,.int f]=_;unfold ud;rw[if_pos ⟨rfl,by simp⟩];show(aC [.fz R,.ow C,.od es,.fz M,.fz (.int f),.un,.un]).bind _=_;rw[h];rfl
end
theorem nu(k:Nat):∀Q P:List (Nat×Int),kv k (Q++P)=kv k Q+kv k P
 |[],P=>by show kv k P=0+kv k P;omega
 |q::Q,P=>by
  have:=nu k Q P;show(if hb q.1=k then he q.1 q.2 else 0)+kv k (Q++P)=(if hb q.1=k then he q.1 q.2 else 0)+kv k Q+kv k P;omega
theorem mw:∀Q P:List (Nat×Int),tv (Q++P)=tv Q+tv P
 |[],P=>by show tv P=0+tv P;omega
 |q::Q,P=>by
  have:=mw Q P;show(if q.1%2=1 then q.2 else 0)+tv (Q++P)=(if q.1%2=1 then q.2 else 0)+tv Q+tv P;omega
theorem qu:∀(Q P:List (Nat×Int)) (A:As),wg A (Q++P)=wg (wg A Q) P
 |[],P,A=>rfl
 |q::Q,P,A=>qu Q P (tP A q.1 q.2)
theorem Ho(k a b:Nat):kv k (sgnP a b)=kv k (sgnP b a):=by
 unfold sgnP;rw[Nat.xor_comm a b];simp only[kv];omega
theorem Gk(a b:Nat):tv (sgnP a b)=tv (sgnP b a):=by
 unfold sgnP;rw[Nat.xor_comm a b];simp only[tv];omega
structure Lw (Q q:List (Nat×Int)):Prop where
 k:∀k,kv k Q=kv k q
 t:tv Q=tv q
 l:Q.length=q.length
theorem Lw.app{Q q:List (Nat×Int)}(h:Lw Q q)(P:List (Nat×Int)):Lw (Q++P) (q++P):=⟨fun k=>by rw[nu,nu,h.k],by rw[mw,mw,h.t],by rw[List.length_append,List.length_append,h.l]⟩
theorem Lw.sg{Q q:List (Nat×Int)}(h:Lw Q q)(a b:Nat):Lw (Q++sgnP a b) (q++sgnP b a):=⟨fun k=>by rw[nu,nu,h.k,Ho],by rw[mw,mw,h.t,Gk],by rw[List.length_append,List.length_append,h.l];rfl⟩
noncomputable def tA(Q:List (Nat×Int)):As:=wg [(0,0)] Q
theorem GE(Q:List (Nat×Int)):OkA (tA Q):=qK Q (kE (by decide))
theorem tZ(Q:List (Nat×Int)):(tA Q).length<=1+Q.length:=by
 have:=vr Q (kE (c:=0) (by decide));simp only[List.length_cons,List.length_nil]at this;unfold tA;omega
theorem xz{Q:List (Nat×Int)}(hl:Q.length<=900)(a b:Nat):bb (esD (tA Q)) [.int (a:Int),.int (b:Int)]=some (esD (tA (Q++sgnP a b))):=by
 have:=tZ Q;unfold tA at *;rw[qu];exact Hi (qK Q (kE (by decide))) (by omega) a b
theorem GF{Q:List (Nat×Int)}(hl:Q.length<=900)(a:Nat)(e:Int):aY (esD (tA Q)) [.int (a:Int),.int e]=some (esD (tA (Q++[(a,e)]))):=by
 have:=tZ Q;unfold tA at *;rw[qu];exact vz (qK Q (kE (by decide))) (by omega) a e
noncomputable def gL(fm many:Nat):D:=.list (aA ((List.range many).map fun m=>2^(fm+m)))
noncomputable def tQ(n:Nat)(cr:Nat->Nat):List D:=aA ((List.range n).map cr)
theorem wl(cr:Nat->Nat){i j:Nat}(h:i≠j):setN (setN cr j (cr i)) i (cr j)=setN (setN cr i (cr j)) j (cr i):=by
 funext k;unfold setN;by_cases a:k=i
 ·subst a;rw[if_pos rfl,if_neg h,if_pos rfl]
 ·rw[if_neg a]
  by_cases b:k=j
  ·rw[if_pos b,if_pos b]
  ·rw[if_neg b,if_neg b,if_neg a]
theorem Gg{n fm fh many:Nat}{W:Wk}{Q:List (Nat×Int)}(h:Lw Q W.w.q)(hq:Q.length<=900)(hk:W.lk<=many){r:Rk}(hr:r.ok n W.lk)(hl:r.looks=0):∃Q',Lw Q' (dh fm fh W r).w.q/\ci (tQ n W.w.cr) (esD (tA Q)) [ic r,gL fm many,.int ((2^(fh+W.w.hs.length):Nat):Int)]=some (tQ n (dh fm fh W r).w.cr,esD (tA Q')):=by
 unfold tQ;cases r with
 |pl r=>
  cases r with
  |swing j=>
   obtain⟨y,e⟩:=xn _ _ _ (gL fm many) ((2^(fh+W.w.hs.length):Nat):Int) j _ j (bq (cr:=W.w.cr) hr) (f8 hr) (xz hq (W.w.cr j) (2^(fh+W.w.hs.length)));refine⟨_,h.app (sgnP (W.w.cr j) (2^(fh+W.w.hs.length))),?_⟩;rw[eG]at e;exact rR _ _ _ _ _ _ _ _ _ _ _ _ e
  |turn j e=>
   exact⟨_,h.app [(W.w.cr j,(e:Int))],rR _ _ _ _ _ _ _ _ _ _ _ _ (An _ _ _ (gL fm many) _ j e _ (bq (cr:=W.w.cr) hr.1) (GF hq (W.w.cr j) e))⟩
  |flip j=>
   have e:=Ap _ (esD (tA Q)) (gL fm many) ((2^(fh+W.w.hs.length):Nat):Int) j _ _ j (bq (cr:=W.w.cr) hr) (ez (W.w.cr j) 1) (f8 hr);rw[eG]at e;exact⟨Q,h,rR _ _ _ _ _ _ _ _ _ _ _ _ e⟩
  |tie i j=>
   have e:=C9 _ (esD (tA Q)) (gL fm many) ((2^(fh+W.w.hs.length):Nat):Int) i j _ _ _ j (bq (cr:=W.w.cr) hr.1) (bq (cr:=W.w.cr) hr.2.1) (ez (W.w.cr i) (W.w.cr j)) (f8 hr.2.1);rw[eG,Nat.xor_comm]at e;exact⟨Q,h,rR _ _ _ _ _ _ _ _ _ _ _ _ e⟩
  |sign i j=>
   exact⟨_,h.app (sgnP (W.w.cr i) (W.w.cr j)),rR _ _ _ _ _ _ _ _ _ _ _ _ (Ao _ _ _ (gL fm many) _ i j _ _ (bq (cr:=W.w.cr) hr.1) (bq (cr:=W.w.cr) hr.2.1) (xz hq (W.w.cr i) (W.w.cr j)))⟩
  |cross i j=>
   have e:=xo _ (esD (tA Q)) (gL fm many) ((2^(fh+W.w.hs.length):Nat):Int) i j _ _ j i (bq (cr:=W.w.cr) hr.1) (bq (cr:=W.w.cr) hr.2.1) (f8 hr.2.1) (f8 hr.1);rw[eG,eG,wl _ hr.2.2]at e;exact⟨Q,h,rR _ _ _ _ _ _ _ _ _ _ _ _ e⟩
 |lk j=>cases hl
 |wf m j=>
  have hm:m<W.lk:=hr.1;obtain⟨y,e⟩:=Gf _ (esD (tA Q)) (gL fm many) ((2^(fh+W.w.hs.length):Nat):Int) m j _ _ _ j (bq (cr:=fun m=>2^(fm+m)) (show m<many by omega)) (bq (cr:=W.w.cr) hr.2) (ez (W.w.cr j) (2^(fm+m))) (f8 hr.2)
  rw[eG]at e;exact⟨Q,h,rR _ _ _ _ _ _ _ _ _ _ _ _ e⟩
 |wt m j=>
  have hm:m<W.lk:=hr.1;obtain⟨y,e⟩:=Ge _ _ _ (gL fm many) ((2^(fh+W.w.hs.length):Nat):Int) m j 4 _ _ (bq (cr:=fun m=>2^(fm+m)) (show m<many by omega)) (bq (cr:=W.w.cr) hr.2) (xz hq (W.w.cr j) (2^(fm+m)))
  exact⟨_,h.sg (W.w.cr j) (2^(fm+m)),rR _ _ _ _ _ _ _ _ _ _ _ _ e⟩
noncomputable def nU(ks:List Nat):List (ao×D):=ks.map fun k:Nat=>(.inl (k:Int),.bool true)
theorem xV(ks:List Nat)(k:Nat):gk (nU ks) (.inl (k:Int)) (.bool true)=nU (lN ks k):=by
 unfold gk lN nU;have any:((ks.map fun k:Nat=>((Sum.inl (k:Int):ao),PyData.bool true)).any fun p=>decide (p.1=Sum.inl (k:Int)))=decide (k∈ks):=by
  rw[List.any_map];by_cases h:k∈ks
  ·rw[decide_eq_true h]
   exact List.any_eq_true.mpr ⟨k,h,by simp⟩
  ·rw[decide_eq_false h]
   refine List.any_eq_false.mpr fun x hx=>?_
   simp only[Function.comp_apply,decide_eq_true_eq];intro z;have:(x:Int)=(k:Int):=Sum.inl.inj z;exact h (by rw[<-(by omega:x=k)];exact hx)
 rw[any];by_cases h:k∈ks
 ·rw[decide_eq_true h,if_pos rfl,if_pos h,List.map_map]
  refine List.map_congr_left fun x hx=>?_
  show(if(Sum.inl (x:Int):ao)=Sum.inl (k:Int)then(Sum.inl (x:Int),PyData.bool true)else(Sum.inl (x:Int),PyData.bool true))=_;split<;>rfl
 ·rw[decide_eq_false h,if_neg (by decide),if_neg h,List.map_append]
  rfl
theorem vB:∀ks:List Nat,jX (nU ks)=some (ks.map cI)
 |[]=>rfl
 |p::A=>by
  show(jX (nU A)).bind _=_;rw[vB A];rfl
theorem Do(ks:List Nat)(nd:ks.Nodup)(hl:ks.length<64):∃rs:List Nat,rs.Perm ks/\rs.Pairwise (· < ·)/\∀(δ:Dv) (i:Nat),vb δ[i]? = some (nU ks)->m7 i δ = some (.list (aA rs)):=by
 obtain⟨rs,e,p,pw⟩:=lW ks nd;refine⟨rs,p,pw,fun δ i h=>?_⟩
 unfold m7;rw[h,Option.bind_some,vB,Option.bind_some,if_pos (by rw[List.length_map];exact hl),e,m9]
theorem BK(ks:List Nat)(nd:ks.Nodup)(hl:ks.length<64):∃ss:List Nat,TT ss ks/\∀z0 z1 z2 z3 z4 z5 z7 z8 z9 z10 z11 z12,dM [z0,z1,z2,z3,z4,z5,.od (nU ks),z7,z8,z9,z10,z11,z12]=some (.list (aA ss)):=by
 obtain⟨rs,p,pw,so⟩:=Do ks nd hl;refine⟨rs.filter fun k=>decide (0<k),⟨pw.sublist List.filter_sublist,fun t=>by rw[List.mem_filter,p.mem_iff,decide_eq_true_eq]⟩,fun z0 z1 z2 z3 z4 z5 z7 z8 z9 z10 z11 z12=>?_⟩
 unfold dM;have s6:=so [z0,z1,z2,z3,z4,z5,.od (nU ks),z7,z8,z9,z10,z11,z12] 6 rfl;have hl':rs.length<64:=by rw[p.length_eq];exact hl
 have:=d6 (fi:=oI (m7 6) dB) (caps:=[]) (ft:=ob (o2 (oV 0) (oC (.int 0)) BP)) (fe:=oV 0) (δ:=[z0,z1,z2,z3,z4,z5,.od (nU ks),z7,z8,z9,z10,z11,z12]) (h:=fun k:Nat=>PyData.int (k:Int)) (k:=fun k:Nat=>PyData.int (k:Int)) (b:=fun k=>decide (0<k)) (xs:=rs) (by simp[s6,aA]) (by omega) (fun k _=>by
  by_cases h:0<k
  ·have h':(0:Int)<(k:Int):=by omega
   simp[h,h',dD]
  ·have h':¬(0:Int)<(k:Int):=by omega
   simp[h,h',dD]) (fun k _ _=>by simp[dD])
 exact this
section
variable(x0 x1 x3 R:D)(w l:Int)(C:List D)(tu ti:List (ao×D))(Hd:List D)(kn:Int)(y10 y11 y12:Sl)(d n b:Int)(hn:(Hd.length:Int)=n)(hd:nc (.int 2) (.int w)=some (.int d))(hb:d+1+l+n=b)
include hn hd hb
theorem Br(j c m x:Int)(ti':List (ao×D))(hR:R=.tuple [.str "look",.int j])(h1:aW (.list C) (.int j)=some (.int c))(h2:aW x3 (.int kn)=some (.int m))(h3:fS (.int c) (.int m)=some (.int x))(hl:ti.length<sizeLine)(hp:gk ti (.inl x) (.bool true)=ti'):bw [.fz (.int w),.fz x1,.fz (.int l),.fz x3,.ow C,.od tu,.od ti,.ow Hd,.fz (.int kn),.fz R,y10,y11,y12]=some (.nx,[.fz (.int w),.fz x1,.fz (.int l),.fz x3,.ow C,.od tu,.od ti',.ow Hd,.fz (.int (kn+1)),.fz R,.fz (.int b),y11,y12]):=by
 subst hR hp;have h1':hX C j=some (.int c):=h1;simp[-aq,-b5,aG,aS,bw,hn,hd,hb,dw,jj,h1,h1',h2,h3,hl]
theorem yJ(q:D)(s:Bool)(f:Int)(C':List D)(tu':List (ao×D))(r0:aW R (.int 0)=some q)(e1:bT q (.str "look")=some (.bool false))(e2:bT q (.str "swing")=some (.bool s))(hf:h7 (.int 1) (.int b)=some (.int f))(g:ci C tu [R,x3,.int f]=some (C',tu'))(hl:Hd.length<sizeLine):bw [.fz (.int w),.fz x1,.fz (.int l),.fz x3,.ow C,.od tu,.od ti,.ow Hd,.fz (.int kn),.fz R,y10,y11,y12]=some (.nx,[.fz (.int w),.fz x1,.fz (.int l),.fz x3,.ow C',.od tu',.od ti,.ow (if s=true then Hd++[.int b]else Hd),.fz (.int kn),.fz R,.fz (.int b),y11,y12]):=by
 cases s with
 |true=>simp[-aq,-b5,aG,aS,bw,hn,hd,hb,ve,r0,e1,e2,hf,g,hl]
 |false=>simp[-aq,-b5,aG,aS,bw,hn,hd,hb,ve,r0,e1,e2,hf,g,hl]
end
noncomputable def isSw:Rk->Bool
 |.pl (.swing _)=>true
 |_=>false
theorem AS(r:Rk)(hl:r.looks=0):∃q:D,aW (ic r) (.int 0)=some q/\bT q (.str "look")=some (.bool false)/\bT q (.str "swing")=some (.bool (isSw r)):=by
 cases r with
 |pl r=>cases r<;>exact⟨_,rfl,by simp,by simp[isSw]⟩
 |lk j=>cases hl
 |wf m j=>exact⟨_,rfl,by simp,by simp[isSw]⟩
 |wt m j=>exact⟨_,rfl,by simp,by simp[isSw]⟩
theorem Gh(fm fh:Nat)(W:Wk)(r:Rk):(if isSw r=true then aA W.w.hs++[.int ((fh+W.w.hs.length:Nat):Int)]else aA W.w.hs)=aA (dh fm fh W r).w.hs:=by
 cases r with
 |pl r=>
  cases r with
  |swing j=>exact jg W.w.hs (fh+W.w.hs.length)
  |_=>rfl
 |_=>rfl
structure Tk (ks xs:List Nat):Prop where
 nd:ks.Nodup
 mem:∀t,t∈ks↔t∈xs
 len:ks.length<=xs.length
theorem Tk.add{ks xs:List Nat}(h:Tk ks xs)(x:Nat):Tk (lN ks x) (xs++[x]):=by
 refine⟨zK h.nd x,fun t=>?_,?_⟩
 ·unfold lN
  split
  ·rename_i z
   rw[List.mem_append,List.mem_singleton,h.mem];constructor
   ·exact .inl
   ·rintro (a|a)
    ·exact a
    ·rw[a];exact(h.mem x).mp z
  ·rw[List.mem_append,List.mem_append,h.mem]
 ·unfold lN
  split
  ·rw[List.length_append];have:=h.len;omega
  ·rw[List.length_append,List.length_append];have:=h.len;simp only[List.length_singleton];omega
def LL(n many:Nat)(x1:D)(y11 y12:Sl)(rs:List Rk):Prop:=∀(W:Wk) (Q:List (Nat×Int)) (ks:List Nat) (y9 y10:Sl),OkR n W.lk rs->W.lk+lkN rs<=many->Lw Q W.w.q->Q.length+3*rs.length<=800->Tk ks W.ts->W.ts.length+rs.length<=900->W.w.hs.length+rs.length<=900->∃(Q':List (Nat×Int)) (ks':List Nat) (z9 z10:Sl),Lw Q' (dG (2*n+1) (2*n+1+many) W rs).w.q/\Tk ks' (dG (2*n+1) (2*n+1+many) W rs).ts /\
  loop (gN 9) bw (rs.map ic) [.fz (.int (n:Int)),.fz x1,.fz (.int (many:Int)),.fz (gL (2*n+1) many),.ow (tQ n W.w.cr),.od (esD (tA Q)),.od (nU ks),.ow (aA W.w.hs),.fz (.int (W.lk:Int)),y9,y10,y11,y12]=some (.nx,[.fz (.int (n:Int)),.fz x1,.fz (.int (many:Int)),.fz (gL (2*n+1) many),.ow (tQ n (dG (2*n+1) (2*n+1+many) W rs).w.cr),.od (esD (tA Q')),.od (nU ks'),.ow (aA (dG (2*n+1) (2*n+1+many) W rs).w.hs),.fz (.int ((dG (2*n+1) (2*n+1+many) W rs).lk:Int)),z9,z10,y11,y12])
theorem qR{n many:Nat}(hn:n<=6)(hm:many<=6)(x1:D)(y11 y12:Sl){rs:List Rk}(ih:LL n many x1 y11 y12 rs)(r:Rk)(hl0:r.looks=0):LL n many x1 y11 y12 (r::rs):=fun W Q ks y9 y10 hr hk h hq t ht hh=>by
 cases hr with
 |cons hr hrs=>
  rw[List.length_cons]at hq ht hh;have hk:W.lk+(r.looks+lkN rs)<=many:=hk;obtain⟨a1,a2,a3⟩:=qk (2*n+1) (2*n+1+many) W r;have a4:=xp (2*n+1) (2*n+1+many) W r;have nl:((aA W.w.hs).length:Int)=(W.w.hs.length:Int):=by rw[bo]
  have hd:=ma n (a:=2) (by decide);have hb:((2*n:Nat):Int)+1+(many:Int)+(W.w.hs.length:Int)=((2*n+1+many+W.w.hs.length:Nat):Int):=by push_cast;rfl
  obtain⟨q,r0,e1,e2⟩:=AS r hl0;obtain⟨Q1,h1,g⟩:=Gg (n:=n) (fm:=2*n+1) (fh:=2*n+1+many) (many:=many) h (by omega) (by omega) hr hl0;have st:=yJ x1 (gL (2*n+1) many) (ic r) (n:Int) (many:Int) (tQ n W.w.cr) (esD (tA Q)) (nU ks) (aA W.w.hs) (W.lk:Int) y10 y11 y12 _ _ _ nl hd hb q (isSw r) _ _ _ r0 e1 e2 (eO (k:=2*n+1+many+W.w.hs.length) (by omega)) g (by rw[bo,sizeLine_eq];omega);rw[Gh (2*n+1) (2*n+1+many) W r]at st;rw[hl0]at a3 a4 hrs;have lq:=h1.l;have lq0:=h.l;have tE:(dh (2*n+1) (2*n+1+many) W r).ts=W.ts:=by cases r<;>first|rfl|cases hl0
  obtain⟨Q',ks',z9,z10,b1,b2,e⟩:=ih (dh (2*n+1) (2*n+1+many) W r) Q1 ks (.fz (ic r)) (.fz (.int ((2*n+1+many+W.w.hs.length:Nat):Int))) (by rw[a4];exact hrs) (by omega) h1 (by omega) (by rw[tE];exact t) (by omega) (by omega);refine⟨Q',ks',z9,z10,b1,b2,?_⟩;rw[List.map_cons,dU (δ1:=[.fz (.int (n:Int)),.fz x1,.fz (.int (many:Int)),.fz (gL (2*n+1) many),.ow (tQ n W.w.cr),.od (esD (tA Q)),.od (nU ks),.ow (aA W.w.hs),.fz (.int (W.lk:Int)),.fz (ic r),y10,y11,y12]) (by rfl) st];rw[a4]at e;exact e
theorem jT{n many:Nat}(hn:n<=6)(hm:many<=6)(x1:D)(y11 y12:Sl):∀rs:List Rk,LL n many x1 y11 y12 rs
 |[]=>fun W Q ks y9 y10 _ _ h _ t _ _=>⟨Q,ks,y9,y10,h,t,rfl⟩
 |.pl r::rs=>qR hn hm x1 y11 y12 (jT hn hm x1 y11 y12 rs) (.pl r) rfl
 |.wf m j::rs=>qR hn hm x1 y11 y12 (jT hn hm x1 y11 y12 rs) (.wf m j) rfl
 |.wt m j::rs=>qR hn hm x1 y11 y12 (jT hn hm x1 y11 y12 rs) (.wt m j) rfl
 |.lk j::rs=>fun W Q ks y9 y10 hr hk h hq t ht hh=>by
  cases hr with
  |cons hr hrs=>
   rw[List.length_cons]at hq ht hh;have hk:W.lk+(1+lkN rs)<=many:=hk;obtain⟨a1,a2,a3⟩:=qk (2*n+1) (2*n+1+many) W (.lk j);have a4:=xp (2*n+1) (2*n+1+many) W (.lk j);have hl1:(Rk.lk j).looks=1:=rfl;rw[hl1]at a3 a4 hrs;have nl:((aA W.w.hs).length:Int)=(W.w.hs.length:Int):=by rw[bo]
   have hd:=ma n (a:=2) (by decide);have hb:((2*n:Nat):Int)+1+(many:Int)+(W.w.hs.length:Int)=((2*n+1+many+W.w.hs.length:Nat):Int):=by push_cast;rfl
   have lks:=t.len;have hr:j<n:=hr;have st:=Br x1 (gL (2*n+1) many) (ic (.lk j)) (n:Int) (many:Int) (tQ n W.w.cr) (esD (tA Q)) (nU ks) (aA W.w.hs) (W.lk:Int) y10 y11 y12 _ _ _ nl hd hb j _ _ _ _ rfl (bq (cr:=W.w.cr) hr) (bq (cr:=fun m=>2^(2*n+1+m)) (show W.lk<many by omega)) (ez (W.w.cr j) (2^(2*n+1+W.lk))) (by unfold nU;rw[List.length_map,sizeLine_eq];omega) (xV ks _)
   obtain⟨Q',ks',z9,z10,b1,b2,e⟩:=jT hn hm x1 y11 y12 rs (dh (2*n+1) (2*n+1+many) W (.lk j)) Q _ (.fz (ic (.lk j))) (.fz (.int ((2*n+1+many+W.w.hs.length:Nat):Int))) (by rw[a4];exact hrs) (by omega) h (by omega) (t.add _) (by omega) (by show W.w.hs.length+rs.length<=900;omega);refine⟨Q',ks',z9,z10,b1,b2,?_⟩;rw[List.map_cons,dU (δ1:=[.fz (.int (n:Int)),.fz x1,.fz (.int (many:Int)),.fz (gL (2*n+1) many),.ow (tQ n W.w.cr),.od (esD (tA Q)),.od (nU ks),.ow (aA W.w.hs),.fz (.int (W.lk:Int)),.fz (ic (.lk j)),y10,y11,y12]) (by rfl) st];rw[a4]at e
   push_cast at e ⊢
   exact e
theorem JL(x1 x2 x3:D)(w k c z x:Int)(C:List D)(tu ti ti':List (ao×D))(Hd:List D)(y8 y9 y10 y12:Sl)(h1:aW (.list C) (.int k)=some (.int c))(h2:h7 (.int 1) (.int (w+1+k))=some (.int z))(h3:fS (.int c) (.int z)=some (.int x))(hl:ti.length<sizeLine)(hp:gk ti (.inl x) (.bool true)=ti'):cX [.fz (.int w),.fz x1,.fz x2,.fz x3,.ow C,.od tu,.od ti,.ow Hd,y8,y9,y10,.fz (.int k),y12]=some (.nx,[.fz (.int w),.fz x1,.fz x2,.fz x3,.ow C,.od tu,.od ti',.ow Hd,y8,y9,y10,.fz (.int k),y12]):=by
 subst hp;have h1':hX C k=some (.int c):=h1;simp[-aq,-b5,aG,aS,cX,dw,jj,h1,h1',h2,h3,hl]
theorem vA{n:Nat}(hn:n<=6)(cr:Nat->Nat)(x1 x2 x3:D)(tu:List (ao×D))(Hd:List D)(y8 y9 y10 y12:Sl):∀(l:List Nat) (ks xs:List Nat) (y11:Sl),(∀k∈l,k<n)->Tk ks xs->xs.length+l.length<=900->∃ks' z11,Tk ks' (xs++l.map fun j=>cr j ^^^ 2^(n+1+j))/\loop (gN 11) cX (l.map fun k:Nat=>PyData.int (0+(k:Int))) [.fz (.int (n:Int)),.fz x1,.fz x2,.fz x3,.ow (tQ n cr),.od tu,.od (nU ks),.ow Hd,y8,y9,y10,y11,y12]=some (.nx,[.fz (.int (n:Int)),.fz x1,.fz x2,.fz x3,.ow (tQ n cr),.od tu,.od (nU ks'),.ow Hd,y8,y9,y10,z11,y12])
 |[],ks,xs,y11,_,t,_=>⟨ks,y11,by rw[List.map_nil,List.append_nil];exact t,rfl⟩
 |j::l,ks,xs,y11,hj,t,hl=>by
  rw[List.length_cons]at hl;have hj0:j<n:=hj j (List.mem_cons_self ..);have lks:=t.len;obtain⟨ks',z11,t',e⟩:=vA hn cr x1 x2 x3 tu Hd y8 y9 y10 y12 l _ _ (.fz (.int (j:Int))) (fun k h=>hj k (List.mem_cons_of_mem _ h)) (t.add (cr j ^^^ 2^(n+1+j))) (by rw[List.length_append];simp only[List.length_singleton];omega)
  refine⟨ks',z11,by rw[List.map_cons,List.append_cons];exact t',?_⟩;have sh:=eO (k:=n+1+j) (by omega);rw[show((n+1+j:Nat):Int)=(n:Int)+1+(j:Int) by push_cast;rfl]at sh;have st:=JL x1 x2 x3 (n:Int) (j:Int) _ _ _ (tQ n cr) tu (nU ks) _ Hd y8 y9 y10 y12 (bq (cr:=cr) hj0) sh (ez (cr j) (2^(n+1+j))) (by unfold nU;rw[List.length_map,sizeLine_eq];omega) (xV ks _);have z:PyData.int (0+(j:Int))=PyData.int (j:Int):=by rw[Int.zero_add]
  rw[List.map_cons,z,dU (δ1:=[.fz (.int (n:Int)),.fz x1,.fz x2,.fz x3,.ow (tQ n cr),.od tu,.od (nU ks),.ow Hd,y8,y9,y10,.fz (.int (j:Int)),y12]) (by rfl) st];exact e
theorem HQ(A:As)(Hd:List D)(x0 x1 x2 x3 x4 x6 x8 x9 x10 x11 x12:Sl):tf 5 (B8 7 [x0,x1,x2,x3,x4,.od (esD A),x6,.ow Hd,x8,x9,x10,x11,x12])=[x0,x1,x2,x3,x4,.fz (.dict (ie (lI A))),x6,.fz (.list Hd),x8,x9,x10,x11,x12]:=by
 have h:=qX A;show(match nG (esD A)with|some l'=>_|none=>_)=_
 rw[h];rfl
theorem HE{A:As}{k:Nat}(h:k∈aD A):j0 (.dict (ie (lI A))) (.int (k:Int))=some (.int (vl A k:Int)):=by
 show(jw (ie (lI A))).bind _=_;rw[fC,Option.bind_some];show(jj (.int (k:Int))).bind _=_;rw[yS,Option.bind_some,vH h];rfl
theorem E1(RL C0 C L1 Hd KS RN:List D)(M PP:D)(w l h t k:Int)(A:As)(ti ti':List (ao×D))(z9 z10 z11:Sl)
  (p1:dN [.fz (.int w),.fz (.tuple RL),.un,.un,.un,.un,.un,.un,.un,.un,.un,.un,.un]=some (.list L1)) (hl:(L1.length:Int)=l)
  (p2:fM [.fz (.int w),.fz (.tuple RL),.fz (.int l),.un,.un,.un,.un,.un,.un,.un,.un,.un,.un]=some M)
  (p3:fL [.fz (.int w),.fz (.tuple RL),.fz (.int l),.fz M,.un,.un,.un,.un,.un,.un,.un,.un,.un]=some (.list C0))
  (lp1:loop (gN 9) bw RL [.fz (.int w),.fz (.tuple RL),.fz (.int l),.fz M,.ow C0,.od [(.inl 0,.int 0)],.od [],.ow [],.fz (.int 0),.un,.un,.un,.un]=some (.nx,[.fz (.int w),.fz (.tuple RL),.fz (.int l),.fz M,.ow C,.od (esD A),.od ti,.ow Hd,.fz (.int k),z9,z10,.un,.un]))
  (r:fH [.int w]=some RN)
  (lp2:loop (gN 11) cX RN [.fz (.int w),.fz (.tuple RL),.fz (.int l),.fz M,.ow C,.od (esD A),.od ti,.ow Hd,.fz (.int k),z9,z10,.un,.un]=some (.nx,[.fz (.int w),.fz (.tuple RL),.fz (.int l),.fz M,.ow C,.od (esD A),.od ti',.ow Hd,.fz (.int k),z9,z10,z11,.un]))
  (p4:dM [.fz (.int w),.fz (.tuple RL),.fz (.int l),.fz M,.ow C,.od (esD A),.od ti',.ow Hd,.fz (.int k),z9,z10,z11,.un]=some (.list KS)) (hH:(Hd.length:Int)=h)
  (g0:j0 (.dict (ie (lI A))) (.int 0)=some (.int t)) (pp:b8 [.dict (ie (lI A))]=some PP) (hs:Hd.length<=sizeLine) (ks:KS.length<=sizeLine) :
  bP [.int w,.tuple RL]=some (.tuple [.tuple [.int w,.int l],.int h,.int t,PP,.tuple KS,.tuple Hd]):=by
 have d:=HQ A Hd (.fz (.int w)) (.fz (.tuple RL)) (.fz (.int l)) (.fz M) (.ow C) (.od ti') (.fz (.int k)) z9 z10 z11 (.fz (.tuple KS));have kz:jj (.int 0)=some (.inl 0):=rfl;simp[-aq,-b5,aG,aS,bP,cD,gb,az,xP,xQ,yl,yy,p1,hl,p2,p3,kz,lp1,r,lp2,p4,d,hH,g0,pp,hs,ks,t6]
theorem IT:Tk [] []:=⟨List.nodup_nil,fun _=>Iff.rfl,Nat.le_refl _⟩
theorem Jw:Lw [] []:=⟨fun _=>rfl,rfl,rfl⟩
theorem JG(w:Int)(rs:List Rk)(hl:rs.length<=1000):dN [.fz (.int w),.fz (.tuple (rs.map ic)),.un,.un,.un,.un,.un,.un,.un,.un,.un,.un,.un]=some (.list ((rs.filter fun r=>r.looks==1).map ic)):=by
 unfold dN;refine d6 (h:=ic) (k:=ic) (xs:=rs) (by simp) (by omega) (fun x _=>?_) fun x _ _=>by simp
 obtain⟨s,e1,e2⟩:=yW x;simp[e1,e2]
theorem JF{n many:Nat}(hn:n<=6)(hm:many<=6)(RL:D)(d:Int)(hd:nc (.int 2) (.int (n:Int))=some (.int d))(hd':d=((2*n:Nat):Int))(w l:Int)(hw:(n:Int)=w)(r:fH [.int l]=some ((List.range many).map fun k:Nat=>PyData.int (0+(k:Int)))):fM [.fz (.int w),.fz RL,.fz (.int l),.un,.un,.un,.un,.un,.un,.un,.un,.un,.un]=some (gL (2*n+1) many):=by
 have e:gL (2*n+1) many=.list ((List.range many).map fun m=>PyData.int ((2^(2*n+1+m):Nat):Int)):=by unfold gL aA;rw[List.map_map];rfl
 rw[e];subst hw;refine mn (by simp only[oL,ae,oV,aE,List.getElem?_cons_succ,List.getElem?_cons_zero,Option.bind_some];exact r) (by omega) fun k hk=>?_
 have h1:=eO (k:=2*n+1+k) (by omega);have hc:d+1+(k:Int)=((2*n+1+k:Nat):Int):=by rw[hd'];push_cast;rfl
 generalize ((2*n+1+k:Nat):Int)=q at h1 hc;generalize ((2^(2*n+1+k):Nat):Int)=p at h1;simp[dD,hd,hc,h1]
theorem JE{n:Nat}(hn:n<=6)(RL L M:D)(w:Int)(hw:(n:Int)=w)(r:fH [.int w]=some ((List.range n).map fun k:Nat=>PyData.int (0+(k:Int)))):fL [.fz (.int w),.fz RL,.fz L,.fz M,.un,.un,.un,.un,.un,.un,.un,.un,.un]=some (.list (tQ n K0.w.cr)):=by
 have e:tQ n K0.w.cr=(List.range n).map fun m=>PyData.int ((2^(1+m):Nat):Int):=by unfold tQ aA;rw[List.map_map];rfl
 rw[e];refine mn (by simp only[oL,ae,oV,aE,List.getElem?_cons_succ,List.getElem?_cons_zero,Option.bind_some];exact r) (by omega) fun k hk=>?_
 have h1:=eO (k:=1+k) (by omega)
 push_cast at h1
 simp[h1]
theorem xa{n:Nat}(hn:n<=6)(rs:List Rk)(hr:OkR n 0 rs)(hl:rs.length<=64)(hk:lkN rs<=6):∃(c:Nat) (R:As) (ss hs:List Nat),ss.length<=200/\hs.length<=200/\dl [oa n rs]=some (gJ n (lkN rs) (hs.length:Int) c (rW R) ss hs)/\bP [.int (n:Int),.tuple (rs.map ic)]=some (gJ n (lkN rs) (hs.length:Int) c (rW R) ss hs):=by
 obtain⟨c,R,ss,c8,rr,ce,tt,sl,gs⟩:=v9 hn rs hr hl hk _ rfl;obtain⟨b1,b2,b3⟩:=qj (2*n+1) (2*n+1+lkN rs) rs K0;have h0:K0.w.hs.length=0:=rfl;have h1:K0.w.q.length=0:=rfl;have h2:K0.ts.length=0:=rfl;generalize hW:dG (2*n+1) (2*n+1+lkN rs) K0 rs=W at *;refine⟨c,R,ss,W.w.hs,by omega,by omega,gs,?_⟩;obtain⟨Q,ks,z9,z10,lw,tk,lp1⟩:=jT hn hk (.tuple (rs.map ic)) .un .un rs K0 [] [] .un .un hr (by show 0+_<=_;omega) Jw (by show 0+_<=_;omega) IT (by omega) (by omega);rw[hW]at lw tk lp1;have r:=DD (n:=n) (by omega);obtain⟨ks',z11,tk',lp2⟩:=vA hn W.w.cr (.tuple (rs.map ic)) (.int (lkN rs:Int)) (gL (2*n+1) (lkN rs)) (esD (tA Q)) (aA W.w.hs) (.fz (.int (W.lk:Int))) z9 z10 .un (List.range n) ks W.ts .un (fun k h=>List.mem_range.mp h) tk (by rw[List.length_range];omega);have tl:=tk'.len;rw[List.length_append,List.length_map,List.length_range]at tl;obtain⟨ss',tt',p4⟩:=BK ks' tk'.nd (by omega);have es:ss'=ss:=tt'.one tt fun t _=>by rw[tk'.mem];rfl
 subst es;have ok:=GE Q;have qn:=lw.l;have al:=tZ Q;obtain⟨rs',p,pw,pp⟩:=yg (tA Q) ok.nd (by omega);have rr':RR (mS (tA Q) rs') (fun k=>kv k Q):=DC ok p pw fun k hk=>by
  unfold tA;rw[uX hk _ (kE (by decide)),Dc 0 hk];show((0:Nat)+_:Int)%8=_;rw[show((0:Nat):Int)=0 from rfl,Int.zero_add]
 have eR:mS (tA Q) rs'=R:=rr'.one rr fun k _=>by rw[lw.k]
 rw[eR,CD]at pp;have v0:=uY Q (kE (c:=0) (by decide));rw[Av]at v0;have c0:(vl (tA Q) 0:Int)=(c:Int):=by
  unfold tA;rw[v0,ce,lw.t];show((0:Int)+_)%8=_;rw[Int.zero_add]
 have g0:=HE (k:=0) ok.z;rw[c0]at g0;exact E1 (rs.map ic) _ _ _ _ _ _ _ _ (n:Int) (lkN rs:Int) (W.w.hs.length:Int) (c:Int) (W.lk:Int) (tA Q) (nU ks) (nU ks') z9 z10 z11 (JG _ rs (by omega)) (by rw[List.length_map,qS]) (JF hn hk _ _ (ma n (a:=2) (by decide)) rfl _ _ rfl (DD (by omega))) (JE hn _ _ _ _ rfl r) lp1 r lp2 (p4 _ _ _ _ _ _ _ _ _ _ _ _) (by rw[bo]) g0 pp (by rw[bo,sizeLine_eq];omega) (by rw[bo,sizeLine_eq];omega)
theorem Jk{s:Str}(h:xi s=true)(k:Nat):MA.Sh k (.str s):=by
 have h:((PyData.str s).canLay0&&decide ((PyData.str s).depth<=64))=true:=h;rw[Bool.and_eq_true]at h;exact⟨h.1,by simp[PyData.depth]⟩
theorem mG{s:Str}(h:xi s=true){k:Nat}{xs:List D}(hx:∀x∈xs,MA.Sh k x):MA.Sh (k+1) (.tuple (.str s::xs)):=MA.Sh.tuple fun x h'=>by
 rcases List.mem_cons.mp h' with rfl|z
 ·exact Jk h k
 ·exact hx x z
theorem qy(k:Nat)(is:List Int):∀x∈is.map PyData.int,MA.Sh k x:=fun x hx=>by
 obtain⟨i,_,rfl⟩:=List.mem_map.mp hx;exact MA.Sh.int k i
theorem GJ(r:Rk):MA.Sh 2 (ic r):=by
 cases r with
 |pl r=>
  cases r with
  |swing j=>exact mG bW (qy 1 [(j:Int)])
  |turn j e=>exact mG bR (qy 1 [(j:Int),(e:Int)])
  |flip j=>exact mG bS (qy 1 [(j:Int)])
  |tie i j=>exact mG cN (qy 1 [(i:Int),(j:Int)])
  |sign i j=>exact mG b6 (qy 1 [(i:Int),(j:Int)])
  |cross i j=>exact mG bH (qy 1 [(i:Int),(j:Int)])
 |lk j=>exact mG bn (qy 1 [(j:Int)])
 |wf m j=>
  refine mG bh fun x hx=>?_
  simp only[List.mem_cons,List.not_mem_nil,or_false]at hx;rcases hx with rfl|rfl
  ·exact MA.Sh.int 1 _
  ·exact mG bS (qy 0 [(j:Int)])
 |wt m j=>
  refine mG bh fun x hx=>?_
  simp only[List.mem_cons,List.not_mem_nil,or_false]at hx;rcases hx with rfl|rfl
  ·exact MA.Sh.int 1 _
  ·exact mG bR (qy 0 [(j:Int),4])
theorem GK(n:Nat)(rs:List Rk):MA.Sh 4 (oa n rs):=by
 refine MA.Sh.tuple fun x hx=>?_
 simp only[List.mem_cons,List.not_mem_nil,or_false]at hx;rcases hx with rfl|rfl
 ·exact MA.Sh.int 3 _
 ·refine MA.Sh.tuple fun x hx=>?_
  obtain⟨r,_,rfl⟩:=List.mem_map.mp hx;exact GJ r
theorem Hm(S C1 RS C O:D)(w c m:Int)(c0:bD [S,.int 0]=some (.int c))(hm:df (.int c) (.int 6)=some (.int m))(hw:1+m=w)(sl:FZ S (some 1) (some 61)=some C1)(gr:bC [C1,.int w,.int 60,.int 6]=some RS)(tc:cT [.int w,RS]=some C)(gl:bP [.int w,RS]=some O)(gs:dl [C]=some O)(ss:bd [O,O]=some (.bool true))(eq:bT C C=some (.bool true)):sR [S]=some (.bool true):=by
 simp[-aq,-b5,aG,aS,sR,cD,zH,az,c0,hm,hw,sl,gr,tc,gl,gs,ss,eq]
theorem law_true(ns:List Int)(hl:ns.length<=63):sR [.list (ns.map .int)]=some (.bool true):=by
 obtain⟨c,ce⟩:=Cb ns 0 (Int.le_refl _);obtain⟨m,mm,me⟩:=md c (n:=6) (by decide);obtain⟨cs,cl,se⟩:=B9 ns (some 1) (some 61);obtain⟨rs,rl,ok,lk,re⟩:=AR (n:=1+m) (by omega) cs (by omega) 60 6;obtain⟨k,R,ss,hs,s1,h1,gs,gl⟩:=xa (n:=1+m) (by omega) rs ok (by omega) lk;exact Hm _ _ _ _ _ ((1+m:Nat):Int) c (m:Int) ce me (by push_cast;rfl) se re (lT (by simp)) gl gs (sn _ _ _ _ _ _ _ s1 h1) (B4 (GK (1+m) rs) (by decide))
end GN
namespace GN
open PySem PySem.Spec PyProof.Rows L2 VL
structure Txt (mg:Str->Option Value):Prop where
 len:mg "len" = none
 dict:mg "dict" = none
 tuple:mg "tuple" = none
 sorted:mg "sorted" = none
 set_:mg "set" = none
 range:mg "range" = none
 isinstance:mg "isinstance" = none
 int:mg "int" = none
 bool:mg "bool" = none
section
variable{P:Program}{w:World}{K:PySem.W.Frag}{mg:Str->Option Value}{base:Heap}
theorem sj:FnScope jp ["circuit"] (ag fF):=⟨rfl,rfl,rfl,by decide +kernel,rfl,by decide +kernel,by decide +kernel⟩
theorem sE{f:Addr}{fd:FuncData}{dV:Value}(F:FunV K "looks_in" "looks_in" fF f fd dV)(T:Txt mg):FnOk P w K mg base dE 1 f fd ["circuit"] (kW K cY):=
 iT (k:=0) (b:=jn) F sj fun cdv A outer s H E hr=>(aP (bG (eQ lA rfl T.len (by decide +kernel) (ab (fP (vars:=["row"]) (caps:=[]) (by change BlkOk (ag fF).names jp _ _ _;exact⟨rfl,by decide +kernel,by decide +kernel,by decide +kernel,by decide +kernel⟩) rfl (dX (ap aO (aa 0) ac (fun _ _=>rfl))) fD (fun _ _ _ _=>cR (i:=0) (show(["row"]:List Str).Nodup by decide +kernel) rfl (Or.inl rfl) (.inr rfl)) (fun _ _ _ _=>(aN (dq hr.units) (ap aO (aa 0) ac (fun _ _=>rfl)) aV (aM _))) (fun _ _ _ _=>(aa 0))) ah))))
theorem sc_all_added:FnScope iE ["turn","turns","pairs"] (ag eL):=⟨rfl,rfl,rfl,by decide +kernel,rfl,by decide +kernel,by decide +kernel⟩
theorem qL{f:Addr}{fd:FuncData}{dV:Value}(F:FunV K "all_added" "all_added" eL f fd dV)(T:Txt mg):FnOk P w K mg base dE 1 f fd ["turn","turns","pairs"] (kW K cG):=
 iT (k:=0) (b:=iD) F sc_all_added fun cdv A outer s H E hr=>(ar (AH 3 sc_all_added.nd rfl T.dict (aa 1)) (ar (ku PassesOwn.never rfl (dX (aa 2)) (iQ 4 sc_all_added.nd) (ar (be 5 sc_all_added.nd (ap aO (aa 4) ac (fun _ _=>rfl))) (ar (be 6 sc_all_added.nd (ap aO (aa 4) ac (fun _ _=>rfl))) (ar (eK (aN (dq hr.units) (aj HS (aa 5) ac) ac (aM _)) (ar (be 0 sc_all_added.nd (aj bN (aa 0) (aa 6))) (ar (be 5 sc_all_added.nd (aj iA (aa 5) ac)) (aP (be 6 sc_all_added.nd (CY C2 (aa 6)))))) dR) (aP (eK (aN (zD hr.units) (aa 5) ac (aM _)) (aP (qt 3 (xu hr.units) (aa 5) (aj dn (aj bN (sX 3 (xu hr.units) (aa 5) ac ⟨rfl,rfl,rfl,rfl⟩) (aa 6)) ac))) dR)))))) (aP (bG (bI (ab (aj dn (aa 0) ac) (ab (d4 gS rfl T.tuple (by decide +kernel) (ab (fP (vars:=["pair"]) (caps:=[]) (by change BlkOk (ag eL).names iE _ _ _;exact⟨rfl,by decide +kernel,by decide +kernel,by decide +kernel,by decide +kernel⟩) rfl (dX (uM 3 rfl T.sorted)) fD (fun _ _ _ _=>cR (i:=0) (show(["pair"]:List Str).Nodup by decide +kernel) rfl (Or.inl rfl) (.inr rfl)) (fun _ _ _ _=>(aN (zD hr.units) (ap aO (aa 0) ac (fun _ _=>rfl)) ac (aM _))) (fun _ _ _ _=>(aa 0))) ah)) ah)))))))
theorem wu:FnScope tN ["one","other"] (ag jI):=⟨rfl,rfl,rfl,by decide +kernel,rfl,by decide +kernel,by decide +kernel⟩
theorem wE{f:Addr}{fd:FuncData}{dV:Value}(F:FunV K "signed" "signed" jI f fd dV)(T:Txt mg):FnOk P w K mg base dE 1 f fd ["one","other"] (kW K fO):=
 iT (k:=0) (b:=oB) F wu fun cdv A outer s H E hr=>(aP (bG (nR (ab (bI (ab (aa 0) (ab ac ah))) (ab (bI (ab (aa 1) (ab ac ah))) (ab (bI (ab (aj iA (aa 0) (aa 1)) (ab ac ah))) ah))))))
theorem kA:FnScope eX ["ties"] (ag cL):=⟨rfl,rfl,rfl,by decide +kernel,rfl,by decide +kernel,by decide +kernel⟩
theorem kD{f:Addr}{fd:FuncData}{dV:Value}(F:FunV K "ties_in_order" "ties_in_order" cL f fd dV)(T:Txt mg):FnOk P w K mg base dE 1 f fd ["ties"] (kW K bc):=
 iT (k:=0) (b:=eV) F kA fun cdv A outer s H E hr=>(aP (bG (d4 gS rfl T.tuple (by decide +kernel) (ab (fP (vars:=["tie"]) (caps:=[]) (by change BlkOk (ag cL).names eX _ _ _;exact⟨rfl,by decide +kernel,by decide +kernel,by decide +kernel,by decide +kernel⟩) rfl (dX (BX rfl T.sorted rfl T.set_ (aa 0))) fD (fun _ _ _ _=>cR (i:=0) (show(["tie"]:List Str).Nodup by decide +kernel) rfl (Or.inl rfl) (.inr rfl)) (fun _ _ _ _=>(aN (zD hr.units) (aa 0) ac (aM _))) (fun _ _ _ _=>(aa 0))) ah))))
theorem jH:FnScope er ["self","wires","looks"] (ag cz):=⟨rfl,rfl,rfl,by decide +kernel,rfl,by decide +kernel,by decide +kernel⟩
theorem jO{f:Addr}{fd:FuncData}{dV:Value}(F:FunV K "__init__" "Ways.__init__" cz f fd dV)(T:Txt mg)(Z_Ways:ClN K "Ways")(A_Wayscarried:NaN K "Ways" "carried")(A_Wayspairs:NaN K "Ways" "pairs")(A_Waysties:NaN K "Ways" "ties")(A_Wayshidden:NaN K "Ways" "hidden")(A_Waysfirst_mark:NaN K "Ways" "first_mark")(A_Waysfirst_hidden:NaN K "Ways" "first_hidden")(A_Wayslooked:NaN K "Ways" "looked"):FnOk P w K mg base dE 1 f fd ["self","wires","looks"] (Il K "Ways" fY):=
 JV (k:=0) (b:=d9) F jH fun cdv A outer s H E hr=>(gz (lV Z_Ways A_Wayscarried (B5 (vars:=["wire"]) (caps:=[]) (by change BlkOk (ag cz).names er _ _ _;exact⟨rfl,by decide +kernel,by decide +kernel,by decide +kernel,by decide +kernel⟩) rfl (gn rfl T.range (ab (aa 1) ah)) fD (fun _ _ _ _=>cR (i:=0) (show(["wire"]:List Str).Nodup by decide +kernel) rfl (Or.inl rfl) (.inr rfl)) (fun _ _ _ _=>(aj j3 ac (aj bN ac (aa 0)))))) (gz (lV Z_Ways A_Wayspairs (uN ah)) (gz (lV Z_Ways A_Waysties (uN ah)) (gz (lV Z_Ways A_Wayshidden (uN ah)) (gz (qr Z_Ways A_Waysfirst_mark (aj bN (aj nW ac (aa 1)) ac)) (gz (qr Z_Ways A_Waysfirst_hidden (aj bN (aj bN (aj nW ac (aa 1)) ac) (aa 2))) (Cg (qr Z_Ways A_Wayslooked ac))))))))
theorem oT:FnScope kg ["self","one","other"] (ag fj):=⟨rfl,rfl,rfl,by decide +kernel,rfl,by decide +kernel,by decide +kernel⟩
theorem o9{f:Addr}{fd:FuncData}{dV:Value}(F:FunV K "sign" "Ways.sign" fj f fd dV)(T:Txt mg)(C_signed:Cal P w K mg base "signed" 1 fO [])(Z_Ways:ClN K "Ways")(A_Wayspairs:NaN K "Ways" "pairs"):FnOk P w K mg base dE 2 f fd ["self","one","other"] (zP K "Ways" aQ):=
 uH (k:=1) (b:=gZ) F oT fun cdv A outer s H E hr=>(bg (AD Z_Ways A_Wayspairs (bZ C_signed (hr.mono (by decide)) rfl (ab (aa 1) (ab (aa 2) ah)))))
theorem sc_Ways__swing:FnScope ja ["self","wire"] (ag eE):=⟨rfl,rfl,rfl,by decide +kernel,rfl,by decide +kernel,by decide +kernel⟩
theorem mY{f:Addr}{fd:FuncData}{dV:Value}(F:FunV K "swing" "Ways.swing" eE f fd dV)(T:Txt mg)(Z_Ways:ClN K "Ways")(A_Waysfirst_hidden:NaN K "Ways" "first_hidden")(A_Wayshidden:NaN K "Ways" "hidden")(A_Wayscarried:NaN K "Ways" "carried")(W_Ways__sign:CalW P w K mg base "Ways" "sign" 2 aQ):FnOk P w K mg base dE 3 f fd ["self","wire"] (zP K "Ways" bX):=
 uH (k:=2) (b:=gc) F sc_Ways__swing fun cdv A outer s H E hr=>(gx (u4 2 sc_Ways__swing.nd (aj bN (cC Z_Ways A_Waysfirst_hidden (aa 0)) (eQ lA rfl T.len (by decide +kernel) (ab (cC Z_Ways A_Wayshidden (aa 0)) ah)))) (gx (qq Z_Ways A_Wayshidden (aa 2)) (gx (cU W_Ways__sign (hr.mono (by decide)) (ab (ap aO (cC Z_Ways A_Wayscarried (aa 0)) (aa 1) (fun _ _=>rfl)) (ab (aj j3 ac (aa 2)) ah))) (bg (lU Z_Ways A_Wayscarried (aa 1) (aj j3 ac (aa 2)))))))
theorem oW:FnScope ki ["self","wire","bitset"] (ag fw):=⟨rfl,rfl,rfl,by decide +kernel,rfl,by decide +kernel,by decide +kernel⟩
theorem pc{f:Addr}{fd:FuncData}{dV:Value}(F:FunV K "flip" "Ways.flip" fw f fd dV)(T:Txt mg)(Z_Ways:ClN K "Ways")(A_Wayscarried:NaN K "Ways" "carried"):FnOk P w K mg base dE 1 f fd ["self","wire","bitset"] (zP K "Ways" aR):=
 uH (k:=0) (b:=g7) F oW fun cdv A outer s H E hr=>(bg (lU Z_Ways A_Wayscarried (aa 1) (aj iA (ap aO (cC Z_Ways A_Wayscarried (aa 0)) (aa 1) (fun _ _=>rfl)) (aa 2))))
theorem sc_Ways__cross:FnScope jb ["self","one","other"] (ag eF):=⟨rfl,rfl,rfl,by decide +kernel,rfl,by decide +kernel,by decide +kernel⟩
theorem mZ{f:Addr}{fd:FuncData}{dV:Value}(F:FunV K "cross" "Ways.cross" eF f fd dV)(T:Txt mg)(Z_Ways:ClN K "Ways")(A_Wayscarried:NaN K "Ways" "carried"):FnOk P w K mg base dE 1 f fd ["self","one","other"] (zP K "Ways" bY):=
 uH (k:=0) (b:=gg) F sc_Ways__cross fun cdv A outer s H E hr=>(gx (u4 3 sc_Ways__cross.nd (ap aO (cC Z_Ways A_Wayscarried (aa 0)) (aa 1) (fun _ _=>rfl))) (gx (lU Z_Ways A_Wayscarried (aa 1) (ap aO (cC Z_Ways A_Wayscarried (aa 0)) (aa 2) (fun _ _=>rfl))) (bg (lU Z_Ways A_Wayscarried (aa 2) (aa 3)))))
theorem jG:FnScope gB ["self","mark"] (ag db):=⟨rfl,rfl,rfl,by decide +kernel,rfl,by decide +kernel,by decide +kernel⟩
theorem jN{f:Addr}{fd:FuncData}{dV:Value}(F:FunV K "mark_set" "Ways.mark_set" db f fd dV)(T:Txt mg)(Z_Ways:ClN K "Ways")(A_Waysfirst_mark:NaN K "Ways" "first_mark"):FnOk P w K mg base dE 1 f fd ["self","mark"] (kW K aI):=
 iT (k:=0) (b:=d8) F jG fun cdv A outer s H E hr=>(aP (bG (aj j3 ac (aj bN (cC Z_Ways A_Waysfirst_mark (aa 0)) (aa 1)))))
theorem oU:FnScope kh ["self","wire"] (ag fq):=⟨rfl,rfl,rfl,by decide +kernel,rfl,by decide +kernel,by decide +kernel⟩
theorem pb{f:Addr}{fd:FuncData}{dV:Value}(F:FunV K "look" "Ways.look" fq f fd dV)(T:Txt mg)(Z_Ways:ClN K "Ways")(A_Wayscarried:NaN K "Ways" "carried")(A_Wayslooked:NaN K "Ways" "looked")(P_Ways__mark_set:CalV P w K mg base "Ways" "mark_set" 1 aI)(A_Waysties:NaN K "Ways" "ties"):FnOk P w K mg base dE 2 f fd ["self","wire"] (zP K "Ways" cg):=
 uH (k:=1) (b:=g6) F oU fun cdv A outer s H E hr=>(gx (qq Z_Ways A_Waysties (aj iA (ap aO (cC Z_Ways A_Wayscarried (aa 0)) (aa 1) (fun _ _=>rfl)) (rg P_Ways__mark_set (hr.mono (by decide)) (aa 0) (ab (cC Z_Ways A_Wayslooked (aa 0)) ah)))) (bg (AC Z_Ways A_Wayslooked (aj bN (cC Z_Ways A_Wayslooked (aa 0)) ac))))
theorem mI:FnScope i3 ["self","mark","row"] (ag eB):=⟨rfl,rfl,rfl,by decide +kernel,rfl,by decide +kernel,by decide +kernel⟩
theorem mX{f:Addr}{fd:FuncData}{dV:Value}(F:FunV K "where" "Ways.where" eB f fd dV)(T:Txt mg)(P_Ways__mark_set:CalV P w K mg base "Ways" "mark_set" 1 aI)(W_Ways__flip:CalW P w K mg base "Ways" "flip" 1 aR)(Z_Ways:ClN K "Ways")(A_Wayscarried:NaN K "Ways" "carried")(W_Ways__sign:CalW P w K mg base "Ways" "sign" 2 aQ):FnOk P w K mg base dE 3 f fd ["self","mark","row"] (zP K "Ways" bi):=
 uH (k:=2) (b:=eJ) F mI fun cdv A outer s H E hr=>(bg (ij (aN (dq hr.units) (ap aO (aa 2) ac (fun _ _=>rfl)) aV (aM _)) (bg (cU W_Ways__flip (hr.mono (by decide)) (ab (ap aO (aa 2) ac (fun _ _=>rfl)) (ab (rg P_Ways__mark_set (hr.mono (by decide)) (aa 0) (ab (aa 1) ah)) ah)))) (bg (cU W_Ways__sign (hr.mono (by decide)) (ab (rg P_Ways__mark_set (hr.mono (by decide)) (aa 0) (ab (aa 1) ah)) (ab (ap aO (cC Z_Ways A_Wayscarried (aa 0)) (ap aO (aa 2) ac (fun _ _=>rfl)) (fun _ _=>rfl)) ah))))))
theorem sk:FnScope oM ["self","row"] (ag gF):=⟨rfl,rfl,rfl,by decide +kernel,rfl,by decide +kernel,by decide +kernel⟩
theorem sF{f:Addr}{fd:FuncData}{dV:Value}(F:FunV K "go" "Ways.go" gF f fd dV)(T:Txt mg)(W_Ways__swing:CalW P w K mg base "Ways" "swing" 3 bX)(Z_Ways:ClN K "Ways")(A_Wayscarried:NaN K "Ways" "carried")(A_Wayspairs:NaN K "Ways" "pairs")(W_Ways__flip:CalW P w K mg base "Ways" "flip" 1 aR)(W_Ways__sign:CalW P w K mg base "Ways" "sign" 2 aQ)(W_Ways__cross:CalW P w K mg base "Ways" "cross" 1 bY)(W_Ways__look:CalW P w K mg base "Ways" "look" 2 cg)(W_Ways__where:CalW P w K mg base "Ways" "where" 3 bi):FnOk P w K mg base dE 4 f fd ["self","row"] (zP K "Ways" aF):=
 uH (k:=3) (b:=cm) F sk fun cdv A outer s H E hr=>(bg (ij (aN (dq hr.units) (ap aO (aa 1) ac (fun _ _=>rfl)) aV (aM _)) (bg (cU W_Ways__swing (hr.mono (by decide)) (ab (ap aO (aa 1) ac (fun _ _=>rfl)) ah))) (bg (ij (aN (dq hr.units) (ap aO (aa 1) ac (fun _ _=>rfl)) aV (aM _)) (bg (qq Z_Ways A_Wayspairs (bI (ab (ap aO (cC Z_Ways A_Wayscarried (aa 0)) (ap aO (aa 1) ac (fun _ _=>rfl)) (fun _ _=>rfl)) (ab (ap aO (aa 1) ac (fun _ _=>rfl)) ah))))) (bg (ij (aN (dq hr.units) (ap aO (aa 1) ac (fun _ _=>rfl)) aV (aM _)) (bg (cU W_Ways__flip (hr.mono (by decide)) (ab (ap aO (aa 1) ac (fun _ _=>rfl)) (ab ac ah)))) (bg (ij (aN (dq hr.units) (ap aO (aa 1) ac (fun _ _=>rfl)) aV (aM _)) (bg (cU W_Ways__flip (hr.mono (by decide)) (ab (ap aO (aa 1) ac (fun _ _=>rfl)) (ab (ap aO (cC Z_Ways A_Wayscarried (aa 0)) (ap aO (aa 1) ac (fun _ _=>rfl)) (fun _ _=>rfl)) ah)))) (bg (ij (aN (dq hr.units) (ap aO (aa 1) ac (fun _ _=>rfl)) aV (aM _)) (bg (cU W_Ways__sign (hr.mono (by decide)) (ab (ap aO (cC Z_Ways A_Wayscarried (aa 0)) (ap aO (aa 1) ac (fun _ _=>rfl)) (fun _ _=>rfl)) (ab (ap aO (cC Z_Ways A_Wayscarried (aa 0)) (ap aO (aa 1) ac (fun _ _=>rfl)) (fun _ _=>rfl)) ah)))) (bg (ij (aN (dq hr.units) (ap aO (aa 1) ac (fun _ _=>rfl)) aV (aM _)) (bg (cU W_Ways__cross (hr.mono (by decide)) (ab (ap aO (aa 1) ac (fun _ _=>rfl)) (ab (ap aO (aa 1) ac (fun _ _=>rfl)) ah)))) (bg (ij (aN (dq hr.units) (ap aO (aa 1) ac (fun _ _=>rfl)) aV (aM _)) (bg (cU W_Ways__look (hr.mono (by decide)) (ab (ap aO (aa 1) ac (fun _ _=>rfl)) ah))) (bg (cU W_Ways__where (hr.mono (by decide)) (ab (ap aO (aa 1) ac (fun _ _=>rfl)) (ab (ap aO (aa 1) ac (fun _ _=>rfl)) ah))))))))))))))))))
theorem sc_sum_of:FnScope oK ["circuit"] (ag io):=⟨rfl,rfl,rfl,by decide +kernel,rfl,by decide +kernel,by decide +kernel⟩
theorem wD{f:Addr}{fd:FuncData}{dV:Value}(F:FunV K "sum_of" "sum_of" io f fd dV)(T:Txt mg)(C_looks_in:Cal P w K mg base "looks_in" 1 cY [])(C_all_added:Cal P w K mg base "all_added" 1 cG [])(C_ties_in_order:Cal P w K mg base "ties_in_order" 1 bc [])(J_Ways:CalI P w K mg base "Ways" 1 fY)(W_Ways__go:CalW P w K mg base "Ways" "go" 4 aF)(Z_Ways:ClN K "Ways")(A_Wayscarried:NaN K "Ways" "carried")(A_Wayspairs:NaN K "Ways" "pairs")(A_Wayshidden:NaN K "Ways" "hidden")(A_Waysties:NaN K "Ways" "ties"):FnOk P w K mg base dE 5 f fd ["circuit"] (kW K dl):=
 iT (k:=4) (b:=oA) F sc_sum_of fun cdv A outer s H E hr=>(ar (be 1 sc_sum_of.nd (ap aO (aa 0) ac (fun _ _=>rfl))) (ar (be 2 sc_sum_of.nd (bZ C_looks_in (hr.mono (by decide)) rfl (ab (aa 0) ah))) (FG 3 J_Ways (hr.mono (by decide)) sc_sum_of.nd rfl (ab (aa 1) (ab (aa 2) ah)) (AB 4 PassesOwn.never rfl sc_sum_of.nd (dX (ap aO (aa 0) ac (fun _ _=>rfl))) (bg (cU W_Ways__go (hr.mono (by decide)) (ab (aa 4) ah)))) (ar (u7 5 sc_sum_of.nd (vars:=["wire"]) (caps:=[(1,"wires"),(3,"ways")]) (by change BlkOk (ag io).names oK _ _ _;exact⟨rfl,by decide +kernel,by decide +kernel,by decide +kernel,by decide +kernel⟩) rfl (gn rfl T.range (ab (aa 1) ah)) fD (fun _ _ _ _=>cR (i:=0) (show(["wire","wires","ways"]:List Str).Nodup by decide +kernel) rfl (Or.inl rfl) (.inr rfl)) (fun _ _ _ _=>(aj iA (ap aO (cC Z_Ways A_Wayscarried (aa 2)) (aa 0) (fun _ _=>rfl)) (aj j3 ac (aj bN (aj bN (aa 1) ac) (aa 0)))))) (ar (be 6 sc_sum_of.nd (bZ C_all_added (hr.mono (by decide)) rfl (ab ac (ab (bI ah) (ab (cC Z_Ways A_Wayspairs (aa 3)) ah))))) (aP (bG (bI (ab (bI (ab (aa 1) (ab (aa 2) ah))) (ab (eQ lA rfl T.len (by decide +kernel) (ab (cC Z_Ways A_Wayshidden (aa 3)) ah)) (ab (ap aO (aa 6) ac (fun _ _=>rfl)) (ab (ap aO (aa 6) ac (fun _ _=>rfl)) (ab (bZ C_ties_in_order (hr.mono (by decide)) rfl (ab (aj bN (cC Z_Ways A_Waysties (aa 3)) (aa 5)) ah)) (ab (d4 gS rfl T.tuple (by decide +kernel) (ab (cC Z_Ways A_Wayshidden (aa 3)) ah)) ah))))))))))))))
theorem lB:FnScope iH ["script","k"] (ag dL):=⟨rfl,rfl,rfl,by decide +kernel,rfl,by decide +kernel,by decide +kernel⟩
theorem lD{f:Addr}{fd:FuncData}{dV:Value}(F:FunV K "_law_cell_at" "_law_cell_at" dL f fd dV)(T:Txt mg):FnOk P w K mg base dE 1 f fd ["script","k"] (kW K bD):=
 iT (k:=0) (b:=dS) F lB fun cdv A outer s H E hr=>(ar (eK (aN Fz (aa 1) (eQ lA rfl T.len (by decide +kernel) (ab (aa 0) ah)) (aM _)) (aP (bG (ap aO (aa 0) (aa 1) (fun _ _=>rfl)))) dR) (aP (bG ac)))
theorem oS:FnScope kf ["cell"] (ag fg):=⟨rfl,rfl,rfl,by decide +kernel,rfl,by decide +kernel,by decide +kernel⟩
theorem o8{f:Addr}{fd:FuncData}{dV:Value}(F:FunV K "_law_mixed" "_law_mixed" fg f fd dV)(T:Txt mg):FnOk P w K mg base dE 1 f fd ["cell"] (kW K bt):=
 iT (k:=0) (b:=gY) F oS fun cdv A outer s H E hr=>(aP (bG (aj dn (aj bN (aj nW (aj dn (aa 0) (aj HR ac ac)) ac) ac) ac)))
theorem oQ:FnScope ke ["found"] (ag e9):=⟨rfl,rfl,rfl,by decide +kernel,rfl,by decide +kernel,by decide +kernel⟩
theorem o6{f:Addr}{fd:FuncData}{dV:Value}(F:FunV K "_law_whole" "_law_whole" e9 f fd dV)(T:Txt mg):FnOk P w K mg base dE 1 f fd ["found"] (kW K cK):=
 iT (k:=0) (b:=gW) F oQ fun cdv A outer s H E hr=>(aP (bG (zB (nS (T:="int") rfl T.isinstance rfl T.int (by decide +kernel) (by decide) (by decide) (aa 0)) (zw (Fu (nS (T:="bool") rfl T.isinstance rfl T.bool (by decide +kernel) (by decide) (by decide) (aa 0)))))))
theorem sc__law_row_by:FnScope iZ ["cell","wires"] (ag eA):=⟨rfl,rfl,rfl,by decide +kernel,rfl,by decide +kernel,by decide +kernel⟩
theorem mW{f:Addr}{fd:FuncData}{dV:Value}(F:FunV K "_law_row_by" "_law_row_by" eA f fd dV)(T:Txt mg)(C__law_mixed:Cal P w K mg base "_law_mixed" 1 bt []):FnOk P w K mg base dE 2 f fd ["cell","wires"] (kW K aK):=
 iT (k:=1) (b:=cj) F sc__law_row_by fun cdv A outer s H E hr=>(ar (be 2 sc__law_row_by.nd (bZ C__law_mixed (hr.mono (by decide)) rfl (ab (aa 0) ah))) (ar (be 3 sc__law_row_by.nd (aj dn (aj ls (aa 2) ac) (aa 1))) (ar (be 4 sc__law_row_by.nd (aj bN ac (aj dn (aj ls (aa 2) ac) ac))) (ar (be 5 sc__law_row_by.nd (aj dn (aa 2) ac)) (ar (eK (aN (dq hr.units) (aa 1) ac (aM _)) (aP (bG (ap aO (nR (ab (bI (ab aV (ab ac ah))) (ab (bI (ab aV (ab ac (ab (aa 4) ah)))) (ab (bI (ab aV (ab ac ah))) ah)))) (aj dn (aa 5) ac) (fun _ _=>rfl)))) dR) (ar (be 6 sc__law_row_by.nd (aj dn (aj bN (aj bN (aa 3) ac) (aj dn (aj ls (aa 2) ac) (aj s9 (aa 1) ac))) (aa 1))) (ar (eK (aN (dq hr.units) (aa 5) ac (aM _)) (aP (bG (bI (ab aV (ab (aa 3) ah))))) dR) (ar (eK (aN (dq hr.units) (aa 5) ac (aM _)) (aP (bG (bI (ab aV (ab (aa 3) (ab (aa 4) ah)))))) dR) (ar (eK (aN (dq hr.units) (aa 5) ac (aM _)) (aP (bG (bI (ab aV (ab (aa 3) ah))))) dR) (aP (bG (bI (ab (ap aO (nR (ab aV (ab aV (ab aV ah)))) (aj s9 (aa 5) ac) (fun _ _=>rfl)) (ab (aa 3) (ab (aa 6) ah)))))))))))))))
theorem sc__law_rows_by:FnScope iG ["cells","wires","swings","looks"] (ag dI):=⟨rfl,rfl,rfl,by decide +kernel,rfl,by decide +kernel,by decide +kernel⟩
theorem lC{f:Addr}{fd:FuncData}{dV:Value}(F:FunV K "_law_rows_by" "_law_rows_by" dI f fd dV)(T:Txt mg)(C__law_row_by:Cal P w K mg base "_law_row_by" 2 aK [])(C__law_mixed:Cal P w K mg base "_law_mixed" 1 bt []):FnOk P w K mg base dE 3 f fd ["cells","wires","swings","looks"] (kW K bC):=
 iT (k:=2) (b:=fQ) F sc__law_rows_by fun cdv A outer s H E hr=>(ar (xC 4 sc__law_rows_by.nd ah) (ar (be 5 sc__law_rows_by.nd ac) (ar (ku PassesOwn.never rfl (dX (aa 0)) (iQ 6 sc__law_rows_by.nd) (ar (be 7 sc__law_rows_by.nd (bZ C__law_row_by (hr.mono (by decide)) rfl (ab (aa 6) (ab (aa 1) ah)))) (ar (be 8 sc__law_rows_by.nd (aj ls (bZ C__law_mixed (hr.mono (by decide)) rfl (ab (aa 6) ah)) ac)) (ar (eK (WV.tv (qg (aN (dq hr.units) (aj dn (aa 8) ac) ac (aM _)) (lQ (aN Fz (aa 5) (aa 3) (aM _))))) (ar (be 7 sc__law_rows_by.nd (bI (ab aV (ab (aj dn (aj ls (aa 8) ac) (aa 1)) ah)))) (aP (be 5 sc__law_rows_by.nd (aj bN (aa 5) ac)))) (aP (eK (WV.tv (qg (aN (dq hr.units) (aj dn (aa 8) ac) ac (aM _)) (lQ (aN zE (aa 5) ac (aM _))))) (ar (be 9 sc__law_rows_by.nd (aj dn (aj ls (aa 8) ac) (aa 1))) (aP (be 7 sc__law_rows_by.nd (bI (ab aV (ab (aj dn (aj ls (aa 8) ac) (aa 5)) (ab (ap aO (nR (ab (bI (ab aV (ab (aa 9) ah))) (ab (bI (ab aV (ab (aa 9) (ab ac ah)))) ah))) (aj dn (aj ls (aa 8) ac) ac) (fun _ _=>rfl)) ah))))))) (aP (eK (aN (dq hr.units) (ap aO (aa 7) ac (fun _ _=>rfl)) aV (aM _)) (ar (be 2 sc__law_rows_by.nd (aj s9 (aa 2) ac)) (aP (eK (aN Fz (aa 2) ac (aM _)) (aP (be 7 sc__law_rows_by.nd (bI (ab aV (ab (ap aO (aa 7) ac (fun _ _=>rfl)) (ab (aj bN ac (aj dn (aa 8) ac)) ah)))))) dR))) dR))))) (aP (xF 4 (aa 7))))))) (aP (Cw 4 (bG (d4 gS rfl T.tuple (by decide +kernel) (ab (aa 4) ah))))))))
theorem sc__law_add:FnScope jq ["turns","bitset","e"] (ag gE):=⟨rfl,rfl,rfl,by decide +kernel,rfl,by decide +kernel,by decide +kernel⟩
theorem qJ{f:Addr}{fd:FuncData}{dV:Value}(F:FunV K "_law_add" "_law_add" gE f fd dV)(T:Txt mg):FnOk P w K mg base dE 1 f fd ["turns","bitset","e"] (GH K aY):=
 HH (k:=0) (b:=ck) F sc__law_add (by decide) fun cdv A outer s H E hr=>(oh (xB (aN (dq hr.units) (aj dn (aa 1) ac) ac (aM _)) (oh (rY (xu hr.units) ac (aj dn (aj bN (BZ 0 (xu hr.units) ac (fun _ _=>rfl)) (aa 2)) ac)) (oh (u6 2 sc__law_add.nd (aj s9 ac (aa 2)) (by decide)) (rq (u6 1 sc__law_add.nd (aj s9 (aa 1) ac) (by decide))))) vT) (rq (xB (aN zE (aa 1) ac (aM _)) (rq (rY (xu hr.units) (aa 1) (aj dn (aj bN (sX 0 (xu hr.units) (aa 1) ac ⟨rfl,rfl,rfl,rfl⟩) (aa 2)) ac))) vT)))
theorem oR:FnScope hE ["turns"] (ag dJ):=⟨rfl,rfl,rfl,by decide +kernel,rfl,by decide +kernel,by decide +kernel⟩
theorem o7{f:Addr}{fd:FuncData}{dV:Value}(F:FunV K "_law_pairs" "_law_pairs" dJ f fd dV)(T:Txt mg):FnOk P w K mg base dE 1 f fd ["turns"] (kW K b8):=
 iT (k:=0) (b:=gX) F oR fun cdv A outer s H E hr=>(aP (bG (d4 gS rfl T.tuple (by decide +kernel) (ab (fP (vars:=["bitset"]) (caps:=[(0,"turns")]) (by change BlkOk (ag dJ).names hE _ _ _;exact⟨rfl,by decide +kernel,by decide +kernel,by decide +kernel,by decide +kernel⟩) rfl (dX (wW rfl T.sorted (aa 0))) fD (fun _ _ _ _=>cR (i:=0) (show(["bitset","turns"]:List Str).Nodup by decide +kernel) rfl (Or.inl rfl) (.inr rfl)) (fun _ _ _ _=>(WV.tv (qg (aN zE (aa 0) ac (aM _)) (lQ (aN zE (nT (xu hr.units) (aa 1) (aa 0) (fun _ _=>rfl)) ac (aM _)))))) (fun _ _ _ _=>(bI (ab (aa 0) (ab (nT (xu hr.units) (aa 1) (aa 0) (fun _ _=>rfl)) ah))))) ah))))
theorem qA:FnScope iF ["turns","one","two"] (ag fV):=⟨rfl,rfl,rfl,by decide +kernel,rfl,by decide +kernel,by decide +kernel⟩
theorem oZ{f:Addr}{fd:FuncData}{dV:Value}(F:FunV K "_law_sign" "_law_sign" fV f fd dV)(T:Txt mg)(M__law_add:CalM P w K mg base "_law_add" 1 aY):FnOk P w K mg base dE 2 f fd ["turns","one","two"] (GH K bb):=
 HH (k:=1) (b:=cZ) F qA (by decide) fun cdv A outer s H E hr=>(FE (gy (gC 0 M__law_add (hr.mono (by decide)) rfl (ab (aa 1) (ab ac ah))) (gy (gC 0 M__law_add (hr.mono (by decide)) rfl (ab (aa 2) (ab ac ah))) (b9 (gC 0 M__law_add (hr.mono (by decide)) rfl (ab (aj iA (aa 1) (aa 2)) (ab ac ah)))))))
theorem sc__law_woven:FnScope g9 ["row","sets","turns","marks","fresh"] (ag e8):=⟨rfl,rfl,rfl,by decide +kernel,rfl,by decide +kernel,by decide +kernel⟩
theorem mU{f:Addr}{fd:FuncData}{dV:Value}(F:FunV K "_law_woven" "_law_woven" e8 f fd dV)(T:Txt mg)(M__law_sign:CalM P w K mg base "_law_sign" 2 bb)(M__law_add:CalM P w K mg base "_law_add" 1 aY):FnOk P w K mg base dE 3 f fd ["row","sets","turns","marks","fresh"] (AJ K ci):=
 HG (k:=2) (b:=aC) F sc__law_woven (by decide) fun cdv A outer s H E hr=>(gy (u5 5 sc__law_woven.nd (ap aO (aa 0) (CY C2 ac) (fun _ _=>rfl))) (b9 (ik (aN (dq hr.units) (ap aO (aa 0) ac (fun _ _=>rfl)) aV (aM _)) (gy (gC 2 M__law_sign (hr.mono (by decide)) rfl (ab (dZ 1 (aa 5) (fun _ _=>rfl)) (ab (aa 4) ah))) (b9 (iL 1 (aa 5) (aa 4)))) (b9 (ik (aN (dq hr.units) (ap aO (aa 0) ac (fun _ _=>rfl)) aV (aM _)) (b9 (gC 2 M__law_add (hr.mono (by decide)) rfl (ab (dZ 1 (ap aO (aa 0) ac (fun _ _=>rfl)) (fun _ _=>rfl)) (ab (ap aO (aa 0) ac (fun _ _=>rfl)) ah)))) (b9 (ik (aN (dq hr.units) (ap aO (aa 0) ac (fun _ _=>rfl)) aV (aM _)) (b9 (iL 1 (aa 5) (aj iA (dZ 1 (aa 5) (fun _ _=>rfl)) ac))) (b9 (ik (WV.tv (qg (aN (dq hr.units) (ap aO (aa 0) ac (fun _ _=>rfl)) aV (aM _)) (lQ (aN (dq hr.units) (ap aO (ap aO (aa 0) ac (fun _ _=>rfl)) ac (fun _ _=>rfl)) aV (aM _))))) (b9 (iL 1 (ap aO (ap aO (aa 0) ac (fun _ _=>rfl)) ac (fun _ _=>rfl)) (aj iA (dZ 1 (ap aO (ap aO (aa 0) ac (fun _ _=>rfl)) ac (fun _ _=>rfl)) (fun _ _=>rfl)) (ap aO (aa 3) (ap aO (aa 0) ac (fun _ _=>rfl)) (fun _ _=>rfl))))) (b9 (ik (aN (dq hr.units) (ap aO (aa 0) ac (fun _ _=>rfl)) aV (aM _)) (b9 (gC 2 M__law_sign (hr.mono (by decide)) rfl (ab (dZ 1 (ap aO (ap aO (aa 0) ac (fun _ _=>rfl)) ac (fun _ _=>rfl)) (fun _ _=>rfl)) (ab (ap aO (aa 3) (ap aO (aa 0) ac (fun _ _=>rfl)) (fun _ _=>rfl)) ah)))) (b9 (ik (aN (dq hr.units) (ap aO (aa 0) ac (fun _ _=>rfl)) aV (aM _)) (b9 (iL 1 (aa 5) (aj iA (dZ 1 (ap aO (aa 0) ac (fun _ _=>rfl)) (fun _ _=>rfl)) (dZ 1 (aa 5) (fun _ _=>rfl))))) (b9 (ik (aN (dq hr.units) (ap aO (aa 0) ac (fun _ _=>rfl)) aV (aM _)) (b9 (gC 2 M__law_sign (hr.mono (by decide)) rfl (ab (dZ 1 (ap aO (aa 0) ac (fun _ _=>rfl)) (fun _ _=>rfl)) (ab (dZ 1 (aa 5) (fun _ _=>rfl)) ah)))) (b9 (ik (aN (dq hr.units) (ap aO (aa 0) ac (fun _ _=>rfl)) aV (aM _)) (gy (u5 6 sc__law_woven.nd (dZ 1 (aa 5) (fun _ _=>rfl))) (gy (iL 1 (aa 5) (dZ 1 (ap aO (aa 0) ac (fun _ _=>rfl)) (fun _ _=>rfl))) (b9 (iL 1 (ap aO (aa 0) ac (fun _ _=>rfl)) (aa 6))))) Cf)))))))))))))))))
theorem sc__law_sum_of:FnScope cQ ["wires","rows"] (ag bO):=⟨rfl,rfl,rfl,by decide +kernel,rfl,by decide +kernel,by decide +kernel⟩
theorem mV{f:Addr}{fd:FuncData}{dV:Value}(F:FunV K "_law_sum_of" "_law_sum_of" bO f fd dV)(T:Txt mg)(C__law_pairs:Cal P w K mg base "_law_pairs" 1 b8 [])(U__law_woven:CalM2 P w K mg base "_law_woven" 3 ci):FnOk P w K mg base dE 4 f fd ["wires","rows"] (kW K bP):=
 iT (k:=3) (b:=gb) F sc__law_sum_of fun cdv A outer s H E hr=>(ar (be 2 sc__law_sum_of.nd (eQ lA rfl T.len (by decide +kernel) (ab (fP (vars:=["row"]) (caps:=[]) (by change BlkOk (ag bO).names cQ _ _ _;exact⟨rfl,by decide +kernel,by decide +kernel,by decide +kernel,by decide +kernel⟩) rfl (dX (aa 1)) fD (fun _ _ _ _=>cR (i:=0) (show(["row"]:List Str).Nodup by decide +kernel) rfl (Or.inl rfl) (.inr rfl)) (fun _ _ _ _=>(aN (dq hr.units) (ap aO (aa 0) ac (fun _ _=>rfl)) aV (aM _))) (fun _ _ _ _=>(aa 0))) ah))) (ar (u7 3 sc__law_sum_of.nd (vars:=["m"]) (caps:=[(0,"wires")]) (by change BlkOk (ag bO).names cQ _ _ _;exact⟨rfl,by decide +kernel,by decide +kernel,by decide +kernel,by decide +kernel⟩) rfl (gn rfl T.range (ab (aa 2) ah)) fD (fun _ _ _ _=>cR (i:=0) (show(["m","wires"]:List Str).Nodup by decide +kernel) rfl (Or.inl rfl) (.inr rfl)) (fun _ _ _ _=>(aj j3 ac (aj bN (aj bN (aj nW ac (aa 1)) ac) (aa 0))))) (ar (xD 4 sc__law_sum_of.nd (vars:=["j"]) (caps:=[]) (by change BlkOk (ag bO).names cQ _ _ _;exact⟨rfl,by decide +kernel,by decide +kernel,by decide +kernel,by decide +kernel⟩) rfl (gn rfl T.range (ab (aa 0) ah)) fD (fun _ _ _ _=>cR (i:=0) (show(["j"]:List Str).Nodup by decide +kernel) rfl (Or.inl rfl) (.inr rfl)) (fun _ _ _ _=>(aj j3 ac (aj bN ac (aa 0))))) (ar (AF 5 sc__law_sum_of.nd ac ac) (ar (AG 6 sc__law_sum_of.nd) (ar (xC 7 sc__law_sum_of.nd ah) (ar (be 8 sc__law_sum_of.nd ac) (ar (ku PassesOwn.never rfl (dX (aa 1)) (iQ 9 sc__law_sum_of.nd) (ar (be 10 sc__law_sum_of.nd (aj bN (aj bN (aj bN (aj nW ac (aa 0)) ac) (aa 2)) (BY 7 rfl T.len))) (ar (eK (aN (dq hr.units) (ap aO (aa 9) ac (fun _ _=>rfl)) aV (aM _)) (ar (qt 6 (xu hr.units) (aj iA (dZ 4 (ap aO (aa 9) ac (fun _ _=>rfl)) (fun _ _=>rfl)) (ap aO (aa 3) (aa 8) (fun _ _=>rfl))) p7) (aP (be 8 sc__law_sum_of.nd (aj bN (aa 8) ac)))) (aP (AE 4 5 U__law_woven (hr.mono (by decide)) rfl (aa 9) (ab (aa 3) (ab (aj j3 ac (aa 10)) ah))))) (aP (eK (aN (dq hr.units) (ap aO (aa 9) ac (fun _ _=>rfl)) aV (aM _)) (aP (xF 7 (aa 10))) dR))))) (ar (ku PassesOwn.never rfl (gn rfl T.range (ab (aa 0) ah)) (iQ 11 sc__law_sum_of.nd) (aP (qt 6 (xu hr.units) (aj iA (dZ 4 (aa 11) (fun _ _=>rfl)) (aj j3 ac (aj bN (aj bN (aa 0) ac) (aa 11)))) p7))) (ar (be 12 sc__law_sum_of.nd (d4 gS rfl T.tuple (by decide +kernel) (ab (fP (vars:=["bitset"]) (caps:=[]) (by change BlkOk (ag bO).names cQ _ _ _;exact⟨rfl,by decide +kernel,by decide +kernel,by decide +kernel,by decide +kernel⟩) rfl (dX (zy 6 rfl T.sorted)) fD (fun _ _ _ _=>cR (i:=0) (show(["bitset"]:List Str).Nodup by decide +kernel) rfl (Or.inl rfl) (.inr rfl)) (fun _ _ _ _=>(aN zE (aa 0) ac (aM _))) (fun _ _ _ _=>(aa 0))) ah))) (aP (Dl 7 5 (bG (bI (ab (bI (ab (aa 0) (ab (aa 2) ah))) (ab (eQ lA rfl T.len (by decide +kernel) (ab (aa 7) ah)) (ab (nT (xu hr.units) (aa 5) ac (fun _ _=>rfl)) (ab (bZ C__law_pairs (hr.mono (by decide)) rfl (ab (aa 5) ah)) (ab (aa 12) (ab (d4 gS rfl T.tuple (by decide +kernel) (ab (aa 7) ah)) ah))))))))))))))))))))
theorem jF:FnScope en ["parts"] (ag cy):=⟨rfl,rfl,rfl,by decide +kernel,rfl,by decide +kernel,by decide +kernel⟩
theorem jM{f:Addr}{fd:FuncData}{dV:Value}(F:FunV K "_law_all_whole" "_law_all_whole" cy f fd dV)(T:Txt mg)(C__law_whole:Cal P w K mg base "_law_whole" 1 cK []):FnOk P w K mg base dE 2 f fd ["parts"] (kW K aZ):=
 iT (k:=1) (b:=d7) F jF fun cdv A outer s H E hr=>(aP (bG (zA (dq hr.units) (eQ lA rfl T.len (by decide +kernel) (ab (fP (vars:=["part"]) (caps:=[]) (by change BlkOk (ag cy).names en _ _ _;exact⟨rfl,by decide +kernel,by decide +kernel,by decide +kernel,by decide +kernel⟩) rfl (dX (aa 0)) fD (fun _ _ _ _=>cR (i:=0) (show(["part"]:List Str).Nodup by decide +kernel) rfl (Or.inl rfl) (.inr rfl)) (fun _ _ _ _=>(kq (km (bZ C__law_whole (hr.mono (by decide)) rfl (ab (aa 0) ah))))) (fun _ _ _ _=>(aa 0))) ah)) ac (aM _))))
theorem sc__law_same_sum:FnScope hZ ["found","due"] (ag dt):=⟨rfl,rfl,rfl,by decide +kernel,rfl,by decide +kernel,by decide +kernel⟩
theorem kF{f:Addr}{fd:FuncData}{dV:Value}(F:FunV K "_law_same_sum" "_law_same_sum" dt f fd dV)(T:Txt mg)(C__law_all_whole:Cal P w K mg base "_law_all_whole" 2 aZ []):FnOk P w K mg base dE 3 f fd ["found","due"] (kW K bd):=
 iT (k:=2) (b:=eW) F sc__law_same_sum fun cdv A outer s H E hr=>(ar (eK (WV.tv (xl (kq (km (nS (T:="tuple") rfl T.isinstance rfl T.tuple (by decide +kernel) (by decide) (by decide) (aa 0)))) (xl (aN (zD hr.units) (eQ lA rfl T.len (by decide +kernel) (ab (aa 0) ah)) ac (aM _)) (xk (aN (zD hr.units) (aa 0) (aa 1) (aM _)))))) (aP (bG p7)) dR) (ar (ku PassesOwn.never rfl (dX (nR (ab ac (ab ac (ab ac (ab ac ah)))))) (iQ 2 sc__law_same_sum.nd) (aP (eK (kq (km (nS (T:="tuple") rfl T.isinstance rfl T.tuple (by decide +kernel) (by decide) (by decide) (ap aO (aa 0) (aa 2) (fun _ _=>rfl))))) (aP (bG p7)) dR))) (ar (ku PassesOwn.never rfl (dX (ap aO (aa 0) ac (fun _ _=>rfl))) (iQ 3 sc__law_same_sum.nd) (aP (eK (WV.tv (xl (kq (km (nS (T:="tuple") rfl T.isinstance rfl T.tuple (by decide +kernel) (by decide) (by decide) (aa 3)))) (xk (kq (km (bZ C__law_all_whole (hr.mono (by decide)) rfl (ab (aa 3) ah))))))) (aP (bG p7)) dR))) (aP (bG (bZ C__law_all_whole (hr.mono (by decide)) rfl (ab (aj bN (aj bN (aj bN (ap aO (aa 0) ac (fun _ _=>rfl)) (sW (aa 0) (lZ ac) (lZ ac))) (ap aO (aa 0) ac (fun _ _=>rfl))) (ap aO (aa 0) ac (fun _ _=>rfl))) ah)))))))
theorem sc_law:FnScope C4 ["script"] (ag jJ):=⟨rfl,rfl,rfl,by decide +kernel,rfl,by decide +kernel,by decide +kernel⟩
theorem Ea{f:Addr}{fd:FuncData}{dV:Value}(F:FunV K "law" "law" jJ f fd dV)(T:Txt mg)(C__law_rows_by:Cal P w K mg base "_law_rows_by" 3 bC [])(C__law_sum_of:Cal P w K mg base "_law_sum_of" 4 bP [])(C__law_same_sum:Cal P w K mg base "_law_same_sum" 3 bd [])(C__law_cell_at:Cal P w K mg base "_law_cell_at" 1 bD [])(C_sum_of:Cal P w K mg base "sum_of" 5 dl []):FnOk P w K mg base dE 6 f fd ["script"] (kW K sR):=
 iT (k:=5) (b:=zH) F sc_law fun cdv A outer s H E hr=>(ar (be 1 sc_law.nd (aj bN ac (aj dn (bZ C__law_cell_at (hr.mono (by decide)) rfl (ab (aa 0) (ab ac ah))) ac))) (ar (be 2 sc_law.nd (bZ C__law_rows_by (hr.mono (by decide)) rfl (ab (sW (aa 0) (lZ ac) (lZ ac)) (ab (aa 1) (ab ac (ab ac ah)))))) (ar (be 3 sc_law.nd (bI (ab (aa 1) (ab (aa 2) ah)))) (ar (be 4 sc_law.nd (bZ C__law_sum_of (hr.mono (by decide)) rfl (ab (aa 1) (ab (aa 2) ah)))) (ar (eK (kq (km (bZ C__law_same_sum (hr.mono (by decide)) rfl (ab (bZ C_sum_of (hr.mono (by decide)) rfl (ab (aa 3) ah)) (ab (aa 4) ah))))) (aP (bG p7)) dR) (aP (bG (zB (bZ C__law_same_sum (hr.mono (by decide)) rfl (ab (bZ C_sum_of (hr.mono (by decide)) rfl (ab (aa 3) ah)) (ab (aa 4) ah))) (zw (zA (dq hr.units) (aa 3) (bI (ab (aa 1) (ab (aa 2) ah))) (aM _)))))))))))
end
theorem tH:bF "looks_in" fF ["circuit"]:=fun _ _ _ _ _ _ us hl=>by obtain⟨_,rfl⟩:=sO hl;exact rfl
theorem rA:bF "all_added" eL ["turn","turns","pairs"]:=fun _ _ _ _ _ _ us hl=>by obtain⟨_,_,_,rfl⟩:=qU hl;exact rfl
theorem xc:bF "signed" jI ["one","other"]:=fun _ _ _ _ _ _ us hl=>by obtain⟨_,_,rfl⟩:=pf hl;exact rfl
theorem kR:bF "ties_in_order" cL ["ties"]:=fun _ _ _ _ _ _ us hl=>by obtain⟨_,rfl⟩:=sO hl;exact rfl
theorem j7:eY "__init__" "Ways.__init__" cz ["self","wires","looks"]:=fun _ _ _ _ _ _ us hl=>by obtain⟨_,_,_,rfl⟩:=qU hl;exact rfl
theorem pH:eY "sign" "Ways.sign" fj ["self","one","other"]:=fun _ _ _ _ _ _ us hl=>by obtain⟨_,_,_,rfl⟩:=qU hl;exact rfl
theorem oy:eY "swing" "Ways.swing" eE ["self","wire"]:=fun _ _ _ _ _ _ us hl=>by obtain⟨_,_,rfl⟩:=pf hl;exact rfl
theorem pJ:eY "flip" "Ways.flip" fw ["self","wire","bitset"]:=fun _ _ _ _ _ _ us hl=>by obtain⟨_,_,_,rfl⟩:=qU hl;exact rfl
theorem oz:eY "cross" "Ways.cross" eF ["self","one","other"]:=fun _ _ _ _ _ _ us hl=>by obtain⟨_,_,_,rfl⟩:=qU hl;exact rfl
theorem j6:eY "mark_set" "Ways.mark_set" db ["self","mark"]:=fun _ _ _ _ _ _ us hl=>by obtain⟨_,_,rfl⟩:=pf hl;exact rfl
theorem pI:eY "look" "Ways.look" fq ["self","wire"]:=fun _ _ _ _ _ _ us hl=>by obtain⟨_,_,rfl⟩:=pf hl;exact rfl
theorem ox:eY "where" "Ways.where" eB ["self","mark","row"]:=fun _ _ _ _ _ _ us hl=>by obtain⟨_,_,_,rfl⟩:=qU hl;exact rfl
theorem tJ:eY "go" "Ways.go" gF ["self","row"]:=fun _ _ _ _ _ _ us hl=>by obtain⟨_,_,rfl⟩:=pf hl;exact rfl
theorem xb:bF "sum_of" io ["circuit"]:=fun _ _ _ _ _ _ us hl=>by obtain⟨_,rfl⟩:=sO hl;exact rfl
theorem lM:bF "_law_cell_at" dL ["script","k"]:=fun _ _ _ _ _ _ us hl=>by obtain⟨_,_,rfl⟩:=pf hl;exact rfl
theorem pG:bF "_law_mixed" fg ["cell"]:=fun _ _ _ _ _ _ us hl=>by obtain⟨_,rfl⟩:=sO hl;exact rfl
theorem pE:bF "_law_whole" e9 ["found"]:=fun _ _ _ _ _ _ us hl=>by obtain⟨_,rfl⟩:=sO hl;exact rfl
theorem ou:bF "_law_row_by" eA ["cell","wires"]:=fun _ _ _ _ _ _ us hl=>by obtain⟨_,_,rfl⟩:=pf hl;exact rfl
theorem lL:bF "_law_rows_by" dI ["cells","wires","swings","looks"]:=fun _ _ _ _ _ _ us hl=>by obtain⟨_,_,_,_,rfl⟩:=Hl hl;exact rfl
theorem tI:bF "_law_add" gE ["turns","bitset","e"]:=fun _ _ _ _ _ _ us hl=>by obtain⟨_,_,_,rfl⟩:=qU hl;exact rfl
theorem pF:bF "_law_pairs" dJ ["turns"]:=fun _ _ _ _ _ _ us hl=>by obtain⟨_,rfl⟩:=sO hl;exact rfl
theorem rB:bF "_law_sign" fV ["turns","one","two"]:=fun _ _ _ _ _ _ us hl=>by obtain⟨_,_,_,rfl⟩:=qU hl;exact rfl
theorem pC:bF "_law_woven" e8 ["row","sets","turns","marks","fresh"]:=fun _ _ _ _ _ _ us hl=>by obtain⟨_,_,_,_,_,rfl⟩:=JH hl;exact rfl
theorem ot:bF "_law_sum_of" bO ["wires","rows"]:=fun _ _ _ _ _ _ us hl=>by obtain⟨_,_,rfl⟩:=pf hl;exact rfl
theorem j5:bF "_law_all_whole" cy ["parts"]:=fun _ _ _ _ _ _ us hl=>by obtain⟨_,rfl⟩:=sO hl;exact rfl
theorem kS:bF "_law_same_sum" dt ["found","due"]:=fun _ _ _ _ _ _ us hl=>by obtain⟨_,_,rfl⟩:=pf hl;exact rfl
theorem FK{l:PySem.W.OpenLaw}{w:World}{K:PySem.W.Frag}{h:Heap}{mg:Str->Option Value}{fa f26 wc_Ways:Addr}{od26 an26:Option Addr}{sl26:Array (Option Value)}{oc26 kV26 dc26 pm26 cd26 ct26:Value}(X:K.In h)(G:h.Ns mainGlobals mg)(hfa:mg "law" = some (.ref fa))
  (wa_Ways:PySem.W.nsIn K mainGlobals "Ways" = some (some (.ref wc_Ways)))
  (wpg_Ways:PySem.W.plainGet K wc_Ways Str.empty=true)
  (whd_Ways:PySem.W.hasDictIn K wc_Ways=true)
  (wpo_Ways:PySem.W.plainOver K wc_Ways=true)
  (wsa_Ways:PySem.W.findIn K (.ref wc_Ways) "__setattr__" = some (some (.builtin "object.__setattr__")))
  (wmk_Ways:PySem.W.makesIn K wc_Ways=true)
  (wkc_Ways:PySem.W.keepIn K (.ref wc_Ways)=true)
  (wncarried_Ways:PySem.W.findIn K (.ref wc_Ways) "carried" = some none)
  (wnpairs_Ways:PySem.W.findIn K (.ref wc_Ways) "pairs" = some none)
  (wnties_Ways:PySem.W.findIn K (.ref wc_Ways) "ties" = some none)
  (wnhidden_Ways:PySem.W.findIn K (.ref wc_Ways) "hidden" = some none)
  (wnfirst_mark_Ways:PySem.W.findIn K (.ref wc_Ways) "first_mark" = some none)
  (wnfirst_hidden_Ways:PySem.W.findIn K (.ref wc_Ways) "first_hidden" = some none)
  (wnlooked_Ways:PySem.W.findIn K (.ref wc_Ways) "looked" = some none)
  (D0:DefIn K "looks_in" "looks_in" fF)
  (D1:DefIn K "all_added" "all_added" eL)
  (D2:DefIn K "signed" "signed" jI)
  (D3:DefIn K "ties_in_order" "ties_in_order" cL)
  (D4:MethIn K wc_Ways "__init__" "Ways.__init__" cz)
  (D5:MethIn K wc_Ways "sign" "Ways.sign" fj)
  (D6:MethIn K wc_Ways "swing" "Ways.swing" eE)
  (D7:MethIn K wc_Ways "flip" "Ways.flip" fw)
  (D8:MethIn K wc_Ways "cross" "Ways.cross" eF)
  (D9:MethIn K wc_Ways "mark_set" "Ways.mark_set" db)
  (D10:MethIn K wc_Ways "look" "Ways.look" fq)
  (D11:MethIn K wc_Ways "where" "Ways.where" eB)
  (D12:MethIn K wc_Ways "go" "Ways.go" gF)
  (D13:DefIn K "sum_of" "sum_of" io)
  (D14:DefIn K "_law_cell_at" "_law_cell_at" dL)
  (D15:DefIn K "_law_mixed" "_law_mixed" fg)
  (D16:DefIn K "_law_whole" "_law_whole" e9)
  (D17:DefIn K "_law_row_by" "_law_row_by" eA)
  (D18:DefIn K "_law_rows_by" "_law_rows_by" dI)
  (D19:DefIn K "_law_add" "_law_add" gE)
  (D20:DefIn K "_law_pairs" "_law_pairs" dJ)
  (D21:DefIn K "_law_sign" "_law_sign" fV)
  (D22:DefIn K "_law_woven" "_law_woven" e8)
  (D23:DefIn K "_law_sum_of" "_law_sum_of" bO)
  (D24:DefIn K "_law_all_whole" "_law_all_whole" cy)
  (D25:DefIn K "_law_same_sum" "_law_same_sum" dt)
  (a26:PySem.W.nsIn K mainGlobals "law" = some (some (.ref f26))) (l26:K.lookup f26=some ⟨oc26,od26,.func (PySem.W.fnOf "law" "law" (eI jJ) (cx jJ) (ag jJ) .none kV26 dc26 pm26 an26 cd26 ct26),sl26⟩) (c26:PySem.W.codeIn K cd26 "law" = true) (k26:PySem.W.keepIn K (.ref f26)=true)
  (z_len:PySem.W.nsIn K mainGlobals "len" = some none)
  (z_dict:PySem.W.nsIn K mainGlobals "dict" = some none)
  (z_tuple:PySem.W.nsIn K mainGlobals "tuple" = some none)
  (z_sorted:PySem.W.nsIn K mainGlobals "sorted" = some none)
  (z_set:PySem.W.nsIn K mainGlobals "set" = some none)
  (z_range:PySem.W.nsIn K mainGlobals "range" = some none)
  (z_isinstance:PySem.W.nsIn K mainGlobals "isinstance" = some none)
  (z_int:PySem.W.nsIn K mainGlobals "int" = some none)
  (z_bool:PySem.W.nsIn K mainGlobals "bool" = some none)
   :∃fd:FuncData,(∀(s:Shared) (v:Value),BindsTo s fd ⟨[v],[]⟩ [("script",v)])/\∀base:Heap,K.In base->base.Ns mainGlobals mg->FnOk l.prog w K mg base dE 6 fa fd ["script"] (u9 K):=by
 have e:=hfa.symm.trans (PySem.W.mg_of X G a26);cases e;have T:Txt mg:=⟨PySem.W.mg_none_of X G z_len,PySem.W.mg_none_of X G z_dict,PySem.W.mg_none_of X G z_tuple,PySem.W.mg_none_of X G z_sorted,PySem.W.mg_none_of X G z_set,PySem.W.mg_none_of X G z_range,PySem.W.mg_none_of X G z_isinstance,PySem.W.mg_none_of X G z_int,PySem.W.mg_none_of X G z_bool⟩;have F26:=q0 (st:=jJ) l26 c26 k26;have wcl_Ways:Cls K wc_Ways:=⟨wpg_Ways,whd_Ways,wpo_Ways,wsa_Ways⟩;have Z_Ways:ClN K "Ways":=ClN.of wa_Ways wcl_Ways;have A_Wayscarried:NaN K "Ways" "carried":=NaN.of wa_Ways wncarried_Ways;have A_Wayspairs:NaN K "Ways" "pairs":=NaN.of wa_Ways wnpairs_Ways;have A_Waysties:NaN K "Ways" "ties":=NaN.of wa_Ways wnties_Ways;have A_Wayshidden:NaN K "Ways" "hidden":=NaN.of wa_Ways wnhidden_Ways;have A_Waysfirst_mark:NaN K "Ways" "first_mark":=NaN.of wa_Ways wnfirst_mark_Ways;have A_Waysfirst_hidden:NaN K "Ways" "first_hidden":=NaN.of wa_Ways wnfirst_hidden_Ways;have A_Wayslooked:NaN K "Ways" "looked":=NaN.of wa_Ways wnlooked_Ways;refine⟨PySem.W.fnOf "law" "law" (eI jJ) (cx jJ) (ag jJ) .none kV26 dc26 pm26 an26 cd26 ct26,fun s v=>.of_eq rfl,fun base _ _=>?_⟩
 have C_looks_in:Cal l.prog w K mg base "looks_in" 1 cY []:=D0.cal X G tH fun _ _ F=>sE F T
 have C_all_added:Cal l.prog w K mg base "all_added" 1 cG []:=D1.cal X G rA fun _ _ F=>qL F T
 have C_signed:Cal l.prog w K mg base "signed" 1 fO []:=D2.cal X G xc fun _ _ F=>wE F T
 have C_ties_in_order:Cal l.prog w K mg base "ties_in_order" 1 bc []:=D3.cal X G kR fun _ _ F=>kD F T
 have J_Ways:CalI l.prog w K mg base "Ways" 1 fY:=D4.calI X G wa_Ways wmk_Ways wkc_Ways j7 fun _ _ F=>jO F T Z_Ways A_Wayscarried A_Wayspairs A_Waysties A_Wayshidden A_Waysfirst_mark A_Waysfirst_hidden A_Wayslooked
 have W_Ways__sign:CalW l.prog w K mg base "Ways" "sign" 2 aQ:=D5.calW wa_Ways wcl_Ways pH fun _ _ F=>o9 F T C_signed Z_Ways A_Wayspairs
 have W_Ways__swing:CalW l.prog w K mg base "Ways" "swing" 3 bX:=D6.calW wa_Ways wcl_Ways oy fun _ _ F=>mY F T Z_Ways A_Waysfirst_hidden A_Wayshidden A_Wayscarried W_Ways__sign
 have W_Ways__flip:CalW l.prog w K mg base "Ways" "flip" 1 aR:=D7.calW wa_Ways wcl_Ways pJ fun _ _ F=>pc F T Z_Ways A_Wayscarried
 have W_Ways__cross:CalW l.prog w K mg base "Ways" "cross" 1 bY:=D8.calW wa_Ways wcl_Ways oz fun _ _ F=>mZ F T Z_Ways A_Wayscarried
 have P_Ways__mark_set:CalV l.prog w K mg base "Ways" "mark_set" 1 aI:=D9.calV wa_Ways wcl_Ways j6 fun _ _ F=>jN F T Z_Ways A_Waysfirst_mark
 have W_Ways__look:CalW l.prog w K mg base "Ways" "look" 2 cg:=D10.calW wa_Ways wcl_Ways pI fun _ _ F=>pb F T Z_Ways A_Wayscarried A_Wayslooked P_Ways__mark_set A_Waysties
 have W_Ways__where:CalW l.prog w K mg base "Ways" "where" 3 bi:=D11.calW wa_Ways wcl_Ways ox fun _ _ F=>mX F T P_Ways__mark_set W_Ways__flip Z_Ways A_Wayscarried W_Ways__sign
 have W_Ways__go:CalW l.prog w K mg base "Ways" "go" 4 aF:=D12.calW wa_Ways wcl_Ways tJ fun _ _ F=>sF F T W_Ways__swing Z_Ways A_Wayscarried A_Wayspairs W_Ways__flip W_Ways__sign W_Ways__cross W_Ways__look W_Ways__where
 have C_sum_of:Cal l.prog w K mg base "sum_of" 5 dl []:=D13.cal X G xb fun _ _ F=>wD F T C_looks_in C_all_added C_ties_in_order J_Ways W_Ways__go Z_Ways A_Wayscarried A_Wayspairs A_Wayshidden A_Waysties
 have C__law_cell_at:Cal l.prog w K mg base "_law_cell_at" 1 bD []:=D14.cal X G lM fun _ _ F=>lD F T
 have C__law_mixed:Cal l.prog w K mg base "_law_mixed" 1 bt []:=D15.cal X G pG fun _ _ F=>o8 F T
 have C__law_whole:Cal l.prog w K mg base "_law_whole" 1 cK []:=D16.cal X G pE fun _ _ F=>o6 F T
 have C__law_row_by:Cal l.prog w K mg base "_law_row_by" 2 aK []:=D17.cal X G ou fun _ _ F=>mW F T C__law_mixed
 have C__law_rows_by:Cal l.prog w K mg base "_law_rows_by" 3 bC []:=D18.cal X G lL fun _ _ F=>lC F T C__law_row_by C__law_mixed
 have M__law_add:CalM l.prog w K mg base "_law_add" 1 aY:=D19.calM X G tI fun _ _ F=>qJ F T
 have C__law_pairs:Cal l.prog w K mg base "_law_pairs" 1 b8 []:=D20.cal X G pF fun _ _ F=>o7 F T
 have M__law_sign:CalM l.prog w K mg base "_law_sign" 2 bb:=D21.calM X G rB fun _ _ F=>oZ F T M__law_add
 have U__law_woven:CalM2 l.prog w K mg base "_law_woven" 3 ci:=D22.calM2 X G pC fun _ _ F=>mU F T M__law_sign M__law_add
 have C__law_sum_of:Cal l.prog w K mg base "_law_sum_of" 4 bP []:=D23.cal X G ot fun _ _ F=>mV F T C__law_pairs U__law_woven
 have C__law_all_whole:Cal l.prog w K mg base "_law_all_whole" 2 aZ []:=D24.cal X G j5 fun _ _ F=>jM F T C__law_whole
 have C__law_same_sum:Cal l.prog w K mg base "_law_same_sum" 3 bd []:=D25.cal X G kS fun _ _ F=>kF F T C__law_all_whole
 have O26:FnOk l.prog w K mg base dE 6 _ _ _ (kW K sR):=Ea F26 T C__law_rows_by C__law_sum_of C__law_same_sum C__law_cell_at C_sum_of;exact Hn O26 fun ns hl=>law_true ns hl
end GN
open PySem PySem.W PyProof.Rows
set_option maxRecDepth 1000000 in
set_option maxHeartbeats 0 in
theorem PySem.Challenge.cw_wavewires_k29_a_circuit_woven_holds : PySem.Challenge.rw_wavewires_k29_a_circuit_woven.Holds := by
  refine topT ?_
  k_fill
  refine VL.Gi (k := 6) (l := PySem.Challenge.rw_wavewires_k29_a_circuit_woven) rfl ⟨rfl, by decide, by decide⟩ rfl (fun w h Y => PySem.W.kIn_of Y) ?F
  case F =>
    intro w mg fa h KX G hmg
    refine' GN.FK KX G hmg ?wa_Ways ?wpg_Ways ?whd_Ways ?wpo_Ways ?wsa_Ways ?wmk_Ways ?wkc_Ways ?wncarried_Ways ?wnpairs_Ways ?wnties_Ways ?wnhidden_Ways ?wnfirst_mark_Ways ?wnfirst_hidden_Ways ?wnlooked_Ways (VL.DefIn.mk ?a0 ?l0 ?c0 ?k0) (VL.DefIn.mk ?a1 ?l1 ?c1 ?k1) (VL.DefIn.mk ?a2 ?l2 ?c2 ?k2) (VL.DefIn.mk ?a3 ?l3 ?c3 ?k3) (VL.MethIn.mk ?a4 ?i4 ?l4 ?c4 ?k4) (VL.MethIn.mk ?a5 ?i5 ?l5 ?c5 ?k5) (VL.MethIn.mk ?a6 ?i6 ?l6 ?c6 ?k6) (VL.MethIn.mk ?a7 ?i7 ?l7 ?c7 ?k7) (VL.MethIn.mk ?a8 ?i8 ?l8 ?c8 ?k8) (VL.MethIn.mk ?a9 ?i9 ?l9 ?c9 ?k9) (VL.MethIn.mk ?a10 ?i10 ?l10 ?c10 ?k10) (VL.MethIn.mk ?a11 ?i11 ?l11 ?c11 ?k11) (VL.MethIn.mk ?a12 ?i12 ?l12 ?c12 ?k12) (VL.DefIn.mk ?a13 ?l13 ?c13 ?k13) (VL.DefIn.mk ?a14 ?l14 ?c14 ?k14) (VL.DefIn.mk ?a15 ?l15 ?c15 ?k15) (VL.DefIn.mk ?a16 ?l16 ?c16 ?k16) (VL.DefIn.mk ?a17 ?l17 ?c17 ?k17) (VL.DefIn.mk ?a18 ?l18 ?c18 ?k18) (VL.DefIn.mk ?a19 ?l19 ?c19 ?k19) (VL.DefIn.mk ?a20 ?l20 ?c20 ?k20) (VL.DefIn.mk ?a21 ?l21 ?c21 ?k21) (VL.DefIn.mk ?a22 ?l22 ?c22 ?k22) (VL.DefIn.mk ?a23 ?l23 ?c23 ?k23) (VL.DefIn.mk ?a24 ?l24 ?c24 ?k24) (VL.DefIn.mk ?a25 ?l25 ?c25 ?k25) ?a26 ?l26 ?c26 ?k26 ?z_len ?z_dict ?z_tuple ?z_sorted ?z_set ?z_range ?z_isinstance ?z_int ?z_bool
    (case wa_Ways => k_is)
    (case wpg_Ways => k_is)
    (case whd_Ways => k_is)
    (case wpo_Ways => k_is)
    (case wsa_Ways => k_is)
    (case wmk_Ways => k_is)
    (case wkc_Ways => k_is)
    (case wncarried_Ways => k_is)
    (case wnpairs_Ways => k_is)
    (case wnties_Ways => k_is)
    (case wnhidden_Ways => k_is)
    (case wnfirst_mark_Ways => k_is)
    (case wnfirst_hidden_Ways => k_is)
    (case wnlooked_Ways => k_is)
    (case a0 => k_is)
    (case l0 => k_is)
    (case c0 => k_is)
    (case k0 => k_is)
    (case a1 => k_is)
    (case l1 => k_is)
    (case c1 => k_is)
    (case k1 => k_is)
    (case a2 => k_is)
    (case l2 => k_is)
    (case c2 => k_is)
    (case k2 => k_is)
    (case a3 => k_is)
    (case l3 => k_is)
    (case c3 => k_is)
    (case k3 => k_is)
    (case a4 => k_is)
    (case i4 => k_is)
    (case l4 => k_is)
    (case c4 => k_is)
    (case k4 => k_is)
    (case a5 => k_is)
    (case i5 => k_is)
    (case l5 => k_is)
    (case c5 => k_is)
    (case k5 => k_is)
    (case a6 => k_is)
    (case i6 => k_is)
    (case l6 => k_is)
    (case c6 => k_is)
    (case k6 => k_is)
    (case a7 => k_is)
    (case i7 => k_is)
    (case l7 => k_is)
    (case c7 => k_is)
    (case k7 => k_is)
    (case a8 => k_is)
    (case i8 => k_is)
    (case l8 => k_is)
    (case c8 => k_is)
    (case k8 => k_is)
    (case a9 => k_is)
    (case i9 => k_is)
    (case l9 => k_is)
    (case c9 => k_is)
    (case k9 => k_is)
    (case a10 => k_is)
    (case i10 => k_is)
    (case l10 => k_is)
    (case c10 => k_is)
    (case k10 => k_is)
    (case a11 => k_is)
    (case i11 => k_is)
    (case l11 => k_is)
    (case c11 => k_is)
    (case k11 => k_is)
    (case a12 => k_is)
    (case i12 => k_is)
    (case l12 => k_is)
    (case c12 => k_is)
    (case k12 => k_is)
    (case a13 => k_is)
    (case l13 => k_is)
    (case c13 => k_is)
    (case k13 => k_is)
    (case a14 => k_is)
    (case l14 => k_is)
    (case c14 => k_is)
    (case k14 => k_is)
    (case a15 => k_is)
    (case l15 => k_is)
    (case c15 => k_is)
    (case k15 => k_is)
    (case a16 => k_is)
    (case l16 => k_is)
    (case c16 => k_is)
    (case k16 => k_is)
    (case a17 => k_is)
    (case l17 => k_is)
    (case c17 => k_is)
    (case k17 => k_is)
    (case a18 => k_is)
    (case l18 => k_is)
    (case c18 => k_is)
    (case k18 => k_is)
    (case a19 => k_is)
    (case l19 => k_is)
    (case c19 => k_is)
    (case k19 => k_is)
    (case a20 => k_is)
    (case l20 => k_is)
    (case c20 => k_is)
    (case k20 => k_is)
    (case a21 => k_is)
    (case l21 => k_is)
    (case c21 => k_is)
    (case k21 => k_is)
    (case a22 => k_is)
    (case l22 => k_is)
    (case c22 => k_is)
    (case k22 => k_is)
    (case a23 => k_is)
    (case l23 => k_is)
    (case c23 => k_is)
    (case k23 => k_is)
    (case a24 => k_is)
    (case l24 => k_is)
    (case c24 => k_is)
    (case k24 => k_is)
    (case a25 => k_is)
    (case l25 => k_is)
    (case c25 => k_is)
    (case k25 => k_is)
    (case a26 => k_is)
    (case l26 => k_is)
    (case c26 => k_is)
    (case k26 => k_is)
    (case z_len => k_is)
    (case z_dict => k_is)
    (case z_tuple => k_is)
    (case z_sorted => k_is)
    (case z_set => k_is)
    (case z_range => k_is)
    (case z_isinstance => k_is)
    (case z_int => k_is)
    (case z_bool => k_is)

end