import PyProof.Rows.All
import Wide.All
import OpenK.AllK
import Wide.FinOn
import Lean
import PyProof.EqAt
import PyProof.EqKinds
import PyProof.TupleCall
import PySem.Challenge.RW_wavewires_k26_whole_shares_come_to_one
section TopS
set_option Elab.async false
set_option linter.all false
open PySem PySem.W PyProof.Rows
def viewQ : Program := view PySem.Challenge.rw_wavewires_k26_whole_shares_come_to_one.prog [1, 2, 3, 4, 7, 8, 9, 10, 11, 14, 15, 16, 17, 19, 21, 22, 23, 24, 25, 26, 28, 29, 30, 31, 32, 33, 37, 38, 39, 40, 41, 42, 43, 44]
local macro_rules
  | `(tactic| o_head $H) => do
    let hw := Lean.mkIdent `hw
    let hc := Lean.mkIdent `hc
    `(tactic| refine holds_open (q := viewQ) (loose := ["number", "parts_over_ring", "share", "parts_over_shares", "beginning", "branches", "mark_shares"]) (Xt := fun s => xlAt viewQ [] s && recOk (RowW.records (OpenRow.toRowW PySem.Challenge.rw_wavewires_k26_whole_shares_come_to_one.row)) s) (XP := XL viewQ []) (Yf := Hook.obs $H) (Ya := Hook.val $H) (YP := Hook.says $H) (N := 6000) (fun w => by (unfold openEnds fencedOpening topFrom; rw [Fast.te10274390034422433532, Fast.te14082659384304107361, Fast.te1435165496053646825, Fast.te14289696077712309145, Fast.te14364793385576792824, Fast.te4187177175401517315, Fast.te5923862056798008813]; kernel_rfl)) (Hook.of $H) (Hook.keeps $H) (fun s e => xl_of s (Bool.and_eq_true_iff.mp e).1) XL.keeps (by rfl) (by rfl) (by rfl) (fun s e => recFacts_of (Bool.and_eq_true_iff.mp e).2) (by rfl) (by first | assumption | decide +kernel) (by decide +kernel) ⟨rfl, rfl, rfl, rfl, rfl, by decide +kernel⟩ ?$hw ?$hc)
set_option maxRecDepth 1000000 in
set_option maxHeartbeats 0 in
open_top topT for PySem.Challenge.rw_wavewires_k26_whole_shares_come_to_one
end TopS
noncomputable section
set_option Elab.async false
set_option linter.all false
set_option maxRecDepth 100000
namespace L2
open PySem PySem.Spec PyProof.Rows
abbrev bb:=Sum Int Str
noncomputable def n4:bb->Value->Bool
 |.inl k,v=>Value.isInt k v
 |.inr x,v=>Value.isStrOf x v
noncomputable def Id(w:World):bb->Int
 |.inl k=>hashInt k
 |.inr x=>hashStr w x
theorem bH:∀{k:bb} {v:Value},n4 k v=true->(∃i t,k=Sum.inl i/\v=Value.int i t)\/(∃x t,k=Sum.inr x/\v=Value.str x t)
 |.inl i,v,h=>by
  obtain⟨t,e⟩:=Value.isInt_shape (k:=i) (v:=v) h;exact .inl ⟨i,t,rfl,e⟩
 |.inr x,v,h=>by
  obtain⟨t,e⟩:=Value.isStrOf_shape (x:=x) (v:=v) h;exact .inr ⟨x,t,rfl,e⟩
theorem wo(i:Int)(t:Tok):n4 (.inl i) (.int i t)=true:=by simp[n4,Value.isInt]
theorem wn(x:Str)(t:Tok):n4 (.inr x) (.str x t)=true:=by simp[n4,Value.isStrOf]
theorem Ea(a b:Int):decide ((Sum.inl a:bb)=Sum.inl b)=(a==b):=by
 by_cases e:a=b
 ·subst e;simp
 ·have h:¬(Sum.inl a:bb)=Sum.inl b:=fun q=>e (Sum.inl.inj q)
  rw[decide_eq_false h];exact(beq_eq_false_iff_ne.mpr e).symm
theorem DZ(a b:Str):decide ((Sum.inr a:bb)=Sum.inr b)=decide (a=b):=by
 by_cases e:a=b
 ·subst e;simp
 ·have h:¬(Sum.inr a:bb)=Sum.inr b:=fun q=>e (Sum.inr.inj q)
  rw[decide_eq_false h,decide_eq_false e]
theorem D8(a:Int)(b:Str):decide ((Sum.inl a:bb)=Sum.inr b)=false:=decide_eq_false (fun q=>nomatch q)
theorem D2(a:Str)(b:Int):decide ((Sum.inr a:bb)=Sum.inl b)=false:=decide_eq_false (fun q=>nomatch q)
noncomputable def dQ(prog:Program)(w:World):PySem.KeyKind prog w bb where
 is:=n4
 hash:=Id w
 inj:=fun v a b ha hb=>by
  rcases bH ha with⟨i,t,rfl,rfl⟩|⟨x,t,rfl,rfl⟩
  ·rcases bH hb with⟨j,u,rfl,e⟩|⟨y,u,rfl,e⟩
   ·injection e with e1 _;rw[e1]
   ·exact nomatch e
  ·rcases bH hb with⟨j,u,rfl,e⟩|⟨y,u,rfl,e⟩
   ·exact nomatch e
   ·injection e with e1 _;rw[e1]
 byValue:=fun k v h=>by
  rcases bH h with⟨i,t,rfl,rfl⟩|⟨x,t,rfl,rfl⟩<;>rfl
 pyHash:=fun hv h=>by
  rcases bH hv with⟨i,t,rfl,rfl⟩|⟨x,t,rfl,rfl⟩
  ·exact wpAny_pyHash_int h
  ·exact wpAny_pyHash_str h
 eqBool:=fun hu hv h=>by
  rcases bH hu with⟨i,t,rfl,rfl⟩|⟨x,t,rfl,rfl⟩
  ·rcases bH hv with⟨j,u,rfl,rfl⟩|⟨y,u,rfl,rfl⟩
   ·rw[Ea]at h;exact wpAny_eqBool_int h
   ·rw[D8]at h;exact SeqAt.EqAt.int_str i t y u _ _ _ _ h
  ·rcases bH hv with⟨j,u,rfl,rfl⟩|⟨y,u,rfl,rfl⟩
   ·rw[D2]at h;exact SeqAt.EqAt.str_int x t j u _ _ _ _ h
   ·rw[DZ]at h;exact wpAny_eqBool_str h
 «strs»:=fun k x t v h=>by
  rcases bH h with⟨i,u,rfl,e⟩|⟨y,u,rfl,e⟩
  ·exact nomatch e
  ·injection e with e1 _
   subst e1;cases v<;>rfl
theorem q8(prog:Program)(w:World)(i:Int)(t:Tok):(dQ prog w).is (.inl i) (.int i t)=true:=wo i t
theorem qZ(prog:Program)(w:World)(x:Str)(t:Tok):(dQ prog w).is (.inr x) (.str x t)=true:=wn x t
inductive V where
 |non|bl (b:Bool)|int (i:Int)|str (x:Str)|byt (b:Array UInt8)|flt (b:UInt64)|ref (a:Addr)|ty (n:String)
 deriving DecidableEq
def RelV:V->Value->Prop
 |.non,u=>u=Value.none
 |.bl b,u=>u=Value.bool b
 |.int i,u=>∃t,u=Value.int i t
 |.str x,u=>∃t,u=Value.str x t
 |.byt b,u=>∃t,u=Value.bytes b t
 |.flt b,u=>∃t,u=Value.float b t
 |.ref a,u=>u=Value.ref a
 |.ty n,u=>u=Value.type n
abbrev Vals:List V->List Value->Prop:=Paired RelV
theorem Vals.length{xs:List V}{us:List Value}(r:Vals xs us):xs.length=us.length:=Paired.length r
theorem Vals.get:∀{xs:List V} {us:List Value} {i:Nat} {x:V},Vals xs us->xs[i]? = some x->∃u,us[i]? = some u/\RelV x u
 |_,_,_,_,.nil,e=>by simp at e
 |_,_,0,_,.cons r _,e=>by simp at e;subst e;exact⟨_,rfl,r⟩
 |_,_,i+1,x,.cons _ t,e=>by
  obtain⟨u,h1,h2⟩:=Vals.get (i:=i) (x:=x) t (by simpa using e);exact⟨u,by simpa using h1,h2⟩
theorem Vals.append:∀{xs ys:List V} {us ws:List Value},Vals xs us->Vals ys ws->Vals (xs++ys) (us++ws)
 |_,_,_,_,.nil,s=>s
 |_,_,_,_,.cons r t,s=>.cons r (Vals.append t s)
theorem Vals.take:∀{xs:List V} {us:List Value} (n:Nat),Vals xs us->Vals (xs.take n) (us.take n)
 |_,_,0,_=>.nil
 |_,_,_+1,.nil=>.nil
 |_,_,n+1,.cons r t=>.cons r (Vals.take n t)
theorem Vals.drop:∀{xs:List V} {us:List Value} (n:Nat),Vals xs us->Vals (xs.drop n) (us.drop n)
 |_,_,0,r=>r
 |_,_,_+1,.nil=>.nil
 |_,_,n+1,.cons _ t=>Vals.drop n t
def RelO:Option V->Option Value->Prop
 |some v,some u=>RelV v u
 |none,none=>True
 |_,_=>False
def KV{κ:Type}:List (κ × V)->List (κ × Value)->Prop:=Paired fun(p:κ × V) (q:κ × Value)=>p.1=q.1/\RelV p.2 q.2
noncomputable def kV:bb->V
 |.inl i=>.int i
 |.inr x=>.str x
inductive HO where
 |lst (xs:List V)
 |tup (xs:List V)
 |dK (kvs:List (bb×V))|dT (kvs:List (List bb×V))
 |set (S:Int->Bool) (n:Nat)
 |ins (C dx:Addr) (fs:List (Str×V))
 |own (x:Addr)
 |xd (fs:List (Str×V))
 |met (f x:Addr)
 |rng (lo hi:Int)
 |frz (o:Obj) (u:HO)
 |tbl (ps:Array Value)
 |ext (φ:Heap->Prop)
abbrev Hp:=Addr->Option HO
noncomputable def upd(H:Hp)(a:Addr)(o:HO):Hp:=fun b=>if b=a then some o else H b
theorem aX{H:Hp}{a:Addr}{o:HO}:upd H a o a=some o:=by unfold upd;rw[if_pos rfl]
theorem aV{H:Hp}{a b:Addr}{o:HO}(h:b≠a):upd H a o b=H b:=by unfold upd;rw[if_neg h]
theorem bN{H:Hp}{a b:Addr}{o:HO}(h:H a=some o)(h':H b=none):a≠b:=by
 intro e;subst e;rw[h]at h';cases h'
section
variable(P:Program)(w:World)
def NoDi(h:Heap)(a:Addr):Prop:=∃o,h.get? a=some o/\o.dict=none
theorem NoDi.new(h:Heap)(o:Obj)(e:o.dict=none:=by rfl)(f:o.isFreed=false:=by rfl):NoDi (h.push o) h.objs.size:=⟨o,Heap.get?_push_size h f,e⟩
def ObjOk(H:Hp)(h:Heap)(a:Addr):HO->Prop
 |.lst xs=>xs.length<=sizeLine/\∃(its:List Value) (n:Nat),Vals xs its/\h.get? a=some { cls:=.type "list",data:=.seq its.toArray n }
 |.tup xs=>xs.length<=sizeLine/\∃its:List Value,Vals xs its/\IsTup h a its.toArray/\NoDi h a
 |.dK kvs=>kvs.length<=sizeLine/\(a==sysModules)=false/\∃vs,KV kvs vs/\h.DictOf (dQ P w) a vs
 |.dT kvs=>kvs.length<=sizeLine/\(a==sysModules)=false/\∃xs:List (List bb×Addr×Value),
   Paired (fun(p:List bb×V) (q:List bb×Addr×Value)=>p.1=q.1/\H q.2.1=some (.tup (p.1.map kV))/\RelV p.2 q.2.2) kvs xs /\
   ∃o es ep,h.get? a=some o/\o.ExactDict/\o.data=.dict es ep/\es.toList=xs.map (entryOfKey (tupleKind (dQ P w)))/\(xs.map (·.1)).Nodup
 |.set S n=>h.SetOf (intKind P w) a S n
 |.ins C dx fs=>H dx=some (.own a)/\fs.length<=1000/\dx≠a/\h.get? a=some (PySem.W.instObj C dx) /\
   ∃mA,h.Ns1 dx mA/\(∀f,RelO (fs.lookup f) (mA f))/\PySem.Within mA (fs.map (·.1))
 |.own _=>∃o,h.get? a=some o
 |.xd fs=>∃mA,h.Ns1 a mA/\∀f,RelO (fs.lookup f) (mA f)
 |.rng lo hi=>∃t u v,h.get? a=some { cls:=.type "range",data:=.fields #[.int lo t,.int hi u,.int 1 v] }
 |.frz o u=>h.get? a=some o/\ObjOk H h a u
 |.tbl ps=>h.get? a=some { cls:=.none,data:=.fields ps }
 |.met f x=>h.get? a=some (PySem.W.methodObj (.ref f) (.ref x))
 |.ext φ=>φ h/\(∃o,h.get? a=some o)/\∀h1 h2:Heap,φ h1->(∀o,h1.get? a=some o->h2.get? a=some o) -> φ h2
def HOk(H:Hp)(h:Heap):Prop:=∀a o,H a=some o->ObjOk P w H h a o
end
section
variable{P:Program}{w:World}{H H':Hp}{h h':Heap}{a:Addr}{o:HO}
theorem ObjOk.lt(x:ObjOk P w H h a o):a<h.objs.size:=by
 cases o with
 |lst xs=>obtain⟨_,_,_,_,e⟩:=x;exact Heap.lt_size e
 |tup xs=>obtain⟨_,_,_,p⟩:=x;exact p.1.lt
 |dK kvs=>obtain⟨_,_,_,_,o,_,_,e,_⟩:=x;exact Heap.lt_size e
 |dT kvs=>obtain⟨_,_,_,_,o,_,_,e,_⟩:=x;exact Heap.lt_size e
 |set S n=>obtain⟨o,_,_,_,e,_⟩:=x;exact Heap.lt_size e
 |ins C dx fs=>obtain⟨_,_,_,e,_⟩:=x;exact Heap.lt_size e
 |own y=>obtain⟨_,e⟩:=x;exact Heap.lt_size e
 |xd fs=>obtain⟨_,⟨_,_,_,e,_⟩,_⟩:=x;exact Heap.lt_size e
 |rng lo hi=>obtain⟨_,_,_,e⟩:=x;exact Heap.lt_size e
 |frz ob u=>obtain⟨e,_⟩:=x;exact Heap.lt_size e
 |tbl ps=>exact Heap.lt_size (show h.get? a=some _ from x)
 |met f y=>exact Heap.lt_size (show h.get? a=some _ from x)
 |ext φ=>obtain⟨_,⟨_,e⟩,_⟩:=x;exact Heap.lt_size e
theorem Paired.mapP{α β:Type}{F G:α -> β -> Prop}:∀{l₁:List α} {l₂:List β},Paired F l₁ l₂ -> (∀a b,F a b->G a b)->Paired G l₁ l₂
 |_,_,.nil,_=>.nil
 |_,_,.cons r t,f=>.cons (f _ _ r) (Paired.mapP t f)
theorem ObjOk.stay(x:ObjOk P w H h a o)(k:∀b u,(b=a\/H b=some (.own a))->h.get? b=some u->h'.get? b=some u)
  (ho:∀b,H b=some (.own a)->H' b=some (.own a)) (ht:∀b xs,H b=some (.tup xs)->H' b=some (.tup xs)):ObjOk P w H' h' a o:=by
 induction o with
 |lst xs=>obtain⟨z,its,n,r,e⟩:=x;exact⟨z,its,n,r,k _ _ (.inl rfl) e⟩
 |tup xs=>obtain⟨z,its,r,⟨ob,e,c⟩,od,e',c'⟩:=x;exact⟨z,its,r,⟨ob,k _ _ (.inl rfl) e,c⟩,od,k _ _ (.inl rfl) e',c'⟩
 |dK kvs=>obtain⟨z,y,vs,r,ob,es,ep,e,c⟩:=x;exact⟨z,y,vs,r,ob,es,ep,k _ _ (.inl rfl) e,c⟩
 |dT kvs=>
  obtain⟨z,y,xs,r,ob,es,ep,e,c⟩:=x;exact⟨z,y,xs,Paired.mapP r fun p q z=>⟨z.1,ht _ _ z.2.1,z.2.2⟩,ob,es,ep,k _ _ (.inl rfl) e,c⟩
 |set S n=>obtain⟨ob,es,ep,t,e,c⟩:=x;exact⟨ob,es,ep,t,k _ _ (.inl rfl) e,c⟩
 |ins C dx fs=>
  obtain⟨d,z,ne,e,mA,⟨od,es,ep,e2,c⟩,r⟩:=x;exact⟨ho _ d,z,ne,k _ _ (.inl rfl) e,mA,⟨od,es,ep,k _ _ (.inr d) e2,c⟩,r⟩
 |own y=>obtain⟨ob,e⟩:=x;exact⟨ob,k _ _ (.inl rfl) e⟩
 |xd fs=>obtain⟨mA,⟨od,es,ep,e,c⟩,r⟩:=x;exact⟨mA,⟨od,es,ep,k _ _ (.inl rfl) e,c⟩,r⟩
 |rng lo hi=>obtain⟨t,u,v,e⟩:=x;exact⟨t,u,v,k _ _ (.inl rfl) e⟩
 |frz ob u ih=>obtain⟨e,q⟩:=x;exact⟨k _ _ (.inl rfl) e,ih q⟩
 |tbl ps=>
  have e:h.get? a=some { cls:=.none,data:=.fields ps }:=x;show h'.get? a=some { cls:=.none,data:=.fields ps };exact k a _ (.inl rfl) e
 |met f y=>
  have e:h.get? a=some (PySem.W.methodObj (.ref f) (.ref y)):=x;show h'.get? a=some (PySem.W.methodObj (.ref f) (.ref y));exact k a _ (.inl rfl) e
 |ext φ=>obtain⟨p,⟨o,e⟩,st⟩:=x;exact⟨st _ _ p fun o q=>k _ _ (.inl rfl) q,⟨o,k _ _ (.inl rfl) e⟩,st⟩
theorem HOk.lt(x:HOk P w H h)(e:H a=some o):a<h.objs.size:=(x a o e).lt
theorem HOk.fresh(x:HOk P w H h)(e:h.objs.size<=a):H a=none:=by
 cases q:H a with
 |none=>rfl
 |some u=>exact absurd (Nat.lt_of_lt_of_le (x.lt q) e) (Nat.lt_irrefl _)
theorem HOk.kept(x:HOk P w H h)(k:∀b u,h.get? b=some u->h'.get? b=some u):HOk P w H h':=fun a o e=>
 (x a o e).stay (fun b u _ q=>k b u q) (fun _ q=>q) fun _ _ q=>q
theorem HOk.laid(x:HOk P w H h)(k:∀b u,h.get? b=some u->h'.get? b=some u)(hp:h.objs.size<=a)(new:ObjOk P w (upd H a o) h' a o):HOk P w (upd H a o) h':=fun b u e=>by
 have hn:=x.fresh hp;by_cases hb:b=a
 ·subst hb;rw[aX]at e;cases e;exact new
 ·rw[aV hb]at e
  exact(x b u e).stay (fun c v _ q=>k c v q) (fun c q=>by rw[aV (bN q hn)];exact q) fun c xs q=>by rw[aV (bN q hn)];exact q
end
def Rd(H:Hp)(a:Addr)(u:HO):Prop:=H a=some u\/∃o,H a=some (.frz o u)
theorem Rd.ok{P:Program}{w:World}{H:Hp}{h:Heap}{a:Addr}{u:HO}(r:Rd H a u)(x:HOk P w H h):ObjOk P w H h a u:=by
 rcases r with r|⟨o,r⟩
 ·exact x a u r
 ·obtain⟨_,q⟩:=x a _ r
  exact q
def Hd:Option HO->Prop
 |some (.lst _)=>True
 |some (.dK _)=>True
 |some (.dT _)=>True
 |some (.set _ _)=>True
 |some (.ins _ _ _)=>True
 |some (.ext _)=>True
 |_=>False
section
variable{P:Program}{w:World}{H:Hp}{h h':Heap}{x e:Addr}{o':HO}
theorem HOk.write(ok:HOk P w H h)(mu:Hd (H x))(he:e=x\/H e=some (.own x))(k:∀b u,b≠e->h.get? b=some u->h'.get? b=some u)(heo:∃u,h'.get? e=some u)
  (new:ObjOk P w (upd H x o') h' x o'):HOk P w (upd H x o') h':=fun b u q=>by
 have nown:∀c y,H c=some (.own y)->c≠x:=fun c y r z=>by subst z;rw[r]at mu;exact mu
 have ntup:∀c xs,H c=some (.tup xs)->c≠x:=fun c xs r z=>by subst z;rw[r]at mu;exact mu
 by_cases hb:b=x
 ·subst hb;rw[aX]at q;cases q;exact new
 ·rw[aV hb]at q
  by_cases hbe:b=e
  ·have q':H b=some (.own x):=by
    rcases he with z|z
    ·exact absurd (hbe.trans z) hb
    ·rw[hbe];exact z
   rw[q]at q';cases q';obtain⟨v,hv⟩:=heo;exact⟨v,by rw[hbe];exact hv⟩
  ·refine(ok b u q).stay (fun c v hc r=>k c v ?_ r) (fun c r=>by rw[aV (nown c b r)];exact r) fun c xs r=>by rw[aV (ntup c xs r)];exact r
   rcases hc with rfl|hc
   ·exact hbe
   ·rintro rfl
    rcases he with z|z
    ·exact nown c b hc z
    ·rw[hc]at z;cases z;exact hb rfl
end
structure Un (fs ex:List Addr) (H H':Hp) (h h':Heap):Prop where
 keep:∀b o,h.get? b=some o->H b=none->b ∉ fs->b ∉ ex->h'.get? b=some o
 slot:∀b o,h.get? b=some o->H b=none->b∈fs->b ∉ ex->∃sl,h'.get? b=some { o with slots:=sl }
 free:∀b o,h.get? b=some o->H b=none->b ∉ ex->H' b=none
 there:∀b o,h.get? b=some o->b ∉ ex->∃o',h'.get? b=some o'
 tups:∀b xs,H b=some (.tup xs)->H' b=some (.tup xs)
 frzs:∀b o u,H b=some (.frz o u)->H' b=some (.frz o u)
 tbls:∀b ps,H b=some (.tbl ps)->∃more,H' b=some (.tbl (ps++more))
section
variable{fs fs' ex ex':List Addr}{H H1 H2:Hp}{h h1 h2 h':Heap}{a x e:Addr}{o:HO}
theorem Un.any(u:Un fs ex H H1 h h1){b:Addr}{ob:Obj}(q:h.get? b=some ob)(n:H b=none)(hx:b ∉ ex):∃sl,h1.get? b=some { ob with slots:=sl }:=by
 by_cases hb:b∈fs
 ·exact u.slot b ob q n hb hx
 ·exact⟨ob.slots,u.keep b ob q n hb hx⟩
theorem Un.kept(k:∀b u,h.get? b=some u->h'.get? b=some u):Un fs ex H H h h':=
 ⟨fun b ob q _ _ _=>k b ob q,fun b ob q _ _ _=>⟨ob.slots,k b ob q⟩,fun _ _ _ n _=>n,fun b ob q _=>⟨ob,k b ob q⟩,fun _ _ q=>q,fun _ _ _ q=>q,fun _ ps q=>⟨#[],by rw[q];simp⟩⟩
theorem Un.refl:Un fs ex H H h h:=Un.kept fun _ _ q=>q
theorem Un.laid(k:∀b u,h.get? b=some u->h'.get? b=some u)(hp:h.objs.size<=a)(hn:H a=none):Un fs ex H (upd H a o) h h' where
 keep:=fun b u q _ _ _=>k b u q
 slot:=fun b u q _ _ _=>⟨u.slots,k b u q⟩
 free:=fun b u q n _=>by rw[aV (Nat.ne_of_lt (Nat.lt_of_lt_of_le (Heap.lt_size q) hp))];exact n
 there:=fun b u q _=>⟨u,k b u q⟩
 tups:=fun b xs q=>by rw[aV (bN q hn)];exact q
 frzs:=fun b u xs q=>by rw[aV (bN q hn)];exact q
 tbls:=fun b ps q=>⟨#[],by rw[aV (bN q hn),q];simp⟩
theorem Un.write(mu:Hd (H x))(he:e=x\/H e=some (.own x))(k:∀b u,b≠e->h.get? b=some u->h'.get? b=some u)(heo:∃u,h'.get? e=some u):Un fs ex H (upd H x o) h h':=by
 have hx:∀b,H b=none->b≠x:=fun b n z=>by subst z;rw[n]at mu;exact mu
 have hb:∀b,H b=none->b≠e:=fun b n z=>by
  subst z;rcases he with r|r
  ·exact hx b n r
  ·rw[n]at r;cases r
 have hm:∀b u,H b=some u->¬Hd (some u)->b≠x:=fun b u q nm z=>by subst z;rw[q]at mu;exact nm mu
 refine⟨fun b u q n _ _=>k b u (hb b n) q,fun b u q n _ _=>⟨u.slots,k b u (hb b n) q⟩,fun b u q n _=>by rw[aV (hx b n)];exact n,fun b u q _=>?_,
  fun b xs q=>by rw[aV (hm b _ q fun z=>z)];exact q,fun b u xs q=>by rw[aV (hm b _ q fun z=>z)];exact q,fun b ps q=>⟨#[],by rw[aV (hm b _ q fun z=>z),q];simp⟩⟩
 by_cases hbe:b=e
 ·subst hbe;exact heo
 ·exact⟨u,k b u hbe q⟩
end
noncomputable def GR(h:Heap)(H:Hp):List Addr:=(List.range h.objs.size).filter fun a=>(H a).isSome
noncomputable def pM(h:Heap)(H:Hp):Heap:=PySem.W.hideAll h (GR h H)
theorem wz(h:Heap)(H:Hp):(pM h H).objs.size=h.objs.size:=PySem.W.hideAll_size _ _
theorem yU{h:Heap}{H:Hp}{b:Addr}{o:Obj}(e:h.get? b=some o)(n:H b=none):(pM h H).get? b=some o:=
 PySem.W.hideAll_get _ e fun hm=>by
  have q:(H b).isSome=true:=(List.mem_filter.mp hm).2;rw[n]at q;simp at q
theorem A1{h:Heap}{H:Hp}{b:Addr}{o:Obj}(e:(pM h H).get? b=some o):h.get? b=some o/\H b=none:=by
 have e':h.get? b=some o:=PySem.W.of_hideAll (GR h H) e;refine⟨e',?_⟩;cases q:H b with
 |none=>rfl
 |some x=>
  have hm:b∈GR h H:=List.mem_filter.mpr ⟨List.mem_range.mpr (Heap.lt_size e'),by simp[q]⟩;have z:(pM h H).get? b=none:=PySem.W.hideAll_none (GR h H) hm;rw[z]at e;cases e
noncomputable def B9(g h:Heap)(L:Addr):List (Addr×Obj):=(List.range h.objs.size).filterMap fun a=>if a=L\/(g.get? a).isSome=true then none else(h.get? a).map fun o=>(a,o)
noncomputable def rest(g h:Heap)(L d:Addr):List (Addr×Obj):=(B9 g h L).filter fun p=>decide (p.1≠d)
structure Mod (K:PySem.W.Frag) (mg:Str->Option Value) (base:Heap):Prop where
 kin:K.In base
 glob:base.Ns mainGlobals mg
 blt:∃mb,base.Ns builtinsNs mb/\∀x:Str,x ≠ "__name__" -> mb x=bootBuiltins x
 nolimit:base.NoLimit
structure Cx where
 prog:Program
 w:World
 K:PySem.W.Frag
 mg:Str->Option Value
 base:Heap
 A:Around
 N:List Str
 s₀:Shared
 H₀:Hp
 env:Env
 outer:List Env
 stack:List Env
 ex:List Addr
 fn:Str->Bool
 calm:Bool
 pn:List (Addr×Obj)
 xe:Value->Shared->Prop
noncomputable def u6(l:List Env):List Addr:=l.filterMap (·.frame)
abbrev Cx.fs(X:Cx):List Addr:=u6 X.outer
def EY(sc:Scope)(x:Str):Prop:=sc.names.lookup x=some .local\/sc.names.lookup x=some .cell\/sc.names.lookup x=some .free
def Cc(sc:Scope)(x:Str):Prop:=sc.names.lookup x=some .local\/sc.names.lookup x=some .cell
def IN(env:Env)(h:Heap)(m:Str->Option Value)(x:Str)(u:Value):Prop:=
 (env.kindOf x=some .local/\m x=some u)\/((env.kindOf x=some .cell\/env.kindOf x=some .free)/\∃c,env.cells.lookup x=some c/\h.IsCell c (some u))
structure Cx.Ok (X:Cx):Prop where
 mod:Mod X.K X.mg X.base
 kind:X.env.scope.kind=.function
 glob:X.env.globals=mainGlobals
 blt:X.env.builtins=builtinsNs
 above:X.s₀.heap.objs.size<=X.env.locals
 inj:∀x y c,X.env.cells.lookup x=some c->X.env.cells.lookup y=some c->x=y
 has:∀x,(X.env.kindOf x=some .cell\/X.env.kindOf x=some .free)->∃c,X.env.cells.lookup x=some c
 cab:∀x c,X.fn x=true->X.env.cells.lookup x=some c->X.s₀.heap.objs.size<=c
 hd:X.calm=true->X.A.handled=none
 frames:X.A.frames=some X.stack
 stk:X.stack=X.outer\/(X.stack=X.env::X.outer/\X.env.frame=some X.env.locals)
 exf:∀b∈X.ex,b≠X.env.locals/\∀x c,X.env.cells.lookup x=some c->c≠b
 bs:∀b o,X.base.get? b=some o->X.s₀.heap.get? b=some o/\X.H₀ b=none
 bsz:X.base.objs.size<=X.s₀.heap.objs.size
 noex:∀b o,X.base.get? b=some o->b ∉ X.ex
 exfs:∀b∈X.ex,b ∉ X.fs
 funs:X.s₀.heap.FunFrames X.base X.outer
 frf:∀b∈X.fs,X.H₀ b=none
structure Inv (X:Cx) (pins:List (Addr×Obj)) (σ:List (Option V)) (H:Hp) (s:Shared):Prop where
 ok:X.Ok
 os:s.os=X.s₀.os
 bare:AllBare s.gens
 base:Un X.fs X.ex X.H₀ H X.s₀.heap s.heap
 loc:∃m,s.heap.Ns X.env.locals m/\∀(i:Nat) (x:Str) (v:V),X.N[i]? = some x -> σ[i]? = some (some v)->EY X.env.scope x->∃u,RelV v u/\IN X.env s.heap m x u
 cell:∀x c,X.env.cells.lookup x=some c->∃v,s.heap.IsCell c v
 free:H X.env.locals=none
 freeC:∀x c,X.env.cells.lookup x=some c->H c=none
 pin:∀p∈X.pn++pins,s.heap.get? p.1=some p.2/\H p.1=none/\p.1≠X.env.locals/\p.1 ∉ X.fs/\∀v,p.2.data≠.cell v
 hok:HOk X.prog X.w H s.heap
 len:σ.length=X.N.length
section
variable{X:Cx}{pins:List (Addr×Obj)}{σ:List (Option V)}{H H':Hp}{s:Shared}{h':Heap}
theorem Cx.Ok.nofr(ok:X.Ok){b:Addr}{o:Obj}(e:X.base.get? b=some o):b ∉ X.fs:=fun hb=>by
 have:=(ok.funs.mem hb).1;rw[e]at this;cases this
theorem Inv.bs(I:Inv X pins σ H s):∀b o,X.base.get? b=some o->s.heap.get? b=some o/\H b=none:=fun b o e=>
 ⟨I.base.keep b o (I.ok.bs b o e).1 (I.ok.bs b o e).2 (I.ok.nofr e) (I.ok.noex b o e),I.base.free b o (I.ok.bs b o e).1 (I.ok.bs b o e).2 (I.ok.noex b o e)⟩
theorem Inv.bk(I:Inv X pins σ H s):∀b o,X.base.get? b=some o->s.heap.get? b=some o:=fun b o e=>(I.bs b o e).1
theorem Inv.mod(I:Inv X pins σ H s):Mod X.K X.mg X.base:=I.ok.mod
theorem Inv.kIn(I:Inv X pins σ H s):X.K.In s.heap:=I.ok.mod.kin.keeps I.bk
theorem Inv.fr(I:Inv X pins σ H s):∃m,Fr X.base X.env.locals s.heap m:=
 let ⟨m,hn,_⟩:=I.loc
 ⟨m,hn,I.bk,Nat.le_trans I.ok.bsz I.ok.above⟩
theorem Inv.lt(I:Inv X pins σ H s):X.env.locals<s.heap.objs.size:=let ⟨_,hn,_⟩:=I.loc;hn.lt
theorem Inv.sz(I:Inv X pins σ H s):X.s₀.heap.objs.size<=s.heap.objs.size:=Nat.le_trans I.ok.above (Nat.le_of_lt I.lt)
theorem Inv.nofs(I:Inv X pins σ H s){a:Addr}(h:s.heap.objs.size<=a):a ∉ X.fs:=fun hb=>by
 obtain⟨_,o,ho,_⟩:=I.ok.funs.mem hb;exact absurd (Nat.lt_of_lt_of_le (Heap.lt_size ho) (Nat.le_trans I.sz h)) (Nat.lt_irrefl _)
theorem Inv.cne(I:Inv X pins σ H s):∀x c,X.env.cells.lookup x=some c->c≠X.env.locals:=fun x c e z=>by
 obtain⟨v,o,ho,hd⟩:=I.cell x c e;obtain⟨m,⟨o',es,ep,ho',hd',_⟩,_⟩:=I.loc;rw[z,ho']at ho;cases ho;rw[hd']at hd;cases hd
theorem Inv.funs(I:Inv X pins σ H s):s.heap.FunFrames X.base X.outer:=by
 have all:∀(l:List Env),(∀b∈u6 l,b∈X.fs)->X.s₀.heap.FunFrames X.base l->s.heap.FunFrames X.base l:=by
  intro l
  induction l with
  |nil=>intro _ _;trivial
  |cons env r ih=>
   intro hs hl;obtain⟨hk,⟨L,o,hf,hn,ho,hd⟩,hr⟩:=hl;have hL:L∈X.fs:=hs L (by unfold u6;rw[List.filterMap_cons,hf];exact List.mem_cons_self);obtain⟨sl,e⟩:=I.base.slot L o ho (I.ok.frf L hL) hL fun z=>I.ok.exfs L z hL
   exact⟨hk,⟨L,_,hf,hn,e,hd⟩,ih (fun b hb=>hs b (by unfold u6;rw[List.filterMap_cons,hf];exact List.mem_cons_of_mem _ hb)) hr⟩
 exact all X.outer (fun _ hb=>hb) I.ok.funs
theorem Inv.stack(I:Inv X pins σ H s):s.heap.FunFrames X.base X.stack:=by
 rcases I.ok.stk with e|⟨e,hf⟩
 ·rw[e];exact I.funs
 ·rw[e]
  obtain⟨m,hn,_⟩:=I.loc;refine .cons (by rw[I.ok.kind];decide) hf hn ?_ I.funs;exact Heap.get?_none_of_le (Nat.le_trans I.ok.bsz I.ok.above)
theorem Inv.stkSub(I:Inv X pins σ H s):∀b∈u6 X.stack,b∈X.env.locals::X.fs:=fun b hb=>by
 rcases I.ok.stk with e|⟨e,hf⟩
 ·rw[e]at hb;exact List.mem_cons_of_mem _ hb
 ·rw[e]at hb
  unfold u6 at hb;rw[List.filterMap_cons,hf]at hb;exact hb
theorem Inv.stkFree(I:Inv X pins σ H s):∀b∈u6 X.stack,H b=none:=fun b hb=>by
 rcases List.mem_cons.mp (I.stkSub b hb)with e|hb
 ·rw[e];exact I.free
 ·obtain⟨_,o,ho,_⟩:=I.ok.funs.mem hb
  exact I.base.free b o ho (I.ok.frf b hb) fun z=>I.ok.exfs b z hb
theorem Inv.step{g':Array GenState}{t':Nat}{d':Drawn}{ch:List Addr}(I:Inv X pins σ H s)
  (hch:∀b∈ch,(b∈X.ex\/X.s₀.heap.objs.size<=b)/\b≠X.env.locals/\(∀x c,X.env.cells.lookup x=some c->c≠b)/\∀p∈X.pn++pins,p.1≠b)
  (keep:∀b o,b≠X.env.locals->b ∉ X.fs->b ∉ ch->s.heap.get? b=some o->H b=none->h'.get? b=some o)
  (slot:∀b o,b≠X.env.locals->b∈X.fs->b ∉ ch->s.heap.get? b=some o->H b=none->∃sl,h'.get? b=some { o with slots:=sl }) (free:∀b o,b ∉ ch->s.heap.get? b=some o->H b=none->H' b=none)
  (there:∀b o,b ∉ ch->s.heap.get? b=some o->∃o',h'.get? b=some o')
  (tups:∀b xs,H b=some (.tup xs)->H' b=some (.tup xs)) (frzs:∀b o u,H b=some (.frz o u)->H' b=some (.frz o u)) (tbls:∀b ps,H b=some (.tbl ps)->∃more,H' b=some (.tbl (ps++more)))
  (ns:∀m,s.heap.Ns X.env.locals m->h'.Ns X.env.locals m) (hok:HOk X.prog X.w H' h') (hg:AllBare g') :
  Inv X pins σ H' { s with heap:=h',gens:=g',drawn:=d',toks:=t' }:=by
 have neL:∀b o,X.s₀.heap.get? b=some o->b≠X.env.locals:=fun b o e=>Nat.ne_of_lt (Nat.lt_of_lt_of_le (Heap.lt_size e) I.ok.above)
 have neC:∀b o,X.s₀.heap.get? b=some o->b ∉ X.ex->b ∉ ch:=fun b o e hx hb=>by
  rcases (hch b hb).1 with z|z
  ·exact hx z
  ·exact absurd (Nat.lt_of_lt_of_le (Heap.lt_size e) z) (Nat.lt_irrefl _)
 have cellK:∀x c,X.env.cells.lookup x=some c->∀v,s.heap.IsCell c v->h'.IsCell c v:=fun x c e v ⟨o,ho,hd⟩=>by
  have nch:c ∉ ch:=fun z=>(hch c z).2.2.1 x c e rfl
  by_cases hc:c∈X.fs
  ·obtain⟨sl,q⟩:=slot c o (I.cne x c e) hc nch ho (I.freeC x c e)
   exact⟨_,q,hd⟩
  ·exact⟨o,keep c o (I.cne x c e) hc nch ho (I.freeC x c e),hd⟩
 refine⟨I.ok,I.os,hg,⟨fun b o e n hb hx=>?_,fun b o e n hb hx=>?_,fun b o e n hx=>?_,fun b o e hx=>?_,fun b xs e=>tups b xs (I.base.tups b xs e),fun b o xs e=>frzs b o xs (I.base.frzs b o xs e),fun b ps e=>?_⟩,?_,fun x c e=>?_,?_,fun x c e=>?_,fun p hp=>?_,hok,I.len⟩
 ·exact keep b o (neL b o e) hb (neC b o e hx) (I.base.keep b o e n hb hx) (I.base.free b o e n hx)
 ·obtain⟨sl,e1⟩:=I.base.slot b o e n hb hx
  obtain⟨sl',e2⟩:=slot b _ (neL b o e) hb (neC b o e hx) e1 (I.base.free b o e n hx);exact⟨sl',e2⟩
 ·obtain⟨o',e1⟩:=I.base.there b o e hx
  exact free b o' (neC b o e hx) e1 (I.base.free b o e n hx)
 ·obtain⟨o',e1⟩:=I.base.there b o e hx
  exact there b o' (neC b o e hx) e1
 ·obtain⟨m1,e1⟩:=I.base.tbls b ps e
  obtain⟨m2,e2⟩:=tbls b _ e1;exact⟨m1++m2,by rw[e2,Array.append_assoc]⟩
 ·obtain⟨m,hn,hl⟩:=I.loc
  refine⟨m,ns m hn,fun i x v e1 e2 e3=>?_⟩
  obtain⟨u,r,l⟩:=hl i x v e1 e2 e3;refine⟨u,r,?_⟩;rcases l with l|⟨k,c,e,z⟩
  ·exact .inl l
  ·exact .inr ⟨k,c,e,cellK x c e _ z⟩
 ·obtain⟨v,z⟩:=I.cell x c e
  exact⟨v,cellK x c e v z⟩
 ·obtain⟨m,⟨o,_,_,ho,_⟩,_⟩:=I.loc
  exact free _ o (fun z=>(hch _ z).2.1 rfl) ho I.free
 ·obtain⟨v,o,ho,hd⟩:=I.cell x c e
  exact free c o (fun z=>(hch c z).2.2.1 x c e rfl) ho (I.freeC x c e)
 ·obtain⟨e,n,ne,nf,d⟩:=I.pin p hp
  have nch:p.1 ∉ ch:=fun z=>(hch p.1 z).2.2.2 p hp rfl
  exact⟨keep p.1 p.2 ne nf nch e n,free p.1 p.2 nch e n,ne,nf,d⟩
theorem Inv.un{t':Nat}(I:Inv X pins σ H s)(u:Un X.fs [] H H' s.heap h')(hok:HOk X.prog X.w H' h'):Inv X pins σ H' { s with heap:=h',toks:=t' }:=by
 obtain⟨m,⟨o,es,ep,ho,r⟩,_⟩:=id I.loc;obtain⟨sl,hL⟩:=u.any ho I.free (by simp);exact I.step (g':=s.gens) (d':=s.drawn) (ch:=[]) (fun _ z=>nomatch z) (fun b o _ hb _ e n=>u.keep b o e n hb (by simp)) (fun b o _ hb _ e n=>u.slot b o e n hb (by simp)) (fun b o _ e n=>u.free b o e n (by simp)) (fun b o _ e=>u.there b o e (by simp)) u.tups u.frzs u.tbls (fun m' hm=>by
  obtain⟨o',es',ep',ho',r'⟩:=hm;rw[ho]at ho';cases ho';exact⟨_,es',ep',hL,r'⟩) hok I.bare
theorem Inv.call{g':Array GenState}{t':Nat}{d':Drawn}{ch:List Addr}(I:Inv X pins σ H s)(u:Un (u6 X.stack) ch H H' s.heap h')(hok:HOk X.prog X.w H' h')(hg:AllBare g')
  (hch:∀b∈ch,(b∈X.ex\/X.s₀.heap.objs.size<=b)/\b≠X.env.locals/\(∀x c,X.env.cells.lookup x=some c->c≠b)/\∀p∈X.pn++pins,p.1≠b) :
  Inv X pins σ H' { s with heap:=h',gens:=g',drawn:=d',toks:=t' }:=by
 obtain⟨m,⟨o,es,ep,ho,r⟩,_⟩:=id I.loc;obtain⟨sl,hL⟩:=u.any ho I.free fun z=>(hch _ z).2.1 rfl
 exact I.step (ch:=ch) hch (fun b o hL hb hc e n=>u.keep b o e n (fun z=>(List.mem_cons.mp (I.stkSub b z)).elim hL hb) hc) (fun b o _ _ hc e n=>u.any e n hc) (fun b o hc e n=>u.free b o e n hc) (fun b o hc e=>u.there b o e hc) u.tups u.frzs u.tbls (fun m' hm=>by
  obtain⟨o',es',ep',ho',r'⟩:=hm;rw[ho]at ho';cases ho';exact⟨_,es',ep',hL,r'⟩) hok hg
theorem Inv.turned{t':Nat}{it:Addr}(I:Inv X pins σ H s)(k:∀b o,b≠it->s.heap.get? b=some o->h'.get? b=some o)(hn:H it=none)(hL:it≠X.env.locals)
  (h1:it∈X.ex\/X.s₀.heap.objs.size<=it) (h2:∀x c,X.env.cells.lookup x=some c->c≠it) (h3:∀p∈X.pn++pins,p.1≠it):Inv X pins σ H { s with heap:=h',toks:=t' }:=by
 have nit:∀b u,H b=some u->b≠it:=fun b u e z=>by rw[z,hn]at e;cases e
 refine I.step (g':=s.gens) (d':=s.drawn) (ch:=[it]) (fun b hb=>?_) (fun b o _ _ hc e _=>k b o (fun z=>hc (by simp[z])) e) (fun b o _ _ hc e _=>⟨o.slots,k b o (fun z=>hc (by simp[z])) e⟩) (fun _ _ _ _ n=>n)
  (fun b o hc e=>⟨o,k b o (fun z=>hc (by simp[z])) e⟩) (fun _ _ e=>e) (fun _ _ _ e=>e) (fun b ps e=>⟨#[],by rw[e];simp⟩) (fun m hm=>?_) (fun b u e=>?_) I.bare
 ·have e:b=it:=by simpa using hb
  subst e;exact⟨h1,hL,h2,h3⟩
 ·obtain⟨o,es,ep,ho,r⟩:=hm
  exact⟨o,es,ep,k _ o (Ne.symm hL) ho,r⟩
 ·refine(I.hok b u e).stay (fun c v hc q=>k c v ?_ q) (fun _ q=>q) fun _ _ q=>q
  rcases hc with z|z
  ·rw[z];exact nit b u e
  ·exact nit c _ z
theorem Inv.tok(I:Inv X pins σ H s)(t:Nat):Inv X pins σ H { s with toks:=t }:=I.un (h':=s.heap) (t':=t) Un.refl I.hok
theorem Inv.kept{t':Nat}(I:Inv X pins σ H s)(k:∀b u,s.heap.get? b=some u->h'.get? b=some u):Inv X pins σ H { s with heap:=h',toks:=t' }:=I.un (Un.kept k) (I.hok.kept k)
theorem Inv.laid{a:Addr}{o:HO}{t':Nat}(I:Inv X pins σ H s)(k:∀b u,s.heap.get? b=some u->h'.get? b=some u)(hp:s.heap.objs.size<=a)(new:ObjOk X.prog X.w (upd H a o) h' a o):
  Inv X pins σ (upd H a o) { s with heap:=h',toks:=t' }:=I.un (Un.laid k hp (I.hok.fresh hp)) (I.hok.laid k hp new)
theorem Inv.write{x e:Addr}{o:HO}{t':Nat}(I:Inv X pins σ H s)(mu:Hd (H x))(he:e=x\/H e=some (.own x))(k:∀b u,b≠e->s.heap.get? b=some u->h'.get? b=some u)(heo:∃u,h'.get? e=some u)
  (new:ObjOk X.prog X.w (upd H x o) h' x o):Inv X pins σ (upd H x o) { s with heap:=h',toks:=t' }:=I.un (Un.write mu he k heo) (I.hok.write mu he k heo new)
theorem Inv.weak{σ':List (Option V)}(I:Inv X pins σ H s)(hl:σ'.length = σ.length)(w:∀(i:Nat) v,σ'[i]? = some (some v) -> σ[i]? = some (some v)):Inv X pins σ' H s:=
 ⟨I.ok,I.os,I.bare,I.base,let ⟨m,hn,hl'⟩:=I.loc; ⟨m,hn,fun i x v e1 e2 e3=>hl' i x v e1 (w i v e2) e3⟩,I.cell,I.free,I.freeC,I.pin,I.hok,hl.trans I.len⟩
theorem Inv.pins_of{pins':List (Addr×Obj)}(I:Inv X pins σ H s)(h:∀p∈pins',s.heap.get? p.1=some p.2/\H p.1=none/\p.1≠X.env.locals/\p.1 ∉ X.fs/\∀v,p.2.data≠.cell v):Inv X pins' σ H s:=
 ⟨I.ok,I.os,I.bare,I.base,I.loc,I.cell,I.free,I.freeC,fun p hp=>(List.mem_append.mp hp).elim (fun z=>I.pin p (List.mem_append_left _ z)) (h p),I.hok,I.len⟩
theorem qX{N:List Str}(hN:N.Nodup){i j:Nat}{x:Str}(a:N[i]? = some x)(b:N[j]? = some x):i=j:=by
 obtain⟨h1,e1⟩:=List.getElem?_eq_some_iff.mp a;obtain⟨h2,e2⟩:=List.getElem?_eq_some_iff.mp b;exact(List.getElem_inj hN).mp (e1.trans e2.symm)
theorem vD{M:Model}{A:Around}{E:Value->Shared->Prop}{i:Nat}{x:Str}{v:V}{u:Value}{Q:Unit->Shared->Prop}(I:Inv X pins σ H s)(hN:X.N.Nodup)(hi:X.N[i]? = some x)(hx:Cc X.env.scope x)(r:RelV v u)
  (h:∀s',Inv X pins (σ.set i (some v)) H s'->(∃a,Heap.SameBut a s.heap s'.heap/\(a=X.env.locals\/X.env.cells.lookup x=some a))->Q () s') (hf:X.fn x=true\/X.env.scope.names.lookup x=some .local:=by first|exact .inl rfl|exact .inr rfl|assumption):wpAny M A (storeName X.env x u) Q E s:=by
 obtain⟨m,hn,hl⟩:=id I.loc;have hcls:(X.env.scope.kind == .class||(X.env.scope.kind == .module&&X.env.locals != X.env.globals))=false:=by rw[I.ok.kind];rfl
 have hiσ:i < σ.length:=by rw[I.len];exact(List.getElem?_eq_some_iff.mp hi).1
 have cne:=I.cne;have tracked:∀{a:Addr} {h':Heap},(∃o,s.heap.get? a=some o/\H a=none)->Heap.SameBut a s.heap h'->HOk X.prog X.w H h':=fun{a h'} ha hs b ob e=>by
  obtain⟨_,_,hfree⟩:=ha;refine(I.hok b ob e).stay (fun c w' hc q=>(hs.2 c ?_).trans q) (fun _ q=>q) fun _ _ q=>q
  rintro rfl;rcases hc with rfl|hc
  ·rw[hfree]at e;cases e
  ·rw[hfree]at hc;cases hc
 rcases hx with hk|hk
 ·refine wpAny_storeName_local hk hn (fun h' hn' hs=>?_) hcls
  obtain⟨oL,_,_,hoL,_⟩:=id hn;refine h _ ⟨I.ok,I.os,I.bare,⟨fun b o e n hb hx=>?_,fun b o e n hb hx=>?_,I.base.free,fun b o e hx=>?_,I.base.tups,I.base.frzs,I.base.tbls⟩,⟨_,hn',fun j y v' e1 e2 e3=>?_⟩,fun y c e=>?_,I.free,I.freeC,fun p hp=>?_,tracked ⟨oL,hoL,I.free⟩ hs,by simpa using I.len⟩ ⟨_,hs,.inl rfl⟩
  ·exact(hs.2 b (Nat.ne_of_lt (Nat.lt_of_lt_of_le (Heap.lt_size e) I.ok.above))).trans (I.base.keep b o e n hb hx)
  ·obtain⟨sl,e1⟩:=I.base.slot b o e n hb hx
   exact⟨sl,(hs.2 b (Nat.ne_of_lt (Nat.lt_of_lt_of_le (Heap.lt_size e) I.ok.above))).trans e1⟩
  ·obtain⟨o',e1⟩:=I.base.there b o e hx
   exact⟨o',(hs.2 b (Nat.ne_of_lt (Nat.lt_of_lt_of_le (Heap.lt_size e) I.ok.above))).trans e1⟩
  ·by_cases hj:j=i
   ·subst hj
    rw[hi]at e1;cases e1;rw[List.getElem?_set_self hiσ]at e2;cases e2;exact⟨u,r,.inl ⟨hk,by simp⟩⟩
   ·rw[List.getElem?_set_ne (Ne.symm hj)]at e2
    obtain⟨u',r',q⟩:=hl j y v' e1 e2 e3;refine⟨u',r',?_⟩;rcases q with⟨k,e⟩|⟨k,c,e,z⟩
    ·refine .inl ⟨k,?_⟩
     have:y≠x:=fun e=>hj (qX hN e1 (e ▸ hi))
     simp[this,e]
    ·exact .inr ⟨k,c,e,z.sameBut hs (cne y c e)⟩
  ·obtain⟨w',z⟩:=I.cell y c e
   exact⟨w',z.sameBut hs (cne y c e)⟩
  ·obtain⟨e,n,ne,nf,d⟩:=I.pin p hp
   exact⟨(hs.2 p.1 ne).trans e,n,ne,nf,d⟩
 ·have hfn:X.fn x=true:=by
   rcases hf with z|z
   ·exact z
   ·rw[z]at hk;cases hk
  obtain⟨c,hc⟩:=I.ok.has x (.inl hk);obtain⟨w',z⟩:=I.cell x c hc;refine wpAny_storeName_cell I.ok.kind hk hc z (fun h' hc' hs=>?_);obtain⟨oc,hoc,hocd⟩:=id z;refine h { s with heap:=h' } ⟨I.ok,I.os,I.bare,⟨fun b o e n hb hx=>?_,fun b o e n hb hx=>?_,I.base.free,fun b o e hx=>?_,I.base.tups,I.base.frzs,I.base.tbls⟩,⟨m,hn.sameBut hs (Ne.symm (cne x c hc)),fun j y v' e1 e2 e3=>?_⟩,fun y c' e=>?_,I.free,I.freeC,fun p hp=>?_,tracked ⟨oc,hoc,I.freeC x c hc⟩ hs,by simpa using I.len⟩ ⟨c,hs,.inr hc⟩
  ·exact(hs.2 b (Nat.ne_of_lt (Nat.lt_of_lt_of_le (Heap.lt_size e) (I.ok.cab x c hfn hc)))).trans (I.base.keep b o e n hb hx)
  ·obtain⟨sl,e1⟩:=I.base.slot b o e n hb hx
   exact⟨sl,(hs.2 b (Nat.ne_of_lt (Nat.lt_of_lt_of_le (Heap.lt_size e) (I.ok.cab x c hfn hc)))).trans e1⟩
  ·obtain⟨o',e1⟩:=I.base.there b o e hx
   exact⟨o',(hs.2 b (Nat.ne_of_lt (Nat.lt_of_lt_of_le (Heap.lt_size e) (I.ok.cab x c hfn hc)))).trans e1⟩
  ·by_cases hj:j=i
   ·subst hj
    rw[hi]at e1;cases e1;rw[List.getElem?_set_self hiσ]at e2;cases e2;exact⟨u,r,.inr ⟨.inl hk,c,hc,hc'⟩⟩
   ·rw[List.getElem?_set_ne (Ne.symm hj)]at e2
    obtain⟨u',r',q⟩:=hl j y v' e1 e2 e3;refine⟨u',r',?_⟩;rcases q with q|⟨k,c',e,z'⟩
    ·exact .inl q
    ·refine .inr ⟨k,c',e,z'.sameBut hs ?_⟩
     rintro rfl;exact hj (qX hN e1 (I.ok.inj _ _ _ e hc ▸ hi))
  ·by_cases hcc:c'=c
   ·subst hcc;exact⟨_,hc'⟩
   ·obtain⟨w2,z2⟩:=I.cell y c' e
    exact⟨w2,z2.sameBut hs hcc⟩
  ·obtain⟨e,n,ne,nf,d⟩:=I.pin p hp
   refine⟨(hs.2 p.1 ?_).trans e,n,ne,nf,d⟩;intro q;rw[q,hoc]at e;have q':oc=p.2:=Option.some.inj e;exact d w' (by rw[<-q'];exact hocd)
theorem qG{M:Model}{A:Around}{E:Value->Shared->Prop}{i:Nat}{x:Str}{v:V}{u:Value}{Q:Unit->Shared->Prop}(I:Inv X pins σ H s)(hN:X.N.Nodup)(hi:X.N[i]? = some x)(hx:Cc X.env.scope x)(r:RelV v u)
  (h:∀s',Inv X pins (σ.set i (some v)) H s'->Q () s') (hf:X.fn x=true\/X.env.scope.names.lookup x=some .local:=by first|exact .inl rfl|exact .inr rfl|assumption):wpAny M A (storeName X.env x u) Q E s:=
 vD I hN hi hx r (fun s' I' _=>h s' I') hf
theorem Inv.call'{s':Shared}{ch:List Addr}(I:Inv X pins σ H s)(ho:s'.os=s.os)(u:Un (u6 X.stack) ch H H' s.heap s'.heap)(hok:HOk X.prog X.w H' s'.heap)(hg:AllBare s'.gens)
  (hch:∀b∈ch,(b∈X.ex\/X.s₀.heap.objs.size<=b)/\b≠X.env.locals/\(∀x c,X.env.cells.lookup x=some c->c≠b)/\∀p∈X.pn++pins,p.1≠b):Inv X pins σ H' s':=by
 obtain⟨h',g',d',t',o'⟩:=s';have e:o'=s.os:=ho;subst e;exact I.call (g':=g') (t':=t') (d':=d') u hok hg hch
end
abbrev XK:=Value->Option Addr->Hp->Prop
abbrev St:=List (Option V)
abbrev VK:=V->Hp->Prop
abbrev TE:=St->Hp->VK->Prop
abbrev TT:=St->Hp->(Bool->Hp->Prop)->Prop
abbrev TA:=St->Hp->(List V->Hp->Prop)->Prop
structure Ends where
 nx:St->Hp->Prop
 rt:VK
 bk:St->Hp->Prop:=fun _ _=>False
 ct:St->Hp->Prop:=fun _ _=>False
abbrev TS:=Ends->St->Hp->Prop
def EP(X:Cx)(pins:List (Addr×Obj))(σ:St)(Q:VK)(u:Value)(s':Shared):Prop:=∃v H',Inv X pins σ H' s'/\RelV v u/\Q v H'
def TP(X:Cx)(pins:List (Addr×Obj))(σ:St)(Q:Bool->Hp->Prop)(b:Bool)(s':Shared):Prop:=∃H',Inv X pins σ H' s'/\Q b H'
def AP(X:Cx)(pins:List (Addr×Obj))(σ:St)(Q:List V->Hp->Prop)(us:List Value)(s':Shared):Prop:=∃vs H',Inv X pins σ H' s'/\Vals vs us/\Q vs H'
def SP(X:Cx)(pins:List (Addr×Obj))(D:Ends)(f:Flow)(s':Shared):Prop:=
 match f with
 |.next=>∃ σ' H',Inv X pins σ' H' s'/\D.nx σ' H'
 |.brk=>∃ σ' H',Inv X pins σ' H' s'/\D.bk σ' H'
 |.cont=>∃ σ' H',Inv X pins σ' H' s'/\D.ct σ' H'
 |.ret u=>∃v σ' H',Inv X pins σ' H' s'/\RelV v u/\D.rt v H'
def PE(X:Cx)(e:Expr)(t:TE):Prop:=
 ∀(pins:List (Addr×Obj)) (s:Shared) (σ:St) (H:Hp) (Q:VK),Inv X pins σ H s->t σ H Q->wpAny (model X.prog X.w) X.A (eval e X.env) (EP X pins σ Q) X.xe s
def PT(X:Cx)(e:Expr)(t:TT):Prop:=
 ∀(pins:List (Addr×Obj)) (s:Shared) (σ:St) (H:Hp) (Q:Bool->Hp->Prop),Inv X pins σ H s->t σ H Q->wpAny (model X.prog X.w) X.A (isTrue e X.env (eval e X.env)) (TP X pins σ Q) X.xe s
def PW(X:Cx)(e:Expr)(t:TT):Prop:=
 ∀(whole:Sem Value) (pins:List (Addr×Obj)) (s:Shared) (σ:St) (H:Hp) (Q:Bool->Hp->Prop),Inv X pins σ H s->t σ H Q->wpAny (model X.prog X.w) X.A (isTrue e X.env whole) (TP X pins σ Q) X.xe s
theorem PW.pt{X:Cx}{e:Expr}{t:TT}(h:PW X e t):PT X e t:=h _
def PA(X:Cx)(es:List Expr)(t:TA):Prop:=
 ∀(pos:Pos) (pins:List (Addr×Obj)) (s:Shared) (σ:St) (H:Hp) (Q:List V->Hp->Prop),Inv X pins σ H s->t σ H Q->wpAny (model X.prog X.w) X.A (spliced (backTo pos (starEach es X.env))) (AP X pins σ Q) X.xe s
def PS(X:Cx)(st:Stmt)(t:TS):Prop:=
 ∀(pins:List (Addr×Obj)) (s:Shared) (σ:St) (H:Hp) (D:Ends),Inv X pins σ H s->t D σ H->wpAny (model X.prog X.w) X.A (exec st X.env) (SP X pins D) X.xe s
def PSs(X:Cx)(st:List Stmt)(t:TS):Prop:=
 ∀(pins:List (Addr×Obj)) (s:Shared) (σ:St) (H:Hp) (D:Ends),Inv X pins σ H s->t D σ H->wpAny (model X.prog X.w) X.A (execs st X.env) (SP X pins D) X.xe s
theorem cx{α:Type}{t:Sem α}{Q Q':α -> Shared->Prop}{M:Model}{A:Around}{E:Value->Shared->Prop}{s:Shared}(h:wpAny M A t Q E s)(hQ:∀a s,Q a s->Q' a s):wpAny M A t Q' E s:=wpAny_mono h hQ fun _ _ x=>x
section
variable{X:Cx}
def Hn(i:Nat):TE:=fun σ H Q=>∃v,σ[i]? = some (some v)/\Q v H
def tC(v:V):TE:=fun _ H Q=>Q v H
theorem o9{i:Nat}{x:Str}{pos:Pos}(hN:X.N[i]? = some x)(hv:EY X.env.scope x)(hd:(x==("__debug__":Str))=false:=by decide)(hcd:(x==("__classdict__":Str))=false:=by decide):PE X (.Name x pos) (Hn i):=by
 intro pins s σ H Q I h;obtain⟨v,e,h⟩:=h;obtain⟨m,hn,hl⟩:=I.loc;obtain⟨u,r,l⟩:=hl i x v hN e hv;have fin:EP X pins σ Q u s:=⟨v,H,I,r,h⟩;rcases l with⟨hk,hm⟩|⟨hk,c,hc,hcell⟩
 ·exact wpAny_Name (wpAny_loadName_local I.ok.kind hk hn hm fin) hd
 ·rcases hk with hk|hk
  ·exact wpAny_Name (wpAny_loadName_cell I.ok.kind hk hc hcell fin) hd
  ·exact wpAny_Name (wpAny_loadName_free I.ok.kind hk hc hcell fin hcd) hd
theorem Du{i j pos}:PE X (.Constant (.int i) j pos) (tC (.int i)):=fun _ _ _ H _ I h=>wpAny_Constant_int ⟨.int i,H,I.tok _,⟨_,rfl⟩,h⟩
theorem FD{b j pos}:PE X (.Constant (.bool b) j pos) (tC (.bl b)):=fun _ _ _ H _ I h=>Constant_bool ⟨.bl b,H,I,rfl,h⟩
theorem Dt{x j pos}:PE X (.Constant (.str x) j pos) (tC (.str x)):=fun _ _ _ H _ I h=>Calls.Constant_str ⟨.str x,H,I.tok _,⟨_,rfl⟩,h⟩
def Gl(X:Cx)(x:Str):Prop:=X.env.kindOf x=some .globalImplicit
theorem uT{E:Value->Shared->Prop}{pins:List (Addr×Obj)}{s:Shared}{σ:St}{H:Hp}{x:Str}{u:Value}{pos:Pos}{Q:Value->Shared->Prop}(I:Inv X pins σ H s)(hg:Gl X x)(hm:X.mg x=some u)(h:Q u s)
  (hd:(x==("__debug__":Str))=false:=by decide):wpAny (model X.prog X.w) X.A (eval (.Name x pos) X.env) Q E s:=
 Calls.Name_function_global I.ok.kind hg (Calls.loadGlobal_global (by rw[I.ok.glob];exact I.mod.glob.keeps I.bk) hm h) hd
theorem lX{E:Value->Shared->Prop}{pins:List (Addr×Obj)}{s:Shared}{σ:St}{H:Hp}{x:Str}{u:Value}{pos:Pos}{Q:Value->Shared->Prop}(I:Inv X pins σ H s)(hg:Gl X x)(hm:X.mg x=none)(hv:bootBuiltins x=some u)(h:Q u s)
  (hn:x ≠ "__name__":=by decide) (hd:(x==("__debug__":Str))=false:=by decide):wpAny (model X.prog X.w) X.A (eval (.Name x pos) X.env) Q E s:=by
 obtain⟨mb,h1,h2⟩:=I.mod.blt;exact Calls.Name_function_global I.ok.kind hg (Calls.loadGlobal_builtin (by rw[I.ok.glob];exact I.mod.glob.keeps I.bk) hm (by rw[I.ok.blt];exact h1.keeps I.bk) ((h2 x hn).trans hv) h) hd
theorem uE{x:Str}{v:V}{u:Value}{pos:Pos}(hg:Gl X x)(hm:X.mg x=some u)(r:RelV v u)(hd:(x==("__debug__":Str))=false:=by decide):PE X (.Name x pos) (tC v):=
 fun _ _ _ H _ I h=>uT I hg hm ⟨v,H,I,r,h⟩ hd
variable{a b:Expr}{ta tb:TE}{pos:Pos}
def tB(t:TE):TT:=fun σ H Q=>t σ H fun x H1=>∃c,x=.bl c/\Q c H1
theorem Dl{e:Expr}{t:TE}(h:PE X e t)(he:∀whole,isTrue e X.env whole=(do let v <-whole;standAt e.pos;holding [v] (truthy v)):=by intro _;rfl):PT X e (tB t):=by
 intro pins s σ H Q I hw;refine isTrue_plain (cx (h pins s σ H _ I hw) fun v s1 ⟨x,H1,I1,r1,q1⟩=>?_) (he _)
 obtain⟨d,rfl,q⟩:=q1;cases r1;exact wpAny_truthy_bool ⟨H1,I1,q⟩
variable{tA tB':TT}{rest:List Expr}
def HB(t u:TT):TT:=fun σ H Q=>t σ H fun c H1=>if c=true then u σ H1 Q else Q false H1
def JF(t u:TT):TT:=fun σ H Q=>t σ H fun c H1=>if c=true then Q true H1 else u σ H1 Q
def Hv(t:TT):TT:=fun σ H Q=>t σ H fun c H1=>Q (!c) H1
theorem AD(ha:PT X a tA):PW X (.BoolOp .And [a] pos) tA:=by
 intro wh pins s σ H Q I h;refine isTrue_and (cx (ha pins s σ H Q I h) fun c s1 e=>?_)
 cases c with
 |true=>exact isTrue_and_nil e
 |false=>exact e
theorem Di(ha:PT X a tA):PW X (.BoolOp .Or [a] pos) tA:=by
 intro wh pins s σ H Q I h;refine isTrue_or (cx (ha pins s σ H Q I h) fun c s1 e=>?_)
 cases c with
 |false=>exact isTrue_or_nil e
 |true=>exact e
theorem Dj(ha:PT X a tA)(hb:PW X (.BoolOp .And (b::rest) pos) tB'):PW X (.BoolOp .And (a::b::rest) pos) (HB tA tB'):=by
 intro wh pins s σ H Q I h;refine isTrue_and (cx (ha pins s σ H _ I h) fun c s1 ⟨H1,I1,q1⟩=>?_)
 cases c with
 |true=>exact hb wh pins s1 σ H1 Q I1 q1
 |false=>exact⟨H1,I1,q1⟩
theorem Fu(ha:PT X a tA)(hb:PW X (.BoolOp .Or (b::rest) pos) tB'):PW X (.BoolOp .Or (a::b::rest) pos) (JF tA tB'):=by
 intro wh pins s σ H Q I h;refine isTrue_or (cx (ha pins s σ H _ I h) fun c s1 ⟨H1,I1,q1⟩=>?_)
 cases c with
 |true=>exact⟨H1,I1,q1⟩
 |false=>exact hb wh pins s1 σ H1 Q I1 q1
theorem Dm(ha:PT X a tA):PT X (.UnaryOp .Not a pos) (Hv tA):=by
 intro pins s σ H Q I h;exact isTrue_not (ha pins s σ H (fun c H1=>Q (!c) H1) I h)
def JG(t:TT)(ta tb:TE):TE:=fun σ H Q=>t σ H fun c H1=>if c=true then ta σ H1 Q else tb σ H1 Q
theorem ya{c:Expr}(hc:PT X c tA)(ha:PE X a ta)(hb:PE X b tb):PE X (.IfExp c a b pos) (JG tA ta tb):=by
 intro pins s σ H Q I h;refine wpAny_IfExp (cx (hc pins s σ H _ I h) fun d s1 ⟨H1,I1,q1⟩=>?_)
 cases d with
 |true=>exact ha pins s1 σ H1 Q I1 q1
 |false=>exact hb pins s1 σ H1 Q I1 q1
end
def SqL(K:PySem.W.Frag)(H:Hp)(a:Addr)(xs:List V):Prop:=
 Rd H a (.lst xs) \/
  ∃(o:Obj) (its:Array Value) (n:Nat),K.lookup a=some o/\o.cls=.type "list" /\ o.dict=none/\o.data=.seq its n/\its.size<=sizeLine/\Vals xs its.toList
def SqT(K:PySem.W.Frag)(H:Hp)(a:Addr)(xs:List V):Prop:=
 Rd H a (.tup xs) \/
  ∃(o:Obj) (its:Array Value) (n:Nat),K.lookup a=some o/\o.cls=.type "tuple" /\ o.data=.seq its n/\its.size<=sizeLine/\Vals xs its.toList/\o.dict=none
noncomputable def IK:Value->Option V
 |.none=>some .non
 |.bool b=>some (.bl b)
 |.int i _=>some (.int i)
 |.str x _=>some (.str x)
 |.bytes b _=>some (.byt b)
 |.float b _=>some (.flt b)
 |.ref a=>some (.ref a)
 |.type n=>some (.ty n)
 |_=>none
theorem RelV.abs{x:V}{u:Value}(r:RelV x u):IK u=some x:=by
 cases x with
 |non=>cases r;rfl
 |bl _=>cases r;rfl
 |int _=>obtain⟨t,rfl⟩:=r;rfl
 |str _=>obtain⟨t,rfl⟩:=r;rfl
 |byt _=>obtain⟨t,rfl⟩:=r;rfl
 |flt _=>obtain⟨t,rfl⟩:=r;rfl
 |ref _=>cases r;rfl
 |ty _=>cases r;rfl
theorem RelV.inj{x y:V}{u:Value}(r:RelV x u)(q:RelV y u):x=y:=Option.some.inj (r.abs.symm.trans q.abs)
theorem Vals.inj:∀{xs ys:List V} {us:List Value},Vals xs us->Vals ys us->xs=ys
 |_,_,_,.nil,.nil=>rfl
 |_,_,_,.cons r t,.cons r' t'=>by rw[r.inj r',Vals.inj t t']
section
variable{X:Cx}{pins:List (Addr×Obj)}{σ:St}{H:Hp}{s:Shared}{a:Addr}{xs ys:List V}
theorem SqL.of{K:PySem.W.Frag}(h:H a=some (.lst xs)):SqL K H a xs:=.inl (.inl h)
theorem SqT.of{K:PySem.W.Frag}(h:H a=some (.tup xs)):SqT K H a xs:=.inl (.inl h)
theorem Inv.list(I:Inv X pins σ H s)(h:SqL X.K H a xs):∃its:List Value,Vals xs its/\PlainL s.heap a its.toArray/\xs.length<=sizeLine:=by
 rcases h with h|⟨o,its,n,hk,hc,hd,hs,hz,r⟩
 ·obtain⟨z,its,n,r,e⟩:=h.ok I.hok
  exact⟨its,r,⟨_,n,e,rfl,rfl,rfl⟩,z⟩
 ·refine⟨its.toList,r,⟨o,n,I.kIn a o hk,hc,hd,by simpa using hs⟩,?_⟩
  have e:=r.length;simp only[Array.length_toList]at e;omega
theorem Inv.tuple(I:Inv X pins σ H s)(h:SqT X.K H a xs):∃its:List Value,Vals xs its/\IsTup s.heap a its.toArray/\xs.length<=sizeLine:=by
 rcases h with h|⟨o,its,n,hk,hc,hs,hz,r,hd⟩
 ·obtain⟨z,its,r,p⟩:=h.ok I.hok
  exact⟨its,r,p.1,z⟩
 ·refine⟨its.toList,r,⟨o,I.kIn a o hk,hc,n,by simpa using hs⟩,?_⟩
  have e:=r.length;simp only[Array.length_toList]at e;omega
theorem Inv.list_inj(I:Inv X pins σ H s)(h:SqL X.K H a xs)(h':SqL X.K H a ys):xs=ys:=by
 obtain⟨its,r,⟨o,n,e,_,_,d⟩,_⟩:=I.list h;obtain⟨its',r',⟨o',n',e',_,_,d'⟩,_⟩:=I.list h';rw[e]at e';cases e';rw[d]at d';injection d' with d1 _
 have:its=its':=by simpa using congrArg Array.toList d1
 subst this;exact r.inj r'
theorem Inv.tuple_inj(I:Inv X pins σ H s)(h:SqT X.K H a xs)(h':SqT X.K H a ys):xs=ys:=by
 obtain⟨its,r,⟨o,e,_,n,d⟩,_⟩:=I.tuple h;obtain⟨its',r',⟨o',e',_,n',d'⟩,_⟩:=I.tuple h';rw[e]at e';cases e';rw[d]at d';injection d' with d1 _
 have:its=its':=by simpa using congrArg Array.toList d1
 subst this;exact r.inj r'
end
abbrev Cx.wish(X:Cx)(E:Value->Shared->Prop):Cx:={ X with xe:=E }
abbrev Cx.nox(X:Cx):Cx:=X.wish fun _ _=>False
theorem Cx.Ok.wish{X:Cx}(ok:X.Ok)(E:Value->Shared->Prop):(X.wish E).Ok:=
 ⟨ok.mod,ok.kind,ok.glob,ok.blt,ok.above,ok.inj,ok.has,ok.cab,ok.hd,ok.frames,ok.stk,ok.exf,ok.bs,ok.bsz,ok.noex,ok.exfs,ok.funs,ok.frf⟩
theorem Cx.Ok.unwish{X:Cx}{E:Value->Shared->Prop}(ok:(X.wish E).Ok):X.Ok:=
 ⟨ok.mod,ok.kind,ok.glob,ok.blt,ok.above,ok.inj,ok.has,ok.cab,ok.hd,ok.frames,ok.stk,ok.exf,ok.bs,ok.bsz,ok.noex,ok.exfs,ok.funs,ok.frf⟩
section
variable{X:Cx}{pins:List (Addr×Obj)}{σ:St}{H:Hp}{s:Shared}{E:Value->Shared->Prop}
theorem Inv.wish(I:Inv X pins σ H s)(E:Value->Shared->Prop):Inv (X.wish E) pins σ H s:=⟨I.ok.wish E,I.os,I.bare,I.base,I.loc,I.cell,I.free,I.freeC,I.pin,I.hok,I.len⟩
theorem Inv.unwish(I:Inv (X.wish E) pins σ H s):Inv X pins σ H s:=⟨I.ok.unwish,I.os,I.bare,I.base,I.loc,I.cell,I.free,I.freeC,I.pin,I.hok,I.len⟩
theorem SP.unwish{D:Ends}{f:Flow}{s':Shared}(h:SP (X.wish E) pins D f s'):SP X pins D f s':=by
 cases f with
 |next=>obtain⟨σ',H',I,q⟩:=h;exact⟨σ',H',I.unwish,q⟩
 |brk=>obtain⟨σ',H',I,q⟩:=h;exact⟨σ',H',I.unwish,q⟩
 |cont=>obtain⟨σ',H',I,q⟩:=h;exact⟨σ',H',I.unwish,q⟩
 |ret u=>obtain⟨v,σ',H',I,r,q⟩:=h;exact⟨v,σ',H',I.unwish,r,q⟩
theorem PSs.nox{st:List Stmt}{t:TS}(h:PSs X.nox st t):PSs X st t:=fun pins s σ H D I hw=>
 wpAny_mono (h pins s σ H D (I.wish _) hw) (fun _ _ q=>q.unwish) fun _ _ z=>False.elim z
end
section
variable{X:Cx}{st:Stmt}{rest:List Stmt}{t u:TS}{e:Expr}{te:TE}{pos:Pos}
def Fc:TS:=fun D σ H=>D.nx σ H
def Ht(t u:TS):TS:=fun D σ H=>t { D with nx:=u D } σ H
theorem AG:PSs X [] Fc:=fun _ _ σ H _ I h=>wpAny_execs_nil ⟨σ,H,I,h⟩
theorem xR(h1:PS X st t)(h2:PSs X rest u):PSs X (st::rest) (Ht t u):=by
 intro pins s σ H D I h;refine wpAny_execs_cons (cx (h1 pins s σ H { D with nx:=u D } I h) fun f s1 q=>?_)
 cases f with
 |next=>
  obtain⟨σ',H',I',q⟩:=q;exact h2 pins s1 σ' H' D I' q
 |ret v=>exact q
 |brk=>exact q
 |cont=>exact q
theorem AF(h1:PS X st t):PSs X [st] t:=by
 intro pins s σ H D I h;refine wpAny_execs_cons (cx (h1 pins s σ H D I h) fun f s1 q=>?_)
 cases f with
 |next=>exact wpAny_execs_nil q
 |ret v=>exact q
 |brk=>exact q
 |cont=>exact q
theorem Inv.quiet{pins:List (Addr×Obj)}{σ:St}{H:Hp}{s:Shared}(I:Inv X pins σ H s):interactive X.env=false:=by simp[interactive,I.ok.kind]
def Fd(te:TE):TS:=fun D σ H=>te σ H fun _ H1=>D.nx σ H1
theorem uC(he:PE X e te)(hs:swapsWith e none pos.line X.env=pure false:=by rfl):PS X (.Expr e pos) (Fd te):=by
 intro pins s σ H D I h;exact wpAny_Expr_any (cx (he pins s σ H _ I h) fun v s1 ⟨x,H1,I1,r1,q1⟩=>⟨σ,H1,I1,q1⟩) I.quiet hs
def Hu(te:TE):TS:=fun D σ H=>te σ H D.rt
theorem Dn(he:PE X e te):PS X (.Return (some e) pos) (Hu te):=by
 intro pins s σ H D I h;exact wpAny_Return_some (cx (he pins s σ H _ I h) fun v s1 ⟨x,H1,I1,r1,q1⟩=>⟨x,σ,H1,I1,r1,q1⟩)
def Hy(c:TT)(t u:TS):TS:=fun D σ H=>c σ H fun b H1=>if b=true then t D σ H1 else u D σ H1
theorem Fx{c:Expr}{a b:List Stmt}{tc:TT}(hc:PT X c tc)(ha:PSs X a t)(hb:PSs X b u):PS X (.If c a b pos) (Hy tc t u):=by
 intro pins s σ H D I h;refine wpAny_If (cx (hc pins s σ H _ I h) fun d s1 ⟨H1,I1,q1⟩=>?_)
 cases d with
 |true=>exact ha pins s1 σ H1 D I1 q1
 |false=>exact hb pins s1 σ H1 D I1 q1
end
abbrev TG:=V->St->Hp->(St->Hp->Prop)->Prop
abbrev Cb:=List V->St->Hp->(St->Hp->Prop)->Prop
def PG(X:Cx)(target:Expr)(t:TG):Prop:=
 ∀(pins:List (Addr×Obj)) (s:Shared) (σ:St) (H:Hp) (v:V) (u:Value) (Q:St->Hp->Prop),Inv X pins σ H s->RelV v u->t v σ H Q ->
  wpAny (model X.prog X.w) X.A (assign target X.env u) (fun _ s'=>∃ σ' H',Inv X pins σ' H' s'/\Q σ' H') X.xe s
def PGs(X:Cx)(ts:List Expr)(t:Cb):Prop:=
 ∀(pins:List (Addr×Obj)) (s:Shared) (σ:St) (H:Hp) (vs:List V) (us:List Value) (Q:St->Hp->Prop),Inv X pins σ H s->Vals vs us->t vs σ H Q ->
  wpAny (model X.prog X.w) X.A (assignInOrder ((assignEach ts X.env).map (·.2)) us) (fun _ s'=>∃ σ' H',Inv X pins σ' H' s'/\Q σ' H') X.xe s
section
variable{X:Cx}{pos:Pos}
def zf(i:Nat):TG:=fun v σ H Q=>Q (σ.set i (some v)) H
theorem bm{i:Nat}{x:Str}(hN:X.N.Nodup)(hi:X.N[i]? = some x)(hx:Cc X.env.scope x)(hf:X.fn x=true\/X.env.scope.names.lookup x=some .local:=by first|exact .inl rfl|exact .inr rfl|assumption):PG X (.Name x pos) (zf i):=by
 intro pins s σ H v u Q I r h;exact wpAny_assign_Name (qG I hN hi hx r (fun s' I'=>⟨_,H,I',h⟩) hf)
noncomputable def Iu:Cb:=fun vs σ H Q=>vs=[]/\Q σ H
def Gx(t:TG)(u:Cb):Cb:=fun vs σ H Q=>∃v r,vs=v::r/\t v σ H fun σ' H'=>u r σ' H' Q
theorem AN:PGs X [] Iu:=by
 intro pins s σ H vs us Q I r h;obtain⟨e,h⟩:=h;subst e;cases r;exact assignInOrder_nil ⟨σ,H,I,h⟩
theorem xY{e:Expr}{es:List Expr}{t:TG}{u:Cb}(h1:PG X e t)(h2:PGs X es u)
  (hs:(assignEach (e::es) X.env).map (·.2)=assign e X.env::(assignEach es X.env).map (·.2):=by rfl):PGs X (e::es) (Gx t u):=by
 intro pins s σ H vs us Q I r h;obtain⟨v,vr,e1,h⟩:=h;subst e1;cases r with
 |cons r rr=>
  rw[hs];refine assignInOrder_cons (cx (h1 pins s σ H _ _ _ I r h) fun _ s1 ⟨σ1,H1,I1,q1⟩=>?_)
  exact h2 pins s1 σ1 H1 _ _ Q I1 rr q1
def Iq(K:PySem.W.Frag)(n:Nat)(t:Cb):TG:=fun v σ H Q=>∃a xs,v=.ref a/\SqT K H a xs/\xs.length=n/\t xs σ H Q
theorem Dr{es:List Expr}{k:Nat}{t:Cb}{n:Nat}(hc:X.calm=true)(h:PGs X es t)
  (hn:(assignEach es X.env).length=n:=by rfl) (hst:(assignEach es X.env).findIdx? (·.1)=none:=by rfl):PG X (.Tuple es k pos) (Iq X.K n t):=by
 intro pins s σ H v u Q I r hw;obtain⟨a,xs,e1,hq,hl,hw⟩:=hw;subst e1;cases r;obtain⟨its,rv,ht,hz⟩:=I.tuple hq;refine assign_Tuple_tuple (I.ok.hd hc) ht (by simp[hn,<-hl,rv.length]) hst fun h' hx=>?_
 have I1:Inv X pins σ H { s with heap:=h' }:=I.kept (t':=s.toks) fun b o e=>hx b o (Nat.ne_of_lt (Heap.lt_size e)) e
 exact h pins _ σ H xs _ Q I1 (by simpa using rv) hw
def Fh(te:TE)(g:TG):TS:=fun D σ H=>te σ H fun x H1=>g x σ H1 D.nx
theorem Dp{tg e:Expr}{te:TE}{g:TG}(he:PE X e te)(hg:PG X tg g)(hs:swapsWithSole [tg] e pos.line X.env=pure false:=by rfl)(hw:swappedStores [tg] e X.env=pure none:=by rfl)
  (h1:(assignEach [tg] X.env).map (·.2)=[assign tg X.env]:=by rfl):PS X (.Assign [tg] e pos) (Fh te g):=by
 intro pins s σ H D I h;refine wpAny_Assign_stores (cx (he pins s σ H _ I h) fun v s1 ⟨x,H1,I1,r1,q1⟩=>?_) hs hw
 rw[h1];exact cx (hg pins s1 σ H1 x v _ I1 r1 q1) fun _ s2 q=>q
theorem xS{i:Nat}{x:Str}{e:Expr}{te:TE}{pos':Pos}(hN:X.N.Nodup)(hi:X.N[i]? = some x)(hx:Cc X.env.scope x)(he:PE X e te)(hs:swapsWith e (some (.Name x pos')) pos.line X.env=pure false:=by rfl)(hf:X.fn x=true\/X.env.scope.names.lookup x=some .local:=by first|exact .inl rfl|exact .inr rfl|assumption):
  PS X (.Assign [.Name x pos'] e pos) (Fh te (zf i)):=by
 intro pins s σ H D I h;refine wpAny_Assign_Name (cx (he pins s σ H _ I h) fun v s1 ⟨y,H1,I1,r1,q1⟩=>?_) hs
 exact qG I1 hN hi hx r1 (fun s2 I2=>⟨_,H1,I2,q1⟩) hf
end
structure It where
 go:Nat->Hp->Prop
 yld:Nat->Hp->V->Hp->Prop
 stop:Nat->Hp->Prop
def iM(X:Cx)(pins:List (Addr×Obj))(H:Hp)(b:Addr):Prop:=
 H b=none/\b≠X.env.locals/\b ∉ X.fs/\(b∈X.ex\/X.s₀.heap.objs.size<=b)/\(∀x c,X.env.cells.lookup x=some c->c≠b)/\∀p∈X.pn++pins,p.1≠b
theorem Inv.fpOk{X:Cx}{pins:List (Addr×Obj)}{σ:St}{H H':Hp}{s:Shared}{b:Addr}(I:Inv X pins σ H s)(hb:s.heap.objs.size<=b)(hn:H' b=none):iM X pins H' b:=by
 refine⟨hn,Nat.ne_of_gt (Nat.lt_of_lt_of_le I.lt hb),I.nofs hb,.inr (Nat.le_trans I.sz hb),fun x c e z=>?_,fun p hp z=>?_⟩
 ·obtain⟨v,q⟩:=I.cell x c e
  exact absurd (Nat.lt_of_lt_of_le q.lt (by rw[z];exact hb)) (Nat.lt_irrefl _)
 ·exact absurd (Nat.lt_of_lt_of_le (Heap.lt_size (I.pin p hp).1) (by rw[z];exact hb)) (Nat.lt_irrefl _)
structure TurnG (Cm:Cx->Prop) (P:Program) (w:World) (K:PySem.W.Frag) (tg:Expr) (J:It) (fp:List Addr) (it:Addr) (tn:Nat->Heap->Prop):Prop where
 mem:it∈fp
 obj:∀i h,tn i h->∀b∈fp,∃o,h.get? b=some o/\∀v,o.data≠.cell v
 keep:∀i h h',tn i h->(∀b∈fp,∀o,h.get? b=some o->h'.get? b=some o)->tn i h'
 item:∀(X:Cx),X.prog=P->X.w=w->X.K=K->Cm X->∀(i:Nat) (pins:List (Addr×Obj)) (s:Shared) (σ:St) (H:Hp) (E:Value->Shared->Prop),Inv X pins σ H s->(∀b∈fp,iM X pins H b)->tn i s.heap->J.go i H ->
  wpAny (model P w) X.A (pyNext (.ref it)) (fun r s1=>∃u,r=some u /\
   wpAny (model P w) X.A (letOwnedTupleGo tg (.ref it) u) (fun _ s2=>∃x H',Inv X pins σ H' s2/\RelV x u/\J.yld i H x H'/\tn (i+1) s2.heap/\∀b∈fp,H' b=none) E s1) E s
 done:∀(X:Cx),X.prog=P->X.w=w->X.K=K->Cm X->∀(i:Nat) (pins:List (Addr×Obj)) (s:Shared) (σ:St) (H:Hp) (E:Value->Shared->Prop),Inv X pins σ H s->(∀b∈fp,iM X pins H b)->tn i s.heap->J.stop i H ->
  wpAny (model P w) X.A (pyNext (.ref it)) (fun r s1=>r=none/\Inv X pins σ H s1) E s
 self:∀(A:Around) (i:Nat) (s:Shared) (Q:Value->Shared->Prop) (E:Value->Shared->Prop),tn i s.heap->Q (.ref it) s->wpAny (model P w) A (pyIter (.ref it)) Q E s
abbrev zH(P:Program)(w:World)(K:PySem.W.Frag)(tg:Expr)(J:It)(fp:List Addr)(it:Addr)(tn:Nat->Heap->Prop):Prop:=TurnG (fun X=>X.calm=true) P w K tg J fp it tn
abbrev TI:=St->Hp->(It->Hp->Prop)->Prop
def Ju(X:Cx)(pins:List (Addr×Obj))(σ:St)(tg:Expr)(R:It->Hp->Prop)(itv:Value)(s2:Shared):Prop:=
 ∃(it:Addr) (fp:List Addr) (tn:Nat->Heap->Prop) (J:It) (H':Hp),itv=.ref it/\Inv X pins σ H' s2/\zH X.prog X.w X.K tg J fp it tn/\tn 0 s2.heap/\(∀b∈fp,iM X pins H' b)/\R J H'
def PI(X:Cx)(tg iter:Expr)(wi:TI):Prop:=
 ∀(pins:List (Addr×Obj)) (s:Shared) (σ:St) (H:Hp) (R:It->Hp->Prop),Inv X pins σ H s->wi σ H R ->
  wpAny (model X.prog X.w) X.A (eval iter X.env) (fun v s1=>wpAny (model X.prog X.w) X.A (pyIter v) (Ju X pins σ tg R) X.xe s1) X.xe s
theorem zc{M:Model}{A:Around}{E:Value->Shared->Prop}{s:Shared}{tg:Expr}{it:Addr}{u:Value}{o:Obj}{n:String}{vs:Array Value}{Q:Unit->Shared->Prop}(ho:s.heap.get? it=some o)(hc:o.cls=.type n)(hd:o.data=.fields vs)
  (hn:["enumerate","zip","dict_itemiterator","dict_reverseitemiterator","odict_iterator","itertools.zip_longest","itertools.pairwise"].contains n=false) (hQ:Q () s):wpAny M A (letOwnedTupleGo tg (.ref it) u) Q E s:=by
 unfold letOwnedTupleGo;cases tg<;>first
  |exact wpAny_pure hQ
  | (cases u<;>first
    |exact wpAny_pure hQ
    | (refine wpAny_bind (wpAny_load ho ?_)
       rw[hc,hd];show wpAny M A (if(["enumerate","zip","dict_itemiterator","dict_reverseitemiterator","odict_iterator","itertools.zip_longest","itertools.pairwise"].contains n&&vs[0]? == some (rawInt _))=true then _ else _) Q E s;rw[if_neg (by intro h;rw[hn,Bool.false_and]at h;cases h)];exact wpAny_pure hQ))
noncomputable def Jx(K:PySem.W.Frag)(a:Addr):It:=
 ⟨fun i H=>∃xs x,SqL K H a xs/\xs[i]? = some x,fun i H x H'=>H'=H/\∀xs,SqL K H a xs->xs[i]? = some x,fun i H=>∃xs,SqL K H a xs/\xs.length<=i⟩
noncomputable def Jw(K:PySem.W.Frag)(a:Addr):It:=
 ⟨fun i H=>∃xs x,SqT K H a xs/\xs[i]? = some x,fun i H x H'=>H'=H/\∀xs,SqT K H a xs->xs[i]? = some x,fun i H=>∃xs,SqT K H a xs/\xs.length<=i⟩
noncomputable def EZ(lo:Int)(n:Nat):It:=⟨fun i _=>i<n,fun i H x H'=>H'=H/\x=.int (lo+i),fun i _=>n<=i⟩
theorem vA{P:Program}{w:World}{K:PySem.W.Frag}{tg:Expr}(a it:Addr):zH P w K tg (Jx K a) [it] it (fun i h=>h.IsListIter it a i) where
 mem:=by simp
 obj:=fun i h st b hb=>by
  have e:b=it:=by simpa using hb
  subst e;obtain⟨o,e,c,d⟩:=st;exact⟨o,e,fun v z=>by rw[d]at z;cases z⟩
 keep:=fun i h h' st k=>st.at fun o e=>k it (by simp) o e
 item:=by
  intro X hP hw hK hc i pins s σ H E I hf st hg;subst hP hw hK;obtain⟨xs,x,hq,hx⟩:=hg;obtain⟨its,rv,p,hz⟩:=I.list hq;obtain⟨u,hu,ru⟩:=rv.get hx;obtain⟨f0,f1,f2,f3,f4,f5⟩:=hf it (by simp);refine wpAny_pyNext_list_item st p.isList (x:=u) (by simpa using hu) fun h' st' sb=>?_
  have I1:Inv X pins σ H { s with heap:=h' }:=I.turned (t':=s.toks) (fun b o hb e=>(sb.2 b hb).trans e) f0 f1 f3 f4 f5
  obtain⟨o,e,c,d⟩:=id st';exact⟨u,rfl,zc (s:={ s with heap:=h' }) e c d (by decide) ⟨x,H,I1,ru,⟨rfl,fun ys hy=>by rw[I.list_inj hy hq];exact hx⟩,st',fun b hb=>(hf b hb).1⟩⟩
 done:=by
  intro X hP hw hK hc i pins s σ H E I hf st hg;subst hP hw hK;obtain⟨xs,hq,hx⟩:=hg;obtain⟨its,rv,p,hz⟩:=I.list hq;obtain⟨f0,f1,f2,f3,f4,f5⟩:=hf it (by simp);have hl:=rv.length;exact wpAny_pyNext_list_end (I.ok.hd hc) st p.isList (by simp;omega) fun h' eb=>⟨rfl,I.turned (t':=s.toks) (fun b o hb e=>eb b o hb e) f0 f1 f3 f4 f5⟩
 self:=fun _ _ _ _ _ st h=>wpAny_pyIter_listiter st h
theorem sD{P:Program}{w:World}{K:PySem.W.Frag}{tg:Expr}(a it:Addr):zH P w K tg (Jw K a) [it] it (fun i h=>h.IsTupleIter it a i) where
 mem:=by simp
 obj:=fun i h st b hb=>by
  have e:b=it:=by simpa using hb
  subst e;obtain⟨o,e,c,d⟩:=st;exact⟨o,e,fun v z=>by rw[d]at z;cases z⟩
 keep:=fun i h h' st k=>st.at fun o e=>k it (by simp) o e
 item:=by
  intro X hP hw hK hc i pins s σ H E I hf st hg;subst hP hw hK;obtain⟨xs,x,hq,hx⟩:=hg;obtain⟨its,rv,p,hz⟩:=I.tuple hq;obtain⟨u,hu,ru⟩:=rv.get hx;obtain⟨f0,f1,f2,f3,f4,f5⟩:=hf it (by simp);refine wpAny_pyNext_tuple_item st (show s.heap.IsTuple a its.toArray from p) (x:=u) (by simpa using hu) fun h' st' sb=>?_
  have I1:Inv X pins σ H { s with heap:=h' }:=I.turned (t':=s.toks) (fun b o hb e=>(sb.2 b hb).trans e) f0 f1 f3 f4 f5
  obtain⟨o,e,c,d⟩:=id st';exact⟨u,rfl,zc (s:={ s with heap:=h' }) e c d (by decide) ⟨x,H,I1,ru,⟨rfl,fun ys hy=>by rw[I.tuple_inj hy hq];exact hx⟩,st',fun b hb=>(hf b hb).1⟩⟩
 done:=by
  intro X hP hw hK hc i pins s σ H E I hf st hg;subst hP hw hK;obtain⟨xs,hq,hx⟩:=hg;obtain⟨its,rv,p,hz⟩:=I.tuple hq;obtain⟨f0,f1,f2,f3,f4,f5⟩:=hf it (by simp);have hl:=rv.length;exact wpAny_pyNext_tuple_end (I.ok.hd hc) st (show s.heap.IsTuple a its.toArray from p) (by simp;omega) fun h' eb=>⟨rfl,I.turned (t':=s.toks) (fun b o hb e=>eb b o hb e) f0 f1 f3 f4 f5⟩
 self:=fun _ _ _ _ _ st h=>wpAny_pyIter_tupleiter st h
theorem sE{P:Program}{w:World}{K:PySem.W.Frag}{tg:Expr}(it:Addr)(lo:Int)(n:Nat):zH P w K tg (EZ lo n) [it] it (fun i h=>IsRangeIter h it (lo+(i:Nat)*1) ((n:Int)-(i:Nat)) 1) where
 mem:=by simp
 obj:=fun i h st b hb=>by
  have e:b=it:=by simpa using hb
  subst e;exact⟨_,st,fun v z=>by
   have z':Data.fields _=Data.cell v:=z;cases z'⟩
 keep:=fun i h h' st k=>k it (by simp) _ st
 item:=by
  intro X hP hw hK hc i pins s σ H E I hf st hg;subst hP hw hK;obtain⟨f0,f1,f2,f3,f4,f5⟩:=hf it (by simp);have W:=Walks.range (prog:=X.prog) (w:=X.w) (I.ok.hd hc) it lo 1 n;refine W.item i s _ _ hg st fun v h' tk hv st' kk=>?_
  obtain⟨t,rfl⟩:=hv;have I1:Inv X pins σ H { s with heap:=h',toks:=tk }:=I.turned (fun b o hb e=>kk b o (by simpa using hb) e) f0 f1 f3 f4 f5
  refine⟨_,rfl,zc (s:={ s with heap:=h',toks:=tk }) (n:="range_iterator") st' rfl rfl (by decide) ⟨.int (lo+i),H,I1,⟨t,?_⟩,⟨rfl,rfl⟩,st',fun b hb=>(hf b hb).1⟩⟩
  rw[Int.mul_one]
 done:=by
  intro X hP hw hK hc i pins s σ H E I hf st hg;subst hP hw hK;obtain⟨f0,f1,f2,f3,f4,f5⟩:=hf it (by simp);exact wpAny_pyNext_range_end (I.ok.hd hc) st (by have:n<=i:=hg;omega) fun h' eb=>⟨rfl,I.turned (t':=s.toks) (fun b o hb e=>eb b o hb e) f0 f1 f3 f4 f5⟩
 self:=fun _ _ _ _ _ st h=>wpAny_pyIter_rangeiter st h
section
variable{X:Cx}{tg:Expr}
def Gv(K:PySem.W.Frag)(tl:TE):TI:=fun σ H R=>tl σ H fun x H1=>∃a,x=.ref a/\(∃xs,SqL K H1 a xs)/\R (Jx K a) H1
def Ij(K:PySem.W.Frag)(tl:TE):TI:=fun σ H R=>tl σ H fun x H1=>∃a,x=.ref a/\(∃xs,SqT K H1 a xs)/\R (Jw K a) H1
theorem AM{l:Expr}{tl:TE}(hl:PE X l tl):PI X tg l (Gv X.K tl):=by
 intro pins s σ H R I h;refine cx (hl pins s σ H _ I h) fun v s1 ⟨x,H1,I1,r1,q1⟩=>?_
 obtain⟨a,e,⟨xs,hq⟩,q⟩:=q1;subst e;cases r1;obtain⟨its,rv,p,hz⟩:=I1.list hq;refine wpAny_pyIter_list p.isList ?_;refine⟨s1.heap.objs.size,[s1.heap.objs.size],_,_,H1,rfl,I1.kept (t':=s1.toks) fun b o e=>Heap.get?_push_of_some _ e,vA a _,⟨_,Heap.get?_push_size _ rfl,rfl,rfl⟩,fun b hb=>?_,q⟩
 have e:b=s1.heap.objs.size:=by simpa using hb
 subst e;exact I1.fpOk (Nat.le_refl _) (I1.hok.fresh (Nat.le_refl _))
theorem Dq{l:Expr}{tl:TE}(hl:PE X l tl):PI X tg l (Ij X.K tl):=by
 intro pins s σ H R I h;refine cx (hl pins s σ H _ I h) fun v s1 ⟨x,H1,I1,r1,q1⟩=>?_
 obtain⟨a,e,⟨xs,hq⟩,q⟩:=q1;subst e;cases r1;obtain⟨its,rv,p,hz⟩:=I1.tuple hq;refine wpAny_pyIter_tuple (show s1.heap.IsTuple a its.toArray from p) ?_;refine⟨s1.heap.objs.size,[s1.heap.objs.size],_,_,H1,rfl,I1.kept (t':=s1.toks) fun b o e=>Heap.get?_push_of_some _ e,sD a _,⟨_,Heap.get?_push_size _ rfl,rfl,rfl⟩,fun b hb=>?_,q⟩
 have e:b=s1.heap.objs.size:=by simpa using hb
 subst e;exact I1.fpOk (Nat.le_refl _) (I1.hok.fresh (Nat.le_refl _))
theorem xN{pins:List (Addr×Obj)}{σ:St}{H:Hp}{s:Shared}{R:It->Hp->Prop}{E:Value->Shared->Prop}{lo hi:Int}{t u v:Tok}{tk:Nat}(I:Inv X pins σ H s)(h1:-(2^62)<=lo)(h2:lo<2^62)(h3:-(2^62)<=hi)(h4:hi<2^62)
  (q:R (EZ lo (hi-lo).toNat) H):wpAny (model X.prog X.w) X.A (pyIter (.ref s.heap.objs.size)) (Ju X pins σ tg R) E { s with heap:=s.heap.push { cls:=.type "range",data:=.fields #[.int lo t,.int hi u,.int 1 v] },toks:=tk }:=by
 refine wpAny_pyIter_range (IsRange.new ..) (small_one h1 h2 h3 h4) ?_;have I1:Inv X pins σ H { s with heap:=s.heap.push { cls:=.type "range",data:=.fields #[.int lo t,.int hi u,.int 1 v] },toks:=tk }:=I.kept fun b o e=>Heap.get?_push_of_some _ e
 refine⟨(s.heap.push { cls:=.type "range",data:=.fields #[.int lo t,.int hi u,.int 1 v] }).objs.size,[(s.heap.push { cls:=.type "range",data:=.fields #[.int lo t,.int hi u,.int 1 v] }).objs.size],_,_,H,rfl,
  I1.kept (t':=tk) fun b o e=>Heap.get?_push_of_some _ e,sE _ lo (hi-lo).toNat,?_,fun b hb=>?_,q⟩
 ·have e1:lo+((0:Nat):Int)*1=lo:=by simp
  have e2:(((hi-lo).toNat:Nat):Int)-((0:Nat):Int)=Builtin.Range.rangeSize lo hi 1:=by rw[rangeSize_one];split<;>omega
  show IsRangeIter _ _ (lo+((0:Nat):Int)*1) ((((hi-lo).toNat:Nat):Int)-((0:Nat):Int)) 1;rw[e1,e2];exact Heap.get?_push_size _ rfl
 ·have e:b=(s.heap.push { cls:=.type "range",data:=.fields #[.int lo t,.int hi u,.int 1 v] }).objs.size:=by simpa using hb
  subst e;exact I1.fpOk (Nat.le_refl _) (I1.hok.fresh (Nat.le_refl _))
def Gu(ta:TA):TI:=fun σ H R=>ta σ H fun vs H1=>∃j:Int,vs=[.int j] /\ -(2^62)<=j/\j<2^62/\R (EZ 0 j.toNat) H1
theorem vR{a:Expr}{ta:TA}{p pos:Pos}(hg:Gl X "range")(hm:X.mg "range" = none)(ha:PA X [a] ta)(hs:starEach [a] X.env=[(false,eval a X.env)]:=by rfl):PI X tg (.Call (.Name "range" p) [a] [] pos) (Gu ta):=by
 intro pins s σ H R I h;refine Call_ (lX I hg hm boot_range (PyProof.Rows.callWith_type1 (cx (ha pos pins s σ H _ I h) fun us s1 ⟨vs,H1,I1,r1,q1⟩=>?_) hs rfl))
 obtain⟨j,e,q1,q2,q⟩:=q1;subst e;cases r1 with
 |cons r rr=>
  cases rr;obtain⟨t,rfl⟩:=r;exact call_range_1 (xN I1 (by omega) (by omega) q1 q2 (by simpa using q))
def Hz(wi:TI)(g:TG)(tb:TS):TS:=fun D σ H=>wi σ H fun J H1=>∃W:Nat->Nat->St->Hp->Prop,(∃m,W 0 m σ H1)/\∀i m σ H,W i m σ H ->
 (J.stop i H/\D.nx σ H)\/(J.go i H/\∃N:St->Hp->Prop,(∀ σ' H',N σ' H'->∃m',m'<m/\W (i+1) m' σ' H')/\∀x H',J.yld i H x H'->g x σ H' fun σ2 H2=>tb { D with nx:=N,ct:=N,bk:=D.nx } σ2 H2)
noncomputable def o8(fp:List Addr)(h:Heap):List (Addr×Obj):=fp.filterMap fun b=>(h.get? b).map fun o=>(b,o)
theorem cC{fp:List Addr}{h:Heap}{b:Addr}{o:Obj}(hb:b∈fp)(e:h.get? b=some o):(b,o)∈o8 fp h:=List.mem_filterMap.mpr ⟨b,hb,by rw[e];rfl⟩
theorem vZ{fp:List Addr}{h:Heap}{p:Addr×Obj}(hp:p∈o8 fp h):p.1∈fp/\h.get? p.1=some p.2:=by
 obtain⟨b,hb,e⟩:=List.mem_filterMap.mp hp;cases q:h.get? b with
 |none=>rw[q]at e;cases e
 |some o=>
  rw[q]at e;have e':(b,o)=p:=Option.some.inj e;subst e';exact⟨hb,q⟩
theorem Inv.pinned{pins:List (Addr×Obj)}{σ:St}{H:Hp}{s:Shared}{fp:List Addr}(I:Inv X pins σ H s)(hf:∀b∈fp,iM X pins H b)(ho:∀b∈fp,∃o,s.heap.get? b=some o/\∀v,o.data≠.cell v):Inv X (pins++o8 fp s.heap) σ H s:=
 I.pins_of fun p hp=>(List.mem_append.mp hp).elim (fun z=>I.pin p (List.mem_append_right _ z)) fun z=>by
  obtain⟨hb,e⟩:=vZ z;obtain⟨f0,f1,f2,_⟩:=hf p.1 hb;obtain⟨o,e',d⟩:=ho p.1 hb;rw[e]at e';cases e';exact⟨e,f0,f1,f2,d⟩
theorem Inv.unpinned{pins pl:List (Addr×Obj)}{σ:St}{H:Hp}{s:Shared}(I:Inv X (pins++pl) σ H s):Inv X pins σ H s:=I.pins_of fun p hp=>I.pin p (List.mem_append_right _ (List.mem_append_left _ hp))
theorem Do{iter:Expr}{body:List Stmt}{wi:TI}{g:TG}{tb:TS}{pos:Pos}(hp:PassesOwn (model X.prog X.w) X.A X.env X.xe)(hc:X.calm=true)(hi:PI X tg iter wi)(hg:PG X tg g)(hb:PSs X body tb)
  (hs:∀x,foldedSetIterable iter X.env x=pure x:=by intro _;rfl):PS X (.For tg iter body [] pos) (Hz wi g tb):=by
 intro pins s σ H D I h;refine wpAny_For (cx (hi pins s σ H _ I h) fun v s1 h1=>cx h1 fun itv s2 h2=>?_) hs
 obtain⟨it,fp,tn,J,H2,e,I2,T,st2,f2,W,⟨m0,w0⟩,turn⟩:=h2;subst e;have stat:∀{H':Hp},(∀b∈fp,H' b=none)->∀b∈fp,iM X pins H' b:=fun hn b hb=>⟨hn b hb,(f2 b hb).2⟩
 refine codeAny_forLoop_any (fun n s'=>∃i σ' H',Inv X pins σ' H' s'/\tn i s'.heap/\(∀b∈fp,H' b=none)/\W i n σ' H') ?_ m0 ⟨0,σ,H2,I2,st2,fun b hb=>(f2 b hb).1,w0⟩
 rintro n s3 ⟨i,σ3,H3,I3,st3,fr3,w3⟩;rcases turn i n σ3 H3 w3 with⟨stop,qn⟩|⟨go,N,hN,step⟩
 ·refine wpAny_passesOwn hp (cx (T.done X rfl rfl rfl hc i pins s3 σ3 H3 X.xe I3 (stat fr3) st3 stop) fun r s4 ⟨hr,I4⟩=>?_)
  subst hr;exact wpAny_execs_nil ⟨σ3,H3,I4,qn⟩
 ·refine wpAny_passesOwn hp (cx (T.item X rfl rfl rfl hc i pins s3 σ3 H3 X.xe I3 (stat fr3) st3 go) fun r s4 ⟨u,hr,h4⟩=>?_)
  subst hr;refine wpAny_passesOwn hp (cx h4 fun _ s5 ⟨x,H5,I5,r5,y5,st5,fr5⟩=>?_);have I5':=I5.pinned (stat fr5) (T.obj _ _ st5);refine wpAny_passesOwn hp (cx (hg _ s5 σ3 H5 x u _ I5' r5 (step x H5 y5)) fun _ s6 ⟨σ6,H6,I6,q6⟩=>?_)
  refine wpAny_passesOwn hp (cx (hb _ s6 σ6 H6 _ I6 q6) fun f s7 q7=>?_)
  have again:∀{σ7:St} {H7:Hp},Inv X (pins++o8 fp s5.heap) σ7 H7 s7->N σ7 H7->∃m,m<n/\∃i σ' H',Inv X pins σ' H' s7/\tn i s7.heap/\(∀b∈fp,H' b=none)/\W i m σ' H':=fun{σ7 H7} I7 n7=>by
   obtain⟨m',hm,w7⟩:=hN σ7 H7 n7;refine⟨m',hm,i+1,σ7,H7,I7.unpinned,T.keep _ _ _ st5 fun b hb o e=>(I7.pin (b,o) (List.mem_append_right _ (List.mem_append_right _ (cC hb e)))).1,fun b hb=>?_,w7⟩
   obtain⟨o,e,d⟩:=T.obj _ _ st5 b hb;exact(I7.pin (b,o) (List.mem_append_right _ (List.mem_append_right _ (cC hb e)))).2.1
  cases f with
  |next=>obtain⟨σ7,H7,I7,n7⟩:=q7;exact again I7 n7
  |cont=>obtain⟨σ7,H7,I7,n7⟩:=q7;exact again I7 n7
  |brk=>obtain⟨σ7,H7,I7,q7⟩:=q7;exact⟨σ7,H7,I7.unpinned,q7⟩
  |ret v=>obtain⟨x7,σ7,H7,I7,r7,q7⟩:=q7;exact⟨x7,σ7,H7,I7.unpinned,r7,q7⟩
end
abbrev R2:=V->V->Hp->VK->Prop
def OpR(X:Cx)(f:Value->Value->Sem Value)(r:R2):Prop:=
 ∀(pins:List (Addr×Obj)) (s:Shared) (σ:St) (H:Hp) (x y:V) (v u:Value) (Q:VK),Inv X pins σ H s->RelV x v->RelV y u->r x y H Q ->
  wpAny (model X.prog X.w) X.A (f v u) (EP X pins σ Q) X.xe s
def GP(X:Cx)(f:Value->Sem Value)(r:V->Hp->VK->Prop):Prop:=
 ∀(pins:List (Addr×Obj)) (s:Shared) (σ:St) (H:Hp) (x:V) (v:Value) (Q:VK),Inv X pins σ H s->RelV x v->r x H Q ->
  wpAny (model X.prog X.w) X.A (f v) (EP X pins σ Q) X.xe s
def CallR(X:Cx)(f:Value)(r:List V->Hp->VK->Prop):Prop:=
 ∀(pins:List (Addr×Obj)) (s:Shared) (σ:St) (H:Hp) (xs:List V) (us:List Value) (Q:VK),Inv X pins σ H s->Vals xs us->r xs H Q ->
  wpAny (model X.prog X.w) X.A (call f us) (EP X pins σ Q) X.xe s
def Fb(r:R2)(ta tb:TE):TE:=fun σ H Q=>ta σ H fun x H1=>tb σ H1 fun y H2=>r x y H2 Q
def JD(r:V->Hp->VK->Prop)(ta:TE):TE:=fun σ H Q=>ta σ H fun x H1=>r x H1 Q
def rI(C:Int->Int->Prop)(g:Int->Int->V):R2:=fun x y H Q=>∃i j,x=.int i/\y=.int j/\C i j/\Q (g i j) H
def xO(g:Int->Int->V):R2:=fun x y H Q=>∃i j,x=.int i/\y=.int j/\Q (g i j) H
def rU(g:Int->V):V->Hp->VK->Prop:=fun x H Q=>∃i,x=.int i/\Q (g i) H
section
variable{X:Cx}{a b c:Expr}{ta tb tc:TE}{pos:Pos}
theorem Ev(ha:PE X a ta)(hb:PE X b tb){pins:List (Addr×Obj)}{s:Shared}{σ:St}{H:Hp}{R:V->V->Hp->Prop}(I:Inv X pins σ H s)
  (h:ta σ H fun x H1=>tb σ H1 fun y H2=>R x y H2) {Q:Value->Shared->Prop} {f:Value->Value->Sem Value}
  (hf:∀v u s2 x y H2,Inv X pins σ H2 s2->RelV x v->RelV y u->R x y H2->wpAny (model X.prog X.w) X.A (f v u) Q X.xe s2) :
  wpAny (model X.prog X.w) X.A (eval a X.env) (fun v s₁=>wpAny (model X.prog X.w) X.A (eval b X.env) (fun u s₂=>wpAny (model X.prog X.w) X.A (f v u) Q X.xe s₂) X.xe s₁) X.xe s:=by
 refine cx (ha pins s σ H _ I h) fun v s1 ⟨x,H1,I1,r1,q1⟩=>?_
 refine cx (hb pins s1 σ H1 _ I1 q1) fun u s2 ⟨y,H2,I2,r2,q2⟩=>?_
 exact hf v u s2 x y H2 I2 r1 r2 q2
theorem FB{op:Operator}{r:R2}(ho:OpR X (binaryOp op) r)(ha:PE X a ta)(hb:PE X b tb):PE X (.BinOp a op b pos) (Fb r ta tb):=by
 intro pins s σ H Q I h;exact wpAny_BinOp (Ev ha hb I h fun v u s2 x y H2 I2 rx ry q=>ho pins s2 σ H2 x y v u Q I2 rx ry q)
theorem FA{op:UnaryOp}{r:V->Hp->VK->Prop}(ho:GP X (unaryOp op) r)(ha:PE X a ta):PE X (.UnaryOp op a pos) (JD r ta):=by
 intro pins s σ H Q I h;exact UnaryOp_ (cx (ha pins s σ H _ I h) fun v s1 ⟨x,H1,I1,r1,q1⟩=>ho pins s1 σ H1 x v Q I1 r1 q1)
theorem FO{f:Value->Value->Sem Value}{C:Int->Int->Prop}{g:Int->Int->Int}
  (rule:∀(i j:Int) (t u:Tok) (s:Shared) (Q:Value->Shared->Prop) (E:Value->Shared->Prop),C i j->Q (.int (g i j) s.toks) { s with toks:=s.toks+1 }->wpAny (model X.prog X.w) X.A (f (.int i t) (.int j u)) Q E s) :
  OpR X f (rI C fun i j=>.int (g i j)):=by
 intro pins s σ H x y v u Q I rx ry h;obtain⟨i,j,rfl,rfl,hc,q⟩:=h;obtain⟨t,rfl⟩:=rx;obtain⟨t',rfl⟩:=ry;exact rule i j t t' s _ _ hc ⟨.int (g i j),H,I.tok _,⟨_,rfl⟩,q⟩
theorem ye{f:Value->Value->Sem Value}{g:Int->Int->Int}
  (rule:∀(i j:Int) (t u:Tok) (s:Shared) (Q:Value->Shared->Prop) (E:Value->Shared->Prop),Q (.int (g i j) s.toks) { s with toks:=s.toks+1 }->wpAny (model X.prog X.w) X.A (f (.int i t) (.int j u)) Q E s) :
  OpR X f (xO fun i j=>.int (g i j)):=by
 intro pins s σ H x y v u Q I rx ry h;obtain⟨i,j,rfl,rfl,q⟩:=h;obtain⟨t,rfl⟩:=rx;obtain⟨t',rfl⟩:=ry;exact rule i j t t' s _ _ ⟨.int (g i j),H,I.tok _,⟨_,rfl⟩,q⟩
theorem FP{f:Value->Value->Sem Value}{g:Int->Int->Bool}
  (rule:∀(i j:Int) (t u:Tok) (s:Shared) (Q:Value->Shared->Prop) (E:Value->Shared->Prop),Q (.bool (g i j)) s->wpAny (model X.prog X.w) X.A (f (.int i t) (.int j u)) Q E s) :
  OpR X f (xO fun i j=>.bl (g i j)):=by
 intro pins s σ H x y v u Q I rx ry h;obtain⟨i,j,rfl,rfl,q⟩:=h;obtain⟨t,rfl⟩:=rx;obtain⟨t',rfl⟩:=ry;exact rule i j t t' s _ _ ⟨.bl (g i j),H,I,rfl,q⟩
def IT(i j:Int):Prop:=0<j/\j<1073741824
theorem sC(k:Nat):(0:Int)<=2^k:=by
 rw[two_pow_cast];exact Int.natCast_nonneg _
theorem DD:OpR X (binaryOp .Add) (xO fun i j=>.int (i+j)):=ye fun _ _ _ _ _ _ _ q=>add_int q
theorem Dz:OpR X (binaryOp .Sub) (xO fun i j=>.int (i-j)):=ye fun _ _ _ _ _ _ _ q=>sub_int q
theorem AT:OpR X (binaryOp .FloorDiv) (rI IT fun i j=>.int (i/j)):=FO fun i j _ _ _ _ _ hc q=>by
 have h1:(0:Int)<j:=hc.1;have h2:j<1073741824:=hc.2;exact floordiv_int (by omega) (by rw[Int.fdiv_eq_ediv_of_nonneg i (by omega)];exact q) (.inl (PyProof.noPylong_small (by omega)))
theorem DB:OpR X (binaryOp .Mod) (rI (fun _ j=>0<j) fun i j=>.int (i%j)):=FO fun i j _ _ _ _ _ hc q=>by
 have h1:(0:Int)<j:=hc;exact mod_int' (by omega) (by rw[Int.fmod_eq_emod_of_nonneg i (by omega)];exact q)
theorem DA:OpR X (binaryOp .RShift) (rI (fun _ j=>0<=j) fun i j=>.int (i/2^j.toNat)):=FO fun i j _ _ _ _ _ hc q=>
 rshift_int hc (by rw[Int.fdiv_eq_ediv_of_nonneg i (sC _)];exact q)
theorem DC:OpR X (binaryOp .BitAnd) (xO fun i j=>.int (Builtin.bitAnd i j)):=ye fun _ _ _ _ _ _ _ q=>and_int q
theorem FL:OpR X (binaryOp .BitOr) (xO fun i j=>.int (Builtin.bitOr i j)):=ye fun _ _ _ _ _ _ _ q=>or_int q
theorem Dy:OpR X (binaryOp .BitXor) (xO fun i j=>.int (Builtin.bitXor i j)):=ye fun _ _ _ _ _ _ _ q=>xor_int q
theorem Jy{f:Value->Sem Value}{g:Int->Int}
  (rule:∀(i:Int) (t:Tok) (s:Shared) (Q:Value->Shared->Prop) (E:Value->Shared->Prop),Q (.int (g i) s.toks) { s with toks:=s.toks+1 }->wpAny (model X.prog X.w) X.A (f (.int i t)) Q E s) :
  GP X f (rU fun i=>.int (g i)):=by
 intro pins s σ H x v Q I rx h;obtain⟨i,rfl,q⟩:=h;obtain⟨t,rfl⟩:=rx;exact rule i t s _ _ ⟨.int (g i),H,I.tok _,⟨_,rfl⟩,q⟩
theorem CY:GP X (unaryOp .USub) (rU fun i=>.int (-i)):=Jy fun _ _ _ _ _ q=>neg_int q
end
section
variable{X:Cx}{a b c:Expr}{ta tb tc:TE}{pos:Pos}
theorem FM:OpR X (compareOp .Lt) (xO fun i j=>.bl (decide (i<j))):=FP fun _ _ _ _ _ _ _ q=>lt_int q
theorem FN:OpR X (compareOp .Gt) (xO fun i j=>.bl (decide (j<i))):=FP fun _ _ _ _ _ _ _ q=>gt_int q
theorem aG(b:Expr){op:CmpOp}(h:op≠.In:=by decide)(h2:op≠.NotIn:=by decide):behindInMarks op b=false:=by
 have e1:(op==CmpOp.In)=false:=by cases op<;>first|rfl|exact absurd rfl h
 have e2:(op==CmpOp.NotIn)=false:=by cases op<;>first|rfl|exact absurd rfl h2
 cases b<;>simp[behindInMarks,e1,e2]
theorem AQ{op:CmpOp}{r:R2}(ho:OpR X (compareOp op) r)(ha:PE X a ta)(hb:PE X b tb)(hm:behindInMarks op b=false):PE X (.Compare a [op] [b] pos) (Fb r ta tb):=by
 intro pins s σ H Q I h;exact wpAny_Compare1 (Ev ha hb I h fun v u s2 x y H2 I2 rx ry q=>ho pins s2 σ H2 x y v u Q I2 rx ry q) hm
def Cj(t:TE):TT:=fun σ H Q=>t σ H fun x H'=>∃k,x=.bl k/\Q k H'
theorem AE{op:CmpOp}{r:R2}(ho:OpR X (compareOp op) r)(ha:PE X a ta)(hb:PE X b tb)(hm:behindInMarks op b=false):PT X (.Compare a [op] [b] pos) (Cj (Fb r ta tb)):=by
 intro pins s σ H Q I h;refine wpAny_isTrue_Compare1 (cx (ha pins s σ H _ I h) fun v s1 ⟨x,H1,I1,r1,q1⟩=>cx (hb pins s1 σ H1 _ I1 q1) fun u s2 ⟨y,H2,I2,r2,q2⟩=>
  cx (ho pins s2 σ H2 x y v u _ I2 r1 r2 q2) fun c s3 ⟨z,H3,I3,r3,k,e,q3⟩=>?_) hm
 subst e;cases r3;exact wpAny_truthy_bool ⟨H3,I3,q3⟩
def xj(r r':R2)(ta tb tc:TE):TE:=fun σ H Q=>ta σ H fun x H1=>tb σ H1 fun y H2=>r x y H2 fun z H3=>∃k,z=.bl k /\
 (if k=true then tc σ H3 fun w' H4=>r' y w' H4 Q else Q (.bl false) H3)
theorem xQ{op op':CmpOp}{r r':R2}(ho:OpR X (compareOp op) r)(ho':OpR X (compareOp op') r')(ha:PE X a ta)(hb:PE X b tb)(hc:PE X c tc)
  (hm:lastMarks [op,op'] [b,c]=false:=by with_unfolding_all rfl):PT X (.Compare a [op,op'] [b,c] pos) (Cj (xj r r' ta tb tc)):=by
 intro pins s σ H Q I h;refine isTrue_chain (cx (ha pins s σ H _ I h) fun v s1 ⟨x,H1,I1,r1,q1⟩=>test_link (cx (hb pins s1 σ H1 _ I1 q1) fun u s2 ⟨y,H2,I2,r2,q2⟩=>
  cx (ho pins s2 σ H2 x y v u _ I2 r1 r2 q2) fun d s3 ⟨z,H3,I3,r3,k,e,q3⟩=>?_)) hm
 subst e;cases r3;refine wpAny_truthy_bool ?_;cases k with
 |false=>
  obtain⟨k',e',q'⟩:=q3;cases e';exact ite_ff ⟨H3,I3,q'⟩
 |true=>
  refine ite_tt (test_last (cx (hc pins s3 σ H3 _ I3 q3) fun w' s4 ⟨z',H4,I4,r4,q4⟩=>cx (ho' pins s4 σ H4 y z' u w' _ I4 r2 r4 q4) fun d' s5 ⟨z2,H5,I5,r5,k2,e2,q5⟩=>?_))
  subst e2;cases r5;exact wpAny_truthy_bool ⟨H5,I5,q5⟩
theorem ti:(sizeLine:Nat)<2^63:=by rw[sizeLine_eq];decide
theorem sQ:OpR X (binaryOp .Add) (fun x y H Q=>∃i j,x=.str i/\y=.str j/\i.length+j.length<=sizeLine/\Q (.str (i++j)) H):=by
 intro pins s σ H x y v u Q I rx ry h;obtain⟨i,j,rfl,rfl,hz,q⟩:=h;obtain⟨t,rfl⟩:=rx;obtain⟨t',rfl⟩:=ry;exact add_str (fun t' tk=>⟨.str (i++j),H,I.tok _,⟨_,rfl⟩,q⟩) hz
theorem iP{x:V}{us:List Value}(r:Vals [x] us):∃u,us=[u]/\RelV x u:=by
 cases r with
 |cons r1 r2=>cases r2;exact⟨_,rfl,r1⟩
theorem Cf{x y:V}{us:List Value}(r:Vals [x,y] us):∃u w',us=[u,w']/\RelV x u/\RelV y w':=by
 cases r with
 |cons r1 r2=>
  cases r2 with
  |cons r3 r4=>cases r4;exact⟨_,_,rfl,r1,r3⟩
theorem wF(hc:X.calm=true):CallR X (.builtin "max") (fun xs H Q=>∃i j,xs=[.int i,.int j]/\Q (.int (if j>i then j else i)) H):=by
 intro pins s σ H xs us Q I r h;obtain⟨i,j,rfl,q⟩:=h;obtain⟨u,w',rfl,⟨t,rfl⟩,⟨t',rfl⟩⟩:=Cf r;refine max_two_ints (I.ok.hd hc) fun h' tk k=>⟨_,H,I.kept k,?_,q⟩
 by_cases hj:j>i
 ·rw[if_pos hj,if_pos hj];exact⟨_,rfl⟩
 ·rw[if_neg hj,if_neg hj];exact⟨_,rfl⟩
theorem wE(hc:X.calm=true):CallR X (.builtin "min") (fun xs H Q=>∃i j,xs=[.int i,.int j]/\Q (.int (if j<i then j else i)) H):=by
 intro pins s σ H xs us Q I r h;obtain⟨i,j,rfl,q⟩:=h;obtain⟨u,w',rfl,⟨t,rfl⟩,⟨t',rfl⟩⟩:=Cf r;refine min_two_ints (I.ok.hd hc) fun h' tk k=>⟨_,H,I.kept k,?_,q⟩
 by_cases hj:j<i
 ·rw[if_pos hj,if_pos hj];exact⟨_,rfl⟩
 ·rw[if_neg hj,if_neg hj];exact⟨_,rfl⟩
theorem wG:CallR X (.type "int") (fun xs H Q=>(∃i,xs=[.int i]/\Q (.int i) H)\/∃k,xs=[.bl k]/\Q (.int (if k then 1 else 0)) H):=by
 intro pins s σ H xs us Q I r h;rcases h with⟨i,rfl,q⟩|⟨k,rfl,q⟩
 ·obtain⟨u,rfl,t,rfl⟩:=iP r
  exact call_int_int ⟨.int i,H,I,⟨_,rfl⟩,q⟩
 ·obtain⟨u,rfl,r1⟩:=iP r
  cases r1;exact call_int_bool ⟨.int (if k then 1 else 0),H,I.tok _,⟨_,rfl⟩,q⟩
def IP(K:PySem.W.Frag)(x:V)(H:Hp)(n:Nat):Prop:=
 match x with
 |.str y=>y.length<=sizeLine/\n=y.length
 |.byt y=>y.size<=sizeLine/\n=y.size
 |.ref p=>(∃xs,SqL K H p xs/\n=xs.length)\/∃xs,SqT K H p xs/\n=xs.length
 |_=>False
theorem zt:CallR X (.builtin "len") (fun xs H Q=>∃x n,xs=[x]/\IP X.K x H n/\Q (.int n) H):=by
 intro pins s σ H xs us Q I r h;obtain⟨x,n,rfl,e,q⟩:=h;obtain⟨u,rfl,rx⟩:=iP r;have hl:=ti;have hs:sizeLine=16777216:=sizeLine_eq;cases x with
 |str y=>
  obtain⟨t,rfl⟩:=rx;obtain⟨hy,e'⟩:y.length<=sizeLine/\n=y.length:=e;subst e';exact len_str (by omega) ⟨.int _,H,I.tok _,⟨_,rfl⟩,q⟩
 |byt y=>
  obtain⟨t,rfl⟩:=rx;obtain⟨hy,e'⟩:y.size<=sizeLine/\n=y.size:=e;subst e';exact PySem.W.len_bytes (by omega) ⟨.int _,H,I.tok _,⟨_,rfl⟩,q⟩
 |ref p=>
  cases rx;have e':(∃xs,SqL X.K H p xs/\n=xs.length)\/∃xs,SqT X.K H p xs/\n=xs.length:=e;rcases e' with⟨xs,hx,e'⟩|⟨xs,hx,e'⟩
  ·subst e'
   obtain⟨its,r',pl,hz⟩:=I.list hx;have hlen:=r'.length;exact Calls.call_len_list pl.isList (by simp only[List.size_toArray];omega) ⟨.int xs.length,H,I.tok _,⟨_,by simp only[List.size_toArray];rw[hlen]⟩,q⟩
  ·subst e'
   obtain⟨its,r',pl,hz⟩:=I.tuple hx;have hlen:=r'.length;exact len_tuple pl (by simp only[List.size_toArray];omega) ⟨.int xs.length,H,I.tok _,⟨_,by simp only[List.size_toArray];rw[hlen]⟩,q⟩
 |_=>exact(show False from e).elim
end
structure ObjM (h:Heap) (x dx C:Addr) (mA:Str->Option Value):Prop where
 obj:h.get? x=some (PySem.W.instObj C dx)
 ns:h.Ns1 dx mA
 ne:dx≠x
section
variable{P:Program}{w:World}{H H':Hp}{h h':Heap}{a C dx:Addr}{fs fs':List (Str×V)}
theorem jj(hok:HOk P w H h)(e:H a=some (.ins C dx fs)):∃mA,ObjM h a dx C mA/\(∀f,RelO (fs.lookup f) (mA f))/\PySem.Within mA (fs.map (·.1))/\fs.length<=1000/\H dx=some (.own a):=by
 obtain⟨d,z,ne,ob,mA,n,r,q⟩:=(show ObjOk P w H h a (.ins C dx fs)from hok a _ e);exact⟨mA,⟨ob,n,ne⟩,r,q,z,d⟩
end
structure Room (k:Nat) (A:Around):Prop where
 hd:A.handled=none
 dp:A.depth+3*k+5<recursionLimit
 un:A.units+16*k+200<cLine
theorem Room.mono{j k:Nat}{A:Around}(r:Room k A)(h:j<=k):Room j A:=⟨r.hd,by have:=r.dp;omega,by have:=r.un;omega⟩
theorem Room.deeper{k:Nat}{A:Around}(r:Room (k+1) A)(env:Env):Room k (A.deeper env):=
 ⟨r.hd,by have:=r.dp;show A.depth+1+3*k+5<_;omega,by have:=r.un;show A.units+3+16*k+200<_;omega⟩
theorem Room.depth{k:Nat}{A:Around}(r:Room k A):A.depth<recursionLimit:=by have:=r.dp;omega
theorem Room.units{k:Nat}{A:Around}(r:Room k A):A.units+64<cLine:=by have:=r.un;omega
def Hw:TA:=fun _ H Q=>Q [] H
def Fe(ta:TE)(tr:TA):TA:=fun σ H Q=>ta σ H fun x H1=>tr σ H1 fun xs H2=>Q (x::xs) H2
section
variable{X:Cx}{e:Expr}{es:List Expr}{te:TE}{t:TA}{pos:Pos}
theorem pb:PA X [] Hw:=fun _ _ _ _ H Q I h=>Calls.spliced_nil ⟨[],H,I,.nil,h⟩
theorem kQ(ha:PE X e te)(hr:PA X es t)(hs:starEach (e::es) X.env=(false,eval e X.env)::starEach es X.env:=by rfl):PA X (e::es) (Fe te t):=by
 intro pos pins s σ H Q I h;rw[hs];show wpAny _ _ (spliced ((false,eval e X.env)::backTo pos (starEach es X.env))) _ _ s;refine Calls.spliced_cons (cx (ha pins s σ H _ I h) fun u s1 ⟨x,H1,I1,r1,q1⟩=>?_)
 exact cx (hr pos pins s1 σ H1 _ I1 q1) fun us s2 ⟨xs,H2,I2,r2,q2⟩=>⟨x::xs,H2,I2,.cons r1 r2,q2⟩
def Hr(t:TA):TE:=fun σ H Q=>t σ H fun xs H1=>xs.length<=sizeLine/\∀p,H1 p=none->Q (.ref p) (upd H1 p (.tup xs))
def Hx(t:TA):TE:=fun σ H Q=>t σ H fun xs H1=>xs.length<=sizeLine/\∀p,H1 p=none->Q (.ref p) (upd H1 p (.lst xs))
theorem Ds{x1}(h:PA X es t):PE X (.Tuple es x1 pos) (Hr t):=by
 intro pins s σ H Q I hq;refine wpAny_Tuple_spliced (cx (h pos pins s σ H _ I hq) fun us s1 ⟨xs,H1,I1,r,z,q⟩=>⟨by rw[<-r.length];exact z,?_⟩)
 have hf:H1 s1.heap.objs.size=none:=I1.hok.fresh (Nat.le_refl _);refine⟨.ref s1.heap.objs.size,upd H1 s1.heap.objs.size (.tup xs),I1.laid (t':=s1.toks) (fun b u e=>Heap.get?_push_of_some _ e) (Nat.le_refl _) ?_,rfl,q _ hf⟩;exact⟨z,us,r,⟨_,Heap.get?_push_size _ rfl,rfl,_,rfl⟩,NoDi.new _ _⟩
theorem x9(h:PA X es t):PE X (.List es pos) (Hx t):=by
 intro pins s σ H Q I hq;refine wpAny_List_spliced (cx (h pos pins s σ H _ I hq) fun us s1 ⟨xs,H1,I1,r,z,q⟩=>⟨by rw[<-r.length];exact z,?_⟩)
 have hf:H1 s1.heap.objs.size=none:=I1.hok.fresh (Nat.le_refl _);refine⟨.ref s1.heap.objs.size,upd H1 s1.heap.objs.size (.lst xs),I1.laid (t':=s1.toks) (fun b u e=>Heap.get?_push_of_some _ e) (Nat.le_refl _) ?_,rfl,q _ hf⟩;exact⟨z,us,0,r,Heap.get?_push_size _ rfl⟩
end
abbrev Sp:=List V->Hp->VK->XK->Prop
abbrev vw:=List Env->Hp->Shared->XK->Value->Shared->Prop
structure Env0 (P:Program) (w:World) (K:PySem.W.Frag) (mg:Str->Option Value) (base:Heap) (A:Around) (outer:List Env) (s:Shared) (H:Hp):Prop where
 frames:A.frames=some outer
 mod:Mod K mg base
 bs:∀b o,base.get? b=some o->s.heap.get? b=some o/\H b=none
 bsz:base.objs.size<=s.heap.objs.size
 funs:s.heap.FunFrames base outer
 frf:∀b∈u6 outer,H b=none
 hok:HOk P w H s.heap
 bare:AllBare s.gens
def CE(outer:List Env)(P:Program)(w:World)(H:Hp)(s:Shared)(Q:VK)(u:Value)(s':Shared):Prop:=
 ∃v H',s'.os=s.os/\AllBare s'.gens/\Un (u6 outer) [] H H' s.heap s'.heap/\HOk P w H' s'.heap/\RelV v u/\Q v H'
def CR(CX:vw)(outer:List Env)(P:Program)(w:World)(H:Hp)(s:Shared)(Q:VK)(E:XK)(r:Result)(s':Shared):Prop:=
 match r with
 |.ok (.ret u)=>CE outer P w H s Q u s'
 |.ok _=>False
 |.error e=>CX outer H s E e s'
structure FnOk (P:Program) (w:World) (K:PySem.W.Frag) (mg:Str->Option Value) (base:Heap) (CX:vw) (k:Nat) (f:Addr) (fd:FuncData) (ps:List Str) (sp:Sp):Prop where
 len:∀vs H Q E,sp vs H Q E->vs.length=ps.length
 run:∀(A:Around) (outer:List Env) (s:Shared) (H:Hp) (args:Args) (us:List Value) (vs:List V) (Q:VK) (E:XK),Room k A->Env0 P w K mg base A outer s H->BindsTo s fd args (ps.zip us)->Vals vs us->sp vs H Q E ->
  codeAny (model P w) A (.call (.ref f) args) (CR CX outer P w H s Q E) s
theorem FnOk.imp{P:Program}{w:World}{K:PySem.W.Frag}{mg:Str->Option Value}{base:Heap}{CX:vw}{k:Nat}{f:Addr}{fd:FuncData}{ps:List Str}{sp sp':Sp}(F:FnOk P w K mg base CX k f fd ps sp)
  (h:∀vs H Q E,sp' vs H Q E->sp vs H Q E):FnOk P w K mg base CX k f fd ps sp':=
 ⟨fun vs H Q E q=>F.len vs H Q E (h _ _ _ _ q),fun A outer s H args us vs Q E hr he hb hv hs=>F.run A outer s H args us vs Q E hr he hb hv (h _ _ _ _ hs)⟩
section
variable{X:Cx}{pins:List (Addr×Obj)}{σ:St}{H:Hp}{s s':Shared}
theorem Inv.env0(I:Inv X pins σ H s):Env0 X.prog X.w X.K X.mg X.base X.A X.stack s H:=
 ⟨I.ok.frames,I.ok.mod,I.bs,Nat.le_trans I.ok.bsz I.sz,I.stack,I.stkFree,I.hok,I.bare⟩
theorem Inv.after{Q:VK}{u:Value}(I:Inv X pins σ H s)(h:CE X.stack X.prog X.w H s Q u s'):EP X pins σ Q u s':=by
 obtain⟨v,H',os,bare,un,hok,r,q⟩:=h;obtain⟨hh,g,d,t,os'⟩:=s';obtain rfl:os'=s.os:=os;exact⟨v,H',I.call (h':=hh) (g':=g) (d':=d) (t':=t) (ch:=[]) un hok bare (fun b z=>absurd z (by simp)),r,q⟩
end
def Ff(sp:Sp)(dvs:List V)(E:XK)(t:TA):TE:=fun σ H Q=>t σ H fun vs H1=>sp (vs++dvs) H1 Q E
def Binds(K:PySem.W.Frag)(fd:FuncData)(ps:List Str)(ds:List Value):Prop:=
 ∀(s:Shared) (us:List Value),K.In s.heap->(us++ds).length=ps.length->BindsTo s fd ⟨us,[]⟩ (ps.zip (us++ds))
theorem Binds.all{K:PySem.W.Frag}{fd:FuncData}{ps:List Str}(h:∀us:List Value,us.length=ps.length->bindArgs fd ⟨us,[]⟩=pure (ps.zip us)):Binds K fd ps []:=fun s us _ hl=>by
 rw[List.append_nil]at hl ⊢;exact .of_eq (h us hl)
def qk(CX:vw)(X:Cx)(E:XK):Prop:=∀(pins:List (Addr×Obj)) (σ:St) (H:Hp) (s:Shared) (e:Value) (s':Shared),Inv X pins σ H s->CX X.stack H s E e s'->X.xe e s'
section
variable{X:Cx}{CX:vw}{k:Nat}{f C:Addr}{fd:FuncData}{ps:List Str}{sp:Sp}{dvs:List V}{ds:List Value}{E:XK}{x m:Str}{p pos apos:Pos}{e o:Expr}{es:List Expr}{ta:TE}{t:TA}
theorem xJ{pins:List (Addr×Obj)}{σ:St}{H:Hp}{s:Shared}{Q:VK}{us:List Value}{vs:List V}(F:FnOk X.prog X.w X.K X.mg X.base CX k f fd ps sp)(hr:Room k X.A)(hb:Binds X.K fd ps ds)(hd:Vals dvs ds)(hx:qk CX X E)
  (I:Inv X pins σ H s) (r:Vals vs us) (h:sp (vs++dvs) H Q E):wpAny (model X.prog X.w) X.A (call (.ref f) us) (EP X pins σ Q) X.xe s:=by
 have r2:Vals (vs++dvs) (us++ds):=r.append hd;have hl:(us++ds).length=ps.length:=by rw[<-r2.length];exact F.len _ _ _ _ h
 refine wpAny_call (codeAny_mono (F.run X.A X.stack s H ⟨us,[]⟩ (us++ds) (vs++dvs) Q E hr I.env0 (hb s us I.kIn hl) r2 h) fun r s' hq=>?_)
 cases r with
 |error e=>exact hx pins σ H s e s' I hq
 |ok fl=>
  cases fl with
  |ret u=>exact I.after hq
  |next=>exact False.elim hq
  |brk=>exact False.elim hq
  |cont=>exact False.elim hq
theorem AR(F:FnOk X.prog X.w X.K X.mg X.base CX k f fd ps sp)(hr:Room k X.A)(hg:Gl X x)(hm:X.mg x=some (.ref f))(hk:PySem.W.keepIn X.K (.ref f)=true)(hb:Binds X.K fd ps ds)(hd:Vals dvs ds)(hx:qk CX X E)
  (ha:PA X (e::es) t) (hdb:(x==("__debug__":Str))=false:=by decide) (he:starEach (e::es) X.env=(false,eval e X.env)::starEach es X.env:=by rfl) (hpl:(backTo pos (starEach es X.env)).any (·.1)=false:=by rfl) :
  PE X (.Call (.Name x p) (e::es) [] pos) (Ff sp dvs E t):=by
 intro pins s σ H Q I h;refine wpAny_Call_Name_kw (uT I hg hm ?_ hdb);refine PySem.W.callWith_K (h₀:=X.base) I.ok.mod.kin hk (cx (ha pos pins s σ H _ I h) fun us s1 ⟨vs,H1,I1,r,q⟩=>⟨I1.kIn,?_⟩) he hpl
 exact xJ F hr hb hd hx I1 r q
end
structure FnScope (N P:List Str) (sc:Scope):Prop where
 kind:sc.kind=.function
 co:sc.isCoroutine=false
 gen:sc.isGenerator=false
 nd:N.Nodup
 pre:N.take P.length=P
 par:∀x∈P,sc.names.lookup x=some .local\/sc.names.lookup x=some .cell
 nofree:∀y∈sc.names,y.2≠.free
theorem oA{kindOf:Str->Option NameKind}{x:Str}:∀{binds:List (Str×Value)} {m:Str->Option Value},(∀v,(x,v) ∉ binds)->bindL kindOf binds m x=m x
 |[],_,_=>rfl
 | (n,v)::r,m,h=>by
  unfold bindL;rw[oA fun w hw=>h w (List.mem_cons_of_mem _ hw)]
  split
  ·have:x≠n:=by rintro rfl;exact h v List.mem_cons_self
   simp[this]
  ·rfl
theorem oD{kindOf:Str->Option NameKind}{x:Str}:∀{binds:List (Str×Value)} {m:Str->Option Value},(∀v,(x,v) ∉ binds)->bindC kindOf binds m x=m x
 |[],_,_=>rfl
 | (n,v)::r,m,h=>by
  unfold bindC;rw[oD fun w hw=>h w (List.mem_cons_of_mem _ hw)]
  split
  ·rfl
  ·have:x≠n:=by rintro rfl;exact h v List.mem_cons_self
   simp[this]
theorem oB{kindOf:Str->Option NameKind}{x:Str}{v:Value}:∀{P:List Str} {vs:List Value} {i:Nat} {m:Str->Option Value},P.Nodup->P[i]? = some x->vs[i]? = some v->kindOf x=some .local ->
  bindL kindOf (P.zip vs) m x=some v
 |[],_,_,_,_,h,_,_=>by simp at h
 |_::_,[],_,_,_,_,h,_=>by simp at h
 |p::P,w::vs,0,m,nd,h1,h2,hk=>by
  simp at h1 h2;subst h1;subst h2;show bindL kindOf ((p,w)::P.zip vs) m p=_;unfold bindL;rw[oA fun v hv=>(List.nodup_cons.mp nd).1 (List.of_mem_zip hv).1,if_pos hk]
  simp
 |p::P,w::vs,i+1,m,nd,h1,h2,hk=>by
  show bindL kindOf ((p,w)::P.zip vs) m x=_;unfold bindL;exact oB (i:=i) (List.nodup_cons.mp nd).2 (by simpa using h1) (by simpa using h2) hk
theorem oE{kindOf:Str->Option NameKind}{x:Str}{v:Value}:∀{P:List Str} {vs:List Value} {i:Nat} {m:Str->Option Value},P.Nodup->P[i]? = some x->vs[i]? = some v->kindOf x≠some .local ->
  bindC kindOf (P.zip vs) m x=some v
 |[],_,_,_,_,h,_,_=>by simp at h
 |_::_,[],_,_,_,_,h,_=>by simp at h
 |p::P,w::vs,0,m,nd,h1,h2,hk=>by
  simp at h1 h2;subst h1;subst h2;show bindC kindOf ((p,w)::P.zip vs) m p=_;unfold bindC;rw[oD fun v hv=>(List.nodup_cons.mp nd).1 (List.of_mem_zip hv).1,if_neg hk]
  simp
 |p::P,w::vs,i+1,m,nd,h1,h2,hk=>by
  show bindC kindOf ((p,w)::P.zip vs) m x=_;unfold bindC;exact oE (i:=i) (List.nodup_cons.mp nd).2 (by simpa using h1) (by simpa using h2) hk
noncomputable def gF(N:List Str)(vs:List V):St:=vs.map some++List.replicate (N.length-vs.length) none
noncomputable def tQ(CX:vw)(P:Program)(w:World)(K:PySem.W.Frag)(mg:Str->Option Value)(base:Heap)(N:List Str)(qual:Str)(scope:Scope)(f:Addr)(cd:Value)(A:Around)(outer:List Env)(s:Shared)(H:Hp)(E:XK):Cx where
 prog:=P
 w:=w
 K:=K
 mg:=mg
 base:=base
 A:=A.deeper (envOfC qual scope s.heap.objs.size f cd)
 N:=N
 s₀:=s
 H₀:=H
 env:=envOfC qual scope s.heap.objs.size f cd
 outer:=outer
 stack:=envOfC qual scope s.heap.objs.size f cd::outer
 ex:=[]
 calm:=true
 fn:=fun _=>true
 pn:=[]
 xe:=fun e s'=>wpAny (model P w) (A.deeper (envOfC qual scope s.heap.objs.size f cd)) (leaving (envOfC qual scope s.heap.objs.size f cd) e) (fun _ s''=>CX outer H s E e s'') (fun e' s''=>CX outer H s E e' s'') s'
theorem rX{sc:Scope}{n:Nat}{x:Str}(h:sc.names.lookup x=some .cell):∃c,(cellsFrom n sc.names []).lookup x=some c:=by
 have q:=PySem.W.cellsFrom_some sc.names n [] (.inl h);exact Option.isSome_iff_exists.mp q
theorem ww{CX:vw}{P:Program}{w:World}{K:PySem.W.Frag}{mg:Str->Option Value}{base:Heap}{N ps:List Str}{qual:Str}{scope:Scope}{f:Addr}{cd:Value}{A:Around}{outer:List Env}{s s1:Shared}{H:Hp}{E:XK}{us:List Value}{vs:List V}
  (S:FnScope N ps scope) (hd:A.handled=none) (e0:Env0 P w K mg base A outer s H) (hl:vs.length=ps.length) (r:Vals vs us)
  (x:InCallC s s.heap.objs.size (bindL (envOfC qual scope s.heap.objs.size f cd).kindOf (ps.zip us) fun _=>none) (cellsFrom (s.heap.objs.size+1) scope.names []) (bindC (envOfC qual scope s.heap.objs.size f cd).kindOf (ps.zip us) fun _=>none) s1) :
  Inv (tQ CX P w K mg base N qual scope f cd A outer s H E) [] (gF N vs) H s1:=by
 have hpl:ps.length<=N.length:=by have:=congrArg List.length S.pre;rw[List.length_take]at this;omega
 obtain⟨h1,tk,rfl,hk⟩:=x.done;have noA:∀b:Addr,b ∉ (tQ CX P w K mg base N qual scope f cd A outer s H E).ex:=fun b z=>absurd (show b∈([]:List Addr)from z) (by simp)
 refine⟨⟨e0.mod,S.kind,rfl,rfl,Nat.le_refl _,fun y z c h1 h2=>?_,fun y hy=>?_,fun y c _ h=>?_,fun _=>hd,Around.frames_deeper e0.frames,.inr ⟨rfl,rfl⟩,fun b z=>absurd z (noA b),e0.bs,e0.bsz,fun b _ _=>noA b,fun b z=>absurd z (noA b),e0.funs,e0.frf⟩,
  rfl,e0.bare,Un.kept hk,⟨_,x.toInCall.ns,fun i y v h1 h2 h3=>?_⟩,fun y c h=>⟨_,x.cell y c h⟩,e0.hok.fresh (Nat.le_refl _),fun y c h=>?_,fun p hp=>absurd (show p∈([]:List (Addr×Obj))from hp) (by simp),e0.hok.kept hk,?_⟩
 ·exact name_of_addr x.apart (PySem.mem_of_lookup h1) (PySem.mem_of_lookup h2)
 ·have hy:scope.names.lookup y=some .cell\/scope.names.lookup y=some .free:=hy
  rcases hy with hy|hy
  ·exact rX hy
  ·exact absurd rfl (S.nofree _ (PySem.mem_of_lookup hy))
 ·exact Nat.le_of_lt (x.above y c (PySem.mem_of_lookup h))
 ·have hi:i<vs.length:=by
   unfold gF at h2;by_cases hi:i<vs.length
   ·exact hi
   ·rw[List.getElem?_append_right (by simpa using hi)]at h2
    rw[List.getElem?_replicate]at h2;split at h2<;>cases h2
  have ha:vs[i]? = some v:=by
   unfold gF at h2;rw[List.getElem?_append_left (by simpa using hi),List.getElem?_map]at h2;cases e:vs[i]? with
   |none=>rw[e]at h2;cases h2
   |some a=>rw[e]at h2;cases h2;rfl
  obtain⟨u,hu,rv⟩:=r.get ha;have hp:ps[i]? = some y:=by
   rw[<-S.pre,List.getElem?_take_of_lt (by omega)];exact h1
  have ndP:ps.Nodup:=by rw[<-S.pre];exact S.nd.sublist (List.take_sublist _ _)
  refine⟨u,rv,?_⟩;rcases S.par y (List.mem_of_getElem? hp)with k|k
  ·exact .inl ⟨k,oB ndP hp hu k⟩
  ·obtain⟨c,e⟩:=rX (n:=s.heap.objs.size+1) k
   refine .inr ⟨.inl k,c,e,?_⟩;have q:=x.cell y c e;rw[oE ndP hp hu (by show scope.names.lookup y≠_;rw[k];decide)]at q;exact q
 ·exact e0.hok.fresh (Nat.le_of_lt (x.above y c (PySem.mem_of_lookup h)))
 ·unfold gF
  show _=N.length;rw[List.length_append,List.length_map,List.length_replicate];omega
theorem Gz{CX:vw}{P:Program}{w:World}{K:PySem.W.Frag}{mg:Str->Option Value}{base:Heap}{k:Nat}{f:Addr}{name qual:Str}{params:Arguments}{body:List Stmt}{scope:Scope}{dV kV doc pm cdv ct oc:Value}{an od:Option Addr}
  {osl:Array (Option Value)} {N ps:List Str} {sp:Sp} (lk:K.lookup f=some ⟨oc,od,.func (PySem.W.fnOf name qual params body scope dV kV doc pm an cdv ct),osl⟩) (hcd:PySem.W.codeIn K cdv qual=true) (S:FnScope N ps scope)
  (len:∀vs H Q E,sp vs H Q E->vs.length=ps.length)
  (hbody:∀(A:Around) (outer:List Env) (s:Shared) (H:Hp) (vs:List V) (Q:VK) (E:XK),Room k (A.deeper (envOfC qual scope s.heap.objs.size f cdv))->sp vs H Q E ->
   ∃t,PSs (tQ CX P w K mg base N qual scope f cdv A outer s H E) body t/\t { nx:=fun _ H'=>Q .non H',rt:=Q } (gF N vs) H) :
  FnOk P w K mg base CX (k+1) f (PySem.W.fnOf name qual params body scope dV kV doc pm an cdv ct) ps sp:=by
 refine⟨len,fun A outer s H args us vs Q E hr e0 hb r hsp=>?_⟩
 have hl:=len _ _ _ _ hsp;have KX:K.In s.heap:=e0.mod.kin.keeps fun b o e=>(e0.bs b o e).1
 have lim:s.heap.NoLimit:=e0.mod.nolimit.keeps fun b o e=>(e0.bs b o e).1
 have hkind:∀y∈ps.zip us,scope.names.lookup y.1=some .local\/(scope.names.lookup y.1=some .cell/\((cellsFrom (s.heap.objs.size+1) scope.names []).lookup y.1).isSome=true):=fun⟨n,v⟩ hy=>by
  rcases S.par n (List.of_mem_zip hy).1 with q|q
  ·exact .inl q
  ·exact .inr ⟨q,PySem.W.cellsFrom_some _ _ _ (.inl q)⟩
 refine codeAny_call_function hr.depth (KX _ _ lk) rfl S.co S.gen rfl (PySem.W.codeRec_of KX hcd) (hb _ _ _ _ ?_);refine wpAny_newFunctionEnv_cells S.kind hkind fun env he s1 x=>?_
 subst he;refine⟨lim.keeps x.toInCall.keep,codeAny_func ?_⟩;obtain⟨t,ht,hq⟩:=hbody A outer s H vs Q E (hr.deeper _) hsp;have I:Inv (tQ CX P w K mg base N qual scope f cdv A outer s H E) [] (gF N vs) H s1:=ww S hr.hd e0 hl r x;refine wpAny_mono (ht [] s1 (gF N vs) H _ I hq) (fun fl s' hs=>?_) fun e s' hs=>hs
 have fin:∀{σ':St} {H':Hp} {v:V} {u:Value},Inv (tQ CX P w K mg base N qual scope f cdv A outer s H E) [] σ' H' s'->RelV v u->Q v H'->CE outer P w H s Q u s':=
  fun{σ' H' v u} J rv q=>⟨v,H',J.os,J.bare,J.base,J.hok,rv,q⟩
 cases fl with
 |ret u=>
  obtain⟨v,σ',H',J,rv,q⟩:=hs;exact fin J rv q
 |next=>
  obtain⟨σ',H',J,q⟩:=hs;exact fin (v:=V.non) (u:=Value.none) J rfl q
 |brk=>
  obtain⟨_,_,_,q⟩:=hs;exact False.elim q
 |cont=>
  obtain⟨_,_,_,q⟩:=hs;exact False.elim q
section
variable{X:Cx}{x:Str}{p pos:Pos}{e:Expr}{es:List Expr}{t:TA}{id T:String}{r:List V->Hp->VK->Prop}
def Je(r:List V->Hp->VK->Prop)(t:TA):TE:=fun σ H Q=>t σ H fun vs H1=>r vs H1 Q
theorem yc(hc:CallR X (.builtin id) r)(hg:Gl X x)(hm:X.mg x=none)(hv:bootBuiltins x=some (.builtin id))(ha:PA X (e::es) t)(hn:x ≠ "__name__":=by decide)(hdb:(x==("__debug__":Str))=false:=by decide)
  (he:starEach (e::es) X.env=(false,eval e X.env)::starEach es X.env:=by rfl) (hpl:(backTo pos (starEach es X.env)).any (·.1)=false:=by rfl):PE X (.Call (.Name x p) (e::es) [] pos) (Je r t):=by
 intro pins s σ H Q I h;refine wpAny_Call_Name_kw (lX I hg hm hv ?_ hn hdb);exact PyProof.Rows.callWith_builtin1 (cx (ha pos pins s σ H _ I h) fun us s1 ⟨vs,H1,I1,r1,q1⟩=>hc pins s1 σ H1 vs us Q I1 r1 q1) he hpl
theorem vS(hc:CallR X (.type T) r)(hg:Gl X x)(hm:X.mg x=none)(hv:bootBuiltins x=some (.type T))(ha:PA X (e::es) t)(hn:x ≠ "__name__":=by decide)(hdb:(x==("__debug__":Str))=false:=by decide)
  (he:starEach (e::es) X.env=(false,eval e X.env)::starEach es X.env:=by rfl) (hpl:(backTo pos (starEach es X.env)).any (·.1)=false:=by rfl):PE X (.Call (.Name x p) (e::es) [] pos) (Je r t):=by
 intro pins s σ H Q I h;refine wpAny_Call_Name_kw (lX I hg hm hv ?_ hn hdb);exact PyProof.Rows.callWith_type1 (cx (ha pos pins s σ H _ I h) fun us s1 ⟨vs,H1,I1,r1,q1⟩=>hc pins s1 σ H1 vs us Q I1 r1 q1) he hpl
end
end L2
namespace HT
open PySem PyProof.Rows
section
variable{prog:Program}{w:World}{A:Around}{E:Value->Shared->Prop}{s:Shared}
theorem BY{t b:Addr}{vs ws:List Value}{Q:Value->Shared->Prop}(ht:IsTup s.heap t vs.toArray)(hb:IsTup s.heap b ws.toArray)(hv:vs≠[])
  (h1:ws=[]->Q (.ref t) s) (h2:ws≠[]->Q (.ref s.heap.objs.size) { s with heap:=s.heap.push { cls:=.type "tuple",data:=.seq (vs++ws).toArray } })
  (hsz:vs.length+ws.length<=sizeLine):wpAny (model prog w) A (binaryOp .Add (.ref t) (.ref b)) Q E s:=by
 obtain⟨⟨cls,dd,data,sl⟩,ho,hc,n,hd⟩:=id ht;obtain⟨⟨cls2,dd2,data2,sl2⟩,ho2,hc2,n2,hd2⟩:=id hb;simp only at hc hd hc2 hd2;subst hc hd hc2 hd2;have e:vs.toArray++ws.toArray=(vs++ws).toArray:=by simp
 by_cases hw:ws=[]
 ·exact concat_meets ⟨_,ho,rfl⟩ ⟨_,ho2,rfl⟩ noFill_tuple_add seq_tuple_add PySem.F.slot_tuple_add PySem.F.entry_tuple_add (PySem.F.args_tuple_add_2 _ _)
   (tuple_addW1 t b vs.toArray ws.toArray n n2 dd dd2 sl sl2 (by simpa using hv) (by simp[hw])) ⟨ho,ho2,h1 hw⟩
 ·refine concat_meets ⟨_,ho,rfl⟩ ⟨_,ho2,rfl⟩ noFill_tuple_add seq_tuple_add PySem.F.slot_tuple_add PySem.F.entry_tuple_add (PySem.F.args_tuple_add_2 _ _)
   (tuple_addW2 t b vs.toArray ws.toArray n n2 dd dd2 sl sl2 (by simpa using hv) (by simpa using hw) (by rw[List.size_toArray,List.size_toArray];exact hsz)) ⟨ho,ho2,?_⟩
  rw[e];exact h2 hw
noncomputable def sIx(n d:Nat):Option Int->Nat
 |none=>d
 |some v=>if v<0 then(v+(n:Int)).toNat else min v.toNat n
theorem C8(n d:Nat)(hd:d<=n)(o:Option Int):sIx n d o<=n:=by
 cases o with
 |none=>exact hd
 |some v=>
  show(if v<0 then(v+(n:Int)).toNat else min v.toNat n)<=n;by_cases hv:v<0
  ·rw[if_pos hv];omega
  ·rw[if_neg hv];exact Nat.min_le_right _ _
theorem ve(v:Int)(n d:Nat):(if v<0 then max (v+(n:Int)) 0 else min v (n:Int))=((sIx n d (some v):Nat):Int):=by
 show(if v<0 then max (v+(n:Int)) 0 else min v (n:Int))=(((if v<0 then(v+(n:Int)).toNat else min v.toNat n):Nat):Int);by_cases hv:v<0
 ·simp only[if_pos hv];omega
 ·simp only[if_neg hv];omega
theorem uf(lo hi:Option Int)(n:Nat):Builtin.Slice.sliceAdjust lo hi 1 (n:Int)=(((sIx n 0 lo:Nat):Int),((sIx n n hi:Nat):Int)):=by
 have h1:¬((1:Int)<0):=by omega
 unfold Builtin.Slice.sliceAdjust;simp only[h1,if_false];refine Prod.ext ?_ ?_
 ·cases lo with
  |none=>rfl
  |some v=>exact ve v n 0
 ·cases hi with
  |none=>rfl
  |some v=>exact ve v n n
theorem sP(i j:Nat):Builtin.Slice.slicePlaces (i:Int) (j:Int) 1=j-i:=by
 unfold Builtin.Slice.slicePlaces;have h1:(1:Int)>0:=by omega
 simp only[h1,if_true,Int.ediv_one];split<;>omega
theorem lF{v:Value}{o:Option Int}{Q:Option Int->Shared->Prop}(p:IsPart v o)(h:Q o s):wpAny (model prog w) A (Builtin.Slice.slicePartIndex v) Q E s:=by
 cases p with
 |none=>exact slicePart_none h
 |int i t=>exact slicePart_int h
theorem fJ{sl:Addr}{vl vu:Value}{lo hi:Option Int}{n:Nat}{Q:Int×Int×Nat->Shared->Prop}(hs:s.heap.IsSliceOf sl vl vu .none)(pl:IsPart vl lo)(pu:IsPart vu hi)
  (h:Q (((sIx n 0 lo:Nat):Int),1,sIx n n hi-sIx n 0 lo) s):wpAny (model prog w) A (Builtin.Slice.sliceApplied (.ref sl) (pure (n:Int))) Q E s:=by
 obtain⟨os,hos,hcs,hds⟩:=id hs;unfold Builtin.Slice.sliceApplied Builtin.Slice.sliceFields;refine wpAny_bind (wpAny_bind (wpAny_field hos hds (x:=vl) rfl (wpAny_bind (wpAny_field hos hds (x:=vu) rfl (wpAny_bind (wpAny_field hos hds (x:=.none) rfl (wpAny_pure ?_)))))));refine wpAny_bind (slicePart_none ?_);show wpAny _ _ (if((1:Int)==0)=true then _ else _) _ _ s;rw[if_neg (by decide)];refine wpAny_bind (lF pl (wpAny_bind (lF pu (wpAny_bind (wpAny_pure ?_)))));show wpAny _ _ (match Builtin.Slice.sliceAdjust lo hi 1 (n:Int)with|(lo,hi)=>pure (lo,(1:Int),Builtin.Slice.slicePlaces lo hi 1)) _ _ s
 rw[uf lo hi n];show wpAny _ _ (pure (((sIx n 0 lo:Nat):Int),(1:Int),Builtin.Slice.slicePlaces ((sIx n 0 lo:Nat):Int) ((sIx n n hi:Nat):Int) 1)) _ _ s;rw[sP];exact wpAny_pure h
theorem xX(xs:Array Value)(i k:Nat):((List.range k).filterMap fun(m:Nat)=>xs[((i:Int)+(m:Int)*1).toNat]?).toArray=((xs.toList.drop i).take k).toArray:=by
 have e:(fun(m:Nat)=>xs[((i:Int)+(m:Int)*1).toNat]?)=fun m=>xs[i+m]?:=by
  funext m;have:((i:Int)+(m:Int)*1).toNat=i+m:=by omega
  rw[this]
 rw[e];have:=pick_run xs i k;rw[List.filterMap_map]at this;have e2:((fun x=>xs[x]?) ∘ fun x=>i+x)=fun m=>xs[i+m]?:=rfl
 rw[e2]at this;rw[this]
theorem jk{t sl:Addr}{items:Array Value}{vl vu:Value}{lo hi:Option Int}{Q:Value->Shared->Prop}(ht:IsTup s.heap t items)(hs:s.heap.IsSliceOf sl vl vu .none)(pl:IsPart vl lo)(pu:IsPart vu hi)
  (hw:¬(sIx items.size 0 lo=0/\sIx items.size items.size hi=items.size))
  (h:Q (.ref s.heap.objs.size) { s with heap:=s.heap.push { cls:=.type "tuple",data:=.seq ((items.toList.drop (sIx items.size 0 lo)).take (sIx items.size items.size hi-sIx items.size 0 lo)).toArray } })
  (hsz:items.size<=sizeLine):wpAny (model prog w) A (getItem (.ref t) (.ref sl)) Q E s:=by
 have htake:sizeOk (.seq ((items.toList.drop (sIx items.size 0 lo)).take (sIx items.size items.size hi-sIx items.size 0 lo)).toArray):=by
  show((items.toList.drop (sIx items.size 0 lo)).take (sIx items.size items.size hi-sIx items.size 0 lo)).toArray.size<=sizeLine;rw[List.size_toArray,List.length_take,List.length_drop,Array.length_toList];omega
 have hj:sIx items.size items.size hi<=items.size:=C8 _ _ (Nat.le_refl _) hi;obtain⟨os,hos,hcs,hds⟩:=id hs;have hTs:s.TypeIs (.ref sl) "slice":=⟨os,hos,hcs⟩;unfold getItem
 try with_reducible refine wpAny_holding ?_
 first|refine wpAny_bind (wpAny_pure ?_)|skip
 refine wpAny_bind (wpAny_sequenceKey ht.typeIs (by decide) ?_);refine wpAny_bind (wpAny_callSpecial?_slot (name:=Str.ofString "__getitem__") ht.typeIs PyProof.Rows.slot_tuple_getitem
  (wpAny_call_entry PyProof.Rows.slot_tuple_getitem ht.typeIs entry_tuple_getitem ?_ (args_tuple_getitem _ _)))
 show wpAny _ _ (Builtin.Tuple.tupleItemsOf (.ref t) >>= _) _ _ s;refine wpAny_bind (tupleItemsOf_ ht ?_);refine wpAny_bind (wpAny_typeOf hTs ?_);rw[if_pos (by decide)];refine wpAny_bind (fJ hs pl pu ?_);have hno:¬((((sIx items.size 0 lo:Nat):Int)==0&&(1:Int)==1&&(sIx items.size items.size hi-sIx items.size 0 lo)==items.size)=true):=by
  intro q;rw[Bool.and_eq_true,Bool.and_eq_true]at q;have q1:((sIx items.size 0 lo:Nat):Int)=0:=eq_of_beq q.1.1;have q2:sIx items.size items.size hi-sIx items.size 0 lo=items.size:=eq_of_beq q.2;exact hw ⟨by omega,by omega⟩
 show wpAny _ _ (if(((sIx items.size 0 lo:Nat):Int)==0&&(1:Int)==1&&(sIx items.size items.size hi-sIx items.size 0 lo)==items.size)=true then _ else _) _ _ s;rw[if_neg hno,xX]
 first
  |exact wpAny_bind (m:=Builtin.Tuple.tupleExact _) (wpAny_newObj_type (wpAny_pure ⟨_,rfl,wpAny_pure h⟩) htake)
  |exact wpAny_bind (m:=Builtin.Tuple.tupleExact _) (wpAny_newObj_type (wpAny_bind (wpAny_pure (wpAny_pure ⟨_,rfl,wpAny_pure h⟩))) htake)
  |exact wpAny_bind (wpAny_bind (m:=Builtin.Tuple.tupleExact _) (wpAny_newObj_type (wpAny_pure (wpAny_pure ⟨_,rfl,wpAny_pure h⟩)) htake))
  |exact wpAny_bind (wpAny_bind (m:=Builtin.Tuple.tupleExact _) (wpAny_newObj_type (wpAny_pure ⟨_,rfl,wpAny_pure h⟩) htake))
end
end HT
namespace L2
open PySem PySem.Spec PyProof.Rows
abbrev TO:=St->Hp->(Option Int->Hp->Prop)->Prop
def PO(X:Cx)(e:Option Expr)(t:TO):Prop:=
 ∀(pins:List (Addr×Obj)) (s:Shared) (σ:St) (H:Hp) (Q:Option Int->Hp->Prop),Inv X pins σ H s->t σ H Q ->
  wpAny (model X.prog X.w) X.A (evalPart e X.env) (fun u s'=>∃o H',Inv X pins σ H' s'/\IsPart u o/\Q o H') X.xe s
noncomputable def As:TO:=fun _ H Q=>Q none H
def Fa(t:TE):TO:=fun σ H Q=>t σ H fun x H1=>∃i,x=.int i/\Q (some i) H1
section
variable{X:Cx}{e:Expr}{te:TE}{lo hi:Option Expr}{tl th:TO}{pos p2:Pos}
theorem AJ:PO X none As:=by
 intro pins s σ H Q I h;rw[evalPart_none];exact wpAny_pure ⟨none,H,I,.none,h⟩
theorem AI(h:PE X e te):PO X (some e) (Fa te):=by
 intro pins s σ H Q I hw;rw[evalPart_some];refine cx (h pins s σ H _ I hw) fun u s1 ⟨x,H1,I1,r1,q1⟩=>?_
 obtain⟨i,rfl,q⟩:=q1;obtain⟨t,rfl⟩:=r1;exact⟨some i,H1,I1,.int i t,q⟩
def SlR(X:Cx)(r:V->Option Int->Option Int->Hp->VK->Prop):Prop:=
 ∀(pins:List (Addr×Obj)) (s:Shared) (σ:St) (H:Hp) (x:V) (v vl vu:Value) (lo hi:Option Int) (sl:Addr) (Q:VK),Inv X pins σ H s->RelV x v->s.heap.IsSliceOf sl vl vu .none->IsPart vl lo->IsPart vu hi->r x lo hi H Q ->
  ∃T id,typeLookup (.type T) "__getitem__" = pure (some (.builtin id))/\s.TypeIs v T/\wpAny (model X.prog X.w) X.A (getItem v (.ref sl)) (EP X pins σ Q) X.xe s
theorem SlR.or{r r':V->Option Int->Option Int->Hp->VK->Prop}(h:SlR X r)(h':SlR X r'):SlR X (fun x lo hi H Q=>r x lo hi H Q\/r' x lo hi H Q):=by
 intro pins s σ H x v vl vu lo hi sl Q I rx hs pl pu q;rcases q with q|q
 ·exact h pins s σ H x v vl vu lo hi sl Q I rx hs pl pu q
 ·exact h' pins s σ H x v vl vu lo hi sl Q I rx hs pl pu q
def JE(r:V->Option Int->Option Int->Hp->VK->Prop)(te:TE)(tl th:TO):TE:=fun σ H Q=>te σ H fun x H1=>tl σ H1 fun l H2=>th σ H2 fun u H3=>r x l u H3 Q
theorem x8{r:V->Option Int->Option Int->Hp->VK->Prop}(hr:SlR X r)(he:PE X e te)(hl:PO X lo tl)(hu:PO X hi th):PE X (.Subscript e (.Slice lo hi none p2) pos) (JE r te tl th):=by
 intro pins s σ H Q I h;refine Subscript_ (cx (he pins s σ H _ I h) fun v s1 ⟨x,H1,I1,r1,q1⟩=>?_)
 refine wpAny_Slice (cx (hl pins s1 σ H1 _ I1 q1) fun vl s2 ⟨l,H2,I2,pl,q2⟩=>cx (hu pins s2 σ H2 _ I2 q2) fun vu s3 ⟨u,H3,I3,pu,q3⟩=>?_)
 rw[evalPart_none];refine wpAny_pure ?_;have I4:Inv X pins σ H3 { s3 with heap:=s3.heap.push { cls:=.type "slice",data:=.fields #[vl,vu,.none] } }:=I3.kept (t':=s3.toks) fun b ob q=>Heap.get?_push_of_some _ q
 obtain⟨T,id,hT,ht,hg⟩:=hr pins { s3 with heap:=s3.heap.push { cls:=.type "slice",data:=.fields #[vl,vu,.none] } } σ H3 x v vl vu l u s3.heap.objs.size Q I4 r1 (Heap.IsSliceOf.new ..) pl pu q3;show wpAny (model X.prog X.w) X.A (subscriptTail e (.Slice lo hi none p2) v (.ref s3.heap.objs.size)) (EP X pins σ Q) X.xe { s3 with heap:=s3.heap.push { cls:=.type "slice",data:=.fields #[vl,vu,.none] } };exact tail_any (ops:=[.ref s3.heap.objs.size,v]) ht hT hg (by with_unfolding_all rfl)
noncomputable def nk(xs:List V)(lo hi:Option Int):List V:=(xs.drop (HT.sIx xs.length 0 lo)).take (HT.sIx xs.length xs.length hi-HT.sIx xs.length 0 lo)
theorem kq(xs:List V)(lo hi:Option Int):(nk xs lo hi).length<=xs.length:=by
 unfold nk;rw[List.length_take,List.length_drop];omega
def HM(K:PySem.W.Frag):V->Option Int->Option Int->Hp->VK->Prop:=fun x lo hi H Q=>∃a xs,x=.ref a/\SqT K H a xs /\
 ¬(HT.sIx xs.length 0 lo=0/\HT.sIx xs.length xs.length hi=xs.length)/\∀p,H p=none->Q (.ref p) (upd H p (.tup (nk xs lo hi)))
theorem sl_tup:SlR X (HM X.K):=by
 intro pins s σ H x v vl vu lo hi sl Q I rx hs pl pu h;obtain⟨a,xs,rfl,hx,hw,q⟩:=h;cases rx;obtain⟨its,r,ht,hz⟩:=I.tuple hx;have hlen:its.toArray.size=xs.length:=by rw[List.size_toArray];exact r.length.symm
 refine⟨"tuple",_,PyProof.Rows.slot_tuple_getitem.lookup,ht.typeIs,?_⟩;refine HT.jk ht hs pl pu (by rw[hlen];exact hw) ?_ (by rw[hlen];exact hz);rw[hlen];refine⟨.ref s.heap.objs.size,_,I.laid (t':=s.toks) (o:=.tup (nk xs lo hi)) (fun b ob q=>Heap.get?_push_of_some _ q) (Nat.le_refl _) ?_,rfl,q _ (I.hok.fresh (Nat.le_refl _))⟩;exact⟨Nat.le_trans (kq xs lo hi) hz,_,(r.drop (HT.sIx xs.length 0 lo)).take (HT.sIx xs.length xs.length hi-HT.sIx xs.length 0 lo),IsTup.new _ _,NoDi.new _ _⟩
def Ft(K:PySem.W.Frag):R2:=fun x y H Q=>∃a b xs ys,x=.ref a/\y=.ref b/\SqT K H a xs/\SqT K H b ys/\xs≠[]/\xs.length+ys.length<=sizeLine /\
 (ys=[]->Q (.ref a) H)/\(ys≠[]->∀p,H p=none->Q (.ref p) (upd H p (.tup (xs++ys))))
theorem Vals.nil_iff{xs:List V}{us:List Value}(r:Vals xs us):us=[]↔xs=[]:=by
 cases r with
 |nil=>simp
 |cons _ _=>simp
theorem AU:OpR X (binaryOp .Add) (Ft X.K):=by
 intro pins s σ H x y v u Q I rx ry h;obtain⟨a,b,xs,ys,rfl,rfl,ha,hb,hx,hz,q1,q2⟩:=h;cases rx;cases ry;obtain⟨its,r1,p1,_⟩:=I.tuple ha;obtain⟨its2,r2,p2,_⟩:=I.tuple hb;refine HT.BY p1 p2 (fun z=>hx (r1.nil_iff.mp z)) (fun z=>⟨.ref a,H,I,rfl,q1 (r2.nil_iff.mp z)⟩) (fun z=>?_) (by rw[<-r1.length,<-r2.length];exact hz)
 refine⟨.ref s.heap.objs.size,_,I.laid (t':=s.toks) (o:=.tup (xs++ys)) (fun b ob q=>Heap.get?_push_of_some _ q) (Nat.le_refl _) ?_,rfl,q2 (fun w=>z (r2.nil_iff.mpr w)) _ (I.hok.fresh (Nat.le_refl _))⟩
 exact⟨by rw[List.length_append];exact hz,_,r1.append r2,IsTup.new _ _,NoDi.new _ _⟩
end
noncomputable def Ec(n:Nat)(i:Int):Option Nat:=if 0<=i then(if i<n then some i.toNat else none)else if -(n:Int)<=i then some (i+n).toNat else none
noncomputable def ip{α:Type}(xs:List α)(i:Int):Option α:=(Ec xs.length i).bind fun j=>xs[j]?
theorem Bx{n:Nat}{i:Int}{j:Nat}(h:Ec n i=some j):seqIndex? i n=some j/\j<n /\ -(n:Int)<=i/\i<n:=by
 unfold Ec at h;by_cases h0:0<=i
 ·rw[if_pos h0]at h
  by_cases h1:i<n
  ·rw[if_pos h1]at h
   have e:i.toNat=j:=Option.some.inj h;exact⟨by rw[seqIndex_of h0 h1,e],by omega,by omega,h1⟩
  ·rw[if_neg h1]at h;cases h
 ·rw[if_neg h0]at h
  by_cases h1:-(n:Int)<=i
  ·rw[if_pos h1]at h
   have e:(i+n).toNat=j:=Option.some.inj h;exact⟨by rw[seqIndex_neg (by omega) h1,e],by omega,h1,by omega⟩
  ·rw[if_neg h1]at h;cases h
theorem vm{α:Type}{xs:List α}{i:Int}{v:α}(h:ip xs i=some v):∃j,seqIndex? i xs.length=some j/\xs[j]? = some v/\j<xs.length /\ -(xs.length:Int)<=i/\i<xs.length:=by
 unfold ip at h;cases e:Ec xs.length i with
 |none=>rw[e]at h;cases h
 |some j=>
  rw[e]at h;obtain⟨h1,h2,h3,h4⟩:=Bx e;exact⟨j,h1,h,h2,h3,h4⟩
def vn(b:Expr):Prop:=∀o i,subscripted b false o i=operate [o,i] (getItem o i)
def IxR(X:Cx)(r:R2):Prop:=
 ∀(value slice:Expr) (pins:List (Addr×Obj)) (s:Shared) (σ:St) (H:Hp) (x y:V) (v u:Value) (Q:VK),Inv X pins σ H s->RelV x v->RelV y u->r x y H Q ->
  subscripted slice false v u=operate [v,u] (getItem v u)->wpAny (model X.prog X.w) X.A (subscriptTail value slice v u) (EP X pins σ Q) X.xe s
def IM(X:Cx)(id:String)(r:V->List V->Hp->VK->Prop):Prop:=
 ∀(pins:List (Addr×Obj)) (s:Shared) (σ:St) (H:Hp) (x:V) (xs:List V) (v:Value) (us:List Value) (Q:VK),Inv X pins σ H s->RelV x v->Vals xs us->r x xs H Q ->
  wpAny (model X.prog X.w) X.A (call (.builtin id) (v::us)) (EP X pins σ Q) X.xe s
section
variable{X:Cx}{a b:Expr}{ta tb:TE}{pos:Pos}
theorem IxR.or{r r':R2}(h:IxR X r)(h':IxR X r'):IxR X (fun x y H Q=>r x y H Q\/r' x y H Q):=by
 intro value slice pins s σ H x y v u Q I rx ry q hs;rcases q with q|q
 ·exact h value slice pins s σ H x y v u Q I rx ry q hs
 ·exact h' value slice pins s σ H x y v u Q I rx ry q hs
theorem FC{r:R2}(hr:IxR X r)(ha:PE X a ta)(hb:PE X b tb)(hs:vn b):PE X (.Subscript a b pos) (Fb r ta tb):=by
 intro pins s σ H Q I h;exact Subscript_ (Ev ha hb I h fun v u s2 x y H2 I2 rx ry q=>hr a b pins s2 σ H2 x y v u Q I2 rx ry q (hs _ _))
def HR(K:PySem.W.Frag):R2:=fun x y H Q=>∃p xs i v,x=.ref p/\y=.int i/\SqL K H p xs/\ip xs i=some v/\Q v H
def HQ(K:PySem.W.Frag):R2:=fun x y H Q=>∃p xs i v,x=.ref p/\y=.int i/\SqT K H p xs/\ip xs i=some v/\Q v H
theorem ix_list:IxR X (HR X.K):=by
 intro value slice pins s σ H x y v u Q I rx ry h hs;obtain⟨p,xs,i,z,rfl,rfl,hq,he,q⟩:=h;cases rx;obtain⟨t,rfl⟩:=ry;obtain⟨its,r,pl,hz⟩:=I.list hq;obtain⟨j,h1,h2,h3,h4,h5⟩:=vm he;obtain⟨w,ew,rw'⟩:=r.get h2;have hl:=r.length;have hn:=ti;have fin:EP X pins σ Q w s:=⟨z,H,I,rw',q⟩;by_cases h0:0<=i
 ·have hj:i.toNat=j:=by
   rw[seqIndex_of h0 h5]at h1;exact Option.some.inj h1
  exact item_listR pl.isList h0 (by omega) (by rw[hj];simpa using ew) fin hs
 ·have hj:(i+(its.toArray.size:Int)).toNat=j:=by
   rw[seqIndex_neg (by omega) h4]at h1;rw[List.size_toArray,<-hl];exact Option.some.inj h1
  exact subscriptTail_builtinR (x:=w) pl.isList.typeIs slot_list_getitem.lookup
   (wpAny_getItem_list_neg (Q:=fun r s'=>r=w/\EP X pins σ Q r s') pl.isList (by omega) (by rw[List.size_toArray]<;>omega) (by omega) (by rw[hj];simpa using ew) ⟨rfl,fin⟩) hs
theorem Eb:IxR X (HQ X.K):=by
 intro value slice pins s σ H x y v u Q I rx ry h hs;obtain⟨p,xs,i,z,rfl,rfl,hq,he,q⟩:=h;cases rx;obtain⟨t,rfl⟩:=ry;obtain⟨its,r,pl,hz⟩:=I.tuple hq;obtain⟨j,h1,h2,h3,h4,h5⟩:=vm he;obtain⟨w,ew,rw'⟩:=r.get h2;have hl:=r.length;have hn:=ti;have fin:EP X pins σ Q w s:=⟨z,H,I,rw',q⟩;exact subscriptTail_builtinR (x:=w) pl.typeIs slot_tuple_getitem.lookup
  (getItem_tuple (j:=j) (Q:=fun r s'=>r=w/\EP X pins σ Q r s') pl (by omega) (by omega) (by rw[List.size_toArray,<-hl];exact h1) (by simpa using ew) ⟨rfl,fin⟩) hs
theorem oW(lo hi:Option Int)(n:Nat):(sliceBounds lo hi none n).1=((HT.sIx n 0 lo:Nat):Int)/\(sliceBounds lo hi none n).2.1=((HT.sIx n n hi:Nat):Int)/\(sliceBounds lo hi none n).2.2=1:=by
 refine⟨?_,?_,rfl⟩
 ·cases lo with
  |none=>simp[sliceBounds,HT.sIx]
  |some i=>
   simp only[sliceBounds,HT.sIx,Option.getD_none,show(1:Int)>0 by decide,if_true];by_cases h:i<0
   ·simp only[h,if_true]<;>omega
   ·simp only[h,if_false]<;>omega
 ·cases hi with
  |none=>simp[sliceBounds,HT.sIx]
  |some i=>
   simp only[sliceBounds,HT.sIx,Option.getD_none,show(1:Int)>0 by decide,if_true];by_cases h:i<0
   ·simp only[h,if_true]<;>omega
   ·simp only[h,if_false]<;>omega
theorem mZ(its:List Value)(lo hi:Option Int):slicePick its.toArray lo hi none=((its.drop (HT.sIx its.length 0 lo)).take (HT.sIx its.length its.length hi-HT.sIx its.length 0 lo)).toArray:=by
 obtain⟨h1,h2,h3⟩:=oW lo hi its.toArray.size;unfold slicePick;rw[h1,h2,h3];simp only[sliceRange_one,pick_run,List.size_toArray]<;>rfl
def HN(K:PySem.W.Frag):V->Option Int->Option Int->Hp->VK->Prop:=fun x lo hi H Q=>∃a xs,x=.ref a/\SqL K H a xs/\∀p,H p=none->Q (.ref p) (upd H p (.lst (nk xs lo hi)))
theorem sl_list:SlR X (HN X.K):=by
 intro pins s σ H x v vl vu lo hi sl Q I rx hs pl pu h;obtain⟨a,xs,rfl,hx,q⟩:=h;cases rx;obtain⟨its,r,ht,hz⟩:=I.list hx;have hlen:=r.length;refine⟨"list",_,slot_list_getitem.lookup,ht.isList.typeIs,?_⟩;refine wpAny_getItem_list_slice ht.isList hs pl pu .none (by simp) ?_ (by rw[List.size_toArray]<;>omega);rw[mZ,<-hlen];refine⟨.ref s.heap.objs.size,_,I.laid (t':=s.toks) (o:=.lst (nk xs lo hi)) (fun b ob q=>Heap.get?_push_of_some _ q) (Nat.le_refl _) ?_,rfl,q _ (I.hok.fresh (Nat.le_refl _))⟩;exact⟨Nat.le_trans (kq xs lo hi) hz,_,0,(r.drop (HT.sIx xs.length 0 lo)).take (HT.sIx xs.length xs.length hi-HT.sIx xs.length 0 lo),Heap.get?_push_size _ rfl⟩
noncomputable def gM:V->Bool
 |.non=>true
 |.bl _=>true
 |.int _=>true
 |.str _=>true
 |_=>false
noncomputable def Ad:V->V->Bool
 |.non,.non=>true
 |.bl a,.bl b=>a==b
 |.bl a,.int b=>(if a then 1 else 0)==b
 |.int a,.bl b=>a==(if b then 1 else 0)
 |.int a,.int b=>a==b
 |.str a,.str b=>a==b
 |_,_=>false
theorem Em{A:Around}{s:Shared}{y x:V}{u v:Value}(ry:RelV y u)(rx:RelV x v)(fy:gM y=true)(fx:gM x=true):SeqAt.EqAt A s u v (Ad y x):=by
 cases y with
 |non=>
  cases ry;cases x with
  |non=>cases rx;exact SeqAt.EqAt.same _
  |bl b=>cases rx;exact SeqAt.EqAt.none_bool b
  |int b=>obtain⟨t,rfl⟩:=rx;exact SeqAt.EqAt.none_int b t
  |str b=>obtain⟨t,rfl⟩:=rx;exact SeqAt.EqAt.none_str b t
  |_=>exact absurd (show false=true from fx) Bool.false_ne_true
 |bl a=>
  cases ry;cases x with
  |non=>cases rx;exact SeqAt.EqAt.bool_none a
  |bl b=>cases rx;exact SeqAt.EqAt.bool_bool a b
  |int b=>obtain⟨t,rfl⟩:=rx;exact SeqAt.EqAt.bool_int a b t
  |str b=>obtain⟨t,rfl⟩:=rx;exact SeqAt.EqAt.bool_str a b t
  |_=>exact absurd (show false=true from fx) Bool.false_ne_true
 |int a=>
  obtain⟨t',rfl⟩:=ry;cases x with
  |non=>cases rx;exact SeqAt.EqAt.int_none a t'
  |bl b=>cases rx;exact SeqAt.EqAt.int_bool a t' b
  |int b=>obtain⟨t,rfl⟩:=rx;exact SeqAt.EqAt.int_int a t' b t
  |str b=>obtain⟨t,rfl⟩:=rx;exact SeqAt.EqAt.int_str a t' b t
  |_=>exact absurd (show false=true from fx) Bool.false_ne_true
 |str a=>
  obtain⟨t',rfl⟩:=ry;cases x with
  |non=>cases rx;exact SeqAt.EqAt.str_none a t'
  |bl b=>cases rx;exact SeqAt.EqAt.str_bool a t' b
  |int b=>obtain⟨t,rfl⟩:=rx;exact SeqAt.EqAt.str_int a t' b t
  |str b=>obtain⟨t,rfl⟩:=rx;exact SeqAt.EqAt.str_str a t' b t
  |_=>exact absurd (show false=true from fx) Bool.false_ne_true
 |_=>exact absurd (show false=true from fy) Bool.false_ne_true
noncomputable def BQ(x:V)(u:Value):Bool:=match u with
 |.none=>Ad .non x
 |.bool b=>Ad (.bl b) x
 |.int i _=>Ad (.int i) x
 |.str z _=>Ad (.str z) x
 |_=>false
theorem zp{x y:V}{u:Value}(r:RelV y u)(f:gM y=true):BQ x u=Ad y x:=by
 cases y with
 |non=>cases r;rfl
 |bl b=>cases r;rfl
 |int i=>obtain⟨t,rfl⟩:=r;rfl
 |str z=>obtain⟨t,rfl⟩:=r;rfl
 |_=>exact absurd (show false=true from f) Bool.false_ne_true
theorem qj{x:V}:∀{xs:List V} {us:List Value},Vals xs us->xs.all gM=true->us.any (BQ x)=xs.any fun y=>Ad y x
 |_,_,.nil,_=>rfl
 |y::xs,u::us,.cons r t,f=>by
  rw[List.all_cons,Bool.and_eq_true]at f;rw[List.any_cons,List.any_cons,zp r f.1,qj t f.2]
theorem lT{A:Around}{s:Shared}{x:V}{v:Value}(rx:RelV x v)(fx:gM x=true):∀{xs:List V} {us:List Value},Vals xs us->xs.all gM=true->∀u∈us,SeqAt.EqAt A s u v (BQ x u)
 |_,_,.nil,_=>fun u hu=>by cases hu
 |y::xs,u::us,.cons r t,f=>fun u' hu=>by
  rw[List.all_cons,Bool.and_eq_true]at f;rcases List.mem_cons.mp hu with rfl|hu
  ·rw[zp r f.1];exact Em r rx f.1 fx
  ·exact lT rx fx t f.2 u' hu
noncomputable def G6(x:V)(xs:List V):Bool:=xs.any fun y=>Ad y x
def HS(K:PySem.W.Frag)(neg:Bool):R2:=fun x y H Q=>∃p xs,y=.ref p/\(SqL K H p xs\/SqT K H p xs)/\gM x=true/\xs.all gM=true/\Q (.bl (if neg then !G6 x xs else G6 x xs)) H
theorem vU:OpR X (compareOp .In) (HS X.K false):=by
 intro pins s σ H x y v u Q I rx ry h;obtain⟨p,xs,rfl,hq,fx,fs,q⟩:=h;cases ry;rcases hq with hq|hq
 ·obtain⟨its,r,pl,hz⟩:=I.list hq
  refine SeqAt.in_listAt (BQ x) pl.isList (fun w hw=>lT rx fx r fs w (by simpa using hw)) ⟨.bl _,H,I,rfl,?_⟩
  rw[show its.toArray.any (BQ x)=its.any (BQ x) by simp,qj r fs];exact q
 ·obtain⟨its,r,pl,hz⟩:=I.tuple hq
  refine SeqAt.in_tupleAt (BQ x) pl (fun w hw=>lT rx fx r fs w (by simpa using hw)) ⟨.bl _,H,I,rfl,?_⟩
  rw[show its.toArray.any (BQ x)=its.any (BQ x) by simp,qj r fs];exact q
theorem nr:CallR X (.type "tuple") (fun xs H Q=>∃p ys,xs=[.ref p]/\((SqL X.K H p ys/\∀l,H l=none->Q (.ref l) (upd H l (.tup ys)))\/(SqT X.K H p ys/\Q (.ref p) H))):=by
 intro pins s σ H xs us Q I r h;obtain⟨p,ys,rfl,h⟩:=h;obtain⟨u,rfl,rx⟩:=iP r;cases rx;rcases h with⟨hq,q⟩|⟨hq,q⟩
 ·obtain⟨its,r',pl,hz⟩:=I.list hq
  have hlen:=r'.length;refine call_tuple_list pl.isList (fun h' kp=>?_) (by simp only[List.size_toArray]<;>omega);have I1:Inv X pins σ H { s with heap:=h' }:=I.kept (t':=s.toks) kp;have I2:Inv X pins σ (upd H h'.objs.size (.tup ys)) { s with heap:=h'.push { cls:=.type "tuple",data:=.seq its.toArray } }:=
   I1.laid (t':=s.toks) (fun b o e=>Heap.get?_push_of_some _ e) (Nat.le_refl _) (show ObjOk X.prog X.w _ _ _ (.tup ys)from ⟨hz,its,r',IsTup.new _ _,NoDi.new _ _⟩)
  exact⟨.ref h'.objs.size,_,I2,rfl,q _ (I1.hok.fresh (Nat.le_refl _))⟩
 ·obtain⟨its,r',pl,hz⟩:=I.tuple hq
  exact call_tuple_same pl ⟨.ref p,H,I,rfl,q⟩
def Hh(K:PySem.W.Frag)(T:String)(x:V)(H:Hp):Prop:=match x with
 |.str _=>T = "str"
 |.int _=>T = "int"
 |.ref p=>(T = "list" /\ ∃xs,SqL K H p xs)\/(T = "tuple" /\ ∃o,K.lookup p=some o/\o.cls=.type "tuple" /\ o.dict=none) \/
   (T = "dict" /\ ((∃kvs,H p=some (.dK kvs))\/∃kvs,H p=some (.dT kvs)))\/(T = "set" /\ ∃S n,H p=some (.set S n))
 |_=>False
theorem wZ{pins:List (Addr×Obj)}{σ:St}{H:Hp}{s:Shared}{T:String}{x:V}{v:Value}(I:Inv X pins σ H s)(r:RelV x v)(ty:Hh X.K T x H):
  s.TypeIs v T/\∀a,v=.ref a->∃ob,s.heap.get? a=some ob/\ob.dict=none:=by
 cases x with
 |str z=>
  obtain⟨t,rfl⟩:=r;cases(show T = "str" from ty);exact⟨typeIs_str s z t,fun _ e=>nomatch e⟩
 |int i=>
  obtain⟨t,rfl⟩:=r;cases(show T = "int" from ty);exact⟨typeIs_int s i t,fun _ e=>nomatch e⟩
 |ref p=>
  cases r;rcases ty with⟨rfl,xs,hq⟩|⟨rfl,o,hk,hc,hd⟩|⟨rfl,hk⟩|⟨rfl,S,n,hk⟩
  ·obtain⟨its,_,pl,_⟩:=I.list hq
   refine⟨pl.isList.typeIs,fun a e=>?_⟩
   cases e;obtain⟨o,n,e,c,hd,_⟩:=pl;exact⟨o,e,hd⟩
  ·refine⟨⟨o,I.kIn p o hk,hc⟩,fun a e=>?_⟩
   cases e;exact⟨o,I.kIn _ o hk,hd⟩
  ·have z:∃o,s.heap.get? p=some o/\o.ExactDict:=by
    rcases hk with⟨kvs,hk⟩|⟨kvs,hk⟩
    ·obtain⟨_,_,_,_,o,_,_,e,ex,_⟩:=I.hok p _ hk
     exact⟨o,e,ex⟩
    ·obtain⟨_,_,_,_,o,_,_,e,ex,_⟩:=I.hok p _ hk
     exact⟨o,e,ex⟩
   obtain⟨o,e,ex⟩:=z;refine⟨⟨o,e,ex.1⟩,fun a e2=>?_⟩
   cases e2;exact⟨o,e,ex.2.1⟩
  ·obtain⟨o,_,_,_,e,ex,_⟩:=I.hok p _ hk
   refine⟨⟨o,e,ex.1⟩,fun a e2=>?_⟩
   cases e2;exact⟨o,e,ex.2.1⟩
 |_=>exact False.elim ty
def HA(K:PySem.W.Frag)(T:String)(r:V->List V->Hp->VK->Prop)(to:TE):TE:=fun σ H Q=>to σ H fun x H1=>Hh K T x H1/\r x [] H1 Q
def JH(K:PySem.W.Frag)(T:String)(r:V->List V->Hp->VK->Prop)(to:TE)(t:TA):TE:=fun σ H Q=>to σ H fun x H1=>Hh K T x H1/\t σ H1 fun xs H2=>r x xs H2 Q
variable{o e:Expr}{es:List Expr}{to:TE}{t:TA}{name:Str}{apos cpos:Pos}{T id:String}{r:V->List V->Hp->VK->Prop}
theorem Dw(pa:PlainAttrs T)(slot:Slot T name id)(hty:typeOf (.builtin id)=pure (.type "method_descriptor"))(hm:IM X id r)(ho:PE X o to)
  (hbase:attributeBase o name X.env (eval o X.env)=eval o X.env:=by rfl) (hline:(apos.endLine==cpos.line)=true:=by rfl):PE X (.Call (.Attribute o name apos) [] [] cpos) (HA X.K T r to):=by
 intro pins s σ H Q I h;refine wpAny_Call_method0_late hbase hline (cx (ho pins s σ H _ I h) fun v s1 ⟨x,H1,I1,r1,ty,q1⟩=>?_)
 obtain⟨h1,h2⟩:=wZ I1 r1 ty;exact⟨T,id,pa,slot,hty,h1,h2,Calls.callWith_builtin rfl (PySem.evalArgs_none (hm pins s1 σ H1 x [] v [] Q I1 r1 .nil q1))⟩
theorem Cp(pa:PlainAttrs T)(slot:Slot T name id)(hty:typeOf (.builtin id)=pure (.type "method_descriptor"))(hm:IM X id r)(ho:PE X o to)(ha:PA X (e::es) t)
  (hbase:attributeBase o name X.env (eval o X.env)=eval o X.env:=by rfl)
  (hfew:((backTo cpos (starEach (e::es) X.env)).all (fun x=>!x.1)&&(backToKw cpos (keywordEach [] X.env)).all (fun x=>x.1.isSome)
   && decide ((e::es).length+([]:List Keyword).length+(if([]:List Keyword).isEmpty then 0 else 1)<30))=true:=by rfl)
  (hline:(apos.endLine==cpos.line)=true:=by rfl) (hs:starEach (e::es) X.env=(false,eval e X.env)::starEach es X.env:=by rfl) (hplain:(backTo cpos (starEach es X.env)).any (·.1)=false:=by rfl) :
  PE X (.Call (.Attribute o name apos) (e::es) [] cpos) (JH X.K T r to t):=by
 intro pins s σ H Q I h;refine wpAny_Call_method_late hbase hfew hline rfl (cx (ho pins s σ H _ I h) fun v s1 ⟨x,H1,I1,r1,ty,q1⟩=>?_)
 obtain⟨h1,h2⟩:=wZ I1 r1 ty;refine⟨T,id,pa,slot,hty,h1,h2,?_⟩;have hA:=ha cpos pins s1 σ H1 _ I1 q1;rw[hs]at hA ⊢;refine Calls.callWith_builtin (by show(false||(backTo cpos (starEach es X.env)).any (·.1))=false;rw[hplain]<;>rfl) (Calls.evalArgs_plain ?_);exact cx hA fun us s2 ⟨vs,H2,I2,r2,q2⟩=>hm pins s2 σ H2 x vs v us Q I2 r1 r2 q2
end
def Jv(X:Cx)(id:String)(r:V->List V->Hp->VK->Prop):Prop:=
 ∀(pins:List (Addr×Obj)) (s:Shared) (σ:St) (H:Hp) (x:V) (xs:List V) (v:Value) (us:List Value) (Q:VK),Inv X pins σ H s->RelV x v->Vals xs us->r x xs H Q ->
  wpAny (model X.prog X.w) X.A (call (.builtin id) (v::us)) (EP X pins σ Q) X.xe s
theorem Vals.one:∀{x:V} {us:List Value},Vals [x] us->∃u,us=[u]/\RelV x u
 |_,_,h=>by
  cases h with
  |cons r t=>
   cases t;exact⟨_,rfl,r⟩
theorem Vals.rep{xs:List V}{us:List Value}(h:Vals xs us):∀k:Nat,Vals (List.replicate k xs).flatten (List.replicate k us).flatten
 | 0=>.nil
 |k+1=>by
  rw[List.replicate_succ,List.replicate_succ,List.flatten_cons,List.flatten_cons];exact Vals.append h (Vals.rep h k)
section
variable{X:Cx}{pins:List (Addr×Obj)}{σ:St}{H:Hp}{s:Shared}{l b:Addr}{xs ys zs:List V}
theorem Inv.lset{its its':List Value}{n:Nat}{f:Array Value->Array Value}{t':Nat}(I:Inv X pins σ H s)(hH:H l=some (.lst xs))
  (e:s.heap.get? l=some { cls:=.type "list",data:=.seq its.toArray n }) (hf:f its.toArray=its'.toArray) (hv:Vals ys its') (hz:ys.length<=sizeLine) :
  Inv X pins σ (upd H l (.lst ys)) { s with heap:=s.heap.update l (Obj.mapSeq f),toks:=t' }:=by
 have q:=PySem.IsL.update e f;rw[hf]at q;refine I.write (x:=l) (e:=l) (by rw[hH];exact trivial) (.inl rfl) (fun b' u hb hu=>(Heap.get?_update_other s.heap (Obj.mapSeq f) (Ne.symm hb)).trans hu) ⟨_,q⟩ ?_
 exact⟨hz,its',_,hv,q⟩
theorem Inv.lnew{its:List Value}{t':Nat}(I:Inv X pins σ H s)(hv:Vals ys its)(hz:ys.length<=sizeLine):
  Inv X pins σ (upd H s.heap.objs.size (.lst ys)) { s with heap:=s.heap.push { cls:=.type "list",data:=.seq its.toArray },toks:=t' }:=
 I.laid (fun _ _ q=>Heap.get?_push_of_some _ q) (Nat.le_refl _) ⟨hz,its,0,hv,Heap.get?_push_size _ rfl⟩
theorem Inv.fresh(I:Inv X pins σ H s):H s.heap.objs.size=none:=I.hok.fresh (Nat.le_refl _)
theorem Inv.lstM(I:Inv X pins σ H s)(hH:H l=some (.lst xs)):xs.length<=sizeLine/\∃(its:List Value) (n:Nat),Vals xs its/\xs.length=its.length/\s.heap.get? l=some { cls:=.type "list",data:=.seq its.toArray n }:=by
 obtain⟨z,its,n,r,e⟩:=I.hok l _ hH;exact⟨z,its,n,r,r.length,e⟩
theorem ym{n:Nat}(h:n<=sizeLine):Builtin.List.listTooLong n=false:=by
 unfold Builtin.List.listTooLong;exact decide_eq_false (by omega)
end
section
variable{X:Cx}
def AC:V->List V->Hp->VK->Prop:=fun x vs H Q=>∃l xs y,x=.ref l/\vs=[y]/\H l=some (.lst xs)/\xs.length<sizeLine/\Q .non (upd H l (.lst (xs++[y])))
theorem wb:Jv X "list.append" AC:=by
 intro pins s σ H x vs v us Q I rx rv h;obtain⟨l,xs,y,rfl,rfl,hH,hz,q⟩:=h;cases rx;obtain⟨u,rfl,ru⟩:=rv.one;obtain⟨z,its,n,r,hl,e⟩:=I.lstM hH;refine call_meets F.slot_list_append ⟨_,e,rfl⟩ F.entry_list_append (F.args_list_append_2 _ _) (PySem.list_append l its.toArray n u (by rw[List.size_toArray];omega)) ⟨e,?_⟩;refine⟨.non,_,I.lset (its':=its++[u]) hH e (by simp) (r.append (.cons ru .nil)) ?_,rfl,q⟩;rw[List.length_append,List.length_singleton];omega
end
end L2
namespace Att
open PySem PySem.W PySem.Calls PyProof.Rows
theorem kD{P:Params}{h:Heap}:∀(ns:List Int) (vs:List Value),WellAll P h vs (ns.map WData.int)->IntsAre vs ns:=by
 intro ns
 induction ns with
 |nil=>
  intro vs w;rw[List.map_nil]at w;cases w;exact .nil
 |cons n ns ih=>
  intro vs w;rw[List.map_cons]at w;cases w with
  |cons a b=>
   cases a;exact .cons _ _ (ih _ b)
theorem vK{l:OpenLaw}{n:Nat}(hn:l.most=some n){P:Params}{h:Heap}{args:List WData}{vals:List Value}
  (hpre:l.row.toRowW.claim.pre args=true) (hwl:WellAll P h vals args) :
  ∃a vs ns,vals=[Value.ref a]/\args=[WData.list (ns.map WData.int)]/\h.get? a=some { cls:=.type "list",data:=.seq vs.toArray }/\IntsAre vs ns/\ns.length<=n:=by
 have hsh:WShape.hasAll [] args [.list .int]=true:=(pre_splitW hpre).1;have hc:l.pre.holds [] { args:=args }=true:=(pre_splitW hpre).2;obtain⟨d,r,rfl,h1,h2⟩:=hasAllW_cons hsh;obtain rfl:=hasAllW_nil h2;obtain⟨xs,rfl,h3⟩:=hasW_list h1;obtain⟨ns,rfl⟩:=items_int h3;have hlen:ns.length<=n:=by
  unfold OpenLaw.pre at hc;have h4:(WTm.not (.lt (.lit (.int (n:Int))) (.len (.arg 0)))).holds [] { args:=[.list (ns.map .int)] }=true:=by
   have h4:=(holds_andW hc).1;rw[hn]at h4;exact h4
  have h5:=condW_of h4 (w_not (w_lt w_lit (w_len_list (w_arg rfl))));rw[List.length_map]at h5;refine Nat.le_of_not_lt fun q=>?_
  have q':(n:Int)<((ns.length:Nat):Int):=by omega
  first
   | (rw[decide_eq_true q']at h5;exact absurd h5 (by decide))
   | (simp at h5;omega)
 cases hwl with
 |cons w1 w2=>
  cases w2;cases w1 with
  |list ho hall=>exact⟨_,_,ns,rfl,rfl,ho,kD ns _ hall,hlen⟩
theorem vP(l:OpenLaw)(args:List WData):l.row.toRowW.claim.post args (.bool true) args=true:=
 postW_of (r:=l.row.toRowW) (X:=(true==true))
  (show WShape.has [] (.bool true) .bool=true by first|rfl|decide|simp[WShape.has,WShape.arms,WShape.armsAll])
  (show(WTm.eq .res (.lit (.bool true))).value [] { args:=args,res:=some (.bool true),after:=args }=some (.bool (true==true))from w_eq_bool (w_res rfl) w_lit) rfl
theorem sk{l:OpenLaw}{n:Nat}{q:Program}{loose:List Str}{XP:(Str->Option Value)->Heap->Prop}{YP:World->Heap->Prop}{d:DefRec}
  (hn:l.most=some n) (hdf:d.params.defaults=[])
  (call:∀(w:World) (s₀ s₁:Shared) (mg mb:Str->Option Value) (fa:Addr) (o:Obj) (pm cd doc:Value) (a:Addr) (vs:List Value) (ns:List Int),
   Ground q loose [] XP w s₀ mg mb s₁.heap->YP w s₁.heap ->
   s₁.heap.get? fa=some o->o.data=.func (docDef d.name d.params d.body d.scope pm cd doc)->s₁.heap.CodeRec cd d.name->mg d.name=some (.ref fa) ->
   s₁.heap.get? a=some { cls:=.type "list",data:=.seq vs.toArray }->IntsAre vs ns->ns.length<=n->s₁.gens = #[] ->
   codeAny (model l.prog w) callerA (.call (.ref fa) ⟨[.ref a],[]⟩) (fun r s'=>r=.ok (.ret (.bool true))/\OldK s₁.heap s'.heap/\s'.os=s₁.os/\AllBare s'.gens) s₁) :
  WalkO q loose XP YP l.row.toRowW d [] (fun f vs=>PySem.call f vs):=by
 intro w s₀ s₁ mg mb G Y fa o pm cd doc dV kV ho hd hcd hD hmg hg args vals as hpre hlay hrd hwl hlo;obtain rfl:dV=.none:=Dflts.none hD hdf;obtain rfl:kV=.none:=Dflts.noKw hD;obtain⟨a,vs,ns,rfl,rfl,hobj,hints,hlen⟩:=vK hn hpre hwl;refine enter_call (codeAny_mono (call w s₀ s₁ mg mb fa o pm cd doc a vs ns G Y ho (fd_plain hd) hcd hmg hobj hints hlen hg) fun r s' hq=>?_)
 obtain⟨rfl,h2,h3,h4⟩:=hq;exact⟨.inl ⟨.bool true,.bool true,[],rfl,fun _=>rfl,.bool true,vP l _,fun _=>⟨List.Pairwise.nil,fun _ hm=>(nomatch hm)⟩⟩,h2,h3,h4⟩
section
variable{prog:Program}{w:World}{A:Around}{E:Value->Shared->Prop}{s:Shared}{K:Frag}
noncomputable def H0(h:Heap)(L d:Addr):List (Addr×Obj):=(List.range h.objs.size).filterMap fun a=>if a=L\/a=d then none else(h.get? a).map fun o=>(a,o)
end
end Att
namespace L2
open PySem PySem.Spec PyProof.Rows
theorem g6:∀{vs:List Value} {ns:List Int},IntsAre vs ns->Vals (ns.map V.int) vs
 |_,_,.nil=>.nil
 |_,_,.cons n t h=>.cons ⟨t,rfl⟩ (g6 h)
def EE(H:Hp):Prop:=∀b,H b=none\/∃o xs,H b=some (.frz o (.lst xs))
theorem yD{P:Program}{w:World}{K:PySem.W.Frag}{mg mb:Str->Option Value}{CX:vw}{k:Nat}{fa a:Addr}{fd:FuncData}{x:Str}{sp:Sp}{s₁:Shared}{vs:List Value}{ns:List Int}
  (KX:K.In s₁.heap) (hns:s₁.heap.Ns mainGlobals mg) (hb:s₁.heap.Ns builtinsNs mb) (hbb:∀x:Str,x ≠ "__name__" -> mb x=bootBuiltins x) (hlim:s₁.heap.NoLimit) (hg:s₁.gens = #[])
  (ha:s₁.heap.get? a=some { cls:=.type "list",data:=.seq vs.toArray }) (hi:IntsAre vs ns) (hl:ns.length<=sizeLine) (hr:Room k callerA)
  (F:∀base:Heap,K.In base->base.Ns mainGlobals mg->FnOk P w K mg base CX k fa fd [x] sp) (hbind:∀(s:Shared) (u:Value),BindsTo s fd ⟨[u],[]⟩ [(x,u)])
  (hsp:∀H:Hp,EE H->SqL K H a (ns.map V.int)->sp [.ref a] H (fun v _=>v=.bl true) fun _ _ _=>False)
  (hCX:∀H e s',CX [] H s₁ (fun _ _ _=>False) e s'->False) :
  codeAny (model P w) callerA (.call (.ref fa) ⟨[.ref a],[]⟩) (fun r s'=>r=.ok (.ret (.bool true))/\OldK s₁.heap s'.heap/\s'.os=s₁.os/\AllBare s'.gens) s₁:=by
 have rv:=g6 hi;have lenV:=hi.length;have core:∀H:Hp,EE H->SqL K H a (ns.map V.int)->HOk P w H s₁.heap->(∀b,H b≠none->b=a)->(H a≠none->K.lookup a=none) ->
   codeAny (model P w) callerA (.call (.ref fa) ⟨[.ref a],[]⟩) (fun r s'=>r=.ok (.ret (.bool true))/\OldK s₁.heap s'.heap/\s'.os=s₁.os/\AllBare s'.gens) s₁:=by
  intro H hO hS hok hA hK;have base_of:∀{b:Addr} {o:Obj},s₁.heap.get? b=some o->H b=none->(pM s₁.heap H).get? b=some o:=fun e n=>yU e n
  have noA:∀{b:Addr} {o:Obj} {es:Array DictEntry} {ep:Nat},s₁.heap.get? b=some o->o.data=.dict es ep->H b=none:=fun{b o es ep} e d=>by
   cases q:H b with
   |none=>rfl
   |some u=>
    have e':b=a:=hA b (by rw[q];simp);subst e';rw[ha]at e;cases e;have d':Data.seq vs.toArray _=Data.dict es ep:=d;cases d'
  have nsK:∀{b:Addr} {m:Str->Option Value},s₁.heap.Ns b m->(pM s₁.heap H).Ns b m:=fun{b m} ⟨o,es,ep,e,d,r⟩=>⟨o,es,ep,base_of e (noA e d),d,r⟩
  have hKb:K.In (pM s₁.heap H):=fun b o e=>base_of (KX b o e) (by
   cases q:H b with
   |none=>rfl
   |some u=>
    have e':b=a:=hA b (by rw[q];simp);subst e';rw[hK (by rw[q];simp)]at e;cases e)
  have hM:Mod K mg (pM s₁.heap H):=⟨hKb,nsK hns,⟨mb,nsK hb,hbb⟩,let ⟨mc,h1,h2⟩:=hlim; ⟨mc,nsK h1,h2⟩⟩;have e0:Env0 P w K mg (pM s₁.heap H) callerA [] s₁ H:=⟨rfl,hM,fun b o e=>A1 e,Nat.le_of_eq (wz _ _),trivial,fun b hb=>absurd (show b∈([]:List Addr)from hb) (by simp),hok,.of_eq hg⟩
  refine codeAny_mono ((F _ hKb (nsK hns)).run callerA [] s₁ H ⟨[.ref a],[]⟩ [.ref a] [.ref a] _ _ hr e0 (hbind s₁ (.ref a)) (.cons rfl .nil) (hsp H hO hS)) fun r s' h=>?_
  cases r with
  |error e=>exact(hCX H e s' h).elim
  |ok fl=>
   cases fl with
   |next=>exact False.elim h
   |brk=>exact False.elim h
   |cont=>exact False.elim h
   |ret u=>
    obtain⟨v,H',os,bare,un,hok',r',q⟩:=h;have q':v=.bl true:=q;subst q';obtain rfl:u=Value.bool true:=r';refine⟨rfl,OldK.of_keep fun b o e=>?_,os,bare⟩
    cases q:H b with
    |none=>exact un.keep b o e q (by intro z;exact absurd (show b∈([]:List Addr)from z) (by simp)) (by simp)
    |some u=>
     rcases hO b with z|⟨ob,xs,z⟩
     ·rw[q]at z;cases z
     ·have z2:=un.frzs b ob _ z
      obtain⟨e1,_⟩:=hok b _ z;obtain⟨e2,_⟩:=hok' b _ z2;rw[e]at e1;cases e1;exact e2
 cases hk:K.lookup a with
 |some o=>
  have e:=KX a o hk;rw[ha]at e;cases e;refine core (fun _=>none) (fun _=>.inl rfl) (.inr ⟨_,vs.toArray,_,hk,rfl,rfl,rfl,by rw[List.size_toArray,lenV];exact hl,by simpa using rv⟩) (fun b u z=>by have z':(none:Option HO)=some u:=z;cases z') (fun b z=>absurd rfl z) fun z=>absurd rfl z
 |none=>
  refine core (fun b=>if b=a then some (.frz { cls:=.type "list",data:=.seq vs.toArray } (.lst (ns.map V.int)))else none) (fun b=>?_) (.inl (.inr ⟨{ cls:=.type "list",data:=.seq vs.toArray },if_pos rfl⟩)) (fun b u z=>?_) (fun b z=>?_) fun _=>hk
  ·by_cases hb:b=a
   ·exact .inr ⟨_,_,if_pos hb⟩
   ·exact .inl (if_neg hb)
  ·by_cases hb:b=a
   ·have z':=(if_pos hb).symm.trans z
    cases z';subst hb;exact⟨ha,by rw[List.length_map];exact hl,vs,_,rv,ha⟩
   ·have z':=(if_neg hb).symm.trans z
    cases z'
  ·by_cases hb:b=a
   ·exact hb
   ·exact absurd (if_neg hb) z
abbrev Kf{K:PySem.W.Frag}{h:Heap}(_:K.In h):PySem.W.Frag:=K
theorem Al{l:PySem.W.OpenLaw}{n k:Nat}{q:Program}{loose:List Str}{XP:(Str->Option Value)->Heap->Prop}{YP:World->Heap->Prop}{d:DefRec}{K:Params->PySem.W.Frag}{CX:World->vw}{sp:World->Sp}{x:Str}
  (hn:l.most=some n) (hn2:n<=sizeLine) (hdf:d.params.defaults=[]) (hr:Room k callerA)
  (hY:∀(w:World) (h:Heap),YP w h->(K w.params).In h)
  (F:∀(w:World) (mg:Str->Option Value) (fa:Addr) (h:Heap),(K w.params).In h->h.Ns mainGlobals mg->mg d.name=some (.ref fa) ->
   ∃fd:FuncData,(∀(s:Shared) (u:Value),BindsTo s fd ⟨[u],[]⟩ [(x,u)]) /\
    ∀base:Heap,(K w.params).In base->base.Ns mainGlobals mg->FnOk l.prog w (K w.params) mg base (CX w) k fa fd [x] (sp w))
  (hsp:∀(w:World) (H:Hp) (a:Addr) (ns:List Int),ns.length<=n->EE H->SqL (K w.params) H a (ns.map V.int)->sp w [.ref a] H (fun v _=>v=.bl true) fun _ _ _=>False)
  (hCX:∀(w:World) (H:Hp) (s:Shared) (e:Value) (s':Shared),CX w [] H s (fun _ _ _=>False) e s'->False) :
  PySem.W.WalkO q loose XP YP l.row.toRowW d [] (fun f vs=>PySem.call f vs):=by
 refine Att.sk hn hdf fun w s₀ s₁ mg mb fa o pm cd doc a vs ns G Y ho hd hcd hmg hobj hints hlen hg=>?_
 have KX:=hY w _ Y;obtain⟨fd,hb,hF⟩:=F w mg fa _ KX G.T.g hmg;exact yD KX G.T.g G.T.b G.T.builtins G.T.nolimit hg hobj hints (Nat.le_trans hlen hn2) hr hF hb (fun H hO hS=>hsp w H a ns hlen hO hS) fun H e s'=>hCX w H s₁ e s'
noncomputable def bS(s:Stmt):Arguments:=match s with
 |.FunctionDef _ a _ _ _ _ _ _ _ _=>a
 |_=>{ posonlyargs:=[],args:=[],vararg:=none,kwonlyargs:=[],kw_defaults:=[],kwarg:=none,defaults:=[] }
noncomputable def bE(s:Stmt):List Stmt:=match s with
 |.FunctionDef _ _ b _ _ _ _ _ _ _=>b
 |_=>[]
noncomputable def ag(s:Stmt):Scope:=match s with
 |.FunctionDef _ _ _ _ _ _ sc _ _ _=>sc
 |_=>{ kind:=.function,names:=[],isGenerator:=false,isCoroutine:=false }
abbrev dy:vw:=fun _ _ _ _ _ _=>False
abbrev E0:XK:=fun _ _ _=>False
theorem Cq{X:Cx}:qk dy X E0:=fun _ _ _ _ _ _ _ h=>h.elim
def Same(H H':Hp):Prop:=∀b o,H b=some o->H' b=some o
theorem Same.refl(H:Hp):Same H H:=fun _ _ h=>h
theorem Same.trans{H H1 H2:Hp}(a:Same H H1)(b:Same H1 H2):Same H H2:=fun c o h=>b c o (a c o h)
end L2
set_option maxHeartbeats 4000000
namespace VL
open PySem L2
abbrev D:=PyData
inductive Oc where
 |l (ds:List D)|d (es:List (bb×D))
inductive Sl where
 |un|fz (d:D)|own (c:Oc)|fr (ds:List D)
abbrev Sl.ow(ds:List D):Sl:=.own (.l ds)
abbrev Sl.od(es:List (bb×D)):Sl:=.own (.d es)
noncomputable def mf:bb->D
 |.inl i=>.int i
 |.inr x=>.str x
noncomputable def Ih(n:Str)(ds:List (Str×D)):List (D×D):=(.str "ins",.str n)::ds.map fun q=>(.str q.1,q.2)
noncomputable def Ep(es:List (bb×Int)):List (D×D):=es.map fun p=>(mf p.1,.int p.2)
abbrev Dv:=List Sl
inductive Fl where
 |nx|bk|ct|rt (d:D)
abbrev Sf:=Dv->Option (Fl×Dv)
@[simp] noncomputable def o2(f1 f2:Dv->Option D)(g:D->D->Option D):Dv->Option D:=fun δ=>(f1 δ).bind fun x=>(f2 δ).bind fun y=>g x y
@[simp] noncomputable def o1(f:Dv->Option D)(g:D->Option D):Dv->Option D:=fun δ=>(f δ).bind g
@[simp] noncomputable def os(f:Dv->Option (List D))(g:List D->Option D):Dv->Option D:=fun δ=>(f δ).bind g
noncomputable def asB:D->Option Bool
 |.bool b=>some b
 |_=>none
@[simp] theorem zD(b:Bool):asB (.bool b)=some b:=rfl
@[simp] noncomputable def ob(f:Dv->Option D):Dv->Option Bool:=fun δ=>(f δ).bind asB
@[simp] noncomputable def pD(t u:Dv->Option Bool):Dv->Option Bool:=fun δ=>(t δ).bind fun b=>if b=true then u δ else some false
@[simp] noncomputable def uL(t u:Dv->Option Bool):Dv->Option Bool:=fun δ=>(t δ).bind fun b=>if b=true then some true else u δ
@[simp] noncomputable def sX(t:Dv->Option Bool):Dv->Option Bool:=fun δ=>(t δ).map (!·)
@[simp] noncomputable def Jj(f1 f2:Dv->Option D):Dv->Option D:=fun δ=>(f1 δ).bind fun x=>(asB x).bind fun b=>if b=true then f2 δ else some (.bool false)
@[simp] noncomputable def JO(f1 f2:Dv->Option D):Dv->Option D:=fun δ=>(f1 δ).bind fun x=>(asB x).bind fun b=>if b=true then some (.bool true)else f2 δ
@[simp] noncomputable def JY(d:D):Option D:=(asB d).map fun b=>.bool (!b)
@[simp] noncomputable def Ct(t:Dv->Option Bool)(f1 f2:Dv->Option D):Dv->Option D:=fun δ=>(t δ).bind fun b=>if b=true then f1 δ else f2 δ
noncomputable def HE:Option Sl->Option D
 |some (.fz d)=>some d
 |some (.fr ds)=>some (.list ds)
 |_=>none
@[simp] theorem HD(ds:List D):HE (some (.fr ds))=some (.list ds):=rfl
@[simp] theorem HC(d:D):HE (some (.fz d))=some d:=rfl
@[simp] noncomputable def oV(i:Nat):Dv->Option D:=fun δ=>HE δ[i]?
@[simp] noncomputable def oC(d:D):Dv->Option D:=fun _=>some d
@[simp] noncomputable def ak:Dv->Option (List D):=fun _=>some []
@[simp] noncomputable def ac(f:Dv->Option D)(fs:Dv->Option (List D)):Dv->Option (List D):=fun δ=>(f δ).bind fun x=>(fs δ).bind fun xs=>some (x::xs)
noncomputable def bj(ds:List D):Option D:=if ds.length<=sizeLine then some (.tuple ds)else none
noncomputable def kC(ds:List D):Option D:=if ds.length<=sizeLine then some (.list ds)else none
theorem g7{ds:List D}(h:ds.length<=16777216):bj ds=some (.tuple ds):=if_pos h
theorem pF{ds:List D}(h:ds.length<=16777216):kC ds=some (.list ds):=if_pos h
@[simp] theorem Jc:bj []=some (.tuple []):=rfl
@[simp] theorem Jb(a:D):bj [a]=some (.tuple [a]):=g7 (by simp)
@[simp] theorem Ja(a b:D):bj [a,b]=some (.tuple [a,b]):=g7 (by simp)
@[simp] theorem I0(a b c:D):bj [a,b,c]=some (.tuple [a,b,c]):=g7 (by simp)
@[simp] theorem IZ(a b c d:D):bj [a,b,c,d]=some (.tuple [a,b,c,d]):=g7 (by simp)
@[simp] theorem IY(a b c d e:D):bj [a,b,c,d,e]=some (.tuple [a,b,c,d,e]):=g7 (by simp)
@[simp] theorem IX(a b c d e f g h:D):bj [a,b,c,d,e,f,g,h]=some (.tuple [a,b,c,d,e,f,g,h]):=g7 (by simp)
@[simp] theorem Jn:kC []=some (.list []):=rfl
@[simp] theorem Jm(a:D):kC [a]=some (.list [a]):=pF (by simp)
@[simp] theorem Jl(a b:D):kC [a,b]=some (.list [a,b]):=pF (by simp)
@[simp] theorem Jk(a b c d e:D):kC [a,b,c,d,e]=some (.list [a,b,c,d,e]):=pF (by simp)
instance (i j:Int):Decidable (IntMulOk i j):=by unfold IntMulOk;infer_instance
noncomputable def iI(g:Int->Int->Int):D->D->Option D
 |.int i,.int j=>some (.int (g i j))
 |_,_=>none
noncomputable def iC(C:Int->Int->Bool)(g:Int->Int->Int):D->D->Option D
 |.int i,.int j=>if C i j=true then some (.int (g i j))else none
 |_,_=>none
noncomputable def iB(g:Int->Int->Bool):D->D->Option D
 |.int i,.int j=>some (.bool (g i j))
 |_,_=>none
@[simp] theorem Ik(g:Int->Int->Int)(i j:Int):iI g (.int i) (.int j)=some (.int (g i j)):=rfl
@[simp] theorem Il(g:Int->Int->Bool)(i j:Int):iB g (.int i) (.int j)=some (.bool (g i j)):=rfl
theorem mm{C:Int->Int->Bool}{g:Int->Int->Int}{i j:Int}(h:C i j=true):iC C g (.int i) (.int j)=some (.int (g i j)):=if_pos h
noncomputable def ID(i j:Int):Bool:=decide (IntMulOk i j)
noncomputable def IF(i j:Int):Bool:=decide (0<j/\j<1073741824)
noncomputable def IE(i j:Int):Bool:=decide (0<j)
noncomputable def IC(i j:Int):Bool:=decide (0<=j/\(Builtin.Int.intBits i:Int)+j<=2^27)
noncomputable def IB(i j:Int):Bool:=decide (0<=j)
abbrev cM:=iI fun i j=>i-j
abbrev dW:=iC ID fun i j=>i*j
abbrev gg:=iC IF fun i j=>i/j
abbrev b5:=iC IE fun i j=>i%j
abbrev dZ:=iC IC fun i j=>i*2^j.toNat
abbrev jF:=iC IB fun i j=>i/2^j.toNat
abbrev uc:=iI Builtin.bitAnd
abbrev zK:=iI Builtin.bitOr
abbrev wT:=iI Builtin.bitXor
abbrev sA:=iB fun i j=>decide (i<j)
abbrev G9:=iB fun i j=>decide (j<i)
@[simp] theorem qY{i j:Int}(h:IntMulOk i j):dW (.int i) (.int j)=some (.int (i*j)):=mm (decide_eq_true h)
@[simp] theorem GF{i j:Int}(h:0<j)(h2:j<1073741824):gg (.int i) (.int j)=some (.int (i/j)):=mm (decide_eq_true ⟨h,h2⟩)
@[simp] theorem fO{i j:Int}(h:0<j):b5 (.int i) (.int j)=some (.int (i%j)):=mm (decide_eq_true h)
theorem iX{i j:Int}(h:0<=j)(h2:(Builtin.Int.intBits i:Int)+j<=2^27):dZ (.int i) (.int j)=some (.int (i*2^j.toNat)):=mm (decide_eq_true ⟨h,h2⟩)
@[simp] theorem xx{i j:Int}(h:0<=j):jF (.int i) (.int j)=some (.int (i/2^j.toNat)):=mm (decide_eq_true h)
noncomputable def negD:D->Option D
 |.int i=>some (.int (-i))
 |_=>none
@[simp] theorem FY(i:Int):negD (.int i)=some (.int (-i)):=rfl
noncomputable def b8:D->D->Option D
 |.int i,.int j=>some (.int (i+j))
 |.str x,.str y=>if x.length+y.length<=sizeLine then some (.str (x++y))else none
 |.list xs,.list ys=>if xs.length+ys.length<=sizeLine then some (.list (xs++ys))else none
 |.tuple xs,.tuple ys=>if xs.length+ys.length<=sizeLine then some (.tuple (xs++ys))else none
 |_,_=>none
@[simp] theorem GO(i j:Int):b8 (.int i) (.int j)=some (.int (i+j)):=rfl
theorem wM{xs ys:List D}(h:xs.length+ys.length<=16777216):b8 (.list xs) (.list ys)=some (.list (xs++ys)):=if_pos h
theorem sr{xs ys:List D}(h:xs.length+ys.length<=16777216):b8 (.tuple xs) (.tuple ys)=some (.tuple (xs++ys)):=if_pos h
noncomputable def vF(d:D):Bool:=PySem.SeqAt.shaped d
noncomputable def bw:D->D->Option D:=fun a b=>if vF a=true/\vF b=true then some (.bool (PyData.eqv a b))else none
noncomputable def neD:D->D->Option D:=fun a b=>if vF a=true/\vF b=true then some (.bool (!PyData.eqv a b))else none
@[simp] theorem BR(i j:Int):bw (.int i) (.int j)=some (.bool (i==j)):=rfl
@[simp] theorem GZ(i j:Int):neD (.int i) (.int j)=some (.bool (!(i==j))):=rfl
@[simp] theorem GC(i j:Bool):bw (.bool i) (.bool j)=some (.bool (i==j)):=rfl
@[simp] theorem FZ(i j:Bool):neD (.bool i) (.bool j)=some (.bool (!(i==j))):=rfl
noncomputable def kR(d:D):Bool:=match d with
 |.none=>true
 |_=>false
noncomputable def J0:D->D->Option D:=fun a b=>match b with
 |.none=>some (.bool (kR a))
 |_=>none
noncomputable def Gc:D->D->Option D:=fun a b=>match b with
 |.none=>some (.bool (!kR a))
 |_=>none
@[simp] theorem Gf(a:D):J0 a .none=some (.bool (kR a)):=rfl
@[simp] theorem Ef(a:D):Gc a .none=some (.bool (!kR a)):=rfl
@[simp] theorem Gd:kR .none=true:=rfl
@[simp] theorem G3(i:Int):kR (.int i)=false:=rfl
noncomputable def aB:D->D->Option D
 |.list xs,.int i=>ip xs i
 |.tuple xs,.int i=>ip xs i
 |_,_=>none
@[simp] theorem Ga(xs:List D)(i:Int):aB (.list xs) (.int i)=ip xs i:=rfl
@[simp] theorem EM(xs:List D)(i:Int):aB (.tuple xs) (.int i)=ip xs i:=rfl
theorem d7{α:Type}{xs:List α}{i:Int}{j:Nat}{v:α}(hi:i=j)(h:xs[j]? = some v):ip xs i=some v:=by
 have hl:j<xs.length:=(List.getElem?_eq_some_iff.mp h).1;subst hi;unfold ip Ec;rw[if_pos (by omega),if_pos (by omega)];simpa using h
@[simp] theorem at0{α:Type}(a:α)(r:List α):ip (a::r) 0=some a:=d7 (j:=0) rfl rfl
@[simp] theorem zB{α:Type}(a b:α)(r:List α):ip (a::b::r) 1=some b:=d7 (j:=1) rfl rfl
@[simp] theorem IJ{α:Type}(a b c:α)(r:List α):ip (a::b::c::r) 2=some c:=d7 (j:=2) rfl rfl
@[simp] theorem J4{α:Type}(a b c d:α)(r:List α):ip (a::b::c::d::r) 3=some d:=d7 (j:=3) rfl rfl
@[simp] theorem J3{α:Type}(a b c d e:α)(r:List α):ip (a::b::c::d::e::r) 4=some e:=d7 (j:=4) rfl rfl
@[simp] theorem Ke{α:Type}(a b c d e f:α)(r:List α):ip (a::b::c::d::e::f::r) 5=some f:=d7 (j:=5) rfl rfl
@[simp] theorem Kd{α:Type}(a b c d e f g:α)(r:List α):ip (a::b::c::d::e::f::g::r) 6=some g:=d7 (j:=6) rfl rfl
@[simp] theorem Kc{α:Type}(a b c d e f g h:α)(r:List α):ip (a::b::c::d::e::f::g::h::r) 7=some h:=d7 (j:=7) rfl rfl
noncomputable def eV:List D->Option D
 |[.list xs]=>some (.int xs.length)
 |[.tuple xs]=>some (.int xs.length)
 |_=>none
@[simp] theorem EK(xs:List D):eV [.list xs]=some (.int xs.length):=rfl
@[simp] theorem DT(xs:List D):eV [.tuple xs]=some (.int xs.length):=rfl
noncomputable def Ba:List D->Option D
 |[.int i,.int j]=>some (.int (if j<i then j else i))
 |_=>none
noncomputable def ng:List D->Option D
 |[.int i,.int j]=>some (.int (if j>i then j else i))
 |_=>none
@[simp] theorem F1(i j:Int):Ba [.int i,.int j]=some (.int (if j<i then j else i)):=rfl
@[simp] theorem bT(i j:Int):ng [.int i,.int j]=some (.int (if j>i then j else i)):=rfl
noncomputable def yS:List D->Option D
 |[.int i]=>some (.int i)
 |[.bool b]=>some (.int (if b then 1 else 0))
 |_=>none
@[simp] theorem Gn(i:Int):yS [.int i]=some (.int i):=rfl
@[simp] theorem ES(b:Bool):yS [.bool b]=some (.int (if b then 1 else 0)):=rfl
noncomputable def CA:List D->Option D
 |[.list xs]=>some (.list xs)
 |[.tuple xs]=>some (.list xs)
 |_=>none
@[simp] theorem DS(xs:List D):CA [.list xs]=some (.list xs):=rfl
@[simp] theorem Cz(xs:List D):CA [.tuple xs]=some (.list xs):=rfl
noncomputable def dg:List D->Option D
 |[.list xs]=>some (.tuple xs)
 |[.tuple xs]=>some (.tuple xs)
 |_=>none
@[simp] theorem Ch(xs:List D):dg [.list xs]=some (.tuple xs):=rfl
@[simp] theorem Ap(xs:List D):dg [.tuple xs]=some (.tuple xs):=rfl
noncomputable def ju:D->Option D
 |.int i=>some (.int (Builtin.Int.intBits i))
 |_=>none
@[simp] theorem oy(i:Int):ju (.int i)=some (.int (Builtin.Int.intBits i)):=rfl
noncomputable def Jz:D->String
 |.none=>"NoneType"
 |.bool _=>"bool"
 |.int _=>"int"
 |.str _=>"str"
 |.list _=>"list"
 |.tuple _=>"tuple"
 |.dict _=>"dict"
noncomputable def Ig(t T:String):Bool:=t==T||(t == "bool" && T == "int")
noncomputable def Ge:D->Bool
 |.dict _=>true
 |_=>false
noncomputable def wq(T:String)(d:D):Option D:=if Ge d=true then none else if T = "int" \/ T = "bool" \/ T = "str" \/ T = "list" \/ T = "tuple" then some (.bool (Ig (Jz d) T))else none
@[simp] theorem CL(i:Int):wq "int" (.int i)=some (.bool true):=rfl
@[simp] theorem BA(i:Int):wq "bool" (.int i)=some (.bool false):=rfl
@[simp] theorem Bz(i:Bool):wq "int" (.bool i)=some (.bool true):=rfl
@[simp] theorem Ab(i:Bool):wq "bool" (.bool i)=some (.bool true):=rfl
@[simp] theorem wR(xs:List D):wq "tuple" (.tuple xs)=some (.bool true):=rfl
@[simp] theorem Aa(xs:List D):wq "list" (.list xs)=some (.bool true):=rfl
@[simp] noncomputable def aY(f:Dv->Option D):Sf:=fun δ=>(f δ).bind fun d=>some (.rt d,δ)
@[simp] noncomputable def aU(i:Nat)(f:Dv->Option D):Sf:=fun δ=>(f δ).bind fun d=>some (.nx,δ.set i (.fz d))
@[simp] noncomputable def Jg(f:Dv->Option D):Sf:=fun δ=>(f δ).bind fun _=>some (.nx,δ)
@[simp] noncomputable def kg:Sf:=fun δ=>some (.nx,δ)
@[simp] noncomputable def J9:Sf:=fun δ=>some (.bk,δ)
@[simp] noncomputable def J8:Sf:=fun δ=>some (.ct,δ)
@[simp] noncomputable def ap(s t:Sf):Sf:=fun δ=>(s δ).bind fun r=>match r with
 | (.nx,δ')=>t δ'
 |r=>some r
@[simp] noncomputable def cw(t:Dv->Option Bool)(u w:Sf):Sf:=fun δ=>(t δ).bind fun c=>if c=true then u δ else w δ
noncomputable def wS(i:Nat)(δ:Dv):Dv:=match δ[i]? with
 |some (.own (.l ds))=>δ.set i (.fz (.list ds))
 |_=>δ
@[simp] noncomputable def gN(i:Nat):D->Dv->Option Dv:=fun d δ=>some (δ.set i (.fz d))
noncomputable def loop(g:D->Dv->Option Dv)(b:Sf):List D->Sf
 |[],δ=>some (.nx,δ)
 |d::ds,δ=>(g d δ).bind fun δ1=>(b δ1).bind fun r=>match r with
  | (.nx,δ2)=>loop g b ds δ2
  | (.ct,δ2)=>loop g b ds δ2
  | (.bk,δ2)=>some (.nx,δ2)
  | (.rt x,δ2)=>some (.rt x,δ2)
@[simp] theorem F4(g:D->Dv->Option Dv)(b:Sf)(δ:Dv):loop g b [] δ = some (.nx,δ):=rfl
@[simp] noncomputable def o6(f:Dv->Option (List D))(g:D->Dv->Option Dv)(b:Sf):Sf:=fun δ=>(f δ).bind fun ds=>loop g b ds δ
noncomputable def qP(lo:Int)(n:Nat):List D:=(List.range n).map fun k=>.int (lo+(k:Nat))
noncomputable def da:List D->Option (List D)
 |[.int j]=>if j<2^62 /\ -(2^62)<=j then some (qP 0 j.toNat)else none
 |_=>none
theorem nP{j:Int}(h:j<4611686018427387904)(h2:-4611686018427387904<=j):da [.int j]=some (qP 0 j.toNat):=if_pos ⟨h,h2⟩
@[simp] noncomputable def oL(fs:Dv->Option (List D))(g:List D->Option (List D)):Dv->Option (List D):=fun δ=>(fs δ).bind g
noncomputable def df:D->Option (List D)
 |.list xs=>some xs
 |.tuple xs=>some xs
 |_=>none
@[simp] theorem EN(xs:List D):df (.list xs)=some xs:=rfl
@[simp] theorem Ee(xs:List D):df (.tuple xs)=some xs:=rfl
noncomputable def DR:D->Option (List D)
 |.list xs=>some xs
 |_=>none
noncomputable def Hj:D->Option (List D)
 |.tuple xs=>some xs
 |_=>none
@[simp] noncomputable def oI(f:Dv->Option D)(g:D->Option (List D)):Dv->Option (List D):=fun δ=>(f δ).bind g
@[simp] noncomputable def GY:Dv->Option (Option Int):=fun _=>some none
noncomputable def asI:D->Option (Option Int)
 |.int i=>some (some i)
 |_=>none
@[simp] theorem Hc(i:Int):asI (.int i)=some (some i):=rfl
@[simp] noncomputable def oP(f:Dv->Option D):Dv->Option (Option Int):=fun δ=>(f δ).bind asI
noncomputable def nq(xs:List D)(lo hi:Option Int):List D:=(xs.drop (HT.sIx xs.length 0 lo)).take (HT.sIx xs.length xs.length hi-HT.sIx xs.length 0 lo)
noncomputable def EH:D->Option Int->Option Int->Option D
 |.list xs,lo,hi=>some (.list (nq xs lo hi))
 |.tuple xs,lo,hi=>some (.tuple (nq xs lo hi))
 |_,_,_=>none
@[simp] noncomputable def FQ(f:Dv->Option D)(l u:Dv->Option (Option Int)):Dv->Option D:=fun δ=>(f δ).bind fun x=>(l δ).bind fun i=>(u δ).bind fun j=>EH x i j
noncomputable def aq(N:List Str)(as:List D):Dv:=as.map .fz++List.replicate (N.length-as.length) .un
noncomputable def aD(N:List Str)(n:Nat)(b:Sf):List D->Option D:=fun as=>if as.length=n then(b (aq N as)).bind fun r=>match r with
  | (.rt d,_)=>some d
  | (.nx,_)=>some .none
  |_=>none
 else none
end VL
namespace VL
open PySem PySem.Spec PyProof.Rows L2
abbrev Fg:=PySem.W.Frag
abbrev St:=L2.St
noncomputable def Iy(a C:Addr):HO:=.ext fun h=>∃o,h.get? a=some o/\o.cls=.ref C/\∃vs,o.data=.fields vs/\vs[2]? = some .none
theorem Rd.same{H H':Hp}{a:Addr}{u:HO}(h:Rd H a u)(s:Same H H'):Rd H' a u:=by
 rcases h with h|⟨o,h⟩
 ·exact .inl (s _ _ h)
 ·exact .inr ⟨o,s _ _ h⟩
inductive FI (K:Fg) (Z:Hp):V->D->Prop
 |int (i:Int):FI K Z (.int i) (.int i)
 |pair {b:Addr} {i j:Int}:SqT K Z b [.int i,.int j]->FI K Z (.ref b) (.tuple [.int i,.int j])
inductive FF (K:Fg) (Z:Hp):V->D->Prop
 |int (i:Int):FF K Z (.int i) (.int i)
 |lst {b:Addr} {xs:List V} {ds:List D}:Z b=some (.lst xs)->Paired (FI K Z) xs ds->FF K Z (.ref b) (.list ds)
inductive Opq (K:Fg) (Z:Hp) (a:Addr):List (D×D)->Prop
 |exc {n:Str} {C:Addr}:PySem.W.nsIn K mainGlobals n=some (some (.ref C))->Rd Z a (Iy a C)->Opq K Z a [(.str "exc",.str n)]
 |fn {n:Str}:PySem.W.nsIn K mainGlobals n=some (some (.ref a))->Opq K Z a [(.str "fn",.str n)]
 |ins {n:Str} {C dx:Addr} {fs:List (Str×V)} {ds:List (Str×D)}:PySem.W.nsIn K mainGlobals n=some (some (.ref C))->Z a=some (.ins C dx fs)->Paired (fun(p:Str×V) (q:Str×D)=>p.1=q.1/\FF K Z p.2 q.2) fs ds->Opq K Z a (Ih n ds)
 |dct {kvs:List (D×D)} {es:List (bb×Int)}:kvs=Ep es->Z a=some (.dK (es.map fun p=>(p.1,V.int p.2)))->Opq K Z a kvs
theorem BT{es:List (bb×Int)}{a:D}{x:Str}{r:List (D×D)}(h:(a,PyData.str x)::r=Ep es):False:=by
 cases es with
 |nil=>cases h
 |cons e es=>simp[Ep]at h
theorem SqT.same{K:Fg}{H H':Hp}{a:Addr}{xs:List V}(h:SqT K H a xs)(s:Same H H'):SqT K H' a xs:=by
 rcases h with h|h
 ·exact .inl (Rd.same h s)
 ·exact .inr h
theorem FI.same{K:Fg}{Z Z':Hp}(s:Same Z Z'){v:V}{d:D}(h:FI K Z v d):FI K Z' v d:=by
 cases h with
 |int i=>exact .int i
 |pair q=>exact .pair (SqT.same q s)
theorem FF.same{K:Fg}{Z Z':Hp}(s:Same Z Z'){v:V}{d:D}(h:FF K Z v d):FF K Z' v d:=by
 cases h with
 |int i=>exact .int i
 |lst q r=>exact .lst (s _ _ q) (Paired.mapP r fun _ _=>FI.same s)
theorem Opq.same{K:Fg}{Z Z':Hp}{a:Addr}{kvs:List (D×D)}(s:Same Z Z')(h:Opq K Z a kvs):Opq K Z' a kvs:=by
 cases h with
 |exc h1 h2=>exact .exc h1 (Rd.same h2 s)
 |fn h1=>exact .fn h1
 |ins h1 h2 h3=>exact .ins h1 (s _ _ h2) (Paired.mapP h3 fun _ _ q=>⟨q.1,q.2.same s⟩)
 |dct h1 h2=>exact .dct h1 (s _ _ h2)
mutual
inductive Rep (K:Fg) (Z:Hp):V->D->Prop
 |non:Rep K Z .non .none
 |bl (b:Bool):Rep K Z (.bl b) (.bool b)
 |int (i:Int):Rep K Z (.int i) (.int i)
 |str (x:Str):Rep K Z (.str x) (.str x)
 |tup {a:Addr} {xs:List V} {ds:List D}:SqT K Z a xs->Reps K Z xs ds->Rep K Z (.ref a) (.tuple ds)
 |lst {a:Addr} {xs:List V} {ds:List D}:SqL K Z a xs->Reps K Z xs ds->Rep K Z (.ref a) (.list ds)
 |opq {a:Addr} {kvs:List (D×D)}:Opq K Z a kvs->Rep K Z (.ref a) (.dict kvs)
 |gdc {a:Addr} {kvs:List (bb×V)} {es:List (bb×D)} {l:List (D×D)}:Z a=some (.dK kvs)->es.map (·.1)=kvs.map (·.1)->Reps K Z (kvs.map (·.2)) (es.map (·.2))->l=es.map (fun p=>(mf p.1,p.2))->Rep K Z (.ref a) (.dict ((.none,.none)::l))
inductive Reps (K:Fg) (Z:Hp):List V->List D->Prop
 |nil:Reps K Z [] []
 |cons {v:V} {d:D} {vs:List V} {ds:List D}:Rep K Z v d->Reps K Z vs ds->Reps K Z (v::vs) (d::ds)
end
theorem SqL.same{K:Fg}{H H':Hp}{a:Addr}{xs:List V}(h:SqL K H a xs)(s:Same H H'):SqL K H' a xs:=by
 rcases h with h|h
 ·exact .inl (Rd.same h s)
 ·exact .inr h
mutual
theorem Rep.same{K:Fg}{Z Z':Hp}(s:Same Z Z'):∀{v:V} {d:D},Rep K Z v d->Rep K Z' v d
 |_,_,.non=>.non
 |_,_,.bl b=>.bl b
 |_,_,.int i=>.int i
 |_,_,.str x=>.str x
 |_,_,.tup h r=>.tup (SqT.same h s) (Reps.same s r)
 |_,_,.lst h r=>.lst (SqL.same h s) (Reps.same s r)
 |_,_,.opq h=>.opq (Opq.same s h)
 |_,_,.gdc h k r e=>.gdc (s _ _ h) k (Reps.same s r) e
theorem Reps.same{K:Fg}{Z Z':Hp}(s:Same Z Z'):∀{vs:List V} {ds:List D},Reps K Z vs ds->Reps K Z' vs ds
 |_,_,.nil=>.nil
 |_,_,.cons h r=>.cons (Rep.same s h) (Reps.same s r)
end
theorem Reps.length{K:Fg}{Z:Hp}:∀{vs:List V} {ds:List D},Reps K Z vs ds->vs.length=ds.length
 |_,_,.nil=>rfl
 |_,_,.cons _ r=>congrArg (· + 1) (Reps.length r)
theorem Reps.get{K:Fg}{Z:Hp}:∀{vs:List V} {ds:List D} {i:Nat} {d:D},Reps K Z vs ds->ds[i]? = some d->∃v,vs[i]? = some v/\Rep K Z v d
 |_,_,_,_,.nil,e=>by simp at e
 |_,_,0,_,.cons r _,e=>by simp at e;subst e;exact⟨_,rfl,r⟩
 |_,_,i+1,d,.cons _ t,e=>by
  obtain⟨u,h1,h2⟩:=Reps.get (i:=i) (d:=d) t (by simpa using e);exact⟨u,by simpa using h1,h2⟩
theorem Reps.append{K:Fg}{Z:Hp}:∀{xs ys:List V} {us ws:List D},Reps K Z xs us->Reps K Z ys ws->Reps K Z (xs++ys) (us++ws)
 |_,_,_,_,.nil,s=>s
 |_,_,_,_,.cons r t,s=>.cons r (Reps.append t s)
theorem Reps.take{K:Fg}{Z:Hp}:∀{xs:List V} {us:List D} (n:Nat),Reps K Z xs us->Reps K Z (xs.take n) (us.take n)
 |_,_,0,_=>.nil
 |_,_,_+1,.nil=>.nil
 |_,_,n+1,.cons r t=>.cons r (Reps.take n t)
theorem Reps.drop{K:Fg}{Z:Hp}:∀{xs:List V} {us:List D} (n:Nat),Reps K Z xs us->Reps K Z (xs.drop n) (us.drop n)
 |_,_,0,r=>r
 |_,_,_+1,.nil=>.nil
 |_,_,n+1,.cons _ t=>Reps.drop n t
theorem Rep.int_eq{K:Fg}{Z:Hp}{v:V}{i:Int}(h:Rep K Z v (.int i)):v=.int i:=by cases h;rfl
theorem Rep.bl_eq{K:Fg}{Z:Hp}{v:V}{b:Bool}(h:Rep K Z v (.bool b)):v=.bl b:=by cases h;rfl
theorem Reps.ints{K:Fg}{Z:Hp}:∀ns:List Int,Reps K Z (ns.map V.int) (ns.map PyData.int)
 |[]=>.nil
 |n::r=>.cons (.int n) (Reps.ints r)
mutual
theorem Rep.reads{X:Cx}{pins:List (Addr×Obj)}{σ:St}{H Z:Hp}{s:Shared}(I:Inv X pins σ H s)(zh:Same Z H):∀{v:V} {d:D} {u:Value},Rep X.K Z v d->RelV v u->d.canLay0=true->∃as,Reads s.heap u d as
 |_,_,u,.non,r,_=>by cases(show u=Value.none from r);exact⟨_,.none⟩
 |_,_,u,.bl b,r,_=>by cases(show u=Value.bool b from r);exact⟨_,.bool b⟩
 |_,_,u,.int i,r,_=>by obtain⟨t,rfl⟩:=(show ∃t,u=Value.int i t from r);exact⟨_,.int i t⟩
 |_,_,u,.str x,r,_=>by obtain⟨t,rfl⟩:=(show ∃t,u=Value.str x t from r);exact⟨_,.str x t⟩
 |_,_,u,.tup (a:=a) h q,r,hc=>by
  cases(show u=Value.ref a from r);obtain⟨its,rv,ht,_⟩:=I.tuple (SqT.same h zh);obtain⟨as,ra⟩:=Reps.reads I zh q rv hc;obtain⟨o,e,c,n,dd⟩:=ht;exact⟨_,reads_tuple_at e c dd (by simpa using ra)⟩
 |_,_,u,.lst (a:=a) h q,r,hc=>by
  cases(show u=Value.ref a from r);obtain⟨its,rv,ht,_⟩:=I.list (SqL.same h zh);obtain⟨as,ra⟩:=Reps.reads I zh q rv hc;obtain⟨o,n,e,c,_,dd⟩:=ht;exact⟨_,reads_list_at e c dd (by simpa using ra)⟩
 |_,_,u,.opq h,r,hc=>by cases hc
 |_,_,u,.gdc h k q e,r,hc=>by cases hc
theorem Reps.reads{X:Cx}{pins:List (Addr×Obj)}{σ:St}{H Z:Hp}{s:Shared}(I:Inv X pins σ H s)(zh:Same Z H):∀{vs:List V} {ds:List D} {us:List Value},Reps X.K Z vs ds->Vals vs us->PyData.canLayAll0 ds=true->∃as,ReadsAll s.heap us ds as
 |_,_,_,.nil,.nil,_=>⟨_,.nil⟩
 |_,_,_,.cons h q,.cons r t,hc=>by
  have hc':=Bool.and_eq_true_iff.mp hc;obtain⟨as,ha⟩:=Rep.reads I zh h r hc'.1;obtain⟨bs,hb⟩:=Reps.reads I zh q t hc'.2;exact⟨_,.cons ha hb⟩
end
noncomputable def FX:HO->Bool
 |.frz _ (.lst _)=>false
 |_=>true
def NoF(Z Z':Hp):Prop:=∀b o xs,Z' b=some (.frz o (.lst xs))->Z b=some (.frz o (.lst xs))
theorem NoF.refl(Z:Hp):NoF Z Z:=fun _ _ _ e=>e
theorem NoF.trans{Z Z1 Z2:Hp}(a:NoF Z Z1)(b:NoF Z1 Z2):NoF Z Z2:=fun c o xs e=>a c o xs (b c o xs e)
theorem NoF.upd{Z Z':Hp}(a:NoF Z Z')(p:Addr){u:HO}(hu:FX u=true:=by rfl):NoF Z (upd Z' p u):=fun b o xs e=>by
 by_cases hb:b=p
 ·subst hb
  rw[aX]at e;cases e;cases hu
 ·rw[aV hb]at e
  exact a b o xs e
structure New (Z H Z' H':Hp):Prop where
 z:Same Z Z'
 h:Same H H'
 zh:Same Z' H'
 o:∀b,H b≠none->Z' b=Z b
 nf:NoF Z Z'
theorem New.refl{Z H:Hp}(zh:Same Z H):New Z H Z H:=⟨Same.refl _,Same.refl _,zh,fun _ _=>rfl,NoF.refl _⟩
theorem gG{H:Hp}{p:Addr}{o:HO}(h:H p=none):Same H (upd H p o):=fun b u e=>by
 rw[aV (bN e h)];exact e
theorem pP{Z H:Hp}(zh:Same Z H){p:Addr}(h:H p=none):Z p=none:=by
 cases e:Z p with
 |none=>rfl
 |some o=>rw[zh p o e]at h;cases h
theorem New.add{Z H:Hp}(zh:Same Z H){p:Addr}(hp:H p=none)(o:HO)(hf:FX o=true:=by rfl):New Z H (upd Z p o) (upd H p o) where
 nf:=(NoF.refl Z).upd p hf
 z:=gG (pP zh hp)
 h:=gG hp
 zh:=fun b u e=>by
  by_cases hb:b=p
  ·subst hb;rw[aX]at e ⊢;exact e
  ·rw[aV hb]at e ⊢;exact zh b u e
 o:=fun b hb=>by
  have:b≠p:=fun z=>hb (z ▸ hp)
  rw[aV this]
def IL(K:Fg)(Z:Hp)(kvs:List (bb×V))(es:List (bb×D)):Prop:=es.map (·.1)=kvs.map (·.1)/\Reps K Z (kvs.map (·.2)) (es.map (·.2))
inductive OwR (K:Fg) (Z:Hp):HO->Oc->Prop
 |lst {xs:List V} {ds:List D}:Reps K Z xs ds->OwR K Z (.lst xs) (.l ds)
 |dct {kvs:List (bb×V)} {es:List (bb×D)}:IL K Z kvs es->OwR K Z (.dK kvs) (.d es)
theorem OwR.same{K:Fg}{Z Z':Hp}{o:HO}{c:Oc}(h:OwR K Z o c)(s:Same Z Z'):OwR K Z' o c:=by
 cases h with
 |lst r=>exact .lst (r.same s)
 |dct r=>exact .dct ⟨r.1,r.2.same s⟩
def FrOk(K:Fg)(H₀ Z₀ Z:Hp)(δ:Dv)(σ:St):Prop:=∀(i:Nat) ds,δ[i]? = some (.fr ds)->∃a xs,σ[i]? = some (some (.ref a))/\H₀ a=none/\Z₀ a=none/\Z a=some (.lst xs)/\Reps K Z xs ds
theorem FrOk.same{K:Fg}{H₀ Z₀ Z Z':Hp}{δ:Dv}{σ:St}(h:FrOk K H₀ Z₀ Z δ σ)(s:Same Z Z'):FrOk K H₀ Z₀ Z' δ σ:=fun i ds e=>
 let ⟨a,xs,h1,h2,h3,h4,h5⟩:=h i ds e; ⟨a,xs,h1,h2,h3,s _ _ h4,h5.same s⟩
theorem FrOk.put{K:Fg}{H₀ Z₀ Z:Hp}{δ:Dv}{σ σ':St}(h:FrOk K H₀ Z₀ Z δ σ){i:Nat}{x:Sl}(hx:∀ds,x≠Sl.fr ds)(hs:∀j:Nat,i≠j -> σ'[j]? = σ[j]?):FrOk K H₀ Z₀ Z (δ.set i x) σ':=fun j ds e=>by
 by_cases hj:i=j
 ·subst hj
  have hl:i < δ.length:=by have:=(List.getElem?_eq_some_iff.mp e).1;simpa using this
  rw[List.getElem?_set_self hl]at e;exact absurd (Option.some.inj e) (hx ds)
 ·rw[List.getElem?_set_ne hj]at e
  obtain⟨a,xs,h1,r⟩:=h j ds e;exact⟨a,xs,by rw[hs j hj];exact h1,r⟩
structure Hold (K:Fg) (H₀ Z₀ Z:Hp) (δ:Dv) (σ:St) (H:Hp):Prop where
 zh:Same Z H
 h0:Same H₀ H
 z0:Same Z₀ Z
 zb:∀b,H₀ b≠none->Z b=Z₀ b
 len:δ.length = σ.length
 fz:∀(i:Nat) d,δ[i]? = some (.fz d)->∃v,σ[i]? = some (some v)/\Rep K Z v d
 own:∀(i:Nat) c,δ[i]? = some (.own c)->∃a o,σ[i]? = some (some (.ref a))/\H₀ a=none/\Z a=none/\H a=some o/\OwR K Z o c
 dja:∀(i j:Nat) c c' a,i≠j -> δ[i]? = some (.own c) -> δ[j]? = some (.own c') -> σ[i]? = some (some (.ref a)) -> σ[j]? ≠ some (some (V.ref a))
 fr:FrOk K H₀ Z₀ Z δ σ
 nf:NoF Z₀ Z
section
variable{K:Fg}{H₀ Z₀ Z Z' H H':Hp}{δ:Dv}{σ:St}
theorem Hold.ow(h:Hold K H₀ Z₀ Z δ σ H)(i:Nat)(ds:List D)(e:δ[i]? = some (.ow ds)):∃a xs,σ[i]? = some (some (.ref a))/\H₀ a=none/\Z a=none/\H a=some (.lst xs)/\Reps K Z xs ds:=by
 obtain⟨a,o,h1,h2,h3,h4,h5⟩:=h.own i _ e;cases h5 with
 |lst r=>exact⟨a,_,h1,h2,h3,h4,r⟩
theorem Hold.new(h:Hold K H₀ Z₀ Z δ σ H)(n:New Z H Z' H'):Hold K H₀ Z₀ Z' δ σ H' where
 zh:=n.zh
 h0:=h.h0.trans n.h
 z0:=h.z0.trans n.z
 zb:=fun b hb=>by
  have:H b≠none:=by
   cases e:H₀ b with
   |none=>exact absurd e hb
   |some o=>rw[h.h0 b o e];intro z;cases z
  rw[n.o b this,h.zb b hb]
 len:=h.len
 fz:=fun i d e=>let ⟨v,a,r⟩:=h.fz i d e; ⟨v,a,r.same n.z⟩
 own:=fun i ds e=>by
  obtain⟨a,xs,h1,h2,h3,h4,h5⟩:=h.own i ds e;exact⟨a,xs,h1,h2,by rw[n.o a (by rw[h4];intro z;cases z)];exact h3,n.h a _ h4,h5.same n.z⟩
 dja:=h.dja
 fr:=h.fr.same n.z
 nf:=h.nf.trans n.nf
theorem Hold.set(h:Hold K H₀ Z₀ Z δ σ H){i:Nat}{v:V}{d:D}(r:Rep K Z v d):Hold K H₀ Z₀ Z (δ.set i (.fz d)) (σ.set i (some v)) H where
 zh:=h.zh
 h0:=h.h0
 z0:=h.z0
 zb:=h.zb
 len:=by simp[h.len]
 fz:=fun j e q=>by
  by_cases hj:i=j
  ·subst hj
   have hl:i < δ.length:=by
    have:=(List.getElem?_eq_some_iff.mp q).1;simpa using this
   rw[List.getElem?_set_self hl]at q;cases q;exact⟨v,List.getElem?_set_self (by rw[<-h.len];exact hl),r⟩
  ·rw[List.getElem?_set_ne hj]at q
   obtain⟨u,a,b⟩:=h.fz j e q;exact⟨u,by rw[List.getElem?_set_ne hj];exact a,b⟩
 own:=fun j es q=>by
  by_cases hj:i=j
  ·subst hj
   have hl:i < δ.length:=by
    have:=(List.getElem?_eq_some_iff.mp q).1;simpa using this
   rw[List.getElem?_set_self hl]at q;cases q
  ·rw[List.getElem?_set_ne hj]at q ⊢
   exact h.own j es q
 dja:=fun j k ds es a hjk q1 q2=>by
  by_cases hj:i=j
  ·subst hj
   have hl:i < δ.length:=by
    have:=(List.getElem?_eq_some_iff.mp q1).1;simpa using this
   rw[List.getElem?_set_self hl]at q1;cases q1
  ·by_cases hk:i=k
   ·subst hk
    have hl:i < δ.length:=by
     have:=(List.getElem?_eq_some_iff.mp q2).1;simpa using this
    rw[List.getElem?_set_self hl]at q2;cases q2
   ·rw[List.getElem?_set_ne hj]at q1
    rw[List.getElem?_set_ne hk]at q2;rw[List.getElem?_set_ne hj,List.getElem?_set_ne hk];exact h.dja j k ds es a hjk q1 q2
 fr:=h.fr.put (fun _ z=>nomatch z) fun _ hj=>List.getElem?_set_ne hj
 nf:=h.nf
theorem Hold.setW(h:Hold K H₀ Z₀ Z δ σ H){i:Nat}{p:Addr}{o:HO}{c:Oc}(hp:H p=none)(r:OwR K Z o c):Hold K H₀ Z₀ Z (δ.set i (.own c)) (σ.set i (some (.ref p))) (upd H p o) where
 zh:=h.zh.trans (gG hp)
 h0:=h.h0.trans (gG hp)
 z0:=h.z0
 zb:=h.zb
 len:=by simp[h.len]
 fz:=fun j e q=>by
  by_cases hj:i=j
  ·subst hj
   have hl:i < δ.length:=by
    have:=(List.getElem?_eq_some_iff.mp q).1;simpa using this
   rw[List.getElem?_set_self hl]at q;cases q
  ·rw[List.getElem?_set_ne hj]at q
   obtain⟨u,a,b⟩:=h.fz j e q;exact⟨u,by rw[List.getElem?_set_ne hj];exact a,b⟩
 own:=fun j es q=>by
  by_cases hj:i=j
  ·subst hj
   have hl:i < δ.length:=by
    have:=(List.getElem?_eq_some_iff.mp q).1;simpa using this
   rw[List.getElem?_set_self hl]at q;cases q;exact⟨p,o,List.getElem?_set_self (by rw[<-h.len];exact hl),pP h.h0 hp,pP h.zh hp,aX,r⟩
  ·rw[List.getElem?_set_ne hj]at q ⊢
   obtain⟨a,ys,h1,h2,h3,h4,h5⟩:=h.own j es q;exact⟨a,ys,h1,h2,h3,by rw[aV (bN h4 hp)];exact h4,h5⟩
 dja:=fun j k ds es a hjk q1 q2=>by
  have old:∀{m:Nat} {fs:Oc},δ[m]? = some (.own fs) -> σ[m]? ≠ some (some (V.ref p)):=fun{m fs} q z=>by
   obtain⟨b,ys,h1,h2,h3,h4,h5⟩:=h.own m fs q;rw[h1]at z;cases z;rw[hp]at h4;cases h4
  have hl:∀{m:Nat} {x:Sl},(δ.set i x)[m]? ≠ none->m < σ.length:=fun{m x} q=>by
   have:m<(δ.set i x).length:=by
    rcases Nat.lt_or_ge m (δ.set i x).length with g|g
    ·exact g
    ·exact absurd (List.getElem?_eq_none_iff.mpr g) q
   rw[<-h.len];simpa using this
  by_cases hj:i=j
  ·subst hj
   have h1:i < σ.length:=hl (by rw[q1];intro z;cases z);rw[List.getElem?_set_self h1];intro e;cases e;rw[List.getElem?_set_ne hjk]at q2 ⊢;exact old q2
  ·rw[List.getElem?_set_ne hj]at q1 ⊢
   by_cases hk:i=k
   ·subst hk
    have h1:i < σ.length:=hl (by rw[q2];intro z;cases z);intro e z;rw[List.getElem?_set_self h1]at z;cases z;exact old q1 e
   ·rw[List.getElem?_set_ne hk]at q2 ⊢
    exact h.dja j k ds es a hjk q1 q2
 fr:=h.fr.put (fun _ z=>nomatch z) fun _ hj=>List.getElem?_set_ne hj
 nf:=h.nf
theorem Hold.setO(h:Hold K H₀ Z₀ Z δ σ H){i:Nat}{p:Addr}{xs:List V}{ds:List D}(hp:H p=none)(r:Reps K Z xs ds):Hold K H₀ Z₀ Z (δ.set i (.ow ds)) (σ.set i (some (.ref p))) (upd H p (.lst xs)):=h.setW hp (.lst r)
theorem Hold.chgW(h:Hold K H₀ Z₀ Z δ σ H){i:Nat}{p:Addr}{o:HO}{ds es:Oc}(e:δ[i]? = some (.own ds))(ep:σ[i]? = some (some (.ref p)))(r:OwR K Z o es):Hold K H₀ Z₀ Z (δ.set i (.own es)) σ (upd H p o):=by
 obtain⟨a,zs,h1,h2,h3,h4,h5⟩:=h.own i ds e;rw[ep]at h1;cases h1;have hl:i < δ.length:=(List.getElem?_eq_some_iff.mp e).1;refine⟨fun b o' q=>?_,fun b o' q=>?_,h.z0,h.zb,by simp[h.len],fun j d q=>?_,fun j d q=>?_,fun j k d1 d2 a hjk q1 q2=>?_,h.fr.put (fun _ z=>nomatch z) fun _ _=>rfl,h.nf⟩
 ·rw[aV (bN q h3)];exact h.zh b o' q
 ·rw[aV (bN q h2)];exact h.h0 b o' q
 ·by_cases hj:i=j
  ·subst hj
   rw[List.getElem?_set_self hl]at q;cases q
  ·rw[List.getElem?_set_ne hj]at q
   exact h.fz j d q
 ·by_cases hj:i=j
  ·subst hj
   rw[List.getElem?_set_self hl]at q;cases q;exact⟨p,o,ep,h2,h3,aX,r⟩
  ·rw[List.getElem?_set_ne hj]at q
   obtain⟨b,ws,g1,g2,g3,g4,g5⟩:=h.own j d q;refine⟨b,ws,g1,g2,g3,?_,g5⟩;have:b≠p:=fun z=>by subst z;exact h.dja i j ds d b hj e q ep g1
   rw[aV this];exact g4
 ·have f:∀{m:Nat} {dm:Oc},(δ.set i (.own es))[m]? = some (.own dm)->∃dm',δ[m]? = some (.own dm'):=fun{m dm} q=>by
   by_cases hm:i=m
   ·subst hm;exact⟨ds,e⟩
   ·rw[List.getElem?_set_ne hm]at q;exact⟨dm,q⟩
  obtain⟨e1,g1⟩:=f q1;obtain⟨e2,g2⟩:=f q2;exact h.dja j k e1 e2 a hjk g1 g2
theorem Hold.chg(h:Hold K H₀ Z₀ Z δ σ H){i:Nat}{p:Addr}{xs ys:List V}{ds es:List D}(e:δ[i]? = some (.ow ds))(ep:σ[i]? = some (some (.ref p)))(r:Reps K Z ys es):Hold K H₀ Z₀ Z (δ.set i (.ow es)) σ (upd H p (.lst ys)):=h.chgW e ep (.lst r)
theorem Hold.frz(h:Hold K H₀ Z₀ Z δ σ H){i:Nat}{ds:List D}(e:δ[i]? = some (.ow ds)):∃Z',Same Z Z'/\Hold K H₀ Z₀ Z' (δ.set i (.fz (.list ds))) σ H:=by
 obtain⟨a,xs,h1,h2,h3,h4,h5⟩:=h.ow i ds e;have hl:i < δ.length:=(List.getElem?_eq_some_iff.mp e).1;have sz:Same Z (upd Z a (.lst xs)):=gG h3;refine⟨upd Z a (.lst xs),sz,fun b o q=>?_,h.h0,h.z0.trans sz,fun b hb=>?_,by simp[h.len],fun j d q=>?_,fun j d q=>?_,fun j k d1 d2 b hjk q1 q2=>?_,(h.fr.same sz).put (fun _ z=>nomatch z) fun _ _=>rfl,h.nf.upd a⟩
 ·by_cases hb:b=a
  ·subst hb;rw[aX]at q;cases q;exact h4
  ·rw[aV hb]at q;exact h.zh b o q
 ·rw[aV (fun z=>hb (by rw[z];exact h2))];exact h.zb b hb
 ·by_cases hj:i=j
  ·subst hj
   rw[List.getElem?_set_self hl]at q;cases q;exact⟨.ref a,h1,.lst (SqL.of aX) (h5.same sz)⟩
  ·rw[List.getElem?_set_ne hj]at q
   obtain⟨v,g1,g2⟩:=h.fz j d q;exact⟨v,g1,g2.same sz⟩
 ·by_cases hj:i=j
  ·subst hj
   rw[List.getElem?_set_self hl]at q;cases q
  ·rw[List.getElem?_set_ne hj]at q
   obtain⟨b,ws,g1,g2,g3,g4,g5⟩:=h.own j d q;have:b≠a:=fun z=>by subst z;exact h.dja i j _ d b hj e q h1 g1
   exact⟨b,ws,g1,g2,by rw[aV this];exact g3,g4,g5.same sz⟩
 ·by_cases hj:i=j
  ·subst hj
   rw[List.getElem?_set_self hl]at q1;cases q1
  ·by_cases hk:i=k
   ·subst hk
    rw[List.getElem?_set_self hl]at q2;cases q2
   ·rw[List.getElem?_set_ne hj]at q1
    rw[List.getElem?_set_ne hk]at q2;exact h.dja j k d1 d2 b hjk q1 q2
end
def tV(K:Fg)(f:Dv->Option D):TE:=fun σ H Q=>∃H₀ Z₀ Z δ d,Hold K H₀ Z₀ Z δ σ H/\f δ = some d/\∀v Z' H',Hold K H₀ Z₀ Z' δ σ H'->Same Z Z'->Rep K Z' v d->Q v H'
def E8(K:Fg)(f:Dv->Option Bool):TT:=fun σ H Q=>∃H₀ Z₀ Z δ b,Hold K H₀ Z₀ Z δ σ H/\f δ = some b/\∀Z' H',Hold K H₀ Z₀ Z' δ σ H'->Same Z Z'->Q b H'
def Jd(K:Fg)(f:Dv->Option (List D)):TA:=fun σ H Q=>∃H₀ Z₀ Z δ ds,Hold K H₀ Z₀ Z δ σ H/\f δ = some ds/\∀vs Z' H',Hold K H₀ Z₀ Z' δ σ H'->Same Z Z'->Reps K Z' vs ds->Q vs H'
def Fl.to(K:Fg)(Z:Hp)(D:Ends)(σ:St)(H:Hp):Fl->Prop
 |.nx=>D.nx σ H
 |.bk=>D.bk σ H
 |.ct=>D.ct σ H
 |.rt d=>∀v,Rep K Z v d->D.rt v H
def E9(K:Fg)(f:Dv->Option (Fl×Dv)):TS:=fun D σ H=>∃H₀ Z₀ Z δ r,Hold K H₀ Z₀ Z δ σ H/\f δ = some r/\∀ σ' H' Z',Hold K H₀ Z₀ Z' r.2 σ' H'->Same Z Z'->r.1.to K Z' D σ' H'
def EV(X:Cx)(e:Expr)(f:Dv->Option D):Prop:=PE X e (tV X.K f)
def TV(X:Cx)(e:Expr)(f:Dv->Option Bool):Prop:=PT X e (E8 X.K f)
def AV(X:Cx)(es:List Expr)(f:Dv->Option (List D)):Prop:=PA X es (Jd X.K f)
def SV(X:Cx)(st:Stmt)(f:Dv->Option (Fl×Dv)):Prop:=PS X st (E9 X.K f)
def BV(X:Cx)(st:List Stmt)(f:Dv->Option (Fl×Dv)):Prop:=PSs X st (E9 X.K f)
theorem PE.imp{X:Cx}{e:Expr}{t t':TE}(h:PE X e t)(i:∀ σ H Q,t' σ H Q->t σ H Q):PE X e t':=fun pins s σ H Q I hw=>h pins s σ H Q I (i _ _ _ hw)
theorem PT.imp{X:Cx}{e:Expr}{t t':TT}(h:PT X e t)(i:∀ σ H Q,t' σ H Q->t σ H Q):PT X e t':=fun pins s σ H Q I hw=>h pins s σ H Q I (i _ _ _ hw)
theorem PA.imp{X:Cx}{es:List Expr}{t t':TA}(h:PA X es t)(i:∀ σ H Q,t' σ H Q->t σ H Q):PA X es t':=fun pos pins s σ H Q I hw=>h pos pins s σ H Q I (i _ _ _ hw)
theorem PS.imp{X:Cx}{st:Stmt}{t t':TS}(h:PS X st t)(i:∀D σ H,t' D σ H->t D σ H):PS X st t':=fun pins s σ H D I hw=>h pins s σ H D I (i _ _ _ hw)
theorem PSs.imp{X:Cx}{st:List Stmt}{t t':TS}(h:PSs X st t)(i:∀D σ H,t' D σ H->t D σ H):PSs X st t':=fun pins s σ H D I hw=>h pins s σ H D I (i _ _ _ hw)
theorem OpR.imp{X:Cx}{f:Value->Value->Sem Value}{r r':R2}(h:OpR X f r)(i:∀x y H Q,r' x y H Q->r x y H Q):OpR X f r':=fun pins s σ H x y v u Q I rx ry q=>h pins s σ H x y v u Q I rx ry (i _ _ _ _ q)
theorem CallR.imp{X:Cx}{f:Value}{r r':List V->Hp->VK->Prop}(h:CallR X f r)(i:∀xs H Q,r' xs H Q->r xs H Q):CallR X f r':=fun pins s σ H xs us Q I rx q=>h pins s σ H xs us Q I rx (i _ _ _ q)
def rD(K:Fg)(g:D->D->Option D):R2:=fun x y H Q=>∃Z a b d,Same Z H/\Rep K Z x a/\Rep K Z y b/\g a b=some d/\∀v Z' H',New Z H Z' H'->Rep K Z' v d->Q v H'
def Jh(K:Fg)(g:D->Option D):V->Hp->VK->Prop:=fun x H Q=>∃Z a d,Same Z H/\Rep K Z x a/\g a=some d/\∀v Z' H',New Z H Z' H'->Rep K Z' v d->Q v H'
def wQ(K:Fg)(g:List D->Option D):List V->Hp->VK->Prop:=fun xs H Q=>∃Z as d,Same Z H/\Reps K Z xs as/\g as=some d/\∀v Z' H',New Z H Z' H'->Rep K Z' v d->Q v H'
def dS(K:Fg)(g:List D->Option D):Sp:=fun vs H Q _=>wQ K g vs H Q
section
variable{X:Cx}{a b c e:Expr}{es:List Expr}{pos p:Pos}{f f1 f2 f3:Dv->Option D}{fs:Dv->Option (List D)}{ft fu:Dv->Option Bool}
theorem bind_some{α β:Type}{o:Option α}{k:α -> Option β}{r:β}(h:o.bind k=some r):∃a,o=some a/\k a=some r:=by
 cases o with
 |none=>cases h
 |some a=>exact⟨a,rfl,h⟩
theorem two{K:Fg}{g:D->D->Option D}{σ:St}{H:Hp}{Q:VK}{r:R2}(hr:∀x y H Q,rD K g x y H Q->r x y H Q)(h:tV K (o2 f1 f2 g) σ H Q):Fb r (tV K f1) (tV K f2) σ H Q:=by
 obtain⟨H₀,Z₀,Z,δ,d,hh,e,k⟩:=h;obtain⟨x,e1,e⟩:=bind_some e;obtain⟨y,e2,e⟩:=bind_some e;refine⟨H₀,Z₀,Z,δ,x,hh,e1,fun v Z1 H1 hh1 s1 r1=>⟨H₀,Z₀,Z1,δ,y,hh1,e2,fun u Z2 H2 hh2 s2 r2=>hr _ _ _ _ ⟨Z2,x,y,d,hh2.zh,r1.same s2,r2,e,fun w Z3 H3 n r3=>?_⟩⟩⟩
 exact k w Z3 H3 (hh2.new n) ((s1.trans s2).trans n.z) r3
theorem ai{op:Operator}{g:D->D->Option D}(ho:OpR X (binaryOp op) (rD X.K g))(ha:EV X a f1)(hb:EV X b f2):EV X (.BinOp a op b pos) (o2 f1 f2 g):=
 PE.imp (FB ho ha hb) fun _ _ _ h=>two (fun _ _ _ _ q=>q) h
theorem jm{op:UnaryOp}{g:D->Option D}(ho:GP X (unaryOp op) (Jh X.K g))(ha:EV X a f):EV X (.UnaryOp op a pos) (o1 f g):=
 PE.imp (FA ho ha) fun σ H Q h=>by
  obtain⟨H₀,Z₀,Z,δ,d,hh,e,k⟩:=h;obtain⟨x,e1,e⟩:=bind_some e;exact⟨H₀,Z₀,Z,δ,x,hh,e1,fun v Z1 H1 hh1 s1 r1=>⟨Z1,x,d,hh1.zh,r1,e,fun w Z3 H3 n r3=>k w Z3 H3 (hh1.new n) (s1.trans n.z) r3⟩⟩
theorem pS{op:CmpOp}{g:D->D->Option D}(ho:OpR X (compareOp op) (rD X.K g))(ha:EV X a f1)(hb:EV X b f2)(hm:behindInMarks op b=false):EV X (.Compare a [op] [b] pos) (o2 f1 f2 g):=
 PE.imp (AQ ho ha hb hm) fun _ _ _ h=>two (fun _ _ _ _ q=>q) h
theorem zC{d:D}{b:Bool}(h:asB d=some b):d=.bool b:=by
 cases d<;>simp[asB]at h;subst h;rfl
theorem Hk{K:Fg}{σ:St}{H:Hp}{Q:Bool->Hp->Prop}(h:E8 K (ob f) σ H Q):tV K f σ H fun x H1=>∃c,x=.bl c/\Q c H1:=by
 obtain⟨H₀,Z₀,Z,δ,d,hh,e,k⟩:=h;obtain⟨x,e1,e⟩:=bind_some e;have:=zC e;subst this;exact⟨H₀,Z₀,Z,δ,_,hh,e1,fun v Z1 H1 hh1 s1 r1=>⟨_,r1.bl_eq,k Z1 H1 hh1 s1⟩⟩
theorem aK{op:CmpOp}{g:D->D->Option D}(ho:OpR X (compareOp op) (rD X.K g))(ha:EV X a f1)(hb:EV X b f2)(hm:behindInMarks op b=false):TV X (.Compare a [op] [b] pos) (ob (o2 f1 f2 g)):=
 PT.imp (AE ho ha hb hm) fun σ H Q h=>by
  have h':=Hk h;exact two (f1:=f1) (f2:=f2) (g:=g) (fun _ _ _ _ q=>q) h'
theorem lA(ha:EV X a f)(he:∀whole,isTrue a X.env whole=(do let v <-whole;standAt a.pos;holding [v] (truthy v)):=by intro _;rfl):TV X a (ob f):=
 PT.imp (Dl ha he) fun _ _ _ h=>Hk h
def WV(X:Cx)(e:Expr)(f:Dv->Option Bool):Prop:=PW X e (E8 X.K f)
theorem PW.imp{X:Cx}{e:Expr}{t t':TT}(h:PW X e t)(i:∀ σ H Q,t' σ H Q->t σ H Q):PW X e t':=fun whole pins s σ H Q I hw=>h whole pins s σ H Q I (i _ _ _ hw)
theorem uh(ha:TV X a ft):WV X (.BoolOp .And [a] pos) ft:=AD ha
theorem kZ(ha:TV X a ft):WV X (.BoolOp .Or [a] pos) ft:=Di ha
theorem wU{rest:List Expr}(ha:TV X a ft)(hb:WV X (.BoolOp .And (b::rest) pos) fu):WV X (.BoolOp .And (a::b::rest) pos) (pD ft fu):=
 PW.imp (Dj ha hb) fun σ H Q h=>by
  obtain⟨H₀,Z₀,Z,δ,d,hh,e,k⟩:=h;obtain⟨x,e1,e⟩:=bind_some e;refine⟨H₀,Z₀,Z,δ,x,hh,e1,fun Z1 H1 hh1 s1=>?_⟩
  cases x with
  |true=>exact⟨H₀,Z₀,Z1,δ,d,hh1,e,fun Z2 H2 hh2 s2=>k Z2 H2 hh2 (s1.trans s2)⟩
  |false=>cases e;exact k Z1 H1 hh1 s1
theorem nD{rest:List Expr}(ha:TV X a ft)(hb:WV X (.BoolOp .Or (b::rest) pos) fu):WV X (.BoolOp .Or (a::b::rest) pos) (uL ft fu):=
 PW.imp (Fu ha hb) fun σ H Q h=>by
  obtain⟨H₀,Z₀,Z,δ,d,hh,e,k⟩:=h;obtain⟨x,e1,e⟩:=bind_some e;refine⟨H₀,Z₀,Z,δ,x,hh,e1,fun Z1 H1 hh1 s1=>?_⟩
  cases x with
  |true=>cases e;exact k Z1 H1 hh1 s1
  |false=>exact⟨H₀,Z₀,Z1,δ,d,hh1,e,fun Z2 H2 hh2 s2=>k Z2 H2 hh2 (s1.trans s2)⟩
theorem WV.tv(h:WV X a ft):TV X a ft:=PW.pt h
theorem oO(ha:TV X a ft):TV X (.UnaryOp .Not a pos) (sX ft):=
 PT.imp (Dm ha) fun σ H Q h=>by
  obtain⟨H₀,Z₀,Z,δ,d,hh,e,k⟩:=h;cases e1:ft δ with
  |none=>unfold sX at e;rw[e1]at e;cases e
  |some x=>
   unfold sX at e;rw[e1]at e;cases e;exact⟨H₀,Z₀,Z,δ,x,hh,e1,fun Z1 H1 hh1 s1=>k Z1 H1 hh1 s1⟩
theorem iF(hc:TV X c ft)(ha:EV X a f1)(hb:EV X b f2):EV X (.IfExp c a b pos) (Ct ft f1 f2):=
 PE.imp (ya hc ha hb) fun σ H Q h=>by
  obtain⟨H₀,Z₀,Z,δ,d,hh,e,k⟩:=h;obtain⟨x,e1,e⟩:=bind_some e;refine⟨H₀,Z₀,Z,δ,x,hh,e1,fun Z1 H1 hh1 s1=>?_⟩
  cases x with
  |true=>exact⟨H₀,Z₀,Z1,δ,d,hh1,e,fun v Z2 H2 hh2 s2 r2=>k v Z2 H2 hh2 (s1.trans s2) r2⟩
  |false=>exact⟨H₀,Z₀,Z1,δ,d,hh1,e,fun v Z2 H2 hh2 s2 r2=>k v Z2 H2 hh2 (s1.trans s2) r2⟩
theorem Hold.read{K:Fg}{H₀ Z₀ Z H:Hp}{δ:Dv}{σ:St}(hh:Hold K H₀ Z₀ Z δ σ H){i:Nat}{d:D}(h:oV i δ = some d):∃v,σ[i]? = some (some v)/\Rep K Z v d:=by
 unfold oV at h;cases q:δ[i]? with
 |none=>rw[q]at h;cases h
 |some x=>
  rw[q]at h;cases x with
  |fz e=>cases h;exact hh.fz i _ q
  |un=>cases h
  |own _=>cases h
  |fr ds=>
   cases h;obtain⟨a,xs,h1,_,_,h4,h5⟩:=hh.fr i ds q;exact⟨.ref a,h1,.lst (SqL.of h4) h5⟩
theorem aa(i:Nat){x:Str}(hN:X.N[i]? = some x:=by rfl)(hv:EY X.env.scope x:=by first|exact Or.inl rfl|exact Or.inr (Or.inl rfl)|exact Or.inr (Or.inr rfl))(hd:(x==("__debug__":Str))=false:=by decide)(hcd:(x==("__classdict__":Str))=false:=by decide):
  EV X (.Name x pos) (oV i):=
 PE.imp (o9 hN hv hd hcd) fun σ H Q h=>by
  obtain⟨H₀,Z₀,Z,δ,d,hh,e,k⟩:=h;obtain⟨v,q,r⟩:=hh.read e;exact⟨v,q,k v Z H hh (Same.refl _) r⟩
theorem zn{d:D}{v:V}(h:PE X e (tC v))(r:∀Z,Rep X.K Z v d):EV X e (oC d):=
 PE.imp h fun σ H Q h=>by
  obtain⟨H₀,Z₀,Z,δ,d',hh,e,k⟩:=h;cases e;exact k v Z H hh (Same.refl _) (r Z)
theorem ae{i j}:EV X (.Constant (.int i) j pos) (oC (.int i)):=zn Du fun _=>.int i
theorem om{i j}:EV X (.Constant (.bool i) j pos) (oC (.bool i)):=zn FD fun _=>.bl i
theorem bo{i j}:EV X (.Constant (.str i) j pos) (oC (.str i)):=zn Dt fun _=>.str i
theorem af:AV X [] ak:=
 PA.imp pb fun σ H Q h=>by
  obtain⟨H₀,Z₀,Z,δ,d,hh,e,k⟩:=h;cases e;exact k [] Z H hh (Same.refl _) .nil
theorem ab(ha:EV X e f)(hr:AV X es fs)(hs:starEach (e::es) X.env=(false,eval e X.env)::starEach es X.env:=by rfl):AV X (e::es) (ac f fs):=
 PA.imp (kQ ha hr hs) fun σ H Q h=>by
  obtain⟨H₀,Z₀,Z,δ,d,hh,e,k⟩:=h;obtain⟨x,e1,e⟩:=bind_some e;obtain⟨xs,e2,e⟩:=bind_some e;cases e;exact⟨H₀,Z₀,Z,δ,x,hh,e1,fun v Z1 H1 hh1 s1 r1=>⟨H₀,Z₀,Z1,δ,xs,hh1,e2,fun vs Z2 H2 hh2 s2 r2=>k _ Z2 H2 hh2 (s1.trans s2) (.cons (r1.same s2) r2)⟩⟩
theorem aL{x1}(h:AV X es fs):EV X (.Tuple es x1 pos) (os fs bj):=
 PE.imp (Ds h) fun σ H Q h=>by
  obtain⟨H₀,Z₀,Z,δ,d,hh,e,k⟩:=h;obtain⟨xs,e1,e⟩:=bind_some e;refine⟨H₀,Z₀,Z,δ,xs,hh,e1,fun vs Z1 H1 hh1 s1 r1=>?_⟩
  by_cases hl:xs.length<=sizeLine
  ·rw[bj,if_pos hl]at e
   cases e;refine⟨by rw[r1.length];exact hl,fun p hp=>?_⟩
   have n:=New.add hh1.zh hp (.tup vs);exact k _ _ _ (hh1.new n) (s1.trans n.z) (.tup (SqT.of aX) (r1.same n.z))
  ·rw[bj,if_neg hl]at e;cases e
theorem pR(h:AV X es fs):EV X (.List es pos) (os fs kC):=
 PE.imp (x9 h) fun σ H Q h=>by
  obtain⟨H₀,Z₀,Z,δ,d,hh,e,k⟩:=h;obtain⟨xs,e1,e⟩:=bind_some e;refine⟨H₀,Z₀,Z,δ,xs,hh,e1,fun vs Z1 H1 hh1 s1 r1=>?_⟩
  by_cases hl:xs.length<=sizeLine
  ·rw[kC,if_pos hl]at e
   cases e;refine⟨by rw[r1.length];exact hl,fun p hp=>?_⟩
   have n:=New.add hh1.zh hp (.lst vs);exact k _ _ _ (hh1.new n) (s1.trans n.z) (.lst (SqL.of aX) (r1.same n.z))
  ·rw[kC,if_neg hl]at e;cases e
theorem args{K:Fg}{g:List D->Option D}{σ:St}{H:Hp}{Q:VK}(h:tV K (os fs g) σ H Q):Jd K fs σ H fun vs H1=>wQ K g vs H1 Q:=by
 obtain⟨H₀,Z₀,Z,δ,d,hh,e,k⟩:=h;obtain⟨xs,e1,e⟩:=bind_some e;exact⟨H₀,Z₀,Z,δ,xs,hh,e1,fun vs Z1 H1 hh1 s1 r1=>⟨Z1,xs,d,hh1.zh,r1,e,fun w Z3 H3 n r3=>k w Z3 H3 (hh1.new n) (s1.trans n.z) r3⟩⟩
theorem bh{x:Str}{id:String}{g:List D->Option D}(hc:CallR X (.builtin id) (wQ X.K g))(hg:Gl X x)(hm:X.mg x=none)(hv:bootBuiltins x=some (.builtin id))(ha:AV X (e::es) fs)(hn:x ≠ "__name__":=by decide)(hdb:(x==("__debug__":Str))=false:=by decide)
  (he:starEach (e::es) X.env=(false,eval e X.env)::starEach es X.env:=by rfl) (hpl:(backTo pos (starEach es X.env)).any (·.1)=false:=by rfl):EV X (.Call (.Name x p) (e::es) [] pos) (os fs g):=
 PE.imp (yc hc hg hm hv ha hn hdb he hpl) fun _ _ _ h=>args h
theorem ck{x:Str}{id:String}{g:List D->Option D}(hc:CallR X (.type id) (wQ X.K g))(hg:Gl X x)(hm:X.mg x=none)(hv:bootBuiltins x=some (.type id))(ha:AV X (e::es) fs)(hn:x ≠ "__name__":=by decide)(hdb:(x==("__debug__":Str))=false:=by decide)
  (he:starEach (e::es) X.env=(false,eval e X.env)::starEach es X.env:=by rfl) (hpl:(backTo pos (starEach es X.env)).any (·.1)=false:=by rfl):EV X (.Call (.Name x p) (e::es) [] pos) (os fs g):=
 PE.imp (vS hc hg hm hv ha hn hdb he hpl) fun _ _ _ h=>args h
theorem BN{k:Nat}{fa:Addr}{fd:FuncData}{ps:List Str}{x:Str}{g:List D->Option D}{dd:List D}{dv:List V}{ds:List Value}(F:FnOk X.prog X.w X.K X.mg X.base dy k fa fd ps (dS X.K g))(hr:Room k X.A)(hg:Gl X x)(hm:X.mg x=some (.ref fa))(hk:PySem.W.keepIn X.K (.ref fa)=true)
  (hb:Binds X.K fd ps ds) (hd:Vals dv ds) (hdd:∀Z,Reps X.K Z dv dd) (hx:qk dy X E0) (ha:AV X (e::es) fs) (hdb:(x==("__debug__":Str))=false:=by decide) (he:starEach (e::es) X.env=(false,eval e X.env)::starEach es X.env:=by rfl) (hpl:(backTo pos (starEach es X.env)).any (·.1)=false:=by rfl) :
  EV X (.Call (.Name x p) (e::es) [] pos) (os fs fun as=>g (as++dd)):=
 PE.imp (AR F hr hg hm hk hb hd hx ha hdb he hpl) fun σ H Q h=>by
  obtain⟨H₀,Z₀,Z,δ,xs,hh,e1,q⟩:=args h;refine⟨H₀,Z₀,Z,δ,xs,hh,e1,fun vs Z1 H1 hh1 s1 r1=>?_⟩
  obtain⟨Z2,as,d,zh,ra,eg,kk⟩:=q vs Z1 H1 hh1 s1 r1;exact⟨Z2,as++dd,d,zh,ra.append (hdd Z2),eg,kk⟩
theorem IxR.imp{r r':R2}(h:IxR X r)(i:∀x y H Q,r' x y H Q->r x y H Q):IxR X r':=fun value slice pins s σ H x y v u Q I rx ry q hs=>h value slice pins s σ H x y v u Q I rx ry (i _ _ _ _ q) hs
theorem aj{g:D->D->Option D}(ho:IxR X (rD X.K g))(ha:EV X a f1)(hb:EV X b f2)(hs:vn b):EV X (.Subscript a b pos) (o2 f1 f2 g):=
 PE.imp (FC ho ha hb hs) fun _ _ _ h=>two (fun _ _ _ _ q=>q) h
end
section
variable{X:Cx}{a b c e tg:Expr}{es:List Expr}{pos p:Pos}{f f1 f2 f3:Dv->Option D}{fs:Dv->Option (List D)}{ft fu:Dv->Option Bool}{st:Stmt}{sts body:List Stmt}{s1 s2:Dv->Option (Fl×Dv)}
theorem uH{F:Value->Value->Sem Value}{g:Int->Int->Int}(h:OpR X F (xO fun i j=>.int (g i j))):OpR X F (rD X.K (iI g)):=
 OpR.imp h fun x y H Q q=>by
  obtain⟨Z,a,b,d,zh,ra,rb,e,k⟩:=q;cases ra<;>cases rb<;>simp[iI]at e;subst e;exact⟨_,_,rfl,rfl,k _ Z H (New.refl zh) (.int _)⟩
theorem Cr{F:Value->Value->Sem Value}{g:Int->Int->Bool}(h:OpR X F (xO fun i j=>.bl (g i j))):OpR X F (rD X.K (iB g)):=
 OpR.imp h fun x y H Q q=>by
  obtain⟨Z,a,b,d,zh,ra,rb,e,k⟩:=q;cases ra<;>cases rb<;>simp[iB]at e;subst e;exact⟨_,_,rfl,rfl,k _ Z H (New.refl zh) (.bl _)⟩
theorem qT{F:Value->Value->Sem Value}{P:Int->Int->Prop}{C:Int->Int->Bool}{g:Int->Int->Int}(h:OpR X F (rI P fun i j=>.int (g i j)))(hc:∀i j,C i j=true->P i j):OpR X F (rD X.K (iC C g)):=
 OpR.imp h fun x y H Q q=>by
  obtain⟨Z,a,b,d,zh,ra,rb,e,k⟩:=q;cases ra with
  |int i=>
   cases rb with
   |int j=>
    by_cases hh:C i j=true
    ·simp only[iC,if_pos hh]at e
     cases e;exact⟨_,_,rfl,rfl,hc _ _ hh,k _ Z H (New.refl zh) (.int _)⟩
    ·simp only[iC,if_neg hh]at e
     cases e
   |_=>simp[iC]at e
  |_=>simp[iC]at e
theorem cE:OpR X (binaryOp .Sub) (rD X.K cM):=uH Dz
theorem cN:OpR X (binaryOp .Mult) (rD X.K dW):=qT (P:=fun i j=>IntMulOk i j) (FO fun _ _ _ _ _ _ _ hc q=>mul_int q hc) fun i j h=>of_decide_eq_true h
theorem gv:OpR X (binaryOp .FloorDiv) (rD X.K gg):=qT AT fun i j h=>(of_decide_eq_true h:0<j/\j<1073741824)
theorem cF:OpR X (binaryOp .Mod) (rD X.K b5):=qT DB fun i j h=>of_decide_eq_true h
theorem eP:OpR X (binaryOp .LShift) (rD X.K dZ):=qT (P:=fun i j=>0<=j/\(Builtin.Int.intBits i:Int)+j<=2^27) (FO fun _ _ _ _ _ _ _ hc q=>lshift_int hc.1 hc.2 q) fun i j h=>of_decide_eq_true h
theorem oq:OpR X (binaryOp .RShift) (rD X.K jF):=qT DA fun i j h=>of_decide_eq_true h
theorem ot:OpR X (binaryOp .BitAnd) (rD X.K uc):=uH DC
theorem wD:OpR X (binaryOp .BitOr) (rD X.K zK):=uH FL
theorem vc:OpR X (binaryOp .BitXor) (rD X.K wT):=uH Dy
theorem pW:OpR X (compareOp .Lt) (rD X.K sA):=Cr FM
theorem Iz:OpR X (compareOp .Gt) (rD X.K G9):=Cr FN
theorem jq:GP X (unaryOp .USub) (Jh X.K negD):=by
 intro pins s σ H x v Q I rx q;obtain⟨Z,a,d,zh,ra,e,k⟩:=q;cases ra<;>simp[negD]at e;subst e;exact CY pins s σ H _ v Q I rx ⟨_,rfl,k _ Z H (New.refl zh) (.int _)⟩
theorem Rep.str_eq{K:Fg}{Z:Hp}{v:V}{x:Str}(h:Rep K Z v (.str x)):v=.str x:=by cases h;rfl
theorem Rep.tup_ex{K:Fg}{Z:Hp}{v:V}{ds:List D}(h:Rep K Z v (.tuple ds)):∃a xs,v=.ref a/\SqT K Z a xs/\Reps K Z xs ds:=by
 cases h with
 |tup p q=>exact⟨_,_,rfl,p,q⟩
theorem Rep.lst_ex{K:Fg}{Z:Hp}{v:V}{ds:List D}(h:Rep K Z v (.list ds)):∃a xs,v=.ref a/\SqL K Z a xs/\Reps K Z xs ds:=by
 cases h with
 |lst p q=>exact⟨_,_,rfl,p,q⟩
theorem jh{p:Prop}[Decidable p]{α:Type}{x y:α}(h:(if p then some x else none)=some y):p/\x=y:=by
 by_cases q:p
 ·rw[if_pos q]at h;exact⟨q,Option.some.inj h⟩
 ·rw[if_neg q]at h;cases h
theorem EC{a b d:D}(h:b8 a b=some d):(∃i,a=.int i)\/(∃x,a=.str x)\/(∃xs,a=.list xs)\/∃xs,a=.tuple xs:=by
 cases a with
 |int i=>exact .inl ⟨_,rfl⟩
 |str i=>exact .inr (.inl ⟨_,rfl⟩)
 |list i=>exact .inr (.inr (.inl ⟨_,rfl⟩))
 |tuple i=>exact .inr (.inr (.inr ⟨_,rfl⟩))
 |_=>cases h
theorem ED{i:Int}{b d:D}(h:b8 (.int i) b=some d):∃j,b=.int j/\d=.int (i+j):=by
 cases b with
 |int j=>exact⟨j,rfl,(Option.some.inj h).symm⟩
 |_=>cases h
theorem EA{i:Str}{b d:D}(h:b8 (.str i) b=some d):∃j,b=.str j/\i.length+j.length<=sizeLine/\d=.str (i++j):=by
 cases b with
 |str j=>obtain⟨p,q⟩:=jh h;exact⟨j,rfl,p,q.symm⟩
 |_=>cases h
theorem EB{i:List D}{b d:D}(h:b8 (.list i) b=some d):∃j,b=.list j/\i.length+j.length<=sizeLine/\d=.list (i++j):=by
 cases b with
 |list j=>obtain⟨p,q⟩:=jh h;exact⟨j,rfl,p,q.symm⟩
 |_=>cases h
theorem Ez{i:List D}{b d:D}(h:b8 (.tuple i) b=some d):∃j,b=.tuple j/\i.length+j.length<=sizeLine/\d=.tuple (i++j):=by
 cases b with
 |tuple j=>obtain⟨p,q⟩:=jh h;exact⟨j,rfl,p,q.symm⟩
 |_=>cases h
theorem bW:OpR X (binaryOp .Add) (rD X.K b8):=by
 intro pins s σ H x y v u Q I rx ry q;obtain⟨Z,a,b,d,zh,ra,rb,e,k⟩:=q;rcases EC e with⟨i,rfl⟩|⟨i,rfl⟩|⟨ds,rfl⟩|⟨ds,rfl⟩
 ·obtain⟨j,rfl,rfl⟩:=ED e
  cases ra.int_eq;cases rb.int_eq;exact DD pins s σ H _ _ v u Q I rx ry ⟨_,_,rfl,rfl,k _ Z H (New.refl zh) (.int _)⟩
 ·obtain⟨j,rfl,hl,rfl⟩:=EA e
  cases ra.str_eq;cases rb.str_eq;exact sQ pins s σ H _ _ v u Q I rx ry ⟨_,_,rfl,rfl,hl,k _ Z H (New.refl zh) (.str _)⟩
 ·obtain⟨es,rfl,hl,rfl⟩:=EB e
  obtain⟨a,xs,rfl,h1,q1⟩:=ra.lst_ex;obtain⟨b,ys,rfl,h2,q2⟩:=rb.lst_ex;cases rx;cases ry;obtain⟨its,r1,p1,z1⟩:=I.list (SqL.same h1 zh);obtain⟨its2,r2,p2,z2⟩:=I.list (SqL.same h2 zh);obtain⟨⟨cls,dd,data,sl⟩,n1,ho,hc,hdd,hd⟩:=p1;obtain⟨⟨cls2,dd2,data2,sl2⟩,n2,ho2,hc2,hdd2,hd2⟩:=p2;simp only at hc hd hc2 hd2;subst hc hd hc2 hd2;have hl1:=r1.length;have hl2:=r2.length;have ql1:=q1.length;have ql2:=q2.length;refine concat_meets ⟨_,ho,rfl⟩ ⟨_,ho2,rfl⟩ noFill_list_add seq_list_add PySem.F.slot_list_add PySem.F.entry_list_add (PySem.F.args_list_add_2 _ _) (list_addW a b its.toArray its2.toArray n1 n2 dd dd2 sl sl2 (by simp;omega)) ⟨ho,ho2,?_⟩;have ea:its.toArray++its2.toArray=(its++its2).toArray:=by simp
  rw[ea];have n:=New.add zh I.fresh (.lst (xs++ys));exact⟨.ref _,_,I.lnew (t':=s.toks) (r1.append r2) (by rw[List.length_append];omega),rfl,k _ _ _ n (.lst (SqL.of aX) ((q1.append q2).same n.z))⟩
 ·obtain⟨es,rfl,hl,rfl⟩:=Ez e
  obtain⟨a,xs,rfl,h1,q1⟩:=ra.tup_ex;obtain⟨b,ys,rfl,h2,q2⟩:=rb.tup_ex;by_cases h0:ds.length=0
  ·have hd0:ds=[]:=List.eq_nil_of_length_eq_zero h0
   subst hd0;cases q1;cases rx;cases ry;obtain⟨its,r1,p1,z1⟩:=I.tuple (SqT.same h1 zh);obtain⟨its2,r2,p2,z2⟩:=I.tuple (SqT.same h2 zh);cases r1;obtain⟨⟨cls,dd,data,sl⟩,ho,hc,n,hd⟩:=id p1;obtain⟨⟨cls2,dd2,data2,sl2⟩,ho2,hc2,n2,hd2⟩:=id p2;simp only at hc hd hc2 hd2;subst hc hd hc2 hd2;exact concat_meets ⟨_,ho,rfl⟩ ⟨_,ho2,rfl⟩ noFill_tuple_add seq_tuple_add PySem.F.slot_tuple_add PySem.F.entry_tuple_add (PySem.F.args_tuple_add_2 _ _)
    (tuple_addW0 a b _ its2.toArray n n2 dd dd2 sl sl2 (by simp)) ⟨ho,ho2,⟨.ref b,H,I,rfl,k _ Z H (New.refl zh) (.tup h2 q2)⟩⟩
  refine AU pins s σ H _ _ v u Q I rx ry ⟨a,b,xs,ys,rfl,rfl,SqT.same h1 zh,SqT.same h2 zh,fun z=>h0 (by rw[<-q1.length,z];rfl),by rw[q1.length,q2.length];exact hl,fun z=>?_,fun z p hp=>?_⟩
  ·subst z
   cases q2;rw[List.append_nil]at k;exact k _ Z H (New.refl zh) (.tup h1 q1)
  ·have n:=New.add zh hp (.tup (xs++ys))
   exact k _ _ _ n (.tup (SqT.of aX) ((q1.append q2).same n.z))
theorem kM{d:D}(h:vF d=true):d.canLay0=true:=(Bool.and_eq_true_iff.mp h).1
theorem dM(hu:X.A.units+64<cLine):OpR X (compareOp .Eq) (rD X.K bw):=by
 intro pins s σ H x y v u Q I rx ry q;obtain⟨Z,a,b,d,zh,ra,rb,e,k⟩:=q;by_cases hs:vF a=true/\vF b=true
 ·rw[bw,if_pos hs]at e
  cases e;obtain⟨as,r1⟩:=ra.reads I zh rx (kM hs.1);obtain⟨bs,r2⟩:=rb.reads I zh ry (kM hs.2);exact eq_dataH r1 r2 hs.1 hs.2 hu ⟨.bl _,H,I,rfl,k _ Z H (New.refl zh) (.bl _)⟩
 ·rw[bw,if_neg hs]at e;cases e
theorem BW(hu:X.A.units+64<cLine):OpR X (compareOp .NotEq) (rD X.K neD):=by
 intro pins s σ H x y v u Q I rx ry q;obtain⟨Z,a,b,d,zh,ra,rb,e,k⟩:=q;by_cases hs:vF a=true/\vF b=true
 ·rw[neD,if_pos hs]at e
  cases e;obtain⟨as,r1⟩:=ra.reads I zh rx (kM hs.1);obtain⟨bs,r2⟩:=rb.reads I zh ry (kM hs.2);exact ne_dataH r1 r2 hs.1 hs.2 hu ⟨.bl _,H,I,rfl,k _ Z H (New.refl zh) (.bl _)⟩
 ·rw[neD,if_neg hs]at e;cases e
theorem Reps.at{K:Fg}{Z:Hp}{vs:List V}{ds:List D}{i:Int}{d:D}(r:Reps K Z vs ds)(h:ip ds i=some d):∃v,ip vs i=some v/\Rep K Z v d:=by
 unfold ip at h ⊢;rw[r.length];obtain⟨j,e,h⟩:=bind_some h;obtain⟨v,q,rr⟩:=r.get h;exact⟨v,by rw[e];exact q,rr⟩
theorem Gb{a b d:D}(h:aB a b=some d):(∃xs,a=.list xs)\/∃xs,a=.tuple xs:=by
 cases a with
 |list i=>exact .inl ⟨_,rfl⟩
 |tuple i=>exact .inr ⟨_,rfl⟩
 |_=>cases h
theorem CJ{xs:List D}{b d:D}(h:aB (.list xs) b=some d):∃i,b=.int i/\ip xs i=some d:=by
 cases b with
 |int i=>exact⟨i,rfl,h⟩
 |_=>cases h
theorem ar:IxR X (rD X.K aB):=
 IxR.imp (ix_list.or Eb) fun x y H Q q=>by
  obtain⟨Z,a,b,d,zh,ra,rb,e,k⟩:=q;rcases Gb e with⟨xs,rfl⟩|⟨xs,rfl⟩
  ·obtain⟨i,rfl,e⟩:=CJ e
   obtain⟨a,vs,rfl,h1,q1⟩:=ra.lst_ex;cases rb.int_eq;obtain⟨v,ev,rv⟩:=q1.at e;exact .inl ⟨_,_,_,v,rfl,rfl,SqL.same h1 zh,ev,k v Z H (New.refl zh) rv⟩
  ·obtain⟨i,rfl,e⟩:=CJ (xs:=xs) (b:=b) (by cases b<;>exact e)
   obtain⟨a,vs,rfl,h1,q1⟩:=ra.tup_ex;cases rb.int_eq;obtain⟨v,ev,rv⟩:=q1.at e;exact .inr ⟨_,_,_,v,rfl,rfl,SqT.same h1 zh,ev,k v Z H (New.refl zh) rv⟩
theorem js:CallR X (.builtin "len") (wQ X.K eV):=
 CallR.imp zt fun xs H Q q=>by
  obtain⟨Z,as,d,zh,ra,e,k⟩:=q;cases ra with
  |nil=>cases e
  |cons r1 r2=>
   cases r2 with
   |cons _ _=>cases r1<;>cases e
   |nil=>
    cases r1 with
    |lst h1 q1=>cases e;exact⟨_,_,rfl,.inl ⟨_,SqL.same h1 zh,rfl⟩,k _ Z H (New.refl zh) (by rw[q1.length];exact .int _)⟩
    |tup h1 q1=>cases e;exact⟨_,_,rfl,.inr ⟨_,SqT.same h1 zh,rfl⟩,k _ Z H (New.refl zh) (by rw[q1.length];exact .int _)⟩
    |_=>cases e
theorem qx{K:Fg}{Z:Hp}{xs:List V}{as:List D}{d:D}{g:List D->Option D}{h:Int->Int->Int}(hg:∀as d,g as=some d->∃i j,as=[.int i,.int j]/\d=.int (h i j))(r:Reps K Z xs as)(e:g as=some d):
  ∃i j,xs=[.int i,.int j]/\d=.int (h i j):=by
 obtain⟨i,j,rfl,rfl⟩:=hg _ _ e;cases r with
 |cons r1 r2=>
  cases r2 with
  |cons r3 r4=>
   cases r4;exact⟨i,j,by rw[r1.int_eq,r3.int_eq],rfl⟩
theorem GH(hc:X.calm=true):CallR X (.builtin "min") (wQ X.K Ba):=
 CallR.imp (wE hc) fun xs H Q q=>by
  obtain⟨Z,as,d,zh,ra,e,k⟩:=q;obtain⟨i,j,rfl,rfl⟩:=qx (h:=fun i j=>if j<i then j else i) (fun as d h=>by unfold Ba at h;split at h<;>cases h;exact⟨_,_,rfl,rfl⟩) ra e;exact⟨i,j,rfl,k _ Z H (New.refl zh) (.int _)⟩
theorem zu(hc:X.calm=true):CallR X (.builtin "max") (wQ X.K ng):=
 CallR.imp (wF hc) fun xs H Q q=>by
  obtain⟨Z,as,d,zh,ra,e,k⟩:=q;obtain⟨i,j,rfl,rfl⟩:=qx (h:=fun i j=>if j>i then j else i) (fun as d h=>by unfold ng at h;split at h<;>cases h;exact⟨_,_,rfl,rfl⟩) ra e;exact⟨i,j,rfl,k _ Z H (New.refl zh) (.int _)⟩
theorem CQ:CallR X (.type "int") (wQ X.K yS):=
 CallR.imp wG fun xs H Q q=>by
  obtain⟨Z,as,d,zh,ra,e,k⟩:=q;cases ra with
  |nil=>cases e
  |cons r1 r2=>
   cases r2 with
   |cons _ _=>cases r1<;>cases e
   |nil=>
    cases r1 with
    |int i=>cases e;exact .inl ⟨_,rfl,k _ Z H (New.refl zh) (.int _)⟩
    |bl i=>cases e;exact .inr ⟨_,rfl,k _ Z H (New.refl zh) (.int _)⟩
    |_=>cases e
theorem fm:CallR X (.type "tuple") (wQ X.K dg):=
 CallR.imp nr fun xs H Q q=>by
  obtain⟨Z,as,d,zh,ra,e,k⟩:=q;cases ra with
  |nil=>cases e
  |cons r1 r2=>
   cases r2 with
   |cons _ _=>cases r1<;>cases e
   |nil=>
    cases r1 with
    |lst h1 q1=>cases e;exact⟨_,_,rfl,.inl ⟨SqL.same h1 zh,fun l hl=>let n:=New.add zh hl (.tup _);k _ _ _ n (.tup (SqT.of aX) (q1.same n.z))⟩⟩
    |tup h1 q1=>cases e;exact⟨_,_,rfl,.inr ⟨SqT.same h1 zh,k _ Z H (New.refl zh) (.tup h1 q1)⟩⟩
    |_=>cases e
theorem A9:IM X "int.bit_length" (fun x xs H Q=>∃i,x=.int i/\xs=[]/\Q (.int (Builtin.Int.intBits i)) H):=by
 intro pins s σ H x xs v us Q I rx rs q;obtain⟨i,rfl,rfl,q⟩:=q;obtain⟨t,rfl⟩:=rx;cases rs;exact call_int_bit_length ⟨.int _,H,I.tok _,⟨_,rfl⟩,q⟩
theorem pT{apos:Pos}(ha:EV X a f)(hbase:attributeBase a "bit_length" X.env (eval a X.env)=eval a X.env:=by rfl)(hline:(apos.endLine==pos.line)=true:=by rfl):EV X (.Call (.Attribute a "bit_length" apos) [] [] pos) (o1 f ju):=
 PE.imp (Dw PySem.F.plainAttrs_int PySem.F.slot_int_bit_length PySem.F.type_int_bit_length A9 ha hbase hline) fun σ H Q h=>by
  obtain⟨H₀,Z₀,Z,δ,d,hh,e,k⟩:=h;obtain⟨x,e1,e⟩:=bind_some e;refine⟨H₀,Z₀,Z,δ,x,hh,e1,fun v Z1 H1 hh1 s1 r1=>?_⟩
  cases r1<;>simp[ju]at e;subst e;exact⟨rfl,_,rfl,rfl,k _ Z1 H1 hh1 s1 (.int _)⟩
end
section
variable{X:Cx}{a b c e tg iter:Expr}{es:List Expr}{pos p:Pos}{f f1 f2 f3:Dv->Option D}{fs:Dv->Option (List D)}{ft fu:Dv->Option Bool}{st:Stmt}{sts body orelse:List Stmt}{s1 s2 s3:Sf}
theorem az(he:EV X e f):SV X (.Return (some e) pos) (aY f):=
 PS.imp (Dn he) fun D σ H h=>by
  obtain⟨H₀,Z₀,Z,δ,r,hh,e,k⟩:=h;obtain⟨x,e1,e⟩:=bind_some e;cases e;exact⟨H₀,Z₀,Z,δ,x,hh,e1,fun v Z1 H1 hh1 s1 r1=>k σ H1 Z1 hh1 s1 v r1⟩
theorem aA(i:Nat){x:Str}{pos':Pos}(hN:X.N.Nodup)(he:EV X e f)(hi:X.N[i]? = some x:=by rfl)(hx:Cc X.env.scope x:=by first|exact Or.inl rfl|exact Or.inr rfl)(hs:swapsWith e (some (.Name x pos')) pos.line X.env=pure false:=by rfl)
  (hf:X.fn x=true\/X.env.scope.names.lookup x=some .local:=by first|exact .inl rfl|exact .inr rfl|assumption):SV X (.Assign [.Name x pos'] e pos) (aU i f):=
 PS.imp (xS hN hi hx he hs hf) fun D σ H h=>by
  obtain⟨H₀,Z₀,Z,δ,r,hh,e,k⟩:=h;obtain⟨x,e1,e⟩:=bind_some e;cases e;exact⟨H₀,Z₀,Z,δ,x,hh,e1,fun v Z1 H1 hh1 s1 r1=>k _ H1 Z1 (hh1.set r1) s1⟩
theorem FR{D:Ends}{σ:St}{H:Hp}{K:Fg}(h:E9 K kg D σ H):D.nx σ H:=by
 obtain⟨H₀,Z₀,Z,δ,r,hh,e,k⟩:=h;cases e;exact k σ H Z hh (Same.refl _)
theorem bC:BV X [] kg:=PSs.imp AG fun D σ H h=>FR h
theorem ah(h1:SV X st s1)(h2:BV X sts s2):BV X (st::sts) (ap s1 s2):=
 PSs.imp (xR h1 h2) fun D σ H h=>by
  obtain⟨H₀,Z₀,Z,δ,r,hh,e,k⟩:=h;obtain⟨⟨fl,δ'⟩,e1,e⟩:=bind_some e;refine⟨H₀,Z₀,Z,δ,(fl,δ'),hh,e1,fun σ' H' Z' hh' s'=>?_⟩
  cases fl with
  |nx=>exact⟨H₀,Z₀,Z',δ',r,hh',e,fun σ2 H2 Z2 hh2 s2=>by
    have:=k σ2 H2 Z2 hh2 (s'.trans s2);obtain⟨fl,δ2⟩:=r;cases fl<;>exact this⟩
  |bk=>cases e;exact k σ' H' Z' hh' s'
  |ct=>cases e;exact k σ' H' Z' hh' s'
  |rt d=>cases e;exact k σ' H' Z' hh' s'
theorem ao(h1:SV X st s1):BV X [st] s1:=AF h1
theorem ca(hc:TV X c ft)(ha:BV X body s1)(hb:BV X orelse s2):SV X (.If c body orelse pos) (cw ft s1 s2):=
 PS.imp (Fx hc ha hb) fun D σ H h=>by
  obtain⟨H₀,Z₀,Z,δ,r,hh,e,k⟩:=h;obtain⟨x,e1,e⟩:=bind_some e;refine⟨H₀,Z₀,Z,δ,x,hh,e1,fun Z1 H1 hh1 t1=>?_⟩
  cases x with
  |true=>exact⟨H₀,Z₀,Z1,δ,r,hh1,e,fun σ2 H2 Z2 hh2 t2=>k σ2 H2 Z2 hh2 (t1.trans t2)⟩
  |false=>exact⟨H₀,Z₀,Z1,δ,r,hh1,e,fun σ2 H2 Z2 hh2 t2=>k σ2 H2 Z2 hh2 (t1.trans t2)⟩
theorem Gy{K:Fg}(i:Nat){D:Ends}{σ:St}{H:Hp}(h:E9 K (fun δ=>s1 (wS i δ)) D σ H):E9 K s1 D σ H:=by
 obtain⟨H₀,Z₀,Z,δ,r,hh,e,k⟩:=h;have e:s1 (wS i δ)=some r:=e;unfold wS at e;split at e
 ·rename_i ds q
  obtain⟨Z1,t1,hh1⟩:=hh.frz q;exact⟨H₀,Z₀,Z1,_,r,hh1,e,fun σ2 H2 Z2 hh2 t2=>k σ2 H2 Z2 hh2 (t1.trans t2)⟩
 ·exact⟨H₀,Z₀,Z,_,r,hh,e,k⟩
theorem uq(i:Nat)(h:SV X st s1):SV X st (fun δ=>s1 (wS i δ)):=PS.imp h fun D σ H q=>Gy i q
def JC(K:Fg)(g:D->Dv->Option Dv):TG:=fun v σ H Q=>∃H₀ Z₀ Z δ d δ',Hold K H₀ Z₀ Z δ σ H/\Rep K Z v d/\g d δ = some δ'/\∀ σ' H' Z',Hold K H₀ Z₀ Z' δ' σ' H'->Same Z Z'->Q σ' H'
def GV(X:Cx)(tg:Expr)(g:D->Dv->Option Dv):Prop:=PG X tg (JC X.K g)
theorem PG.imp{t t':TG}(h:PG X tg t)(i:∀v σ H Q,t' v σ H Q->t v σ H Q):PG X tg t':=fun pins s σ H x v Q I r q=>h pins s σ H x v Q I r (i _ _ _ _ q)
theorem cV(i:Nat){x:Str}(hN:X.N.Nodup)(hi:X.N[i]? = some x:=by rfl)(hx:Cc X.env.scope x:=by first|exact Or.inl rfl|exact Or.inr rfl)
  (hf:X.fn x=true\/X.env.scope.names.lookup x=some .local:=by first|exact .inl rfl|exact .inr rfl|assumption):GV X (.Name x pos) (gN i):=
 PG.imp (bm hN hi hx hf) fun v σ H Q h=>by
  obtain⟨H₀,Z₀,Z,δ,d,δ',hh,r,e,k⟩:=h;cases e;exact k _ H Z (hh.set r) (Same.refl _)
structure ItOk (K:Fg) (Z:Hp) (J:It) (ds:List D):Prop where
 go:∀(i:Nat) (H:Hp),Same Z H->i<ds.length->J.go i H
 yld:∀(i:Nat) (H:Hp) x H' d,Same Z H->ds[i]? = some d->J.yld i H x H'->H'=H/\Rep K Z x d
 stop:∀(i:Nat) (H:Hp),Same Z H->ds.length<=i->J.stop i H
def Ho(K:Fg)(f:Dv->Option (List D)):TI:=fun σ H R=>∃H₀ Z₀ Z δ ds,Hold K H₀ Z₀ Z δ σ H/\f δ = some ds/\∀J Z' H',Hold K H₀ Z₀ Z' δ σ H'->Same Z Z'->ItOk K Z' J ds->R J H'
def IV(X:Cx)(tg iter:Expr)(f:Dv->Option (List D)):Prop:=PI X tg iter (Ho X.K f)
theorem PI.imp{t t':TI}(h:PI X tg iter t)(i:∀ σ H R,t' σ H R->t σ H R):PI X tg iter t':=fun pins s σ H R I q=>h pins s σ H R I (i _ _ _ q)
theorem gE{g:D->Dv->Option Dv}(hp:PassesOwn (model X.prog X.w) X.A X.env X.xe)(hc:X.calm=true)(hi:IV X tg iter fs)(hg:GV X tg g)(hb:BV X body s1)
  (hs:∀x,foldedSetIterable iter X.env x=pure x:=by intro _;rfl):SV X (.For tg iter body [] pos) (o6 fs g s1):=
 PS.imp (Do hp hc hi hg hb hs) fun D σ H h=>by
  obtain⟨H₀,Z₀,Z,δ,r,hh,e,k⟩:=h;obtain⟨ds,e1,e⟩:=bind_some e;refine⟨H₀,Z₀,Z,δ,ds,hh,e1,fun J Z1 H1 hh1 t1 ok=>?_⟩
  refine⟨fun i m σ H=>m=ds.length-i/\i<=ds.length/\∃Zc δc,Hold X.K H₀ Z₀ Zc δc σ H/\Same Z1 Zc/\loop g s1 (ds.drop i) δc=some r,⟨ds.length,by simp,Nat.zero_le _,Z1,δ,hh1,Same.refl _,e⟩,?_⟩
  rintro i m σ2 H2 ⟨rfl,hi2,Zc,δc,hhc,tc,ec⟩;have zh:Same Z1 H2:=tc.trans hhc.zh;by_cases hlt:i<ds.length
  ·refine .inr ⟨ok.go i H2 zh hlt,fun σ3 H3=>∃Zc δc,Hold X.K H₀ Z₀ Zc δc σ3 H3/\Same Z1 Zc/\loop g s1 (ds.drop (i+1)) δc=some r,fun σ3 H3 q=>⟨ds.length-(i+1),by omega,rfl,hlt,q⟩,fun x H3 y=>?_⟩
   have ed:ds[i]? = some ds[i]:=by simp[hlt]
   obtain⟨rfl,rx⟩:=ok.yld i H2 x H3 _ zh ed y;rw[List.drop_eq_getElem_cons hlt]at ec;obtain⟨δ1,g1,ec⟩:=bind_some ec;obtain⟨⟨fl,δ2⟩,g2,ec⟩:=bind_some ec;refine⟨H₀,Z₀,Zc,δc,_,δ1,hhc,rx.same tc,g1,fun σ4 H4 Z4 hh4 t4=>⟨H₀,Z₀,Z4,δ1,(fl,δ2),hh4,g2,fun σ5 H5 Z5 hh5 t5=>?_⟩⟩
   cases fl with
   |nx=>exact⟨Z5,δ2,hh5,(tc.trans t4).trans t5,ec⟩
   |ct=>exact⟨Z5,δ2,hh5,(tc.trans t4).trans t5,ec⟩
   |bk=>cases ec;exact k σ5 H5 Z5 hh5 (((t1.trans tc).trans t4).trans t5)
   |rt d=>cases ec;exact k σ5 H5 Z5 hh5 (((t1.trans tc).trans t4).trans t5)
  ·have e2:ds.drop i=[]:=List.drop_eq_nil_iff.mpr (by omega)
   rw[e2]at ec;cases ec;exact .inl ⟨ok.stop i H2 zh (by omega),k σ2 H2 Zc hhc (t1.trans tc)⟩
theorem yM{K:Fg}{Z:Hp}{lo:Int}{n:Nat}:ItOk K Z (EZ lo n) (qP lo n) where
 go:=fun i H _ h=>by simpa[qP,EZ]using h
 yld:=fun i H x H' d _ e y=>by
  obtain⟨rfl,rfl⟩:=y;refine⟨rfl,?_⟩;unfold qP at e;rw[List.getElem?_map]at e;cases q:(List.range n)[i]? with
  |none=>rw[q]at e;cases e
  |some k=>
   rw[q]at e;cases e;have:k=i:=by
    obtain⟨h,h2⟩:=List.getElem?_eq_some_iff.mp q;simpa using h2.symm
   subst this;exact .int _
 stop:=fun i H _ h=>by simpa[qP,EZ]using h
theorem dI(hg:Gl X "range")(hm:X.mg "range" = none)(ha:AV X [a] fs)(hs:starEach [a] X.env=[(false,eval a X.env)]:=by rfl):IV X tg (.Call (.Name "range" p) [a] [] pos) (oL fs da):=
 PI.imp (vR hg hm ha hs) fun σ H R h=>by
  obtain⟨H₀,Z₀,Z,δ,ds,hh,e,k⟩:=h;obtain⟨as,e1,e⟩:=bind_some e;refine⟨H₀,Z₀,Z,δ,as,hh,e1,fun vs Z1 H1 hh1 t1 r1=>?_⟩
  unfold da at e;split at e
  ·rename_i j
   split at e
   ·rename_i hj
    cases e;cases r1 with
    |cons q1 q2=>
     cases q2;exact⟨j,by rw[q1.int_eq],hj.2,hj.1,k _ Z1 H1 hh1 t1 yM⟩
   ·cases e
  ·cases e
theorem By(ha:EV X a f):IV X tg a (oI f DR):=
 PI.imp (AM ha) fun σ H R h=>by
  obtain⟨H₀,Z₀,Z,δ,ds,hh,e,k⟩:=h;obtain⟨y,e1,e⟩:=bind_some e;refine⟨H₀,Z₀,Z,δ,y,hh,e1,fun v Z1 H1 hh1 t1 r1=>?_⟩
  cases r1 with
  | @lst l xs ds' h1 q1=>
   cases e;refine⟨l,rfl,⟨xs,SqL.same h1 hh1.zh⟩,k _ Z1 H1 hh1 t1 ⟨fun i H2 z hi=>?_,fun i H2 x H3 d z ed y=>?_,fun i H2 z hi=>⟨xs,SqL.same h1 z,by rw[q1.length];exact hi⟩⟩⟩
   ·have hi':i<xs.length:=by rw[q1.length];exact hi
    exact⟨xs,xs[i],SqL.same h1 z,by simp[hi']⟩
   ·obtain⟨rfl,y⟩:=y
    obtain⟨v,ev,rv⟩:=q1.get ed;have:=y xs (SqL.same h1 z);rw[ev]at this;cases this;exact⟨rfl,rv⟩
  |_=>cases e
theorem Ed(ha:EV X a f):IV X tg a (oI f Hj):=
 PI.imp (Dq ha) fun σ H R h=>by
  obtain⟨H₀,Z₀,Z,δ,ds,hh,e,k⟩:=h;obtain⟨y,e1,e⟩:=bind_some e;refine⟨H₀,Z₀,Z,δ,y,hh,e1,fun v Z1 H1 hh1 t1 r1=>?_⟩
  cases r1 with
  | @tup l xs ds' h1 q1=>
   cases e;refine⟨l,rfl,⟨xs,SqT.same h1 hh1.zh⟩,k _ Z1 H1 hh1 t1 ⟨fun i H2 z hi=>?_,fun i H2 x H3 d z ed y=>?_,fun i H2 z hi=>⟨xs,SqT.same h1 z,by rw[q1.length];exact hi⟩⟩⟩
   ·have hi':i<xs.length:=by rw[q1.length];exact hi
    exact⟨xs,xs[i],SqT.same h1 z,by simp[hi']⟩
   ·obtain⟨rfl,y⟩:=y
    obtain⟨v,ev,rv⟩:=q1.get ed;have:=y xs (SqT.same h1 z);rw[ev]at this;cases this;exact⟨rfl,rv⟩
  |_=>cases e
end
section
variable{X:Cx}{e:Expr}{lo hi:Option Expr}{p2 pos:Pos}{f:Dv->Option D}
noncomputable def JB(K:Fg)(f:Dv->Option (Option Int)):TO:=fun σ H Q=>∃H₀ Z₀ Z δ d,Hold K H₀ Z₀ Z δ σ H/\f δ = some d/\∀Z' H',Hold K H₀ Z₀ Z' δ σ H'->Same Z Z'->Q d H'
def OV(X:Cx)(e:Option Expr)(f:Dv->Option (Option Int)):Prop:=PO X e (JB X.K f)
theorem PO.imp{eo:Option Expr}{t t':TO}(h:PO X eo t)(i:∀ σ H Q,t' σ H Q->t σ H Q):PO X eo t':=fun pins s σ H Q I q=>h pins s σ H Q I (i _ _ _ q)
theorem po:OV X none GY:=PO.imp AJ fun σ H Q h=>by
 obtain⟨H₀,Z₀,Z,δ,d,hh,e,k⟩:=h;cases e;exact k Z H hh (Same.refl _)
theorem i9(h:EV X e f):OV X (some e) (oP f):=PO.imp (AI h) fun σ H Q h=>by
 obtain⟨H₀,Z₀,Z,δ,d,hh,e,k⟩:=h;obtain⟨x,e1,e⟩:=bind_some e;refine⟨H₀,Z₀,Z,δ,x,hh,e1,fun v Z1 H1 hh1 t1 r1=>?_⟩
 cases r1<;>simp[asI]at e;subst e;exact⟨_,rfl,k Z1 H1 hh1 t1⟩
theorem Reps.cut{K:Fg}{Z:Hp}{vs:List V}{ds:List D}(r:Reps K Z vs ds)(lo hi:Option Int):Reps K Z (nk vs lo hi) (nq ds lo hi):=by
 unfold nk nq;rw[r.length];exact(r.drop _).take _
theorem tS{ds:List D}{lo hi:Option Int}(h1:HT.sIx ds.length 0 lo=0)(h2:HT.sIx ds.length ds.length hi=ds.length):nq ds lo hi=ds:=by
 unfold nq;rw[h1,h2];simp
section
variable{prog:Program}{w:World}{A:Around}{E:Value->Shared->Prop}{s:Shared}
theorem oQ{t sl:Addr}{items:Array Value}{vl vu:Value}{lo hi:Option Int}{Q:Value->Shared->Prop}(ht:IsTup s.heap t items)(hs:s.heap.IsSliceOf sl vl vu .none)(pl:IsPart vl lo)(pu:IsPart vu hi)
  (h1:HT.sIx items.size 0 lo=0) (h2:HT.sIx items.size items.size hi=items.size) (h:Q (.ref t) s):wpAny (model prog w) A (getItem (.ref t) (.ref sl)) Q E s:=by
 obtain⟨osl,hos,hcs,hds⟩:=id hs;have ty:s.TypeIs (.ref sl) "slice":=⟨osl,hos,hcs⟩;unfold getItem
 try with_reducible refine wpAny_holding ?_
 first|refine wpAny_bind (wpAny_pure ?_)|skip
 refine wpAny_bind (wpAny_sequenceKey ht.typeIs (by decide) ?_);refine wpAny_bind (wpAny_callSpecial?_slot (name:=Str.ofString "__getitem__") ht.typeIs PyProof.Rows.slot_tuple_getitem
  (wpAny_call_entry PyProof.Rows.slot_tuple_getitem ht.typeIs PyProof.Rows.entry_tuple_getitem ?_ (PyProof.Rows.args_tuple_getitem _ _)))
 show wpAny _ _ (Builtin.Tuple.tupleItemsOf (.ref t) >>= _) _ _ s;refine wpAny_bind (tupleItemsOf_ ht ?_);refine wpAny_bind (wpAny_typeOf ty ?_);rw[if_pos (by decide)];refine wpAny_bind (HT.fJ hs pl pu ?_);have yes:(((((HT.sIx items.size 0 lo:Nat):Int)==0)&&((1:Int)==1))&&((HT.sIx items.size items.size hi-HT.sIx items.size 0 lo)==items.size))=true:=by
  rw[h1,h2];simp
 show wpAny _ _ (if(((((HT.sIx items.size 0 lo:Nat):Int)==0)&&((1:Int)==1))&&((HT.sIx items.size items.size hi-HT.sIx items.size 0 lo)==items.size))=true then _ else _) _ _ s;rw[if_pos yes];unfold Builtin.Tuple.tupleIsExact;refine wpAny_bind (wpAny_bind (wpAny_typeOf ht.typeIs (wpAny_pure ?_)));rw[if_pos (by decide)];exact wpAny_bind (wpAny_rule (wpAny_pure ⟨_,rfl,wpAny_pure h⟩))
end
def HL(K:PySem.W.Frag):V->Option Int->Option Int->Hp->VK->Prop:=fun x lo hi H Q=>∃a xs,x=.ref a/\SqT K H a xs/\HT.sIx xs.length 0 lo=0/\HT.sIx xs.length xs.length hi=xs.length/\Q (.ref a) H
theorem Ay:SlR X (HL X.K):=by
 intro pins s σ H x v vl vu lo hi sl Q I rx hs pl pu h;obtain⟨a,xs,rfl,hx,w1,w2,q⟩:=h;cases rx;obtain⟨its,r,ht,hz⟩:=I.tuple hx;have hlen:its.toArray.size=xs.length:=by rw[List.size_toArray];exact r.length.symm
 refine⟨"tuple",_,PyProof.Rows.slot_tuple_getitem.lookup,ht.typeIs,?_⟩;exact oQ ht hs pl pu (by rw[hlen];exact w1) (by rw[hlen];exact w2) ⟨.ref a,H,I,rfl,q⟩
theorem jn{fl fu:Dv->Option (Option Int)}(he:EV X e f)(hl:OV X lo fl)(hu:OV X hi fu):EV X (.Subscript e (.Slice lo hi none p2) pos) (FQ f fl fu):=
 PE.imp (x8 (sl_list.or (sl_tup.or Ay)) he hl hu) fun σ H Q h=>by
  obtain⟨H₀,Z₀,Z,δ,d,hh,e,k⟩:=h;obtain⟨x,e1,e⟩:=bind_some e;obtain⟨i,e2,e⟩:=bind_some e;obtain⟨j,e3,e⟩:=bind_some e;refine⟨H₀,Z₀,Z,δ,x,hh,e1,fun v Z1 H1 hh1 t1 r1=>⟨H₀,Z₀,Z1,δ,i,hh1,e2,fun Z2 H2 hh2 t2=>⟨H₀,Z₀,Z2,δ,j,hh2,e3,fun Z3 H3 hh3 t3=>?_⟩⟩⟩
  have r3:=(r1.same t2).same t3;have tt:=(t1.trans t2).trans t3;cases r3 with
  | @lst a xs ds h1 q1=>
   cases e;refine .inl ⟨_,_,rfl,SqL.same h1 hh3.zh,fun p hp=>?_⟩
   have n:=New.add hh3.zh hp (.lst (nk xs i j));exact k _ _ _ (hh3.new n) (tt.trans n.z) (.lst (SqL.of aX) ((q1.cut i j).same n.z))
  | @tup a xs ds h1 q1=>
   simp only[EH]at e;cases e;by_cases hw:HT.sIx ds.length 0 i=0/\HT.sIx ds.length ds.length j=ds.length
   ·refine .inr (.inr ⟨_,_,rfl,SqT.same h1 hh3.zh,by rw[q1.length];exact hw.1,by rw[q1.length];exact hw.2,?_⟩)
    refine k _ _ _ hh3 tt ?_;rw[tS hw.1 hw.2];exact .tup h1 q1
   ·refine .inr (.inl ⟨_,_,rfl,SqT.same h1 hh3.zh,by rw[q1.length];exact hw,fun p hp=>?_⟩)
    have n:=New.add hh3.zh hp (.tup (nk xs i j));exact k _ _ _ (hh3.new n) (tt.trans n.z) (.tup (SqT.of aX) ((q1.cut i j).same n.z))
  |_=>cases e
end
structure FunV (K:PySem.W.Frag) (x qual:Str) (st:Stmt) (f:Addr) (fd:FuncData) (dV:Value):Prop where
 ex:∃(oc:Value) (od:Option Addr) (kV doc pm:Value) (an:Option Addr) (cdv ct:Value) (osl:Array (Option Value)),
  fd=PySem.W.fnOf x qual (bS st) (bE st) (ag st) dV kV doc pm an cdv ct/\K.lookup f=some ⟨oc,od,.func fd,osl⟩/\PySem.W.codeIn K cdv qual=true
 kp:PySem.W.keepIn K (.ref f)=true
section
variable{P:Program}{w:World}{K:PySem.W.Frag}{mg:Str->Option Value}{base:Heap}
theorem vE{N:List Str}{vs:List V}{as:List D}{Z:Hp}(r:Reps K Z vs as):∀(i:Nat) d,(aq N as)[i]? = some (.fz d)->∃v,(gF N vs)[i]? = some (some v)/\Rep K Z v d:=by
 intro i d e;unfold aq at e;unfold L2.gF;by_cases hi:i<as.length
 ·rw[List.getElem?_append_left (by simpa using hi),List.getElem?_map]at e
  cases q:as[i]? with
  |none=>rw[q]at e;cases e
  |some d'=>
   rw[q]at e;cases e;obtain⟨v,ev,rv⟩:=r.get q;exact⟨v,by rw[List.getElem?_append_left (by simpa[r.length]using hi),List.getElem?_map,ev];rfl,rv⟩
 ·rw[List.getElem?_append_right (by simpa using hi),List.getElem?_replicate]at e
  split at e<;>cases e
theorem nJ{N:List Str}{as:List D}:∀(i:Nat) ds,(aq N as)[i]? ≠ some (.own ds):=by
 intro i ds e;unfold aq at e;by_cases hi:i<as.length
 ·rw[List.getElem?_append_left (by simpa using hi),List.getElem?_map]at e
  cases q:as[i]? with
  |none=>rw[q]at e;cases e
  |some d'=>rw[q]at e;cases e
 ·rw[List.getElem?_append_right (by simpa using hi),List.getElem?_replicate]at e
  split at e<;>cases e
theorem xr{N:List Str}{as:List D}:∀(i:Nat) ds,(aq N as)[i]? ≠ some (.fr ds):=by
 intro i ds e;unfold aq at e;by_cases hi:i<as.length
 ·rw[List.getElem?_append_left (by simpa using hi),List.getElem?_map]at e
  cases q:as[i]? with
  |none=>rw[q]at e;cases e
  |some d'=>rw[q]at e;cases e
 ·rw[List.getElem?_append_right (by simpa using hi),List.getElem?_replicate]at e
  split at e<;>cases e
theorem tF{N:List Str}{vs:List V}{as:List D}{Z H:Hp}(zh:Same Z H)(r:Reps K Z vs as):Hold K H Z Z (aq N as) (gF N vs) H:=
 ⟨zh,Same.refl _,Same.refl _,fun _ _=>rfl,by simp[aq,L2.gF,r.length],vE r,fun i ds e=>absurd e (nJ i ds),fun i j ds es a _ e=>absurd e (nJ i ds),fun i ds e=>absurd e (xr i ds),NoF.refl _⟩
theorem Iw{x qual:Str}{st:Stmt}{f:Addr}{fd:FuncData}{dV:Value}{N ps:List Str}{k:Nat}{g:List D->Option D}{b:Sf}(F:FunV K x qual st f fd dV)(S:FnScope N ps (ag st))(len:∀as d,g as=some d->as.length=ps.length)
  (hb:∀(cdv:Value) (A:Around) (outer:List Env) (s:Shared) (H:Hp) (E:XK),Room k (A.deeper (envOfC qual (ag st) s.heap.objs.size f cdv))->BV (tQ dy P w K mg base N qual (ag st) f cdv A outer s H E).nox (bE st) b)
  (hg:∀as d,g as=some d->∃ δ',b (aq N as)=some (.rt d,δ')\/(d=.none/\b (aq N as)=some (.nx,δ'))):FnOk P w K mg base dy (k+1) f fd ps (dS K g):=by
 obtain⟨oc,od,kV,doc,pm,an,cdv,ct,osl,rfl,lk,hcd⟩:=F.ex;refine Gz lk hcd S (fun vs H Q E h=>?_) fun A outer s H vs Q E hr hsp=>?_
 ·obtain⟨Z,as,d,zh,r,e,_⟩:=h
  rw[r.length];exact len as d e
 ·refine⟨_,PSs.nox (hb cdv A outer s H E hr),?_⟩
  obtain⟨Z,as,d,zh,r,e,kk⟩:=hsp;have hh:=tF (N:=N) zh r;have fin:∀{σ':St} {H' Z':Hp} {δ':Dv},Hold K H Z Z' δ' σ' H'->Same Z Z'->New Z H Z' H':=fun h' z'=>⟨z',h'.h0,h'.zh,h'.zb,h'.nf⟩
  obtain⟨δ',e2|⟨rfl,e2⟩⟩:=hg as d e
  ·exact⟨H,Z,Z,_,_,hh,e2,fun σ' H' Z' h' z' v rv=>kk v Z' H' (fin h' z') rv⟩
  ·exact⟨H,Z,Z,_,_,hh,e2,fun σ' H' Z' h' z'=>kk _ Z' H' (fin h' z') .non⟩
theorem FunV.binds{x qual:Str}{st:Stmt}{f:Addr}{fd:FuncData}{ps:List Str}(F:FunV K x qual st f fd .none)
  (h:∀(kV doc pm:Value) (an:Option Addr) (cdv ct:Value) (us:List Value),us.length=ps.length->bindArgs (PySem.W.fnOf x qual (bS st) (bE st) (ag st) .none kV doc pm an cdv ct) ⟨us,[]⟩=pure (ps.zip us)):Binds K fd ps []:=by
 obtain⟨oc,od,kV,doc,pm,an,cdv,ct,osl,rfl,lk,hcd⟩:=F.ex;exact .all (h kV doc pm an cdv ct)
theorem FunV.bindsD{x qual:Str}{st:Stmt}{f T:Addr}{fd:FuncData}{ps:List Str}{o:Obj}{items:Array Value}{n:Nat}{ds:List Value}(F:FunV K x qual st f fd (.ref T))(ho:K.lookup T=some o)(hs:o.data=.seq items n)(nu:Nat)(hn:nu+ds.length=ps.length)
  (h:∀(kV doc pm:Value) (an:Option Addr) (cdv ct:Value) (us:List Value),us.length=nu->∃kk,bindArgs (PySem.W.fnOf x qual (bS st) (bE st) (ag st) (.ref T) kV doc pm an cdv ct) ⟨us,[]⟩=seqItems? (.ref T) >>= kk/\kk (some items)=pure (ps.zip (us++ds))):Binds K fd ps ds:=by
 obtain⟨oc,od,kV,doc,pm,an,cdv,ct,osl,rfl,lk,hcd⟩:=F.ex;intro s us KX hl;obtain⟨kk,h1,h2⟩:=h kV doc pm an cdv ct us (by rw[List.length_append]at hl;omega);exact BindsTo.of_defaults rfl (KX _ _ ho) hs h1 h2
theorem f7{x qual:Str}{st:Stmt}{f:Addr}{dV oc:Value}{od an:Option Addr}{osl:Array (Option Value)}{kV doc pm cdv ct:Value}(l:K.lookup f=some ⟨oc,od,.func (PySem.W.fnOf x qual (bS st) (bE st) (ag st) dV kV doc pm an cdv ct),osl⟩)
  (c:PySem.W.codeIn K cdv qual=true) (k:PySem.W.keepIn K (.ref f)=true):FunV K x qual st f (PySem.W.fnOf x qual (bS st) (bE st) (ag st) dV kV doc pm an cdv ct) dV:=⟨⟨oc,od,kV,doc,pm,an,cdv,ct,osl,rfl,l,c⟩,k⟩
def uv(K:PySem.W.Frag):Sp:=fun vs H Q _=>∃(a:Addr) (ns:List Int),vs=[.ref a]/\SqL K H a (ns.map V.int)/\ns.length<=63/\∀H',Q (.bl true) H'
theorem F7{g:List D->Option D}{k:Nat}{f:Addr}{fd:FuncData}(F:FnOk P w K mg base dy k f fd ["script"] (dS K g))(hg:∀ns:List Int,ns.length<=63->g [.list (ns.map .int)]=some (.bool true)):FnOk P w K mg base dy k f fd ["script"] (uv K):=
 F.imp fun vs H Q E h=>by
  obtain⟨a,ns,rfl,hS,hl,q⟩:=h;exact⟨H,[.list (ns.map .int)],.bool true,Same.refl _,.cons (.lst hS (Reps.ints ns)) .nil,hg ns hl,fun v Z' H' _ r=>by cases r;exact q H'⟩
end
theorem E3{k:Nat}{l:PySem.W.OpenLaw}{q:Program}{loose:List Str}{XP:(Str->Option Value)->Heap->Prop}{YP:World->Heap->Prop}{d:DefRec}{K:Params->PySem.W.Frag}(hn:l.most=some 63)(hr:Room k callerA)(hdf:d.params.defaults=[])
  (hY:∀(w:World) (h:Heap),YP w h->(K w.params).In h)
  (F:∀(w:World) (mg:Str->Option Value) (fa:Addr) (h:Heap),(K w.params).In h->h.Ns mainGlobals mg->mg d.name=some (.ref fa) ->
   ∃fd:FuncData,(∀(s:Shared) (u:Value),BindsTo s fd ⟨[u],[]⟩ [("script",u)])/\∀base:Heap,(K w.params).In base->base.Ns mainGlobals mg->FnOk l.prog w (K w.params) mg base dy k fa fd ["script"] (uv (K w.params))) :
  PySem.W.WalkO q loose XP YP l.row.toRowW d [] (fun f vs=>PySem.call f vs):=
 L2.Al (n:=63) (k:=k) (x:="script") (CX:=fun _=>dy) (sp:=fun w=>uv (K w.params)) hn (by decide) hdf hr hY F (fun _ _ a ns hl _ hS=>⟨a,ns,rfl,hS,hl,fun _=>rfl⟩) fun _ _ _ _ _ z=>z
section
variable{P:Program}{w:World}{K:PySem.W.Frag}{mg:Str->Option Value}{base:Heap}
theorem cv{x qual:Str}{st:Stmt}{f:Addr}{fd:FuncData}{dV:Value}{N ps:List Str}{k:Nat}{b:Sf}(F:FunV K x qual st f fd dV)(S:FnScope N ps (ag st))
  (hb:∀(cdv:Value) (A:Around) (outer:List Env) (s:Shared) (H:Hp) (E:XK),Room k (A.deeper (envOfC qual (ag st) s.heap.objs.size f cdv))->BV (tQ dy P w K mg base N qual (ag st) f cdv A outer s H E).nox (bE st) b) :
  FnOk P w K mg base dy (k+1) f fd ps (dS K (aD N ps.length b)):=by
 refine Iw F S (fun as d h=>?_) hb fun as d h=>?_
 ·unfold aD at h
  split at h
  ·assumption
  ·cases h
 ·unfold aD at h
  split at h
  ·obtain⟨⟨fl,δ'⟩,e,h⟩:=bind_some h
   cases fl with
   |nx=>cases h;exact⟨δ',.inr ⟨rfl,e⟩⟩
   |rt d=>cases h;exact⟨δ',.inl e⟩
   |bk=>cases h
   |ct=>cases h
  ·cases h
structure Cal (P:Program) (w:World) (K:PySem.W.Frag) (mg:Str->Option Value) (base:Heap) (x:Str) (k:Nat) (g:List D->Option D) (dd:List D):Prop where
 ex:∃(fa:Addr) (fd:FuncData) (ps:List Str) (ds:List Value) (dv:List V),FnOk P w K mg base dy k fa fd ps (dS K g)/\mg x=some (.ref fa)/\PySem.W.keepIn K (.ref fa)=true/\Binds K fd ps ds/\Vals dv ds/\∀Z,Reps K Z dv dd
theorem Cal.mk0{x:Str}{k:Nat}{g:List D->Option D}{fa:Addr}{fd:FuncData}{ps:List Str}(F:FnOk P w K mg base dy k fa fd ps (dS K g))(hm:mg x=some (.ref fa))(hk:PySem.W.keepIn K (.ref fa)=true)(hb:Binds K fd ps []):Cal P w K mg base x k g []:=
 ⟨⟨fa,fd,ps,[],[],F,hm,hk,hb,.nil,fun _=>.nil⟩⟩
end
section
variable{X:Cx}{e:Expr}{es:List Expr}{p pos:Pos}{fs:Dv->Option (List D)}
theorem Ek{k:Nat}{x:Str}{g:List D->Option D}{dd:List D}(C:Cal X.prog X.w X.K X.mg X.base x k g dd)(hr:Room k X.A)(hg:Gl X x)(ha:AV X (e::es) fs)(hdb:(x==("__debug__":Str))=false:=by decide)(he:starEach (e::es) X.env=(false,eval e X.env)::starEach es X.env:=by rfl)
  (hpl:(backTo pos (starEach es X.env)).any (·.1)=false:=by rfl):EV X (.Call (.Name x p) (e::es) [] pos) (os fs fun as=>g (as++dd)):=by
 obtain⟨fa,fd,ps,ds,dv,F,hm,hk,hb,hd,hdd⟩:=C.ex;exact BN F hr hg hm hk hb hd hdd Cq ha hdb he hpl
variable{tg a:Expr}{f:Dv->Option D}
theorem b6(ha:EV X a f):IV X tg a (oI f df):=by
 intro pins s σ H R I h;obtain⟨H₀,Z₀,Z,δ,ds,hh,e,k⟩:=h;obtain⟨y,e1,e⟩:=bind_some e;cases y with
 |list xs=>exact By ha pins s σ H R I ⟨H₀,Z₀,Z,δ,ds,hh,by unfold oI;rw[e1];exact e,k⟩
 |tuple xs=>exact Ed ha pins s σ H R I ⟨H₀,Z₀,Z,δ,ds,hh,by unfold oI;rw[e1];exact e,k⟩
 |_=>cases e
end
noncomputable def iH(env:Env):List (Str×NameKind)->List (Str×Addr)->List (Str×Addr)
 |[],cs=>cs
 | (n,k)::r,cs=>if k == .free then iH env r ((n,(env.cells.lookup n).getD 0)::cs)else iH env r cs
theorem mo{env:Env}:∀(l:List (Str×NameKind)) (cs:List (Str×Addr)),(∀y∈l,y.2=.free->∃c,env.cells.lookup y.1=some c) ->
  (forIn l cs fun(x:Str×NameKind) (r:List (Str×Addr))=>(if(x.2==NameKind.free)=true then do let c <-cellOf env x.1;pure (ForInStep.yield ((x.1,c)::r))else pure (ForInStep.yield r):Sem (ForInStep (List (Str×Addr)))))=pure (iH env l cs)
 |[],cs,_=>rfl
 | (n,k)::r,cs,h=>by
  have ih:=fun cs'=>mo r cs' fun y hy=>h y (List.mem_cons_of_mem _ hy)
  rw[List.forIn_cons];cases hk:k==NameKind.free with
  |true=>
   have hk':k=.free:=by simpa using hk
   obtain⟨c,ec⟩:=h (n,k) List.mem_cons_self hk';have e1:cellOf env n=pure c:=by unfold cellOf;rw[ec]
   simp only[hk,if_true,e1,pure_bind,iH,ec,Option.getD_some];exact ih _
  |false=>
   simp only[hk,Bool.false_eq_true,if_false,pure_bind,iH];exact ih _
theorem fE{scope:Scope}{env:Env}(h:∀y∈scope.names,y.2=.free->∃c,env.cells.lookup y.1=some c):closureFor scope env=pure (iH env scope.names []):=by
 simp only[closureFor];have:=mo (env:=env) scope.names [] h
 first
  | (rw[this];rfl)
  | (simp only[this];rfl)
  | (unfold closureFor;simp_all)
theorem bu{env:Env}:∀(l:List (Str×NameKind)) (cs:List (Str×Addr)) (y:Str) (c:Addr),(∀z∈l,z.2=.free->∃c,env.cells.lookup z.1=some c)->(iH env l cs).lookup y=some c->cs.lookup y=some c\/env.cells.lookup y=some c
 |[],cs,y,c,_,e=>.inl e
 | (n,k)::r,cs,y,c,h,e=>by
  unfold iH at e;have hr:=fun z hz=>h z (List.mem_cons_of_mem _ hz)
  split at e
  ·rename_i hk
   rcases bu r _ y c hr e with q|q
   ·rw[List.lookup_cons]at q
    cases hy:y==n with
    |true=>
     have hy':y=n:=by simpa using hy
     subst hy';rw[hy]at q;obtain⟨c',ec⟩:=h (y,k) List.mem_cons_self (by simpa using hk);simp only[ec,Option.getD_some]at q;cases q;exact .inr ec
    |false=>rw[hy]at q;exact .inl q
   ·exact .inr q
  ·exact bu r cs y c hr e
theorem jr{env:Env}:∀(l:List (Str×NameKind)) (cs:List (Str×Addr)) (y:Str),((y,NameKind.free)∈l\/(cs.lookup y).isSome=true)->((iH env l cs).lookup y).isSome=true
 |[],cs,y,h=>by
  rcases h with h|h
  ·cases h
  ·exact h
 | (n,k)::r,cs,y,h=>by
  unfold iH;split
  ·rename_i hk
   refine jr r _ y ?_;rcases h with h|h
   ·rcases List.mem_cons.mp h with e|e
    ·cases e;exact .inr (by simp[List.lookup_cons])
    ·exact .inl e
   ·refine .inr ?_
    rw[List.lookup_cons];cases hy:y==n with
    |true=>rfl
    |false=>exact h
  ·rename_i hk
   refine jr r cs y ?_;rcases h with h|h
   ·rcases List.mem_cons.mp h with e|e
    ·cases e;exact absurd rfl hk
    ·exact .inl e
   ·exact .inr h
theorem eN{env:Env}{y:Str}:∀(l:List (Str×NameKind)),(∀z∈l,z.2≠.cell) ->
  (((l.map fun(n,k)=>if(k==NameKind.free&&env.scope.kind == .function&&env.kindOf n==some .cell)then(n,NameKind.cell)else(n,k)).lookup y=some .cell\/(l.map fun(n,k)=>if(k==NameKind.free&&env.scope.kind == .function&&env.kindOf n==some .cell)then(n,NameKind.cell)else(n,k)).lookup y=some .free)↔l.lookup y=some .free)
 |[],_=>by simp
 | (n,k)::r,h=>by
  have ih:=eN (env:=env) (y:=y) r fun z hz=>h z (List.mem_cons_of_mem _ hz)
  have hk:k≠.cell:=h (n,k) List.mem_cons_self;rw[List.map_cons];cases hy:y==n with
  |true=>
   by_cases hc:(k==NameKind.free&&env.scope.kind == .function&&env.kindOf n==some .cell)=true
   ·have hf:k=.free:=by
     simp only[Bool.and_eq_true]at hc;simpa using hc.1.1
    simp only[if_pos hc,List.lookup_cons,hy];simp[hf]
   ·simp only[if_neg hc,List.lookup_cons,hy]
    simp[hk]
  |false=>
   by_cases hc:(k==NameKind.free&&env.scope.kind == .function&&env.kindOf n==some .cell)=true
   ·simp only[if_pos hc,List.lookup_cons,hy];exact ih
   ·simp only[if_neg hc,List.lookup_cons,hy];exact ih
noncomputable def dz(X:Cx)(scope:Scope)(N:List Str)(C:Addr)(s₀:Shared)(H₀:Hp)(ex:List Addr):Cx:=
 { X with N:=N,s₀:=s₀,H₀:=H₀,env:=compEnvC scope (iH X.env scope.names []) C X.env,outer:=X.stack,stack:=X.stack,ex:=ex,fn:=fun _=>false,pn:=[],xe:=fun _ _=>False }
structure BlkOk (on:List (Str×NameKind)) (ON:List Str) (scope:Scope) (vars:List Str) (caps:List (Nat×Str)):Prop where
 kind:scope.kind=.function
 cell:∀y∈scope.names,y.2≠.cell
 names:∀y∈scope.names,y.2=.local->scope.names.lookup y.1=some .local
 free:∀y∈scope.names,y.2=.free->on.lookup y.1=some .cell\/on.lookup y.1=some .free
 cap:∀p∈caps,ON[p.1]? = some p.2/\scope.names.lookup p.2=some .free
section
variable{X:Cx}{pins:List (Addr×Obj)}{σ:St}{H H':Hp}{s s':Shared}{scope:Scope}{vars:List Str}{caps:List (Nat×Str)}{fp:List Addr}{C:Addr}
noncomputable def fF(σ:St)(caps:List (Nat×Str)):St:=caps.map fun p=>(σ[p.1]?).getD none
theorem BlkOk.cells(B:BlkOk X.env.scope.names X.N scope vars caps)(I:Inv X pins σ H s):∀y∈scope.names,y.2=.free->∃c,X.env.cells.lookup y.1=some c:=fun y hy e=>I.ok.has y.1 (B.free y hy e)
theorem tY(B:BlkOk X.env.scope.names X.N scope vars caps)(I:Inv X pins σ H s)(hf:∀b∈fp,iM X pins H b)(hlt:∀b∈fp,b<s.heap.objs.size)(hC:s.heap.objs.size<=C):(dz X scope (vars++caps.map (·.2)) C s H fp).Ok where
 mod:=I.ok.mod
 kind:=B.kind
 glob:=I.ok.glob
 blt:=I.ok.blt
 above:=hC
 inj:=fun x y c e1 e2=>by
  rcases bu _ _ _ _ (B.cells I) e1 with q1|q1
  ·cases q1
  ·rcases bu _ _ _ _ (B.cells I) e2 with q2|q2
   ·cases q2
   ·exact I.ok.inj x y c q1 q2
 has:=fun x e=>by
  have:scope.names.lookup x=some .free:=(eN scope.names B.cell).mp e;have:=jr (env:=X.env) scope.names [] x (.inl (PySem.mem_of_lookup this));exact Option.isSome_iff_exists.mp this
 cab:=fun x c e=>nomatch e
 hd:=I.ok.hd
 frames:=I.ok.frames
 stk:=.inl rfl
 exf:=fun b hb=>⟨Nat.ne_of_lt (Nat.lt_of_lt_of_le (hlt b hb) hC),fun x c e=>by
  rcases bu _ _ _ _ (B.cells I) e with q|q
  ·cases q
  ·exact(hf b hb).2.2.2.2.1 x c q⟩
 bs:=I.bs
 bsz:=Nat.le_trans I.ok.bsz I.sz
 noex:=fun b o e hb=>by
  rcases (hf b hb).2.2.2.1 with z|z
  ·exact I.ok.noex b o e z
  ·exact absurd (Nat.lt_of_lt_of_le (Heap.lt_size e) (Nat.le_trans I.ok.bsz z)) (Nat.lt_irrefl _)
 exfs:=fun b hb z=>by
  rcases List.mem_cons.mp (I.stkSub b z)with q|q
  ·exact(hf b hb).2.1 q
  ·exact(hf b hb).2.2.1 q
 funs:=I.stack
 frf:=I.stkFree
theorem vk(B:BlkOk X.env.scope.names X.N scope vars caps)(I:Inv X pins σ H s)(hf:∀b∈fp,iM X pins H b)(hlt:∀b∈fp,b<s.heap.objs.size)(hC:s.heap.objs.size<=C){h₁:Heap}{m:Str->Option Value}{tk:Nat}(hns:h₁.Ns C m)(old:∀b o,s.heap.get? b=some o->h₁.get? b=some o):
  Inv (dz X scope (vars++caps.map (·.2)) C s H fp) [] (vars.map (fun _=>none)++fF σ caps) H { s with heap:=h₁,toks:=tk }:=by
 refine⟨tY B I hf hlt hC,rfl,I.bare,Un.kept old,⟨m,hns,fun i x v e1 e2 e3=>?_⟩,fun x c e=>?_,I.hok.fresh hC,fun x c e=>?_,fun p hp=>absurd (show p∈([]:List (Addr×Obj))from hp) (by simp),I.hok.kept old,?_⟩
 ·have e1:(vars++caps.map (·.2))[i]? = some x:=e1
  by_cases hi:i<vars.length
  ·rw[List.getElem?_append_left (by simpa using hi),List.getElem?_map]at e2
   cases q:vars[i]?<;>rw[q]at e2<;>cases e2
  ·rw[List.getElem?_append_right (by simpa using hi)]at e1 e2
   simp only[List.length_map]at e2;unfold fF at e2;rw[List.getElem?_map]at e1 e2;cases q:caps[i-vars.length]? with
   |none=>rw[q]at e1;cases e1
   |some p=>
    rw[q]at e1 e2;cases e1;have hp:=List.mem_of_getElem? q;obtain⟨g1,g2⟩:=B.cap p hp;have gf:X.env.scope.names.lookup p.2=some .cell\/X.env.scope.names.lookup p.2=some .free:=B.free (p.2,.free) (PySem.mem_of_lookup g2) rfl;have ev:σ[p.1]? = some (some v):=by
     have e2:(σ[p.1]?).getD none=some v:=Option.some.inj e2;cases z:σ[p.1]? with
     |none=>rw[z]at e2;cases e2
     |some w=>rw[z]at e2;rw[show w=some v from e2]
    obtain⟨m',_,hl⟩:=I.loc;obtain⟨u,r,l⟩:=hl p.1 p.2 v g1 ev (gf.elim (fun z=>.inr (.inl z)) fun z=>.inr (.inr z))
    refine⟨u,r,.inr ⟨?_,?_⟩⟩
    ·exact(eN scope.names B.cell).mpr g2
    ·rcases l with⟨z,_⟩|⟨_,c,ec,hc⟩
     ·have z:X.env.scope.names.lookup p.2=some .local:=z
      rcases gf with w|w<;>rw[z]at w<;>cases w
     ·obtain⟨c',q'⟩:=Option.isSome_iff_exists.mp (jr (env:=X.env) scope.names [] p.2 (.inl (PySem.mem_of_lookup g2)))
      rcases bu _ _ _ _ (B.cells I) q' with w|w
      ·cases w
      ·rw[ec]at w
       cases w;obtain⟨o,ho,hd⟩:=hc;exact⟨c,q',o,old c o ho,hd⟩
 ·rcases bu _ _ _ _ (B.cells I) e with q|q
  ·cases q
  ·obtain⟨v,o,ho,hd⟩:=I.cell x c q
   exact⟨v,o,old c o ho,hd⟩
 ·rcases bu _ _ _ _ (B.cells I) e with q|q
  ·cases q
  ·exact I.freeC x c q
 ·simp[dz,fF]
theorem vj(I:Inv X pins σ H s)(hf:∀b∈fp,iM X pins H b){D:Addr}{s':Shared}{σ':St}{N:List Str}{ys:List V}{its:List Value}(hC:s.heap.objs.size<=C)(hD:s.heap.objs.size<=D)(hDC:D≠C)
  (J:Inv (dz X scope N C s H fp) [] σ' H' s') (hD':H' D=none) (hp:s'.heap.PlainList D its.toArray) (hv:Vals ys its) (hz:ys.length<=sizeLine) {h':Heap} (hs:Heap.SameBut C s'.heap h') :
  Inv X pins σ (upd H' D (.lst ys)) { s' with heap:=h' }:=by
 have U:Un (u6 X.stack) fp H H' s.heap s'.heap:=J.base;have neC:∀b o,s.heap.get? b=some o->b≠C:=fun b o e=>Nat.ne_of_lt (Nat.lt_of_lt_of_le (Heap.lt_size e) hC)
 have neD:∀b o,s.heap.get? b=some o->b≠D:=fun b o e=>Nat.ne_of_lt (Nat.lt_of_lt_of_le (Heap.lt_size e) hD)
 have mv:∀b o,b≠C->s'.heap.get? b=some o->h'.get? b=some o:=fun b o hb e=>hs.extBut b o hb e
 have tD:∀b o,H' b=some o->(upd H' D (.lst ys)) b=some o:=fun b o e=>by rw[aV (bN e hD')];exact e
 refine I.call' (s':={ s' with heap:=h' }) (ch:=fp) J.os ⟨fun b o e n h1 h2=>mv b o (neC b o e) (U.keep b o e n h1 h2),fun b o e n h1 h2=>?_,fun b o e n h2=>?_,fun b o e h2=>?_,fun b xs e=>tD _ _ (U.tups b xs e),fun b o xs e=>tD _ _ (U.frzs b o xs e),fun b ps e=>?_⟩ (fun b o e=>?_) J.bare
  (fun b hb=>⟨(hf b hb).2.2.2.1,(hf b hb).2.1,(hf b hb).2.2.2.2.1,(hf b hb).2.2.2.2.2⟩)
 ·obtain⟨sl,q⟩:=U.slot b o e n h1 h2
  exact⟨sl,mv b _ (neC b o e) q⟩
 ·rw[aV (neD b o e)];exact U.free b o e n h2
 ·obtain⟨o',q⟩:=U.there b o e h2
  exact⟨o',mv b _ (neC b o e) q⟩
 ·obtain⟨more,q⟩:=U.tbls b ps e
  exact⟨more,tD _ _ q⟩
 ·by_cases hb:b=D
  ·subst hb
   rw[aX]at e;cases e;obtain⟨n,q⟩:=hp;exact⟨hz,its,n,hv,mv _ _ hDC q⟩
  ·rw[aV hb]at e
   refine(J.hok b o e).stay (fun c v hc q=>mv c v ?_ q) (fun c q=>tD _ _ q) fun c xs q=>tD _ _ q
   intro z;have fc:H' C=none:=J.free;rcases hc with w|w
   ·rw[<-w,z,fc]at e;cases e
   ·rw[z,fc]at w;cases w
theorem rW(elt target iter:Expr)(scope:Scope)(pos:Pos)(it acc:Value)(env:Env):
  compTurn (.ListComp elt [⟨target,iter,[],0⟩] scope pos) 0 it acc env=(standAt iter.pos >>= fun _=>pyNext it >>= fun r=>match r with
   |none=>pure (.done .next)
   |some v=>letOwnedTupleGo target it v >>= fun _=>assign target env v >>= fun _=>
    (eval elt env >>= fun x=>call (.builtin "list.append") [acc,x] >>= fun _=>pure ()) >>= fun _=>
     again (.compLoop (.ListComp elt [⟨target,iter,[],0⟩] scope pos) 0 it acc env)):=by rfl
def vv(σ σ':St):Prop:=σ.length = σ'.length/\∀(i:Nat) v,σ[i]? = some (some v) -> σ'[i]? = some (some v)
def xi(wi:TI)(g:TG)(te:TE)(vars:List Str)(caps:List (Nat×Str)):TE:=fun σ H Q=>wi σ H fun J H1=>∃W:Nat->Nat->List V->Hp->Prop,(∃m,W 0 m [] H1)/\∀i m ys H,W i m ys H ->
 (J.stop i H/\ys.length<=sizeLine/\∀p,H p=none->Q (.ref p) (upd H p (.lst ys))) \/
 (J.go i H/\ys.length<sizeLine/\∀x H',J.yld i H x H'->g x (vars.map (fun _=>none)++fF σ caps) H' fun σ2 H2=>vv (vars.map (fun _=>none)++fF σ caps) σ2/\te σ2 H2 fun y H3=>∃m',m'<m/\W (i+1) m' (ys++[y]) H3)
theorem kF{prog:Program}{w:World}{A:Around}{R:Result->Shared->Prop}{s:Shared}{elt target iter:Expr}{scope:Scope}{pos:Pos}{it acc:Value}{env:Env}(I:Nat->Shared->Prop)
  (turn:∀n s,I n s->wpAny (model prog w) A (pyNext it) (fun r s₁=>match r with
   |none=>R (.ok .next) s₁
   |some v=>wpAny (model prog w) A (letOwnedTupleGo target it v) (fun _ s₁=>wpAny (model prog w) A (assign target env v) (fun _ s₂=>wpAny (model prog w) A (eval elt env) (fun x s₃=>
     wpAny (model prog w) A (call (.builtin "list.append") [acc,x]) (fun _ s₄=>∃m,m<n/\I m s₄) (fun _ _=>False) s₃) (fun _ _=>False) s₂) (fun _ _=>False) s₁) (fun _ _=>False) s₁) (fun _ _=>False) s)
  (n:Nat) (h:I n s):codeAny (model prog w) A (.compLoop (.ListComp elt [⟨target,iter,[],0⟩] scope pos) 0 it acc env) R s:=by
 refine codeAny_loop rfl I (fun n s hI=>?_) n h;show wpAny _ _ ((compTurn (.ListComp elt [⟨target,iter,[],0⟩] scope pos) 0 it acc env).onRaise (fun x=>do noteFrame x env;theTreesLotGoes x)) _ _ s;refine wpAny_noted ?_;rw[rW];refine wpAny_bind (wpAny_standAt (wpAny_bind (wpAny_mono (turn n s hI) (fun r s₁ h₁=>?_) fun _ _ h'=>h'.elim)))
 cases r with
 |none=>exact wpAny_pure h₁
 |some v=>
  refine wpAny_bind (wpAny_mono h₁ (fun _ s₁ h₁=>?_) fun _ _ h'=>h'.elim)
  exact wpAny_bind (wpAny_mono h₁ (fun _ s₂ h₂=>wpAny_bind (wpAny_bind (wpAny_mono h₂ (fun x s₃ h₃=>wpAny_bind (wpAny_mono h₃
   (fun _ s₄ h₄=>wpAny_pure (wpAny_pure ⟨rfl,h₄⟩)) fun _ _ h'=>h'.elim)) fun _ _ h'=>h'.elim))) fun _ _ h'=>h'.elim)
end
section
variable{X:Cx}{scope:Scope}{vars:List Str}{caps:List (Nat×Str)}{elt tg iter:Expr}{pos:Pos}{wi:TI}{g:TG}{te:TE}
theorem mE(B:BlkOk X.env.scope.names X.N scope vars caps)(hc:X.calm=true)
  (hg:∀C s₀ H₀ ex,PG (dz X scope (vars++caps.map (·.2)) C s₀ H₀ ex) tg g) (he:∀C s₀ H₀ ex,PE (dz X scope (vars++caps.map (·.2)) C s₀ H₀ ex) elt te)
  {pins:List (Addr×Obj)} {σ:St} {H2:Hp} {s2:Shared} {Q:VK} {it:Addr} {fp:List Addr} {tn:Nat->Heap->Prop} {J:It} (I2:Inv X pins σ H2 s2) (T:zH X.prog X.w X.K tg J fp it tn) (st2:tn 0 s2.heap) (f2:∀b∈fp,iM X pins H2 b)
  {W:Nat->Nat->List V->Hp->Prop} {m0:Nat} (w0:W 0 m0 [] H2) (turn:∀i m ys H,W i m ys H ->
   (J.stop i H/\ys.length<=sizeLine/\∀p,H p=none->Q (.ref p) (upd H p (.lst ys))) \/
   (J.go i H/\ys.length<sizeLine/\∀x H',J.yld i H x H'->g x (vars.map (fun _=>none)++fF σ caps) H' fun σ2 H2=>vv (vars.map (fun _=>none)++fF σ caps) σ2/\te σ2 H2 fun y H3=>∃m',m'<m/\W (i+1) m' (ys++[y]) H3))
  {RR:Value->Addr->Result->Shared->Prop} {E:Value->Shared->Prop}
  (hRR:∀D C s' m,s'.heap.Ns C m->D≠C->s2.heap.objs.size<=D->s2.heap.objs.size<=C->∀H',H' C=none->(∀h',Heap.SameBut C s'.heap h'->Inv X pins σ H' { s' with heap:=h' })->Q (.ref D) H'->RR (.ref D) C (.ok .next) s') :
  wpAny (model X.prog X.w) X.A (newList []) (fun acc s₃=>wpAny (model X.prog X.w) X.A (newFunctionEnv scope X.env.globals (iH X.env scope.names []) [] X.env.qual none .none (some X.env)) (fun cenv s₄=>
   codeAny (model X.prog X.w) X.A (.compStart (.ListComp elt [⟨tg,iter,[],0⟩] scope pos) 0 (.ref it) acc { cenv with scope:=relabel scope X.env }) (RR acc cenv.locals) s₄) E s₃) E s2:=by
 refine wpAny_newObj_type (wpAny_newFunctionEnv B.cell (by intro y hy;simp at hy) (fun h₁ hns₁ hsb₁=>?_) B.kind);dsimp only at hns₁ hsb₁ ⊢;generalize hP:s2.heap.push { cls:=.type "list",dict:=none,data:=.seq ([]:List Value).toArray }=HP at hns₁ hsb₁ ⊢;have hCs:HP.objs.size=s2.heap.objs.size+1:=by rw[<-hP,Heap.size_push]
 have hDC:s2.heap.objs.size≠HP.objs.size:=by rw[hCs];exact Nat.ne_of_lt (Nat.lt_succ_self _)
 have hCle:s2.heap.objs.size<=HP.objs.size:=by rw[hCs];exact Nat.le_succ _
 have old:∀b o,s2.heap.get? b=some o->h₁.get? b=some o:=fun b o e=>hsb₁.extBut b o (Nat.ne_of_lt (Nat.lt_of_lt_of_le (Heap.lt_size e) hCle)) (Heap.get?_push_of_some _ (hP ▸ Heap.get?_push_of_some _ e))
 have hacc:h₁.PlainList s2.heap.objs.size #[]:=⟨_,hsb₁.extBut _ _ hDC (Heap.get?_push_of_some _ (hP ▸ Heap.get?_push_size _ rfl))⟩;have flt:∀b∈fp,b<s2.heap.objs.size:=fun b hb=>by
  obtain⟨o,e,_⟩:=T.obj _ _ st2 b hb;exact Heap.lt_size e
 have st1:tn 0 h₁:=T.keep _ _ _ st2 fun b _ o e=>old b o e
 have loop:∀s3:Shared,s3={ s2 with heap:=h₁,toks:=s2.toks+([]:List (Str×Value)).length } ->
   codeAny (model X.prog X.w) X.A (.compLoop (.ListComp elt [⟨tg,iter,[],0⟩] scope pos) 0 (.ref it) (.ref s2.heap.objs.size) (compEnvC scope (iH X.env scope.names []) HP.objs.size X.env))
    (RR (.ref s2.heap.objs.size) HP.objs.size) s3:=by
  rintro s3 rfl;have X':=dz X scope (vars++caps.map (·.2)) HP.objs.size s2 H2 fp;have fpo:∀{H':Hp},(∀b∈fp,H' b=none)->∀b∈fp,iM (dz X scope (vars++caps.map (·.2)) HP.objs.size s2 H2 fp) [] H' b:=fun hn b hb=>by
   have ok:=tY B I2 f2 flt hCle;exact⟨hn b hb,(ok.exf b hb).1,ok.exfs b hb,.inl hb,(ok.exf b hb).2,fun p hp=>absurd (show p∈([]:List (Addr×Obj))from hp) (by simp)⟩
  refine kF (fun n s=>∃i ys H its,Inv (dz X scope (vars++caps.map (·.2)) HP.objs.size s2 H2 fp) [] (vars.map (fun _=>none)++fF σ caps) H s/\tn i s.heap/\(∀b∈fp,H b=none)/\s.heap.PlainList s2.heap.objs.size (List.toArray its)/\H s2.heap.objs.size=none/\Vals ys its/\W i n ys H) ?_ m0
   ⟨0,[],H2,[],vk B I2 f2 flt hCle hns₁ old,st1,fun b hb=>(f2 b hb).1,hacc,I2.hok.fresh (Nat.le_refl _),.nil,w0⟩
  rintro n s4 ⟨i,ys,H4,its,I4,st4,fr4,pl4,nD4,v4,w4⟩;obtain⟨nn,eD⟩:=id pl4;have DnL:s2.heap.objs.size≠(dz X scope (vars++caps.map (·.2)) HP.objs.size s2 H2 fp).env.locals:=hDC;have Dfs:s2.heap.objs.size ∉ (dz X scope (vars++caps.map (·.2)) HP.objs.size s2 H2 fp).fs:=fun z=>by
   rcases List.mem_cons.mp (I2.stkSub _ z)with q|q
   ·have:=I2.lt;rw[<-q]at this;exact Nat.lt_irrefl _ this
   ·exact I2.nofs (Nat.le_refl _) q
  have Dfp:∀b∈fp,s2.heap.objs.size≠b:=fun b hb z=>by have:=flt b hb;rw[<-z]at this;exact Nat.lt_irrefl _ this
  have DnC:∀x c,(dz X scope (vars++caps.map (·.2)) HP.objs.size s2 H2 fp).env.cells.lookup x=some c->c≠s2.heap.objs.size:=fun x c e z=>by
   rcases bu _ _ _ _ (B.cells I2) e with q|q
   ·cases q
   ·obtain⟨v,o,ho,_⟩:=I2.cell x c q
    have:=Heap.lt_size ho;rw[z]at this;exact Nat.lt_irrefl _ this
  have pinD:∀{σ':St} {H':Hp} {s':Shared},Inv (dz X scope (vars++caps.map (·.2)) HP.objs.size s2 H2 fp) [(s2.heap.objs.size,{ cls:=.type "list",data:=.seq its.toArray nn })] σ' H' s'->s'.heap.PlainList s2.heap.objs.size its.toArray/\H' s2.heap.objs.size=none:=fun{σ' H' s'} I'=>by
   obtain⟨q1,q2,_⟩:=I'.pin (s2.heap.objs.size,{ cls:=.type "list",data:=.seq its.toArray nn }) (by simp[dz]);exact⟨⟨nn,q1⟩,q2⟩
  have I4p:Inv (dz X scope (vars++caps.map (·.2)) HP.objs.size s2 H2 fp) [(s2.heap.objs.size,{ cls:=.type "list",data:=.seq its.toArray nn })] (vars.map (fun _=>none)++fF σ caps) H4 s4:=
   I4.pins_of fun p hp=>by
    have e:p=(s2.heap.objs.size,{ cls:=.type "list",data:=.seq its.toArray nn }):=by simpa[dz]using hp
    subst e;exact⟨eD,nD4,DnL,Dfs,fun v z=>by cases z⟩
  have fpo':∀{H':Hp},(∀b∈fp,H' b=none)->∀b∈fp,iM (dz X scope (vars++caps.map (·.2)) HP.objs.size s2 H2 fp) [(s2.heap.objs.size,{ cls:=.type "list",data:=.seq its.toArray nn })] H' b:=fun hn b hb=>by
   obtain⟨q1,q2,q3,q4,q5,_⟩:=fpo hn b hb;exact⟨q1,q2,q3,q4,q5,fun p hp=>by
    have e:p=(s2.heap.objs.size,{ cls:=.type "list",data:=.seq its.toArray nn }):=by simpa[dz]using hp
    subst e;exact Dfp b hb⟩
  have unp:∀{pl:List (Addr×Obj)} {σ':St} {H':Hp} {s':Shared},Inv (dz X scope (vars++caps.map (·.2)) HP.objs.size s2 H2 fp) pl σ' H' s'->Inv (dz X scope (vars++caps.map (·.2)) HP.objs.size s2 H2 fp) [] σ' H' s':=fun{pl σ' H' s'} I'=>
   I'.pins_of fun p hp=>absurd (show p∈([]:List (Addr×Obj))from hp) (by simp)
  rcases turn i n ys H4 w4 with⟨stop,hz,qn⟩|⟨go,hz,step⟩
  ·refine cx (T.done (dz X scope (vars++caps.map (·.2)) HP.objs.size s2 H2 fp) rfl rfl rfl hc i _ s4 _ H4 _ I4p (fpo' fr4) st4 stop) fun r s5 ⟨hr,I5⟩=>?_
   subst hr;obtain⟨p5,n5⟩:=pinD I5;obtain⟨m5,ns5,_⟩:=I5.loc;refine hRR _ _ s5 m5 ns5 hDC (Nat.le_refl _) hCle _ ?_ (fun h' hs'=>vj I2 f2 hCle (Nat.le_refl _) hDC (unp I5) n5 p5 v4 hz hs') (qn _ n5)
   rw[aV hDC.symm];exact I5.free
  ·refine cx (T.item (dz X scope (vars++caps.map (·.2)) HP.objs.size s2 H2 fp) rfl rfl rfl hc i _ s4 _ H4 _ I4p (fpo' fr4) st4 go) fun r s5 ⟨u,hr,h5⟩=>?_
   subst hr;refine cx h5 fun _ s6 ⟨x,H6,I6,rx,yx,st6,fr6⟩=>?_
   have I6p:=I6.pinned (fpo' fr6) (T.obj _ _ st6);refine cx (hg _ _ _ _ _ s6 _ H6 x u _ I6p rx (step x H6 yx)) fun _ s7 ⟨σ7,H7,I7,kp,q7⟩=>?_
   refine cx (he _ _ _ _ _ s7 σ7 H7 _ I7 q7) fun v s8 ⟨y,H8,I8,ry,m',hm,w8⟩=>?_
   obtain⟨p8,n8⟩:=pinD I8.unpinned;have st8:tn (i+1) s8.heap:=T.keep _ _ _ st6 fun b hb o e=>(I8.pin (b,o) (List.mem_append_right _ (List.mem_append_right _ (cC hb e)))).1
   have fr8:∀b∈fp,H8 b=none:=fun b hb=>by
    obtain⟨o,e,d⟩:=T.obj _ _ st6 b hb;exact(I8.pin (b,o) (List.mem_append_right _ (List.mem_append_right _ (cC hb e)))).2.1
   have hl:=v4.length;refine wpAny_list_append_plain p8 (fun h9 p9 sb9=>⟨m',hm,i+1,ys++[y],H8,its++[v],?_,?_,fr8,by simpa using p9,n8,v4.append (.cons ry .nil),w8⟩) (by simp;omega)
   ·have I9:Inv (dz X scope (vars++caps.map (·.2)) HP.objs.size s2 H2 fp) [] σ7 H8 { s8 with heap:=h9,toks:=s8.toks }:=
     (unp I8).turned (it:=s2.heap.objs.size) (fun b o hb e=>sb9.extBut b o hb e) n8 DnL (.inr (Nat.le_refl _)) DnC fun p hp=>absurd (show p∈([]:List (Addr×Obj))from hp) (by simp)
    exact I9.weak kp.1 kp.2
   ·exact T.keep _ _ _ st8 fun b hb o e=>sb9.extBut b o (Dfp b hb).symm e
 exact codeAny_compStart_list (loop _ rfl) (T.self _ 0 _ _ _ st1 (loop _ rfl))
theorem AO(B:BlkOk X.env.scope.names X.N scope vars caps)(hc:X.calm=true)(hi:PI X tg iter wi)
  (hg:∀C s₀ H₀ ex,PG (dz X scope (vars++caps.map (·.2)) C s₀ H₀ ex) tg g) (he:∀C s₀ H₀ ex,PE (dz X scope (vars++caps.map (·.2)) C s₀ H₀ ex) elt te) (hs:∀x,foldedSetIterable iter X.env x=pure x:=by intro _;rfl) :
  PE X (.ListComp elt [⟨tg,iter,[],0⟩] scope pos) (xi wi g te vars caps):=by
 intro pins s σ H Q I h;rw[eval_ListComp];refine wpAny_comprehension_free (use:=none) rfl hs (fE (B.cells I)) B.kind B.names ?_;show wpAny _ _ (eval iter X.env) _ _ s;refine cx (hi pins s σ H _ I h) fun v s1 h1=>cx h1 fun itv s2 h2=>?_
 obtain⟨it,fp,tn,J,H2,e,I2,T,st2,f2,W,⟨m0,w0⟩,turn⟩:=h2;subst e;exact mE B hc hg he I2 T st2 f2 w0 turn (RR:=fun acc C=>compPost (model X.prog X.w) X.A X.xe none (EP X pins σ Q) acc C) fun D C s' m ns _ _ _ H' _ k q=>⟨m,ns,fun h' hs'=>⟨.ref D,H',k h' hs',rfl,q⟩⟩
theorem AH{i:Nat}{y:Str}{py spos:Pos}(B:BlkOk X.env.scope.names X.N scope vars caps)(hc:X.calm=true)(hi:PI X tg iter wi)
  (hg:∀C s₀ H₀ ex,PG (dz X scope (vars++caps.map (·.2)) C s₀ H₀ ex) tg g) (he:∀C s₀ H₀ ex,PE (dz X scope (vars++caps.map (·.2)) C s₀ H₀ ex) elt te)
  (hN:X.N.Nodup) (hy:X.N[i]? = some y) (hx:Cc X.env.scope y) (hsw:swapsWith (.ListComp elt [⟨tg,iter,[],0⟩] scope pos) (some (.Name y py)) spos.line X.env=pure true)
  (hf:X.fn y=true\/X.env.scope.names.lookup y=some .local) (hs:∀x,foldedSetIterable iter X.env x=pure x:=by intro _;rfl) :
  PS X (.Assign [.Name y py] (.ListComp elt [⟨tg,iter,[],0⟩] scope pos) spos) (fun D σ H=>xi wi g te vars caps σ H fun v H1=>D.nx (σ.set i (some v)) H1):=by
 intro pins s σ H DE I h;rw[exec_Assign_Name_used _ _ _ _ hsw];refine wpAny_bind (wpAny_standAt (wpAny_bind ?_));show wpAny _ X.A (do let _ <-comprehension (.ListComp elt [⟨tg,iter,[],0⟩] scope pos) scope X.env _ (newList []) false (eval iter X.env) (some (assign (.Name y py) X.env))) _ _ s;refine wpAny_bind (wpAny_mono (wpAny_comprehension_free (use:=some (assign (.Name y py) X.env)) (Q:=fun _ s'=>SP X pins DE .next s') rfl hs (fE (B.cells I)) B.kind B.names
  (cx (hi pins s σ H _ I h) fun v s1 h1=>cx h1 fun itv s2 h2=>?_)) (fun _ s' hq=>wpAny_pure (wpAny_pure hq)) fun _ _ e=>e)
 obtain⟨it,fp,tn,J,H2,e,I2,T,st2,f2,W,⟨m0,w0⟩,turn⟩:=h2;subst e;refine mE (Q:=fun v H1=>DE.nx (σ.set i (some v)) H1) B hc hg he I2 T st2 f2 w0 turn (RR:=fun acc C=>compPost (model X.prog X.w) X.A X.xe (some (assign (.Name y py) X.env)) (fun _ s'=>SP X pins DE .next s') acc C) ?_
 intro D C s' m ns hDC hD hC H' hHC k q;obtain⟨oC,es,ep,eC,dC,rC⟩:=ns;have I':Inv X pins σ H' s':=k s'.heap (Heap.SameBut.refl ..);have nL:C≠X.env.locals:=fun z=>by have:=I2.lt;rw[<-z]at this;exact absurd (Nat.lt_of_lt_of_le this hC) (Nat.lt_irrefl _)
 have nF:C ∉ X.fs:=I2.nofs hC;have nCell:∀x c,X.env.cells.lookup x=some c->c≠C:=fun x c e z=>by
  obtain⟨v,o,ho,_⟩:=I2.cell x c e;have:=Heap.lt_size ho;rw[z]at this;exact absurd (Nat.lt_of_lt_of_le this hC) (Nat.lt_irrefl _)
 have nPin:∀p∈X.pn++pins,p.1≠C:=fun p hp z=>by
  have:=Heap.lt_size (I2.pin p hp).1;rw[z]at this;exact absurd (Nat.lt_of_lt_of_le this hC) (Nat.lt_irrefl _)
 have Ip:Inv X (pins++[(C,oC)]) σ H' s':=I'.pins_of fun p hp=>by
  rcases List.mem_append.mp hp with z|z
  ·exact I'.pin p (List.mem_append_right _ z)
  ·have e:p=(C,oC):=by simpa using z
   subst e;exact⟨eC,hHC,nL,nF,fun v z=>by rw[dC]at z;cases z⟩
 refine cx (bm (pos:=py) hN hy hx hf _ s' σ H' (.ref D) (.ref D) (fun σ' H''=>σ' = σ.set i (some (.ref D))/\H''=H'/\DE.nx σ' H'') Ip rfl ⟨rfl,rfl,q⟩) fun _ s'' ⟨σ'',H'',I'',e1,e2,q''⟩=>?_
 subst e1 e2;have eC'':s''.heap.get? C=some oC:=(I''.pin (C,oC) (List.mem_append_right _ (List.mem_append_right _ (by simp)))).1;refine⟨m,⟨oC,es,ep,eC'',dC,rC⟩,fun h' hs'=>⟨_,H'',?_,q''⟩⟩
 exact I''.unpinned.turned (t':=s''.toks) (it:=C) (fun b o hb e=>hs'.extBut b o hb e) hHC nL (.inr (Nat.le_trans I2.sz hC)) nCell nPin
end
noncomputable def Fi:Option Sl->Sl
 |some (.fz d)=>.fz d
 |_=>.un
@[simp] theorem HH(d:D):Fi (some (.fz d))=.fz d:=rfl
noncomputable def capS(δ:Dv)(caps:List (Nat×Str)):Dv:=caps.map fun p=>Fi δ[p.1]?
noncomputable def wd(f:D->Option D):List D->Option (List D)
 |[]=>some []
 |d::ds=>(f d).bind fun e=>(wd f ds).bind fun es=>some (e::es)
noncomputable def cp(fi:Dv->Option (List D))(caps:List (Nat×Str))(bv:D->Option (List D))(fe:Dv->Option D):Dv->Option D:=fun δ=>(fi δ).bind fun ds=>if ds.length<=sizeLine then(wd (fun d=>(bv d).bind fun vs=>fe (vs.map .fz++capS δ caps)) ds).bind fun es=>some (.list es)else none
noncomputable def kW:D->Option (List D):=fun d=>some [d]
theorem ki{f:D->Option D}:∀{ds es:List D},wd f ds=some es->es.length=ds.length
 |[],es,h=>by cases h;rfl
 |d::ds,es,h=>by
  obtain⟨e,_,h⟩:=bind_some h;obtain⟨es',h2,h⟩:=bind_some h;cases h;exact congrArg (· + 1) (ki h2)
theorem rh{f:D->Option D}:∀{ds es:List D} {i:Nat} {d:D},wd f ds=some es->ds[i]? = some d->∃e,f d=some e/\es[i]? = some e
 |[],es,i,d,h,q=>by simp at q
 |d::ds,es,i,d',h,q=>by
  obtain⟨e,h1,h⟩:=bind_some h;obtain⟨es',h2,h⟩:=bind_some h;cases h;cases i with
  |zero=>simp at q;subst q;exact⟨e,h1,rfl⟩
  |succ i=>simp at q;obtain⟨e',g1,g2⟩:=rh (i:=i) h2 q;exact⟨e',g1,by simpa using g2⟩
def wO(K:Fg)(g:TG)(n:Nat)(bv:D->Option (List D)):Prop:=∀(x:V) (Z:Hp) (d:D) (vs:List D) (σc:St) (H:Hp) (R:St->Hp->Prop),Rep K Z x d->Same Z H->bv d=some vs->(∀us,Reps K Z us vs->us.length=n->R (us.map some ++ σc) H)->g x (List.replicate n none ++ σc) H R
theorem cl{K:Fg}:wO K (zf 0) 1 kW:=fun x Z d vs σc H R r zh e k=>by
 cases e;exact k [x] (.cons r .nil) rfl
section
variable{X:Cx}{scope:Scope}{vars:List Str}{caps:List (Nat×Str)}{elt tg iter:Expr}{pos:Pos}{g:TG}{fi:Dv->Option (List D)}{fe:Dv->Option D}{bv:D->Option (List D)}
theorem zr{σ:St}{δ:Dv}{K:Fg}{H₀ Z₀ Z H:Hp}(hh:Hold K H₀ Z₀ Z δ σ H):∀(j:Nat) d,(capS δ caps)[j]? = some (.fz d)->∃v,(fF σ caps)[j]? = some (some v)/\Rep K Z v d:=fun j d e=>by
 unfold capS at e;unfold fF;rw[List.getElem?_map]at e ⊢;cases q:caps[j]? with
 |none=>rw[q]at e;cases e
 |some p=>
  rw[q]at e;have e:Fi δ[p.1]? = .fz d:=Option.some.inj e;cases z:δ[p.1]? with
  |none=>rw[z]at e;cases e
  |some sl=>
   rw[z]at e;cases sl with
   |fz d'=>
    cases e;obtain⟨v,g1,g2⟩:=hh.fz p.1 _ z;exact⟨v,by show some ((σ[p.1]?).getD none)=_;rw[g1];rfl,g2⟩
   |un=>cases e
   |own _=>cases e
   |fr _=>cases e
theorem BZ{δ:Dv}:∀(j:Nat) ds,(capS δ caps)[j]? ≠ some (.own ds):=fun j ds e=>by
 unfold capS at e;rw[List.getElem?_map]at e;cases q:caps[j]? with
 |none=>rw[q]at e;cases e
 |some p=>
  rw[q]at e;have e:Fi δ[p.1]? = .own ds:=Option.some.inj e;cases z:δ[p.1]? with
  |none=>rw[z]at e;cases e
  |some sl=>rw[z]at e;cases sl<;>cases e
theorem B0{δ:Dv}:∀(j:Nat) ds,(capS δ caps)[j]? ≠ some (.fr ds):=fun j ds e=>by
 unfold capS at e;rw[List.getElem?_map]at e;cases q:caps[j]? with
 |none=>rw[q]at e;cases e
 |some p=>
  rw[q]at e;have e:Fi δ[p.1]? = .fr ds:=Option.some.inj e;cases z:δ[p.1]? with
  |none=>rw[z]at e;cases e
  |some sl=>rw[z]at e;cases sl<;>cases e
theorem sd{σ:St}{δ:Dv}{K:Fg}{H₀ Z₀ Z H:Hp}(hh:Hold K H₀ Z₀ Z δ σ H){us:List V}{vs:List D}(r:Reps K Z us vs):Hold K H Z Z (vs.map .fz++capS δ caps) (us.map some++fF σ caps) H:=by
 have hl:=r.length;refine⟨hh.zh,Same.refl _,Same.refl _,fun _ _=>rfl,by simp[capS,fF,hl],fun i d e=>?_,fun i ds e=>?_,fun i j ds es a _ e=>?_,fun i ds e=>?_,NoF.refl _⟩
 ·by_cases hi:i<vs.length
  ·rw[List.getElem?_append_left (by simpa using hi),List.getElem?_map]at e
   cases q:vs[i]? with
   |none=>rw[q]at e;cases e
   |some d'=>
    rw[q]at e;cases e;obtain⟨v,g1,g2⟩:=r.get q;exact⟨v,by rw[List.getElem?_append_left (by simpa[hl]using hi),List.getElem?_map,g1];rfl,g2⟩
  ·rw[List.getElem?_append_right (by simpa using hi)]at e
   obtain⟨v,g1,g2⟩:=zr hh _ d e;refine⟨v,?_,g2⟩;rw[List.getElem?_append_right (by simpa[hl]using hi)];simp only[List.length_map]at g1 ⊢;rw[hl];exact g1
 all_goals
  exfalso;by_cases hi:i<vs.length
  ·rw[List.getElem?_append_left (by simpa using hi),List.getElem?_map]at e
   cases q:vs[i]?<;>rw[q]at e<;>cases e
  ·rw[List.getElem?_append_right (by simpa using hi)]at e
   first|exact BZ _ _ e|exact B0 _ _ e
theorem ou(tk:wO X.K g vars.length bv){σ:St}{H:Hp}{Q:VK}(h:tV X.K (cp fi caps bv fe) σ H Q):xi (Ho X.K fi) g (tV X.K fe) vars caps σ H Q:=by
 obtain⟨H₀,Z₀,Z,δ,d,hh,e,k⟩:=h;obtain⟨ds,e1,e⟩:=bind_some e;by_cases hz:ds.length<=sizeLine
 ·rw[if_pos hz]at e
  obtain⟨es,e2,e⟩:=bind_some e;cases e;have le:=ki e2;have hv:vars.map (fun _=>(none:Option V))=List.replicate vars.length none:=by rw[List.map_const']
  refine⟨H₀,Z₀,Z,δ,ds,hh,e1,fun J Z1 H1 hh1 t1 ok=>?_⟩
  refine⟨fun i m ys H=>m=ds.length-i/\i<=ds.length/\∃Zc,Hold X.K H₀ Z₀ Zc δ σ H/\Same Z1 Zc/\Reps X.K Zc ys (es.take i),⟨ds.length,by simp,Nat.zero_le _,Z1,hh1,Same.refl _,by simpa using .nil⟩,?_⟩
  rintro i m ys H2 ⟨rfl,hi2,Zc,hhc,tc,rc⟩;have zh:Same Z1 H2:=tc.trans hhc.zh;have ly:=rc.length;rw[List.length_take]at ly;by_cases hlt:i<ds.length
  ·refine .inr ⟨ok.go i H2 zh hlt,by omega,fun x H3 y=>?_⟩
   have ed:ds[i]? = some ds[i]:=by simp[hlt]
   obtain⟨rfl,rx⟩:=ok.yld i H2 x H3 _ zh ed y;obtain⟨ei,f1,f2⟩:=rh e2 ed;obtain⟨vs,f3,f1⟩:=bind_some f1;rw[hv];refine tk x Zc ds[i] vs (fF σ caps) H3 _ (rx.same tc) hhc.zh f3 fun us ru hn=>⟨⟨by simp[hn],fun j v q=>?_⟩,?_⟩
   ·by_cases hj:j<vars.length
    ·rw[List.getElem?_append_left (by simpa using hj),List.getElem?_replicate]at q
     split at q<;>cases q
    ·rw[List.getElem?_append_right (by simpa using hj)]at q
     rw[List.getElem?_append_right (by simpa[hn]using hj)];simpa[hn]using q
   ·refine⟨H3,Zc,Zc,_,ei,sd hhc ru,f1,fun v Z4 H4 h4 t4 r4=>⟨ds.length-(i+1),by omega,rfl,hlt,Z4,hhc.new ⟨t4,h4.h0,h4.zh,h4.zb,h4.nf⟩,tc.trans t4,?_⟩⟩
    have:es.take (i+1)=es.take i++[ei]:=by
     rw[List.take_add_one,f2];rfl
    rw[this];exact(rc.same t4).append (.cons r4 .nil)
  ·have hie:i=ds.length:=by omega
   subst hie;refine .inl ⟨ok.stop _ H2 zh (Nat.le_refl _),by omega,fun p hp=>?_⟩
   rw[<-le,List.take_length]at rc;have n:=New.add hhc.zh hp (.lst ys);exact k _ _ _ (hhc.new n) ((t1.trans tc).trans n.z) (.lst (SqL.of aX) (rc.same n.z))
 ·rw[if_neg hz]at e;cases e
theorem cq(B:BlkOk X.env.scope.names X.N scope vars caps)(hc:X.calm=true)(hi:IV X tg iter fi)(tk:wO X.K g vars.length bv)
  (hg:∀C s₀ H₀ ex,PG (dz X scope (vars++caps.map (·.2)) C s₀ H₀ ex) tg g) (he:∀C s₀ H₀ ex,EV (dz X scope (vars++caps.map (·.2)) C s₀ H₀ ex) elt fe) (hs:∀x,foldedSetIterable iter X.env x=pure x:=by intro _;rfl) :
  EV X (.ListComp elt [⟨tg,iter,[],0⟩] scope pos) (cp fi caps bv fe):=
 PE.imp (AO (te:=tV X.K fe) B hc hi hg he hs) fun _ _ _ h=>ou tk h
theorem ur(i:Nat){y:Str}{py spos:Pos}(hN:X.N.Nodup)(B:BlkOk X.env.scope.names X.N scope vars caps)(hc:X.calm=true)(hi:IV X tg iter fi)(tk:wO X.K g vars.length bv)
  (hg:∀C s₀ H₀ ex,PG (dz X scope (vars++caps.map (·.2)) C s₀ H₀ ex) tg g) (he:∀C s₀ H₀ ex,EV (dz X scope (vars++caps.map (·.2)) C s₀ H₀ ex) elt fe)
  (hy:X.N[i]? = some y:=by rfl) (hx:Cc X.env.scope y:=by first|exact Or.inl rfl|exact Or.inr rfl) (hsw:swapsWith (.ListComp elt [⟨tg,iter,[],0⟩] scope pos) (some (.Name y py)) spos.line X.env=pure true:=by rfl)
  (hf:X.fn y=true\/X.env.scope.names.lookup y=some .local:=by first|exact .inl rfl|exact .inr rfl|assumption) (hs:∀x,foldedSetIterable iter X.env x=pure x:=by intro _;rfl) :
  SV X (.Assign [.Name y py] (.ListComp elt [⟨tg,iter,[],0⟩] scope pos) spos) (aU i (cp fi caps bv fe)):=
 PS.imp (AH (te:=tV X.K fe) B hc hi hg he hN hy hx hsw hf hs) fun D σ H h=>by
  obtain⟨H₀,Z₀,Z,δ,r,hh,e,k⟩:=h;obtain⟨x,e1,e⟩:=bind_some e;cases e;exact ou tk ⟨H₀,Z₀,Z,δ,x,hh,e1,fun v Z1 H1 hh1 s1 r1=>k _ H1 Z1 (hh1.set r1) s1⟩
end
section
variable{X:Cx}{e:Expr}{es:List Expr}{p pos:Pos}{fs:Dv->Option (List D)}
theorem aw{k:Nat}{x:Str}{g:List D->Option D}(C:Cal X.prog X.w X.K X.mg X.base x k g [])(hr:Room k X.A)(hg:Gl X x)(ha:AV X (e::es) fs)(hdb:(x==("__debug__":Str))=false:=by decide)(he:starEach (e::es) X.env=(false,eval e X.env)::starEach es X.env:=by rfl)
  (hpl:(backTo pos (starEach es X.env)).any (·.1)=false:=by rfl):EV X (.Call (.Name x p) (e::es) [] pos) (os fs g):=by
 have h:=Ek C hr hg ha hdb he hpl (p:=p) (pos:=pos);have e:(fun as=>g (as++[]))=g:=by funext as;rw[List.append_nil]
 rw[e]at h;exact h
end
structure TopV (K:Fg) (mg:Str->Option Value) (x:Str) (d:D):Prop where
 ex:∃v u,mg x=some u/\RelV v u/\∀Z,Rep K Z v d
theorem TopV.tup{K:Fg}{mg:Str->Option Value}{x:Str}{a:Addr}{its:Array Value}{tn:Nat}{ts:Array (Option Value)}{xs:List V}{ds:List D}(hm:mg x=some (.ref a))(hk:K.lookup a=some ⟨.type "tuple",none,.seq its tn,ts⟩)
  (hz:its.size<=sizeLine) (hv:Vals xs its.toList) (hr:∀Z,Reps K Z xs ds):TopV K mg x (.tuple ds):=⟨.ref a,.ref a,hm,rfl,fun Z=>.tup (.inr ⟨_,its,tn,hk,rfl,rfl,hz,hv,rfl⟩) (hr Z)⟩
theorem kU{X:Cx}{x:Str}{pos:Pos}{d:D}(T:TopV X.K X.mg x d)(hg:Gl X x)(hd:(x==("__debug__":Str))=false:=by decide):EV X (.Name x pos) (oC d):=by
 obtain⟨v,u,hm,r,h⟩:=T.ex;exact zn (uE hg hm r hd) h
noncomputable def wP:Option Sl->Option (List D)
 |some (.own (.l ds))=>some ds
 |_=>none
@[simp] theorem HF(ds:List D):wP (some (.ow ds))=some ds:=rfl
theorem sI{o:Option Sl}{ds:List D}(h:wP o=some ds):o=some (.ow ds):=by
 cases o with
 |none=>cases h
 |some x=>
  cases x with
  |own c=>
   cases c with
   |l es=>cases h;rfl
   |d es=>cases h
  |un=>cases h
  |fz d=>cases h
  |fr _=>cases h
@[simp] noncomputable def xG(i:Nat)(fs:Dv->Option (List D)):Sf:=fun δ=>(fs δ).bind fun ds=>if ds.length<=sizeLine then some (.nx,δ.set i (.ow ds))else none
@[simp] noncomputable def JP(i:Nat)(f:Dv->Option D):Dv->Option D:=fun δ=>(wP δ[i]?).bind fun ds=>(f δ).bind fun k=>aB (.list ds) k
@[simp] noncomputable def Ji(i:Nat):Dv->Option D:=fun δ=>(wP δ[i]?).bind fun ds=>some (.int ds.length)
noncomputable def Fw(ds:List D)(k v:D):Option (List D):=match k with
 |.int j=>(Ec ds.length j).map fun n=>ds.set n v
 |_=>none
@[simp] theorem Fv(ds:List D)(j:Int)(v:D):Fw ds (.int j) v=(Ec ds.length j).map fun n=>ds.set n v:=rfl
@[simp] noncomputable def JK(i:Nat)(fk fv:Dv->Option D):Sf:=fun δ=>(fv δ).bind fun v=>(fk δ).bind fun k=>(wP δ[i]?).bind fun ds=>(Fw ds k v).bind fun ds'=>some (.nx,δ.set i (.ow ds'))
@[simp] noncomputable def xH(i:Nat)(f:Dv->Option D):Sf:=fun δ=>(f δ).bind fun v=>(wP δ[i]?).bind fun ds=>if ds.length<sizeLine then some (.nx,δ.set i (.ow (ds++[v])))else none
section
variable{X:Cx}{e b:Expr}{es:List Expr}{p pos tpos apos:Pos}{fs:Dv->Option (List D)}{f fk fv:Dv->Option D}
theorem oT(i:Nat){x:Str}{pos':Pos}(hN:X.N.Nodup)(ha:AV X es fs)(hi:X.N[i]? = some x:=by rfl)(hx:Cc X.env.scope x:=by first|exact Or.inl rfl|exact Or.inr rfl)(hs:swapsWith (.List es p) (some (.Name x pos')) pos.line X.env=pure false:=by rfl)
  (hf:X.fn x=true\/X.env.scope.names.lookup x=some .local:=by first|exact .inl rfl|exact .inr rfl|assumption):SV X (.Assign [.Name x pos'] (.List es p) pos) (xG i fs):=
 PS.imp (xS hN hi hx (x9 ha) hs hf) fun D σ H h=>by
  obtain⟨H₀,Z₀,Z,δ,r,hh,e,k⟩:=h;obtain⟨ds,e1,e⟩:=bind_some e;by_cases hl:ds.length<=sizeLine
  ·rw[if_pos hl]at e
   cases e;exact⟨H₀,Z₀,Z,δ,ds,hh,e1,fun vs Z1 H1 hh1 t1 r1=>⟨by rw[r1.length];exact hl,fun p hp=>k _ _ Z1 (hh1.setO hp r1) t1⟩⟩
  ·rw[if_neg hl]at e;cases e
theorem uF{K:Fg}{H₀ Z₀ Z:Hp}{δ:Dv}{σ:St}{H:Hp}(hh:Hold K H₀ Z₀ Z δ σ H){i:Nat}{ds:List D}(h:wP δ[i]? = some ds):∃a xs,σ[i]? = some (some (V.ref a))/\H a=some (.lst xs)/\Reps K Z xs ds:=by
 obtain⟨a,xs,h1,_,_,h4,h5⟩:=hh.ow i ds (sI h);exact⟨a,xs,h1,h4,h5⟩
theorem oU(i:Nat){x:Str}{cpos:Pos}(hv':EV X e f)(hN:X.N[i]? = some x:=by rfl)(hv:EY X.env.scope x:=by first|exact Or.inl rfl|exact Or.inr (Or.inl rfl)|exact Or.inr (Or.inr rfl))(hd:(x==("__debug__":Str))=false:=by decide)(hcd:(x==("__classdict__":Str))=false:=by decide)
  (hbase:attributeBase (.Name x p) "append" X.env (eval (.Name x p) X.env)=eval (.Name x p) X.env:=by rfl)
  (hfew:((backTo cpos (starEach [e] X.env)).all (fun x=>!x.1)&&(backToKw cpos (keywordEach [] X.env)).all (fun x=>x.1.isSome)
   && decide ([e].length+([]:List Keyword).length+(if([]:List Keyword).isEmpty then 0 else 1)<30))=true:=by rfl)
  (hline:(apos.endLine==cpos.line)=true:=by rfl) (hs:starEach [e] X.env=(false,eval e X.env)::starEach [] X.env:=by rfl) (hplain:(backTo cpos (starEach [] X.env)).any (·.1)=false:=by rfl)
  (hsw:swapsWith (.Call (.Attribute (.Name x p) "append" apos) [e] [] cpos) none pos.line X.env=pure false:=by rfl):SV X (.Expr (.Call (.Attribute (.Name x p) "append" apos) [e] [] cpos) pos) (xH i f):=
 PS.imp (uC (Cp PySem.F.plainAttrs_list PySem.F.slot_list_append PySem.F.type_list_append wb (o9 hN hv hd hcd) (kQ hv' pb hs) hbase hfew hline hs hplain) hsw) fun D σ H h=>by
  obtain⟨H₀,Z₀,Z,δ,r,hh,e,k⟩:=h;obtain⟨v,e1,e⟩:=bind_some e;obtain⟨ds,e2,e⟩:=bind_some e;by_cases hl:ds.length<sizeLine
  ·rw[if_pos hl]at e
   cases e;obtain⟨a,xs,h1,h4,h5⟩:=uF hh e2;refine⟨_,h1,.inl ⟨rfl,xs,SqL.of h4⟩,H₀,Z₀,Z,δ,v,hh,e1,fun w Z1 H1 hh1 t1 r1=>?_⟩
   obtain⟨a',xs',g1,g4,g5⟩:=uF hh1 e2;rw[h1]at g1;cases g1;exact⟨a,xs',w,rfl,rfl,g4,by rw[g5.length];exact hl,k σ _ Z1 (hh1.chg (xs:=xs') (sI e2) h1 (g5.append (.cons r1 .nil))) t1⟩
  ·rw[if_neg hl]at e;cases e
end
section
def xh(wi:TI)(g:TG)(tt:TT)(te:TE)(vars:List Str)(caps:List (Nat×Str)):TE:=fun σ H Q=>wi σ H fun J H1=>∃W:Nat->Nat->List V->Hp->Prop,(∃m,W 0 m [] H1)/\∀i m ys H,W i m ys H ->
 (J.stop i H/\ys.length<=sizeLine/\∀p,H p=none->Q (.ref p) (upd H p (.lst ys))) \/
 (J.go i H/\ys.length<sizeLine/\∀x H',J.yld i H x H'->g x (vars.map (fun _=>none)++fF σ caps) H' fun σ2 H2=>vv (vars.map (fun _=>none)++fF σ caps) σ2/\tt σ2 H2 fun b H3=>if b=true then te σ2 H3 fun y H4=>∃m',m'<m/\W (i+1) m' (ys++[y]) H4 else ∃m',m'<m/\W (i+1) m' ys H3)
theorem jZ{prog:Program}{w:World}{A:Around}{R:Result->Shared->Prop}{s:Shared}{elt target iter cnd:Expr}{scope:Scope}{pos:Pos}{it acc:Value}{env:Env}(I:Nat->Shared->Prop)
  (turn:∀n s,I n s->wpAny (model prog w) A (pyNext it) (fun r s₁=>match r with
   |none=>R (.ok .next) s₁
   |some v=>wpAny (model prog w) A (letOwnedTupleGo target it v) (fun _ s₁=>wpAny (model prog w) A (assign target env v) (fun _ s₂=>wpAny (model prog w) A (isTrue cnd env (eval cnd env)) (fun ok s₂=>if ok=true then wpAny (model prog w) A (eval elt env) (fun x s₃=>
     wpAny (model prog w) A (call (.builtin "list.append") [acc,x]) (fun _ s₄=>∃m,m<n/\I m s₄) (fun _ _=>False) s₃) (fun _ _=>False) s₂ else ∃m,m<n/\I m s₂) (fun _ _=>False) s₂) (fun _ _=>False) s₁) (fun _ _=>False) s₁) (fun _ _=>False) s)
  (n:Nat) (h:I n s):codeAny (model prog w) A (.compLoop (.ListComp elt [⟨target,iter,[cnd],0⟩] scope pos) 0 it acc env) R s:=by
 refine codeAny_loop rfl I (fun n s hI=>?_) n h;show wpAny _ _ ((compTurn (.ListComp elt [⟨target,iter,[cnd],0⟩] scope pos) 0 it acc env).onRaise (fun x=>do noteFrame x env;theTreesLotGoes x)) _ _ s;refine wpAny_noted ?_;rw[compTurn_list];refine wpAny_bind (wpAny_standAt (wpAny_bind (wpAny_mono (turn n s hI) (fun r s₁ h₁=>?_) fun _ _ h'=>h'.elim)))
 cases r with
 |none=>exact wpAny_pure h₁
 |some v=>
  refine wpAny_bind (wpAny_mono h₁ (fun _ s₁ h₁=>?_) fun _ _ h'=>h'.elim)
  refine wpAny_bind (wpAny_mono h₁ (fun _ s₂ h₂=>?_) fun _ _ h'=>h'.elim)
  refine wpAny_bind (wpAny_tests_one (wpAny_mono h₂ (fun okb s₃ h₃=>?_) fun _ _ h'=>h'.elim))
  cases okb with
  |false=>exact wpAny_pure ⟨rfl,h₃⟩
  |true=>exact wpAny_bind (wpAny_bind (wpAny_mono h₃ (fun x s₄ h₄=>wpAny_bind (wpAny_mono h₄ (fun _ s₅ h₅=>wpAny_pure (wpAny_pure ⟨rfl,h₅⟩)) fun _ _ h'=>h'.elim)) fun _ _ h'=>h'.elim))
end
section
variable{X:Cx}{scope:Scope}{vars:List Str}{caps:List (Nat×Str)}{elt tg iter cnd:Expr}{pos:Pos}{wi:TI}{g:TG}{tt:TT}{te:TE}
theorem rV{Cm:Cx->Prop}(B:BlkOk X.env.scope.names X.N scope vars caps)
  (hg:∀C s₀ H₀ ex,PG (dz X scope (vars++caps.map (·.2)) C s₀ H₀ ex) tg g) (hb:∀C s₀ H₀ ex,PT (dz X scope (vars++caps.map (·.2)) C s₀ H₀ ex) cnd tt) (he:∀C s₀ H₀ ex,PE (dz X scope (vars++caps.map (·.2)) C s₀ H₀ ex) elt te)
  {pins:List (Addr×Obj)} {σ:St} {H2:Hp} {s2:Shared} {Q:VK} {it:Addr} {fp:List Addr} {tn:Nat->Heap->Prop} {J:It} (I2:Inv X pins σ H2 s2) (T:TurnG Cm X.prog X.w X.K tg J fp it tn) (st2:tn 0 s2.heap) (f2:∀b∈fp,iM X pins H2 b) (hc:∀C,Cm (dz X scope (vars++caps.map (·.2)) C s2 H2 fp))
  {W:Nat->Nat->List V->Hp->Prop} {m0:Nat} (w0:W 0 m0 [] H2) (turn:∀i m ys H,W i m ys H ->
   (J.stop i H/\ys.length<=sizeLine/\∀p,H p=none->Q (.ref p) (upd H p (.lst ys))) \/
   (J.go i H/\ys.length<sizeLine/\∀x H',J.yld i H x H'->g x (vars.map (fun _=>none)++fF σ caps) H' fun σ2 H2=>vv (vars.map (fun _=>none)++fF σ caps) σ2/\tt σ2 H2 fun b H3=>if b=true then te σ2 H3 fun y H4=>∃m',m'<m/\W (i+1) m' (ys++[y]) H4 else ∃m',m'<m/\W (i+1) m' ys H3))
  {RR:Value->Addr->Result->Shared->Prop} {E:Value->Shared->Prop}
  (hRR:∀D C s' m,s'.heap.Ns C m->D≠C->s2.heap.objs.size<=D->s2.heap.objs.size<=C->∀H',H' C=none->(∀h',Heap.SameBut C s'.heap h'->Inv X pins σ H' { s' with heap:=h' })->Q (.ref D) H'->RR (.ref D) C (.ok .next) s') :
  wpAny (model X.prog X.w) X.A (newList []) (fun acc s₃=>wpAny (model X.prog X.w) X.A (newFunctionEnv scope X.env.globals (iH X.env scope.names []) [] X.env.qual none .none (some X.env)) (fun cenv s₄=>
   codeAny (model X.prog X.w) X.A (.compStart (.ListComp elt [⟨tg,iter,[cnd],0⟩] scope pos) 0 (.ref it) acc { cenv with scope:=relabel scope X.env }) (RR acc cenv.locals) s₄) E s₃) E s2:=by
 refine wpAny_newObj_type (wpAny_newFunctionEnv B.cell (by intro y hy;simp at hy) (fun h₁ hns₁ hsb₁=>?_) B.kind);dsimp only at hns₁ hsb₁ ⊢;generalize hP:s2.heap.push { cls:=.type "list",dict:=none,data:=.seq ([]:List Value).toArray }=HP at hns₁ hsb₁ ⊢;have hCs:HP.objs.size=s2.heap.objs.size+1:=by rw[<-hP,Heap.size_push]
 have hDC:s2.heap.objs.size≠HP.objs.size:=by rw[hCs];exact Nat.ne_of_lt (Nat.lt_succ_self _)
 have hCle:s2.heap.objs.size<=HP.objs.size:=by rw[hCs];exact Nat.le_succ _
 have old:∀b o,s2.heap.get? b=some o->h₁.get? b=some o:=fun b o e=>hsb₁.extBut b o (Nat.ne_of_lt (Nat.lt_of_lt_of_le (Heap.lt_size e) hCle)) (Heap.get?_push_of_some _ (hP ▸ Heap.get?_push_of_some _ e))
 have hacc:h₁.PlainList s2.heap.objs.size #[]:=⟨_,hsb₁.extBut _ _ hDC (Heap.get?_push_of_some _ (hP ▸ Heap.get?_push_size _ rfl))⟩;have flt:∀b∈fp,b<s2.heap.objs.size:=fun b hb=>by
  obtain⟨o,e,_⟩:=T.obj _ _ st2 b hb;exact Heap.lt_size e
 have st1:tn 0 h₁:=T.keep _ _ _ st2 fun b _ o e=>old b o e
 have loop:∀s3:Shared,s3={ s2 with heap:=h₁,toks:=s2.toks+([]:List (Str×Value)).length } ->
   codeAny (model X.prog X.w) X.A (.compLoop (.ListComp elt [⟨tg,iter,[cnd],0⟩] scope pos) 0 (.ref it) (.ref s2.heap.objs.size) (compEnvC scope (iH X.env scope.names []) HP.objs.size X.env))
    (RR (.ref s2.heap.objs.size) HP.objs.size) s3:=by
  rintro s3 rfl;have X':=dz X scope (vars++caps.map (·.2)) HP.objs.size s2 H2 fp;have fpo:∀{H':Hp},(∀b∈fp,H' b=none)->∀b∈fp,iM (dz X scope (vars++caps.map (·.2)) HP.objs.size s2 H2 fp) [] H' b:=fun hn b hb=>by
   have ok:=tY B I2 f2 flt hCle;exact⟨hn b hb,(ok.exf b hb).1,ok.exfs b hb,.inl hb,(ok.exf b hb).2,fun p hp=>absurd (show p∈([]:List (Addr×Obj))from hp) (by simp)⟩
  refine jZ (fun n s=>∃i ys H its,Inv (dz X scope (vars++caps.map (·.2)) HP.objs.size s2 H2 fp) [] (vars.map (fun _=>none)++fF σ caps) H s/\tn i s.heap/\(∀b∈fp,H b=none)/\s.heap.PlainList s2.heap.objs.size (List.toArray its)/\H s2.heap.objs.size=none/\Vals ys its/\W i n ys H) ?_ m0
   ⟨0,[],H2,[],vk B I2 f2 flt hCle hns₁ old,st1,fun b hb=>(f2 b hb).1,hacc,I2.hok.fresh (Nat.le_refl _),.nil,w0⟩
  rintro n s4 ⟨i,ys,H4,its,I4,st4,fr4,pl4,nD4,v4,w4⟩;obtain⟨nn,eD⟩:=id pl4;have DnL:s2.heap.objs.size≠(dz X scope (vars++caps.map (·.2)) HP.objs.size s2 H2 fp).env.locals:=hDC;have Dfs:s2.heap.objs.size ∉ (dz X scope (vars++caps.map (·.2)) HP.objs.size s2 H2 fp).fs:=fun z=>by
   rcases List.mem_cons.mp (I2.stkSub _ z)with q|q
   ·have:=I2.lt;rw[<-q]at this;exact Nat.lt_irrefl _ this
   ·exact I2.nofs (Nat.le_refl _) q
  have Dfp:∀b∈fp,s2.heap.objs.size≠b:=fun b hb z=>by have:=flt b hb;rw[<-z]at this;exact Nat.lt_irrefl _ this
  have DnC:∀x c,(dz X scope (vars++caps.map (·.2)) HP.objs.size s2 H2 fp).env.cells.lookup x=some c->c≠s2.heap.objs.size:=fun x c e z=>by
   rcases bu _ _ _ _ (B.cells I2) e with q|q
   ·cases q
   ·obtain⟨v,o,ho,_⟩:=I2.cell x c q
    have:=Heap.lt_size ho;rw[z]at this;exact Nat.lt_irrefl _ this
  have pinD:∀{σ':St} {H':Hp} {s':Shared},Inv (dz X scope (vars++caps.map (·.2)) HP.objs.size s2 H2 fp) [(s2.heap.objs.size,{ cls:=.type "list",data:=.seq its.toArray nn })] σ' H' s'->s'.heap.PlainList s2.heap.objs.size its.toArray/\H' s2.heap.objs.size=none:=fun{σ' H' s'} I'=>by
   obtain⟨q1,q2,_⟩:=I'.pin (s2.heap.objs.size,{ cls:=.type "list",data:=.seq its.toArray nn }) (by simp[dz]);exact⟨⟨nn,q1⟩,q2⟩
  have I4p:Inv (dz X scope (vars++caps.map (·.2)) HP.objs.size s2 H2 fp) [(s2.heap.objs.size,{ cls:=.type "list",data:=.seq its.toArray nn })] (vars.map (fun _=>none)++fF σ caps) H4 s4:=
   I4.pins_of fun p hp=>by
    have e:p=(s2.heap.objs.size,{ cls:=.type "list",data:=.seq its.toArray nn }):=by simpa[dz]using hp
    subst e;exact⟨eD,nD4,DnL,Dfs,fun v z=>by cases z⟩
  have fpo':∀{H':Hp},(∀b∈fp,H' b=none)->∀b∈fp,iM (dz X scope (vars++caps.map (·.2)) HP.objs.size s2 H2 fp) [(s2.heap.objs.size,{ cls:=.type "list",data:=.seq its.toArray nn })] H' b:=fun hn b hb=>by
   obtain⟨q1,q2,q3,q4,q5,_⟩:=fpo hn b hb;exact⟨q1,q2,q3,q4,q5,fun p hp=>by
    have e:p=(s2.heap.objs.size,{ cls:=.type "list",data:=.seq its.toArray nn }):=by simpa[dz]using hp
    subst e;exact Dfp b hb⟩
  have unp:∀{pl:List (Addr×Obj)} {σ':St} {H':Hp} {s':Shared},Inv (dz X scope (vars++caps.map (·.2)) HP.objs.size s2 H2 fp) pl σ' H' s'->Inv (dz X scope (vars++caps.map (·.2)) HP.objs.size s2 H2 fp) [] σ' H' s':=fun{pl σ' H' s'} I'=>
   I'.pins_of fun p hp=>absurd (show p∈([]:List (Addr×Obj))from hp) (by simp)
  rcases turn i n ys H4 w4 with⟨stop,hz,qn⟩|⟨go,hz,step⟩
  ·refine cx (T.done (dz X scope (vars++caps.map (·.2)) HP.objs.size s2 H2 fp) rfl rfl rfl (hc _) i _ s4 _ H4 _ I4p (fpo' fr4) st4 stop) fun r s5 ⟨hr,I5⟩=>?_
   subst hr;obtain⟨p5,n5⟩:=pinD I5;obtain⟨m5,ns5,_⟩:=I5.loc;refine hRR _ _ s5 m5 ns5 hDC (Nat.le_refl _) hCle _ ?_ (fun h' hs'=>vj I2 f2 hCle (Nat.le_refl _) hDC (unp I5) n5 p5 v4 hz hs') (qn _ n5)
   rw[aV hDC.symm];exact I5.free
  ·refine cx (T.item (dz X scope (vars++caps.map (·.2)) HP.objs.size s2 H2 fp) rfl rfl rfl (hc _) i _ s4 _ H4 _ I4p (fpo' fr4) st4 go) fun r s5 ⟨u,hr,h5⟩=>?_
   subst hr;refine cx h5 fun _ s6 ⟨x,H6,I6,rx,yx,st6,fr6⟩=>?_
   have I6p:=I6.pinned (fpo' fr6) (T.obj _ _ st6);refine cx (hg _ _ _ _ _ s6 _ H6 x u _ I6p rx (step x H6 yx)) fun _ s7 ⟨σ7,H7,I7,kp,q7⟩=>?_
   refine cx (hb _ _ _ _ _ s7 σ7 H7 _ I7 q7) fun okb s7' q7'=>?_
   obtain⟨H7',I7',q7'⟩:=q7';cases okb with
   |false=>
    obtain⟨m',hm,w8⟩:=q7';rw[if_neg (by decide)];obtain⟨p8,n8⟩:=pinD I7'.unpinned;have st8:tn (i+1) s7'.heap:=T.keep _ _ _ st6 fun b hb o e=>(I7'.pin (b,o) (List.mem_append_right _ (List.mem_append_right _ (cC hb e)))).1
    have fr8:∀b∈fp,H7' b=none:=fun b hb=>by
     obtain⟨o,e,d⟩:=T.obj _ _ st6 b hb;exact(I7'.pin (b,o) (List.mem_append_right _ (List.mem_append_right _ (cC hb e)))).2.1
    exact⟨m',hm,i+1,ys,H7',its,(unp I7').weak kp.1 kp.2,st8,fr8,p8,n8,v4,w8⟩
   |true=>
   rw[if_pos rfl];rw[if_pos rfl]at q7';refine cx (he _ _ _ _ _ s7' σ7 H7' _ I7' q7') fun v s8 ⟨y,H8,I8,ry,m',hm,w8⟩=>?_
   obtain⟨p8,n8⟩:=pinD I8.unpinned;have st8:tn (i+1) s8.heap:=T.keep _ _ _ st6 fun b hb o e=>(I8.pin (b,o) (List.mem_append_right _ (List.mem_append_right _ (cC hb e)))).1
   have fr8:∀b∈fp,H8 b=none:=fun b hb=>by
    obtain⟨o,e,d⟩:=T.obj _ _ st6 b hb;exact(I8.pin (b,o) (List.mem_append_right _ (List.mem_append_right _ (cC hb e)))).2.1
   have hl:=v4.length;refine wpAny_list_append_plain p8 (fun h9 p9 sb9=>⟨m',hm,i+1,ys++[y],H8,its++[v],?_,?_,fr8,by simpa using p9,n8,v4.append (.cons ry .nil),w8⟩) (by simp;omega)
   ·have I9:Inv (dz X scope (vars++caps.map (·.2)) HP.objs.size s2 H2 fp) [] σ7 H8 { s8 with heap:=h9,toks:=s8.toks }:=
     (unp I8).turned (it:=s2.heap.objs.size) (fun b o hb e=>sb9.extBut b o hb e) n8 DnL (.inr (Nat.le_refl _)) DnC fun p hp=>absurd (show p∈([]:List (Addr×Obj))from hp) (by simp)
    exact I9.weak kp.1 kp.2
   ·exact T.keep _ _ _ st8 fun b hb o e=>sb9.extBut b o (Dfp b hb).symm e
 exact codeAny_compStart_list (loop _ rfl) (T.self _ 0 _ _ _ st1 (loop _ rfl))
theorem yb(B:BlkOk X.env.scope.names X.N scope vars caps)(hc:X.calm=true)(hi:PI X tg iter wi)
  (hg:∀C s₀ H₀ ex,PG (dz X scope (vars++caps.map (·.2)) C s₀ H₀ ex) tg g) (hb:∀C s₀ H₀ ex,PT (dz X scope (vars++caps.map (·.2)) C s₀ H₀ ex) cnd tt) (he:∀C s₀ H₀ ex,PE (dz X scope (vars++caps.map (·.2)) C s₀ H₀ ex) elt te) (hs:∀x,foldedSetIterable iter X.env x=pure x:=by intro _;rfl) :
  PE X (.ListComp elt [⟨tg,iter,[cnd],0⟩] scope pos) (xh wi g tt te vars caps):=by
 intro pins s σ H Q I h;rw[eval_ListComp];refine wpAny_comprehension_free (use:=none) rfl hs (fE (B.cells I)) B.kind B.names ?_;show wpAny _ _ (eval iter X.env) _ _ s;refine cx (hi pins s σ H _ I h) fun v s1 h1=>cx h1 fun itv s2 h2=>?_
 obtain⟨it,fp,tn,J,H2,e,I2,T,st2,f2,W,⟨m0,w0⟩,turn⟩:=h2;subst e;exact rV (Cm:=fun X=>X.calm=true) B hg hb he I2 T st2 f2 (fun _=>hc) w0 turn (RR:=fun acc C=>compPost (model X.prog X.w) X.A X.xe none (EP X pins σ Q) acc C) fun D C s' m ns _ _ _ H' _ k q=>⟨m,ns,fun h' hs'=>⟨.ref D,H',k h' hs',rfl,q⟩⟩
end
noncomputable def f9(t:D->Option Bool)(f:D->Option D):List D->Option (List D)
 |[]=>some []
 |d::ds=>(t d).bind fun b=>if b=true then(f d).bind fun e=>(f9 t f ds).bind fun es=>some (e::es)else f9 t f ds
@[simp] theorem GA{t:D->Option Bool}{f:D->Option D}:f9 t f []=some []:=rfl
noncomputable def jL(fi:Dv->Option (List D))(caps:List (Nat×Str))(bv:D->Option (List D))(ft:Dv->Option Bool)(fe:Dv->Option D):Dv->Option D:=fun δ=>(fi δ).bind fun ds=>if ds.length<=sizeLine then(f9 (fun d=>(bv d).bind fun vs=>ft (vs.map .fz++capS δ caps)) (fun d=>(bv d).bind fun vs=>fe (vs.map .fz++capS δ caps)) ds).bind fun es=>some (.list es)else none
theorem jX{t:D->Option Bool}{f:D->Option D}:∀{ds es:List D} {i:Nat} {d:D},f9 t f ds=some es->ds[i]? = some d->∃xs,f9 t f (ds.take i)=some xs/\∃b,t d=some b/\(b=false->f9 t f (ds.take (i+1))=some xs)/\(b=true->∃e,f d=some e/\f9 t f (ds.take (i+1))=some (xs++[e]))
 |[],es,i,d,h,q=>by simp at q
 |d::ds,es,i,d',h,q=>by
  obtain⟨b,h1,h⟩:=bind_some h;cases i with
  |zero=>
   simp at q;subst q;refine⟨[],rfl,b,h1,fun hb=>?_,fun hb=>?_⟩
   ·subst hb;simp[f9,h1]
   ·subst hb
    rw[if_pos rfl]at h;obtain⟨e,h2,h⟩:=bind_some h;exact⟨e,h2,by simp[f9,h1,h2]⟩
  |succ i=>
   simp at q;cases b with
   |false=>
    rw[if_neg (by decide)]at h;obtain⟨xs,g1,b',g2,g3,g4⟩:=jX (i:=i) h q;refine⟨xs,by simp[f9,h1,g1],b',g2,fun hb=>by simpa[f9,h1]using g3 hb,fun hb=>?_⟩
    obtain⟨e,k1,k2⟩:=g4 hb;exact⟨e,k1,by simpa[f9,h1]using k2⟩
   |true=>
    rw[if_pos rfl]at h;obtain⟨e0,h2,h⟩:=bind_some h;obtain⟨es',h3,h⟩:=bind_some h;obtain⟨xs,g1,b',g2,g3,g4⟩:=jX (i:=i) h3 q;refine⟨e0::xs,by simp[f9,h1,h2,g1],b',g2,fun hb=>by simp[f9,h1,h2,g3 hb],fun hb=>?_⟩
    obtain⟨e,k1,k2⟩:=g4 hb;exact⟨e,k1,by simp[f9,h1,h2,k2]⟩
theorem pQ{t:D->Option Bool}{f:D->Option D}:∀{ds es:List D},f9 t f ds=some es->es.length<=ds.length
 |[],es,h=>by cases h;exact Nat.le_refl _
 |d::ds,es,h=>by
  obtain⟨b,h1,h⟩:=bind_some h;cases b with
  |false=>rw[if_neg (by decide)]at h;exact Nat.le_succ_of_le (pQ h)
  |true=>
   rw[if_pos rfl]at h;obtain⟨e0,h2,h⟩:=bind_some h;obtain⟨es',h3,h⟩:=bind_some h;cases h;exact Nat.succ_le_succ (pQ h3)
section
variable{X:Cx}{scope:Scope}{vars:List Str}{caps:List (Nat×Str)}{elt tg iter cnd:Expr}{pos:Pos}{g:TG}{fi:Dv->Option (List D)}{ft:Dv->Option Bool}{fe:Dv->Option D}{bv:D->Option (List D)}
theorem tT(tk:wO X.K g vars.length bv){σ:St}{H:Hp}{Q:VK}(h:tV X.K (jL fi caps bv ft fe) σ H Q):xh (Ho X.K fi) g (E8 X.K ft) (tV X.K fe) vars caps σ H Q:=by
 obtain⟨H₀,Z₀,Z,δ,d,hh,e,k⟩:=h;obtain⟨ds,e1,e⟩:=bind_some e;by_cases hz:ds.length<=sizeLine
 ·rw[if_pos hz]at e
  obtain⟨es,e2,e⟩:=bind_some e;cases e;have hv:vars.map (fun _=>(none:Option V))=List.replicate vars.length none:=by rw[List.map_const']
  refine⟨H₀,Z₀,Z,δ,ds,hh,e1,fun J Z1 H1 hh1 t1 ok=>?_⟩
  refine⟨fun i m ys H=>m=ds.length-i/\i<=ds.length/\∃Zc xs,Hold X.K H₀ Z₀ Zc δ σ H/\Same Z1 Zc/\f9 (fun d=>(bv d).bind fun vs=>ft (vs.map .fz++capS δ caps)) (fun d=>(bv d).bind fun vs=>fe (vs.map .fz++capS δ caps)) (ds.take i)=some xs/\Reps X.K Zc ys xs,⟨ds.length,by simp,Nat.zero_le _,Z1,[],hh1,Same.refl _,rfl,.nil⟩,?_⟩
  rintro i m ys H2 ⟨rfl,hi2,Zc,xs,hhc,tc,fx,rc⟩;have zh:Same Z1 H2:=tc.trans hhc.zh;have ly:=rc.length;have lx:=pQ fx;rw[List.length_take]at lx;by_cases hlt:i<ds.length
  ·refine .inr ⟨ok.go i H2 zh hlt,by omega,fun x H3 y=>?_⟩
   have ed:ds[i]? = some ds[i]:=by simp[hlt]
   obtain⟨rfl,rx⟩:=ok.yld i H2 x H3 _ zh ed y;obtain⟨xs',f0,b,fb,ff,ftr⟩:=jX e2 ed;rw[fx]at f0;cases f0;obtain⟨vs,f3,f1⟩:=bind_some fb;rw[hv];refine tk x Zc ds[i] vs (fF σ caps) H3 _ (rx.same tc) hhc.zh f3 fun us ru hn=>⟨⟨by simp[hn],fun j v q=>?_⟩,?_⟩
   ·by_cases hj:j<vars.length
    ·rw[List.getElem?_append_left (by simpa using hj),List.getElem?_replicate]at q
     split at q<;>cases q
    ·rw[List.getElem?_append_right (by simpa using hj)]at q
     rw[List.getElem?_append_right (by simpa[hn]using hj)];simpa[hn]using q
   ·refine⟨H3,Zc,Zc,_,b,sd hhc ru,f1,fun Z3 H3' h3 t3=>?_⟩
    have hh3:=hhc.new ⟨t3,h3.h0,h3.zh,h3.zb,h3.nf⟩;cases b with
    |false=>
     dsimp only;rw[if_neg (by decide)];exact⟨ds.length-(i+1),by omega,rfl,hlt,Z3,xs,hh3,tc.trans t3,ff rfl,rc.same t3⟩
    |true=>
     dsimp only;rw[if_pos rfl];obtain⟨ei,f2,f4⟩:=ftr rfl;rw[f3]at f2;refine⟨H3,Zc,Z3,_,ei,h3,f2,fun v Z4 H4 h4 t4 r4=>⟨ds.length-(i+1),by omega,rfl,hlt,Z4,xs++[ei],?_,(tc.trans t3).trans t4,f4,((rc.same t3).same t4).append (.cons r4 .nil)⟩⟩
     exact hhc.new ⟨t3.trans t4,h4.h0,h4.zh,h4.zb,h4.nf⟩
  ·have hie:i=ds.length:=by omega
   subst hie;refine .inl ⟨ok.stop _ H2 zh (Nat.le_refl _),by omega,fun p hp=>?_⟩
   rw[List.take_length,e2]at fx;cases fx;have n:=New.add hhc.zh hp (.lst ys);exact k _ _ _ (hhc.new n) ((t1.trans tc).trans n.z) (.lst (SqL.of aX) (rc.same n.z))
 ·rw[if_neg hz]at e;cases e
theorem rP(B:BlkOk X.env.scope.names X.N scope vars caps)(hc:X.calm=true)(hi:IV X tg iter fi)(tk:wO X.K g vars.length bv)
  (hg:∀C s₀ H₀ ex,PG (dz X scope (vars++caps.map (·.2)) C s₀ H₀ ex) tg g) (hb:∀C s₀ H₀ ex,TV (dz X scope (vars++caps.map (·.2)) C s₀ H₀ ex) cnd ft) (he:∀C s₀ H₀ ex,EV (dz X scope (vars++caps.map (·.2)) C s₀ H₀ ex) elt fe) (hs:∀x,foldedSetIterable iter X.env x=pure x:=by intro _;rfl) :
  EV X (.ListComp elt [⟨tg,iter,[cnd],0⟩] scope pos) (jL fi caps bv ft fe):=
 PE.imp (yb (tt:=E8 X.K ft) (te:=tV X.K fe) B hc hi hg hb he hs) fun _ _ _ h=>tT tk h
end
noncomputable def v6(f1 f2 f3:Dv->Option D)(g g':D->D->Option D):Dv->Option D:=fun δ=>(f1 δ).bind fun a=>(f2 δ).bind fun b=>(g a b).bind fun r=>(asB r).bind fun k=>if k=true then(f3 δ).bind fun c=>g' b c else some (.bool false)
section
variable{X:Cx}{a b c:Expr}{pos:Pos}{f1 f2 f3:Dv->Option D}
theorem tW{K:Fg}{g g':D->D->Option D}{σ:St}{H:Hp}{Q:VK}(h:tV K (v6 f1 f2 f3 g g') σ H Q):xj (rD K g) (rD K g') (tV K f1) (tV K f2) (tV K f3) σ H Q:=by
 obtain⟨H₀,Z₀,Z,δ,d,hh,e,k⟩:=h;obtain⟨x,e1,ea⟩:=bind_some e;obtain⟨y,e2,eb⟩:=bind_some ea;obtain⟨r,e3,ec⟩:=bind_some eb;obtain⟨kk,e4,ed⟩:=bind_some ec;clear e ea eb ec;have er:=zC e4;subst er;refine⟨H₀,Z₀,Z,δ,x,hh,e1,fun v1 Z1 H1 hh1 s1 r1=>⟨H₀,Z₀,Z1,δ,y,hh1,e2,fun v2 Z2 H2 hh2 s2 r2=>?_⟩⟩
 refine⟨Z2,x,y,_,hh2.zh,r1.same s2,r2,e3,fun v3 Z3 H3 n r3=>⟨kk,r3.bl_eq,?_⟩⟩
 cases kk with
 |true=>
  rw[if_pos rfl]at ed ⊢;obtain⟨z,e5,e⟩:=bind_some ed;refine⟨H₀,Z₀,Z3,δ,z,hh2.new n,e5,fun v4 Z4 H4 hh4 s4 r4=>⟨Z4,y,z,d,hh4.zh,(r2.same n.z).same s4,r4,e,fun v5 Z5 H5 n5 r5=>?_⟩⟩
  exact k v5 Z5 H5 (hh4.new n5) ((((s1.trans s2).trans n.z).trans s4).trans n5.z) r5
 |false=>
  rw[if_neg (by decide)]at ed ⊢;cases ed;exact k _ Z3 H3 (hh2.new n) ((s1.trans s2).trans n.z) (.bl _)
theorem xa{op op':CmpOp}{g g':D->D->Option D}(ho:OpR X (compareOp op) (rD X.K g))(ho':OpR X (compareOp op') (rD X.K g'))(ha:EV X a f1)(hb:EV X b f2)(hc:EV X c f3)
  (hm:lastMarks [op,op'] [b,c]=false:=by with_unfolding_all rfl):TV X (.Compare a [op,op'] [b,c] pos) (ob (v6 f1 f2 f3 g g')):=
 PT.imp (xQ ho ho' ha hb hc hm) fun _ _ _ h=>tW (Hk h)
end
noncomputable def Ac:D->Bool
 |.none=>true
 |.bool _=>true
 |.int _=>true
 |.str _=>true
 |_=>false
noncomputable def G7(x:D)(ds:List D):Bool:=ds.any fun y=>PyData.eqv y x
noncomputable def mW(neg:Bool):D->D->Option D:=fun a b=>(df b).bind fun ds=>if Ac a=true/\ds.all Ac=true then some (.bool (if neg=true then !G7 a ds else G7 a ds))else none
theorem Rep.flat{K:Fg}{Z:Hp}{v:V}{d:D}(r:Rep K Z v d):gM v=Ac d:=by cases r<;>rfl
theorem Rep.eqF{K:Fg}{Z:Hp}{v u:V}{d e:D}(r:Rep K Z v d)(q:Rep K Z u e)(h1:Ac d=true)(h2:Ac e=true):Ad v u=PyData.eqv d e:=by
 cases r<;>first|(cases q<;>first|rfl|cases h2)|cases h1
theorem Reps.allF{K:Fg}{Z:Hp}:∀{vs:List V} {ds:List D},Reps K Z vs ds->vs.all gM=ds.all Ac
 |_,_,.nil=>rfl
 |_,_,.cons r t=>by rw[List.all_cons,List.all_cons,r.flat,t.allF]
theorem Reps.inF{K:Fg}{Z:Hp}{x:V}{a:D}(q:Rep K Z x a)(h:Ac a=true):∀{vs:List V} {ds:List D},Reps K Z vs ds->ds.all Ac=true->G6 x vs=G7 a ds
 |_,_,.nil,_=>rfl
 |_,_,.cons r t,f=>by
  rw[List.all_cons,Bool.and_eq_true]at f;show(Ad _ x||G6 x _)=(PyData.eqv _ a||G7 a _);rw[r.eqF q f.1 h,t.inF q h f.2]
theorem BB{K:Fg}{neg:Bool}{x y:V}{H:Hp}{Q:VK}(h:rD K (mW neg) x y H Q):HS K neg x y H Q:=by
 obtain⟨Z,a,b,d,zh,ra,rb,e,k⟩:=h;obtain⟨ds,e1,e⟩:=bind_some e;by_cases c:Ac a=true/\ds.all Ac=true
 ·rw[if_pos c]at e
  cases e;have go:∀(xs:List V),Reps K Z xs ds->(∃p,y=.ref p/\(SqL K H p xs\/SqT K H p xs))->HS K neg x y H Q:=fun xs r ⟨p,ey,hq⟩=>by
   refine⟨p,xs,ey,hq,by rw[ra.flat];exact c.1,by rw[r.allF];exact c.2,?_⟩;have:=r.inF ra c.1 c.2;rw[this];exact k _ Z H (New.refl zh) (.bl _)
  cases rb with
  |lst h q=>cases e1;exact go _ q ⟨_,rfl,.inl (SqL.same h zh)⟩
  |tup h q=>cases e1;exact go _ q ⟨_,rfl,.inr (SqT.same h zh)⟩
  |_=>cases e1
 ·rw[if_neg c]at e;cases e
theorem GG{X:Cx}:OpR X (compareOp .In) (rD X.K (mW false)):=OpR.imp vU fun _ _ _ _ h=>BB h
noncomputable def gT:List (D->Dv->Option Dv)->List D->Dv->Option Dv
 |[],[],δ=>some δ
 |g::gs,d::ds,δ=>(g d δ).bind fun δ1=>gT gs ds δ1
 |_,_,_=>none
noncomputable def EX(gs:List (D->Dv->Option Dv)):D->Dv->Option Dv
 |.tuple ds,δ=>gT gs ds δ
 |_,_=>none
@[simp] theorem Ir(δ:Dv):gT [] [] δ = some δ:=rfl
@[simp] theorem Hb(g:D->Dv->Option Dv)(gs:List (D->Dv->Option Dv))(d:D)(ds:List D)(δ:Dv):gT (g::gs) (d::ds) δ = (g d δ).bind fun δ1=>gT gs ds δ1:=rfl
@[simp] theorem Ha(gs:List (D->Dv->Option Dv))(ds:List D)(δ:Dv):EX gs (.tuple ds) δ = gT gs ds δ:=rfl
theorem ze:∀{gs:List (D->Dv->Option Dv)} {ds:List D} {δ δ':Dv},gT gs ds δ = some δ'->ds.length=gs.length
 |[],[],_,_,_=>rfl
 |[],_::_,_,_,h=>by cases h
 |_::_,[],_,_,h=>by cases h
 |g::gs,d::ds,δ,δ',h=>by
  obtain⟨δ1,_,h⟩:=bind_some h;exact congrArg (· + 1) (ze h)
noncomputable def Hq(K:Fg)(gs:List (D->Dv->Option Dv)):Cb:=fun vs σ H Q=>∃H₀ Z₀ Z δ ds δ',Hold K H₀ Z₀ Z δ σ H/\Reps K Z vs ds/\gT gs ds δ = some δ'/\∀ σ' H' Z',Hold K H₀ Z₀ Z' δ' σ' H'->Same Z Z'->Q σ' H'
def He(X:Cx)(es:List Expr)(gs:List (D->Dv->Option Dv)):Prop:=PGs X es (Hq X.K gs)
section
variable{X:Cx}{pos:Pos}{e:Expr}{es:List Expr}{g:D->Dv->Option Dv}{gs:List (D->Dv->Option Dv)}
theorem PGs.imp{t t':Cb}(h:PGs X es t)(i:∀v σ H Q,t' v σ H Q->t v σ H Q):PGs X es t':=fun pins s σ H x v Q I r q=>h pins s σ H x v Q I r (i _ _ _ _ q)
theorem uZ:He X [] []:=PGs.imp AN fun vs σ H Q h=>by
 obtain⟨H₀,Z₀,Z,δ,ds,δ',hh,r,e,k⟩:=h;cases r with
 |nil=>cases e;exact⟨rfl,k σ H Z hh (Same.refl _)⟩
 |cons _ _=>cases e
theorem gL(h1:GV X e g)(h2:He X es gs)(hs:(assignEach (e::es) X.env).map (·.2)=assign e X.env::(assignEach es X.env).map (·.2):=by rfl):He X (e::es) (g::gs):=
 PGs.imp (xY h1 h2 hs) fun vs σ H Q h=>by
  obtain⟨H₀,Z₀,Z,δ,ds,δ',hh,r,e,k⟩:=h;cases r with
  |nil=>cases e
  |cons r t=>
   obtain⟨δ1,e1,e⟩:=bind_some e;exact⟨_,_,rfl,H₀,Z₀,Z,δ,_,δ1,hh,r,e1,fun σ1 H1 Z1 hh1 s1=>⟨H₀,Z₀,Z1,δ1,_,δ',hh1,t.same s1,e,fun σ2 H2 Z2 hh2 s2=>k σ2 H2 Z2 hh2 (s1.trans s2)⟩⟩
theorem yX{k:Nat}(hc:X.calm=true)(h:He X es gs)(hn:(assignEach es X.env).length=gs.length:=by rfl)(hst:(assignEach es X.env).findIdx? (·.1)=none:=by rfl):GV X (.Tuple es k pos) (EX gs):=
 PG.imp (Dr hc h hn hst) fun v σ H Q h=>by
  obtain⟨H₀,Z₀,Z,δ,d,δ',hh,r,e,k⟩:=h;cases r with
  |tup q t=>
   have el:_=gs.length:=ze (gs:=gs) e;exact⟨_,_,rfl,SqT.same q hh.zh,by rw[t.length];exact el,H₀,Z₀,Z,δ,_,δ',hh,t,e,k⟩
  |_=>cases e
noncomputable def Fm(f:Dv->Option D)(g:D->Dv->Option Dv):Sf:=fun δ=>(f δ).bind fun d=>(g d δ).bind fun δ'=>some (.nx,δ')
theorem C5{tg:Expr}{f:Dv->Option D}(he:EV X e f)(hg:GV X tg g)(hs:swapsWithSole [tg] e pos.line X.env=pure false:=by rfl)(hw:swappedStores [tg] e X.env=pure none:=by rfl)
  (h1:(assignEach [tg] X.env).map (·.2)=[assign tg X.env]:=by rfl):SV X (.Assign [tg] e pos) (Fm f g):=
 PS.imp (Dp he hg hs hw h1) fun D σ H h=>by
  obtain⟨H₀,Z₀,Z,δ,r,hh,e,k⟩:=h;obtain⟨d,e1,e⟩:=bind_some e;obtain⟨δ',e2,e⟩:=bind_some e;cases e;exact⟨H₀,Z₀,Z,δ,d,hh,e1,fun v Z1 H1 hh1 s1 r1=>⟨H₀,Z₀,Z1,δ,d,δ',hh1,r1,e2,fun σ' H' Z' hh' s'=>k σ' H' Z' hh' (s1.trans s')⟩⟩
end
theorem bU{g:D->Dv->Option Dv}{b:Sf}{d:D}{ds:List D}{δ δ1 δ2:Dv}(h1:g d δ = some δ1)(h2:b δ1=some (.nx,δ2)):loop g b (d::ds) δ = loop g b ds δ2:=by
 show((g d δ).bind fun δ1=>_)=_
 rw[h1,Option.bind_some,h2];rfl
@[simp] noncomputable def Jf(i:Nat)(f:Dv->Option (List D)):Sf:=fun δ=>(f δ).bind fun ds=>some (.nx,δ.set i (.ow ds))
noncomputable def vI(t:Sf):Fl×Dv->Option (Fl×Dv)
 | (.nx,δ)=>t δ
 |r=>some r
@[simp] theorem GU(t:Sf)(δ:Dv):vI t (.nx,δ)=t δ:=rfl
@[simp] theorem GT(t:Sf)(d:D)(δ:Dv):vI t (.rt d,δ)=some (.rt d,δ):=rfl
@[simp] theorem GX(t:Sf)(δ:Dv):vI t (.bk,δ)=some (.bk,δ):=rfl
@[simp] theorem GW(t:Sf)(δ:Dv):vI t (.ct,δ)=some (.ct,δ):=rfl
noncomputable def Ii(u w:Sf)(δ:Dv):Bool->Option (Fl×Dv)
 |true=>u δ
 |false=>w δ
@[simp] theorem Jp(u w:Sf)(δ:Dv):Ii u w δ true=u δ:=rfl
@[simp] theorem Jq(u w:Sf)(δ:Dv):Ii u w δ false=w δ:=rfl
theorem aF(s t:Sf)(δ:Dv):ap s t δ = (s δ).bind (vI t):=by
 unfold ap vI;congr 1
theorem aZ(t:Dv->Option Bool)(u w:Sf)(δ:Dv):cw t u w δ = (t δ).bind (Ii u w δ):=by
 unfold cw;congr 1;funext c;cases c<;>rfl
noncomputable def p0:List D->Option (List Bool)
 |[]=>some []
 |.bool b::r=>(p0 r).map (b :: ·)
 |_=>none
noncomputable def Ca:List D->Option D
 |[.list xs]=>(p0 xs).map fun bs=>.bool (bs.all id)
 |_=>none
noncomputable def eA:List D->Option (List Int)
 |[]=>some []
 |.int b::r=>(eA r).map (b :: ·)
 |_=>none
noncomputable def sG:List D->Option D
 |[.list xs]=>(eA xs).map fun bs=>.int bs.sum
 |_=>none
theorem r9{α:Type}(f:α -> Bool):∀xs:List α,p0 (xs.map fun a=>.bool (f a))=some (xs.map f)
 |[]=>rfl
 |a::r=>by simp[p0,r9 f r]
theorem zF{α:Type}(f:α -> Bool)(xs:List α):Ca [.list (xs.map fun a=>.bool (f a))]=some (.bool (xs.all f)):=by
 simp[Ca,r9,List.all_map]
theorem jS{α:Type}(f:α -> Int):∀xs:List α,eA (xs.map fun a=>.int (f a))=some (xs.map f)
 |[]=>rfl
 |a::r=>by simp[eA,jS f r]
theorem qE{α:Type}(f:α -> Int)(xs:List α):sG [.list (xs.map fun a=>.int (f a))]=some (.int (xs.map f).sum):=by
 simp[sG,jS]
noncomputable def Fp:D->Option D
 |.list xs=>some (.list xs.reverse)
 |_=>none
@[simp] theorem De(xs:List D):Fp (.list xs)=some (.list xs.reverse):=rfl
noncomputable def Fq:D->Option (List D)
 |.list xs=>some xs.reverse
 |.tuple xs=>some xs.reverse
 |_=>none
@[simp] theorem EI(xs:List D):Fq (.list xs)=some xs.reverse:=rfl
@[simp] theorem Df(xs:List D):Fq (.tuple xs)=some xs.reverse:=rfl
@[simp] noncomputable def J7:Sf:=fun _=>none
@[simp] noncomputable def JN(i:Nat)(f:Dv->Option D):Sf:=fun δ=>(f δ).bind fun v=>(df v).bind fun es=>(wP δ[i]?).bind fun ds=>if ds.length+es.length<=sizeLine then some (.nx,δ.set i (.ow (ds++es)))else none
section
variable{X:Cx}{e:Expr}{es:List Expr}{p pos tpos apos:Pos}{f:Dv->Option D}{st:Stmt}
theorem vi{K:Fg}{Z:Hp}:∀{xs:List V} {ds:List D} {bs:List Bool} {its:List Value},Reps K Z xs ds->Vals xs its->p0 ds=some bs->its.length=bs.length/\∀(i:Nat) (v:Value),its[i]? = some v->∃b,bs[i]? = some b/\v=.bool b
 |_,_,bs,_,.nil,.nil,h=>by cases h;exact⟨rfl,fun i v q=>by simp at q⟩
 |_,_,bs,_,.cons r t,.cons q u,h=>by
  cases r with
  |bl b=>
   unfold p0 at h;cases g:p0 _ with
   |none=>rw[g]at h;cases h
   |some cs=>
    rw[g]at h;cases h;obtain⟨h1,h2⟩:=vi t u g;refine⟨by simp[h1],fun i v e=>?_⟩
    cases i with
    |zero=>simp at e;subst e;exact⟨b,rfl,q⟩
    |succ i=>simp at e;simpa using h2 i v e
  |_=>cases h
theorem ji{K:Fg}{Z:Hp}:∀{xs:List V} {ds:List D} {bs:List Int} {its:List Value},Reps K Z xs ds->Vals xs its->eA ds=some bs->IntsAre its bs
 |_,_,bs,_,.nil,.nil,h=>by cases h;exact .nil
 |_,_,bs,_,.cons r t,.cons q u,h=>by
  cases r with
  |int b=>
   unfold eA at h;cases g:eA _ with
   |none=>rw[g]at h;cases h
   |some cs=>
    rw[g]at h;cases h;obtain⟨tk,rfl⟩:=q;exact .cons _ _ (ji t u g)
  |_=>cases h
theorem GI(hc:X.calm=true):CallR X (.builtin "all") (wQ X.K Ca):=by
 intro pins s σ H xs us Q I rs q;obtain⟨Z,as,d,zh,ra,e,k⟩:=q;cases ra with
 |nil=>cases e
 |cons r1 r2=>
  cases r2 with
  |cons _ _=>cases r1<;>cases e
  |nil=>
   cases r1 with
   | @lst l ys ds h1 q1=>
    have e:(p0 ds).map (fun bs=>PyData.bool (bs.all id))=some d:=e
    cases g:p0 ds with
    |none=>rw[g]at e;cases e
    |some bs=>
     rw[g]at e;cases e;obtain⟨u,rfl,ru⟩:=iP rs;cases ru;obtain⟨its,rv,pl,hz⟩:=I.list (SqL.same h1 zh);obtain⟨hlen,hget⟩:=vi q1 rv g;have hl:=pl.isList;have hlt:l<s.heap.objs.size:=by obtain⟨_,e,_⟩:=hl;exact Heap.lt_size e
     refine call_all_walk (wpAny_pyIter_list hl ?_);refine⟨s.heap.objs.size,[s.heap.objs.size,l],[s.heap.objs.size],its.toArray.size,_,_,fun i=>(bs[i]?).getD true,rfl,Walks.list (A:=X.A.in1) (I.ok.hd hc) _ l (Nat.ne_of_lt hlt) its.toArray,
      ⟨⟨_,Heap.get?_push_size _ rfl,rfl,rfl⟩,hl.push _⟩,fun i v s' Q' E' hP hQ=>?_,fun h' tk hk=>?_⟩
     ·obtain⟨b,e,rfl⟩:=hget i v (by simpa using hP)
      simp only[e,Option.getD_some]at hQ;exact wpAny_truthy_bool hQ
     ·have e:((List.range its.toArray.size).all fun i=>(bs[i]?).getD true)=bs.all id:=by
       rw[List.size_toArray,hlen];exact LSm.range_all bs
      rw[e];exact⟨.bl _,H,I.kept (t':=tk) (LSm.kept_iter hk),rfl,k _ Z H (New.refl zh) (.bl _)⟩
   |_=>cases e
theorem CP(hc:X.calm=true):CallR X (.builtin "sum") (wQ X.K sG):=by
 intro pins s σ H xs us Q I rs q;obtain⟨Z,as,d,zh,ra,e,k⟩:=q;cases ra with
 |nil=>cases e
 |cons r1 r2=>
  cases r2 with
  |cons _ _=>cases r1<;>cases e
  |nil=>
   cases r1 with
   | @lst l ys ds h1 q1=>
    have e:(eA ds).map (fun bs=>PyData.int bs.sum)=some d:=e;cases g:eA ds with
    |none=>rw[g]at e;cases e
    |some bs=>
     rw[g]at e;cases e;obtain⟨u,rfl,ru⟩:=iP rs;cases ru;obtain⟨its,rv,pl,hz⟩:=I.list (SqL.same h1 zh);have hi:=ji q1 rv g;obtain⟨zs,hx⟩:=hi.allInts.items;have hl':s.heap.IsList l (intItems zs):=hx ▸ pl.isList;refine sum_intListG (I.ok.hd hc) hl' fun h' tk t' hk=>?_
     have e1:bs=zs.toList.map (·.1):=by
      rw[<-nums_intItems,<-hx];exact(show numsOf its.toArray.toList=bs from hi.numsOf).symm
     have e2:preSum (numAt zs) zs.size=bs.sum:=by
      rw[preSum_eq,List.take_of_length_le (by simp),e1]
     rw[e2];exact⟨.int _,H,I.kept (t':=tk) hk,⟨t',rfl⟩,k _ Z H (New.refl zh) (.int _)⟩
   |_=>cases e
end
noncomputable def HK:D->Option (List D)
 |.tuple xs=>some xs.reverse
 |_=>none
@[simp] theorem Dd(xs:List D):HK (.tuple xs)=some xs.reverse:=rfl
def F2(h:Heap)(e:Addr):Prop:=∃oe vs,h.get? e=some oe/\oe.data=.fields vs/\vs[2]? = some .none
def IR(base:Heap)(l:List Env)(e:Addr)(cls a0:Value)(h:Heap):Prop:=Heap.FlyingW base l e cls a0 h/\F2 h e
noncomputable def fD(n:Str):D:=.dict [(.str "fn",.str n)]
abbrev Xf:=Dv->Option (Str×Dv)
@[simp] noncomputable def J5:Xf:=fun _=>none
@[simp] noncomputable def Hg(n:Str)(f:Dv->Option D):Xf:=fun δ=>(f δ).bind fun _=>some (n,δ)
@[simp] noncomputable def xE(f:Dv->Option Str):Xf:=fun δ=>(f δ).bind fun n=>some (n,δ)
@[simp] noncomputable def J6(t:Dv->Option Bool)(u w:Xf):Xf:=fun δ=>(t δ).bind fun c=>if c=true then u δ else w δ
@[simp] noncomputable def Hf(s:Sf)(u:Xf):Xf:=fun δ=>(s δ).bind fun r=>match r with
 | (.nx,δ')=>u δ'
 |_=>none
@[simp] noncomputable def IW(u1:Xf)(s:Sf)(u:Xf):Xf:=fun δ=>match u1 δ with
 |some r=>some r
 |none=>Hf s u δ
@[simp] noncomputable def Ka(fs:Dv->Option (List D))(g:List D->Option Str):Dv->Option Str:=fun δ=>(fs δ).bind g
structure Thrown (P:Program) (w:World) (outer:List Env) (H:Hp) (s:Shared) (x C:Addr) (H':Hp) (s':Shared):Prop where
 os:s'.os=s.os
 bare:AllBare s'.gens
 un:Un (u6 outer) [] H H' s.heap s'.heap
 hok:HOk P w H' s'.heap
 sm:Same H H'
 is:H' x=some (Iy x C)
 fly:∃B t,IR B outer x (.ref C) t s'.heap/\(∀b o,H' b=some o->b≠x->∃ob,B.get? b=some ob)/\(∀b o,s.heap.get? b=some o->H b=none->b ∉ u6 outer->B.get? b=some o)
inductive Flung (m:Bool) (X:Cx) (n:Str) (Z H:Hp) (s:Shared) (e:Value) (s':Shared):Prop
 |made {x C:Addr} {vs:List Value}:m=true->PySem.W.nsIn X.K mainGlobals n=some (some (.ref C))->e=.ref x->s'={ s with heap:=s'.heap }->Heap.MadeExcOf s.heap s'.heap x (.ref C) vs->Flung m X n Z H s e s'
 |thrown {x C:Addr} {H' Z':Hp}:PySem.W.nsIn X.K mainGlobals n=some (some (.ref C))->e=.ref x->Thrown X.prog X.w X.stack H s x C H' s'->New Z H Z' H'->Z' x=some (Iy x C)->H x=none->Flung m X n Z H s e s'
def JA(m:Bool)(X:Cx)(f:Xf):TS:=fun _ σ H=>∃H₀ Z₀ Z δ r,Hold X.K H₀ Z₀ Z δ σ H/\f δ = some r/\∀pins σ' H' Z' s e s',Hold X.K H₀ Z₀ Z' r.2 σ' H'->Same Z Z'->Inv X pins σ' H' s->Flung m X r.1 Z' H' s e s'->X.xe e s'
def SX(m:Bool)(X:Cx)(st:Stmt)(f:Xf):Prop:=PS X st (JA m X f)
noncomputable def wu:Sl->Bool
 |.own _=>true
 |_=>false
@[simp] theorem G2(d:D):wu (.fz d)=false:=rfl
@[simp] theorem G1:wu .un=false:=rfl
noncomputable def Ax:Nat->Dv->Bool
 |_,[]=>true
 | 0,_::r=>r.all fun s=>!wu s
 |n+1,s::r=>!wu s&&Ax n r
@[simp] theorem EF(s:Sl)(r:Dv):Ax 0 (s::r)=r.all fun s=>!wu s:=rfl
@[simp] theorem EG(n:Nat)(s:Sl)(r:Dv):Ax (n+1) (s::r)=(!wu s&&Ax n r):=rfl
@[simp] noncomputable def IU(f:Dv->Option D)(u:Dv->Option Str):Dv->Option Str:=fun δ=>(f δ).bind fun _=>u δ
noncomputable def mq:D->Option Str
 |.dict [(.str k,.str n)]=>if k = "fn" then some n else none
 |_=>none
theorem wB(n:Str):mq (fD n)=some n:=by simp[mq,fD]
noncomputable def fB(i:Nat)(fs:Dv->Option (List D))(tbl:List (Str×(List D->Option D))):Dv->Option D:=fun δ=>(oV i δ).bind fun d=>(mq d).bind fun n=>(tbl.lookup n).bind fun g=>(fs δ).bind g
@[simp] noncomputable def Cl(i:Nat)(f:Dv->Option D):Sf:=fun δ=>(f δ).bind fun v=>(DR v).bind fun es=>(wP δ[i]?).bind fun ds=>if ds.length+es.length<=sizeLine then some (.nx,δ.set i (.ow (ds++es)))else none
theorem wC{d:D}{n:Str}(h:mq d=some n):d=fD n:=by
 unfold mq at h;split at h
 ·split at h
  ·rename_i hk;subst hk;cases h;rfl
  ·cases h
 ·cases h
structure CalF (P:Program) (w:World) (K:PySem.W.Frag) (mg:Str->Option Value) (base:Heap) (x:Str) (k:Nat) (g:List D->Option D):Prop where
 ex:∃(fa:Addr) (fd:FuncData) (ps:List Str),FnOk P w K mg base dy k fa fd ps (dS K g)/\PySem.W.nsIn K mainGlobals x=some (some (.ref fa))/\mg x=some (.ref fa)/\PySem.W.keepIn K (.ref fa)=true/\Binds K fd ps []
theorem tJ{P:Program}{w:World}{K:PySem.W.Frag}{mg:Str->Option Value}{base:Heap}{k:Nat}:∀n g,([]:List (Str×(List D->Option D))).lookup n=some g->∃j,j<=k/\CalF P w K mg base n j g:=fun _ _ h=>by cases h
theorem pN{P:Program}{w:World}{K:PySem.W.Frag}{mg:Str->Option Value}{base:Heap}{k j:Nat}{c:Str}{gc:List D->Option D}{tbl:List (Str×(List D->Option D))}(hj:j<=k)(V:CalF P w K mg base c j gc)(h:∀n g,tbl.lookup n=some g->∃j,j<=k/\CalF P w K mg base n j g):∀n g,((c,gc)::tbl).lookup n=some g->∃j,j<=k/\CalF P w K mg base n j g:=fun n g e=>by
 rw[List.lookup_cons]at e;split at e
 ·rename_i hn
  cases e;have:n=c:=by simpa using hn
  subst this;exact⟨j,hj,V⟩
 ·exact h n g e
structure Fnm (K:PySem.W.Frag) (mg:Str->Option Value) (x:Str):Prop where
 ex:∃fa,PySem.W.nsIn K mainGlobals x=some (some (.ref fa))/\mg x=some (.ref fa)
section
variable{X:Cx}{e:Expr}{es:List Expr}{p pos:Pos}{fs:Dv->Option (List D)}
theorem rO{x:Str}(F:Fnm X.K X.mg x)(hg:Gl X x)(hdb:(x==("__debug__":Str))=false:=by decide):EV X (.Name x pos) (oC (fD x)):=by
 obtain⟨fa,h1,h2⟩:=F.ex;exact zn (uE (v:=.ref fa) (u:=.ref fa) hg h2 rfl hdb) fun Z=>.opq (.fn h1)
theorem mw(i:Nat){x:Str}{k:Nat}{tbl:List (Str×(List D->Option D))}(hT:∀n g,tbl.lookup n=some g->∃j,j<=k/\CalF X.prog X.w X.K X.mg X.base n j g)(hr:Room k X.A)(ha:AV X (e::es) fs)(hN:X.N[i]? = some x:=by rfl)(hv:EY X.env.scope x:=by first|exact Or.inl rfl|exact Or.inr (Or.inl rfl)|exact Or.inr (Or.inr rfl))(hdb:(x==("__debug__":Str))=false:=by decide)(hcd:(x==("__classdict__":Str))=false:=by decide)
  (he:starEach (e::es) X.env=(false,eval e X.env)::starEach es X.env:=by rfl) (hpl:(backTo pos (starEach es X.env)).any (·.1)=false:=by rfl):EV X (.Call (.Name x p) (e::es) [] pos) (fB i fs tbl):=by
 intro pins s σ H Q I h;obtain⟨H₀,Z₀,Z,δ,d,hh,e0,kk⟩:=h;unfold fB at e0;obtain⟨c,e1,e0⟩:=bind_some e0;obtain⟨n,e2,e4⟩:=bind_some e0;obtain⟨g,e3,e5⟩:=bind_some e4;have:=wC e2;subst this;obtain⟨v,hσ,rv⟩:=hh.read e1;obtain⟨j,hj,CF⟩:=hT n g e3;obtain⟨fa,fd,ps,F,hns,hm,hk,hb⟩:=CF.ex;have hva:v=.ref fa:=by
  cases rv with
  |opq o=>
   cases o with
   |fn h1=>rw[hns]at h1;cases h1;rfl
   |dct h1 _=>exact absurd h1 fun z=>BT z
 subst hva;refine wpAny_Call_Name_kw (cx (o9 hN hv hdb hcd pins s σ H (fun v' H'=>v'=.ref fa/\H'=H) I ⟨_,hσ,rfl,rfl⟩) fun u s1 hq=>?_)
 obtain⟨v',H',I1,r1,hv',hH'⟩:=hq;subst hv';subst hH';cases(show u=Value.ref fa from r1);have ht:tV X.K (os fs g) σ H' Q:=⟨H₀,Z₀,Z,δ,d,hh,e5,kk⟩;obtain⟨H₀',Z₀',Z',δ',xs,hh',ea,q⟩:=args ht;refine PySem.W.callWith_K (h₀:=X.base) I1.ok.mod.kin hk (cx (ha pos pins s1 σ H' (fun vs H1=>dS X.K g (vs++[]) H1 Q E0) I1 ⟨H₀',Z₀',Z',δ',xs,hh',ea,fun vs Z1 H1 hh1 t1 r1=>?_⟩) fun us s2 ⟨vs,H1,I2,r,q2⟩=>⟨I2.kIn,xJ F (hr.mono hj) hb .nil Cq I2 r q2⟩) he hpl
 show dS X.K g (vs++[]) H1 Q E0;rw[List.append_nil];exact q vs Z1 H1 hh1 t1 r1
end
theorem tO(l:Addr)(items:Array Value)(n:Nat)(b:Addr)(items2:Array Value)(n2:Nat)(sl:Array (Option Value))(hc0:¬(!items.isEmpty&&Builtin.List.listTooLong (items.size+items2.size))=true)(hc1:items.size<=sizeLine)(hs2:items.size+items2.size<=sizeLine+1):
  Meets (Builtin.«list.extend» ⟨[.ref l,.ref b],[]⟩) (fun _ R s=>s.heap.get? l=some { cls:=.type "list",dict:=none,data:=.seq items n,slots:=#[] }/\s.heap.get? b=some { cls:=.type "list",dict:=none,data:=.seq items2 n2,slots:=sl }/\R (.ok (.ret Value.none)) { s with heap:=s.heap.update l (Obj.mapSeq fun x=>x++items2),toks:=s.toks }):=
 .of_wp fun prog w A R s h=>by
  obtain⟨hp,g,d,tk,os⟩:=s;obtain⟨hl,hb,h⟩:=h;have f1:=AutoSeq1.idx_int;have f2:=AutoSeq1.sub_tuple_tuple;have f3:=AutoSeq1.sub_list_list;have f4:=AutoSeq1.sub_tuple_list;have f5:=AutoSeq1.sub_list_tuple;have hz':(items++items2).size<=sizeLine+1:=by rw[Array.size_append];exact hs2
  wp_walk using (wpAny_updateSeq hl rfl (hz:=hc1) (_hz':=hz')),AutoSeq1.wpAny_loadPart' hl,AutoSeq1.wpAny_loadPart' hb;exact⟨_,rfl,h⟩
def Fs(K:Fg):V->List V->Hp->VK->Prop:=fun x vs H Q=>∃l b xs zs,x=.ref l/\vs=[.ref b]/\H l=some (.lst xs)/\SqL K H b zs/\xs.length+zs.length<=sizeLine/\Q .non (upd H l (.lst (xs++zs)))
section
variable{X:Cx}
theorem A8:Jv X "list.extend" (Fs X.K):=by
 intro pins s σ H x vs v us Q I rx rv h;obtain⟨l,b,xs,zs,rfl,rfl,hH,hB,hz,q⟩:=h;cases rx;obtain⟨u,rfl,ru⟩:=rv.one;cases ru;obtain⟨z,its,n,r,hl,e⟩:=I.lstM hH;obtain⟨its2,r2,⟨o2,n2,e2,hc,hd,hs⟩,z2⟩:=I.list hB;have hl2:=r2.length;obtain⟨c2,d2,dt2,sl2⟩:=o2;dsimp only at hc hd hs;subst hc hd hs;have hsz:its.toArray.size+its2.toArray.size<=sizeLine:=by rw[List.size_toArray,List.size_toArray];omega
 have hlong:¬(!its.toArray.isEmpty&&Builtin.List.listTooLong (its.toArray.size+its2.toArray.size))=true:=by
  rw[ym hsz,Bool.and_false];exact Bool.false_ne_true
 refine call_meets F.slot_list_extend ⟨_,e,rfl⟩ F.entry_list_extend (F.args_list_extend_2 _ _)
  (tO l its.toArray n b its2.toArray n2 sl2 hlong (by rw[List.size_toArray];omega) (by omega)) ⟨e,e2,?_⟩
 refine⟨.non,_,I.lset (its':=its++its2) hH e (by simp) (r.append r2) ?_,rfl,q⟩;rw[List.length_append];omega
end
section
variable{X:Cx}{e:Expr}{f:Dv->Option D}{p pos apos:Pos}
theorem Aw(i:Nat){x:Str}{cpos:Pos}(hv':EV X e f)(hN:X.N[i]? = some x:=by rfl)(hv:EY X.env.scope x:=by first|exact Or.inl rfl|exact Or.inr (Or.inl rfl)|exact Or.inr (Or.inr rfl))(hd:(x==("__debug__":Str))=false:=by decide)(hcd:(x==("__classdict__":Str))=false:=by decide)
  (hbase:attributeBase (.Name x p) "extend" X.env (eval (.Name x p) X.env)=eval (.Name x p) X.env:=by rfl)
  (hfew:((backTo cpos (starEach [e] X.env)).all (fun x=>!x.1)&&(backToKw cpos (keywordEach [] X.env)).all (fun x=>x.1.isSome)
   && decide ([e].length+([]:List Keyword).length+(if([]:List Keyword).isEmpty then 0 else 1)<30))=true:=by rfl)
  (hline:(apos.endLine==cpos.line)=true:=by rfl) (hs:starEach [e] X.env=(false,eval e X.env)::starEach [] X.env:=by rfl) (hplain:(backTo cpos (starEach [] X.env)).any (·.1)=false:=by rfl)
  (hsw:swapsWith (.Call (.Attribute (.Name x p) "extend" apos) [e] [] cpos) none pos.line X.env=pure false:=by rfl):SV X (.Expr (.Call (.Attribute (.Name x p) "extend" apos) [e] [] cpos) pos) (Cl i f):=
 PS.imp (uC (Cp PySem.F.plainAttrs_list PySem.F.slot_list_extend PySem.F.type_list_extend A8 (o9 hN hv hd hcd) (kQ hv' pb hs) hbase hfew hline hs hplain) hsw) fun D σ H h=>by
  obtain⟨H₀,Z₀,Z,δ,r,hh,e,k⟩:=h;obtain⟨v,e1,e⟩:=bind_some e;obtain⟨es,e3,e⟩:=bind_some e;obtain⟨ds,e2,e⟩:=bind_some e;by_cases hl:ds.length+es.length<=sizeLine
  ·rw[if_pos hl]at e
   cases e;cases v with
   |list es'=>
    cases e3;obtain⟨a,xs,h1,h4,h5⟩:=uF hh e2;refine⟨_,h1,.inl ⟨rfl,xs,SqL.of h4⟩,H₀,Z₀,Z,δ,_,hh,e1,fun w Z1 H1 hh1 t1 r1=>?_⟩
    obtain⟨a',xs',g1,g4,g5⟩:=uF hh1 e2;rw[h1]at g1;cases g1;cases r1 with
    |lst q1 q2=>
     exact⟨a,_,xs',_,rfl,rfl,g4,SqL.same q1 hh1.zh,by rw[g5.length,q2.length];exact hl,k σ _ Z1 (hh1.chg (xs:=xs') (sI e2) h1 (g5.append q2)) t1⟩
   |_=>cases e3
  ·rw[if_neg hl]at e;cases e
end
theorem rm{α:Type}:∀{us:List α},us.length=1->∃a,us=[a]
 |[a],_=>⟨a,rfl⟩
theorem f6{α:Type}{us:List α}(h:us.length=2):∃a b,us=[a,b]:=by
 cases us with
 |nil=>cases h
 |cons a r=>
  obtain⟨b,rfl⟩:=rm (Nat.succ.inj h);exact⟨a,b,rfl⟩
theorem tj{α:Type}{us:List α}(h:us.length=3):∃a b c,us=[a,b,c]:=by
 cases us with
 |nil=>cases h
 |cons a r=>
  obtain⟨b,c,rfl⟩:=f6 (Nat.succ.inj h);exact⟨a,b,c,rfl⟩
theorem Be{α:Type}{us:List α}(h:us.length=4):∃a b c d,us=[a,b,c,d]:=by
 cases us with
 |nil=>cases h
 |cons a r=>
  obtain⟨b,c,d,rfl⟩:=tj (Nat.succ.inj h);exact⟨a,b,c,d,rfl⟩
theorem HZ{α:Type}{us:List α}(h:us.length=5):∃a b c d e,us=[a,b,c,d,e]:=by
 cases us with
 |nil=>cases h
 |cons a r=>
  obtain⟨b,c,d,e,rfl⟩:=Be (Nat.succ.inj h);exact⟨a,b,c,d,e,rfl⟩
noncomputable def C2:List Int->Option Int
 |[]=>none
 |b::bs=>some (bs.foldl (fun m x=>if x>m then x else m) b)
noncomputable def yn:List D->Option D
 |[.list xs]=>(eA xs).bind fun bs=>(C2 bs).map .int
 |[.tuple xs]=>(eA xs).bind fun bs=>(C2 bs).map .int
 |_=>none
theorem oR{M:Int}:∀(bs:List Int) (b:Int),(M=b\/M∈bs)->b<=M->(∀a∈bs,a<=M)->bs.foldl (fun m x=>if x>m then x else m) b=M
 |[],b,h,hb,_=>by
  rcases h with h|h
  ·exact h.symm
  ·cases h
 |c::bs,b,h,hb,hl=>by
  have hc:=hl c List.mem_cons_self;have hr:=fun a ha=>hl a (List.mem_cons_of_mem _ ha)
  show bs.foldl _ (if c>b then c else b)=M;by_cases q:c>b
  ·rw[if_pos q]
   refine oR bs c ?_ hc hr;rcases h with h|h
   ·exact .inl (by omega)
   ·rcases List.mem_cons.mp h with h|h
    ·exact .inl h
    ·exact .inr h
  ·rw[if_neg q]
   refine oR bs b ?_ hb hr;rcases h with h|h
   ·exact .inl h
   ·rcases List.mem_cons.mp h with h|h
    ·exact .inl (by omega)
    ·exact .inr h
theorem s0{prog:Program}{w:World}{A:Around}{E:Value->Shared->Prop}{s:Shared}{l:Addr}{xs:Array (Int×Tok)}{Q:Value->Shared->Prop}(hh:A.handled=none)(hl:s.heap.IsTuple l (intItems xs))(hne:0<xs.size)
  (h:∀v h' tk,(intItems xs)[argBest (fun i j=>decide (numAt xs i>numAt xs j)) (xs.size-1)]? = some v->(∀b o,s.heap.get? b=some o->h'.get? b=some o)->Q v { s with heap:=h',toks:=tk }):wpAny (model prog w) A (call (.builtin "max") [.ref l]) Q E s:=by
 have hlt:l<s.heap.objs.size:=by obtain⟨_,e,_⟩:=hl;exact Heap.lt_size e
 refine call_max_walk (wpAny_pyIter_tuple hl ?_);refine⟨_,[s.heap.objs.size,l],[s.heap.objs.size],_,_,_,_,rfl,Walks.tuple (A:=A.in1) hh _ l (Nat.ne_of_lt hlt) (intItems xs),⟨⟨_,Heap.get?_push_size _ rfl,rfl,rfl⟩,hl.push _⟩,fun b hb=>?_,by simpa[intItems]using hne,CmpOf.ints_gt (numAt xs) (fun _ _=>intItems_at),fun v h' tk hP hk=>?_⟩
 ·show b<(s.heap.push _).objs.size
  rw[Heap.size_push];rcases List.mem_cons.mp hb with rfl|hb
  ·exact Nat.lt_succ_self _
  ·rcases List.mem_cons.mp hb with rfl|hb
   ·exact Nat.lt_succ_of_lt hlt
   ·cases hb
 ·refine h v h' tk (by simpa[intItems]using hP) fun b o e=>hk b o (fun hm=>?_) (Heap.get?_push_of_some _ e)
  rcases List.mem_cons.mp hm with e1|hm
  ·exact absurd (e1 ▸ Heap.lt_size e) (Nat.lt_irrefl _)
  ·cases hm
section
variable{X:Cx}
theorem Et(hc:X.calm=true):CallR X (.builtin "max") (wQ X.K yn):=by
 intro pins s σ H xs us Q I rs q;obtain⟨Z,as,d,zh,ra,e,k⟩:=q;cases ra with
 |nil=>cases e
 |cons r1 r2=>
  cases r2 with
  |cons _ _=>cases r1<;>cases e
  |nil=>
   cases r1 with
   | @lst l ys ds h1 q1=>
    obtain⟨bs,g,e⟩:=bind_some (show(eA ds).bind _=some d from e);cases bs with
    |nil=>cases e
    |cons b bs=>
     cases e;obtain⟨u,rfl,ru⟩:=iP rs;cases ru;obtain⟨its,rv,pl,hz⟩:=I.list (SqL.same h1 zh);have hi:=ji q1 rv g;obtain⟨zs,hx⟩:=hi.allInts.items;have hl':s.heap.IsList l (intItems zs):=hx ▸ pl.isList;have e1:b::bs=zs.toList.map (·.1):=by
      rw[<-nums_intItems,<-hx];exact(show numsOf its.toArray.toList=b::bs from hi.numsOf).symm
     have hsz:0<zs.size:=by
      have q:bs.length+1=zs.toList.length:=by
       have q:=congrArg List.length e1;rw[List.length_map]at q;exact q
      have z:zs.toList.length=zs.size:=Array.length_toList;omega
     refine max_intList (I.ok.hd hc) hl' hsz fun v h' tk hv hk=>?_
     obtain⟨t,rfl⟩:=intItems_at hv;obtain⟨m1,m2⟩:=argBest_gt (numAt zs) (zs.size-1);have hM:numAt zs (argBest (fun i j=>decide (numAt zs i>numAt zs j)) (zs.size-1))∈b::bs:=by
      rw[e1,numAt_eq];exact getD_mem (by rw[List.length_map,Array.length_toList];omega)
     have hA:∀a∈b::bs,a<=numAt zs (argBest (fun i j=>decide (numAt zs i>numAt zs j)) (zs.size-1)):=fun a ha=>by
      rw[e1]at ha;obtain⟨j,hj,rfl⟩:=mem_getD ha;rw[List.length_map,Array.length_toList]at hj;rw[<-numAt_eq];exact m2 j (by omega)
     have:=oR bs b (List.mem_cons.mp hM) (hA b List.mem_cons_self) fun a ha=>hA a (List.mem_cons_of_mem _ ha)
     exact⟨.int _,H,I.kept (t':=tk) hk,⟨t,rfl⟩,k _ Z H (New.refl zh) (by rw[this];exact .int _)⟩
   | @tup l ys ds h1 q1=>
    obtain⟨bs,g,e⟩:=bind_some (show(eA ds).bind _=some d from e);cases bs with
    |nil=>cases e
    |cons b bs=>
     cases e;obtain⟨u,rfl,ru⟩:=iP rs;cases ru;obtain⟨its,rv,pl,hz⟩:=I.tuple (SqT.same h1 zh);have hi:=ji q1 rv g;obtain⟨zs,hx⟩:=hi.allInts.items;have hl':s.heap.IsTuple l (intItems zs):=hx ▸ pl;have e1:b::bs=zs.toList.map (·.1):=by
      rw[<-nums_intItems,<-hx];exact(show numsOf its.toArray.toList=b::bs from hi.numsOf).symm
     have hsz:0<zs.size:=by
      have q:bs.length+1=zs.toList.length:=by
       have q:=congrArg List.length e1;rw[List.length_map]at q;exact q
      have z:zs.toList.length=zs.size:=Array.length_toList;omega
     refine s0 (I.ok.hd hc) hl' hsz fun v h' tk hv hk=>?_
     obtain⟨t,rfl⟩:=intItems_at hv;obtain⟨m1,m2⟩:=argBest_gt (numAt zs) (zs.size-1);have hM:numAt zs (argBest (fun i j=>decide (numAt zs i>numAt zs j)) (zs.size-1))∈b::bs:=by
      rw[e1,numAt_eq];exact getD_mem (by rw[List.length_map,Array.length_toList];omega)
     have hA:∀a∈b::bs,a<=numAt zs (argBest (fun i j=>decide (numAt zs i>numAt zs j)) (zs.size-1)):=fun a ha=>by
      rw[e1]at ha;obtain⟨j,hj,rfl⟩:=mem_getD ha;rw[List.length_map,Array.length_toList]at hj;rw[<-numAt_eq];exact m2 j (by omega)
     have:=oR bs b (List.mem_cons.mp hM) (hA b List.mem_cons_self) fun a ha=>hA a (List.mem_cons_of_mem _ ha)
     exact⟨.int _,H,I.kept (t':=tk) hk,⟨t,rfl⟩,k _ Z H (New.refl zh) (by rw[this];exact .int _)⟩
   |_=>cases e
end
def DefIn(K:PySem.W.Frag)(x y:Str)(st:Stmt):Prop:=∃f fd,PySem.W.nsIn K mainGlobals x=some (some (.ref f))/\FunV K y y st f fd .none/\PySem.W.keepIn K (.ref f)=true
def aH(x:Str)(st:Stmt)(ps:List Str):Prop:=∀(kV doc pm:Value) (an:Option Addr) (cdv ct:Value) (us:List Value),us.length=ps.length->bindArgs (PySem.W.fnOf x x (bS st) (bE st) (ag st) .none kV doc pm an cdv ct) ⟨us,[]⟩=pure (ps.zip us)
section
variable{P:Program}{w:World}{K:PySem.W.Frag}{mg:Str->Option Value}{base h:Heap}{x y:Str}{st:Stmt}{k:Nat}{ps:List Str}
theorem DefIn.mk{f:Addr}{oc:Value}{od an:Option Addr}{osl:Array (Option Value)}{kV doc pm cdv ct:Value}(a:PySem.W.nsIn K mainGlobals x=some (some (.ref f)))(l:K.lookup f=some ⟨oc,od,.func (PySem.W.fnOf y y (bS st) (bE st) (ag st) .none kV doc pm an cdv ct),osl⟩)
  (c:PySem.W.codeIn K cdv y=true) (k:PySem.W.keepIn K (.ref f)=true):DefIn K x y st:=⟨_,_,a,f7 l c k,k⟩
variable(D:DefIn K x y st)(X:K.In h)(G:h.Ns mainGlobals mg)(b:aH y st ps)
include D X G
theorem DefIn.fnm:Fnm K mg x:=by
 obtain⟨f,fd,a,F,hk⟩:=D;exact⟨⟨_,a,PySem.W.mg_of X G a⟩⟩
include b
theorem DefIn.cal{g:List VL.D->Option VL.D}(ok:∀f fd,FunV K y y st f fd .none->FnOk P w K mg base dy k f fd ps (dS K g)):Cal P w K mg base x k g []:=by
 obtain⟨f,fd,a,F,hk⟩:=D;exact Cal.mk0 (ok f fd F) (PySem.W.mg_of X G a) hk (F.binds b)
theorem DefIn.calF{g:List VL.D->Option VL.D}(ok:∀f fd,FunV K y y st f fd .none->FnOk P w K mg base dy k f fd ps (dS K g)):CalF P w K mg base x k g:=by
 obtain⟨f,fd,a,F,hk⟩:=D;exact⟨⟨_,_,_,ok f fd F,a,PySem.W.mg_of X G a,hk,F.binds b⟩⟩
end
noncomputable def Jt(fd:FuncData)(us:List Value):{kk:Option (Array Value)->Sem (List (Str×Value)) // bindArgs fd ⟨us,[]⟩=seqItems? fd.defaults >>= kk}:=⟨_,rfl⟩
theorem FunV.bindsK{K:PySem.W.Frag}{x qual:Str}{st:Stmt}{f T:Addr}{fd:FuncData}{ps:List Str}{o:Obj}{items:Array Value}{n:Nat}{ds:List Value}(F:FunV K x qual st f fd (.ref T))(ho:K.lookup T=some o)(hs:o.data=.seq items n)(nu:Nat)(hn:nu+ds.length=ps.length)
  (h:∀(kV doc pm:Value) (an:Option Addr) (cdv ct:Value) (us:List Value),us.length=nu->(Jt (PySem.W.fnOf x qual (bS st) (bE st) (ag st) (.ref T) kV doc pm an cdv ct) us).1 (some items)=pure (ps.zip (us++ds))):Binds K fd ps ds:=
 F.bindsD ho hs nu hn fun kV doc pm an cdv ct us hl=>⟨_,(Jt (PySem.W.fnOf x qual (bS st) (bE st) (ag st) (.ref T) kV doc pm an cdv ct) us).2,h kV doc pm an cdv ct us hl⟩
end VL
namespace VL
open PySem PySem.Spec PyProof.Rows L2
open AutoSeq1 (wpAny_loadPart')
end VL
namespace VL
open PySem PySem.Spec PyProof.Rows L2
noncomputable def J1(z:Bool):D->D->Option D
 |.bool a,.bool b=>some (.bool (z != (a==b)))
 |_,_=>none
@[simp] theorem Gg(z a b:Bool):J1 z (.bool a) (.bool b)=some (.bool (z != (a==b))):=rfl
end VL
namespace L2
open PySem PySem.Spec PyProof.Rows
section
variable{κ:Type}[DecidableEq κ]
noncomputable def oM(kvs:List (κ × V))(k:κ):Option V:=(kvs.find? fun kv=>decide (kv.1=k)).map (·.2)
theorem qu{p:κ × V}{r:List (κ × V)}{k:κ}(e:p.1=k):oM (p::r) k=some p.2:=by simp[oM,List.find?_cons,e]
theorem qv{p:κ × V}{r:List (κ × V)}{k:κ}(e:¬p.1=k):oM (p::r) k=oM r k:=by simp[oM,List.find?_cons,e]
theorem RelO.isSome_eq{o:Option V}{u:Option Value}(r:RelO o u):o.isSome=u.isSome:=by
 cases o with
 |none=>cases u with
  |none=>rfl
  |some _=>exact(show False from r).elim
 |some _=>cases u with
  |none=>exact(show False from r).elim
  |some _=>rfl
theorem KV.val{kvs:List (κ × V)}{vs:List (κ × Value)}(r:KV kvs vs)(k:κ):RelO (oM kvs k) (valueAt vs k):=by
 unfold KV at r
 induction r with
 |nil=>exact True.intro
 | @cons p q ps qs h t ih=>
  obtain⟨h1,h2⟩:=h;by_cases e:p.1=k
  ·have e':q.1=k:=h1.symm.trans e
   have b:valueAt (q::qs) k=some q.2:=by simp[valueAt,List.find?_cons,e']
   rw[qu e,b];exact h2
  ·have e':¬q.1=k:=fun z=>e (h1.trans z)
   have b:valueAt (q::qs) k=valueAt qs k:=by simp[valueAt,List.find?_cons,e']
   rw[qv e,b];exact ih
end
theorem CI{P:Program}{w:World}{k:bb}{u:Value}(r:RelV (kV k) u):(dQ P w).is k u=true:=by
 cases k with
 |inl i=>obtain⟨t,e⟩:=(show ∃t,u=Value.int i t from r);subst e;exact q8 P w i t
 |inr x=>obtain⟨t,e⟩:=(show ∃t,u=Value.str x t from r);subst e;exact qZ P w x t
theorem n6{P:Program}{w:World}:∀{ks:List bb} {us:List Value},Vals (ks.map kV) us->ItemsAre (dQ P w) ks us
 |[],_,r=>by rw[List.map_nil]at r;cases r;exact .nil
 |k::ks,_,r=>by
  rw[List.map_cons]at r;cases r with
  |cons h t=>exact .cons (CI h) (n6 t)
abbrev KT(H:Hp):List (List bb×V)->List (List bb×Addr×Value)->Prop:=Paired fun p q=>p.1=q.1/\H q.2.1=some (.tup (p.1.map kV))/\RelV p.2 q.2.2
theorem KT.val{H:Hp}{kvs:List (List bb×V)}{xs:List (List bb×Addr×Value)}(r:KT H kvs xs)(k:List bb):RelO (oM kvs k) ((atKey xs k).map (·.2)):=by
 induction r with
 |nil=>exact True.intro
 | @cons p q ps qs h t ih=>
  obtain⟨h1,_,h2⟩:=h;by_cases e:p.1=k
  ·have e':q.1=k:=h1.symm.trans e
   have b:atKey (q::qs) k=some q.2:=by simp[atKey,List.find?_cons,e']
   rw[qu e,b];exact h2
  ·have e':¬q.1=k:=fun z=>e (h1.trans z)
   have b:atKey (q::qs) k=atKey qs k:=by simp[atKey,List.find?_cons,e']
   rw[qv e,b];exact ih
section
variable{P:Program}{w:World}{H:Hp}{h:Heap}{a:Addr}
theorem Co{u:HO}(ok:HOk P w H h)(e:Rd H a u):ObjOk P w H h a u:=e.ok ok
theorem GE{kvs:List (bb×V)}(ok:HOk P w H h)(e:Rd H a (.dK kvs)):kvs.length<=sizeLine/\(a==sysModules)=false/\∃vs,KV kvs vs/\h.DictOf (dQ P w) a vs:=
 show ObjOk P w H h a (.dK kvs)from Co ok e
theorem yJ{ks:List bb}(ok:HOk P w H h)(e:H a=some (.tup (ks.map kV))):(tupleKind (dQ P w)).is h ks a:=by
 obtain⟨_,its,r,⟨o,h1,h2,n,h3⟩,_⟩:=(show ObjOk P w H h a (.tup (ks.map kV))from ok a _ e);exact⟨o,its.toArray,n,h1,h2,h3,by simpa using n6 r⟩
theorem GD{kvs:List (List bb×V)}(ok:HOk P w H h)(e:Rd H a (.dT kvs)):kvs.length<=sizeLine/\(a==sysModules)=false /\
  ∃xs,KT H kvs xs/\h.DictOfH (tupleKind (dQ P w)) a xs:=by
 obtain⟨z,y,xs,r,o,es,ep,h1,h2,h3,h4,h5⟩:=(show ObjOk P w H h a (.dT kvs)from Co ok e);refine⟨z,y,xs,r,o,es,ep,h1,h2,h3,h4,fun x hx=>?_,h5⟩
 have all:∀{l:List (List bb×V)} {m:List (List bb×Addr×Value)},KT H l m->∀x∈m,(tupleKind (dQ P w)).is h x.1 x.2.1:=by
  intro l m q
  induction q with
  |nil=>intro x hx;exact nomatch hx
  | @cons p q ps qs hq t ih=>
   intro x hx;rcases List.mem_cons.mp hx with e|hx
   ·subst e
    exact yJ ok (by rw[<-hq.1];exact hq.2.1)
   ·exact ih x hx
 exact all r x hx
end
def IS(H:Hp)(a:Addr)(y:V)(r:Option V):Prop:=
 (∃kvs k,Rd H a (.dK kvs)/\y=kV k/\r=oM kvs k)\/∃kvs k b,Rd H a (.dT kvs)/\y=.ref b/\H b=some (.tup (k.map kV))/\r=oM kvs k
section
variable{X:Cx}{pins:List (Addr×Obj)}{σ:St}{H:Hp}{s:Shared}{a:Addr}{y v:V}{u r:Value}{o:Option V}{A:Around}{E:Value->Shared->Prop}
theorem GG{Q:Value->Shared->Prop}(hu:A.units+1<cLine)(I:Inv X pins σ H s)(g:IS H a y o)(ry:RelV y u)(h:∀s',Inv X pins σ H s'->Q (.bool o.isSome) s'):
  wpAny (model X.prog X.w) A (compareOp .In u (.ref a)) Q E s:=by
 rcases g with⟨kvs,k,e,ey,l⟩|⟨kvs,k,b,e,ey,eb,l⟩
 ·subst ey
  obtain⟨z,hd,vs,rel,dd⟩:=GE I.hok e;refine wpAny_in_of (CI ry) hd dd.mapOf ?_;rw[<-(rel.val k).isSome_eq,<-l];exact h _ (I.tok _)
 ·subst ey
  cases(show u=Value.ref b from ry);obtain⟨z,hd,xs,rel,dd⟩:=GD I.hok e;refine wpAny_in_heap (tupleKind_room_in1 hu) (yJ I.hok eb) hd dd ?_;have q:=(rel.val k).isSome_eq;rw[Option.isSome_map]at q;rw[<-q,<-l];exact h _ (I.tok _)
end
end L2
namespace Att
open PySem PySem.W PySem.Calls PyProof.Rows
end Att
namespace L2
open PySem PySem.Spec PyProof.Rows
end L2
namespace VL
open PySem PySem.Spec PyProof.Rows L2
noncomputable def Ie:D->Option bb
 |.int i=>some (.inl i)
 |.str x=>some (.inr x)
 |_=>none
@[simp] theorem F9(i:Int):Ie (.int i)=some (.inl i):=rfl
noncomputable def JI:Option Sl->Option (List (bb×D))
 |some (.own (.d es))=>some es
 |_=>none
@[simp] theorem HG(es:List (bb×D)):JI (some (.od es))=some es:=rfl
theorem g6:∀{out:List Value} {l:List Int},IntsAre out l->Vals (l.map V.int) out
 |_,_,.nil=>.nil
 |_,_,.cons n t r=>.cons ⟨t,rfl⟩ (g6 r)
theorem dY{h:Heap}{a b:Addr}{f:Obj->Obj}{o:Obj}(hab:b≠a)(e:h.get? b=some o):(h.update a f).get? b=some o:=(Heap.get?_update_other _ _ (Ne.symm hab)).trans e
noncomputable def E1:List D->Option D
 |[.list a,.list b]=>some (.list (List.zipWith (fun x y=>.tuple [x,y]) a b))
 |_=>none
@[simp] noncomputable def Kb(fs:Dv->Option (List D))(g:List D->Option D):Dv->Option D:=fun δ=>(fs δ).bind g
@[simp] theorem GQ(a b:List D):E1 [.list a,.list b]=some (.list (List.zipWith (fun x y=>.tuple [x,y]) a b)):=rfl
section
variable{cmp:Nat->Nat->(Bool->Shared->Prop)->Shared->Prop}{N:Nat}{key:Nat->Int}
noncomputable def ky(key:Nat->Int)(p:Array Nat)(i:Nat):Int:=key (p.getD i 0)
variable{s:Shared}(hinj:∀i j,i<N->j<N->key i=key j->i=j)(hc:∀i j,i<N->j<N->i≠j->∀C:Bool->Shared->Prop,C (decide (key i<key j)) s->cmp i j C s)
def Up(key:Nat->Int)(p:Array Nat)(m:Nat):Prop:=∀i j,i<j->j<m->ky key p i<ky key p j
end
noncomputable def JZ(a:Addr)(H:Hp):Hp:=fun b=>if b=a then none else H b
noncomputable def wx:List D->Option (List Int)
 |[]=>some []
 |.int i::r=>(wx r).bind fun l=>some (i::l)
 |_::_=>none
def UpA(xs:Array Nat):Prop:=∀i j (hi:i<xs.size) (hj:j<xs.size),i<j->xs[i]<xs[j]
theorem mK{xs:Array Nat}{j:Nat}(hu:UpA xs):∀(f lo hi:Nat),hi-lo<=f->lo<=hi->hi<=xs.size ->
  (∀i (h:i<xs.size),i<lo->xs[i]<j)->(∀i (h:i<xs.size),hi<=i->j<=xs[i]) ->
  SetTable.below.go xs j f lo hi<=xs.size/\(∀i (h:i<xs.size),i<SetTable.below.go xs j f lo hi->xs[i]<j)/\(∀i (h:i<xs.size),SetTable.below.go xs j f lo hi<=i->j<=xs[i])
 | 0,lo,hi,h1,h2,h3,a,b=>by
  have:lo=hi:=by omega
  subst this;exact⟨h3,a,b⟩
 |f+1,lo,hi,h1,h2,h3,a,b=>by
  unfold SetTable.below.go;by_cases h:lo<hi
  ·rw[if_pos h]
   have hm:(lo+hi)/2<xs.size:=by omega
   have e:xs.getD ((lo+hi)/2) j=xs[(lo+hi)/2]:=by simp[Array.getD,hm]
   dsimp only;rw[e];by_cases h':xs[(lo+hi)/2]<j
   ·rw[if_pos h']
    refine mK hu f _ hi (by omega) (by omega) h3 (fun i hi' hl=>?_) b;by_cases e2:i=(lo+hi)/2
    ·subst e2;exact h'
    ·exact Nat.lt_trans (hu i _ hi' hm (by omega)) h'
   ·rw[if_neg h']
    refine mK hu f lo _ (by omega) (by omega) (by omega) a fun i hi' hl=>?_
    by_cases e2:i=(lo+hi)/2
    ·subst e2;omega
    ·have:=hu _ i hm hi' (by omega);omega
  ·rw[if_neg h]
   have:lo=hi:=by omega
   subst this;exact⟨h3,a,b⟩
theorem fU{xs:Array Nat}(hu:UpA xs)(j:Nat):SetTable.below xs j<=xs.size/\(∀i (h:i<xs.size),i<SetTable.below xs j->xs[i]<j)/\(∀i (h:i<xs.size),SetTable.below xs j<=i->j<=xs[i]):=
 mK hu xs.size 0 xs.size (by omega) (by omega) (Nat.le_refl _) (fun i _ h=>absurd h (by omega)) (fun i h h'=>absurd h (by omega))
theorem pL{xs:Array Nat}{p x:Nat}(hp:p<=xs.size)(i:Nat):(SetTable.insertAt xs p x)[i]? = if i<p then xs[i]? else if i=p then some x else xs[i-1]?:=by
 rw[<-Array.getElem?_toList,SetTable.toList_insertAt];have hl:(xs.toList.take p).length=p:=by rw[List.length_take,Array.length_toList];omega
 by_cases h1:i<p
 ·rw[if_pos h1,List.getElem?_append_left (by omega),List.getElem?_take_of_lt h1,Array.getElem?_toList]
 ·rw[if_neg h1,List.getElem?_append_right (by omega),hl]
  by_cases h2:i=p
  ·subst h2
   rw[if_pos rfl,Nat.sub_self,List.getElem?_cons_zero]
  ·rw[if_neg h2]
   obtain⟨k,rfl⟩:∃k,i=p+k+1:=⟨i-p-1,by omega⟩;rw[show p+k+1-p=k+1 by omega,List.getElem?_cons_succ,List.getElem?_drop,Array.getElem?_toList];rfl
theorem UpA.iff{xs:Array Nat}:UpA xs↔∀i j a b:Nat,i<j->xs[i]? = some a->xs[j]? = some b->a<b:=by
 constructor
 ·intro h i j a b hij ha hb
  obtain⟨h1,rfl⟩:=Array.getElem?_eq_some_iff.mp ha;obtain⟨h2,rfl⟩:=Array.getElem?_eq_some_iff.mp hb;exact h i j h1 h2 hij
 ·intro h i j hi hj hij
  exact h i j _ _ hij (Array.getElem?_eq_getElem hi) (Array.getElem?_eq_getElem hj)
theorem UpA.insert{xs:Array Nat}{j:Nat}(hu:UpA xs)(hn:xs[SetTable.below xs j]? ≠ some j):UpA (SetTable.insertAt xs (SetTable.below xs j) j):=by
 obtain⟨h1,h2,h3⟩:=fU hu j;have lo:∀i a,i<SetTable.below xs j->xs[i]? = some a->a<j:=fun i a hi e=>by
  obtain⟨q,rfl⟩:=Array.getElem?_eq_some_iff.mp e;exact h2 i q hi
 have hi:∀i a,SetTable.below xs j<=i->xs[i]? = some a->j<a:=fun i a hi e=>by
  obtain⟨q,rfl⟩:=Array.getElem?_eq_some_iff.mp e;have hb:SetTable.below xs j<xs.size:=by omega
  have e1:j<=xs[SetTable.below xs j]:=h3 _ hb (Nat.le_refl _);have e2:xs[SetTable.below xs j]≠j:=fun z=>hn (by rw[Array.getElem?_eq_getElem hb,z])
  by_cases e3:i=SetTable.below xs j
  ·subst e3;omega
  ·have:=hu _ i hb q (by omega);omega
 rw[UpA.iff]at hu ⊢;intro i k a b hik ha hb;rw[pL h1]at ha hb;split at ha<;>split at hb
 ·exact hu i k a b hik ha hb
 ·split at hb
  ·cases hb;exact lo i a ‹_› ha
  ·exact Nat.lt_trans (lo i a ‹_› ha) (hi _ b (by omega) hb)
 ·omega
 ·split at ha<;>split at hb
  ·omega
  ·cases ha;exact hi _ b (by omega) hb
  ·omega
  ·exact hu (i-1) (k-1) a b (by omega) ha hb
structure WkT (led:Bool) (t:SetTable):Prop where
 led:t.led=led
 up:t.plain=true->UpA t.place
theorem fY(f:Nat->Option Nat):∀(l:List Nat),l.Pairwise (· < ·)->((l.filterMap fun j=>(f j).map (j,·)).map (·.1)).Pairwise (· < ·)
 |[],_=>.nil
 |a::l,h=>by
  obtain⟨h1,h2⟩:=List.pairwise_cons.mp h;rw[List.filterMap_cons];cases f a with
  |none=>exact fY f l h2
  |some b=>
   refine List.pairwise_cons.mpr ⟨fun z hz=>?_,fY f l h2⟩
   obtain⟨q,hq,rfl⟩:=List.mem_map.mp hz;obtain⟨c,hc,e⟩:=List.mem_filterMap.mp hq;obtain⟨d,_,rfl⟩:=Option.map_eq_some_iff.mp e;exact h1 _ hc
theorem mJ{xs:Array Nat}(hu:UpA xs){i:Nat}(hi:i<xs.size):SetTable.below xs (xs[i]+1)=i+1:=by
 obtain⟨h1,h2,h3⟩:=fU hu (xs[i]+1);have a:i<SetTable.below xs (xs[i]+1):=by
  refine Nat.lt_of_not_le fun h=>?_
  have:=h3 i hi h;omega
 have b:¬(i+1<SetTable.below xs (xs[i]+1)):=fun h=>by
  have q:=h2 (i+1) (by omega) h;have:=hu i (i+1) hi (by omega) (by omega);omega
 omega
theorem mI{xs:Array Nat}(hu:UpA xs):SetTable.below xs 0=0:=by
 obtain⟨h1,h2,h3⟩:=fU hu 0;refine Nat.eq_zero_of_not_pos fun h=>?_
 have:=h2 0 (by omega) h;omega
noncomputable def E4:Value->Int
 |.int k _=>k
 |_=>0
abbrev bc(led:Bool):Obj:={ cls:=.type "set",dict:=none,data:=.set #[] 0 (.fresh 0 0 led) }
section
variable{prog:Program}{w:World}{A:Around}{E:Value->Shared->Prop}{s:Shared}
theorem mF(a:Value){Q:Value->Shared->Prop}(h:Q (.ref s.heap.objs.size) { s with heap:=s.heap.push (bc (!w.params.followText "set-order")) }):
  codeAny (model prog w) A (.call (.builtin "set.__new__") ⟨[.type "set",a],[]⟩) (wants Q E) s:=by
 refine codeAny_of_tree ?_;refine wpAny_bind (m:=checkBuiltinCall "set.__new__" ⟨[.type "set",a],[]⟩) (wpAny_of_eq (F.newCall_set_1 a) (wpAny_pure ⟨plainId_quiet F.plain_set_new _,codeAny_builtin F.entry_set_new ?_⟩));rw[Around.under_plainId F.plain_set_new _];unfold Builtin.«set.__new__» Builtin.Frozenset.newClass;have f1:=sub_set_self;obtain⟨hp,g,d,tk,os⟩:=s;dsimp only
 wp_walk
 refine wpAny_askSetting (wpAny_pure ?_);dsimp only;simp only[newObj];exact wpAny_bind (wpAny_alloc (wpAny_pure (wpAny_pure h)))
end
theorem mY:isSubtype (.type "tuple") (.type "set")=pure false:=by rw[isSubtype_type];kernel_rfl
theorem ii:isSubtype (.type "tuple") (.type "frozenset")=pure false:=by rw[isSubtype_type];kernel_rfl
theorem iG{α:Type}:∀(l:List α) (i:Nat) (x:α),l[i]? = some x->l.Perm (x::l.eraseIdx i)
 |a::l,0,x,h=>by
  have:a=x:=by simpa using h
  subst this;exact .refl _
 |a::l,i+1,x,h=>by
  have ih:=iG l i x (by simpa using h);rw[List.eraseIdx_cons_succ];exact(ih.cons a).trans (.swap x a _)
theorem uD{α:Type}(f:Nat->Nat):∀(n k:Nat) (l:List α) (out:Array α),l.length=n->(pickOrder.go f n k l out).toList.Perm (out.toList++l)
 | 0,k,l,out,h=>by
  have:l=[]:=List.length_eq_zero_iff.mp h;subst this;unfold pickOrder.go;simp
 |n+1,k,l,out,h=>by
  have hi:f k%l.length<l.length:=Nat.mod_lt _ (by omega);have hx:l[f k%l.length]? = some l[f k%l.length]:=by simp[hi]
  unfold pickOrder.go;rw[hx];have ih:=uD f n (k+1) (l.eraseIdx (f k%l.length)) (out.push l[f k%l.length]) (by rw[List.length_eraseIdx,if_pos hi];omega);refine ih.trans ?_;rw[Array.toList_push,List.append_assoc];exact(iG l _ _ hx).symm.append_left _
theorem vQ{α:Type}(f:Nat->Nat)(xs:Array α):(pickOrder f xs).toList.Perm xs.toList:=by
 have:=uD f xs.size 0 xs.toList #[] (by simp);simpa[pickOrder]using this
theorem slot_si_next:Slot "set_iterator" "__next__" "set_iterator.__next__":=
 .of (owner:="set_iterator") (n:="__next__") (by rw[typeLookup_type,builtinLookup_eq_fast];kernel_rfl) (by decide +kernel) (by decide +kernel) (by decide +kernel)
  (by first|exact .inl (by decide +kernel)|exact .inr (by decide +kernel)) (by rw[isSubtype_type];kernel_rfl)
theorem ni:entryFor table "set_iterator.__next__" = some Builtin.«set_iterator.__next__»:=entryFor_of_tree (by kernel_rfl)
theorem qS:Manifest.owners.lookup (String.ofList ['r','o','t','a','r','e','t','i','_','t','e','s'].reverse)=some Manifest.sig_set_iterator:=by kernel_rfl
theorem qh(a:Value):argsOk "set_iterator.__next__" ⟨[a],[]⟩:=by
 unfold argsOk;rw[signature?_of (id:="set_iterator.__next__") (n:=['_','_','t','x','e','n','_','_']) (o:=['r','o','t','a','r','e','t','i','_','t','e','s']) (by kernel_rfl) qS];kernel_rfl
theorem kE:entryFor table "set.__iter__" = some Builtin.«frozenset.__iter__»:=
 entryFor_alias (id':="frozenset.__iter__") (by kernel_rfl) rfl (by decide +kernel) (by kernel_rfl)
section
variable{M:Model}{prog:Program}{w:World}{A:Around}{E:Value->Shared->Prop}{s:Shared}
theorem oK{src:Source}{n:Nat}{Q:Nat->Shared->Prop}(hn:n≠0)(h:∀k d,k<n->Q k { s with drawn:=d }):wpAny M A (choose src n) Q E s:=fun Γ p hΓ=>by
 show Sem.wp M Γ (.choose src n .pure) _ _ p s;rw[Sem.wp_choose];exact⟨hn,h _ _ (Nat.mod_lt _ (Nat.pos_of_ne_zero hn))⟩
theorem oo{α:Type}:∀(n:Nat) (xs:List α) (s:Shared) {Q:List α -> Shared->Prop},xs.length=n->(∀ys d,ys.Perm xs->Q ys { s with drawn:=d })->wpAny M A (drawOrder n xs) Q E s
 | 0,xs,s,Q,hn,h=>by
  have:xs=[]:=List.length_eq_zero_iff.mp hn;subst this;unfold drawOrder;exact wpAny_pure (h [] s.drawn (.refl _))
 |n+1,[],s,Q,hn,h=>by simp at hn
 |n+1,x::xs,s,Q,hn,h=>by
  unfold drawOrder;refine wpAny_bind (oK (by simp) fun k d hk=>?_)
  have hx:(x::xs)[k]? = some ((x::xs)[k]):=by simp[hk]
  rw[hx];refine wpAny_bind (oo n ((x::xs).eraseIdx k) _ (by rw[List.length_eraseIdx,if_pos hk];omega) fun ys d' p=>?_)
  exact wpAny_pure (h _ d' ((p.cons _).trans (iG _ _ _ hx).symm))
abbrev d0(es:Array (Int×Value))(ep:Nat)(t:SetTable):Obj:={ cls:=.type "set",dict:=none,data:=.set es ep t,slots:=#[] }
noncomputable def lG(first:Value)(i:Int)(a:Addr)(n ep:Int):Obj:={ cls:=.type "set_iterator",data:=.fields #[first,rawInt i,.ref a,rawInt n,rawInt ep] }
theorem ic{Q:Bool->Shared->Prop}(h:Q (w.params.followText "set-order") s):wpAny (model prog w) A setsByText Q E s:=by
 unfold setsByText;exact wpAny_bind (wpAny_askSetting (wpAny_pure h))
inductive Mode (w:World) (h:Heap) (a:Addr) (es:Array (Int×Value)) (ep:Nat) (t:SetTable) (vs:List Value):Nat->Value->Prop
 |text {i:Nat} {sl:Nat}:w.params.followText "set-order" = true->vs=(pickOrder (w.params.setOrder a ep) es).toList.map (·.2)->Mode w h a es ep t vs i (rawInt sl)
 |slots {i:Nat}:w.params.followText "set-order" = false->(!t.plain&&decide (es.size>1))=false->UpA t.place->vs=es.toList.map (·.2)->Mode w h a es ep t vs i (rawInt (if i=0 then 0 else t.place.getD (i-1) 0+1:Nat))
 |drawn {i:Nat} {tp:Addr} {o:Obj} {ps:List Nat} {k:Nat}:h.get? tp=some o->o.data=.seq (ps.map fun p:Nat=>rawInt (p:Int)).toArray k->vs.length=ps.length->(∀(j p:Nat),ps[j]? = some p->∃e:Int×Value,es[p]? = some e/\vs[j]? = some e.2)->Mode w h a es ep t vs i (.ref tp)
def SWk(w:World)(h:Heap)(I a:Addr)(vs:List Value)(tp:Addr)(i:Nat):Prop:=∃es ep t first,h.get? a=some (d0 es ep t)/\t.fits es.size=true/\WkT (!w.params.followText "set-order") t/\vs.length=es.size/\h.get? I=some (lG first i a es.size ep)/\(∀b,first=.ref b->b=tp)/\Mode w h a es ep t vs i first
theorem Mode.keep{h h':Heap}{a tp:Addr}{es:Array (Int×Value)}{ep:Nat}{t:SetTable}{vs:List Value}{i:Nat}{first:Value}(m:Mode w h a es ep t vs i first)(hf:∀b,first=.ref b->b=tp)(k:∀o,h.get? tp=some o->h'.get? tp=some o):Mode w h' a es ep t vs i first:=by
 cases m with
 |text e1 e2=>exact .text e1 e2
 |slots e1 e2 e3 e4=>exact .slots e1 e2 e3 e4
 |drawn e1 e2 e3 e4=>
  have:=hf _ rfl;subst this;exact .drawn (k _ e1) e2 e3 e4
theorem eM{I:Addr}{first:Value}{i n ep:Int}{a:Addr}(h:s.heap.get? I=some (lG first i a n ep)):s.TypeIs (.ref I) "set_iterator":=⟨_,h,rfl⟩
theorem uw{I a:Addr}{first:Value}{i n:Nat}{es:Array (Int×Value)}{ep:Nat}{t:SetTable}{Q:Option Value->Shared->Prop}(hI:s.heap.get? I=some (lG first i a n ep))(ha:s.heap.get? a=some (d0 es ep t))(hf:t.fits es.size=true)(hn:es.size=n)
  (h:wpAny (model prog w) A.in1 (if let .int slot _:=first then do
     match <-setNext a slot.toNat i ep with
     |some (x,next)=>
      setField (.ref I) 0 (rawInt next)
      setField (.ref I) 1 (rawInt ((i:Int)+1))
      ret x
     |none=>setField (.ref I) 2 .none;raiseNew (<-newExc (.type "StopIteration") [])
    else do
     let some places <-seqItems? first|unsupported "internal:set_iterator"
     match places[i]? with
     |some (.int place _)=>
      let x <-setNextDrawn a place.toNat ep
      setField (.ref I) 1 (rawInt ((i:Int)+1))
      ret x
     |some _=>unsupported "internal:set_iterator"
     |none=>setField (.ref I) 0 (rawInt 0);setField (.ref I) 2 .none;raiseNew (<-newExc (.type "StopIteration") []))
   (fun fin s'=>∃r,fin=.done (.ret r)/\Q (some r) s') (fun e s'=>wpAny (model prog w) A (do if <-isInstance e (.type "StopIteration")then pure none else throw e) Q E s') s):wpAny (model prog w) A (pyNext (.ref I)) Q E s:=by
 unfold pyNext;refine wpAny_bind (wpAny_attempt (wpAny_callSpecial?_slot (name:=Str.ofString "__next__") (eM hI) slot_si_next (wpAny_call_entry slot_si_next (eM hI) ni ?_ (qh _))));unfold Builtin.«set_iterator.__next__»;refine wpAny_bind (wpAny_of_eq (a:=(Value.ref I,[])) rfl ?_)
 try dsimp only
 refine wpAny_bind (wpAny_fieldsOf hI rfl ?_);show wpAny _ _ (setEntries a >>= fun q=>_) _ _ s;refine wpAny_bind (wpAny_setEntries_of ha rfl hf ?_);refine wpAny_ite_split (fun z=>absurd z (by simp[hn])) (fun _=>?_)
 simp only[Int.toNat_natCast];exact wpAny_mono h (fun fin s' q=>let ⟨r,e,q⟩:=q; ⟨r,e,wpAny_pure q⟩) fun _ _ e=>e
theorem oX{Q:Option Value->Shared->Prop}{P:PySem.Fin->Shared->Prop}(hh:A.handled=none)(h:∀h',(∀b o,s.heap.get? b=some o->h'.get? b=some o)->Q none { s with heap:=h' }):
  wpAny (model prog w) A.in1 (do
   let x <-newExc (.type "StopIteration") []
   raiseNew x) P (fun e s'=>wpAny (model prog w) A (do if <-isInstance e (.type "StopIteration")then pure none else throw e) Q E s') s:=by
 refine wpAny_bind ?_;simp only[newExc,newTuple];refine wpAny_bind (wpAny_newObj_type ?_ (by size_fits));refine wpAny_bind (m:=firstArgMember _ _) (wpAny_of_eq (a:=Value.none) (by first|rfl|(simp only[firstArgMember];rfl)) ?_);refine wpAny_newObj_type ?_ (by size_fits);simp only[raiseNew];refine wpAny_bind (wpAny_handled ?_);rw[show A.in1.handled=none from hh];refine wpAny_bind (wpAny_pure (wpAny_throw ?_));refine wpAny_bind (wpAny_isInstance (T:="StopIteration") (b:=true) ⟨_,Heap.get?_push_size _ rfl,rfl⟩ isSubtype_stop ?_);exact wpAny_pure (h _ fun b o e=>Heap.get?_push_of_some _ (Heap.get?_push_of_some _ e))
theorem bg{h:Heap}{I b:Addr}{f:Obj->Obj}{o:Obj}(hb:b≠I)(e:h.get? b=some o):(h.update I f).get? b=some o:=(Heap.get?_update_other _ _ (Ne.symm hb)).trans e
theorem iY{a:Addr}{es:Array (Int×Value)}{ep:Nat}{t:SetTable}{sl i:Nat}{Q:Option (Value×Nat)->Shared->Prop}(ha:s.heap.get? a=some (d0 es ep t))(hf:t.fits es.size=true)(hT:w.params.followText "set-order" = true)(h:Q (((pickOrder (w.params.setOrder a ep) es)[i]?).map fun e=>(e.2,sl)) s):wpAny (model prog w) A (setNext a sl i ep) Q E s:=by
 unfold setNext;refine wpAny_bind (wpAny_setState_of ha rfl hf ?_);dsimp only;refine wpAny_bind (ic ?_);rw[hT,if_pos rfl];refine wpAny_ite_split (fun z=>absurd z (by simp)) (fun _=>?_)
 unfold setWalk;refine wpAny_bind (wpAny_bind (wpAny_setState_of ha rfl hf ?_));dsimp only;refine wpAny_bind (ic ?_);rw[hT,if_pos rfl];refine wpAny_bind (wpAny_askSetting (wpAny_pure ?_));exact wpAny_pure h
theorem iZ{a:Addr}{es:Array (Int×Value)}{ep:Nat}{t:SetTable}{sl i:Nat}{Q:Option (Value×Nat)->Shared->Prop}(ha:s.heap.get? a=some (d0 es ep t))(hf:t.fits es.size=true)(hT:w.params.followText "set-order" = false)(hp:(!t.plain&&decide (es.size>1))=false)(hw:t.led=true)
  (h:Q (match es[SetTable.below t.place sl]?,t.place[SetTable.below t.place sl]? with
   |some (_,x),some j=>some (x,j+1)
   |_,_=>none) s):wpAny (model prog w) A (setNext a sl i ep) Q E s:=by
 unfold setNext;refine wpAny_bind (wpAny_setState_of ha rfl hf ?_);dsimp only;refine wpAny_bind (ic ?_);rw[hT,if_neg (by decide)];show wpAny _ _ (if(!t.plain&&decide (es.size>1))=true then _ else _) _ _ _;rw[hp,if_neg (by decide)];show wpAny _ _ ((if(!t.led && !es.isEmpty)=true then _ else _) >>= _) _ _ _;rw[hw];simp only[Bool.not_true,Bool.false_and,Bool.false_eq_true,if_false];exact wpAny_bind (wpAny_pure (wpAny_pure h))
end
section
variable{prog:Program}{w:World}{A:Around}{E:Value->Shared->Prop}{s:Shared}
theorem jV{t:SetTable}{n:Nat}(h:t.fits n=true):t.place.size=n:=by
 simp only[SetTable.fits,Bool.and_eq_true,beq_iff_eq]at h;exact h.1
theorem xw{h:Heap}{I a:Addr}{first x:Value}{i n ep:Int}(hI:h.get? I=some (lG first i a n ep))(j:Int):((h.update I (Obj.mapFields (·.setIfInBounds 0 x))).update I (Obj.mapFields (·.setIfInBounds 1 (rawInt j)))).get? I=some (lG x j a n ep):=by
 have h1:=Heap.get?_update_self (Obj.mapFields (·.setIfInBounds 0 x)) hI rfl;exact Heap.get?_update_self (Obj.mapFields (·.setIfInBounds 1 (rawInt j))) h1 rfl
theorem C6{h:Heap}{I a:Addr}{first:Value}{i n ep:Int}(hI:h.get? I=some (lG first i a n ep))(j:Int):(h.update I (Obj.mapFields (·.setIfInBounds 1 (rawInt j)))).get? I=some (lG first j a n ep):=
 Heap.get?_update_self (Obj.mapFields (·.setIfInBounds 1 (rawInt j))) hI rfl
theorem Au{I a tp:Addr}{vs:List Value}{i:Nat}{v:Value}{Q:Option Value->Shared->Prop}(ha:a≠I)(ht:tp≠I)(hW:SWk w s.heap I a vs tp i)(hv:vs[i]? = some v)
  (hQ:∀h',SWk w h' I a vs tp (i+1)->(∀b o,b≠I->s.heap.get? b=some o->h'.get? b=some o)->Q (some v) { s with heap:=h' }):wpAny (model prog w) A (pyNext (.ref I)) Q E s:=by
 obtain⟨es,ep,t,first,e1,e2,e3,e4,e5,e6,e7⟩:=hW;have hi:i<vs.length:=(List.getElem?_eq_some_iff.mp hv).1;refine uw e5 e1 e2 rfl ?_;cases e7 with
 |text m1 m2=>
  rename_i sl;show wpAny _ _ (setNext a ((sl:Int)).toNat i ep >>= _) _ _ _;rw[Int.toNat_natCast];have hx:∃e,(pickOrder (w.params.setOrder a ep) es)[i]? = some e/\e.2=v:=by
   rw[m2,List.getElem?_map,Array.getElem?_toList]at hv;exact Option.map_eq_some_iff.mp hv
  obtain⟨e,q1,q2⟩:=hx;refine wpAny_bind (iY e1 e2 m1 ?_);rw[q1];dsimp only[Option.map];rw[q2];refine wpAny_bind (wpAny_setField e5 rfl (by simp) ?_);have g1:=Heap.get?_update_self (Obj.mapFields (·.setIfInBounds 0 (rawInt (sl:Int)))) e5 rfl;refine wpAny_bind (wpAny_setField g1 rfl (by simp) (wpAny_pure ⟨v,rfl,hQ _ ?_ fun b o hb eo=>bg hb (bg hb eo)⟩))
  exact⟨es,ep,t,rawInt sl,bg ha (bg ha e1),e2,e3,e4,xw e5 _,fun b z=>(by cases z),.text m1 m2⟩
 |slots m1 m2 m3 m4=>
  have hz:=jV e2;have hb:SetTable.below t.place (if i=0 then 0 else t.place.getD (i-1) 0+1)=i:=by
   by_cases z:i=0
   ·subst z;rw[if_pos rfl,mI m3]
   ·rw[if_neg z]
    have:i-1<t.place.size:=by omega
    have e:t.place.getD (i-1) 0=t.place[i-1]:=by simp[Array.getD,this]
    rw[e,mJ m3 this];omega
  have hp:t.place[i]? = some (t.place.getD i 0):=by
   have:i<t.place.size:=by omega
   simp[Array.getD,this]
  obtain⟨e,q1,q2⟩:∃e,es[i]? = some e/\e.2=v:=by
   rw[m4,List.getElem?_map,Array.getElem?_toList]at hv;exact Option.map_eq_some_iff.mp hv
  obtain⟨eh,ev⟩:=e;have q2:ev=v:=q2;subst q2;show wpAny _ _ (setNext a (((if i=0 then 0 else t.place.getD (i-1) 0+1:Nat):Int)).toNat i ep >>= _) _ _ _;rw[Int.toNat_natCast];refine wpAny_bind (iZ e1 e2 m1 m2 (by rw[e3.led,m1];rfl) ?_);rw[hb,q1,hp];dsimp only;refine wpAny_bind (wpAny_setField e5 rfl (by simp) ?_);have g1:=Heap.get?_update_self (Obj.mapFields (·.setIfInBounds 0 (rawInt ((t.place.getD i 0+1:Nat):Int)))) e5 rfl;refine wpAny_bind (wpAny_setField g1 rfl (by simp) (wpAny_pure ⟨ev,rfl,hQ _ ?_ fun b o hb eo=>bg hb (bg hb eo)⟩))
  have m:Mode w ((s.heap.update I (Obj.mapFields (·.setIfInBounds 0 (rawInt ((t.place.getD i 0+1:Nat):Int))))).update I (Obj.mapFields (·.setIfInBounds 1 (rawInt ((i:Int)+1))))) a es ep t vs (i+1) (rawInt (if i+1=0 then 0 else t.place.getD (i+1-1) 0+1:Nat)):=.slots m1 m2 m3 m4;rw[if_neg (by omega),Nat.add_sub_cancel]at m;exact⟨es,ep,t,_,bg ha (bg ha e1),e2,e3,e4,xw e5 _,fun b z=>(by cases z),m⟩
 |drawn m1 m2 m3 m4=>
  rename_i tq o ps k;have:=e6 _ rfl;subst this;have hj:i<ps.length:=by omega
  have hp:ps[i]? = some ps[i]:=by simp[hj]
  obtain⟨e,q1,q2⟩:=m4 i _ hp;rw[hv]at q2;have q2:v=e.2:=by simpa using q2
  show wpAny _ _ (seqItems? (.ref tq) >>= _) _ _ _;refine wpAny_bind (wpAny_seqItems m1 m2 ?_);dsimp only;have pl:(ps.map fun p:Nat=>rawInt (p:Int)).toArray[i]? = some (rawInt (ps[i]:Int)):=by simp[hj]
  rw[pl];show wpAny _ _ (setNextDrawn a ((ps[i]:Int)).toNat ep >>= _) _ _ _;rw[Int.toNat_natCast];unfold setNextDrawn;refine wpAny_bind (wpAny_bind (wpAny_setState_of e1 rfl e2 ?_));dsimp only;refine wpAny_ite_split (fun z=>absurd z (by simp)) (fun _=>?_)
  rw[q1];refine wpAny_pure ?_;rw[<-q2];refine wpAny_bind (wpAny_setField e5 rfl (by simp) (wpAny_pure ⟨v,rfl,hQ _ ?_ fun b o hb eo=>bg hb eo⟩));exact⟨es,ep,t,.ref tq,bg ha e1,e2,e3,e4,C6 e5 _,e6,.drawn (bg ht m1) m2 m3 m4⟩
theorem Av{I a tp:Addr}{vs:List Value}{Q:Option Value->Shared->Prop}(hh:A.handled=none)(hW:SWk w s.heap I a vs tp vs.length)
  (hQ:∀h',(∀b o,b≠I->s.heap.get? b=some o->h'.get? b=some o)->Q none { s with heap:=h' }):wpAny (model prog w) A (pyNext (.ref I)) Q E s:=by
 obtain⟨es,ep,t,first,e1,e2,e3,e4,e5,e6,e7⟩:=hW;refine uw e5 e1 e2 rfl ?_;cases e7 with
 |text m1 m2=>
  rename_i sl;show wpAny _ _ (setNext a ((sl:Int)).toNat vs.length ep >>= _) _ _ _;rw[Int.toNat_natCast];refine wpAny_bind (iY e1 e2 m1 ?_);have hx:(pickOrder (w.params.setOrder a ep) es)[vs.length]? = none:=by
   rw[<-Array.getElem?_toList,List.getElem?_eq_none_iff,m2,List.length_map];exact Nat.le_refl _
  rw[hx];dsimp only[Option.map];refine wpAny_bind (wpAny_setField e5 rfl (by simp) ?_);exact oX hh fun h' kp=>hQ h' fun b o hb eo=>kp b o (bg hb eo)
 |slots m1 m2 m3 m4=>
  have hz:=jV e2;have hb:SetTable.below t.place (if vs.length=0 then 0 else t.place.getD (vs.length-1) 0+1)=vs.length:=by
   by_cases z:vs.length=0
   ·rw[if_pos z,mI m3,z]
   ·rw[if_neg z]
    have:vs.length-1<t.place.size:=by omega
    have e:t.place.getD (vs.length-1) 0=t.place[vs.length-1]:=by simp[Array.getD,this]
    rw[e,mJ m3 this];omega
  show wpAny _ _ (setNext a (((if vs.length=0 then 0 else t.place.getD (vs.length-1) 0+1:Nat):Int)).toNat vs.length ep >>= _) _ _ _;rw[Int.toNat_natCast];refine wpAny_bind (iZ e1 e2 m1 m2 (by rw[e3.led,m1];rfl) ?_);rw[hb];have hx:es[vs.length]? = none:=by rw[e4];simp
  rw[hx];dsimp only;refine wpAny_bind (wpAny_setField e5 rfl (by simp) ?_);exact oX hh fun h' kp=>hQ h' fun b o hb eo=>kp b o (bg hb eo)
 |drawn m1 m2 m3 m4=>
  rename_i tq o ps k;show wpAny _ _ (seqItems? (.ref tq) >>= _) _ _ _;refine wpAny_bind (wpAny_seqItems m1 m2 ?_);dsimp only;have pl:(ps.map fun p:Nat=>rawInt (p:Int)).toArray[vs.length]? = none:=by rw[m3];simp
  rw[pl];dsimp only;refine wpAny_bind (wpAny_setField e5 rfl (by simp) ?_);have g1:=Heap.get?_update_self (Obj.mapFields (·.setIfInBounds 0 (rawInt 0))) e5 rfl;refine wpAny_bind (wpAny_setField g1 rfl (by simp) ?_);exact oX hh fun h' kp=>hQ h' fun b o hb eo=>kp b o (bg hb (bg hb eo))
theorem SWk.frame{h h':Heap}{I a tp:Addr}{vs:List Value}{i:Nat}(x:SWk w h I a vs tp i)(k:∀b∈[I,a,tp],∀o,h.get? b=some o->h'.get? b=some o):SWk w h' I a vs tp i:=
 let ⟨es,ep,t,first,e1,e2,e3,e4,e5,e6,e7⟩:=x
 ⟨es,ep,t,first,k a (by simp) _ e1,e2,e3,e4,k I (by simp) _ e5,e6,e7.keep e6 (k tp (by simp))⟩
theorem nj:entryFor table "set_iterator.__iter__" = some Builtin.«dict_keyiterator.__iter__»:=
 entryFor_alias (id':="dict_keyiterator.__iter__") (by kernel_rfl) (by first|rfl|decide +kernel|(unfold String.splitOn;simp +decide [String.splitOnAux])) (by decide +kernel) (by kernel_rfl)
theorem iW:Slot "set_iterator" "__iter__" "set_iterator.__iter__":=
 .of (owner:="set_iterator") (n:="__iter__") (by rw[typeLookup_type,builtinLookup_eq_fast];kernel_rfl) (by decide +kernel) (by decide +kernel) (by decide +kernel)
  (by first|exact .inl (by decide +kernel)|exact .inr (by decide +kernel)) (by rw[isSubtype_type];kernel_rfl)
theorem qi(a:Value):argsOk "set_iterator.__iter__" ⟨[a],[]⟩:=by
 unfold argsOk;rw[signature?_of (id:="set_iterator.__iter__") (n:=['_','_','r','e','t','i','_','_']) (o:=['r','o','t','a','r','e','t','i','_','t','e','s']) (by kernel_rfl) qS];kernel_rfl
theorem xo(hh:A.handled=none){I a tp:Addr}(ha:a≠I)(ht:tp≠I)(vs:List Value):Walks prog w A I [I,a,tp] [I] vs.length (fun i v=>vs[i]? = some v) (fun i h=>SWk w h I a vs tp i) where
 sub:=fun b hb=>by simp at hb;simp[hb]
 frame:=fun _ _ _ st hk=>st.frame hk
 item:=fun i s Q E hi st hQ=>Au ha ht st (v:=vs[i]) (by simp[hi]) fun h' x k=>hQ _ h' s.toks (by simp[hi]) x fun b o hb e=>k b o (fun z=>hb (by simp[z])) e
 done:=fun s Q E st hQ=>Av hh st fun h' k=>hQ h' s.toks fun b o hb e=>k b o (fun z=>hb (by simp[z])) e
 self:=fun i s Q E st hQ=>by
  obtain⟨es,ep,t,first,e1,e2,e3,e4,e5,e6,e7⟩:=st;refine wpAny_pyIter_slot (eM e5) iW (wpAny_call_entry iW (eM e5) nj ?_ (qi _));exact wpAny_pure ⟨_,rfl,"set_iterator",_,eM e5,slot_si_next.lookup,hQ⟩
end
theorem sN(es:Array (Int×Value)):(List.range es.size).map (fun p=>es.getD p (0,.none))=es.toList:=by
 apply List.ext_getElem?;intro i;rw[List.getElem?_map];by_cases h:i<es.size
 ·rw[List.getElem?_range h]
  simp[Array.getD,h]
 ·rw[List.getElem?_eq_none (by rw[List.length_range];omega),List.getElem?_eq_none (by rw[Array.length_toList];omega)]
  rfl
section
variable{prog:Program}{w:World}{A:Around}{E:Value->Shared->Prop}{s:Shared}
theorem yT{r:Addr}{Q:Bool->Shared->Prop}(hT:s.TypeIs (.ref r) "set")(h:Q false s):wpAny (model prog w) A (Builtin.List.listLengthHint (.ref r)) Q E s:=by
 unfold Builtin.List.listLengthHint;refine wpAny_bind (wpAny_specialOf hT PySem.F.slot_set_len.lookup ?_);generalize hid:("set.__len__":String)=id0
 wp_delta
 rw[show splitId id0=some ("set","__len__")from by subst hid;decide +kernel];subst hid;refine wpAny_bind (wpAny_isInstance (T:="set") (b:=true) hT (by rw[isSubtype_type];kernel_rfl) ?_);refine wpAny_ite_split (fun z=>absurd z (by decide)) (fun _=>wpAny_ite_split (fun _=>?_) (fun z=>absurd (by decide +kernel) z))
 exact wpAny_bind (wpAny_typeOf hT (wpAny_pure h))
end
section
variable{prog:Program}{w:World}{A:Around}{E:Value->Shared->Prop}{s:Shared}
theorem yN{vs:List Value}{acc:Array Value}(h:ItemsOf (fun i v=>vs[i]? = some v) acc vs.length):acc.toList=vs:=by
 obtain⟨h1,h2⟩:=h;apply List.ext_getElem?;intro i;rw[Array.getElem?_toList];cases e:acc[i]? with
 |some v=>exact(h2 i v e).symm
 |none=>
  have:acc.size<=i:=by simpa using e
  rw[List.getElem?_eq_none (by omega)]
end
section
variable{X:Cx}
theorem Inv.keptD{pins:List (Addr×Obj)}{σ:St}{H:Hp}{s:Shared}{h':Heap}{t':Nat}{d:Drawn}(I:Inv X pins σ H s)(k:∀b u,s.heap.get? b=some u->h'.get? b=some u):Inv X pins σ H { s with heap:=h',drawn:=d,toks:=t' }:=by
 obtain⟨a1,a2,a3,a4,a5,a6,a7,a8,a9,a10,a11⟩:=I.kept (t':=t') k;exact⟨a1,a2,a3,a4,a5,a6,a7,a8,a9,a10,a11⟩
variable{e:Expr}{p p2 pos pos2:Pos}{te:TE}{f:Dv->Option D}
theorem rH{K:Fg}{Z:Hp}:∀{vs:List V} {ds:List D} {l:List Int},Reps K Z vs ds->wx ds=some l->vs=l.map V.int
 |_,_,_,.nil,h=>by cases h;rfl
 |_,.int i::ds,l,.cons r rs,h=>by
  obtain⟨l',e,h⟩:=bind_some h;cases h;rw[r.int_eq,rH rs e];rfl
 |_,.none::ds,l,.cons r rs,h=>by cases h
 |_,.bool _::ds,l,.cons r rs,h=>by cases h
 |_,.str _::ds,l,.cons r rs,h=>by cases h
 |_,.list _::ds,l,.cons r rs,h=>by cases h
 |_,.tuple _::ds,l,.cons r rs,h=>by cases h
 |_,.dict _::ds,l,.cons r rs,h=>by cases h
end
end VL
namespace VL
open PySem PySem.Spec PyProof.Rows
noncomputable def dl:Bool->Keyed->Array Keyed->Nat->Nat->Nat->StateT SortSt Sem (Option Nat):=sortPriv% PySem.Builtin.gallop
noncomputable def cR:Nat->StateT SortSt Sem Unit:=sortPriv% PySem.Builtin.setMinGallop
noncomputable def lQ:Array Keyed->Array Keyed->StateT SortSt Sem (Array Keyed):=sortPriv% PySem.Builtin.mergeLo
noncomputable def lR:Array Keyed->Array Keyed->StateT SortSt Sem (Array Keyed):=sortPriv% PySem.Builtin.mergeHi
noncomputable def gh(left:Bool)(key:Keyed)(arr:Array Keyed)(base i:Nat):StateT SortSt Sem (Option Bool):=do
 let x <-elem' arr (base+i)
 if left then lt' x key else return (<-lt' key x).map (!·)
theorem tL(left:Bool)(key:Keyed)(arr:Array Keyed)(base n hint:Nat):dl left key arr base n hint=(do
 let mut lastofs:=0
 let mut ofs:=1
 let mut lo:=0
 let mut hi:=0
 let some right <-gh left key arr base hint|return none
 if right then
  let maxofs:=n-hint
  for _ in [0:n] do
   if ofs>=maxofs then break
   let some more <-gh left key arr base (hint+ofs)|return none
   if !more then break
   lastofs:=ofs
   ofs:=2*ofs+1
  lo:=hint+lastofs+1
  hi:=hint+min ofs maxofs
 else
  let maxofs:=hint+1
  for _ in [0:n] do
   if ofs>=maxofs then break
   let some found <-gh left key arr base (hint-ofs)|return none
   if found then break
   lastofs:=ofs
   ofs:=2*ofs+1
  lo:=hint+1-min ofs maxofs
  hi:=hint-lastofs
 for _ in [0:n] do
  if lo>=hi then break
  let m:=lo+(hi-lo)/2
  let some more <-gh left key arr base m|return none
  if more then lo:=m+1 else hi:=m
 return some hi):=rfl
section
variable{M:Model}{A:Around}{E:Value->Shared->Prop}{s:Shared}{st:SortSt}
theorem km{left:Bool}{key:Keyed}{arr:Array Keyed}{base n:Nat}{B:Nat->Bool}{lo hi:Nat}{Q:Option (Option Nat)×Nat×Nat->SortSt->Prop}
  (hb:∀i,i<n->∀Q:Option Bool->SortSt->Prop,Q (some (B i)) st->wpS M A E s (gh left key arr base i) Q st) (mono:∀i j,i<=j->j<n->B j=true->B i=true)
  (h1:lo<=hi) (h2:hi<=n) (hlo:∀i,i<lo->B i=true) (hhi:∀i,hi<=i->i<n->B i=false)
  (h:∀r,r<=n->(∀i,i<r->B i=true)->(∀i,r<=i->i<n->B i=false)->Q (none,r,r) st) :
  wpS M A E s (forIn [0:n] ((none,lo,hi):Option (Option Nat)×Nat×Nat) fun _ c=>do
   if c.2.1>=c.2.2 then pure (ForInStep.done (none,c.2.1,c.2.2))else do
    let x <-gh left key arr base (c.2.1+(c.2.2-c.2.1)/2)
    match x with
    |some more=>if more=true then pure (ForInStep.yield (none,c.2.1+(c.2.2-c.2.1)/2+1,c.2.2))else pure (ForInStep.yield (none,c.2.1,c.2.1+(c.2.2-c.2.1)/2))
    |_=>pure (ForInStep.done (some none,c.2.1,c.2.2))) Q st:=by
 refine wpS_forRange (I:=fun t c st'=>st'=st/\∃lo hi,c=(none,lo,hi)/\lo<=hi/\hi<=n/\hi-lo<=n-t/\(∀i,i<lo->B i=true)/\(∀i,hi<=i->i<n->B i=false)) ?step ?fin ⟨rfl,lo,hi,rfl,h1,h2,by omega,hlo,hhi⟩
 case fin=>
  rintro c st' ⟨rfl,lo,hi,rfl,a1,a2,a3,a4,a5⟩;have:lo=hi:=by omega
  subst this;exact h lo a2 a4 a5
 case step=>
  rintro t c st' _ ht ⟨rfl,lo,hi,rfl,a1,a2,a3,a4,a5⟩;dsimp only;by_cases q:lo>=hi
  ·rw[if_pos q]
   have:lo=hi:=by omega
   subst this;exact wpS_pure (h lo a2 a4 a5)
  ·rw[if_neg q]
   refine wpS_bind (hb _ (by omega) _ ?_);dsimp only;cases e:B (lo+(hi-lo)/2)with
   |true=>
    simp only[if_true];refine wpS_pure ⟨rfl,_,_,rfl,by omega,a2,by omega,fun i hi'=>mono i _ (by omega) (by omega) e,a5⟩
   |false=>
    simp only[Bool.false_eq_true,if_false];refine wpS_pure ⟨rfl,_,_,rfl,by omega,by omega,by omega,a4,fun i h3 h4=>?_⟩
    cases e2:B i with
    |false=>rfl
    |true=>rw[mono _ i h3 h4 e2]at e;cases e
theorem sB{left:Bool}{key:Keyed}{arr:Array Keyed}{base n hint:Nat}{B:Nat->Bool}{Q:Option Nat->SortSt->Prop}(hh:hint<n)
  (hb:∀i,i<n->∀Q:Option Bool->SortSt->Prop,Q (some (B i)) st->wpS M A E s (gh left key arr base i) Q st) (mono:∀i j,i<=j->j<n->B j=true->B i=true)
  (h:∀r,r<=n->(∀i,i<r->B i=true)->(∀i,r<=i->i<n->B i=false)->Q (some r) st) :
  wpS M A E s (dl left key arr base n hint) Q st:=by
 rw[tL];refine wpS_bind (hb hint hh _ ?_);dsimp only;cases e:B hint with
 |true=>
  simp only[if_true];refine wpS_bind (wpS_mono (wpS_forRange (I:=fun t c st'=>st'=st/\∃last ofs,c=(none,last,ofs)/\last<ofs/\t+1<=ofs/\hint+last<n/\B (hint+last)=true)
   (Q:=fun c st'=>st'=st/\∃last ofs,c=(none,last,ofs)/\last<ofs/\hint+last<n/\B (hint+last)=true/\(n-hint<=ofs\/B (hint+ofs)=false)) ?step ?fin ⟨rfl,0,1,rfl,by omega,by omega,by omega,by simpa using e⟩) ?post)
  case fin=>
   rintro c st' ⟨rfl,last,ofs,rfl,a1,a2,a3,a4⟩;exact⟨rfl,last,ofs,rfl,a1,a3,a4,.inl (by omega)⟩
  case step=>
   rintro t c st' _ ht ⟨rfl,last,ofs,rfl,a1,a2,a3,a4⟩;dsimp only;by_cases q:ofs>=n-hint
   ·rw[if_pos q]
    exact wpS_pure ⟨rfl,last,ofs,rfl,a1,a3,a4,.inl q⟩
   ·rw[if_neg q]
    refine wpS_bind (hb _ (by omega) _ ?_);dsimp only;cases e2:B (hint+ofs)with
    |false=>
     simp only[Bool.not_false,if_true];exact wpS_pure ⟨rfl,last,ofs,rfl,a1,a3,a4,.inr e2⟩
    |true=>
     simp only[Bool.not_true,Bool.false_eq_true,if_false];exact wpS_pure ⟨rfl,ofs,2*ofs+1,rfl,by omega,by omega,by omega,e2⟩
  case post=>
   rintro c st' ⟨rfl,last,ofs,rfl,a1,a3,a4,a5⟩;dsimp only;refine wpS_bind (km (lo:=hint+last+1) (hi:=hint+min ofs (n-hint)) hb mono (by omega) (by omega) (fun i hi=>mono i _ (by omega) a3 a4) (fun i h3 h4=>?_) fun r r1 r2 r3=>?_)
   ·rcases a5 with a5|a5
    ·omega
    ·cases e2:B i with
     |false=>rfl
     |true=>rw[mono _ i (by omega) h4 e2]at a5;cases a5
   ·exact wpS_pure (h r r1 r2 r3)
 |false=>
  simp only[Bool.false_eq_true,if_false];refine wpS_bind (wpS_mono (wpS_forRange (I:=fun t c st'=>st'=st/\∃last ofs,c=(none,last,ofs)/\last<ofs/\t+1<=ofs/\last<=hint/\B (hint-last)=false)
   (Q:=fun c st'=>st'=st/\∃last ofs,c=(none,last,ofs)/\last<ofs/\last<=hint/\B (hint-last)=false/\(hint+1<=ofs\/B (hint-ofs)=true)) ?step ?fin ⟨rfl,0,1,rfl,by omega,by omega,by omega,by simpa using e⟩) ?post)
  case fin=>
   rintro c st' ⟨rfl,last,ofs,rfl,a1,a2,a3,a4⟩;exact⟨rfl,last,ofs,rfl,a1,a3,a4,.inl (by omega)⟩
  case step=>
   rintro t c st' _ ht ⟨rfl,last,ofs,rfl,a1,a2,a3,a4⟩;dsimp only;by_cases q:ofs>=hint+1
   ·rw[if_pos q]
    exact wpS_pure ⟨rfl,last,ofs,rfl,a1,a3,a4,.inl q⟩
   ·rw[if_neg q]
    refine wpS_bind (hb _ (by omega) _ ?_);dsimp only;cases e2:B (hint-ofs)with
    |true=>
     simp only[if_true];exact wpS_pure ⟨rfl,last,ofs,rfl,a1,a3,a4,.inr e2⟩
    |false=>
     simp only[Bool.false_eq_true,if_false];exact wpS_pure ⟨rfl,ofs,2*ofs+1,rfl,by omega,by omega,by omega,e2⟩
  case post=>
   rintro c st' ⟨rfl,last,ofs,rfl,a1,a3,a4,a5⟩;dsimp only;refine wpS_bind (km (lo:=hint+1-min ofs (hint+1)) (hi:=hint-last) hb mono (by omega) (by omega) (fun i hi=>?_) (fun i h3 h4=>?_) fun r r1 r2 r3=>?_)
   ·rcases a5 with a5|a5
    ·omega
    ·exact mono i _ (by omega) (by omega) a5
   ·cases e2:B i with
    |false=>rfl
    |true=>rw[mono _ i (by omega) h4 e2]at a4;cases a4
   ·exact wpS_pure (h r r1 r2 r3)
end
section
variable{κ:Keyed->Int}{all out l ra rb:List Keyed}{m:Keyed}
def Asc(κ:Keyed->Int)(l:List Keyed):Prop:=l.Pairwise fun x y=>κ x <= κ y
theorem Asc.app(h1:Asc κ l)(h2:Asc κ ra)(h:∀x∈l,∀y∈ra,κ x <= κ y):Asc κ (l++ra):=List.pairwise_append.mpr ⟨h1,h2,h⟩
theorem Asc.left(h:Asc κ (l++ra)):Asc κ l:=(List.pairwise_append.mp h).1
theorem Asc.right(h:Asc κ (l++ra)):Asc κ ra:=(List.pairwise_append.mp h).2.1
theorem Asc.mid(h:Asc κ (l++ra)):∀x∈l,∀y∈ra,κ x <= κ y:=(List.pairwise_append.mp h).2.2
structure LI (κ:Keyed->Int) (all out ra rb:List Keyed):Prop where
 pm:(out++(ra++rb)).Perm all
 so:Asc κ out
 le:∀x∈out,∀y∈ra++rb,κ x <= κ y
 sa:Asc κ ra
 sb:Asc κ rb
theorem LI.mvA(h:LI κ all out (l++ra) rb)(q:∀x∈l,∀y∈rb,κ x <= κ y):LI κ all (out++l) ra rb where
 pm:=by
  have:=h.pm;simpa[List.append_assoc]using this
 so:=h.so.app h.sa.left fun x hx y hy=>h.le x hx y (by simp[hy])
 le x hx y hy:=by
  rcases List.mem_append.mp hx with hx|hx
  ·exact h.le x hx y (by simp at hy ⊢;rcases hy with hy|hy<;>simp[hy])
  ·rcases List.mem_append.mp hy with hy|hy
   ·exact h.sa.mid x hx y hy
   ·exact q x hx y hy
 sa:=h.sa.right
 sb:=h.sb
theorem LI.swap(h:LI κ all out ra rb):LI κ all out rb ra where
 pm:=((List.Perm.refl out).append List.perm_append_comm).trans h.pm
 so:=h.so
 le x hx y hy:=h.le x hx y (by simp at hy ⊢;exact hy.symm)
 sa:=h.sb
 sb:=h.sa
theorem LI.mvB(h:LI κ all out ra (l++rb))(q:∀x∈l,∀y∈ra,κ x <= κ y):LI κ all (out++l) ra rb:=(h.swap.mvA q).swap
theorem LI.endA(h:LI κ all out ra []):(out++ra).Perm all/\Asc κ (out++ra):=⟨by simpa using h.pm,h.so.app h.sa fun x hx y hy=>h.le x hx y (by simp[hy])⟩
theorem LI.endB(h:LI κ all out [] rb):(out++rb).Perm all/\Asc κ (out++rb):=h.swap.endA
theorem LI.last(h:LI κ all out [m] rb)(q:∀y∈rb,κ y <= κ m):(out++(rb++[m])).Perm all/\Asc κ (out++(rb++[m])):=
 ⟨h.swap.pm,h.so.app (h.sb.app (List.pairwise_singleton _ _) fun x hx y hy=>by rw[List.mem_singleton.mp hy];exact q x hx) fun x hx y hy=>h.le x hx y (by simp at hy ⊢;exact hy.symm)⟩
end
section
variable{M:Model}{A:Around}{E:Value->Shared->Prop}{s:Shared}{κ:Keyed->Int}{S:Keyed->Prop}{kd:SortKind}
def du(M:Model)(A:Around)(E:Value->Shared->Prop)(s:Shared)(kd:SortKind)(κ:Keyed->Int)(S:Keyed->Prop):Prop:=
 ∀x y,S x->S y->∀(st:SortSt) (Q:Option Bool->SortSt->Prop),kindOf st=kd->Q (some (decide (κ x < κ y))) st->wpS M A E s (lt' x y) Q st
theorem aM{arr:Array Keyed}{i:Nat}{x:Keyed}{st:SortSt}{Q:Keyed->SortSt->Prop}(h:arr[i]? = some x)(q:Q x st):wpS M A E s (elem' arr i) Q st:=by
 rw[elem'_eq,h];exact wpS_pure q
structure Stretch (κ:Keyed->Int) (S:Keyed->Prop) (arr:Array Keyed) (base n:Nat) (l:List Keyed):Prop where
 eq:(arr.toList.drop base).take n=l
 len:l.length=n
 all:∀x∈l,S x
 asc:Asc κ l
theorem Stretch.get{arr:Array Keyed}{base n:Nat}{l:List Keyed}(h:Stretch κ S arr base n l){i:Nat}(hi:i<l.length):arr[base+i]? = some l[i]:=by
 have e:((arr.toList.drop base).take n)[i]? = l[i]?:=by rw[h.eq]
 rw[List.getElem?_take_of_lt (by have:=h.len;omega),List.getElem?_drop,Array.getElem?_toList,List.getElem?_eq_getElem hi]at e;exact e
theorem Aj(T:du M A E s kd κ S){left:Bool}{key:Keyed}{arr:Array Keyed}{base i:Nat}{x:Keyed}{st:SortSt}{Q:Option Bool->SortSt->Prop}(hk:S key)(hx:arr[base+i]? = some x)(sx:S x)(ek:kindOf st=kd)
  (q:Q (some (if left=true then decide (κ x < κ key)else !decide (κ key < κ x))) st):wpS M A E s (gh left key arr base i) Q st:=by
 unfold gh;refine wpS_bind (aM hx ?_);cases left with
 |true=>
  simp only[if_true]at q ⊢;exact T x key sx hk st _ ek q
 |false=>
  simp only[Bool.false_eq_true,if_false]at q ⊢;exact wpS_bind (T key x hk sx st _ ek (wpS_pure q))
theorem gZ(T:du M A E s kd κ S){left:Bool}{key:Keyed}{arr:Array Keyed}{base n hint:Nat}{l:List Keyed}{st:SortSt}{Q:Option Nat->SortSt->Prop}(hs:Stretch κ S arr base n l)(hk:S key)(ek:kindOf st=kd)(hh:hint<n)
  (h:∀l1 l2,l=l1++l2->(∀x∈l1,if left=true then κ x < κ key else κ x <= κ key)->(∀x∈l2,if left=true then κ key <= κ x else κ key < κ x)->Q (some l1.length) st) :
  wpS M A E s (dl left key arr base n hint) Q st:=by
 have hl:=hs.len;refine sB (B:=fun i=>if left=true then decide (κ (l.getD i key) < κ key)else !decide (κ key < κ (l.getD i key))) hh (fun i hi Q' q=>?_) (fun i j hij hj e=>?_) fun r hr r1 r2=>?_
 ·have e:l.getD i key=l[i]:=by simp[hl,hi]
  rw[e]at q;exact Aj T hk (hs.get (by omega)) (hs.all _ (List.getElem_mem _)) ek q
 ·have e1:l.getD i key=l[i]'(by omega):=by simp[hl,show i<n by omega]
  have e2:l.getD j key=l[j]'(by omega):=by simp[hl,hj]
  have c:κ (l[i]'(by omega)) <= κ (l[j]'(by omega)):=by
   rcases Nat.lt_or_ge i j with q|q
   ·exact List.pairwise_iff_getElem.mp hs.asc i j (by omega) (by omega) q
   ·have:i=j:=by omega
    subst this;exact Int.le_refl _
  rw[e1];rw[e2]at e;cases left with
  |true=>simp only[if_true,decide_eq_true_eq]at e ⊢;omega
  |false=>
   simp only[Bool.false_eq_true,if_false,Bool.not_eq_true',decide_eq_false_iff_not]at e ⊢;omega
 ·have:=h (l.take r) (l.drop r) (List.take_append_drop r l).symm (fun x hx=>?_) (fun x hx=>?_)
  ·rw[List.length_take,hl,Nat.min_eq_left hr]at this;exact this
  ·obtain⟨i,hi,rfl⟩:=List.mem_iff_getElem.mp hx
   rw[List.length_take]at hi;have q:=r1 i (by omega);have e:l.getD i key=l[i]'(by omega):=by simp[hl,show i<n by omega]
   rw[e]at q;rw[List.getElem_take];cases left with
   |true=>simpa using q
   |false=>simpa using q
  ·obtain⟨i,hi,rfl⟩:=List.mem_iff_getElem.mp hx
   rw[List.length_drop]at hi;have q:=r2 (r+i) (by omega) (by omega);have e:l.getD (r+i) key=l[r+i]'(by omega):=by simp[hl,show r+i<n by omega]
   rw[e]at q;rw[List.getElem_drop];cases left with
   |true=>simpa using q
   |false=>simpa using q
end
theorem q9(a b:Array Keyed):lQ a b=(do
 rule "list.sort.merge-lo"
 let mut out:Array Keyed:=#[<-elem' b 0]
 let mut ia:=0
 let mut ib:=1
 if ib==b.size then return out++a.extract ia a.size++b.extract ib b.size
 if ia+1==a.size then return out++b.extract ib b.size++a.extract ia a.size
 let mut minGallop:=gallopOf (<-get)
 for _ in [0:a.size+b.size] do
  let mut acount:=0
  let mut bcount:=0
  for _ in [0:a.size+b.size] do
   let some bWins <-lt' (<-elem' b ib) (<-elem' a ia)|return out++a.extract ia a.size++b.extract ib b.size
   if bWins then
    out:=out.push (<-elem' b ib);ib:=ib+1;bcount:=bcount+1;acount:=0
    if ib==b.size then return out++a.extract ia a.size++b.extract ib b.size
    if bcount>=minGallop then break
   else
    out:=out.push (<-elem' a ia);ia:=ia+1;acount:=acount+1;bcount:=0
    if ia+1==a.size then return out++b.extract ib b.size++a.extract ia a.size
    if acount>=minGallop then break
  rule "list.sort.gallop"
  minGallop:=minGallop+1
  for _ in [0:a.size+b.size] do
   if minGallop>1 then minGallop:=minGallop-1
   cR minGallop
   let some k <-dl false (<-elem' b ib) a ia (a.size-ia) 0|return out++a.extract ia a.size++b.extract ib b.size
   acount:=k
   if k>0 then
    out:=out++a.extract ia (ia+k);ia:=ia+k
    if ia+1==a.size then return out++b.extract ib b.size++a.extract ia a.size
    if ia==a.size then return out++a.extract ia a.size++b.extract ib b.size
   out:=out.push (<-elem' b ib);ib:=ib+1
   if ib==b.size then return out++a.extract ia a.size++b.extract ib b.size
   let some k <-dl true (<-elem' a ia) b ib (b.size-ib) 0|return out++a.extract ia a.size++b.extract ib b.size
   bcount:=k
   if k>0 then
    out:=out++b.extract ib (ib+k);ib:=ib+k
    if ib==b.size then return out++a.extract ia a.size++b.extract ib b.size
   out:=out.push (<-elem' a ia);ia:=ia+1
   if ia+1==a.size then return out++b.extract ib b.size++a.extract ia a.size
   if acount<7&&bcount<7 then break
  minGallop:=minGallop+1
  cR minGallop
 unsupported "internal:list.sort.merge-bound"):=rfl
section
variable{M:Model}{A:Around}{E:Value->Shared->Prop}{s:Shared}{κ:Keyed->Int}{S:Keyed->Prop}{kd:SortKind}
def SameBut(st st':SortSt):Prop:=kindOf st'=kindOf st/\arrOf st'=arrOf st/\pendingOf st'=pendingOf st/\failedOf st'=failedOf st
theorem SameBut.refl(st:SortSt):SameBut st st:=⟨rfl,rfl,rfl,rfl⟩
theorem iN{st0 st:SortSt}{g:Nat}{Q:Unit->SortSt->Prop}(sm:SameBut st0 st)(q:∀st',SameBut st0 st'->Q () st'):wpS M A E s (cR g) Q st:=by
 show wpS M A E s (modify fun x=>SortSt.mk' (kindOf x) (arrOf x) (pendingOf x) g (failedOf x)) Q st
 exact wpS_modify (q _ sm)
def MI(κ:Keyed->Int)(a b out:Array Keyed)(ia ib:Nat):Prop:=LI κ (a.toList++b.toList) out.toList (a.toList.drop ia) (b.toList.drop ib)
def iL(κ:Keyed->Int)(a b out:Array Keyed):Prop:=out.toList.Perm (a.toList++b.toList)/\Asc κ out.toList
variable{a b out:Array Keyed}{ia ib:Nat}
theorem jo{xs:Array Keyed}{i:Nat}{x:Keyed}(h:xs[i]? = some x):xs.toList.drop i=[x]++xs.toList.drop (i+1):=by
 rw[<-Array.getElem?_toList]at h;obtain⟨q,e⟩:=List.getElem?_eq_some_iff.mp h;rw[List.drop_eq_getElem_cons q,e];rfl
theorem dJ{xs:Array Keyed}{i:Nat}(h:i<xs.size):∃x,xs[i]? = some x:=⟨xs[i],Array.getElem?_eq_getElem h⟩
theorem jp{xs:Array Keyed}{i k:Nat}{l1 l2:List Keyed}(h:xs.toList.drop i=l1++l2)(hk:l1.length=k):(xs.extract i (i+k)).toList=l1/\xs.toList.drop (i+k)=l2:=by
 constructor
 ·rw[Array.toList_extract,List.extract_eq_drop_take,h,show i+k-i=k by omega,<-hk,List.take_left]
 ·rw[<-List.drop_drop,h,<-hk,List.drop_left]
theorem BL{xs:Array Keyed}(i:Nat):(xs.extract i xs.size).toList=xs.toList.drop i:=by
 rw[Array.toList_extract,List.extract_eq_drop_take,List.take_of_length_le (by simp)]
theorem MI.pushB(h:MI κ a b out ia ib){y:Keyed}(hy:b[ib]? = some y)(q:∀x∈a.toList.drop ia,κ y <= κ x):MI κ a b (out.push y) ia (ib+1):=by
 unfold MI at h ⊢;rw[jo hy]at h;rw[Array.toList_push];exact h.mvB fun x hx z hz=>by rw[List.mem_singleton.mp hx];exact q z hz
theorem MI.pushA(h:MI κ a b out ia ib){y:Keyed}(hy:a[ia]? = some y)(q:∀x∈b.toList.drop ib,κ y <= κ x):MI κ a b (out.push y) (ia+1) ib:=by
 unfold MI at h ⊢;rw[jo hy]at h;rw[Array.toList_push];exact h.mvA fun x hx z hz=>by rw[List.mem_singleton.mp hx];exact q z hz
theorem MI.appA(h:MI κ a b out ia ib){l1 l2:List Keyed}(e:a.toList.drop ia=l1++l2)(q:∀x∈l1,∀y∈b.toList.drop ib,κ x <= κ y):MI κ a b (out++a.extract ia (ia+l1.length)) (ia+l1.length) ib:=by
 obtain⟨e1,e2⟩:=jp e rfl;unfold MI at h ⊢;rw[Array.toList_append,e1,e2];rw[e]at h;exact h.mvA q
theorem MI.appB(h:MI κ a b out ia ib){l1 l2:List Keyed}(e:b.toList.drop ib=l1++l2)(q:∀x∈l1,∀y∈a.toList.drop ia,κ x <= κ y):MI κ a b (out++b.extract ib (ib+l1.length)) ia (ib+l1.length):=by
 obtain⟨e1,e2⟩:=jp e rfl;unfold MI at h ⊢;rw[Array.toList_append,e1,e2];rw[e]at h;exact h.mvB q
theorem MI.done(h:MI κ a b out ia ib)(e:ib=b.size\/ia=a.size):iL κ a b (out++a.extract ia a.size++b.extract ib b.size):=by
 unfold iL;unfold MI at h;rw[Array.toList_append,Array.toList_append,BL,BL];rcases e with e|e
 ·have:b.toList.drop ib=[]:=by rw[e];exact List.drop_of_length_le (by simp)
  rw[this]at h ⊢;rw[List.append_nil];exact h.endA
 ·have:a.toList.drop ia=[]:=by rw[e];exact List.drop_of_length_le (by simp)
  rw[this]at h ⊢;rw[List.append_nil];exact h.endB
theorem MI.last(h:MI κ a b out ia ib)(e:ia+1=a.size)(q:∀x,a[a.size-1]? = some x->∀y∈b.toList,κ y <= κ x):iL κ a b (out++b.extract ib b.size++a.extract ia a.size):=by
 unfold iL;obtain⟨x,hx⟩:=dJ (xs:=a) (i:=ia) (by omega);have hd:=jo hx;have:a.toList.drop (ia+1)=[]:=by rw[e];exact List.drop_of_length_le (by simp)
 rw[this,List.append_nil]at hd;unfold MI at h;rw[Array.toList_append,Array.toList_append,BL,BL,hd,List.append_assoc];rw[hd]at h;exact h.last fun y hy=>q x (by rw[show a.size-1=ia by omega];exact hx) y (List.mem_of_mem_drop hy)
end
section
variable{M:Model}{A:Around}{E:Value->Shared->Prop}{s:Shared}{κ:Keyed->Int}{S:Keyed->Prop}{kd:SortKind}
variable{a b:Array Keyed}
theorem Asc.rest{xs:Array Keyed}(h:Asc κ xs.toList)(i:Nat):Asc κ (xs.toList.drop i):=List.Pairwise.drop h
theorem jy{xs:Array Keyed}(h:Asc κ xs.toList){i:Nat}{x:Keyed}(e:xs[i]? = some x):∀y∈xs.toList.drop i,κ x <= κ y:=fun y hy=>by
 have q:=h.rest i;rw[jo e]at q hy;rcases List.mem_append.mp hy with hy|hy
 ·rw[List.mem_singleton.mp hy];exact Int.le_refl _
 ·exact q.mid x (List.mem_singleton.mpr rfl) y hy
theorem eJ{xs:Array Keyed}{i:Nat}{x:Keyed}(e:xs[i]? = some x):x∈xs.toList:=by
 rw[<-Array.getElem?_toList]at e;exact List.mem_of_getElem? e
theorem ut{xs:Array Keyed}(h:Asc κ xs.toList)(hS:∀x∈xs.toList,S x)(i:Nat):Stretch κ S xs i (xs.size-i) (xs.toList.drop i) where
 eq:=List.take_of_length_le (by simp)
 len:=by simp
 all x hx:=hS x (List.mem_of_mem_drop hx)
 asc:=h.rest i
def zI(κ:Keyed->Int)(a b:Array Keyed)(B:Nat)(ro:Option (Array Keyed))(out:Array Keyed)(ia ib:Nat):Prop:=
 (∃r,ro=some r/\iL κ a b r)\/(ro=none/\MI κ a b out ia ib/\ia+1<a.size/\ib<b.size/\(a.size-ia)+(b.size-ib)<=B)
abbrev Gs:Type:=Option (Array Keyed)×Array Keyed×Nat×Nat×Nat×Nat×Nat
def GsQ(κ:Keyed->Int)(a b:Array Keyed)(B:Nat)(st:SortSt)(r:ForInStep Gs)(st':SortSt):Prop:=SameBut st st'/\match r with
 |.done c=>zI κ a b B c.1 c.2.1 c.2.2.1 c.2.2.2.1
 |.yield c=>c.1=none/\zI κ a b B c.1 c.2.1 c.2.2.1 c.2.2.2.1
noncomputable def G0(a b out:Array Keyed)(ia ib g k k1:Nat):StateT SortSt Sem (ForInStep Gs):=do
 let x <-elem' a ia
 if(ia+1+1==a.size)=true then pure (.done (some (out.push x++b.extract ib b.size++a.extract (ia+1) a.size),out.push x,ia+1,ib,g,k,k1))
 else if(decide (k<7)&&decide (k1<7))=true then pure (.done (none,out.push x,ia+1,ib,g,k,k1))else pure (.yield (none,out.push x,ia+1,ib,g,k,k1))
noncomputable def Jo(a b out:Array Keyed)(ia ib g k n2:Nat):StateT SortSt Sem (ForInStep Gs):=do
 let y <-elem' b ib
 if(ib+1==b.size)=true then pure (.done (some (out.push y++a.extract ia a.size++b.extract (ib+1) b.size),out.push y,ia,ib+1,g,k,n2))
 else do
  let x <-elem' a ia
  let r <-dl true x b (ib+1) (b.size-(ib+1)) 0
  match r with
  |some k1=>
   if k1>0 then
    if(ib+1+k1==b.size)=true then pure (.done (some (out.push y++b.extract (ib+1) (ib+1+k1)++a.extract ia a.size++b.extract (ib+1+k1) b.size),out.push y++b.extract (ib+1) (ib+1+k1),ia,ib+1+k1,g,k,k1))
    else G0 a b (out.push y++b.extract (ib+1) (ib+1+k1)) ia (ib+1+k1) g k k1
   else G0 a b (out.push y) ia (ib+1) g k k1
  |_=>pure (.done (some (out.push y++a.extract ia a.size++b.extract (ib+1) b.size),out.push y,ia,ib+1,g,k,n2))
theorem yw{st st':SortSt}{out:Array Keyed}{ia ib g k k1 B:Nat}{x:Keyed}(m:MI κ a b out ia ib)(hx:a[ia]? = some x)(q:∀z∈b.toList.drop ib,κ x <= κ z)(hl:∀x,a[a.size-1]? = some x->∀y∈b.toList,κ y <= κ x)(p1:ia+1<a.size)(p2:ib<b.size)(p3:(a.size-ia)+(b.size-ib)<=B)(sm:SameBut st st'):
  wpS M A E s (G0 a b out ia ib g k k1) (GsQ κ a b B st) st':=by
 unfold G0;refine wpS_bind (aM hx ?_);have m':=m.pushA hx q;by_cases c:(ia+1+1==a.size)=true
 ·rw[if_pos c]
  exact wpS_pure ⟨sm,.inl ⟨_,rfl,m'.last (by simpa using c) hl⟩⟩
 rw[if_neg c];have c:ia+1+1≠a.size:=by simpa using c
 have pt:zI κ a b B none (out.push x) (ia+1) ib:=.inr ⟨rfl,m',by omega,p2,by omega⟩;split
 ·exact wpS_pure ⟨sm,pt⟩
 ·exact wpS_pure ⟨sm,rfl,pt⟩
theorem yy(T:du M A E s kd κ S){st st':SortSt}{out:Array Keyed}{ia ib g k n2 B:Nat}{y:Keyed}(sa:Asc κ a.toList)(sb:Asc κ b.toList)(Sa:∀x∈a.toList,S x)(Sb:∀x∈b.toList,S x)(m:MI κ a b out ia ib)(hy:b[ib]? = some y)(q:∀z∈a.toList.drop ia,κ y <= κ z)(hl:∀x,a[a.size-1]? = some x->∀y∈b.toList,κ y <= κ x)
  (p1:ia+1<a.size) (p2:ib<b.size) (p3:(a.size-ia)+(b.size-ib)<=B) (sm:SameBut st st') (ek:kindOf st=kd):wpS M A E s (Jo a b out ia ib g k n2) (GsQ κ a b B st) st':=by
 unfold Jo;refine wpS_bind (aM hy ?_);have mB:=m.pushB hy q;by_cases c3:(ib+1==b.size)=true
 ·rw[if_pos c3]
  exact wpS_pure ⟨sm,.inl ⟨_,rfl,mB.done (.inl (by simpa using c3))⟩⟩
 rw[if_neg c3];have c3:ib+1≠b.size:=by simpa using c3
 obtain⟨x,hx⟩:=dJ (xs:=a) (i:=ia) (by omega);refine wpS_bind (aM hx ?_);refine wpS_bind (gZ T (ut sb Sb (ib+1)) (Sa x (eJ hx)) (sm.1.trans ek) (by omega) fun k1 k2 ek2 f1 f2=>?_)
 simp only[if_true]at f1 f2;dsimp only;rcases Nat.eq_zero_or_pos k1.length with h1|h1
 ·rw[if_neg (by omega)]
  have:k1=[]:=List.length_eq_zero_iff.mp h1;subst this;exact yw mB hx (fun z hz=>f2 z (by rw[ek2,List.nil_append]at hz;exact hz)) hl p1 (by omega) (by omega) sm
 ·rw[if_pos h1]
  have mC:=mB.appB ek2 fun z hz u hu=>Int.le_trans (Int.le_of_lt (f1 z hz)) (jy sa hx u hu)
  have ln:k1.length+k2.length=b.size-(ib+1):=by
   have:=congrArg List.length ek2;rw[List.length_append,List.length_drop,Array.length_toList]at this;exact this.symm
  by_cases c4:(ib+1+k1.length==b.size)=true
  ·rw[if_pos c4]
   exact wpS_pure ⟨sm,.inl ⟨_,rfl,mC.done (.inl (by simpa using c4))⟩⟩
  rw[if_neg c4];have c4:ib+1+k1.length≠b.size:=by simpa using c4
  exact yw mC hx (fun z hz=>f2 z (by rw[(jp ek2 rfl).2]at hz;exact hz)) hl p1 (by omega) (by omega) sm
theorem GsQ.y{B:Nat}{st st':SortSt}{c:Gs}(h:GsQ κ a b B st (.yield c) st'):SameBut st st'/\∃out ia ib g x y,c=(none,out,ia,ib,g,x,y)/\MI κ a b out ia ib/\ia+1<a.size/\ib<b.size/\(a.size-ia)+(b.size-ib)<=B:=by
 obtain⟨sm,e,pt⟩:=h;obtain⟨ro,out,ia,ib,g,x,y⟩:=c;have e:ro=none:=e;subst e;rcases pt with⟨r,e,_⟩|⟨_,m,p1,p2,p3⟩
 ·cases e
 ·exact⟨sm,out,ia,ib,g,x,y,rfl,m,p1,p2,p3⟩
theorem qm(T:du M A E s kd κ S){st:SortSt}{Q:Array Keyed->SortSt->Prop}(sa:Asc κ a.toList)(sb:Asc κ b.toList)(Sa:∀x∈a.toList,S x)(Sb:∀x∈b.toList,S x)(na:1<=a.size)(nb:1<=b.size)
  (h0:∀y,b[0]? = some y->∀x∈a.toList,κ y <= κ x) (hl:∀x,a[a.size-1]? = some x->∀y∈b.toList,κ y <= κ x) (ek:kindOf st=kd) (h:∀out st',iL κ a b out->SameBut st st'->Q out st'):wpS M A E s (lQ a b) Q st:=by
 rw[q9];refine wpS_bind (wpS_lift (wpAny_rule ⟨rfl,?_⟩));obtain⟨y0,hy0⟩:=dJ (xs:=b) (i:=0) (by omega);refine wpS_bind (aM hy0 ?_);dsimp only;have m0:MI κ a b #[] 0 0:=⟨by simp,List.Pairwise.nil,fun x hx=>by simp at hx,sa,sb⟩
 have m1:MI κ a b #[y0] 0 1:=m0.pushB hy0 fun x hx=>h0 y0 hy0 x hx
 by_cases c1:(1==b.size)=true
 ·rw[if_pos c1]
  exact wpS_pure (h _ _ (m1.done (.inl (by simpa using c1))) (.refl _))
 rw[if_neg c1];have c1:1≠b.size:=by simpa using c1
 by_cases c2:(0+1==a.size)=true
 ·rw[if_pos c2]
  exact wpS_pure (h _ _ (m1.last (by simpa using c2) hl) (.refl _))
 rw[if_neg c2];have c2:0+1≠a.size:=by simpa using c2
 refine wpS_bind (wpS_get ?_);refine wpS_bind (wpS_mono (wpS_forRange (I:=fun t c st'=>SameBut st st'/\∃out ia ib g,c=(none,out,ia,ib,g)/\MI κ a b out ia ib/\ia+1<a.size/\ib<b.size/\(a.size-ia)+(b.size-ib)+t+1<=a.size+b.size)
  (Q:=fun c st'=>SameBut st st'/\∃r,c.1=some r/\iL κ a b r) ?step ?fin ⟨.refl _,_,_,_,_,rfl,m1,by omega,by omega,by omega⟩) ?post)
 case fin=>
  rintro c st' ⟨sm,out,ia,ib,g,rfl,m,p1,p2,p3⟩;omega
 case post=>
  rintro c st' ⟨sm,r,e,g⟩;rw[e];exact wpS_pure (h r st' g sm)
 case step=>
  rintro t c st1 _ ht ⟨sm1,out,ia,ib,g,rfl,m,p1,p2,p3⟩;dsimp only;refine wpS_bind (wpS_mono (wpS_forRange (I:=fun u c st'=>SameBut st st'/\∃out ia ib x y,c=(none,out,ia,ib,x,y)/\MI κ a b out ia ib/\ia+1<a.size/\ib<b.size/\(a.size-ia)+(b.size-ib)+t+1+min u 1<=a.size+b.size)
   (Q:=fun c st'=>SameBut st st'/\zI κ a b (a.size+b.size-t-2) c.1 c.2.1 c.2.2.1 c.2.2.2.1) ?step1 ?fin1 ⟨sm1,_,_,_,_,_,rfl,m,p1,p2,by omega⟩) ?post1)
  case fin1=>
   rintro c st' ⟨sm,out,ia,ib,x,y,rfl,m,p1,p2,p3⟩;exact⟨sm,.inr ⟨rfl,m,p1,p2,show a.size-ia+(b.size-ib)<=_ by omega⟩⟩
  case step1=>
   rintro u c st2 _ hu ⟨sm2,out,ia,ib,n1,n2,rfl,m,p1,p2,p3⟩;dsimp only;obtain⟨y,hy⟩:=dJ (xs:=b) (i:=ib) p2;obtain⟨x,hx⟩:=dJ (xs:=a) (i:=ia) (by omega);refine wpS_bind (aM hy (wpS_bind (aM hx (wpS_bind (T y x (Sb y (eJ hy)) (Sa x (eJ hx)) st2 _ (sm2.1.trans ek) ?_)))));dsimp only;by_cases q:κ y < κ x
   ·simp only[q,decide_true,if_true]
    refine wpS_bind (aM hy ?_);have m':=m.pushB hy fun z hz=>Int.le_trans (Int.le_of_lt q) (jy sa hx z hz)
    by_cases c3:(ib+1==b.size)=true
    ·rw[if_pos c3]
     exact wpS_pure ⟨sm2,.inl ⟨_,rfl,m'.done (.inl (by simpa using c3))⟩⟩
    rw[if_neg c3];have c3:ib+1≠b.size:=by simpa using c3
    split
    ·exact wpS_pure ⟨sm2,.inr ⟨rfl,m',p1,show ib+1<b.size by omega,show a.size-ia+(b.size-(ib+1))<=_ by omega⟩⟩
    ·exact wpS_pure ⟨sm2,_,_,_,_,_,rfl,m',p1,by omega,by omega⟩
   ·simp only[q,decide_false,Bool.false_eq_true,if_false]
    refine wpS_bind (aM hx ?_);have m':=m.pushA hx fun z hz=>Int.le_trans (Int.not_lt.mp q) (jy sb hy z hz)
    by_cases c3:(ia+1+1==a.size)=true
    ·rw[if_pos c3]
     exact wpS_pure ⟨sm2,.inl ⟨_,rfl,m'.last (by simpa using c3) hl⟩⟩
    rw[if_neg c3];have c3:ia+1+1≠a.size:=by simpa using c3
    split
    ·exact wpS_pure ⟨sm2,.inr ⟨rfl,m',show ia+1+1<a.size by omega,p2,show a.size-(ia+1)+(b.size-ib)<=_ by omega⟩⟩
    ·exact wpS_pure ⟨sm2,_,_,_,_,_,rfl,m',by omega,p2,by omega⟩
  case post1=>
   rintro⟨ro,out,ia,ib,n1,n2⟩ st2 ⟨sm2,pt⟩;rcases pt with⟨r,e,gd⟩|⟨e,m,p1,p2,p3⟩
   ·have e:ro=some r:=e
    subst e;exact wpS_pure ⟨sm2,r,rfl,gd⟩
   have e:ro=none:=e;subst e;dsimp only at m p1 p2 p3 ⊢;refine wpS_bind (wpS_lift (wpAny_rule ⟨rfl,?_⟩));refine wpS_bind (wpS_mono (wpS_forRange (I:=fun u c st'=>SameBut st st'/\∃out ia ib g x y,c=(none,out,ia,ib,g,x,y)/\MI κ a b out ia ib/\ia+1<a.size/\ib<b.size/\(a.size-ia)+(b.size-ib)<=a.size+b.size-t-2)
    (Q:=fun c st'=>SameBut st st'/\zI κ a b (a.size+b.size-t-2) c.1 c.2.1 c.2.2.1 c.2.2.2.1) ?step2 ?fin2 ⟨sm2,_,_,_,_,_,_,rfl,m,p1,p2,p3⟩) ?post2)
   case fin2=>
    rintro c st' ⟨sm,out,ia,ib,g,x,y,rfl,m,p1,p2,p3⟩;exact⟨sm,.inr ⟨rfl,m,p1,p2,p3⟩⟩
   case post2=>
    rintro⟨ro,out,ia,ib,g,n1,n2⟩ st3 ⟨sm3,pt⟩;rcases pt with⟨r,e,gd⟩|⟨e,m,p1,p2,p3⟩
    ·have e:ro=some r:=e
     subst e;exact wpS_pure ⟨sm3,r,rfl,gd⟩
    have e:ro=none:=e;subst e;dsimp only at m p1 p2 p3 ⊢;exact wpS_bind (iN sm3 fun st4 sm4=>wpS_pure ⟨sm4,_,_,_,_,rfl,m,p1,p2,by omega⟩)
   case step2=>
    rintro u c st3 _ hu ⟨sm3,out,ia,ib,g,n1,n2,rfl,m,p1,p2,p3⟩;dsimp only;obtain⟨y,hy⟩:=dJ (xs:=b) (i:=ib) p2;have Sy:=Sb y (eJ hy);rcases Nat.lt_or_ge 1 g with hg|hg
    all_goals
     first
     |rw[if_pos hg]
     |rw[if_neg (Nat.not_lt.mpr hg)]
     refine wpS_bind (iN sm3 fun st4 sm4=>?_);refine wpS_bind (aM hy ?_);refine wpS_bind (gZ T (ut sa Sa ia) Sy (sm4.1.trans ek) (by omega) fun l1 l2 el e1 e2=>?_)
     simp only[Bool.false_eq_true,if_false]at e1 e2;dsimp only;rcases Nat.eq_zero_or_pos l1.length with h1|h1
     ·rw[if_neg (by omega)]
      have l1n:l1=[]:=List.length_eq_zero_iff.mp h1;subst l1n;refine wpS_mono (yy (B:=a.size+b.size-t-2) (out:=out) (ia:=ia) (ib:=ib) (k:=0) (n2:=n2) T sa sb Sa Sb m hy (fun z hz=>Int.le_of_lt (e2 z (by rw[el,List.nil_append]at hz;exact hz))) hl p1 p2 p3 sm4 ek) fun r st5 gq=>?_
      cases r with
      |done c=>exact gq
      |yield c=>exact gq.y
     ·rw[if_pos h1]
      have mA:=m.appA el fun x hx z hz=>Int.le_trans (e1 x hx) (jy sb hy z hz)
      have ln:l1.length+l2.length=a.size-ia:=by
       have:=congrArg List.length el;rw[List.length_append,List.length_drop,Array.length_toList]at this;exact this.symm
      by_cases c3:(ia+l1.length+1==a.size)=true
      ·rw[if_pos c3]
       exact wpS_pure ⟨sm4,.inl ⟨_,rfl,mA.last (by simpa using c3) hl⟩⟩
      rw[if_neg c3];by_cases c4:(ia+l1.length==a.size)=true
      ·rw[if_pos c4]
       exact wpS_pure ⟨sm4,.inl ⟨_,rfl,mA.done (.inr (by simpa using c4))⟩⟩
      rw[if_neg c4];have c3:ia+l1.length+1≠a.size:=by simpa using c3
      have c4:ia+l1.length≠a.size:=by simpa using c4
      refine wpS_mono (yy (B:=a.size+b.size-t-2) (out:=out++a.extract ia (ia+l1.length)) (ia:=ia+l1.length) (ib:=ib) (k:=l1.length) (n2:=n2) T sa sb Sa Sb mA hy (fun z hz=>Int.le_of_lt (e2 z (by rw[(jp el rfl).2]at hz;exact hz))) hl (by omega) p2 (by omega) sm4 ek) fun r st5 gq=>?_
      cases r with
      |done c=>exact gq
      |yield c=>exact gq.y
end
theorem rd(a b:Array Keyed):lR a b=(do
 rule "list.sort.merge-hi"
 let mut na:=a.size-1
 let mut nb:=b.size
 let mut out:Array Keyed:=#[<-elem' a na]
 if na==0 then return a.extract 0 na++b.extract 0 nb++out.reverse
 if nb==1 then return b.extract 0 nb++a.extract 0 na++out.reverse
 let mut minGallop:=gallopOf (<-get)
 for _ in [0:a.size+b.size] do
  let mut acount:=0
  let mut bcount:=0
  for _ in [0:a.size+b.size] do
   let some aWins <-lt' (<-elem' b (nb-1)) (<-elem' a (na-1))|return a.extract 0 na++b.extract 0 nb++out.reverse
   if aWins then
    na:=na-1;out:=out.push (<-elem' a na);acount:=acount+1;bcount:=0
    if na==0 then return a.extract 0 na++b.extract 0 nb++out.reverse
    if acount>=minGallop then break
   else
    nb:=nb-1;out:=out.push (<-elem' b nb);bcount:=bcount+1;acount:=0
    if nb==1 then return b.extract 0 nb++a.extract 0 na++out.reverse
    if bcount>=minGallop then break
  rule "list.sort.gallop"
  minGallop:=minGallop+1
  for _ in [0:a.size+b.size] do
   if minGallop>1 then minGallop:=minGallop-1
   cR minGallop
   let some at_ <-dl false (<-elem' b (nb-1)) a 0 na (na-1)|return a.extract 0 na++b.extract 0 nb++out.reverse
   let k:=na-at_
   acount:=k
   if k>0 then
    out:=out++(a.extract at_ na).reverse;na:=at_
    if na==0 then return a.extract 0 na++b.extract 0 nb++out.reverse
   nb:=nb-1;out:=out.push (<-elem' b nb)
   if nb==1 then return b.extract 0 nb++a.extract 0 na++out.reverse
   let some at_ <-dl true (<-elem' a (na-1)) b 0 nb (nb-1)|return a.extract 0 na++b.extract 0 nb++out.reverse
   let k:=nb-at_
   bcount:=k
   if k>0 then
    out:=out++(b.extract at_ nb).reverse;nb:=at_
    if nb==1 then return b.extract 0 nb++a.extract 0 na++out.reverse
    if nb==0 then return a.extract 0 na++b.extract 0 nb++out.reverse
   na:=na-1;out:=out.push (<-elem' a na)
   if na==0 then return a.extract 0 na++b.extract 0 nb++out.reverse
   if acount<7&&bcount<7 then break
  minGallop:=minGallop+1
  cR minGallop
 unsupported "internal:list.sort.merge-bound"):=rfl
section
variable{M:Model}{A:Around}{E:Value->Shared->Prop}{s:Shared}{κ:Keyed->Int}{S:Keyed->Prop}{kd:SortKind}
variable{a b out:Array Keyed}{na nb:Nat}
theorem asc_neg{l:List Keyed}:Asc (fun x=>- κ x) l↔Asc κ l.reverse:=by
 unfold Asc;rw[List.pairwise_reverse];constructor
 ·intro h;exact h.imp fun{x y} (q:- κ x <= - κ y)=>(by omega:κ y <= κ x)
 ·intro h;exact h.imp fun{x y} (q:κ y <= κ x)=>(by omega:- κ x <= - κ y)
def HI(κ:Keyed->Int)(a b out:Array Keyed)(na nb:Nat):Prop:=LI (fun x=>- κ x) (a.toList++b.toList) out.toList (a.toList.take na).reverse (b.toList.take nb).reverse
theorem iT{xs:Array Keyed}{i:Nat}{x:Keyed}(h:xs[i]? = some x):(xs.toList.take (i+1)).reverse=[x]++(xs.toList.take i).reverse:=by
 rw[<-Array.getElem?_toList]at h;rw[List.take_add_one,h];simp
theorem HI.pushB(h:HI κ a b out na (nb+1)){y:Keyed}(hy:b[nb]? = some y)(q:∀x∈a.toList.take na,κ x <= κ y):HI κ a b (out.push y) na nb:=by
 unfold HI at h ⊢;rw[iT hy]at h;rw[Array.toList_push];exact h.mvB fun x hx z hz=>by
  have:=q z (List.mem_reverse.mp hz);rw[List.mem_singleton.mp hx];omega
theorem HI.pushA(h:HI κ a b out (na+1) nb){y:Keyed}(hy:a[na]? = some y)(q:∀x∈b.toList.take nb,κ x <= κ y):HI κ a b (out.push y) na nb:=by
 unfold HI at h ⊢;rw[iT hy]at h;rw[Array.toList_push];exact h.mvA fun x hx z hz=>by
  have:=q z (List.mem_reverse.mp hz);rw[List.mem_singleton.mp hx];omega
theorem iU{xs:Array Keyed}{n:Nat}{l1 l2:List Keyed}(hn:n<=xs.size)(h:xs.toList.take n=l1++l2):(xs.extract l1.length n).reverse.toList=l2.reverse/\xs.toList.take l1.length=l1:=by
 have hl:l1.length+l2.length=n:=by
  have:=congrArg List.length h;rw[List.length_append,List.length_take,Array.length_toList]at this;omega
 constructor
 ·rw[Array.toList_reverse,Array.toList_extract,List.extract_eq_drop_take]
  congr 1;have:(xs.toList.take n).drop l1.length=l2:=by rw[h,List.drop_left]
  rw[<-this,List.drop_take]
 ·have:(xs.toList.take n).take l1.length=l1:=by rw[h,List.take_left]
  rw[List.take_take,Nat.min_eq_left (by omega)]at this;exact this
theorem HI.appA(h:HI κ a b out na nb){l1 l2:List Keyed}(hn:na<=a.size)(e:a.toList.take na=l1++l2)(q:∀x∈l2,∀y∈b.toList.take nb,κ y <= κ x):HI κ a b (out++(a.extract l1.length na).reverse) l1.length nb:=by
 obtain⟨e1,e2⟩:=iU hn e;unfold HI at h ⊢;rw[Array.toList_append,e1,e2];rw[e,List.reverse_append]at h;exact h.mvA fun x hx y hy=>by have:=q x (List.mem_reverse.mp hx) y (List.mem_reverse.mp hy);omega
theorem HI.appB(h:HI κ a b out na nb){l1 l2:List Keyed}(hn:nb<=b.size)(e:b.toList.take nb=l1++l2)(q:∀x∈l2,∀y∈a.toList.take na,κ y <= κ x):HI κ a b (out++(b.extract l1.length nb).reverse) na l1.length:=by
 obtain⟨e1,e2⟩:=iU hn e;unfold HI at h ⊢;rw[Array.toList_append,e1,e2];rw[e,List.reverse_append]at h;exact h.mvB fun x hx y hy=>by have:=q x (List.mem_reverse.mp hx) y (List.mem_reverse.mp hy);omega
theorem zk{xs:Array Keyed}(n:Nat):(xs.extract 0 n).toList=xs.toList.take n:=by
 rw[Array.toList_extract,List.extract_eq_drop_take,Nat.sub_zero,List.drop_zero]
theorem mn{l:List Keyed}{r:Array Keyed}(e:r.toList=l.reverse)(h:l.Perm (a.toList++b.toList)/\Asc (fun x=>- κ x) l):iL κ a b r:=by
 unfold iL;rw[e];exact⟨(List.reverse_perm l).trans h.1,asc_neg.mp h.2⟩
theorem HI.done(h:HI κ a b out na nb)(e:na=0\/nb=0):iL κ a b (a.extract 0 na++b.extract 0 nb++out.reverse):=by
 unfold HI at h;rcases e with rfl|rfl
 ·rw[List.take_zero,List.reverse_nil]at h
  exact mn (by simp[zk]) h.endB
 ·rw[List.take_zero,List.reverse_nil]at h
  exact mn (by simp[zk]) h.endA
theorem HI.first(h:HI κ a b out na nb)(e:nb=1)(q:∀y,b[0]? = some y->∀x∈a.toList,κ y <= κ x)(hb:1<=b.size):iL κ a b (b.extract 0 nb++a.extract 0 na++out.reverse):=by
 subst e;obtain⟨y,hy⟩:=dJ (xs:=b) (i:=0) (by omega);unfold HI at h;have t:=iT hy;rw[List.take_zero,List.reverse_nil,List.append_nil]at t;have t:(b.toList.take 1).reverse=[y]:=t;rw[t]at h;have t2:b.toList.take 1=[y]:=by rw[<-List.reverse_reverse (b.toList.take 1),t];rfl
 exact mn (by simp[zk,t2]) (h.swap.last fun x hx=>by have:=q y hy x (List.mem_of_mem_take (List.mem_reverse.mp hx));omega)
theorem jx{xs:Array Keyed}(h:Asc κ xs.toList){i:Nat}{x:Keyed}(e:xs[i]? = some x):∀y∈xs.toList.take (i+1),κ y <= κ x:=fun y hy=>by
 have q:Asc κ (xs.toList.take (i+1)):=List.Pairwise.take h;have t:xs.toList.take (i+1)=xs.toList.take i++[x]:=by rw[<-List.reverse_reverse (xs.toList.take (i+1)),iT e];simp
 rw[t]at q hy;rcases List.mem_append.mp hy with hy|hy
 ·exact q.mid y hy x (List.mem_singleton.mpr rfl)
 ·rw[List.mem_singleton.mp hy];exact Int.le_refl _
theorem qF{xs:Array Keyed}(h:Asc κ xs.toList)(hS:∀x∈xs.toList,S x){n:Nat}(hn:n<=xs.size):Stretch κ S xs 0 n (xs.toList.take n) where
 eq:=by rw[List.drop_zero]
 len:=by rw[List.length_take,Array.length_toList];omega
 all x hx:=hS x (List.mem_of_mem_take hx)
 asc:=List.Pairwise.take h
end
section
variable{M:Model}{A:Around}{E:Value->Shared->Prop}{s:Shared}{κ:Keyed->Int}{S:Keyed->Prop}{kd:SortKind}
variable{a b:Array Keyed}
abbrev Hs:Type:=Option (Array Keyed)×Nat×Nat×Array Keyed×Nat×Nat×Nat
def ss(κ:Keyed->Int)(a b:Array Keyed)(B:Nat)(ro:Option (Array Keyed))(na nb:Nat)(out:Array Keyed):Prop:=
 (∃r,ro=some r/\iL κ a b r)\/(ro=none/\HI κ a b out na nb/\1<=na/\2<=nb/\na<=a.size/\nb<=b.size/\na+nb<=B)
def HsQ(κ:Keyed->Int)(a b:Array Keyed)(B:Nat)(st:SortSt)(r:ForInStep Hs)(st':SortSt):Prop:=SameBut st st'/\match r with
 |.done c=>ss κ a b B c.1 c.2.1 c.2.2.1 c.2.2.2.1
 |.yield c=>c.1=none/\ss κ a b B c.1 c.2.1 c.2.2.1 c.2.2.2.1
noncomputable def G8(a b out:Array Keyed)(na nb g k k1:Nat):StateT SortSt Sem (ForInStep Hs):=do
 let x <-elem' a (na-1)
 if(na-1==0)=true then pure (.done (some (a.extract 0 (na-1)++b.extract 0 nb++(out.push x).reverse),na-1,nb,out.push x,g,k,k1))
 else if(decide (k<7)&&decide (k1<7))=true then pure (.done (none,na-1,nb,out.push x,g,k,k1))else pure (.yield (none,na-1,nb,out.push x,g,k,k1))
noncomputable def Jr(a b out:Array Keyed)(na nb g k n2:Nat):StateT SortSt Sem (ForInStep Hs):=do
 let y <-elem' b (nb-1)
 if(nb-1==1)=true then pure (.done (some (b.extract 0 (nb-1)++a.extract 0 na++(out.push y).reverse),na,nb-1,out.push y,g,k,n2))
 else do
  let x <-elem' a (na-1)
  let r <-dl true x b 0 (nb-1) (nb-1-1)
  match r with
  |some k1=>
   if nb-1-k1>0 then
    if(k1==1)=true then pure (.done (some (b.extract 0 k1++a.extract 0 na++(out.push y++(b.extract k1 (nb-1)).reverse).reverse),na,k1,out.push y++(b.extract k1 (nb-1)).reverse,g,k,nb-1-k1))
    else if(k1==0)=true then pure (.done (some (a.extract 0 na++b.extract 0 k1++(out.push y++(b.extract k1 (nb-1)).reverse).reverse),na,k1,out.push y++(b.extract k1 (nb-1)).reverse,g,k,nb-1-k1))
    else G8 a b (out.push y++(b.extract k1 (nb-1)).reverse) na k1 g k (nb-1-k1)
   else G8 a b (out.push y) na (nb-1) g k (nb-1-k1)
  |_=>pure (.done (some (a.extract 0 na++b.extract 0 (nb-1)++(out.push y).reverse),na,nb-1,out.push y,g,k,n2))
theorem yV{st st':SortSt}{out:Array Keyed}{na nb g k k1 B:Nat}{x:Keyed}(m:HI κ a b out na nb)(hx:a[na-1]? = some x)(q:∀z∈b.toList.take nb,κ z <= κ x)(p1:1<=na)(p2:2<=nb)(p4:na<=a.size)(p5:nb<=b.size)(p3:na+nb<=B)(sm:SameBut st st'):
  wpS M A E s (G8 a b out na nb g k k1) (HsQ κ a b B st) st':=by
 unfold G8;refine wpS_bind (aM hx ?_);have m':HI κ a b (out.push x) (na-1) nb:=HI.pushA (by rw[show na-1+1=na by omega];exact m) hx q;by_cases c:(na-1==0)=true
 ·rw[if_pos c]
  exact wpS_pure ⟨sm,.inl ⟨_,rfl,m'.done (.inl (by simpa using c))⟩⟩
 rw[if_neg c];have c:na-1≠0:=by simpa using c
 have pt:ss κ a b B none (na-1) nb (out.push x):=.inr ⟨rfl,m',by omega,p2,by omega,p5,by omega⟩;split
 ·exact wpS_pure ⟨sm,pt⟩
 ·exact wpS_pure ⟨sm,rfl,pt⟩
theorem yW(T:du M A E s kd κ S){st st':SortSt}{out:Array Keyed}{na nb g k n2 B:Nat}{y:Keyed}(sa:Asc κ a.toList)(sb:Asc κ b.toList)(Sa:∀x∈a.toList,S x)(Sb:∀x∈b.toList,S x)(m:HI κ a b out na nb)(hy:b[nb-1]? = some y)(q:∀z∈a.toList.take na,κ z <= κ y)(h0:∀y,b[0]? = some y->∀x∈a.toList,κ y <= κ x)
  (p1:1<=na) (p2:2<=nb) (p4:na<=a.size) (p5:nb<=b.size) (p3:na+nb<=B) (sm:SameBut st st') (ek:kindOf st=kd):wpS M A E s (Jr a b out na nb g k n2) (HsQ κ a b B st) st':=by
 unfold Jr;refine wpS_bind (aM hy ?_);have mB:HI κ a b (out.push y) na (nb-1):=HI.pushB (by rw[show nb-1+1=nb by omega];exact m) hy q;by_cases c3:(nb-1==1)=true
 ·rw[if_pos c3]
  exact wpS_pure ⟨sm,.inl ⟨_,rfl,mB.first (by simpa using c3) h0 (by omega)⟩⟩
 rw[if_neg c3];have c3:nb-1≠1:=by simpa using c3
 obtain⟨x,hx⟩:=dJ (xs:=a) (i:=na-1) (by omega);refine wpS_bind (aM hx ?_);have ax:∀u∈a.toList.take na,κ u <= κ x:=fun u hu=>jx sa hx u (by rw[show na-1+1=na by omega];exact hu)
 refine wpS_bind (gZ T (qF sb Sb (n:=nb-1) (by omega)) (Sa x (eJ hx)) (sm.1.trans ek) (by omega) fun k1 k2 ek2 f1 f2=>?_)
 simp only[if_true]at f1 f2;dsimp only;have ln:k1.length+k2.length=nb-1:=by
  have:=congrArg List.length ek2;rw[List.length_append,List.length_take,Array.length_toList]at this;omega
 rcases Nat.eq_zero_or_pos (nb-1-k1.length)with h1|h1
 ·rw[if_neg (by omega)]
  have:k2=[]:=List.length_eq_zero_iff.mp (by omega);subst this;exact yV mB hx (fun z hz=>Int.le_of_lt (f1 z (by rw[ek2,List.append_nil]at hz;exact hz))) p1 (by omega) p4 (by omega) (by omega) sm
 ·rw[if_pos h1]
  have mC:=mB.appB (by omega) ek2 fun z hz u hu=>Int.le_trans (ax u hu) (f2 z hz)
  by_cases c4:(k1.length==1)=true
  ·rw[if_pos c4]
   exact wpS_pure ⟨sm,.inl ⟨_,rfl,mC.first (by simpa using c4) h0 (by omega)⟩⟩
  rw[if_neg c4];by_cases c5:(k1.length==0)=true
  ·rw[if_pos c5]
   exact wpS_pure ⟨sm,.inl ⟨_,rfl,mC.done (.inr (by simpa using c5))⟩⟩
  rw[if_neg c5];have c4:k1.length≠1:=by simpa using c4
  have c5:k1.length≠0:=by simpa using c5
  exact yV mC hx (fun z hz=>Int.le_of_lt (f1 z (by rw[(iU (by omega) ek2).2]at hz;exact hz))) p1 (by omega) p4 (by omega) (by omega) sm
theorem HsQ.y{B:Nat}{st st':SortSt}{c:Hs}(h:HsQ κ a b B st (.yield c) st'):SameBut st st'/\∃na nb out g x y,c=(none,na,nb,out,g,x,y)/\HI κ a b out na nb/\1<=na/\2<=nb/\na<=a.size/\nb<=b.size/\na+nb<=B:=by
 obtain⟨sm,e,pt⟩:=h;obtain⟨ro,na,nb,out,g,x,y⟩:=c;have e:ro=none:=e;subst e;rcases pt with⟨r,e,_⟩|⟨_,m,p1,p2,p3⟩
 ·cases e
 ·exact⟨sm,na,nb,out,g,x,y,rfl,m,p1,p2,p3⟩
theorem qo(T:du M A E s kd κ S){st:SortSt}{Q:Array Keyed->SortSt->Prop}(sa:Asc κ a.toList)(sb:Asc κ b.toList)(Sa:∀x∈a.toList,S x)(Sb:∀x∈b.toList,S x)(na:1<=a.size)(nb:1<=b.size)
  (h0:∀y,b[0]? = some y->∀x∈a.toList,κ y <= κ x) (hl:∀x,a[a.size-1]? = some x->∀y∈b.toList,κ y <= κ x) (ek:kindOf st=kd) (h:∀out st',iL κ a b out->SameBut st st'->Q out st'):wpS M A E s (lR a b) Q st:=by
 rw[rd];refine wpS_bind (wpS_lift (wpAny_rule ⟨rfl,?_⟩));obtain⟨x0,hx0⟩:=dJ (xs:=a) (i:=a.size-1) (by omega);refine wpS_bind (aM hx0 ?_);dsimp only;have m0:HI κ a b #[] a.size b.size:=by
  have e1:a.toList.take a.size=a.toList:=List.take_of_length_le (by simp);have e2:b.toList.take b.size=b.toList:=List.take_of_length_le (by simp);unfold HI;rw[e1,e2];exact⟨by rw[List.nil_append];exact(List.reverse_perm _).append (List.reverse_perm _),List.Pairwise.nil,fun x hx=>by simp at hx,asc_neg.mpr (by rw[List.reverse_reverse];exact sa),asc_neg.mpr (by rw[List.reverse_reverse];exact sb)⟩
 have m1:HI κ a b #[x0] (a.size-1) b.size:=HI.pushA (out:=#[]) (nb:=b.size) (na:=a.size-1) (by rw[show a.size-1+1=a.size by omega];exact m0) hx0 fun z hz=>hl x0 hx0 z (List.mem_of_mem_take hz)
 by_cases c1:(a.size-1==0)=true
 ·rw[if_pos c1]
  exact wpS_pure (h _ _ (m1.done (.inl (by simpa using c1))) (.refl _))
 rw[if_neg c1];have c1:a.size-1≠0:=by simpa using c1
 by_cases c2:(b.size==1)=true
 ·rw[if_pos c2]
  exact wpS_pure (h _ _ (m1.first (by simpa using c2) h0 nb) (.refl _))
 rw[if_neg c2];have c2:b.size≠1:=by simpa using c2
 refine wpS_bind (wpS_get ?_);refine wpS_bind (wpS_mono (wpS_forRange (I:=fun t c st'=>SameBut st st'/\∃na nb out g,c=(none,na,nb,out,g)/\HI κ a b out na nb/\1<=na/\2<=nb/\na<=a.size/\nb<=b.size/\na+nb+t+1<=a.size+b.size)
  (Q:=fun c st'=>SameBut st st'/\∃r,c.1=some r/\iL κ a b r) ?step ?fin ⟨.refl _,_,_,_,_,rfl,m1,by omega,by omega,by omega,by omega,by omega⟩) ?post)
 case fin=>
  rintro c st' ⟨sm,na,nb,out,g,rfl,m,p1,p2,p4,p5,p3⟩;omega
 case post=>
  rintro c st' ⟨sm,r,e,g⟩;rw[e];exact wpS_pure (h r st' g sm)
 case step=>
  rintro t c st1 _ ht ⟨sm1,na,nb,out,g,rfl,m,p1,p2,p4,p5,p3⟩;dsimp only;refine wpS_bind (wpS_mono (wpS_forRange (I:=fun u c st'=>SameBut st st'/\∃na nb out x y,c=(none,na,nb,out,x,y)/\HI κ a b out na nb/\1<=na/\2<=nb/\na<=a.size/\nb<=b.size/\na+nb+t+1+min u 1<=a.size+b.size)
   (Q:=fun c st'=>SameBut st st'/\ss κ a b (a.size+b.size-t-2) c.1 c.2.1 c.2.2.1 c.2.2.2.1) ?step1 ?fin1 ⟨sm1,_,_,_,_,_,rfl,m,p1,p2,p4,p5,by omega⟩) ?post1)
  case fin1=>
   rintro c st' ⟨sm,na,nb,out,x,y,rfl,m,p1,p2,p4,p5,p3⟩;exact⟨sm,.inr ⟨rfl,m,p1,p2,p4,p5,show na+nb<=_ by omega⟩⟩
  case step1=>
   rintro u c st2 _ hu ⟨sm2,na,nb,out,n1,n2,rfl,m,p1,p2,p4,p5,p3⟩;dsimp only;obtain⟨y,hy⟩:=dJ (xs:=b) (i:=nb-1) (by omega);obtain⟨x,hx⟩:=dJ (xs:=a) (i:=na-1) (by omega);have ax:∀u∈a.toList.take na,κ u <= κ x:=fun u hu=>jx sa hx u (by rw[show na-1+1=na by omega];exact hu)
   have bx:∀u∈b.toList.take nb,κ u <= κ y:=fun u hu=>jx sb hy u (by rw[show nb-1+1=nb by omega];exact hu)
   refine wpS_bind (aM hy (wpS_bind (aM hx (wpS_bind (T y x (Sb y (eJ hy)) (Sa x (eJ hx)) st2 _ (sm2.1.trans ek) ?_)))));dsimp only;by_cases q:κ y < κ x
   ·simp only[q,decide_true,if_true]
    refine wpS_bind (aM hx ?_);have m':HI κ a b (out.push x) (na-1) nb:=HI.pushA (by rw[show na-1+1=na by omega];exact m) hx fun z hz=>Int.le_trans (bx z hz) (Int.le_of_lt q)
    by_cases c3:(na-1==0)=true
    ·rw[if_pos c3]
     exact wpS_pure ⟨sm2,.inl ⟨_,rfl,m'.done (.inl (by simpa using c3))⟩⟩
    rw[if_neg c3];have c3:na-1≠0:=by simpa using c3
    split
    ·exact wpS_pure ⟨sm2,.inr ⟨rfl,m',show 1<=na-1 by omega,p2,show na-1<=_ by omega,p5,show na-1+nb<=_ by omega⟩⟩
    ·exact wpS_pure ⟨sm2,_,_,_,_,_,rfl,m',by omega,p2,by omega,p5,by omega⟩
   ·simp only[q,decide_false,Bool.false_eq_true,if_false]
    refine wpS_bind (aM hy ?_);have m':HI κ a b (out.push y) na (nb-1):=HI.pushB (by rw[show nb-1+1=nb by omega];exact m) hy fun z hz=>Int.le_trans (ax z hz) (Int.not_lt.mp q)
    by_cases c3:(nb-1==1)=true
    ·rw[if_pos c3]
     exact wpS_pure ⟨sm2,.inl ⟨_,rfl,m'.first (by simpa using c3) h0 (by omega)⟩⟩
    rw[if_neg c3];have c3:nb-1≠1:=by simpa using c3
    split
    ·exact wpS_pure ⟨sm2,.inr ⟨rfl,m',p1,show 2<=nb-1 by omega,p4,show nb-1<=_ by omega,show na+(nb-1)<=_ by omega⟩⟩
    ·exact wpS_pure ⟨sm2,_,_,_,_,_,rfl,m',p1,by omega,p4,by omega,by omega⟩
  case post1=>
   rintro⟨ro,na,nb,out,n1,n2⟩ st2 ⟨sm2,pt⟩;rcases pt with⟨r,e,gd⟩|⟨e,m,p1,p2,p4,p5,p3⟩
   ·have e:ro=some r:=e
    subst e;exact wpS_pure ⟨sm2,r,rfl,gd⟩
   have e:ro=none:=e;subst e;dsimp only at m p1 p2 p3 p4 p5 ⊢;refine wpS_bind (wpS_lift (wpAny_rule ⟨rfl,?_⟩));refine wpS_bind (wpS_mono (wpS_forRange (I:=fun u c st'=>SameBut st st'/\∃na nb out g x y,c=(none,na,nb,out,g,x,y)/\HI κ a b out na nb/\1<=na/\2<=nb/\na<=a.size/\nb<=b.size/\na+nb<=a.size+b.size-t-2)
    (Q:=fun c st'=>SameBut st st'/\ss κ a b (a.size+b.size-t-2) c.1 c.2.1 c.2.2.1 c.2.2.2.1) ?step2 ?fin2 ⟨sm2,_,_,_,_,_,_,rfl,m,p1,p2,p4,p5,p3⟩) ?post2)
   case fin2=>
    rintro c st' ⟨sm,na,nb,out,g,x,y,rfl,m,p⟩;exact⟨sm,.inr ⟨rfl,m,p⟩⟩
   case post2=>
    rintro⟨ro,na,nb,out,g,n1,n2⟩ st3 ⟨sm3,pt⟩;rcases pt with⟨r,e,gd⟩|⟨e,m,p1,p2,p4,p5,p3⟩
    ·have e:ro=some r:=e
     subst e;exact wpS_pure ⟨sm3,r,rfl,gd⟩
    have e:ro=none:=e;subst e;dsimp only at m p1 p2 p3 p4 p5 ⊢;exact wpS_bind (iN sm3 fun st4 sm4=>wpS_pure ⟨sm4,_,_,_,_,rfl,m,p1,p2,p4,p5,by omega⟩)
   case step2=>
    rintro u c st3 _ hu ⟨sm3,na,nb,out,g,n1,n2,rfl,m,p1,p2,p4,p5,p3⟩;dsimp only;obtain⟨y,hy⟩:=dJ (xs:=b) (i:=nb-1) (by omega);have Sy:=Sb y (eJ hy);have bx:∀u∈b.toList.take nb,κ u <= κ y:=fun u hu=>jx sb hy u (by rw[show nb-1+1=nb by omega];exact hu)
    rcases Nat.lt_or_ge 1 g with hg|hg
    all_goals
     first
     |rw[if_pos hg]
     |rw[if_neg (Nat.not_lt.mpr hg)]
     refine wpS_bind (iN sm3 fun st4 sm4=>?_);refine wpS_bind (aM hy ?_);refine wpS_bind (gZ T (qF sa Sa p4) Sy (sm4.1.trans ek) (by omega) fun l1 l2 el e1 e2=>?_)
     simp only[Bool.false_eq_true,if_false]at e1 e2;dsimp only;have ln:l1.length+l2.length=na:=by
      have:=congrArg List.length el;rw[List.length_append,List.length_take,Array.length_toList]at this;omega
     rcases Nat.eq_zero_or_pos (na-l1.length)with h1|h1
     ·rw[if_neg (by omega)]
      have l2n:l2=[]:=List.length_eq_zero_iff.mp (by omega);subst l2n;refine wpS_mono (yW (B:=a.size+b.size-t-2) (out:=out) (na:=na) (nb:=nb) (k:=na-l1.length) (n2:=n2) T sa sb Sa Sb m hy (fun z hz=>e1 z (by rw[el,List.append_nil]at hz;exact hz)) h0 p1 p2 p4 p5 p3 sm4 ek) fun r st5 gq=>?_
      cases r with
      |done c=>exact gq
      |yield c=>exact gq.y
     ·rw[if_pos h1]
      have mA:=m.appA p4 el fun x hx z hz=>Int.le_trans (bx z hz) (Int.le_of_lt (e2 x hx))
      by_cases c3:(l1.length==0)=true
      ·rw[if_pos c3]
       exact wpS_pure ⟨sm4,.inl ⟨_,rfl,mA.done (.inl (by simpa using c3))⟩⟩
      rw[if_neg c3];have c3:l1.length≠0:=by simpa using c3
      refine wpS_mono (yW (B:=a.size+b.size-t-2) (out:=out++(a.extract l1.length na).reverse) (na:=l1.length) (nb:=nb) (k:=na-l1.length) (n2:=n2) T sa sb Sa Sb mA hy (fun z hz=>e1 z (by rw[(iU p4 el).2]at hz;exact hz)) h0 (by omega) p2 (by omega) p5 (by omega) sm4 ek) fun r st5 gq=>?_
      cases r with
      |done c=>exact gq
      |yield c=>exact gq.y
end
theorem rf(i:Nat):mergeAt' i=(do
 let s <-get
 let (some (sa,na,power),some (sb,nb,_)):=((pendingOf s)[i]?,(pendingOf s)[i+1]?)|unsupported "internal:list.sort.pending"
 set (setPending s (((pendingOf s).setIfInBounds i (sa,na+nb,power)).eraseIdxIfInBounds (i+1)))
 let some k <-dl false (<-elem' (arrOf s) sb) (arrOf s) sa na 0|return false
 let (sa,na):=(sa+k,na-k)
 if na==0 then return true
 let some nb <-dl true (<-elem' (arrOf s) (sa+na-1)) (arrOf s) sb nb (nb-1)|return false
 if nb==0 then return true
 let x:=(arrOf s).extract sa sb
 let y:=(arrOf s).extract sb (sb+nb)
 let merged <-if na<=nb then lQ x y else lR x y
 modify fun s=>setArr s (merged.toList.zipIdx.foldl (fun a (p,j)=>a.setIfInBounds (sa+j) p) (arrOf s))
 return (failedOf (<-get)).isNone):=rfl
section
variable{M:Model}{A:Around}{E:Value->Shared->Prop}{s:Shared}{κ:Keyed->Int}{S:Keyed->Prop}{kd:SortKind}
theorem Ag{σ:Type}{x:σ}{Q:PUnit -> σ -> Prop}{st:σ}(h:Q ⟨⟩ x):wpS M A E s (set x:StateT σ Sem PUnit) Q st:=by
 unfold wpS;rw[StateT.run_set];exact wpAny_pure ⟨rfl,h⟩
theorem lh(o:Nat):∀(l:List Keyed) (k:Nat) (xs:Array Keyed),o+k+l.length<=xs.size->((l.zipIdx k).foldl (fun(a:Array Keyed) (q:Keyed×Nat)=>a.setIfInBounds (o+q.2) q.1) xs).toList=xs.toList.take (o+k)++l++xs.toList.drop (o+k+l.length)
 |[],k,xs,_=>by simp
 |x::l,k,xs,h=>by
  rw[List.length_cons]at h;rw[List.zipIdx_cons,List.foldl_cons,lh o l (k+1) _ (by rw[Array.size_setIfInBounds];omega),Array.toList_setIfInBounds];have hk:o+k<xs.toList.length:=by rw[Array.length_toList];omega
  rw[show o+(k+1)=o+k+1 by omega,List.take_add_one,List.take_set_of_le (Nat.le_refl _),List.getElem?_set_self hk,List.drop_set_of_lt (by omega),List.length_cons,show o+k+1+l.length=o+k+(l.length+1) by omega];simp
theorem Af(T:du M A E s kd κ S){st:SortSt}{L1 g1 g2 L2:List Keyed}{i pw pw2:Nat}{Q:Bool->SortSt->Prop}(ek:kindOf st=kd)(hf:failedOf st=none)(ha:(arrOf st).toList=L1++(g1++(g2++L2)))(a1:Asc κ g1)(a2:Asc κ g2)(n1:g1≠[])(n2:g2≠[])(hS:∀x∈g1++g2,S x)
  (p1:(pendingOf st)[i]? = some (L1.length,g1.length,pw)) (p2:(pendingOf st)[i+1]? = some (L1.length+g1.length,g2.length,pw2))
  (h:∀st' g,g.Perm (g1++g2)->Asc κ g->(arrOf st').toList=L1++(g++L2)->kindOf st'=kd->failedOf st'=none->pendingOf st'=((pendingOf st).setIfInBounds i (L1.length,g1.length+g2.length,pw)).eraseIdxIfInBounds (i+1)->Q true st') :
  wpS M A E s (mergeAt' i) Q st:=by
 rw[rf];refine wpS_bind (wpS_get ?_);rw[p1,p2];dsimp only;refine wpS_bind (Ag ?_);have sz:(arrOf st).size=L1.length+(g1.length+(g2.length+L2.length)):=by
  have:=congrArg List.length ha;simpa using this
 have l1:1<=g1.length:=List.length_pos_iff.mpr n1;have l2:1<=g2.length:=List.length_pos_iff.mpr n2;have st1:Stretch κ S (arrOf st) L1.length g1.length g1:=⟨by rw[ha,List.drop_left,List.take_left],rfl,fun x hx=>hS x (by simp[hx]),a1⟩
 have st2:Stretch κ S (arrOf st) (L1.length+g1.length) g2.length g2:=⟨by rw[ha,<-List.drop_drop,List.drop_left,List.drop_left,List.take_left],rfl,fun x hx=>hS x (by simp[hx]),a2⟩
 have hb:=st2.get (i:=0) (by omega);rw[Nat.add_zero]at hb;have Sb0:S g2[0]:=st2.all _ (List.getElem_mem _);have b0:∀z∈g2,κ g2[0] <= κ z:=fun z hz=>by
  obtain⟨j,hj,rfl⟩:=List.mem_iff_getElem.mp hz;rcases Nat.eq_zero_or_pos j with q|q
  ·subst q;exact Int.le_refl _
  ·exact List.pairwise_iff_getElem.mp a2 0 j (by omega) hj q
 have same:∀Z:SortSt,arrOf Z=arrOf st->kindOf Z=kindOf st->failedOf Z=failedOf st->pendingOf Z=((pendingOf st).setIfInBounds i (L1.length,g1.length+g2.length,pw)).eraseIdxIfInBounds (i+1)->(∀x∈g1,∀y∈g2,κ x <= κ y)->Q true Z:=fun Z e1 e2 e3 e4 q=>
  h Z (g1++g2) (List.Perm.refl _) (a1.app a2 q) (by rw[e1,ha,List.append_assoc]) (e2.trans ek) (e3.trans hf) e4
 refine wpS_bind (aM hb ?_);refine wpS_bind (gZ T st1 Sb0 ek (by omega) fun u1 u2 eu e1 e2=>?_)
 simp only[Bool.false_eq_true,if_false]at e1 e2;dsimp only;have lu:u1.length+u2.length=g1.length:=by rw[eu,List.length_append]
 by_cases c1:(g1.length-u1.length==0)=true
 ·rw[if_pos c1]
  have:u2=[]:=List.length_eq_zero_iff.mp (by have:g1.length-u1.length=0:=(by simpa using c1);omega);subst this;rw[List.append_nil]at eu;refine wpS_pure (same _ rfl rfl rfl rfl fun x hx y hy=>Int.le_trans (e1 x (eu ▸ hx)) (b0 y hy))
 rw[if_neg c1];have c1:g1.length-u1.length≠0:=by simpa using c1
 have hlast:(arrOf st)[L1.length+u1.length+(g1.length-u1.length)-1]? = some g1[g1.length-1]:=by
  rw[show L1.length+u1.length+(g1.length-u1.length)-1=L1.length+(g1.length-1) by omega];exact st1.get (by omega)
 have gl:∀z∈g1,κ z <= κ g1[g1.length-1]:=fun z hz=>by
  obtain⟨j,hj,rfl⟩:=List.mem_iff_getElem.mp hz;rcases Nat.lt_or_ge j (g1.length-1)with q|q
  ·exact List.pairwise_iff_getElem.mp a1 j _ hj (by omega) q
  ·have:j=g1.length-1:=by omega
   subst this;exact Int.le_refl _
 refine wpS_bind (aM hlast ?_);refine wpS_bind (gZ T st2 (st1.all _ (List.getElem_mem _)) ek (by omega) fun v1 v2 ev f1 f2=>?_)
 simp only[if_true]at f1 f2;dsimp only;by_cases c2:(v1.length==0)=true
 ·rw[if_pos c2]
  have:v1=[]:=List.length_eq_zero_iff.mp (by simpa using c2);subst this;rw[List.nil_append]at ev;refine wpS_pure (same _ rfl rfl rfl rfl fun x hx y hy=>Int.le_trans (gl x hx) (f2 y (ev ▸ hy)))
 rw[if_neg c2];have c2:v1.length≠0:=by simpa using c2
 have lv:v1.length+v2.length=g2.length:=by rw[ev,List.length_append]
 have ex:((arrOf st).extract (L1.length+u1.length) (L1.length+g1.length)).toList=u2:=by
  rw[Array.toList_extract,List.extract_eq_drop_take,ha,eu,<-List.drop_drop,List.drop_left,List.append_assoc,List.drop_left,List.length_append,show L1.length+(u1.length+u2.length)-(L1.length+u1.length)=u2.length by omega,List.take_left]
 have ey:((arrOf st).extract (L1.length+g1.length) (L1.length+g1.length+v1.length)).toList=v1:=by
  rw[Array.toList_extract,List.extract_eq_drop_take,ha,<-List.drop_drop,List.drop_left,List.drop_left,ev,List.append_assoc,show L1.length+g1.length+v1.length-(L1.length+g1.length)=v1.length by omega,List.take_left]
 have hm:∀(mg:Array Keyed) (st':SortSt),iL κ ((arrOf st).extract (L1.length+u1.length) (L1.length+g1.length)) ((arrOf st).extract (L1.length+g1.length) (L1.length+g1.length+v1.length)) mg->SameBut (setPending st (((pendingOf st).setIfInBounds i (L1.length,g1.length+g2.length,pw)).eraseIdxIfInBounds (i+1))) st' ->
   wpS M A E s (do
    modify fun s=>setArr s (mg.toList.zipIdx.foldl (fun(a:Array Keyed) (q:Keyed×Nat)=>a.setIfInBounds (L1.length+u1.length+q.2) q.1) (arrOf s))
    return (failedOf (<-get)).isNone) Q st':=fun mg st' gd sm=>by
  obtain⟨gp,ga⟩:=gd;rw[ex,ey]at gp;have ea:arrOf st'=arrOf st:=sm.2.1;have lm:mg.toList.length=u2.length+v1.length:=by rw[gp.length_eq,List.length_append]
  refine wpS_bind (wpS_modify (wpS_bind (wpS_get (wpS_pure ?_))));have fn:failedOf st'=none:=sm.2.2.2.trans hf;show Q (failedOf st').isNone _;rw[fn];refine h _ (u1++mg.toList++v2) ?_ ?_ ?_ (sm.1.trans ek) fn sm.2.2.1
  ·rw[eu,ev]
   have:=((List.Perm.refl u1).append gp).append (List.Perm.refl v2);simpa[List.append_assoc]using this
  ·have mem:∀z,z∈mg.toList->z∈u2\/z∈v1:=fun z hz=>List.mem_append.mp (gp.mem_iff.mp hz)
   have au:=eu ▸ a1;have av:=ev ▸ a2;have v0:∀z∈v1,κ g2[0] <= κ z:=fun z hz=>b0 z (by rw[ev];simp[hz])
   refine(au.left.app ga fun x hx z hz=>?_).app av.right fun x hx z hz=>?_
   ·rcases mem z hz with q|q
    ·exact au.mid x hx z q
    ·exact Int.le_trans (e1 x hx) (v0 z q)
   ·rcases List.mem_append.mp hx with q|q
    ·exact Int.le_trans (gl x (by rw[eu];simp[q])) (f2 z hz)
    ·rcases mem x q with q|q
     ·exact Int.le_trans (gl x (by rw[eu];simp[q])) (f2 z hz)
     ·exact av.mid x q z hz
  ·show(mg.toList.zipIdx.foldl _ (arrOf st')).toList=_
   rw[ea,lh (L1.length+u1.length) mg.toList 0 (arrOf st) (by rw[lm,sz];omega),Nat.add_zero,ha,eu,ev,lm];have t1:(L1++(u1++u2++(v1++v2++L2))).take (L1.length+u1.length)=L1++u1:=by
    rw[show L1++(u1++u2++(v1++v2++L2))=(L1++u1)++(u2++(v1++v2++L2)) by simp[List.append_assoc],<-List.length_append,List.take_left]
   have t2:(L1++(u1++u2++(v1++v2++L2))).drop (L1.length+u1.length+(u2.length+v1.length))=v2++L2:=by
    rw[show L1++(u1++u2++(v1++v2++L2))=(L1++u1++(u2++v1))++(v2++L2) by simp[List.append_assoc],<-List.length_append,<-List.length_append,<-List.length_append,List.drop_left]
   rw[t1,t2];simp[List.append_assoc]
 have ax:Asc κ ((arrOf st).extract (L1.length+u1.length) (L1.length+g1.length)).toList:=by rw[ex];exact(eu ▸ a1).right
 have ay:Asc κ ((arrOf st).extract (L1.length+g1.length) (L1.length+g1.length+v1.length)).toList:=by rw[ey];exact(ev ▸ a2).left
 have SX:∀x∈((arrOf st).extract (L1.length+u1.length) (L1.length+g1.length)).toList,S x:=by rw[ex];exact fun x hx=>hS x (by rw[eu];simp[hx])
 have SY:∀x∈((arrOf st).extract (L1.length+g1.length) (L1.length+g1.length+v1.length)).toList,S x:=by rw[ey];exact fun x hx=>hS x (by rw[ev];simp[hx])
 have nX:1<=((arrOf st).extract (L1.length+u1.length) (L1.length+g1.length)).size:=by rw[<-Array.length_toList,ex];omega
 have nY:1<=((arrOf st).extract (L1.length+g1.length) (L1.length+g1.length+v1.length)).size:=by rw[<-Array.length_toList,ey];omega
 have h0:∀y,((arrOf st).extract (L1.length+g1.length) (L1.length+g1.length+v1.length))[0]? = some y->∀x∈((arrOf st).extract (L1.length+u1.length) (L1.length+g1.length)).toList,κ y <= κ x:=fun y hy x hx=>by
  rw[<-Array.getElem?_toList,ey]at hy;have:g2[0]? = some y:=by rw[ev,List.getElem?_append_left (by omega)];exact hy
  obtain⟨_,e⟩:=List.getElem?_eq_some_iff.mp this;rw[ex]at hx;rw[<-e];exact Int.le_of_lt (e2 x hx)
 have hl:∀x,((arrOf st).extract (L1.length+u1.length) (L1.length+g1.length))[((arrOf st).extract (L1.length+u1.length) (L1.length+g1.length)).size-1]? = some x->∀y∈((arrOf st).extract (L1.length+g1.length) (L1.length+g1.length+v1.length)).toList,κ y <= κ x:=fun x hx y hy=>by
  rw[<-Array.length_toList,<-Array.getElem?_toList,ex]at hx;have:g1[g1.length-1]? = some x:=by
   rw[<-hx];have:g1.length-1=u1.length+(u2.length-1):=by omega
   rw[this]
   conv=>lhs;rw[eu]
   rw[List.getElem?_append_right (by omega),Nat.add_sub_cancel_left]
  obtain⟨_,e⟩:=List.getElem?_eq_some_iff.mp this;rw[ey]at hy;rw[<-e];exact Int.le_of_lt (f1 y hy)
 by_cases c3:g1.length-u1.length<=v1.length
 ·rw[if_pos c3]
  exact wpS_bind (qm T ax ay SX SY nX nY h0 hl ek fun mg st' gd sm=>hm mg st' gd sm)
 ·rw[if_neg c3]
  exact wpS_bind (qo T ax ay SX SY nX nY h0 hl ek fun mg st' gd sm=>hm mg st' gd sm)
end
noncomputable def KA(κ:Keyed->Int)(xs:Array Keyed)(i:Nat):Int:=match xs[i]? with
 |some p=>κ p
 |none=>0
def mR(κ:Keyed->Int)(xs:Array Keyed)(lo k:Nat):Prop:=∀i j,i<=j->j<k->KA κ xs (lo+i)<=KA κ xs (lo+j)
def ke(κ:Keyed->Int)(xs:Array Keyed)(lo k:Nat):Prop:=∀i j,i<=j->j<k->KA κ xs (lo+j)<=KA κ xs (lo+i)
section
variable{M:Model}{A:Around}{E:Value->Shared->Prop}{s:Shared}{κ:Keyed->Int}{S:Keyed->Prop}{kd:SortKind}
theorem gY{xs ys:Array Keyed}{i j:Nat}(h:xs[i]? = ys[j]?):KA κ xs i=KA κ ys j:=by unfold KA;rw[h]
theorem oJ{xs:Array Keyed}{src d:Nat}(hs:src<xs.size)(hd:d<=src)(k:Nat):
  KA κ (bubble xs src d) k=if k=src-d then KA κ xs src else if src-d<k/\k<=src then KA κ xs (k-1)else KA κ xs k:=by
 have e:=getElem?_bubble hs d hd k;by_cases h1:k=src-d
 ·rw[if_pos h1]at e ⊢;exact gY e
 ·rw[if_neg h1]at e ⊢
  by_cases h2:src-d<k/\k<=src
  ·rw[if_pos h2]at e ⊢;exact gY e
  ·rw[if_neg h2]at e ⊢;exact gY e
theorem j9{xs:Array Keyed}{i j:Nat}(hj:j<=xs.size)(k:Nat):KA κ (mirror xs i j ((j-i)/2)) k=if i<=k/\k<j then KA κ xs (i+j-1-k)else KA κ xs k:=by
 have e:=getElem?_mirror_all (i:=i) hj k;by_cases h1:i<=k/\k<j
 ·rw[if_pos h1]at e ⊢;exact gY e
 ·rw[if_neg h1]at e ⊢;exact gY e
theorem ci{xs:Array Keyed}{i j:Nat}(hj:j<=xs.size)(heq:∀k,i<=k->k<j->KA κ xs k=KA κ xs (j-1))(k:Nat):KA κ (mirror xs i j ((j-i)/2)) k=KA κ xs k:=by
 rw[j9 hj];split
 ·rw[heq _ (by omega) (by omega),heq k (by omega) (by omega)]
 ·rfl
structure SB (S:Keyed->Prop) (kd:SortKind) (lo:Nat) (st0 st:SortSt):Prop where
 perm:(arrOf st).Perm (arrOf st0)
 pre:∀k,k<lo->(arrOf st)[k]? = (arrOf st0)[k]?
 kind:kindOf st=kd
 failed:failedOf st=none
 pend:pendingOf st=pendingOf st0
 gal:gallopOf st=gallopOf st0
 all:∀x∈(arrOf st0).toList,S x
theorem SB.size{lo:Nat}{st0 st:SortSt}(h:SB S kd lo st0 st):(arrOf st).size=(arrOf st0).size:=h.perm.size_eq
theorem SB.setArr{lo:Nat}{st0 st:SortSt}(h:SB S kd lo st0 st){xs:Array Keyed}(hp:xs.Perm (arrOf st))(hq:∀k,k<lo->xs[k]? = (arrOf st)[k]?):SB S kd lo st0 (setArr st xs):=
 ⟨hp.trans h.perm,fun k hk=>(hq k hk).trans (h.pre k hk),h.kind,h.failed,h.pend,h.gal,h.all⟩
theorem SB.at{lo:Nat}{st0 st:SortSt}(h:SB S kd lo st0 st){i:Nat}(hi:i<(arrOf st0).size):∃x,(arrOf st)[i]? = some x/\S x /\ κ x=KA κ (arrOf st) i:=by
 obtain⟨x,hx⟩:=dJ (xs:=arrOf st) (i:=i) (by rw[h.size];exact hi);exact⟨x,hx,h.all x ((Array.perm_iff_toList_perm.mp h.perm).mem_iff.mp (eJ hx)),by unfold KA;rw[hx]⟩
theorem iO(T:du M A E s kd κ S){lo:Nat}{st0 st:SortSt}{i j:Nat}{Q:Option Bool->SortSt->Prop}(hB:SB S kd lo st0 st)(hi:i<(arrOf st0).size)(hj:j<(arrOf st0).size)
  (h:Q (some (decide (KA κ (arrOf st) i<KA κ (arrOf st) j))) st):wpS M A E s (ltAt' i j) Q st:=by
 obtain⟨x,e1,s1,k1⟩:=hB.at (κ:=κ) hi;obtain⟨y,e2,s2,k2⟩:=hB.at (κ:=κ) hj;rw[ltAt'_eq];refine wpS_bind (wpS_get ?_);exact wpS_bind (aM e1 (wpS_bind (aM e2 (T x y s1 s2 st _ hB.kind (by rw[k1,k2];exact h)))))
theorem fZ{xs:Array Keyed}{i j lo:Nat}(hj:j<=xs.size)(hi:lo<=i):∀k,k<lo->(mirror xs i j ((j-i)/2))[k]? = xs[k]?:=fun k hk=>by
 rw[getElem?_mirror_all hj,if_neg (by omega)]
theorem tX{xs:Array Keyed}{src d lo:Nat}(hs:src<xs.size)(hd:d<=src)(hl:lo<=src-d):∀k,k<lo->(bubble xs src d)[k]? = xs[k]?:=fun k hk=>by
 rw[getElem?_bubble hs d hd,if_neg (by omega),if_neg (by omega)]
theorem Ai(T:du M A E s kd κ S){lo:Nat}{st0 st:SortSt}{n ok:Nat}{Q:Bool->SortSt->Prop}(hn:lo+n<=(arrOf st0).size)(hok:ok<=n)(hB:SB S kd lo st0 st)(hs:mR κ (arrOf st) lo ok)
  (h:∀st',SB S kd lo st0 st'->mR κ (arrOf st') lo n->Q true st'):wpS M A E s (binarySort' lo n ok) Q st:=by
 rw[binarySort'_eq];refine wpS_bind (wpS_mono (wpS_forRange (I:=fun k c st'=>c=(none,())/\SB S kd lo st0 st'/\mR κ (arrOf st') lo (min k n))
  (Q:=fun c st'=>c=(none,())/\SB S kd lo st0 st'/\mR κ (arrOf st') lo n) ?step ?fin ?init) ?post)
 case post=>
  rintro c st' ⟨rfl,hB',hs'⟩;exact wpS_pure (h st' hB' hs')
 case init=>
  refine⟨rfl,hB,fun i j hij hj=>?_⟩
  by_cases h1:ok=0
  ·have:i=j:=by omega
   subst this;exact Int.le_refl _
  ·exact hs i j hij (by omega)
 case fin=>
  rintro c st' ⟨hc,hB',hs'⟩;refine⟨hc,hB',?_⟩
  rwa [show min (max (max ok 1) n) n=n by omega]at hs'
 case step=>
  rintro k c st' hak hkn ⟨rfl,hB',hs'⟩;rw[show min k n=k by omega]at hs';have hk:lo+k<(arrOf st0).size:=by omega
  refine wpS_bind (wpS_mono (wpS_forRange (I:=fun x c st''=>st''=st'/\∃l r,c=(none,l,r)/\l<=r/\r<=k/\r-l<=k-x /\
    (∀i,i<l->KA κ (arrOf st') (lo+i)<=KA κ (arrOf st') (lo+k))/\(∀i,r<=i->i<k->KA κ (arrOf st') (lo+k)<KA κ (arrOf st') (lo+i)))
   (Q:=fun c st''=>st''=st'/\∃l r,c=(none,l,r)/\l<=k /\
    (∀i,i<l->KA κ (arrOf st') (lo+i)<=KA κ (arrOf st') (lo+k))/\(∀i,l<=i->i<k->KA κ (arrOf st') (lo+k)<KA κ (arrOf st') (lo+i))) ?istep ?ifin ?iinit) ?ipost)
  case iinit=>exact⟨rfl,0,k,rfl,by omega,by omega,by omega,fun i hi=>by omega,fun i h1 h2=>by omega⟩
  case ifin=>
   rintro c st'' ⟨rfl,l,r,rfl,hlr,hrk,hm,hlo,hhi⟩;have:l=r:=by omega
   subst this;exact⟨rfl,l,l,rfl,hrk,hlo,hhi⟩
  case istep=>
   rintro x c st'' _ hxk ⟨rfl,l,r,rfl,hlr,hrk,hm,hlo,hhi⟩;dsimp only;by_cases hge:l>=r
   ·rw[if_pos hge]
    have:l=r:=by omega
    subst this;exact wpS_pure ⟨rfl,l,l,rfl,hrk,hlo,hhi⟩
   ·rw[if_neg hge]
    refine wpS_bind (iO T hB' hk (by omega) ?_);by_cases hless:KA κ (arrOf st'') (lo+k)<KA κ (arrOf st'') (lo+(l+r)/2)
    ·simp only[hless,decide_true,if_true]
     refine wpS_pure ⟨rfl,l,(l+r)/2,rfl,by omega,by omega,by omega,hlo,fun i h1 h2=>?_⟩
     exact Int.lt_of_lt_of_le hless (hs' _ _ h1 h2)
    ·simp only[hless,decide_false,Bool.false_eq_true,if_false]
     refine wpS_pure ⟨rfl,(l+r)/2+1,r,rfl,by omega,by omega,by omega,fun i h1=>?_,hhi⟩
     exact Int.le_trans (hs' i ((l+r)/2) (by omega) (by omega)) (Int.not_lt.mp hless)
  case ipost=>
   rintro c st'' ⟨rfl,l,r,rfl,hlk,hlo,hhi⟩;show wpS _ _ _ _ (do moveDown' (lo+k) (lo+l);pure (ForInStep.yield (none,()))) _ _;rw[moveDown'_eq];have hks:lo+k<(arrOf st'').size:=by rw[hB'.size];exact hk
   refine wpS_bind (wpS_modify (wpS_pure ⟨rfl,hB'.setArr (bubble_perm _ _ _) (tX hks (by omega) (by omega)),?_⟩));rw[show min (k+1) n=k+1 by omega];intro i j hij hj;show KA κ (bubble (arrOf st'') (lo+k) (lo+k-(lo+l))) (lo+i)<=KA κ (bubble (arrOf st'') (lo+k) (lo+k-(lo+l))) (lo+j);rw[oJ hks (by omega),oJ hks (by omega),show lo+k-(lo+k-(lo+l))=lo+l by omega];have r1:∀i,l<i->lo+i-1=lo+(i-1):=fun i hi=>by omega
   repeat' split
   all_goals first
    | (exfalso;omega)
    |exact Int.le_refl _
    |exact hlo _ (by omega)
    | (rw[r1 _ (by omega)];exact Int.le_of_lt (hhi _ (by omega) (by omega)))
    | (rw[r1 _ (by omega),r1 _ (by omega)];exact hs' _ _ (by omega) (by omega))
    | (rw[r1 _ (by omega)];exact hs' _ _ (by omega) (by omega))
    |exact hs' _ _ (by omega) (by omega)
end
noncomputable def ascL(lo a nrem:Nat):StateT SortSt Sem AscSt:=
 forIn [a:nrem] ((none,a):AscSt) fun _ c=>do
  let x <-ltAt' (lo+c.snd) (lo+c.snd-1)
  match x with
  |some smaller=>if smaller=true then pure (ForInStep.done (none,c.snd))else pure (ForInStep.yield (none,c.snd+1))
  |_=>pure (ForInStep.done (some none,c.snd))
noncomputable def lE(lo n nrem:Nat):StateT SortSt Sem (Option Nat):=do
 reverseSlice' lo (lo+n)
 let c <-ascL lo n nrem
 match c.fst with
 |some r=>pure r
 |none=>pure (some c.snd)
noncomputable def vb(lo n nrem:Nat):StateT SortSt Sem DescSt:=
 forIn [n:nrem] ((none,n,0):DescSt) fun _ c=>do
  let x <-ltAt' (lo+c.snd.fst) (lo+c.snd.fst-1)
  match x with
  |some smaller=>
   if smaller=true then
    if c.snd.snd>0 then do
     reverseSlice' (lo+c.snd.fst-(c.snd.snd+1)) (lo+c.snd.fst)
     pure (ForInStep.yield (none,c.snd.fst+1,0))
    else pure (ForInStep.yield (none,c.snd.fst+1,0))
   else do
    let x <-ltAt' (lo+c.snd.fst-1) (lo+c.snd.fst)
    match x with
    |some larger=>
     if larger=true then pure (ForInStep.done (none,c.snd.fst,c.snd.snd))
     else pure (ForInStep.yield (none,c.snd.fst+1,c.snd.snd+1))
    |_=>pure (ForInStep.done (some none,c.snd.fst,c.snd.snd))
  |_=>pure (ForInStep.done (some none,c.snd.fst,c.snd.snd))
noncomputable def fT(lo n nrem:Nat):StateT SortSt Sem (Option Nat):=do
 liftM (rule "list.sort.descending-run")
 let c <-vb lo (n+1) nrem
 match c.fst with
 |some r=>pure r
 |none=>
  if c.snd.snd>0 then do
   reverseSlice' (lo+c.snd.fst-(c.snd.snd+1)) (lo+c.snd.fst)
   lE lo c.snd.fst nrem
  else lE lo c.snd.fst nrem
theorem pX(lo nrem:Nat):countRun' lo nrem=(do
  let c <-ascL lo 1 nrem
  match c.fst with
  |some r=>pure r
  |none=>
   if(c.snd==nrem)=true then pure (some c.snd)
   else if c.snd>1 then do
    let x <-ltAt' lo (lo+c.snd-1)
    match x with
    |some rose=>if rose=true then pure (some c.snd)else do
      reverseSlice' lo (lo+c.snd)
      fT lo c.snd nrem
    |_=>pure none
   else fT lo c.snd nrem):=by
 rw[countRun'_eq];unfold fT lE vb ascL;dsimp only;congr 1;funext c;obtain⟨r,n⟩:=c;cases r with
 |some r=>rfl
 |none=>
  dsimp only;split
  ·rfl
  ·split
   ·congr 1
    funext x;cases x with
    |none=>rfl
    |some rose=>
     dsimp only;split
     ·rfl
     ·congr 1
      funext u0;congr 1;funext u1;congr 1;congr 1;funext c2;obtain⟨r2,n2,q2⟩:=c2;cases r2 with
      |some r2=>rfl
      |none=>
       dsimp only;split
       ·congr 1
        funext u2;congr 1;funext u3;congr 1;funext c3;obtain⟨r3,n3⟩:=c3;cases r3<;>rfl
       ·congr 1
        funext u3;congr 1;funext c3;obtain⟨r3,n3⟩:=c3;cases r3<;>rfl
   ·congr 1
    funext u1;congr 1;congr 1;funext c2;obtain⟨r2,n2,q2⟩:=c2;cases r2 with
    |some r2=>rfl
    |none=>
     dsimp only;split
     ·congr 1
      funext u2;congr 1;funext u3;congr 1;funext c3;obtain⟨r3,n3⟩:=c3;cases r3<;>rfl
     ·congr 1
      funext u3;congr 1;funext c3;obtain⟨r3,n3⟩:=c3;cases r3<;>rfl
section
variable{M:Model}{A:Around}{E:Value->Shared->Prop}{s:Shared}{κ:Keyed->Int}{S:Keyed->Prop}{kd:SortKind}{lo:Nat}{st0 st:SortSt}
theorem kJ{i j:Nat}{Q:Unit->SortSt->Prop}(h:Q () (setArr st (mirror (arrOf st) i j ((j-i)/2)))):wpS M A E s (reverseSlice' i j) Q st:=by
 rw[reverseSlice'_eq];exact wpS_modify h
theorem qp(T:du M A E s kd κ S){a nrem:Nat}{Q:AscSt->SortSt->Prop}(hn:lo+nrem<=(arrOf st0).size)(ha:1<=a)(han:a<=nrem)(hB:SB S kd lo st0 st)(hs:mR κ (arrOf st) lo a)
  (h:∀n,a<=n->n<=nrem->mR κ (arrOf st) lo n->(n=nrem\/KA κ (arrOf st) (lo+n)<KA κ (arrOf st) (lo+n-1))->Q (none,n) st):wpS M A E s (ascL lo a nrem) Q st:=by
 unfold ascL;refine wpS_forRange (I:=fun x c st'=>st'=st/\c=(none,x)/\mR κ (arrOf st) lo x) ?step ?fin ⟨rfl,rfl,hs⟩
 case fin=>
  rintro c st' ⟨rfl,rfl,hs'⟩;rw[show max a nrem=nrem by omega]at hs' ⊢;exact h nrem han (Nat.le_refl _) hs' (.inl rfl)
 case step=>
  rintro x c st' hax hxn ⟨rfl,rfl,hs'⟩;dsimp only;refine wpS_bind (iO T hB (by omega) (by omega) ?_);by_cases hless:KA κ (arrOf st') (lo+x)<KA κ (arrOf st') (lo+x-1)
  ·simp only[hless,decide_true,if_true]
   exact wpS_pure (h x hax (by omega) hs' (.inr hless))
  ·simp only[hless,decide_false,Bool.false_eq_true,if_false]
   refine wpS_pure ⟨rfl,rfl,fun i j hij hj=>?_⟩
   by_cases hjx:j<x
   ·exact hs' i j hij hjx
   ·have hj':j=x:=by omega
    subst hj';by_cases hi':i=j
    ·subst hi';exact Int.le_refl _
    ·rw[show lo+j-1=lo+(j-1) by omega]at hless
     exact Int.le_trans (hs' i (j-1) (by omega) (by omega)) (Int.not_lt.mp hless)
theorem li(T:du M A E s kd κ S){n nrem:Nat}{Q:Option Nat->SortSt->Prop}(hn:lo+nrem<=(arrOf st0).size)(h1:1<=n)(hnn:n<=nrem)(hB:SB S kd lo st0 st)(hs:ke κ (arrOf st) lo n)
  (h:∀m st',SB S kd lo st0 st'->1<=m->m<=nrem->mR κ (arrOf st') lo m->Q (some m) st'):wpS M A E s (lE lo n nrem) Q st:=by
 unfold lE;have hsz:lo+n<=(arrOf st).size:=by rw[hB.size];omega
 refine wpS_bind (kJ ?_);have hB':SB S kd lo st0 (setArr st (mirror (arrOf st) lo (lo+n) ((lo+n-lo)/2))):=hB.setArr (mirror_perm _ _ _ _) (fZ hsz (Nat.le_refl _));refine wpS_bind (qp T hn h1 hnn hB' ?_ fun m hm1 hm2 hsm _=>wpS_pure (h m _ hB' (by omega) hm2 hsm))
 intro i j hij hj;show KA κ (mirror (arrOf st) lo (lo+n) ((lo+n-lo)/2)) (lo+i)<=KA κ (mirror (arrOf st) lo (lo+n) ((lo+n-lo)/2)) (lo+j);rw[j9 hsz,j9 hsz,if_pos (by omega),if_pos (by omega),show lo+(lo+n)-1-(lo+i)=lo+(n-1-i) by omega,show lo+(lo+n)-1-(lo+j)=lo+(n-1-j) by omega];exact hs _ _ (by omega) (by omega)
theorem vx(T:du M A E s kd κ S){n nrem:Nat}{Q:DescSt->SortSt->Prop}(hn:lo+nrem<=(arrOf st0).size)(h1:1<=n)(hnn:n<=nrem)(hB:SB S kd lo st0 st)(hs:ke κ (arrOf st) lo n)
  (h:∀m neq st',SB S kd lo st0 st'->n<=m->m<=nrem->ke κ (arrOf st') lo m->neq+1<=m->(∀i,lo+m-(neq+1)<=i->i<lo+m->KA κ (arrOf st') i=KA κ (arrOf st') (lo+m-1))->Q (none,m,neq) st'):wpS M A E s (vb lo n nrem) Q st:=by
 unfold vb;refine wpS_forRange (I:=fun x c st'=>∃neq,c=(none,x,neq)/\SB S kd lo st0 st'/\ke κ (arrOf st') lo x/\neq+1<=x /\
   (∀i,lo+x-(neq+1)<=i->i<lo+x->KA κ (arrOf st') i=KA κ (arrOf st') (lo+x-1))) ?step ?fin ⟨0,rfl,hB,hs,by omega,fun i h1 h2=>by congr 1;omega⟩
 case fin=>
  rintro c st' ⟨neq,rfl,hB',hs',hq,he⟩;rw[show max n nrem=nrem by omega]at hs' hq he ⊢;exact h nrem neq st' hB' hnn (Nat.le_refl _) hs' hq he
 case step=>
  rintro x c st' hax hxn ⟨neq,rfl,hB',hs',hq,he⟩;dsimp only;have hsz:lo+x<=(arrOf st').size:=by rw[hB'.size];omega
  have e1:lo+x-1=lo+(x-1):=by omega
  refine wpS_bind (iO T hB' (by omega) (by omega) ?_);by_cases hless:KA κ (arrOf st') (lo+x)<KA κ (arrOf st') (lo+x-1)
  ·simp only[hless,decide_true,if_true]
   have step1:∀xs:Array Keyed,(∀k,KA κ xs k=KA κ (arrOf st') k)->ke κ xs lo (x+1):=by
    intro xs hk i j hij hj;rw[hk,hk];by_cases hjx:j<x
    ·exact hs' i j hij hjx
    ·have hj':j=x:=by omega
     subst hj';by_cases hi':i=j
     ·subst hi';exact Int.le_refl _
     ·rw[e1]at hless
      exact Int.le_trans (Int.le_of_lt hless) (hs' i (j-1) (by omega) (by omega))
   by_cases hneq:neq>0
   ·rw[if_pos hneq]
    refine wpS_bind (kJ (wpS_pure ⟨0,rfl,hB'.setArr (mirror_perm _ _ _ _) (fZ hsz (by omega)),step1 _ (ci hsz he),by omega,fun i h1 h2=>by congr 1;omega⟩))
   ·rw[if_neg hneq]
    exact wpS_pure ⟨0,rfl,hB',step1 _ (fun _=>rfl),by omega,fun i h1 h2=>by congr 1;omega⟩
  ·simp only[hless,decide_false,Bool.false_eq_true,if_false]
   refine wpS_bind (iO T hB' (by omega) (by omega) ?_);by_cases hlarger:KA κ (arrOf st') (lo+x-1)<KA κ (arrOf st') (lo+x)
   ·simp only[hlarger,decide_true,if_true]
    exact wpS_pure (h x neq st' hB' hax (by omega) hs' hq he)
   ·simp only[hlarger,decide_false,Bool.false_eq_true,if_false]
    have heqx:KA κ (arrOf st') (lo+x)=KA κ (arrOf st') (lo+x-1):=by omega
    refine wpS_pure ⟨neq+1,rfl,hB',fun i j hij hj=>?_,by omega,fun i h1 h2=>?_⟩
    ·by_cases hjx:j<x
     ·exact hs' i j hij hjx
     ·have hj':j=x:=by omega
      subst hj';by_cases hi':i=j
      ·subst hi';exact Int.le_refl _
      ·rw[heqx,e1];exact hs' i (j-1) (by omega) (by omega)
    ·rw[show lo+(x+1)-1=lo+x by omega]
     by_cases hix:i=lo+x
     ·subst hix;rfl
     ·rw[heqx];exact he i (by omega) (by omega)
theorem il(T:du M A E s kd κ S){n nrem:Nat}{Q:Option Nat->SortSt->Prop}(hn:lo+nrem<=(arrOf st0).size)(hnn:n+1<=nrem)(hB:SB S kd lo st0 st)(hs:ke κ (arrOf st) lo (n+1))
  (h:∀m st',SB S kd lo st0 st'->1<=m->m<=nrem->mR κ (arrOf st') lo m->Q (some m) st'):wpS M A E s (fT lo n nrem) Q st:=by
 unfold fT;refine wpS_bind (wpS_lift (wpAny_rule ⟨rfl,?_⟩));refine wpS_bind (vx T hn (by omega) hnn hB hs fun m neq st' hB' hm1 hm2 hs' hq he=>?_)
 dsimp only;have hsz:lo+m<=(arrOf st').size:=by rw[hB'.size];omega
 by_cases hneq:neq>0
 ·rw[if_pos hneq]
  refine wpS_bind (kJ (li T hn (by omega) hm2 (hB'.setArr (mirror_perm _ _ _ _) (fZ hsz (by omega))) ?_ h));intro i j hij hj;show KA κ (mirror (arrOf st') _ _ _) (lo+j)<=KA κ (mirror (arrOf st') _ _ _) (lo+i);rw[ci hsz he,ci hsz he];exact hs' i j hij hj
 ·rw[if_neg hneq]
  exact li T hn (by omega) hm2 hB' hs' h
theorem Ah(T:du M A E s kd κ S){nrem:Nat}{Q:Option Nat->SortSt->Prop}(hn:lo+nrem<=(arrOf st0).size)(h1:1<=nrem)(hB:SB S kd lo st0 st)
  (h:∀m st',SB S kd lo st0 st'->1<=m->m<=nrem->mR κ (arrOf st') lo m->Q (some m) st'):wpS M A E s (countRun' lo nrem) Q st:=by
 rw[pX];refine wpS_bind (qp T hn (Nat.le_refl 1) h1 hB (fun i j hij hj=>by rw[show i=j by omega];exact Int.le_refl _) fun n hn1 hn2 hsn hor=>?_)
 dsimp only;by_cases hnn:n=nrem
 ·rw[if_pos (by simpa using hnn)]
  exact wpS_pure (h n st hB hn1 hn2 hsn)
 ·rw[if_neg (by simpa using hnn)]
  have hlt:KA κ (arrOf st) (lo+n)<KA κ (arrOf st) (lo+(n-1)):=by
   have:=hor.resolve_left hnn
   rwa [show lo+n-1=lo+(n-1) by omega]at this
  by_cases hgt:n>1
  ·rw[if_pos hgt]
   refine wpS_bind (iO T hB (by omega) (by omega) ?_);by_cases hrose:KA κ (arrOf st) lo<KA κ (arrOf st) (lo+n-1)
   ·simp only[hrose,decide_true,if_true]
    exact wpS_pure (h n st hB hn1 hn2 hsn)
   ·simp only[hrose,decide_false,Bool.false_eq_true,if_false]
    have hsz:lo+n<=(arrOf st).size:=by rw[hB.size];omega
    have hall:∀k,k<n->KA κ (arrOf st) (lo+k)=KA κ (arrOf st) (lo+n-1):=by
     intro k hk;have a1:=hsn 0 k (by omega) hk;have a2:=hsn k (n-1) (by omega) (by omega);rw[Nat.add_zero]at a1;rw[show lo+n-1=lo+(n-1) by omega]at hrose ⊢;omega
    have hall':∀k,lo<=k->k<lo+n->KA κ (arrOf st) k=KA κ (arrOf st) (lo+n-1):=fun k k1 k2=>by
     have:=hall (k-lo) (by omega)
     rwa [show lo+(k-lo)=k by omega]at this
    refine wpS_bind (kJ (il T hn (by omega) (hB.setArr (mirror_perm _ _ _ _) (fZ hsz (Nat.le_refl _))) ?_ h));intro i j hij hj;show KA κ (mirror (arrOf st) _ _ _) (lo+j)<=KA κ (mirror (arrOf st) _ _ _) (lo+i);rw[ci hsz hall',ci hsz hall'];by_cases hjn:j<n
    ·rw[hall i (by omega),hall j hjn];exact Int.le_refl _
    ·have hj':j=n:=by omega
     subst hj';by_cases hi':i=j
     ·subst hi';exact Int.le_refl _
     ·rw[hall i (by omega),show lo+j-1=lo+(j-1) by omega];exact Int.le_of_lt hlt
  ·rw[if_neg hgt]
   have hn1':n=1:=by omega
   subst hn1';refine il T hn (by omega) hB ?_ h;intro i j hij hj;by_cases hi':i=j
   ·subst hi';exact Int.le_refl _
   ·have hi0:i=0:=by omega
    have hj1:j=1:=by omega
    subst hi0;subst hj1;exact Int.le_of_lt hlt
end
noncomputable def jE:Nat->List (List Keyed)->List (Nat×Nat)
 |_,[]=>[]
 |o,g::gs=>(o,g.length)::jE (o+g.length) gs
theorem iR:∀(A B:List (List Keyed)) (o:Nat),jE o (A++B)=jE o A++jE (o+A.flatten.length) B
 |[],B,o=>by simp[jE]
 |g::A,B,o=>by
  rw[List.cons_append,jE,jE,iR A B,List.flatten_cons,List.length_append,Nat.add_assoc];rfl
theorem lD:∀(A:List (List Keyed)) (o:Nat),(jE o A).length=A.length
 |[],_=>rfl
 |g::A,o=>by rw[jE,List.length_cons,List.length_cons,lD A]
section
variable{M:Model}{A:Around}{E:Value->Shared->Prop}{s:Shared}{κ:Keyed->Int}{S:Keyed->Prop}{kd:SortKind}{all:List Keyed}
structure RS (κ:Keyed->Int) (S:Keyed->Prop) (kd:SortKind) (all:List Keyed) (st:SortSt) (segs:List (List Keyed)) (rest:List Keyed):Prop where
 arr:(arrOf st).toList=segs.flatten++rest
 tl:(pendingOf st).toList.map (fun e=>(e.1,e.2.1))=jE 0 segs
 asc:∀g∈segs,Asc κ g
 ne:∀g∈segs,g≠[]
 kind:kindOf st=kd
 failed:failedOf st=none
 perm:(arrOf st).toList.Perm all
 sall:∀x∈all,S x
theorem RS.size{st:SortSt}{segs:List (List Keyed)}{rest:List Keyed}(h:RS κ S kd all st segs rest):(pendingOf st).size=segs.length:=by
 have:=congrArg List.length h.tl;rw[List.length_map,Array.length_toList,lD]at this;exact this
theorem Er{α:Type}{l:List α}{i:Nat}(h:i+1<l.length):∃A x y B,l=A++x::y::B/\A.length=i:=
 ⟨l.take i,l[i],l[i+1],l.drop (i+2),by
  conv=>lhs;rw[<-List.take_append_drop i l]
  rw[List.drop_eq_getElem_cons (by omega),List.drop_eq_getElem_cons h],by rw[List.length_take];omega⟩
theorem lj(T:du M A E s kd κ S){st:SortSt}{segs:List (List Keyed)}{rest:List Keyed}{i:Nat}{Q:Bool->SortSt->Prop}(h:RS κ S kd all st segs rest)(hi:i+1<segs.length)
  (q:∀st' segs',RS κ S kd all st' segs' rest->segs'.length+1=segs.length->segs'.flatten.length=segs.flatten.length->Q true st'):wpS M A E s (mergeAt' i) Q st:=by
 obtain⟨S1,g1,g2,S2,rfl,e⟩:=Er hi;have ha:(arrOf st).toList=S1.flatten++(g1++(g2++(S2.flatten++rest))):=by rw[h.arr];simp[List.append_assoc]
 have ht:=h.tl;rw[iR]at ht;simp only[jE,Nat.zero_add]at ht;obtain⟨P1,P2,ep,e1,e2⟩:=List.map_eq_append_iff.mp ht;obtain⟨⟨a1,a2,pw⟩,P3,rfl,f1,e3⟩:=List.map_eq_cons_iff.mp e2;obtain⟨⟨b1,b2,pw2⟩,P4,rfl,f2,e4⟩:=List.map_eq_cons_iff.mp e3;simp only[Prod.mk.injEq]at f1 f2;obtain⟨rfl,rfl⟩:=f1;obtain⟨rfl,rfl⟩:=f2;have lP:P1.length=i:=by
  have:=congrArg List.length e1;rw[List.length_map,lD]at this;omega
 have p1:(pendingOf st)[i]? = some (S1.flatten.length,g1.length,pw):=by
  rw[<-Array.getElem?_toList,ep,List.getElem?_append_right (by omega),lP,Nat.sub_self];rfl
 have p2:(pendingOf st)[i+1]? = some (S1.flatten.length+g1.length,g2.length,pw2):=by
  rw[<-Array.getElem?_toList,ep,List.getElem?_append_right (by omega),lP,show i+1-i=1 by omega];rfl
 refine Af T h.kind h.failed ha (h.asc _ (by simp)) (h.asc _ (by simp)) (h.ne _ (by simp)) (h.ne _ (by simp)) (fun x hx=>h.sall x (h.perm.mem_iff.mp (by rw[ha];simp at hx ⊢;rcases hx with hx|hx<;>simp[hx]))) p1 p2 fun st' g gp ga ea ek ef epd=>?_
 have lg:g.length=g1.length+g2.length:=by rw[gp.length_eq,List.length_append]
 refine q st' (S1++g::S2) ⟨by rw[ea];simp[List.append_assoc],?_,fun x hx=>?_,fun x hx=>?_,ek,ef,?_,h.sall⟩ (by simp;omega) (by simp[lg];omega)
 ·rw[epd,Array.toList_eraseIdxIfInBounds,Array.toList_setIfInBounds,ep,<-lP]
  have t1:(P1++(S1.flatten.length,g1.length,pw)::(S1.flatten.length+g1.length,g2.length,pw2)::P4).set P1.length (S1.flatten.length,g1.length+g2.length,pw)=P1++(S1.flatten.length,g1.length+g2.length,pw)::(S1.flatten.length+g1.length,g2.length,pw2)::P4:=by simp
  rw[t1];have t2:(P1++(S1.flatten.length,g1.length+g2.length,pw)::(S1.flatten.length+g1.length,g2.length,pw2)::P4).eraseIdx (P1.length+1)=P1++(S1.flatten.length,g1.length+g2.length,pw)::P4:=by
   rw[List.eraseIdx_append_of_length_le (by omega),show P1.length+1-P1.length=1 by omega];rfl
  rw[t2,List.map_append,e1,List.map_cons,e4,iR,jE,lg,Nat.zero_add,Nat.add_assoc]
 ·rcases List.mem_append.mp hx with hx|hx
  ·exact h.asc x (by simp[hx])
  ·rcases List.mem_cons.mp hx with rfl|hx
   ·exact ga
   ·exact h.asc x (by simp[hx])
 ·rcases List.mem_append.mp hx with hx|hx
  ·exact h.ne x (by simp[hx])
  ·rcases List.mem_cons.mp hx with rfl|hx
   ·have:=h.ne g1 (by simp)
    intro z;subst z;have:=List.length_pos_iff.mpr this;simp at lg;omega
   ·exact h.ne x (by simp[hx])
 ·have hp:=h.perm
  rw[ha]at hp;rw[ea];refine List.Perm.trans ((List.Perm.refl S1.flatten).append ?_) hp;rw[<-List.append_assoc g1];exact gp.append_right _
end
section
variable{M:Model}{A:Around}{E:Value->Shared->Prop}{s:Shared}{κ:Keyed->Int}{S:Keyed->Prop}{kd:SortKind}{all:List Keyed}
theorem uA{st0 st:SortSt}{segs:List (List Keyed)}{rest:List Keyed}{n:Nat}(h:RS κ S kd all st0 segs rest)(hB:SB S kd segs.flatten.length st0 st)(hu:mR κ (arrOf st) segs.flatten.length n)(hn:segs.flatten.length+n<=(arrOf st0).size):
  ∃rest',RS κ S kd all st segs rest'/\Asc κ (rest'.take n)/\rest'.length=rest.length:=by
 have hp:(arrOf st).toList.Perm (arrOf st0).toList:=Array.perm_iff_toList_perm.mp hB.perm;have pre0:∀lo,(∀k,k<lo->(arrOf st)[k]? = (arrOf st0)[k]?)->(arrOf st).toList.take lo=(arrOf st0).toList.take lo:=fun lo hq=>by
  apply List.ext_getElem?;intro k;by_cases hk:k<lo
  ·rw[List.getElem?_take_of_lt hk,List.getElem?_take_of_lt hk,Array.getElem?_toList,Array.getElem?_toList]
   exact hq k hk
  ·rw[List.getElem?_eq_none (by rw[List.length_take];omega),List.getElem?_eq_none (by rw[List.length_take];omega)]
 have pre:(arrOf st).toList.take segs.flatten.length=segs.flatten:=by rw[pre0 _ hB.pre,h.arr,List.take_left]
 have arr:(arrOf st).toList=segs.flatten++(arrOf st).toList.drop segs.flatten.length:=by
  conv=>lhs;rw[<-List.take_append_drop segs.flatten.length (arrOf st).toList,pre]
 have pm:=hp;rw[arr,h.arr]at pm;have pr:=(List.perm_append_left_iff _).mp pm;refine⟨_,⟨arr,by rw[hB.pend];exact h.tl,h.asc,h.ne,hB.kind,hB.failed,hp.trans h.perm,h.sall⟩,?_,pr.length_eq⟩;have get:∀i,i<n->((arrOf st).toList.drop segs.flatten.length)[i]? = (arrOf st)[segs.flatten.length+i]?:=fun i _=>by rw[List.getElem?_drop,Array.getElem?_toList]
 refine List.pairwise_iff_getElem.mpr fun i j hi hj hij=>?_
 rw[List.length_take]at hi hj;have:=hu i j (by omega) (by omega);unfold KA at this;rw[<-get i (by omega),<-get j (by omega),List.getElem?_eq_getElem (by omega),List.getElem?_eq_getElem (by omega)]at this;rw[List.getElem_take,List.getElem_take];exact this
theorem RS.push{st:SortSt}{segs:List (List Keyed)}{rest:List Keyed}{n pw:Nat}(h:RS κ S kd all st segs rest)(ha:Asc κ (rest.take n))(h1:1<=n)(hn:n<=rest.length):
  RS κ S kd all (setPending st ((pendingOf st).push (segs.flatten.length,n,pw))) (segs++[rest.take n]) (rest.drop n):=by
 have ln:(rest.take n).length=n:=by rw[List.length_take];omega
 refine⟨?_,?_,fun g hg=>?_,fun g hg=>?_,h.kind,h.failed,h.perm,h.sall⟩
 ·rw[List.flatten_append,List.append_assoc]
  simp only[List.flatten_cons,List.flatten_nil,List.append_nil];rw[List.take_append_drop];exact h.arr
 ·show((pendingOf st).push _).toList.map _=_
  rw[Array.toList_push,List.map_append,h.tl,iR];simp[jE,ln]
 ·rcases List.mem_append.mp hg with hg|hg
  ·exact h.asc g hg
  ·rw[List.mem_singleton.mp hg];exact ha
 ·rcases List.mem_append.mp hg with hg|hg
  ·exact h.ne g hg
  ·rw[List.mem_singleton.mp hg]
   intro z;rw[z]at ln;simp at ln;omega
theorem RS.pow{st:SortSt}{segs:List (List Keyed)}{rest:List Keyed}{pw i:Nat}(h:RS κ S kd all st segs rest):RS κ S kd all (setPending st ((pendingOf st).modify i fun x=>(x.1,x.2.1,pw))) segs rest:=by
 refine⟨h.arr,?_,h.asc,h.ne,h.kind,h.failed,h.perm,h.sall⟩;rw[<-h.tl];show((pendingOf st).modify i _).toList.map _=_;rw[Array.toList_modify];apply List.ext_getElem?;intro k;rw[List.getElem?_map,List.getElem?_map,List.getElem?_modify];cases(pendingOf st).toList[k]? with
 |none=>rfl
 |some x=>
  by_cases e:i=k
  ·simp[e]
  ·simp[e]
noncomputable def nW(size pw:Nat):StateT SortSt Sem (Option Unit×Unit):=
 forIn [0:size] ((none,()):Option Unit×Unit) fun _ _=>do
  let d <-get
  match if(pendingOf d).size>1 then(pendingOf d)[(pendingOf d).size-2]? else none with
  |some (_,_,older)=>
   if older<=pw then pure (ForInStep.done (none,()))
   else do
    let ok <-mergeAt' ((pendingOf d).size-2)
    if(!ok)=true then pure (ForInStep.done (some (),()))else pure (ForInStep.yield (none,()))
  |_=>pure (ForInStep.done (none,()))
theorem jd(T:du M A E s kd κ S){st:SortSt}{segs:List (List Keyed)}{rest:List Keyed}{size pw:Nat}(r:RS κ S kd all st segs rest):
  wpS M A E s (nW size pw) (fun c st'=>c=(none,())/\∃segs',RS κ S kd all st' segs' rest/\segs'.flatten.length=segs.flatten.length) st:=by
 unfold nW;refine wpS_forRange (I:=fun _ c st'=>c=(none,())/\∃segs',RS κ S kd all st' segs' rest/\segs'.flatten.length=segs.flatten.length) ?step (fun _ _ h=>h) ⟨rfl,segs,r,rfl⟩
 rintro t c st' _ _ ⟨rfl,segs',r',e'⟩;refine wpS_bind (wpS_get ?_);have hs:=r'.size;by_cases c1:(pendingOf st').size>1
 ·rw[if_pos c1,Array.getElem?_eq_getElem (by omega)]
  dsimp only;split
  ·exact wpS_pure ⟨rfl,segs',r',e'⟩
  ·refine wpS_bind (lj T r' (by omega) fun st2 segs2 r2 _ e2=>?_)
   simp only[Bool.not_true,Bool.false_eq_true,if_false];exact wpS_pure ⟨rfl,segs2,r2,e2.trans e'⟩
 ·rw[if_neg c1]
  exact wpS_pure ⟨rfl,segs',r',e'⟩
theorem kS{segs:List (List Keyed)}{rest:List Keyed}{n:Nat}{st2:SortSt}{segs2:List (List Keyed)}(r2:RS κ S kd all st2 segs2 rest)(ha:Asc κ (rest.take n))(h1:1<=n)(hn:n<=rest.length)(e2:segs2.flatten.length=segs.flatten.length):wpS M A E s (do
   modify fun s=>setPending s ((pendingOf s).push (segs.flatten.length,n,0))
   pure (ForInStep.yield ((none:Option Unit),segs.flatten.length+n))) (fun c st'=>∃segs' rest',c=.yield (none,segs'.flatten.length)/\RS κ S kd all st' segs' rest'/\segs'.flatten.length=segs.flatten.length+n) st2:=by
 have ln:(segs2++[rest.take n]).flatten.length=segs.flatten.length+n:=by
  rw[List.flatten_append,List.length_append,e2];simp;omega
 refine wpS_bind (wpS_modify (wpS_pure ⟨segs2++[rest.take n],rest.drop n,by rw[ln],?_,ln⟩));rw[<-e2];exact r2.push ha h1 hn
theorem ql(T:du M A E s kd κ S){st:SortSt}{Q:Unit->SortSt->Prop}(hk:kindOf st=kd)(hf:failedOf st=none)(hp:pendingOf st = #[])(hS:∀x∈(arrOf st).toList,S x)
  (h:∀st',(arrOf st').toList.Perm (arrOf st).toList->failedOf st'=none->Asc κ (arrOf st').toList->Q () st'):wpS M A E s sortRuns' Q st:=by
 rw[sortRuns'_eq];refine wpS_bind (wpS_get ?_);dsimp only;have r0:RS κ S kd (arrOf st).toList st [] (arrOf st).toList:=⟨rfl,by rw[hp];rfl,(fun _ z=>nomatch z),(fun _ z=>nomatch z),hk,hf,List.Perm.refl _,hS⟩;have sz:∀{st':SortSt} {segs:List (List Keyed)} {rest:List Keyed},RS κ S kd (arrOf st).toList st' segs rest->(arrOf st').size=(arrOf st).size:=fun r=>by
  have:=r.perm.length_eq
  rwa [Array.length_toList,Array.length_toList]at this
 refine wpS_bind (wpS_mono (wpS_forRange (I:=fun t c st'=>∃segs rest,c=(none,segs.flatten.length)/\RS κ S kd (arrOf st).toList st' segs rest/\t<=segs.flatten.length)
  (Q:=fun c st'=>∃segs,c.1=none/\RS κ S kd (arrOf st).toList st' segs []) ?step ?fin ⟨[],_,rfl,r0,by simp⟩) ?post)
 case fin=>
  rintro c st' ⟨segs,rest,rfl,r,ht⟩;have l:=congrArg List.length r.arr;rw[List.length_append,Array.length_toList,sz r]at l;have:rest=[]:=List.length_eq_zero_iff.mp (by omega);subst this;exact⟨segs,rfl,r⟩
 case post=>
  rintro c st' ⟨segs,hc,r⟩;rw[hc];dsimp only;have nl:segs.length<=(arrOf st).size:=by
   have l:=congrArg List.length r.arr;rw[List.append_nil,Array.length_toList,sz r]at l;have:∀L:List (List Keyed),(∀g∈L,g≠[])->L.length<=L.flatten.length:=by
    intro L
    induction L with
    |nil=>intro _;simp
    |cons g L ih=>
     intro hg;have:=ih fun x hx=>hg x (List.mem_cons_of_mem _ hx)
     have:=List.length_pos_iff.mpr (hg g List.mem_cons_self);rw[List.flatten_cons,List.length_append,List.length_cons];omega
   have:=this segs r.ne;omega
  refine wpS_bind (wpS_mono (wpS_forRange (I:=fun t c st'=>c=(none,())/\∃segs,RS κ S kd (arrOf st).toList st' segs []/\(segs.length<=1\/segs.length+t<=(arrOf st).size))
   (Q:=fun c st'=>c=(none,())/\∃segs,RS κ S kd (arrOf st).toList st' segs []/\segs.length<=1) ?step2 ?fin2 ⟨rfl,segs,r,.inr nl⟩) ?post2)
  case fin2=>
   rintro c st2 ⟨rfl,segs,r,hq⟩;exact⟨rfl,segs,r,by omega⟩
  case post2=>
   rintro c st2 ⟨rfl,segs,r,hq⟩;refine wpS_pure (h st2 r.perm r.failed ?_);rw[r.arr,List.append_nil]
   match segs,hq with
   |[],_=>exact List.Pairwise.nil
   |[g],_=>simpa using r.asc g (by simp)
  case step2=>
   rintro t c st2 _ ht ⟨rfl,segs,r,hq⟩;refine wpS_bind (wpS_get ?_);have hs:=r.size;by_cases c1:(pendingOf st2).size<=1
   ·rw[if_pos c1]
    exact wpS_pure ⟨rfl,segs,r,by omega⟩
   ·rw[if_neg c1]
    have ix:∀(c:Prop) [Decidable c],(if c then(pendingOf st2).size-2-1 else(pendingOf st2).size-2)+1<segs.length:=fun c _=>by split<;>omega
    refine wpS_bind (lj T r (ix _) fun st3 segs3 r3 e3 _=>?_)
    simp only[Bool.not_true,Bool.false_eq_true,if_false];exact wpS_pure ⟨rfl,segs3,r3,by omega⟩
 case step=>
  rintro t c st' _ ht ⟨segs,rest,rfl,r,hl⟩;dsimp only;have l:=congrArg List.length r.arr;rw[List.length_append,Array.length_toList,sz r]at l;by_cases c1:segs.flatten.length>=(arrOf st).size
  ·rw[if_pos c1]
   have:rest=[]:=List.length_eq_zero_iff.mp (by omega);subst this;exact wpS_pure ⟨segs,rfl,r⟩
  rw[if_neg c1];have b0:SB S kd segs.flatten.length st' st':=⟨Array.Perm.refl _,fun _ _=>rfl,r.kind,r.failed,rfl,rfl,fun x hx=>hS x (r.perm.mem_iff.mp hx)⟩
  refine wpS_bind (Ah T (by rw[sz r];omega) (by omega) b0 fun m st2 b2 m1 m2 u2=>?_)
  dsimp only;by_cases c2:m<minRun' (arrOf st).size (arrOf st).size 0
  ·rw[if_pos c2]
   refine wpS_bind (wpS_lift (wpAny_rule ⟨rfl,?_⟩));refine wpS_bind (Ai T (by rw[sz r];omega) (by omega) b2 u2 fun st3 b3 u3=>?_)
   simp only[Bool.not_true,Bool.false_eq_true,if_false];obtain⟨rest',r3,a3,l3⟩:=uA r b3 u3 (by rw[sz r];omega);refine wpS_mono (Q:=fun c st'=>∃segs' rest',c=.yield (none,segs'.flatten.length)/\RS κ S kd (arrOf st).toList st' segs' rest'/\segs'.flatten.length=segs.flatten.length+(min ((arrOf st).size-segs.flatten.length) (minRun' (arrOf st).size (arrOf st).size 0))) ?_ ?_
   ·refine wpS_bind (wpS_get ?_)
    cases e:(pendingOf st3).back? with
    |none=>exact kS r3 a3 (by omega) (by omega) rfl
    |some x=>
     obtain⟨s1,n1,p1⟩:=x;dsimp only;refine wpS_bind (wpS_mono (jd (size:=(arrOf st).size) (pw:=power' (arrOf st).size (2*s1+n1) (2*s1+n1+n1+(min ((arrOf st).size-segs.flatten.length) (minRun' (arrOf st).size (arrOf st).size 0))) (arrOf st).size) T r3) ?_);rintro c st5 ⟨rfl,segs5,r5,e5⟩;dsimp only;exact wpS_bind (wpS_modify (kS r5.pow a3 (by omega) (by omega) e5))
   ·rintro c st4 ⟨segs',rest2,rfl,r4,e4⟩
    exact⟨segs',rest2,rfl,r4,by omega⟩
  ·rw[if_neg c2]
   obtain⟨rest',r3,a3,l3⟩:=uA r b2 u2 (by rw[sz r];omega);refine wpS_mono (Q:=fun c st'=>∃segs' rest',c=.yield (none,segs'.flatten.length)/\RS κ S kd (arrOf st).toList st' segs' rest'/\segs'.flatten.length=segs.flatten.length+m) ?_ ?_
   ·refine wpS_bind (wpS_get ?_)
    cases e:(pendingOf st2).back? with
    |none=>exact kS r3 a3 m1 (by omega) rfl
    |some x=>
     obtain⟨s1,n1,p1⟩:=x;dsimp only;refine wpS_bind (wpS_mono (jd (size:=(arrOf st).size) (pw:=power' (arrOf st).size (2*s1+n1) (2*s1+n1+n1+m) (arrOf st).size) T r3) ?_);rintro c st5 ⟨rfl,segs5,r5,e5⟩;dsimp only;exact wpS_bind (wpS_modify (kS r5.pow a3 m1 (by omega) e5))
   ·rintro c st4 ⟨segs',rest2,rfl,r4,e4⟩
    exact⟨segs',rest2,rfl,r4,by omega⟩
end
end VL
namespace VL
open PySem PySem.Spec PyProof.Rows L2
section
variable{prog:Program}{w:World}{A:Around}{E:Value->Shared->Prop}{s:Shared}
theorem nh{a:Addr}{vs:List Value}{n:Nat}{P:PySem.Fin->Shared->Prop}{kd:SortKind}{κ:Keyed->Int}{S:Keyed->Prop}(ho:s.heap.get? a=some (seqObj "list" vs.toArray n))(PA:Heap->Prop)(x:PA s.heap)(keeps:∀h h':Heap,PA h->(∀b o,o.cls=.type "tuple" -> h.get? b=some o->h'.get? b=some o)->PA h')
  (kindw:2<=vs.length->∀s':Shared,PA s'.heap->∀Q:SortKind->Shared->Prop,Q kd s'->wpAny (model prog w) A (keyKind' vs.toArray) Q E s') (T:∀s':Shared,PA s'.heap->du (model prog w) A E s' kd κ S) (hS:∀v∈vs,S (v,v)) (hz:vs.length<=sizeLine)
  (h:∀out:List Value,out.Perm vs->(out.Pairwise fun x y=>κ (x,x) <= κ (y,y))->P (.done (.ret .none)) { s with heap:=sortedHeap s.heap a vs out.toArray }) :
  wpAny (model prog w) A (Builtin.«list.sort» ⟨[.ref a],[]⟩) P E s:=by
 rw[list_sort_plain];have ha:a<s.heap.objs.size:=Heap.lt_size ho;refine wpAny_bind (listItems_at ho rfl ?_);refine wpAny_bind (listUpdate_at ho rfl ?_);obtain⟨e1,ho1⟩:∃e1,(s.heap.update a (Obj.mapSeq fun _=>#[])).get? a=some (seqObj "list" #[] e1):=⟨_,get?_update_seq ho (fun _=>#[])⟩;refine wpAny_bind (seqEpoch_at ho1 rfl ?_);refine wpAny_bind (wpAny_newTuple ?_);refine wpAny_bind (wpAny_newList ?_);refine wpAny_holding ?_;have ho6:(((s.heap.update a (Obj.mapSeq fun _=>#[])).push (seqObj "tuple" vs.toArray 0)).push (seqObj "list" #[] 0)).get? a=some (seqObj "list" #[] e1):=Heap.get?_push_of_some _ (Heap.get?_push_of_some _ ho1);have kp:∀b o,o.cls=.type "tuple" -> s.heap.get? b=some o->(((s.heap.update a (Obj.mapSeq fun _=>#[])).push (seqObj "tuple" vs.toArray 0)).push (seqObj "list" #[] 0)).get? b=some o:=fun b o hc eo=>by
  have hb:b≠a:=fun z=>by
   subst z;rw[ho]at eo;cases eo;exact absurd hc (by intro z;injection z with z;exact absurd z (by decide))
  exact Heap.get?_push_of_some _ (Heap.get?_push_of_some _ (dY hb eo))
 have x6:=keeps _ _ x kp;show wpAny (model prog w) A _ P E { s with heap:=((s.heap.update a (Obj.mapSeq fun _=>#[])).push (seqObj "tuple" vs.toArray 0)).push (seqObj "list" #[] 0) };dsimp only;have fin:∀st':SortSt,(arrOf st').toList.Perm (pairsOf vs).toList->failedOf st'=none->Asc κ (arrOf st').toList ->
   wpAny (model prog w) A (do
    let sorted:=(arrOf st').map (·.2)
    let touched:=(<-seqEpoch a) != e1
    Builtin.List.listUpdate (.ref a) fun _=>sorted
    if let some e:=failedOf st' then rule "list.sort.comparison-raised";throw e
    if touched then rule "list.sort.modified";raiseError "ValueError" "list modified during sort"
    ret .none) P E { s with heap:=((s.heap.update a (Obj.mapSeq fun _=>#[])).push (seqObj "tuple" vs.toArray 0)).push (seqObj "list" #[] 0) }:=fun st' hp hf hs=>by
  have hm:∀p∈(arrOf st').toList,p=(p.2,p.2):=fun p hq=>by
   have:=hp.mem_iff.mp hq;rw[pairsOf_toList]at this;exact Prod.ext (mem_zip_self this).1 rfl
  have e2:((arrOf st').map (·.2)).toList=(arrOf st').toList.map (·.2):=Array.toList_map;have pm:((arrOf st').toList.map (·.2)).Perm vs:=by
   have:=hp.map (·.2);rw[pairsOf_toList,List.map_snd_zip (Nat.le_refl _)]at this;exact this
  have hsz:((arrOf st').map (·.2)).size=vs.length:=by rw[<-Array.length_toList,e2,pm.length_eq]
  refine wpAny_bind (seqEpoch_at ho6 rfl ?_);refine wpAny_bind (listUpdate_at ho6 rfl ?_ (hsz2:=by rw[hsz];exact Nat.le_succ_of_le hz));rw[hf];simp only[bne_self_eq_false,Bool.false_eq_true,if_false];have ea:(arrOf st').map (·.2)=((arrOf st').toList.map (·.2)).toArray:=by rw[<-e2]
  refine wpAny_pure ?_;have hh:=h ((arrOf st').toList.map (·.2)) pm ?_
  ·rw[<-ea]at hh
   exact hh
  ·rw[List.pairwise_map]
   refine List.Pairwise.imp_of_mem ?_ hs;intro p q hp' hq' hle;rw[hm p hp',hm q hq']at hle;exact hle
 by_cases h2:vs.toArray.size<2
 ·rw[if_pos h2,if_pos h2]
  refine wpAny_bind (wpAny_pure ?_);rw[StateT.run_pure];refine wpAny_bind (wpAny_pure ?_);refine fin (SortSt.mk' general' (vs.toArray.zip vs.toArray) #[] 7 none) (List.Perm.refl _) rfl ?_;show Asc κ (pairsOf vs).toList;rw[pairsOf_toList]
  match vs,h2 with
  |[],_=>exact List.Pairwise.nil
  |[v],_=>exact List.pairwise_singleton _ _
  |_::_::_,h2=>simp at h2;omega
 ·rw[if_neg h2,if_neg h2]
  refine wpAny_bind (kindw (by simp at h2;omega) _ x6 _ ?_);refine wpAny_bind (wpAny_mono (ql (T _ x6) (st:=SortSt.mk' kd (vs.toArray.zip vs.toArray) #[] 7 none)
   (Q:=fun _ st'=>(arrOf st').toList.Perm (pairsOf vs).toList/\failedOf st'=none/\Asc κ (arrOf st').toList) rfl rfl rfl (fun p hp=>?_) fun st' a1 a2 a3=>⟨a1,a2,a3⟩) ?_ fun _ _ e=>e)
  ·have hp:p∈(pairsOf vs).toList:=hp
   rw[pairsOf_toList]at hp;obtain⟨q1,q2⟩:=mem_zip_self hp;have:p=(p.1,p.1):=Prod.ext rfl q1.symm;rw[this];exact hS _ q2
  ·rintro⟨⟨⟩,st'⟩ s' ⟨rfl,hp,hf,hs⟩
   exact fin st' hp hf hs
end
noncomputable def fQ:bb->bb->Bool
 |.inl a,.inl b=>decide (a<b)
 |.inr a,.inr b=>decide (a.cps.toList<b.cps.toList)
 |.inl _,.inr _=>true
 |.inr _,.inl _=>false
noncomputable def dB:List bb->List bb->Bool
 |[],[]=>false
 |[],_::_=>true
 |_::_,[]=>false
 |a::r,b::t=>if a=b then dB r t else fQ a b
noncomputable def wy(x:List bb):List (List bb)->List (List bb)
 |[]=>[x]
 |y::r=>if dB y x then y::wy x r else x::y::r
noncomputable def dj:List (List bb)->List (List bb)
 |[]=>[]
 |x::r=>wy x (dj r)
noncomputable def Eh:bb->Bool
 |.inl _=>true
 |.inr _=>false
noncomputable def nH:List bb->Bool
 |.inr _::r=>r.all Eh
 |_=>false
noncomputable def ud:List bb->Bool
 |.inl _::r=>r.all Eh
 |_=>false
theorem str_eq{x y:Str}(h:x.cps.toList=y.cps.toList):x=y:=by
 cases x;cases y;simp only[Str.mk.injEq];exact Array.toList_inj.mp h
theorem wm(a:bb):fQ a a=false:=by
 cases a with
 |inl a=>simp[fQ]
 |inr a=>simp[fQ,List.lt_irrefl]
theorem wl(a b:bb)(h:a≠b):fQ a b=!fQ b a:=by
 cases a with
 |inl a=>
  cases b with
  |inl b=>
   have:a≠b:=fun z=>h (by rw[z])
   simp only[fQ];rcases Int.lt_trichotomy a b with q|q|q
   ·rw[decide_eq_true q,decide_eq_false (by omega)];rfl
   ·exact absurd q this
   ·rw[decide_eq_false (by omega),decide_eq_true q];rfl
  |inr b=>rfl
 |inr a=>
  cases b with
  |inl b=>rfl
  |inr b=>
   have:a.cps.toList≠b.cps.toList:=fun z=>h (by rw[str_eq z])
   simp only[fQ];by_cases q:a.cps.toList<b.cps.toList
   ·rw[decide_eq_true q,decide_eq_false (List.lt_asymm q)];rfl
   ·rw[decide_eq_false q]
    have q:=List.not_lt.mp q;rcases List.le_iff_lt_or_eq.mp q with q|q
    ·rw[decide_eq_true q];rfl
    ·exact absurd q.symm this
theorem yK{a b c:bb}(h1:fQ a b=true)(h2:fQ b c=true):fQ a c=true:=by
 cases a<;>cases b<;>cases c<;>simp only[fQ,decide_eq_true_eq,Bool.false_eq_true]at h1 h2 ⊢
 ·omega
 ·exact List.lt_trans h1 h2
theorem jf:∀a:List bb,dB a a=false
 |[]=>rfl
 |x::r=>by simp[dB,jf r]
theorem gJ:∀(a b:List bb),a≠b->dB a b=!dB b a
 |[],[],h=>absurd rfl h
 |[],_::_,_=>rfl
 |_::_,[],_=>rfl
 |x::r,y::t,h=>by
  by_cases e:x=y
  ·subst e
   simp only[dB,if_true];exact gJ r t fun z=>h (by rw[z])
  ·simp only[dB]
   rw[if_neg e,if_neg (Ne.symm e)];exact wl x y e
theorem je:∀{a b c:List bb},dB a b=true->dB b c=true->dB a c=true
 |[],[],_,h,_=>by cases h
 |[],_::_,[],_,h=>by cases h
 |[],_::_,_::_,_,_=>rfl
 |_::_,[],_,h,_=>by cases h
 |_::_,_::_,[],_,h=>by cases h
 |x::r,y::t,z::u,h1,h2=>by
  simp only[dB]at h1 h2 ⊢;by_cases e:x=y
  ·subst e
   rw[if_pos rfl]at h1;by_cases e2:x=z
   ·subst e2
    rw[if_pos rfl]at h2 ⊢;exact je h1 h2
   ·rw[if_neg e2]at h2 ⊢
    exact h2
  ·rw[if_neg e]at h1
   by_cases e2:y=z
   ·subst e2
    rw[if_neg e];exact h1
   ·rw[if_neg e2]at h2
    have h3:=yK h1 h2;by_cases e3:x=z
    ·subst e3
     rw[wm]at h3;cases h3
    ·rw[if_neg e3];exact h3
def rn(a b:List bb):Prop:=dB b a=false
theorem yB{a b:List bb}(h1:rn a b)(h2:rn b a):a=b:=by
 by_cases e:a=b
 ·exact e
 ·have:=gJ a b e
  unfold rn at h1 h2;rw[h1,h2]at this;cases this
theorem DW{a b c:List bb}(h1:rn a b)(h2:rn b c):rn a c:=by
 unfold rn at *;cases h:dB c a with
 |false=>rfl
 |true=>
  by_cases e:b=c
  ·subst e;rw[h]at h1;cases h1
  ·have:=gJ b c e
   rw[h2]at this;rw[je (by simpa using this) h]at h1;cases h1
theorem jT(x:List bb):∀l,(wy x l).Perm (x::l)
 |[]=>.refl _
 |y::r=>by
  unfold wy;split
  ·exact((jT x r).cons y).trans (.swap x y r)
  ·exact .refl _
theorem gK:∀l,(dj l).Perm l
 |[]=>.refl _
 |x::r=>(jT x _).trans ((gK r).cons x)
theorem uY(x:List bb):∀l,l.Pairwise rn->(wy x l).Pairwise rn
 |[],_=>List.pairwise_singleton _ _
 |y::r,h=>by
  unfold wy;obtain⟨h1,h2⟩:=List.pairwise_cons.mp h;split
  ·rename_i q
   refine List.pairwise_cons.mpr ⟨fun z hz=>?_,uY x r h2⟩
   rcases List.mem_cons.mp ((jT x r).mem_iff.mp hz)with rfl|hz
   ·unfold rn
    cases e:dB z y with
    |false=>rfl
    |true=>
     have:=je q e;rw[jf]at this;cases this
   ·exact h1 z hz
  ·rename_i q
   have q:rn x y:=by simpa[rn]using q
   refine List.pairwise_cons.mpr ⟨fun z hz=>?_,h⟩
   rcases List.mem_cons.mp hz with rfl|hz
   ·exact q
   ·exact DW q (h1 z hz)
theorem jQ:∀l,(dj l).Pairwise rn
 |[]=>.nil
 |x::r=>uY x _ (jQ r)
theorem kf:∀{a b:List (List bb)},a.Perm b->a.Pairwise rn->b.Pairwise rn->a=b
 |[],b,p,_,_=>(List.nil_perm.mp p).symm
 |x::r,[],p,_,_=>absurd p.length_eq (by simp)
 |x::r,y::t,p,h1,h2=>by
  obtain⟨a1,a2⟩:=List.pairwise_cons.mp h1;obtain⟨b1,b2⟩:=List.pairwise_cons.mp h2;have e:x=y:=by
   rcases List.mem_cons.mp (p.mem_iff.mp (List.mem_cons_self (a:=x) (l:=r)))with e|e
   ·exact e
   ·rcases List.mem_cons.mp (p.mem_iff.mpr (List.mem_cons_self (a:=y) (l:=t)))with f|f
    ·exact f.symm
    ·exact yB (a1 y f) (b1 x e)
  subst e;rw[kf ((List.perm_cons x).mp p) a2 b2]
theorem jR{a b:List (List bb)}(p:a.Perm b)(h:a.Pairwise rn):a=dj b:=kf (p.trans (gK b).symm) h (jQ b)
section
variable{prog:Program}{w:World}{A:Around}{E:Value->Shared->Prop}{s:Shared}
def IQ:bb->Value->Prop
 |.inl i,v=>∃t,v=.int i t
 |.inr x,v=>∃t,v=.str x t
inductive KVals:List bb->List Value->Prop
 |nil:KVals [] []
 |cons {k v ks vs}:IQ k v->KVals ks vs->KVals (k::ks) (v::vs)
theorem KVals.one:∀{k k':List bb} {vs:List Value},KVals k vs->KVals k' vs->k=k'
 |_,_,_,.nil,.nil=>rfl
 |_,_,_,.cons (k:=a) h1 r1,.cons (k:=b) h2 r2=>by
  have e:=KVals.one r1 r2;subst e;cases a<;>cases b<;>obtain⟨t,rfl⟩:=h1<;>obtain⟨u,h2⟩:=h2<;>first|cases h2;rfl|cases h2
noncomputable def fh:List bb->List bb->Bool
 |a::r,b::t=>if a=b then fh r t else Eh a==Eh b
 |_,_=>true
theorem yA{fin:Bool}{Q:Bool->Shared->Prop}:∀{k1 k2:List bb} {xs ys:List Value} {i:Nat},KVals k1 xs->KVals k2 ys->fh k1 k2=true->fin=decide (xs.length<ys.length)->Q (dB k1 k2) s->PySem.W.KatLex prog w A true fin Q (xs.zip ys) i s
 |_,_,_,_,i,.nil,.nil,_,hf,q=>by
  subst hf;exact PySem.W.kat_nil q
 |_,_,_,_,i,.nil,.cons h r,_,hf,q=>by
  subst hf;exact PySem.W.kat_nil (by simpa[dB]using q)
 |_,_,_,_,i,.cons h r,.nil,_,hf,q=>by
  subst hf;rw[List.zip_nil_right];exact PySem.W.kat_nil (by simpa[dB]using q)
 |_,_,_,_,i,.cons (k:=a) (vs:=xs) h1 r1,.cons (k:=b) (vs:=ys) h2 r2,hc,hf,q=>by
  have hf:fin=decide (xs.length<ys.length):=by rw[hf];simp
  rw[List.zip_cons_cons];refine PySem.W.kat_cons ?_;simp only[dB,fh]at q hc;by_cases e:a=b
  ·subst e
   rw[if_pos rfl]at q hc;have go:=yA (i:=i+1) r1 r2 hc hf q;cases a with
   |inl a=>
    obtain⟨t,rfl⟩:=h1;obtain⟨u,rfl⟩:=h2;refine SeqAt.EqAt.int_int a t a u _ _ _ _ ?_;rw[beq_self_eq_true];exact PySem.W.kat_yes go
   |inr a=>
    obtain⟨t,rfl⟩:=h1;obtain⟨u,rfl⟩:=h2;refine SeqAt.EqAt.str_str a t a u _ _ _ _ ?_;rw[beq_self_eq_true];exact PySem.W.kat_yes go
  ·rw[if_neg e]at q hc
   cases a with
   |inl a=>
    cases b with
    |inr b=>cases hc
    |inl b=>
     obtain⟨t,rfl⟩:=h1;obtain⟨u,rfl⟩:=h2;refine SeqAt.EqAt.int_int a t b u _ _ _ _ ?_;rw[beq_eq_false_iff_ne.mpr fun z=>e (by rw[z])]
     refine PySem.W.kat_no ?_;cases i with
     |zero=>exact oneLt_int q
     |succ i=>exact PySem.W.kat_one _ _ (lt_int q)
   |inr a=>
    cases b with
    |inl b=>cases hc
    |inr b=>
     obtain⟨t,rfl⟩:=h1;obtain⟨u,rfl⟩:=h2;refine SeqAt.EqAt.str_str a t b u _ _ _ _ ?_;rw[beq_eq_false_iff_ne.mpr fun z=>e (by rw[z])]
     refine PySem.W.kat_no ?_;cases i with
     |zero=>exact oneLt_str q
     |succ i=>exact PySem.W.kat_one _ _ (lt_str q)
def KAt(h:Heap)(v:Value)(k:List bb):Prop:=∃b o xs n,v=.ref b/\h.get? b=some o/\o.cls=.type "tuple" /\ o.data=.seq xs n/\KVals k xs.toList
theorem KAt.one{h:Heap}{v:Value}{k k':List bb}(h1:KAt h v k)(h2:KAt h v k'):k=k':=by
 obtain⟨b,o,xs,n,rfl,e1,e2,e3,e4⟩:=h1;obtain⟨b',o',xs',n',q,f1,f2,f3,f4⟩:=h2;cases q;rw[e1]at f1;cases f1;rw[e3]at f3;cases f3;exact e4.one f4
theorem KAt.keeps{h h':Heap}{v:Value}{k:List bb}(x:KAt h v k)(kp:∀b o,o.cls=.type "tuple" -> h.get? b=some o->h'.get? b=some o):KAt h' v k:=by
 obtain⟨b,o,xs,n,rfl,e1,e2,e3,e4⟩:=x;exact⟨b,o,xs,n,rfl,kp b o e2 e1,e2,e3,e4⟩
theorem CZ{x y:Value}{k1 k2:List bb}{Q:Bool->Shared->Prop}(h1:KAt s.heap x k1)(h2:KAt s.heap y k2)(hc:fh k1 k2=true)(q:Q (dB k1 k2) s):wpAny (model prog w) A (keyLt' (tuples' true) x y) Q E s:=by
 obtain⟨b,o,xs,n,rfl,e1,e2,e3,e4⟩:=h1;obtain⟨b',o',xs',n',rfl,f1,f2,f3,f4⟩:=h2;exact PySem.W.kat_lt e1 e3 f1 f3 (yA e4 f4 hc (by simp) q)
noncomputable def i5(ks:List (List bb))(k:List bb):Int:=((ks.filter fun x=>dB x k).length:Nat)
theorem jW{α:Type}{p q:α -> Bool}:∀(l:List α),(∀x∈l,p x=true->q x=true)->(l.filter p).length<=(l.filter q).length
 |[],_=>Nat.le_refl _
 |x::l,h=>by
  have ih:=jW l fun y hy=>h y (List.mem_cons_of_mem _ hy)
  have hx:=h x List.mem_cons_self;rw[List.filter_cons,List.filter_cons];cases e:p x with
  |false=>
   rw[if_neg (by simp)];split
   ·rw[List.length_cons];omega
   ·exact ih
  |true=>
   rw[if_pos rfl,if_pos (hx e),List.length_cons,List.length_cons];omega
theorem oh{α:Type}{p q:α -> Bool}:∀(l:List α),(∀x∈l,p x=true->q x=true)->(∃x∈l,p x=false/\q x=true)->(l.filter p).length<(l.filter q).length
 |[],_,⟨x,hx,_⟩=>by cases hx
 |x::l,h,⟨y,hy,h1,h2⟩=>by
  have ih:=jW l fun y hy=>h y (List.mem_cons_of_mem _ hy)
  have hx:=h x List.mem_cons_self;rw[List.filter_cons,List.filter_cons];rcases List.mem_cons.mp hy with rfl|hy
  ·rw[if_neg (by rw[h1];simp),if_pos h2,List.length_cons];omega
  ·have ih:=oh l (fun y hy=>h y (List.mem_cons_of_mem _ hy)) ⟨y,hy,h1,h2⟩
   cases e:p x with
   |false=>
    rw[if_neg (by simp)];split
    ·rw[List.length_cons];omega
    ·exact ih
   |true=>
    rw[if_pos rfl,if_pos (hx e),List.length_cons,List.length_cons];omega
theorem qQ{ks:List (List bb)}{x y:List bb}(hx:x∈ks):decide (i5 ks x<i5 ks y)=dB x y:=by
 unfold i5;cases e:dB x y with
 |true=>
  refine decide_eq_true ?_;exact Int.ofNat_lt.mpr (oh ks (fun z _ hz=>je hz e) ⟨x,hx,jf x,e⟩)
 |false=>
  refine decide_eq_false ?_;have:=jW (p:=fun z=>dB z y) (q:=fun z=>dB z x) ks fun z _ hz=>by
   by_cases q:y=x
   ·subst q;exact hz
   ·have:=gJ y x q
    rw[e]at this;exact je hz this
  omega
open Classical in
noncomputable def tz(h:Heap)(v:Value):List bb:=if q:∃k,KAt h v k then q.choose else []
theorem pJ{h:Heap}{v:Value}{k:List bb}(x:KAt h v k):tz h v=k:=by
 unfold tz;have q:∃k,KAt h v k:=⟨k,x⟩;rw[dif_pos q];exact q.choose_spec.one x
theorem sF{h0:Heap}{ks:List (List bb)}(hc:∀x∈ks,∀y∈ks,fh x y=true)(kp:∀b o,o.cls=.type "tuple" -> h0.get? b=some o->s.heap.get? b=some o):
  du (model prog w) A E s (tuples' true) (fun p=>i5 ks (tz h0 p.1)) (fun p=>∃k∈ks,KAt h0 p.1 k):=fun x y hx hy st Q ek q=>by
 obtain⟨k1,m1,a1⟩:=hx;obtain⟨k2,m2,a2⟩:=hy;have q:Q (some (decide (i5 ks (tz h0 x.1)<i5 ks (tz h0 y.1)))) st:=q;rw[pJ a1,pJ a2,qQ m1]at q;rw[lt'_eq];refine wpS_bind (wpS_get ?_);rw[ek];exact wpS_bind (wpS_lift (wpAny_attempt (CZ (a1.keeps kp) (a2.keeps kp) (hc _ m1 _ m2) ⟨rfl,wpS_pure q⟩)))
theorem mi:∀{a b:List bb},a.all Eh=true->b.all Eh=true->fh a b=true
 |[],_,_,_=>by simp[fh]
 |_::_,[],_,_=>by simp[fh]
 |x::r,y::t,h1,h2=>by
  simp only[List.all_cons,Bool.and_eq_true]at h1 h2;simp only[fh];split
  ·exact mi h1.2 h2.2
  ·rw[h1.1,h2.1];rfl
theorem xg{a b:List bb}(h1:nH a=true)(h2:nH b=true):fh a b=true:=by
 match a,b,h1,h2 with
 |.inr x::r,.inr y::t,h1,h2=>
  simp only[fh];split
  ·exact mi h1 h2
  ·rfl
theorem B7{a b:List bb}(h1:ud a=true)(h2:ud b=true):fh a b=true:=by
 match a,b,h1,h2 with
 |.inl x::r,.inl y::t,h1,h2=>
  simp only[fh];split
  ·exact mi h1 h2
  ·rfl
inductive KAts (h:Heap):List Value->List (List bb)->Prop
 |nil:KAts h [] []
 |cons {v k vs ks}:KAt h v k->KAts h vs ks->KAts h (v::vs) (k::ks)
theorem KAts.keeps{h h':Heap}(kp:∀b o,o.cls=.type "tuple" -> h.get? b=some o->h'.get? b=some o):∀{vs:List Value} {ks:List (List bb)},KAts h vs ks->KAts h' vs ks
 |_,_,.nil=>.nil
 |_,_,.cons x r=>.cons (x.keeps kp) (KAts.keeps kp r)
theorem KAts.map{h:Heap}:∀{vs:List Value} {ks:List (List bb)},KAts h vs ks->vs.map (tz h)=ks
 |_,_,.nil=>rfl
 |_,_,.cons x r=>by rw[List.map_cons,pJ x,KAts.map r]
theorem KAts.mem{h:Heap}:∀{vs:List Value} {ks:List (List bb)},KAts h vs ks->∀v∈vs,∃k∈ks,KAt h v k
 |_,_,.cons (k:=k) x r,v,hv=>by
  rcases List.mem_cons.mp hv with rfl|hv
  ·exact⟨k,List.mem_cons_self,x⟩
  ·obtain⟨k',m,y⟩:=KAts.mem r v hv
   exact⟨k',List.mem_cons_of_mem _ m,y⟩
theorem KAts.of_map{h:Heap}:∀{vs:List Value},(∀v∈vs,∃k,KAt h v k)->KAts h vs (vs.map (tz h))
 |[],_=>.nil
 |v::vs,H=>by
  obtain⟨k,x⟩:=H v List.mem_cons_self;rw[List.map_cons,pJ x];exact .cons x (KAts.of_map fun u hu=>H u (List.mem_cons_of_mem _ hu))
noncomputable def Cd:Bool->Value
 |true=>.type "str"
 |false=>.type "int"
theorem KAts.tups{h:Heap}{b:Bool}:∀{vs:List Value} {ks:List (List bb)},KAts h vs ks->(∀k∈ks,(if b then nH k else ud k)=true)->∃fs:List Value,fs.length=vs.length/\PySem.W.KatTups h vs fs/\∀v∈fs,∀M:Model,PySem.W.Looks M h (typeOf v) (Cd b)
 |_,_,.nil,_=>⟨[],rfl,trivial,fun v h=>by cases h⟩
 |_,_,.cons (k:=k) x r,hk=>by
  obtain⟨fs,h1,h2,h3⟩:=KAts.tups r fun k' m=>hk k' (List.mem_cons_of_mem _ m)
  obtain⟨a,o,xs,n,rfl,e1,e2,e3,e4⟩:=x;have hk:=hk k List.mem_cons_self;obtain⟨f,ef,lf⟩:∃f,xs[0]? = some f/\∀M:Model,PySem.W.Looks M h (typeOf f) (Cd b):=by
   cases b with
   |true=>
    match k,hk,e4 with
    |.inr y::t,_,e4=>
     generalize exs:xs.toList=l at e4;cases e4 with
     |cons hv hr=>
      obtain⟨u,rfl⟩:=hv;refine⟨_,by rw[<-Array.getElem?_toList,exs];rfl,fun M=>PySem.W.Looks.of_pure rfl⟩
   |false=>
    match k,hk,e4 with
    |.inl y::t,_,e4=>
     generalize exs:xs.toList=l at e4;cases e4 with
     |cons hv hr=>
      obtain⟨u,rfl⟩:=hv;refine⟨_,by rw[<-Array.getElem?_toList,exs];rfl,fun M=>PySem.W.Looks.of_pure rfl⟩
  refine⟨f::fs,by rw[List.length_cons,List.length_cons,h1],⟨⟨a,o,xs,n,rfl,e1,e2,e3,ef⟩,h2⟩,fun v hv=>?_⟩
  rcases List.mem_cons.mp hv with rfl|hv
  ·exact lf
  ·exact h3 v hv
theorem vN{α β:Type}{f:α -> β}{R:β -> β -> Prop}{l:List α}(h:l.Pairwise fun x y=>R (f x) (f y)):(l.map f).Pairwise R:=List.pairwise_map.mpr h
theorem lV{a:Addr}{vs:List Value}{ks:List (List bb)}{n:Nat}{P:PySem.Fin->Shared->Prop}(ho:s.heap.get? a=some (seqObj "list" vs.toArray n))(x:KAts s.heap vs ks)(hk:(ks.all nH||ks.all ud)=true)(hz:vs.length<=sizeLine)
  (h:∀out:List Value,out.Perm vs->KAts s.heap out (dj ks)->P (.done (.ret .none)) { s with heap:=sortedHeap s.heap a vs out.toArray }) :
  wpAny (model prog w) A (Builtin.«list.sort» ⟨[.ref a],[]⟩) P E s:=by
 have hc:∀x∈ks,∀y∈ks,fh x y=true:=fun x hx y hy=>by
  rcases Bool.or_eq_true_iff.mp hk with q|q
  ·exact xg (List.all_eq_true.mp q x hx) (List.all_eq_true.mp q y hy)
  ·exact B7 (List.all_eq_true.mp q x hx) (List.all_eq_true.mp q y hy)
 obtain⟨b,hb⟩:∃b:Bool,∀k∈ks,(if b then nH k else ud k)=true:=by
  rcases Bool.or_eq_true_iff.mp hk with q|q
  ·exact⟨true,fun k m=>List.all_eq_true.mp q k m⟩
  ·exact⟨false,fun k m=>List.all_eq_true.mp q k m⟩
 refine nh (kd:=tuples' true) (κ:=fun p=>i5 ks (tz s.heap p.1)) (S:=fun p=>∃k∈ks,KAt s.heap p.1 k) ho (fun h'=>∀(b:Addr) (o:Obj),o.cls=.type "tuple" -> s.heap.get? b=some o->h'.get? b=some o) (fun _ _ _ e=>e) (fun h1 h2 (p:∀(b:Addr) (o:Obj),o.cls=.type "tuple" -> s.heap.get? b=some o->h1.get? b=some o) kp b o (ec:o.cls=.type "tuple") e=>kp b o ec (p b o ec e)) (fun h2 s' kp Q q=>?_) (fun s' kp=>sF hc kp) (fun v hv=>x.mem v hv) hz fun out pm hs=>?_
 ·obtain⟨fs,f1,f2,f3⟩:=(x.keeps kp).tups hb
  refine PySem.W.kat_kind (T:=Cd b) f2 (by omega) (fun v hv=>f3 v hv _) (by cases b<;>decide) ?_;have:(Cd b != Value.type "tuple")=true:=by cases b<;>decide
  rw[this];exact q
 ·have H:∀v∈out,∃k,KAt s.heap v k:=fun v hv=>by
   obtain⟨k,_,y⟩:=x.mem v (pm.mem_iff.mp hv);exact⟨k,y⟩
  have X:=KAts.of_map H;have pk:(out.map (tz s.heap)).Perm ks:=by
   have:=pm.map (tz s.heap)
   rwa [x.map]at this
  have e:out.map (tz s.heap)=dj ks:=by
   refine jR pk ?_;refine vN ?_;refine List.Pairwise.imp_of_mem ?_ hs;intro p q hp hq hle;have m:tz s.heap q∈ks:=pk.mem_iff.mp (List.mem_map.mpr ⟨q,hq,rfl⟩);have:=qQ (y:=tz s.heap p) m;unfold rn;rw[<-this];have hle:i5 ks (tz s.heap p)<=i5 ks (tz s.heap q):=hle;exact decide_eq_false (by omega)
  rw[e]at X;exact h out pm X
end
section
variable{X:Cx}
noncomputable def tu:bb->V
 |.inl i=>.int i
 |.inr x=>.str x
noncomputable def GS:Value->V
 |.ref b=>.ref b
 |_=>.non
inductive KeyVs (K:Fg) (H:Hp):List V->List (List bb)->Prop
 |nil:KeyVs K H [] []
 |cons {b k vs ks}:SqT K H b (k.map tu)->KeyVs K H vs ks->KeyVs K H (.ref b::vs) (k::ks)
theorem ma:∀{k:List bb} {us:List Value},Vals (k.map tu) us->KVals k us
 |[],_,.nil=>.nil
 |.inl i::k,_,.cons h r=>.cons h (ma r)
 |.inr x::k,_,.cons h r=>.cons h (ma r)
theorem yL{pins:List (Addr×Obj)}{σ:St}{H:Hp}{s:Shared}(I:Inv X pins σ H s){b:Addr}{k:List bb}(h:SqT X.K H b (k.map tu)):KAt s.heap (.ref b) k:=by
 obtain⟨its,r,⟨o,e1,e2,n,e3⟩,z⟩:=I.tuple h;exact⟨b,o,its.toArray,n,rfl,e1,e2,e3,by simpa using ma r⟩
theorem rB{pins:List (Addr×Obj)}{σ:St}{Z H:Hp}{s:Shared}(I:Inv X pins σ H s)(zh:Same Z H):∀{vs:List V} {ks:List (List bb)} {its:List Value},KeyVs X.K Z vs ks->Vals vs its->KAts s.heap its ks/\∀u∈its,∃(b:Addr) (k:List bb),u=.ref b/\SqT X.K Z b (k.map tu)
 |_,_,_,.nil,.nil=>⟨.nil,fun u h=>by cases h⟩
 |_,_,_,.cons (b:=b) (k:=k) h r,.cons hv hr=>by
  obtain⟨a2,a3⟩:=rB I zh r hr;have hv:=hv;cases hv;refine⟨.cons (yL I (SqT.same h zh)) a2,fun u hu=>?_⟩
  rcases List.mem_cons.mp hu with rfl|hu
  ·exact⟨b,k,rfl,h⟩
  ·exact a3 u hu
theorem md{pins:List (Addr×Obj)}{σ:St}{Z H:Hp}{s:Shared}(I:Inv X pins σ H s)(zh:Same Z H):∀{out:List Value} {ks:List (List bb)},KAts s.heap out ks->(∀u∈out,∃(b:Addr) (k:List bb),u=.ref b/\SqT X.K Z b (k.map tu))->KeyVs X.K Z (out.map GS) ks/\Vals (out.map GS) out
 |_,_,.nil,_=>⟨.nil,.nil⟩
 |_,_,.cons h r,hs=>by
  obtain⟨a1,a2⟩:=md I zh r fun u hu=>hs u (List.mem_cons_of_mem _ hu)
  obtain⟨b,k',rfl,q⟩:=hs _ List.mem_cons_self;have:=h.one (yL I (SqT.same q zh));subst this;exact⟨.cons q a1,.cons rfl a2⟩
theorem jH{K:Fg}{Z:Hp}:∀k:List bb,Reps K Z (k.map tu) (k.map mf)
 |[]=>.nil
 |.inl i::k=>.cons (.int i) (jH k)
 |.inr x::k=>.cons (.str x) (jH k)
theorem nZ{K:Fg}{Z:Hp}:∀{vs:List V} {ks:List (List bb)},KeyVs K Z vs ks->Reps K Z vs (ks.map fun k=>.tuple (k.map mf))
 |_,_,.nil=>.nil
 |_,_,.cons h r=>.cons (.tup h (jH _)) (nZ r)
variable{e:Expr}{p pos:Pos}{te:TE}{f:Dv->Option D}
end
@[simp] noncomputable def JM(i:Nat)(fk fv:Dv->Option D):Sf:=fun δ=>(fk δ).bind fun dk=>(fv δ).bind fun v=>(wP δ[i]?).bind fun ds=>match dk with
 |.int k=>if 0<=k/\k.toNat<=ds.length/\ds.length<sizeLine then some (.nx,δ.set i (.ow (ds.take k.toNat++v::ds.drop k.toNat)))else none
 |_=>none
section
variable{K:Fg}
noncomputable def gM(ps:List (V×V)):List V:=ps.flatMap fun p=>[p.1,p.2]
end
@[simp] noncomputable def JL(i:Nat)(fk:Dv->Option D):Sf:=fun δ=>(fk δ).bind fun dk=>(wP δ[i]?).bind fun ds=>match dk with
 |.int k=>if 0<=k/\k.toNat<ds.length/\ds.length<sizeLine then some (.nx,δ.set i (.ow (ds.eraseIdx k.toNat)))else none
 |_=>none
@[simp] noncomputable def JJ(i:Nat):Sf:=fun δ=>(wP δ[i]?).bind fun ds=>if ds.length<sizeLine then some (.nx,δ.set i (.ow ds.reverse))else none
noncomputable def j7(M:Nat)(p:SetTable.Probe):SetTable.Probe:=if p.more>0 then { p with j:=p.j+1,more:=p.more-1 } else { p with j:=(SetTable.leap M p.i p.perturb).1,more:=SetTable.runEnd M (SetTable.leap M p.i p.perturb).1-(SetTable.leap M p.i p.perturb).1,i:=(SetTable.leap M p.i p.perturb).1,perturb:=(SetTable.leap M p.i p.perturb).2 }
theorem Ey(t:SetTable)(p:SetTable.Probe):t.advance p=j7 t.mask p:=rfl
noncomputable def itP(M:Nat):Nat->SetTable.Probe->SetTable.Probe
 | 0,p=>p
 |n+1,p=>itP M n (j7 M p)
theorem e9(M:Nat):∀(n m:Nat) (p:SetTable.Probe),itP M (n+m) p=itP M m (itP M n p)
 | 0,m,p=>by rw[Nat.zero_add];rfl
 |n+1,m,p=>by rw[Nat.add_right_comm];exact e9 M n m (j7 M p)
theorem yP(M n:Nat)(p:SetTable.Probe):itP M (n+1) p=j7 M (itP M n p):=e9 M n 1 p
theorem zG(M:Nat)(p:SetTable.Probe):(j7 M p).dummy=p.dummy:=by unfold j7;split<;>rfl
theorem CK(M:Nat):∀(n:Nat) (p:SetTable.Probe),(itP M n p).dummy=p.dummy
 | 0,p=>rfl
 |n+1,p=>(CK M n _).trans (zG M p)
noncomputable def zM(M i q:Nat):SetTable.Probe:={ j:=i,more:=SetTable.runEnd M i-i,i:=i,perturb:=q,dummy:=none }
noncomputable def stP0(M:Nat)(h:Int):SetTable.Probe:=zM M (SetTable.bits h%(M+1)) (SetTable.bits h)
theorem C9(M i:Nat):SetTable.runEnd M i-i<=9:=by unfold SetTable.runEnd;split<;>omega
theorem tE(M i q:Nat):∀(r:Nat) (k j:Nat),k<=r->itP M k { j:=j,more:=r,i:=i,perturb:=q,dummy:=none }={ j:=j+k,more:=r-k,i:=i,perturb:=q,dummy:=none }
 |r,0,j,_=>rfl
 | 0,k+1,j,h=>by omega
 |r+1,k+1,j,h=>by
  show itP M k (j7 M _)=_;have:j7 M { j:=j,more:=r+1,i:=i,perturb:=q,dummy:=none }={ j:=j+1,more:=r,i:=i,perturb:=q,dummy:=none }:=by unfold j7;rw[if_pos (by show r+1>0;omega)];rfl
  rw[this,tE M i q r k (j+1) (by omega)];congr 1<;>omega
theorem pK(M i q:Nat):itP M (SetTable.runEnd M i-i+1) (zM M i q)=zM M (SetTable.leap M i q).1 (SetTable.leap M i q).2:=by
 rw[yP];unfold zM;rw[tE M i q _ _ i (Nat.le_refl _),Nat.sub_self];unfold j7;rw[if_neg (by show ¬ 0>0;omega)]
noncomputable def lps(M:Nat):Nat->Nat×Nat->Nat×Nat
 | 0,x=>x
 |k+1,x=>lps M k (SetTable.leap M x.1 x.2)
theorem yu(M:Nat):∀(k:Nat) (i q:Nat),∃n,n<=10*k/\itP M n (zM M i q)=zM M (lps M k (i,q)).1 (lps M k (i,q)).2
 | 0,i,q=>⟨0,Nat.le_refl _,rfl⟩
 |k+1,i,q=>by
  obtain⟨n,h1,h2⟩:=yu M k (SetTable.leap M i q).1 (SetTable.leap M i q).2;refine⟨SetTable.runEnd M i-i+1+n,?_,?_⟩
  ·have:=C9 M i;omega
  ·rw[e9,pK,h2];rfl
theorem pG(M:Nat):∀(a b:Nat) (x:Nat×Nat),lps M (a+b) x=lps M b (lps M a x)
 | 0,b,x=>by rw[Nat.zero_add];rfl
 |a+1,b,x=>by rw[Nat.add_right_comm];exact pG M a b _
theorem yr(M:Nat):∀(k:Nat) (i q:Nat),(lps M k (i,q)).2=q/32^k
 | 0,i,q=>by simp[lps]
 |k+1,i,q=>by
  show(lps M k (SetTable.leap M i q)).2=_;have:SetTable.leap M i q=((SetTable.leap M i q).1,q/32):=rfl;rw[this,yr M k,Nat.div_div_eq_div_mul,Nat.pow_succ,Nat.mul_comm]
theorem yt(M:Nat):∀(k:Nat) (i q:Nat),i<M+1->(lps M k (i,q)).1<M+1
 | 0,i,q,h=>h
 |k+1,i,q,h=>yt M k _ _ (Nat.mod_lt _ (by omega))
noncomputable def fiv(k:Nat):Nat:=(5^k-1)/4
theorem mr(k:Nat):fiv (k+1)=5*fiv k+1:=by
 unfold fiv;have h1:5^k%4=1:=by
  induction k with
  |zero=>rfl
  |succ k ih=>rw[Nat.pow_succ];omega
 have h2:1<=5^k:=Nat.pow_pos (by decide);rw[Nat.pow_succ];omega
theorem Cy(M:Nat):∀(k:Nat) (i:Nat),i<M+1->(lps M k (i,0)).1=(5^k*i+fiv k)%(M+1)
 | 0,i,h=>by rw[Nat.pow_zero,Nat.one_mul];show i=(i+0)%(M+1);rw[Nat.add_zero,Nat.mod_eq_of_lt h]
 |k+1,i,h=>by
  have e:lps M (k+1) (i,0)=lps M 1 (lps M k (i,0)):=pG M k 1 _;have q:=yr M k i 0;rw[Nat.zero_div]at q;have e2:lps M k (i,0)=((lps M k (i,0)).1,0):=Prod.ext rfl q;rw[e,e2,Cy M k i h];show((5^k*i+fiv k)%(M+1)*5+1+0/32)%(M+1)=_;rw[mr,Nat.zero_div,Nat.add_zero,Nat.add_mod,Nat.mul_mod,Nat.mod_mod,<-Nat.mul_mod,<-Nat.add_mod];congr 1;rw[Nat.pow_succ];generalize 5^k=p;generalize fiv k=f;rw[Nat.add_mul,Nat.mul_right_comm,Nat.mul_comm f 5,Nat.add_assoc]
def uI(M:Nat):Prop:=M=7\/M=31\/M=127
theorem GM:∀j,j<8->∃s,s<8/\fiv s%8=j:=by decide +kernel
theorem Ex:∀j,j<32->∃s,s<32/\fiv s%32=j:=by decide +kernel
theorem B8:∀j,j<128->∃s,s<128/\fiv s%128=j:=by decide +kernel
theorem GL{M:Nat}(h:uI M):(∀j,j<M+1->∃s,s<M+1/\fiv s%(M+1)=j)/\fiv (M+1)%(M+1)=0/\5^(M+1)%(M+1)=1:=by
 rcases h with rfl|rfl|rfl
 ·exact⟨GM,by decide +kernel,by decide +kernel⟩
 ·exact⟨Ex,by decide +kernel,by decide +kernel⟩
 ·exact⟨B8,by decide +kernel,by decide +kernel⟩
theorem va(a b:Nat):fiv (a+b)=5^b*fiv a+fiv b:=by
 induction b with
 |zero=>rw[Nat.pow_zero,Nat.one_mul];rfl
 |succ b ih=>
  rw[Nat.add_succ,mr,ih,mr,Nat.pow_succ];generalize 5^b=p;generalize fiv a=x;generalize fiv b=y;rw[Nat.mul_add,Nat.mul_comm p 5,Nat.mul_assoc,Nat.add_assoc]
theorem Dh{M:Nat}(h:uI M){i j:Nat}(hi:i<M+1)(hj:j<M+1):∃s,s<M+1/\(lps M s (i,0)).1=j:=by
 obtain⟨a,b,c⟩:=GL h;obtain⟨si,h1,h2⟩:=a i hi;obtain⟨sj,h3,h4⟩:=a j hj;have key:∀s,(lps M s (i,0)).1=fiv (si+s)%(M+1):=fun s=>by
  rw[Cy M s i hi,va,<-h2,Nat.add_mod,Nat.mul_mod,Nat.mod_mod,<-Nat.mul_mod,<-Nat.add_mod]
 by_cases q:si<=sj
 ·exact⟨sj-si,by omega,by rw[key,show si+(sj-si)=sj by omega,h4]⟩
 ·refine⟨M+1+sj-si,by omega,?_⟩
  rw[key,show si+(M+1+sj-si)=(M+1)+sj by omega,va,Nat.add_mod,Nat.mul_mod,b,Nat.mul_zero,Nat.zero_mod,Nat.zero_add,Nat.mod_mod,h4]
theorem B3(h:Int):SetTable.bits h<2^64:=by
 unfold SetTable.bits;omega
theorem Cn{M:Nat}(h:uI M)(x:Int){j:Nat}(hj:j<M+1):∃k,k<SetTable.turns M/\(lps M k (SetTable.bits x%(M+1),SetTable.bits x)).1=j:=by
 have lt:SetTable.bits x%(M+1)<M+1:=Nat.mod_lt _ (by omega);have q:=yr M 13 (SetTable.bits x%(M+1)) (SetTable.bits x);have z:SetTable.bits x/32^13=0:=Nat.div_eq_of_lt (Nat.lt_of_lt_of_le (B3 x) (by decide));rw[z]at q;obtain⟨s,h1,h2⟩:=Dh h (yt M 13 _ (SetTable.bits x) lt) hj;refine⟨13+s,by unfold SetTable.turns;omega,?_⟩;rw[pG];generalize lps M 13 (SetTable.bits x%(M+1),SetTable.bits x)=y at q h2;obtain⟨y1,y2⟩:=y;dsimp only at q h2;subst q;exact h2
theorem Dg{M:Nat}(h:uI M)(x:Int){j:Nat}(hj:j<M+1):∃n,n<10*SetTable.turns M/\(itP M n (stP0 M x)).j=j:=by
 obtain⟨k,h1,h2⟩:=Cn h x hj;obtain⟨n,h3,h4⟩:=yu M k (SetTable.bits x%(M+1)) (SetTable.bits x);exact⟨n,by omega,by unfold stP0;rw[h4];exact h2⟩
def Lv(t:SetTable)(j:Nat):Prop:=∃i:Nat,t.place[i]? = some j
structure Tab (t:SetTable) (es:Array (Int×Value)):Prop where
 m:uI t.mask
 up:UpA t.place
 nd:t.dummies = #[]
 sz:t.place.size=es.size
 le:∀(i j:Nat),t.place[i]? = some j->j<t.mask+1
 few:es.size*5<t.mask*3
 rc:∀(i j:Nat) (e:Int×Value),t.place[i]? = some j->es[i]? = some e->∃n,(itP t.mask n (stP0 t.mask e.1)).j=j/\∀m,m<n->Lv t (itP t.mask m (stP0 t.mask e.1)).j
theorem fI{t:SetTable}(hu:UpA t.place){i j:Nat}(h:t.place[i]? = some j):t.slot j=.live i:=by
 obtain⟨h1,h2,h3⟩:=fU hu j;obtain⟨hi,hx⟩:=Array.getElem?_eq_some_iff.mp h;have e:SetTable.below t.place j=i:=by
  rcases Nat.lt_trichotomy (SetTable.below t.place j) i with q|q|q
  ·have a:=h3 (SetTable.below t.place j) (by omega) (Nat.le_refl _)
   have b:=hu _ _ (by omega) hi q;omega
  ·exact q
  ·have:=h2 i hi q;omega
 unfold SetTable.slot;simp[e,h]
theorem sH{t:SetTable}(hd:t.dummies = #[]){j:Nat}(h:¬Lv t j):t.slot j=.empty:=by
 unfold SetTable.slot;have:¬(t.place[SetTable.below t.place j]? == some j)=true:=fun z=>h ⟨_,by simpa using z⟩
 simp only[this,if_false,Bool.false_eq_true];rw[hd];simp[SetTable.has]
theorem Bb{t:SetTable}{j:Nat}(h:¬Lv t j):t.place[SetTable.below t.place j]? ≠ some j:=fun z=>h ⟨_,z⟩
theorem u4{t:SetTable}{f:Nat->Int}{h:Int}(hu:UpA t.place)(hd:t.dummies = #[]):∀(n fuel:Nat) (p:SetTable.Probe),n<fuel->p.dummy=none->(∀m,m<n->∃i,t.place[i]? = some (itP t.mask m p).j/\f i≠h) ->
  (¬Lv t (itP t.mask n p).j->SetTable.probe.go t f h fuel p=some (.empty (itP t.mask n p).j none))/\(∀i,t.place[i]? = some (itP t.mask n p).j->f i=h->SetTable.probe.go t f h fuel p=some (.candidate (itP t.mask n p).j i (itP t.mask (n+1) p)))
 | 0,fuel+1,p,_,pd,_=>by
  refine⟨fun z=>?_,fun i hi e=>?_⟩
  ·unfold SetTable.probe.go
   have z:¬Lv t p.j:=z;rw[sH hd z,pd];rfl
  ·unfold SetTable.probe.go
   have hi:t.place[i]? = some p.j:=hi;rw[fI hu hi];dsimp only;rw[if_pos (by simp[e])];rfl
 |n+1,fuel+1,p,hn,pd,hm=>by
  obtain⟨i0,h1,h2⟩:=hm 0 (by omega);have h1:t.place[i0]? = some p.j:=h1;have st:SetTable.probe.go t f h (fuel+1) p=SetTable.probe.go t f h fuel (t.advance p):=by
   conv=>lhs;unfold SetTable.probe.go
   rw[fI hu h1];dsimp only;rw[if_neg (by simp[h2])]
  rw[st,Ey];exact u4 hu hd n fuel (j7 t.mask p) (by omega) ((zG _ _).trans pd) fun m hm'=>hm (m+1) (by omega)
theorem Cu:∀(l m:List Nat),l.Nodup->(∀x∈l,x∈m)->l.length<=m.length
 |[],m,_,_=>Nat.zero_le _
 |a::l,m,h,s=>by
  obtain⟨h1,h2⟩:=List.nodup_cons.mp h;have:=Cu l (m.erase a) h2 fun x hx=>(List.mem_erase_of_ne (fun z:x=a=>h1 (z ▸ hx))).mpr (s x (List.mem_cons_of_mem _ hx))
  have ha:=s a List.mem_cons_self;have e:=List.length_erase_of_mem ha;have p:=List.length_pos_of_mem ha;rw[List.length_cons];omega
theorem BH{t:SetTable}{n:Nat}(hs:t.place.size=n)(h:n<t.mask+1):∃j,j<t.mask+1/\¬Lv t j:=by
 refine Classical.byContradiction fun z=>?_
 have all:∀j∈List.range (t.mask+1),j∈t.place.toList:=fun j hj=>by
  refine Classical.byContradiction fun q=>z ⟨j,List.mem_range.mp hj,fun⟨i,e⟩=>q ?_⟩
  exact Array.mem_toList_iff.mpr (Array.mem_of_getElem? e)
 have:=Cu _ _ List.nodup_range all;rw[List.length_range,Array.length_toList]at this;omega
theorem uS{P:Nat->Prop}:∀n,P n->∃m,m<=n/\P m/\∀k,k<m->¬P k:=fun n=>by
 induction n using Nat.strongRecOn with
 |_ n ih=>
  intro h;by_cases q:∃k,k<n/\P k
  ·obtain⟨k,h1,h2⟩:=q
   obtain⟨m,h3,h4⟩:=ih k h1 h2;exact⟨m,by omega,h4⟩
  ·exact⟨n,Nat.le_refl _,h,fun k hk z=>q ⟨k,hk,z⟩⟩
theorem tN{t:SetTable}{n:Nat}(hm:uI t.mask)(hs:t.place.size=n)(h:n<t.mask+1)(x:Int):∃N,N<10*SetTable.turns t.mask/\¬Lv t (itP t.mask N (stP0 t.mask x)).j/\∀m,m<N->Lv t (itP t.mask m (stP0 t.mask x)).j:=by
 obtain⟨j,h1,h2⟩:=BH hs h;obtain⟨k,h3,h4⟩:=Dg hm x h1;obtain⟨N,h5,h6,h7⟩:=uS (P:=fun n=>¬Lv t (itP t.mask n (stP0 t.mask x)).j) k (by rw[h4];exact h2)
 exact⟨N,by omega,h6,fun m hm'=>Classical.not_not.mp (h7 m hm')⟩
theorem o7{M i:Nat}(h:i<M+1):SetTable.runEnd M i<M+1:=by unfold SetTable.runEnd;split<;>omega
def CS(M:Nat)(p:SetTable.Probe):Prop:=p.j+p.more<M+1
theorem AL{M:Nat}{p:SetTable.Probe}(h:CS M p):CS M (j7 M p):=by
 unfold j7;split
 ·unfold CS at *;dsimp only;omega
 ·unfold CS
  have lt:(SetTable.leap M p.i p.perturb).1<M+1:=Nat.mod_lt _ (by omega);have:=o7 lt;dsimp only;have:(SetTable.leap M p.i p.perturb).1<=SetTable.runEnd M (SetTable.leap M p.i p.perturb).1:=by unfold SetTable.runEnd;split<;>omega
  omega
theorem xW{M:Nat}:∀(n:Nat) {p:SetTable.Probe},CS M p->CS M (itP M n p)
 | 0,_,h=>h
 |n+1,_,h=>xW n (AL h)
theorem Fy(M:Nat)(x:Int):CS M (stP0 M x):=by
 have lt:SetTable.bits x%(M+1)<M+1:=Nat.mod_lt _ (by omega);have:=o7 lt;have:SetTable.bits x%(M+1)<=SetTable.runEnd M (SetTable.bits x%(M+1)):=by unfold SetTable.runEnd;split<;>omega
 show SetTable.bits x%(M+1)+(SetTable.runEnd M (SetTable.bits x%(M+1))-SetTable.bits x%(M+1))<M+1;omega
theorem yO(M n:Nat)(x:Int):(itP M n (stP0 M x)).j<M+1:=by
 have:=xW n (Fy M x);unfold CS at this;omega
theorem fR{α:Type}(xs:Array α)(p:Nat)(x:α):(SetTable.insertAt xs p x).size=xs.size+1:=by
 have:=(SetTable.insertAt_perm xs p x).length_eq;simpa using this
theorem jj{α:Type}{xs:Array α}{p:Nat}{x:α}(hp:p<=xs.size)(i:Nat):(SetTable.insertAt xs p x)[i]? = if i<p then xs[i]? else if i=p then some x else xs[i-1]?:=by
 rw[<-Array.getElem?_toList,SetTable.toList_insertAt];have hl:(xs.toList.take p).length=p:=by rw[List.length_take,Array.length_toList];omega
 by_cases h1:i<p
 ·rw[if_pos h1,List.getElem?_append_left (by omega),List.getElem?_take_of_lt h1,Array.getElem?_toList]
 ·rw[if_neg h1,List.getElem?_append_right (by omega),hl]
  by_cases h2:i=p
  ·subst h2
   rw[if_pos rfl,Nat.sub_self,List.getElem?_cons_zero]
  ·rw[if_neg h2]
   obtain⟨k,rfl⟩:∃k,i=p+k+1:=⟨i-p-1,by omega⟩;rw[show p+k+1-p=k+1 by omega,List.getElem?_cons_succ,List.getElem?_drop,Array.getElem?_toList];rfl
theorem oa{α:Type}{xs:Array α}{p:Nat}{x y:α}(hp:p<=xs.size){i:Nat}(h:(SetTable.insertAt xs p x)[i]? = some y):(i=p/\y=x)\/(i<p/\xs[i]? = some y)\/(p<i/\xs[i-1]? = some y):=by
 rw[jj hp]at h;split at h
 ·exact .inr (.inl ⟨by assumption,h⟩)
 ·split at h
  ·exact .inl ⟨by assumption,(Option.some.inj h).symm⟩
  ·exact .inr (.inr ⟨by omega,h⟩)
theorem db(t:SetTable)(j:Nat):(t.put j).1.place=SetTable.insertAt t.place (SetTable.below t.place j) j:=rfl
theorem xP(t:SetTable)(j:Nat):(t.put j).1.mask=t.mask:=rfl
theorem Dk{t:SetTable}(hu:UpA t.place){j k:Nat}(h:Lv t k):Lv (t.put j).1 k:=by
 obtain⟨i,e⟩:=h;have hp:=(fU hu j).1;by_cases q:i<SetTable.below t.place j
 ·exact⟨i,by rw[db,jj hp,if_pos q];exact e⟩
 ·exact⟨i+1,by rw[db,jj hp,if_neg (by omega),if_neg (by omega),Nat.add_sub_cancel];exact e⟩
theorem Tab.put{t:SetTable}{es:Array (Int×Value)}(T:Tab t es){x:Int}{v:Value}{N:Nat}(h1:¬Lv t (itP t.mask N (stP0 t.mask x)).j)(h2:∀m,m<N->Lv t (itP t.mask m (stP0 t.mask x)).j)(hf:(es.size+1)*5<t.mask*3){t':SetTable}(ht:t'.place=(t.put (itP t.mask N (stP0 t.mask x)).j).1.place)(hM:t'.mask=t.mask)(hD:t'.dummies = #[]):
  Tab t' (SetTable.insertAt es (SetTable.below t.place (itP t.mask N (stP0 t.mask x)).j) (x,v)):=by
 have lt:=yO t.mask N x;have hp:=(fU T.up (itP t.mask N (stP0 t.mask x)).j).1;have hp':SetTable.below t.place (itP t.mask N (stP0 t.mask x)).j<=es.size:=by rw[<-T.sz];exact hp
 have lift:∀k,Lv t k->Lv t' k:=fun k z=>by
  obtain⟨i,e⟩:=Dk T.up (j:=(itP t.mask N (stP0 t.mask x)).j) z;exact⟨i,by rw[ht];exact e⟩
 refine⟨by rw[hM];exact T.m,by rw[ht,db];exact T.up.insert (Bb h1),hD,by rw[ht,db,fR,fR,T.sz],fun i j e=>?_,by rw[hM,fR];exact hf,fun i j e hi he=>?_⟩
 ·rw[ht,db]at e
  rw[hM];rcases oa hp e with⟨_,q⟩|⟨_,q⟩|⟨_,q⟩
  ·rw[q];exact lt
  ·exact T.le _ _ q
  ·exact T.le _ _ q
 ·rw[ht,db]at hi
  rw[hM];rw[jj hp']at he;rcases oa hp hi with⟨q1,q2⟩|⟨q1,q2⟩|⟨q1,q2⟩
  ·rw[if_neg (by omega),if_pos q1]at he
   cases he;exact⟨N,q2.symm,fun m hm=>lift _ (h2 m hm)⟩
  ·rw[if_pos q1]at he
   obtain⟨n,a,b⟩:=T.rc i j e q2 he;exact⟨n,a,fun m hm=>lift _ (b m hm)⟩
  ·rw[if_neg (by omega),if_neg (by omega)]at he
   obtain⟨n,a,b⟩:=T.rc _ j e q2 he;exact⟨n,a,fun m hm=>lift _ (b m hm)⟩
structure Lay (M:Nat) (hs:List Int) (ow:Array (Option Nat)) (k:Nat):Prop where
 sz:ow.size=M+1
 pm:((List.range (M+1)).filterMap fun j=>ow.getD j none).Perm (List.range k)
 rc:∀(j i:Nat),ow.getD j none=some i->∃x,hs[i]? = some x/\∃n,(itP M n (stP0 M x)).j=j/\∀m,m<n->ow.getD (itP M m (stP0 M x)).j none≠none
theorem Io{ow:Array (Option Nat)}{y:Nat}(h:y<ow.size)(d:Option Nat):ow.getD y d=ow.getD y none:=by simp[Array.getD_eq_getD_getElem?,h]
theorem u7{M:Nat}{ow:Array (Option Nat)}(hsz:ow.size=M+1):∀(fuel i q j:Nat),i<M+1->SetTable.layClean.free M ow fuel i q=some j->ow.getD j none=none/\j<M+1/\∃n,(itP M n (zM M i q)).j=j/\∀m,m<n->ow.getD (itP M m (zM M i q)).j none≠none
 | 0,i,q,j,_,e=>by cases e
 |fuel+1,i,q,j,hi,e=>by
  unfold SetTable.layClean.free at e;have re:=o7 hi;have rj:∀k,k<=SetTable.runEnd M i-i->(itP M k (zM M i q)).j=i+k:=fun k hk=>by unfold zM;rw[tE M i q _ _ i hk]
  have sm:∀y,y<M+1->(ow.getD y (some 0)).isNone=true->ow.getD y none=none:=fun y hy z=>by
   rw[Io (by omega)]at z;exact Option.isNone_iff_eq_none.mp z
  have sn:∀y,y<M+1->¬(ow.getD y (some 0)).isNone=true->ow.getD y none≠none:=fun y hy z e=>by
   rw[Io (by omega),e]at z;exact z rfl
  have ri:i<=SetTable.runEnd M i:=by unfold SetTable.runEnd;split<;>omega
  split at e
  ·rename_i k hk
   cases e;obtain⟨h1,as,bs,h2,h3⟩:=List.find?_eq_some_iff_append.mp hk;have hlen:=congrArg List.length h2;rw[List.length_range,List.length_append,List.length_cons]at hlen;have hkk:as.length=k:=by
    have:=congrArg (fun l=>l[as.length]?) h2;simp only[List.getElem?_append_right (Nat.le_refl _),Nat.sub_self,List.getElem?_cons_zero]at this;rw[List.getElem?_range (by omega)]at this;exact Option.some.inj this
   refine⟨sm _ (by omega) h1,by omega,k,rj k (by omega),fun m hm=>?_⟩
   rw[rj m (by omega)];have hma:m∈as:=by
    have this:(List.range (SetTable.runEnd M i+1-i))[m]? = (as++k::bs)[m]?:=congrArg (fun l=>l[m]?) h2;rw[List.getElem?_range (by omega),List.getElem?_append_left (by omega)]at this;exact List.mem_of_getElem? this.symm
   exact sn _ (by omega) (fun w=>absurd (h3 m hma) (by rw[w];decide))
  ·rename_i hk
   have hno:=List.find?_eq_none.mp hk;obtain⟨a,b,n,c,d⟩:=u7 hsz fuel _ _ j (Nat.mod_lt _ (by omega)) e;refine⟨a,b,SetTable.runEnd M i-i+1+n,by rw[e9,pK];exact c,fun m hm=>?_⟩
   by_cases q1:m<=SetTable.runEnd M i-i
   ·rw[rj m q1]
    exact sn _ (by omega) (hno m (List.mem_range.mpr (by omega)))
   ·obtain⟨m',rfl⟩:∃m',m=SetTable.runEnd M i-i+1+m':=⟨m-(SetTable.runEnd M i-i+1),by omega⟩
    rw[e9,pK];exact d m' (by omega)
theorem og{M:Nat}{ow:Array (Option Nat)}(hsz:ow.size=M+1):∀(fuel k i q:Nat),k<fuel->i<M+1->ow.getD (lps M k (i,q)).1 none=none->SetTable.layClean.free M ow fuel i q≠none
 | 0,k,i,q,h,_,_=>by omega
 |fuel+1,k,i,q,h,hi,z=>by
  unfold SetTable.layClean.free;split
  ·intro e;cases e
  ·rename_i hk
   have hno:=List.find?_eq_none.mp hk;cases k with
   |zero=>
    exfalso;have ri:i<=SetTable.runEnd M i:=by unfold SetTable.runEnd;split<;>omega
    have:=hno 0 (List.mem_range.mpr (by omega));have z:ow.getD i none=none:=z;rw[Nat.add_zero,Io (by omega),z]at this;exact this rfl
   |succ k=>exact og hsz fuel k _ _ (by omega) (Nat.mod_lt _ (by omega)) z
theorem rM{f g:Nat->Option Nat}:∀(l:List Nat),(∀x∈l,g x=f x)->l.filterMap g=l.filterMap f
 |[],_=>rfl
 |a::l,h=>by rw[List.filterMap_cons,List.filterMap_cons,h a List.mem_cons_self,rM l fun x hx=>h x (List.mem_cons_of_mem _ hx)]
theorem zg{f g:Nat->Option Nat}{j k:Nat}(fj:f j=none)(gj:g j=some k)(gx:∀x,x≠j->g x=f x):∀(l:List Nat),l.Nodup->j∈l->(l.filterMap g).Perm (k::l.filterMap f)
 |[],_,h=>by cases h
 |a::l,nd,h=>by
  obtain⟨n1,n2⟩:=List.nodup_cons.mp nd;by_cases e:a=j
  ·subst e
   have same:l.filterMap g=l.filterMap f:=rM l fun x hx=>gx x fun z=>n1 (z ▸ hx)
   rw[List.filterMap_cons,List.filterMap_cons,fj,gj,same]
  ·have hj:j∈l:=by
    rcases List.mem_cons.mp h with z|z
    ·exact absurd z.symm e
    ·exact z
   have ih:=zg fj gj gx l n2 hj;rw[List.filterMap_cons,List.filterMap_cons,gx a e];cases f a with
   |none=>exact ih
   |some b=>exact(ih.cons b).trans (List.Perm.swap k b _)
theorem zi{f:Nat->Option Nat}:∀(l:List Nat),(∀j∈l,f j≠none)->(l.filterMap f).length=l.length
 |[],_=>rfl
 |a::l,h=>by
  obtain⟨b,hb⟩:=Option.ne_none_iff_exists'.mp (h a List.mem_cons_self);rw[List.filterMap_cons,hb,List.length_cons,List.length_cons,zi l fun j hj=>h j (List.mem_cons_of_mem _ hj)]
theorem Lay.step{M:Nat}(hM:uI M){hs:List Int}{ow:Array (Option Nat)}{k:Nat}(L:Lay M hs ow k)(hk:k<M+1){x:Int}(hx:hs[k]? = some x):∃j,SetTable.layClean.free M ow (SetTable.turns M) (SetTable.bits x%(M+1)) (SetTable.bits x)=some j/\Lay M hs (ow.setIfInBounds j (some k)) (k+1):=by
 have lt:SetTable.bits x%(M+1)<M+1:=Nat.mod_lt _ (by omega);obtain⟨j0,h0,h1⟩:∃j0,j0<M+1/\ow.getD j0 none=none:=Classical.byContradiction fun z=>by
  have:=zi (f:=fun j=>ow.getD j none) (List.range (M+1)) fun j hj e=>z ⟨j,List.mem_range.mp hj,e⟩
  rw[L.pm.length_eq,List.length_range,List.length_range]at this;omega
 obtain⟨kk,h2,h3⟩:=Cn hM x h0;have h4:=og L.sz (SetTable.turns M) kk (SetTable.bits x%(M+1)) (SetTable.bits x) h2 lt (by rw[h3];exact h1);obtain⟨j,e⟩:=Option.ne_none_iff_exists'.mp h4;obtain⟨a,b,n,c,d⟩:=u7 L.sz _ _ _ _ lt e;have gs:(ow.setIfInBounds j (some k)).getD j none=some k:=by simp[Array.getD_eq_getD_getElem?,L.sz,b]
 have gn:∀y,y≠j->(ow.setIfInBounds j (some k)).getD y none=ow.getD y none:=fun y hy=>by simp[Array.getD_eq_getD_getElem?,Array.getElem?_setIfInBounds,Ne.symm hy]
 have up:∀y,ow.getD y none≠none->(ow.setIfInBounds j (some k)).getD y none≠none:=fun y hy=>by
  by_cases q:y=j
  ·rw[q,gs];intro z;cases z
  ·rw[gn y q];exact hy
 refine⟨j,e,by rw[Array.size_setIfInBounds];exact L.sz,?_,fun y i hy=>?_⟩
 ·refine(zg (f:=fun j=>ow.getD j none) (g:=fun y=>(ow.setIfInBounds j (some k)).getD y none) a gs gn _ List.nodup_range (List.mem_range.mpr b)).trans ((L.pm.cons k).trans ?_)
  rw[List.range_succ];exact(List.perm_append_singleton k _).symm
 ·by_cases q:y=j
  ·subst q
   rw[gs]at hy;cases hy;exact⟨x,hx,n,c,fun m hm=>up _ (d m hm)⟩
  ·rw[gn y q]at hy
   obtain⟨x',h5,n',h6,h7⟩:=L.rc y i hy;exact⟨x',h5,n',h6,fun m hm=>up _ (h7 m hm)⟩
theorem Lay.nil(M:Nat)(hs:List Int):Lay M hs (Array.replicate (M+1) none) 0:=by
 have g:∀j,(Array.replicate (M+1) (none:Option Nat)).getD j none=none:=fun j=>by
  simp[Array.getD_eq_getD_getElem?,Array.getElem?_replicate];split<;>rfl
 refine⟨by simp,?_,fun j i e=>by rw[g]at e;cases e⟩
 have:((List.range (M+1)).filterMap fun j=>(Array.replicate (M+1) (none:Option Nat)).getD j none)=[]:=List.filterMap_eq_nil_iff.mpr fun j _=>g j
 rw[this];exact .nil
noncomputable def DX(M:Nat)(acc:Option (Array (Option Nat)×Nat))(h:Int):Option (Array (Option Nat)×Nat):=acc.bind fun p=>(SetTable.layClean.free M p.1 (SetTable.turns M) (SetTable.bits h%(M+1)) (SetTable.bits h)).bind fun j=>some (p.1.setIfInBounds j (some p.2),p.2+1)
theorem rz{M:Nat}(hM:uI M){hs:List Int}(hl:hs.length<M+1):∀(l pre:List Int) (ow:Array (Option Nat)),hs=pre++l->Lay M hs ow pre.length->∃ow',l.foldl (DX M) (some (ow,pre.length))=some (ow',hs.length)/\Lay M hs ow' hs.length
 |[],pre,ow,e,L=>by
  rw[List.append_nil]at e;subst e;exact⟨ow,rfl,L⟩
 |x::l,pre,ow,e,L=>by
  have hx:hs[pre.length]? = some x:=by rw[e,List.getElem?_append_right (Nat.le_refl _),Nat.sub_self];rfl
  have hlen:pre.length<hs.length:=by rw[e,List.length_append,List.length_cons];omega
  obtain⟨j,h1,h2⟩:=L.step hM (by omega) hx;have:=rz hM hl l (pre++[x]) (ow.setIfInBounds j (some pre.length)) (by rw[e,List.append_assoc];rfl) (by rw[List.length_append];exact h2);obtain⟨ow',a,b⟩:=this;refine⟨ow',?_,b⟩;rw[List.foldl_cons];have st:DX M (some (ow,pre.length)) x=some (ow.setIfInBounds j (some pre.length),pre.length+1):=by
   unfold DX;rw[Option.bind_some,h1];rfl
  rw[st];rw[List.length_append]at a;exact a
theorem wk{M:Nat}(hM:uI M)(hs:Array Int)(hl:hs.size<M+1):∃ow,SetTable.layClean M hs=some ow/\Lay M hs.toList ow hs.size:=by
 obtain⟨ow,a,b⟩:=rz hM (hs:=hs.toList) (by simpa using hl) hs.toList [] _ rfl (Lay.nil M _);refine⟨ow,?_,by simpa using b⟩;unfold SetTable.layClean;rw[<-Array.foldl_toList];have:(hs.toList.foldl (fun(acc:Option (Array (Option Nat)×Nat)) h=>do
   let (owner,k) <-acc
   let j <-SetTable.layClean.free M owner (SetTable.turns M) (SetTable.bits h%(M+1)) (SetTable.bits h)
   pure (owner.setIfInBounds j (some k),k+1)) (some (Array.replicate (M+1) none,0)))=some (ow,hs.toList.length):=a
 rw[this];rfl
theorem tM(f:Nat->Option Nat):∀l:List Nat,(l.filterMap fun j=>(f j).map (j,·)).map (·.2)=l.filterMap f
 |[]=>rfl
 |a::l=>by
  rw[List.filterMap_cons,List.filterMap_cons];cases f a with
  |none=>exact tM f l
  |some b=>show b::_=b::_;rw[tM f l]
theorem CN{α:Type}(es:Array α):∀(l:List Nat),(∀i∈l,i<es.size)->∀r:Nat,(l.filterMap fun i=>es[i]?)[r]? = l[r]?.bind fun i=>es[i]?
 |[],_,r=>rfl
 |a::l,h,r=>by
  have ha:=h a List.mem_cons_self;rw[List.filterMap_cons,Array.getElem?_eq_getElem ha];cases r with
  |zero=>simp[ha]
  |succ r=>
   rw[List.getElem?_cons_succ,List.getElem?_cons_succ];exact CN es l (fun i hi=>h i (List.mem_cons_of_mem _ hi)) r
theorem vM{t:SetTable}{es:Array (Int×Value)}{wanted:Nat}(hM:uI (SetTable.sizeAbove wanted-1))(hl:es.size<SetTable.sizeAbove wanted-1+1)(few:es.size*5<(SetTable.sizeAbove wanted-1)*3):
  ∃t' order,t.relaid (es.map (·.1)) wanted=some (t',order)/\Tab t' (order.filterMap fun i=>es[i]?)/\List.Perm (order.filterMap fun i=>es[i]?).toList es.toList/\t'.led=t.led:=by
 generalize hw:SetTable.sizeAbove wanted-1=M at hM hl few;obtain⟨ow,a,L⟩:=wk hM (es.map (·.1)) (by rw[Array.size_map];exact hl);rw[Array.size_map]at L;refine⟨_,_,by unfold SetTable.relaid SetTable.laid;rw[hw,a];rfl,?_⟩;have pm:(((List.range (M+1)).filterMap fun j=>(ow.getD j none).map (j,·)).map (·.2)).Perm (List.range es.size):=by rw[tM];exact L.pm
 have ixl:∀i∈((List.range (M+1)).filterMap fun j=>(ow.getD j none).map (j,·)).map (·.2),i<es.size:=fun i hi=>List.mem_range.mp (pm.mem_iff.mp hi)
 have tl:((((List.range (M+1)).filterMap fun j=>(ow.getD j none).map (j,·)).map (·.2)).toArray.filterMap fun i=>es[i]?).toList=(((List.range (M+1)).filterMap fun j=>(ow.getD j none).map (j,·)).map (·.2)).filterMap fun i=>es[i]?:=by rw[Array.toList_filterMap]
 have pes:((((List.range (M+1)).filterMap fun j=>(ow.getD j none).map (j,·)).map (·.2)).toArray.filterMap fun i=>es[i]?).toList.Perm es.toList:=by
  rw[tl];refine(pm.filterMap _).trans ?_;rw[filterMap_getElem?_range]
 have lv:∀j,j<M+1->ow.getD j none≠none->∃i:Nat,(((List.range (M+1)).filterMap fun j=>(ow.getD j none).map (j,·)).map (·.1)).toArray[i]? = some j:=fun j hj hn=>by
  obtain⟨i,hi⟩:=Option.ne_none_iff_exists'.mp hn;have:j∈((List.range (M+1)).filterMap fun j=>(ow.getD j none).map (j,·)).map (·.1):=List.mem_map.mpr ⟨(j,i),List.mem_filterMap.mpr ⟨j,List.mem_range.mpr hj,by rw[hi];rfl⟩,rfl⟩
  obtain⟨r,hr⟩:=List.mem_iff_getElem?.mp this;exact⟨r,by simpa using hr⟩
 have ent:∀(r j:Nat),(((List.range (M+1)).filterMap fun j=>(ow.getD j none).map (j,·)).map (·.1)).toArray[r]? = some j->∃i,((List.range (M+1)).filterMap fun j=>(ow.getD j none).map (j,·))[r]? = some (j,i)/\j<M+1/\ow.getD j none=some i:=fun r j h=>by
  have h:(((List.range (M+1)).filterMap fun j=>(ow.getD j none).map (j,·)).map (·.1))[r]? = some j:=by simpa using h
  rw[List.getElem?_map]at h;obtain⟨⟨j',i⟩,h1,h2⟩:=Option.map_eq_some_iff.mp h;dsimp only at h2;subst h2;obtain⟨c,hc,e⟩:=List.mem_filterMap.mp (List.mem_of_getElem? h1);obtain⟨d,hd,e⟩:=Option.map_eq_some_iff.mp e;cases e;exact⟨i,h1,List.mem_range.mp hc,hd⟩
 refine⟨⟨hM,fun i j hi hj hij=>?_,rfl,?_,fun r j h=>(ent r j h).choose_spec.2.1,?_,fun r j e hr he=>?_⟩,pes,rfl⟩
 ·have:=fY (fun j=>ow.getD j none) (List.range (M+1)) List.pairwise_lt_range
  have:=List.pairwise_iff_getElem.mp this i j (by simpa using hi) (by simpa using hj) hij;simpa using this
 ·have h1:=pes.length_eq
  have h2:=pm.length_eq;rw[Array.length_toList,Array.length_toList]at h1;rw[List.length_map,List.length_range]at h2;rw[h1,List.size_toArray,List.length_map,h2]
 ·have h1:=pes.length_eq
  rw[Array.length_toList,Array.length_toList]at h1;rw[h1];exact few
 ·obtain⟨i,h1,h2,h3⟩:=ent r j hr
  rw[<-Array.getElem?_toList,tl,CN es _ ixl,List.getElem?_map,h1]at he;have he:es[i]? = some e:=he;obtain⟨x,h4,n,h5,h6⟩:=L.rc j i h3;have hx:x=e.1:=by
   rw[Array.getElem?_toList,Array.getElem?_map,he]at h4;exact(Option.some.inj h4).symm
  subst hx;exact⟨n,h5,fun m hm=>lv _ (yO M m _) (h6 m hm)⟩
noncomputable def eF(h:Heap):Value->List Int
 |.ref b=>match h.get? b with
  |some o=>match o.data with
   |.seq items _=>items.toList.map E4
   |_=>[]
  |none=>[]
 |_=>[]
section
variable{prog:Program}{w:World}{A:Around}{E:Value->Shared->Prop}{s:Shared}
theorem uX:∀{ks:List Int} {vs:List Value},ItemsAre (intKind prog w) ks vs->vs.map E4=ks
 |_,_,.nil=>rfl
 |_,_,.cons h r=>by
  obtain⟨t,rfl⟩:=Value.isInt_shape h;rw[List.map_cons,uX r];rfl
theorem eE{h:Heap}{ks:List Int}{b:Addr}(x:IsTupleKey (intKind prog w) h ks b):eF h (.ref b)=ks:=by
 obtain⟨o,items,n,ho,_,hd,hi⟩:=x;show(match h.get? b with|some o=>_|none=>_)=_;rw[ho];dsimp only;rw[hd];exact uX hi
def wN(prog:Program)(w:World)(L:Addr->Prop)(h:Heap)(e:Int×Value):Prop:=∃ks b,e=(tupleKeyHash (intKind prog w) ks,Value.ref b)/\IsTupleKey (intKind prog w) h ks b/\L b
theorem kh{ks:List Int}{a:Addr}{Q:Bool->Shared->Prop}(hk:IsTupleKey (intKind prog w) s.heap ks a)(h:Q false s):wpAny (model prog w) A (ofAClassStatement 8 (.ref a)) Q E s:=by
 have hT:=hk.typeIs;obtain⟨o,items,n,ho,_,hd,hi⟩:=hk;unfold ofAClassStatement;refine wpAny_bind (wpAny_typeOf hT ?_);dsimp only;refine wpAny_bind (wpAny_of_eq (a:=true) (by rfl) ?_);simp only[Bool.not_true,Bool.false_eq_true,if_false];refine wpAny_bind (wpAny_seqItems ho hd ?_);dsimp only;refine wpAny_bind ?_;show wpAny _ _ (forIn items _ _) _ _ s;rw[<-Array.forIn_toList];refine wpAny_forIn_list _ (fun rest r s'=>r.1=none/\s'=s/\∀v∈rest,∃k t,v=Value.int k t) _ ?_ ?_ _ _ ⟨rfl,rfl,fun v hv=>?_⟩
 ·rintro v rest r s' ⟨hr,rfl,hall⟩
  obtain⟨k,t,rfl⟩:=hall v List.mem_cons_self;refine wpAny_bind (wpAny_of_eq (a:=false) (by unfold ofAClassStatement;rfl) ?_);simp only[Bool.false_eq_true,if_false];exact wpAny_pure ⟨rfl,rfl,fun u hu'=>hall u (List.mem_cons_of_mem _ hu')⟩
 ·rintro⟨r1,r2⟩ s' ⟨hr,rfl,_⟩
  simp only at hr;subst hr;exact wpAny_pure h
 ·have go:∀{ks:List Int} {vs:List Value},ItemsAre (intKind prog w) ks vs->∀v∈vs,∃k t,v=Value.int k t:=fun x=>by
   induction x with
   |nil=>intro v hv;cases hv
   |cons h _ ih=>
    intro v hv;rcases List.mem_cons.mp hv with rfl|z
    ·obtain⟨t,q⟩:=Value.isInt_shape h
     exact⟨_,t,q⟩
    ·exact ih v z
  exact go hi v hv
theorem rY{ks:List Int}{a:Addr}{Q:Bool->Shared->Prop}(hk:IsTupleKey (intKind prog w) s.heap ks a)(h:Q true s):wpAny (model prog w) A (hashByValue 8 (.ref a)) Q E s:=by
 have hT:=hk.typeIs;obtain⟨o,items,n,ho,_,hd,hi⟩:=hk;unfold hashByValue;refine wpAny_bind (wpAny_specialOf hT F.slot_tuple_hash.lookup ?_);dsimp only;refine wpAny_bind (wpAny_seqItems ho hd ?_);dsimp only[Option.getD];refine wpAny_bind ?_;rw[<-Array.forIn_toList];refine wpAny_forIn_list _ (fun rest r s'=>r.1=none/\s'=s/\∃ks,ItemsAre (intKind prog w) ks rest) _ ?_ ?_ _ _ ⟨rfl,rfl,ks,hi⟩
 ·rintro v rest r s' ⟨hr,rfl,ks',hall⟩
  cases hall with
  |cons h1 h2=>
   obtain⟨t,rfl⟩:=Value.isInt_shape h1;refine wpAny_bind (wpAny_of_eq (a:=true) (by unfold hashByValue;rfl) ?_);simp only[Bool.not_true,Bool.false_eq_true,if_false];exact wpAny_pure ⟨rfl,rfl,_,h2⟩
 ·rintro⟨r1,r2⟩ s' ⟨hr,rfl,_⟩
  simp only at hr;subst hr;exact wpAny_pure h
theorem xD{ks:List Int}{a:Addr}{l:List Value}{Q:Bool->Shared->Prop}(hk:IsTupleKey (intKind prog w) s.heap ks a)(hl:∀y∈l,∃kb b,y=Value.ref b/\IsTupleKey (intKind prog w) s.heap kb b)(h:Q false s):wpAny (model prog w) A (searchCouldBeSeen (.ref a) l) Q E s:=by
 unfold searchCouldBeSeen;refine wpAny_bind ?_;refine wpAny_forIn_list _ (fun rest r s'=>r.1=none/\s'=s/\∀y∈rest,∃kb b,y=Value.ref b/\IsTupleKey (intKind prog w) s.heap kb b) _ ?_ ?_ _ _ ⟨rfl,rfl,hl⟩
 ·rintro v rest r s' ⟨hr,rfl,hall⟩
  have tl:∀y∈rest,∃kb b,y=Value.ref b/\IsTupleKey (intKind prog w) s'.heap kb b:=fun y hy=>hall y (List.mem_cons_of_mem _ hy)
  obtain⟨kb,b,rfl,hb⟩:=hall v List.mem_cons_self;dsimp only;refine wpAny_ite_split (fun _=>wpAny_pure ⟨rfl,rfl,tl⟩) fun _=>?_
  refine wpAny_bind (wpAny_eqIsQuiet_tuple hk ?_);simp only[Bool.not_true,Bool.false_eq_true,if_false];refine wpAny_bind (wpAny_eqIsQuiet_tuple hb ?_);simp only[Bool.not_true,Bool.false_eq_true,if_false];refine wpAny_bind (kh hk ?_);simp only[Bool.false_eq_true,if_false];refine wpAny_bind (kh hb ?_);simp only[Bool.false_eq_true,if_false];exact wpAny_pure ⟨rfl,rfl,tl⟩
 ·rintro⟨r1,r2⟩ s' ⟨hr,rfl,_⟩
  simp only at hr;subst hr;exact wpAny_pure h
end
theorem A0{M:Nat}(h:uI M):(M%2==0)=false:=by rcases h with rfl|rfl|rfl<;>rfl
section
variable{prog:Program}{w:World}{A:Around}{E:Value->Shared->Prop}{s:Shared}
theorem vJ{L:Addr->Prop}(hu:A.units<cLine){a b:Addr}{es:Array (Int×Value)}{ep:Nat}{t:SetTable}(ho:s.heap.get? a=some (d0 es ep t))(T:Tab t es)(hf:t.fits es.size=true)(hel:∀e∈es.toList,wN prog w L s.heap e){ks:List Int}(hk:IsTupleKey (intKind prog w) s.heap ks b){N:Nat}(hN:N<10*SetTable.turns t.mask)(n1:¬Lv t (itP t.mask N (stP0 t.mask (tupleKeyHash (intKind prog w) ks))).j)(n2:∀m,m<N->Lv t (itP t.mask m (stP0 t.mask (tupleKeyHash (intKind prog w) ks))).j)
  {Q:SetFound->Shared->Prop} (q1:(∃e∈es.toList,eF s.heap e.2=ks)->Q (.there none) s) (q2:(∀m,m<N->∀(i:Nat) e,t.place[i]? = some (itP t.mask m (stP0 t.mask (tupleKeyHash (intKind prog w) ks))).j->es[i]? = some e->eF s.heap e.2≠ks)->Q (.free (itP t.mask N (stP0 t.mask (tupleKeyHash (intKind prog w) ks))).j false) s) :
  ∀(d m fuel:Nat) (stand:Option SetTable.Probe),N-m=d->m<=N->d<fuel->stand.getD (stP0 t.mask (tupleKeyHash (intKind prog w) ks))=itP t.mask m (stP0 t.mask (tupleKeyHash (intKind prog w) ks)) ->
   (∀m',m'<m->∀(i:Nat) e,t.place[i]? = some (itP t.mask m' (stP0 t.mask (tupleKeyHash (intKind prog w) ks))).j->es[i]? = some e->eF s.heap e.2≠ks) ->
   wpAny (model prog w) A (setSearchFrom a (.ref b) (tupleKeyHash (intKind prog w) ks) true fuel stand) Q E s:=by
 generalize hH:tupleKeyHash (intKind prog w) ks=H at *;intro d
 induction d using Nat.strongRecOn with
 |_ d ih=>
  intro m fuel stand hd hm hfu hst hne;cases fuel with
  |zero=>omega
  |succ fuel=>
   unfold setSearchFrom;refine wpAny_bind (wpAny_setState_of ho rfl hf ?_);dsimp only;rw[show t.gaveWay=false from A0 T.m];simp only[Bool.false_eq_true,if_false];have key:∀f:Nat->Int,(∀(i:Nat) e,es[i]? = some e->f i=e.1)->∃k,m+k<=N/\((m+k=N/\t.probe f H (itP t.mask m (stP0 t.mask H))=some (.empty (itP t.mask N (stP0 t.mask H)).j none))\/(m+k<N/\∃(i:Nat) (e:Int×Value),t.place[i]? = some (itP t.mask (m+k) (stP0 t.mask H)).j/\es[i]? = some e/\e.1=H/\t.probe f H (itP t.mask m (stP0 t.mask H))=some (.candidate (itP t.mask (m+k) (stP0 t.mask H)).j i (itP t.mask (m+k+1) (stP0 t.mask H)))))/\∀k',k'<k->∀(i:Nat) e,t.place[i]? = some (itP t.mask (m+k') (stP0 t.mask H)).j->es[i]? = some e->e.1≠H:=fun f hfe=>by
    have ee:∀(i j:Nat),t.place[i]? = some j->∃e,es[i]? = some e:=fun i j h=>by
     have:=(Array.getElem?_eq_some_iff.mp h).1;rw[T.sz]at this;exact⟨es[i],Array.getElem?_eq_getElem this⟩
    obtain⟨k,k1,k2,k3⟩:=uS (P:=fun k=>¬Lv t (itP t.mask (m+k) (stP0 t.mask H)).j\/∃i:Nat,t.place[i]? = some (itP t.mask (m+k) (stP0 t.mask H)).j/\f i=H) (N-m) (.inl (by rw[show m+(N-m)=N by omega];exact n1))
    have hb:∀m',m'<k->∃i:Nat,t.place[i]? = some (itP t.mask m' (itP t.mask m (stP0 t.mask H))).j/\f i≠H:=fun m' hm'=>by
     have:=not_or.mp (k3 m' hm');obtain⟨i,hi⟩:=Classical.not_not.mp this.1;exact⟨i,by rw[<-e9];exact hi,fun z=>this.2 ⟨i,hi,z⟩⟩
    obtain⟨g1,g2⟩:=u4 (t:=t) (f:=f) (h:=H) T.up T.nd k (10*SetTable.turns t.mask) (itP t.mask m (stP0 t.mask H)) (by omega) (CK _ _ _) hb;rw[<-e9]at g1 g2;refine⟨k,by omega,?_,fun k' hk' i e hi he z=>?_⟩
    ·rcases k2 with z|⟨i,z1,z2⟩
     ·left
      have e:m+k=N:=by
       rcases Nat.lt_or_ge (m+k) N with q|q
       ·exact absurd (n2 _ q) z
       ·omega
      refine⟨e,?_⟩;rw[<-e];exact g1 z
     ·right
      have lt:m+k<N:=by
       rcases Nat.lt_or_ge (m+k) N with q|q
       ·exact q
       ·rw[show m+k=N by omega]at z1
        exact absurd ⟨i,z1⟩ n1
      obtain⟨e,he⟩:=ee i _ z1;refine⟨lt,i,e,z1,he,by rw[<-hfe i e he];exact z2,?_⟩;have:=g2 i z1 z2;rw[<-e9]at this;exact this
    ·exact(not_or.mp (k3 k' hk')).2 ⟨i,hi,by rw[hfe i e he];exact z⟩
   have st0:stand.getD (t.probeStart H)=itP t.mask m (stP0 t.mask H):=hst;rw[st0];generalize hpr:t.probe _ H (itP t.mask m (stP0 t.mask H))=pr;obtain⟨k,k1,k2,k3⟩:=key _ (fun i e he=>by
    show(es[i]?.map (·.1)).getD 0=_;rw[he];rfl)
   have hne':∀m',m'<m+k->∀(i:Nat) e,t.place[i]? = some (itP t.mask m' (stP0 t.mask H)).j->es[i]? = some e->eF s.heap e.2≠ks:=fun m' hm' i e hi he=>by
    rcases Nat.lt_or_ge m' m with q|q
    ·exact hne m' q i e hi he
    ·have:=k3 (m'-m) (by omega) i e (by rw[show m+(m'-m)=m' by omega];exact hi) he
     intro z;obtain⟨ks',b',e1,e2,_⟩:=hel e (by rw[Array.mem_toList_iff];exact Array.mem_of_getElem? he);subst e1;have z:eF s.heap (.ref b')=ks:=z;rw[eE e2]at z;subst z;exact this hH
   rcases k2 with⟨e,pe⟩|⟨lt,i,e,hi,he,hx,pe⟩
   ·rw[hpr.symm.trans pe]
    dsimp only;exact wpAny_pure (q2 (fun m' hm'=>hne' m' (by omega)))
   ·rw[hpr.symm.trans pe]
    dsimp only;have hem:e∈es.toList:=by rw[Array.mem_toList_iff];exact Array.mem_of_getElem? he
    obtain⟨ks',b',e1,e2,_⟩:=hel e hem;have rest:wpAny (model prog w) A (do
      let some (_,y):=es[i]? | unsupported "internal:set-entry"
      let equal <-holding [y] (eqBool y (.ref b))
      let (es',_,t') <-setState a
      if true&&equal then return .there none
      let some same:=t'.sameMemory t.moves t.mask|unsupported "set.changed-during-lookup:is-the-new-block-at-the-old-address"
      let still <-match (if same then t'.slot (itP t.mask (m+k) (stP0 t.mask H)).j else .empty)with
       |.live i'=>match es'[i']? with
        |some (_,y')=>do pure (if <-isSame y' y then some i' else none)
        |none=>pure none
       |_=>pure none
      match still with
      |none=>rule "set.search.anew";setSearchFrom a (.ref b) H true fuel none
      |some i'=>if equal then return .there (some i')else setSearchFrom a (.ref b) H true fuel (some (itP t.mask (m+k+1) (stP0 t.mask H)))) Q E s:=by
     rw[he];subst e1;dsimp only;refine wpAny_bind (wpAny_holding (wpAny_eqBool_tuple hu e2 hk ?_));refine wpAny_bind (wpAny_setState_of ho rfl hf ?_);dsimp only;by_cases q:ks'=ks
     ·rw[decide_eq_true q]
      simp only[Bool.and_self,if_true];exact wpAny_pure (q1 ⟨_,hem,by show eF s.heap (.ref b')=ks;rw[eE e2,q]⟩)
     ·rw[decide_eq_false q]
      simp only[Bool.and_false,Bool.false_eq_true,if_false];rw[show t.sameMemory t.moves t.mask=some true by unfold SetTable.sameMemory;simp];dsimp only;simp only[if_true];rw[fI T.up hi];dsimp only;rw[he];dsimp only;refine wpAny_bind (wpAny_isSame_ref_self (wpAny_bind (wpAny_pure ?_)));simp only[if_true];refine ih (N-(m+k+1)) (by omega) (m+k+1) fuel _ rfl (by omega) (by omega) rfl fun m' hm' i' e' hi' he'=>?_
      rcases Nat.lt_or_ge m' (m+k)with z|z
      ·exact hne' m' z i' e' hi' he'
      ·have:m'=m+k:=by omega
       subst this;have s1:=fI T.up hi;have s2:=fI T.up hi';rw[s1]at s2;cases s2;rw[he]at he';cases he';intro z;have z:eF s.heap (.ref b')=ks:=z;rw[eE e2]at z;exact q z
    refine wpAny_ite_split (fun _=>?_) fun _=>rest
    refine wpAny_bind (xD hk (fun y hy=>?_) ?_)
    ·obtain⟨e',he',rfl⟩:=List.mem_map.mp hy
     have:=(Array.mem_filter.mp (Array.mem_toList_iff.mp he')).1;obtain⟨k2,b2,z1,z2,_⟩:=hel e' (Array.mem_toList_iff.mpr this);exact⟨k2,b2,by rw[z1],z2⟩
    ·simp only[Bool.false_eq_true,if_false]
     exact rest
end
noncomputable def bX(ns:List (List Int))(x:List Int):List (List Int):=if x∈ns then ns else ns++[x]
noncomputable def iv(l:List (List Int)):List (List Int):=l.foldl bX []
def SetK(prog:Program)(w:World)(L:Addr->Prop)(h:Heap)(a:Addr)(kss:List (List Int)):Prop:=∃es ep t,h.get? a=some (d0 es ep t)/\Tab t es/\(∀e∈es.toList,wN prog w L h e)/\(es.toList.map fun e=>eF h e.2).Perm kss/\kss.length<64/\t.fits es.size=true/\t.led=!w.params.followText "set-order"
section
variable{prog:Program}{w:World}{L:Addr->Prop}{A:Around}{E:Value->Shared->Prop}{s:Shared}
theorem iQ{h h':Heap}{ks:List Int}{b:Addr}(x:IsTupleKey (intKind prog w) h ks b)(e:∀o,h.get? b=some o->h'.get? b=some o):IsTupleKey (intKind prog w) h' ks b:=by
 obtain⟨o,items,n,ho,r⟩:=x;exact⟨o,items,n,e o ho,r⟩
theorem xb{h:Heap}{ks:List Int}{a b:Addr}{es:Array (Int×Value)}{ep:Nat}{t:SetTable}(x:IsTupleKey (intKind prog w) h ks b)(ho:h.get? a=some (d0 es ep t)):b≠a:=by
 rintro rfl;obtain⟨o,items,n,e,hc,_⟩:=x;rw[ho]at e;cases e;injection hc with z
 exact absurd z (by decide)
theorem lS{h h':Heap}{es:Array (Int×Value)}(hel:∀e∈es.toList,wN prog w L h e)(k:∀(b:Addr) ks,IsTupleKey (intKind prog w) h ks b->L b->∀o,h.get? b=some o->h'.get? b=some o):(∀e∈es.toList,wN prog w L h' e)/\(es.toList.map fun e=>eF h' e.2)=es.toList.map fun e=>eF h e.2:=by
 refine⟨fun e he=>?_,List.map_congr_left fun e he=>?_⟩
 ·obtain⟨ks,b,e1,e2,e3⟩:=hel e he
  exact⟨ks,b,e1,iQ e2 (k b ks e2 e3),e3⟩
 ·obtain⟨ks,b,e1,e2,e3⟩:=hel e he
  subst e1;show eF h' (.ref b)=eF h (.ref b);rw[eE e2,eE (iQ e2 (k b ks e2 e3))]
theorem SetK.at{h h':Heap}{a:Addr}{kss:List (List Int)}(x:SetK prog w L h a kss)(e:∀b o,L b\/b=a->h.get? b=some o->h'.get? b=some o):SetK prog w L h' a kss:=by
 obtain⟨es,ep,t,ho,T,hel,hp,r⟩:=x;obtain⟨a1,a2⟩:=lS (h':=h') hel fun b _ _ hb o=>e b o (.inl hb)
 exact⟨es,ep,t,e a _ (.inr rfl) ho,T,a1,by rw[a2];exact hp,r⟩
theorem Ej{t:SetTable}{es:Array (Int×Value)}(T:Tab t es):t.fits es.size=true:=by
 have:=T.few;unfold SetTable.fits SetTable.fill;rw[T.sz,T.nd];simp;omega
theorem qM{h:Heap}{a:Addr}{es es':Array (Int×Value)}{ep:Nat}{t t':SetTable}{kss:List (List Int)}(ho:h.get? a=some (d0 es ep t))(hel:∀e∈es'.toList,wN prog w L h e)(hp:(es'.toList.map fun e=>eF h e.2).Perm kss)(T:Tab t' es')(hl:kss.length<64)(hled:t'.led=!w.params.followText "set-order"):SetK prog w L (h.update a (Obj.putSet es' t')) a kss:=by
 have g:=Heap.get?_update_self (Obj.putSet es' t') ho (by rw[putSet_of es' t' rfl];rfl);rw[putSet_of es' t' rfl]at g;obtain⟨a1,a2⟩:=lS (h':=h.update a (Obj.putSet es' t')) hel fun b ks x _ o e=>bg (xb x ho) e
 exact⟨es',ep+1,t',g,T,a1,by rw[a2];exact hp,hl,Ej T,hled⟩
theorem GJ{t:SetTable}{n:Nat}(hm:uI t.mask)(hf:n*5<t.mask*3)(hn:n+1<64)(ht:t.mask*3<=(n+1)*5):uI (SetTable.sizeAbove (SetTable.grown (n+1))-1)/\n+1<SetTable.sizeAbove (SetTable.grown (n+1))-1+1/\(n+1)*5<(SetTable.sizeAbove (SetTable.grown (n+1))-1)*3/\¬SetTable.sizeAbove (SetTable.grown (n+1))>sizeLine:=by
 rcases hm with e|e|e<;>rw[e]at hf ht
 ·have:n=4:=by omega
  subst this;exact⟨.inr (.inl rfl),by decide,by decide,by rw[sizeLine_eq];decide⟩
 ·have:n=18:=by omega
  subst this;exact⟨.inr (.inr rfl),by decide,by decide,by rw[sizeLine_eq];decide⟩
 ·omega
theorem xM{a:Addr}{es:Array (Int×Value)}{ep:Nat}{t:SetTable}{n:Nat}{Q:Unit->Shared->Prop}(ho:s.heap.get? a=some (d0 es ep t))(hf:t.fits es.size=true)(hn:es.size=n+1)(hm:uI t.mask)(h1:n*5<t.mask*3)(h2:n+1<64)(h3:t.mask*3<=(n+1)*5)
  (h:∀es' t',Tab t' es'->List.Perm es'.toList es.toList->t'.led=t.led->Q () { s with heap:=s.heap.update a (Obj.putSet es' t') }):wpAny (model prog w) A (setRelay a (SetTable.grown (n+1))) Q E s:=by
 obtain⟨b1,b2,b3,b4⟩:=GJ hm h1 h2 h3;obtain⟨t',order,e,T,p,l⟩:=vM (t:=t) (es:=es) b1 (by rw[hn];exact b2) (by rw[hn];exact b3);have psz:(order.filterMap fun i=>es[i]?).size=es.size:=by
  have:=p.length_eq;rw[Array.length_toList,Array.length_toList]at this;exact this
 unfold setRelay;refine wpAny_bind (wpAny_setState_of ho rfl hf ?_);dsimp only;rw[if_neg b4,e];refine wpAny_bind (wpAny_of_eq (a:=(order.filterMap fun i=>es[i]?,t')) ?_ ?_)
 ·show(if((order.filterMap fun i=>es[i]?).size != es.size)=true then _ else _)=_
  rw[if_neg (by simp[psz])]
 ·dsimp only
  exact wpAny_storeSet_of ho rfl (h _ _ T p l) (by rw[psz,hn,sizeLine_eq];omega)
theorem xC(hu:A.units<cLine){a b:Addr}{ks:List Int}{kss:List (List Int)}{Q:Bool->Shared->Prop}(hS:SetK prog w L s.heap a kss)(hk:IsTupleKey (intKind prog w) s.heap ks b)(hbL:L b)(hroom:kss.length+1<64)
  (h:∀h' r,Heap.SameBut a s.heap h'->SetK prog w L h' a (bX kss ks)->Q r { s with heap:=h' }):wpAny (model prog w) A (setAddHashed a (.ref b) (tupleKeyHash (intKind prog w) ks)) Q E s:=by
 have hS0:=hS;obtain⟨es,ep,t,ho,T,hel,hp,hb,hf,hled⟩:=hS;have hsz:es.size=kss.length:=by
  have:=hp.length_eq;rw[List.length_map,Array.length_toList]at this;exact this
 have few:=T.few;obtain⟨N,n0,n1,n2⟩:=tN T.m T.sz (by omega) (tupleKeyHash (intKind prog w) ks);have n3:N<100000:=by
  have:10*SetTable.turns t.mask<100000:=by rcases T.m with e|e|e<;>rw[e]<;>decide
  omega
 unfold setAddHashed;refine wpAny_holding ?_;unfold setAddHashedIn;refine wpAny_bind (wpAny_setState_of ho rfl hf ?_);dsimp only;rw[show byScan (.ref b) es=false from rfl];simp only[Bool.false_eq_true,if_false];unfold setSearch;refine wpAny_bind (vJ hu ho T hf hel hk n0 n1 n2 (fun hex=>?there) (fun hno=>?free) N 0 100000 none rfl (Nat.zero_le _) n3 rfl fun m' hm'=>by omega)
 case there=>
  obtain⟨e,he,q⟩:=hex;have hin:ks∈kss:=hp.mem_iff.mp (List.mem_map.mpr ⟨e,he,q⟩);have e:bX kss ks=kss:=if_pos hin;rw[e]at h;exact wpAny_pure (h s.heap _ (Heap.SameBut.refl a s.heap) hS0)
 case free=>
  have hin:ks ∉ kss:=fun z=>by
   obtain⟨e,he,q⟩:=List.mem_map.mp (hp.mem_iff.mpr z);obtain⟨i,hi⟩:=List.mem_iff_getElem?.mp he;rw[Array.getElem?_toList]at hi;have lt:=(Array.getElem?_eq_some_iff.mp hi).1;have hpl:t.place[i]? = some t.place[i]!:=by rw[Array.getElem?_eq_getElem (by rw[T.sz];exact lt)];simp[T.sz,lt]
   obtain⟨n,r1,r2⟩:=T.rc i _ e hpl hi;obtain⟨ks',b',e1,e2,_⟩:=hel e he;subst e1;have q:eF s.heap (.ref b')=ks:=q;rw[eE e2]at q;subst q;have hn:n<N:=by
    rcases Nat.lt_trichotomy n N with z|z|z
    ·exact z
    ·subst z
     exact absurd ⟨i,by rw[r1];exact hpl⟩ n1
    ·exact absurd (r2 N z) n1
   exact hno n hn i _ (by rw[r1];exact hpl) hi (by show eF s.heap (.ref b')=_;exact eE e2)
  have e:bX kss ks=kss++[ks]:=if_neg hin;rw[e]at h;dsimp only;refine wpAny_bind (wpAny_setState_of ho rfl hf ?_);dsimp only;generalize hH:tupleKeyHash (intKind prog w) ks=H at *;have hj:(itP t.mask N (stP0 t.mask H)).j<t.mask+1:=yO _ _ _;have pd:(t.put (itP t.mask N (stP0 t.mask H)).j).1.dummies = #[]:=by
   show(if SetTable.has t.dummies _ then _ else t.dummies) = #[];rw[T.nd];simp[SetTable.has]
  have hpm:List.Perm (SetTable.insertAt es (SetTable.below t.place (itP t.mask N (stP0 t.mask H)).j) (H,Value.ref b)).toList (es.toList++[(H,Value.ref b)]):=by
   have:=SetTable.insertAt_perm es (SetTable.below t.place (itP t.mask N (stP0 t.mask H)).j) (H,Value.ref b)
   rwa [Array.toList_push]at this
  have el1:∀e∈(SetTable.insertAt es (SetTable.below t.place (itP t.mask N (stP0 t.mask H)).j) (H,Value.ref b)).toList,wN prog w L s.heap e:=fun e he=>by
   rcases List.mem_append.mp (hpm.mem_iff.mp he)with z|z
   ·exact hel e z
   ·rw[List.mem_singleton.mp z];exact⟨ks,b,by rw[hH],hk,hbL⟩
  have pm1:((SetTable.insertAt es (SetTable.below t.place (itP t.mask N (stP0 t.mask H)).j) (H,Value.ref b)).toList.map fun e=>eF s.heap e.2).Perm (kss++[ks]):=(hpm.map _).trans (by
   rw[List.map_append];refine(hp.append_right _).trans ?_;show(kss++[eF s.heap (.ref b)]).Perm _;rw[eE hk])
  have sz1:(SetTable.insertAt es (SetTable.below t.place (itP t.mask N (stP0 t.mask H)).j) (H,Value.ref b)).size=es.size+1:=fR _ _ _;have ln1:(kss++[ks]).length<64:=by simpa using hroom
  refine wpAny_ite_split (fun _=>wpAny_bind (rY hk ?_)) (fun _=>wpAny_bind (wpAny_pure ?_))
  all_goals
   simp only[if_true];refine wpAny_bind (wpAny_storeSet_of ho rfl ?_ (by rw[show SetTable.insertAt es (t.put (itP t.mask N (stP0 t.mask H)).j).2 (H,Value.ref b)=SetTable.insertAt es (SetTable.below t.place (itP t.mask N (stP0 t.mask H)).j) (H,Value.ref b)from rfl,sz1,sizeLine_eq];omega));have g:=Heap.get?_update_self (Obj.putSet (SetTable.insertAt es (SetTable.below t.place (itP t.mask N (stP0 t.mask H)).j) (H,Value.ref b)) (t.put (itP t.mask N (stP0 t.mask H)).j).1) ho (by rw[putSet_of _ _ rfl];rfl);rw[putSet_of _ _ rfl]at g;have tf:(t.put (itP t.mask N (stP0 t.mask H)).j).1.tooFull=decide ((es.size+1)*5>=t.mask*3):=by
    unfold SetTable.tooFull SetTable.fill;rw[pd,db,fR,T.sz];rfl
   by_cases full:(es.size+1)*5>=t.mask*3
   ·rw[tf,decide_eq_true full]
    simp only[Bool.not_false,Bool.and_self,if_true];have fit1:(t.put (itP t.mask N (stP0 t.mask H)).j).1.fits (SetTable.insertAt es (SetTable.below t.place (itP t.mask N (stP0 t.mask H)).j) (H,Value.ref b)).size=true:=by
     unfold SetTable.fits SetTable.fill;rw[pd,db,fR,sz1,T.sz,xP];simp;omega
    refine wpAny_bind (xM (n:=es.size) (s:={ s with heap:=s.heap.update a (Obj.putSet (SetTable.insertAt es (SetTable.below t.place (itP t.mask N (stP0 t.mask H)).j) (H,Value.ref b)) (t.put (itP t.mask N (stP0 t.mask H)).j).1) }) g fit1 sz1 T.m few (by omega) full fun es2 t2 T2 p2 l2=>wpAny_pure (h _ _ ((Heap.SameBut.update _ a _).trans (Heap.SameBut.update _ a _)) ?_))
    obtain⟨a1,a2⟩:=lS (h':=s.heap.update a (Obj.putSet (SetTable.insertAt es (SetTable.below t.place (itP t.mask N (stP0 t.mask H)).j) (H,Value.ref b)) (t.put (itP t.mask N (stP0 t.mask H)).j).1)) el1 fun b ks x _ o e=>bg (xb x ho) e
    exact qM g (fun e he=>a1 e (p2.mem_iff.mp he)) ((p2.map _).trans (by rw[a2];exact pm1)) T2 ln1 (l2.trans hled)
   ·rw[tf,decide_eq_false full]
    simp only[Bool.and_false,Bool.false_eq_true,if_false];exact wpAny_pure (h _ _ (Heap.SameBut.update _ a _) (qM ho el1 pm1 (T.put n1 n2 (by omega) rfl rfl pd) ln1 hled))
end
theorem sJ(ns:List (List Int))(x:List Int):(bX ns x).length<=ns.length+1:=by
 unfold bX;split
 ·omega
 ·simp
theorem qK:∀(l ns:List (List Int)),(l.foldl bX ns).length<=ns.length+l.length
 |[],ns=>by simp
 |x::l,ns=>by
  have h1:=qK l (bX ns x);have h2:=sJ ns x;show(l.foldl bX (bX ns x)).length<=_;rw[List.length_cons];omega
theorem vH{ns:List (List Int)}{i:Nat}{k:List Int}(h:ns[i]? = some k):iv (ns.take (i+1))=bX (iv (ns.take i)) k:=by
 unfold iv;rw[List.take_succ,h,List.foldl_append];rfl
theorem setK_fresh{prog:Program}{w:World}{L:Addr->Prop}{h:Heap}:SetK prog w L (h.push (bc (!w.params.followText "set-order"))) h.objs.size []:=
 ⟨#[],0,_,Heap.get?_push_size _ rfl,⟨.inl rfl,fun i j hi=>absurd hi (by simp[SetTable.fresh]),rfl,rfl,fun i j e=>by simp[SetTable.fresh]at e,(by show 0*5<7*3;decide),fun i j e h1=>by simp[SetTable.fresh]at h1⟩,fun e he=>by simp at he,.refl _,by decide,rfl,rfl⟩
section
variable{prog:Program}{w:World}{A:Around}{R:Result->Shared->Prop}{I:Addr}{fp wr:List Addr}{G:Array GenState->Array GenState->Prop}{n:Nat}{P:Nat->Value->Prop}{St:Nat->Shared->Prop}
theorem nO(W:WalksS prog w A.in1 I fp wr G n P St)(hu:A.units+1<cLine)(S:Addr)(hSf:S ∉ fp){L:Addr->Prop}(hLw:∀b∈S::wr,¬L b){h0:Heap}(kss:List (List Int))(hn:kss.length=n)(hP:∀i v,P i v->∃ks b,kss[i]? = some ks/\v=.ref b/\L b/\IsTupleKey (intKind prog w) h0 ks b)(hz:n+1<64):
  ∀(k i:Nat) (s:Shared),n-i=k->i<=n->St i s->(∀b o,L b->h0.get? b=some o->s.heap.get? b=some o)->SetK prog w L s.heap S (iv (kss.take i))->(∀s',Moved (S::wr) G s s'->SetK prog w L s'.heap S (iv kss)->R (.ok (.ret .none)) s') ->
   codeAny (model prog w) A (.builtin "set.update.loop" ⟨[.ref S,.ref I],[]⟩) R s:=by
 have nw:S ∉ wr:=fun h=>hSf (W.sub _ h)
 have up:∀b∈wr,b∈S::wr:=fun b hb=>List.mem_cons_of_mem _ hb
 have low:∀b,L b->b ∉ wr:=fun b hb z=>hLw b (up b z) hb
 have lowS:∀b,L b->b≠S:=fun b hb z=>hLw S List.mem_cons_self (z ▸ hb)
 intro k
 induction k with
 |zero=>
  intro i s hk hi hst kp hS hR;have e:i=n:=by omega
  subst e;refine codeAny_builtin F.entry_set_update_loop ?_;rw[Around.under_plainId F.plain_set_update_loop _];refine wpAny_bind (m:=pyNext (.ref I)) (W.done s _ _ hst fun s' hm=>?_);rw[<-hn,List.take_length]at hS;exact wpAny_pure (hR s' (hm.mono up) (hS.at fun b o hb e=>hm.heap b o (hb.elim (low b) fun z=>z ▸ nw) e))
 |succ k ih=>
  intro i s hk hi hst kp hS hR;have hlt:i<n:=by omega
  refine codeAny_builtin F.entry_set_update_loop ?_;rw[Around.under_plainId F.plain_set_update_loop _];refine wpAny_bind (m:=pyNext (.ref I)) (W.item i s _ _ hlt hst fun v s' hPv hst' hm=>?_);obtain⟨ks,b,hx,rfl,hb,hk0⟩:=hP i v hPv;have hS':=hS.at fun b o hb e=>hm.heap b o (hb.elim (low b) fun z=>z ▸ nw) e
  have kp':∀b o,L b->h0.get? b=some o->s'.heap.get? b=some o:=fun b o hb e=>hm.heap b o (low b hb) (kp b o hb e)
  have hk1:IsTupleKey (intKind prog w) s'.heap ks b:=iQ hk0 fun o e=>kp' b o hb e
  refine wpAny_bind (m:=holding [Value.ref b] (setAdd S (.ref b))) (wpAny_holding ?_);unfold setAdd;refine wpAny_holding (wpAny_bind (wpAny_pyHash_tuple (knd:=intKind prog w) (ks:=ks) hu hk1 ?_));have ln:(iv (kss.take i)).length<=i:=by
   have:=qK (kss.take i) [];rw[List.length_take]at this;unfold iv;simp only[List.length_nil]at this;omega
  refine xC (s:={ s' with toks:=s'.toks+(ks.length+1) }) hu hS' hk1 hb (by omega) fun h' r hsb hS2=>?_
  rw[<-vH hx]at hS2;refine wpAny_pure ⟨plainId_quiet F.plain_set_update_loop _,ih (i+1) _ (by omega) hlt (W.frame _ s' _ _ hst' (Nat.le_add_right _ _) fun b hb o e=>?_) (fun b o hb e=>?_) hS2 fun s'' hm'' hS''=>?_⟩
  ·rw[hsb.2 b (fun z=>hSf (z ▸ hb))];exact e
  ·show h'.get? b=some o
   rw[hsb.2 b (lowS b hb)];exact kp' b o hb e
  ·refine hR s'' (Moved.trans W.gtrans ((hm.mono up).then_heap (Nat.le_add_right _ _) fun b o hb e=>?_) hm'') hS''
   rw[hsb.2 b (fun z=>hb (z ▸ List.mem_cons_self))];exact e
end
section
variable{prog:Program}{w:World}{A:Around}{E:Value->Shared->Prop}{s:Shared}
theorem nv{v:Value}{Q:Value->Shared->Prop}
  (h:∀A':Around,A'.handled=A.handled->A'.units<=A.units+8->wpAny (model prog w) A' (Builtin.Frozenset.updateFrom "set.__init__" s.heap.objs.size v) (fun _ s2=>Q (.ref s.heap.objs.size) s2) E { s with heap:=s.heap.push (bc (!w.params.followText "set-order")) }) :
  wpAny (model prog w) A (call (.type "set") [v]) Q E s:=by
 obtain⟨c,tl,hmro⟩:=F.called_set.mro;have hmade:=F.called_set.made;have hsub:=F.called_set.sub;refine wpAny_call (codeAny_of_tree ?_);show wpAny _ _ (callAny (.type "set") _) _ _ _;refine wpAny_pure ⟨Code.quiet_builtin _ (by decide +kernel),codeAny_builtin F.entry_type_call ?_⟩;rw[Around.under_plain (weight_type_call_type "set" [v] []) rfl];have h1:=F.called_set.notType;have h2:=F.called_set.canCreate;have hct:=F.typeCall_set_1 v
 repeat (any_goals (first|assumption|wp_step))
 refine codeAny_mono (mF v (E:=E) (Q:=fun obj s1=>obj=.ref s.heap.objs.size/\s1={ s with heap:=s.heap.push (bc (!w.params.followText "set-order")) }) ⟨rfl,rfl⟩) fun r s1 hr=>?_
 cases r with
 |error e=>exact hr
 |ok fl=>
  cases fl with
  |ret obj=>
   obtain⟨rfl,rfl⟩:=hr;have hT:Shared.TypeIs { s with heap:=s.heap.push (bc (!w.params.followText "set-order")) } (.ref s.heap.objs.size) "set":=⟨_,Heap.get?_push_size _ rfl,rfl⟩;have hS:(s.heap.push (bc (!w.params.followText "set-order"))).get? s.heap.objs.size=some (bc (!w.params.followText "set-order")):=Heap.get?_push_size _ rfl;have hli:=F.called_set.init.lookup;have hbi:=F.called_set.init.bind (.ref s.heap.objs.size)
   repeat (any_goals (first|assumption|wp_step))
   refine codeAny_mono (codeAny_call_builtin (R:=wants (fun r s2=>r=.none/\Q (.ref s.heap.objs.size) s2) E) F.called_set.init.plain F.entry_set_init (check_set_init_1 hT ?_)) fun r2 s2 hr2=>?_
   ·unfold Builtin.«set.__init__» noKeywords
    generalize hUF:Builtin.Frozenset.updateFrom=UF
    wp_walk
    subst hUF;refine wpAny_mono (h _ (by simp) (by simp)) (fun _ s2 q=>?_) fun _ _ e=>e
    exact wpAny_pure ⟨rfl,q⟩
   ·cases r2 with
    |error e=>exact hr2
    |ok fl2=>
     cases fl2 with
     |ret r=>
      obtain⟨rfl,q⟩:=hr2
      repeat (any_goals (first|assumption|wp_step))
     |_=>exact hr2.elim
  |_=>exact hr.elim
theorem vG{a:Addr}{es:Array (Int×Value)}{ep:Nat}{t:SetTable}{Q:Value->Shared->Prop}(ho:s.heap.get? a=some (d0 es ep t))(hb:es.size<scanBound)(hf:t.fits es.size=true)(hw:WkT (!w.params.followText "set-order") t)
  (hQ:∀I tp h1 d vs,tp≠I->a≠I->(∀b o,s.heap.get? b=some o->h1.get? b=some o)->s.heap.objs.size<=I->I<h1.objs.size->(tp=a\/s.heap.objs.size<=tp)->SWk w h1 I a vs tp 0->vs.Perm (es.toList.map (·.2))->Q (.ref I) { s with heap:=h1,drawn:=d }):wpAny (model prog w) A (pyIter (.ref a)) Q E s:=by
 have hT:s.TypeIs (.ref a) "set":=⟨_,ho,rfl⟩;have lt:=Heap.lt_size ho;refine wpAny_pyIter_slot hT F.slot_set_iter (wpAny_call_entry F.slot_set_iter hT kE ?_ (F.args_set_iter_1 _));unfold Builtin.«frozenset.__iter__» Builtin.Frozenset.slot0;refine wpAny_bind (wpAny_bind (wpAny_of_eq (a:=(Value.ref a,[])) rfl ?_));unfold Builtin.Frozenset.addrOf Builtin.Frozenset.sizeOf;refine wpAny_pure ?_;refine wpAny_bind (wpAny_bind (wpAny_setEntries_of ho rfl hf (wpAny_pure ?_)));unfold setDrawn;refine wpAny_bind (wpAny_bind (wpAny_setState_of ho rfl hf ?_));dsimp only;refine wpAny_bind (ic (wpAny_pure ?_));have plain:∀vs:List Value,vs.Perm (es.toList.map (·.2))->vs.length=es.size->(∀h1:Heap,Mode w h1 a es ep t vs 0 (rawInt (0:Nat)))->wpAny (model prog w) A.in1 (do
   let ep <-setEpoch a
   let x <-newFields "set_iterator" [rawInt 0,rawInt 0,.ref a,rawInt es.size,rawInt ep]
   ret x) (fun fin s'=>∃v,fin=.done (.ret v)/\∃T' r,s'.TypeIs v T'/\typeLookup (.type T') "__next__" = pure (some r)/\Q v s') E s:=fun vs q1 q3 q4=>by
  refine wpAny_bind (wpAny_setEpoch_of ho rfl hf ?_);refine wpAny_bind (wpAny_newObj_type (wpAny_pure ⟨_,rfl,"set_iterator",_,⟨_,Heap.get?_push_size _ rfl,rfl⟩,slot_si_next.lookup,?_⟩));refine hQ s.heap.objs.size a _ s.drawn vs (Nat.ne_of_lt lt) (Nat.ne_of_lt lt) (fun b o e=>Heap.get?_push_of_some _ e) (Nat.le_refl _) (by rw[Heap.size_push];exact Nat.lt_succ_self _) (.inl rfl) ⟨es,ep,t,rawInt (0:Nat),Heap.get?_push_of_some _ ho,hf,hw,q3,Heap.get?_push_size _ rfl,fun b z=>(by cases z),q4 _⟩ q1
 cases hb1:w.params.followText "set-order" with
 |true=>
  simp only[Bool.not_true,Bool.false_and,Bool.false_eq_true,if_false];have pp:=vQ (w.params.setOrder a ep) es;refine plain ((pickOrder (w.params.setOrder a ep) es).toList.map (·.2)) (pp.map _) (by rw[List.length_map,pp.length_eq,Array.length_toList]) fun h1=>.text hb1 rfl
 |false=>
  by_cases hd:(!t.plain&&decide (es.size>1))=true
  ·show wpAny _ _ (if(!false&&(!t.plain&&decide (es.size>1)))=true then _ else _) _ _ _
   rw[hd];simp only[Bool.not_false,Bool.and_self,if_true];refine wpAny_bind (oo es.size (List.range es.size) s (List.length_range ..) fun ys d py=>?_)
   have hlen:ys.length=es.size:=by rw[py.length_eq,List.length_range]
   refine wpAny_bind (wpAny_newObj_type ?_ (by show(List.toArray _).size<=sizeLine;rw[List.size_toArray,List.length_map,hlen];exact fits_of_scanBound hb));have ho1:=Heap.get?_push_of_some { cls:=.type "tuple",data:=.seq (ys.map fun i:Nat=>rawInt (i:Int)).toArray } ho
   refine wpAny_bind (wpAny_setEpoch_of ho1 rfl hf ?_);refine wpAny_bind (wpAny_newObj_type (wpAny_pure ⟨_,rfl,"set_iterator",_,⟨_,Heap.get?_push_size _ rfl,rfl⟩,slot_si_next.lookup,?_⟩));have pe:(ys.map fun p=>es.getD p (0,.none)).Perm es.toList:=by
    have:=py.map fun p=>es.getD p (0,.none)
    rwa [sN]at this
   refine hQ (s.heap.push { cls:=.type "tuple",data:=.seq (ys.map fun i:Nat=>rawInt (i:Int)).toArray }).objs.size s.heap.objs.size _ d ((ys.map fun p=>es.getD p (0,.none)).map (·.2)) ?_ ?_ (fun b o e=>Heap.get?_push_of_some _ (Heap.get?_push_of_some _ e)) (by rw[Heap.size_push];exact Nat.le_succ _) (Heap.lt_size (Heap.get?_push_size _ rfl)) (.inr (Nat.le_refl _)) ⟨es,ep,t,.ref s.heap.objs.size,Heap.get?_push_of_some _ ho1,hf,hw,by simp[hlen],Heap.get?_push_size _ rfl,fun b z=>by injection z with z;exact z.symm,?_⟩ (pe.map _)
   ·rw[Heap.size_push];exact Nat.ne_of_lt (Nat.lt_succ_self _)
   ·rw[Heap.size_push];exact Nat.ne_of_lt (Nat.lt_succ_of_lt lt)
   ·refine .drawn (ps:=ys) (Heap.get?_push_of_some _ (Heap.get?_push_size _ rfl)) rfl (by simp) fun j p hj=>?_
    have hpn:p<es.size:=List.mem_range.mp (py.mem_iff.mp (List.mem_of_getElem? hj));refine⟨es.getD p (0,.none),by simp[Array.getD,hpn],?_⟩;rw[List.getElem?_map,List.getElem?_map,hj];rfl
  ·show wpAny _ _ (if(!false&&(!t.plain&&decide (es.size>1)))=true then _ else _) _ _ _
   have hd':(!t.plain&&decide (es.size>1))=false:=by simpa using hd
   rw[hd'];simp only[Bool.not_false,Bool.and_false,Bool.false_eq_true,if_false];have up:UpA t.place:=by
    cases hpl:t.plain with
    |true=>exact hw.up hpl
    |false=>
     rw[hpl]at hd';have h1:es.size<=1:=by simpa using hd'
     have h2:=jV hf;intro i j hi hj hij;omega
   refine wpAny_bind (wpAny_pure ?_);refine plain (es.toList.map (·.2)) (.refl _) (by simp) fun h1=>?_
   have:=Mode.slots (w:=w) (h:=h1) (a:=a) (ep:=ep) (i:=0) hb1 hd' up (es:=es) rfl;simpa using this
theorem pY{a:Addr}{es:Array (Int×Value)}{ep:Nat}{t:SetTable}{R:List Value->Shared->Prop}(hh:A.handled=none)(hS:s.heap.get? a=some (d0 es ep t))(hsz:es.size<scanBound)(hf:t.fits es.size=true)(hw:WkT (!w.params.followText "set-order") t)
  (h:∀h' d tk vs,(∀b o,s.heap.get? b=some o->h'.get? b=some o)->vs.Perm (es.toList.map (·.2))->R vs { s with heap:=h',drawn:=d,toks:=tk }):wpAny (model prog w) A (collect (.ref a)) R E s:=by
 have lta:a<s.heap.objs.size:=Heap.lt_size hS;unfold collect;refine wpAny_bind (wpAny_runValue (codeAny_builtin entry_proto_collect' ?_));rw[Around.under_plainId PySem.F.plain_proto_collect _];refine wpAny_bind (m:=newList []) (wpAny_newObj_type ?_);refine wpAny_pure ⟨plainId_quiet PySem.F.plain_list_iadd _,codeAny_builtin entry_list_iadd' ?_⟩;rw[Around.under_plainId PySem.F.plain_list_iadd _];show wpAny _ A.in1 (Builtin.List.listExtendWith (.ref s.heap.objs.size) (.ref a) (.ref s.heap.objs.size)) _ _ _;unfold Builtin.List.listExtendWith;have kp1:∀b o,s.heap.get? b=some o->(s.heap.push { cls:=.type "list",data:=.seq ([]:List Value).toArray }).get? b=some o:=fun b o e=>Heap.get?_push_of_some _ e
 have hS1:=kp1 a _ hS;have hL:(s.heap.push { cls:=.type "list",data:=.seq ([]:List Value).toArray }).get? s.heap.objs.size=some { cls:=.type "list",data:=.seq #[] 0 }:=Heap.get?_push_size _ rfl;have hT:∀{s1:Shared},s1.heap.get? a=some (d0 es ep t)->s1.TypeIs (.ref a) "set":=fun q=>⟨_,q,rfl⟩
 refine wpAny_bind (wpAny_typeOf (T:="set") (hT hS1) ?_);have h1:Builtin.List.listSameRef (.ref s.heap.objs.size) (.ref a)=false:=by simp[Builtin.List.listSameRef];exact Nat.ne_of_gt lta
 have h2:(Value.type "set" == Value.type "list")=false:=by decide
 have h3:(Value.type "set" == Value.type "tuple")=false:=by decide
 simp only[h1,h2,h3,Bool.or_false,Bool.false_eq_true,if_false];refine wpAny_bind (vG hS1 hsz hf hw fun I tp h1 d vs htp haI kp2 hI hI2 htp2 sw pm=>?_);have ltL:s.heap.objs.size<(s.heap.push { cls:=.type "list",data:=.seq ([]:List Value).toArray }).objs.size:=Heap.lt_size hL;have neI:s.heap.objs.size≠I:=fun z=>by
  have q:s.heap.objs.size<I:=Nat.lt_of_lt_of_le ltL hI;rw[<-z]at q;exact Nat.lt_irrefl _ q
 have neT:s.heap.objs.size≠tp:=fun z=>by
  rcases htp2 with q|q
  ·rw[q]at z;exact absurd lta (by rw[z];exact Nat.lt_irrefl _)
  ·rw[<-z]at q;exact absurd ltL (Nat.not_lt.mpr q)
 have hL1:=kp2 _ _ hL;refine wpAny_bind (wpAny_holding (yT (hT (s1:={ s with heap:=h1,drawn:=d }) (kp2 a _ hS1)) ?_));have fin:∀(RR:Result->Shared->Prop) (hR:∀s',wpAny (model prog w) A (load s.heap.objs.size >>= fun o=>match o.data with
   |.seq xs _=>pure xs.toList
   |_=>unsupported "internal:collect") R E s'->RR (.ok (.ret (.ref s.heap.objs.size))) s') (h2:Heap) (c:Nat),h2.get? s.heap.objs.size=some { cls:=.type "list",data:=.seq #[] c }->(∀b o,b≠s.heap.objs.size->h1.get? b=some o->h2.get? b=some o)->codeAny (model prog w) A (.builtin "list.extend.loop" ⟨[.ref s.heap.objs.size,.ref I,.ref s.heap.objs.size],[]⟩) RR { s with heap:=h2,drawn:=d }:=fun RR hR h2 c e2 k2=>by
  have W:=(xo (prog:=prog) (w:=w) (A:=A.in1) hh haI htp vs).toS;have vl:vs.length=es.size:=by rw[pm.length_eq,List.length_map,Array.length_toList]
  refine codeAny_extend_loopS W (by rw[vl];exact fits_of_scanBound hsz) s.heap.objs.size (by simp only[List.mem_cons,List.not_mem_nil,or_false,not_or];exact⟨neI,Nat.ne_of_gt lta,neT⟩) (.ref s.heap.objs.size) vs.length 0 _ #[] c rfl (Nat.zero_le _) (sw.frame fun b hb o e=>?_) e2 (ItemsOf.nil _) fun s' acc c' hm hS' hacc=>?_
  ·refine k2 b o (fun z=>?_) e
   simp only[List.mem_cons,List.not_mem_nil,or_false]at hb;rcases hb with rfl|rfl|rfl
   ·exact neI z.symm
   ·exact Nat.ne_of_lt lta z
   ·exact neT z.symm
  ·refine hR s' (wpAny_bind (wpAny_load hS' (wpAny_pure ?_)))
   rw[yN hacc];obtain⟨h',g',d',tk',os'⟩:=s';have eg:g'=s.gens:=hm.gens;have ed:d'=d:=hm.drawn;have eo:os'=s.os:=hm.os;subst eg ed eo;refine h h' d' tk' vs (fun b o e=>?_) pm;have lt:=Heap.lt_size e;refine hm.heap b o ?_ (k2 b o (Nat.ne_of_lt lt) (kp2 b o (kp1 b o e)));simp only[List.mem_cons,List.not_mem_nil,or_false,not_or];exact⟨Nat.ne_of_lt lt,fun z=>by
    have q:b<I:=Nat.lt_trans lt (Nat.lt_of_lt_of_le ltL hI);rw[z]at q;exact Nat.lt_irrefl _ q⟩
 refine wpAny_ite_split (fun _=>?_) (fun _=>wpAny_pure ⟨plainId_quiet PySem.F.plain_extend_loop _,fin _ (fun s' q=>q) h1 0 hL1 fun b o _ e=>e⟩)
 refine wpAny_bind (wpAny_rule ?_);refine wpAny_bind ?_;show wpAny _ _ (updateSeq s.heap.objs.size (·.push .none) >>= fun _=>updateSeq s.heap.objs.size (·.pop)) _ _ _
 refine wpAny_bind (wpAny_updateSeq hL1 rfl ?_);have g2:=Heap.get?_update_self (Obj.mapSeq (·.push Value.none)) hL1 rfl;refine wpAny_updateSeq (hz:=by seq_fits) g2 rfl ?_;have g3:=Heap.get?_update_self (Obj.mapSeq (·.pop)) g2 rfl;exact wpAny_pure ⟨plainId_quiet PySem.F.plain_extend_loop _,fin _ (fun s' q=>q) _ _ g3 fun b o hb e=>dY hb (dY hb e)⟩
theorem nt(hu:A.units+64<cLine){l:Addr}{items:Array Value}{kss:List (List Int)}{Q:Value->Shared->Prop}(hh:A.handled=none)(hl:s.heap.IsList l items\/s.heap.IsTuple l items)(hn:kss.length=items.size)(hi:∀(i:Nat) v,items[i]? = some v->∃ks b,kss[i]? = some ks/\v=.ref b/\IsTupleKey (intKind prog w) s.heap ks b)(hb:items.size+1<64)
  (h:∀(h':Heap) (tk:Nat),SetK prog w (fun b=>b<s.heap.objs.size/\Value.ref b∈items.toList) h' s.heap.objs.size (iv kss)->(∀b o,s.heap.get? b=some o->h'.get? b=some o)->Q (.ref s.heap.objs.size) { s with heap:=h',toks:=tk }):wpAny (model prog w) A (call (.type "set") [.ref l]) Q E s:=by
 have hP:∀(i:Nat) v,items[i]? = some v->∃ks b,kss[i]? = some ks/\v=.ref b/\(b<s.heap.objs.size/\Value.ref b∈items.toList)/\IsTupleKey (intKind prog w) s.heap ks b:=fun i v e=>by
  obtain⟨ks,b,h1,h2,h3⟩:=hi i v e;exact⟨ks,b,h1,h2,⟨by obtain⟨o,_,_,ho,_⟩:=h3;exact Heap.lt_size ho,by rw[<-h2,Array.mem_toList_iff];exact Array.mem_of_getElem? e⟩,h3⟩
 refine nv fun A' hA hU=>?_
 have hh':A'.handled=none:=hA.trans hh;have hu':A'.units+1<cLine:=by omega
 have fin:∀(s':Shared) (I:Addr) (o:Obj),Moved [s.heap.objs.size,I] (fun a b=>b=a) { s with heap:=(s.heap.push (bc (!w.params.followText "set-order"))).push o } s'->I=(s.heap.push (bc (!w.params.followText "set-order"))).objs.size->SetK prog w (fun b=>b<s.heap.objs.size/\Value.ref b∈items.toList) s'.heap s.heap.objs.size (iv kss)->Q (.ref s.heap.objs.size) s':=fun s' I o hm hI hS=>by
  obtain⟨h',g',d',tk',os'⟩:=s';have eg:g'=s.gens:=hm.gens;have ed:d'=s.drawn:=hm.drawn;have eo:os'=s.os:=hm.os;subst eg ed eo;refine h h' tk' hS fun b o' e=>?_
  have lt:=Heap.lt_size e;refine hm.heap b o' ?_ (Heap.get?_push_of_some _ (Heap.get?_push_of_some _ e));rw[hI,Heap.size_push];simp only[List.mem_cons,List.not_mem_nil,or_false,not_or];exact⟨Nat.ne_of_lt lt,Nat.ne_of_lt (Nat.lt_succ_of_lt lt)⟩
 have hLw:∀b∈[s.heap.objs.size,(s.heap.push (bc (!w.params.followText "set-order"))).objs.size],¬(b<s.heap.objs.size/\Value.ref b∈items.toList):=fun b hb=>by
  rw[Heap.size_push]at hb;simp only[List.mem_cons,List.not_mem_nil,or_false]at hb;rcases hb with rfl|rfl
  ·exact fun z=>Nat.lt_irrefl _ z.1
  ·exact fun z=>Nat.not_succ_le_self _ (Nat.le_of_lt z.1)
 rcases hl with hl|hl
 ·obtain⟨ol,hol,hcl,nl,hdl⟩:=hl
  obtain⟨ocls,odict,odata,oslots⟩:=ol;simp only at hcl hdl;subst hcl hdl;have lt:=Heap.lt_size hol;have hol':=Heap.get?_push_of_some (bc (!w.params.followText "set-order")) hol;have f1:=F.sub_list_set;have f2:=F.sub_list_frozenset;have f3:(Value.type "list" == Value.type "dict")=false:=by decide
  have hl1:(s.heap.push (bc (!w.params.followText "set-order"))).IsList l items:=⟨_,hol',rfl,nl,rfl⟩;unfold Builtin.Frozenset.updateFrom;generalize hPI:pyIter=PI
  wp_walk
  subst hPI;refine wpAny_pyIter_list hl1 ?_;refine wpAny_bind (wpAny_runValue ?_);have ne:l≠(s.heap.push (bc (!w.params.followText "set-order"))).objs.size:=by rw[Heap.size_push];exact Nat.ne_of_lt (Nat.lt_succ_of_lt lt)
  have nf:s.heap.objs.size ∉ [(s.heap.push (bc (!w.params.followText "set-order"))).objs.size,l]:=by
   rw[Heap.size_push];simp only[List.mem_cons,List.not_mem_nil,or_false,not_or];exact⟨Nat.ne_of_lt (Nat.lt_succ_self _),Nat.ne_of_gt lt⟩
  refine nO ((Walks.list (by simpa using hh') _ l ne items).toS) hu' s.heap.objs.size nf hLw kss hn hP hb items.size 0 _ (by omega) (Nat.zero_le _) ⟨⟨_,Heap.get?_push_size _ rfl,rfl,rfl⟩,hl1.push _⟩ (fun b o _ e=>Heap.get?_push_of_some _ (Heap.get?_push_of_some _ e)) (setK_fresh.at fun b o _ e=>Heap.get?_push_of_some _ e) fun s' hm hS=>?_
  exact wpAny_pure ((fin s' _ _ hm rfl hS))
 ·obtain⟨ol,hol,hcl,nl,hdl⟩:=hl
  obtain⟨ocls,odict,odata,oslots⟩:=ol;simp only at hcl hdl;subst hcl hdl;have lt:=Heap.lt_size hol;have hol':=Heap.get?_push_of_some (bc (!w.params.followText "set-order")) hol;have f1:=mY;have f2:=ii;have f3:(Value.type "tuple" == Value.type "dict")=false:=by decide
  have hl1:(s.heap.push (bc (!w.params.followText "set-order"))).IsTuple l items:=⟨_,hol',rfl,nl,rfl⟩;unfold Builtin.Frozenset.updateFrom;generalize hPI:pyIter=PI
  wp_walk
  subst hPI;refine wpAny_pyIter_tuple hl1 ?_;refine wpAny_bind (wpAny_runValue ?_);have ne:l≠(s.heap.push (bc (!w.params.followText "set-order"))).objs.size:=by rw[Heap.size_push];exact Nat.ne_of_lt (Nat.lt_succ_of_lt lt)
  have nf:s.heap.objs.size ∉ [(s.heap.push (bc (!w.params.followText "set-order"))).objs.size,l]:=by
   rw[Heap.size_push];simp only[List.mem_cons,List.not_mem_nil,or_false,not_or];exact⟨Nat.ne_of_lt (Nat.lt_succ_self _),Nat.ne_of_gt lt⟩
  refine nO ((Walks.tuple (by simpa using hh') _ l ne items).toS) hu' s.heap.objs.size nf hLw kss hn hP hb items.size 0 _ (by omega) (Nat.zero_le _) ⟨⟨_,Heap.get?_push_size _ rfl,rfl,rfl⟩,hl1.push _⟩ (fun b o _ e=>Heap.get?_push_of_some _ (Heap.get?_push_of_some _ e)) (setK_fresh.at fun b o _ e=>Heap.get?_push_of_some _ e) fun s' hm hS=>?_
  exact wpAny_pure ((fin s' _ _ hm rfl hS))
end
noncomputable def Gh:D->Option (List Int)
 |.tuple ds=>wx ds
 |_=>none
noncomputable def mj:List D->Option (List (List Int))
 |[]=>some []
 |d::r=>(Gh d).bind fun k=>(mj r).bind fun l=>some (k::l)
noncomputable def cf(k:List Int):List bb:=k.map Sum.inl
noncomputable def nM(d:D):Option D:=(df d).bind fun ds=>(mj ds).bind fun kss=>if kss.length<63/\(∀k∈kss,k≠[])then some (.list ((dj ((iv kss).map cf)).map fun k=>.tuple (k.map mf)))else none
section
variable{prog:Program}{w:World}
theorem rA:∀{ks:List Int} {vs:List Value},KVals (cf ks) vs->ItemsAre (intKind prog w) ks vs
 |[],_,.nil=>.nil
 |k::ks,_,.cons h r=>by
  obtain⟨t,rfl⟩:=h;exact .cons (intKind_is prog w k t) (rA r)
theorem rF:∀{ks:List Int} {vs:List Value},ItemsAre (intKind prog w) ks vs->KVals (cf ks) vs
 |_,_,.nil=>.nil
 |_,_,.cons h r=>by
  obtain⟨t,rfl⟩:=Value.isInt_shape h;exact .cons ⟨t,rfl⟩ (rF r)
theorem Bw{h:Heap}{ks:List Int}{b:Addr}(x:KAt h (.ref b) (cf ks)):IsTupleKey (intKind prog w) h ks b:=by
 obtain⟨b',o,xs,n,e,e1,e2,e3,e4⟩:=x;cases e;exact⟨o,xs,n,e1,e2,e3,rA e4⟩
theorem Aq{h:Heap}{ks:List Int}{b:Addr}(x:IsTupleKey (intKind prog w) h ks b):KAt h (.ref b) (cf ks):=by
 obtain⟨o,xs,n,e1,e2,e3,e4⟩:=x;exact⟨b,o,xs,n,rfl,e1,e2,e3,rF e4⟩
end
theorem rE{h:Heap}{f:Value->List bb}:∀{vs:List Value},(∀v∈vs,KAt h v (f v))->KAts h vs (vs.map f)
 |[],_=>.nil
 |v::vs,H=>.cons (H v List.mem_cons_self) (rE fun u hu=>H u (List.mem_cons_of_mem _ hu))
theorem uW{h:Heap}:∀{vs:List Value} {ks:List (List bb)},KAts h vs ks->ks.length=vs.length/\∀(i:Nat) v,vs[i]? = some v->∃k,ks[i]? = some k/\KAt h v k
 |_,_,.nil=>⟨rfl,fun i v e=>by simp at e⟩
 |_,_,.cons x r=>by
  obtain⟨a,b⟩:=uW r;refine⟨by rw[List.length_cons,List.length_cons,a],fun i v e=>?_⟩
  cases i with
  |zero=>cases e;exact⟨_,rfl,x⟩
  |succ i=>exact b i v e
theorem zE{k:List Int}(h:k≠[]):ud (cf k)=true:=by
 cases k with
 |nil=>exact absurd rfl h
 |cons x k=>
  show(cf k).all Eh=true;exact List.all_eq_true.mpr fun y hy=>by obtain⟨z,_,rfl⟩:=List.mem_map.mp hy;rfl
theorem qJ:∀(l ns:List (List Int)) (x:List Int),x∈l.foldl bX ns->x∈ns\/x∈l
 |[],ns,x,h=>.inl h
 |y::l,ns,x,h=>by
  rcases qJ l _ x h with z|z
  ·unfold bX at z
   split at z
   ·exact .inl z
   ·rcases List.mem_append.mp z with q|q
    ·exact .inl q
    ·rw[List.mem_singleton.mp q];exact .inr List.mem_cons_self
  ·exact .inr (List.mem_cons_of_mem _ z)
section
variable{X:Cx}
theorem qI(hc:X.calm=true){pins:List (Addr×Obj)}{σ:St}{H Z:Hp}{s:Shared}{a:Addr}{kss:List (List Int)}{L:Addr->Prop}{Q:VK}(I:Inv X pins σ H s)(zh:Same Z H)(hS:SetK X.prog X.w L s.heap a kss)(hne:∀k∈kss,k≠[])(hL:∀b,L b->∃k:List bb,SqT X.K Z b (k.map tu))
  (q:∀vs',KeyVs X.K Z vs' (dj (kss.map cf))->∀l,H l=none->Q (.ref l) (upd H l (.lst vs'))) :
  wpAny (model X.prog X.w) X.A (call (.builtin "sorted") [.ref a]) (EP X pins σ Q) X.xe s:=by
 obtain⟨es,ep,t,ho,T,hel,hp,hb,hf,hled⟩:=hS;have hsz:es.size=kss.length:=by
  have:=hp.length_eq;rw[List.length_map,Array.length_toList]at this;exact this
 refine Calls.call_function_entry kind_sorted plain_sorted entry_sorted (args_sorted1 _) ?_;unfold Builtin.«sorted»;refine wpAny_bind (m:=checkCount "sorted" 1 1 _) (wpAny_pure ?_);refine wpAny_bind (pY (I.ok.hd hc) ho (by unfold scanBound;omega) hf ⟨hled,fun _=>T.up⟩ fun h' d tk acc hk' pm=>?_)
 have hln:acc.length=kss.length:=by rw[pm.length_eq,List.length_map,Array.length_toList,hsz]
 have hz:acc.length<=sizeLine:=by rw[hln,sizeLine_eq];omega
 refine wpAny_bind (wpAny_newList ?_ hz);have hoL:(h'.push (seqObj "list" acc.toArray 0)).get? h'.objs.size=some (seqObj "list" acc.toArray 0):=Heap.get?_push_size _ rfl;have I1:Inv X pins σ H { s with heap:=h',drawn:=d,toks:=tk }:=Inv.keptD I hk';have I2:Inv X pins σ H { s with heap:=h'.push (seqObj "list" acc.toArray 0),drawn:=d,toks:=tk }:=I1.kept (t':=tk) fun b o eo=>Heap.get?_push_of_some _ eo
 have mem:∀v∈acc,∃ks b,v=Value.ref b/\IsTupleKey (intKind X.prog X.w) s.heap ks b/\L b:=fun v hv=>by
  obtain⟨e,he,rfl⟩:=List.mem_map.mp (pm.mem_iff.mp hv);obtain⟨ks,b,e1,e2,e3⟩:=hel e he;subst e1;exact⟨ks,b,rfl,e2,e3⟩
 have ka:KAts (h'.push (seqObj "list" acc.toArray 0)) acc (acc.map fun v=>cf (eF s.heap v)):=rE fun v hv=>by
  obtain⟨ks,b,rfl,e2,_⟩:=mem v hv;rw[eE e2];exact Aq (iQ e2 fun o e=>Heap.get?_push_of_some _ (hk' _ _ e))
 have kp:(acc.map fun v=>cf (eF s.heap v)).Perm (kss.map cf):=by
  have h1:=pm.map fun v=>cf (eF s.heap v)
  rw[List.map_map]at h1;have h2:=hp.map cf;rw[List.map_map]at h2;exact h1.trans h2
 have ok:((acc.map fun v=>cf (eF s.heap v)).all nH||(acc.map fun v=>cf (eF s.heap v)).all ud)=true:=by
  rw[Bool.or_eq_true];refine .inr (List.all_eq_true.mpr fun k hk=>?_);obtain⟨k0,h0,rfl⟩:=List.mem_map.mp (kp.mem_iff.mp hk);exact zE (hne k0 h0)
 refine wpAny_bind (wpAny_holding (wpAny_call_entry slot_list_sort ⟨_,hoL,rfl⟩ entry_list_sort (lV hoL ka ok hz fun out pm2 ka2=>⟨_,rfl,?_⟩) (args_list_sort _)));refine wpAny_pure ⟨_,rfl,?_⟩;have es:dj (acc.map fun v=>cf (eF s.heap v))=dj (kss.map cf):=jR ((gK _).trans kp) (jQ _)
 rw[es]at ka2;obtain⟨b1,b2⟩:=md I2 zh ka2 fun u hu=>by
  obtain⟨ks,b,rfl,_,e3⟩:=mem u (pm2.mem_iff.mp hu);obtain⟨k,hk⟩:=hL b e3;exact⟨b,k,rfl,hk⟩
 have kp':∀b o,h'.get? b=some o->(sortedHeap (h'.push (seqObj "list" acc.toArray 0)) h'.objs.size acc out.toArray).get? b=some o:=fun b o eo=>by
  have hb:b≠h'.objs.size:=Nat.ne_of_lt (Heap.lt_size eo);exact dY hb (Heap.get?_push_of_some _ (Heap.get?_push_of_some _ (dY hb (Heap.get?_push_of_some _ eo))))
 obtain⟨e1,ho1⟩:∃e1,((h'.push (seqObj "list" acc.toArray 0)).update h'.objs.size (Obj.mapSeq fun _=>#[])).get? h'.objs.size=some (seqObj "list" #[] e1):=⟨_,get?_update_seq hoL (fun _=>#[])⟩;have ho2:=Heap.get?_push_of_some (seqObj "list" #[] 0) (Heap.get?_push_of_some (seqObj "tuple" acc.toArray 0) ho1);have ho3:=get?_update_seq ho2 (fun _=>out.toArray);have Lh:=I1.laid (h':=sortedHeap (h'.push (seqObj "list" acc.toArray 0)) h'.objs.size acc out.toArray) (a:=h'.objs.size) (o:=.lst (out.map GS)) (t':=tk) kp' (Nat.le_refl _)
  (show ObjOk X.prog X.w _ _ _ (.lst (out.map GS))from ⟨by rw[List.length_map,pm2.length_eq];exact hz,out,_,b2,ho3⟩)
 exact⟨.ref h'.objs.size,_,Lh,rfl,q _ b1 _ (I1.hok.fresh (Nat.le_refl _))⟩
variable{e:Expr}{p p2 pos pos2:Pos}{te:TE}{f:Dv->Option D}
def C4(X:Cx)(te:TE):TE:=fun σ H Q=>te σ H fun v H1=>∃(a:Addr) (vs:List V) (Z:Hp) (kss:List (List Int)),[v]=[V.ref a]/\Same Z H1/\(SqL X.K H1 a vs\/SqT X.K H1 a vs)/\KeyVs X.K Z vs (kss.map cf)/\kss.length<63/\(∀k∈kss,k≠[])/\∀vs',KeyVs X.K Z vs' (dj ((iv kss).map cf))->∀b,H1 b=none->Q (.ref b) (upd H1 b (.lst vs'))
theorem xZ(hu:X.A.units+64<cLine)(hc:X.calm=true)(hg:Gl X "sorted")(hm:X.mg "sorted" = none)(hg':Gl X "set")(hm':X.mg "set" = none)(ha:PE X e te)
  (he:starEach [.Call (.Name "set" p2) [e] [] pos2] X.env=(false,eval (.Call (.Name "set" p2) [e] [] pos2) X.env)::starEach [] X.env:=by rfl)
  (he2:starEach [e] X.env=(false,eval e X.env)::starEach [] X.env:=by rfl) (hpl:(backTo pos (starEach [] X.env)).any (·.1)=false:=by rfl) (hpl2:(backTo pos2 (starEach [] X.env)).any (·.1)=false:=by rfl) :
  PE X (.Call (.Name "sorted" p) [.Call (.Name "set" p2) [e] [] pos2] [] pos) (C4 X te):=by
 intro pins s σ H Q I h;refine wpAny_Call_Name_kw (lX I hg hm (u:=.builtin "sorted") (by decide +kernel) ?_ (by decide) (by decide));refine PyProof.Rows.callWith_builtin1 ?_ he hpl;rw[he];show wpAny _ _ (spliced ((false,eval _ X.env)::backTo pos (starEach [] X.env))) _ _ s;refine Calls.spliced_cons ?_;refine wpAny_Call_Name_kw (lX I hg' hm' (u:=.type "set") (by decide +kernel) ?_ (by decide) (by decide));refine PyProof.Rows.callWith_type1 (cx (kQ ha pb he2 pos2 pins s σ H (fun xs H1=>∃(a:Addr) (vs:List V) (Z:Hp) (kss:List (List Int)),xs=[V.ref a]/\Same Z H1/\(SqL X.K H1 a vs\/SqT X.K H1 a vs)/\KeyVs X.K Z vs (kss.map cf)/\kss.length<63/\(∀k∈kss,k≠[])/\∀vs',KeyVs X.K Z vs' (dj ((iv kss).map cf))->∀b,H1 b=none->Q (.ref b) (upd H1 b (.lst vs'))) I (by exact h)) fun us s1 ⟨vs,H1,I1,r1,q1⟩=>?_) he2 hpl2
 obtain⟨a,xs,Z,kss,e1,zh,hsq,kv,h63,hne,q⟩:=q1;subst e1;obtain⟨u,rfl,rx⟩:=iP r1;cases rx;obtain⟨its,rv,hl⟩:∃its:List Value,Vals xs its/\(s1.heap.IsList a its.toArray\/s1.heap.IsTuple a its.toArray):=by
  rcases hsq with hsq|hsq
  ·obtain⟨its,r,⟨o,n,e1,e2,e3,e4⟩,z⟩:=I1.list hsq
   exact⟨its,r,.inl ⟨o,e1,e2,n,e4⟩⟩
  ·obtain⟨its,r,⟨o,e1,e2,n,e3⟩,z⟩:=I1.tuple hsq
   exact⟨its,r,.inr ⟨o,e1,e2,n,e3⟩⟩
 obtain⟨v2,v3⟩:=rB I1 zh kv rv;obtain⟨k1,k2⟩:=uW v2;rw[List.length_map]at k1;refine nt (kss:=kss) hu (I1.ok.hd hc) hl (by rw[List.size_toArray,k1]) (fun i v e=>?_) (by rw[List.size_toArray,<-k1];omega) fun h' tk hS kp=>?_
 ·have e:its[i]? = some v:=by simpa using e
  obtain⟨k,a1,a2⟩:=k2 i v e;rw[List.getElem?_map]at a1;obtain⟨ks,a3,rfl⟩:=Option.map_eq_some_iff.mp a1;obtain⟨b,_,rfl,_⟩:=v3 v (List.mem_of_getElem? e);exact⟨ks,b,a3,rfl,Bw a2⟩
 ·refine Calls.spliced_nil ?_
  refine qI hc (I1.kept kp) zh hS (fun k hk=>?_) (fun b hb=>?_) fun vs' kv' b hb=>q vs' kv' b hb
  ·rcases qJ kss [] k hk with z|z
   ·cases z
   ·exact hne k z
  ·obtain⟨b',k,z,hk⟩:=v3 _ (by simpa using hb.2)
   cases z;exact⟨k,hk⟩
theorem iD{K:Fg}{Z:Hp}:∀{vs:List V} {ds:List D} {kss:List (List Int)},Reps K Z vs ds->mj ds=some kss->KeyVs K Z vs (kss.map cf)
 |_,_,_,.nil,h=>by cases h;exact .nil
 |_,d::ds,_,.cons r rs,h=>by
  obtain⟨k,e1,h⟩:=bind_some h;obtain⟨k',e2,h⟩:=bind_some h;cases h;cases r with
  |tup sq r2=>
   have e:=rH r2 e1;subst e;refine .cons ?_ (iD rs e2);unfold cf;rw[List.map_map];exact sq
  |_=>cases e1
theorem zm(hu:X.A.units+64<cLine)(hg:Gl X "sorted")(hm:X.mg "sorted" = none)(hg':Gl X "set")(hm':X.mg "set" = none)(ha:EV X e f)(hc:X.calm=true:=by rfl)
  (he:starEach [.Call (.Name "set" p2) [e] [] pos2] X.env=(false,eval (.Call (.Name "set" p2) [e] [] pos2) X.env)::starEach [] X.env:=by rfl)
  (he2:starEach [e] X.env=(false,eval e X.env)::starEach [] X.env:=by rfl) (hpl:(backTo pos (starEach [] X.env)).any (·.1)=false:=by rfl) (hpl2:(backTo pos2 (starEach [] X.env)).any (·.1)=false:=by rfl) :
  EV X (.Call (.Name "sorted" p) [.Call (.Name "set" p2) [e] [] pos2] [] pos) (o1 f nM):=
 PE.imp (xZ hu hc hg hm hg' hm' ha he he2 hpl hpl2) fun σ H Q h=>by
  obtain⟨H₀,Z₀,Z,δ,d,hh,e,k⟩:=h;obtain⟨d1,e1,e⟩:=bind_some e;refine⟨H₀,Z₀,Z,δ,d1,hh,e1,fun v Z1 H1 hh1 t1 r1=>?_⟩
  unfold nM at e;obtain⟨ds,e2,e⟩:=bind_some e;obtain⟨kss,e3,e⟩:=bind_some e;obtain⟨h63,e⟩:=jh e;cases e;have key:∀vs',KeyVs X.K Z1 vs' (dj ((iv kss).map cf))->∀b,H1 b=none->Q (.ref b) (upd H1 b (.lst vs')):=fun vs' kv b hb=>by
   have n:=New.add hh1.zh hb (.lst vs');exact k _ _ _ (hh1.new n) (t1.trans n.z) (.lst (SqL.of aX) ((nZ kv).same n.z))
  cases r1 with
  |lst sq rs=>
   cases e2;exact⟨_,_,Z1,kss,rfl,hh1.zh,.inl (SqL.same sq hh1.zh),iD rs e3,h63.1,h63.2,key⟩
  |tup sq rs=>
   cases e2;exact⟨_,_,Z1,kss,rfl,hh1.zh,.inr (SqT.same sq hh1.zh),iD rs e3,h63.1,h63.2,key⟩
  |_=>cases e2
end
end VL
namespace MA
open PySem
theorem jI(x y:Int):Builtin.bitOr x y=2*Builtin.bitOr (x/2) (y/2)+(if x%2=0/\y%2=0 then 0 else 1):=by
 unfold Builtin.bitOr Builtin.bitNot;have h:=PySem.W.kbt_halves (-x-1) (-y-1);have hx:(-x-1)/2 = -(x/2)-1:=by omega
 have hy:(-y-1)/2 = -(y/2)-1:=by omega
 rw[hx,hy]at h;rw[h];by_cases c:x%2=0/\y%2=0
 ·rw[if_pos c,if_pos (by omega)];omega
 ·rw[if_neg c,if_neg (by omega)];omega
theorem i6(n:Nat):(0:Int)<2^n:=by
 induction n with
 |zero=>decide
 |succ n ih=>rw[Int.pow_succ];omega
theorem gb(x:Int)(n:Nat):x/2^(n+1)=x/2/2^n:=by
 rw[Int.pow_succ,Int.mul_comm,Int.ediv_ediv_of_nonneg (by decide)]
theorem eK(x:Int)(n:Nat):2^(n+1) ∣ x↔x%2=0/\2^n ∣ x/2:=by
 constructor
 ·rintro⟨c,rfl⟩
  rw[Int.pow_succ];refine⟨?_,c,?_⟩
  ·rw[Int.mul_comm (2^n) 2,Int.mul_assoc];omega
  ·rw[Int.mul_comm (2^n) 2,Int.mul_assoc,Int.mul_ediv_cancel_left _ (by decide)]
 ·rintro⟨h,c,hc⟩
  refine⟨c,?_⟩;rw[Int.pow_succ,Int.mul_comm (2^n) 2,Int.mul_assoc,<-hc];omega
theorem pq(n:Nat):∀x y:Int,(2^n ∣ Builtin.bitOr x y↔2^n ∣ x/\2^n ∣ y)/\(2^n ∣ Builtin.bitOr x y->Builtin.bitOr x y/2^n=Builtin.bitOr (x/2^n) (y/2^n)):=by
 induction n with
 |zero=>intro x y;simp
 |succ n ih=>
  intro x y;have h:=jI x y;have hd:Builtin.bitOr x y/2=Builtin.bitOr (x/2) (y/2):=by rw[h];split<;>omega
  have hm:Builtin.bitOr x y%2=0↔x%2=0/\y%2=0:=by
   rw[h];by_cases c:x%2=0/\y%2=0
   ·rw[if_pos c];constructor
    ·intro _;exact c
    ·intro _;omega
   ·rw[if_neg c];constructor
    ·intro z;omega
    ·intro z;exact absurd z c
  obtain⟨i1,i2⟩:=ih (x/2) (y/2);constructor
  ·rw[eK,eK,eK,hd,hm,i1]
   constructor
   ·rintro⟨⟨a,b⟩,c,d⟩;exact⟨⟨a,c⟩,b,d⟩
   ·rintro⟨⟨a,c⟩,b,d⟩;exact⟨⟨a,b⟩,c,d⟩
  ·intro q
   rw[eK,hd]at q;rw[gb,gb,gb,hd,i2 q.2]
theorem xu:∀(n:Nat) (j:Int),j.natAbs<=n->j≠0->∃(t:Nat) (a:Int),j=2^t*(2*a+1)
 | 0,j,h,h0=>by omega
 |n+1,j,h,h0=>by
  by_cases c:j%2=0
  ·obtain⟨t,a,e⟩:=xu n (j/2) (by omega) (by omega)
   refine⟨t+1,a,?_⟩;rw[Int.pow_succ,Int.mul_comm (2^t) 2,Int.mul_assoc,<-e];omega
  ·exact⟨0,j/2,by simp;omega⟩
theorem se(t:Nat):Builtin.Int.intBits (2^t)=t+1:=by
 unfold Builtin.Int.intBits;have h:(2:Int)^t≠0:=Int.ne_of_gt (i6 t);have e:((2:Int)^t).natAbs=2^t:=by
  have:((2^t:Nat):Int)=(2:Int)^t:=by simp
  rw[<-this,Int.natAbs_natCast]
 rw[if_neg (by simpa using h),e,Nat.log2_two_pow]
noncomputable def qw(j most:Int):Int:=if j=0 then most else if(Builtin.Int.intBits (Builtin.bitAnd j (-j)):Int)-1<most then(Builtin.Int.intBits (Builtin.bitAnd j (-j)):Int)-1 else most
theorem nE(j most:Int)(hm:0<=most):∃t:Nat,qw j most=t/\(t:Int)<=most/\2^t ∣ j/\((t:Int)<most->¬j/2^t%2=0):=by
 unfold qw;by_cases h:j=0
 ·subst h
  refine⟨most.toNat,by rw[if_pos rfl];omega,by omega,Int.dvd_zero _,fun z=>by omega⟩
 ·obtain⟨t,a,e⟩:=xu _ j (Nat.le_refl _) h
  have hb:Builtin.Int.intBits (Builtin.bitAnd j (-j))=t+1:=by rw[e,PySem.W.kbt_low,se]
  rw[if_neg h,hb];have q:((t+1:Nat):Int)-1=t:=by omega
  rw[q];by_cases c:(t:Int)<most
  ·refine⟨t,by rw[if_pos c],by omega,⟨_,e⟩,fun _=>?_⟩
   rw[e,Int.mul_ediv_cancel_left _ (Int.ne_of_gt (i6 t))];omega
  ·refine⟨most.toNat,by rw[if_neg c];omega,by omega,?_,fun z=>by omega⟩
   refine Int.dvd_trans ?_ ⟨_,e⟩;have:t=most.toNat+(t-most.toNat):=by omega
   rw[this,Int.pow_add];exact Int.dvd_mul_right _ _
theorem w5(p q most:Int)(hm:0<=most):∃t:Nat,qw (Builtin.bitOr p q) most=t/\(t:Int)<=most/\p=p/2^t*2^t/\q=q/2^t*2^t/\((t:Int)<most->¬(p/2^t%2=0/\q/2^t%2=0)):=by
 obtain⟨t,e,h1,h2,h3⟩:=nE (Builtin.bitOr p q) most hm;have o:=pq t p q;have d:=o.1.mp h2;refine⟨t,e,h1,(Int.ediv_mul_cancel d.1).symm,(Int.ediv_mul_cancel d.2).symm,fun z w=>h3 z ?_⟩
 rw[o.2 h2,jI,if_pos w];omega
theorem jt{a:Int}{m:Nat}(h:a.natAbs<2^m):Builtin.Int.intBits a<=m:=by
 unfold Builtin.Int.intBits;split
 ·exact Nat.zero_le _
 ·rename_i h0
  have h0:a≠0:=by simpa using h0
  have:a.natAbs.log2<m:=(Nat.log2_lt (by omega)).mpr h;omega
theorem sZ{a b:Int}(m n:Nat)(ha:a.natAbs<2^m)(hb:b.natAbs<2^n)(h:m+n<=134217728):IntMulOk a b:=by
 have h1:=jt ha;have h2:=jt hb;have hc:Builtin.Int.intTooBig (Builtin.Int.intBits a+Builtin.Int.intBits b)=false:=by
  unfold Builtin.Int.intTooBig bitsLine;exact decide_eq_false (by omega)
 unfold IntMulOk;rw[hc];simp
structure Q4 where
 a:Int
 b:Int
 c:Int
 d:Int
namespace Q4
theorem ext'{x y:Q4}(h1:x.a=y.a)(h2:x.b=y.b)(h3:x.c=y.c)(h4:x.d=y.d):x=y:=by
 cases x;cases y;simp at h1 h2 h3 h4;subst h1 h2 h3 h4;rfl
noncomputable def add(x y:Q4):Q4:=⟨x.a+y.a,x.b+y.b,x.c+y.c,x.d+y.d⟩
noncomputable def neg(x:Q4):Q4:=⟨-x.a,-x.b,-x.c,-x.d⟩
noncomputable def rt(x:Q4):Q4:=⟨x.b-x.d,x.a+x.c,x.b+x.d,x.c-x.a⟩
noncomputable def dbl(n:Int)(x:Q4):Q4:=⟨x.a*n,x.b*n,x.c*n,x.d*n⟩
noncomputable def tn(x:Q4):Q4:=⟨-x.d,x.a,x.b,x.c⟩
noncomputable def rtn:Nat->Q4->Q4
 | 0,x=>x
 |n+1,x=>rtn n (rt x)
theorem rtn_succ(n:Nat)(x:Q4):rtn (n+1) x=rt (rtn n x):=by
 induction n generalizing x with
 |zero=>rfl
 |succ n ih=>exact ih (rt x)
theorem rtn_add(m n:Nat)(x:Q4):rtn (m+n) x=rtn m (rtn n x):=by
 induction n generalizing x with
 |zero=>rfl
 |succ n ih=>exact ih (rt x)
theorem xL(x:Q4):rt (rt x)=dbl 2 x:=by
 apply ext'<;>simp[rt,dbl]<;>omega
theorem BU(m n:Int)(x:Q4):dbl m (dbl n x)=dbl (n*m) x:=by
 apply ext'<;>simp[dbl,Int.mul_assoc]
theorem rtn_two(t:Nat)(x:Q4):rtn (2*t) x=dbl (2^t) x:=by
 induction t generalizing x with
 |zero=>apply ext'<;>simp[rtn,dbl]
 |succ t ih=>
  have e:2*(t+1)=2*t+1+1:=by omega
  rw[e];show rtn (2*t) (rt (rt x))=_;rw[ih,xL,BU,Int.pow_succ,Int.mul_comm]
theorem Da{x y:Q4}(h:rt x=rt y):x=y:=by
 have h1:=congrArg rt h;rw[xL,xL]at h1;have h2:=congrArg Q4.a h1;have h3:=congrArg Q4.b h1;have h4:=congrArg Q4.c h1;have h5:=congrArg Q4.d h1;simp only[dbl]at h2 h3 h4 h5;apply ext'<;>omega
theorem rtn_inj{n:Nat}{x y:Q4}(h:rtn n x=rtn n y):x=y:=by
 induction n generalizing x y with
 |zero=>exact h
 |succ n ih=>exact Da (ih h)
theorem Db(x y:Q4):rt (add x y)=add (rt x) (rt y):=by apply ext'<;>simp[rt,add]<;>omega
theorem rtn_addQ(n:Nat)(x y:Q4):rtn n (add x y)=add (rtn n x) (rtn n y):=by
 induction n generalizing x y with
 |zero=>rfl
 |succ n ih=>show rtn n (rt (add x y))=_;rw[Db,ih];rfl
theorem tn_rt(x:Q4):tn (rt x)=rt (tn x):=by apply ext'<;>simp only[rt,tn]<;>omega
def Odd(x:Q4):Prop:=¬((x.a-x.c)%2=0/\(x.b-x.d)%2=0)
theorem AA(x:Q4):¬Odd (rt x):=by
 unfold Odd rt;simp only;omega
def Least(x:Q4)(k:Int):Prop:=0<=k/\(0<k->Odd x)
theorem Least.one{x y:Q4}{k l m:Nat}(hx:Least x k)(hy:Least y l)(h1:k<=m)(h2:l<=m)(h:rtn (m-k) x=rtn (m-l) y):x=y/\k=l:=by
 have key:∀{x y:Q4} {k l:Nat},Least y l->k<=m->l<=m->k<l->rtn (m-k) x=rtn (m-l) y->False:=by
  intro x y k l hy h1 h2 hlt h;have e:m-k=(m-l)+(l-k):=by omega
  rw[e,rtn_add]at h;have h3:=rtn_inj h;obtain⟨n,hn⟩:∃n,l-k=n+1:=⟨l-k-1,by omega⟩;rw[hn,rtn_succ]at h3;have:=hy.2 (by omega);rw[<-h3]at this;exact AA _ this
 rcases Nat.lt_trichotomy k l with q|q|q
 ·exact(key hy h1 h2 q h).elim
 ·subst q;exact⟨rtn_inj h,rfl⟩
 ·exact(key hx h2 h1 q h.symm).elim
end Q4
theorem jD(a b c d most:Int)(hm:0<=most):∃t:Nat,qw (Builtin.bitOr (Builtin.bitOr (Builtin.bitOr a b) c) d) most=t/\(t:Int)<=most/\a=a/2^t*2^t/\b=b/2^t*2^t/\c=c/2^t*2^t/\d=d/2^t*2^t /\
  ((t:Int)<most->¬(a/2^t%2=0/\b/2^t%2=0/\c/2^t%2=0/\d/2^t%2=0)):=by
 obtain⟨t,e,h1,h2,h3⟩:=nE (Builtin.bitOr (Builtin.bitOr (Builtin.bitOr a b) c) d) most hm;have o1:=pq t (Builtin.bitOr (Builtin.bitOr a b) c) d;have d1:=o1.1.mp h2;have o2:=pq t (Builtin.bitOr a b) c;have d2:=o2.1.mp d1.1;have o3:=pq t a b;have d3:=o3.1.mp d2.1;refine⟨t,e,h1,(Int.ediv_mul_cancel d3.1).symm,(Int.ediv_mul_cancel d3.2).symm,(Int.ediv_mul_cancel d2.2).symm,(Int.ediv_mul_cancel d1.2).symm,fun z w=>h3 z ?_⟩
 have ev:∀x y:Int,x%2=0->y%2=0->Builtin.bitOr x y%2=0:=fun x y hx hy=>by
  rw[jI,if_pos ⟨hx,hy⟩];omega
 rw[o1.2 h2,o2.2 d1.1,o3.2 d2.1];exact ev _ _ (ev _ _ (ev _ _ w.1 w.2.1) w.2.2.1) w.2.2.2
noncomputable def num(x:Q4)(k:Int):Q4×Int:=
 let t:=(qw (Builtin.bitOr (Builtin.bitOr (Builtin.bitOr x.a x.b) x.c) x.d) (k/2)).toNat
 let y:Q4:=⟨x.a/2^t,x.b/2^t,x.c/2^t,x.d/2^t⟩
 if k-2*t=0\/(y.a-y.c)%2=1\/(y.b-y.d)%2=1 then(y,k-2*t)else(⟨(y.b-y.d)/2,(y.a+y.c)/2,(y.b+y.d)/2,(y.c-y.a)/2⟩,k-2*t-1)
theorem tH{p q:Int}(h:(p-q)%2=0):(p+q)/2-(q-p)/2=p/\(p+q)/2+(q-p)/2=q:=by omega
theorem tG{p q:Int}(h:(p-q)%2=0):(p-q)/2+(p+q)/2=p/\(p+q)/2-(p-q)/2=q:=by omega
theorem Dx{x y:Int}(h:(x-y)%2=0)(k:y%2=0):x%2=0:=by omega
theorem AS{x y:Int}(h:(x-y)%2=0)(k:x%2=0):y%2=0:=by omega
theorem yj{a b c d:Int}(g1:(a-c)%2=0)(g2:(b-d)%2=0)(h:¬(a%2=0/\b%2=0/\c%2=0/\d%2=0)):Q4.Odd ⟨(b-d)/2,(a+c)/2,(b+d)/2,(c-a)/2⟩:=fun z=>by
 have z1:((b-d)/2-(b+d)/2)%2=0:=z.1;have z2:((a+c)/2-(c-a)/2)%2=0:=z.2;rw[(tH g1).1]at z2;have e:=(tG g2).2;have z3:d%2=0:=by omega
 exact h ⟨z2,Dx g2 z3,AS g1 z2,z3⟩
theorem ja(x:Q4)(k:Int)(hk:0<=k):Q4.Least (num x k).1 (num x k).2/\(num x k).2<=k/\Q4.rtn (k-(num x k).2).toNat (num x k).1=x:=by
 obtain⟨t,e,h1,ha,hb,hc,hd,h3⟩:=jD x.a x.b x.c x.d (k/2) (by omega);have l2:2*(t:Int)<=k:=by omega
 unfold num;simp only[e,Int.toNat_natCast];generalize x.a/2^t=a at *;generalize x.b/2^t=b at *;generalize x.c/2^t=c at *;generalize x.d/2^t=d at *;have e2:Q4.dbl (2^t) ⟨a,b,c,d⟩=x:=Q4.ext' ha.symm hb.symm hc.symm hd.symm;split
 ·rename_i h
  refine⟨⟨Int.sub_nonneg_of_le l2,fun z=>?_⟩,Int.sub_le_self _ (by omega),?_⟩
  ·rcases h with h|h|h
   ·exact absurd h (Int.ne_of_gt z)
   ·exact fun w=>absurd (h.symm.trans w.1) (by decide)
   ·exact fun w=>absurd (h.symm.trans w.2) (by decide)
  ·have:(k-(k-2*(t:Int))).toNat=2*t:=by omega
   simp only[this];rw[Q4.rtn_two,e2]
 ·rename_i h
  have g0:k-2*(t:Int)≠0:=fun z=>h (.inl z)
  have g1:(a-c)%2=0:=(Int.emod_two_eq (a-c)).resolve_right fun z=>h (.inr (.inl z))
  have g2:(b-d)%2=0:=(Int.emod_two_eq (b-d)).resolve_right fun z=>h (.inr (.inr z))
  refine⟨⟨(by omega:0<=k-2*(t:Int)-1),fun z=>yj g1 g2 (h3 ?_)⟩,(by omega:k-2*(t:Int)-1<=k),?_⟩
  ·have z:0<k-2*(t:Int)-1:=z
   omega
  ·have:(k-(k-2*(t:Int)-1)).toNat=2*t+1:=by omega
   simp only[this];show Q4.rtn (2*t) (Q4.rt _)=x;rw[Q4.rtn_two];have e3:Q4.rt ⟨(b-d)/2,(a+c)/2,(b+d)/2,(c-a)/2⟩=⟨a,b,c,d⟩:=Q4.ext' (tH g1).1 (tG g2).1 (tH g1).2 (tG g2).2;rw[e3,e2]
def Q4.Le(M:Nat)(x:Q4):Prop:=x.a.natAbs<=M/\x.b.natAbs<=M/\x.c.natAbs<=M/\x.d.natAbs<=M
theorem jY(a:Int)(t:Nat)(h:a=a/2^t*2^t):(a/2^t).natAbs<=a.natAbs:=by
 have pw:=i6 t;have:a.natAbs=(a/2^t).natAbs*((2:Int)^t).natAbs:=by rw[<-Int.natAbs_mul,<-h]
 rw[this];exact Nat.le_mul_of_pos_right _ (by omega)
theorem kl{a b:Int}{M:Nat}(ha:a.natAbs<=M)(hb:b.natAbs<=M):((a+b)/2).natAbs<=M:=by omega
theorem kj{a b:Int}{M:Nat}(ha:a.natAbs<=M)(hb:b.natAbs<=M):((a-b)/2).natAbs<=M:=by omega
theorem yk(x:Q4)(k:Int)(hk:0<=k)(M:Nat)(h:Q4.Le M x):Q4.Le M (num x k).1:=by
 obtain⟨t,e,h1,ha,hb,hc,hd,h3⟩:=jD x.a x.b x.c x.d (k/2) (by omega);have la:=Nat.le_trans (jY _ _ ha) h.1;have lb:=Nat.le_trans (jY _ _ hb) h.2.1;have lc:=Nat.le_trans (jY _ _ hc) h.2.2.1;have ld:=Nat.le_trans (jY _ _ hd) h.2.2.2;unfold num Q4.Le;simp only[e,Int.toNat_natCast];split
 ·exact⟨la,lb,lc,ld⟩
 ·exact⟨kj lb ld,kl la lc,kl lb ld,kj lc la⟩
theorem dG{a b:Int}{M N:Nat}(ha:a.natAbs<=M)(hb:b.natAbs<=N):(a+b).natAbs<=M+N:=Nat.le_trans (Int.natAbs_add_le a b) (Nat.add_le_add ha hb)
theorem lw{a b:Int}{M N:Nat}(ha:a.natAbs<=M)(hb:b.natAbs<=N):(a-b).natAbs<=M+N:=Nat.le_trans (Int.natAbs_sub_le a b) (Nat.add_le_add ha hb)
theorem Fo{x:Q4}{M:Nat}(h:Q4.Le M x):Q4.Le (2*M) (Q4.rt x):=by
 obtain⟨g1,g2,g3,g4⟩:=h;rw[Nat.two_mul];unfold Q4.Le Q4.rt;exact⟨lw g2 g4,dG g1 g3,dG g2 g4,lw g3 g1⟩
theorem xK{x:Q4}{M:Nat}:∀(n:Nat),Q4.Le M x->Q4.Le (2^n*M) (Q4.rtn n x)
 | 0,h=>by simpa[Q4.rtn]using h
 |n+1,h=>by
  have:=Fo (xK n h);rw[Q4.rtn_succ];rw[Nat.pow_succ,Nat.mul_comm (2^n) 2,Nat.mul_assoc];exact this
theorem Q4.Le.mono{x:Q4}{M N:Nat}(h:Q4.Le M x)(hl:M<=N):Q4.Le N x:=⟨Nat.le_trans h.1 hl,Nat.le_trans h.2.1 hl,Nat.le_trans h.2.2.1 hl,Nat.le_trans h.2.2.2 hl⟩
theorem add_le{x y:Q4}{M N:Nat}(h:Q4.Le M x)(h':Q4.Le N y):Q4.Le (M+N) (Q4.add x y):=
 ⟨dG h.1 h'.1,dG h.2.1 h'.2.1,dG h.2.2.1 h'.2.2.1,dG h.2.2.2 h'.2.2.2⟩
theorem u8{a b c d:Int}{M:Nat}(ha:a.natAbs<=M)(hb:b.natAbs<=M)(hc:c.natAbs<=M)(hd:d.natAbs<=M)(s t u:Int)(hs:s=b\/s = -b)(ht:t=c\/t = -c)(hu:u=d\/u = -d):(a+s+t+u).natAbs<=4*M:=by
 have h1:=Int.natAbs_add_le (a+s+t) u;have h2:=Int.natAbs_add_le (a+s) t;have h3:=Int.natAbs_add_le a s;have e1:s.natAbs=b.natAbs:=by rcases hs with rfl|rfl<;>simp
 have e2:t.natAbs=c.natAbs:=by rcases ht with rfl|rfl<;>simp
 have e3:u.natAbs=d.natAbs:=by rcases hu with rfl|rfl<;>simp
 rw[e1]at h3;rw[e2]at h2;rw[e3]at h1;generalize (a+s+t+u).natAbs=A at *;generalize (a+s+t).natAbs=B at *;generalize (a+s).natAbs=C at *;generalize a.natAbs=a' at *;generalize b.natAbs=b' at *;generalize c.natAbs=c' at *;generalize d.natAbs=d' at *;omega
noncomputable def e8(x:Q4)(c:Int)(y:Q4)(d:Int):Q4×Int:=num (Q4.add (Q4.rtn (max c d-c).toNat x) (Q4.rtn (max c d-d).toNat y)) (max c d)
noncomputable def mX:Nat->Q4->Q4
 | 0,x=>x
 |n+1,x=>Q4.tn (mX n x)
theorem lC{x:Q4}{M:Nat}:∀n:Nat,Q4.Le M x->Q4.Le M (mX n x)
 | 0,h=>h
 |n+1,h=>by
  obtain⟨a,b,c,d⟩:=lC n h;exact⟨by simpa[mX,Q4.tn]using d,a,b,c⟩
theorem tn_odd{x:Q4}:Q4.Odd (Q4.tn x)↔Q4.Odd x:=by
 unfold Q4.Odd Q4.tn;simp only;omega
theorem uo{x:Q4}:∀n:Nat,Q4.Odd (mX n x)↔Q4.Odd x
 | 0=>Iff.rfl
 |n+1=>tn_odd.trans (uo n)
theorem vB{x:Q4}{c:Int}(n:Nat)(h:Q4.Least x c):Q4.Least (mX n x) c:=⟨h.1,fun z=>(uo n).mpr (h.2 z)⟩
def Is(x:Q4)(c:Nat)(u:Q4)(k:Nat):Prop:=Q4.Least x c/\Q4.rtn k x=Q4.rtn c u
theorem lL(m n:Nat)(x:Q4):Q4.rtn m (Q4.rtn n x)=Q4.rtn n (Q4.rtn m x):=by rw[<-Q4.rtn_add,<-Q4.rtn_add,Nat.add_comm]
theorem DG(u:Q4)(k:Nat):∃c:Nat,(num u k).2=c/\c<=k/\Is (num u k).1 c u k:=by
 obtain⟨s1,s2,s3⟩:=ja u k (by omega);obtain⟨c,hc⟩:∃c:Nat,(num u k).2=c:=⟨(num u k).2.toNat,by have:=s1.1;omega⟩;rw[hc]at s1 s2 s3;refine⟨c,hc,by omega,s1,?_⟩;have e:((k:Int)-c).toNat=k-c:=by omega
 rw[e]at s3
 conv=>rhs;rw[<-s3]
 rw[<-Q4.rtn_add];congr 1;omega
theorem Is.trans{x u v:Q4}{c k l:Nat}(h:Is x c u k)(e:Q4.rtn l u=Q4.rtn k v):Is x c v l:=by
 refine⟨h.1,Q4.rtn_inj (n:=k) ?_⟩;rw[lL,h.2,lL,e,lL]
theorem C3(n:Nat)(x:Q4):Q4.tn (Q4.rtn n x)=Q4.rtn n (Q4.tn x):=by
 induction n generalizing x with
 |zero=>rfl
 |succ n ih=>show Q4.tn (Q4.rtn n (Q4.rt x))=Q4.rtn n (Q4.rt (Q4.tn x));rw[ih,Q4.tn_rt]
theorem Ar(m n:Nat)(x:Q4):mX m (Q4.rtn n x)=Q4.rtn n (mX m x):=by
 induction m with
 |zero=>rfl
 |succ m ih=>show Q4.tn (mX m (Q4.rtn n x))=_;rw[ih,C3];rfl
theorem xU{x y:Q4}{c d:Nat}{p r:Nat}(hx:Q4.Le (2^p) x)(hy:Q4.Le (2^p) y)(hc:c<=r)(hd:d<=r):Q4.Le (2^(p+r+1)) (e8 x c y d).1:=by
 have em:max (c:Int) d=((max c d:Nat):Int):=by omega
 unfold e8;refine yk _ _ (by omega) _ ?_;have up:∀(n:Nat) (z:Q4),n<=r->Q4.Le (2^p) z->Q4.Le (2^(p+r)) (Q4.rtn n z):=fun n z hn hz=>by
  refine(xK n hz).mono ?_;rw[<-Nat.pow_add];exact Nat.pow_le_pow_right (by decide) (by omega)
 have:=add_le (up (max (c:Int) d-c).toNat x (by omega) hx) (up (max (c:Int) d-d).toNat y (by omega) hy);rw[Nat.pow_succ,Nat.mul_two];exact this
structure S2 where
 p:Int
 q:Int
namespace S2
theorem ext'{x y:S2}(h1:x.p=y.p)(h2:x.q=y.q):x=y:=by
 cases x;cases y;simp at h1 h2;subst h1 h2;rfl
noncomputable def add(x y:S2):S2:=⟨x.p+y.p,x.q+y.q⟩
noncomputable def sc(n:Nat)(x:S2):S2:=⟨x.p*2^n,x.q*2^n⟩
theorem sc_add(m n:Nat)(x:S2):sc (m+n) x=sc m (sc n x):=by
 apply ext'<;>simp only[sc,Int.pow_add]<;>rw[Int.mul_assoc,Int.mul_comm (2^n)]
theorem sc_swap(m n:Nat)(x:S2):sc m (sc n x)=sc n (sc m x):=by rw[<-sc_add,<-sc_add,Nat.add_comm]
theorem sc_inj{n:Nat}{x y:S2}(h:sc n x=sc n y):x=y:=by
 have pw:=i6 n;have h1:=congrArg S2.p h;have h2:=congrArg S2.q h;simp only[sc]at h1 h2;exact ext' (Int.eq_of_mul_eq_mul_right (by omega) h1) (Int.eq_of_mul_eq_mul_right (by omega) h2)
theorem sc_addS(n:Nat)(x y:S2):sc n (add x y)=add (sc n x) (sc n y):=by apply ext'<;>simp only[sc,add,Int.add_mul]
def Odd(x:S2):Prop:=¬(x.p%2=0/\x.q%2=0)
def Least(x:S2)(c:Nat):Prop:=0<c->Odd x
def Le(M:Nat)(x:S2):Prop:=x.p.natAbs<=M/\x.q.natAbs<=M
theorem Le.mono{x:S2}{M N:Nat}(h:Le M x)(hl:M<=N):Le N x:=⟨Nat.le_trans h.1 hl,Nat.le_trans h.2 hl⟩
theorem add_le{x y:S2}{M N:Nat}(h:Le M x)(h':Le N y):Le (M+N) (add x y):=
 ⟨Nat.le_trans (Int.natAbs_add_le _ _) (Nat.add_le_add h.1 h'.1),Nat.le_trans (Int.natAbs_add_le _ _) (Nat.add_le_add h.2 h'.2)⟩
theorem sc_le{x:S2}{p:Nat}(n:Nat)(h:Le (2^p) x):Le (2^(p+n)) (sc n x):=by
 have e:((2:Int)^n).natAbs=2^n:=by
  have:((2^n:Nat):Int)=(2:Int)^n:=by simp
  rw[<-this,Int.natAbs_natCast]
 constructor
 ·show(x.p*2^n).natAbs<=_
  rw[Int.natAbs_mul,e,Nat.pow_add];exact Nat.mul_le_mul_right _ h.1
 ·show(x.q*2^n).natAbs<=_
  rw[Int.natAbs_mul,e,Nat.pow_add];exact Nat.mul_le_mul_right _ h.2
def Is(x:S2)(c:Nat)(u:S2)(k:Nat):Prop:=Least x c/\sc k x=sc c u
theorem Is.trans{x u v:S2}{c k l:Nat}(h:Is x c u k)(e:sc l u=sc k v):Is x c v l:=by
 refine⟨h.1,sc_inj (n:=k) ?_⟩;rw[sc_swap,h.2,sc_swap,e,sc_swap]
end S2
noncomputable def dF(x:Q4):S2:=⟨x.a*x.a+x.b*x.b+x.c*x.c+x.d*x.d,x.a*x.b+x.b*x.c+x.c*x.d-x.d*x.a⟩
theorem sY(x:Q4):dF (Q4.rt x)=S2.sc 1 (dF x):=by apply S2.ext'<;>simp only[dF,Q4.rt,S2.sc]<;>grind
theorem pE(n:Nat)(x:Q4):dF (Q4.rtn n x)=S2.sc n (dF x):=by
 induction n generalizing x with
 |zero=>apply S2.ext'<;>simp[Q4.rtn,S2.sc]
 |succ n ih=>show dF (Q4.rtn n (Q4.rt x))=_;rw[ih,sY,<-S2.sc_add]
theorem DO(x:Q4):dF (Q4.tn x)=dF x:=by apply S2.ext'<;>simp only[dF,Q4.tn]<;>grind
theorem uN(n:Nat)(x:Q4):dF (mX n x)=dF x:=by
 induction n with
 |zero=>rfl
 |succ n ih=>show dF (Q4.tn (mX n x))=_;rw[DO,ih]
theorem A6(x y:Q4):S2.add (dF (Q4.add x y)) (dF (Q4.add x (Q4.neg y)))=S2.add (S2.add (dF x) (dF y)) (S2.add (dF x) (dF y)):=by
 apply S2.ext'<;>simp only[dF,Q4.add,Q4.neg,S2.add]<;>grind
theorem DQ{x:Q4}{M:Nat}(h:Q4.Le M x):S2.Le (4*(M*M)) (dF x):=by
 obtain⟨g1,g2,g3,g4⟩:=h;have m:∀a b:Int,a.natAbs<=M->b.natAbs<=M->(a*b).natAbs<=M*M:=fun a b ha hb=>by rw[Int.natAbs_mul];exact Nat.mul_le_mul ha hb
 constructor
 ·have:=u8 (m _ _ g1 g1) (m _ _ g2 g2) (m _ _ g3 g3) (m _ _ g4 g4) _ _ _ (.inl rfl) (.inl rfl) (.inl rfl)
  simpa[dF]using this
 ·have:=u8 (m _ _ g1 g2) (m _ _ g2 g3) (m _ _ g3 g4) (m _ _ g4 g1) _ _ _ (.inl rfl) (.inl rfl) (.inr rfl)
  simpa[dF,Int.sub_eq_add_neg]using this
theorem uu(a:Int):0<=a*a:=by
 rcases Int.le_total 0 a with h|h
 ·exact Int.mul_nonneg h h
 ·have:=Int.mul_nonneg (Int.neg_nonneg.mpr h) (Int.neg_nonneg.mpr h)
  rwa [Int.neg_mul_neg]at this
theorem yl{x:Q4}(h:(dF x).p=0):x=⟨0,0,0,0⟩:=by
 have h1:=uu x.a;have h2:=uu x.b;have h3:=uu x.c;have h4:=uu x.d;simp only[dF]at h;have z:∀a:Int,a*a=0->a=0:=fun a e=>by rcases Int.mul_eq_zero.mp e with q|q<;>exact q
 exact Q4.ext' (z _ (by omega)) (z _ (by omega)) (z _ (by omega)) (z _ (by omega))
theorem Ce{x u:Q4}{c k:Nat}(h:Is x c u k):S2.sc k (dF x)=S2.sc c (dF u):=by
 rw[<-pE,<-pE,h.2]
abbrev Nu:=Q4×Nat
inductive Row where
 |swing (j:Nat)|turn (j:Nat) (e:Nat)|flip (j:Nat)|tie (i j:Nat)|sign (i j:Nat)|cross (i j:Nat)
noncomputable def dE(u v:Nu):Nu:=((e8 u.1 u.2 v.1 v.2).1,(e8 u.1 u.2 v.1 v.2).2.toNat)
noncomputable def eO(u:Nu):Nu:=((num u.1 ((u.2+1:Nat):Int)).1,(num u.1 ((u.2+1:Nat):Int)).2.toNat)
noncomputable def dD(e:Nat)(u:Nu):Nu:=(mX (e%8) u.1,u.2)
noncomputable def wt(n j:Nat):Nat:=2^(n-1-j)
noncomputable def bO(w p:Nat):Nat:=p/w%2
noncomputable def flp(w p:Nat):Nat:=if bO w p=0 then p+w else p-w
noncomputable def fS(n:Nat):Row->Nat->Nat
 |.flip j,p=>flp (wt n j) p
 |.tie i j,p=>if bO (wt n i) p=0 then p else flp (wt n j) p
 |.cross i j,p=>if bO (wt n i) p=bO (wt n j) p then p else flp (wt n j) (flp (wt n i) p)
 |_,p=>p
noncomputable def aO(n:Nat)(f:Nat->Nu):Row->Nat->Nu
 |.swing j,p=>if bO (wt n j) p=0 then eO (dE (f p) (f (p+wt n j)))else eO (dE (f (p-wt n j)) (dD 4 (f p)))
 |.turn j e,p=>dD (e*bO (wt n j) p) (f p)
 |.sign i j,p=>dD (4*bO (wt n i) p*bO (wt n j) p) (f p)
 |r,p=>f (fS n r p)
def Row.ok(n:Nat):Row->Prop
 |.swing j=>j<n
 |.turn j e=>j<n/\1<=e/\e<=7
 |.flip j=>j<n
 |.tie i j=>i<n/\j<n/\i≠j
 |.sign i j=>i<n/\j<n/\i≠j
 |.cross i j=>i<n/\j<n/\i≠j
theorem bK(n j:Nat):0<wt n j:=Nat.pow_pos (by decide)
theorem wV{n j:Nat}(h:j<n):2^n=wt n j*2^(j+1):=by
 unfold wt;rw[<-Nat.pow_add];congr 1;omega
theorem cO(w p:Nat):bO w p<2:=Nat.mod_lt _ (by decide)
theorem ie(w p:Nat)(hw:0<w):∃q r,p=(2*q+bO w p)*w+r/\r<w:=by
 refine⟨p/w/2,p%w,?_,Nat.mod_lt _ hw⟩;unfold bO;rw[Nat.div_add_mod,Nat.div_add_mod']
theorem tZ{w q b r:Nat}(hb:b<2)(hr:r<w):bO w ((2*q+b)*w+r)=b:=by
 unfold bO;rw[Nat.mul_comm,Nat.mul_add_div (by omega),Nat.div_eq_of_lt hr];omega
theorem p6{w p:Nat}(hw:0<w)(h:bO w p=1):w<=p:=by
 obtain⟨q,r,e,_⟩:=ie w p hw;rw[h]at e;have:(2*q+1)*w=2*q*w+w:=by rw[Nat.add_mul,Nat.one_mul]
 omega
theorem B4{n j p:Nat}(hj:j<n)(hp:p<2^n)(h:bO (wt n j) p=0):p+wt n j<2^n:=by
 obtain⟨q,r,e,hr⟩:=ie (wt n j) p (bK n j);rw[h]at e;have h2:=wV hj;have hq:q<2^j:=by
  refine Nat.lt_of_not_le fun z=>?_
  have:2*2^j*wt n j<=2*q*wt n j:=Nat.mul_le_mul_right _ (by omega);have e2:wt n j*2^(j+1)=2*2^j*wt n j:=by rw[Nat.pow_succ,Nat.mul_comm,Nat.mul_comm (2^j) 2]
  rw[Nat.add_zero]at e;omega
 have:(2*q+2)*wt n j<=2*2^j*wt n j:=Nat.mul_le_mul_right _ (by omega);have e2:wt n j*2^(j+1)=2*2^j*wt n j:=by rw[Nat.pow_succ,Nat.mul_comm,Nat.mul_comm (2^j) 2]
 have e3:(2*q+2)*wt n j=2*q*wt n j+2*wt n j:=Nat.add_mul ..;rw[Nat.add_zero]at e;omega
theorem iE{n j p:Nat}(hj:j<n)(hp:p<2^n):flp (wt n j) p<2^n:=by
 unfold flp;split
 ·exact B4 hj hp (by assumption)
 ·omega
theorem BG{n p:Nat}{r:Row}(hr:r.ok n)(hp:p<2^n):fS n r p<2^n:=by
 cases r with
 |flip j=>exact iE hr hp
 |tie i j=>show(if _ then _ else _)<_;split;exact hp;exact iE hr.2.1 hp
 |cross i j=>show(if _ then _ else _)<_;split;exact hp;exact iE hr.2.1 (iE hr.1 hp)
 |_=>exact hp
theorem BJ{w p:Nat}(hw:0<w):flp w p/(2*w)=p/(2*w):=by
 obtain⟨q,r,e,hr⟩:=ie w p hw;have h2:=cO w p;have e1:(2*q+bO w p)*w=2*w*q+bO w p*w:=by rw[Nat.add_mul,Nat.mul_right_comm]
 have one:∀x,x<2*w->(2*w*q+x)/(2*w)=q:=fun x hx=>by rw[Nat.mul_add_div (by omega),Nat.div_eq_of_lt hx,Nat.add_zero]
 unfold flp;split
 ·rename_i h
  rw[h]at e e1;have a:=one (r+w) (by omega);have b:=one r (by omega);rw[show p+w=2*w*q+(r+w) by omega,a,show p=2*w*q+r by omega,b]
 ·rename_i h
  have h1:bO w p=1:=by omega
  rw[h1]at e e1;have a:=one (r+w) (by omega);have b:=one r (by omega);rw[show p-w=2*w*q+r by omega,b,show p=2*w*q+(r+w) by omega,a]
theorem oz(x p m:Nat)(hx:0<x):bO x (p+2*x*m)=bO x p:=by
 unfold bO;rw[show p+2*x*m=p+x*(2*m) by rw[Nat.mul_comm 2 x,Nat.mul_assoc],Nat.add_mul_div_left _ _ hx];omega
theorem jv{n i j p:Nat}(hi:i<n)(hj:j<n)(hij:i≠j):bO (wt n j) (flp (wt n i) p)=bO (wt n j) p:=by
 have hw:=bK n i;by_cases h:j<i
 ·
  have e:wt n j=2*wt n i*2^(i-j-1):=by
   unfold wt;rw[show 2*2^(n-1-i)=2^(n-1-i+1) by rw[Nat.pow_succ,Nat.mul_comm],<-Nat.pow_add];congr 1;omega
  unfold bO;rw[e,<-Nat.div_div_eq_div_mul (flp (wt n i) p) (2*wt n i),<-Nat.div_div_eq_div_mul p (2*wt n i),BJ hw]
 ·have e:wt n i=2*wt n j*2^(j-i-1):=by
   unfold wt;rw[show 2*2^(n-1-j)=2^(n-1-j+1) by rw[Nat.pow_succ,Nat.mul_comm],<-Nat.pow_add];congr 1;omega
  unfold flp;split
  ·rw[e];exact oz _ _ _ (bK n j)
  ·rename_i hb
   have h2:=cO (wt n i) p;have:=p6 (w:=wt n i) (p:=p) hw (by omega);have:=oz (wt n j) (p-wt n i) (2^(j-i-1)) (bK n j);rw[<-this,<-e,Nat.sub_add_cancel (by assumption)]
theorem dt{w p:Nat}(hw:0<w):bO w (flp w p)=1-bO w p:=by
 obtain⟨q,r,e,hr⟩:=ie w p hw;have h2:=cO w p;unfold flp;split
 ·rename_i h
  rw[h]at e;rw[h,show p+w=(2*q+1)*w+r by rw[Nat.add_mul]at e ⊢;omega];exact tZ (by decide) hr
 ·rename_i h
  have h1:bO w p=1:=by omega
  rw[h1]at e;rw[h1,show p-w=(2*q+0)*w+r by rw[Nat.add_mul]at e ⊢;omega];exact tZ (by decide) hr
theorem u9{w p:Nat}(hw:0<w):flp w (flp w p)=p:=by
 have h:=dt (p:=p) hw;have h2:=cO w p;by_cases c:bO w p=0
 ·have e:flp w p=p+w:=if_pos c
  rw[c]at h;rw[e]at h ⊢;unfold flp;rw[if_neg (by omega)];omega
 ·have c1:bO w p=1:=by omega
  have e:flp w p=p-w:=if_neg c;have:=p6 hw c1;rw[c1]at h;rw[e]at h ⊢;unfold flp;rw[if_pos (by omega)];omega
theorem sg(a b:Nat):Builtin.bitAnd (a:Int) (b:Int)=((a &&& b:Nat):Int):=by
 unfold Builtin.bitAnd;simp
theorem vy{x y z:Nat}(h:x/2=y/2+z/2)(m:x%2=y%2+z%2):x=y+z:=by omega
theorem wc{u v w:Nat}{p q:Prop}(hu:u<2)(hv:v<2)(hw:w<2)(m1:u=1↔p\/q)(m2:v=1 ↔ ¬(p↔q))(m3:w=1↔p/\q):u=v+w:=by
 have z:∀{x:Nat},x<2->¬x=1->x=0:=fun h k=>by omega
 by_cases a:p<;>by_cases b:q
 ·rw[m1.mpr (.inl a),m3.mpr ⟨a,b⟩,z hv fun e=>m2.mp e ⟨fun _=>b,fun _=>a⟩]
 ·rw[m1.mpr (.inl a),m2.mpr fun e=>b (e.mp a),z hw fun e=>b (m3.mp e).2]
 ·rw[m1.mpr (.inr b),m2.mpr fun e=>a (e.mpr b),z hw fun e=>a (m3.mp e).1]
 ·rw[z hu fun e=>(m1.mp e).elim a b,z hv fun e=>m2.mp e ⟨fun c=>absurd c a,fun c=>absurd c b⟩,z hw fun e=>a (m3.mp e).1]
theorem mQ:∀(k a b:Nat),a<2^k->b<2^k->(a ||| b)=(a ^^^ b)+(a &&& b)
 | 0,a,b,ha,hb=>by
  have:a=0:=by simpa using ha
  have:b=0:=by simpa using hb
  subst a;subst b;rfl
 |k+1,a,b,ha,hb=>by
  have ih:=mQ k (a/2) (b/2) (by rw[Nat.pow_succ]at ha;omega) (by rw[Nat.pow_succ]at hb;omega);have h1:=@Nat.or_div_two a b;have h2:=@Nat.xor_div_two a b;have h3:=@Nat.and_div_two a b;have m1:=@Nat.or_mod_two_eq_one a b;have m2:=@Nat.xor_mod_two_eq_one a b;have m3:=@Nat.and_mod_two_eq_one a b;rw[<-h1,<-h2,<-h3]at ih;exact vy ih (wc (Nat.mod_lt _ (by decide)) (Nat.mod_lt _ (by decide)) (Nat.mod_lt _ (by decide)) m1 m2 m3)
theorem IH(a b:Nat):Builtin.bitOr (a:Int) (b:Int)=((a ||| b:Nat):Int):=by
 have h1:¬(0:Int)<=Builtin.bitNot (a:Int):=by unfold Builtin.bitNot;omega
 have h2:¬(0:Int)<=Builtin.bitNot (b:Int):=by unfold Builtin.bitNot;omega
 have e1:(Builtin.bitNot (Builtin.bitNot (a:Int))).toNat=a:=by unfold Builtin.bitNot;omega
 have e2:(Builtin.bitNot (Builtin.bitNot (b:Int))).toNat=b:=by unfold Builtin.bitNot;omega
 unfold Builtin.bitOr Builtin.bitAnd;rw[decide_eq_false h1,decide_eq_false h2];dsimp only;rw[e1,e2];unfold Builtin.bitNot;omega
theorem B2(a b:Nat):Builtin.bitXor (a:Int) (b:Int)=((a ^^^ b:Nat):Int):=by
 unfold Builtin.bitXor;rw[IH,sg];have h:∀n:Nat,n<2^n:=fun n=>Nat.lt_two_pow_self
 have:=mQ (max a b) a b (Nat.lt_of_lt_of_le (h a) (Nat.pow_le_pow_right (by decide) (by omega))) (Nat.lt_of_lt_of_le (h b) (Nat.pow_le_pow_right (by decide) (by omega)));omega
noncomputable def Js(n:Nat):Nat:=if n=0 then 0 else n%2+Js (n/2)
termination_by n
decreasing_by omega
noncomputable def par(n:Nat):Nat:=Js n%2
structure Wd where
 x:Nat
 z:Nat
 s:Nat
noncomputable def CT(u v:Wd):Wd:=⟨u.x ^^^ v.x,u.z ^^^ v.z,(u.s+v.s+2*par (u.z &&& v.x))%4⟩
def Sh(k:Nat)(d:PyData):Prop:=d.canLay0=true/\d.depth<=k
theorem Sh.int(k:Nat)(i:Int):Sh k (.int i):=⟨by simp[PyData.canLay0],by simp[PyData.depth]⟩
theorem Sh.all{k:Nat}:∀(xs:List PyData),(∀x∈xs,Sh k x)->PyData.canLayAll0 xs=true/\PyData.depthAll xs<=k
 |[],_=>⟨by simp[PyData.canLayAll0],by simp[PyData.depthAll]⟩
 |x::xs,h=>by
  obtain⟨a,b⟩:=Sh.all xs fun y hy=>h y (List.mem_cons_of_mem _ hy)
  obtain⟨c,d⟩:=h x List.mem_cons_self;refine⟨by simp[PyData.canLayAll0,a,c],?_⟩;simp only[PyData.depthAll];omega
theorem Sh.tuple{k:Nat}{xs:List PyData}(h:∀x∈xs,Sh k x):Sh (k+1) (.tuple xs):=by
 obtain⟨a,b⟩:=Sh.all xs h;exact⟨by simp[PyData.canLay0,a],by simp only[PyData.depth];omega⟩
theorem Sh.list{k:Nat}{xs:List PyData}(h:∀x∈xs,Sh k x):Sh (k+1) (.list xs):=by
 obtain⟨a,b⟩:=Sh.all xs h;exact⟨by simp[PyData.canLay0,a],by simp only[PyData.depth];omega⟩
mutual
theorem mz:∀d:PyData,d.canLay0=true->PyData.eqv d d=true
 |.none,_=>by simp[PyData.eqv]
 |.bool _,_=>by simp[PyData.eqv]
 |.int _,_=>by simp[PyData.eqv]
 |.str _,_=>by simp[PyData.eqv]
 |.list xs,h=>by
  simp only[PyData.eqv];exact eqvAll_self xs (by simpa[PyData.canLay0]using h)
 |.tuple xs,h=>by
  simp only[PyData.eqv];exact eqvAll_self xs (by simpa[PyData.canLay0]using h)
 |.dict _,h=>by simp[PyData.canLay0]at h
theorem eqvAll_self:∀xs:List PyData,PyData.canLayAll0 xs=true->PyData.eqvAll xs xs=true
 |[],_=>by simp[PyData.eqvAll]
 |x::xs,h=>by
  have h':x.canLay0=true/\PyData.canLayAll0 xs=true:=by simpa[PyData.canLayAll0]using h
  simp only[PyData.eqvAll,mz x h'.1,eqvAll_self xs h'.2,Bool.and_self]
end
noncomputable def val(M:Nat)(u:Nu):Q4:=Q4.rtn (M-u.2) u.1
theorem uM(x:Q4)(k M:Nat)(h:k<=M):Q4.rtn (M-(num x k).2.toNat) (num x k).1=Q4.rtn (M-k) x:=by
 obtain⟨s1,s2,s3⟩:=ja x k (by omega);have h0:=s1.1;have e:M-(num x (k:Int)).2.toNat=(M-k)+((k:Int)-(num x (k:Int)).2).toNat:=by omega
 rw[e,Q4.rtn_add,s3]
theorem lr(M e:Nat)(u:Nu):val M (dD e u)=mX (e%8) (val M u):=by
 unfold val dD;rw[Ar]
theorem qr{M:Nat}{u v:Nu}(hu:u.2<=M)(hv:v.2<=M):val M (dE u v)=Q4.add (val M u) (val M v):=by
 unfold val dE e8;have hk:max (u.2:Int) v.2=((max u.2 v.2:Nat):Int):=by omega
 rw[hk];simp only;rw[uM _ _ M (by omega),Q4.rtn_addQ,<-Q4.rtn_add,<-Q4.rtn_add];congr 2<;>congr 1<;>omega
theorem qt{M:Nat}{u:Nu}(hu:u.2+1<=M):Q4.rt (val M (eO u))=val M u:=by
 unfold val eO;rw[uM _ _ M hu,<-Q4.rtn_succ];congr 1;omega
theorem Am(M:Nat)(u:Nu):val M (dD 4 u)=Q4.neg (val M u):=by
 rw[lr];show Q4.tn (Q4.tn (Q4.tn (Q4.tn (val M u))))=_;unfold Q4.tn Q4.neg;rfl
def b9(u:Nu):Prop:=Q4.Least u.1 u.2
theorem An{M:Nat}{u v:Nu}(hu:b9 u)(hv:b9 v)(h1:u.2<=M)(h2:v.2<=M)(h:val M u=val M v):u=v:=by
 obtain⟨a,b⟩:=Q4.Least.one hu hv h1 h2 h;exact Prod.ext a b
theorem v9(x:Q4)(k:Nat):b9 ((num x k).1,(num x k).2.toNat):=by
 obtain⟨s1,s2,s3⟩:=ja x k (by omega);show Q4.Least (num x k).1 ((num x k).2.toNat:Int);rw[Int.toNat_of_nonneg s1.1];exact s1
theorem tI(u:Nu):b9 (eO u):=v9 _ _
theorem lB{u:Nu}(e:Nat)(h:b9 u):b9 (dD e u):=vB _ h
theorem mD{f:Nat->Nu}(h:∀p,b9 (f p))(n:Nat)(r:Row)(p:Nat):b9 (aO n f r p):=by
 cases r with
 |swing j=>
  show b9 (if bO (wt n j) p=0 then _ else _);split<;>exact tI _
 |turn j e=>exact lB _ (h p)
 |sign i j=>exact lB _ (h p)
 |flip j=>exact h _
 |tie i j=>exact h _
 |cross i j=>exact h _
noncomputable def ba:Nat->(Nat->Int)->Int
 | 0,_=>0
 |n+1,F=>ba n F+F n
theorem be{F G:Nat->Int}:∀(n:Nat),(∀p,p<n->F p=G p)->ba n F=ba n G
 | 0,_=>rfl
 |n+1,h=>by
  show ba n F+F n=ba n G+G n;rw[be n fun p hp=>h p (by omega),h n (by omega)]
theorem iV(F G:Nat->Int):∀n:Nat,ba n (fun p=>F p+G p)=ba n F+ba n G
 | 0=>rfl
 |n+1=>by
  show ba n _+(F n+G n)=ba n F+F n+(ba n G+G n);rw[iV F G n];omega
theorem iu(F:Nat->Int)(a:Nat):∀b:Nat,ba (a+b) F=ba a F+ba b (fun r=>F (a+r))
 | 0=>by show ba a F=ba a F+0;omega
 |b+1=>by
  show ba (a+b) F+F (a+b)=_+(ba b _+F (a+b));rw[iu F a b];omega
theorem qD(F:Nat->Int)(b:Nat):∀a:Nat,ba (a*b) F=ba a (fun q=>ba b (fun r=>F (q*b+r)))
 | 0=>by rw[Nat.zero_mul];rfl
 |a+1=>by
  rw[Nat.succ_mul,iu,qD F b a];rfl
theorem qA{n j:Nat}(hj:j<n){F G:Nat->Int}(h:∀p,p<2^n->bO (wt n j) p=0->G p+G (p+wt n j)=F p+F (p+wt n j)):ba (2^n) G=ba (2^n) F:=by
 have hw:=bK n j;have e:2^n=2^j*(wt n j+wt n j):=by
  rw[wV hj,Nat.pow_succ,Nat.mul_comm,Nat.mul_assoc,Nat.mul_comm 2,Nat.mul_two]
 have two:∀H:Nat->Int,ba (2^n) H=ba (2^j) (fun q=>ba (wt n j) (fun r=>H (q*(wt n j+wt n j)+r)+H (q*(wt n j+wt n j)+r+wt n j))):=fun H=>by
  rw[e,qD];refine be _ fun q _=>?_
  rw[iu,<-iV];refine be _ fun r _=>?_
  rw[<-Nat.add_assoc,Nat.add_right_comm]
 rw[two G,two F];refine be _ fun q hq=>be _ fun r hr=>?_
 have e2:q*(wt n j+wt n j)+r=(2*q+0)*wt n j+r:=by
  rw[Nat.add_zero,Nat.mul_add,<-Nat.add_mul,<-Nat.two_mul]
 have hb:bO (wt n j) (q*(wt n j+wt n j)+r)=0:=by rw[e2];exact tZ (by decide) hr
 have hl:q*(wt n j+wt n j)+r<2^n:=by
  have:(q+1)*(wt n j+wt n j)<=2^j*(wt n j+wt n j):=Nat.mul_le_mul_right _ hq;rw[Nat.succ_mul]at this;omega
 exact h _ hl hb
theorem qB{n j:Nat}(hj:j<n)(c:Nat->Bool)(hc:∀p,c (flp (wt n j) p)=c p)(F:Nat->Int):ba (2^n) (fun p=>F (if c p=true then flp (wt n j) p else p))=ba (2^n) F:=by
 refine qA hj fun p hp hb=>?_
 have e:flp (wt n j) p=p+wt n j:=if_pos hb;have hc:=hc p;rw[e]at hc;have hw:=bK n j;have e2:flp (wt n j) (p+wt n j)=p:=by rw[<-e];exact u9 hw
 rw[hc,e,e2];by_cases h:c p=true
 ·rw[if_pos h,if_pos h];omega
 ·rw[if_neg h,if_neg h]
theorem kK{n i j:Nat}(hi:i<n)(hj:j<n)(hij:i≠j)(F:Nat->Int):ba (2^n) (fun p=>F (fS n (.tie i j) p))=ba (2^n) F:=by
 have:=qB hj (fun p=>!(bO (wt n i) p==0)) (fun p=>by rw[jv hj hi (Ne.symm hij)]) F
 rw[<-this];refine be _ fun p _=>?_
 show F (if bO (wt n i) p=0 then p else flp (wt n j) p)=_;by_cases h:bO (wt n i) p=0<;>simp[h]
theorem BK{w p:Nat}(hw:0<w):((flp w p:Nat):Int)=(p:Int)+w-2*((w*bO w p:Nat):Int):=by
 have h2:=cO w p;unfold flp;by_cases h:bO w p=0
 ·rw[if_pos h,h];omega
 ·have h1:bO w p=1:=by omega
  have:=p6 hw h1;rw[if_neg h,h1];omega
theorem zj{n i j p:Nat}(hi:i<n)(hj:j<n)(hij:i≠j):flp (wt n j) (flp (wt n i) p)=flp (wt n i) (flp (wt n j) p):=by
 have a:=BK (p:=flp (wt n i) p) (bK n j);have b:=BK (p:=flp (wt n j) p) (bK n i);rw[jv hi hj hij,BK (bK n i)]at a;rw[jv hj hi (Ne.symm hij),BK (bK n j)]at b;omega
theorem vC{n i j:Nat}(hi:i<n)(hj:j<n)(hij:i≠j)(F:Nat->Int):ba (2^n) (fun p=>F (fS n (.cross i j) p))=ba (2^n) F:=by
 have h1:=kK hi hj hij (fun p=>F (fS n (.tie i j) (fS n (.tie j i) p)))
 have h2:=kK hj hi (Ne.symm hij) (fun p=>F (fS n (.tie i j) p))
 have h3:=kK hi hj hij F;rw[<-h3,<-h2,<-h1];refine be _ fun p _=>?_
 have hwi:=bK n i;have hwj:=bK n j;have a1:=cO (wt n i) p;have a2:=cO (wt n j) p;have f1:=jv (p:=p) hj hi (Ne.symm hij);have f2:=dt (p:=p) hwj;have f3:=jv (p:=p) hi hj hij;have f4:=dt (p:=p) hwi;congr 1;show(if bO (wt n i) p=bO (wt n j) p then p else flp (wt n j) (flp (wt n i) p))=_;have b1:bO (wt n i) p=0\/bO (wt n i) p=1:=by omega
 have b2:bO (wt n j) p=0\/bO (wt n j) p=1:=by omega
 have comm:flp (wt n j) (flp (wt n i) p)=flp (wt n i) (flp (wt n j) p):=zj hi hj hij;have on:∀{i j p:Nat},bO (wt n i) p=1->fS n (.tie i j) p=flp (wt n j) p:=fun{i j p} h=>by
  show(if bO (wt n i) p=0 then p else flp (wt n j) p)=_;rw[h];rfl
 have off:∀{i j p:Nat},bO (wt n i) p=0->fS n (.tie i j) p=p:=fun{i j p} h=>if_pos h
 rcases b1 with b1|b1<;>rcases b2 with b2|b2
 ·rw[if_pos (by rw[b1,b2]),off b1,off b2,off b1]
 ·rw[if_neg (by rw[b1,b2];decide),off b1,on b2,on (by rw[f4,b1])]
 ·rw[if_neg (by rw[b1,b2];decide),on b1,on (i:=j) (by rw[f2,b2]),off (by rw[dt hwi,f1,b1]),comm]
 ·rw[if_pos (by rw[b1,b2]),on b1,off (i:=j) (by rw[f2,b2]),on (by rw[f1,b1]),u9 hwj]
theorem nS(u v:Nu):(dE u v).2<=max u.2 v.2:=by
 have hk:max (u.2:Int) v.2=((max u.2 v.2:Nat):Int):=by omega
 unfold dE e8;rw[hk];obtain⟨s1,s2,s3⟩:=ja (Q4.add (Q4.rtn (((max u.2 v.2:Nat):Int)-u.2).toNat u.1) (Q4.rtn (((max u.2 v.2:Nat):Int)-v.2).toNat v.1)) ((max u.2 v.2:Nat):Int) (by omega);show(num _ _).2.toNat<=_;omega
theorem qW{x y s t:Q4}(h1:Q4.rt x=Q4.add s t)(h2:Q4.rt y=Q4.add s (Q4.neg t)):S2.add (dF x) (dF y)=S2.add (dF s) (dF t):=by
 apply S2.sc_inj (n:=1);rw[S2.sc_addS,<-sY,<-sY,h1,h2,A6];apply S2.ext'<;>simp only[S2.add,S2.sc]<;>omega
noncomputable def dA(M n:Nat)(f:Nat->Nu):S2:=⟨ba (2^n) (fun p=>(dF (val M (f p))).p),ba (2^n) (fun p=>(dF (val M (f p))).q)⟩
theorem qC{n M:Nat}(r:Row)(hr:r.ok n)(f:Nat->Nu)(hf:∀p,(f p).2+1<=M)(F:Q4->Int)(ht:∀e x,F (mX e x)=F x)(hp:∀x y s t,Q4.rt x=Q4.add s t->Q4.rt y=Q4.add s (Q4.neg t)->F x+F y=F s+F t):ba (2^n) (fun p=>F (val M (aO n f r p)))=ba (2^n) (fun p=>F (val M (f p))):=by
 cases r with
 |swing j=>
  refine qA hr fun p hp' hb=>?_
  have hw:=bK n j;have hb1:bO (wt n j) (p+wt n j)=1:=by
   have:=dt (p:=p) hw;rw[show flp (wt n j) p=p+wt n j from if_pos hb,hb]at this;exact this
  have e1:aO n f (.swing j) p=eO (dE (f p) (f (p+wt n j))):=if_pos hb;have e2:aO n f (.swing j) (p+wt n j)=eO (dE (f (p+wt n j-wt n j)) (dD 4 (f (p+wt n j)))):=if_neg (by rw[hb1];decide);rw[Nat.add_sub_cancel]at e2;rw[e1,e2];have a:=hf p;have b:=hf (p+wt n j);have l1:(dE (f p) (f (p+wt n j))).2<=max (f p).2 (f (p+wt n j)).2:=nS _ _;have l2:(dE (f p) (dD 4 (f (p+wt n j)))).2<=max (f p).2 (f (p+wt n j)).2:=nS _ _;refine hp _ _ _ _ ?_ ?_
  ·rw[qt (by omega),qr (by omega) (by omega)]
  ·rw[qt (by omega),qr (by omega) (by show(f (p+wt n j)).2<=M;omega),Am]
 |turn j e=>exact be _ fun p _=>by show F (val M (dD _ (f p)))=_;rw[lr,ht]
 |sign i j=>exact be _ fun p _=>by show F (val M (dD _ (f p)))=_;rw[lr,ht]
 |flip j=>
  have:=qB hr (fun _=>true) (fun _=>rfl) (fun p=>F (val M (f p)))
  exact this
 |tie i j=>exact kK hr.1 hr.2.1 hr.2.2 (fun p=>F (val M (f p)))
 |cross i j=>exact vC hr.1 hr.2.1 hr.2.2 (fun p=>F (val M (f p)))
theorem nV{n M:Nat}(r:Row)(hr:r.ok n)(f:Nat->Nu)(hf:∀p,(f p).2+1<=M):dA M n (aO n f r)=dA M n f:=by
 apply S2.ext'
 ·exact qC r hr f hf (fun x=>(dF x).p) (fun e x=>by rw[uN]) fun x y s t h1 h2=>by
   have:=congrArg S2.p (qW h1 h2);exact this
 ·exact qC r hr f hf (fun x=>(dF x).q) (fun e x=>by rw[uN]) fun x y s t h1 h2=>by
   have:=congrArg S2.q (qW h1 h2);exact this
theorem qO:∀k,Q4.rtn k ⟨0,0,0,0⟩=⟨0,0,0,0⟩
 | 0=>rfl
 |k+1=>by rw[Q4.rtn_succ,qO k];rfl
noncomputable def bz(p:Nat):Nat->Nu:=fun q=>if q=p then(⟨1,0,0,0⟩,0)else(⟨0,0,0,0⟩,0)
theorem wX(M:Nat):val M (⟨0,0,0,0⟩,0)=⟨0,0,0,0⟩:=qO _
theorem jJ(p x:Nat):b9 (bz p x):=by
 unfold bz;split
 ·exact⟨Int.le_refl 0,fun z=>absurd z (Int.lt_irrefl 0)⟩
 ·exact⟨Int.le_refl 0,fun z=>absurd z (Int.lt_irrefl 0)⟩
end MA
namespace GN
open PySem L2 VL
noncomputable def gy(i:Nat):Stmt:=PySem.Challenge.pw_wavewires_k26_whole_shares_come_to_one.main.body.getD i (.Pass ⟨0,0,0,0⟩)
abbrev dN:Stmt:=gy 3
abbrev iq:List Str:=["joined","most"]
noncomputable def dR:Sf:=ap (cw (ob (o2 (oV 0) (oC (.int 0)) bw)) (aY (oV 1)) (kg)) (aY (os (ac (oV 1) (ac (o2 (o1 (o2 (oV 0) (o1 (oV 0) negD) uc) ju) (oC (.int 1)) cM) (ak))) Ba))
noncomputable def aR:List D->Option D:=aD iq 2 dR
abbrev hV:Stmt:=gy 4
abbrev oG:List Str:=["a","b","c","d"]
noncomputable def j4:Sf:=aY (os (ac (o2 (oV 1) (oV 3) cM) (ac (o2 (oV 0) (oV 2) b8) (ac (o2 (oV 1) (oV 3) b8) (ac (o2 (oV 2) (oV 0) cM) (ak))))) bj)
noncomputable def cK:List D->Option D:=aD oG 4 j4
abbrev fL:Stmt:=gy 5
abbrev mS:List Str:=["a","b","c","d","k","twos","doubled"]
noncomputable def jw:Sf:=ap (aU 5 (os (ac (o2 (o2 (o2 (oV 0) (oV 1) zK) (oV 2) zK) (oV 3) zK) (ac (o2 (oV 4) (oC (.int 2)) gg) (ak))) aR)) (ap (aU 0 (o2 (oV 0) (oV 5) jF)) (ap (aU 1 (o2 (oV 1) (oV 5) jF)) (ap (aU 2 (o2 (oV 2) (oV 5) jF)) (ap (aU 3 (o2 (oV 3) (oV 5) jF)) (ap (aU 4 (o2 (oV 4) (o2 (oC (.int 2)) (oV 5) dW) cM)) (ap (cw (uL (ob (o2 (oV 4) (oC (.int 0)) bw)) (uL (ob (o2 (o2 (o2 (oV 0) (oV 2) cM) (oC (.int 2)) b5) (oC (.int 1)) bw)) (ob (o2 (o2 (o2 (oV 1) (oV 3) cM) (oC (.int 2)) b5) (oC (.int 1)) bw)))) (aY (os (ac (oV 0) (ac (oV 1) (ac (oV 2) (ac (oV 3) (ac (oV 4) (ak)))))) bj)) (kg)) (ap (aU 6 (os (ac (oV 0) (ac (oV 1) (ac (oV 2) (ac (oV 3) (ak))))) cK)) (aY (os (ac (o2 (o2 (oV 6) (oC (.int 0)) aB) (oC (.int 2)) gg) (ac (o2 (o2 (oV 6) (oC (.int 1)) aB) (oC (.int 2)) gg) (ac (o2 (o2 (oV 6) (oC (.int 2)) aB) (oC (.int 2)) gg) (ac (o2 (o2 (oV 6) (oC (.int 3)) aB) (oC (.int 2)) gg) (ac (o2 (oV 4) (oC (.int 1)) cM) (ak)))))) bj)))))))))
noncomputable def dq:List D->Option D:=aD mS 5 jw
abbrev cn:Stmt:=gy 6
abbrev fA:List Str:=["x","k","more","twos","a","b","c","d"]
noncomputable def cu:Sf:=ap (aU 2 (o2 (oV 1) (o2 (oV 0) (oC (.int 4)) aB) cM)) (ap (aU 3 (o2 (oV 2) (oC (.int 2)) gg)) (ap (aU 4 (o2 (o2 (oV 0) (oC (.int 0)) aB) (oV 3) dZ)) (ap (aU 5 (o2 (o2 (oV 0) (oC (.int 1)) aB) (oV 3) dZ)) (ap (aU 6 (o2 (o2 (oV 0) (oC (.int 2)) aB) (oV 3) dZ)) (ap (aU 7 (o2 (o2 (oV 0) (oC (.int 3)) aB) (oV 3) dZ)) (ap (cw (ob (o2 (o2 (oV 2) (oC (.int 2)) b5) (oC (.int 1)) bw)) (aY (os (ac (oV 4) (ac (oV 5) (ac (oV 6) (ac (oV 7) (ak))))) cK)) (kg)) (aY (os (ac (oV 4) (ac (oV 5) (ac (oV 6) (ac (oV 7) (ak))))) bj))))))))
noncomputable def aQ:List D->Option D:=aD fA 2 cu
abbrev o5:Stmt:=gy 8
abbrev zJ:List Str:=["x","y","k","s","t"]
noncomputable def ub:Sf:=ap (aU 2 (os (ac (o2 (oV 0) (oC (.int 4)) aB) (ac (o2 (oV 1) (oC (.int 4)) aB) (ak))) ng)) (ap (aU 3 (os (ac (oV 0) (ac (oV 2) (ak))) aQ)) (ap (aU 4 (os (ac (oV 1) (ac (oV 2) (ak))) aQ)) (aY (os (ac (o2 (o2 (oV 3) (oC (.int 0)) aB) (o2 (oV 4) (oC (.int 0)) aB) b8) (ac (o2 (o2 (oV 3) (oC (.int 1)) aB) (o2 (oV 4) (oC (.int 1)) aB) b8) (ac (o2 (o2 (oV 3) (oC (.int 2)) aB) (o2 (oV 4) (oC (.int 2)) aB) b8) (ac (o2 (o2 (oV 3) (oC (.int 3)) aB) (o2 (oV 4) (oC (.int 3)) aB) b8) (ac (oV 2) (ak)))))) dq))))
noncomputable def fC:List D->Option D:=aD zJ 2 ub
abbrev hX:Stmt:=gy 9
abbrev oH:List Str:=["x"]
noncomputable def j5:Sf:=aY (os (ac (o1 (o2 (oV 0) (oC (.int 0)) aB) negD) (ac (o1 (o2 (oV 0) (oC (.int 1)) aB) negD) (ac (o1 (o2 (oV 0) (oC (.int 2)) aB) negD) (ac (o1 (o2 (oV 0) (oC (.int 3)) aB) negD) (ac (o2 (oV 0) (oC (.int 4)) aB) (ak)))))) bj)
noncomputable def de:List D->Option D:=aD oH 1 j5
abbrev i3:Stmt:=gy 10
abbrev su:List Str:=["x","e","around"]
noncomputable def mN:Sf:=ap (aU 2 (os (ac (o2 (oV 0) (oC (.int 0)) aB) (ac (o2 (oV 0) (oC (.int 1)) aB) (ac (o2 (oV 0) (oC (.int 2)) aB) (ac (o2 (oV 0) (oC (.int 3)) aB) (ac (o1 (o2 (oV 0) (oC (.int 0)) aB) negD) (ac (o1 (o2 (oV 0) (oC (.int 1)) aB) negD) (ac (o1 (o2 (oV 0) (oC (.int 2)) aB) negD) (ac (o1 (o2 (oV 0) (oC (.int 3)) aB) negD) (ak))))))))) bj)) (aY (os (ac (o2 (oV 2) (o2 (o2 (oC (.int 0)) (oV 1) cM) (oC (.int 8)) b5) aB) (ac (o2 (oV 2) (o2 (o2 (oC (.int 1)) (oV 1) cM) (oC (.int 8)) b5) aB) (ac (o2 (oV 2) (o2 (o2 (oC (.int 2)) (oV 1) cM) (oC (.int 8)) b5) aB) (ac (o2 (oV 2) (o2 (o2 (oC (.int 3)) (oV 1) cM) (oC (.int 8)) b5) aB) (ac (o2 (oV 0) (oC (.int 4)) aB) (ak)))))) bj))
noncomputable def cS:List D->Option D:=aD su 2 mN
abbrev i4:Stmt:=gy 11
abbrev sv:List Str:=["x"]
noncomputable def mP:Sf:=aY (os (ac (o2 (oV 0) (oC (.int 0)) aB) (ac (o2 (oV 0) (oC (.int 1)) aB) (ac (o2 (oV 0) (oC (.int 2)) aB) (ac (o2 (oV 0) (oC (.int 3)) aB) (ac (o2 (o2 (oV 0) (oC (.int 4)) aB) (oC (.int 1)) b8) (ak)))))) dq)
noncomputable def cT:List D->Option D:=aD sv 1 mP
abbrev hG:Stmt:=gy 13
abbrev vt:List Str:=["p","q","k","twos"]
noncomputable def qg:Sf:=ap (aU 3 (os (ac (o2 (oV 0) (oV 1) zK) (ac (oV 2) (ak))) aR)) (aY (os (ac (o2 (oV 0) (oV 3) jF) (ac (o2 (oV 1) (oV 3) jF) (ac (o2 (oV 2) (oV 3) cM) (ak)))) bj))
noncomputable def cY:List D->Option D:=aD vt 3 qg
abbrev bQ:Stmt:=gy 14
abbrev eB:List Str:=["x","k","more"]
noncomputable def cP:Sf:=ap (aU 2 (o2 (oV 1) (o2 (oV 0) (oC (.int 2)) aB) cM)) (aY (os (ac (o2 (o2 (oV 0) (oC (.int 0)) aB) (oV 2) dZ) (ac (o2 (o2 (oV 0) (oC (.int 1)) aB) (oV 2) dZ) (ak))) bj))
noncomputable def aP:List D->Option D:=aD eB 2 cP
abbrev eG:Stmt:=gy 16
abbrev jz:List Str:=["x","y","k","s","t"]
noncomputable def gi:Sf:=ap (aU 2 (os (ac (o2 (oV 0) (oC (.int 2)) aB) (ac (o2 (oV 1) (oC (.int 2)) aB) (ak))) ng)) (ap (aU 3 (os (ac (oV 0) (ac (oV 2) (ak))) aP)) (ap (aU 4 (os (ac (oV 1) (ac (oV 2) (ak))) aP)) (aY (os (ac (o2 (o2 (oV 3) (oC (.int 0)) aB) (o2 (oV 4) (oC (.int 0)) aB) b8) (ac (o2 (o2 (oV 3) (oC (.int 1)) aB) (o2 (oV 4) (oC (.int 1)) aB) b8) (ac (oV 2) (ak)))) cY))))
noncomputable def cJ:List D->Option D:=aD jz 2 gi
abbrev hE:Stmt:=gy 17
abbrev oF:List Str:=["x","whole_part","root_part"]
noncomputable def j2:Sf:=ap (aU 1 (o2 (o2 (o2 (o2 (o2 (oV 0) (oC (.int 0)) aB) (o2 (oV 0) (oC (.int 0)) aB) dW) (o2 (o2 (oV 0) (oC (.int 1)) aB) (o2 (oV 0) (oC (.int 1)) aB) dW) b8) (o2 (o2 (oV 0) (oC (.int 2)) aB) (o2 (oV 0) (oC (.int 2)) aB) dW) b8) (o2 (o2 (oV 0) (oC (.int 3)) aB) (o2 (oV 0) (oC (.int 3)) aB) dW) b8)) (ap (aU 2 (o2 (o2 (o2 (o2 (o2 (oV 0) (oC (.int 0)) aB) (o2 (oV 0) (oC (.int 1)) aB) dW) (o2 (o2 (oV 0) (oC (.int 1)) aB) (o2 (oV 0) (oC (.int 2)) aB) dW) b8) (o2 (o2 (oV 0) (oC (.int 2)) aB) (o2 (oV 0) (oC (.int 3)) aB) dW) b8) (o2 (o2 (oV 0) (oC (.int 3)) aB) (o2 (oV 0) (oC (.int 0)) aB) dW) cM)) (aY (os (ac (oV 1) (ac (oV 2) (ac (o2 (oV 0) (oC (.int 4)) aB) (ak)))) cY)))
noncomputable def dL:List D->Option D:=aD oF 1 j2
abbrev kN:Stmt:=gy 19
abbrev vo:List Str:=["wires","wire"]
noncomputable def qd:Sf:=aY (o2 (oC (.int 1)) (o2 (o2 (oV 0) (oC (.int 1)) cM) (oV 1) cM) dZ)
noncomputable def cW:List D->Option D:=aD vo 2 qd
abbrev cA:Stmt:=gy 20
abbrev gW:List Str:=["wires","place"]
noncomputable def i8:Dv->Option D:=cp (oL (ac (o2 (oC (.int 1)) (oV 0) dZ) (ak)) da) [(1,"place")] kW (Ct (ob (o2 (oV 0) (oV 1) bw)) (oC (.tuple [.int 1,.int 0,.int 0,.int 0,.int 0])) (oC (.tuple [.int 0,.int 0,.int 0,.int 0,.int 0])))
noncomputable def gR:Sf:=aY (os (ac (i8) (ak)) dg)
noncomputable def bJ:List D->Option D:=aD gW 2 gR
abbrev kP:Stmt:=gy 21
abbrev vq:List Str:=["state","bit","told","p"]
noncomputable def dX:Sf:=cw (ob (o2 (o2 (oV 3) (oV 1) uc) (oC (.int 0)) bw)) (xH 2 (os (ac (os (ac (o2 (oV 0) (oV 3) aB) (ac (o2 (oV 0) (o2 (oV 3) (oV 1) wT) aB) (ak))) fC) (ak)) cT)) (xH 2 (os (ac (os (ac (o2 (oV 0) (o2 (oV 3) (oV 1) wT) aB) (ac (os (ac (o2 (oV 0) (oV 3) aB) (ak)) de) (ak))) fC) (ak)) cT))
noncomputable def qf:Sf:=ap (xG 2 (ak)) (ap (o6 (oL (ac (os (ac (oV 0) (ak)) eV) (ak)) da) (gN 3) (dX)) (fun δ=>(aY (os (ac (oV 2) (ak)) dg)) (wS 2 δ)))
noncomputable def fg:List D->Option D:=aD vq 2 qf
abbrev cy:Stmt:=gy 22
abbrev eT:List Str:=["state","held","e"]
noncomputable def gu:Dv->Option D:=cp (oL (ac (os (ac (oV 0) (ak)) eV) (ak)) da) [(0,"state"),(1,"held"),(2,"e")] kW (Ct (ob (o2 (o2 (oV 0) (oV 2) uc) (oV 2) bw)) (os (ac (o2 (oV 1) (oV 0) aB) (ac (oV 3) (ak))) cS) (o2 (oV 1) (oV 0) aB))
noncomputable def eQ:Sf:=aY (os (ac (gu) (ak)) dg)
noncomputable def aS:List D->Option D:=aD eT 3 eQ
abbrev cb:Stmt:=gy 23
abbrev d9:List Str:=["state","held","bit"]
noncomputable def fN:Dv->Option D:=cp (oL (ac (os (ac (oV 0) (ak)) eV) (ak)) da) [(0,"state"),(1,"held"),(2,"bit")] kW (Ct (ob (o2 (o2 (oV 0) (oV 2) uc) (oV 2) bw)) (o2 (oV 1) (o2 (oV 0) (oV 3) wT) aB) (o2 (oV 1) (oV 0) aB))
noncomputable def d6:Sf:=aY (os (ac (fN) (ak)) dg)
noncomputable def aN:List D->Option D:=aD d9 3 d6
abbrev eX:Stmt:=gy 24
abbrev kt:List Str:=["place","both"]
noncomputable def fq:Sf:=aY (Ct (ob (o2 (o2 (oV 0) (oV 1) uc) (os (ac (oC (.int 0)) (ac (oV 1) (ak))) bj) (mW false))) (oV 0) (o2 (oV 0) (oV 1) wT))
noncomputable def bI:List D->Option D:=aD kt 2 fq
abbrev lK:Stmt:=gy 25
abbrev ug:List Str:=["state","row","wires","first","second"]
noncomputable def pj:Dv->Option D:=cp (oL (ac (os (ac (oV 0) (ak)) eV) (ak)) da) [(0,"state"),(3,"first"),(4,"second")] kW (o2 (oV 1) (os (ac (oV 0) (ac (o2 (oV 2) (oV 3) zK) (ak))) bI) aB)
noncomputable def gQ:Sf:=ap (aU 2 (o2 (o1 (os (ac (oV 0) (ak)) eV) ju) (oC (.int 1)) cM)) (ap (aU 3 (os (ac (oV 2) (ac (o2 (oV 1) (oC (.int 1)) aB) (ak))) cW)) (ap (cw (ob (o2 (o2 (oV 1) (oC (.int 0)) aB) (oC (.str "swing")) bw)) (aY (os (ac (oV 0) (ac (oV 3) (ak))) fg)) (kg)) (ap (cw (ob (o2 (o2 (oV 1) (oC (.int 0)) aB) (oC (.str "turn")) bw)) (aY (os (ac (oV 0) (ac (oV 3) (ac (o2 (oV 1) (oC (.int 2)) aB) (ak)))) aS)) (kg)) (ap (cw (ob (o2 (o2 (oV 1) (oC (.int 0)) aB) (oC (.str "flip")) bw)) (aY (os (ac (oV 0) (ac (oC (.int 0)) (ac (oV 3) (ak)))) aN)) (kg)) (ap (aU 4 (os (ac (oV 2) (ac (o2 (oV 1) (oC (.int 2)) aB) (ak))) cW)) (ap (cw (ob (o2 (o2 (oV 1) (oC (.int 0)) aB) (oC (.str "tie")) bw)) (aY (os (ac (oV 0) (ac (oV 3) (ac (oV 4) (ak)))) aN)) (kg)) (ap (cw (ob (o2 (o2 (oV 1) (oC (.int 0)) aB) (oC (.str "sign")) bw)) (aY (os (ac (oV 0) (ac (o2 (oV 3) (oV 4) zK) (ac (oC (.int 4)) (ak)))) aS)) (kg)) (aY (os (ac (pj) (ak)) dg)))))))))
noncomputable def cm:List D->Option D:=aD ug 2 gQ
abbrev kO:Stmt:=gy 26
abbrev vp:List Str:=["state","told","x"]
noncomputable def jg:Sf:=aU 1 (os (ac (oV 1) (ac (os (ac (oV 2) (ak)) dL) (ak))) cJ)
noncomputable def qe:Sf:=ap (aU 1 (os (ac (oC (.int 0)) (ac (oC (.int 0)) (ac (oC (.int 0)) (ak)))) bj)) (ap (o6 (oI (oV 0) df) (gN 2) (jg)) (aY (oV 1)))
noncomputable def cX:List D->Option D:=aD vp 1 qe
abbrev fM:Stmt:=gy 28
abbrev j8:List Str:=["state","bit","mark","found"]
noncomputable def iw:Dv->Option D:=cp (oL (ac (os (ac (oV 0) (ak)) eV) (ak)) da) [(0,"state"),(1,"bit"),(3,"found")] kW (Ct (ob (o2 (o2 (oV 0) (oV 2) uc) (oV 3) bw)) (o2 (oV 1) (oV 0) aB) (oC (.tuple [.int 0,.int 0,.int 0,.int 0,.int 0])))
noncomputable def ig:Sf:=ap (aU 3 (Ct (ob (o2 (oV 2) (oC (.int 1)) bw)) (oV 1) (oC (.int 0)))) (aY (os (ac (iw) (ak)) dg))
noncomputable def bV:List D->Option D:=aD j8 3 ig
abbrev dU:Stmt:=gy 29
abbrev gU:List Str:=["state"]
noncomputable def i7:Dv->Option D:=cp (oI (oV 0) df) [] kW (o2 (oV 0) (oC (.tuple [.int 0,.int 0,.int 0,.int 0,.int 0])) bw)
noncomputable def gP:Sf:=aY (os (ac (i7) (ak)) Ca)
noncomputable def dc:List D->Option D:=aD gU 1 gP
abbrev fK:Stmt:=gy 30
abbrev N_parted:List Str:=["branch","wire","bit","pairs"]
noncomputable def nU:Dv->Option D:=cp (oI (os (ac (oC (.int 0)) (ac (oC (.int 1)) (ak))) bj) df) [(0,"branch"),(2,"bit")] kW (os (ac (o2 (o2 (oV 1) (oC (.int 0)) aB) (os (ac (oV 0) (ak)) bj) b8) (ac (os (ac (o2 (oV 1) (oC (.int 1)) aB) (ac (oV 2) (ac (oV 0) (ak)))) bV) (ak))) bj)
noncomputable def nT:Dv->Option D:=jL (oI (oV 3) df) [] kW (sX (ob (os (ac (o2 (oV 0) (oC (.int 1)) aB) (ak)) dc))) (oV 0)
noncomputable def mO:Sf:=ap (aU 2 (os (ac (o2 (o1 (os (ac (o2 (oV 0) (oC (.int 1)) aB) (ak)) eV) ju) (oC (.int 1)) cM) (ac (oV 1) (ak))) cW)) (ap (aU 3 (nU)) (aY (nT)))
noncomputable def dn:List D->Option D:=aD N_parted 2 mO
abbrev hJ:Stmt:=gy 31
abbrev N_gone_on:List Str:=["branch","row"]
noncomputable def j3:Sf:=aY (os (ac (o2 (oV 0) (oC (.int 0)) aB) (ac (os (ac (o2 (oV 0) (oC (.int 1)) aB) (ac (oV 1) (ak))) cm) (ak))) bj)
noncomputable def bG:List D->Option D:=aD N_gone_on 2 j3
abbrev dO:Stmt:=gy 32
abbrev ir:List Str:=["branch","row","go"]
noncomputable def cU:Sf:=ap (cw (ob (o2 (o2 (oV 1) (oC (.int 0)) aB) (oC (.str "where")) neD)) (aY (fB 2 (ac (oV 0) (ac (oV 1) (ak))) (("gone_on",bG)::[]))) (kg)) (aY (Ct (ob (o2 (o2 (o2 (oV 0) (oC (.int 0)) aB) (o2 (oV 1) (oC (.int 1)) aB) aB) (oC (.int 1)) bw)) (fB 2 (ac (oV 0) (ac (o2 (oV 1) (oC (.int 2)) aB) (ak))) (("gone_on",bG)::[])) (oV 0)))
noncomputable def aW:List D->Option D:=aD ir 3 cU
abbrev cz:Stmt:=gy 33
abbrev eU:List Str:=["rows","begun","part","go","told","row","further","branch"]
noncomputable def d4:Dv->Option D:=cp (oI (oV 4) df) [(3,"go"),(5,"row")] kW (os (ac (oV 0) (ac (oV 2) (ac (oV 1) (ak)))) aW)
noncomputable def cc:Sf:=Cl 6 (fB 2 (ac (oV 7) (ac (o2 (oV 5) (oC (.int 1)) aB) (ak))) (("parted",dn)::[]))
noncomputable def bn:Sf:=cw (ob (o2 (o2 (oV 5) (oC (.int 0)) aB) (oC (.str "look")) bw)) (ap (xG 6 (ak)) (ap (o6 (oI (oV 4) df) (gN 7) (cc)) (fun δ=>(aU 4 (oV 6)) (wS 6 δ)))) (aU 4 (d4))
noncomputable def eR:Sf:=ap (aU 4 (os (ac (oV 1) (ak)) kC)) (ap (o6 (oI (oV 0) df) (gN 5) (bn)) (aY (oV 4)))
noncomputable def bA:List D->Option D:=aD eU 4 eR
abbrev dH:Stmt:=gy 34
abbrev mT:List Str:=["circuit","place"]
noncomputable def iK:Sf:=aY (os (ac (o2 (oV 0) (oC (.int 1)) aB) (ac (os (ac (os (ak) bj) (ac (os (ac (o2 (oV 0) (oC (.int 0)) aB) (ac (oV 1) (ak))) bJ) (ak))) bj) (ac (oC (fD "parted")) (ac (oC (fD "gone_on")) (ak))))) bA)
noncomputable def b7:List D->Option D:=aD mT 2 iK
abbrev bL:Stmt:=gy 35
abbrev fH:List Str:=["circuit","place"]
noncomputable def gH:Dv->Option D:=cp (oI (os (ac (oV 0) (ac (oV 1) (ak))) b7) df) [] kW (os (ac (o2 (oV 0) (oC (.int 0)) aB) (ac (os (ac (o2 (oV 0) (oC (.int 1)) aB) (ak)) cX) (ak))) bj)
noncomputable def fG:Sf:=aY (gH)
noncomputable def aT:List D->Option D:=aD fH 2 fG
abbrev eZ:Stmt:=gy 37
abbrev kw:List Str:=["script","k"]
noncomputable def fw:Sf:=ap (cw (ob (o2 (oV 1) (os (ac (oV 0) (ak)) eV) sA)) (aY (o2 (oV 0) (oV 1) aB)) (kg)) (aY (oC (.int 0)))
noncomputable def br:List D->Option D:=aD kw 2 fw
abbrev eY:Stmt:=gy 38
abbrev ku:List Str:=["cell","prime","near"]
noncomputable def gS:Sf:=ap (aU 2 (o2 (oV 0) (oC (.int 1000003)) b5)) (aY (o2 (o2 (o2 (oV 2) (oC (.int 11)) b8) (o2 (oV 2) (oC (.int 48271)) b8) dW) (oV 1) b5))
noncomputable def cD:List D->Option D:=aD ku 2 gS
abbrev fX:Stmt:=gy 39
abbrev mU:List Str:=["cell","wires","looks","plain","seed","j","i"]
noncomputable def bD:Sf:=ap (aU 4 (o2 (os (ac (oV 0) (ac (oC (.int 2147483647)) (ak))) cD) (oC (.int 7)) gg)) (ap (aU 5 (o2 (o2 (oV 4) (oC (.int 16)) gg) (oV 1) b5)) (ap (aU 6 (o2 (o2 (o2 (oV 5) (oC (.int 1)) b8) (o2 (o2 (oV 4) (oC (.int 96)) gg) (os (ac (oC (.int 1)) (ac (o2 (oV 1) (oC (.int 1)) cM) (ak))) ng) b5) b8) (oV 1) b5)) (ap (cw (ob (o2 (o2 (oV 0) (oC (.int 16)) b5) (oC (.int 4)) sA)) (aY (os (ac (oC (.str "swing")) (ac (oV 5) (ak))) bj)) (kg)) (ap (cw (ob (o2 (o2 (oV 0) (oC (.int 16)) b5) (oC (.int 7)) sA)) (aY (os (ac (oC (.str "turn")) (ac (oV 5) (ac (o2 (oC (.int 1)) (o2 (o2 (oV 4) (oC (.int 600)) gg) (oC (.int 7)) b5) b8) (ak)))) bj)) (kg)) (ap (cw (pD (ob (v6 (oC (.int 7)) (o2 (oV 0) (oC (.int 16)) b5) (oC (.int 13)) sA sA)) (ob (o2 (oV 1) (oC (.int 1)) G9))) (aY (os (ac (o2 (os (ac (oC (.str "tie")) (ac (oC (.str "sign")) (ac (oC (.str "cross")) (ac (oC (.str "tie")) (ac (oC (.str "sign")) (ak)))))) kC) (o2 (o2 (oV 0) (oC (.int 16)) b5) (oC (.int 8)) cM) aB) (ac (oV 6) (ac (oV 5) (ak)))) bj)) (kg)) (ap (cw (uL (ob (o2 (o2 (oV 0) (oC (.int 16)) b5) (oC (.int 7)) bw)) (ob (oV 3))) (aY (os (ac (oC (.str "flip")) (ac (oV 5) (ak))) bj)) (kg)) (ap (cw (pD (ob (o2 (oV 2) (oC (.int 6)) sA)) (uL (ob (o2 (o2 (oV 0) (oC (.int 16)) b5) (oC (.int 14)) sA)) (ob (o2 (oV 2) (oC (.int 0)) bw)))) (aY (os (ac (oC (.str "look")) (ac (oV 5) (ak))) bj)) (kg)) (ap (cw (ob (o2 (oV 2) (oC (.int 0)) bw)) (aY (os (ac (oC (.str "swing")) (ac (oV 5) (ak))) bj)) (kg)) (aY (os (ac (oC (.str "where")) (ac (o2 (o2 (oV 4) (oC (.int 4200)) gg) (oV 2) b5) (ac (o2 (os (ac (os (ac (oC (.str "flip")) (ac (oV 5) (ak))) bj) (ac (os (ac (oC (.str "turn")) (ac (oV 5) (ac (oC (.int 4)) (ak)))) bj) (ak))) kC) (o2 (o2 (oV 4) (oC (.int 29400)) gg) (oC (.int 2)) b5) aB) (ak)))) bj))))))))))
noncomputable def aE:List D->Option D:=aD mU 4 bD
abbrev dh:Stmt:=gy 40
abbrev gX:List Str:=["cells","wires","plain","rows","looks","cell","row"]
noncomputable def ce:Sf:=ap (aU 6 (os (ac (oV 5) (ac (oV 1) (ac (oV 4) (ac (oV 2) (ak))))) aE)) (ap (aU 4 (o2 (oV 4) (os (ac (o2 (o2 (oV 6) (oC (.int 0)) aB) (oC (.str "look")) bw) (ak)) yS) b8)) (xH 3 (oV 6)))
noncomputable def eS:Sf:=ap (xG 3 (ak)) (ap (aU 4 (oC (.int 0))) (ap (o6 (oI (oV 0) df) (gN 5) (ce)) (fun δ=>(aY (os (ac (oV 1) (ac (os (ac (oV 3) (ak)) dg) (ak))) bj)) (wS 3 δ))))
noncomputable def bB:List D->Option D:=aD gX 3 eS
abbrev eI:Stmt:=gy 41
abbrev jB:List Str:=["script","head","wires","circuit","rows","looks","row"]
noncomputable def aC:Sf:=cw (uL (ob (o2 (o2 (oV 6) (oC (.int 0)) aB) (oC (.str "look")) neD)) (ob (o2 (oV 5) (oC (.int 4)) sA))) (ap (aU 5 (o2 (oV 5) (os (ac (o2 (o2 (oV 6) (oC (.int 0)) aB) (oC (.str "look")) bw) (ak)) yS) b8)) (cw (uL (ob (o2 (o2 (oV 6) (oC (.int 0)) aB) (oC (.str "where")) neD)) (ob (o2 (o2 (oV 6) (oC (.int 1)) aB) (oV 5) sA))) (xH 4 (oV 6)) (kg))) (kg)
noncomputable def gr:Sf:=ap (aU 1 (os (ac (oV 0) (ac (oC (.int 0)) (ak))) br)) (ap (aU 2 (o2 (oC (.int 1)) (o2 (oV 1) (oC (.int 3)) b5) b8)) (ap (aU 3 (os (ac (FQ (oV 0) (oP (oC (.int 2))) (oP (oC (.int 14)))) (ac (oV 2) (ac (oC (.bool false)) (ak)))) bB)) (ap (xG 4 (ak)) (ap (aU 5 (oC (.int 0))) (ap (o6 (oI (o2 (oV 3) (oC (.int 1)) aB) df) (gN 6) (aC)) (fun δ=>(aY (os (ac (oV 2) (ac (os (ac (oV 4) (ak)) dg) (ac (o2 (os (ac (oV 0) (ac (oC (.int 1)) (ak))) br) (o2 (oC (.int 1)) (oV 2) dZ) b5) (ak)))) bj)) (wS 4 δ)))))))
noncomputable def bq:List D->Option D:=aD jB 1 gr
abbrev bY:Stmt:=gy 42
abbrev dw:List Str:=["sizes","most","plain","roots"]
noncomputable def dP:Dv->Option D:=cp (oI (oV 0) df) [] kW (o2 (oV 0) (oC (.int 2)) aB)
noncomputable def io:Dv->Option D:=cp (oI (oV 0) df) [(1,"most")] kW (o2 (o2 (oV 0) (oC (.int 0)) aB) (o2 (oC (.int 1)) (o2 (oV 1) (o2 (oV 0) (oC (.int 2)) aB) cM) dZ) dW)
noncomputable def im:Dv->Option D:=cp (oI (oV 0) df) [(1,"most")] kW (o2 (o2 (oV 0) (oC (.int 1)) aB) (o2 (oC (.int 1)) (o2 (oV 1) (o2 (oV 0) (oC (.int 2)) aB) cM) dZ) dW)
noncomputable def gk:Sf:=ap (aU 1 (os (ac (o2 (os (ac (oC (.int 0)) (ak)) kC) (dP) b8) (ak)) yn)) (ap (aU 2 (os (ac (io) (ak)) sG)) (ap (aU 3 (os (ac (im) (ak)) sG)) (aY (os (ac (oV 2) (ac (oV 3) (ac (oV 1) (ak)))) bj))))
noncomputable def aI:List D->Option D:=aD dw 1 gk
abbrev eH:Stmt:=gy 43
abbrev jA:List Str:=["one","other","left"]
noncomputable def gm:Sf:=ap (aU 2 (os (ac (o2 (o2 (oV 0) (oC (.int 0)) aB) (o2 (oC (.int 1)) (o2 (oV 1) (oC (.int 2)) aB) dZ) dW) (ac (o2 (o2 (oV 0) (oC (.int 1)) aB) (o2 (oC (.int 1)) (o2 (oV 1) (oC (.int 2)) aB) dZ) dW) (ak))) bj)) (aY (o2 (oV 2) (os (ac (o2 (o2 (oV 1) (oC (.int 0)) aB) (o2 (oC (.int 1)) (o2 (oV 0) (oC (.int 2)) aB) dZ) dW) (ac (o2 (o2 (oV 1) (oC (.int 1)) aB) (o2 (oC (.int 1)) (o2 (oV 0) (oC (.int 2)) aB) dZ) dW) (ak))) bj) bw))
noncomputable def aJ:List D->Option D:=aD jA 2 gm
abbrev eW:Stmt:=gy 44
abbrev kr:List Str:=["script","wires","rows","place","last","looks","k","early","marks","told"]
noncomputable def pi:Dv->Option D:=cp (oI (oV 4) df) [] kW (o2 (oV 0) (oC (.int 1)) aB)
noncomputable def ph:Dv->Option D:=cp (oI (oV 7) df) [] kW (o2 (oV 0) (oC (.int 1)) aB)
noncomputable def pg:Dv->Option D:=cp (oI (oV 7) df) [] kW (o2 (oV 0) (oC (.int 0)) aB)
noncomputable def pf:Dv->Option D:=cp (oI (oV 4) df) [(5,"looks")] kW (FQ (o2 (oV 0) (oC (.int 0)) aB) (GY) (oP (oV 1)))
noncomputable def pc:Dv->Option D:=jL (oI (oV 4) df) [(5,"looks"),(8,"marks")] kW (ob (o2 (FQ (o2 (oV 0) (oC (.int 0)) aB) (GY) (oP (oV 1))) (oV 2) bw)) (o2 (oV 0) (oC (.int 1)) aB)
noncomputable def jP:Sf:=cw (sX (ob (os (ac (os (ac (pc) (ak)) aI) (ac (oV 9) (ak))) aJ))) (aY (oC (.bool false))) (kg)
noncomputable def iA:Sf:=cw (ob (o2 (o2 (o2 (oV 2) (oV 6) aB) (oC (.int 0)) aB) (oC (.str "look")) bw)) (ap (aU 5 (o2 (oV 5) (oC (.int 1)) b8)) (ap (aU 7 (os (ac (os (ac (oV 1) (ac (FQ (oV 2) (GY) (oP (o2 (oV 6) (oC (.int 1)) b8))) (ak))) bj) (ac (oV 3) (ak))) aT)) (ap (cw (sX (ob (os (ac (os (ac (ph) (ak)) aI) (ac (os (ac (oC (.int 1)) (ac (oC (.int 0)) (ac (oC (.int 0)) (ak)))) bj) (ak))) aJ))) (aY (oC (.bool false))) (kg)) (ap (cw (ob (o2 (pg) (o1 (pf) nM) neD)) (aY (oC (.bool false))) (kg)) (o6 (oI (oV 7) df) (EX [gN 8,gN 9]) (jP)))))) (kg)
noncomputable def zA:Sf:=ap (Fm (os (ac (oV 0) (ak)) bq) (EX [gN 1,gN 2,gN 3])) (ap (aU 4 (os (ac (os (ac (oV 1) (ac (oV 2) (ak))) bj) (ac (oV 3) (ak))) aT)) (ap (cw (sX (ob (os (ac (os (ac (pi) (ak)) aI) (ac (os (ac (oC (.int 1)) (ac (oC (.int 0)) (ac (oC (.int 0)) (ak)))) bj) (ak))) aJ))) (aY (oC (.bool false))) (kg)) (ap (aU 5 (oC (.int 0))) (ap (o6 (oL (ac (os (ac (oV 2) (ak)) eV) (ak)) da) (gN 6) (iA)) (aY (oC (.bool true)))))))
noncomputable def u5:List D->Option D:=aD kr 1 zA
open MA (Nu Row wt bO flp fS aO Wd par CT)
theorem ul(j m:Int):aR [.int j,.int m]=some (.int (MA.qw j m)):=by
 by_cases h:j=0
 ·subst h
  simp[aR,aD,dR,aq,MA.qw]
 ·simp[aR,aD,dR,aq,MA.qw,h]
theorem uB(a b c d:Int):cK [.int a,.int b,.int c,.int d]=some (.tuple [.int (b-d),.int (a+c),.int (b+d),.int (c-a)]):=by
 simp[cK,aD,j4,aq]
noncomputable def tup5(x:MA.Q4)(k:Int):D:=.tuple [.int x.a,.int x.b,.int x.c,.int x.d,.int k]
noncomputable def DM:Sf:=aU 5 (VL.os (ac (o2 (o2 (o2 (oV 0) (oV 1) zK) (oV 2) zK) (oV 3) zK) (ac (o2 (oV 4) (oC (.int 2)) gg) (ak))) aR)
noncomputable def DL:Sf:=aU 0 (o2 (oV 0) (oV 5) jF)
noncomputable def DK:Sf:=aU 1 (o2 (oV 1) (oV 5) jF)
noncomputable def DJ:Sf:=aU 2 (o2 (oV 2) (oV 5) jF)
noncomputable def DI:Sf:=aU 3 (o2 (oV 3) (oV 5) jF)
noncomputable def DH:Sf:=aU 4 (o2 (oV 4) (o2 (oC (.int 2)) (oV 5) dW) cM)
noncomputable def A5:Sf:=cw (uL (ob (o2 (oV 4) (oC (.int 0)) bw)) (uL (ob (o2 (o2 (o2 (oV 0) (oV 2) cM) (oC (.int 2)) b5) (oC (.int 1)) bw)) (ob (o2 (o2 (o2 (oV 1) (oV 3) cM) (oC (.int 2)) b5) (oC (.int 1)) bw)))) (aY (VL.os (ac (oV 0) (ac (oV 1) (ac (oV 2) (ac (oV 3) (ac (oV 4) (ak)))))) bj)) (kg)
noncomputable def A4:Sf:=aU 6 (VL.os (ac (oV 0) (ac (oV 1) (ac (oV 2) (ac (oV 3) (ak))))) cK)
noncomputable def A3:Sf:=aY (VL.os (ac (o2 (o2 (oV 6) (oC (.int 0)) aB) (oC (.int 2)) gg) (ac (o2 (o2 (oV 6) (oC (.int 1)) aB) (oC (.int 2)) gg) (ac (o2 (o2 (oV 6) (oC (.int 2)) aB) (oC (.int 2)) gg) (ac (o2 (o2 (oV 6) (oC (.int 3)) aB) (oC (.int 2)) gg) (ac (o2 (oV 4) (oC (.int 1)) cM) (ak)))))) bj)
theorem v7:jw=ap DM (ap DL (ap DK (ap DJ (ap DI (ap DH (ap A5 (ap A4 (A3)))))))):=rfl
theorem jM{s t:Sf}{δ δ':Dv}(h:s δ = some (.nx,δ')):ap s t δ = t δ':=by simp only[ap,h,Option.bind_some]
theorem HW{s t:Sf}{δ δ':Dv}{d:D}(h:s δ = some (.rt d,δ')):ap s t δ = some (.rt d,δ'):=by simp only[ap,h,Option.bind_some]
theorem DN{N:List Str}{n:Nat}{b:Sf}{as:List D}{d:D}{δ':Dv}(hl:as.length=n)(h:b (aq N as)=some (.rt d,δ')):aD N n b as=some d:=by unfold aD;rw[if_pos hl,h];rfl
theorem JX{a b c d k t:Int}(h:aR [.int (Builtin.bitOr (Builtin.bitOr (Builtin.bitOr a b) c) d),.int (k/2)]=some (.int t)):DM [.fz (.int a),.fz (.int b),.fz (.int c),.fz (.int d),.fz (.int k),.un,.un]=some (.nx,[.fz (.int a),.fz (.int b),.fz (.int c),.fz (.int d),.fz (.int k),.fz (.int t),.un]):=by simp[DM,h]
theorem JW(a:Int)(t:Nat)(x1 x2 x3 x4 x6:Sl):DL [.fz (.int a),x1,x2,x3,x4,.fz (.int t),x6]=some (.nx,[.fz (.int (a/2^t)),x1,x2,x3,x4,.fz (.int t),x6]):=by simp[DL]
theorem JV(a:Int)(t:Nat)(x1 x2 x3 x4 x6:Sl):DK [x1,.fz (.int a),x2,x3,x4,.fz (.int t),x6]=some (.nx,[x1,.fz (.int (a/2^t)),x2,x3,x4,.fz (.int t),x6]):=by simp[DK]
theorem JU(a:Int)(t:Nat)(x1 x2 x3 x4 x6:Sl):DJ [x1,x2,.fz (.int a),x3,x4,.fz (.int t),x6]=some (.nx,[x1,x2,.fz (.int (a/2^t)),x3,x4,.fz (.int t),x6]):=by simp[DJ]
theorem JT(a:Int)(t:Nat)(x1 x2 x3 x4 x6:Sl):DI [x1,x2,x3,.fz (.int a),x4,.fz (.int t),x6]=some (.nx,[x1,x2,x3,.fz (.int (a/2^t)),x4,.fz (.int t),x6]):=by simp[DI]
theorem JS(a:Int)(t:Nat)(x1 x2 x3 x4 x6:Sl):DH [x1,x2,x3,x4,.fz (.int a),.fz (.int t),x6]=some (.nx,[x1,x2,x3,x4,.fz (.int (a-2*t)),.fz (.int t),x6]):=by
 have m2:IntMulOk 2 (t:Int):=.of_left (by decide);simp[DH,m2]
theorem Cs{f g:Dv->Option Bool}{δ:Dv}(h:f δ = some true):uL f g δ = some true:=by unfold uL;rw[h];rfl
theorem uK{f g:Dv->Option Bool}{δ:Dv}(h:f δ = some false):uL f g δ = g δ:=by unfold uL;rw[h];rfl
section
variable(a b c d k:Int)(x5 x6:Sl)
theorem FW:(ob (o2 (oV 4) (oC (.int 0)) bw)) [.fz (.int a),.fz (.int b),.fz (.int c),.fz (.int d),.fz (.int k),x5,x6]=some (k==0):=rfl
theorem FT{f g:Dv->Option D}{δ:Dv}{x y:Int}(hf:f δ = some (.int x))(hg:g δ = some (.int y)):(ob (o2 (o2 (o2 f g cM) (oC (.int 2)) b5) (oC (.int 1)) bw)) δ = some ((x-y)%2==1):=by
 have s:cM (.int x) (.int y)=some (.int (x-y)):=rfl;have m:b5 (.int (x-y)) (.int 2)=some (.int ((x-y)%2)):=fO (by decide);simp only[ob,o2,oC,hf,hg,Option.bind_some,s,m,BR,zD]
theorem FV:(ob (o2 (o2 (o2 (oV 0) (oV 2) cM) (oC (.int 2)) b5) (oC (.int 1)) bw)) [.fz (.int a),.fz (.int b),.fz (.int c),.fz (.int d),.fz (.int k),x5,x6]=some ((a-c)%2==1):=FT rfl rfl
theorem FU:(ob (o2 (o2 (o2 (oV 1) (oV 3) cM) (oC (.int 2)) b5) (oC (.int 1)) bw)) [.fz (.int a),.fz (.int b),.fz (.int c),.fz (.int d),.fz (.int k),x5,x6]=some ((b-d)%2==1):=FT rfl rfl
end
theorem Fj{t:Dv->Option Bool}{u w:Sf}{δ:Dv}(h:t δ = some true):cw t u w δ = u δ:=by unfold cw;rw[h];rfl
theorem Fk{t:Dv->Option Bool}{u w:Sf}{δ:Dv}(h:t δ = some false):cw t u w δ = w δ:=by unfold cw;rw[h];rfl
theorem HU(a b c d k:Int)(x5 x6:Sl)(h:k=0\/(a-c)%2=1\/(b-d)%2=1):A5 [.fz (.int a),.fz (.int b),.fz (.int c),.fz (.int d),.fz (.int k),x5,x6]=some (.rt (.tuple [.int a,.int b,.int c,.int d,.int k]),[.fz (.int a),.fz (.int b),.fz (.int c),.fz (.int d),.fz (.int k),x5,x6]):=by
 refine(Fj ?_).trans rfl;have t1:=FW a b c d k x5 x6;have t2:=FV a b c d k x5 x6;have t3:=FU a b c d k x5 x6;by_cases q0:k=0
 ·rw[beq_iff_eq.mpr q0]at t1;exact Cs t1
 ·rw[beq_eq_false_iff_ne.mpr q0]at t1
  refine(uK t1).trans ?_;by_cases q1:(a-c)%2=1
  ·rw[beq_iff_eq.mpr q1]at t2;exact Cs t2
  ·rw[beq_eq_false_iff_ne.mpr q1]at t2
   refine(uK t2).trans ?_;rcases h with h|h|h
   ·exact absurd h q0
   ·exact absurd h q1
   ·rw[beq_iff_eq.mpr h]at t3;exact t3
theorem HV(a b c d k:Int)(x5 x6:Sl)(h:¬(k=0\/(a-c)%2=1\/(b-d)%2=1)):A5 [.fz (.int a),.fz (.int b),.fz (.int c),.fz (.int d),.fz (.int k),x5,x6]=some (.nx,[.fz (.int a),.fz (.int b),.fz (.int c),.fz (.int d),.fz (.int k),x5,x6]):=by
 have t1:=FW a b c d k x5 x6;have t2:=FV a b c d k x5 x6;have t3:=FU a b c d k x5 x6;rw[beq_eq_false_iff_ne.mpr fun q=>h (.inl q)]at t1
 rw[beq_eq_false_iff_ne.mpr fun q=>h (.inr (.inl q))]at t2
 rw[beq_eq_false_iff_ne.mpr fun q=>h (.inr (.inr q))]at t3
 exact(Fk ((uK t1).trans ((uK t2).trans t3))).trans rfl
theorem JR(a b c d:Int)(x4 x5 x6:Sl):A4 [.fz (.int a),.fz (.int b),.fz (.int c),.fz (.int d),x4,x5,x6]=some (.nx,[.fz (.int a),.fz (.int b),.fz (.int c),.fz (.int d),x4,x5,.fz (.tuple [.int (b-d),.int (a+c),.int (b+d),.int (c-a)])]):=by simp[A4,uB]
theorem JQ(p q r s k:Int)(x0 x1 x2 x3 x5:Sl):A3 [x0,x1,x2,x3,.fz (.int k),x5,.fz (.tuple [.int p,.int q,.int r,.int s])]=some (.rt (.tuple [.int (p/2),.int (q/2),.int (r/2),.int (s/2),.int (k-1)]),[x0,x1,x2,x3,.fz (.int k),x5,.fz (.tuple [.int p,.int q,.int r,.int s])]):=by simp[A3]
theorem v8(a b c d k:Int)(hk:0<=k):dq [.int a,.int b,.int c,.int d,.int k]=some (tup5 (MA.num ⟨a,b,c,d⟩ k).1 (MA.num ⟨a,b,c,d⟩ k).2):=by
 obtain⟨t,e,h1,_⟩:=MA.jD a b c d (k/2) (Int.ediv_nonneg hk (by decide));have tw:=ul (Builtin.bitOr (Builtin.bitOr (Builtin.bitOr a b) c) d) (k/2);rw[e]at tw;unfold MA.num tup5;simp only[e,Int.toNat_natCast];generalize ha:a/2^t=A;generalize hb:b/2^t=B;generalize hc:c/2^t=C;generalize hd:d/2^t=E;have go:jw (aq mS [.int a,.int b,.int c,.int d,.int k])=(ap A5 (ap A4 A3)) [.fz (.int A),.fz (.int B),.fz (.int C),.fz (.int E),.fz (.int (k-2*t)),.fz (.int t),.un]:=by
  rw[v7,<-ha,<-hb,<-hc,<-hd];exact(jM (JX tw)).trans ((jM (JW _ _ _ _ _ _ _)).trans ((jM (JV _ _ _ _ _ _ _)).trans ((jM (JU _ _ _ _ _ _ _)).trans ((jM (JT _ _ _ _ _ _ _)).trans (jM (JS _ _ _ _ _ _ _))))))
 by_cases q:k-2*(t:Int)=0\/(A-C)%2=1\/(B-E)%2=1
 ·rw[if_pos q]
  exact DN rfl (go.trans (HW (HU _ _ _ _ _ _ _ q)))
 ·rw[if_neg q]
  exact DN rfl (go.trans ((jM (HV _ _ _ _ _ _ _ q)).trans ((jM (JR _ _ _ _ _ _ _)).trans (JQ _ _ _ _ _ _ _ _ _ _))))
theorem F3(c f:Int):ng [.int c,.int f]=some (.int (max c f)):=by
 rw[bT];congr 2;rw[Int.max_def];split<;>split<;>omega
theorem FS(x:MA.Q4)(k:Int)(hk:0<=k):dq [.int x.a,.int x.b,.int x.c,.int x.d,.int k]=some (tup5 (MA.num x k).1 (MA.num x k).2):=v8 _ _ _ _ _ hk
noncomputable def C0(x:MA.Q4):D:=.tuple [.int x.a,.int x.b,.int x.c,.int x.d]
theorem uG(x:MA.Q4)(c k:Int)(h:MA.Q4.Le (2^100000) x)(h1:c<=k)(h2:k-c<=100000):aQ [tup5 x c,.int k]=some (C0 (MA.Q4.rtn (k-c).toNat x)):=by
 obtain⟨l1,l2,l3,l4⟩:=h;obtain⟨t,ht⟩:∃t:Nat,(k-c)/2=t:=⟨((k-c)/2).toNat,by omega⟩;have s:∀i:Int,i.natAbs<=2^100000->dZ (.int i) (.int (t:Int))=some (.int (i*2^t)):=fun i hi=>by
  have hb:i.natAbs<2^100001:=Nat.lt_of_le_of_lt hi (Nat.pow_lt_pow_right (by decide) (by decide));have:=MA.jt hb;have q:=iX (i:=i) (j:=(t:Int)) (by omega) (by omega);simpa using q
 have r2:=MA.Q4.rtn_two t x;unfold tup5 C0;by_cases o:(k-c)%2=1
 ·have e:(k-c).toNat=2*t+1:=by omega
  have m:(2*(t:Int)+1)%2=1:=by omega
  rw[e,MA.Q4.rtn_succ,r2];simp[aQ,aD,cu,aq,ht,o,s _ l1,s _ l2,s _ l3,s _ l4,uB,MA.Q4.rt,MA.Q4.dbl]
 ·have e:(k-c).toNat=2*t:=by omega
  rw[e,r2];simp[aQ,aD,cu,aq,ht,o,s _ l1,s _ l2,s _ l3,s _ l4,MA.Q4.dbl]
theorem AK(x:MA.Q4)(c:Int)(y:MA.Q4)(d:Int)(hx:MA.Q4.Le (2^100000) x)(hy:MA.Q4.Le (2^100000) y)(hc:0<=c)(hd:0<=d)(hc1:c<=100000)(hd1:d<=100000):fC [tup5 x c,tup5 y d]=some (tup5 (MA.e8 x c y d).1 (MA.e8 x c y d).2):=by
 have hm:=F3 c d;have k1:c<=max c d:=Int.le_max_left ..;have k2:d<=max c d:=Int.le_max_right ..;have k3:max c d=c\/max c d=d:=by omega
 have o1:=uG x c (max c d) hx k1 (by omega);have o2:=uG y d (max c d) hy k2 (by omega);unfold MA.e8;have nm:=FS (MA.Q4.add (MA.Q4.rtn (max c d-c).toNat x) (MA.Q4.rtn (max c d-d).toNat y)) (max c d) (by omega);generalize max c d=m at *;generalize MA.Q4.rtn (m-c).toNat x=u at *;generalize MA.Q4.rtn (m-d).toNat y=v at *;generalize MA.num (MA.Q4.add u v) m=r at *;simp only[MA.Q4.add]at nm;generalize tup5 r.1 r.2=R at *;simp only[tup5,C0]at o1 o2 ⊢;simp[-bT,fC,aD,ub,aq,hm,o1,o2,nm]
theorem wA(x:MA.Q4)(c:Int)(hc:0<=c):cT [tup5 x c]=some (tup5 (MA.num x (c+1)).1 (MA.num x (c+1)).2):=by
 have nm:=FS x (c+1) (by omega);generalize tup5 (MA.num x (c+1)).1 (MA.num x (c+1)).2=R at *;simp only[tup5];simp[cT,aD,mP,aq,nm]
theorem vz(x:MA.Q4)(c e:Int):cS [tup5 x c,.int e]=some (tup5 (MA.mX (e%8).toNat x) c):=by
 have w:e%8=0\/e%8=1\/e%8=2\/e%8=3\/e%8=4\/e%8=5\/e%8=6\/e%8=7:=by omega
 have go:∀(r a0 a1 a2 a3:Int),e%8=r->(0-e)%8=a0->(1-e)%8=a1->(2-e)%8=a2->(3-e)%8=a3->∀b0 b1 b2 b3:Int,ip [PyData.int x.a,.int x.b,.int x.c,.int x.d,.int (-x.a),.int (-x.b),.int (-x.c),.int (-x.d)] a0=some (.int b0)->ip [PyData.int x.a,.int x.b,.int x.c,.int x.d,.int (-x.a),.int (-x.b),.int (-x.c),.int (-x.d)] a1=some (.int b1) ->
   ip [PyData.int x.a,.int x.b,.int x.c,.int x.d,.int (-x.a),.int (-x.b),.int (-x.c),.int (-x.d)] a2=some (.int b2)->ip [PyData.int x.a,.int x.b,.int x.c,.int x.d,.int (-x.a),.int (-x.b),.int (-x.c),.int (-x.d)] a3=some (.int b3)->cS [tup5 x c,.int e]=some (.tuple [.int b0,.int b1,.int b2,.int b3,.int c]):=by
  intro r a0 a1 a2 a3 _ h0 h1 h2 h3 b0 b1 b2 b3 k0 k1 k2 k3;have h0:-e%8=a0:=by omega
  simp only[tup5];simp[cS,aD,mN,aq,h0,h1,h2,h3,k0,k1,k2,k3]
 rcases w with w|w|w|w|w|w|w|w<;>rw[w]
 ·exact go 0 0 1 2 3 w (by omega) (by omega) (by omega) (by omega) _ _ _ _ (by simp;rfl) (by simp;rfl) (by simp;rfl) (by simp;rfl)
 ·exact go 1 7 0 1 2 w (by omega) (by omega) (by omega) (by omega) _ _ _ _ (by simp;rfl) (by simp;rfl) (by simp;rfl) (by simp;rfl)
 ·exact go 2 6 7 0 1 w (by omega) (by omega) (by omega) (by omega) _ _ _ _ (by simp;rfl) (by simp;rfl) (by simp;rfl) (by simp;rfl)
 ·exact go 3 5 6 7 0 w (by omega) (by omega) (by omega) (by omega) _ _ _ _ (by simp;rfl) (by simp;rfl) (by simp;rfl) (by simp;rfl)
 ·exact go 4 4 5 6 7 w (by omega) (by omega) (by omega) (by omega) _ _ _ _ (by simp;rfl) (by simp;rfl) (by simp;rfl) (by simp;rfl)
 ·have e0:tup5 (MA.mX (5:Int).toNat x) c=.tuple [.int x.d,.int (-x.a),.int (-x.b),.int (-x.c),.int c]:=by simp[tup5,MA.mX,MA.Q4.tn]
  rw[e0];exact go 5 3 4 5 6 w (by omega) (by omega) (by omega) (by omega) _ _ _ _ (by simp) (by simp) (by simp) (by simp)
 ·have e0:tup5 (MA.mX (6:Int).toNat x) c=.tuple [.int x.c,.int x.d,.int (-x.a),.int (-x.b),.int c]:=by simp[tup5,MA.mX,MA.Q4.tn]
  rw[e0];exact go 6 2 3 4 5 w (by omega) (by omega) (by omega) (by omega) _ _ _ _ (by simp) (by simp) (by simp) (by simp)
 ·have e0:tup5 (MA.mX (7:Int).toNat x) c=.tuple [.int x.b,.int x.c,.int x.d,.int (-x.a),.int c]:=by simp[tup5,MA.mX,MA.Q4.tn]
  rw[e0];exact go 7 1 2 3 4 w (by omega) (by omega) (by omega) (by omega) _ _ _ _ (by simp) (by simp) (by simp) (by simp)
theorem ue(x:MA.Q4)(c:Int):de [tup5 x c]=some (tup5 (MA.Q4.neg x) c):=by
 simp only[tup5];simp[de,aD,j5,aq,MA.Q4.neg]
noncomputable def zL(a:Str):Bool:=vF (.str a)
theorem gz{a b:Str}(ha:zL a=true)(hb:zL b=true):bw (.str a) (.str b)=some (.bool (a==b)):=if_pos ⟨ha,hb⟩
theorem bZ:zL "swing" = true:=by decide +kernel
theorem cG:zL "turn" = true:=by decide +kernel
theorem cI:zL "flip" = true:=by decide +kernel
theorem di:zL "tie" = true:=by decide +kernel
theorem cH:zL "sign" = true:=by decide +kernel
theorem cZ:zL "cross" = true:=by decide +kernel
theorem cj:zL "look" = true:=by decide +kernel
theorem bM:zL "where" = true:=by decide +kernel
@[simp] theorem yG:bw (.str "swing") (.str "swing")=some (.bool true):=(gz bZ bZ).trans (congrArg (fun z=>some (PyData.bool z)) (show(("swing":Str)==("swing":Str))=true by decide +kernel))
@[simp] theorem zQ:bw (.str "swing") (.str "look")=some (.bool false):=(gz bZ cj).trans (congrArg (fun z=>some (PyData.bool z)) (show(("swing":Str)==("look":Str))=false by decide +kernel))
@[simp] theorem yF:bw (.str "swing") (.str "where")=some (.bool false):=(gz bZ bM).trans (congrArg (fun z=>some (PyData.bool z)) (show(("swing":Str)==("where":Str))=false by decide +kernel))
@[simp] theorem zP:bw (.str "turn") (.str "swing")=some (.bool false):=(gz cG bZ).trans (congrArg (fun z=>some (PyData.bool z)) (show(("turn":Str)==("swing":Str))=false by decide +kernel))
@[simp] theorem Bi:bw (.str "turn") (.str "turn")=some (.bool true):=(gz cG cG).trans (congrArg (fun z=>some (PyData.bool z)) (show(("turn":Str)==("turn":Str))=true by decide +kernel))
@[simp] theorem Bj:bw (.str "turn") (.str "look")=some (.bool false):=(gz cG cj).trans (congrArg (fun z=>some (PyData.bool z)) (show(("turn":Str)==("look":Str))=false by decide +kernel))
@[simp] theorem zO:bw (.str "turn") (.str "where")=some (.bool false):=(gz cG bM).trans (congrArg (fun z=>some (PyData.bool z)) (show(("turn":Str)==("where":Str))=false by decide +kernel))
@[simp] theorem zV:bw (.str "flip") (.str "swing")=some (.bool false):=(gz cI bZ).trans (congrArg (fun z=>some (PyData.bool z)) (show(("flip":Str)==("swing":Str))=false by decide +kernel))
@[simp] theorem Bs:bw (.str "flip") (.str "turn")=some (.bool false):=(gz cI cG).trans (congrArg (fun z=>some (PyData.bool z)) (show(("flip":Str)==("turn":Str))=false by decide +kernel))
@[simp] theorem Bu:bw (.str "flip") (.str "flip")=some (.bool true):=(gz cI cI).trans (congrArg (fun z=>some (PyData.bool z)) (show(("flip":Str)==("flip":Str))=true by decide +kernel))
@[simp] theorem Bt:bw (.str "flip") (.str "look")=some (.bool false):=(gz cI cj).trans (congrArg (fun z=>some (PyData.bool z)) (show(("flip":Str)==("look":Str))=false by decide +kernel))
@[simp] theorem zU:bw (.str "flip") (.str "where")=some (.bool false):=(gz cI bM).trans (congrArg (fun z=>some (PyData.bool z)) (show(("flip":Str)==("where":Str))=false by decide +kernel))
@[simp] theorem Bl:bw (.str "tie") (.str "swing")=some (.bool false):=(gz di bZ).trans (congrArg (fun z=>some (PyData.bool z)) (show(("tie":Str)==("swing":Str))=false by decide +kernel))
@[simp] theorem CC:bw (.str "tie") (.str "turn")=some (.bool false):=(gz di cG).trans (congrArg (fun z=>some (PyData.bool z)) (show(("tie":Str)==("turn":Str))=false by decide +kernel))
@[simp] theorem CG:bw (.str "tie") (.str "flip")=some (.bool false):=(gz di cI).trans (congrArg (fun z=>some (PyData.bool z)) (show(("tie":Str)==("flip":Str))=false by decide +kernel))
@[simp] theorem DY:bw (.str "tie") (.str "tie")=some (.bool true):=(gz di di).trans (congrArg (fun z=>some (PyData.bool z)) (show(("tie":Str)==("tie":Str))=true by decide +kernel))
@[simp] theorem CD:bw (.str "tie") (.str "look")=some (.bool false):=(gz di cj).trans (congrArg (fun z=>some (PyData.bool z)) (show(("tie":Str)==("look":Str))=false by decide +kernel))
@[simp] theorem Bk:bw (.str "tie") (.str "where")=some (.bool false):=(gz di bM).trans (congrArg (fun z=>some (PyData.bool z)) (show(("tie":Str)==("where":Str))=false by decide +kernel))
@[simp] theorem zS:bw (.str "sign") (.str "swing")=some (.bool false):=(gz cH bZ).trans (congrArg (fun z=>some (PyData.bool z)) (show(("sign":Str)==("swing":Str))=false by decide +kernel))
@[simp] theorem Bm:bw (.str "sign") (.str "turn")=some (.bool false):=(gz cH cG).trans (congrArg (fun z=>some (PyData.bool z)) (show(("sign":Str)==("turn":Str))=false by decide +kernel))
@[simp] theorem Bp:bw (.str "sign") (.str "flip")=some (.bool false):=(gz cH cI).trans (congrArg (fun z=>some (PyData.bool z)) (show(("sign":Str)==("flip":Str))=false by decide +kernel))
@[simp] theorem CH:bw (.str "sign") (.str "tie")=some (.bool false):=(gz cH di).trans (congrArg (fun z=>some (PyData.bool z)) (show(("sign":Str)==("tie":Str))=false by decide +kernel))
@[simp] theorem Bn:bw (.str "sign") (.str "sign")=some (.bool true):=(gz cH cH).trans (congrArg (fun z=>some (PyData.bool z)) (show(("sign":Str)==("sign":Str))=true by decide +kernel))
@[simp] theorem Bo:bw (.str "sign") (.str "look")=some (.bool false):=(gz cH cj).trans (congrArg (fun z=>some (PyData.bool z)) (show(("sign":Str)==("look":Str))=false by decide +kernel))
@[simp] theorem zR:bw (.str "sign") (.str "where")=some (.bool false):=(gz cH bM).trans (congrArg (fun z=>some (PyData.bool z)) (show(("sign":Str)==("where":Str))=false by decide +kernel))
@[simp] theorem yI:bw (.str "cross") (.str "swing")=some (.bool false):=(gz cZ bZ).trans (congrArg (fun z=>some (PyData.bool z)) (show(("cross":Str)==("swing":Str))=false by decide +kernel))
@[simp] theorem zW:bw (.str "cross") (.str "turn")=some (.bool false):=(gz cZ cG).trans (congrArg (fun z=>some (PyData.bool z)) (show(("cross":Str)==("turn":Str))=false by decide +kernel))
@[simp] theorem zZ:bw (.str "cross") (.str "flip")=some (.bool false):=(gz cZ cI).trans (congrArg (fun z=>some (PyData.bool z)) (show(("cross":Str)==("flip":Str))=false by decide +kernel))
@[simp] theorem Bv:bw (.str "cross") (.str "tie")=some (.bool false):=(gz cZ di).trans (congrArg (fun z=>some (PyData.bool z)) (show(("cross":Str)==("tie":Str))=false by decide +kernel))
@[simp] theorem zX:bw (.str "cross") (.str "sign")=some (.bool false):=(gz cZ cH).trans (congrArg (fun z=>some (PyData.bool z)) (show(("cross":Str)==("sign":Str))=false by decide +kernel))
@[simp] theorem zY:bw (.str "cross") (.str "look")=some (.bool false):=(gz cZ cj).trans (congrArg (fun z=>some (PyData.bool z)) (show(("cross":Str)==("look":Str))=false by decide +kernel))
@[simp] theorem yH:bw (.str "cross") (.str "where")=some (.bool false):=(gz cZ bM).trans (congrArg (fun z=>some (PyData.bool z)) (show(("cross":Str)==("where":Str))=false by decide +kernel))
@[simp] theorem Bq:bw (.str "look") (.str "look")=some (.bool true):=(gz cj cj).trans (congrArg (fun z=>some (PyData.bool z)) (show(("look":Str)==("look":Str))=true by decide +kernel))
@[simp] theorem zT:bw (.str "look") (.str "where")=some (.bool false):=(gz cj bM).trans (congrArg (fun z=>some (PyData.bool z)) (show(("look":Str)==("where":Str))=false by decide +kernel))
@[simp] theorem zN:bw (.str "where") (.str "look")=some (.bool false):=(gz bM cj).trans (congrArg (fun z=>some (PyData.bool z)) (show(("where":Str)==("look":Str))=false by decide +kernel))
@[simp] theorem yE:bw (.str "where") (.str "where")=some (.bool true):=(gz bM bM).trans (congrArg (fun z=>some (PyData.bool z)) (show(("where":Str)==("where":Str))=true by decide +kernel))
@[simp] theorem EU:mW false (.str "swing") (.tuple [.str "swing",.str "turn",.str "flip",.str "tie",.str "sign",.str "cross"])=some (.bool true):=by rfl
@[simp] theorem EQ:mW false (.str "swing") (.tuple [.str "tie",.str "sign",.str "cross"])=some (.bool false):=by rfl
@[simp] theorem Go:mW false (.str "turn") (.tuple [.str "swing",.str "turn",.str "flip",.str "tie",.str "sign",.str "cross"])=some (.bool true):=by rfl
@[simp] theorem Gi:mW false (.str "turn") (.tuple [.str "tie",.str "sign",.str "cross"])=some (.bool false):=by rfl
@[simp] theorem Gr:mW false (.str "flip") (.tuple [.str "swing",.str "turn",.str "flip",.str "tie",.str "sign",.str "cross"])=some (.bool true):=by rfl
@[simp] theorem Gm:mW false (.str "flip") (.tuple [.str "tie",.str "sign",.str "cross"])=some (.bool false):=by rfl
@[simp] theorem G5:mW false (.str "tie") (.tuple [.str "swing",.str "turn",.str "flip",.str "tie",.str "sign",.str "cross"])=some (.bool true):=by rfl
@[simp] theorem G4:mW false (.str "tie") (.tuple [.str "tie",.str "sign",.str "cross"])=some (.bool true):=by rfl
@[simp] theorem Gp:mW false (.str "sign") (.tuple [.str "swing",.str "turn",.str "flip",.str "tie",.str "sign",.str "cross"])=some (.bool true):=by rfl
@[simp] theorem Gj:mW false (.str "sign") (.tuple [.str "tie",.str "sign",.str "cross"])=some (.bool true):=by rfl
@[simp] theorem EW:mW false (.str "cross") (.tuple [.str "swing",.str "turn",.str "flip",.str "tie",.str "sign",.str "cross"])=some (.bool true):=by rfl
@[simp] theorem ER:mW false (.str "cross") (.tuple [.str "tie",.str "sign",.str "cross"])=some (.bool true):=by rfl
@[simp] theorem Gq:mW false (.str "look") (.tuple [.str "swing",.str "turn",.str "flip",.str "tie",.str "sign",.str "cross"])=some (.bool false):=by rfl
@[simp] theorem Gk:mW false (.str "look") (.tuple [.str "tie",.str "sign",.str "cross"])=some (.bool false):=by rfl
@[simp] theorem ET:mW false (.str "where") (.tuple [.str "swing",.str "turn",.str "flip",.str "tie",.str "sign",.str "cross"])=some (.bool false):=by rfl
@[simp] theorem EO:mW false (.str "where") (.tuple [.str "tie",.str "sign",.str "cross"])=some (.bool false):=by rfl
theorem rg{α:Type}{f:D->Option D}{h k:α -> D}:∀(xs:List α),(∀x∈xs,f (h x)=some (k x))->wd f (xs.map h)=some (xs.map k)
 |[],_=>rfl
 |x::xs,H=>by
  show((f (h x)).bind fun y=>_)=_
  rw[H x List.mem_cons_self];show((wd f (xs.map h)).bind fun ys=>_)=_
  rw[rg xs fun y hy=>H y (List.mem_cons_of_mem _ hy)]
  rfl
theorem rN{α:Type}{t:D->Option Bool}{f:D->Option D}{h k:α -> D}{b:α -> Bool}:∀(xs:List α),(∀x∈xs,t (h x)=some (b x))->(∀x∈xs,b x=true->f (h x)=some (k x))->f9 t f (xs.map h)=some ((xs.filter b).map k)
 |[],_,_=>rfl
 |x::xs,H,G=>by
  have ih:=rN (k:=k) xs (fun y hy=>H y (List.mem_cons_of_mem _ hy)) (fun y hy=>G y (List.mem_cons_of_mem _ hy))
  show((t (h x)).bind fun c=>_)=_
  rw[H x List.mem_cons_self,Option.bind_some];cases e:b x with
  |false=>simp[e,ih]
  |true=>simp[e,ih,G x List.mem_cons_self e]
theorem cg{α:Type}{fi:Dv->Option (List D)}{caps:List (Nat×Str)}{fe:Dv->Option D}{δ:Dv}{h k:α -> D}{xs:List α}(e:fi δ = some (xs.map h))(hl:xs.length<=16777216)(H:∀x∈xs,fe (.fz (h x)::capS δ caps)=some (k x)):cp fi caps kW fe δ = some (.list (xs.map k)):=by
 unfold cp;rw[e,Option.bind_some,if_pos (by rw[List.length_map];exact hl),rg xs (k:=k) fun x hx=>by
  show fe _=_;exact H x hx]
 rfl
theorem ov{α:Type}{fi:Dv->Option (List D)}{caps:List (Nat×Str)}{ft:Dv->Option Bool}{fe:Dv->Option D}{δ:Dv}{h k:α -> D}{b:α -> Bool}{xs:List α}(e:fi δ = some (xs.map h))(hl:xs.length<=16777216)(H:∀x∈xs,ft (.fz (h x)::capS δ caps)=some (b x))(G:∀x∈xs,b x=true->fe (.fz (h x)::capS δ caps)=some (k x)):jL fi caps kW ft fe δ = some (.list ((xs.filter b).map k)):=by
 unfold jL;rw[e,Option.bind_some,if_pos (by rw[List.length_map];exact hl),rN xs (b:=b) (k:=k) (fun x hx=>by
  show ft _=_;exact H x hx) (fun x hx hb=>by
  show fe _=_;exact G x hx hb)]
 rfl
open MA (Nu Row wt bO flp fS aO)
noncomputable def bF(u:Nu):D:=tup5 u.1 u.2
noncomputable def fW(n:Nat)(f:Nat->Nu):D:=.tuple ((List.range (2^n)).map fun p=>bF (f p))
noncomputable def AB:Row->D
 |.swing j=>.tuple [.str "swing",.int j]
 |.turn j e=>.tuple [.str "turn",.int j,.int e]
 |.flip j=>.tuple [.str "flip",.int j]
 |.tie i j=>.tuple [.str "tie",.int i,.int j]
 |.sign i j=>.tuple [.str "sign",.int i,.int j]
 |.cross i j=>.tuple [.str "cross",.int i,.int j]
theorem nK{n:Nat}{f:Nat->Nu}{i:Int}(p:Nat)(hi:i=p)(hp:p<2^n):aB (fW n f) (.int i)=some (bF (f p)):=by
 show ip _ _=_;exact d7 (j:=p) hi (by simp[hp])
theorem jO(n:Nat)(f:Nat->Nu):eV [fW n f]=some (.int ((2^n:Nat):Int)):=by
 show some (PyData.int (((List.range (2^n)).map fun p=>bF (f p)).length:Nat))=_
 rw[List.length_map,List.length_range]
theorem yv{b:Sf}{k:Nat}(I:Nat->Dv->Prop)(n:Nat)(h:∀i,i<n->∀ δ,I i δ -> ∃ δ2,b (δ.set k (.fz (.int i)))=some (.nx,δ2)/\I (i+1) δ2):∀ δ,I 0 δ -> ∃ δ',loop (gN k) b (qP 0 n) δ = some (.nx,δ')/\I n δ':=by
 have go:∀(m i:Nat),i+m=n->∀ δ,I i δ -> ∃ δ',loop (gN k) b ((List.range' i m).map fun(k:Nat)=>PyData.int (0+(k:Int))) δ = some (.nx,δ')/\I n δ':=by
  intro m
  induction m with
  |zero=>intro i e δ h;exact⟨δ,rfl,by rw[<-e];exact h⟩
  |succ m ih=>
   intro i e δ hi;obtain⟨δ2,e2,h2⟩:=h i (by omega) δ hi;obtain⟨δ',e3,h3⟩:=ih (i+1) (by omega) δ2 h2;refine⟨δ',?_,h3⟩;rw[<-e3,List.range'_succ,List.map_cons];exact bU (δ1:=δ.set k (.fz (.int i))) (by simp) e2
 intro δ h0;have:=go n 0 (by omega) δ h0;rw[<-List.range_eq_range']at this;exact this
theorem A2(x:MA.Q4)(k:Nat):∃c:Nat,(MA.num x k).2=c/\c<=k:=by
 obtain⟨c,e,h,_⟩:=MA.DG x k;exact⟨c,e,h⟩
theorem xV(u v:Nu):(MA.dE u v).2<=max u.2 v.2:=by
 obtain⟨c,e2,h⟩:=A2 (MA.Q4.add (MA.Q4.rtn (max (u.2:Int) v.2-u.2).toNat u.1) (MA.Q4.rtn (max (u.2:Int) v.2-v.2).toNat v.1)) (max u.2 v.2);have e3:((max u.2 v.2:Nat):Int)=max (u.2:Int) v.2:=by omega
 rw[e3]at e2;show(MA.e8 u.1 u.2 v.1 v.2).2.toNat<=_;unfold MA.e8;rw[e2];exact h
theorem hZ(n:Nat)(hn:n<=6):da [.int ((2^n:Nat):Int)]=some ((List.range (2^n)).map fun k:Nat=>PyData.int (0+(k:Int))):=by
 have sq:(2^n:Nat)<=64:=(Nat.pow_le_pow_right (by decide) hn:2^n<=2^6);generalize (2^n:Nat)=N at sq ⊢;exact nP (j:=(N:Int)) (by omega) (by omega)
theorem vd{fi:Dv->Option (List D)}{caps:List (Nat×Str)}{fe:Dv->Option D}{δ:Dv}{N:Nat}{y:Nat->D}(e:fi δ = some ((List.range N).map fun k:Nat=>PyData.int (0+(k:Int))))(hl:N<=16777216)(H:∀p:Nat,p<N->fe (.fz (.int p)::capS δ caps)=some (y p)):cp fi caps kW fe δ = some (.list ((List.range N).map y)):=by
 refine cg e (by rw[List.length_range];exact hl) fun p hp=>?_
 rw[Int.zero_add];exact H p (List.mem_range.mp hp)
def Bd(k p:Nat)(f:Nat->Nu):Prop:=∀x,(f x).2<=k/\MA.Q4.Le (2^p) (f x).1
theorem BD(u:Nu):(MA.eO u).2<=u.2+1:=by
 obtain⟨c,e,h⟩:=A2 u.1 (u.2+1);show(MA.num u.1 ((u.2+1:Nat):Int)).2.toNat<=_;rw[e];exact h
theorem BE{u:Nu}{M:Nat}(h:MA.Q4.Le M u.1):MA.Q4.Le M (MA.eO u).1:=MA.yk _ _ (by omega) _ h
theorem Bd.done{k p:Nat}{f:Nat->Nu}(h:Bd k p f)(n:Nat)(r:Row):Bd (k+1) (p+k+1) (aO n f r):=fun x=>by
 have mono:∀y,(f y).2<=k+1/\MA.Q4.Le (2^(p+k+1)) (f y).1:=fun y=>⟨by have:=(h y).1;omega,(h y).2.mono (Nat.pow_le_pow_right (by decide) (by omega))⟩
 have pl:∀(u v:Nu),u.2<=k->v.2<=k->MA.Q4.Le (2^p) u.1->MA.Q4.Le (2^p) v.1->(MA.eO (MA.dE u v)).2<=k+1/\MA.Q4.Le (2^(p+k+1)) (MA.eO (MA.dE u v)).1:=fun u v h1 h2 h3 h4=>by
  refine⟨?_,BE ?_⟩
  ·have:=BD (MA.dE u v)
   have:=xV u v;omega
  ·exact MA.xU h3 h4 h1 h2
 cases r with
 |swing j=>
  show(if bO (wt n j) x=0 then _ else _:Nu).2<=_/\MA.Q4.Le _ (if bO (wt n j) x=0 then _ else _:Nu).1;split
  ·exact pl _ _ (h _).1 (h _).1 (h _).2 (h _).2
  ·exact pl _ _ (h _).1 (h _).1 (h _).2 (MA.lC _ (h _).2)
 |turn j e=>exact⟨(mono x).1,MA.lC _ (mono x).2⟩
 |sign i j=>exact⟨(mono x).1,MA.lC _ (mono x).2⟩
 |flip j=>exact mono _
 |tie i j=>exact mono _
 |cross i j=>exact mono _
theorem Bd.mono{k p k' p':Nat}{f:Nat->Nu}(h:Bd k p f)(h1:k<=k')(h2:p<=p'):Bd k' p' f:=fun x=>⟨Nat.le_trans (h x).1 h1,(h x).2.mono (Nat.pow_le_pow_right (by decide) h2)⟩
theorem Hm:((List.range 6).all fun k=>(List.range 64).all fun p=>(p &&& 2^k==2^k*bO (2^k) p)&&(p ^^^ 2^k==flp (2^k) p))=true:=by decide +kernel
theorem Hl:((List.range 6).all fun k=>(List.range 6).all fun l=>(List.range 64).all fun p=>(k==l)||((2^k ||| 2^l==2^k+2^l)&&(p &&& (2^k+2^l)==2^k*bO (2^k) p+2^l*bO (2^l) p)&&(p ^^^ (2^k+2^l)==flp (2^l) (flp (2^k) p))))=true:=by decide +kernel
section
variable{n:Nat}(hn:n<=6)
include hn
theorem nR:2^n<=64:=(Nat.pow_le_pow_right (by decide) hn:2^n<=2^6)
theorem j6{j p:Nat}(hj:j<n)(hp:p<2^n):p &&& wt n j=wt n j*bO (wt n j) p/\p ^^^ wt n j=flp (wt n j) p:=by
 have h:=Hm;rw[List.all_eq_true]at h;have h:=h (n-1-j) (List.mem_range.mpr (by omega));rw[List.all_eq_true]at h;have h:=h p (List.mem_range.mpr (Nat.lt_of_lt_of_le hp (nR hn)));rw[Bool.and_eq_true,beq_iff_eq,beq_iff_eq]at h;exact h
theorem kX{i j p:Nat}(hi:i<n)(hj:j<n)(hij:i≠j)(hp:p<2^n):wt n i ||| wt n j=wt n i+wt n j/\p &&& (wt n i+wt n j)=wt n i*bO (wt n i) p+wt n j*bO (wt n j) p/\p ^^^ (wt n i+wt n j)=flp (wt n j) (flp (wt n i) p):=by
 have h:=Hl;rw[List.all_eq_true]at h;have h:=h (n-1-i) (List.mem_range.mpr (by omega));rw[List.all_eq_true]at h;have h:=h (n-1-j) (List.mem_range.mpr (by omega));rw[List.all_eq_true]at h;have h:=h p (List.mem_range.mpr (Nat.lt_of_lt_of_le hp (nR hn)));rw[Bool.or_eq_true,Bool.and_eq_true,Bool.and_eq_true,beq_iff_eq,beq_iff_eq,beq_iff_eq,beq_iff_eq]at h;rcases h with h|h
 ·exact absurd h (by omega)
 ·exact⟨h.1.1,h.1.2,h.2⟩
theorem cQ{j:Nat}(hj:j<n):cW [.int n,.int j]=some (.int (wt n j:Nat)):=by
 have hb:Builtin.Int.intBits 1=1:=by decide +kernel
 have e:=iX (i:=1) (j:=(n:Int)-1-(j:Int)) (by omega) (by omega);have e2:(1:Int)*2^((n:Int)-1-(j:Int)).toNat=((wt n j:Nat):Int):=by
  unfold MA.wt;rw[show((n:Int)-1-(j:Int)).toNat=n-1-j by omega]
  push_cast
  omega
 rw[e2]at e;simp[cW,aD,qd,aq,e]
theorem qq(f:Nat->Nu):ju (.int ((2^n:Nat):Int))=some (.int ((n:Int)+1)):=by
 have e:((2^n:Nat):Int)=2^n:=by push_cast;rfl
 have:=MA.se n;rw[oy,e,this];rfl
theorem xT(u v:Nu)(hu:MA.Q4.Le (2^100000) u.1)(hv:MA.Q4.Le (2^100000) v.1)(hc:u.2<=50000)(hd:v.2<=50000):fC [bF u,bF v]=some (bF (MA.dE u v)):=by
 have e:=AK u.1 u.2 v.1 v.2 hu hv (by omega) (by omega) (by omega) (by omega);unfold bF MA.dE;rw[e];obtain⟨c,e2,h⟩:=A2 (MA.Q4.add (MA.Q4.rtn (max (u.2:Int) v.2-u.2).toNat u.1) (MA.Q4.rtn (max (u.2:Int) v.2-v.2).toNat v.1)) (max u.2 v.2);have e3:((max u.2 v.2:Nat):Int)=max (u.2:Int) v.2:=by omega
 rw[e3]at e2;show some (tup5 _ (MA.e8 u.1 u.2 v.1 v.2).2)=some (tup5 _ ((MA.e8 u.1 u.2 v.1 v.2).2.toNat:Int));unfold MA.e8;rw[e2];rfl
theorem rJ(u:Nu):cT [bF u]=some (bF (MA.eO u)):=by
 have e:=wA u.1 u.2 (by omega);obtain⟨c,e2,h⟩:=A2 u.1 (u.2+1);have e3:((u.2+1:Nat):Int)=(u.2:Int)+1:=by omega
 unfold bF MA.eO;rw[e,e3];rw[e3]at e2;rw[e2];rfl
theorem wL(u:Nu):de [bF u]=some (bF (MA.dD 4 u)):=by
 have e:=ue u.1 u.2;unfold bF MA.dD;rw[e];have:MA.mX (4%8) u.1=MA.Q4.neg u.1:=by
  show MA.Q4.tn (MA.Q4.tn (MA.Q4.tn (MA.Q4.tn u.1)))=_;unfold MA.Q4.tn MA.Q4.neg;rfl
 rw[this]
theorem qy(u:Nu)(e:Nat):cS [bF u,.int e]=some (bF (MA.dD e u)):=by
 have h:=vz u.1 u.2 e;unfold bF MA.dD;rw[h,show((e:Int)%8).toNat=e%8 by omega]
end
section
variable{n:Nat}(hn:n<=6)(f:Nat->Nu)(hf:∀p,(f p).2<=40000)(hL:∀p,MA.Q4.Le (2^100000) (f p).1)
include hn
theorem xl(X x y a b:D)(p w q:Int)(ds:List D)(hs:ds.length<sizeLine)(h1:Builtin.bitAnd p w=0)(h2:Builtin.bitXor p w=q)(a0:aB X (.int p)=some x)(a1:aB X (.int q)=some y)(e1:fC [x,y]=some a)(e2:cT [a]=some b):
  dX [.fz X,.fz (.int w),.ow ds,.fz (.int p)]=some (.nx,[.fz X,.fz (.int w),.ow (ds++[b]),.fz (.int p)]):=by
 simp[-ap,-cw,aF,aZ,dX,h1,h2,a0,a1,e1,e2,hs]
theorem xk(X x y z a b:D)(p w q m:Int)(ds:List D)(hs:ds.length<sizeLine)(h1:Builtin.bitAnd p w=m)(hm:m≠0)(h2:Builtin.bitXor p w=q)(a0:aB X (.int p)=some x)(a1:aB X (.int q)=some y)(e0:de [x]=some z)(e1:fC [y,z]=some a)(e2:cT [a]=some b):
  dX [.fz X,.fz (.int w),.ow ds,.fz (.int p)]=some (.nx,[.fz X,.fz (.int w),.ow (ds++[b]),.fz (.int p)]):=by
 have hm':(m==0)=false:=by simpa using hm
 simp[-ap,-cw,aF,aZ,dX,h1,hm',h2,a0,a1,e0,e1,e2,hs]
include hf hL
theorem xn{j:Nat}(hj:j<n)(p:Nat)(hp:p<2^n)(ds:List D)(hl:ds.length<1000):
  dX [.fz (fW n f),.fz (.int (wt n j:Nat)),.ow ds,.fz (.int p)]=some (.nx,[.fz (fW n f),.fz (.int (wt n j:Nat)),.ow (ds++[bF (aO n f (.swing j) p)]),.fz (.int p)]):=by
 have hs:ds.length<sizeLine:=by show _<16777216;omega
 have ha:=j6 hn hj hp;have b1:=MA.sg p (wt n j);have b2:=MA.B2 p (wt n j);rw[ha.1]at b1;rw[ha.2]at b2;have hw:=MA.bK n j;have q:=MA.iE hj hp;have a0:aB (fW n f) (.int (p:Int))=some (bF (f p)):=nK p rfl hp;have a1:aB (fW n f) (.int ((flp (wt n j) p:Nat):Int))=some (bF (f (flp (wt n j) p))):=nK _ rfl q;by_cases h:bO (wt n j) p=0
 ·rw[h,Nat.mul_zero]at b1
  have e:aO n f (.swing j) p=MA.eO (MA.dE (f p) (f (p+wt n j))):=if_pos h;have ef:flp (wt n j) p=p+wt n j:=if_pos h;rw[ef]at a1 b2;rw[e];exact xl hn _ _ _ _ _ _ _ _ _ hs b1 b2 a0 a1 (xT hn _ _ (hL _) (hL _) (by have:=hf p;omega) (by have:=hf (p+wt n j);omega)) (rJ hn _)
 ·have h1:bO (wt n j) p=1:=by have:=MA.cO (wt n j) p;omega
  rw[h1,Nat.mul_one]at b1;have e:aO n f (.swing j) p=MA.eO (MA.dE (f (p-wt n j)) (MA.dD 4 (f p))):=if_neg h;have ef:flp (wt n j) p=p-wt n j:=if_neg h;rw[ef]at a1 b2;rw[e];exact xk hn _ _ _ _ _ _ _ _ _ _ _ hs b1 (by omega) b2 a0 a1 (wL hn _) (xT hn _ _ (hL _) (MA.lC _ (hL p)) (by have:=hf (p-wt n j);omega) (by show(f p).2<=_;have:=hf p;omega)) (rJ hn _)
omit hf hL hn in
theorem At(X Y:D)(w S:Int)(RL L:List D)(y:Sl)(ln:eV [X]=some (.int S))(hN:da [.int S]=some RL)(e:loop (gN 3) dX RL [.fz X,.fz (.int w),.ow [],.un]=some (.nx,[.fz X,.fz (.int w),.ow L,y]))(tp:dg [.list L]=some Y):fg [X,.int w]=some Y:=by
 simp[-ap,-cw,aF,aZ,fg,aD,qf,aq,ln,hN,e,wS,tp]
theorem xm{j:Nat}(hj:j<n):fg [fW n f,.int (wt n j:Nat)]=some (fW n (aO n f (.swing j))):=by
 have sq:=nR hn;have hN:da [.int ((2^n:Nat):Int)]=some (qP 0 (2^n)):=hZ n hn;obtain⟨δ',e,y3,rfl⟩:=yv (b:=dX) (k:=3) (fun i δ=>∃y3,δ = [.fz (fW n f),.fz (.int (wt n j:Nat)),.ow ((List.range i).map fun p=>bF (aO n f (.swing j) p)),y3]) (2^n) (by
   rintro i hi δ ⟨y3,rfl⟩;have e:=xn hn f hf hL hj i hi ((List.range i).map fun p=>bF (aO n f (.swing j) p)) (by simp;omega)
   refine⟨[.fz (fW n f),.fz (.int (wt n j:Nat)),.ow ((List.range (i+1)).map fun p=>bF (aO n f (.swing j) p)),.fz (.int i)],?_,_,rfl⟩
   rw[List.range_succ,List.map_append];exact e) [.fz (fW n f),.fz (.int (wt n j:Nat)),.ow [],.un] ⟨_,rfl⟩
 have ln:=jO n f;have tp:dg [.list ((List.range (2^n)).map fun p=>bF (aO n f (.swing j) p))]=some (fW n (aO n f (.swing j))):=rfl
 exact At _ _ _ _ _ _ _ ln hN e tp
omit hf hL
omit hn in
theorem tU{fi:Dv->Option (List D)}{caps:List (Nat×Str)}{fe:Dv->Option D}{δ:Dv}{N:Nat}{y:Nat->D}(e:fi δ = some ((List.range N).map fun k:Nat=>PyData.int (0+(k:Int))))(hl:N<=16777216)(H:∀p:Nat,p<N->fe (.fz (.int p)::capS δ caps)=some (y p)):cp fi caps kW fe δ = some (.list ((List.range N).map y)):=by
 refine cg e (by rw[List.length_range];exact hl) fun p hp=>?_
 rw[Int.zero_add];exact H p (List.mem_range.mp hp)
omit hn in
theorem Hi(X:D)(h e S:Int)(N:Nat)(x y:Nat->D)(ln:eV [X]=some (.int S))(hN:da [.int S]=some ((List.range N).map fun k:Nat=>PyData.int (0+(k:Int))))(hl:N<=16777216)(a:∀p:Nat,p<N->aB X (.int p)=some (x p))
  (t:∀p:Nat,p<N->Builtin.bitAnd p h=h->cS [x p,.int e]=some (y p)) (u:∀p:Nat,p<N->Builtin.bitAnd p h≠h->y p=x p):aS [X,.int h,.int e]=some (.tuple ((List.range N).map y)):=by
 have c:gu [.fz X,.fz (.int h),.fz (.int e)]=some (.list ((List.range N).map y)):=tU (by simp[ln,hN]) hl fun p hp=>by
  have a0:=a p hp;by_cases q:Builtin.bitAnd p h=h
  ·have t:=t p hp q
   simp[capS,a0,q,t]
  ·have t:=u p hp q
   rw[t];simp[capS,a0,q]
 simp[aS,aD,eQ,aq,c]
omit hn in
theorem Iv(X:D)(h w S:Int)(N:Nat)(x y:Nat->D)(ln:eV [X]=some (.int S))(hN:da [.int S]=some ((List.range N).map fun k:Nat=>PyData.int (0+(k:Int))))(hl:N<=16777216)(a:∀p:Nat,p<N->aB X (.int p)=some (x p))
  (t:∀p:Nat,p<N->Builtin.bitAnd p h=h->∃q:Nat,q<N/\Builtin.bitXor p w=q/\y p=x q) (u:∀p:Nat,p<N->Builtin.bitAnd p h≠h->y p=x p):aN [X,.int h,.int w]=some (.tuple ((List.range N).map y)):=by
 have c:fN [.fz X,.fz (.int h),.fz (.int w)]=some (.list ((List.range N).map y)):=tU (by simp[ln,hN]) hl fun p hp=>by
  have a0:=a p hp;by_cases q:Builtin.bitAnd p h=h
  ·obtain⟨q',hq,e1,e2⟩:=t p hp q
   have a1:=a q' hq;rw[e2];simp[capS,e1,q,a1]
  ·have t:=u p hp q
   rw[t];simp[capS,a0,q]
 simp[aN,aD,d6,aq,c]
theorem Cg(h e:Int)(g:Nat->Nu)(H:∀p:Nat,p<2^n->(Builtin.bitAnd p h=h->cS [bF (f p),.int e]=some (bF (g p)))/\(Builtin.bitAnd p h≠h->g p=f p)):aS [fW n f,.int h,.int e]=some (fW n g):=
 Hi (fW n f) h e _ (2^n) (fun p=>bF (f p)) (fun p=>bF (g p)) (jO n f) (hZ n hn) (Nat.le_trans (nR hn) (by decide)) (fun p hp=>nK p rfl hp) (fun p hp q=>(H p hp).1 q) (fun p hp q=>congrArg bF ((H p hp).2 q))
theorem CM(h w:Int)(g:Nat->Nu)(H:∀p:Nat,p<2^n->(Builtin.bitAnd p h=h->∃q:Nat,q<2^n/\Builtin.bitXor p w=q/\g p=f q)/\(Builtin.bitAnd p h≠h->g p=f p)):aN [fW n f,.int h,.int w]=some (fW n g):=
 Iv (fW n f) h w _ (2^n) (fun p=>bF (f p)) (fun p=>bF (g p)) (jO n f) (hZ n hn) (Nat.le_trans (nR hn) (by decide)) (fun p hp=>nK p rfl hp) (fun p hp q=>let ⟨q',h1,h2,h3⟩:=(H p hp).1 q; ⟨q',h1,h2,congrArg bF h3⟩) (fun p hp q=>congrArg bF ((H p hp).2 q))
omit hn in
theorem zl(p W m q r:Int)(c:Bool){b:Bool}(h1:Builtin.bitAnd p W=m)(h2:Builtin.bitXor p W=q)(h3:mW false (.int m) (.tuple [.int 0,.int W])=some (.bool b))(hb:b=c)(hr:(if c=true then p else q)=r):bI [.int p,.int W]=some (.int r):=by
 subst hb;cases b
 ·simp at hr;subst hr;simp[bI,aD,fq,aq,h1,h2,h3]
 ·simp at hr;subst hr;simp[bI,aD,fq,aq,h1,h2,h3]
theorem BM{i j:Nat}(hi:i<n)(hj:j<n)(hij:i≠j){p:Nat}(hp:p<2^n):bI [.int p,.int ((wt n i+wt n j:Nat):Int)]=some (.int (fS n (.cross i j) p:Nat)):=by
 have ha:=kX hn hi hj hij hp;have b1:=MA.sg p (wt n i+wt n j);have b2:=MA.B2 p (wt n i+wt n j);rw[ha.2.1]at b1;rw[ha.2.2]at b2;have hwi:=MA.bK n i;have hwj:=MA.bK n j;have l1:=MA.cO (wt n i) p;have l2:=MA.cO (wt n j) p;have inT:∀a b:Int,mW false (.int a) (.tuple [.int 0,.int b])=some (.bool (0==a||b==a)):=fun a b=>by
  show some (PyData.bool (PyData.eqv (.int 0) (.int a)||(PyData.eqv (.int b) (.int a)||false)))=_;rw[Bool.or_false];rfl
 have ef:fS n (.cross i j) p=if bO (wt n i) p=bO (wt n j) p then p else flp (wt n j) (flp (wt n i) p):=rfl
 rw[ef];by_cases h:bO (wt n i) p=bO (wt n j) p
 ·rw[if_pos h]
  have hb:bO (wt n i) p=0\/bO (wt n i) p=1:=by omega
  refine zl _ _ _ _ _ true b1 b2 (inT _ _) ?_ rfl;rcases hb with hb|hb
  ·rw[<-h,hb];simp
  ·rw[<-h,hb];simp
 ·rw[if_neg h]
  refine zl _ _ _ _ _ false b1 b2 (inT _ _) ?_ rfl;have hb:(bO (wt n i) p=0/\bO (wt n j) p=1)\/(bO (wt n i) p=1/\bO (wt n j) p=0):=by omega
  rcases hb with⟨hb,hc⟩|⟨hb,hc⟩
  ·rw[hb,hc,Nat.mul_zero,Nat.mul_one,Nat.zero_add,Bool.or_eq_false_iff,beq_eq_false_iff_ne,beq_eq_false_iff_ne]
   omega
  ·rw[hb,hc,Nat.mul_zero,Nat.mul_one,Nat.add_zero,Bool.or_eq_false_iff,beq_eq_false_iff_ne,beq_eq_false_iff_ne]
   omega
omit hn in
theorem IA(X:D)(S W1 W2 W:Int)(N:Nat)(x y:Nat->D)(R w0:Sl)(ho:Builtin.bitOr W1 W2=W)(ln:eV [X]=some (.int S))(hN:da [.int S]=some ((List.range N).map fun k:Nat=>PyData.int (0+(k:Int))))(hl:N<=16777216)(a:∀p:Nat,p<N->aB X (.int p)=some (x p))
  (t:∀p:Nat,p<N->∃q:Nat,q<N/\bI [.int p,.int W]=some (.int q)/\y p=x q):pj [.fz X,R,w0,.fz (.int W1),.fz (.int W2)]=some (.list ((List.range N).map y)):=
 tU (by simp[ln,hN]) hl fun p hp=>by
  obtain⟨q,hq,e1,e2⟩:=t p hp;have a1:=a q hq;rw[e2];simp[capS,ho,e1,a1]
section
omit hn
variable(X R Y:D)(S N w1 w2:Int)(i j:Int)(ln:eV [X]=some (.int S))(bl:ju (.int S)=some (.int (N+1)))(r1:aB R (.int 1)=some (.int i))(v1:cW [.int N,.int i]=some (.int w1))
include ln bl r1 v1
theorem pU(r0:aB R (.int 0)=some (.str "swing"))(h:fg [X,.int w1]=some Y):cm [X,R]=some Y:=by
 simp[-ap,-cw,aF,aZ,cm,aD,gQ,aq,ln,bl,r0,r1,v1,h]
theorem rR(r0:aB R (.int 0)=some (.str "turn"))(r2:aB R (.int 2)=some (.int j))(h:aS [X,.int w1,.int j]=some Y):cm [X,R]=some Y:=by
 simp[-ap,-cw,aF,aZ,cm,aD,gQ,aq,ln,bl,r0,r1,r2,v1,h]
theorem rT(r0:aB R (.int 0)=some (.str "flip"))(h:aN [X,.int 0,.int w1]=some Y):cm [X,R]=some Y:=by
 simp[-ap,-cw,aF,aZ,cm,aD,gQ,aq,ln,bl,r0,r1,v1,h]
variable(r2:aB R (.int 2)=some (.int j))(v2:cW [.int N,.int j]=some (.int w2))
include r2 v2
theorem tP(r0:aB R (.int 0)=some (.str "tie"))(h:aN [X,.int w1,.int w2]=some Y):cm [X,R]=some Y:=by
 simp[-ap,-cw,aF,aZ,cm,aD,gQ,aq,ln,bl,r0,r1,r2,v1,v2,h]
theorem rS(W:Int)(ho:Builtin.bitOr w1 w2=W)(r0:aB R (.int 0)=some (.str "sign"))(h:aS [X,.int W,.int 4]=some Y):cm [X,R]=some Y:=by
 simp[-ap,-cw,aF,aZ,cm,aD,gQ,aq,ln,bl,r0,r1,r2,v1,v2,ho,h]
theorem pV(L:D)(r0:aB R (.int 0)=some (.str "cross"))(h:pj [.fz X,.fz R,.fz (.int N),.fz (.int w1),.fz (.int w2)]=some L)(t:dg [L]=some Y):cm [X,R]=some Y:=by
 simp[-ap,-cw,aF,aZ,cm,aD,gQ,aq,ln,bl,r0,r1,r2,v1,v2,h,t]
end
include hf hL
theorem BS(r:Row)(hr:r.ok n):cm [fW n f,AB r]=some (fW n (aO n f r)):=by
 have ln:=jO n f;have bl:=qq hn f;have sq:=nR hn;cases r with
 |swing j=>exact pU _ _ _ _ _ _ _ ln bl rfl (cQ hn hr) rfl (xm hn f hf hL hr)
 |turn j e=>
  refine rR _ _ _ _ _ _ _ _ ln bl rfl (cQ hn hr.1) rfl rfl (Cg hn f _ _ _ fun p hp=>?_);have ha:=(j6 hn hr.1 hp).1;have b1:=MA.sg p (wt n j);rw[ha]at b1;have hw:=MA.bK n j;have hb:bO (wt n j) p=0\/bO (wt n j) p=1:=by have:=MA.cO (wt n j) p;omega
  have e1:aO n f (.turn j e) p=MA.dD (e*bO (wt n j) p) (f p):=rfl;rw[e1,b1];rcases hb with hb|hb
  ·rw[hb,Nat.mul_zero,Nat.mul_zero]
   exact⟨fun q=>absurd q (by omega),fun _=>rfl⟩
  ·rw[hb,Nat.mul_one,Nat.mul_one]
   exact⟨fun _=>qy hn _ _,fun q=>absurd rfl q⟩
 |flip j=>
  refine rT _ _ _ _ _ _ _ ln bl rfl (cQ hn hr) rfl (CM hn f _ _ _ fun p hp=>?_);have b2:=MA.B2 p (wt n j);rw[(j6 hn hr hp).2]at b2;have b0:=MA.sg p 0;rw[Nat.and_zero]at b0;exact⟨fun _=>⟨_,MA.iE hr hp,b2,rfl⟩,fun q=>absurd b0 q⟩
 |tie i j=>
  refine tP _ _ _ _ _ _ _ _ _ ln bl rfl (cQ hn hr.1) rfl (cQ hn hr.2.1) rfl (CM hn f _ _ _ fun p hp=>?_);have b2:=MA.B2 p (wt n j);rw[(j6 hn hr.2.1 hp).2]at b2;have b1:=MA.sg p (wt n i);rw[(j6 hn hr.1 hp).1]at b1;have hw:=MA.bK n i;have hb:bO (wt n i) p=0\/bO (wt n i) p=1:=by have:=MA.cO (wt n i) p;omega
  have e1:aO n f (.tie i j) p=f (if bO (wt n i) p=0 then p else flp (wt n j) p):=rfl;rw[e1,b1];rcases hb with hb|hb
  ·rw[hb,Nat.mul_zero]
   exact⟨fun q=>absurd q (by omega),fun _=>rfl⟩
  ·rw[hb,Nat.mul_one,if_neg (by decide)]
   exact⟨fun _=>⟨_,MA.iE hr.2.1 hp,b2,rfl⟩,fun q=>absurd rfl q⟩
 |sign i j=>
  have ho:=MA.IH (wt n i) (wt n j);rw[(kX hn hr.1 hr.2.1 hr.2.2 (p:=0) (Nat.pow_pos (by decide))).1]at ho;refine rS _ _ _ _ _ _ _ _ _ ln bl rfl (cQ hn hr.1) rfl (cQ hn hr.2.1) _ ho rfl (Cg hn f _ _ _ fun p hp=>?_);have b1:=MA.sg p (wt n i+wt n j);rw[(kX hn hr.1 hr.2.1 hr.2.2 hp).2.1]at b1;have hw:=MA.bK n i;have hw2:=MA.bK n j;have hb:bO (wt n i) p=0\/bO (wt n i) p=1:=by have:=MA.cO (wt n i) p;omega
  have hc:bO (wt n j) p=0\/bO (wt n j) p=1:=by have:=MA.cO (wt n j) p;omega
  have e1:aO n f (.sign i j) p=MA.dD (4*bO (wt n i) p*bO (wt n j) p) (f p):=rfl;rw[e1,b1];rcases hb with hb|hb
  ·rw[hb,Nat.mul_zero,Nat.mul_zero,Nat.zero_mul]
   refine⟨fun q=>absurd q ?_,fun _=>rfl⟩
   rcases hc with hc|hc<;>rw[hc]<;>omega
  ·rcases hc with hc|hc
   ·rw[hb,hc,Nat.mul_one,Nat.mul_zero,Nat.mul_zero]
    exact⟨fun q=>absurd q (by omega),fun _=>rfl⟩
   ·rw[hb,hc,Nat.mul_one,Nat.mul_one,Nat.mul_one,Nat.mul_one]
    exact⟨fun _=>qy hn _ 4,fun q=>absurd rfl q⟩
 |cross i j=>
  have ho:=MA.IH (wt n i) (wt n j);rw[(kX hn hr.1 hr.2.1 hr.2.2 (p:=0) (Nat.pow_pos (by decide))).1]at ho;refine pV _ _ _ _ _ _ _ _ _ ln bl rfl (cQ hn hr.1) rfl (cQ hn hr.2.1) _ rfl (IA (fW n f) _ _ _ _ (2^n) (fun p=>bF (f p)) (fun p=>bF (aO n f (.cross i j) p)) _ _ ho ln (hZ n hn) (by omega) (fun p hp=>nK p rfl hp) fun p hp=>?_) rfl
  exact⟨_,MA.BG (r:=.cross i j) hr hp,BM hn hr.1 hr.2.1 hr.2.2 hp,rfl⟩
end
theorem xy(w:Nat)(h:w<=100):dZ (.int 1) (.int (w:Int))=some (.int ((2^w:Nat):Int)):=by
 have hb:Builtin.Int.intBits 1=1:=by decide +kernel
 have e:=iX (i:=1) (j:=(w:Int)) (by omega) (by omega);rw[e];simp
theorem AX(p q:Nat):(if(q:Int)=(p:Int)then some (PyData.tuple [.int 1,.int 0,.int 0,.int 0,.int 0])else some (PyData.tuple [.int 0,.int 0,.int 0,.int 0,.int 0]))=some (bF (MA.bz p q)):=by
 unfold MA.bz;by_cases h:q=p
 ·rw[if_pos h,if_pos (by omega)];rfl
 ·rw[if_neg h,if_neg (by omega)];rfl
theorem GK(w M:Int)(N:Nat)(p:Nat)(hl:N<=16777216)(hs:dZ (.int 1) (.int w)=some (.int M))(hN:da [.int M]=some ((List.range N).map fun k:Nat=>PyData.int (0+(k:Int)))):bJ [.int w,.int p]=some (.tuple ((List.range N).map fun q=>bF (MA.bz p q))):=by
 have c:i8 [.fz (.int w),.fz (.int p)]=some (.list ((List.range N).map fun q=>bF (MA.bz p q))):=vd (by simp[hs,hN]) hl fun q hq=>by
  have:=AX p q;simp[-Int.natCast_inj,capS,this]
 simp[bJ,aD,gR,aq,c]
theorem zw{n:Nat}(hn:n<=6)(p:Nat):bJ [.int n,.int p]=some (fW n (MA.bz p)):=
 GK _ _ (2^n) p (Nat.le_trans (Nat.pow_le_pow_right (by decide) hn:2^n<=2^6) (by decide)) (xy n (by omega)) (hZ n hn)
theorem sR(p:Nat):Bd 0 0 (MA.bz p):=fun x=>by
 unfold MA.bz;split
 ·exact⟨Nat.le_refl _,by decide,by decide,by decide,by decide⟩
 ·exact⟨Nat.le_refl _,by decide,by decide,by decide,by decide⟩
theorem xz(p q k:Int)(hk:0<=k):∃t:Nat,(t:Int)<=k/\p=p/2^t*2^t/\q=q/2^t*2^t/\((t:Int)<k->¬(p/2^t%2=0/\q/2^t%2=0)) /\
  cY [.int p,.int q,.int k]=some (.tuple [.int (p/2^t),.int (q/2^t),.int (k-t)]):=by
 obtain⟨t,e,h1,h2,h3,h4⟩:=MA.w5 p q k hk;refine⟨t,h1,h2,h3,h4,?_⟩;have s1:∀i:Int,jF (.int i) (.int (t:Int))=some (.int (i/2^t)):=fun i=>by
  have:=xx (i:=i) (j:=(t:Int)) (by omega);simpa using this
 simp[cY,aD,qg,aq,ul,e,s1]
theorem Cw{a b:Int}(ha:a.natAbs<=2^200000)(hb:b.natAbs<=2^200000):IntMulOk a b:=
 MA.sZ 200001 200001 (Nat.lt_of_le_of_lt ha (Nat.pow_lt_pow_right (by decide) (by decide))) (Nat.lt_of_le_of_lt hb (Nat.pow_lt_pow_right (by decide) (by decide))) (by decide)
structure Vl (p r:Nat) (t:D) (u:MA.Q4) (k:Nat):Prop where
 ex:∃(x:MA.Q4) (c:Nat),t=tup5 x c/\MA.Is x c u k/\MA.Q4.Le (2^p) x/\c<=r
theorem nQ{p q:Nat}(h:p<=q):(2:Nat)^p<=2^q:=Nat.pow_le_pow_right (by decide) h
noncomputable def xc(s:MA.S2)(e:Int):D:=.tuple [.int s.p,.int s.q,.int e]
theorem C7(u:MA.S2)(k:Nat)(M:Nat)(h:MA.S2.Le M u):∃(s:MA.S2) (e:Nat),cY [.int u.p,.int u.q,.int k]=some (xc s e)/\MA.S2.Is s e u k/\e<=k/\MA.S2.Le M s:=by
 obtain⟨t,h1,h2,h3,h4,e⟩:=xz u.p u.q k (by omega);have l1:=MA.jY _ _ h2;have l2:=MA.jY _ _ h3;refine⟨⟨u.p/2^t,u.q/2^t⟩,k-t,?_,⟨fun z=>?_,?_⟩,by omega,Nat.le_trans l1 h.1,Nat.le_trans l2 h.2⟩
 ·rw[e]
  show _=some (PyData.tuple [.int (u.p/2^t),.int (u.q/2^t),.int ((k-t:Nat):Int)]);rw[show((k-t:Nat):Int)=(k:Int)-t by omega]
 ·exact h4 (by omega)
 ·have ek:k=(k-t)+t:=by omega
  have e0:MA.S2.sc t ⟨u.p/2^t,u.q/2^t⟩=u:=MA.S2.ext' h2.symm h3.symm
  conv=>lhs;rw[ek,MA.S2.sc_add,e0]
structure Vs (p r:Nat) (t:D) (u:MA.S2) (k:Nat):Prop where
 ex:∃(s:MA.S2) (e:Nat),t=xc s e/\MA.S2.Is s e u k/\MA.S2.Le (2^p) s/\e<=r
theorem Vs.mono{p r q s:Nat}{t:D}{u:MA.S2}{k:Nat}(h:Vs p r t u k)(h1:p<=q)(h2:r<=s):Vs q s t u k:=by
 obtain⟨x,c,e,is,le,hc⟩:=h.ex;exact⟨x,c,e,is,le.mono (nQ h1),by omega⟩
theorem uj{p:Nat}(u:MA.S2)(k:Nat)(h:MA.S2.Le (2^p) u):∃w,cY [.int u.p,.int u.q,.int k]=some w/\Vs p k w u k:=by
 obtain⟨s,e,q,is,hl,le⟩:=C7 u k _ h;exact⟨_,q,s,e,rfl,is,le,hl⟩
theorem qH(s:MA.S2)(c k:Nat)(h:MA.S2.Le (2^1000000) s)(h1:c<=k)(h2:k<=100000):aP [xc s c,.int k]=some (.tuple [.int (MA.S2.sc (k-c) s).p,.int (MA.S2.sc (k-c) s).q]):=by
 have sh:∀i:Int,i.natAbs<=2^1000000->dZ (.int i) (.int ((k:Int)-c))=some (.int (i*2^(k-c))):=fun i hi=>by
  have hb:i.natAbs<2^1000001:=Nat.lt_of_le_of_lt hi (Nat.pow_lt_pow_right (by decide) (by decide));have:=MA.jt hb;have q:=iX (i:=i) (j:=(k:Int)-c) (by omega) (by omega);rw[show((k:Int)-c).toNat=k-c by omega]at q;exact q
 simp only[xc,MA.S2.sc];simp[aP,aD,cP,aq,sh _ h.1,sh _ h.2]
theorem Ao{p r:Nat}{t t':D}{u v:MA.S2}{k l:Nat}(h:Vs p r t u k)(h':Vs p r t' v l)(hp:p<=1000000)(hr:r<=10000):∃w,cJ [t,t']=some w/\Vs (p+r+1) r w (MA.S2.add (MA.S2.sc l u) (MA.S2.sc k v)) (k+l):=by
 obtain⟨x,c,rfl,is,le,hc⟩:=h.ex;obtain⟨y,d,rfl,is',le',hd⟩:=h'.ex;have hm:ng [.int (c:Int),.int (d:Int)]=some (.int ((max c d:Nat):Int)):=by rw[F3];congr 2;omega
 have o1:=qH x c (max c d) (le.mono (nQ hp)) (by omega) (by omega);have o2:=qH y d (max c d) (le'.mono (nQ hp)) (by omega) (by omega);generalize hM:max c d=m at *;have lz:MA.S2.Le (2^(p+r+1)) (MA.S2.add (MA.S2.sc (m-c) x) (MA.S2.sc (m-d) y)):=by
  have a1:=(MA.S2.sc_le (m-c) le).mono (nQ (show p+(m-c)<=p+r by omega));have a2:=(MA.S2.sc_le (m-d) le').mono (nQ (show p+(m-d)<=p+r by omega));have:=MA.S2.add_le a1 a2;rw[Nat.pow_succ,Nat.mul_two];exact this
 obtain⟨w,ew,hw⟩:=uj _ m lz;refine⟨w,?_,?_⟩
 ·simp only[xc,MA.S2.add]at o1 o2 ew ⊢
  simp[-bT,cJ,aD,gi,aq,hm,o1,o2,ew]
 ·obtain⟨z,e,rfl,iz,lz',he⟩:=hw.ex
  refine⟨z,e,rfl,iz.trans ?_,lz',by omega⟩;have h1:MA.S2.sc (k+l) (MA.S2.sc (m-c) x)=MA.S2.sc m (MA.S2.sc l u):=by
   rw[MA.S2.sc_add,MA.S2.sc_swap l (m-c),MA.S2.sc_swap k (m-c),MA.S2.sc_swap k l,is.2,MA.S2.sc_swap (m-c) l,<-MA.S2.sc_add (m-c) c,MA.S2.sc_swap l,show m-c+c=m by omega]
  have h2:MA.S2.sc (k+l) (MA.S2.sc (m-d) y)=MA.S2.sc m (MA.S2.sc k v):=by
   rw[MA.S2.sc_add,MA.S2.sc_swap l (m-d),is'.2,<-MA.S2.sc_add (m-d) d,show m-d+d=m by omega,MA.S2.sc_swap k m]
  rw[MA.S2.sc_addS,MA.S2.sc_addS,h1,h2]
theorem xv(x:MA.Q4)(c:Int)(h:MA.Q4.Le (2^200000) x)(w:D)(e:cY [.int (MA.dF x).p,.int (MA.dF x).q,.int c]=some w):dL [tup5 x c]=some w:=by
 obtain⟨l1,l2,l3,l4⟩:=h;have a1:=Cw l1 l1;have a2:=Cw l2 l2;have a3:=Cw l3 l3;have a4:=Cw l4 l4;have b1:=Cw l1 l2;have b2:=Cw l2 l3;have b3:=Cw l3 l4;have b4:=Cw l4 l1;simp only[tup5,MA.dF]at e ⊢;simp[dL,aD,j2,aq,a1,a2,a3,a4,b1,b2,b3,b4,e]
theorem DP{x:MA.Q4}{p:Nat}(h:MA.Q4.Le (2^p) x):MA.S2.Le (2^(2*p+2)) (MA.dF x):=by
 have:=MA.DQ h;rw[<-Nat.pow_add,show(4:Nat)=2^2 from rfl,<-Nat.pow_add,show 2+(p+p)=2*p+2 by omega]at this;exact this
theorem CV{p r:Nat}{t:D}{u:MA.Q4}{k:Nat}(h:Vl p r t u k)(hp:p<=200000):∃w,dL [t]=some w/\Vs (2*p+2) r w (MA.dF u) k:=by
 obtain⟨x,c,rfl,is,le,hc⟩:=h.ex;obtain⟨w,ew,hw⟩:=uj _ c (DP le);refine⟨w,xv x c (le.mono (nQ hp)) w ew,?_⟩;obtain⟨z,e,rfl,iz,lz',he⟩:=hw.ex;exact⟨z,e,rfl,iz.trans (MA.Ce is),lz',by omega⟩
theorem HJ{M c:Nat}(h:c<=M)(x:MA.Q4):MA.Q4.rtn c (MA.Q4.rtn (M-c) x)=MA.Q4.rtn M x:=by rw[<-MA.Q4.rtn_add];congr 1;omega
theorem CU{M p:Nat}{u:Nu}(hl:MA.b9 u)(hu:MA.Q4.Le (2^p) u.1)(h:u.2<=M){r:Nat}(hr:u.2<=r):Vl p r (bF u) (MA.val M u) M:=⟨u.1,u.2,rfl,⟨hl,(HJ h _).symm⟩,hu,hr⟩
noncomputable def sO(M:Nat)(f:Nat->Nu)(i:Nat):MA.S2:=⟨MA.ba i (fun p=>(MA.dF (MA.val M (f p))).p),MA.ba i (fun p=>(MA.dF (MA.val M (f p))).q)⟩
theorem vO(M:Nat)(f:Nat->Nu)(i:Nat):sO M f (i+1)=MA.S2.add (sO M f i) (MA.dF (MA.val M (f i))):=rfl
theorem Vs.re{p r:Nat}{t:D}{u v:MA.S2}{k l:Nat}(h:Vs p r t u k)(e:MA.S2.sc l u=MA.S2.sc k v):Vs p r t v l:=by
 obtain⟨x,c,rfl,is,le,hc⟩:=h.ex;exact⟨x,c,rfl,is.trans e,le,hc⟩
theorem lq{M p r:Nat}{f:Nat->Nu}(hl:∀q,MA.b9 (f q))(hL:∀q,MA.Q4.Le (2^p) (f q).1)(hr:∀q,(f q).2<=r)(hM:r<=M)(hr2:r<=300)(hp:p<=90000)(X:Sl):∀(m i:Nat),i+m<=64->∀(t:D) (z:Sl),Vs (2*p+2+400*i) r t (sO M f i) M->∃t' y,loop (gN 2) jg ((List.range' i m).map fun q=>bF (f q)) [X,.fz t,z]=some (.nx,[X,.fz t',y])/\Vs (2*p+2+400*(i+m)) r t' (sO M f (i+m)) M
 | 0,i,_,t,z,h=>⟨t,z,rfl,h⟩
 |m+1,i,hi,t,z,h=>by
  obtain⟨w,ew,hw⟩:=CV (CU (hl i) (hL i) (Nat.le_trans (hr i) hM) (hr i)) (by omega);obtain⟨t1,e1,h1⟩:=Ao h (hw.mono (by omega) (Nat.le_refl r)) (by omega) (by omega);have h2:Vs (2*p+2+400*(i+1)) r t1 (sO M f (i+1)) M:=by
   refine(h1.re ?_).mono (by omega) (Nat.le_refl r);rw[vO,MA.S2.sc_addS,MA.S2.sc_addS,MA.S2.sc_add,MA.S2.sc_add]
  obtain⟨t2,y,e2,h3⟩:=lq hl hL hr hM hr2 hp X m (i+1) (by omega) t1 (.fz (bF (f i))) h2;refine⟨t2,y,?_,?_⟩
  ·rw[List.range'_succ,List.map_cons,bU (δ1:=[X,.fz t,.fz (bF (f i))]) (δ2:=[X,.fz t1,.fz (bF (f i))]) (by rfl) (by simp[jg,ew,e1]),e2]
  ·rw[show i+(m+1)=i+1+m by omega];exact h3
theorem Ak(X t:D)(L:List D)(y:Sl)(it:df X=some L)(e:loop (gN 2) jg L [.fz X,.fz (.tuple [.int 0,.int 0,.int 0]),.un]=some (.nx,[.fz X,.fz t,y])):cX [X]=some t:=by
 simp[cX,aD,qe,aq,it,e]
theorem Ae(M:Nat)(f:Nat->Nu)(p r:Nat):Vs p r (.tuple [.int 0,.int 0,.int 0]) (sO M f 0) M:=by
 refine⟨⟨0,0⟩,0,rfl,⟨fun z=>absurd z (by decide),?_⟩,⟨Nat.zero_le _,Nat.zero_le _⟩,Nat.zero_le _⟩
 apply MA.S2.ext'<;>simp[MA.S2.sc,sO,MA.ba]
theorem wW{M p r n:Nat}(hn:n<=6){f:Nat->Nu}(hl:∀q,MA.b9 (f q))(hL:∀q,MA.Q4.Le (2^p) (f q).1)(hr:∀q,(f q).2<=r)(hM:r<=M)(hr2:r<=300)(hp:p<=90000):∃t,cX [fW n f]=some t/\Vs 300000 r t (MA.dA M n f) M:=by
 have sq:2^n<=64:=(Nat.pow_le_pow_right (by decide) hn:2^n<=2^6);obtain⟨t,y,e,h⟩:=lq hl hL hr hM hr2 hp (.fz (fW n f)) (2^n) 0 (by omega) _ .un (Ae M f _ r);rw[<-List.range_eq_range']at e;refine⟨t,Ak _ _ _ y rfl e,?_⟩;rw[Nat.zero_add]at h;exact h.mono (by omega) (Nat.le_refl r)
open MA (Row)
inductive Rw where
 |pl (r:Row)|look (j:Nat)|wflip (m j:Nat)|wsign (m j:Nat)
noncomputable def ez:Rw->D
 |.pl r=>AB r
 |.look j=>.tuple [.str "look",.int j]
 |.wflip m j=>.tuple [.str "where",.int m,.tuple [.str "flip",.int j]]
 |.wsign m j=>.tuple [.str "where",.int m,.tuple [.str "turn",.int j,.int 4]]
def Rw.ok(w l:Nat):Rw->Prop
 |.pl r=>r.ok w
 |.look j=>j<w/\l<6
 |.wflip m j=>m<l/\j<w
 |.wsign m j=>m<l/\j<w
noncomputable def Rw.isLook:Rw->Bool
 |.look _=>true
 |_=>false
noncomputable def Rw.isPl:Rw->Bool
 |.pl _=>true
 |_=>false
abbrev Br:=List Nat×(Nat->Nu)
noncomputable def ik(n:Nat)(b:Br):D:=.tuple [.tuple (b.1.map fun m=>PyData.int (m:Nat)),fW n b.2]
noncomputable def EJ:Nu:=(⟨0,0,0,0⟩,0)
noncomputable def left(f:Nat->Nu)(w m:Nat):Nat->Nu:=fun p=>if bO w p=m then f p else EJ
noncomputable def kY(u:Nu):Bool:=u.1.a==0&&(u.1.b==0&&(u.1.c==0&&(u.1.d==0&&(u.2:Int)==0)))
theorem jC(u:Nu):kY u=true↔u=EJ:=by
 obtain⟨⟨a,b,c,d⟩,k⟩:=u;simp[kY,EJ,and_assoc]
noncomputable def kR(n:Nat)(f:Nat->Nu):Bool:=(List.range (2^n)).all fun p=>kY (f p)
theorem El(u:Nu):bw (bF u) (.tuple [.int 0,.int 0,.int 0,.int 0,.int 0])=some (.bool (kY u)):=by
 obtain⟨⟨a,b,c,d⟩,k⟩:=u;show bw (.tuple [.int a,.int b,.int c,.int d,.int (k:Int)]) _=_;unfold bw;rw[if_pos ⟨rfl,rfl⟩];simp[PyData.eqv,PyData.eqvAll,kY]
theorem rG(n:Nat)(hn:n<=6)(f:Nat->Nu):dc [fW n f]=some (.bool (kR n f)):=by
 have sq:(2^n:Nat)<=64:=(Nat.pow_le_pow_right (by decide) hn:2^n<=2^6);have e:i7 [.fz (fW n f)]=some (.list ((List.range (2^n)).map fun p=>.bool (kY (f p)))):=cg (h:=fun p=>bF (f p)) (k:=fun p=>.bool (kY (f p))) (xs:=List.range (2^n)) (by simp[fW]) (by rw[List.length_range];omega) fun p _=>by
  have:=El (f p);simp[capS,this]
 simp[dc,aD,gP,aq,e,zF,kR]
theorem DV(X:D)(S W F:Int)(z2:Sl)(N:Nat)(y:Nat->D)(hl:N<=16777216)(ln:eV [X]=some (.int S))(hN:da [.int S]=some ((List.range N).map fun k:Nat=>PyData.int (0+(k:Int))))(H:∀p:Nat,p<N->∃(m:Int) (d:D),Builtin.bitAnd (p:Int) W=m/\aB X (.int (p:Int))=some d/\y p=if m=F then d else .tuple [.int 0,.int 0,.int 0,.int 0,.int 0]):iw [.fz X,.fz (.int W),z2,.fz (.int F)]=some (.list ((List.range N).map y)):=
 vd (by simp[ln,hN]) hl fun p hp=>by
  obtain⟨m,d,h1,h2,h3⟩:=H p hp;by_cases h:m=F
  ·rw[if_pos h]at h3
   subst h;simp[capS,h1,h2,h3]
  ·rw[if_neg h]at h3
   simp[capS,h1,h2,h3,h]
theorem DU(X:D)(W M F:Int)(L:List D)(hF:(if M=1 then W else 0)=F)(p:∀z2,iw [.fz X,.fz (.int W),z2,.fz (.int F)]=some (.list L)):bV [X,.int W,.int M]=some (.tuple L):=by
 by_cases h:M=1
 ·rw[if_pos h]at hF;subst hF h
  simp[-ap,-cw,aF,aZ,bV,aD,ig,aq,p]
 ·rw[if_neg h]at hF;subst hF
  simp[-ap,-cw,aF,aZ,bV,aD,ig,aq,p,h]
theorem uQ{n j:Nat}(hn:n<=6)(hj:j<n)(f:Nat->Nu)(m:Nat)(hm:m<2):bV [fW n f,.int (wt n j:Nat),.int (m:Nat)]=some (fW n (left f (wt n j) m)):=by
 have sq:(2^n:Nat)<=64:=(Nat.pow_le_pow_right (by decide) hn:2^n<=2^6);have wp:=MA.bK n j;refine DU (fW n f) (wt n j:Nat) (m:Nat) ((wt n j*m:Nat):Int) ((List.range (2^n)).map fun p=>bF (left f (wt n j) m p)) ?_ fun z2=>DV _ _ _ _ z2 (2^n) (fun p=>bF (left f (wt n j) m p)) (by omega) (jO n f) (hZ n hn) fun p hp=>⟨_,_,MA.sg p (wt n j),nK p rfl hp,?_⟩
 ·rcases (by omega:m=0\/m=1)with rfl|rfl<;>simp
 ·rw[(j6 hn hj hp).1]
  unfold left;have b:=MA.cO (wt n j) p;by_cases h:bO (wt n j) p=m
  ·rw[if_pos h,if_pos (by rw[h])]
  ·rw[if_neg h,if_neg]
   ·rfl
   ·intro z
    have z:wt n j*bO (wt n j) p=wt n j*m:=by exact_mod_cast z
    exact h (Nat.eq_of_mul_eq_mul_left wp z)
noncomputable def cL(n j:Nat)(b:Br):List Br:=[(b.1++[0],left b.2 (wt n j) 0),(b.1++[1],left b.2 (wt n j) 1)].filter fun c=>!kR n c.2
theorem yd(B:D)(M:List D)(X:D)(S N W j:Int)(L0 L1 Y:D)(b0:aB B (.int 0)=some (.tuple M))(b1:aB B (.int 1)=some X)(ln:eV [X]=some (.int S))(bl:ju (.int S)=some (.int (N+1)))(hw:cW [.int N,.int j]=some (.int W))(hl:M.length<=1000)(l0:bV [X,.int W,.int 0]=some L0)(l1:bV [X,.int W,.int 1]=some L1)(q:∀ δ:Dv,δ[3]? = some (.fz (.list [.tuple [.tuple (M++[.int 0]),L0],.tuple [.tuple (M++[.int 1]),L1]]))->nT δ = some Y):dn [B,.int j]=some Y:=by
 have a0:b8 (.tuple M) (.tuple [.int 0])=some (.tuple (M++[.int 0])):=sr (by simp;omega);have a1:b8 (.tuple M) (.tuple [.int 1])=some (.tuple (M++[.int 1])):=sr (by simp;omega);have e:∀z3,nU [.fz B,.fz (.int j),.fz (.int W),z3]=some (.list [.tuple [.tuple (M++[.int 0]),L0],.tuple [.tuple (M++[.int 1]),L1]]):=fun z3=>by
  have:=cg (fi:=oI (VL.os (ac (oC (.int 0)) (ac (oC (.int 1)) (ak))) bj) df) (caps:=[(0,"branch"),(2,"bit")]) (fe:=VL.os (ac (o2 (o2 (oV 1) (oC (.int 0)) aB) (VL.os (ac (oV 0) (ak)) bj) b8) (ac (VL.os (ac (o2 (oV 1) (oC (.int 1)) aB) (ac (oV 2) (ac (oV 0) (ak)))) bV) (ak))) bj) (δ:=[.fz B,.fz (.int j),.fz (.int W),z3]) (h:=fun k:Bool=>PyData.int (if k then 1 else 0)) (k:=fun k:Bool=>if k then .tuple [.tuple (M++[.int 1]),L1]else .tuple [.tuple (M++[.int 0]),L0]) (xs:=[false,true]) (by simp) (by simp) (fun x _=>by cases x<;>simp[capS,b0,b1,a0,a1,l0,l1])
  exact this
 have q':=q [.fz B,.fz (.int j),.fz (.int W),.fz (.list [.tuple [.tuple (M++[.int 0]),L0],.tuple [.tuple (M++[.int 1]),L1]])] rfl;have nn:N+1-1=N:=by omega
 simp[-oy,dn,aD,mO,aq,b1,ln,bl,nn,hw,e,q']
theorem vT{n j:Nat}(hn:n<=6)(hj:j<n)(b:Br)(hl:b.1.length<=900):dn [ik n b,.int (j:Nat)]=some (.list ((cL n j b).map (ik n))):=by
 refine yd (ik n b) (b.1.map fun m=>PyData.int (m:Nat)) (fW n b.2) _ n (wt n j:Nat) j _ _ _ rfl rfl (jO n b.2) (qq hn b.2) (cQ hn hj) (by simp;omega) (uQ hn hj b.2 0 (by decide)) (uQ hn hj b.2 1 (by decide)) fun δ h=>?_
 refine ov (h:=ik n) (k:=ik n) (b:=fun c=>!kR n c.2) (xs:=[(b.1++[0],left b.2 (wt n j) 0),(b.1++[1],left b.2 (wt n j) 1)]) ?_ (by simp) (fun c _=>?_) fun c _ _=>?_
 ·simp[h,ik]
 ·have e:=rG n hn c.2
  have b1:aB (ik n c) (.int 1)=some (fW n c.2):=rfl;simp[capS,b1,e]
 ·simp
theorem cB{a b:D}{c:Bool}(h:bw a b=some (.bool c)):neD a b=some (.bool (!c)):=by
 unfold bw at h;unfold neD;split at h
 ·rename_i hs
  rw[if_pos hs];have h:PyData.eqv a b=c:=by simpa using h
  rw[h]
 ·cases h
theorem mG{i:Nat}{fs:Dv->Option (List D)}{n:Str}{g:List D->Option D}{δ:Dv}{as:List D}(h1:oV i δ = some (fD n))(h2:fs δ = some as):fB i fs ((n,g)::[]) δ = g as:=by
 unfold fB;rw[h1,Option.bind_some,wB,Option.bind_some];simp[List.lookup,h2]
noncomputable def h8(n:Nat):Rw->Br->Br
 |.pl r,b=>(b.1,aO n b.2 r)
 |.look _,b=>b
 |.wflip m j,b=>if b.1[m]? = some 1 then(b.1,aO n b.2 (.flip j))else b
 |.wsign m j,b=>if b.1[m]? = some 1 then(b.1,aO n b.2 (.turn j 4))else b
theorem yZ(B R M X Y:D)(b0:aB B (.int 0)=some M)(b1:aB B (.int 1)=some X)(h:cm [X,R]=some Y):bG [B,R]=some (.tuple [M,Y]):=by
 simp[bG,aD,j3,aq,b0,b1,h]
theorem jU{n:Nat}(hn:n<=6)(b:Br){k p:Nat}(hb:Bd k p b.2)(hk:k+1<=300)(hp:p+400<=80000)(r:Row)(hr:r.ok n):bG [ik n b,AB r]=some (ik n (b.1,aO n b.2 r)):=by
 have h1:=BS hn b.2 (fun x=>by have:=(hb x).1;omega) (fun x=>(hb x).2.mono (Nat.pow_le_pow_right (by decide) (by omega))) r hr
 exact yZ (ik n b) (AB r) _ _ _ rfl rfl h1
theorem En(B R Y:D)(s:Str)(r0:aB R (.int 0)=some (.str s))(ne:neD (.str s) (.str "where")=some (.bool true))(h:bG [B,R]=some Y):aW [B,R,fD "gone_on"]=some Y:=by
 have c:fB 2 (ac (oV 0) (ac (oV 1) (ak))) (("gone_on",bG)::[]) [.fz B,.fz R,.fz (fD "gone_on")]=some Y:=(mG rfl rfl).trans h;simp[-ap,-cw,aF,aZ,aW,aD,cU,aq,r0,ne,c]
theorem zq(B R M I Y:D)(m v:Int)(r0:aB R (.int 0)=some (.str "where"))(r1:aB R (.int 1)=some (.int m))(r2:aB R (.int 2)=some I)(b0:aB B (.int 0)=some M)(mv:aB M (.int m)=some (.int v))(h1:v=1->bG [B,I]=some Y)(h0:¬v=1->Y=B):aW [B,R,fD "gone_on"]=some Y:=by
 have ne:neD (.str "where") (.str "where")=some (.bool false):=cB (c:=true) (by simp);by_cases h:v=1
 ·have c:fB 2 (ac (oV 0) (ac (o2 (oV 1) (oC (.int 2)) aB) (ak))) (("gone_on",bG)::[]) [.fz B,.fz R,.fz (fD "gone_on")]=some Y:=(mG (as:=[B,I]) rfl (by simp[r2])).trans (h1 h)
  simp[-ap,-cw,aF,aZ,aW,aD,cU,aq,r0,ne,r1,b0,mv,h,c]
 ·have e:=h0 h
  subst e;simp[-ap,-cw,aF,aZ,aW,aD,cU,aq,r0,ne,r1,b0,mv,h]
theorem Eo{n l:Nat}(hn:n<=6)(b:Br)(hl:b.1.length=l){k p:Nat}(hb:Bd k p b.2)(hk:k+1<=300)(hp:p+400<=80000)(r:Rw)(hr:r.ok n l)(nl:r.isLook=false):aW [ik n b,ez r,fD "gone_on"]=some (ik n (h8 n r b)):=by
 have mark:∀m,m<l->∃v:Nat,b.1[m]? = some v/\aB (.tuple (b.1.map fun m=>PyData.int (m:Nat))) (.int (m:Int))=some (.int v):=fun m hm=>by
  have hm':m<b.1.length:=by omega
  exact⟨b.1[m],List.getElem?_eq_getElem hm',d7 (j:=m) rfl (by simp[hm'])⟩
 cases r with
 |pl r=>
  have g:=jU hn b hb hk hp r hr;cases r<;>exact En _ _ _ _ (at0 _ _) (cB (c:=false) (by simp)) g
 |look j=>cases nl
 |wflip m j=>
  obtain⟨v,e1,e2⟩:=mark m hr.1;have g:=jU hn b hb hk hp (.flip j) hr.2;refine zq _ _ _ _ _ m v (at0 _ _) (zB _ _ _) (IJ _ _ _ _) (at0 _ _) e2 (fun z=>?_) fun z=>?_
  ·have:h8 n (.wflip m j) b=(b.1,aO n b.2 (.flip j)):=if_pos (by rw[e1];congr 1;omega)
   rw[this];exact g
  ·have:h8 n (.wflip m j) b=b:=if_neg (by rw[e1];intro q;cases q;exact z rfl)
   rw[this]
 |wsign m j=>
  obtain⟨v,e1,e2⟩:=mark m hr.1;have g:=jU hn b hb hk hp (.turn j 4) ⟨hr.2,by decide,by decide⟩;refine zq _ _ _ _ _ m v (at0 _ _) (zB _ _ _) (IJ _ _ _ _) (at0 _ _) e2 (fun z=>?_) fun z=>?_
  ·have:h8 n (.wsign m j) b=(b.1,aO n b.2 (.turn j 4)):=if_pos (by rw[e1];congr 1;omega)
   rw[this];exact g
  ·have:h8 n (.wsign m j) b=b:=if_neg (by rw[e1];intro q;cases q;exact z rfl)
   rw[this]
noncomputable def bp(n:Nat):List Rw->List Br->List Br
 |[],bs=>bs
 |.look j::rs,bs=>bp n rs (bs.flatMap (cL n j))
 |r::rs,bs=>bp n rs (bs.map (h8 n r))
def d5(w:Nat):Nat->List Rw->Prop
 |_,[]=>True
 |l,r::rs=>r.ok w l/\d5 w (l+if r.isLook then 1 else 0) rs
structure BI (l k p:Nat) (bs:List Br):Prop where
 mks:∀b∈bs,b.1.length=l
 bd:∀b∈bs,Bd k p b.2
 ln:bs.length<=2^l
theorem uR{k p:Nat}{f:Nat->Nu}(h:Bd k p f)(w m:Nat):Bd k p (left f w m):=fun x=>by
 unfold left;split
 ·exact h x
 ·exact⟨Nat.zero_le _,Nat.zero_le _,Nat.zero_le _,Nat.zero_le _,Nat.zero_le _⟩
theorem BI.look{l k p:Nat}{bs:List Br}(h:BI l k p bs)(n j:Nat):BI (l+1) k p (bs.flatMap (cL n j)):=by
 have mem:∀b∈bs.flatMap (cL n j),∃a∈bs,∃m,b=(a.1++[m],left a.2 (wt n j) m):=fun b hb=>by
  obtain⟨a,ha,hb⟩:=List.mem_flatMap.mp hb;have:=(List.mem_filter.mp hb).1;simp only[List.mem_cons,List.not_mem_nil,or_false]at this;rcases this with rfl|rfl
  ·exact⟨a,ha,0,rfl⟩
  ·exact⟨a,ha,1,rfl⟩
 refine⟨fun b hb=>?_,fun b hb=>?_,?_⟩
 ·obtain⟨a,ha,m,rfl⟩:=mem b hb
  simp[h.mks a ha]
 ·obtain⟨a,ha,m,rfl⟩:=mem b hb
  exact uR (h.bd a ha) _ _
 ·have:∀cs:List Br,(cs.flatMap (cL n j)).length<=2*cs.length:=fun cs=>by
   induction cs with
   |nil=>exact Nat.le_refl _
   |cons c cs ih=>
    rw[List.flatMap_cons,List.length_append,List.length_cons];have:(cL n j c).length<=2:=List.length_filter_le _ _;omega
  have:=this bs;have:=h.ln;rw[Nat.pow_succ];omega
theorem BI.go{l k p:Nat}{bs:List Br}(h:BI l k p bs)(n:Nat)(r:Rw):BI l (k+1) (p+k+1) (bs.map (h8 n r)):=by
 have mem:∀b∈bs.map (h8 n r),b.1.length=l/\Bd (k+1) (p+k+1) b.2:=fun b hb=>by
  obtain⟨a,ha,rfl⟩:=List.mem_map.mp hb;have h1:=h.mks a ha;have h2:=h.bd a ha;have h3:=h2.mono (show k<=k+1 by omega) (show p<=p+k+1 by omega);cases r with
  |pl r=>exact⟨h1,h2.done n r⟩
  |look j=>exact⟨h1,h3⟩
  |wflip m j=>
   by_cases q:a.1[m]? = some 1
   ·rw[show h8 n (.wflip m j) a=(a.1,aO n a.2 (.flip j))from if_pos q];exact⟨h1,h2.done n _⟩
   ·rw[show h8 n (.wflip m j) a=a from if_neg q];exact⟨h1,h3⟩
  |wsign m j=>
   by_cases q:a.1[m]? = some 1
   ·rw[show h8 n (.wsign m j) a=(a.1,aO n a.2 (.turn j 4))from if_pos q];exact⟨h1,h2.done n _⟩
   ·rw[show h8 n (.wsign m j) a=a from if_neg q];exact⟨h1,h3⟩
 exact⟨fun b hb=>(mem b hb).1,fun b hb=>(mem b hb).2,by rw[List.length_map];exact h.ln⟩
theorem Gw(z0 z1 z3 z4:Sl)(R B:D)(ds es:List D)(j:Int)(r1:aB R (.int 1)=some (.int j))(h:dn [B,.int j]=some (.list es))(hl:ds.length+es.length<=sizeLine):cc [z0,z1,.fz (fD "parted"),z3,z4,.fz R,.ow ds,.fz B]=some (.nx,[z0,z1,.fz (fD "parted"),z3,z4,.fz R,.ow (ds++es),.fz B]):=by
 have c:fB 2 (ac (oV 7) (ac (o2 (oV 5) (oC (.int 1)) aB) (ak))) (("parted",dn)::[]) [z0,z1,.fz (fD "parted"),z3,z4,.fz R,.ow ds,.fz B]=some (.list es):=(mG (as:=[B,.int j]) rfl (by simp[r1])).trans h;have l:DR (.list es)=some es:=rfl;simp[cc,c,l,hl]
theorem rK{n j:Nat}(hn:n<=6)(hj:j<n)(z0 z1 z3 z4:Sl):∀(bs:List Br),(∀b∈bs,b.1.length<=900)->∀(ds:List D) (z7:Sl),ds.length+2*bs.length<=1000->∃y7,loop (gN 7) cc (bs.map (ik n)) [z0,z1,.fz (fD "parted"),z3,z4,.fz (.tuple [.str "look",.int (j:Nat)]),.ow ds,z7]=some (.nx,[z0,z1,.fz (fD "parted"),z3,z4,.fz (.tuple [.str "look",.int (j:Nat)]),.ow (ds++(bs.flatMap (cL n j)).map (ik n)),y7])
 |[],_,ds,z7,_=>⟨z7,by simp⟩
 |b::bs,hl,ds,z7,hs=>by
  have p2:(cL n j b).length<=2:=List.length_filter_le _ _;simp only[List.length_cons]at hs;obtain⟨y7,e⟩:=rK hn hj z0 z1 z3 z4 bs (fun c hc=>hl c (List.mem_cons_of_mem _ hc)) (ds++(cL n j b).map (ik n)) (.fz (ik n b)) (by rw[List.length_append,List.length_map];omega)
  refine⟨y7,?_⟩;rw[List.map_cons,bU (δ1:=[z0,z1,.fz (fD "parted"),z3,z4,.fz (.tuple [.str "look",.int (j:Nat)]),.ow ds,.fz (ik n b)]) (by simp) (Gw z0 z1 z3 z4 _ _ ds _ j (zB _ _ _) (vT hn hj b (hl b List.mem_cons_self)) (by rw[List.length_map];show _<=16777216;omega)),e];simp[List.flatMap_cons]
theorem yY(z0 z1 z3 z5 z6 z7 y7:Sl)(R:D)(bs es:List D)(r0:aB R (.int 0)=some (.str "look"))(lp:loop (gN 7) cc bs [z0,z1,.fz (fD "parted"),z3,.fz (.list bs),.fz R,.ow [],z7]=some (.nx,[z0,z1,.fz (fD "parted"),z3,.fz (.list bs),.fz R,.ow es,y7])):bn [z0,z1,.fz (fD "parted"),z3,.fz (.list bs),.fz R,z6,z7]=some (.nx,[z0,z1,.fz (fD "parted"),z3,.fz (.list es),.fz R,.fz (.list es),y7]):=by
 simp[-ap,-cw,aF,aZ,bn,r0,lp,wS]
theorem Ei(z0 z1 z2 z6 z7:Sl)(R G:D)(bs es:List D)(s:Str)(r0:aB R (.int 0)=some (.str s))(ne:bw (.str s) (.str "look")=some (.bool false))(p:d4 [z0,z1,z2,.fz G,.fz (.list bs),.fz R,z6,z7]=some (.list es)):bn [z0,z1,z2,.fz G,.fz (.list bs),.fz R,z6,z7]=some (.nx,[z0,z1,z2,.fz G,.fz (.list es),.fz R,z6,z7]):=by
 simp[-ap,-cw,aF,aZ,bn,r0,ne,p]
theorem J2{n l k p:Nat}(hn:n<=6){bs:List Br}(h:BI l k p bs)(hl:bs.length<=1000)(hk:k+1<=300)(hp:p+400<=80000)(r:Rw)(hr:r.ok n l)(nl:r.isLook=false)(z0 z1 z2 z6 z7:Sl):d4 [z0,z1,z2,.fz (fD "gone_on"),.fz (.list (bs.map (ik n))),.fz (ez r),z6,z7]=some (.list ((bs.map (h8 n r)).map (ik n))):=by
 rw[List.map_map];exact cg (h:=ik n) (k:=fun b=>ik n (h8 n r b)) (xs:=bs) (by simp) (by omega) fun b hb=>by
  have:=Eo hn b (h.mks b hb) (h.bd b hb) hk hp r hr nl;simp[capS,this]
theorem uz(r:Rw):∃s:Str,aB (ez r) (.int 0)=some (.str s)/\bw (.str s) (.str "look")=some (.bool r.isLook):=by
 cases r with
 |pl r=>cases r<;>exact⟨_,at0 _ _,by simp[Rw.isLook]⟩
 |look j=>exact⟨_,at0 _ _,by simp[Rw.isLook]⟩
 |wflip m j=>exact⟨_,at0 _ _,by simp[Rw.isLook]⟩
 |wsign m j=>exact⟨_,at0 _ _,by simp[Rw.isLook]⟩
theorem g9(n:Nat)(r:Rw)(rs:List Rw)(bs:List Br)(h:r.isLook=false):bp n (r::rs) bs=bp n rs (bs.map (h8 n r)):=by
 cases r with
 |look j=>cases h
 |pl r=>rfl
 |wflip m j=>rfl
 |wsign m j=>rfl
theorem pO{n:Nat}(hn:n<=6)(z0 z1:Sl):∀(rs:List Rw) (l k p:Nat) (bs:List Br),d5 n l rs->BI l k p bs->l<=6->k+rs.length<=300->p+400*rs.length<=80000->∀z5 z6 z7,∃y5 y6 y7,loop (gN 5) bn (rs.map ez) [z0,z1,.fz (fD "parted"),.fz (fD "gone_on"),.fz (.list (bs.map (ik n))),z5,z6,z7]=some (.nx,[z0,z1,.fz (fD "parted"),.fz (fD "gone_on"),.fz (.list ((bp n rs bs).map (ik n))),y5,y6,y7])
 |[],l,k,p,bs,_,_,_,_,_,z5,z6,z7=>⟨z5,z6,z7,rfl⟩
 |r::rs,l,k,p,bs,ho,hb,hl,hk,hp,z5,z6,z7=>by
  simp only[List.length_cons]at hk hp;have l64:bs.length<=64:=Nat.le_trans hb.ln (Nat.pow_le_pow_right (by decide) hl:2^l<=2^6);cases hr:r.isLook with
  |true=>
   cases r with
   |look j=>
    obtain⟨hj,h6⟩:=ho.1;obtain⟨y7,e⟩:=rK hn hj z0 z1 (.fz (fD "gone_on")) (.fz (.list (bs.map (ik n)))) bs (fun b hb'=>by rw[hb.mks b hb'];omega) [] z7 (by simp;omega);rw[List.nil_append]at e;have st:=yY z0 z1 (.fz (fD "gone_on")) z5 z6 z7 y7 (.tuple [.str "look",.int (j:Nat)]) _ _ (at0 _ _) e;obtain⟨y5,y6,y7',e2⟩:=pO hn z0 z1 rs (l+1) k p (bs.flatMap (cL n j)) ho.2 (hb.look n j) (by omega) (by omega) (by omega) (.fz (.tuple [.str "look",.int (j:Nat)])) (.fz (.list ((bs.flatMap (cL n j)).map (ik n)))) y7;exact⟨y5,y6,y7',by rw[List.map_cons,bU (δ1:=[z0,z1,.fz (fD "parted"),.fz (fD "gone_on"),.fz (.list (bs.map (ik n))),.fz (.tuple [.str "look",.int (j:Nat)]),z6,z7]) (by simp[ez]) st];exact e2⟩
   |pl r=>cases hr
   |wflip m j=>cases hr
   |wsign m j=>cases hr
  |false=>
   obtain⟨s,r0,ne⟩:=uz r;rw[hr]at ne;have st:=Ei z0 z1 (.fz (fD "parted")) z6 z7 (ez r) (fD "gone_on") _ _ s r0 ne (J2 hn hb (by omega) (by omega) (by omega) r ho.1 hr z0 z1 _ z6 z7);have ho2:=ho.2;rw[hr]at ho2;obtain⟨y5,y6,y7',e2⟩:=pO hn z0 z1 rs l (k+1) (p+k+1) (bs.map (h8 n r)) ho2 (hb.go n r) hl (by omega) (by omega) (.fz (ez r)) z6 z7;exact⟨y5,y6,y7',by rw[List.map_cons,bU (δ1:=[z0,z1,.fz (fD "parted"),.fz (fD "gone_on"),.fz (.list (bs.map (ik n))),.fz (ez r),z6,z7]) (by simp) st,g9 n r rs bs hr];exact e2⟩
theorem Im(R B:D)(L:List D)(y5 y6 y7:Sl)(es:List D)(it:df R=some L)(lp:loop (gN 5) bn L [.fz R,.fz B,.fz (fD "parted"),.fz (fD "gone_on"),.fz (.list [B]),.un,.un,.un]=some (.nx,[.fz R,.fz B,.fz (fD "parted"),.fz (fD "gone_on"),.fz (.list es),y5,y6,y7])):bA [R,B,fD "parted",fD "gone_on"]=some (.list es):=by
 simp[-ap,-cw,aF,aZ,bA,aD,eR,aq,it,lp]
theorem IG(C R B T:D)(n p:Int)(X:D)(c0:aB C (.int 0)=some (.int n))(c1:aB C (.int 1)=some R)(b:bJ [.int n,.int p]=some X)(g:bA [R,.tuple [.tuple [],X],fD "parted",fD "gone_on"]=some T):b7 [C,.int p]=some T:=by
 simp[b7,aD,iK,aq,c0,c1,b,g]
noncomputable def CO(w:Nat)(rs:List Rw):D:=.tuple [.int w,.tuple (rs.map ez)]
noncomputable def fV(n p:Nat)(rs:List Rw):List Br:=bp n rs [([],MA.bz p)]
theorem r8{n:Nat}(hn:n<=6)(p:Nat)(rs:List Rw)(ho:d5 n 0 rs)(hl:rs.length<=150):b7 [CO n rs,.int p]=some (.list ((fV n p rs).map (ik n))):=by
 have hb:BI 0 0 0 [(([]:List Nat),MA.bz p)]:=⟨fun b hb=>by simp only[List.mem_cons,List.not_mem_nil,or_false]at hb;subst hb;rfl,fun b hb=>by simp only[List.mem_cons,List.not_mem_nil,or_false]at hb;subst hb;exact sR p,Nat.le_refl _⟩
 obtain⟨y5,y6,y7,e⟩:=pO hn (.fz (.tuple (rs.map ez))) (.fz (ik n ([],MA.bz p))) rs 0 0 0 [([],MA.bz p)] ho hb (by omega) (by omega) (by omega) .un .un .un;exact IG _ _ .none _ n p _ (at0 _ _) (zB _ _ _) (zw hn p) (Im _ _ _ y5 y6 y7 _ rfl e)
theorem BP{d:D}{k:Nat}(h:MA.Sh k d)(hk:k<=64):bw d d=some (.bool true):=by
 have hs:vF d=true:=by
  show(d.canLay0&&decide (d.depth<=64))=true;rw[h.1,decide_eq_true (Nat.le_trans h.2 hk)];rfl
 unfold bw;rw[if_pos ⟨hs,hs⟩,MA.mz d h.1]
theorem A7{d:D}{k:Nat}(h:MA.Sh k d)(hk:k<=64):neD d d=some (.bool false):=by
 have hs:vF d=true:=by
  show(d.canLay0&&decide (d.depth<=64))=true;rw[h.1,decide_eq_true (Nat.le_trans h.2 hk)];rfl
 unfold neD;rw[if_pos ⟨hs,hs⟩,MA.mz d h.1];rfl
noncomputable def eL(M n:Nat):List Br->MA.S2
 |[]=>⟨0,0⟩
 |b::bs=>MA.S2.add (MA.dA M n b.2) (eL M n bs)
theorem uy(x:MA.S2):MA.S2.add ⟨0,0⟩ x=x:=by apply MA.S2.ext'<;>simp[MA.S2.add]
theorem xI(x y z:MA.S2):MA.S2.add (MA.S2.add x y) z=MA.S2.add x (MA.S2.add y z):=by apply MA.S2.ext'<;>simp only[MA.S2.add]<;>omega
theorem rZ(M n:Nat):∀as bs:List Br,eL M n (as++bs)=MA.S2.add (eL M n as) (eL M n bs)
 |[],bs=>(uy _).symm
 |a::as,bs=>by show MA.S2.add _ (eL M n (as++bs))=MA.S2.add (MA.S2.add _ _) _;rw[rZ M n as bs,xI]
theorem ui(M:Nat):MA.val M EJ=⟨0,0,0,0⟩:=MA.wX M
theorem jc(M:Nat):MA.dF (MA.val M EJ)=⟨0,0⟩:=by rw[ui];rfl
theorem nI(N:Nat)(F:Nat->Int)(h:∀p,p<N->F p=0):MA.ba N F=0:=by
 induction N with
 |zero=>rfl
 |succ N ih=>show MA.ba N F+F N=0;rw[ih fun p hp=>h p (by omega),h N (by omega)];rfl
theorem jb{M n:Nat}{f:Nat->Nu}(h:kR n f=true):MA.dA M n f=⟨0,0⟩:=by
 have z:∀p,p<2^n->f p=EJ:=fun p hp=>(jC _).mp (List.all_eq_true.mp h p (List.mem_range.mpr hp))
 apply MA.S2.ext'
 ·exact nI _ _ fun p hp=>by rw[z p hp,jc]
 ·exact nI _ _ fun p hp=>by rw[z p hp,jc]
theorem wa(M n w:Nat)(f:Nat->Nu):MA.S2.add (MA.dA M n (left f w 0)) (MA.dA M n (left f w 1))=MA.dA M n f:=by
 have e:∀p,MA.S2.add (MA.dF (MA.val M (left f w 0 p))) (MA.dF (MA.val M (left f w 1 p)))=MA.dF (MA.val M (f p)):=fun p=>by
  have b:=MA.cO w p;unfold left;by_cases q:bO w p=0
  ·rw[if_pos q,if_neg (by omega),jc];apply MA.S2.ext'<;>simp[MA.S2.add]
  ·rw[if_neg q,if_pos (by omega),jc];apply MA.S2.ext'<;>simp[MA.S2.add]
 apply MA.S2.ext'
 ·show MA.ba _ _+MA.ba _ _=MA.ba _ _
  rw[<-MA.iV];exact MA.be _ fun p _=>congrArg MA.S2.p (e p)
 ·show MA.ba _ _+MA.ba _ _=MA.ba _ _
  rw[<-MA.iV];exact MA.be _ fun p _=>congrArg MA.S2.q (e p)
theorem wH(M n j:Nat)(b:Br):eL M n (cL n j b)=MA.dA M n b.2:=by
 have h:=wa M n (wt n j) b.2;rw[<-h];unfold cL;have a0:∀x:MA.S2,MA.S2.add x ⟨0,0⟩=x:=fun x=>by apply MA.S2.ext'<;>simp[MA.S2.add]
 cases h0:kR n (left b.2 (wt n j) 0)with
 |true=>
  rw[jb h0];cases h1:kR n (left b.2 (wt n j) 1)with
  |true=>rw[jb h1];simp[List.filter,h0,h1,eL,MA.S2.add]
  |false=>simp only[List.filter,h0,h1,eL,Bool.not_true,Bool.not_false,a0,uy]
 |false=>
  cases h1:kR n (left b.2 (wt n j) 1)with
  |true=>rw[jb h1];simp only[List.filter,h0,h1,eL,Bool.not_true,Bool.not_false,a0]
  |false=>simp only[List.filter,h0,h1,eL,Bool.not_false,a0]
theorem ox(M n j:Nat):∀bs:List Br,eL M n (bs.flatMap (cL n j))=eL M n bs
 |[]=>rfl
 |b::bs=>by rw[List.flatMap_cons,rZ,ox M n j bs,wH];rfl
theorem vf{M n k p:Nat}(hk:k+1<=M){r:Rw}{l:Nat}(hr:r.ok n l):∀bs:List Br,(∀b∈bs,Bd k p b.2)->eL M n (bs.map (h8 n r))=eL M n bs
 |[],_=>rfl
 |b::bs,h=>by
  have hb:=h b List.mem_cons_self;have d:∀q:Row,q.ok n->MA.dA M n (aO n b.2 q)=MA.dA M n b.2:=fun q hq=>MA.nV q hq b.2 fun x=>by have:=(hb x).1;omega
  have e:MA.dA M n (h8 n r b).2=MA.dA M n b.2:=by
   cases r with
   |pl q=>exact d q hr
   |look j=>rfl
   |wflip m j=>
    by_cases q:b.1[m]? = some 1
    ·rw[show h8 n (.wflip m j) b=(b.1,aO n b.2 (.flip j))from if_pos q];exact d _ hr.2
    ·rw[show h8 n (.wflip m j) b=b from if_neg q]
   |wsign m j=>
    by_cases q:b.1[m]? = some 1
    ·rw[show h8 n (.wsign m j) b=(b.1,aO n b.2 (.turn j 4))from if_pos q];exact d _ ⟨hr.2,by decide,by decide⟩
    ·rw[show h8 n (.wsign m j) b=b from if_neg q]
  show MA.S2.add (MA.dA M n (h8 n r b).2) (eL M n (bs.map (h8 n r)))=_;rw[e,vf hk hr bs fun c hc=>h c (List.mem_cons_of_mem _ hc)]
  rfl
theorem g8{n M:Nat}:∀(rs:List Rw) (l k p:Nat) (bs:List Br),d5 n l rs->BI l k p bs->k+rs.length<=M->eL M n (bp n rs bs)=eL M n bs
 |[],_,_,_,_,_,_,_=>rfl
 |r::rs,l,k,p,bs,ho,hb,hk=>by
  simp only[List.length_cons]at hk;cases hr:r.isLook with
  |true=>
   cases r with
   |look j=>
    show eL M n (bp n rs (bs.flatMap (cL n j)))=_;rw[g8 rs (l+1) k p _ ho.2 (hb.look n j) (by omega),ox]
   |pl r=>cases hr
   |wflip m j=>cases hr
   |wsign m j=>cases hr
  |false=>
   have h2:=ho.2;rw[hr]at h2;rw[g9 n r rs bs hr,g8 rs l (k+1) (p+k+1) _ h2 (hb.go n r) (by omega),vf (by omega) ho.1 bs hb.bd]
noncomputable def kn(n j:Nat)(b:Br):List Br:=[(b.1++[0],left b.2 (wt n j) 0),(b.1++[1],left b.2 (wt n j) 1)]
noncomputable def jl(n:Nat):List Rw->List Br->List Br
 |[],bs=>bs
 |.look j::rs,bs=>jl n rs (bs.flatMap (kn n j))
 |r::rs,bs=>jl n rs (bs.map (h8 n r))
noncomputable def nc(n:Nat)(b:Br):Bool:=!kR n b.2
theorem mh{M n:Nat}{f:Nat->Nu}(hl:∀x,MA.b9 (f x))(hM:∀x,(f x).2<=M):kR n f=true↔(MA.dA M n f).p=0:=by
 constructor
 ·intro h;rw[jb h]
 ·intro h
  have nn:∀x,0<=(MA.dF (MA.val M (f x))).p:=fun x=>by
   show 0<=_*_+_*_+_*_+_*_;have q:∀z:Int,0<=z*z:=fun z=>by
    rcases Int.le_total 0 z with h|h
    ·exact Int.mul_nonneg h h
    ·exact Int.mul_nonneg_of_nonpos_of_nonpos h h
   have:=q (MA.val M (f x)).a;have:=q (MA.val M (f x)).b;have:=q (MA.val M (f x)).c;have:=q (MA.val M (f x)).d;omega
  have all:∀N,MA.ba N (fun p=>(MA.dF (MA.val M (f p))).p)=0->∀x,x<N->(MA.dF (MA.val M (f x))).p=0:=fun N=>by
   have ps:∀K,0<=MA.ba K (fun p=>(MA.dF (MA.val M (f p))).p):=fun K=>by
    induction K with
    |zero=>exact Int.le_refl _
    |succ K ih=>show 0<=MA.ba K _+(MA.dF (MA.val M (f K))).p;have:=nn K;omega
   induction N with
   |zero=>intro _ x hx;omega
   |succ N ih=>
    intro e x hx;have e:MA.ba N (fun p=>(MA.dF (MA.val M (f p))).p)+(MA.dF (MA.val M (f N))).p=0:=e
    have:=ps N;have:=nn N;by_cases z:x=N
    ·subst z;omega
    ·exact ih (by omega) x (by omega)
  refine List.all_eq_true.mpr fun x hx=>(jC _).mpr ?_
  have:=MA.yl (all _ h x (List.mem_range.mp hx));exact MA.An (M:=M) (hl x) (MA.jJ 0 1) (hM x) (Nat.zero_le _) (by rw[this];exact(ui M).symm)
structure FI (k p:Nat) (bs:List Br):Prop where
 bd:∀b∈bs,Bd k p b.2
 ls:∀b∈bs,∀x,MA.b9 (b.2 x)
theorem tm{f:Nat->Nu}(h:∀x,MA.b9 (f x))(w m x:Nat):MA.b9 (left f w m x):=by
 unfold left;split
 ·exact h x
 ·exact MA.jJ 0 1
theorem FI.look{k p:Nat}{bs:List Br}(h:FI k p bs)(n j:Nat):FI k p (bs.flatMap (kn n j)):=by
 have mem:∀b∈bs.flatMap (kn n j),∃a∈bs,∃m,b=(a.1++[m],left a.2 (wt n j) m):=fun b hb=>by
  obtain⟨a,ha,hb⟩:=List.mem_flatMap.mp hb;unfold kn at hb;simp only[List.mem_cons,List.not_mem_nil,or_false]at hb;rcases hb with rfl|rfl
  ·exact⟨a,ha,0,rfl⟩
  ·exact⟨a,ha,1,rfl⟩
 refine⟨fun b hb=>?_,fun b hb=>?_⟩
 ·obtain⟨a,ha,m,rfl⟩:=mem b hb;exact uR (h.bd a ha) _ _
 ·obtain⟨a,ha,m,rfl⟩:=mem b hb;exact tm (h.ls a ha) _ _
theorem tK(n:Nat)(r:Rw)(b:Br):(h8 n r b=b)\/∃q:Row,h8 n r b=(b.1,aO n b.2 q)/\∀l,r.ok n l->q.ok n:=by
 cases r with
 |pl q=>exact .inr ⟨q,rfl,fun _ h=>h⟩
 |look j=>exact .inl rfl
 |wflip m j=>
  by_cases q:b.1[m]? = some 1
  ·exact .inr ⟨.flip j,if_pos q,fun _ h=>h.2⟩
  ·exact .inl (if_neg q)
 |wsign m j=>
  by_cases q:b.1[m]? = some 1
  ·exact .inr ⟨.turn j 4,if_pos q,fun _ h=>⟨h.2,by decide,by decide⟩⟩
  ·exact .inl (if_neg q)
theorem FI.go{k p:Nat}{bs:List Br}(h:FI k p bs)(n:Nat)(r:Rw):FI (k+1) (p+k+1) (bs.map (h8 n r)):=by
 refine⟨fun b hb=>?_,fun b hb=>?_⟩
 ·obtain⟨a,ha,rfl⟩:=List.mem_map.mp hb
  rcases tK n r a with e|⟨q,e,_⟩
  ·rw[e];exact(h.bd a ha).mono (by omega) (by omega)
  ·rw[e];exact(h.bd a ha).done n q
 ·obtain⟨a,ha,rfl⟩:=List.mem_map.mp hb
  rcases tK n r a with e|⟨q,e,_⟩
  ·rw[e];exact h.ls a ha
  ·rw[e];exact MA.mD (h.ls a ha) n q
theorem Eg{n k p l:Nat}{b:Br}(hb:Bd k p b.2)(hl:∀x,MA.b9 (b.2 x))(r:Rw)(hr:r.ok n l):kR n (h8 n r b).2=kR n b.2:=by
 rcases tK n r b with e|⟨q,e,hq⟩
 ·rw[e]
 ·rw[e,Bool.eq_iff_iff,mh (M:=k+1) (MA.mD hl n q) (fun x=>(hb.done n q x).1),mh (M:=k+1) hl (fun x=>by have:=(hb x).1;omega),MA.nV q (hq l hr) b.2 fun x=>by have:=(hb x).1;omega]
theorem yQ{n:Nat}{f:Nat->Nu}(h:kR n f=true)(w m:Nat):kR n (left f w m)=true:=by
 refine List.all_eq_true.mpr fun x hx=>?_
 have:=List.all_eq_true.mp h x hx;unfold left;split
 ·exact this
 ·rfl
theorem ko(n j:Nat):∀bs:List Br,(bs.filter (nc n)).flatMap (cL n j)=(bs.flatMap (kn n j)).filter (nc n)
 |[]=>rfl
 |b::bs=>by
  have ih:=ko n j bs;rw[List.flatMap_cons,List.filter_append,<-ih];cases h:nc n b with
  |true=>rw[List.filter_cons_of_pos h,List.flatMap_cons];rfl
  |false=>
   rw[List.filter_cons_of_neg (by rw[h];decide)];have z:kR n b.2=true:=by unfold nc at h;simpa using h
   have:(kn n j b).filter (nc n)=[]:=by
    unfold kn nc;simp[List.filter,yQ z]
   rw[this,List.nil_append]
theorem oi{n k p l:Nat}(r:Rw)(hr:r.ok n l):∀bs:List Br,FI k p bs->(bs.filter (nc n)).map (h8 n r)=(bs.map (h8 n r)).filter (nc n)
 |[],_=>rfl
 |b::bs,h=>by
  have ih:=oi r hr bs ⟨fun c hc=>h.bd c (List.mem_cons_of_mem _ hc),fun c hc=>h.ls c (List.mem_cons_of_mem _ hc)⟩
  have e:nc n (h8 n r b)=nc n b:=by
   unfold nc;rw[Eg (h.bd b List.mem_cons_self) (h.ls b List.mem_cons_self) r hr]
  rw[List.map_cons];cases q:nc n b with
  |true=>rw[List.filter_cons_of_pos q,List.map_cons,List.filter_cons_of_pos (e.trans q),ih]
  |false=>rw[List.filter_cons_of_neg (by rw[q];decide),List.filter_cons_of_neg (by rw[e,q];decide),ih]
theorem rL(n:Nat)(r:Rw)(rs:List Rw)(bs:List Br)(h:r.isLook=false):jl n (r::rs) bs=jl n rs (bs.map (h8 n r)):=by
 cases r with
 |look j=>cases h
 |pl r=>rfl
 |wflip m j=>rfl
 |wsign m j=>rfl
theorem gB{n:Nat}:∀(rs:List Rw) (l k p:Nat) (bs:List Br),d5 n l rs->FI k p bs->bp n rs (bs.filter (nc n))=(jl n rs bs).filter (nc n)
 |[],_,_,_,_,_,_=>rfl
 |r::rs,l,k,p,bs,ho,h=>by
  cases hr:r.isLook with
  |true=>
   cases r with
   |look j=>
    show bp n rs ((bs.filter (nc n)).flatMap (cL n j))=(jl n rs (bs.flatMap (kn n j))).filter (nc n);rw[ko,gB rs (l+1) k p _ ho.2 (h.look n j)]
   |pl r=>cases hr
   |wflip m j=>cases hr
   |wsign m j=>cases hr
  |false=>
   have h2:=ho.2;rw[hr]at h2;rw[g9 n r rs _ hr,rL n r rs _ hr,oi r ho.1 bs h,gB rs l (k+1) (p+k+1) _ h2 (h.go n r)]
theorem gD(n:Nat):∀(as bs:List Rw) (cs:List Br),bp n (as++bs) cs=bp n bs (bp n as cs)
 |[],bs,cs=>rfl
 |a::as,bs,cs=>by
  cases a with
  |look j=>exact gD n as bs _
  |pl r=>exact gD n as bs _
  |wflip m j=>exact gD n as bs _
  |wsign m j=>exact gD n as bs _
theorem AW{M n p:Nat}(hp:p<2^n):MA.dA M n (MA.bz p)=MA.S2.sc M ⟨1,0⟩:=by
 have e:∀x,MA.dF (MA.val M (MA.bz p x))=if x=p then MA.S2.sc M ⟨1,0⟩else ⟨0,0⟩:=fun x=>by
  unfold MA.bz;by_cases h:x=p
  ·rw[if_pos h,if_pos h];exact MA.pE _ _
  ·rw[if_neg h,if_neg h];exact jc M
 have one:∀(c:Int) (N:Nat),MA.ba N (fun x=>if x=p then c else 0)=if p<N then c else 0:=fun c N=>by
  induction N with
  |zero=>rfl
  |succ N ih=>
   show MA.ba N _+(if N=p then c else 0)=_;rw[ih];by_cases h:N=p
   ·rw[if_pos h,if_neg (by omega),if_pos (by omega),Int.zero_add]
   ·rw[if_neg h,Int.add_zero]
    by_cases h2:p<N
    ·rw[if_pos h2,if_pos (by omega)]
    ·rw[if_neg h2,if_neg (by omega)]
 apply MA.S2.ext'
 ·have:MA.ba (2^n) (fun x=>(MA.dF (MA.val M (MA.bz p x))).p)=MA.ba (2^n) (fun x=>if x=p then(MA.S2.sc M ⟨1,0⟩).p else 0):=MA.be _ fun x _=>by rw[e x];split<;>rfl
  exact this.trans ((one _ _).trans (if_pos hp))
 ·have:MA.ba (2^n) (fun x=>(MA.dF (MA.val M (MA.bz p x))).q)=MA.ba (2^n) (fun x=>if x=p then(MA.S2.sc M ⟨1,0⟩).q else 0):=MA.be _ fun x _=>by rw[e x];split<;>rfl
  exact this.trans ((one _ _).trans (if_pos hp))
theorem oS{n:Nat}:∀(rs:List Rw) (l k p:Nat) (bs:List Br),d5 n l rs->BI l k p bs->∃k' p',BI (l+(rs.filter Rw.isLook).length) k' p' (bp n rs bs)
 |[],l,k,p,bs,_,h=>⟨k,p,h⟩
 |r::rs,l,k,p,bs,ho,h=>by
  cases hr:r.isLook with
  |true=>
   cases r with
   |look j=>
    obtain⟨k',p',e⟩:=oS rs (l+1) k p _ ho.2 (h.look n j);refine⟨k',p',?_⟩;rw[List.filter_cons_of_pos hr,List.length_cons,show l+((rs.filter Rw.isLook).length+1)=l+1+(rs.filter Rw.isLook).length by omega];exact e
   |pl r=>cases hr
   |wflip m j=>cases hr
   |wsign m j=>cases hr
  |false=>
   have ho2:=ho.2;rw[hr]at ho2;obtain⟨k',p',e⟩:=oS rs l (k+1) (p+k+1) _ ho2 (h.go n r);refine⟨k',p',?_⟩;rw[List.filter_cons_of_neg (by rw[hr];decide),g9 n r rs bs hr];exact e
theorem II(p:Nat):BI 0 0 0 [(([]:List Nat),MA.bz p)]:=⟨fun b hb=>by simp only[List.mem_cons,List.not_mem_nil,or_false]at hb;subst hb;rfl,fun b hb=>by simp only[List.mem_cons,List.not_mem_nil,or_false]at hb;subst hb;exact sR p,Nat.le_refl _⟩
theorem mH{n:Nat}(p:Nat)(rs:List Rw)(ho:d5 n 0 rs):∃k' p',BI (rs.filter Rw.isLook).length k' p' (fV n p rs):=by
 obtain⟨k',p',e⟩:=oS rs 0 0 0 _ ho (II p);rw[Nat.zero_add]at e;exact⟨k',p',e⟩
theorem jN{n:Nat}:∀(rs:List Rw) (l:Nat),d5 n l rs->l<=6->l+(rs.filter Rw.isLook).length<=6
 |[],l,_,h=>by simpa using h
 |r::rs,l,ho,h=>by
  cases hr:r.isLook with
  |true=>
   cases r with
   |look j=>
    have:=jN rs (l+1) ho.2 (by have:=ho.1.2;omega);rw[List.filter_cons_of_pos hr,List.length_cons];omega
   |pl r=>cases hr
   |wflip m j=>cases hr
   |wsign m j=>cases hr
  |false=>
   have h2:=ho.2;rw[hr]at h2;rw[List.filter_cons_of_neg (by rw[hr];decide)];exact jN rs l h2 h
noncomputable def wh(n:Nat)(b:Br):D:=(cX [fW n b.2]).getD .none
noncomputable def shD(n:Nat)(b:Br):D:=.tuple [.tuple (b.1.map fun m=>PyData.int (m:Nat)),wh n b]
theorem E2{n k p M:Nat}(hn:n<=6){b:Br}(hb:Bd k p b.2)(hl:∀x,MA.b9 (b.2 x))(hk:k<=M)(hM:M<=300)(hp:p<=90000):cX [fW n b.2]=some (wh n b)/\Vs 300000 k (wh n b) (MA.dA M n b.2) M:=by
 obtain⟨t,e,v⟩:=wW (M:=M) (r:=k) hn hl (fun q=>(hb q).2) (fun q=>(hb q).1) hk (by omega) hp
 have:wh n b=t:=by unfold wh;rw[e];rfl
 rw[this];exact⟨e,v⟩
theorem HY(C:D)(p:Int)(n:Nat)(bs:List Br)(hl:bs.length<=1000)(h:b7 [C,.int p]=some (.list (bs.map (ik n))))(hw:∀b∈bs,cX [fW n b.2]=some (wh n b)):aT [C,.int p]=some (.list (bs.map (shD n))):=by
 have e:gH [.fz C,.fz (.int p)]=some (.list (bs.map (shD n))):=cg (h:=ik n) (k:=shD n) (xs:=bs) (by simp[h]) (by omega) fun b hb=>by
  have b0:aB (ik n b) (.int 0)=some (.tuple (b.1.map fun m=>PyData.int (m:Nat))):=rfl
  have b1:aB (ik n b) (.int 1)=some (fW n b.2):=rfl;have w:=hw b hb;simp[capS,b0,b1,w,shD]
 simp[aT,aD,fG,aq,e]
theorem yp(c:Int):∃T:Nat,cD [.int c,.int 2147483647]=some (.int T):=by
 have h0:0<=c%1000003:=Int.emod_nonneg _ (by decide);have h1:c%1000003<1000003:=Int.emod_lt_of_pos _ (by decide);have m:IntMulOk (c%1000003+11) (c%1000003+48271):=.of_left (Nat.le_trans (MA.jt (m:=21) (by omega)) (by decide));have h2:0<=(c%1000003+11)*(c%1000003+48271)%2147483647:=Int.emod_nonneg _ (by decide);refine⟨((c%1000003+11)*(c%1000003+48271)%2147483647).toNat,?_⟩;rw[Int.toNat_of_nonneg h2];simp[-ap,-cw,aF,aZ,cD,aD,gS,aq,m]
theorem Fz(m:Int)(h1:7<m)(h2:m<13):∃s:Str,ip [PyData.str "tie",.str "sign",.str "cross",.str "tie",.str "sign"] (m-8)=some (.str s)/\(s = "tie" \/ s = "sign" \/ s = "cross"):=by
 have:m=8\/m=9\/m=10\/m=11\/m=12:=by omega
 rcases this with h|h|h|h|h<;>subst h
 ·exact⟨"tie",at0 _ _,.inl rfl⟩
 ·exact⟨"sign",zB _ _ _,.inr (.inl rfl)⟩
 ·exact⟨"cross",IJ _ _ _ _,.inr (.inr rfl)⟩
 ·exact⟨"tie",J4 _ _ _ _ _,.inl rfl⟩
 ·exact⟨"sign",J3 _ _ _ _ _ _,.inr (.inl rfl)⟩
section
variable(c w l T j t i mx q:Int)(hm0:0<=c%16)(hm1:c%16<16)(hT:cD [.int c,.int 2147483647]=some (.int T))(hj:b5 (.int (T/7/16)) (.int w)=some (.int j))(hx:ng [.int 1,.int (w-1)]=some (.int mx))(ht:b5 (.int (T/7/96)) (.int mx)=some (.int t))(hi:b5 (.int (j+1+t)) (.int w)=some (.int i))
include hT hj hx ht hi
theorem s9(p:Bool)(h:c%16<4):aE [.int c,.int w,.int l,.bool p]=some (.tuple [.str "swing",.int j]):=by
 simp[-ap,-cw,aF,aZ,-bT,aE,aD,bD,aq,hT,hj,hx,ht,hi,h]
theorem wf(p:Bool)(h:¬c%16<4)(h2:c%16<7):aE [.int c,.int w,.int l,.bool p]=some (.tuple [.str "turn",.int j,.int (1+T/7/600%7)]):=by
 simp[-ap,-cw,aF,aZ,-bT,aE,aD,bD,aq,hT,hj,hx,ht,hi,h,h2]
theorem yq(p:Bool)(h:¬c%16<4)(h2:¬c%16<7)(h3:7<c%16)(h4:c%16<13)(h5:1<w)(s:D)(hs:ip [PyData.str "tie",.str "sign",.str "cross",.str "tie",.str "sign"] (c%16-8)=some s):aE [.int c,.int w,.int l,.bool p]=some (.tuple [s,.int i,.int j]):=by
 simp[-ap,-cw,aF,aZ,-bT,aE,aD,bD,aq,hT,hj,hx,ht,hi,h,h2,h3,h4,h5,v6,hs]
theorem wj(p:Bool)(h:¬c%16<4)(h2:¬c%16<7)(h3:¬(7<c%16/\c%16<13/\1<w))(h4:c%16=7\/p=true):aE [.int c,.int w,.int l,.bool p]=some (.tuple [.str "flip",.int j]):=by
 by_cases a:7<c%16
 ·by_cases b:c%16<13
  ·have d:¬ 1<w:=fun z=>h3 ⟨a,b,z⟩
   have e:¬c%16=7:=by omega
   have f:p=true:=by rcases h4 with z|z;exact absurd z e;exact z
   simp[-ap,-cw,aF,aZ,-bT,aE,aD,bD,aq,hT,hj,hx,ht,hi,h,h2,a,b,d,e,f,v6]
  ·have e:¬c%16=7:=by omega
   have f:p=true:=by rcases h4 with z|z;exact absurd z e;exact z
   simp[-ap,-cw,aF,aZ,-bT,aE,aD,bD,aq,hT,hj,hx,ht,hi,h,h2,a,b,e,f,v6]
 ·have e:c%16=7:=by omega
  simp[-ap,-cw,aF,aZ,-bT,aE,aD,bD,aq,hT,hj,hx,ht,hi,e,v6]
theorem wg(h:¬c%16<4)(h2:¬c%16<7)(h3:¬(7<c%16/\c%16<13/\1<w))(h4:¬c%16=7)(h5:l<6)(h6:c%16<14\/l=0):aE [.int c,.int w,.int l,.bool false]=some (.tuple [.str "look",.int j]):=by
 have a:7<c%16:=by omega
 have k:(pD (ob (v6 (oC (.int 7)) (o2 (oV 0) (oC (.int 16)) b5) (oC (.int 13)) sA sA)) (ob (o2 (oV 1) (oC (.int 1)) G9))) [.fz (.int c),.fz (.int w),.fz (.int l),.fz (.bool false),.fz (.int (T/7)),.fz (.int j),.fz (.int i)]=some false:=by
  by_cases b:c%16<13
  ·have d:¬ 1<w:=fun z=>h3 ⟨a,b,z⟩
   simp[v6,a,b,d]
  ·simp[v6,a,b]
 rcases h6 with z|z
 ·simp[-ap,-cw,aF,aZ,-pD,-bT,aE,aD,bD,aq,hT,hj,hx,ht,hi,h,h2,k,h4]
  simp[h5,z]
 ·simp[-ap,-cw,aF,aZ,-pD,-bT,aE,aD,bD,aq,hT,hj,hx,ht,hi,h,h2,k,h4]
  simp[h5,z]
theorem lU(h:¬c%16<4)(h2:¬c%16<7)(h3:¬(7<c%16/\c%16<13/\1<w))(h4:¬c%16=7)(h5:¬(l<6/\(c%16<14\/l=0)))(h6:¬l=0)(hq:b5 (.int (T/7/4200)) (.int l)=some (.int q))(s:D)(hs:ip [PyData.tuple [.str "flip",.int j],.tuple [.str "turn",.int j,.int 4]] (T/7/29400%2)=some s):aE [.int c,.int w,.int l,.bool false]=some (.tuple [.str "where",.int q,s]):=by
 have a:7<c%16:=by omega
 have k:(pD (ob (v6 (oC (.int 7)) (o2 (oV 0) (oC (.int 16)) b5) (oC (.int 13)) sA sA)) (ob (o2 (oV 1) (oC (.int 1)) G9))) [.fz (.int c),.fz (.int w),.fz (.int l),.fz (.bool false),.fz (.int (T/7)),.fz (.int j),.fz (.int i)]=some false:=by
  by_cases b:c%16<13
  ·have d:¬ 1<w:=fun z=>h3 ⟨a,b,z⟩
   simp[v6,a,b,d]
  ·simp[v6,a,b]
 have k2:(pD (ob (o2 (oV 2) (oC (.int 6)) sA)) (uL (ob (o2 (o2 (oV 0) (oC (.int 16)) b5) (oC (.int 14)) sA)) (ob (o2 (oV 2) (oC (.int 0)) bw)))) [.fz (.int c),.fz (.int w),.fz (.int l),.fz (.bool false),.fz (.int (T/7)),.fz (.int j),.fz (.int i)]=some false:=by
  by_cases b:l<6
  ·have d:¬c%16<14:=fun z=>h5 ⟨b,.inl z⟩
   simp[b,d,h6]
  ·simp[b]
 have h6':(l==0)=false:=by simpa using h6
 simp[-ap,-cw,aF,aZ,-pD,-bT,aE,aD,bD,aq,hT,hj,hx,ht,hi,h,h2,k,k2,h4,h6,h6',hq,hs]
end
theorem Bc(c:Int)(w l:Nat)(hw:1<=w)(p:Bool):∃r:Rw,aE [.int c,.int w,.int l,.bool p]=some (ez r)/\r.ok w l/\(p=true->r.isPl=true):=by
 obtain⟨T,hT⟩:=yp c;have hw0:(0:Int)<w:=by omega
 have a1:=Int.emod_nonneg ((T:Int)/7/16) (show(w:Int)≠0 by omega);have a2:=Int.emod_lt_of_pos ((T:Int)/7/16) hw0;obtain⟨j,hj⟩:∃j:Nat,(T:Int)/7/16%w=j:=⟨((T:Int)/7/16%w).toNat,by omega⟩;have ej:=fO (i:=(T:Int)/7/16) hw0;rw[hj]at ej a1 a2;obtain⟨mx,ex,x1,x2,x3⟩:=(⟨_,bT 1 (w-1),by split<;>omega,by split<;>omega,by split<;>omega⟩:∃m:Int,ng [.int 1,.int ((w:Int)-1)]=some (.int m)/\1<=m/\(w:Int)-1<=m/\(m=1\/m=w-1));have b1:=Int.emod_nonneg ((T:Int)/7/96) (show mx≠0 by omega);have b2:=Int.emod_lt_of_pos ((T:Int)/7/96) (show 0<mx by omega);have et:=fO (i:=(T:Int)/7/96) (show 0<mx by omega);generalize (T:Int)/7/96%mx=t at *;have c1:=Int.emod_nonneg ((j:Int)+1+t) (show(w:Int)≠0 by omega);have c2:=Int.emod_lt_of_pos ((j:Int)+1+t) hw0;have ei:=fO (i:=(j:Int)+1+t) hw0;obtain⟨i,hi⟩:∃i:Nat,((j:Int)+1+t)%w=i:=⟨(((j:Int)+1+t)%w).toNat,by omega⟩;have hij:1<w->i≠j:=fun h1 z=>by
  have:t+1<w:=by omega
  by_cases hh:(j:Int)+1+t<w
  ·rw[Int.emod_eq_of_lt (by omega) hh]at hi;omega
  ·have:((j:Int)+1+t)%w=(j:Int)+1+t-w:=by
    rw[<-Int.sub_emod_right,Int.emod_eq_of_lt (by omega) (by omega)]
   omega
 rw[hi]at ei c1 c2;have m0:0<=c%16:=Int.emod_nonneg _ (by decide);by_cases h1:c%16<4
 ·exact⟨.pl (.swing j),s9 c w l T j t i mx hT ej ex et ei p h1,(show j<w by omega),fun _=>rfl⟩
 by_cases h2:c%16<7
 ·obtain⟨e,he⟩:∃e:Nat,1+(T:Int)/7/600%7=e:=⟨(1+(T:Int)/7/600%7).toNat,by omega⟩
  have q:=wf c w l T j t i mx hT ej ex et ei p h1 h2;rw[he]at q;exact⟨.pl (.turn j e),q,(show j<w/\1<=e/\e<=7 by omega),fun _=>rfl⟩
 by_cases h3:7<c%16/\c%16<13/\(1:Int)<w
 ·obtain⟨s,hs,h⟩:=Fz (c%16) h3.1 h3.2.1
  have q:=yq c w l T j t i mx hT ej ex et ei p h1 h2 h3.1 h3.2.1 h3.2.2 _ hs;have k:i<w/\j<w/\i≠j:=⟨by omega,by omega,hij (by omega)⟩;rcases h with rfl|rfl|rfl
  ·exact⟨.pl (.tie i j),q,k,fun _=>rfl⟩
  ·exact⟨.pl (.sign i j),q,k,fun _=>rfl⟩
  ·exact⟨.pl (.cross i j),q,k,fun _=>rfl⟩
 by_cases h4:c%16=7\/p=true
 ·exact⟨.pl (.flip j),wj c w l T j t i mx hT ej ex et ei p h1 h2 h3 h4,(show j<w by omega),fun _=>rfl⟩
 have hp:p=false:=by cases p;rfl;exact absurd (.inr rfl) h4
 subst hp;have h4':¬c%16=7:=fun z=>h4 (.inl z)
 by_cases h5:(l:Int)<6/\(c%16<14\/(l:Int)=0)
 ·exact⟨.look j,wg c w l T j t i mx hT ej ex et ei h1 h2 h3 h4' h5.1 h5.2,(show j<w/\l<6 by omega),fun z=>(nomatch z)⟩
 have h6:¬(l:Int)=0:=by omega
 have hq:=fO (i:=(T:Int)/7/4200) (show(0:Int)<l by omega);have d1:=Int.emod_nonneg ((T:Int)/7/4200) (show(l:Int)≠0 by omega);have d2:=Int.emod_lt_of_pos ((T:Int)/7/4200) (show(0:Int)<l by omega);obtain⟨m,hm⟩:∃m:Nat,(T:Int)/7/4200%l=m:=⟨((T:Int)/7/4200%l).toNat,by omega⟩;rw[hm]at hq d1 d2;have k:m<l/\j<w:=by omega
 have:(T:Int)/7/29400%2=0\/(T:Int)/7/29400%2=1:=by omega
 rcases this with z|z
 ·exact⟨.wflip m j,lU c w l T j t i mx m hT ej ex et ei h1 h2 h3 h4' h5 h6 hq _ (by rw[z];exact at0 _ _),k,fun z=>(nomatch z)⟩
 ·exact⟨.wsign m j,lU c w l T j t i mx m hT ej ex et ei h1 h2 h3 h4' h5 h6 hq _ (by rw[z];exact zB _ _ _),k,fun z=>(nomatch z)⟩
noncomputable def Es(w:Nat)(rs:List Rw):D:=.tuple [.int w,.tuple (rs.map ez)]
def uJ(w:Nat):Nat->List Rw->Prop
 |_,[]=>True
 |l,r::rs=>r.ok w l/\uJ w (l+if r.isLook then 1 else 0) rs
theorem n9(r:Rw):∃s:Str,aB (ez r) (.int 0)=some (.str s)/\bw (.str s) (.str "look")=some (.bool r.isLook)/\bw (.str s) (.str "where")=some (.bool (!r.isLook && !r.isPl))/\mW false (.str s) (.tuple [.str "swing",.str "turn",.str "flip",.str "tie",.str "sign",.str "cross"])=some (.bool r.isPl):=by
 cases r with
 |pl r=>cases r<;>exact⟨_,at0 _ _,by simp[Rw.isLook],by simp[Rw.isLook,Rw.isPl],by simp[Rw.isPl]⟩
 |look j=>exact⟨_,at0 _ _,by simp[Rw.isLook],by simp[Rw.isLook,Rw.isPl],by simp[Rw.isPl]⟩
 |wflip m j=>exact⟨_,at0 _ _,by simp[Rw.isLook],by simp[Rw.isLook,Rw.isPl],by simp[Rw.isPl]⟩
 |wsign m j=>exact⟨_,at0 _ _,by simp[Rw.isLook],by simp[Rw.isLook,Rw.isPl],by simp[Rw.isPl]⟩
theorem Bf(c w l l':Int)(p b:Bool)(C R:D)(ds:List D)(z6:Sl)(s:Str)(hr:aE [.int c,.int w,.int l,.bool p]=some R)(h0:aB R (.int 0)=some (.str s))(h1:bw (.str s) (.str "look")=some (.bool b))(hl':l+(if b=true then 1 else 0)=l')(hs:ds.length<sizeLine):
  ce [.fz C,.fz (.int w),.fz (.bool p),.ow ds,.fz (.int l),.fz (.int c),z6]=some (.nx,[.fz C,.fz (.int w),.fz (.bool p),.ow (ds++[R]),.fz (.int l'),.fz (.int c),.fz R]):=by
 simp[-ap,-cw,aF,aZ,ce,hr,h0,h1,hl',hs]
theorem lY(w:Nat)(hw:1<=w)(p:Bool)(C:D):∀(cs:List Int) (l:Nat) (ds:List D) (z5 z6:Sl),ds.length+cs.length<=1000->∃rs:List Rw,rs.length=cs.length/\uJ w l rs/\(p=true->∀r∈rs,r.isPl=true)/\∃y4 y5 y6,loop (gN 5) ce (cs.map .int) [.fz C,.fz (.int w),.fz (.bool p),.ow ds,.fz (.int l),z5,z6]=some (.nx,[.fz C,.fz (.int w),.fz (.bool p),.ow (ds++rs.map ez),y4,y5,y6])
 |[],l,ds,z5,z6,_=>⟨[],rfl,trivial,fun _ _ h=>(nomatch h),.fz (.int l),z5,z6,by simp⟩
 |c::cs,l,ds,z5,z6,hl=>by
  obtain⟨r,hr,hok,hp⟩:=Bc c w l hw p;obtain⟨s,h0,h1,_,_⟩:=n9 r;have hlen:ds.length<1000:=by simp only[List.length_cons]at hl;omega
  have st:=Bf c w l ((l+if r.isLook then 1 else 0:Nat):Int) p r.isLook C (ez r) ds z6 s hr h0 h1 (by cases r.isLook<;>simp) (by show _<16777216;omega);obtain⟨rs,e1,e2,e3,y4,y5,y6,e4⟩:=lY w hw p C cs (l+if r.isLook then 1 else 0) (ds++[ez r]) (.fz (.int c)) (.fz (ez r)) (by simp only[List.length_append,List.length_cons,List.length_nil]at hl ⊢;omega);refine⟨r::rs,by simp[e1],⟨hok,e2⟩,fun z q hq=>?_,y4,y5,y6,?_⟩
  ·rcases List.mem_cons.mp hq with rfl|hq
   ·exact hp z
   ·exact e3 z q hq
  ·rw[List.map_cons,bU (δ1:=[.fz C,.fz (.int w),.fz (.bool p),.ow ds,.fz (.int l),.fz (.int c),z6]) (by simp) st,e4]
   simp
theorem yC(w:Nat)(hw:1<=w)(p:Bool)(cs:List Int)(hl:cs.length<=1000):∃rs:List Rw,rs.length=cs.length/\uJ w 0 rs/\(p=true->∀r∈rs,r.isPl=true)/\bB [.list (cs.map .int),.int w,.bool p]=some (Es w rs):=by
 obtain⟨rs,e1,e2,e3,y4,y5,y6,e4⟩:=lY w hw p (.list (cs.map .int)) cs 0 [] .un .un (by simpa using hl);refine⟨rs,e1,e2,e3,?_⟩;have e4':loop (gN 5) ce (cs.map .int) [.fz (.list (cs.map .int)),.fz (.int w),.fz (.bool p),.ow [],.fz (.int 0),.un,.un]=_:=e4;simp[-ap,-cw,aF,aZ,bB,aD,eS,aq,e4',wS,Es]
theorem kT{n:Nat}:∀(rs:List Rw) (k p:Nat) (bs:List Br),FI k p bs->∃k' p',k'<=k+rs.length/\p'<=p+(k+rs.length+1)*rs.length/\FI k' p' (jl n rs bs)
 |[],k,p,bs,h=>⟨k,p,Nat.le_refl _,Nat.le_refl _,h⟩
 |r::rs,k,p,bs,h=>by
  have big:∀k',k'<=k+1->(k'+rs.length+1)*rs.length+(k+1)<=(k+(rs.length+1)+1)*(rs.length+1):=fun k' hk=>by
   have h1:(k'+rs.length+1)*rs.length<=(k+(rs.length+1)+1)*rs.length:=Nat.mul_le_mul_right _ (by omega);rw[Nat.mul_add,Nat.mul_one];omega
  cases hr:r.isLook with
  |true=>
   cases r with
   |look j=>
    obtain⟨k',p',a,b,c⟩:=kT rs k p _ (h.look n j);refine⟨k',p',by simp only[List.length_cons];omega,?_,c⟩;have:=big k (by omega);simp only[List.length_cons];omega
   |pl r=>cases hr
   |wflip m j=>cases hr
   |wsign m j=>cases hr
  |false=>
   obtain⟨k',p',a,b,c⟩:=kT rs (k+1) (p+k+1) _ (h.go n r);rw[rL n r rs bs hr];refine⟨k',p',by simp only[List.length_cons];omega,?_,c⟩;have:=big (k+1) (by omega);simp only[List.length_cons];omega
theorem Ix(p:Nat):FI 0 0 [(([]:List Nat),MA.bz p)]:=⟨fun b hb=>by simp only[List.mem_cons,List.not_mem_nil,or_false]at hb;subst hb;exact sR p,fun b hb=>by simp only[List.mem_cons,List.not_mem_nil,or_false]at hb;subst hb;exact MA.jJ p⟩
theorem r6{n p:Nat}(hp:p<2^n)(rs:List Rw)(ho:d5 n 0 rs):fV n p rs=(jl n rs [([],MA.bz p)]).filter (nc n):=by
 have f0:[(([]:List Nat),MA.bz p)].filter (nc n)=[([],MA.bz p)]:=by
  have:nc n (([]:List Nat),MA.bz p)=true:=by
   unfold nc;cases q:kR n (MA.bz p)with
   |false=>rfl
   |true=>
    have:=(jC _).mp (List.all_eq_true.mp q p (List.mem_range.mpr hp));unfold MA.bz at this;rw[if_pos rfl]at this;cases this
  rw[List.filter_cons_of_pos this];rfl
 have tf:=gB (n:=n) rs 0 0 0 [([],MA.bz p)] ho (Ix p);rw[f0]at tf;exact tf
theorem gC(n:Nat):∀(rs:List Rw) (as bs:List Br),bp n rs (as++bs)=bp n rs as++bp n rs bs
 |[],as,bs=>rfl
 |r::rs,as,bs=>by
  cases r with
  |look j=>
   show bp n rs ((as++bs).flatMap (cL n j))=bp n rs (as.flatMap (cL n j))++bp n rs (bs.flatMap (cL n j));rw[List.flatMap_append,gC n rs]
  |pl r=>
   show bp n rs ((as++bs).map _)=bp n rs (as.map _)++bp n rs (bs.map _);rw[List.map_append,gC n rs]
  |wflip m j=>
   show bp n rs ((as++bs).map _)=bp n rs (as.map _)++bp n rs (bs.map _);rw[List.map_append,gC n rs]
  |wsign m j=>
   show bp n rs ((as++bs).map _)=bp n rs (as.map _)++bp n rs (bs.map _);rw[List.map_append,gC n rs]
theorem gA(n:Nat):∀rs:List Rw,bp n rs []=[]
 |[]=>rfl
 |r::rs=>by
  cases r with
  |look j=>exact gA n rs
  |pl r=>exact gA n rs
  |wflip m j=>exact gA n rs
  |wsign m j=>exact gA n rs
theorem nG(n:Nat)(rs:List Rw):∀bs:List Br,bp n rs bs=bs.flatMap fun b=>bp n rs [b]
 |[]=>gA n rs
 |b::bs=>by
  rw[show b::bs=[b]++bs from rfl,gC,nG n rs bs];rfl
theorem zd(n:Nat)(r:Rw)(b:Br):(h8 n r b).1=b.1:=by
 cases r with
 |pl r=>rfl
 |look j=>rfl
 |wflip m j=>show(if _ then _ else _:Br).1=_;split<;>rfl
 |wsign m j=>show(if _ then _ else _:Br).1=_;split<;>rfl
theorem iS(n:Nat):∀(rs:List Rw) (bs:List Br),∀c∈bp n rs bs,∃b∈bs,∃r,c.1=b.1++r
 |[],bs,c,h=>⟨c,h,[],by rw[List.append_nil]⟩
 |r::rs,bs,c,h=>by
  have go:r.isLook=false->∃b∈bs,∃r,c.1=b.1++r:=fun q=>by
   rw[g9 n r rs bs q]at h;obtain⟨b,hb,x,e⟩:=iS n rs _ c h;obtain⟨b',hb',rfl⟩:=List.mem_map.mp hb;exact⟨b',hb',x,by rw[e,zd]⟩
  cases r with
  |look j=>
   obtain⟨b,hb,x,e⟩:=iS n rs _ c h;obtain⟨b',hb',hc⟩:=List.mem_flatMap.mp hb;have:=(List.mem_filter.mp hc).1;simp only[List.mem_cons,List.not_mem_nil,or_false]at this;rcases this with rfl|rfl
   ·exact⟨b',hb',0::x,by rw[e,List.append_assoc];rfl⟩
   ·exact⟨b',hb',1::x,by rw[e,List.append_assoc];rfl⟩
  |pl r=>exact go rfl
  |wflip m j=>exact go rfl
  |wsign m j=>exact go rfl
noncomputable def ij:List Nat->List Nat->Bool
 |[],[]=>false
 |[],_::_=>true
 |_::_,[]=>false
 |a::r,b::t=>if a=b then ij r t else decide (a<b)
theorem uP:∀{a b:List Nat} (x y:List Nat),a.length=b.length->ij a b=true->ij (a++x) (b++y)=true
 |[],[],_,_,_,h=>by cases h
 |p::a,q::b,x,y,hl,h=>by
  have h:(if p=q then ij a b else decide (p<q))=true:=h;show(if p=q then ij (a++x) (b++y)else decide (p<q))=true;by_cases e:p=q
  ·rw[if_pos e]at h ⊢
   exact uP x y (by simpa using hl) h
  ·rw[if_neg e]at h ⊢
   exact h
theorem rk:∀(a:List Nat) (x y:List Nat),ij (a++x) (a++y)=ij x y
 |[],x,y=>rfl
 |p::a,x,y=>by
  show(if p=p then ij (a++x) (a++y)else _)=_;rw[if_pos rfl];exact rk a x y
theorem pH:∀a:List Nat,ij a a=false
 |[]=>rfl
 |p::a=>by
  show(if p=p then ij a a else _)=_;rw[if_pos rfl];exact pH a
def Up(bs:List Br):Prop:=bs.Pairwise fun a b=>ij a.1 b.1=true
theorem uk{n j l:Nat}:∀{bs:List Br},(∀b∈bs,b.1.length=l)->Up bs->Up (bs.flatMap (cL n j))
 |[],_,_=>.nil
 |b::bs,hl,h=>by
  obtain⟨h1,h2⟩:=List.pairwise_cons.mp h;have pr:∀(b:Br),∀c∈cL n j b,∃x,c.1=b.1++x:=fun b c hc=>by
   have:=(List.mem_filter.mp hc).1;simp only[List.mem_cons,List.not_mem_nil,or_false]at this;rcases this with rfl|rfl
   ·exact⟨[0],rfl⟩
   ·exact⟨[1],rfl⟩
  refine List.pairwise_append.mpr ⟨?_,uk (fun c hc=>hl c (List.mem_cons_of_mem _ hc)) h2,fun x hx y hy=>?_⟩
  ·refine List.Pairwise.sublist List.filter_sublist ?_
   refine List.pairwise_cons.mpr ⟨fun y hy=>?_,List.pairwise_singleton _ _⟩
   rw[List.mem_singleton.mp hy];show ij (b.1++[0]) (b.1++[1])=true;rw[rk];rfl
  ·obtain⟨b',hb',hc⟩:=List.mem_flatMap.mp hy
   obtain⟨u,e1⟩:=pr b x hx;obtain⟨v,e2⟩:=pr b' y hc;rw[e1,e2];exact uP u v ((hl b List.mem_cons_self).trans (hl b' (List.mem_cons_of_mem _ hb')).symm) (h1 b' hb')
theorem oN{n:Nat}:∀(rs:List Rw) (l k p:Nat) {bs:List Br},BI l k p bs->Up bs->Up (bp n rs bs)
 |[],l,k,p,bs,_,h=>h
 |r::rs,l,k,p,bs,b,h=>by
  have go:r.isLook=false->Up (bp n (r::rs) bs):=fun q=>by
   rw[g9 n r rs bs q];refine oN rs l (k+1) (p+k+1) (b.go n r) (List.pairwise_map.mpr (h.imp fun{x y} z=>?_));rw[zd,zd];exact z
  cases r with
  |look j=>exact oN rs (l+1) k p (b.look n j) (uk b.mks h)
  |pl r=>exact go rfl
  |wflip m j=>exact go rfl
  |wsign m j=>exact go rfl
theorem wY{n:Nat}(p:Nat)(rs:List Rw):Up (fV n p rs):=oN rs 0 0 0 (II p) (List.pairwise_singleton _ _)
theorem CW{bs:List Br}(h:Up bs):(bs.map (·.1)).Nodup:=List.pairwise_map.mpr (h.imp fun{a b} z e=>by rw[e,pH]at z;cases z)
structure T3 where
 x:Int
 y:Int
 e:Nat
noncomputable def tD(t:T3):D:=.tuple [.int t.x,.int t.y,.int (t.e:Int)]
structure Tv (M:Nat) (u:MA.S2) (t:T3):Prop where
 ex:t.x*2^M=u.p*2^t.e
 ey:t.y*2^M=u.q*2^t.e
 le:t.e<=20
 bx:t.x.natAbs<2^300001
 by':t.y.natAbs<2^300001
theorem E5{k M:Nat}{d:D}{u:MA.S2}(h:Vs 300000 k d u M)(hk:k<=20):∃t,d=tD t/\Tv M u t:=by
 obtain⟨s,e,rfl,is,le,he⟩:=h.ex;have hs:=is.2;have b:∀z:Int,z.natAbs<=2^300000->z.natAbs<2^300001:=fun z hz=>Nat.lt_of_le_of_lt hz (Nat.pow_lt_pow_right (by decide) (by decide))
 refine⟨⟨s.p,s.q,e⟩,rfl,⟨?_,?_,by show e<=20;omega,b _ le.1,b _ le.2⟩⟩
 ·exact congrArg MA.S2.p hs
 ·exact congrArg MA.S2.q hs
inductive Ts (M n:Nat):List Br->List T3->Prop
 |nil:Ts M n [] []
 |cons {b bs t ts}:wh n b=tD t->Tv M (MA.dA M n b.2) t->Ts M n bs ts->Ts M n (b::bs) (t::ts)
theorem xf{M n:Nat}:∀{bs:List Br},(∀b∈bs,∃t,wh n b=tD t/\Tv M (MA.dA M n b.2) t)->∃ts,Ts M n bs ts
 |[],_=>⟨[],.nil⟩
 |b::bs,h=>by
  obtain⟨t,h1,h2⟩:=h b List.mem_cons_self;obtain⟨ts,h3⟩:=xf fun c hc=>h c (List.mem_cons_of_mem _ hc)
  exact⟨t::ts,.cons h1 h2 h3⟩
theorem Ts.map{M n:Nat}:∀{bs:List Br} {ts:List T3},Ts M n bs ts->bs.map (wh n)=ts.map tD/\bs.length=ts.length
 |_,_,.nil=>⟨rfl,rfl⟩
 |_,_,.cons h1 _ h=>by
  obtain⟨a,b⟩:=h.map;exact⟨by rw[List.map_cons,List.map_cons,h1,a],by rw[List.length_cons,List.length_cons,b]⟩
theorem Ts.all{M n:Nat}:∀{bs:List Br} {ts:List T3},Ts M n bs ts->∀t∈ts,t.e<=20/\t.x.natAbs<2^300001/\t.y.natAbs<2^300001
 |_,_,.cons h1 v h,t,ht=>by
  rcases List.mem_cons.mp ht with rfl|z
  ·exact⟨v.le,v.bx,v.by'⟩
  ·exact h.all t z
noncomputable def F0(ts:List T3):Int:=(ts.map fun t=>(t.e:Int)).foldl (fun m x=>if x>m then x else m) 0
theorem Cv:∀(es:List Int) (b:Int),b<=es.foldl (fun m x=>if x>m then x else m) b/\(∀e∈es,e<=es.foldl (fun m x=>if x>m then x else m) b)/\∀B,b<=B->(∀e∈es,e<=B)->es.foldl (fun m x=>if x>m then x else m) b<=B
 |[],b=>⟨Int.le_refl _,(fun e he=>by cases he),fun B h _=>h⟩
 |a::es,b=>by
  obtain⟨h1,h2,h3⟩:=Cv es (if a>b then a else b);have q:b<=(if a>b then a else b)/\a<=(if a>b then a else b):=by split<;>omega
  refine⟨Int.le_trans q.1 h1,fun e he=>?_,fun B hb he=>h3 B ?_ fun e z=>he e (List.mem_cons_of_mem _ z)⟩
  ·rcases List.mem_cons.mp he with rfl|z
   ·exact Int.le_trans q.2 h1
   ·exact h2 e z
  ·have:=he a List.mem_cons_self
   split<;>omega
theorem HX{ts:List T3}(h:∀t∈ts,t.e<=20):∃m:Nat,F0 ts=(m:Int)/\m<=20/\∀t∈ts,t.e<=m:=by
 obtain⟨h1,h2,h3⟩:=Cv (ts.map fun t=>(t.e:Int)) 0
 have h4:=h3 20 (by decide) fun e he=>by
  obtain⟨t,ht,rfl⟩:=List.mem_map.mp he;have:=h t ht;omega
 refine⟨(F0 ts).toNat,by unfold F0;omega,by unfold F0;omega,fun t ht=>?_⟩
 have:=h2 _ (List.mem_map.mpr ⟨t,ht,rfl⟩);unfold F0;omega
noncomputable def gw(f:T3->Int)(m:Nat)(ts:List T3):Int:=(ts.map fun t=>f t*((2^(m-t.e):Nat):Int)).sum
theorem Ci(f:T3->Int)(i:Int)(hi:∀t,aB (tD t) (.int i)=some (.int (f t))){ts:List T3}(hl:ts.length<=1000){m:Nat}(hm:m<=20)(he:∀t∈ts,t.e<=m)(hb:∀t∈ts,(f t).natAbs<2^300001)(z2 z3:Sl):cp (oI (oV 0) df) [(1,"most")] kW (o2 (o2 (oV 0) (oC (.int i)) aB) (o2 (oC (.int 1)) (o2 (oV 1) (o2 (oV 0) (oC (.int 2)) aB) cM) dZ) dW) [.fz (.list (ts.map tD)),.fz (.int (m:Int)),z2,z3]=some (.list (ts.map fun t=>.int (f t*((2^(m-t.e):Nat):Int)))):=by
 refine cg (xs:=ts) (h:=tD) (by simp) (by omega) fun t ht=>?_
 have h2:aB (tD t) (.int 2)=some (.int (t.e:Int)):=rfl;have hi:=hi t;have le:=he t ht;have sb:(m:Int)-(t.e:Int)=((m-t.e:Nat):Int):=by omega
 have sh:=xy (m-t.e) (by omega);have ml:dW (.int (f t)) (.int ((2^(m-t.e):Nat):Int))=some (.int (f t*((2^(m-t.e):Nat):Int))):=qY (MA.sZ 300001 21 (hb t ht) (by rw[Int.natAbs_natCast];exact Nat.pow_lt_pow_right (by decide) (by omega)) (by decide));generalize ((2^(m-t.e):Nat):Int)=w at *;generalize ((m-t.e:Nat):Int)=v at *;generalize tD t=T at *;simp[capS,hi,h2,sb,sh,ml]
theorem E7{ts:List T3}(hl:ts.length<=1000)(z1 z2 z3:Sl):dP [.fz (.list (ts.map tD)),z1,z2,z3]=some (.list (ts.map fun t=>.int (t.e:Int))):=by
 unfold dP;exact cg (xs:=ts) (h:=tD) (by simp) (by omega) fun t _=>by
  have h2:aB (tD t) (.int 2)=some (.int (t.e:Int)):=rfl;generalize tD t=T at *;simp[capS,h2]
theorem E6(S:D)(E P2 P3:List D)(ML:D)(m P R:Int)(p1:dP [.fz S,.un,.un,.un]=some (.list E))(ad:b8 (.list [.int 0]) (.list E)=some ML)(mx:yn [ML]=some (.int m))(p2:io [.fz S,.fz (.int m),.un,.un]=some (.list P2))(s2:sG [.list P2]=some (.int P))(p3:im [.fz S,.fz (.int m),.fz (.int P),.un]=some (.list P3))(s3:sG [.list P3]=some (.int R)):aI [S]=some (.tuple [.int P,.int R,.int m]):=by
 simp[aI,aD,gk,aq,p1,ad,mx,p2,s2,p3,s3]
theorem qz{ts:List T3}(hl:ts.length<=900)(h:∀t∈ts,t.e<=20/\t.x.natAbs<2^300001/\t.y.natAbs<2^300001):∃m:Nat,m<=20/\(∀t∈ts,t.e<=m)/\aI [.list (ts.map tD)]=some (.tuple [.int (gw T3.x m ts),.int (gw T3.y m ts),.int (m:Int)]):=by
 obtain⟨m,e,hm,le⟩:=HX fun t ht=>(h t ht).1
 refine⟨m,hm,le,?_⟩;refine E6 _ _ _ _ (.list (.int 0::ts.map fun t=>.int (t.e:Int))) _ _ _ (E7 (by omega) _ _ _) (by rw[wM (by simp;omega)];rfl) ?_ (Ci T3.x 0 (fun t=>rfl) (by omega) hm le (fun t ht=>(h t ht).2.1) _ _) (qE (fun t:T3=>t.x*((2^(m-t.e):Nat):Int)) ts) (Ci T3.y 1 (fun t=>rfl) (by omega) hm le (fun t ht=>(h t ht).2.2) _ _) (qE (fun t:T3=>t.y*((2^(m-t.e):Nat):Int)) ts)
 have i:eA (.int 0::ts.map fun t=>.int (t.e:Int))=some (0::ts.map fun t=>(t.e:Int)):=by
  have:=jS (fun t:T3=>(t.e:Int)) ts
  simp[eA,this]
 show((eA (.int 0::ts.map fun t=>.int (t.e:Int))).bind fun bs=>(C2 bs).map PyData.int)=_
 rw[i,Option.bind_some,<-e];rfl
theorem BO(P R m x y z w v a b:Int)(h1:dZ (.int 1) (.int z)=some (.int w))(h2:dZ (.int 1) (.int m)=some (.int v))(m1:dW (.int P) (.int w)=some (.int a))(m2:dW (.int R) (.int w)=some (.int b))(m3:dW (.int x) (.int v)=some (.int a))(m4:dW (.int y) (.int v)=some (.int b))(eq:bw (.tuple [.int a,.int b]) (.tuple [.int a,.int b])=some (.bool true)):aJ [.tuple [.int P,.int R,.int m],.tuple [.int x,.int y,.int z]]=some (.bool true):=by
 simp[aJ,aD,gm,aq,h1,h2,m1,m2,m3,m4,eq]
theorem rQ{P R x y:Int}{m z:Nat}(hm:m<=20)(hz:z<=20)(bP:P.natAbs<2^400000)(bR:R.natAbs<2^400000)(bx:x.natAbs<2^400000)(by':y.natAbs<2^400000)(e1:P*2^z=x*2^m)(e2:R*2^z=y*2^m):aJ [.tuple [.int P,.int R,.int (m:Int)],.tuple [.int x,.int y,.int (z:Int)]]=some (.bool true):=by
 have ok:∀(a:Int) (k:Nat),a.natAbs<2^400000->k<=20->dW (.int a) (.int ((2^k:Nat):Int))=some (.int (a*2^k)):=fun a k ha hk=>by
  rw[qY (MA.sZ 400000 21 ha (by rw[Int.natAbs_natCast];exact Nat.pow_lt_pow_right (by decide) (by omega)) (by decide))]
  push_cast
  rfl
 refine BO _ _ _ _ _ _ _ _ (P*2^z) (R*2^z) (xy z (by omega)) (xy m (by omega)) (ok P z bP hz) (ok R z bR hz) ?_ ?_ (BP (k:=2) (MA.Sh.tuple fun d hd=>?_) (by decide))
 ·rw[e1];exact ok x m bx hm
 ·rw[e2];exact ok y m by' hm
 ·simp only[List.mem_cons,List.not_mem_nil,or_false]at hd
  rcases hd with rfl|rfl<;>exact MA.Sh.int 1 _
theorem pw2(a b:Nat):((2:Int)^(a+b))=2^a*2^b:=Int.pow_add 2 a b
theorem pos2(a:Nat):(0:Int)<2^a:=Int.pow_pos (by decide)
theorem B1{a b:Int}{k:Nat}(h:a*2^k=b*2^k):a=b:=Int.eq_of_mul_eq_mul_right (Int.ne_of_gt (pos2 k)) h
theorem xq{M n m:Nat}(hm:m<=M):∀{bs:List Br} {ts:List T3},Ts M n bs ts->(∀t∈ts,t.e<=m)->gw T3.x m ts*2^(M-m)=(eL M n bs).p/\gw T3.y m ts*2^(M-m)=(eL M n bs).q
 |_,_,.nil,_=>⟨by show(0:Int)*_=0;rw[Int.zero_mul],by show(0:Int)*_=0;rw[Int.zero_mul]⟩
 |_,_,.cons (b:=b) (bs:=bs) (t:=t) (ts:=ts) h1 v h,le=>by
  obtain⟨a,c⟩:=xq hm h fun t ht=>le t (List.mem_cons_of_mem _ ht)
  have te:=le t List.mem_cons_self;have key:∀(z w:Int),z*2^M=w*2^t.e->z*((2^(m-t.e):Nat):Int)*2^(M-m)=w:=fun z w e=>by
   apply B1 (k:=t.e);rw[<-e]
   push_cast
   rw[Int.mul_assoc,Int.mul_assoc,<-pw2,<-pw2];congr 2;omega
  have sx:gw T3.x m (t::ts)=t.x*((2^(m-t.e):Nat):Int)+gw T3.x m ts:=by unfold gw;rw[List.map_cons,List.sum_cons]
  have sy:gw T3.y m (t::ts)=t.y*((2^(m-t.e):Nat):Int)+gw T3.y m ts:=by unfold gw;rw[List.map_cons,List.sum_cons]
  rw[sx,sy,Int.add_mul,Int.add_mul,a,c,key _ _ v.ex,key _ _ v.ey];exact⟨rfl,rfl⟩
theorem xp(f:T3->Int){m:Nat}(hm:m<=20):∀ts:List T3,(∀t∈ts,(f t).natAbs<2^300001)->(gw f m ts).natAbs<=ts.length*2^300021
 |[],_=>by show(0:Int).natAbs<=_;simp
 |t::ts,h=>by
  have ih:=xp f hm ts fun u hu=>h u (List.mem_cons_of_mem _ hu)
  have h1:(f t*((2^(m-t.e):Nat):Int)).natAbs<=2^300021:=by
   rw[Int.natAbs_mul,Int.natAbs_natCast];have:2^300021=2^300001*2^20:=Nat.pow_add 2 300001 20;rw[this];exact Nat.mul_le_mul (Nat.le_of_lt (h t List.mem_cons_self)) (Nat.pow_le_pow_right (by decide) (by omega))
  have sx:gw f m (t::ts)=f t*((2^(m-t.e):Nat):Int)+gw f m ts:=by unfold gw;rw[List.map_cons,List.sum_cons]
  rw[sx,List.length_cons,Nat.add_mul,Nat.one_mul];have:=Int.natAbs_add_le (f t*((2^(m-t.e):Nat):Int)) (gw f m ts);generalize 2^300021=K at *;omega
theorem kL(f:T3->Int){m:Nat}(hm:m<=20)(ts:List T3)(hl:ts.length<=900)(h:∀t∈ts,(f t).natAbs<2^300001):(gw f m ts).natAbs<2^400000:=by
 refine Nat.lt_of_le_of_lt (xp f hm ts h) ?_;have h1:ts.length*2^300021<=2^10*2^300021:=Nat.mul_le_mul_right _ (Nat.le_trans hl (by decide));rw[<-Nat.pow_add]at h1;exact Nat.lt_of_le_of_lt h1 (Nat.pow_lt_pow_right (by decide) (by decide))
structure BF (n:Nat) (bs:List Br):Prop where
 w:∀b∈bs,cX [fW n b.2]=some (wh n b)
 t:∀b∈bs,∃t,wh n b=tD t/\Tv 50 (MA.dA 50 n b.2) t
 nz:∀b∈bs,(MA.dA 50 n b.2).p≠0
 ln:bs.length<=64
theorem pZ{n p:Nat}(hn:n<=6)(hp:p<2^n)(rs:List Rw)(ho:d5 n 0 rs)(hl:rs.length<=12):BF n (fV n p rs):=by
 obtain⟨k',p',h1,h2,fi⟩:=kT (n:=n) rs 0 0 [([],MA.bz p)] (Ix p);have e:=r6 hp rs ho;have hk:k'<=12:=by omega
 have hp':p'<=90000:=by
  have:(0+rs.length+1)*rs.length<=13*12:=Nat.mul_le_mul (by omega) hl;omega
 have mem:∀b∈fV n p rs,b∈jl n rs [([],MA.bz p)]/\kR n b.2=false:=fun b hb=>by
  rw[e]at hb;obtain⟨q1,q2⟩:=List.mem_filter.mp hb;exact⟨q1,by unfold nc at q2;simpa using q2⟩
 have wv:∀b∈fV n p rs,cX [fW n b.2]=some (wh n b)/\Vs 300000 k' (wh n b) (MA.dA 50 n b.2) 50:=fun b hb=>E2 hn (fi.bd b (mem b hb).1) (fi.ls b (mem b hb).1) (by omega) (by decide) hp'
 obtain⟨k2,p2,bi⟩:=mH (n:=n) p rs ho;have l6:=jN (n:=n) rs 0 ho (by decide);refine⟨fun b hb=>(wv b hb).1,fun b hb=>E5 (wv b hb).2 (by omega),fun b hb z=>?_,Nat.le_trans bi.ln (Nat.le_trans (Nat.pow_le_pow_right (by decide) (show _<=6 by omega)) (by decide))⟩
 have:=(mh (n:=n) (M:=50) (fi.ls b (mem b hb).1) (fun x=>by have:=(fi.bd b (mem b hb).1 x).1;omega)).mpr z
 rw[(mem b hb).2]at this;cases this
theorem nN{n p:Nat}(hn:n<=6)(rs:List Rw)(ho:d5 n 0 rs)(hl:rs.length<=12)(bf:BF n (fV n p rs)):aT [CO n rs,.int (p:Int)]=some (.list ((fV n p rs).map (shD n))):=
 HY _ _ n _ (Nat.le_trans bf.ln (by decide)) (r8 hn p rs ho (by omega)) bf.w
theorem vg{n p:Nat}(hp:p<2^n)(rs:List Rw)(ho:d5 n 0 rs)(hl:rs.length<=12):eL 50 n (fV n p rs)=MA.S2.sc 50 ⟨1,0⟩:=by
 unfold fV;rw[g8 rs 0 0 0 _ ho (II p) (by omega)];show MA.S2.add (MA.dA 50 n (MA.bz p)) ⟨0,0⟩=_;rw[AW hp];apply MA.S2.ext'<;>simp[MA.S2.add]
theorem um{n:Nat}{bs:List Br}(bf:BF n bs)(hs:eL 50 n bs=MA.S2.sc 50 ⟨1,0⟩):∃T,aI [.list (bs.map (wh n))]=some T/\aJ [T,.tuple [.int 1,.int 0,.int 0]]=some (.bool true):=by
 obtain⟨ts,h⟩:=xf bf.t;obtain⟨e,l⟩:=h.map;have ln:=bf.ln;have al:=h.all;obtain⟨m,hm,le,g⟩:=qz (ts:=ts) (by omega) al;obtain⟨sx,sy⟩:=xq (M:=50) (m:=m) (by omega) h le;rw[hs]at sx sy;refine⟨_,by rw[e];exact g,?_⟩;have b1:∀z:Int,z.natAbs<2->z.natAbs<2^400000:=fun z hz=>Nat.lt_of_lt_of_le hz (Nat.pow_le_pow_right (n:=2) (by decide) (show 1<=400000 by decide))
 refine rQ (z:=0) hm (by decide) (kL _ hm ts (by omega) fun t ht=>(al t ht).2.1) (kL _ hm ts (by omega) fun t ht=>(al t ht).2.2) (b1 1 (by decide)) (b1 0 (by decide)) ?_ ?_
 ·have sx:gw T3.x m ts*2^(50-m)=1*2^50:=sx
  rw[Int.pow_zero,Int.mul_one];apply B1 (k:=50-m);rw[sx,Int.mul_assoc,<-pw2,show m+(50-m)=50 by omega]
 ·have sy:gw T3.y m ts*2^(50-m)=0*2^50:=sy
  rw[Int.pow_zero,Int.mul_one];apply B1 (k:=50-m);rw[sy,Int.zero_mul,Int.zero_mul,Int.zero_mul]
theorem C1{n:Nat}{bs:List Br}{b:Br}(bf:BF n bs)(bt:∃t,wh n b=tD t/\Tv 50 (MA.dA 50 n b.2) t)(hs:eL 50 n bs=MA.dA 50 n b.2):∃T,aI [.list (bs.map (wh n))]=some T/\aJ [T,wh n b]=some (.bool true):=by
 obtain⟨ts,h⟩:=xf bf.t;obtain⟨e,l⟩:=h.map;have ln:=bf.ln;have al:=h.all;obtain⟨m,hm,le,g⟩:=qz (ts:=ts) (by omega) al;obtain⟨sx,sy⟩:=xq (M:=50) (m:=m) (by omega) h le;rw[hs]at sx sy;obtain⟨t,et,v⟩:=bt;refine⟨_,by rw[e];exact g,?_⟩;rw[et];have b1:∀z:Int,z.natAbs<2^300001->z.natAbs<2^400000:=fun z hz=>Nat.lt_of_lt_of_le hz (Nat.pow_le_pow_right (n:=2) (by decide) (by decide))
 have key:∀(P z w:Int),P*2^(50-m)=w->z*2^50=w*2^t.e->P*2^t.e=z*2^m:=fun P z w h1 h2=>by
  apply B1 (k:=50-m);rw[Int.mul_right_comm,h1,<-h2,Int.mul_assoc,<-pw2,show m+(50-m)=50 by omega]
 exact rQ hm v.le (kL _ hm ts (by omega) fun t ht=>(al t ht).2.1) (kL _ hm ts (by omega) fun t ht=>(al t ht).2.2) (b1 _ v.bx) (b1 _ v.by') (key _ _ _ sx v.ex) (key _ _ _ sy v.ey)
theorem qR{l:Nat}{a r:List Nat}(h:a.length=l):(a++r).take l=a:=by rw[List.take_append_of_le_length (by omega),List.take_of_length_le (by omega)]
theorem oj{n l:Nat}(rest:List Rw):∀(bs:List Br) (b:Br),b∈bs->(∀c∈bs,c.1.length=l)->(bs.map (·.1)).Nodup->((bs.flatMap fun b=>bp n rest [b]).filter fun c=>decide (c.1.take l=b.1))=bp n rest [b]
 |[],b,h,_,_=>by cases h
 |a::bs,b,h,hl,nd=>by
  have pr:∀(x:Br),x.1.length=l->∀c∈bp n rest [x],c.1.take l=x.1:=fun x hx c hc=>by
   obtain⟨y,hy,r,e⟩:=iS n rest [x] c hc;have:=List.mem_singleton.mp hy;subst this;rw[e];exact qR hx
  obtain⟨n1,n2⟩:=List.nodup_cons.mp nd;rw[List.flatMap_cons,List.filter_append];rcases List.mem_cons.mp h with rfl|z
  ·have f1:(bp n rest [b]).filter (fun c=>decide (c.1.take l=b.1))=bp n rest [b]:=List.filter_eq_self.mpr fun c hc=>by simpa using pr b (hl b List.mem_cons_self) c hc
   have f2:(bs.flatMap fun b=>bp n rest [b]).filter (fun c=>decide (c.1.take l=b.1))=[]:=List.filter_eq_nil_iff.mpr fun c hc=>by
    obtain⟨x,hx,hc⟩:=List.mem_flatMap.mp hc;have:=pr x (hl x (List.mem_cons_of_mem _ hx)) c hc;rw[this];simp only[decide_eq_true_eq];intro q;exact n1 (List.mem_map.mpr ⟨x,hx,q⟩)
   rw[f1,f2,List.append_nil]
  ·have f1:(bp n rest [a]).filter (fun c=>decide (c.1.take l=b.1))=[]:=List.filter_eq_nil_iff.mpr fun c hc=>by
    rw[pr a (hl a List.mem_cons_self) c hc];simp only[decide_eq_true_eq];intro q;exact n1 (List.mem_map.mpr ⟨b,z,q.symm⟩)
   rw[f1,List.nil_append];exact oj rest bs b z (fun c hc=>hl c (List.mem_cons_of_mem _ hc)) n2
theorem BF.sub{n:Nat}{bs cs:List Br}(h:BF n bs)(s:∀c∈cs,c∈bs)(l:cs.length<=64):BF n cs:=⟨fun b hb=>h.w b (s b hb),fun b hb=>h.t b (s b hb),fun b hb=>h.nz b (s b hb),l⟩
theorem pA{n:Nat}:∀(as bs:List Rw) (l:Nat),d5 n l (as++bs)->d5 n l as/\d5 n (l+(as.filter Rw.isLook).length) bs
 |[],bs,l,h=>⟨trivial,h⟩
 |r::as,bs,l,h=>by
  obtain⟨a,b⟩:=pA as bs _ h.2;refine⟨⟨h.1,a⟩,?_⟩;rw[List.filter_cons];cases q:r.isLook with
  |true=>
   rw[q]at b;rw[if_pos rfl,List.length_cons,show l+((as.filter Rw.isLook).length+1)=l+1+(as.filter Rw.isLook).length by omega];exact b
  |false=>
   rw[q]at b;rw[if_neg (by decide)];exact b
noncomputable def fP(ms:List Nat):List D:=ms.map fun m=>PyData.int (m:Nat)
noncomputable def mV(l:List Nat):List Int:=l.map fun k:Nat=>(k:Int)
theorem yR:∀xs:List Nat,wx (fP xs)=some (mV xs)
 |[]=>rfl
 |x::xs=>by
  show(wx (fP xs)).bind _=_;rw[yR xs];rfl
theorem lW:∀l m:List Nat,dB (cf (mV l)) (cf (mV m))=ij l m
 |[],[]=>rfl
 |[],_::_=>rfl
 |_::_,[]=>rfl
 |a::r,b::t=>by
  show(if(Sum.inl (a:Int):bb)=Sum.inl (b:Int)then dB (cf (mV r)) (cf (mV t))else fQ (.inl (a:Int)) (.inl (b:Int)))=if a=b then ij r t else decide (a<b)
  by_cases e:a=b
  ·subst e;rw[if_pos rfl,if_pos rfl,lW r t]
  ·rw[if_neg (fun z=>e (by have:=Sum.inl.inj z;omega)),if_neg e]
   show decide ((a:Int)<(b:Int))=decide (a<b);by_cases q:a<b
   ·rw[decide_eq_true q,decide_eq_true (by omega)]
   ·rw[decide_eq_false q,decide_eq_false (by omega)]
theorem BC{a b:List Nat}(e:mV a=mV b):a=b:=by
 have:=congrArg (List.map Int.toNat) e;unfold mV at this;rw[List.map_map,List.map_map]at this;simpa[Function.comp_def]using this
theorem qL:∀(l ns:List (List Int)) (x:List Int),x∈l.foldl bX ns↔x∈ns\/x∈l
 |[],ns,x=>by simp
 |y::l,ns,x=>by
  show x∈l.foldl bX (bX ns y)↔_;rw[qL l,List.mem_cons];unfold bX;split
  ·rename_i h
   exact⟨fun q=>q.elim .inl fun z=>.inr (.inr z),fun q=>q.elim .inl fun z=>z.elim (fun e=>.inl (e ▸ h)) .inr⟩
  ·rw[List.mem_append,List.mem_singleton,or_assoc]
theorem ux:∀(l ns:List (List Int)),ns.Nodup->(l.foldl bX ns).Nodup
 |[],ns,h=>h
 |y::l,ns,h=>ux l _ (by
  unfold bX;split
  ·exact h
  ·rename_i z
   exact List.nodup_append.mpr ⟨h,by simp,fun a ha b hb q=>z (by rw[<-List.mem_singleton.mp hb,<-q];exact ha)⟩)
theorem xt{kss ts:List (List Nat)}(up:ts.Pairwise fun a b=>ij a b=true)(mem:∀x,x∈kss↔x∈ts)(ne:∀x∈kss,x≠[])(hl:kss.length<63):nM (.list (kss.map fun l=>.tuple (fP l)))=some (.list (ts.map fun l=>.tuple (fP l))):=by
 have it:∀F:List (List Nat),mj (F.map fun l=>.tuple (fP l))=some (F.map mV):=fun F=>by
  induction F with
  |nil=>rfl
  |cons p F ih=>
   show(wx (fP p)).bind _=_;rw[yR,Option.bind_some,ih];rfl
 have nd:(ts.map mV).Nodup:=List.pairwise_map.mpr (up.imp fun{p q} z e=>by
  rw[BC e,pH]at z;cases z)
 have pm:(ts.map mV).Perm (iv (kss.map mV)):=(List.perm_ext_iff_of_nodup nd (ux _ [] List.nodup_nil)).mpr fun x=>by
  rw[qL];constructor
  ·intro h
   obtain⟨y,hy,rfl⟩:=List.mem_map.mp h;exact .inr (List.mem_map.mpr ⟨y,(mem y).mpr hy,rfl⟩)
  ·rintro (h|h)
   ·cases h
   ·obtain⟨y,hy,rfl⟩:=List.mem_map.mp h
    exact List.mem_map.mpr ⟨y,(mem y).mp hy,rfl⟩
 have e2:dj ((iv (kss.map mV)).map cf)=(ts.map mV).map cf:=by
  refine(jR (pm.map cf) ?_).symm;rw[List.map_map];refine List.pairwise_map.mpr (up.imp fun{p q} z=>?_);show dB (cf (mV q)) (cf (mV p))=false;rw[lW];have ne:cf (mV p)≠cf (mV q):=fun e=>by
   rw[<-lW,e,jf]at z;cases z
  have t:=gJ _ _ ne;rw[lW,lW,z]at t;cases e:ij q p with
  |false=>rfl
  |true=>rw[e]at t;cases t
 show(mj _).bind _=_;rw[it,Option.bind_some,if_pos ⟨by rw[List.length_map];exact hl,fun k hk=>by
  obtain⟨p,hp,rfl⟩:=List.mem_map.mp hk;intro z;unfold mV at z;exact ne p hp (List.map_eq_nil_iff.mp z)⟩,e2,List.map_map,List.map_map]
 have kd:∀l:List Nat,(cf (mV l)).map mf=fP l:=fun l=>by
  unfold cf mV fP;rw[List.map_map,List.map_map];rfl
 congr 2;refine List.map_congr_left fun p _=>?_
 show PyData.tuple ((cf (mV p)).map mf)=_;rw[kd]
theorem Ck(k:Nat)(ms:List Nat):MA.Sh (k+1) (.tuple (fP ms)):=MA.Sh.tuple fun x hx=>by
 obtain⟨h,_,rfl⟩:=List.mem_map.mp hx;exact MA.Sh.int k _
theorem zo:∀a b:List Nat,PyData.eqvAll (fP a) (fP b)=decide (a=b)
 |[],[]=>by simp[fP,PyData.eqvAll]
 |[],_::_=>by simp[fP,PyData.eqvAll]
 |_::_,[]=>by simp[fP,PyData.eqvAll]
 |x::a,y::b=>by
  have ih:=zo a b;show(PyData.eqv (.int (x:Int)) (.int (y:Int))&&PyData.eqvAll (fP a) (fP b))=_;rw[ih];have e:PyData.eqv (.int (x:Int)) (.int (y:Int))=decide (x=y):=by
   simp only[PyData.eqv];by_cases h:x=y
   ·subst h;simp
   ·have:¬(x:Int)=(y:Int):=by omega
    simp[h,this]
  rw[e];by_cases h1:x=y<;>by_cases h2:a=b<;>simp[h1,h2]
theorem GB(a b:List Nat):bw (.tuple (fP a)) (.tuple (fP b))=some (.bool (decide (a=b))):=by
 have sp:∀c:List Nat,vF (.tuple (fP c))=true:=fun c=>by
  have h:=Ck 1 c;show((PyData.tuple (fP c)).canLay0&&decide ((PyData.tuple (fP c)).depth<=64))=true;rw[h.1,decide_eq_true (Nat.le_trans h.2 (by decide))];rfl
 unfold bw;rw[if_pos ⟨sp a,sp b⟩];congr 2;simp only[PyData.eqv];exact zo a b
theorem tR(xs:List D)(l:Nat)(k:Int)(hk:(l:Int)=k):EH (.tuple xs) none (some k)=some (.tuple (xs.take l)):=by
 subst hk;show some (PyData.tuple (nq _ _ _))=_;unfold nq;have h1:HT.sIx xs.length 0 none=0:=rfl;have h2:HT.sIx xs.length xs.length (some (l:Int))=min l xs.length:=by
  simp[HT.sIx];omega
 rw[h1,h2,List.drop_zero,Nat.sub_zero];congr 2;by_cases h:l<=xs.length
 ·rw[Nat.min_eq_left h]
 ·rw[Nat.min_eq_right (by omega),List.take_of_length_le (Nat.le_refl _),List.take_of_length_le (by omega)]
theorem xB(n:Nat)(b:Br):aB (shD n b) (.int 0)=some (.tuple (fP b.1)):=rfl
theorem xA(n:Nat)(b:Br):aB (shD n b) (.int 1)=some (wh n b):=rfl
theorem FK{n:Nat}(bs:List Br)(hl:bs.length<=1000)(z0 z1 z2 z3 z5 z6 z7 z8 z9:Sl):pi [z0,z1,z2,z3,.fz (.list (bs.map (shD n))),z5,z6,z7,z8,z9]=some (.list (bs.map (wh n))):=by
 unfold pi;exact cg (xs:=bs) (h:=shD n) (by simp) (by omega) fun b _=>by
  have h:=xA n b;generalize shD n b=S at *;simp[capS,h]
theorem FJ{n:Nat}(bs:List Br)(hl:bs.length<=1000)(z0 z1 z2 z3 z4 z5 z6 z8 z9:Sl):ph [z0,z1,z2,z3,z4,z5,z6,.fz (.list (bs.map (shD n))),z8,z9]=some (.list (bs.map (wh n))):=by
 unfold ph;exact cg (xs:=bs) (h:=shD n) (by simp) (by omega) fun b _=>by
  have h:=xA n b;generalize shD n b=S at *;simp[capS,h]
theorem FH{n:Nat}(bs:List Br)(hl:bs.length<=1000)(z0 z1 z2 z3 z4 z5 z6 z8 z9:Sl):pg [z0,z1,z2,z3,z4,z5,z6,.fz (.list (bs.map (shD n))),z8,z9]=some (.list (bs.map fun b=>.tuple (fP b.1))):=by
 unfold pg;exact cg (xs:=bs) (h:=shD n) (by simp) (by omega) fun b _=>by
  have h:=xB n b;generalize shD n b=S at *;simp[capS,h]
theorem uO(ms:List Nat)(l:Nat):(fP ms).take l=fP (ms.take l):=by unfold fP;rw[List.map_take]
theorem FG{n l:Nat}(k:Int)(hk:(l:Int)=k)(bs:List Br)(hl:bs.length<=1000)(z0 z1 z2 z3 z6 z7 z8 z9:Sl):pf [z0,z1,z2,z3,.fz (.list (bs.map (shD n))),.fz (.int k),z6,z7,z8,z9]=some (.list (bs.map fun b=>.tuple (fP (b.1.take l)))):=by
 unfold pf;exact cg (xs:=bs) (h:=shD n) (by simp) (by omega) fun b _=>by
  have h:=xB n b;have c:=tR (fP b.1) l k hk;rw[uO]at c;generalize shD n b=S at *;simp[capS,h,c]
theorem FE{n l:Nat}(k:Int)(hk:(l:Int)=k)(bs:List Br)(hl:bs.length<=1000)(ms:List Nat)(z0 z1 z2 z3 z6 z7 z9:Sl):pc [z0,z1,z2,z3,.fz (.list (bs.map (shD n))),.fz (.int k),z6,z7,.fz (.tuple (fP ms)),z9]=some (.list ((bs.filter fun c=>decide (c.1.take l=ms)).map (wh n))):=by
 unfold pc;refine ov (xs:=bs) (h:=shD n) (by simp) (by omega) (fun b _=>?_) fun b _ _=>?_
 ·have h:=xB n b
  have c:=tR (fP b.1) l k hk;rw[uO]at c;have e:=GB (b.1.take l) ms;generalize shD n b=S at *;generalize decide (b.1.take l=ms)=q at *;simp[capS,h,c,e]
 ·have h:=xA n b
  generalize shD n b=S at *;simp[capS,h]
theorem Bg(z0 z1 z2 z3:Sl)(ds:List D)(k:Int)(R:D)(h4:¬k<4)(r0:aB R (.int 0)=some (.str "look")):aC [z0,z1,z2,z3,.ow ds,.fz (.int k),.fz R]=some (.nx,[z0,z1,z2,z3,.ow ds,.fz (.int k),.fz R]):=by
 have ne:neD (.str "look") (.str "look")=some (.bool false):=cB (c:=true) (by simp);simp[-ap,-cw,aF,aZ,aC,r0,h4,ne]
theorem Bh(z0 z1 z2 z3:Sl)(ds:List D)(k:Int)(R:D)(h4:k<4)(r0:aB R (.int 0)=some (.str "look"))(hs:ds.length<sizeLine):aC [z0,z1,z2,z3,.ow ds,.fz (.int k),.fz R]=some (.nx,[z0,z1,z2,z3,.ow (ds++[R]),.fz (.int (k+1)),.fz R]):=by
 have ne:neD (.str "look") (.str "look")=some (.bool false):=cB (c:=true) (by simp);have ne2:neD (.str "look") (.str "where")=some (.bool true):=cB (c:=false) (by simp);simp[-ap,-cw,aF,aZ,aC,r0,h4,hs,ne,ne2]
theorem rq(z0 z1 z2 z3:Sl)(ds:List D)(k m:Int)(R:D)(r0:aB R (.int 0)=some (.str "where"))(r1:aB R (.int 1)=some (.int m))(hm:m<k)(hs:ds.length<sizeLine):aC [z0,z1,z2,z3,.ow ds,.fz (.int k),.fz R]=some (.nx,[z0,z1,z2,z3,.ow (ds++[R]),.fz (.int k),.fz R]):=by
 have ne:neD (.str "where") (.str "look")=some (.bool true):=cB (c:=false) (by simp);have ne2:neD (.str "where") (.str "where")=some (.bool false):=cB (c:=true) (by simp);simp[-ap,-cw,aF,aZ,aC,r0,r1,hs,ne,ne2,hm]
theorem uU(z0 z1 z2 z3:Sl)(ds:List D)(k m:Int)(R:D)(r0:aB R (.int 0)=some (.str "where"))(r1:aB R (.int 1)=some (.int m))(hm:¬m<k):aC [z0,z1,z2,z3,.ow ds,.fz (.int k),.fz R]=some (.nx,[z0,z1,z2,z3,.ow ds,.fz (.int k),.fz R]):=by
 have ne:neD (.str "where") (.str "look")=some (.bool true):=cB (c:=false) (by simp);have ne2:neD (.str "where") (.str "where")=some (.bool false):=cB (c:=true) (by simp);simp[-ap,-cw,aF,aZ,aC,r0,r1,ne,ne2,hm]
theorem F5(z0 z1 z2 z3:Sl)(ds:List D)(k:Int)(R:D)(s:Str)(r0:aB R (.int 0)=some (.str s))(e1:bw (.str s) (.str "look")=some (.bool false))(e2:bw (.str s) (.str "where")=some (.bool false))(hs:ds.length<sizeLine):aC [z0,z1,z2,z3,.ow ds,.fz (.int k),.fz R]=some (.nx,[z0,z1,z2,z3,.ow (ds++[R]),.fz (.int k),.fz R]):=by
 have ne:neD (.str s) (.str "look")=some (.bool true):=cB e1;have ne2:neD (.str s) (.str "where")=some (.bool true):=cB e2;simp[-ap,-cw,aF,aZ,aC,r0,e1,ne,ne2,hs]
noncomputable def yz(rs:List Rw):Nat:=(rs.filter Rw.isLook).length
theorem pI(w:Nat)(z0 z1 z2 z3:Sl):∀(rs:List Rw) (l k:Nat) (ds:List D) (z6:Sl),uJ w l rs->k<=4->ds.length+rs.length<=1000->∃ts:List Rw,ts.length<=rs.length/\d5 w k ts/\k+yz ts<=4/\∃y6,loop (gN 6) aC (rs.map ez) [z0,z1,z2,z3,.ow ds,.fz (.int (k:Nat)),z6]=some (.nx,[z0,z1,z2,z3,.ow (ds++ts.map ez),.fz (.int ((k+yz ts:Nat):Int)),y6])
 |[],l,k,ds,z6,_,hk,_=>⟨[],Nat.le_refl _,trivial,hk,z6,by simp[yz]⟩
 |r::rs,l,k,ds,z6,ho,hk,hs=>by
  simp only[List.length_cons]at hs;have hl:ds.length<sizeLine:=by show _<16777216;omega
  have app:∀(k':Nat),r.ok w k->k'=k+(if r.isLook then 1 else 0)->k'<=4->aC [z0,z1,z2,z3,.ow ds,.fz (.int (k:Nat)),.fz (ez r)]=some (.nx,[z0,z1,z2,z3,.ow (ds++[ez r]),.fz (.int (k':Nat)),.fz (ez r)])->∃ts:List Rw,ts.length<=rs.length+1/\d5 w k ts/\k+yz ts<=4/\∃y6,loop (gN 6) aC ((r::rs).map ez) [z0,z1,z2,z3,.ow ds,.fz (.int (k:Nat)),z6]=some (.nx,[z0,z1,z2,z3,.ow (ds++ts.map ez),.fz (.int ((k+yz ts:Nat):Int)),y6]):=fun k' hok ek hk' st=>by
   obtain⟨ts,t1,t2,t3,y6,e⟩:=pI w z0 z1 z2 z3 rs _ k' (ds++[ez r]) (.fz (ez r)) ho.2 hk' (by rw[List.length_append,List.length_singleton];omega);have en:k+yz (r::ts)=k'+yz ts:=by
    unfold yz;rw[ek,List.filter_cons];split<;>simp<;>omega
   refine⟨r::ts,by simp only[List.length_cons];omega,⟨hok,ek ▸ t2⟩,by omega,y6,?_⟩;rw[List.map_cons,bU (δ1:=[z0,z1,z2,z3,.ow ds,.fz (.int (k:Nat)),.fz (ez r)]) (by simp) st,e,en];simp
  have skp:aC [z0,z1,z2,z3,.ow ds,.fz (.int (k:Nat)),.fz (ez r)]=some (.nx,[z0,z1,z2,z3,.ow ds,.fz (.int (k:Nat)),.fz (ez r)])->∃ts:List Rw,ts.length<=rs.length+1/\d5 w k ts/\k+yz ts<=4/\∃y6,loop (gN 6) aC ((r::rs).map ez) [z0,z1,z2,z3,.ow ds,.fz (.int (k:Nat)),z6]=some (.nx,[z0,z1,z2,z3,.ow (ds++ts.map ez),.fz (.int ((k+yz ts:Nat):Int)),y6]):=fun st=>by
   obtain⟨ts,t1,t2,t3,y6,e⟩:=pI w z0 z1 z2 z3 rs _ k ds (.fz (ez r)) ho.2 hk (by omega);exact⟨ts,by omega,t2,t3,y6,by rw[List.map_cons,bU (δ1:=[z0,z1,z2,z3,.ow ds,.fz (.int (k:Nat)),.fz (ez r)]) (by simp) st,e]⟩
  simp only[List.length_cons];cases r with
  |look j=>
   by_cases h4:k<4
   ·exact app (k+1) ⟨ho.1.1,by omega⟩ rfl (by omega) (Bh z0 z1 z2 z3 ds k _ (by omega) (at0 _ _) hl)
   ·exact skp (Bg z0 z1 z2 z3 ds k _ (by omega) (at0 _ _))
  |wflip m j=>
   by_cases h4:m<k
   ·exact app k ⟨h4,ho.1.2⟩ rfl hk (rq z0 z1 z2 z3 ds k m _ (at0 _ _) (zB _ _ _) (by omega) hl)
   ·exact skp (uU z0 z1 z2 z3 ds k m _ (at0 _ _) (zB _ _ _) (by omega))
  |wsign m j=>
   by_cases h4:m<k
   ·exact app k ⟨h4,ho.1.2⟩ rfl hk (rq z0 z1 z2 z3 ds k m _ (at0 _ _) (zB _ _ _) (by omega) hl)
   ·exact skp (uU z0 z1 z2 z3 ds k m _ (at0 _ _) (zB _ _ _) (by omega))
  |pl q=>
   obtain⟨s,h0,h1,h2,_⟩:=n9 (.pl q);exact app k ho.1 rfl hk (F5 z0 z1 z2 z3 ds k _ s h0 h1 h2 hl)
theorem H9(S B C Rs:D)(c c1 w M p l:Int)(L ds:List D)(y6:Sl)(h0:br [S,.int 0]=some (.int c))(hw:1+c%3=w)(sl:EH S (some 2) (some 14)=some B)(k1:bB [B,.int w,.bool false]=some C)(cr:aB C (.int 1)=some Rs)(it:df Rs=some L)(lp:loop (gN 6) aC L [.fz S,.fz (.int c),.fz (.int w),.fz C,.ow [],.fz (.int 0),.un]=some (.nx,[.fz S,.fz (.int c),.fz (.int w),.fz C,.ow ds,.fz (.int l),y6]))(h1:br [S,.int 1]=some (.int c1))(hs:dZ (.int 1) (.int w)=some (.int M))(hp:b5 (.int c1) (.int M)=some (.int p))(hz:ds.length<=sizeLine):bq [S]=some (.tuple [.int w,.tuple ds,.int p]):=by
 simp[-ap,-cw,aF,aZ,bq,aD,gr,aq,h0,hw,sl,k1,cr,it,lp,h1,hs,hp,wS,hz]
theorem rp(ns:List Int)(k:Int)(hk:0<=k):∃c,br [.list (ns.map .int),.int k]=some (.int c):=by
 by_cases h:k<ns.length
 ·have hk':k.toNat<ns.length:=by omega
  refine⟨ns[k.toNat],?_⟩;have e:ip (ns.map PyData.int) k=some (.int ns[k.toNat]):=d7 (j:=k.toNat) (by omega) (by simp[hk']);simp[br,aD,fw,aq,h,e]
 ·exact⟨0,by simp[br,aD,fw,aq,h]⟩
theorem BX(ns:List Int):∃cs:List Int,cs.length<=12/\EH (.list (ns.map .int)) (some 2) (some 14)=some (.list (cs.map .int)):=by
 refine⟨(ns.drop (HT.sIx ns.length 0 (some 2))).take (HT.sIx ns.length ns.length (some 14)-HT.sIx ns.length 0 (some 2)),?_,?_⟩
 ·rw[List.length_take,List.length_drop]
  have e1:HT.sIx ns.length 0 (some 2)=min 2 ns.length:=rfl;have e2:HT.sIx ns.length ns.length (some 14)=min 14 ns.length:=rfl;omega
 ·show some (PyData.list (nq _ _ _))=_
  unfold nq;rw[List.length_map,<-List.map_drop,<-List.map_take]
theorem zv(ns:List Int):∃(n p:Nat) (ts:List Rw),1<=n/\n<=3/\p<2^n/\ts.length<=12/\d5 n 0 ts/\yz ts<=4/\bq [.list (ns.map .int)]=some (.tuple [.int n,.tuple (ts.map ez),.int p]):=by
 obtain⟨c,hc⟩:=rp ns 0 (by decide);obtain⟨c1,hc1⟩:=rp ns 1 (by decide);obtain⟨n,hw⟩:∃w:Nat,1+c%3=(w:Int):=⟨(1+c%3).toNat,by omega⟩;obtain⟨cs,hcl,hsl⟩:=BX ns;obtain⟨rs,e1,e2,_,e4⟩:=yC n (by omega) false cs (by omega);obtain⟨ts,t1,t2,t3,y6,e⟩:=pI n (.fz (.list (ns.map .int))) (.fz (.int c)) (.fz (.int n)) (.fz (Es n rs)) rs 0 0 [] .un e2 (by omega) (by simp only[List.length_nil];omega);have hp0:(0:Int)<((2^n:Nat):Int):=by have:0<2^n:=Nat.pow_pos (by decide);omega
 have a1:=Int.emod_nonneg c1 (show((2^n:Nat):Int)≠0 by omega);have a2:=Int.emod_lt_of_pos c1 hp0;obtain⟨p,hp⟩:∃p:Nat,c1%((2^n:Nat):Int)=p:=⟨(c1%((2^n:Nat):Int)).toNat,by omega⟩;have em:=fO (i:=c1) hp0;rw[hp]at em a2;refine⟨n,p,ts,by omega,by omega,by omega,by omega,t2,by omega,?_⟩;rw[List.nil_append,Nat.zero_add]at e;exact H9 _ _ _ _ c c1 n _ p _ _ _ y6 hc hw hsl e4 (zB _ _ _) rfl e hc1 (xy n (by omega)) em (by rw[List.length_map,sizeLine_eq];omega)
theorem Eu{n p:Nat}(hp:p<2^n)(rs:List Rw)(ho:d5 n 0 rs)(hl:rs.length<=12):∃k q,k<=12/\∀b∈fV n p rs,Bd k q b.2:=by
 obtain⟨k',p',h1,h2,fi⟩:=kT (n:=n) rs 0 0 [([],MA.bz p)] (Ix p);refine⟨k',p',by omega,fun b hb=>?_⟩
 rw[r6 hp rs ho]at hb;exact fi.bd b (List.mem_filter.mp hb).1
theorem za{n p:Nat}(hp:p<2^n)(er rest:List Rw)(ho:d5 n 0 (er++rest))(hl:(er++rest).length<=12){b:Br}(hb:b∈fV n p er):eL 50 n (bp n rest [b])=MA.dA 50 n b.2:=by
 obtain⟨o1,o2⟩:=pA er rest 0 ho;rw[List.length_append]at hl;obtain⟨k,q,hk,bd⟩:=Eu hp er o1 (by omega);obtain⟨k2,p2,bi⟩:=mH (n:=n) p er o1;rw[Nat.zero_add]at o2;have b1:BI (er.filter Rw.isLook).length k q [b]:=⟨fun c hc=>by rw[List.mem_singleton.mp hc];exact bi.mks b hb,fun c hc=>by rw[List.mem_singleton.mp hc];exact bd b hb,by show 1<=_;exact Nat.pow_pos (by decide)⟩
 rw[g8 rest _ k q [b] o2 b1 (by omega)];show MA.S2.add (MA.dA 50 n b.2) ⟨0,0⟩=_;apply MA.S2.ext'<;>simp[MA.S2.add]
theorem vh(n p:Nat)(er rest:List Rw):fV n p (er++rest)=(fV n p er).flatMap fun b=>bp n rest [b]:=by
 unfold fV;rw[gD,nG n rest]
theorem CB{n p:Nat}(rs:List Rw)(ho:d5 n 0 rs)(hk:(rs.filter Rw.isLook).length<=4):(fV n p rs).length<=16:=by
 obtain⟨k2,p2,bi⟩:=mH (n:=n) p rs ho;exact Nat.le_trans bi.ln (Nat.le_trans (Nat.pow_le_pow_right (by decide) hk) (by decide))
theorem yo{n p:Nat}(hn:n<=6)(hp:p<2^n)(er rest:List Rw)(ho:d5 n 0 (er++rest))(hl:(er++rest).length<=12)(hk:((er++rest).filter Rw.isLook).length<=4)(h1:1<=(er.filter Rw.isLook).length):nM (.list ((fV n p (er++rest)).map fun b=>.tuple (fP (b.1.take (er.filter Rw.isLook).length))))=some (.list ((fV n p er).map fun b=>.tuple (fP b.1))):=by
 obtain⟨o1,o2⟩:=pA er rest 0 ho;obtain⟨k2,p2,bi⟩:=mH (n:=n) p er o1;have l16:=CB (n:=n) (p:=p) (er++rest) ho hk;have hl':=hl;rw[List.length_append]at hl';have bf:=pZ hn hp er o1 (by omega);have tk:∀b∈fV n p er,∀c∈bp n rest [b],c.1.take (er.filter Rw.isLook).length=b.1:=fun b hb c hc=>by
  obtain⟨y,hy,r,e⟩:=iS n rest [b] c hc;rw[List.mem_singleton.mp hy]at e;rw[e];exact qR (bi.mks b hb)
 have e1:(fV n p (er++rest)).map (fun b=>PyData.tuple (fP (b.1.take (er.filter Rw.isLook).length)))=((fV n p (er++rest)).map fun b=>b.1.take (er.filter Rw.isLook).length).map fun l=>.tuple (fP l):=by rw[List.map_map];rfl
 have e2:(fV n p er).map (fun b=>PyData.tuple (fP b.1))=((fV n p er).map (·.1)).map fun l=>.tuple (fP l):=by rw[List.map_map];rfl
 have mem:∀x,x∈((fV n p (er++rest)).map fun b=>b.1.take (er.filter Rw.isLook).length)↔x∈(fV n p er).map (·.1):=fun x=>by
  rw[vh];constructor
  ·intro h
   obtain⟨c,hc,rfl⟩:=List.mem_map.mp h;obtain⟨b,hb,hc⟩:=List.mem_flatMap.mp hc;exact List.mem_map.mpr ⟨b,hb,(tk b hb c hc).symm⟩
  ·intro h
   obtain⟨b,hb,rfl⟩:=List.mem_map.mp h;have hs:=za hp er rest ho hl hb;cases q:bp n rest [b]with
   |nil=>
    rw[q]at hs;have z:(MA.dA 50 n b.2).p=0:=by rw[<-hs];rfl
    exact absurd z (bf.nz b hb)
   |cons c cs=>
    have hc:c∈bp n rest [b]:=by rw[q];exact List.mem_cons_self
    exact List.mem_map.mpr ⟨c,List.mem_flatMap.mpr ⟨b,hb,hc⟩,tk b hb c hc⟩
 rw[e1,e2];refine xt (List.pairwise_map.mpr (wY p er)) mem (fun x hx=>?_) (by rw[List.length_map];omega);obtain⟨b,hb,rfl⟩:=List.mem_map.mp ((mem x).mp hx);intro z;have:=bi.mks b hb;rw[z,List.length_nil]at this;omega
theorem Ic(z0 z1 z2 z3 z6 z7:Sl)(LA m s:D)(k:Int)(L:List D)(T:D)(p:pc [z0,z1,z2,z3,.fz LA,.fz (.int k),z6,z7,.fz m,.fz s]=some (.list L))(g:aI [.list L]=some T)(e:aJ [T,s]=some (.bool true)):jP [z0,z1,z2,z3,.fz LA,.fz (.int k),z6,z7,.fz m,.fz s]=some (.nx,[z0,z1,z2,z3,.fz LA,.fz (.int k),z6,z7,.fz m,.fz s]):=by
 simp[-ap,-cw,aF,aZ,jP,p,g,e]
theorem uV{n:Nat}{LA:D}{k:Int}{z0 z1 z2 z3 z6 z7:Sl}:∀(bs:List Br) (y8 y9:Sl),(∀b∈bs,jP [z0,z1,z2,z3,.fz LA,.fz (.int k),z6,z7,.fz (.tuple (fP b.1)),.fz (wh n b)]=some (.nx,[z0,z1,z2,z3,.fz LA,.fz (.int k),z6,z7,.fz (.tuple (fP b.1)),.fz (wh n b)]))->∃z8 z9,loop (EX [gN 8,gN 9]) jP (bs.map (shD n)) [z0,z1,z2,z3,.fz LA,.fz (.int k),z6,z7,y8,y9]=some (.nx,[z0,z1,z2,z3,.fz LA,.fz (.int k),z6,z7,z8,z9])
 |[],y8,y9,_=>⟨y8,y9,rfl⟩
 |b::bs,y8,y9,h=>by
  obtain⟨z8,z9,e⟩:=uV bs (.fz (.tuple (fP b.1))) (.fz (wh n b)) fun c hc=>h c (List.mem_cons_of_mem _ hc)
  refine⟨z8,z9,?_⟩;rw[List.map_cons,bU (δ1:=[z0,z1,z2,z3,.fz LA,.fz (.int k),z6,z7,.fz (.tuple (fP b.1)),.fz (wh n b)]) (by rfl) (h b List.mem_cons_self)];exact e
theorem Ib(z0 z1 z4 z5 z7 z8 z9:Sl)(R r x:D)(p k:Int)(i:aB R (.int k)=some r)(i0:aB r (.int 0)=some x)(e:bw x (.str "look")=some (.bool false)):iA [z0,z1,.fz R,.fz (.int p),z4,z5,.fz (.int k),z7,z8,z9]=some (.nx,[z0,z1,.fz R,.fz (.int p),z4,z5,.fz (.int k),z7,z8,z9]):=by
 simp[-ap,-cw,aF,aZ,iA,i,i0,e]
theorem Ia(z0 z7 z8 z9 y8 y9:Sl)(R r RE LA:D)(w p k k1 l l1:Int)(EL WL ML TL:List D)(T:D)(i:aB R (.int k)=some r)(i0:aB r (.int 0)=some (.str "look"))(hl:l+1=l1)(hk:k+1=k1)(sl:EH R none (some k1)=some RE)(g:aT [.tuple [.int w,RE],.int p]=some (.list EL))(p2:ph [z0,.fz (.int w),.fz R,.fz (.int p),.fz LA,.fz (.int l1),.fz (.int k),.fz (.list EL),z8,z9]=some (.list WL))(g2:aI [.list WL]=some T)(e2:aJ [T,.tuple [.int 1,.int 0,.int 0]]=some (.bool true))
  (p3:pg [z0,.fz (.int w),.fz R,.fz (.int p),.fz LA,.fz (.int l1),.fz (.int k),.fz (.list EL),z8,z9]=some (.list ML)) (p4:pf [z0,.fz (.int w),.fz R,.fz (.int p),.fz LA,.fz (.int l1),.fz (.int k),.fz (.list EL),z8,z9]=some (.list TL)) (s:nM (.list TL)=some (.list ML)) (ne:neD (.list ML) (.list ML)=some (.bool false))
  (lp:loop (EX [gN 8,gN 9]) jP EL [z0,.fz (.int w),.fz R,.fz (.int p),.fz LA,.fz (.int l1),.fz (.int k),.fz (.list EL),z8,z9]=some (.nx,[z0,.fz (.int w),.fz R,.fz (.int p),.fz LA,.fz (.int l1),.fz (.int k),.fz (.list EL),y8,y9])):iA [z0,.fz (.int w),.fz R,.fz (.int p),.fz LA,.fz (.int l),.fz (.int k),z7,z8,z9]=some (.nx,[z0,.fz (.int w),.fz R,.fz (.int p),.fz LA,.fz (.int l1),.fz (.int k),.fz (.list EL),y8,y9]):=by
 simp[-ap,-cw,aF,aZ,iA,i,i0,hl,hk,sl,g,p2,g2,e2,p3,p4,s,ne,lp]
theorem Az{bs:List Br}:MA.Sh 3 (.list (bs.map fun b=>PyData.tuple (fP b.1))):=MA.Sh.list fun x hx=>by
 obtain⟨b,_,rfl⟩:=List.mem_map.mp hx;exact Ck 1 b.1
theorem Dc(pre C:List Rw)(r:Rw):aB (.tuple ((pre++r::C).map ez)) (.int (pre.length:Int))=some (ez r):=by
 show ip _ _=_;exact d7 (j:=pre.length) rfl (by rw[List.map_append,List.getElem?_append_right (by rw[List.length_map];exact Nat.le_refl _),List.length_map,Nat.sub_self];rfl)
theorem Fn(r:Rw):∃s:Str,aB (ez r) (.int 0)=some (.str s)/\bw (.str s) (.str "look")=some (.bool r.isLook):=uz r
theorem lZ{n p:Nat}(hn:n<=6)(hp:p<2^n)(rs:List Rw)(ho:d5 n 0 rs)(hl:rs.length<=12)(hk:(rs.filter Rw.isLook).length<=4)(z0:Sl):∀(C pre:List Rw) (y6 z7 z8 z9:Sl),rs=pre++C->∃y5 w6 w7 w8 w9,loop (gN 6) iA ((List.range' pre.length C.length).map fun k:Nat=>PyData.int (0+(k:Int))) [z0,.fz (.int (n:Int)),.fz (.tuple (rs.map ez)),.fz (.int (p:Int)),.fz (.list ((fV n p rs).map (shD n))),.fz (.int ((pre.filter Rw.isLook).length:Int)),y6,z7,z8,z9]=some (.nx,[z0,.fz (.int (n:Int)),.fz (.tuple (rs.map ez)),.fz (.int (p:Int)),.fz (.list ((fV n p rs).map (shD n))),y5,w6,w7,w8,w9])
 |[],pre,y6,z7,z8,z9,_=>⟨_,y6,z7,z8,z9,rfl⟩
 |r::C,pre,y6,z7,z8,z9,e=>by
  have z:PyData.int (0+((pre.length:Nat):Int))=PyData.int (pre.length:Int):=by rw[Int.zero_add]
  have ia:=Dc pre C r;rw[<-e]at ia;have e':rs=(pre++[r])++C:=by rw[e,List.append_assoc];rfl
  cases hr:r.isLook with
  |false=>
   obtain⟨s,i0,i1⟩:=Fn r;rw[hr]at i1;obtain⟨y5,w6,w7,w8,w9,h⟩:=lZ hn hp rs ho hl hk z0 C (pre++[r]) (.fz (.int (pre.length:Int))) z7 z8 z9 e';refine⟨y5,w6,w7,w8,w9,?_⟩;have st:=Ib z0 (.fz (.int (n:Int))) (.fz (.list ((fV n p rs).map (shD n)))) (.fz (.int ((pre.filter Rw.isLook).length:Int))) z7 z8 z9 (.tuple (rs.map ez)) (ez r) (.str s) (p:Int) (pre.length:Int) ia i0 i1;rw[List.length_cons,List.range'_succ,List.map_cons,z,bU (δ1:=[z0,.fz (.int (n:Int)),.fz (.tuple (rs.map ez)),.fz (.int (p:Int)),.fz (.list ((fV n p rs).map (shD n))),.fz (.int ((pre.filter Rw.isLook).length:Int)),.fz (.int (pre.length:Int)),z7,z8,z9]) (by rfl) st];have fl:(pre++[r]).filter Rw.isLook=pre.filter Rw.isLook:=by rw[List.filter_append,List.filter_cons,hr];simp
   rw[fl,List.length_append]at h;exact h
  |true=>
   have fl:((pre++[r]).filter Rw.isLook).length=(pre.filter Rw.isLook).length+1:=by rw[List.filter_append,List.length_append,List.filter_cons,hr];simp
   have ho':d5 n 0 ((pre++[r])++C):=by rw[<-e'];exact ho
   have hl':((pre++[r])++C).length<=12:=by rw[<-e'];exact hl
   have hk':(((pre++[r])++C).filter Rw.isLook).length<=4:=by rw[<-e'];exact hk
   obtain⟨o1,o2⟩:=pA (pre++[r]) C 0 ho';have hl1:(pre++[r]).length<=12:=by rw[List.length_append]at hl';omega
   have bf:=pZ hn hp (pre++[r]) o1 hl1;have bfl:=pZ hn hp rs ho hl;have l16:=CB (n:=n) (p:=p) rs ho hk;have lne:=bf.ln;obtain⟨k2,p2,bi⟩:=mH (n:=n) p (pre++[r]) o1;obtain⟨T,t1,t2⟩:=um bf (vg hp (pre++[r]) o1 hl1);have i0:aB (ez r) (.int 0)=some (.str "look"):=by
    cases r with
    |look j=>rfl
    |_=>cases hr
   have ms:=yo hn hp (pre++[r]) C ho' hl' hk' (by omega);rw[<-e',fl]at ms;have cutr:=tR (rs.map ez) (pre.length+1) ((pre.length:Int)+1) (by push_cast;rfl);rw[<-List.map_take,show rs.take (pre.length+1)=pre++[r]by rw[e'];exact List.take_left' (by simp)]at cutr;have kc:(((pre.filter Rw.isLook).length+1:Nat):Int)=((pre.filter Rw.isLook).length:Int)+1:=by push_cast;rfl
   obtain⟨y8,y9,lp⟩:=uV (n:=n) (LA:=.list ((fV n p rs).map (shD n))) (k:=((pre.filter Rw.isLook).length:Int)+1) (z0:=z0) (z1:=.fz (.int (n:Int))) (z2:=.fz (.tuple (rs.map ez))) (z3:=.fz (.int (p:Int))) (z6:=.fz (.int (pre.length:Int))) (z7:=.fz (.list ((fV n p (pre++[r])).map (shD n)))) (fV n p (pre++[r])) z8 z9 (fun b hb=>by
    have ff:((fV n p rs).filter fun c=>decide (c.1.take ((pre.filter Rw.isLook).length+1)=b.1))=bp n C [b]:=by
     rw[e',vh];exact oj C _ b hb (fun c hc=>by rw[<-fl];exact bi.mks c hc) (CW (wY p _))
    have sub:∀c∈bp n C [b],c∈fV n p rs:=fun c hc=>by
     rw[<-ff]at hc;exact(List.mem_filter.mp hc).1
    have ll:(bp n C [b]).length<=64:=by
     rw[<-ff];exact Nat.le_trans (List.length_filter_le _ _) (by omega)
    obtain⟨T2,u1,u2⟩:=C1 (bfl.sub sub ll) (bf.t b hb) (za hp (pre++[r]) C ho' hl' hb);rw[<-ff]at u1;exact Ic _ _ _ _ _ _ _ _ _ _ _ _ (FE _ kc (fV n p rs) (by omega) b.1 _ _ _ _ _ _ _) u1 u2)
   have st:=Ia z0 z7 z8 z9 y8 y9 (.tuple (rs.map ez)) (ez r) (.tuple ((pre++[r]).map ez)) (.list ((fV n p rs).map (shD n))) (n:Int) (p:Int) (pre.length:Int) ((pre.length:Int)+1) ((pre.filter Rw.isLook).length:Int) (((pre.filter Rw.isLook).length:Int)+1) ((fV n p (pre++[r])).map (shD n)) _ _ _ T ia i0 rfl rfl cutr (nN hn (pre++[r]) o1 hl1 bf) (FJ _ (by omega) _ _ _ _ _ _ _ _ _) t1 t2 (FH _ (by omega) _ _ _ _ _ _ _ _ _) (FG _ kc _ (by omega) _ _ _ _ _ _ _ _) ms (A7 Az (by decide)) lp;obtain⟨y5,w6,w7,w8,w9,h⟩:=lZ hn hp rs ho hl hk z0 C (pre++[r]) (.fz (.int (pre.length:Int))) (.fz (.list ((fV n p (pre++[r])).map (shD n)))) y8 y9 e';refine⟨y5,w6,w7,w8,w9,?_⟩;rw[List.length_cons,List.range'_succ,List.map_cons,z,bU (δ1:=[z0,.fz (.int (n:Int)),.fz (.tuple (rs.map ez)),.fz (.int (p:Int)),.fz (.list ((fV n p rs).map (shD n))),.fz (.int ((pre.filter Rw.isLook).length:Int)),.fz (.int (pre.length:Int)),z7,z8,z9]) (by rfl) st];rw[fl,kc,List.length_append]at h;exact h
theorem F6(S R:D)(RL EL WL L:List D)(T:D)(w p k:Int)(z5 z6 z7 z8 z9:Sl)(b:bq [S]=some (.tuple [.int w,.tuple RL,.int p]))(g:aT [.tuple [.int w,.tuple RL],.int p]=some (.list EL))(p1:pi [.fz S,.fz (.int w),.fz (.tuple RL),.fz (.int p),.fz (.list EL),.un,.un,.un,.un,.un]=some (.list WL))(t1:aI [.list WL]=some T)(t2:aJ [T,.tuple [.int 1,.int 0,.int 0]]=some (.bool true))(ln:(RL.length:Int)=k)(r:da [.int k]=some L)(lp:loop (gN 6) iA L [.fz S,.fz (.int w),.fz (.tuple RL),.fz (.int p),.fz (.list EL),.fz (.int 0),.un,.un,.un,.un]=some (.nx,[.fz S,.fz (.int w),.fz (.tuple RL),.fz (.int p),.fz (.list EL),z5,z6,z7,z8,z9])):u5 [S]=some (.bool true):=by
 refine DN rfl (δ':=[.fz S,.fz (.int w),.fz (.tuple RL),.fz (.int p),.fz (.list EL),z5,z6,z7,z8,z9]) ?_;unfold zA;rw[jM (δ':=[.fz S,.fz (.int w),.fz (.tuple RL),.fz (.int p),.un,.un,.un,.un,.un,.un]) (by
  show(_:Option D).bind _=_;rw[show(VL.os (ac (oV 0) (ak)) bq) (aq kr [S])=some (.tuple [.int w,.tuple RL,.int p])from b];rfl),jM (δ':=[.fz S,.fz (.int w),.fz (.tuple RL),.fz (.int p),.fz (.list EL),.un,.un,.un,.un,.un]) (by simp[g]),jM (δ':=[.fz S,.fz (.int w),.fz (.tuple RL),.fz (.int p),.fz (.list EL),.un,.un,.un,.un,.un]) (by simp[-ap,-cw,aF,aZ,p1,t1,t2]),jM (δ':=[.fz S,.fz (.int w),.fz (.tuple RL),.fz (.int p),.fz (.list EL),.fz (.int 0),.un,.un,.un,.un]) (by rfl)]
 have hf:(oL (ac (VL.os (ac (oV 2) (ak)) eV) (ak)) da) [.fz S,.fz (.int w),.fz (.tuple RL),.fz (.int p),.fz (.list EL),.fz (.int 0),.un,.un,.un,.un]=some L:=by
  unfold oL;rw[show(ac (VL.os (ac (oV 2) (ak)) eV) (ak)) [.fz S,.fz (.int w),.fz (.tuple RL),.fz (.int p),.fz (.list EL),.fz (.int 0),.un,.un,.un,.un]=some [.int k]by simp[ln]];exact r
 rw[jM (δ':=[.fz S,.fz (.int w),.fz (.tuple RL),.fz (.int p),.fz (.list EL),z5,z6,z7,z8,z9]) (by
  show(_:Option (List D)).bind _=_;rw[hf];exact lp)]
 rfl
theorem law_true(ns:List Int)(hl:ns.length<=63):u5 [.list (ns.map .int)]=some (.bool true):=by
 obtain⟨n,p,rs,n1,n3,hp,rl,ho,hk,hb⟩:=zv ns;have hn:n<=6:=by omega
 have bf:=pZ hn hp rs ho rl;have ln:=bf.ln;obtain⟨T,t1,t2⟩:=um bf (vg hp rs ho rl);obtain⟨y5,w6,w7,w8,w9,h⟩:=lZ hn hp rs ho rl hk (.fz (.list (ns.map .int))) rs [] .un .un .un .un rfl;exact F6 _ (.tuple (rs.map ez)) _ _ _ _ T _ _ (rs.length:Int) y5 w6 w7 w8 w9 hb (nN hn rs ho rl bf) (FK _ (by omega) _ _ _ _ _ _ _ _ _) t1 t2 (by rw[List.length_map]) (by rw[nP (j:=(rs.length:Int)) (by omega) (by omega),Int.toNat_natCast];show some ((List.range rs.length).map fun k:Nat=>PyData.int (0+(k:Int)))=_;rw[List.range_eq_range'];rfl) h
end GN
namespace GN
open PySem PySem.Spec PyProof.Rows L2 VL
structure Txt (mg:Str->Option Value):Prop where
 min:mg "min" = none
 max:mg "max" = none
 tuple:mg "tuple" = none
 range:mg "range" = none
 len:mg "len" = none
 all:mg "all" = none
 int:mg "int" = none
 sum:mg "sum" = none
 sorted:mg "sorted" = none
 set_:mg "set" = none
section
variable{P:Program}{w:World}{K:PySem.W.Frag}{mg:Str->Option Value}{base:Heap}
theorem lH:FnScope iq ["joined","most"] (ag dN):=⟨rfl,rfl,rfl,by decide +kernel,rfl,by decide +kernel,by decide +kernel⟩
theorem lM{f:Addr}{fd:FuncData}{dV:Value}(F:FunV K "twos_shared" "twos_shared" dN f fd dV)(T:Txt mg):FnOk P w K mg base dy 1 f fd ["joined","most"] (dS K aR):=
 cv (k:=0) (b:=dR) F lH fun cdv A outer s H E hr=>(ah (ca (aK (dM hr.units) (aa 0) ae (aG _)) (ao (az (aa 1))) bC) (ao (az (bh (GH rfl) rfl T.min (by decide +kernel) (ab (aa 1) (ab (ai cE (pT (ai ot (aa 0) (jm jq (aa 0)))) ae) af))))))
theorem sL:FnScope oG ["a","b","c","d"] (ag hV):=⟨rfl,rfl,rfl,by decide +kernel,rfl,by decide +kernel,by decide +kernel⟩
theorem sV{f:Addr}{fd:FuncData}{dV:Value}(F:FunV K "by_root" "by_root" hV f fd dV)(T:Txt mg):FnOk P w K mg base dy 1 f fd ["a","b","c","d"] (dS K cK):=
 cv (k:=0) (b:=j4) F sL fun cdv A outer s H E hr=>(ao (az (aL (ab (ai cE (aa 1) (aa 3)) (ab (ai bW (aa 0) (aa 2)) (ab (ai bW (aa 1) (aa 3)) (ab (ai cE (aa 2) (aa 0)) af)))))))
theorem sc_number:FnScope mS ["a","b","c","d","k"] (ag fL):=⟨rfl,rfl,rfl,by decide +kernel,rfl,by decide +kernel,by decide +kernel⟩
theorem vX{f:Addr}{fd:FuncData}{dV:Value}(F:FunV K "number" "number" fL f fd dV)(T:Txt mg)(C_twos_shared:Cal P w K mg base "twos_shared" 1 aR [])(C_by_root:Cal P w K mg base "by_root" 1 cK []):FnOk P w K mg base dy 2 f fd ["a","b","c","d","k"] (dS K dq):=
 cv (k:=1) (b:=jw) F sc_number fun cdv A outer s H E hr=>(ah (aA 5 sc_number.nd (aw C_twos_shared (hr.mono (by decide)) rfl (ab (ai wD (ai wD (ai wD (aa 0) (aa 1)) (aa 2)) (aa 3)) (ab (ai gv (aa 4) ae) af)))) (ah (aA 0 sc_number.nd (ai oq (aa 0) (aa 5))) (ah (aA 1 sc_number.nd (ai oq (aa 1) (aa 5))) (ah (aA 2 sc_number.nd (ai oq (aa 2) (aa 5))) (ah (aA 3 sc_number.nd (ai oq (aa 3) (aa 5))) (ah (aA 4 sc_number.nd (ai cE (aa 4) (ai cN ae (aa 5)))) (ah (ca (WV.tv (nD (aK (dM hr.units) (aa 4) ae (aG _)) (nD (aK (dM hr.units) (ai cF (ai cE (aa 0) (aa 2)) ae) ae (aG _)) (kZ (aK (dM hr.units) (ai cF (ai cE (aa 1) (aa 3)) ae) ae (aG _)))))) (ao (az (aL (ab (aa 0) (ab (aa 1) (ab (aa 2) (ab (aa 3) (ab (aa 4) af)))))))) bC) (ah (aA 6 sc_number.nd (aw C_by_root (hr.mono (by decide)) rfl (ab (aa 0) (ab (aa 1) (ab (aa 2) (ab (aa 3) af)))))) (ao (az (aL (ab (ai gv (aj ar (aa 6) ae (fun _ _=>rfl)) ae) (ab (ai gv (aj ar (aa 6) ae (fun _ _=>rfl)) ae) (ab (ai gv (aj ar (aa 6) ae (fun _ _=>rfl)) ae) (ab (ai gv (aj ar (aa 6) ae (fun _ _=>rfl)) ae) (ab (ai cE (aa 4) ae) af))))))))))))))))
theorem sc_parts_over_ring:FnScope fA ["x","k"] (ag cn):=⟨rfl,rfl,rfl,by decide +kernel,rfl,by decide +kernel,by decide +kernel⟩
theorem iy{f:Addr}{fd:FuncData}{dV:Value}(F:FunV K "parts_over" "parts_over" cn f fd dV)(T:Txt mg)(C_by_root:Cal P w K mg base "by_root" 1 cK []):FnOk P w K mg base dy 2 f fd ["x","k"] (dS K aQ):=
 cv (k:=1) (b:=cu) F sc_parts_over_ring fun cdv A outer s H E hr=>(ah (aA 2 sc_parts_over_ring.nd (ai cE (aa 1) (aj ar (aa 0) ae (fun _ _=>rfl)))) (ah (aA 3 sc_parts_over_ring.nd (ai gv (aa 2) ae)) (ah (aA 4 sc_parts_over_ring.nd (ai eP (aj ar (aa 0) ae (fun _ _=>rfl)) (aa 3))) (ah (aA 5 sc_parts_over_ring.nd (ai eP (aj ar (aa 0) ae (fun _ _=>rfl)) (aa 3))) (ah (aA 6 sc_parts_over_ring.nd (ai eP (aj ar (aa 0) ae (fun _ _=>rfl)) (aa 3))) (ah (aA 7 sc_parts_over_ring.nd (ai eP (aj ar (aa 0) ae (fun _ _=>rfl)) (aa 3))) (ah (ca (aK (dM hr.units) (ai cF (aa 2) ae) ae (aG _)) (ao (az (aw C_by_root (hr.mono (by decide)) rfl (ab (aa 4) (ab (aa 5) (ab (aa 6) (ab (aa 7) af))))))) bC) (ao (az (aL (ab (aa 4) (ab (aa 5) (ab (aa 6) (ab (aa 7) af))))))))))))))
theorem sc_plus:FnScope zJ ["x","y"] (ag o5):=⟨rfl,rfl,rfl,by decide +kernel,rfl,by decide +kernel,by decide +kernel⟩
theorem AY{f:Addr}{fd:FuncData}{dV:Value}(F:FunV K "plus" "plus" o5 f fd dV)(T:Txt mg)(C_parts_over_ring:Cal P w K mg base "parts_over_ring" 2 aQ [])(C_number:Cal P w K mg base "number" 2 dq []):FnOk P w K mg base dy 3 f fd ["x","y"] (dS K fC):=
 cv (k:=2) (b:=ub) F sc_plus fun cdv A outer s H E hr=>(ah (aA 2 sc_plus.nd (bh (zu rfl) rfl T.max (by decide +kernel) (ab (aj ar (aa 0) ae (fun _ _=>rfl)) (ab (aj ar (aa 1) ae (fun _ _=>rfl)) af)))) (ah (aA 3 sc_plus.nd (aw C_parts_over_ring (hr.mono (by decide)) rfl (ab (aa 0) (ab (aa 2) af)))) (ah (aA 4 sc_plus.nd (aw C_parts_over_ring (hr.mono (by decide)) rfl (ab (aa 1) (ab (aa 2) af)))) (ao (az (aw C_number (hr.mono (by decide)) rfl (ab (ai bW (aj ar (aa 3) ae (fun _ _=>rfl)) (aj ar (aa 4) ae (fun _ _=>rfl))) (ab (ai bW (aj ar (aa 3) ae (fun _ _=>rfl)) (aj ar (aa 4) ae (fun _ _=>rfl))) (ab (ai bW (aj ar (aa 3) ae (fun _ _=>rfl)) (aj ar (aa 4) ae (fun _ _=>rfl))) (ab (ai bW (aj ar (aa 3) ae (fun _ _=>rfl)) (aj ar (aa 4) ae (fun _ _=>rfl))) (ab (aa 2) af)))))))))))
theorem sM:FnScope oH ["x"] (ag hX):=⟨rfl,rfl,rfl,by decide +kernel,rfl,by decide +kernel,by decide +kernel⟩
theorem sW{f:Addr}{fd:FuncData}{dV:Value}(F:FunV K "against" "against" hX f fd dV)(T:Txt mg):FnOk P w K mg base dy 1 f fd ["x"] (dS K de):=
 cv (k:=0) (b:=j5) F sM fun cdv A outer s H E hr=>(ao (az (aL (ab (jm jq (aj ar (aa 0) ae (fun _ _=>rfl))) (ab (jm jq (aj ar (aa 0) ae (fun _ _=>rfl))) (ab (jm jq (aj ar (aa 0) ae (fun _ _=>rfl))) (ab (jm jq (aj ar (aa 0) ae (fun _ _=>rfl))) (ab (aj ar (aa 0) ae (fun _ _=>rfl)) af))))))))
theorem sc_turned:FnScope su ["x","e"] (ag i3):=⟨rfl,rfl,rfl,by decide +kernel,rfl,by decide +kernel,by decide +kernel⟩
theorem vV{f:Addr}{fd:FuncData}{dV:Value}(F:FunV K "turned" "turned" i3 f fd dV)(T:Txt mg):FnOk P w K mg base dy 1 f fd ["x","e"] (dS K cS):=
 cv (k:=0) (b:=mN) F sc_turned fun cdv A outer s H E hr=>(ah (aA 2 sc_turned.nd (aL (ab (aj ar (aa 0) ae (fun _ _=>rfl)) (ab (aj ar (aa 0) ae (fun _ _=>rfl)) (ab (aj ar (aa 0) ae (fun _ _=>rfl)) (ab (aj ar (aa 0) ae (fun _ _=>rfl)) (ab (jm jq (aj ar (aa 0) ae (fun _ _=>rfl))) (ab (jm jq (aj ar (aa 0) ae (fun _ _=>rfl))) (ab (jm jq (aj ar (aa 0) ae (fun _ _=>rfl))) (ab (jm jq (aj ar (aa 0) ae (fun _ _=>rfl))) af)))))))))) (ao (az (aL (ab (aj ar (aa 2) (ai cF (ai cE ae (aa 1)) ae) (fun _ _=>rfl)) (ab (aj ar (aa 2) (ai cF (ai cE ae (aa 1)) ae) (fun _ _=>rfl)) (ab (aj ar (aa 2) (ai cF (ai cE ae (aa 1)) ae) (fun _ _=>rfl)) (ab (aj ar (aa 2) (ai cF (ai cE ae (aa 1)) ae) (fun _ _=>rfl)) (ab (aj ar (aa 0) ae (fun _ _=>rfl)) af)))))))))
theorem vL:FnScope sv ["x"] (ag i4):=⟨rfl,rfl,rfl,by decide +kernel,rfl,by decide +kernel,by decide +kernel⟩
theorem vY{f:Addr}{fd:FuncData}{dV:Value}(F:FunV K "halved" "halved" i4 f fd dV)(T:Txt mg)(C_number:Cal P w K mg base "number" 2 dq []):FnOk P w K mg base dy 3 f fd ["x"] (dS K cT):=
 cv (k:=2) (b:=mP) F vL fun cdv A outer s H E hr=>(ao (az (aw C_number (hr.mono (by decide)) rfl (ab (aj ar (aa 0) ae (fun _ _=>rfl)) (ab (aj ar (aa 0) ae (fun _ _=>rfl)) (ab (aj ar (aa 0) ae (fun _ _=>rfl)) (ab (aj ar (aa 0) ae (fun _ _=>rfl)) (ab (ai bW (aj ar (aa 0) ae (fun _ _=>rfl)) ae) af))))))))
theorem sc_share:FnScope vt ["p","q","k"] (ag hG):=⟨rfl,rfl,rfl,by decide +kernel,rfl,by decide +kernel,by decide +kernel⟩
theorem yi{f:Addr}{fd:FuncData}{dV:Value}(F:FunV K "share" "share" hG f fd dV)(T:Txt mg)(C_twos_shared:Cal P w K mg base "twos_shared" 1 aR []):FnOk P w K mg base dy 2 f fd ["p","q","k"] (dS K cY):=
 cv (k:=1) (b:=qg) F sc_share fun cdv A outer s H E hr=>(ah (aA 3 sc_share.nd (aw C_twos_shared (hr.mono (by decide)) rfl (ab (ai wD (aa 0) (aa 1)) (ab (aa 2) af)))) (ao (az (aL (ab (ai oq (aa 0) (aa 3)) (ab (ai oq (aa 1) (aa 3)) (ab (ai cE (aa 2) (aa 3)) af)))))))
theorem sc_parts_over_shares:FnScope eB ["x","k"] (ag bQ):=⟨rfl,rfl,rfl,by decide +kernel,rfl,by decide +kernel,by decide +kernel⟩
theorem gI{f:Addr}{fd:FuncData}{dV:Value}(F:FunV K "parts_over" "parts_over" bQ f fd dV)(T:Txt mg):FnOk P w K mg base dy 1 f fd ["x","k"] (dS K aP):=
 cv (k:=0) (b:=cP) F sc_parts_over_shares fun cdv A outer s H E hr=>(ah (aA 2 sc_parts_over_shares.nd (ai cE (aa 1) (aj ar (aa 0) ae (fun _ _=>rfl)))) (ao (az (aL (ab (ai eP (aj ar (aa 0) ae (fun _ _=>rfl)) (aa 2)) (ab (ai eP (aj ar (aa 0) ae (fun _ _=>rfl)) (aa 2)) af))))))
theorem sc_share_plus:FnScope jz ["x","y"] (ag eG):=⟨rfl,rfl,rfl,by decide +kernel,rfl,by decide +kernel,by decide +kernel⟩
theorem m6{f:Addr}{fd:FuncData}{dV:Value}(F:FunV K "share_plus" "share_plus" eG f fd dV)(T:Txt mg)(C_parts_over_shares:Cal P w K mg base "parts_over_shares" 1 aP [])(C_share:Cal P w K mg base "share" 2 cY []):FnOk P w K mg base dy 3 f fd ["x","y"] (dS K cJ):=
 cv (k:=2) (b:=gi) F sc_share_plus fun cdv A outer s H E hr=>(ah (aA 2 sc_share_plus.nd (bh (zu rfl) rfl T.max (by decide +kernel) (ab (aj ar (aa 0) ae (fun _ _=>rfl)) (ab (aj ar (aa 1) ae (fun _ _=>rfl)) af)))) (ah (aA 3 sc_share_plus.nd (aw C_parts_over_shares (hr.mono (by decide)) rfl (ab (aa 0) (ab (aa 2) af)))) (ah (aA 4 sc_share_plus.nd (aw C_parts_over_shares (hr.mono (by decide)) rfl (ab (aa 1) (ab (aa 2) af)))) (ao (az (aw C_share (hr.mono (by decide)) rfl (ab (ai bW (aj ar (aa 3) ae (fun _ _=>rfl)) (aj ar (aa 4) ae (fun _ _=>rfl))) (ab (ai bW (aj ar (aa 3) ae (fun _ _=>rfl)) (aj ar (aa 4) ae (fun _ _=>rfl))) (ab (aa 2) af)))))))))
theorem sc_size_of:FnScope oF ["x"] (ag hE):=⟨rfl,rfl,rfl,by decide +kernel,rfl,by decide +kernel,by decide +kernel⟩
theorem sS{f:Addr}{fd:FuncData}{dV:Value}(F:FunV K "size_of" "size_of" hE f fd dV)(T:Txt mg)(C_share:Cal P w K mg base "share" 2 cY []):FnOk P w K mg base dy 3 f fd ["x"] (dS K dL):=
 cv (k:=2) (b:=j2) F sc_size_of fun cdv A outer s H E hr=>(ah (aA 1 sc_size_of.nd (ai bW (ai bW (ai bW (ai cN (aj ar (aa 0) ae (fun _ _=>rfl)) (aj ar (aa 0) ae (fun _ _=>rfl))) (ai cN (aj ar (aa 0) ae (fun _ _=>rfl)) (aj ar (aa 0) ae (fun _ _=>rfl)))) (ai cN (aj ar (aa 0) ae (fun _ _=>rfl)) (aj ar (aa 0) ae (fun _ _=>rfl)))) (ai cN (aj ar (aa 0) ae (fun _ _=>rfl)) (aj ar (aa 0) ae (fun _ _=>rfl))))) (ah (aA 2 sc_size_of.nd (ai cE (ai bW (ai bW (ai cN (aj ar (aa 0) ae (fun _ _=>rfl)) (aj ar (aa 0) ae (fun _ _=>rfl))) (ai cN (aj ar (aa 0) ae (fun _ _=>rfl)) (aj ar (aa 0) ae (fun _ _=>rfl)))) (ai cN (aj ar (aa 0) ae (fun _ _=>rfl)) (aj ar (aa 0) ae (fun _ _=>rfl)))) (ai cN (aj ar (aa 0) ae (fun _ _=>rfl)) (aj ar (aa 0) ae (fun _ _=>rfl))))) (ao (az (aw C_share (hr.mono (by decide)) rfl (ab (aa 1) (ab (aa 2) (ab (aj ar (aa 0) ae (fun _ _=>rfl)) af))))))))
theorem xF:FnScope vo ["wires","wire"] (ag kN):=⟨rfl,rfl,rfl,by decide +kernel,rfl,by decide +kernel,by decide +kernel⟩
theorem yf{f:Addr}{fd:FuncData}{dV:Value}(F:FunV K "worth" "worth" kN f fd dV)(T:Txt mg):FnOk P w K mg base dy 1 f fd ["wires","wire"] (dS K cW):=
 cv (k:=0) (b:=qd) F xF fun cdv A outer s H E hr=>(ao (az (ai eP ae (ai cE (ai cE (aa 0) ae) (aa 1)))))
theorem o0:FnScope gW ["wires","place"] (ag cA):=⟨rfl,rfl,rfl,by decide +kernel,rfl,by decide +kernel,by decide +kernel⟩
theorem pz{f:Addr}{fd:FuncData}{dV:Value}(F:FunV K "beginning" "beginning" cA f fd dV)(T:Txt mg)(T_NOUGHT:TopV K mg "NOUGHT" (.tuple [.int 0,.int 0,.int 0,.int 0,.int 0]))(T_ONE:TopV K mg "ONE" (.tuple [.int 1,.int 0,.int 0,.int 0,.int 0])):FnOk P w K mg base dy 1 f fd ["wires","place"] (dS K bJ):=
 cv (k:=0) (b:=gR) F o0 fun cdv A outer s H E hr=>(ao (az (ck fm rfl T.tuple (by decide +kernel) (ab (cq (vars:=["p"]) (caps:=[(1,"place")]) (by change BlkOk (ag cA).names gW _ _ _;exact⟨rfl,by decide +kernel,by decide +kernel,by decide +kernel,by decide +kernel⟩) rfl (dI rfl T.range (ab (ai eP ae (aa 0)) af)) cl (fun _ _ _ _=>bm (i:=0) (show(["p","place"]:List Str).Nodup by decide +kernel) rfl (Or.inl rfl) (.inr rfl)) (fun _ _ _ _=>(iF (aK (dM hr.units) (aa 0) (aa 1) (aG _)) (kU T_ONE rfl) (kU T_NOUGHT rfl)))) af))))
theorem sc_swung:FnScope vq ["state","bit"] (ag kP):=⟨rfl,rfl,rfl,by decide +kernel,rfl,by decide +kernel,by decide +kernel⟩
theorem yh{f:Addr}{fd:FuncData}{dV:Value}(F:FunV K "swung" "swung" kP f fd dV)(T:Txt mg)(C_halved:Cal P w K mg base "halved" 3 cT [])(C_plus:Cal P w K mg base "plus" 3 fC [])(C_against:Cal P w K mg base "against" 1 de []):FnOk P w K mg base dy 4 f fd ["state","bit"] (dS K fg):=
 cv (k:=3) (b:=qf) F sc_swung fun cdv A outer s H E hr=>(ah (oT 2 sc_swung.nd af) (ah (gE PassesOwn.never rfl (dI rfl T.range (ab (bh js rfl T.len (by decide +kernel) (ab (aa 0) af)) af)) (cV 3 sc_swung.nd) (ao (ca (aK (dM hr.units) (ai ot (aa 3) (aa 1)) ae (aG _)) (ao (oU 2 (aw C_halved (hr.mono (by decide)) rfl (ab (aw C_plus (hr.mono (by decide)) rfl (ab (aj ar (aa 0) (aa 3) (fun _ _=>rfl)) (ab (aj ar (aa 0) (ai vc (aa 3) (aa 1)) (fun _ _=>rfl)) af))) af)))) (ao (oU 2 (aw C_halved (hr.mono (by decide)) rfl (ab (aw C_plus (hr.mono (by decide)) rfl (ab (aj ar (aa 0) (ai vc (aa 3) (aa 1)) (fun _ _=>rfl)) (ab (aw C_against (hr.mono (by decide)) rfl (ab (aj ar (aa 0) (aa 3) (fun _ _=>rfl)) af)) af))) af))))))) (ao (uq 2 (az (ck fm rfl T.tuple (by decide +kernel) (ab (aa 2) af)))))))
theorem kx:FnScope eT ["state","held","e"] (ag cy):=⟨rfl,rfl,rfl,by decide +kernel,rfl,by decide +kernel,by decide +kernel⟩
theorem kz{f:Addr}{fd:FuncData}{dV:Value}(F:FunV K "turned_where" "turned_where" cy f fd dV)(T:Txt mg)(C_turned:Cal P w K mg base "turned" 1 cS []):FnOk P w K mg base dy 2 f fd ["state","held","e"] (dS K aS):=
 cv (k:=1) (b:=eQ) F kx fun cdv A outer s H E hr=>(ao (az (ck fm rfl T.tuple (by decide +kernel) (ab (cq (vars:=["p"]) (caps:=[(0,"state"),(1,"held"),(2,"e")]) (by change BlkOk (ag cy).names eT _ _ _;exact⟨rfl,by decide +kernel,by decide +kernel,by decide +kernel,by decide +kernel⟩) rfl (dI rfl T.range (ab (bh js rfl T.len (by decide +kernel) (ab (aa 0) af)) af)) cl (fun _ _ _ _=>bm (i:=0) (show(["p","state","held","e"]:List Str).Nodup by decide +kernel) rfl (Or.inl rfl) (.inr rfl)) (fun _ _ _ _=>(iF (aK (dM hr.units) (ai ot (aa 0) (aa 2)) (aa 2) (aG _)) (aw C_turned (hr.mono (by decide)) rfl (ab (aj ar (aa 1) (aa 0) (fun _ _=>rfl)) (ab (aa 3) af))) (aj ar (aa 1) (aa 0) (fun _ _=>rfl))))) af))))
theorem jG:FnScope d9 ["state","held","bit"] (ag cb):=⟨rfl,rfl,rfl,by decide +kernel,rfl,by decide +kernel,by decide +kernel⟩
theorem jK{f:Addr}{fd:FuncData}{dV:Value}(F:FunV K "flipped_where" "flipped_where" cb f fd dV)(T:Txt mg):FnOk P w K mg base dy 1 f fd ["state","held","bit"] (dS K aN):=
 cv (k:=0) (b:=d6) F jG fun cdv A outer s H E hr=>(ao (az (ck fm rfl T.tuple (by decide +kernel) (ab (cq (vars:=["p"]) (caps:=[(0,"state"),(1,"held"),(2,"bit")]) (by change BlkOk (ag cb).names d9 _ _ _;exact⟨rfl,by decide +kernel,by decide +kernel,by decide +kernel,by decide +kernel⟩) rfl (dI rfl T.range (ab (bh js rfl T.len (by decide +kernel) (ab (aa 0) af)) af)) cl (fun _ _ _ _=>bm (i:=0) (show(["p","state","held","bit"]:List Str).Nodup by decide +kernel) rfl (Or.inl rfl) (.inr rfl)) (fun _ _ _ _=>(iF (aK (dM hr.units) (ai ot (aa 0) (aa 2)) (aa 2) (aG _)) (aj ar (aa 1) (ai vc (aa 0) (aa 3)) (fun _ _=>rfl)) (aj ar (aa 1) (aa 0) (fun _ _=>rfl))))) af))))
theorem oZ:FnScope kt ["place","both"] (ag eX):=⟨rfl,rfl,rfl,by decide +kernel,rfl,by decide +kernel,by decide +kernel⟩
theorem px{f:Addr}{fd:FuncData}{dV:Value}(F:FunV K "exchanged" "exchanged" eX f fd dV)(T:Txt mg):FnOk P w K mg base dy 1 f fd ["place","both"] (dS K bI):=
 cv (k:=0) (b:=fq) F oZ fun cdv A outer s H E hr=>(ao (az (iF (aK GG (ai ot (aa 0) (aa 1)) (aL (ab ae (ab (aa 1) af))) (by with_unfolding_all rfl)) (aa 0) (ai vc (aa 0) (aa 1)))))
theorem sc_done:FnScope ug ["state","row"] (ag lK):=⟨rfl,rfl,rfl,by decide +kernel,rfl,by decide +kernel,by decide +kernel⟩
theorem AZ{f:Addr}{fd:FuncData}{dV:Value}(F:FunV K "done" "done" lK f fd dV)(T:Txt mg)(C_worth:Cal P w K mg base "worth" 1 cW [])(C_swung:Cal P w K mg base "swung" 4 fg [])(C_turned_where:Cal P w K mg base "turned_where" 2 aS [])(C_flipped_where:Cal P w K mg base "flipped_where" 1 aN [])(C_exchanged:Cal P w K mg base "exchanged" 1 bI []):FnOk P w K mg base dy 5 f fd ["state","row"] (dS K cm):=
 cv (k:=4) (b:=gQ) F sc_done fun cdv A outer s H E hr=>(ah (aA 2 sc_done.nd (ai cE (pT (bh js rfl T.len (by decide +kernel) (ab (aa 0) af))) ae)) (ah (aA 3 sc_done.nd (aw C_worth (hr.mono (by decide)) rfl (ab (aa 2) (ab (aj ar (aa 1) ae (fun _ _=>rfl)) af)))) (ah (ca (aK (dM hr.units) (aj ar (aa 1) ae (fun _ _=>rfl)) bo (aG _)) (ao (az (aw C_swung (hr.mono (by decide)) rfl (ab (aa 0) (ab (aa 3) af))))) bC) (ah (ca (aK (dM hr.units) (aj ar (aa 1) ae (fun _ _=>rfl)) bo (aG _)) (ao (az (aw C_turned_where (hr.mono (by decide)) rfl (ab (aa 0) (ab (aa 3) (ab (aj ar (aa 1) ae (fun _ _=>rfl)) af)))))) bC) (ah (ca (aK (dM hr.units) (aj ar (aa 1) ae (fun _ _=>rfl)) bo (aG _)) (ao (az (aw C_flipped_where (hr.mono (by decide)) rfl (ab (aa 0) (ab ae (ab (aa 3) af)))))) bC) (ah (aA 4 sc_done.nd (aw C_worth (hr.mono (by decide)) rfl (ab (aa 2) (ab (aj ar (aa 1) ae (fun _ _=>rfl)) af)))) (ah (ca (aK (dM hr.units) (aj ar (aa 1) ae (fun _ _=>rfl)) bo (aG _)) (ao (az (aw C_flipped_where (hr.mono (by decide)) rfl (ab (aa 0) (ab (aa 3) (ab (aa 4) af)))))) bC) (ah (ca (aK (dM hr.units) (aj ar (aa 1) ae (fun _ _=>rfl)) bo (aG _)) (ao (az (aw C_turned_where (hr.mono (by decide)) rfl (ab (aa 0) (ab (ai wD (aa 3) (aa 4)) (ab ae af)))))) bC) (ao (az (ck fm rfl T.tuple (by decide +kernel) (ab (cq (vars:=["p"]) (caps:=[(0,"state"),(3,"first"),(4,"second")]) (by change BlkOk (ag lK).names ug _ _ _;exact⟨rfl,by decide +kernel,by decide +kernel,by decide +kernel,by decide +kernel⟩) rfl (dI rfl T.range (ab (bh js rfl T.len (by decide +kernel) (ab (aa 0) af)) af)) cl (fun _ _ _ _=>bm (i:=0) (show(["p","state","first","second"]:List Str).Nodup by decide +kernel) rfl (Or.inl rfl) (.inr rfl)) (fun _ _ _ _=>(aj ar (aa 1) (aw C_exchanged (hr.mono (by decide)) rfl (ab (aa 0) (ab (ai wD (aa 2) (aa 3)) af))) (fun _ _=>rfl)))) af))))))))))))
theorem sc_whole:FnScope vp ["state"] (ag kO):=⟨rfl,rfl,rfl,by decide +kernel,rfl,by decide +kernel,by decide +kernel⟩
theorem yg{f:Addr}{fd:FuncData}{dV:Value}(F:FunV K "whole" "whole" kO f fd dV)(T:Txt mg)(C_share_plus:Cal P w K mg base "share_plus" 3 cJ [])(C_size_of:Cal P w K mg base "size_of" 3 dL []):FnOk P w K mg base dy 4 f fd ["state"] (dS K cX):=
 cv (k:=3) (b:=qe) F sc_whole fun cdv A outer s H E hr=>(ah (aA 1 sc_whole.nd (aL (ab ae (ab ae (ab ae af))))) (ah (gE PassesOwn.never rfl (b6 (aa 0)) (cV 2 sc_whole.nd) (ao (aA 1 sc_whole.nd (aw C_share_plus (hr.mono (by decide)) rfl (ab (aa 1) (ab (aw C_size_of (hr.mono (by decide)) rfl (ab (aa 2) af)) af)))))) (ao (az (aa 1)))))
theorem sc_left_by:FnScope j8 ["state","bit","mark"] (ag fM):=⟨rfl,rfl,rfl,by decide +kernel,rfl,by decide +kernel,by decide +kernel⟩
theorem sT{f:Addr}{fd:FuncData}{dV:Value}(F:FunV K "left_by" "left_by" fM f fd dV)(T:Txt mg)(T_NOUGHT:TopV K mg "NOUGHT" (.tuple [.int 0,.int 0,.int 0,.int 0,.int 0])):FnOk P w K mg base dy 1 f fd ["state","bit","mark"] (dS K bV):=
 cv (k:=0) (b:=ig) F sc_left_by fun cdv A outer s H E hr=>(ah (aA 3 sc_left_by.nd (iF (aK (dM hr.units) (aa 2) ae (aG _)) (aa 1) ae)) (ao (az (ck fm rfl T.tuple (by decide +kernel) (ab (cq (vars:=["p"]) (caps:=[(0,"state"),(1,"bit"),(3,"found")]) (by change BlkOk (ag fM).names j8 _ _ _;exact⟨rfl,by decide +kernel,by decide +kernel,by decide +kernel,by decide +kernel⟩) rfl (dI rfl T.range (ab (bh js rfl T.len (by decide +kernel) (ab (aa 0) af)) af)) cl (fun _ _ _ _=>bm (i:=0) (show(["p","state","bit","found"]:List Str).Nodup by decide +kernel) rfl (Or.inl rfl) (.inr rfl)) (fun _ _ _ _=>(iF (aK (dM hr.units) (ai ot (aa 0) (aa 2)) (aa 3) (aG _)) (aj ar (aa 1) (aa 0) (fun _ _=>rfl)) (kU T_NOUGHT rfl)))) af)))))
theorem oY:FnScope gU ["state"] (ag dU):=⟨rfl,rfl,rfl,by decide +kernel,rfl,by decide +kernel,by decide +kernel⟩
theorem pv{f:Addr}{fd:FuncData}{dV:Value}(F:FunV K "is_nought" "is_nought" dU f fd dV)(T:Txt mg)(T_NOUGHT:TopV K mg "NOUGHT" (.tuple [.int 0,.int 0,.int 0,.int 0,.int 0])):FnOk P w K mg base dy 1 f fd ["state"] (dS K dc):=
 cv (k:=0) (b:=gP) F oY fun cdv A outer s H E hr=>(ao (az (bh (GI rfl) rfl T.all (by decide +kernel) (ab (cq (vars:=["x"]) (caps:=[]) (by change BlkOk (ag dU).names gU _ _ _;exact⟨rfl,by decide +kernel,by decide +kernel,by decide +kernel,by decide +kernel⟩) rfl (b6 (aa 0)) cl (fun _ _ _ _=>bm (i:=0) (show(["x"]:List Str).Nodup by decide +kernel) rfl (Or.inl rfl) (.inr rfl)) (fun _ _ _ _=>(pS (dM hr.units) (aa 0) (kU T_NOUGHT rfl) (aG _)))) af))))
theorem sc_parted:FnScope N_parted ["branch","wire"] (ag fK):=⟨rfl,rfl,rfl,by decide +kernel,rfl,by decide +kernel,by decide +kernel⟩
theorem vW{f:Addr}{fd:FuncData}{dV:Value}(F:FunV K "parted" "parted" fK f fd dV)(T:Txt mg)(C_worth:Cal P w K mg base "worth" 1 cW [])(C_left_by:Cal P w K mg base "left_by" 1 bV [])(C_is_nought:Cal P w K mg base "is_nought" 1 dc []):FnOk P w K mg base dy 2 f fd ["branch","wire"] (dS K dn):=
 cv (k:=1) (b:=mO) F sc_parted fun cdv A outer s H E hr=>(ah (aA 2 sc_parted.nd (aw C_worth (hr.mono (by decide)) rfl (ab (ai cE (pT (bh js rfl T.len (by decide +kernel) (ab (aj ar (aa 0) ae (fun _ _=>rfl)) af))) ae) (ab (aa 1) af)))) (ah (ur 3 sc_parted.nd (vars:=["mark"]) (caps:=[(0,"branch"),(2,"bit")]) (by change BlkOk (ag fK).names N_parted _ _ _;exact⟨rfl,by decide +kernel,by decide +kernel,by decide +kernel,by decide +kernel⟩) rfl (b6 (aL (ab ae (ab ae af)))) cl (fun _ _ _ _=>bm (i:=0) (show(["mark","branch","bit"]:List Str).Nodup by decide +kernel) rfl (Or.inl rfl) (.inr rfl)) (fun _ _ _ _=>(aL (ab (ai bW (aj ar (aa 1) ae (fun _ _=>rfl)) (aL (ab (aa 0) af))) (ab (aw C_left_by (hr.mono (by decide)) rfl (ab (aj ar (aa 1) ae (fun _ _=>rfl)) (ab (aa 2) (ab (aa 0) af)))) af))))) (ao (az (rP (vars:=["pair"]) (caps:=[]) (by change BlkOk (ag fK).names N_parted _ _ _;exact⟨rfl,by decide +kernel,by decide +kernel,by decide +kernel,by decide +kernel⟩) rfl (b6 (aa 3)) cl (fun _ _ _ _=>bm (i:=0) (show(["pair"]:List Str).Nodup by decide +kernel) rfl (Or.inl rfl) (.inr rfl)) (fun _ _ _ _=>(oO (lA (aw C_is_nought (hr.mono (by decide)) rfl (ab (aj ar (aa 0) ae (fun _ _=>rfl)) af))))) (fun _ _ _ _=>(aa 0)))))))
theorem sK:FnScope N_gone_on ["branch","row"] (ag hJ):=⟨rfl,rfl,rfl,by decide +kernel,rfl,by decide +kernel,by decide +kernel⟩
theorem sU{f:Addr}{fd:FuncData}{dV:Value}(F:FunV K "gone_on" "gone_on" hJ f fd dV)(T:Txt mg)(C_done:Cal P w K mg base "done" 5 cm []):FnOk P w K mg base dy 6 f fd ["branch","row"] (dS K bG):=
 cv (k:=5) (b:=j3) F sK fun cdv A outer s H E hr=>(ao (az (aL (ab (aj ar (aa 0) ae (fun _ _=>rfl)) (ab (aw C_done (hr.mono (by decide)) rfl (ab (aj ar (aa 0) ae (fun _ _=>rfl)) (ab (aa 1) af))) af)))))
theorem lJ:FnScope ir ["branch","row","go"] (ag dO):=⟨rfl,rfl,rfl,by decide +kernel,rfl,by decide +kernel,by decide +kernel⟩
theorem lO{f:Addr}{fd:FuncData}{dV:Value}(F:FunV K "due_gone_on" "due_gone_on" dO f fd dV)(T:Txt mg)(V_gone_on:CalF P w K mg base "gone_on" 6 bG):FnOk P w K mg base dy 7 f fd ["branch","row","go"] (dS K aW):=
 cv (k:=6) (b:=cU) F lJ fun cdv A outer s H E hr=>(ah (ca (aK (BW hr.units) (aj ar (aa 1) ae (fun _ _=>rfl)) bo (aG _)) (ao (az (mw 2 (k:=6) (pN (by decide) V_gone_on tJ) (hr.mono (by decide)) (ab (aa 0) (ab (aa 1) af))))) bC) (ao (az (iF (aK (dM hr.units) (aj ar (aj ar (aa 0) ae (fun _ _=>rfl)) (aj ar (aa 1) ae (fun _ _=>rfl)) (fun _ _=>rfl)) ae (aG _)) (mw 2 (k:=6) (pN (by decide) V_gone_on tJ) (hr.mono (by decide)) (ab (aa 0) (ab (aj ar (aa 1) ae (fun _ _=>rfl)) af))) (aa 0)))))
theorem sc_gone_through:FnScope eU ["rows","begun","part","go"] (ag cz):=⟨rfl,rfl,rfl,by decide +kernel,rfl,by decide +kernel,by decide +kernel⟩
theorem kA{f:Addr}{fd:FuncData}{dV:Value}(F:FunV K "gone_through" "gone_through" cz f fd dV)(T:Txt mg)(C_due_gone_on:Cal P w K mg base "due_gone_on" 7 aW [])(V_parted:CalF P w K mg base "parted" 2 dn):FnOk P w K mg base dy 8 f fd ["rows","begun","part","go"] (dS K bA):=
 cv (k:=7) (b:=eR) F sc_gone_through fun cdv A outer s H E hr=>(ah (aA 4 sc_gone_through.nd (pR (ab (aa 1) af))) (ah (gE PassesOwn.never rfl (b6 (aa 0)) (cV 5 sc_gone_through.nd) (ao (ca (aK (dM hr.units) (aj ar (aa 5) ae (fun _ _=>rfl)) bo (aG _)) (ah (oT 6 sc_gone_through.nd af) (ah (gE PassesOwn.never rfl (b6 (aa 4)) (cV 7 sc_gone_through.nd) (ao (Aw 6 (mw 2 (k:=2) (pN (by decide) V_parted tJ) (hr.mono (by decide)) (ab (aa 7) (ab (aj ar (aa 5) ae (fun _ _=>rfl)) af)))))) (ao (uq 6 (aA 4 sc_gone_through.nd (aa 6)))))) (ao (ur 4 sc_gone_through.nd (vars:=["branch"]) (caps:=[(3,"go"),(5,"row")]) (by change BlkOk (ag cz).names eU _ _ _;exact⟨rfl,by decide +kernel,by decide +kernel,by decide +kernel,by decide +kernel⟩) rfl (b6 (aa 4)) cl (fun _ _ _ _=>bm (i:=0) (show(["branch","go","row"]:List Str).Nodup by decide +kernel) rfl (Or.inl rfl) (.inr rfl)) (fun _ _ _ _=>(aw C_due_gone_on (hr.mono (by decide)) rfl (ab (aa 0) (ab (aa 2) (ab (aa 1) af)))))))))) (ao (az (aa 4)))))
theorem qN:FnScope mT ["circuit","place"] (ag dH):=⟨rfl,rfl,rfl,by decide +kernel,rfl,by decide +kernel,by decide +kernel⟩
theorem qU{f:Addr}{fd:FuncData}{dV:Value}(F:FunV K "branches" "branches" dH f fd dV)(T:Txt mg)(C_gone_through:Cal P w K mg base "gone_through" 8 bA [])(C_beginning:Cal P w K mg base "beginning" 1 bJ [])(N_gone_on:Fnm K mg "gone_on")(N_parted:Fnm K mg "parted"):FnOk P w K mg base dy 9 f fd ["circuit","place"] (dS K b7):=
 cv (k:=8) (b:=iK) F qN fun cdv A outer s H E hr=>(ao (az (aw C_gone_through (hr.mono (by decide)) rfl (ab (aj ar (aa 0) ae (fun _ _=>rfl)) (ab (aL (ab (aL af) (ab (aw C_beginning (hr.mono (by decide)) rfl (ab (aj ar (aa 0) ae (fun _ _=>rfl)) (ab (aa 1) af))) af))) (ab (rO N_parted rfl) (ab (rO N_gone_on rfl) af)))))))
theorem lI:FnScope fH ["circuit","place"] (ag bL):=⟨rfl,rfl,rfl,by decide +kernel,rfl,by decide +kernel,by decide +kernel⟩
theorem lN{f:Addr}{fd:FuncData}{dV:Value}(F:FunV K "mark_shares" "mark_shares" bL f fd dV)(T:Txt mg)(C_whole:Cal P w K mg base "whole" 4 cX [])(C_branches:Cal P w K mg base "branches" 9 b7 []):FnOk P w K mg base dy 10 f fd ["circuit","place"] (dS K aT):=
 cv (k:=9) (b:=fG) F lI fun cdv A outer s H E hr=>(ao (az (cq (vars:=["branch"]) (caps:=[]) (by change BlkOk (ag bL).names fH _ _ _;exact⟨rfl,by decide +kernel,by decide +kernel,by decide +kernel,by decide +kernel⟩) rfl (b6 (aw C_branches (hr.mono (by decide)) rfl (ab (aa 0) (ab (aa 1) af)))) cl (fun _ _ _ _=>bm (i:=0) (show(["branch"]:List Str).Nodup by decide +kernel) rfl (Or.inl rfl) (.inr rfl)) (fun _ _ _ _=>(aL (ab (aj ar (aa 0) ae (fun _ _=>rfl)) (ab (aw C_whole (hr.mono (by decide)) rfl (ab (aj ar (aa 0) ae (fun _ _=>rfl)) af)) af)))))))
theorem o4:FnScope kw ["script","k"] (ag eZ):=⟨rfl,rfl,rfl,by decide +kernel,rfl,by decide +kernel,by decide +kernel⟩
theorem pC{f:Addr}{fd:FuncData}{dV:Value}(F:FunV K "_law_cell" "_law_cell" eZ f fd dV)(T:Txt mg):FnOk P w K mg base dy 1 f fd ["script","k"] (dS K br):=
 cv (k:=0) (b:=fw) F o4 fun cdv A outer s H E hr=>(ah (ca (aK pW (aa 1) (bh js rfl T.len (by decide +kernel) (ab (aa 0) af)) (aG _)) (ao (az (aj ar (aa 0) (aa 1) (fun _ _=>rfl)))) bC) (ao (az ae)))
theorem sc__law_turn:FnScope ku ["cell","prime"] (ag eY):=⟨rfl,rfl,rfl,by decide +kernel,rfl,by decide +kernel,by decide +kernel⟩
theorem pB{f:Addr}{fd:FuncData}{dV:Value}(F:FunV K "_law_turn" "_law_turn" eY f fd dV)(T:Txt mg):FnOk P w K mg base dy 1 f fd ["cell","prime"] (dS K cD):=
 cv (k:=0) (b:=gS) F sc__law_turn fun cdv A outer s H E hr=>(ah (aA 2 sc__law_turn.nd (ai cF (aa 0) ae)) (ao (az (ai cF (ai cN (ai bW (aa 2) ae) (ai bW (aa 2) ae)) (aa 1)))))
theorem sc__law_row:FnScope mU ["cell","wires","looks","plain"] (ag fX):=⟨rfl,rfl,rfl,by decide +kernel,rfl,by decide +kernel,by decide +kernel⟩
theorem qV{f:Addr}{fd:FuncData}{dV:Value}(F:FunV K "_law_row" "_law_row" fX f fd dV)(T:Txt mg)(C__law_turn:Cal P w K mg base "_law_turn" 1 cD []):FnOk P w K mg base dy 2 f fd ["cell","wires","looks","plain"] (dS K aE):=
 cv (k:=1) (b:=bD) F sc__law_row fun cdv A outer s H E hr=>(ah (aA 4 sc__law_row.nd (ai gv (aw C__law_turn (hr.mono (by decide)) rfl (ab (aa 0) (ab ae af))) ae)) (ah (aA 5 sc__law_row.nd (ai cF (ai gv (aa 4) ae) (aa 1))) (ah (aA 6 sc__law_row.nd (ai cF (ai bW (ai bW (aa 5) ae) (ai cF (ai gv (aa 4) ae) (bh (zu rfl) rfl T.max (by decide +kernel) (ab ae (ab (ai cE (aa 1) ae) af))))) (aa 1))) (ah (ca (aK pW (ai cF (aa 0) ae) ae (aG _)) (ao (az (aL (ab bo (ab (aa 5) af))))) bC) (ah (ca (aK pW (ai cF (aa 0) ae) ae (aG _)) (ao (az (aL (ab bo (ab (aa 5) (ab (ai bW ae (ai cF (ai gv (aa 4) ae) ae)) af)))))) bC) (ah (ca (WV.tv (wU (xa pW pW ae (ai cF (aa 0) ae) ae) (uh (aK Iz (aa 1) ae (aG _))))) (ao (az (aL (ab (aj ar (pR (ab bo (ab bo (ab bo (ab bo (ab bo af)))))) (ai cE (ai cF (aa 0) ae) ae) (fun _ _=>rfl)) (ab (aa 6) (ab (aa 5) af)))))) bC) (ah (ca (WV.tv (nD (aK (dM hr.units) (ai cF (aa 0) ae) ae (aG _)) (kZ (lA (aa 3))))) (ao (az (aL (ab bo (ab (aa 5) af))))) bC) (ah (ca (WV.tv (wU (aK pW (aa 2) ae (aG _)) (uh (WV.tv (nD (aK pW (ai cF (aa 0) ae) ae (aG _)) (kZ (aK (dM hr.units) (aa 2) ae (aG _)))))))) (ao (az (aL (ab bo (ab (aa 5) af))))) bC) (ah (ca (aK (dM hr.units) (aa 2) ae (aG _)) (ao (az (aL (ab bo (ab (aa 5) af))))) bC) (ao (az (aL (ab bo (ab (ai cF (ai gv (aa 4) ae) (aa 2)) (ab (aj ar (pR (ab (aL (ab bo (ab (aa 5) af))) (ab (aL (ab bo (ab (aa 5) (ab ae af)))) af))) (ai cF (ai gv (aa 4) ae) ae) (fun _ _=>rfl)) af)))))))))))))))
theorem sc__law_circuit:FnScope gX ["cells","wires","plain"] (ag dh):=⟨rfl,rfl,rfl,by decide +kernel,rfl,by decide +kernel,by decide +kernel⟩
theorem kB{f:Addr}{fd:FuncData}{dV:Value}(F:FunV K "_law_circuit" "_law_circuit" dh f fd dV)(T:Txt mg)(C__law_row:Cal P w K mg base "_law_row" 2 aE []):FnOk P w K mg base dy 3 f fd ["cells","wires","plain"] (dS K bB):=
 cv (k:=2) (b:=eS) F sc__law_circuit fun cdv A outer s H E hr=>(ah (oT 3 sc__law_circuit.nd af) (ah (aA 4 sc__law_circuit.nd ae) (ah (gE PassesOwn.never rfl (b6 (aa 0)) (cV 5 sc__law_circuit.nd) (ah (aA 6 sc__law_circuit.nd (aw C__law_row (hr.mono (by decide)) rfl (ab (aa 5) (ab (aa 1) (ab (aa 4) (ab (aa 2) af)))))) (ah (aA 4 sc__law_circuit.nd (ai bW (aa 4) (ck CQ rfl T.int (by decide +kernel) (ab (pS (dM hr.units) (aj ar (aa 6) ae (fun _ _=>rfl)) bo (aG _)) af)))) (ao (oU 3 (aa 6)))))) (ao (uq 3 (az (aL (ab (aa 1) (ab (ck fm rfl T.tuple (by decide +kernel) (ab (aa 3) af)) af)))))))))
theorem sc__law_begun:FnScope jB ["script"] (ag eI):=⟨rfl,rfl,rfl,by decide +kernel,rfl,by decide +kernel,by decide +kernel⟩
theorem m9{f:Addr}{fd:FuncData}{dV:Value}(F:FunV K "_law_begun" "_law_begun" eI f fd dV)(T:Txt mg)(C__law_cell:Cal P w K mg base "_law_cell" 1 br [])(C__law_circuit:Cal P w K mg base "_law_circuit" 3 bB []):FnOk P w K mg base dy 4 f fd ["script"] (dS K bq):=
 cv (k:=3) (b:=gr) F sc__law_begun fun cdv A outer s H E hr=>(ah (aA 1 sc__law_begun.nd (aw C__law_cell (hr.mono (by decide)) rfl (ab (aa 0) (ab ae af)))) (ah (aA 2 sc__law_begun.nd (ai bW ae (ai cF (aa 1) ae))) (ah (aA 3 sc__law_begun.nd (aw C__law_circuit (hr.mono (by decide)) rfl (ab (jn (aa 0) (i9 ae) (i9 ae)) (ab (aa 2) (ab om af))))) (ah (oT 4 sc__law_begun.nd af) (ah (aA 5 sc__law_begun.nd ae) (ah (gE PassesOwn.never rfl (b6 (aj ar (aa 3) ae (fun _ _=>rfl))) (cV 6 sc__law_begun.nd) (ao (ca (WV.tv (nD (aK (BW hr.units) (aj ar (aa 6) ae (fun _ _=>rfl)) bo (aG _)) (kZ (aK pW (aa 5) ae (aG _))))) (ah (aA 5 sc__law_begun.nd (ai bW (aa 5) (ck CQ rfl T.int (by decide +kernel) (ab (pS (dM hr.units) (aj ar (aa 6) ae (fun _ _=>rfl)) bo (aG _)) af)))) (ao (ca (WV.tv (nD (aK (BW hr.units) (aj ar (aa 6) ae (fun _ _=>rfl)) bo (aG _)) (kZ (aK pW (aj ar (aa 6) ae (fun _ _=>rfl)) (aa 5) (aG _))))) (ao (oU 4 (aa 6))) bC))) bC))) (ao (uq 4 (az (aL (ab (aa 2) (ab (ck fm rfl T.tuple (by decide +kernel) (ab (aa 4) af)) (ab (ai cF (aw C__law_cell (hr.mono (by decide)) rfl (ab (aa 0) (ab ae af))) (ai eP ae (aa 2))) af)))))))))))))
theorem sc__law_total:FnScope dw ["sizes"] (ag bY):=⟨rfl,rfl,rfl,by decide +kernel,rfl,by decide +kernel,by decide +kernel⟩
theorem m7{f:Addr}{fd:FuncData}{dV:Value}(F:FunV K "_law_total" "_law_total" bY f fd dV)(T:Txt mg):FnOk P w K mg base dy 1 f fd ["sizes"] (dS K aI):=
 cv (k:=0) (b:=gk) F sc__law_total fun cdv A outer s H E hr=>(ah (aA 1 sc__law_total.nd (bh (Et rfl) rfl T.max (by decide +kernel) (ab (ai bW (pR (ab ae af)) (cq (vars:=["size"]) (caps:=[]) (by change BlkOk (ag bY).names dw _ _ _;exact⟨rfl,by decide +kernel,by decide +kernel,by decide +kernel,by decide +kernel⟩) rfl (b6 (aa 0)) cl (fun _ _ _ _=>bm (i:=0) (show(["size"]:List Str).Nodup by decide +kernel) rfl (Or.inl rfl) (.inr rfl)) (fun _ _ _ _=>(aj ar (aa 0) ae (fun _ _=>rfl))))) af))) (ah (aA 2 sc__law_total.nd (bh (CP rfl) rfl T.sum (by decide +kernel) (ab (cq (vars:=["size"]) (caps:=[(1,"most")]) (by change BlkOk (ag bY).names dw _ _ _;exact⟨rfl,by decide +kernel,by decide +kernel,by decide +kernel,by decide +kernel⟩) rfl (b6 (aa 0)) cl (fun _ _ _ _=>bm (i:=0) (show(["size","most"]:List Str).Nodup by decide +kernel) rfl (Or.inl rfl) (.inr rfl)) (fun _ _ _ _=>(ai cN (aj ar (aa 0) ae (fun _ _=>rfl)) (ai eP ae (ai cE (aa 1) (aj ar (aa 0) ae (fun _ _=>rfl))))))) af))) (ah (aA 3 sc__law_total.nd (bh (CP rfl) rfl T.sum (by decide +kernel) (ab (cq (vars:=["size"]) (caps:=[(1,"most")]) (by change BlkOk (ag bY).names dw _ _ _;exact⟨rfl,by decide +kernel,by decide +kernel,by decide +kernel,by decide +kernel⟩) rfl (b6 (aa 0)) cl (fun _ _ _ _=>bm (i:=0) (show(["size","most"]:List Str).Nodup by decide +kernel) rfl (Or.inl rfl) (.inr rfl)) (fun _ _ _ _=>(ai cN (aj ar (aa 0) ae (fun _ _=>rfl)) (ai eP ae (ai cE (aa 1) (aj ar (aa 0) ae (fun _ _=>rfl))))))) af))) (ao (az (aL (ab (aa 2) (ab (aa 3) (ab (aa 1) af)))))))))
theorem sc__law_equal:FnScope jA ["one","other"] (ag eH):=⟨rfl,rfl,rfl,by decide +kernel,rfl,by decide +kernel,by decide +kernel⟩
theorem m8{f:Addr}{fd:FuncData}{dV:Value}(F:FunV K "_law_equal" "_law_equal" eH f fd dV)(T:Txt mg):FnOk P w K mg base dy 1 f fd ["one","other"] (dS K aJ):=
 cv (k:=0) (b:=gm) F sc__law_equal fun cdv A outer s H E hr=>(ah (aA 2 sc__law_equal.nd (aL (ab (ai cN (aj ar (aa 0) ae (fun _ _=>rfl)) (ai eP ae (aj ar (aa 1) ae (fun _ _=>rfl)))) (ab (ai cN (aj ar (aa 0) ae (fun _ _=>rfl)) (ai eP ae (aj ar (aa 1) ae (fun _ _=>rfl)))) af)))) (ao (az (pS (dM hr.units) (aa 2) (aL (ab (ai cN (aj ar (aa 1) ae (fun _ _=>rfl)) (ai eP ae (aj ar (aa 0) ae (fun _ _=>rfl)))) (ab (ai cN (aj ar (aa 1) ae (fun _ _=>rfl)) (ai eP ae (aj ar (aa 0) ae (fun _ _=>rfl)))) af))) (aG _)))))
theorem sc_law:FnScope kr ["script"] (ag eW):=⟨rfl,rfl,rfl,by decide +kernel,rfl,by decide +kernel,by decide +kernel⟩
theorem DF{f:Addr}{fd:FuncData}{dV:Value}(F:FunV K "law" "law" eW f fd dV)(T:Txt mg)(C__law_begun:Cal P w K mg base "_law_begun" 4 bq [])(C_mark_shares:Cal P w K mg base "mark_shares" 10 aT [])(C__law_equal:Cal P w K mg base "_law_equal" 1 aJ [])(C__law_total:Cal P w K mg base "_law_total" 1 aI []):FnOk P w K mg base dy 11 f fd ["script"] (dS K u5):=
 cv (k:=10) (b:=zA) F sc_law fun cdv A outer s H E hr=>(ah (C5 (aw C__law_begun (hr.mono (by decide)) rfl (ab (aa 0) af)) (yX rfl (gL (cV 1 sc_law.nd) (gL (cV 2 sc_law.nd) (gL (cV 3 sc_law.nd) uZ))))) (ah (aA 4 sc_law.nd (aw C_mark_shares (hr.mono (by decide)) rfl (ab (aL (ab (aa 1) (ab (aa 2) af))) (ab (aa 3) af)))) (ah (ca (oO (lA (aw C__law_equal (hr.mono (by decide)) rfl (ab (aw C__law_total (hr.mono (by decide)) rfl (ab (cq (vars:=["pair"]) (caps:=[]) (by change BlkOk (ag eW).names kr _ _ _;exact⟨rfl,by decide +kernel,by decide +kernel,by decide +kernel,by decide +kernel⟩) rfl (b6 (aa 4)) cl (fun _ _ _ _=>bm (i:=0) (show(["pair"]:List Str).Nodup by decide +kernel) rfl (Or.inl rfl) (.inr rfl)) (fun _ _ _ _=>(aj ar (aa 0) ae (fun _ _=>rfl)))) af)) (ab (aL (ab ae (ab ae (ab ae af)))) af))))) (ao (az om)) bC) (ah (aA 5 sc_law.nd ae) (ah (gE PassesOwn.never rfl (dI rfl T.range (ab (bh js rfl T.len (by decide +kernel) (ab (aa 2) af)) af)) (cV 6 sc_law.nd) (ao (ca (aK (dM hr.units) (aj ar (aj ar (aa 2) (aa 6) (fun _ _=>rfl)) ae (fun _ _=>rfl)) bo (aG _)) (ah (aA 5 sc_law.nd (ai bW (aa 5) ae)) (ah (aA 7 sc_law.nd (aw C_mark_shares (hr.mono (by decide)) rfl (ab (aL (ab (aa 1) (ab (jn (aa 2) po (i9 (ai bW (aa 6) ae))) af))) (ab (aa 3) af)))) (ah (ca (oO (lA (aw C__law_equal (hr.mono (by decide)) rfl (ab (aw C__law_total (hr.mono (by decide)) rfl (ab (cq (vars:=["pair"]) (caps:=[]) (by change BlkOk (ag eW).names kr _ _ _;exact⟨rfl,by decide +kernel,by decide +kernel,by decide +kernel,by decide +kernel⟩) rfl (b6 (aa 7)) cl (fun _ _ _ _=>bm (i:=0) (show(["pair"]:List Str).Nodup by decide +kernel) rfl (Or.inl rfl) (.inr rfl)) (fun _ _ _ _=>(aj ar (aa 0) ae (fun _ _=>rfl)))) af)) (ab (aL (ab ae (ab ae (ab ae af)))) af))))) (ao (az om)) bC) (ah (ca (aK (BW hr.units) (cq (vars:=["pair"]) (caps:=[]) (by change BlkOk (ag eW).names kr _ _ _;exact⟨rfl,by decide +kernel,by decide +kernel,by decide +kernel,by decide +kernel⟩) rfl (b6 (aa 7)) cl (fun _ _ _ _=>bm (i:=0) (show(["pair"]:List Str).Nodup by decide +kernel) rfl (Or.inl rfl) (.inr rfl)) (fun _ _ _ _=>(aj ar (aa 0) ae (fun _ _=>rfl)))) (zm hr.units rfl T.sorted rfl T.set_ (cq (vars:=["pair"]) (caps:=[(5,"looks")]) (by change BlkOk (ag eW).names kr _ _ _;exact⟨rfl,by decide +kernel,by decide +kernel,by decide +kernel,by decide +kernel⟩) rfl (b6 (aa 4)) cl (fun _ _ _ _=>bm (i:=0) (show(["pair","looks"]:List Str).Nodup by decide +kernel) rfl (Or.inl rfl) (.inr rfl)) (fun _ _ _ _=>(jn (aj ar (aa 0) ae (fun _ _=>rfl)) po (i9 (aa 1)))))) (aG _)) (ao (az om)) bC) (ao (gE PassesOwn.never rfl (b6 (aa 7)) (yX rfl (gL (cV 8 sc_law.nd) (gL (cV 9 sc_law.nd) uZ))) (ao (ca (oO (lA (aw C__law_equal (hr.mono (by decide)) rfl (ab (aw C__law_total (hr.mono (by decide)) rfl (ab (rP (vars:=["pair"]) (caps:=[(5,"looks"),(8,"marks")]) (by change BlkOk (ag eW).names kr _ _ _;exact⟨rfl,by decide +kernel,by decide +kernel,by decide +kernel,by decide +kernel⟩) rfl (b6 (aa 4)) cl (fun _ _ _ _=>bm (i:=0) (show(["pair","looks","marks"]:List Str).Nodup by decide +kernel) rfl (Or.inl rfl) (.inr rfl)) (fun _ _ _ _=>(aK (dM hr.units) (jn (aj ar (aa 0) ae (fun _ _=>rfl)) po (i9 (aa 1))) (aa 2) (aG _))) (fun _ _ _ _=>(aj ar (aa 0) ae (fun _ _=>rfl)))) af)) (ab (aa 9) af))))) (ao (az om)) bC)))))))) bC))) (ao (az om)))))))
end
theorem mL:aH "twos_shared" dN ["joined","most"]:=fun _ _ _ _ _ _ us hl=>by obtain⟨_,_,rfl⟩:=f6 hl;exact rfl
theorem t9:aH "by_root" hV ["a","b","c","d"]:=fun _ _ _ _ _ _ us hl=>by obtain⟨_,_,_,_,rfl⟩:=Be hl;exact rfl
theorem iJ:aH "parts_over" cn ["x","k"]:=fun _ _ _ _ _ _ us hl=>by obtain⟨_,_,rfl⟩:=f6 hl;exact rfl
theorem B5:aH "plus" o5 ["x","y"]:=fun _ _ _ _ _ _ us hl=>by obtain⟨_,_,rfl⟩:=f6 hl;exact rfl
theorem ua:aH "against" hX ["x"]:=fun _ _ _ _ _ _ us hl=>by obtain⟨_,rfl⟩:=rm hl;exact rfl
theorem wI:aH "turned" i3 ["x","e"]:=fun _ _ _ _ _ _ us hl=>by obtain⟨_,_,rfl⟩:=f6 hl;exact rfl
theorem wK:aH "halved" i4 ["x"]:=fun _ _ _ _ _ _ us hl=>by obtain⟨_,rfl⟩:=rm hl;exact rfl
theorem gO:aH "parts_over" bQ ["x","k"]:=fun _ _ _ _ _ _ us hl=>by obtain⟨_,_,rfl⟩:=f6 hl;exact rfl
theorem ny:aH "share_plus" eG ["x","y"]:=fun _ _ _ _ _ _ us hl=>by obtain⟨_,_,rfl⟩:=f6 hl;exact rfl
theorem t0:aH "size_of" hE ["x"]:=fun _ _ _ _ _ _ us hl=>by obtain⟨_,rfl⟩:=rm hl;exact rfl
theorem zx:aH "worth" kN ["wires","wire"]:=fun _ _ _ _ _ _ us hl=>by obtain⟨_,_,rfl⟩:=f6 hl;exact rfl
theorem zz:aH "swung" kP ["state","bit"]:=fun _ _ _ _ _ _ us hl=>by obtain⟨_,_,rfl⟩:=f6 hl;exact rfl
theorem kG:aH "turned_where" cy ["state","held","e"]:=fun _ _ _ _ _ _ us hl=>by obtain⟨_,_,_,rfl⟩:=tj hl;exact rfl
theorem j1:aH "flipped_where" cb ["state","held","bit"]:=fun _ _ _ _ _ _ us hl=>by obtain⟨_,_,_,rfl⟩:=tj hl;exact rfl
theorem qa:aH "exchanged" eX ["place","both"]:=fun _ _ _ _ _ _ us hl=>by obtain⟨_,_,rfl⟩:=f6 hl;exact rfl
theorem B6:aH "done" lK ["state","row"]:=fun _ _ _ _ _ _ us hl=>by obtain⟨_,_,rfl⟩:=f6 hl;exact rfl
theorem zy:aH "whole" kO ["state"]:=fun _ _ _ _ _ _ us hl=>by obtain⟨_,rfl⟩:=rm hl;exact rfl
theorem t6:aH "left_by" fM ["state","bit","mark"]:=fun _ _ _ _ _ _ us hl=>by obtain⟨_,_,_,rfl⟩:=tj hl;exact rfl
theorem p7:aH "is_nought" dU ["state"]:=fun _ _ _ _ _ _ us hl=>by obtain⟨_,rfl⟩:=rm hl;exact rfl
theorem wJ:aH "parted" fK ["branch","wire"]:=fun _ _ _ _ _ _ us hl=>by obtain⟨_,_,rfl⟩:=f6 hl;exact rfl
theorem t7:aH "gone_on" hJ ["branch","row"]:=fun _ _ _ _ _ _ us hl=>by obtain⟨_,_,rfl⟩:=f6 hl;exact rfl
theorem mM:aH "due_gone_on" dO ["branch","row","go"]:=fun _ _ _ _ _ _ us hl=>by obtain⟨_,_,_,rfl⟩:=tj hl;exact rfl
theorem kH:aH "gone_through" cz ["rows","begun","part","go"]:=fun _ _ _ _ _ _ us hl=>by obtain⟨_,_,_,_,rfl⟩:=Be hl;exact rfl
theorem qc:aH "_law_cell" eZ ["script","k"]:=fun _ _ _ _ _ _ us hl=>by obtain⟨_,_,rfl⟩:=f6 hl;exact rfl
theorem qb:aH "_law_turn" eY ["cell","prime"]:=fun _ _ _ _ _ _ us hl=>by obtain⟨_,_,rfl⟩:=f6 hl;exact rfl
theorem sf:aH "_law_row" fX ["cell","wires","looks","plain"]:=fun _ _ _ _ _ _ us hl=>by obtain⟨_,_,_,_,rfl⟩:=Be hl;exact rfl
theorem kI:aH "_law_circuit" dh ["cells","wires","plain"]:=fun _ _ _ _ _ _ us hl=>by obtain⟨_,_,_,rfl⟩:=tj hl;exact rfl
theorem nC:aH "_law_begun" eI ["script"]:=fun _ _ _ _ _ _ us hl=>by obtain⟨_,rfl⟩:=rm hl;exact rfl
theorem nA:aH "_law_total" bY ["sizes"]:=fun _ _ _ _ _ _ us hl=>by obtain⟨_,rfl⟩:=rm hl;exact rfl
theorem nB:aH "_law_equal" eH ["one","other"]:=fun _ _ _ _ _ _ us hl=>by obtain⟨_,_,rfl⟩:=f6 hl;exact rfl
theorem Ew{l:PySem.W.OpenLaw}{w:World}{K:PySem.W.Frag}{h:Heap}{mg:Str->Option Value}{fa f2 f8 f13 f26 f27 f35 t2 t8 t13 t26 t27 f_NOUGHT f_ONE:Addr}{od2 an2 od8 an8 od13 an13 od26 an26 od27 an27 od35 an35 td2 td8 td13 td26 td27:Option Addr}{sl2 sl8 sl13 sl26 sl27 sl35 ts2 ts8 ts13 ts26 ts27 ts_NOUGHT ts_ONE:Array (Option Value)}{oc2 kV2 dc2 pm2 cd2 ct2 oc8 kV8 dc8 pm8 cd8 ct8 oc13 kV13 dc13 pm13 cd13 ct13 oc26 kV26 dc26 pm26 cd26 ct26 oc27 kV27 dc27 pm27 cd27 ct27 oc35 kV35 dc35 pm35 cd35 ct35 tc2 tc8 tc13 tc26 tc27:Value}{tn2 tn8 tn13 tn26 tn27 tn_NOUGHT tn_ONE:Nat}{tk2_0 tk8_0 tk13_0 tk26_0 tk27_0 tk_NOUGHT_0 tk_NOUGHT_1 tk_NOUGHT_2 tk_NOUGHT_3 tk_NOUGHT_4 tk_ONE_0 tk_ONE_1 tk_ONE_2 tk_ONE_3 tk_ONE_4:Tok}(X:K.In h)(G:h.Ns mainGlobals mg)(hfa:mg "law" = some (.ref fa))
  (D0:DefIn K "twos_shared" "twos_shared" dN)
  (D1:DefIn K "by_root" "by_root" hV)
  (a2:PySem.W.nsIn K mainGlobals "number" = some (some (.ref f2))) (l2:K.lookup f2=some ⟨oc2,od2,.func (PySem.W.fnOf "number" "number" (bS fL) (bE fL) (ag fL) (.ref t2) kV2 dc2 pm2 an2 cd2 ct2),sl2⟩) (c2:PySem.W.codeIn K cd2 "number" = true) (k2:PySem.W.keepIn K (.ref f2)=true)
  (d2:K.lookup t2=some ⟨tc2,td2,.seq #[.int 0 tk2_0] tn2,ts2⟩)
  (D3:DefIn K "parts_over_ring" "parts_over" cn)
  (D4:DefIn K "plus" "plus" o5)
  (D5:DefIn K "against" "against" hX)
  (D6:DefIn K "turned" "turned" i3)
  (D7:DefIn K "halved" "halved" i4)
  (a8:PySem.W.nsIn K mainGlobals "share" = some (some (.ref f8))) (l8:K.lookup f8=some ⟨oc8,od8,.func (PySem.W.fnOf "share" "share" (bS hG) (bE hG) (ag hG) (.ref t8) kV8 dc8 pm8 an8 cd8 ct8),sl8⟩) (c8:PySem.W.codeIn K cd8 "share" = true) (k8:PySem.W.keepIn K (.ref f8)=true)
  (d8:K.lookup t8=some ⟨tc8,td8,.seq #[.int 0 tk8_0] tn8,ts8⟩)
  (D9:DefIn K "parts_over_shares" "parts_over" bQ)
  (D10:DefIn K "share_plus" "share_plus" eG)
  (D11:DefIn K "size_of" "size_of" hE)
  (D12:DefIn K "worth" "worth" kN)
  (a13:PySem.W.nsIn K mainGlobals "beginning" = some (some (.ref f13))) (l13:K.lookup f13=some ⟨oc13,od13,.func (PySem.W.fnOf "beginning" "beginning" (bS cA) (bE cA) (ag cA) (.ref t13) kV13 dc13 pm13 an13 cd13 ct13),sl13⟩) (c13:PySem.W.codeIn K cd13 "beginning" = true) (k13:PySem.W.keepIn K (.ref f13)=true)
  (d13:K.lookup t13=some ⟨tc13,td13,.seq #[.int 0 tk13_0] tn13,ts13⟩)
  (D14:DefIn K "swung" "swung" kP)
  (D15:DefIn K "turned_where" "turned_where" cy)
  (D16:DefIn K "flipped_where" "flipped_where" cb)
  (D17:DefIn K "exchanged" "exchanged" eX)
  (D18:DefIn K "done" "done" lK)
  (D19:DefIn K "whole" "whole" kO)
  (D20:DefIn K "left_by" "left_by" fM)
  (D21:DefIn K "is_nought" "is_nought" dU)
  (D22:DefIn K "parted" "parted" fK)
  (D23:DefIn K "gone_on" "gone_on" hJ)
  (D24:DefIn K "due_gone_on" "due_gone_on" dO)
  (D25:DefIn K "gone_through" "gone_through" cz)
  (a26:PySem.W.nsIn K mainGlobals "branches" = some (some (.ref f26))) (l26:K.lookup f26=some ⟨oc26,od26,.func (PySem.W.fnOf "branches" "branches" (bS dH) (bE dH) (ag dH) (.ref t26) kV26 dc26 pm26 an26 cd26 ct26),sl26⟩) (c26:PySem.W.codeIn K cd26 "branches" = true) (k26:PySem.W.keepIn K (.ref f26)=true)
  (d26:K.lookup t26=some ⟨tc26,td26,.seq #[.int 0 tk26_0] tn26,ts26⟩)
  (a27:PySem.W.nsIn K mainGlobals "mark_shares" = some (some (.ref f27))) (l27:K.lookup f27=some ⟨oc27,od27,.func (PySem.W.fnOf "mark_shares" "mark_shares" (bS bL) (bE bL) (ag bL) (.ref t27) kV27 dc27 pm27 an27 cd27 ct27),sl27⟩) (c27:PySem.W.codeIn K cd27 "mark_shares" = true) (k27:PySem.W.keepIn K (.ref f27)=true)
  (d27:K.lookup t27=some ⟨tc27,td27,.seq #[.int 0 tk27_0] tn27,ts27⟩)
  (D28:DefIn K "_law_cell" "_law_cell" eZ)
  (D29:DefIn K "_law_turn" "_law_turn" eY)
  (D30:DefIn K "_law_row" "_law_row" fX)
  (D31:DefIn K "_law_circuit" "_law_circuit" dh)
  (D32:DefIn K "_law_begun" "_law_begun" eI)
  (D33:DefIn K "_law_total" "_law_total" bY)
  (D34:DefIn K "_law_equal" "_law_equal" eH)
  (a35:PySem.W.nsIn K mainGlobals "law" = some (some (.ref f35))) (l35:K.lookup f35=some ⟨oc35,od35,.func (PySem.W.fnOf "law" "law" (bS eW) (bE eW) (ag eW) .none kV35 dc35 pm35 an35 cd35 ct35),sl35⟩) (c35:PySem.W.codeIn K cd35 "law" = true) (k35:PySem.W.keepIn K (.ref f35)=true)
  (z_min:PySem.W.nsIn K mainGlobals "min" = some none)
  (z_max:PySem.W.nsIn K mainGlobals "max" = some none)
  (z_tuple:PySem.W.nsIn K mainGlobals "tuple" = some none)
  (z_range:PySem.W.nsIn K mainGlobals "range" = some none)
  (z_len:PySem.W.nsIn K mainGlobals "len" = some none)
  (z_all:PySem.W.nsIn K mainGlobals "all" = some none)
  (z_int:PySem.W.nsIn K mainGlobals "int" = some none)
  (z_sum:PySem.W.nsIn K mainGlobals "sum" = some none)
  (z_sorted:PySem.W.nsIn K mainGlobals "sorted" = some none)
  (z_set:PySem.W.nsIn K mainGlobals "set" = some none)
  (a_NOUGHT:PySem.W.nsIn K mainGlobals "NOUGHT" = some (some (.ref f_NOUGHT))) (d_NOUGHT:K.lookup f_NOUGHT=some ⟨.type "tuple",none,.seq #[.int 0 tk_NOUGHT_0,.int 0 tk_NOUGHT_1,.int 0 tk_NOUGHT_2,.int 0 tk_NOUGHT_3,.int 0 tk_NOUGHT_4] tn_NOUGHT,ts_NOUGHT⟩)
  (a_ONE:PySem.W.nsIn K mainGlobals "ONE" = some (some (.ref f_ONE))) (d_ONE:K.lookup f_ONE=some ⟨.type "tuple",none,.seq #[.int 1 tk_ONE_0,.int 0 tk_ONE_1,.int 0 tk_ONE_2,.int 0 tk_ONE_3,.int 0 tk_ONE_4] tn_ONE,ts_ONE⟩)
   :∃fd:FuncData,(∀(s:Shared) (v:Value),BindsTo s fd ⟨[v],[]⟩ [("script",v)])/\∀base:Heap,K.In base->base.Ns mainGlobals mg->FnOk l.prog w K mg base dy 11 fa fd ["script"] (uv K):=by
 have e:=hfa.symm.trans (PySem.W.mg_of X G a35);cases e;have T:Txt mg:=⟨PySem.W.mg_none_of X G z_min,PySem.W.mg_none_of X G z_max,PySem.W.mg_none_of X G z_tuple,PySem.W.mg_none_of X G z_range,PySem.W.mg_none_of X G z_len,PySem.W.mg_none_of X G z_all,PySem.W.mg_none_of X G z_int,PySem.W.mg_none_of X G z_sum,PySem.W.mg_none_of X G z_sorted,PySem.W.mg_none_of X G z_set⟩;have T_NOUGHT:TopV K mg "NOUGHT" (.tuple [.int 0,.int 0,.int 0,.int 0,.int 0]):=TopV.tup (xs:=[.int 0,.int 0,.int 0,.int 0,.int 0]) (PySem.W.mg_of X G a_NOUGHT) d_NOUGHT (by simp[sizeLine]) (.cons ⟨_,rfl⟩ (.cons ⟨_,rfl⟩ (.cons ⟨_,rfl⟩ (.cons ⟨_,rfl⟩ (.cons ⟨_,rfl⟩ (.nil)))))) fun _=>.cons (.int _) (.cons (.int _) (.cons (.int _) (.cons (.int _) (.cons (.int _) (.nil)))))
 have T_ONE:TopV K mg "ONE" (.tuple [.int 1,.int 0,.int 0,.int 0,.int 0]):=TopV.tup (xs:=[.int 1,.int 0,.int 0,.int 0,.int 0]) (PySem.W.mg_of X G a_ONE) d_ONE (by simp[sizeLine]) (.cons ⟨_,rfl⟩ (.cons ⟨_,rfl⟩ (.cons ⟨_,rfl⟩ (.cons ⟨_,rfl⟩ (.cons ⟨_,rfl⟩ (.nil)))))) fun _=>.cons (.int _) (.cons (.int _) (.cons (.int _) (.cons (.int _) (.cons (.int _) (.nil)))))
 have F2:=f7 (st:=fL) l2 c2 k2;have F8:=f7 (st:=hG) l8 c8 k8;have F13:=f7 (st:=cA) l13 c13 k13;have F26:=f7 (st:=dH) l26 c26 k26;have F27:=f7 (st:=bL) l27 c27 k27;have F35:=f7 (st:=eW) l35 c35 k35;have N_parted:Fnm K mg "parted":=D22.fnm X G;have N_gone_on:Fnm K mg "gone_on":=D23.fnm X G;refine⟨PySem.W.fnOf "law" "law" (bS eW) (bE eW) (ag eW) .none kV35 dc35 pm35 an35 cd35 ct35,fun s v=>.of_eq rfl,fun base _ _=>?_⟩
 have C_twos_shared:Cal l.prog w K mg base "twos_shared" 1 aR []:=D0.cal X G mL fun _ _ F=>lM F T
 have C_by_root:Cal l.prog w K mg base "by_root" 1 cK []:=D1.cal X G t9 fun _ _ F=>sV F T
 have O2:FnOk l.prog w K mg base dy 2 _ _ _ (dS K dq):=vX F2 T C_twos_shared C_by_root;have C_number:Cal l.prog w K mg base "number" 2 dq []:=⟨⟨_,_,_,[],[],O2,PySem.W.mg_of X G a2,k2,F2.bindsK d2 rfl (ps:=["a","b","c","d","k"]) 5 rfl (fun _ _ _ _ _ _ us hl=>by obtain⟨_,_,_,_,_,rfl⟩:=HZ hl;exact rfl),.nil,fun _=>.nil⟩⟩
 have C_parts_over_ring:Cal l.prog w K mg base "parts_over_ring" 2 aQ []:=D3.cal X G iJ fun _ _ F=>iy F T C_by_root
 have C_plus:Cal l.prog w K mg base "plus" 3 fC []:=D4.cal X G B5 fun _ _ F=>AY F T C_parts_over_ring C_number
 have C_against:Cal l.prog w K mg base "against" 1 de []:=D5.cal X G ua fun _ _ F=>sW F T
 have C_turned:Cal l.prog w K mg base "turned" 1 cS []:=D6.cal X G wI fun _ _ F=>vV F T
 have C_halved:Cal l.prog w K mg base "halved" 3 cT []:=D7.cal X G wK fun _ _ F=>vY F T C_number
 have O8:FnOk l.prog w K mg base dy 2 _ _ _ (dS K cY):=yi F8 T C_twos_shared;have C_share:Cal l.prog w K mg base "share" 2 cY []:=⟨⟨_,_,_,[],[],O8,PySem.W.mg_of X G a8,k8,F8.bindsK d8 rfl (ps:=["p","q","k"]) 3 rfl (fun _ _ _ _ _ _ us hl=>by obtain⟨_,_,_,rfl⟩:=tj hl;exact rfl),.nil,fun _=>.nil⟩⟩
 have C_parts_over_shares:Cal l.prog w K mg base "parts_over_shares" 1 aP []:=D9.cal X G gO fun _ _ F=>gI F T
 have C_share_plus:Cal l.prog w K mg base "share_plus" 3 cJ []:=D10.cal X G ny fun _ _ F=>m6 F T C_parts_over_shares C_share
 have C_size_of:Cal l.prog w K mg base "size_of" 3 dL []:=D11.cal X G t0 fun _ _ F=>sS F T C_share
 have C_worth:Cal l.prog w K mg base "worth" 1 cW []:=D12.cal X G zx fun _ _ F=>yf F T
 have O13:FnOk l.prog w K mg base dy 1 _ _ _ (dS K bJ):=pz F13 T T_NOUGHT T_ONE;have C_beginning:Cal l.prog w K mg base "beginning" 1 bJ []:=⟨⟨_,_,_,[],[],O13,PySem.W.mg_of X G a13,k13,F13.bindsK d13 rfl (ps:=["wires","place"]) 2 rfl (fun _ _ _ _ _ _ us hl=>by obtain⟨_,_,rfl⟩:=f6 hl;exact rfl),.nil,fun _=>.nil⟩⟩
 have C_swung:Cal l.prog w K mg base "swung" 4 fg []:=D14.cal X G zz fun _ _ F=>yh F T C_halved C_plus C_against
 have C_turned_where:Cal l.prog w K mg base "turned_where" 2 aS []:=D15.cal X G kG fun _ _ F=>kz F T C_turned
 have C_flipped_where:Cal l.prog w K mg base "flipped_where" 1 aN []:=D16.cal X G j1 fun _ _ F=>jK F T
 have C_exchanged:Cal l.prog w K mg base "exchanged" 1 bI []:=D17.cal X G qa fun _ _ F=>px F T
 have C_done:Cal l.prog w K mg base "done" 5 cm []:=D18.cal X G B6 fun _ _ F=>AZ F T C_worth C_swung C_turned_where C_flipped_where C_exchanged
 have C_whole:Cal l.prog w K mg base "whole" 4 cX []:=D19.cal X G zy fun _ _ F=>yg F T C_share_plus C_size_of
 have C_left_by:Cal l.prog w K mg base "left_by" 1 bV []:=D20.cal X G t6 fun _ _ F=>sT F T T_NOUGHT
 have C_is_nought:Cal l.prog w K mg base "is_nought" 1 dc []:=D21.cal X G p7 fun _ _ F=>pv F T T_NOUGHT
 have V_parted:CalF l.prog w K mg base "parted" 2 dn:=D22.calF X G wJ fun _ _ F=>vW F T C_worth C_left_by C_is_nought
 have V_gone_on:CalF l.prog w K mg base "gone_on" 6 bG:=D23.calF X G t7 fun _ _ F=>sU F T C_done
 have C_due_gone_on:Cal l.prog w K mg base "due_gone_on" 7 aW []:=D24.cal X G mM fun _ _ F=>lO F T V_gone_on
 have C_gone_through:Cal l.prog w K mg base "gone_through" 8 bA []:=D25.cal X G kH fun _ _ F=>kA F T C_due_gone_on V_parted
 have O26:FnOk l.prog w K mg base dy 9 _ _ _ (dS K b7):=qU F26 T C_gone_through C_beginning N_gone_on N_parted;have C_branches:Cal l.prog w K mg base "branches" 9 b7 []:=⟨⟨_,_,_,[],[],O26,PySem.W.mg_of X G a26,k26,F26.bindsK d26 rfl (ps:=["circuit","place"]) 2 rfl (fun _ _ _ _ _ _ us hl=>by obtain⟨_,_,rfl⟩:=f6 hl;exact rfl),.nil,fun _=>.nil⟩⟩
 have O27:FnOk l.prog w K mg base dy 10 _ _ _ (dS K aT):=lN F27 T C_whole C_branches;have C_mark_shares:Cal l.prog w K mg base "mark_shares" 10 aT []:=⟨⟨_,_,_,[],[],O27,PySem.W.mg_of X G a27,k27,F27.bindsK d27 rfl (ps:=["circuit","place"]) 2 rfl (fun _ _ _ _ _ _ us hl=>by obtain⟨_,_,rfl⟩:=f6 hl;exact rfl),.nil,fun _=>.nil⟩⟩
 have C__law_cell:Cal l.prog w K mg base "_law_cell" 1 br []:=D28.cal X G qc fun _ _ F=>pC F T
 have C__law_turn:Cal l.prog w K mg base "_law_turn" 1 cD []:=D29.cal X G qb fun _ _ F=>pB F T
 have C__law_row:Cal l.prog w K mg base "_law_row" 2 aE []:=D30.cal X G sf fun _ _ F=>qV F T C__law_turn
 have C__law_circuit:Cal l.prog w K mg base "_law_circuit" 3 bB []:=D31.cal X G kI fun _ _ F=>kB F T C__law_row
 have C__law_begun:Cal l.prog w K mg base "_law_begun" 4 bq []:=D32.cal X G nC fun _ _ F=>m9 F T C__law_cell C__law_circuit
 have C__law_total:Cal l.prog w K mg base "_law_total" 1 aI []:=D33.cal X G nA fun _ _ F=>m7 F T
 have C__law_equal:Cal l.prog w K mg base "_law_equal" 1 aJ []:=D34.cal X G nB fun _ _ F=>m8 F T
 have O35:FnOk l.prog w K mg base dy 11 _ _ _ (dS K u5):=DF F35 T C__law_begun C_mark_shares C__law_equal C__law_total;exact F7 O35 fun ns hl=>law_true ns hl
end GN
open PySem PySem.W PyProof.Rows
set_option maxRecDepth 1000000 in
set_option maxHeartbeats 0 in
theorem PySem.Challenge.cw_wavewires_k26_whole_shares_come_to_one_holds : PySem.Challenge.rw_wavewires_k26_whole_shares_come_to_one.Holds := by
  refine topT ?_
  k_fill
  refine VL.E3 (k := 11) (l := PySem.Challenge.rw_wavewires_k26_whole_shares_come_to_one) rfl ⟨rfl, by decide, by decide⟩ rfl (fun w h Y => PySem.W.kIn_of Y) ?F
  case F =>
    intro w mg fa h KX G hmg
    refine' GN.Ew KX G hmg (VL.DefIn.mk ?a0 ?l0 ?c0 ?k0) (VL.DefIn.mk ?a1 ?l1 ?c1 ?k1) ?a2 ?l2 ?c2 ?k2 ?d2 (VL.DefIn.mk ?a3 ?l3 ?c3 ?k3) (VL.DefIn.mk ?a4 ?l4 ?c4 ?k4) (VL.DefIn.mk ?a5 ?l5 ?c5 ?k5) (VL.DefIn.mk ?a6 ?l6 ?c6 ?k6) (VL.DefIn.mk ?a7 ?l7 ?c7 ?k7) ?a8 ?l8 ?c8 ?k8 ?d8 (VL.DefIn.mk ?a9 ?l9 ?c9 ?k9) (VL.DefIn.mk ?a10 ?l10 ?c10 ?k10) (VL.DefIn.mk ?a11 ?l11 ?c11 ?k11) (VL.DefIn.mk ?a12 ?l12 ?c12 ?k12) ?a13 ?l13 ?c13 ?k13 ?d13 (VL.DefIn.mk ?a14 ?l14 ?c14 ?k14) (VL.DefIn.mk ?a15 ?l15 ?c15 ?k15) (VL.DefIn.mk ?a16 ?l16 ?c16 ?k16) (VL.DefIn.mk ?a17 ?l17 ?c17 ?k17) (VL.DefIn.mk ?a18 ?l18 ?c18 ?k18) (VL.DefIn.mk ?a19 ?l19 ?c19 ?k19) (VL.DefIn.mk ?a20 ?l20 ?c20 ?k20) (VL.DefIn.mk ?a21 ?l21 ?c21 ?k21) (VL.DefIn.mk ?a22 ?l22 ?c22 ?k22) (VL.DefIn.mk ?a23 ?l23 ?c23 ?k23) (VL.DefIn.mk ?a24 ?l24 ?c24 ?k24) (VL.DefIn.mk ?a25 ?l25 ?c25 ?k25) ?a26 ?l26 ?c26 ?k26 ?d26 ?a27 ?l27 ?c27 ?k27 ?d27 (VL.DefIn.mk ?a28 ?l28 ?c28 ?k28) (VL.DefIn.mk ?a29 ?l29 ?c29 ?k29) (VL.DefIn.mk ?a30 ?l30 ?c30 ?k30) (VL.DefIn.mk ?a31 ?l31 ?c31 ?k31) (VL.DefIn.mk ?a32 ?l32 ?c32 ?k32) (VL.DefIn.mk ?a33 ?l33 ?c33 ?k33) (VL.DefIn.mk ?a34 ?l34 ?c34 ?k34) ?a35 ?l35 ?c35 ?k35 ?z_min ?z_max ?z_tuple ?z_range ?z_len ?z_all ?z_int ?z_sum ?z_sorted ?z_set ?a_NOUGHT ?d_NOUGHT ?a_ONE ?d_ONE
    (case a0 => k_is)
    (case l0 => k_is)
    (case c0 => k_is)
    (case k0 => k_is)
    (case a1 => k_is)
    (case l1 => k_is)
    (case c1 => k_is)
    (case k1 => k_is)
    (case a2 => k_is)
    (case l2 => k_is)
    (case c2 => k_is)
    (case k2 => k_is)
    (case d2 => k_is)
    (case a3 => k_is)
    (case l3 => k_is)
    (case c3 => k_is)
    (case k3 => k_is)
    (case a4 => k_is)
    (case l4 => k_is)
    (case c4 => k_is)
    (case k4 => k_is)
    (case a5 => k_is)
    (case l5 => k_is)
    (case c5 => k_is)
    (case k5 => k_is)
    (case a6 => k_is)
    (case l6 => k_is)
    (case c6 => k_is)
    (case k6 => k_is)
    (case a7 => k_is)
    (case l7 => k_is)
    (case c7 => k_is)
    (case k7 => k_is)
    (case a8 => k_is)
    (case l8 => k_is)
    (case c8 => k_is)
    (case k8 => k_is)
    (case d8 => k_is)
    (case a9 => k_is)
    (case l9 => k_is)
    (case c9 => k_is)
    (case k9 => k_is)
    (case a10 => k_is)
    (case l10 => k_is)
    (case c10 => k_is)
    (case k10 => k_is)
    (case a11 => k_is)
    (case l11 => k_is)
    (case c11 => k_is)
    (case k11 => k_is)
    (case a12 => k_is)
    (case l12 => k_is)
    (case c12 => k_is)
    (case k12 => k_is)
    (case a13 => k_is)
    (case l13 => k_is)
    (case c13 => k_is)
    (case k13 => k_is)
    (case d13 => k_is)
    (case a14 => k_is)
    (case l14 => k_is)
    (case c14 => k_is)
    (case k14 => k_is)
    (case a15 => k_is)
    (case l15 => k_is)
    (case c15 => k_is)
    (case k15 => k_is)
    (case a16 => k_is)
    (case l16 => k_is)
    (case c16 => k_is)
    (case k16 => k_is)
    (case a17 => k_is)
    (case l17 => k_is)
    (case c17 => k_is)
    (case k17 => k_is)
    (case a18 => k_is)
    (case l18 => k_is)
    (case c18 => k_is)
    (case k18 => k_is)
    (case a19 => k_is)
    (case l19 => k_is)
    (case c19 => k_is)
    (case k19 => k_is)
    (case a20 => k_is)
    (case l20 => k_is)
    (case c20 => k_is)
    (case k20 => k_is)
    (case a21 => k_is)
    (case l21 => k_is)
    (case c21 => k_is)
    (case k21 => k_is)
    (case a22 => k_is)
    (case l22 => k_is)
    (case c22 => k_is)
    (case k22 => k_is)
    (case a23 => k_is)
    (case l23 => k_is)
    (case c23 => k_is)
    (case k23 => k_is)
    (case a24 => k_is)
    (case l24 => k_is)
    (case c24 => k_is)
    (case k24 => k_is)
    (case a25 => k_is)
    (case l25 => k_is)
    (case c25 => k_is)
    (case k25 => k_is)
    (case a26 => k_is)
    (case l26 => k_is)
    (case c26 => k_is)
    (case k26 => k_is)
    (case d26 => k_is)
    (case a27 => k_is)
    (case l27 => k_is)
    (case c27 => k_is)
    (case k27 => k_is)
    (case d27 => k_is)
    (case a28 => k_is)
    (case l28 => k_is)
    (case c28 => k_is)
    (case k28 => k_is)
    (case a29 => k_is)
    (case l29 => k_is)
    (case c29 => k_is)
    (case k29 => k_is)
    (case a30 => k_is)
    (case l30 => k_is)
    (case c30 => k_is)
    (case k30 => k_is)
    (case a31 => k_is)
    (case l31 => k_is)
    (case c31 => k_is)
    (case k31 => k_is)
    (case a32 => k_is)
    (case l32 => k_is)
    (case c32 => k_is)
    (case k32 => k_is)
    (case a33 => k_is)
    (case l33 => k_is)
    (case c33 => k_is)
    (case k33 => k_is)
    (case a34 => k_is)
    (case l34 => k_is)
    (case c34 => k_is)
    (case k34 => k_is)
    (case a35 => k_is)
    (case l35 => k_is)
    (case c35 => k_is)
    (case k35 => k_is)
    (case z_min => k_is)
    (case z_max => k_is)
    (case z_tuple => k_is)
    (case z_range => k_is)
    (case z_len => k_is)
    (case z_all => k_is)
    (case z_int => k_is)
    (case z_sum => k_is)
    (case z_sorted => k_is)
    (case z_set => k_is)
    (case a_NOUGHT => k_is)
    (case d_NOUGHT => k_is)
    (case a_ONE => k_is)
    (case d_ONE => k_is)

end