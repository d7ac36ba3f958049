import PyProof.Rows.All
import Wide.All
import OpenK.AllK
import Wide.FinOn
import Lean
import PyProof.EqAt
import PyProof.EqKinds
import PyProof.TupleCall
import PySem.Challenge.RW_wavewires_k33_whole_sums_behind_one_anot
section TopS
set_option Elab.async false
set_option linter.all false
open PySem PySem.W PyProof.Rows
noncomputable def viewQ : Program := view PySem.Challenge.rw_wavewires_k33_whole_sums_behind_one_anot.prog [1, 2, 4, 5, 7, 8, 10, 12, 14, 15, 16, 17, 18, 19, 20, 21, 22, 23, 24, 25, 26, 28, 29, 30, 31, 32, 33, 34, 35, 36, 37, 38, 39]
local macro_rules
  | `(tactic| o_head $H) => do
    let hw := Lean.mkIdent `hw
    let hc := Lean.mkIdent `hc
    `(tactic| refine holds_open (q := viewQ) (loose := ["number"]) (Xt := fun s => xlAt viewQ [] s && recOk (RowW.records (OpenRow.toRowW PySem.Challenge.rw_wavewires_k33_whole_sums_behind_one_anot.row)) s) (XP := XL viewQ []) (Yf := Hook.obs $H) (Ya := Hook.val $H) (YP := Hook.says $H) (N := 6000) (fun w => by (unfold openEnds fencedOpening topFrom; rw [Fast.te10274390034422433532, Fast.te14082659384304107361, Fast.te1435165496053646825, Fast.te14289696077712309145, Fast.te14364793385576792824, Fast.te4187177175401517315, Fast.te5923862056798008813]; kernel_rfl)) (Hook.of $H) (Hook.keeps $H) (fun s e => xl_of s (Bool.and_eq_true_iff.mp e).1) XL.keeps (by rfl) (by rfl) (by rfl) (fun s e => recFacts_of (Bool.and_eq_true_iff.mp e).2) (by rfl) (by first | assumption | decide +kernel) (by decide +kernel) ⟨rfl, rfl, rfl, rfl, rfl, by decide +kernel⟩ ?$hw ?$hc)
set_option maxRecDepth 1000000 in
set_option maxHeartbeats 0 in
open_top topT for PySem.Challenge.rw_wavewires_k33_whole_sums_behind_one_anot
end TopS
noncomputable section
set_option Elab.async false
set_option linter.all false
set_option maxRecDepth 100000
namespace L2
open PySem PySem.Spec PyProof.Rows
open PySem.W (callWith_K emptyDict findIn handedIn hasDictIn instObj keepIn kia_one kitx_dict kitx_list lookIn makesIn methodObj plainGet plainGet_of plainOver takerIn)
open List (length_cons mem_append_right mem_cons_of_mem size_toArray)
open Nat (le_refl le_trans lt_irrefl lt_of_lt_of_le ne_of_lt)
open PySem.Heap (get?_push_of_some get?_push_size lt_size)
abbrev bb:=Sum Int Str
def pN:bb->Value->Bool
 |.inl k,v=>Value.isInt k v
 |.inr x,v=>Value.isStrOf x v
def OD(w:World):bb->Int
 |.inl k=>hashInt k
 |.inr x=>hashStr w x
theorem bS:∀{k:bb} {v:Value},pN k v=true->(∃i t,k=Sum.inl i/\v=Value.int i t)\/(∃x t,k=Sum.inr x/\v=Value.str x t)
 |.inl i,v,h=>by
  obtain⟨t,e⟩:=Value.isInt_shape (k:=i) (v:=v) h;exact .inl ⟨i,t,rfl,e⟩
 |.inr x,v,h=>by
  obtain⟨t,e⟩:=Value.isStrOf_shape (x:=x) (v:=v) h;exact .inr ⟨x,t,rfl,e⟩
theorem Av(i:Int)(t:Tok):pN (.inl i) (.int i t)=true:=by simp[pN,Value.isInt]
theorem Au(x:Str)(t:Tok):pN (.inr x) (.str x t)=true:=by simp[pN,Value.isStrOf]
theorem Kh(a b:Int):decide ((Sum.inl a:bb)=Sum.inl b)=(a==b):=by
 by_cases e:a=b
 ·subst e;simp
 ·have h:¬(Sum.inl a:bb)=Sum.inl b:=fun q=>e (Sum.inl.inj q)
  rw[decide_eq_false h];exact(beq_eq_false_iff_ne.mpr e).symm
theorem Ke(a b:Str):decide ((Sum.inr a:bb)=Sum.inr b)=decide (a=b):=by
 by_cases e:a=b
 ·subst e;simp
 ·have h:¬(Sum.inr a:bb)=Sum.inr b:=fun q=>e (Sum.inr.inj q)
  rw[decide_eq_false h,decide_eq_false e]
theorem Kg(a:Int)(b:Str):decide ((Sum.inl a:bb)=Sum.inr b)=false:=decide_eq_false (fun q=>nomatch q)
theorem Kf(a:Str)(b:Int):decide ((Sum.inr a:bb)=Sum.inl b)=false:=decide_eq_false (fun q=>nomatch q)
noncomputable def aP(prog:Program)(w:World):PySem.KeyKind prog w bb where
 is:=pN
 hash:=OD w
 inj:=fun v a b ha hb=>by
  rcases bS ha with⟨i,t,rfl,rfl⟩|⟨x,t,rfl,rfl⟩
  ·rcases bS hb with⟨j,u,rfl,e⟩|⟨y,u,rfl,e⟩
   ·injection e with e1 _;rw[e1]
   ·exact nomatch e
  ·rcases bS hb with⟨j,u,rfl,e⟩|⟨y,u,rfl,e⟩
   ·exact nomatch e
   ·injection e with e1 _;rw[e1]
 byValue:=fun k v h=>by
  rcases bS h with⟨i,t,rfl,rfl⟩|⟨x,t,rfl,rfl⟩<;>rfl
 pyHash:=fun hv h=>by
  rcases bS hv with⟨i,t,rfl,rfl⟩|⟨x,t,rfl,rfl⟩
  ·exact wpAny_pyHash_int h
  ·exact wpAny_pyHash_str h
 eqBool:=fun hu hv h=>by
  rcases bS hu with⟨i,t,rfl,rfl⟩|⟨x,t,rfl,rfl⟩
  ·rcases bS hv with⟨j,u,rfl,rfl⟩|⟨y,u,rfl,rfl⟩
   ·rw[Kh]at h;exact wpAny_eqBool_int h
   ·rw[Kg]at h;exact SeqAt.EqAt.int_str i t y u _ _ _ _ h
  ·rcases bS hv with⟨j,u,rfl,rfl⟩|⟨y,u,rfl,rfl⟩
   ·rw[Kf]at h;exact SeqAt.EqAt.str_int x t j u _ _ _ _ h
   ·rw[Ke]at h;exact wpAny_eqBool_str h
 «strs»:=fun k x t v h=>by
  rcases bS h with⟨i,u,rfl,e⟩|⟨y,u,rfl,e⟩
  ·exact nomatch e
  ·injection e with e1 _
   subst e1;cases v<;>rfl
theorem vr(prog:Program)(w:World)(i:Int)(t:Tok):(aP prog w).is (.inl i) (.int i t)=true:=Av i t
theorem vq(prog:Program)(w:World)(x:Str)(t:Tok):(aP prog w).is (.inr x) (.str x t)=true:=Au x t
inductive V where
 |non|bl (b:Bool)|int (i:Int)|str (x:Str)|byt (b:Array UInt8)|flt (b:UInt64)|ref (a:Addr)|ty (n:String)
 deriving DecidableEq
def RelV:V->Value->Prop
 |.non,u=>u=Value.none
 |.bl b,u=>u=Value.bool b
 |.int i,u=>∃t,u=Value.int i t
 |.str x,u=>∃t,u=Value.str x t
 |.byt b,u=>∃t,u=Value.bytes b t
 |.flt b,u=>∃t,u=Value.float b t
 |.ref a,u=>u=Value.ref a
 |.ty n,u=>u=Value.type n
abbrev Vals:List V->List Value->Prop:=Paired RelV
theorem Vals.length{xs:List V}{us:List Value}(r:Vals xs us):xs.length=us.length:=Paired.length r
theorem Vals.get:∀{xs:List V} {us:List Value} {i:Nat} {x:V},Vals xs us->xs[i]? = some x->∃u,us[i]? = some u/\RelV x u
 |_,_,_,_,.nil,e=>by simp at e
 |_,_,0,_,.cons r _,e=>by simp at e;subst e;exact⟨_,rfl,r⟩
 |_,_,i+1,x,.cons _ t,e=>by
  obtain⟨u,h1,h2⟩:=Vals.get (i:=i) (x:=x) t (by simpa using e);exact⟨u,by simpa using h1,h2⟩
theorem Vals.set{x:V}{u:Value}(r:RelV x u):∀{xs:List V} {us:List Value} (i:Nat),Vals xs us->Vals (xs.set i x) (us.set i u)
 |_,_,_,.nil=>.nil
 |_,_,0,.cons _ t=>.cons r t
 |_,_,i+1,.cons q t=>.cons q (Vals.set r i t)
theorem Vals.append:∀{xs ys:List V} {us ws:List Value},Vals xs us->Vals ys ws->Vals (xs++ys) (us++ws)
 |_,_,_,_,.nil,s=>s
 |_,_,_,_,.cons r t,s=>.cons r (Vals.append t s)
theorem Vals.take:∀{xs:List V} {us:List Value} (n:Nat),Vals xs us->Vals (xs.take n) (us.take n)
 |_,_,0,_=>.nil
 |_,_,_+1,.nil=>.nil
 |_,_,n+1,.cons r t=>.cons r (Vals.take n t)
theorem Vals.drop:∀{xs:List V} {us:List Value} (n:Nat),Vals xs us->Vals (xs.drop n) (us.drop n)
 |_,_,0,r=>r
 |_,_,_+1,.nil=>.nil
 |_,_,n+1,.cons _ t=>Vals.drop n t
def RelO:Option V->Option Value->Prop
 |some v,some u=>RelV v u
 |none,none=>True
 |_,_=>False
def KV{κ:Type}:List (κ × V)->List (κ × Value)->Prop:=Paired fun(p:κ × V) (q:κ × Value)=>p.1=q.1/\RelV p.2 q.2
def kV:bb->V
 |.inl i=>.int i
 |.inr x=>.str x
inductive HO where
 |lst (xs:List V)
 |tup (xs:List V)
 |dK (kvs:List (bb×V))|dT (kvs:List (List bb×V))
 |set (S:Int->Bool) (n:Nat)
 |ins (C dx:Addr) (fs:List (Str×V))
 |own (x:Addr)
 |xd (fs:List (Str×V))
 |met (f x:Addr)
 |rng (lo hi:Int)
 |frz (o:Obj) (u:HO)
 |tbl (ps:Array Value)
 |ext (φ:Heap->Prop)
abbrev Hp:=Addr->Option HO
def upd(H:Hp)(a:Addr)(o:HO):Hp:=fun b=>if b=a then some o else H b
theorem aN{H:Hp}{a:Addr}{o:HO}:upd H a o a=some o:=by unfold upd;rw[if_pos rfl]
theorem aA{H:Hp}{a b:Addr}{o:HO}(h:b≠a):upd H a o b=H b:=by unfold upd;rw[if_neg h]
theorem Mx{H:Hp}{a b:Addr}{o u:HO}(h:H a=some o)(h':H b=some u)(d:o≠u):a≠b:=by
 intro e;subst e;rw[h]at h';exact d (Option.some.inj h')
theorem aW{H:Hp}{a b:Addr}{o:HO}(h:H a=some o)(h':H b=none):a≠b:=by
 intro e;subst e;rw[h]at h';cases h'
section
variable(P:Program)(w:World)
def NoDi(h:Heap)(a:Addr):Prop:=∃o,h.get? a=some o/\o.dict=none
theorem NoDi.new(h:Heap)(o:Obj)(e:o.dict=none:=by rfl)(f:o.isFreed=false:=by rfl):NoDi (h.push o) h.objs.size:=⟨o,get?_push_size h f,e⟩
def ObjOk(H:Hp)(h:Heap)(a:Addr):HO->Prop
 |.lst xs=>xs.length<=sizeLine/\∃(its:List Value) (n:Nat),Vals xs its/\h.get? a=some { cls:=.type "list",data:=.seq its.toArray n }
 |.tup xs=>xs.length<=sizeLine/\∃its:List Value,Vals xs its/\IsTup h a its.toArray/\NoDi h a
 |.dK kvs=>kvs.length<=sizeLine/\(a==sysModules)=false/\∃vs,KV kvs vs/\h.DictOf (aP P w) a vs
 |.dT kvs=>kvs.length<=sizeLine/\(a==sysModules)=false/\∃xs:List (List bb×Addr×Value),
   Paired (fun(p:List bb×V) (q:List bb×Addr×Value)=>p.1=q.1/\H q.2.1=some (.tup (p.1.map kV))/\RelV p.2 q.2.2) kvs xs /\
   ∃o es ep,h.get? a=some o/\o.ExactDict/\o.data=.dict es ep/\es.toList=xs.map (entryOfKey (tupleKind (aP P w)))/\(xs.map (·.1)).Nodup
 |.set S n=>h.SetOf (intKind P w) a S n
 |.ins C dx fs=>H dx=some (.own a)/\fs.length<=1000/\dx≠a/\h.get? a=some (instObj C dx) /\
   ∃mA,h.Ns1 dx mA/\(∀f,RelO (fs.lookup f) (mA f))/\PySem.Within mA (fs.map (·.1))
 |.own _=>∃o,h.get? a=some o
 |.xd fs=>∃mA,h.Ns1 a mA/\∀f,RelO (fs.lookup f) (mA f)
 |.rng lo hi=>∃t u v,h.get? a=some { cls:=.type "range",data:=.fields #[.int lo t,.int hi u,.int 1 v] }
 |.frz o u=>h.get? a=some o/\ObjOk H h a u
 |.tbl ps=>h.get? a=some { cls:=.none,data:=.fields ps }
 |.met f x=>h.get? a=some (methodObj (.ref f) (.ref x))
 |.ext φ=>φ h/\(∃o,h.get? a=some o)/\∀h1 h2:Heap,φ h1->(∀o,h1.get? a=some o->h2.get? a=some o) -> φ h2
def HOk(H:Hp)(h:Heap):Prop:=∀a o,H a=some o->ObjOk P w H h a o
end
section
variable{P:Program}{w:World}{H H':Hp}{h h':Heap}{a:Addr}{o:HO}
theorem ObjOk.lt(x:ObjOk P w H h a o):a<h.objs.size:=by
 cases o with
 |lst xs=>obtain⟨_,_,_,_,e⟩:=x;exact lt_size e
 |tup xs=>obtain⟨_,_,_,p⟩:=x;exact p.1.lt
 |dK kvs=>obtain⟨_,_,_,_,o,_,_,e,_⟩:=x;exact lt_size e
 |dT kvs=>obtain⟨_,_,_,_,o,_,_,e,_⟩:=x;exact lt_size e
 |set S n=>obtain⟨o,_,_,_,e,_⟩:=x;exact lt_size e
 |ins C dx fs=>obtain⟨_,_,_,e,_⟩:=x;exact lt_size e
 |own y=>obtain⟨_,e⟩:=x;exact lt_size e
 |xd fs=>obtain⟨_,⟨_,_,_,e,_⟩,_⟩:=x;exact lt_size e
 |rng lo hi=>obtain⟨_,_,_,e⟩:=x;exact lt_size e
 |frz ob u=>obtain⟨e,_⟩:=x;exact lt_size e
 |tbl ps=>exact lt_size (show h.get? a=some _ from x)
 |met f y=>exact lt_size (show h.get? a=some _ from x)
 |ext φ=>obtain⟨_,⟨_,e⟩,_⟩:=x;exact lt_size e
theorem Paired.mapP{α β:Type}{F G:α -> β -> Prop}:∀{l₁:List α} {l₂:List β},Paired F l₁ l₂ -> (∀a b,F a b->G a b)->Paired G l₁ l₂
 |_,_,.nil,_=>.nil
 |_,_,.cons r t,f=>.cons (f _ _ r) (Paired.mapP t f)
theorem ObjOk.stay(x:ObjOk P w H h a o)(k:∀b u,(b=a\/H b=some (.own a))->h.get? b=some u->h'.get? b=some u)
  (ho:∀b,H b=some (.own a)->H' b=some (.own a)) (ht:∀b xs,H b=some (.tup xs)->H' b=some (.tup xs)):ObjOk P w H' h' a o:=by
 induction o with
 |lst xs=>obtain⟨z,its,n,r,e⟩:=x;exact⟨z,its,n,r,k _ _ (.inl rfl) e⟩
 |tup xs=>obtain⟨z,its,r,⟨ob,e,c⟩,od,e',c'⟩:=x;exact⟨z,its,r,⟨ob,k _ _ (.inl rfl) e,c⟩,od,k _ _ (.inl rfl) e',c'⟩
 |dK kvs=>obtain⟨z,y,vs,r,ob,es,ep,e,c⟩:=x;exact⟨z,y,vs,r,ob,es,ep,k _ _ (.inl rfl) e,c⟩
 |dT kvs=>
  obtain⟨z,y,xs,r,ob,es,ep,e,c⟩:=x;exact⟨z,y,xs,Paired.mapP r fun p q z=>⟨z.1,ht _ _ z.2.1,z.2.2⟩,ob,es,ep,k _ _ (.inl rfl) e,c⟩
 |set S n=>obtain⟨ob,es,ep,t,e,c⟩:=x;exact⟨ob,es,ep,t,k _ _ (.inl rfl) e,c⟩
 |ins C dx fs=>
  obtain⟨d,z,ne,e,mA,⟨od,es,ep,e2,c⟩,r⟩:=x;exact⟨ho _ d,z,ne,k _ _ (.inl rfl) e,mA,⟨od,es,ep,k _ _ (.inr d) e2,c⟩,r⟩
 |own y=>obtain⟨ob,e⟩:=x;exact⟨ob,k _ _ (.inl rfl) e⟩
 |xd fs=>obtain⟨mA,⟨od,es,ep,e,c⟩,r⟩:=x;exact⟨mA,⟨od,es,ep,k _ _ (.inl rfl) e,c⟩,r⟩
 |rng lo hi=>obtain⟨t,u,v,e⟩:=x;exact⟨t,u,v,k _ _ (.inl rfl) e⟩
 |frz ob u ih=>obtain⟨e,q⟩:=x;exact⟨k _ _ (.inl rfl) e,ih q⟩
 |tbl ps=>
  have e:h.get? a=some { cls:=.none,data:=.fields ps }:=x;show h'.get? a=some { cls:=.none,data:=.fields ps };exact k a _ (.inl rfl) e
 |met f y=>
  have e:h.get? a=some (methodObj (.ref f) (.ref y)):=x;show h'.get? a=some (methodObj (.ref f) (.ref y));exact k a _ (.inl rfl) e
 |ext φ=>obtain⟨p,⟨o,e⟩,st⟩:=x;exact⟨st _ _ p fun o q=>k _ _ (.inl rfl) q,⟨o,k _ _ (.inl rfl) e⟩,st⟩
theorem HOk.lt(x:HOk P w H h)(e:H a=some o):a<h.objs.size:=(x a o e).lt
theorem HOk.fresh(x:HOk P w H h)(e:h.objs.size<=a):H a=none:=by
 cases q:H a with
 |none=>rfl
 |some u=>exact absurd (lt_of_lt_of_le (x.lt q) e) (lt_irrefl _)
theorem HOk.kept(x:HOk P w H h)(k:∀b u,h.get? b=some u->h'.get? b=some u):HOk P w H h':=fun a o e=>
 (x a o e).stay (fun b u _ q=>k b u q) (fun _ q=>q) fun _ _ q=>q
theorem HOk.laid(x:HOk P w H h)(k:∀b u,h.get? b=some u->h'.get? b=some u)(hp:h.objs.size<=a)(new:ObjOk P w (upd H a o) h' a o):HOk P w (upd H a o) h':=fun b u e=>by
 have hn:=x.fresh hp;by_cases hb:b=a
 ·subst hb;rw[aN]at e;cases e;exact new
 ·rw[aA hb]at e
  exact(x b u e).stay (fun c v _ q=>k c v q) (fun c q=>by rw[aA (aW q hn)];exact q) fun c xs q=>by rw[aA (aW q hn)];exact q
end
def Rd(H:Hp)(a:Addr)(u:HO):Prop:=H a=some u\/∃o,H a=some (.frz o u)
theorem Rd.ok{P:Program}{w:World}{H:Hp}{h:Heap}{a:Addr}{u:HO}(r:Rd H a u)(x:HOk P w H h):ObjOk P w H h a u:=by
 rcases r with r|⟨o,r⟩
 ·exact x a u r
 ·obtain⟨_,q⟩:=x a _ r
  exact q
def Nk:Option HO->Prop
 |some (.lst _)=>True
 |some (.dK _)=>True
 |some (.dT _)=>True
 |some (.set _ _)=>True
 |some (.ins _ _ _)=>True
 |some (.ext _)=>True
 |_=>False
section
variable{P:Program}{w:World}{H:Hp}{h h':Heap}{x e:Addr}{o':HO}
theorem HOk.write(ok:HOk P w H h)(mu:Nk (H x))(he:e=x\/H e=some (.own x))(k:∀b u,b≠e->h.get? b=some u->h'.get? b=some u)(heo:∃u,h'.get? e=some u)
  (new:ObjOk P w (upd H x o') h' x o'):HOk P w (upd H x o') h':=fun b u q=>by
 have nown:∀c y,H c=some (.own y)->c≠x:=fun c y r z=>by subst z;rw[r]at mu;exact mu
 have ntup:∀c xs,H c=some (.tup xs)->c≠x:=fun c xs r z=>by subst z;rw[r]at mu;exact mu
 by_cases hb:b=x
 ·subst hb;rw[aN]at q;cases q;exact new
 ·rw[aA hb]at q
  by_cases hbe:b=e
  ·have q':H b=some (.own x):=by
    rcases he with z|z
    ·exact absurd (hbe.trans z) hb
    ·rw[hbe];exact z
   rw[q]at q';cases q';obtain⟨v,hv⟩:=heo;exact⟨v,by rw[hbe];exact hv⟩
  ·refine(ok b u q).stay (fun c v hc r=>k c v ?_ r) (fun c r=>by rw[aA (nown c b r)];exact r) fun c xs r=>by rw[aA (ntup c xs r)];exact r
   rcases hc with rfl|hc
   ·exact hbe
   ·rintro rfl
    rcases he with z|z
    ·exact nown c b hc z
    ·rw[hc]at z;cases z;exact hb rfl
end
structure Un (fs ex:List Addr) (H H':Hp) (h h':Heap):Prop where
 keep:∀b o,h.get? b=some o->H b=none->b ∉ fs->b ∉ ex->h'.get? b=some o
 slot:∀b o,h.get? b=some o->H b=none->b∈fs->b ∉ ex->∃sl,h'.get? b=some { o with slots:=sl }
 free:∀b o,h.get? b=some o->H b=none->b ∉ ex->H' b=none
 there:∀b o,h.get? b=some o->b ∉ ex->∃o',h'.get? b=some o'
 tups:∀b xs,H b=some (.tup xs)->H' b=some (.tup xs)
 frzs:∀b o u,H b=some (.frz o u)->H' b=some (.frz o u)
 tbls:∀b ps,H b=some (.tbl ps)->∃more,H' b=some (.tbl (ps++more))
section
variable{fs fs' ex ex':List Addr}{H H1 H2:Hp}{h h1 h2 h':Heap}{a x e:Addr}{o:HO}
theorem Un.any(u:Un fs ex H H1 h h1){b:Addr}{ob:Obj}(q:h.get? b=some ob)(n:H b=none)(hx:b ∉ ex):∃sl,h1.get? b=some { ob with slots:=sl }:=by
 by_cases hb:b∈fs
 ·exact u.slot b ob q n hb hx
 ·exact⟨ob.slots,u.keep b ob q n hb hx⟩
theorem Un.kept(k:∀b u,h.get? b=some u->h'.get? b=some u):Un fs ex H H h h':=
 ⟨fun b ob q _ _ _=>k b ob q,fun b ob q _ _ _=>⟨ob.slots,k b ob q⟩,fun _ _ _ n _=>n,fun b ob q _=>⟨ob,k b ob q⟩,fun _ _ q=>q,fun _ _ _ q=>q,fun _ ps q=>⟨#[],by rw[q];simp⟩⟩
theorem Un.refl:Un fs ex H H h h:=Un.kept fun _ _ q=>q
theorem Un.laid(k:∀b u,h.get? b=some u->h'.get? b=some u)(hp:h.objs.size<=a)(hn:H a=none):Un fs ex H (upd H a o) h h' where
 keep:=fun b u q _ _ _=>k b u q
 slot:=fun b u q _ _ _=>⟨u.slots,k b u q⟩
 free:=fun b u q n _=>by rw[aA (ne_of_lt (lt_of_lt_of_le (lt_size q) hp))];exact n
 there:=fun b u q _=>⟨u,k b u q⟩
 tups:=fun b xs q=>by rw[aA (aW q hn)];exact q
 frzs:=fun b u xs q=>by rw[aA (aW q hn)];exact q
 tbls:=fun b ps q=>⟨#[],by rw[aA (aW q hn),q];simp⟩
theorem Un.write(mu:Nk (H x))(he:e=x\/H e=some (.own x))(k:∀b u,b≠e->h.get? b=some u->h'.get? b=some u)(heo:∃u,h'.get? e=some u):Un fs ex H (upd H x o) h h':=by
 have hx:∀b,H b=none->b≠x:=fun b n z=>by subst z;rw[n]at mu;exact mu
 have hb:∀b,H b=none->b≠e:=fun b n z=>by
  subst z;rcases he with r|r
  ·exact hx b n r
  ·rw[n]at r;cases r
 have hm:∀b u,H b=some u->¬Nk (some u)->b≠x:=fun b u q nm z=>by subst z;rw[q]at mu;exact nm mu
 refine⟨fun b u q n _ _=>k b u (hb b n) q,fun b u q n _ _=>⟨u.slots,k b u (hb b n) q⟩,fun b u q n _=>by rw[aA (hx b n)];exact n,fun b u q _=>?_,
  fun b xs q=>by rw[aA (hm b _ q fun z=>z)];exact q,fun b u xs q=>by rw[aA (hm b _ q fun z=>z)];exact q,fun b ps q=>⟨#[],by rw[aA (hm b _ q fun z=>z),q];simp⟩⟩
 by_cases hbe:b=e
 ·subst hbe;exact heo
 ·exact⟨u,k b u hbe q⟩
end
def Nl(h:Heap)(H:Hp):List Addr:=(List.range h.objs.size).filter fun a=>(H a).isSome
def tZ(h:Heap)(H:Hp):Heap:=PySem.W.hideAll h (Nl h H)
theorem AD(h:Heap)(H:Hp):(tZ h H).objs.size=h.objs.size:=PySem.W.hideAll_size _ _
theorem C2{h:Heap}{H:Hp}{b:Addr}{o:Obj}(e:h.get? b=some o)(n:H b=none):(tZ h H).get? b=some o:=
 PySem.W.hideAll_get _ e fun hm=>by
  have q:(H b).isSome=true:=(List.mem_filter.mp hm).2;rw[n]at q;simp at q
theorem Ft{h:Heap}{H:Hp}{b:Addr}{o:Obj}(e:(tZ h H).get? b=some o):h.get? b=some o/\H b=none:=by
 have e':h.get? b=some o:=PySem.W.of_hideAll (Nl h H) e;refine⟨e',?_⟩;cases q:H b with
 |none=>rfl
 |some x=>
  have hm:b∈Nl h H:=List.mem_filter.mpr ⟨List.mem_range.mpr (lt_size e'),by simp[q]⟩;have z:(tZ h H).get? b=none:=PySem.W.hideAll_none (Nl h H) hm;rw[z]at e;cases e
noncomputable def GR(g h:Heap)(L:Addr):List (Addr×Obj):=(List.range h.objs.size).filterMap fun a=>if a=L\/(g.get? a).isSome=true then none else(h.get? a).map fun o=>(a,o)
def rest(g h:Heap)(L d:Addr):List (Addr×Obj):=(GR g h L).filter fun p=>decide (p.1≠d)
structure Mod (K:PySem.W.Frag) (mg:Str->Option Value) (base:Heap):Prop where
 kin:K.In base
 glob:base.Ns mainGlobals mg
 blt:∃mb,base.Ns builtinsNs mb/\∀x:Str,x ≠ "__name__" -> mb x=bootBuiltins x
 nolimit:base.NoLimit
structure Cx where
 prog:Program
 w:World
 K:PySem.W.Frag
 mg:Str->Option Value
 base:Heap
 A:Around
 N:List Str
 s₀:Shared
 H₀:Hp
 env:Env
 outer:List Env
 stack:List Env
 ex:List Addr
 fn:Str->Bool
 calm:Bool
 pn:List (Addr×Obj)
 xe:Value->Shared->Prop
def A0(l:List Env):List Addr:=l.filterMap (·.frame)
abbrev Cx.fs(X:Cx):List Addr:=A0 X.outer
def xJ(sc:Scope)(x:Str):Prop:=sc.names.lookup x=some .local\/sc.names.lookup x=some .cell\/sc.names.lookup x=some .free
def zv(sc:Scope)(x:Str):Prop:=sc.names.lookup x=some .local\/sc.names.lookup x=some .cell
def O0(env:Env)(h:Heap)(m:Str->Option Value)(x:Str)(u:Value):Prop:=
 (env.kindOf x=some .local/\m x=some u)\/((env.kindOf x=some .cell\/env.kindOf x=some .free)/\∃c,env.cells.lookup x=some c/\h.IsCell c (some u))
structure Cx.Ok (X:Cx):Prop where
 mod:Mod X.K X.mg X.base
 kind:X.env.scope.kind=.function
 glob:X.env.globals=mainGlobals
 blt:X.env.builtins=builtinsNs
 above:X.s₀.heap.objs.size<=X.env.locals
 inj:∀x y c,X.env.cells.lookup x=some c->X.env.cells.lookup y=some c->x=y
 has:∀x,(X.env.kindOf x=some .cell\/X.env.kindOf x=some .free)->∃c,X.env.cells.lookup x=some c
 cab:∀x c,X.fn x=true->X.env.cells.lookup x=some c->X.s₀.heap.objs.size<=c
 hd:X.calm=true->X.A.handled=none
 frames:X.A.frames=some X.stack
 stk:X.stack=X.outer\/(X.stack=X.env::X.outer/\X.env.frame=some X.env.locals)
 exf:∀b∈X.ex,b≠X.env.locals/\∀x c,X.env.cells.lookup x=some c->c≠b
 bs:∀b o,X.base.get? b=some o->X.s₀.heap.get? b=some o/\X.H₀ b=none
 bsz:X.base.objs.size<=X.s₀.heap.objs.size
 noex:∀b o,X.base.get? b=some o->b ∉ X.ex
 exfs:∀b∈X.ex,b ∉ X.fs
 funs:X.s₀.heap.FunFrames X.base X.outer
 frf:∀b∈X.fs,X.H₀ b=none
structure Inv (X:Cx) (pins:List (Addr×Obj)) (σ:List (Option V)) (H:Hp) (s:Shared):Prop where
 ok:X.Ok
 os:s.os=X.s₀.os
 bare:AllBare s.gens
 base:Un X.fs X.ex X.H₀ H X.s₀.heap s.heap
 loc:∃m,s.heap.Ns X.env.locals m/\∀(i:Nat) (x:Str) (v:V),X.N[i]? = some x -> σ[i]? = some (some v)->xJ X.env.scope x->∃u,RelV v u/\O0 X.env s.heap m x u
 cell:∀x c,X.env.cells.lookup x=some c->∃v,s.heap.IsCell c v
 free:H X.env.locals=none
 freeC:∀x c,X.env.cells.lookup x=some c->H c=none
 pin:∀p∈X.pn++pins,s.heap.get? p.1=some p.2/\H p.1=none/\p.1≠X.env.locals/\p.1 ∉ X.fs/\∀v,p.2.data≠.cell v
 hok:HOk X.prog X.w H s.heap
 len:σ.length=X.N.length
section
variable{X:Cx}{pins:List (Addr×Obj)}{σ:List (Option V)}{H H':Hp}{s:Shared}{h':Heap}
theorem Cx.Ok.nofr(ok:X.Ok){b:Addr}{o:Obj}(e:X.base.get? b=some o):b ∉ X.fs:=fun hb=>by
 have:=(ok.funs.mem hb).1;rw[e]at this;cases this
theorem Inv.bs(I:Inv X pins σ H s):∀b o,X.base.get? b=some o->s.heap.get? b=some o/\H b=none:=fun b o e=>
 ⟨I.base.keep b o (I.ok.bs b o e).1 (I.ok.bs b o e).2 (I.ok.nofr e) (I.ok.noex b o e),I.base.free b o (I.ok.bs b o e).1 (I.ok.bs b o e).2 (I.ok.noex b o e)⟩
theorem Inv.bk(I:Inv X pins σ H s):∀b o,X.base.get? b=some o->s.heap.get? b=some o:=fun b o e=>(I.bs b o e).1
theorem Inv.mod(I:Inv X pins σ H s):Mod X.K X.mg X.base:=I.ok.mod
theorem Inv.kIn(I:Inv X pins σ H s):X.K.In s.heap:=I.ok.mod.kin.keeps I.bk
theorem Inv.fr(I:Inv X pins σ H s):∃m,Fr X.base X.env.locals s.heap m:=
 let ⟨m,hn,_⟩:=I.loc
 ⟨m,hn,I.bk,le_trans I.ok.bsz I.ok.above⟩
theorem Inv.lt(I:Inv X pins σ H s):X.env.locals<s.heap.objs.size:=let ⟨_,hn,_⟩:=I.loc;hn.lt
theorem Inv.sz(I:Inv X pins σ H s):X.s₀.heap.objs.size<=s.heap.objs.size:=le_trans I.ok.above (Nat.le_of_lt I.lt)
theorem Inv.nofs(I:Inv X pins σ H s){a:Addr}(h:s.heap.objs.size<=a):a ∉ X.fs:=fun hb=>by
 obtain⟨_,o,ho,_⟩:=I.ok.funs.mem hb;exact absurd (lt_of_lt_of_le (lt_size ho) (le_trans I.sz h)) (lt_irrefl _)
theorem Inv.cne(I:Inv X pins σ H s):∀x c,X.env.cells.lookup x=some c->c≠X.env.locals:=fun x c e z=>by
 obtain⟨v,o,ho,hd⟩:=I.cell x c e;obtain⟨m,⟨o',es,ep,ho',hd',_⟩,_⟩:=I.loc;rw[z,ho']at ho;cases ho;rw[hd']at hd;cases hd
theorem Inv.funs(I:Inv X pins σ H s):s.heap.FunFrames X.base X.outer:=by
 have all:∀(l:List Env),(∀b∈A0 l,b∈X.fs)->X.s₀.heap.FunFrames X.base l->s.heap.FunFrames X.base l:=by
  intro l
  induction l with
  |nil=>intro _ _;trivial
  |cons env r ih=>
   intro hs hl;obtain⟨hk,⟨L,o,hf,hn,ho,hd⟩,hr⟩:=hl;have hL:L∈X.fs:=hs L (by unfold A0;rw[List.filterMap_cons,hf];exact List.mem_cons_self);obtain⟨sl,e⟩:=I.base.slot L o ho (I.ok.frf L hL) hL fun z=>I.ok.exfs L z hL
   exact⟨hk,⟨L,_,hf,hn,e,hd⟩,ih (fun b hb=>hs b (by unfold A0;rw[List.filterMap_cons,hf];exact mem_cons_of_mem _ hb)) hr⟩
 exact all X.outer (fun _ hb=>hb) I.ok.funs
theorem Inv.stack(I:Inv X pins σ H s):s.heap.FunFrames X.base X.stack:=by
 rcases I.ok.stk with e|⟨e,hf⟩
 ·rw[e];exact I.funs
 ·rw[e]
  obtain⟨m,hn,_⟩:=I.loc;refine .cons (by rw[I.ok.kind];decide) hf hn ?_ I.funs;exact Heap.get?_none_of_le (le_trans I.ok.bsz I.ok.above)
theorem Inv.stkSub(I:Inv X pins σ H s):∀b∈A0 X.stack,b∈X.env.locals::X.fs:=fun b hb=>by
 rcases I.ok.stk with e|⟨e,hf⟩
 ·rw[e]at hb;exact mem_cons_of_mem _ hb
 ·rw[e]at hb
  unfold A0 at hb;rw[List.filterMap_cons,hf]at hb;exact hb
theorem Inv.stkFree(I:Inv X pins σ H s):∀b∈A0 X.stack,H b=none:=fun b hb=>by
 rcases List.mem_cons.mp (I.stkSub b hb)with e|hb
 ·rw[e];exact I.free
 ·obtain⟨_,o,ho,_⟩:=I.ok.funs.mem hb
  exact I.base.free b o ho (I.ok.frf b hb) fun z=>I.ok.exfs b z hb
theorem Inv.step{g':Array GenState}{t':Nat}{d':Drawn}{ch:List Addr}(I:Inv X pins σ H s)
  (hch:∀b∈ch,(b∈X.ex\/X.s₀.heap.objs.size<=b)/\b≠X.env.locals/\(∀x c,X.env.cells.lookup x=some c->c≠b)/\∀p∈X.pn++pins,p.1≠b)
  (keep:∀b o,b≠X.env.locals->b ∉ X.fs->b ∉ ch->s.heap.get? b=some o->H b=none->h'.get? b=some o)
  (slot:∀b o,b≠X.env.locals->b∈X.fs->b ∉ ch->s.heap.get? b=some o->H b=none->∃sl,h'.get? b=some { o with slots:=sl }) (free:∀b o,b ∉ ch->s.heap.get? b=some o->H b=none->H' b=none)
  (there:∀b o,b ∉ ch->s.heap.get? b=some o->∃o',h'.get? b=some o')
  (tups:∀b xs,H b=some (.tup xs)->H' b=some (.tup xs)) (frzs:∀b o u,H b=some (.frz o u)->H' b=some (.frz o u)) (tbls:∀b ps,H b=some (.tbl ps)->∃more,H' b=some (.tbl (ps++more)))
  (ns:∀m,s.heap.Ns X.env.locals m->h'.Ns X.env.locals m) (hok:HOk X.prog X.w H' h') (hg:AllBare g') :
  Inv X pins σ H' { s with heap:=h',gens:=g',drawn:=d',toks:=t' }:=by
 have neL:∀b o,X.s₀.heap.get? b=some o->b≠X.env.locals:=fun b o e=>ne_of_lt (lt_of_lt_of_le (lt_size e) I.ok.above)
 have neC:∀b o,X.s₀.heap.get? b=some o->b ∉ X.ex->b ∉ ch:=fun b o e hx hb=>by
  rcases (hch b hb).1 with z|z
  ·exact hx z
  ·exact absurd (lt_of_lt_of_le (lt_size e) z) (lt_irrefl _)
 have cellK:∀x c,X.env.cells.lookup x=some c->∀v,s.heap.IsCell c v->h'.IsCell c v:=fun x c e v ⟨o,ho,hd⟩=>by
  have nch:c ∉ ch:=fun z=>(hch c z).2.2.1 x c e rfl
  by_cases hc:c∈X.fs
  ·obtain⟨sl,q⟩:=slot c o (I.cne x c e) hc nch ho (I.freeC x c e)
   exact⟨_,q,hd⟩
  ·exact⟨o,keep c o (I.cne x c e) hc nch ho (I.freeC x c e),hd⟩
 refine⟨I.ok,I.os,hg,⟨fun b o e n hb hx=>?_,fun b o e n hb hx=>?_,fun b o e n hx=>?_,fun b o e hx=>?_,fun b xs e=>tups b xs (I.base.tups b xs e),fun b o xs e=>frzs b o xs (I.base.frzs b o xs e),fun b ps e=>?_⟩,?_,fun x c e=>?_,?_,fun x c e=>?_,fun p hp=>?_,hok,I.len⟩
 ·exact keep b o (neL b o e) hb (neC b o e hx) (I.base.keep b o e n hb hx) (I.base.free b o e n hx)
 ·obtain⟨sl,e1⟩:=I.base.slot b o e n hb hx
  obtain⟨sl',e2⟩:=slot b _ (neL b o e) hb (neC b o e hx) e1 (I.base.free b o e n hx);exact⟨sl',e2⟩
 ·obtain⟨o',e1⟩:=I.base.there b o e hx
  exact free b o' (neC b o e hx) e1 (I.base.free b o e n hx)
 ·obtain⟨o',e1⟩:=I.base.there b o e hx
  exact there b o' (neC b o e hx) e1
 ·obtain⟨m1,e1⟩:=I.base.tbls b ps e
  obtain⟨m2,e2⟩:=tbls b _ e1;exact⟨m1++m2,by rw[e2,Array.append_assoc]⟩
 ·obtain⟨m,hn,hl⟩:=I.loc
  refine⟨m,ns m hn,fun i x v e1 e2 e3=>?_⟩
  obtain⟨u,r,l⟩:=hl i x v e1 e2 e3;refine⟨u,r,?_⟩;rcases l with l|⟨k,c,e,z⟩
  ·exact .inl l
  ·exact .inr ⟨k,c,e,cellK x c e _ z⟩
 ·obtain⟨v,z⟩:=I.cell x c e
  exact⟨v,cellK x c e v z⟩
 ·obtain⟨m,⟨o,_,_,ho,_⟩,_⟩:=I.loc
  exact free _ o (fun z=>(hch _ z).2.1 rfl) ho I.free
 ·obtain⟨v,o,ho,hd⟩:=I.cell x c e
  exact free c o (fun z=>(hch c z).2.2.1 x c e rfl) ho (I.freeC x c e)
 ·obtain⟨e,n,ne,nf,d⟩:=I.pin p hp
  have nch:p.1 ∉ ch:=fun z=>(hch p.1 z).2.2.2 p hp rfl
  exact⟨keep p.1 p.2 ne nf nch e n,free p.1 p.2 nch e n,ne,nf,d⟩
theorem Inv.un{t':Nat}(I:Inv X pins σ H s)(u:Un X.fs [] H H' s.heap h')(hok:HOk X.prog X.w H' h'):Inv X pins σ H' { s with heap:=h',toks:=t' }:=by
 obtain⟨m,⟨o,es,ep,ho,r⟩,_⟩:=id I.loc;obtain⟨sl,hL⟩:=u.any ho I.free (by simp);exact I.step (g':=s.gens) (d':=s.drawn) (ch:=[]) (fun _ z=>nomatch z) (fun b o _ hb _ e n=>u.keep b o e n hb (by simp)) (fun b o _ hb _ e n=>u.slot b o e n hb (by simp)) (fun b o _ e n=>u.free b o e n (by simp)) (fun b o _ e=>u.there b o e (by simp)) u.tups u.frzs u.tbls (fun m' hm=>by
  obtain⟨o',es',ep',ho',r'⟩:=hm;rw[ho]at ho';cases ho';exact⟨_,es',ep',hL,r'⟩) hok I.bare
theorem Inv.call{g':Array GenState}{t':Nat}{d':Drawn}{ch:List Addr}(I:Inv X pins σ H s)(u:Un (A0 X.stack) ch H H' s.heap h')(hok:HOk X.prog X.w H' h')(hg:AllBare g')
  (hch:∀b∈ch,(b∈X.ex\/X.s₀.heap.objs.size<=b)/\b≠X.env.locals/\(∀x c,X.env.cells.lookup x=some c->c≠b)/\∀p∈X.pn++pins,p.1≠b) :
  Inv X pins σ H' { s with heap:=h',gens:=g',drawn:=d',toks:=t' }:=by
 obtain⟨m,⟨o,es,ep,ho,r⟩,_⟩:=id I.loc;obtain⟨sl,hL⟩:=u.any ho I.free fun z=>(hch _ z).2.1 rfl
 exact I.step (ch:=ch) hch (fun b o hL hb hc e n=>u.keep b o e n (fun z=>(List.mem_cons.mp (I.stkSub b z)).elim hL hb) hc) (fun b o _ _ hc e n=>u.any e n hc) (fun b o hc e n=>u.free b o e n hc) (fun b o hc e=>u.there b o e hc) u.tups u.frzs u.tbls (fun m' hm=>by
  obtain⟨o',es',ep',ho',r'⟩:=hm;rw[ho]at ho';cases ho';exact⟨_,es',ep',hL,r'⟩) hok hg
theorem Inv.turned{t':Nat}{it:Addr}(I:Inv X pins σ H s)(k:∀b o,b≠it->s.heap.get? b=some o->h'.get? b=some o)(hn:H it=none)(hL:it≠X.env.locals)
  (h1:it∈X.ex\/X.s₀.heap.objs.size<=it) (h2:∀x c,X.env.cells.lookup x=some c->c≠it) (h3:∀p∈X.pn++pins,p.1≠it):Inv X pins σ H { s with heap:=h',toks:=t' }:=by
 have nit:∀b u,H b=some u->b≠it:=fun b u e z=>by rw[z,hn]at e;cases e
 refine I.step (g':=s.gens) (d':=s.drawn) (ch:=[it]) (fun b hb=>?_) (fun b o _ _ hc e _=>k b o (fun z=>hc (by simp[z])) e) (fun b o _ _ hc e _=>⟨o.slots,k b o (fun z=>hc (by simp[z])) e⟩) (fun _ _ _ _ n=>n)
  (fun b o hc e=>⟨o,k b o (fun z=>hc (by simp[z])) e⟩) (fun _ _ e=>e) (fun _ _ _ e=>e) (fun b ps e=>⟨#[],by rw[e];simp⟩) (fun m hm=>?_) (fun b u e=>?_) I.bare
 ·have e:b=it:=by simpa using hb
  subst e;exact⟨h1,hL,h2,h3⟩
 ·obtain⟨o,es,ep,ho,r⟩:=hm
  exact⟨o,es,ep,k _ o (Ne.symm hL) ho,r⟩
 ·refine(I.hok b u e).stay (fun c v hc q=>k c v ?_ q) (fun _ q=>q) fun _ _ q=>q
  rcases hc with z|z
  ·rw[z];exact nit b u e
  ·exact nit c _ z
theorem Inv.tok(I:Inv X pins σ H s)(t:Nat):Inv X pins σ H { s with toks:=t }:=I.un (h':=s.heap) (t':=t) Un.refl I.hok
theorem Inv.kept{t':Nat}(I:Inv X pins σ H s)(k:∀b u,s.heap.get? b=some u->h'.get? b=some u):Inv X pins σ H { s with heap:=h',toks:=t' }:=I.un (Un.kept k) (I.hok.kept k)
theorem Inv.laid{a:Addr}{o:HO}{t':Nat}(I:Inv X pins σ H s)(k:∀b u,s.heap.get? b=some u->h'.get? b=some u)(hp:s.heap.objs.size<=a)(new:ObjOk X.prog X.w (upd H a o) h' a o):
  Inv X pins σ (upd H a o) { s with heap:=h',toks:=t' }:=I.un (Un.laid k hp (I.hok.fresh hp)) (I.hok.laid k hp new)
theorem Inv.write{x e:Addr}{o:HO}{t':Nat}(I:Inv X pins σ H s)(mu:Nk (H x))(he:e=x\/H e=some (.own x))(k:∀b u,b≠e->s.heap.get? b=some u->h'.get? b=some u)(heo:∃u,h'.get? e=some u)
  (new:ObjOk X.prog X.w (upd H x o) h' x o):Inv X pins σ (upd H x o) { s with heap:=h',toks:=t' }:=I.un (Un.write mu he k heo) (I.hok.write mu he k heo new)
theorem Inv.weak{σ':List (Option V)}(I:Inv X pins σ H s)(hl:σ'.length = σ.length)(w:∀(i:Nat) v,σ'[i]? = some (some v) -> σ[i]? = some (some v)):Inv X pins σ' H s:=
 ⟨I.ok,I.os,I.bare,I.base,let ⟨m,hn,hl'⟩:=I.loc; ⟨m,hn,fun i x v e1 e2 e3=>hl' i x v e1 (w i v e2) e3⟩,I.cell,I.free,I.freeC,I.pin,I.hok,hl.trans I.len⟩
theorem Inv.pins_of{pins':List (Addr×Obj)}(I:Inv X pins σ H s)(h:∀p∈pins',s.heap.get? p.1=some p.2/\H p.1=none/\p.1≠X.env.locals/\p.1 ∉ X.fs/\∀v,p.2.data≠.cell v):Inv X pins' σ H s:=
 ⟨I.ok,I.os,I.bare,I.base,I.loc,I.cell,I.free,I.freeC,fun p hp=>(List.mem_append.mp hp).elim (fun z=>I.pin p (List.mem_append_left _ z)) (h p),I.hok,I.len⟩
theorem vo{N:List Str}(hN:N.Nodup){i j:Nat}{x:Str}(a:N[i]? = some x)(b:N[j]? = some x):i=j:=by
 obtain⟨h1,e1⟩:=List.getElem?_eq_some_iff.mp a;obtain⟨h2,e2⟩:=List.getElem?_eq_some_iff.mp b;exact(List.getElem_inj hN).mp (e1.trans e2.symm)
theorem zL{M:Model}{A:Around}{E:Value->Shared->Prop}{i:Nat}{x:Str}{v:V}{u:Value}{Q:Unit->Shared->Prop}(I:Inv X pins σ H s)(hN:X.N.Nodup)(hi:X.N[i]? = some x)(hx:zv X.env.scope x)(r:RelV v u)
  (h:∀s',Inv X pins (σ.set i (some v)) H s'->(∃a,Heap.SameBut a s.heap s'.heap/\(a=X.env.locals\/X.env.cells.lookup x=some a))->Q () s') (hf:X.fn x=true\/X.env.scope.names.lookup x=some .local:=by first|exact .inl rfl|exact .inr rfl|assumption):wpAny M A (storeName X.env x u) Q E s:=by
 obtain⟨m,hn,hl⟩:=id I.loc;have hcls:(X.env.scope.kind == .class||(X.env.scope.kind == .module&&X.env.locals != X.env.globals))=false:=by rw[I.ok.kind];rfl
 have hiσ:i < σ.length:=by rw[I.len];exact(List.getElem?_eq_some_iff.mp hi).1
 have cne:=I.cne;have tracked:∀{a:Addr} {h':Heap},(∃o,s.heap.get? a=some o/\H a=none)->Heap.SameBut a s.heap h'->HOk X.prog X.w H h':=fun{a h'} ha hs b ob e=>by
  obtain⟨_,_,hfree⟩:=ha;refine(I.hok b ob e).stay (fun c w' hc q=>(hs.2 c ?_).trans q) (fun _ q=>q) fun _ _ q=>q
  rintro rfl;rcases hc with rfl|hc
  ·rw[hfree]at e;cases e
  ·rw[hfree]at hc;cases hc
 rcases hx with hk|hk
 ·refine wpAny_storeName_local hk hn (fun h' hn' hs=>?_) hcls
  obtain⟨oL,_,_,hoL,_⟩:=id hn;refine h _ ⟨I.ok,I.os,I.bare,⟨fun b o e n hb hx=>?_,fun b o e n hb hx=>?_,I.base.free,fun b o e hx=>?_,I.base.tups,I.base.frzs,I.base.tbls⟩,⟨_,hn',fun j y v' e1 e2 e3=>?_⟩,fun y c e=>?_,I.free,I.freeC,fun p hp=>?_,tracked ⟨oL,hoL,I.free⟩ hs,by simpa using I.len⟩ ⟨_,hs,.inl rfl⟩
  ·exact(hs.2 b (ne_of_lt (lt_of_lt_of_le (lt_size e) I.ok.above))).trans (I.base.keep b o e n hb hx)
  ·obtain⟨sl,e1⟩:=I.base.slot b o e n hb hx
   exact⟨sl,(hs.2 b (ne_of_lt (lt_of_lt_of_le (lt_size e) I.ok.above))).trans e1⟩
  ·obtain⟨o',e1⟩:=I.base.there b o e hx
   exact⟨o',(hs.2 b (ne_of_lt (lt_of_lt_of_le (lt_size e) I.ok.above))).trans e1⟩
  ·by_cases hj:j=i
   ·subst hj
    rw[hi]at e1;cases e1;rw[List.getElem?_set_self hiσ]at e2;cases e2;exact⟨u,r,.inl ⟨hk,by simp⟩⟩
   ·rw[List.getElem?_set_ne (Ne.symm hj)]at e2
    obtain⟨u',r',q⟩:=hl j y v' e1 e2 e3;refine⟨u',r',?_⟩;rcases q with⟨k,e⟩|⟨k,c,e,z⟩
    ·refine .inl ⟨k,?_⟩
     have:y≠x:=fun e=>hj (vo hN e1 (e ▸ hi))
     simp[this,e]
    ·exact .inr ⟨k,c,e,z.sameBut hs (cne y c e)⟩
  ·obtain⟨w',z⟩:=I.cell y c e
   exact⟨w',z.sameBut hs (cne y c e)⟩
  ·obtain⟨e,n,ne,nf,d⟩:=I.pin p hp
   exact⟨(hs.2 p.1 ne).trans e,n,ne,nf,d⟩
 ·have hfn:X.fn x=true:=by
   rcases hf with z|z
   ·exact z
   ·rw[z]at hk;cases hk
  obtain⟨c,hc⟩:=I.ok.has x (.inl hk);obtain⟨w',z⟩:=I.cell x c hc;refine wpAny_storeName_cell I.ok.kind hk hc z (fun h' hc' hs=>?_);obtain⟨oc,hoc,hocd⟩:=id z;refine h { s with heap:=h' } ⟨I.ok,I.os,I.bare,⟨fun b o e n hb hx=>?_,fun b o e n hb hx=>?_,I.base.free,fun b o e hx=>?_,I.base.tups,I.base.frzs,I.base.tbls⟩,⟨m,hn.sameBut hs (Ne.symm (cne x c hc)),fun j y v' e1 e2 e3=>?_⟩,fun y c' e=>?_,I.free,I.freeC,fun p hp=>?_,tracked ⟨oc,hoc,I.freeC x c hc⟩ hs,by simpa using I.len⟩ ⟨c,hs,.inr hc⟩
  ·exact(hs.2 b (ne_of_lt (lt_of_lt_of_le (lt_size e) (I.ok.cab x c hfn hc)))).trans (I.base.keep b o e n hb hx)
  ·obtain⟨sl,e1⟩:=I.base.slot b o e n hb hx
   exact⟨sl,(hs.2 b (ne_of_lt (lt_of_lt_of_le (lt_size e) (I.ok.cab x c hfn hc)))).trans e1⟩
  ·obtain⟨o',e1⟩:=I.base.there b o e hx
   exact⟨o',(hs.2 b (ne_of_lt (lt_of_lt_of_le (lt_size e) (I.ok.cab x c hfn hc)))).trans e1⟩
  ·by_cases hj:j=i
   ·subst hj
    rw[hi]at e1;cases e1;rw[List.getElem?_set_self hiσ]at e2;cases e2;exact⟨u,r,.inr ⟨.inl hk,c,hc,hc'⟩⟩
   ·rw[List.getElem?_set_ne (Ne.symm hj)]at e2
    obtain⟨u',r',q⟩:=hl j y v' e1 e2 e3;refine⟨u',r',?_⟩;rcases q with q|⟨k,c',e,z'⟩
    ·exact .inl q
    ·refine .inr ⟨k,c',e,z'.sameBut hs ?_⟩
     rintro rfl;exact hj (vo hN e1 (I.ok.inj _ _ _ e hc ▸ hi))
  ·by_cases hcc:c'=c
   ·subst hcc;exact⟨_,hc'⟩
   ·obtain⟨w2,z2⟩:=I.cell y c' e
    exact⟨w2,z2.sameBut hs hcc⟩
  ·obtain⟨e,n,ne,nf,d⟩:=I.pin p hp
   refine⟨(hs.2 p.1 ?_).trans e,n,ne,nf,d⟩;intro q;rw[q,hoc]at e;have q':oc=p.2:=Option.some.inj e;exact d w' (by rw[<-q'];exact hocd)
theorem uO{M:Model}{A:Around}{E:Value->Shared->Prop}{i:Nat}{x:Str}{v:V}{u:Value}{Q:Unit->Shared->Prop}(I:Inv X pins σ H s)(hN:X.N.Nodup)(hi:X.N[i]? = some x)(hx:zv X.env.scope x)(r:RelV v u)
  (h:∀s',Inv X pins (σ.set i (some v)) H s'->Q () s') (hf:X.fn x=true\/X.env.scope.names.lookup x=some .local:=by first|exact .inl rfl|exact .inr rfl|assumption):wpAny M A (storeName X.env x u) Q E s:=
 zL I hN hi hx r (fun s' I' _=>h s' I') hf
theorem Inv.call'{s':Shared}{ch:List Addr}(I:Inv X pins σ H s)(ho:s'.os=s.os)(u:Un (A0 X.stack) ch H H' s.heap s'.heap)(hok:HOk X.prog X.w H' s'.heap)(hg:AllBare s'.gens)
  (hch:∀b∈ch,(b∈X.ex\/X.s₀.heap.objs.size<=b)/\b≠X.env.locals/\(∀x c,X.env.cells.lookup x=some c->c≠b)/\∀p∈X.pn++pins,p.1≠b):Inv X pins σ H' s':=by
 obtain⟨h',g',d',t',o'⟩:=s';have e:o'=s.os:=ho;subst e;exact I.call (g':=g') (t':=t') (d':=d') u hok hg hch
end
abbrev XK:=Value->Option Addr->Hp->Prop
abbrev St:=List (Option V)
abbrev VK:=V->Hp->Prop
abbrev TE:=St->Hp->VK->Prop
abbrev TT:=St->Hp->(Bool->Hp->Prop)->Prop
abbrev TA:=St->Hp->(List V->Hp->Prop)->Prop
structure Ends where
 nx:St->Hp->Prop
 rt:VK
 bk:St->Hp->Prop:=fun _ _=>False
 ct:St->Hp->Prop:=fun _ _=>False
abbrev TS:=Ends->St->Hp->Prop
def EP(X:Cx)(pins:List (Addr×Obj))(σ:St)(Q:VK)(u:Value)(s':Shared):Prop:=∃v H',Inv X pins σ H' s'/\RelV v u/\Q v H'
def TP(X:Cx)(pins:List (Addr×Obj))(σ:St)(Q:Bool->Hp->Prop)(b:Bool)(s':Shared):Prop:=∃H',Inv X pins σ H' s'/\Q b H'
def AP(X:Cx)(pins:List (Addr×Obj))(σ:St)(Q:List V->Hp->Prop)(us:List Value)(s':Shared):Prop:=∃vs H',Inv X pins σ H' s'/\Vals vs us/\Q vs H'
def SP(X:Cx)(pins:List (Addr×Obj))(D:Ends)(f:Flow)(s':Shared):Prop:=
 match f with
 |.next=>∃ σ' H',Inv X pins σ' H' s'/\D.nx σ' H'
 |.brk=>∃ σ' H',Inv X pins σ' H' s'/\D.bk σ' H'
 |.cont=>∃ σ' H',Inv X pins σ' H' s'/\D.ct σ' H'
 |.ret u=>∃v σ' H',Inv X pins σ' H' s'/\RelV v u/\D.rt v H'
def PE(X:Cx)(e:Expr)(t:TE):Prop:=
 ∀(pins:List (Addr×Obj)) (s:Shared) (σ:St) (H:Hp) (Q:VK),Inv X pins σ H s->t σ H Q->wpAny (model X.prog X.w) X.A (eval e X.env) (EP X pins σ Q) X.xe s
def PT(X:Cx)(e:Expr)(t:TT):Prop:=
 ∀(pins:List (Addr×Obj)) (s:Shared) (σ:St) (H:Hp) (Q:Bool->Hp->Prop),Inv X pins σ H s->t σ H Q->wpAny (model X.prog X.w) X.A (isTrue e X.env (eval e X.env)) (TP X pins σ Q) X.xe s
def PW(X:Cx)(e:Expr)(t:TT):Prop:=
 ∀(whole:Sem Value) (pins:List (Addr×Obj)) (s:Shared) (σ:St) (H:Hp) (Q:Bool->Hp->Prop),Inv X pins σ H s->t σ H Q->wpAny (model X.prog X.w) X.A (isTrue e X.env whole) (TP X pins σ Q) X.xe s
theorem PW.pt{X:Cx}{e:Expr}{t:TT}(h:PW X e t):PT X e t:=h _
def PA(X:Cx)(es:List Expr)(t:TA):Prop:=
 ∀(pos:Pos) (pins:List (Addr×Obj)) (s:Shared) (σ:St) (H:Hp) (Q:List V->Hp->Prop),Inv X pins σ H s->t σ H Q->wpAny (model X.prog X.w) X.A (spliced (backTo pos (starEach es X.env))) (AP X pins σ Q) X.xe s
def PS(X:Cx)(st:Stmt)(t:TS):Prop:=
 ∀(pins:List (Addr×Obj)) (s:Shared) (σ:St) (H:Hp) (D:Ends),Inv X pins σ H s->t D σ H->wpAny (model X.prog X.w) X.A (exec st X.env) (SP X pins D) X.xe s
def PSs(X:Cx)(st:List Stmt)(t:TS):Prop:=
 ∀(pins:List (Addr×Obj)) (s:Shared) (σ:St) (H:Hp) (D:Ends),Inv X pins σ H s->t D σ H->wpAny (model X.prog X.w) X.A (execs st X.env) (SP X pins D) X.xe s
theorem cm{α:Type}{t:Sem α}{Q Q':α -> Shared->Prop}{M:Model}{A:Around}{E:Value->Shared->Prop}{s:Shared}(h:wpAny M A t Q E s)(hQ:∀a s,Q a s->Q' a s):wpAny M A t Q' E s:=wpAny_mono h hQ fun _ _ x=>x
section
variable{X:Cx}
def NP(i:Nat):TE:=fun σ H Q=>∃v,σ[i]? = some (some v)/\Q v H
def tC(v:V):TE:=fun _ H Q=>Q v H
theorem eQ{i:Nat}{x:Str}{pos:Pos}(hN:X.N[i]? = some x)(hv:xJ X.env.scope x)(hd:(x==("__debug__":Str))=false:=by decide)(hcd:(x==("__classdict__":Str))=false:=by decide):PE X (.Name x pos) (NP i):=by
 intro pins s σ H Q I h;obtain⟨v,e,h⟩:=h;obtain⟨m,hn,hl⟩:=I.loc;obtain⟨u,r,l⟩:=hl i x v hN e hv;have fin:EP X pins σ Q u s:=⟨v,H,I,r,h⟩;rcases l with⟨hk,hm⟩|⟨hk,c,hc,hcell⟩
 ·exact wpAny_Name (wpAny_loadName_local I.ok.kind hk hn hm fin) hd
 ·rcases hk with hk|hk
  ·exact wpAny_Name (wpAny_loadName_cell I.ok.kind hk hc hcell fin) hd
  ·exact wpAny_Name (wpAny_loadName_free I.ok.kind hk hc hcell fin hcd) hd
theorem IG{i j pos}:PE X (.Constant (.int i) j pos) (tC (.int i)):=fun _ _ _ H _ I h=>wpAny_Constant_int ⟨.int i,H,I.tok _,⟨_,rfl⟩,h⟩
theorem Mc{b j pos}:PE X (.Constant (.bool b) j pos) (tC (.bl b)):=fun _ _ _ H _ I h=>Constant_bool ⟨.bl b,H,I,rfl,h⟩
theorem ID{x j pos}:PE X (.Constant (.str x) j pos) (tC (.str x)):=fun _ _ _ H _ I h=>Calls.Constant_str ⟨.str x,H,I.tok _,⟨_,rfl⟩,h⟩
def Gl(X:Cx)(x:Str):Prop:=X.env.kindOf x=some .globalImplicit
theorem tW{E:Value->Shared->Prop}{pins:List (Addr×Obj)}{s:Shared}{σ:St}{H:Hp}{x:Str}{u:Value}{pos:Pos}{Q:Value->Shared->Prop}(I:Inv X pins σ H s)(hg:Gl X x)(hm:X.mg x=some u)(h:Q u s)
  (hd:(x==("__debug__":Str))=false:=by decide):wpAny (model X.prog X.w) X.A (eval (.Name x pos) X.env) Q E s:=
 Calls.Name_function_global I.ok.kind hg (Calls.loadGlobal_global (by rw[I.ok.glob];exact I.mod.glob.keeps I.bk) hm h) hd
theorem iU{E:Value->Shared->Prop}{pins:List (Addr×Obj)}{s:Shared}{σ:St}{H:Hp}{x:Str}{u:Value}{pos:Pos}{Q:Value->Shared->Prop}(I:Inv X pins σ H s)(hg:Gl X x)(hm:X.mg x=none)(hv:bootBuiltins x=some u)(h:Q u s)
  (hn:x ≠ "__name__":=by decide) (hd:(x==("__debug__":Str))=false:=by decide):wpAny (model X.prog X.w) X.A (eval (.Name x pos) X.env) Q E s:=by
 obtain⟨mb,h1,h2⟩:=I.mod.blt;exact Calls.Name_function_global I.ok.kind hg (Calls.loadGlobal_builtin (by rw[I.ok.glob];exact I.mod.glob.keeps I.bk) hm (by rw[I.ok.blt];exact h1.keeps I.bk) ((h2 x hn).trans hv) h) hd
theorem E9{x:Str}{v:V}{u:Value}{pos:Pos}(hg:Gl X x)(hm:X.mg x=some u)(r:RelV v u)(hd:(x==("__debug__":Str))=false:=by decide):PE X (.Name x pos) (tC v):=
 fun _ _ _ H _ I h=>tW I hg hm ⟨v,H,I,r,h⟩ hd
theorem Fc{x:Str}{v:V}{u:Value}{pos:Pos}(hg:Gl X x)(hm:X.mg x=none)(hv:bootBuiltins x=some u)(r:RelV v u)(hn:x ≠ "__name__":=by decide)(hd:(x==("__debug__":Str))=false:=by decide):PE X (.Name x pos) (tC v):=
 fun _ _ _ H _ I h=>iU I hg hm hv ⟨v,H,I,r,h⟩ hn hd
variable{a b:Expr}{ta tb:TE}{pos:Pos}
def tB(t:TE):TT:=fun σ H Q=>t σ H fun x H1=>∃c,x=.bl c/\Q c H1
theorem Iu{e:Expr}{t:TE}(h:PE X e t)(he:∀whole,isTrue e X.env whole=(do let v <-whole;standAt e.pos;holding [v] (truthy v)):=by intro _;rfl):PT X e (tB t):=by
 intro pins s σ H Q I hw;refine isTrue_plain (cm (h pins s σ H _ I hw) fun v s1 ⟨x,H1,I1,r1,q1⟩=>?_) (he _)
 obtain⟨d,rfl,q⟩:=q1;cases r1;exact wpAny_truthy_bool ⟨H1,I1,q⟩
variable{tA tB':TT}{rest:List Expr}
def N0(t u:TT):TT:=fun σ H Q=>t σ H fun c H1=>if c=true then u σ H1 Q else Q false H1
def PQ(t u:TT):TT:=fun σ H Q=>t σ H fun c H1=>if c=true then Q true H1 else u σ H1 Q
def NT(t:TT):TT:=fun σ H Q=>t σ H fun c H1=>Q (!c) H1
theorem ER(ha:PT X a tA):PW X (.BoolOp .And [a] pos) tA:=by
 intro wh pins s σ H Q I h;refine isTrue_and (cm (ha pins s σ H Q I h) fun c s1 e=>?_)
 cases c with
 |true=>exact isTrue_and_nil e
 |false=>exact e
theorem Iq(ha:PT X a tA):PW X (.BoolOp .Or [a] pos) tA:=by
 intro wh pins s σ H Q I h;refine isTrue_or (cm (ha pins s σ H Q I h) fun c s1 e=>?_)
 cases c with
 |false=>exact isTrue_or_nil e
 |true=>exact e
theorem Ir(ha:PT X a tA)(hb:PW X (.BoolOp .And (b::rest) pos) tB'):PW X (.BoolOp .And (a::b::rest) pos) (N0 tA tB'):=by
 intro wh pins s σ H Q I h;refine isTrue_and (cm (ha pins s σ H _ I h) fun c s1 ⟨H1,I1,q1⟩=>?_)
 cases c with
 |true=>exact hb wh pins s1 σ H1 Q I1 q1
 |false=>exact⟨H1,I1,q1⟩
theorem L9(ha:PT X a tA)(hb:PW X (.BoolOp .Or (b::rest) pos) tB'):PW X (.BoolOp .Or (a::b::rest) pos) (PQ tA tB'):=by
 intro wh pins s σ H Q I h;refine isTrue_or (cm (ha pins s σ H _ I h) fun c s1 ⟨H1,I1,q1⟩=>?_)
 cases c with
 |true=>exact⟨H1,I1,q1⟩
 |false=>exact hb wh pins s1 σ H1 Q I1 q1
theorem Iv(ha:PT X a tA):PT X (.UnaryOp .Not a pos) (NT tA):=by
 intro pins s σ H Q I h;exact isTrue_not (ha pins s σ H (fun c H1=>Q (!c) H1) I h)
def LM(ta tb:TE):TE:=fun σ H Q=>ta σ H fun x H1=>∃c,x=.bl c/\if c=true then tb σ H1 Q else Q (.bl false) H1
def LD(ta:TE):TE:=fun σ H Q=>ta σ H fun x H1=>∃c,x=.bl c/\Q (.bl (!c)) H1
theorem IE{op}{t:TE}(h:PE X a t):PE X (.BoolOp op [a] pos) t:=fun pins s σ H Q I hw=>BoolOp_one (h pins s σ H Q I hw)
theorem II(ha:PE X a ta)(hb:PE X (.BoolOp .And (b::rest) pos) tb):PE X (.BoolOp .And (a::b::rest) pos) (LM ta tb):=by
 intro pins s σ H Q I h;refine BoolOp_and (cm (ha pins s σ H _ I h) fun v s1 ⟨x,H1,I1,r1,q1⟩=>?_)
 obtain⟨c,rfl,q1⟩:=q1;cases r1;refine wpAny_truthy_bool ?_;cases c with
 |true=>exact hb pins s1 σ H1 Q I1 q1
 |false=>exact⟨.bl false,H1,I1,rfl,q1⟩
theorem IF(ha:PE X a ta):PE X (.UnaryOp .Not a pos) (LD ta):=by
 intro pins s σ H Q I h;refine UnaryOp_ (cm (ha pins s σ H _ I h) fun v s1 ⟨x,H1,I1,r1,q1⟩=>?_)
 obtain⟨c,rfl,q1⟩:=q1;cases r1;exact not_of (wpAny_truthy_bool ⟨.bl (!c),H1,I1,rfl,q1⟩)
end
def SqL(K:PySem.W.Frag)(H:Hp)(a:Addr)(xs:List V):Prop:=
 Rd H a (.lst xs) \/
  ∃(o:Obj) (its:Array Value) (n:Nat),K.lookup a=some o/\o.cls=.type "list" /\ o.dict=none/\o.data=.seq its n/\its.size<=sizeLine/\Vals xs its.toList
def SqT(K:PySem.W.Frag)(H:Hp)(a:Addr)(xs:List V):Prop:=
 Rd H a (.tup xs) \/
  ∃(o:Obj) (its:Array Value) (n:Nat),K.lookup a=some o/\o.cls=.type "tuple" /\ o.data=.seq its n/\its.size<=sizeLine/\Vals xs its.toList/\o.dict=none
noncomputable def OX:Value->Option V
 |.none=>some .non
 |.bool b=>some (.bl b)
 |.int i _=>some (.int i)
 |.str x _=>some (.str x)
 |.bytes b _=>some (.byt b)
 |.float b _=>some (.flt b)
 |.ref a=>some (.ref a)
 |.type n=>some (.ty n)
 |_=>none
theorem RelV.abs{x:V}{u:Value}(r:RelV x u):OX u=some x:=by
 cases x with
 |non=>cases r;rfl
 |bl _=>cases r;rfl
 |int _=>obtain⟨t,rfl⟩:=r;rfl
 |str _=>obtain⟨t,rfl⟩:=r;rfl
 |byt _=>obtain⟨t,rfl⟩:=r;rfl
 |flt _=>obtain⟨t,rfl⟩:=r;rfl
 |ref _=>cases r;rfl
 |ty _=>cases r;rfl
theorem RelV.inj{x y:V}{u:Value}(r:RelV x u)(q:RelV y u):x=y:=Option.some.inj (r.abs.symm.trans q.abs)
theorem Vals.inj:∀{xs ys:List V} {us:List Value},Vals xs us->Vals ys us->xs=ys
 |_,_,_,.nil,.nil=>rfl
 |_,_,_,.cons r t,.cons r' t'=>by rw[r.inj r',Vals.inj t t']
section
variable{X:Cx}{pins:List (Addr×Obj)}{σ:St}{H:Hp}{s:Shared}{a:Addr}{xs ys:List V}
theorem SqL.of{K:PySem.W.Frag}(h:H a=some (.lst xs)):SqL K H a xs:=.inl (.inl h)
theorem SqT.of{K:PySem.W.Frag}(h:H a=some (.tup xs)):SqT K H a xs:=.inl (.inl h)
theorem Inv.list(I:Inv X pins σ H s)(h:SqL X.K H a xs):∃its:List Value,Vals xs its/\PlainL s.heap a its.toArray/\xs.length<=sizeLine:=by
 rcases h with h|⟨o,its,n,hk,hc,hd,hs,hz,r⟩
 ·obtain⟨z,its,n,r,e⟩:=h.ok I.hok
  exact⟨its,r,⟨_,n,e,rfl,rfl,rfl⟩,z⟩
 ·refine⟨its.toList,r,⟨o,n,I.kIn a o hk,hc,hd,by simpa using hs⟩,?_⟩
  have e:=r.length;simp only[Array.length_toList]at e;omega
theorem Inv.tuple(I:Inv X pins σ H s)(h:SqT X.K H a xs):∃its:List Value,Vals xs its/\IsTup s.heap a its.toArray/\xs.length<=sizeLine:=by
 rcases h with h|⟨o,its,n,hk,hc,hs,hz,r,hd⟩
 ·obtain⟨z,its,r,p⟩:=h.ok I.hok
  exact⟨its,r,p.1,z⟩
 ·refine⟨its.toList,r,⟨o,I.kIn a o hk,hc,n,by simpa using hs⟩,?_⟩
  have e:=r.length;simp only[Array.length_toList]at e;omega
theorem Inv.noDi(I:Inv X pins σ H s)(h:SqT X.K H a xs):NoDi s.heap a:=by
 rcases h with h|⟨o,its,n,hk,hc,hs,hz,r,hd⟩
 ·obtain⟨z,its,r,p⟩:=h.ok I.hok
  exact p.2
 ·exact⟨o,I.kIn a o hk,hd⟩
theorem Inv.list_inj(I:Inv X pins σ H s)(h:SqL X.K H a xs)(h':SqL X.K H a ys):xs=ys:=by
 obtain⟨its,r,⟨o,n,e,_,_,d⟩,_⟩:=I.list h;obtain⟨its',r',⟨o',n',e',_,_,d'⟩,_⟩:=I.list h';rw[e]at e';cases e';rw[d]at d';injection d' with d1 _
 have:its=its':=by simpa using congrArg Array.toList d1
 subst this;exact r.inj r'
theorem Inv.tuple_inj(I:Inv X pins σ H s)(h:SqT X.K H a xs)(h':SqT X.K H a ys):xs=ys:=by
 obtain⟨its,r,⟨o,e,_,n,d⟩,_⟩:=I.tuple h;obtain⟨its',r',⟨o',e',_,n',d'⟩,_⟩:=I.tuple h';rw[e]at e';cases e';rw[d]at d';injection d' with d1 _
 have:its=its':=by simpa using congrArg Array.toList d1
 subst this;exact r.inj r'
end
abbrev Cx.wish(X:Cx)(E:Value->Shared->Prop):Cx:={ X with xe:=E }
abbrev Cx.nox(X:Cx):Cx:=X.wish fun _ _=>False
theorem Cx.Ok.wish{X:Cx}(ok:X.Ok)(E:Value->Shared->Prop):(X.wish E).Ok:=
 ⟨ok.mod,ok.kind,ok.glob,ok.blt,ok.above,ok.inj,ok.has,ok.cab,ok.hd,ok.frames,ok.stk,ok.exf,ok.bs,ok.bsz,ok.noex,ok.exfs,ok.funs,ok.frf⟩
theorem Cx.Ok.unwish{X:Cx}{E:Value->Shared->Prop}(ok:(X.wish E).Ok):X.Ok:=
 ⟨ok.mod,ok.kind,ok.glob,ok.blt,ok.above,ok.inj,ok.has,ok.cab,ok.hd,ok.frames,ok.stk,ok.exf,ok.bs,ok.bsz,ok.noex,ok.exfs,ok.funs,ok.frf⟩
section
variable{X:Cx}{pins:List (Addr×Obj)}{σ:St}{H:Hp}{s:Shared}{E:Value->Shared->Prop}
theorem Inv.wish(I:Inv X pins σ H s)(E:Value->Shared->Prop):Inv (X.wish E) pins σ H s:=⟨I.ok.wish E,I.os,I.bare,I.base,I.loc,I.cell,I.free,I.freeC,I.pin,I.hok,I.len⟩
theorem Inv.unwish(I:Inv (X.wish E) pins σ H s):Inv X pins σ H s:=⟨I.ok.unwish,I.os,I.bare,I.base,I.loc,I.cell,I.free,I.freeC,I.pin,I.hok,I.len⟩
theorem SP.unwish{D:Ends}{f:Flow}{s':Shared}(h:SP (X.wish E) pins D f s'):SP X pins D f s':=by
 cases f with
 |next=>obtain⟨σ',H',I,q⟩:=h;exact⟨σ',H',I.unwish,q⟩
 |brk=>obtain⟨σ',H',I,q⟩:=h;exact⟨σ',H',I.unwish,q⟩
 |cont=>obtain⟨σ',H',I,q⟩:=h;exact⟨σ',H',I.unwish,q⟩
 |ret u=>obtain⟨v,σ',H',I,r,q⟩:=h;exact⟨v,σ',H',I.unwish,r,q⟩
theorem PSs.nox{st:List Stmt}{t:TS}(h:PSs X.nox st t):PSs X st t:=fun pins s σ H D I hw=>
 wpAny_mono (h pins s σ H D (I.wish _) hw) (fun _ _ q=>q.unwish) fun _ _ z=>False.elim z
end
section
variable{X:Cx}{st:Stmt}{rest:List Stmt}{t u:TS}{e:Expr}{te:TE}{pos:Pos}
def LE:TS:=fun D σ H=>D.nx σ H
def NR(t u:TS):TS:=fun D σ H=>t { D with nx:=u D } σ H
theorem EU:PSs X [] LE:=fun _ _ σ H _ I h=>wpAny_execs_nil ⟨σ,H,I,h⟩
theorem jh(h1:PS X st t)(h2:PSs X rest u):PSs X (st::rest) (NR t u):=by
 intro pins s σ H D I h;refine wpAny_execs_cons (cm (h1 pins s σ H { D with nx:=u D } I h) fun f s1 q=>?_)
 cases f with
 |next=>
  obtain⟨σ',H',I',q⟩:=q;exact h2 pins s1 σ' H' D I' q
 |ret v=>exact q
 |brk=>exact q
 |cont=>exact q
theorem sY(h1:PS X st t):PSs X [st] t:=by
 intro pins s σ H D I h;refine wpAny_execs_cons (cm (h1 pins s σ H D I h) fun f s1 q=>?_)
 cases f with
 |next=>exact wpAny_execs_nil q
 |ret v=>exact q
 |brk=>exact q
 |cont=>exact q
theorem Inv.quiet{pins:List (Addr×Obj)}{σ:St}{H:Hp}{s:Shared}(I:Inv X pins σ H s):interactive X.env=false:=by simp[interactive,I.ok.kind]
def LI(te:TE):TS:=fun D σ H=>te σ H fun _ H1=>D.nx σ H1
theorem nU(he:PE X e te)(hs:swapsWith e none pos.line X.env=pure false:=by rfl):PS X (.Expr e pos) (LI te):=by
 intro pins s σ H D I h;exact wpAny_Expr_any (cm (he pins s σ H _ I h) fun v s1 ⟨x,H1,I1,r1,q1⟩=>⟨σ,H1,I1,q1⟩) I.quiet hs
def NS(te:TE):TS:=fun D σ H=>te σ H D.rt
theorem Iw(he:PE X e te):PS X (.Return (some e) pos) (NS te):=by
 intro pins s σ H D I h;exact wpAny_Return_some (cm (he pins s σ H _ I h) fun v s1 ⟨x,H1,I1,r1,q1⟩=>⟨x,σ,H1,I1,r1,q1⟩)
def NW(c:TT)(t u:TS):TS:=fun D σ H=>c σ H fun b H1=>if b=true then t D σ H1 else u D σ H1
theorem G9{c:Expr}{a b:List Stmt}{tc:TT}(hc:PT X c tc)(ha:PSs X a t)(hb:PSs X b u):PS X (.If c a b pos) (NW tc t u):=by
 intro pins s σ H D I h;refine wpAny_If (cm (hc pins s σ H _ I h) fun d s1 ⟨H1,I1,q1⟩=>?_)
 cases d with
 |true=>exact ha pins s1 σ H1 D I1 q1
 |false=>exact hb pins s1 σ H1 D I1 q1
end
abbrev TG:=V->St->Hp->(St->Hp->Prop)->Prop
def PG(X:Cx)(target:Expr)(t:TG):Prop:=
 ∀(pins:List (Addr×Obj)) (s:Shared) (σ:St) (H:Hp) (v:V) (u:Value) (Q:St->Hp->Prop),Inv X pins σ H s->RelV v u->t v σ H Q ->
  wpAny (model X.prog X.w) X.A (assign target X.env u) (fun _ s'=>∃ σ' H',Inv X pins σ' H' s'/\Q σ' H') X.xe s
abbrev K5:=V->V->V->Hp->(Hp->Prop)->Prop
def Nj(X:Cx)(t:K5):Prop:=
 ∀(pins:List (Addr×Obj)) (s:Shared) (σ:St) (H:Hp) (o i v:V) (ov iv u:Value) (Q:Hp->Prop),Inv X pins σ H s->RelV o ov->RelV i iv->RelV v u->t o i v H Q ->
  wpAny (model X.prog X.w) X.A (setItem ov iv u) (fun _ s'=>∃H',Inv X pins σ H' s'/\Q H') X.xe s
section
variable{X:Cx}{pos:Pos}
def Dd(i:Nat):TG:=fun v σ H Q=>Q (σ.set i (some v)) H
theorem b9{i:Nat}{x:Str}(hN:X.N.Nodup)(hi:X.N[i]? = some x)(hx:zv X.env.scope x)(hf:X.fn x=true\/X.env.scope.names.lookup x=some .local:=by first|exact .inl rfl|exact .inr rfl|assumption):PG X (.Name x pos) (Dd i):=by
 intro pins s σ H v u Q I r h;exact wpAny_assign_Name (uO I hN hi hx r (fun s' I'=>⟨_,H,I',h⟩) hf)
def OJ(to ti:TE)(t:K5):TG:=fun v σ H Q=>to σ H fun o H1=>ti σ H1 fun i H2=>t o i v H2 fun H3=>Q σ H3
theorem B5{o i:Expr}{to ti:TE}{t:K5}(ho:PE X o to)(hi:PE X i ti)(hs:Nj X t)
  (ha:∀v,assign (.Subscript o i pos) X.env v=(do
   let ov <-holding [v] (eval o X.env)
   let iv <-holding [v,ov] (eval i X.env)
   standAt pos
   holding [v,ov,iv] (setItem ov iv v)
   release [v,ov,iv] []):=by intro _;rfl):PG X (.Subscript o i pos) (OJ to ti t):=by
 intro pins s σ H v u Q I r h;rw[ha];refine wpAny_bind (wpAny_holding (cm (ho pins s σ H _ I h) fun ov s1 ⟨x,H1,I1,r1,q1⟩=>?_))
 refine wpAny_bind (wpAny_holding (cm (hi pins s1 σ H1 _ I1 q1) fun iv s2 ⟨y,H2,I2,r2,q2⟩=>?_))
 refine wpAny_bind (wpAny_standAt (wpAny_bind (wpAny_holding (cm (hs pins s2 σ H2 x y v ov iv u _ I2 r1 r2 r q2) fun _ s3 ⟨H3,I3,q3⟩=>?_))))
 exact wpAny_release ⟨σ,H3,I3,q3⟩
def LL(te:TE)(g:TG):TS:=fun D σ H=>te σ H fun x H1=>g x σ H1 D.nx
theorem BT{tg e:Expr}{te:TE}{g:TG}(he:PE X e te)(hg:PG X tg g)(hs:swapsWithSole [tg] e pos.line X.env=pure false:=by rfl)(hw:swappedStores [tg] e X.env=pure none:=by rfl)
  (h1:(assignEach [tg] X.env).map (·.2)=[assign tg X.env]:=by rfl):PS X (.Assign [tg] e pos) (LL te g):=by
 intro pins s σ H D I h;refine wpAny_Assign_stores (cm (he pins s σ H _ I h) fun v s1 ⟨x,H1,I1,r1,q1⟩=>?_) hs hw
 rw[h1];exact cm (hg pins s1 σ H1 x v _ I1 r1 q1) fun _ s2 q=>q
theorem ma{i:Nat}{x:Str}{e:Expr}{te:TE}{pos':Pos}(hN:X.N.Nodup)(hi:X.N[i]? = some x)(hx:zv X.env.scope x)(he:PE X e te)(hs:swapsWith e (some (.Name x pos')) pos.line X.env=pure false:=by rfl)(hf:X.fn x=true\/X.env.scope.names.lookup x=some .local:=by first|exact .inl rfl|exact .inr rfl|assumption):
  PS X (.Assign [.Name x pos'] e pos) (LL te (Dd i)):=by
 intro pins s σ H D I h;refine wpAny_Assign_Name (cm (he pins s σ H _ I h) fun v s1 ⟨y,H1,I1,r1,q1⟩=>?_) hs
 exact uO I1 hN hi hx r1 (fun s2 I2=>⟨_,H1,I2,q1⟩) hf
end
section
variable{X:Cx}{pos:Pos}
def HS(c:TT)(tb:TS):TS:=fun D σ H=>∃W:Nat->St->Hp->Prop,(∃m,W m σ H)/\∀m σ H,W m σ H ->
 c σ H fun b H1=>if b=true then ∃N:St->Hp->Prop,(∀ σ' H',N σ' H'->∃m',m'<m/\W m' σ' H')/\tb { D with nx:=N,ct:=N,bk:=D.nx } σ H1 else D.nx σ H1
theorem BQ{c:Expr}{body:List Stmt}{tc:TT}{tb:TS}(hp:PassesOwn (model X.prog X.w) X.A X.env X.xe)(hc:PT X c tc)(hb:PSs X body tb):PS X (.While c body [] pos) (HS tc tb):=by
 intro pins s σ H D I h;obtain⟨W,⟨m0,w0⟩,turn⟩:=h;refine wpAny_While (codeAny_whileLoop (fun n s'=>∃ σ' H',Inv X pins σ' H' s'/\W n σ' H') ?_ m0 ⟨σ,H,I,w0⟩);rintro n s1 ⟨σ1,H1,I1,w1⟩;refine wpAny_passesOwn hp (cm (hc pins s1 σ1 H1 _ I1 (turn n σ1 H1 w1)) fun b s2 ⟨H2,I2,q2⟩=>?_)
 cases b with
 |true=>
  obtain⟨N,hN,q2⟩:=q2;rw[if_pos rfl];refine wpAny_passesOwn hp (cm (hb pins s2 σ1 H2 _ I2 q2) fun f s3 q3=>?_)
  cases f with
  |next=>
   obtain⟨σ3,H3,I3,n3⟩:=q3;obtain⟨m',hm,w3⟩:=hN σ3 H3 n3;exact⟨m',hm,σ3,H3,I3,w3⟩
  |cont=>
   obtain⟨σ3,H3,I3,n3⟩:=q3;obtain⟨m',hm,w3⟩:=hN σ3 H3 n3;exact⟨m',hm,σ3,H3,I3,w3⟩
  |brk=>exact q3
  |ret v=>exact q3
 |false=>
  rw[if_neg Bool.false_ne_true];exact wpAny_execs_nil ⟨σ1,H2,I2,q2⟩
end
structure It where
 go:Nat->Hp->Prop
 yld:Nat->Hp->V->Hp->Prop
 stop:Nat->Hp->Prop
def kF(X:Cx)(pins:List (Addr×Obj))(H:Hp)(b:Addr):Prop:=
 H b=none/\b≠X.env.locals/\b ∉ X.fs/\(b∈X.ex\/X.s₀.heap.objs.size<=b)/\(∀x c,X.env.cells.lookup x=some c->c≠b)/\∀p∈X.pn++pins,p.1≠b
theorem Inv.fpOk{X:Cx}{pins:List (Addr×Obj)}{σ:St}{H H':Hp}{s:Shared}{b:Addr}(I:Inv X pins σ H s)(hb:s.heap.objs.size<=b)(hn:H' b=none):kF X pins H' b:=by
 refine⟨hn,Nat.ne_of_gt (lt_of_lt_of_le I.lt hb),I.nofs hb,.inr (le_trans I.sz hb),fun x c e z=>?_,fun p hp z=>?_⟩
 ·obtain⟨v,q⟩:=I.cell x c e
  exact absurd (lt_of_lt_of_le q.lt (by rw[z];exact hb)) (lt_irrefl _)
 ·exact absurd (lt_of_lt_of_le (lt_size (I.pin p hp).1) (by rw[z];exact hb)) (lt_irrefl _)
structure TurnG (Cm:Cx->Prop) (P:Program) (w:World) (K:PySem.W.Frag) (tg:Expr) (J:It) (fp:List Addr) (it:Addr) (tn:Nat->Heap->Prop):Prop where
 mem:it∈fp
 obj:∀i h,tn i h->∀b∈fp,∃o,h.get? b=some o/\∀v,o.data≠.cell v
 keep:∀i h h',tn i h->(∀b∈fp,∀o,h.get? b=some o->h'.get? b=some o)->tn i h'
 item:∀(X:Cx),X.prog=P->X.w=w->X.K=K->Cm X->∀(i:Nat) (pins:List (Addr×Obj)) (s:Shared) (σ:St) (H:Hp) (E:Value->Shared->Prop),Inv X pins σ H s->(∀b∈fp,kF X pins H b)->tn i s.heap->J.go i H ->
  wpAny (model P w) X.A (pyNext (.ref it)) (fun r s1=>∃u,r=some u /\
   wpAny (model P w) X.A (letOwnedTupleGo tg (.ref it) u) (fun _ s2=>∃x H',Inv X pins σ H' s2/\RelV x u/\J.yld i H x H'/\tn (i+1) s2.heap/\∀b∈fp,H' b=none) E s1) E s
 done:∀(X:Cx),X.prog=P->X.w=w->X.K=K->Cm X->∀(i:Nat) (pins:List (Addr×Obj)) (s:Shared) (σ:St) (H:Hp) (E:Value->Shared->Prop),Inv X pins σ H s->(∀b∈fp,kF X pins H b)->tn i s.heap->J.stop i H ->
  wpAny (model P w) X.A (pyNext (.ref it)) (fun r s1=>r=none/\Inv X pins σ H s1) E s
 self:∀(A:Around) (i:Nat) (s:Shared) (Q:Value->Shared->Prop) (E:Value->Shared->Prop),tn i s.heap->Q (.ref it) s->wpAny (model P w) A (pyIter (.ref it)) Q E s
abbrev DJ(P:Program)(w:World)(K:PySem.W.Frag)(tg:Expr)(J:It)(fp:List Addr)(it:Addr)(tn:Nat->Heap->Prop):Prop:=TurnG (fun X=>X.calm=true) P w K tg J fp it tn
abbrev TI:=St->Hp->(It->Hp->Prop)->Prop
def PB(X:Cx)(pins:List (Addr×Obj))(σ:St)(tg:Expr)(R:It->Hp->Prop)(itv:Value)(s2:Shared):Prop:=
 ∃(it:Addr) (fp:List Addr) (tn:Nat->Heap->Prop) (J:It) (H':Hp),itv=.ref it/\Inv X pins σ H' s2/\DJ X.prog X.w X.K tg J fp it tn/\tn 0 s2.heap/\(∀b∈fp,kF X pins H' b)/\R J H'
def PI(X:Cx)(tg iter:Expr)(wi:TI):Prop:=
 ∀(pins:List (Addr×Obj)) (s:Shared) (σ:St) (H:Hp) (R:It->Hp->Prop),Inv X pins σ H s->wi σ H R ->
  wpAny (model X.prog X.w) X.A (eval iter X.env) (fun v s1=>wpAny (model X.prog X.w) X.A (pyIter v) (PB X pins σ tg R) X.xe s1) X.xe s
theorem C8{M:Model}{A:Around}{E:Value->Shared->Prop}{s:Shared}{tg:Expr}{it:Addr}{u:Value}{o:Obj}{n:String}{vs:Array Value}{Q:Unit->Shared->Prop}(ho:s.heap.get? it=some o)(hc:o.cls=.type n)(hd:o.data=.fields vs)
  (hn:["enumerate","zip","dict_itemiterator","dict_reverseitemiterator","odict_iterator","itertools.zip_longest","itertools.pairwise"].contains n=false) (hQ:Q () s):wpAny M A (letOwnedTupleGo tg (.ref it) u) Q E s:=by
 unfold letOwnedTupleGo;cases tg<;>first
  |exact wpAny_pure hQ
  | (cases u<;>first
    |exact wpAny_pure hQ
    | (refine wpAny_bind (wpAny_load ho ?_)
       rw[hc,hd];show wpAny M A (if(["enumerate","zip","dict_itemiterator","dict_reverseitemiterator","odict_iterator","itertools.zip_longest","itertools.pairwise"].contains n&&vs[0]? == some (rawInt _))=true then _ else _) Q E s;rw[if_neg (by intro h;rw[hn,Bool.false_and]at h;cases h)];exact wpAny_pure hQ))
noncomputable def PF(K:PySem.W.Frag)(a:Addr):It:=
 ⟨fun i H=>∃xs x,SqL K H a xs/\xs[i]? = some x,fun i H x H'=>H'=H/\∀xs,SqL K H a xs->xs[i]? = some x,fun i H=>∃xs,SqL K H a xs/\xs.length<=i⟩
noncomputable def PD(K:PySem.W.Frag)(a:Addr):It:=
 ⟨fun i H=>∃xs x,SqT K H a xs/\xs[i]? = some x,fun i H x H'=>H'=H/\∀xs,SqT K H a xs->xs[i]? = some x,fun i H=>∃xs,SqT K H a xs/\xs.length<=i⟩
def Lp(lo:Int)(n:Nat):It:=⟨fun i _=>i<n,fun i H x H'=>H'=H/\x=.int (lo+i),fun i _=>n<=i⟩
theorem zF{P:Program}{w:World}{K:PySem.W.Frag}{tg:Expr}(a it:Addr):DJ P w K tg (PF K a) [it] it (fun i h=>h.IsListIter it a i) where
 mem:=by simp
 obj:=fun i h st b hb=>by
  have e:b=it:=by simpa using hb
  subst e;obtain⟨o,e,c,d⟩:=st;exact⟨o,e,fun v z=>by rw[d]at z;cases z⟩
 keep:=fun i h h' st k=>st.at fun o e=>k it (by simp) o e
 item:=by
  intro X hP hw hK hc i pins s σ H E I hf st hg;subst hP hw hK;obtain⟨xs,x,hq,hx⟩:=hg;obtain⟨its,rv,p,hz⟩:=I.list hq;obtain⟨u,hu,ru⟩:=rv.get hx;obtain⟨f0,f1,f2,f3,f4,f5⟩:=hf it (by simp);refine wpAny_pyNext_list_item st p.isList (x:=u) (by simpa using hu) fun h' st' sb=>?_
  have I1:Inv X pins σ H { s with heap:=h' }:=I.turned (t':=s.toks) (fun b o hb e=>(sb.2 b hb).trans e) f0 f1 f3 f4 f5
  obtain⟨o,e,c,d⟩:=id st';exact⟨u,rfl,C8 (s:={ s with heap:=h' }) e c d (by decide) ⟨x,H,I1,ru,⟨rfl,fun ys hy=>by rw[I.list_inj hy hq];exact hx⟩,st',fun b hb=>(hf b hb).1⟩⟩
 done:=by
  intro X hP hw hK hc i pins s σ H E I hf st hg;subst hP hw hK;obtain⟨xs,hq,hx⟩:=hg;obtain⟨its,rv,p,hz⟩:=I.list hq;obtain⟨f0,f1,f2,f3,f4,f5⟩:=hf it (by simp);have hl:=rv.length;exact wpAny_pyNext_list_end (I.ok.hd hc) st p.isList (by simp;omega) fun h' eb=>⟨rfl,I.turned (t':=s.toks) (fun b o hb e=>eb b o hb e) f0 f1 f3 f4 f5⟩
 self:=fun _ _ _ _ _ st h=>wpAny_pyIter_listiter st h
theorem v8{P:Program}{w:World}{K:PySem.W.Frag}{tg:Expr}(a it:Addr):DJ P w K tg (PD K a) [it] it (fun i h=>h.IsTupleIter it a i) where
 mem:=by simp
 obj:=fun i h st b hb=>by
  have e:b=it:=by simpa using hb
  subst e;obtain⟨o,e,c,d⟩:=st;exact⟨o,e,fun v z=>by rw[d]at z;cases z⟩
 keep:=fun i h h' st k=>st.at fun o e=>k it (by simp) o e
 item:=by
  intro X hP hw hK hc i pins s σ H E I hf st hg;subst hP hw hK;obtain⟨xs,x,hq,hx⟩:=hg;obtain⟨its,rv,p,hz⟩:=I.tuple hq;obtain⟨u,hu,ru⟩:=rv.get hx;obtain⟨f0,f1,f2,f3,f4,f5⟩:=hf it (by simp);refine wpAny_pyNext_tuple_item st (show s.heap.IsTuple a its.toArray from p) (x:=u) (by simpa using hu) fun h' st' sb=>?_
  have I1:Inv X pins σ H { s with heap:=h' }:=I.turned (t':=s.toks) (fun b o hb e=>(sb.2 b hb).trans e) f0 f1 f3 f4 f5
  obtain⟨o,e,c,d⟩:=id st';exact⟨u,rfl,C8 (s:={ s with heap:=h' }) e c d (by decide) ⟨x,H,I1,ru,⟨rfl,fun ys hy=>by rw[I.tuple_inj hy hq];exact hx⟩,st',fun b hb=>(hf b hb).1⟩⟩
 done:=by
  intro X hP hw hK hc i pins s σ H E I hf st hg;subst hP hw hK;obtain⟨xs,hq,hx⟩:=hg;obtain⟨its,rv,p,hz⟩:=I.tuple hq;obtain⟨f0,f1,f2,f3,f4,f5⟩:=hf it (by simp);have hl:=rv.length;exact wpAny_pyNext_tuple_end (I.ok.hd hc) st (show s.heap.IsTuple a its.toArray from p) (by simp;omega) fun h' eb=>⟨rfl,I.turned (t':=s.toks) (fun b o hb e=>eb b o hb e) f0 f1 f3 f4 f5⟩
 self:=fun _ _ _ _ _ st h=>wpAny_pyIter_tupleiter st h
theorem v9{P:Program}{w:World}{K:PySem.W.Frag}{tg:Expr}(it:Addr)(lo:Int)(n:Nat):DJ P w K tg (Lp lo n) [it] it (fun i h=>IsRangeIter h it (lo+(i:Nat)*1) ((n:Int)-(i:Nat)) 1) where
 mem:=by simp
 obj:=fun i h st b hb=>by
  have e:b=it:=by simpa using hb
  subst e;exact⟨_,st,fun v z=>by
   have z':Data.fields _=Data.cell v:=z;cases z'⟩
 keep:=fun i h h' st k=>k it (by simp) _ st
 item:=by
  intro X hP hw hK hc i pins s σ H E I hf st hg;subst hP hw hK;obtain⟨f0,f1,f2,f3,f4,f5⟩:=hf it (by simp);have W:=Walks.range (prog:=X.prog) (w:=X.w) (I.ok.hd hc) it lo 1 n;refine W.item i s _ _ hg st fun v h' tk hv st' kk=>?_
  obtain⟨t,rfl⟩:=hv;have I1:Inv X pins σ H { s with heap:=h',toks:=tk }:=I.turned (fun b o hb e=>kk b o (by simpa using hb) e) f0 f1 f3 f4 f5
  refine⟨_,rfl,C8 (s:={ s with heap:=h',toks:=tk }) (n:="range_iterator") st' rfl rfl (by decide) ⟨.int (lo+i),H,I1,⟨t,?_⟩,⟨rfl,rfl⟩,st',fun b hb=>(hf b hb).1⟩⟩
  rw[Int.mul_one]
 done:=by
  intro X hP hw hK hc i pins s σ H E I hf st hg;subst hP hw hK;obtain⟨f0,f1,f2,f3,f4,f5⟩:=hf it (by simp);exact wpAny_pyNext_range_end (I.ok.hd hc) st (by have:n<=i:=hg;omega) fun h' eb=>⟨rfl,I.turned (t':=s.toks) (fun b o hb e=>eb b o hb e) f0 f1 f3 f4 f5⟩
 self:=fun _ _ _ _ _ st h=>wpAny_pyIter_rangeiter st h
section
variable{X:Cx}{tg:Expr}
def MW(K:PySem.W.Frag)(tl:TE):TI:=fun σ H R=>tl σ H fun x H1=>∃a,x=.ref a/\(∃xs,SqL K H1 a xs)/\R (PF K a) H1
def OE(K:PySem.W.Frag)(tl:TE):TI:=fun σ H R=>tl σ H fun x H1=>∃a,x=.ref a/\(∃xs,SqT K H1 a xs)/\R (PD K a) H1
theorem E2{l:Expr}{tl:TE}(hl:PE X l tl):PI X tg l (MW X.K tl):=by
 intro pins s σ H R I h;refine cm (hl pins s σ H _ I h) fun v s1 ⟨x,H1,I1,r1,q1⟩=>?_
 obtain⟨a,e,⟨xs,hq⟩,q⟩:=q1;subst e;cases r1;obtain⟨its,rv,p,hz⟩:=I1.list hq;refine wpAny_pyIter_list p.isList ?_;refine⟨s1.heap.objs.size,[s1.heap.objs.size],_,_,H1,rfl,I1.kept (t':=s1.toks) fun b o e=>get?_push_of_some _ e,zF a _,⟨_,get?_push_size _ rfl,rfl,rfl⟩,fun b hb=>?_,q⟩
 have e:b=s1.heap.objs.size:=by simpa using hb
 subst e;exact I1.fpOk (le_refl _) (I1.hok.fresh (le_refl _))
theorem IA{l:Expr}{tl:TE}(hl:PE X l tl):PI X tg l (OE X.K tl):=by
 intro pins s σ H R I h;refine cm (hl pins s σ H _ I h) fun v s1 ⟨x,H1,I1,r1,q1⟩=>?_
 obtain⟨a,e,⟨xs,hq⟩,q⟩:=q1;subst e;cases r1;obtain⟨its,rv,p,hz⟩:=I1.tuple hq;refine wpAny_pyIter_tuple (show s1.heap.IsTuple a its.toArray from p) ?_;refine⟨s1.heap.objs.size,[s1.heap.objs.size],_,_,H1,rfl,I1.kept (t':=s1.toks) fun b o e=>get?_push_of_some _ e,v8 a _,⟨_,get?_push_size _ rfl,rfl,rfl⟩,fun b hb=>?_,q⟩
 have e:b=s1.heap.objs.size:=by simpa using hb
 subst e;exact I1.fpOk (le_refl _) (I1.hok.fresh (le_refl _))
theorem BN{pins:List (Addr×Obj)}{σ:St}{H:Hp}{s:Shared}{R:It->Hp->Prop}{E:Value->Shared->Prop}{lo hi:Int}{t u v:Tok}{tk:Nat}(I:Inv X pins σ H s)(h1:-(2^62)<=lo)(h2:lo<2^62)(h3:-(2^62)<=hi)(h4:hi<2^62)
  (q:R (Lp lo (hi-lo).toNat) H):wpAny (model X.prog X.w) X.A (pyIter (.ref s.heap.objs.size)) (PB X pins σ tg R) E { s with heap:=s.heap.push { cls:=.type "range",data:=.fields #[.int lo t,.int hi u,.int 1 v] },toks:=tk }:=by
 refine wpAny_pyIter_range (IsRange.new ..) (small_one h1 h2 h3 h4) ?_;have I1:Inv X pins σ H { s with heap:=s.heap.push { cls:=.type "range",data:=.fields #[.int lo t,.int hi u,.int 1 v] },toks:=tk }:=I.kept fun b o e=>get?_push_of_some _ e
 refine⟨(s.heap.push { cls:=.type "range",data:=.fields #[.int lo t,.int hi u,.int 1 v] }).objs.size,[(s.heap.push { cls:=.type "range",data:=.fields #[.int lo t,.int hi u,.int 1 v] }).objs.size],_,_,H,rfl,
  I1.kept (t':=tk) fun b o e=>get?_push_of_some _ e,v9 _ lo (hi-lo).toNat,?_,fun b hb=>?_,q⟩
 ·have e1:lo+((0:Nat):Int)*1=lo:=by simp
  have e2:(((hi-lo).toNat:Nat):Int)-((0:Nat):Int)=Builtin.Range.rangeSize lo hi 1:=by rw[rangeSize_one];split<;>omega
  show IsRangeIter _ _ (lo+((0:Nat):Int)*1) ((((hi-lo).toNat:Nat):Int)-((0:Nat):Int)) 1;rw[e1,e2];exact get?_push_size _ rfl
 ·have e:b=(s.heap.push { cls:=.type "range",data:=.fields #[.int lo t,.int hi u,.int 1 v] }).objs.size:=by simpa using hb
  subst e;exact I1.fpOk (le_refl _) (I1.hok.fresh (le_refl _))
def MV(ta:TA):TI:=fun σ H R=>ta σ H fun vs H1=>∃j:Int,vs=[.int j] /\ -(2^62)<=j/\j<2^62/\R (Lp 0 j.toNat) H1
theorem zY{a:Expr}{ta:TA}{p pos:Pos}(hg:Gl X "range")(hm:X.mg "range" = none)(ha:PA X [a] ta)(hs:starEach [a] X.env=[(false,eval a X.env)]:=by rfl):PI X tg (.Call (.Name "range" p) [a] [] pos) (MV ta):=by
 intro pins s σ H R I h;refine Call_ (iU I hg hm boot_range (PyProof.Rows.callWith_type1 (cm (ha pos pins s σ H _ I h) fun us s1 ⟨vs,H1,I1,r1,q1⟩=>?_) hs rfl))
 obtain⟨j,e,q1,q2,q⟩:=q1;subst e;cases r1 with
 |cons r rr=>
  cases rr;obtain⟨t,rfl⟩:=r;exact call_range_1 (BN I1 (by omega) (by omega) q1 q2 (by simpa using q))
def NX(wi:TI)(g:TG)(tb:TS):TS:=fun D σ H=>wi σ H fun J H1=>∃W:Nat->Nat->St->Hp->Prop,(∃m,W 0 m σ H1)/\∀i m σ H,W i m σ H ->
 (J.stop i H/\D.nx σ H)\/(J.go i H/\∃N:St->Hp->Prop,(∀ σ' H',N σ' H'->∃m',m'<m/\W (i+1) m' σ' H')/\∀x H',J.yld i H x H'->g x σ H' fun σ2 H2=>tb { D with nx:=N,ct:=N,bk:=D.nx } σ2 H2)
noncomputable def sZ(fp:List Addr)(h:Heap):List (Addr×Obj):=fp.filterMap fun b=>(h.get? b).map fun o=>(b,o)
theorem da{fp:List Addr}{h:Heap}{b:Addr}{o:Obj}(hb:b∈fp)(e:h.get? b=some o):(b,o)∈sZ fp h:=List.mem_filterMap.mpr ⟨b,hb,by rw[e];rfl⟩
theorem Ad{fp:List Addr}{h:Heap}{p:Addr×Obj}(hp:p∈sZ fp h):p.1∈fp/\h.get? p.1=some p.2:=by
 obtain⟨b,hb,e⟩:=List.mem_filterMap.mp hp;cases q:h.get? b with
 |none=>rw[q]at e;cases e
 |some o=>
  rw[q]at e;have e':(b,o)=p:=Option.some.inj e;subst e';exact⟨hb,q⟩
theorem Inv.pinned{pins:List (Addr×Obj)}{σ:St}{H:Hp}{s:Shared}{fp:List Addr}(I:Inv X pins σ H s)(hf:∀b∈fp,kF X pins H b)(ho:∀b∈fp,∃o,s.heap.get? b=some o/\∀v,o.data≠.cell v):Inv X (pins++sZ fp s.heap) σ H s:=
 I.pins_of fun p hp=>(List.mem_append.mp hp).elim (fun z=>I.pin p (mem_append_right _ z)) fun z=>by
  obtain⟨hb,e⟩:=Ad z;obtain⟨f0,f1,f2,_⟩:=hf p.1 hb;obtain⟨o,e',d⟩:=ho p.1 hb;rw[e]at e';cases e';exact⟨e,f0,f1,f2,d⟩
theorem Inv.unpinned{pins pl:List (Addr×Obj)}{σ:St}{H:Hp}{s:Shared}(I:Inv X (pins++pl) σ H s):Inv X pins σ H s:=I.pins_of fun p hp=>I.pin p (mem_append_right _ (List.mem_append_left _ hp))
theorem BR{iter:Expr}{body:List Stmt}{wi:TI}{g:TG}{tb:TS}{pos:Pos}(hp:PassesOwn (model X.prog X.w) X.A X.env X.xe)(hc:X.calm=true)(hi:PI X tg iter wi)(hg:PG X tg g)(hb:PSs X body tb)
  (hs:∀x,foldedSetIterable iter X.env x=pure x:=by intro _;rfl):PS X (.For tg iter body [] pos) (NX wi g tb):=by
 intro pins s σ H D I h;refine wpAny_For (cm (hi pins s σ H _ I h) fun v s1 h1=>cm h1 fun itv s2 h2=>?_) hs
 obtain⟨it,fp,tn,J,H2,e,I2,T,st2,f2,W,⟨m0,w0⟩,turn⟩:=h2;subst e;have stat:∀{H':Hp},(∀b∈fp,H' b=none)->∀b∈fp,kF X pins H' b:=fun hn b hb=>⟨hn b hb,(f2 b hb).2⟩
 refine codeAny_forLoop_any (fun n s'=>∃i σ' H',Inv X pins σ' H' s'/\tn i s'.heap/\(∀b∈fp,H' b=none)/\W i n σ' H') ?_ m0 ⟨0,σ,H2,I2,st2,fun b hb=>(f2 b hb).1,w0⟩
 rintro n s3 ⟨i,σ3,H3,I3,st3,fr3,w3⟩;rcases turn i n σ3 H3 w3 with⟨stop,qn⟩|⟨go,N,hN,step⟩
 ·refine wpAny_passesOwn hp (cm (T.done X rfl rfl rfl hc i pins s3 σ3 H3 X.xe I3 (stat fr3) st3 stop) fun r s4 ⟨hr,I4⟩=>?_)
  subst hr;exact wpAny_execs_nil ⟨σ3,H3,I4,qn⟩
 ·refine wpAny_passesOwn hp (cm (T.item X rfl rfl rfl hc i pins s3 σ3 H3 X.xe I3 (stat fr3) st3 go) fun r s4 ⟨u,hr,h4⟩=>?_)
  subst hr;refine wpAny_passesOwn hp (cm h4 fun _ s5 ⟨x,H5,I5,r5,y5,st5,fr5⟩=>?_);have I5':=I5.pinned (stat fr5) (T.obj _ _ st5);refine wpAny_passesOwn hp (cm (hg _ s5 σ3 H5 x u _ I5' r5 (step x H5 y5)) fun _ s6 ⟨σ6,H6,I6,q6⟩=>?_)
  refine wpAny_passesOwn hp (cm (hb _ s6 σ6 H6 _ I6 q6) fun f s7 q7=>?_)
  have again:∀{σ7:St} {H7:Hp},Inv X (pins++sZ fp s5.heap) σ7 H7 s7->N σ7 H7->∃m,m<n/\∃i σ' H',Inv X pins σ' H' s7/\tn i s7.heap/\(∀b∈fp,H' b=none)/\W i m σ' H':=fun{σ7 H7} I7 n7=>by
   obtain⟨m',hm,w7⟩:=hN σ7 H7 n7;refine⟨m',hm,i+1,σ7,H7,I7.unpinned,T.keep _ _ _ st5 fun b hb o e=>(I7.pin (b,o) (mem_append_right _ (mem_append_right _ (da hb e)))).1,fun b hb=>?_,w7⟩
   obtain⟨o,e,d⟩:=T.obj _ _ st5 b hb;exact(I7.pin (b,o) (mem_append_right _ (mem_append_right _ (da hb e)))).2.1
  cases f with
  |next=>obtain⟨σ7,H7,I7,n7⟩:=q7;exact again I7 n7
  |cont=>obtain⟨σ7,H7,I7,n7⟩:=q7;exact again I7 n7
  |brk=>obtain⟨σ7,H7,I7,q7⟩:=q7;exact⟨σ7,H7,I7.unpinned,q7⟩
  |ret v=>obtain⟨x7,σ7,H7,I7,r7,q7⟩:=q7;exact⟨x7,σ7,H7,I7.unpinned,r7,q7⟩
end
abbrev R2:=V->V->Hp->VK->Prop
def OpR(X:Cx)(f:Value->Value->Sem Value)(r:R2):Prop:=
 ∀(pins:List (Addr×Obj)) (s:Shared) (σ:St) (H:Hp) (x y:V) (v u:Value) (Q:VK),Inv X pins σ H s->RelV x v->RelV y u->r x y H Q ->
  wpAny (model X.prog X.w) X.A (f v u) (EP X pins σ Q) X.xe s
def Ni(X:Cx)(f:Value->Sem Value)(r:V->Hp->VK->Prop):Prop:=
 ∀(pins:List (Addr×Obj)) (s:Shared) (σ:St) (H:Hp) (x:V) (v:Value) (Q:VK),Inv X pins σ H s->RelV x v->r x H Q ->
  wpAny (model X.prog X.w) X.A (f v) (EP X pins σ Q) X.xe s
def CallR(X:Cx)(f:Value)(r:List V->Hp->VK->Prop):Prop:=
 ∀(pins:List (Addr×Obj)) (s:Shared) (σ:St) (H:Hp) (xs:List V) (us:List Value) (Q:VK),Inv X pins σ H s->Vals xs us->r xs H Q ->
  wpAny (model X.prog X.w) X.A (call f us) (EP X pins σ Q) X.xe s
def LC(r:R2)(ta tb:TE):TE:=fun σ H Q=>ta σ H fun x H1=>tb σ H1 fun y H2=>r x y H2 Q
def PN(r:V->Hp->VK->Prop)(ta:TE):TE:=fun σ H Q=>ta σ H fun x H1=>r x H1 Q
def rI(C:Int->Int->Prop)(g:Int->Int->V):R2:=fun x y H Q=>∃i j,x=.int i/\y=.int j/\C i j/\Q (g i j) H
def AX(g:Int->Int->V):R2:=fun x y H Q=>∃i j,x=.int i/\y=.int j/\Q (g i j) H
def rU(g:Int->V):V->Hp->VK->Prop:=fun x H Q=>∃i,x=.int i/\Q (g i) H
section
variable{X:Cx}{a b c:Expr}{ta tb tc:TE}{pos:Pos}
theorem KK(ha:PE X a ta)(hb:PE X b tb){pins:List (Addr×Obj)}{s:Shared}{σ:St}{H:Hp}{R:V->V->Hp->Prop}(I:Inv X pins σ H s)
  (h:ta σ H fun x H1=>tb σ H1 fun y H2=>R x y H2) {Q:Value->Shared->Prop} {f:Value->Value->Sem Value}
  (hf:∀v u s2 x y H2,Inv X pins σ H2 s2->RelV x v->RelV y u->R x y H2->wpAny (model X.prog X.w) X.A (f v u) Q X.xe s2) :
  wpAny (model X.prog X.w) X.A (eval a X.env) (fun v s₁=>wpAny (model X.prog X.w) X.A (eval b X.env) (fun u s₂=>wpAny (model X.prog X.w) X.A (f v u) Q X.xe s₂) X.xe s₁) X.xe s:=by
 refine cm (ha pins s σ H _ I h) fun v s1 ⟨x,H1,I1,r1,q1⟩=>?_
 refine cm (hb pins s1 σ H1 _ I1 q1) fun u s2 ⟨y,H2,I2,r2,q2⟩=>?_
 exact hf v u s2 x y H2 I2 r1 r2 q2
theorem Ha{op:Operator}{r:R2}(ho:OpR X (binaryOp op) r)(ha:PE X a ta)(hb:PE X b tb):PE X (.BinOp a op b pos) (LC r ta tb):=by
 intro pins s σ H Q I h;exact wpAny_BinOp (KK ha hb I h fun v u s2 x y H2 I2 rx ry q=>ho pins s2 σ H2 x y v u Q I2 rx ry q)
theorem Mb{op:UnaryOp}{r:V->Hp->VK->Prop}(ho:Ni X (unaryOp op) r)(ha:PE X a ta):PE X (.UnaryOp op a pos) (PN r ta):=by
 intro pins s σ H Q I h;exact UnaryOp_ (cm (ha pins s σ H _ I h) fun v s1 ⟨x,H1,I1,r1,q1⟩=>ho pins s1 σ H1 x v Q I1 r1 q1)
theorem Lh{f:Value->Value->Sem Value}{C:Int->Int->Prop}{g:Int->Int->Int}
  (rule:∀(i j:Int) (t u:Tok) (s:Shared) (Q:Value->Shared->Prop) (E:Value->Shared->Prop),C i j->Q (.int (g i j) s.toks) { s with toks:=s.toks+1 }->wpAny (model X.prog X.w) X.A (f (.int i t) (.int j u)) Q E s) :
  OpR X f (rI C fun i j=>.int (g i j)):=by
 intro pins s σ H x y v u Q I rx ry h;obtain⟨i,j,rfl,rfl,hc,q⟩:=h;obtain⟨t,rfl⟩:=rx;obtain⟨t',rfl⟩:=ry;exact rule i j t t' s _ _ hc ⟨.int (g i j),H,I.tok _,⟨_,rfl⟩,q⟩
theorem Cg{f:Value->Value->Sem Value}{g:Int->Int->Int}
  (rule:∀(i j:Int) (t u:Tok) (s:Shared) (Q:Value->Shared->Prop) (E:Value->Shared->Prop),Q (.int (g i j) s.toks) { s with toks:=s.toks+1 }->wpAny (model X.prog X.w) X.A (f (.int i t) (.int j u)) Q E s) :
  OpR X f (AX fun i j=>.int (g i j)):=by
 intro pins s σ H x y v u Q I rx ry h;obtain⟨i,j,rfl,rfl,q⟩:=h;obtain⟨t,rfl⟩:=rx;obtain⟨t',rfl⟩:=ry;exact rule i j t t' s _ _ ⟨.int (g i j),H,I.tok _,⟨_,rfl⟩,q⟩
theorem IU{f:Value->Value->Sem Value}{g:Int->Int->Bool}
  (rule:∀(i j:Int) (t u:Tok) (s:Shared) (Q:Value->Shared->Prop) (E:Value->Shared->Prop),Q (.bool (g i j)) s->wpAny (model X.prog X.w) X.A (f (.int i t) (.int j u)) Q E s) :
  OpR X f (AX fun i j=>.bl (g i j)):=by
 intro pins s σ H x y v u Q I rx ry h;obtain⟨i,j,rfl,rfl,q⟩:=h;obtain⟨t,rfl⟩:=rx;obtain⟨t',rfl⟩:=ry;exact rule i j t t' s _ _ ⟨.bl (g i j),H,I,rfl,q⟩
def O7(i j:Int):Prop:=0<j/\j<1073741824
def O6(i j:Int):Prop:=0<=j/\j<=1000000/\i.natAbs<2^64
theorem v7(k:Nat):(0:Int)<=2^k:=by
 rw[two_pow_cast];exact Int.natCast_nonneg _
theorem IT:OpR X (binaryOp .Add) (AX fun i j=>.int (i+j)):=Cg fun _ _ _ _ _ _ _ q=>add_int q
theorem IN:OpR X (binaryOp .Sub) (AX fun i j=>.int (i-j)):=Cg fun _ _ _ _ _ _ _ q=>sub_int q
theorem Fm:OpR X (binaryOp .FloorDiv) (rI O7 fun i j=>.int (i/j)):=Lh fun i j _ _ _ _ _ hc q=>by
 have h1:(0:Int)<j:=hc.1;have h2:j<1073741824:=hc.2;exact floordiv_int (by omega) (by rw[Int.fdiv_eq_ediv_of_nonneg i (by omega)];exact q) (.inl (PyProof.noPylong_small (by omega)))
theorem IR:OpR X (binaryOp .Mod) (rI (fun _ j=>0<j) fun i j=>.int (i%j)):=Lh fun i j _ _ _ _ _ hc q=>by
 have h1:(0:Int)<j:=hc;exact mod_int' (by omega) (by rw[Int.fmod_eq_emod_of_nonneg i (by omega)];exact q)
theorem IQ:OpR X (binaryOp .Pow) (rI O6 fun i j=>.int (i^j.toNat)):=Lh fun _ _ _ _ _ _ _ hc q=>pow_int_small hc.1 hc.2.1 hc.2.2 q
theorem IP:OpR X (binaryOp .RShift) (rI (fun _ j=>0<=j) fun i j=>.int (i/2^j.toNat)):=Lh fun i j _ _ _ _ _ hc q=>
 rshift_int hc (by rw[Int.fdiv_eq_ediv_of_nonneg i (v7 _)];exact q)
theorem IS:OpR X (binaryOp .BitAnd) (AX fun i j=>.int (Builtin.bitAnd i j)):=Cg fun _ _ _ _ _ _ _ q=>and_int q
theorem Mf:OpR X (binaryOp .BitOr) (AX fun i j=>.int (Builtin.bitOr i j)):=Cg fun _ _ _ _ _ _ _ q=>or_int q
theorem IM:OpR X (binaryOp .BitXor) (AX fun i j=>.int (Builtin.bitXor i j)):=Cg fun _ _ _ _ _ _ _ q=>xor_int q
theorem PK{f:Value->Sem Value}{g:Int->Int}
  (rule:∀(i:Int) (t:Tok) (s:Shared) (Q:Value->Shared->Prop) (E:Value->Shared->Prop),Q (.int (g i) s.toks) { s with toks:=s.toks+1 }->wpAny (model X.prog X.w) X.A (f (.int i t)) Q E s) :
  Ni X f (rU fun i=>.int (g i)):=by
 intro pins s σ H x v Q I rx h;obtain⟨i,rfl,q⟩:=h;obtain⟨t,rfl⟩:=rx;exact rule i t s _ _ ⟨.int (g i),H,I.tok _,⟨_,rfl⟩,q⟩
theorem HJ:Ni X (unaryOp .USub) (rU fun i=>.int (-i)):=PK fun _ _ _ _ _ q=>neg_int q
end
section
variable{X:Cx}{a b c:Expr}{ta tb tc:TE}{pos:Pos}
theorem Mg:OpR X (compareOp .Lt) (AX fun i j=>.bl (decide (i<j))):=IU fun _ _ _ _ _ _ _ q=>lt_int q
theorem Mh:OpR X (compareOp .LtE) (AX fun i j=>.bl (decide (i<=j))):=IU fun _ _ _ _ _ _ _ q=>le_int q
theorem Mi:OpR X (compareOp .Gt) (AX fun i j=>.bl (decide (j<i))):=IU fun _ _ _ _ _ _ _ q=>gt_int q
theorem aD(b:Expr){op:CmpOp}(h:op≠.In:=by decide)(h2:op≠.NotIn:=by decide):behindInMarks op b=false:=by
 have e1:(op==CmpOp.In)=false:=by cases op<;>first|rfl|exact absurd rfl h
 have e2:(op==CmpOp.NotIn)=false:=by cases op<;>first|rfl|exact absurd rfl h2
 cases b<;>simp[behindInMarks,e1,e2]
theorem Fa{op:CmpOp}{r:R2}(ho:OpR X (compareOp op) r)(ha:PE X a ta)(hb:PE X b tb)(hm:behindInMarks op b=false):PE X (.Compare a [op] [b] pos) (LC r ta tb):=by
 intro pins s σ H Q I h;exact wpAny_Compare1 (KK ha hb I h fun v u s2 x y H2 I2 rx ry q=>ho pins s2 σ H2 x y v u Q I2 rx ry q) hm
def Lz(t:TE):TT:=fun σ H Q=>t σ H fun x H'=>∃k,x=.bl k/\Q k H'
theorem ET{op:CmpOp}{r:R2}(ho:OpR X (compareOp op) r)(ha:PE X a ta)(hb:PE X b tb)(hm:behindInMarks op b=false):PT X (.Compare a [op] [b] pos) (Lz (LC r ta tb)):=by
 intro pins s σ H Q I h;refine wpAny_isTrue_Compare1 (cm (ha pins s σ H _ I h) fun v s1 ⟨x,H1,I1,r1,q1⟩=>cm (hb pins s1 σ H1 _ I1 q1) fun u s2 ⟨y,H2,I2,r2,q2⟩=>
  cm (ho pins s2 σ H2 x y v u _ I2 r1 r2 q2) fun c s3 ⟨z,H3,I3,r3,k,e,q3⟩=>?_) hm
 subst e;cases r3;exact wpAny_truthy_bool ⟨H3,I3,q3⟩
theorem tU:(sizeLine:Nat)<2^63:=by rw[sizeLine_eq];decide
theorem wG:OpR X (binaryOp .Add) (fun x y H Q=>∃i j,x=.str i/\y=.str j/\i.length+j.length<=sizeLine/\Q (.str (i++j)) H):=by
 intro pins s σ H x y v u Q I rx ry h;obtain⟨i,j,rfl,rfl,hz,q⟩:=h;obtain⟨t,rfl⟩:=rx;obtain⟨t',rfl⟩:=ry;exact add_str (fun t' tk=>⟨.str (i++j),H,I.tok _,⟨_,rfl⟩,q⟩) hz
theorem uz{x:V}{us:List Value}(r:Vals [x] us):∃u,us=[u]/\RelV x u:=by
 cases r with
 |cons r1 r2=>cases r2;exact⟨_,rfl,r1⟩
theorem Bb{x y:V}{us:List Value}(r:Vals [x,y] us):∃u w',us=[u,w']/\RelV x u/\RelV y w':=by
 cases r with
 |cons r1 r2=>
  cases r2 with
  |cons r3 r4=>cases r4;exact⟨_,_,rfl,r1,r3⟩
theorem AN(hc:X.calm=true):CallR X (.builtin "min") (fun xs H Q=>∃i j,xs=[.int i,.int j]/\Q (.int (if j<i then j else i)) H):=by
 intro pins s σ H xs us Q I r h;obtain⟨i,j,rfl,q⟩:=h;obtain⟨u,w',rfl,⟨t,rfl⟩,⟨t',rfl⟩⟩:=Bb r;refine min_two_ints (I.ok.hd hc) fun h' tk k=>⟨_,H,I.kept k,?_,q⟩
 by_cases hj:j<i
 ·rw[if_pos hj,if_pos hj];exact⟨_,rfl⟩
 ·rw[if_neg hj,if_neg hj];exact⟨_,rfl⟩
def O5(K:PySem.W.Frag)(x:V)(H:Hp)(n:Nat):Prop:=
 match x with
 |.str y=>y.length<=sizeLine/\n=y.length
 |.byt y=>y.size<=sizeLine/\n=y.size
 |.ref p=>(∃xs,SqL K H p xs/\n=xs.length)\/∃xs,SqT K H p xs/\n=xs.length
 |_=>False
theorem Dw:CallR X (.builtin "len") (fun xs H Q=>∃x n,xs=[x]/\O5 X.K x H n/\Q (.int n) H):=by
 intro pins s σ H xs us Q I r h;obtain⟨x,n,rfl,e,q⟩:=h;obtain⟨u,rfl,rx⟩:=uz r;have hl:=tU;have hs:sizeLine=16777216:=sizeLine_eq;cases x with
 |str y=>
  obtain⟨t,rfl⟩:=rx;obtain⟨hy,e'⟩:y.length<=sizeLine/\n=y.length:=e;subst e';exact len_str (by omega) ⟨.int _,H,I.tok _,⟨_,rfl⟩,q⟩
 |byt y=>
  obtain⟨t,rfl⟩:=rx;obtain⟨hy,e'⟩:y.size<=sizeLine/\n=y.size:=e;subst e';exact PySem.W.len_bytes (by omega) ⟨.int _,H,I.tok _,⟨_,rfl⟩,q⟩
 |ref p=>
  cases rx;have e':(∃xs,SqL X.K H p xs/\n=xs.length)\/∃xs,SqT X.K H p xs/\n=xs.length:=e;rcases e' with⟨xs,hx,e'⟩|⟨xs,hx,e'⟩
  ·subst e'
   obtain⟨its,r',pl,hz⟩:=I.list hx;have hlen:=r'.length;exact Calls.call_len_list pl.isList (by simp only[size_toArray];omega) ⟨.int xs.length,H,I.tok _,⟨_,by simp only[size_toArray];rw[hlen]⟩,q⟩
  ·subst e'
   obtain⟨its,r',pl,hz⟩:=I.tuple hx;have hlen:=r'.length;exact len_tuple pl (by simp only[size_toArray];omega) ⟨.int xs.length,H,I.tok _,⟨_,by simp only[size_toArray];rw[hlen]⟩,q⟩
 |_=>exact(show False from e).elim
end
structure ObjM (h:Heap) (x dx C:Addr) (mA:Str->Option Value):Prop where
 obj:h.get? x=some (instObj C dx)
 ns:h.Ns1 dx mA
 ne:dx≠x
theorem Ar{h:Heap}{dx:Addr}{mA:Str->Option Value}(n:h.Ns1 dx mA):∃od,h.get? dx=some od/\∀name,lookIn name od=some (mA name):=by
 obtain⟨o,es,ep,ho,hd,hk,_,hm⟩:=n;refine⟨o,ho,fun name=>?_⟩
 have e:=hm name;unfold nsFind findBy at e;rw[<-Array.find?_toList]at e;unfold lookIn;rw[hd];dsimp only;split
 ·rename_i y q
  rw[q]at e;exact congrArg some e
 ·rename_i q
  rw[q]at e;have a:es.toList.any (·.refKey)=false:=by
   rw[List.any_eq_false];intro y hy;obtain⟨z,t,hkey⟩:=hk y (Array.mem_toList_iff.mp hy);simp[DictEntry.refKey,hkey]
  have a':¬es.toList.any (·.refKey)=true:=by rw[a];exact Bool.false_ne_true
  rw[if_neg a'];exact congrArg some e
theorem ObjM.look{h:Heap}{x dx C:Addr}{mA:Str->Option Value}(I:ObjM h x dx C mA):∃od,PySem.W.InstAt h x (instObj C dx) C (some od)/\∀name,lookIn name od=some (mA name):=
 let ⟨od,ho,hl⟩:=Ar I.ns
 ⟨od,⟨I.obj,rfl,rfl,ho⟩,hl⟩
section
variable{prog:Program}{w:World}{A:Around}{E:Value->Shared->Prop}{s:Shared}{K:PySem.W.Frag}{x dx C f:Addr}{mA:Str->Option Value}{name:Str}{v:Value}
theorem Ge{expr:Bool}{Q:Value->Shared->Prop}(X:K.In s.heap)(I:ObjM s.heap x dx C mA)(hg:plainGet K C name=true)(hh:hasDictIn K C=true)
  (ha:findIn K (.ref C) name=some none) (hv:mA name=some v) (hv':handedIn v=true) (h:Q v { s with toks:=s.toks+1 }) :
  wpAny (model prog w) A (getAttr (.ref x) name expr) Q E s:=by
 obtain⟨od,J,hl⟩:=I.look;exact PySem.W.get_value X J (plainGet_of hg).1 (PySem.W.findObj_own hh ha rfl (by rw[hl,hv])) hv' h
theorem Da{pl:Sem Bool}{Q:Value×List Value->Shared->Prop}(X:K.In s.heap)(I:ObjM s.heap x dx C mA)(hg:plainGet K C name=true)
  (hf:findIn K (.ref C) name=some (some (.ref f))) (ht:PySem.W.isFn K (.ref f)=true) (hv:mA name=none) (h:Q (.ref f,[.ref x]) s) :
  wpAny (model prog w) A (getMethod (.ref x) name pl) Q E s:=by
 obtain⟨od,J,hl⟩:=I.look;exact PySem.W.method_fn X J (plainGet_of hg).1 (plainGet_of hg).2 hf (beq_iff_eq.mp ht) (by show(lookIn name od).map (·.isSome)=some false;rw[hl,hv];rfl) h
theorem EE{ns:List Str}{Q:Unit->Shared->Prop}(X:K.In s.heap)(I:ObjM s.heap x dx C mA)
  (hs:findIn K (.ref C) "__setattr__" = some (some (.builtin "object.__setattr__"))) (hp:plainOver K C=true) (ht:takerIn K C name=some none) (hh:hasDictIn K C=true)
  (hw:PySem.Within mA ns) (hsz:ns.length<=sizeLine)
  (h:∀h',ObjM h' x dx C (fun y=>if y=name then some v else mA y)->Heap.SameBut dx s.heap h'->Q () { s with heap:=h',toks:=s.toks+2 }) :
  wpAny (model prog w) A (setAttr (.ref x) name v) Q E s:=by
 obtain⟨od,J,hl⟩:=I.look;refine PySem.W.set_plain X J hs (PySem.W.osa_open (s:={ s with toks:=s.toks+1 }) (r:=none) X J hp ht fun b=>?_)
 obtain⟨cd,hc,hd'⟩:=PySem.W.any_some hh;have hx:s.heap.get? x=some ⟨.ref C,some dx,.plain,#[]⟩:=I.obj;refine wpAny_bind (wpAny_pure (wpAny_bind (wpAny_bind (wpAny_loadPart hx (wpAny_bind (PySem.W.Looks.here (s:={ s with toks:=s.toks+1 }) (PySem.W.looks_clsIn X hc) ?_))))));rw[hd'];refine wpAny_pure (a:=some dx) (wpAny_bind (wpAny_pure (wpAny_bind ?_)));refine wpAny_nsSet1 (s:={ s with toks:=s.toks+1 }) I.ns fun h' hn2 hs2=>?_
 obtain⟨oD,esD,epD,hoD,hdD,hcD⟩:=hn2.count (PySem.Within.cons name v hw);refine wpAny_bind (wpAny_lookBehind hoD (by rw[hdD];exact pastItsLine_dict (le_trans hcD (by rw[length_cons];omega))) ?_);exact wpAny_pure (h _ ⟨(hs2.2 _ (Ne.symm I.ne)).trans I.obj,hn2,I.ne⟩ hs2)
theorem CB{R:Result->Shared->Prop}{vs:List Value}{kw:List (Str×Value)}(X:K.In s.heap)(hm:makesIn K C=true)
  (hi:findIn K (.ref C) "__init__" = some (some (.ref f))) (hf:PySem.W.typeIn K (.ref f)=some (.type "function"))
  (h:codeAny (model prog w) (A.under (.builtin "type.__call__" ⟨.ref C::vs,kw⟩)) (.call (.ref f) ⟨.ref (s.heap.objs.size+1)::vs,kw⟩) (PySem.W.InitBack (s.heap.objs.size+1) R)
   { s with heap:=(s.heap.push emptyDict).push (instObj C s.heap.objs.size) }) :
  codeAny (model prog w) A (.call (.ref C) ⟨vs,kw⟩) R s:=by
 obtain⟨hh,g,d,t,os⟩:=s;exact PySem.W.make_core (PySem.W.makes_of X hm) (PySem.W.looks_findIn X hi) (fun self=>PySem.W.bind_fn X self hf) (.inl rfl) h
end
noncomputable def fG(f:Str)(v:V):List (Str×V)->List (Str×V)
 |[]=>[(f,v)]
 | (g,x)::r=>if g=f then(g,v)::r else(g,x)::fG f v r
theorem mP(f g:Str)(v:V):∀fs:List (Str×V),(fG f v fs).lookup g=if g=f then some v else fs.lookup g
 |[]=>by
  show List.lookup g [(f,v)]=_;by_cases h:g=f
  ·have hb:(g==f)=true:=beq_iff_eq.mpr h
   simp only[List.lookup,hb,if_pos h]
  ·have hb:(g==f)=false:=beq_eq_false_iff_ne.mpr h
   simp only[List.lookup,hb,if_neg h]
 | (k,x)::r=>by
  have ih:=mP f g v r;rw[show fG f v ((k,x)::r)=(if k=f then(k,v)::r else(k,x)::fG f v r)from rfl];by_cases hk:k=f
  ·rw[if_pos hk]
   by_cases h:g=k
   ·have hb:(g==k)=true:=beq_iff_eq.mpr h
    simp only[List.lookup,hb,if_pos (h.trans hk)]
   ·have hb:(g==k)=false:=beq_eq_false_iff_ne.mpr h
    simp only[List.lookup,hb,if_neg (fun e:g=f=>h (e.trans hk.symm))]
  ·rw[if_neg hk]
   by_cases h:g=k
   ·have hb:(g==k)=true:=beq_iff_eq.mpr h
    simp only[List.lookup,hb,if_neg (fun e:g=f=>hk (h.symm.trans e))]
   ·have hb:(g==k)=false:=beq_eq_false_iff_ne.mpr h
    simp only[List.lookup,hb];exact ih
theorem mn(f:Str)(v:V):∀fs:List (Str×V),f∈(fG f v fs).map (·.1)/\∀g,g∈fs.map (·.1)->g∈(fG f v fs).map (·.1)
 |[]=>⟨by simp[fG],fun g h=>by simp at h⟩
 | (k,x)::r=>by
  obtain⟨i1,i2⟩:=mn f v r;rw[show fG f v ((k,x)::r)=(if k=f then(k,v)::r else(k,x)::fG f v r)from rfl];by_cases hk:k=f
  ·rw[if_pos hk]
   subst hk;exact⟨by simp,fun g h=>by simpa using h⟩
  ·rw[if_neg hk]
   refine⟨?_,fun g h=>?_⟩
   ·rw[List.map_cons]
    exact mem_cons_of_mem _ i1
   ·rw[List.map_cons]at h ⊢
    rcases List.mem_cons.mp h with e|e
    ·exact List.mem_cons.mpr (.inl e)
    ·exact mem_cons_of_mem _ (i2 g e)
theorem mQ(f:Str)(v:V):∀fs:List (Str×V),(fG f v fs).length<=fs.length+1
 |[]=>by simp[fG]
 | (k,x)::r=>by
  have ih:=mQ f v r;rw[show fG f v ((k,x)::r)=(if k=f then(k,v)::r else(k,x)::fG f v r)from rfl];by_cases hk:k=f
  ·rw[if_pos hk,length_cons,length_cons];omega
  ·rw[if_neg hk,length_cons,length_cons];omega
theorem RelO.some_of{v:V}{o:Option Value}(r:RelO (some v) o):∃u,o=some u/\RelV v u:=by
 cases o with
 |none=>exact(show False from r).elim
 |some u=>exact⟨u,rfl,r⟩
theorem RelO.none_of{o:Option Value}(r:RelO none o):o=none:=by
 cases o with
 |none=>rfl
 |some u=>exact(show False from r).elim
theorem AE{v:V}{u:Value}(r:RelV v u):handedIn u=true:=by
 cases v with
 |non=>cases(show u=Value.none from r);rfl
 |bl b=>cases(show u=Value.bool b from r);rfl
 |int i=>obtain⟨t,e⟩:=(show ∃t,u=Value.int i t from r);cases e;rfl
 |str x=>obtain⟨t,e⟩:=(show ∃t,u=Value.str x t from r);cases e;rfl
 |byt b=>obtain⟨t,e⟩:=(show ∃t,u=Value.bytes b t from r);cases e;rfl
 |flt b=>obtain⟨t,e⟩:=(show ∃t,u=Value.float b t from r);cases e;rfl
 |ref a=>cases(show u=Value.ref a from r);rfl
 |ty n=>cases(show u=Value.type n from r);rfl
section
variable{P:Program}{w:World}{H H':Hp}{h h':Heap}{a C dx:Addr}{fs fs':List (Str×V)}
theorem n6(hok:HOk P w H h)(e:H a=some (.ins C dx fs)):∃mA,ObjM h a dx C mA/\(∀f,RelO (fs.lookup f) (mA f))/\PySem.Within mA (fs.map (·.1))/\fs.length<=1000/\H dx=some (.own a):=by
 obtain⟨d,z,ne,ob,mA,n,r,q⟩:=(show ObjOk P w H h a (.ins C dx fs)from hok a _ e);exact⟨mA,⟨ob,n,ne⟩,r,q,z,d⟩
end
structure Cls (K:PySem.W.Frag) (C:Addr):Prop where
 pg:plainGet K C Str.empty=true
 hd:hasDictIn K C=true
 po:plainOver K C=true
 sa:findIn K (.ref C) "__setattr__" = some (some (.builtin "object.__setattr__"))
theorem Cls.get{K:PySem.W.Frag}{C:Addr}(c:Cls K C)(f:Str):plainGet K C f=true:=c.pg
def NoAttr(K:PySem.W.Frag)(C:Addr)(f:Str):Prop:=findIn K (.ref C) f=some none
theorem NoAttr.taker{K:PySem.W.Frag}{C:Addr}{f:Str}(n:NoAttr K C f):takerIn K C f=some none:=by
 unfold takerIn;rw[show findIn K (.ref C) f=some none from n];rfl
structure Meth (K:PySem.W.Frag) (C:Addr) (m:Str) (f:Addr):Prop where
 at_:findIn K (.ref C) m=some (some (.ref f))
 fn:PySem.W.isFn K (.ref f)=true
 kp:keepIn K (.ref f)=true
section
variable{X:Cx}{pins:List (Addr×Obj)}{σ:St}{H:Hp}{s:Shared}{a C dx:Addr}{fs:List (Str×V)}{f:Str}{v:V}{A:Around}{E:Value->Shared->Prop}
theorem xi{b:Bool}{Q:Value->Shared->Prop}(I:Inv X pins σ H s)(e:H a=some (.ins C dx fs))(c:Cls X.K C)(n:NoAttr X.K C f)(l:fs.lookup f=some v)
  (h:∀u s',Inv X pins σ H s'->RelV v u->Q u s'):wpAny (model X.prog X.w) A (getAttr (.ref a) f b) Q E s:=by
 obtain⟨mA,O,r,_,_,_⟩:=n6 I.hok e;obtain⟨u,hu,ru⟩:=RelO.some_of (v:=v) (o:=mA f) (by rw[<-l];exact r f);exact Ge I.kIn O (c.get f) c.hd n hu (AE ru) (h u _ (I.tok _) ru)
theorem xh{m:Str}{g:Addr}{pl:Sem Bool}{Q:Value×List Value->Shared->Prop}(I:Inv X pins σ H s)(e:H a=some (.ins C dx fs))(c:Cls X.K C)(k:Meth X.K C m g)(l:fs.lookup m=none)
  (h:Q (.ref g,[.ref a]) s):wpAny (model X.prog X.w) A (getMethod (.ref a) m pl) Q E s:=by
 obtain⟨mA,O,r,_,_,_⟩:=n6 I.hok e;have hn:mA m=none:=RelO.none_of (by rw[<-l];exact r m);exact Da I.kIn O (c.get m) k.at_ k.fn hn h
theorem wj{y:V}{u:Value}{Q:Unit->Shared->Prop}(I:Inv X pins σ H s)(e:H a=some (.ins C dx fs))(c:Cls X.K C)(n:NoAttr X.K C f)(hl:fs.length<1000)(ry:RelV y u)
  (h:∀s',Inv X pins σ (upd H a (.ins C dx (fG f y fs))) s'->Q () s'):wpAny (model X.prog X.w) A (setAttr (.ref a) f u) Q E s:=by
 obtain⟨mA,O,r,wi,_,ho⟩:=n6 I.hok e;have hz:(fs.map (·.1)).length<=sizeLine:=by rw[List.length_map,sizeLine_eq];omega
 refine EE I.kIn O c.sa c.po n.taker c.hd wi hz fun h' O' sb=>h _ ?_
 have hd:∃o,h'.get? dx=some o:=let ⟨o,_,_,e',_⟩:=O'.ns; ⟨o,e'⟩
 refine I.write (x:=a) (e:=dx) (by rw[e];exact True.intro) (.inr ho) (fun b q hb z=>(sb.2 b hb).trans z) hd ?_
 refine⟨by rw[aA O.ne];exact ho,?_,O.ne,O'.obj,_,O'.ns,fun g=>?_,fun g hg=>?_⟩
 ·have:=mQ f y fs;omega
 ·show RelO ((fG f y fs).lookup g) (if g=f then some u else mA g)
  rw[mP];by_cases q:g=f
  ·rw[if_pos q,if_pos q];exact ry
  ·rw[if_neg q,if_neg q];exact r g
 ·by_cases q:g=f
  ·rw[q];exact(mn f y fs).1
  ·refine(mn f y fs).2 g (wi g fun z=>hg ?_)
   show(if g=f then some u else mA g)=none;rw[if_neg q];exact z
theorem Inv.made(I:Inv X pins σ H s):Inv X pins σ (upd (upd H s.heap.objs.size (.own (s.heap.objs.size+1))) (s.heap.objs.size+1) (.ins C s.heap.objs.size []))
  { s with heap:=(s.heap.push emptyDict).push (instObj C s.heap.objs.size) }:=by
 have e1:(s.heap.push emptyDict).get? s.heap.objs.size=some emptyDict:=get?_push_size s.heap rfl;have e2:((s.heap.push emptyDict).push (instObj C s.heap.objs.size)).get? (s.heap.objs.size+1)=some (instObj C s.heap.objs.size):=by
  have:=get?_push_size (s.heap.push emptyDict) (o:=instObj C s.heap.objs.size) rfl
  rwa [Heap.size_push]at this
 have e3:(s.heap.push emptyDict).Ns s.heap.objs.size (fun _=>none):=⟨emptyDict,#[],_,e1,rfl,(fun e he=>absurd he (by simp)),fun _=>rfl⟩
 have I1:=I.laid (a:=s.heap.objs.size) (o:=.own (s.heap.objs.size+1)) (h':=s.heap.push emptyDict) (t':=s.toks) (fun b u q=>get?_push_of_some _ q) (le_refl _) ⟨_,e1⟩;refine I1.laid (a:=s.heap.objs.size+1) (o:=.ins C s.heap.objs.size []) (t':=s.toks) (fun b u q=>get?_push_of_some _ q) (Nat.le_of_eq (Heap.size_push _ _)) ?_;have ne:s.heap.objs.size≠s.heap.objs.size+1:=ne_of_lt (Nat.lt_succ_self _);refine⟨by rw[aA ne,aN],Nat.zero_le _,ne,e2,fun _=>none,(Heap.Ns1.of_empty e3).at fun o q=>get?_push_of_some _ q,fun _=>True.intro,fun y hy=>absurd rfl hy⟩
theorem GQ{prog:Program}{w:World}{env:Env}{e:Expr}{f:Str}{pos:Pos}{s:Shared}{Q:Value->Shared->Prop}(hb:attributeBase e f env (eval e env)=eval e env)
  (h:wpAny (model prog w) A (eval e env) (fun o s₁=>wpAny (model prog w) A (getAttr o f true) Q E s₁) E s):wpAny (model prog w) A (eval (.Attribute e f pos) env) Q E s:=
 Attribute_any_ h (by rw[arm_eval_Attribute,hb])
end
def NY(K:PySem.W.Frag)(ta:TE)(f:Str):TE:=fun σ H Q=>ta σ H fun x H1=>∃a C dx fs v,x=.ref a/\H1 a=some (.ins C dx fs)/\Cls K C/\NoAttr K C f/\fs.lookup f=some v/\Q v H1
def N7(K:PySem.W.Frag)(ta tv:TE)(f:Str):TS:=fun D σ H=>tv σ H fun y H1=>ta σ H1 fun x H2=>∃a C dx fs,x=.ref a/\H2 a=some (.ins C dx fs)/\Cls K C/\NoAttr K C f/\fs.length<1000 /\
 D.nx σ (upd H2 a (.ins C dx (fG f y fs)))
section
variable{X:Cx}{o e value:Expr}{f:Str}{pos pos' tpos:Pos}{ta tv:TE}
theorem tf(he:PE X e ta)(hb:attributeBase e f X.env (eval e X.env)=eval e X.env):PE X (.Attribute e f pos) (NY X.K ta f):=by
 intro pins s σ H Q I h;refine GQ hb (cm (he pins s σ H _ I h) fun u s1 ⟨x,H1,I1,rx,a,C,dx,fs,v,ex,ea,c,n,l,q⟩=>?_)
 subst ex;obtain rfl:u=Value.ref a:=rx;exact xi I1 ea c n l fun u' s2 I2 ru=>⟨v,H1,I2,ru,q⟩
theorem BS(ha:PE X o ta)(hv:PE X value tv)(hs:swapsWith value (some (.Attribute o f pos')) pos.line X.env=pure false):PS X (.Assign [.Attribute o f pos'] value pos) (N7 X.K ta tv f):=by
 intro pins s σ H D I h;refine plainObj_wpAny_Assign_Attribute (cm (hv pins s σ H _ I h) fun u s1 ⟨y,H1,I1,ry,q⟩=>cm (ha pins s1 σ H1 _ I1 q) fun ov s2 ⟨x,H2,I2,rx,a,C,dx,fs,ex,ea,c,n,l,q2⟩=>?_) hs
 subst ex;obtain rfl:ov=Value.ref a:=rx;exact wj I2 ea c n l ry fun s3 I3=>⟨σ,_,I3,q2⟩
end
section
variable{X:Cx}{pins:List (Addr×Obj)}{σ:St}{H:Hp}{s:Shared}{A:Around}{E:Value->Shared->Prop}{Q:Value->Shared->Prop}{c:Value}{b:Bool}
inductive TyOf (K:PySem.W.Frag) (H:Hp):V->Value->Prop where
 |non:TyOf K H .non (.type "NoneType")
 |bl (x:Bool):TyOf K H (.bl x) (.type "bool")
 |int (i:Int):TyOf K H (.int i) (.type "int")
 |str (x:Str):TyOf K H (.str x) (.type "str")
 |flt (x:UInt64):TyOf K H (.flt x) (.type "float")
 |lst {a:Addr} {xs:List V} (e:H a=some (.lst xs)):TyOf K H (.ref a) (.type "list")
 |frz {a:Addr} {o:Obj} {xs:List V} (e:H a=some (.frz o (.lst xs))):TyOf K H (.ref a) (.type "list")
 |tup {a:Addr} {xs:List V} (e:H a=some (.tup xs)):TyOf K H (.ref a) (.type "tuple")
 |dK {a:Addr} {kvs:List (bb×V)} (e:H a=some (.dK kvs)):TyOf K H (.ref a) (.type "dict")
 |dT {a:Addr} {kvs:List (List bb×V)} (e:H a=some (.dT kvs)):TyOf K H (.ref a) (.type "dict")
 |ins {a C dx:Addr} {fs:List (Str×V)} (e:H a=some (.ins C dx fs)) (cl:Cls K C) (ha:findIn K (.ref C) "__class__" = some (some (.builtin "object.__class__")))
   (hn:PySem.W.specialIn K (.builtin "object.__class__") "__get__" = some (some (.builtin "getset_descriptor.__get__"))) (htk:PySem.W.takesIn K (.builtin "object.__class__")=some true)
   (hm:PySem.W.mroIn K C (.type "object")=some true):TyOf K H (.ref a) (.ref C)
theorem jM{x:V}{u t:Value}(I:Inv X pins σ H s)(rx:RelV x u)(ty:TyOf X.K H x t)(e:PySem.W.kitOne X.K t c=some b)(h:∀tk,Q (.bool b) { s with toks:=tk }):
  wpAny (model X.prog X.w) A (call (.builtin "isinstance") [u,c]) Q E s:=by
 cases ty with
 |non=>cases(show u=Value.none from rx);exact kia_one PySem.W.kitx_none I.kIn True.intro e (fun z=>nomatch z) h
 |bl y=>cases(show u=Value.bool y from rx);exact kia_one PySem.W.kitx_bool I.kIn True.intro e (fun z=>nomatch z) h
 |int i=>obtain⟨t,q⟩:=(show ∃t,u=Value.int i t from rx);cases q;exact kia_one PySem.W.kitx_int I.kIn True.intro e (fun z=>nomatch z) h
 |str y=>obtain⟨t,q⟩:=(show ∃t,u=Value.str y t from rx);cases q;exact kia_one PySem.W.kitx_str I.kIn True.intro e (fun z=>nomatch z) h
 |flt y=>obtain⟨t,q⟩:=(show ∃t,u=Value.float y t from rx);cases q;exact kia_one PySem.W.kitx_float I.kIn True.intro e (fun z=>nomatch z) h
 | @lst a xs ea=>
  cases(show u=Value.ref a from rx);obtain⟨_,_,n,_,h1⟩:=(show ObjOk X.prog X.w H s.heap a (.lst xs)from I.hok a _ ea);exact kia_one kitx_list I.kIn ⟨_,h1,rfl⟩ e (fun z=>nomatch z) h
 | @frz a ob xs ea=>
  cases(show u=Value.ref a from rx);obtain⟨_,_,_,n,_,h1⟩:=(show ObjOk X.prog X.w H s.heap a (.frz ob (.lst xs))from I.hok a _ ea);exact kia_one kitx_list I.kIn ⟨_,h1,rfl⟩ e (fun z=>nomatch z) h
 | @tup a xs ea=>
  cases(show u=Value.ref a from rx);obtain⟨_,_,_,p⟩:=(show ObjOk X.prog X.w H s.heap a (.tup xs)from I.hok a _ ea);obtain⟨o,h1,h2,_⟩:=p.1;exact kia_one PySem.W.kitx_tuple I.kIn ⟨o,h1,h2⟩ e (fun z=>nomatch z) h
 | @dK a kvs ea=>
  cases(show u=Value.ref a from rx);obtain⟨_,_,vs,_,p⟩:=(show ObjOk X.prog X.w H s.heap a (.dK kvs)from I.hok a _ ea);obtain⟨o,es,ep,h1,h2,_⟩:=p;exact kia_one kitx_dict I.kIn ⟨o,h1,h2.1⟩ e (fun z=>nomatch z) h
 | @dT a kvs ea=>
  cases(show u=Value.ref a from rx);obtain⟨_,_,xs,_,o,es,ep,h1,h2,_⟩:=(show ObjOk X.prog X.w H s.heap a (.dT kvs)from I.hok a _ ea);exact kia_one kitx_dict I.kIn ⟨o,h1,h2.1⟩ e (fun z=>nomatch z) h
 | @ins a C dx fs ea cl ha hn htk hm=>
  cases(show u=Value.ref a from rx);obtain⟨mA,O,_⟩:=n6 I.hok ea;obtain⟨od,J,_⟩:=O.look;exact kia_one (PySem.W.kitx_own (cl.get _) cl.hd ha hn htk hm) I.kIn J e (fun z=>nomatch z) h
end
structure Room (k:Nat) (A:Around):Prop where
 hd:A.handled=none
 dp:A.depth+3*k+5<recursionLimit
 un:A.units+16*k+200<cLine
theorem Room.mono{j k:Nat}{A:Around}(r:Room k A)(h:j<=k):Room j A:=⟨r.hd,by have:=r.dp;omega,by have:=r.un;omega⟩
theorem Room.deeper{k:Nat}{A:Around}(r:Room (k+1) A)(env:Env):Room k (A.deeper env):=
 ⟨r.hd,by have:=r.dp;show A.depth+1+3*k+5<_;omega,by have:=r.un;show A.units+3+16*k+200<_;omega⟩
theorem wT{A:Around}{C:Addr}{us:List Value}{kw:List (Str×Value)}:(A.under (.builtin "type.__call__" ⟨.ref C::us,kw⟩)).depth=A.depth+1:=by
 first|rfl|simp[Around.under,Code.weight,Code.isCreation,Code.isGuard,Code.isCaller,Code.frames,Code.isFrame,guardIds]
theorem wS{A:Around}{C:Addr}{us:List Value}{kw:List (Str×Value)}:(A.under (.builtin "type.__call__" ⟨.ref C::us,kw⟩)).units=A.units+1:=by
 first|rfl|simp[Around.under,Code.cUnits,Code.frames,Code.isFrame]
theorem Room.make{k:Nat}{A:Around}(r:Room (k+1) A)(C:Addr)(us:List Value)(kw:List (Str×Value)):Room k (A.under (.builtin "type.__call__" ⟨.ref C::us,kw⟩)):=
 ⟨r.hd,by have:=r.dp;rw[wT];omega,by have:=r.un;rw[wS];omega⟩
theorem Room.depth{k:Nat}{A:Around}(r:Room k A):A.depth<recursionLimit:=by have:=r.dp;omega
theorem Room.units{k:Nat}{A:Around}(r:Room k A):A.units+64<cLine:=by have:=r.un;omega
def NU:TA:=fun _ H Q=>Q [] H
def LJ(ta:TE)(tr:TA):TA:=fun σ H Q=>ta σ H fun x H1=>tr σ H1 fun xs H2=>Q (x::xs) H2
section
variable{X:Cx}{e:Expr}{es:List Expr}{te:TE}{t:TA}{pos:Pos}
theorem ki:PA X [] NU:=fun _ _ _ _ H Q I h=>Calls.spliced_nil ⟨[],H,I,.nil,h⟩
theorem gQ(ha:PE X e te)(hr:PA X es t)(hs:starEach (e::es) X.env=(false,eval e X.env)::starEach es X.env:=by rfl):PA X (e::es) (LJ te t):=by
 intro pos pins s σ H Q I h;rw[hs];show wpAny _ _ (spliced ((false,eval e X.env)::backTo pos (starEach es X.env))) _ _ s;refine Calls.spliced_cons (cm (ha pins s σ H _ I h) fun u s1 ⟨x,H1,I1,r1,q1⟩=>?_)
 exact cm (hr pos pins s1 σ H1 _ I1 q1) fun us s2 ⟨xs,H2,I2,r2,q2⟩=>⟨x::xs,H2,I2,.cons r1 r2,q2⟩
def NQ(t:TA):TE:=fun σ H Q=>t σ H fun xs H1=>xs.length<=sizeLine/\∀p,H1 p=none->Q (.ref p) (upd H1 p (.tup xs))
def NV(t:TA):TE:=fun σ H Q=>t σ H fun xs H1=>xs.length<=sizeLine/\∀p,H1 p=none->Q (.ref p) (upd H1 p (.lst xs))
theorem IC{x1}(h:PA X es t):PE X (.Tuple es x1 pos) (NQ t):=by
 intro pins s σ H Q I hq;refine wpAny_Tuple_spliced (cm (h pos pins s σ H _ I hq) fun us s1 ⟨xs,H1,I1,r,z,q⟩=>⟨by rw[<-r.length];exact z,?_⟩)
 have hf:H1 s1.heap.objs.size=none:=I1.hok.fresh (le_refl _);refine⟨.ref s1.heap.objs.size,upd H1 s1.heap.objs.size (.tup xs),I1.laid (t':=s1.toks) (fun b u e=>get?_push_of_some _ e) (le_refl _) ?_,rfl,q _ hf⟩;exact⟨z,us,r,⟨_,get?_push_size _ rfl,rfl,_,rfl⟩,NoDi.new _ _⟩
theorem wD(h:PA X es t):PE X (.List es pos) (NV t):=by
 intro pins s σ H Q I hq;refine wpAny_List_spliced (cm (h pos pins s σ H _ I hq) fun us s1 ⟨xs,H1,I1,r,z,q⟩=>⟨by rw[<-r.length];exact z,?_⟩)
 have hf:H1 s1.heap.objs.size=none:=I1.hok.fresh (le_refl _);refine⟨.ref s1.heap.objs.size,upd H1 s1.heap.objs.size (.lst xs),I1.laid (t':=s1.toks) (fun b u e=>get?_push_of_some _ e) (le_refl _) ?_,rfl,q _ hf⟩;exact⟨z,us,0,r,get?_push_size _ rfl⟩
end
abbrev Sp:=List V->Hp->VK->XK->Prop
abbrev zy:=List Env->Hp->Shared->XK->Value->Shared->Prop
structure Env0 (P:Program) (w:World) (K:PySem.W.Frag) (mg:Str->Option Value) (base:Heap) (A:Around) (outer:List Env) (s:Shared) (H:Hp):Prop where
 frames:A.frames=some outer
 mod:Mod K mg base
 bs:∀b o,base.get? b=some o->s.heap.get? b=some o/\H b=none
 bsz:base.objs.size<=s.heap.objs.size
 funs:s.heap.FunFrames base outer
 frf:∀b∈A0 outer,H b=none
 hok:HOk P w H s.heap
 bare:AllBare s.gens
def CE(outer:List Env)(P:Program)(w:World)(H:Hp)(s:Shared)(Q:VK)(u:Value)(s':Shared):Prop:=
 ∃v H',s'.os=s.os/\AllBare s'.gens/\Un (A0 outer) [] H H' s.heap s'.heap/\HOk P w H' s'.heap/\RelV v u/\Q v H'
def CR(CX:zy)(outer:List Env)(P:Program)(w:World)(H:Hp)(s:Shared)(Q:VK)(E:XK)(r:Result)(s':Shared):Prop:=
 match r with
 |.ok (.ret u)=>CE outer P w H s Q u s'
 |.ok _=>False
 |.error e=>CX outer H s E e s'
structure FnOk (P:Program) (w:World) (K:PySem.W.Frag) (mg:Str->Option Value) (base:Heap) (CX:zy) (k:Nat) (f:Addr) (fd:FuncData) (ps:List Str) (sp:Sp):Prop where
 len:∀vs H Q E,sp vs H Q E->vs.length=ps.length
 run:∀(A:Around) (outer:List Env) (s:Shared) (H:Hp) (args:Args) (us:List Value) (vs:List V) (Q:VK) (E:XK),Room k A->Env0 P w K mg base A outer s H->BindsTo s fd args (ps.zip us)->Vals vs us->sp vs H Q E ->
  codeAny (model P w) A (.call (.ref f) args) (CR CX outer P w H s Q E) s
theorem FnOk.imp{P:Program}{w:World}{K:PySem.W.Frag}{mg:Str->Option Value}{base:Heap}{CX:zy}{k:Nat}{f:Addr}{fd:FuncData}{ps:List Str}{sp sp':Sp}(F:FnOk P w K mg base CX k f fd ps sp)
  (h:∀vs H Q E,sp' vs H Q E->sp vs H Q E):FnOk P w K mg base CX k f fd ps sp':=
 ⟨fun vs H Q E q=>F.len vs H Q E (h _ _ _ _ q),fun A outer s H args us vs Q E hr he hb hv hs=>F.run A outer s H args us vs Q E hr he hb hv (h _ _ _ _ hs)⟩
theorem Env0.make{P:Program}{w:World}{K:PySem.W.Frag}{mg:Str->Option Value}{base:Heap}{A:Around}{outer:List Env}{s:Shared}{H:Hp}(e:Env0 P w K mg base A outer s H)(C:Addr)(us:List Value)(kw:List (Str×Value)):
  Env0 P w K mg base (A.under (.builtin "type.__call__" ⟨.ref C::us,kw⟩)) outer s H:=⟨by first|exact e.frames|(simpa[Around.under,Code.envs,Code.isFrame,pushEnvs]using e.frames),e.mod,e.bs,e.bsz,e.funs,e.frf,e.hok,e.bare⟩
section
variable{X:Cx}{pins:List (Addr×Obj)}{σ:St}{H:Hp}{s s':Shared}
theorem Inv.env0(I:Inv X pins σ H s):Env0 X.prog X.w X.K X.mg X.base X.A X.stack s H:=
 ⟨I.ok.frames,I.ok.mod,I.bs,le_trans I.ok.bsz I.sz,I.stack,I.stkFree,I.hok,I.bare⟩
theorem Inv.after{Q:VK}{u:Value}(I:Inv X pins σ H s)(h:CE X.stack X.prog X.w H s Q u s'):EP X pins σ Q u s':=by
 obtain⟨v,H',os,bare,un,hok,r,q⟩:=h;obtain⟨hh,g,d,t,os'⟩:=s';obtain rfl:os'=s.os:=os;exact⟨v,H',I.call (h':=hh) (g':=g) (d':=d) (t':=t) (ch:=[]) un hok bare (fun b z=>absurd z (by simp)),r,q⟩
end
def LK(sp:Sp)(dvs:List V)(E:XK)(t:TA):TE:=fun σ H Q=>t σ H fun vs H1=>sp (vs++dvs) H1 Q E
def LF(C:Addr)(m:Str)(sp:Sp)(dvs:List V)(E:XK)(ta:TE)(t:TA):TE:=fun σ H Q=>ta σ H fun x H1=>∃a dx fs,x=.ref a/\H1 a=some (.ins C dx fs)/\fs.lookup m=none /\
 t σ H1 fun vs H2=>sp (x::(vs++dvs)) H2 Q E
def LG(C:Addr)(sp:Sp)(dvs:List V)(E:XK)(t:TA):TE:=fun σ H Q=>t σ H fun vs H1=>∀x dx,H1 x=none->H1 dx=none->dx≠x ->
 sp (.ref x::(vs++dvs)) (upd (upd H1 dx (.own x)) x (.ins C dx [])) (fun v H2=>v=.non/\Q (.ref x) H2) E
def Binds(K:PySem.W.Frag)(fd:FuncData)(ps:List Str)(ds:List Value):Prop:=
 ∀(s:Shared) (us:List Value),K.In s.heap->(us++ds).length=ps.length->BindsTo s fd ⟨us,[]⟩ (ps.zip (us++ds))
theorem Binds.all{K:PySem.W.Frag}{fd:FuncData}{ps:List Str}(h:∀us:List Value,us.length=ps.length->bindArgs fd ⟨us,[]⟩=pure (ps.zip us)):Binds K fd ps []:=fun s us _ hl=>by
 rw[List.append_nil]at hl ⊢;exact .of_eq (h us hl)
def kC(CX:zy)(X:Cx)(E:XK):Prop:=∀(pins:List (Addr×Obj)) (σ:St) (H:Hp) (s:Shared) (e:Value) (s':Shared),Inv X pins σ H s->CX X.stack H s E e s'->X.xe e s'
section
variable{X:Cx}{CX:zy}{k:Nat}{f C:Addr}{fd:FuncData}{ps:List Str}{sp:Sp}{dvs:List V}{ds:List Value}{E:XK}{x m:Str}{p pos apos:Pos}{e o:Expr}{es:List Expr}{ta:TE}{t:TA}
theorem BG{pins:List (Addr×Obj)}{σ:St}{H:Hp}{s:Shared}{Q:VK}{us:List Value}{vs:List V}(F:FnOk X.prog X.w X.K X.mg X.base CX k f fd ps sp)(hr:Room k X.A)(hb:Binds X.K fd ps ds)(hd:Vals dvs ds)(hx:kC CX X E)
  (I:Inv X pins σ H s) (r:Vals vs us) (h:sp (vs++dvs) H Q E):wpAny (model X.prog X.w) X.A (call (.ref f) us) (EP X pins σ Q) X.xe s:=by
 have r2:Vals (vs++dvs) (us++ds):=r.append hd;have hl:(us++ds).length=ps.length:=by rw[<-r2.length];exact F.len _ _ _ _ h
 refine wpAny_call (codeAny_mono (F.run X.A X.stack s H ⟨us,[]⟩ (us++ds) (vs++dvs) Q E hr I.env0 (hb s us I.kIn hl) r2 h) fun r s' hq=>?_)
 cases r with
 |error e=>exact hx pins σ H s e s' I hq
 |ok fl=>
  cases fl with
  |ret u=>exact I.after hq
  |next=>exact False.elim hq
  |brk=>exact False.elim hq
  |cont=>exact False.elim hq
theorem Fb(F:FnOk X.prog X.w X.K X.mg X.base CX k f fd ps sp)(hr:Room k X.A)(hg:Gl X x)(hm:X.mg x=some (.ref f))(hk:keepIn X.K (.ref f)=true)(hb:Binds X.K fd ps ds)(hd:Vals dvs ds)(hx:kC CX X E)
  (ha:PA X (e::es) t) (hdb:(x==("__debug__":Str))=false:=by decide) (he:starEach (e::es) X.env=(false,eval e X.env)::starEach es X.env:=by rfl) (hpl:(backTo pos (starEach es X.env)).any (·.1)=false:=by rfl) :
  PE X (.Call (.Name x p) (e::es) [] pos) (LK sp dvs E t):=by
 intro pins s σ H Q I h;refine wpAny_Call_Name_kw (tW I hg hm ?_ hdb);refine callWith_K (h₀:=X.base) I.ok.mod.kin hk (cm (ha pos pins s σ H _ I h) fun us s1 ⟨vs,H1,I1,r,q⟩=>⟨I1.kIn,?_⟩) he hpl
 exact BG F hr hb hd hx I1 r q
theorem E4{pl:Sem Bool}(he:PE X o ta)(c:Cls X.K C)(hm:Meth X.K C m f)(F:FnOk X.prog X.w X.K X.mg X.base CX k f fd ps sp)(hr:Room k X.A)(hb:Binds X.K fd ps ds)(hd:Vals dvs ds)(hx:kC CX X E)(ha:PA X (e::es) t)
  (hst:starEach (e::es) X.env=(false,eval e X.env)::starEach es X.env:=by rfl) (hpl:(backTo pos (starEach es X.env)).any (·.1)=false:=by rfl)
  (ht:eval (.Call (.Attribute o m apos) (e::es) [] pos) X.env=(do
   let ov <-eval o X.env
   standAt apos.atName
   let (f,first) <-holding [ov] (getMethod ov m pl)
   callWith pos f first (backTo pos (starEach (e::es) X.env)) (backToKw pos (keywordEach [] X.env))):=by rfl) :
  PE X (.Call (.Attribute o m apos) (e::es) [] pos) (LF C m sp dvs E ta t):=by
 intro pins s σ H Q I h;refine PySem.W.methodCall_KW (pl:=pl) (cm (he pins s σ H _ I h) fun u s1 ⟨x,H1,I1,rx,a,dx,fs,ex,ea,l,q⟩=>?_) ht
 subst ex;obtain rfl:u=Value.ref a:=rx;refine xh I1 ea c hm l ?_;refine callWith_K (first:=[.ref a]) (h₀:=X.base) I.ok.mod.kin hm.kp (cm (ha pos pins s1 σ H1 _ I1 q) fun us s2 ⟨vs,H2,I2,r,q2⟩=>⟨I2.kIn,?_⟩) hst hpl
 exact BG (us:=.ref a::us) (vs:=.ref a::vs) F hr hb hd hx I2 (.cons rfl r) q2
structure Mk (K:PySem.W.Frag) (C f:Addr):Prop where
 makes:makesIn K C=true
 init:findIn K (.ref C) "__init__" = some (some (.ref f))
 fn:PySem.W.isFn K (.ref f)=true
 kp:keepIn K (.ref C)=true
theorem BF{pins:List (Addr×Obj)}{σ:St}{H:Hp}{s:Shared}{Q:VK}{us:List Value}{vs:List V}(M:Mk X.K C f)(F:FnOk X.prog X.w X.K X.mg X.base CX k f fd ps sp)(hr:Room (k+1) X.A)(hb:Binds X.K fd ps ds)(hd:Vals dvs ds)
  (hx:kC CX X E) (I:Inv X pins σ H s) (r:Vals vs us)
  (h:∀x dx,H x=none->H dx=none->dx≠x->sp (.ref x::(vs++dvs)) (upd (upd H dx (.own x)) x (.ins C dx [])) (fun v H2=>v=.non/\Q (.ref x) H2) E) :
  wpAny (model X.prog X.w) X.A (call (.ref C) us) (EP X pins σ Q) X.xe s:=by
 have hq:=h (s.heap.objs.size+1) s.heap.objs.size (I.hok.fresh (Nat.le_succ _)) (I.hok.fresh (le_refl _)) (ne_of_lt (Nat.lt_succ_self _));have I2:=Inv.made (C:=C) I;have r2:Vals (V.ref (s.heap.objs.size+1)::(vs++dvs)) (Value.ref (s.heap.objs.size+1)::(us++ds)):=.cons rfl (r.append hd);have hl:(Value.ref (s.heap.objs.size+1)::us++ds).length=ps.length:=by
  have e:=r2.length;rw[F.len _ _ _ _ hq]at e;exact e.symm
 refine wpAny_call (CB (f:=f) I.kIn M.makes M.init (beq_iff_eq.mp M.fn) (codeAny_mono (F.run _ X.stack _ _ ⟨Value.ref (s.heap.objs.size+1)::us,[]⟩ (Value.ref (s.heap.objs.size+1)::(us++ds)) _ _ E (hr.make C us [])
  (I2.env0.make C us []) (hb _ (Value.ref (s.heap.objs.size+1)::us) I2.kIn hl) r2 hq) fun r s' hq'=>?_))
 cases r with
 |error e=>exact hx pins σ _ _ e s' I2 hq'
 |ok fl=>
  cases fl with
  |ret u=>
   obtain⟨v,H',I3,rv,ev,q3⟩:=I2.after hq';subst ev;exact⟨rv,⟨V.ref (s.heap.objs.size+1),H',I3,rfl,q3⟩⟩
  |next=>exact False.elim hq'
  |brk=>exact False.elim hq'
  |cont=>exact False.elim hq'
theorem E5(M:Mk X.K C f)(F:FnOk X.prog X.w X.K X.mg X.base CX k f fd ps sp)(hr:Room (k+1) X.A)(hg:Gl X x)(hm:X.mg x=some (.ref C))(hb:Binds X.K fd ps ds)(hd:Vals dvs ds)(hx:kC CX X E)
  (ha:PA X (e::es) t) (hdb:(x==("__debug__":Str))=false:=by decide) (he:starEach (e::es) X.env=(false,eval e X.env)::starEach es X.env:=by rfl) (hpl:(backTo pos (starEach es X.env)).any (·.1)=false:=by rfl) :
  PE X (.Call (.Name x p) (e::es) [] pos) (LG C sp dvs E t):=by
 intro pins s σ H Q I h;refine wpAny_Call_Name_kw (tW I hg hm ?_ hdb);refine callWith_K (h₀:=X.base) I.ok.mod.kin M.kp (cm (ha pos pins s σ H _ I h) fun us s1 ⟨vs,H1,I1,r,q⟩=>⟨I1.kIn,?_⟩) he hpl
 exact BF M F hr hb hd hx I1 r q
end
structure FnScope (N P:List Str) (sc:Scope):Prop where
 kind:sc.kind=.function
 co:sc.isCoroutine=false
 gen:sc.isGenerator=false
 nd:N.Nodup
 pre:N.take P.length=P
 par:∀x∈P,sc.names.lookup x=some .local\/sc.names.lookup x=some .cell
 nofree:∀y∈sc.names,y.2≠.free
theorem sx{kindOf:Str->Option NameKind}{x:Str}:∀{binds:List (Str×Value)} {m:Str->Option Value},(∀v,(x,v) ∉ binds)->bindL kindOf binds m x=m x
 |[],_,_=>rfl
 | (n,v)::r,m,h=>by
  unfold bindL;rw[sx fun w hw=>h w (mem_cons_of_mem _ hw)]
  split
  ·have:x≠n:=by rintro rfl;exact h v List.mem_cons_self
   simp[this]
  ·rfl
theorem sA{kindOf:Str->Option NameKind}{x:Str}:∀{binds:List (Str×Value)} {m:Str->Option Value},(∀v,(x,v) ∉ binds)->bindC kindOf binds m x=m x
 |[],_,_=>rfl
 | (n,v)::r,m,h=>by
  unfold bindC;rw[sA fun w hw=>h w (mem_cons_of_mem _ hw)]
  split
  ·rfl
  ·have:x≠n:=by rintro rfl;exact h v List.mem_cons_self
   simp[this]
theorem sy{kindOf:Str->Option NameKind}{x:Str}{v:Value}:∀{P:List Str} {vs:List Value} {i:Nat} {m:Str->Option Value},P.Nodup->P[i]? = some x->vs[i]? = some v->kindOf x=some .local ->
  bindL kindOf (P.zip vs) m x=some v
 |[],_,_,_,_,h,_,_=>by simp at h
 |_::_,[],_,_,_,_,h,_=>by simp at h
 |p::P,w::vs,0,m,nd,h1,h2,hk=>by
  simp at h1 h2;subst h1;subst h2;show bindL kindOf ((p,w)::P.zip vs) m p=_;unfold bindL;rw[sx fun v hv=>(List.nodup_cons.mp nd).1 (List.of_mem_zip hv).1,if_pos hk]
  simp
 |p::P,w::vs,i+1,m,nd,h1,h2,hk=>by
  show bindL kindOf ((p,w)::P.zip vs) m x=_;unfold bindL;exact sy (i:=i) (List.nodup_cons.mp nd).2 (by simpa using h1) (by simpa using h2) hk
theorem sB{kindOf:Str->Option NameKind}{x:Str}{v:Value}:∀{P:List Str} {vs:List Value} {i:Nat} {m:Str->Option Value},P.Nodup->P[i]? = some x->vs[i]? = some v->kindOf x≠some .local ->
  bindC kindOf (P.zip vs) m x=some v
 |[],_,_,_,_,h,_,_=>by simp at h
 |_::_,[],_,_,_,_,h,_=>by simp at h
 |p::P,w::vs,0,m,nd,h1,h2,hk=>by
  simp at h1 h2;subst h1;subst h2;show bindC kindOf ((p,w)::P.zip vs) m p=_;unfold bindC;rw[sA fun v hv=>(List.nodup_cons.mp nd).1 (List.of_mem_zip hv).1,if_neg hk]
  simp
 |p::P,w::vs,i+1,m,nd,h1,h2,hk=>by
  show bindC kindOf ((p,w)::P.zip vs) m x=_;unfold bindC;exact sB (i:=i) (List.nodup_cons.mp nd).2 (by simpa using h1) (by simpa using h2) hk
noncomputable def start(N:List Str)(vs:List V):St:=vs.map some++List.replicate (N.length-vs.length) none
noncomputable def ue(CX:zy)(P:Program)(w:World)(K:PySem.W.Frag)(mg:Str->Option Value)(base:Heap)(N:List Str)(qual:Str)(scope:Scope)(f:Addr)(cd:Value)(A:Around)(outer:List Env)(s:Shared)(H:Hp)(E:XK):Cx where
 prog:=P
 w:=w
 K:=K
 mg:=mg
 base:=base
 A:=A.deeper (envOfC qual scope s.heap.objs.size f cd)
 N:=N
 s₀:=s
 H₀:=H
 env:=envOfC qual scope s.heap.objs.size f cd
 outer:=outer
 stack:=envOfC qual scope s.heap.objs.size f cd::outer
 ex:=[]
 calm:=true
 fn:=fun _=>true
 pn:=[]
 xe:=fun e s'=>wpAny (model P w) (A.deeper (envOfC qual scope s.heap.objs.size f cd)) (leaving (envOfC qual scope s.heap.objs.size f cd) e) (fun _ s''=>CX outer H s E e s'') (fun e' s''=>CX outer H s E e' s'') s'
theorem vP{sc:Scope}{n:Nat}{x:Str}(h:sc.names.lookup x=some .cell):∃c,(cellsFrom n sc.names []).lookup x=some c:=by
 have q:=PySem.W.cellsFrom_some sc.names n [] (.inl h);exact Option.isSome_iff_exists.mp q
theorem Az{CX:zy}{P:Program}{w:World}{K:PySem.W.Frag}{mg:Str->Option Value}{base:Heap}{N ps:List Str}{qual:Str}{scope:Scope}{f:Addr}{cd:Value}{A:Around}{outer:List Env}{s s1:Shared}{H:Hp}{E:XK}{us:List Value}{vs:List V}
  (S:FnScope N ps scope) (hd:A.handled=none) (e0:Env0 P w K mg base A outer s H) (hl:vs.length=ps.length) (r:Vals vs us)
  (x:InCallC s s.heap.objs.size (bindL (envOfC qual scope s.heap.objs.size f cd).kindOf (ps.zip us) fun _=>none) (cellsFrom (s.heap.objs.size+1) scope.names []) (bindC (envOfC qual scope s.heap.objs.size f cd).kindOf (ps.zip us) fun _=>none) s1) :
  Inv (ue CX P w K mg base N qual scope f cd A outer s H E) [] (start N vs) H s1:=by
 have hpl:ps.length<=N.length:=by have:=congrArg List.length S.pre;rw[List.length_take]at this;omega
 obtain⟨h1,tk,rfl,hk⟩:=x.done;have noA:∀b:Addr,b ∉ (ue CX P w K mg base N qual scope f cd A outer s H E).ex:=fun b z=>absurd (show b∈([]:List Addr)from z) (by simp)
 refine⟨⟨e0.mod,S.kind,rfl,rfl,le_refl _,fun y z c h1 h2=>?_,fun y hy=>?_,fun y c _ h=>?_,fun _=>hd,Around.frames_deeper e0.frames,.inr ⟨rfl,rfl⟩,fun b z=>absurd z (noA b),e0.bs,e0.bsz,fun b _ _=>noA b,fun b z=>absurd z (noA b),e0.funs,e0.frf⟩,
  rfl,e0.bare,Un.kept hk,⟨_,x.toInCall.ns,fun i y v h1 h2 h3=>?_⟩,fun y c h=>⟨_,x.cell y c h⟩,e0.hok.fresh (le_refl _),fun y c h=>?_,fun p hp=>absurd (show p∈([]:List (Addr×Obj))from hp) (by simp),e0.hok.kept hk,?_⟩
 ·exact name_of_addr x.apart (PySem.mem_of_lookup h1) (PySem.mem_of_lookup h2)
 ·have hy:scope.names.lookup y=some .cell\/scope.names.lookup y=some .free:=hy
  rcases hy with hy|hy
  ·exact vP hy
  ·exact absurd rfl (S.nofree _ (PySem.mem_of_lookup hy))
 ·exact Nat.le_of_lt (x.above y c (PySem.mem_of_lookup h))
 ·have hi:i<vs.length:=by
   unfold start at h2;by_cases hi:i<vs.length
   ·exact hi
   ·rw[List.getElem?_append_right (by simpa using hi)]at h2
    rw[List.getElem?_replicate]at h2;split at h2<;>cases h2
  have ha:vs[i]? = some v:=by
   unfold start at h2;rw[List.getElem?_append_left (by simpa using hi),List.getElem?_map]at h2;cases e:vs[i]? with
   |none=>rw[e]at h2;cases h2
   |some a=>rw[e]at h2;cases h2;rfl
  obtain⟨u,hu,rv⟩:=r.get ha;have hp:ps[i]? = some y:=by
   rw[<-S.pre,List.getElem?_take_of_lt (by omega)];exact h1
  have ndP:ps.Nodup:=by rw[<-S.pre];exact S.nd.sublist (List.take_sublist _ _)
  refine⟨u,rv,?_⟩;rcases S.par y (List.mem_of_getElem? hp)with k|k
  ·exact .inl ⟨k,sy ndP hp hu k⟩
  ·obtain⟨c,e⟩:=vP (n:=s.heap.objs.size+1) k
   refine .inr ⟨.inl k,c,e,?_⟩;have q:=x.cell y c e;rw[sB ndP hp hu (by show scope.names.lookup y≠_;rw[k];decide)]at q;exact q
 ·exact e0.hok.fresh (Nat.le_of_lt (x.above y c (PySem.mem_of_lookup h)))
 ·unfold start
  show _=N.length;rw[List.length_append,List.length_map,List.length_replicate];omega
theorem Dg{CX:zy}{P:Program}{w:World}{K:PySem.W.Frag}{mg:Str->Option Value}{base:Heap}{k:Nat}{f:Addr}{name qual:Str}{params:Arguments}{body:List Stmt}{scope:Scope}{dV kV doc pm cdv ct oc:Value}{an od:Option Addr}
  {osl:Array (Option Value)} {N ps:List Str} {sp:Sp} (lk:K.lookup f=some ⟨oc,od,.func (PySem.W.fnOf name qual params body scope dV kV doc pm an cdv ct),osl⟩) (hcd:PySem.W.codeIn K cdv qual=true) (S:FnScope N ps scope)
  (len:∀vs H Q E,sp vs H Q E->vs.length=ps.length)
  (hbody:∀(A:Around) (outer:List Env) (s:Shared) (H:Hp) (vs:List V) (Q:VK) (E:XK),Room k (A.deeper (envOfC qual scope s.heap.objs.size f cdv))->sp vs H Q E ->
   ∃t,PSs (ue CX P w K mg base N qual scope f cdv A outer s H E) body t/\t { nx:=fun _ H'=>Q .non H',rt:=Q } (start N vs) H) :
  FnOk P w K mg base CX (k+1) f (PySem.W.fnOf name qual params body scope dV kV doc pm an cdv ct) ps sp:=by
 refine⟨len,fun A outer s H args us vs Q E hr e0 hb r hsp=>?_⟩
 have hl:=len _ _ _ _ hsp;have KX:K.In s.heap:=e0.mod.kin.keeps fun b o e=>(e0.bs b o e).1
 have lim:s.heap.NoLimit:=e0.mod.nolimit.keeps fun b o e=>(e0.bs b o e).1
 have hkind:∀y∈ps.zip us,scope.names.lookup y.1=some .local\/(scope.names.lookup y.1=some .cell/\((cellsFrom (s.heap.objs.size+1) scope.names []).lookup y.1).isSome=true):=fun⟨n,v⟩ hy=>by
  rcases S.par n (List.of_mem_zip hy).1 with q|q
  ·exact .inl q
  ·exact .inr ⟨q,PySem.W.cellsFrom_some _ _ _ (.inl q)⟩
 refine codeAny_call_function hr.depth (KX _ _ lk) rfl S.co S.gen rfl (PySem.W.codeRec_of KX hcd) (hb _ _ _ _ ?_);refine wpAny_newFunctionEnv_cells S.kind hkind fun env he s1 x=>?_
 subst he;refine⟨lim.keeps x.toInCall.keep,codeAny_func ?_⟩;obtain⟨t,ht,hq⟩:=hbody A outer s H vs Q E (hr.deeper _) hsp;have I:Inv (ue CX P w K mg base N qual scope f cdv A outer s H E) [] (start N vs) H s1:=Az S hr.hd e0 hl r x;refine wpAny_mono (ht [] s1 (start N vs) H _ I hq) (fun fl s' hs=>?_) fun e s' hs=>hs
 have fin:∀{σ':St} {H':Hp} {v:V} {u:Value},Inv (ue CX P w K mg base N qual scope f cdv A outer s H E) [] σ' H' s'->RelV v u->Q v H'->CE outer P w H s Q u s':=
  fun{σ' H' v u} J rv q=>⟨v,H',J.os,J.bare,J.base,J.hok,rv,q⟩
 cases fl with
 |ret u=>
  obtain⟨v,σ',H',J,rv,q⟩:=hs;exact fin J rv q
 |next=>
  obtain⟨σ',H',J,q⟩:=hs;exact fin (v:=V.non) (u:=Value.none) J rfl q
 |brk=>
  obtain⟨_,_,_,q⟩:=hs;exact False.elim q
 |cont=>
  obtain⟨_,_,_,q⟩:=hs;exact False.elim q
section
variable{X:Cx}{x:Str}{p pos:Pos}{e:Expr}{es:List Expr}{t:TA}{id T:String}{r:List V->Hp->VK->Prop}
def Pn(r:List V->Hp->VK->Prop)(t:TA):TE:=fun σ H Q=>t σ H fun vs H1=>r vs H1 Q
theorem vb(hc:CallR X (.builtin id) r)(hg:Gl X x)(hm:X.mg x=none)(hv:bootBuiltins x=some (.builtin id))(ha:PA X (e::es) t)(hn:x ≠ "__name__":=by decide)(hdb:(x==("__debug__":Str))=false:=by decide)
  (he:starEach (e::es) X.env=(false,eval e X.env)::starEach es X.env:=by rfl) (hpl:(backTo pos (starEach es X.env)).any (·.1)=false:=by rfl):PE X (.Call (.Name x p) (e::es) [] pos) (Pn r t):=by
 intro pins s σ H Q I h;refine wpAny_Call_Name_kw (iU I hg hm hv ?_ hn hdb);exact PyProof.Rows.callWith_builtin1 (cm (ha pos pins s σ H _ I h) fun us s1 ⟨vs,H1,I1,r1,q1⟩=>hc pins s1 σ H1 vs us Q I1 r1 q1) he hpl
theorem rR(hc:CallR X (.type T) r)(hg:Gl X x)(hm:X.mg x=none)(hv:bootBuiltins x=some (.type T))(ha:PA X (e::es) t)(hn:x ≠ "__name__":=by decide)(hdb:(x==("__debug__":Str))=false:=by decide)
  (he:starEach (e::es) X.env=(false,eval e X.env)::starEach es X.env:=by rfl) (hpl:(backTo pos (starEach es X.env)).any (·.1)=false:=by rfl):PE X (.Call (.Name x p) (e::es) [] pos) (Pn r t):=by
 intro pins s σ H Q I h;refine wpAny_Call_Name_kw (iU I hg hm hv ?_ hn hdb);exact PyProof.Rows.callWith_type1 (cm (ha pos pins s σ H _ I h) fun us s1 ⟨vs,H1,I1,r1,q1⟩=>hc pins s1 σ H1 vs us Q I1 r1 q1) he hpl
end
end L2
namespace HT
open PySem PyProof.Rows
section
variable{prog:Program}{w:World}{A:Around}{E:Value->Shared->Prop}{s:Shared}
theorem GE{t b:Addr}{vs ws:List Value}{Q:Value->Shared->Prop}(ht:IsTup s.heap t vs.toArray)(hb:IsTup s.heap b ws.toArray)(hv:vs≠[])
  (h1:ws=[]->Q (.ref t) s) (h2:ws≠[]->Q (.ref s.heap.objs.size) { s with heap:=s.heap.push { cls:=.type "tuple",data:=.seq (vs++ws).toArray } })
  (hsz:vs.length+ws.length<=sizeLine):wpAny (model prog w) A (binaryOp .Add (.ref t) (.ref b)) Q E s:=by
 obtain⟨⟨cls,dd,data,sl⟩,ho,hc,n,hd⟩:=id ht;obtain⟨⟨cls2,dd2,data2,sl2⟩,ho2,hc2,n2,hd2⟩:=id hb;simp only at hc hd hc2 hd2;subst hc hd hc2 hd2;have e:vs.toArray++ws.toArray=(vs++ws).toArray:=by simp
 by_cases hw:ws=[]
 ·exact concat_meets ⟨_,ho,rfl⟩ ⟨_,ho2,rfl⟩ noFill_tuple_add seq_tuple_add PySem.F.slot_tuple_add PySem.F.entry_tuple_add (PySem.F.args_tuple_add_2 _ _)
   (tuple_addW1 t b vs.toArray ws.toArray n n2 dd dd2 sl sl2 (by simpa using hv) (by simp[hw])) ⟨ho,ho2,h1 hw⟩
 ·refine concat_meets ⟨_,ho,rfl⟩ ⟨_,ho2,rfl⟩ noFill_tuple_add seq_tuple_add PySem.F.slot_tuple_add PySem.F.entry_tuple_add (PySem.F.args_tuple_add_2 _ _)
   (tuple_addW2 t b vs.toArray ws.toArray n n2 dd dd2 sl sl2 (by simpa using hv) (by simpa using hw) (by rw[List.size_toArray,List.size_toArray];exact hsz)) ⟨ho,ho2,?_⟩
  rw[e];exact h2 hw
noncomputable def sIx(n d:Nat):Option Int->Nat
 |none=>d
 |some v=>if v<0 then(v+(n:Int)).toNat else min v.toNat n
theorem uY(n d:Nat):sIx n d none=d:=rfl
theorem yi(n d k:Nat):sIx n d (some (k:Int))=min k n:=by
 show(if(k:Int)<0 then((k:Int)+(n:Int)).toNat else min (k:Int).toNat n)=min k n;rw[if_neg (by omega),Int.toNat_natCast]
theorem Ig(n d:Nat)(hd:d<=n)(o:Option Int):sIx n d o<=n:=by
 cases o with
 |none=>exact hd
 |some v=>
  show(if v<0 then(v+(n:Int)).toNat else min v.toNat n)<=n;by_cases hv:v<0
  ·rw[if_pos hv];omega
  ·rw[if_neg hv];exact Nat.min_le_right _ _
theorem zf(v:Int)(n d:Nat):(if v<0 then max (v+(n:Int)) 0 else min v (n:Int))=((sIx n d (some v):Nat):Int):=by
 show(if v<0 then max (v+(n:Int)) 0 else min v (n:Int))=(((if v<0 then(v+(n:Int)).toNat else min v.toNat n):Nat):Int);by_cases hv:v<0
 ·simp only[if_pos hv];omega
 ·simp only[if_neg hv];omega
theorem xH(lo hi:Option Int)(n:Nat):Builtin.Slice.sliceAdjust lo hi 1 (n:Int)=(((sIx n 0 lo:Nat):Int),((sIx n n hi:Nat):Int)):=by
 have h1:¬((1:Int)<0):=by omega
 unfold Builtin.Slice.sliceAdjust;simp only[h1,if_false];refine Prod.ext ?_ ?_
 ·cases lo with
  |none=>rfl
  |some v=>exact zf v n 0
 ·cases hi with
  |none=>rfl
  |some v=>exact zf v n n
theorem wB(i j:Nat):Builtin.Slice.slicePlaces (i:Int) (j:Int) 1=j-i:=by
 unfold Builtin.Slice.slicePlaces;have h1:(1:Int)>0:=by omega
 simp only[h1,if_true,Int.ediv_one];split<;>omega
theorem oH{v:Value}{o:Option Int}{Q:Option Int->Shared->Prop}(p:IsPart v o)(h:Q o s):wpAny (model prog w) A (Builtin.Slice.slicePartIndex v) Q E s:=by
 cases p with
 |none=>exact slicePart_none h
 |int i t=>exact slicePart_int h
theorem ik{sl:Addr}{vl vu:Value}{lo hi:Option Int}{n:Nat}{Q:Int×Int×Nat->Shared->Prop}(hs:s.heap.IsSliceOf sl vl vu .none)(pl:IsPart vl lo)(pu:IsPart vu hi)
  (h:Q (((sIx n 0 lo:Nat):Int),1,sIx n n hi-sIx n 0 lo) s):wpAny (model prog w) A (Builtin.Slice.sliceApplied (.ref sl) (pure (n:Int))) Q E s:=by
 obtain⟨os,hos,hcs,hds⟩:=id hs;unfold Builtin.Slice.sliceApplied Builtin.Slice.sliceFields;refine wpAny_bind (wpAny_bind (wpAny_field hos hds (x:=vl) rfl (wpAny_bind (wpAny_field hos hds (x:=vu) rfl (wpAny_bind (wpAny_field hos hds (x:=.none) rfl (wpAny_pure ?_)))))));refine wpAny_bind (slicePart_none ?_);show wpAny _ _ (if((1:Int)==0)=true then _ else _) _ _ s;rw[if_neg (by decide)];refine wpAny_bind (oH pl (wpAny_bind (oH pu (wpAny_bind (wpAny_pure ?_)))));show wpAny _ _ (match Builtin.Slice.sliceAdjust lo hi 1 (n:Int)with|(lo,hi)=>pure (lo,(1:Int),Builtin.Slice.slicePlaces lo hi 1)) _ _ s
 rw[xH lo hi n];show wpAny _ _ (pure (((sIx n 0 lo:Nat):Int),(1:Int),Builtin.Slice.slicePlaces ((sIx n 0 lo:Nat):Int) ((sIx n n hi:Nat):Int) 1)) _ _ s;rw[wB];exact wpAny_pure h
theorem B3(xs:Array Value)(i k:Nat):((List.range k).filterMap fun(m:Nat)=>xs[((i:Int)+(m:Int)*1).toNat]?).toArray=((xs.toList.drop i).take k).toArray:=by
 have e:(fun(m:Nat)=>xs[((i:Int)+(m:Int)*1).toNat]?)=fun m=>xs[i+m]?:=by
  funext m;have:((i:Int)+(m:Int)*1).toNat=i+m:=by omega
  rw[this]
 rw[e];have:=pick_run xs i k;rw[List.filterMap_map]at this;have e2:((fun x=>xs[x]?) ∘ fun x=>i+x)=fun m=>xs[i+m]?:=rfl
 rw[e2]at this;rw[this]
theorem lq{t sl:Addr}{items:Array Value}{vl vu:Value}{lo hi:Option Int}{Q:Value->Shared->Prop}(ht:IsTup s.heap t items)(hs:s.heap.IsSliceOf sl vl vu .none)(pl:IsPart vl lo)(pu:IsPart vu hi)
  (hw:¬(sIx items.size 0 lo=0/\sIx items.size items.size hi=items.size))
  (h:Q (.ref s.heap.objs.size) { s with heap:=s.heap.push { cls:=.type "tuple",data:=.seq ((items.toList.drop (sIx items.size 0 lo)).take (sIx items.size items.size hi-sIx items.size 0 lo)).toArray } })
  (hsz:items.size<=sizeLine):wpAny (model prog w) A (getItem (.ref t) (.ref sl)) Q E s:=by
 have htake:sizeOk (.seq ((items.toList.drop (sIx items.size 0 lo)).take (sIx items.size items.size hi-sIx items.size 0 lo)).toArray):=by
  show((items.toList.drop (sIx items.size 0 lo)).take (sIx items.size items.size hi-sIx items.size 0 lo)).toArray.size<=sizeLine;rw[List.size_toArray,List.length_take,List.length_drop,Array.length_toList];omega
 have hj:sIx items.size items.size hi<=items.size:=Ig _ _ (Nat.le_refl _) hi;obtain⟨os,hos,hcs,hds⟩:=id hs;have hTs:s.TypeIs (.ref sl) "slice":=⟨os,hos,hcs⟩;unfold getItem
 try with_reducible refine wpAny_holding ?_
 first|refine wpAny_bind (wpAny_pure ?_)|skip
 refine wpAny_bind (wpAny_sequenceKey ht.typeIs (by decide) ?_);refine wpAny_bind (wpAny_callSpecial?_slot (name:=Str.ofString "__getitem__") ht.typeIs PyProof.Rows.slot_tuple_getitem
  (wpAny_call_entry PyProof.Rows.slot_tuple_getitem ht.typeIs entry_tuple_getitem ?_ (args_tuple_getitem _ _)))
 show wpAny _ _ (Builtin.Tuple.tupleItemsOf (.ref t) >>= _) _ _ s;refine wpAny_bind (tupleItemsOf_ ht ?_);refine wpAny_bind (wpAny_typeOf hTs ?_);rw[if_pos (by decide)];refine wpAny_bind (ik hs pl pu ?_);have hno:¬((((sIx items.size 0 lo:Nat):Int)==0&&(1:Int)==1&&(sIx items.size items.size hi-sIx items.size 0 lo)==items.size)=true):=by
  intro q;rw[Bool.and_eq_true,Bool.and_eq_true]at q;have q1:((sIx items.size 0 lo:Nat):Int)=0:=eq_of_beq q.1.1;have q2:sIx items.size items.size hi-sIx items.size 0 lo=items.size:=eq_of_beq q.2;exact hw ⟨by omega,by omega⟩
 show wpAny _ _ (if(((sIx items.size 0 lo:Nat):Int)==0&&(1:Int)==1&&(sIx items.size items.size hi-sIx items.size 0 lo)==items.size)=true then _ else _) _ _ s;rw[if_neg hno,B3]
 first
  |exact wpAny_bind (m:=Builtin.Tuple.tupleExact _) (wpAny_newObj_type (wpAny_pure ⟨_,rfl,wpAny_pure h⟩) htake)
  |exact wpAny_bind (m:=Builtin.Tuple.tupleExact _) (wpAny_newObj_type (wpAny_bind (wpAny_pure (wpAny_pure ⟨_,rfl,wpAny_pure h⟩))) htake)
  |exact wpAny_bind (wpAny_bind (m:=Builtin.Tuple.tupleExact _) (wpAny_newObj_type (wpAny_pure (wpAny_pure ⟨_,rfl,wpAny_pure h⟩)) htake))
  |exact wpAny_bind (wpAny_bind (m:=Builtin.Tuple.tupleExact _) (wpAny_newObj_type (wpAny_pure ⟨_,rfl,wpAny_pure h⟩) htake))
end
end HT
namespace L2
open PySem PySem.Spec PyProof.Rows
open List (flatten_cons replicate_succ size_toArray)
open Nat (le_refl)
open PySem.Heap (get?_push_of_some)
abbrev TO:=St->Hp->(Option Int->Hp->Prop)->Prop
def PO(X:Cx)(e:Option Expr)(t:TO):Prop:=
 ∀(pins:List (Addr×Obj)) (s:Shared) (σ:St) (H:Hp) (Q:Option Int->Hp->Prop),Inv X pins σ H s->t σ H Q ->
  wpAny (model X.prog X.w) X.A (evalPart e X.env) (fun u s'=>∃o H',Inv X pins σ H' s'/\IsPart u o/\Q o H') X.xe s
def El:TO:=fun _ H Q=>Q none H
def LB(t:TE):TO:=fun σ H Q=>t σ H fun x H1=>∃i,x=.int i/\Q (some i) H1
section
variable{X:Cx}{e:Expr}{te:TE}{lo hi:Option Expr}{tl th:TO}{pos p2:Pos}
theorem E1:PO X none El:=by
 intro pins s σ H Q I h;rw[evalPart_none];exact wpAny_pure ⟨none,H,I,.none,h⟩
theorem EZ(h:PE X e te):PO X (some e) (LB te):=by
 intro pins s σ H Q I hw;rw[evalPart_some];refine cm (h pins s σ H _ I hw) fun u s1 ⟨x,H1,I1,r1,q1⟩=>?_
 obtain⟨i,rfl,q⟩:=q1;obtain⟨t,rfl⟩:=r1;exact⟨some i,H1,I1,.int i t,q⟩
def SlR(X:Cx)(r:V->Option Int->Option Int->Hp->VK->Prop):Prop:=
 ∀(pins:List (Addr×Obj)) (s:Shared) (σ:St) (H:Hp) (x:V) (v vl vu:Value) (lo hi:Option Int) (sl:Addr) (Q:VK),Inv X pins σ H s->RelV x v->s.heap.IsSliceOf sl vl vu .none->IsPart vl lo->IsPart vu hi->r x lo hi H Q ->
  ∃T id,typeLookup (.type T) "__getitem__" = pure (some (.builtin id))/\s.TypeIs v T/\wpAny (model X.prog X.w) X.A (getItem v (.ref sl)) (EP X pins σ Q) X.xe s
theorem SlR.or{r r':V->Option Int->Option Int->Hp->VK->Prop}(h:SlR X r)(h':SlR X r'):SlR X (fun x lo hi H Q=>r x lo hi H Q\/r' x lo hi H Q):=by
 intro pins s σ H x v vl vu lo hi sl Q I rx hs pl pu q;rcases q with q|q
 ·exact h pins s σ H x v vl vu lo hi sl Q I rx hs pl pu q
 ·exact h' pins s σ H x v vl vu lo hi sl Q I rx hs pl pu q
def PP(r:V->Option Int->Option Int->Hp->VK->Prop)(te:TE)(tl th:TO):TE:=fun σ H Q=>te σ H fun x H1=>tl σ H1 fun l H2=>th σ H2 fun u H3=>r x l u H3 Q
theorem B6{r:V->Option Int->Option Int->Hp->VK->Prop}(hr:SlR X r)(he:PE X e te)(hl:PO X lo tl)(hu:PO X hi th):PE X (.Subscript e (.Slice lo hi none p2) pos) (PP r te tl th):=by
 intro pins s σ H Q I h;refine Subscript_ (cm (he pins s σ H _ I h) fun v s1 ⟨x,H1,I1,r1,q1⟩=>?_)
 refine wpAny_Slice (cm (hl pins s1 σ H1 _ I1 q1) fun vl s2 ⟨l,H2,I2,pl,q2⟩=>cm (hu pins s2 σ H2 _ I2 q2) fun vu s3 ⟨u,H3,I3,pu,q3⟩=>?_)
 rw[evalPart_none];refine wpAny_pure ?_;have I4:Inv X pins σ H3 { s3 with heap:=s3.heap.push { cls:=.type "slice",data:=.fields #[vl,vu,.none] } }:=I3.kept (t':=s3.toks) fun b ob q=>get?_push_of_some _ q
 obtain⟨T,id,hT,ht,hg⟩:=hr pins { s3 with heap:=s3.heap.push { cls:=.type "slice",data:=.fields #[vl,vu,.none] } } σ H3 x v vl vu l u s3.heap.objs.size Q I4 r1 (Heap.IsSliceOf.new ..) pl pu q3;show wpAny (model X.prog X.w) X.A (subscriptTail e (.Slice lo hi none p2) v (.ref s3.heap.objs.size)) (EP X pins σ Q) X.xe { s3 with heap:=s3.heap.push { cls:=.type "slice",data:=.fields #[vl,vu,.none] } };exact tail_any (ops:=[.ref s3.heap.objs.size,v]) ht hT hg (by with_unfolding_all rfl)
noncomputable def q8(xs:List V)(lo hi:Option Int):List V:=(xs.drop (HT.sIx xs.length 0 lo)).take (HT.sIx xs.length xs.length hi-HT.sIx xs.length 0 lo)
theorem mU(xs:List V)(lo hi:Option Int):(q8 xs lo hi).length<=xs.length:=by
 unfold q8;rw[List.length_take,List.length_drop];omega
def Oa(K:PySem.W.Frag):V->Option Int->Option Int->Hp->VK->Prop:=fun x lo hi H Q=>∃a xs,x=.ref a/\SqT K H a xs /\
 ¬(HT.sIx xs.length 0 lo=0/\HT.sIx xs.length xs.length hi=xs.length)/\∀p,H p=none->Q (.ref p) (upd H p (.tup (q8 xs lo hi)))
theorem sl_tup:SlR X (Oa X.K):=by
 intro pins s σ H x v vl vu lo hi sl Q I rx hs pl pu h;obtain⟨a,xs,rfl,hx,hw,q⟩:=h;cases rx;obtain⟨its,r,ht,hz⟩:=I.tuple hx;have hlen:its.toArray.size=xs.length:=by rw[size_toArray];exact r.length.symm
 refine⟨"tuple",_,PyProof.Rows.slot_tuple_getitem.lookup,ht.typeIs,?_⟩;refine HT.lq ht hs pl pu (by rw[hlen];exact hw) ?_ (by rw[hlen];exact hz);rw[hlen];refine⟨.ref s.heap.objs.size,_,I.laid (t':=s.toks) (o:=.tup (q8 xs lo hi)) (fun b ob q=>get?_push_of_some _ q) (le_refl _) ?_,rfl,q _ (I.hok.fresh (le_refl _))⟩;exact⟨Nat.le_trans (mU xs lo hi) hz,_,(r.drop (HT.sIx xs.length 0 lo)).take (HT.sIx xs.length xs.length hi-HT.sIx xs.length 0 lo),IsTup.new _ _,NoDi.new _ _⟩
def L8(K:PySem.W.Frag):R2:=fun x y H Q=>∃a b xs ys,x=.ref a/\y=.ref b/\SqT K H a xs/\SqT K H b ys/\xs≠[]/\xs.length+ys.length<=sizeLine /\
 (ys=[]->Q (.ref a) H)/\(ys≠[]->∀p,H p=none->Q (.ref p) (upd H p (.tup (xs++ys))))
theorem Vals.nil_iff{xs:List V}{us:List Value}(r:Vals xs us):us=[]↔xs=[]:=by
 cases r with
 |nil=>simp
 |cons _ _=>simp
theorem Fn:OpR X (binaryOp .Add) (L8 X.K):=by
 intro pins s σ H x y v u Q I rx ry h;obtain⟨a,b,xs,ys,rfl,rfl,ha,hb,hx,hz,q1,q2⟩:=h;cases rx;cases ry;obtain⟨its,r1,p1,_⟩:=I.tuple ha;obtain⟨its2,r2,p2,_⟩:=I.tuple hb;refine HT.GE p1 p2 (fun z=>hx (r1.nil_iff.mp z)) (fun z=>⟨.ref a,H,I,rfl,q1 (r2.nil_iff.mp z)⟩) (fun z=>?_) (by rw[<-r1.length,<-r2.length];exact hz)
 refine⟨.ref s.heap.objs.size,_,I.laid (t':=s.toks) (o:=.tup (xs++ys)) (fun b ob q=>get?_push_of_some _ q) (le_refl _) ?_,rfl,q2 (fun w=>z (r2.nil_iff.mpr w)) _ (I.hok.fresh (le_refl _))⟩
 exact⟨by rw[List.length_append];exact hz,_,r1.append r2,IsTup.new _ _,NoDi.new _ _⟩
end
noncomputable def vC(n:Nat)(i:Int):Option Nat:=if 0<=i then(if i<n then some i.toNat else none)else if -(n:Int)<=i then some (i+n).toNat else none
def fZ{α:Type}(xs:List α)(i:Int):Option α:=(vC xs.length i).bind fun j=>xs[j]?
theorem yO{n:Nat}{i:Int}{j:Nat}(h:vC n i=some j):seqIndex? i n=some j/\j<n /\ -(n:Int)<=i/\i<n:=by
 unfold vC at h;by_cases h0:0<=i
 ·rw[if_pos h0]at h
  by_cases h1:i<n
  ·rw[if_pos h1]at h
   have e:i.toNat=j:=Option.some.inj h;exact⟨by rw[seqIndex_of h0 h1,e],by omega,by omega,h1⟩
  ·rw[if_neg h1]at h;cases h
 ·rw[if_neg h0]at h
  by_cases h1:-(n:Int)<=i
  ·rw[if_pos h1]at h
   have e:(i+n).toNat=j:=Option.some.inj h;exact⟨by rw[seqIndex_neg (by omega) h1,e],by omega,h1,by omega⟩
  ·rw[if_neg h1]at h;cases h
theorem zr{α:Type}{xs:List α}{i:Int}{v:α}(h:fZ xs i=some v):∃j,seqIndex? i xs.length=some j/\xs[j]? = some v/\j<xs.length /\ -(xs.length:Int)<=i/\i<xs.length:=by
 unfold fZ at h;cases e:vC xs.length i with
 |none=>rw[e]at h;cases h
 |some j=>
  rw[e]at h;obtain⟨h1,h2,h3,h4⟩:=yO e;exact⟨j,h1,h,h2,h3,h4⟩
def ur(b:Expr):Prop:=∀o i,subscripted b false o i=operate [o,i] (getItem o i)
def IxR(X:Cx)(r:R2):Prop:=
 ∀(value slice:Expr) (pins:List (Addr×Obj)) (s:Shared) (σ:St) (H:Hp) (x y:V) (v u:Value) (Q:VK),Inv X pins σ H s->RelV x v->RelV y u->r x y H Q ->
  subscripted slice false v u=operate [v,u] (getItem v u)->wpAny (model X.prog X.w) X.A (subscriptTail value slice v u) (EP X pins σ Q) X.xe s
def OZ(X:Cx)(id:String)(r:V->List V->Hp->VK->Prop):Prop:=
 ∀(pins:List (Addr×Obj)) (s:Shared) (σ:St) (H:Hp) (x:V) (xs:List V) (v:Value) (us:List Value) (Q:VK),Inv X pins σ H s->RelV x v->Vals xs us->r x xs H Q ->
  wpAny (model X.prog X.w) X.A (call (.builtin id) (v::us)) (EP X pins σ Q) X.xe s
section
variable{X:Cx}{a b:Expr}{ta tb:TE}{pos:Pos}
theorem IxR.or{r r':R2}(h:IxR X r)(h':IxR X r'):IxR X (fun x y H Q=>r x y H Q\/r' x y H Q):=by
 intro value slice pins s σ H x y v u Q I rx ry q hs;rcases q with q|q
 ·exact h value slice pins s σ H x y v u Q I rx ry q hs
 ·exact h' value slice pins s σ H x y v u Q I rx ry q hs
theorem Hb{r:R2}(hr:IxR X r)(ha:PE X a ta)(hb:PE X b tb)(hs:ur b):PE X (.Subscript a b pos) (LC r ta tb):=by
 intro pins s σ H Q I h;exact Subscript_ (KK ha hb I h fun v u s2 x y H2 I2 rx ry q=>hr a b pins s2 σ H2 x y v u Q I2 rx ry q (hs _ _))
def Oe(K:PySem.W.Frag):R2:=fun x y H Q=>∃p xs i v,x=.ref p/\y=.int i/\SqL K H p xs/\fZ xs i=some v/\Q v H
def Od(K:PySem.W.Frag):R2:=fun x y H Q=>∃p xs i v,x=.ref p/\y=.int i/\SqT K H p xs/\fZ xs i=some v/\Q v H
theorem ix_list:IxR X (Oe X.K):=by
 intro value slice pins s σ H x y v u Q I rx ry h hs;obtain⟨p,xs,i,z,rfl,rfl,hq,he,q⟩:=h;cases rx;obtain⟨t,rfl⟩:=ry;obtain⟨its,r,pl,hz⟩:=I.list hq;obtain⟨j,h1,h2,h3,h4,h5⟩:=zr he;obtain⟨w,ew,rw'⟩:=r.get h2;have hl:=r.length;have hn:=tU;have fin:EP X pins σ Q w s:=⟨z,H,I,rw',q⟩;by_cases h0:0<=i
 ·have hj:i.toNat=j:=by
   rw[seqIndex_of h0 h5]at h1;exact Option.some.inj h1
  exact item_listR pl.isList h0 (by omega) (by rw[hj];simpa using ew) fin hs
 ·have hj:(i+(its.toArray.size:Int)).toNat=j:=by
   rw[seqIndex_neg (by omega) h4]at h1;rw[size_toArray,<-hl];exact Option.some.inj h1
  exact subscriptTail_builtinR (x:=w) pl.isList.typeIs slot_list_getitem.lookup
   (wpAny_getItem_list_neg (Q:=fun r s'=>r=w/\EP X pins σ Q r s') pl.isList (by omega) (by rw[size_toArray]<;>omega) (by omega) (by rw[hj];simpa using ew) ⟨rfl,fin⟩) hs
theorem Ki:IxR X (Od X.K):=by
 intro value slice pins s σ H x y v u Q I rx ry h hs;obtain⟨p,xs,i,z,rfl,rfl,hq,he,q⟩:=h;cases rx;obtain⟨t,rfl⟩:=ry;obtain⟨its,r,pl,hz⟩:=I.tuple hq;obtain⟨j,h1,h2,h3,h4,h5⟩:=zr he;obtain⟨w,ew,rw'⟩:=r.get h2;have hl:=r.length;have hn:=tU;have fin:EP X pins σ Q w s:=⟨z,H,I,rw',q⟩;exact subscriptTail_builtinR (x:=w) pl.typeIs slot_tuple_getitem.lookup
  (getItem_tuple (j:=j) (Q:=fun r s'=>r=w/\EP X pins σ Q r s') pl (by omega) (by omega) (by rw[size_toArray,<-hl];exact h1) (by simpa using ew) ⟨rfl,fin⟩) hs
theorem wR(its:List Value)(n j:Nat)(u:Value):Obj.mapSeq (·.setIfInBounds j u) { cls:=.type "list",data:=.seq its.toArray n }={ cls:=.type "list",data:=.seq (its.set j u).toArray n }:=by
 simp[Obj.mapSeq]
theorem Inv.lst{pins:List (Addr×Obj)}{σ:St}{H:Hp}{s:Shared}{p:Addr}{xs:List V}(I:Inv X pins σ H s)(h:H p=some (.lst xs)):
  ∃(its:List Value) (n:Nat),Vals xs its/\s.heap.get? p=some { cls:=.type "list",data:=.seq its.toArray n }/\xs.length<=sizeLine:=by
 obtain⟨z,its,n,r,e⟩:=I.hok p _ h;exact⟨its,n,r,e,z⟩
theorem Inv.lstUpd{pins:List (Addr×Obj)}{σ:St}{H:Hp}{s:Shared}{p:Addr}{xs ys:List V}{its its':List Value}{n n':Nat}{f:Obj->Obj}(I:Inv X pins σ H s)(h:H p=some (.lst xs))
  (ho:s.heap.get? p=some { cls:=.type "list",data:=.seq its.toArray n }) (hf:f { cls:=.type "list",data:=.seq its.toArray n }={ cls:=.type "list",data:=.seq its'.toArray n' }) (r:Vals ys its') (hz:ys.length<=sizeLine) (t:Nat) :
  Inv X pins σ (upd H p (.lst ys)) { s with heap:=s.heap.update p f,toks:=t }:=by
 have e:(s.heap.update p f).get? p=some { cls:=.type "list",data:=.seq its'.toArray n' }:=by
  rw[Heap.get?_update_self f ho (by rw[hf]<;>rfl),hf]
 refine I.write (x:=p) (e:=p) (by rw[h];trivial) (.inl rfl) (fun b u hb q=>(Heap.get?_update_other _ _ (Ne.symm hb)).trans q) ⟨_,e⟩ ?_
 exact⟨hz,its',n',r,e⟩
def L6:V->V->V->Hp->(Hp->Prop)->Prop:=fun o i v H Q=>∃p xs k j,o=.ref p/\i=.int k/\H p=some (.lst xs)/\vC xs.length k=some j/\Q (upd H p (.lst (xs.set j v)))
theorem uS:Nj X L6:=by
 intro pins s σ H o i v ov iv u Q I ro ri rv h;obtain⟨p,xs,k,j,rfl,rfl,hp,hj,q⟩:=h;cases ro;obtain⟨t,rfl⟩:=ri;obtain⟨its,n,r,ho,hz⟩:=I.lst hp;obtain⟨h1,h2,h3,h4⟩:=yO hj;have hl:=r.length;have hn:=tU;have I':Inv X pins σ (upd H p (.lst (xs.set j v))) { s with heap:=s.heap.update p (Obj.mapSeq (·.setIfInBounds j u)) }:=
  I.lstUpd hp ho (wR its n j u) (r.set rv j) (by rw[List.length_set];exact hz) s.toks
 by_cases h0:0<=k
 ·have hk:k.toNat=j:=by
   rw[seqIndex_of h0 h4]at h1;exact Option.some.inj h1
  exact PySem.W.ki_setAt ho h0 (by omega) (by rw[size_toArray,<-hl];exact h4) (by rw[hk];exact⟨_,I',q⟩)
 ·have hk:(k+(its.toArray.size:Int)).toNat=j:=by
   rw[seqIndex_neg (by omega) h3]at h1;rw[size_toArray,<-hl];exact Option.some.inj h1
  exact PySem.W.ki_setBack ho (by omega) (by rw[size_toArray,<-hl];exact h3) (by omega) (by rw[hk];exact⟨_,I',q⟩)
theorem sS(lo hi:Option Int)(n:Nat):(sliceBounds lo hi none n).1=((HT.sIx n 0 lo:Nat):Int)/\(sliceBounds lo hi none n).2.1=((HT.sIx n n hi:Nat):Int)/\(sliceBounds lo hi none n).2.2=1:=by
 refine⟨?_,?_,rfl⟩
 ·cases lo with
  |none=>simp[sliceBounds,HT.sIx]
  |some i=>
   simp only[sliceBounds,HT.sIx,Option.getD_none,show(1:Int)>0 by decide,if_true];by_cases h:i<0
   ·simp only[h,if_true]<;>omega
   ·simp only[h,if_false]<;>omega
 ·cases hi with
  |none=>simp[sliceBounds,HT.sIx]
  |some i=>
   simp only[sliceBounds,HT.sIx,Option.getD_none,show(1:Int)>0 by decide,if_true];by_cases h:i<0
   ·simp only[h,if_true]<;>omega
   ·simp only[h,if_false]<;>omega
theorem qK(its:List Value)(lo hi:Option Int):slicePick its.toArray lo hi none=((its.drop (HT.sIx its.length 0 lo)).take (HT.sIx its.length its.length hi-HT.sIx its.length 0 lo)).toArray:=by
 obtain⟨h1,h2,h3⟩:=sS lo hi its.toArray.size;unfold slicePick;rw[h1,h2,h3];simp only[sliceRange_one,pick_run,size_toArray]<;>rfl
def Ob(K:PySem.W.Frag):V->Option Int->Option Int->Hp->VK->Prop:=fun x lo hi H Q=>∃a xs,x=.ref a/\SqL K H a xs/\∀p,H p=none->Q (.ref p) (upd H p (.lst (q8 xs lo hi)))
theorem sl_list:SlR X (Ob X.K):=by
 intro pins s σ H x v vl vu lo hi sl Q I rx hs pl pu h;obtain⟨a,xs,rfl,hx,q⟩:=h;cases rx;obtain⟨its,r,ht,hz⟩:=I.list hx;have hlen:=r.length;refine⟨"list",_,slot_list_getitem.lookup,ht.isList.typeIs,?_⟩;refine wpAny_getItem_list_slice ht.isList hs pl pu .none (by simp) ?_ (by rw[size_toArray]<;>omega);rw[qK,<-hlen];refine⟨.ref s.heap.objs.size,_,I.laid (t':=s.toks) (o:=.lst (q8 xs lo hi)) (fun b ob q=>get?_push_of_some _ q) (le_refl _) ?_,rfl,q _ (I.hok.fresh (le_refl _))⟩;exact⟨Nat.le_trans (mU xs lo hi) hz,_,0,(r.drop (HT.sIx xs.length 0 lo)).take (HT.sIx xs.length xs.length hi-HT.sIx xs.length 0 lo),Heap.get?_push_size _ rfl⟩
theorem q9:CallR X (.type "tuple") (fun xs H Q=>∃p ys,xs=[.ref p]/\((SqL X.K H p ys/\∀l,H l=none->Q (.ref l) (upd H l (.tup ys)))\/(SqT X.K H p ys/\Q (.ref p) H))):=by
 intro pins s σ H xs us Q I r h;obtain⟨p,ys,rfl,h⟩:=h;obtain⟨u,rfl,rx⟩:=uz r;cases rx;rcases h with⟨hq,q⟩|⟨hq,q⟩
 ·obtain⟨its,r',pl,hz⟩:=I.list hq
  have hlen:=r'.length;refine call_tuple_list pl.isList (fun h' kp=>?_) (by simp only[size_toArray]<;>omega);have I1:Inv X pins σ H { s with heap:=h' }:=I.kept (t':=s.toks) kp;have I2:Inv X pins σ (upd H h'.objs.size (.tup ys)) { s with heap:=h'.push { cls:=.type "tuple",data:=.seq its.toArray } }:=
   I1.laid (t':=s.toks) (fun b o e=>get?_push_of_some _ e) (le_refl _) (show ObjOk X.prog X.w _ _ _ (.tup ys)from ⟨hz,its,r',IsTup.new _ _,NoDi.new _ _⟩)
  exact⟨.ref h'.objs.size,_,I2,rfl,q _ (I1.hok.fresh (le_refl _))⟩
 ·obtain⟨its,r',pl,hz⟩:=I.tuple hq
  exact call_tuple_same pl ⟨.ref p,H,I,rfl,q⟩
def NM(K:PySem.W.Frag)(T:String)(x:V)(H:Hp):Prop:=match x with
 |.str _=>T = "str"
 |.int _=>T = "int"
 |.ref p=>(T = "list" /\ ∃xs,SqL K H p xs)\/(T = "tuple" /\ ∃o,K.lookup p=some o/\o.cls=.type "tuple" /\ o.dict=none) \/
   (T = "dict" /\ ((∃kvs,H p=some (.dK kvs))\/∃kvs,H p=some (.dT kvs)))\/(T = "set" /\ ∃S n,H p=some (.set S n))
 |_=>False
theorem Be{pins:List (Addr×Obj)}{σ:St}{H:Hp}{s:Shared}{T:String}{x:V}{v:Value}(I:Inv X pins σ H s)(r:RelV x v)(ty:NM X.K T x H):
  s.TypeIs v T/\∀a,v=.ref a->∃ob,s.heap.get? a=some ob/\ob.dict=none:=by
 cases x with
 |str z=>
  obtain⟨t,rfl⟩:=r;cases(show T = "str" from ty);exact⟨typeIs_str s z t,fun _ e=>nomatch e⟩
 |int i=>
  obtain⟨t,rfl⟩:=r;cases(show T = "int" from ty);exact⟨typeIs_int s i t,fun _ e=>nomatch e⟩
 |ref p=>
  cases r;rcases ty with⟨rfl,xs,hq⟩|⟨rfl,o,hk,hc,hd⟩|⟨rfl,hk⟩|⟨rfl,S,n,hk⟩
  ·obtain⟨its,_,pl,_⟩:=I.list hq
   refine⟨pl.isList.typeIs,fun a e=>?_⟩
   cases e;obtain⟨o,n,e,c,hd,_⟩:=pl;exact⟨o,e,hd⟩
  ·refine⟨⟨o,I.kIn p o hk,hc⟩,fun a e=>?_⟩
   cases e;exact⟨o,I.kIn _ o hk,hd⟩
  ·have z:∃o,s.heap.get? p=some o/\o.ExactDict:=by
    rcases hk with⟨kvs,hk⟩|⟨kvs,hk⟩
    ·obtain⟨_,_,_,_,o,_,_,e,ex,_⟩:=I.hok p _ hk
     exact⟨o,e,ex⟩
    ·obtain⟨_,_,_,_,o,_,_,e,ex,_⟩:=I.hok p _ hk
     exact⟨o,e,ex⟩
   obtain⟨o,e,ex⟩:=z;refine⟨⟨o,e,ex.1⟩,fun a e2=>?_⟩
   cases e2;exact⟨o,e,ex.2.1⟩
  ·obtain⟨o,_,_,_,e,ex,_⟩:=I.hok p _ hk
   refine⟨⟨o,e,ex.1⟩,fun a e2=>?_⟩
   cases e2;exact⟨o,e,ex.2.1⟩
 |_=>exact False.elim ty
def NZ(K:PySem.W.Frag)(T:String)(r:V->List V->Hp->VK->Prop)(to:TE):TE:=fun σ H Q=>to σ H fun x H1=>NM K T x H1/\r x [] H1 Q
def PR(K:PySem.W.Frag)(T:String)(r:V->List V->Hp->VK->Prop)(to:TE)(t:TA):TE:=fun σ H Q=>to σ H fun x H1=>NM K T x H1/\t σ H1 fun xs H2=>r x xs H2 Q
variable{o e:Expr}{es:List Expr}{to:TE}{t:TA}{name:Str}{apos cpos:Pos}{T id:String}{r:V->List V->Hp->VK->Prop}
theorem IH(pa:PlainAttrs T)(slot:Slot T name id)(hty:typeOf (.builtin id)=pure (.type "method_descriptor"))(hm:OZ X id r)(ho:PE X o to)
  (hbase:attributeBase o name X.env (eval o X.env)=eval o X.env:=by rfl) (hline:(apos.endLine==cpos.line)=true:=by rfl):PE X (.Call (.Attribute o name apos) [] [] cpos) (NZ X.K T r to):=by
 intro pins s σ H Q I h;refine wpAny_Call_method0_late hbase hline (cm (ho pins s σ H _ I h) fun v s1 ⟨x,H1,I1,r1,ty,q1⟩=>?_)
 obtain⟨h1,h2⟩:=Be I1 r1 ty;exact⟨T,id,pa,slot,hty,h1,h2,Calls.callWith_builtin rfl (PySem.evalArgs_none (hm pins s1 σ H1 x [] v [] Q I1 r1 .nil q1))⟩
theorem B9(pa:PlainAttrs T)(slot:Slot T name id)(hty:typeOf (.builtin id)=pure (.type "method_descriptor"))(hm:OZ X id r)(ho:PE X o to)(ha:PA X (e::es) t)
  (hbase:attributeBase o name X.env (eval o X.env)=eval o X.env:=by rfl)
  (hfew:((backTo cpos (starEach (e::es) X.env)).all (fun x=>!x.1)&&(backToKw cpos (keywordEach [] X.env)).all (fun x=>x.1.isSome)
   && decide ((e::es).length+([]:List Keyword).length+(if([]:List Keyword).isEmpty then 0 else 1)<30))=true:=by rfl)
  (hline:(apos.endLine==cpos.line)=true:=by rfl) (hs:starEach (e::es) X.env=(false,eval e X.env)::starEach es X.env:=by rfl) (hplain:(backTo cpos (starEach es X.env)).any (·.1)=false:=by rfl) :
  PE X (.Call (.Attribute o name apos) (e::es) [] cpos) (PR X.K T r to t):=by
 intro pins s σ H Q I h;refine wpAny_Call_method_late hbase hfew hline rfl (cm (ho pins s σ H _ I h) fun v s1 ⟨x,H1,I1,r1,ty,q1⟩=>?_)
 obtain⟨h1,h2⟩:=Be I1 r1 ty;refine⟨T,id,pa,slot,hty,h1,h2,?_⟩;have hA:=ha cpos pins s1 σ H1 _ I1 q1;rw[hs]at hA ⊢;refine Calls.callWith_builtin (by show(false||(backTo cpos (starEach es X.env)).any (·.1))=false;rw[hplain]<;>rfl) (Calls.evalArgs_plain ?_);exact cm hA fun us s2 ⟨vs,H2,I2,r2,q2⟩=>hm pins s2 σ H2 x vs v us Q I2 r1 r2 q2
end
def PC(X:Cx)(id:String)(r:V->List V->Hp->VK->Prop):Prop:=
 ∀(pins:List (Addr×Obj)) (s:Shared) (σ:St) (H:Hp) (x:V) (xs:List V) (v:Value) (us:List Value) (Q:VK),Inv X pins σ H s->RelV x v->Vals xs us->r x xs H Q ->
  wpAny (model X.prog X.w) X.A (call (.builtin id) (v::us)) (EP X pins σ Q) X.xe s
theorem Vals.one:∀{x:V} {us:List Value},Vals [x] us->∃u,us=[u]/\RelV x u
 |_,_,h=>by
  cases h with
  |cons r t=>
   cases t;exact⟨_,rfl,r⟩
theorem Vals.rep{xs:List V}{us:List Value}(h:Vals xs us):∀k:Nat,Vals (List.replicate k xs).flatten (List.replicate k us).flatten
 | 0=>.nil
 |k+1=>by
  rw[replicate_succ,replicate_succ,flatten_cons,flatten_cons];exact Vals.append h (Vals.rep h k)
theorem sh(its:List Value):∀(k:Nat) (acc:List Value),
  List.foldl (fun x1 x2=>x1++x2) acc.toArray (List.replicate k its.toArray)=(acc++(List.replicate k its).flatten).toArray
 | 0,acc=>by simp
 |k+1,acc=>by
  have e:acc.toArray++its.toArray=(acc++its).toArray:=by simp
  have e2:(acc++its)++(List.replicate k its).flatten=acc++(List.replicate (k+1) its).flatten:=by
   rw[replicate_succ,flatten_cons,List.append_assoc]
  rw[<-e2,<-sh its k (acc++its),<-e,replicate_succ,List.foldl_cons]
section
variable{X:Cx}{pins:List (Addr×Obj)}{σ:St}{H:Hp}{s:Shared}{l b:Addr}{xs ys zs:List V}
theorem Inv.lset{its its':List Value}{n:Nat}{f:Array Value->Array Value}{t':Nat}(I:Inv X pins σ H s)(hH:H l=some (.lst xs))
  (e:s.heap.get? l=some { cls:=.type "list",data:=.seq its.toArray n }) (hf:f its.toArray=its'.toArray) (hv:Vals ys its') (hz:ys.length<=sizeLine) :
  Inv X pins σ (upd H l (.lst ys)) { s with heap:=s.heap.update l (Obj.mapSeq f),toks:=t' }:=by
 have q:=PySem.IsL.update e f;rw[hf]at q;refine I.write (x:=l) (e:=l) (by rw[hH];exact trivial) (.inl rfl) (fun b' u hb hu=>(Heap.get?_update_other s.heap (Obj.mapSeq f) (Ne.symm hb)).trans hu) ⟨_,q⟩ ?_
 exact⟨hz,its',_,hv,q⟩
theorem Inv.lnew{its:List Value}{t':Nat}(I:Inv X pins σ H s)(hv:Vals ys its)(hz:ys.length<=sizeLine):
  Inv X pins σ (upd H s.heap.objs.size (.lst ys)) { s with heap:=s.heap.push { cls:=.type "list",data:=.seq its.toArray },toks:=t' }:=
 I.laid (fun _ _ q=>get?_push_of_some _ q) (le_refl _) ⟨hz,its,0,hv,Heap.get?_push_size _ rfl⟩
theorem Inv.fresh(I:Inv X pins σ H s):H s.heap.objs.size=none:=I.hok.fresh (le_refl _)
theorem Inv.lstM(I:Inv X pins σ H s)(hH:H l=some (.lst xs)):xs.length<=sizeLine/\∃(its:List Value) (n:Nat),Vals xs its/\xs.length=its.length/\s.heap.get? l=some { cls:=.type "list",data:=.seq its.toArray n }:=by
 obtain⟨z,its,n,r,e⟩:=I.hok l _ hH;exact⟨z,its,n,r,r.length,e⟩
theorem vm{n:Nat}(h:n<=sizeLine):Builtin.List.listTooLong n=false:=by
 unfold Builtin.List.listTooLong;exact decide_eq_false (by omega)
end
section
variable{X:Cx}
def EM:V->List V->Hp->VK->Prop:=fun x vs H Q=>∃l xs y,x=.ref l/\vs=[y]/\H l=some (.lst xs)/\xs.length<sizeLine/\Q .non (upd H l (.lst (xs++[y])))
theorem rZ:PC X "list.append" EM:=by
 intro pins s σ H x vs v us Q I rx rv h;obtain⟨l,xs,y,rfl,rfl,hH,hz,q⟩:=h;cases rx;obtain⟨u,rfl,ru⟩:=rv.one;obtain⟨z,its,n,r,hl,e⟩:=I.lstM hH;refine call_meets F.slot_list_append ⟨_,e,rfl⟩ F.entry_list_append (F.args_list_append_2 _ _) (PySem.list_append l its.toArray n u (by rw[size_toArray];omega)) ⟨e,?_⟩;refine⟨.non,_,I.lset (its':=its++[u]) hH e (by simp) (r.append (.cons ru .nil)) ?_,rfl,q⟩;rw[List.length_append,List.length_singleton];omega
theorem FN{α:Type}(xs:List α)(k:Nat):(List.replicate k xs).flatten.length=k*xs.length:=by
 induction k with
 |zero=>simp
 |succ k ih=>rw[replicate_succ,flatten_cons,List.length_append,ih,Nat.succ_mul,Nat.add_comm]
end
end L2
namespace Att
open PySem PySem.W PySem.Calls PyProof.Rows
theorem nq{P:Params}{h:Heap}:∀(ns:List Int) (vs:List Value),WellAll P h vs (ns.map WData.int)->IntsAre vs ns:=by
 intro ns
 induction ns with
 |nil=>
  intro vs w;rw[List.map_nil]at w;cases w;exact .nil
 |cons n ns ih=>
  intro vs w;rw[List.map_cons]at w;cases w with
  |cons a b=>
   cases a;exact .cons _ _ (ih _ b)
theorem zS{l:OpenLaw}{n:Nat}(hn:l.most=some n){P:Params}{h:Heap}{args:List WData}{vals:List Value}
  (hpre:l.row.toRowW.claim.pre args=true) (hwl:WellAll P h vals args) :
  ∃a vs ns,vals=[Value.ref a]/\args=[WData.list (ns.map WData.int)]/\h.get? a=some { cls:=.type "list",data:=.seq vs.toArray }/\IntsAre vs ns/\ns.length<=n:=by
 have hsh:WShape.hasAll [] args [.list .int]=true:=(pre_splitW hpre).1;have hc:l.pre.holds [] { args:=args }=true:=(pre_splitW hpre).2;obtain⟨d,r,rfl,h1,h2⟩:=hasAllW_cons hsh;obtain rfl:=hasAllW_nil h2;obtain⟨xs,rfl,h3⟩:=hasW_list h1;obtain⟨ns,rfl⟩:=items_int h3;have hlen:ns.length<=n:=by
  unfold OpenLaw.pre at hc;have h4:(WTm.not (.lt (.lit (.int (n:Int))) (.len (.arg 0)))).holds [] { args:=[.list (ns.map .int)] }=true:=by
   have h4:=(holds_andW hc).1;rw[hn]at h4;exact h4
  have h5:=condW_of h4 (w_not (w_lt w_lit (w_len_list (w_arg rfl))));rw[List.length_map]at h5;refine Nat.le_of_not_lt fun q=>?_
  have q':(n:Int)<((ns.length:Nat):Int):=by omega
  first
   | (rw[decide_eq_true q']at h5;exact absurd h5 (by decide))
   | (simp at h5;omega)
 cases hwl with
 |cons w1 w2=>
  cases w2;cases w1 with
  |list ho hall=>exact⟨_,_,ns,rfl,rfl,ho,nq ns _ hall,hlen⟩
theorem zW(l:OpenLaw)(args:List WData):l.row.toRowW.claim.post args (.bool true) args=true:=
 postW_of (r:=l.row.toRowW) (X:=(true==true))
  (show WShape.has [] (.bool true) .bool=true by first|rfl|decide|simp[WShape.has,WShape.arms,WShape.armsAll])
  (show(WTm.eq .res (.lit (.bool true))).value [] { args:=args,res:=some (.bool true),after:=args }=some (.bool (true==true))from w_eq_bool (w_res rfl) w_lit) rfl
theorem vV{l:OpenLaw}{n:Nat}{q:Program}{loose:List Str}{XP:(Str->Option Value)->Heap->Prop}{YP:World->Heap->Prop}{d:DefRec}
  (hn:l.most=some n) (hdf:d.params.defaults=[])
  (call:∀(w:World) (s₀ s₁:Shared) (mg mb:Str->Option Value) (fa:Addr) (o:Obj) (pm cd doc:Value) (a:Addr) (vs:List Value) (ns:List Int),
   Ground q loose [] XP w s₀ mg mb s₁.heap->YP w s₁.heap ->
   s₁.heap.get? fa=some o->o.data=.func (docDef d.name d.params d.body d.scope pm cd doc)->s₁.heap.CodeRec cd d.name->mg d.name=some (.ref fa) ->
   s₁.heap.get? a=some { cls:=.type "list",data:=.seq vs.toArray }->IntsAre vs ns->ns.length<=n->s₁.gens = #[] ->
   codeAny (model l.prog w) callerA (.call (.ref fa) ⟨[.ref a],[]⟩) (fun r s'=>r=.ok (.ret (.bool true))/\OldK s₁.heap s'.heap/\s'.os=s₁.os/\AllBare s'.gens) s₁) :
  WalkO q loose XP YP l.row.toRowW d [] (fun f vs=>PySem.call f vs):=by
 intro w s₀ s₁ mg mb G Y fa o pm cd doc dV kV ho hd hcd hD hmg hg args vals as hpre hlay hrd hwl hlo;obtain rfl:dV=.none:=Dflts.none hD hdf;obtain rfl:kV=.none:=Dflts.noKw hD;obtain⟨a,vs,ns,rfl,rfl,hobj,hints,hlen⟩:=zS hn hpre hwl;refine enter_call (codeAny_mono (call w s₀ s₁ mg mb fa o pm cd doc a vs ns G Y ho (fd_plain hd) hcd hmg hobj hints hlen hg) fun r s' hq=>?_)
 obtain⟨rfl,h2,h3,h4⟩:=hq;exact⟨.inl ⟨.bool true,.bool true,[],rfl,fun _=>rfl,.bool true,zW l _,fun _=>⟨List.Pairwise.nil,fun _ hm=>(nomatch hm)⟩⟩,h2,h3,h4⟩
section
variable{prog:Program}{w:World}{A:Around}{E:Value->Shared->Prop}{s:Shared}{K:Frag}
noncomputable def Oy(h:Heap)(L d:Addr):List (Addr×Obj):=(List.range h.objs.size).filterMap fun a=>if a=L\/a=d then none else(h.get? a).map fun o=>(a,o)
end
end Att
namespace L2
open PySem PySem.Spec PyProof.Rows
theorem ie:∀{vs:List Value} {ns:List Int},IntsAre vs ns->Vals (ns.map V.int) vs
 |_,_,.nil=>.nil
 |_,_,.cons n t h=>.cons ⟨t,rfl⟩ (ie h)
def K6(H:Hp):Prop:=∀b,H b=none\/∃o xs,H b=some (.frz o (.lst xs))
theorem CH{P:Program}{w:World}{K:PySem.W.Frag}{mg mb:Str->Option Value}{CX:zy}{k:Nat}{fa a:Addr}{fd:FuncData}{x:Str}{sp:Sp}{s₁:Shared}{vs:List Value}{ns:List Int}
  (KX:K.In s₁.heap) (hns:s₁.heap.Ns mainGlobals mg) (hb:s₁.heap.Ns builtinsNs mb) (hbb:∀x:Str,x ≠ "__name__" -> mb x=bootBuiltins x) (hlim:s₁.heap.NoLimit) (hg:s₁.gens = #[])
  (ha:s₁.heap.get? a=some { cls:=.type "list",data:=.seq vs.toArray }) (hi:IntsAre vs ns) (hl:ns.length<=sizeLine) (hr:Room k callerA)
  (F:∀base:Heap,K.In base->base.Ns mainGlobals mg->FnOk P w K mg base CX k fa fd [x] sp) (hbind:∀(s:Shared) (u:Value),BindsTo s fd ⟨[u],[]⟩ [(x,u)])
  (hsp:∀H:Hp,K6 H->SqL K H a (ns.map V.int)->sp [.ref a] H (fun v _=>v=.bl true) fun _ _ _=>False)
  (hCX:∀H e s',CX [] H s₁ (fun _ _ _=>False) e s'->False) :
  codeAny (model P w) callerA (.call (.ref fa) ⟨[.ref a],[]⟩) (fun r s'=>r=.ok (.ret (.bool true))/\OldK s₁.heap s'.heap/\s'.os=s₁.os/\AllBare s'.gens) s₁:=by
 have rv:=ie hi;have lenV:=hi.length;have core:∀H:Hp,K6 H->SqL K H a (ns.map V.int)->HOk P w H s₁.heap->(∀b,H b≠none->b=a)->(H a≠none->K.lookup a=none) ->
   codeAny (model P w) callerA (.call (.ref fa) ⟨[.ref a],[]⟩) (fun r s'=>r=.ok (.ret (.bool true))/\OldK s₁.heap s'.heap/\s'.os=s₁.os/\AllBare s'.gens) s₁:=by
  intro H hO hS hok hA hK;have base_of:∀{b:Addr} {o:Obj},s₁.heap.get? b=some o->H b=none->(tZ s₁.heap H).get? b=some o:=fun e n=>C2 e n
  have noA:∀{b:Addr} {o:Obj} {es:Array DictEntry} {ep:Nat},s₁.heap.get? b=some o->o.data=.dict es ep->H b=none:=fun{b o es ep} e d=>by
   cases q:H b with
   |none=>rfl
   |some u=>
    have e':b=a:=hA b (by rw[q];simp);subst e';rw[ha]at e;cases e;have d':Data.seq vs.toArray _=Data.dict es ep:=d;cases d'
  have nsK:∀{b:Addr} {m:Str->Option Value},s₁.heap.Ns b m->(tZ s₁.heap H).Ns b m:=fun{b m} ⟨o,es,ep,e,d,r⟩=>⟨o,es,ep,base_of e (noA e d),d,r⟩
  have hKb:K.In (tZ s₁.heap H):=fun b o e=>base_of (KX b o e) (by
   cases q:H b with
   |none=>rfl
   |some u=>
    have e':b=a:=hA b (by rw[q];simp);subst e';rw[hK (by rw[q];simp)]at e;cases e)
  have hM:Mod K mg (tZ s₁.heap H):=⟨hKb,nsK hns,⟨mb,nsK hb,hbb⟩,let ⟨mc,h1,h2⟩:=hlim; ⟨mc,nsK h1,h2⟩⟩;have e0:Env0 P w K mg (tZ s₁.heap H) callerA [] s₁ H:=⟨rfl,hM,fun b o e=>Ft e,Nat.le_of_eq (AD _ _),trivial,fun b hb=>absurd (show b∈([]:List Addr)from hb) (by simp),hok,.of_eq hg⟩
  refine codeAny_mono ((F _ hKb (nsK hns)).run callerA [] s₁ H ⟨[.ref a],[]⟩ [.ref a] [.ref a] _ _ hr e0 (hbind s₁ (.ref a)) (.cons rfl .nil) (hsp H hO hS)) fun r s' h=>?_
  cases r with
  |error e=>exact(hCX H e s' h).elim
  |ok fl=>
   cases fl with
   |next=>exact False.elim h
   |brk=>exact False.elim h
   |cont=>exact False.elim h
   |ret u=>
    obtain⟨v,H',os,bare,un,hok',r',q⟩:=h;have q':v=.bl true:=q;subst q';obtain rfl:u=Value.bool true:=r';refine⟨rfl,OldK.of_keep fun b o e=>?_,os,bare⟩
    cases q:H b with
    |none=>exact un.keep b o e q (by intro z;exact absurd (show b∈([]:List Addr)from z) (by simp)) (by simp)
    |some u=>
     rcases hO b with z|⟨ob,xs,z⟩
     ·rw[q]at z;cases z
     ·have z2:=un.frzs b ob _ z
      obtain⟨e1,_⟩:=hok b _ z;obtain⟨e2,_⟩:=hok' b _ z2;rw[e]at e1;cases e1;exact e2
 cases hk:K.lookup a with
 |some o=>
  have e:=KX a o hk;rw[ha]at e;cases e;refine core (fun _=>none) (fun _=>.inl rfl) (.inr ⟨_,vs.toArray,_,hk,rfl,rfl,rfl,by rw[List.size_toArray,lenV];exact hl,by simpa using rv⟩) (fun b u z=>by have z':(none:Option HO)=some u:=z;cases z') (fun b z=>absurd rfl z) fun z=>absurd rfl z
 |none=>
  refine core (fun b=>if b=a then some (.frz { cls:=.type "list",data:=.seq vs.toArray } (.lst (ns.map V.int)))else none) (fun b=>?_) (.inl (.inr ⟨{ cls:=.type "list",data:=.seq vs.toArray },if_pos rfl⟩)) (fun b u z=>?_) (fun b z=>?_) fun _=>hk
  ·by_cases hb:b=a
   ·exact .inr ⟨_,_,if_pos hb⟩
   ·exact .inl (if_neg hb)
  ·by_cases hb:b=a
   ·have z':=(if_pos hb).symm.trans z
    cases z';subst hb;exact⟨ha,by rw[List.length_map];exact hl,vs,_,rv,ha⟩
   ·have z':=(if_neg hb).symm.trans z
    cases z'
  ·by_cases hb:b=a
   ·exact hb
   ·exact absurd (if_neg hb) z
abbrev QA{K:PySem.W.Frag}{h:Heap}(_:K.In h):PySem.W.Frag:=K
theorem Ea{l:PySem.W.OpenLaw}{n k:Nat}{q:Program}{loose:List Str}{XP:(Str->Option Value)->Heap->Prop}{YP:World->Heap->Prop}{d:DefRec}{K:Params->PySem.W.Frag}{CX:World->zy}{sp:World->Sp}{x:Str}
  (hn:l.most=some n) (hn2:n<=sizeLine) (hdf:d.params.defaults=[]) (hr:Room k callerA)
  (hY:∀(w:World) (h:Heap),YP w h->(K w.params).In h)
  (F:∀(w:World) (mg:Str->Option Value) (fa:Addr) (h:Heap),(K w.params).In h->h.Ns mainGlobals mg->mg d.name=some (.ref fa) ->
   ∃fd:FuncData,(∀(s:Shared) (u:Value),BindsTo s fd ⟨[u],[]⟩ [(x,u)]) /\
    ∀base:Heap,(K w.params).In base->base.Ns mainGlobals mg->FnOk l.prog w (K w.params) mg base (CX w) k fa fd [x] (sp w))
  (hsp:∀(w:World) (H:Hp) (a:Addr) (ns:List Int),ns.length<=n->K6 H->SqL (K w.params) H a (ns.map V.int)->sp w [.ref a] H (fun v _=>v=.bl true) fun _ _ _=>False)
  (hCX:∀(w:World) (H:Hp) (s:Shared) (e:Value) (s':Shared),CX w [] H s (fun _ _ _=>False) e s'->False) :
  PySem.W.WalkO q loose XP YP l.row.toRowW d [] (fun f vs=>PySem.call f vs):=by
 refine Att.vV hn hdf fun w s₀ s₁ mg mb fa o pm cd doc a vs ns G Y ho hd hcd hmg hobj hints hlen hg=>?_
 have KX:=hY w _ Y;obtain⟨fd,hb,hF⟩:=F w mg fa _ KX G.T.g hmg;exact CH KX G.T.g G.T.b G.T.builtins G.T.nolimit hg hobj hints (Nat.le_trans hlen hn2) hr hF hb (fun H hO hS=>hsp w H a ns hlen hO hS) fun H e s'=>hCX w H s₁ e s'
noncomputable def cR(s:Stmt):Arguments:=match s with
 |.FunctionDef _ a _ _ _ _ _ _ _ _=>a
 |_=>{ posonlyargs:=[],args:=[],vararg:=none,kwonlyargs:=[],kw_defaults:=[],kwarg:=none,defaults:=[] }
def b7(s:Stmt):List Stmt:=match s with
 |.FunctionDef _ _ b _ _ _ _ _ _ _=>b
 |_=>[]
noncomputable def aj(s:Stmt):Scope:=match s with
 |.FunctionDef _ _ _ _ _ _ sc _ _ _=>sc
 |_=>{ kind:=.function,names:=[],isGenerator:=false,isCoroutine:=false }
abbrev dY:zy:=fun _ _ _ _ _ _=>False
abbrev E0:XK:=fun _ _ _=>False
theorem Ca{X:Cx}:kC dY X E0:=fun _ _ _ _ _ _ _ h=>h.elim
def Same(H H':Hp):Prop:=∀b o,H b=some o->H' b=some o
theorem Same.refl(H:Hp):Same H H:=fun _ _ h=>h
theorem Same.trans{H H1 H2:Hp}(a:Same H H1)(b:Same H1 H2):Same H H2:=fun c o h=>b c o (a c o h)
end L2
set_option maxHeartbeats 4000000
namespace VL
open PySem L2
abbrev D:=PyData
inductive Oc where
 |l (ds:List D)|d (es:List (bb×D))
inductive Sl where
 |un|fz (d:D)|own (c:Oc)|fr (ds:List D)
abbrev Sl.ow(ds:List D):Sl:=.own (.l ds)
abbrev Sl.od(es:List (bb×D)):Sl:=.own (.d es)
def ML:bb->D
 |.inl i=>.int i
 |.inr x=>.str x
noncomputable def insL(n:Str)(ds:List (Str×D)):List (D×D):=(.str "ins",.str n)::ds.map fun q=>(.str q.1,q.2)
abbrev insD(n:Str)(ds:List (Str×D)):D:=.dict (insL n ds)
def KD(es:List (bb×Int)):List (D×D):=es.map fun p=>(ML p.1,.int p.2)
abbrev Dv:=List Sl
inductive Fl where
 |nx|bk|ct|rt (d:D)
abbrev Sf:=Dv->Option (Fl×Dv)
@[simp] noncomputable def o2(f1 f2:Dv->Option D)(g:D->D->Option D):Dv->Option D:=fun δ=>(f1 δ).bind fun x=>(f2 δ).bind fun y=>g x y
@[simp] noncomputable def o1(f:Dv->Option D)(g:D->Option D):Dv->Option D:=fun δ=>(f δ).bind g
@[simp] noncomputable def os(f:Dv->Option (List D))(g:List D->Option D):Dv->Option D:=fun δ=>(f δ).bind g
def asB:D->Option Bool
 |.bool b=>some b
 |_=>none
@[simp] theorem DF(b:Bool):asB (.bool b)=some b:=rfl
@[simp] noncomputable def ob(f:Dv->Option D):Dv->Option Bool:=fun δ=>(f δ).bind asB
@[simp] noncomputable def vk(t u:Dv->Option Bool):Dv->Option Bool:=fun δ=>(t δ).bind fun b=>if b=true then u δ else some false
@[simp] noncomputable def Af(t u:Dv->Option Bool):Dv->Option Bool:=fun δ=>(t δ).bind fun b=>if b=true then some true else u δ
@[simp] noncomputable def tK(t:Dv->Option Bool):Dv->Option Bool:=fun δ=>(t δ).map (!·)
@[simp] noncomputable def Co(f1 f2:Dv->Option D):Dv->Option D:=fun δ=>(f1 δ).bind fun x=>(asB x).bind fun b=>if b=true then f2 δ else some (.bool false)
@[simp] noncomputable def PX(f1 f2:Dv->Option D):Dv->Option D:=fun δ=>(f1 δ).bind fun x=>(asB x).bind fun b=>if b=true then some (.bool true)else f2 δ
@[simp] noncomputable def Fz(d:D):Option D:=(asB d).map fun b=>.bool (!b)
@[simp] noncomputable def Qu(t:Dv->Option Bool)(f1 f2:Dv->Option D):Dv->Option D:=fun δ=>(t δ).bind fun b=>if b=true then f1 δ else f2 δ
noncomputable def Lc:Option Sl->Option D
 |some (.fz d)=>some d
 |some (.fr ds)=>some (.list ds)
 |_=>none
@[simp] theorem N3(ds:List D):Lc (some (.fr ds))=some (.list ds):=rfl
@[simp] theorem N2(d:D):Lc (some (.fz d))=some d:=rfl
@[simp] noncomputable def oV(i:Nat):Dv->Option D:=fun δ=>Lc δ[i]?
@[simp] noncomputable def oC(d:D):Dv->Option D:=fun _=>some d
@[simp] noncomputable def ao:Dv->Option (List D):=fun _=>some []
@[simp] noncomputable def ad(f:Dv->Option D)(fs:Dv->Option (List D)):Dv->Option (List D):=fun δ=>(f δ).bind fun x=>(fs δ).bind fun xs=>some (x::xs)
def bn(ds:List D):Option D:=if ds.length<=sizeLine then some (.tuple ds)else none
def gG(ds:List D):Option D:=if ds.length<=sizeLine then some (.list ds)else none
theorem jG{ds:List D}(h:ds.length<=16777216):bn ds=some (.tuple ds):=if_pos h
theorem yH{ds:List D}(h:ds.length<=16777216):gG ds=some (.list ds):=if_pos h
@[simp] theorem Ph:bn []=some (.tuple []):=rfl
@[simp] theorem Pg(a:D):bn [a]=some (.tuple [a]):=jG (by simp)
@[simp] theorem Pf(a b:D):bn [a,b]=some (.tuple [a,b]):=jG (by simp)
@[simp] theorem Pe(a b c:D):bn [a,b,c]=some (.tuple [a,b,c]):=jG (by simp)
@[simp] theorem Pd(a b c d:D):bn [a,b,c,d]=some (.tuple [a,b,c,d]):=jG (by simp)
@[simp] theorem Pc(a b c d e:D):bn [a,b,c,d,e]=some (.tuple [a,b,c,d,e]):=jG (by simp)
@[simp] theorem Pb(a b c d e f g h:D):bn [a,b,c,d,e,f,g,h]=some (.tuple [a,b,c,d,e,f,g,h]):=jG (by simp)
@[simp] theorem Pu:gG []=some (.list []):=rfl
@[simp] theorem Pt(a:D):gG [a]=some (.list [a]):=yH (by simp)
@[simp] theorem Ps(a b c:D):gG [a,b,c]=some (.list [a,b,c]):=yH (by simp)
instance (i j:Int):Decidable (IntMulOk i j):=by unfold IntMulOk;infer_instance
def iI(g:Int->Int->Int):D->D->Option D
 |.int i,.int j=>some (.int (g i j))
 |_,_=>none
noncomputable def iC(C:Int->Int->Bool)(g:Int->Int->Int):D->D->Option D
 |.int i,.int j=>if C i j=true then some (.int (g i j))else none
 |_,_=>none
noncomputable def iB(g:Int->Int->Bool):D->D->Option D
 |.int i,.int j=>some (.bool (g i j))
 |_,_=>none
@[simp] theorem OF(g:Int->Int->Int)(i j:Int):iI g (.int i) (.int j)=some (.int (g i j)):=rfl
@[simp] theorem OG(g:Int->Int->Bool)(i j:Int):iB g (.int i) (.int j)=some (.bool (g i j)):=rfl
theorem mw{C:Int->Int->Bool}{g:Int->Int->Int}{i j:Int}(h:C i j=true):iC C g (.int i) (.int j)=some (.int (g i j)):=if_pos h
def OR(i j:Int):Bool:=decide (IntMulOk i j)
def OT(i j:Int):Bool:=decide (0<j/\j<1073741824)
def OS(i j:Int):Bool:=decide (0<j)
def OQ(i j:Int):Bool:=decide (0<=j/\j<=1000000/\i.natAbs<2^64)
def OP(i j:Int):Bool:=decide (0<=j/\(Builtin.Int.intBits i:Int)+j<=2^27)
def OO(i j:Int):Bool:=decide (0<=j)
abbrev bC:=iI fun i j=>i-j
abbrev pC:=iC OR fun i j=>i*j
abbrev eJ:=iC OT fun i j=>i/j
abbrev bN:=iC OS fun i j=>i%j
abbrev zV:=iC OQ fun i j=>i^j.toNat
abbrev gF:=iC OP fun i j=>i*2^j.toNat
abbrev lU:=iC OO fun i j=>i/2^j.toNat
abbrev xG:=iI Builtin.bitAnd
abbrev IL:=iI Builtin.bitOr
abbrev uw:=iI Builtin.bitXor
abbrev Hl:=iB fun i j=>decide (i<j)
abbrev Oz:=iB fun i j=>decide (i<=j)
abbrev Ln:=iB fun i j=>decide (j<i)
@[simp] theorem Cz{i j:Int}(h:IntMulOk i j):pC (.int i) (.int j)=some (.int (i*j)):=mw (decide_eq_true h)
@[simp] theorem Ds{i j:Int}(h:0<j)(h2:j<1073741824):eJ (.int i) (.int j)=some (.int (i/j)):=mw (decide_eq_true ⟨h,h2⟩)
@[simp] theorem jl{i j:Int}(h:0<j):bN (.int i) (.int j)=some (.int (i%j)):=mw (decide_eq_true h)
@[simp] theorem Ma{i j:Int}(h:0<=j)(h2:j<=1000000)(h3:i.natAbs<2^64):zV (.int i) (.int j)=some (.int (i^j.toNat)):=mw (decide_eq_true ⟨h,h2,h3⟩)
theorem uQ{i j:Int}(h:0<=j)(h2:(Builtin.Int.intBits i:Int)+j<=2^27):gF (.int i) (.int j)=some (.int (i*2^j.toNat)):=mw (decide_eq_true ⟨h,h2⟩)
@[simp] theorem BB{i j:Int}(h:0<=j):lU (.int i) (.int j)=some (.int (i/2^j.toNat)):=mw (decide_eq_true h)
def negD:D->Option D
 |.int i=>some (.int (-i))
 |_=>none
@[simp] theorem Mw(i:Int):negD (.int i)=some (.int (-i)):=rfl
noncomputable def aR:D->D->Option D
 |.int i,.int j=>some (.int (i+j))
 |.str x,.str y=>if x.length+y.length<=sizeLine then some (.str (x++y))else none
 |.list xs,.list ys=>if xs.length+ys.length<=sizeLine then some (.list (xs++ys))else none
 |.tuple xs,.tuple ys=>if xs.length+ys.length<=sizeLine then some (.tuple (xs++ys))else none
 |_,_=>none
@[simp] theorem Nf(i j:Int):aR (.int i) (.int j)=some (.int (i+j)):=rfl
theorem mJ{xs ys:List D}(h:xs.length+ys.length<=16777216):aR (.list xs) (.list ys)=some (.list (xs++ys)):=if_pos h
theorem jy{xs ys:List D}(h:xs.length+ys.length<=16777216):aR (.tuple xs) (.tuple ys)=some (.tuple (xs++ys)):=if_pos h
def DM(d:D):Bool:=PySem.SeqAt.shaped d
noncomputable def di:D->D->Option D:=fun a b=>if DM a=true/\DM b=true then some (.bool (PyData.eqv a b))else none
noncomputable def neD:D->D->Option D:=fun a b=>if DM a=true/\DM b=true then some (.bool (!PyData.eqv a b))else none
@[simp] theorem Gq(i j:Int):di (.int i) (.int j)=some (.bool (i==j)):=rfl
@[simp] theorem Nv(i j:Int):neD (.int i) (.int j)=some (.bool (!(i==j))):=rfl
@[simp] theorem M4(i j:Bool):di (.bool i) (.bool j)=some (.bool (i==j)):=rfl
@[simp] theorem Mz(i j:Bool):neD (.bool i) (.bool j)=some (.bool (!(i==j))):=rfl
def Ll(d:D):Bool:=match d with
 |.none=>true
 |_=>false
def Qj:D->D->Option D:=fun a b=>match b with
 |.none=>some (.bool (Ll a))
 |_=>none
def MO:D->D->Option D:=fun a b=>match b with
 |.none=>some (.bool (!Ll a))
 |_=>none
@[simp] theorem MQ(a:D):Qj a .none=some (.bool (Ll a)):=rfl
@[simp] theorem Kk(a:D):MO a .none=some (.bool (!Ll a)):=rfl
@[simp] theorem MP:Ll .none=true:=rfl
@[simp] theorem Ny(i:Int):Ll (.int i)=false:=rfl
def ay:D->D->Option D
 |.list xs,.int i=>fZ xs i
 |.tuple xs,.int i=>fZ xs i
 |_,_=>none
@[simp] theorem MM(xs:List D)(i:Int):ay (.list xs) (.int i)=fZ xs i:=rfl
@[simp] theorem Lk(xs:List D)(i:Int):ay (.tuple xs) (.int i)=fZ xs i:=rfl
theorem fN{α:Type}{xs:List α}{i:Int}{j:Nat}{v:α}(hi:i=j)(h:xs[j]? = some v):fZ xs i=some v:=by
 have hl:j<xs.length:=(List.getElem?_eq_some_iff.mp h).1;subst hi;unfold fZ vC;rw[if_pos (by omega),if_pos (by omega)];simpa using h
@[simp] theorem NE{α:Type}(a:α)(r:List α):fZ (a::r) 0=some a:=fN (j:=0) rfl rfl
@[simp] theorem Pz{α:Type}(a b:α)(r:List α):fZ (a::b::r) 1=some b:=fN (j:=1) rfl rfl
@[simp] theorem Py{α:Type}(a b c:α)(r:List α):fZ (a::b::c::r) 2=some c:=fN (j:=2) rfl rfl
@[simp] theorem Qz{α:Type}(a b c d:α)(r:List α):fZ (a::b::c::d::r) 3=some d:=fN (j:=3) rfl rfl
@[simp] theorem Qy{α:Type}(a b c d e:α)(r:List α):fZ (a::b::c::d::e::r) 4=some e:=fN (j:=4) rfl rfl
@[simp] theorem Qx{α:Type}(a b c d e f:α)(r:List α):fZ (a::b::c::d::e::f::r) 5=some f:=fN (j:=5) rfl rfl
@[simp] theorem Qw{α:Type}(a b c d e f g:α)(r:List α):fZ (a::b::c::d::e::f::g::r) 6=some g:=fN (j:=6) rfl rfl
@[simp] theorem Qv{α:Type}(a b c d e f g h:α)(r:List α):fZ (a::b::c::d::e::f::g::h::r) 7=some h:=fN (j:=7) rfl rfl
noncomputable def fV:List D->Option D
 |[.list xs]=>some (.int xs.length)
 |[.tuple xs]=>some (.int xs.length)
 |_=>none
@[simp] theorem Lj(xs:List D):fV [.list xs]=some (.int xs.length):=rfl
@[simp] theorem wU(xs:List D):fV [.tuple xs]=some (.int xs.length):=rfl
def FL:List D->Option D
 |[.int i,.int j]=>some (.int (if j<i then j else i))
 |_=>none
def Ot:List D->Option D
 |[.int i,.int j]=>some (.int (if j>i then j else i))
 |_=>none
@[simp] theorem MD(i j:Int):FL [.int i,.int j]=some (.int (if j<i then j else i)):=rfl
@[simp] theorem ME(i j:Int):Ot [.int i,.int j]=some (.int (if j>i then j else i)):=rfl
noncomputable def MT:List D->Option D
 |[.int i]=>some (.int i)
 |[.bool b]=>some (.int (if b then 1 else 0))
 |_=>none
@[simp] theorem MS(i:Int):MT [.int i]=some (.int i):=rfl
@[simp] theorem Lm(b:Bool):MT [.bool b]=some (.int (if b then 1 else 0)):=rfl
noncomputable def Hn:List D->Option D
 |[.list xs]=>some (.list xs)
 |[.tuple xs]=>some (.list xs)
 |_=>none
@[simp] theorem J9(xs:List D):Hn [.list xs]=some (.list xs):=rfl
@[simp] theorem Hm(xs:List D):Hn [.tuple xs]=some (.list xs):=rfl
noncomputable def iF:List D->Option D
 |[.list xs]=>some (.tuple xs)
 |[.tuple xs]=>some (.tuple xs)
 |_=>none
@[simp] theorem uD(xs:List D):iF [.list xs]=some (.tuple xs):=rfl
@[simp] theorem Ee(xs:List D):iF [.tuple xs]=some (.tuple xs):=rfl
def zm:D->Option D
 |.int i=>some (.int (Builtin.Int.intBits i))
 |_=>none
@[simp] theorem Lo(i:Int):zm (.int i)=some (.int (Builtin.Int.intBits i)):=rfl
noncomputable def tyN:D->String
 |.none=>"NoneType"
 |.bool _=>"bool"
 |.int _=>"int"
 |.str _=>"str"
 |.list _=>"list"
 |.tuple _=>"tuple"
 |.dict _=>"dict"
def Km(t T:String):Bool:=t==T||(t == "bool" && T == "int")
def yP:D->Bool
 |.dict _=>true
 |_=>false
noncomputable def jY(T:String)(d:D):Option D:=if yP d=true then none else if T = "int" \/ T = "bool" \/ T = "str" \/ T = "list" \/ T = "tuple" then some (.bool (Km (tyN d) T))else none
@[simp] theorem Hu(i:Int):jY "int" (.int i)=some (.bool true):=rfl
@[simp] theorem F5(i:Int):jY "bool" (.int i)=some (.bool false):=rfl
@[simp] theorem F4(i:Bool):jY "int" (.bool i)=some (.bool true):=rfl
@[simp] theorem DX(i:Bool):jY "bool" (.bool i)=some (.bool true):=rfl
@[simp] theorem AZ(xs:List D):jY "tuple" (.tuple xs)=some (.bool true):=rfl
@[simp] theorem DW(xs:List D):jY "list" (.list xs)=some (.bool true):=rfl
@[simp] noncomputable def bJ(f:Dv->Option D):Sf:=fun δ=>(f δ).bind fun d=>some (.rt d,δ)
@[simp] noncomputable def aC(i:Nat)(f:Dv->Option D):Sf:=fun δ=>(f δ).bind fun d=>some (.nx,δ.set i (.fz d))
@[simp] noncomputable def Pp(f:Dv->Option D):Sf:=fun δ=>(f δ).bind fun _=>some (.nx,δ)
@[simp] noncomputable def m6:Sf:=fun δ=>some (.nx,δ)
@[simp] noncomputable def Qs:Sf:=fun δ=>some (.bk,δ)
@[simp] noncomputable def Qr:Sf:=fun δ=>some (.ct,δ)
@[simp] noncomputable def ap(s t:Sf):Sf:=fun δ=>(s δ).bind fun r=>match r with
 | (.nx,δ')=>t δ'
 |r=>some r
@[simp] noncomputable def dF(t:Dv->Option Bool)(u w:Sf):Sf:=fun δ=>(t δ).bind fun c=>if c=true then u δ else w δ
noncomputable def Hy(i:Nat)(δ:Dv):Dv:=match δ[i]? with
 |some (.own (.l ds))=>δ.set i (.fz (.list ds))
 |_=>δ
@[simp] noncomputable def gN(i:Nat):D->Dv->Option Dv:=fun d δ=>some (δ.set i (.fz d))
noncomputable def loop(g:D->Dv->Option Dv)(b:Sf):List D->Sf
 |[],δ=>some (.nx,δ)
 |d::ds,δ=>(g d δ).bind fun δ1=>(b δ1).bind fun r=>match r with
  | (.nx,δ2)=>loop g b ds δ2
  | (.ct,δ2)=>loop g b ds δ2
  | (.bk,δ2)=>some (.nx,δ2)
  | (.rt x,δ2)=>some (.rt x,δ2)
@[simp] theorem MF(g:D->Dv->Option Dv)(b:Sf)(δ:Dv):loop g b [] δ = some (.nx,δ):=rfl
@[simp] noncomputable def lW(f:Dv->Option (List D))(g:D->Dv->Option Dv)(b:Sf):Sf:=fun δ=>(f δ).bind fun ds=>loop g b ds δ
noncomputable def dD(t:Dv->Option Bool)(b:Sf):Nat->Sf
 | 0,_=>none
 |n+1,δ=>(t δ).bind fun c=>if c=true then(b δ).bind fun r=>match r with
   | (.nx,δ2)=>dD t b n δ2
   | (.ct,δ2)=>dD t b n δ2
   | (.bk,δ2)=>some (.nx,δ2)
   | (.rt x,δ2)=>some (.rt x,δ2)
  else some (.nx,δ)
def oR(lo:Int)(n:Nat):List D:=(List.range n).map fun k=>.int (lo+(k:Nat))
noncomputable def bP:List D->Option (List D)
 |[.int j]=>if j<2^62 /\ -(2^62)<=j then some (oR 0 j.toNat)else none
 |_=>none
theorem rP{j:Int}(h:j<4611686018427387904)(h2:-4611686018427387904<=j):bP [.int j]=some (oR 0 j.toNat):=if_pos ⟨h,h2⟩
@[simp] noncomputable def oL(fs:Dv->Option (List D))(g:List D->Option (List D)):Dv->Option (List D):=fun δ=>(fs δ).bind g
def eA:D->Option (List D)
 |.list xs=>some xs
 |.tuple xs=>some xs
 |_=>none
@[simp] theorem Aw(xs:List D):eA (.list xs)=some xs:=rfl
@[simp] theorem wX(xs:List D):eA (.tuple xs)=some xs:=rfl
def Aq:D->Option (List D)
 |.list xs=>some xs
 |_=>none
def NN:D->Option (List D)
 |.tuple xs=>some xs
 |_=>none
@[simp] noncomputable def oI(f:Dv->Option D)(g:D->Option (List D)):Dv->Option (List D):=fun δ=>(f δ).bind g
@[simp] noncomputable def Li:Dv->Option (Option Int):=fun _=>some none
def asI:D->Option (Option Int)
 |.int i=>some (some i)
 |_=>none
@[simp] theorem NF(i:Int):asI (.int i)=some (some i):=rfl
@[simp] noncomputable def oP(f:Dv->Option D):Dv->Option (Option Int):=fun δ=>(f δ).bind asI
noncomputable def jZ(xs:List D)(lo hi:Option Int):List D:=(xs.drop (HT.sIx xs.length 0 lo)).take (HT.sIx xs.length xs.length hi-HT.sIx xs.length 0 lo)
noncomputable def DL:D->Option Int->Option Int->Option D
 |.list xs,lo,hi=>some (.list (jZ xs lo hi))
 |.tuple xs,lo,hi=>some (.tuple (jZ xs lo hi))
 |_,_,_=>none
@[simp] noncomputable def IX(f:Dv->Option D)(l u:Dv->Option (Option Int)):Dv->Option D:=fun δ=>(f δ).bind fun x=>(l δ).bind fun i=>(u δ).bind fun j=>DL x i j
def av(N:List Str)(as:List D):Dv:=as.map .fz++List.replicate (N.length-as.length) .un
noncomputable def aU(N:List Str)(n:Nat)(b:Sf):List D->Option D:=fun as=>if as.length=n then(b (av N as)).bind fun r=>match r with
  | (.rt d,_)=>some d
  | (.nx,_)=>some .none
  |_=>none
 else none
end VL
namespace VL
open PySem PySem.Spec PyProof.Rows L2
open PySem.W (codeIn keepIn kia_one mg_of)
open List (getElem?_append_left getElem?_append_right getElem?_map getElem?_replicate getElem?_set_ne getElem?_set_self lookup_cons mem_append_right size_toArray)
open Nat (le_refl lt_irrefl lt_of_lt_of_le ne_of_lt zero_le)
open PySem.Heap (get?_push_of_some lt_size)
abbrev Fg:=PySem.W.Frag
abbrev St:=L2.St
noncomputable def Qm(a C:Addr):HO:=.ext fun h=>∃o,h.get? a=some o/\o.cls=.ref C/\∃vs,o.data=.fields vs/\vs[2]? = some .none
theorem Rd.same{H H':Hp}{a:Addr}{u:HO}(h:Rd H a u)(s:Same H H'):Rd H' a u:=by
 rcases h with h|⟨o,h⟩
 ·exact .inl (s _ _ h)
 ·exact .inr ⟨o,s _ _ h⟩
inductive FI (K:Fg) (Z:Hp):V->D->Prop
 |int (i:Int):FI K Z (.int i) (.int i)
 |pair {b:Addr} {i j:Int}:SqT K Z b [.int i,.int j]->FI K Z (.ref b) (.tuple [.int i,.int j])
inductive FF (K:Fg) (Z:Hp):V->D->Prop
 |int (i:Int):FF K Z (.int i) (.int i)
 |lst {b:Addr} {xs:List V} {ds:List D}:Z b=some (.lst xs)->Paired (FI K Z) xs ds->FF K Z (.ref b) (.list ds)
inductive Opq (K:Fg) (Z:Hp) (a:Addr):List (D×D)->Prop
 |exc {n:Str} {C:Addr}:PySem.W.nsIn K mainGlobals n=some (some (.ref C))->Rd Z a (Qm a C)->Opq K Z a [(.str "exc",.str n)]
 |fn {n:Str}:PySem.W.nsIn K mainGlobals n=some (some (.ref a))->Opq K Z a [(.str "fn",.str n)]
 |ins {n:Str} {C dx:Addr} {fs:List (Str×V)} {ds:List (Str×D)}:PySem.W.nsIn K mainGlobals n=some (some (.ref C))->Z a=some (.ins C dx fs)->Paired (fun(p:Str×V) (q:Str×D)=>p.1=q.1/\FF K Z p.2 q.2) fs ds->Opq K Z a (insL n ds)
 |dct {kvs:List (D×D)} {es:List (bb×Int)}:kvs=KD es->Z a=some (.dK (es.map fun p=>(p.1,V.int p.2)))->Opq K Z a kvs
theorem Gx{es:List (bb×Int)}{a:D}{x:Str}{r:List (D×D)}(h:(a,PyData.str x)::r=KD es):False:=by
 cases es with
 |nil=>cases h
 |cons e es=>simp[KD]at h
theorem SqT.same{K:Fg}{H H':Hp}{a:Addr}{xs:List V}(h:SqT K H a xs)(s:Same H H'):SqT K H' a xs:=by
 rcases h with h|h
 ·exact .inl (Rd.same h s)
 ·exact .inr h
theorem FI.same{K:Fg}{Z Z':Hp}(s:Same Z Z'){v:V}{d:D}(h:FI K Z v d):FI K Z' v d:=by
 cases h with
 |int i=>exact .int i
 |pair q=>exact .pair (SqT.same q s)
theorem FF.same{K:Fg}{Z Z':Hp}(s:Same Z Z'){v:V}{d:D}(h:FF K Z v d):FF K Z' v d:=by
 cases h with
 |int i=>exact .int i
 |lst q r=>exact .lst (s _ _ q) (Paired.mapP r fun _ _=>FI.same s)
theorem Opq.same{K:Fg}{Z Z':Hp}{a:Addr}{kvs:List (D×D)}(s:Same Z Z')(h:Opq K Z a kvs):Opq K Z' a kvs:=by
 cases h with
 |exc h1 h2=>exact .exc h1 (Rd.same h2 s)
 |fn h1=>exact .fn h1
 |ins h1 h2 h3=>exact .ins h1 (s _ _ h2) (Paired.mapP h3 fun _ _ q=>⟨q.1,q.2.same s⟩)
 |dct h1 h2=>exact .dct h1 (s _ _ h2)
mutual
inductive Rep (K:Fg) (Z:Hp):V->D->Prop
 |non:Rep K Z .non .none
 |bl (b:Bool):Rep K Z (.bl b) (.bool b)
 |int (i:Int):Rep K Z (.int i) (.int i)
 |str (x:Str):Rep K Z (.str x) (.str x)
 |tup {a:Addr} {xs:List V} {ds:List D}:SqT K Z a xs->Reps K Z xs ds->Rep K Z (.ref a) (.tuple ds)
 |lst {a:Addr} {xs:List V} {ds:List D}:SqL K Z a xs->Reps K Z xs ds->Rep K Z (.ref a) (.list ds)
 |opq {a:Addr} {kvs:List (D×D)}:Opq K Z a kvs->Rep K Z (.ref a) (.dict kvs)
inductive Reps (K:Fg) (Z:Hp):List V->List D->Prop
 |nil:Reps K Z [] []
 |cons {v:V} {d:D} {vs:List V} {ds:List D}:Rep K Z v d->Reps K Z vs ds->Reps K Z (v::vs) (d::ds)
end
theorem SqL.same{K:Fg}{H H':Hp}{a:Addr}{xs:List V}(h:SqL K H a xs)(s:Same H H'):SqL K H' a xs:=by
 rcases h with h|h
 ·exact .inl (Rd.same h s)
 ·exact .inr h
mutual
theorem Rep.same{K:Fg}{Z Z':Hp}(s:Same Z Z'):∀{v:V} {d:D},Rep K Z v d->Rep K Z' v d
 |_,_,.non=>.non
 |_,_,.bl b=>.bl b
 |_,_,.int i=>.int i
 |_,_,.str x=>.str x
 |_,_,.tup h r=>.tup (SqT.same h s) (Reps.same s r)
 |_,_,.lst h r=>.lst (SqL.same h s) (Reps.same s r)
 |_,_,.opq h=>.opq (Opq.same s h)
theorem Reps.same{K:Fg}{Z Z':Hp}(s:Same Z Z'):∀{vs:List V} {ds:List D},Reps K Z vs ds->Reps K Z' vs ds
 |_,_,.nil=>.nil
 |_,_,.cons h r=>.cons (Rep.same s h) (Reps.same s r)
end
theorem Reps.length{K:Fg}{Z:Hp}:∀{vs:List V} {ds:List D},Reps K Z vs ds->vs.length=ds.length
 |_,_,.nil=>rfl
 |_,_,.cons _ r=>congrArg (· + 1) (Reps.length r)
theorem Reps.get{K:Fg}{Z:Hp}:∀{vs:List V} {ds:List D} {i:Nat} {d:D},Reps K Z vs ds->ds[i]? = some d->∃v,vs[i]? = some v/\Rep K Z v d
 |_,_,_,_,.nil,e=>by simp at e
 |_,_,0,_,.cons r _,e=>by simp at e;subst e;exact⟨_,rfl,r⟩
 |_,_,i+1,d,.cons _ t,e=>by
  obtain⟨u,h1,h2⟩:=Reps.get (i:=i) (d:=d) t (by simpa using e);exact⟨u,by simpa using h1,h2⟩
theorem Reps.getV{K:Fg}{Z:Hp}:∀{vs:List V} {ds:List D} {i:Nat} {v:V},Reps K Z vs ds->vs[i]? = some v->∃d,ds[i]? = some d/\Rep K Z v d
 |_,_,_,_,.nil,e=>by simp at e
 |_,_,0,_,.cons r _,e=>by simp at e;subst e;exact⟨_,rfl,r⟩
 |_,_,i+1,v,.cons _ t,e=>by
  obtain⟨u,h1,h2⟩:=Reps.getV (i:=i) (v:=v) t (by simpa using e);exact⟨u,by simpa using h1,h2⟩
theorem Reps.set{K:Fg}{Z:Hp}{x:V}{u:D}(r:Rep K Z x u):∀{xs:List V} {us:List D} (i:Nat),Reps K Z xs us->Reps K Z (xs.set i x) (us.set i u)
 |_,_,_,.nil=>.nil
 |_,_,0,.cons _ t=>.cons r t
 |_,_,i+1,.cons q t=>.cons q (Reps.set r i t)
theorem Reps.append{K:Fg}{Z:Hp}:∀{xs ys:List V} {us ws:List D},Reps K Z xs us->Reps K Z ys ws->Reps K Z (xs++ys) (us++ws)
 |_,_,_,_,.nil,s=>s
 |_,_,_,_,.cons r t,s=>.cons r (Reps.append t s)
theorem Reps.take{K:Fg}{Z:Hp}:∀{xs:List V} {us:List D} (n:Nat),Reps K Z xs us->Reps K Z (xs.take n) (us.take n)
 |_,_,0,_=>.nil
 |_,_,_+1,.nil=>.nil
 |_,_,n+1,.cons r t=>.cons r (Reps.take n t)
theorem Reps.drop{K:Fg}{Z:Hp}:∀{xs:List V} {us:List D} (n:Nat),Reps K Z xs us->Reps K Z (xs.drop n) (us.drop n)
 |_,_,0,r=>r
 |_,_,_+1,.nil=>.nil
 |_,_,n+1,.cons _ t=>Reps.drop n t
theorem Rep.int_eq{K:Fg}{Z:Hp}{v:V}{i:Int}(h:Rep K Z v (.int i)):v=.int i:=by cases h;rfl
theorem Rep.bl_eq{K:Fg}{Z:Hp}{v:V}{b:Bool}(h:Rep K Z v (.bool b)):v=.bl b:=by cases h;rfl
theorem Reps.ints{K:Fg}{Z:Hp}:∀ns:List Int,Reps K Z (ns.map V.int) (ns.map PyData.int)
 |[]=>.nil
 |n::r=>.cons (.int n) (Reps.ints r)
mutual
theorem Rep.reads{X:Cx}{pins:List (Addr×Obj)}{σ:St}{H Z:Hp}{s:Shared}(I:Inv X pins σ H s)(zh:Same Z H):∀{v:V} {d:D} {u:Value},Rep X.K Z v d->RelV v u->d.canLay0=true->∃as,Reads s.heap u d as
 |_,_,u,.non,r,_=>by cases(show u=Value.none from r);exact⟨_,.none⟩
 |_,_,u,.bl b,r,_=>by cases(show u=Value.bool b from r);exact⟨_,.bool b⟩
 |_,_,u,.int i,r,_=>by obtain⟨t,rfl⟩:=(show ∃t,u=Value.int i t from r);exact⟨_,.int i t⟩
 |_,_,u,.str x,r,_=>by obtain⟨t,rfl⟩:=(show ∃t,u=Value.str x t from r);exact⟨_,.str x t⟩
 |_,_,u,.tup (a:=a) h q,r,hc=>by
  cases(show u=Value.ref a from r);obtain⟨its,rv,ht,_⟩:=I.tuple (SqT.same h zh);obtain⟨as,ra⟩:=Reps.reads I zh q rv hc;obtain⟨o,e,c,n,dd⟩:=ht;exact⟨_,reads_tuple_at e c dd (by simpa using ra)⟩
 |_,_,u,.lst (a:=a) h q,r,hc=>by
  cases(show u=Value.ref a from r);obtain⟨its,rv,ht,_⟩:=I.list (SqL.same h zh);obtain⟨as,ra⟩:=Reps.reads I zh q rv hc;obtain⟨o,n,e,c,_,dd⟩:=ht;exact⟨_,reads_list_at e c dd (by simpa using ra)⟩
 |_,_,u,.opq h,r,hc=>by cases hc
theorem Reps.reads{X:Cx}{pins:List (Addr×Obj)}{σ:St}{H Z:Hp}{s:Shared}(I:Inv X pins σ H s)(zh:Same Z H):∀{vs:List V} {ds:List D} {us:List Value},Reps X.K Z vs ds->Vals vs us->PyData.canLayAll0 ds=true->∃as,ReadsAll s.heap us ds as
 |_,_,_,.nil,.nil,_=>⟨_,.nil⟩
 |_,_,_,.cons h q,.cons r t,hc=>by
  have hc':=Bool.and_eq_true_iff.mp hc;obtain⟨as,ha⟩:=Rep.reads I zh h r hc'.1;obtain⟨bs,hb⟩:=Reps.reads I zh q t hc'.2;exact⟨_,.cons ha hb⟩
end
def FD:HO->Bool
 |.frz _ (.lst _)=>false
 |_=>true
def NoF(Z Z':Hp):Prop:=∀b o xs,Z' b=some (.frz o (.lst xs))->Z b=some (.frz o (.lst xs))
theorem NoF.refl(Z:Hp):NoF Z Z:=fun _ _ _ e=>e
theorem NoF.trans{Z Z1 Z2:Hp}(a:NoF Z Z1)(b:NoF Z1 Z2):NoF Z Z2:=fun c o xs e=>a c o xs (b c o xs e)
theorem NoF.upd{Z Z':Hp}(a:NoF Z Z')(p:Addr){u:HO}(hu:FD u=true:=by rfl):NoF Z (upd Z' p u):=fun b o xs e=>by
 by_cases hb:b=p
 ·subst hb
  rw[aN]at e;cases e;cases hu
 ·rw[aA hb]at e
  exact a b o xs e
structure New (Z H Z' H':Hp):Prop where
 z:Same Z Z'
 h:Same H H'
 zh:Same Z' H'
 o:∀b,H b≠none->Z' b=Z b
 nf:NoF Z Z'
theorem New.refl{Z H:Hp}(zh:Same Z H):New Z H Z H:=⟨Same.refl _,Same.refl _,zh,fun _ _=>rfl,NoF.refl _⟩
theorem gg{H:Hp}{p:Addr}{o:HO}(h:H p=none):Same H (upd H p o):=fun b u e=>by
 rw[aA (aW e h)];exact e
theorem lu{Z H:Hp}(zh:Same Z H){p:Addr}(h:H p=none):Z p=none:=by
 cases e:Z p with
 |none=>rfl
 |some o=>rw[zh p o e]at h;cases h
theorem New.add{Z H:Hp}(zh:Same Z H){p:Addr}(hp:H p=none)(o:HO)(hf:FD o=true:=by rfl):New Z H (upd Z p o) (upd H p o) where
 nf:=(NoF.refl Z).upd p hf
 z:=gg (lu zh hp)
 h:=gg hp
 zh:=fun b u e=>by
  by_cases hb:b=p
  ·subst hb;rw[aN]at e ⊢;exact e
  ·rw[aA hb]at e ⊢;exact zh b u e
 o:=fun b hb=>by
  have:b≠p:=fun z=>hb (z ▸ hp)
  rw[aA this]
def nE(K:Fg)(Z:Hp)(kvs:List (bb×V))(es:List (bb×D)):Prop:=es.map (·.1)=kvs.map (·.1)/\Reps K Z (kvs.map (·.2)) (es.map (·.2))
inductive OwR (K:Fg) (Z:Hp):HO->Oc->Prop
 |lst {xs:List V} {ds:List D}:Reps K Z xs ds->OwR K Z (.lst xs) (.l ds)
 |dct {kvs:List (bb×V)} {es:List (bb×D)}:nE K Z kvs es->OwR K Z (.dK kvs) (.d es)
theorem OwR.same{K:Fg}{Z Z':Hp}{o:HO}{c:Oc}(h:OwR K Z o c)(s:Same Z Z'):OwR K Z' o c:=by
 cases h with
 |lst r=>exact .lst (r.same s)
 |dct r=>exact .dct ⟨r.1,r.2.same s⟩
def FrOk(K:Fg)(H₀ Z₀ Z:Hp)(δ:Dv)(σ:St):Prop:=∀(i:Nat) ds,δ[i]? = some (.fr ds)->∃a xs,σ[i]? = some (some (.ref a))/\H₀ a=none/\Z₀ a=none/\Z a=some (.lst xs)/\Reps K Z xs ds
theorem FrOk.same{K:Fg}{H₀ Z₀ Z Z':Hp}{δ:Dv}{σ:St}(h:FrOk K H₀ Z₀ Z δ σ)(s:Same Z Z'):FrOk K H₀ Z₀ Z' δ σ:=fun i ds e=>
 let ⟨a,xs,h1,h2,h3,h4,h5⟩:=h i ds e; ⟨a,xs,h1,h2,h3,s _ _ h4,h5.same s⟩
theorem FrOk.put{K:Fg}{H₀ Z₀ Z:Hp}{δ:Dv}{σ σ':St}(h:FrOk K H₀ Z₀ Z δ σ){i:Nat}{x:Sl}(hx:∀ds,x≠Sl.fr ds)(hs:∀j:Nat,i≠j -> σ'[j]? = σ[j]?):FrOk K H₀ Z₀ Z (δ.set i x) σ':=fun j ds e=>by
 by_cases hj:i=j
 ·subst hj
  have hl:i < δ.length:=by have:=(List.getElem?_eq_some_iff.mp e).1;simpa using this
  rw[getElem?_set_self hl]at e;exact absurd (Option.some.inj e) (hx ds)
 ·rw[getElem?_set_ne hj]at e
  obtain⟨a,xs,h1,r⟩:=h j ds e;exact⟨a,xs,by rw[hs j hj];exact h1,r⟩
structure Hold (K:Fg) (H₀ Z₀ Z:Hp) (δ:Dv) (σ:St) (H:Hp):Prop where
 zh:Same Z H
 h0:Same H₀ H
 z0:Same Z₀ Z
 zb:∀b,H₀ b≠none->Z b=Z₀ b
 len:δ.length = σ.length
 fz:∀(i:Nat) d,δ[i]? = some (.fz d)->∃v,σ[i]? = some (some v)/\Rep K Z v d
 own:∀(i:Nat) c,δ[i]? = some (.own c)->∃a o,σ[i]? = some (some (.ref a))/\H₀ a=none/\Z a=none/\H a=some o/\OwR K Z o c
 dja:∀(i j:Nat) c c' a,i≠j -> δ[i]? = some (.own c) -> δ[j]? = some (.own c') -> σ[i]? = some (some (.ref a)) -> σ[j]? ≠ some (some (V.ref a))
 fr:FrOk K H₀ Z₀ Z δ σ
 nf:NoF Z₀ Z
section
variable{K:Fg}{H₀ Z₀ Z Z' H H':Hp}{δ:Dv}{σ:St}
theorem Hold.ow(h:Hold K H₀ Z₀ Z δ σ H)(i:Nat)(ds:List D)(e:δ[i]? = some (.ow ds)):∃a xs,σ[i]? = some (some (.ref a))/\H₀ a=none/\Z a=none/\H a=some (.lst xs)/\Reps K Z xs ds:=by
 obtain⟨a,o,h1,h2,h3,h4,h5⟩:=h.own i _ e;cases h5 with
 |lst r=>exact⟨a,_,h1,h2,h3,h4,r⟩
theorem Hold.od(h:Hold K H₀ Z₀ Z δ σ H)(i:Nat)(es:List (bb×D))(e:δ[i]? = some (.od es)):∃a kvs,σ[i]? = some (some (.ref a))/\H₀ a=none/\Z a=none/\H a=some (.dK kvs)/\nE K Z kvs es:=by
 obtain⟨a,o,h1,h2,h3,h4,h5⟩:=h.own i _ e;cases h5 with
 |dct r=>exact⟨a,_,h1,h2,h3,h4,r⟩
theorem Hold.new(h:Hold K H₀ Z₀ Z δ σ H)(n:New Z H Z' H'):Hold K H₀ Z₀ Z' δ σ H' where
 zh:=n.zh
 h0:=h.h0.trans n.h
 z0:=h.z0.trans n.z
 zb:=fun b hb=>by
  have:H b≠none:=by
   cases e:H₀ b with
   |none=>exact absurd e hb
   |some o=>rw[h.h0 b o e];intro z;cases z
  rw[n.o b this,h.zb b hb]
 len:=h.len
 fz:=fun i d e=>let ⟨v,a,r⟩:=h.fz i d e; ⟨v,a,r.same n.z⟩
 own:=fun i ds e=>by
  obtain⟨a,xs,h1,h2,h3,h4,h5⟩:=h.own i ds e;exact⟨a,xs,h1,h2,by rw[n.o a (by rw[h4];intro z;cases z)];exact h3,n.h a _ h4,h5.same n.z⟩
 dja:=h.dja
 fr:=h.fr.same n.z
 nf:=h.nf.trans n.nf
theorem Hold.set(h:Hold K H₀ Z₀ Z δ σ H){i:Nat}{v:V}{d:D}(r:Rep K Z v d):Hold K H₀ Z₀ Z (δ.set i (.fz d)) (σ.set i (some v)) H where
 zh:=h.zh
 h0:=h.h0
 z0:=h.z0
 zb:=h.zb
 len:=by simp[h.len]
 fz:=fun j e q=>by
  by_cases hj:i=j
  ·subst hj
   have hl:i < δ.length:=by
    have:=(List.getElem?_eq_some_iff.mp q).1;simpa using this
   rw[getElem?_set_self hl]at q;cases q;exact⟨v,getElem?_set_self (by rw[<-h.len];exact hl),r⟩
  ·rw[getElem?_set_ne hj]at q
   obtain⟨u,a,b⟩:=h.fz j e q;exact⟨u,by rw[getElem?_set_ne hj];exact a,b⟩
 own:=fun j es q=>by
  by_cases hj:i=j
  ·subst hj
   have hl:i < δ.length:=by
    have:=(List.getElem?_eq_some_iff.mp q).1;simpa using this
   rw[getElem?_set_self hl]at q;cases q
  ·rw[getElem?_set_ne hj]at q ⊢
   exact h.own j es q
 dja:=fun j k ds es a hjk q1 q2=>by
  by_cases hj:i=j
  ·subst hj
   have hl:i < δ.length:=by
    have:=(List.getElem?_eq_some_iff.mp q1).1;simpa using this
   rw[getElem?_set_self hl]at q1;cases q1
  ·by_cases hk:i=k
   ·subst hk
    have hl:i < δ.length:=by
     have:=(List.getElem?_eq_some_iff.mp q2).1;simpa using this
    rw[getElem?_set_self hl]at q2;cases q2
   ·rw[getElem?_set_ne hj]at q1
    rw[getElem?_set_ne hk]at q2;rw[getElem?_set_ne hj,getElem?_set_ne hk];exact h.dja j k ds es a hjk q1 q2
 fr:=h.fr.put (fun _ z=>nomatch z) fun _ hj=>getElem?_set_ne hj
 nf:=h.nf
theorem Hold.setW(h:Hold K H₀ Z₀ Z δ σ H){i:Nat}{p:Addr}{o:HO}{c:Oc}(hp:H p=none)(r:OwR K Z o c):Hold K H₀ Z₀ Z (δ.set i (.own c)) (σ.set i (some (.ref p))) (upd H p o) where
 zh:=h.zh.trans (gg hp)
 h0:=h.h0.trans (gg hp)
 z0:=h.z0
 zb:=h.zb
 len:=by simp[h.len]
 fz:=fun j e q=>by
  by_cases hj:i=j
  ·subst hj
   have hl:i < δ.length:=by
    have:=(List.getElem?_eq_some_iff.mp q).1;simpa using this
   rw[getElem?_set_self hl]at q;cases q
  ·rw[getElem?_set_ne hj]at q
   obtain⟨u,a,b⟩:=h.fz j e q;exact⟨u,by rw[getElem?_set_ne hj];exact a,b⟩
 own:=fun j es q=>by
  by_cases hj:i=j
  ·subst hj
   have hl:i < δ.length:=by
    have:=(List.getElem?_eq_some_iff.mp q).1;simpa using this
   rw[getElem?_set_self hl]at q;cases q;exact⟨p,o,getElem?_set_self (by rw[<-h.len];exact hl),lu h.h0 hp,lu h.zh hp,aN,r⟩
  ·rw[getElem?_set_ne hj]at q ⊢
   obtain⟨a,ys,h1,h2,h3,h4,h5⟩:=h.own j es q;exact⟨a,ys,h1,h2,h3,by rw[aA (aW h4 hp)];exact h4,h5⟩
 dja:=fun j k ds es a hjk q1 q2=>by
  have old:∀{m:Nat} {fs:Oc},δ[m]? = some (.own fs) -> σ[m]? ≠ some (some (V.ref p)):=fun{m fs} q z=>by
   obtain⟨b,ys,h1,h2,h3,h4,h5⟩:=h.own m fs q;rw[h1]at z;cases z;rw[hp]at h4;cases h4
  have hl:∀{m:Nat} {x:Sl},(δ.set i x)[m]? ≠ none->m < σ.length:=fun{m x} q=>by
   have:m<(δ.set i x).length:=by
    rcases Nat.lt_or_ge m (δ.set i x).length with g|g
    ·exact g
    ·exact absurd (List.getElem?_eq_none_iff.mpr g) q
   rw[<-h.len];simpa using this
  by_cases hj:i=j
  ·subst hj
   have h1:i < σ.length:=hl (by rw[q1];intro z;cases z);rw[getElem?_set_self h1];intro e;cases e;rw[getElem?_set_ne hjk]at q2 ⊢;exact old q2
  ·rw[getElem?_set_ne hj]at q1 ⊢
   by_cases hk:i=k
   ·subst hk
    have h1:i < σ.length:=hl (by rw[q2];intro z;cases z);intro e z;rw[getElem?_set_self h1]at z;cases z;exact old q1 e
   ·rw[getElem?_set_ne hk]at q2 ⊢
    exact h.dja j k ds es a hjk q1 q2
 fr:=h.fr.put (fun _ z=>nomatch z) fun _ hj=>getElem?_set_ne hj
 nf:=h.nf
theorem Hold.setO(h:Hold K H₀ Z₀ Z δ σ H){i:Nat}{p:Addr}{xs:List V}{ds:List D}(hp:H p=none)(r:Reps K Z xs ds):Hold K H₀ Z₀ Z (δ.set i (.ow ds)) (σ.set i (some (.ref p))) (upd H p (.lst xs)):=h.setW hp (.lst r)
theorem Hold.chgW(h:Hold K H₀ Z₀ Z δ σ H){i:Nat}{p:Addr}{o:HO}{ds es:Oc}(e:δ[i]? = some (.own ds))(ep:σ[i]? = some (some (.ref p)))(r:OwR K Z o es):Hold K H₀ Z₀ Z (δ.set i (.own es)) σ (upd H p o):=by
 obtain⟨a,zs,h1,h2,h3,h4,h5⟩:=h.own i ds e;rw[ep]at h1;cases h1;have hl:i < δ.length:=(List.getElem?_eq_some_iff.mp e).1;refine⟨fun b o' q=>?_,fun b o' q=>?_,h.z0,h.zb,by simp[h.len],fun j d q=>?_,fun j d q=>?_,fun j k d1 d2 a hjk q1 q2=>?_,h.fr.put (fun _ z=>nomatch z) fun _ _=>rfl,h.nf⟩
 ·rw[aA (aW q h3)];exact h.zh b o' q
 ·rw[aA (aW q h2)];exact h.h0 b o' q
 ·by_cases hj:i=j
  ·subst hj
   rw[getElem?_set_self hl]at q;cases q
  ·rw[getElem?_set_ne hj]at q
   exact h.fz j d q
 ·by_cases hj:i=j
  ·subst hj
   rw[getElem?_set_self hl]at q;cases q;exact⟨p,o,ep,h2,h3,aN,r⟩
  ·rw[getElem?_set_ne hj]at q
   obtain⟨b,ws,g1,g2,g3,g4,g5⟩:=h.own j d q;refine⟨b,ws,g1,g2,g3,?_,g5⟩;have:b≠p:=fun z=>by subst z;exact h.dja i j ds d b hj e q ep g1
   rw[aA this];exact g4
 ·have f:∀{m:Nat} {dm:Oc},(δ.set i (.own es))[m]? = some (.own dm)->∃dm',δ[m]? = some (.own dm'):=fun{m dm} q=>by
   by_cases hm:i=m
   ·subst hm;exact⟨ds,e⟩
   ·rw[getElem?_set_ne hm]at q;exact⟨dm,q⟩
  obtain⟨e1,g1⟩:=f q1;obtain⟨e2,g2⟩:=f q2;exact h.dja j k e1 e2 a hjk g1 g2
theorem Hold.chg(h:Hold K H₀ Z₀ Z δ σ H){i:Nat}{p:Addr}{xs ys:List V}{ds es:List D}(e:δ[i]? = some (.ow ds))(ep:σ[i]? = some (some (.ref p)))(r:Reps K Z ys es):Hold K H₀ Z₀ Z (δ.set i (.ow es)) σ (upd H p (.lst ys)):=h.chgW e ep (.lst r)
theorem Hold.frz(h:Hold K H₀ Z₀ Z δ σ H){i:Nat}{ds:List D}(e:δ[i]? = some (.ow ds)):∃Z',Same Z Z'/\Hold K H₀ Z₀ Z' (δ.set i (.fz (.list ds))) σ H:=by
 obtain⟨a,xs,h1,h2,h3,h4,h5⟩:=h.ow i ds e;have hl:i < δ.length:=(List.getElem?_eq_some_iff.mp e).1;have sz:Same Z (upd Z a (.lst xs)):=gg h3;refine⟨upd Z a (.lst xs),sz,fun b o q=>?_,h.h0,h.z0.trans sz,fun b hb=>?_,by simp[h.len],fun j d q=>?_,fun j d q=>?_,fun j k d1 d2 b hjk q1 q2=>?_,(h.fr.same sz).put (fun _ z=>nomatch z) fun _ _=>rfl,h.nf.upd a⟩
 ·by_cases hb:b=a
  ·subst hb;rw[aN]at q;cases q;exact h4
  ·rw[aA hb]at q;exact h.zh b o q
 ·rw[aA (fun z=>hb (by rw[z];exact h2))];exact h.zb b hb
 ·by_cases hj:i=j
  ·subst hj
   rw[getElem?_set_self hl]at q;cases q;exact⟨.ref a,h1,.lst (SqL.of aN) (h5.same sz)⟩
  ·rw[getElem?_set_ne hj]at q
   obtain⟨v,g1,g2⟩:=h.fz j d q;exact⟨v,g1,g2.same sz⟩
 ·by_cases hj:i=j
  ·subst hj
   rw[getElem?_set_self hl]at q;cases q
  ·rw[getElem?_set_ne hj]at q
   obtain⟨b,ws,g1,g2,g3,g4,g5⟩:=h.own j d q;have:b≠a:=fun z=>by subst z;exact h.dja i j _ d b hj e q h1 g1
   exact⟨b,ws,g1,g2,by rw[aA this];exact g3,g4,g5.same sz⟩
 ·by_cases hj:i=j
  ·subst hj
   rw[getElem?_set_self hl]at q1;cases q1
  ·by_cases hk:i=k
   ·subst hk
    rw[getElem?_set_self hl]at q2;cases q2
   ·rw[getElem?_set_ne hj]at q1
    rw[getElem?_set_ne hk]at q2;exact h.dja j k d1 d2 b hjk q1 q2
end
def tV(K:Fg)(f:Dv->Option D):TE:=fun σ H Q=>∃H₀ Z₀ Z δ d,Hold K H₀ Z₀ Z δ σ H/\f δ = some d/\∀v Z' H',Hold K H₀ Z₀ Z' δ σ H'->Same Z Z'->Rep K Z' v d->Q v H'
def Ly(K:Fg)(f:Dv->Option Bool):TT:=fun σ H Q=>∃H₀ Z₀ Z δ b,Hold K H₀ Z₀ Z δ σ H/\f δ = some b/\∀Z' H',Hold K H₀ Z₀ Z' δ σ H'->Same Z Z'->Q b H'
def Pl(K:Fg)(f:Dv->Option (List D)):TA:=fun σ H Q=>∃H₀ Z₀ Z δ ds,Hold K H₀ Z₀ Z δ σ H/\f δ = some ds/\∀vs Z' H',Hold K H₀ Z₀ Z' δ σ H'->Same Z Z'->Reps K Z' vs ds->Q vs H'
def Fl.to(K:Fg)(Z:Hp)(D:Ends)(σ:St)(H:Hp):Fl->Prop
 |.nx=>D.nx σ H
 |.bk=>D.bk σ H
 |.ct=>D.ct σ H
 |.rt d=>∀v,Rep K Z v d->D.rt v H
def K9(K:Fg)(f:Dv->Option (Fl×Dv)):TS:=fun D σ H=>∃H₀ Z₀ Z δ r,Hold K H₀ Z₀ Z δ σ H/\f δ = some r/\∀ σ' H' Z',Hold K H₀ Z₀ Z' r.2 σ' H'->Same Z Z'->r.1.to K Z' D σ' H'
def EV(X:Cx)(e:Expr)(f:Dv->Option D):Prop:=PE X e (tV X.K f)
def TV(X:Cx)(e:Expr)(f:Dv->Option Bool):Prop:=PT X e (Ly X.K f)
def AV(X:Cx)(es:List Expr)(f:Dv->Option (List D)):Prop:=PA X es (Pl X.K f)
def SV(X:Cx)(st:Stmt)(f:Dv->Option (Fl×Dv)):Prop:=PS X st (K9 X.K f)
def BV(X:Cx)(st:List Stmt)(f:Dv->Option (Fl×Dv)):Prop:=PSs X st (K9 X.K f)
theorem PE.imp{X:Cx}{e:Expr}{t t':TE}(h:PE X e t)(i:∀ σ H Q,t' σ H Q->t σ H Q):PE X e t':=fun pins s σ H Q I hw=>h pins s σ H Q I (i _ _ _ hw)
theorem PT.imp{X:Cx}{e:Expr}{t t':TT}(h:PT X e t)(i:∀ σ H Q,t' σ H Q->t σ H Q):PT X e t':=fun pins s σ H Q I hw=>h pins s σ H Q I (i _ _ _ hw)
theorem PA.imp{X:Cx}{es:List Expr}{t t':TA}(h:PA X es t)(i:∀ σ H Q,t' σ H Q->t σ H Q):PA X es t':=fun pos pins s σ H Q I hw=>h pos pins s σ H Q I (i _ _ _ hw)
theorem PS.imp{X:Cx}{st:Stmt}{t t':TS}(h:PS X st t)(i:∀D σ H,t' D σ H->t D σ H):PS X st t':=fun pins s σ H D I hw=>h pins s σ H D I (i _ _ _ hw)
theorem PSs.imp{X:Cx}{st:List Stmt}{t t':TS}(h:PSs X st t)(i:∀D σ H,t' D σ H->t D σ H):PSs X st t':=fun pins s σ H D I hw=>h pins s σ H D I (i _ _ _ hw)
theorem OpR.imp{X:Cx}{f:Value->Value->Sem Value}{r r':R2}(h:OpR X f r)(i:∀x y H Q,r' x y H Q->r x y H Q):OpR X f r':=fun pins s σ H x y v u Q I rx ry q=>h pins s σ H x y v u Q I rx ry (i _ _ _ _ q)
theorem CallR.imp{X:Cx}{f:Value}{r r':List V->Hp->VK->Prop}(h:CallR X f r)(i:∀xs H Q,r' xs H Q->r xs H Q):CallR X f r':=fun pins s σ H xs us Q I rx q=>h pins s σ H xs us Q I rx (i _ _ _ q)
def rD(K:Fg)(g:D->D->Option D):R2:=fun x y H Q=>∃Z a b d,Same Z H/\Rep K Z x a/\Rep K Z y b/\g a b=some d/\∀v Z' H',New Z H Z' H'->Rep K Z' v d->Q v H'
def Pq(K:Fg)(g:D->Option D):V->Hp->VK->Prop:=fun x H Q=>∃Z a d,Same Z H/\Rep K Z x a/\g a=some d/\∀v Z' H',New Z H Z' H'->Rep K Z' v d->Q v H'
def G7(K:Fg)(g:List D->Option D):List V->Hp->VK->Prop:=fun xs H Q=>∃Z as d,Same Z H/\Reps K Z xs as/\g as=some d/\∀v Z' H',New Z H Z' H'->Rep K Z' v d->Q v H'
def iE(K:Fg)(g:List D->Option D):Sp:=fun vs H Q _=>G7 K g vs H Q
section
variable{X:Cx}{a b c e:Expr}{es:List Expr}{pos p:Pos}{f f1 f2 f3:Dv->Option D}{fs:Dv->Option (List D)}{ft fu:Dv->Option Bool}
theorem bind_some{α β:Type}{o:Option α}{k:α -> Option β}{r:β}(h:o.bind k=some r):∃a,o=some a/\k a=some r:=by
 cases o with
 |none=>cases h
 |some a=>exact⟨a,rfl,h⟩
theorem two{K:Fg}{g:D->D->Option D}{σ:St}{H:Hp}{Q:VK}{r:R2}(hr:∀x y H Q,rD K g x y H Q->r x y H Q)(h:tV K (o2 f1 f2 g) σ H Q):LC r (tV K f1) (tV K f2) σ H Q:=by
 obtain⟨H₀,Z₀,Z,δ,d,hh,e,k⟩:=h;obtain⟨x,e1,e⟩:=bind_some e;obtain⟨y,e2,e⟩:=bind_some e;refine⟨H₀,Z₀,Z,δ,x,hh,e1,fun v Z1 H1 hh1 s1 r1=>⟨H₀,Z₀,Z1,δ,y,hh1,e2,fun u Z2 H2 hh2 s2 r2=>hr _ _ _ _ ⟨Z2,x,y,d,hh2.zh,r1.same s2,r2,e,fun w Z3 H3 n r3=>?_⟩⟩⟩
 exact k w Z3 H3 (hh2.new n) ((s1.trans s2).trans n.z) r3
theorem af{op:Operator}{g:D->D->Option D}(ho:OpR X (binaryOp op) (rD X.K g))(ha:EV X a f1)(hb:EV X b f2):EV X (.BinOp a op b pos) (o2 f1 f2 g):=
 PE.imp (Ha ho ha hb) fun _ _ _ h=>two (fun _ _ _ _ q=>q) h
theorem p6{op:UnaryOp}{g:D->Option D}(ho:Ni X (unaryOp op) (Pq X.K g))(ha:EV X a f):EV X (.UnaryOp op a pos) (o1 f g):=
 PE.imp (Mb ho ha) fun σ H Q h=>by
  obtain⟨H₀,Z₀,Z,δ,d,hh,e,k⟩:=h;obtain⟨x,e1,e⟩:=bind_some e;exact⟨H₀,Z₀,Z,δ,x,hh,e1,fun v Z1 H1 hh1 s1 r1=>⟨Z1,x,d,hh1.zh,r1,e,fun w Z3 H3 n r3=>k w Z3 H3 (hh1.new n) (s1.trans n.z) r3⟩⟩
theorem Dl{op:CmpOp}{g:D->D->Option D}(ho:OpR X (compareOp op) (rD X.K g))(ha:EV X a f1)(hb:EV X b f2)(hm:behindInMarks op b=false):EV X (.Compare a [op] [b] pos) (o2 f1 f2 g):=
 PE.imp (Fa ho ha hb hm) fun _ _ _ h=>two (fun _ _ _ _ q=>q) h
theorem xF{d:D}{b:Bool}(h:asB d=some b):d=.bool b:=by
 cases d<;>simp[asB]at h;subst h;rfl
theorem Pi{K:Fg}{σ:St}{H:Hp}{Q:Bool->Hp->Prop}(h:Ly K (ob f) σ H Q):tV K f σ H fun x H1=>∃c,x=.bl c/\Q c H1:=by
 obtain⟨H₀,Z₀,Z,δ,d,hh,e,k⟩:=h;obtain⟨x,e1,e⟩:=bind_some e;have:=xF e;subst this;exact⟨H₀,Z₀,Z,δ,_,hh,e1,fun v Z1 H1 hh1 s1 r1=>⟨_,r1.bl_eq,k Z1 H1 hh1 s1⟩⟩
theorem aH{op:CmpOp}{g:D->D->Option D}(ho:OpR X (compareOp op) (rD X.K g))(ha:EV X a f1)(hb:EV X b f2)(hm:behindInMarks op b=false):TV X (.Compare a [op] [b] pos) (ob (o2 f1 f2 g)):=
 PT.imp (ET ho ha hb hm) fun σ H Q h=>by
  have h':=Pi h;exact two (f1:=f1) (f2:=f2) (g:=g) (fun _ _ _ _ q=>q) h'
theorem oq(ha:EV X a f)(he:∀whole,isTrue a X.env whole=(do let v <-whole;standAt a.pos;holding [v] (truthy v)):=by intro _;rfl):TV X a (ob f):=
 PT.imp (Iu ha he) fun _ _ _ h=>Pi h
def WV(X:Cx)(e:Expr)(f:Dv->Option Bool):Prop:=PW X e (Ly X.K f)
theorem PW.imp{X:Cx}{e:Expr}{t t':TT}(h:PW X e t)(i:∀ σ H Q,t' σ H Q->t σ H Q):PW X e t':=fun whole pins s σ H Q I hw=>h whole pins s σ H Q I (i _ _ _ hw)
theorem sI(ha:TV X a ft):WV X (.BoolOp .And [a] pos) ft:=ER ha
theorem sH(ha:TV X a ft):WV X (.BoolOp .Or [a] pos) ft:=Iq ha
theorem sJ{rest:List Expr}(ha:TV X a ft)(hb:WV X (.BoolOp .And (b::rest) pos) fu):WV X (.BoolOp .And (a::b::rest) pos) (vk ft fu):=
 PW.imp (Ir ha hb) fun σ H Q h=>by
  obtain⟨H₀,Z₀,Z,δ,d,hh,e,k⟩:=h;obtain⟨x,e1,e⟩:=bind_some e;refine⟨H₀,Z₀,Z,δ,x,hh,e1,fun Z1 H1 hh1 s1=>?_⟩
  cases x with
  |true=>exact⟨H₀,Z₀,Z1,δ,d,hh1,e,fun Z2 H2 hh2 s2=>k Z2 H2 hh2 (s1.trans s2)⟩
  |false=>cases e;exact k Z1 H1 hh1 s1
theorem rB{rest:List Expr}(ha:TV X a ft)(hb:WV X (.BoolOp .Or (b::rest) pos) fu):WV X (.BoolOp .Or (a::b::rest) pos) (Af ft fu):=
 PW.imp (L9 ha hb) fun σ H Q h=>by
  obtain⟨H₀,Z₀,Z,δ,d,hh,e,k⟩:=h;obtain⟨x,e1,e⟩:=bind_some e;refine⟨H₀,Z₀,Z,δ,x,hh,e1,fun Z1 H1 hh1 s1=>?_⟩
  cases x with
  |true=>cases e;exact k Z1 H1 hh1 s1
  |false=>exact⟨H₀,Z₀,Z1,δ,d,hh1,e,fun Z2 H2 hh2 s2=>k Z2 H2 hh2 (s1.trans s2)⟩
theorem WV.tv(h:WV X a ft):TV X a ft:=PW.pt h
theorem ot(ha:TV X a ft):TV X (.UnaryOp .Not a pos) (tK ft):=
 PT.imp (Iv ha) fun σ H Q h=>by
  obtain⟨H₀,Z₀,Z,δ,d,hh,e,k⟩:=h;cases e1:ft δ with
  |none=>unfold tK at e;rw[e1]at e;cases e
  |some x=>
   unfold tK at e;rw[e1]at e;cases e;exact⟨H₀,Z₀,Z,δ,x,hh,e1,fun Z1 H1 hh1 s1=>k Z1 H1 hh1 s1⟩
theorem Dj{op}(h:EV X a f):EV X (.BoolOp op [a] pos) f:=IE h
theorem Dm{rest:List Expr}(ha:EV X a f1)(hb:EV X (.BoolOp .And (b::rest) pos) f2):EV X (.BoolOp .And (a::b::rest) pos) (Co f1 f2):=
 PE.imp (II ha hb) fun σ H Q h=>by
  obtain⟨H₀,Z₀,Z,δ,d,hh,e,k⟩:=h;obtain⟨x,e1,e⟩:=bind_some e;obtain⟨c,e2,e⟩:=bind_some e;have:=xF e2;subst this;refine⟨H₀,Z₀,Z,δ,_,hh,e1,fun v Z1 H1 hh1 s1 r1=>⟨c,r1.bl_eq,?_⟩⟩
  cases c with
  |true=>exact⟨H₀,Z₀,Z1,δ,d,hh1,e,fun v Z2 H2 hh2 s2 r2=>k v Z2 H2 hh2 (s1.trans s2) r2⟩
  |false=>cases e;exact k _ Z1 H1 hh1 s1 (.bl false)
theorem Kz(ha:EV X a f):EV X (.UnaryOp .Not a pos) (o1 f Fz):=
 PE.imp (IF ha) fun σ H Q h=>by
  obtain⟨H₀,Z₀,Z,δ,d,hh,e,k⟩:=h;obtain⟨x,e1,e⟩:=bind_some e;cases e2:asB x with
  |none=>unfold Fz at e;rw[e2]at e;cases e
  |some c=>
   unfold Fz at e;rw[e2]at e;cases e;have:=xF e2;subst this;exact⟨H₀,Z₀,Z,δ,_,hh,e1,fun v Z1 H1 hh1 s1 r1=>⟨c,r1.bl_eq,k _ Z1 H1 hh1 s1 (.bl _)⟩⟩
theorem Hold.read{K:Fg}{H₀ Z₀ Z H:Hp}{δ:Dv}{σ:St}(hh:Hold K H₀ Z₀ Z δ σ H){i:Nat}{d:D}(h:oV i δ = some d):∃v,σ[i]? = some (some v)/\Rep K Z v d:=by
 unfold oV at h;cases q:δ[i]? with
 |none=>rw[q]at h;cases h
 |some x=>
  rw[q]at h;cases x with
  |fz e=>cases h;exact hh.fz i _ q
  |un=>cases h
  |own _=>cases h
  |fr ds=>
   cases h;obtain⟨a,xs,h1,_,_,h4,h5⟩:=hh.fr i ds q;exact⟨.ref a,h1,.lst (SqL.of h4) h5⟩
theorem aa(i:Nat){x:Str}(hN:X.N[i]? = some x:=by rfl)(hv:xJ X.env.scope x:=by first|exact Or.inl rfl|exact Or.inr (Or.inl rfl)|exact Or.inr (Or.inr rfl))(hd:(x==("__debug__":Str))=false:=by decide)(hcd:(x==("__classdict__":Str))=false:=by decide):
  EV X (.Name x pos) (oV i):=
 PE.imp (eQ hN hv hd hcd) fun σ H Q h=>by
  obtain⟨H₀,Z₀,Z,δ,d,hh,e,k⟩:=h;obtain⟨v,q,r⟩:=hh.read e;exact⟨v,q,k v Z H hh (Same.refl _) r⟩
theorem Go{d:D}{v:V}(h:PE X e (tC v))(r:∀Z,Rep X.K Z v d):EV X e (oC d):=
 PE.imp h fun σ H Q h=>by
  obtain⟨H₀,Z₀,Z,δ,d',hh,e,k⟩:=h;cases e;exact k v Z H hh (Same.refl _) (r Z)
theorem ac{i j}:EV X (.Constant (.int i) j pos) (oC (.int i)):=Go IG fun _=>.int i
theorem vK{i j}:EV X (.Constant (.bool i) j pos) (oC (.bool i)):=Go Mc fun _=>.bl i
theorem bM{i j}:EV X (.Constant (.str i) j pos) (oC (.str i)):=Go ID fun _=>.str i
theorem ae:AV X [] ao:=
 PA.imp ki fun σ H Q h=>by
  obtain⟨H₀,Z₀,Z,δ,d,hh,e,k⟩:=h;cases e;exact k [] Z H hh (Same.refl _) .nil
theorem ab(ha:EV X e f)(hr:AV X es fs)(hs:starEach (e::es) X.env=(false,eval e X.env)::starEach es X.env:=by rfl):AV X (e::es) (ad f fs):=
 PA.imp (gQ ha hr hs) fun σ H Q h=>by
  obtain⟨H₀,Z₀,Z,δ,d,hh,e,k⟩:=h;obtain⟨x,e1,e⟩:=bind_some e;obtain⟨xs,e2,e⟩:=bind_some e;cases e;exact⟨H₀,Z₀,Z,δ,x,hh,e1,fun v Z1 H1 hh1 s1 r1=>⟨H₀,Z₀,Z1,δ,xs,hh1,e2,fun vs Z2 H2 hh2 s2 r2=>k _ Z2 H2 hh2 (s1.trans s2) (.cons (r1.same s2) r2)⟩⟩
theorem aF{x1}(h:AV X es fs):EV X (.Tuple es x1 pos) (os fs bn):=
 PE.imp (IC h) fun σ H Q h=>by
  obtain⟨H₀,Z₀,Z,δ,d,hh,e,k⟩:=h;obtain⟨xs,e1,e⟩:=bind_some e;refine⟨H₀,Z₀,Z,δ,xs,hh,e1,fun vs Z1 H1 hh1 s1 r1=>?_⟩
  by_cases hl:xs.length<=sizeLine
  ·rw[bn,if_pos hl]at e
   cases e;refine⟨by rw[r1.length];exact hl,fun p hp=>?_⟩
   have n:=New.add hh1.zh hp (.tup vs);exact k _ _ _ (hh1.new n) (s1.trans n.z) (.tup (SqT.of aN) (r1.same n.z))
  ·rw[bn,if_neg hl]at e;cases e
theorem jp(h:AV X es fs):EV X (.List es pos) (os fs gG):=
 PE.imp (wD h) fun σ H Q h=>by
  obtain⟨H₀,Z₀,Z,δ,d,hh,e,k⟩:=h;obtain⟨xs,e1,e⟩:=bind_some e;refine⟨H₀,Z₀,Z,δ,xs,hh,e1,fun vs Z1 H1 hh1 s1 r1=>?_⟩
  by_cases hl:xs.length<=sizeLine
  ·rw[gG,if_pos hl]at e
   cases e;refine⟨by rw[r1.length];exact hl,fun p hp=>?_⟩
   have n:=New.add hh1.zh hp (.lst vs);exact k _ _ _ (hh1.new n) (s1.trans n.z) (.lst (SqL.of aN) (r1.same n.z))
  ·rw[gG,if_neg hl]at e;cases e
theorem args{K:Fg}{g:List D->Option D}{σ:St}{H:Hp}{Q:VK}(h:tV K (os fs g) σ H Q):Pl K fs σ H fun vs H1=>G7 K g vs H1 Q:=by
 obtain⟨H₀,Z₀,Z,δ,d,hh,e,k⟩:=h;obtain⟨xs,e1,e⟩:=bind_some e;exact⟨H₀,Z₀,Z,δ,xs,hh,e1,fun vs Z1 H1 hh1 s1 r1=>⟨Z1,xs,d,hh1.zh,r1,e,fun w Z3 H3 n r3=>k w Z3 H3 (hh1.new n) (s1.trans n.z) r3⟩⟩
theorem bH{x:Str}{id:String}{g:List D->Option D}(hc:CallR X (.builtin id) (G7 X.K g))(hg:Gl X x)(hm:X.mg x=none)(hv:bootBuiltins x=some (.builtin id))(ha:AV X (e::es) fs)(hn:x ≠ "__name__":=by decide)(hdb:(x==("__debug__":Str))=false:=by decide)
  (he:starEach (e::es) X.env=(false,eval e X.env)::starEach es X.env:=by rfl) (hpl:(backTo pos (starEach es X.env)).any (·.1)=false:=by rfl):EV X (.Call (.Name x p) (e::es) [] pos) (os fs g):=
 PE.imp (vb hc hg hm hv ha hn hdb he hpl) fun _ _ _ h=>args h
theorem f8{x:Str}{id:String}{g:List D->Option D}(hc:CallR X (.type id) (G7 X.K g))(hg:Gl X x)(hm:X.mg x=none)(hv:bootBuiltins x=some (.type id))(ha:AV X (e::es) fs)(hn:x ≠ "__name__":=by decide)(hdb:(x==("__debug__":Str))=false:=by decide)
  (he:starEach (e::es) X.env=(false,eval e X.env)::starEach es X.env:=by rfl) (hpl:(backTo pos (starEach es X.env)).any (·.1)=false:=by rfl):EV X (.Call (.Name x p) (e::es) [] pos) (os fs g):=
 PE.imp (rR hc hg hm hv ha hn hdb he hpl) fun _ _ _ h=>args h
theorem Gn{k:Nat}{fa:Addr}{fd:FuncData}{ps:List Str}{x:Str}{g:List D->Option D}{dd:List D}{dv:List V}{ds:List Value}(F:FnOk X.prog X.w X.K X.mg X.base dY k fa fd ps (iE X.K g))(hr:Room k X.A)(hg:Gl X x)(hm:X.mg x=some (.ref fa))(hk:keepIn X.K (.ref fa)=true)
  (hb:Binds X.K fd ps ds) (hd:Vals dv ds) (hdd:∀Z,Reps X.K Z dv dd) (hx:kC dY X E0) (ha:AV X (e::es) fs) (hdb:(x==("__debug__":Str))=false:=by decide) (he:starEach (e::es) X.env=(false,eval e X.env)::starEach es X.env:=by rfl) (hpl:(backTo pos (starEach es X.env)).any (·.1)=false:=by rfl) :
  EV X (.Call (.Name x p) (e::es) [] pos) (os fs fun as=>g (as++dd)):=
 PE.imp (Fb F hr hg hm hk hb hd hx ha hdb he hpl) fun σ H Q h=>by
  obtain⟨H₀,Z₀,Z,δ,xs,hh,e1,q⟩:=args h;refine⟨H₀,Z₀,Z,δ,xs,hh,e1,fun vs Z1 H1 hh1 s1 r1=>?_⟩
  obtain⟨Z2,as,d,zh,ra,eg,kk⟩:=q vs Z1 H1 hh1 s1 r1;exact⟨Z2,as++dd,d,zh,ra.append (hdd Z2),eg,kk⟩
theorem IxR.imp{r r':R2}(h:IxR X r)(i:∀x y H Q,r' x y H Q->r x y H Q):IxR X r':=fun value slice pins s σ H x y v u Q I rx ry q hs=>h value slice pins s σ H x y v u Q I rx ry (i _ _ _ _ q) hs
theorem ak{g:D->D->Option D}(ho:IxR X (rD X.K g))(ha:EV X a f1)(hb:EV X b f2)(hs:ur b):EV X (.Subscript a b pos) (o2 f1 f2 g):=
 PE.imp (Hb ho ha hb hs) fun _ _ _ h=>two (fun _ _ _ _ q=>q) h
end
section
variable{X:Cx}{a b c e tg:Expr}{es:List Expr}{pos p:Pos}{f f1 f2 f3:Dv->Option D}{fs:Dv->Option (List D)}{ft fu:Dv->Option Bool}{st:Stmt}{sts body:List Stmt}{s1 s2:Dv->Option (Fl×Dv)}
theorem yv{F:Value->Value->Sem Value}{g:Int->Int->Int}(h:OpR X F (AX fun i j=>.int (g i j))):OpR X F (rD X.K (iI g)):=
 OpR.imp h fun x y H Q q=>by
  obtain⟨Z,a,b,d,zh,ra,rb,e,k⟩:=q;cases ra<;>cases rb<;>simp[iI]at e;subst e;exact⟨_,_,rfl,rfl,k _ Z H (New.refl zh) (.int _)⟩
theorem Cf{F:Value->Value->Sem Value}{g:Int->Int->Bool}(h:OpR X F (AX fun i j=>.bl (g i j))):OpR X F (rD X.K (iB g)):=
 OpR.imp h fun x y H Q q=>by
  obtain⟨Z,a,b,d,zh,ra,rb,e,k⟩:=q;cases ra<;>cases rb<;>simp[iB]at e;subst e;exact⟨_,_,rfl,rfl,k _ Z H (New.refl zh) (.bl _)⟩
theorem rV{F:Value->Value->Sem Value}{P:Int->Int->Prop}{C:Int->Int->Bool}{g:Int->Int->Int}(h:OpR X F (rI P fun i j=>.int (g i j)))(hc:∀i j,C i j=true->P i j):OpR X F (rD X.K (iC C g)):=
 OpR.imp h fun x y H Q q=>by
  obtain⟨Z,a,b,d,zh,ra,rb,e,k⟩:=q;cases ra with
  |int i=>
   cases rb with
   |int j=>
    by_cases hh:C i j=true
    ·simp only[iC,if_pos hh]at e
     cases e;exact⟨_,_,rfl,rfl,hc _ _ hh,k _ Z H (New.refl zh) (.int _)⟩
    ·simp only[iC,if_neg hh]at e
     cases e
   |_=>simp[iC]at e
  |_=>simp[iC]at e
theorem bm:OpR X (binaryOp .Sub) (rD X.K bC):=yv IN
theorem mD:OpR X (binaryOp .Mult) (rD X.K pC):=rV (P:=fun i j=>IntMulOk i j) (Lh fun _ _ _ _ _ _ _ hc q=>mul_int q hc) fun i j h=>of_decide_eq_true h
theorem dM:OpR X (binaryOp .FloorDiv) (rD X.K eJ):=rV Fm fun i j h=>(of_decide_eq_true h:0<j/\j<1073741824)
theorem bU:OpR X (binaryOp .Mod) (rD X.K bN):=rV IR fun i j h=>of_decide_eq_true h
theorem Hx:OpR X (binaryOp .Pow) (rD X.K zV):=rV IQ fun i j h=>(of_decide_eq_true h:0<=j/\j<=1000000/\i.natAbs<2^64)
theorem iz:OpR X (binaryOp .LShift) (rD X.K gF):=rV (P:=fun i j=>0<=j/\(Builtin.Int.intBits i:Int)+j<=2^27) (Lh fun _ _ _ _ _ _ _ hc q=>lshift_int hc.1 hc.2 q) fun i j h=>of_decide_eq_true h
theorem sk:OpR X (binaryOp .RShift) (rD X.K lU):=rV IP fun i j h=>of_decide_eq_true h
theorem sn:OpR X (binaryOp .BitAnd) (rD X.K xG):=yv IS
theorem KE:OpR X (binaryOp .BitOr) (rD X.K IL):=yv Mf
theorem zd:OpR X (binaryOp .BitXor) (rD X.K uw):=yv IM
theorem xt:OpR X (compareOp .Lt) (rD X.K Hl):=Cf Mg
theorem M7:OpR X (compareOp .LtE) (rD X.K Oz):=Cf Mh
theorem Gz:OpR X (compareOp .Gt) (rD X.K Ln):=Cf Mi
theorem qa:Ni X (unaryOp .USub) (Pq X.K negD):=by
 intro pins s σ H x v Q I rx q;obtain⟨Z,a,d,zh,ra,e,k⟩:=q;cases ra<;>simp[negD]at e;subst e;exact HJ pins s σ H _ v Q I rx ⟨_,rfl,k _ Z H (New.refl zh) (.int _)⟩
theorem Rep.str_eq{K:Fg}{Z:Hp}{v:V}{x:Str}(h:Rep K Z v (.str x)):v=.str x:=by cases h;rfl
theorem Rep.tup_ex{K:Fg}{Z:Hp}{v:V}{ds:List D}(h:Rep K Z v (.tuple ds)):∃a xs,v=.ref a/\SqT K Z a xs/\Reps K Z xs ds:=by
 cases h with
 |tup p q=>exact⟨_,_,rfl,p,q⟩
theorem Rep.lst_ex{K:Fg}{Z:Hp}{v:V}{ds:List D}(h:Rep K Z v (.list ds)):∃a xs,v=.ref a/\SqL K Z a xs/\Reps K Z xs ds:=by
 cases h with
 |lst p q=>exact⟨_,_,rfl,p,q⟩
theorem eB{p:Prop}[Decidable p]{α:Type}{x y:α}(h:(if p then some x else none)=some y):p/\x=y:=by
 by_cases q:p
 ·rw[if_pos q]at h;exact⟨q,Option.some.inj h⟩
 ·rw[if_neg q]at h;cases h
theorem KZ{a b d:D}(h:aR a b=some d):(∃i,a=.int i)\/(∃x,a=.str x)\/(∃xs,a=.list xs)\/∃xs,a=.tuple xs:=by
 cases a with
 |int i=>exact .inl ⟨_,rfl⟩
 |str i=>exact .inr (.inl ⟨_,rfl⟩)
 |list i=>exact .inr (.inr (.inl ⟨_,rfl⟩))
 |tuple i=>exact .inr (.inr (.inr ⟨_,rfl⟩))
 |_=>cases h
theorem K0{i:Int}{b d:D}(h:aR (.int i) b=some d):∃j,b=.int j/\d=.int (i+j):=by
 cases b with
 |int j=>exact⟨j,rfl,(Option.some.inj h).symm⟩
 |_=>cases h
theorem KW{i:Str}{b d:D}(h:aR (.str i) b=some d):∃j,b=.str j/\i.length+j.length<=sizeLine/\d=.str (i++j):=by
 cases b with
 |str j=>obtain⟨p,q⟩:=eB h;exact⟨j,rfl,p,q.symm⟩
 |_=>cases h
theorem KY{i:List D}{b d:D}(h:aR (.list i) b=some d):∃j,b=.list j/\i.length+j.length<=sizeLine/\d=.list (i++j):=by
 cases b with
 |list j=>obtain⟨p,q⟩:=eB h;exact⟨j,rfl,p,q.symm⟩
 |_=>cases h
theorem KU{i:List D}{b d:D}(h:aR (.tuple i) b=some d):∃j,b=.tuple j/\i.length+j.length<=sizeLine/\d=.tuple (i++j):=by
 cases b with
 |tuple j=>obtain⟨p,q⟩:=eB h;exact⟨j,rfl,p,q.symm⟩
 |_=>cases h
theorem aO:OpR X (binaryOp .Add) (rD X.K aR):=by
 intro pins s σ H x y v u Q I rx ry q;obtain⟨Z,a,b,d,zh,ra,rb,e,k⟩:=q;rcases KZ e with⟨i,rfl⟩|⟨i,rfl⟩|⟨ds,rfl⟩|⟨ds,rfl⟩
 ·obtain⟨j,rfl,rfl⟩:=K0 e
  cases ra.int_eq;cases rb.int_eq;exact IT pins s σ H _ _ v u Q I rx ry ⟨_,_,rfl,rfl,k _ Z H (New.refl zh) (.int _)⟩
 ·obtain⟨j,rfl,hl,rfl⟩:=KW e
  cases ra.str_eq;cases rb.str_eq;exact wG pins s σ H _ _ v u Q I rx ry ⟨_,_,rfl,rfl,hl,k _ Z H (New.refl zh) (.str _)⟩
 ·obtain⟨es,rfl,hl,rfl⟩:=KY e
  obtain⟨a,xs,rfl,h1,q1⟩:=ra.lst_ex;obtain⟨b,ys,rfl,h2,q2⟩:=rb.lst_ex;cases rx;cases ry;obtain⟨its,r1,p1,z1⟩:=I.list (SqL.same h1 zh);obtain⟨its2,r2,p2,z2⟩:=I.list (SqL.same h2 zh);obtain⟨⟨cls,dd,data,sl⟩,n1,ho,hc,hdd,hd⟩:=p1;obtain⟨⟨cls2,dd2,data2,sl2⟩,n2,ho2,hc2,hdd2,hd2⟩:=p2;simp only at hc hd hc2 hd2;subst hc hd hc2 hd2;have hl1:=r1.length;have hl2:=r2.length;have ql1:=q1.length;have ql2:=q2.length;refine concat_meets ⟨_,ho,rfl⟩ ⟨_,ho2,rfl⟩ noFill_list_add seq_list_add PySem.F.slot_list_add PySem.F.entry_list_add (PySem.F.args_list_add_2 _ _) (list_addW a b its.toArray its2.toArray n1 n2 dd dd2 sl sl2 (by simp;omega)) ⟨ho,ho2,?_⟩;have ea:its.toArray++its2.toArray=(its++its2).toArray:=by simp
  rw[ea];have n:=New.add zh I.fresh (.lst (xs++ys));exact⟨.ref _,_,I.lnew (t':=s.toks) (r1.append r2) (by rw[List.length_append];omega),rfl,k _ _ _ n (.lst (SqL.of aN) ((q1.append q2).same n.z))⟩
 ·obtain⟨es,rfl,hl,rfl⟩:=KU e
  obtain⟨a,xs,rfl,h1,q1⟩:=ra.tup_ex;obtain⟨b,ys,rfl,h2,q2⟩:=rb.tup_ex;by_cases h0:ds.length=0
  ·have hd0:ds=[]:=List.eq_nil_of_length_eq_zero h0
   subst hd0;cases q1;cases rx;cases ry;obtain⟨its,r1,p1,z1⟩:=I.tuple (SqT.same h1 zh);obtain⟨its2,r2,p2,z2⟩:=I.tuple (SqT.same h2 zh);cases r1;obtain⟨⟨cls,dd,data,sl⟩,ho,hc,n,hd⟩:=id p1;obtain⟨⟨cls2,dd2,data2,sl2⟩,ho2,hc2,n2,hd2⟩:=id p2;simp only at hc hd hc2 hd2;subst hc hd hc2 hd2;exact concat_meets ⟨_,ho,rfl⟩ ⟨_,ho2,rfl⟩ noFill_tuple_add seq_tuple_add PySem.F.slot_tuple_add PySem.F.entry_tuple_add (PySem.F.args_tuple_add_2 _ _)
    (tuple_addW0 a b _ its2.toArray n n2 dd dd2 sl sl2 (by simp)) ⟨ho,ho2,⟨.ref b,H,I,rfl,k _ Z H (New.refl zh) (.tup h2 q2)⟩⟩
  refine Fn pins s σ H _ _ v u Q I rx ry ⟨a,b,xs,ys,rfl,rfl,SqT.same h1 zh,SqT.same h2 zh,fun z=>h0 (by rw[<-q1.length,z];rfl),by rw[q1.length,q2.length];exact hl,fun z=>?_,fun z p hp=>?_⟩
  ·subst z
   cases q2;rw[List.append_nil]at k;exact k _ Z H (New.refl zh) (.tup h1 q1)
  ·have n:=New.add zh hp (.tup (xs++ys))
   exact k _ _ _ n (.tup (SqT.of aN) ((q1.append q2).same n.z))
theorem nS{d:D}(h:DM d=true):d.canLay0=true:=(Bool.and_eq_true_iff.mp h).1
theorem eT(hu:X.A.units+64<cLine):OpR X (compareOp .Eq) (rD X.K di):=by
 intro pins s σ H x y v u Q I rx ry q;obtain⟨Z,a,b,d,zh,ra,rb,e,k⟩:=q;by_cases hs:DM a=true/\DM b=true
 ·rw[di,if_pos hs]at e
  cases e;obtain⟨as,r1⟩:=ra.reads I zh rx (nS hs.1);obtain⟨bs,r2⟩:=rb.reads I zh ry (nS hs.2);exact eq_dataH r1 r2 hs.1 hs.2 hu ⟨.bl _,H,I,rfl,k _ Z H (New.refl zh) (.bl _)⟩
 ·rw[di,if_neg hs]at e;cases e
theorem xr(hu:X.A.units+64<cLine):OpR X (compareOp .NotEq) (rD X.K neD):=by
 intro pins s σ H x y v u Q I rx ry q;obtain⟨Z,a,b,d,zh,ra,rb,e,k⟩:=q;by_cases hs:DM a=true/\DM b=true
 ·rw[neD,if_pos hs]at e
  cases e;obtain⟨as,r1⟩:=ra.reads I zh rx (nS hs.1);obtain⟨bs,r2⟩:=rb.reads I zh ry (nS hs.2);exact ne_dataH r1 r2 hs.1 hs.2 hu ⟨.bl _,H,I,rfl,k _ Z H (New.refl zh) (.bl _)⟩
 ·rw[neD,if_neg hs]at e;cases e
theorem Reps.at{K:Fg}{Z:Hp}{vs:List V}{ds:List D}{i:Int}{d:D}(r:Reps K Z vs ds)(h:fZ ds i=some d):∃v,fZ vs i=some v/\Rep K Z v d:=by
 unfold fZ at h ⊢;rw[r.length];obtain⟨j,e,h⟩:=bind_some h;obtain⟨v,q,rr⟩:=r.get h;exact⟨v,by rw[e];exact q,rr⟩
theorem MN{a b d:D}(h:ay a b=some d):(∃xs,a=.list xs)\/∃xs,a=.tuple xs:=by
 cases a with
 |list i=>exact .inl ⟨_,rfl⟩
 |tuple i=>exact .inr ⟨_,rfl⟩
 |_=>cases h
theorem Ht{xs:List D}{b d:D}(h:ay (.list xs) b=some d):∃i,b=.int i/\fZ xs i=some d:=by
 cases b with
 |int i=>exact⟨i,rfl,h⟩
 |_=>cases h
theorem ar:IxR X (rD X.K ay):=
 IxR.imp (ix_list.or Ki) fun x y H Q q=>by
  obtain⟨Z,a,b,d,zh,ra,rb,e,k⟩:=q;rcases MN e with⟨xs,rfl⟩|⟨xs,rfl⟩
  ·obtain⟨i,rfl,e⟩:=Ht e
   obtain⟨a,vs,rfl,h1,q1⟩:=ra.lst_ex;cases rb.int_eq;obtain⟨v,ev,rv⟩:=q1.at e;exact .inl ⟨_,_,_,v,rfl,rfl,SqL.same h1 zh,ev,k v Z H (New.refl zh) rv⟩
  ·obtain⟨i,rfl,e⟩:=Ht (xs:=xs) (b:=b) (by cases b<;>exact e)
   obtain⟨a,vs,rfl,h1,q1⟩:=ra.tup_ex;cases rb.int_eq;obtain⟨v,ev,rv⟩:=q1.at e;exact .inr ⟨_,_,_,v,rfl,rfl,SqT.same h1 zh,ev,k v Z H (New.refl zh) rv⟩
theorem g8:CallR X (.builtin "len") (G7 X.K fV):=
 CallR.imp Dw fun xs H Q q=>by
  obtain⟨Z,as,d,zh,ra,e,k⟩:=q;cases ra with
  |nil=>cases e
  |cons r1 r2=>
   cases r2 with
   |cons _ _=>cases r1<;>cases e
   |nil=>
    cases r1 with
    |lst h1 q1=>cases e;exact⟨_,_,rfl,.inl ⟨_,SqL.same h1 zh,rfl⟩,k _ Z H (New.refl zh) (by rw[q1.length];exact .int _)⟩
    |tup h1 q1=>cases e;exact⟨_,_,rfl,.inr ⟨_,SqT.same h1 zh,rfl⟩,k _ Z H (New.refl zh) (by rw[q1.length];exact .int _)⟩
    |_=>cases e
theorem Bf{K:Fg}{Z:Hp}{xs:List V}{as:List D}{d:D}{g:List D->Option D}{h:Int->Int->Int}(hg:∀as d,g as=some d->∃i j,as=[.int i,.int j]/\d=.int (h i j))(r:Reps K Z xs as)(e:g as=some d):
  ∃i j,xs=[.int i,.int j]/\d=.int (h i j):=by
 obtain⟨i,j,rfl,rfl⟩:=hg _ _ e;cases r with
 |cons r1 r2=>
  cases r2 with
  |cons r3 r4=>
   cases r4;exact⟨i,j,by rw[r1.int_eq,r3.int_eq],rfl⟩
theorem M9(hc:X.calm=true):CallR X (.builtin "min") (G7 X.K FL):=
 CallR.imp (AN hc) fun xs H Q q=>by
  obtain⟨Z,as,d,zh,ra,e,k⟩:=q;obtain⟨i,j,rfl,rfl⟩:=Bf (h:=fun i j=>if j<i then j else i) (fun as d h=>by unfold FL at h;split at h<;>cases h;exact⟨_,_,rfl,rfl⟩) ra e;exact⟨i,j,rfl,k _ Z H (New.refl zh) (.int _)⟩
theorem jS:CallR X (.type "tuple") (G7 X.K iF):=
 CallR.imp q9 fun xs H Q q=>by
  obtain⟨Z,as,d,zh,ra,e,k⟩:=q;cases ra with
  |nil=>cases e
  |cons r1 r2=>
   cases r2 with
   |cons _ _=>cases r1<;>cases e
   |nil=>
    cases r1 with
    |lst h1 q1=>cases e;exact⟨_,_,rfl,.inl ⟨SqL.same h1 zh,fun l hl=>let n:=New.add zh hl (.tup _);k _ _ _ n (.tup (SqT.of aN) (q1.same n.z))⟩⟩
    |tup h1 q1=>cases e;exact⟨_,_,rfl,.inr ⟨SqT.same h1 zh,k _ Z H (New.refl zh) (.tup h1 q1)⟩⟩
    |_=>cases e
theorem FK:OZ X "int.bit_length" (fun x xs H Q=>∃i,x=.int i/\xs=[]/\Q (.int (Builtin.Int.intBits i)) H):=by
 intro pins s σ H x xs v us Q I rx rs q;obtain⟨i,rfl,rfl,q⟩:=q;obtain⟨t,rfl⟩:=rx;cases rs;exact call_int_bit_length ⟨.int _,H,I.tok _,⟨_,rfl⟩,q⟩
theorem Gp{apos:Pos}(ha:EV X a f)(hbase:attributeBase a "bit_length" X.env (eval a X.env)=eval a X.env:=by rfl)(hline:(apos.endLine==pos.line)=true:=by rfl):EV X (.Call (.Attribute a "bit_length" apos) [] [] pos) (o1 f zm):=
 PE.imp (IH PySem.F.plainAttrs_int PySem.F.slot_int_bit_length PySem.F.type_int_bit_length FK ha hbase hline) fun σ H Q h=>by
  obtain⟨H₀,Z₀,Z,δ,d,hh,e,k⟩:=h;obtain⟨x,e1,e⟩:=bind_some e;refine⟨H₀,Z₀,Z,δ,x,hh,e1,fun v Z1 H1 hh1 s1 r1=>?_⟩
  cases r1<;>simp[zm]at e;subst e;exact⟨rfl,_,rfl,rfl,k _ Z1 H1 hh1 s1 (.int _)⟩
theorem Kd(K:Fg){t T:String}(ht:t = "NoneType" \/ t = "bool" \/ t = "int" \/ t = "str" \/ t = "list" \/ t = "tuple")(hT:T = "int" \/ T = "bool" \/ T = "str" \/ T = "list" \/ T = "tuple"):PySem.W.kitOne K (.type t) (.type T)=some (Km t T):=by
 rcases ht with rfl|rfl|rfl|rfl|rfl|rfl<;>rcases hT with rfl|rfl|rfl|rfl|rfl<;>rfl
theorem Rep.ty{K:Fg}{Z H:Hp}{v:V}{d:D}(zh:Same Z H)(r:Rep K Z v d)(hD:¬yP d=true):(tyN d = "NoneType" \/ tyN d = "bool" \/ tyN d = "int" \/ tyN d = "str" \/ tyN d = "list" \/ tyN d = "tuple"):=by
 cases r<;>simp[tyN];exact absurd rfl hD
theorem Kl{pins:List (Addr×Obj)}{σ:St}{H Z:Hp}{s:Shared}{x:V}{u:Value}{d:D}{T:String}{A:Around}{E:Value->Shared->Prop}{Q:Value->Shared->Prop}(I:Inv X pins σ H s)(zh:Same Z H)(rx:RelV x u)(r:Rep X.K Z x d)(hD:¬yP d=true)
  (hT:T = "int" \/ T = "bool" \/ T = "str" \/ T = "list" \/ T = "tuple") (h:∀tk,Q (.bool (Km (tyN d) T)) { s with toks:=tk }):wpAny (model X.prog X.w) A (call (.builtin "isinstance") [u,.type T]) Q E s:=by
 have ko:=Kd X.K (Rep.ty zh r hD) hT;cases r with
 |non=>exact jM I rx (.non) ko h
 |bl b=>exact jM I rx (.bl b) ko h
 |int b=>exact jM I rx (.int b) ko h
 |str b=>exact jM I rx (.str b) ko h
 | @tup a xs ds h1 q1=>
  cases(show u=Value.ref a from rx);obtain⟨its,_,p,_⟩:=I.tuple (SqT.same h1 zh);obtain⟨o,h1,h2,_⟩:=p;exact kia_one PySem.W.kitx_tuple I.kIn ⟨o,h1,h2⟩ ko (fun z=>nomatch z) h
 | @lst a xs ds h1 q1=>
  cases(show u=Value.ref a from rx);obtain⟨its,_,p,_⟩:=I.list (SqL.same h1 zh);obtain⟨o,n,h1,h2,_⟩:=p;exact kia_one PySem.W.kitx_list I.kIn ⟨o,h1,h2⟩ ko (fun z=>nomatch z) h
 |opq h1=>exact absurd rfl hD
theorem Na(T:String):CallR X (.builtin "isinstance") (fun xs H Q=>∃x Z d r,xs=[x,.ty T]/\Same Z H/\Rep X.K Z x d/\jY T d=some r/\∃b,r=.bool b/\Q (.bl b) H):=by
 intro pins s σ H xs us Q I rv h;obtain⟨x,Z,d,r,rfl,zh,rr,e,b,rfl,q⟩:=h;obtain⟨u,w',rfl,r1,r2⟩:=Bb rv;cases(show w'=Value.type T from r2);by_cases hD:yP d=true
 ·rw[jY,if_pos hD]at e;cases e
 by_cases hT:T = "int" \/ T = "bool" \/ T = "str" \/ T = "list" \/ T = "tuple"
 ·rw[jY,if_neg hD,if_pos hT]at e
  cases e;exact Kl I zh r1 rr hD hT fun tk=>⟨.bl _,H,I.tok _,rfl,q⟩
 ·rw[jY,if_neg hD,if_neg hT]at e;cases e
theorem xp{x:Str}{T:String}{p2:Pos}(hg:Gl X "isinstance")(hm:X.mg "isinstance" = none)(hgT:Gl X x)(hmT:X.mg x=none)(hvT:bootBuiltins x=some (.type T))(hnT:x ≠ "__name__")(hdT:(x==("__debug__":Str))=false)(ha:EV X a f)
  (he:starEach (a::[.Name x p2]) X.env=(false,eval a X.env)::starEach [.Name x p2] X.env:=by rfl) (he2:starEach ((.Name x p2)::[]) X.env=(false,eval (.Name x p2) X.env)::starEach [] X.env:=by rfl) (hpl:(backTo pos (starEach [.Name x p2] X.env)).any (·.1)=false:=by rfl) :
  EV X (.Call (.Name "isinstance" p) [a,.Name x p2] [] pos) (o1 f (jY T)):=
 PE.imp (vb (Na T) hg hm PyProof.Rows.boot_isinstance (gQ ha (gQ (Fc (v:=.ty T) hgT hmT hvT rfl hnT hdT) ki he2) he) (by decide) (by decide) he hpl) fun σ H Q h=>by
  obtain⟨H₀,Z₀,Z,δ,d,hh,e,k⟩:=h;obtain⟨y,e1,e⟩:=bind_some e;refine⟨H₀,Z₀,Z,δ,y,hh,e1,fun v Z1 H1 hh1 s1 r1=>⟨v,Z1,y,d,rfl,hh1.zh,r1,e,?_⟩⟩
  have:∃b,d=.bool b:=by
   unfold jY at e;split at e
   ·cases e
   ·split at e
    ·cases e;exact⟨_,rfl⟩
    ·cases e
  obtain⟨b,rfl⟩:=this;exact⟨b,rfl,k _ Z1 H1 hh1 s1 (.bl b)⟩
end
section
variable{X:Cx}{a b c e tg iter:Expr}{es:List Expr}{pos p:Pos}{f f1 f2 f3:Dv->Option D}{fs:Dv->Option (List D)}{ft fu:Dv->Option Bool}{st:Stmt}{sts body orelse:List Stmt}{s1 s2 s3:Sf}
theorem aI(he:EV X e f):SV X (.Return (some e) pos) (bJ f):=
 PS.imp (Iw he) fun D σ H h=>by
  obtain⟨H₀,Z₀,Z,δ,r,hh,e,k⟩:=h;obtain⟨x,e1,e⟩:=bind_some e;cases e;exact⟨H₀,Z₀,Z,δ,x,hh,e1,fun v Z1 H1 hh1 s1 r1=>k σ H1 Z1 hh1 s1 v r1⟩
theorem aq(i:Nat){x:Str}{pos':Pos}(hN:X.N.Nodup)(he:EV X e f)(hi:X.N[i]? = some x:=by rfl)(hx:zv X.env.scope x:=by first|exact Or.inl rfl|exact Or.inr rfl)(hs:swapsWith e (some (.Name x pos')) pos.line X.env=pure false:=by rfl)
  (hf:X.fn x=true\/X.env.scope.names.lookup x=some .local:=by first|exact .inl rfl|exact .inr rfl|assumption):SV X (.Assign [.Name x pos'] e pos) (aC i f):=
 PS.imp (ma hN hi hx he hs hf) fun D σ H h=>by
  obtain⟨H₀,Z₀,Z,δ,r,hh,e,k⟩:=h;obtain⟨x,e1,e⟩:=bind_some e;cases e;exact⟨H₀,Z₀,Z,δ,x,hh,e1,fun v Z1 H1 hh1 s1 r1=>k _ H1 Z1 (hh1.set r1) s1⟩
theorem Mp{D:Ends}{σ:St}{H:Hp}{K:Fg}(h:K9 K m6 D σ H):D.nx σ H:=by
 obtain⟨H₀,Z₀,Z,δ,r,hh,e,k⟩:=h;cases e;exact k σ H Z hh (Same.refl _)
theorem ce:BV X [] m6:=PSs.imp EU fun D σ H h=>Mp h
theorem ai(h1:SV X st s1)(h2:BV X sts s2):BV X (st::sts) (ap s1 s2):=
 PSs.imp (jh h1 h2) fun D σ H h=>by
  obtain⟨H₀,Z₀,Z,δ,r,hh,e,k⟩:=h;obtain⟨⟨fl,δ'⟩,e1,e⟩:=bind_some e;refine⟨H₀,Z₀,Z,δ,(fl,δ'),hh,e1,fun σ' H' Z' hh' s'=>?_⟩
  cases fl with
  |nx=>exact⟨H₀,Z₀,Z',δ',r,hh',e,fun σ2 H2 Z2 hh2 s2=>by
    have:=k σ2 H2 Z2 hh2 (s'.trans s2);obtain⟨fl,δ2⟩:=r;cases fl<;>exact this⟩
  |bk=>cases e;exact k σ' H' Z' hh' s'
  |ct=>cases e;exact k σ' H' Z' hh' s'
  |rt d=>cases e;exact k σ' H' Z' hh' s'
theorem au(h1:SV X st s1):BV X [st] s1:=sY h1
theorem cG(hc:TV X c ft)(ha:BV X body s1)(hb:BV X orelse s2):SV X (.If c body orelse pos) (dF ft s1 s2):=
 PS.imp (G9 hc ha hb) fun D σ H h=>by
  obtain⟨H₀,Z₀,Z,δ,r,hh,e,k⟩:=h;obtain⟨x,e1,e⟩:=bind_some e;refine⟨H₀,Z₀,Z,δ,x,hh,e1,fun Z1 H1 hh1 t1=>?_⟩
  cases x with
  |true=>exact⟨H₀,Z₀,Z1,δ,r,hh1,e,fun σ2 H2 Z2 hh2 t2=>k σ2 H2 Z2 hh2 (t1.trans t2)⟩
  |false=>exact⟨H₀,Z₀,Z1,δ,r,hh1,e,fun σ2 H2 Z2 hh2 t2=>k σ2 H2 Z2 hh2 (t1.trans t2)⟩
theorem M1{K:Fg}(i:Nat){D:Ends}{σ:St}{H:Hp}(h:K9 K (fun δ=>s1 (Hy i δ)) D σ H):K9 K s1 D σ H:=by
 obtain⟨H₀,Z₀,Z,δ,r,hh,e,k⟩:=h;have e:s1 (Hy i δ)=some r:=e;unfold Hy at e;split at e
 ·rename_i ds q
  obtain⟨Z1,t1,hh1⟩:=hh.frz q;exact⟨H₀,Z₀,Z1,_,r,hh1,e,fun σ2 H2 Z2 hh2 t2=>k σ2 H2 Z2 hh2 (t1.trans t2)⟩
 ·exact⟨H₀,Z₀,Z,_,r,hh,e,k⟩
theorem G2(i:Nat)(h:SV X st s1):SV X st (fun δ=>s1 (Hy i δ)):=PS.imp h fun D σ H q=>M1 i q
def PM(K:Fg)(g:D->Dv->Option Dv):TG:=fun v σ H Q=>∃H₀ Z₀ Z δ d δ',Hold K H₀ Z₀ Z δ σ H/\Rep K Z v d/\g d δ = some δ'/\∀ σ' H' Z',Hold K H₀ Z₀ Z' δ' σ' H'->Same Z Z'->Q σ' H'
def GV(X:Cx)(tg:Expr)(g:D->Dv->Option Dv):Prop:=PG X tg (PM X.K g)
theorem PG.imp{t t':TG}(h:PG X tg t)(i:∀v σ H Q,t' v σ H Q->t v σ H Q):PG X tg t':=fun pins s σ H x v Q I r q=>h pins s σ H x v Q I r (i _ _ _ _ q)
theorem fW(i:Nat){x:Str}(hN:X.N.Nodup)(hi:X.N[i]? = some x:=by rfl)(hx:zv X.env.scope x:=by first|exact Or.inl rfl|exact Or.inr rfl)
  (hf:X.fn x=true\/X.env.scope.names.lookup x=some .local:=by first|exact .inl rfl|exact .inr rfl|assumption):GV X (.Name x pos) (gN i):=
 PG.imp (b9 hN hi hx hf) fun v σ H Q h=>by
  obtain⟨H₀,Z₀,Z,δ,d,δ',hh,r,e,k⟩:=h;cases e;exact k _ H Z (hh.set r) (Same.refl _)
structure ItOk (K:Fg) (Z:Hp) (J:It) (ds:List D):Prop where
 go:∀(i:Nat) (H:Hp),Same Z H->i<ds.length->J.go i H
 yld:∀(i:Nat) (H:Hp) x H' d,Same Z H->ds[i]? = some d->J.yld i H x H'->H'=H/\Rep K Z x d
 stop:∀(i:Nat) (H:Hp),Same Z H->ds.length<=i->J.stop i H
def Nm(K:Fg)(f:Dv->Option (List D)):TI:=fun σ H R=>∃H₀ Z₀ Z δ ds,Hold K H₀ Z₀ Z δ σ H/\f δ = some ds/\∀J Z' H',Hold K H₀ Z₀ Z' δ σ H'->Same Z Z'->ItOk K Z' J ds->R J H'
def IV(X:Cx)(tg iter:Expr)(f:Dv->Option (List D)):Prop:=PI X tg iter (Nm X.K f)
theorem PI.imp{t t':TI}(h:PI X tg iter t)(i:∀ σ H R,t' σ H R->t σ H R):PI X tg iter t':=fun pins s σ H R I q=>h pins s σ H R I (i _ _ _ q)
theorem iJ{g:D->Dv->Option Dv}(hp:PassesOwn (model X.prog X.w) X.A X.env X.xe)(hc:X.calm=true)(hi:IV X tg iter fs)(hg:GV X tg g)(hb:BV X body s1)
  (hs:∀x,foldedSetIterable iter X.env x=pure x:=by intro _;rfl):SV X (.For tg iter body [] pos) (lW fs g s1):=
 PS.imp (BR hp hc hi hg hb hs) fun D σ H h=>by
  obtain⟨H₀,Z₀,Z,δ,r,hh,e,k⟩:=h;obtain⟨ds,e1,e⟩:=bind_some e;refine⟨H₀,Z₀,Z,δ,ds,hh,e1,fun J Z1 H1 hh1 t1 ok=>?_⟩
  refine⟨fun i m σ H=>m=ds.length-i/\i<=ds.length/\∃Zc δc,Hold X.K H₀ Z₀ Zc δc σ H/\Same Z1 Zc/\loop g s1 (ds.drop i) δc=some r,⟨ds.length,by simp,zero_le _,Z1,δ,hh1,Same.refl _,e⟩,?_⟩
  rintro i m σ2 H2 ⟨rfl,hi2,Zc,δc,hhc,tc,ec⟩;have zh:Same Z1 H2:=tc.trans hhc.zh;by_cases hlt:i<ds.length
  ·refine .inr ⟨ok.go i H2 zh hlt,fun σ3 H3=>∃Zc δc,Hold X.K H₀ Z₀ Zc δc σ3 H3/\Same Z1 Zc/\loop g s1 (ds.drop (i+1)) δc=some r,fun σ3 H3 q=>⟨ds.length-(i+1),by omega,rfl,hlt,q⟩,fun x H3 y=>?_⟩
   have ed:ds[i]? = some ds[i]:=by simp[hlt]
   obtain⟨rfl,rx⟩:=ok.yld i H2 x H3 _ zh ed y;rw[List.drop_eq_getElem_cons hlt]at ec;obtain⟨δ1,g1,ec⟩:=bind_some ec;obtain⟨⟨fl,δ2⟩,g2,ec⟩:=bind_some ec;refine⟨H₀,Z₀,Zc,δc,_,δ1,hhc,rx.same tc,g1,fun σ4 H4 Z4 hh4 t4=>⟨H₀,Z₀,Z4,δ1,(fl,δ2),hh4,g2,fun σ5 H5 Z5 hh5 t5=>?_⟩⟩
   cases fl with
   |nx=>exact⟨Z5,δ2,hh5,(tc.trans t4).trans t5,ec⟩
   |ct=>exact⟨Z5,δ2,hh5,(tc.trans t4).trans t5,ec⟩
   |bk=>cases ec;exact k σ5 H5 Z5 hh5 (((t1.trans tc).trans t4).trans t5)
   |rt d=>cases ec;exact k σ5 H5 Z5 hh5 (((t1.trans tc).trans t4).trans t5)
  ·have e2:ds.drop i=[]:=List.drop_eq_nil_iff.mpr (by omega)
   rw[e2]at ec;cases ec;exact .inl ⟨ok.stop i H2 zh (by omega),k σ2 H2 Zc hhc (t1.trans tc)⟩
theorem kM(n:Dv->Nat)(hp:PassesOwn (model X.prog X.w) X.A X.env X.xe)(hc:TV X c ft)(hb:BV X body s1):SV X (.While c body [] pos) (fun δ=>dD ft s1 (n δ) δ):=
 PS.imp (BQ hp hc hb) fun D σ H h=>by
  obtain⟨H₀,Z₀,Z,δ,r,hh,e,k⟩:=h;refine⟨fun m σ H=>∃Zc δc,Hold X.K H₀ Z₀ Zc δc σ H/\Same Z Zc/\dD ft s1 m δc=some r,⟨n δ,Z,δ,hh,Same.refl _,e⟩,?_⟩
  rintro m σ2 H2 ⟨Zc,δc,hhc,tc,ec⟩;cases m with
  |zero=>cases ec
  |succ m=>
   obtain⟨cc,g1,ec⟩:=bind_some ec;refine⟨H₀,Z₀,Zc,δc,cc,hhc,g1,fun Z3 H3 hh3 t3=>?_⟩
   cases cc with
   |false=>cases ec;exact k σ2 H3 Z3 hh3 (tc.trans t3)
   |true=>
    obtain⟨⟨fl,δ2⟩,g2,ec⟩:=bind_some ec;refine⟨fun σ4 H4=>∃Zc δc,Hold X.K H₀ Z₀ Zc δc σ4 H4/\Same Z Zc/\dD ft s1 m δc=some r,fun σ4 H4 q=>⟨m,Nat.lt_succ_self m,q⟩,?_⟩
    refine⟨H₀,Z₀,Z3,δc,(fl,δ2),hh3,g2,fun σ5 H5 Z5 hh5 t5=>?_⟩
    cases fl with
    |nx=>exact⟨Z5,δ2,hh5,(tc.trans t3).trans t5,ec⟩
    |ct=>exact⟨Z5,δ2,hh5,(tc.trans t3).trans t5,ec⟩
    |bk=>cases ec;exact k σ5 H5 Z5 hh5 ((tc.trans t3).trans t5)
    |rt d=>cases ec;exact k σ5 H5 Z5 hh5 ((tc.trans t3).trans t5)
theorem CP{K:Fg}{Z:Hp}{lo:Int}{n:Nat}:ItOk K Z (Lp lo n) (oR lo n) where
 go:=fun i H _ h=>by simpa[oR,Lp]using h
 yld:=fun i H x H' d _ e y=>by
  obtain⟨rfl,rfl⟩:=y;refine⟨rfl,?_⟩;unfold oR at e;rw[getElem?_map]at e;cases q:(List.range n)[i]? with
  |none=>rw[q]at e;cases e
  |some k=>
   rw[q]at e;cases e;have:k=i:=by
    obtain⟨h,h2⟩:=List.getElem?_eq_some_iff.mp q;simpa using h2.symm
   subst this;exact .int _
 stop:=fun i H _ h=>by simpa[oR,Lp]using h
theorem cu(hg:Gl X "range")(hm:X.mg "range" = none)(ha:AV X [a] fs)(hs:starEach [a] X.env=[(false,eval a X.env)]:=by rfl):IV X tg (.Call (.Name "range" p) [a] [] pos) (oL fs bP):=
 PI.imp (zY hg hm ha hs) fun σ H R h=>by
  obtain⟨H₀,Z₀,Z,δ,ds,hh,e,k⟩:=h;obtain⟨as,e1,e⟩:=bind_some e;refine⟨H₀,Z₀,Z,δ,as,hh,e1,fun vs Z1 H1 hh1 t1 r1=>?_⟩
  unfold bP at e;split at e
  ·rename_i j
   split at e
   ·rename_i hj
    cases e;cases r1 with
    |cons q1 q2=>
     cases q2;exact⟨j,by rw[q1.int_eq],hj.2,hj.1,k _ Z1 H1 hh1 t1 CP⟩
   ·cases e
  ·cases e
theorem F3(ha:EV X a f):IV X tg a (oI f Aq):=
 PI.imp (E2 ha) fun σ H R h=>by
  obtain⟨H₀,Z₀,Z,δ,ds,hh,e,k⟩:=h;obtain⟨y,e1,e⟩:=bind_some e;refine⟨H₀,Z₀,Z,δ,y,hh,e1,fun v Z1 H1 hh1 t1 r1=>?_⟩
  cases r1 with
  | @lst l xs ds' h1 q1=>
   cases e;refine⟨l,rfl,⟨xs,SqL.same h1 hh1.zh⟩,k _ Z1 H1 hh1 t1 ⟨fun i H2 z hi=>?_,fun i H2 x H3 d z ed y=>?_,fun i H2 z hi=>⟨xs,SqL.same h1 z,by rw[q1.length];exact hi⟩⟩⟩
   ·have hi':i<xs.length:=by rw[q1.length];exact hi
    exact⟨xs,xs[i],SqL.same h1 z,by simp[hi']⟩
   ·obtain⟨rfl,y⟩:=y
    obtain⟨v,ev,rv⟩:=q1.get ed;have:=y xs (SqL.same h1 z);rw[ev]at this;cases this;exact⟨rfl,rv⟩
  |_=>cases e
theorem Kj(ha:EV X a f):IV X tg a (oI f NN):=
 PI.imp (IA ha) fun σ H R h=>by
  obtain⟨H₀,Z₀,Z,δ,ds,hh,e,k⟩:=h;obtain⟨y,e1,e⟩:=bind_some e;refine⟨H₀,Z₀,Z,δ,y,hh,e1,fun v Z1 H1 hh1 t1 r1=>?_⟩
  cases r1 with
  | @tup l xs ds' h1 q1=>
   cases e;refine⟨l,rfl,⟨xs,SqT.same h1 hh1.zh⟩,k _ Z1 H1 hh1 t1 ⟨fun i H2 z hi=>?_,fun i H2 x H3 d z ed y=>?_,fun i H2 z hi=>⟨xs,SqT.same h1 z,by rw[q1.length];exact hi⟩⟩⟩
   ·have hi':i<xs.length:=by rw[q1.length];exact hi
    exact⟨xs,xs[i],SqT.same h1 z,by simp[hi']⟩
   ·obtain⟨rfl,y⟩:=y
    obtain⟨v,ev,rv⟩:=q1.get ed;have:=y xs (SqT.same h1 z);rw[ev]at this;cases this;exact⟨rfl,rv⟩
  |_=>cases e
end
section
variable{X:Cx}{e:Expr}{lo hi:Option Expr}{p2 pos:Pos}{f:Dv->Option D}
noncomputable def PL(K:Fg)(f:Dv->Option (Option Int)):TO:=fun σ H Q=>∃H₀ Z₀ Z δ d,Hold K H₀ Z₀ Z δ σ H/\f δ = some d/\∀Z' H',Hold K H₀ Z₀ Z' δ σ H'->Same Z Z'->Q d H'
def OV(X:Cx)(e:Option Expr)(f:Dv->Option (Option Int)):Prop:=PO X e (PL X.K f)
theorem PO.imp{eo:Option Expr}{t t':TO}(h:PO X eo t)(i:∀ σ H Q,t' σ H Q->t σ H Q):PO X eo t':=fun pins s σ H Q I q=>h pins s σ H Q I (i _ _ _ q)
theorem nX:OV X none Li:=PO.imp E1 fun σ H Q h=>by
 obtain⟨H₀,Z₀,Z,δ,d,hh,e,k⟩:=h;cases e;exact k Z H hh (Same.refl _)
theorem jL(h:EV X e f):OV X (some e) (oP f):=PO.imp (EZ h) fun σ H Q h=>by
 obtain⟨H₀,Z₀,Z,δ,d,hh,e,k⟩:=h;obtain⟨x,e1,e⟩:=bind_some e;refine⟨H₀,Z₀,Z,δ,x,hh,e1,fun v Z1 H1 hh1 t1 r1=>?_⟩
 cases r1<;>simp[asI]at e;subst e;exact⟨_,rfl,k Z1 H1 hh1 t1⟩
theorem Reps.cut{K:Fg}{Z:Hp}{vs:List V}{ds:List D}(r:Reps K Z vs ds)(lo hi:Option Int):Reps K Z (q8 vs lo hi) (jZ ds lo hi):=by
 unfold q8 jZ;rw[r.length];exact(r.drop _).take _
theorem xu{ds:List D}{lo hi:Option Int}(h1:HT.sIx ds.length 0 lo=0)(h2:HT.sIx ds.length ds.length hi=ds.length):jZ ds lo hi=ds:=by
 unfold jZ;rw[h1,h2];simp
section
variable{prog:Program}{w:World}{A:Around}{E:Value->Shared->Prop}{s:Shared}
theorem sM{t sl:Addr}{items:Array Value}{vl vu:Value}{lo hi:Option Int}{Q:Value->Shared->Prop}(ht:IsTup s.heap t items)(hs:s.heap.IsSliceOf sl vl vu .none)(pl:IsPart vl lo)(pu:IsPart vu hi)
  (h1:HT.sIx items.size 0 lo=0) (h2:HT.sIx items.size items.size hi=items.size) (h:Q (.ref t) s):wpAny (model prog w) A (getItem (.ref t) (.ref sl)) Q E s:=by
 obtain⟨osl,hos,hcs,hds⟩:=id hs;have ty:s.TypeIs (.ref sl) "slice":=⟨osl,hos,hcs⟩;unfold getItem
 try with_reducible refine wpAny_holding ?_
 first|refine wpAny_bind (wpAny_pure ?_)|skip
 refine wpAny_bind (wpAny_sequenceKey ht.typeIs (by decide) ?_);refine wpAny_bind (wpAny_callSpecial?_slot (name:=Str.ofString "__getitem__") ht.typeIs PyProof.Rows.slot_tuple_getitem
  (wpAny_call_entry PyProof.Rows.slot_tuple_getitem ht.typeIs PyProof.Rows.entry_tuple_getitem ?_ (PyProof.Rows.args_tuple_getitem _ _)))
 show wpAny _ _ (Builtin.Tuple.tupleItemsOf (.ref t) >>= _) _ _ s;refine wpAny_bind (tupleItemsOf_ ht ?_);refine wpAny_bind (wpAny_typeOf ty ?_);rw[if_pos (by decide)];refine wpAny_bind (HT.ik hs pl pu ?_);have yes:(((((HT.sIx items.size 0 lo:Nat):Int)==0)&&((1:Int)==1))&&((HT.sIx items.size items.size hi-HT.sIx items.size 0 lo)==items.size))=true:=by
  rw[h1,h2];simp
 show wpAny _ _ (if(((((HT.sIx items.size 0 lo:Nat):Int)==0)&&((1:Int)==1))&&((HT.sIx items.size items.size hi-HT.sIx items.size 0 lo)==items.size))=true then _ else _) _ _ s;rw[if_pos yes];unfold Builtin.Tuple.tupleIsExact;refine wpAny_bind (wpAny_bind (wpAny_typeOf ht.typeIs (wpAny_pure ?_)));rw[if_pos (by decide)];exact wpAny_bind (wpAny_rule (wpAny_pure ⟨_,rfl,wpAny_pure h⟩))
end
def N9(K:PySem.W.Frag):V->Option Int->Option Int->Hp->VK->Prop:=fun x lo hi H Q=>∃a xs,x=.ref a/\SqT K H a xs/\HT.sIx xs.length 0 lo=0/\HT.sIx xs.length xs.length hi=xs.length/\Q (.ref a) H
theorem Ez:SlR X (N9 X.K):=by
 intro pins s σ H x v vl vu lo hi sl Q I rx hs pl pu h;obtain⟨a,xs,rfl,hx,w1,w2,q⟩:=h;cases rx;obtain⟨its,r,ht,hz⟩:=I.tuple hx;have hlen:its.toArray.size=xs.length:=by rw[size_toArray];exact r.length.symm
 refine⟨"tuple",_,PyProof.Rows.slot_tuple_getitem.lookup,ht.typeIs,?_⟩;exact sM ht hs pl pu (by rw[hlen];exact w1) (by rw[hlen];exact w2) ⟨.ref a,H,I,rfl,q⟩
theorem jo{fl fu:Dv->Option (Option Int)}(he:EV X e f)(hl:OV X lo fl)(hu:OV X hi fu):EV X (.Subscript e (.Slice lo hi none p2) pos) (IX f fl fu):=
 PE.imp (B6 (sl_list.or (sl_tup.or Ez)) he hl hu) fun σ H Q h=>by
  obtain⟨H₀,Z₀,Z,δ,d,hh,e,k⟩:=h;obtain⟨x,e1,e⟩:=bind_some e;obtain⟨i,e2,e⟩:=bind_some e;obtain⟨j,e3,e⟩:=bind_some e;refine⟨H₀,Z₀,Z,δ,x,hh,e1,fun v Z1 H1 hh1 t1 r1=>⟨H₀,Z₀,Z1,δ,i,hh1,e2,fun Z2 H2 hh2 t2=>⟨H₀,Z₀,Z2,δ,j,hh2,e3,fun Z3 H3 hh3 t3=>?_⟩⟩⟩
  have r3:=(r1.same t2).same t3;have tt:=(t1.trans t2).trans t3;cases r3 with
  | @lst a xs ds h1 q1=>
   cases e;refine .inl ⟨_,_,rfl,SqL.same h1 hh3.zh,fun p hp=>?_⟩
   have n:=New.add hh3.zh hp (.lst (q8 xs i j));exact k _ _ _ (hh3.new n) (tt.trans n.z) (.lst (SqL.of aN) ((q1.cut i j).same n.z))
  | @tup a xs ds h1 q1=>
   simp only[DL]at e;cases e;by_cases hw:HT.sIx ds.length 0 i=0/\HT.sIx ds.length ds.length j=ds.length
   ·refine .inr (.inr ⟨_,_,rfl,SqT.same h1 hh3.zh,by rw[q1.length];exact hw.1,by rw[q1.length];exact hw.2,?_⟩)
    refine k _ _ _ hh3 tt ?_;rw[xu hw.1 hw.2];exact .tup h1 q1
   ·refine .inr (.inl ⟨_,_,rfl,SqT.same h1 hh3.zh,by rw[q1.length];exact hw,fun p hp=>?_⟩)
    have n:=New.add hh3.zh hp (.tup (q8 xs i j));exact k _ _ _ (hh3.new n) (tt.trans n.z) (.tup (SqT.of aN) ((q1.cut i j).same n.z))
  |_=>cases e
end
structure FunV (K:PySem.W.Frag) (x qual:Str) (st:Stmt) (f:Addr) (fd:FuncData) (dV:Value):Prop where
 ex:∃(oc:Value) (od:Option Addr) (kV doc pm:Value) (an:Option Addr) (cdv ct:Value) (osl:Array (Option Value)),
  fd=PySem.W.fnOf x qual (cR st) (b7 st) (aj st) dV kV doc pm an cdv ct/\K.lookup f=some ⟨oc,od,.func fd,osl⟩/\codeIn K cdv qual=true
 kp:keepIn K (.ref f)=true
section
variable{P:Program}{w:World}{K:PySem.W.Frag}{mg:Str->Option Value}{base:Heap}
theorem zM{N:List Str}{vs:List V}{as:List D}{Z:Hp}(r:Reps K Z vs as):∀(i:Nat) d,(av N as)[i]? = some (.fz d)->∃v,(start N vs)[i]? = some (some v)/\Rep K Z v d:=by
 intro i d e;unfold av at e;unfold L2.start;by_cases hi:i<as.length
 ·rw[getElem?_append_left (by simpa using hi),getElem?_map]at e
  cases q:as[i]? with
  |none=>rw[q]at e;cases e
  |some d'=>
   rw[q]at e;cases e;obtain⟨v,ev,rv⟩:=r.get q;exact⟨v,by rw[getElem?_append_left (by simpa[r.length]using hi),getElem?_map,ev];rfl,rv⟩
 ·rw[getElem?_append_right (by simpa using hi),getElem?_replicate]at e
  split at e<;>cases e
theorem lT{N:List Str}{as:List D}:∀(i:Nat) ds,(av N as)[i]? ≠ some (.own ds):=by
 intro i ds e;unfold av at e;by_cases hi:i<as.length
 ·rw[getElem?_append_left (by simpa using hi),getElem?_map]at e
  cases q:as[i]? with
  |none=>rw[q]at e;cases e
  |some d'=>rw[q]at e;cases e
 ·rw[getElem?_append_right (by simpa using hi),getElem?_replicate]at e
  split at e<;>cases e
theorem uP{N:List Str}{as:List D}:∀(i:Nat) ds,(av N as)[i]? ≠ some (.fr ds):=by
 intro i ds e;unfold av at e;by_cases hi:i<as.length
 ·rw[getElem?_append_left (by simpa using hi),getElem?_map]at e
  cases q:as[i]? with
  |none=>rw[q]at e;cases e
  |some d'=>rw[q]at e;cases e
 ·rw[getElem?_append_right (by simpa using hi),getElem?_replicate]at e
  split at e<;>cases e
theorem pT{N:List Str}{vs:List V}{as:List D}{Z H:Hp}(zh:Same Z H)(r:Reps K Z vs as):Hold K H Z Z (av N as) (start N vs) H:=
 ⟨zh,Same.refl _,Same.refl _,fun _ _=>rfl,by simp[av,L2.start,r.length],zM r,fun i ds e=>absurd e (lT i ds),fun i j ds es a _ e=>absurd e (lT i ds),fun i ds e=>absurd e (uP i ds),NoF.refl _⟩
theorem OL{x qual:Str}{st:Stmt}{f:Addr}{fd:FuncData}{dV:Value}{N ps:List Str}{k:Nat}{g:List D->Option D}{b:Sf}(F:FunV K x qual st f fd dV)(S:FnScope N ps (aj st))(len:∀as d,g as=some d->as.length=ps.length)
  (hb:∀(cdv:Value) (A:Around) (outer:List Env) (s:Shared) (H:Hp) (E:XK),Room k (A.deeper (envOfC qual (aj st) s.heap.objs.size f cdv))->BV (ue dY P w K mg base N qual (aj st) f cdv A outer s H E).nox (b7 st) b)
  (hg:∀as d,g as=some d->∃ δ',b (av N as)=some (.rt d,δ')\/(d=.none/\b (av N as)=some (.nx,δ'))):FnOk P w K mg base dY (k+1) f fd ps (iE K g):=by
 obtain⟨oc,od,kV,doc,pm,an,cdv,ct,osl,rfl,lk,hcd⟩:=F.ex;refine Dg lk hcd S (fun vs H Q E h=>?_) fun A outer s H vs Q E hr hsp=>?_
 ·obtain⟨Z,as,d,zh,r,e,_⟩:=h
  rw[r.length];exact len as d e
 ·refine⟨_,PSs.nox (hb cdv A outer s H E hr),?_⟩
  obtain⟨Z,as,d,zh,r,e,kk⟩:=hsp;have hh:=pT (N:=N) zh r;have fin:∀{σ':St} {H' Z':Hp} {δ':Dv},Hold K H Z Z' δ' σ' H'->Same Z Z'->New Z H Z' H':=fun h' z'=>⟨z',h'.h0,h'.zh,h'.zb,h'.nf⟩
  obtain⟨δ',e2|⟨rfl,e2⟩⟩:=hg as d e
  ·exact⟨H,Z,Z,_,_,hh,e2,fun σ' H' Z' h' z' v rv=>kk v Z' H' (fin h' z') rv⟩
  ·exact⟨H,Z,Z,_,_,hh,e2,fun σ' H' Z' h' z'=>kk _ Z' H' (fin h' z') .non⟩
theorem FunV.binds{x qual:Str}{st:Stmt}{f:Addr}{fd:FuncData}{ps:List Str}(F:FunV K x qual st f fd .none)
  (h:∀(kV doc pm:Value) (an:Option Addr) (cdv ct:Value) (us:List Value),us.length=ps.length->bindArgs (PySem.W.fnOf x qual (cR st) (b7 st) (aj st) .none kV doc pm an cdv ct) ⟨us,[]⟩=pure (ps.zip us)):Binds K fd ps []:=by
 obtain⟨oc,od,kV,doc,pm,an,cdv,ct,osl,rfl,lk,hcd⟩:=F.ex;exact .all (h kV doc pm an cdv ct)
theorem FunV.bindsD{x qual:Str}{st:Stmt}{f T:Addr}{fd:FuncData}{ps:List Str}{o:Obj}{items:Array Value}{n:Nat}{ds:List Value}(F:FunV K x qual st f fd (.ref T))(ho:K.lookup T=some o)(hs:o.data=.seq items n)(nu:Nat)(hn:nu+ds.length=ps.length)
  (h:∀(kV doc pm:Value) (an:Option Addr) (cdv ct:Value) (us:List Value),us.length=nu->∃kk,bindArgs (PySem.W.fnOf x qual (cR st) (b7 st) (aj st) (.ref T) kV doc pm an cdv ct) ⟨us,[]⟩=seqItems? (.ref T) >>= kk/\kk (some items)=pure (ps.zip (us++ds))):Binds K fd ps ds:=by
 obtain⟨oc,od,kV,doc,pm,an,cdv,ct,osl,rfl,lk,hcd⟩:=F.ex;intro s us KX hl;obtain⟨kk,h1,h2⟩:=h kV doc pm an cdv ct us (by rw[List.length_append]at hl;omega);exact BindsTo.of_defaults rfl (KX _ _ ho) hs h1 h2
theorem og{x qual:Str}{st:Stmt}{f:Addr}{dV oc:Value}{od an:Option Addr}{osl:Array (Option Value)}{kV doc pm cdv ct:Value}(l:K.lookup f=some ⟨oc,od,.func (PySem.W.fnOf x qual (cR st) (b7 st) (aj st) dV kV doc pm an cdv ct),osl⟩)
  (c:codeIn K cdv qual=true) (k:keepIn K (.ref f)=true):FunV K x qual st f (PySem.W.fnOf x qual (cR st) (b7 st) (aj st) dV kV doc pm an cdv ct) dV:=⟨⟨oc,od,kV,doc,pm,an,cdv,ct,osl,rfl,l,c⟩,k⟩
def yd(K:PySem.W.Frag):Sp:=fun vs H Q _=>∃(a:Addr) (ns:List Int),vs=[.ref a]/\SqL K H a (ns.map V.int)/\ns.length<=63/\∀H',Q (.bl true) H'
theorem MJ{g:List D->Option D}{k:Nat}{f:Addr}{fd:FuncData}(F:FnOk P w K mg base dY k f fd ["script"] (iE K g))(hg:∀ns:List Int,ns.length<=63->g [.list (ns.map .int)]=some (.bool true)):FnOk P w K mg base dY k f fd ["script"] (yd K):=
 F.imp fun vs H Q E h=>by
  obtain⟨a,ns,rfl,hS,hl,q⟩:=h;exact⟨H,[.list (ns.map .int)],.bool true,Same.refl _,.cons (.lst hS (Reps.ints ns)) .nil,hg ns hl,fun v Z' H' _ r=>by cases r;exact q H'⟩
end
theorem Ls{k:Nat}{l:PySem.W.OpenLaw}{q:Program}{loose:List Str}{XP:(Str->Option Value)->Heap->Prop}{YP:World->Heap->Prop}{d:DefRec}{K:Params->PySem.W.Frag}(hn:l.most=some 63)(hr:Room k callerA)(hdf:d.params.defaults=[])
  (hY:∀(w:World) (h:Heap),YP w h->(K w.params).In h)
  (F:∀(w:World) (mg:Str->Option Value) (fa:Addr) (h:Heap),(K w.params).In h->h.Ns mainGlobals mg->mg d.name=some (.ref fa) ->
   ∃fd:FuncData,(∀(s:Shared) (u:Value),BindsTo s fd ⟨[u],[]⟩ [("script",u)])/\∀base:Heap,(K w.params).In base->base.Ns mainGlobals mg->FnOk l.prog w (K w.params) mg base dY k fa fd ["script"] (yd (K w.params))) :
  PySem.W.WalkO q loose XP YP l.row.toRowW d [] (fun f vs=>PySem.call f vs):=
 L2.Ea (n:=63) (k:=k) (x:="script") (CX:=fun _=>dY) (sp:=fun w=>yd (K w.params)) hn (by decide) hdf hr hY F (fun _ _ a ns hl _ hS=>⟨a,ns,rfl,hS,hl,fun _=>rfl⟩) fun _ _ _ _ _ z=>z
section
variable{P:Program}{w:World}{K:PySem.W.Frag}{mg:Str->Option Value}{base:Heap}
theorem dP{x qual:Str}{st:Stmt}{f:Addr}{fd:FuncData}{dV:Value}{N ps:List Str}{k:Nat}{b:Sf}(F:FunV K x qual st f fd dV)(S:FnScope N ps (aj st))
  (hb:∀(cdv:Value) (A:Around) (outer:List Env) (s:Shared) (H:Hp) (E:XK),Room k (A.deeper (envOfC qual (aj st) s.heap.objs.size f cdv))->BV (ue dY P w K mg base N qual (aj st) f cdv A outer s H E).nox (b7 st) b) :
  FnOk P w K mg base dY (k+1) f fd ps (iE K (aU N ps.length b)):=by
 refine OL F S (fun as d h=>?_) hb fun as d h=>?_
 ·unfold aU at h
  split at h
  ·assumption
  ·cases h
 ·unfold aU at h
  split at h
  ·obtain⟨⟨fl,δ'⟩,e,h⟩:=bind_some h
   cases fl with
   |nx=>cases h;exact⟨δ',.inr ⟨rfl,e⟩⟩
   |rt d=>cases h;exact⟨δ',.inl e⟩
   |bk=>cases h
   |ct=>cases h
  ·cases h
structure Cal (P:Program) (w:World) (K:PySem.W.Frag) (mg:Str->Option Value) (base:Heap) (x:Str) (k:Nat) (g:List D->Option D) (dd:List D):Prop where
 ex:∃(fa:Addr) (fd:FuncData) (ps:List Str) (ds:List Value) (dv:List V),FnOk P w K mg base dY k fa fd ps (iE K g)/\mg x=some (.ref fa)/\keepIn K (.ref fa)=true/\Binds K fd ps ds/\Vals dv ds/\∀Z,Reps K Z dv dd
theorem Cal.mk0{x:Str}{k:Nat}{g:List D->Option D}{fa:Addr}{fd:FuncData}{ps:List Str}(F:FnOk P w K mg base dY k fa fd ps (iE K g))(hm:mg x=some (.ref fa))(hk:keepIn K (.ref fa)=true)(hb:Binds K fd ps []):Cal P w K mg base x k g []:=
 ⟨⟨fa,fd,ps,[],[],F,hm,hk,hb,.nil,fun _=>.nil⟩⟩
end
section
variable{X:Cx}{e:Expr}{es:List Expr}{p pos:Pos}{fs:Dv->Option (List D)}
theorem KA{k:Nat}{x:Str}{g:List D->Option D}{dd:List D}(C:Cal X.prog X.w X.K X.mg X.base x k g dd)(hr:Room k X.A)(hg:Gl X x)(ha:AV X (e::es) fs)(hdb:(x==("__debug__":Str))=false:=by decide)(he:starEach (e::es) X.env=(false,eval e X.env)::starEach es X.env:=by rfl)
  (hpl:(backTo pos (starEach es X.env)).any (·.1)=false:=by rfl):EV X (.Call (.Name x p) (e::es) [] pos) (os fs fun as=>g (as++dd)):=by
 obtain⟨fa,fd,ps,ds,dv,F,hm,hk,hb,hd,hdd⟩:=C.ex;exact Gn F hr hg hm hk hb hd hdd Ca ha hdb he hpl
variable{tg a:Expr}{f:Dv->Option D}
theorem eR(ha:EV X a f):IV X tg a (oI f eA):=by
 intro pins s σ H R I h;obtain⟨H₀,Z₀,Z,δ,ds,hh,e,k⟩:=h;obtain⟨y,e1,e⟩:=bind_some e;cases y with
 |list xs=>exact F3 ha pins s σ H R I ⟨H₀,Z₀,Z,δ,ds,hh,by unfold oI;rw[e1];exact e,k⟩
 |tuple xs=>exact Kj ha pins s σ H R I ⟨H₀,Z₀,Z,δ,ds,hh,by unfold oI;rw[e1];exact e,k⟩
 |_=>cases e
end
noncomputable def kt(env:Env):List (Str×NameKind)->List (Str×Addr)->List (Str×Addr)
 |[],cs=>cs
 | (n,k)::r,cs=>if k == .free then kt env r ((n,(env.cells.lookup n).getD 0)::cs)else kt env r cs
theorem pX{env:Env}:∀(l:List (Str×NameKind)) (cs:List (Str×Addr)),(∀y∈l,y.2=.free->∃c,env.cells.lookup y.1=some c) ->
  (forIn l cs fun(x:Str×NameKind) (r:List (Str×Addr))=>(if(x.2==NameKind.free)=true then do let c <-cellOf env x.1;pure (ForInStep.yield ((x.1,c)::r))else pure (ForInStep.yield r):Sem (ForInStep (List (Str×Addr)))))=pure (kt env l cs)
 |[],cs,_=>rfl
 | (n,k)::r,cs,h=>by
  have ih:=fun cs'=>pX r cs' fun y hy=>h y (List.mem_cons_of_mem _ hy)
  rw[List.forIn_cons];cases hk:k==NameKind.free with
  |true=>
   have hk':k=.free:=by simpa using hk
   obtain⟨c,ec⟩:=h (n,k) List.mem_cons_self hk';have e1:cellOf env n=pure c:=by unfold cellOf;rw[ec]
   simp only[hk,if_true,e1,pure_bind,kt,ec,Option.getD_some];exact ih _
  |false=>
   simp only[hk,Bool.false_eq_true,if_false,pure_bind,kt];exact ih _
theorem hV{scope:Scope}{env:Env}(h:∀y∈scope.names,y.2=.free->∃c,env.cells.lookup y.1=some c):closureFor scope env=pure (kt env scope.names []):=by
 simp only[closureFor];have:=pX (env:=env) scope.names [] h
 first
  | (rw[this];rfl)
  | (simp only[this];rfl)
  | (unfold closureFor;simp_all)
theorem bV{env:Env}:∀(l:List (Str×NameKind)) (cs:List (Str×Addr)) (y:Str) (c:Addr),(∀z∈l,z.2=.free->∃c,env.cells.lookup z.1=some c)->(kt env l cs).lookup y=some c->cs.lookup y=some c\/env.cells.lookup y=some c
 |[],cs,y,c,_,e=>.inl e
 | (n,k)::r,cs,y,c,h,e=>by
  unfold kt at e;have hr:=fun z hz=>h z (List.mem_cons_of_mem _ hz)
  split at e
  ·rename_i hk
   rcases bV r _ y c hr e with q|q
   ·rw[lookup_cons]at q
    cases hy:y==n with
    |true=>
     have hy':y=n:=by simpa using hy
     subst hy';rw[hy]at q;obtain⟨c',ec⟩:=h (y,k) List.mem_cons_self (by simpa using hk);simp only[ec,Option.getD_some]at q;cases q;exact .inr ec
    |false=>rw[hy]at q;exact .inl q
   ·exact .inr q
  ·exact bV r cs y c hr e
theorem lC{env:Env}:∀(l:List (Str×NameKind)) (cs:List (Str×Addr)) (y:Str),((y,NameKind.free)∈l\/(cs.lookup y).isSome=true)->((kt env l cs).lookup y).isSome=true
 |[],cs,y,h=>by
  rcases h with h|h
  ·cases h
  ·exact h
 | (n,k)::r,cs,y,h=>by
  unfold kt;split
  ·rename_i hk
   refine lC r _ y ?_;rcases h with h|h
   ·rcases List.mem_cons.mp h with e|e
    ·cases e;exact .inr (by simp[lookup_cons])
    ·exact .inl e
   ·refine .inr ?_
    rw[lookup_cons];cases hy:y==n with
    |true=>rfl
    |false=>exact h
  ·rename_i hk
   refine lC r cs y ?_;rcases h with h|h
   ·rcases List.mem_cons.mp h with e|e
    ·cases e;exact absurd rfl hk
    ·exact .inl e
   ·exact .inr h
theorem gk{env:Env}{y:Str}:∀(l:List (Str×NameKind)),(∀z∈l,z.2≠.cell) ->
  (((l.map fun(n,k)=>if(k==NameKind.free&&env.scope.kind == .function&&env.kindOf n==some .cell)then(n,NameKind.cell)else(n,k)).lookup y=some .cell\/(l.map fun(n,k)=>if(k==NameKind.free&&env.scope.kind == .function&&env.kindOf n==some .cell)then(n,NameKind.cell)else(n,k)).lookup y=some .free)↔l.lookup y=some .free)
 |[],_=>by simp
 | (n,k)::r,h=>by
  have ih:=gk (env:=env) (y:=y) r fun z hz=>h z (List.mem_cons_of_mem _ hz)
  have hk:k≠.cell:=h (n,k) List.mem_cons_self;rw[List.map_cons];cases hy:y==n with
  |true=>
   by_cases hc:(k==NameKind.free&&env.scope.kind == .function&&env.kindOf n==some .cell)=true
   ·have hf:k=.free:=by
     simp only[Bool.and_eq_true]at hc;simpa using hc.1.1
    simp only[if_pos hc,lookup_cons,hy];simp[hf]
   ·simp only[if_neg hc,lookup_cons,hy]
    simp[hk]
  |false=>
   by_cases hc:(k==NameKind.free&&env.scope.kind == .function&&env.kindOf n==some .cell)=true
   ·simp only[if_pos hc,lookup_cons,hy];exact ih
   ·simp only[if_neg hc,lookup_cons,hy];exact ih
noncomputable def dZ(X:Cx)(scope:Scope)(N:List Str)(C:Addr)(s₀:Shared)(H₀:Hp)(ex:List Addr):Cx:=
 { X with N:=N,s₀:=s₀,H₀:=H₀,env:=compEnvC scope (kt X.env scope.names []) C X.env,outer:=X.stack,stack:=X.stack,ex:=ex,fn:=fun _=>false,pn:=[],xe:=fun _ _=>False }
structure BlkOk (on:List (Str×NameKind)) (ON:List Str) (scope:Scope) (vars:List Str) (caps:List (Nat×Str)):Prop where
 kind:scope.kind=.function
 cell:∀y∈scope.names,y.2≠.cell
 names:∀y∈scope.names,y.2=.local->scope.names.lookup y.1=some .local
 free:∀y∈scope.names,y.2=.free->on.lookup y.1=some .cell\/on.lookup y.1=some .free
 cap:∀p∈caps,ON[p.1]? = some p.2/\scope.names.lookup p.2=some .free
section
variable{X:Cx}{pins:List (Addr×Obj)}{σ:St}{H H':Hp}{s s':Shared}{scope:Scope}{vars:List Str}{caps:List (Nat×Str)}{fp:List Addr}{C:Addr}
def gL(σ:St)(caps:List (Nat×Str)):St:=caps.map fun p=>(σ[p.1]?).getD none
theorem BlkOk.cells(B:BlkOk X.env.scope.names X.N scope vars caps)(I:Inv X pins σ H s):∀y∈scope.names,y.2=.free->∃c,X.env.cells.lookup y.1=some c:=fun y hy e=>I.ok.has y.1 (B.free y hy e)
theorem xz(B:BlkOk X.env.scope.names X.N scope vars caps)(I:Inv X pins σ H s)(hf:∀b∈fp,kF X pins H b)(hlt:∀b∈fp,b<s.heap.objs.size)(hC:s.heap.objs.size<=C):(dZ X scope (vars++caps.map (·.2)) C s H fp).Ok where
 mod:=I.ok.mod
 kind:=B.kind
 glob:=I.ok.glob
 blt:=I.ok.blt
 above:=hC
 inj:=fun x y c e1 e2=>by
  rcases bV _ _ _ _ (B.cells I) e1 with q1|q1
  ·cases q1
  ·rcases bV _ _ _ _ (B.cells I) e2 with q2|q2
   ·cases q2
   ·exact I.ok.inj x y c q1 q2
 has:=fun x e=>by
  have:scope.names.lookup x=some .free:=(gk scope.names B.cell).mp e;have:=lC (env:=X.env) scope.names [] x (.inl (PySem.mem_of_lookup this));exact Option.isSome_iff_exists.mp this
 cab:=fun x c e=>nomatch e
 hd:=I.ok.hd
 frames:=I.ok.frames
 stk:=.inl rfl
 exf:=fun b hb=>⟨ne_of_lt (lt_of_lt_of_le (hlt b hb) hC),fun x c e=>by
  rcases bV _ _ _ _ (B.cells I) e with q|q
  ·cases q
  ·exact(hf b hb).2.2.2.2.1 x c q⟩
 bs:=I.bs
 bsz:=Nat.le_trans I.ok.bsz I.sz
 noex:=fun b o e hb=>by
  rcases (hf b hb).2.2.2.1 with z|z
  ·exact I.ok.noex b o e z
  ·exact absurd (lt_of_lt_of_le (lt_size e) (Nat.le_trans I.ok.bsz z)) (lt_irrefl _)
 exfs:=fun b hb z=>by
  rcases List.mem_cons.mp (I.stkSub b z)with q|q
  ·exact(hf b hb).2.1 q
  ·exact(hf b hb).2.2.1 q
 funs:=I.stack
 frf:=I.stkFree
theorem zl(B:BlkOk X.env.scope.names X.N scope vars caps)(I:Inv X pins σ H s)(hf:∀b∈fp,kF X pins H b)(hlt:∀b∈fp,b<s.heap.objs.size)(hC:s.heap.objs.size<=C){h₁:Heap}{m:Str->Option Value}{tk:Nat}(hns:h₁.Ns C m)(old:∀b o,s.heap.get? b=some o->h₁.get? b=some o):
  Inv (dZ X scope (vars++caps.map (·.2)) C s H fp) [] (vars.map (fun _=>none)++gL σ caps) H { s with heap:=h₁,toks:=tk }:=by
 refine⟨xz B I hf hlt hC,rfl,I.bare,Un.kept old,⟨m,hns,fun i x v e1 e2 e3=>?_⟩,fun x c e=>?_,I.hok.fresh hC,fun x c e=>?_,fun p hp=>absurd (show p∈([]:List (Addr×Obj))from hp) (by simp),I.hok.kept old,?_⟩
 ·have e1:(vars++caps.map (·.2))[i]? = some x:=e1
  by_cases hi:i<vars.length
  ·rw[getElem?_append_left (by simpa using hi),getElem?_map]at e2
   cases q:vars[i]?<;>rw[q]at e2<;>cases e2
  ·rw[getElem?_append_right (by simpa using hi)]at e1 e2
   simp only[List.length_map]at e2;unfold gL at e2;rw[getElem?_map]at e1 e2;cases q:caps[i-vars.length]? with
   |none=>rw[q]at e1;cases e1
   |some p=>
    rw[q]at e1 e2;cases e1;have hp:=List.mem_of_getElem? q;obtain⟨g1,g2⟩:=B.cap p hp;have gf:X.env.scope.names.lookup p.2=some .cell\/X.env.scope.names.lookup p.2=some .free:=B.free (p.2,.free) (PySem.mem_of_lookup g2) rfl;have ev:σ[p.1]? = some (some v):=by
     have e2:(σ[p.1]?).getD none=some v:=Option.some.inj e2;cases z:σ[p.1]? with
     |none=>rw[z]at e2;cases e2
     |some w=>rw[z]at e2;rw[show w=some v from e2]
    obtain⟨m',_,hl⟩:=I.loc;obtain⟨u,r,l⟩:=hl p.1 p.2 v g1 ev (gf.elim (fun z=>.inr (.inl z)) fun z=>.inr (.inr z))
    refine⟨u,r,.inr ⟨?_,?_⟩⟩
    ·exact(gk scope.names B.cell).mpr g2
    ·rcases l with⟨z,_⟩|⟨_,c,ec,hc⟩
     ·have z:X.env.scope.names.lookup p.2=some .local:=z
      rcases gf with w|w<;>rw[z]at w<;>cases w
     ·obtain⟨c',q'⟩:=Option.isSome_iff_exists.mp (lC (env:=X.env) scope.names [] p.2 (.inl (PySem.mem_of_lookup g2)))
      rcases bV _ _ _ _ (B.cells I) q' with w|w
      ·cases w
      ·rw[ec]at w
       cases w;obtain⟨o,ho,hd⟩:=hc;exact⟨c,q',o,old c o ho,hd⟩
 ·rcases bV _ _ _ _ (B.cells I) e with q|q
  ·cases q
  ·obtain⟨v,o,ho,hd⟩:=I.cell x c q
   exact⟨v,o,old c o ho,hd⟩
 ·rcases bV _ _ _ _ (B.cells I) e with q|q
  ·cases q
  ·exact I.freeC x c q
 ·simp[dZ,gL]
theorem zj(I:Inv X pins σ H s)(hf:∀b∈fp,kF X pins H b){D:Addr}{s':Shared}{σ':St}{N:List Str}{ys:List V}{its:List Value}(hC:s.heap.objs.size<=C)(hD:s.heap.objs.size<=D)(hDC:D≠C)
  (J:Inv (dZ X scope N C s H fp) [] σ' H' s') (hD':H' D=none) (hp:s'.heap.PlainList D its.toArray) (hv:Vals ys its) (hz:ys.length<=sizeLine) {h':Heap} (hs:Heap.SameBut C s'.heap h') :
  Inv X pins σ (upd H' D (.lst ys)) { s' with heap:=h' }:=by
 have U:Un (A0 X.stack) fp H H' s.heap s'.heap:=J.base;have neC:∀b o,s.heap.get? b=some o->b≠C:=fun b o e=>ne_of_lt (lt_of_lt_of_le (lt_size e) hC)
 have neD:∀b o,s.heap.get? b=some o->b≠D:=fun b o e=>ne_of_lt (lt_of_lt_of_le (lt_size e) hD)
 have mv:∀b o,b≠C->s'.heap.get? b=some o->h'.get? b=some o:=fun b o hb e=>hs.extBut b o hb e
 have tD:∀b o,H' b=some o->(upd H' D (.lst ys)) b=some o:=fun b o e=>by rw[aA (aW e hD')];exact e
 refine I.call' (s':={ s' with heap:=h' }) (ch:=fp) J.os ⟨fun b o e n h1 h2=>mv b o (neC b o e) (U.keep b o e n h1 h2),fun b o e n h1 h2=>?_,fun b o e n h2=>?_,fun b o e h2=>?_,fun b xs e=>tD _ _ (U.tups b xs e),fun b o xs e=>tD _ _ (U.frzs b o xs e),fun b ps e=>?_⟩ (fun b o e=>?_) J.bare
  (fun b hb=>⟨(hf b hb).2.2.2.1,(hf b hb).2.1,(hf b hb).2.2.2.2.1,(hf b hb).2.2.2.2.2⟩)
 ·obtain⟨sl,q⟩:=U.slot b o e n h1 h2
  exact⟨sl,mv b _ (neC b o e) q⟩
 ·rw[aA (neD b o e)];exact U.free b o e n h2
 ·obtain⟨o',q⟩:=U.there b o e h2
  exact⟨o',mv b _ (neC b o e) q⟩
 ·obtain⟨more,q⟩:=U.tbls b ps e
  exact⟨more,tD _ _ q⟩
 ·by_cases hb:b=D
  ·subst hb
   rw[aN]at e;cases e;obtain⟨n,q⟩:=hp;exact⟨hz,its,n,hv,mv _ _ hDC q⟩
  ·rw[aA hb]at e
   refine(J.hok b o e).stay (fun c v hc q=>mv c v ?_ q) (fun c q=>tD _ _ q) fun c xs q=>tD _ _ q
   intro z;have fc:H' C=none:=J.free;rcases hc with w|w
   ·rw[<-w,z,fc]at e;cases e
   ·rw[z,fc]at w;cases w
theorem vN(elt target iter:Expr)(scope:Scope)(pos:Pos)(it acc:Value)(env:Env):
  compTurn (.ListComp elt [⟨target,iter,[],0⟩] scope pos) 0 it acc env=(standAt iter.pos >>= fun _=>pyNext it >>= fun r=>match r with
   |none=>pure (.done .next)
   |some v=>letOwnedTupleGo target it v >>= fun _=>assign target env v >>= fun _=>
    (eval elt env >>= fun x=>call (.builtin "list.append") [acc,x] >>= fun _=>pure ()) >>= fun _=>
     again (.compLoop (.ListComp elt [⟨target,iter,[],0⟩] scope pos) 0 it acc env)):=by rfl
def zw(σ σ':St):Prop:=σ.length = σ'.length/\∀(i:Nat) v,σ[i]? = some (some v) -> σ'[i]? = some (some v)
def xU(wi:TI)(g:TG)(te:TE)(vars:List Str)(caps:List (Nat×Str)):TE:=fun σ H Q=>wi σ H fun J H1=>∃W:Nat->Nat->List V->Hp->Prop,(∃m,W 0 m [] H1)/\∀i m ys H,W i m ys H ->
 (J.stop i H/\ys.length<=sizeLine/\∀p,H p=none->Q (.ref p) (upd H p (.lst ys))) \/
 (J.go i H/\ys.length<sizeLine/\∀x H',J.yld i H x H'->g x (vars.map (fun _=>none)++gL σ caps) H' fun σ2 H2=>zw (vars.map (fun _=>none)++gL σ caps) σ2/\te σ2 H2 fun y H3=>∃m',m'<m/\W (i+1) m' (ys++[y]) H3)
theorem nt{prog:Program}{w:World}{A:Around}{R:Result->Shared->Prop}{s:Shared}{elt target iter:Expr}{scope:Scope}{pos:Pos}{it acc:Value}{env:Env}(I:Nat->Shared->Prop)
  (turn:∀n s,I n s->wpAny (model prog w) A (pyNext it) (fun r s₁=>match r with
   |none=>R (.ok .next) s₁
   |some v=>wpAny (model prog w) A (letOwnedTupleGo target it v) (fun _ s₁=>wpAny (model prog w) A (assign target env v) (fun _ s₂=>wpAny (model prog w) A (eval elt env) (fun x s₃=>
     wpAny (model prog w) A (call (.builtin "list.append") [acc,x]) (fun _ s₄=>∃m,m<n/\I m s₄) (fun _ _=>False) s₃) (fun _ _=>False) s₂) (fun _ _=>False) s₁) (fun _ _=>False) s₁) (fun _ _=>False) s)
  (n:Nat) (h:I n s):codeAny (model prog w) A (.compLoop (.ListComp elt [⟨target,iter,[],0⟩] scope pos) 0 it acc env) R s:=by
 refine codeAny_loop rfl I (fun n s hI=>?_) n h;show wpAny _ _ ((compTurn (.ListComp elt [⟨target,iter,[],0⟩] scope pos) 0 it acc env).onRaise (fun x=>do noteFrame x env;theTreesLotGoes x)) _ _ s;refine wpAny_noted ?_;rw[vN];refine wpAny_bind (wpAny_standAt (wpAny_bind (wpAny_mono (turn n s hI) (fun r s₁ h₁=>?_) fun _ _ h'=>h'.elim)))
 cases r with
 |none=>exact wpAny_pure h₁
 |some v=>
  refine wpAny_bind (wpAny_mono h₁ (fun _ s₁ h₁=>?_) fun _ _ h'=>h'.elim)
  exact wpAny_bind (wpAny_mono h₁ (fun _ s₂ h₂=>wpAny_bind (wpAny_bind (wpAny_mono h₂ (fun x s₃ h₃=>wpAny_bind (wpAny_mono h₃
   (fun _ s₄ h₄=>wpAny_pure (wpAny_pure ⟨rfl,h₄⟩)) fun _ _ h'=>h'.elim)) fun _ _ h'=>h'.elim))) fun _ _ h'=>h'.elim)
end
section
variable{X:Cx}{scope:Scope}{vars:List Str}{caps:List (Nat×Str)}{elt tg iter:Expr}{pos:Pos}{wi:TI}{g:TG}{te:TE}
theorem qb(B:BlkOk X.env.scope.names X.N scope vars caps)(hc:X.calm=true)
  (hg:∀C s₀ H₀ ex,PG (dZ X scope (vars++caps.map (·.2)) C s₀ H₀ ex) tg g) (he:∀C s₀ H₀ ex,PE (dZ X scope (vars++caps.map (·.2)) C s₀ H₀ ex) elt te)
  {pins:List (Addr×Obj)} {σ:St} {H2:Hp} {s2:Shared} {Q:VK} {it:Addr} {fp:List Addr} {tn:Nat->Heap->Prop} {J:It} (I2:Inv X pins σ H2 s2) (T:DJ X.prog X.w X.K tg J fp it tn) (st2:tn 0 s2.heap) (f2:∀b∈fp,kF X pins H2 b)
  {W:Nat->Nat->List V->Hp->Prop} {m0:Nat} (w0:W 0 m0 [] H2) (turn:∀i m ys H,W i m ys H ->
   (J.stop i H/\ys.length<=sizeLine/\∀p,H p=none->Q (.ref p) (upd H p (.lst ys))) \/
   (J.go i H/\ys.length<sizeLine/\∀x H',J.yld i H x H'->g x (vars.map (fun _=>none)++gL σ caps) H' fun σ2 H2=>zw (vars.map (fun _=>none)++gL σ caps) σ2/\te σ2 H2 fun y H3=>∃m',m'<m/\W (i+1) m' (ys++[y]) H3))
  {RR:Value->Addr->Result->Shared->Prop} {E:Value->Shared->Prop}
  (hRR:∀D C s' m,s'.heap.Ns C m->D≠C->s2.heap.objs.size<=D->s2.heap.objs.size<=C->∀H',H' C=none->(∀h',Heap.SameBut C s'.heap h'->Inv X pins σ H' { s' with heap:=h' })->Q (.ref D) H'->RR (.ref D) C (.ok .next) s') :
  wpAny (model X.prog X.w) X.A (newList []) (fun acc s₃=>wpAny (model X.prog X.w) X.A (newFunctionEnv scope X.env.globals (kt X.env scope.names []) [] X.env.qual none .none (some X.env)) (fun cenv s₄=>
   codeAny (model X.prog X.w) X.A (.compStart (.ListComp elt [⟨tg,iter,[],0⟩] scope pos) 0 (.ref it) acc { cenv with scope:=relabel scope X.env }) (RR acc cenv.locals) s₄) E s₃) E s2:=by
 refine wpAny_newObj_type (wpAny_newFunctionEnv B.cell (by intro y hy;simp at hy) (fun h₁ hns₁ hsb₁=>?_) B.kind);dsimp only at hns₁ hsb₁ ⊢;generalize hP:s2.heap.push { cls:=.type "list",dict:=none,data:=.seq ([]:List Value).toArray }=HP at hns₁ hsb₁ ⊢;have hCs:HP.objs.size=s2.heap.objs.size+1:=by rw[<-hP,Heap.size_push]
 have hDC:s2.heap.objs.size≠HP.objs.size:=by rw[hCs];exact ne_of_lt (Nat.lt_succ_self _)
 have hCle:s2.heap.objs.size<=HP.objs.size:=by rw[hCs];exact Nat.le_succ _
 have old:∀b o,s2.heap.get? b=some o->h₁.get? b=some o:=fun b o e=>hsb₁.extBut b o (ne_of_lt (lt_of_lt_of_le (lt_size e) hCle)) (get?_push_of_some _ (hP ▸ get?_push_of_some _ e))
 have hacc:h₁.PlainList s2.heap.objs.size #[]:=⟨_,hsb₁.extBut _ _ hDC (get?_push_of_some _ (hP ▸ Heap.get?_push_size _ rfl))⟩;have flt:∀b∈fp,b<s2.heap.objs.size:=fun b hb=>by
  obtain⟨o,e,_⟩:=T.obj _ _ st2 b hb;exact lt_size e
 have st1:tn 0 h₁:=T.keep _ _ _ st2 fun b _ o e=>old b o e
 have loop:∀s3:Shared,s3={ s2 with heap:=h₁,toks:=s2.toks+([]:List (Str×Value)).length } ->
   codeAny (model X.prog X.w) X.A (.compLoop (.ListComp elt [⟨tg,iter,[],0⟩] scope pos) 0 (.ref it) (.ref s2.heap.objs.size) (compEnvC scope (kt X.env scope.names []) HP.objs.size X.env))
    (RR (.ref s2.heap.objs.size) HP.objs.size) s3:=by
  rintro s3 rfl;have X':=dZ X scope (vars++caps.map (·.2)) HP.objs.size s2 H2 fp;have fpo:∀{H':Hp},(∀b∈fp,H' b=none)->∀b∈fp,kF (dZ X scope (vars++caps.map (·.2)) HP.objs.size s2 H2 fp) [] H' b:=fun hn b hb=>by
   have ok:=xz B I2 f2 flt hCle;exact⟨hn b hb,(ok.exf b hb).1,ok.exfs b hb,.inl hb,(ok.exf b hb).2,fun p hp=>absurd (show p∈([]:List (Addr×Obj))from hp) (by simp)⟩
  refine nt (fun n s=>∃i ys H its,Inv (dZ X scope (vars++caps.map (·.2)) HP.objs.size s2 H2 fp) [] (vars.map (fun _=>none)++gL σ caps) H s/\tn i s.heap/\(∀b∈fp,H b=none)/\s.heap.PlainList s2.heap.objs.size (List.toArray its)/\H s2.heap.objs.size=none/\Vals ys its/\W i n ys H) ?_ m0
   ⟨0,[],H2,[],zl B I2 f2 flt hCle hns₁ old,st1,fun b hb=>(f2 b hb).1,hacc,I2.hok.fresh (le_refl _),.nil,w0⟩
  rintro n s4 ⟨i,ys,H4,its,I4,st4,fr4,pl4,nD4,v4,w4⟩;obtain⟨nn,eD⟩:=id pl4;have DnL:s2.heap.objs.size≠(dZ X scope (vars++caps.map (·.2)) HP.objs.size s2 H2 fp).env.locals:=hDC;have Dfs:s2.heap.objs.size ∉ (dZ X scope (vars++caps.map (·.2)) HP.objs.size s2 H2 fp).fs:=fun z=>by
   rcases List.mem_cons.mp (I2.stkSub _ z)with q|q
   ·have:=I2.lt;rw[<-q]at this;exact lt_irrefl _ this
   ·exact I2.nofs (le_refl _) q
  have Dfp:∀b∈fp,s2.heap.objs.size≠b:=fun b hb z=>by have:=flt b hb;rw[<-z]at this;exact lt_irrefl _ this
  have DnC:∀x c,(dZ X scope (vars++caps.map (·.2)) HP.objs.size s2 H2 fp).env.cells.lookup x=some c->c≠s2.heap.objs.size:=fun x c e z=>by
   rcases bV _ _ _ _ (B.cells I2) e with q|q
   ·cases q
   ·obtain⟨v,o,ho,_⟩:=I2.cell x c q
    have:=lt_size ho;rw[z]at this;exact lt_irrefl _ this
  have pinD:∀{σ':St} {H':Hp} {s':Shared},Inv (dZ X scope (vars++caps.map (·.2)) HP.objs.size s2 H2 fp) [(s2.heap.objs.size,{ cls:=.type "list",data:=.seq its.toArray nn })] σ' H' s'->s'.heap.PlainList s2.heap.objs.size its.toArray/\H' s2.heap.objs.size=none:=fun{σ' H' s'} I'=>by
   obtain⟨q1,q2,_⟩:=I'.pin (s2.heap.objs.size,{ cls:=.type "list",data:=.seq its.toArray nn }) (by simp[dZ]);exact⟨⟨nn,q1⟩,q2⟩
  have I4p:Inv (dZ X scope (vars++caps.map (·.2)) HP.objs.size s2 H2 fp) [(s2.heap.objs.size,{ cls:=.type "list",data:=.seq its.toArray nn })] (vars.map (fun _=>none)++gL σ caps) H4 s4:=
   I4.pins_of fun p hp=>by
    have e:p=(s2.heap.objs.size,{ cls:=.type "list",data:=.seq its.toArray nn }):=by simpa[dZ]using hp
    subst e;exact⟨eD,nD4,DnL,Dfs,fun v z=>by cases z⟩
  have fpo':∀{H':Hp},(∀b∈fp,H' b=none)->∀b∈fp,kF (dZ X scope (vars++caps.map (·.2)) HP.objs.size s2 H2 fp) [(s2.heap.objs.size,{ cls:=.type "list",data:=.seq its.toArray nn })] H' b:=fun hn b hb=>by
   obtain⟨q1,q2,q3,q4,q5,_⟩:=fpo hn b hb;exact⟨q1,q2,q3,q4,q5,fun p hp=>by
    have e:p=(s2.heap.objs.size,{ cls:=.type "list",data:=.seq its.toArray nn }):=by simpa[dZ]using hp
    subst e;exact Dfp b hb⟩
  have unp:∀{pl:List (Addr×Obj)} {σ':St} {H':Hp} {s':Shared},Inv (dZ X scope (vars++caps.map (·.2)) HP.objs.size s2 H2 fp) pl σ' H' s'->Inv (dZ X scope (vars++caps.map (·.2)) HP.objs.size s2 H2 fp) [] σ' H' s':=fun{pl σ' H' s'} I'=>
   I'.pins_of fun p hp=>absurd (show p∈([]:List (Addr×Obj))from hp) (by simp)
  rcases turn i n ys H4 w4 with⟨stop,hz,qn⟩|⟨go,hz,step⟩
  ·refine cm (T.done (dZ X scope (vars++caps.map (·.2)) HP.objs.size s2 H2 fp) rfl rfl rfl hc i _ s4 _ H4 _ I4p (fpo' fr4) st4 stop) fun r s5 ⟨hr,I5⟩=>?_
   subst hr;obtain⟨p5,n5⟩:=pinD I5;obtain⟨m5,ns5,_⟩:=I5.loc;refine hRR _ _ s5 m5 ns5 hDC (le_refl _) hCle _ ?_ (fun h' hs'=>zj I2 f2 hCle (le_refl _) hDC (unp I5) n5 p5 v4 hz hs') (qn _ n5)
   rw[aA hDC.symm];exact I5.free
  ·refine cm (T.item (dZ X scope (vars++caps.map (·.2)) HP.objs.size s2 H2 fp) rfl rfl rfl hc i _ s4 _ H4 _ I4p (fpo' fr4) st4 go) fun r s5 ⟨u,hr,h5⟩=>?_
   subst hr;refine cm h5 fun _ s6 ⟨x,H6,I6,rx,yx,st6,fr6⟩=>?_
   have I6p:=I6.pinned (fpo' fr6) (T.obj _ _ st6);refine cm (hg _ _ _ _ _ s6 _ H6 x u _ I6p rx (step x H6 yx)) fun _ s7 ⟨σ7,H7,I7,kp,q7⟩=>?_
   refine cm (he _ _ _ _ _ s7 σ7 H7 _ I7 q7) fun v s8 ⟨y,H8,I8,ry,m',hm,w8⟩=>?_
   obtain⟨p8,n8⟩:=pinD I8.unpinned;have st8:tn (i+1) s8.heap:=T.keep _ _ _ st6 fun b hb o e=>(I8.pin (b,o) (mem_append_right _ (mem_append_right _ (da hb e)))).1
   have fr8:∀b∈fp,H8 b=none:=fun b hb=>by
    obtain⟨o,e,d⟩:=T.obj _ _ st6 b hb;exact(I8.pin (b,o) (mem_append_right _ (mem_append_right _ (da hb e)))).2.1
   have hl:=v4.length;refine wpAny_list_append_plain p8 (fun h9 p9 sb9=>⟨m',hm,i+1,ys++[y],H8,its++[v],?_,?_,fr8,by simpa using p9,n8,v4.append (.cons ry .nil),w8⟩) (by simp;omega)
   ·have I9:Inv (dZ X scope (vars++caps.map (·.2)) HP.objs.size s2 H2 fp) [] σ7 H8 { s8 with heap:=h9,toks:=s8.toks }:=
     (unp I8).turned (it:=s2.heap.objs.size) (fun b o hb e=>sb9.extBut b o hb e) n8 DnL (.inr (le_refl _)) DnC fun p hp=>absurd (show p∈([]:List (Addr×Obj))from hp) (by simp)
    exact I9.weak kp.1 kp.2
   ·exact T.keep _ _ _ st8 fun b hb o e=>sb9.extBut b o (Dfp b hb).symm e
 exact codeAny_compStart_list (loop _ rfl) (T.self _ 0 _ _ _ st1 (loop _ rfl))
theorem yt(B:BlkOk X.env.scope.names X.N scope vars caps)(hc:X.calm=true)(hi:PI X tg iter wi)
  (hg:∀C s₀ H₀ ex,PG (dZ X scope (vars++caps.map (·.2)) C s₀ H₀ ex) tg g) (he:∀C s₀ H₀ ex,PE (dZ X scope (vars++caps.map (·.2)) C s₀ H₀ ex) elt te) (hs:∀x,foldedSetIterable iter X.env x=pure x:=by intro _;rfl) :
  PE X (.ListComp elt [⟨tg,iter,[],0⟩] scope pos) (xU wi g te vars caps):=by
 intro pins s σ H Q I h;rw[eval_ListComp];refine wpAny_comprehension_free (use:=none) rfl hs (hV (B.cells I)) B.kind B.names ?_;show wpAny _ _ (eval iter X.env) _ _ s;refine cm (hi pins s σ H _ I h) fun v s1 h1=>cm h1 fun itv s2 h2=>?_
 obtain⟨it,fp,tn,J,H2,e,I2,T,st2,f2,W,⟨m0,w0⟩,turn⟩:=h2;subst e;exact qb B hc hg he I2 T st2 f2 w0 turn (RR:=fun acc C=>compPost (model X.prog X.w) X.A X.xe none (EP X pins σ Q) acc C) fun D C s' m ns _ _ _ H' _ k q=>⟨m,ns,fun h' hs'=>⟨.ref D,H',k h' hs',rfl,q⟩⟩
theorem EX{i:Nat}{y:Str}{py spos:Pos}(B:BlkOk X.env.scope.names X.N scope vars caps)(hc:X.calm=true)(hi:PI X tg iter wi)
  (hg:∀C s₀ H₀ ex,PG (dZ X scope (vars++caps.map (·.2)) C s₀ H₀ ex) tg g) (he:∀C s₀ H₀ ex,PE (dZ X scope (vars++caps.map (·.2)) C s₀ H₀ ex) elt te)
  (hN:X.N.Nodup) (hy:X.N[i]? = some y) (hx:zv X.env.scope y) (hsw:swapsWith (.ListComp elt [⟨tg,iter,[],0⟩] scope pos) (some (.Name y py)) spos.line X.env=pure true)
  (hf:X.fn y=true\/X.env.scope.names.lookup y=some .local) (hs:∀x,foldedSetIterable iter X.env x=pure x:=by intro _;rfl) :
  PS X (.Assign [.Name y py] (.ListComp elt [⟨tg,iter,[],0⟩] scope pos) spos) (fun D σ H=>xU wi g te vars caps σ H fun v H1=>D.nx (σ.set i (some v)) H1):=by
 intro pins s σ H DE I h;rw[exec_Assign_Name_used _ _ _ _ hsw];refine wpAny_bind (wpAny_standAt (wpAny_bind ?_));show wpAny _ X.A (do let _ <-comprehension (.ListComp elt [⟨tg,iter,[],0⟩] scope pos) scope X.env _ (newList []) false (eval iter X.env) (some (assign (.Name y py) X.env))) _ _ s;refine wpAny_bind (wpAny_mono (wpAny_comprehension_free (use:=some (assign (.Name y py) X.env)) (Q:=fun _ s'=>SP X pins DE .next s') rfl hs (hV (B.cells I)) B.kind B.names
  (cm (hi pins s σ H _ I h) fun v s1 h1=>cm h1 fun itv s2 h2=>?_)) (fun _ s' hq=>wpAny_pure (wpAny_pure hq)) fun _ _ e=>e)
 obtain⟨it,fp,tn,J,H2,e,I2,T,st2,f2,W,⟨m0,w0⟩,turn⟩:=h2;subst e;refine qb (Q:=fun v H1=>DE.nx (σ.set i (some v)) H1) B hc hg he I2 T st2 f2 w0 turn (RR:=fun acc C=>compPost (model X.prog X.w) X.A X.xe (some (assign (.Name y py) X.env)) (fun _ s'=>SP X pins DE .next s') acc C) ?_
 intro D C s' m ns hDC hD hC H' hHC k q;obtain⟨oC,es,ep,eC,dC,rC⟩:=ns;have I':Inv X pins σ H' s':=k s'.heap (Heap.SameBut.refl ..);have nL:C≠X.env.locals:=fun z=>by have:=I2.lt;rw[<-z]at this;exact absurd (lt_of_lt_of_le this hC) (lt_irrefl _)
 have nF:C ∉ X.fs:=I2.nofs hC;have nCell:∀x c,X.env.cells.lookup x=some c->c≠C:=fun x c e z=>by
  obtain⟨v,o,ho,_⟩:=I2.cell x c e;have:=lt_size ho;rw[z]at this;exact absurd (lt_of_lt_of_le this hC) (lt_irrefl _)
 have nPin:∀p∈X.pn++pins,p.1≠C:=fun p hp z=>by
  have:=lt_size (I2.pin p hp).1;rw[z]at this;exact absurd (lt_of_lt_of_le this hC) (lt_irrefl _)
 have Ip:Inv X (pins++[(C,oC)]) σ H' s':=I'.pins_of fun p hp=>by
  rcases List.mem_append.mp hp with z|z
  ·exact I'.pin p (mem_append_right _ z)
  ·have e:p=(C,oC):=by simpa using z
   subst e;exact⟨eC,hHC,nL,nF,fun v z=>by rw[dC]at z;cases z⟩
 refine cm (b9 (pos:=py) hN hy hx hf _ s' σ H' (.ref D) (.ref D) (fun σ' H''=>σ' = σ.set i (some (.ref D))/\H''=H'/\DE.nx σ' H'') Ip rfl ⟨rfl,rfl,q⟩) fun _ s'' ⟨σ'',H'',I'',e1,e2,q''⟩=>?_
 subst e1 e2;have eC'':s''.heap.get? C=some oC:=(I''.pin (C,oC) (mem_append_right _ (mem_append_right _ (by simp)))).1;refine⟨m,⟨oC,es,ep,eC'',dC,rC⟩,fun h' hs'=>⟨_,H'',?_,q''⟩⟩
 exact I''.unpinned.turned (t':=s''.toks) (it:=C) (fun b o hb e=>hs'.extBut b o hb e) hHC nL (.inr (Nat.le_trans I2.sz hC)) nCell nPin
end
def Ld:Option Sl->Sl
 |some (.fz d)=>.fz d
 |_=>.un
@[simp] theorem N6(d:D):Ld (some (.fz d))=.fz d:=rfl
def eM(δ:Dv)(caps:List (Nat×Str)):Dv:=caps.map fun p=>Ld δ[p.1]?
noncomputable def Ap(f:D->Option D):List D->Option (List D)
 |[]=>some []
 |d::ds=>(f d).bind fun e=>(Ap f ds).bind fun es=>some (e::es)
noncomputable def eN(fi:Dv->Option (List D))(caps:List (Nat×Str))(bv:D->Option (List D))(fe:Dv->Option D):Dv->Option D:=fun δ=>(fi δ).bind fun ds=>if ds.length<=sizeLine then(Ap (fun d=>(bv d).bind fun vs=>fe (vs.map .fz++eM δ caps)) ds).bind fun es=>some (.list es)else none
def ut:D->Option (List D):=fun d=>some [d]
theorem jm{f:D->Option D}:∀{ds es:List D},Ap f ds=some es->es.length=ds.length
 |[],es,h=>by cases h;rfl
 |d::ds,es,h=>by
  obtain⟨e,_,h⟩:=bind_some h;obtain⟨es',h2,h⟩:=bind_some h;cases h;exact congrArg (· + 1) (jm h2)
theorem pE{f:D->Option D}:∀{ds es:List D} {i:Nat} {d:D},Ap f ds=some es->ds[i]? = some d->∃e,f d=some e/\es[i]? = some e
 |[],es,i,d,h,q=>by simp at q
 |d::ds,es,i,d',h,q=>by
  obtain⟨e,h1,h⟩:=bind_some h;obtain⟨es',h2,h⟩:=bind_some h;cases h;cases i with
  |zero=>simp at q;subst q;exact⟨e,h1,rfl⟩
  |succ i=>simp at q;obtain⟨e',g1,g2⟩:=pE (i:=i) h2 q;exact⟨e',g1,by simpa using g2⟩
def vX(K:Fg)(g:TG)(n:Nat)(bv:D->Option (List D)):Prop:=∀(x:V) (Z:Hp) (d:D) (vs:List D) (σc:St) (H:Hp) (R:St->Hp->Prop),Rep K Z x d->Same Z H->bv d=some vs->(∀us,Reps K Z us vs->us.length=n->R (us.map some ++ σc) H)->g x (List.replicate n none ++ σc) H R
theorem d4{K:Fg}:vX K (Dd 0) 1 ut:=fun x Z d vs σc H R r zh e k=>by
 cases e;exact k [x] (.cons r .nil) rfl
section
variable{X:Cx}{scope:Scope}{vars:List Str}{caps:List (Nat×Str)}{elt tg iter:Expr}{pos:Pos}{g:TG}{fi:Dv->Option (List D)}{fe:Dv->Option D}{bv:D->Option (List D)}
theorem Du{σ:St}{δ:Dv}{K:Fg}{H₀ Z₀ Z H:Hp}(hh:Hold K H₀ Z₀ Z δ σ H):∀(j:Nat) d,(eM δ caps)[j]? = some (.fz d)->∃v,(gL σ caps)[j]? = some (some v)/\Rep K Z v d:=fun j d e=>by
 unfold eM at e;unfold gL;rw[getElem?_map]at e ⊢;cases q:caps[j]? with
 |none=>rw[q]at e;cases e
 |some p=>
  rw[q]at e;have e:Ld δ[p.1]? = .fz d:=Option.some.inj e;cases z:δ[p.1]? with
  |none=>rw[z]at e;cases e
  |some sl=>
   rw[z]at e;cases sl with
   |fz d'=>
    cases e;obtain⟨v,g1,g2⟩:=hh.fz p.1 _ z;exact⟨v,by show some ((σ[p.1]?).getD none)=_;rw[g1];rfl,g2⟩
   |un=>cases e
   |own _=>cases e
   |fr _=>cases e
theorem GF{δ:Dv}:∀(j:Nat) ds,(eM δ caps)[j]? ≠ some (.own ds):=fun j ds e=>by
 unfold eM at e;rw[getElem?_map]at e;cases q:caps[j]? with
 |none=>rw[q]at e;cases e
 |some p=>
  rw[q]at e;have e:Ld δ[p.1]? = .own ds:=Option.some.inj e;cases z:δ[p.1]? with
  |none=>rw[z]at e;cases e
  |some sl=>rw[z]at e;cases sl<;>cases e
theorem GG{δ:Dv}:∀(j:Nat) ds,(eM δ caps)[j]? ≠ some (.fr ds):=fun j ds e=>by
 unfold eM at e;rw[getElem?_map]at e;cases q:caps[j]? with
 |none=>rw[q]at e;cases e
 |some p=>
  rw[q]at e;have e:Ld δ[p.1]? = .fr ds:=Option.some.inj e;cases z:δ[p.1]? with
  |none=>rw[z]at e;cases e
  |some sl=>rw[z]at e;cases sl<;>cases e
theorem qh{σ:St}{δ:Dv}{K:Fg}{H₀ Z₀ Z H:Hp}(hh:Hold K H₀ Z₀ Z δ σ H){us:List V}{vs:List D}(r:Reps K Z us vs):Hold K H Z Z (vs.map .fz++eM δ caps) (us.map some++gL σ caps) H:=by
 have hl:=r.length;refine⟨hh.zh,Same.refl _,Same.refl _,fun _ _=>rfl,by simp[eM,gL,hl],fun i d e=>?_,fun i ds e=>?_,fun i j ds es a _ e=>?_,fun i ds e=>?_,NoF.refl _⟩
 ·by_cases hi:i<vs.length
  ·rw[getElem?_append_left (by simpa using hi),getElem?_map]at e
   cases q:vs[i]? with
   |none=>rw[q]at e;cases e
   |some d'=>
    rw[q]at e;cases e;obtain⟨v,g1,g2⟩:=r.get q;exact⟨v,by rw[getElem?_append_left (by simpa[hl]using hi),getElem?_map,g1];rfl,g2⟩
  ·rw[getElem?_append_right (by simpa using hi)]at e
   obtain⟨v,g1,g2⟩:=Du hh _ d e;refine⟨v,?_,g2⟩;rw[getElem?_append_right (by simpa[hl]using hi)];simp only[List.length_map]at g1 ⊢;rw[hl];exact g1
 all_goals
  exfalso;by_cases hi:i<vs.length
  ·rw[getElem?_append_left (by simpa using hi),getElem?_map]at e
   cases q:vs[i]?<;>rw[q]at e<;>cases e
  ·rw[getElem?_append_right (by simpa using hi)]at e
   first|exact GF _ _ e|exact GG _ _ e
theorem sr(tk:vX X.K g vars.length bv){σ:St}{H:Hp}{Q:VK}(h:tV X.K (eN fi caps bv fe) σ H Q):xU (Nm X.K fi) g (tV X.K fe) vars caps σ H Q:=by
 obtain⟨H₀,Z₀,Z,δ,d,hh,e,k⟩:=h;obtain⟨ds,e1,e⟩:=bind_some e;by_cases hz:ds.length<=sizeLine
 ·rw[if_pos hz]at e
  obtain⟨es,e2,e⟩:=bind_some e;cases e;have le:=jm e2;have hv:vars.map (fun _=>(none:Option V))=List.replicate vars.length none:=by rw[List.map_const']
  refine⟨H₀,Z₀,Z,δ,ds,hh,e1,fun J Z1 H1 hh1 t1 ok=>?_⟩
  refine⟨fun i m ys H=>m=ds.length-i/\i<=ds.length/\∃Zc,Hold X.K H₀ Z₀ Zc δ σ H/\Same Z1 Zc/\Reps X.K Zc ys (es.take i),⟨ds.length,by simp,zero_le _,Z1,hh1,Same.refl _,by simpa using .nil⟩,?_⟩
  rintro i m ys H2 ⟨rfl,hi2,Zc,hhc,tc,rc⟩;have zh:Same Z1 H2:=tc.trans hhc.zh;have ly:=rc.length;rw[List.length_take]at ly;by_cases hlt:i<ds.length
  ·refine .inr ⟨ok.go i H2 zh hlt,by omega,fun x H3 y=>?_⟩
   have ed:ds[i]? = some ds[i]:=by simp[hlt]
   obtain⟨rfl,rx⟩:=ok.yld i H2 x H3 _ zh ed y;obtain⟨ei,f1,f2⟩:=pE e2 ed;obtain⟨vs,f3,f1⟩:=bind_some f1;rw[hv];refine tk x Zc ds[i] vs (gL σ caps) H3 _ (rx.same tc) hhc.zh f3 fun us ru hn=>⟨⟨by simp[hn],fun j v q=>?_⟩,?_⟩
   ·by_cases hj:j<vars.length
    ·rw[getElem?_append_left (by simpa using hj),getElem?_replicate]at q
     split at q<;>cases q
    ·rw[getElem?_append_right (by simpa using hj)]at q
     rw[getElem?_append_right (by simpa[hn]using hj)];simpa[hn]using q
   ·refine⟨H3,Zc,Zc,_,ei,qh hhc ru,f1,fun v Z4 H4 h4 t4 r4=>⟨ds.length-(i+1),by omega,rfl,hlt,Z4,hhc.new ⟨t4,h4.h0,h4.zh,h4.zb,h4.nf⟩,tc.trans t4,?_⟩⟩
    have:es.take (i+1)=es.take i++[ei]:=by
     rw[List.take_add_one,f2];rfl
    rw[this];exact(rc.same t4).append (.cons r4 .nil)
  ·have hie:i=ds.length:=by omega
   subst hie;refine .inl ⟨ok.stop _ H2 zh (le_refl _),by omega,fun p hp=>?_⟩
   rw[<-le,List.take_length]at rc;have n:=New.add hhc.zh hp (.lst ys);exact k _ _ _ (hhc.new n) ((t1.trans tc).trans n.z) (.lst (SqL.of aN) (rc.same n.z))
 ·rw[if_neg hz]at e;cases e
theorem iX(B:BlkOk X.env.scope.names X.N scope vars caps)(hc:X.calm=true)(hi:IV X tg iter fi)(tk:vX X.K g vars.length bv)
  (hg:∀C s₀ H₀ ex,PG (dZ X scope (vars++caps.map (·.2)) C s₀ H₀ ex) tg g) (he:∀C s₀ H₀ ex,EV (dZ X scope (vars++caps.map (·.2)) C s₀ H₀ ex) elt fe) (hs:∀x,foldedSetIterable iter X.env x=pure x:=by intro _;rfl) :
  EV X (.ListComp elt [⟨tg,iter,[],0⟩] scope pos) (eN fi caps bv fe):=
 PE.imp (yt (te:=tV X.K fe) B hc hi hg he hs) fun _ _ _ h=>sr tk h
theorem xZ(i:Nat){y:Str}{py spos:Pos}(hN:X.N.Nodup)(B:BlkOk X.env.scope.names X.N scope vars caps)(hc:X.calm=true)(hi:IV X tg iter fi)(tk:vX X.K g vars.length bv)
  (hg:∀C s₀ H₀ ex,PG (dZ X scope (vars++caps.map (·.2)) C s₀ H₀ ex) tg g) (he:∀C s₀ H₀ ex,EV (dZ X scope (vars++caps.map (·.2)) C s₀ H₀ ex) elt fe)
  (hy:X.N[i]? = some y:=by rfl) (hx:zv X.env.scope y:=by first|exact Or.inl rfl|exact Or.inr rfl) (hsw:swapsWith (.ListComp elt [⟨tg,iter,[],0⟩] scope pos) (some (.Name y py)) spos.line X.env=pure true:=by rfl)
  (hf:X.fn y=true\/X.env.scope.names.lookup y=some .local:=by first|exact .inl rfl|exact .inr rfl|assumption) (hs:∀x,foldedSetIterable iter X.env x=pure x:=by intro _;rfl) :
  SV X (.Assign [.Name y py] (.ListComp elt [⟨tg,iter,[],0⟩] scope pos) spos) (aC i (eN fi caps bv fe)):=
 PS.imp (EX (te:=tV X.K fe) B hc hi hg he hN hy hx hsw hf hs) fun D σ H h=>by
  obtain⟨H₀,Z₀,Z,δ,r,hh,e,k⟩:=h;obtain⟨x,e1,e⟩:=bind_some e;cases e;exact sr tk ⟨H₀,Z₀,Z,δ,x,hh,e1,fun v Z1 H1 hh1 s1 r1=>k _ H1 Z1 (hh1.set r1) s1⟩
end
section
variable{X:Cx}{e:Expr}{es:List Expr}{p pos:Pos}{fs:Dv->Option (List D)}
theorem ax{k:Nat}{x:Str}{g:List D->Option D}(C:Cal X.prog X.w X.K X.mg X.base x k g [])(hr:Room k X.A)(hg:Gl X x)(ha:AV X (e::es) fs)(hdb:(x==("__debug__":Str))=false:=by decide)(he:starEach (e::es) X.env=(false,eval e X.env)::starEach es X.env:=by rfl)
  (hpl:(backTo pos (starEach es X.env)).any (·.1)=false:=by rfl):EV X (.Call (.Name x p) (e::es) [] pos) (os fs g):=by
 have h:=KA C hr hg ha hdb he hpl (p:=p) (pos:=pos);have e:(fun as=>g (as++[]))=g:=by funext as;rw[List.append_nil]
 rw[e]at h;exact h
end
structure TopV (K:Fg) (mg:Str->Option Value) (x:Str) (d:D):Prop where
 ex:∃v u,mg x=some u/\RelV v u/\∀Z,Rep K Z v d
theorem TopV.int{K:Fg}{mg:Str->Option Value}{x:Str}{i:Int}{t:Tok}(hm:mg x=some (.int i t)):TopV K mg x (.int i):=⟨.int i,.int i t,hm,⟨t,rfl⟩,fun _=>.int i⟩
theorem Gj{X:Cx}{x:Str}{pos:Pos}{d:D}(T:TopV X.K X.mg x d)(hg:Gl X x)(hd:(x==("__debug__":Str))=false:=by decide):EV X (.Name x pos) (oC d):=by
 obtain⟨v,u,hm,r,h⟩:=T.ex;exact Go (E9 hg hm r hd) h
def EC:Option Sl->Option (List D)
 |some (.own (.l ds))=>some ds
 |_=>none
@[simp] theorem N4(ds:List D):EC (some (.ow ds))=some ds:=rfl
theorem wg{o:Option Sl}{ds:List D}(h:EC o=some ds):o=some (.ow ds):=by
 cases o with
 |none=>cases h
 |some x=>
  cases x with
  |own c=>
   cases c with
   |l es=>cases h;rfl
   |d es=>cases h
  |un=>cases h
  |fz d=>cases h
  |fr _=>cases h
@[simp] noncomputable def Id(i:Nat)(fs:Dv->Option (List D)):Sf:=fun δ=>(fs δ).bind fun ds=>if ds.length<=sizeLine then some (.nx,δ.set i (.ow ds))else none
@[simp] noncomputable def fJ(i:Nat)(f:Dv->Option D):Dv->Option D:=fun δ=>(EC δ[i]?).bind fun ds=>(f δ).bind fun k=>ay (.list ds) k
@[simp] noncomputable def Pr(i:Nat):Dv->Option D:=fun δ=>(EC δ[i]?).bind fun ds=>some (.int ds.length)
noncomputable def lY(ds:List D)(k v:D):Option (List D):=match k with
 |.int j=>(vC ds.length j).map fun n=>ds.set n v
 |_=>none
@[simp] theorem fH(ds:List D)(j:Int)(v:D):lY ds (.int j) v=(vC ds.length j).map fun n=>ds.set n v:=rfl
@[simp] noncomputable def zU(i:Nat)(fk fv:Dv->Option D):Sf:=fun δ=>(fv δ).bind fun v=>(fk δ).bind fun k=>(EC δ[i]?).bind fun ds=>(lY ds k v).bind fun ds'=>some (.nx,δ.set i (.ow ds'))
@[simp] noncomputable def LY(i:Nat)(f:Dv->Option D):Sf:=fun δ=>(f δ).bind fun v=>(EC δ[i]?).bind fun ds=>if ds.length<sizeLine then some (.nx,δ.set i (.ow (ds++[v])))else none
section
variable{X:Cx}{e b:Expr}{es:List Expr}{p pos tpos apos:Pos}{fs:Dv->Option (List D)}{f fk fv:Dv->Option D}
theorem Bm(i:Nat){x:Str}{pos':Pos}(hN:X.N.Nodup)(ha:AV X es fs)(hi:X.N[i]? = some x:=by rfl)(hx:zv X.env.scope x:=by first|exact Or.inl rfl|exact Or.inr rfl)(hs:swapsWith (.List es p) (some (.Name x pos')) pos.line X.env=pure false:=by rfl)
  (hf:X.fn x=true\/X.env.scope.names.lookup x=some .local:=by first|exact .inl rfl|exact .inr rfl|assumption):SV X (.Assign [.Name x pos'] (.List es p) pos) (Id i fs):=
 PS.imp (ma hN hi hx (wD ha) hs hf) fun D σ H h=>by
  obtain⟨H₀,Z₀,Z,δ,r,hh,e,k⟩:=h;obtain⟨ds,e1,e⟩:=bind_some e;by_cases hl:ds.length<=sizeLine
  ·rw[if_pos hl]at e
   cases e;exact⟨H₀,Z₀,Z,δ,ds,hh,e1,fun vs Z1 H1 hh1 t1 r1=>⟨by rw[r1.length];exact hl,fun p hp=>k _ _ Z1 (hh1.setO hp r1) t1⟩⟩
  ·rw[if_neg hl]at e;cases e
theorem rS{K:Fg}{H₀ Z₀ Z:Hp}{δ:Dv}{σ:St}{H:Hp}(hh:Hold K H₀ Z₀ Z δ σ H){i:Nat}{ds:List D}(h:EC δ[i]? = some ds):∃a xs,σ[i]? = some (some (V.ref a))/\H a=some (.lst xs)/\Reps K Z xs ds:=by
 obtain⟨a,xs,h1,_,_,h4,h5⟩:=hh.ow i ds (wg h);exact⟨a,xs,h1,h4,h5⟩
theorem dh(i:Nat){x:Str}(hb:EV X b f)(hs:ur b)(hN:X.N[i]? = some x:=by rfl)(hv:xJ X.env.scope x:=by first|exact Or.inl rfl|exact Or.inr (Or.inl rfl)|exact Or.inr (Or.inr rfl))(hd:(x==("__debug__":Str))=false:=by decide)(hcd:(x==("__classdict__":Str))=false:=by decide):
  EV X (.Subscript (.Name x p) b pos) (fJ i f):=
 PE.imp (Hb ix_list (eQ hN hv hd hcd) hb hs) fun σ H Q h=>by
  obtain⟨H₀,Z₀,Z,δ,d,hh,e,k⟩:=h;obtain⟨ds,e1,e⟩:=bind_some e;obtain⟨y,e2,e⟩:=bind_some e;obtain⟨a,xs,h1,h4,h5⟩:=rS hh e1;refine⟨_,h1,H₀,Z₀,Z,δ,y,hh,e2,fun v Z1 H1 hh1 t1 r1=>?_⟩
  obtain⟨a',xs',g1,g4,g5⟩:=rS hh1 e1;rw[h1]at g1;cases g1;cases r1 with
  |int j=>
   obtain⟨w,ew,rw'⟩:=g5.at e;exact⟨_,_,_,w,rfl,rfl,SqL.of g4,ew,k w Z1 H1 hh1 t1 rw'⟩
  |_=>cases e
theorem oB(i:Nat){x:Str}(hb:EV X b fk)(hv':EV X e fv)(hN:X.N[i]? = some x:=by rfl)(hv:xJ X.env.scope x:=by first|exact Or.inl rfl|exact Or.inr (Or.inl rfl)|exact Or.inr (Or.inr rfl))(hd:(x==("__debug__":Str))=false:=by decide)(hcd:(x==("__classdict__":Str))=false:=by decide)
  (hs:swapsWithSole [.Subscript (.Name x p) b tpos] e pos.line X.env=pure false:=by rfl) (hw:swappedStores [.Subscript (.Name x p) b tpos] e X.env=pure none:=by rfl)
  (ha:∀v,assign (.Subscript (.Name x p) b tpos) X.env v=(do
   let ov <-holding [v] (eval (.Name x p) X.env)
   let iv <-holding [v,ov] (eval b X.env)
   standAt tpos
   holding [v,ov,iv] (setItem ov iv v)
   release [v,ov,iv] []):=by intro _;rfl):SV X (.Assign [.Subscript (.Name x p) b tpos] e pos) (zU i fk fv):=
 PS.imp (BT hv' (B5 (eQ hN hv hd hcd) hb uS ha) hs hw) fun D σ H h=>by
  obtain⟨H₀,Z₀,Z,δ,r,hh,e,k⟩:=h;obtain⟨v,e1,e⟩:=bind_some e;obtain⟨y,e2,e⟩:=bind_some e;obtain⟨ds,e3,e⟩:=bind_some e;obtain⟨ds',e4,e⟩:=bind_some e;cases e;refine⟨H₀,Z₀,Z,δ,v,hh,e1,fun w Z1 H1 hh1 t1 r1=>?_⟩
  obtain⟨a,xs,h1,h4,h5⟩:=rS hh1 e3;refine⟨_,h1,H₀,Z₀,Z1,δ,y,hh1,e2,fun u Z2 H2 hh2 t2 r2=>?_⟩
  obtain⟨a',xs',g1,g4,g5⟩:=rS hh2 e3;rw[h1]at g1;cases g1;cases r2 with
  |int j=>
   rw[fH]at e4;cases q:vC ds.length j with
   |none=>rw[q]at e4;cases e4
   |some n=>
    rw[q]at e4;cases e4;refine⟨a,xs',j,n,rfl,rfl,g4,by rw[g5.length];exact q,?_⟩;exact k σ _ Z2 (hh2.chg (xs:=xs') (wg e3) h1 (g5.set (r1.same t2) n)) (t1.trans t2)
  |_=>cases e4
theorem HV(i:Nat){x:Str}{cpos:Pos}(hv':EV X e f)(hN:X.N[i]? = some x:=by rfl)(hv:xJ X.env.scope x:=by first|exact Or.inl rfl|exact Or.inr (Or.inl rfl)|exact Or.inr (Or.inr rfl))(hd:(x==("__debug__":Str))=false:=by decide)(hcd:(x==("__classdict__":Str))=false:=by decide)
  (hbase:attributeBase (.Name x p) "append" X.env (eval (.Name x p) X.env)=eval (.Name x p) X.env:=by rfl)
  (hfew:((backTo cpos (starEach [e] X.env)).all (fun x=>!x.1)&&(backToKw cpos (keywordEach [] X.env)).all (fun x=>x.1.isSome)
   && decide ([e].length+([]:List Keyword).length+(if([]:List Keyword).isEmpty then 0 else 1)<30))=true:=by rfl)
  (hline:(apos.endLine==cpos.line)=true:=by rfl) (hs:starEach [e] X.env=(false,eval e X.env)::starEach [] X.env:=by rfl) (hplain:(backTo cpos (starEach [] X.env)).any (·.1)=false:=by rfl)
  (hsw:swapsWith (.Call (.Attribute (.Name x p) "append" apos) [e] [] cpos) none pos.line X.env=pure false:=by rfl):SV X (.Expr (.Call (.Attribute (.Name x p) "append" apos) [e] [] cpos) pos) (LY i f):=
 PS.imp (nU (B9 PySem.F.plainAttrs_list PySem.F.slot_list_append PySem.F.type_list_append rZ (eQ hN hv hd hcd) (gQ hv' ki hs) hbase hfew hline hs hplain) hsw) fun D σ H h=>by
  obtain⟨H₀,Z₀,Z,δ,r,hh,e,k⟩:=h;obtain⟨v,e1,e⟩:=bind_some e;obtain⟨ds,e2,e⟩:=bind_some e;by_cases hl:ds.length<sizeLine
  ·rw[if_pos hl]at e
   cases e;obtain⟨a,xs,h1,h4,h5⟩:=rS hh e2;refine⟨_,h1,.inl ⟨rfl,xs,SqL.of h4⟩,H₀,Z₀,Z,δ,v,hh,e1,fun w Z1 H1 hh1 t1 r1=>?_⟩
   obtain⟨a',xs',g1,g4,g5⟩:=rS hh1 e2;rw[h1]at g1;cases g1;exact⟨a,xs',w,rfl,rfl,g4,by rw[g5.length];exact hl,k σ _ Z1 (hh1.chg (xs:=xs') (wg e2) h1 (g5.append (.cons r1 .nil))) t1⟩
  ·rw[if_neg hl]at e;cases e
end
section
def Bi(wi:TI)(g:TG)(tt:TT)(te:TE)(vars:List Str)(caps:List (Nat×Str)):TE:=fun σ H Q=>wi σ H fun J H1=>∃W:Nat->Nat->List V->Hp->Prop,(∃m,W 0 m [] H1)/\∀i m ys H,W i m ys H ->
 (J.stop i H/\ys.length<=sizeLine/\∀p,H p=none->Q (.ref p) (upd H p (.lst ys))) \/
 (J.go i H/\ys.length<sizeLine/\∀x H',J.yld i H x H'->g x (vars.map (fun _=>none)++gL σ caps) H' fun σ2 H2=>zw (vars.map (fun _=>none)++gL σ caps) σ2/\tt σ2 H2 fun b H3=>if b=true then te σ2 H3 fun y H4=>∃m',m'<m/\W (i+1) m' (ys++[y]) H4 else ∃m',m'<m/\W (i+1) m' ys H3)
theorem mE{prog:Program}{w:World}{A:Around}{R:Result->Shared->Prop}{s:Shared}{elt target iter cnd:Expr}{scope:Scope}{pos:Pos}{it acc:Value}{env:Env}(I:Nat->Shared->Prop)
  (turn:∀n s,I n s->wpAny (model prog w) A (pyNext it) (fun r s₁=>match r with
   |none=>R (.ok .next) s₁
   |some v=>wpAny (model prog w) A (letOwnedTupleGo target it v) (fun _ s₁=>wpAny (model prog w) A (assign target env v) (fun _ s₂=>wpAny (model prog w) A (isTrue cnd env (eval cnd env)) (fun ok s₂=>if ok=true then wpAny (model prog w) A (eval elt env) (fun x s₃=>
     wpAny (model prog w) A (call (.builtin "list.append") [acc,x]) (fun _ s₄=>∃m,m<n/\I m s₄) (fun _ _=>False) s₃) (fun _ _=>False) s₂ else ∃m,m<n/\I m s₂) (fun _ _=>False) s₂) (fun _ _=>False) s₁) (fun _ _=>False) s₁) (fun _ _=>False) s)
  (n:Nat) (h:I n s):codeAny (model prog w) A (.compLoop (.ListComp elt [⟨target,iter,[cnd],0⟩] scope pos) 0 it acc env) R s:=by
 refine codeAny_loop rfl I (fun n s hI=>?_) n h;show wpAny _ _ ((compTurn (.ListComp elt [⟨target,iter,[cnd],0⟩] scope pos) 0 it acc env).onRaise (fun x=>do noteFrame x env;theTreesLotGoes x)) _ _ s;refine wpAny_noted ?_;rw[compTurn_list];refine wpAny_bind (wpAny_standAt (wpAny_bind (wpAny_mono (turn n s hI) (fun r s₁ h₁=>?_) fun _ _ h'=>h'.elim)))
 cases r with
 |none=>exact wpAny_pure h₁
 |some v=>
  refine wpAny_bind (wpAny_mono h₁ (fun _ s₁ h₁=>?_) fun _ _ h'=>h'.elim)
  refine wpAny_bind (wpAny_mono h₁ (fun _ s₂ h₂=>?_) fun _ _ h'=>h'.elim)
  refine wpAny_bind (wpAny_tests_one (wpAny_mono h₂ (fun okb s₃ h₃=>?_) fun _ _ h'=>h'.elim))
  cases okb with
  |false=>exact wpAny_pure ⟨rfl,h₃⟩
  |true=>exact wpAny_bind (wpAny_bind (wpAny_mono h₃ (fun x s₄ h₄=>wpAny_bind (wpAny_mono h₄ (fun _ s₅ h₅=>wpAny_pure (wpAny_pure ⟨rfl,h₅⟩)) fun _ _ h'=>h'.elim)) fun _ _ h'=>h'.elim))
end
section
variable{X:Cx}{scope:Scope}{vars:List Str}{caps:List (Nat×Str)}{elt tg iter cnd:Expr}{pos:Pos}{wi:TI}{g:TG}{tt:TT}{te:TE}
theorem vM{Cm:Cx->Prop}(B:BlkOk X.env.scope.names X.N scope vars caps)
  (hg:∀C s₀ H₀ ex,PG (dZ X scope (vars++caps.map (·.2)) C s₀ H₀ ex) tg g) (hb:∀C s₀ H₀ ex,PT (dZ X scope (vars++caps.map (·.2)) C s₀ H₀ ex) cnd tt) (he:∀C s₀ H₀ ex,PE (dZ X scope (vars++caps.map (·.2)) C s₀ H₀ ex) elt te)
  {pins:List (Addr×Obj)} {σ:St} {H2:Hp} {s2:Shared} {Q:VK} {it:Addr} {fp:List Addr} {tn:Nat->Heap->Prop} {J:It} (I2:Inv X pins σ H2 s2) (T:TurnG Cm X.prog X.w X.K tg J fp it tn) (st2:tn 0 s2.heap) (f2:∀b∈fp,kF X pins H2 b) (hc:∀C,Cm (dZ X scope (vars++caps.map (·.2)) C s2 H2 fp))
  {W:Nat->Nat->List V->Hp->Prop} {m0:Nat} (w0:W 0 m0 [] H2) (turn:∀i m ys H,W i m ys H ->
   (J.stop i H/\ys.length<=sizeLine/\∀p,H p=none->Q (.ref p) (upd H p (.lst ys))) \/
   (J.go i H/\ys.length<sizeLine/\∀x H',J.yld i H x H'->g x (vars.map (fun _=>none)++gL σ caps) H' fun σ2 H2=>zw (vars.map (fun _=>none)++gL σ caps) σ2/\tt σ2 H2 fun b H3=>if b=true then te σ2 H3 fun y H4=>∃m',m'<m/\W (i+1) m' (ys++[y]) H4 else ∃m',m'<m/\W (i+1) m' ys H3))
  {RR:Value->Addr->Result->Shared->Prop} {E:Value->Shared->Prop}
  (hRR:∀D C s' m,s'.heap.Ns C m->D≠C->s2.heap.objs.size<=D->s2.heap.objs.size<=C->∀H',H' C=none->(∀h',Heap.SameBut C s'.heap h'->Inv X pins σ H' { s' with heap:=h' })->Q (.ref D) H'->RR (.ref D) C (.ok .next) s') :
  wpAny (model X.prog X.w) X.A (newList []) (fun acc s₃=>wpAny (model X.prog X.w) X.A (newFunctionEnv scope X.env.globals (kt X.env scope.names []) [] X.env.qual none .none (some X.env)) (fun cenv s₄=>
   codeAny (model X.prog X.w) X.A (.compStart (.ListComp elt [⟨tg,iter,[cnd],0⟩] scope pos) 0 (.ref it) acc { cenv with scope:=relabel scope X.env }) (RR acc cenv.locals) s₄) E s₃) E s2:=by
 refine wpAny_newObj_type (wpAny_newFunctionEnv B.cell (by intro y hy;simp at hy) (fun h₁ hns₁ hsb₁=>?_) B.kind);dsimp only at hns₁ hsb₁ ⊢;generalize hP:s2.heap.push { cls:=.type "list",dict:=none,data:=.seq ([]:List Value).toArray }=HP at hns₁ hsb₁ ⊢;have hCs:HP.objs.size=s2.heap.objs.size+1:=by rw[<-hP,Heap.size_push]
 have hDC:s2.heap.objs.size≠HP.objs.size:=by rw[hCs];exact ne_of_lt (Nat.lt_succ_self _)
 have hCle:s2.heap.objs.size<=HP.objs.size:=by rw[hCs];exact Nat.le_succ _
 have old:∀b o,s2.heap.get? b=some o->h₁.get? b=some o:=fun b o e=>hsb₁.extBut b o (ne_of_lt (lt_of_lt_of_le (lt_size e) hCle)) (get?_push_of_some _ (hP ▸ get?_push_of_some _ e))
 have hacc:h₁.PlainList s2.heap.objs.size #[]:=⟨_,hsb₁.extBut _ _ hDC (get?_push_of_some _ (hP ▸ Heap.get?_push_size _ rfl))⟩;have flt:∀b∈fp,b<s2.heap.objs.size:=fun b hb=>by
  obtain⟨o,e,_⟩:=T.obj _ _ st2 b hb;exact lt_size e
 have st1:tn 0 h₁:=T.keep _ _ _ st2 fun b _ o e=>old b o e
 have loop:∀s3:Shared,s3={ s2 with heap:=h₁,toks:=s2.toks+([]:List (Str×Value)).length } ->
   codeAny (model X.prog X.w) X.A (.compLoop (.ListComp elt [⟨tg,iter,[cnd],0⟩] scope pos) 0 (.ref it) (.ref s2.heap.objs.size) (compEnvC scope (kt X.env scope.names []) HP.objs.size X.env))
    (RR (.ref s2.heap.objs.size) HP.objs.size) s3:=by
  rintro s3 rfl;have X':=dZ X scope (vars++caps.map (·.2)) HP.objs.size s2 H2 fp;have fpo:∀{H':Hp},(∀b∈fp,H' b=none)->∀b∈fp,kF (dZ X scope (vars++caps.map (·.2)) HP.objs.size s2 H2 fp) [] H' b:=fun hn b hb=>by
   have ok:=xz B I2 f2 flt hCle;exact⟨hn b hb,(ok.exf b hb).1,ok.exfs b hb,.inl hb,(ok.exf b hb).2,fun p hp=>absurd (show p∈([]:List (Addr×Obj))from hp) (by simp)⟩
  refine mE (fun n s=>∃i ys H its,Inv (dZ X scope (vars++caps.map (·.2)) HP.objs.size s2 H2 fp) [] (vars.map (fun _=>none)++gL σ caps) H s/\tn i s.heap/\(∀b∈fp,H b=none)/\s.heap.PlainList s2.heap.objs.size (List.toArray its)/\H s2.heap.objs.size=none/\Vals ys its/\W i n ys H) ?_ m0
   ⟨0,[],H2,[],zl B I2 f2 flt hCle hns₁ old,st1,fun b hb=>(f2 b hb).1,hacc,I2.hok.fresh (le_refl _),.nil,w0⟩
  rintro n s4 ⟨i,ys,H4,its,I4,st4,fr4,pl4,nD4,v4,w4⟩;obtain⟨nn,eD⟩:=id pl4;have DnL:s2.heap.objs.size≠(dZ X scope (vars++caps.map (·.2)) HP.objs.size s2 H2 fp).env.locals:=hDC;have Dfs:s2.heap.objs.size ∉ (dZ X scope (vars++caps.map (·.2)) HP.objs.size s2 H2 fp).fs:=fun z=>by
   rcases List.mem_cons.mp (I2.stkSub _ z)with q|q
   ·have:=I2.lt;rw[<-q]at this;exact lt_irrefl _ this
   ·exact I2.nofs (le_refl _) q
  have Dfp:∀b∈fp,s2.heap.objs.size≠b:=fun b hb z=>by have:=flt b hb;rw[<-z]at this;exact lt_irrefl _ this
  have DnC:∀x c,(dZ X scope (vars++caps.map (·.2)) HP.objs.size s2 H2 fp).env.cells.lookup x=some c->c≠s2.heap.objs.size:=fun x c e z=>by
   rcases bV _ _ _ _ (B.cells I2) e with q|q
   ·cases q
   ·obtain⟨v,o,ho,_⟩:=I2.cell x c q
    have:=lt_size ho;rw[z]at this;exact lt_irrefl _ this
  have pinD:∀{σ':St} {H':Hp} {s':Shared},Inv (dZ X scope (vars++caps.map (·.2)) HP.objs.size s2 H2 fp) [(s2.heap.objs.size,{ cls:=.type "list",data:=.seq its.toArray nn })] σ' H' s'->s'.heap.PlainList s2.heap.objs.size its.toArray/\H' s2.heap.objs.size=none:=fun{σ' H' s'} I'=>by
   obtain⟨q1,q2,_⟩:=I'.pin (s2.heap.objs.size,{ cls:=.type "list",data:=.seq its.toArray nn }) (by simp[dZ]);exact⟨⟨nn,q1⟩,q2⟩
  have I4p:Inv (dZ X scope (vars++caps.map (·.2)) HP.objs.size s2 H2 fp) [(s2.heap.objs.size,{ cls:=.type "list",data:=.seq its.toArray nn })] (vars.map (fun _=>none)++gL σ caps) H4 s4:=
   I4.pins_of fun p hp=>by
    have e:p=(s2.heap.objs.size,{ cls:=.type "list",data:=.seq its.toArray nn }):=by simpa[dZ]using hp
    subst e;exact⟨eD,nD4,DnL,Dfs,fun v z=>by cases z⟩
  have fpo':∀{H':Hp},(∀b∈fp,H' b=none)->∀b∈fp,kF (dZ X scope (vars++caps.map (·.2)) HP.objs.size s2 H2 fp) [(s2.heap.objs.size,{ cls:=.type "list",data:=.seq its.toArray nn })] H' b:=fun hn b hb=>by
   obtain⟨q1,q2,q3,q4,q5,_⟩:=fpo hn b hb;exact⟨q1,q2,q3,q4,q5,fun p hp=>by
    have e:p=(s2.heap.objs.size,{ cls:=.type "list",data:=.seq its.toArray nn }):=by simpa[dZ]using hp
    subst e;exact Dfp b hb⟩
  have unp:∀{pl:List (Addr×Obj)} {σ':St} {H':Hp} {s':Shared},Inv (dZ X scope (vars++caps.map (·.2)) HP.objs.size s2 H2 fp) pl σ' H' s'->Inv (dZ X scope (vars++caps.map (·.2)) HP.objs.size s2 H2 fp) [] σ' H' s':=fun{pl σ' H' s'} I'=>
   I'.pins_of fun p hp=>absurd (show p∈([]:List (Addr×Obj))from hp) (by simp)
  rcases turn i n ys H4 w4 with⟨stop,hz,qn⟩|⟨go,hz,step⟩
  ·refine cm (T.done (dZ X scope (vars++caps.map (·.2)) HP.objs.size s2 H2 fp) rfl rfl rfl (hc _) i _ s4 _ H4 _ I4p (fpo' fr4) st4 stop) fun r s5 ⟨hr,I5⟩=>?_
   subst hr;obtain⟨p5,n5⟩:=pinD I5;obtain⟨m5,ns5,_⟩:=I5.loc;refine hRR _ _ s5 m5 ns5 hDC (le_refl _) hCle _ ?_ (fun h' hs'=>zj I2 f2 hCle (le_refl _) hDC (unp I5) n5 p5 v4 hz hs') (qn _ n5)
   rw[aA hDC.symm];exact I5.free
  ·refine cm (T.item (dZ X scope (vars++caps.map (·.2)) HP.objs.size s2 H2 fp) rfl rfl rfl (hc _) i _ s4 _ H4 _ I4p (fpo' fr4) st4 go) fun r s5 ⟨u,hr,h5⟩=>?_
   subst hr;refine cm h5 fun _ s6 ⟨x,H6,I6,rx,yx,st6,fr6⟩=>?_
   have I6p:=I6.pinned (fpo' fr6) (T.obj _ _ st6);refine cm (hg _ _ _ _ _ s6 _ H6 x u _ I6p rx (step x H6 yx)) fun _ s7 ⟨σ7,H7,I7,kp,q7⟩=>?_
   refine cm (hb _ _ _ _ _ s7 σ7 H7 _ I7 q7) fun okb s7' q7'=>?_
   obtain⟨H7',I7',q7'⟩:=q7';cases okb with
   |false=>
    obtain⟨m',hm,w8⟩:=q7';rw[if_neg (by decide)];obtain⟨p8,n8⟩:=pinD I7'.unpinned;have st8:tn (i+1) s7'.heap:=T.keep _ _ _ st6 fun b hb o e=>(I7'.pin (b,o) (mem_append_right _ (mem_append_right _ (da hb e)))).1
    have fr8:∀b∈fp,H7' b=none:=fun b hb=>by
     obtain⟨o,e,d⟩:=T.obj _ _ st6 b hb;exact(I7'.pin (b,o) (mem_append_right _ (mem_append_right _ (da hb e)))).2.1
    exact⟨m',hm,i+1,ys,H7',its,(unp I7').weak kp.1 kp.2,st8,fr8,p8,n8,v4,w8⟩
   |true=>
   rw[if_pos rfl];rw[if_pos rfl]at q7';refine cm (he _ _ _ _ _ s7' σ7 H7' _ I7' q7') fun v s8 ⟨y,H8,I8,ry,m',hm,w8⟩=>?_
   obtain⟨p8,n8⟩:=pinD I8.unpinned;have st8:tn (i+1) s8.heap:=T.keep _ _ _ st6 fun b hb o e=>(I8.pin (b,o) (mem_append_right _ (mem_append_right _ (da hb e)))).1
   have fr8:∀b∈fp,H8 b=none:=fun b hb=>by
    obtain⟨o,e,d⟩:=T.obj _ _ st6 b hb;exact(I8.pin (b,o) (mem_append_right _ (mem_append_right _ (da hb e)))).2.1
   have hl:=v4.length;refine wpAny_list_append_plain p8 (fun h9 p9 sb9=>⟨m',hm,i+1,ys++[y],H8,its++[v],?_,?_,fr8,by simpa using p9,n8,v4.append (.cons ry .nil),w8⟩) (by simp;omega)
   ·have I9:Inv (dZ X scope (vars++caps.map (·.2)) HP.objs.size s2 H2 fp) [] σ7 H8 { s8 with heap:=h9,toks:=s8.toks }:=
     (unp I8).turned (it:=s2.heap.objs.size) (fun b o hb e=>sb9.extBut b o hb e) n8 DnL (.inr (le_refl _)) DnC fun p hp=>absurd (show p∈([]:List (Addr×Obj))from hp) (by simp)
    exact I9.weak kp.1 kp.2
   ·exact T.keep _ _ _ st8 fun b hb o e=>sb9.extBut b o (Dfp b hb).symm e
 exact codeAny_compStart_list (loop _ rfl) (T.self _ 0 _ _ _ st1 (loop _ rfl))
theorem B8(B:BlkOk X.env.scope.names X.N scope vars caps)(hc:X.calm=true)(hi:PI X tg iter wi)
  (hg:∀C s₀ H₀ ex,PG (dZ X scope (vars++caps.map (·.2)) C s₀ H₀ ex) tg g) (hb:∀C s₀ H₀ ex,PT (dZ X scope (vars++caps.map (·.2)) C s₀ H₀ ex) cnd tt) (he:∀C s₀ H₀ ex,PE (dZ X scope (vars++caps.map (·.2)) C s₀ H₀ ex) elt te) (hs:∀x,foldedSetIterable iter X.env x=pure x:=by intro _;rfl) :
  PE X (.ListComp elt [⟨tg,iter,[cnd],0⟩] scope pos) (Bi wi g tt te vars caps):=by
 intro pins s σ H Q I h;rw[eval_ListComp];refine wpAny_comprehension_free (use:=none) rfl hs (hV (B.cells I)) B.kind B.names ?_;show wpAny _ _ (eval iter X.env) _ _ s;refine cm (hi pins s σ H _ I h) fun v s1 h1=>cm h1 fun itv s2 h2=>?_
 obtain⟨it,fp,tn,J,H2,e,I2,T,st2,f2,W,⟨m0,w0⟩,turn⟩:=h2;subst e;exact vM (Cm:=fun X=>X.calm=true) B hg hb he I2 T st2 f2 (fun _=>hc) w0 turn (RR:=fun acc C=>compPost (model X.prog X.w) X.A X.xe none (EP X pins σ Q) acc C) fun D C s' m ns _ _ _ H' _ k q=>⟨m,ns,fun h' hs'=>⟨.ref D,H',k h' hs',rfl,q⟩⟩
end
noncomputable def iW(t:D->Option Bool)(f:D->Option D):List D->Option (List D)
 |[]=>some []
 |d::ds=>(t d).bind fun b=>if b=true then(f d).bind fun e=>(iW t f ds).bind fun es=>some (e::es)else iW t f ds
@[simp] theorem M3{t:D->Option Bool}{f:D->Option D}:iW t f []=some []:=rfl
noncomputable def jj(fi:Dv->Option (List D))(caps:List (Nat×Str))(bv:D->Option (List D))(ft:Dv->Option Bool)(fe:Dv->Option D):Dv->Option D:=fun δ=>(fi δ).bind fun ds=>if ds.length<=sizeLine then(iW (fun d=>(bv d).bind fun vs=>ft (vs.map .fz++eM δ caps)) (fun d=>(bv d).bind fun vs=>fe (vs.map .fz++eM δ caps)) ds).bind fun es=>some (.list es)else none
theorem mB{t:D->Option Bool}{f:D->Option D}:∀{ds es:List D} {i:Nat} {d:D},iW t f ds=some es->ds[i]? = some d->∃xs,iW t f (ds.take i)=some xs/\∃b,t d=some b/\(b=false->iW t f (ds.take (i+1))=some xs)/\(b=true->∃e,f d=some e/\iW t f (ds.take (i+1))=some (xs++[e]))
 |[],es,i,d,h,q=>by simp at q
 |d::ds,es,i,d',h,q=>by
  obtain⟨b,h1,h⟩:=bind_some h;cases i with
  |zero=>
   simp at q;subst q;refine⟨[],rfl,b,h1,fun hb=>?_,fun hb=>?_⟩
   ·subst hb;simp[iW,h1]
   ·subst hb
    rw[if_pos rfl]at h;obtain⟨e,h2,h⟩:=bind_some h;exact⟨e,h2,by simp[iW,h1,h2]⟩
  |succ i=>
   simp at q;cases b with
   |false=>
    rw[if_neg (by decide)]at h;obtain⟨xs,g1,b',g2,g3,g4⟩:=mB (i:=i) h q;refine⟨xs,by simp[iW,h1,g1],b',g2,fun hb=>by simpa[iW,h1]using g3 hb,fun hb=>?_⟩
    obtain⟨e,k1,k2⟩:=g4 hb;exact⟨e,k1,by simpa[iW,h1]using k2⟩
   |true=>
    rw[if_pos rfl]at h;obtain⟨e0,h2,h⟩:=bind_some h;obtain⟨es',h3,h⟩:=bind_some h;obtain⟨xs,g1,b',g2,g3,g4⟩:=mB (i:=i) h3 q;refine⟨e0::xs,by simp[iW,h1,h2,g1],b',g2,fun hb=>by simp[iW,h1,h2,g3 hb],fun hb=>?_⟩
    obtain⟨e,k1,k2⟩:=g4 hb;exact⟨e,k1,by simp[iW,h1,h2,k2]⟩
theorem t8{t:D->Option Bool}{f:D->Option D}:∀{ds es:List D},iW t f ds=some es->es.length<=ds.length
 |[],es,h=>by cases h;exact le_refl _
 |d::ds,es,h=>by
  obtain⟨b,h1,h⟩:=bind_some h;cases b with
  |false=>rw[if_neg (by decide)]at h;exact Nat.le_succ_of_le (t8 h)
  |true=>
   rw[if_pos rfl]at h;obtain⟨e0,h2,h⟩:=bind_some h;obtain⟨es',h3,h⟩:=bind_some h;cases h;exact Nat.succ_le_succ (t8 h3)
section
variable{X:Cx}{scope:Scope}{vars:List Str}{caps:List (Nat×Str)}{elt tg iter cnd:Expr}{pos:Pos}{g:TG}{fi:Dv->Option (List D)}{ft:Dv->Option Bool}{fe:Dv->Option D}{bv:D->Option (List D)}
theorem xw(tk:vX X.K g vars.length bv){σ:St}{H:Hp}{Q:VK}(h:tV X.K (jj fi caps bv ft fe) σ H Q):Bi (Nm X.K fi) g (Ly X.K ft) (tV X.K fe) vars caps σ H Q:=by
 obtain⟨H₀,Z₀,Z,δ,d,hh,e,k⟩:=h;obtain⟨ds,e1,e⟩:=bind_some e;by_cases hz:ds.length<=sizeLine
 ·rw[if_pos hz]at e
  obtain⟨es,e2,e⟩:=bind_some e;cases e;have hv:vars.map (fun _=>(none:Option V))=List.replicate vars.length none:=by rw[List.map_const']
  refine⟨H₀,Z₀,Z,δ,ds,hh,e1,fun J Z1 H1 hh1 t1 ok=>?_⟩
  refine⟨fun i m ys H=>m=ds.length-i/\i<=ds.length/\∃Zc xs,Hold X.K H₀ Z₀ Zc δ σ H/\Same Z1 Zc/\iW (fun d=>(bv d).bind fun vs=>ft (vs.map .fz++eM δ caps)) (fun d=>(bv d).bind fun vs=>fe (vs.map .fz++eM δ caps)) (ds.take i)=some xs/\Reps X.K Zc ys xs,⟨ds.length,by simp,zero_le _,Z1,[],hh1,Same.refl _,rfl,.nil⟩,?_⟩
  rintro i m ys H2 ⟨rfl,hi2,Zc,xs,hhc,tc,fx,rc⟩;have zh:Same Z1 H2:=tc.trans hhc.zh;have ly:=rc.length;have lx:=t8 fx;rw[List.length_take]at lx;by_cases hlt:i<ds.length
  ·refine .inr ⟨ok.go i H2 zh hlt,by omega,fun x H3 y=>?_⟩
   have ed:ds[i]? = some ds[i]:=by simp[hlt]
   obtain⟨rfl,rx⟩:=ok.yld i H2 x H3 _ zh ed y;obtain⟨xs',f0,b,fb,ff,ftr⟩:=mB e2 ed;rw[fx]at f0;cases f0;obtain⟨vs,f3,f1⟩:=bind_some fb;rw[hv];refine tk x Zc ds[i] vs (gL σ caps) H3 _ (rx.same tc) hhc.zh f3 fun us ru hn=>⟨⟨by simp[hn],fun j v q=>?_⟩,?_⟩
   ·by_cases hj:j<vars.length
    ·rw[getElem?_append_left (by simpa using hj),getElem?_replicate]at q
     split at q<;>cases q
    ·rw[getElem?_append_right (by simpa using hj)]at q
     rw[getElem?_append_right (by simpa[hn]using hj)];simpa[hn]using q
   ·refine⟨H3,Zc,Zc,_,b,qh hhc ru,f1,fun Z3 H3' h3 t3=>?_⟩
    have hh3:=hhc.new ⟨t3,h3.h0,h3.zh,h3.zb,h3.nf⟩;cases b with
    |false=>
     dsimp only;rw[if_neg (by decide)];exact⟨ds.length-(i+1),by omega,rfl,hlt,Z3,xs,hh3,tc.trans t3,ff rfl,rc.same t3⟩
    |true=>
     dsimp only;rw[if_pos rfl];obtain⟨ei,f2,f4⟩:=ftr rfl;rw[f3]at f2;refine⟨H3,Zc,Z3,_,ei,h3,f2,fun v Z4 H4 h4 t4 r4=>⟨ds.length-(i+1),by omega,rfl,hlt,Z4,xs++[ei],?_,(tc.trans t3).trans t4,f4,((rc.same t3).same t4).append (.cons r4 .nil)⟩⟩
     exact hhc.new ⟨t3.trans t4,h4.h0,h4.zh,h4.zb,h4.nf⟩
  ·have hie:i=ds.length:=by omega
   subst hie;refine .inl ⟨ok.stop _ H2 zh (le_refl _),by omega,fun p hp=>?_⟩
   rw[List.take_length,e2]at fx;cases fx;have n:=New.add hhc.zh hp (.lst ys);exact k _ _ _ (hhc.new n) ((t1.trans tc).trans n.z) (.lst (SqL.of aN) (rc.same n.z))
 ·rw[if_neg hz]at e;cases e
theorem lw(B:BlkOk X.env.scope.names X.N scope vars caps)(hc:X.calm=true)(hi:IV X tg iter fi)(tk:vX X.K g vars.length bv)
  (hg:∀C s₀ H₀ ex,PG (dZ X scope (vars++caps.map (·.2)) C s₀ H₀ ex) tg g) (hb:∀C s₀ H₀ ex,TV (dZ X scope (vars++caps.map (·.2)) C s₀ H₀ ex) cnd ft) (he:∀C s₀ H₀ ex,EV (dZ X scope (vars++caps.map (·.2)) C s₀ H₀ ex) elt fe) (hs:∀x,foldedSetIterable iter X.env x=pure x:=by intro _;rfl) :
  EV X (.ListComp elt [⟨tg,iter,[cnd],0⟩] scope pos) (jj fi caps bv ft fe):=
 PE.imp (B8 (tt:=Ly X.K ft) (te:=tV X.K fe) B hc hi hg hb he hs) fun _ _ _ h=>xw tk h
end
noncomputable def gT:List (D->Dv->Option Dv)->List D->Dv->Option Dv
 |[],[],δ=>some δ
 |g::gs,d::ds,δ=>(g d δ).bind fun δ1=>gT gs ds δ1
 |_,_,_=>none
noncomputable def Ql(gs:List (D->Dv->Option Dv)):D->Dv->Option Dv
 |.tuple ds,δ=>gT gs ds δ
 |_,_=>none
@[simp] theorem OI(δ:Dv):gT [] [] δ = some δ:=rfl
@[simp] theorem NC(g:D->Dv->Option Dv)(gs:List (D->Dv->Option Dv))(d:D)(ds:List D)(δ:Dv):gT (g::gs) (d::ds) δ = (g d δ).bind fun δ1=>gT gs ds δ1:=rfl
@[simp] theorem NB(gs:List (D->Dv->Option Dv))(ds:List D)(δ:Dv):Ql gs (.tuple ds) δ = gT gs ds δ:=rfl
def wN:Nat:=1000000
theorem cT{t:Dv->Option Bool}{b:Sf}:∀{n m:Nat} {δ:Dv} {r:Fl×Dv},dD t b n δ = some r->n<=m->dD t b m δ = some r
 | 0,_,_,_,h,_=>by cases h
 |n+1,0,_,_,_,hm=>by omega
 |n+1,m+1,δ,r,h,hm=>by
  have hm:n<=m:=by omega
  obtain⟨c,h1,h⟩:=bind_some h;show((t δ).bind fun c=>_)=_
  rw[h1,Option.bind_some];cases c with
  |false=>exact h
  |true=>
   rw[if_pos rfl]at h ⊢;obtain⟨⟨fl,δ2⟩,h2,h⟩:=bind_some h;rw[h2,Option.bind_some];cases fl with
   |nx=>exact cT h hm
   |ct=>exact cT h hm
   |bk=>exact h
   |rt d=>exact h
theorem dN{t:Dv->Option Bool}{b:Sf}{δ:Dv}(n:Nat)(h:t δ = some false):dD t b (n+1) δ = some (.nx,δ):=by
 show((t δ).bind fun c=>_)=_
 rw[h];rfl
theorem kH{t:Dv->Option Bool}{b:Sf}{δ δ2:Dv}{r:Fl×Dv}(n:Nat)(h:t δ = some true)(h2:b δ = some (.nx,δ2))(h3:dD t b n δ2=some r):dD t b (n+1) δ = some r:=by
 show((t δ).bind fun c=>_)=_
 rw[h,Option.bind_some,if_pos rfl,h2,Option.bind_some];exact h3
theorem aE{g:D->Dv->Option Dv}{b:Sf}{d:D}{ds:List D}{δ δ1 δ2:Dv}(h1:g d δ = some δ1)(h2:b δ1=some (.nx,δ2)):loop g b (d::ds) δ = loop g b ds δ2:=by
 show((g d δ).bind fun δ1=>_)=_
 rw[h1,Option.bind_some,h2];rfl
theorem Nd{X:Cx}{ss:List Stmt}:BV X ss (fun _=>none):=fun pins s σ H D I h=>by
 obtain⟨_,_,_,_,_,_,e,_⟩:=h;cases e
def tO(K:Fg)(f:Dv->Option (List D)):TE:=fun σ H Q=>∃H₀ Z₀ Z δ ds,Hold K H₀ Z₀ Z δ σ H/\f δ = some ds/\∀p vs Z' H',Hold K H₀ Z₀ Z' δ σ H'->Same Z Z'->H' p=none->Reps K Z' vs ds->Q (.ref p) (upd H' p (.lst vs))
def EO(X:Cx)(e:Expr)(f:Dv->Option (List D)):Prop:=PE X e (tO X.K f)
def yA(f:Dv->Option D):Dv->Option (List D):=fun δ=>(f δ).bind Aq
@[simp] noncomputable def rM(i:Nat)(f:Dv->Option (List D)):Sf:=fun δ=>(f δ).bind fun ds=>some (.nx,δ.set i (.ow ds))
section
variable{X:Cx}{e:Expr}{es:List Expr}{p pos:Pos}{f:Dv->Option (List D)}{fs:Dv->Option (List D)}
theorem Ce{K:Fg}{D:Ends}{i:Nat}{σ:St}{H:Hp}(h:K9 K (rM i f) D σ H):tO K f σ H fun v H1=>D.nx (σ.set i (some v)) H1:=by
 obtain⟨H₀,Z₀,Z,δ,r,hh,e,k⟩:=h;obtain⟨ds,e1,e⟩:=bind_some e;cases e;exact⟨H₀,Z₀,Z,δ,ds,hh,e1,fun p vs Z1 H1 hh1 t1 hp r1=>k _ _ Z1 (hh1.setO hp r1) t1⟩
theorem xY(i:Nat){x:Str}{pos':Pos}(hN:X.N.Nodup)(ha:EO X e f)(hi:X.N[i]? = some x:=by rfl)(hx:zv X.env.scope x:=by first|exact Or.inl rfl|exact Or.inr rfl)(hs:swapsWith e (some (.Name x pos')) pos.line X.env=pure false:=by rfl)
  (hf:X.fn x=true\/X.env.scope.names.lookup x=some .local:=by first|exact .inl rfl|exact .inr rfl|assumption):SV X (.Assign [.Name x pos'] e pos) (rM i f):=
 PS.imp (ma hN hi hx ha hs hf) fun D σ H h=>Ce h
end
section
variable{X:Cx}{scope:Scope}{vars:List Str}{caps:List (Nat×Str)}{elt tg iter cnd:Expr}{pos:Pos}{g:TG}{fi:Dv->Option (List D)}{ft:Dv->Option Bool}{fe:Dv->Option D}{bv:D->Option (List D)}
theorem xv(tk:vX X.K g vars.length bv){σ:St}{H:Hp}{Q:VK}(h:tO X.K (yA (eN fi caps bv fe)) σ H Q):xU (Nm X.K fi) g (tV X.K fe) vars caps σ H Q:=by
 obtain⟨H₀,Z₀,Z,δ,d0,hh,e0,k⟩:=h;obtain⟨d,e,e0⟩:=bind_some e0;obtain⟨ds,e1,e⟩:=bind_some e;by_cases hz:ds.length<=sizeLine
 ·rw[if_pos hz]at e
  obtain⟨es,e2,e⟩:=bind_some e;cases e;obtain rfl:es=d0:=Option.some.inj e0;have le:=jm e2;have hv:vars.map (fun _=>(none:Option V))=List.replicate vars.length none:=by rw[List.map_const']
  refine⟨H₀,Z₀,Z,δ,ds,hh,e1,fun J Z1 H1 hh1 t1 ok=>?_⟩
  refine⟨fun i m ys H=>m=ds.length-i/\i<=ds.length/\∃Zc,Hold X.K H₀ Z₀ Zc δ σ H/\Same Z1 Zc/\Reps X.K Zc ys (es.take i),⟨ds.length,by simp,zero_le _,Z1,hh1,Same.refl _,by simpa using .nil⟩,?_⟩
  rintro i m ys H2 ⟨rfl,hi2,Zc,hhc,tc,rc⟩;have zh:Same Z1 H2:=tc.trans hhc.zh;have ly:=rc.length;rw[List.length_take]at ly;by_cases hlt:i<ds.length
  ·refine .inr ⟨ok.go i H2 zh hlt,by omega,fun x H3 y=>?_⟩
   have ed:ds[i]? = some ds[i]:=by simp[hlt]
   obtain⟨rfl,rx⟩:=ok.yld i H2 x H3 _ zh ed y;obtain⟨ei,f1,f2⟩:=pE e2 ed;obtain⟨vs,f3,f1⟩:=bind_some f1;rw[hv];refine tk x Zc ds[i] vs (gL σ caps) H3 _ (rx.same tc) hhc.zh f3 fun us ru hn=>⟨⟨by simp[hn],fun j v q=>?_⟩,?_⟩
   ·by_cases hj:j<vars.length
    ·rw[getElem?_append_left (by simpa using hj),getElem?_replicate]at q
     split at q<;>cases q
    ·rw[getElem?_append_right (by simpa using hj)]at q
     rw[getElem?_append_right (by simpa[hn]using hj)];simpa[hn]using q
   ·refine⟨H3,Zc,Zc,_,ei,qh hhc ru,f1,fun v Z4 H4 h4 t4 r4=>⟨ds.length-(i+1),by omega,rfl,hlt,Z4,hhc.new ⟨t4,h4.h0,h4.zh,h4.zb,h4.nf⟩,tc.trans t4,?_⟩⟩
    have:es.take (i+1)=es.take i++[ei]:=by
     rw[List.take_add_one,f2];rfl
    rw[this];exact(rc.same t4).append (.cons r4 .nil)
  ·have hie:i=ds.length:=by omega
   subst hie;refine .inl ⟨ok.stop _ H2 zh (le_refl _),by omega,fun p hp=>?_⟩
   rw[<-le,List.take_length]at rc;exact k p ys Zc _ hhc (t1.trans tc) hp rc
 ·rw[if_neg hz]at e;cases e
theorem Gr(B:BlkOk X.env.scope.names X.N scope vars caps)(hc:X.calm=true)(hi:IV X tg iter fi)(tk:vX X.K g vars.length bv)
  (hg:∀C s₀ H₀ ex,PG (dZ X scope (vars++caps.map (·.2)) C s₀ H₀ ex) tg g) (he:∀C s₀ H₀ ex,EV (dZ X scope (vars++caps.map (·.2)) C s₀ H₀ ex) elt fe) (hs:∀x,foldedSetIterable iter X.env x=pure x:=by intro _;rfl) :
  EO X (.ListComp elt [⟨tg,iter,[],0⟩] scope pos) (yA (eN fi caps bv fe)):=
 PE.imp (yt (te:=tV X.K fe) B hc hi hg he hs) fun _ _ _ h=>xv tk h
end
def zR(t:Sf):Fl×Dv->Option (Fl×Dv)
 | (.nx,δ)=>t δ
 |r=>some r
@[simp] theorem Np(t:Sf)(δ:Dv):zR t (.nx,δ)=t δ:=rfl
@[simp] theorem No(t:Sf)(d:D)(δ:Dv):zR t (.rt d,δ)=some (.rt d,δ):=rfl
@[simp] theorem Nr(t:Sf)(δ:Dv):zR t (.bk,δ)=some (.bk,δ):=rfl
@[simp] theorem Nq(t:Sf)(δ:Dv):zR t (.ct,δ)=some (.ct,δ):=rfl
def NA(u w:Sf)(δ:Dv):Bool->Option (Fl×Dv)
 |true=>u δ
 |false=>w δ
@[simp] theorem Pv(u w:Sf)(δ:Dv):NA u w δ true=u δ:=rfl
@[simp] theorem Pw(u w:Sf)(δ:Dv):NA u w δ false=w δ:=rfl
theorem b8(s t:Sf)(δ:Dv):ap s t δ = (s δ).bind (zR t):=by
 unfold ap zR;congr 1
theorem dz(t:Dv->Option Bool)(u w:Sf)(δ:Dv):dF t u w δ = (t δ).bind (NA u w δ):=by
 unfold dF;congr 1;funext c;cases c<;>rfl
noncomputable def ll:List D->Option (List Int)
 |[]=>some []
 |.int b::r=>(ll r).map (b :: ·)
 |_=>none
def zK:List D->Option D
 |[.list xs]=>(ll xs).map fun bs=>.int bs.sum
 |_=>none
theorem sf{α:Type}(f:α -> Int):∀xs:List α,ll (xs.map fun a=>.int (f a))=some (xs.map f)
 |[]=>rfl
 |a::r=>by simp[ll,sf f r]
theorem uN{α:Type}(f:α -> Int)(xs:List α):zK [.list (xs.map fun a=>.int (f a))]=some (.int (xs.map f).sum):=by
 simp[zK,sf]
def L3:D->Option D
 |.list xs=>some (.list xs.reverse)
 |_=>none
@[simp] theorem Il(xs:List D):L3 (.list xs)=some (.list xs.reverse):=rfl
noncomputable def L4:D->Option (List D)
 |.list xs=>some xs.reverse
 |.tuple xs=>some xs.reverse
 |_=>none
@[simp] theorem Lg(xs:List D):L4 (.list xs)=some xs.reverse:=rfl
@[simp] theorem Im(xs:List D):L4 (.tuple xs)=some xs.reverse:=rfl
@[simp] noncomputable def Lf:Sf:=fun _=>none
@[simp] noncomputable def PV(i:Nat)(f:Dv->Option D):Sf:=fun δ=>(f δ).bind fun v=>(eA v).bind fun es=>(EC δ[i]?).bind fun ds=>if ds.length+es.length<=sizeLine then some (.nx,δ.set i (.ow (ds++es)))else none
section
variable{X:Cx}{e:Expr}{es:List Expr}{p pos tpos apos:Pos}{f:Dv->Option D}{st:Stmt}
theorem vD{K:Fg}{Z:Hp}:∀{xs:List V} {ds:List D} {bs:List Int} {its:List Value},Reps K Z xs ds->Vals xs its->ll ds=some bs->IntsAre its bs
 |_,_,bs,_,.nil,.nil,h=>by cases h;exact .nil
 |_,_,bs,_,.cons r t,.cons q u,h=>by
  cases r with
  |int b=>
   unfold ll at h;cases g:ll _ with
   |none=>rw[g]at h;cases h
   |some cs=>
    rw[g]at h;cases h;obtain⟨tk,rfl⟩:=q;exact .cons _ _ (vD t u g)
  |_=>cases h
theorem Hz(hc:X.calm=true):CallR X (.builtin "sum") (G7 X.K zK):=by
 intro pins s σ H xs us Q I rs q;obtain⟨Z,as,d,zh,ra,e,k⟩:=q;cases ra with
 |nil=>cases e
 |cons r1 r2=>
  cases r2 with
  |cons _ _=>cases r1<;>cases e
  |nil=>
   cases r1 with
   | @lst l ys ds h1 q1=>
    have e:(ll ds).map (fun bs=>PyData.int bs.sum)=some d:=e;cases g:ll ds with
    |none=>rw[g]at e;cases e
    |some bs=>
     rw[g]at e;cases e;obtain⟨u,rfl,ru⟩:=uz rs;cases ru;obtain⟨its,rv,pl,hz⟩:=I.list (SqL.same h1 zh);have hi:=vD q1 rv g;obtain⟨zs,hx⟩:=hi.allInts.items;have hl':s.heap.IsList l (intItems zs):=hx ▸ pl.isList;refine sum_intListG (I.ok.hd hc) hl' fun h' tk t' hk=>?_
     have e1:bs=zs.toList.map (·.1):=by
      rw[<-nums_intItems,<-hx];exact(show numsOf its.toArray.toList=bs from hi.numsOf).symm
     have e2:preSum (numAt zs) zs.size=bs.sum:=by
      rw[preSum_eq,List.take_of_length_le (by simp),e1]
     rw[e2];exact⟨.int _,H,I.kept (t':=tk) hk,⟨t',rfl⟩,k _ Z H (New.refl zh) (.int _)⟩
   |_=>cases e
theorem LN{st:Stmt}:SV X st Lf:=fun pins s σ H D I h=>by
 obtain⟨_,_,_,_,_,_,e,_⟩:=h;cases e
end
def N8:D->Option (List D)
 |.tuple xs=>some xs.reverse
 |_=>none
@[simp] theorem Ik(xs:List D):N8 (.tuple xs)=some xs.reverse:=rfl
def F2(h:Heap)(e:Addr):Prop:=∃oe vs,h.get? e=some oe/\oe.data=.fields vs/\vs[2]? = some .none
abbrev Xf:=Dv->Option (Str×Dv)
@[simp] noncomputable def Qp:Xf:=fun _=>none
@[simp] noncomputable def NK(n:Str)(f:Dv->Option D):Xf:=fun δ=>(f δ).bind fun _=>some (n,δ)
@[simp] noncomputable def xE(f:Dv->Option Str):Xf:=fun δ=>(f δ).bind fun n=>some (n,δ)
@[simp] noncomputable def Qq(t:Dv->Option Bool)(u w:Xf):Xf:=fun δ=>(t δ).bind fun c=>if c=true then u δ else w δ
@[simp] noncomputable def NJ(s:Sf)(u:Xf):Xf:=fun δ=>(s δ).bind fun r=>match r with
 | (.nx,δ')=>u δ'
 |_=>none
@[simp] noncomputable def O9(u1:Xf)(s:Sf)(u:Xf):Xf:=fun δ=>match u1 δ with
 |some r=>some r
 |none=>NJ s u δ
@[simp] noncomputable def Qt(fs:Dv->Option (List D))(g:List D->Option Str):Dv->Option Str:=fun δ=>(fs δ).bind g
def Ay:Sl->Bool
 |.own _=>true
 |_=>false
@[simp] theorem Nx(d:D):Ay (.fz d)=false:=rfl
@[simp] theorem Nw:Ay .un=false:=rfl
noncomputable def Ew:Nat->Dv->Bool
 |_,[]=>true
 | 0,_::r=>r.all fun s=>!Ay s
 |n+1,s::r=>!Ay s&&Ew n r
@[simp] theorem La(s:Sl)(r:Dv):Ew 0 (s::r)=r.all fun s=>!Ay s:=rfl
@[simp] theorem Lb(n:Nat)(s:Sl)(r:Dv):Ew (n+1) (s::r)=(!Ay s&&Ew n r):=rfl
@[simp] noncomputable def O8(f:Dv->Option D)(u:Dv->Option Str):Dv->Option Str:=fun δ=>(f δ).bind fun _=>u δ
@[simp] noncomputable def Po(i:Nat)(f:Dv->Option D):Sf:=fun δ=>(f δ).bind fun v=>(Aq v).bind fun es=>(EC δ[i]?).bind fun ds=>if ds.length+es.length<=sizeLine then some (.nx,δ.set i (.ow (ds++es)))else none
theorem xo(l:Addr)(items:Array Value)(n:Nat)(b:Addr)(items2:Array Value)(n2:Nat)(sl:Array (Option Value))(hc0:¬(!items.isEmpty&&Builtin.List.listTooLong (items.size+items2.size))=true)(hc1:items.size<=sizeLine)(hs2:items.size+items2.size<=sizeLine+1):
  Meets (Builtin.«list.extend» ⟨[.ref l,.ref b],[]⟩) (fun _ R s=>s.heap.get? l=some { cls:=.type "list",dict:=none,data:=.seq items n,slots:=#[] }/\s.heap.get? b=some { cls:=.type "list",dict:=none,data:=.seq items2 n2,slots:=sl }/\R (.ok (.ret Value.none)) { s with heap:=s.heap.update l (Obj.mapSeq fun x=>x++items2),toks:=s.toks }):=
 .of_wp fun prog w A R s h=>by
  obtain⟨hp,g,d,tk,os⟩:=s;obtain⟨hl,hb,h⟩:=h;have f1:=AutoSeq1.idx_int;have f2:=AutoSeq1.sub_tuple_tuple;have f3:=AutoSeq1.sub_list_list;have f4:=AutoSeq1.sub_tuple_list;have f5:=AutoSeq1.sub_list_tuple;have hz':(items++items2).size<=sizeLine+1:=by rw[Array.size_append];exact hs2
  wp_walk using (wpAny_updateSeq hl rfl (hz:=hc1) (_hz':=hz')),AutoSeq1.wpAny_loadPart' hl,AutoSeq1.wpAny_loadPart' hb;exact⟨_,rfl,h⟩
def L7(K:Fg):V->List V->Hp->VK->Prop:=fun x vs H Q=>∃l b xs zs,x=.ref l/\vs=[.ref b]/\H l=some (.lst xs)/\SqL K H b zs/\xs.length+zs.length<=sizeLine/\Q .non (upd H l (.lst (xs++zs)))
section
variable{X:Cx}
theorem FJ:PC X "list.extend" (L7 X.K):=by
 intro pins s σ H x vs v us Q I rx rv h;obtain⟨l,b,xs,zs,rfl,rfl,hH,hB,hz,q⟩:=h;cases rx;obtain⟨u,rfl,ru⟩:=rv.one;cases ru;obtain⟨z,its,n,r,hl,e⟩:=I.lstM hH;obtain⟨its2,r2,⟨o2,n2,e2,hc,hd,hs⟩,z2⟩:=I.list hB;have hl2:=r2.length;obtain⟨c2,d2,dt2,sl2⟩:=o2;dsimp only at hc hd hs;subst hc hd hs;have hsz:its.toArray.size+its2.toArray.size<=sizeLine:=by rw[size_toArray,size_toArray];omega
 have hlong:¬(!its.toArray.isEmpty&&Builtin.List.listTooLong (its.toArray.size+its2.toArray.size))=true:=by
  rw[vm hsz,Bool.and_false];exact Bool.false_ne_true
 refine call_meets F.slot_list_extend ⟨_,e,rfl⟩ F.entry_list_extend (F.args_list_extend_2 _ _)
  (xo l its.toArray n b its2.toArray n2 sl2 hlong (by rw[size_toArray];omega) (by omega)) ⟨e,e2,?_⟩
 refine⟨.non,_,I.lset (its':=its++its2) hH e (by simp) (r.append r2) ?_,rfl,q⟩;rw[List.length_append];omega
end
noncomputable def ni:D->D->Option D
 |.list xs,.int k=>if -(2^63)<=k/\k<2^63/\xs.length*k.toNat<=16777216 then some (.list (List.replicate k.toNat xs).flatten)else none
 |_,_=>none
theorem yE{xs:List D}{k:Int}(h1:-9223372036854775808<=k)(h2:k<9223372036854775808)(h3:xs.length*k.toNat<=16777216):ni (.list xs) (.int k)=some (.list (List.replicate k.toNat xs).flatten):=if_pos ⟨h1,h2,h3⟩
theorem Reps.rep{K:Fg}{Z:Hp}{xs:List V}{us:List D}(h:Reps K Z xs us):∀k:Nat,Reps K Z (List.replicate k xs).flatten (List.replicate k us).flatten
 | 0=>.nil
 |k+1=>by
  rw[List.replicate_succ,List.replicate_succ,List.flatten_cons,List.flatten_cons];exact h.append (Reps.rep h k)
theorem Oq(l:Addr)(items:Array Value)(n:Nat)(sl:Array (Option Value))(x:Int)(u:Tok)(hc0:¬(!Builtin.List.listFitsIndex x)=true)(hc1:¬items.size*x.toNat>(2^63-1)/8)(hc2:¬Builtin.List.listTooLong (items.size*x.toNat)=true):
  Meets (Builtin.«list.__mul__» ⟨[.ref l,.int x u],[]⟩) (fun _ R s=>s.heap.get? l=some { cls:=.type "list",dict:=none,data:=.seq items n,slots:=sl }/\R (.ok (.ret (Value.ref s.heap.objs.size))) { s with heap:=s.heap.push { cls:=Value.type "list",data:=Data.seq (List.foldl (fun x1 x2=>x1++x2) #[] (List.replicate (if items.isEmpty=true then 0 else x.toNat) items)) },toks:=s.toks }):=
 .of_wp fun prog w A R s h=>by
  obtain⟨hp,g,d,tk,os⟩:=s;obtain⟨hl,h⟩:=h;have hsz:=AutoListH.joined_fits hc2
  wp_walk;refine wpAny_ite_false (decide_eq_false (Nat.not_lt.mpr hsz)) ?_;wp_walk;exact⟨_,rfl,h⟩
theorem L0(a:Int)(t:Tok)(l:Addr)(items:Array Value)(n:Nat)(sl:Array (Option Value)):
  Meets (Builtin.«int.__rmul__» ⟨[.int a t,.ref l],[]⟩) (fun _ R s=>s.heap.get? l=some { cls:=.type "list",dict:=none,data:=.seq items n,slots:=sl }/\R (.ok (.ret Value.notImplemented)) s):=
 .of_wp fun prog w A R s h=>by obtain⟨hp,g,d,tk,os⟩:=s;obtain⟨hl,h⟩:=h;wp_walk;exact⟨_,rfl,h⟩
section
variable{X:Cx}
def rO(K:Fg)(g:D->D->Option D):R2:=fun x y H Q=>∃Z a b ds,Same Z H/\Rep K Z x a/\Rep K Z y b/\g a b=some (.list ds)/\∀p vs,H p=none->Reps K Z vs ds->Q (.ref p) (upd H p (.lst vs))
theorem FH{a b:D}{es:List D}(h:ni a b=some (.list es)):∃ds k,a=.list ds/\b=.int k/\(-(2^63)<=k/\k<2^63/\ds.length*k.toNat<=16777216)/\(List.replicate k.toNat ds).flatten=es:=by
 cases a with
 |list xs=>
  cases b with
  |int i=>obtain⟨p,q⟩:=eB h;exact⟨_,_,rfl,rfl,p,PyData.list.inj q⟩
  |_=>cases h
 |_=>cases h
theorem KF:OpR X (binaryOp .Mult) (rO X.K ni):=by
 intro pins s σ H x y v u Q I rx ry q;obtain⟨Z,a,b,d,zh,ra,rb,e,kk⟩:=q;obtain⟨ds,k,rfl,rfl,hl,rfl⟩:=FH e;obtain⟨a,xs,rfl,h1,q1⟩:=ra.lst_ex;cases rb.int_eq;obtain⟨h63,h63',hz⟩:=hl;cases rx;obtain⟨t,rfl⟩:=ry;obtain⟨its,r1,p1,z1⟩:=I.list (SqL.same h1 zh);obtain⟨⟨cls,dd,data,sl⟩,n1,ho,hc,hdd,hd⟩:=p1;simp only at hc hd hdd;subst hc hd hdd;have hl1:=r1.length;have ql1:=q1.length;have hlen:its.toArray.size*k.toNat<=sizeLine:=by rw[size_toArray,<-hl1,ql1];exact hz
 have hcap:¬its.toArray.size*k.toNat>(2^63-1)/8:=by
  have:(sizeLine:Nat)<=(2^63-1)/8:=by decide
  omega
 have hfit:¬(!Builtin.List.listFitsIndex k)=true:=by
  rw[fitsIndex_both h63 h63'];exact Bool.false_ne_true
 have hlong:¬Builtin.List.listTooLong (its.toArray.size*k.toNat)=true:=by
  rw[vm hlen];exact Bool.false_ne_true
 have hnew:List.foldl (fun x1 x2=>x1++x2) #[] (List.replicate (if its.toArray.isEmpty=true then 0 else k.toNat) its.toArray)=(List.replicate k.toNat its).flatten.toArray:=by
  have f0:∀m:Nat,List.foldl (fun x1 x2=>x1++x2) #[] (List.replicate m its.toArray)=(List.replicate m its).flatten.toArray:=fun m=>by
   have:=sh its m [];rw[List.nil_append]at this;exact this
  rw[f0];cases its with
  |nil=>simp
  |cons a r'=>rw[if_neg (by simp)]
 refine wpAny_binaryOp_repeat_ref (T:="list") (U:="int") (by decide) ⟨_,ho,rfl⟩ (fun s'=>typeIs_int s' k t) noFill_list_mul F.fills_int_mul F.slot_int_rmul repeat_list F.slot_int_index.lookup
  (call_meets F.slot_int_rmul (typeIs_int s k t) F.entry_int_rmul (F.args_int_rmul_2 _ _) (L0 k t a its.toArray n1 sl)
   ⟨ho,rfl,⟨_,ho,rfl⟩,call_meets F.slot_list_mul ⟨_,ho,rfl⟩ F.entry_list_mul (F.args_list_mul_2 _ _) (Oq a its.toArray n1 sl k t hfit hcap hlong) ⟨ho,?_⟩⟩)
 rw[hnew];exact⟨.ref _,_,I.lnew (t':=s.toks) (r1.rep k.toNat) (by rw[FN,Nat.mul_comm,ql1];exact hz),rfl,kk _ _ I.fresh (Reps.rep q1 k.toNat)⟩
theorem Cy{a b d:D}(h:ni a b=some d):∃ds,d=.list ds:=by
 unfold ni at h;split at h
 ·split at h
  ·cases h;exact⟨_,rfl⟩
  ·cases h
 ·cases h
variable{a b:Expr}{pos:Pos}{f1 f2:Dv->Option D}
theorem Do(ha:EV X a f1)(hb:EV X b f2):EO X (.BinOp a .Mult b pos) (yA (o2 f1 f2 ni)):=
 PE.imp (Ha KF ha hb) fun σ H Q h=>by
  obtain⟨H₀,Z₀,Z,δ,ds,hh,e,k⟩:=h;obtain⟨d,e,e3⟩:=bind_some e;obtain⟨x,e1,e⟩:=bind_some e;obtain⟨y,e2,e⟩:=bind_some e;obtain⟨es,rfl⟩:=Cy e;cases e3;exact⟨H₀,Z₀,Z,δ,x,hh,e1,fun v Z1 H1 hh1 s1 r1=>⟨H₀,Z₀,Z1,δ,y,hh1,e2,fun u Z2 H2 hh2 s2 r2=>⟨Z2,x,y,_,hh2.zh,r1.same s2,r2,e,fun p vs hp r=>k p vs Z2 H2 hh2 (s1.trans s2) hp r⟩⟩⟩
end
theorem pG{α:Type}:∀{us:List α},us.length=1->∃a,us=[a]
 |[a],_=>⟨a,rfl⟩
theorem km{α:Type}{us:List α}(h:us.length=2):∃a b,us=[a,b]:=by
 cases us with
 |nil=>cases h
 |cons a r=>
  obtain⟨b,rfl⟩:=pG (Nat.succ.inj h);exact⟨a,b,rfl⟩
theorem wV{α:Type}{us:List α}(h:us.length=3):∃a b c,us=[a,b,c]:=by
 cases us with
 |nil=>cases h
 |cons a r=>
  obtain⟨b,c,rfl⟩:=km (Nat.succ.inj h);exact⟨a,b,c,rfl⟩
theorem CG{α:Type}{us:List α}(h:us.length=4):∃a b c d,us=[a,b,c,d]:=by
 cases us with
 |nil=>cases h
 |cons a r=>
  obtain⟨b,c,d,rfl⟩:=wV (Nat.succ.inj h);exact⟨a,b,c,d,rfl⟩
theorem Ox{α:Type}{us:List α}(h:us.length=5):∃a b c d e,us=[a,b,c,d,e]:=by
 cases us with
 |nil=>cases h
 |cons a r=>
  obtain⟨b,c,d,e,rfl⟩:=CG (Nat.succ.inj h);exact⟨a,b,c,d,e,rfl⟩
def DefIn(K:PySem.W.Frag)(x y:Str)(st:Stmt):Prop:=∃f fd,PySem.W.nsIn K mainGlobals x=some (some (.ref f))/\FunV K y y st f fd .none/\keepIn K (.ref f)=true
def aV(x:Str)(st:Stmt)(ps:List Str):Prop:=∀(kV doc pm:Value) (an:Option Addr) (cdv ct:Value) (us:List Value),us.length=ps.length->bindArgs (PySem.W.fnOf x x (cR st) (b7 st) (aj st) .none kV doc pm an cdv ct) ⟨us,[]⟩=pure (ps.zip us)
section
variable{P:Program}{w:World}{K:PySem.W.Frag}{mg:Str->Option Value}{base h:Heap}{x y:Str}{st:Stmt}{k:Nat}{ps:List Str}
theorem DefIn.mk{f:Addr}{oc:Value}{od an:Option Addr}{osl:Array (Option Value)}{kV doc pm cdv ct:Value}(a:PySem.W.nsIn K mainGlobals x=some (some (.ref f)))(l:K.lookup f=some ⟨oc,od,.func (PySem.W.fnOf y y (cR st) (b7 st) (aj st) .none kV doc pm an cdv ct),osl⟩)
  (c:codeIn K cdv y=true) (k:keepIn K (.ref f)=true):DefIn K x y st:=⟨_,_,a,og l c k,k⟩
variable(D:DefIn K x y st)(X:K.In h)(G:h.Ns mainGlobals mg)(b:aV y st ps)
include D X G
include b
theorem DefIn.cal{g:List VL.D->Option VL.D}(ok:∀f fd,FunV K y y st f fd .none->FnOk P w K mg base dY k f fd ps (iE K g)):Cal P w K mg base x k g []:=by
 obtain⟨f,fd,a,F,hk⟩:=D;exact Cal.mk0 (ok f fd F) (mg_of X G a) hk (F.binds b)
theorem DefIn.calR{g:List VL.D->Option VL.D}(ok:∀f fd,FunV K y y st f fd .none->mg x=some (.ref f)->keepIn K (.ref f)=true->Binds K fd ps []->FnOk P w K mg base dY k f fd ps (iE K g)):Cal P w K mg base x k g []:=by
 obtain⟨f,fd,a,F,hk⟩:=D;exact Cal.mk0 (ok f fd F (mg_of X G a) hk (F.binds b)) (mg_of X G a) hk (F.binds b)
end
noncomputable def Px(fd:FuncData)(us:List Value):{kk:Option (Array Value)->Sem (List (Str×Value)) // bindArgs fd ⟨us,[]⟩=seqItems? fd.defaults >>= kk}:=⟨_,rfl⟩
theorem FunV.bindsK{K:PySem.W.Frag}{x qual:Str}{st:Stmt}{f T:Addr}{fd:FuncData}{ps:List Str}{o:Obj}{items:Array Value}{n:Nat}{ds:List Value}(F:FunV K x qual st f fd (.ref T))(ho:K.lookup T=some o)(hs:o.data=.seq items n)(nu:Nat)(hn:nu+ds.length=ps.length)
  (h:∀(kV doc pm:Value) (an:Option Addr) (cdv ct:Value) (us:List Value),us.length=nu->(Px (PySem.W.fnOf x qual (cR st) (b7 st) (aj st) (.ref T) kV doc pm an cdv ct) us).1 (some items)=pure (ps.zip (us++ds))):Binds K fd ps ds:=
 F.bindsD ho hs nu hn fun kV doc pm an cdv ct us hl=>⟨_,(Px (PySem.W.fnOf x qual (cR st) (b7 st) (aj st) (.ref T) kV doc pm an cdv ct) us).2,h kV doc pm an cdv ct us hl⟩
end VL
namespace VL
open PySem PySem.Spec PyProof.Rows L2
open AutoSeq1 (wpAny_loadPart')
end VL
namespace VL
open PySem PySem.Spec PyProof.Rows L2
def Qk(z:Bool):D->D->Option D
 |.bool a,.bool b=>some (.bool (z != (a==b)))
 |_,_=>none
@[simp] theorem MR(z a b:Bool):Qk z (.bool a) (.bool b)=some (.bool (z != (a==b))):=rfl
end VL
namespace L2
open PySem PySem.Spec PyProof.Rows
open PySem.F (slot_dict_get)
open List (any_cons find?_cons map_cons)
section
variable{κ:Type}[DecidableEq κ]
def lO(kvs:List (κ × V))(k:κ):Option V:=(kvs.find? fun kv=>decide (kv.1=k)).map (·.2)
noncomputable def iQ(kvs:List (κ × V))(k:κ)(v:V):List (κ × V):=
 if(kvs.any fun kv=>decide (kv.1=k))=true then kvs.map (fun kv=>if kv.1=k then(kv.1,v)else kv)else kvs++[(k,v)]
theorem kK{p:κ × V}{r:List (κ × V)}{k:κ}(e:p.1=k):lO (p::r) k=some p.2:=by simp[lO,find?_cons,e]
theorem kL{p:κ × V}{r:List (κ × V)}{k:κ}(e:¬p.1=k):lO (p::r) k=lO r k:=by simp[lO,find?_cons,e]
theorem uA(k:κ):∀kvs:List (κ × V),(kvs.any fun kv=>decide (kv.1=k))=(lO kvs k).isSome
 |[]=>rfl
 |p::r=>by
  rw[any_cons];by_cases e:p.1=k
  ·simp only[kK e,decide_eq_true e,Bool.true_or,Option.isSome_some]
  ·rw[kL e,decide_eq_false e,Bool.false_or];exact uA k r
theorem jn(kvs:List (κ × V))(k:κ)(v:V):(iQ kvs k v).length<=kvs.length+1:=by
 unfold iQ;split
 ·rw[List.length_map];omega
 ·rw[List.length_append,List.length_cons,List.length_nil];omega
theorem RelO.isSome_eq{o:Option V}{u:Option Value}(r:RelO o u):o.isSome=u.isSome:=by
 cases o with
 |none=>cases u with
  |none=>rfl
  |some _=>exact(show False from r).elim
 |some _=>cases u with
  |none=>exact(show False from r).elim
  |some _=>rfl
theorem RelO.getD{o:Option V}{u:Option Value}{d:V}{d':Value}(r:RelO o u)(rd:RelV d d'):RelV (o.getD d) (u.getD d'):=by
 cases o with
 |none=>cases u with
  |none=>exact rd
  |some _=>exact(show False from r).elim
 |some _=>cases u with
  |none=>exact(show False from r).elim
  |some _=>exact r
theorem KV.val{kvs:List (κ × V)}{vs:List (κ × Value)}(r:KV kvs vs)(k:κ):RelO (lO kvs k) (valueAt vs k):=by
 unfold KV at r
 induction r with
 |nil=>exact True.intro
 | @cons p q ps qs h t ih=>
  obtain⟨h1,h2⟩:=h;by_cases e:p.1=k
  ·have e':q.1=k:=h1.symm.trans e
   have b:valueAt (q::qs) k=some q.2:=by simp[valueAt,find?_cons,e']
   rw[kK e,b];exact h2
  ·have e':¬q.1=k:=fun z=>e (h1.trans z)
   have b:valueAt (q::qs) k=valueAt qs k:=by simp[valueAt,find?_cons,e']
   rw[kL e,b];exact ih
theorem KV.any{kvs:List (κ × V)}{vs:List (κ × Value)}(r:KV kvs vs)(k:κ):(kvs.any fun kv=>decide (kv.1=k))=vs.any fun kv=>decide (kv.1=k):=by
 unfold KV at r
 induction r with
 |nil=>rfl
 |cons h t ih=>rw[any_cons,any_cons,ih,h.1]
theorem KV.repl{kvs:List (κ × V)}{vs:List (κ × Value)}(r:KV kvs vs)(k:κ){y:V}{u:Value}(ry:RelV y u):
  KV (kvs.map fun kv=>if kv.1=k then(kv.1,y)else kv) (vs.map fun kv=>if kv.1=k then(kv.1,u)else kv):=by
 unfold KV at r ⊢
 induction r with
 |nil=>exact .nil
 | @cons p q ps qs h t ih=>
  rw[map_cons,map_cons];refine .cons ?_ ih;obtain⟨h1,h2⟩:=h;by_cases e:p.1=k
  ·rw[if_pos e,if_pos (h1.symm.trans e)];exact⟨h1,ry⟩
  ·rw[if_neg e,if_neg (fun z=>e (h1.trans z))];exact⟨h1,h2⟩
theorem KV.put{kvs:List (κ × V)}{vs:List (κ × Value)}(r:KV kvs vs)(k:κ){y:V}{u:Value}(ry:RelV y u):KV (iQ kvs k y) (stored vs k u):=by
 unfold iQ stored;rw[r.any k];by_cases e:(vs.any fun kv=>decide (kv.1=k))=true
 ·rw[if_pos e,if_pos e];exact r.repl k ry
 ·rw[if_neg e,if_neg e];exact Paired.snoc r ⟨rfl,ry⟩
theorem KV.length{kvs:List (κ × V)}{vs:List (κ × Value)}(r:KV kvs vs):kvs.length=vs.length:=Paired.length r
end
theorem yN{P:Program}{w:World}{k:bb}{u:Value}(r:RelV (kV k) u):(aP P w).is k u=true:=by
 cases k with
 |inl i=>obtain⟨t,e⟩:=(show ∃t,u=Value.int i t from r);subst e;exact vr P w i t
 |inr x=>obtain⟨t,e⟩:=(show ∃t,u=Value.str x t from r);subst e;exact vq P w x t
theorem r8{P:Program}{w:World}:∀{ks:List bb} {us:List Value},Vals (ks.map kV) us->ItemsAre (aP P w) ks us
 |[],_,r=>by rw[List.map_nil]at r;cases r;exact .nil
 |k::ks,_,r=>by
  rw[map_cons]at r;cases r with
  |cons h t=>exact .cons (yN h) (r8 t)
abbrev KT(H:Hp):List (List bb×V)->List (List bb×Addr×Value)->Prop:=Paired fun p q=>p.1=q.1/\H q.2.1=some (.tup (p.1.map kV))/\RelV p.2 q.2.2
theorem KT.val{H:Hp}{kvs:List (List bb×V)}{xs:List (List bb×Addr×Value)}(r:KT H kvs xs)(k:List bb):RelO (lO kvs k) ((atKey xs k).map (·.2)):=by
 induction r with
 |nil=>exact True.intro
 | @cons p q ps qs h t ih=>
  obtain⟨h1,_,h2⟩:=h;by_cases e:p.1=k
  ·have e':q.1=k:=h1.symm.trans e
   have b:atKey (q::qs) k=some q.2:=by simp[atKey,find?_cons,e']
   rw[kK e,b];exact h2
  ·have e':¬q.1=k:=fun z=>e (h1.trans z)
   have b:atKey (q::qs) k=atKey qs k:=by simp[atKey,find?_cons,e']
   rw[kL e,b];exact ih
theorem KT.repl{H:Hp}{kvs:List (List bb×V)}{xs:List (List bb×Addr×Value)}(r:KT H kvs xs)(k:List bb){y:V}{u:Value}(ry:RelV y u):
  KT H (kvs.map fun kv=>if kv.1=k then(kv.1,y)else kv) (xs.map (putAt k u)):=by
 induction r with
 |nil=>exact .nil
 | @cons p q ps qs h t ih=>
  rw[map_cons,map_cons];refine .cons ?_ ih;obtain⟨h1,h2,h3⟩:=h;unfold putAt;by_cases e:p.1=k
  ·rw[if_pos e,if_pos (h1.symm.trans e)];exact⟨h1,h2,ry⟩
  ·rw[if_neg e,if_neg (fun z=>e (h1.trans z))];exact⟨h1,h2,h3⟩
theorem KT.put{H:Hp}{kvs:List (List bb×V)}{xs:List (List bb×Addr×Value)}(r:KT H kvs xs)(k:List bb){b:Addr}{y:V}{u:Value}(hb:H b=some (.tup (k.map kV)))(ry:RelV y u):
  KT H (iQ kvs k y) (storedH xs k b u):=by
 have e:(kvs.any fun kv=>decide (kv.1=k))=(atKey xs k).isSome:=by
  rw[uA,(r.val k).isSome_eq,Option.isSome_map]
 unfold iQ storedH;rw[e];by_cases q:(atKey xs k).isSome=true
 ·rw[if_pos q,if_pos q];exact r.repl k ry
 ·rw[if_neg q,if_neg q];exact Paired.snoc r ⟨rfl,hb,ry⟩
theorem KT.keeps{H H':Hp}{kvs:List (List bb×V)}{xs:List (List bb×Addr×Value)}(r:KT H kvs xs)(ht:∀b ys,H b=some (.tup ys)->H' b=some (.tup ys)):KT H' kvs xs:=
 Paired.mapP r fun _ _ z=>⟨z.1,ht _ _ z.2.1,z.2.2⟩
section
variable{P:Program}{w:World}{H:Hp}{h:Heap}{a:Addr}
theorem G6{u:HO}(ok:HOk P w H h)(e:Rd H a u):ObjOk P w H h a u:=e.ok ok
theorem yZ{kvs:List (bb×V)}(ok:HOk P w H h)(e:Rd H a (.dK kvs)):kvs.length<=sizeLine/\(a==sysModules)=false/\∃vs,KV kvs vs/\h.DictOf (aP P w) a vs:=
 show ObjOk P w H h a (.dK kvs)from G6 ok e
theorem M6{kvs:List (bb×V)}(ok:HOk P w H h)(e:H a=some (.dK kvs)):kvs.length<=sizeLine/\(a==sysModules)=false/\∃vs,KV kvs vs/\h.DictOf (aP P w) a vs:=yZ ok (.inl e)
theorem wW{ks:List bb}(ok:HOk P w H h)(e:H a=some (.tup (ks.map kV))):(tupleKind (aP P w)).is h ks a:=by
 obtain⟨_,its,r,⟨o,h1,h2,n,h3⟩,_⟩:=(show ObjOk P w H h a (.tup (ks.map kV))from ok a _ e);exact⟨o,its.toArray,n,h1,h2,h3,by simpa using r8 r⟩
theorem Dq{kvs:List (List bb×V)}(ok:HOk P w H h)(e:Rd H a (.dT kvs)):kvs.length<=sizeLine/\(a==sysModules)=false /\
  ∃xs,KT H kvs xs/\h.DictOfH (tupleKind (aP P w)) a xs:=by
 obtain⟨z,y,xs,r,o,es,ep,h1,h2,h3,h4,h5⟩:=(show ObjOk P w H h a (.dT kvs)from G6 ok e);refine⟨z,y,xs,r,o,es,ep,h1,h2,h3,h4,fun x hx=>?_,h5⟩
 have all:∀{l:List (List bb×V)} {m:List (List bb×Addr×Value)},KT H l m->∀x∈m,(tupleKind (aP P w)).is h x.1 x.2.1:=by
  intro l m q
  induction q with
  |nil=>intro x hx;exact nomatch hx
  | @cons p q ps qs hq t ih=>
   intro x hx;rcases List.mem_cons.mp hx with e|hx
   ·subst e
    exact wW ok (by rw[<-hq.1];exact hq.2.1)
   ·exact ih x hx
 exact all r x hx
theorem M5{kvs:List (List bb×V)}(ok:HOk P w H h)(e:H a=some (.dT kvs)):kvs.length<=sizeLine/\(a==sysModules)=false /\
  ∃xs,KT H kvs xs/\h.DictOfH (tupleKind (aP P w)) a xs:=Dq ok (.inl e)
end
def DGet(H:Hp)(a:Addr)(y:V)(r:Option V):Prop:=
 (∃kvs k,Rd H a (.dK kvs)/\y=kV k/\r=lO kvs k)\/∃kvs k b,Rd H a (.dT kvs)/\y=.ref b/\H b=some (.tup (k.map kV))/\r=lO kvs k
def DPut(H:Hp)(a:Addr)(y v:V)(H':Hp):Prop:=
 (∃kvs k,H a=some (.dK kvs)/\y=kV k/\kvs.length<sizeLine/\H'=upd H a (.dK (iQ kvs k v))) \/
 ∃kvs k b,H a=some (.dT kvs)/\y=.ref b/\H b=some (.tup (k.map kV))/\kvs.length<sizeLine/\H'=upd H a (.dT (iQ kvs k v))
theorem DGet.k{H:Hp}{a:Addr}{kvs:List (bb×V)}{k:bb}(e:H a=some (.dK kvs)):DGet H a (kV k) (lO kvs k):=.inl ⟨kvs,k,.inl e,rfl,rfl⟩
theorem DPut.k{H:Hp}{a:Addr}{kvs:List (bb×V)}{k:bb}{v:V}(e:H a=some (.dK kvs))(hl:kvs.length<sizeLine):DPut H a (kV k) v (upd H a (.dK (iQ kvs k v))):=.inl ⟨kvs,k,e,rfl,hl,rfl⟩
section
variable{X:Cx}{pins:List (Addr×Obj)}{σ:St}{H:Hp}{s:Shared}{a:Addr}{y v:V}{u r:Value}{o:Option V}{A:Around}{E:Value->Shared->Prop}
theorem Inv.big(I:Inv X pins σ H s):sysModules<s.heap.objs.size:=by
 have h:mainGlobals<s.heap.objs.size:=(I.mod.glob.keeps I.bk).lt;exact Nat.lt_trans (by decide) h
theorem ze{h':Heap}{t':Nat}{ob:HO}(I:Inv X pins σ H s)(mu:Nk (H a))(hs:Heap.SameBut a s.heap h')(he:∃q,h'.get? a=some q)(new:ObjOk X.prog X.w (upd H a ob) h' a ob):
  Inv X pins σ (upd H a ob) { s with heap:=h',toks:=t' }:=
 I.write (x:=a) (e:=a) mu (.inl rfl) (fun b q hb z=>(hs.2 b hb).trans z) he new
theorem Dr{P:Program}{w:World}{H':Hp}{h':Heap}{kvs:List (bb×V)}{vs:List (bb×Value)}(z:kvs.length<=sizeLine)(hd:(a==sysModules)=false)(rel:KV kvs vs)(dd:h'.DictOf (aP P w) a vs):
  ObjOk P w H' h' a (.dK kvs):=⟨z,hd,vs,rel,dd⟩
theorem AM{H':Hp}{Q:Unit->Shared->Prop}(hu:A.units+1<cLine)(I:Inv X pins σ H s)(g:DPut H a y v H')(ry:RelV y u)(rv:RelV v r)(h:∀s',Inv X pins σ H' s'->Q () s'):
  wpAny (model X.prog X.w) A (setItem (.ref a) u r) Q E s:=by
 rcases g with⟨kvs,k,e,ey,l,eH⟩|⟨kvs,k,b,e,ey,eb,l,eH⟩
 ·subst ey eH
  obtain⟨z,hd,vs,rel,dd⟩:=M6 I.hok e;have hz:vs.length<=sizeLine:=by rw[<-rel.length];exact z
  have hl:(iQ kvs k v).length<=sizeLine:=by have:=jn kvs k v;omega
  refine wpAny_setItem_pairs (hsz:=hz) (yN ry) dd fun h' dd' hs=>h _ ?_
  have he:∃q,h'.get? a=some q:=let ⟨q,_,_,hq,_⟩:=dd'; ⟨q,hq⟩
  exact ze I (by rw[e];exact True.intro) hs he (Dr hl hd (rel.put k rv) dd')
 ·subst ey eH
  cases(show u=Value.ref b from ry);obtain⟨z,hd,xs,rel,dd⟩:=M5 I.hok e;have hz:xs.length<=sizeLine:=by rw[<-Paired.length rel];exact z
  have hl:(iQ kvs k v).length<=sizeLine:=by have:=jn kvs k v;omega
  refine wpAny_setItem_heap (hsz:=hz) (tupleKind_room_in1 hu) (wW I.hok eb) dd fun h' dd' hs=>h _ ?_
  obtain⟨q,es,ep,hq,h2,h3,h4,_,h5⟩:=dd';refine ze I (by rw[e];exact True.intro) hs ⟨q,hq⟩ ⟨hl,hd,_,(rel.put k eb rv).keeps fun c ys ec=>?_,q,es,ep,hq,h2,h3,h4,h5⟩
  rw[aA (Mx ec e (fun z=>nomatch z))];exact ec
end
def LX(td ty tv:TE):TS:=fun D σ H=>tv σ H fun v H1=>td σ H1 fun x H2=>ty σ H2 fun y H3=>∃a H4,x=.ref a/\DPut H3 a y v H4/\D.nx σ H4
section
variable{X:Cx}{o i e value:Expr}{pos pos' tpos:Pos}{td ty tv:TE}
theorem EW(hu:X.A.units+1<cLine)(ho:PE X o td)(hi:PE X i ty)(hv:PE X value tv)(hs:swapsWith value (some (.Subscript o i pos')) pos.line X.env=pure false):
  PS X (.Assign [.Subscript o i pos'] value pos) (LX td ty tv):=by
 intro pins s σ H D I h;refine wpAny_Assign_Subscript (cm (hv pins s σ H _ I h) fun r s1 ⟨v,H1,I1,rv,q1⟩=>cm (ho pins s1 σ H1 _ I1 q1) fun u s2 ⟨x,H2,I2,rx,q2⟩=>cm (hi pins s2 σ H2 _ I2 q2) fun iv s3 ⟨y,H3,I3,ry,a,H4,ex,g,q3⟩=>?_) hs
 subst ex;obtain rfl:u=Value.ref a:=rx;exact AM hu I3 g ry rv fun s4 I4=>⟨σ,H4,I4,q3⟩
end
structure M2 (X:Cx) (o:Expr) (m:Str) (apos:Pos) (e f:Expr) (cpos:Pos):Prop where
 base:attributeBase o m X.env (eval o X.env)=eval o X.env
 few:((backTo cpos (starEach [e,f] X.env)).all (fun x=>!x.1)&&(backToKw cpos (keywordEach [] X.env)).all (fun x=>x.1.isSome)
  && decide (([e,f]:List Expr).length+([]:List Keyword).length+(if([]:List Keyword).isEmpty then 0 else 1)<30))=true
 line:(apos.endLine==cpos.line)=true
 trees:backTo cpos (starEach [e,f] X.env)=[(false,eval e X.env),(false,eval f X.env)]
def PH(H:Hp)(a:Addr):Prop:=(∃kvs,Rd H a (.dK kvs))\/∃kvs,Rd H a (.dT kvs)
theorem CV{X:Cx}{pins:List (Addr×Obj)}{σ:St}{H:Hp}{s:Shared}{a:Addr}(I:Inv X pins σ H s)(d:PH H a):
  s.TypeIs (.ref a) "dict" /\ (∀b,Value.ref a=.ref b->∃ob,s.heap.get? b=some ob/\ob.dict=none)/\(a==sysModules)=false:=by
 rcases d with⟨kvs,e⟩|⟨kvs,e⟩
 ·obtain⟨_,hd,vs,_,dd⟩:=yZ I.hok e
  refine⟨dd.typeIs,fun b q=>?_,hd⟩
  cases q;obtain⟨ob,_,_,h1,h2,_⟩:=dd;exact⟨ob,h1,h2.2.1⟩
 ·obtain⟨_,hd,xs,_,dd⟩:=Dq I.hok e
  refine⟨dd.typeIs,fun b q=>?_,hd⟩
  cases q;obtain⟨ob,_,_,h1,h2,_⟩:=dd;exact⟨ob,h1,h2.2.1⟩
section
variable{X:Cx}{pins:List (Addr×Obj)}{σ:St}{H:Hp}{s:Shared}{a:Addr}{y d:V}{u r:Value}{o:Option V}{A:Around}{E:Value->Shared->Prop}
theorem KG{Q:Value->Shared->Prop}(hu:A.units+1<cLine)(I:Inv X pins σ H s)(g:DGet H a y o)(ry:RelV y u)(rd:RelV d r)(h:∀w' s',Inv X pins σ H s'->RelV (o.getD d) w'->Q w' s'):
  wpAny (model X.prog X.w) A (call (.builtin "dict.get") [.ref a,u,r]) Q E s:=by
 rcases g with⟨kvs,k,e,ey,l⟩|⟨kvs,k,b,e,ey,eb,l⟩
 ·subst ey
  obtain⟨z,hd,vs,rel,dd⟩:=yZ I.hok e;refine call_meetsIn slot_dict_get dd.typeIs PySem.F.entry_dict_get (PySem.F.args_dict_get_3 _ _ _) (meets_dict_get_default (aP X.prog X.w) a (yN ry) hd r) ⟨_,dd.mapOf,h _ _ (I.tok _) ?_⟩;rw[l];exact(rel.val k).getD rd
 ·subst ey
  cases(show u=Value.ref b from ry);obtain⟨z,hd,xs,rel,dd⟩:=Dq I.hok e;refine call_meetsIn slot_dict_get dd.typeIs PySem.F.entry_dict_get (PySem.F.args_dict_get_3 _ _ _) (meetsH_dict_get_default (tupleKind (aP X.prog X.w)) a b hd r) ⟨tupleKind_room_in1 hu,k,xs,wW I.hok eb,dd,h _ _ (I.tok _) ?_⟩;rw[l];exact(rel.val k).getD rd
end
def HU(td ty tx:TE):TE:=fun σ H Q=>td σ H fun x H1=>∃a,x=.ref a/\PH H1 a/\ty σ H1 fun y H2=>tx σ H2 fun z H3=>∃o,DGet H3 a y o/\Q (o.getD z) H3
section
variable{X:Cx}{o e f:Expr}{apos cpos:Pos}{td ty tx:TE}
theorem B7(hu:X.A.units+1<cLine)(ho:PE X o td)(he:PE X e ty)(hf:PE X f tx)(m:M2 X o "get" apos e f cpos):PE X (.Call (.Attribute o "get" apos) [e,f] [] cpos) (HU td ty tx):=by
 intro pins s σ H Q I h;refine wpAny_Call_method m.base m.few m.line PySem.F.plainAttrs_dict slot_dict_get PySem.F.type_dict_get (cm (ho pins s σ H _ I h) fun u s1 ⟨x,H1,I1,rx,a,ex,d,q1⟩=>?_)
 subst ex;obtain rfl:u=Value.ref a:=rx;obtain⟨t1,t2,_⟩:=CV I1 d;refine⟨t1,t2,?_⟩;rw[m.trees];refine Calls.callWith_builtin rfl (Calls.evalArgs_plain (Calls.spliced_cons (cm (he pins s1 σ H1 _ I1 q1) fun iv s2 ⟨y,H2,I2,ry,q2⟩=>
  Calls.spliced_cons (cm (hf pins s2 σ H2 _ I2 q2) fun fv s3 ⟨z,H3,I3,rz,ov,g,q3⟩=>Calls.spliced_nil ?_))))
 exact KG hu I3 g ry rz fun w' s4 I4 rw'=>⟨_,H3,I4,rw',q3⟩
end
end L2
namespace Att
open PySem PySem.W PySem.Calls PyProof.Rows
end Att
namespace L2
open PySem PySem.Spec PyProof.Rows
end L2
namespace VL
open PySem PySem.Spec PyProof.Rows L2
open PySem.W (kas_ask kas_bin kas_count kas_place kas_rev kas_sort kas_tail3 keepIn)
open PySem.F (plain_extend_loop)
open List (ext_getElem? find?_cons getD_eq_getElem?_getD getElem?_map getElem?_set_ne getElem?_set_self length_cons length_map lookup_cons map_append map_cons mem_cons mem_cons_of_mem mem_cons_self mem_of_getElem? not_mem_nil size_toArray zipWith)
open Nat (le_refl le_succ lt_irrefl lt_of_lt_of_le lt_succ_of_lt lt_succ_self ne_of_gt ne_of_lt zero_le)
open Int (toNat_natCast)
open PySem.Heap (get?_push_of_some get?_push_size get?_update_self lt_size)
open Array (getElem?_toList length_toList toList_push)
def CN:D->Option bb
 |.int i=>some (.inl i)
 |.str x=>some (.inr x)
 |_=>none
@[simp] theorem MK(i:Int):CN (.int i)=some (.inl i):=rfl
def HZ:Option Sl->Option (List (bb×D))
 |some (.own (.d es))=>some es
 |_=>none
@[simp] theorem N5(es:List (bb×D)):HZ (some (.od es))=some es:=rfl
def hU(es:List (bb×D))(k:bb):Option D:=(es.find? fun p=>decide (p.1=k)).map (·.2)
noncomputable def oX(es:List (bb×D))(k:bb)(d:D):List (bb×D):=if(es.any fun p=>decide (p.1=k))=true then es.map (fun p=>if p.1=k then(p.1,d)else p)else es++[(k,d)]
noncomputable def tL(i:Nat)(fk fx:Dv->Option D):Dv->Option D:=fun δ=>(HZ δ[i]?).bind fun es=>(fk δ).bind fun k=>(fx δ).bind fun y=>(CN k).bind fun k=>some ((hU es k).getD y)
noncomputable def sW(i:Nat)(fk fv:Dv->Option D):Sf:=fun δ=>(fv δ).bind fun v=>(HZ δ[i]?).bind fun es=>(fk δ).bind fun k=>(CN k).bind fun k=>if es.length<sizeLine then some (.nx,δ.set i (.od (oX es k v)))else none
theorem Bz{o:Option Sl}{es:List (bb×D)}(h:HZ o=some es):o=some (.od es):=by
 cases o with
 |none=>cases h
 |some x=>
  cases x with
  |own c=>
   cases c with
   |l ds=>cases h
   |d fs=>cases h;rfl
  |un=>cases h
  |fz d=>cases h
  |fr _=>cases h
theorem pO{K:Fg}{Z:Hp}{v:V}{d:D}{k:bb}(r:Rep K Z v d)(h:CN d=some k):v=kV k:=by
 cases d with
 |int i=>cases h;exact r.int_eq
 |str x=>cases h;exact r.str_eq
 |_=>cases h
theorem kW{K:Fg}{Z:Hp}{kvs:List (bb×V)}{es:List (bb×D)}(h:nE K Z kvs es):kvs.length=es.length:=by
 have:=congrArg List.length h.1;rw[length_map,length_map]at this;exact this.symm
theorem lX{K:Fg}{Z:Hp}{kv:bb×V}{kvs:List (bb×V)}{es:List (bb×D)}(h:nE K Z (kv::kvs) es):∃d fs,es=(kv.1,d)::fs/\Rep K Z kv.2 d/\nE K Z kvs fs:=by
 obtain⟨h1,h2⟩:=h;cases es with
 |nil=>cases h1
 |cons e fs=>
  obtain⟨k,d⟩:=e;rw[map_cons,map_cons,List.cons.injEq]at h1;cases h2 with
  |cons r q=>exact⟨d,fs,by rw[<-h1.1],r,h1.2,q⟩
theorem u9{K:Fg}{Z:Hp}(k:bb):∀{kvs:List (bb×V)} {es:List (bb×D)},nE K Z kvs es->(lO kvs k=none/\hU es k=none)\/∃v d,lO kvs k=some v/\hU es k=some d/\Rep K Z v d
 |[],es,h=>by
  have:es=[]:=List.length_eq_zero_iff.mp (kW h).symm;subst this;exact .inl ⟨rfl,rfl⟩
 |kv::kvs,es,h=>by
  obtain⟨d,fs,rfl,r,q⟩:=lX h;by_cases e:kv.1=k
  ·exact .inr ⟨kv.2,d,kK e,by simp[hU,find?_cons,e],r⟩
  ·rw[kL e]
   have:hU ((kv.1,d)::fs) k=hU fs k:=by simp[hU,find?_cons,e]
   rw[this];exact u9 k q
theorem u8{K:Fg}{Z:Hp}{kvs:List (bb×V)}{es:List (bb×D)}(h:nE K Z kvs es)(k:bb){v:V}{d:D}(r:Rep K Z v d):nE K Z (iQ kvs k v) (oX es k d):=by
 have any:∀{kvs:List (bb×V)} {es:List (bb×D)},nE K Z kvs es->(kvs.any fun kv=>decide (kv.1=k))=es.any fun p=>decide (p.1=k):=by
  intro kvs
  induction kvs with
  |nil=>
   intro es h;have:es=[]:=List.length_eq_zero_iff.mp (kW h).symm;subst this;rfl
  |cons kv kvs ih=>
   intro es h;obtain⟨d,fs,rfl,_,q⟩:=lX h;rw[List.any_cons,List.any_cons,ih q]
 unfold iQ oX;rw[any h];by_cases a:(es.any fun p=>decide (p.1=k))=true
 ·rw[if_pos a,if_pos a]
  clear a any;revert es
  induction kvs with
  |nil=>
   intro es h;have:es=[]:=List.length_eq_zero_iff.mp (kW h).symm;subst this;exact⟨rfl,.nil⟩
  |cons kv kvs ih=>
   intro es h;obtain⟨d',fs,rfl,r',q⟩:=lX h;obtain⟨i1,i2⟩:=ih q;by_cases e:kv.1=k
   ·rw[map_cons,map_cons,if_pos e,if_pos e]
    exact⟨by rw[map_cons,map_cons,i1],.cons r i2⟩
   ·rw[map_cons,map_cons,if_neg e,if_neg e]
    exact⟨by rw[map_cons,map_cons,i1],.cons r' i2⟩
 ·rw[if_neg a,if_neg a]
  refine⟨by rw[map_append,map_append,h.1];rfl,?_⟩;rw[map_append,map_append];exact h.2.append (.cons r .nil)
theorem Pa{n:Nat}(h:n+64<cLine):n+1<cLine:=by omega
section
variable{X:Cx}{e b c:Expr}{p pos tpos apos cpos:Pos}{f fk fv fx:Dv->Option D}
theorem vj{K:Fg}{H₀ Z₀ Z:Hp}{δ:Dv}{σ:St}{H:Hp}(hh:Hold K H₀ Z₀ Z δ σ H){i:Nat}{es:List (bb×D)}(h:HZ δ[i]? = some es):∃a kvs,σ[i]? = some (some (V.ref a))/\H a=some (.dK kvs)/\nE K Z kvs es:=by
 obtain⟨a,kvs,h1,_,_,h4,h5⟩:=hh.od i es (Bz h);exact⟨a,kvs,h1,h4,h5⟩
theorem Dk(i:Nat){x:Str}(hu:X.A.units+1<cLine)(hb:EV X b fk)(hc:EV X c fx)(m:M2 X (.Name x p) "get" apos b c cpos)(hN:X.N[i]? = some x:=by rfl)(hv:xJ X.env.scope x:=by first|exact Or.inl rfl|exact Or.inr (Or.inl rfl)|exact Or.inr (Or.inr rfl))(hd:(x==("__debug__":Str))=false:=by decide)(hcd:(x==("__classdict__":Str))=false:=by decide):
  EV X (.Call (.Attribute (.Name x p) "get" apos) [b,c] [] cpos) (tL i fk fx):=
 PE.imp (B7 hu (eQ hN hv hd hcd) hb hc m) fun σ H Q h=>by
  obtain⟨H₀,Z₀,Z,δ,d,hh,e,k⟩:=h;obtain⟨es,e1,e⟩:=bind_some e;obtain⟨y,e2,e⟩:=bind_some e;obtain⟨z,e3,e⟩:=bind_some e;obtain⟨ky,e4,e⟩:=bind_some e;cases e;obtain⟨a,kvs,h1,h4,h5⟩:=vj hh e1;refine⟨_,h1,a,rfl,.inl ⟨kvs,.inl h4⟩,H₀,Z₀,Z,δ,y,hh,e2,fun v Z1 H1 hh1 t1 r1=>⟨H₀,Z₀,Z1,δ,z,hh1,e3,fun u Z2 H2 hh2 t2 r2=>?_⟩⟩
  obtain⟨a',kvs',g1,g4,g5⟩:=vj hh2 e1;rw[h1]at g1;cases g1;obtain rfl:=pO r1 e4;rcases u9 ky g5 with⟨q,q'⟩|⟨w,d',q1,q2,rw'⟩
  ·refine⟨none,q ▸ DGet.k g4,k u Z2 H2 hh2 (t1.trans t2) ?_⟩
   rw[q'];exact r2
  ·refine⟨some w,q1 ▸ DGet.k g4,k w Z2 H2 hh2 (t1.trans t2) ?_⟩
   rw[q2];exact rw'
theorem Es(i:Nat){x:Str}(hu:X.A.units+1<cLine)(hb:EV X b fk)(hv':EV X e fv)(hN:X.N[i]? = some x:=by rfl)(hv:xJ X.env.scope x:=by first|exact Or.inl rfl|exact Or.inr (Or.inl rfl)|exact Or.inr (Or.inr rfl))(hd:(x==("__debug__":Str))=false:=by decide)(hcd:(x==("__classdict__":Str))=false:=by decide)
  (hs:swapsWith e (some (.Subscript (.Name x p) b tpos)) pos.line X.env=pure false:=by rfl):SV X (.Assign [.Subscript (.Name x p) b tpos] e pos) (sW i fk fv):=
 PS.imp (EW hu (eQ hN hv hd hcd) hb hv' hs) fun D σ H h=>by
  obtain⟨H₀,Z₀,Z,δ,r,hh,e,k⟩:=h;obtain⟨v,e1,e⟩:=bind_some e;obtain⟨es,e2,e⟩:=bind_some e;obtain⟨y,e3,e⟩:=bind_some e;obtain⟨ky,e4,e⟩:=bind_some e;obtain⟨hl,e5⟩:=eB e;cases e5;refine⟨H₀,Z₀,Z,δ,v,hh,e1,fun w Z1 H1 hh1 t1 r1=>?_⟩
  obtain⟨a,kvs,h1,h4,h5⟩:=vj hh1 e2;refine⟨_,h1,H₀,Z₀,Z1,δ,y,hh1,e3,fun u Z2 H2 hh2 t2 r2=>?_⟩
  obtain⟨a',kvs',g1,g4,g5⟩:=vj hh2 e2;rw[h1]at g1;cases g1;obtain rfl:=pO r2 e4;exact⟨a,_,rfl,DPut.k g4 (by rw[kW g5];exact hl),k σ _ Z2 (hh2.chgW (Bz e2) h1 (.dct (u8 g5 ky (r1.same t2)))) (t1.trans t2)⟩
end
def xb(x:Int):List Int->List Int
 |[]=>[x]
 |y::r=>if x<=y then x::y::r else y::xb x r
def dB:List Int->List Int
 |[]=>[]
 |x::r=>xb x (dB r)
theorem mr(x:Int):∀l:List Int,(xb x l).Perm (x::l)
 |[]=>.refl _
 |y::r=>by
  unfold xb;split
  ·exact .refl _
  ·exact((mr x r).cons y).trans (.swap x y r)
theorem gY:∀l:List Int,(dB l).Perm l
 |[]=>.refl _
 |x::r=>(mr x _).trans ((gY r).cons x)
theorem yQ(x:Int):∀l:List Int,l.Pairwise (· <= ·)->(xb x l).Pairwise (· <= ·)
 |[],_=>by simp[xb]
 |y::r,h=>by
  obtain⟨h1,h2⟩:=List.pairwise_cons.mp h;unfold xb;split
  ·rename_i hx
   exact List.pairwise_cons.mpr ⟨fun z hz=>by rcases List.mem_cons.mp hz with rfl|hz;exact hx;exact Int.le_trans hx (h1 z hz),h⟩
  ·rename_i hx
   refine List.pairwise_cons.mpr ⟨fun z hz=>?_,yQ x r h2⟩
   rcases List.mem_cons.mp ((mr x r).mem_iff.mp hz)with rfl|hz
   ·omega
   ·exact h1 z hz
theorem mo:∀l:List Int,(dB l).Pairwise (· <= ·)
 |[]=>.nil
 |x::r=>yQ x _ (mo r)
theorem oG:∀{a b:List Int},a.Perm b->a.Pairwise (· <= ·)->b.Pairwise (· <= ·)->a=b
 |[],b,p,_,_=>(List.nil_perm.mp p).symm
 |x::a,b,p,ha,hb=>by
  cases b with
  |nil=>exact absurd (List.perm_nil.mp p) (by simp)
  |cons y b=>
   obtain⟨ha1,ha2⟩:=List.pairwise_cons.mp ha;obtain⟨hb1,hb2⟩:=List.pairwise_cons.mp hb;have e:x=y:=by
    have h1:x∈y::b:=p.mem_iff.mp mem_cons_self;have h2:y∈x::a:=p.mem_iff.mpr mem_cons_self;rcases List.mem_cons.mp h1 with h1|h1
    ·exact h1
    ·rcases List.mem_cons.mp h2 with h2|h2
     ·exact h2.symm
     ·exact Int.le_antisymm (ha1 y h2) (hb1 x h1)
   subst e;rw[oG (List.perm_cons x |>.mp p) ha2 hb2]
theorem sd{a b:List Int}(p:a.Perm b)(h:a.Pairwise (· <= ·)):a=dB b:=oG (p.trans (gY b).symm) h (mo b)
def OC:bb->Option Int
 |.inl i=>some i
 |.inr _=>none
noncomputable def vB:List (bb×D)->Option (List Int)
 |[]=>some []
 |p::r=>(OC p.1).bind fun i=>(vB r).bind fun l=>some (i::l)
theorem pM:∀{es:List (bb×D)} {l:List Int},vB es=some l->es.map (·.1)=l.map Sum.inl
 |[],_,h=>by cases h;rfl
 | (.inl i,d)::r,l,h=>by
  obtain⟨m,hm,e⟩:=bind_some h;cases hm;obtain⟨l',h',e⟩:=bind_some e;cases e;rw[map_cons,pM h'];rfl
 | (.inr x,d)::r,l,h=>by cases h
theorem ie:∀{out:List Value} {l:List Int},IntsAre out l->Vals (l.map V.int) out
 |_,_,.nil=>.nil
 |_,_,.cons n t r=>.cons ⟨t,rfl⟩ (ie r)
theorem yM{κ:Type}:∀{kvs:List (κ × V)} {vs:List (κ × Value)},KV kvs vs->vs.map (·.1)=kvs.map (·.1)
 |_,_,.nil=>rfl
 |_,_,.cons r q=>by rw[map_cons,map_cons,yM q,r.1]
theorem bD{h:Heap}{a b:Addr}{f:Obj->Obj}{o:Obj}(hab:b≠a)(e:h.get? b=some o):(h.update a f).get? b=some o:=(Heap.get?_update_other _ _ (Ne.symm hab)).trans e
abbrev xI(h:Heap)(z TI TO a:Addr)(f:Bool):Prop:=
 h.get? z=some { cls:=.type "zip",dict:=none,data:=.fields #[rawInt a,.bool f,.bool false,.ref TI,.ref TO],slots:=#[] }
section
variable{prog:Program}{w:World}{A:Around}{E:Value->Shared->Prop}{s:Shared}
theorem rA{z TI TO a:Addr}{f:Bool}{oa:Obj}{Q:Bool->Shared->Prop}(hz:xI s.heap z TI TO a f)(ha:s.heap.get? a=some oa)
  (hQ:∀h',xI h' z TI TO a true->Heap.SameBut z s.heap h'->Q false { s with heap:=h' }):wpAny (model prog w) A (Builtin.SmallTypes.ownedTupleIsFree (.ref z)) Q E s:=by
 unfold Builtin.SmallTypes.ownedTupleIsFree;refine wpAny_bind (wpAny_field hz rfl (x:=rawInt a) rfl ?_);show wpAny _ _ (loadIfAlive ((a:Int).toNat) >>= _) _ _ _;rw[toNat_natCast];refine wpAny_bind (PySem.W.kdx_alive ha ?_);simp only[Option.isNone_some,Bool.false_eq_true,if_false];refine wpAny_bind (wpAny_field hz rfl (x:=.bool f) rfl ?_);cases f with
 |true=>
  rw[if_neg (show ¬((Value.bool true != Value.bool true)=true)from Bool.false_ne_true)];exact wpAny_pure (hQ s.heap hz (Heap.SameBut.refl _ _))
 |false=>
  rw[if_pos (show(Value.bool false != Value.bool true)=true from rfl)];exact wpAny_bind (wpAny_setField_rec hz (by simp) fun h₃ he₃ hs₃=>wpAny_pure (hQ h₃ he₃ hs₃))
theorem zA{z TI TO i1 i2 l1 l2 a:Addr}{f:Bool}{oa:Obj}{k1 k2:Nat}{xs ys:Array Value}{x y:Value}{Q:Value->Shared->Prop}(D:ZipApart z TI TO i1 i2 l1 l2)
  (hz:xI s.heap z TI TO a f) (ha:s.heap.get? a=some oa) (hTI:IsPair s.heap TI (.ref i1) (.ref i2))
  (h1:s.heap.IsListIter i1 l1 k1) (h2:s.heap.IsListIter i2 l2 k2) (hl1:s.heap.IsList l1 xs) (hl2:s.heap.IsList l2 ys) (hx:xs[k1]? = some x) (hy:ys[k2]? = some y)
  (hQ:∀h',xI h' z TI TO a true->h'.IsListIter i1 l1 (k1+1)->h'.IsListIter i2 l2 (k2+1)->IsPair h' s.heap.objs.size x y->h'.objs.size=s.heap.objs.size+1 ->
   (∀c o,c≠z->c≠i1->c≠i2->s.heap.get? c=some o->h'.get? c=some o)->Q (.ref s.heap.objs.size) { s with heap:=h' }) :
  wpAny (model prog w) A (Builtin.«zip.__next__» ⟨[.ref z],[]⟩) (fun fin s'=>∃v,fin=.done (.ret v)/\Q v s') E s:=by
 show wpAny _ _ (field (.ref z) 2 >>= _) _ _ _;refine wpAny_bind (wpAny_field hz rfl (x:=.bool false) rfl ?_);show wpAny _ _ (field (.ref z) 3 >>= _) _ _ _;refine wpAny_bind (wpAny_field hz rfl (x:=.ref TI) rfl ?_);refine wpAny_bind (wpAny_seqItems hTI rfl ?_);show wpAny _ _ (Builtin.SmallTypes.ownedTupleIsFree (.ref z) >>= _) _ _ _;refine wpAny_bind (rA hz ha fun h₁ hz₁ hs₁=>?_);simp only[Bool.false_eq_true,if_false];refine wpAny_bind ?_;simp only[<-Array.forIn_toList,List.forIn_cons,List.forIn_nil];refine wpAny_bind (wpAny_bind (wpAny_holding ?_));show wpAny _ _ (Builtin.SmallTypes.nextOf (.ref i1) >>= _) _ _ _;refine wpAny_bind (wpAny_nextOf_list_item (h1.extBut hs₁.extBut D.i1z) (hl1.extBut hs₁.extBut D.l1z) hx fun h₂ h1₂ hs₂=>wpAny_pure ?_)
 refine wpAny_pure ?_;refine wpAny_bind (wpAny_bind (wpAny_holding ?_));show wpAny _ _ (Builtin.SmallTypes.nextOf (.ref i2) >>= _) _ _ _;refine wpAny_bind (wpAny_nextOf_list_item ((h2.extBut hs₁.extBut D.i2z).extBut hs₂.extBut D.i12.symm) ((hl2.extBut hs₁.extBut D.l2z).extBut hs₂.extBut D.l2i1) hy fun h₄ h2₄ hs₄=>wpAny_pure ?_)
 refine wpAny_pure (wpAny_pure ?_);show wpAny _ _ (newTuple [x,y] >>= _) _ _ _;refine wpAny_bind (wpAny_newTuple ?_);have hsz:h₄.objs.size=s.heap.objs.size:=by rw[hs₄.1,hs₂.1,hs₁.1]
 have hz₄:xI h₄ z TI TO a true:=hs₄.extBut _ _ D.i2z.symm (hs₂.extBut _ _ D.i1z.symm hz₁);have h1₄:h₄.IsListIter i1 l1 (k1+1):=h1₂.extBut hs₄.extBut D.i12;refine wpAny_pure ⟨_,rfl,?_⟩;show Q (.ref h₄.objs.size) _;rw[hsz];refine hQ _ (get?_push_of_some _ hz₄) (h1₄.at fun o e=>get?_push_of_some _ e) (h2₄.at fun o e=>get?_push_of_some _ e) ?_ (by rw[Heap.size_push,hsz]) fun c o c1 c2 c3 e=>get?_push_of_some _ (hs₄.extBut _ _ c3 (hs₂.extBut _ _ c2 (hs₁.extBut _ _ c1 e)))
 rw[<-hsz];exact get?_push_size _ rfl
theorem A6{z TI TO i1 i2 l1 l2 a:Addr}{f:Bool}{oa:Obj}{k1 k2:Nat}{xs ys:Array Value}{Q:Fin->Shared->Prop}(hh:A.handled=none)(D:ZipApart z TI TO i1 i2 l1 l2)
  (hz:xI s.heap z TI TO a f) (ha:s.heap.get? a=some oa) (hTI:IsPair s.heap TI (.ref i1) (.ref i2))
  (h1:s.heap.IsListIter i1 l1 k1) (h2:s.heap.IsListIter i2 l2 k2) (hl1:s.heap.IsList l1 xs) (hl2:s.heap.IsList l2 ys) (hend:xs[k1]? = none\/ys[k2]? = none)
  (hE:∀h' e,(∀c o,c≠z->c≠i1->c≠i2->s.heap.get? c=some o->h'.get? c=some o)->(∃o,h'.get? e=some o/\o.cls=.type "StopIteration")->E (.ref e) { s with heap:=h' }) :
  wpAny (model prog w) A (Builtin.«zip.__next__» ⟨[.ref z],[]⟩) Q E s:=by
 show wpAny _ _ (field (.ref z) 2 >>= _) _ _ _;refine wpAny_bind (wpAny_field hz rfl (x:=.bool false) rfl ?_);show wpAny _ _ (field (.ref z) 3 >>= _) _ _ _;refine wpAny_bind (wpAny_field hz rfl (x:=.ref TI) rfl ?_);refine wpAny_bind (wpAny_seqItems hTI rfl ?_);show wpAny _ _ (Builtin.SmallTypes.ownedTupleIsFree (.ref z) >>= _) _ _ _;refine wpAny_bind (rA hz ha fun h₁ hz₁ hs₁=>?_);simp only[Bool.false_eq_true,if_false];refine wpAny_bind ?_;simp only[<-Array.forIn_toList,List.forIn_cons,List.forIn_nil];refine wpAny_bind (wpAny_bind (wpAny_holding ?_));show wpAny _ _ (Builtin.SmallTypes.nextOf (.ref i1) >>= _) _ _ _;cases hx:xs[k1]? with
 |none=>
  exact wpAny_bind (wpAny_nextOf_list_end hh (h1.extBut hs₁.extBut D.i1z) (hl1.extBut hs₁.extBut D.l1z) hx fun h₂ e hs₂ he=>hE h₂ e (fun c o c1 c2 _ x=>hs₂ _ _ c2 (hs₁.extBut _ _ c1 x)) he)
 |some x=>
  have hy:ys[k2]? = none:=by rcases hend with h|h;rw[hx]at h;cases h;exact h
  refine wpAny_bind (wpAny_nextOf_list_item (h1.extBut hs₁.extBut D.i1z) (hl1.extBut hs₁.extBut D.l1z) hx fun h₂ h1₂ hs₂=>wpAny_pure ?_)
  refine wpAny_pure ?_;refine wpAny_bind (wpAny_bind (wpAny_holding ?_));show wpAny _ _ (Builtin.SmallTypes.nextOf (.ref i2) >>= _) _ _ _;exact wpAny_bind (wpAny_nextOf_list_end hh ((h2.extBut hs₁.extBut D.i2z).extBut hs₂.extBut D.i12.symm) ((hl2.extBut hs₁.extBut D.l2z).extBut hs₂.extBut D.l2i1) hy fun h₄ e hs₄ he=>hE h₄ e (fun c o c1 c2 c3 x=>hs₄ _ _ c3 (hs₂.extBut _ _ c2 (hs₁.extBut _ _ c1 x))) he)
def NG(h:Heap)(z TI TO i1 i2 S:Addr)(i:Nat):Prop:=(i=0/\IsZip h z TI TO .none/\∃a b,IsPair h TO a b)\/∃a f oa,xI h z TI TO a f/\h.get? a=some oa/\a≠z/\a≠S/\a≠i1/\a≠i2
def sE(h:Heap)(TI i1 i2 l1 l2:Addr)(i:Nat)(xs ys:Array Value):Prop:=IsPair h TI (.ref i1) (.ref i2)/\h.IsListIter i1 l1 i/\h.IsListIter i2 l2 i/\h.IsList l1 xs/\h.IsList l2 ys
theorem A4{z TI TO i1 i2 l1 l2 S:Addr}{i:Nat}{xs ys:Array Value}{x y:Value}{Q:Option Value->Shared->Prop}(D:ZipApart z TI TO i1 i2 l1 l2)(hst:NG s.heap z TI TO i1 i2 S i)(hS:S<s.heap.objs.size)(hr:sE s.heap TI i1 i2 l1 l2 i xs ys)
  (hx:xs[i]? = some x) (hy:ys[i]? = some y)
  (hQ:∀h',NG h' z TI TO i1 i2 S (i+1)->sE h' TI i1 i2 l1 l2 (i+1) xs ys->IsPair h' s.heap.objs.size x y->h'.objs.size=s.heap.objs.size+1 ->
   (∀c o,c≠z->c≠TO->c≠i1->c≠i2->s.heap.get? c=some o->h'.get? c=some o)->Q (some (.ref s.heap.objs.size)) { s with heap:=h' }) :
  wpAny (model prog w) A (pyNext (.ref z)) Q E s:=by
 obtain⟨hTI,h1,h2,hl1,hl2⟩:=hr;have g1:i1<s.heap.objs.size:=by obtain⟨_,e,_⟩:=h1;exact lt_size e
 have g2:i2<s.heap.objs.size:=by obtain⟨_,e,_⟩:=h2;exact lt_size e
 rcases hst with⟨rfl,hz,a,b,hTO⟩|⟨a,f,oa,hz,ha,haz,haS,ha1,ha2⟩
 ·exact wpAny_pyNext_zip_item D hz hTI hTO h1 h2 hl1 hl2 hx hy fun h' a1 a2 a3 a4 a5 a6 hk=>hQ h' (.inr ⟨s.heap.objs.size,false,_,a1,a5,ne_of_gt (lt_size hz),ne_of_gt hS,ne_of_gt g1,ne_of_gt g2⟩)
   ⟨hk _ _ D.TIz D.TITO D.TIi1 D.TIi2 hTI,a3,a4,hl1.at fun o e=>hk _ o D.l1z D.l1TO D.l1i1 D.l1i2 e,hl2.at fun o e=>hk _ o D.l2z D.l2TO D.l2i1 D.l2i2 e⟩ a5 a6 hk
 ·have hT:s.TypeIs (.ref z) "zip":=⟨_,hz,rfl⟩
  unfold pyNext;exact wpAny_bind (wpAny_attempt (wpAny_callSpecial?_slot (name:=Str.ofString "__next__") hT F.slot_zip_next
   (wpAny_call_entry F.slot_zip_next hT F.entry_zip_next
    (zA D hz ha hTI h1 h2 hl1 hl2 hx hy fun h' a1 a3 a4 a5 a6 hk=>wpAny_pure (hQ h' (.inr ⟨a,true,oa,a1,hk a oa haz ha1 ha2 ha,haz,haS,ha1,ha2⟩)
     ⟨hk _ _ D.TIz D.TIi1 D.TIi2 hTI,a3,a4,hl1.at fun o e=>hk _ o D.l1z D.l1i1 D.l1i2 e,hl2.at fun o e=>hk _ o D.l2z D.l2i1 D.l2i2 e⟩ a5 a6 fun c o c1 _ c3 c4 e=>hk c o c1 c3 c4 e)) (F.args_zip_next_1 _))))
theorem A5{z TI TO i1 i2 l1 l2 S:Addr}{i:Nat}{xs ys:Array Value}{Q:Option Value->Shared->Prop}(hh:A.handled=none)(D:ZipApart z TI TO i1 i2 l1 l2)(hst:NG s.heap z TI TO i1 i2 S i)(hr:sE s.heap TI i1 i2 l1 l2 i xs ys)
  (hend:xs[i]? = none\/ys[i]? = none)
  (hQ:∀h',(∀c o,c≠z->c≠TO->c≠i1->c≠i2->s.heap.get? c=some o->h'.get? c=some o)->Q none { s with heap:=h' }):wpAny (model prog w) A (pyNext (.ref z)) Q E s:=by
 obtain⟨hTI,h1,h2,hl1,hl2⟩:=hr;rcases hst with⟨rfl,hz,a,b,hTO⟩|⟨a,f,oa,hz,ha,haz,haS,_⟩
 ·exact wpAny_pyNext_zip_end hh D hz hTI hTO h1 h2 hl1 hl2 hend hQ
 ·have hT:s.TypeIs (.ref z) "zip":=⟨_,hz,rfl⟩
  unfold pyNext;refine wpAny_bind (wpAny_attempt (wpAny_callSpecial?_slot (name:=Str.ofString "__next__") hT F.slot_zip_next
   (wpAny_call_entry F.slot_zip_next hT F.entry_zip_next (A6 hh D hz ha hTI h1 h2 hl1 hl2 hend fun h' e hk he=>?_) (F.args_zip_next_1 _))))
  obtain⟨o,ho,hc⟩:=he;refine wpAny_bind (wpAny_isInstance (T:="StopIteration") (b:=true) ⟨o,ho,hc⟩ isSubtype_stop ?_);exact wpAny_pure (hQ _ fun c o c1 _ c3 c4 e=>hk c o c1 c3 c4 e)
structure ZG (xs ys:Array Value) (lo:Addr) (h:Heap) (as:List Addr):Prop where
 above:∀a∈as,lo<=a
 rise:as.Pairwise (· < ·)
 pairs:∀(j:Nat) (a:Addr),as[j]? = some a->∃x y,xs[j]? = some x/\ys[j]? = some y/\IsPair h a x y
theorem A7{R:Result->Shared->Prop}{z TI TO i1 i2 l1 l2 S lo:Addr}{xs ys:Array Value}(hh:A.handled=none)(D:ZipApart z TI TO i1 i2 l1 l2)(hSz:S≠z)(hSI:S≠TI)(hSO:S≠TO)(hS1:S≠i1)(hS2:S≠i2)(hSl1:S≠l1)(hSl2:S≠l2)
  (hlo:z<lo/\TO<lo/\i1<lo/\i2<lo/\S<lo) (hn:min xs.size ys.size<=sizeLine) (res:Value) {h₁:Heap}
  (hR:∀h' acc c as,(∀b o,b≠S->b≠z->b≠TO->b≠i1->b≠i2->h₁.get? b=some o->h'.get? b=some o)->h'.get? S=some { cls:=.type "list",dict:=none,data:=.seq acc c,slots:=#[] }->as.length=min xs.size ys.size->ZG xs ys lo h' as ->
   acc.toList=as.map Value.ref->R (.ok (.ret res)) { s with heap:=h' }) :
  ∀(k i:Nat) (h:Heap) (c:Nat) (acc:Array Value) (as:List Addr),min xs.size ys.size-i=k->i<=min xs.size ys.size->NG h z TI TO i1 i2 S i->sE h TI i1 i2 l1 l2 i xs ys->(∀b o,b≠S->b≠z->b≠TO->b≠i1->b≠i2->h₁.get? b=some o->h.get? b=some o) ->
   h.get? S=some { cls:=.type "list",dict:=none,data:=.seq acc c,slots:=#[] }->acc.toList=as.map Value.ref->as.length=i->ZG xs ys lo h as->lo<=h.objs.size ->
   codeAny (model prog w) A (.builtin "list.extend.loop" ⟨[.ref S,.ref z,res],[]⟩) R { s with heap:=h }:=by
 obtain⟨gz,gO,g1,g2,gS⟩:=hlo;intro k
 induction k with
 |zero=>
  intro i h c acc as hk hi hst hr hkeep hS hacc hal hG hIs;refine codeAny_builtin PySem.F.entry_extend_loop ?_;rw[Around.under_plainId plain_extend_loop _];show wpAny _ A.in1 (pyNext (.ref z) >>= _) _ _ _;refine wpAny_bind (A5 (s:={ s with heap:=h }) (A:=A.in1) hh D hst hr ?_ fun h' he=>?_)
  ·rcases Nat.le_total xs.size ys.size with q|q
   ·exact .inl (Array.getElem?_eq_none (by omega))
   ·exact .inr (Array.getElem?_eq_none (by omega))
  refine wpAny_pure (hR h' acc c as (fun b o h1 h2 h3 h4 h5 e=>he b o h2 h3 h4 h5 (hkeep b o h1 h2 h3 h4 h5 e)) (he S _ hSz hSO hS1 hS2 hS) (by omega) ⟨hG.above,hG.rise,fun j a hj=>?_⟩ hacc)
  obtain⟨x,y,e1,e2,e3⟩:=hG.pairs j a hj;have ga:=hG.above a (mem_of_getElem? hj);exact⟨x,y,e1,e2,he a _ (ne_of_gt (lt_of_lt_of_le gz ga)) (ne_of_gt (lt_of_lt_of_le gO ga)) (ne_of_gt (lt_of_lt_of_le g1 ga)) (ne_of_gt (lt_of_lt_of_le g2 ga)) e3⟩
 |succ k ih=>
  intro i h c acc as hk hi hst hr hkeep hS hacc hal hG hIs;have hlt:i<min xs.size ys.size:=by omega
  have hix:i<xs.size:=lt_of_lt_of_le hlt (Nat.min_le_left ..);have hiy:i<ys.size:=lt_of_lt_of_le hlt (Nat.min_le_right ..);have hsz:acc.size=i:=by rw[<-length_toList,hacc,length_map,hal]
  refine codeAny_builtin PySem.F.entry_extend_loop ?_;rw[Around.under_plainId plain_extend_loop _];show wpAny _ A.in1 (pyNext (.ref z) >>= _) _ _ _;refine wpAny_bind (A4 (s:={ s with heap:=h }) D hst (lt_size hS) hr (Array.getElem?_eq_getElem hix) (Array.getElem?_eq_getElem hiy) fun h' hst' hr' ht hz hkp=>?_)
  dsimp only at ht hz hkp ⊢;have hS':=hkp S _ hSz hSO hS1 hS2 hS;have up:∀b o,b≠S->h'.get? b=some o->(h'.update S (Obj.mapSeq (·.push (Value.ref h.objs.size)))).get? b=some o:=fun b o hb e=>bD hb e
  have hSl:S<h.objs.size:=lt_size hS;show wpAny _ A.in1 (updateSeq S (·.push (Value.ref h.objs.size)) >>= _) _ _ _;refine wpAny_bind ?_;refine wpAny_updateSeq hS' rfl (wpAny_pure ⟨plainId_quiet plain_extend_loop _,ih (i+1) _ _ (acc.push (Value.ref h.objs.size)) (as++[h.objs.size]) (by omega) hlt ?_ ?_
   (fun b o h1 h2 h3 h4 h5 e=>up b o h1 (hkp b o h2 h3 h4 h5 (hkeep b o h1 h2 h3 h4 h5 e))) (get?_update_self _ hS' rfl) (by rw[toList_push,hacc,map_append];rfl) (by rw[List.length_append,hal];rfl) ⟨?_,?_,?_⟩ ?_⟩) (by rw[hsz];omega) (by show(acc.push (Value.ref h.objs.size)).size<=sizeLine+1;rw[Array.size_push,hsz];omega)
  ·rcases hst' with⟨e,_⟩|⟨a,f,oa,q1,q2,q3,q4,q5,q6⟩
   ·omega
   ·exact .inr ⟨a,f,oa,up _ _ hSz.symm q1,up _ _ q4 q2,q3,q4,q5,q6⟩
  ·obtain⟨r1,r2,r3,r4,r5⟩:=hr'
   exact⟨up _ _ hSI.symm r1,r2.at fun o e=>up _ _ hS1.symm e,r3.at fun o e=>up _ _ hS2.symm e,r4.at fun o e=>up _ _ hSl1.symm e,r5.at fun o e=>up _ _ hSl2.symm e⟩
  ·intro a ha
   rcases List.mem_append.mp ha with ha|ha
   ·exact hG.above a ha
   ·rw[List.mem_singleton.mp ha];exact hIs
  ·refine List.pairwise_append.mpr ⟨hG.rise,List.pairwise_singleton _ _,fun a ha b hb=>?_⟩
   rw[List.mem_singleton.mp hb];obtain⟨j,hj⟩:=List.mem_iff_getElem?.mp ha;obtain⟨_,_,_,_,e⟩:=hG.pairs j a hj;exact lt_size e
  ·intro j b hj
   rcases Nat.lt_trichotomy j as.length with h1|h1|h1
   ·rw[List.getElem?_append_left h1]at hj
    obtain⟨x,y,e1,e2,e3⟩:=hG.pairs j b hj;have ga:=hG.above b (mem_of_getElem? hj);exact⟨x,y,e1,e2,up b _ (ne_of_gt (lt_of_lt_of_le gS ga)) (hkp b _ (ne_of_gt (lt_of_lt_of_le gz ga)) (ne_of_gt (lt_of_lt_of_le gO ga)) (ne_of_gt (lt_of_lt_of_le g1 ga)) (ne_of_gt (lt_of_lt_of_le g2 ga)) e3)⟩
   ·subst h1
    have hb:h.objs.size=b:=by simpa using hj
    subst hb;exact⟨_,_,by rw[hal];exact Array.getElem?_eq_getElem hix,by rw[hal];exact Array.getElem?_eq_getElem hiy,up _ _ (ne_of_gt hSl) ht⟩
   ·have hnone:(as++[h.objs.size])[j]? = none:=List.getElem?_eq_none (by rw[List.length_append,List.length_singleton];omega)
    rw[hnone]at hj;cases hj
  ·have e:(h'.update S (Obj.mapSeq (·.push (Value.ref h.objs.size)))).get? h.objs.size=_:=up _ _ (ne_of_gt hSl) ht
   exact Nat.le_of_lt (Nat.lt_of_le_of_lt hIs (lt_size e))
end
noncomputable def uv:List D->Option D
 |[.list a,.list b]=>some (.list (zipWith (fun x y=>.tuple [x,y]) a b))
 |_=>none
@[simp] noncomputable def Oi(fs:Dv->Option (List D))(g:List D->Option D):Dv->Option D:=fun δ=>(fs δ).bind g
@[simp] theorem DY(a b:List D):uv [.list a,.list b]=some (.list (zipWith (fun x y=>.tuple [x,y]) a b)):=rfl
theorem Ak:typeLookup (.type "zip") "__len__" = pure none:=by rw[typeLookup_type,builtinLookup_eq_fast];kernel_rfl
theorem wL:typeLookup (.type "zip") "__length_hint__" = pure none:=by rw[typeLookup_type,builtinLookup_eq_fast];kernel_rfl
section
variable{prog:Program}{w:World}{A:Around}{s:Shared}{R:Result->Shared->Prop}{z TI TO i1 i2 l1 l2 S lo:Addr}{xs ys:Array Value}
theorem xn(hh:A.handled=none)(D:ZipApart z TI TO i1 i2 l1 l2)(hSz:S≠z)(hSI:S≠TI)(hSO:S≠TO)(hS1:S≠i1)(hS2:S≠i2)(hSl1:S≠l1)(hSl2:S≠l2)
  (hlo:z<lo/\TO<lo/\i1<lo/\i2<lo/\S<lo) (hn:min xs.size ys.size<=sizeLine) (res:Value) (c₀:Nat) (hz:IsZip s.heap z TI TO .none) (hTO:∃a b,IsPair s.heap TO a b) (hr:sE s.heap TI i1 i2 l1 l2 0 xs ys)
  (hS:s.heap.get? S=some { cls:=.type "list",data:=.seq #[] c₀ }) (hle:lo<=s.heap.objs.size)
  (hR:∀h' acc c as,(∀b o,b≠S->b≠z->b≠TO->b≠i1->b≠i2->s.heap.get? b=some o->h'.get? b=some o)->h'.get? S=some { cls:=.type "list",dict:=none,data:=.seq acc c,slots:=#[] }->as.length=min xs.size ys.size->ZG xs ys lo h' as ->
   acc.toList=as.map Value.ref->R (.ok (.ret res)) { s with heap:=h' }) :
  wpAny (model prog w) A.in1 (Builtin.List.listExtendWith (.ref S) (.ref z) res)
   (fun fin s'=>match fin with|.done f=>R (.ok f) s' | .again c'=>c'.quiet=true/\codeAny (model prog w) A c' R s') (fun e s'=>R (.error e) s') s:=by
 have hT:s.TypeIs (.ref z) "zip":=⟨_,hz,rfl⟩;unfold Builtin.List.listExtendWith;refine wpAny_bind (wpAny_typeOf hT ?_);have h1:Builtin.List.listSameRef (.ref S) (.ref z)=false:=by simp[Builtin.List.listSameRef,hSz]
 rw[if_neg (by rw[h1];decide)];refine wpAny_bind (wpAny_pyIter_zip hz ?_);refine wpAny_bind (wpAny_holding ?_);unfold Builtin.List.listLengthHint;refine wpAny_bind (wpAny_specialOf hT Ak ?_);show wpAny _ A.in1 (specialOf (Value.ref z) (Str.ofString "__length_hint__") >>= _) _ _ _;refine wpAny_bind (wpAny_specialOf hT wL ?_);refine wpAny_pure ?_;rw[if_pos (by simp)];refine wpAny_bind (wpAny_rule ?_);refine wpAny_bind ?_;show wpAny _ _ (updateSeq S (·.push .none) >>= fun _=>updateSeq S (·.pop)) _ _ _
 refine wpAny_bind (wpAny_updateSeq hS rfl ?_);have hS₂:=get?_update_self (Obj.mapSeq (·.push Value.none)) hS rfl;refine wpAny_updateSeq (hz:=by seq_fits) hS₂ rfl ?_;have hS₃:=get?_update_self (Obj.mapSeq (·.pop)) hS₂ rfl;have up:∀b o,b≠S->s.heap.get? b=some o->((s.heap.update S (Obj.mapSeq (·.push Value.none))).update S (Obj.mapSeq (·.pop))).get? b=some o:=fun b o hb e=>bD hb (bD hb e)
 obtain⟨r1,r2,r3,r4,r5⟩:=hr;obtain⟨ta,tb,hTO⟩:=hTO;refine wpAny_pure ⟨plainId_quiet plain_extend_loop _,A7 (h₁:=s.heap) hh D hSz hSI hSO hS1 hS2 hSl1 hSl2 hlo hn res hR (min xs.size ys.size) 0 _ _ #[] [] rfl (zero_le _)
  (.inl ⟨rfl,up _ _ hSz.symm hz,ta,tb,up _ _ hSO.symm hTO⟩) ⟨up _ _ hSI.symm r1,r2.at fun o e=>up _ _ hS1.symm e,r3.at fun o e=>up _ _ hS2.symm e,r4.at fun o e=>up _ _ hSl1.symm e,r5.at fun o e=>up _ _ hSl2.symm e⟩
  (fun b o hb _ _ _ _ e=>up b o hb e) hS₃ rfl rfl ⟨fun a h=>(by cases h),.nil,fun j a h=>(by simp at h)⟩ (by rw[Heap.size_update,Heap.size_update];exact hle)⟩
end
section
variable{prog:Program}{w:World}{A:Around}{E:Value->Shared->Prop}{s:Shared}{z TI TO i1 i2 l1 l2:Addr}{xs ys:Array Value}
theorem rf{Q:Value->Shared->Prop}(hh:A.handled=none)(D:ZipApart z TI TO i1 i2 l1 l2)(hn:min xs.size ys.size<=sizeLine)(hz:IsZip s.heap z TI TO .none)(hTO:∃a b,IsPair s.heap TO a b)(hr:sE s.heap TI i1 i2 l1 l2 0 xs ys)
  (hQ:∀h' acc c as,(∀b o,b≠z->b≠TO->b≠i1->b≠i2->s.heap.get? b=some o->h'.get? b=some o)->h'.get? s.heap.objs.size=some { cls:=.type "list",dict:=none,data:=.seq acc c,slots:=#[] }->as.length=min xs.size ys.size->ZG xs ys (s.heap.objs.size+1) h' as ->
   acc.toList=as.map Value.ref->Q (.ref s.heap.objs.size) { s with heap:=h' }) :
  wpAny (model prog w) A (call (.type "list") [.ref z]) Q E s:=by
 obtain⟨ta,tb,hTO⟩:=hTO;obtain⟨r1,r2,r3,r4,r5⟩:=hr;have gz:=lt_size hz;have gO:=lt_size hTO;have gI:=lt_size r1;have g1:i1<s.heap.objs.size:=by obtain⟨_,e,_⟩:=r2;exact lt_size e
 have g2:i2<s.heap.objs.size:=by obtain⟨_,e,_⟩:=r3;exact lt_size e
 have gl1:l1<s.heap.objs.size:=by obtain⟨_,e,_⟩:=r4;exact lt_size e
 have gl2:l2<s.heap.objs.size:=by obtain⟨_,e,_⟩:=r5;exact lt_size e
 refine callType_codes (Q₁:=fun obj s₁=>obj=.ref s.heap.objs.size/\s₁ = { s with heap:=s.heap.push { cls:=.type "list",data:=.seq #[] } }) F.called_list (F.typeCall_list_1 _) F.entry_list_init
  (code_list_new _ ⟨rfl,rfl⟩) fun obj s₁ h₁=>?_
 obtain⟨rfl,rfl⟩:=h₁;have hS:(s.heap.push { cls:=.type "list",data:=.seq #[] }).get? s.heap.objs.size=some { cls:=.type "list",data:=.seq #[] }:=get?_push_size _ rfl;refine⟨⟨_,hS,rfl⟩,F.args_list_init_2 _ _,?_⟩;show wpAny _ A.in1.in1 (do let old <-Builtin.List.listItems (.ref s.heap.objs.size);Builtin.List.listUpdate (.ref s.heap.objs.size) (fun _=>#[]);letGo old.toList.reverse;Builtin.List.listExtendWith (.ref s.heap.objs.size) (.ref z) .none) _ _ _;refine wpAny_bind ?_;unfold Builtin.List.listItems;refine wpAny_bind (wpAny_seqItems hS rfl (wpAny_pure ?_));show wpAny _ A.in1.in1 (updateSeq s.heap.objs.size (fun _=>#[]) >>= fun _=>letGo (#[]:Array Value).toList.reverse >>= fun _=>Builtin.List.listExtendWith (.ref s.heap.objs.size) (.ref z) .none) _ _ _
 refine wpAny_bind (wpAny_updateSeq hS rfl ?_);have hS₂:=get?_update_self (Obj.mapSeq (fun _=>(#[]:Array Value))) hS rfl
 have oth:∀b o,s.heap.get? b=some o->((s.heap.push { cls:=.type "list",data:=.seq #[] }).update s.heap.objs.size (Obj.mapSeq (fun _=>(#[]:Array Value)))).get? b=some o:=
  fun b o e=>bD (ne_of_lt (lt_size e)) (get?_push_of_some _ e)
 refine wpAny_bind (wpAny_letGo ?_);refine xn (A:=A.in1) (lo:=s.heap.objs.size+1) hh D (ne_of_gt gz) (ne_of_gt gI) (ne_of_gt gO) (ne_of_gt g1) (ne_of_gt g2) (ne_of_gt gl1) (ne_of_gt gl2)
  ⟨lt_succ_of_lt gz,lt_succ_of_lt gO,lt_succ_of_lt g1,lt_succ_of_lt g2,lt_succ_self _⟩ hn .none _ (oth _ _ hz) ⟨_,_,oth _ _ hTO⟩ ⟨oth _ _ r1,r2.at fun o e=>oth _ _ e,r3.at fun o e=>oth _ _ e,r4.at fun o e=>oth _ _ e,r5.at fun o e=>oth _ _ e⟩ hS₂ (by rw[Heap.size_update,Heap.size_push];exact le_refl _) fun h' acc c as hk hS' hal hG hacc=>?_
 exact⟨rfl,hQ h' acc c as (fun b o h1 h2 h3 h4 e=>hk b o (ne_of_lt (lt_size e)) h1 h2 h3 h4 (oth b o e)) hS' hal hG hacc⟩
end
theorem se{X:Cx}{pins:List (Addr×Obj)}{σ:St}{H H':Hp}{s:Shared}{h':Heap}{t':Nat}(I:Inv X pins σ H s)(k:∀b u,s.heap.get? b=some u->h'.get? b=some u)(ext:∀b,H b≠none->H' b=H b)
  (new:∀b o,H b=none->H' b=some o->s.heap.objs.size<=b/\ObjOk X.prog X.w H' h' b o):Inv X pins σ H' { s with heap:=h',toks:=t' }:=by
 have e':∀{b:Addr} {u:HO},H b=some u->H' b=some u:=fun{b u} q=>by rw[ext b (by rw[q];simp),q]
 refine I.un ⟨fun b u q _ _ _=>k b u q,fun b u q _ _ _=>⟨u.slots,k b u q⟩,fun b u q n _=>?_,fun b u q _=>⟨u,k b u q⟩,fun b xs q=>e' q,fun b u xs q=>e' q,fun b ps q=>⟨#[],by rw[e' q];simp⟩⟩ fun b u e=>?_
 ·cases q':H' b with
  |none=>rfl
  |some o=>exact absurd (lt_size q) (Nat.not_lt.mpr (new b o n q').1)
 ·by_cases n:H b=none
  ·exact(new b u n e).2
  ·cases q:H b with
   |none=>exact absurd q n
   |some u'=>
    have:=e' q;rw[e]at this;cases this;exact(I.hok b u q).stay (fun c v _ q=>k c v q) (fun c q=>e' q) fun c xs q=>e' q
theorem tR{b n:Nat}(k:Nat)(h:b<n):b≠n+k:=by omega
theorem Kx{b n m:Nat}(e:m=n+5)(h:m+1<=b):n<=b/\b≠m:=by omega
noncomputable def wC:List Addr->List (List V)->Addr->Option HO
 |a::as,t::ts,b=>if b=a then some (.tup t)else wC as ts b
 |_,_,_=>none
theorem md:∀{as:List Addr} {ts:List (List V)} {b:Addr} {o:HO},wC as ts b=some o->∃(j:Nat) (t:List V),as[j]? = some b/\ts[j]? = some t/\o=.tup t
 |[],_,_,_,h=>by cases h
 |_::_,[],_,_,h=>by cases h
 |a::as,t::ts,b,o,h=>by
  unfold wC at h;split at h
  ·rename_i e
   cases h;exact⟨0,t,by rw[e];rfl,rfl,rfl⟩
  ·obtain⟨j,t',h1,h2,h3⟩:=md h
   exact⟨j+1,t',h1,h2,h3⟩
theorem o9:∀{as:List Addr} {ts:List (List V)} {j:Nat} {a:Addr} {t:List V},as.Pairwise (· < ·)->as[j]? = some a->ts[j]? = some t->wC as ts a=some (.tup t)
 |[],_,_,_,_,_,h,_=>by simp at h
 |_::_,[],_,_,_,_,_,h=>by simp at h
 |a::as,t::ts,0,_,_,_,h1,h2=>by cases h1;cases h2;exact if_pos rfl
 |a::as,t::ts,j+1,b,u,h,h1,h2=>by
  obtain⟨g1,g2⟩:=List.pairwise_cons.mp h;have hb:=g1 b (mem_of_getElem? (by simpa using h1));unfold wC;rw[if_neg (ne_of_gt hb)];exact o9 g2 (by simpa using h1) (by simpa using h2)
section
variable{X:Cx}{e1 e2:Expr}{p p2 pos pos2:Pos}{ta:TA}{fs:Dv->Option (List D)}
def LH(K:Fg)(ta:TA):TE:=fun σ H Q=>ta σ H fun vs H1=>∃(a b:Addr) (xs ys:List V),vs=[V.ref a,V.ref b]/\SqL K H1 a xs/\SqL K H1 b ys /\
 ∀(H':Hp) (l:Addr) (as:List Addr),(∀b,H1 b≠none->H' b=H1 b)->H1 l=none->H' l=some (.lst (as.map V.ref))->as.length=min xs.length ys.length->(∀(j:Nat) (a:Addr),as[j]? = some a->H1 a=none/\∃x y,xs[j]? = some x/\ys[j]? = some y/\H' a=some (.tup [x,y]))->Q (.ref l) H'
theorem E8(hc:X.calm=true)(hg:Gl X "list")(hm:X.mg "list" = none)(hg':Gl X "zip")(hm':X.mg "zip" = none)(ha:PA X [e1,e2] ta)
  (he:starEach [.Call (.Name "zip" p2) [e1,e2] [] pos2] X.env=(false,eval (.Call (.Name "zip" p2) [e1,e2] [] pos2) X.env)::starEach [] X.env:=by rfl)
  (he2:starEach [e1,e2] X.env=(false,eval e1 X.env)::starEach [e2] X.env:=by rfl) (hpl:(backTo pos (starEach [] X.env)).any (·.1)=false:=by rfl) (hpl2:(backTo pos2 (starEach [e2] X.env)).any (·.1)=false:=by rfl) :
  PE X (.Call (.Name "list" p) [.Call (.Name "zip" p2) [e1,e2] [] pos2] [] pos) (LH X.K ta):=by
 intro pins s σ H Q I h;refine wpAny_Call_Name_kw (iU I hg hm (u:=.type "list") (by decide +kernel) ?_ (by decide) (by decide));refine PyProof.Rows.callWith_type1 ?_ he hpl;rw[he];show wpAny _ _ (spliced ((false,eval _ X.env)::backTo pos (starEach [] X.env))) _ _ s;refine Calls.spliced_cons ?_;refine wpAny_Call_Name_kw (iU I hg' hm' (u:=.type "zip") (by decide +kernel) ?_ (by decide) (by decide));refine PyProof.Rows.callWith_type1 (cm (ha pos2 pins s σ H _ I h) fun us s1 ⟨vs,H1,I1,r1,q1⟩=>?_) he2 hpl2
 obtain⟨a,b,xs,ys,ev,ha1,hb1,q⟩:=q1;subst ev;cases r1 with
 |cons ra rr=>
  cases rr with
  |cons rb rr=>
   cases rr;cases ra;cases rb;obtain⟨its,r',pl,hz⟩:=I1.list ha1;obtain⟨jts,r'',pl',hz'⟩:=I1.list hb1;have hl1:=r'.length;have hl2:=r''.length;have a1:a<s1.heap.objs.size:=by obtain⟨_,e,_⟩:=pl.isList;exact lt_size e
   have a2:b<s1.heap.objs.size:=by obtain⟨_,e,_⟩:=pl'.isList;exact lt_size e
   refine call_zip_2 pl.isList pl'.isList fun h1 kz kI kO k1 k2 ks kk=>?_
   refine Calls.spliced_nil ?_;refine rf (s:={ s1 with heap:=h1 }) (I1.ok.hd hc) (zipApart_new a1 a2) (xs:=its.toArray) (ys:=jts.toArray) (by simp only[size_toArray];omega) kz ⟨_,_,kO⟩ ⟨kI,k1,k2,pl.isList.at fun o e=>kk _ o e,pl'.isList.at fun o e=>kk _ o e⟩ fun h' acc c as hk hS hal hG hacc=>?_
   dsimp only at hk hS hal hG ⊢;have kp:∀b o,s1.heap.get? b=some o->h'.get? b=some o:=fun b o eo=>by
    have hb:=lt_size eo;exact hk b o (tR 4 hb) (tR 3 hb) (ne_of_lt hb) (tR 1 hb) (kk b o eo)
   have hal':as.length=min xs.length ys.length:=by simp only[size_toArray]at hal;omega
   generalize hts:zipWith (fun x y=>[x,y]) xs ys=ts;have ext:∀b,H1 b≠none->(fun b=>if H1 b≠none then H1 b else if b=h1.objs.size then some (HO.lst (as.map V.ref))else wC as ts b) b=H1 b:=fun b hb=>if_pos hb
   have tsz:ts.length=min xs.length ys.length:=by rw[<-hts,List.length_zipWith]
   have fr:∀(j:Nat) (c:Addr),as[j]? = some c->H1 c=none/\c≠h1.objs.size/\s1.heap.objs.size<=c:=fun j c ec=>by
    have:=hG.above c (mem_of_getElem? ec);exact⟨I1.hok.fresh (Kx ks this).1,(Kx ks this).2,(Kx ks this).1⟩
   have hl:H1 h1.objs.size=none:=I1.hok.fresh (by omega);have L:=se (h':=h') (t':=s1.toks) I1 kp ext fun b o nb eb=>by
    simp only[nb,ne_eq,not_true,if_false]at eb;split at eb
    ·rename_i ebs
     subst ebs;cases eb;refine⟨by omega,show ObjOk X.prog X.w _ _ _ (.lst (as.map V.ref))from ⟨by rw[length_map];omega,as.map Value.ref,c,?_,by rw[<-hacc,Array.toArray_toList];exact hS⟩⟩;clear hal hal' hG hacc hS fr ext q
     induction as with
     |nil=>exact .nil
     |cons x as ih=>exact .cons rfl ih
    ·obtain⟨j,t,h1',h2',rfl⟩:=md eb
     obtain⟨_,_,g⟩:=fr j b h1';obtain⟨x,y,x1,y1,pr⟩:=hG.pairs j b h1';refine⟨g,show ObjOk X.prog X.w _ _ _ (.tup t)from ?_⟩;rw[<-hts,List.getElem?_zipWith]at h2';have hj:j<min xs.length ys.length:=by
      rw[<-hal'];exact(List.getElem?_eq_some_iff.mp h1').1
     obtain⟨vx,ex⟩:∃v,xs[j]? = some v:=⟨_,List.getElem?_eq_getElem (by omega)⟩;obtain⟨vy,ey⟩:∃v,ys[j]? = some v:=⟨_,List.getElem?_eq_getElem (by omega)⟩;rw[ex,ey]at h2';cases h2';obtain⟨ux,ux1,ux2⟩:=r'.get ex;obtain⟨uy,uy1,uy2⟩:=r''.get ey;rw[List.getElem?_toArray]at x1 y1;rw[ux1]at x1;rw[uy1]at y1;cases x1;cases y1;exact⟨by rw[sizeLine_eq];show 2<=16777216;decide,[x,y],.cons ux2 (.cons uy2 .nil),⟨_,pr,rfl,_,rfl⟩,_,pr,rfl⟩
   refine⟨.ref h1.objs.size,_,L,rfl,q _ _ as ext hl (by simp[hl]) hal' fun j c ec=>?_⟩
   obtain⟨g1,g2,g3⟩:=fr j c ec;have hj:j<min xs.length ys.length:=by rw[<-hal'];exact(List.getElem?_eq_some_iff.mp ec).1
   obtain⟨vx,ex⟩:∃v,xs[j]? = some v:=⟨_,List.getElem?_eq_getElem (by omega)⟩;obtain⟨vy,ey⟩:∃v,ys[j]? = some v:=⟨_,List.getElem?_eq_getElem (by omega)⟩;have et:ts[j]? = some [vx,vy]:=by rw[<-hts,List.getElem?_zipWith,ex,ey]
   exact⟨g1,vx,vy,ex,ey,by simp only[g1,ne_eq,not_true,if_false];rw[if_neg g2];exact o9 hG.rise ec et⟩
def K8:Option HO->Option HO
 |some (.frz _ (.lst _))=>none
 |o=>o
theorem uC{o:Option HO}{u:HO}(h:K8 o=some u):o=some u/\FD u=true:=by
 unfold K8 at h;split at h
 ·cases h
 ·rename_i hn
  refine⟨h,?_⟩;unfold FD;split
  ·exact absurd h (hn _ _)
  ·rfl
theorem New.many{Z H H':Hp}(zh:Same Z H)(ext:∀b,H b≠none->H' b=H b):New Z H (fun b=>if H b=none then K8 (H' b)else Z b) H' where
 z:=fun b u e=>by
  have:H b=some u:=zh b u e;show(if H b=none then _ else _)=_;rw[if_neg (by rw[this];simp)];exact e
 h:=fun b u e=>by rw[ext b (by rw[e];simp),e]
 zh:=fun b u e=>by
  have e:(if H b=none then K8 (H' b)else Z b)=some u:=e;split at e
  ·exact(uC e).1
  ·rename_i n
   rw[ext b n];exact zh b u e
 o:=fun b hb=>if_neg hb
 nf:=fun b o xs e=>by
  have e:(if H b=none then K8 (H' b)else Z b)=_:=e;split at e
  ·cases(uC e).2
  ·exact e
theorem oS{K:Fg}{Z:Hp}:∀{as:List Addr} {xs ys:List V} {ds es:List D},Reps K Z xs ds->Reps K Z ys es->as.length=min xs.length ys.length->(∀(j:Nat) (a:Addr),as[j]? = some a->∃x y,xs[j]? = some x/\ys[j]? = some y/\Z a=some (.tup [x,y])) ->
  Reps K Z (as.map V.ref) (zipWith (fun x y=>.tuple [x,y]) ds es)
 |[],[],_,_,_,.nil,_,_,_=>by simpa using Reps.nil
 |[],_::_,[],_,_,.cons _ _,.nil,_,_=>by simpa using Reps.nil
 |[],_::_,_::_,_,_,_,_,h,_=>by simp at h
 |_::_,[],_,_,_,_,_,h,_=>by simp at h
 |_::_,_::_,[],_,_,_,_,h,_=>by simp at h
 |a::as,x::xs,y::ys,_,_,.cons rx qx,.cons ry qy,h,g=>by
  obtain⟨x',y',e1,e2,e3⟩:=g 0 a rfl;cases e1;cases e2;exact .cons (.tup (SqT.of e3) (.cons rx (.cons ry .nil))) (oS qx qy (by simp only[length_cons]at h;omega) fun j b e=>by obtain⟨x',y',h1,h2,h3⟩:=g (j+1) b e;exact⟨x',y',h1,h2,h3⟩)
theorem Gm(hg:Gl X "list")(hm:X.mg "list" = none)(hg':Gl X "zip")(hm':X.mg "zip" = none)(ha:AV X [e1,e2] fs)(hc:X.calm=true:=by rfl)
  (he:starEach [.Call (.Name "zip" p2) [e1,e2] [] pos2] X.env=(false,eval (.Call (.Name "zip" p2) [e1,e2] [] pos2) X.env)::starEach [] X.env:=by rfl)
  (he2:starEach [e1,e2] X.env=(false,eval e1 X.env)::starEach [e2] X.env:=by rfl) (hpl:(backTo pos (starEach [] X.env)).any (·.1)=false:=by rfl) (hpl2:(backTo pos2 (starEach [e2] X.env)).any (·.1)=false:=by rfl) :
  EV X (.Call (.Name "list" p) [.Call (.Name "zip" p2) [e1,e2] [] pos2] [] pos) (Oi fs uv):=
 PE.imp (E8 hc hg hm hg' hm' ha he he2 hpl hpl2) fun σ H Q h=>by
  obtain⟨H₀,Z₀,Z,δ,d,hh,e,k⟩:=h;obtain⟨ds,e1,e⟩:=bind_some e;refine⟨H₀,Z₀,Z,δ,ds,hh,e1,fun vs Z1 H1 hh1 t1 r1=>?_⟩
  unfold uv at e;split at e
  ·cases e
   cases r1 with
   |cons q1 q2=>
    cases q2 with
    |cons q2 q3=>
     cases q3;cases q1 with
     |lst h1 s1=>
      cases q2 with
      |lst h2 s2=>
       refine⟨_,_,_,_,rfl,SqL.same h1 hh1.zh,SqL.same h2 hh1.zh,fun H' l as ext hl hl' hal hp=>?_⟩
       have n:=New.many (Z:=Z1) (H':=H') hh1.zh ext;refine k _ _ _ (hh1.new n) (t1.trans n.z) (.lst (SqL.of (by rw[if_pos hl,hl'];rfl)) (oS (s1.same n.z) (s2.same n.z) hal fun j a ea=>?_))
       obtain⟨g1,x,y,g2,g3,g4⟩:=hp j a ea;exact⟨x,y,g2,g3,by rw[if_pos g1,g4];rfl⟩
  ·cases e
end
section
variable{cmp:Nat->Nat->(Bool->Shared->Prop)->Shared->Prop}{N:Nat}{key:Nat->Int}
def ky(key:Nat->Int)(p:Array Nat)(i:Nat):Int:=key (p.getD i 0)
structure Pm (N:Nat) (p:Array Nat):Prop where
 perm:p.toList.Perm (List.range N)
theorem Pm.size{p:Array Nat}(h:Pm N p):p.size=N:=by
 have:=h.perm.length_eq;simpa using this
theorem Pm.lt{p:Array Nat}(h:Pm N p)(i:Nat)(hN:0<N):p.getD i 0<N:=by
 by_cases hi:i<p.size
 ·have e:p.getD i 0=p[i]:=by simp[Array.getD,hi]
  rw[e];have m:p[i]∈p.toList:=Array.getElem_mem_toList hi;exact List.mem_range.mp (h.perm.mem_iff.mp m)
 ·have e:p.getD i 0=0:=by simp[Array.getD,hi]
  rw[e];exact hN
theorem Pm.ne{p:Array Nat}(h:Pm N p){i j:Nat}(hi:i<N)(hj:j<N)(e:p.getD i 0=p.getD j 0):i=j:=by
 have nd:p.toList.Nodup:=h.perm.nodup_iff.mpr List.nodup_range;have hz:=h.size;have e1:p.getD i 0=p.toList[i]'(by simpa[hz]using hi):=by simp[Array.getD,hz,hi]
 have e2:p.getD j 0=p.toList[j]'(by simpa[hz]using hj):=by simp[Array.getD,hz,hj]
 rw[e1,e2]at e;have pw:=List.pairwise_iff_getElem.mp nd;rcases Nat.lt_trichotomy i j with q|q|q
 ·exact absurd e (pw i j (by simpa[hz]using hi) (by simpa[hz]using hj) q)
 ·exact q
 ·exact absurd e.symm (pw j i (by simpa[hz]using hj) (by simpa[hz]using hi) q)
theorem Pm.of{p q:Array Nat}(h:Pm N p)(e:q.Perm p):Pm N q:=⟨(Array.perm_iff_toList_perm.mp e).trans h.perm⟩
variable{s:Shared}(hinj:∀i j,i<N->j<N->key i=key j->i=j)(hc:∀i j,i<N->j<N->i≠j->∀C:Bool->Shared->Prop,C (decide (key i<key j)) s->cmp i j C s)
def Up(key:Nat->Int)(p:Array Nat)(m:Nat):Prop:=∀i j,i<j->j<m->ky key p i<ky key p j
def Dn(key:Nat->Int)(p:Array Nat)(m:Nat):Prop:=∀i j,i<j->j<m->ky key p j<ky key p i
include hinj in
theorem CI{p:Array Nat}(h:Pm N p){i j:Nat}(hi:i<N)(hj:j<N)(hij:i≠j):ky key p i≠ky key p j:=fun e=>
 hij (h.ne hi hj (hinj _ _ (h.lt i (by omega)) (h.lt j (by omega)) e))
include hc in
theorem qB{α:Type}{p:Array Nat}(h:Pm N p)(hN:0<N)(i j:Nat)(hi:i<N)(hj:j<N)(hij:i≠j){k:Bool->PySem.W.KasT α}{Q:α -> Shared->Prop}(hk:(k (decide (ky key p i<ky key p j))).kasWp cmp Q s):(PySem.W.KasT.ask (p.getD i 0) (p.getD j 0) k).kasWp cmp Q s:=
 hc _ _ (h.lt i hN) (h.lt j hN) (fun e=>hij (h.ne hi hj e)) _ hk
include hinj hc in
theorem xD{p:Array Nat}(h:Pm N p){Q:Nat->Shared->Prop}{M:Nat}(hM:M<=N):∀(f n:Nat),1<=n->n+f=M->Up key p n->(∀m,n<=m->m<=M->Up key p m->(m=M\/ky key p m<ky key p (m-1))->Q m s)->(PySem.W.kas_asc p f n).kasWp cmp Q s
 | 0,n,h1,hf,up,q=>q n (le_refl _) (by omega) up (.inl (by omega))
 |f+1,n,h1,hf,up,q=>by
  refine qB hc h (by omega) n (n-1) (by omega) (by omega) (by omega) ?_;by_cases d:ky key p n<ky key p (n-1)
  ·rw[decide_eq_true d,if_pos rfl]
   exact q n (le_refl _) (by omega) up (.inr d)
  ·rw[decide_eq_false d,if_neg (by decide)]
   have ne:=CI hinj h (i:=n) (j:=n-1) (by omega) (by omega) (by omega);refine xD h hM f (n+1) (by omega) (by omega) (fun i j hij hj=>?_) fun m a1 a2 a3 a4=>q m (by omega) a2 a3 a4
   by_cases hjn:j=n
   ·subst hjn
    by_cases hi:i=j-1
    ·subst hi;omega
    ·have:=up i (j-1) (by omega) (by omega);omega
   ·exact up i j hij (by omega)
include hinj hc in
theorem zc{p:Array Nat}(h:Pm N p){Q:Array Nat×Nat×Nat->Shared->Prop}{M:Nat}(hM:M<=N):∀(f n:Nat),1<=n->n+f=M->Dn key p n->(∀m,n<=m->m<=M->Dn key p m->Q (p,m,0) s)->(PySem.W.kas_desc f p n 0).kasWp cmp Q s
 | 0,n,h1,hf,dn,q=>q n (le_refl _) (by omega) dn
 |f+1,n,h1,hf,dn,q=>by
  refine qB hc h (by omega) n (n-1) (by omega) (by omega) (by omega) ?_;have ne:=CI hinj h (i:=n) (j:=n-1) (by omega) (by omega) (by omega);by_cases d:ky key p n<ky key p (n-1)
  ·rw[decide_eq_true d,if_pos rfl,if_neg (by decide)]
   refine zc h hM f (n+1) (by omega) (by omega) (fun i j hij hj=>?_) fun m a1 a2 a3=>q m (by omega) a2 a3
   by_cases hjn:j=n
   ·subst hjn
    by_cases hi:i=j-1
    ·subst hi;omega
    ·have:=dn i (j-1) (by omega) (by omega);omega
   ·exact dn i j hij (by omega)
  ·rw[decide_eq_false d,if_neg (by decide)]
   refine qB hc h (by omega) (n-1) n (by omega) (by omega) (by omega) ?_;rw[decide_eq_true (show ky key p (n-1)<ky key p n by omega),if_pos rfl];exact q n (le_refl _) (by omega) dn
theorem BK{p:Array Nat}(h:Pm N p)(i j:Nat):Pm N (kas_rev p i j):=h.of (mirror_perm _ _ _ _)
theorem lr{p q:Array Nat}{i j:Nat}(e:p[i]? = q[j]?):p.getD i 0=q.getD j 0:=by
 rw[Array.getD_eq_getD_getElem?,Array.getD_eq_getD_getElem?,e]
theorem BL{p:Array Nat}(h:Pm N p){n:Nat}(hn:n<=N)(k:Nat):ky key (kas_rev p 0 n) k=if k<n then ky key p (n-1-k)else ky key p k:=by
 have e:=getElem?_mirror_all (xs:=p) (i:=0) (j:=n) (by rw[h.size];exact hn) k;unfold ky kas_rev;by_cases hk:k<n
 ·rw[if_pos ⟨zero_le _,hk⟩]at e
  rw[if_pos hk,lr e,Nat.zero_add]
 ·rw[if_neg (by omega)]at e
  rw[if_neg hk,lr e]
theorem Ij{p:Array Nat}(h:Pm N p){n:Nat}(hn:n<=N)(dn:Dn key p n):Up key (kas_rev p 0 n) n:=fun i j hij hj=>by
 rw[BL h hn,BL h hn,if_pos (by omega),if_pos hj];exact dn _ _ (by omega) (by omega)
include hinj hc in
theorem Ej{p:Array Nat}(h:Pm N p){Q:Nat×Array Nat->Shared->Prop}{n:Nat}(h1:1<=n)(hn:n<=N)(dn:Dn key p n)(q:∀m p',1<=m->m<=N->Pm N p'->Up key p' m->Q (m,p') s):(kas_tail3 n N p).kasWp cmp Q s:=by
 unfold kas_tail3;rw[PySem.W.KasT.kasWp_bind];exact xD hinj hc (BK h 0 n) (le_refl N) (N-n) n h1 (by omega) (Ij h hn dn) fun m a1 a2 a3 _=>q m _ (by omega) a2 (BK h 0 n) a3
include hinj hc in
theorem Dt{p:Array Nat}(h:Pm N p)(hN:2<=N){Q:Nat×Array Nat->Shared->Prop}(q:∀m p',1<=m->m<=N->Pm N p'->Up key p' m->Q (m,p') s):(kas_count N p).kasWp cmp Q s:=by
 unfold kas_count;rw[PySem.W.KasT.kasWp_bind];refine xD hinj hc h (le_refl N) (N-1) 1 (le_refl _) (by omega) (fun i j a b=>by omega) fun n a1 a2 a3 a4=>?_
 by_cases e:(n==N)=true
 ·rw[if_pos e]
  exact q n p a1 a2 h a3
 ·rw[if_neg e]
  have hne:n≠N:=fun z=>e (by rw[z];exact beq_self_eq_true _)
  by_cases e2:n>1
  ·rw[if_pos e2]
   refine qB hc h (by omega) 0 (n-1) (by omega) (by omega) (by omega) ?_;rw[decide_eq_true (a3 0 (n-1) (by omega) (by omega)),if_pos rfl];exact q n p a1 a2 h a3
  ·rw[if_neg e2]
   have hn1:n=1:=by omega
   subst hn1;have d:ky key p 1<ky key p 0:=by
    rcases a4 with z|z
    ·exact absurd z hne
    ·exact z
   unfold PySem.W.kas_descPart;rw[PySem.W.KasT.kasWp_bind];refine zc hinj hc h (le_refl N) (N-(1+1)) (1+1) (by omega) (by omega) (fun i j hij hj=>?_) fun m b1 b2 b3=>?_
   ·have:i=0:=by omega
    have:j=1:=by omega
    subst i;subst j;exact d
   ·rw[if_neg (by show ¬(0>0);decide)]
    exact Ej hinj hc h (show 1<=m from Nat.le_trans (by decide) b1) b2 b3 q
include hinj hc in
theorem o8{p:Array Nat}(h:Pm N p){Q:Nat->Shared->Prop}{k:Nat}(hk:k<N)(up:Up key p k):∀(f l r:Nat),r-l<=f->l<=r->r<=k->(∀i,i<l->ky key p i<ky key p k)->(∀i,r<=i->i<k->ky key p k<ky key p i) ->
  (∀l',l'<=k->(∀i,i<l'->ky key p i<ky key p k)->(∀i,l'<=i->i<k->ky key p k<ky key p i)->Q l' s)->(kas_place p k f l r).kasWp cmp Q s
 | 0,l,r,hf,hlr,hr,lo,hi,q=>q l (by omega) lo fun i h1 h2=>hi i (by omega) h2
 |f+1,l,r,hf,hlr,hr,lo,hi,q=>by
  unfold kas_place;by_cases e:l>=r
  ·rw[if_pos e]
   exact q l (by omega) lo fun i h1 h2=>hi i (by omega) h2
  ·rw[if_neg e]
   refine qB hc h (by omega) k ((l+r)/2) hk (by omega) (by omega) ?_;have ne:=CI hinj h (i:=k) (j:=(l+r)/2) hk (by omega) (by omega);by_cases d:ky key p k<ky key p ((l+r)/2)
   ·rw[decide_eq_true d,if_pos rfl]
    refine o8 h hk up f l ((l+r)/2) (by omega) (by omega) (by omega) lo (fun i h1 h2=>?_) q;by_cases z:i=(l+r)/2
    ·subst z;exact d
    ·have:=up ((l+r)/2) i (by omega) h2;omega
   ·rw[decide_eq_false d,if_neg (by decide)]
    refine o8 h hk up f ((l+r)/2+1) r (by omega) (by omega) hr (fun i h1=>?_) hi q;by_cases z:i=(l+r)/2
    ·subst z;omega
    ·have:=up i ((l+r)/2) (by omega) (by omega);omega
theorem Dx{p:Array Nat}(h:Pm N p){k d:Nat}(hk:k<N)(hd:d<=k)(i:Nat):ky key (bubble p k d) i=if i=k-d then ky key p k else if k-d<i/\i<=k then ky key p (i-1)else ky key p i:=by
 have e:=getElem?_bubble (xs:=p) (src:=k) (by rw[h.size];exact hk) d hd i;unfold ky;by_cases h1:i=k-d
 ·rw[if_pos h1]at e ⊢
  rw[lr e]
 ·rw[if_neg h1]at e ⊢
  by_cases h2:k-d<i/\i<=k
  ·rw[if_pos h2]at e ⊢
   rw[lr e]
  ·rw[if_neg h2]at e ⊢
   rw[lr e]
include hinj hc in
theorem DA{Q:Array Nat->Shared->Prop}(q:∀p',Pm N p'->Up key p' N->Q p' s):∀(f:Nat) (p:Array Nat) (k:Nat),k+f=N->Pm N p->Up key p k->(kas_bin f p k).kasWp cmp Q s
 | 0,p,k,hf,h,up=>q p h (by rw[show N=k by omega];exact up)
 |f+1,p,k,hf,h,up=>by
  unfold kas_bin;rw[PySem.W.KasT.kasWp_bind];refine o8 hinj hc h (by omega) up k 0 k (by omega) (zero_le _) (le_refl _) (fun i hi=>by omega) (fun i h1 h2=>by omega) fun l hl lo hi=>?_
  refine DA q f (bubble p k (k-l)) (k+1) (by omega) (h.of (bubble_perm _ _ _)) fun i j hij hj=>?_
  rw[Dx h (by omega) (by omega),Dx h (by omega) (by omega),show k-(k-l)=l by omega];by_cases i1:i=l
  ·rw[if_pos i1,if_neg (by omega),if_pos (by omega)]
   exact hi (j-1) (by omega) (by omega)
  ·rw[if_neg i1]
   by_cases j1:j=l
   ·rw[if_pos j1,if_neg (by omega)]
    exact lo i (by omega)
   ·rw[if_neg j1]
    by_cases i2:l<i/\i<=k
    ·rw[if_pos i2,if_pos (by omega)]
     exact up (i-1) (j-1) (by omega) (by omega)
    ·rw[if_neg i2]
     by_cases j2:l<j/\j<=k
     ·rw[if_pos j2]
      by_cases z:i=j-1
      ·omega
      ·exact up i (j-1) (by omega) (by omega)
     ·rw[if_neg j2]
      exact up i j hij (by omega)
include hinj hc in
theorem Ev(hN:2<=N){Q:Array Nat->Shared->Prop}(q:∀p',Pm N p'->Up key p' N->Q p' s):(kas_sort N).kasWp cmp Q s:=by
 unfold kas_sort;rw[PySem.W.KasT.kasWp_bind];refine Dt hinj hc (p:=List.toArray (List.range N)) ⟨List.Perm.refl _⟩ hN fun m p a1 a2 a3 a4=>?_
 dsimp only;by_cases e:m<N
 ·rw[if_pos e]
  rw[show max m 1=m by omega];exact DA hinj hc q (N-m) p m (by omega) a3 a4
 ·rw[if_neg e]
  exact q p a3 (by rw[show N=m by omega];exact a4)
end
section
variable{prog:Program}{w:World}{A:Around}{E:Value->Shared->Prop}{s:Shared}
def PairsAt(h:Heap)(key:Nat->Int)(vs:List Value):Prop:=∀(j:Nat) (v:Value),vs[j]? = some v->∃b t y,v=.ref b/\h.get? b=some { cls:=.type "tuple",data:=.seq #[.int (key j) t,y] }
theorem PairsAt.keeps{h h':Heap}{key:Nat->Int}{vs:List Value}(x:PairsAt h key vs)(k:∀b o,o.cls=.type "tuple" -> h.get? b=some o->h'.get? b=some o):PairsAt h' key vs:=fun j v e=>by
 obtain⟨b,t,y,e1,e2⟩:=x j v e;exact⟨b,t,y,e1,k b _ rfl e2⟩
theorem pc{h:Heap}:∀{vs:List Value} {key:Nat->Int},PairsAt h key vs->∃fs:List Value,fs.length=vs.length/\PySem.W.KatTups h vs fs/\∀v∈fs,∃i t,v=Value.int i t
 |[],key,_=>⟨[],rfl,trivial,fun v h=>by cases h⟩
 |v::vs,key,x=>by
  obtain⟨b,t,y,rfl,e⟩:=x 0 v rfl;obtain⟨fs,h1,h2,h3⟩:=pc (vs:=vs) (key:=fun j=>key (j+1)) fun j u q=>x (j+1) u q
  refine⟨.int (key 0) t::fs,by rw[length_cons,length_cons,h1],⟨⟨b,_,_,_,rfl,e,rfl,rfl,rfl⟩,h2⟩,fun u hu=>?_⟩
  rcases List.mem_cons.mp hu with rfl|hu
  ·exact⟨_,_,rfl⟩
  ·exact h3 u hu
theorem Cc{κ:SortKind}{key:Nat->Int}{vs:List Value}(hκ:κ = tuples' true)(x:PairsAt s.heap key vs)(hinj:∀i j,i<vs.length->j<vs.length->key i=key j->i=j){i j:Nat}(hi:i<vs.length)(hj:j<vs.length)(hij:i≠j){C:Bool->Shared->Prop}(hC:C (decide (key i<key j)) s):
  kas_ask prog w A κ vs i j C s:=by
 subst hκ;obtain⟨b,t,y,e1,e2⟩:=x i _ (List.getElem?_eq_getElem hi);obtain⟨b',t',y',e1',e2'⟩:=x j _ (List.getElem?_eq_getElem hj);have g1:vs.getD i Value.none=.ref b:=by rw[getD_eq_getElem?_getD,List.getElem?_eq_getElem hi];exact e1
 have g2:vs.getD j Value.none=.ref b':=by rw[getD_eq_getElem?_getD,List.getElem?_eq_getElem hj];exact e1'
 unfold kas_ask;rw[g1,g2];refine PySem.W.kat_lt e2 rfl e2' rfl (PySem.W.kat_cons ?_);have ne:(key i==key j)=false:=beq_eq_false_iff_ne.mpr fun e=>hij (hinj i j hi hj e)
 refine SeqAt.EqAt.int_int (key i) t (key j) t' _ _ _ _ ?_;rw[ne];refine PySem.W.kat_no ?_;exact PySem.W.kat_lt_int hC
theorem qV{a:Addr}{vs:List Value}{key:Nat->Int}{n:Nat}{P:PySem.Fin->Shared->Prop}(ho:s.heap.get? a=some (seqObj "list" vs.toArray n))(x:PairsAt s.heap key vs)(hinj:∀i j,i<vs.length->j<vs.length->key i=key j->i=j)(h64:vs.length<64)
  (h:∀p:Array Nat,Pm vs.length p->Up key p vs.length->P (.done (.ret .none)) { s with heap:=sortedHeap s.heap a vs (List.toArray (p.toList.map fun i=>vs.getD i Value.none)) }) :
  wpAny (model prog w) A (Builtin.«list.sort» ⟨[.ref a],[]⟩) P E s:=by
 rw[list_sort_plain];have ha:a<s.heap.objs.size:=lt_size ho;refine wpAny_bind (listItems_at ho rfl ?_);refine wpAny_bind (listUpdate_at ho rfl ?_);obtain⟨e1,ho1⟩:∃e1,(s.heap.update a (Obj.mapSeq fun _=>#[])).get? a=some (seqObj "list" #[] e1):=⟨_,get?_update_seq ho (fun _=>#[])⟩;refine wpAny_bind (seqEpoch_at ho1 rfl ?_);refine wpAny_bind (wpAny_newTuple ?_);refine wpAny_bind (wpAny_newList ?_);refine wpAny_holding ?_;have ho6:(((s.heap.update a (Obj.mapSeq fun _=>#[])).push (seqObj "tuple" vs.toArray 0)).push (seqObj "list" #[] 0)).get? a=some (seqObj "list" #[] e1):=get?_push_of_some _ (get?_push_of_some _ ho1);have kp:∀b o,o.cls=.type "tuple" -> s.heap.get? b=some o->(((s.heap.update a (Obj.mapSeq fun _=>#[])).push (seqObj "tuple" vs.toArray 0)).push (seqObj "list" #[] 0)).get? b=some o:=fun b o hc eo=>by
  have hb:b≠a:=fun z=>by
   subst z;rw[ho]at eo;cases eo;exact absurd hc (by intro z;injection z with z;exact absurd z (by decide))
  exact get?_push_of_some _ (get?_push_of_some _ (bD hb eo))
 have x6:=x.keeps kp;show wpAny (model prog w) A _ P E { s with heap:=((s.heap.update a (Obj.mapSeq fun _=>#[])).push (seqObj "tuple" vs.toArray 0)).push (seqObj "list" #[] 0) };dsimp only;have fin:∀p:Array Nat,Pm vs.length p->Up key p vs.length->∀st':SortSt,(arrOf st').map (·.2)=List.toArray (p.toList.map fun i=>vs.getD i Value.none)->failedOf st'=none ->
   wpAny (model prog w) A (do
    let sorted:=(arrOf st').map (·.2)
    let touched:=(<-seqEpoch a) != e1
    Builtin.List.listUpdate (.ref a) fun _=>sorted
    if let some e:=failedOf st' then rule "list.sort.comparison-raised";throw e
    if touched then rule "list.sort.modified";raiseError "ValueError" "list modified during sort"
    ret .none) P E { s with heap:=((s.heap.update a (Obj.mapSeq fun _=>#[])).push (seqObj "tuple" vs.toArray 0)).push (seqObj "list" #[] 0) }:=fun p hp hu st' ha' hf=>by
  have hsz:(List.toArray (p.toList.map fun i=>vs.getD i Value.none)).size=vs.length:=by rw[size_toArray,length_map,length_toList,hp.size]
  refine wpAny_bind (seqEpoch_at ho6 rfl ?_);refine wpAny_bind (listUpdate_at ho6 rfl ?_ (hsz2:=by rw[ha',hsz,sizeLine_eq];omega));rw[hf,ha'];simp only[bne_self_eq_false,Bool.false_eq_true,if_false];exact wpAny_pure (h p hp hu)
 by_cases h2:vs.toArray.size<2
 ·rw[if_pos h2,if_pos h2]
  refine wpAny_bind (wpAny_pure ?_);rw[StateT.run_pure];refine wpAny_bind (wpAny_pure ?_);refine fin (List.toArray (List.range vs.length)) ⟨List.Perm.refl _⟩ (fun i j hij hj=>by simp at h2;omega) (SortSt.mk' general' (vs.toArray.zip vs.toArray) #[] 7 none) ?_ rfl;apply Array.toList_inj.mp;show((vs.toArray.zip vs.toArray).map (·.2)).toList=_;rw[Array.toList_map,Array.toList_zip];apply ext_getElem?;intro k;by_cases hk:k<vs.length
  ·simp[hk,getD_eq_getElem?_getD]
  ·simp[hk]
 ·rw[if_neg h2,if_neg h2]
  have hn2:2<=vs.length:=by simp at h2;omega
  obtain⟨fs,f1,f2,f3⟩:=pc x6;refine wpAny_bind (PySem.W.kat_kind (s:={ s with heap:=((s.heap.update a (Obj.mapSeq fun _=>#[])).push (seqObj "tuple" vs.toArray 0)).push (seqObj "list" #[] 0) }) (T:=.type "int") f2 (by omega) (fun v hv=>?_) (by decide) ?_)
  ·obtain⟨i,t,rfl⟩:=f3 v hv
   exact PySem.W.Looks.of_pure rfl
  ·refine wpAny_bind (wpAny_mono (PySem.W.kat_run (s:={ s with heap:=((s.heap.update a (Obj.mapSeq fun _=>#[])).push (seqObj "tuple" vs.toArray 0)).push (seqObj "list" #[] 0) })
    (Q:=fun st' s'=>∃p:Array Nat,Pm vs.length p/\Up key p vs.length/\(arrOf st').map (·.2)=List.toArray (p.toList.map fun i=>vs.getD i Value.none)/\failedOf st'=none/\s'={ s with heap:=((s.heap.update a (Obj.mapSeq fun _=>#[])).push (seqObj "tuple" vs.toArray 0)).push (seqObj "list" #[] 0) })
    (G:=fun p s'=>Pm vs.length p/\Up key p vs.length/\s'={ s with heap:=((s.heap.update a (Obj.mapSeq fun _=>#[])).push (seqObj "tuple" vs.toArray 0)).push (seqObj "list" #[] 0) })
    (ks:=vs) (vs:=vs) rfl hn2 h64 (fun p st' s' a1 a2 a3 a4=>⟨p,a4.1,a4.2.1,PySem.W.kat_snds rfl a2,a3,a4.2.2⟩) ?_) ?_ fun _ _ e=>e)
   ·exact Ev hinj (fun i j hi hj hij C hC=>Cc rfl x6 hinj hi hj hij hC) hn2 fun p hp hu=>⟨hp,hu,rfl⟩
   ·rintro⟨⟨⟩,st'⟩ s' ⟨p,hp,hu,har,hf,rfl⟩
    exact fin p hp hu st' har hf
end
noncomputable def wY(es:List (bb×D))(l:List Int):List D:=(dB l).map fun k=>.tuple [.int k,(hU es (.inl k)).getD .none]
noncomputable def lf(i:Nat):Dv->Option D:=fun δ=>(HZ δ[i]?).bind fun es=>(vB es).bind fun l=>if l.length<64/\l.Nodup then some (.list (wY es l))else none
section
variable{X:Cx}{o:Expr}{p pos apos cpos:Pos}{td:TE}
def Ek(td:TE):TE:=fun σ H Q=>td σ H fun x H1=>∃(a:Addr) (kvs:List (bb×V)) (ns:List Int),x=V.ref a/\H1 a=some (.dK kvs)/\kvs.map (·.1)=ns.map Sum.inl/\ns.length<64/\ns.Nodup /\
 ∀(H':Hp) (l:Addr) (as:List Addr) (q:Array Nat),(∀b,H1 b≠none->H' b=H1 b)->H1 l=none->Pm ns.length q->Up (fun j=>ns.getD j 0) q ns.length->as.length=ns.length->H' l=some (.lst (q.toList.map fun i=>V.ref (as.getD i 0))) ->
  (∀(j:Nat) (b:Addr),as[j]? = some b->H1 b=none/\∃k v,ns[j]? = some k/\kvs[j]? = some (.inl k,v)/\H' b=some (.tup [.int k,v]))->Q (.ref l) H'
theorem J5{ns:List Int}(h:ns.Nodup):∀i j,i<ns.length->j<ns.length->ns.getD i 0=ns.getD j 0->i=j:=fun i j hi hj e=>by
 rw[getD_eq_getElem?_getD,getD_eq_getElem?_getD,List.getElem?_eq_getElem hi,List.getElem?_eq_getElem hj]at e;have pw:=List.pairwise_iff_getElem.mp h;rcases Nat.lt_trichotomy i j with q|q|q
 ·exact absurd e (pw i j hi hj q)
 ·exact q
 ·exact absurd e.symm (pw j i hj hi q)
theorem CM{κ:Type}:∀(kvs:List (κ × V)) (vs:List (κ × Value)) (j:Nat) (k:κ) (u:Value),KV kvs vs->vs[j]? = some (k,u)->∃v,kvs[j]? = some (k,v)/\RelV v u
 |[],vs,j,k,u,h,e=>by cases h;simp at e
 |p::kvs,[],j,k,u,h,e=>by simp at e
 |p::kvs,r::vs,0,k,u,h,e=>by
  cases h with
  |cons a b=>
   have e:r=(k,u):=by simpa using e
   subst e;obtain⟨a1,a2⟩:=a;obtain⟨k',v⟩:=p;have a1:k'=k:=a1;subst a1;exact⟨v,rfl,a2⟩
 |p::kvs,r::vs,j+1,k,u,h,e=>by
  cases h with
  |cons a b=>
   obtain⟨v,h1,h2⟩:=CM kvs vs j k u b (by simpa using e);exact⟨v,by simpa using h1,h2⟩
theorem J4:∀{l:List Int},l.Nodup->(l.map (Sum.inl:Int->bb)).Nodup:=fun{l} h=>by
 show List.Pairwise _ _;rw[List.pairwise_map];exact List.Pairwise.imp (fun hne z=>hne (by cases z;rfl)) h
theorem yR:∀{es:List (bb×D)} {i:Nat} {k:bb} {d:D},(es.map (·.1)).Nodup->es[i]? = some (k,d)->hU es k=some d
 |[],i,k,d,_,h=>by simp at h
 |e::es,0,k,d,nd,h=>by
  have h:e=(k,d):=by simpa using h
  subst h;simp[hU,find?_cons]
 |e::es,i+1,k,d,nd,h=>by
  have h:es[i]? = some (k,d):=by simpa using h
  rw[map_cons]at nd;obtain⟨n1,n2⟩:=List.nodup_cons.mp nd;have ne:¬e.1=k:=fun z=>n1 (by rw[z];exact List.mem_map.mpr ⟨(k,d),mem_of_getElem? h,rfl⟩)
  have:=yR n2 h;unfold hU at this ⊢;rw[find?_cons,decide_eq_false ne];exact this
theorem zZ(hc:X.calm=true)(hg:Gl X "sorted")(hm:X.mg "sorted" = none)(ho:PE X o td)
  (hbase:attributeBase o "items" X.env (eval o X.env)=eval o X.env:=by rfl) (hline:(apos.endLine==cpos.line)=true:=by rfl)
  (he:starEach [.Call (.Attribute o "items" apos) [] [] cpos] X.env=(false,eval (.Call (.Attribute o "items" apos) [] [] cpos) X.env)::starEach [] X.env:=by rfl) (hpl:(backTo pos (starEach [] X.env)).any (·.1)=false:=by rfl) :
  PE X (.Call (.Name "sorted" p) [.Call (.Attribute o "items" apos) [] [] cpos] [] pos) (Ek td):=by
 intro pins s σ H Q I h;refine wpAny_Call_Name_kw (iU I hg hm (u:=.builtin "sorted") (by decide +kernel) ?_ (by decide) (by decide));refine PyProof.Rows.callWith_builtin1 ?_ he hpl;rw[he];show wpAny _ _ (spliced ((false,eval _ X.env)::backTo pos (starEach [] X.env))) _ _ s;refine Calls.spliced_cons ?_;refine wpAny_Call_method0_late hbase hline (cm (ho pins s σ H _ I h) fun v s1 ⟨x,H1,I1,r1,q1⟩=>?_)
 obtain⟨a,kvs,ns,e1,ha,hk,h64,nd,q⟩:=q1;subst e1;cases r1;obtain⟨t1,t2,_⟩:=CV I1 (.inl ⟨kvs,.inl ha⟩);obtain⟨z,hlo,vs,rel,dd⟩:=yZ I1.hok (.inl ha);refine⟨"dict","dict.items",PySem.F.plainAttrs_dict,PySem.F.slot_dict_items,PySem.F.type_dict_items,t1,t2,Calls.callWith_builtin rfl (PySem.evalArgs_none ?_)⟩;refine call_meetsIn PySem.F.slot_dict_items dd.typeIs PySem.F.entry_dict_items (PySem.F.args_dict_items_1 _) (meets_dict_items (aP X.prog X.w) a hlo) ⟨⟨vs,dd⟩,?_⟩;refine Calls.spliced_nil ?_;have hln:vs.length=ns.length:=by
  have:=congrArg List.length hk;simp only[length_map]at this;rw[<-rel.length,this]
 have dd1:=dd.push { cls:=.type "dict_items",data:=.fields #[.ref a] };obtain⟨ep,dat⟩:=dd1.dictAt;refine Calls.call_function_entry kind_sorted plain_sorted entry_sorted (args_sorted1 _) ?_;unfold Builtin.«sorted»;refine wpAny_bind (m:=checkCount "sorted" 1 1 _) (wpAny_pure ?_);refine wpAny_bind (PySem.W.kdx_collect (A:=X.A.in1) (knd:=aP X.prog X.w) (kvs:=vs) (ep:=ep) (d:=a) (I1.ok.hd hc) ⟨_,get?_push_size _ rfl,rfl,rfl⟩ dat (by rw[hln,sizeLine_eq];omega) fun h' tk as hk' hal hG=>?_)
 dsimp only at hk' hG ⊢;have hasn:as.length=ns.length:=by rw[hal,hln]
 have kv:vs.map (·.1)=ns.map Sum.inl:=by rw[yM rel];exact hk
 have at_:∀(j:Nat) (b:Addr),as[j]? = some b->∃k t u,ns[j]? = some k/\vs[j]? = some (.inl k,u)/\h'.get? b=some { cls:=.type "tuple",data:=.seq #[.int k t,u] }:=fun j b eb=>by
  obtain⟨ky,k,u,e1,e2,e3⟩:=hG.pairs j b eb;have e4:(vs.map (·.1))[j]? = some k:=by rw[getElem?_map,e1];rfl
  rw[kv,getElem?_map]at e4;cases e5:ns[j]? with
  |none=>rw[e5]at e4;cases e4
  |some i=>
   rw[e5]at e4;have e4:Sum.inl i=k:=by simpa using e4
   subst e4;rcases bS (show pN (.inl i) ky=true from e2)with⟨i',t,q1,rfl⟩|⟨y,t,q1,rfl⟩
   ·cases q1
    exact⟨i,t,u,rfl,e1,e3⟩
   ·cases q1
 refine wpAny_bind (wpAny_newList ?_ (by rw[length_map,hasn,sizeLine_eq];omega));have hoL:(h'.push (seqObj "list" (as.map Value.ref).toArray 0)).get? h'.objs.size=some (seqObj "list" (as.map Value.ref).toArray 0):=get?_push_size _ rfl;have pa:PairsAt (h'.push (seqObj "list" (as.map Value.ref).toArray 0)) (fun j=>ns.getD j 0) (as.map Value.ref):=fun j v ev=>by
  rw[getElem?_map]at ev;cases eb:as[j]? with
  |none=>rw[eb]at ev;cases ev
  |some b=>
   rw[eb]at ev;cases ev;obtain⟨k,t,u,e1,e2,e3⟩:=at_ j b eb;have ek:ns.getD j 0=k:=by rw[getD_eq_getElem?_getD,e1];rfl
   refine⟨b,t,u,rfl,?_⟩;show _=some ({ cls:=.type "tuple",data:=.seq #[.int (ns.getD j 0) t,u] }:Obj);rw[ek];exact get?_push_of_some _ e3
 have hlv:(as.map Value.ref).length=ns.length:=by rw[length_map,hasn]
 refine wpAny_bind (wpAny_holding (wpAny_call_entry slot_list_sort ⟨_,hoL,rfl⟩ entry_list_sort (qV hoL pa (by rw[hlv];exact J5 nd) (by rw[hlv];exact h64) fun q' hp hu=>⟨_,rfl,?_⟩) (args_list_sort _)))
 refine wpAny_pure ⟨_,rfl,?_⟩;rw[hlv]at hp hu;generalize hout:List.toArray (q'.toList.map fun i=>(as.map Value.ref).getD i Value.none)=out
 have I2:Inv X pins σ H1 { s1 with heap:=h',toks:=tk }:=I1.kept fun b o eo=>hk' b o (get?_push_of_some _ eo)
 have kp:∀b o,h'.get? b=some o->(sortedHeap (h'.push (seqObj "list" (as.map Value.ref).toArray 0)) h'.objs.size (as.map Value.ref) out).get? b=some o:=fun b o eo=>by
  have hb:b≠h'.objs.size:=ne_of_lt (lt_size eo);exact bD hb (get?_push_of_some _ (get?_push_of_some _ (bD hb (get?_push_of_some _ eo))))
 obtain⟨e1,ho1⟩:∃e1,((h'.push (seqObj "list" (as.map Value.ref).toArray 0)).update h'.objs.size (Obj.mapSeq fun _=>#[])).get? h'.objs.size=some (seqObj "list" #[] e1):=⟨_,get?_update_seq hoL (fun _=>#[])⟩;have ho2:=get?_push_of_some (seqObj "list" #[] 0) (get?_push_of_some (seqObj "tuple" (as.map Value.ref).toArray 0) ho1);have ho3:=get?_update_seq ho2 (fun _=>out);generalize hts:((List.range ns.length).map fun j=>[V.int (ns.getD j 0),((kvs[j]?).map (·.2)).getD V.non])=ts
 have lo_:∀(j:Nat) (b:Addr),as[j]? = some b->s1.heap.objs.size<b:=fun j b eb=>by
  have:=hG.above b (mem_of_getElem? eb);rw[Heap.size_push]at this;exact lt_of_lt_of_le (lt_succ_self _) (Nat.le_of_lt this)
 have fr:∀(j:Nat) (b:Addr),as[j]? = some b->H1 b=none/\b≠h'.objs.size/\s1.heap.objs.size<=b:=fun j b eb=>by
  obtain⟨_,_,_,_,_,e3⟩:=at_ j b eb;exact⟨I1.hok.fresh (Nat.le_of_lt (lo_ j b eb)),ne_of_lt (lt_size e3),Nat.le_of_lt (lo_ j b eb)⟩
 have hD:H1 h'.objs.size=none:=I2.hok.fresh (le_refl _);have tsat:∀(j:Nat) (b:Addr),as[j]? = some b->∃k v u t,ns[j]? = some k/\kvs[j]? = some (.inl k,v)/\ts[j]? = some [V.int k,v]/\RelV v u/\h'.get? b=some { cls:=.type "tuple",data:=.seq #[.int k t,u] }:=fun j b eb=>by
  obtain⟨k,t,u,e1,e2,e3⟩:=at_ j b eb;obtain⟨v,e4,e5⟩:=CM kvs vs j _ u rel e2;have hj:j<ns.length:=(List.getElem?_eq_some_iff.mp e1).1;refine⟨k,v,u,t,e1,e4,?_,e5,e3⟩;rw[<-hts,getElem?_map,List.getElem?_range hj];show some [V.int (ns.getD j 0),((kvs[j]?).map (·.2)).getD V.non]=_;rw[e4,getD_eq_getElem?_getD,e1];rfl
 have ext:∀b,H1 b≠none->(fun b=>if H1 b≠none then H1 b else if b=h'.objs.size then some (HO.lst (q'.toList.map fun i=>V.ref (as.getD i 0)))else wC as ts b) b=H1 b:=fun b hb=>if_pos hb
 have le1:s1.heap.objs.size<=h'.objs.size:=by
  have v:=hk' s1.heap.objs.size _ (get?_push_size _ rfl);exact Nat.le_of_lt (lt_size v)
 have qlt:∀i∈q'.toList,i<ns.length:=fun i hi=>List.mem_range.mp (hp.perm.mem_iff.mp hi)
 have gv:∀i,i<ns.length->(as.map Value.ref).getD i Value.none=Value.ref (as.getD i 0):=fun i hi=>by
  rw[getD_eq_getElem?_getD,getElem?_map,getD_eq_getElem?_getD,List.getElem?_eq_getElem (by rw[hasn];exact hi)];rfl
 have L:=se (h':=sortedHeap (h'.push (seqObj "list" (as.map Value.ref).toArray 0)) h'.objs.size (as.map Value.ref) out) (t':=tk) I1 (fun b o eo=>kp b o (hk' b o (get?_push_of_some _ eo))) ext fun b o nb eb=>by
  simp only[nb,ne_eq,not_true,if_false]at eb;split at eb
  ·rename_i ebs
   subst ebs;cases eb;refine⟨le1,show ObjOk X.prog X.w _ _ _ (.lst (q'.toList.map fun i=>V.ref (as.getD i 0)))from ⟨by rw[length_map,length_toList,hp.size,sizeLine_eq];omega,out.toList,_,?_,by rw[Array.toArray_toList];exact ho3⟩⟩
   rw[<-hout];show Vals _ (q'.toList.map fun i=>(as.map Value.ref).getD i Value.none)
   have key:∀l:List Nat,(∀i∈l,i<ns.length)->Vals (l.map fun i=>V.ref (as.getD i 0)) (l.map fun i=>(as.map Value.ref).getD i Value.none):=fun l=>by
    induction l with
    |nil=>intro _;exact .nil
    |cons x l ih=>
     intro hx;exact .cons (gv x (hx x mem_cons_self)) (ih fun i hi=>hx i (mem_cons_of_mem _ hi))
   exact key _ qlt
  ·obtain⟨j,t,h1',h2',rfl⟩:=md eb
   obtain⟨_,_,g⟩:=fr j b h1';obtain⟨k,v,u,tt,_,_,e3,e4,e5⟩:=tsat j b h1';rw[e3]at h2';cases h2';exact⟨g,show ObjOk X.prog X.w _ _ _ (.tup [V.int k,v])from ⟨by rw[sizeLine_eq];show 2<=16777216;decide,[.int k tt,u],.cons ⟨tt,rfl⟩ (.cons e4 .nil),⟨_,kp b _ e5,rfl,_,rfl⟩,_,kp b _ e5,rfl⟩⟩
 refine⟨.ref h'.objs.size,_,L,rfl,q _ _ as q' ext hD hp hu hasn (by simp[hD]) fun j b eb=>?_⟩
 obtain⟨g1,g2,g3⟩:=fr j b eb;obtain⟨k,v,u,tt,e1,e2,e3,_,_⟩:=tsat j b eb;exact⟨g1,k,v,e1,e2,by simp only[g1,ne_eq,not_true,if_false];rw[if_neg g2];exact o9 hG.rise eb e3⟩
theorem AJ(i:Nat){x:Str}{p3:Pos}(hg:Gl X "sorted")(hm:X.mg "sorted" = none)(hc:X.calm=true:=by rfl)(hN:X.N[i]? = some x:=by rfl)(hv:xJ X.env.scope x:=by first|exact Or.inl rfl|exact Or.inr (Or.inl rfl)|exact Or.inr (Or.inr rfl))(hd:(x==("__debug__":Str))=false:=by decide)(hcd:(x==("__classdict__":Str))=false:=by decide)
  (hbase:attributeBase (.Name x p3) "items" X.env (eval (.Name x p3) X.env)=eval (.Name x p3) X.env:=by rfl) (hline:(apos.endLine==cpos.line)=true:=by rfl)
  (he:starEach [.Call (.Attribute (.Name x p3) "items" apos) [] [] cpos] X.env=(false,eval (.Call (.Attribute (.Name x p3) "items" apos) [] [] cpos) X.env)::starEach [] X.env:=by rfl) (hpl:(backTo pos (starEach [] X.env)).any (·.1)=false:=by rfl) :
  EV X (.Call (.Name "sorted" p) [.Call (.Attribute (.Name x p3) "items" apos) [] [] cpos] [] pos) (lf i):=
 PE.imp (zZ hc hg hm (eQ hN hv hd hcd) hbase hline he hpl) fun σ H Q h=>by
  obtain⟨H₀,Z₀,Z,δ,d,hh,e,k⟩:=h;obtain⟨es,e1,e⟩:=bind_some e;obtain⟨l,e2,e⟩:=bind_some e;obtain⟨⟨h64,nd⟩,e⟩:=eB e;cases e;obtain⟨a,kvs,h1,h4,h5⟩:=vj hh e1;have hkl:kvs.map (·.1)=l.map Sum.inl:=by rw[<-h5.1];exact pM e2
  refine⟨_,h1,a,kvs,l,rfl,h4,hkl,h64,nd,fun H' lo as q' ext hl hp hu hal hl' hpr=>?_⟩
  have n:=New.many (Z:=Z) (H':=H') hh.zh ext;refine k _ _ _ (hh.new n) n.z (.lst (SqL.of (by rw[if_pos hl,hl'];rfl)) ?_);have ei:dB l=q'.toList.map fun i=>l.getD i 0:=by
   refine(sd ?_ ?_).symm
   ·have:=hp.perm.map fun i=>l.getD i 0
    have e:((List.range l.length).map fun i=>l.getD i 0)=l:=by
     apply ext_getElem?;intro j;by_cases hj:j<l.length
     ·rw[getElem?_map,List.getElem?_range hj,List.getElem?_eq_getElem hj]
      show some (l.getD j 0)=_;rw[getD_eq_getElem?_getD,List.getElem?_eq_getElem hj];rfl
     ·rw[List.getElem?_eq_none (by simp;omega),List.getElem?_eq_none (by omega)]
    rw[e]at this;exact this
   ·rw[List.pairwise_map,List.pairwise_iff_getElem]
    intro i j hi hj hij;have hz:=hp.size;have:=hu i j hij (by rw[length_toList,hz]at hj;exact hj);unfold ky at this;have e1:q'.getD i 0=q'.toList[i]:=by simp[Array.getD,show i<q'.size by simpa using hi]
    have e2:q'.getD j 0=q'.toList[j]:=by simp[Array.getD,show j<q'.size by simpa using hj]
    rw[e1,e2]at this;exact Int.le_of_lt this
  unfold wY;rw[ei,List.map_map];have qlt:∀i∈q'.toList,i<l.length:=fun i hi=>List.mem_range.mp (hp.perm.mem_iff.mp hi)
  have key:∀u:List Nat,(∀i∈u,i<l.length)->Reps X.K (fun b=>if H b=none then K8 (H' b)else Z b) (u.map fun i=>V.ref (as.getD i 0)) (u.map ((fun k=>PyData.tuple [.int k,(hU es (.inl k)).getD .none]) ∘ fun i=>l.getD i 0)):=fun u=>by
   induction u with
   |nil=>intro _;exact .nil
   |cons i u ih=>
    intro hx;refine .cons ?_ (ih fun j hj=>hx j (mem_cons_of_mem _ hj))
    have hi:=hx i mem_cons_self;have eb:as[i]? = some (as.getD i 0):=by rw[getD_eq_getElem?_getD,List.getElem?_eq_getElem (by rw[hal];exact hi)];rfl
    obtain⟨g1,k',v,g2,g3,g4⟩:=hpr i _ eb;have el:l.getD i 0=k':=by rw[getD_eq_getElem?_getD,g2];rfl
    have hkv:(kvs.map (·.2))[i]? = some v:=by rw[getElem?_map,g3];rfl
    obtain⟨d,q1,q2⟩:=h5.2.getV hkv;have hek:(es.map (·.1))[i]? = some (.inl k'):=by rw[h5.1,getElem?_map,g3];rfl
    have hes:es[i]? = some (.inl k',d):=by
     rw[getElem?_map]at q1 hek;cases e:es[i]? with
     |none=>rw[e]at q1;cases q1
     |some z=>
      rw[e]at q1 hek;obtain⟨z1,z2⟩:=z;have hek:z1=.inl k':=by simpa using hek
      have q1:z2=d:=by simpa using q1
      rw[hek,q1]
    have hgt:hU es (.inl k')=some d:=yR (by rw[pM e2];exact J4 nd) hes;show Rep _ _ _ (.tuple [.int (l.getD i 0),(hU es (.inl (l.getD i 0))).getD .none]);rw[el,hgt];exact .tup (SqT.of (by rw[if_pos g1,g4];rfl)) (.cons (.int k') (.cons (q2.same n.z) .nil))
  exact key _ qlt
end
theorem tP:typeLookup (.type "tuple") "keys" = pure none:=by rw[typeLookup_type,builtinLookup_eq_fast];kernel_rfl
theorem vn:typeLookup (.type "list") "keys" = pure none:=by rw[typeLookup_type,builtinLookup_eq_fast];kernel_rfl
section
variable{prog:Program}{w:World}{A:Around}{E:Value->Shared->Prop}{s:Shared}
theorem nj{a:Addr}{o:Obj}{xs:Array Value}{k:Nat}{Q:Option Value->Shared->Prop}(hx:s.heap.get? a=some o)(hc:o.cls=.type "tuple")(hdat:o.data=.seq xs k)(hd:o.dict=none)(hA:A.handled=none)
  (h:∀h' tk,(∀b o,s.heap.get? b=some o->h'.get? b=some o)->Q none { s with heap:=h',toks:=tk }):wpAny (model prog w) A (getAttr? (.ref a) "keys") Q E s:=by
 obtain⟨c,dct,dat,sl⟩:=o;simp only at hc hdat hd;subst hc hdat hd;obtain⟨hp,g,d,tk,os⟩:=s;have hT:∀tk',(⟨hp,g,d,tk',os⟩:Shared).TypeIs (.ref a) "tuple":=fun _=>⟨_,hx,rfl⟩
 have f1:=sub_AttributeError;have f3:=PySem.F.slot_tuple_getattribute.lookup;have f4:=PySem.F.slot_tuple_getattribute.bind (.ref a);have f5:=am_tuple_getattr_none;unfold getAttr? getAttrBy? getAttrBy
 repeat (any_goals (first|assumption|exact hT _|((with_reducible show wpAny _ _ (call (Value.builtin "tuple.__getattribute__") _ _) _ _ _);refine call_meets PySem.F.slot_tuple_getattribute (hT _) am_entry_tuple_getattribute (PySem.F.args_tuple_getattribute_2 _ _) (meets_getattribute_miss_tuple a xs k sl "keys" _ tP (by decide +kernel) (by decide +kernel)) ⟨hx,hA,fun h' tk' e hx'=>?_⟩)|wp_step))
 obtain⟨t',u',he⟩:=hx'.there;show wpAny _ _ (getattributeRaised _ _ _ _ _ _ _) _ _ _;unfold getattributeRaised
 repeat (any_goals (first|assumption|wp_step))
 exact h h' tk' hx'.of.keeps
theorem pL{a:Addr}{o:Obj}{xs:Array Value}{k:Nat}{Q:Option Value->Shared->Prop}(hx:s.heap.get? a=some o)(hc:o.cls=.type "list")(hdat:o.data=.seq xs k)(hd:o.dict=none)(hA:A.handled=none)
  (h:∀h' tk,(∀b o,s.heap.get? b=some o->h'.get? b=some o)->Q none { s with heap:=h',toks:=tk }):wpAny (model prog w) A (getAttr? (.ref a) "keys") Q E s:=by
 obtain⟨c,dct,dat,sl⟩:=o;simp only at hc hdat hd;subst hc hdat hd;obtain⟨hp,g,d,tk,os⟩:=s;have hT:∀tk',(⟨hp,g,d,tk',os⟩:Shared).TypeIs (.ref a) "list":=fun _=>⟨_,hx,rfl⟩
 have f1:=sub_AttributeError;have f3:=PySem.F.slot_list_getattribute.lookup;have f4:=PySem.F.slot_list_getattribute.bind (.ref a);have f5:=am_list_getattr_none;unfold getAttr? getAttrBy? getAttrBy
 repeat (any_goals (first|assumption|exact hT _|((with_reducible show wpAny _ _ (call (Value.builtin "list.__getattribute__") _ _) _ _ _);refine call_meets PySem.F.slot_list_getattribute (hT _) am_entry_list_getattribute (PySem.F.args_list_getattribute_2 _ _) (meets_getattribute_miss_list a xs k sl "keys" _ vn (by decide +kernel) (by decide +kernel)) ⟨hx,hA,fun h' tk' e hx'=>?_⟩)|wp_step))
 obtain⟨t',u',he⟩:=hx'.there;show wpAny _ _ (getattributeRaised _ _ _ _ _ _ _) _ _ _;unfold getattributeRaised
 repeat (any_goals (first|assumption|wp_step))
 exact h h' tk' hx'.of.keeps
end
theorem jq:entryFor table "dict.update.loop" = some Builtin.«dict.update.loop»:=entryFor_of_tree (by kernel_rfl)
theorem cX:plainId "dict.update.loop" = true:=by decide +kernel
noncomputable def DG(kvs:List (bb×Value))(ps:List (bb×Value)):List (bb×Value):=ps.foldl (fun acc p=>stored acc p.1 p.2) kvs
theorem wc(kvs:List (bb×Value))(k:bb)(v:Value):(stored kvs k v).length<=kvs.length+1:=by
 unfold stored;split
 ·rw[length_map];omega
 ·simp
section
variable{prog:Program}{w:World}{A:Around}{R:Result->Shared->Prop}{I:Addr}{fp wr:List Addr}{G:Array GenState->Array GenState->Prop}{n:Nat}{P:Nat->Value->Prop}{St:Nat->Shared->Prop}
theorem uB(W:WalksS prog w A.in1 I fp wr G n P St)(S:Addr)(hSf:S ∉ fp)(res:Value)(ps:List (bb×Value))(hn:ps.length=n)(hz:n<=100000){h₁:Heap}
  (hP:∀i v,P i v->∃b key k u,v=.ref b/\b≠S/\b ∉ wr/\ps[i]? = some (k,u)/\(aP prog w).is k key=true/\IsTup h₁ b #[key,u]) :
  ∀(m i:Nat) (s:Shared) (kvs:List (bb×Value)),n-i=m->i<=n->St i s->s.heap.DictOf (aP prog w) S kvs->kvs.length<=i->(∀b o,b≠S->b ∉ wr->h₁.get? b=some o->s.heap.get? b=some o) ->
   (∀s',Moved (S::wr) G s s'->s'.heap.DictOf (aP prog w) S (DG kvs (ps.drop i))->R (.ok (.ret res)) s') ->
   codeAny (model prog w) A (.builtin "dict.update.loop" ⟨[.ref S,.ref I,rawInt i,res],[]⟩) R s:=by
 have hSw:S ∉ wr:=fun h=>hSf (W.sub _ h)
 have hsub:∀b∈wr,b∈S::wr:=fun b hb=>mem_cons_of_mem _ hb
 intro m
 induction m with
 |zero=>
  intro i s kvs hk hi hst hS hl hkp hR;have hin:i=n:=by omega
  subst hin;refine codeAny_builtin jq ?_;rw[Around.under_plainId cX _];show wpAny _ A.in1 (pyNext (.ref I) >>= _) _ _ s;refine wpAny_bind (W.done s _ _ hst fun s' hm=>?_);show wpAny _ A.in1 (Builtin.Dict.addKeywords S [] >>= _) _ _ _;refine wpAny_bind (wpAny_pure (wpAny_pure (hR s' (hm.mono hsub) ?_)));rw[List.drop_of_length_le (by omega)];obtain⟨o,es,ep,ho,r⟩:=hS;exact⟨o,es,ep,hm.heap S _ hSw ho,r⟩
 |succ m ih=>
  intro i s kvs hk hi hst hS hl hkp hR;have hlt:i<n:=by omega
  refine codeAny_builtin jq ?_;rw[Around.under_plainId cX _];show wpAny _ A.in1 (pyNext (.ref I) >>= _) _ _ s;refine wpAny_bind (W.item i s _ _ hlt hst fun v s' hv hst' hm=>?_);obtain⟨b,key,k,u,rfl,hbS,hbw,hpi,hkey,o,hb,hbc,nn,hbd⟩:=hP i v hv;have hb':=hm.heap b _ hbw (hkp b _ hbS hbw hb);have hS':s'.heap.DictOf (aP prog w) S kvs:=by
   obtain⟨o,es,ep,ho,r⟩:=hS;exact⟨o,es,ep,hm.heap S _ hSw ho,r⟩
  refine wpAny_bind (wpAny_holding ?_);refine wpAny_bind (wpAny_tryCatch ?_);unfold Builtin.Dict.pairItems;refine wpAny_bind (wpAny_typeOf (T:="tuple") ⟨o,hb',hbc⟩ ?_);rw[if_pos (by decide)];refine wpAny_bind (wpAny_seqItems hb' hbd (wpAny_pure ?_));show wpAny _ A.in1 (holding [key,u] (dictSet S key u)) _ _ _;refine wpAny_holding (wpAny_dictSet_pairs (hsz:=by rw[sizeLine_eq];omega) hkey hS' fun h' hD hs=>?_)
  have hc:((i:Int)+1)=((i+1:Nat):Int):=by push_cast;rfl
  show wpAny _ A.in1 (again (.builtin "dict.update.loop" ⟨[.ref S,.ref I,rawInt ((i:Int)+1),res],[]⟩)) _ _ _;rw[hc];refine wpAny_pure ⟨plainId_quiet cX _,ih (i+1) _ (stored kvs k u) (by omega) hlt (W.frame _ s' _ _ hst' (le_succ _) fun b hb o e=>hs.extBut b o (fun z=>hSf (z ▸ hb)) e) hD (by have:=wc kvs k u;omega) (fun b o h1 h2 e=>hs.extBut b o h1 (hm.heap b o h2 (hkp b o h1 h2 e))) fun s'' hm'' hD''=>?_⟩
  refine hR s'' (Moved.trans W.gtrans ((hm.mono hsub).then_heap (le_succ _) fun b o hb e=>hs.extBut b o (fun z=>hb (by rw[z];exact mem_cons_self)) e) hm'') ?_
  have e:ps.drop i=(k,u)::ps.drop (i+1):=by
   obtain⟨hx,hy⟩:=List.getElem?_eq_some_iff.mp hpi;rw[List.drop_eq_getElem_cons hx,hy]
  rw[e];exact hD''
end
section
variable{prog:Program}{w:World}{A:Around}{E:Value->Shared->Prop}{s:Shared}
theorem ny{t:Addr}{items:Array Value}{ps:List (bb×Value)}{Q:Value->Shared->Prop}(ht:IsTup s.heap t items)(hnd:NoDi s.heap t)(hh:A.handled=none)(hn:ps.length=items.size)(hz:items.size<=100000)
  (hP:∀(i:Nat) (v:Value),items[i]? = some v->∃b key k u,v=.ref b/\ps[i]? = some (k,u)/\(aP prog w).is k key=true/\IsTup s.heap b #[key,u])
  (h:∀s':Shared,(∀b o,s.heap.get? b=some o->s'.heap.get? b=some o)->s'.gens=s.gens->s'.drawn=s.drawn->s'.os=s.os->s'.heap.DictOf (aP prog w) s.heap.objs.size (DG [] ps)->Q (.ref s.heap.objs.size) s') :
  wpAny (model prog w) A (call (.type "dict") [.ref t]) Q E s:=by
 refine callType_codes (Q₁:=fun obj s₁=>obj=.ref s.heap.objs.size/\s₁ = { s with heap:=s.heap.push { cls:=.type "dict",data:=.dict #[] } }) PySem.F.kt_called_dict (PySem.F.kt_typeCall_dict_1 _) PySem.F.entry_dict_init (kt_code_dict_new _ ⟨rfl,rfl⟩) ?_;rintro obj s₁ ⟨rfl,rfl⟩;have hnew:(s.heap.push { cls:=.type "dict",data:=.dict #[] }).DictOf (aP prog w) s.heap.objs.size []:=Heap.DictOf.new s.heap;refine⟨hnew.typeIs,PySem.F.args_dict_init_2 _ _,?_⟩;unfold Builtin.«dict.__init__»;refine wpAny_bind ?_;unfold Builtin.Dict.selfAndRest;refine wpAny_bind (wpAny_notOrdered_dict hnew.typeIs ?_);show wpAny _ _ (pure (s.heap.objs.size,[Value.ref t])) _ _ _;refine wpAny_pure ?_;show wpAny _ _ (Builtin.Dict.updateFrom "dict.__init__" s.heap.objs.size (.ref t) [] .none) _ _ _;unfold Builtin.Dict.updateFrom;obtain⟨o,ho,hc,n0,hd⟩:=ht;obtain⟨o',ho',hdn⟩:=hnd;rw[ho]at ho';cases ho';have ho1:=get?_push_of_some { cls:=.type "dict",data:=.dict #[] } ho;refine wpAny_bind (wpAny_typeOf (T:="tuple") ⟨o,ho1,hc⟩ ?_);rw[if_pos (by decide)];refine wpAny_bind (nj ho1 hc hd hdn hh fun h' tk keep=>?_);rw[if_pos (show(none:Option Value).isNone=true from rfl)];refine wpAny_bind (wpAny_rule ?_);have ht1:h'.IsTuple t items:=⟨o,keep _ _ ho1,hc,n0,hd⟩;refine wpAny_bind (wpAny_pyIter_tuple ht1 ?_);have hD1:h'.DictOf (aP prog w) s.heap.objs.size []:=by
  obtain⟨o2,es,ep,e2,r2⟩:=hnew;exact⟨o2,es,ep,keep _ _ e2,r2⟩
 have old:∀{b:Addr} {o:Obj},s.heap.get? b=some o->h'.get? b=some o:=fun{b o} e=>keep _ _ (get?_push_of_some _ e)
 have lt0:∀{b:Addr} {o:Obj},s.heap.get? b=some o->b≠s.heap.objs.size:=fun{b o} e=>ne_of_lt (lt_size e)
 have lt1:∀{b:Addr} {o:Obj},h'.get? b=some o->b≠h'.objs.size:=fun{b o} e=>ne_of_lt (lt_size e)
 have hSI:s.heap.objs.size≠h'.objs.size:=by
  obtain⟨o2,es,ep,e2,r2⟩:=hD1;exact lt1 e2
 have W:=(Walks.tuple (prog:=prog) (w:=w) (A:=A.in1.in1) hh h'.objs.size t (lt1 (old ho)) items).toS;refine wpAny_pure ⟨plainId_quiet cX _,?_⟩;refine uB W s.heap.objs.size (by simp[hSI];exact fun z=>lt0 ho z.symm) .none ps hn hz (h₁:=h'.push { cls:=.type "tuple_iterator",data:=.fields #[.ref t,.int 0 0] }) (fun i v e=>?_) items.size 0 _ [] rfl (zero_le _) ⟨?_,?_⟩ ?_ (zero_le _) (fun b o _ _ e=>e) fun s' mv dd=>?_
 ·obtain⟨b,key,k,u,rfl,h1,h2,o3,h3,h4⟩:=hP i v e
  exact⟨b,key,k,u,rfl,lt0 h3,by simp;exact lt1 (old h3),h1,h2,o3,get?_push_of_some _ (old h3),h4⟩
 ·exact⟨_,get?_push_size _ rfl,rfl,rfl⟩
 ·exact⟨o,get?_push_of_some _ (keep _ _ ho1),hc,n0,hd⟩
 ·obtain⟨o2,es,ep,e2,r2⟩:=hD1
  exact⟨o2,es,ep,get?_push_of_some _ e2,r2⟩
 ·refine⟨rfl,h s' (fun b o e=>mv.heap b o (by simp;exact⟨lt0 e,lt1 (old e)⟩) (get?_push_of_some _ (old e))) mv.gens mv.drawn mv.os ?_⟩
  simpa using dd
theorem mF{t:Addr}{items:Array Value}{ps:List (bb×Value)}{Q:Value->Shared->Prop}(ht:PlainL s.heap t items)(hh:A.handled=none)(hn:ps.length=items.size)(hz:items.size<=100000)
  (hP:∀(i:Nat) (v:Value),items[i]? = some v->∃b key k u,v=.ref b/\ps[i]? = some (k,u)/\(aP prog w).is k key=true/\IsTup s.heap b #[key,u])
  (h:∀s':Shared,(∀b o,s.heap.get? b=some o->s'.heap.get? b=some o)->s'.gens=s.gens->s'.drawn=s.drawn->s'.os=s.os->s'.heap.DictOf (aP prog w) s.heap.objs.size (DG [] ps)->Q (.ref s.heap.objs.size) s') :
  wpAny (model prog w) A (call (.type "dict") [.ref t]) Q E s:=by
 refine callType_codes (Q₁:=fun obj s₁=>obj=.ref s.heap.objs.size/\s₁ = { s with heap:=s.heap.push { cls:=.type "dict",data:=.dict #[] } }) PySem.F.kt_called_dict (PySem.F.kt_typeCall_dict_1 _) PySem.F.entry_dict_init (kt_code_dict_new _ ⟨rfl,rfl⟩) ?_;rintro obj s₁ ⟨rfl,rfl⟩;have hnew:(s.heap.push { cls:=.type "dict",data:=.dict #[] }).DictOf (aP prog w) s.heap.objs.size []:=Heap.DictOf.new s.heap;refine⟨hnew.typeIs,PySem.F.args_dict_init_2 _ _,?_⟩;unfold Builtin.«dict.__init__»;refine wpAny_bind ?_;unfold Builtin.Dict.selfAndRest;refine wpAny_bind (wpAny_notOrdered_dict hnew.typeIs ?_);show wpAny _ _ (pure (s.heap.objs.size,[Value.ref t])) _ _ _;refine wpAny_pure ?_;show wpAny _ _ (Builtin.Dict.updateFrom "dict.__init__" s.heap.objs.size (.ref t) [] .none) _ _ _;unfold Builtin.Dict.updateFrom;obtain⟨o,n0,ho,hc,hdn,hd⟩:=ht;have ho1:=get?_push_of_some { cls:=.type "dict",data:=.dict #[] } ho;refine wpAny_bind (wpAny_typeOf (T:="list") ⟨o,ho1,hc⟩ ?_);rw[if_pos (by decide)];refine wpAny_bind (pL ho1 hc hd hdn hh fun h' tk keep=>?_);rw[if_pos (show(none:Option Value).isNone=true from rfl)];refine wpAny_bind (wpAny_rule ?_);have ht1:h'.IsList t items:=⟨o,keep _ _ ho1,hc,n0,hd⟩;refine wpAny_bind (wpAny_pyIter_list ht1 ?_);have hD1:h'.DictOf (aP prog w) s.heap.objs.size []:=by
  obtain⟨o2,es,ep,e2,r2⟩:=hnew;exact⟨o2,es,ep,keep _ _ e2,r2⟩
 have old:∀{b:Addr} {o:Obj},s.heap.get? b=some o->h'.get? b=some o:=fun{b o} e=>keep _ _ (get?_push_of_some _ e)
 have lt0:∀{b:Addr} {o:Obj},s.heap.get? b=some o->b≠s.heap.objs.size:=fun{b o} e=>ne_of_lt (lt_size e)
 have lt1:∀{b:Addr} {o:Obj},h'.get? b=some o->b≠h'.objs.size:=fun{b o} e=>ne_of_lt (lt_size e)
 have hSI:s.heap.objs.size≠h'.objs.size:=by
  obtain⟨o2,es,ep,e2,r2⟩:=hD1;exact lt1 e2
 have W:=(Walks.list (prog:=prog) (w:=w) (A:=A.in1.in1) hh h'.objs.size t (lt1 (old ho)) items).toS;refine wpAny_pure ⟨plainId_quiet cX _,?_⟩;refine uB W s.heap.objs.size (by simp[hSI];exact fun z=>lt0 ho z.symm) .none ps hn hz (h₁:=h'.push { cls:=.type "list_iterator",data:=.fields #[.ref t,.int 0 0] }) (fun i v e=>?_) items.size 0 _ [] rfl (zero_le _) ⟨?_,?_⟩ ?_ (zero_le _) (fun b o _ _ e=>e) fun s' mv dd=>?_
 ·obtain⟨b,key,k,u,rfl,h1,h2,o3,h3,h4⟩:=hP i v e
  exact⟨b,key,k,u,rfl,lt0 h3,by simp;exact lt1 (old h3),h1,h2,o3,get?_push_of_some _ (old h3),h4⟩
 ·exact⟨_,get?_push_size _ rfl,rfl,rfl⟩
 ·exact⟨o,get?_push_of_some _ (keep _ _ ho1),hc,n0,hd⟩
 ·obtain⟨o2,es,ep,e2,r2⟩:=hD1
  exact⟨o2,es,ep,get?_push_of_some _ e2,r2⟩
 ·refine⟨rfl,h s' (fun b o e=>mv.heap b o (by simp;exact⟨lt0 e,lt1 (old e)⟩) (get?_push_of_some _ (old e))) mv.gens mv.drawn mv.os ?_⟩
  simpa using dd
end
def Cd:D->Option (bb×D)
 |.tuple [k,v]=>(CN k).bind fun k=>some (k,v)
 |_=>none
noncomputable def tu:List D->Option (List (bb×D))
 |[]=>some []
 |d::ds=>(Cd d).bind fun p=>(tu ds).bind fun ps=>some (p::ps)
noncomputable def za:D->Option (List (bb×D))
 |.tuple ds=>(tu ds).bind fun ps=>if ds.length<=1000 then some (ps.foldl (fun acc p=>oX acc p.1 p.2) [])else none
 |.list ds=>(tu ds).bind fun ps=>if ds.length<=1000 then some (ps.foldl (fun acc p=>oX acc p.1 p.2) [])else none
 |_=>none
noncomputable def wq(i:Nat)(f:Dv->Option D):Sf:=fun δ=>(f δ).bind fun d=>(za d).bind fun es=>some (.nx,δ.set i (.od es))
inductive PairsV (K:Fg) (H:Hp):List V->List (bb×V)->Prop
 |nil:PairsV K H [] []
 |cons {b:Addr} {k:bb} {v:V} {ts:List V} {ps:List (bb×V)}:SqT K H b [kV k,v]->PairsV K H ts ps->PairsV K H (.ref b::ts) ((k,v)::ps)
def DH(ps:List (bb×V)):List (bb×V):=ps.foldl (fun acc p=>iQ acc p.1 p.2) []
theorem PairsV.vals{X:Cx}{pins:List (Addr×Obj)}{σ:St}{H:Hp}{s:Shared}(I:Inv X pins σ H s):∀{ts:List V} {ps:List (bb×V)} {us:List Value},PairsV X.K H ts ps->Vals ts us->∃qs:List (bb×Value),KV ps qs/\qs.length=us.length/\∀(i:Nat) (v:Value),us[i]? = some v->∃b key k u,v=.ref b/\qs[i]? = some (k,u)/\(aP X.prog X.w).is k key=true/\IsTup s.heap b #[key,u]
 |_,_,_,.nil,.nil=>⟨[],.nil,rfl,fun i v e=>by simp at e⟩
 |_,_,_,.cons (b:=b) (k:=k) (v:=v) h r,.cons h1 r1=>by
  obtain⟨qs,g1,g2,g3⟩:=PairsV.vals I r r1;cases h1;obtain⟨its,rr,tp,_⟩:=I.tuple h;obtain⟨a1,a2,rfl,q1,q2⟩:=Bb rr;refine⟨(k,a2)::qs,.cons ⟨rfl,q2⟩ g1,by simp[g2],fun i w e=>?_⟩
  cases i with
  |zero=>
   have e:Value.ref b=w:=by simpa using e
   subst e;exact⟨b,a1,k,a2,rfl,rfl,yN q1,tp⟩
  |succ i=>exact g3 i w (by simpa using e)
theorem Kc{ps:List (bb×V)}{qs:List (bb×Value)}(r:KV ps qs):∀{kvs:List (bb×V)} {vs:List (bb×Value)},KV kvs vs->KV (ps.foldl (fun acc p=>iQ acc p.1 p.2) kvs) (DG vs qs):=by
 induction r with
 |nil=>intro kvs vs h;exact h
 |cons h r ih=>
  intro kvs vs g;obtain⟨h1,h2⟩:=h;refine ih ?_;dsimp only;rw[<-h1];exact g.put _ h2
theorem yK:∀(ps:List (bb×V)) (kvs:List (bb×V)),(ps.foldl (fun acc p=>iQ acc p.1 p.2) kvs).length<=kvs.length+ps.length
 |[],kvs=>le_refl _
 |p::ps,kvs=>by
  have:=yK ps (iQ kvs p.1 p.2);have:=jn kvs p.1 p.2;show(ps.foldl _ (iQ kvs p.1 p.2)).length<=_;rw[length_cons];omega
theorem PairsV.length{K:Fg}{H:Hp}{ts:List V}{ps:List (bb×V)}(h:PairsV K H ts ps):ps.length=ts.length:=by
 induction h with
 |nil=>rfl
 |cons _ _ ih=>simp[ih]
section
variable{X:Cx}
theorem xy(hc:X.calm=true):CallR X (.type "dict") (fun xs H Q=>∃a ts ps,xs=[V.ref a]/\(SqT X.K H a ts\/SqL X.K H a ts)/\PairsV X.K H ts ps/\ts.length<=1000/\∀l,H l=none->Q (.ref l) (upd H l (.dK (DH ps)))):=by
 intro pins s σ H xs us Q I r h;obtain⟨a,ts,ps,rfl,ha,hp,hl,q⟩:=h;obtain⟨u,rfl,ru⟩:=uz r;cases ru;have fin:∀{its:List Value} (r1:Vals ts its) {qs:List (bb×Value)} (g1:KV ps qs) (s':Shared) (kp:∀b o,s.heap.get? b=some o->s'.heap.get? b=some o) (hg:s'.gens=s.gens) (hdr:s'.drawn=s.drawn) (hos:s'.os=s.os) (dd:s'.heap.DictOf (aP X.prog X.w) s.heap.objs.size (DG [] qs)),∃v H',Inv X pins σ H' s'/\RelV v (.ref s.heap.objs.size)/\Q v H':=by
  intro its r1 qs g1 s' kp hg hdr hos dd;have hf:H s.heap.objs.size=none:=I.hok.fresh (le_refl _);refine⟨.ref s.heap.objs.size,upd H s.heap.objs.size (.dK (DH ps)),?_,rfl,q _ hf⟩;have big:=I.big;have L:=I.laid (h':=s'.heap) (a:=s.heap.objs.size) (o:=.dK (DH ps)) (t':=s'.toks) kp (le_refl _) (Dr (by
    have:=yK ps [];have:=hp.length;show(DH ps).length<=sizeLine;rw[sizeLine_eq];unfold DH;simp only[List.length_nil]at *;omega) (by rw[beq_eq_false_iff_ne];exact fun z=>lt_irrefl _ (z ▸ big)) (Kc g1 .nil) dd)
  obtain⟨hp',g',d',t',o'⟩:=s';obtain⟨hp0,g0,d0,t0,o0⟩:=s;simp only at hg hdr hos;subst hg hdr hos;exact L
 rcases ha with ha|ha
 ·obtain⟨its,r1,tp,_⟩:=I.tuple ha
  obtain⟨qs,g1,g2,g3⟩:=hp.vals I r1;have hlen:=r1.length;have e1:its.toArray.size=its.length:=by simp
  exact ny tp (I.noDi ha) (I.ok.hd hc) (ps:=qs) (by rw[e1];exact g2) (by rw[e1];omega) (fun i v e=>g3 i v (by simpa using e)) (fin r1 g1)
 ·obtain⟨its,r1,tp,_⟩:=I.list ha
  obtain⟨qs,g1,g2,g3⟩:=hp.vals I r1;have hlen:=r1.length;have e1:its.toArray.size=its.length:=by simp
  exact mF tp (I.ok.hd hc) (ps:=qs) (by rw[e1];exact g2) (by rw[e1];omega) (fun i v e=>g3 i v (by simpa using e)) (fin r1 g1)
theorem EJ{K:Fg}{Z H:Hp}(zh:Same Z H){v:V}{d:D}{p:bb×D}(r:Rep K Z v d)(h:Cd d=some p):∃b w,v=.ref b/\SqT K H b [kV p.1,w]/\Rep K Z w p.2:=by
 unfold Cd at h;split at h
 rotate_left
 ·cases h
 rename_i dk dv;obtain⟨k,e1,h⟩:=bind_some h;cases h;cases r with
 |tup sq rs=>
  cases rs with
  |cons r1 rs=>
   cases rs with
   |cons r2 rs=>
    cases rs;have:=pO r1 e1;subst this;exact⟨_,_,rfl,SqT.same sq zh,r2⟩
theorem oW{K:Fg}{Z H:Hp}(zh:Same Z H):∀{vs:List V} {ds:List D} {ps:List (bb×D)},Reps K Z vs ds->tu ds=some ps->∃qs:List (bb×V),PairsV K H vs qs/\qs.map (·.1)=ps.map (·.1)/\Reps K Z (qs.map (·.2)) (ps.map (·.2))
 |_,_,_,.nil,h=>by cases h;exact⟨[],.nil,rfl,.nil⟩
 |_,_,_,.cons r rs,h=>by
  obtain⟨p,e1,h⟩:=bind_some h;obtain⟨ps,e2,h⟩:=bind_some h;cases h;obtain⟨b,w,rfl,g1,g2⟩:=EJ zh r e1;obtain⟨qs,g3,g4,g5⟩:=oW zh rs e2;exact⟨(p.1,w)::qs,.cons g1 g3,by simp[g4],.cons g2 g5⟩
theorem oT{K:Fg}{Z:Hp}:∀{qs:List (bb×V)} {ps:List (bb×D)},qs.map (·.1)=ps.map (·.1)->Reps K Z (qs.map (·.2)) (ps.map (·.2))->∀{kvs:List (bb×V)} {es:List (bb×D)},nE K Z kvs es->nE K Z (qs.foldl (fun acc p=>iQ acc p.1 p.2) kvs) (ps.foldl (fun acc p=>oX acc p.1 p.2) es)
 |[],[],_,_,kvs,es,h=>h
 |[],_::_,e,_,_,_,_=>by simp at e
 |_::_,[],e,_,_,_,_=>by simp at e
 |q::qs,p::ps,e,r,kvs,es,h=>by
  simp only[map_cons,List.cons.injEq]at e;cases r with
  |cons r1 r2=>
   refine oT e.2 r2 ?_;dsimp only;rw[e.1];exact u8 h p.1 r1
theorem Et(i:Nat){x:Str}{e:Expr}{f:Dv->Option D}{p pos pos' cpos:Pos}(hN:X.N.Nodup)(hg:Gl X "dict")(hm:X.mg "dict" = none)(he':EV X e f)(hc:X.calm=true:=by rfl)(hi:X.N[i]? = some x:=by rfl)(hx:zv X.env.scope x:=by first|exact Or.inl rfl|exact Or.inr rfl)
  (he:starEach [e] X.env=(false,eval e X.env)::starEach [] X.env:=by rfl) (hpl:(backTo cpos (starEach [] X.env)).any (·.1)=false:=by rfl)
  (hs:swapsWith (.Call (.Name "dict" p) [e] [] cpos) (some (.Name x pos')) pos.line X.env=pure false:=by rfl)
  (hf:X.fn x=true\/X.env.scope.names.lookup x=some .local:=by first|exact .inl rfl|exact .inr rfl|assumption):SV X (.Assign [.Name x pos'] (.Call (.Name "dict" p) [e] [] cpos) pos) (wq i f):=
 PS.imp (ma hN hi hx (rR (xy hc) hg hm (by decide +kernel) (gQ he' ki he) (by decide) (by decide) he hpl) hs hf) fun D σ H h=>by
  obtain⟨H₀,Z₀,Z,δ,r,hh,e,k⟩:=h;obtain⟨d,e1,e⟩:=bind_some e;obtain⟨es,e2,e⟩:=bind_some e;cases e;refine⟨H₀,Z₀,Z,δ,d,hh,e1,fun v Z1 H1 hh1 t1 r1=>?_⟩
  unfold za at e2;split at e2
  ·rename_i ds
   obtain⟨ps,e3,e2⟩:=bind_some e2;obtain⟨hl,e2⟩:=eB e2;cases e2;cases r1 with
   |tup sq rs=>
    obtain⟨qs,g1,g2,g3⟩:=oW hh1.zh rs e3;refine⟨_,_,qs,rfl,.inl (SqT.same sq hh1.zh),g1,by rw[rs.length];exact hl,fun l hl'=>?_⟩
    exact k _ _ Z1 (hh1.setW hl' (.dct (oT g2 g3 ⟨rfl,.nil⟩))) t1
  ·rename_i ds
   obtain⟨ps,e3,e2⟩:=bind_some e2;obtain⟨hl,e2⟩:=eB e2;cases e2;cases r1 with
   |lst sq rs=>
    obtain⟨qs,g1,g2,g3⟩:=oW hh1.zh rs e3;refine⟨_,_,qs,rfl,.inr (SqL.same sq hh1.zh),g1,by rw[rs.length];exact hl,fun l hl'=>?_⟩
    exact k _ _ Z1 (hh1.setW hl' (.dct (oT g2 g3 ⟨rfl,.nil⟩))) t1
  ·cases e2
end
def less(a:Addr)(H:Hp):Hp:=fun b=>if b=a then none else H b
noncomputable def CW:List D->Option (List Int)
 |[]=>some []
 |.int i::r=>(CW r).bind fun l=>some (i::l)
 |_::_=>none
def dA(ns:List Int)(x:Int):List Int:=if x∈ns then ns else ns++[x]
def jf(l:List Int):List Int:=l.foldl dA []
noncomputable def kN(d:D):Option D:=(eA d).bind fun ds=>(CW ds).bind fun l=>if l.length<64 then some (.list ((dB (jf l)).map .int))else none
def UpA(xs:Array Nat):Prop:=∀i j (hi:i<xs.size) (hj:j<xs.size),i<j->xs[i]<xs[j]
theorem qm{xs:Array Nat}{j:Nat}(hu:UpA xs):∀(f lo hi:Nat),hi-lo<=f->lo<=hi->hi<=xs.size ->
  (∀i (h:i<xs.size),i<lo->xs[i]<j)->(∀i (h:i<xs.size),hi<=i->j<=xs[i]) ->
  SetTable.below.go xs j f lo hi<=xs.size/\(∀i (h:i<xs.size),i<SetTable.below.go xs j f lo hi->xs[i]<j)/\(∀i (h:i<xs.size),SetTable.below.go xs j f lo hi<=i->j<=xs[i])
 | 0,lo,hi,h1,h2,h3,a,b=>by
  have:lo=hi:=by omega
  subst this;exact⟨h3,a,b⟩
 |f+1,lo,hi,h1,h2,h3,a,b=>by
  unfold SetTable.below.go;by_cases h:lo<hi
  ·rw[if_pos h]
   have hm:(lo+hi)/2<xs.size:=by omega
   have e:xs.getD ((lo+hi)/2) j=xs[(lo+hi)/2]:=by simp[Array.getD,hm]
   dsimp only;rw[e];by_cases h':xs[(lo+hi)/2]<j
   ·rw[if_pos h']
    refine qm hu f _ hi (by omega) (by omega) h3 (fun i hi' hl=>?_) b;by_cases e2:i=(lo+hi)/2
    ·subst e2;exact h'
    ·exact Nat.lt_trans (hu i _ hi' hm (by omega)) h'
   ·rw[if_neg h']
    refine qm hu f lo _ (by omega) (by omega) (by omega) a fun i hi' hl=>?_
    by_cases e2:i=(lo+hi)/2
    ·subst e2;omega
    ·have:=hu _ i hm hi' (by omega);omega
  ·rw[if_neg h]
   have:lo=hi:=by omega
   subst this;exact⟨h3,a,b⟩
theorem qk{xs:Array Nat}(hu:UpA xs)(j:Nat):SetTable.below xs j<=xs.size/\(∀i (h:i<xs.size),i<SetTable.below xs j->xs[i]<j)/\(∀i (h:i<xs.size),SetTable.below xs j<=i->j<=xs[i]):=
 qm hu xs.size 0 xs.size (by omega) (by omega) (le_refl _) (fun i _ h=>absurd h (by omega)) (fun i h h'=>absurd h (by omega))
theorem tX{xs:Array Nat}{p x:Nat}(hp:p<=xs.size)(i:Nat):(SetTable.insertAt xs p x)[i]? = if i<p then xs[i]? else if i=p then some x else xs[i-1]?:=by
 rw[<-getElem?_toList,SetTable.toList_insertAt];have hl:(xs.toList.take p).length=p:=by rw[List.length_take,length_toList];omega
 by_cases h1:i<p
 ·rw[if_pos h1,List.getElem?_append_left (by omega),List.getElem?_take_of_lt h1,getElem?_toList]
 ·rw[if_neg h1,List.getElem?_append_right (by omega),hl]
  by_cases h2:i=p
  ·subst h2
   rw[if_pos rfl,Nat.sub_self,List.getElem?_cons_zero]
  ·rw[if_neg h2]
   obtain⟨k,rfl⟩:∃k,i=p+k+1:=⟨i-p-1,by omega⟩;rw[show p+k+1-p=k+1 by omega,List.getElem?_cons_succ,List.getElem?_drop,getElem?_toList];rfl
theorem UpA.iff{xs:Array Nat}:UpA xs↔∀i j a b:Nat,i<j->xs[i]? = some a->xs[j]? = some b->a<b:=by
 constructor
 ·intro h i j a b hij ha hb
  obtain⟨h1,rfl⟩:=Array.getElem?_eq_some_iff.mp ha;obtain⟨h2,rfl⟩:=Array.getElem?_eq_some_iff.mp hb;exact h i j h1 h2 hij
 ·intro h i j hi hj hij
  exact h i j _ _ hij (Array.getElem?_eq_getElem hi) (Array.getElem?_eq_getElem hj)
theorem UpA.insert{xs:Array Nat}{j:Nat}(hu:UpA xs)(hn:xs[SetTable.below xs j]? ≠ some j):UpA (SetTable.insertAt xs (SetTable.below xs j) j):=by
 obtain⟨h1,h2,h3⟩:=qk hu j;have lo:∀i a,i<SetTable.below xs j->xs[i]? = some a->a<j:=fun i a hi e=>by
  obtain⟨q,rfl⟩:=Array.getElem?_eq_some_iff.mp e;exact h2 i q hi
 have hi:∀i a,SetTable.below xs j<=i->xs[i]? = some a->j<a:=fun i a hi e=>by
  obtain⟨q,rfl⟩:=Array.getElem?_eq_some_iff.mp e;have hb:SetTable.below xs j<xs.size:=by omega
  have e1:j<=xs[SetTable.below xs j]:=h3 _ hb (le_refl _);have e2:xs[SetTable.below xs j]≠j:=fun z=>hn (by rw[Array.getElem?_eq_getElem hb,z])
  by_cases e3:i=SetTable.below xs j
  ·subst e3;omega
  ·have:=hu _ i hb q (by omega);omega
 rw[UpA.iff]at hu ⊢;intro i k a b hik ha hb;rw[tX h1]at ha hb;split at ha<;>split at hb
 ·exact hu i k a b hik ha hb
 ·split at hb
  ·cases hb;exact lo i a ‹_› ha
  ·exact Nat.lt_trans (lo i a ‹_› ha) (hi _ b (by omega) hb)
 ·omega
 ·split at ha<;>split at hb
  ·omega
  ·cases ha;exact hi _ b (by omega) hb
  ·omega
  ·exact hu (i-1) (k-1) a b (by omega) ha hb
theorem rL{t:SetTable}{j:Nat}(h:t.slot j=.empty\/t.slot j=.dummy):t.place[SetTable.below t.place j]? ≠ some j:=by
 intro e;unfold SetTable.slot at h;simp[e]at h
theorem oZ{t:SetTable}{f:Nat->Int}{h:Int}:∀(n:Nat) (p:SetTable.Probe) (j:Nat) (d:Option Nat),(∀x,p.dummy=some x->t.slot x=.dummy)->SetTable.probe.go t f h n p=some (.empty j d)->t.slot j=.empty/\∀x,d=some x->t.slot x=.dummy
 | 0,p,j,d,hp,e=>by cases e
 |n+1,p,j,d,hp,e=>by
  unfold SetTable.probe.go at e;have adv:∀q:SetTable.Probe,(t.advance q).dummy=q.dummy:=fun q=>by unfold SetTable.advance;split<;>rfl
  split at e
  ·rename_i hs;cases e;exact⟨hs,hp⟩
  ·rename_i hs
   refine oZ n _ j d (fun x hx=>?_) e;rw[adv]at hx;cases hx;exact hs
  ·split at e
   ·cases e
   ·exact oZ n _ j d (fun x hx=>hp x (by rwa [adv]at hx)) e
theorem qX{t:SetTable}{h:Int}{j:Nat}{b:Bool}(e:t.freeSlot h=some (j,b)):t.place[SetTable.below t.place j]? ≠ some j:=by
 unfold SetTable.freeSlot at e;split at e
 ·rename_i j' d hq
  cases e;have:=oZ _ _ _ _ (fun x hx=>by cases hx) hq;cases d with
  |none=>exact rL (.inl this.1)
  |some x=>exact rL (.inr (this.2 x rfl))
 ·cases e
structure WkT (led:Bool) (t:SetTable):Prop where
 led:t.led=led
 up:t.plain=true->UpA t.place
theorem WkT.fresh(led:Bool):WkT led (.fresh 0 0 led):=⟨rfl,fun _ i j hi=>absurd hi (by simp[SetTable.fresh])⟩
theorem WkT.standIn{led:Bool}{t:SetTable}(h:WkT led t)(n:Nat):WkT led (t.standIn n):=⟨h.led,fun e=>by cases e⟩
theorem WkT.orStandIn{led:Bool}{t:SetTable}(h:WkT led t)(n:Nat):WkT led (t.orStandIn n):=by
 unfold SetTable.orStandIn;split
 ·exact h
 ·exact h.standIn n
theorem WkT.put{led:Bool}{t:SetTable}(h:WkT led t){x:Int}{j:Nat}{b:Bool}(e:t.freeSlot x=some (j,b)):WkT led (t.put j).1:=⟨h.led,fun q=>(h.up q).insert (qX e)⟩
theorem WkT.layNew{led:Bool}{t:SetTable}(h:WkT led t)(es:Array (Int×Value))(x:Int)(v:Value):WkT led (layNew t es x v).2.1:=by
 unfold PySem.layNew;split
 ·rename_i e;exact(h.put e).orStandIn _
 ·exact h.standIn _
theorem iP(f:Nat->Option Nat):∀(l:List Nat),l.Pairwise (· < ·)->((l.filterMap fun j=>(f j).map (j,·)).map (·.1)).Pairwise (· < ·)
 |[],_=>.nil
 |a::l,h=>by
  obtain⟨h1,h2⟩:=List.pairwise_cons.mp h;rw[List.filterMap_cons];cases f a with
  |none=>exact iP f l h2
  |some b=>
   refine List.pairwise_cons.mpr ⟨fun z hz=>?_,iP f l h2⟩
   obtain⟨q,hq,rfl⟩:=List.mem_map.mp hz;obtain⟨c,hc,e⟩:=List.mem_filterMap.mp hq;obtain⟨d,_,rfl⟩:=Option.map_eq_some_iff.mp e;exact h1 _ hc
theorem WkT.relay{led:Bool}{t:SetTable}(h:WkT led t)(es:Array (Int×Value))(n:Nat):WkT led (relayAll t es n).2.1:=by
 unfold relayAll;split
 ·rename_i t' order e
  dsimp only;split
  ·unfold SetTable.relaid SetTable.laid at e
   obtain⟨o,_,e⟩:=Option.bind_eq_some_iff.mp e;cases e;refine⟨h.led,fun _ i j hi hj hij=>?_⟩
   have:=iP (fun j=>o.getD j none) (List.range (SetTable.sizeAbove n-1+1)) List.pairwise_lt_range;have:=List.pairwise_iff_getElem.mp this i j (by simpa using hi) (by simpa using hj) hij;simpa using this
  ·exact h.standIn _
 ·exact h.standIn _
theorem ql{xs:Array Nat}(hu:UpA xs){i:Nat}(hi:i<xs.size):SetTable.below xs (xs[i]+1)=i+1:=by
 obtain⟨h1,h2,h3⟩:=qk hu (xs[i]+1);have a:i<SetTable.below xs (xs[i]+1):=by
  refine Nat.lt_of_not_le fun h=>?_
  have:=h3 i hi h;omega
 have b:¬(i+1<SetTable.below xs (xs[i]+1)):=fun h=>by
  have q:=h2 (i+1) (by omega) h;have:=hu i (i+1) hi (by omega) (by omega);omega
 omega
theorem qj{xs:Array Nat}(hu:UpA xs):SetTable.below xs 0=0:=by
 obtain⟨h1,h2,h3⟩:=qk hu 0;refine Nat.eq_zero_of_not_pos fun h=>?_
 have:=h2 0 (by omega) h;omega
def sL:Value->Int
 |.int k _=>k
 |_=>0
def xK(e:Int×Value):Prop:=∃k t,e=(hashInt k,Value.int k t)
def SetJ(w:World)(h:Heap)(a:Addr)(ns:List Int):Prop:=∃es ep t,h.get? a=some { cls:=.type "set",dict:=none,data:=.set es ep t,slots:=#[] }/\(∀e∈es.toList,xK e)/\(es.toList.map fun e=>sL e.2).Perm ns/\ns.length<scanBound/\t.fits es.size=true/\WkT (!w.params.followText "set-order") t
theorem SetJ.at{w:World}{h h':Heap}{a:Addr}{ns:List Int}(x:SetJ w h a ns)(e:∀o,h.get? a=some o->h'.get? a=some o):SetJ w h' a ns:=
 let ⟨es,ep,t,ho,r⟩:=x
 ⟨es,ep,t,e _ ho,r⟩
theorem wk(ns:List Int)(x:Int):(dA ns x).length<=ns.length+1:=by
 unfold dA;split
 ·omega
 ·simp
section
variable{prog:Program}{w:World}{A:Around}{E:Value->Shared->Prop}{s:Shared}
theorem pR{es:Array (Int×Value)}(h:∀e∈es.toList,xK e):ElemsOf (intKind prog w) es.toList:=fun e he=>by
 obtain⟨k,t,rfl⟩:=h e he;exact⟨⟨k,intKind_is prog w k t,rfl⟩,rfl⟩
theorem AB{l:List (Int×Value)}(h:∀e∈l,xK e)(k:Int):(l.findIdx? fun e=>(intKind prog w).is k e.2)=none↔k ∉ l.map fun e=>sL e.2:=by
 rw[List.findIdx?_eq_none_iff];constructor
 ·intro q z
  obtain⟨e,he,rfl⟩:=List.mem_map.mp z;obtain⟨k',t,rfl⟩:=h e he;have:=q _ he;rw[show(sL (hashInt k',Value.int k' t).2)=k' from rfl,show((hashInt k',Value.int k' t):Int×Value).2=Value.int k' t from rfl,intKind_is]at this;cases this
 ·intro q e he
  obtain⟨k',t,rfl⟩:=h e he;have hne:k≠k':=fun z=>q (List.mem_map.mpr ⟨_,he,z.symm⟩)
  cases hx:(intKind prog w).is k ((hashInt k',Value.int k' t):Int×Value).2 with
  |false=>rfl
  |true=>exact absurd ((intKind prog w).inj _ _ _ hx (intKind_is prog w k' t)) hne
theorem uT{h:Heap}{a:Addr}{es es':Array (Int×Value)}{ep:Nat}{t t':SetTable}{ns:List Int}(ho:h.get? a=some { cls:=.type "set",dict:=none,data:=.set es ep t,slots:=#[] })(h1:∀e∈es'.toList,xK e)(h2:(es'.toList.map fun e=>sL e.2).Perm ns)(h3:ns.length<scanBound)(h4:t'.fits es'.size=true)(h5:WkT (!w.params.followText "set-order") t'):
  (h.update a (Obj.putSet es' t')).get? a=some { cls:=.type "set",dict:=none,data:=.set es' (ep+1) t',slots:=#[] }/\SetJ w (h.update a (Obj.putSet es' t')) a ns:=by
 have g:=get?_update_self (Obj.putSet es' t') ho (by rw[putSet_of es' t' rfl];rfl);rw[putSet_of es' t' rfl]at g;exact⟨g,es',ep+1,t',g,h1,h2,h3,h4,h5⟩
theorem va{l l':List (Int×Value)}(p:List.Perm l' l):(l'.map fun e=>sL e.2).Perm (l.map fun e=>sL e.2):=p.map _
theorem EF{a:Addr}{x:Int}{tk:Tok}{ns:List Int}{Q:Bool->Shared->Prop}(hS:SetJ w s.heap a ns)(hroom:ns.length+1<scanBound)
  (h:∀h' b,Heap.SameBut a s.heap h'->SetJ w h' a (dA ns x)->Q b { s with heap:=h' }):wpAny (model prog w) A (setAddHashed a (.int x tk) (hashInt x)) Q E s:=by
 obtain⟨es,ep,t,ho,hel,hp,hb,hf,hw⟩:=hS;have hsz:es.size=ns.length:=by
  have:=hp.length_eq;rw[length_map,length_toList]at this;exact this
 have fl:=AB (prog:=prog) (w:=w) hel x;unfold setAddHashed setAddHashedIn;refine wpAny_holding (wpAny_bind (wpAny_setState_of ho rfl hf ?_));dsimp only;rw[byScan_of (knd:=intKind prog w) (x:=Value.int x tk) rfl (by omega) (pR hel)];simp only[↓reduceIte];unfold setAddByScan;refine wpAny_bind (wpAny_bind (wpAny_rule (wpAny_bind (wpAny_setScan_of (knd:=intKind prog w) (k:=x) (intKind_is prog w x tk) ho rfl hf (pR hel) ?_))));cases hr:es.toList.findIdx? fun e=>(intKind prog w).is x e.2 with
 |some j=>
  have hin:x∈ns:=by
   refine hp.mem_iff.mp (Classical.byContradiction fun z=>?_);rw[fl.mpr z]at hr;cases hr
  have e:dA ns x=ns:=if_pos hin;rw[e]at h;dsimp only;exact wpAny_pure (wpAny_pure (h s.heap _ (Heap.SameBut.refl a s.heap) ⟨es,ep,t,ho,hel,hp,hb,hf,hw⟩))
 |none=>
  have hin:x ∉ ns:=fun z=>fl.mp hr (hp.mem_iff.mpr z)
  have e:dA ns x=ns++[x]:=if_neg hin;rw[e]at h;dsimp only;have gw:∀(b:Bool) {s1:Shared} {Q':Unit->Shared->Prop},Q' () s1->wpAny (model prog w) A (match b with
   |true=>rule "set.scan.the-table-gave-way"
   |false=>pure ()) Q' E s1:=fun b s1 Q' hq=>by
   cases b
   ·exact wpAny_pure hq
   ·exact wpAny_rule hq
  have q1:=layNew_perm t es (hashInt x) (.int x tk);have q2:=layNew_fits t es (hashInt x) (.int x tk);have q3:=hw.layNew es (hashInt x) (.int x tk);generalize hL:PySem.layNew t es (hashInt x) (.int x tk)=L at q1 q2 q3;obtain⟨es1,t1,wd,gv⟩:=L;have hL':PySem.layNew t es ((intKind prog w).hash x) (.int x tk)=(es1,t1,wd,gv):=hL;dsimp only at q1 q2 q3;rw[toList_push]at q1;have el1:∀e∈es1.toList,xK e:=fun e he=>by
   rcases List.mem_append.mp (q1.mem_iff.mp he)with he|he
   ·exact hel e he
   ·rw[List.mem_singleton.mp he];exact⟨x,tk,rfl⟩
  have pm1:(es1.toList.map fun e=>sL e.2).Perm (ns++[x]):=(va q1).trans (by
   rw[map_append];exact hp.append_right _)
  have ln1:(ns++[x]).length<scanBound:=by simpa using hroom
  have sz1:es1.size=(ns++[x]).length:=by
   have:=pm1.length_eq;rw[length_map,length_toList]at this;exact this
  dsimp only;refine wpAny_bind (gw _ ?_);refine wpAny_ite_split (fun _=>?_) (fun _=>?_)<;>refine wpAny_bind (wpAny_of_eq (a:=true) rfl ?_)<;>simp only[↓reduceIte]
  all_goals
   obtain⟨g1,g2⟩:=uT (w:=w) ho el1 pm1 ln1 q2 q3;refine wpAny_bind (wpAny_storeSet_of ho rfl ?_ (fits_of_scanBound (by omega)));have sb:=Heap.SameBut.update s.heap a (Obj.putSet es1 t1);split
   ·have r1:=relayAll_perm t1 es1 (SetTable.grown es1.size)
    have r2:=relayAll_fits t1 es1 (SetTable.grown es1.size);have r3:=q3.relay es1 (SetTable.grown es1.size);generalize relayAll t1 es1 (SetTable.grown es1.size)=Rl at r1 r2 r3;obtain⟨es2,t2,gv2⟩:=Rl;dsimp only at r1 r2 r3 ⊢;have el2:∀e∈es2.toList,xK e:=fun e he=>el1 e (r1.mem_iff.mp he)
    have pm2:(es2.toList.map fun e=>sL e.2).Perm (ns++[x]):=(va r1).trans pm1;have sz2:es2.size=(ns++[x]).length:=by
     have:=pm2.length_eq;rw[length_map,length_toList]at this;exact this
    refine wpAny_bind (gw _ ?_);refine wpAny_bind (wpAny_storeSet_of g1 rfl ?_ (fits_of_scanBound (by omega)));exact wpAny_pure (wpAny_pure (h _ _ (sb.trans (Heap.SameBut.update _ a _)) (uT (w:=w) g1 el2 pm2 ln1 r2 r3).2))
   ·exact wpAny_pure (wpAny_pure (h _ _ sb g2))
end
theorem oM:∀(l ns:List Int),(l.foldl dA ns).length<=ns.length+l.length
 |[],ns=>by simp
 |x::l,ns=>by
  have h1:=oM l (dA ns x);have h2:=wk ns x;show(l.foldl dA (dA ns x)).length<=_;rw[length_cons];omega
theorem zP{ns:List Int}{i:Nat}{k:Int}(h:ns[i]? = some k):jf (ns.take (i+1))=dA (jf (ns.take i)) k:=by
 unfold jf;rw[List.take_succ,h,List.foldl_append];rfl
abbrev bG(led:Bool):Obj:={ cls:=.type "set",dict:=none,data:=.set #[] 0 (.fresh 0 0 led) }
theorem setJ_fresh{w:World}{h:Heap}:SetJ w (h.push (bG (!w.params.followText "set-order"))) h.objs.size []:=
 ⟨#[],0,_,get?_push_size _ rfl,fun e he=>by simp at he,.refl _,by decide,rfl,WkT.fresh _⟩
section
variable{prog:Program}{w:World}{A:Around}{R:Result->Shared->Prop}{I:Addr}{fp wr:List Addr}{G:Array GenState->Array GenState->Prop}{n:Nat}{P:Nat->Value->Prop}{St:Nat->Shared->Prop}
theorem uR(W:WalksS prog w A.in1 I fp wr G n P St)(S:Addr)(hSf:S ∉ fp)(ns:List Int)(hn:ns.length=n)(hP:∀i v,P i v->∃k t,ns[i]? = some k/\v=.int k t)(hz:n+1<scanBound):
  ∀(k i:Nat) (s:Shared),n-i=k->i<=n->St i s->SetJ w s.heap S (jf (ns.take i))->(∀s',Moved (S::wr) G s s'->SetJ w s'.heap S (jf ns)->R (.ok (.ret .none)) s') ->
   codeAny (model prog w) A (.builtin "set.update.loop" ⟨[.ref S,.ref I],[]⟩) R s:=by
 have nw:S ∉ wr:=fun h=>hSf (W.sub _ h)
 have up:∀b∈wr,b∈S::wr:=fun b hb=>mem_cons_of_mem _ hb
 intro k
 induction k with
 |zero=>
  intro i s hk hi hst hS hR;have e:i=n:=by omega
  subst e;refine codeAny_builtin F.entry_set_update_loop ?_;rw[Around.under_plainId F.plain_set_update_loop _];refine wpAny_bind (m:=pyNext (.ref I)) (W.done s _ _ hst fun s' hm=>?_);rw[<-hn,List.take_length]at hS;exact wpAny_pure (hR s' (hm.mono up) (hS.at fun o e=>hm.heap S o nw e))
 |succ k ih=>
  intro i s hk hi hst hS hR;have hlt:i<n:=by omega
  refine codeAny_builtin F.entry_set_update_loop ?_;rw[Around.under_plainId F.plain_set_update_loop _];refine wpAny_bind (m:=pyNext (.ref I)) (W.item i s _ _ hlt hst fun v s' hPv hst' hm=>?_);obtain⟨x,t,hx,rfl⟩:=hP i v hPv;have hS':=hS.at fun o e=>hm.heap S o nw e
  refine wpAny_bind (m:=holding [Value.int x t] (setAdd S (.int x t))) (wpAny_holding ?_);unfold setAdd;refine wpAny_holding (wpAny_bind ((intKind prog w).pyHash (k:=x) (intKind_is prog w x t) ?_));have ln:(jf (ns.take i)).length<=i:=by
   have:=oM (ns.take i) [];rw[List.length_take]at this;unfold jf;simp only[List.length_nil]at this;omega
  refine EF (s:={ s' with toks:=s'.toks+1 }) hS' (by omega) fun h' b hsb hS2=>?_
  rw[<-zP hx]at hS2;refine wpAny_pure ⟨plainId_quiet F.plain_set_update_loop _,ih (i+1) _ (by omega) hlt (W.frame _ s' _ _ hst' (le_succ _) fun b hb o e=>?_) hS2 fun s'' hm'' hS''=>?_⟩
  ·rw[hsb.2 b (fun z=>hSf (z ▸ hb))];exact e
  ·refine hR s'' (Moved.trans W.gtrans ((hm.mono up).then_heap (le_succ _) fun b o hb e=>?_) hm'') hS''
   rw[hsb.2 b (fun z=>hb (z ▸ mem_cons_self))];exact e
end
section
variable{prog:Program}{w:World}{A:Around}{E:Value->Shared->Prop}{s:Shared}
theorem qc(a:Value){Q:Value->Shared->Prop}(h:Q (.ref s.heap.objs.size) { s with heap:=s.heap.push (bG (!w.params.followText "set-order")) }):
  codeAny (model prog w) A (.call (.builtin "set.__new__") ⟨[.type "set",a],[]⟩) (wants Q E) s:=by
 refine codeAny_of_tree ?_;refine wpAny_bind (m:=checkBuiltinCall "set.__new__" ⟨[.type "set",a],[]⟩) (wpAny_of_eq (F.newCall_set_1 a) (wpAny_pure ⟨plainId_quiet F.plain_set_new _,codeAny_builtin F.entry_set_new ?_⟩));rw[Around.under_plainId F.plain_set_new _];unfold Builtin.«set.__new__» Builtin.Frozenset.newClass;have f1:=sub_set_self;obtain⟨hp,g,d,tk,os⟩:=s;dsimp only
 wp_walk
 refine wpAny_askSetting (wpAny_pure ?_);dsimp only;simp only[newObj];exact wpAny_bind (wpAny_alloc (wpAny_pure (wpAny_pure h)))
theorem uf{v:Value}{Q:Value->Shared->Prop}
  (h:∀A':Around,A'.handled=A.handled->wpAny (model prog w) A' (Builtin.Frozenset.updateFrom "set.__init__" s.heap.objs.size v) (fun _ s2=>Q (.ref s.heap.objs.size) s2) E { s with heap:=s.heap.push (bG (!w.params.followText "set-order")) }) :
  wpAny (model prog w) A (call (.type "set") [v]) Q E s:=by
 obtain⟨c,tl,hmro⟩:=F.called_set.mro;have hmade:=F.called_set.made;have hsub:=F.called_set.sub;refine wpAny_call (codeAny_of_tree ?_);show wpAny _ _ (callAny (.type "set") _) _ _ _;refine wpAny_pure ⟨Code.quiet_builtin _ (by decide +kernel),codeAny_builtin F.entry_type_call ?_⟩;rw[Around.under_plain (weight_type_call_type "set" [v] []) rfl];have h1:=F.called_set.notType;have h2:=F.called_set.canCreate;have hct:=F.typeCall_set_1 v
 repeat (any_goals (first|assumption|wp_step))
 refine codeAny_mono (qc v (E:=E) (Q:=fun obj s1=>obj=.ref s.heap.objs.size/\s1={ s with heap:=s.heap.push (bG (!w.params.followText "set-order")) }) ⟨rfl,rfl⟩) fun r s1 hr=>?_
 cases r with
 |error e=>exact hr
 |ok fl=>
  cases fl with
  |ret obj=>
   obtain⟨rfl,rfl⟩:=hr;have hT:Shared.TypeIs { s with heap:=s.heap.push (bG (!w.params.followText "set-order")) } (.ref s.heap.objs.size) "set":=⟨_,get?_push_size _ rfl,rfl⟩;have hS:(s.heap.push (bG (!w.params.followText "set-order"))).get? s.heap.objs.size=some (bG (!w.params.followText "set-order")):=get?_push_size _ rfl;have hli:=F.called_set.init.lookup;have hbi:=F.called_set.init.bind (.ref s.heap.objs.size)
   repeat (any_goals (first|assumption|wp_step))
   refine codeAny_mono (codeAny_call_builtin (R:=wants (fun r s2=>r=.none/\Q (.ref s.heap.objs.size) s2) E) F.called_set.init.plain F.entry_set_init (check_set_init_1 hT ?_)) fun r2 s2 hr2=>?_
   ·unfold Builtin.«set.__init__» noKeywords
    generalize hUF:Builtin.Frozenset.updateFrom=UF
    wp_walk
    subst hUF;refine wpAny_mono (h _ (by simp)) (fun _ s2 q=>?_) fun _ _ e=>e
    exact wpAny_pure ⟨rfl,q⟩
   ·cases r2 with
    |error e=>exact hr2
    |ok fl2=>
     cases fl2 with
     |ret r=>
      obtain⟨rfl,q⟩:=hr2
      repeat (any_goals (first|assumption|wp_step))
     |_=>exact hr2.elim
  |_=>exact hr.elim
end
theorem qJ:isSubtype (.type "tuple") (.type "set")=pure false:=by rw[isSubtype_type];kernel_rfl
theorem jW:isSubtype (.type "tuple") (.type "frozenset")=pure false:=by rw[isSubtype_type];kernel_rfl
theorem wZ{items:Array Value}{ns:List Int}(hi:IntsAre items.toList ns):ns.length=items.size/\∀(i:Nat) (v:Value),items[i]? = some v->∃k t,ns[i]? = some k/\v=Value.int k t:=by
 have hl:ns.length=items.size:=by
  have:=IntsAre.length hi;rw[length_toList]at this;omega
 refine⟨hl,fun i v e=>?_⟩
 obtain⟨t,q⟩:=IntsAre.int_at hi i v (by rw[getElem?_toList];exact e);have h:i<ns.length:=by
  have:=(Array.getElem?_eq_some_iff.mp e).1;omega
 exact⟨ns[i],t,by simp[h],by rw[q,getD_eq_getElem?_getD];simp[h]⟩
section
variable{prog:Program}{w:World}{A:Around}{E:Value->Shared->Prop}{s:Shared}
theorem re{l:Addr}{items:Array Value}{ns:List Int}{Q:Value->Shared->Prop}(hh:A.handled=none)(hl:s.heap.IsList l items\/s.heap.IsTuple l items)(hi:IntsAre items.toList ns)(hb:items.size+1<scanBound)
  (h:∀(h':Heap) (tk:Nat),SetJ w h' s.heap.objs.size (jf ns)->(∀b o,s.heap.get? b=some o->h'.get? b=some o)->Q (.ref s.heap.objs.size) { s with heap:=h',toks:=tk }):wpAny (model prog w) A (call (.type "set") [.ref l]) Q E s:=by
 obtain⟨hn,hP⟩:=wZ hi;refine uf fun A' hA=>?_
 have hh':A'.handled=none:=hA.trans hh;have fin:∀(s':Shared) (I:Addr) (o:Obj),Moved [s.heap.objs.size,I] (fun a b=>b=a) { s with heap:=(s.heap.push (bG (!w.params.followText "set-order"))).push o } s'->I=(s.heap.push (bG (!w.params.followText "set-order"))).objs.size->SetJ w s'.heap s.heap.objs.size (jf ns)->Q (.ref s.heap.objs.size) s':=fun s' I o hm hI hS=>by
  obtain⟨h',g',d',tk',os'⟩:=s';have eg:g'=s.gens:=hm.gens;have ed:d'=s.drawn:=hm.drawn;have eo:os'=s.os:=hm.os;subst eg ed eo;refine h h' tk' hS fun b o' e=>?_
  have lt:=lt_size e;refine hm.heap b o' ?_ (get?_push_of_some _ (get?_push_of_some _ e));rw[hI,Heap.size_push];simp only[mem_cons,not_mem_nil,or_false,not_or];exact⟨ne_of_lt lt,ne_of_lt (lt_succ_of_lt lt)⟩
 rcases hl with hl|hl
 ·obtain⟨ol,hol,hcl,nl,hdl⟩:=hl
  obtain⟨ocls,odict,odata,oslots⟩:=ol;simp only at hcl hdl;subst hcl hdl;have lt:=lt_size hol;have hol':=get?_push_of_some (bG (!w.params.followText "set-order")) hol;have f1:=F.sub_list_set;have f2:=F.sub_list_frozenset;have f3:(Value.type "list" == Value.type "dict")=false:=by decide
  have hl1:(s.heap.push (bG (!w.params.followText "set-order"))).IsList l items:=⟨_,hol',rfl,nl,rfl⟩;unfold Builtin.Frozenset.updateFrom;generalize hPI:pyIter=PI
  wp_walk
  subst hPI;refine wpAny_pyIter_list hl1 ?_;refine wpAny_bind (wpAny_runValue ?_);have ne:l≠(s.heap.push (bG (!w.params.followText "set-order"))).objs.size:=by rw[Heap.size_push];exact ne_of_lt (lt_succ_of_lt lt)
  have nf:s.heap.objs.size ∉ [(s.heap.push (bG (!w.params.followText "set-order"))).objs.size,l]:=by
   rw[Heap.size_push];simp only[mem_cons,not_mem_nil,or_false,not_or];exact⟨ne_of_lt (lt_succ_self _),ne_of_gt lt⟩
  refine uR ((Walks.list (by simpa using hh') _ l ne items).toS) s.heap.objs.size nf ns hn hP hb items.size 0 _ (by omega) (zero_le _) ⟨⟨_,get?_push_size _ rfl,rfl,rfl⟩,hl1.push _⟩ (setJ_fresh.at fun o e=>get?_push_of_some _ e) fun s' hm hS=>?_
  exact wpAny_pure ((fin s' _ _ hm rfl hS))
 ·obtain⟨ol,hol,hcl,nl,hdl⟩:=hl
  obtain⟨ocls,odict,odata,oslots⟩:=ol;simp only at hcl hdl;subst hcl hdl;have lt:=lt_size hol;have hol':=get?_push_of_some (bG (!w.params.followText "set-order")) hol;have f1:=qJ;have f2:=jW;have f3:(Value.type "tuple" == Value.type "dict")=false:=by decide
  have hl1:(s.heap.push (bG (!w.params.followText "set-order"))).IsTuple l items:=⟨_,hol',rfl,nl,rfl⟩;unfold Builtin.Frozenset.updateFrom;generalize hPI:pyIter=PI
  wp_walk
  subst hPI;refine wpAny_pyIter_tuple hl1 ?_;refine wpAny_bind (wpAny_runValue ?_);have ne:l≠(s.heap.push (bG (!w.params.followText "set-order"))).objs.size:=by rw[Heap.size_push];exact ne_of_lt (lt_succ_of_lt lt)
  have nf:s.heap.objs.size ∉ [(s.heap.push (bG (!w.params.followText "set-order"))).objs.size,l]:=by
   rw[Heap.size_push];simp only[mem_cons,not_mem_nil,or_false,not_or];exact⟨ne_of_lt (lt_succ_self _),ne_of_gt lt⟩
  refine uR ((Walks.tuple (by simpa using hh') _ l ne items).toS) s.heap.objs.size nf ns hn hP hb items.size 0 _ (by omega) (zero_le _) ⟨⟨_,get?_push_size _ rfl,rfl,rfl⟩,hl1.push _⟩ (setJ_fresh.at fun o e=>get?_push_of_some _ e) fun s' hm hS=>?_
  exact wpAny_pure ((fin s' _ _ hm rfl hS))
end
theorem kq{α:Type}:∀(l:List α) (i:Nat) (x:α),l[i]? = some x->l.Perm (x::l.eraseIdx i)
 |a::l,0,x,h=>by
  have:a=x:=by simpa using h
  subst this;exact .refl _
 |a::l,i+1,x,h=>by
  have ih:=kq l i x (by simpa using h);rw[List.eraseIdx_cons_succ];exact(ih.cons a).trans (.swap x a _)
theorem yq{α:Type}(f:Nat->Nat):∀(n k:Nat) (l:List α) (out:Array α),l.length=n->(pickOrder.go f n k l out).toList.Perm (out.toList++l)
 | 0,k,l,out,h=>by
  have:l=[]:=List.length_eq_zero_iff.mp h;subst this;unfold pickOrder.go;simp
 |n+1,k,l,out,h=>by
  have hi:f k%l.length<l.length:=Nat.mod_lt _ (by omega);have hx:l[f k%l.length]? = some l[f k%l.length]:=by simp[hi]
  unfold pickOrder.go;rw[hx];have ih:=yq f n (k+1) (l.eraseIdx (f k%l.length)) (out.push l[f k%l.length]) (by rw[List.length_eraseIdx,if_pos hi];omega);refine ih.trans ?_;rw[toList_push,List.append_assoc];exact(kq l _ _ hx).symm.append_left _
theorem zX{α:Type}(f:Nat->Nat)(xs:Array α):(pickOrder f xs).toList.Perm xs.toList:=by
 have:=yq f xs.size 0 xs.toList #[] (by simp);simpa[pickOrder]using this
theorem slot_si_next:Slot "set_iterator" "__next__" "set_iterator.__next__":=
 .of (owner:="set_iterator") (n:="__next__") (by rw[typeLookup_type,builtinLookup_eq_fast];kernel_rfl) (by decide +kernel) (by decide +kernel) (by decide +kernel)
  (by first|exact .inl (by decide +kernel)|exact .inr (by decide +kernel)) (by rw[isSubtype_type];kernel_rfl)
theorem qY:entryFor table "set_iterator.__next__" = some Builtin.«set_iterator.__next__»:=entryFor_of_tree (by kernel_rfl)
theorem vd:Manifest.owners.lookup (String.ofList ['r','o','t','a','r','e','t','i','_','t','e','s'].reverse)=some Manifest.sig_set_iterator:=by kernel_rfl
theorem um(a:Value):argsOk "set_iterator.__next__" ⟨[a],[]⟩:=by
 unfold argsOk;rw[signature?_of (id:="set_iterator.__next__") (n:=['_','_','t','x','e','n','_','_']) (o:=['r','o','t','a','r','e','t','i','_','t','e','s']) (by kernel_rfl) vd];kernel_rfl
theorem nr:entryFor table "set.__iter__" = some Builtin.«frozenset.__iter__»:=
 entryFor_alias (id':="frozenset.__iter__") (by kernel_rfl) rfl (by decide +kernel) (by kernel_rfl)
section
variable{M:Model}{prog:Program}{w:World}{A:Around}{E:Value->Shared->Prop}{s:Shared}
theorem sK{src:Source}{n:Nat}{Q:Nat->Shared->Prop}(hn:n≠0)(h:∀k d,k<n->Q k { s with drawn:=d }):wpAny M A (choose src n) Q E s:=fun Γ p hΓ=>by
 show Sem.wp M Γ (.choose src n .pure) _ _ p s;rw[Sem.wp_choose];exact⟨hn,h _ _ (Nat.mod_lt _ (Nat.pos_of_ne_zero hn))⟩
theorem sj{α:Type}:∀(n:Nat) (xs:List α) (s:Shared) {Q:List α -> Shared->Prop},xs.length=n->(∀ys d,ys.Perm xs->Q ys { s with drawn:=d })->wpAny M A (drawOrder n xs) Q E s
 | 0,xs,s,Q,hn,h=>by
  have:xs=[]:=List.length_eq_zero_iff.mp hn;subst this;unfold drawOrder;exact wpAny_pure (h [] s.drawn (.refl _))
 |n+1,[],s,Q,hn,h=>by simp at hn
 |n+1,x::xs,s,Q,hn,h=>by
  unfold drawOrder;refine wpAny_bind (sK (by simp) fun k d hk=>?_)
  have hx:(x::xs)[k]? = some ((x::xs)[k]):=by simp[hk]
  rw[hx];refine wpAny_bind (sj n ((x::xs).eraseIdx k) _ (by rw[List.length_eraseIdx,if_pos hk];omega) fun ys d' p=>?_)
  exact wpAny_pure (h _ d' ((p.cons _).trans (kq _ _ _ hx).symm))
abbrev sU(es:Array (Int×Value))(ep:Nat)(t:SetTable):Obj:={ cls:=.type "set",dict:=none,data:=.set es ep t,slots:=#[] }
noncomputable def oK(first:Value)(i:Int)(a:Addr)(n ep:Int):Obj:={ cls:=.type "set_iterator",data:=.fields #[first,rawInt i,.ref a,rawInt n,rawInt ep] }
theorem jT{Q:Bool->Shared->Prop}(h:Q (w.params.followText "set-order") s):wpAny (model prog w) A setsByText Q E s:=by
 unfold setsByText;exact wpAny_bind (wpAny_askSetting (wpAny_pure h))
inductive Mode (w:World) (h:Heap) (a:Addr) (es:Array (Int×Value)) (ep:Nat) (t:SetTable) (vs:List Value):Nat->Value->Prop
 |text {i:Nat} {sl:Nat}:w.params.followText "set-order" = true->vs=(pickOrder (w.params.setOrder a ep) es).toList.map (·.2)->Mode w h a es ep t vs i (rawInt sl)
 |slots {i:Nat}:w.params.followText "set-order" = false->(!t.plain&&decide (es.size>1))=false->UpA t.place->vs=es.toList.map (·.2)->Mode w h a es ep t vs i (rawInt (if i=0 then 0 else t.place.getD (i-1) 0+1:Nat))
 |drawn {i:Nat} {tp:Addr} {o:Obj} {ps:List Nat} {k:Nat}:h.get? tp=some o->o.data=.seq (ps.map fun p:Nat=>rawInt (p:Int)).toArray k->vs.length=ps.length->(∀(j p:Nat),ps[j]? = some p->∃e:Int×Value,es[p]? = some e/\vs[j]? = some e.2)->Mode w h a es ep t vs i (.ref tp)
def SWk(w:World)(h:Heap)(I a:Addr)(vs:List Value)(tp:Addr)(i:Nat):Prop:=∃es ep t first,h.get? a=some (sU es ep t)/\t.fits es.size=true/\WkT (!w.params.followText "set-order") t/\vs.length=es.size/\h.get? I=some (oK first i a es.size ep)/\(∀b,first=.ref b->b=tp)/\Mode w h a es ep t vs i first
theorem Mode.keep{h h':Heap}{a tp:Addr}{es:Array (Int×Value)}{ep:Nat}{t:SetTable}{vs:List Value}{i:Nat}{first:Value}(m:Mode w h a es ep t vs i first)(hf:∀b,first=.ref b->b=tp)(k:∀o,h.get? tp=some o->h'.get? tp=some o):Mode w h' a es ep t vs i first:=by
 cases m with
 |text e1 e2=>exact .text e1 e2
 |slots e1 e2 e3 e4=>exact .slots e1 e2 e3 e4
 |drawn e1 e2 e3 e4=>
  have:=hf _ rfl;subst this;exact .drawn (k _ e1) e2 e3 e4
theorem gd{I:Addr}{first:Value}{i n ep:Int}{a:Addr}(h:s.heap.get? I=some (oK first i a n ep)):s.TypeIs (.ref I) "set_iterator":=⟨_,h,rfl⟩
theorem yf{I a:Addr}{first:Value}{i n:Nat}{es:Array (Int×Value)}{ep:Nat}{t:SetTable}{Q:Option Value->Shared->Prop}(hI:s.heap.get? I=some (oK first i a n ep))(ha:s.heap.get? a=some (sU es ep t))(hf:t.fits es.size=true)(hn:es.size=n)
  (h:wpAny (model prog w) A.in1 (if let .int slot _:=first then do
     match <-setNext a slot.toNat i ep with
     |some (x,next)=>
      setField (.ref I) 0 (rawInt next)
      setField (.ref I) 1 (rawInt ((i:Int)+1))
      ret x
     |none=>setField (.ref I) 2 .none;raiseNew (<-newExc (.type "StopIteration") [])
    else do
     let some places <-seqItems? first|unsupported "internal:set_iterator"
     match places[i]? with
     |some (.int place _)=>
      let x <-setNextDrawn a place.toNat ep
      setField (.ref I) 1 (rawInt ((i:Int)+1))
      ret x
     |some _=>unsupported "internal:set_iterator"
     |none=>setField (.ref I) 0 (rawInt 0);setField (.ref I) 2 .none;raiseNew (<-newExc (.type "StopIteration") []))
   (fun fin s'=>∃r,fin=.done (.ret r)/\Q (some r) s') (fun e s'=>wpAny (model prog w) A (do if <-isInstance e (.type "StopIteration")then pure none else throw e) Q E s') s):wpAny (model prog w) A (pyNext (.ref I)) Q E s:=by
 unfold pyNext;refine wpAny_bind (wpAny_attempt (wpAny_callSpecial?_slot (name:=Str.ofString "__next__") (gd hI) slot_si_next (wpAny_call_entry slot_si_next (gd hI) qY ?_ (um _))));unfold Builtin.«set_iterator.__next__»;refine wpAny_bind (wpAny_of_eq (a:=(Value.ref I,[])) rfl ?_)
 try dsimp only
 refine wpAny_bind (wpAny_fieldsOf hI rfl ?_);show wpAny _ _ (setEntries a >>= fun q=>_) _ _ s;refine wpAny_bind (wpAny_setEntries_of ha rfl hf ?_);refine wpAny_ite_split (fun z=>absurd z (by simp[hn])) (fun _=>?_)
 simp only[toNat_natCast];exact wpAny_mono h (fun fin s' q=>let ⟨r,e,q⟩:=q; ⟨r,e,wpAny_pure q⟩) fun _ _ e=>e
theorem sT{Q:Option Value->Shared->Prop}{P:PySem.Fin->Shared->Prop}(hh:A.handled=none)(h:∀h',(∀b o,s.heap.get? b=some o->h'.get? b=some o)->Q none { s with heap:=h' }):
  wpAny (model prog w) A.in1 (do
   let x <-newExc (.type "StopIteration") []
   raiseNew x) P (fun e s'=>wpAny (model prog w) A (do if <-isInstance e (.type "StopIteration")then pure none else throw e) Q E s') s:=by
 refine wpAny_bind ?_;simp only[newExc,newTuple];refine wpAny_bind (wpAny_newObj_type ?_ (by size_fits));refine wpAny_bind (m:=firstArgMember _ _) (wpAny_of_eq (a:=Value.none) (by first|rfl|(simp only[firstArgMember];rfl)) ?_);refine wpAny_newObj_type ?_ (by size_fits);simp only[raiseNew];refine wpAny_bind (wpAny_handled ?_);rw[show A.in1.handled=none from hh];refine wpAny_bind (wpAny_pure (wpAny_throw ?_));refine wpAny_bind (wpAny_isInstance (T:="StopIteration") (b:=true) ⟨_,get?_push_size _ rfl,rfl⟩ isSubtype_stop ?_);exact wpAny_pure (h _ fun b o e=>get?_push_of_some _ (get?_push_of_some _ e))
theorem bX{h:Heap}{I b:Addr}{f:Obj->Obj}{o:Obj}(hb:b≠I)(e:h.get? b=some o):(h.update I f).get? b=some o:=(Heap.get?_update_other _ _ (Ne.symm hb)).trans e
theorem kQ{a:Addr}{es:Array (Int×Value)}{ep:Nat}{t:SetTable}{sl i:Nat}{Q:Option (Value×Nat)->Shared->Prop}(ha:s.heap.get? a=some (sU es ep t))(hf:t.fits es.size=true)(hT:w.params.followText "set-order" = true)(h:Q (((pickOrder (w.params.setOrder a ep) es)[i]?).map fun e=>(e.2,sl)) s):wpAny (model prog w) A (setNext a sl i ep) Q E s:=by
 unfold setNext;refine wpAny_bind (wpAny_setState_of ha rfl hf ?_);dsimp only;refine wpAny_bind (jT ?_);rw[hT,if_pos rfl];refine wpAny_ite_split (fun z=>absurd z (by simp)) (fun _=>?_)
 unfold setWalk;refine wpAny_bind (wpAny_bind (wpAny_setState_of ha rfl hf ?_));dsimp only;refine wpAny_bind (jT ?_);rw[hT,if_pos rfl];refine wpAny_bind (wpAny_askSetting (wpAny_pure ?_));exact wpAny_pure h
theorem kR{a:Addr}{es:Array (Int×Value)}{ep:Nat}{t:SetTable}{sl i:Nat}{Q:Option (Value×Nat)->Shared->Prop}(ha:s.heap.get? a=some (sU es ep t))(hf:t.fits es.size=true)(hT:w.params.followText "set-order" = false)(hp:(!t.plain&&decide (es.size>1))=false)(hw:t.led=true)
  (h:Q (match es[SetTable.below t.place sl]?,t.place[SetTable.below t.place sl]? with
   |some (_,x),some j=>some (x,j+1)
   |_,_=>none) s):wpAny (model prog w) A (setNext a sl i ep) Q E s:=by
 unfold setNext;refine wpAny_bind (wpAny_setState_of ha rfl hf ?_);dsimp only;refine wpAny_bind (jT ?_);rw[hT,if_neg (by decide)];show wpAny _ _ (if(!t.plain&&decide (es.size>1))=true then _ else _) _ _ _;rw[hp,if_neg (by decide)];show wpAny _ _ ((if(!t.led && !es.isEmpty)=true then _ else _) >>= _) _ _ _;rw[hw];simp only[Bool.not_true,Bool.false_and,Bool.false_eq_true,if_false];exact wpAny_bind (wpAny_pure (wpAny_pure h))
end
section
variable{prog:Program}{w:World}{A:Around}{E:Value->Shared->Prop}{s:Shared}
theorem mz{t:SetTable}{n:Nat}(h:t.fits n=true):t.place.size=n:=by
 simp only[SetTable.fits,Bool.and_eq_true,beq_iff_eq]at h;exact h.1
theorem BA{h:Heap}{I a:Addr}{first x:Value}{i n ep:Int}(hI:h.get? I=some (oK first i a n ep))(j:Int):((h.update I (Obj.mapFields (·.setIfInBounds 0 x))).update I (Obj.mapFields (·.setIfInBounds 1 (rawInt j)))).get? I=some (oK x j a n ep):=by
 have h1:=get?_update_self (Obj.mapFields (·.setIfInBounds 0 x)) hI rfl;exact get?_update_self (Obj.mapFields (·.setIfInBounds 1 (rawInt j))) h1 rfl
theorem Ia{h:Heap}{I a:Addr}{first:Value}{i n ep:Int}(hI:h.get? I=some (oK first i a n ep))(j:Int):(h.update I (Obj.mapFields (·.setIfInBounds 1 (rawInt j)))).get? I=some (oK first j a n ep):=
 get?_update_self (Obj.mapFields (·.setIfInBounds 1 (rawInt j))) hI rfl
theorem En{I a tp:Addr}{vs:List Value}{i:Nat}{v:Value}{Q:Option Value->Shared->Prop}(ha:a≠I)(ht:tp≠I)(hW:SWk w s.heap I a vs tp i)(hv:vs[i]? = some v)
  (hQ:∀h',SWk w h' I a vs tp (i+1)->(∀b o,b≠I->s.heap.get? b=some o->h'.get? b=some o)->Q (some v) { s with heap:=h' }):wpAny (model prog w) A (pyNext (.ref I)) Q E s:=by
 obtain⟨es,ep,t,first,e1,e2,e3,e4,e5,e6,e7⟩:=hW;have hi:i<vs.length:=(List.getElem?_eq_some_iff.mp hv).1;refine yf e5 e1 e2 rfl ?_;cases e7 with
 |text m1 m2=>
  rename_i sl;show wpAny _ _ (setNext a ((sl:Int)).toNat i ep >>= _) _ _ _;rw[toNat_natCast];have hx:∃e,(pickOrder (w.params.setOrder a ep) es)[i]? = some e/\e.2=v:=by
   rw[m2,getElem?_map,getElem?_toList]at hv;exact Option.map_eq_some_iff.mp hv
  obtain⟨e,q1,q2⟩:=hx;refine wpAny_bind (kQ e1 e2 m1 ?_);rw[q1];dsimp only[Option.map];rw[q2];refine wpAny_bind (wpAny_setField e5 rfl (by simp) ?_);have g1:=get?_update_self (Obj.mapFields (·.setIfInBounds 0 (rawInt (sl:Int)))) e5 rfl;refine wpAny_bind (wpAny_setField g1 rfl (by simp) (wpAny_pure ⟨v,rfl,hQ _ ?_ fun b o hb eo=>bX hb (bX hb eo)⟩))
  exact⟨es,ep,t,rawInt sl,bX ha (bX ha e1),e2,e3,e4,BA e5 _,fun b z=>(by cases z),.text m1 m2⟩
 |slots m1 m2 m3 m4=>
  have hz:=mz e2;have hb:SetTable.below t.place (if i=0 then 0 else t.place.getD (i-1) 0+1)=i:=by
   by_cases z:i=0
   ·subst z;rw[if_pos rfl,qj m3]
   ·rw[if_neg z]
    have:i-1<t.place.size:=by omega
    have e:t.place.getD (i-1) 0=t.place[i-1]:=by simp[Array.getD,this]
    rw[e,ql m3 this];omega
  have hp:t.place[i]? = some (t.place.getD i 0):=by
   have:i<t.place.size:=by omega
   simp[Array.getD,this]
  obtain⟨e,q1,q2⟩:∃e,es[i]? = some e/\e.2=v:=by
   rw[m4,getElem?_map,getElem?_toList]at hv;exact Option.map_eq_some_iff.mp hv
  obtain⟨eh,ev⟩:=e;have q2:ev=v:=q2;subst q2;show wpAny _ _ (setNext a (((if i=0 then 0 else t.place.getD (i-1) 0+1:Nat):Int)).toNat i ep >>= _) _ _ _;rw[toNat_natCast];refine wpAny_bind (kR e1 e2 m1 m2 (by rw[e3.led,m1];rfl) ?_);rw[hb,q1,hp];dsimp only;refine wpAny_bind (wpAny_setField e5 rfl (by simp) ?_);have g1:=get?_update_self (Obj.mapFields (·.setIfInBounds 0 (rawInt ((t.place.getD i 0+1:Nat):Int)))) e5 rfl;refine wpAny_bind (wpAny_setField g1 rfl (by simp) (wpAny_pure ⟨ev,rfl,hQ _ ?_ fun b o hb eo=>bX hb (bX hb eo)⟩))
  have m:Mode w ((s.heap.update I (Obj.mapFields (·.setIfInBounds 0 (rawInt ((t.place.getD i 0+1:Nat):Int))))).update I (Obj.mapFields (·.setIfInBounds 1 (rawInt ((i:Int)+1))))) a es ep t vs (i+1) (rawInt (if i+1=0 then 0 else t.place.getD (i+1-1) 0+1:Nat)):=.slots m1 m2 m3 m4;rw[if_neg (by omega),Nat.add_sub_cancel]at m;exact⟨es,ep,t,_,bX ha (bX ha e1),e2,e3,e4,BA e5 _,fun b z=>(by cases z),m⟩
 |drawn m1 m2 m3 m4=>
  rename_i tq o ps k;have:=e6 _ rfl;subst this;have hj:i<ps.length:=by omega
  have hp:ps[i]? = some ps[i]:=by simp[hj]
  obtain⟨e,q1,q2⟩:=m4 i _ hp;rw[hv]at q2;have q2:v=e.2:=by simpa using q2
  show wpAny _ _ (seqItems? (.ref tq) >>= _) _ _ _;refine wpAny_bind (wpAny_seqItems m1 m2 ?_);dsimp only;have pl:(ps.map fun p:Nat=>rawInt (p:Int)).toArray[i]? = some (rawInt (ps[i]:Int)):=by simp[hj]
  rw[pl];show wpAny _ _ (setNextDrawn a ((ps[i]:Int)).toNat ep >>= _) _ _ _;rw[toNat_natCast];unfold setNextDrawn;refine wpAny_bind (wpAny_bind (wpAny_setState_of e1 rfl e2 ?_));dsimp only;refine wpAny_ite_split (fun z=>absurd z (by simp)) (fun _=>?_)
  rw[q1];refine wpAny_pure ?_;rw[<-q2];refine wpAny_bind (wpAny_setField e5 rfl (by simp) (wpAny_pure ⟨v,rfl,hQ _ ?_ fun b o hb eo=>bX hb eo⟩));exact⟨es,ep,t,.ref tq,bX ha e1,e2,e3,e4,Ia e5 _,e6,.drawn (bX ht m1) m2 m3 m4⟩
theorem Eo{I a tp:Addr}{vs:List Value}{Q:Option Value->Shared->Prop}(hh:A.handled=none)(hW:SWk w s.heap I a vs tp vs.length)
  (hQ:∀h',(∀b o,b≠I->s.heap.get? b=some o->h'.get? b=some o)->Q none { s with heap:=h' }):wpAny (model prog w) A (pyNext (.ref I)) Q E s:=by
 obtain⟨es,ep,t,first,e1,e2,e3,e4,e5,e6,e7⟩:=hW;refine yf e5 e1 e2 rfl ?_;cases e7 with
 |text m1 m2=>
  rename_i sl;show wpAny _ _ (setNext a ((sl:Int)).toNat vs.length ep >>= _) _ _ _;rw[toNat_natCast];refine wpAny_bind (kQ e1 e2 m1 ?_);have hx:(pickOrder (w.params.setOrder a ep) es)[vs.length]? = none:=by
   rw[<-getElem?_toList,List.getElem?_eq_none_iff,m2,length_map];exact le_refl _
  rw[hx];dsimp only[Option.map];refine wpAny_bind (wpAny_setField e5 rfl (by simp) ?_);exact sT hh fun h' kp=>hQ h' fun b o hb eo=>kp b o (bX hb eo)
 |slots m1 m2 m3 m4=>
  have hz:=mz e2;have hb:SetTable.below t.place (if vs.length=0 then 0 else t.place.getD (vs.length-1) 0+1)=vs.length:=by
   by_cases z:vs.length=0
   ·rw[if_pos z,qj m3,z]
   ·rw[if_neg z]
    have:vs.length-1<t.place.size:=by omega
    have e:t.place.getD (vs.length-1) 0=t.place[vs.length-1]:=by simp[Array.getD,this]
    rw[e,ql m3 this];omega
  show wpAny _ _ (setNext a (((if vs.length=0 then 0 else t.place.getD (vs.length-1) 0+1:Nat):Int)).toNat vs.length ep >>= _) _ _ _;rw[toNat_natCast];refine wpAny_bind (kR e1 e2 m1 m2 (by rw[e3.led,m1];rfl) ?_);rw[hb];have hx:es[vs.length]? = none:=by rw[e4];simp
  rw[hx];dsimp only;refine wpAny_bind (wpAny_setField e5 rfl (by simp) ?_);exact sT hh fun h' kp=>hQ h' fun b o hb eo=>kp b o (bX hb eo)
 |drawn m1 m2 m3 m4=>
  rename_i tq o ps k;show wpAny _ _ (seqItems? (.ref tq) >>= _) _ _ _;refine wpAny_bind (wpAny_seqItems m1 m2 ?_);dsimp only;have pl:(ps.map fun p:Nat=>rawInt (p:Int)).toArray[vs.length]? = none:=by rw[m3];simp
  rw[pl];dsimp only;refine wpAny_bind (wpAny_setField e5 rfl (by simp) ?_);have g1:=get?_update_self (Obj.mapFields (·.setIfInBounds 0 (rawInt 0))) e5 rfl;refine wpAny_bind (wpAny_setField g1 rfl (by simp) ?_);exact sT hh fun h' kp=>hQ h' fun b o hb eo=>kp b o (bX hb (bX hb eo))
theorem SWk.frame{h h':Heap}{I a tp:Addr}{vs:List Value}{i:Nat}(x:SWk w h I a vs tp i)(k:∀b∈[I,a,tp],∀o,h.get? b=some o->h'.get? b=some o):SWk w h' I a vs tp i:=
 let ⟨es,ep,t,first,e1,e2,e3,e4,e5,e6,e7⟩:=x
 ⟨es,ep,t,first,k a (by simp) _ e1,e2,e3,e4,k I (by simp) _ e5,e6,e7.keep e6 (k tp (by simp))⟩
theorem qZ:entryFor table "set_iterator.__iter__" = some Builtin.«dict_keyiterator.__iter__»:=
 entryFor_alias (id':="dict_keyiterator.__iter__") (by kernel_rfl) (by first|rfl|decide +kernel|(unfold String.splitOn;simp +decide [String.splitOnAux])) (by decide +kernel) (by kernel_rfl)
theorem kP:Slot "set_iterator" "__iter__" "set_iterator.__iter__":=
 .of (owner:="set_iterator") (n:="__iter__") (by rw[typeLookup_type,builtinLookup_eq_fast];kernel_rfl) (by decide +kernel) (by decide +kernel) (by decide +kernel)
  (by first|exact .inl (by decide +kernel)|exact .inr (by decide +kernel)) (by rw[isSubtype_type];kernel_rfl)
theorem uo(a:Value):argsOk "set_iterator.__iter__" ⟨[a],[]⟩:=by
 unfold argsOk;rw[signature?_of (id:="set_iterator.__iter__") (n:=['_','_','r','e','t','i','_','_']) (o:=['r','o','t','a','r','e','t','i','_','t','e','s']) (by kernel_rfl) vd];kernel_rfl
theorem Bj(hh:A.handled=none){I a tp:Addr}(ha:a≠I)(ht:tp≠I)(vs:List Value):Walks prog w A I [I,a,tp] [I] vs.length (fun i v=>vs[i]? = some v) (fun i h=>SWk w h I a vs tp i) where
 sub:=fun b hb=>by simp at hb;simp[hb]
 frame:=fun _ _ _ st hk=>st.frame hk
 item:=fun i s Q E hi st hQ=>En ha ht st (v:=vs[i]) (by simp[hi]) fun h' x k=>hQ _ h' s.toks (by simp[hi]) x fun b o hb e=>k b o (fun z=>hb (by simp[z])) e
 done:=fun s Q E st hQ=>Eo hh st fun h' k=>hQ h' s.toks fun b o hb e=>k b o (fun z=>hb (by simp[z])) e
 self:=fun i s Q E st hQ=>by
  obtain⟨es,ep,t,first,e1,e2,e3,e4,e5,e6,e7⟩:=st;refine wpAny_pyIter_slot (gd e5) kP (wpAny_call_entry kP (gd e5) qZ ?_ (uo _));exact wpAny_pure ⟨_,rfl,"set_iterator",_,gd e5,slot_si_next.lookup,hQ⟩
end
theorem lj:∀(l:List (Int×Value)),(∀e∈l,xK e)->IntsAre (l.map (·.2)) (l.map fun e=>sL e.2)
 |[],_=>.nil
 |e::l,h=>by
  obtain⟨k,t,rfl⟩:=h e mem_cons_self;exact .cons k t (lj l fun e he=>h e (mem_cons_of_mem _ he))
theorem ww(es:Array (Int×Value)):(List.range es.size).map (fun p=>es.getD p (0,.none))=es.toList:=by
 apply ext_getElem?;intro i;rw[getElem?_map];by_cases h:i<es.size
 ·rw[List.getElem?_range h]
  simp[Array.getD,h]
 ·rw[List.getElem?_eq_none (by rw[List.length_range];omega),List.getElem?_eq_none (by rw[length_toList];omega)]
  rfl
section
variable{prog:Program}{w:World}{A:Around}{E:Value->Shared->Prop}{s:Shared}
theorem BC{a:Addr}{ns:List Int}{Q:Value->Shared->Prop}(hS:SetJ w s.heap a ns)
  (hQ:∀I tp h1 d vs ms,tp≠I->a≠I->(∀b o,s.heap.get? b=some o->h1.get? b=some o)->s.heap.objs.size<=I->I<h1.objs.size->(tp=a\/s.heap.objs.size<=tp)->SWk w h1 I a vs tp 0->IntsAre vs ms->ms.Perm ns->Q (.ref I) { s with heap:=h1,drawn:=d }):wpAny (model prog w) A (pyIter (.ref a)) Q E s:=by
 obtain⟨es,ep,t,ho,hel,hp,hb,hf,hw⟩:=hS;have hT:s.TypeIs (.ref a) "set":=⟨_,ho,rfl⟩;have lt:=lt_size ho;refine wpAny_pyIter_slot hT F.slot_set_iter (wpAny_call_entry F.slot_set_iter hT nr ?_ (F.args_set_iter_1 _));unfold Builtin.«frozenset.__iter__» Builtin.Frozenset.slot0;refine wpAny_bind (wpAny_bind (wpAny_of_eq (a:=(Value.ref a,[])) rfl ?_));unfold Builtin.Frozenset.addrOf Builtin.Frozenset.sizeOf;refine wpAny_pure ?_;refine wpAny_bind (wpAny_bind (wpAny_setEntries_of ho rfl hf (wpAny_pure ?_)));unfold setDrawn;refine wpAny_bind (wpAny_bind (wpAny_setState_of ho rfl hf ?_));dsimp only;refine wpAny_bind (jT (wpAny_pure ?_));have plain:∀vs ms,IntsAre vs ms->ms.Perm ns->vs.length=es.size->(∀h1:Heap,Mode w h1 a es ep t vs 0 (rawInt (0:Nat)))->wpAny (model prog w) A.in1 (do
   let ep <-setEpoch a
   let x <-newFields "set_iterator" [rawInt 0,rawInt 0,.ref a,rawInt es.size,rawInt ep]
   ret x) (fun fin s'=>∃v,fin=.done (.ret v)/\∃T' r,s'.TypeIs v T'/\typeLookup (.type T') "__next__" = pure (some r)/\Q v s') E s:=fun vs ms q1 q2 q3 q4=>by
  refine wpAny_bind (wpAny_setEpoch_of ho rfl hf ?_);refine wpAny_bind (wpAny_newObj_type (wpAny_pure ⟨_,rfl,"set_iterator",_,⟨_,get?_push_size _ rfl,rfl⟩,slot_si_next.lookup,?_⟩));refine hQ s.heap.objs.size a _ s.drawn vs ms (ne_of_lt lt) (ne_of_lt lt) (fun b o e=>get?_push_of_some _ e) (le_refl _) (by rw[Heap.size_push];exact lt_succ_self _) (.inl rfl) ⟨es,ep,t,rawInt (0:Nat),get?_push_of_some _ ho,hf,hw,q3,get?_push_size _ rfl,fun b z=>(by cases z),q4 _⟩ q1 q2
 cases hb1:w.params.followText "set-order" with
 |true=>
  simp only[Bool.not_true,Bool.false_and,Bool.false_eq_true,if_false];have pp:=zX (w.params.setOrder a ep) es;refine plain ((pickOrder (w.params.setOrder a ep) es).toList.map (·.2)) _ (lj _ fun e he=>hel e (pp.mem_iff.mp he)) ((pp.map _).trans hp) (by rw[length_map,pp.length_eq,length_toList]) fun h1=>.text hb1 rfl
 |false=>
  by_cases hd:(!t.plain&&decide (es.size>1))=true
  ·show wpAny _ _ (if(!false&&(!t.plain&&decide (es.size>1)))=true then _ else _) _ _ _
   rw[hd];simp only[Bool.not_false,Bool.and_self,if_true];refine wpAny_bind (sj es.size (List.range es.size) s (List.length_range ..) fun ys d py=>?_)
   have hlen:ys.length=es.size:=by rw[py.length_eq,List.length_range]
   refine wpAny_bind (wpAny_newObj_type ?_ (by show(List.toArray _).size<=sizeLine;rw[size_toArray,length_map,hlen];have:=hp.length_eq;rw[length_map,length_toList]at this;exact fits_of_scanBound (by omega)));have ho1:=get?_push_of_some { cls:=.type "tuple",data:=.seq (ys.map fun i:Nat=>rawInt (i:Int)).toArray } ho
   refine wpAny_bind (wpAny_setEpoch_of ho1 rfl hf ?_);refine wpAny_bind (wpAny_newObj_type (wpAny_pure ⟨_,rfl,"set_iterator",_,⟨_,get?_push_size _ rfl,rfl⟩,slot_si_next.lookup,?_⟩));have pe:(ys.map fun p=>es.getD p (0,.none)).Perm es.toList:=by
    have:=py.map fun p=>es.getD p (0,.none)
    rwa [ww]at this
   refine hQ (s.heap.push { cls:=.type "tuple",data:=.seq (ys.map fun i:Nat=>rawInt (i:Int)).toArray }).objs.size s.heap.objs.size _ d ((ys.map fun p=>es.getD p (0,.none)).map (·.2)) _ ?_ ?_ (fun b o e=>get?_push_of_some _ (get?_push_of_some _ e)) (by rw[Heap.size_push];exact le_succ _) (lt_size (get?_push_size _ rfl)) (.inr (le_refl _)) ⟨es,ep,t,.ref s.heap.objs.size,get?_push_of_some _ ho1,hf,hw,by simp[hlen],get?_push_size _ rfl,fun b z=>by injection z with z;exact z.symm,?_⟩ (lj _ fun e he=>hel e (pe.mem_iff.mp he)) ((pe.map _).trans hp)
   ·rw[Heap.size_push];exact ne_of_lt (lt_succ_self _)
   ·rw[Heap.size_push];exact ne_of_lt (lt_succ_of_lt lt)
   ·refine .drawn (ps:=ys) (get?_push_of_some _ (get?_push_size _ rfl)) rfl (by simp) fun j p hj=>?_
    have hpn:p<es.size:=List.mem_range.mp (py.mem_iff.mp (mem_of_getElem? hj));refine⟨es.getD p (0,.none),by simp[Array.getD,hpn],?_⟩;rw[getElem?_map,getElem?_map,hj];rfl
  ·show wpAny _ _ (if(!false&&(!t.plain&&decide (es.size>1)))=true then _ else _) _ _ _
   have hd':(!t.plain&&decide (es.size>1))=false:=by simpa using hd
   rw[hd'];simp only[Bool.not_false,Bool.and_false,Bool.false_eq_true,if_false];have up:UpA t.place:=by
    cases hpl:t.plain with
    |true=>exact hw.up hpl
    |false=>
     rw[hpl]at hd';have h1:es.size<=1:=by simpa using hd'
     have h2:=mz hf;intro i j hi hj hij;omega
   refine wpAny_bind (wpAny_pure ?_);refine plain (es.toList.map (·.2)) _ (lj _ hel) hp (by simp) fun h1=>?_
   have:=Mode.slots (w:=w) (h:=h1) (a:=a) (ep:=ep) (i:=0) hb1 hd' up (es:=es) rfl;simpa using this
theorem C1{r:Addr}{Q:Bool->Shared->Prop}(hT:s.TypeIs (.ref r) "set")(h:Q false s):wpAny (model prog w) A (Builtin.List.listLengthHint (.ref r)) Q E s:=by
 unfold Builtin.List.listLengthHint;refine wpAny_bind (wpAny_specialOf hT PySem.F.slot_set_len.lookup ?_);generalize hid:("set.__len__":String)=id0
 wp_delta
 rw[show splitId id0=some ("set","__len__")from by subst hid;decide +kernel];subst hid;refine wpAny_bind (wpAny_isInstance (T:="set") (b:=true) hT (by rw[isSubtype_type];kernel_rfl) ?_);refine wpAny_ite_split (fun z=>absurd z (by decide)) (fun _=>wpAny_ite_split (fun _=>?_) (fun z=>absurd (by decide +kernel) z))
 exact wpAny_bind (wpAny_typeOf hT (wpAny_pure h))
end
section
variable{prog:Program}{w:World}{A:Around}{E:Value->Shared->Prop}{s:Shared}
theorem CS{vs:List Value}{acc:Array Value}(h:ItemsOf (fun i v=>vs[i]? = some v) acc vs.length):acc.toList=vs:=by
 obtain⟨h1,h2⟩:=h;apply ext_getElem?;intro i;rw[getElem?_toList];cases e:acc[i]? with
 |some v=>exact(h2 i v e).symm
 |none=>
  have:acc.size<=i:=by simpa using e
  rw[List.getElem?_eq_none (by omega)]
theorem vO{a:Addr}{ns:List Int}{R:List Value->Shared->Prop}(hh:A.handled=none)(hS:SetJ w s.heap a ns)
  (h:∀h' d tk vs ms,(∀b o,s.heap.get? b=some o->h'.get? b=some o)->IntsAre vs ms->ms.Perm ns->R vs { s with heap:=h',drawn:=d,toks:=tk }):wpAny (model prog w) A (collect (.ref a)) R E s:=by
 have hsz:ns.length<scanBound:=by obtain⟨es,ep,t,ho,hel,hp,hb,hf,hw⟩:=hS;exact hb
 have lta:a<s.heap.objs.size:=by obtain⟨es,ep,t,ho,hel,hp,hb,hf,hw⟩:=hS;exact lt_size ho
 unfold collect;refine wpAny_bind (wpAny_runValue (codeAny_builtin entry_proto_collect' ?_));rw[Around.under_plainId PySem.F.plain_proto_collect _];refine wpAny_bind (m:=newList []) (wpAny_newObj_type ?_);refine wpAny_pure ⟨plainId_quiet PySem.F.plain_list_iadd _,codeAny_builtin entry_list_iadd' ?_⟩;rw[Around.under_plainId PySem.F.plain_list_iadd _];show wpAny _ A.in1 (Builtin.List.listExtendWith (.ref s.heap.objs.size) (.ref a) (.ref s.heap.objs.size)) _ _ _;unfold Builtin.List.listExtendWith;have kp1:∀b o,s.heap.get? b=some o->(s.heap.push { cls:=.type "list",data:=.seq ([]:List Value).toArray }).get? b=some o:=fun b o e=>get?_push_of_some _ e
 have hS1:=hS.at fun o e=>kp1 a o e
 have hL:(s.heap.push { cls:=.type "list",data:=.seq ([]:List Value).toArray }).get? s.heap.objs.size=some { cls:=.type "list",data:=.seq #[] 0 }:=get?_push_size _ rfl;have hT:∀{s1:Shared},SetJ w s1.heap a ns->s1.TypeIs (.ref a) "set":=fun q=>by obtain⟨es,ep,t,ho,r⟩:=q;exact⟨_,ho,rfl⟩
 refine wpAny_bind (wpAny_typeOf (T:="set") (hT hS1) ?_);have h1:Builtin.List.listSameRef (.ref s.heap.objs.size) (.ref a)=false:=by simp[Builtin.List.listSameRef];exact ne_of_gt lta
 have h2:(Value.type "set" == Value.type "list")=false:=by decide
 have h3:(Value.type "set" == Value.type "tuple")=false:=by decide
 simp only[h1,h2,h3,Bool.or_false,Bool.false_eq_true,if_false];refine wpAny_bind (BC hS1 fun I tp h1 d vs ms htp haI kp2 hI hI2 htp2 sw iv pm=>?_);have ltL:s.heap.objs.size<(s.heap.push { cls:=.type "list",data:=.seq ([]:List Value).toArray }).objs.size:=lt_size hL;have neI:s.heap.objs.size≠I:=fun z=>by
  have q:s.heap.objs.size<I:=lt_of_lt_of_le ltL hI;rw[<-z]at q;exact lt_irrefl _ q
 have neT:s.heap.objs.size≠tp:=fun z=>by
  rcases htp2 with q|q
  ·rw[q]at z;exact absurd lta (by rw[z];exact lt_irrefl _)
  ·rw[<-z]at q;exact absurd ltL (Nat.not_lt.mpr q)
 have hL1:=kp2 _ _ hL;refine wpAny_bind (wpAny_holding (C1 (hT (s1:={ s with heap:=h1,drawn:=d }) (hS1.at fun o e=>kp2 a o e)) ?_));have fin:∀(RR:Result->Shared->Prop) (hR:∀s',wpAny (model prog w) A (load s.heap.objs.size >>= fun o=>match o.data with
   |.seq xs _=>pure xs.toList
   |_=>unsupported "internal:collect") R E s'->RR (.ok (.ret (.ref s.heap.objs.size))) s') (h2:Heap) (c:Nat),h2.get? s.heap.objs.size=some { cls:=.type "list",data:=.seq #[] c }->(∀b o,b≠s.heap.objs.size->h1.get? b=some o->h2.get? b=some o)->codeAny (model prog w) A (.builtin "list.extend.loop" ⟨[.ref s.heap.objs.size,.ref I,.ref s.heap.objs.size],[]⟩) RR { s with heap:=h2,drawn:=d }:=fun RR hR h2 c e2 k2=>by
  have W:=(Bj (prog:=prog) (w:=w) (A:=A.in1) hh haI htp vs).toS;have vl:vs.length=ns.length:=by rw[<-pm.length_eq];exact IntsAre.length iv
  refine codeAny_extend_loopS W (by rw[vl];exact fits_of_scanBound hsz) s.heap.objs.size (by simp only[mem_cons,not_mem_nil,or_false,not_or];exact⟨neI,ne_of_gt lta,neT⟩) (.ref s.heap.objs.size) vs.length 0 _ #[] c rfl (zero_le _) (sw.frame fun b hb o e=>?_) e2 (ItemsOf.nil _) fun s' acc c' hm hS' hacc=>?_
  ·refine k2 b o (fun z=>?_) e
   simp only[mem_cons,not_mem_nil,or_false]at hb;rcases hb with rfl|rfl|rfl
   ·exact neI z.symm
   ·exact ne_of_lt lta z
   ·exact neT z.symm
  ·refine hR s' (wpAny_bind (wpAny_load hS' (wpAny_pure ?_)))
   rw[CS hacc];obtain⟨h',g',d',tk',os'⟩:=s';have eg:g'=s.gens:=hm.gens;have ed:d'=d:=hm.drawn;have eo:os'=s.os:=hm.os;subst eg ed eo;refine h h' d' tk' vs ms (fun b o e=>?_) iv pm;have lt:=lt_size e;refine hm.heap b o ?_ (k2 b o (ne_of_lt lt) (kp2 b o (kp1 b o e)));simp only[mem_cons,not_mem_nil,or_false,not_or];exact⟨ne_of_lt lt,fun z=>by
    have q:b<I:=Nat.lt_trans lt (lt_of_lt_of_le ltL hI);rw[z]at q;exact lt_irrefl _ q⟩
 refine wpAny_ite_split (fun _=>?_) (fun _=>wpAny_pure ⟨plainId_quiet plain_extend_loop _,fin _ (fun s' q=>q) h1 0 hL1 fun b o _ e=>e⟩)
 refine wpAny_bind (wpAny_rule ?_);refine wpAny_bind ?_;show wpAny _ _ (updateSeq s.heap.objs.size (·.push .none) >>= fun _=>updateSeq s.heap.objs.size (·.pop)) _ _ _
 refine wpAny_bind (wpAny_updateSeq hL1 rfl ?_);have g2:=get?_update_self (Obj.mapSeq (·.push Value.none)) hL1 rfl;refine wpAny_updateSeq (hz:=by seq_fits) g2 rfl ?_;have g3:=get?_update_self (Obj.mapSeq (·.pop)) g2 rfl;exact wpAny_pure ⟨plainId_quiet plain_extend_loop _,fin _ (fun s' q=>q) _ _ g3 fun b o hb e=>bD hb (bD hb e)⟩
end
section
variable{X:Cx}
theorem Inv.keptD{pins:List (Addr×Obj)}{σ:St}{H:Hp}{s:Shared}{h':Heap}{t':Nat}{d:Drawn}(I:Inv X pins σ H s)(k:∀b u,s.heap.get? b=some u->h'.get? b=some u):Inv X pins σ H { s with heap:=h',drawn:=d,toks:=t' }:=by
 obtain⟨a1,a2,a3,a4,a5,a6,a7,a8,a9,a10,a11⟩:=I.kept (t':=t') k;exact⟨a1,a2,a3,a4,a5,a6,a7,a8,a9,a10,a11⟩
theorem wf(hc:X.calm=true){pins:List (Addr×Obj)}{σ:St}{H:Hp}{s:Shared}{a:Addr}{ns:List Int}{Q:VK}(I:Inv X pins σ H s)(hS:SetJ X.w s.heap a ns)(h64:ns.length<64)(q:∀l,H l=none->Q (.ref l) (upd H l (.lst ((dB ns).map V.int)))):
  wpAny (model X.prog X.w) X.A (call (.builtin "sorted") [.ref a]) (EP X pins σ Q) X.xe s:=by
 refine Calls.call_function_entry kind_sorted plain_sorted entry_sorted (args_sorted1 _) ?_;unfold Builtin.«sorted»;refine wpAny_bind (m:=checkCount "sorted" 1 1 _) (wpAny_pure ?_);refine wpAny_bind (vO (I.ok.hd hc) hS fun h' d tk acc ms hk' hI pm=>?_)
 have hln:acc.length=ns.length:=by rw[<-pm.length_eq];exact IntsAre.length hI
 refine wpAny_bind (wpAny_newList ?_ (by rw[hln,sizeLine_eq];omega));have hoL:(h'.push (seqObj "list" acc.toArray 0)).get? h'.objs.size=some (seqObj "list" acc.toArray 0):=get?_push_size _ rfl;refine wpAny_bind (wpAny_holding (wpAny_call_entry slot_list_sort ⟨_,hoL,rfl⟩ entry_list_sort (list_sort_tree hoL hI (by rw[hln];exact h64) fun out ns' a1 a2 a3=>⟨_,rfl,?_⟩) (args_list_sort _)))
 refine wpAny_pure ⟨_,rfl,?_⟩;have e:=sd (a2.trans pm) a3;subst e;have I1:Inv X pins σ H { s with heap:=h',drawn:=d,toks:=tk }:=Inv.keptD I hk';have kp:∀b o,h'.get? b=some o->(sortedHeap (h'.push (seqObj "list" acc.toArray 0)) h'.objs.size acc out).get? b=some o:=fun b o eo=>by
  have hb:b≠h'.objs.size:=ne_of_lt (lt_size eo);exact bD hb (get?_push_of_some _ (get?_push_of_some _ (bD hb (get?_push_of_some _ eo))))
 obtain⟨e1,ho1⟩:∃e1,((h'.push (seqObj "list" acc.toArray 0)).update h'.objs.size (Obj.mapSeq fun _=>#[])).get? h'.objs.size=some (seqObj "list" #[] e1):=⟨_,get?_update_seq hoL (fun _=>#[])⟩;have ho2:=get?_push_of_some (seqObj "list" #[] 0) (get?_push_of_some (seqObj "tuple" acc.toArray 0) ho1);have ho3:=get?_update_seq ho2 (fun _=>out);have L:=I1.laid (h':=sortedHeap (h'.push (seqObj "list" acc.toArray 0)) h'.objs.size acc out) (a:=h'.objs.size) (o:=.lst ((dB ns).map V.int)) (t':=tk) kp (le_refl _)
  (show ObjOk X.prog X.w _ _ _ (.lst ((dB ns).map V.int))from ⟨by rw[length_map,(gY ns).length_eq,sizeLine_eq];omega,out.toList,_,ie a1,by rw[Array.toArray_toList];exact ho3⟩)
 exact⟨.ref h'.objs.size,_,L,rfl,q _ (I1.hok.fresh (le_refl _))⟩
variable{e:Expr}{p p2 pos pos2:Pos}{te:TE}{f:Dv->Option D}
def LA(X:Cx)(te:TE):TE:=fun σ H Q=>te σ H fun v H1=>∃(a:Addr) (l:List Int),[v]=[V.ref a]/\(SqL X.K H1 a (l.map V.int)\/SqT X.K H1 a (l.map V.int))/\l.length<64/\∀b,H1 b=none->Q (.ref b) (upd H1 b (.lst ((dB (jf l)).map V.int)))
theorem ka:∀{l:List Int} {us:List Value},Vals (l.map V.int) us->IntsAre us l
 |[],[],.nil=>.nil
 |n::l,u::us,.cons h r=>by
  obtain⟨t,rfl⟩:=h;exact .cons n t (ka r)
theorem E3(hc:X.calm=true)(hg:Gl X "sorted")(hm:X.mg "sorted" = none)(hg':Gl X "set")(hm':X.mg "set" = none)(ha:PE X e te)
  (he:starEach [.Call (.Name "set" p2) [e] [] pos2] X.env=(false,eval (.Call (.Name "set" p2) [e] [] pos2) X.env)::starEach [] X.env:=by rfl)
  (he2:starEach [e] X.env=(false,eval e X.env)::starEach [] X.env:=by rfl) (hpl:(backTo pos (starEach [] X.env)).any (·.1)=false:=by rfl) (hpl2:(backTo pos2 (starEach [] X.env)).any (·.1)=false:=by rfl) :
  PE X (.Call (.Name "sorted" p) [.Call (.Name "set" p2) [e] [] pos2] [] pos) (LA X te):=by
 intro pins s σ H Q I h;refine wpAny_Call_Name_kw (iU I hg hm (u:=.builtin "sorted") (by decide +kernel) ?_ (by decide) (by decide));refine PyProof.Rows.callWith_builtin1 ?_ he hpl;rw[he];show wpAny _ _ (spliced ((false,eval _ X.env)::backTo pos (starEach [] X.env))) _ _ s;refine Calls.spliced_cons ?_;refine wpAny_Call_Name_kw (iU I hg' hm' (u:=.type "set") (by decide +kernel) ?_ (by decide) (by decide));refine PyProof.Rows.callWith_type1 (cm (gQ ha ki he2 pos2 pins s σ H (fun xs H1=>∃(a:Addr) (l:List Int),xs=[V.ref a]/\(SqL X.K H1 a (l.map V.int)\/SqT X.K H1 a (l.map V.int))/\l.length<64/\∀b,H1 b=none->Q (.ref b) (upd H1 b (.lst ((dB (jf l)).map V.int)))) I (by exact h)) fun us s1 ⟨vs,H1,I1,r1,q1⟩=>?_) he2 hpl2
 obtain⟨a,l,e1,hsq,h64,q⟩:=q1;subst e1;obtain⟨u,rfl,rx⟩:=uz r1;cases rx;obtain⟨its,iv,hl,hz⟩:∃its:List Value,IntsAre its l/\(s1.heap.IsList a its.toArray\/s1.heap.IsTuple a its.toArray)/\its.length=l.length:=by
  rcases hsq with hsq|hsq
  ·obtain⟨its,r,⟨o,n,e1,e2,e3,e4⟩,z⟩:=I1.list hsq
   exact⟨its,ka r,.inl ⟨o,e1,e2,n,e4⟩,by rw[<-r.length,length_map]⟩
  ·obtain⟨its,r,⟨o,e1,e2,n,e3⟩,z⟩:=I1.tuple hsq
   exact⟨its,ka r,.inr ⟨o,e1,e2,n,e3⟩,by rw[<-r.length,length_map]⟩
 refine re (I1.ok.hd hc) hl (by simpa using iv) (by rw[size_toArray,hz];unfold scanBound;omega) fun h' tk hS kp=>?_
 refine Calls.spliced_nil ?_;have sl:(jf l).length<=l.length:=by
  have:=oM l [];simpa[jf]using this
 exact wf hc (I1.kept kp) hS (by omega) fun b hb=>q b hb
theorem pQ{K:Fg}{Z:Hp}:∀{vs:List V} {ds:List D} {l:List Int},Reps K Z vs ds->CW ds=some l->vs=l.map V.int
 |_,_,_,.nil,h=>by cases h;rfl
 |_,.int i::ds,l,.cons r rs,h=>by
  obtain⟨l',e,h⟩:=bind_some h;cases h;rw[r.int_eq,pQ rs e];rfl
 |_,.none::ds,l,.cons r rs,h=>by cases h
 |_,.bool _::ds,l,.cons r rs,h=>by cases h
 |_,.str _::ds,l,.cons r rs,h=>by cases h
 |_,.list _::ds,l,.cons r rs,h=>by cases h
 |_,.tuple _::ds,l,.cons r rs,h=>by cases h
 |_,.dict _::ds,l,.cons r rs,h=>by cases h
theorem Gk(hg:Gl X "sorted")(hm:X.mg "sorted" = none)(hg':Gl X "set")(hm':X.mg "set" = none)(ha:EV X e f)(hc:X.calm=true:=by rfl)
  (he:starEach [.Call (.Name "set" p2) [e] [] pos2] X.env=(false,eval (.Call (.Name "set" p2) [e] [] pos2) X.env)::starEach [] X.env:=by rfl)
  (he2:starEach [e] X.env=(false,eval e X.env)::starEach [] X.env:=by rfl) (hpl:(backTo pos (starEach [] X.env)).any (·.1)=false:=by rfl) (hpl2:(backTo pos2 (starEach [] X.env)).any (·.1)=false:=by rfl) :
  EV X (.Call (.Name "sorted" p) [.Call (.Name "set" p2) [e] [] pos2] [] pos) (o1 f kN):=
 PE.imp (E3 hc hg hm hg' hm' ha he he2 hpl hpl2) fun σ H Q h=>by
  obtain⟨H₀,Z₀,Z,δ,d,hh,e,k⟩:=h;obtain⟨d1,e1,e⟩:=bind_some e;refine⟨H₀,Z₀,Z,δ,d1,hh,e1,fun v Z1 H1 hh1 t1 r1=>?_⟩
  unfold kN at e;obtain⟨ds,e2,e⟩:=bind_some e;obtain⟨l,e3,e⟩:=bind_some e;obtain⟨h64,e⟩:=eB e;cases e;have key:∀b,H1 b=none->Q (.ref b) (upd H1 b (.lst ((dB (jf l)).map V.int))):=fun b hb=>by
   have n:=New.add hh1.zh hb (.lst ((dB (jf l)).map V.int));exact k _ _ _ (hh1.new n) (t1.trans n.z) (.lst (SqL.of aN) (Reps.ints _))
  cases r1 with
  |lst sq rs=>
   cases e2;have:=pQ rs e3;subst this;exact⟨_,l,rfl,.inl (SqL.same sq hh1.zh),h64,key⟩
  |tup sq rs=>
   cases e2;have:=pQ rs e3;subst this;exact⟨_,l,rfl,.inr (SqT.same sq hh1.zh),h64,key⟩
  |_=>cases e2
end
mutual
def yD:D->Bool
 |.none=>true
 |.bool _=>true
 |.int _=>true
 |.str _=>true
 |.tuple xs=>noLs xs
 |.list _=>false
 |.dict _=>false
def noLs:List D->Bool
 |[]=>true
 |d::r=>yD d&&noLs r
end
def pP:D->Bool
 |.int _=>true
 |.tuple [.int _,.int _]=>true
 |_=>false
noncomputable def al(f:Str):List (Str×D)->Option D
 |[]=>none
 | (g,x)::r=>if g=f then some x else al f r
noncomputable def cW(f:Str)(v:D):List (Str×D)->List (Str×D)
 |[]=>[(f,v)]
 | (g,x)::r=>if g=f then(g,v)::r else(g,x)::cW f v r
noncomputable def GZ:List (D×D)->Option (List (Str×D))
 |[]=>some []
 | (.str g,v)::r=>(GZ r).bind fun t=>some ((g,v)::t)
 |_=>none
noncomputable def Ae(n:Str):D->Option (List (Str×D))
 |.dict ((.str t,.str m)::r)=>if t = "ins" /\ m=n then GZ r else none
 |_=>none
def eG(n f:Str)(d:D):Option D:=(Ae n d).bind (al f)
def oJ(n:Str):Option Sl->Option (List (Str×D))
 |some (.fz d)=>Ae n d
 |_=>none
noncomputable def uX(j:Nat)(f:Dv->Option D):Sf:=fun δ=>(f δ).bind fun v=>if yD v then some (.nx,δ.set j (.fz v))else none
noncomputable def mM(n:Str)(i:Nat)(F:Str)(fk fv:Dv->Option D):Sf:=fun δ=>(fv δ).bind fun v=>(fk δ).bind fun y=>(oJ n δ[i]?).bind fun ds=>(al F ds).bind fun l=>match l with
 |.list us=>if pP v then(lY us y v).bind fun us'=>some (.nx,δ.set i (.fz (insD n (cW F (.list us') ds))))else none
 |_=>none
noncomputable def uW(n:Str)(i:Nat)(F:Str)(fv:Dv->Option D):Sf:=fun δ=>(fv δ).bind fun v=>(oJ n δ[i]?).bind fun ds=>(al F ds).bind fun l=>match l with
 |.list us=>if pP v=true/\us.length<sizeLine then some (.nx,δ.set i (.fz (insD n (cW F (.list (us++[v])) ds))))else none
 |_=>none
noncomputable def BD(n:Str)(i:Nat)(F:Str)(fv:Dv->Option D):Sf:=fun δ=>(fv δ).bind fun v=>(oJ n δ[i]?).bind fun ds=>(al F ds).bind fun l=>match l,v with
 |.list us,.list ws=>if ws.all pP=true/\us.length+ws.length<=sizeLine then some (.nx,δ.set i (.fz (insD n (cW F (.list (us++ws)) ds))))else none
 |_,_=>none
noncomputable def dO(n:Str)(i:Nat)(m:Str)(fs:Dv->Option (List D))(g:List (Str×D)->List D->Option (List (Str×D))):Sf:=fun δ=>(oJ n δ[i]?).bind fun ds=>(fs δ).bind fun as=>if al m ds=none/\noLs as=true then(g ds as).bind fun ds'=>some (.nx,δ.set i (.fz (insD n ds')))else none
noncomputable def jX(n:Str)(N:List Str)(l:Nat)(b:Sf):List (Str×D)->List D->Option (List (Str×D)):=fun ds as=>if as.length+1=l then(b (av N (insD n ds::as))).bind fun r=>match r with
  | (.nx,δ)=>oJ n δ[0]?
  |_=>none
 else none
theorem nI:∀ds:List (Str×D),GZ (ds.map fun q=>(PyData.str q.1,q.2))=some ds
 |[]=>rfl
 | (g,v)::r=>by simp only[map_cons,GZ,nI r,Option.bind_some]
@[simp] theorem Mo(n:Str)(ds:List (Str×D)):Ae n (insD n ds)=some ds:=by
 show(if("ins":Str) = "ins" /\ n=n then GZ (ds.map fun q=>(PyData.str q.1,q.2))else none)=some ds
 rw[if_pos ⟨rfl,rfl⟩,nI]
theorem Bc:∀{r:List (D×D)} {ds:List (Str×D)},GZ r=some ds->r=ds.map fun q=>(PyData.str q.1,q.2)
 |[],ds,h=>by cases h;rfl
 | (k,v)::r,ds,h=>by
  cases k with
  |str g=>
   obtain⟨t,e,h⟩:=bind_some (show(GZ r).bind _=some ds from h);cases h;rw[Bc e];rfl
  |_=>cases h
theorem yy{n:Str}{d:D}{ds:List (Str×D)}(h:Ae n d=some ds):d=insD n ds:=by
 unfold Ae at h;split at h
 ·rename_i t m r
  split at h
  ·rename_i q
   obtain⟨rfl,rfl⟩:=q;rw[Bc h];rfl
  ·cases h
 ·cases h
theorem jd{n:Str}{o:Option Sl}{ds:List (Str×D)}(h:oJ n o=some ds):o=some (.fz (insD n ds)):=by
 unfold oJ at h;split at h
 ·rw[yy h]
 ·cases h
def FA(K:Fg)(Z:Hp)(p:Str×V)(q:Str×D):Prop:=p.1=q.1/\FF K Z p.2 q.2
theorem eF{n m:Str}{ds es:List (Str×D)}(h:insL n ds=insL m es):n=m/\ds=es:=by
 unfold insL at h;injection h with h1 h2
 injection h1 with _ h3
 injection h3 with h4
 refine⟨h4,?_⟩;have:=congrArg GZ h2;rw[nI,nI]at this;exact Option.some.inj this
theorem Fk{K:Fg}{Z:Hp}{a:Addr}{kvs:List (D×D)}{n:Str}{ds:List (Str×D)}(h:Opq K Z a kvs)(ek:insL n ds=kvs):∃C dx fs,PySem.W.nsIn K mainGlobals n=some (some (.ref C))/\Z a=some (.ins C dx fs)/\Paired (FA K Z) fs ds:=by
 cases h with
 |exc h1 h2=>unfold insL at ek;injection ek with e1 e2;injection e1 with e3 _;injection e3 with e4;exact absurd e4 (by decide)
 |fn h1=>unfold insL at ek;injection ek with e1 e2;injection e1 with e3 _;injection e3 with e4;exact absurd e4 (by decide)
 |ins h1 h2 h3=>
  obtain⟨rfl,rfl⟩:=eF ek;exact⟨_,_,_,h1,h2,h3⟩
 |dct h1 h2=>exact(Gx (ek.trans h1)).elim
theorem Kn{K:Fg}{Z:Hp}{v:V}{n:Str}{ds:List (Str×D)}(h:Rep K Z v (.dict (insL n ds))):∃a C dx fs,v=.ref a/\PySem.W.nsIn K mainGlobals n=some (some (.ref C))/\Z a=some (.ins C dx fs)/\Paired (FA K Z) fs ds:=by
 cases v with
 |ref a=>
  have:Opq K Z a (insL n ds):=by
   generalize insL n ds=kvs at h;cases h with
   |opq h=>exact h
  obtain⟨C,dx,fs,h1,h2,h3⟩:=Fk this rfl;exact⟨a,C,dx,fs,rfl,h1,h2,h3⟩
 |_=>exact nomatch h
theorem yY{K:Fg}{Z:Hp}{f:Str}{d:D}:∀{fs:List (Str×V)} {ds:List (Str×D)},Paired (FA K Z) fs ds->al f ds=some d->∃v,fs.lookup f=some v/\FF K Z v d
 |_,_,.nil,h=>by cases h
 |_,_,.cons (a:=(g,v)) (b:=(g',x)) ⟨e,r⟩ t,h=>by
  obtain rfl:g=g':=e;unfold al at h;by_cases q:g=f
  ·rw[if_pos q]at h;cases h
   exact⟨v,by rw[lookup_cons];simp[q],r⟩
  ·rw[if_neg q]at h
   obtain⟨w,h1,h2⟩:=yY t h;refine⟨w,?_,h2⟩;rw[lookup_cons];have:(f==g)=false:=by simpa using fun z=>q z.symm
   rw[this];exact h1
theorem FI.rep{K:Fg}{Z:Hp}{v:V}{d:D}(h:FI K Z v d):Rep K Z v d:=by
 cases h with
 |int i=>exact .int i
 |pair q=>exact .tup q (.cons (.int _) (.cons (.int _) .nil))
theorem yW{K:Fg}{Z:Hp}:∀{xs:List V} {ds:List D},Paired (FI K Z) xs ds->Reps K Z xs ds
 |_,_,.nil=>.nil
 |_,_,.cons r t=>.cons r.rep (yW t)
theorem FF.rep{K:Fg}{Z:Hp}{v:V}{d:D}(h:FF K Z v d):Rep K Z v d:=by
 cases h with
 |int i=>exact .int i
 |lst q r=>exact .lst (SqL.of q) (yW r)
theorem Dh{K:Fg}{Z:Hp}{v:V}{d:D}(h:Rep K Z v d)(e:pP d=true):FI K Z v d:=by
 cases d with
 |int i=>cases h;exact .int i
 |tuple ds=>
  unfold pP at e;split at e
  ·rename_i q;cases q
  ·rename_i i j q
   cases q;cases h with
   |tup q r=>
    cases r with
    |cons r1 r2=>
     cases r2 with
     |cons r3 r4=>
      cases r4;cases r1;cases r3;exact .pair q
  ·cases e
 |_=>cases e
theorem xj{K:Fg}{Z:Hp}:∀{xs:List V} {ds:List D},Reps K Z xs ds->ds.all pP=true->Paired (FI K Z) xs ds
 |_,_,.nil,_=>.nil
 |_,_,.cons r t,e=>by
  rw[List.all_cons,Bool.and_eq_true]at e;exact .cons (Dh r e.1) (xj t e.2)
structure ClN (K:Fg) (n:Str):Prop where
 c:∀C,PySem.W.nsIn K mainGlobals n=some (some (.ref C))->Cls K C
structure NaN (K:Fg) (n f:Str):Prop where
 c:∀C,PySem.W.nsIn K mainGlobals n=some (some (.ref C))->NoAttr K C f
section
variable{X:Cx}{e b c:Expr}{es:List Expr}{f fk fv:Dv->Option D}{fs:Dv->Option (List D)}{ft:Dv->Option Bool}{p pos tpos apos:Pos}{n F:Str}
theorem dQ(cl:ClN X.K n)(na:NaN X.K n F)(he:EV X e f)(hb:attributeBase e F X.env (eval e X.env)=eval e X.env:=by rfl):EV X (.Attribute e F pos) (o1 f (eG n F)):=
 PE.imp (tf he hb) fun σ H Q h=>by
  obtain⟨H₀,Z₀,Z,δ,d,hh,e,k⟩:=h;obtain⟨x,e1,e⟩:=bind_some e;obtain⟨ds,e2,e⟩:=bind_some (show(Ae n x).bind _=some d from e);refine⟨H₀,Z₀,Z,δ,x,hh,e1,fun v Z1 H1 hh1 s1 r1=>?_⟩
  rw[yy e2]at r1;obtain⟨a,C,dx,fs,rfl,hC,hz,hp⟩:=Kn r1;obtain⟨w,h1,h2⟩:=yY hp e;exact⟨a,C,dx,fs,w,rfl,hh1.zh _ _ hz,cl.c C hC,na.c C hC,h1,k w Z1 H1 hh1 s1 h2.rep⟩
end
def gm:List (Str×V)->List Addr
 |[]=>[]
 | (_,.ref b)::r=>b::gm r
 | (_,_)::r=>gm r
inductive FO (K:Fg) (H Z:Hp):V->D->Prop
 |int (i:Int):FO K H Z (.int i) (.int i)
 |lst {b:Addr} {xs:List V} {ds:List D}:H b=some (.lst xs)->Paired (FI K Z) xs ds->FO K H Z (.ref b) (.list ds)
def FB(K:Fg)(H Z:Hp)(p:Str×V)(q:Str×D):Prop:=p.1=q.1/\FO K H Z p.2 q.2
structure OW (K:Fg) (n:Str) (A:List Addr) (x:Addr) (ds:List (Str×D)) (Z H:Hp):Prop where
 ex:∃C dx fs,PySem.W.nsIn K mainGlobals n=some (some (.ref C))/\H x=some (.ins C dx fs)/\A=x::gm fs/\Paired (FB K H Z) fs ds
 nd:A.Nodup
 zn:∀b∈A,Z b=none
structure Kept (A:List Addr) (Z H Z' H':Hp):Prop where
 z:Same Z Z'
 h:∀b o,b ∉ A->H b=some o->H' b=some o
 zh:Same Z' H'
 o:∀b,H b≠none->Z' b=Z b
 t:∀b,H b≠none->H' b≠none
 nf:NoF Z Z'
theorem Kept.refl{A:List Addr}{Z H:Hp}(zh:Same Z H):Kept A Z H Z H:=⟨Same.refl _,fun _ _ _ e=>e,zh,fun _ _=>rfl,fun _ e=>e,NoF.refl _⟩
theorem Kept.trans{A:List Addr}{Z H Z1 H1 Z2 H2:Hp}(a:Kept A Z H Z1 H1)(b:Kept A Z1 H1 Z2 H2):Kept A Z H Z2 H2:=
 ⟨a.z.trans b.z,fun c o hc e=>b.h c o hc (a.h c o hc e),b.zh,fun c hc=>by rw[b.o c (a.t c hc),a.o c hc],fun c hc=>b.t c (a.t c hc),a.nf.trans b.nf⟩
theorem Kept.upd{A:List Addr}{Z H Z1 H1:Hp}(a:Kept A Z H Z1 H1){b:Addr}(hb:b∈A)(hz:Z1 b=none)(o:HO):Kept A Z H Z1 (upd H1 b o):=
 ⟨a.z,fun c u hc e=>by rw[aA (fun z:c=b=>hc (by rw[z];exact hb))];exact a.h c u hc e,fun c u e=>by rw[aA (aW e hz)];exact a.zh c u e,a.o,fun c hc=>by
  by_cases q:c=b
  ·rw[q,aN];intro z;cases z
  ·rw[aA q];exact a.t c hc,a.nf⟩
structure HoldW (K:Fg) (n:Str) (i:Nat) (A:List Addr) (x:Addr) (ds:List (Str×D)) (Z:Hp) (δ:Dv) (σ:St) (H:Hp):Prop where
 zh:Same Z H
 len:δ.length = σ.length
 at_:σ[i]? = some (some (.ref x))
 dat:δ[i]? = some (.fz (insD n ds))
 ob:OW K n A x ds Z H
 fz:∀(j:Nat) d,j≠i -> δ[j]? = some (.fz d)->∃v,σ[j]? = some (some v)/\Rep K Z v d
 now:∀(j:Nat) c,δ[j]? ≠ some (.own c)
 nfr:∀(j:Nat) l,δ[j]? ≠ some (.fr l)
def Zp(A:List Addr)(H Z:Hp):Hp:=fun b=>if b∈A then H b else Z b
def ja(A:List Addr)(Z:Hp):Hp:=fun b=>if b∈A then none else Z b
section
variable{K:Fg}{n:Str}{i:Nat}{A:List Addr}{x:Addr}{ds:List (Str×D)}{Z H:Hp}{δ:Dv}{σ:St}
theorem uu{b:Addr}(h:b∈A):Zp A H Z b=H b:=if_pos h
theorem j9{b:Addr}(h:b ∉ A):Zp A H Z b=Z b:=if_neg h
theorem yL{b:Addr}(h:b∈A):ja A Z b=none:=if_pos h
theorem kn{b:Addr}(h:b ∉ A):ja A Z b=Z b:=if_neg h
theorem nG(zn:∀b∈A,Z b=none):Same Z (Zp A H Z):=fun b o e=>by
 rw[j9 (fun z=>by rw[zn b z]at e;cases e)];exact e
theorem OW.x_in(h:OW K n A x ds Z H):x∈A:=by obtain⟨C,dx,fs,_,_,rfl,_⟩:=h.ex;exact mem_cons_self ..
theorem Di:∀{fs:List (Str×V)} {ds:List (Str×D)},(∀b∈gm fs,b∈A)->Same Z (Zp A H Z)->Paired (FB K H Z) fs ds->Paired (fun(p:Str×V) (q:Str×D)=>p.1=q.1/\FF K (Zp A H Z) p.2 q.2) fs ds
 |[],[],_,_,.nil=>.nil
 | (g,v)::_,(g',y)::_,hs,s,.cons ⟨e,r⟩ t=>by
  cases r with
  |int i=>exact .cons ⟨e,.int i⟩ (Di (fun b hb=>hs b hb) s t)
  |lst q r=>exact .cons ⟨e,.lst (by rw[uu (hs _ (mem_cons_self ..))];exact q) (Paired.mapP r fun _ _=>FI.same s)⟩ (Di (fun b hb=>hs b (mem_cons_of_mem _ hb)) s t)
theorem OW.rep(h:OW K n A x ds Z H):Rep K (Zp A H Z) (.ref x) (insD n ds):=by
 have hx:=h.x_in;obtain⟨C,dx,fs,h1,h2,rfl,h4⟩:=h.ex;exact .opq (.ins h1 (by rw[uu hx];exact h2) (Di (fun b hb=>mem_cons_of_mem _ hb) (nG h.zn) h4))
theorem HoldW.frz(h:HoldW K n i A x ds Z δ σ H):Hold K H (Zp A H Z) (Zp A H Z) δ σ H where
 zh:=fun b o e=>by
  by_cases q:b∈A
  ·rw[uu q]at e;exact e
  ·rw[j9 q]at e;exact h.zh b o e
 h0:=Same.refl _
 z0:=Same.refl _
 zb:=fun _ _=>rfl
 len:=h.len
 fz:=fun j d e=>by
  by_cases q:j=i
  ·subst q
   rw[h.dat]at e;cases e;exact⟨_,h.at_,h.ob.rep⟩
  ·obtain⟨v,h1,h2⟩:=h.fz j d q e
   exact⟨v,h1,h2.same (nG h.ob.zn)⟩
 own:=fun j c e=>absurd e (h.now j c)
 dja:=fun j k c c' a _ e=>absurd e (h.now j c)
 fr:=fun j l e=>absurd e (h.nfr j l)
 nf:=NoF.refl _
theorem FB.imp{H' Z':Hp}(s:Same Z Z'):∀{fs:List (Str×V)} {ds:List (Str×D)},(∀b∈gm fs,∀o,H b=some o->H' b=some o)->Paired (FB K H Z) fs ds->Paired (FB K H' Z') fs ds
 |[],[],_,.nil=>.nil
 | (g,v)::_,(g',y)::_,hs,.cons ⟨e,r⟩ t=>by
  cases r with
  |int i=>exact .cons ⟨e,.int i⟩ (FB.imp s (fun b hb=>hs b hb) t)
  |lst q r=>exact .cons ⟨e,.lst (hs _ (mem_cons_self ..) _ q) (Paired.mapP r fun _ _=>FI.same s)⟩ (FB.imp s (fun b hb=>hs b (mem_cons_of_mem _ hb)) t)
theorem OW.same{Z' H':Hp}(h:OW K n A x ds Z H)(s:Same Z Z')(hs:Same H H')(zn:∀b∈A,Z' b=none):OW K n A x ds Z' H':=by
 obtain⟨C,dx,fs,h1,h2,h3,h4⟩:=h.ex;exact⟨⟨C,dx,fs,h1,hs _ _ h2,h3,FB.imp s (fun b _ o e=>hs b o e) h4⟩,h.nd,zn⟩
theorem xk{b:Addr}:∀{fs:List (Str×V)} {ds:List (Str×D)},Paired (FB K H Z) fs ds->b∈gm fs->∃xs,H b=some (.lst xs)
 |_,_,.nil,h=>by cases h
 |_,_,.cons (a:=(g,v)) (b:=(g',y)) ⟨e,r⟩ t,h=>by
  cases r with
  |int i=>exact xk t h
  |lst q r=>
   rcases List.mem_cons.mp h with z|z
   ·subst z;exact⟨_,q⟩
   ·exact xk t z
theorem OW.at_(h:OW K n A x ds Z H){b:Addr}(hb:b∈A):(∃C dx fs,H b=some (.ins C dx fs))\/∃xs,H b=some (.lst xs):=by
 obtain⟨C,dx,fs,h1,h2,rfl,h4⟩:=h.ex;rcases List.mem_cons.mp hb with z|z
 ·subst z;exact .inl ⟨_,_,_,h2⟩
 ·exact .inr (xk h4 z)
theorem OW.some(h:OW K n A x ds Z H){b:Addr}(hb:b∈A):H b≠none:=by
 rcases h.at_ hb with⟨_,_,_,e⟩|⟨_,e⟩<;>(rw[e];intro z;cases z)
mutual
theorem Rep.tups{K:Fg}{Z Z':Hp}(s:∀b xs,Rd Z b (.tup xs)->Rd Z' b (.tup xs)):∀{v:V} {d:D},Rep K Z v d->yD d=true->Rep K Z' v d
 |_,_,.non,_=>.non
 |_,_,.bl b,_=>.bl b
 |_,_,.int i,_=>.int i
 |_,_,.str x,_=>.str x
 |_,_,.tup h r,e=>.tup (h.elim (fun q=>.inl (s _ _ q)) .inr) (Reps.tups s r e)
 |_,_,.lst h r,e=>nomatch e
 |_,_,.opq h,e=>nomatch e
theorem Reps.tups{K:Fg}{Z Z':Hp}(s:∀b xs,Rd Z b (.tup xs)->Rd Z' b (.tup xs)):∀{vs:List V} {ds:List D},Reps K Z vs ds->noLs ds=true->Reps K Z' vs ds
 |_,_,.nil,_=>.nil
 |_,_,.cons h r,e=>.cons (Rep.tups s h (Bool.and_eq_true_iff.mp e).1) (Reps.tups s r (Bool.and_eq_true_iff.mp e).2)
end
structure Thaw (K:Fg) (n:Str) (i:Nat) (A:List Addr) (x:Addr) (ds:List (Str×D)) (Z:Hp) (δ:Dv) (σ:St) (H Z1 H1:Hp):Prop where
 w:HoldW K n i A x ds (ja A Z1) δ σ H1
 k:Kept A Z H (ja A Z1) H1
 t:∀b xs,Rd Z1 b (.tup xs)->Rd (ja A Z1) b (.tup xs)
 s:Same H H1
theorem HoldW.thaw(h:HoldW K n i A x ds Z δ σ H){Z1 H1:Hp}(g:Hold K H (Zp A H Z) Z1 δ σ H1):Thaw K n i A x ds Z δ σ H Z1 H1:=by
 have z1:∀b∈A,Z1 b=H b:=fun b hb=>by rw[g.zb b (h.ob.some hb),uu hb]
 have s:Same Z (ja A Z1):=fun b o e=>by
  have hb:b ∉ A:=fun z=>by rw[h.ob.zn b z]at e;cases e
  rw[kn hb];exact g.z0 b o (by rw[j9 hb];exact e)
 have zh:Same (ja A Z1) H1:=fun b o e=>by
  by_cases q:b∈A
  ·rw[yL q]at e;cases e
  ·rw[kn q]at e;exact g.zh b o e
 refine⟨⟨zh,h.len,h.at_,h.dat,h.ob.same s g.h0 fun b hb=>yL hb,fun j d q e=>?_,h.now,h.nfr⟩,⟨s,fun b o _ e=>g.h0 b o e,zh,fun b hb=>?_,fun b hb=>?_,fun b o xs e=>?_⟩,fun b xs r=>?_,g.h0⟩
 ·obtain⟨v,h1,h2⟩:=h.fz j d q e
  exact⟨v,h1,h2.same s⟩
 ·by_cases q:b∈A
  ·rw[yL q,h.ob.zn b q]
  ·rw[kn q,g.zb b hb,j9 q]
 ·cases e:H b with
  |none=>exact absurd e hb
  |some o=>rw[g.h0 b o e];intro z;cases z
 ·have q:b ∉ A:=fun z=>by rw[yL z]at e;cases e
  rw[kn q]at e;have:=g.nf b o xs e
  rwa [j9 q]at this
 ·have q:b ∉ A:=fun z=>by
   rcases h.ob.at_ z with⟨_,_,_,e⟩|⟨_,e⟩<;>(rcases r with r|⟨o,r⟩<;>(rw[z1 b z,e]at r;cases r))
  rcases r with r|⟨o,r⟩
  ·exact .inl (by rw[kn q];exact r)
  ·exact .inr ⟨o,by rw[kn q];exact r⟩
theorem HoldW.set(h:HoldW K n i A x ds Z δ σ H){j:Nat}{v:V}{d:D}(hj:i≠j)(r:Rep K Z v d):HoldW K n i A x ds Z (δ.set j (.fz d)) (σ.set j (some v)) H where
 zh:=h.zh
 len:=by simp[h.len]
 at_:=by rw[getElem?_set_ne (Ne.symm hj)];exact h.at_
 dat:=by rw[getElem?_set_ne (Ne.symm hj)];exact h.dat
 ob:=h.ob
 fz:=fun k e hk q=>by
  by_cases hjk:j=k
  ·subst hjk
   have hl:j < δ.length:=by have:=(List.getElem?_eq_some_iff.mp q).1;simpa using this
   rw[getElem?_set_self hl]at q;cases q;exact⟨v,getElem?_set_self (by rw[<-h.len];exact hl),r⟩
  ·rw[getElem?_set_ne hjk]at q
   obtain⟨u,a,b⟩:=h.fz k e hk q;exact⟨u,by rw[getElem?_set_ne hjk];exact a,b⟩
 now:=fun k c q=>by
  by_cases hjk:j=k
  ·subst hjk
   have hl:j < δ.length:=by have:=(List.getElem?_eq_some_iff.mp q).1;simpa using this
   rw[getElem?_set_self hl]at q;cases q
  ·rw[getElem?_set_ne hjk]at q;exact h.now k c q
 nfr:=fun k c q=>by
  by_cases hjk:j=k
  ·subst hjk
   have hl:j < δ.length:=by have:=(List.getElem?_eq_some_iff.mp q).1;simpa using this
   rw[getElem?_set_self hl]at q;cases q
  ·rw[getElem?_set_ne hjk]at q;exact h.nfr k c q
theorem HoldW.chg(h:HoldW K n i A x ds Z δ σ H){ds':List (Str×D)}{Z' H':Hp}{A':List Addr}(zz:Same Z Z')(zh:Same Z' H')(ob:OW K n A' x ds' Z' H'):HoldW K n i A' x ds' Z' (δ.set i (.fz (insD n ds'))) σ H' where
 zh:=zh
 len:=by simp[h.len]
 at_:=h.at_
 dat:=getElem?_set_self (List.getElem?_eq_some_iff.mp h.dat).1
 ob:=ob
 fz:=fun k e hk q=>by
  rw[getElem?_set_ne (Ne.symm hk)]at q;obtain⟨u,a,b⟩:=h.fz k e hk q;exact⟨u,a,b.same zz⟩
 now:=fun k c q=>by
  by_cases hk:i=k
  ·subst hk
   rw[getElem?_set_self (List.getElem?_eq_some_iff.mp h.dat).1]at q;cases q
  ·rw[getElem?_set_ne hk]at q;exact h.now k c q
 nfr:=fun k c q=>by
  by_cases hk:i=k
  ·subst hk
   rw[getElem?_set_self (List.getElem?_eq_some_iff.mp h.dat).1]at q;cases q
  ·rw[getElem?_set_ne hk]at q;exact h.nfr k c q
theorem ua{f:Str}{us:List D}:∀{fs:List (Str×V)} {ds:List (Str×D)},Paired (FB K H Z) fs ds->al f ds=some (.list us)->∃b xs,fs.lookup f=some (.ref b)/\H b=some (.lst xs)/\Paired (FI K Z) xs us/\b∈gm fs
 |_,_,.nil,h=>by cases h
 |_,_,.cons (a:=(g,v)) (b:=(g',y)) ⟨e,r⟩ t,h=>by
  obtain rfl:g=g':=e;unfold al at h;by_cases q:g=f
  ·rw[if_pos q]at h;cases h
   cases r with
   |lst r1 r2=>exact⟨_,_,by rw[lookup_cons];simp[q],r1,r2,mem_cons_self ..⟩
  ·rw[if_neg q]at h
   obtain⟨b,xs,h1,h2,h3,h4⟩:=ua t h;refine⟨b,xs,?_,h2,h3,?_⟩
   ·rw[lookup_cons]
    have:(f==g)=false:=by simpa using fun z=>q z.symm
    rw[this];exact h1
   ·cases r with
    |int i=>exact h4
    |lst _ _=>exact mem_cons_of_mem _ h4
theorem yX{f:Str}:∀{fs:List (Str×V)} {ds:List (Str×D)},Paired (FB K H Z) fs ds->al f ds=none->fs.lookup f=none
 |_,_,.nil,h=>rfl
 |_,_,.cons (a:=(g,v)) (b:=(g',y)) ⟨e,r⟩ t,h=>by
  obtain rfl:g=g':=e;unfold al at h;by_cases q:g=f
  ·rw[if_pos q]at h;cases h
  ·rw[if_neg q]at h
   rw[lookup_cons];have:(f==g)=false:=by simpa using fun z=>q z.symm
   rw[this];exact yX t h
theorem xm:∀{fs:List (Str×V)} {ds:List (Str×D)},Paired (FB K H Z) fs ds->fs.length=ds.length
 |_,_,.nil=>rfl
 |_,_,.cons _ t=>congrArg (· + 1) (xm t)
theorem t9{b:Addr}{o:HO}{fs:List (Str×V)}{ds:List (Str×D)}(h:Paired (FB K H Z) fs ds)(hb:b ∉ gm fs):Paired (FB K (upd H b o) Z) fs ds:=
 FB.imp (Same.refl _) (fun c hc u e=>by rw[aA (fun z:c=b=>hb (by rw[<-z];exact hc))];exact e) h
theorem xl{f:Str}{us us':List D}{b:Addr}{xs':List V}(r':Paired (FI K Z) xs' us'):∀{fs:List (Str×V)} {ds:List (Str×D)},Paired (FB K H Z) fs ds->(gm fs).Nodup->fs.lookup f=some (.ref b)->al f ds=some (.list us)->Paired (FB K (upd H b (.lst xs')) Z) fs (cW f (.list us') ds)
 |_,_,.nil,_,h,_=>by cases h
 |_,_,.cons (a:=(g,v)) (b:=(g',y)) ⟨e,r⟩ t,nd,h,hl=>by
  obtain rfl:g=g':=e;unfold al at hl;unfold cW;by_cases q:g=f
  ·rw[lookup_cons]at h
   have:(f==g)=true:=by simpa using q.symm
   rw[this]at h;cases h;rw[if_pos q];have nd':(b::gm _).Nodup:=nd;exact .cons ⟨rfl,.lst aN r'⟩ (t9 t (List.nodup_cons.mp nd').1)
  ·rw[if_neg q]at hl
   have:(f==g)=false:=by simpa using fun z=>q z.symm
   rw[lookup_cons,this]at h;rw[if_neg q];obtain⟨b',xs,g1,g2,g3,g4⟩:=ua t hl;rw[show(List.lookup f _=some (V.ref b))from h]at g1;cases g1;cases r with
   |int i=>exact .cons ⟨rfl,.int i⟩ (xl r' t nd h hl)
   | @lst c ys es r1 r2=>
    have nd':(c::gm _).Nodup:=nd;refine .cons ⟨rfl,.lst (by rw[aA (fun z:c=b=>(List.nodup_cons.mp nd').1 (by rw[z];exact g4))];exact r1) r2⟩ (xl r' t (List.nodup_cons.mp nd').2 h hl)
end
theorem eE{p:Prop}[Decidable p]{α:Type}{o:Option α}{y:α}(h:(if p then o else none)=some y):p/\o=some y:=by
 by_cases q:p
 ·rw[if_pos q]at h;exact⟨q,h⟩
 ·rw[if_neg q]at h;cases h
def Pj(K:Fg)(n:Str)(i:Nat)(f:Sf):TS:=fun D σ H=>∃A x ds Z δ r,HoldW K n i A x ds Z δ σ H/\f δ = some r/\∀ σ' H' Z' ds',HoldW K n i A x ds' Z' r.2 σ' H'->Kept A Z H Z' H'->r.1.to K Z' D σ' H'
def DK(X:Cx)(n:Str)(i:Nat)(st:Stmt)(f:Sf):Prop:=PS X st (Pj X.K n i f)
def K7(X:Cx)(n:Str)(i:Nat)(sts:List Stmt)(f:Sf):Prop:=PSs X sts (Pj X.K n i f)
def G3(K:Fg)(n:Str)(g:List (Str×D)->List D->Option (List (Str×D))):Sp:=fun vs H Q _=>∃Z A x ws ds as ds',vs=.ref x::ws/\Same Z H/\OW K n A x ds Z H/\Reps K Z ws as/\g ds as=some ds' /\
 ∀Z' H',Kept A Z H Z' H'->OW K n A x ds' Z' H'->Q .non H'
structure CalW (P:Program) (w:World) (K:PySem.W.Frag) (mg:Str->Option Value) (base:Heap) (n m:Str) (k:Nat) (g:List (Str×D)->List D->Option (List (Str×D))):Prop where
 ex:∃(C fa:Addr) (fd:FuncData) (ps:List Str),PySem.W.nsIn K mainGlobals n=some (some (.ref C))/\Cls K C/\Meth K C m fa/\FnOk P w K mg base dY k fa fd ps (G3 K n g)/\Binds K fd ps []
section
variable{K:Fg}{n:Str}{i:Nat}{A:List Addr}{x:Addr}{ds:List (Str×D)}{Z H:Hp}{δ:Dv}{σ:St}
theorem HoldW.list(h:HoldW K n i A x ds Z δ σ H){f:Str}{us us':List D}(hl:al f ds=some (.list us)):∃C dx fs b xs,PySem.W.nsIn K mainGlobals n=some (some (.ref C))/\H x=some (.ins C dx fs)/\fs.lookup f=some (.ref b)/\H b=some (.lst xs)/\Paired (FI K Z) xs us:=by
 obtain⟨C,dx,fs,h1,h2,rfl,h4⟩:=h.ob.ex;obtain⟨b,xs,g1,g2,g3,g4⟩:=ua h4 hl;exact⟨C,dx,fs,b,xs,h1,h2,g1,g2,g3⟩
theorem HoldW.put(h:HoldW K n i A x ds Z δ σ H){C dx b:Addr}{fs:List (Str×V)}{f:Str}{us us':List D}{xs':List V}(hx:H x=some (.ins C dx fs))(hb:fs.lookup f=some (.ref b))(hl:al f ds=some (.list us))(r:Paired (FI K Z) xs' us'):
  HoldW K n i A x (cW f (.list us') ds) Z (δ.set i (.fz (insD n (cW f (.list us') ds)))) σ (upd H b (.lst xs'))/\b∈A/\Z b=none:=by
 obtain⟨C',dx',fs',h1,h2,e,h4⟩:=h.ob.ex;rw[hx]at h2;cases h2;obtain⟨b',xs,g1,g2,g3,g4⟩:=ua h4 hl;rw[hb]at g1;cases g1;have nd:=h.ob.nd;rw[e]at nd;have hbA:b∈A:=by rw[e];exact mem_cons_of_mem _ g4
 have hz:=h.ob.zn b hbA;have hxb:x≠b:=fun z=>(List.nodup_cons.mp nd).1 (by rw[z];exact g4)
 refine⟨h.chg (Same.refl _) (fun c o q=>by rw[aA (aW q hz)];exact h.zh c o q) ⟨⟨C,dx,fs,h1,by rw[aA hxb];exact hx,e,xl r h4 (List.nodup_cons.mp nd).2 hb hl⟩,h.ob.nd,h.ob.zn⟩,hbA,hz⟩
theorem nW:∀{xs:List V} {us:List D},Paired (FI K Z) xs us->xs.length=us.length
 |_,_,.nil=>rfl
 |_,_,.cons _ t=>congrArg (· + 1) (nW t)
theorem yr{v:V}{d:D}(r:FI K Z v d):∀{xs:List V} {us:List D} (m:Nat),Paired (FI K Z) xs us->Paired (FI K Z) (xs.set m v) (us.set m d)
 |_,_,_,.nil=>.nil
 |_,_,0,.cons _ t=>.cons r t
 |_,_,m+1,.cons q t=>.cons q (yr r m t)
theorem s9:∀{xs ys:List V} {us ws:List D},Paired (FI K Z) xs us->Paired (FI K Z) ys ws->Paired (FI K Z) (xs++ys) (us++ws)
 |_,_,_,_,.nil,q=>q
 |_,_,_,_,.cons r t,q=>.cons r (s9 t q)
theorem wM{d:D}(h:pP d=true):yD d=true:=by
 cases d with
 |int i=>rfl
 |tuple ds=>
  unfold pP at h;split at h
  ·rename_i q;cases q
  ·rename_i q;cases q;rfl
  ·cases h
 |_=>cases h
theorem tQ:∀{ds:List D},ds.all pP=true->noLs ds=true
 |[],_=>rfl
 |d::r,h=>by
  rw[List.all_cons,Bool.and_eq_true]at h;exact Bool.and_eq_true_iff.mpr ⟨wM h.1,tQ h.2⟩
end
section
variable{X:Cx}{n F m:Str}{i:Nat}{e b c:Expr}{es:List Expr}{st:Stmt}{sts body orelse:List Stmt}{s1 s2:Sf}{f fk fv:Dv->Option D}{fs:Dv->Option (List D)}{ft:Dv->Option Bool}{p p2 pos tpos apos cpos:Pos}
theorem bK(h1:DK X n i st s1):K7 X n i [st] s1:=sY h1
theorem jt(h1:DK X n i st s1)(h2:K7 X n i sts s2):K7 X n i (st::sts) (ap s1 s2):=
 PSs.imp (jh h1 h2) fun D σ H h=>by
  obtain⟨A,x,ds,Z,δ,r,hh,e,k⟩:=h;obtain⟨⟨fl,δ'⟩,e1,e⟩:=bind_some e;refine⟨A,x,ds,Z,δ,(fl,δ'),hh,e1,fun σ' H' Z' ds' hh' s'=>?_⟩
  cases fl with
  |nx=>exact⟨A,x,ds',Z',δ',r,hh',e,fun σ2 H2 Z2 ds2 hh2 s2=>by
    have:=k σ2 H2 Z2 ds2 hh2 (s'.trans s2);obtain⟨fl,δ2⟩:=r;cases fl<;>exact this⟩
  |bk=>cases e;exact k σ' H' Z' ds' hh' s'
  |ct=>cases e;exact k σ' H' Z' ds' hh' s'
  |rt d=>cases e;exact k σ' H' Z' ds' hh' s'
theorem Bl{st:Stmt}:DK X n i st Lf:=fun pins s σ H D I h=>by
 obtain⟨_,_,_,_,_,_,_,e,_⟩:=h;cases e
theorem ke(hc:TV X c ft)(ha:K7 X n i body s1)(hb:K7 X n i orelse s2):DK X n i (.If c body orelse pos) (dF ft s1 s2):=
 PS.imp (G9 hc ha hb) fun D σ H h=>by
  obtain⟨A,x,ds,Z,δ,r,hh,e,k⟩:=h;obtain⟨y,e1,e⟩:=bind_some e;refine⟨H,_,_,δ,y,hh.frz,e1,fun Z1 H1 hh1 t1=>?_⟩
  have T:=hh.thaw hh1;cases y with
  |true=>exact⟨A,x,ds,_,δ,r,T.w,e,fun σ2 H2 Z2 ds2 hh2 t2=>k σ2 H2 Z2 ds2 hh2 (T.k.trans t2)⟩
  |false=>exact⟨A,x,ds,_,δ,r,T.w,e,fun σ2 H2 Z2 ds2 hh2 t2=>k σ2 H2 Z2 ds2 hh2 (T.k.trans t2)⟩
theorem xW(j:Nat){x:Str}{pos':Pos}(hN:X.N.Nodup)(he:EV X e f)(hij:i≠j:=by decide)(hi:X.N[j]? = some x:=by rfl)(hx:zv X.env.scope x:=by first|exact Or.inl rfl|exact Or.inr rfl)(hs:swapsWith e (some (.Name x pos')) pos.line X.env=pure false:=by rfl)
  (hf:X.fn x=true\/X.env.scope.names.lookup x=some .local:=by first|exact .inl rfl|exact .inr rfl|assumption):DK X n i (.Assign [.Name x pos'] e pos) (uX j f):=
 PS.imp (ma hN hi hx he hs hf) fun D σ H h=>by
  obtain⟨A,x,ds,Z,δ,r,hh,e,k⟩:=h;obtain⟨y,e1,e⟩:=bind_some e;split at e
  ·rename_i hno
   cases e;refine⟨H,_,_,δ,y,hh.frz,e1,fun v Z1 H1 hh1 t1 r1=>?_⟩
   have T:=hh.thaw hh1;exact k _ H1 _ ds (T.w.set hij (Rep.tups T.t r1 hno)) T.k
  ·cases e
theorem nN{x:Str}(cl:ClN X.K n)(na:NaN X.K n F)(hb:EV X b fk)(he:EV X e fv)(hN:X.N[i]? = some x:=by rfl)(hv:xJ X.env.scope x:=by first|exact Or.inl rfl|exact Or.inr (Or.inl rfl)|exact Or.inr (Or.inr rfl))(hd:(x==("__debug__":Str))=false:=by decide)(hcd:(x==("__classdict__":Str))=false:=by decide)
  (hab:attributeBase (.Name x p) F X.env (eval (.Name x p) X.env)=eval (.Name x p) X.env:=by rfl)
  (hs:swapsWithSole [.Subscript (.Attribute (.Name x p) F apos) b tpos] e pos.line X.env=pure false:=by rfl) (hw:swappedStores [.Subscript (.Attribute (.Name x p) F apos) b tpos] e X.env=pure none:=by rfl)
  (ha:∀v,assign (.Subscript (.Attribute (.Name x p) F apos) b tpos) X.env v=(do
   let ov <-holding [v] (eval (.Attribute (.Name x p) F apos) X.env)
   let iv <-holding [v,ov] (eval b X.env)
   standAt tpos
   holding [v,ov,iv] (setItem ov iv v)
   release [v,ov,iv] []):=by intro _;rfl):DK X n i (.Assign [.Subscript (.Attribute (.Name x p) F apos) b tpos] e pos) (mM n i F fk fv):=
 PS.imp (BT he (B5 (tf (eQ hN hv hd hcd) hab) hb uS ha) hs hw) fun D σ H h=>by
  obtain⟨A,x,ds,Z,δ,r,hh,e,k⟩:=h;obtain⟨v,e1,e⟩:=bind_some e;obtain⟨y,e2,e⟩:=bind_some e;obtain⟨ds0,e3,e⟩:=bind_some e;obtain⟨l,e4,e⟩:=bind_some e;have e5:=jd e3;rw[hh.dat]at e5;injection e5 with e5
  injection e5 with e5
  injection e5 with e5
  obtain⟨_,rfl⟩:=eF e5;cases l with
  |list us=>
   obtain⟨hit,e⟩:=eE e;obtain⟨us',e6,e⟩:=bind_some e;cases e;refine⟨H,_,_,δ,v,hh.frz,e1,fun w Z1 H1 hh1 t1 r1=>?_⟩
   have T:=hh.thaw hh1;have f1:=Dh (Rep.tups T.t r1 (wM hit)) hit;obtain⟨C,dx,fs,c,xs,h1,h2,h3,h4,h5⟩:=T.w.list (us':=us') e4;refine⟨_,hh.at_,x,C,dx,fs,.ref c,rfl,h2,cl.c C h1,na.c C h1,h3,H1,_,_,δ,y,T.w.frz,e2,fun u Z2 H2 hh2 t2 r2=>?_⟩
   have T2:=T.w.thaw hh2;obtain⟨C',dx',fs',c',xs',q1,q2,q3,q4,q5⟩:=T2.w.list (us':=us') e4;rw[T2.s _ _ h2]at q2;cases q2;rw[h3]at q3;cases q3;cases r2 with
   |int j=>
    rw[fH]at e6;cases q:vC us.length j with
    |none=>rw[q]at e6;cases e6
    |some m=>
     rw[q]at e6;cases e6;obtain⟨P1,P2,P3⟩:=T2.w.put (T2.s _ _ h2) h3 e4 (yr (f1.same T2.k.z) m q5);exact⟨c,xs',j,m,rfl,rfl,q4,by rw[nW q5];exact q,k σ _ _ _ P1 ((T.k.trans T2.k).upd P2 P3 _)⟩
   |_=>cases e6
  |_=>cases e
theorem xX{x:Str}{fpos:Pos}(cl:ClN X.K n)(na:NaN X.K n F)(he:EV X e f)(hN:X.N[i]? = some x:=by rfl)(hv:xJ X.env.scope x:=by first|exact Or.inl rfl|exact Or.inr (Or.inl rfl)|exact Or.inr (Or.inr rfl))(hd:(x==("__debug__":Str))=false:=by decide)(hcd:(x==("__classdict__":Str))=false:=by decide)
  (hab:attributeBase (.Name x p) F X.env (eval (.Name x p) X.env)=eval (.Name x p) X.env:=by rfl)
  (hbase:attributeBase (.Attribute (.Name x p) F fpos) "append" X.env (eval (.Attribute (.Name x p) F fpos) X.env)=eval (.Attribute (.Name x p) F fpos) X.env:=by rfl)
  (hfew:((backTo cpos (starEach [e] X.env)).all (fun x=>!x.1)&&(backToKw cpos (keywordEach [] X.env)).all (fun x=>x.1.isSome)
   && decide ([e].length+([]:List Keyword).length+(if([]:List Keyword).isEmpty then 0 else 1)<30))=true:=by rfl)
  (hline:(apos.endLine==cpos.line)=true:=by rfl) (hs:starEach [e] X.env=(false,eval e X.env)::starEach [] X.env:=by rfl) (hplain:(backTo cpos (starEach [] X.env)).any (·.1)=false:=by rfl)
  (hsw:swapsWith (.Call (.Attribute (.Attribute (.Name x p) F fpos) "append" apos) [e] [] cpos) none pos.line X.env=pure false:=by rfl):DK X n i (.Expr (.Call (.Attribute (.Attribute (.Name x p) F fpos) "append" apos) [e] [] cpos) pos) (uW n i F f):=
 PS.imp (nU (B9 PySem.F.plainAttrs_list PySem.F.slot_list_append PySem.F.type_list_append rZ (tf (eQ hN hv hd hcd) hab) (gQ he ki hs) hbase hfew hline hs hplain) hsw) fun D σ H h=>by
  obtain⟨A,x,ds,Z,δ,r,hh,e,k⟩:=h;obtain⟨v,e1,e⟩:=bind_some e;obtain⟨ds0,e3,e⟩:=bind_some e;obtain⟨l,e4,e⟩:=bind_some e;have e5:=jd e3;rw[hh.dat]at e5;injection e5 with e5
  injection e5 with e5
  injection e5 with e5
  obtain⟨_,rfl⟩:=eF e5;cases l with
  |list us=>
   obtain⟨⟨hit,hl⟩,e⟩:=eE e;cases e;obtain⟨C,dx,fs,c,xs,h1,h2,h3,h4,h5⟩:=hh.list (us':=us) e4;refine⟨_,hh.at_,x,C,dx,fs,.ref c,rfl,h2,cl.c C h1,na.c C h1,h3,.inl ⟨rfl,xs,SqL.of h4⟩,H,_,_,δ,v,hh.frz,e1,fun w Z1 H1 hh1 t1 r1=>?_⟩
   have T:=hh.thaw hh1;have f1:=Dh (Rep.tups T.t r1 (wM hit)) hit;obtain⟨C',dx',fs',c',xs',q1,q2,q3,q4,q5⟩:=T.w.list (us':=us) e4;rw[T.s _ _ h2]at q2;cases q2;rw[h3]at q3;cases q3;obtain⟨P1,P2,P3⟩:=T.w.put (T.s _ _ h2) h3 e4 (s9 q5 (.cons f1 .nil));exact⟨c,xs',w,rfl,rfl,q4,by rw[nW q5];exact hl,k σ _ _ _ P1 (T.k.upd P2 P3 _)⟩
  |_=>cases e
theorem Er{x:Str}{fpos:Pos}(cl:ClN X.K n)(na:NaN X.K n F)(he:EV X e f)(hN:X.N[i]? = some x:=by rfl)(hv:xJ X.env.scope x:=by first|exact Or.inl rfl|exact Or.inr (Or.inl rfl)|exact Or.inr (Or.inr rfl))(hd:(x==("__debug__":Str))=false:=by decide)(hcd:(x==("__classdict__":Str))=false:=by decide)
  (hab:attributeBase (.Name x p) F X.env (eval (.Name x p) X.env)=eval (.Name x p) X.env:=by rfl)
  (hbase:attributeBase (.Attribute (.Name x p) F fpos) "extend" X.env (eval (.Attribute (.Name x p) F fpos) X.env)=eval (.Attribute (.Name x p) F fpos) X.env:=by rfl)
  (hfew:((backTo cpos (starEach [e] X.env)).all (fun x=>!x.1)&&(backToKw cpos (keywordEach [] X.env)).all (fun x=>x.1.isSome)
   && decide ([e].length+([]:List Keyword).length+(if([]:List Keyword).isEmpty then 0 else 1)<30))=true:=by rfl)
  (hline:(apos.endLine==cpos.line)=true:=by rfl) (hs:starEach [e] X.env=(false,eval e X.env)::starEach [] X.env:=by rfl) (hplain:(backTo cpos (starEach [] X.env)).any (·.1)=false:=by rfl)
  (hsw:swapsWith (.Call (.Attribute (.Attribute (.Name x p) F fpos) "extend" apos) [e] [] cpos) none pos.line X.env=pure false:=by rfl):DK X n i (.Expr (.Call (.Attribute (.Attribute (.Name x p) F fpos) "extend" apos) [e] [] cpos) pos) (BD n i F f):=
 PS.imp (nU (B9 PySem.F.plainAttrs_list PySem.F.slot_list_extend PySem.F.type_list_extend FJ (tf (eQ hN hv hd hcd) hab) (gQ he ki hs) hbase hfew hline hs hplain) hsw) fun D σ H h=>by
  obtain⟨A,x,ds,Z,δ,r,hh,e,k⟩:=h;obtain⟨v,e1,e⟩:=bind_some e;obtain⟨ds0,e3,e⟩:=bind_some e;obtain⟨l,e4,e⟩:=bind_some e;have e5:=jd e3;rw[hh.dat]at e5;injection e5 with e5
  injection e5 with e5
  injection e5 with e5
  obtain⟨_,rfl⟩:=eF e5;cases l with
  |list us=>
   cases v with
   |list ws=>
    obtain⟨⟨hit,hl⟩,e⟩:=eE e;cases e;obtain⟨C,dx,fs,c,xs,h1,h2,h3,h4,h5⟩:=hh.list (us':=us) e4;refine⟨_,hh.at_,x,C,dx,fs,.ref c,rfl,h2,cl.c C h1,na.c C h1,h3,.inl ⟨rfl,xs,SqL.of h4⟩,H,_,_,δ,_,hh.frz,e1,fun w Z1 H1 hh1 t1 r1=>?_⟩
    have T:=hh.thaw hh1;obtain⟨C',dx',fs',c',xs',q1,q2,q3,q4,q5⟩:=T.w.list (us':=us) e4;rw[T.s _ _ h2]at q2;cases q2;rw[h3]at q3;cases q3;cases r1 with
    |lst s1 s2=>
     have f1:=xj (Reps.tups T.t s2 (tQ hit)) hit;obtain⟨P1,P2,P3⟩:=T.w.put (T.s _ _ h2) h3 e4 (s9 q5 f1);exact⟨c,_,xs',_,rfl,rfl,q4,SqL.same s1 hh1.zh,by rw[nW q5,s2.length];exact hl,k σ _ _ _ P1 (T.k.upd P2 P3 _)⟩
   |_=>cases e
  |_=>cases e
theorem gb{x:Str}{k:Nat}{g:List (Str×D)->List D->Option (List (Str×D))}{pl:Sem Bool}(C:CalW X.prog X.w X.K X.mg X.base n m k g)(hr:Room k X.A)(ha:AV X (e::es) fs)(hN:X.N[i]? = some x:=by rfl)(hv:xJ X.env.scope x:=by first|exact Or.inl rfl|exact Or.inr (Or.inl rfl)|exact Or.inr (Or.inr rfl))(hd:(x==("__debug__":Str))=false:=by decide)(hcd:(x==("__classdict__":Str))=false:=by decide)
  (hst:starEach (e::es) X.env=(false,eval e X.env)::starEach es X.env:=by rfl) (hpl:(backTo cpos (starEach es X.env)).any (·.1)=false:=by rfl)
  (ht:eval (.Call (.Attribute (.Name x p) m apos) (e::es) [] cpos) X.env=(do
   let ov <-eval (.Name x p) X.env
   standAt apos.atName
   let (f,first) <-holding [ov] (getMethod ov m pl)
   callWith cpos f first (backTo cpos (starEach (e::es) X.env)) (backToKw cpos (keywordEach [] X.env))):=by rfl)
  (hs:swapsWith (.Call (.Attribute (.Name x p) m apos) (e::es) [] cpos) none pos.line X.env=pure false:=by rfl):DK X n i (.Expr (.Call (.Attribute (.Name x p) m apos) (e::es) [] cpos) pos) (dO n i m fs g):=by
 obtain⟨C0,fa,fd,ps,hC,hcl,hm,F,hb⟩:=C.ex;refine PS.imp (nU (E4 (eQ hN hv hd hcd) hcl hm F hr hb .nil Ca ha hst hpl ht) hs) fun D σ H h=>?_
 obtain⟨A,x,ds,Z,δ,r,hh,e,kk⟩:=h;obtain⟨ds0,e3,e⟩:=bind_some e;obtain⟨as,e1,e⟩:=bind_some e;obtain⟨⟨e2,hno⟩,e⟩:=eE e;obtain⟨ds',e4,e⟩:=bind_some e;cases e;have e5:=jd e3;rw[hh.dat]at e5;injection e5 with e5
 injection e5 with e5
 injection e5 with e5
 obtain⟨_,rfl⟩:=eF e5;obtain⟨C,dx,gs,h1,h2,h3,h4⟩:=hh.ob.ex;rw[hC]at h1;cases h1;refine⟨_,hh.at_,x,dx,gs,rfl,h2,yX h4 e2,H,_,_,δ,as,hh.frz,e1,fun vs Z1 H1 hh1 t1 r1=>?_⟩
 have T:=hh.thaw hh1;refine⟨_,A,x,vs,ds,as,ds',by simp,T.w.zh,T.w.ob,Reps.tups T.t r1 hno,e4,fun Z' H' K' O'=>?_⟩
 exact kk σ H' Z' ds' (T.w.chg K'.z K'.zh O') (T.k.trans K')
end
noncomputable def BE(i j:Nat)(fs:Dv->Option (List D))(b:Sf):Sf:=fun δ=>(fs (δ.set i .un)).bind fun ds=>loop (gN j) b ds δ
noncomputable def uZ(n F:Str)(f:Dv->Option D):Sf:=fun δ=>(f δ).bind fun v=>(oJ n δ[0]?).bind fun ds=>match v with
 |.int j=>if al F ds=none/\ds.length<1000 then some (.nx,δ.set 0 (.fz (insD n (cW F (.int j) ds))))else none
 |_=>none
noncomputable def rN(n F:Str)(f:Dv->Option (List D)):Sf:=fun δ=>(f δ).bind fun us=>(oJ n δ[0]?).bind fun ds=>if al F ds=none/\ds.length<1000/\us.all pP=true then some (.nx,δ.set 0 (.fz (insD n (cW F (.list us) ds))))else none
noncomputable def Ih(n:Str)(N:List Str)(l:Nat)(b:Sf):List D->Option (List (Str×D)):=fun as=>if as.length+1=l then(b (av N (insD n []::as))).bind fun r=>match r with
  | (.nx,δ)=>oJ n δ[0]?
  |_=>none
 else none
def wA:Sl->Bool
 |.un=>true
 |.fz _=>true
 |_=>false
noncomputable def Ie(n:Str)(i:Nat)(fs:Dv->Option (List D))(g:List D->Option (List (Str×D)))(s1 s2:Sf):Sf:=fun δ=>if δ.all wA=true/\i < δ.length then(fs δ).bind fun as=>(g as).bind fun ds=>(s1 (δ.set i (.fz (insD n ds)))).bind fun r=>match r with
  | (.nx,δ')=>s2 δ'
  |_=>none
 else none
section
variable{K:Fg}{n:Str}{i:Nat}{A:List Addr}{x:Addr}{ds:List (Str×D)}{Z H:Hp}{δ:Dv}{σ:St}
theorem mR{N:List Str}{ws:List V}{as:List D}(zh:Same Z H)(ob:OW K n A x ds Z H)(r:Reps K Z ws as):HoldW K n 0 A x ds Z (av N (insD n ds::as)) (start N (.ref x::ws)) H:=by
 have h1:=pT (K:=K) (N:=N) (H:=H) zh (.cons (.non:Rep K Z .non .none) r);have e1:(av N (insD n ds::as))=(av N (.none::as)).set 0 (.fz (insD n ds)):=by simp[av]
 have e2:(start N (.ref x::ws))=(start N (.non::ws)).set 0 (some (.ref x)):=by simp[L2.start]
 refine⟨zh,by rw[e1,e2];simp[h1.len],by simp[L2.start],by simp[av],ob,fun j d hj e=>?_,fun j c=>lT j c,fun j c=>uP j c⟩
 rw[e1,getElem?_set_ne (Ne.symm hj)]at e;rw[e2,getElem?_set_ne (Ne.symm hj)];exact h1.fz j d e
theorem HoldW.plain(h:HoldW K n i A x ds Z δ σ H):Hold K H Z Z (δ.set i .un) σ H:=by
 have f:∀{j:Nat} {s:Sl},s≠.un->(δ.set i .un)[j]? = some s->j≠i /\ δ[j]? = some s:=fun{j s} hs e=>by
  by_cases q:i=j
  ·subst q
   rw[getElem?_set_self (List.getElem?_eq_some_iff.mp h.dat).1]at e;exact absurd (Option.some.inj e).symm hs
  ·rw[getElem?_set_ne q]at e;exact⟨Ne.symm q,e⟩
 refine⟨h.zh,Same.refl _,Same.refl _,fun _ _=>rfl,by simp[h.len],fun j d e=>?_,fun j c e=>?_,fun j k c c' a _ e=>?_,fun j l e=>?_,NoF.refl _⟩
 ·obtain⟨q1,q2⟩:=f (by intro z;cases z) e
  exact h.fz j d q1 q2
 ·exact absurd (f (by intro z;cases z) e).2 (h.now j c)
 ·exact absurd (f (by intro z;cases z) e).2 (h.now j c)
 ·exact absurd (f (by intro z;cases z) e).2 (h.nfr j l)
theorem HoldW.unplain(h:HoldW K n i A x ds Z δ σ H){Z1 H1:Hp}(g:Hold K H Z Z1 (δ.set i .un) σ H1):HoldW K n i A x ds Z1 δ σ H1/\Kept A Z H Z1 H1:=by
 refine⟨⟨g.zh,h.len,h.at_,h.dat,h.ob.same g.z0 g.h0 fun b hb=>by rw[g.zb b (h.ob.some hb)];exact h.ob.zn b hb,fun j d q e=>?_,h.now,h.nfr⟩,⟨g.z0,fun b o _ e=>g.h0 b o e,g.zh,g.zb,fun b hb=>?_,g.nf⟩⟩
 ·obtain⟨v,h1,h2⟩:=h.fz j d q e
  exact⟨v,h1,h2.same g.z0⟩
 ·cases e:H b with
  |none=>exact absurd e hb
  |some o=>rw[g.h0 b o e];intro z;cases z
theorem oU{F:Str}{v:V}{d:D}(r:FO K H Z v d):∀{fs:List (Str×V)} {ds:List (Str×D)},Paired (FB K H Z) fs ds->al F ds=none->Paired (FB K H Z) (fG F v fs) (cW F d ds)/\gm (fG F v fs)=gm fs++gm [(F,v)]
 |_,_,.nil,_=>⟨.cons ⟨rfl,r⟩ .nil,rfl⟩
 |_,_,.cons (a:=(g,w)) (b:=(g',y)) ⟨e,q⟩ t,h=>by
  obtain rfl:g=g':=e;unfold al at h;unfold cW fG;by_cases hg:g=F
  ·rw[if_pos hg]at h;cases h
  ·rw[if_neg hg]at h
   rw[if_neg hg,if_neg hg];obtain⟨h1,h2⟩:=oU r t h;refine⟨.cons ⟨rfl,q⟩ h1,?_⟩;cases q with
   |int _=>exact h2
   |lst _ _=>exact congrArg (_ :: ·) h2
theorem Kept.less{Z' H':Hp}{A B:List Addr}(k:Kept A Z H Z' H')(s:Same H H'):Kept B Z H Z' H':=⟨k.z,fun b o _ e=>s b o e,k.zh,k.o,k.t,k.nf⟩
end
section
variable{P:Program}{w:World}{K:PySem.W.Frag}{mg:Str->Option Value}{base:Heap}
theorem Df{n x qual:Str}{st:Stmt}{f:Addr}{fd:FuncData}{dV:Value}{N ps:List Str}{k:Nat}{b:Sf}(F:FunV K x qual st f fd dV)(S:FnScope N ps (aj st))
  (hb:∀(cdv:Value) (A:Around) (outer:List Env) (s:Shared) (H:Hp) (E:XK),Room k (A.deeper (envOfC qual (aj st) s.heap.objs.size f cdv))->K7 (ue dY P w K mg base N qual (aj st) f cdv A outer s H E).nox n 0 (b7 st) b) :
  FnOk P w K mg base dY (k+1) f fd ps (G3 K n (jX n N ps.length b)):=by
 obtain⟨oc,od,kV,doc,pm,an,cdv,ct,osl,rfl,lk,hcd⟩:=F.ex;refine Dg lk hcd S (fun vs H Q E h=>?_) fun A outer s H vs Q E hr hsp=>?_
 ·obtain⟨Z,A,a,ws,ds,as,ds',rfl,zh,ob,r,e,_⟩:=h
  have h1:=(eE e).1;have:=r.length;simp only[length_cons];omega
 ·obtain⟨Z,A1,a,ws,ds,as,ds',rfl,zh,ob,r,e,kk⟩:=hsp
  refine⟨_,PSs.nox (hb cdv A outer s H E hr),?_⟩;obtain⟨_,e⟩:=eE e;obtain⟨⟨fl,δ'⟩,e2,e⟩:=bind_some e;cases fl with
  |nx=>
   refine⟨A1,a,ds,Z,_,_,mR zh ob r,e2,fun σ' H' Z' ds2 h' k'=>?_⟩
   have e3:=jd e;rw[show δ'[0]? = some (.fz (insD n ds2))from h'.dat]at e3;injection e3 with e3
   injection e3 with e3
   injection e3 with e3
   obtain⟨_,rfl⟩:=eF e3;exact kk Z' H' k' h'.ob
  |rt d=>cases e
  |bk=>cases e
  |ct=>cases e
def Pk(K:Fg)(n:Str)(f:Sf):TS:=fun D σ H=>∃A x ds Z δ r,HoldW K n 0 A x ds Z δ σ H/\f δ = some r/\∀ σ' H' Z' A' ds',HoldW K n 0 A' x ds' Z' r.2 σ' H'->Kept [x] Z H Z' H'->(∀b∈A',b∈A\/H b=none)->r.1.to K Z' D σ' H'
def NH(X:Cx)(n:Str)(st:Stmt)(f:Sf):Prop:=PS X st (Pk X.K n f)
def NI(X:Cx)(n:Str)(sts:List Stmt)(f:Sf):Prop:=PSs X sts (Pk X.K n f)
def Nn(K:Fg)(n:Str)(g:List D->Option (List (Str×D))):Sp:=fun vs H Q _=>∃Z C dx x ws as ds',vs=.ref x::ws/\Same Z H/\PySem.W.nsIn K mainGlobals n=some (some (.ref C))/\H x=some (.ins C dx [])/\Z x=none/\Reps K Z ws as/\g as=some ds' /\
 ∀Z' H' A',Kept [x] Z H Z' H'->OW K n A' x ds' Z' H'->(∀b∈A',b=x\/H b=none)->Q .non H'
structure CalI (P:Program) (w:World) (K:PySem.W.Frag) (mg:Str->Option Value) (base:Heap) (n:Str) (k:Nat) (g:List D->Option (List (Str×D))):Prop where
 ex:∃(C fa:Addr) (fd:FuncData) (ps:List Str),PySem.W.nsIn K mainGlobals n=some (some (.ref C))/\Mk K C fa/\mg n=some (.ref C)/\FnOk P w K mg base dY k fa fd ps (Nn K n g)/\Binds K fd ps []
theorem OM{n x qual:Str}{st:Stmt}{f:Addr}{fd:FuncData}{dV:Value}{N ps:List Str}{k:Nat}{b:Sf}(F:FunV K x qual st f fd dV)(S:FnScope N ps (aj st))
  (hb:∀(cdv:Value) (A:Around) (outer:List Env) (s:Shared) (H:Hp) (E:XK),Room k (A.deeper (envOfC qual (aj st) s.heap.objs.size f cdv))->NI (ue dY P w K mg base N qual (aj st) f cdv A outer s H E).nox n (b7 st) b) :
  FnOk P w K mg base dY (k+1) f fd ps (Nn K n (Ih n N ps.length b)):=by
 obtain⟨oc,od,kV,doc,pm,an,cdv,ct,osl,rfl,lk,hcd⟩:=F.ex;refine Dg lk hcd S (fun vs H Q E h=>?_) fun A outer s H vs Q E hr hsp=>?_
 ·obtain⟨Z,C,dx,a,ws,as,ds',rfl,zh,hC,hx,zx,r,e,_⟩:=h
  have h1:=(eE e).1;have:=r.length;simp only[length_cons];omega
 ·obtain⟨Z,C,dx,a,ws,as,ds',rfl,zh,hC,hx,zx,r,e,kk⟩:=hsp
  refine⟨_,PSs.nox (hb cdv A outer s H E hr),?_⟩;obtain⟨_,e⟩:=eE e;obtain⟨⟨fl,δ'⟩,e2,e⟩:=bind_some e;cases fl with
  |nx=>
   have ob:OW K n [a] a [] Z H:=⟨⟨C,dx,[],hC,hx,rfl,.nil⟩,by simp,fun b hb=>by rw[List.mem_singleton.mp hb];exact zx⟩
   refine⟨[a],a,[],Z,_,_,mR zh ob r,e2,fun σ' H' Z' A' ds2 h' k' hA=>?_⟩
   have e3:=jd e;rw[show δ'[0]? = some (.fz (insD n ds2))from h'.dat]at e3;injection e3 with e3
   injection e3 with e3
   injection e3 with e3
   obtain⟨_,rfl⟩:=eF e3;exact kk Z' H' A' k' h'.ob fun b hb=>(hA b hb).imp List.mem_singleton.mp id
  |rt d=>cases e
  |bk=>cases e
  |ct=>cases e
end
section
variable{X:Cx}{n F m:Str}{i:Nat}{e b c:Expr}{es:List Expr}{st:Stmt}{sts body orelse:List Stmt}{s1 s2:Sf}{f fk fv:Dv->Option D}{fs:Dv->Option (List D)}{ft:Dv->Option Bool}{p p2 pos tpos apos cpos:Pos}
theorem GH(h1:NH X n st s1):NI X n [st] s1:=sY h1
theorem iA(h1:NH X n st s1)(h2:NI X n sts s2):NI X n (st::sts) (ap s1 s2):=
 PSs.imp (jh h1 h2) fun D σ H h=>by
  obtain⟨A,x,ds,Z,δ,r,hh,e,k⟩:=h;obtain⟨⟨fl,δ'⟩,e1,e⟩:=bind_some e;refine⟨A,x,ds,Z,δ,(fl,δ'),hh,e1,fun σ' H' Z' A' ds' hh' s' a'=>?_⟩
  cases fl with
  |nx=>exact⟨A',x,ds',Z',δ',r,hh',e,fun σ2 H2 Z2 A2 ds2 hh2 s2 a2=>by
    have:=k σ2 H2 Z2 A2 ds2 hh2 (s'.trans s2) fun b hb=>by
     rcases a2 b hb with q|q
     ·exact a' b q
     ·right
      cases z:H b with
      |none=>rfl
      |some o=>exact absurd q (s'.t b (by rw[z];intro y;cases y))
    obtain⟨fl,δ2⟩:=r;cases fl<;>exact this⟩
  |bk=>cases e;exact k σ' H' Z' A' ds' hh' s' a'
  |ct=>cases e;exact k σ' H' Z' A' ds' hh' s' a'
  |rt d=>cases e;exact k σ' H' Z' A' ds' hh' s' a'
theorem sO{x:Str}(cl:ClN X.K n)(na:NaN X.K n F)(he:EV X e f)(hN:X.N[0]? = some x:=by rfl)(hv:xJ X.env.scope x:=by first|exact Or.inl rfl|exact Or.inr (Or.inl rfl)|exact Or.inr (Or.inr rfl))(hd:(x==("__debug__":Str))=false:=by decide)(hcd:(x==("__classdict__":Str))=false:=by decide)
  (hs:swapsWith e (some (.Attribute (.Name x p) F tpos)) pos.line X.env=pure false:=by rfl):NH X n (.Assign [.Attribute (.Name x p) F tpos] e pos) (uZ n F f):=
 PS.imp (BS (eQ hN hv hd hcd) he hs) fun D σ H h=>by
  obtain⟨A,x,ds,Z,δ,r,hh,e,k⟩:=h;obtain⟨y,e1,e⟩:=bind_some e;obtain⟨ds0,e2,e⟩:=bind_some e;have e4:=jd e2;rw[hh.dat]at e4;injection e4 with e4
  injection e4 with e4
  injection e4 with e4
  obtain⟨_,rfl⟩:=eF e4;cases y with
  |int j=>
   obtain⟨⟨e3,hlen⟩,e⟩:=eE e;cases e;refine⟨H,_,_,δ,_,hh.frz,e1,fun v Z1 H1 hh1 t1 r1=>?_⟩
   cases r1;have T:=hh.thaw hh1;refine⟨_,hh.at_,?_⟩;obtain⟨C,dx,fs,h1,h2,h3,h4⟩:=T.w.ob.ex;obtain⟨g1,g2⟩:=oU (FO.int j) h4 e3;have g2:gm (fG F (.int j) fs)=gm fs:=by rw[g2];exact List.append_nil _
   have nd:=T.w.ob.nd;rw[h3]at nd;have hxn:x ∉ gm (fG F (.int j) fs):=by rw[g2];exact(List.nodup_cons.mp nd).1
   refine⟨x,C,dx,fs,rfl,h2,cl.c C h1,na.c C h1,by rw[xm h4];exact hlen,k σ _ _ A _ (T.w.chg (Same.refl _) (fun c o q=>?_) ⟨⟨C,dx,_,h1,aN,by rw[g2];exact h3,t9 g1 hxn⟩,T.w.ob.nd,T.w.ob.zn⟩) ((T.k.less T.s).upd (List.mem_singleton.mpr rfl) (T.w.ob.zn _ T.w.ob.x_in) _) fun b hb=>.inl hb⟩
   rw[aA (aW q (T.w.ob.zn _ T.w.ob.x_in))];exact T.w.zh c o q
  |_=>cases e
theorem nO{x:Str}{f:Dv->Option (List D)}(cl:ClN X.K n)(na:NaN X.K n F)(he:EO X e f)(hN:X.N[0]? = some x:=by rfl)(hv:xJ X.env.scope x:=by first|exact Or.inl rfl|exact Or.inr (Or.inl rfl)|exact Or.inr (Or.inr rfl))(hd:(x==("__debug__":Str))=false:=by decide)(hcd:(x==("__classdict__":Str))=false:=by decide)
  (hs:swapsWith e (some (.Attribute (.Name x p) F tpos)) pos.line X.env=pure false:=by rfl):NH X n (.Assign [.Attribute (.Name x p) F tpos] e pos) (rN n F f):=
 PS.imp (BS (eQ hN hv hd hcd) he hs) fun D σ H h=>by
  obtain⟨A,x,ds,Z,δ,r,hh,e,k⟩:=h;obtain⟨us,e1,e⟩:=bind_some e;obtain⟨ds0,e2,e⟩:=bind_some e;have e4:=jd e2;rw[hh.dat]at e4;injection e4 with e4
  injection e4 with e4
  injection e4 with e4
  obtain⟨_,rfl⟩:=eF e4;obtain⟨⟨e3,hlen,hit⟩,e⟩:=eE e;cases e;refine⟨H,_,_,δ,_,hh.frz,e1,fun q vs Z1 H1 hh1 t1 hq r1=>?_⟩
  have T:=hh.thaw hh1;have f1:=xj (Reps.tups T.t r1 (tQ hit)) hit;refine⟨_,hh.at_,?_⟩;obtain⟨C,dx,fs,h1,h2,h3,h4⟩:=T.w.ob.ex;have hqA:q ∉ A:=fun z=>T.w.ob.some z hq
  have hxq:x≠q:=fun z=>hqA (by rw[<-z];exact T.w.ob.x_in)
  have hz:ja A Z1 q=none:=by rw[kn hqA];exact lu hh1.zh hq
  have b4:Paired (FB X.K (upd H1 q (.lst vs)) (ja A Z1)) fs ds:=t9 h4 fun z=>hqA (by rw[h3];exact mem_cons_of_mem _ z)
  obtain⟨g1,g2⟩:=oU (FO.lst (H:=upd H1 q (.lst vs)) aN f1) b4 e3;have g2:gm (fG F (.ref q) fs)=gm fs++[q]:=g2;have nd:=T.w.ob.nd;rw[h3]at nd;have hxn:x ∉ gm (fG F (.ref q) fs):=by
   rw[g2];intro z;rcases List.mem_append.mp z with z|z
   ·exact(List.nodup_cons.mp nd).1 z
   ·exact hxq (List.mem_singleton.mp z)
  have nd2:(x::gm (fG F (.ref q) fs)).Nodup:=by
   refine List.nodup_cons.mpr ⟨hxn,?_⟩;rw[g2];refine List.nodup_append.mpr ⟨(List.nodup_cons.mp nd).2,by simp,fun a ha b hb z=>?_⟩
   rw[List.mem_singleton.mp hb]at z;exact hqA (by rw[h3,<-z];exact mem_cons_of_mem _ ha)
  have zx:=T.w.ob.zn _ T.w.ob.x_in;have zn2:∀b∈x::gm (fG F (.ref q) fs),ja A Z1 b=none:=fun b hb=>by
   rw[g2]at hb;rcases List.mem_cons.mp hb with z|z
   ·rw[z];exact zx
   ·rcases List.mem_append.mp z with z|z
    ·exact T.w.ob.zn b (by rw[h3];exact mem_cons_of_mem _ z)
    ·rw[List.mem_singleton.mp z];exact hz
  refine⟨x,C,dx,fs,rfl,by rw[aA hxq];exact h2,cl.c C h1,na.c C h1,by rw[xm h4];exact hlen,k σ _ (ja A Z1) (x::gm (fG F (.ref q) fs)) _ (T.w.chg (Same.refl _) (fun c o z=>?_) ⟨⟨C,dx,_,h1,aN,rfl,t9 g1 hxn⟩,nd2,zn2⟩) ?_ fun b hb=>?_⟩
  ·rw[aA (aW z zx),aA (aW z hz)]
   exact T.w.zh c o z
  ·have k1:Kept [x] Z H (ja A Z1) (upd H1 q (.lst vs)):=by
    have k0:=T.k.less (B:=[x]) T.s;refine⟨k0.z,fun b o _ z=>?_,fun b o z=>?_,k0.o,fun b hb=>?_,k0.nf⟩
    ·rw[aA (aW (T.s b o z) hq)];exact T.s b o z
    ·rw[aA (aW z hz)];exact T.w.zh b o z
    ·by_cases z:b=q
     ·rw[z,aN];intro y;cases y
     ·rw[aA z];exact k0.t b hb
   exact k1.upd (List.mem_singleton.mpr rfl) zx _
  ·rw[g2]at hb
   rcases List.mem_cons.mp hb with z|z
   ·left;rw[z];exact T.w.ob.x_in
   ·rcases List.mem_append.mp z with z|z
    ·left;rw[h3];exact mem_cons_of_mem _ z
    ·right
     rw[List.mem_singleton.mp z];cases y:H q with
     |none=>rfl
     |some o=>rw[T.s q o y]at hq;cases hq
theorem xq(h:AV X es fs):EO X (.List es pos) (yA (os fs gG)):=
 PE.imp (wD h) fun σ H Q h=>by
  obtain⟨H₀,Z₀,Z,δ,d,hh,e,k⟩:=h;obtain⟨l,e0,e⟩:=bind_some e;obtain⟨xs,e1,e2⟩:=bind_some e0;refine⟨H₀,Z₀,Z,δ,xs,hh,e1,fun vs Z1 H1 hh1 s1 r1=>?_⟩
  by_cases hl:xs.length<=sizeLine
  ·rw[gG,if_pos hl]at e2
   cases e2;cases e;exact⟨by rw[r1.length];exact hl,fun p hp=>k p vs Z1 H1 hh1 s1 hp r1⟩
  ·rw[gG,if_neg hl]at e2;cases e2
theorem Ep(j:Nat){y:Str}{iter:Expr}(hp:PassesOwn (model X.prog X.w) X.A X.env X.xe)(hc:X.calm=true)(hN:X.N.Nodup)(hi:IV X (.Name y p) iter fs)(hb:K7 X n i body s1)(hij:i≠j:=by decide)(hj:X.N[j]? = some y:=by rfl)(hx:zv X.env.scope y:=by first|exact Or.inl rfl|exact Or.inr rfl)
  (hf:X.fn y=true\/X.env.scope.names.lookup y=some .local:=by first|exact .inl rfl|exact .inr rfl|assumption)
  (hs:∀x,foldedSetIterable iter X.env x=pure x:=by intro _;rfl):DK X n i (.For (.Name y p) iter body [] pos) (BE i j fs s1):=
 PS.imp (BR hp hc hi (b9 hN hj hx hf) hb hs) fun D σ H h=>by
  obtain⟨A,x,ds,Z,δ,r,hh,e,k⟩:=h;obtain⟨us,e1,e⟩:=bind_some e;refine⟨H,Z,Z,_,us,hh.plain,e1,fun J Z1 H1 hh1 t1 ok=>?_⟩
  obtain⟨hw1,k1⟩:=hh.unplain hh1;refine⟨fun a m σ H=>m=us.length-a/\a<=us.length/\∃Zc δc dc,HoldW X.K n i A x dc Zc δc σ H/\Kept A Z1 H1 Zc H/\loop (gN j) s1 (us.drop a) δc=some r,⟨us.length,by simp,zero_le _,Z1,δ,ds,hw1,Kept.refl hw1.zh,e⟩,?_⟩
  rintro a m σ2 H2 ⟨rfl,hi2,Zc,δc,dc,hhc,kc,ec⟩;have zh:Same Z1 H2:=kc.z.trans hhc.zh;by_cases hlt:a<us.length
  ·refine .inr ⟨ok.go a H2 zh hlt,fun σ3 H3=>∃Zc δc dc,HoldW X.K n i A x dc Zc δc σ3 H3/\Kept A Z1 H1 Zc H3/\loop (gN j) s1 (us.drop (a+1)) δc=some r,fun σ3 H3 q=>⟨us.length-(a+1),by omega,rfl,hlt,q⟩,fun z H3 y=>?_⟩
   have ed:us[a]? = some us[a]:=by simp[hlt]
   obtain⟨rfl,rx⟩:=ok.yld a H2 z H3 _ zh ed y;rw[List.drop_eq_getElem_cons hlt]at ec;obtain⟨δ1,g1,ec⟩:=bind_some ec;cases g1;obtain⟨⟨fl,δ2⟩,g2,ec⟩:=bind_some ec;refine⟨A,x,dc,Zc,_,(fl,δ2),hhc.set hij (rx.same kc.z),g2,fun σ5 H5 Z5 d5 hh5 t5=>?_⟩
   cases fl with
   |nx=>exact⟨Z5,δ2,d5,hh5,kc.trans t5,ec⟩
   |ct=>exact⟨Z5,δ2,d5,hh5,kc.trans t5,ec⟩
   |bk=>cases ec;exact k σ5 H5 Z5 d5 hh5 ((k1.trans kc).trans t5)
   |rt d=>cases ec;exact k σ5 H5 Z5 d5 hh5 ((k1.trans kc).trans t5)
  ·have e2:us.drop a=[]:=List.drop_eq_nil_iff.mpr (by omega)
   rw[e2]at ec;cases ec;exact .inl ⟨ok.stop a H2 zh (by omega),k σ2 H2 Zc dc hhc (k1.trans kc)⟩
theorem KJ(i:Nat){x:Str}{k:Nat}{g:List D->Option (List (Str×D))}{q:Pos}(C:CalI X.prog X.w X.K X.mg X.base n k g)(hr:Room (k+1) X.A)(hN:X.N.Nodup)(hg:Gl X n)(ha:AV X (e::es) fs)(h2:DK X n i st s1)(h3:BV X sts s2)
  (hi:X.N[i]? = some x:=by rfl) (hx:zv X.env.scope x:=by first|exact Or.inl rfl|exact Or.inr rfl) (hs:swapsWith (.Call (.Name n q) (e::es) [] cpos) (some (.Name x p)) pos.line X.env=pure false:=by rfl)
  (hf:X.fn x=true\/X.env.scope.names.lookup x=some .local:=by first|exact .inl rfl|exact .inr rfl|assumption) (hdb:(n==("__debug__":Str))=false:=by decide) (he:starEach (e::es) X.env=(false,eval e X.env)::starEach es X.env:=by rfl) (hpl:(backTo cpos (starEach es X.env)).any (·.1)=false:=by rfl) :
  BV X (.Assign [.Name x p] (.Call (.Name n q) (e::es) [] cpos) pos::st::sts) (Ie n i fs g s1 s2):=by
 obtain⟨C0,fa,fd,ps,hC,hM,hm,F,hb⟩:=C.ex;refine PSs.imp (jh (ma hN hi hx (E5 hM F hr hg hm hb .nil Ca ha hdb he hpl) hs hf) (jh h2 h3)) fun D σ H h=>?_
 obtain⟨H₀,Z₀,Z,δ,r,hh,e,kk⟩:=h;obtain⟨⟨hpl2,hil⟩,e⟩:=eE e;obtain⟨as,e1,e⟩:=bind_some e;obtain⟨ds,e2,e⟩:=bind_some e;obtain⟨⟨fl,δ'⟩,e3,e⟩:=bind_some e;cases fl with
 |nx=>
  refine⟨H₀,Z₀,Z,δ,as,hh,e1,fun vs Z1 H1 hh1 t1 r1 a dx hxa hdx hne=>?_⟩
  have hH:Same H1 (upd (upd H1 dx (.own a)) a (.ins C0 dx [])):=(gg hdx).trans (gg (by rw[aA (Ne.symm hne)];exact hxa));refine⟨Z1,C0,dx,a,vs,as,ds,by simp,hh1.zh.trans hH,hC,aN,lu hh1.zh hxa,r1,e2,fun Z2 H2 A K2 O2 hA=>⟨rfl,?_⟩⟩
  have hpl3:∀(j:Nat) s,δ[j]? = some s->wA s=true:=fun j s q=>List.all_eq_true.mp hpl2 s (mem_of_getElem? q)
  have hil2:i < σ.length:=by rw[<-hh.len];exact hil
  have hlen:∀{j:Nat} {s:Sl},(∀d,s≠.fz d)->(δ.set i (.fz (insD n ds)))[j]? = some s -> δ[j]? = some s:=fun{j s} hs q=>by
   by_cases hj:i=j
   ·subst hj
    rw[getElem?_set_self hil]at q;exact absurd (Option.some.inj q).symm (hs _)
   ·rw[getElem?_set_ne hj]at q;exact q
  have W:HoldW X.K n i A a ds Z2 (δ.set i (.fz (insD n ds))) (σ.set i (some (.ref a))) H2:=by
   refine⟨K2.zh,by simp[hh.len],getElem?_set_self hil2,getElem?_set_self hil,O2,fun j d hj q=>?_,fun j c q=>?_,fun j c q=>?_⟩
   ·rw[getElem?_set_ne (Ne.symm hj)]at q ⊢
    obtain⟨v,g1,g2⟩:=hh1.fz j d q;exact⟨v,g1,g2.same K2.z⟩
   ·exact Bool.noConfusion (show false=true from hpl3 j _ (hlen (fun d z=>by cases z) q))
   ·exact Bool.noConfusion (show false=true from hpl3 j _ (hlen (fun d z=>by cases z) q))
  refine⟨A,a,ds,Z2,_,_,W,e3,fun σ3 H3 Z3 d3 hw3 k3=>?_⟩
  have f0:=hw3.frz;have hb0:∀{b:Addr} {o:HO},H₀ b=some o->H1 b=some o:=fun{b o} q=>hh1.h0 b o q
  have hbA:∀{b:Addr},H₀ b≠none->b ∉ A:=fun{b} q z=>by
   cases y:H₀ b with
   |none=>exact q y
   |some o=>
    rcases hA b z with w|w
    ·rw[w]at y;rw[hb0 y]at hxa;cases hxa
    ·rw[hH b o (hb0 y)]at w;cases w
  have h12:∀{b:Addr} {o:HO},H₀ b=some o->H2 b=some o:=fun{b o} q=>K2.h b o (fun z=>by rw[List.mem_singleton.mp z]at q;rw[hb0 q]at hxa;cases hxa) (hH b o (hb0 q))
  have h2n:∀{b:Addr},H₀ b≠none->H2 b≠none/\(upd (upd H1 dx (.own a)) a (.ins C0 dx [])) b≠none:=fun{b} q=>by
   cases y:H₀ b with
   |none=>exact absurd y q
   |some o=>rw[h12 y,hH b o (hb0 y)];exact⟨(fun z=>by cases z),(fun z=>by cases z)⟩
  have fin:Hold X.K H₀ Z₀ (Zp A H3 Z3) δ' σ3 H3:=by
   refine⟨f0.zh,fun b o q=>k3.h b o (hbA (by rw[q];intro z;cases z)) (h12 q),((hh1.z0.trans K2.z).trans k3.z).trans (nG hw3.ob.zn),fun b q=>?_,f0.len,f0.fz,fun j c q=>absurd q (hw3.now j c),fun j k c c' a _ q=>absurd q (hw3.now j c),fun j l q=>absurd q (hw3.nfr j l),fun b o xs q=>?_⟩
   ·obtain⟨n1,n2⟩:=h2n q
    rw[j9 (hbA q),k3.o b n1,K2.o b n2,hh1.zb b q]
   ·by_cases hb:b∈A
    ·rw[uu hb]at q
     rcases hw3.ob.at_ hb with⟨_,_,_,y⟩|⟨_,y⟩<;>(rw[y]at q;cases q)
    ·rw[j9 hb]at q
     exact hh1.nf b o xs (K2.nf b o xs (k3.nf b o xs q))
  exact⟨H₀,Z₀,_,δ',r,fin,e,fun σ4 H4 Z4 hh4 t4=>kk σ4 H4 Z4 hh4 ((((t1.trans K2.z).trans k3.z).trans (nG hw3.ob.zn)).trans t4)⟩
 |rt d=>cases e
 |bk=>cases e
 |ct=>cases e
end
noncomputable def iu(s:Stmt)(j:Nat):Stmt:=match s with
 |.ClassDef _ _ _ body _ _ _ _ _ _ _=>body.getD j (.Pass ⟨0,0,0,0⟩)
 |_=>.Pass ⟨0,0,0,0⟩
def MethIn(K:PySem.W.Frag)(C:Addr)(m q:Str)(st:Stmt):Prop:=∃f fd,Meth K C m f/\FunV K m q st f fd .none
def jF(x q:Str)(st:Stmt)(ps:List Str):Prop:=∀(kV doc pm:Value) (an:Option Addr) (cdv ct:Value) (us:List Value),us.length=ps.length->bindArgs (PySem.W.fnOf x q (cR st) (b7 st) (aj st) .none kV doc pm an cdv ct) ⟨us,[]⟩=pure (ps.zip us)
section
variable{P:Program}{w:World}{K:PySem.W.Frag}{mg:Str->Option Value}{base h:Heap}{C:Addr}{n m q:Str}{st:Stmt}{k:Nat}{ps:List Str}
theorem MethIn.mk{f:Addr}{oc:Value}{od an:Option Addr}{osl:Array (Option Value)}{kV doc pm cdv ct:Value}(a:PySem.W.findIn K (.ref C) m=some (some (.ref f)))(i:PySem.W.isFn K (.ref f)=true)(l:K.lookup f=some ⟨oc,od,.func (PySem.W.fnOf m q (cR st) (b7 st) (aj st) .none kV doc pm an cdv ct),osl⟩)
  (c:PySem.W.codeIn K cdv q=true) (k:keepIn K (.ref f)=true):MethIn K C m q st:=⟨_,_,⟨a,i,k⟩,og l c k⟩
theorem ClN.of(a:PySem.W.nsIn K mainGlobals n=some (some (.ref C)))(c:Cls K C):ClN K n:=⟨fun C' h=>by rw[a]at h;cases h;exact c⟩
theorem NaN.of{f:Str}(a:PySem.W.nsIn K mainGlobals n=some (some (.ref C)))(c:NoAttr K C f):NaN K n f:=⟨fun C' h=>by rw[a]at h;cases h;exact c⟩
theorem MethIn.calW(D:MethIn K C m q st)(a:PySem.W.nsIn K mainGlobals n=some (some (.ref C)))(c:Cls K C)(b:jF m q st ps){g:List (Str×VL.D)->List VL.D->Option (List (Str×VL.D))}(ok:∀f fd,FunV K m q st f fd .none->FnOk P w K mg base dY k f fd ps (G3 K n g)):CalW P w K mg base n m k g:=by
 obtain⟨f,fd,M,F⟩:=D;exact⟨⟨C,f,fd,ps,a,c,M,ok f fd F,F.binds b⟩⟩
theorem MethIn.calI(D:MethIn K C "__init__" q st)(X:K.In h)(G:h.Ns mainGlobals mg)(a:PySem.W.nsIn K mainGlobals n=some (some (.ref C)))(hm:PySem.W.makesIn K C=true)(hk:keepIn K (.ref C)=true)(b:jF "__init__" q st ps){g:List VL.D->Option (List (Str×VL.D))}(ok:∀f fd,FunV K "__init__" q st f fd .none->FnOk P w K mg base dY k f fd ps (Nn K n g)):CalI P w K mg base n k g:=by
 obtain⟨f,fd,M,F⟩:=D;exact⟨⟨C,f,fd,ps,a,⟨hm,M.at_,M.fn,hk⟩,PySem.W.mg_of X G a,ok f fd F,F.binds b⟩⟩
end
end VL
namespace MA
open PySem
open Nat (add_mul add_zero le_succ_of_le le_trans mod_lt)
theorem rT(x y:Int):Builtin.bitOr x y=2*Builtin.bitOr (x/2) (y/2)+(if x%2=0/\y%2=0 then 0 else 1):=by
 unfold Builtin.bitOr Builtin.bitNot;have h:=PySem.W.kbt_halves (-x-1) (-y-1);have hx:(-x-1)/2 = -(x/2)-1:=by omega
 have hy:(-y-1)/2 = -(y/2)-1:=by omega
 rw[hx,hy]at h;rw[h];by_cases c:x%2=0/\y%2=0
 ·rw[if_pos c,if_pos (by omega)];omega
 ·rw[if_neg c,if_neg (by omega)];omega
theorem o6(n:Nat):(0:Int)<2^n:=by
 induction n with
 |zero=>decide
 |succ n ih=>rw[Int.pow_succ];omega
theorem iZ(x:Int)(n:Nat):x/2^(n+1)=x/2/2^n:=by
 rw[Int.pow_succ,Int.mul_comm,Int.ediv_ediv_of_nonneg (by decide)]
theorem fX(x:Int)(n:Nat):2^(n+1) ∣ x↔x%2=0/\2^n ∣ x/2:=by
 constructor
 ·rintro⟨c,rfl⟩
  rw[Int.pow_succ];refine⟨?_,c,?_⟩
  ·rw[Int.mul_comm (2^n) 2,Int.mul_assoc];omega
  ·rw[Int.mul_comm (2^n) 2,Int.mul_assoc,Int.mul_ediv_cancel_left _ (by decide)]
 ·rintro⟨h,c,hc⟩
  refine⟨c,?_⟩;rw[Int.pow_succ,Int.mul_comm (2^n) 2,Int.mul_assoc,<-hc];omega
theorem wF(n:Nat):∀x y:Int,(2^n ∣ Builtin.bitOr x y↔2^n ∣ x/\2^n ∣ y)/\(2^n ∣ Builtin.bitOr x y->Builtin.bitOr x y/2^n=Builtin.bitOr (x/2^n) (y/2^n)):=by
 induction n with
 |zero=>intro x y;simp
 |succ n ih=>
  intro x y;have h:=rT x y;have hd:Builtin.bitOr x y/2=Builtin.bitOr (x/2) (y/2):=by rw[h];split<;>omega
  have hm:Builtin.bitOr x y%2=0↔x%2=0/\y%2=0:=by
   rw[h];by_cases c:x%2=0/\y%2=0
   ·rw[if_pos c];constructor
    ·intro _;exact c
    ·intro _;omega
   ·rw[if_neg c];constructor
    ·intro z;omega
    ·intro z;exact absurd z c
  obtain⟨i1,i2⟩:=ih (x/2) (y/2);constructor
  ·rw[fX,fX,fX,hd,hm,i1]
   constructor
   ·rintro⟨⟨a,b⟩,c,d⟩;exact⟨⟨a,c⟩,b,d⟩
   ·rintro⟨⟨a,c⟩,b,d⟩;exact⟨⟨a,b⟩,c,d⟩
  ·intro q
   rw[fX,hd]at q;rw[iZ,iZ,iZ,hd,i2 q.2]
theorem Bs:∀(n:Nat) (j:Int),j.natAbs<=n->j≠0->∃(t:Nat) (a:Int),j=2^t*(2*a+1)
 | 0,j,h,h0=>by omega
 |n+1,j,h,h0=>by
  by_cases c:j%2=0
  ·obtain⟨t,a,e⟩:=Bs n (j/2) (by omega) (by omega)
   refine⟨t+1,a,?_⟩;rw[Int.pow_succ,Int.mul_comm (2^t) 2,Int.mul_assoc,<-e];omega
  ·exact⟨0,j/2,by simp;omega⟩
theorem Dz(t:Nat):Builtin.Int.intBits (2^t)=t+1:=by
 unfold Builtin.Int.intBits;have h:(2:Int)^t≠0:=Int.ne_of_gt (o6 t);have e:((2:Int)^t).natAbs=2^t:=by
  have:((2^t:Nat):Int)=(2:Int)^t:=by simp
  rw[<-this,Int.natAbs_natCast]
 rw[if_neg (by simpa using h),e,Nat.log2_two_pow]
noncomputable def v6(j most:Int):Int:=if j=0 then most else if(Builtin.Int.intBits (Builtin.bitAnd j (-j)):Int)-1<most then(Builtin.Int.intBits (Builtin.bitAnd j (-j)):Int)-1 else most
theorem zC(j most:Int)(hm:0<=most):∃t:Nat,v6 j most=t/\(t:Int)<=most/\2^t ∣ j/\((t:Int)<most->¬j/2^t%2=0):=by
 unfold v6;by_cases h:j=0
 ·subst h
  refine⟨most.toNat,by rw[if_pos rfl];omega,by omega,Int.dvd_zero _,fun z=>by omega⟩
 ·obtain⟨t,a,e⟩:=Bs _ j (Nat.le_refl _) h
  have hb:Builtin.Int.intBits (Builtin.bitAnd j (-j))=t+1:=by rw[e,PySem.W.kbt_low,Dz]
  rw[if_neg h,hb];have q:((t+1:Nat):Int)-1=t:=by omega
  rw[q];by_cases c:(t:Int)<most
  ·refine⟨t,by rw[if_pos c],by omega,⟨_,e⟩,fun _=>?_⟩
   rw[e,Int.mul_ediv_cancel_left _ (Int.ne_of_gt (o6 t))];omega
  ·refine⟨most.toNat,by rw[if_neg c];omega,by omega,?_,fun z=>by omega⟩
   refine Int.dvd_trans ?_ ⟨_,e⟩;have:t=most.toNat+(t-most.toNat):=by omega
   rw[this,Int.pow_add];exact Int.dvd_mul_right _ _
theorem lD{a:Int}{m:Nat}(h:a.natAbs<2^m):Builtin.Int.intBits a<=m:=by
 unfold Builtin.Int.intBits;split
 ·exact Nat.zero_le _
 ·rename_i h0
  have h0:a≠0:=by simpa using h0
  have:a.natAbs.log2<m:=(Nat.log2_lt (by omega)).mpr h;omega
theorem J6{a b:Int}(m n:Nat)(ha:a.natAbs<2^m)(hb:b.natAbs<2^n)(h:m+n<=134217728):IntMulOk a b:=by
 have h1:=lD ha;have h2:=lD hb;have hc:Builtin.Int.intTooBig (Builtin.Int.intBits a+Builtin.Int.intBits b)=false:=by
  unfold Builtin.Int.intTooBig bitsLine;exact decide_eq_false (by omega)
 unfold IntMulOk;rw[hc];simp
structure Q4 where
 a:Int
 b:Int
 c:Int
 d:Int
namespace Q4
theorem ext'{x y:Q4}(h1:x.a=y.a)(h2:x.b=y.b)(h3:x.c=y.c)(h4:x.d=y.d):x=y:=by
 cases x;cases y;simp at h1 h2 h3 h4;subst h1 h2 h3 h4;rfl
def add(x y:Q4):Q4:=⟨x.a+y.a,x.b+y.b,x.c+y.c,x.d+y.d⟩
def neg(x:Q4):Q4:=⟨-x.a,-x.b,-x.c,-x.d⟩
noncomputable def mul(x y:Q4):Q4:=⟨x.a*y.a-x.b*y.d-x.c*y.c-x.d*y.b,x.a*y.b+x.b*y.a-x.c*y.d-x.d*y.c,x.a*y.c+x.b*y.b+x.c*y.a-x.d*y.d,x.a*y.d+x.b*y.c+x.c*y.b+x.d*y.a⟩
def rt(x:Q4):Q4:=⟨x.b-x.d,x.a+x.c,x.b+x.d,x.c-x.a⟩
def dbl(n:Int)(x:Q4):Q4:=⟨x.a*n,x.b*n,x.c*n,x.d*n⟩
def mir(x:Q4):Q4:=⟨x.a,-x.d,-x.c,-x.b⟩
def tn(x:Q4):Q4:=⟨-x.d,x.a,x.b,x.c⟩
def rtn:Nat->Q4->Q4
 | 0,x=>x
 |n+1,x=>rtn n (rt x)
theorem rtn_succ(n:Nat)(x:Q4):rtn (n+1) x=rt (rtn n x):=by
 induction n generalizing x with
 |zero=>rfl
 |succ n ih=>exact ih (rt x)
theorem rtn_add(m n:Nat)(x:Q4):rtn (m+n) x=rtn m (rtn n x):=by
 induction n generalizing x with
 |zero=>rfl
 |succ n ih=>exact ih (rt x)
theorem rt_rt(x:Q4):rt (rt x)=dbl 2 x:=by
 apply ext'<;>simp[rt,dbl]<;>omega
theorem Gy(m n:Int)(x:Q4):dbl m (dbl n x)=dbl (n*m) x:=by
 apply ext'<;>simp[dbl,Int.mul_assoc]
theorem rtn_two(t:Nat)(x:Q4):rtn (2*t) x=dbl (2^t) x:=by
 induction t generalizing x with
 |zero=>apply ext'<;>simp[rtn,dbl]
 |succ t ih=>
  have e:2*(t+1)=2*t+1+1:=by omega
  rw[e];show rtn (2*t) (rt (rt x))=_;rw[ih,rt_rt,Gy,Int.pow_succ,Int.mul_comm]
theorem rt_inj{x y:Q4}(h:rt x=rt y):x=y:=by
 have h1:=congrArg rt h;rw[rt_rt,rt_rt]at h1;have h2:=congrArg Q4.a h1;have h3:=congrArg Q4.b h1;have h4:=congrArg Q4.c h1;have h5:=congrArg Q4.d h1;simp only[dbl]at h2 h3 h4 h5;apply ext'<;>omega
theorem rtn_inj{n:Nat}{x y:Q4}(h:rtn n x=rtn n y):x=y:=by
 induction n generalizing x y with
 |zero=>exact h
 |succ n ih=>exact rt_inj (ih h)
theorem rt_add(x y:Q4):rt (add x y)=add (rt x) (rt y):=by apply ext'<;>simp[rt,add]<;>omega
theorem BI(x:Q4):rt (neg x)=neg (rt x):=by apply ext'<;>simp[rt,neg]<;>omega
theorem rtn_addQ(n:Nat)(x y:Q4):rtn n (add x y)=add (rtn n x) (rtn n y):=by
 induction n generalizing x y with
 |zero=>rfl
 |succ n ih=>show rtn n (rt (add x y))=_;rw[rt_add,ih];rfl
theorem rt_mul(x y:Q4):rt (mul x y)=mul (rt x) y:=by apply ext'<;>simp only[rt,mul]<;>grind
theorem rtn_mul(n:Nat)(x y:Q4):rtn n (mul x y)=mul (rtn n x) y:=by
 induction n generalizing x with
 |zero=>rfl
 |succ n ih=>show rtn n (rt (mul x y))=_;rw[rt_mul,ih];rfl
theorem mul_comm(x y:Q4):mul x y=mul y x:=by apply ext'<;>simp only[mul]<;>grind
theorem mul_add(x y z:Q4):mul x (add y z)=add (mul x y) (mul x z):=by apply ext'<;>simp only[mul,add]<;>grind
theorem add_comm(x y:Q4):add x y=add y x:=by apply ext'<;>simp only[add]<;>omega
theorem add_assoc(x y z:Q4):add (add x y) z=add x (add y z):=by apply ext'<;>simp only[add]<;>omega
theorem rtn_mul2(m n:Nat)(x y:Q4):rtn (m+n) (mul x y)=mul (rtn m x) (rtn n y):=by
 rw[rtn_add,mul_comm,rtn_mul,mul_comm,rtn_mul]
theorem mir_mul(x y:Q4):mir (mul x y)=mul (mir x) (mir y):=by apply ext'<;>simp only[mul,mir]<;>grind
theorem mir_add(x y:Q4):mir (add x y)=add (mir x) (mir y):=by apply ext'<;>simp only[add,mir]<;>omega
theorem mir_mir(x:Q4):mir (mir x)=x:=by apply ext'<;>simp[mir]
theorem mir_rt(x:Q4):mir (rt x)=rt (mir x):=by apply ext'<;>simp only[rt,mir]<;>omega
theorem mir_rtn(n:Nat)(x:Q4):mir (rtn n x)=rtn n (mir x):=by
 induction n generalizing x with
 |zero=>rfl
 |succ n ih=>show mir (rtn n (rt x))=rtn n (rt (mir x));rw[ih,mir_rt]
theorem tn_mul(x y:Q4):tn (mul x y)=mul x (tn y):=by apply ext'<;>simp only[mul,tn]<;>grind
theorem tn_rt(x:Q4):tn (rt x)=rt (tn x):=by apply ext'<;>simp only[rt,tn]<;>omega
def Odd(x:Q4):Prop:=¬((x.a-x.c)%2=0/\(x.b-x.d)%2=0)
theorem EG(x:Q4):¬Odd (rt x):=by
 unfold Odd rt;simp only;omega
def Least(x:Q4)(k:Int):Prop:=0<=k/\(0<k->Odd x)
theorem Least.one{x y:Q4}{k l m:Nat}(hx:Least x k)(hy:Least y l)(h1:k<=m)(h2:l<=m)(h:rtn (m-k) x=rtn (m-l) y):x=y/\k=l:=by
 have key:∀{x y:Q4} {k l:Nat},Least y l->k<=m->l<=m->k<l->rtn (m-k) x=rtn (m-l) y->False:=by
  intro x y k l hy h1 h2 hlt h;have e:m-k=(m-l)+(l-k):=by omega
  rw[e,rtn_add]at h;have h3:=rtn_inj h;obtain⟨n,hn⟩:∃n,l-k=n+1:=⟨l-k-1,by omega⟩;rw[hn,rtn_succ]at h3;have:=hy.2 (by omega);rw[<-h3]at this;exact EG _ this
 rcases Nat.lt_trichotomy k l with q|q|q
 ·exact(key hy h1 h2 q h).elim
 ·subst q;exact⟨rtn_inj h,rfl⟩
 ·exact(key hx h2 h1 q h.symm).elim
end Q4
theorem lP(a b c d most:Int)(hm:0<=most):∃t:Nat,v6 (Builtin.bitOr (Builtin.bitOr (Builtin.bitOr a b) c) d) most=t/\(t:Int)<=most/\a=a/2^t*2^t/\b=b/2^t*2^t/\c=c/2^t*2^t/\d=d/2^t*2^t /\
  ((t:Int)<most->¬(a/2^t%2=0/\b/2^t%2=0/\c/2^t%2=0/\d/2^t%2=0)):=by
 obtain⟨t,e,h1,h2,h3⟩:=zC (Builtin.bitOr (Builtin.bitOr (Builtin.bitOr a b) c) d) most hm;have o1:=wF t (Builtin.bitOr (Builtin.bitOr a b) c) d;have d1:=o1.1.mp h2;have o2:=wF t (Builtin.bitOr a b) c;have d2:=o2.1.mp d1.1;have o3:=wF t a b;have d3:=o3.1.mp d2.1;refine⟨t,e,h1,(Int.ediv_mul_cancel d3.1).symm,(Int.ediv_mul_cancel d3.2).symm,(Int.ediv_mul_cancel d2.2).symm,(Int.ediv_mul_cancel d1.2).symm,fun z w=>h3 z ?_⟩
 have ev:∀x y:Int,x%2=0->y%2=0->Builtin.bitOr x y%2=0:=fun x y hx hy=>by
  rw[rT,if_pos ⟨hx,hy⟩];omega
 rw[o1.2 h2,o2.2 d1.1,o3.2 d2.1];exact ev _ _ (ev _ _ (ev _ _ w.1 w.2.1) w.2.2.1) w.2.2.2
noncomputable def num(x:Q4)(k:Int):Q4×Int:=
 let t:=(v6 (Builtin.bitOr (Builtin.bitOr (Builtin.bitOr x.a x.b) x.c) x.d) (k/2)).toNat
 let y:Q4:=⟨x.a/2^t,x.b/2^t,x.c/2^t,x.d/2^t⟩
 if k-2*t=0\/(y.a-y.c)%2=1\/(y.b-y.d)%2=1 then(y,k-2*t)else(⟨(y.b-y.d)/2,(y.a+y.c)/2,(y.b+y.d)/2,(y.c-y.a)/2⟩,k-2*t-1)
theorem xf{p q:Int}(h:(p-q)%2=0):(p+q)/2-(q-p)/2=p/\(p+q)/2+(q-p)/2=q:=by omega
theorem xc{p q:Int}(h:(p-q)%2=0):(p-q)/2+(p+q)/2=p/\(p+q)/2-(p-q)/2=q:=by omega
theorem IJ{x y:Int}(h:(x-y)%2=0)(k:y%2=0):x%2=0:=by omega
theorem Fe{x y:Int}(h:(x-y)%2=0)(k:x%2=0):y%2=0:=by omega
theorem Cn{a b c d:Int}(g1:(a-c)%2=0)(g2:(b-d)%2=0)(h:¬(a%2=0/\b%2=0/\c%2=0/\d%2=0)):Q4.Odd ⟨(b-d)/2,(a+c)/2,(b+d)/2,(c-a)/2⟩:=fun z=>by
 have z1:((b-d)/2-(b+d)/2)%2=0:=z.1;have z2:((a+c)/2-(c-a)/2)%2=0:=z.2;rw[(xf g1).1]at z2;have e:=(xc g2).2;have z3:d%2=0:=by omega
 exact h ⟨z2,IJ g2 z3,Fe g1 z2,z3⟩
theorem gr(x:Q4)(k:Int)(hk:0<=k):Q4.Least (num x k).1 (num x k).2/\(num x k).2<=k/\Q4.rtn (k-(num x k).2).toNat (num x k).1=x:=by
 obtain⟨t,e,h1,ha,hb,hc,hd,h3⟩:=lP x.a x.b x.c x.d (k/2) (by omega);have l2:2*(t:Int)<=k:=by omega
 unfold num;simp only[e,Int.toNat_natCast];generalize x.a/2^t=a at *;generalize x.b/2^t=b at *;generalize x.c/2^t=c at *;generalize x.d/2^t=d at *;have e2:Q4.dbl (2^t) ⟨a,b,c,d⟩=x:=Q4.ext' ha.symm hb.symm hc.symm hd.symm;split
 ·rename_i h
  refine⟨⟨Int.sub_nonneg_of_le l2,fun z=>?_⟩,Int.sub_le_self _ (by omega),?_⟩
  ·rcases h with h|h|h
   ·exact absurd h (Int.ne_of_gt z)
   ·exact fun w=>absurd (h.symm.trans w.1) (by decide)
   ·exact fun w=>absurd (h.symm.trans w.2) (by decide)
  ·have:(k-(k-2*(t:Int))).toNat=2*t:=by omega
   simp only[this];rw[Q4.rtn_two,e2]
 ·rename_i h
  have g0:k-2*(t:Int)≠0:=fun z=>h (.inl z)
  have g1:(a-c)%2=0:=(Int.emod_two_eq (a-c)).resolve_right fun z=>h (.inr (.inl z))
  have g2:(b-d)%2=0:=(Int.emod_two_eq (b-d)).resolve_right fun z=>h (.inr (.inr z))
  refine⟨⟨(by omega:0<=k-2*(t:Int)-1),fun z=>Cn g1 g2 (h3 ?_)⟩,(by omega:k-2*(t:Int)-1<=k),?_⟩
  ·have z:0<k-2*(t:Int)-1:=z
   omega
  ·have:(k-(k-2*(t:Int)-1)).toNat=2*t+1:=by omega
   simp only[this];show Q4.rtn (2*t) (Q4.rt _)=x;rw[Q4.rtn_two];have e3:Q4.rt ⟨(b-d)/2,(a+c)/2,(b+d)/2,(c-a)/2⟩=⟨a,b,c,d⟩:=Q4.ext' (xf g1).1 (xc g2).1 (xf g1).2 (xc g2).2;rw[e3,e2]
def Q4.Le(M:Nat)(x:Q4):Prop:=x.a.natAbs<=M/\x.b.natAbs<=M/\x.c.natAbs<=M/\x.d.natAbs<=M
theorem uc(a:Int)(t:Nat)(h:a=a/2^t*2^t):(a/2^t).natAbs<=a.natAbs:=by
 have pw:=o6 t;have:a.natAbs=(a/2^t).natAbs*((2:Int)^t).natAbs:=by rw[<-Int.natAbs_mul,<-h]
 rw[this];exact Nat.le_mul_of_pos_right _ (by omega)
theorem mT{a b:Int}{M:Nat}(ha:a.natAbs<=M)(hb:b.natAbs<=M):((a+b)/2).natAbs<=M:=by omega
theorem mS{a b:Int}{M:Nat}(ha:a.natAbs<=M)(hb:b.natAbs<=M):((a-b)/2).natAbs<=M:=by omega
theorem Cq(x:Q4)(k:Int)(hk:0<=k)(M:Nat)(h:Q4.Le M x):Q4.Le M (num x k).1:=by
 obtain⟨t,e,h1,ha,hb,hc,hd,h3⟩:=lP x.a x.b x.c x.d (k/2) (by omega);have la:=le_trans (uc _ _ ha) h.1;have lb:=le_trans (uc _ _ hb) h.2.1;have lc:=le_trans (uc _ _ hc) h.2.2.1;have ld:=le_trans (uc _ _ hd) h.2.2.2;unfold num Q4.Le;simp only[e,Int.toNat_natCast];split
 ·exact⟨la,lb,lc,ld⟩
 ·exact⟨mS lb ld,mT la lc,mT lb ld,mS lc la⟩
theorem eP{a b:Int}{M N:Nat}(ha:a.natAbs<=M)(hb:b.natAbs<=N):(a+b).natAbs<=M+N:=le_trans (Int.natAbs_add_le a b) (Nat.add_le_add ha hb)
theorem oo{a b:Int}{M N:Nat}(ha:a.natAbs<=M)(hb:b.natAbs<=N):(a-b).natAbs<=M+N:=le_trans (Int.natAbs_sub_le a b) (Nat.add_le_add ha hb)
theorem LZ{x:Q4}{M:Nat}(h:Q4.Le M x):Q4.Le (2*M) (Q4.rt x):=by
 obtain⟨g1,g2,g3,g4⟩:=h;rw[Nat.two_mul];unfold Q4.Le Q4.rt;exact⟨oo g2 g4,eP g1 g3,eP g2 g4,oo g3 g1⟩
theorem BH{x:Q4}{M:Nat}:∀(n:Nat),Q4.Le M x->Q4.Le (2^n*M) (Q4.rtn n x)
 | 0,h=>by simpa[Q4.rtn]using h
 |n+1,h=>by
  have:=LZ (BH n h);rw[Q4.rtn_succ];rw[Nat.pow_succ,Nat.mul_comm (2^n) 2,Nat.mul_assoc];exact this
theorem Q4.Le.mono{x:Q4}{M N:Nat}(h:Q4.Le M x)(hl:M<=N):Q4.Le N x:=⟨le_trans h.1 hl,le_trans h.2.1 hl,le_trans h.2.2.1 hl,le_trans h.2.2.2 hl⟩
theorem KS{x y:Q4}{M N:Nat}(h:Q4.Le M x)(h':Q4.Le N y):Q4.Le (M+N) (Q4.add x y):=
 ⟨eP h.1 h'.1,eP h.2.1 h'.2.1,eP h.2.2.1 h'.2.2.1,eP h.2.2.2 h'.2.2.2⟩
noncomputable def gn(x:Q4)(c:Int)(y:Q4)(d:Int):Q4×Int:=num (Q4.add (Q4.rtn (max c d-c).toNat x) (Q4.rtn (max c d-d).toNat y)) (max c d)
def oA(x:Q4)(c:Int)(y:Q4)(d:Int):Q4×Int:=num (Q4.mul x y) (c+d)
def cj:Nat->Q4->Q4
 | 0,x=>x
 |n+1,x=>Q4.tn (cj n x)
theorem lR{x:Q4}{M:Nat}:∀n:Nat,Q4.Le M x->Q4.Le M (cj n x)
 | 0,h=>h
 |n+1,h=>by
  obtain⟨a,b,c,d⟩:=lR n h;exact⟨by simpa[cj,Q4.tn]using d,a,b,c⟩
theorem tn_odd{x:Q4}:Q4.Odd (Q4.tn x)↔Q4.Odd x:=by
 unfold Q4.Odd Q4.tn;simp only;omega
theorem xS{x:Q4}:∀n:Nat,Q4.Odd (cj n x)↔Q4.Odd x
 | 0=>Iff.rfl
 |n+1=>tn_odd.trans (xS n)
theorem zG{x:Q4}{c:Int}(n:Nat)(h:Q4.Least x c):Q4.Least (cj n x) c:=⟨h.1,fun z=>(xS n).mpr (h.2 z)⟩
theorem An{x:Q4}{c:Int}(h:Q4.Least x c):Q4.Least (Q4.mir x) c:=⟨h.1,fun z=>by
 have:=h.2 z;unfold Q4.Odd Q4.mir at *;simp only at *;omega⟩
def Is(x:Q4)(c:Nat)(u:Q4)(k:Nat):Prop:=Q4.Least x c/\Q4.rtn k x=Q4.rtn c u
theorem fF(m n:Nat)(x:Q4):Q4.rtn m (Q4.rtn n x)=Q4.rtn n (Q4.rtn m x):=by rw[<-Q4.rtn_add,<-Q4.rtn_add,Nat.add_comm]
theorem Is.one{x y u v:Q4}{c d k l:Nat}(hx:Is x c u k)(hy:Is y d v l)(h:Q4.rtn l u=Q4.rtn k v):x=y/\c=d:=by
 have e:Q4.rtn d x=Q4.rtn c y:=by
  refine Q4.rtn_inj (n:=k+l) ?_;rw[Q4.rtn_add,Q4.rtn_add,fF l d x,fF k d,fF k l,hx.2,fF l c u,h,fF l c y,hy.2,fF k c,fF k d v,fF d c]
 exact Q4.Least.one (m:=c+d) hx.1 hy.1 (by omega) (by omega) (by rw[show c+d-c=d by omega,show c+d-d=c by omega];exact e)
theorem tN(u:Q4)(k:Nat):∃c:Nat,(num u k).2=c/\c<=k/\Is (num u k).1 c u k:=by
 obtain⟨s1,s2,s3⟩:=gr u k (by omega);obtain⟨c,hc⟩:∃c:Nat,(num u k).2=c:=⟨(num u k).2.toNat,by have:=s1.1;omega⟩;rw[hc]at s1 s2 s3;refine⟨c,hc,by omega,s1,?_⟩;have e:((k:Int)-c).toNat=k-c:=by omega
 rw[e]at s3
 conv=>rhs;rw[<-s3]
 rw[<-Q4.rtn_add];congr 1;omega
theorem HN(n:Nat)(x:Q4):Q4.tn (Q4.rtn n x)=Q4.rtn n (Q4.tn x):=by
 induction n generalizing x with
 |zero=>rfl
 |succ n ih=>show Q4.tn (Q4.rtn n (Q4.rt x))=Q4.rtn n (Q4.rt (Q4.tn x));rw[ih,Q4.tn_rt]
theorem nJ(m n:Nat)(x:Q4):cj m (Q4.rtn n x)=Q4.rtn n (cj m x):=by
 induction m with
 |zero=>rfl
 |succ m ih=>show Q4.tn (cj m (Q4.rtn n x))=_;rw[ih,HN];rfl
theorem iG(m n:Nat)(x:Q4):cj (m+n) x=cj m (cj n x):=by
 induction m with
 |zero=>rw[Nat.zero_add];rfl
 |succ m ih=>rw[Nat.succ_add];show Q4.tn (cj (m+n) x)=_;rw[ih];rfl
theorem NO(x:Q4):cj 8 x=x:=by simp[cj,Q4.tn]
theorem nK(n:Nat)(x:Q4):cj (n%8) x=cj n x:=by
 conv=>rhs;rw[<-Nat.mod_add_div n 8]
 rw[iG];congr 1;generalize n/8=q
 induction q with
 |zero=>rfl
 |succ q ih=>rw[Nat.mul_succ,iG,NO];exact ih
theorem xT(n:Nat)(x y:Q4):cj n (Q4.mul x y)=Q4.mul x (cj n y):=by
 induction n with
 |zero=>rfl
 |succ n ih=>show Q4.tn (cj n (Q4.mul x y))=_;rw[ih,Q4.tn_mul];rfl
theorem BY{x y:Q4}{c d:Nat}{p r:Nat}(hx:Q4.Le (2^p) x)(hy:Q4.Le (2^p) y)(hc:c<=r)(hd:d<=r):Q4.Le (2^(p+r+1)) (gn x c y d).1:=by
 have em:max (c:Int) d=((max c d:Nat):Int):=by omega
 unfold gn;refine Cq _ _ (by omega) _ ?_;have up:∀(n:Nat) (z:Q4),n<=r->Q4.Le (2^p) z->Q4.Le (2^(p+r)) (Q4.rtn n z):=fun n z hn hz=>by
  refine(BH n hz).mono ?_;rw[<-Nat.pow_add];exact Nat.pow_le_pow_right (by decide) (by omega)
 have:=KS (up (max (c:Int) d-c).toNat x (by omega) hx) (up (max (c:Int) d-d).toNat y (by omega) hy);rw[Nat.pow_succ,Nat.mul_two];exact this
structure S2 where
 p:Int
 q:Int
namespace S2
end S2
abbrev Nu:=Q4×Nat
inductive Row where
 |swing (j:Nat)|turn (j:Nat) (e:Nat)|flip (j:Nat)|tie (i j:Nat)|sign (i j:Nat)|cross (i j:Nat)
def bw(u v:Nu):Nu:=((gn u.1 u.2 v.1 v.2).1,(gn u.1 u.2 v.1 v.2).2.toNat)
def cy(u:Nu):Nu:=((num u.1 ((u.2+1:Nat):Int)).1,(num u.1 ((u.2+1:Nat):Int)).2.toNat)
def bt(e:Nat)(u:Nu):Nu:=(cj (e%8) u.1,u.2)
def wt(n j:Nat):Nat:=2^(n-1-j)
def bit(w p:Nat):Nat:=p/w%2
def flp(w p:Nat):Nat:=if bit w p=0 then p+w else p-w
noncomputable def cw(n:Nat):Row->Nat->Nat
 |.flip j,p=>flp (wt n j) p
 |.tie i j,p=>if bit (wt n i) p=0 then p else flp (wt n j) p
 |.cross i j,p=>if bit (wt n i) p=bit (wt n j) p then p else flp (wt n j) (flp (wt n i) p)
 |_,p=>p
noncomputable def aL(n:Nat)(f:Nat->Nu):Row->Nat->Nu
 |.swing j,p=>if bit (wt n j) p=0 then cy (bw (f p) (f (p+wt n j)))else cy (bw (f (p-wt n j)) (bt 4 (f p)))
 |.turn j e,p=>bt (e*bit (wt n j) p) (f p)
 |.sign i j,p=>bt (4*bit (wt n i) p*bit (wt n j) p) (f p)
 |r,p=>f (cw n r p)
def Row.ok(n:Nat):Row->Prop
 |.swing j=>j<n
 |.turn j e=>j<n/\1<=e/\e<=7
 |.flip j=>j<n
 |.tie i j=>i<n/\j<n/\i≠j
 |.sign i j=>i<n/\j<n/\i≠j
 |.cross i j=>i<n/\j<n/\i≠j
theorem br(n j:Nat):0<wt n j:=Nat.pow_pos (by decide)
theorem v5{n j:Nat}(h:j<n):2^n=wt n j*2^(j+1):=by
 unfold wt;rw[<-Nat.pow_add];congr 1;omega
theorem bI(w p:Nat):bit w p<2:=mod_lt _ (by decide)
theorem iD(w p:Nat)(hw:0<w):∃q r,p=(2*q+bit w p)*w+r/\r<w:=by
 refine⟨p/w/2,p%w,?_,mod_lt _ hw⟩;unfold bit;rw[Nat.div_add_mod,Nat.div_add_mod']
theorem xA{w q b r:Nat}(hb:b<2)(hr:r<w):bit w ((2*q+b)*w+r)=b:=by
 unfold bit;rw[Nat.mul_comm,Nat.mul_add_div (by omega),Nat.div_eq_of_lt hr];omega
theorem oh{w p:Nat}(hw:0<w)(h:bit w p=1):w<=p:=by
 obtain⟨q,r,e,_⟩:=iD w p hw;rw[h]at e;have:(2*q+1)*w=2*q*w+w:=by rw[add_mul,Nat.one_mul]
 omega
theorem zo{n j p:Nat}(hj:j<n)(hp:p<2^n)(h:bit (wt n j) p=0):p+wt n j<2^n:=by
 obtain⟨q,r,e,hr⟩:=iD (wt n j) p (br n j);rw[h]at e;have h2:=v5 hj;have hq:q<2^j:=by
  refine Nat.lt_of_not_le fun z=>?_
  have:2*2^j*wt n j<=2*q*wt n j:=Nat.mul_le_mul_right _ (by omega);have e2:wt n j*2^(j+1)=2*2^j*wt n j:=by rw[Nat.pow_succ,Nat.mul_comm,Nat.mul_comm (2^j) 2]
  rw[add_zero]at e;omega
 have:(2*q+2)*wt n j<=2*2^j*wt n j:=Nat.mul_le_mul_right _ (by omega);have e2:wt n j*2^(j+1)=2*2^j*wt n j:=by rw[Nat.pow_succ,Nat.mul_comm,Nat.mul_comm (2^j) 2]
 have e3:(2*q+2)*wt n j=2*q*wt n j+2*wt n j:=add_mul ..;rw[add_zero]at e;omega
theorem pZ{n j p:Nat}(hj:j<n)(hp:p<2^n):flp (wt n j) p<2^n:=by
 unfold flp;split
 ·exact zo hj hp (by assumption)
 ·omega
theorem yU{n p:Nat}{r:Row}(hr:r.ok n)(hp:p<2^n):cw n r p<2^n:=by
 cases r with
 |flip j=>exact pZ hr hp
 |tie i j=>show(if _ then _ else _)<_;split;exact hp;exact pZ hr.2.1 hp
 |cross i j=>show(if _ then _ else _)<_;split;exact hp;exact pZ hr.2.1 (pZ hr.1 hp)
 |_=>exact hp
theorem Gh{w p:Nat}(hw:0<w):flp w p/(2*w)=p/(2*w):=by
 obtain⟨q,r,e,hr⟩:=iD w p hw;have h2:=bI w p;have e1:(2*q+bit w p)*w=2*w*q+bit w p*w:=by rw[add_mul,Nat.mul_right_comm]
 have one:∀x,x<2*w->(2*w*q+x)/(2*w)=q:=fun x hx=>by rw[Nat.mul_add_div (by omega),Nat.div_eq_of_lt hx,add_zero]
 unfold flp;split
 ·rename_i h
  rw[h]at e e1;have a:=one (r+w) (by omega);have b:=one r (by omega);rw[show p+w=2*w*q+(r+w) by omega,a,show p=2*w*q+r by omega,b]
 ·rename_i h
  have h1:bit w p=1:=by omega
  rw[h1]at e e1;have a:=one (r+w) (by omega);have b:=one r (by omega);rw[show p-w=2*w*q+r by omega,b,show p=2*w*q+(r+w) by omega,a]
theorem sv(x p m:Nat)(hx:0<x):bit x (p+2*x*m)=bit x p:=by
 unfold bit;rw[show p+2*x*m=p+x*(2*m) by rw[Nat.mul_comm 2 x,Nat.mul_assoc],Nat.add_mul_div_left _ _ hx];omega
theorem ck{n i j p:Nat}(hi:i<n)(hj:j<n)(hij:i≠j):bit (wt n j) (flp (wt n i) p)=bit (wt n j) p:=by
 have hw:=br n i;by_cases h:j<i
 ·
  have e:wt n j=2*wt n i*2^(i-j-1):=by
   unfold wt;rw[show 2*2^(n-1-i)=2^(n-1-i+1) by rw[Nat.pow_succ,Nat.mul_comm],<-Nat.pow_add];congr 1;omega
  unfold bit;rw[e,<-Nat.div_div_eq_div_mul (flp (wt n i) p) (2*wt n i),<-Nat.div_div_eq_div_mul p (2*wt n i),Gh hw]
 ·have e:wt n i=2*wt n j*2^(j-i-1):=by
   unfold wt;rw[show 2*2^(n-1-j)=2^(n-1-j+1) by rw[Nat.pow_succ,Nat.mul_comm],<-Nat.pow_add];congr 1;omega
  unfold flp;split
  ·rw[e];exact sv _ _ _ (br n j)
  ·rename_i hb
   have h2:=bI (wt n i) p;have:=oh (w:=wt n i) (p:=p) hw (by omega);have:=sv (wt n j) (p-wt n i) (2^(j-i-1)) (br n j);rw[<-this,<-e,Nat.sub_add_cancel (by assumption)]
theorem aQ{w p:Nat}(hw:0<w):bit w (flp w p)=1-bit w p:=by
 obtain⟨q,r,e,hr⟩:=iD w p hw;have h2:=bI w p;unfold flp;split
 ·rename_i h
  rw[h]at e;rw[h,show p+w=(2*q+1)*w+r by rw[add_mul]at e ⊢;omega];exact xA (by decide) hr
 ·rename_i h
  have h1:bit w p=1:=by omega
  rw[h1]at e;rw[h1,show p-w=(2*q+0)*w+r by rw[add_mul]at e ⊢;omega];exact xA (by decide) hr
theorem jO{w p:Nat}(hw:0<w):flp w (flp w p)=p:=by
 have h:=aQ (p:=p) hw;have h2:=bI w p;by_cases c:bit w p=0
 ·have e:flp w p=p+w:=if_pos c
  rw[c]at h;rw[e]at h ⊢;unfold flp;rw[if_neg (by omega)];omega
 ·have c1:bit w p=1:=by omega
  have e:flp w p=p-w:=if_neg c;have:=oh hw c1;rw[c1]at h;rw[e]at h ⊢;unfold flp;rw[if_pos (by omega)];omega
theorem GK(a b:Nat):Builtin.bitAnd (a:Int) (b:Int)=((a &&& b:Nat):Int):=by
 unfold Builtin.bitAnd;simp
theorem zD{x y z:Nat}(h:x/2=y/2+z/2)(m:x%2=y%2+z%2):x=y+z:=by omega
theorem Al{u v w:Nat}{p q:Prop}(hu:u<2)(hv:v<2)(hw:w<2)(m1:u=1↔p\/q)(m2:v=1 ↔ ¬(p↔q))(m3:w=1↔p/\q):u=v+w:=by
 have z:∀{x:Nat},x<2->¬x=1->x=0:=fun h k=>by omega
 by_cases a:p<;>by_cases b:q
 ·rw[m1.mpr (.inl a),m3.mpr ⟨a,b⟩,z hv fun e=>m2.mp e ⟨fun _=>b,fun _=>a⟩]
 ·rw[m1.mpr (.inl a),m2.mpr fun e=>b (e.mp a),z hw fun e=>b (m3.mp e).2]
 ·rw[m1.mpr (.inr b),m2.mpr fun e=>a (e.mpr b),z hw fun e=>a (m3.mp e).1]
 ·rw[z hu fun e=>(m1.mp e).elim a b,z hv fun e=>m2.mp e ⟨fun c=>absurd c a,fun c=>absurd c b⟩,z hw fun e=>a (m3.mp e).1]
theorem qC:∀(k a b:Nat),a<2^k->b<2^k->(a ||| b)=(a ^^^ b)+(a &&& b)
 | 0,a,b,ha,hb=>by
  have:a=0:=by simpa using ha
  have:b=0:=by simpa using hb
  subst a;subst b;rfl
 |k+1,a,b,ha,hb=>by
  have ih:=qC k (a/2) (b/2) (by rw[Nat.pow_succ]at ha;omega) (by rw[Nat.pow_succ]at hb;omega);have h1:=@Nat.or_div_two a b;have h2:=@Nat.xor_div_two a b;have h3:=@Nat.and_div_two a b;have m1:=@Nat.or_mod_two_eq_one a b;have m2:=@Nat.xor_mod_two_eq_one a b;have m3:=@Nat.and_mod_two_eq_one a b;rw[<-h1,<-h2,<-h3]at ih;exact zD ih (Al (mod_lt _ (by decide)) (mod_lt _ (by decide)) (mod_lt _ (by decide)) m1 m2 m3)
theorem Qo(a b:Nat):Builtin.bitOr (a:Int) (b:Int)=((a ||| b:Nat):Int):=by
 have h1:¬(0:Int)<=Builtin.bitNot (a:Int):=by unfold Builtin.bitNot;omega
 have h2:¬(0:Int)<=Builtin.bitNot (b:Int):=by unfold Builtin.bitNot;omega
 have e1:(Builtin.bitNot (Builtin.bitNot (a:Int))).toNat=a:=by unfold Builtin.bitNot;omega
 have e2:(Builtin.bitNot (Builtin.bitNot (b:Int))).toNat=b:=by unfold Builtin.bitNot;omega
 unfold Builtin.bitOr Builtin.bitAnd;rw[decide_eq_false h1,decide_eq_false h2];dsimp only;rw[e1,e2];unfold Builtin.bitNot;omega
theorem Nc(a b:Nat):Builtin.bitXor (a:Int) (b:Int)=((a ^^^ b:Nat):Int):=by
 unfold Builtin.bitXor;rw[Qo,GK];have h:∀n:Nat,n<2^n:=fun n=>Nat.lt_two_pow_self
 have:=qC (max a b) a b (Nat.lt_of_lt_of_le (h a) (Nat.pow_le_pow_right (by decide) (by omega))) (Nat.lt_of_lt_of_le (h b) (Nat.pow_le_pow_right (by decide) (by omega)));omega
def v3(n:Nat):Nat:=if n=0 then 0 else n%2+v3 (n/2)
termination_by n
decreasing_by omega
theorem lz:v3 0=0:=by unfold v3;simp
theorem lA(n:Nat):v3 n=n%2+v3 (n/2):=by
 by_cases h:n=0
 ·subst h;simp[lz]
 ·rw[v3,if_neg h]
theorem su:∀(k a b:Nat),a<2^k->b<2^k->v3 (a ^^^ b)%2=(v3 a+v3 b)%2
 | 0,a,b,ha,hb=>by
  have:a=0:=by simpa using ha
  have:b=0:=by simpa using hb
  subst a;subst b;simp[lz]
 |k+1,a,b,ha,hb=>by
  have ih:=su k (a/2) (b/2) (by rw[Nat.pow_succ]at ha;omega) (by rw[Nat.pow_succ]at hb;omega);have h2:=@Nat.xor_div_two a b;have m2:=@Nat.xor_mod_two_eq_one a b;rw[lA (a ^^^ b),lA a,lA b,h2];omega
theorem vv(a b:Nat):∃k,a<2^k/\b<2^k:=by
 have h:∀n:Nat,n<2^n:=fun n=>Nat.lt_two_pow_self
 exact⟨max a b,Nat.lt_of_lt_of_le (h a) (Nat.pow_le_pow_right (by decide) (by omega)),Nat.lt_of_lt_of_le (h b) (Nat.pow_le_pow_right (by decide) (by omega))⟩
theorem GD(a b:Nat):v3 (a ^^^ b)%2=(v3 a+v3 b)%2:=by
 obtain⟨k,h1,h2⟩:=vv a b;exact su k a b h1 h2
def par(n:Nat):Nat:=v3 n%2
theorem gp(n:Nat):par n<2:=mod_lt _ (by decide)
theorem yu(a b:Nat):par (a ^^^ b)=(par a+par b)%2:=by
 unfold par;rw[GD];omega
theorem pb:par 0=0:=by unfold par;rw[lz]
structure Wd where
 x:Nat
 z:Nat
 s:Nat
def HB(u v:Wd):Wd:=⟨u.x ^^^ v.x,u.z ^^^ v.z,(u.s+v.s+2*par (u.z &&& v.x))%4⟩
def val(M:Nat)(u:Nu):Q4:=Q4.rtn (M-u.2) u.1
theorem nY(x:Q4)(k M:Nat)(h:k<=M):Q4.rtn (M-(num x k).2.toNat) (num x k).1=Q4.rtn (M-k) x:=by
 obtain⟨s1,s2,s3⟩:=gr x k (by omega);have h0:=s1.1;have e:M-(num x (k:Int)).2.toNat=(M-k)+((k:Int)-(num x (k:Int)).2).toNat:=by omega
 rw[e,Q4.rtn_add,s3]
theorem cU(M e:Nat)(u:Nu):val M (bt e u)=cj (e%8) (val M u):=by
 unfold val bt;rw[nJ]
theorem ig{M:Nat}{u v:Nu}(hu:u.2<=M)(hv:v.2<=M):val M (bw u v)=Q4.add (val M u) (val M v):=by
 unfold val bw gn;have hk:max (u.2:Int) v.2=((max u.2 v.2:Nat):Int):=by omega
 rw[hk];simp only;rw[nY _ _ M (by omega),Q4.rtn_addQ,<-Q4.rtn_add,<-Q4.rtn_add];congr 2<;>congr 1<;>omega
theorem jc{M:Nat}{u:Nu}(hu:u.2+1<=M):Q4.rt (val M (cy u))=val M u:=by
 unfold val cy;rw[nY _ _ M hu,<-Q4.rtn_succ];congr 1;omega
theorem Eb(M:Nat)(u:Nu):val M (bt 4 u)=Q4.neg (val M u):=by
 rw[cU];show Q4.tn (Q4.tn (Q4.tn (Q4.tn (val M u))))=_;unfold Q4.tn Q4.neg;rfl
def ci(u:Nu):Prop:=Q4.Least u.1 u.2
theorem nH{M:Nat}{u v:Nu}(hu:ci u)(hv:ci v)(h1:u.2<=M)(h2:v.2<=M)(h:val M u=val M v):u=v:=by
 obtain⟨a,b⟩:=Q4.Least.one hu hv h1 h2 h;exact Prod.ext a b
theorem mj(x:Q4)(k:Nat):ci ((num x k).1,(num x k).2.toNat):=by
 obtain⟨s1,s2,s3⟩:=gr x k (by omega);show Q4.Least (num x k).1 ((num x k).2.toNat:Int);rw[Int.toNat_of_nonneg s1.1];exact s1
theorem wz(u v:Nu):ci (bw u v):=by
 have hk:max (u.2:Int) v.2=((max u.2 v.2:Nat):Int):=by omega
 unfold bw gn;rw[hk];exact mj _ _
theorem xg(u:Nu):ci (cy u):=mj _ _
theorem ox{u:Nu}(e:Nat)(h:ci u):ci (bt e u):=zG _ h
theorem iY{f:Nat->Nu}(h:∀p,ci (f p))(n:Nat)(r:Row)(p:Nat):ci (aL n f r p):=by
 cases r with
 |swing j=>
  show ci (if bit (wt n j) p=0 then _ else _);split<;>exact xg _
 |turn j e=>exact ox _ (h p)
 |sign i j=>exact ox _ (h p)
 |flip j=>exact h _
 |tie i j=>exact h _
 |cross i j=>exact h _
def cH:Nat->(Nat->Int)->Int
 | 0,_=>0
 |n+1,F=>cH n F+F n
theorem bu{F G:Nat->Int}:∀(n:Nat),(∀p,p<n->F p=G p)->cH n F=cH n G
 | 0,_=>rfl
 |n+1,h=>by
  show cH n F+F n=cH n G+G n;rw[bu n fun p hp=>h p (by omega),h n (by omega)]
theorem ij(F G:Nat->Int):∀n:Nat,cH n (fun p=>F p+G p)=cH n F+cH n G
 | 0=>rfl
 |n+1=>by
  show cH n _+(F n+G n)=cH n F+F n+(cH n G+G n);rw[ij F G n];omega
theorem kf(F:Nat->Int)(a:Nat):∀b:Nat,cH (a+b) F=cH a F+cH b (fun r=>F (a+r))
 | 0=>by show cH a F=cH a F+0;omega
 |b+1=>by
  show cH (a+b) F+F (a+b)=_+(cH b _+F (a+b));rw[kf F a b];omega
theorem uM(F:Nat->Int)(b:Nat):∀a:Nat,cH (a*b) F=cH a (fun q=>cH b (fun r=>F (q*b+r)))
 | 0=>by rw[Nat.zero_mul];rfl
 |a+1=>by
  rw[Nat.succ_mul,kf,uM F b a];rfl
theorem uG{n j:Nat}(hj:j<n){F G:Nat->Int}(h:∀p,p<2^n->bit (wt n j) p=0->G p+G (p+wt n j)=F p+F (p+wt n j)):cH (2^n) G=cH (2^n) F:=by
 have hw:=br n j;have e:2^n=2^j*(wt n j+wt n j):=by
  rw[v5 hj,Nat.pow_succ,Nat.mul_comm,Nat.mul_assoc,Nat.mul_comm 2,Nat.mul_two]
 have two:∀H:Nat->Int,cH (2^n) H=cH (2^j) (fun q=>cH (wt n j) (fun r=>H (q*(wt n j+wt n j)+r)+H (q*(wt n j+wt n j)+r+wt n j))):=fun H=>by
  rw[e,uM];refine bu _ fun q _=>?_
  rw[kf,<-ij];refine bu _ fun r _=>?_
  rw[<-Nat.add_assoc,Nat.add_right_comm]
 rw[two G,two F];refine bu _ fun q hq=>bu _ fun r hr=>?_
 have e2:q*(wt n j+wt n j)+r=(2*q+0)*wt n j+r:=by
  rw[add_zero,Nat.mul_add,<-add_mul,<-Nat.two_mul]
 have hb:bit (wt n j) (q*(wt n j+wt n j)+r)=0:=by rw[e2];exact xA (by decide) hr
 have hl:q*(wt n j+wt n j)+r<2^n:=by
  have:(q+1)*(wt n j+wt n j)<=2^j*(wt n j+wt n j):=Nat.mul_le_mul_right _ hq;rw[Nat.succ_mul]at this;omega
 exact h _ hl hb
theorem uI{n j:Nat}(hj:j<n)(c:Nat->Bool)(hc:∀p,c (flp (wt n j) p)=c p)(F:Nat->Int):cH (2^n) (fun p=>F (if c p=true then flp (wt n j) p else p))=cH (2^n) F:=by
 refine uG hj fun p hp hb=>?_
 have e:flp (wt n j) p=p+wt n j:=if_pos hb;have hc:=hc p;rw[e]at hc;have hw:=br n j;have e2:flp (wt n j) (p+wt n j)=p:=by rw[<-e];exact jO hw
 rw[hc,e,e2];by_cases h:c p=true
 ·rw[if_pos h,if_pos h];omega
 ·rw[if_neg h,if_neg h]
theorem nP{n i j:Nat}(hi:i<n)(hj:j<n)(hij:i≠j)(F:Nat->Int):cH (2^n) (fun p=>F (cw n (.tie i j) p))=cH (2^n) F:=by
 have:=uI hj (fun p=>!(bit (wt n i) p==0)) (fun p=>by rw[ck hj hi (Ne.symm hij)]) F
 rw[<-this];refine bu _ fun p _=>?_
 show F (if bit (wt n i) p=0 then p else flp (wt n j) p)=_;by_cases h:bit (wt n i) p=0<;>simp[h]
theorem Gi{w p:Nat}(hw:0<w):((flp w p:Nat):Int)=(p:Int)+w-2*((w*bit w p:Nat):Int):=by
 have h2:=bI w p;unfold flp;by_cases h:bit w p=0
 ·rw[if_pos h,h];omega
 ·have h1:bit w p=1:=by omega
  have:=oh hw h1;rw[if_neg h,h1];omega
theorem vI{n i j p:Nat}(hi:i<n)(hj:j<n)(hij:i≠j):flp (wt n j) (flp (wt n i) p)=flp (wt n i) (flp (wt n j) p):=by
 have a:=Gi (p:=flp (wt n i) p) (br n j);have b:=Gi (p:=flp (wt n j) p) (br n i);rw[ck hi hj hij,Gi (br n i)]at a;rw[ck hj hi (Ne.symm hij),Gi (br n j)]at b;omega
theorem zJ{n i j:Nat}(hi:i<n)(hj:j<n)(hij:i≠j)(F:Nat->Int):cH (2^n) (fun p=>F (cw n (.cross i j) p))=cH (2^n) F:=by
 have h1:=nP hi hj hij (fun p=>F (cw n (.tie i j) (cw n (.tie j i) p)))
 have h2:=nP hj hi (Ne.symm hij) (fun p=>F (cw n (.tie i j) p))
 have h3:=nP hi hj hij F;rw[<-h3,<-h2,<-h1];refine bu _ fun p _=>?_
 have hwi:=br n i;have hwj:=br n j;have a1:=bI (wt n i) p;have a2:=bI (wt n j) p;have f1:=ck (p:=p) hj hi (Ne.symm hij);have f2:=aQ (p:=p) hwj;have f3:=ck (p:=p) hi hj hij;have f4:=aQ (p:=p) hwi;congr 1;show(if bit (wt n i) p=bit (wt n j) p then p else flp (wt n j) (flp (wt n i) p))=_;have b1:bit (wt n i) p=0\/bit (wt n i) p=1:=by omega
 have b2:bit (wt n j) p=0\/bit (wt n j) p=1:=by omega
 have comm:flp (wt n j) (flp (wt n i) p)=flp (wt n i) (flp (wt n j) p):=vI hi hj hij;have on:∀{i j p:Nat},bit (wt n i) p=1->cw n (.tie i j) p=flp (wt n j) p:=fun{i j p} h=>by
  show(if bit (wt n i) p=0 then p else flp (wt n j) p)=_;rw[h];rfl
 have off:∀{i j p:Nat},bit (wt n i) p=0->cw n (.tie i j) p=p:=fun{i j p} h=>if_pos h
 rcases b1 with b1|b1<;>rcases b2 with b2|b2
 ·rw[if_pos (by rw[b1,b2]),off b1,off b2,off b1]
 ·rw[if_neg (by rw[b1,b2];decide),off b1,on b2,on (by rw[f4,b1])]
 ·rw[if_neg (by rw[b1,b2];decide),on b1,on (i:=j) (by rw[f2,b2]),off (by rw[aQ hwi,f1,b1]),comm]
 ·rw[if_pos (by rw[b1,b2]),on b1,off (i:=j) (by rw[f2,b2]),on (by rw[f1,b1]),jO hwj]
theorem dS(u v:Nu):(bw u v).2<=max u.2 v.2:=by
 have hk:max (u.2:Int) v.2=((max u.2 v.2:Nat):Int):=by omega
 unfold bw gn;rw[hk];obtain⟨s1,s2,s3⟩:=gr (Q4.add (Q4.rtn (((max u.2 v.2:Nat):Int)-u.2).toNat u.1) (Q4.rtn (((max u.2 v.2:Nat):Int)-v.2).toNat v.1)) ((max u.2 v.2:Nat):Int) (by omega);show(num _ _).2.toNat<=_;omega
noncomputable def iK(N:Nat)(F:Nat->Q4):Q4:=⟨cH N (fun p=>(F p).a),cH N (fun p=>(F p).b),cH N (fun p=>(F p).c),cH N (fun p=>(F p).d)⟩
theorem jI(N:Nat)(F:Nat->Q4):iK (N+1) F=Q4.add (iK N F) (F N):=rfl
theorem gc{F G:Nat->Q4}(N:Nat)(h:∀p,p<N->F p=G p):iK N F=iK N G:=by
 apply Q4.ext'
 ·exact bu N fun p hp=>by rw[h p hp]
 ·exact bu N fun p hp=>by rw[h p hp]
 ·exact bu N fun p hp=>by rw[h p hp]
 ·exact bu N fun p hp=>by rw[h p hp]
theorem uK(F:Nat->Q4):∀N:Nat,Q4.mir (iK N F)=iK N (fun p=>Q4.mir (F p))
 | 0=>by apply Q4.ext'<;>rfl
 |N+1=>by rw[jI,Q4.mir_add,uK F N];rfl
theorem jH{n M:Nat}(r:Row)(hr:r.ok n)(f g:Nat->Nu)(hf:∀p,(f p).2+1<=M)(hg:∀p,(g p).2+1<=M)(F:Q4->Q4->Int)(ht:∀e x y,F (cj e x) (cj e y)=F x y)
  (hp:∀x y s t x' y' s' t',Q4.rt x=Q4.add s t->Q4.rt y=Q4.add s (Q4.neg t)->Q4.rt x'=Q4.add s' t'->Q4.rt y'=Q4.add s' (Q4.neg t')->F x x'+F y y'=F s s'+F t t'):cH (2^n) (fun p=>F (val M (aL n f r p)) (val M (aL n g r p)))=cH (2^n) (fun p=>F (val M (f p)) (val M (g p))):=by
 cases r with
 |swing j=>
  refine uG hr fun p hp' hb=>?_
  have hw:=br n j;have hb1:bit (wt n j) (p+wt n j)=1:=by
   have:=aQ (p:=p) hw;rw[show flp (wt n j) p=p+wt n j from if_pos hb,hb]at this;exact this
  have e1:∀f:Nat->Nu,aL n f (.swing j) p=cy (bw (f p) (f (p+wt n j))):=fun f=>if_pos hb
  have e2:∀f:Nat->Nu,aL n f (.swing j) (p+wt n j)=cy (bw (f p) (bt 4 (f (p+wt n j)))):=fun f=>by
   have:aL n f (.swing j) (p+wt n j)=cy (bw (f (p+wt n j-wt n j)) (bt 4 (f (p+wt n j)))):=if_neg (by rw[hb1];decide);rw[Nat.add_sub_cancel]at this;exact this
  rw[e1,e2,e1,e2];have k1:∀f:Nat->Nu,(∀p,(f p).2+1<=M)->Q4.rt (val M (cy (bw (f p) (f (p+wt n j)))))=Q4.add (val M (f p)) (val M (f (p+wt n j))):=fun f hf=>by
   have a:=hf p;have b:=hf (p+wt n j);have l1:=dS (f p) (f (p+wt n j));rw[jc (by omega),ig (by omega) (by omega)]
  have k2:∀f:Nat->Nu,(∀p,(f p).2+1<=M)->Q4.rt (val M (cy (bw (f p) (bt 4 (f (p+wt n j))))))=Q4.add (val M (f p)) (Q4.neg (val M (f (p+wt n j)))):=fun f hf=>by
   have a:=hf p;have b:=hf (p+wt n j);have l2:(bw (f p) (bt 4 (f (p+wt n j)))).2<=max (f p).2 (f (p+wt n j)).2:=dS _ _;rw[jc (by omega),ig (by omega) (by show(f (p+wt n j)).2<=M;omega),Eb]
  exact hp _ _ _ _ _ _ _ _ (k1 f hf) (k2 f hf) (k1 g hg) (k2 g hg)
 |turn j e=>exact bu _ fun p _=>by show F (val M (bt _ (f p))) (val M (bt _ (g p)))=_;rw[cU,cU,ht]
 |sign i j=>exact bu _ fun p _=>by show F (val M (bt _ (f p))) (val M (bt _ (g p)))=_;rw[cU,cU,ht]
 |flip j=>exact uI hr (fun _=>true) (fun _=>rfl) (fun p=>F (val M (f p)) (val M (g p)))
 |tie i j=>exact nP hr.1 hr.2.1 hr.2.2 (fun p=>F (val M (f p)) (val M (g p)))
 |cross i j=>exact zJ hr.1 hr.2.1 hr.2.2 (fun p=>F (val M (f p)) (val M (g p)))
theorem J7(x y:Q4):Q4.mul (Q4.mir (Q4.tn x)) (Q4.tn y)=Q4.mul (Q4.mir x) y:=by apply Q4.ext'<;>simp only[Q4.mul,Q4.mir,Q4.tn]<;>grind
theorem lg(x y:Q4):∀e:Nat,Q4.mul (Q4.mir (cj e x)) (cj e y)=Q4.mul (Q4.mir x) y
 | 0=>rfl
 |e+1=>by
  have:=lg (Q4.tn x) (Q4.tn y) e;rw[J7]at this;have e1:∀z,cj (e+1) z=cj e (Q4.tn z):=fun z=>by rw[iG e 1 z];rfl
  rw[e1,e1];exact this
theorem yj(x y:Q4):Q4.rt (Q4.rt (Q4.mul x y))=Q4.mul (Q4.rt x) (Q4.rt y):=by
 rw[Q4.rt_mul,Q4.mul_comm,Q4.rt_mul,Q4.mul_comm]
theorem mul_two(s t s' t':Q4):Q4.add (Q4.mul (Q4.mir (Q4.add s t)) (Q4.add s' t')) (Q4.mul (Q4.mir (Q4.add s (Q4.neg t))) (Q4.add s' (Q4.neg t')))=Q4.dbl 2 (Q4.add (Q4.mul (Q4.mir s) s') (Q4.mul (Q4.mir t) t')):=by
 apply Q4.ext'<;>simp only[Q4.mul,Q4.mir,Q4.add,Q4.neg,Q4.dbl]<;>grind
theorem iV{x y s t x' y' s' t':Q4}(h1:Q4.rt x=Q4.add s t)(h2:Q4.rt y=Q4.add s (Q4.neg t))(h3:Q4.rt x'=Q4.add s' t')(h4:Q4.rt y'=Q4.add s' (Q4.neg t')):Q4.add (Q4.mul (Q4.mir x) x') (Q4.mul (Q4.mir y) y')=Q4.add (Q4.mul (Q4.mir s) s') (Q4.mul (Q4.mir t) t'):=by
 apply Q4.rt_inj;apply Q4.rt_inj;rw[Q4.rt_add,Q4.rt_add,yj,yj,<-Q4.mir_rt,<-Q4.mir_rt,h1,h2,h3,h4,mul_two,Q4.rt_rt]
noncomputable def nk(M n:Nat)(f g:Nat->Nu):Q4:=iK (2^n) (fun p=>Q4.mul (Q4.mir (val M (f p))) (val M (g p)))
theorem Ax{n M:Nat}(r:Row)(hr:r.ok n)(f g:Nat->Nu)(hf:∀p,(f p).2+1<=M)(hg:∀p,(g p).2+1<=M):nk M n (aL n f r) (aL n g r)=nk M n f g:=by
 apply Q4.ext'
 ·exact jH r hr f g hf hg (fun x y=>(Q4.mul (Q4.mir x) y).a) (fun e x y=>by rw[lg]) fun x y s t x' y' s' t' h1 h2 h3 h4=>congrArg Q4.a (iV h1 h2 h3 h4)
 ·exact jH r hr f g hf hg (fun x y=>(Q4.mul (Q4.mir x) y).b) (fun e x y=>by rw[lg]) fun x y s t x' y' s' t' h1 h2 h3 h4=>congrArg Q4.b (iV h1 h2 h3 h4)
 ·exact jH r hr f g hf hg (fun x y=>(Q4.mul (Q4.mir x) y).c) (fun e x y=>by rw[lg]) fun x y s t x' y' s' t' h1 h2 h3 h4=>congrArg Q4.c (iV h1 h2 h3 h4)
 ·exact jH r hr f g hf hg (fun x y=>(Q4.mul (Q4.mir x) y).d) (fun e x y=>by rw[lg]) fun x y s t x' y' s' t' h1 h2 h3 h4=>congrArg Q4.d (iV h1 h2 h3 h4)
theorem CU(M n:Nat)(f g:Nat->Nu):nk M n g f=Q4.mir (nk M n f g):=by
 unfold nk;rw[uK];refine gc _ fun p _=>?_
 rw[Q4.mir_mul,Q4.mir_mir,Q4.mul_comm]
def fK(u v:Nu):Nu:=((oA u.1 u.2 v.1 v.2).1,(oA u.1 u.2 v.1 v.2).2.toNat)
def Ao(u:Nu):Nu:=(Q4.mir u.1,u.2)
theorem iH(u v:Nu):(u.2:Int)+v.2=((u.2+v.2:Nat):Int):=by omega
theorem wP{u:Nu}(h:ci u):ci (Ao u):=An h
theorem rH(u v:Nu):(fK u v).2<=u.2+v.2:=by
 unfold fK oA;rw[iH];obtain⟨s1,s2,s3⟩:=gr (Q4.mul u.1 v.1) ((u.2+v.2:Nat):Int) (by omega);show(num _ _).2.toNat<=_;omega
theorem zB{M N:Nat}{u v:Nu}(hu:u.2<=M)(hv:v.2<=N):val (M+N) (fK u v)=Q4.mul (val M u) (val N v):=by
 unfold val fK oA;rw[iH];simp only;rw[nY _ _ (M+N) (by omega),show M+N-(u.2+v.2)=(M-u.2)+(N-v.2) by omega,Q4.rtn_mul2]
theorem Ec(M:Nat)(u:Nu):val M (Ao u)=Q4.mir (val M u):=by
 unfold val Ao;rw[<-Q4.mir_rtn]
theorem u0:∀k,Q4.rtn k ⟨0,0,0,0⟩=⟨0,0,0,0⟩
 | 0=>rfl
 |k+1=>by rw[Q4.rtn_succ,u0 k];rfl
theorem ya(F:Nat->Q4):∀N:Nat,Q4.rt (iK N F)=iK N (fun p=>Q4.rt (F p))
 | 0=>by apply Q4.ext'<;>rfl
 |N+1=>by rw[jI,Q4.rt_add,ya F N];rfl
theorem HQ(x y:Q4):Q4.tn (Q4.add x y)=Q4.add (Q4.tn x) (Q4.tn y):=by apply Q4.ext'<;>simp only[Q4.tn,Q4.add]<;>omega
theorem Bh(e:Nat):∀(x y:Q4),cj e (Q4.add x y)=Q4.add (cj e x) (cj e y):=by
 induction e with
 |zero=>intro x y;rfl
 |succ e ih=>
  intro x y;have e1:∀z,cj (e+1) z=cj e (Q4.tn z):=fun z=>by rw[iG e 1 z];rfl
  rw[e1,e1,e1,HQ,ih]
theorem uE(e:Nat):cj e ⟨0,0,0,0⟩=⟨0,0,0,0⟩:=by
 induction e with
 |zero=>rfl
 |succ e ih=>
  have e1:∀z,cj (e+1) z=cj e (Q4.tn z):=fun z=>by rw[iG e 1 z];rfl
  rw[e1];exact ih
theorem oE(e:Nat)(F:Nat->Q4):∀N:Nat,cj e (iK N F)=iK N (fun p=>cj e (F p))
 | 0=>uE e
 |N+1=>by rw[jI,Bh,oE e F N];rfl
theorem uL(F G:Nat->Q4)(N:Nat):iK N (fun p=>Q4.add (F p) (G p))=Q4.add (iK N F) (iK N G):=by
 apply Q4.ext'
 ·exact ij (fun p=>(F p).a) (fun p=>(G p).a) N
 ·exact ij (fun p=>(F p).b) (fun p=>(G p).b) N
 ·exact ij (fun p=>(F p).c) (fun p=>(G p).c) N
 ·exact ij (fun p=>(F p).d) (fun p=>(G p).d) N
theorem eO{n M j:Nat}{f:Nat->Nu}(hf:∀p,(f p).2+1<=M)(x:Nat):Q4.rt (val M (aL n f (.swing j) x))=if bit (wt n j) x=0 then Q4.add (val M (f x)) (val M (f (x+wt n j)))else Q4.add (val M (f (x-wt n j))) (cj 4 (val M (f x))):=by
 show Q4.rt (val M (if bit (wt n j) x=0 then cy (bw (f x) (f (x+wt n j)))else cy (bw (f (x-wt n j)) (bt 4 (f x)))))=_;split
 ·have a:=hf x
  have b:=hf (x+wt n j);have l:=dS (f x) (f (x+wt n j));rw[jc (by omega),ig (by omega) (by omega)]
 ·have a:=hf x
  have b:=hf (x-wt n j);have l:(bw (f (x-wt n j)) (bt 4 (f x))).2<=max (f (x-wt n j)).2 (f x).2:=dS _ _;rw[jc (by omega),ig (by omega) (by show(f x).2<=M;omega),cU]
def Sup(N M K:Nat)(a:Nat->Q4)(c:Nat->Nat->Nu)(g:Nat->Nu):Prop:=∀x,val N (g x)=iK K (fun p=>Q4.mul (a p) (val M (c p x)))
theorem Sup.done{n N M K:Nat}{a:Nat->Q4}{c:Nat->Nat->Nu}{g:Nat->Nu}(h:Sup N M K a c g)(hg:∀p,(g p).2+1<=N)(hc:∀p x,(c p x).2+1<=M)(r:Row):Sup N M K a (fun p=>aL n (c p) r) (aL n g r):=by
 have tm:∀(e:Nat) (x:Nat),val N (bt e (g x))=iK K (fun p=>Q4.mul (a p) (val M (bt e (c p x)))):=fun e x=>by
  rw[cU,h x,oE];refine gc _ fun p _=>?_
  rw[xT,cU]
 intro x;cases r with
 |swing j=>
  apply Q4.rt_inj;rw[eO hg x,ya];have e:∀p,Q4.rt (Q4.mul (a p) (val M (aL n (c p) (.swing j) x)))=Q4.mul (a p) (if bit (wt n j) x=0 then Q4.add (val M (c p x)) (val M (c p (x+wt n j)))else Q4.add (val M (c p (x-wt n j))) (cj 4 (val M (c p x)))):=fun p=>by
   rw[<-eO (hc p) x,Q4.mul_comm,Q4.rt_mul,Q4.mul_comm]
  simp only[e];split
  ·rw[h x,h (x+wt n j),<-uL]
   exact gc _ fun p _=>by rw[Q4.mul_add]
  ·rw[h x,h (x-wt n j),oE,<-uL]
   exact gc _ fun p _=>by rw[Q4.mul_add,xT]
 |turn j e=>exact tm _ x
 |sign i j=>exact tm _ x
 |flip j=>exact h _
 |tie i j=>exact h _
 |cross i j=>exact h _
def gR(p:Nat):Nat->Nu:=fun q=>if q=p then(⟨1,0,0,0⟩,0)else(⟨0,0,0,0⟩,0)
theorem oF{F:Nat->Q4}{x:Nat}(hF:∀p,p≠x->F p=⟨0,0,0,0⟩):∀N:Nat,iK N F=if x<N then F x else ⟨0,0,0,0⟩
 | 0=>by rw[if_neg (by omega)];apply Q4.ext'<;>rfl
 |N+1=>by
  rw[jI,oF hF N];by_cases h:x<N
  ·rw[if_pos h,if_pos (by omega),hF N (by omega)]
   apply Q4.ext'<;>simp[Q4.add]
  ·by_cases h2:x=N
   ·subst h2
    rw[if_neg h,if_pos (by omega)];apply Q4.ext'<;>simp[Q4.add]
   ·rw[if_neg h,if_neg (by omega),hF N (Ne.symm h2)]
    apply Q4.ext'<;>simp[Q4.add]
theorem rY(x:Q4):Q4.mul x ⟨0,0,0,0⟩=⟨0,0,0,0⟩:=by apply Q4.ext'<;>simp[Q4.mul]
theorem vp(x:Q4):Q4.mul x ⟨1,0,0,0⟩=x:=by apply Q4.ext'<;>simp[Q4.mul]
theorem kJ(M:Nat):val M (⟨0,0,0,0⟩,0)=⟨0,0,0,0⟩:=u0 _
theorem Sup.start{n M:Nat}(s:Nat->Nu)(hs:∀p,(s p).2<=M)(hz:∀p,2^n<=p->s p=(⟨0,0,0,0⟩,0)):Sup (M+M) M (2^n) (fun p=>val M (s p)) gR s:=by
 intro x;have hF:∀p,p≠x->Q4.mul (val M (s p)) (val M (gR p x))=⟨0,0,0,0⟩:=fun p hp=>by
  unfold gR;rw[if_neg (Ne.symm hp),kJ,rY]
 rw[oF hF];by_cases h:x<2^n
 ·rw[if_pos h]
  unfold gR;rw[if_pos rfl];unfold val;have:=hs x;show Q4.rtn (M+M-(s x).2) (s x).1=Q4.mul (Q4.rtn (M-(s x).2) (s x).1) (Q4.rtn (M-0) ⟨1,0,0,0⟩);rw[<-Q4.rtn_mul2,vp];congr 1;omega
 ·rw[if_neg h,hz x (by omega),kJ]
def Row.about:Row->Row
 |.turn j e=>.turn j (8-e)
 |r=>r
theorem Row.about_ok{n:Nat}{r:Row}(h:r.ok n):r.about.ok n:=by
 cases r<;>simp only[Row.about,Row.ok]at h ⊢<;>omega
theorem rG(a b:Nat)(h:(a+b)%8=0)(u:Nu):bt a (bt b u)=u:=by
 unfold bt;have e:cj (a%8) (cj (b%8) u.1)=u.1:=by
  rw[nK,nK,<-iG,<-nK,h];rfl
 rw[e]
theorem GI{n j x:Nat}(h:bit (wt n j) x≠0):bit (wt n j) (x-wt n j)=0/\wt n j<=x:=by
 have h2:=bI (wt n j) x;have h3:=oh (br n j) (show bit (wt n j) x=1 by omega);have:=aQ (p:=x) (br n j);unfold flp at this;rw[if_neg h]at this;exact⟨by omega,h3⟩
theorem GJ{n j x:Nat}(h:bit (wt n j) x=0):bit (wt n j) (x+wt n j)=1:=by
 have:=aQ (p:=x) (br n j);unfold flp at this;rw[if_pos h,h]at this;exact this
theorem pV(x:Q4):cj 4 x=Q4.neg x:=by apply Q4.ext'<;>simp[cj,Q4.tn,Q4.neg]
theorem HK(a b:Q4):Q4.add (Q4.add a b) (Q4.add a (Q4.neg b))=Q4.rt (Q4.rt a):=by
 rw[Q4.rt_rt];apply Q4.ext'<;>simp[Q4.add,Q4.neg,Q4.dbl]<;>omega
theorem HL(a b:Q4):Q4.add (Q4.add a b) (Q4.neg (Q4.add a (Q4.neg b)))=Q4.rt (Q4.rt b):=by
 rw[Q4.rt_rt];apply Q4.ext'<;>simp[Q4.add,Q4.neg,Q4.dbl]<;>omega
theorem BI(x:Q4):Q4.rt (Q4.neg x)=Q4.neg (Q4.rt x):=by apply Q4.ext'<;>simp[Q4.rt,Q4.neg]<;>omega
theorem AG(u:Nu):(cy u).2<=u.2+1:=by
 obtain⟨s1,s2,s3⟩:=gr u.1 ((u.2+1:Nat):Int) (by omega);show(num u.1 ((u.2+1:Nat):Int)).2.toNat<=_;omega
theorem ub(n:Nat)(f:Nat->Nu)(r:Row)(M:Nat)(h:∀p,(f p).2<=M)(x:Nat):(aL n f r x).2<=M+1:=by
 have hp:∀u v:Nu,u.2<=M->v.2<=M->(cy (bw u v)).2<=M+1:=fun u v hu hv=>by
  have a:=dS u v;have b:=AG (bw u v);omega
 cases r with
 |swing j=>
  show(if bit (wt n j) x=0 then cy (bw (f x) (f (x+wt n j)))else cy (bw (f (x-wt n j)) (bt 4 (f x)))).2<=_;split
  ·exact hp _ _ (h _) (h _)
  ·exact hp _ _ (h _) (h _)
 |turn j e=>exact le_succ_of_le (h x)
 |sign i j=>exact le_succ_of_le (h x)
 |flip j=>exact le_succ_of_le (h _)
 |tie i j=>exact le_succ_of_le (h _)
 |cross i j=>exact le_succ_of_le (h _)
theorem AL{n:Nat}{f:Nat->Nu}(hl:∀p,ci (f p)){M:Nat}(hM:∀p,(f p).2<=M)(r:Row)(hr:r.ok n)(x:Nat):aL n (aL n f r) r.about x=f x:=by
 cases r with
 |swing j=>
  have b1:∀p,(f p).2+1<=M+2:=fun p=>by have:=hM p;omega
  have b2:∀p,(aL n f (.swing j) p).2+1<=M+2:=fun p=>by have:=ub n f (.swing j) M hM p;omega
  have b3:=ub n (aL n f (.swing j)) (.swing j) (M+1) (ub n f (.swing j) M hM) x;refine nH (M:=M+2) (iY (iY hl n _) n _ x) (hl x) b3 (by have:=hM x;omega) ?_;apply Q4.rt_inj;apply Q4.rt_inj;show Q4.rt (Q4.rt (val (M+2) (aL n (aL n f (.swing j)) (.swing j) x)))=_;rw[eO b2 x];split
  ·rename_i c
   have c2:=GJ (n:=n) (j:=j) c;rw[Q4.rt_add,eO b1 x,eO b1 (x+wt n j),if_pos c,if_neg (by omega),Nat.add_sub_cancel,pV,HK]
  ·rename_i c
   obtain⟨c2,c3⟩:=GI (n:=n) (j:=j) c;rw[Q4.rt_add,pV,BI,eO b1 x,eO b1 (x-wt n j),if_pos c2,if_neg c,Nat.sub_add_cancel c3,pV,HL]
 |turn j e=>
  have h8:e<=7:=hr.2.2;show bt ((8-e)*bit (wt n j) x) (bt (e*bit (wt n j) x) (f x))=f x;refine rG _ _ ?_ _;rw[<-add_mul,Nat.sub_add_cancel (by omega)];exact Nat.mul_mod_right 8 _
 |sign i j=>
  show bt (4*bit (wt n i) x*bit (wt n j) x) (bt (4*bit (wt n i) x*bit (wt n j) x) (f x))=f x;refine rG _ _ ?_ _;rw[show 4*bit (wt n i) x*bit (wt n j) x+4*bit (wt n i) x*bit (wt n j) x=8*(bit (wt n i) x*bit (wt n j) x) by rw[Nat.mul_assoc];omega];exact Nat.mul_mod_right 8 _
 |flip j=>show f (flp (wt n j) (flp (wt n j) x))=_;rw[jO (br n j)]
 |tie i j=>
  obtain⟨hi,hj,hij⟩:=hr;show f (cw n (.tie i j) (cw n (.tie i j) x))=_;congr 1;show(if bit (wt n i) (if bit (wt n i) x=0 then x else flp (wt n j) x)=0 then(if bit (wt n i) x=0 then x else flp (wt n j) x)else flp (wt n j) (if bit (wt n i) x=0 then x else flp (wt n j) x))=x;by_cases c:bit (wt n i) x=0
  ·simp only[if_pos c]
  ·simp only[if_neg c]
   rw[if_neg (by rw[ck hj hi (Ne.symm hij)];exact c),jO (br n j)]
 |cross i j=>
  obtain⟨hi,hj,hij⟩:=hr;show f (cw n (.cross i j) (cw n (.cross i j) x))=_;congr 1;have bi:=bI (wt n i) x;have bj:=bI (wt n j) x;show(if bit (wt n i) (if bit (wt n i) x=bit (wt n j) x then x else flp (wt n j) (flp (wt n i) x))=bit (wt n j) (if bit (wt n i) x=bit (wt n j) x then x else flp (wt n j) (flp (wt n i) x))then(if bit (wt n i) x=bit (wt n j) x then x else flp (wt n j) (flp (wt n i) x))else flp (wt n j) (flp (wt n i) (if bit (wt n i) x=bit (wt n j) x then x else flp (wt n j) (flp (wt n i) x))))=x;by_cases c:bit (wt n i) x=bit (wt n j) x
  ·simp only[if_pos c]
  ·simp only[if_neg c]
   have e1:bit (wt n i) (flp (wt n j) (flp (wt n i) x))=1-bit (wt n i) x:=by rw[ck hj hi (Ne.symm hij),aQ (br n i)]
   have e2:bit (wt n j) (flp (wt n j) (flp (wt n i) x))=1-bit (wt n j) x:=by rw[aQ (br n j),ck hi hj hij]
   rw[if_neg (by omega),vI hi hj hij,jO (br n j),jO (br n i)]
end MA
namespace GN
open PySem L2 VL
open List (append_nil ext_getElem? filter_sublist getD_eq_getElem?_getD getElem?_eq_getElem getElem?_eq_none getElem?_map getElem?_range length_append length_cons length_map length_range length_reverse map_append map_congr_left map_cons map_id' map_map map_nil map_take mem_append_left mem_append_right mem_cons mem_cons_of_mem mem_cons_self nodup_nil sum_cons)
open Nat (add_mul div_eq_of_lt le_add_right le_succ_of_le le_trans lt_of_lt_of_le min_eq_left one_mul pow_le_pow_right pow_lt_pow_right pow_pos pow_succ pow_zero sub_zero xor_assoc zero_and zero_le)
open Int (add_zero emod_lt_of_pos emod_nonneg toNat_natCast)
noncomputable def jb(i:Nat):Stmt:=PySem.Challenge.pw_wavewires_k33_whole_sums_behind_one_anot.main.body.getD i (.Pass ⟨0,0,0,0⟩)
abbrev eX:Stmt:=jb 4
abbrev j4:List Str:=["joined","most"]
noncomputable def fy:Sf:=ap (dF (ob (o2 (oV 0) (oC (.int 0)) di)) (bJ (oV 1)) (m6)) (bJ (os (ad (oV 1) (ad (o2 (o1 (o2 (oV 0) (o1 (oV 0) negD) xG) zm) (oC (.int 1)) bC) (ao))) FL))
def bz:List D->Option D:=aU j4 2 fy
abbrev jK:Stmt:=jb 5
abbrev sF:List Str:=["a","b","c","d"]
noncomputable def mH:Sf:=bJ (os (ad (o2 (oV 1) (oV 3) bC) (ad (o2 (oV 0) (oV 2) aR) (ad (o2 (oV 1) (oV 3) aR) (ad (o2 (oV 2) (oV 0) bC) (ao))))) bn)
def dw:List D->Option D:=aU sF 4 mH
abbrev im:Stmt:=jb 6
abbrev qG:List Str:=["a","b","c","d","k","twos","doubled"]
noncomputable def lF:Sf:=ap (aC 5 (os (ad (o2 (o2 (o2 (oV 0) (oV 1) IL) (oV 2) IL) (oV 3) IL) (ad (o2 (oV 4) (oC (.int 2)) eJ) (ao))) bz)) (ap (aC 0 (o2 (oV 0) (oV 5) lU)) (ap (aC 1 (o2 (oV 1) (oV 5) lU)) (ap (aC 2 (o2 (oV 2) (oV 5) lU)) (ap (aC 3 (o2 (oV 3) (oV 5) lU)) (ap (aC 4 (o2 (oV 4) (o2 (oC (.int 2)) (oV 5) pC) bC)) (ap (dF (Af (ob (o2 (oV 4) (oC (.int 0)) di)) (Af (ob (o2 (o2 (o2 (oV 0) (oV 2) bC) (oC (.int 2)) bN) (oC (.int 1)) di)) (ob (o2 (o2 (o2 (oV 1) (oV 3) bC) (oC (.int 2)) bN) (oC (.int 1)) di)))) (bJ (os (ad (oV 0) (ad (oV 1) (ad (oV 2) (ad (oV 3) (ad (oV 4) (ao)))))) bn)) (m6)) (ap (aC 6 (os (ad (oV 0) (ad (oV 1) (ad (oV 2) (ad (oV 3) (ao))))) dw)) (bJ (os (ad (o2 (o2 (oV 6) (oC (.int 0)) ay) (oC (.int 2)) eJ) (ad (o2 (o2 (oV 6) (oC (.int 1)) ay) (oC (.int 2)) eJ) (ad (o2 (o2 (oV 6) (oC (.int 2)) ay) (oC (.int 2)) eJ) (ad (o2 (o2 (oV 6) (oC (.int 3)) ay) (oC (.int 2)) eJ) (ad (o2 (oV 4) (oC (.int 1)) bC) (ao)))))) bn)))))))))
def gy:List D->Option D:=aU qG 5 lF
abbrev fP:Stmt:=jb 7
abbrev lG:List Str:=["x","k","more","twos","a","b","c","d"]
noncomputable def fY:Sf:=ap (aC 2 (o2 (oV 1) (o2 (oV 0) (oC (.int 4)) ay) bC)) (ap (aC 3 (o2 (oV 2) (oC (.int 2)) eJ)) (ap (aC 4 (o2 (o2 (oV 0) (oC (.int 0)) ay) (oV 3) gF)) (ap (aC 5 (o2 (o2 (oV 0) (oC (.int 1)) ay) (oV 3) gF)) (ap (aC 6 (o2 (o2 (oV 0) (oC (.int 2)) ay) (oV 3) gF)) (ap (aC 7 (o2 (o2 (oV 0) (oC (.int 3)) ay) (oV 3) gF)) (ap (dF (ob (o2 (o2 (oV 2) (oC (.int 2)) bN) (oC (.int 1)) di)) (bJ (os (ad (oV 4) (ad (oV 5) (ad (oV 6) (ad (oV 7) (ao))))) dw)) (m6)) (bJ (os (ad (oV 4) (ad (oV 5) (ad (oV 6) (ad (oV 7) (ao))))) bn))))))))
def cD:List D->Option D:=aU lG 2 fY
abbrev kT:Stmt:=jb 8
abbrev vY:List Str:=["x","e","around"]
noncomputable def qw:Sf:=ap (aC 2 (os (ad (o2 (oV 0) (oC (.int 0)) ay) (ad (o2 (oV 0) (oC (.int 1)) ay) (ad (o2 (oV 0) (oC (.int 2)) ay) (ad (o2 (oV 0) (oC (.int 3)) ay) (ad (o1 (o2 (oV 0) (oC (.int 0)) ay) negD) (ad (o1 (o2 (oV 0) (oC (.int 1)) ay) negD) (ad (o1 (o2 (oV 0) (oC (.int 2)) ay) negD) (ad (o1 (o2 (oV 0) (oC (.int 3)) ay) negD) (ao))))))))) bn)) (bJ (os (ad (o2 (oV 2) (o2 (o2 (oC (.int 0)) (oV 1) bC) (oC (.int 8)) bN) ay) (ad (o2 (oV 2) (o2 (o2 (oC (.int 1)) (oV 1) bC) (oC (.int 8)) bN) ay) (ad (o2 (oV 2) (o2 (o2 (oC (.int 2)) (oV 1) bC) (oC (.int 8)) bN) ay) (ad (o2 (oV 2) (o2 (o2 (oC (.int 3)) (oV 1) bC) (oC (.int 8)) bN) ay) (ad (o2 (oV 0) (oC (.int 4)) ay) (ao)))))) bn))
def dL:List D->Option D:=aU vY 2 qw
abbrev io:Stmt:=jb 10
abbrev jV:List Str:=["wires","place"]
noncomputable def kj:Dv->Option D:=eN (oL (ad (oV 0) (ao)) bP) [(0,"wires"),(1,"place")] ut (o2 (o2 (oV 2) (o2 (o2 (oV 1) (oC (.int 1)) bC) (oV 0) bC) lU) (oC (.int 1)) xG)
def mI:Sf:=bJ (os (ad (kj) (ao)) iF)
def dX:List D->Option D:=aU jV 2 mI
abbrev gj:Stmt:=jb 12
abbrev kE:List Str:=["circuit"]
noncomputable def mN:Dv->Option D:=jj (oI (o2 (oV 0) (oC (.int 1)) ay) eA) [] ut (ob (o2 (o2 (oV 0) (oC (.int 0)) ay) (oC (.str "look")) di)) (oV 0)
def kA:Sf:=bJ (os (ad (mN) (ao)) fV)
def df:List D->Option D:=aU kE 1 kA
abbrev iM:Stmt:=jb 15
abbrev qE:List Str:=["bitset","bits","shared","value"]
def fB:Dv->Option Bool:=ob (o2 (oV 2) (oC (.int 0)) neD)
noncomputable def gW:Sf:=ap (aC 2 (o2 (oV 2) (o2 (oV 2) (oC (.int 1)) bC) xG)) (aC 3 (o2 (oC (.int 1)) (oV 3) bC))
noncomputable def ku:Sf:=ap (aC 2 (o2 (oV 0) (oV 1) xG)) (ap (aC 3 (oC (.int 0))) (ap (fun δ=>dD (fB) (gW) wN δ) (bJ (oV 3))))
def de:List D->Option D:=aU qE 2 ku
abbrev fE:Stmt:=jb 16
abbrev jB:List Str:=["turn","turns","pairs","by_set","pair","bitset","e"]
noncomputable def iS:Dv->Option D:=jj (oI (lf 3) eA) [] ut (ob (o2 (o2 (oV 0) (oC (.int 1)) ay) (oC (.int 0)) neD)) (oV 0)
noncomputable def cC:Sf:=ap (aC 5 (o2 (oV 4) (oC (.int 0)) ay)) (ap (aC 6 (o2 (oV 4) (oC (.int 1)) ay)) (ap (dF (ob (o2 (o2 (oV 5) (oC (.int 1)) xG) (oC (.int 1)) di)) (ap (aC 0 (o2 (oV 0) (oV 6) aR)) (ap (aC 5 (o2 (oV 5) (oC (.int 1)) uw)) (aC 6 (o1 (oV 6) negD)))) (m6)) (dF (ob (o2 (oV 5) (oC (.int 0)) neD)) (sW 3 (oV 5) (o2 (o2 (tL 3 (oV 5) (oC (.int 0))) (oV 6) aR) (oC (.int 8)) bN)) (m6))))
noncomputable def jw:Sf:=ap (wq 3 (oV 1)) (ap (lW (oI (oV 2) eA) (gN 4) (cC)) (bJ (os (ad (o2 (oV 0) (oC (.int 8)) bN) (ad (os (ad (iS) (ao)) iF) (ao))) bn)))
def cz:List D->Option D:=aU jB 3 jw
abbrev kU:Stmt:=jb 17
abbrev vZ:List Str:=["one","other"]
noncomputable def qA:Sf:=bJ (os (ad (os (ad (oV 0) (ad (oC (.int 2)) (ao))) bn) (ad (os (ad (oV 1) (ad (oC (.int 2)) (ao))) bn) (ad (os (ad (o2 (oV 0) (oV 1) uw) (ad (oC (.int 6)) (ao))) bn) (ao)))) gG)
def gu:List D->Option D:=aU vZ 2 qA
abbrev cJ:Stmt:=jb 18
abbrev fO:List Str:=["ties"]
noncomputable def dl:Dv->Option D:=jj (oI (o1 (oV 0) kN) eA) [] ut (ob (o2 (oV 0) (oC (.int 0)) neD)) (oV 0)
def fM:Sf:=bJ (os (ad (dl) (ao)) iF)
def bh:List D->Option D:=aU fO 1 fM
abbrev cn:Stmt:=iu (jb 19) 0
abbrev eV:List Str:=["self","wires","looks"]
noncomputable def er:Dv->Option D:=eN (oL (ad (oV 1) (ao)) bP) [] ut (o2 (oC (.int 1)) (o2 (oC (.int 1)) (oV 0) aR) gF)
noncomputable def eU:Sf:=ap (rN "Ways" "carried" (yA (er))) (ap (rN "Ways" "pairs" (yA (os (ao) gG))) (ap (rN "Ways" "ties" (yA (os (ao) gG))) (ap (rN "Ways" "hidden" (yA (os (ao) gG))) (ap (uZ "Ways" "first_mark" (o2 (o2 (oC (.int 2)) (oV 1) pC) (oC (.int 1)) aR)) (ap (uZ "Ways" "first_hidden" (o2 (o2 (o2 (oC (.int 2)) (oV 1) pC) (oC (.int 1)) aR) (oV 2) aR)) (uZ "Ways" "looked" (oC (.int 0))))))))
def gZ:List D->Option (List (Str×D)):=Ih "Ways" eV 3 eU
abbrev fT:Stmt:=iu (jb 19) 2
abbrev lK:List Str:=["self","one","other"]
def i7:Sf:=BD "Ways" 0 "pairs" (os (ad (oV 1) (ad (oV 2) (ao))) gu)
def be:List (Str×D)->List D->Option (List (Str×D)):=jX "Ways" lK 3 i7
abbrev e8:Stmt:=iu (jb 19) 3
abbrev j7:List Str:=["self","wire","bit"]
noncomputable def ia:Sf:=ap (uX 2 (o2 (o1 (oV 0) (eG "Ways" "first_hidden")) (os (ad (o1 (oV 0) (eG "Ways" "hidden")) (ao)) fV) aR)) (ap (uW "Ways" 0 "hidden" (oV 2)) (ap (dO "Ways" 0 "sign" (ad (o2 (o1 (oV 0) (eG "Ways" "carried")) (oV 1) ay) (ad (o2 (oC (.int 1)) (oV 2) gF) (ao))) be) (mM "Ways" 0 "carried" (oV 1) (o2 (oC (.int 1)) (oV 2) gF))))
def bY:List (Str×D)->List D->Option (List (Str×D)):=jX "Ways" j7 2 ia
abbrev fU:Stmt:=iu (jb 19) 1
abbrev lL:List Str:=["self","wire","bitset"]
noncomputable def i8:Sf:=mM "Ways" 0 "carried" (oV 1) (o2 (o2 (o1 (oV 0) (eG "Ways" "carried")) (oV 1) ay) (oV 2) uw)
def bq:List (Str×D)->List D->Option (List (Str×D)):=jX "Ways" lL 3 i8
abbrev e9:Stmt:=iu (jb 19) 4
abbrev j8:List Str:=["self","one","other","kept"]
noncomputable def ib:Sf:=ap (uX 3 (o2 (o1 (oV 0) (eG "Ways" "carried")) (oV 1) ay)) (ap (mM "Ways" 0 "carried" (oV 1) (o2 (o1 (oV 0) (eG "Ways" "carried")) (oV 2) ay)) (mM "Ways" 0 "carried" (oV 2) (oV 3)))
def bZ:List (Str×D)->List D->Option (List (Str×D)):=jX "Ways" j8 3 ib
abbrev iO:Stmt:=iu (jb 19) 8
abbrev qI:List Str:=["self","row"]
noncomputable def dj:Sf:=dF (ob (o2 (o2 (oV 1) (oC (.int 0)) ay) (oC (.str "swing")) di)) (dO "Ways" 0 "swing" (ad (o2 (oV 1) (oC (.int 1)) ay) (ao)) bY) (dF (ob (o2 (o2 (oV 1) (oC (.int 0)) ay) (oC (.str "turn")) di)) (uW "Ways" 0 "pairs" (os (ad (o2 (o1 (oV 0) (eG "Ways" "carried")) (o2 (oV 1) (oC (.int 1)) ay) ay) (ad (o2 (oV 1) (oC (.int 2)) ay) (ao))) bn)) (dF (ob (o2 (o2 (oV 1) (oC (.int 0)) ay) (oC (.str "flip")) di)) (dO "Ways" 0 "flip" (ad (o2 (oV 1) (oC (.int 1)) ay) (ad (oC (.int 1)) (ao))) bq) (dF (ob (o2 (o2 (oV 1) (oC (.int 0)) ay) (oC (.str "tie")) di)) (dO "Ways" 0 "flip" (ad (o2 (oV 1) (oC (.int 2)) ay) (ad (o2 (o1 (oV 0) (eG "Ways" "carried")) (o2 (oV 1) (oC (.int 1)) ay) ay) (ao))) bq) (dF (ob (o2 (o2 (oV 1) (oC (.int 0)) ay) (oC (.str "sign")) di)) (dO "Ways" 0 "sign" (ad (o2 (o1 (oV 0) (eG "Ways" "carried")) (o2 (oV 1) (oC (.int 1)) ay) ay) (ad (o2 (o1 (oV 0) (eG "Ways" "carried")) (o2 (oV 1) (oC (.int 2)) ay) ay) (ao))) be) (dF (ob (o2 (o2 (oV 1) (oC (.int 0)) ay) (oC (.str "cross")) di)) (dO "Ways" 0 "cross" (ad (o2 (oV 1) (oC (.int 1)) ay) (ad (o2 (oV 1) (oC (.int 2)) ay) (ao))) bZ) (dF (ob (o2 (o2 (oV 1) (oC (.int 0)) ay) (oC (.str "look")) di)) (Lf) (Lf)))))))
def aM:List (Str×D)->List D->Option (List (Str×D)):=jX "Ways" qI 2 dj
abbrev jg:Stmt:=jb 20
abbrev qF:List Str:=["circuit","wires","looks","ways","row","ends","both"]
noncomputable def mf:Dv->Option D:=eN (oL (ad (oV 1) (ao)) bP) [(1,"wires"),(3,"ways")] ut (o2 (o2 (o1 (oV 2) (eG "Ways" "carried")) (oV 0) ay) (o2 (oC (.int 1)) (o2 (o2 (oV 1) (oC (.int 1)) aR) (oV 0) aR) gF) uw)
def iq:Sf:=dO "Ways" 3 "go" (ad (oV 4) (ao)) aM
noncomputable def qz:Sf:=ap (aC 1 (o2 (oV 0) (oC (.int 0)) ay)) (ap (aC 2 (os (ad (oV 0) (ao)) df)) (Ie "Ways" 3 (ad (oV 1) (ad (oV 2) (ao))) gZ (BE 3 4 (oI (o2 (oV 0) (oC (.int 1)) ay) eA) (iq)) (ap (aC 5 (mf)) (ap (aC 6 (os (ad (oC (.int 0)) (ad (os (ao) bn) (ad (o1 (oV 3) (eG "Ways" "pairs")) (ao)))) cz)) (bJ (os (ad (os (ad (oV 1) (ad (oV 2) (ao))) bn) (ad (os (ad (o1 (oV 3) (eG "Ways" "hidden")) (ao)) fV) (ad (o2 (oV 6) (oC (.int 0)) ay) (ad (o2 (oV 6) (oC (.int 1)) ay) (ad (os (ad (o2 (o1 (oV 3) (eG "Ways" "ties")) (oV 5) aR) (ao)) bh) (ad (os (ad (o1 (oV 3) (eG "Ways" "hidden")) (ao)) iF) (ao))))))) bn))))))
def b6:List D->Option D:=aU qF 1 qz
abbrev gh:Stmt:=jb 21
abbrev kD:List Str:=["wires","begin","marks","end","bits"]
noncomputable def ji:Dv->Option D:=eN (oL (ad (os (ad (oV 4) (ao)) fV) (ao)) bP) [(4,"bits")] ut (o2 (o2 (oV 1) (oV 0) ay) (oV 0) gF)
noncomputable def kx:Sf:=ap (aC 4 (o2 (o2 (o2 (os (ad (oC (.int 1)) (ao)) bn) (os (ad (oV 0) (ad (oV 1) (ao))) dX) aR) (os (ad (oV 0) (ad (oV 3) (ao))) dX) aR) (oV 2) aR)) (bJ (os (ad (ji) (ao)) zK))
def b5:List D->Option D:=aU kD 4 kx
abbrev cV:Stmt:=jb 22
abbrev eL:List Str:=["bitset","hidden"]
noncomputable def fL:Dv->Option D:=eN (oL (ad (os (ad (oV 1) (ao)) fV) (ao)) bP) [(0,"bitset"),(1,"hidden")] ut (o2 (o2 (o2 (oV 1) (o2 (oV 2) (oV 0) ay) lU) (oC (.int 1)) xG) (oV 0) gF)
def gC:Sf:=bJ (os (ad (fL) (ao)) zK)
def bE:List D->Option D:=aU eL 2 gC
abbrev cM:Stmt:=jb 23
abbrev bW:List Str:=["weights","half","without","within","pairs"]
noncomputable def ef(G:List D->Option D):Dv->Option D:=eN (oI (oV 4) eA) [] ut (o2 (o2 (oV 0) (oC (.int 0)) ay) (o2 (oV 0) (oC (.int 1)) ay) aR)
noncomputable def d9(G:List D->Option D):Dv->Option D:=eN (oI (oV 4) eA) [] ut (o2 (o2 (oV 0) (oC (.int 0)) ay) (o2 (oV 0) (oC (.int 1)) ay) bC)
noncomputable def cf(G:List D->Option D):Sf:=ap (dF (ob (o2 (os (ad (oV 0) (ao)) fV) (oC (.int 1)) di)) (bJ (oV 0)) (m6)) (ap (aC 1 (o2 (os (ad (oV 0) (ao)) fV) (oC (.int 2)) eJ)) (ap (aC 2 (os (ad (IX (oV 0) (Li) (oP (oV 1))) (ao)) G)) (ap (aC 3 (os (ad (IX (oV 0) (oP (oV 1)) (Li)) (ao)) G)) (ap (aC 4 (Oi (ad (oV 2) (ad (oV 3) (ao))) uv)) (bJ (o2 (ef G) (d9 G) aR))))))
def bQ:Nat->List D->Option D
 | 0=>aU bW 1 (fun _=>none)
 |m+1=>aU bW 1 (cf (bQ m))
def fw:List D->Option D:=bQ 14
abbrev fC:Stmt:=jb 24
abbrev jz:List Str:=["pairs","told","hidden","fixed","weights","pair","place","apart"]
noncomputable def iR:Dv->Option D:=eN (oI (oV 7) eA) [(3,"fixed"),(7,"apart")] ut (o2 (oV 1) (o2 (o2 (o2 (oV 2) (oC (.int 0)) ay) (oV 0) bC) (oC (.int 2)) eJ) aR)
noncomputable def cB:Sf:=ap (aC 6 (os (ad (o2 (oV 5) (oC (.int 0)) ay) (ad (oV 2) (ao))) bE)) (dF (ob (o2 (os (ad (o2 (oV 5) (oC (.int 0)) ay) (ad (oV 1) (ao))) de) (oC (.int 0)) di)) (zU 4 (oV 6) (o2 (fJ 4 (oV 6)) (o2 (oV 5) (oC (.int 1)) ay) aR)) (ap (aC 3 (o2 (oV 3) (o2 (oV 5) (oC (.int 1)) ay) aR)) (zU 4 (oV 6) (o2 (fJ 4 (oV 6)) (o2 (oV 5) (oC (.int 1)) ay) bC))))
noncomputable def ju:Sf:=ap (aC 3 (oC (.int 0))) (ap (rM 4 (yA (o2 (os (ad (oC (.int 0)) (ao)) gG) (o2 (oC (.int 1)) (os (ad (oV 2) (ao)) fV) gF) ni))) (ap (lW (oI (oV 0) eA) (gN 5) (cB)) (ap (fun δ=>(aC 7 (os (ad (oV 4) (ao)) fw)) (Hy 4 δ)) (bJ (iR)))))
def bc:List D->Option D:=aU jz 3 ju
abbrev gM:Stmt:=jb 25
abbrev mW:List Str:=["x","halves"]
noncomputable def g9:Sf:=ap (dF (ob (o2 (oV 1) (oC (.int 0)) Hl)) (bJ (o2 (os (ad (oV 0) (ad (o1 (oV 1) negD) (ao))) cD) (os (ad (oC (.int 0)) (ao)) bn) aR)) (m6)) (bJ (os (ad (o2 (oV 0) (oC (.int 0)) ay) (ad (o2 (oV 0) (oC (.int 1)) ay) (ad (o2 (oV 0) (oC (.int 2)) ay) (ad (o2 (oV 0) (oC (.int 3)) ay) (ad (oV 1) (ao)))))) gy))
def bT:List D->Option D:=aU mW 2 g9
abbrev fD:Stmt:=jb 26
abbrev jA:List Str:=["one","begin","marks","end","hidden","told","turns","broken","ways","k","x"]
noncomputable def dq:Dv->Option D:=eN (oI (o2 (oV 0) (oC (.int 4)) ay) eA) [] ut (os (ad (oV 0) (ad (oC (.int 1)) (ao))) bn)
noncomputable def bO:Sf:=dF (ob (o2 (o2 (oV 7) (oV 9) ay) (oC (.int 0)) di)) (zU 8 (o2 (o2 (oV 6) (oV 9) ay) (oC (.int 8)) bN) (o2 (fJ 8 (o2 (o2 (oV 6) (oV 9) ay) (oC (.int 8)) bN)) (oC (.int 1)) aR)) (m6)
noncomputable def jv:Sf:=ap (aC 4 (o2 (oV 0) (oC (.int 5)) ay)) (ap (dF (ob (o2 (os (ad (oV 4) (ao)) fV) (oC (.int 12)) Ln)) (Lf) (m6)) (ap (aC 5 (os (ad (o2 (o2 (oV 0) (oC (.int 0)) ay) (oC (.int 0)) ay) (ad (oV 1) (ad (oV 2) (ad (oV 3) (ao))))) b5)) (ap (aC 6 (os (ad (o2 (oV 0) (oC (.int 3)) ay) (ad (oV 5) (ad (oV 4) (ao)))) bc)) (ap (aC 7 (os (ad (dq) (ad (oV 5) (ad (oV 4) (ao)))) bc)) (ap (rM 8 (yA (o2 (os (ad (oC (.int 0)) (ao)) gG) (oC (.int 8)) ni))) (ap (lW (oL (ad (os (ad (oV 6) (ao)) fV) (ao)) bP) (gN 9) (bO)) (ap (aC 10 (os (ad (o2 (fJ 8 (oC (.int 0))) (fJ 8 (oC (.int 4))) bC) (ad (o2 (fJ 8 (oC (.int 1))) (fJ 8 (oC (.int 5))) bC) (ad (o2 (fJ 8 (oC (.int 2))) (fJ 8 (oC (.int 6))) bC) (ad (o2 (fJ 8 (oC (.int 3))) (fJ 8 (oC (.int 7))) bC) (ad (oC (.int 0)) (ao)))))) bn)) (bJ (os (ad (os (ad (oV 10) (ad (o2 (oV 0) (oC (.int 2)) ay) (ao))) dL) (ad (o2 (oV 0) (oC (.int 1)) ay) (ao))) bT)))))))))
def aT:List D->Option D:=aU jA 4 jv
abbrev d8:Stmt:=jb 28
abbrev jE:List Str:=["script","k"]
noncomputable def eK:Sf:=ap (dF (ob (o2 (oV 1) (os (ad (oV 0) (ao)) fV) Hl)) (bJ (o2 (oV 0) (oV 1) ay)) (m6)) (bJ (oC (.int 0)))
def bg:List D->Option D:=aU jE 2 eK
abbrev fR:Stmt:=jb 29
abbrev lI:List Str:=["cell"]
noncomputable def i5:Sf:=bJ (o2 (o2 (o2 (o2 (oV 0) (o2 (oC (.int 10)) (oC (.int 60)) zV) bN) (oC (.int 48271)) pC) (oC (.int 12345)) aR) (oC (.int 2147483629)) bN)
def bA:List D->Option D:=aU lI 1 i5
abbrev fQ:Stmt:=jb 30
abbrev lH:List Str:=["found"]
def i0:Sf:=bJ (Co (o1 (oV 0) (jY "int")) (o1 (o1 (oV 0) (jY "bool")) Fz))
def cE:List D->Option D:=aU lH 1 i0
abbrev fS:Stmt:=jb 31
abbrev lJ:List Str:=["x"]
noncomputable def cL:Dv->Option Bool:=vk (ob (o2 (o2 (oV 0) (oC (.int 4)) ay) (oC (.int 0)) Ln)) (vk (ob (o2 (o2 (o2 (o2 (oV 0) (oC (.int 0)) ay) (o2 (oV 0) (oC (.int 2)) ay) aR) (oC (.int 2)) bN) (oC (.int 0)) di)) (ob (o2 (o2 (o2 (o2 (oV 0) (oC (.int 1)) ay) (o2 (oV 0) (oC (.int 3)) ay) aR) (oC (.int 2)) bN) (oC (.int 0)) di)))
noncomputable def hJ:Sf:=aC 0 (os (ad (o2 (o2 (o2 (oV 0) (oC (.int 1)) ay) (o2 (oV 0) (oC (.int 3)) ay) bC) (oC (.int 2)) eJ) (ad (o2 (o2 (o2 (oV 0) (oC (.int 0)) ay) (o2 (oV 0) (oC (.int 2)) ay) aR) (oC (.int 2)) eJ) (ad (o2 (o2 (o2 (oV 0) (oC (.int 1)) ay) (o2 (oV 0) (oC (.int 3)) ay) aR) (oC (.int 2)) eJ) (ad (o2 (o2 (o2 (oV 0) (oC (.int 2)) ay) (o2 (oV 0) (oC (.int 0)) ay) bC) (oC (.int 2)) eJ) (ad (o2 (o2 (oV 0) (oC (.int 4)) ay) (oC (.int 1)) bC) (ao)))))) bn)
def i6:Sf:=ap (fun δ=>dD (cL) (hJ) wN δ) (bJ (oV 0))
def bB:List D->Option D:=aU lJ 1 i6
abbrev iN:Stmt:=jb 32
abbrev qH:List Str:=["x","y"]
noncomputable def dR:Dv->Option Bool:=ob (o2 (o2 (oV 0) (oC (.int 4)) ay) (o2 (oV 1) (oC (.int 4)) ay) Hl)
noncomputable def fA:Dv->Option Bool:=ob (o2 (o2 (oV 1) (oC (.int 4)) ay) (o2 (oV 0) (oC (.int 4)) ay) Hl)
noncomputable def gX:Sf:=aC 0 (os (ad (o2 (o2 (oV 0) (oC (.int 1)) ay) (o2 (oV 0) (oC (.int 3)) ay) bC) (ad (o2 (o2 (oV 0) (oC (.int 0)) ay) (o2 (oV 0) (oC (.int 2)) ay) aR) (ad (o2 (o2 (oV 0) (oC (.int 1)) ay) (o2 (oV 0) (oC (.int 3)) ay) aR) (ad (o2 (o2 (oV 0) (oC (.int 2)) ay) (o2 (oV 0) (oC (.int 0)) ay) bC) (ad (o2 (o2 (oV 0) (oC (.int 4)) ay) (oC (.int 1)) aR) (ao)))))) bn)
noncomputable def gU:Sf:=aC 1 (os (ad (o2 (o2 (oV 1) (oC (.int 1)) ay) (o2 (oV 1) (oC (.int 3)) ay) bC) (ad (o2 (o2 (oV 1) (oC (.int 0)) ay) (o2 (oV 1) (oC (.int 2)) ay) aR) (ad (o2 (o2 (oV 1) (oC (.int 1)) ay) (o2 (oV 1) (oC (.int 3)) ay) aR) (ad (o2 (o2 (oV 1) (oC (.int 2)) ay) (o2 (oV 1) (oC (.int 0)) ay) bC) (ad (o2 (o2 (oV 1) (oC (.int 4)) ay) (oC (.int 1)) aR) (ao)))))) bn)
noncomputable def kB:Sf:=ap (fun δ=>dD (dR) (gX) wN δ) (ap (fun δ=>dD (fA) (gU) wN δ) (bJ (os (ad (os (ad (o2 (o2 (oV 0) (oC (.int 0)) ay) (o2 (oV 1) (oC (.int 0)) ay) aR) (ad (o2 (o2 (oV 0) (oC (.int 1)) ay) (o2 (oV 1) (oC (.int 1)) ay) aR) (ad (o2 (o2 (oV 0) (oC (.int 2)) ay) (o2 (oV 1) (oC (.int 2)) ay) aR) (ad (o2 (o2 (oV 0) (oC (.int 3)) ay) (o2 (oV 1) (oC (.int 3)) ay) aR) (ad (o2 (oV 0) (oC (.int 4)) ay) (ao)))))) bn) (ao)) bB)))
def cF:List D->Option D:=aU qH 2 kB
abbrev d7:Stmt:=jb 33
abbrev jD:List Str:=["x","y","parts","i","j"]
noncomputable def aY:Sf:=dF (ob (o2 (o2 (oV 3) (oV 4) aR) (oC (.int 4)) Hl)) (zU 2 (o2 (oV 3) (oV 4) aR) (o2 (fJ 2 (o2 (oV 3) (oV 4) aR)) (o2 (o2 (oV 0) (oV 3) ay) (o2 (oV 1) (oV 4) ay) pC) aR)) (zU 2 (o2 (o2 (oV 3) (oV 4) aR) (oC (.int 4)) bC) (o2 (fJ 2 (o2 (o2 (oV 3) (oV 4) aR) (oC (.int 4)) bC)) (o2 (o2 (oV 0) (oV 3) ay) (o2 (oV 1) (oV 4) ay) pC) bC))
def cK:Sf:=lW (oL (ad (oC (.int 4)) (ao)) bP) (gN 4) (aY)
noncomputable def gE:Sf:=ap (Id 2 (ad (oC (.int 0)) (ad (oC (.int 0)) (ad (oC (.int 0)) (ad (oC (.int 0)) (ao)))))) (ap (lW (oL (ad (oC (.int 4)) (ao)) bP) (gN 3) (cK)) (bJ (os (ad (os (ad (fJ 2 (oC (.int 0))) (ad (fJ 2 (oC (.int 1))) (ad (fJ 2 (oC (.int 2))) (ad (fJ 2 (oC (.int 3))) (ad (o2 (o2 (oV 0) (oC (.int 4)) ay) (o2 (oV 1) (oC (.int 4)) ay) aR) (ao)))))) bn) (ao)) bB)))
def bF:List D->Option D:=aU jD 2 gE
abbrev eY:Stmt:=jb 34
abbrev j5:List Str:=["cell","wires","turn","first","e","kind","second"]
noncomputable def cg:Sf:=ap (aC 2 (os (ad (oV 0) (ao)) bA)) (ap (aC 3 (o2 (o2 (oV 2) (oC (.int 6)) eJ) (oV 1) bN)) (ap (aC 4 (o2 (oC (.int 1)) (o2 (o2 (oV 2) (oC (.int 300)) eJ) (oC (.int 7)) bN) aR)) (ap (aC 5 (o2 (oV 2) (oC (.int 6)) bN)) (ap (dF (ob (o2 (oV 1) (oC (.int 1)) di)) (bJ (o2 (os (ad (os (ad (oC (.str "swing")) (ad (oC (.int 0)) (ao))) bn) (ad (os (ad (oC (.str "turn")) (ad (oC (.int 0)) (ad (oV 4) (ao)))) bn) (ad (os (ad (oC (.str "flip")) (ad (oC (.int 0)) (ao))) bn) (ao)))) gG) (o2 (oV 5) (oC (.int 3)) bN) ay)) (m6)) (ap (aC 6 (o2 (o2 (o2 (oV 3) (oC (.int 1)) aR) (o2 (o2 (oV 2) (oC (.int 60)) eJ) (o2 (oV 1) (oC (.int 1)) bC) bN) aR) (oV 1) bN)) (ap (dF (ob (o2 (oV 5) (oC (.int 0)) di)) (bJ (os (ad (oC (.str "swing")) (ad (oV 3) (ao))) bn)) (m6)) (ap (dF (ob (o2 (oV 5) (oC (.int 1)) di)) (bJ (os (ad (oC (.str "turn")) (ad (oV 3) (ad (oV 4) (ao)))) bn)) (m6)) (ap (dF (ob (o2 (oV 5) (oC (.int 2)) di)) (bJ (os (ad (oC (.str "flip")) (ad (oV 3) (ao))) bn)) (m6)) (bJ (os (ad (o2 (os (ad (oC (.str "tie")) (ad (oC (.str "sign")) (ad (oC (.str "cross")) (ao)))) gG) (o2 (oV 5) (oC (.int 3)) bC) ay) (ad (oV 3) (ad (oV 6) (ao)))) bn))))))))))
def aG:List D->Option D:=aU j5 2 cg
abbrev d6:Stmt:=jb 35
abbrev jC:List Str:=["cells","wires","swings","looks","rows","known","cell","row","turn","j"]
noncomputable def aS:Sf:=ap (aC 7 (os (ad (oV 6) (ad (oV 1) (ao))) aG)) (ap (aC 8 (o2 (os (ad (oV 6) (ao)) bA) (oC (.int 3000)) eJ)) (ap (dF (vk (ob (o2 (o2 (oV 8) (oC (.int 6)) bN) (oC (.int 1)) di)) (ob (o2 (oV 5) (oV 3) Hl))) (ap (aC 7 (os (ad (oC (.str "look")) (ad (o2 (o2 (oV 8) (oC (.int 6)) eJ) (oV 1) bN) (ao))) bn)) (aC 5 (o2 (oV 5) (oC (.int 1)) aR))) (dF (vk (ob (o2 (o2 (oV 8) (oC (.int 6)) bN) (oC (.int 2)) di)) (ob (o2 (oV 5) (oC (.int 0)) Ln))) (ap (aC 9 (o2 (o2 (oV 8) (oC (.int 6)) eJ) (oV 1) bN)) (aC 7 (os (ad (oC (.str "where")) (ad (o2 (o2 (oV 8) (oC (.int 24)) eJ) (oV 5) bN) (ad (o2 (os (ad (os (ad (oC (.str "flip")) (ad (oV 9) (ao))) bn) (ad (os (ad (oC (.str "turn")) (ad (oV 9) (ad (oC (.int 4)) (ao)))) bn) (ao))) gG) (o2 (o2 (oV 8) (oC (.int 12)) eJ) (oC (.int 2)) bN) ay) (ao)))) bn))) (dF (ob (o2 (o2 (oV 7) (oC (.int 0)) ay) (oC (.str "swing")) di)) (ap (aC 2 (o2 (oV 2) (oC (.int 1)) bC)) (dF (ob (o2 (oV 2) (oC (.int 0)) Hl)) (aC 7 (os (ad (oC (.str "turn")) (ad (o2 (oV 7) (oC (.int 1)) ay) (ad (o2 (oC (.int 1)) (o2 (oV 8) (oC (.int 7)) bN) aR) (ao)))) bn)) (m6))) (m6)))) (LY 4 (oV 7))))
noncomputable def gD:Sf:=ap (Id 4 (ao)) (ap (aC 5 (oC (.int 0))) (ap (lW (oI (oV 0) eA) (gN 6) (aS)) (fun δ=>(bJ (os (ad (oV 4) (ao)) iF)) (Hy 4 δ))))
def bf:List D->Option D:=aU jC 4 gD
abbrev dE:Stmt:=jb 36
abbrev ic:List Str:=["x"]
def gq:Dv->Option D:=jj (oI (oV 0) eA) [] ut (tK (ob (os (ad (oV 0) (ao)) cE))) (oV 0)
noncomputable def h7:Sf:=ap (dF (Af (tK (ob (o1 (oV 0) (jY "tuple")))) (Af (ob (o2 (os (ad (oV 0) (ao)) fV) (oC (.int 5)) neD)) (ob (o2 (os (ad (gq) (ao)) fV) (oC (.int 0)) Ln)))) (bJ (oC (.bool false))) (m6)) (bJ (Co (o2 (oC (.int 0)) (o2 (oV 0) (oC (.int 4)) ay) Oz) (o2 (o2 (oV 0) (oC (.int 4)) ay) (oC (.int 100)) Oz)))
def aZ:List D->Option D:=aU ic 1 h7
abbrev gP:Stmt:=jb 37
abbrev mX:List Str:=["rows","made","row"]
noncomputable def ez:Sf:=ap (dF (ob (o2 (o2 (oV 2) (oC (.int 0)) ay) (oC (.str "turn")) di)) (aC 2 (os (ad (oC (.str "turn")) (ad (o2 (oV 2) (oC (.int 1)) ay) (ad (o2 (oC (.int 8)) (o2 (oV 2) (oC (.int 2)) ay) bC) (ao)))) bn)) (m6)) (aC 1 (o2 (os (ad (oV 2) (ao)) gG) (oV 1) aR))
noncomputable def jx:Sf:=ap (aC 1 (os (ao) gG)) (ap (lW (oI (oV 0) eA) (gN 2) (ez)) (bJ (os (ad (oV 1) (ao)) iF)))
def dg:List D->Option D:=aU mX 1 jx
abbrev eZ:Stmt:=jb 38
abbrev j6:List Str:=["x"]
noncomputable def h6:Sf:=bJ (os (ad (o2 (oV 0) (oC (.int 0)) ay) (ad (o2 (oC (.int 0)) (o2 (oV 0) (oC (.int 3)) ay) bC) (ad (o2 (oC (.int 0)) (o2 (oV 0) (oC (.int 2)) ay) bC) (ad (o2 (oC (.int 0)) (o2 (oV 0) (oC (.int 1)) ay) bC) (ad (o2 (oV 0) (oC (.int 4)) ay) (ao)))))) bn)
def cb:List D->Option D:=aU j6 1 h6
abbrev j3:Stmt:=jb 39
abbrev v1:List Str:=["script","wires","head","begin","cells","cut","first","second","one","other","both","back","size","ahead","end","found","due","place","step"]
noncomputable def wE:Dv->Option D:=eN (oL (ad (oV 12) (ao)) bP) [(3,"begin"),(8,"one")] ut (os (ad (oV 2) (ad (oV 1) (ad (os (ao) bn) (ad (oV 0) (ao))))) aT)
noncomputable def mm:Sf:=ap (aC 18 (os (ad (oV 9) (ad (oV 17) (ad (os (ao) bn) (ad (oV 14) (ao))))) aT)) (ap (dF (Af (tK (ob (os (ad (oV 18) (ao)) aZ))) (tK (ob (os (ad (o2 (oV 13) (oV 17) ay) (ao)) aZ)))) (bJ (oC (.bool false))) (m6)) (aC 16 (os (ad (oV 16) (ad (os (ad (o2 (oV 13) (oV 17) ay) (ad (oV 18) (ao))) bF) (ao))) cF)))
noncomputable def pK:Sf:=ap (aC 15 (os (ad (oV 10) (ad (oV 3) (ad (os (ao) bn) (ad (oV 14) (ao))))) aT)) (ap (aC 16 (os (ad (oC (.int 0)) (ad (oC (.int 0)) (ad (oC (.int 0)) (ad (oC (.int 0)) (ad (oC (.int 0)) (ao)))))) bn)) (ap (lW (oL (ad (oV 12) (ao)) bP) (gN 17) (mm)) (ap (dF (Af (tK (ob (os (ad (oV 15) (ao)) aZ))) (ob (o2 (oV 15) (oV 16) neD))) (bJ (oC (.bool false))) (m6)) (dF (ob (o2 (os (ad (oV 11) (ad (oV 14) (ad (os (ao) bn) (ad (oV 3) (ao))))) aT) (os (ad (oV 16) (ao)) cb) neD)) (bJ (oC (.bool false))) (m6)))))
noncomputable def zq:Sf:=ap (aC 1 (o2 (oC (.int 1)) (o2 (os (ad (oV 0) (ad (oC (.int 0)) (ao))) bg) (oC (.int 2)) bN) aR)) (ap (aC 2 (o2 (os (ad (oV 0) (ad (oC (.int 1)) (ao))) bg) (o2 (oC (.int 10)) (oC (.int 9)) zV) bN)) (ap (aC 3 (o2 (oV 2) (o2 (oC (.int 1)) (oV 1) gF) bN)) (ap (aC 4 (IX (oV 0) (oP (oC (.int 2))) (oP (oC (.int 60))))) (ap (aC 5 (o2 (o2 (oV 2) (oC (.int 4)) eJ) (o2 (os (ad (oV 4) (ao)) fV) (oC (.int 1)) aR) bN)) (ap (aC 6 (os (ad (IX (oV 4) (Li) (oP (oV 5))) (ad (oV 1) (ad (oC (.int 3)) (ad (oC (.int 0)) (ao))))) bf)) (ap (aC 7 (os (ad (IX (oV 4) (oP (oV 5)) (Li)) (ad (oV 1) (ad (oC (.int 3)) (ad (oC (.int 0)) (ao))))) bf)) (ap (aC 8 (os (ad (os (ad (oV 1) (ad (oV 6) (ao))) bn) (ao)) b6)) (ap (aC 9 (os (ad (os (ad (oV 1) (ad (oV 7) (ao))) bn) (ao)) b6)) (ap (aC 10 (os (ad (os (ad (oV 1) (ad (o2 (oV 6) (oV 7) aR) (ao))) bn) (ao)) b6)) (ap (aC 11 (os (ad (os (ad (oV 1) (ad (os (ad (o2 (oV 6) (oV 7) aR) (ao)) dg) (ao))) bn) (ao)) b6)) (ap (aC 12 (o2 (oC (.int 1)) (oV 1) gF)) (ap (aC 13 (wE)) (ap (lW (oL (ad (oV 12) (ao)) bP) (gN 14) (pK)) (bJ (oC (.bool true))))))))))))))))
def yT:List D->Option D:=aU v1 1 zq
theorem jk{s t:Sf}{δ δ':Dv}(h:s δ = some (.nx,δ')):ap s t δ = t δ':=by simp only[ap,h,Option.bind_some]
theorem On{s t:Sf}{δ δ':Dv}{d:D}(h:s δ = some (.rt d,δ')):ap s t δ = some (.rt d,δ'):=by simp only[ap,h,Option.bind_some]
theorem Cr{N:List Str}{n:Nat}{b:Sf}{as:List D}{d:D}{δ':Dv}(hl:as.length=n)(h:b (av N as)=some (.rt d,δ')):aU N n b as=some d:=by unfold aU;rw[if_pos hl,h];rfl
theorem Hf{f g:Dv->Option Bool}{δ:Dv}(h:f δ = some true):Af f g δ = some true:=by unfold Af;rw[h];rfl
theorem yz{f g:Dv->Option Bool}{δ:Dv}(h:f δ = some false):Af f g δ = g δ:=by unfold Af;rw[h];rfl
theorem LV{t:Dv->Option Bool}{u w:Sf}{δ:Dv}(h:t δ = some true):dF t u w δ = u δ:=by unfold dF;rw[h];rfl
theorem LW{t:Dv->Option Bool}{u w:Sf}{δ:Dv}(h:t δ = some false):dF t u w δ = w δ:=by unfold dF;rw[h];rfl
theorem uJ(g:Nat->Nat)(l:List Nat):(l.map fun p=>((g p:Nat):Int)).sum=((l.map g).sum:Nat):=by
 induction l with
 |nil=>rfl
 |cons x l ih=>rw[map_cons,map_cons,sum_cons,sum_cons,ih];omega
theorem KQ(a:Nat):Builtin.bitAnd (a:Int) 1=((a%2:Nat):Int):=by
 have:=MA.GK a 1;rw[show((1:Nat):Int)=1 from rfl]at this;rw[this,Nat.and_one_is_mod]
theorem yg(a h:Nat):lU (.int (a:Int)) (.int (h:Int))=some (.int ((a/2^h:Nat):Int)):=by
 rw[BB (by omega),toNat_natCast];congr 2
theorem nT{a:Nat}(k:Nat)(ha:a<2^100000)(hk:k<=100000):gF (.int (a:Int)) (.int (k:Int))=some (.int ((a*2^k:Nat):Int)):=by
 have hb:(a:Int).natAbs<2^100000:=by rw[Int.natAbs_natCast];exact ha
 have:=MA.lD hb;rw[uQ (by omega) (by omega),toNat_natCast];congr 2
theorem jJ{a:Nat}(h:a<2^64):a<2^100000:=lt_of_lt_of_le h (pow_le_pow_right (by decide) (by decide))
def az(hs:List Nat):List D:=hs.map fun h=>.int ((h:Nat):Int)
theorem cP(hs:List Nat):(az hs).length=hs.length:=by simp[az]
theorem pA(hs:List Nat){k:Nat}(h:k<hs.length):fZ (az hs) (k:Int)=some (.int (hs.getD k 0:Nat)):=by
 refine fN rfl ?_;unfold az;rw[getElem?_map,getD_eq_getElem?_getD,getElem?_eq_getElem h];rfl
theorem EH{n:Nat}(hn:n<=16777216):bP [.int (n:Int)]=some ((List.range n).map fun k:Nat=>PyData.int (0+(k:Int))):=rP (j:=(n:Int)) (by omega) (by omega)
theorem Hg{fs:Dv->Option (List D)}{g:List D->Option (List D)}{δ:Dv}{ds r:List D}(h:fs δ = some ds)(h2:g ds=some r):oL fs g δ = some r:=by unfold oL;rw[h];exact h2
theorem Fu{δ:Dv}{i:Nat}{xs:List D}(e:Lc δ[i]? = some (.list xs)):(oI (oV i) eA) δ = some xs:=by unfold oI oV;rw[e];rfl
theorem Ka{δ:Dv}{i n:Nat}{H:List D}(e:Lc δ[i]? = some (.tuple H))(hl:H.length=n):(ad (VL.os (ad (oV i) ao) fV) ao) δ = some [.int (n:Int)]:=by
 subst hl;simp only[ad,VL.os,oV,ao,e,Option.bind_some,wU]
theorem yn{δ:Dv}{i n:Nat}{H:List D}(e:Lc δ[i]? = some (.tuple H))(hl:H.length=n)(hn:n<=100000):(oL (ad (VL.os (ad (oV i) ao) fV) ao) bP) δ = some ((List.range n).map fun k:Nat=>PyData.int (0+(k:Int))):=
 Hg (Ka e hl) (EH (by omega))
def m7(p:Nat×Int):D:=.tuple [.int p.1,.int p.2]
theorem CO{n q:Nat}(h:q<n):vC n (q:Int)=some q:=by
 unfold vC;rw[if_pos (by omega),if_pos (by omega)];simp
theorem kX{k:Nat}(hk:k<=100000):gF (.int 1) (.int (k:Int))=some (.int ((2^k:Nat):Int)):=by
 have:=nT (a:=1) k (jJ (by decide)) hk;rw[one_mul]at this;exact this
theorem rX(a b:List Nat):az (a++b)=az a++az b:=by simp[az]
theorem Db{hs:List Nat}{i:Nat}(hi:i<hs.length):hs.getD i 0∈hs:=by
 rw[getD_eq_getElem?_getD,getElem?_eq_getElem hi];exact List.getElem_mem hi
noncomputable def kl(w l:Nat)(hv:Int)(c:Nat)(ps:List (Nat×Int))(ts hs:List Nat):D:=.tuple [.tuple [.int w,.int l],.int hv,.int c,.tuple (ps.map m7),.tuple (az ts),.tuple (az hs)]
theorem Mn(w l:Nat)(hv:Int)(c:Nat)(ps:List (Nat×Int))(ts hs:List Nat):ay (kl w l hv c ps ts hs) (.int 0)=some (.tuple [.int w,.int l]):=rfl
theorem Mm(w l:Nat)(hv:Int)(c:Nat)(ps:List (Nat×Int))(ts hs:List Nat):ay (kl w l hv c ps ts hs) (.int 1)=some (.int hv):=rfl
theorem Ml(w l:Nat)(hv:Int)(c:Nat)(ps:List (Nat×Int))(ts hs:List Nat):ay (kl w l hv c ps ts hs) (.int 2)=some (.int c):=rfl
theorem He(w l:Nat)(hv:Int)(c:Nat)(ps:List (Nat×Int))(ts hs:List Nat):ay (kl w l hv c ps ts hs) (.int 3)=some (.tuple (ps.map m7)):=rfl
theorem Hc(w l:Nat)(hv:Int)(c:Nat)(ps:List (Nat×Int))(ts hs:List Nat):ay (kl w l hv c ps ts hs) (.int 4)=some (.tuple (az ts)):=rfl
theorem Mj(w l:Nat)(hv:Int)(c:Nat)(ps:List (Nat×Int))(ts hs:List Nat):ay (kl w l hv c ps ts hs) (.int 5)=some (.tuple (az hs)):=rfl
theorem vt{α:Type}{f:D->Option D}{h k:α -> D}:∀(xs:List α),(∀x∈xs,f (h x)=some (k x))->Ap f (xs.map h)=some (xs.map k)
 |[],_=>rfl
 |x::xs,H=>by
  show((f (h x)).bind fun y=>_)=_
  rw[H x mem_cons_self];show((Ap f (xs.map h)).bind fun ys=>_)=_
  rw[vt xs fun y hy=>H y (mem_cons_of_mem _ hy)]
  rfl
theorem vJ{α:Type}{t:D->Option Bool}{f:D->Option D}{h k:α -> D}{b:α -> Bool}:∀(xs:List α),(∀x∈xs,t (h x)=some (b x))->(∀x∈xs,b x=true->f (h x)=some (k x))->iW t f (xs.map h)=some ((xs.filter b).map k)
 |[],_,_=>rfl
 |x::xs,H,G=>by
  have ih:=vJ (k:=k) xs (fun y hy=>H y (mem_cons_of_mem _ hy)) (fun y hy=>G y (mem_cons_of_mem _ hy))
  show((t (h x)).bind fun c=>_)=_
  rw[H x mem_cons_self,Option.bind_some];cases e:b x with
  |false=>simp[e,ih]
  |true=>simp[e,ih,G x mem_cons_self e]
theorem js{α:Type}{fi:Dv->Option (List D)}{caps:List (Nat×Str)}{fe:Dv->Option D}{δ:Dv}{h k:α -> D}{xs:List α}(e:fi δ = some (xs.map h))(hl:xs.length<=16777216)(H:∀x∈xs,fe (.fz (h x)::eM δ caps)=some (k x)):eN fi caps ut fe δ = some (.list (xs.map k)):=by
 unfold eN;rw[e,Option.bind_some,if_pos (by rw[length_map];exact hl),vt xs (k:=k) fun x hx=>by
  show fe _=_;exact H x hx]
 rfl
theorem jR{α:Type}{fi:Dv->Option (List D)}{caps:List (Nat×Str)}{ft:Dv->Option Bool}{fe:Dv->Option D}{δ:Dv}{h k:α -> D}{b:α -> Bool}{xs:List α}(e:fi δ = some (xs.map h))(hl:xs.length<=16777216)(H:∀x∈xs,ft (.fz (h x)::eM δ caps)=some (b x))(G:∀x∈xs,b x=true->fe (.fz (h x)::eM δ caps)=some (k x)):jj fi caps ut ft fe δ = some (.list ((xs.filter b).map k)):=by
 unfold jj;rw[e,Option.bind_some,if_pos (by rw[length_map];exact hl),vJ xs (b:=b) (k:=k) (fun x hx=>by
  show ft _=_;exact H x hx) (fun x hx hb=>by
  show fe _=_;exact G x hx hb)]
 rfl
theorem jQ{fi:Dv->Option (List D)}{caps:List (Nat×Str)}{fe:Dv->Option D}{δ:Dv}{N:Nat}{y:Nat->D}(e:fi δ = some ((List.range N).map fun k:Nat=>PyData.int (0+(k:Int))))(hl:N<=16777216)(H:∀p:Nat,p<N->fe (.fz (.int p)::eM δ caps)=some (y p)):eN fi caps ut fe δ = some (.list ((List.range N).map y)):=by
 refine js e (by rw[length_range];exact hl) fun p hp=>?_
 rw[Int.zero_add];exact H p (List.mem_range.mp hp)
theorem pF{b:Sf}{k:Nat}(I:Nat->Dv->Prop)(n:Nat)(h:∀i,i<n->∀ δ,I i δ -> ∃ δ2,b (δ.set k (.fz (.int i)))=some (.nx,δ2)/\I (i+1) δ2):∀ δ,I 0 δ -> ∃ δ',loop (gN k) b (oR 0 n) δ = some (.nx,δ')/\I n δ':=by
 have go:∀(m i:Nat),i+m=n->∀ δ,I i δ -> ∃ δ',loop (gN k) b ((List.range' i m).map fun(k:Nat)=>PyData.int (0+(k:Int))) δ = some (.nx,δ')/\I n δ':=by
  intro m
  induction m with
  |zero=>intro i e δ h;exact⟨δ,rfl,by rw[<-e];exact h⟩
  |succ m ih=>
   intro i e δ hi;obtain⟨δ2,e2,h2⟩:=h i (by omega) δ hi;obtain⟨δ',e3,h3⟩:=ih (i+1) (by omega) δ2 h2;refine⟨δ',?_,h3⟩;rw[<-e3,List.range'_succ,map_cons];exact aE (δ1:=δ.set k (.fz (.int i))) (by simp) e2
 intro δ h0;have:=go n 0 (by omega) δ h0;rw[<-List.range_eq_range']at this;exact this
theorem Qn:zV (.int 10) (.int 60)=some (.int 1000000000000000000000000000000000000000000000000000000000000):=rfl
theorem r6(c:Int):∃T:Nat,bA [.int c]=some (.int T):=by
 have m:IntMulOk (c%1000000000000000000000000000000000000000000000000000000000000) 48271:=.of_right (by decide +kernel);have h2:0<=(c%1000000000000000000000000000000000000000000000000000000000000*48271+12345)%2147483629:=emod_nonneg _ (by decide);refine⟨((c%1000000000000000000000000000000000000000000000000000000000000*48271+12345)%2147483629).toNat,?_⟩;rw[Int.toNat_of_nonneg h2];simp[bA,aU,i5,av,Qn,m]
theorem zg(ns:List Int)(k:Int)(hk:0<=k):∃c,bg [.list (ns.map .int),.int k]=some (.int c):=by
 by_cases h:k<ns.length
 ·have hk':k.toNat<ns.length:=by omega
  refine⟨ns[k.toNat],?_⟩;have e:fZ (ns.map PyData.int) k=some (.int ns[k.toNat]):=fN (j:=k.toNat) (by omega) (by simp[hk']);simp[bg,aU,eK,av,h,e]
 ·exact⟨0,by simp[bg,aU,eK,av,h]⟩
@[simp] theorem Nz(u w:Sf)(δ:Dv)(a b:Int):NA u w δ (!(a==b))=if a=b then w δ else u δ:=by
 by_cases h:a=b
 ·subst h;simp
 ·have:(a==b)=false:=by simpa using h
  rw[this,if_neg h];rfl
open MA (Nu Row wt bit flp cw aL Wd par HB)
abbrev As:=List (Nat×Nat)
def vl(A:As)(k:Nat):Nat:=((A.find? fun p=>decide (p.1=k)).map (·.2)).getD 0
noncomputable def wy(A:As)(k v:Nat):As:=if(A.any fun p=>decide (p.1=k))=true then A.map (fun p=>if p.1=k then(p.1,v)else p)else A++[(k,v)]
def esD(A:As):List (bb×D):=A.map fun p=>(.inl (p.1:Int),.int (p.2:Int))
def aw(A:As):List Nat:=A.map (·.1)
theorem pS(a b:Nat):((Sum.inl (a:Int):bb)=.inl (b:Int))↔a=b:=by
 constructor
 ·intro h;exact Int.ofNat.inj (Sum.inl.inj h)
 ·intro h;rw[h]
theorem yS(A:As)(k:Nat):hU (esD A) (.inl (k:Int))=(A.find? fun p=>decide (p.1=k)).map fun p=>.int (p.2:Int):=by
 induction A with
 |nil=>rfl
 |cons p A ih=>
  unfold hU esD at *;rw[map_cons,List.find?_cons,List.find?_cons];by_cases h:p.1=k
  ·have:((Sum.inl (p.1:Int):bb)=.inl (k:Int)):=(pS _ _).mpr h
   simp[h]
  ·have:¬((Sum.inl (p.1:Int):bb)=.inl (k:Int)):=fun z=>h ((pS _ _).mp z)
   simp only[this,h,decide_false];exact ih
theorem Kt(A:As)(k:Nat):(hU (esD A) (.inl (k:Int))).getD (.int 0)=.int (vl A k:Int):=by
 rw[yS];unfold vl;cases A.find? fun p=>decide (p.1=k)with
 |none=>rfl
 |some p=>rfl
theorem KP(A:As)(k:Nat):((esD A).any fun p=>decide (p.1=.inl (k:Int)))=A.any fun p=>decide (p.1=k):=by
 unfold esD;rw[List.any_map];congr 1;funext p;simp only[Function.comp,decide_eq_decide];exact pS _ _
theorem ES(A:As)(k v:Nat):oX (esD A) (.inl (k:Int)) (.int (v:Int))=esD (wy A k v):=by
 unfold oX wy;rw[KP];split
 ·unfold esD
  rw[map_map,map_map];apply map_congr_left;intro p _;show(if(Sum.inl (p.1:Int):bb)=.inl (k:Int)then _ else _)=_;by_cases h:p.1=k
  ·rw[if_pos ((pS _ _).mpr h)]
   simp[h]
  ·rw[if_neg (fun z=>h ((pS _ _).mp z))]
   simp[h]
 ·unfold esD
  rw[map_append];rfl
theorem jU(A:As)(k:Nat):(A.any fun p=>decide (p.1=k))=true↔k∈aw A:=by
 simp[aw,List.any_eq_true]
theorem eW(p:Nat×Nat)(A:As)(k:Nat):vl (p::A) k=if p.1=k then p.2 else vl A k:=by
 unfold vl;rw[List.find?_cons];by_cases h:p.1=k<;>simp[h]
theorem rE{A:As}{k:Nat}(h:k ∉ aw A):vl A k=0:=by
 unfold vl;have:(A.find? fun p=>decide (p.1=k))=none:=by
  rw[List.find?_eq_none];intro p hp;simp only[decide_eq_true_eq];exact fun z=>h (List.mem_map.mpr ⟨p,hp,z⟩)
 rw[this];rfl
theorem HI(A:As)(k v j:Nat)(h:k ∉ aw A):vl (A++[(k,v)]) j=if j=k then v else vl A j:=by
 induction A with
 |nil=>
  rw[List.nil_append,eW];by_cases e:k=j
  ·rw[if_pos e,if_pos e.symm]
  ·rw[if_neg e,if_neg (Ne.symm e)]
 |cons p A ih=>
  have h1:k≠p.1:=fun z=>h (by rw[z];exact mem_cons_self)
  have h2:k ∉ aw A:=fun z=>h (mem_cons_of_mem _ z)
  rw[List.cons_append,eW,eW,ih h2];by_cases e:p.1=j
  ·rw[if_pos e,if_pos e,if_neg (fun z=>h1 (by rw[e];exact z.symm))]
  ·rw[if_neg e,if_neg e]
theorem HH(A:As)(k v j:Nat)(h:k∈aw A):vl (A.map fun p=>if p.1=k then(p.1,v)else p) j=if j=k then v else vl A j:=by
 induction A with
 |nil=>cases h
 |cons p A ih=>
  rw[map_cons,eW,eW];by_cases hp:p.1=k
  ·rw[if_pos hp]
   show(if p.1=j then v else _)=_;by_cases e:p.1=j
   ·rw[if_pos e,if_pos (by rw[<-e];exact hp)]
   ·rw[if_neg e,if_neg e]
    by_cases hk:k∈aw A
    ·exact ih hk
    ·rw[if_neg (fun z=>e (by rw[hp];exact z.symm))]
     congr 1;have:∀B:As,k ∉ aw B->(B.map fun p=>if p.1=k then(p.1,v)else p)=B:=fun B=>by
      induction B with
      |nil=>intro _;rfl
      |cons q B ihB=>
       intro hB;rw[map_cons,ihB (fun z=>hB (mem_cons_of_mem _ z)),if_neg (fun z=>hB (by rw[<-z];exact mem_cons_self))]
     exact this A hk
  ·rw[if_neg hp]
   have hk:k∈aw A:=by
    rcases List.mem_cons.mp h with z|z
    ·exact absurd z.symm hp
    ·exact z
   rw[ih hk];by_cases e:p.1=j
   ·rw[if_pos e,if_pos e,if_neg (fun z=>hp (by rw[e];exact z))]
   ·rw[if_neg e,if_neg e]
theorem lN(A:As)(k v j:Nat):vl (wy A k v) j=if j=k then v else vl A j:=by
 unfold wy;by_cases h:(A.any fun p=>decide (p.1=k))=true
 ·rw[if_pos h];exact HH A k v j ((jU A k).mp h)
 ·rw[if_neg h];exact HI A k v j fun z=>h ((jU A k).mpr z)
theorem lh(A:As)(k v:Nat):aw (wy A k v)=if k∈aw A then aw A else aw A++[k]:=by
 unfold wy;by_cases h:k∈aw A
 ·rw[if_pos ((jU A k).mpr h),if_pos h]
  unfold aw;rw[map_map];apply map_congr_left;intro p _;simp only[Function.comp];split<;>rfl
 ·rw[if_neg (fun z=>h ((jU A k).mp z)),if_neg h]
  unfold aw;rw[map_append];rfl
theorem Cu{A:As}(h:(aw A).Nodup)(k v:Nat):(aw (wy A k v)).Nodup:=by
 rw[lh];split
 ·exact h
 ·rename_i hk
  rw[List.nodup_append];exact⟨h,by simp,fun a ha b hb=>by simp at hb;subst hb;exact fun z=>hk (by rw[<-z];exact ha)⟩
theorem oj{A:As}(nd:(aw A).Nodup){p:Nat×Nat}(h:p∈A):vl A p.1=p.2:=by
 induction A with
 |nil=>cases h
 |cons q A ih=>
  rw[eW];have nd':=List.nodup_cons.mp (show(q.1::aw A).Nodup from nd);rcases List.mem_cons.mp h with rfl|h
  ·rw[if_pos rfl]
  ·rw[if_neg (fun z=>nd'.1 (by rw[z];exact List.mem_map.mpr ⟨p,h,rfl⟩))]
   exact ih nd'.2 h
theorem u7:∀{a b:List Nat},a.Pairwise (· < ·)->b.Pairwise (· < ·)->(∀k,k∈a↔k∈b)->a=b
 |[],b,_,_,h=>by
  cases b with
  |nil=>rfl
  |cons y b=>exact absurd ((h y).mpr mem_cons_self) (by simp)
 |x::a,b,ha,hb,h=>by
  cases b with
  |nil=>exact absurd ((h x).mp mem_cons_self) (by simp)
  |cons y b=>
   obtain⟨a1,a2⟩:=List.pairwise_cons.mp ha;obtain⟨b1,b2⟩:=List.pairwise_cons.mp hb;have e:x=y:=by
    rcases List.mem_cons.mp ((h x).mp mem_cons_self)with z|z
    ·exact z
    ·rcases List.mem_cons.mp ((h y).mpr mem_cons_self)with w|w
     ·exact w.symm
     ·have:=b1 x z
      have:=a1 y w;omega
   subst e;rw[u7 a2 b2 fun k=>?_]
   constructor
   ·intro z
    rcases List.mem_cons.mp ((h k).mp (mem_cons_of_mem _ z))with w|w
    ·have:=a1 k z;omega
    ·exact w
   ·intro z
    rcases List.mem_cons.mp ((h k).mpr (mem_cons_of_mem _ z))with w|w
    ·have:=b1 k z;omega
    ·exact w
def cI(k:Nat):Int:=(k:Int)
def pD(p:Nat×Nat):D:=.tuple [.int (p.1:Int),.int (p.2:Int)]
theorem vA:∀A:As,vB (esD A)=some ((aw A).map cI)
 |[]=>rfl
 |p::A=>by
  show(vB (esD A)).bind _=_;rw[vA A];rfl
theorem sQ(ks:List Nat)(nd:ks.Nodup):∃rs:List Nat,dB (ks.map cI)=rs.map (cI)/\rs.Perm ks/\rs.Pairwise (· < ·):=by
 have pm:=gY (ks.map cI);have pw:=mo (ks.map cI);obtain⟨l,hl⟩:∃l,dB (ks.map cI)=l:=⟨_,rfl⟩;rw[hl]at pm pw ⊢;have e:l=(l.map Int.toNat).map cI:=by
  rw[map_map];have:∀x∈l,((cI) ∘ Int.toNat) x=x:=fun x hx=>by
   obtain⟨k,_,rfl⟩:=List.mem_map.mp (pm.mem_iff.mp hx);simp[cI]
  rw[map_congr_left this,map_id']
 have p2:(l.map Int.toNat).Perm ks:=by
  have:=pm.map Int.toNat;rw[map_map]at this;have e2:ks.map (Int.toNat ∘ cI)=ks:=by
   have:∀x∈ks,(Int.toNat ∘ cI) x=x:=fun x _=>by simp[cI]
   rw[map_congr_left this,map_id']
  rw[e2]at this;exact this
 refine⟨l.map Int.toNat,e,p2,?_⟩;have nd2:(l.map Int.toNat).Nodup:=p2.nodup_iff.mpr nd;rw[e,List.pairwise_map]at pw;rw[List.nodup_iff_pairwise_ne]at nd2;exact(pw.and nd2).imp fun{a b} h=>by
  have h1:(a:Int)<=(b:Int):=h.1;have h2:=h.2;omega
theorem Ks{A:As}{k:Nat}(h:k∈aw A):hU (esD A) (.inl (k:Int))=some (.int (vl A k:Int)):=by
 rw[yS];unfold vl;cases e:A.find? fun p=>decide (p.1=k)with
 |none=>
  obtain⟨p,hp,rfl⟩:=List.mem_map.mp h;have:=List.find?_eq_none.mp e p hp;simp at this
 |some p=>rfl
theorem CQ(A:As)(nd:(aw A).Nodup)(hl:A.length<64):∃rs:List Nat,rs.Perm (aw A)/\rs.Pairwise (· < ·)/\∀(δ:Dv) (i:Nat),HZ δ[i]? = some (esD A)->lf i δ = some (.list (rs.map fun k=>pD (k,vl A k))):=by
 obtain⟨rs,e,p,pw⟩:=sQ (aw A) nd;refine⟨rs,p,pw,fun δ i h=>?_⟩
 unfold lf;rw[h,Option.bind_some,vA,Option.bind_some,if_pos ⟨by rw[length_map];unfold aw;rw[length_map];exact hl,by
  rw[List.nodup_iff_pairwise_ne,List.pairwise_map];rw[List.nodup_iff_pairwise_ne]at nd;exact nd.imp fun{a b} h=>by unfold cI;omega⟩]
 unfold wY;rw[e,map_map];congr 2;apply map_congr_left;intro k hk;have hk:=p.mem_iff.mp hk;show PyData.tuple [.int (k:Int),(hU (esD A) (.inl (k:Int))).getD .none]=_;rw[Ks hk];rfl
theorem OY(b1 e1 G:Int)(es:List (bb×D))(z0 z1 z2 z4:Sl)(hG:(hU es (.inl b1)).getD (.int 0)=.int G)(hl:es.length<sizeLine):(if b1=0 then some (Fl.nx,[z0,z1,z2,.od es,z4,.fz (.int b1),.fz (.int e1)])else sW 3 (oV 5) (o2 (o2 (tL 3 (oV 5) (oC (.int 0))) (oV 6) aR) (oC (.int 8)) bN) [z0,z1,z2,.od es,z4,.fz (.int b1),.fz (.int e1)])=some (.nx,[z0,z1,z2,.od (if b1=0 then es else oX es (.inl b1) (.int ((G+e1)%8))),z4,.fz (.int b1),.fz (.int e1)]):=by
 by_cases h:b1=0
 ·rw[if_pos h,if_pos h]
 ·rw[if_neg h,if_neg h]
  simp[sW,tL,hG,hl]
theorem GX(t b e a b1 e1 t1 G:Int)(es:List (bb×D))(P:D)(z1 z2 z5 z6:Sl)(p0:ay P (.int 0)=some (.int b))(p1:ay P (.int 1)=some (.int e))(ha:Builtin.bitAnd b 1=a)(hb1:(if a=1 then Builtin.bitXor b 1 else b)=b1)(he1:(if a=1 then -e else e)=e1)(ht1:(if a=1 then t+e else t)=t1)(hG:(hU es (.inl b1)).getD (.int 0)=.int G)(hl:es.length<sizeLine):cC [.fz (.int t),z1,z2,.od es,.fz P,z5,z6]=some (.nx,[.fz (.int t1),z1,z2,.od (if b1=0 then es else oX es (.inl b1) (.int ((G+e1)%8))),.fz P,.fz (.int b1),.fz (.int e1)]):=by
 have q:=OY b1 e1 G es (.fz (.int t1)) z1 z2 (.fz P) hG hl;by_cases h:a=1
 ·rw[if_pos h]at hb1 he1 ht1
  subst h hb1 he1 ht1;simp[-ap,-dF,b8,dz,cC,p0,p1,ha];exact q
 ·rw[if_neg h]at hb1 he1 ht1
  subst hb1 he1 ht1;have n:di (.int a) (.int 1)=some (.bool false):=by simp[h]
  simp[-ap,-dF,b8,dz,cC,p0,p1,ha,n];exact q
def Hh(A:As)(rs:List Nat):As:=(rs.filter fun k=>decide (vl A k≠0)).map fun k=>(k,vl A k)
theorem Me(A:As)(nd:(aw A).Nodup)(hl:A.length<64):∃rs:List Nat,rs.Perm (aw A)/\rs.Pairwise (· < ·)/\∀z0 z1 z2 z4 z5 z6,iS [z0,z1,z2,.od (esD A),z4,z5,z6]=some (.list ((Hh A rs).map pD)):=by
 obtain⟨rs,p,pw,it⟩:=CQ A nd hl;refine⟨rs,p,pw,fun z0 z1 z2 z4 z5 z6=>?_⟩
 have hln:rs.length<=1000:=by rw[p.length_eq];unfold aw;rw[length_map];omega
 have:=jR (fi:=oI (lf 3) eA) (caps:=[]) (ft:=ob (o2 (o2 (oV 0) (oC (.int 1)) ay) (oC (.int 0)) neD)) (fe:=oV 0) (δ:=[z0,z1,z2,.od (esD A),z4,z5,z6]) (h:=fun k=>pD (k,vl A k)) (k:=fun k=>pD (k,vl A k)) (b:=fun k=>decide (vl A k≠0)) (xs:=rs) (by
  have:=it [z0,z1,z2,.od (esD A),z4,z5,z6] 3 rfl;simp[this]) (by omega) (fun k _=>by
  have b1:ay (pD (k,vl A k)) (.int 1)=some (.int (vl A k:Int)):=rfl;have e:neD (.int (vl A k:Int)) (.int 0)=some (.bool (decide (vl A k≠0))):=by
   by_cases h:vl A k=0
   ·rw[h];rfl
   ·have:¬((vl A k:Int)=0):=by omega
    simp[h,this]
  simp only[eM,map_nil,append_nil];show(((ay (pD (k,vl A k)) (.int 1)).bind fun x=>neD x (.int 0)).bind asB)=_
  rw[b1,Option.bind_some,e];rfl) (fun k _ _=>by simp[eM])
 have e:(Hh A rs).map pD=(rs.filter fun k=>decide (vl A k≠0)).map fun k=>pD (k,vl A k):=by unfold Hh;rw[map_map];rfl
 rw[e];exact this
noncomputable def o7(A:As)(rs:List Nat):As:=(rs.filter fun k=>decide (0<k/\0<vl A k)).map fun k=>(k,vl A k)
theorem Lr(b:Nat)(h:b%2=1):b ^^^ 1=b-1:=by
 have h1:(b ^^^ 1)/2=b/2:=by rw[Nat.xor_div_two,show 1/2=0 from rfl,Nat.xor_zero]
 have h2:¬(b ^^^ 1)%2=1:=fun z=>by
  rw[Nat.xor_mod_two_eq_one]at z;exact z ⟨fun _=>rfl,fun _=>h⟩
 omega
theorem Nb(b:Nat)(h:b%2=1):Builtin.bitXor (b:Int) 1=((b-1:Nat):Int):=by
 have:=MA.Nc b 1;rw[Lr b h]at this;exact this
def nv(x:Nat)(e:Int):Nat:=(((x:Int)+e)%8).toNat
theorem rW(x:Nat)(e:Int):((nv x e:Nat):Int)=((x:Int)+e)%8:=by unfold nv;omega
theorem Cp(x:Nat)(e:Int):nv x e<8:=by unfold nv;omega
structure OkA (A:As):Prop where
 nd:(aw A).Nodup
 z:0∈aw A
 lt:∀k,vl A k<8
def hb(b:Nat):Nat:=b-b%2
def he(b:Nat)(e:Int):Int:=if b%2=1 then -e else e
def AY(A:As)(b:Nat)(e:Int):As:=if b%2=1 then wy A 0 (nv (vl A 0) e)else A
noncomputable def At(A:As)(b:Nat)(e:Int):As:=if 0<hb b then wy (AY A b e) (hb b) (nv (vl (AY A b e) (hb b)) (he b e))else AY A b e
theorem Cj{A:As}(h:OkA A)(k v:Nat)(hv:v<8):OkA (wy A k v):=by
 refine⟨Cu h.nd k v,?_,fun j=>?_⟩
 ·rw[lh]
  split
  ·exact h.z
  ·exact mem_append_left _ h.z
 ·rw[lN]
  split
  ·exact hv
  ·exact h.lt j
theorem Oh{A:As}(h:OkA A)(b:Nat)(e:Int):OkA (AY A b e):=by
 unfold AY;split
 ·exact Cj h _ _ (Cp _ _)
 ·exact h
theorem Nt{A:As}(h:OkA A)(b:Nat)(e:Int):OkA (At A b e):=by
 unfold At;split
 ·exact Cj (Oh h b e) _ _ (Cp _ _)
 ·exact Oh h b e
theorem FP(A:As)(k v:Nat):(wy A k v).length<=A.length+1:=by
 unfold wy;split
 ·rw[length_map];omega
 ·simp
theorem MZ{b:Nat}(h:0<hb b):0≠hb b:=by omega
theorem Lu(A:As)(b:Nat)(e:Int)(k:Nat)(hk:0<k):vl (AY A b e) k=vl A k:=by
 unfold AY;split
 ·rw[lN,if_neg (by omega)]
 ·rfl
theorem GY(A:As)(b:Nat)(e:Int):vl (At A b e) 0=if b%2=1 then nv (vl A 0) e else vl A 0:=by
 have q:vl (AY A b e) 0=if b%2=1 then nv (vl A 0) e else vl A 0:=by
  unfold AY;split
  ·rw[lN,if_pos rfl]
  ·rfl
 unfold At;split
 ·rename_i h
  rw[lN,if_neg (MZ h),q]
 ·exact q
theorem PJ(A:As)(b:Nat)(e:Int)(k:Nat)(hk:0<k):vl (At A b e) k=if k=hb b then nv (vl A k) (he b e)else vl A k:=by
 unfold At;split
 ·rename_i h
  rw[lN,Lu A b e _ h,Lu A b e _ hk];split
  ·rename_i z;rw[z]
  ·rfl
 ·rename_i h
  rw[if_neg (by omega),Lu A b e _ hk]
theorem li(A:As)(rs:List Nat):aw (o7 A rs)=rs.filter fun k=>decide (0<k/\0<vl A k):=by
 unfold aw o7;rw[map_map];exact map_id' _
theorem J3{A:As}(h:OkA A){rs:List Nat}(p:rs.Perm (aw A)):(aw (o7 A rs)).Nodup:=by
 rw[li];exact List.Nodup.sublist filter_sublist (p.nodup_iff.mpr h.nd)
theorem wQ{A:As}{k:Nat}(h:vl A k≠0):k∈aw A:=Classical.byContradiction fun z=>h (rE z)
theorem HD{A:As}(h:OkA A){rs:List Nat}(p:rs.Perm (aw A))(k:Nat):vl (o7 A rs) k=if 0<k then vl A k else 0:=by
 by_cases hk:k∈aw (o7 A rs)
 ·have hk':=hk
  rw[li,List.mem_filter]at hk';obtain⟨h1,h2⟩:=hk';have h2:0<k/\0<vl A k:=by simpa using h2
  rw[if_pos h2.1];exact oj (J3 h p) (p:=(k,vl A k)) (List.mem_map.mpr ⟨k,List.mem_filter.mpr ⟨h1,by simpa using h2⟩,rfl⟩)
 ·rw[rE hk]
  by_cases h0:0<k
  ·rw[if_pos h0]
   refine Classical.byContradiction fun z=>hk ?_
   rw[li,List.mem_filter];exact⟨p.mem_iff.mpr (wQ (Ne.symm z)),by simp[h0];omega⟩
  ·rw[if_neg h0]
noncomputable def pB(S:As)(b:Nat)(e:Int):As:=if hb b=0 then S else wy S (hb b) (nv (vl S (hb b)) (he b e))
def sD(ts:List Nat)(k:Nat):List Nat:=if k∈ts then ts else ts++[k]
theorem Cv(rs:List Nat):(rs.map cI).map PyData.int=az rs:=by
 unfold az cI;rw[map_map];rfl
def xR(A:As):List (Nat×Int):=A.map fun p=>(p.1,(p.2:Int))
theorem Lv(A:As):(xR A).map m7=A.map pD:=by
 unfold xR;rw[map_map];rfl
def nR(S:As):List (Nat×Int)->As
 |[]=>S
 |q::Q=>nR (pB S q.1 q.2) Q
def tv:List (Nat×Int)->Int
 |[]=>0
 |q::Q=>(if q.1%2=1 then q.2 else 0)+tv Q
noncomputable def kv(k:Nat):List (Nat×Int)->Int
 |[]=>0
 |q::Q=>(if hb q.1=k then he q.1 q.2 else 0)+kv k Q
theorem HE(S:As)(b:Nat)(e:Int){k:Nat}(hk:0<k):vl (pB S b e) k=if hb b=k then nv (vl S k) (he b e)else vl S k:=by
 unfold pB;by_cases z:hb b=0
 ·rw[if_pos z,if_neg (by omega)]
 ·rw[if_neg z,lN]
  by_cases y:hb b=k
  ·rw[if_pos y,if_pos y.symm,y]
  ·rw[if_neg y,if_neg (fun q=>y q.symm)]
theorem A9{k:Nat}(hk:0<k):∀(Q:List (Nat×Int)) (S:As),vl S k<8->(vl (nR S Q) k:Int)=((vl S k:Int)+kv k Q)%8
 |[],S,h=>by
  show(vl S k:Int)=(_+0)%8;omega
 |q::Q,S,h=>by
  have ih:=A9 hk Q (pB S q.1 q.2);have e:=HE S q.1 q.2 hk;show(vl (nR (pB S q.1 q.2) Q) k:Int)=((vl S k:Int)+((if hb q.1=k then he q.1 q.2 else 0)+kv k Q))%8;by_cases y:hb q.1=k
  ·rw[if_pos y]at e ⊢
   have h2:=Cp (vl S k) (he q.1 q.2);have h3:=rW (vl S k) (he q.1 q.2);rw[ih (by omega),e,h3];omega
  ·rw[if_neg y]at e ⊢
   rw[ih (by omega),e];omega
theorem MB{S:As}(h:(aw S).Nodup)(b:Nat)(e:Int):(aw (pB S b e)).Nodup:=by
 unfold pB;split
 ·exact h
 ·exact Cu h _ _
theorem CF(S:As)(b:Nat)(e:Int):(pB S b e).length<=S.length+1:=by
 unfold pB;split
 ·omega
 ·exact FP S _ _
theorem wO:∀(Q:List (Nat×Int)) {S:As},(aw S).Nodup->(aw (nR S Q)).Nodup
 |[],_,h=>h
 |q::Q,_,h=>wO Q (MB h q.1 q.2)
theorem yJ:∀(Q:List (Nat×Int)) (S:As),(nR S Q).length<=S.length+Q.length
 |[],S=>Nat.le_refl _
 |q::Q,S=>by
  have:=yJ Q (pB S q.1 q.2);have:=CF S q.1 q.2;show(nR (pB S q.1 q.2) Q).length<=_;rw[length_cons];omega
theorem K3(t:Int)(S:As)(b:Nat)(e:Int)(z1 z2 z5 z6:Sl)(hl:S.length<1000):∃y5 y6,cC [.fz (.int t),z1,z2,.od (esD S),.fz (m7 (b,e)),z5,z6]=some (.nx,[.fz (.int (t+if b%2=1 then e else 0)),z1,z2,.od (esD (pB S b e)),.fz (m7 (b,e)),y5,y6]):=by
 have e2:(if((b%2:Nat):Int)=1 then Builtin.bitXor (b:Int) 1 else b)=((hb b:Nat):Int):=by
  unfold hb;by_cases o:b%2=1
  ·rw[if_pos (by omega),Nb b o,o]
  ·rw[if_neg (by omega)];omega
 have e3:(if((b%2:Nat):Int)=1 then -e else e)=he b e:=by
  unfold he;by_cases o:b%2=1
  ·rw[if_pos o,if_pos (by omega)]
  ·rw[if_neg o,if_neg (by omega)]
 have e4:(if((hb b:Nat):Int)=0 then esD S else oX (esD S) (.inl (hb b:Nat)) (.int (((vl S (hb b):Nat)+he b e)%8)))=esD (pB S b e):=by
  unfold pB;by_cases o:hb b=0
  ·rw[if_pos o,if_pos (by omega)]
  ·rw[if_neg o,if_neg (by omega),<-rW]
   exact ES _ _ _
 have e5:(if((b%2:Nat):Int)=1 then t+e else t)=t+if b%2=1 then e else 0:=by
  by_cases o:b%2=1
  ·rw[if_pos o,if_pos (by omega)]
  ·rw[if_neg o,if_neg (by omega)];omega
 have sz:sizeLine>=1001:=by decide
 have st:=GX t b e ((b%2:Nat):Int) (hb b:Nat) (he b e) _ (vl S (hb b):Nat) (esD S) (m7 (b,e)) z1 z2 z5 z6 rfl rfl (KQ b) e2 e3 e5 (Kt _ _) (by unfold esD;rw[length_map];omega);rw[e4]at st;exact⟨_,_,st⟩
theorem zu(z1 z2:Sl):∀(Q:List (Nat×Int)) (t:Int) (S:As) (z4 z5 z6:Sl),S.length+Q.length<1000->∃y4 y5 y6,loop (gN 4) cC (Q.map m7) [.fz (.int t),z1,z2,.od (esD S),z4,z5,z6]=some (.nx,[.fz (.int (t+tv Q)),z1,z2,.od (esD (nR S Q)),y4,y5,y6])
 |[],t,S,z4,z5,z6,_=>⟨z4,z5,z6,by
  show some (Fl.nx,[Sl.fz (.int t),z1,z2,.od (esD S),z4,z5,z6])=some (.nx,[.fz (.int (t+0)),z1,z2,.od (esD S),z4,z5,z6]);rw[add_zero]⟩
 |q::Q,t,S,z4,z5,z6,h=>by
  rw[length_cons]at h;obtain⟨w5,w6,e1⟩:=K3 t S q.1 q.2 z1 z2 z5 z6 (by omega);have hl:=CF S q.1 q.2;obtain⟨y4,y5,y6,e2⟩:=zu z1 z2 Q (t+if q.1%2=1 then q.2 else 0) (pB S q.1 q.2) (.fz (m7 q)) w5 w6 (by omega);refine⟨y4,y5,y6,?_⟩;rw[map_cons,aE (δ1:=[.fz (.int t),z1,z2,.od (esD S),.fz (m7 q),z5,z6]) (by simp) e1,e2,Int.add_assoc];rfl
structure RR (R:As) (f:Nat->Int):Prop where
 pk:(aw R).Pairwise (· < ·)
 val:∀k,0<k->(vl R k:Int)=f k%8
 nz:∀p∈R,0<p.1/\p.2≠0
theorem Ct{l:List Nat}(h:l.Pairwise (· < ·)):l.Nodup:=by
 rw[List.nodup_iff_pairwise_ne];exact h.imp fun{a b} q=>by omega
theorem RR.keys{R:As}{f:Nat->Int}(h:RR R f)(k:Nat):k∈aw R↔0<k/\f k%8≠0:=by
 constructor
 ·intro hk
  obtain⟨p,hp,rfl⟩:=List.mem_map.mp hk;have h1:=h.nz p hp;have h2:=h.val p.1 h1.1;rw[oj (Ct h.pk) hp]at h2;exact⟨h1.1,by omega⟩
 ·intro ⟨h0,hk⟩
  have h2:=h.val k h0;exact wQ (by omega)
theorem zt:∀{R:As},(aw R).Nodup->R=(aw R).map fun k=>(k,vl R k):=fun{R} nd=>by
 unfold aw;rw[map_map];refine(List.map_id R).symm.trans (map_congr_left fun p hp=>?_);show p=(p.1,vl R p.1);rw[oj nd hp]
theorem RR.one{R R':As}{f g:Nat->Int}(h:RR R f)(h':RR R' g)(e:∀k,0<k->f k%8=g k%8):R=R':=by
 have k1:aw R=aw R':=u7 h.pk h'.pk fun k=>by
  rw[h.keys,h'.keys];constructor
  ·intro ⟨a,b⟩;exact⟨a,by rw[<-e k a];exact b⟩
  ·intro ⟨a,b⟩;exact⟨a,by rw[e k a];exact b⟩
 rw[zt (Ct h.pk),zt (Ct h'.pk),k1];refine map_congr_left fun k hk=>?_
 have h0:0<k:=((h'.keys k).mp hk).1;have h1:=h.val k h0;have h2:=h'.val k h0;have:=e k h0;congr 1;omega
theorem K4(t t':Int)(T:D)(Q L:List D)(es es':List (bb×D))(y4 y5 y6:Sl)(hT:za T=some es)(lp:loop (gN 4) cC Q [.fz (.int t),.fz T,.fz (.list Q),.od es,.un,.un,.un]=some (.nx,[.fz (.int t'),.fz T,.fz (.list Q),.od es',y4,y5,y6]))(p:iS [.fz (.int t'),.fz T,.fz (.list Q),.od es',y4,y5,y6]=some (.list L)):cz [.int t,T,.list Q]=some (.tuple [.int (t' % 8),.tuple L]):=by
 simp[-ap,-dF,b8,dz,cz,aU,jw,av,wq,hT,lp,p]
theorem zk:∀(Q:List (Nat×Int)) {S:As},0 ∉ aw S->0 ∉ aw (nR S Q)
 |[],_,h=>h
 |q::Q,S,h=>zk Q (by
  unfold pB;split
  ·exact h
  ·rename_i z
   rw[lh];split
   ·exact h
   ·intro y
    rcases List.mem_append.mp y with y|y
    ·exact h y
    ·exact z (List.mem_singleton.mp y).symm)
def AU(A:As):List (Nat×Int)->As
 |[]=>A
 |q::Q=>AU (At A q.1 q.2) Q
theorem Ci:∀(Q:List (Nat×Int)) {A:As},OkA A->OkA (AU A Q)
 |[],_,h=>h
 |q::Q,_,h=>Ci Q (Nt h q.1 q.2)
theorem xP:∀(Q:List (Nat×Int)) {A:As},OkA A->(vl (AU A Q) 0:Int)=((vl A 0:Int)+tv Q)%8
 |[],A,h=>by
  have:=h.lt 0;show(vl A 0:Int)=(_+0)%8;omega
 |q::Q,A,h=>by
  have ih:=xP Q (Nt h q.1 q.2);have e:=GY A q.1 q.2;show(vl (AU (At A q.1 q.2) Q) 0:Int)=((vl A 0:Int)+((if q.1%2=1 then q.2 else 0)+tv Q))%8;rw[ih,e];by_cases o:q.1%2=1
  ·rw[if_pos o,if_pos o,rW];omega
  ·rw[if_neg o,if_neg o];omega
theorem xO{k:Nat}(hk:0<k):∀(Q:List (Nat×Int)) {A:As},OkA A->(vl (AU A Q) k:Int)=((vl A k:Int)+kv k Q)%8
 |[],A,h=>by
  have:=h.lt k;show(vl A k:Int)=(_+0)%8;omega
 |q::Q,A,h=>by
  have ih:=xO hk Q (Nt h q.1 q.2);have e:=PJ A q.1 q.2 k hk;show(vl (AU (At A q.1 q.2) Q) k:Int)=((vl A k:Int)+((if hb q.1=k then he q.1 q.2 else 0)+kv k Q))%8;rw[ih,e];by_cases o:hb q.1=k
  ·rw[if_pos o,if_pos o.symm,rW];omega
  ·rw[if_neg o,if_neg (fun z=>o z.symm)];omega
theorem Ii{A:As}(h:OkA A){rs:List Nat}(p:rs.Perm (aw A))(pw:rs.Pairwise (· < ·)){f:Nat->Int}(hf:∀k,0<k->(vl A k:Int)=f k%8):RR (o7 A rs) f where
 pk:=by
  rw[li];exact pw.sublist filter_sublist
 val:=fun k hk=>by
  rw[HD h p,if_pos hk];exact hf k hk
 nz:=fun q hq=>by
  obtain⟨k,hk,rfl⟩:=List.mem_map.mp hq;have:=(List.mem_filter.mp hk).2;have:0<k/\0<vl A k:=by simpa using this
  exact⟨this.1,by omega⟩
theorem tE{c:Nat}(h:c<8):OkA [(0,c)] where
 nd:=by simp[aw]
 z:=by simp[aw]
 lt:=fun k=>by
  rw[eW];split
  ·exact h
  ·rw[rE (by simp[aw])];omega
theorem HG(c:Nat){k:Nat}(hk:0<k):vl [(0,c)] k=0:=by
 rw[eW,if_neg (by show ¬ 0=k;omega),rE (by simp[aw])]
theorem xQ(c:Nat):vl [(0,c)] 0=c:=by rw[eW,if_pos rfl]
def ND(xs:List Nat):List Nat:=xs.foldl sD []
theorem K1{ts:List Nat}(h:ts.Nodup)(k:Nat):(sD ts k).Nodup:=by
 unfold sD;split
 ·exact h
 ·rename_i z
  rw[List.nodup_append];exact⟨h,by simp,fun a ha b hb=>by rw[List.mem_singleton.mp hb];exact fun q=>z (q ▸ ha)⟩
theorem GT(ts:List Nat)(k a:Nat):a∈sD ts k↔a∈ts\/a=k:=by
 unfold sD;split
 ·rename_i z
  exact⟨.inl,fun h=>h.elim id fun e=>e ▸ z⟩
 ·simp
theorem yV:∀(xs:List Nat) {ts:List Nat},ts.Nodup->(xs.foldl sD ts).Nodup
 |[],_,h=>h
 |x::xs,_,h=>yV xs (K1 h x)
theorem vF:∀(xs ts:List Nat) (a:Nat),a∈xs.foldl sD ts↔a∈ts\/a∈xs
 |[],ts,a=>by simp
 |x::xs,ts,a=>by
  show a∈xs.foldl sD (sD ts x)↔_;rw[vF xs,GT,mem_cons,or_assoc]
theorem GU(ts:List Nat)(k:Nat):(sD ts k).length<=ts.length+1:=by
 unfold sD;split
 ·omega
 ·simp
theorem vG:∀(xs ts:List Nat),(xs.foldl sD ts).length<=ts.length+xs.length
 |[],ts=>by simp
 |x::xs,ts=>by
  have:=vG xs (sD ts x);have:=GU ts x;show(xs.foldl sD (sD ts x)).length<=_;rw[length_cons];omega
theorem zQ(ts:List Nat)(k:Nat):dA (ts.map cI) (cI k)=(sD ts k).map cI:=by
 have e:cI k∈ts.map cI↔k∈ts:=by
  rw[List.mem_map];exact⟨fun⟨a,ha,q⟩=>(show a=k by unfold cI at q;omega) ▸ ha,fun h=>⟨k,h,rfl⟩⟩
 unfold dA sD;by_cases h:k∈ts
 ·rw[if_pos h,if_pos (e.mpr h)]
 ·rw[if_neg h,if_neg (fun z=>h (e.mp z)),map_append]
  rfl
theorem yh:∀(xs ts:List Nat),(xs.map cI).foldl dA (ts.map cI)=(xs.foldl sD ts).map cI
 |[],_=>rfl
 |x::xs,ts=>by
  show(xs.map cI).foldl dA (dA (ts.map cI) (cI x))=(xs.foldl sD (sD ts x)).map cI;rw[zQ,yh]
theorem vE:∀xs:List Nat,CW (az xs)=some (xs.map cI)
 |[]=>rfl
 |x::xs=>by
  show(CW (az xs)).bind _=_;rw[vE xs];rfl
theorem Bp(xs:List Nat)(hl:xs.length<64):∃rs:List Nat,rs.Pairwise (· < ·)/\(∀t,t∈rs↔t∈xs)/\rs.length<=xs.length/\kN (.list (az xs))=some (.list (az rs))/\kN (.tuple (az xs))=some (.list (az rs)):=by
 obtain⟨rs,e,p,pw⟩:=sQ (ND xs) (yV xs .nil);have s:jf (xs.map cI)=(ND xs).map cI:=yh xs [];have ln:=vG xs [];have key:∀d,eA d=some (az xs)->kN d=some (.list (az rs)):=fun d h=>by
  unfold kN;rw[h,Option.bind_some,vE,Option.bind_some,if_pos (by rw[length_map];exact hl),s,e,Cv]
 refine⟨rs,pw,fun t=>?_,by rw[p.length_eq];simpa[ND]using ln,key _ rfl,key _ rfl⟩
 rw[p.mem_iff,ND,vF];simp
theorem tS(rs:List Nat)(f:Nat->Bool):az (rs.filter f)=(rs.filter f).map fun k:Nat=>PyData.int (k:Int):=rfl
theorem G1(xs rs:List Nat)(T:D)(hr:rs.length<=1000)(hs:kN T=some (.list (az rs))):dl [.fz T]=some (.list (az (rs.filter fun k=>decide (0<k)))):=by
 unfold dl;rw[tS];refine jR (xs:=rs) (h:=fun k:Nat=>PyData.int (k:Int)) ?_ (by omega) (fun k _=>?_) fun k _ _=>?_
 ·show((kN T).bind eA)=_
  rw[hs];rfl
 ·have:neD (.int (k:Int)) (.int 0)=some (.bool (decide (0<k))):=by
   by_cases h:k=0
   ·subst h;rfl
   ·have h1:¬((k:Int)=0):=by omega
    have h2:0<k:=by omega
    simp[h,h1,h2]
  simp only[eM,map_nil,append_nil];show(neD (.int (k:Int)) (.int 0)).bind asB=_;rw[this];rfl
 ·simp[eM]
theorem G0(T:D)(L:List D)(p:dl [.fz T]=some (.list L)):bh [T]=some (.tuple L):=by
 simp[bh,aU,fM,av,p]
structure TT (ss:List Nat) (xs:List Nat):Prop where
 pw:ss.Pairwise (· < ·)
 mem:∀t,t∈ss↔t∈xs/\0<t
theorem Ei(xs:List Nat)(hl:xs.length<64):∃ss:List Nat,TT ss xs/\ss.length<=xs.length/\bh [.list (az xs)]=some (.tuple (az ss))/\bh [.tuple (az xs)]=some (.tuple (az ss)):=by
 obtain⟨rs,h1,h2,h3,h4,h5⟩:=Bp xs hl;refine⟨rs.filter fun k=>decide (0<k),⟨h1.sublist filter_sublist,fun t=>?_⟩,?_,G0 _ _ (G1 xs rs _ (by omega) h4),G0 _ _ (G1 xs rs _ (by omega) h5)⟩
 ·rw[List.mem_filter,h2]
  simp
 ·have:=List.length_filter_le (fun k=>decide (0<k)) rs
  omega
def OH(b k:Nat):Bool:=decide (b/2^k%2=1)
def oth(ps:As)(bit:Nat):As:=ps.filter fun p=>!OH p.1 bit
section
variable(w l:Nat)(hv:Int)(c:Nat)(ps:As)(ts hs:List Nat)
theorem o3:(oI (o2 (oV 0) (oC (.int 3)) ay) eA) (.fz (kl w l hv c (xR ps) ts hs)::r)=some (ps.map pD):=by
 have:ay (kl w l hv c (xR ps) ts hs) (.int 3)=some (.tuple (ps.map pD)):=by rw[He,Lv]
 show(ay (kl w l hv c (xR ps) ts hs) (.int 3)).bind eA=_;rw[this];rfl
end
theorem Ed(j m:Int):bz [.int j,.int m]=some (.int (MA.v6 j m)):=by
 by_cases h:j=0
 ·subst h
  simp[bz,aU,fy,av,MA.v6]
 ·simp[bz,aU,fy,av,MA.v6,h]
theorem yl(a b c d:Int):dw [.int a,.int b,.int c,.int d]=some (.tuple [.int (b-d),.int (a+c),.int (b+d),.int (c-a)]):=by
 simp[dw,aU,mH,av]
def tup5(x:MA.Q4)(k:Int):D:=.tuple [.int x.a,.int x.b,.int x.c,.int x.d,.int k]
noncomputable def Jd:Sf:=aC 5 (VL.os (ad (o2 (o2 (o2 (oV 0) (oV 1) IL) (oV 2) IL) (oV 3) IL) (ad (o2 (oV 4) (oC (.int 2)) eJ) (ao))) bz)
def Jc:Sf:=aC 0 (o2 (oV 0) (oV 5) lU)
def Jb:Sf:=aC 1 (o2 (oV 1) (oV 5) lU)
def Ja:Sf:=aC 2 (o2 (oV 2) (oV 5) lU)
def I0:Sf:=aC 3 (o2 (oV 3) (oV 5) lU)
def IZ:Sf:=aC 4 (o2 (oV 4) (o2 (oC (.int 2)) (oV 5) pC) bC)
noncomputable def Fy:Sf:=dF (Af (ob (o2 (oV 4) (oC (.int 0)) di)) (Af (ob (o2 (o2 (o2 (oV 0) (oV 2) bC) (oC (.int 2)) bN) (oC (.int 1)) di)) (ob (o2 (o2 (o2 (oV 1) (oV 3) bC) (oC (.int 2)) bN) (oC (.int 1)) di)))) (bJ (VL.os (ad (oV 0) (ad (oV 1) (ad (oV 2) (ad (oV 3) (ad (oV 4) (ao)))))) bn)) (m6)
def Fx:Sf:=aC 6 (VL.os (ad (oV 0) (ad (oV 1) (ad (oV 2) (ad (oV 3) (ao))))) dw)
noncomputable def Fw:Sf:=bJ (VL.os (ad (o2 (o2 (oV 6) (oC (.int 0)) ay) (oC (.int 2)) eJ) (ad (o2 (o2 (oV 6) (oC (.int 1)) ay) (oC (.int 2)) eJ) (ad (o2 (o2 (oV 6) (oC (.int 2)) ay) (oC (.int 2)) eJ) (ad (o2 (o2 (oV 6) (oC (.int 3)) ay) (oC (.int 2)) eJ) (ad (o2 (oV 4) (oC (.int 1)) bC) (ao)))))) bn)
theorem Ai:lF=ap Jd (ap Jc (ap Jb (ap Ja (ap I0 (ap IZ (ap Fy (ap Fx (Fw)))))))):=rfl
theorem P8{a b c d k t:Int}(h:bz [.int (Builtin.bitOr (Builtin.bitOr (Builtin.bitOr a b) c) d),.int (k/2)]=some (.int t)):Jd [.fz (.int a),.fz (.int b),.fz (.int c),.fz (.int d),.fz (.int k),.un,.un]=some (.nx,[.fz (.int a),.fz (.int b),.fz (.int c),.fz (.int d),.fz (.int k),.fz (.int t),.un]):=by simp[Jd,h]
theorem P7(a:Int)(t:Nat)(x1 x2 x3 x4 x6:Sl):Jc [.fz (.int a),x1,x2,x3,x4,.fz (.int t),x6]=some (.nx,[.fz (.int (a/2^t)),x1,x2,x3,x4,.fz (.int t),x6]):=by simp[Jc]
theorem P6(a:Int)(t:Nat)(x1 x2 x3 x4 x6:Sl):Jb [x1,.fz (.int a),x2,x3,x4,.fz (.int t),x6]=some (.nx,[x1,.fz (.int (a/2^t)),x2,x3,x4,.fz (.int t),x6]):=by simp[Jb]
theorem P5(a:Int)(t:Nat)(x1 x2 x3 x4 x6:Sl):Ja [x1,x2,.fz (.int a),x3,x4,.fz (.int t),x6]=some (.nx,[x1,x2,.fz (.int (a/2^t)),x3,x4,.fz (.int t),x6]):=by simp[Ja]
theorem P4(a:Int)(t:Nat)(x1 x2 x3 x4 x6:Sl):I0 [x1,x2,x3,.fz (.int a),x4,.fz (.int t),x6]=some (.nx,[x1,x2,x3,.fz (.int (a/2^t)),x4,.fz (.int t),x6]):=by simp[I0]
theorem P0(a:Int)(t:Nat)(x1 x2 x3 x4 x6:Sl):IZ [x1,x2,x3,x4,.fz (.int a),.fz (.int t),x6]=some (.nx,[x1,x2,x3,x4,.fz (.int (a-2*t)),.fz (.int t),x6]):=by
 have m2:IntMulOk 2 (t:Int):=.of_left (by decide);simp[IZ,m2]
section
variable(a b c d k:Int)(x5 x6:Sl)
theorem Mt:(ob (o2 (oV 4) (oC (.int 0)) di)) [.fz (.int a),.fz (.int b),.fz (.int c),.fz (.int d),.fz (.int k),x5,x6]=some (k==0):=rfl
theorem Mq{f g:Dv->Option D}{δ:Dv}{x y:Int}(hf:f δ = some (.int x))(hg:g δ = some (.int y)):(ob (o2 (o2 (o2 f g bC) (oC (.int 2)) bN) (oC (.int 1)) di)) δ = some ((x-y)%2==1):=by
 have s:bC (.int x) (.int y)=some (.int (x-y)):=rfl;have m:bN (.int (x-y)) (.int 2)=some (.int ((x-y)%2)):=jl (by decide);simp only[ob,o2,oC,hf,hg,Option.bind_some,s,m,Gq,DF]
theorem Ms:(ob (o2 (o2 (o2 (oV 0) (oV 2) bC) (oC (.int 2)) bN) (oC (.int 1)) di)) [.fz (.int a),.fz (.int b),.fz (.int c),.fz (.int d),.fz (.int k),x5,x6]=some ((a-c)%2==1):=Mq rfl rfl
theorem Mr:(ob (o2 (o2 (o2 (oV 1) (oV 3) bC) (oC (.int 2)) bN) (oC (.int 1)) di)) [.fz (.int a),.fz (.int b),.fz (.int c),.fz (.int d),.fz (.int k),x5,x6]=some ((b-d)%2==1):=Mq rfl rfl
end
theorem Ol(a b c d k:Int)(x5 x6:Sl)(h:k=0\/(a-c)%2=1\/(b-d)%2=1):Fy [.fz (.int a),.fz (.int b),.fz (.int c),.fz (.int d),.fz (.int k),x5,x6]=some (.rt (.tuple [.int a,.int b,.int c,.int d,.int k]),[.fz (.int a),.fz (.int b),.fz (.int c),.fz (.int d),.fz (.int k),x5,x6]):=by
 refine(LV ?_).trans rfl;have t1:=Mt a b c d k x5 x6;have t2:=Ms a b c d k x5 x6;have t3:=Mr a b c d k x5 x6;by_cases q0:k=0
 ·rw[beq_iff_eq.mpr q0]at t1;exact Hf t1
 ·rw[beq_eq_false_iff_ne.mpr q0]at t1
  refine(yz t1).trans ?_;by_cases q1:(a-c)%2=1
  ·rw[beq_iff_eq.mpr q1]at t2;exact Hf t2
  ·rw[beq_eq_false_iff_ne.mpr q1]at t2
   refine(yz t2).trans ?_;rcases h with h|h|h
   ·exact absurd h q0
   ·exact absurd h q1
   ·rw[beq_iff_eq.mpr h]at t3;exact t3
theorem Om(a b c d k:Int)(x5 x6:Sl)(h:¬(k=0\/(a-c)%2=1\/(b-d)%2=1)):Fy [.fz (.int a),.fz (.int b),.fz (.int c),.fz (.int d),.fz (.int k),x5,x6]=some (.nx,[.fz (.int a),.fz (.int b),.fz (.int c),.fz (.int d),.fz (.int k),x5,x6]):=by
 have t1:=Mt a b c d k x5 x6;have t2:=Ms a b c d k x5 x6;have t3:=Mr a b c d k x5 x6;rw[beq_eq_false_iff_ne.mpr fun q=>h (.inl q)]at t1
 rw[beq_eq_false_iff_ne.mpr fun q=>h (.inr (.inl q))]at t2
 rw[beq_eq_false_iff_ne.mpr fun q=>h (.inr (.inr q))]at t3
 exact(LW ((yz t1).trans ((yz t2).trans t3))).trans rfl
theorem PZ(a b c d:Int)(x4 x5 x6:Sl):Fx [.fz (.int a),.fz (.int b),.fz (.int c),.fz (.int d),x4,x5,x6]=some (.nx,[.fz (.int a),.fz (.int b),.fz (.int c),.fz (.int d),x4,x5,.fz (.tuple [.int (b-d),.int (a+c),.int (b+d),.int (c-a)])]):=by simp[Fx,yl]
theorem PY(p q r s k:Int)(x0 x1 x2 x3 x5:Sl):Fw [x0,x1,x2,x3,.fz (.int k),x5,.fz (.tuple [.int p,.int q,.int r,.int s])]=some (.rt (.tuple [.int (p/2),.int (q/2),.int (r/2),.int (s/2),.int (k-1)]),[x0,x1,x2,x3,.fz (.int k),x5,.fz (.tuple [.int p,.int q,.int r,.int s])]):=by simp[Fw]
theorem Aj(a b c d k:Int)(hk:0<=k):gy [.int a,.int b,.int c,.int d,.int k]=some (tup5 (MA.num ⟨a,b,c,d⟩ k).1 (MA.num ⟨a,b,c,d⟩ k).2):=by
 obtain⟨t,e,h1,_⟩:=MA.lP a b c d (k/2) (Int.ediv_nonneg hk (by decide));have tw:=Ed (Builtin.bitOr (Builtin.bitOr (Builtin.bitOr a b) c) d) (k/2);rw[e]at tw;unfold MA.num tup5;simp only[e,toNat_natCast];generalize ha:a/2^t=A;generalize hb:b/2^t=B;generalize hc:c/2^t=C;generalize hd:d/2^t=E;have go:lF (av qG [.int a,.int b,.int c,.int d,.int k])=(ap Fy (ap Fx Fw)) [.fz (.int A),.fz (.int B),.fz (.int C),.fz (.int E),.fz (.int (k-2*t)),.fz (.int t),.un]:=by
  rw[Ai,<-ha,<-hb,<-hc,<-hd];exact(jk (P8 tw)).trans ((jk (P7 _ _ _ _ _ _ _)).trans ((jk (P6 _ _ _ _ _ _ _)).trans ((jk (P5 _ _ _ _ _ _ _)).trans ((jk (P4 _ _ _ _ _ _ _)).trans (jk (P0 _ _ _ _ _ _ _))))))
 by_cases q:k-2*(t:Int)=0\/(A-C)%2=1\/(B-E)%2=1
 ·rw[if_pos q]
  exact Cr rfl (go.trans (On (Ol _ _ _ _ _ _ _ q)))
 ·rw[if_neg q]
  exact Cr rfl (go.trans ((jk (Om _ _ _ _ _ _ _ q)).trans ((jk (PZ _ _ _ _ _ _ _)).trans (PY _ _ _ _ _ _ _ _ _ _))))
theorem Oj(x:MA.Q4)(k:Int)(hk:0<=k):gy [.int x.a,.int x.b,.int x.c,.int x.d,.int k]=some (tup5 (MA.num x k).1 (MA.num x k).2):=Aj _ _ _ _ _ hk
theorem Ef(x:MA.Q4)(c:Int):neD (tup5 x c) (tup5 x c)=some (.bool false):=by
 have:neD (tup5 x c) (tup5 x c)=some (.bool (!(x.a==x.a&&(x.b==x.b&&(x.c==x.c&&(x.d==x.d&&(c==c&&true))))))):=rfl;rw[this];simp
def tup4(x:MA.Q4):D:=.tuple [.int x.a,.int x.b,.int x.c,.int x.d]
theorem Fi(x:MA.Q4)(c k:Int)(h:MA.Q4.Le (2^100000) x)(h1:c<=k)(h2:k-c<=100000):cD [tup5 x c,.int k]=some (tup4 (MA.Q4.rtn (k-c).toNat x)):=by
 obtain⟨l1,l2,l3,l4⟩:=h;obtain⟨t,ht⟩:∃t:Nat,(k-c)/2=t:=⟨((k-c)/2).toNat,by omega⟩;have s:∀i:Int,i.natAbs<=2^100000->gF (.int i) (.int (t:Int))=some (.int (i*2^t)):=fun i hi=>by
  have hb:i.natAbs<2^100001:=Nat.lt_of_le_of_lt hi (pow_lt_pow_right (by decide) (by decide));have:=MA.lD hb;have q:=uQ (i:=i) (j:=(t:Int)) (by omega) (by omega);simpa using q
 have r2:=MA.Q4.rtn_two t x;unfold tup5 tup4;by_cases o:(k-c)%2=1
 ·have e:(k-c).toNat=2*t+1:=by omega
  have m:(2*(t:Int)+1)%2=1:=by omega
  rw[e,MA.Q4.rtn_succ,r2];simp[cD,aU,fY,av,ht,o,s _ l1,s _ l2,s _ l3,s _ l4,yl,MA.Q4.rt,MA.Q4.dbl]
 ·have e:(k-c).toNat=2*t:=by omega
  rw[e,r2];simp[cD,aU,fY,av,ht,o,s _ l1,s _ l2,s _ l3,s _ l4,MA.Q4.dbl]
theorem zE(x:MA.Q4)(c e:Int):dL [tup5 x c,.int e]=some (tup5 (MA.cj (e%8).toNat x) c):=by
 have w:e%8=0\/e%8=1\/e%8=2\/e%8=3\/e%8=4\/e%8=5\/e%8=6\/e%8=7:=by omega
 have go:∀(r a0 a1 a2 a3:Int),e%8=r->(0-e)%8=a0->(1-e)%8=a1->(2-e)%8=a2->(3-e)%8=a3->∀b0 b1 b2 b3:Int,fZ [PyData.int x.a,.int x.b,.int x.c,.int x.d,.int (-x.a),.int (-x.b),.int (-x.c),.int (-x.d)] a0=some (.int b0)->fZ [PyData.int x.a,.int x.b,.int x.c,.int x.d,.int (-x.a),.int (-x.b),.int (-x.c),.int (-x.d)] a1=some (.int b1) ->
   fZ [PyData.int x.a,.int x.b,.int x.c,.int x.d,.int (-x.a),.int (-x.b),.int (-x.c),.int (-x.d)] a2=some (.int b2)->fZ [PyData.int x.a,.int x.b,.int x.c,.int x.d,.int (-x.a),.int (-x.b),.int (-x.c),.int (-x.d)] a3=some (.int b3)->dL [tup5 x c,.int e]=some (.tuple [.int b0,.int b1,.int b2,.int b3,.int c]):=by
  intro r a0 a1 a2 a3 _ h0 h1 h2 h3 b0 b1 b2 b3 k0 k1 k2 k3;have h0:-e%8=a0:=by omega
  simp only[tup5];simp[dL,aU,qw,av,h0,h1,h2,h3,k0,k1,k2,k3]
 rcases w with w|w|w|w|w|w|w|w<;>rw[w]
 ·exact go 0 0 1 2 3 w (by omega) (by omega) (by omega) (by omega) _ _ _ _ (by simp;rfl) (by simp;rfl) (by simp;rfl) (by simp;rfl)
 ·exact go 1 7 0 1 2 w (by omega) (by omega) (by omega) (by omega) _ _ _ _ (by simp;rfl) (by simp;rfl) (by simp;rfl) (by simp;rfl)
 ·exact go 2 6 7 0 1 w (by omega) (by omega) (by omega) (by omega) _ _ _ _ (by simp;rfl) (by simp;rfl) (by simp;rfl) (by simp;rfl)
 ·exact go 3 5 6 7 0 w (by omega) (by omega) (by omega) (by omega) _ _ _ _ (by simp;rfl) (by simp;rfl) (by simp;rfl) (by simp;rfl)
 ·exact go 4 4 5 6 7 w (by omega) (by omega) (by omega) (by omega) _ _ _ _ (by simp;rfl) (by simp;rfl) (by simp;rfl) (by simp;rfl)
 ·have e0:tup5 (MA.cj (5:Int).toNat x) c=.tuple [.int x.d,.int (-x.a),.int (-x.b),.int (-x.c),.int c]:=by simp[tup5,MA.cj,MA.Q4.tn]
  rw[e0];exact go 5 3 4 5 6 w (by omega) (by omega) (by omega) (by omega) _ _ _ _ (by simp) (by simp) (by simp) (by simp)
 ·have e0:tup5 (MA.cj (6:Int).toNat x) c=.tuple [.int x.c,.int x.d,.int (-x.a),.int (-x.b),.int c]:=by simp[tup5,MA.cj,MA.Q4.tn]
  rw[e0];exact go 6 2 3 4 5 w (by omega) (by omega) (by omega) (by omega) _ _ _ _ (by simp) (by simp) (by simp) (by simp)
 ·have e0:tup5 (MA.cj (7:Int).toNat x) c=.tuple [.int x.b,.int x.c,.int x.d,.int (-x.a),.int c]:=by simp[tup5,MA.cj,MA.Q4.tn]
  rw[e0];exact go 7 1 2 3 4 w (by omega) (by omega) (by omega) (by omega) _ _ _ _ (by simp) (by simp) (by simp) (by simp)
def Fs(a:Str):Bool:=DM (.str a)
theorem lM{a b:Str}(ha:Fs a=true)(hb:Fs b=true):di (.str a) (.str b)=some (.bool (a==b)):=if_pos ⟨ha,hb⟩
theorem cA:Fs "swing" = true:=by decide +kernel
theorem dt:Fs "turn" = true:=by decide +kernel
theorem dW:Fs "flip" = true:=by decide +kernel
theorem fI:Fs "tie" = true:=by decide +kernel
theorem dU:Fs "sign" = true:=by decide +kernel
theorem cY:Fs "cross" = true:=by decide +kernel
theorem f6:Fs "look" = true:=by decide +kernel
@[simp] theorem CJ:di (.str "swing") (.str "swing")=some (.bool true):=(lM cA cA).trans (congrArg (fun z=>some (PyData.bool z)) (show(("swing":Str)==("swing":Str))=true by decide +kernel))
@[simp] theorem DO:di (.str "swing") (.str "turn")=some (.bool false):=(lM cA dt).trans (congrArg (fun z=>some (PyData.bool z)) (show(("swing":Str)==("turn":Str))=false by decide +kernel))
@[simp] theorem DP:di (.str "swing") (.str "look")=some (.bool false):=(lM cA f6).trans (congrArg (fun z=>some (PyData.bool z)) (show(("swing":Str)==("look":Str))=false by decide +kernel))
@[simp] theorem DN:di (.str "turn") (.str "swing")=some (.bool false):=(lM dt cA).trans (congrArg (fun z=>some (PyData.bool z)) (show(("turn":Str)==("swing":Str))=false by decide +kernel))
@[simp] theorem FR:di (.str "turn") (.str "turn")=some (.bool true):=(lM dt dt).trans (congrArg (fun z=>some (PyData.bool z)) (show(("turn":Str)==("turn":Str))=true by decide +kernel))
@[simp] theorem FS:di (.str "turn") (.str "look")=some (.bool false):=(lM dt f6).trans (congrArg (fun z=>some (PyData.bool z)) (show(("turn":Str)==("look":Str))=false by decide +kernel))
@[simp] theorem DR:di (.str "flip") (.str "swing")=some (.bool false):=(lM dW cA).trans (congrArg (fun z=>some (PyData.bool z)) (show(("flip":Str)==("swing":Str))=false by decide +kernel))
@[simp] theorem FY:di (.str "flip") (.str "turn")=some (.bool false):=(lM dW dt).trans (congrArg (fun z=>some (PyData.bool z)) (show(("flip":Str)==("turn":Str))=false by decide +kernel))
@[simp] theorem F0:di (.str "flip") (.str "flip")=some (.bool true):=(lM dW dW).trans (congrArg (fun z=>some (PyData.bool z)) (show(("flip":Str)==("flip":Str))=true by decide +kernel))
@[simp] theorem FZ:di (.str "flip") (.str "look")=some (.bool false):=(lM dW f6).trans (congrArg (fun z=>some (PyData.bool z)) (show(("flip":Str)==("look":Str))=false by decide +kernel))
@[simp] theorem FT:di (.str "tie") (.str "swing")=some (.bool false):=(lM fI cA).trans (congrArg (fun z=>some (PyData.bool z)) (show(("tie":Str)==("swing":Str))=false by decide +kernel))
@[simp] theorem Ho:di (.str "tie") (.str "turn")=some (.bool false):=(lM fI dt).trans (congrArg (fun z=>some (PyData.bool z)) (show(("tie":Str)==("turn":Str))=false by decide +kernel))
@[simp] theorem Hr:di (.str "tie") (.str "flip")=some (.bool false):=(lM fI dW).trans (congrArg (fun z=>some (PyData.bool z)) (show(("tie":Str)==("flip":Str))=false by decide +kernel))
@[simp] theorem Kb:di (.str "tie") (.str "tie")=some (.bool true):=(lM fI fI).trans (congrArg (fun z=>some (PyData.bool z)) (show(("tie":Str)==("tie":Str))=true by decide +kernel))
@[simp] theorem Hq:di (.str "tie") (.str "look")=some (.bool false):=(lM fI f6).trans (congrArg (fun z=>some (PyData.bool z)) (show(("tie":Str)==("look":Str))=false by decide +kernel))
@[simp] theorem DQ:di (.str "sign") (.str "swing")=some (.bool false):=(lM dU cA).trans (congrArg (fun z=>some (PyData.bool z)) (show(("sign":Str)==("swing":Str))=false by decide +kernel))
@[simp] theorem FU:di (.str "sign") (.str "turn")=some (.bool false):=(lM dU dt).trans (congrArg (fun z=>some (PyData.bool z)) (show(("sign":Str)==("turn":Str))=false by decide +kernel))
@[simp] theorem FX:di (.str "sign") (.str "flip")=some (.bool false):=(lM dU dW).trans (congrArg (fun z=>some (PyData.bool z)) (show(("sign":Str)==("flip":Str))=false by decide +kernel))
@[simp] theorem Hs:di (.str "sign") (.str "tie")=some (.bool false):=(lM dU fI).trans (congrArg (fun z=>some (PyData.bool z)) (show(("sign":Str)==("tie":Str))=false by decide +kernel))
@[simp] theorem FV:di (.str "sign") (.str "sign")=some (.bool true):=(lM dU dU).trans (congrArg (fun z=>some (PyData.bool z)) (show(("sign":Str)==("sign":Str))=true by decide +kernel))
@[simp] theorem FW:di (.str "sign") (.str "look")=some (.bool false):=(lM dU f6).trans (congrArg (fun z=>some (PyData.bool z)) (show(("sign":Str)==("look":Str))=false by decide +kernel))
@[simp] theorem CK:di (.str "cross") (.str "swing")=some (.bool false):=(lM cY cA).trans (congrArg (fun z=>some (PyData.bool z)) (show(("cross":Str)==("swing":Str))=false by decide +kernel))
@[simp] theorem DS:di (.str "cross") (.str "turn")=some (.bool false):=(lM cY dt).trans (congrArg (fun z=>some (PyData.bool z)) (show(("cross":Str)==("turn":Str))=false by decide +kernel))
@[simp] theorem DV:di (.str "cross") (.str "flip")=some (.bool false):=(lM cY dW).trans (congrArg (fun z=>some (PyData.bool z)) (show(("cross":Str)==("flip":Str))=false by decide +kernel))
@[simp] theorem F1:di (.str "cross") (.str "tie")=some (.bool false):=(lM cY fI).trans (congrArg (fun z=>some (PyData.bool z)) (show(("cross":Str)==("tie":Str))=false by decide +kernel))
@[simp] theorem DT:di (.str "cross") (.str "sign")=some (.bool false):=(lM cY dU).trans (congrArg (fun z=>some (PyData.bool z)) (show(("cross":Str)==("sign":Str))=false by decide +kernel))
@[simp] theorem CL:di (.str "cross") (.str "cross")=some (.bool true):=(lM cY cY).trans (congrArg (fun z=>some (PyData.bool z)) (show(("cross":Str)==("cross":Str))=true by decide +kernel))
@[simp] theorem DU:di (.str "cross") (.str "look")=some (.bool false):=(lM cY f6).trans (congrArg (fun z=>some (PyData.bool z)) (show(("cross":Str)==("look":Str))=false by decide +kernel))
theorem nZ{x y:MA.Q4}{k l:Nat}(h:MA.Q4.Least y l)(hl:l<=k)(e:MA.Q4.rtn (k-l) y=x):MA.num x k=(y,(l:Int)):=by
 obtain⟨c,e1,hc,hn⟩:=MA.tN x k;have:=MA.Is.one hn (show MA.Is y l x k from ⟨h,by
  rw[<-e,<-MA.Q4.rtn_add,show l+(k-l)=k by omega]⟩) rfl
 refine Prod.ext this.1 ?_;rw[e1,this.2]
theorem M0(x:MA.Q4)(h1:(x.a+x.c)%2=0)(h2:(x.b+x.d)%2=0):MA.Q4.rt ⟨(x.b-x.d)/2,(x.a+x.c)/2,(x.b+x.d)/2,(x.c-x.a)/2⟩=x:=by
 apply MA.Q4.ext'<;>simp[MA.Q4.rt]<;>omega
theorem pH:∀(k:Nat) (x:MA.Q4),dD cL hJ (k+1) [.fz (tup5 x k)]=some (.nx,[.fz (tup5 (MA.num x k).1 (MA.num x k).2)])
 | 0,x=>by
  have e:MA.num x ((0:Nat):Int)=(x,((0:Nat):Int)):=nZ ⟨by omega,fun z=>absurd z (by decide)⟩ (Nat.le_refl _) rfl
  rw[e];exact dN 0 (by simp[cL,tup5])
 |k+1,x=>by
  have hp:(0:Int)<(k:Int)+1:=by omega
  by_cases h1:(x.a+x.c)%2=0
  ·by_cases h2:(x.b+x.d)%2=0
   ·have hr:=M0 x h1 h2
    have ih:=pH k ⟨(x.b-x.d)/2,(x.a+x.c)/2,(x.b+x.d)/2,(x.c-x.a)/2⟩;have e:MA.num x ((k+1:Nat):Int)=MA.num ⟨(x.b-x.d)/2,(x.a+x.c)/2,(x.b+x.d)/2,(x.c-x.a)/2⟩ (k:Int):=by
     obtain⟨c,e1,hc,hn⟩:=MA.tN ⟨(x.b-x.d)/2,(x.a+x.c)/2,(x.b+x.d)/2,(x.c-x.a)/2⟩ k;have:=nZ (x:=x) (k:=k+1) hn.1 (by omega) (by
      refine MA.Q4.rtn_inj (n:=c) ?_;rw[<-MA.Q4.rtn_add,show c+(k+1-c)=1+k by omega,MA.Q4.rtn_add,hn.2,<-MA.Q4.rtn_add,Nat.add_comm 1 c,MA.Q4.rtn_add];exact congrArg (MA.Q4.rtn c) hr)
     rw[this,<-e1]
    rw[e];refine kH (k+1) (by simp[cL,tup5,h1,h2,hp]) (δ2:=[.fz (tup5 ⟨(x.b-x.d)/2,(x.a+x.c)/2,(x.b+x.d)/2,(x.c-x.a)/2⟩ k)]) (by simp[hJ,tup5]) ih
   ·have e:MA.num x ((k+1:Nat):Int)=(x,((k+1:Nat):Int)):=nZ ⟨by omega,fun _ z=>by have:=z.2;omega⟩ (Nat.le_refl _) (by simp[MA.Q4.rtn])
    rw[e];exact dN _ (by simp[cL,tup5,h1,h2,hp])
  ·have e:MA.num x ((k+1:Nat):Int)=(x,((k+1:Nat):Int)):=nZ ⟨by omega,fun _ z=>by have:=z.1;omega⟩ (Nat.le_refl _) (by simp[MA.Q4.rtn])
   rw[e];exact dN _ (by simp[cL,tup5,h1,hp])
theorem vz(x:MA.Q4)(k:Nat)(hk:k<=100000):bB [tup5 x k]=some (tup5 (MA.num x k).1 (MA.num x k).2):=by
 have:=cT (pH k x) (show k+1<=wN by simp[wN];omega);simp[bB,aU,i6,av,this]
open MA (Nu Row wt bit flp cw aL)
def cZ(u:Nu):D:=tup5 u.1 u.2
noncomputable def rowD:Row->D
 |.swing j=>.tuple [.str "swing",.int j]
 |.turn j e=>.tuple [.str "turn",.int j,.int e]
 |.flip j=>.tuple [.str "flip",.int j]
 |.tie i j=>.tuple [.str "tie",.int i,.int j]
 |.sign i j=>.tuple [.str "sign",.int i,.int j]
 |.cross i j=>.tuple [.str "cross",.int i,.int j]
theorem Fv(x:MA.Q4)(k:Nat):∃c:Nat,(MA.num x k).2=c/\c<=k:=by
 obtain⟨c,e,h,_⟩:=MA.tN x k;exact⟨c,e,h⟩
theorem BZ(u v:Nu):(MA.bw u v).2<=max u.2 v.2:=by
 obtain⟨c,e2,h⟩:=Fv (MA.Q4.add (MA.Q4.rtn (max (u.2:Int) v.2-u.2).toNat u.1) (MA.Q4.rtn (max (u.2:Int) v.2-v.2).toNat v.1)) (max u.2 v.2);have e3:((max u.2 v.2:Nat):Int)=max (u.2:Int) v.2:=by omega
 rw[e3]at e2;show(MA.gn u.1 u.2 v.1 v.2).2.toNat<=_;unfold MA.gn;rw[e2];exact h
theorem ym(n:Nat)(hn:n<=6):bP [.int ((2^n:Nat):Int)]=some ((List.range (2^n)).map fun k:Nat=>PyData.int (0+(k:Int))):=by
 have sq:(2^n:Nat)<=64:=(pow_le_pow_right (by decide) hn:2^n<=2^6);generalize (2^n:Nat)=N at sq ⊢;exact rP (j:=(N:Int)) (by omega) (by omega)
theorem rK:∀(n:Nat) (x:MA.Q4) (c:Int) (y:MA.Q4) (d:Int),d=c+n->dD dR gX (n+1) [.fz (tup5 x c),.fz (tup5 y d)]=some (.nx,[.fz (tup5 (MA.Q4.rtn n x) d),.fz (tup5 y d)])
 | 0,x,c,y,d,h=>by
  obtain rfl:d=c:=by omega
  exact dN 0 (by simp[dR,tup5])
 |n+1,x,c,y,d,h=>by
  have hp:c<d:=by omega
  have ih:=rK n (MA.Q4.rt x) (c+1) y d (by omega);exact kH (n+1) (by simp[dR,tup5,hp]) (δ2:=[.fz (tup5 (MA.Q4.rt x) (c+1)),.fz (tup5 y d)]) (by simp[gX,tup5,MA.Q4.rt]) ih
theorem lS:∀(n:Nat) (x:MA.Q4) (c:Int) (y:MA.Q4) (d:Int),c=d+n->dD fA gU (n+1) [.fz (tup5 x c),.fz (tup5 y d)]=some (.nx,[.fz (tup5 x c),.fz (tup5 (MA.Q4.rtn n y) c)])
 | 0,x,c,y,d,h=>by
  obtain rfl:c=d:=by omega
  exact dN 0 (by simp[fA,tup5])
 |n+1,x,c,y,d,h=>by
  have hp:d<c:=by omega
  have ih:=lS n x c (MA.Q4.rt y) (d+1) (by omega);exact kH (n+1) (by simp[fA,tup5,hp]) (δ2:=[.fz (tup5 x c),.fz (tup5 (MA.Q4.rt y) (d+1))]) (by simp[gU,tup5,MA.Q4.rt]) ih
theorem HW(x:MA.Q4)(c:Nat)(y:MA.Q4)(d:Nat)(hc:c<=100000)(hd:d<=100000):cF [tup5 x c,tup5 y d]=some (tup5 (MA.gn x c y d).1 (MA.gn x c y d).2):=by
 have fin:∀(u v:MA.Q4) (m:Nat),m<=100000->dD fA gU wN [.fz (tup5 u m),.fz (tup5 y d)]=some (.nx,[.fz (tup5 u m),.fz (tup5 v m)])->dD dR gX wN [.fz (tup5 x c),.fz (tup5 y d)]=some (.nx,[.fz (tup5 u m),.fz (tup5 y d)]) ->
   cF [tup5 x c,tup5 y d]=some (tup5 (MA.num (MA.Q4.add u v) m).1 (MA.num (MA.Q4.add u v) m).2):=fun u v m hm h2 h1=>by
  have l:=vz (MA.Q4.add u v) m hm;generalize MA.num (MA.Q4.add u v) m=r at *;generalize tup5 r.1 r.2=R at *;simp only[tup5,MA.Q4.add]at l h1 h2 ⊢;simp[cF,aU,kB,av,h1,h2,l]
 unfold MA.gn;by_cases h:c<=d
 ·have e:max (c:Int) d=(d:Int):=by omega
  rw[e,show((d:Int)-c).toNat=d-c by omega,show((d:Int)-d).toNat=0 by omega];exact fin _ _ d hd (cT (lS 0 _ d y d (by simp)) (by simp[wN])) (cT (rK (d-c) x c y d (by omega)) (by simp[wN];omega))
 ·have e:max (c:Int) d=(c:Int):=by omega
  rw[e,show((c:Int)-d).toNat=c-d by omega,show((c:Int)-c).toNat=0 by omega];refine fin _ _ c hc (cT (lS (c-d) _ c y d (by omega)) (by simp[wN];omega)) ?_;exact cT (dN 0 (by simp[dR,tup5];omega)) (by simp[wN])
theorem FQ(x:MA.Q4)(k:Nat)(hk:k<=100000):bB [tup5 x k]=some (cZ ((MA.num x k).1,(MA.num x k).2.toNat)):=by
 obtain⟨c,e,h⟩:=Fv x k;rw[vz x k hk,e];rfl
theorem LP(u v:Nu)(hc:u.2<=100000)(hd:v.2<=100000):cF [cZ u,cZ v]=some (cZ (MA.bw u v)):=by
 have e:=HW u.1 u.2 v.1 v.2 hc hd;unfold cZ MA.bw;rw[e];obtain⟨c,e2,h⟩:=Fv (MA.Q4.add (MA.Q4.rtn (max (u.2:Int) v.2-u.2).toNat u.1) (MA.Q4.rtn (max (u.2:Int) v.2-v.2).toNat v.1)) (max u.2 v.2);have e3:((max u.2 v.2:Nat):Int)=max (u.2:Int) v.2:=by omega
 rw[e3]at e2;show some (tup5 _ (MA.gn u.1 u.2 v.1 v.2).2)=some (tup5 _ ((MA.gn u.1 u.2 v.1 v.2).2.toNat:Int));unfold MA.gn;rw[e2];rfl
theorem Qi{a b:Int}(ha:a.natAbs<=2^200000)(hb:b.natAbs<=2^200000):IntMulOk a b:=
 MA.J6 200001 200001 (Nat.lt_of_le_of_lt ha (pow_lt_pow_right (by decide) (by decide))) (Nat.lt_of_le_of_lt hb (pow_lt_pow_right (by decide) (by decide))) (by decide)
theorem Iy(X Y:D)(a b c d a' b' c' d':Int)(x0:ay X (.int 0)=some (.int a))(x1:ay X (.int 1)=some (.int b))(x2:ay X (.int 2)=some (.int c))(x3:ay X (.int 3)=some (.int d))(y0:ay Y (.int 0)=some (.int a'))(y1:ay Y (.int 1)=some (.int b'))(y2:ay Y (.int 2)=some (.int c'))(y3:ay Y (.int 3)=some (.int d'))
  (m:∀x∈[a,b,c,d],∀y∈[a',b',c',d'],IntMulOk x y):∃A B C E z3 z4,loop (gN 3) cK [.int 0,.int 1,.int 2,.int 3] [.fz X,.fz Y,.ow [.int 0,.int 0,.int 0,.int 0],.un,.un]=some (.nx,[.fz X,.fz Y,.ow [.int A,.int B,.int C,.int E],z3,z4])/\A=a*a'-b*d'-c*c'-d*b'/\B=a*b'+b*a'-c*d'-d*c'/\C=a*c'+b*b'+c*a'-d*d'/\E=a*d'+b*c'+c*b'+d*a':=by
 have p0:∀(a b c d:D) (v:D),lY [a,b,c,d] (.int 0) v=some [v,b,c,d]:=fun _ _ _ _ _=>rfl
 have p1:∀(a b c d:D) (v:D),lY [a,b,c,d] (.int 1) v=some [a,v,c,d]:=fun _ _ _ _ _=>rfl
 have p2:∀(a b c d:D) (v:D),lY [a,b,c,d] (.int 2) v=some [a,b,v,d]:=fun _ _ _ _ _=>rfl
 have p3:∀(a b c d:D) (v:D),lY [a,b,c,d] (.int 3) v=some [a,b,c,v]:=fun _ _ _ _ _=>rfl
 have r:bP [.int 4]=some [.int 0,.int 1,.int 2,.int 3]:=rfl;have st:∀(i j:Int) (L L':List D) (x y o:Int) (w:Int),ay X (.int i)=some (.int x)->ay Y (.int j)=some (.int y)->IntMulOk x y->i+j<4->fZ L (i+j)=some (.int o)->lY L (.int (i+j)) (.int (o+x*y))=some L'->aY [.fz X,.fz Y,.ow L,.fz (.int i),.fz (.int j)]=some (.nx,[.fz X,.fz Y,.ow L',.fz (.int i),.fz (.int j)]):=fun i j L L' x y o w hx hy hm hlt ha hp=>by
  simp[-fH,-ap,-dF,b8,dz,aY,hx,hy,hm,hlt,ha,hp]
 have st2:∀(i j:Int) (L L':List D) (x y o:Int) (w:Int),ay X (.int i)=some (.int x)->ay Y (.int j)=some (.int y)->IntMulOk x y->¬i+j<4->fZ L (i+j-4)=some (.int o)->lY L (.int (i+j-4)) (.int (o-x*y))=some L'->aY [.fz X,.fz Y,.ow L,.fz (.int i),.fz (.int j)]=some (.nx,[.fz X,.fz Y,.ow L',.fz (.int i),.fz (.int j)]):=fun i j L L' x y o w hx hy hm hlt ha hp=>by
  simp[-fH,-ap,-dF,b8,dz,aY,hx,hy,hm,hlt,ha,hp]
 have row:∀(i:Int) (x:Int) (P Q R T P' Q' R' T':Int) (z3 z4:Sl),(∀z4,loop (gN 4) aY [.int 0,.int 1,.int 2,.int 3] [.fz X,.fz Y,.ow [.int P,.int Q,.int R,.int T],.fz (.int i),z4]=some (.nx,[.fz X,.fz Y,.ow [.int P',.int Q',.int R',.int T'],.fz (.int i),.fz (.int 3)]))->cK [.fz X,.fz Y,.ow [.int P,.int Q,.int R,.int T],.fz (.int i),z4]=some (.nx,[.fz X,.fz Y,.ow [.int P',.int Q',.int R',.int T'],.fz (.int i),.fz (.int 3)]):=fun i x P Q R T P' Q' R' T' z3 z4 h=>by
  simp[cK,r,h z4]
 have r0:∀(P Q R T:Int) (z4:Sl),loop (gN 4) aY [.int 0,.int 1,.int 2,.int 3] [.fz X,.fz Y,.ow [.int P,.int Q,.int R,.int T],.fz (.int 0),z4]=some (.nx,[.fz X,.fz Y,.ow [.int (P+a*a'),.int (Q+a*b'),.int (R+a*c'),.int (T+a*d')],.fz (.int 0),.fz (.int 3)]):=fun P Q R T z4=>by
  rw[aE (by rfl) (st 0 0 _ _ a a' P 0 x0 y0 (m _ (by simp) _ (by simp)) (by decide) rfl rfl),aE (by rfl) (st 0 1 _ _ a b' Q 0 x0 y1 (m _ (by simp) _ (by simp)) (by decide) rfl rfl),aE (by rfl) (st 0 2 _ _ a c' R 0 x0 y2 (m _ (by simp) _ (by simp)) (by decide) rfl rfl),aE (by rfl) (st 0 3 _ _ a d' T 0 x0 y3 (m _ (by simp) _ (by simp)) (by decide) rfl rfl)];rfl
 have r1:∀(P Q R T:Int) (z4:Sl),loop (gN 4) aY [.int 0,.int 1,.int 2,.int 3] [.fz X,.fz Y,.ow [.int P,.int Q,.int R,.int T],.fz (.int 1),z4]=some (.nx,[.fz X,.fz Y,.ow [.int (P-b*d'),.int (Q+b*a'),.int (R+b*b'),.int (T+b*c')],.fz (.int 1),.fz (.int 3)]):=fun P Q R T z4=>by
  rw[aE (by rfl) (st 1 0 _ _ b a' Q 0 x1 y0 (m _ (by simp) _ (by simp)) (by decide) rfl rfl),aE (by rfl) (st 1 1 _ _ b b' R 0 x1 y1 (m _ (by simp) _ (by simp)) (by decide) rfl rfl),aE (by rfl) (st 1 2 _ _ b c' T 0 x1 y2 (m _ (by simp) _ (by simp)) (by decide) rfl rfl),aE (by rfl) (st2 1 3 _ _ b d' P 0 x1 y3 (m _ (by simp) _ (by simp)) (by decide) rfl rfl)];rfl
 have r2:∀(P Q R T:Int) (z4:Sl),loop (gN 4) aY [.int 0,.int 1,.int 2,.int 3] [.fz X,.fz Y,.ow [.int P,.int Q,.int R,.int T],.fz (.int 2),z4]=some (.nx,[.fz X,.fz Y,.ow [.int (P-c*c'),.int (Q-c*d'),.int (R+c*a'),.int (T+c*b')],.fz (.int 2),.fz (.int 3)]):=fun P Q R T z4=>by
  rw[aE (by rfl) (st 2 0 _ _ c a' R 0 x2 y0 (m _ (by simp) _ (by simp)) (by decide) rfl rfl),aE (by rfl) (st 2 1 _ _ c b' T 0 x2 y1 (m _ (by simp) _ (by simp)) (by decide) rfl rfl),aE (by rfl) (st2 2 2 _ _ c c' P 0 x2 y2 (m _ (by simp) _ (by simp)) (by decide) rfl rfl),aE (by rfl) (st2 2 3 _ _ c d' Q 0 x2 y3 (m _ (by simp) _ (by simp)) (by decide) rfl rfl)];rfl
 have r3:∀(P Q R T:Int) (z4:Sl),loop (gN 4) aY [.int 0,.int 1,.int 2,.int 3] [.fz X,.fz Y,.ow [.int P,.int Q,.int R,.int T],.fz (.int 3),z4]=some (.nx,[.fz X,.fz Y,.ow [.int (P-d*b'),.int (Q-d*c'),.int (R-d*d'),.int (T+d*a')],.fz (.int 3),.fz (.int 3)]):=fun P Q R T z4=>by
  rw[aE (by rfl) (st 3 0 _ _ d a' T 0 x3 y0 (m _ (by simp) _ (by simp)) (by decide) rfl rfl),aE (by rfl) (st2 3 1 _ _ d b' P 0 x3 y1 (m _ (by simp) _ (by simp)) (by decide) rfl rfl),aE (by rfl) (st2 3 2 _ _ d c' Q 0 x3 y2 (m _ (by simp) _ (by simp)) (by decide) rfl rfl),aE (by rfl) (st2 3 3 _ _ d d' R 0 x3 y3 (m _ (by simp) _ (by simp)) (by decide) rfl rfl)];rfl
 refine⟨0+a*a'-b*d'-c*c'-d*b',0+a*b'+b*a'-c*d'-d*c',0+a*c'+b*b'+c*a'-d*d',0+a*d'+b*c'+c*b'+d*a',.fz (.int 3),.fz (.int 3),?_,by omega,by omega,by omega,by omega⟩;rw[aE (by rfl) (row 0 a _ _ _ _ _ _ _ _ .un _ (r0 0 0 0 0)),aE (by rfl) (row 1 b _ _ _ _ _ _ _ _ .un _ (r1 _ _ _ _)),aE (by rfl) (row 2 c _ _ _ _ _ _ _ _ .un _ (r2 _ _ _ _)),aE (by rfl) (row 3 d _ _ _ _ _ _ _ _ .un _ (r3 _ _ _ _))];rfl
theorem Ix(X Y Z:D)(A B C E k l s:Int)(z3 z4:Sl)(e:loop (gN 3) cK [.int 0,.int 1,.int 2,.int 3] [.fz X,.fz Y,.ow [.int 0,.int 0,.int 0,.int 0],.un,.un]=some (.nx,[.fz X,.fz Y,.ow [.int A,.int B,.int C,.int E],z3,z4]))(x4:ay X (.int 4)=some (.int k))(y4:ay Y (.int 4)=some (.int l))(hs:k+l=s)(h:bB [.tuple [.int A,.int B,.int C,.int E,.int s]]=some Z):bF [X,Y]=some Z:=by
 have r:bP [.int 4]=some [.int 0,.int 1,.int 2,.int 3]:=rfl;simp[-ap,-dF,b8,dz,bF,aU,gE,av,r,e,x4,y4,hs,h,sizeLine]
theorem Iz(u v:Nu)(hu:MA.Q4.Le (2^200000) u.1)(hv:MA.Q4.Le (2^200000) v.1)(hk:u.2+v.2<=100000):bF [cZ u,cZ v]=some (cZ (MA.fK u v)):=by
 obtain⟨A,B,C,E,z3,z4,e,rfl,rfl,rfl,rfl⟩:=Iy (cZ u) (cZ v) u.1.a u.1.b u.1.c u.1.d v.1.a v.1.b v.1.c v.1.d rfl rfl rfl rfl rfl rfl rfl rfl (fun x hx y hy=>by
  have h1:x.natAbs<=2^200000:=by
   simp only[mem_cons,List.mem_nil_iff,or_false]at hx;rcases hx with rfl|rfl|rfl|rfl
   ·exact hu.1
   ·exact hu.2.1
   ·exact hu.2.2.1
   ·exact hu.2.2.2
  have h2:y.natAbs<=2^200000:=by
   simp only[mem_cons,List.mem_nil_iff,or_false]at hy;rcases hy with rfl|rfl|rfl|rfl
   ·exact hv.1
   ·exact hv.2.1
   ·exact hv.2.2.1
   ·exact hv.2.2.2
  exact Qi h1 h2)
 have l:=FQ (MA.Q4.mul u.1 v.1) (u.2+v.2) hk;refine Ix _ _ _ _ _ _ _ u.2 v.2 _ z3 z4 e rfl rfl (MA.iH u v) ?_;have e2:MA.fK u v=((MA.num (MA.Q4.mul u.1 v.1) ((u.2+v.2:Nat):Int)).1,(MA.num (MA.Q4.mul u.1 v.1) ((u.2+v.2:Nat):Int)).2.toNat):=by
  unfold MA.fK MA.oA;rw[MA.iH]
 rw[e2];exact l
def Bd(k p:Nat)(f:Nat->Nu):Prop:=∀x,(f x).2<=k/\MA.Q4.Le (2^p) (f x).1
theorem t6(u:Nu):(MA.cy u).2<=u.2+1:=by
 obtain⟨c,e,h⟩:=Fv u.1 (u.2+1);show(MA.num u.1 ((u.2+1:Nat):Int)).2.toNat<=_;rw[e];exact h
theorem F7{u:Nu}{M:Nat}(h:MA.Q4.Le M u.1):MA.Q4.Le M (MA.cy u).1:=MA.Cq _ _ (by omega) _ h
theorem Bd.done{k p:Nat}{f:Nat->Nu}(h:Bd k p f)(n:Nat)(r:Row):Bd (k+1) (p+k+1) (aL n f r):=fun x=>by
 have mono:∀y,(f y).2<=k+1/\MA.Q4.Le (2^(p+k+1)) (f y).1:=fun y=>⟨by have:=(h y).1;omega,(h y).2.mono (pow_le_pow_right (by decide) (by omega))⟩
 have pl:∀(u v:Nu),u.2<=k->v.2<=k->MA.Q4.Le (2^p) u.1->MA.Q4.Le (2^p) v.1->(MA.cy (MA.bw u v)).2<=k+1/\MA.Q4.Le (2^(p+k+1)) (MA.cy (MA.bw u v)).1:=fun u v h1 h2 h3 h4=>by
  refine⟨?_,F7 ?_⟩
  ·have:=t6 (MA.bw u v)
   have:=BZ u v;omega
  ·exact MA.BY h3 h4 h1 h2
 cases r with
 |swing j=>
  show(if bit (wt n j) x=0 then _ else _:Nu).2<=_/\MA.Q4.Le _ (if bit (wt n j) x=0 then _ else _:Nu).1;split
  ·exact pl _ _ (h _).1 (h _).1 (h _).2 (h _).2
  ·exact pl _ _ (h _).1 (h _).1 (h _).2 (MA.lR _ (h _).2)
 |turn j e=>exact⟨(mono x).1,MA.lR _ (mono x).2⟩
 |sign i j=>exact⟨(mono x).1,MA.lR _ (mono x).2⟩
 |flip j=>exact mono _
 |tie i j=>exact mono _
 |cross i j=>exact mono _
theorem Bd.mono{k p k' p':Nat}{f:Nat->Nu}(h:Bd k p f)(h1:k<=k')(h2:p<=p'):Bd k' p' f:=fun x=>⟨le_trans (h x).1 h1,(h x).2.mono (pow_le_pow_right (by decide) h2)⟩
def pop:Nat->Nat
 | 0=>0
 |n+1=>(n+1)%2+pop ((n+1)/2)
theorem kh(n:Nat):pop n=n%2+pop (n/2):=by
 cases n with
 |zero=>simp[pop]
 |succ n=>rw[pop]
theorem ml(a b:Nat):(a &&& b)/2=a/2 &&& b/2:=by
 apply Nat.eq_of_testBit_eq;intro i;rw[Nat.testBit_and,<-Nat.testBit_add_one,<-Nat.testBit_add_one,<-Nat.testBit_add_one,Nat.testBit_and]
theorem pJ(a b:Nat):(a &&& b)%2=a%2*(b%2):=by
 have h:=Nat.testBit_and a b 0;simp only[Nat.testBit_zero]at h;have ha:a%2=0\/a%2=1:=by omega
 have hb:b%2=0\/b%2=1:=by omega
 have hc:(a &&& b)%2=0\/(a &&& b)%2=1:=by omega
 rcases ha with ha|ha<;>rcases hb with hb|hb<;>rcases hc with hc|hc<;>simp[ha,hb,hc]at h ⊢
def dotn(a b:Nat):Nat:=pop (a &&& b)
theorem eS(a b:Nat):dotn a b=a%2*(b%2)+dotn (a/2) (b/2):=by
 unfold dotn;rw[kh,pJ,ml]
theorem f9(a b:Nat):dotn a b=dotn b a:=by unfold dotn;rw[Nat.and_comm]
theorem jP(a:Nat):dotn a 0=0:=by unfold dotn;simp[pop]
theorem eI:∀(h b c:Nat),c/2^h%2=0->dotn b (c+2^h)=dotn b c+b/2^h%2
 | 0,b,c,hc=>by
  simp only[pow_zero,Nat.div_one]at hc ⊢;rw[eS b (c+1),eS b c,show(c+1)%2=1 by omega,show(c+1)/2=c/2 by omega,hc];omega
 |h+1,b,c,hc=>by
  have e:c/2^(h+1)=c/2/2^h:=by rw[Nat.div_div_eq_div_mul,pow_succ,Nat.mul_comm]
  have e2:b/2^(h+1)=b/2/2^h:=by rw[Nat.div_div_eq_div_mul,pow_succ,Nat.mul_comm]
  have ih:=eI h (b/2) (c/2) (by rw[<-e];exact hc);rw[eS b (c+2^(h+1)),eS b c,show(c+2^(h+1))%2=c%2 by rw[pow_succ];omega,show(c+2^(h+1))/2=c/2+2^h by rw[pow_succ];omega,ih,e2];omega
theorem gB{c h:Nat}(hc:c<2^h):c/2^h%2=0:=by rw[div_eq_of_lt hc]
theorem AK{c h:Nat}(b w:Nat)(hc:c<2^h)(hw:w<2):dotn b (c+w*2^h)=dotn b c+b/2^h%2*w:=by
 have:w=0\/w=1:=by omega
 rcases this with rfl|rfl
 ·simp
 ·rw[one_mul,eI h b c (gB hc),Nat.mul_one]
theorem qW(n:Nat):(2*n+1) &&& (2*n)=2*n:=by
 have h1:=ml (2*n+1) (2*n);have h2:=pJ (2*n+1) (2*n);rw[show(2*n+1)/2=n by omega,show 2*n/2=n by omega,Nat.and_self]at h1;rw[show 2*n%2=0 by omega,Nat.mul_zero]at h2;omega
theorem pI(n:Nat)(hn:0<n):(2*n) &&& (2*n-1)=2*(n &&& (n-1)):=by
 have h1:=ml (2*n) (2*n-1);have h2:=pJ (2*n) (2*n-1);rw[show(2*n-1)/2=n-1 by omega,show 2*n/2=n by omega]at h1;have:2*n%2=0:=by omega
 rw[this,Nat.zero_mul]at h2;omega
theorem BU:∀(n:Nat),0<n->pop (n &&& (n-1))+1=pop n:=by
 intro n
 induction n using Nat.strongRecOn with
 |_ n ih=>
  intro hn;rcases Nat.mod_two_eq_zero_or_one n with h|h
  ·obtain⟨m,rfl⟩:∃m,n=2*m:=⟨n/2,by omega⟩
   rw[pI m (by omega),kh (2*(m &&& (m-1))),kh (2*m),show 2*(m &&& (m-1))/2=m &&& (m-1) by omega,show 2*m/2=m by omega,<-ih m (by omega) (by omega)];omega
  ·obtain⟨m,rfl⟩:∃m,n=2*m+1:=⟨n/2,by omega⟩
   rw[show 2*m+1-1=2*m by omega,qW,kh (2*m+1),kh (2*m),show(2*m+1)/2=m by omega,show 2*m/2=m by omega];omega
theorem BW:∀(L n:Nat),n<2^L->pop n<=L
 | 0,n,h=>by
  have:n=0:=by simpa using h
  subst this;simp[pop]
 |L+1,n,h=>by
  rw[kh];have:=BW L (n/2) (by rw[pow_succ]at h;omega);omega
theorem Gu{L b c:Nat}(h:c<2^L):dotn b c<=L:=BW L _ (Nat.lt_of_le_of_lt Nat.and_le_right h)
theorem AT(n:Nat)(hn:0<n):Builtin.bitAnd (n:Int) ((n:Int)-1)=((n &&& (n-1):Nat):Int):=by
 rw[show((n:Int)-1)=((n-1:Nat):Int) by omega,MA.GK]
theorem Kw{v:Nat}(h:v<2):(1:Int)-(v:Int)=((v+1)%2:Nat):=by
 have:v=0\/v=1:=by omega
 rcases this with rfl|rfl<;>rfl
theorem om:∀(k n v:Nat) (x y:Sl),pop n=k->v<2->dD fB gW (k+1) [x,y,.fz (.int n),.fz (.int v)]=some (.nx,[x,y,.fz (.int 0),.fz (.int ((v+k)%2:Nat))])
 |k,n,v,x,y,hk,hv=>by
  by_cases hn:n=0
  ·subst hn
   have:k=0:=by rw[<-hk];simp[pop]
   subst this;rw[show(v+0)%2=v by omega];exact dN 0 (by simp[fB])
  ·have hp:=BU n (by omega)
   obtain⟨j,rfl⟩:∃j,k=j+1:=⟨k-1,by omega⟩;have ih:=om j (n &&& (n-1)) ((v+1)%2) x y (by omega) (by omega);have hb:=AT n (by omega);have hf:=Kw hv;refine kH (j+1) (by simp[fB,hn]) (δ2:=[x,y,.fz (.int (n &&& (n-1):Nat)),.fz (.int ((v+1)%2:Nat))]) (by simp only[gW,ap,aC,o2,oV,oC];simp[hb,hf]) ?_;rw[ih,show((v+1)%2+j)%2=(v+(j+1))%2 by omega]
theorem Ba{L b c:Nat}(hc:c<2^L)(hL:L<=100000):de [.int b,.int c]=some (.int (dotn b c%2:Nat)):=by
 have hp:=Gu (b:=b) hc;have l:=cT (om (dotn b c) (b &&& c) 0 (.fz (.int b)) (.fz (.int c)) rfl (by decide)) (show dotn b c+1<=wN by simp[wN];omega);have hb:=MA.GK b c;rw[Nat.zero_add]at l;have l':dD fB gW wN [.fz (.int b),.fz (.int c),.fz (.int ((b &&& c:Nat):Int)),.fz (.int 0)]=_:=l;simp[de,aU,ku,av,hb,l']
theorem LT(xs:List D)(k:Nat):DL (.list xs) none (some (k:Int))=some (.list (xs.take k)):=by
 show some (PyData.list (jZ _ _ _))=_;unfold jZ;rw[HT.uY,HT.yi,List.drop_zero,sub_zero];congr 2;by_cases h:k<=xs.length
 ·rw[min_eq_left h]
 ·rw[Nat.min_eq_right (by omega),List.take_of_length_le (Nat.le_refl _),List.take_of_length_le (by omega)]
theorem EB(xs:List D)(k:Nat):DL (.list xs) (some (k:Int)) none=some (.list (xs.drop k)):=by
 show some (PyData.list (jZ _ _ _))=_;unfold jZ;rw[HT.uY,HT.yi];congr 2;by_cases h:k<=xs.length
 ·rw[min_eq_left h,List.take_of_length_le (by rw[List.length_drop];exact Nat.le_refl _)]
 ·rw[Nat.min_eq_right (by omega),List.drop_of_length_le (Nat.le_refl _),List.drop_of_length_le (by omega)];simp
def aJ(N:Nat)(f:Nat->Int):List D:=(List.range N).map fun p=>.int (f p)
theorem f7(N:Nat)(f:Nat->Int):(aJ N f).length=N:=by simp[aJ]
theorem w9(n m:Nat)(f:Nat->Int):(aJ (n+m) f).take n=aJ n f:=by
 unfold aJ;rw[<-map_take,List.take_range,min_eq_left (by omega)]
theorem xa(n m:Nat)(f:Nat->Int):(aJ (n+m) f).drop n=aJ m fun p=>f (p+n):=by
 unfold aJ;apply ext_getElem?;intro i;rw[List.getElem?_drop,getElem?_map,getElem?_map];by_cases h:i<m
 ·rw[getElem?_range (by omega),getElem?_range h,Nat.add_comm n i];rfl
 ·rw[getElem?_eq_none (by simp;omega),getElem?_eq_none (by simp;omega)];rfl
theorem AA(n m:Nat)(f g:Nat->Int):aJ n f++aJ m g=aJ (n+m) fun p=>if p<n then f p else g (p-n):=by
 unfold aJ;apply ext_getElem?;intro i;by_cases h:i<n
 ·rw[List.getElem?_append_left (by simpa using h),getElem?_map,getElem?_map,getElem?_range h,getElem?_range (by omega)]
  simp[h]
 ·rw[List.getElem?_append_right (by simp;omega),getElem?_map,getElem?_map,length_map,length_range]
  by_cases h2:i<n+m
  ·rw[getElem?_range (by omega),getElem?_range h2]
   simp[h]
  ·rw[getElem?_eq_none (by simp;omega),getElem?_eq_none (by simp;omega)];rfl
noncomputable def gH:Nat->(Nat->Int)->Nat->Int
 | 0,f,_=>f 0
 |n+1,f,w=>if w<2^n then gH n f w+gH n (fun p=>f (p+2^n)) w else gH n f (w-2^n)-gH n (fun p=>f (p+2^n)) (w-2^n)
theorem A8(n:Nat)(a b:Nat->Int):List.zipWith (fun x y=>PyData.tuple [x,y]) (aJ n a) (aJ n b)=(List.range n).map fun p=>.tuple [.int (a p),.int (b p)]:=by
 unfold aJ;generalize List.range n=l
 induction l with
 |nil=>rfl
 |cons x l ih=>simp only[map_cons,List.zipWith_cons_cons,ih]
theorem Gw(G:List D->Option D)(n:Nat)(a b:Nat->Int)(x0 x1 x2 x3:Sl)(hn:n<=16777216):ef G [x0,x1,x2,x3,.fz (.list ((List.range n).map fun p=>.tuple [.int (a p),.int (b p)]))]=some (.list (aJ n fun p=>a p+b p)):=by
 unfold ef;exact js (xs:=List.range n) (h:=fun p=>.tuple [.int (a p),.int (b p)]) (by simp) (by simpa using hn) fun x _=>by simp[eM]
theorem Gv(G:List D->Option D)(n:Nat)(a b:Nat->Int)(x0 x1 x2 x3:Sl)(hn:n<=16777216):d9 G [x0,x1,x2,x3,.fz (.list ((List.range n).map fun p=>.tuple [.int (a p),.int (b p)]))]=some (.list (aJ n fun p=>a p-b p)):=by
 unfold d9;exact js (xs:=List.range n) (h:=fun p=>.tuple [.int (a p),.int (b p)]) (by simp) (by simpa using hn) fun x _=>by simp[eM]
theorem KC(G:List D->Option D)(L A B U V P:List D)(R Z:D)(k:Nat)(h0:L.length=k+k)(h1:¬L.length=1)(s1:L.take k=A)(s2:L.drop k=B)(g1:G [.list A]=some (.list U))(g2:G [.list B]=some (.list V))(hz:List.zipWith (fun x y=>PyData.tuple [x,y]) U V=P)
  (q1:∀x1,ef G [.fz (.list L),x1,.fz (.list U),.fz (.list V),.fz (.list P)]=some R) (q2:∀x1,d9 G [.fz (.list L),x1,.fz (.list U),.fz (.list V),.fz (.list P)]=some Z) (S:D) (q:aR R Z=some S):aU bW 1 (cf G) [.list L]=some S:=by
 have e:((L.length:Int)==1)=false:=by rw[beq_eq_false_iff_ne];omega
 have d:eJ (.int (L.length:Int)) (.int 2)=some (.int (k:Int)):=by rw[Ds (by decide) (by decide)];congr 2;omega
 have t1:=LT L k;have t2:=EB L k;rw[s1]at t1;rw[s2]at t2;have z:uv [.list U,.list V]=some (.list P):=by rw[DY,hz]
 have q1:=q1 (.fz (.int k));have q2:=q2 (.fz (.int k));simp only[aU,cf,av,ap,dF,aC,bJ,o2,oV,oC,VL.os,ad,ao,IX,oP,Li,Oi,ob,map_cons,map_nil,length_cons,List.length_nil];simp[e,d,t1,t2,g1,g2,z,q1,q2,q]
theorem ud:∀(n m:Nat) (f:Nat->Int),n<m->n<=12->bQ m [.list (aJ (2^n) f)]=some (.list (aJ (2^n) (gH n f)))
 | 0,m+1,f,_,_=>by
  show aU bW 1 (cf (bQ m)) [.list [.int (f 0)]]=some (.list [.int (f 0)]);simp[aU,cf,av]
 |n+1,m+1,f,hm,hn=>by
  show aU bW 1 (cf (bQ m)) [.list (aJ (2^(n+1)) f)]=_;have i1:=ud n m f (by omega) (by omega);have i2:=ud n m (fun p=>f (p+2^n)) (by omega) (by omega)
  have e:2^(n+1)=2^n+2^n:=by rw[pow_succ];omega
  have le:2^n<=2^12:=pow_le_pow_right (by decide) (by omega);have pos:0<2^n:=pow_pos (by decide);rw[e];refine KC _ _ _ _ _ _ _ _ _ (2^n) (f7 _ _) (by rw[f7];omega) (w9 _ _ _) (xa _ _ _) i1 i2 (A8 _ _ _) (fun x1=>Gw _ _ _ _ _ _ _ _ (by omega)) (fun x1=>Gv _ _ _ _ _ _ _ _ (by omega)) _ ?_
  rw[mJ (by rw[f7,f7];omega),AA];rfl
def sg(q w:Nat):Int:=if dotn q w%2=0 then 1 else -1
theorem ix:∀(n:Nat) (f g:Nat->Int) (w:Nat),(∀p,p<2^n->f p=g p)->gH n f w=gH n g w
 | 0,f,g,w,h=>h 0 (by decide)
 |n+1,f,g,w,h=>by
  have e:2^(n+1)=2^n+2^n:=by rw[pow_succ];omega
  unfold gH;rw[ix n f g w fun p hp=>h p (by omega),ix n f g (w-2^n) fun p hp=>h p (by omega),ix n (fun p=>f (p+2^n)) (fun p=>g (p+2^n)) w fun p hp=>h _ (by omega),ix n (fun p=>f (p+2^n)) (fun p=>g (p+2^n)) (w-2^n) fun p hp=>h _ (by omega)]
theorem LU{n q w:Nat}(hw:w<2^n)(hq:q<2^n):sg q (w+2^n)=sg q w:=by
 unfold sg;rw[eI n q w (gB hw),div_eq_of_lt hq];rfl
theorem Ic{n q w:Nat}(hw:w<2^n)(hq:q<2^n):sg (q+2^n) w=sg q w:=by
 unfold sg;rw[f9,eI n w q (gB hq),div_eq_of_lt hw,f9];rfl
theorem ED{n q w:Nat}(hw:w<2^n)(hq:q<2^n):sg (q+2^n) (w+2^n) = - sg q w:=by
 have e:(q+2^n)/2^n%2=1:=by
  rw[Nat.add_div_right _ (pow_pos (by decide)),div_eq_of_lt hq]
 have e2:dotn (q+2^n) w=dotn q w:=by rw[f9,eI n w q (gB hq),div_eq_of_lt hw,f9];rfl
 unfold sg;rw[eI n _ w (gB hw),e,e2];rcases Nat.mod_two_eq_zero_or_one (dotn q w)with h|h
 ·rw[if_neg (by omega),if_pos h]
 ·rw[if_pos (by omega),if_neg (by omega)];rfl
theorem iw:∀(n:Nat) (f:Nat->Int) (q:Nat) (d:Int) (w:Nat),q<2^n->w<2^n->gH n (fun p=>if p=q then f p+d else f p) w=gH n f w+d*sg q w
 | 0,f,q,d,w,hq,hw=>by
  have h1:q=0:=by simpa using hq
  have h2:w=0:=by simpa using hw
  subst h1;subst h2;show(if 0=0 then f 0+d else f 0)=f 0+d*sg 0 0;rw[if_pos rfl];have:sg 0 0=1:=by simp[sg,jP]
  rw[this];omega
 |n+1,f,q,d,w,hq,hw=>by
  have e:2^(n+1)=2^n+2^n:=by rw[pow_succ];omega
  by_cases hq1:q<2^n
  ·have second:(fun p=>(fun p=>if p=q then f p+d else f p) (p+2^n))=fun p=>f (p+2^n):=by
    funext p;show(if p+2^n=q then _ else _)=_;rw[if_neg (by omega)]
   unfold gH;rw[second];by_cases hw1:w<2^n
   ·rw[if_pos hw1,if_pos hw1,iw n f q d w hq1 hw1];omega
   ·rw[if_neg hw1,if_neg hw1,iw n f q d (w-2^n) hq1 (by omega)]
    have:=LU (n:=n) (q:=q) (w:=w-2^n) (by omega) hq1;rw[show w-2^n+2^n=w by omega]at this;rw[this];omega
  ·obtain⟨q',rfl⟩:∃q',q=q'+2^n:=⟨q-2^n,by omega⟩
   have hq':q'<2^n:=by omega
   have second:(fun p=>(fun p=>if p=q'+2^n then f p+d else f p) (p+2^n))=fun p=>if p=q' then(fun p=>f (p+2^n)) p+d else(fun p=>f (p+2^n)) p:=by
    funext p;by_cases h:p=q'
    ·subst h;simp
    ·show(if p+2^n=q'+2^n then _ else _)=_
     rw[if_neg (by omega),if_neg h]
   have first:∀w,gH n (fun p=>if p=q'+2^n then f p+d else f p) w=gH n f w:=fun w=>ix n _ _ w fun p hp=>if_neg (by omega)
   unfold gH;rw[second,first,first];by_cases hw1:w<2^n
   ·rw[if_pos hw1,if_pos hw1,iw n _ q' d w hq' hw1,Ic hw1 hq'];omega
   ·rw[if_neg hw1,if_neg hw1,iw n _ q' d (w-2^n) hq' (by omega)]
    have:=ED (n:=n) (q:=q') (w:=w-2^n) (by omega) hq';rw[show w-2^n+2^n=w by omega]at this;rw[this,Int.mul_neg];omega
theorem lm:∀(n w:Nat),gH n (fun _=>0) w=0
 | 0,w=>rfl
 |n+1,w=>by
  unfold gH;rw[lm n w,lm n (w-2^n)];split<;>rfl
def plc(b:Nat):List Nat->Nat
 |[]=>0
 |h::t=>b/2^h%2+2*plc b t
theorem B0(b:Nat):∀hs:List Nat,plc b hs<2^hs.length
 |[]=>by simp[plc]
 |h::t=>by
  have:=B0 b t;unfold plc;rw[length_cons,pow_succ];omega
theorem LQ(f:Nat->Nat)(n:Nat):((List.range (n+1)).map fun k=>f k*2^k).sum=f 0+2*((List.range n).map fun k=>f (k+1)*2^k).sum:=by
 rw[List.range_succ_eq_map,map_cons,sum_cons,map_map,pow_zero,Nat.mul_one];congr 1;generalize List.range n=l
 induction l with
 |nil=>rfl
 |cons x l ih=>
  simp only[map_cons,sum_cons,Function.comp_apply,Nat.mul_add]at ih ⊢;rw[ih];congr 1;rw[Nat.succ_eq_add_one,pow_succ];rw[<-Nat.mul_assoc,Nat.mul_comm _ 2]
theorem yo(b:Nat):∀hs:List Nat,((List.range hs.length).map fun k=>b/2^(hs.getD k 0)%2*2^k).sum=plc b hs
 |[]=>rfl
 |h::t=>by
  rw[length_cons,LQ (fun k=>b/2^((h::t).getD k 0)%2)]
  have:=yo b t;unfold plc;rw[<-this];rfl
theorem AC(b:Nat)(hs:List Nat)(hn:hs.length<=1000):bE [.int b,.tuple (az hs)]=some (.int (plc b hs:Nat)):=by
 have p:fL [.fz (.int b),.fz (.tuple (az hs))]=some (.list ((List.range hs.length).map fun k=>.int ((b/2^(hs.getD k 0)%2*2^k:Nat):Int))):=by
  unfold fL;refine jQ (yn rfl (cP hs) (by omega)) (by omega) fun k hk=>?_
  have a:=pA hs hk;have s:=yg b (hs.getD k 0);have o:=KQ (b/2^(hs.getD k 0));have l:=nT (a:=b/2^(hs.getD k 0)%2) k (jJ (by omega)) (by omega);generalize hs.getD k 0=h at *;generalize b/2^h=c at *;generalize c%2*2^k=z at *;generalize c%2=y at *;simp[eM,a,s,o,l]
 have sm:=uN (fun k=>((b/2^(hs.getD k 0)%2*2^k:Nat):Int)) (List.range hs.length)
 rw[uJ,yo]at sm;have st:av eL [.int b,.tuple (az hs)]=[.fz (.int b),.fz (.tuple (az hs))]:=rfl;simp only[bE,aU,st,gC,bJ,VL.os,ad,ao,p,sm,Option.bind_some];rfl
theorem ir{N q:Nat}(f:Nat->Int)(h:q<N):fZ (aJ N f) (q:Int)=some (.int (f q)):=by
 refine fN rfl ?_;unfold aJ;rw[getElem?_map,getElem?_range h];rfl
theorem mq{N q:Nat}(f:Nat->Int)(e:Int)(h:q<N):lY (aJ N f) (.int (q:Int)) (.int (f q+e))=some (aJ N fun p=>if p=q then f p+e else f p):=by
 rw[fH,f7,CO h];show some _=some _;congr 1;unfold aJ;apply ext_getElem?;intro i;by_cases hi:i=q
 ·subst hi
  rw[List.getElem?_set_self (by simpa using h),getElem?_map,getElem?_range h];simp
 ·rw[List.getElem?_set_ne (Ne.symm hi),getElem?_map,getElem?_map]
  by_cases h2:i<N
  ·rw[getElem?_range h2];simp[hi]
  ·rw[getElem?_eq_none (by simp;omega)];rfl
theorem LS(P H:D)(told F b e q old:Int)(W W':List D)(x6 x7:Sl)(hp:bE [.int b,H]=some (.int q))(hv:de [.int b,.int told]=some (.int 0))(hi:fZ W q=some (.int old))(hs:lY W (.int q) (.int (old+e))=some W'):
  cB [.fz P,.fz (.int told),.fz H,.fz (.int F),.ow W,.fz (.tuple [.int b,.int e]),x6,x7]=some (.nx,[.fz P,.fz (.int told),.fz H,.fz (.int F),.ow W',.fz (.tuple [.int b,.int e]),.fz (.int q),x7]):=by
 simp[cB,hp,hv,hi,hs,-fH]
theorem LR(P H:D)(told F b e q old:Int)(W W':List D)(x6 x7:Sl)(hp:bE [.int b,H]=some (.int q))(hv:de [.int b,.int told]=some (.int 1))(hi:fZ W q=some (.int old))(hs:lY W (.int q) (.int (old-e))=some W'):
  cB [.fz P,.fz (.int told),.fz H,.fz (.int F),.ow W,.fz (.tuple [.int b,.int e]),x6,x7]=some (.nx,[.fz P,.fz (.int told),.fz H,.fz (.int (F+e)),.ow W',.fz (.tuple [.int b,.int e]),.fz (.int q),x7]):=by
 simp[cB,hp,hv,hi,hs,-fH]
def fx(told:Nat):List (Nat×Int)->Int
 |[]=>0
 |p::r=>p.2*(dotn p.1 told%2:Nat)+fx told r
noncomputable def hx(told:Nat)(hs:List Nat)(w:Nat):List (Nat×Int)->Int
 |[]=>0
 |p::r=>p.2*(1-2*(dotn p.1 told%2:Nat))*sg (plc p.1 hs) w+hx told hs w r
noncomputable def ii(told:Nat)(hs:List Nat)(w:Nat):List (Nat×Int)->Int
 |[]=>0
 |p::r=>p.2*((dotn p.1 told+dotn (plc p.1 hs) w)%2:Nat)+ii told hs w r
theorem PU(q:Nat):sg q 0=1:=by simp[sg,jP]
theorem Ch(e:Int)(v d:Nat)(s:Int)(hs:s=if d%2=0 then 1 else -1):e*(1-2*(v%2:Nat))*1-e*(1-2*(v%2:Nat))*s=2*(e*((v+d)%2:Nat)-e*(v%2:Nat)):=by
 rcases Nat.mod_two_eq_zero_or_one v with hv|hv<;>rcases Nat.mod_two_eq_zero_or_one d with hd|hd
 ·rw[if_pos hd]at hs;rw[hs,hv,show(v+d)%2=0 by omega];omega
 ·rw[if_neg (by omega)]at hs;rw[hs,hv,show(v+d)%2=1 by omega];omega
 ·rw[if_pos hd]at hs;rw[hs,hv,show(v+d)%2=1 by omega];omega
 ·rw[if_neg (by omega)]at hs;rw[hs,hv,show(v+d)%2=0 by omega];omega
theorem Hv(told:Nat)(hs:List Nat)(w:Nat):∀ps:List (Nat×Int),hx told hs 0 ps-hx told hs w ps=2*(ii told hs w ps-fx told ps)
 |[]=>rfl
 |p::r=>by
  have ih:=Hv told hs w r;have o:=Ch p.2 (dotn p.1 told) (dotn (plc p.1 hs) w) (sg (plc p.1 hs) w) rfl;unfold hx ii fx;rw[PU];omega
theorem sP(P:D)(told:Nat)(hs:List Nat)(x7:Sl){L:Nat}(ht:told<2^L)(hL:L<=100000)(hn:hs.length<=1000):∀(ps:List (Nat×Int)) (F:Int) (f:Nat->Int) (x5 x6:Sl),∃(f':Nat->Int) (y5 y6:Sl),(∀w,w<2^hs.length->gH hs.length f' w=gH hs.length f w+hx told hs w ps) /\
  loop (gN 5) cB (ps.map m7) [.fz P,.fz (.int told),.fz (.tuple (az hs)),.fz (.int F),.ow (aJ (2^hs.length) f),x5,x6,x7]=some (.nx,[.fz P,.fz (.int told),.fz (.tuple (az hs)),.fz (.int (F+fx told ps)),.ow (aJ (2^hs.length) f'),y5,y6,x7])
 |[],F,f,x5,x6=>⟨f,x5,x6,fun w _=>by unfold hx;omega,by unfold fx;rw[add_zero];rfl⟩
 |p::ps,F,f,x5,x6=>by
  have hq:=B0 p.1 hs;have hp:=AC p.1 hs hn;have hv:=Ba (b:=p.1) ht hL;rcases Nat.mod_two_eq_zero_or_one (dotn p.1 told)with h|h
  ·rw[h]at hv
   obtain⟨f',y5,y6,i1,i2⟩:=sP P told hs x7 ht hL hn ps F (fun r=>if r=plc p.1 hs then f r+p.2 else f r) (.fz (m7 p)) (.fz (.int (plc p.1 hs:Nat)));refine⟨f',y5,y6,fun w hw=>?_,?_⟩
   ·rw[i1 w hw,iw _ _ _ _ _ hq hw]
    rw[show hx told hs w (p::ps)=p.2*(1-2*(dotn p.1 told%2:Nat))*sg (plc p.1 hs) w+hx told hs w ps from rfl,h,show p.2*(1-2*((0:Nat):Int))=p.2 by omega];omega
   ·rw[map_cons,aE (δ1:=[.fz P,.fz (.int told),.fz (.tuple (az hs)),.fz (.int F),.ow (aJ (2^hs.length) f),.fz (m7 p),x6,x7]) rfl (LS P _ told F p.1 p.2 _ _ _ _ x6 x7 hp hv (ir f hq) (mq f p.2 hq))]
    refine i2.trans ?_;rw[show fx told (p::ps)=p.2*(dotn p.1 told%2:Nat)+fx told ps from rfl,h,show F+(p.2*((0:Nat):Int)+fx told ps)=F+fx told ps by omega]
  ·rw[h]at hv
   obtain⟨f',y5,y6,i1,i2⟩:=sP P told hs x7 ht hL hn ps (F+p.2) (fun r=>if r=plc p.1 hs then f r + -p.2 else f r) (.fz (m7 p)) (.fz (.int (plc p.1 hs:Nat)));refine⟨f',y5,y6,fun w hw=>?_,?_⟩
   ·rw[i1 w hw,iw _ _ _ _ _ hq hw]
    rw[show hx told hs w (p::ps)=p.2*(1-2*(dotn p.1 told%2:Nat))*sg (plc p.1 hs) w+hx told hs w ps from rfl,h,show p.2*(1-2*((1:Nat):Int)) = -p.2 by omega];omega
   ·rw[map_cons,aE (δ1:=[.fz P,.fz (.int told),.fz (.tuple (az hs)),.fz (.int F),.ow (aJ (2^hs.length) f),.fz (m7 p),x6,x7]) rfl (LR P _ told F p.1 p.2 _ _ _ _ x6 x7 hp hv (ir f hq) (by rw[Int.sub_eq_add_neg];exact mq f (-p.2) hq))]
    refine i2.trans ?_;rw[show fx told (p::ps)=p.2*(dotn p.1 told%2:Nat)+fx told ps from rfl,h,show F+(p.2*((1:Nat):Int)+fx told ps)=F+p.2+fx told ps by omega]
theorem yB(N:Nat):(List.replicate N [PyData.int 0]).flatten=aJ N fun _=>0:=by
 unfold aJ;rw[List.flatten_replicate_singleton,List.map_const',length_range]
theorem N1(P:D)(L:List D)(told:Int)(H:List D)(n F:Int)(N:Int)(W A:List D)(V:D)(W0:List D)(y5 y6:Sl)(h0:eA P=some L)(hl:(H.length:Int)=n)(h1:gF (.int 1) (.int n)=some (.int N))(h2:ni (.list [.int 0]) (.int N)=some (.list W0))(h3:loop (gN 5) cB L [.fz P,.fz (.int told),.fz (.tuple H),.fz (.int 0),.ow W0,.un,.un,.un]=some (.nx,[.fz P,.fz (.int told),.fz (.tuple H),.fz (.int F),.ow W,y5,y6,.un]))
  (h4:fw [.list W]=some (.list A)) (h5:iR [.fz P,.fz (.int told),.fz (.tuple H),.fz (.int F),.fz (.list W),y5,y6,.fz (.list A)]=some V):bc [P,.int told,.tuple H]=some V:=by
 simp only[bc,aU,ju,av,ap,aC,bJ,lW,rM,yA,o2,oV,oC,oI,VL.os,ad,ao];simp[h0,hl,h1,h2,h3,h4,h5,Aq,Hy]
theorem rJ(P:D)(ps:List (Nat×Int))(told:Nat)(hs:List Nat){L:Nat}(hP:eA P=some (ps.map m7))(ht:told<2^L)(hL:L<=100000)(hn:hs.length<=12):bc [P,.int told,.tuple (az hs)]=some (.list (aJ (2^hs.length) fun w=>ii told hs w ps)):=by
 have le:2^hs.length<=2^12:=pow_le_pow_right (by decide) hn;have pos:0<2^hs.length:=pow_pos (by decide);obtain⟨f',y5,y6,i1,i2⟩:=sP P told hs .un ht hL (by omega) ps 0 (fun _=>0) .un .un;have h1:=nT (a:=1) hs.length (jJ (by decide)) (by omega);rw[one_mul]at h1;have h2:ni (.list [.int 0]) (.int ((2^hs.length:Nat):Int))=some (.list (aJ (2^hs.length) fun _=>0)):=by
  rw[yE (by omega) (by omega) (by simp only[length_cons,List.length_nil];rw[toNat_natCast];omega),toNat_natCast,yB]
 have h4:=ud hs.length 14 f' (by omega) hn;refine N1 P _ told _ _ _ _ _ _ _ _ y5 y6 hP (by rw[cP]) h1 h2 i2 h4 ?_;rw[Int.zero_add];have h0:=ir (N:=2^hs.length) (gH hs.length f') pos;have go:∀w,w<2^hs.length->fx told ps+(gH hs.length f' 0-gH hs.length f' w)/2=ii told hs w ps:=fun w hw=>by
  rw[i1 w hw,i1 0 pos,lm,lm];have:=Hv told hs w ps;omega
 generalize hA:gH hs.length f'=g at *;generalize fx told ps=F at *;generalize aJ (2^hs.length) f'=W;unfold iR;refine(js (xs:=List.range (2^hs.length)) (h:=fun w=>.int (g w)) (k:=fun w=>.int (F+(g 0-g w)/2)) ?_ (by rw[length_range];omega) fun w hw=>?_).trans ?_
 ·exact Fu rfl
 ·have h0:fZ (aJ (2^hs.length) g) 0=some (.int (g 0)):=h0
  generalize aJ (2^hs.length) g=A at *;simp[eM,h0]
 ·have e:((List.range (2^hs.length)).map fun w=>PyData.int (F+(g 0-g w)/2))=aJ (2^hs.length) fun w=>ii told hs w ps:=map_congr_left fun w hw=>by rw[go w (List.mem_range.mp hw)]
  rw[e]
theorem FG{a:Nat}(b:Nat)(ha:a<2^60):pC (.int (a:Int)) (.int (b:Int))=some (.int ((a*b:Nat):Int)):=by
 have:IntMulOk (a:Int) (b:Int):=.of_left (le_trans (MA.lD (m:=60) (by rw[Int.natAbs_natCast];exact ha)) (by decide));rw[Cz this];congr 2
def bo(w p:Nat):List Nat:=(List.range w).map fun j=>p/2^(w-1-j)%2
def wJ:List Nat->Nat
 |[]=>0
 |x::t=>x+2*wJ t
theorem Cl:∀l:List Nat,(∀x∈l,x<2)->wJ l<2^l.length
 |[],_=>by simp[wJ]
 |x::t,h=>by
  have:=Cl t fun y hy=>h y (mem_cons_of_mem _ hy)
  have:=h x mem_cons_self;unfold wJ;rw[length_cons,pow_succ];omega
theorem yw:∀l:List Nat,((List.range l.length).map fun k=>l.getD k 0*2^k).sum=wJ l
 |[]=>rfl
 |h::t=>by
  rw[length_cons,LQ (fun k=>(h::t).getD k 0)]
  have:=yw t;unfold wJ;rw[<-this];rfl
theorem qi(w p:Nat)(hw:w<=100):dX [.int w,.int p]=some (.tuple (az (bo w p))):=by
 have e:kj [.fz (.int w),.fz (.int p)]=some (.list ((List.range w).map fun j=>.int ((p/2^(w-1-j)%2:Nat):Int))):=by
  unfold kj;refine jQ (Hg (ds:=[.int w]) rfl (EH (by omega))) (by omega) fun k hk=>?_
  have s:=yg p (w-1-k);have o:=KQ (p/2^(w-1-k));rw[show(((w-1-k:Nat):Int))=(w:Int)-1-k by omega]at s;generalize p/2^(w-1-k)=c at *;generalize c%2=d at *;simp[eM,s,o]
 have en:((List.range w).map fun j=>PyData.int ((p/2^(w-1-j)%2:Nat):Int))=az (bo w p):=by
  unfold az bo;rw[map_map];rfl
 rw[en]at e;have st:av jV [.int w,.int p]=[.fz (.int w),.fz (.int p)]:=rfl;refine Cr rfl (δ':=[.fz (.int w),.fz (.int p)]) ?_;rw[st];simp only[mI,bJ,VL.os,ad,ao,e,Option.bind_some,uD]
theorem HM(w b e:Int)(M X Y:List D)(A1 A2 A3 S:D)(h1:dX [.int w,.int b]=some (.tuple X))(h2:dX [.int w,.int e]=some (.tuple Y))(a1:aR (.tuple [.int 1]) (.tuple X)=some A1)(a2:aR A1 (.tuple Y)=some A2)(a3:aR A2 (.tuple M)=some A3)
  (p:ji [.fz (.int w),.fz (.int b),.fz (.tuple M),.fz (.int e),.fz A3]=some S) (T:D) (q:zK [S]=some T):b5 [.int w,.int b,.tuple M,.int e]=some T:=by
 simp[b5,aU,kx,av,h1,h2,a1,a2,a3,p,q]
theorem hZ(w p:Nat):(bo w p).length=w:=by simp[bo]
theorem zi(w p:Nat):∀x∈bo w p,x<2:=fun x hx=>by
 obtain⟨j,_,rfl⟩:=List.mem_map.mp hx;exact Nat.mod_lt _ (by decide)
noncomputable def tb(w b e:Nat):Nat->Nat
 | 0=>1
 |j+1=>tb w b e j+b/2^(w-1-j)%2*2^(1+j)+e/2^(w-1-j)%2*2^(1+w+j)
noncomputable def tm(w:Nat)(ms:List Nat)(T:Nat):Nat->Nat
 | 0=>T
 |m+1=>tm w ms T m+ms.getD m 0*2^(1+2*w+m)
noncomputable def mL(told:Nat)(hs:List Nat)(way:Nat):Nat->Nat
 | 0=>told
 |k+1=>mL told hs way k+way/2^k%2*2^hs.getD k 0
def Lq(told:Nat)(hs:List Nat):Prop:=hs.Pairwise (· < ·)/\∀h∈hs,told<2^h
theorem Gf{hs:List Nat}(H:hs.Pairwise (· < ·)){i j:Nat}(hi:i<j)(hj:j<hs.length):hs.getD i 0<hs.getD j 0:=by
 rw[getD_eq_getElem?_getD,getElem?_eq_getElem (by omega),getD_eq_getElem?_getD,getElem?_eq_getElem hj];exact List.pairwise_iff_getElem.mp H i j (by omega) hj hi
theorem Bq{told way:Nat}{hs:List Nat}(H:Lq told hs):∀k,k<=hs.length->∀j,k<=j->j<hs.length->mL told hs way k<2^hs.getD j 0
 | 0,_,j,_,hj=>H.2 _ (Db hj)
 |k+1,hk,j,hkj,hj=>by
  have ih:=Bq H (way:=way) k (by omega) k (Nat.le_refl _) (by omega);have lt:=Gf H.1 (show k<j by omega) hj;have:2^(hs.getD k 0+1)<=2^hs.getD j 0:=pow_le_pow_right (by decide) lt;rw[pow_succ]at this;have w:way/2^k%2=0\/way/2^k%2=1:=by omega
  unfold mL;rcases w with w|w
  ·rw[w];omega
  ·rw[w];omega
theorem yc{told way b:Nat}{hs:List Nat}(H:Lq told hs):∀k,k<=hs.length->dotn b (mL told hs way k)=dotn b told+((List.range k).map fun j=>b/2^hs.getD j 0%2*(way/2^j%2)).sum
 | 0,_=>by simp[mL]
 |k+1,hk=>by
  have lt:=Bq H (way:=way) k (by omega) k (Nat.le_refl _) (by omega);unfold mL;rw[AK b _ lt (Nat.mod_lt _ (by decide)),yc H k (by omega),List.range_succ,map_append,List.sum_append];simp;omega
theorem zH(f:Nat->Nat)(n:Nat):((List.range (n+1)).map f).sum=f 0+((List.range n).map fun k=>f (k+1)).sum:=by
 rw[List.range_succ_eq_map,map_cons,sum_cons,map_map];rfl
theorem yp(b:Nat):∀(hs:List Nat) (way:Nat),dotn (plc b hs) way=((List.range hs.length).map fun j=>b/2^hs.getD j 0%2*(way/2^j%2)).sum
 |[],way=>by
  show dotn 0 way=0;rw[f9,jP]
 |h::t,way=>by
  have ih:=yp b t (way/2);rw[length_cons,zH,eS];unfold plc;rw[show(b/2^h%2+2*plc b t)%2=b/2^h%2 by omega,show(b/2^h%2+2*plc b t)/2=plc b t by omega,ih];have e:∀k,way/2/2^k=way/2^(k+1):=fun k=>by rw[Nat.div_div_eq_div_mul,pow_succ,Nat.mul_comm]
  simp[e]
theorem D2{told way b:Nat}{hs:List Nat}(H:Lq told hs):dotn b (mL told hs way hs.length)=dotn b told+dotn (plc b hs) way:=by
 rw[yc H _ (Nat.le_refl _),yp]
def pd:MA.Q4:=⟨1,0,0,0⟩
noncomputable def acc(t B:Nat->Int):Nat->MA.Q4
 | 0=>⟨0,0,0,0⟩
 |k+1=>if B k=0 then MA.Q4.add (acc t B k) (MA.cj (t k%8).toNat pd)else acc t B k
theorem Eg(x y:MA.Q4):MA.Q4.tn (MA.Q4.add x y)=MA.Q4.add (MA.Q4.tn x) (MA.Q4.tn y):=by
 apply MA.Q4.ext'<;>simp[MA.Q4.tn,MA.Q4.add]<;>omega
theorem oz(x y:MA.Q4):∀n:Nat,MA.cj n (MA.Q4.add x y)=MA.Q4.add (MA.cj n x) (MA.cj n y)
 | 0=>rfl
 |n+1=>by
  show MA.Q4.tn (MA.cj n (MA.Q4.add x y))=_;rw[oz x y n,Eg];rfl
theorem kb:∀n:Nat,MA.cj n ⟨0,0,0,0⟩=⟨0,0,0,0⟩
 | 0=>rfl
 |n+1=>by
  show MA.Q4.tn (MA.cj n ⟨0,0,0,0⟩)=_;rw[kb n];rfl
theorem qD(c:Nat)(t B:Nat->Int):∀k:Nat,acc (fun w=>(c:Int)+t w) B k=MA.cj c (acc t B k)
 | 0=>(kb c).symm
 |k+1=>by
  unfold acc;by_cases h:B k=0
  ·rw[if_pos h,if_pos h,oz,qD c t B k]
   have e:(((c:Int)+t k)%8).toNat=(c+(t k%8).toNat)%8:=by omega
   rw[e,MA.nK,MA.iG]
  ·rw[if_neg h,if_neg h,qD c t B k]
theorem DI(t B:Nat->Int):∀k:Nat,MA.Q4.Le k (acc t B k)
 | 0=>⟨Nat.le_refl 0,Nat.le_refl 0,Nat.le_refl 0,Nat.le_refl 0⟩
 |k+1=>by
  have ih:=DI t B k;have u:MA.Q4.Le 1 (MA.cj (t k%8).toNat pd):=MA.lR _ ⟨by decide,by decide,by decide,by decide⟩;obtain⟨i1,i2,i3,i4⟩:=ih;obtain⟨u1,u2,u3,u4⟩:=u;unfold acc;split
  ·exact⟨by show(_+_:Int).natAbs<=_;omega,by show(_+_:Int).natAbs<=_;omega,by show(_+_:Int).natAbs<=_;omega,by show(_+_:Int).natAbs<=_;omega⟩
  ·exact⟨by omega,by omega,by omega,by omega⟩
def kd(t:Nat):Nat×Int:=(t,1)
noncomputable def res(y:MA.Q4)(hv:Int):D:=if hv<0 then tup5 (MA.Q4.rtn (-hv).toNat y) 0 else tup5 (MA.num y hv).1 (MA.num y hv).2
def Jm:Sf:=aC 4 (o2 (oV 0) (oC (.int 5)) ay)
def Jl:Sf:=dF (ob (o2 (VL.os (ad (oV 4) (ao)) fV) (oC (.int 12)) Ln)) (Lf) (m6)
noncomputable def Jk:Sf:=aC 5 (VL.os (ad (o2 (o2 (oV 0) (oC (.int 0)) ay) (oC (.int 0)) ay) (ad (oV 1) (ad (oV 2) (ad (oV 3) (ao))))) b5)
noncomputable def Jj:Sf:=aC 6 (VL.os (ad (o2 (oV 0) (oC (.int 3)) ay) (ad (oV 5) (ad (oV 4) (ao)))) bc)
def Ji:Sf:=aC 7 (VL.os (ad (dq) (ad (oV 5) (ad (oV 4) (ao)))) bc)
def Jh:Sf:=rM 8 (yA (o2 (VL.os (ad (oC (.int 0)) (ao)) gG) (oC (.int 8)) ni))
def Jg:Sf:=lW (oL (ad (VL.os (ad (oV 6) (ao)) fV) (ao)) bP) (gN 9) (bO)
noncomputable def Jf:Sf:=aC 10 (VL.os (ad (o2 (fJ 8 (oC (.int 0))) (fJ 8 (oC (.int 4))) bC) (ad (o2 (fJ 8 (oC (.int 1))) (fJ 8 (oC (.int 5))) bC) (ad (o2 (fJ 8 (oC (.int 2))) (fJ 8 (oC (.int 6))) bC) (ad (o2 (fJ 8 (oC (.int 3))) (fJ 8 (oC (.int 7))) bC) (ad (oC (.int 0)) (ao)))))) bn)
noncomputable def Je:Sf:=bJ (VL.os (ad (VL.os (ad (oV 10) (ad (o2 (oV 0) (oC (.int 2)) ay) (ao))) dL) (ad (o2 (oV 0) (oC (.int 1)) ay) (ao))) bT)
theorem Mu:jv=ap Jm (ap Jl (ap Jk (ap Jj (ap Ji (ap Jh (ap Jg (ap Jf (Je)))))))):=rfl
theorem AF(y:MA.Q4)(hv:Int)(h:MA.Q4.Le (2^100000) y)(h1:-1000<=hv)(h2:hv<=1000):bT [tup5 y 0,.int hv]=some (res y hv):=by
 unfold res;by_cases q:hv<0
 ·rw[if_pos q]
  have o:=Fi y 0 (-hv) h (by omega) (by omega);rw[show -hv-0 = -hv by omega]at o;generalize MA.Q4.rtn (-hv).toNat y=z at *;have a:aR (tup4 z) (.tuple [.int 0])=some (tup5 z 0):=by
   unfold tup4 tup5;rw[jy (by simp)];rfl
  generalize tup4 z=Z at *;generalize tup5 z 0=R at *;generalize tup5 y 0=Y at *;simp[bT,aU,g9,av,q,o,a]
 ·rw[if_neg q]
  have n:=Oj y hv (by omega);generalize tup5 (MA.num y hv).1 (MA.num y hv).2=R at *;obtain⟨a,b,c,d⟩:=y;simp[bT,aU,g9,av,q,tup5,n]
def qf(f:Nat->Int):MA.Q4:=⟨f 0-f 4,f 1-f 5,f 2-f 6,f 3-f 7⟩
theorem EN(f:Nat->Int)(j:Nat)(hj:j<8):qf (fun p=>if p=j then f p+1 else f p)=MA.Q4.add (qf f) (MA.cj j pd):=by
 have w:j=0\/j=1\/j=2\/j=3\/j=4\/j=5\/j=6\/j=7:=by omega
 rcases w with rfl|rfl|rfl|rfl|rfl|rfl|rfl|rfl
 all_goals
  apply MA.Q4.ext'<;>simp[qf,MA.Q4.add,MA.cj,MA.Q4.tn,pd]<;>omega
theorem Op(T B W W':List D)(k t b q old:Int)(x0 x1 x2 x3 x4 x5 x10:Sl)(hb:fZ B k=some (.int b))(ht:fZ T k=some (.int t))(hq:t%8=q)(ho:fZ W q=some (.int old))(hp:lY W (.int q) (.int (old+1))=some W'):
  bO [x0,x1,x2,x3,x4,x5,.fz (.list T),.fz (.list B),.ow W,.fz (.int k),x10]=some (.nx,if b=0 then [x0,x1,x2,x3,x4,x5,.fz (.list T),.fz (.list B),.ow W',.fz (.int k),x10]else [x0,x1,x2,x3,x4,x5,.fz (.list T),.fz (.list B),.ow W,.fz (.int k),x10]):=by
 by_cases h:b=0
 ·subst h
  rw[if_pos rfl];simp[bO,-fH,hb,ht,hq,ho,hp]
 ·rw[if_neg h]
  have hb':(b==0)=false:=by simpa using h
  simp[bO,hb,hb']
theorem FE(N:Nat)(t b:Nat->Int)(x0 x1 x2 x3 x4 x5 x10:Sl):∃(f:Nat->Int) (x9:Sl),qf f=acc t b N/\loop (gN 9) bO (oR 0 N) [x0,x1,x2,x3,x4,x5,.fz (.list (aJ N t)),.fz (.list (aJ N b)),.ow (aJ 8 fun _=>0),.un,x10]=some (.nx,[x0,x1,x2,x3,x4,x5,.fz (.list (aJ N t)),.fz (.list (aJ N b)),.ow (aJ 8 f),x9,x10]):=by
 obtain⟨δ,e,f,x9,hf,rfl⟩:=pF (b:=bO) (k:=9) (fun i δ=>∃(f:Nat->Int) (x9:Sl),qf f=acc t b i /\ δ = [x0,x1,x2,x3,x4,x5,.fz (.list (aJ N t)),.fz (.list (aJ N b)),.ow (aJ 8 f),x9,x10]) N (fun i hi δ hd=>by
  obtain⟨f,x9,hf,rfl⟩:=hd;obtain⟨q,hq⟩:∃q:Nat,t i%8=q:=⟨(t i%8).toNat,by omega⟩;have hq8:q<8:=by omega
  have z:=Op (aJ N t) (aJ N b) (aJ 8 f) _ i (t i) (b i) q (f q) x0 x1 x2 x3 x4 x5 x10 (ir b hi) (ir t hi) hq (ir f hq8) (mq f 1 hq8);have ea:acc t b (i+1)=if b i=0 then MA.Q4.add (acc t b i) (MA.cj (t i%8).toNat pd)else acc t b i:=rfl
  rw[hq,toNat_natCast]at ea;by_cases h:b i=0
  ·rw[if_pos h]at z ea
   exact⟨_,z,(fun p=>if p=q then f p+1 else f p),.fz (.int i),by rw[EN f q hq8,hf,ea],rfl⟩
  ·rw[if_neg h]at z ea
   exact⟨_,z,f,.fz (.int i),by rw[hf,ea],rfl⟩) [x0,x1,x2,x3,x4,x5,.fz (.list (aJ N t)),.fz (.list (aJ N b)),.ow (aJ 8 fun _=>0),.un,x10] ⟨fun _=>0,.un,rfl,rfl⟩
 exact⟨f,x9,hf,e⟩
theorem Os:ni (.list [.int 0]) (.int 8)=some (.list (aJ 8 fun _=>0)):=by
 have h:=yE (xs:=[.int 0]) (k:=((8:Nat):Int)) (by omega) (by omega) (by rw[toNat_natCast];simp);rw[toNat_natCast,yB]at h;exact h
theorem Qh(O H:D)(o5:ay O (.int 5)=some H)(x1 x2 x3 x4 x5 x6 x7 x8 x9 x10:Sl):Jm [.fz O,x1,x2,x3,x4,x5,x6,x7,x8,x9,x10]=some (.nx,[.fz O,x1,x2,x3,.fz H,x5,x6,x7,x8,x9,x10]):=by simp[Jm,o5]
theorem Qg(H:List D)(hl:¬ 12<(H.length:Int))(x0 x1 x2 x3 x5 x6 x7 x8 x9 x10:Sl):Jl [x0,x1,x2,x3,.fz (.tuple H),x5,x6,x7,x8,x9,x10]=some (.nx,[x0,x1,x2,x3,.fz (.tuple H),x5,x6,x7,x8,x9,x10]):=by
 simp[Jl,hl]
theorem Qf(O B M E T:D)(w:Int)(S:D)(o0:ay O (.int 0)=some S)(o00:ay S (.int 0)=some (.int w))(g1:b5 [.int w,B,M,E]=some T)(x4 x5 x6 x7 x8 x9 x10:Sl):Jk [.fz O,.fz B,.fz M,.fz E,x4,x5,x6,x7,x8,x9,x10]=some (.nx,[.fz O,.fz B,.fz M,.fz E,x4,.fz T,x6,x7,x8,x9,x10]):=by simp[Jk,o0,o00,g1]
theorem Qe(O P H T U:D)(o3:ay O (.int 3)=some P)(g:bc [P,T,H]=some U)(x1 x2 x3 x6 x7 x8 x9 x10:Sl):Jj [.fz O,x1,x2,x3,.fz H,.fz T,x6,x7,x8,x9,x10]=some (.nx,[.fz O,x1,x2,x3,.fz H,.fz T,.fz U,x7,x8,x9,x10]):=by simp[Jj,o3,g]
theorem Qd(H T S U:D)(x0 x1 x2 x3 x6 x7 x8 x9 x10:Sl)(p:dq [x0,x1,x2,x3,.fz H,.fz T,x6,x7,x8,x9,x10]=some S)(g:bc [S,T,H]=some U):Ji [x0,x1,x2,x3,.fz H,.fz T,x6,x7,x8,x9,x10]=some (.nx,[x0,x1,x2,x3,.fz H,.fz T,x6,.fz U,x8,x9,x10]):=by simp[Ji,p,g]
theorem Qc(x0 x1 x2 x3 x4 x5 x6 x7 x8 x9 x10:Sl):Jh [x0,x1,x2,x3,x4,x5,x6,x7,x8,x9,x10]=some (.nx,[x0,x1,x2,x3,x4,x5,x6,x7,.ow (aJ 8 fun _=>0),x9,x10]):=by
 have m8:=Os;generalize (aJ 8 fun _=>0)=W at *;simp[Jh,yA,m8,Aq]
theorem Qb(T L:List D)(N:Int)(hN:(T.length:Int)=N)(r:bP [.int N]=some L)(x0 x1 x2 x3 x4 x5 x7 x8 x9 x10:Sl)(δ:Dv)(lp:loop (gN 9) bO L [x0,x1,x2,x3,x4,x5,.fz (.list T),x7,x8,x9,x10]=some (.nx,δ)):Jg [x0,x1,x2,x3,x4,x5,.fz (.list T),x7,x8,x9,x10]=some (.nx,δ):=by simp[Jg,hN,r,lp]
theorem Qa(W:List D)(f:Nat->Int)(hW:aJ 8 f=W)(x0 x1 x2 x3 x4 x5 x6 x7 x9 x10:Sl):Jf [x0,x1,x2,x3,x4,x5,x6,x7,.ow W,x9,x10]=some (.nx,[x0,x1,x2,x3,x4,x5,x6,x7,.ow W,x9,.fz (tup5 (qf f) 0)]):=by
 have a0:fZ W 0=some (.int (f 0)):=by rw[<-hW];rfl
 have a1:fZ W 1=some (.int (f 1)):=by rw[<-hW];rfl
 have a2:fZ W 2=some (.int (f 2)):=by rw[<-hW];rfl
 have a3:fZ W 3=some (.int (f 3)):=by rw[<-hW];rfl
 have a4:fZ W 4=some (.int (f 4)):=by rw[<-hW];rfl
 have a5:fZ W 5=some (.int (f 5)):=by rw[<-hW];rfl
 have a6:fZ W 6=some (.int (f 6)):=by rw[<-hW];rfl
 have a7:fZ W 7=some (.int (f 7)):=by rw[<-hW];rfl
 simp[Jf,a0,a1,a2,a3,a4,a5,a6,a7,tup5,qf]
theorem P9(O X Y R:D)(c hv:D)(o1:ay O (.int 1)=some hv)(o2':ay O (.int 2)=some c)(g4:dL [X,c]=some Y)(g5:bT [Y,hv]=some R)(x1 x2 x3 x4 x5 x6 x7 x8 x9:Sl):Je [.fz O,x1,x2,x3,x4,x5,x6,x7,x8,x9,.fz X]=some (.rt R,[.fz O,x1,x2,x3,x4,x5,x6,x7,x8,x9,.fz X]):=by simp[Je,o1,o2',g4,g5]
theorem Oo(O M:D)(H T B TS:List D)(b e w hv c told n N:Int)(L:List D)(f:Nat->Int)(x9:Sl)(X Y R:D)(o0:ay O (.int 0)=some (.tuple [.int w,.int n]))(o1:ay O (.int 1)=some (.int hv))(o2':ay O (.int 2)=some (.int c))(P:D)(o3:ay O (.int 3)=some P)(o4:ay O (.int 4)=some (.tuple TS))(o5:ay O (.int 5)=some (.tuple H))(hl:¬ 12<(H.length:Int))
  (g1:b5 [.int w,.int b,M,.int e]=some (.int told)) (g2:bc [P,.int told,.tuple H]=some (.list T)) (S:D) (p1:∀x6 x7,dq [.fz O,.fz (.int b),.fz M,.fz (.int e),.fz (.tuple H),.fz (.int told),x6,x7,.un,.un,.un]=some S) (g3:bc [S,.int told,.tuple H]=some (.list B)) (hN:(T.length:Int)=N) (r:bP [.int N]=some L)
  (lp:loop (gN 9) bO L [.fz O,.fz (.int b),.fz M,.fz (.int e),.fz (.tuple H),.fz (.int told),.fz (.list T),.fz (.list B),.ow (aJ 8 fun _=>0),.un,.un]=some (.nx,[.fz O,.fz (.int b),.fz M,.fz (.int e),.fz (.tuple H),.fz (.int told),.fz (.list T),.fz (.list B),.ow (aJ 8 f),x9,.un]))
  (hX:tup5 (qf f) 0=X) (g4:dL [X,.int c]=some Y) (g5:bT [Y,.int hv]=some R):aT [O,.int b,M,.int e]=some R:=by
 refine Cr (δ':=[.fz O,.fz (.int b),.fz M,.fz (.int e),.fz (.tuple H),.fz (.int told),.fz (.list T),.fz (.list B),.ow (aJ 8 f),x9,.fz X]) rfl ?_;rw[Mu];subst hX;exact(jk (Qh O _ o5 _ _ _ _ _ _ _ _ _ _)).trans ((jk (Qg H hl _ _ _ _ _ _ _ _ _ _)).trans ((jk (Qf O _ M _ _ w _ o0 rfl g1 _ _ _ _ _ _ _)).trans ((jk (Qe O P _ _ _ o3 g2 _ _ _ _ _ _ _ _)).trans ((jk (Qd _ _ S _ _ _ _ _ _ _ _ _ _ (p1 _ _) g3)).trans ((jk (Qc _ _ _ _ _ _ _ _ _ _ _)).trans ((jk (Qb T L N hN r _ _ _ _ _ _ _ _ _ _ _ lp)).trans ((jk (Qa _ f rfl _ _ _ _ _ _ _ _ _ _)).trans (P9 O _ Y R _ _ o1 o2' g4 g5 _ _ _ _ _ _ _ _ _))))))))
theorem MC(O:D)(ts:List Nat)(o4:ay O (.int 4)=some (.tuple (az ts)))(ht:ts.length<=1000)(x1 x2 x3 x4 x5 x6 x7 x8 x9 x10:Sl):dq [.fz O,x1,x2,x3,x4,x5,x6,x7,x8,x9,x10]=some (.list ((ts.map kd).map m7)):=by
 unfold dq;rw[map_map];refine js (xs:=ts) (h:=fun t=>.int ((t:Nat):Int)) ?_ (by omega) fun t _=>?_
 ·have:(oI (o2 (oV 0) (oC (.int 4)) ay) eA) [.fz O,x1,x2,x3,x4,x5,x6,x7,x8,x9,x10]=some (az ts):=by simp[o4]
  exact this
 ·simp[m7,kd]
theorem tM(w l:Nat)(hv:Int)(c:Nat)(ps:List (Nat×Int))(ts hs:List Nat)(b e told:Nat)(M:D)(g1:b5 [.int w,.int b,M,.int e]=some (.int (told:Nat)))(ht:told<2^1000)(hn:hs.length<=12)(hts:ts.length<=1000)(hc:c<8)(h1:-1000<=hv)(h2:hv<=1000):
  aT [kl w l hv c ps ts hs,.int b,M,.int e]=some (res (MA.cj c (acc (fun k=>ii told hs k ps) (fun k=>ii told hs k (ts.map kd)) (2^hs.length))) hv):=by
 have le:2^hs.length<=2^12:=pow_le_pow_right (by decide) hn;have g2:=rJ (.tuple (ps.map m7)) ps told hs (wX _) ht (by decide) hn;have g3:=rJ (.list ((ts.map kd).map m7)) (ts.map kd) told hs (Aw _) ht (by decide) hn;have r:=EH (n:=2^hs.length) (by omega);obtain⟨f,x9,hf,lp⟩:=FE (2^hs.length) (fun k=>ii told hs k ps) (fun k=>ii told hs k (ts.map kd)) (.fz (kl w l hv c ps ts hs)) (.fz (.int b)) (.fz M) (.fz (.int e)) (.fz (.tuple (az hs))) (.fz (.int told)) .un
 have bd:=DI (fun k=>ii told hs k ps) (fun k=>ii told hs k (ts.map kd)) (2^hs.length)
 have big:2^hs.length<=2^100000:=pow_le_pow_right (by decide) (by omega);have bd':MA.Q4.Le (2^100000) (acc (fun k=>ii told hs k ps) (fun k=>ii told hs k (ts.map kd)) (2^hs.length)):=⟨le_trans bd.1 big,le_trans bd.2.1 big,le_trans bd.2.2.1 big,le_trans bd.2.2.2 big⟩
 rw[<-hf]at bd' ⊢;have g4:=zE (qf f) 0 c;rw[show((c:Int)%8).toNat=c by omega]at g4;have g5:=AF (MA.cj c (qf f)) hv (MA.lR c bd') h1 h2;exact Oo (kl w l hv c ps ts hs) M (az hs) _ _ (az ts) b e w hv c told l _ _ f x9 _ _ _ (Mn _ _ _ _ _ _ _) (Mm _ _ _ _ _ _ _) (Ml _ _ _ _ _ _ _) _ (He _ _ _ _ _ _ _) (Hc _ _ _ _ _ _ _) (Mj _ _ _ _ _ _ _) (by rw[cP];omega) g1 g2 _ (fun x6 x7=>MC _ ts (Hc _ _ _ _ _ _ _) hts _ _ _ _ _ _ _ _ _ _) g3 (by rw[f7]) r lp rfl g4 g5
theorem EY:∀n:Nat,pop n=MA.v3 n:=fun n=>by
 induction n using Nat.strongRecOn with
 |_ n ih=>
  rw[kh,MA.v3];by_cases h:n=0
  ·subst h;simp[pop]
  ·rw[if_neg h,ih (n/2) (by omega)]
theorem g7(a b:Nat):dotn a b%2=par (a &&& b):=by unfold dotn par;rw[EY]
theorem vc(s t b:Nat):par ((s ^^^ t) &&& b)=(par (s &&& b)+par (t &&& b))%2:=by rw[Nat.and_xor_distrib_right,MA.yu]
theorem g6:∀(h b:Nat),dotn (2^h) b=b/2^h%2
 | 0,b=>by
  rw[eS];have:dotn (2^0/2) (b/2)=0:=by rw[show 2^0/2=0 from rfl,f9,jP]
  rw[this];simp
 |h+1,b=>by
  rw[eS,pow_succ,Nat.mul_mod_left,Nat.mul_div_cancel _ (by decide),g6 h (b/2),Nat.mul_comm (2^h) 2,<-Nat.div_div_eq_div_mul];omega
theorem Fd{b h:Nat}(hc:b/2^h%2=0):par (2^h &&& b)=0:=by rw[<-g7,g6,hc]
theorem ug{b x y:Nat}(hc:b/2^x%2=0)(hne:y≠x):(b+2^x)/2^y%2=b/2^y%2:=by
 rw[<-g6 y (b+2^x),<-g6 y b,eI x (2^y) b hc];have:2^y/2^x%2=0:=by
  rcases Nat.lt_or_gt_of_ne hne with q|q
  ·rw[div_eq_of_lt (pow_lt_pow_right (by decide) q)]
  ·rw[Nat.pow_div (by omega) (by decide)]
   obtain⟨k,hk⟩:∃k,y-x=k+1:=⟨y-x-1,by omega⟩;rw[hk,pow_succ];omega
 omega
theorem wK{b x:Nat}(hx:0<x):(b+2^x)%2=b%2:=by
 obtain⟨k,hk⟩:∃k,x=k+1:=⟨x-1,by omega⟩;rw[hk,pow_succ];omega
def q0:MA.Q4:=⟨0,0,0,0⟩
theorem wx(x y:MA.Q4):MA.Q4.add x y=MA.Q4.add y x:=by apply MA.Q4.ext'<;>simp[MA.Q4.add]<;>omega
theorem EQ(x y z:MA.Q4):MA.Q4.add (MA.Q4.add x y) z=MA.Q4.add x (MA.Q4.add y z):=by apply MA.Q4.ext'<;>simp[MA.Q4.add]<;>omega
theorem Of(x:MA.Q4):MA.Q4.add x q0=x:=by apply MA.Q4.ext'<;>simp[MA.Q4.add,q0]
theorem Io(a b c d:MA.Q4):MA.Q4.add (MA.Q4.add a b) (MA.Q4.add c d)=MA.Q4.add (MA.Q4.add a c) (MA.Q4.add b d):=by apply MA.Q4.ext'<;>simp[MA.Q4.add]<;>omega
noncomputable def j0(f:Nat->MA.Q4):List Nat->Nat->MA.Q4
 |[],b=>f b
 |h::t,b=>MA.Q4.add (j0 f t b) (j0 (fun x=>f (x+2^h)) t b)
theorem xM(f g:Nat->MA.Q4):∀(l:List Nat) (b:Nat),j0 (fun x=>MA.Q4.add (f x) (g x)) l b=MA.Q4.add (j0 f l b) (j0 g l b):=fun l=>by
 induction l generalizing f g with
 |nil=>intro b;rfl
 |cons h t ih=>
  intro b;show MA.Q4.add (j0 (fun x=>MA.Q4.add (f x) (g x)) t b) (j0 (fun x=>MA.Q4.add (f (x+2^h)) (g (x+2^h))) t b)=_
  rw[ih f g,ih (fun x=>f (x+2^h)) (fun x=>g (x+2^h)),Io]
  rfl
theorem oi(P:Nat->List Nat->Prop)(hP:∀b x t,P b (x::t)->P b t/\P (b+2^x) t):∀(l:List Nat) (f g:Nat->MA.Q4) (b:Nat),P b l->(∀x,P x []->f x=g x)->j0 f l b=j0 g l b:=fun l=>by
 suffices h:∀(a:Nat) (f g:Nat->MA.Q4) (b:Nat),P (b+a) l->(∀x,P (x+a) []->f x=g x)->j0 f l b=j0 g l b from fun f g b hb hf=>h 0 f g b hb hf
 induction l with
 |nil=>intro a f g b hb hf;exact hf b hb
 |cons x t ih=>
  intro a f g b hb hf;obtain⟨h1,h2⟩:=hP _ _ _ hb;show MA.Q4.add _ _=MA.Q4.add _ _;rw[ih a f g b h1 hf,ih (a+2^x) (fun y=>f (y+2^x)) (fun y=>g (y+2^x)) b (by rw[<-Nat.add_assoc];exact h2) fun y hy=>hf _ (by rw[Nat.add_assoc,Nat.add_comm (2^x) a];exact hy)]
def rq(G:Nat->MA.Q4):Nat->MA.Q4
 | 0=>q0
 |k+1=>MA.Q4.add (rq G k) (G k)
theorem vW(G:Nat->MA.Q4)(n:Nat):∀m,rq G (n+m)=MA.Q4.add (rq G n) (rq (fun k=>G (n+k)) m)
 | 0=>(Of _).symm
 |m+1=>by
  show MA.Q4.add (rq G (n+m)) (G (n+m))=_;rw[vW G n m,EQ];rfl
theorem mK{G K:Nat->MA.Q4}:∀n,(∀k,k<n->G k=K k)->rq G n=rq K n
 | 0,_=>rfl
 |n+1,h=>by
  show MA.Q4.add _ _=MA.Q4.add _ _;rw[mK n fun k hk=>h k (by omega),h n (by omega)]
theorem sR(told way h:Nat)(t:List Nat):∀k,k<=t.length->mL told (t++[h]) way k=mL told t way k
 | 0,_=>rfl
 |k+1,hk=>by
  show mL told (t++[h]) way k+_=mL told t way k+_;have e:(t++[h]).getD k 0=t.getD k 0:=by
   rw[getD_eq_getElem?_getD,getD_eq_getElem?_getD,List.getElem?_append_left (by omega)]
  rw[sR told way h t k (by omega),e]
theorem yb(told n way:Nat)(t:List Nat)(hw:way<2^n):∀k,k<=n->mL told t (2^n+way) k=mL told t way k
 | 0,_=>rfl
 |k+1,hk=>by
  show mL told t (2^n+way) k+_=mL told t way k+_;have e:(2^n+way)/2^k%2=way/2^k%2:=by
   obtain⟨j,hj⟩:∃j,n=k+1+j:=⟨n-(k+1),by omega⟩;rw[hj,Nat.pow_add,pow_succ,Nat.mul_assoc,Nat.add_comm,Nat.add_mul_div_left _ _ (pow_pos (by decide))];omega
  rw[yb told n way t hw k (by omega),e]
theorem Eu(told n way:Nat)(h:Nat)(t:List Nat)(hn:t.length=n)(hw:way<2^n):mL told (t++[h]) way (n+1)=mL told t way n:=by
 show mL told (t++[h]) way n+way/2^n%2*2^(t++[h]).getD n 0=_;rw[sR told way h t n (by omega),div_eq_of_lt hw];simp
theorem Br(told n way:Nat)(h:Nat)(t:List Nat)(hn:t.length=n)(hw:way<2^n):mL told (t++[h]) (2^n+way) (n+1)=mL told t way n+2^h:=by
 show mL told (t++[h]) (2^n+way) n+(2^n+way)/2^n%2*2^(t++[h]).getD n 0=_;have e1:(2^n+way)/2^n%2=1:=by
  rw[Nat.add_comm,Nat.add_div_right _ (pow_pos (by decide)),div_eq_of_lt hw]
 have e2:(t++[h]).getD n 0=h:=by
  rw[getD_eq_getElem?_getD,List.getElem?_append_right (by omega),hn];simp
 rw[sR told _ h t n (by omega),yb told n way t hw n (Nat.le_refl _),e1,e2,one_mul]
theorem uq(told:Nat):∀(l:List Nat) (f:Nat->MA.Q4),rq (fun k=>f (mL told l.reverse k l.length)) (2^l.length)=j0 f l told
 |[],f=>by
  show MA.Q4.add q0 (f told)=f told;rw[wx,Of]
 |h::t,f=>by
  have hl:t.reverse.length=t.length:=length_reverse;rw[List.reverse_cons,length_cons,pow_succ,Nat.mul_two,vW];show _=MA.Q4.add (j0 f t told) (j0 (fun x=>f (x+2^h)) t told)
  rw[<-uq told t f,<-uq told t fun x=>f (x+2^h)]
  congr 1
  ·exact mK _ fun k hk=>by rw[Eu told t.length k h t.reverse hl hk]
  ·exact mK _ fun k hk=>by
    show f (mL told (t.reverse++[h]) (2^t.length+k) (t.length+1))=_;rw[Br told t.length k h t.reverse hl hk]
theorem Og(bits:Nat)(h:bits%2=1):par (1 &&& bits)=1:=by
 rw[Nat.and_comm,Nat.and_one_is_mod,h];unfold par;rw[MA.lA,MA.lz]
theorem Ff(bits b:Nat)(hb:bits%2=1)(h:b%2=1):par (b &&& bits)=1-par ((b-1) &&& bits):=by
 have e:b=(b-1) ^^^ 1:=by rw[<-Lr b h,xor_assoc,Nat.xor_self,Nat.xor_zero]
 have:=MA.yu ((b-1) &&& bits) (1 &&& bits);rw[<-Nat.and_xor_distrib_right,<-e,Og bits hb]at this;have l:=MA.gp ((b-1) &&& bits);omega
def sm(w:Nat->Nat):As->Nat
 |[]=>0
 |p::A=>p.2*w p.1+sm w A
theorem Bx(w:Nat->Nat):∀A B:As,sm w (A++B)=sm w A+sm w B
 |[],B=>by simp[sm]
 |p::A,B=>by show _+sm w (A++B)=_;rw[Bx w A B];unfold sm;cases A<;>simp[sm,Nat.add_assoc]
theorem Bw(w:Nat->Nat)(k v:Nat):∀A:As,(aw A).Nodup->k∈aw A->sm w (A.map fun p=>if p.1=k then(p.1,v)else p)+vl A k*w k=sm w A+v*w k
 |[],_,h=>by cases h
 |p::A,nd,h=>by
  have nd':=List.nodup_cons.mp (show(p.1::aw A).Nodup from nd);rw[map_cons,eW];by_cases hp:p.1=k
  ·rw[if_pos hp,if_pos hp]
   have:(A.map fun p=>if p.1=k then(p.1,v)else p)=A:=by
    have e:∀q∈A,(fun p:Nat×Nat=>if p.1=k then(p.1,v)else p) q=q:=fun q hq=>if_neg fun z=>nd'.1 (by rw[hp,<-z];exact List.mem_map.mpr ⟨q,hq,rfl⟩)
    rw[map_congr_left e,map_id']
   rw[this];show v*w p.1+sm w A+p.2*w k=p.2*w p.1+sm w A+v*w k;rw[hp];omega
  ·rw[if_neg hp,if_neg hp]
   have hk:k∈aw A:=by
    rcases List.mem_cons.mp h with z|z
    ·exact absurd z.symm hp
    ·exact z
   have:=Bw w k v A nd'.2 hk;show p.2*w p.1+sm w (A.map fun p=>if p.1=k then(p.1,v)else p)+vl A k*w k=p.2*w p.1+sm w A+v*w k
   omega
theorem Bu(w:Nat->Nat)(A:As)(k v:Nat)(nd:(aw A).Nodup):sm w (wy A k v)+vl A k*w k=sm w A+v*w k:=by
 unfold wy;by_cases h:(A.any fun p=>decide (p.1=k))=true
 ·rw[if_pos h]
  exact Bw w k v A nd ((jU A k).mp h)
 ·rw[if_neg h,Bx,rE (fun z=>h ((jU A k).mpr z))]
  simp[sm]
theorem Ey(w:Nat->Nat)(A:As)(nd:(aw A).Nodup):sm w A=((aw A).map fun k=>vl A k*w k).sum:=by
 have e:(aw A).map (fun k=>vl A k*w k)=A.map fun p=>p.2*w p.1:=by
  unfold aw;rw[map_map];exact map_congr_left fun p hp=>by show vl A p.1*w p.1=_;rw[oj nd hp]
 rw[e];clear e nd
 induction A with
 |nil=>rfl
 |cons p A ih=>rw[map_cons,sum_cons,<-ih];rfl
theorem Bn{a b:List Nat}(h:a.Perm b):a.sum=b.sum:=by
 induction h with
 |nil=>rfl
 |cons x _ ih=>rw[sum_cons,sum_cons,ih]
 |swap x y l=>simp only[sum_cons];omega
 |trans _ _ i1 i2=>exact i1.trans i2
theorem Bv(w:Nat->Nat)(h0:w 0=0)(A:As):∀rs:List Nat,sm w (o7 A rs)=(rs.map fun k=>vl A k*w k).sum
 |[]=>rfl
 |k::rs=>by
  have ih:=Bv w h0 A rs;unfold o7 at ih ⊢;rw[map_cons,sum_cons,List.filter_cons];by_cases h:0<k/\0<vl A k
  ·rw[if_pos (by simpa using h),map_cons]
   show vl A k*w k+sm w _=_;rw[ih]
  ·rw[if_neg (by simpa using h),ih]
   have:vl A k*w k=0:=by
    rcases Nat.eq_zero_or_pos k with z|z
    ·rw[z,h0,Nat.mul_zero]
    ·have:vl A k=0:=by
      rcases Nat.eq_zero_or_pos (vl A k)with y|y
      ·exact y
      ·exact absurd ⟨z,y⟩ h
     rw[this,Nat.zero_mul]
   omega
theorem HY(w:Nat->Nat)(h0:w 0=0)(A:As)(rs:List Nat)(nd:(aw A).Nodup)(p:rs.Perm (aw A)):sm w (o7 A rs)=sm w A:=by
 rw[Bv w h0,Ey w A nd];exact Bn (p.map _)
theorem Ex(bits:Nat)(hbits:bits%2=1){A:As}(h:OkA A)(b:Nat)(e tot:Int)(hi:((vl A 0:Nat)+((sm (fun k=>par (k &&& bits)) A:Nat):Int)-tot)%8=0):
  (((vl (At A b e) 0:Nat):Int)+((sm (fun k=>par (k &&& bits)) (At A b e):Nat):Int)-(tot+e*((par (b &&& bits):Nat):Int)))%8=0:=by
 obtain⟨w,hw⟩:∃w:Nat->Nat,(fun k=>par (k &&& bits))=w:=⟨_,rfl⟩
 have w0:w 0=0:=by rw[<-hw];show par (0 &&& bits)=0;rw[zero_and,MA.pb]
 have wb:par (b &&& bits)=w b:=by rw[<-hw]
 have wl:∀k,w k<2:=fun k=>by rw[<-hw];exact MA.gp _
 have wo:b%2=1->w b=1-w (hb b):=fun o=>by
  rw[<-hw];show par (b &&& bits)=1-par (hb b &&& bits);unfold hb;rw[o];exact Ff bits b hbits o
 rw[wb];rw[hw]at hi ⊢;have s1:sm w (AY A b e)=sm w A:=by
  unfold AY;split
  ·have:=Bu w A 0 (nv (vl A 0) e) h.nd
   rw[w0]at this;omega
  ·rfl
 have s2:((sm w (At A b e):Nat):Int)=(sm w A:Nat)+((nv (vl A (hb b)) (he b e):Nat)-(vl A (hb b):Nat):Int)*(w (hb b):Nat):=by
  unfold At;by_cases z:0<hb b
  ·rw[if_pos z,Lu A b e _ z]
   have:=Bu w (AY A b e) (hb b) (nv (vl A (hb b)) (he b e)) (Oh h b e).nd;rw[Lu A b e _ z,s1]at this;have t:=congrArg (fun x:Nat=>(x:Int)) this
   simp only[Int.natCast_add,Int.natCast_mul]at t;rw[Int.sub_mul];omega
  ·rw[if_neg z,s1,show hb b=0 by omega,w0]
   simp
 rw[s2,GY];have n1:=rW (vl A (hb b)) (he b e);have n0:=rW (vl A 0) e;by_cases o:b%2=1
 ·rw[if_pos o,wo o]
  unfold he at n1 ⊢;rw[if_pos o]at n1 ⊢;have:=wl (hb b);rcases (show w (hb b)=0\/w (hb b)=1 by omega)with y|y
  ·rw[y];simp only[sub_zero,Int.natCast_zero,Int.natCast_one,Int.mul_zero,Int.mul_one,add_zero];omega
  ·rw[y];simp only[Nat.sub_self,Int.natCast_zero,Int.natCast_one,Int.mul_zero,Int.mul_one,add_zero];omega
 ·rw[if_neg o]
  have eb:hb b=b:=by unfold hb;omega
  unfold he at n1 ⊢;rw[if_neg o]at n1 ⊢;rw[eb]at n1 ⊢;have:=wl b;rcases (show w b=0\/w b=1 by omega)with y|y
  ·rw[y];simp only[Int.natCast_zero,Int.natCast_one,Int.mul_zero,Int.mul_one,add_zero];omega
  ·rw[y];simp only[Int.natCast_zero,Int.natCast_one,Int.mul_zero,Int.mul_one,add_zero];omega
def cp(b:Nat):List (Nat×Int)->Int
 |[]=>0
 |q::Q=>q.2*((par (q.1 &&& b):Nat):Int)+cp b Q
def Fq(b:Nat)(ts:List Nat):Bool:=ts.all fun t=>par (t &&& b)==0
noncomputable def FF(c:Int)(ps:List (Nat×Int))(ts:List Nat)(b:Nat):MA.Q4:=if Fq b ts=true then MA.cj ((c+cp b ps)%8).toNat pd else q0
theorem lQ{told:Nat}{hs:List Nat}(H:Lq told hs)(w:Nat):∀ps:List (Nat×Int),ii told hs w ps=cp (mL told hs w hs.length) ps
 |[]=>rfl
 |p::ps=>by
  show p.2*_+ii told hs w ps=p.2*_+cp _ ps;rw[lQ H w ps,<-D2 H,g7]
theorem lZ(b:Nat):∀ts:List Nat,0<=cp b (ts.map kd)/\(cp b (ts.map kd)=0↔Fq b ts=true)
 |[]=>⟨Int.le_refl _,by simp[cp,Fq]⟩
 |t::ts=>by
  obtain⟨h1,h2⟩:=lZ b ts;have e:cp b ((t::ts).map kd)=1*((par (t &&& b):Nat):Int)+cp b (ts.map kd):=rfl;have e2:Fq b (t::ts)=((par (t &&& b)==0)&&Fq b ts):=rfl;rw[e,e2,Bool.and_eq_true];have:=MA.gp (t &&& b);refine⟨by omega,⟨fun q=>⟨by simp;omega,h2.mp (by omega)⟩,fun q=>?_⟩⟩
  have q1:par (t &&& b)=0:=by simpa using q.1
  have:=h2.mpr q.2;omega
theorem Ng{told:Nat}{hs:List Nat}(H:Lq told hs)(c:Nat)(ps:List (Nat×Int))(ts:List Nat):MA.cj c (acc (fun k=>ii told hs k ps) (fun k=>ii told hs k (ts.map kd)) (2^hs.length))=j0 (FF c ps ts) hs.reverse told:=by
 rw[<-qD];have e:=uq told hs.reverse (FF c ps ts);rw[List.reverse_reverse,length_reverse]at e;rw[<-e];have key:∀n,acc (fun w=>(c:Int)+ii told hs w ps) (fun k=>ii told hs k (ts.map kd)) n=rq (fun k=>FF c ps ts (mL told hs k hs.length)) n:=fun n=>by
  induction n with
  |zero=>rfl
  |succ n ih=>
   unfold acc rq;rw[ih,lQ H,lQ H];unfold FF;by_cases q:cp (mL told hs n hs.length) (ts.map kd)=0
   ·rw[if_pos q,if_pos ((lZ _ ts).2.mp q)]
   ·rw[if_neg q,if_neg (fun z=>q ((lZ _ ts).2.mpr z)),Of]
 exact key _
theorem Cs{l:List Nat}(h:l.Nodup):l.reverse.Nodup:=(List.reverse_perm l).nodup_iff.mpr h
structure Ah (h:Nat) (b:Nat) (l:List Nat):Prop where
 cl:∀x∈l,b/2^x%2=0
 po:∀x∈l,0<x
 ne:∀x∈l,x≠h
 nd:l.Nodup
 od:b%2=1
 ch:b/2^h%2=0
theorem Ah.step{h b x:Nat}{t:List Nat}(a:Ah h b (x::t)):Ah h b t/\Ah h (b+2^x) t:=by
 obtain⟨n1,n2⟩:=List.nodup_cons.mp a.nd;have cx:=a.cl x mem_cons_self;refine⟨⟨fun y hy=>a.cl y (mem_cons_of_mem _ hy),fun y hy=>a.po y (mem_cons_of_mem _ hy),fun y hy=>a.ne y (mem_cons_of_mem _ hy),n2,a.od,a.ch⟩,⟨fun y hy=>?_,fun y hy=>a.po y (mem_cons_of_mem _ hy),fun y hy=>a.ne y (mem_cons_of_mem _ hy),n2,?_,?_⟩⟩
 ·rw[ug cx (fun z=>n1 (z ▸ hy))];exact a.cl y (mem_cons_of_mem _ hy)
 ·rw[wK (a.po x mem_cons_self)];exact a.od
 ·rw[ug cx (fun z=>a.ne x mem_cons_self z.symm)];exact a.ch
theorem ye(b:Nat):∀R:As,((sm (fun k=>par (k &&& b)) R:Nat):Int)=cp b (xR R)
 |[]=>rfl
 |p::R=>by
  show((p.2*par (p.1 &&& b)+sm (fun k=>par (k &&& b)) R:Nat):Int)=(p.2:Int)*((par (p.1 &&& b):Nat):Int)+cp b (xR R)
  rw[<-ye b R];omega
theorem By(b:Nat)(hb:b%2=1):∀(Q:List (Nat×Int)) {A:As} (tot:Int),OkA A->(((vl A 0:Nat):Int)+((sm (fun k=>par (k &&& b)) A:Nat):Int)-tot)%8=0->(((vl (AU A Q) 0:Nat):Int)+((sm (fun k=>par (k &&& b)) (AU A Q):Nat):Int)-(tot+cp b Q))%8=0
 |[],A,tot,h,hi=>by
  show(_+_-(tot+0))%8=0;rw[add_zero];exact hi
 |q::Q,A,tot,h,hi=>by
  have:=By b hb Q _ (Nt h q.1 q.2) (Ex b hb h q.1 q.2 tot hi);show(_+_-(tot+(q.2*((par (q.1 &&& b):Nat):Int)+cp b Q)))%8=0;rw[<-Int.add_assoc];exact this
theorem B4{R:As}{Q:List (Nat×Int)}(h:RR R fun k=>kv k Q){c T:Int}(hT:T%8=(c+tv Q)%8)(b:Nat)(hb:b%2=1):(T+cp b (xR R))%8=(c+cp b Q)%8:=by
 obtain⟨c0,hc0,hlt⟩:∃c0:Nat,(c0:Int)=c%8/\c0<8:=⟨(c%8).toNat,by omega,by omega⟩;have ok:=Ci Q (tE hlt);have s:=By b hb Q (A:=[(0,c0)]) c0 (tE hlt) (by
  rw[xQ];have:sm (fun k=>par (k &&& b)) [(0,c0)]=0:=by
   show c0*par (0 &&& b)+0=0;rw[zero_and,MA.pb,Nat.mul_zero]
  rw[this];omega)
 have v0:=xP Q (tE hlt);rw[xQ]at v0;obtain⟨rs,_,p,pw⟩:=sQ (aw (AU [(0,c0)] Q)) ok.nd;have rr:RR (o7 (AU [(0,c0)] Q) rs) fun k=>kv k Q:=Ii ok p pw fun k hk=>by
  rw[xO hk _ (tE hlt),HG c0 hk];show((0:Nat)+_:Int)%8=_;rw[show((0:Nat):Int)=0 from rfl,Int.zero_add]
 have e:R=o7 (AU [(0,c0)] Q) rs:=h.one rr fun k _=>rfl
 have f:=HY (fun k=>par (k &&& b)) (by show par (0 &&& b)=0;rw[zero_and,MA.pb]) (AU [(0,c0)] Q) rs ok.nd p
 rw[<-e]at f;have g:=ye b R;rw[f]at g;rw[<-g];omega
theorem rQ(b:Nat):∀(Q Q':List (Nat×Int)),cp b (Q++Q')=cp b Q+cp b Q'/\tv (Q++Q')=tv Q+tv Q'/\∀k,kv k (Q++Q')=kv k Q+kv k Q'
 |[],Q'=>⟨by show cp b Q'=0+cp b Q';omega,by show tv Q'=0+tv Q';omega,fun k=>by show kv k Q'=0+kv k Q';omega⟩
 |q::Q,Q'=>by
  obtain⟨h1,h2,h3⟩:=rQ b Q Q';refine⟨?_,?_,fun k=>?_⟩
  ·show _+cp b (Q++Q')=_+cp b Q+_
   rw[h1];omega
  ·show _+tv (Q++Q')=_+tv Q+_
   rw[h2];omega
  ·show _+kv k (Q++Q')=_+kv k Q+_
   rw[h3];omega
theorem Fp(b:Nat)(ts:List Nat):Fq b ts=true↔∀t∈ts,par (t &&& b)=0:=by
 unfold Fq;rw[List.all_eq_true];exact⟨fun q t ht=>by simpa using q t ht,fun q t ht=>by simpa using q t ht⟩
structure Wv where
 cr:Nat->Nat
 q:List (Nat×Int)
 hs:List Nat
def sgnP(a b:Nat):List (Nat×Int):=[(a,2),(b,2),(a ^^^ b,6)]
def setN(f:Nat->Nat)(j v:Nat):Nat->Nat:=fun k=>if k=j then v else f k
noncomputable def aB(fh:Nat)(W:Wv):Row->Wv
 |.swing j=>⟨setN W.cr j (2^(fh+W.hs.length)),W.q++sgnP (W.cr j) (2^(fh+W.hs.length)),W.hs++[fh+W.hs.length]⟩
 |.turn j e=>⟨W.cr,W.q++[(W.cr j,(e:Int))],W.hs⟩
 |.flip j=>⟨setN W.cr j (W.cr j ^^^ 1),W.q,W.hs⟩
 |.tie i j=>⟨setN W.cr j (W.cr j ^^^ W.cr i),W.q,W.hs⟩
 |.sign i j=>⟨W.cr,W.q++sgnP (W.cr i) (W.cr j),W.hs⟩
 |.cross i j=>⟨setN (setN W.cr i (W.cr j)) j (W.cr i),W.q,W.hs⟩
theorem je(f:Nat->Nat)(j v:Nat):setN f j v j=v:=if_pos rfl
theorem iL(f:Nat->Nat){j k:Nat}(v:Nat)(h:k≠j):setN f j v k=f k:=if_neg h
noncomputable def mO(n:Nat)(cr:Nat->Nat)(p b:Nat):Bool:=(List.range n).all fun k=>par (cr k &&& b)==bit (wt n k) p
theorem okP_iff{n:Nat}{cr:Nat->Nat}{p b:Nat}:mO n cr p b=true↔∀k,k<n->par (cr k &&& b)=bit (wt n k) p:=by
 unfold mO;simp[List.all_eq_true]
theorem pz{n:Nat}{cr cr':Nat->Nat}{p p' b b':Nat}(h:(∀k,k<n->par (cr k &&& b)=bit (wt n k) p)↔∀k,k<n->par (cr' k &&& b')=bit (wt n k) p'):mO n cr p b=mO n cr' p' b':=by
 rw[Bool.eq_iff_iff,okP_iff,okP_iff];exact h
def ph(x:Int):MA.Q4:=MA.cj (x%8).toNat pd
def GW(n:Nat)(W:Wv)(p b:Nat):MA.Q4:=if mO n W.cr p b=true then ph (cp b W.q)else q0
def AW(n:Nat)(W:Wv)(told p:Nat):MA.Q4:=j0 (GW n W p) W.hs.reverse told
theorem IB:∀a:Fin 8,∀c:Fin 8,MA.cj c.val (MA.cj a.val pd)=MA.cj ((a.val+c.val)%8) pd:=fun a c=>by apply MA.Q4.ext'<;>revert a c<;>decide
theorem nV(x:Int)(d:Nat):MA.cj (d%8) (ph x)=ph (x+d):=by
 unfold ph;have h:=IB ⟨(x%8).toNat,by omega⟩ ⟨d%8,by omega⟩;have e:((x+d)%8).toNat=((x%8).toNat+d%8)%8:=by omega
 rw[e];exact h
theorem kY{x y:Int}(h:x%8=y%8):ph x=ph y:=by unfold ph;rw[h]
theorem oy(e:Nat):MA.cj e q0=q0:=kb e
theorem kG(e:Nat):∀(l:List Nat) (f:Nat->MA.Q4) (b:Nat),j0 (fun x=>MA.cj e (f x)) l b=MA.cj e (j0 f l b)
 |[],f,b=>rfl
 |h::t,f,b=>by
  show MA.Q4.add (j0 (fun x=>MA.cj e (f x)) t b) (j0 (fun x=>MA.cj e (f (x+2^h))) t b)=_
  rw[kG e t f b,kG e t (fun x=>f (x+2^h)) b,<-oz]
  rfl
theorem ip(b:Nat)(Q Q':List (Nat×Int)):cp b (Q++Q')=cp b Q+cp b Q':=(rQ b Q Q').1
theorem BP(b s:Nat)(e:Int):cp b [(s,e)]=e*((par (s &&& b):Nat):Int):=by simp[cp]
theorem oY(b s t:Nat):cp b (sgnP s t)%8=(4*((par (s &&& b):Nat):Int)*((par (t &&& b):Nat):Int))%8:=by
 have h1:=MA.gp (s &&& b);have h2:=MA.gp (t &&& b);have e:cp b (sgnP s t)=2*((par (s &&& b):Nat):Int)+(2*((par (t &&& b):Nat):Int)+6*((par ((s ^^^ t) &&& b):Nat):Int)):=by simp[cp,sgnP]
 rw[e,vc];generalize par (s &&& b)=u at *;generalize par (t &&& b)=v at *;have hu:u=0\/u=1:=by omega
 have hv:v=0\/v=1:=by omega
 rcases hu with rfl|rfl<;>rcases hv with rfl|rfl<;>decide
theorem F8{n:Nat}{W:Wv}{j e p b:Nat}(hj:j<n)(fh:Nat):GW n (aB fh W (.turn j e)) p b=MA.cj (e*bit (wt n j) p%8) (GW n W p b):=by
 show(if mO n W.cr p b=true then ph (cp b (W.q++[(W.cr j,(e:Int))]))else q0)=_;unfold GW;by_cases h:mO n W.cr p b=true
 ·rw[if_pos h,if_pos h,nV,ip,BP,(okP_iff.mp h) j hj]
  push_cast
  rfl
 ·rw[if_neg h,if_neg h,oy]
theorem F9{n:Nat}{W:Wv}{i j p b:Nat}(hi:i<n)(hj:j<n)(fh:Nat):GW n (aB fh W (.sign i j)) p b=MA.cj (4*bit (wt n i) p*bit (wt n j) p%8) (GW n W p b):=by
 show(if mO n W.cr p b=true then ph (cp b (W.q++sgnP (W.cr i) (W.cr j)))else q0)=_;unfold GW;by_cases h:mO n W.cr p b=true
 ·rw[if_pos h,if_pos h,nV,ip]
  apply kY;have:=oY b (W.cr i) (W.cr j);rw[(okP_iff.mp h) i hi,(okP_iff.mp h) j hj]at this
  push_cast at this ⊢
  omega
 ·rw[if_neg h,if_neg h,oy]
theorem Fh{b:Nat}(hb:b%2=1):par (1 &&& b)=1:=by
 rw[<-g7];have:=g6 0 b;rw[pow_zero,Nat.div_one,hb]at this;rw[this]
theorem Cb(s:Nat){b:Nat}(hb:b%2=1):par ((s ^^^ 1) &&& b)=1-par (s &&& b):=by
 rw[vc,Fh hb];have:=MA.gp (s &&& b);omega
theorem Ga{n:Nat}{W:Wv}{j p b:Nat}(hj:j<n)(hb:b%2=1)(fh:Nat):GW n (aB fh W (.flip j)) p b=GW n W (flp (wt n j) p) b:=by
 have e:mO n (setN W.cr j (W.cr j ^^^ 1)) p b=mO n W.cr (flp (wt n j) p) b:=by
  apply pz;refine forall_congr' fun k=>forall_congr' fun hk=>?_
  by_cases h:k=j
  ·subst h
   rw[je,Cb _ hb,MA.aQ (MA.br n k)];have:=MA.gp (W.cr k &&& b);have:=MA.bI (wt n k) p;omega
  ·rw[iL _ _ h,MA.ck hj hk (Ne.symm h)]
 show(if mO n (setN W.cr j (W.cr j ^^^ 1)) p b=true then ph (cp b W.q)else q0)=_;rw[e];rfl
theorem Kp{n:Nat}{W:Wv}{i j p b:Nat}(hi:i<n)(hj:j<n)(hij:i≠j)(fh:Nat):GW n (aB fh W (.tie i j)) p b=GW n W (cw n (.tie i j) p) b:=by
 have e:mO n (setN W.cr j (W.cr j ^^^ W.cr i)) p b=mO n W.cr (cw n (.tie i j) p) b:=by
  apply pz;have h0:∀k,k<n->bit (wt n k) (cw n (.tie i j) p)=if k=j/\bit (wt n i) p=1 then 1-bit (wt n j) p else bit (wt n k) p:=fun k hk=>by
   have:=MA.bI (wt n i) p;show bit (wt n k) (if bit (wt n i) p=0 then p else flp (wt n j) p)=_;by_cases q:bit (wt n i) p=0
   ·rw[if_pos q,if_neg (by omega)]
   ·rw[if_neg q]
    by_cases h:k=j
    ·subst h
     rw[if_pos ⟨rfl,by omega⟩,MA.aQ (MA.br n k)]
    ·rw[if_neg (fun z=>h z.1),MA.ck hj hk (Ne.symm h)]
  constructor
  ·intro H k hk
   have Hi:=H i hi;rw[iL _ _ hij]at Hi;rw[h0 k hk];have Hk:=H k hk;have:=MA.bI (wt n i) p;have:=MA.bI (wt n j) p;by_cases h:k=j
   ·subst h
    rw[je,vc,Hi]at Hk;have:=MA.gp (W.cr k &&& b);by_cases q:bit (wt n i) p=1
    ·rw[if_pos ⟨rfl,q⟩];omega
    ·rw[if_neg (fun z=>q z.2)];omega
   ·rw[iL _ _ h]at Hk
    rw[if_neg (fun z=>h z.1)];exact Hk
  ·intro H k hk
   have Hi:=H i hi;rw[h0 i hi,if_neg (fun z=>hij z.1)]at Hi;have Hk:=H k hk;rw[h0 k hk]at Hk;have:=MA.bI (wt n i) p;have:=MA.bI (wt n j) p;by_cases h:k=j
   ·subst h
    rw[je,vc,Hi];have:=MA.gp (W.cr k &&& b);by_cases q:bit (wt n i) p=1
    ·rw[if_pos ⟨rfl,q⟩]at Hk;omega
    ·rw[if_neg (fun z=>q z.2)]at Hk;omega
   ·rw[iL _ _ h]
    rw[if_neg (fun z=>h z.1)]at Hk;exact Hk
 show(if mO n (setN W.cr j (W.cr j ^^^ W.cr i)) p b=true then ph (cp b W.q)else q0)=_;rw[e];rfl
theorem C6{n:Nat}{W:Wv}{i j p b:Nat}(hi:i<n)(hj:j<n)(hij:i≠j)(fh:Nat):GW n (aB fh W (.cross i j)) p b=GW n W (cw n (.cross i j) p) b:=by
 have e:mO n (setN (setN W.cr i (W.cr j)) j (W.cr i)) p b=mO n W.cr (cw n (.cross i j) p) b:=by
  apply pz;have h0:∀k,k<n->bit (wt n k) (cw n (.cross i j) p)=if k=i then bit (wt n j) p else if k=j then bit (wt n i) p else bit (wt n k) p:=fun k hk=>by
   have hp1:=MA.bI (wt n i) p;have hp2:=MA.bI (wt n j) p;show bit (wt n k) (if bit (wt n i) p=bit (wt n j) p then p else flp (wt n j) (flp (wt n i) p))=_;by_cases q:bit (wt n i) p=bit (wt n j) p
   ·rw[if_pos q]
    by_cases h:k=i
    ·subst h;rw[if_pos rfl];exact q
    ·rw[if_neg h]
     by_cases h':k=j
     ·subst h';rw[if_pos rfl];exact q.symm
     ·rw[if_neg h']
   ·rw[if_neg q]
    by_cases h:k=i
    ·subst h
     rw[if_pos rfl,MA.ck hj hk (Ne.symm hij),MA.aQ (MA.br n k)];omega
    ·rw[if_neg h]
     by_cases h':k=j
     ·subst h'
      rw[if_pos rfl,MA.aQ (MA.br n k),MA.ck hi hk (Ne.symm h)];omega
     ·rw[if_neg h',MA.ck hj hk (Ne.symm h'),MA.ck hi hk (Ne.symm h)]
  have h1:∀k,setN (setN W.cr i (W.cr j)) j (W.cr i) k=if k=i then W.cr j else if k=j then W.cr i else W.cr k:=fun k=>by
   unfold setN;by_cases h:k=i
   ·subst h;rw[if_neg hij,if_pos rfl,if_pos rfl]
   ·rw[if_neg h,if_neg h]
  constructor
  ·intro H k hk
   rw[h0 k hk];by_cases h:k=i
   ·have:=H j hj
    rw[h1 j,if_neg (Ne.symm hij),if_pos rfl]at this;rw[if_pos h,h];exact this
   ·rw[if_neg h]
    by_cases h':k=j
    ·have:=H i hi
     rw[h1 i,if_pos rfl]at this;rw[if_pos h',h'];exact this
    ·have:=H k hk
     rw[h1 k,if_neg h,if_neg h']at this;rw[if_neg h'];exact this
  ·intro H k hk
   rw[h1 k];by_cases h:k=i
   ·have:=H j hj
    rw[h0 j hj,if_neg (Ne.symm hij),if_pos rfl]at this;rw[if_pos h,h];exact this
   ·rw[if_neg h]
    by_cases h':k=j
    ·have:=H i hi
     rw[h0 i hi,if_pos rfl]at this;rw[if_pos h',h'];exact this
    ·have:=H k hk
     rw[h0 k hk,if_neg h,if_neg h']at this;rw[if_neg h'];exact this
 show(if mO n (setN (setN W.cr i (W.cr j)) j (W.cr i)) p b=true then ph (cp b W.q)else q0)=_;rw[e];rfl
theorem tj{s y:Nat}(hs:s<2^y)(b:Nat)(hc:b/2^y%2=0):par (s &&& (b+2^y))=par (s &&& b):=by
 rw[<-g7,<-g7,eI y s b hc,div_eq_of_lt hs];rfl
theorem IK{y b:Nat}(hc:b/2^y%2=0):par (2^y &&& (b+2^y))=1:=by
 rw[<-g7,eI y _ b hc,g6,hc,Nat.div_self (pow_pos (by decide))]
theorem sX{y b:Nat}(hc:b/2^y%2=0):∀Q:List (Nat×Int),(∀q∈Q,q.1<2^y)->cp (b+2^y) Q=cp b Q
 |[],_=>rfl
 | (s,e)::r,h=>by
  have h1:=sX hc r fun q hq=>h q (mem_cons_of_mem _ hq)
  have h2:=tj (h (s,e) mem_cons_self) b hc;simp only[cp,h1,h2]
def lo(n j p:Nat):Nat:=if bit (wt n j) p=0 then p else p-wt n j
def hi(n j p:Nat):Nat:=if bit (wt n j) p=0 then p+wt n j else p
theorem CD{n j p:Nat}:bit (wt n j) (lo n j p)=0:=by
 unfold lo;by_cases h:bit (wt n j) p=0
 ·rw[if_pos h];exact h
 ·rw[if_neg h]
  have h1:=MA.aQ (w:=wt n j) (p:=p) (MA.br n j);have:=MA.bI (wt n j) p;have e:flp (wt n j) p=p-wt n j:=if_neg h;rw[e]at h1;omega
theorem C4{n j p:Nat}:bit (wt n j) (hi n j p)=1:=by
 unfold hi;have:=MA.bI (wt n j) p;by_cases h:bit (wt n j) p=0
 ·rw[if_pos h]
  have h1:=MA.aQ (w:=wt n j) (p:=p) (MA.br n j);have e:flp (wt n j) p=p+wt n j:=if_pos h;rw[e]at h1;omega
 ·rw[if_neg h];omega
theorem CC{n j k p:Nat}(hj:j<n)(hk:k<n)(h:k≠j):bit (wt n k) (lo n j p)=bit (wt n k) p:=by
 unfold lo;by_cases q:bit (wt n j) p=0
 ·rw[if_pos q]
 ·rw[if_neg q]
  have e:flp (wt n j) p=p-wt n j:=if_neg q;rw[<-e,MA.ck hj hk (Ne.symm h)]
theorem C3{n j k p:Nat}(hj:j<n)(hk:k<n)(h:k≠j):bit (wt n k) (hi n j p)=bit (wt n k) p:=by
 unfold hi;by_cases q:bit (wt n j) p=0
 ·rw[if_pos q]
  have e:flp (wt n j) p=p+wt n j:=if_pos q;rw[<-e,MA.ck hj hk (Ne.symm h)]
 ·rw[if_neg q]
structure WOk (n fh:Nat) (W:Wv):Prop where
 cr:∀k,k<n->W.cr k<2^(fh+W.hs.length)
 q:∀x∈W.q,x.1<2^(fh+W.hs.length)
 hs:∀x∈W.hs,fh<=x/\x<fh+W.hs.length
 nd:W.hs.Nodup
theorem C5{n fh:Nat}{W:Wv}(ok:WOk n fh W){j p b:Nat}(hj:j<n)(hc:b/2^(fh+W.hs.length)%2=0):
  MA.Q4.add (GW n (aB fh W (.swing j)) p b) (GW n (aB fh W (.swing j)) p (b+2^(fh+W.hs.length)))=MA.Q4.add (GW n W (lo n j p) b) (MA.cj (4*bit (wt n j) p%8) (GW n W (hi n j p) b)):=by
 have hq:=ok.q;have hcr:=ok.cr;generalize hy:fh+W.hs.length=y at hc hq hcr;have e0:∀c,GW n (aB fh W (.swing j)) p c=if mO n (setN W.cr j (2^y)) p c=true then ph (cp c (W.q++sgnP (W.cr j) (2^y)))else q0:=fun c=>by rw[<-hy];rfl
 have p0:par (2^y &&& b)=0:=Fd hc;have p1:=IK hc;have hb:=MA.bI (wt n j) p;have k0:mO n (setN W.cr j (2^y)) p b=true↔bit (wt n j) p=0/\∀k,k<n->k≠j->par (W.cr k &&& b)=bit (wt n k) p:=by
  rw[okP_iff];constructor
  ·intro H
   refine⟨?_,fun k hk h=>by have:=H k hk;rwa [iL _ _ h]at this⟩
   have:=H j hj;rw[je,p0]at this;exact this.symm
  ·rintro⟨H0,H⟩ k hk
   by_cases h:k=j
   ·subst h;rw[je,p0,H0]
   ·rw[iL _ _ h];exact H k hk h
 have k1:mO n (setN W.cr j (2^y)) p (b+2^y)=true↔bit (wt n j) p=1/\∀k,k<n->k≠j->par (W.cr k &&& b)=bit (wt n k) p:=by
  rw[okP_iff];constructor
  ·intro H
   refine⟨?_,fun k hk h=>by have:=H k hk;rwa [iL _ _ h,tj (hcr k hk) b hc]at this⟩
   have:=H j hj;rw[je,p1]at this;exact this.symm
  ·rintro⟨H0,H⟩ k hk
   by_cases h:k=j
   ·subst h;rw[je,p1,H0]
   ·rw[iL _ _ h,tj (hcr k hk) b hc];exact H k hk h
 have l0:mO n W.cr (lo n j p) b=true↔par (W.cr j &&& b)=0/\∀k,k<n->k≠j->par (W.cr k &&& b)=bit (wt n k) p:=by
  rw[okP_iff];constructor
  ·intro H
   exact⟨by rw[H j hj,CD],fun k hk h=>by rw[H k hk,CC hj hk h]⟩
  ·rintro⟨H0,H⟩ k hk
   by_cases h:k=j
   ·subst h;rw[H0,CD]
   ·rw[H k hk h,CC hj hk h]
 have l1:mO n W.cr (hi n j p) b=true↔par (W.cr j &&& b)=1/\∀k,k<n->k≠j->par (W.cr k &&& b)=bit (wt n k) p:=by
  rw[okP_iff];constructor
  ·intro H
   exact⟨by rw[H j hj,C4],fun k hk h=>by rw[H k hk,C3 hj hk h]⟩
  ·rintro⟨H0,H⟩ k hk
   by_cases h:k=j
   ·subst h;rw[H0,C4]
   ·rw[H k hk h,C3 hj hk h]
 have s0:=oY b (W.cr j) (2^y);have s1:=oY (b+2^y) (W.cr j) (2^y);rw[p0]at s0;rw[p1,tj (hcr j hj) b hc]at s1;rw[e0,e0];unfold GW;have hv:=MA.gp (W.cr j &&& b);by_cases A:∀k,k<n->k≠j->par (W.cr k &&& b)=bit (wt n k) p
 ·rcases (by omega:bit (wt n j) p=0\/bit (wt n j) p=1)with B|B<;>rcases (by omega:par (W.cr j &&& b)=0\/par (W.cr j &&& b)=1)with V|V
  ·rw[if_pos (k0.mpr ⟨B,A⟩),if_neg (fun z=>by have:=(k1.mp z).1;omega),if_pos (l0.mpr ⟨V,A⟩),if_neg (fun z=>by have:=(l1.mp z).1;omega),oy,ip]
   congr 1;apply kY
   push_cast at s0
   omega
  ·rw[if_pos (k0.mpr ⟨B,A⟩),if_neg (fun z=>by have:=(k1.mp z).1;omega),if_neg (fun z=>by have:=(l0.mp z).1;omega),if_pos (l1.mpr ⟨V,A⟩),B,nV,ip,wx]
   congr 1;apply kY
   push_cast at s0 ⊢
   omega
  ·rw[if_neg (fun z=>by have:=(k0.mp z).1;omega),if_pos (k1.mpr ⟨B,A⟩),if_pos (l0.mpr ⟨V,A⟩),if_neg (fun z=>by have:=(l1.mp z).1;omega),oy,ip,sX hc _ hq,wx]
   congr 1;apply kY;rw[V]at s1
   push_cast at s1
   omega
  ·rw[if_neg (fun z=>by have:=(k0.mp z).1;omega),if_pos (k1.mpr ⟨B,A⟩),if_neg (fun z=>by have:=(l0.mp z).1;omega),if_pos (l1.mpr ⟨V,A⟩),B,nV,ip,sX hc _ hq]
   congr 1;apply kY;rw[V]at s1
   push_cast at s1 ⊢
   omega
 ·rw[if_neg (fun z=>A (k0.mp z).2),if_neg (fun z=>A (k1.mp z).2),if_neg (fun z=>A (l0.mp z).2),if_neg (fun z=>A (l1.mp z).2),oy]
structure Tl (fh told:Nat):Prop where
 od:told%2=1
 lt:told<2^fh
 po:0<fh
theorem GM{n fh:Nat}{W:Wv}{j e told p:Nat}(hj:j<n):AW n (aB fh W (.turn j e)) told p=MA.cj (e*bit (wt n j) p%8) (AW n W told p):=by
 show j0 (GW n (aB fh W (.turn j e)) p) W.hs.reverse told=_;rw[show GW n (aB fh W (.turn j e)) p=fun b=>MA.cj (e*bit (wt n j) p%8) (GW n W p b)from funext fun b=>F8 hj fh,kG]
 rfl
theorem GO{n fh:Nat}{W:Wv}{i j told p:Nat}(hi:i<n)(hj:j<n):AW n (aB fh W (.sign i j)) told p=MA.cj (4*bit (wt n i) p*bit (wt n j) p%8) (AW n W told p):=by
 show j0 (GW n (aB fh W (.sign i j)) p) W.hs.reverse told=_;rw[show GW n (aB fh W (.sign i j)) p=fun b=>MA.cj (4*bit (wt n i) p*bit (wt n j) p%8) (GW n W p b)from funext fun b=>F9 hi hj fh,kG]
 rfl
theorem GP{n fh:Nat}{W:Wv}(ok:WOk n fh W){j told p:Nat}(T:Tl fh told)(hj:j<n):AW n (aB fh W (.flip j)) told p=AW n W told (flp (wt n j) p):=by
 show j0 (GW n (aB fh W (.flip j)) p) W.hs.reverse told=j0 (GW n W (flp (wt n j) p)) W.hs.reverse told;refine oi (fun b l=>b%2=1/\∀x∈l,0<x) (fun b x t h=>⟨⟨h.1,fun y hy=>h.2 y (mem_cons_of_mem _ hy)⟩,⟨by rw[wK (h.2 x mem_cons_self)];exact h.1,fun y hy=>h.2 y (mem_cons_of_mem _ hy)⟩⟩) _ _ _ _ ⟨T.od,fun x hx=>?_⟩ fun b h=>Ga hj h.1 fh
 have:=(ok.hs x (List.mem_reverse.mp hx)).1;have:=T.po;omega
theorem KN{n fh:Nat}{W:Wv}{i j told p:Nat}(hi:i<n)(hj:j<n)(hij:i≠j):AW n (aB fh W (.tie i j)) told p=AW n W told (cw n (.tie i j) p):=by
 show j0 (GW n (aB fh W (.tie i j)) p) W.hs.reverse told=_;rw[show GW n (aB fh W (.tie i j)) p=GW n W (cw n (.tie i j) p)from funext fun b=>Kp hi hj hij fh]
 rfl
theorem DD{n fh:Nat}{W:Wv}{i j told p:Nat}(hi:i<n)(hj:j<n)(hij:i≠j):AW n (aB fh W (.cross i j)) told p=AW n W told (cw n (.cross i j) p):=by
 show j0 (GW n (aB fh W (.cross i j)) p) W.hs.reverse told=_;rw[show GW n (aB fh W (.cross i j)) p=GW n W (cw n (.cross i j) p)from funext fun b=>C6 hi hj hij fh]
 rfl
theorem DC{n fh:Nat}{W:Wv}(ok:WOk n fh W){j told p:Nat}(T:Tl fh told)(hj:j<n):AW n (aB fh W (.swing j)) told p=MA.Q4.add (AW n W told (lo n j p)) (MA.cj (4*bit (wt n j) p%8) (AW n W told (hi n j p))):=by
 show j0 (GW n (aB fh W (.swing j)) p) (W.hs++[fh+W.hs.length]).reverse told=_;rw[List.reverse_append,List.reverse_singleton,List.singleton_append];show MA.Q4.add (j0 (GW n (aB fh W (.swing j)) p) W.hs.reverse told) (j0 (fun x=>GW n (aB fh W (.swing j)) p (x+2^(fh+W.hs.length))) W.hs.reverse told)=_
 rw[<-xM];have e:j0 (fun b=>MA.Q4.add (GW n (aB fh W (.swing j)) p b) (GW n (aB fh W (.swing j)) p (b+2^(fh+W.hs.length)))) W.hs.reverse told=j0 (fun b=>MA.Q4.add (GW n W (lo n j p) b) (MA.cj (4*bit (wt n j) p%8) (GW n W (hi n j p) b))) W.hs.reverse told:=by
  have big:∀x,fh<=x->told/2^x%2=0:=fun x hx=>gB (lt_of_lt_of_le T.lt (pow_le_pow_right (by decide) hx))
  refine oi (Ah (fh+W.hs.length)) (fun b x t a=>a.step) _ _ _ _ ⟨fun x hx=>big x (ok.hs x (List.mem_reverse.mp hx)).1,fun x hx=>?_,fun x hx=>?_,Cs ok.nd,T.od,big _ (le_add_right _ _)⟩ fun b a=>C5 ok hj a.ch
  ·have:=(ok.hs x (List.mem_reverse.mp hx)).1
   have:=T.po;omega
  ·have:=(ok.hs x (List.mem_reverse.mp hx)).2
   omega
 rw[e,xM,kG];rfl
theorem WOk.row{n fh:Nat}{W:Wv}(ok:WOk n fh W){r:Row}(hr:r.ok n)(hf:0<fh):WOk n fh (aB fh W r):=by
 have x2:∀{a b m:Nat},a<2^m->b<2^m->a ^^^ b<2^m:=fun ha hb=>Nat.xor_lt_two_pow ha hb
 have one:1<2^(fh+W.hs.length):=lt_of_lt_of_le (by decide:1<2^1) (pow_le_pow_right (by decide) (by omega));have up:∀{a:Nat},a<2^(fh+W.hs.length)->a<2^(fh+(W.hs.length+1)):=fun h=>lt_of_lt_of_le h (pow_le_pow_right (by decide) (by omega))
 have set1:∀(cr:Nat->Nat) (j v m:Nat),(∀k,k<n->cr k<2^m)->v<2^m->∀k,k<n->setN cr j v k<2^m:=fun cr j v m h hv k hk=>by
  unfold setN;split
  ·exact hv
  ·exact h k hk
 have sg:∀{a b m:Nat},a<2^m->b<2^m->∀x∈sgnP a b,x.1<2^m:=fun ha hb x hx=>by
  simp only[sgnP,mem_cons,List.not_mem_nil,or_false]at hx;rcases hx with rfl|rfl|rfl
  ·exact ha
  ·exact hb
  ·exact x2 ha hb
 cases r with
 |swing j=>
  have hl:(aB fh W (.swing j)).hs.length=W.hs.length+1:=by simp[aB]
  have hp:2^(fh+W.hs.length)<2^(fh+(W.hs.length+1)):=pow_lt_pow_right (by decide) (by omega);refine⟨?_,?_,?_,?_⟩
  ·rw[hl];exact set1 _ _ _ _ (fun k hk=>up (ok.cr k hk)) hp
  ·rw[hl]
   intro x hx;rcases List.mem_append.mp hx with z|z
   ·exact up (ok.q x z)
   ·exact sg (up (ok.cr j hr)) hp x z
  ·rw[hl]
   intro x hx;rcases List.mem_append.mp hx with z|z
   ·have:=ok.hs x z;omega
   ·have:=List.mem_singleton.mp z;omega
  ·refine List.nodup_append.mpr ⟨ok.nd,by simp,fun a ha b hb z=>?_⟩
   have:=List.mem_singleton.mp hb;have:=(ok.hs a ha).2;omega
 |turn j e=>exact⟨ok.cr,fun x hx=>(List.mem_append.mp hx).elim (ok.q x) fun z=>by rw[List.mem_singleton.mp z];exact ok.cr j hr.1,ok.hs,ok.nd⟩
 |flip j=>exact⟨set1 _ _ _ _ ok.cr (x2 (ok.cr j hr) one),ok.q,ok.hs,ok.nd⟩
 |tie i j=>exact⟨set1 _ _ _ _ ok.cr (x2 (ok.cr j hr.2.1) (ok.cr i hr.1)),ok.q,ok.hs,ok.nd⟩
 |sign i j=>exact⟨ok.cr,fun x hx=>(List.mem_append.mp hx).elim (ok.q x) (sg (ok.cr i hr.1) (ok.cr j hr.2.1) x),ok.hs,ok.nd⟩
 |cross i j=>exact⟨set1 _ _ _ _ (set1 _ _ _ _ ok.cr (ok.cr j hr.2.1)) (ok.cr i hr.1),ok.q,ok.hs,ok.nd⟩
def VW(n:Nat)(W:Wv)(told M:Nat)(f:Nat->Nu):Prop:=∀p,p<2^n->(f p).2<=W.hs.length/\MA.val M (f p)=MA.Q4.rtn (M-W.hs.length) (AW n W told p)
theorem MH{n j p:Nat}(hj:j<n)(hp:p<2^n):lo n j p<2^n:=by
 unfold lo;split
 ·exact hp
 ·omega
theorem MY{n j p:Nat}(hj:j<n)(hp:p<2^n):hi n j p<2^n:=by
 unfold hi;split
 ·rename_i h;exact MA.zo hj hp h
 ·exact hp
theorem p7(n:Nat)(f:Nat->Nu)(j p:Nat):aL n f (.swing j) p=MA.cy (MA.bw (f (lo n j p)) (MA.bt (4*bit (wt n j) p) (f (hi n j p)))):=by
 have hb:=MA.bI (wt n j) p;show(if bit (wt n j) p=0 then MA.cy (MA.bw (f p) (f (p+wt n j)))else MA.cy (MA.bw (f (p-wt n j)) (MA.bt 4 (f p))))=_;unfold lo hi;by_cases h:bit (wt n j) p=0
 ·rw[if_pos h,if_pos h,if_pos h,h];rfl
 ·rw[if_neg h,if_neg h,if_neg h,show bit (wt n j) p=1 by omega]
theorem VW.row{n fh:Nat}{W:Wv}(ok:WOk n fh W){told M:Nat}(T:Tl fh told){f:Nat->Nu}(h:VW n W told M f){r:Row}(hr:r.ok n)(hM:W.hs.length+1<=M):VW n (aB fh W r) told M (aL n f r):=by
 cases r with
 |swing j=>
  intro p hp;have hl:(aB fh W (.swing j)).hs.length=W.hs.length+1:=by simp[aB]
  obtain⟨a1,a2⟩:=h (lo n j p) (MH hr hp);obtain⟨b1,b2⟩:=h (hi n j p) (MY hr hp);have c1:(MA.bt (4*bit (wt n j) p) (f (hi n j p))).2<=W.hs.length:=b1;have d1:(MA.bw (f (lo n j p)) (MA.bt (4*bit (wt n j) p) (f (hi n j p)))).2<=W.hs.length:=le_trans (MA.dS _ _) (Nat.max_le.mpr ⟨a1,c1⟩);rw[p7,hl];refine⟨le_trans (t6 _) (Nat.succ_le_succ d1),?_⟩;apply MA.Q4.rt_inj;rw[MA.jc (by omega),MA.ig (by omega) (by omega),MA.cU,a2,b2,DC ok T hr,<-MA.Q4.rtn_succ,show M-(W.hs.length+1)+1=M-W.hs.length by omega,MA.Q4.rtn_addQ,MA.nJ]
 |turn j e=>
  intro p hp;obtain⟨a1,a2⟩:=h p hp;refine⟨a1,?_⟩;show MA.val M (MA.bt (e*bit (wt n j) p) (f p))=MA.Q4.rtn (M-W.hs.length) _;rw[MA.cU,a2,GM hr.1,MA.nJ]
 |flip j=>
  intro p hp;obtain⟨a1,a2⟩:=h _ (MA.pZ hr hp);refine⟨a1,?_⟩;show MA.val M (f (flp (wt n j) p))=MA.Q4.rtn (M-W.hs.length) _;rw[a2,GP ok T hr]
 |tie i j=>
  intro p hp;obtain⟨a1,a2⟩:=h _ (MA.yU (r:=.tie i j) hr hp);refine⟨a1,?_⟩;show MA.val M (f (cw n (.tie i j) p))=MA.Q4.rtn (M-W.hs.length) _;rw[a2,KN hr.1 hr.2.1 hr.2.2]
 |sign i j=>
  intro p hp;obtain⟨a1,a2⟩:=h p hp;refine⟨a1,?_⟩;show MA.val M (MA.bt (4*bit (wt n i) p*bit (wt n j) p) (f p))=MA.Q4.rtn (M-W.hs.length) _;rw[MA.cU,a2,GO hr.1 hr.2.1,MA.nJ]
 |cross i j=>
  intro p hp;obtain⟨a1,a2⟩:=h _ (MA.yU (r:=.cross i j) hr hp);refine⟨a1,?_⟩;show MA.val M (f (cw n (.cross i j) p))=MA.Q4.rtn (M-W.hs.length) _;rw[a2,DD hr.1 hr.2.1 hr.2.2]
structure Ag (fh told b:Nat) (l:List Nat):Prop where
 od:b%2=1
 ag:∀x,x<fh->b/2^x%2=told/2^x%2
 ge:∀x∈l,fh<=x
 cl:∀x∈l,b/2^x%2=0
 nd:l.Nodup
theorem Ag.step{fh told b x:Nat}{t:List Nat}(hf:0<fh)(a:Ag fh told b (x::t)):Ag fh told b t/\Ag fh told (b+2^x) t:=by
 obtain⟨n1,n2⟩:=List.nodup_cons.mp a.nd;have cx:=a.cl x mem_cons_self;have gx:=a.ge x mem_cons_self;refine⟨⟨a.od,a.ag,fun y hy=>a.ge y (mem_cons_of_mem _ hy),fun y hy=>a.cl y (mem_cons_of_mem _ hy),n2⟩,⟨?_,fun y hy=>?_,fun y hy=>a.ge y (mem_cons_of_mem _ hy),fun y hy=>?_,n2⟩⟩
 ·rw[wK (by omega)];exact a.od
 ·rw[ug cx (by omega)];exact a.ag y hy
 ·rw[ug cx (fun z=>n1 (z ▸ hy))];exact a.cl y (mem_cons_of_mem _ hy)
theorem Fo{b:Nat}{ss xs:List Nat}(tt:TT ss xs):Fq b ss=true↔∀t∈xs,par (t &&& b)=0:=by
 rw[Fp];constructor
 ·intro H t ht
  by_cases h0:t=0
  ·subst h0;rw[zero_and];simp[MA.par,MA.v3]
  ·exact H t ((tt.mem t).mpr ⟨ht,by omega⟩)
 ·intro H t ht
  exact H t ((tt.mem t).mp ht).1
def jr(n:Nat)(cr:Nat->Nat):List Nat:=(List.range n).map fun j=>cr j ^^^ 2^(n+1+j)
theorem Ck{n fh told e:Nat}{cr:Nat->Nat}{ss:List Nat}(tt:TT ss (jr n cr))(hf:2*n+1<=fh)(te:∀j,j<n->told/2^(n+1+j)%2=bit (wt n j) e){b:Nat}(a:Ag fh told b []):Fq b ss=mO n cr e b:=by
 rw[Bool.eq_iff_iff,Fo tt,okP_iff];have key:∀j,j<n->(par ((cr j ^^^ 2^(n+1+j)) &&& b)=0↔par (cr j &&& b)=bit (wt n j) e):=fun j hj=>by
  have p:par (2^(n+1+j) &&& b)=bit (wt n j) e:=by rw[<-g7,g6,a.ag _ (by omega),te j hj,Nat.mod_eq_of_lt (MA.bI _ _)]
  rw[vc,p];have:=MA.gp (cr j &&& b);have:=MA.bI (wt n j) e;omega
 constructor
 ·intro H j hj
  exact(key j hj).mp (H _ (List.mem_map.mpr ⟨j,List.mem_range.mpr hj,rfl⟩))
 ·intro H t ht
  obtain⟨j,hj,rfl⟩:=List.mem_map.mp ht;exact(key j (List.mem_range.mp hj)).mpr (H j (List.mem_range.mp hj))
theorem HX{n fh told e:Nat}{W:Wv}(ok:WOk n fh W)(T:Tl fh told)(hf:2*n+1<=fh)(te:∀j,j<n->told/2^(n+1+j)%2=bit (wt n j) e){R:As}{c:Int}{ss:List Nat}(rr:RR R fun k=>kv k W.q)(hc:c%8=(0+tv W.q)%8)(tt:TT ss (jr n W.cr)):
  j0 (FF c (xR R) ss) W.hs.reverse told=AW n W told e:=by
 unfold AW;have big:∀x,fh<=x->told/2^x%2=0:=fun x hx=>gB (lt_of_lt_of_le T.lt (pow_le_pow_right (by decide) hx))
 refine oi (Ag fh told) (fun b x t a=>a.step T.po) _ _ _ _ ⟨T.od,fun _ _=>rfl,fun x hx=>(ok.hs x (List.mem_reverse.mp hx)).1,fun x hx=>big x (ok.hs x (List.mem_reverse.mp hx)).1,Cs ok.nd⟩ fun b a=>?_
 unfold FF GW;rw[Ck tt hf te a];have h:=B4 rr hc b a.od;by_cases q:mO n W.cr e b=true
 ·rw[if_pos q,if_pos q]
  unfold ph;rw[h,Int.zero_add]
 ·rw[if_neg q,if_neg q]
theorem tJ:∀(l:List Nat) (k:Nat),(∀x∈l,x<2)->wJ l/2^k%2=l.getD k 0
 |[],k,_=>by simp[wJ]
 |x::t,0,h=>by
  have:=h x mem_cons_self;show(x+2*wJ t)/2^0%2=x;rw[pow_zero,Nat.div_one];omega
 |x::t,k+1,h=>by
  have hx:=h x mem_cons_self;have:=tJ t k fun y hy=>h y (mem_cons_of_mem _ hy)
  show(x+2*wJ t)/2^(k+1)%2=t.getD k 0;rw[pow_succ,Nat.mul_comm (2^k) 2,<-Nat.div_div_eq_div_mul,show(x+2*wJ t)/2=wJ t by omega,this]
theorem Dc{l r:List Nat}{j:Nat}(h:j<l.length):(l++r).getD j 0=l.getD j 0:=by
 rw[getD_eq_getElem?_getD,getD_eq_getElem?_getD,List.getElem?_append_left h]
theorem Ku{l r:List Nat}{j:Nat}(h:l.length<=j):(l++r).getD j 0=r.getD (j-l.length) 0:=by
 rw[getD_eq_getElem?_getD,getD_eq_getElem?_getD,List.getElem?_append_right h]
theorem Dy(w p j:Nat)(hj:j<w):(bo w p).getD j 0=bit (wt w j) p:=by
 unfold bo;rw[getD_eq_getElem?_getD,getElem?_map,getElem?_range hj];rfl
def Eh(w b e:Nat)(ms:List Nat):Nat:=wJ (1::(bo w b++bo w e++ms))
theorem sN(w b e:Nat)(ms:List Nat)(h2:∀x∈ms,x<2):∀x∈1::(bo w b++bo w e++ms),x<2:=fun x hx=>by
 rcases List.mem_cons.mp hx with z|z
 ·omega
 ·rcases List.mem_append.mp z with z|z
  ·rcases List.mem_append.mp z with z|z
   ·exact zi w b x z
   ·exact zi w e x z
  ·exact h2 x z
theorem Lx{w b e:Nat}{ms:List Nat}(h2:∀x∈ms,x<2){j:Nat}(hj:j<w):Eh w b e ms/2^(1+j)%2=bit (wt w j) b:=by
 unfold Eh;rw[tJ _ _ (sN w b e ms h2),Nat.add_comm 1 j,List.getD_cons_succ,List.append_assoc,Dc (by rw[hZ];exact hj),Dy w b j hj]
theorem Lw{w b e:Nat}{ms:List Nat}(h2:∀x∈ms,x<2){j:Nat}(hj:j<w):Eh w b e ms/2^(w+1+j)%2=bit (wt w j) e:=by
 unfold Eh;rw[tJ _ _ (sN w b e ms h2),show w+1+j=(w+j)+1 by omega,List.getD_cons_succ,List.append_assoc,Ku (by rw[hZ];omega),hZ,show w+j-w=j by omega,Dc (by rw[hZ];exact hj),Dy w e j hj]
theorem HR{w b e:Nat}{ms:List Nat}(h2:∀x∈ms,x<2){fh:Nat}(hf:fh=2*w+1+ms.length):Tl fh (Eh w b e ms):=by
 refine⟨?_,?_,by omega⟩
 ·show(1+2*wJ _)%2=1
  omega
 ·have:=Cl _ (sN w b e ms h2)
  rw[length_cons,length_append,length_append,hZ,hZ]at this;rw[hf,show 2*w+1+ms.length=w+w+ms.length+1 by omega];exact this
def W0:Wv:=⟨fun j=>2^(1+j),[],[]⟩
theorem Nh{n fh:Nat}(hf:2*n+1<=fh):WOk n fh W0:=⟨fun k hk=>pow_lt_pow_right (by decide) (by show 1+k<fh+0;omega),(fun x hx=>by cases hx),(fun x hx=>by cases hx),nodup_nil⟩
theorem places{n:Nat}:∀{p q:Nat},p<2^n->q<2^n->(∀k,k<n->bit (wt n k) p=bit (wt n k) q)->p=q:=by
 intro p q hp hq h;apply Nat.eq_of_testBit_eq;intro i;by_cases hi:i<n
 ·have:=h (n-1-i) (by omega)
  unfold MA.bit MA.wt at this;rw[show n-1-(n-1-i)=i by omega]at this;rw[Nat.testBit_eq_decide_div_mod_eq,Nat.testBit_eq_decide_div_mod_eq,this]
 ·rw[Nat.testBit_lt_two_pow (lt_of_lt_of_le hp (pow_le_pow_right (by decide) (by omega))),Nat.testBit_lt_two_pow (lt_of_lt_of_le hq (pow_le_pow_right (by decide) (by omega)))]
theorem OU{n b told:Nat}(hb:b<2^n)(tb:∀j,j<n->told/2^(1+j)%2=bit (wt n j) b){p:Nat}(hp:p<2^n):AW n W0 told p=if p=b then pd else q0:=by
 show GW n W0 p told=_;have e:∀k,par (2^(1+k) &&& told)=told/2^(1+k)%2:=fun k=>by rw[<-g7,g6,Nat.mod_mod]
 have k:mO n W0.cr p told=true↔p=b:=by
  rw[okP_iff];constructor
  ·intro H
   refine places hp hb fun k hk=>?_
   rw[<-H k hk,<-tb k hk];exact e k
  ·rintro rfl k hk
   rw[<-tb k hk];exact e k
 unfold GW;by_cases h:p=b
 ·rw[if_pos (k.mpr h),if_pos h];rfl
 ·rw[if_neg (fun z=>h (k.mp z)),if_neg h]
def f0(b p:Nat):Nu:=if p=b then(pd,0)else(q0,0)
theorem NL{n b told M:Nat}(hb:b<2^n)(tb:∀j,j<n->told/2^(1+j)%2=bit (wt n j) b):VW n W0 told M (f0 b):=fun p hp=>by
 rw[OU hb tb hp];unfold f0;by_cases h:p=b
 ·rw[if_pos h,if_pos h];exact⟨zero_le _,rfl⟩
 ·rw[if_neg h,if_neg h];exact⟨zero_le _,rfl⟩
def aK(fh:Nat)(W:Wv)(rs:List Row):Wv:=rs.foldl (aB fh) W
def ba(n:Nat)(f:Nat->Nu)(rs:List Row):Nat->Nu:=rs.foldl (aL n) f
theorem n9(fh:Nat)(W:Wv)(r:Row):W.hs.length<=(aB fh W r).hs.length/\(aB fh W r).hs.length<=W.hs.length+1:=by
 cases r<;>simp[aB]
theorem tY(fh:Nat):∀(rs:List Row) (W:Wv),W.hs.length<=(aK fh W rs).hs.length/\(aK fh W rs).hs.length<=W.hs.length+rs.length
 |[],W=>⟨Nat.le_refl _,Nat.le_refl _⟩
 |r::rs,W=>by
  have h1:=n9 fh W r;have h2:=tY fh rs (aB fh W r);show W.hs.length<=(aK fh (aB fh W r) rs).hs.length/\_;rw[length_cons];show _/\(aK fh (aB fh W r) rs).hs.length<=_;omega
theorem xN{n fh told M:Nat}(T:Tl fh told):∀(rs:List Row) (W:Wv) (f:Nat->Nu),WOk n fh W->VW n W told M f->(∀r∈rs,r.ok n)->W.hs.length+rs.length<=M->WOk n fh (aK fh W rs)/\VW n (aK fh W rs) told M (ba n f rs)
 |[],W,f,ok,v,_,_=>⟨ok,v⟩
 |r::rs,W,f,ok,v,hr,hM=>by
  rw[length_cons]at hM;have:=n9 fh W r;exact xN T rs (aB fh W r) (aL n f r) (ok.row (hr r mem_cons_self) T.po) (v.row ok T (hr r mem_cons_self) (by omega)) (fun x hx=>hr x (mem_cons_of_mem _ hx)) (by omega)
theorem HC{n:Nat}{W:Wv}{told M:Nat}{f:Nat->Nu}(v:VW n W told M f)(hM:W.hs.length<=M){p:Nat}(hp:p<2^n)(hl:MA.ci (f p)):((MA.num (AW n W told p) (W.hs.length:Nat)).1,(MA.num (AW n W told p) (W.hs.length:Nat)).2.toNat)=f p:=by
 obtain⟨h1,h2⟩:=v p hp;have h3:=(MA.gr (AW n W told p) ((W.hs.length:Nat):Int) (by omega)).2.1;refine MA.nH (M:=M) (MA.mj _ _) hl (by show(MA.num _ _).2.toNat<=M;omega) (by omega) ?_;rw[h2];exact MA.nY _ _ _ hM
theorem pU(a b:Nat):(a ^^^ b)/2=a/2 ^^^ b/2:=by
 apply Nat.eq_of_testBit_eq;intro i;simp[Nat.testBit_div_two]
def gK:List Nat->List Nat
 |[]=>[0]
 |g::t=>gK t++(gK t).map (· ^^^ g)
theorem qd:∀l:List Nat,(gK l).length=2^l.length
 |[]=>rfl
 |g::t=>by
  show(gK t++(gK t).map (· ^^^ g)).length=_;rw[length_append,length_map,qd t,length_cons,pow_succ];omega
theorem qe:∀l:List Nat,0∈gK l
 |[]=>List.mem_singleton.mpr rfl
 |g::t=>mem_append_left _ (qe t)
theorem kr:∀(l:List Nat) {x y:Nat},x∈gK l->y∈gK l->x ^^^ y∈gK l
 |[],x,y,hx,hy=>by
  rw[List.mem_singleton.mp hx,List.mem_singleton.mp hy];exact List.mem_singleton.mpr rfl
 |g::t,x,y,hx,hy=>by
  rcases List.mem_append.mp hx with a|a<;>rcases List.mem_append.mp hy with b|b
  ·exact mem_append_left _ (kr t a b)
  ·obtain⟨v,hv,rfl⟩:=List.mem_map.mp b
   refine mem_append_right _ (List.mem_map.mpr ⟨x ^^^ v,kr t a hv,xor_assoc _ _ _⟩)
  ·obtain⟨u,hu,rfl⟩:=List.mem_map.mp a
   refine mem_append_right _ (List.mem_map.mpr ⟨u ^^^ y,kr t hu b,?_⟩);show u ^^^ y ^^^ g=u ^^^ g ^^^ y;rw[xor_assoc,Nat.xor_comm y g,<-xor_assoc]
  ·obtain⟨u,hu,rfl⟩:=List.mem_map.mp a
   obtain⟨v,hv,rfl⟩:=List.mem_map.mp b;refine mem_append_left _ ?_;have:u ^^^ g ^^^ (v ^^^ g)=u ^^^ v:=by rw[Nat.xor_comm v g,xor_assoc,<-xor_assoc g g v,Nat.xor_self,Nat.zero_xor]
   rw[this];exact kr t hu hv
theorem xx:∀(l:List Nat) {g:Nat},g∈l->g∈gK l
 |h::t,g,hg=>by
  rcases List.mem_cons.mp hg with rfl|z
  ·exact mem_append_right _ (List.mem_map.mpr ⟨0,qe t,Nat.zero_xor _⟩)
  ·exact mem_append_left _ (xx t z)
theorem lB{l:List Nat}:∀(m:List Nat),(∀g∈m,g∈gK l)->∀x∈gK m,x∈gK l
 |[],_,x,hx=>by rw[List.mem_singleton.mp hx];exact qe l
 |g::t,h,x,hx=>by
  have ih:=lB t fun y hy=>h y (mem_cons_of_mem _ hy)
  rcases List.mem_append.mp hx with a|a
  ·exact ih x a
  ·obtain⟨u,hu,rfl⟩:=List.mem_map.mp a
   exact kr l (ih u hu) (h g mem_cons_self)
def gens(n:Nat)(cr:Nat->Nat):List Nat:=(List.range n).map fun k=>cr k/2
theorem Gg{n:Nat}{cr:Nat->Nat}{k:Nat}(hk:k<n):cr k/2∈gens n cr:=List.mem_map.mpr ⟨k,List.mem_range.mpr hk,rfl⟩
structure Cov (n:Nat) (W:Wv) (L:List Nat):Prop where
 s:∀x∈gK (gens n W.cr),x∈L
 q:∀p∈W.q,p.1/2∈L
theorem Cov.same{n:Nat}{W:Wv}{L:List Nat}(c:Cov n W L){cr':Nat->Nat}(h:∀k,k<n->cr' k/2∈gK (gens n W.cr)):∀x∈gK (gens n cr'),x∈L:=fun x hx=>c.s x (lB _ (fun g hg=>by
 obtain⟨k,hk,rfl⟩:=List.mem_map.mp hg;exact h k (List.mem_range.mp hk)) x hx)
noncomputable def Fj(n j:Nat)(cr:Nat->Nat):List Nat:=((List.range n).filter fun k=>decide (k≠j)).map fun k=>cr k/2
theorem AI{n j:Nat}(hj:j<n):((List.range n).filter fun k=>decide (k≠j)).length+1<=n:=by
 have h:=List.length_filter_lt_length_iff_exists (p:=fun k=>decide (k≠j)) (l:=List.range n)
 have:=h.mpr ⟨j,List.mem_range.mpr hj,by simp⟩;rw[length_range]at this;exact this
theorem Cov.row{n fh:Nat}{W:Wv}{L:List Nat}(c:Cov n W L){r:Row}(hr:r.ok n):∃L',Cov n (aB fh W r) L'/\L'.length<=L.length+((aB fh W r).hs.length-W.hs.length)*(2^(n-1)+1):=by
 have g:∀{k:Nat},k<n->W.cr k/2∈gK (gens n W.cr):=fun hk=>xx _ (Gg hk)
 have s1:∀(j v:Nat),(v/2∈gK (gens n W.cr))->∀k,k<n->setN W.cr j v k/2∈gK (gens n W.cr):=fun j v hv k hk=>by
  unfold setN;split
  ·exact hv
  ·exact g hk
 have x2:∀{i j:Nat},i<n->j<n->(W.cr i ^^^ W.cr j)/2∈gK (gens n W.cr):=fun hi hj=>by rw[pU];exact kr _ (g hi) (g hj)
 cases r with
 |turn j e=>exact⟨L,⟨c.s,fun p hp=>(List.mem_append.mp hp).elim (c.q p) fun z=>by rw[List.mem_singleton.mp z];exact c.s _ (g hr.1)⟩,le_add_right _ _⟩
 |flip j=>
  refine⟨L,⟨c.same (s1 j _ ?_),c.q⟩,le_add_right _ _⟩;rw[pU];exact kr _ (g hr) (qe _)
 |tie i j=>exact⟨L,⟨c.same (s1 j _ (x2 hr.2.1 hr.1)),c.q⟩,le_add_right _ _⟩
 |sign i j=>
  refine⟨L,⟨c.s,fun p hp=>(List.mem_append.mp hp).elim (c.q p) fun z=>?_⟩,le_add_right _ _⟩
  simp only[sgnP,mem_cons,List.not_mem_nil,or_false]at z;rcases z with rfl|rfl|rfl
  ·exact c.s _ (g hr.1)
  ·exact c.s _ (g hr.2.1)
  ·exact c.s _ (x2 hr.1 hr.2.1)
 |cross i j=>
  refine⟨L,⟨c.same fun k hk=>?_,c.q⟩,le_add_right _ _⟩
  show setN (setN W.cr i (W.cr j)) j (W.cr i) k/2∈_;unfold setN;split
  ·exact g hr.1
  ·split
   ·exact g hr.2.1
   ·exact g hk
 |swing j=>
  have hl:(aB fh W (.swing j)).hs.length-W.hs.length=1:=by simp[aB]
  refine⟨L++((gK (Fj n j W.cr)).map (· ^^^ (2^(fh+W.hs.length)/2))++[W.cr j/2 ^^^ (2^(fh+W.hs.length)/2)]),⟨fun x hx=>?_,fun p hp=>?_⟩,?_⟩
  ·have h1:=lB (l:=2^(fh+W.hs.length)/2::Fj n j W.cr) _ (fun z hz=>by
    obtain⟨k,hk,rfl⟩:=List.mem_map.mp hz;show setN W.cr j (2^(fh+W.hs.length)) k/2∈_;apply xx;unfold setN;split
    ·exact mem_cons_self
    ·rename_i hkj
     exact mem_cons_of_mem _ (List.mem_map.mpr ⟨k,List.mem_filter.mpr ⟨hk,by simpa using hkj⟩,rfl⟩)) x hx
   rcases List.mem_append.mp h1 with a|a
   ·refine mem_append_left _ (c.s x (lB _ (fun z hz=>?_) x a))
    obtain⟨k,hk,rfl⟩:=List.mem_map.mp hz;exact g (List.mem_range.mp (List.mem_filter.mp hk).1)
   ·exact mem_append_right _ (mem_append_left _ a)
  ·rcases List.mem_append.mp hp with z|z
   ·exact mem_append_left _ (c.q p z)
   ·simp only[sgnP,mem_cons,List.not_mem_nil,or_false]at z
    rcases z with rfl|rfl|rfl
    ·exact mem_append_left _ (c.s _ (g hr))
    ·exact mem_append_right _ (mem_append_left _ (List.mem_map.mpr ⟨0,qe _,Nat.zero_xor _⟩))
    ·refine mem_append_right _ (mem_append_right _ (List.mem_singleton.mpr ?_))
     exact pU _ _
  ·rw[hl,length_append,length_append,length_map,qd,List.length_singleton,one_mul]
   have h2:(Fj n j W.cr).length<=n-1:=by
    unfold Fj;rw[length_map];have:=AI (n:=n) (j:=j) hr;omega
   have:=pow_le_pow_right (n:=2) (by decide) h2;omega
theorem M8(n:Nat):Cov n W0 (gK (gens n W0.cr)):=⟨fun x hx=>hx,fun p hp=>by cases hp⟩
theorem vL{n fh:Nat}:∀(rs:List Row) (W:Wv) (L:List Nat),Cov n W L->(∀r∈rs,r.ok n)->∃L',Cov n (aK fh W rs) L'/\L'.length<=L.length+((aK fh W rs).hs.length-W.hs.length)*(2^(n-1)+1)
 |[],W,L,c,_=>⟨L,c,le_add_right _ _⟩
 |r::rs,W,L,c,hr=>by
  obtain⟨L1,c1,h1⟩:=c.row (fh:=fh) (hr r mem_cons_self);obtain⟨L2,c2,h2⟩:=vL rs (aB fh W r) L1 c1 fun x hx=>hr x (mem_cons_of_mem _ hx)
  refine⟨L2,c2,?_⟩;have m1:=n9 fh W r;have m2:=tY fh rs (aB fh W r);show L2.length<=L.length+((aK fh (aB fh W r) rs).hs.length-W.hs.length)*(2^(n-1)+1);have e:(aK fh (aB fh W r) rs).hs.length-W.hs.length=((aB fh W r).hs.length-W.hs.length)+((aK fh (aB fh W r) rs).hs.length-(aB fh W r).hs.length):=by omega
  rw[e,add_mul];omega
noncomputable def cS(C P Ti Hd:List D)(fm fh lk:Int):List (Str×D):=[("carried",.list C),("pairs",.list P),("ties",.list Ti),("hidden",.list Hd),("first_mark",.int fm),("first_hidden",.int fh),("looked",.int lk)]
section
variable(C P Ti Hd X:List D)(fm fh lk x:Int)
theorem bL:al "carried" (cS C P Ti Hd fm fh lk)=some (.list C):=by unfold cS;rw[al,if_pos rfl]
theorem ca:cW "carried" (.list X) (cS C P Ti Hd fm fh lk)=cS X P Ti Hd fm fh lk:=by unfold cS;rw[cW,if_pos rfl]
theorem db:al "pairs" (cS C P Ti Hd fm fh lk)=some (.list P):=by unfold cS;rw[al,if_neg (by decide),al,if_pos rfl]
theorem dG:cW "pairs" (.list X) (cS C P Ti Hd fm fh lk)=cS C X Ti Hd fm fh lk:=by unfold cS;rw[cW,if_neg (by decide),cW,if_pos rfl]
theorem eu:al "ties" (cS C P Ti Hd fm fh lk)=some (.list Ti):=by unfold cS;rw[al,if_neg (by decide),al,if_neg (by decide),al,if_pos rfl]
theorem fg:cW "ties" (.list X) (cS C P Ti Hd fm fh lk)=cS C P X Hd fm fh lk:=by unfold cS;rw[cW,if_neg (by decide),cW,if_neg (by decide),cW,if_pos rfl]
theorem cq:al "hidden" (cS C P Ti Hd fm fh lk)=some (.list Hd):=by unfold cS;rw[al,if_neg (by decide),al,if_neg (by decide),al,if_neg (by decide),al,if_pos rfl]
theorem cO:cW "hidden" (.list X) (cS C P Ti Hd fm fh lk)=cS C P Ti X fm fh lk:=by unfold cS;rw[cW,if_neg (by decide),cW,if_neg (by decide),cW,if_neg (by decide),cW,if_pos rfl]
theorem bp:al "first_mark" (cS C P Ti Hd fm fh lk)=some (.int fm):=by unfold cS;rw[al,if_neg (by decide),al,if_neg (by decide),al,if_neg (by decide),al,if_neg (by decide),al,if_pos rfl]
theorem aX:al "first_hidden" (cS C P Ti Hd fm fh lk)=some (.int fh):=by unfold cS;rw[al,if_neg (by decide),al,if_neg (by decide),al,if_neg (by decide),al,if_neg (by decide),al,if_neg (by decide),al,if_pos rfl]
theorem cQ:al "looked" (cS C P Ti Hd fm fh lk)=some (.int lk):=by unfold cS;rw[al,if_neg (by decide),al,if_neg (by decide),al,if_neg (by decide),al,if_neg (by decide),al,if_neg (by decide),al,if_neg (by decide),al,if_pos rfl]
theorem cN:cW "looked" (.int x) (cS C P Ti Hd fm fh lk)=cS C P Ti Hd fm fh x:=by unfold cS;rw[cW,if_neg (by decide),cW,if_neg (by decide),cW,if_neg (by decide),cW,if_neg (by decide),cW,if_neg (by decide),cW,if_neg (by decide),cW,if_pos rfl]
theorem fq:al "flip" (cS C P Ti Hd fm fh lk)=none:=by unfold cS;rw[al,if_neg (by decide),al,if_neg (by decide),al,if_neg (by decide),al,if_neg (by decide),al,if_neg (by decide),al,if_neg (by decide),al,if_neg (by decide),al]
theorem fj:al "sign" (cS C P Ti Hd fm fh lk)=none:=by unfold cS;rw[al,if_neg (by decide),al,if_neg (by decide),al,if_neg (by decide),al,if_neg (by decide),al,if_neg (by decide),al,if_neg (by decide),al,if_neg (by decide),al]
theorem dI:al "swing" (cS C P Ti Hd fm fh lk)=none:=by unfold cS;rw[al,if_neg (by decide),al,if_neg (by decide),al,if_neg (by decide),al,if_neg (by decide),al,if_neg (by decide),al,if_neg (by decide),al,if_neg (by decide),al]
theorem dJ:al "cross" (cS C P Ti Hd fm fh lk)=none:=by unfold cS;rw[al,if_neg (by decide),al,if_neg (by decide),al,if_neg (by decide),al,if_neg (by decide),al,if_neg (by decide),al,if_neg (by decide),al,if_neg (by decide),al]
theorem bR:al "mark_set" (cS C P Ti Hd fm fh lk)=none:=by unfold cS;rw[al,if_neg (by decide),al,if_neg (by decide),al,if_neg (by decide),al,if_neg (by decide),al,if_neg (by decide),al,if_neg (by decide),al,if_neg (by decide),al]
theorem fo:al "look" (cS C P Ti Hd fm fh lk)=none:=by unfold cS;rw[al,if_neg (by decide),al,if_neg (by decide),al,if_neg (by decide),al,if_neg (by decide),al,if_neg (by decide),al,if_neg (by decide),al,if_neg (by decide),al]
theorem dH:al "where" (cS C P Ti Hd fm fh lk)=none:=by unfold cS;rw[al,if_neg (by decide),al,if_neg (by decide),al,if_neg (by decide),al,if_neg (by decide),al,if_neg (by decide),al,if_neg (by decide),al,if_neg (by decide),al]
theorem Mv:al "go" (cS C P Ti Hd fm fh lk)=none:=by unfold cS;rw[al,if_neg (by decide),al,if_neg (by decide),al,if_neg (by decide),al,if_neg (by decide),al,if_neg (by decide),al,if_neg (by decide),al,if_neg (by decide),al]
end
theorem Kv(C P Ti Hd:List D)(fm fh lk:Int)(j b c c':Int)(m:Nat)(h1:ay (.list C) (.int j)=some (.int c))(h2:uw (.int c) (.int b)=some (.int c'))(h3:vC C.length j=some m):bq (cS C P Ti Hd fm fh lk) [.int j,.int b]=some (cS (C.set m (.int c')) P Ti Hd fm fh lk):=by
 simp[bq,jX,i8,av,mM,oJ,eG,pP,h1,h2,h3,bL,db,eu,cq,bp,aX,cQ,ca,dG,fg,cO,cN,fq,fj,dI,dJ,bR,fo,dH]
theorem H9(C P Ti Hd S:List D)(fm fh lk:Int)(a b:Int)(h1:gu [.int a,.int b]=some (.list S))(h2:S.all pP=true)(h3:P.length+S.length<=sizeLine):be (cS C P Ti Hd fm fh lk) [.int a,.int b]=some (cS C (P++S) Ti Hd fm fh lk):=by
 have h2':∀x∈S,pP x=true:=List.all_eq_true.mp h2;have hc:(∀x∈S,pP x=true)/\P.length+S.length<=sizeLine:=⟨h2',h3⟩;simp[be,jX,i7,av,BD,oJ,eG,h1,if_pos hc,bL,db,eu,cq,bp,aX,cQ,ca,dG,fg,cO,cN,fq,fj,dI,dJ,bR,fo,dH]
theorem Em(C P P' Ti Hd:List D)(fm fh lk:Int)(j n y c z:Int)(m:Nat)(h0:(Hd.length:Int)=n)(hy:fh+n=y)(hl:Hd.length<sizeLine)(h1:ay (.list C) (.int j)=some (.int c))(h2:gF (.int 1) (.int y)=some (.int z))(g:be (cS C P Ti (Hd++[.int y]) fm fh lk) [.int c,.int z]=some (cS C P' Ti (Hd++[.int y]) fm fh lk))(h3:vC C.length j=some m):bY (cS C P Ti Hd fm fh lk) [.int j]=some (cS (C.set m (.int z)) P' Ti (Hd++[.int y]) fm fh lk):=by
 simp[bY,jX,ia,av,mM,uW,dO,uX,oJ,eG,pP,yD,noLs,h0,hy,hl,h1,h2,g,h3,bL,db,eu,cq,bp,aX,cQ,ca,dG,fg,cO,cN,fq,fj,dI,dJ,bR,fo,dH]
theorem GB(C P Ti Hd:List D)(fm fh lk:Int)(i j a b:Int)(m k:Nat)(h1:ay (.list C) (.int i)=some (.int a))(h2:ay (.list C) (.int j)=some (.int b))(h3:vC C.length i=some m)(h4:vC C.length j=some k):bZ (cS C P Ti Hd fm fh lk) [.int i,.int j]=some (cS ((C.set m (.int b)).set k (.int a)) P Ti Hd fm fh lk):=by
 simp[bZ,jX,ib,av,mM,uX,oJ,eG,pP,yD,h1,h2,h3,h4,bL,db,eu,cq,bp,aX,cQ,ca,dG,fg,cO,cN,fq,fj,dI,dJ,bR,fo,dH]
section
variable(C P Ti Hd:List D)(fm fh lk:Int)(ws':List (Str×D))
theorem C7(j:Int)(g:bY (cS C P Ti Hd fm fh lk) [.int j]=some ws'):aM (cS C P Ti Hd fm fh lk) [.tuple [.str "swing",.int j]]=some ws':=by
 simp[-ap,-dF,b8,dz,aM,jX,dj,av,dO,oJ,eG,pP,yD,noLs,g,bL,db,eu,cq,bp,aX,cQ,ca,dG,fg,cO,cN,fq,fj,dI,dJ,bR,fo,dH]
theorem Gb(j e c:Int)(h1:ay (.list C) (.int j)=some (.int c))(hl:P.length<sizeLine):aM (cS C P Ti Hd fm fh lk) [.tuple [.str "turn",.int j,.int e]]=some (cS C (P++[.tuple [.int c,.int e]]) Ti Hd fm fh lk):=by
 simp[-ap,-dF,b8,dz,aM,jX,dj,av,uW,oJ,eG,pP,yD,noLs,h1,hl,bL,db,eu,cq,bp,aX,cQ,ca,dG,fg,cO,cN,fq,fj,dI,dJ,bR,fo,dH]
theorem Gd(j:Int)(g:bq (cS C P Ti Hd fm fh lk) [.int j,.int 1]=some ws'):aM (cS C P Ti Hd fm fh lk) [.tuple [.str "flip",.int j]]=some ws':=by
 simp[-ap,-dF,b8,dz,aM,jX,dj,av,dO,oJ,eG,pP,yD,noLs,g,bL,db,eu,cq,bp,aX,cQ,ca,dG,fg,cO,cN,fq,fj,dI,dJ,bR,fo,dH]
theorem Kq(i j c:Int)(h1:ay (.list C) (.int i)=some (.int c))(g:bq (cS C P Ti Hd fm fh lk) [.int j,.int c]=some ws'):aM (cS C P Ti Hd fm fh lk) [.tuple [.str "tie",.int i,.int j]]=some ws':=by
 simp[-ap,-dF,b8,dz,aM,jX,dj,av,dO,oJ,eG,pP,yD,noLs,h1,g,bL,db,eu,cq,bp,aX,cQ,ca,dG,fg,cO,cN,fq,fj,dI,dJ,bR,fo,dH]
theorem Gc(i j c d:Int)(h1:ay (.list C) (.int i)=some (.int c))(h2:ay (.list C) (.int j)=some (.int d))(g:be (cS C P Ti Hd fm fh lk) [.int c,.int d]=some ws'):aM (cS C P Ti Hd fm fh lk) [.tuple [.str "sign",.int i,.int j]]=some ws':=by
 simp[-ap,-dF,b8,dz,aM,jX,dj,av,dO,oJ,eG,pP,yD,noLs,h1,h2,g,bL,db,eu,cq,bp,aX,cQ,ca,dG,fg,cO,cN,fq,fj,dI,dJ,bR,fo,dH]
theorem C9(i j:Int)(g:bZ (cS C P Ti Hd fm fh lk) [.int i,.int j]=some ws'):aM (cS C P Ti Hd fm fh lk) [.tuple [.str "cross",.int i,.int j]]=some ws':=by
 simp[-ap,-dF,b8,dz,aM,jX,dj,av,dO,oJ,eG,pP,yD,noLs,g,bL,db,eu,cq,bp,aX,cQ,ca,dG,fg,cO,cN,fq,fj,dI,dJ,bR,fo,dH]
end
theorem iT{n:Nat}{cr:Nat->Nat}{j:Nat}(hj:j<n):ay (.list (az ((List.range n).map cr))) (.int (j:Int))=some (.int ((cr j:Nat):Int)):=by
 show fZ _ _=_;rw[pA _ (by simpa using hj),getD_eq_getElem?_getD,getElem?_map,getElem?_range hj];rfl
theorem tT{n:Nat}{cr:Nat->Nat}{j:Nat}(hj:j<n):vC (az ((List.range n).map cr)).length (j:Int)=some j:=by
 rw[cP,length_map,length_range];exact CO hj
theorem n4{n:Nat}{cr:Nat->Nat}{j v:Nat}:(az ((List.range n).map cr)).set j (.int ((v:Nat):Int))=az ((List.range n).map (setN cr j v)):=by
 unfold az;rw[map_map,map_map];apply ext_getElem?;intro k;rw[List.getElem?_set];by_cases h:j=k
 ·subst h
  rw[if_pos rfl];by_cases hj:j<n
  ·rw[if_pos (by simpa using hj),getElem?_map,getElem?_range hj]
   show _=some (PyData.int ((setN cr j v j:Nat):Int));rw[je]
  ·rw[if_neg (by simpa using hj),getElem?_eq_none (by simp;omega)]
 ·rw[if_neg h,getElem?_map,getElem?_map]
  by_cases hk:k<n
  ·rw[getElem?_range hk]
   show some (PyData.int ((cr k:Nat):Int))=some (PyData.int ((setN cr j v k:Nat):Int));rw[iL _ _ (Ne.symm h)]
  ·rw[getElem?_eq_none (by simp;omega)];rfl
theorem sG(a b:Nat):uw (.int (a:Int)) (.int (b:Int))=some (.int ((a ^^^ b:Nat):Int)):=by
 show some (PyData.int (Builtin.bitXor (a:Int) (b:Int)))=_;rw[MA.Nc]
def Ib(a b:Nat):List D:=(sgnP a b).map m7
theorem zO(a b:Nat):gu [.int (a:Int),.int (b:Int)]=some (.list (Ib a b)):=by
 have:=sG a b;simp[gu,aU,qA,av,this,Ib,sgnP,m7]
noncomputable def v2(n:Nat)(W:Wv)(fm fh lk:Int):List (Str×D):=cS (az ((List.range n).map W.cr)) (W.q.map m7) [] (az W.hs) fm fh lk
theorem G4{n:Nat}{W:Wv}{fm fh lk:Int}(a b:Nat)(hq:W.q.length<=10000):be (v2 n W fm fh lk) [.int (a:Int),.int (b:Int)]=some (v2 n ⟨W.cr,W.q++sgnP a b,W.hs⟩ fm fh lk):=by
 unfold v2;rw[H9 _ _ _ _ (Ib a b) _ _ _ _ _ (zO a b) rfl (by rw[length_map,sizeLine_eq];show W.q.length+3<=_;omega),map_append];rfl
theorem Hw{n:Nat}{W:Wv}{fm fh lk:Int}{j:Nat}(hj:j<n)(b:Nat):bq (v2 n W fm fh lk) [.int (j:Int),.int (b:Int)]=some (v2 n ⟨setN W.cr j (W.cr j ^^^ b),W.q,W.hs⟩ fm fh lk):=by
 unfold v2;rw[Kv _ _ _ _ _ _ _ _ _ _ _ j (iT hj) (sG (W.cr j) b) (tT hj),n4]
theorem Kr{n:Nat}{W:Wv}{fm lk:Int}{fh:Nat}(hf:fh<=1000)(hh:W.hs.length<=1000)(hq:W.q.length<=10000){r:Row}(hr:r.ok n):aM (v2 n W fm fh lk) [rowD r]=some (v2 n (aB fh W r) fm fh lk):=by
 cases r with
 |swing j=>
  refine C7 _ _ _ _ _ _ _ _ _ ?_;have hp:(az W.hs)++[.int ((fh+W.hs.length:Nat):Int)]=az (W.hs++[fh+W.hs.length]):=by simp[az]
  have g:=G4 (n:=n) (W:=⟨W.cr,W.q,W.hs++[fh+W.hs.length]⟩) (fm:=fm) (fh:=fh) (lk:=lk) (W.cr j) (2^(fh+W.hs.length)) hq;unfold v2 at g;dsimp only at g;rw[<-hp]at g;refine(Em _ _ _ _ _ _ _ _ _ _ _ _ _ j rfl (by rw[cP];push_cast;rfl) (by rw[cP,sizeLine_eq];omega) (iT hr) (kX (k:=fh+W.hs.length) (by omega)) g (tT hr)).trans ?_;rw[n4,hp];rfl
 |turn j e=>
  refine(Gb _ _ _ _ _ _ _ _ _ _ (iT hr.1) (by rw[length_map,sizeLine_eq];omega)).trans ?_;unfold v2 aB;rw[map_append];rfl
 |flip j=>exact Gd _ _ _ _ _ _ _ _ _ (Hw (W:=W) hr 1)
 |tie i j=>exact Kq _ _ _ _ _ _ _ _ _ _ _ (iT hr.1) (Hw (W:=W) hr.2.1 (W.cr i))
 |sign i j=>exact Gc _ _ _ _ _ _ _ _ _ _ _ _ (iT hr.1) (iT hr.2.1) (G4 (W:=W) (W.cr i) (W.cr j) hq)
 |cross i j=>
  refine C9 _ _ _ _ _ _ _ _ _ _ ((GB _ _ _ _ _ _ _ _ _ _ _ i j (iT hr.1) (iT hr.2.1) (tT hr.1) (tT hr.2.1)).trans ?_);rw[n4,n4];rfl
theorem J2:(("carried":Str) = "pairs")=False:=eq_false (by decide)
theorem J1:(("carried":Str) = "ties")=False:=eq_false (by decide)
theorem J0:(("carried":Str) = "hidden")=False:=eq_false (by decide)
theorem JZ:(("carried":Str) = "first_mark")=False:=eq_false (by decide)
theorem JY:(("carried":Str) = "first_hidden")=False:=eq_false (by decide)
theorem JX:(("carried":Str) = "looked")=False:=eq_false (by decide)
theorem JW:(("pairs":Str) = "carried")=False:=eq_false (by decide)
theorem JV:(("pairs":Str) = "ties")=False:=eq_false (by decide)
theorem JU:(("pairs":Str) = "hidden")=False:=eq_false (by decide)
theorem JT:(("pairs":Str) = "first_mark")=False:=eq_false (by decide)
theorem JS:(("pairs":Str) = "first_hidden")=False:=eq_false (by decide)
theorem JR:(("pairs":Str) = "looked")=False:=eq_false (by decide)
theorem JQ:(("ties":Str) = "carried")=False:=eq_false (by decide)
theorem JP:(("ties":Str) = "pairs")=False:=eq_false (by decide)
theorem JO:(("ties":Str) = "hidden")=False:=eq_false (by decide)
theorem JN:(("ties":Str) = "first_mark")=False:=eq_false (by decide)
theorem JM:(("ties":Str) = "first_hidden")=False:=eq_false (by decide)
theorem JL:(("ties":Str) = "looked")=False:=eq_false (by decide)
theorem JK:(("hidden":Str) = "carried")=False:=eq_false (by decide)
theorem JJ:(("hidden":Str) = "pairs")=False:=eq_false (by decide)
theorem JI:(("hidden":Str) = "ties")=False:=eq_false (by decide)
theorem JH:(("hidden":Str) = "first_mark")=False:=eq_false (by decide)
theorem JG:(("hidden":Str) = "first_hidden")=False:=eq_false (by decide)
theorem JF:(("hidden":Str) = "looked")=False:=eq_false (by decide)
theorem JE:(("first_mark":Str) = "carried")=False:=eq_false (by decide)
theorem JD:(("first_mark":Str) = "pairs")=False:=eq_false (by decide)
theorem JC:(("first_mark":Str) = "ties")=False:=eq_false (by decide)
theorem JB:(("first_mark":Str) = "hidden")=False:=eq_false (by decide)
theorem JA:(("first_mark":Str) = "first_hidden")=False:=eq_false (by decide)
theorem Jz:(("first_mark":Str) = "looked")=False:=eq_false (by decide)
theorem Jy:(("first_hidden":Str) = "carried")=False:=eq_false (by decide)
theorem Jx:(("first_hidden":Str) = "pairs")=False:=eq_false (by decide)
theorem Jw:(("first_hidden":Str) = "ties")=False:=eq_false (by decide)
theorem Jv:(("first_hidden":Str) = "hidden")=False:=eq_false (by decide)
theorem Ju:(("first_hidden":Str) = "first_mark")=False:=eq_false (by decide)
theorem Jt:(("first_hidden":Str) = "looked")=False:=eq_false (by decide)
theorem Js:(("looked":Str) = "carried")=False:=eq_false (by decide)
theorem Jr:(("looked":Str) = "pairs")=False:=eq_false (by decide)
theorem Jq:(("looked":Str) = "ties")=False:=eq_false (by decide)
theorem Jp:(("looked":Str) = "hidden")=False:=eq_false (by decide)
theorem Jo:(("looked":Str) = "first_mark")=False:=eq_false (by decide)
theorem Jn:(("looked":Str) = "first_hidden")=False:=eq_false (by decide)
theorem Ko(L:List D)(w l m:Int)(p:er [.fz (insD "Ways" []),.fz (.int w),.fz (.int l)]=some (.list L))(hL:∀x∈L,pP x=true)(h:pC (.int 2) (.int w)=some (.int m)):gZ [.int w,.int l]=some (cS L [] [] [] (m+1) (m+1+l) 0):=by
 simp[gZ,Ih,eU,av,rN,uZ,oJ,al,cW,cS,p,h,if_pos hL,yA,Aq,J2,J1,J0,JZ,JY,JX,JW,JV,JU,JT,JS,JR,JQ,JP,JO,JN,JM,JL,JK,JJ,JI,JH,JG,JF,JE,JD,JC,JB,JA,Jz,Jy,Jx,Jw,Jv,Ju,Jt,Js,Jr,Jq,Jp,Jo,Jn]
theorem MU(w l:Int){n:Nat}(hn:n<=100)(r:bP [.int w]=some ((List.range n).map fun k:Nat=>PyData.int (0+(k:Int)))):er [.fz (insD "Ways" []),.fz (.int w),.fz (.int l)]=some (.list ((List.range n).map fun k=>PyData.int ((2^(1+k):Nat):Int))):=by
 refine jQ (by simp only[oL,ad,oV,ao,List.getElem?_cons_succ,List.getElem?_cons_zero,Option.bind_some];exact r) (by omega) fun k hk=>?_
 have:=kX (k:=1+k) (by omega)
 push_cast at this
 simp[this]
theorem F6{n:Nat}(l:Nat)(hn:n<=100)(r:bP [.int (n:Int)]=some ((List.range n).map fun k:Nat=>PyData.int (0+(k:Int)))):gZ [.int (n:Int),.int (l:Int)]=some (v2 n W0 ((2*n+1:Nat):Int) ((2*n+1+l:Nat):Int) 0):=by
 refine(Ko _ _ _ ((2*n:Nat):Int) (MU _ _ hn r) (fun x hx=>?_) (FG n (a:=2) (by decide))).trans ?_
 ·obtain⟨k,_,rfl⟩:=List.mem_map.mp hx
  rfl
 ·unfold v2 az
  rw[map_map]
  push_cast
  rfl
theorem EA(x0 x1 x2 R:D)(y4:Sl)(ws ws':List (Str×D))(hn:yD R=true)(hk:al "go" ws=none)(g:aM ws [R]=some ws'):iq [.fz x0,.fz x1,.fz x2,.fz (insD "Ways" ws),.fz R,.un,.un]=some (.nx,[.fz x0,.fz x1,.fz x2,.fz (insD "Ways" ws'),.fz R,.un,.un]):=by
 simp[iq,dO,oJ,hk,noLs,hn,g]
theorem FC(r:Row):yD (rowD r)=true:=by cases r<;>rfl
theorem G8(fh:Nat)(W:Wv)(r:Row):(aB fh W r).q.length<=W.q.length+3:=by cases r<;>simp[aB,sgnP]
theorem uH{n:Nat}{fm lk:Int}{fh:Nat}(hf:fh<=1000)(x0 x1 x2:D):∀(rs:List Row) (W:Wv) (y4:Sl),(∀r∈rs,r.ok n)->W.hs.length+rs.length<=1000->W.q.length+3*rs.length<=10000->∃z4,loop (gN 4) iq (rs.map rowD) [.fz x0,.fz x1,.fz x2,.fz (insD "Ways" (v2 n W fm fh lk)),y4,.un,.un]=some (.nx,[.fz x0,.fz x1,.fz x2,.fz (insD "Ways" (v2 n (aK fh W rs) fm fh lk)),z4,.un,.un])
 |[],W,y4,_,_,_=>⟨y4,rfl⟩
 |r::rs,W,y4,hr,h1,h2=>by
  rw[length_cons]at h1 h2;have m:=n9 fh W r;have q:=G8 fh W r;obtain⟨z4,e⟩:=uH hf x0 x1 x2 rs (aB fh W r) (.fz (rowD r)) (fun x hx=>hr x (mem_cons_of_mem _ hx)) (by omega) (by omega)
  refine⟨z4,?_⟩;have st:=EA x0 x1 x2 (rowD r) y4 (v2 n W fm fh lk) _ (FC r) (Mv _ _ _ _ _ _ _) (Kr (fm:=fm) (lk:=lk) hf (by omega) (by omega) (hr r mem_cons_self));rw[map_cons];show((gN 4 (rowD r) _).bind _)=_;simp only[gN,Option.bind_some,List.set_cons_succ,List.set_cons_zero,st];exact e
theorem KB{n:Nat}(hn:n<=100)(cr:Nat->Nat)(P Ti Hd:List D)(fm fh lk w:Int)(hw:(n:Int)=w){k:Nat}(hk:k<n):(o2 (o2 (o1 (oV 2) (eG "Ways" "carried")) (oV 0) ay) (o2 (oC (.int 1)) (o2 (o2 (oV 1) (oC (.int 1)) aR) (oV 0) aR) gF) uw) [.fz (.int (k:Int)),.fz (.int w),.fz (insD "Ways" (cS (az ((List.range n).map cr)) P Ti Hd fm fh lk))]=some (.int ((cr k ^^^ 2^(n+1+k):Nat):Int)):=by
 subst hw;have h1:=kX (k:=n+1+k) (by omega);have h2:=iT (cr:=cr) hk;have h3:=sG (cr k) (2^(n+1+k))
 push_cast at h1 h3
 simp[eG,bL,h1,h2,h3]
theorem Gs{n:Nat}(hn:n<=100)(W:Wv)(fm fh lk w:Int)(x0 x2:D)(y4:Sl)(hw:(n:Int)=w)(r:bP [.int w]=some ((List.range n).map fun k:Nat=>PyData.int (0+(k:Int)))):mf [.fz x0,.fz (.int w),.fz x2,.fz (insD "Ways" (v2 n W fm fh lk)),y4,.un,.un]=some (.list (az (jr n W.cr))):=by
 have e:az (jr n W.cr)=(List.range n).map fun j=>PyData.int ((W.cr j ^^^ 2^(n+1+j):Nat):Int):=by unfold az jr;rw[map_map];rfl
 rw[e];exact jQ (by simp only[oL,ad,oV,ao,List.getElem?_cons_succ,List.getElem?_cons_zero,Option.bind_some];exact r) (by omega) fun k hk=>KB hn W.cr _ _ _ fm fh lk w hw hk
theorem rp(t:Int)(S:As)(hk:(aw S).Nodup)(h8:∀k,vl S k<8)(Q:List (Nat×Int))(hl:S.length+Q.length<1000)(hB:(nR S Q).length<64)(h0:0 ∉ aw S):∃R:As,RR R (fun k=>(vl S k:Int)+kv k Q)/\R.length<64/\∀T,za T=some (esD S)->cz [.int t,T,.list (Q.map m7)]=some (.tuple [.int ((t+tv Q)%8),.tuple (R.map pD)]):=by
 have nd:=wO Q hk;have ln:=yJ Q S;obtain⟨rs,p,pw,hp⟩:=Me (nR S Q) nd (by omega);refine⟨Hh (nR S Q) rs,⟨?_,fun k h=>?_,fun q hq=>?_⟩,?_,fun T hT=>?_⟩
 ·unfold Hh aw
  rw[map_map];have:(rs.filter fun k=>decide (vl (nR S Q) k≠0)).map ((fun p:Nat×Nat=>p.1) ∘ fun k=>(k,vl (nR S Q) k))=rs.filter fun k=>decide (vl (nR S Q) k≠0):=map_id' _
  rw[this];exact pw.sublist filter_sublist
 ·rw[<-A9 h Q S (h8 k)]
  congr 1;by_cases z:vl (nR S Q) k=0
  ·rw[z]
   refine rE fun hq=>?_
   obtain⟨r,hr,rfl⟩:=List.mem_map.mp hq;obtain⟨j,hj,rfl⟩:=List.mem_map.mp hr;have:=(List.mem_filter.mp hj).2;simp at this;exact this z
  ·have nd2:(aw (Hh (nR S Q) rs)).Nodup:=by
    unfold Hh aw;rw[map_map];have:(rs.filter fun k=>decide (vl (nR S Q) k≠0)).map ((fun p:Nat×Nat=>p.1) ∘ fun k=>(k,vl (nR S Q) k))=rs.filter fun k=>decide (vl (nR S Q) k≠0):=map_id' _
    rw[this];exact List.Nodup.sublist filter_sublist (p.nodup_iff.mpr nd)
   exact oj nd2 (p:=(k,vl (nR S Q) k)) (List.mem_map.mpr ⟨k,List.mem_filter.mpr ⟨p.mem_iff.mpr (wQ z),by simpa using z⟩,rfl⟩)
 ·obtain⟨j,hj,rfl⟩:=List.mem_map.mp hq
  have:=List.mem_filter.mp hj;refine⟨?_,by simpa using this.2⟩;refine Nat.pos_of_ne_zero fun z=>?_
  subst z;exact zk Q h0 (p.mem_iff.mp this.1)
 ·unfold Hh
  rw[length_map];have:=List.length_filter_le (fun k=>decide (vl (nR S Q) k≠0)) rs
  have h2:=p.length_eq;unfold aw at h2;rw[length_map]at h2;omega
 ·obtain⟨y4,y5,y6,lp⟩:=zu (.fz T) (.fz (.list (Q.map m7))) Q t S .un .un .un (by omega)
  exact K4 _ _ _ _ _ _ _ _ _ _ hT lp (hp _ _ _ _ _ _)
theorem yG:∀(Q:List (Nat×Int)) (S:As) {k:Nat},k∈aw (nR S Q)->k∈aw S\/∃q∈Q,hb q.1=k
 |[],S,k,h=>.inl h
 |q::Q,S,k,h=>by
  rcases yG Q (pB S q.1 q.2) h with a|⟨r,hr,e⟩
  ·unfold pB at a
   split at a
   ·exact .inl a
   ·rw[lh]at a
    split at a
    ·exact .inl a
    ·rcases List.mem_append.mp a with a|a
     ·exact .inl a
     ·exact .inr ⟨q,mem_cons_self,(List.mem_singleton.mp a).symm⟩
  ·exact .inr ⟨r,mem_cons_of_mem _ hr,e⟩
theorem Hj:∀(l m:List Nat),l.Nodup->(∀x∈l,x∈m)->l.length<=m.length
 |[],m,_,_=>zero_le _
 |x::t,m,nd,h=>by
  obtain⟨n1,n2⟩:=List.nodup_cons.mp nd;have hx:=h x mem_cons_self;have ih:=Hj t (m.erase x) n2 fun y hy=>(List.mem_erase_of_ne (fun z:y=x=>n1 (by rw[<-z];exact hy))).mpr (h y (mem_cons_of_mem _ hy))
  rw[List.length_erase_of_mem hx]at ih;have:0<m.length:=List.length_pos_of_mem hx;rw[length_cons];omega
theorem GC{n:Nat}{W:Wv}{L:List Nat}(c:Cov n W L):(nR [] W.q).length<=L.length:=by
 have h:=Hj (aw (nR [] W.q)) (L.map (2 * ·)) (wO W.q nodup_nil) fun k hk=>by
  rcases yG W.q [] hk with a|⟨q,hq,e⟩
  ·cases a
  ·refine List.mem_map.mpr ⟨q.1/2,c.q q hq,?_⟩
   rw[<-e];unfold hb;show 2*(q.1/2)=_;omega
 unfold aw at h;rw[length_map,length_map]at h;exact h
theorem LO(RL C P Hd E R Ts:List D)(ws0:List (Str×D))(w l T fm fh lk n:Int)(z4:Sl)(hl:(Hd.length:Int)=n)(hE:E.length<=1000)(hH:Hd.length<=1000)(gl:df [.tuple [.int w,.tuple RL]]=some (.int l))(gi:gZ [.int w,.int l]=some ws0)
  (lp:loop (gN 4) iq RL [.fz (.tuple [.int w,.tuple RL]),.fz (.int w),.fz (.int l),.fz (insD "Ways" ws0),.un,.un,.un]=some (.nx,[.fz (.tuple [.int w,.tuple RL]),.fz (.int w),.fz (.int l),.fz (insD "Ways" (cS C P [] Hd fm fh lk)),z4,.un,.un]))
  (pe:mf [.fz (.tuple [.int w,.tuple RL]),.fz (.int w),.fz (.int l),.fz (insD "Ways" (cS C P [] Hd fm fh lk)),z4,.un,.un]=some (.list E))
  (ga:cz [.int 0,.tuple [],.list P]=some (.tuple [.int T,.tuple R])) (gt:bh [.list E]=some (.tuple Ts)) :
  b6 [.tuple [.int w,.tuple RL]]=some (.tuple [.tuple [.int w,.int l],.int n,.int T,.tuple R,.tuple Ts,.tuple Hd]):=by
 have hE':aR (.list []) (.list E)=some (.list E):=mJ (xs:=[]) (by show 0+E.length<=_;omega);have hH':Hd.length<=sizeLine:=by rw[sizeLine_eq];omega
 simp[-ap,-dF,b8,dz,b6,aU,qz,av,Ie,wA,BE,oJ,eG,bL,db,eu,cq,gl,gi,lp,pe,ga,gt,hl,hE',hH'];rfl
def qg(n:Nat)(rs:List Row):D:=.tuple [.int (n:Int),.tuple (rs.map rowD)]
theorem Md(R:As):R.map pD=(xR R).map m7:=by unfold xR;rw[map_map];rfl
theorem BO(fh:Nat):∀(rs:List Row) (W:Wv),(aK fh W rs).q.length<=W.q.length+3*rs.length
 |[],W=>Nat.le_refl _
 |r::rs,W=>by
  have h1:=G8 fh W r;have h2:=BO fh rs (aB fh W r);show(aK fh (aB fh W r) rs).q.length<=_;rw[length_cons];omega
theorem zI{n:Nat}(hn:n<=6)(rs:List Row)(hr:∀r∈rs,r.ok n)(hl:rs.length<=100)(gl:df [qg n rs]=some (.int 0))(hB:2^n+(aK (2*n+1) W0 rs).hs.length*(2^(n-1)+1)<64):
  ∃(c:Nat) (R:As) (ss:List Nat),c<8/\R.length<64/\ss.length<=n/\RR R (fun k=>kv k (aK (2*n+1) W0 rs).q)/\(c:Int)%8=(0+tv (aK (2*n+1) W0 rs).q)%8/\TT ss (jr n (aK (2*n+1) W0 rs).cr) /\
   b6 [qg n rs]=some (kl n 0 ((aK (2*n+1) W0 rs).hs.length:Int) c (xR R) ss (aK (2*n+1) W0 rs).hs):=by
 have h0:(W0.hs.length=0):=rfl;have h1:(W0.q.length=0):=rfl;have hh:=tY (2*n+1) rs W0;have hq:=BO (2*n+1) rs W0;obtain⟨L,cv,hL⟩:=vL (fh:=2*n+1) rs W0 _ (M8 n) hr;have hc:=GC cv;rw[qd]at hL;have hg:(gens n W0.cr).length=n:=by simp[gens]
 rw[hg,h0,sub_zero]at hL;obtain⟨z4,lp⟩:=uH (n:=n) (fm:=((2*n+1:Nat):Int)) (lk:=0) (fh:=2*n+1) (by omega) (qg n rs) (.int (n:Int)) (.int 0) rs W0 .un hr (by omega) (by omega);obtain⟨R,rr,rl,ga⟩:=rp 0 [] nodup_nil (fun k=>(by decide:(0:Nat)<8)) (aK (2*n+1) W0 rs).q (by show 0+_<1000;omega) (by omega) (fun z=>nomatch z)
 obtain⟨ss,tt,sl,gt,_⟩:=Ei (jr n (aK (2*n+1) W0 rs).cr) (by simp[jr];omega);have gA:=ga (.tuple []) rfl;refine⟨((0+tv (aK (2*n+1) W0 rs).q)%8).toNat,R,ss,by omega,rl,by simpa[jr]using sl,?_,by omega,tt,?_⟩
 ·refine⟨rr.pk,fun k hk=>?_,rr.nz⟩
  have:=rr.val k hk;rw[this];show((0:Int)+_)%8=_;rw[Int.zero_add]
 ·have r:=EH (n:=n) (by omega)
  have e:=LO (rs.map rowD) _ _ _ _ _ _ _ (n:Int) 0 _ _ _ _ ((aK (2*n+1) W0 rs).hs.length:Int) z4 (by rw[cP]) (by rw[cP];simp[jr];omega) (by rw[cP];omega) gl (F6 0 (by omega) r) lp (Gs (by omega) _ _ _ _ _ _ _ _ rfl r) gA gt;rw[Md]at e;refine e.trans ?_;unfold kl;have:(((0+tv (aK (2*n+1) W0 rs).q)%8).toNat:Int)=(0+tv (aK (2*n+1) W0 rs).q)%8:=by omega
  rw[this];rfl
section
variable(c w T j s e:Int)(hT:bA [.int c]=some (.int T))(hj:bN (.int (T/6)) (.int w)=some (.int j))(he:1+T/300%7=e)
include hT hj he
theorem wv(hw:w=1)(R:D)(hR:fZ [PyData.tuple [.str "swing",.int 0],.tuple [.str "turn",.int 0,.int e],.tuple [.str "flip",.int 0]] (T%3)=some R):aG [.int c,.int w]=some R:=by
 subst hw;simp[-ap,-dF,b8,dz,aG,aU,cg,av,hT,hj,he,hR]
variable(hw:¬w=1)(t:Int)(ht:bN (.int (T/60)) (.int (w-1))=some (.int t))(hs:bN (.int (j+1+t)) (.int w)=some (.int s))
include hw ht hs
theorem BM(h:T%6=0):aG [.int c,.int w]=some (.tuple [.str "swing",.int j]):=by
 have hw':(w==1)=false:=by simpa using hw
 simp[-ap,-dF,b8,dz,aG,aU,cg,av,hT,hj,he,hw',ht,hs,h]
theorem EK(h:T%6=1):aG [.int c,.int w]=some (.tuple [.str "turn",.int j,.int e]):=by
 have hw':(w==1)=false:=by simpa using hw
 simp[-ap,-dF,b8,dz,aG,aU,cg,av,hT,hj,he,hw',ht,hs,h]
theorem EL(h:T%6=2):aG [.int c,.int w]=some (.tuple [.str "flip",.int j]):=by
 have hw':(w==1)=false:=by simpa using hw
 simp[-ap,-dF,b8,dz,aG,aU,cg,av,hT,hj,he,hw',ht,hs,h]
theorem wu(h:3<=T%6)(x:D)(hx:fZ [PyData.str "tie",.str "sign",.str "cross"] (T%6-3)=some x):aG [.int c,.int w]=some (.tuple [x,.int j,.int s]):=by
 have hw':(w==1)=false:=by simpa using hw
 have h0:(T%6==0)=false:=by simp;omega
 have h1:(T%6==1)=false:=by simp;omega
 have h2:(T%6==2)=false:=by simp;omega
 simp[-ap,-dF,b8,dz,aG,aU,cg,av,hT,hj,he,hw',ht,hs,h0,h1,h2,hx]
end
theorem L5(c:Int)(w:Nat)(hw:1<=w):∃r:Row,r.ok w/\aG [.int c,.int w]=some (rowD r):=by
 obtain⟨T,hT⟩:=r6 c;have hw0:(0:Int)<w:=by omega
 have a1:=emod_nonneg ((T:Int)/6) (show(w:Int)≠0 by omega);have a2:=emod_lt_of_pos ((T:Int)/6) hw0;obtain⟨j,hj⟩:∃j:Nat,(T:Int)/6%w=j:=⟨((T:Int)/6%w).toNat,by omega⟩;have ej:=jl (i:=(T:Int)/6) hw0;rw[hj]at ej a1 a2;obtain⟨e,he⟩:∃e:Nat,1+(T:Int)/300%7=e:=⟨(1+(T:Int)/300%7).toNat,by omega⟩;by_cases h1:w=1
 ·have:(T:Int)%3=0\/(T:Int)%3=1\/(T:Int)%3=2:=by omega
  have h1':(w:Int)=1:=by omega
  rcases this with z|z|z
  ·exact⟨.swing 0,(show 0<w by omega),wv c w T j e hT ej he h1' _ (by rw[z];exact NE _ _)⟩
  ·exact⟨.turn 0 e,(show 0<w/\1<=e/\e<=7 by omega),wv c w T j e hT ej he h1' _ (by rw[z];exact Pz _ _ _)⟩
  ·exact⟨.flip 0,(show 0<w by omega),wv c w T j e hT ej he h1' _ (by rw[z];exact Py _ _ _ _)⟩
 have h1':¬(w:Int)=1:=by omega
 have b1:=emod_nonneg ((T:Int)/60) (show(w:Int)-1≠0 by omega);have b2:=emod_lt_of_pos ((T:Int)/60) (show 0<(w:Int)-1 by omega);have et:=jl (i:=(T:Int)/60) (show 0<(w:Int)-1 by omega);generalize (T:Int)/60%((w:Int)-1)=t at *;have c1:=emod_nonneg ((j:Int)+1+t) (show(w:Int)≠0 by omega);have c2:=emod_lt_of_pos ((j:Int)+1+t) hw0;have ei:=jl (i:=(j:Int)+1+t) hw0;obtain⟨i,hi⟩:∃i:Nat,((j:Int)+1+t)%w=i:=⟨(((j:Int)+1+t)%w).toNat,by omega⟩;have hij:j≠i:=fun z=>by
  by_cases hh:(j:Int)+1+t<w
  ·rw[Int.emod_eq_of_lt (by omega) hh]at hi;omega
  ·have:((j:Int)+1+t)%w=(j:Int)+1+t-w:=by
    rw[<-Int.sub_emod_right,Int.emod_eq_of_lt (by omega) (by omega)]
   omega
 rw[hi]at ei c1 c2;have k:j<w/\i<w/\j≠i:=⟨by omega,by omega,hij⟩;have:(T:Int)%6=0\/(T:Int)%6=1\/(T:Int)%6=2\/(T:Int)%6=3\/(T:Int)%6=4\/(T:Int)%6=5:=by omega
 rcases this with z|z|z|z|z|z
 ·exact⟨.swing j,(show j<w by omega),BM c w T j i e hT ej he h1' t et ei z⟩
 ·exact⟨.turn j e,(show j<w/\1<=e/\e<=7 by omega),EK c w T j i e hT ej he h1' t et ei z⟩
 ·exact⟨.flip j,(show j<w by omega),EL c w T j i e hT ej he h1' t et ei z⟩
 ·exact⟨.tie j i,k,wu c w T j i e hT ej he h1' t et ei (by omega) _ (by rw[z];exact NE _ _)⟩
 ·exact⟨.sign j i,k,wu c w T j i e hT ej he h1' t et ei (by omega) _ (by rw[z];exact Pz _ _ _)⟩
 ·exact⟨.cross j i,k,wu c w T j i e hT ej he h1' t et ei (by omega) _ (by rw[z];exact Py _ _ _ _)⟩
section
variable(S D0:D)(w s c T t x5:Int)(R:D)(ds:List D)(y7 y8 y9:Sl)(hl:ds.length<sizeLine)(g1:aG [.int c,.int w]=some R)(g2:bA [.int c]=some (.int T))(ht:T/3000=t)
include hl g1 g2 ht
theorem Ov(k:D)(r0:ay R (.int 0)=some k)(h:di k (.str "swing")=some (.bool false)):∃z8,aS [.fz S,.fz (.int w),.fz (.int s),.fz (.int 0),.ow ds,.fz (.int 0),.fz (.int c),y7,y8,y9]=some (.nx,[.fz S,.fz (.int w),.fz (.int s),.fz (.int 0),.ow (ds++[R]),.fz (.int 0),.fz (.int c),.fz R,z8,y9]):=by
 refine⟨.fz (.int t),?_⟩;by_cases h1:t%6=1<;>by_cases h2:t%6=2<;>simp[-ap,-dF,b8,dz,aS,g1,g2,ht,r0,h,hl,h1,h2,vk]
theorem Ou(j:D)(hR:R=.tuple [.str "swing",j])(h0:0<=s-1):∃z8,aS [.fz S,.fz (.int w),.fz (.int s),.fz (.int 0),.ow ds,.fz (.int 0),.fz (.int c),y7,y8,y9]=some (.nx,[.fz S,.fz (.int w),.fz (.int (s-1)),.fz (.int 0),.ow (ds++[R]),.fz (.int 0),.fz (.int c),.fz R,z8,y9]):=by
 refine⟨.fz (.int t),?_⟩;have h0':¬s-1<0:=by omega
 subst hR;by_cases h1:t%6=1<;>by_cases h2:t%6=2<;>simp[-ap,-dF,b8,dz,aS,g1,g2,ht,hl,h1,h2,vk,h0']
theorem Ow(j:D)(hR:R=.tuple [.str "swing",j])(h0:s-1<0):∃z8,aS [.fz S,.fz (.int w),.fz (.int s),.fz (.int 0),.ow ds,.fz (.int 0),.fz (.int c),y7,y8,y9]=some (.nx,[.fz S,.fz (.int w),.fz (.int (s-1)),.fz (.int 0),.ow (ds++[.tuple [.str "turn",j,.int (1+t%7)]]),.fz (.int 0),.fz (.int c),.fz (.tuple [.str "turn",j,.int (1+t%7)]),z8,y9]):=by
 refine⟨.fz (.int t),?_⟩;subst hR;by_cases h1:t%6=1<;>by_cases h2:t%6=2<;>simp[-ap,-dF,b8,dz,aS,g1,g2,ht,hl,h1,h2,vk,h0]
end
def sw:Row->Nat
 |.swing _=>1
 |_=>0
def sws:List Row->Nat
 |[]=>0
 |r::rs=>sw r+sws rs
theorem MX(fh:Nat)(W:Wv)(r:Row):(aB fh W r).hs.length=W.hs.length+sw r:=by cases r<;>simp[aB,sw]
theorem CZ(fh:Nat):∀(rs:List Row) (W:Wv),(aK fh W rs).hs.length=W.hs.length+sws rs
 |[],W=>rfl
 |r::rs,W=>by
  show(aK fh (aB fh W r) rs).hs.length=W.hs.length+(sw r+sws rs);rw[CZ fh rs,MX,Nat.add_assoc]
theorem FM{n:Nat}(hn:1<=n)(S:D)(s c:Int)(ds:List D)(y7 y8 y9:Sl)(hl:ds.length<sizeLine):∃(r:Row) (s':Int) (z7 z8:Sl),r.ok n/\((sw r:Nat):Int)+max s' 0<=max s 0 /\
  aS [.fz S,.fz (.int (n:Int)),.fz (.int s),.fz (.int 0),.ow ds,.fz (.int 0),.fz (.int c),y7,y8,y9]=some (.nx,[.fz S,.fz (.int (n:Int)),.fz (.int s'),.fz (.int 0),.ow (ds++[rowD r]),.fz (.int 0),.fz (.int c),z7,z8,y9]):=by
 obtain⟨r,hr,g1⟩:=L5 c n hn;obtain⟨T,g2⟩:=r6 c;have oth:∀k:D,ay (rowD r) (.int 0)=some k->di k (.str "swing")=some (.bool false)->sw r=0->∃(r:Row) (s':Int) (z7 z8:Sl),r.ok n/\((sw r:Nat):Int)+max s' 0<=max s 0 /\
  aS [.fz S,.fz (.int (n:Int)),.fz (.int s),.fz (.int 0),.ow ds,.fz (.int 0),.fz (.int c),y7,y8,y9]=some (.nx,[.fz S,.fz (.int (n:Int)),.fz (.int s'),.fz (.int 0),.ow (ds++[rowD r]),.fz (.int 0),.fz (.int c),z7,z8,y9]):=fun k r0 h h0=>by
  obtain⟨z8,e⟩:=Ov S n s c T _ (rowD r) ds y7 y8 y9 hl g1 g2 rfl k r0 h;exact⟨r,s,_,z8,hr,by rw[h0];omega,e⟩
 cases r with
 |swing j=>
  by_cases h0:0<=s-1
  ·obtain⟨z8,e⟩:=Ou S n s c T _ (rowD (.swing j)) ds y7 y8 y9 hl g1 g2 rfl (.int j) rfl h0
   exact⟨.swing j,s-1,_,z8,hr,by show(1:Int)+_<=_;omega,e⟩
  ·obtain⟨z8,e⟩:=Ow S n s c T _ (rowD (.swing j)) ds y7 y8 y9 hl g1 g2 rfl (.int j) rfl (by omega)
   refine⟨.turn j (1+(T:Int)/3000%7).toNat,s-1,.fz (.tuple [.str "turn",.int j,.int (1+(T:Int)/3000%7)]),z8,⟨hr,by omega,by omega⟩,by show(0:Int)+_<=_;omega,?_⟩;have ee:rowD (.turn j (1+(T:Int)/3000%7).toNat)=.tuple [.str "turn",.int j,.int (1+(T:Int)/3000%7)]:=by
    show PyData.tuple [.str "turn",.int j,.int (((1+(T:Int)/3000%7).toNat:Nat):Int)]=_;rw[Int.toNat_of_nonneg (by omega)]
   rw[ee];exact e
 |turn j e=>exact oth (.str "turn") rfl (by simp) rfl
 |flip j=>exact oth (.str "flip") rfl (by simp) rfl
 |tie i j=>exact oth (.str "tie") rfl (by simp) rfl
 |sign i j=>exact oth (.str "sign") rfl (by simp) rfl
 |cross i j=>exact oth (.str "cross") rfl (by simp) rfl
theorem yI{n:Nat}(hn:1<=n)(S:D):∀(cs:List Int) (s:Int) (ds:List D) (y6 y7 y8 y9:Sl),ds.length+cs.length<1000->∃(rs:List Row) (s':Int) (z6 z7 z8:Sl),rs.length=cs.length/\(∀r∈rs,r.ok n)/\((sws rs:Nat):Int)+max s' 0<=max s 0 /\
  loop (gN 6) aS (cs.map .int) [.fz S,.fz (.int (n:Int)),.fz (.int s),.fz (.int 0),.ow ds,.fz (.int 0),y6,y7,y8,y9]=some (.nx,[.fz S,.fz (.int (n:Int)),.fz (.int s'),.fz (.int 0),.ow (ds++rs.map rowD),.fz (.int 0),z6,z7,z8,y9])
 |[],s,ds,y6,y7,y8,y9,_=>⟨[],s,y6,y7,y8,rfl,(fun r hr=>by cases hr),by show(0:Int)+_<=_;omega,by rw[map_nil,map_nil,append_nil];rfl⟩
 |c::cs,s,ds,y6,y7,y8,y9,h=>by
  rw[length_cons]at h;obtain⟨r,s1,z7,z8,o,m,e⟩:=FM hn S s c ds y7 y8 y9 (by rw[sizeLine_eq];omega);obtain⟨rs,s2,w6,w7,w8,l,os',m2,e2⟩:=yI hn S cs s1 (ds++[rowD r]) (.fz (.int c)) z7 z8 y9 (by rw[length_append,List.length_singleton];omega);refine⟨r::rs,s2,w6,w7,w8,by rw[length_cons,length_cons,l],fun x hx=>(List.mem_cons.mp hx).elim (fun z=>z ▸ o) (os' x),by show((sw r+sws rs:Nat):Int)+_<=_;push_cast;omega,?_⟩
  rw[map_cons,aE (δ1:=[.fz S,.fz (.int (n:Int)),.fz (.int s),.fz (.int 0),.ow ds,.fz (.int 0),.fz (.int c),y7,y8,y9]) (by simp) e,e2,List.append_assoc];rfl
theorem J8(A:D)(L:List D)(L':List D)(w s s':Int)(z6 z7 z8:Sl)(hA:eA A=some L)(hl:L'.length<=sizeLine)(lp:loop (gN 6) aS L [.fz A,.fz (.int w),.fz (.int s),.fz (.int 0),.ow [],.fz (.int 0),.un,.un,.un,.un]=some (.nx,[.fz A,.fz (.int w),.fz (.int s'),.fz (.int 0),.ow L',.fz (.int 0),z6,z7,z8,.un])):bf [A,.int w,.int s,.int 0]=some (.tuple L'):=by
 simp[-ap,-dF,b8,dz,bf,aU,gD,av,hA,lp,Hy,hl]
theorem yk{n:Nat}(hn:1<=n)(cs:List Int)(hc:cs.length<900)(s:Int):∃rs:List Row,rs.length=cs.length/\(∀r∈rs,r.ok n)/\((sws rs:Nat):Int)<=max s 0/\bf [.list (cs.map .int),.int (n:Int),.int s,.int 0]=some (.tuple (rs.map rowD)):=by
 obtain⟨rs,s',z6,z7,z8,l,o,m,e⟩:=yI hn (.list (cs.map .int)) cs s [] .un .un .un .un (by show 0+cs.length<1000;omega);exact⟨rs,l,o,by omega,J8 _ _ _ _ _ s' z6 z7 z8 rfl (by rw[length_map,l,sizeLine_eq];omega) e⟩
theorem Bg(w b e:Nat)(ms:List Nat)(hw:w<=4)(hm:2*w+ms.length<=8)(h2:∀x∈ms,x<2):b5 [.int w,.int b,.tuple (az ms),.int e]=some (.int (wJ (1::(bo w b++bo w e++ms)):Nat)):=by
 generalize hB:(1::(bo w b++bo w e++ms))=B;have hl:B.length<=9:=by rw[<-hB];simp[hZ];omega
 have hb:∀x∈B,x<2:=by
  rw[<-hB];intro x hx;rcases List.mem_cons.mp hx with rfl|hx
  ·decide
  ·rcases List.mem_append.mp hx with hx|hx
   ·rcases List.mem_append.mp hx with hx|hx
    ·exact zi _ _ x hx
    ·exact zi _ _ x hx
   ·exact h2 x hx
 have a1:aR (.tuple [.int 1]) (.tuple (az (bo w b)))=some (.tuple (az (1::bo w b))):=jy (by simp[az,hZ];omega);have a2:aR (.tuple (az (1::bo w b))) (.tuple (az (bo w e)))=some (.tuple (az (1::(bo w b++bo w e)))):=by
  rw[jy (by simp[az,hZ];omega),<-rX];rfl
 have a3:aR (.tuple (az (1::(bo w b++bo w e)))) (.tuple (az ms))=some (.tuple (az B)):=by
  rw[jy (by simp[az,hZ];omega),<-rX,<-hB];rfl
 refine HM w b e _ _ _ _ _ _ (.list ((List.range B.length).map fun k=>.int ((B.getD k 0*2^k:Nat):Int))) (qi w b (by omega)) (qi w e (by omega)) a1 a2 a3 ?_ _ ?_
 ·unfold ji
  refine jQ (yn rfl (cP B) (by omega)) (by omega) fun k hk=>?_
  have a:=pA B hk;have hx:B.getD k 0<2:=by
   rw[getD_eq_getElem?_getD,getElem?_eq_getElem hk];exact hb _ (List.getElem_mem hk)
  have l:=nT (a:=B.getD k 0) k (jJ (by omega)) (by omega);generalize B.getD k 0*2^k=z at *;generalize B.getD k 0=y at *;simp[eM,a,l]
 ·have:=uN (fun k=>((B.getD k 0*2^k:Nat):Int)) (List.range B.length)
  rw[uJ,yw]at this;exact this
theorem MG(n:Nat)(rs:List Row)(hl:rs.length<=1000):df [qg n rs]=some (.int 0):=by
 have e:mN [.fz (qg n rs)]=some (.list ((rs.filter fun _=>false).map rowD)):=jR (h:=rowD) (b:=fun _=>false) (by simp[qg]) (by omega) (fun r _=>by cases r<;>simp[rowD]) fun r _ z=>by cases z
 have e2:(rs.filter fun _=>false)=[]:=List.filter_eq_nil_iff.mpr fun _ _=>by simp
 rw[e2]at e;simp[df,aU,kA,av,e]
def HF(fh:Nat)(W:Wv):Prop:=W.hs=(List.range W.hs.length).map (fh + ·)
theorem HF.row{fh:Nat}{W:Wv}(h:HF fh W)(r:Row):HF fh (aB fh W r):=by
 cases r with
 |swing j=>
  show W.hs++[fh+W.hs.length]=(List.range (W.hs++[fh+W.hs.length]).length).map (fh + ·);rw[length_append,List.length_singleton,List.range_succ,map_append,<-h];rfl
 |_=>exact h
theorem HF.rows{fh:Nat}:∀(rs:List Row) {W:Wv},HF fh W->HF fh (aK fh W rs)
 |[],_,h=>h
 |r::rs,_,h=>HF.rows rs (h.row r)
theorem HF.hid{fh told:Nat}{W:Wv}(h:HF fh W)(T:Tl fh told):Lq told W.hs:=by
 refine⟨?_,fun x hx=>?_⟩
 ·rw[h]
  refine List.Pairwise.map _ (fun a b z=>?_) List.pairwise_lt_range;omega
 ·rw[h]at hx
  obtain⟨k,_,rfl⟩:=List.mem_map.mp hx;exact lt_of_lt_of_le T.lt (pow_le_pow_right (by decide) (le_add_right _ _))
theorem EI(y:MA.Q4)(h:Nat){c:Nat}(e:(MA.num y (h:Int)).2=c):res y (h:Int)=cZ ((MA.num y (h:Int)).1,(MA.num y (h:Int)).2.toNat):=by
 unfold res cZ;rw[if_neg (by omega),e];rfl
theorem IY{n:Nat}(h1:1<=n)(hn:n<=4)(rs:List Row)(hr:∀r∈rs,r.ok n)(hl:rs.length<=100){b e:Nat}(hb:b<2^n)(he:e<2^n){c:Nat}{R:As}{ss:List Nat}(hc:c<8)(hss:ss.length<=n)(rr:RR R (fun k=>kv k (aK (2*n+1) W0 rs).q))(hT:(c:Int)%8=(0+tv (aK (2*n+1) W0 rs).q)%8)(tt:TT ss (jr n (aK (2*n+1) W0 rs).cr))(h12:(aK (2*n+1) W0 rs).hs.length<=12)(ls:MA.ci (ba n (f0 b) rs e)):
  aT [kl n 0 ((aK (2*n+1) W0 rs).hs.length:Int) c (xR R) ss (aK (2*n+1) W0 rs).hs,.int (b:Int),.tuple [],.int (e:Int)]=some (cZ (ba n (f0 b) rs e)):=by
 have nil:∀x∈([]:List Nat),x<2:=fun x hx=>by cases hx
 have T:Tl (2*n+1) (Eh n b e []):=HR nil (by simp);have g1:=Bg n b e [] hn (by simp;omega) nil;obtain⟨ok,vw⟩:=xN (n:=n) (M:=200) T rs W0 (f0 b) (Nh (Nat.le_refl _)) (NL hb fun j hj=>Lx nil hj) hr (by show 0+rs.length<=200;omega);have hf:HF (2*n+1) (aK (2*n+1) W0 rs):=HF.rows rs rfl;have big:Eh n b e []<2^1000:=lt_of_lt_of_le T.lt (pow_le_pow_right (by decide) (by omega));have g:=tM n 0 ((aK (2*n+1) W0 rs).hs.length:Int) c (xR R) ss (aK (2*n+1) W0 rs).hs b e (Eh n b e []) (.tuple []) g1 big h12 (by omega) hc (by omega) (by omega);rw[Ng (hf.hid T),HX ok T (Nat.le_refl _) (fun j hj=>Lw nil hj) rr hT tt]at g;rw[g];refine congrArg some ?_;have v:=HC vw (by omega) he ls;rw[<-v];obtain⟨c',e1,_,_⟩:=MA.tN (AW n (aK (2*n+1) W0 rs) (Eh n b e []) e) (aK (2*n+1) W0 rs).hs.length;exact EI _ _ e1
theorem iy{n B:Nat}{f:Nat->Nu}(h:∀p,(f p).2<=B)(r:Row)(p:Nat):(aL n f r p).2<=B+1:=by
 cases r with
 |swing j=>
  rw[p7];refine le_trans (t6 _) (Nat.succ_le_succ (le_trans (MA.dS _ _) (Nat.max_le.mpr ⟨h _,h _⟩)))
 |turn j e=>exact le_succ_of_le (h p)
 |sign i j=>exact le_succ_of_le (h p)
 |flip j=>exact le_succ_of_le (h _)
 |tie i j=>exact le_succ_of_le (h _)
 |cross i j=>exact le_succ_of_le (h _)
theorem kg{n:Nat}:∀(rs:List Row) (f:Nat->Nu),(∀p,MA.ci (f p))->∀p,MA.ci (ba n f rs p)
 |[],_,h=>h
 |r::rs,f,h=>kg rs (aL n f r) fun p=>MA.iY h n r p
theorem lv(b p:Nat):MA.ci (f0 b p):=by
 unfold f0;split<;>exact⟨by show(0:Int)<=0;omega,fun z=>absurd z (by decide)⟩
theorem p4(b p:Nat):(f0 b p).2<=0:=by unfold f0;split<;>exact Nat.le_refl _
def yC:Nu:=(⟨0,0,0,0⟩,0)
def Zb(n:Nat)(f:Nat->Nu):Prop:=∀x,2^n<=x->f x=yC
theorem Bo{n j x:Nat}(hj:j<n)(hx:2^n<=x)(h:bit (wt n j) x=1):2^n<=x-wt n j:=by
 obtain⟨q,r,e,hr⟩:=MA.iD (wt n j) x (MA.br n j);rw[h]at e;have h2:=MA.v5 hj;have e2:wt n j*2^(j+1)=2*2^j*wt n j:=by rw[pow_succ,Nat.mul_comm,Nat.mul_comm (2^j) 2]
 have e3:(2*q+1)*wt n j=2*q*wt n j+wt n j:=by rw[add_mul,one_mul]
 have hq:2^j<=q:=by
  refine Nat.le_of_not_lt fun z=>?_
  have:(2*q+2)*wt n j<=2*2^j*wt n j:=Nat.mul_le_mul_right _ (by omega);have e4:(2*q+2)*wt n j=2*q*wt n j+wt n j+wt n j:=by rw[add_mul];omega
  omega
 have:2*2^j*wt n j<=2*q*wt n j:=Nat.mul_le_mul_right _ (by omega);omega
theorem t7{n j x:Nat}(hj:j<n)(hx:2^n<=x):2^n<=flp (wt n j) x:=by
 unfold MA.flp;have b:=MA.bI (wt n j) x;by_cases h:bit (wt n j) x=0
 ·rw[if_pos h];omega
 ·rw[if_neg h];exact Bo hj hx (by omega)
theorem ou(e:Nat):MA.bt e yC=yC:=by
 show(MA.cj (e%8) ⟨0,0,0,0⟩,0)=yC;rw[MA.uE];rfl
theorem BX:MA.cy (MA.bw yC yC)=yC:=by rfl
theorem Zb.done{n:Nat}{f:Nat->Nu}(h:Zb n f){r:Row}(hr:r.ok n):Zb n (aL n f r):=fun x hx=>by
 cases r with
 |swing j=>
  have b:=MA.bI (wt n j) x;by_cases q:bit (wt n j) x=0
  ·rw[show aL n f (.swing j) x=MA.cy (MA.bw (f x) (f (x+wt n j)))from if_pos q,h x hx,h _ (by omega),BX]
  ·rw[show aL n f (.swing j) x=MA.cy (MA.bw (f (x-wt n j)) (MA.bt 4 (f x)))from if_neg q,h x hx,h _ (Bo hr hx (by omega)),ou,BX]
 |turn j e=>show MA.bt _ (f x)=_;rw[h x hx,ou]
 |sign i j=>show MA.bt _ (f x)=_;rw[h x hx,ou]
 |flip j=>exact h _ (t7 hr hx)
 |tie i j=>
  refine h _ ?_;show 2^n<=if bit (wt n i) x=0 then x else flp (wt n j) x
  split
  ·exact hx
  ·exact t7 hr.2.1 hx
 |cross i j=>
  refine h _ ?_;show 2^n<=if bit (wt n i) x=bit (wt n j) x then x else flp (wt n j) (flp (wt n i) x)
  split
  ·exact hx
  ·exact t7 hr.2.1 (t7 hr.1 hx)
theorem Ky(b:Nat):f0 b=MA.gR b:=rfl
theorem u5{n:Nat}:∀(rs:List Row) (f:Nat->Nu) (B:Nat),(∀p,(f p).2<=B)->∀p,(ba n f rs p).2<=B+rs.length
 |[],f,B,h,p=>h p
 |r::rs,f,B,h,p=>by
  have:=u5 (n:=n) rs (aL n f r) (B+1) (fun q=>iy h r q) p;rw[length_cons];show(ba n (aL n f r) rs p).2<=_;omega
theorem u6{n:Nat}(f:Nat->Nu)(a b:List Row):ba n f (a++b)=ba n (ba n f a) b:=List.foldl_append
theorem uF{n N M K:Nat}{a:Nat->MA.Q4}:∀(rs:List Row) (c:Nat->Nat->Nu) (g:Nat->Nu) (B C:Nat),MA.Sup N M K a c g->(∀p,(g p).2<=B)->(∀p x,(c p x).2<=C)->B+rs.length<=N->C+rs.length<=M->MA.Sup N M K a (fun p=>ba n (c p) rs) (ba n g rs)
 |[],c,g,B,C,h,_,_,_,_=>h
 |r::rs,c,g,B,C,h,hg,hc,hB,hC=>by
  rw[length_cons]at hB hC;exact uF rs (fun p=>aL n (c p) r) (aL n g r) (B+1) (C+1) (h.done (fun p=>by have:=hg p;omega) (fun p x=>by have:=hc p x;omega) r) (fun p=>iy hg r p) (fun p x=>iy (hc p) r x) (by omega) (by omega)
def gJ(n:Nat)(rs:List Row)(b e:Nat):Nu:=ba n (f0 b) rs e
theorem dy(n:Nat)(rs:List Row)(b e:Nat):(gJ n rs b e).2<=rs.length:=by
 have:=u5 (n:=n) rs (f0 b) 0 (p4 b) e;unfold gJ;omega
theorem mC(n:Nat)(rs:List Row)(b e:Nat):MA.ci (gJ n rs b e):=kg rs _ (lv b) e
theorem HA{n:Nat}{f:Nat->Nu}(h:∀x,2^n<=x->f x=yC){r:Row}(hr:r.ok n):∀x,2^n<=x->aL n f r x=yC:=fun x hx=>Zb.done (n:=n) h hr x hx
theorem xL{n:Nat}:∀(rs:List Row) (f:Nat->Nu),(∀x,2^n<=x->f x=yC)->(∀r∈rs,r.ok n)->∀x,2^n<=x->ba n f rs x=yC
 |[],f,h,_=>h
 |r::rs,f,h,hr=>xL rs (aL n f r) (HA h (hr r mem_cons_self)) fun q hq=>hr q (mem_cons_of_mem _ hq)
theorem KL{n:Nat}(a b:List Row)(ha:∀r∈a,r.ok n)(la:a.length<=100)(lb:b.length<=100){s:Nat}(hs:s<2^n)(e:Nat):
  MA.val 400 (gJ n (a++b) s e)=MA.iK (2^n) fun p=>MA.Q4.mul (MA.val 200 (gJ n a s p)) (MA.val 200 (gJ n b p e)):=by
 have hz:∀p,2^n<=p->gJ n a s p=(⟨0,0,0,0⟩,0):=xL a (f0 s) (fun x hx=>if_neg (by omega)) ha
 have st:=MA.Sup.start (n:=n) (M:=200) (gJ n a s) (fun p=>by have:=dy n a s p;omega) hz;have:=uF (n:=n) b MA.gR (gJ n a s) 100 0 st (fun p=>by have:=dy n a s p;omega) (fun p x=>p4 p x) (by omega) (by omega) e;unfold gJ;rw[u6];exact this
def pY(G:Nat->Nu):Nat->Nu
 | 0=>yC
 |k+1=>MA.bw (pY G k) (G k)
theorem jN{G:Nat->Nu}{M:Nat}(h:∀p,(G p).2<=M):∀k,(pY G k).2<=M
 | 0=>zero_le _
 |k+1=>le_trans (MA.dS _ _) (Nat.max_le.mpr ⟨jN h k,h k⟩)
theorem vH(G:Nat->Nu):∀k,MA.ci (pY G k)
 | 0=>lv 1 0
 |k+1=>MA.wz _ _
theorem si{G:Nat->Nu}{M:Nat}(h:∀p,(G p).2<=M):∀k,MA.val M (pY G k)=MA.iK k fun p=>MA.val M (G p)
 | 0=>MA.kJ M
 |k+1=>by
  show MA.val M (MA.bw _ _)=_;rw[MA.ig (jN h k) (h k),si h k];rfl
theorem AO{n:Nat}(a b:List Row)(ha:∀r∈a,r.ok n)(la:a.length<=100)(lb:b.length<=100){s:Nat}(hs:s<2^n)(e:Nat):
  gJ n (a++b) s e=pY (fun p=>MA.fK (gJ n a s p) (gJ n b p e)) (2^n):=by
 have h1:∀p,(gJ n a s p).2<=200:=fun p=>by have:=dy n a s p;omega
 have h2:∀p,(gJ n b p e).2<=200:=fun p=>by have:=dy n b p e;omega
 have h3:∀p,(MA.fK (gJ n a s p) (gJ n b p e)).2<=400:=fun p=>by
  have:=MA.rH (gJ n a s p) (gJ n b p e);have:=h1 p;have:=h2 p;omega
 refine MA.nH (M:=400) (mC _ _ _ _) (vH _ _) (by have:=dy n (a++b) s e;rw[length_append]at this;omega) (jN h3 _) ?_;rw[KL a b ha la lb hs e,si h3];exact MA.gc _ fun p _=>(MA.zB (M:=200) (N:=200) (h1 p) (h2 p)).symm
def mV(rs:List Row):List Row:=(rs.map MA.Row.about).reverse
theorem r9{n M:Nat}:∀(rs:List Row) (f g:Nat->Nu) (B:Nat),(∀r∈rs,r.ok n)->(∀p,(f p).2<=B)->(∀p,(g p).2<=B)->B+rs.length<=M->MA.nk M n (ba n f rs) (ba n g rs)=MA.nk M n f g
 |[],f,g,B,_,_,_,_=>rfl
 |r::rs,f,g,B,hr,hf,hg,hB=>by
  rw[length_cons]at hB;rw[<-MA.Ax r (hr r mem_cons_self) f g (fun p=>by have:=hf p;omega) (fun p=>by have:=hg p;omega)];exact r9 rs (aL n f r) (aL n g r) (B+1) (fun q hq=>hr q (mem_cons_of_mem _ hq)) (fun p=>iy hf r p) (fun p=>iy hg r p) (by omega)
theorem rF{n:Nat}:∀(rs:List Row) (f:Nat->Nu) (B:Nat),(∀r∈rs,r.ok n)->(∀p,MA.ci (f p))->(∀p,(f p).2<=B)->ba n (ba n f rs) (mV rs)=f
 |[],f,_,_,_,_=>rfl
 |r::rs,f,B,hr,hl,hB=>by
  have ih:=rF rs (aL n f r) (B+1) (fun q hq=>hr q (mem_cons_of_mem _ hq)) (fun p=>MA.iY hl n r p) (fun p=>iy hB r p)
  have e:mV (r::rs)=mV rs++[r.about]:=by unfold mV;rw[map_cons,List.reverse_cons]
  rw[e,u6];show ba n (ba n (ba n (aL n f r) rs) (mV rs)) [r.about]=f;rw[ih];exact funext fun x=>MA.AL hl hB r (hr r mem_cons_self) x
theorem DB{n:Nat}{rs:List Row}(h:∀r∈rs,r.ok n):∀r∈mV rs,r.ok n:=fun r hr=>by
 unfold mV at hr;rw[List.mem_reverse]at hr;obtain⟨q,hq,rfl⟩:=List.mem_map.mp hr;exact MA.Row.about_ok (h q hq)
theorem Cw(x:MA.Q4)(M:Nat):MA.Q4.mul x (MA.Q4.rtn M ⟨1,0,0,0⟩)=MA.Q4.rtn M x:=by
 rw[MA.Q4.mul_comm,<-MA.Q4.rtn_mul,MA.Q4.mul_comm,MA.vp]
theorem CT{n M e:Nat}(he:e<2^n)(f:Nat->Nu):MA.nk M n f (MA.gR e)=MA.Q4.rtn M (MA.Q4.mir (MA.val M (f e))):=by
 unfold MA.nk;rw[MA.oF (x:=e) (fun p hp=>by
  have:MA.gR e p=(⟨0,0,0,0⟩,0):=if_neg hp;rw[this,MA.kJ,MA.rY]),if_pos he]
 have:MA.gR e e=(⟨1,0,0,0⟩,0):=if_pos rfl;rw[this];show MA.Q4.mul _ (MA.Q4.rtn (M-0) _)=_;rw[sub_zero,Cw]
theorem Am{n:Nat}(rs:List Row)(hr:∀r∈rs,r.ok n)(hl:rs.length<=200){b e:Nat}(hb:b<2^n)(he:e<2^n):gJ n (mV rs) e b=MA.Ao (gJ n rs b e):=by
 have lb:(mV rs).length=rs.length:=by unfold mV;rw[length_reverse,length_map]
 have h1:=CT (M:=600) he (gJ n rs b);have h2:=r9 (n:=n) (M:=600) (mV rs) (gJ n rs b) (MA.gR e) 200 (DB hr) (fun p=>by have:=dy n rs b p;omega) (fun p=>by have:=p4 e p;rw[Ky]at this;omega) (by omega);have h3:ba n (gJ n rs b) (mV rs)=MA.gR b:=rF rs (f0 b) 0 hr (lv b) (p4 b);have h4:MA.nk 600 n (MA.gR b) (gJ n (mV rs) e)=MA.Q4.rtn 600 (MA.val 600 (gJ n (mV rs) e b)):=by
  rw[MA.CU,CT hb,MA.Q4.mir_rtn];congr 1;apply MA.Q4.ext'<;>simp[MA.Q4.mir]
 have h5:MA.nk 600 n (MA.gR b) (gJ n (mV rs) e)=MA.nk 600 n (gJ n rs b) (MA.gR e):=by rw[<-h3];exact h2
 rw[h4,h1]at h5;refine MA.nH (M:=600) (mC _ _ _ _) (MA.wP (mC _ _ _ _)) (by have:=dy n (mV rs) e b;omega) (by show(gJ n rs b e).2<=600;have:=dy n rs b e;omega) ?_;rw[MA.Ec];exact MA.Q4.rtn_inj h5
theorem DZ(i:Int):cE [.int i]=some (.bool true):=by simp[cE,aU,i0,av]
theorem De(a b c d k:Int)(h0:0<=k)(h:k<=100):aZ [.tuple [.int a,.int b,.int c,.int d,.int k]]=some (.bool true):=by
 have e:gq [.fz (.tuple [.int a,.int b,.int c,.int d,.int k])]=some (.list []):=by
  unfold gq;have:=jR (fi:=oI (oV 0) eA) (caps:=[]) (ft:=tK (ob (VL.os (ad (oV 0) ao) cE))) (fe:=oV 0) (δ:=[.fz (.tuple [.int a,.int b,.int c,.int d,.int k])]) (h:=PyData.int) (k:=PyData.int) (b:=fun _=>false) (xs:=[a,b,c,d,k]) rfl (by simp) (fun x _=>by simp[DZ]) (fun x _ z=>by cases z);simpa using this
 have i4:ay (.tuple [.int a,.int b,.int c,.int d,.int k]) (.int 4)=some (.int k):=rfl;have t:jY "tuple" (.tuple [.int a,.int b,.int c,.int d,.int k])=some (.bool true):=rfl;have l:fV [.tuple [.int a,.int b,.int c,.int d,.int k]]=some (.int 5):=rfl;simp[aZ,aU,h7,av,e,i4,t,l,h0,h]
theorem pW(u:Nu)(h:u.2<=100):aZ [cZ u]=some (.bool true):=De _ _ _ _ _ (by omega) (by omega)
theorem CA(u:Nu):cb [cZ u]=some (cZ (MA.Ao u)):=by
 have e0:ay (cZ u) (.int 0)=some (.int u.1.a):=rfl;have e1:ay (cZ u) (.int 1)=some (.int u.1.b):=rfl;have e2:ay (cZ u) (.int 2)=some (.int u.1.c):=rfl;have e3:ay (cZ u) (.int 3)=some (.int u.1.d):=rfl;have e4:ay (cZ u) (.int 4)=some (.int u.2):=rfl;simp[cb,aU,h6,av,e0,e1,e2,e3,e4];simp[cZ,MA.Ao,MA.Q4.mir,tup5]
theorem KM{T:D}{L:List D}{r:Row}{n:Nat}(hr:r.ok n)(hl:L.length<1000):∃z,ez [.fz T,.fz (.list L),.fz (rowD r)]=some (.nx,[.fz T,.fz (.list (rowD r.about::L)),z]):=by
 have a:∀x,aR (.list [x]) (.list L)=some (.list (x::L)):=fun x=>mJ (by simp;omega)
 cases r with
 |turn j e=>
  have h:e<=7:=hr.2.2;refine⟨.fz (.tuple [.str "turn",.int j,.int (8-e)]),?_⟩;have i1:ay (.tuple [.str "turn",.int j,.int e]) (.int 1)=some (.int j):=rfl;have i2:ay (.tuple [.str "turn",.int j,.int e]) (.int 2)=some (.int e):=rfl;have q:(8:Int)-(e:Int)=((8-e:Nat):Int):=by omega
  simp[ez,rowD,MA.Row.about,NE,i1,i2,a,q]
 |_=>exact⟨_,by simp[ez,rowD,MA.Row.about,NE,a];rfl⟩
theorem sC{n:Nat}{T:D}:∀(rs:List Row) (L:List D) (z:Sl),(∀r∈rs,r.ok n)->L.length+rs.length<1000->∃z',loop (gN 2) ez (rs.map rowD) [.fz T,.fz (.list L),z]=some (.nx,[.fz T,.fz (.list ((mV rs).map rowD++L)),z'])
 |[],L,z,_,_=>⟨z,rfl⟩
 |r::rs,L,z,h,hl=>by
  rw[length_cons]at hl;obtain⟨z1,e1⟩:=KM (T:=T) (L:=L) (h r mem_cons_self) (by omega);obtain⟨z',e⟩:=sC (n:=n) (T:=T) rs (rowD r.about::L) z1 (fun q hq=>h q (mem_cons_of_mem _ hq)) (by rw[length_cons];omega)
  refine⟨z',?_⟩;rw[map_cons,aE (δ1:=[.fz T,.fz (.list L),.fz (rowD r)]) (by simp) e1,e];simp[mV]
theorem GL{n:Nat}(rs:List Row)(h:∀r∈rs,r.ok n)(hl:rs.length<900):dg [.tuple (rs.map rowD)]=some (.tuple ((mV rs).map rowD)):=by
 obtain⟨z',e⟩:=sC (n:=n) (T:=.tuple (rs.map rowD)) rs [] .un h (by simp;omega);rw[append_nil]at e;simp[dg,aU,jx,av,e]
theorem zp{n:Nat}:∀(rs:List Row) (f:Nat->Nu) (k p:Nat),Bd k p f->Bd (k+rs.length) (p+rs.length*(k+rs.length+1)) (ba n f rs)
 |[],f,k,p,h=>h.mono (Nat.le_refl _) (le_add_right _ _)
 |r::rs,f,k,p,h=>by
  have:=zp (n:=n) rs (aL n f r) (k+1) (p+k+1) (h.done n r);refine this.mono (by rw[length_cons];omega) ?_;rw[length_cons];have e:(rs.length+1)*(k+(rs.length+1)+1)=rs.length*(k+1+rs.length+1)+(k+1+rs.length+1):=by rw[add_mul,one_mul,show k+(rs.length+1)+1=k+1+rs.length+1 by omega]
  omega
theorem Dp(n:Nat)(rs:List Row)(hl:rs.length<=100)(b e:Nat):MA.Q4.Le (2^200000) (gJ n rs b e).1:=by
 have h0:Bd 0 0 (f0 b):=fun x=>⟨p4 b x,by
  unfold f0;split
  ·exact⟨by decide,by decide,by decide,by decide⟩
  ·exact⟨by decide,by decide,by decide,by decide⟩⟩
 have:=(zp (n:=n) rs (f0 b) 0 0 h0 e).2;refine this.mono (pow_le_pow_right (by decide) ?_);have:rs.length*(0+rs.length+1)<=100*101:=Nat.mul_le_mul hl (by omega);omega
theorem nM:∀a b:List Row,sws (a++b)=sws a+sws b
 |[],b=>by simp[sws]
 |r::a,b=>by
  show sw r+sws (a++b)=sw r+sws a+sws b;rw[nM a b];omega
theorem xV:∀a:List Row,sws (mV a)=sws a
 |[]=>rfl
 |r::a=>by
  have e:mV (r::a)=mV a++[r.about]:=by unfold mV;rw[map_cons,List.reverse_cons]
  rw[e,nM,xV a];have:sw r.about=sw r:=by cases r<;>rfl
  show sws a+(sw r.about+0)=sw r+sws a;omega
theorem nQ{n:Nat}(h1:1<=n)(hn:n<=2)(rs:List Row)(hr:∀r∈rs,r.ok n)(hl:rs.length<=100)(hs:sws rs<=6):∃O:D,b6 [qg n rs]=some O/\∀b e:Nat,b<2^n->e<2^n->aT [O,.int (b:Int),.tuple [],.int (e:Int)]=some (cZ (gJ n rs b e)):=by
 have hsw:(aK (2*n+1) W0 rs).hs.length=sws rs:=by rw[CZ];exact Nat.zero_add _
 have hB:2^n+(aK (2*n+1) W0 rs).hs.length*(2^(n-1)+1)<64:=by
  rw[hsw];rcases (by omega:n=1\/n=2)with rfl|rfl
  ·show 2+sws rs*2<64;omega
  ·show 4+sws rs*3<64;omega
 obtain⟨c,R,ss,hc,hR,hss,rr,hT,tt,gs⟩:=zI (n:=n) (by omega) rs hr hl (MG n rs (by omega)) hB;exact⟨_,gs,fun b e hb he=>IY h1 (by omega) rs hr hl hb he hc hss rr hT tt (by omega) (kg rs _ (lv b) e)⟩
theorem OK{N:Int}{L:List D}{b:Sf}{x0 x1 x2 x3 x4 x5 x6 x7 x8 x9 x10 x11:Sl}{xs:List Sl}{r:Option (Fl×Dv)}(hr:bP [.int N]=some L)(e:loop (gN 14) b L (x0::x1::x2::x3::x4::x5::x6::x7::x8::x9::x10::x11 :: .fz (.int N)::xs)=r):lW (oL (ad (oV 12) (ao)) bP) (gN 14) b (x0::x1::x2::x3::x4::x5::x6::x7::x8::x9::x10::x11 :: .fz (.int N)::xs)=r:=by
 rw[<-e];simp[hr]
theorem zN{i:Nat}{f:Dv->Option D}{s:Sf}{δ:Dv}{d:D}(h:f δ = some d):ap (aC i f) s δ = s (δ.set i (.fz d)):=by simp[h]
theorem My(u:Nu):neD (cZ u) (cZ u)=some (.bool false):=Ef u.1 u.2
section
variable{x0 x1 x2 x3 x4 x5 x6 x7 x8 x10 x11 x12 x15 x18:Sl}{O A Bt Bk:D}
theorem OB{e p:Int}{du st ah pr du':D}(h1:aT [O,.int p,.tuple [],.int e]=some st)(f1:aZ [st]=some (.bool true))(h2:ay A (.int p)=some ah)(f2:aZ [ah]=some (.bool true))(h3:bF [ah,st]=some pr)(h4:cF [du,pr]=some du'):
  mm [x0,x1,x2,x3,x4,x5,x6,x7,x8,.fz O,x10,x11,x12,.fz A,.fz (.int e),x15,.fz du,.fz (.int p),x18]=some (.nx,[x0,x1,x2,x3,x4,x5,x6,x7,x8,.fz O,x10,x11,x12,.fz A,.fz (.int e),x15,.fz du',.fz (.int p),.fz st]):=by
 simp[mm,h1,f1,h2,f2,h3,h4]
theorem OA{e s:Int}{N:Int}{L:List D}{F mi:D}{z16 z17 z18 y17 y18:Sl}(h1:aT [Bt,.int s,.tuple [],.int e]=some F)(hN:bP [.int N]=some L)
  (lp:loop (gN 17) mm L [x0,x1,x2,.fz (.int s),x4,x5,x6,x7,x8,.fz O,.fz Bt,.fz Bk,.fz (.int N),.fz A,.fz (.int e),.fz F,.fz (.tuple [.int 0,.int 0,.int 0,.int 0,.int 0]),y17,y18]=some (.nx,[x0,x1,x2,.fz (.int s),x4,x5,x6,x7,x8,.fz O,.fz Bt,.fz Bk,.fz (.int N),.fz A,.fz (.int e),.fz F,.fz F,z17,z18]))
  (f:aZ [F]=some (.bool true)) (ne:neD F F=some (.bool false)) (h2:aT [Bk,.int e,.tuple [],.int s]=some mi) (h3:cb [F]=some mi) (ne2:neD mi mi=some (.bool false)) :
  pK [x0,x1,x2,.fz (.int s),x4,x5,x6,x7,x8,.fz O,.fz Bt,.fz Bk,.fz (.int N),.fz A,.fz (.int e),x15,z16,y17,y18]=some (.nx,[x0,x1,x2,.fz (.int s),x4,x5,x6,x7,x8,.fz O,.fz Bt,.fz Bk,.fz (.int N),.fz A,.fz (.int e),.fz F,.fz F,z17,z18]):=by
 simp[pK,h1,hN,lp,f,ne,h2,h3,ne2]
end
theorem MI{S C B1 B2 RA RB RC RK O1 O2 O3 O4 AH:D}{n hd s l ct N c0 c1:Int}{L:List D}{w14 w15 w16 w17 w18:Sl}(h0:bg [S,.int 0]=some (.int c0))(hn:1+c0%2=n)(h1:bg [S,.int 1]=some (.int c1))(hhd:c1%1000000000=hd)(hN:gF (.int 1) (.int n)=some (.int N))(hs:bN (.int hd) (.int N)=some (.int s))
  (sl:DL S (some 2) (some 60)=some C) (hl:fV [C]=some (.int l)) (hct:bN (.int (hd/4)) (.int (l+1))=some (.int ct)) (s1:DL C none (some ct)=some B1) (s2:DL C (some ct) none=some B2) (r1:bf [B1,.int n,.int 3,.int 0]=some RA) (r2:bf [B2,.int n,.int 3,.int 0]=some RB) (r3:aR RA RB=some RC) (r4:dg [RC]=some RK)
  (o1:b6 [.tuple [.int n,RA]]=some O1) (o2':b6 [.tuple [.int n,RB]]=some O2) (o3:b6 [.tuple [.int n,RC]]=some O3) (o4:b6 [.tuple [.int n,RK]]=some O4) (hr:bP [.int N]=some L)
  (hp:wE [.fz S,.fz (.int n),.fz (.int hd),.fz (.int s),.fz C,.fz (.int ct),.fz RA,.fz RB,.fz O1,.fz O2,.fz O3,.fz O4,.fz (.int N),.un,.un,.un,.un,.un,.un]=some AH)
  (lp:loop (gN 14) pK L [.fz S,.fz (.int n),.fz (.int hd),.fz (.int s),.fz C,.fz (.int ct),.fz RA,.fz RB,.fz O1,.fz O2,.fz O3,.fz O4,.fz (.int N),.fz AH,.un,.un,.un,.un,.un]=some (.nx,[.fz S,.fz (.int n),.fz (.int hd),.fz (.int s),.fz C,.fz (.int ct),.fz RA,.fz RB,.fz O1,.fz O2,.fz O3,.fz O4,.fz (.int N),.fz AH,w14,w15,w16,w17,w18])):yT [S]=some (.bool true):=by
 have p9:zV (.int 10) (.int 9)=some (.int 1000000000):=rfl;have e:zq (av v1 [S])=some (.rt (.bool true),[.fz S,.fz (.int n),.fz (.int hd),.fz (.int s),.fz C,.fz (.int ct),.fz RA,.fz RB,.fz O1,.fz O2,.fz O3,.fz O4,.fz (.int N),.fz AH,w14,w15,w16,w17,w18]):=by
  have u:av v1 [S]=.fz S::List.replicate 18 .un:=rfl;rw[u,zq,zN (d:=.int n) (by simp[h0,hn]),zN (d:=.int hd) (by simp[h1,p9,hhd]),zN (d:=.int s) (by simp[hN,hs]),zN (d:=C) (by simp[sl]),zN (d:=.int ct) (by simp[hl,hct]),zN (d:=RA) (by simp[s1,r1]),zN (d:=RB) (by simp[s2,r2]),zN (d:=O1) (by simp[o1]),zN (d:=O2) (by simp[o2']),zN (d:=O3) (by simp[r3,o3]),zN (d:=O4) (by simp[r3,r4,o4]),zN (d:=.int N) (by simp[hN]),zN (d:=AH) (by exact hp)];exact(jk (OK hr lp)).trans rfl
 exact Cr rfl e
theorem CY{n:Nat}(hn:n<=6){a b:List Row}(la:a.length<=100)(lb:b.length<=100){O A:D}{s e:Nat}{x0 x1 x2 x3 x4 x5 x6 x7 x8 x10 x11 x12 x15:Sl}(y17 y18:Sl)(hO:∀p:Nat,p<2^n->aT [O,.int (p:Int),.tuple [],.int (e:Int)]=some (cZ (gJ n b p e)))(hA:∀p:Nat,p<2^n->ay A (.int (p:Int))=some (cZ (gJ n a s p))):
  ∃z17 z18,loop (gN 17) mm (oR 0 (2^n)) [x0,x1,x2,x3,x4,x5,x6,x7,x8,.fz O,x10,x11,x12,.fz A,.fz (.int (e:Int)),x15,.fz (cZ yC),y17,y18]=some (.nx,[x0,x1,x2,x3,x4,x5,x6,x7,x8,.fz O,x10,x11,x12,.fz A,.fz (.int (e:Int)),x15,.fz (cZ (pY (fun p=>MA.fK (gJ n a s p) (gJ n b p e)) (2^n))),z17,z18]):=by
 have h3:∀p,(MA.fK (gJ n a s p) (gJ n b p e)).2<=400:=fun p=>by
  have:=MA.rH (gJ n a s p) (gJ n b p e);have:=dy n a s p;have:=dy n b p e;omega
 obtain⟨δ',e1,z17,z18,rfl⟩:=pF (b:=mm) (k:=17) (fun i δ=>∃z17 z18,δ = [x0,x1,x2,x3,x4,x5,x6,x7,x8,.fz O,x10,x11,x12,.fz A,.fz (.int (e:Int)),x15,.fz (cZ (pY (fun p=>MA.fK (gJ n a s p) (gJ n b p e)) i)),z17,z18]) (2^n) (by
  rintro i hi δ ⟨z17,z18,rfl⟩;have ea:=dy n a s i;have eb:=dy n b i e;exact⟨_,OB (hO i hi) (pW _ (by omega)) (hA i hi) (pW _ (by omega)) (Iz _ _ (Dp n a la s i) (Dp n b lb i e) (by omega)) (LP _ _ (by have:=jN h3 i;omega) (by have:=h3 i;omega)),_,_,rfl⟩) [x0,x1,x2,x3,x4,x5,x6,x7,x8,.fz O,x10,x11,x12,.fz A,.fz (.int (e:Int)),x15,.fz (cZ yC),y17,y18] ⟨y17,y18,rfl⟩
 exact⟨z17,z18,e1⟩
theorem GA(ns:List Int)(hl:ns.length<=63):∃cs:List Int,cs.length<=58/\DL (.list (ns.map .int)) (some 2) (some 60)=some (.list (cs.map .int)):=by
 refine⟨(ns.drop (HT.sIx ns.length 0 (some 2))).take (HT.sIx ns.length ns.length (some 60)-HT.sIx ns.length 0 (some 2)),?_,?_⟩
 ·have e1:HT.sIx ns.length 0 (some 2)=min 2 ns.length:=rfl
  have e2:HT.sIx ns.length ns.length (some 60)=min 60 ns.length:=rfl;rw[List.length_take,e1,e2];omega
 ·show some (PyData.list (jZ _ _ _))=_
  unfold jZ;rw[length_map,<-List.map_drop,<-map_take]
theorem G5(n d k:Nat):HT.sIx n d (some (k:Int))=min k n:=by
 unfold HT.sIx;dsimp only;rw[if_neg (by omega),toNat_natCast]
theorem KH(cs:List Int)(k:Nat)(hk:k<=cs.length):DL (.list (cs.map .int)) none (some (k:Int))=some (.list ((cs.take k).map .int)):=by
 show some (PyData.list (jZ _ _ _))=_;unfold jZ;rw[length_map,G5,show HT.sIx cs.length 0 none=0 from rfl,sub_zero,List.drop_zero,<-map_take,min_eq_left hk]
theorem KI(cs:List Int)(k:Nat)(hk:k<=cs.length):DL (.list (cs.map .int)) (some (k:Int)) none=some (.list ((cs.drop k).map .int)):=by
 show some (PyData.list (jZ _ _ _))=_;unfold jZ;rw[length_map,G5,show HT.sIx cs.length cs.length none=cs.length from rfl,min_eq_left hk,<-List.map_drop,<-map_take,List.take_of_length_le (by rw[List.length_drop];omega)]
theorem yF(c:Int){N:Nat}(hN:0<N):bN (.int c) (.int (N:Int))=some (.int ((c%(N:Int)).toNat:Nat)):=by
 have:bN (.int c) (.int (N:Int))=some (.int (c%(N:Int))):=jl (by omega);rw[this,Int.toNat_of_nonneg (emod_nonneg _ (by omega))]
theorem BJ(n:Nat)(hn:n<=6):bP [.int ((2^n:Nat):Int)]=some (oR 0 (2^n)):=by
 exact ym n hn
theorem GS{S n hd s C ct RA RB O1 O2 O3 O4:D}{N:Int}{M:Nat}{y:Nat->D}(hM:M<=1000)(r:bP [.int N]=some ((List.range M).map fun k:Nat=>PyData.int (0+(k:Int))))(hO:∀p:Nat,p<M->aT [O1,s,.tuple [],.int (p:Int)]=some (y p)):
  wE [.fz S,.fz n,.fz hd,.fz s,.fz C,.fz ct,.fz RA,.fz RB,.fz O1,.fz O2,.fz O3,.fz O4,.fz (.int N),.un,.un,.un,.un,.un,.un]=some (.list ((List.range M).map y)):=by
 refine jQ (by simp[oL,r]) (by omega) fun k hk=>?_
 have:=hO k hk;simp[eM,Ld,this]
theorem KO(f:Nat->D){N p:Nat}(h:p<N):ay (.list ((List.range N).map f)) (.int (p:Int))=some (f p):=by
 show fZ _ _=_;exact fN (j:=p) rfl (by simp[h])
theorem law_true(ns:List Int)(hl:ns.length<=63):yT [.list (ns.map .int)]=some (.bool true):=by
 obtain⟨c0,h0⟩:=zg ns 0 (by omega);obtain⟨c1,h1⟩:=zg ns 1 (by omega);obtain⟨n,hn⟩:∃n:Nat,1+c0%2=(n:Int):=⟨(1+c0%2).toNat,by omega⟩;have n1:1<=n:=by omega
 have n2:n<=2:=by omega
 have hp2:0<2^n:=pow_pos (by decide);have hN:=kX (k:=n) (by omega);have hb:=yF (c1%1000000000) hp2;have hbl:(c1%1000000000%((2^n:Nat):Int)).toNat<2^n:=by
  have:=emod_lt_of_pos (c1%1000000000) (by omega:(0:Int)<((2^n:Nat):Int));have:=emod_nonneg (c1%1000000000) (by omega:((2^n:Nat):Int)≠0);omega
 generalize (c1%1000000000%((2^n:Nat):Int)).toNat=s at hb hbl;obtain⟨cs,l58,sl⟩:=GA ns hl;have hln:fV [.list (cs.map .int)]=some (.int (cs.length:Int)):=by
  show some (PyData.int ((cs.map PyData.int).length:Int))=_;rw[length_map]
 have hct:=yF (c1%1000000000/4) (N:=cs.length+1) (by omega);have hcl:(c1%1000000000/4%((cs.length+1:Nat):Int)).toNat<=cs.length:=by
  have:=emod_lt_of_pos (c1%1000000000/4) (by omega:(0:Int)<((cs.length+1:Nat):Int));omega
 generalize (c1%1000000000/4%((cs.length+1:Nat):Int)).toNat=ct at hct hcl;have hct:bN (.int (c1%1000000000/4)) (.int ((cs.length:Int)+1))=some (.int (ct:Int)):=hct;have s1:=KH cs ct hcl;have s2:=KI cs ct hcl;have k1:(cs.take ct).length=ct:=by rw[List.length_take];omega
 have k2:(cs.drop ct).length=cs.length-ct:=List.length_drop;obtain⟨a,la,oa,wa,ra⟩:=yk n1 (cs.take ct) (by omega) 3;obtain⟨b,lb,ob',wb,rb⟩:=yk n1 (cs.drop ct) (by omega) 3;have mx:max (3:Int) 0=3:=rfl;rw[mx]at wa wb;have oab:∀r∈a++b,r.ok n:=fun r hr=>(List.mem_append.mp hr).elim (oa r) (ob' r)
 have lab:(a++b).length<=58:=by rw[length_append];omega
 have lbk:(mV (a++b)).length<=58:=by unfold mV;rw[length_reverse,length_map];exact lab
 obtain⟨O1,q1,g1⟩:=nQ n1 n2 a oa (by omega) (by omega);obtain⟨O2,q2,g2⟩:=nQ n1 n2 b ob' (by omega) (by omega);obtain⟨O3,q3,g3⟩:=nQ n1 n2 (a++b) oab (by omega) (by rw[nM];omega);obtain⟨O4,q4,g4⟩:=nQ n1 n2 (mV (a++b)) (DB oab) (by omega) (by rw[xV,nM];omega);have r3:aR (.tuple (a.map rowD)) (.tuple (b.map rowD))=some (.tuple ((a++b).map rowD)):=by
  rw[map_append];exact jy (by rw[length_map,length_map];omega)
 have hr:bP [.int ((2^n:Nat):Int)]=some (oR 0 (2^n)):=BJ n (by omega);have hM:2^n<=64:=pow_le_pow_right (n:=2) (by decide) (show n<=6 by omega);have hp:=GS (S:=.list (ns.map .int)) (n:=.int (n:Int)) (hd:=.int (c1%1000000000)) (s:=.int (s:Int)) (C:=.list (cs.map .int)) (ct:=.int (ct:Int)) (RA:=.tuple (a.map rowD)) (RB:=.tuple (b.map rowD)) (O1:=O1) (O2:=O2) (O3:=O3) (O4:=O4) (M:=2^n) (y:=fun p=>cZ (gJ n a s p)) (by omega) (ym n (by omega)) fun p hp=>g1 s p hbl hp
 obtain⟨δ',lp,w14,w15,w16,w17,w18,rfl⟩:=pF (b:=pK) (k:=14) (fun _ δ=>∃w14 w15 w16 w17 w18,δ = [.fz (.list (ns.map .int)),.fz (.int (n:Int)),.fz (.int (c1%1000000000)),.fz (.int (s:Int)),.fz (.list (cs.map .int)),.fz (.int (ct:Int)),.fz (.tuple (a.map rowD)),.fz (.tuple (b.map rowD)),.fz O1,.fz O2,.fz O3,.fz O4,.fz (.int ((2^n:Nat):Int)),.fz (.list ((List.range (2^n)).map fun p=>cZ (gJ n a s p))),w14,w15,w16,w17,w18]) (2^n) (by
  rintro e he δ ⟨w14,w15,w16,w17,w18,rfl⟩;obtain⟨z17,z18,il⟩:=CY (n:=n) (by omega) (a:=a) (b:=b) (by omega) (by omega) (O:=O2) (A:=.list ((List.range (2^n)).map fun p=>cZ (gJ n a s p))) (s:=s) (e:=e) (x0:=.fz (.list (ns.map .int))) (x1:=.fz (.int (n:Int))) (x2:=.fz (.int (c1%1000000000))) (x3:=.fz (.int (s:Int))) (x4:=.fz (.list (cs.map .int))) (x5:=.fz (.int (ct:Int))) (x6:=.fz (.tuple (a.map rowD))) (x7:=.fz (.tuple (b.map rowD))) (x8:=.fz O1) (x10:=.fz O3) (x11:=.fz O4) (x12:=.fz (.int ((2^n:Nat):Int))) (x15:=.fz (cZ (gJ n (a++b) s e))) w17 w18 (fun p hp=>g2 p e hp he) (fun p hp=>KO _ hp)
  rw[<-AO a b oa (by omega) (by omega) hbl e]at il;have mi:=g4 e s he hbl;rw[Am (a++b) oab (by omega) hbl he]at mi;exact⟨_,OA (g3 s e hbl he) hr il (pW _ (by have:=dy n (a++b) s e;omega)) (My _) mi (CA _) (My _),_,_,_,_,_,rfl⟩) _ ⟨.un,.un,.un,.un,.un,rfl⟩
 exact MI h0 hn h1 rfl hN hb sl hln hct s1 s2 ra rb r3 (GL (a++b) oab (by omega)) q1 q2 q3 q4 hr hp lp
end GN
namespace GN
open PySem PySem.Spec PyProof.Rows L2 VL
open PySem.W (codeIn findIn keepIn mg_none_of mg_of)
structure Txt (mg:Str->Option Value):Prop where
 min:mg "min" = none
 tuple:mg "tuple" = none
 range:mg "range" = none
 len:mg "len" = none
 dict:mg "dict" = none
 sorted:mg "sorted" = none
 set_:mg "set" = none
 sum:mg "sum" = none
 list:mg "list" = none
 zip:mg "zip" = none
 isinstance:mg "isinstance" = none
 int:mg "int" = none
 bool:mg "bool" = none
section
variable{P:Program}{w:World}{K:PySem.W.Frag}{mg:Str->Option Value}{base:Heap}
theorem oN:FnScope j4 ["joined","most"] (aj eX):=⟨rfl,rfl,rfl,by decide +kernel,rfl,by decide +kernel,by decide +kernel⟩
theorem pf{f:Addr}{fd:FuncData}{dV:Value}(F:FunV K "twos_shared" "twos_shared" eX f fd dV)(T:Txt mg):FnOk P w K mg base dY 1 f fd ["joined","most"] (iE K bz):=
 dP (k:=0) (b:=fy) F oN fun cdv A outer s H E hr=>(ai (cG (aH (eT hr.units) (aa 0) ac (aD _)) (au (aI (aa 1))) ce) (au (aI (bH (M9 rfl) rfl T.min (by decide +kernel) (ab (aa 1) (ab (af bm (Gp (af sn (aa 0) (p6 qa (aa 0)))) ac) ae))))))
theorem wm:FnScope sF ["a","b","c","d"] (aj jK):=⟨rfl,rfl,rfl,by decide +kernel,rfl,by decide +kernel,by decide +kernel⟩
theorem wH{f:Addr}{fd:FuncData}{dV:Value}(F:FunV K "by_root" "by_root" jK f fd dV)(T:Txt mg):FnOk P w K mg base dY 1 f fd ["a","b","c","d"] (iE K dw):=
 dP (k:=0) (b:=mH) F wm fun cdv A outer s H E hr=>(au (aI (aF (ab (af bm (aa 1) (aa 3)) (ab (af aO (aa 0) (aa 2)) (ab (af aO (aa 1) (aa 3)) (ab (af bm (aa 2) (aa 0)) ae)))))))
theorem sc_number:FnScope qG ["a","b","c","d","k"] (aj im):=⟨rfl,rfl,rfl,by decide +kernel,rfl,by decide +kernel,by decide +kernel⟩
theorem Ac{f:Addr}{fd:FuncData}{dV:Value}(F:FunV K "number" "number" im f fd dV)(T:Txt mg)(C_twos_shared:Cal P w K mg base "twos_shared" 1 bz [])(C_by_root:Cal P w K mg base "by_root" 1 dw []):FnOk P w K mg base dY 2 f fd ["a","b","c","d","k"] (iE K gy):=
 dP (k:=1) (b:=lF) F sc_number fun cdv A outer s H E hr=>(ai (aq 5 sc_number.nd (ax C_twos_shared (hr.mono (by decide)) rfl (ab (af KE (af KE (af KE (aa 0) (aa 1)) (aa 2)) (aa 3)) (ab (af dM (aa 4) ac) ae)))) (ai (aq 0 sc_number.nd (af sk (aa 0) (aa 5))) (ai (aq 1 sc_number.nd (af sk (aa 1) (aa 5))) (ai (aq 2 sc_number.nd (af sk (aa 2) (aa 5))) (ai (aq 3 sc_number.nd (af sk (aa 3) (aa 5))) (ai (aq 4 sc_number.nd (af bm (aa 4) (af mD ac (aa 5)))) (ai (cG (WV.tv (rB (aH (eT hr.units) (aa 4) ac (aD _)) (rB (aH (eT hr.units) (af bU (af bm (aa 0) (aa 2)) ac) ac (aD _)) (sH (aH (eT hr.units) (af bU (af bm (aa 1) (aa 3)) ac) ac (aD _)))))) (au (aI (aF (ab (aa 0) (ab (aa 1) (ab (aa 2) (ab (aa 3) (ab (aa 4) ae)))))))) ce) (ai (aq 6 sc_number.nd (ax C_by_root (hr.mono (by decide)) rfl (ab (aa 0) (ab (aa 1) (ab (aa 2) (ab (aa 3) ae)))))) (au (aI (aF (ab (af dM (ak ar (aa 6) ac (fun _ _=>rfl)) ac) (ab (af dM (ak ar (aa 6) ac (fun _ _=>rfl)) ac) (ab (af dM (ak ar (aa 6) ac (fun _ _=>rfl)) ac) (ab (af dM (ak ar (aa 6) ac (fun _ _=>rfl)) ac) (ab (af bm (aa 4) ac) ae))))))))))))))))
theorem sc_parts_over:FnScope lG ["x","k"] (aj fP):=⟨rfl,rfl,rfl,by decide +kernel,rfl,by decide +kernel,by decide +kernel⟩
theorem qP{f:Addr}{fd:FuncData}{dV:Value}(F:FunV K "parts_over" "parts_over" fP f fd dV)(T:Txt mg)(C_by_root:Cal P w K mg base "by_root" 1 dw []):FnOk P w K mg base dY 2 f fd ["x","k"] (iE K cD):=
 dP (k:=1) (b:=fY) F sc_parts_over fun cdv A outer s H E hr=>(ai (aq 2 sc_parts_over.nd (af bm (aa 1) (ak ar (aa 0) ac (fun _ _=>rfl)))) (ai (aq 3 sc_parts_over.nd (af dM (aa 2) ac)) (ai (aq 4 sc_parts_over.nd (af iz (ak ar (aa 0) ac (fun _ _=>rfl)) (aa 3))) (ai (aq 5 sc_parts_over.nd (af iz (ak ar (aa 0) ac (fun _ _=>rfl)) (aa 3))) (ai (aq 6 sc_parts_over.nd (af iz (ak ar (aa 0) ac (fun _ _=>rfl)) (aa 3))) (ai (aq 7 sc_parts_over.nd (af iz (ak ar (aa 0) ac (fun _ _=>rfl)) (aa 3))) (ai (cG (aH (eT hr.units) (af bU (aa 2) ac) ac (aD _)) (au (aI (ax C_by_root (hr.mono (by decide)) rfl (ab (aa 4) (ab (aa 5) (ab (aa 6) (ab (aa 7) ae))))))) ce) (au (aI (aF (ab (aa 4) (ab (aa 5) (ab (aa 6) (ab (aa 7) ae))))))))))))))
theorem sc_turned:FnScope vY ["x","e"] (aj kT):=⟨rfl,rfl,rfl,by decide +kernel,rfl,by decide +kernel,by decide +kernel⟩
theorem z9{f:Addr}{fd:FuncData}{dV:Value}(F:FunV K "turned" "turned" kT f fd dV)(T:Txt mg):FnOk P w K mg base dY 1 f fd ["x","e"] (iE K dL):=
 dP (k:=0) (b:=qw) F sc_turned fun cdv A outer s H E hr=>(ai (aq 2 sc_turned.nd (aF (ab (ak ar (aa 0) ac (fun _ _=>rfl)) (ab (ak ar (aa 0) ac (fun _ _=>rfl)) (ab (ak ar (aa 0) ac (fun _ _=>rfl)) (ab (ak ar (aa 0) ac (fun _ _=>rfl)) (ab (p6 qa (ak ar (aa 0) ac (fun _ _=>rfl))) (ab (p6 qa (ak ar (aa 0) ac (fun _ _=>rfl))) (ab (p6 qa (ak ar (aa 0) ac (fun _ _=>rfl))) (ab (p6 qa (ak ar (aa 0) ac (fun _ _=>rfl))) ae)))))))))) (au (aI (aF (ab (ak ar (aa 2) (af bU (af bm ac (aa 1)) ac) (fun _ _=>rfl)) (ab (ak ar (aa 2) (af bU (af bm ac (aa 1)) ac) (fun _ _=>rfl)) (ab (ak ar (aa 2) (af bU (af bm ac (aa 1)) ac) (fun _ _=>rfl)) (ab (ak ar (aa 2) (af bU (af bm ac (aa 1)) ac) (fun _ _=>rfl)) (ab (ak ar (aa 0) ac (fun _ _=>rfl)) ae)))))))))
theorem wn:FnScope jV ["wires","place"] (aj io):=⟨rfl,rfl,rfl,by decide +kernel,rfl,by decide +kernel,by decide +kernel⟩
theorem wI{f:Addr}{fd:FuncData}{dV:Value}(F:FunV K "bits_of" "bits_of" io f fd dV)(T:Txt mg):FnOk P w K mg base dY 1 f fd ["wires","place"] (iE K dX):=
 dP (k:=0) (b:=mI) F wn fun cdv A outer s H E hr=>(au (aI (f8 jS rfl T.tuple (by decide +kernel) (ab (iX (vars:=["wire"]) (caps:=[(0,"wires"),(1,"place")]) (by change BlkOk (aj io).names jV _ _ _;exact⟨rfl,by decide +kernel,by decide +kernel,by decide +kernel,by decide +kernel⟩) rfl (cu rfl T.range (ab (aa 0) ae)) d4 (fun _ _ _ _=>b9 (i:=0) (show(["wire","wires","place"]:List Str).Nodup by decide +kernel) rfl (Or.inl rfl) (.inr rfl)) (fun _ _ _ _=>(af sn (af sk (aa 2) (af bm (af bm (aa 1) ac) (aa 0))) ac))) ae))))
theorem uU:FnScope kE ["circuit"] (aj gj):=⟨rfl,rfl,rfl,by decide +kernel,rfl,by decide +kernel,by decide +kernel⟩
theorem vg{f:Addr}{fd:FuncData}{dV:Value}(F:FunV K "looks_in" "looks_in" gj f fd dV)(T:Txt mg):FnOk P w K mg base dY 1 f fd ["circuit"] (iE K df):=
 dP (k:=0) (b:=kA) F uU fun cdv A outer s H E hr=>(au (aI (bH g8 rfl T.len (by decide +kernel) (ab (lw (vars:=["row"]) (caps:=[]) (by change BlkOk (aj gj).names kE _ _ _;exact⟨rfl,by decide +kernel,by decide +kernel,by decide +kernel,by decide +kernel⟩) rfl (eR (ak ar (aa 0) ac (fun _ _=>rfl))) d4 (fun _ _ _ _=>b9 (i:=0) (show(["row"]:List Str).Nodup by decide +kernel) rfl (Or.inl rfl) (.inr rfl)) (fun _ _ _ _=>(aH (eT hr.units) (ak ar (aa 0) ac (fun _ _=>rfl)) bM (aD _))) (fun _ _ _ _=>(aa 0))) ae))))
theorem sc_value_of:FnScope qE ["bitset","bits"] (aj iM):=⟨rfl,rfl,rfl,by decide +kernel,rfl,by decide +kernel,by decide +kernel⟩
theorem ve{f:Addr}{fd:FuncData}{dV:Value}(F:FunV K "value_of" "value_of" iM f fd dV)(T:Txt mg):FnOk P w K mg base dY 1 f fd ["bitset","bits"] (iE K de):=
 dP (k:=0) (b:=ku) F sc_value_of fun cdv A outer s H E hr=>(ai (aq 2 sc_value_of.nd (af sn (aa 0) (aa 1))) (ai (aq 3 sc_value_of.nd ac) (ai (kM (fun _=>wN) PassesOwn.never (aH (xr hr.units) (aa 2) ac (aD _)) (ai (aq 2 sc_value_of.nd (af sn (aa 2) (af bm (aa 2) ac))) (au (aq 3 sc_value_of.nd (af bm ac (aa 3)))))) (au (aI (aa 3))))))
theorem sc_all_added:FnScope jB ["turn","turns","pairs"] (aj fE):=⟨rfl,rfl,rfl,by decide +kernel,rfl,by decide +kernel,by decide +kernel⟩
theorem tH{f:Addr}{fd:FuncData}{dV:Value}(F:FunV K "all_added" "all_added" fE f fd dV)(T:Txt mg):FnOk P w K mg base dY 1 f fd ["turn","turns","pairs"] (iE K cz):=
 dP (k:=0) (b:=jw) F sc_all_added fun cdv A outer s H E hr=>(ai (Et 3 sc_all_added.nd rfl T.dict (aa 1)) (ai (iJ PassesOwn.never rfl (eR (aa 2)) (fW 4 sc_all_added.nd) (ai (aq 5 sc_all_added.nd (ak ar (aa 4) ac (fun _ _=>rfl))) (ai (aq 6 sc_all_added.nd (ak ar (aa 4) ac (fun _ _=>rfl))) (ai (cG (aH (eT hr.units) (af sn (aa 5) ac) ac (aD _)) (ai (aq 0 sc_all_added.nd (af aO (aa 0) (aa 6))) (ai (aq 5 sc_all_added.nd (af zd (aa 5) ac)) (au (aq 6 sc_all_added.nd (p6 qa (aa 6)))))) ce) (au (cG (aH (xr hr.units) (aa 5) ac (aD _)) (au (Es 3 (Pa hr.units) (aa 5) (af bU (af aO (Dk 3 (Pa hr.units) (aa 5) ac ⟨rfl,rfl,rfl,rfl⟩) (aa 6)) ac))) ce)))))) (au (aI (aF (ab (af bU (aa 0) ac) (ab (f8 jS rfl T.tuple (by decide +kernel) (ab (lw (vars:=["pair"]) (caps:=[]) (by change BlkOk (aj fE).names jB _ _ _;exact⟨rfl,by decide +kernel,by decide +kernel,by decide +kernel,by decide +kernel⟩) rfl (eR (AJ 3 rfl T.sorted)) d4 (fun _ _ _ _=>b9 (i:=0) (show(["pair"]:List Str).Nodup by decide +kernel) rfl (Or.inl rfl) (.inr rfl)) (fun _ _ _ _=>(aH (xr hr.units) (ak ar (aa 0) ac (fun _ _=>rfl)) ac (aD _))) (fun _ _ _ _=>(aa 0))) ae)) ae)))))))
theorem zT:FnScope vZ ["one","other"] (aj kU):=⟨rfl,rfl,rfl,by decide +kernel,rfl,by decide +kernel,by decide +kernel⟩
theorem Ab{f:Addr}{fd:FuncData}{dV:Value}(F:FunV K "signed" "signed" kU f fd dV)(T:Txt mg):FnOk P w K mg base dY 1 f fd ["one","other"] (iE K gu):=
 dP (k:=0) (b:=qA) F zT fun cdv A outer s H E hr=>(au (aI (jp (ab (aF (ab (aa 0) (ab ac ae))) (ab (aF (ab (aa 1) (ab ac ae))) (ab (aF (ab (af zd (aa 0) (aa 1)) (ab ac ae))) ae))))))
theorem lV:FnScope fO ["ties"] (aj cJ):=⟨rfl,rfl,rfl,by decide +kernel,rfl,by decide +kernel,by decide +kernel⟩
theorem mh{f:Addr}{fd:FuncData}{dV:Value}(F:FunV K "ties_in_order" "ties_in_order" cJ f fd dV)(T:Txt mg):FnOk P w K mg base dY 1 f fd ["ties"] (iE K bh):=
 dP (k:=0) (b:=fM) F lV fun cdv A outer s H E hr=>(au (aI (f8 jS rfl T.tuple (by decide +kernel) (ab (lw (vars:=["tie"]) (caps:=[]) (by change BlkOk (aj cJ).names fO _ _ _;exact⟨rfl,by decide +kernel,by decide +kernel,by decide +kernel,by decide +kernel⟩) rfl (eR (Gk rfl T.sorted rfl T.set_ (aa 0))) d4 (fun _ _ _ _=>b9 (i:=0) (show(["tie"]:List Str).Nodup by decide +kernel) rfl (Or.inl rfl) (.inr rfl)) (fun _ _ _ _=>(aH (xr hr.units) (aa 0) ac (aD _))) (fun _ _ _ _=>(aa 0))) ae))))
theorem kS:FnScope eV ["self","wires","looks"] (aj cn):=⟨rfl,rfl,rfl,by decide +kernel,rfl,by decide +kernel,by decide +kernel⟩
theorem kZ{f:Addr}{fd:FuncData}{dV:Value}(F:FunV K "__init__" "Ways.__init__" cn f fd dV)(T:Txt mg)(Z_Ways:ClN K "Ways")(A_Wayscarried:NaN K "Ways" "carried")(A_Wayspairs:NaN K "Ways" "pairs")(A_Waysties:NaN K "Ways" "ties")(A_Wayshidden:NaN K "Ways" "hidden")(A_Waysfirst_mark:NaN K "Ways" "first_mark")(A_Waysfirst_hidden:NaN K "Ways" "first_hidden")(A_Wayslooked:NaN K "Ways" "looked"):FnOk P w K mg base dY 1 f fd ["self","wires","looks"] (Nn K "Ways" gZ):=
 OM (k:=0) (b:=eU) F kS fun cdv A outer s H E hr=>(iA (nO Z_Ways A_Wayscarried (Gr (vars:=["wire"]) (caps:=[]) (by change BlkOk (aj cn).names eV _ _ _;exact⟨rfl,by decide +kernel,by decide +kernel,by decide +kernel,by decide +kernel⟩) rfl (cu rfl T.range (ab (aa 1) ae)) d4 (fun _ _ _ _=>b9 (i:=0) (show(["wire"]:List Str).Nodup by decide +kernel) rfl (Or.inl rfl) (.inr rfl)) (fun _ _ _ _=>(af iz ac (af aO ac (aa 0)))))) (iA (nO Z_Ways A_Wayspairs (xq ae)) (iA (nO Z_Ways A_Waysties (xq ae)) (iA (nO Z_Ways A_Wayshidden (xq ae)) (iA (sO Z_Ways A_Waysfirst_mark (af aO (af mD ac (aa 1)) ac)) (iA (sO Z_Ways A_Waysfirst_hidden (af aO (af aO (af mD ac (aa 1)) ac) (aa 2))) (GH (sO Z_Ways A_Wayslooked ac))))))))
theorem qN:FnScope lK ["self","one","other"] (aj fT):=⟨rfl,rfl,rfl,by decide +kernel,rfl,by decide +kernel,by decide +kernel⟩
theorem qT{f:Addr}{fd:FuncData}{dV:Value}(F:FunV K "sign" "Ways.sign" fT f fd dV)(T:Txt mg)(C_signed:Cal P w K mg base "signed" 1 gu [])(Z_Ways:ClN K "Ways")(A_Wayspairs:NaN K "Ways" "pairs"):FnOk P w K mg base dY 2 f fd ["self","one","other"] (G3 K "Ways" be):=
 Df (k:=1) (b:=i7) F qN fun cdv A outer s H E hr=>(bK (Er Z_Ways A_Wayspairs (ax C_signed (hr.mono (by decide)) rfl (ab (aa 1) (ab (aa 2) ae)))))
theorem sc_Ways__swing:FnScope j7 ["self","wire"] (aj e8):=⟨rfl,rfl,rfl,by decide +kernel,rfl,by decide +kernel,by decide +kernel⟩
theorem pv{f:Addr}{fd:FuncData}{dV:Value}(F:FunV K "swing" "Ways.swing" e8 f fd dV)(T:Txt mg)(Z_Ways:ClN K "Ways")(A_Waysfirst_hidden:NaN K "Ways" "first_hidden")(A_Wayshidden:NaN K "Ways" "hidden")(A_Wayscarried:NaN K "Ways" "carried")(W_Ways__sign:CalW P w K mg base "Ways" "sign" 2 be):FnOk P w K mg base dY 3 f fd ["self","wire"] (G3 K "Ways" bY):=
 Df (k:=2) (b:=ia) F sc_Ways__swing fun cdv A outer s H E hr=>(jt (xW 2 sc_Ways__swing.nd (af aO (dQ Z_Ways A_Waysfirst_hidden (aa 0)) (bH g8 rfl T.len (by decide +kernel) (ab (dQ Z_Ways A_Wayshidden (aa 0)) ae)))) (jt (xX Z_Ways A_Wayshidden (aa 2)) (jt (gb W_Ways__sign (hr.mono (by decide)) (ab (ak ar (dQ Z_Ways A_Wayscarried (aa 0)) (aa 1) (fun _ _=>rfl)) (ab (af iz ac (aa 2)) ae))) (bK (nN Z_Ways A_Wayscarried (aa 1) (af iz ac (aa 2)))))))
theorem qO:FnScope lL ["self","wire","bitset"] (aj fU):=⟨rfl,rfl,rfl,by decide +kernel,rfl,by decide +kernel,by decide +kernel⟩
theorem qU{f:Addr}{fd:FuncData}{dV:Value}(F:FunV K "flip" "Ways.flip" fU f fd dV)(T:Txt mg)(Z_Ways:ClN K "Ways")(A_Wayscarried:NaN K "Ways" "carried"):FnOk P w K mg base dY 1 f fd ["self","wire","bitset"] (G3 K "Ways" bq):=
 Df (k:=0) (b:=i8) F qO fun cdv A outer s H E hr=>(bK (nN Z_Ways A_Wayscarried (aa 1) (af zd (ak ar (dQ Z_Ways A_Wayscarried (aa 0)) (aa 1) (fun _ _=>rfl)) (aa 2))))
theorem sc_Ways__cross:FnScope j8 ["self","one","other"] (aj e9):=⟨rfl,rfl,rfl,by decide +kernel,rfl,by decide +kernel,by decide +kernel⟩
theorem px{f:Addr}{fd:FuncData}{dV:Value}(F:FunV K "cross" "Ways.cross" e9 f fd dV)(T:Txt mg)(Z_Ways:ClN K "Ways")(A_Wayscarried:NaN K "Ways" "carried"):FnOk P w K mg base dY 1 f fd ["self","one","other"] (G3 K "Ways" bZ):=
 Df (k:=0) (b:=ib) F sc_Ways__cross fun cdv A outer s H E hr=>(jt (xW 3 sc_Ways__cross.nd (ak ar (dQ Z_Ways A_Wayscarried (aa 0)) (aa 1) (fun _ _=>rfl))) (jt (nN Z_Ways A_Wayscarried (aa 1) (ak ar (dQ Z_Ways A_Wayscarried (aa 0)) (aa 2) (fun _ _=>rfl))) (bK (nN Z_Ways A_Wayscarried (aa 2) (aa 3)))))
theorem uV:FnScope qI ["self","row"] (aj iO):=⟨rfl,rfl,rfl,by decide +kernel,rfl,by decide +kernel,by decide +kernel⟩
theorem vi{f:Addr}{fd:FuncData}{dV:Value}(F:FunV K "go" "Ways.go" iO f fd dV)(T:Txt mg)(W_Ways__swing:CalW P w K mg base "Ways" "swing" 3 bY)(Z_Ways:ClN K "Ways")(A_Wayscarried:NaN K "Ways" "carried")(A_Wayspairs:NaN K "Ways" "pairs")(W_Ways__flip:CalW P w K mg base "Ways" "flip" 1 bq)(W_Ways__sign:CalW P w K mg base "Ways" "sign" 2 be)(W_Ways__cross:CalW P w K mg base "Ways" "cross" 1 bZ):FnOk P w K mg base dY 4 f fd ["self","row"] (G3 K "Ways" aM):=
 Df (k:=3) (b:=dj) F uV fun cdv A outer s H E hr=>(bK (ke (aH (eT hr.units) (ak ar (aa 1) ac (fun _ _=>rfl)) bM (aD _)) (bK (gb W_Ways__swing (hr.mono (by decide)) (ab (ak ar (aa 1) ac (fun _ _=>rfl)) ae))) (bK (ke (aH (eT hr.units) (ak ar (aa 1) ac (fun _ _=>rfl)) bM (aD _)) (bK (xX Z_Ways A_Wayspairs (aF (ab (ak ar (dQ Z_Ways A_Wayscarried (aa 0)) (ak ar (aa 1) ac (fun _ _=>rfl)) (fun _ _=>rfl)) (ab (ak ar (aa 1) ac (fun _ _=>rfl)) ae))))) (bK (ke (aH (eT hr.units) (ak ar (aa 1) ac (fun _ _=>rfl)) bM (aD _)) (bK (gb W_Ways__flip (hr.mono (by decide)) (ab (ak ar (aa 1) ac (fun _ _=>rfl)) (ab ac ae)))) (bK (ke (aH (eT hr.units) (ak ar (aa 1) ac (fun _ _=>rfl)) bM (aD _)) (bK (gb W_Ways__flip (hr.mono (by decide)) (ab (ak ar (aa 1) ac (fun _ _=>rfl)) (ab (ak ar (dQ Z_Ways A_Wayscarried (aa 0)) (ak ar (aa 1) ac (fun _ _=>rfl)) (fun _ _=>rfl)) ae)))) (bK (ke (aH (eT hr.units) (ak ar (aa 1) ac (fun _ _=>rfl)) bM (aD _)) (bK (gb W_Ways__sign (hr.mono (by decide)) (ab (ak ar (dQ Z_Ways A_Wayscarried (aa 0)) (ak ar (aa 1) ac (fun _ _=>rfl)) (fun _ _=>rfl)) (ab (ak ar (dQ Z_Ways A_Wayscarried (aa 0)) (ak ar (aa 1) ac (fun _ _=>rfl)) (fun _ _=>rfl)) ae)))) (bK (ke (aH (eT hr.units) (ak ar (aa 1) ac (fun _ _=>rfl)) bM (aD _)) (bK (gb W_Ways__cross (hr.mono (by decide)) (ab (ak ar (aa 1) ac (fun _ _=>rfl)) (ab (ak ar (aa 1) ac (fun _ _=>rfl)) ae)))) (bK (ke (aH (eT hr.units) (ak ar (aa 1) ac (fun _ _=>rfl)) bM (aD _)) (bK Bl) (bK Bl)))))))))))))))
theorem sc_sum_of:FnScope qF ["circuit"] (aj jg):=⟨rfl,rfl,rfl,by decide +kernel,rfl,by decide +kernel,by decide +kernel⟩
theorem Aa{f:Addr}{fd:FuncData}{dV:Value}(F:FunV K "sum_of" "sum_of" jg f fd dV)(T:Txt mg)(C_looks_in:Cal P w K mg base "looks_in" 1 df [])(C_all_added:Cal P w K mg base "all_added" 1 cz [])(C_ties_in_order:Cal P w K mg base "ties_in_order" 1 bh [])(J_Ways:CalI P w K mg base "Ways" 1 gZ)(W_Ways__go:CalW P w K mg base "Ways" "go" 4 aM)(Z_Ways:ClN K "Ways")(A_Wayscarried:NaN K "Ways" "carried")(A_Wayspairs:NaN K "Ways" "pairs")(A_Wayshidden:NaN K "Ways" "hidden")(A_Waysties:NaN K "Ways" "ties"):FnOk P w K mg base dY 5 f fd ["circuit"] (iE K b6):=
 dP (k:=4) (b:=qz) F sc_sum_of fun cdv A outer s H E hr=>(ai (aq 1 sc_sum_of.nd (ak ar (aa 0) ac (fun _ _=>rfl))) (ai (aq 2 sc_sum_of.nd (ax C_looks_in (hr.mono (by decide)) rfl (ab (aa 0) ae))) (KJ 3 J_Ways (hr.mono (by decide)) sc_sum_of.nd rfl (ab (aa 1) (ab (aa 2) ae)) (Ep 4 PassesOwn.never rfl sc_sum_of.nd (eR (ak ar (aa 0) ac (fun _ _=>rfl))) (bK (gb W_Ways__go (hr.mono (by decide)) (ab (aa 4) ae)))) (ai (xZ 5 sc_sum_of.nd (vars:=["wire"]) (caps:=[(1,"wires"),(3,"ways")]) (by change BlkOk (aj jg).names qF _ _ _;exact⟨rfl,by decide +kernel,by decide +kernel,by decide +kernel,by decide +kernel⟩) rfl (cu rfl T.range (ab (aa 1) ae)) d4 (fun _ _ _ _=>b9 (i:=0) (show(["wire","wires","ways"]:List Str).Nodup by decide +kernel) rfl (Or.inl rfl) (.inr rfl)) (fun _ _ _ _=>(af zd (ak ar (dQ Z_Ways A_Wayscarried (aa 2)) (aa 0) (fun _ _=>rfl)) (af iz ac (af aO (af aO (aa 1) ac) (aa 0)))))) (ai (aq 6 sc_sum_of.nd (ax C_all_added (hr.mono (by decide)) rfl (ab ac (ab (aF ae) (ab (dQ Z_Ways A_Wayspairs (aa 3)) ae))))) (au (aI (aF (ab (aF (ab (aa 1) (ab (aa 2) ae))) (ab (bH g8 rfl T.len (by decide +kernel) (ab (dQ Z_Ways A_Wayshidden (aa 3)) ae)) (ab (ak ar (aa 6) ac (fun _ _=>rfl)) (ab (ak ar (aa 6) ac (fun _ _=>rfl)) (ab (ax C_ties_in_order (hr.mono (by decide)) rfl (ab (af aO (dQ Z_Ways A_Waysties (aa 3)) (aa 5)) ae)) (ab (f8 jS rfl T.tuple (by decide +kernel) (ab (dQ Z_Ways A_Wayshidden (aa 3)) ae)) ae))))))))))))))
theorem sc_told_set:FnScope kD ["wires","begin","marks","end"] (aj gh):=⟨rfl,rfl,rfl,by decide +kernel,rfl,by decide +kernel,by decide +kernel⟩
theorem vf{f:Addr}{fd:FuncData}{dV:Value}(F:FunV K "told_set" "told_set" gh f fd dV)(T:Txt mg)(C_bits_of:Cal P w K mg base "bits_of" 1 dX []):FnOk P w K mg base dY 2 f fd ["wires","begin","marks","end"] (iE K b5):=
 dP (k:=1) (b:=kx) F sc_told_set fun cdv A outer s H E hr=>(ai (aq 4 sc_told_set.nd (af aO (af aO (af aO (aF (ab ac ae)) (ax C_bits_of (hr.mono (by decide)) rfl (ab (aa 0) (ab (aa 1) ae)))) (ax C_bits_of (hr.mono (by decide)) rfl (ab (aa 0) (ab (aa 3) ae)))) (aa 2))) (au (aI (bH (Hz rfl) rfl T.sum (by decide +kernel) (ab (iX (vars:=["k"]) (caps:=[(4,"bits")]) (by change BlkOk (aj gh).names kD _ _ _;exact⟨rfl,by decide +kernel,by decide +kernel,by decide +kernel,by decide +kernel⟩) rfl (cu rfl T.range (ab (bH g8 rfl T.len (by decide +kernel) (ab (aa 4) ae)) ae)) d4 (fun _ _ _ _=>b9 (i:=0) (show(["k","bits"]:List Str).Nodup by decide +kernel) rfl (Or.inl rfl) (.inr rfl)) (fun _ _ _ _=>(af iz (ak ar (aa 1) (aa 0) (fun _ _=>rfl)) (aa 0)))) ae)))))
theorem mY:FnScope eL ["bitset","hidden"] (aj cV):=⟨rfl,rfl,rfl,by decide +kernel,rfl,by decide +kernel,by decide +kernel⟩
theorem m9{f:Addr}{fd:FuncData}{dV:Value}(F:FunV K "hidden_place" "hidden_place" cV f fd dV)(T:Txt mg):FnOk P w K mg base dY 1 f fd ["bitset","hidden"] (iE K bE):=
 dP (k:=0) (b:=gC) F mY fun cdv A outer s H E hr=>(au (aI (bH (Hz rfl) rfl T.sum (by decide +kernel) (ab (iX (vars:=["k"]) (caps:=[(0,"bitset"),(1,"hidden")]) (by change BlkOk (aj cV).names eL _ _ _;exact⟨rfl,by decide +kernel,by decide +kernel,by decide +kernel,by decide +kernel⟩) rfl (cu rfl T.range (ab (bH g8 rfl T.len (by decide +kernel) (ab (aa 1) ae)) ae)) d4 (fun _ _ _ _=>b9 (i:=0) (show(["k","bitset","hidden"]:List Str).Nodup by decide +kernel) rfl (Or.inl rfl) (.inr rfl)) (fun _ _ _ _=>(af iz (af sn (af sk (aa 1) (ak ar (aa 2) (aa 0) (fun _ _=>rfl))) ac) (aa 0)))) ae))))
theorem sc_differences:FnScope bW ["weights"] (aj cM):=⟨rfl,rfl,rfl,by decide +kernel,rfl,by decide +kernel,by decide +kernel⟩
theorem i9{f:Addr}{fd:FuncData}{dV:Value}(F:FunV K "differences" "differences" cM f fd dV)(T:Txt mg)(hm:mg "differences" = some (.ref f))(hk:keepIn K (.ref f)=true)(hb:Binds K fd ["weights"] []):∀m,FnOk P w K mg base dY (1+m) f fd ["weights"] (iE K (bQ m))
 | 0=>dP (k:=0) (b:=fun _=>none) F sc_differences fun cdv A outer s H E hr=>Nd
 |m+1=>by
  have C_differences:Cal P w K mg base "differences" (1+m) (bQ m) []:=Cal.mk0 (i9 F T hm hk hb m) hm hk hb;exact dP (k:=1+m) (b:=cf (bQ m)) F sc_differences fun cdv A outer s H E hr=>(ai (cG (aH (eT hr.units) (bH g8 rfl T.len (by decide +kernel) (ab (aa 0) ae)) ac (aD _)) (au (aI (aa 0))) ce) (ai (aq 1 sc_differences.nd (af dM (bH g8 rfl T.len (by decide +kernel) (ab (aa 0) ae)) ac)) (ai (aq 2 sc_differences.nd (ax C_differences (hr.mono (by omega)) rfl (ab (jo (aa 0) nX (jL (aa 1))) ae))) (ai (aq 3 sc_differences.nd (ax C_differences (hr.mono (by omega)) rfl (ab (jo (aa 0) (jL (aa 1)) nX) ae))) (ai (aq 4 sc_differences.nd (Gm rfl T.list rfl T.zip (ab (aa 2) (ab (aa 3) ae)))) (au (aI (af aO (iX (vars:=["pair"]) (caps:=[]) (by change BlkOk (aj cM).names bW _ _ _;exact⟨rfl,by decide +kernel,by decide +kernel,by decide +kernel,by decide +kernel⟩) rfl (eR (aa 4)) d4 (fun _ _ _ _=>b9 (i:=0) (show(["pair"]:List Str).Nodup by decide +kernel) rfl (Or.inl rfl) (.inr rfl)) (fun _ _ _ _=>(af aO (ak ar (aa 0) ac (fun _ _=>rfl)) (ak ar (aa 0) ac (fun _ _=>rfl))))) (iX (vars:=["pair"]) (caps:=[]) (by change BlkOk (aj cM).names bW _ _ _;exact⟨rfl,by decide +kernel,by decide +kernel,by decide +kernel,by decide +kernel⟩) rfl (eR (aa 4)) d4 (fun _ _ _ _=>b9 (i:=0) (show(["pair"]:List Str).Nodup by decide +kernel) rfl (Or.inl rfl) (.inr rfl)) (fun _ _ _ _=>(af bm (ak ar (aa 0) ac (fun _ _=>rfl)) (ak ar (aa 0) ac (fun _ _=>rfl)))))))))))))
theorem sc_summed_up:FnScope jz ["pairs","told","hidden"] (aj fC):=⟨rfl,rfl,rfl,by decide +kernel,rfl,by decide +kernel,by decide +kernel⟩
theorem tz{f:Addr}{fd:FuncData}{dV:Value}(F:FunV K "summed_up" "summed_up" fC f fd dV)(T:Txt mg)(C_differences:Cal P w K mg base "differences" 15 fw [])(C_hidden_place:Cal P w K mg base "hidden_place" 1 bE [])(C_value_of:Cal P w K mg base "value_of" 1 de []):FnOk P w K mg base dY 16 f fd ["pairs","told","hidden"] (iE K bc):=
 dP (k:=15) (b:=ju) F sc_summed_up fun cdv A outer s H E hr=>(ai (aq 3 sc_summed_up.nd ac) (ai (xY 4 sc_summed_up.nd (Do (jp (ab ac ae)) (af iz ac (bH g8 rfl T.len (by decide +kernel) (ab (aa 2) ae))))) (ai (iJ PassesOwn.never rfl (eR (aa 0)) (fW 5 sc_summed_up.nd) (ai (aq 6 sc_summed_up.nd (ax C_hidden_place (hr.mono (by decide)) rfl (ab (ak ar (aa 5) ac (fun _ _=>rfl)) (ab (aa 2) ae)))) (au (cG (aH (eT hr.units) (ax C_value_of (hr.mono (by decide)) rfl (ab (ak ar (aa 5) ac (fun _ _=>rfl)) (ab (aa 1) ae))) ac (aD _)) (au (oB 4 (aa 6) (af aO (dh 4 (aa 6) (fun _ _=>rfl)) (ak ar (aa 5) ac (fun _ _=>rfl))))) (ai (aq 3 sc_summed_up.nd (af aO (aa 3) (ak ar (aa 5) ac (fun _ _=>rfl)))) (au (oB 4 (aa 6) (af bm (dh 4 (aa 6) (fun _ _=>rfl)) (ak ar (aa 5) ac (fun _ _=>rfl)))))))))) (ai (G2 4 (aq 7 sc_summed_up.nd (ax C_differences (hr.mono (by decide)) rfl (ab (aa 4) ae)))) (au (aI (iX (vars:=["difference"]) (caps:=[(3,"fixed"),(7,"apart")]) (by change BlkOk (aj fC).names jz _ _ _;exact⟨rfl,by decide +kernel,by decide +kernel,by decide +kernel,by decide +kernel⟩) rfl (eR (aa 7)) d4 (fun _ _ _ _=>b9 (i:=0) (show(["difference","fixed","apart"]:List Str).Nodup by decide +kernel) rfl (Or.inl rfl) (.inr rfl)) (fun _ _ _ _=>(af aO (aa 1) (af dM (af bm (ak ar (aa 2) ac (fun _ _=>rfl)) (aa 0)) ac))))))))))
theorem sV:FnScope mW ["x","halves"] (aj gM):=⟨rfl,rfl,rfl,by decide +kernel,rfl,by decide +kernel,by decide +kernel⟩
theorem tG{f:Addr}{fd:FuncData}{dV:Value}(F:FunV K "by_halves" "by_halves" gM f fd dV)(T:Txt mg)(C_number:Cal P w K mg base "number" 2 gy [])(C_parts_over:Cal P w K mg base "parts_over" 2 cD []):FnOk P w K mg base dY 3 f fd ["x","halves"] (iE K bT):=
 dP (k:=2) (b:=g9) F sV fun cdv A outer s H E hr=>(ai (cG (aH xt (aa 1) ac (aD _)) (au (aI (af aO (ax C_parts_over (hr.mono (by decide)) rfl (ab (aa 0) (ab (p6 qa (aa 1)) ae))) (aF (ab ac ae))))) ce) (au (aI (ax C_number (hr.mono (by decide)) rfl (ab (ak ar (aa 0) ac (fun _ _=>rfl)) (ab (ak ar (aa 0) ac (fun _ _=>rfl)) (ab (ak ar (aa 0) ac (fun _ _=>rfl)) (ab (ak ar (aa 0) ac (fun _ _=>rfl)) (ab (aa 1) ae)))))))))
theorem sc_number_at:FnScope jA ["one","begin","marks","end"] (aj fD):=⟨rfl,rfl,rfl,by decide +kernel,rfl,by decide +kernel,by decide +kernel⟩
theorem tF{f:Addr}{fd:FuncData}{dV:Value}(F:FunV K "number_at" "number_at" fD f fd dV)(T:Txt mg)(T_MOST_HIDDEN:TopV K mg "MOST_HIDDEN" (.int 12))(C_told_set:Cal P w K mg base "told_set" 2 b5 [])(C_summed_up:Cal P w K mg base "summed_up" 16 bc [])(C_by_halves:Cal P w K mg base "by_halves" 3 bT [])(C_turned:Cal P w K mg base "turned" 1 dL []):FnOk P w K mg base dY 17 f fd ["one","begin","marks","end"] (iE K aT):=
 dP (k:=16) (b:=jv) F sc_number_at fun cdv A outer s H E hr=>(ai (aq 4 sc_number_at.nd (ak ar (aa 0) ac (fun _ _=>rfl))) (ai (cG (aH Gz (bH g8 rfl T.len (by decide +kernel) (ab (aa 4) ae)) (Gj T_MOST_HIDDEN rfl) (aD _)) (au LN) ce) (ai (aq 5 sc_number_at.nd (ax C_told_set (hr.mono (by decide)) rfl (ab (ak ar (ak ar (aa 0) ac (fun _ _=>rfl)) ac (fun _ _=>rfl)) (ab (aa 1) (ab (aa 2) (ab (aa 3) ae)))))) (ai (aq 6 sc_number_at.nd (ax C_summed_up (hr.mono (by decide)) rfl (ab (ak ar (aa 0) ac (fun _ _=>rfl)) (ab (aa 5) (ab (aa 4) ae))))) (ai (aq 7 sc_number_at.nd (ax C_summed_up (hr.mono (by decide)) rfl (ab (iX (vars:=["tie"]) (caps:=[]) (by change BlkOk (aj fD).names jA _ _ _;exact⟨rfl,by decide +kernel,by decide +kernel,by decide +kernel,by decide +kernel⟩) rfl (eR (ak ar (aa 0) ac (fun _ _=>rfl))) d4 (fun _ _ _ _=>b9 (i:=0) (show(["tie"]:List Str).Nodup by decide +kernel) rfl (Or.inl rfl) (.inr rfl)) (fun _ _ _ _=>(aF (ab (aa 0) (ab ac ae))))) (ab (aa 5) (ab (aa 4) ae))))) (ai (xY 8 sc_number_at.nd (Do (jp (ab ac ae)) ac)) (ai (iJ PassesOwn.never rfl (cu rfl T.range (ab (bH g8 rfl T.len (by decide +kernel) (ab (aa 6) ae)) ae)) (fW 9 sc_number_at.nd) (au (cG (aH (eT hr.units) (ak ar (aa 7) (aa 9) (fun _ _=>rfl)) ac (aD _)) (au (oB 8 (af bU (ak ar (aa 6) (aa 9) (fun _ _=>rfl)) ac) (af aO (dh 8 (af bU (ak ar (aa 6) (aa 9) (fun _ _=>rfl)) ac) (fun _ _=>rfl)) ac))) ce))) (ai (aq 10 sc_number_at.nd (aF (ab (af bm (dh 8 ac (fun _ _=>rfl)) (dh 8 ac (fun _ _=>rfl))) (ab (af bm (dh 8 ac (fun _ _=>rfl)) (dh 8 ac (fun _ _=>rfl))) (ab (af bm (dh 8 ac (fun _ _=>rfl)) (dh 8 ac (fun _ _=>rfl))) (ab (af bm (dh 8 ac (fun _ _=>rfl)) (dh 8 ac (fun _ _=>rfl))) (ab ac ae))))))) (au (aI (ax C_by_halves (hr.mono (by decide)) rfl (ab (ax C_turned (hr.mono (by decide)) rfl (ab (aa 10) (ab (ak ar (aa 0) ac (fun _ _=>rfl)) ae))) (ab (ak ar (aa 0) ac (fun _ _=>rfl)) ae)))))))))))))
theorem mZ:FnScope jE ["script","k"] (aj d8):=⟨rfl,rfl,rfl,by decide +kernel,rfl,by decide +kernel,by decide +kernel⟩
theorem nh{f:Addr}{fd:FuncData}{dV:Value}(F:FunV K "_law_cell_at" "_law_cell_at" d8 f fd dV)(T:Txt mg):FnOk P w K mg base dY 1 f fd ["script","k"] (iE K bg):=
 dP (k:=0) (b:=eK) F mZ fun cdv A outer s H E hr=>(ai (cG (aH xt (aa 1) (bH g8 rfl T.len (by decide +kernel) (ab (aa 0) ae)) (aD _)) (au (aI (ak ar (aa 0) (aa 1) (fun _ _=>rfl)))) ce) (au (aI ac)))
theorem qM:FnScope lI ["cell"] (aj fR):=⟨rfl,rfl,rfl,by decide +kernel,rfl,by decide +kernel,by decide +kernel⟩
theorem qR{f:Addr}{fd:FuncData}{dV:Value}(F:FunV K "_law_mixed" "_law_mixed" fR f fd dV)(T:Txt mg):FnOk P w K mg base dY 1 f fd ["cell"] (iE K bA):=
 dP (k:=0) (b:=i5) F qM fun cdv A outer s H E hr=>(au (aI (af bU (af aO (af mD (af bU (aa 0) (af Hx ac ac)) ac) ac) ac)))
theorem qL:FnScope lH ["found"] (aj fQ):=⟨rfl,rfl,rfl,by decide +kernel,rfl,by decide +kernel,by decide +kernel⟩
theorem qQ{f:Addr}{fd:FuncData}{dV:Value}(F:FunV K "_law_whole" "_law_whole" fQ f fd dV)(T:Txt mg):FnOk P w K mg base dY 1 f fd ["found"] (iE K cE):=
 dP (k:=0) (b:=i0) F qL fun cdv A outer s H E hr=>(au (aI (Dm (xp (T:="int") rfl T.isinstance rfl T.int (by decide +kernel) (by decide) (by decide) (aa 0)) (Dj (Kz (xp (T:="bool") rfl T.isinstance rfl T.bool (by decide +kernel) (by decide) (by decide) (aa 0)))))))
theorem sc__law_least:FnScope lJ ["x"] (aj fS):=⟨rfl,rfl,rfl,by decide +kernel,rfl,by decide +kernel,by decide +kernel⟩
theorem qS{f:Addr}{fd:FuncData}{dV:Value}(F:FunV K "_law_least" "_law_least" fS f fd dV)(T:Txt mg):FnOk P w K mg base dY 1 f fd ["x"] (iE K bB):=
 dP (k:=0) (b:=i6) F sc__law_least fun cdv A outer s H E hr=>(ai (kM (fun _=>wN) PassesOwn.never (WV.tv (sJ (aH Gz (ak ar (aa 0) ac (fun _ _=>rfl)) ac (aD _)) (sJ (aH (eT hr.units) (af bU (af aO (ak ar (aa 0) ac (fun _ _=>rfl)) (ak ar (aa 0) ac (fun _ _=>rfl))) ac) ac (aD _)) (sI (aH (eT hr.units) (af bU (af aO (ak ar (aa 0) ac (fun _ _=>rfl)) (ak ar (aa 0) ac (fun _ _=>rfl))) ac) ac (aD _)))))) (au (aq 0 sc__law_least.nd (aF (ab (af dM (af bm (ak ar (aa 0) ac (fun _ _=>rfl)) (ak ar (aa 0) ac (fun _ _=>rfl))) ac) (ab (af dM (af aO (ak ar (aa 0) ac (fun _ _=>rfl)) (ak ar (aa 0) ac (fun _ _=>rfl))) ac) (ab (af dM (af aO (ak ar (aa 0) ac (fun _ _=>rfl)) (ak ar (aa 0) ac (fun _ _=>rfl))) ac) (ab (af dM (af bm (ak ar (aa 0) ac (fun _ _=>rfl)) (ak ar (aa 0) ac (fun _ _=>rfl))) ac) (ab (af bm (ak ar (aa 0) ac (fun _ _=>rfl)) ac) ae))))))))) (au (aI (aa 0))))
theorem sc__law_sum:FnScope qH ["x","y"] (aj iN):=⟨rfl,rfl,rfl,by decide +kernel,rfl,by decide +kernel,by decide +kernel⟩
theorem vh{f:Addr}{fd:FuncData}{dV:Value}(F:FunV K "_law_sum" "_law_sum" iN f fd dV)(T:Txt mg)(C__law_least:Cal P w K mg base "_law_least" 1 bB []):FnOk P w K mg base dY 2 f fd ["x","y"] (iE K cF):=
 dP (k:=1) (b:=kB) F sc__law_sum fun cdv A outer s H E hr=>(ai (kM (fun _=>wN) PassesOwn.never (aH xt (ak ar (aa 0) ac (fun _ _=>rfl)) (ak ar (aa 1) ac (fun _ _=>rfl)) (aD _)) (au (aq 0 sc__law_sum.nd (aF (ab (af bm (ak ar (aa 0) ac (fun _ _=>rfl)) (ak ar (aa 0) ac (fun _ _=>rfl))) (ab (af aO (ak ar (aa 0) ac (fun _ _=>rfl)) (ak ar (aa 0) ac (fun _ _=>rfl))) (ab (af aO (ak ar (aa 0) ac (fun _ _=>rfl)) (ak ar (aa 0) ac (fun _ _=>rfl))) (ab (af bm (ak ar (aa 0) ac (fun _ _=>rfl)) (ak ar (aa 0) ac (fun _ _=>rfl))) (ab (af aO (ak ar (aa 0) ac (fun _ _=>rfl)) ac) ae))))))))) (ai (kM (fun _=>wN) PassesOwn.never (aH xt (ak ar (aa 1) ac (fun _ _=>rfl)) (ak ar (aa 0) ac (fun _ _=>rfl)) (aD _)) (au (aq 1 sc__law_sum.nd (aF (ab (af bm (ak ar (aa 1) ac (fun _ _=>rfl)) (ak ar (aa 1) ac (fun _ _=>rfl))) (ab (af aO (ak ar (aa 1) ac (fun _ _=>rfl)) (ak ar (aa 1) ac (fun _ _=>rfl))) (ab (af aO (ak ar (aa 1) ac (fun _ _=>rfl)) (ak ar (aa 1) ac (fun _ _=>rfl))) (ab (af bm (ak ar (aa 1) ac (fun _ _=>rfl)) (ak ar (aa 1) ac (fun _ _=>rfl))) (ab (af aO (ak ar (aa 1) ac (fun _ _=>rfl)) ac) ae))))))))) (au (aI (ax C__law_least (hr.mono (by decide)) rfl (ab (aF (ab (af aO (ak ar (aa 0) ac (fun _ _=>rfl)) (ak ar (aa 1) ac (fun _ _=>rfl))) (ab (af aO (ak ar (aa 0) ac (fun _ _=>rfl)) (ak ar (aa 1) ac (fun _ _=>rfl))) (ab (af aO (ak ar (aa 0) ac (fun _ _=>rfl)) (ak ar (aa 1) ac (fun _ _=>rfl))) (ab (af aO (ak ar (aa 0) ac (fun _ _=>rfl)) (ak ar (aa 1) ac (fun _ _=>rfl))) (ab (ak ar (aa 0) ac (fun _ _=>rfl)) ae)))))) ae))))))
theorem sc__law_product:FnScope jD ["x","y"] (aj d7):=⟨rfl,rfl,rfl,by decide +kernel,rfl,by decide +kernel,by decide +kernel⟩
theorem ng{f:Addr}{fd:FuncData}{dV:Value}(F:FunV K "_law_product" "_law_product" d7 f fd dV)(T:Txt mg)(C__law_least:Cal P w K mg base "_law_least" 1 bB []):FnOk P w K mg base dY 2 f fd ["x","y"] (iE K bF):=
 dP (k:=1) (b:=gE) F sc__law_product fun cdv A outer s H E hr=>(ai (Bm 2 sc__law_product.nd (ab ac (ab ac (ab ac (ab ac ae))))) (ai (iJ PassesOwn.never rfl (cu rfl T.range (ab ac ae)) (fW 3 sc__law_product.nd) (au (iJ PassesOwn.never rfl (cu rfl T.range (ab ac ae)) (fW 4 sc__law_product.nd) (au (cG (aH xt (af aO (aa 3) (aa 4)) ac (aD _)) (au (oB 2 (af aO (aa 3) (aa 4)) (af aO (dh 2 (af aO (aa 3) (aa 4)) (fun _ _=>rfl)) (af mD (ak ar (aa 0) (aa 3) (fun _ _=>rfl)) (ak ar (aa 1) (aa 4) (fun _ _=>rfl)))))) (au (oB 2 (af bm (af aO (aa 3) (aa 4)) ac) (af bm (dh 2 (af bm (af aO (aa 3) (aa 4)) ac) (fun _ _=>rfl)) (af mD (ak ar (aa 0) (aa 3) (fun _ _=>rfl)) (ak ar (aa 1) (aa 4) (fun _ _=>rfl))))))))))) (au (aI (ax C__law_least (hr.mono (by decide)) rfl (ab (aF (ab (dh 2 ac (fun _ _=>rfl)) (ab (dh 2 ac (fun _ _=>rfl)) (ab (dh 2 ac (fun _ _=>rfl)) (ab (dh 2 ac (fun _ _=>rfl)) (ab (af aO (ak ar (aa 0) ac (fun _ _=>rfl)) (ak ar (aa 1) ac (fun _ _=>rfl))) ae)))))) ae))))))
theorem sc__law_row_by:FnScope j5 ["cell","wires"] (aj eY):=⟨rfl,rfl,rfl,by decide +kernel,rfl,by decide +kernel,by decide +kernel⟩
theorem pi{f:Addr}{fd:FuncData}{dV:Value}(F:FunV K "_law_row_by" "_law_row_by" eY f fd dV)(T:Txt mg)(C__law_mixed:Cal P w K mg base "_law_mixed" 1 bA []):FnOk P w K mg base dY 2 f fd ["cell","wires"] (iE K aG):=
 dP (k:=1) (b:=cg) F sc__law_row_by fun cdv A outer s H E hr=>(ai (aq 2 sc__law_row_by.nd (ax C__law_mixed (hr.mono (by decide)) rfl (ab (aa 0) ae))) (ai (aq 3 sc__law_row_by.nd (af bU (af dM (aa 2) ac) (aa 1))) (ai (aq 4 sc__law_row_by.nd (af aO ac (af bU (af dM (aa 2) ac) ac))) (ai (aq 5 sc__law_row_by.nd (af bU (aa 2) ac)) (ai (cG (aH (eT hr.units) (aa 1) ac (aD _)) (au (aI (ak ar (jp (ab (aF (ab bM (ab ac ae))) (ab (aF (ab bM (ab ac (ab (aa 4) ae)))) (ab (aF (ab bM (ab ac ae))) ae)))) (af bU (aa 5) ac) (fun _ _=>rfl)))) ce) (ai (aq 6 sc__law_row_by.nd (af bU (af aO (af aO (aa 3) ac) (af bU (af dM (aa 2) ac) (af bm (aa 1) ac))) (aa 1))) (ai (cG (aH (eT hr.units) (aa 5) ac (aD _)) (au (aI (aF (ab bM (ab (aa 3) ae))))) ce) (ai (cG (aH (eT hr.units) (aa 5) ac (aD _)) (au (aI (aF (ab bM (ab (aa 3) (ab (aa 4) ae)))))) ce) (ai (cG (aH (eT hr.units) (aa 5) ac (aD _)) (au (aI (aF (ab bM (ab (aa 3) ae))))) ce) (au (aI (aF (ab (ak ar (jp (ab bM (ab bM (ab bM ae)))) (af bm (aa 5) ac) (fun _ _=>rfl)) (ab (aa 3) (ab (aa 6) ae)))))))))))))))
theorem sc__law_rows_by:FnScope jC ["cells","wires","swings","looks"] (aj d6):=⟨rfl,rfl,rfl,by decide +kernel,rfl,by decide +kernel,by decide +kernel⟩
theorem nc{f:Addr}{fd:FuncData}{dV:Value}(F:FunV K "_law_rows_by" "_law_rows_by" d6 f fd dV)(T:Txt mg)(C__law_row_by:Cal P w K mg base "_law_row_by" 2 aG [])(C__law_mixed:Cal P w K mg base "_law_mixed" 1 bA []):FnOk P w K mg base dY 3 f fd ["cells","wires","swings","looks"] (iE K bf):=
 dP (k:=2) (b:=gD) F sc__law_rows_by fun cdv A outer s H E hr=>(ai (Bm 4 sc__law_rows_by.nd ae) (ai (aq 5 sc__law_rows_by.nd ac) (ai (iJ PassesOwn.never rfl (eR (aa 0)) (fW 6 sc__law_rows_by.nd) (ai (aq 7 sc__law_rows_by.nd (ax C__law_row_by (hr.mono (by decide)) rfl (ab (aa 6) (ab (aa 1) ae)))) (ai (aq 8 sc__law_rows_by.nd (af dM (ax C__law_mixed (hr.mono (by decide)) rfl (ab (aa 6) ae)) ac)) (ai (cG (WV.tv (sJ (aH (eT hr.units) (af bU (aa 8) ac) ac (aD _)) (sI (aH xt (aa 5) (aa 3) (aD _))))) (ai (aq 7 sc__law_rows_by.nd (aF (ab bM (ab (af bU (af dM (aa 8) ac) (aa 1)) ae)))) (au (aq 5 sc__law_rows_by.nd (af aO (aa 5) ac)))) (au (cG (WV.tv (sJ (aH (eT hr.units) (af bU (aa 8) ac) ac (aD _)) (sI (aH Gz (aa 5) ac (aD _))))) (ai (aq 9 sc__law_rows_by.nd (af bU (af dM (aa 8) ac) (aa 1))) (au (aq 7 sc__law_rows_by.nd (aF (ab bM (ab (af bU (af dM (aa 8) ac) (aa 5)) (ab (ak ar (jp (ab (aF (ab bM (ab (aa 9) ae))) (ab (aF (ab bM (ab (aa 9) (ab ac ae)))) ae))) (af bU (af dM (aa 8) ac) ac) (fun _ _=>rfl)) ae))))))) (au (cG (aH (eT hr.units) (ak ar (aa 7) ac (fun _ _=>rfl)) bM (aD _)) (ai (aq 2 sc__law_rows_by.nd (af bm (aa 2) ac)) (au (cG (aH xt (aa 2) ac (aD _)) (au (aq 7 sc__law_rows_by.nd (aF (ab bM (ab (ak ar (aa 7) ac (fun _ _=>rfl)) (ab (af aO ac (af bU (aa 8) ac)) ae)))))) ce))) ce))))) (au (HV 4 (aa 7))))))) (au (G2 4 (aI (f8 jS rfl T.tuple (by decide +kernel) (ab (aa 4) ae))))))))
theorem oQ:FnScope ic ["x"] (aj dE):=⟨rfl,rfl,rfl,by decide +kernel,rfl,by decide +kernel,by decide +kernel⟩
theorem pq{f:Addr}{fd:FuncData}{dV:Value}(F:FunV K "_law_formed" "_law_formed" dE f fd dV)(T:Txt mg)(C__law_whole:Cal P w K mg base "_law_whole" 1 cE []):FnOk P w K mg base dY 2 f fd ["x"] (iE K aZ):=
 dP (k:=1) (b:=h7) F oQ fun cdv A outer s H E hr=>(ai (cG (WV.tv (rB (ot (oq (xp (T:="tuple") rfl T.isinstance rfl T.tuple (by decide +kernel) (by decide) (by decide) (aa 0)))) (rB (aH (xr hr.units) (bH g8 rfl T.len (by decide +kernel) (ab (aa 0) ae)) ac (aD _)) (sH (aH Gz (bH g8 rfl T.len (by decide +kernel) (ab (lw (vars:=["part"]) (caps:=[]) (by change BlkOk (aj dE).names ic _ _ _;exact⟨rfl,by decide +kernel,by decide +kernel,by decide +kernel,by decide +kernel⟩) rfl (eR (aa 0)) d4 (fun _ _ _ _=>b9 (i:=0) (show(["part"]:List Str).Nodup by decide +kernel) rfl (Or.inl rfl) (.inr rfl)) (fun _ _ _ _=>(ot (oq (ax C__law_whole (hr.mono (by decide)) rfl (ab (aa 0) ae))))) (fun _ _ _ _=>(aa 0))) ae)) ac (aD _)))))) (au (aI vK)) ce) (au (aI (Dm (Dl M7 ac (ak ar (aa 0) ac (fun _ _=>rfl)) (aD _)) (Dj (Dl M7 (ak ar (aa 0) ac (fun _ _=>rfl)) ac (aD _)))))))
theorem sc__law_back:FnScope mX ["rows"] (aj gP):=⟨rfl,rfl,rfl,by decide +kernel,rfl,by decide +kernel,by decide +kernel⟩
theorem tI{f:Addr}{fd:FuncData}{dV:Value}(F:FunV K "_law_back" "_law_back" gP f fd dV)(T:Txt mg):FnOk P w K mg base dY 1 f fd ["rows"] (iE K dg):=
 dP (k:=0) (b:=jx) F sc__law_back fun cdv A outer s H E hr=>(ai (aq 1 sc__law_back.nd (jp ae)) (ai (iJ PassesOwn.never rfl (eR (aa 0)) (fW 2 sc__law_back.nd) (ai (cG (aH (eT hr.units) (ak ar (aa 2) ac (fun _ _=>rfl)) bM (aD _)) (au (aq 2 sc__law_back.nd (aF (ab bM (ab (ak ar (aa 2) ac (fun _ _=>rfl)) (ab (af bm ac (ak ar (aa 2) ac (fun _ _=>rfl))) ae)))))) ce) (au (aq 1 sc__law_back.nd (af aO (jp (ab (aa 2) ae)) (aa 1)))))) (au (aI (f8 jS rfl T.tuple (by decide +kernel) (ab (aa 1) ae))))))
theorem oO:FnScope j6 ["x"] (aj eZ):=⟨rfl,rfl,rfl,by decide +kernel,rfl,by decide +kernel,by decide +kernel⟩
theorem pj{f:Addr}{fd:FuncData}{dV:Value}(F:FunV K "_law_mirror" "_law_mirror" eZ f fd dV)(T:Txt mg):FnOk P w K mg base dY 1 f fd ["x"] (iE K cb):=
 dP (k:=0) (b:=h6) F oO fun cdv A outer s H E hr=>(au (aI (aF (ab (ak ar (aa 0) ac (fun _ _=>rfl)) (ab (af bm ac (ak ar (aa 0) ac (fun _ _=>rfl))) (ab (af bm ac (ak ar (aa 0) ac (fun _ _=>rfl))) (ab (af bm ac (ak ar (aa 0) ac (fun _ _=>rfl))) (ab (ak ar (aa 0) ac (fun _ _=>rfl)) ae))))))))
theorem sc_law:FnScope v1 ["script"] (aj j3):=⟨rfl,rfl,rfl,by decide +kernel,rfl,by decide +kernel,by decide +kernel⟩
theorem IW{f:Addr}{fd:FuncData}{dV:Value}(F:FunV K "law" "law" j3 f fd dV)(T:Txt mg)(C__law_rows_by:Cal P w K mg base "_law_rows_by" 3 bf [])(C_sum_of:Cal P w K mg base "sum_of" 5 b6 [])(C__law_cell_at:Cal P w K mg base "_law_cell_at" 1 bg [])(C_number_at:Cal P w K mg base "number_at" 17 aT [])(C__law_back:Cal P w K mg base "_law_back" 1 dg [])(C__law_sum:Cal P w K mg base "_law_sum" 2 cF [])(C__law_mirror:Cal P w K mg base "_law_mirror" 1 cb [])(C__law_product:Cal P w K mg base "_law_product" 2 bF [])(C__law_formed:Cal P w K mg base "_law_formed" 2 aZ []):FnOk P w K mg base dY 18 f fd ["script"] (iE K yT):=
 dP (k:=17) (b:=zq) F sc_law fun cdv A outer s H E hr=>(ai (aq 1 sc_law.nd (af aO ac (af bU (ax C__law_cell_at (hr.mono (by decide)) rfl (ab (aa 0) (ab ac ae))) ac))) (ai (aq 2 sc_law.nd (af bU (ax C__law_cell_at (hr.mono (by decide)) rfl (ab (aa 0) (ab ac ae))) (af Hx ac ac))) (ai (aq 3 sc_law.nd (af bU (aa 2) (af iz ac (aa 1)))) (ai (aq 4 sc_law.nd (jo (aa 0) (jL ac) (jL ac))) (ai (aq 5 sc_law.nd (af bU (af dM (aa 2) ac) (af aO (bH g8 rfl T.len (by decide +kernel) (ab (aa 4) ae)) ac))) (ai (aq 6 sc_law.nd (ax C__law_rows_by (hr.mono (by decide)) rfl (ab (jo (aa 4) nX (jL (aa 5))) (ab (aa 1) (ab ac (ab ac ae)))))) (ai (aq 7 sc_law.nd (ax C__law_rows_by (hr.mono (by decide)) rfl (ab (jo (aa 4) (jL (aa 5)) nX) (ab (aa 1) (ab ac (ab ac ae)))))) (ai (aq 8 sc_law.nd (ax C_sum_of (hr.mono (by decide)) rfl (ab (aF (ab (aa 1) (ab (aa 6) ae))) ae))) (ai (aq 9 sc_law.nd (ax C_sum_of (hr.mono (by decide)) rfl (ab (aF (ab (aa 1) (ab (aa 7) ae))) ae))) (ai (aq 10 sc_law.nd (ax C_sum_of (hr.mono (by decide)) rfl (ab (aF (ab (aa 1) (ab (af aO (aa 6) (aa 7)) ae))) ae))) (ai (aq 11 sc_law.nd (ax C_sum_of (hr.mono (by decide)) rfl (ab (aF (ab (aa 1) (ab (ax C__law_back (hr.mono (by decide)) rfl (ab (af aO (aa 6) (aa 7)) ae)) ae))) ae))) (ai (aq 12 sc_law.nd (af iz ac (aa 1))) (ai (xZ 13 sc_law.nd (vars:=["place"]) (caps:=[(3,"begin"),(8,"one")]) (by change BlkOk (aj j3).names v1 _ _ _;exact⟨rfl,by decide +kernel,by decide +kernel,by decide +kernel,by decide +kernel⟩) rfl (cu rfl T.range (ab (aa 12) ae)) d4 (fun _ _ _ _=>b9 (i:=0) (show(["place","begin","one"]:List Str).Nodup by decide +kernel) rfl (Or.inl rfl) (.inr rfl)) (fun _ _ _ _=>(ax C_number_at (hr.mono (by decide)) rfl (ab (aa 2) (ab (aa 1) (ab (aF ae) (ab (aa 0) ae))))))) (ai (iJ PassesOwn.never rfl (cu rfl T.range (ab (aa 12) ae)) (fW 14 sc_law.nd) (ai (aq 15 sc_law.nd (ax C_number_at (hr.mono (by decide)) rfl (ab (aa 10) (ab (aa 3) (ab (aF ae) (ab (aa 14) ae)))))) (ai (aq 16 sc_law.nd (aF (ab ac (ab ac (ab ac (ab ac (ab ac ae))))))) (ai (iJ PassesOwn.never rfl (cu rfl T.range (ab (aa 12) ae)) (fW 17 sc_law.nd) (ai (aq 18 sc_law.nd (ax C_number_at (hr.mono (by decide)) rfl (ab (aa 9) (ab (aa 17) (ab (aF ae) (ab (aa 14) ae)))))) (ai (cG (WV.tv (rB (ot (oq (ax C__law_formed (hr.mono (by decide)) rfl (ab (aa 18) ae)))) (sH (ot (oq (ax C__law_formed (hr.mono (by decide)) rfl (ab (ak ar (aa 13) (aa 17) (fun _ _=>rfl)) ae))))))) (au (aI vK)) ce) (au (aq 16 sc_law.nd (ax C__law_sum (hr.mono (by decide)) rfl (ab (aa 16) (ab (ax C__law_product (hr.mono (by decide)) rfl (ab (ak ar (aa 13) (aa 17) (fun _ _=>rfl)) (ab (aa 18) ae))) ae)))))))) (ai (cG (WV.tv (rB (ot (oq (ax C__law_formed (hr.mono (by decide)) rfl (ab (aa 15) ae)))) (sH (aH (xr hr.units) (aa 15) (aa 16) (aD _))))) (au (aI vK)) ce) (au (cG (aH (xr hr.units) (ax C_number_at (hr.mono (by decide)) rfl (ab (aa 11) (ab (aa 14) (ab (aF ae) (ab (aa 3) ae))))) (ax C__law_mirror (hr.mono (by decide)) rfl (ab (aa 16) ae)) (aD _)) (au (aI vK)) ce))))))) (au (aI vK))))))))))))))))
end
theorem qo:aV "twos_shared" eX ["joined","most"]:=fun _ _ _ _ _ _ us hl=>by obtain⟨_,_,rfl⟩:=km hl;exact rfl
theorem xB:aV "by_root" jK ["a","b","c","d"]:=fun _ _ _ _ _ _ us hl=>by obtain⟨_,_,_,_,rfl⟩:=CG hl;exact rfl
theorem rg:aV "parts_over" fP ["x","k"]:=fun _ _ _ _ _ _ us hl=>by obtain⟨_,_,rfl⟩:=km hl;exact rfl
theorem AQ:aV "turned" kT ["x","e"]:=fun _ _ _ _ _ _ us hl=>by obtain⟨_,_,rfl⟩:=km hl;exact rfl
theorem xC:aV "bits_of" io ["wires","place"]:=fun _ _ _ _ _ _ us hl=>by obtain⟨_,_,rfl⟩:=km hl;exact rfl
theorem vS:aV "looks_in" gj ["circuit"]:=fun _ _ _ _ _ _ us hl=>by obtain⟨_,rfl⟩:=pG hl;exact rfl
theorem vQ:aV "value_of" iM ["bitset","bits"]:=fun _ _ _ _ _ _ us hl=>by obtain⟨_,_,rfl⟩:=km hl;exact rfl
theorem uk:aV "all_added" fE ["turn","turns","pairs"]:=fun _ _ _ _ _ _ us hl=>by obtain⟨_,_,_,rfl⟩:=wV hl;exact rfl
theorem AS:aV "signed" kU ["one","other"]:=fun _ _ _ _ _ _ us hl=>by obtain⟨_,_,rfl⟩:=km hl;exact rfl
theorem mG:aV "ties_in_order" cJ ["ties"]:=fun _ _ _ _ _ _ us hl=>by obtain⟨_,rfl⟩:=pG hl;exact rfl
theorem lE:jF "__init__" "Ways.__init__" cn ["self","wires","looks"]:=fun _ _ _ _ _ _ us hl=>by obtain⟨_,_,_,rfl⟩:=wV hl;exact rfl
theorem rm:jF "sign" "Ways.sign" fT ["self","one","other"]:=fun _ _ _ _ _ _ us hl=>by obtain⟨_,_,_,rfl⟩:=wV hl;exact rfl
theorem qu:jF "swing" "Ways.swing" e8 ["self","wire"]:=fun _ _ _ _ _ _ us hl=>by obtain⟨_,_,rfl⟩:=km hl;exact rfl
theorem rn:jF "flip" "Ways.flip" fU ["self","wire","bitset"]:=fun _ _ _ _ _ _ us hl=>by obtain⟨_,_,_,rfl⟩:=wV hl;exact rfl
theorem qv:jF "cross" "Ways.cross" e9 ["self","one","other"]:=fun _ _ _ _ _ _ us hl=>by obtain⟨_,_,_,rfl⟩:=wV hl;exact rfl
theorem vU:jF "go" "Ways.go" iO ["self","row"]:=fun _ _ _ _ _ _ us hl=>by obtain⟨_,_,rfl⟩:=km hl;exact rfl
theorem AR:aV "sum_of" jg ["circuit"]:=fun _ _ _ _ _ _ us hl=>by obtain⟨_,rfl⟩:=pG hl;exact rfl
theorem vR:aV "told_set" gh ["wires","begin","marks","end"]:=fun _ _ _ _ _ _ us hl=>by obtain⟨_,_,_,_,rfl⟩:=CG hl;exact rfl
theorem nA:aV "hidden_place" cV ["bitset","hidden"]:=fun _ _ _ _ _ _ us hl=>by obtain⟨_,_,rfl⟩:=km hl;exact rfl
theorem qp:aV "differences" cM ["weights"]:=fun _ _ _ _ _ _ us hl=>by obtain⟨_,rfl⟩:=pG hl;exact rfl
theorem uh:aV "summed_up" fC ["pairs","told","hidden"]:=fun _ _ _ _ _ _ us hl=>by obtain⟨_,_,_,rfl⟩:=wV hl;exact rfl
theorem uj:aV "by_halves" gM ["x","halves"]:=fun _ _ _ _ _ _ us hl=>by obtain⟨_,_,rfl⟩:=km hl;exact rfl
theorem ui:aV "number_at" fD ["one","begin","marks","end"]:=fun _ _ _ _ _ _ us hl=>by obtain⟨_,_,_,_,rfl⟩:=CG hl;exact rfl
theorem nD:aV "_law_cell_at" d8 ["script","k"]:=fun _ _ _ _ _ _ us hl=>by obtain⟨_,_,rfl⟩:=km hl;exact rfl
theorem rj:aV "_law_mixed" fR ["cell"]:=fun _ _ _ _ _ _ us hl=>by obtain⟨_,rfl⟩:=pG hl;exact rfl
theorem rh:aV "_law_whole" fQ ["found"]:=fun _ _ _ _ _ _ us hl=>by obtain⟨_,rfl⟩:=pG hl;exact rfl
theorem rk:aV "_law_least" fS ["x"]:=fun _ _ _ _ _ _ us hl=>by obtain⟨_,rfl⟩:=pG hl;exact rfl
theorem vT:aV "_law_sum" iN ["x","y"]:=fun _ _ _ _ _ _ us hl=>by obtain⟨_,_,rfl⟩:=km hl;exact rfl
theorem nC:aV "_law_product" d7 ["x","y"]:=fun _ _ _ _ _ _ us hl=>by obtain⟨_,_,rfl⟩:=km hl;exact rfl
theorem qq:aV "_law_row_by" eY ["cell","wires"]:=fun _ _ _ _ _ _ us hl=>by obtain⟨_,_,rfl⟩:=km hl;exact rfl
theorem nB:aV "_law_rows_by" d6 ["cells","wires","swings","looks"]:=fun _ _ _ _ _ _ us hl=>by obtain⟨_,_,_,_,rfl⟩:=CG hl;exact rfl
theorem qt:aV "_law_formed" dE ["x"]:=fun _ _ _ _ _ _ us hl=>by obtain⟨_,rfl⟩:=pG hl;exact rfl
theorem ul:aV "_law_back" gP ["rows"]:=fun _ _ _ _ _ _ us hl=>by obtain⟨_,rfl⟩:=pG hl;exact rfl
theorem qr:aV "_law_mirror" eZ ["x"]:=fun _ _ _ _ _ _ us hl=>by obtain⟨_,rfl⟩:=pG hl;exact rfl
theorem KR{l:PySem.W.OpenLaw}{w:World}{K:PySem.W.Frag}{h:Heap}{mg:Str->Option Value}{fa f2 f35 t2 wc_Ways:Addr}{od2 an2 od35 an35 td2:Option Addr}{sl2 sl35 ts2:Array (Option Value)}{oc2 kV2 dc2 pm2 cd2 ct2 oc35 kV35 dc35 pm35 cd35 ct35 tc2:Value}{tn2:Nat}{tk2_0 tk_MOST_HIDDEN_0:Tok}(X:K.In h)(G:h.Ns mainGlobals mg)(hfa:mg "law" = some (.ref fa))
  (wa_Ways:PySem.W.nsIn K mainGlobals "Ways" = some (some (.ref wc_Ways)))
  (wpg_Ways:PySem.W.plainGet K wc_Ways Str.empty=true)
  (whd_Ways:PySem.W.hasDictIn K wc_Ways=true)
  (wpo_Ways:PySem.W.plainOver K wc_Ways=true)
  (wsa_Ways:findIn K (.ref wc_Ways) "__setattr__" = some (some (.builtin "object.__setattr__")))
  (wmk_Ways:PySem.W.makesIn K wc_Ways=true)
  (wkc_Ways:keepIn K (.ref wc_Ways)=true)
  (wncarried_Ways:findIn K (.ref wc_Ways) "carried" = some none)
  (wnpairs_Ways:findIn K (.ref wc_Ways) "pairs" = some none)
  (wnties_Ways:findIn K (.ref wc_Ways) "ties" = some none)
  (wnhidden_Ways:findIn K (.ref wc_Ways) "hidden" = some none)
  (wnfirst_mark_Ways:findIn K (.ref wc_Ways) "first_mark" = some none)
  (wnfirst_hidden_Ways:findIn K (.ref wc_Ways) "first_hidden" = some none)
  (wnlooked_Ways:findIn K (.ref wc_Ways) "looked" = some none)
  (D0:DefIn K "twos_shared" "twos_shared" eX)
  (D1:DefIn K "by_root" "by_root" jK)
  (a2:PySem.W.nsIn K mainGlobals "number" = some (some (.ref f2))) (l2:K.lookup f2=some ⟨oc2,od2,.func (PySem.W.fnOf "number" "number" (cR im) (b7 im) (aj im) (.ref t2) kV2 dc2 pm2 an2 cd2 ct2),sl2⟩) (c2:codeIn K cd2 "number" = true) (k2:keepIn K (.ref f2)=true)
  (d2:K.lookup t2=some ⟨tc2,td2,.seq #[.int 0 tk2_0] tn2,ts2⟩)
  (D3:DefIn K "parts_over" "parts_over" fP)
  (D4:DefIn K "turned" "turned" kT)
  (D5:DefIn K "bits_of" "bits_of" io)
  (D6:DefIn K "looks_in" "looks_in" gj)
  (D7:DefIn K "value_of" "value_of" iM)
  (D8:DefIn K "all_added" "all_added" fE)
  (D9:DefIn K "signed" "signed" kU)
  (D10:DefIn K "ties_in_order" "ties_in_order" cJ)
  (D11:MethIn K wc_Ways "__init__" "Ways.__init__" cn)
  (D12:MethIn K wc_Ways "sign" "Ways.sign" fT)
  (D13:MethIn K wc_Ways "swing" "Ways.swing" e8)
  (D14:MethIn K wc_Ways "flip" "Ways.flip" fU)
  (D15:MethIn K wc_Ways "cross" "Ways.cross" e9)
  (D16:MethIn K wc_Ways "go" "Ways.go" iO)
  (D17:DefIn K "sum_of" "sum_of" jg)
  (D18:DefIn K "told_set" "told_set" gh)
  (D19:DefIn K "hidden_place" "hidden_place" cV)
  (D20:DefIn K "differences" "differences" cM)
  (D21:DefIn K "summed_up" "summed_up" fC)
  (D22:DefIn K "by_halves" "by_halves" gM)
  (D23:DefIn K "number_at" "number_at" fD)
  (D24:DefIn K "_law_cell_at" "_law_cell_at" d8)
  (D25:DefIn K "_law_mixed" "_law_mixed" fR)
  (D26:DefIn K "_law_whole" "_law_whole" fQ)
  (D27:DefIn K "_law_least" "_law_least" fS)
  (D28:DefIn K "_law_sum" "_law_sum" iN)
  (D29:DefIn K "_law_product" "_law_product" d7)
  (D30:DefIn K "_law_row_by" "_law_row_by" eY)
  (D31:DefIn K "_law_rows_by" "_law_rows_by" d6)
  (D32:DefIn K "_law_formed" "_law_formed" dE)
  (D33:DefIn K "_law_back" "_law_back" gP)
  (D34:DefIn K "_law_mirror" "_law_mirror" eZ)
  (a35:PySem.W.nsIn K mainGlobals "law" = some (some (.ref f35))) (l35:K.lookup f35=some ⟨oc35,od35,.func (PySem.W.fnOf "law" "law" (cR j3) (b7 j3) (aj j3) .none kV35 dc35 pm35 an35 cd35 ct35),sl35⟩) (c35:codeIn K cd35 "law" = true) (k35:keepIn K (.ref f35)=true)
  (z_min:PySem.W.nsIn K mainGlobals "min" = some none)
  (z_tuple:PySem.W.nsIn K mainGlobals "tuple" = some none)
  (z_range:PySem.W.nsIn K mainGlobals "range" = some none)
  (z_len:PySem.W.nsIn K mainGlobals "len" = some none)
  (z_dict:PySem.W.nsIn K mainGlobals "dict" = some none)
  (z_sorted:PySem.W.nsIn K mainGlobals "sorted" = some none)
  (z_set:PySem.W.nsIn K mainGlobals "set" = some none)
  (z_sum:PySem.W.nsIn K mainGlobals "sum" = some none)
  (z_list:PySem.W.nsIn K mainGlobals "list" = some none)
  (z_zip:PySem.W.nsIn K mainGlobals "zip" = some none)
  (z_isinstance:PySem.W.nsIn K mainGlobals "isinstance" = some none)
  (z_int:PySem.W.nsIn K mainGlobals "int" = some none)
  (z_bool:PySem.W.nsIn K mainGlobals "bool" = some none)
  (a_MOST_HIDDEN:PySem.W.nsIn K mainGlobals "MOST_HIDDEN" = some (some (.int 12 tk_MOST_HIDDEN_0)))
   :∃fd:FuncData,(∀(s:Shared) (v:Value),BindsTo s fd ⟨[v],[]⟩ [("script",v)])/\∀base:Heap,K.In base->base.Ns mainGlobals mg->FnOk l.prog w K mg base dY 18 fa fd ["script"] (yd K):=by
 have e:=hfa.symm.trans (mg_of X G a35);cases e;have T:Txt mg:=⟨mg_none_of X G z_min,mg_none_of X G z_tuple,mg_none_of X G z_range,mg_none_of X G z_len,mg_none_of X G z_dict,mg_none_of X G z_sorted,mg_none_of X G z_set,mg_none_of X G z_sum,mg_none_of X G z_list,mg_none_of X G z_zip,mg_none_of X G z_isinstance,mg_none_of X G z_int,mg_none_of X G z_bool⟩;have T_MOST_HIDDEN:TopV K mg "MOST_HIDDEN" (.int 12):=TopV.int (mg_of X G a_MOST_HIDDEN);have F2:=og (st:=im) l2 c2 k2;have F35:=og (st:=j3) l35 c35 k35;have wcl_Ways:Cls K wc_Ways:=⟨wpg_Ways,whd_Ways,wpo_Ways,wsa_Ways⟩;have Z_Ways:ClN K "Ways":=ClN.of wa_Ways wcl_Ways;have A_Wayscarried:NaN K "Ways" "carried":=NaN.of wa_Ways wncarried_Ways;have A_Wayspairs:NaN K "Ways" "pairs":=NaN.of wa_Ways wnpairs_Ways;have A_Waysties:NaN K "Ways" "ties":=NaN.of wa_Ways wnties_Ways;have A_Wayshidden:NaN K "Ways" "hidden":=NaN.of wa_Ways wnhidden_Ways;have A_Waysfirst_mark:NaN K "Ways" "first_mark":=NaN.of wa_Ways wnfirst_mark_Ways;have A_Waysfirst_hidden:NaN K "Ways" "first_hidden":=NaN.of wa_Ways wnfirst_hidden_Ways;have A_Wayslooked:NaN K "Ways" "looked":=NaN.of wa_Ways wnlooked_Ways;refine⟨PySem.W.fnOf "law" "law" (cR j3) (b7 j3) (aj j3) .none kV35 dc35 pm35 an35 cd35 ct35,fun s v=>.of_eq rfl,fun base _ _=>?_⟩
 have C_twos_shared:Cal l.prog w K mg base "twos_shared" 1 bz []:=D0.cal X G qo fun _ _ F=>pf F T
 have C_by_root:Cal l.prog w K mg base "by_root" 1 dw []:=D1.cal X G xB fun _ _ F=>wH F T
 have O2:FnOk l.prog w K mg base dY 2 _ _ _ (iE K gy):=Ac F2 T C_twos_shared C_by_root;have C_number:Cal l.prog w K mg base "number" 2 gy []:=⟨⟨_,_,_,[],[],O2,mg_of X G a2,k2,F2.bindsK d2 rfl (ps:=["a","b","c","d","k"]) 5 rfl (fun _ _ _ _ _ _ us hl=>by obtain⟨_,_,_,_,_,rfl⟩:=Ox hl;exact rfl),.nil,fun _=>.nil⟩⟩
 have C_parts_over:Cal l.prog w K mg base "parts_over" 2 cD []:=D3.cal X G rg fun _ _ F=>qP F T C_by_root
 have C_turned:Cal l.prog w K mg base "turned" 1 dL []:=D4.cal X G AQ fun _ _ F=>z9 F T
 have C_bits_of:Cal l.prog w K mg base "bits_of" 1 dX []:=D5.cal X G xC fun _ _ F=>wI F T
 have C_looks_in:Cal l.prog w K mg base "looks_in" 1 df []:=D6.cal X G vS fun _ _ F=>vg F T
 have C_value_of:Cal l.prog w K mg base "value_of" 1 de []:=D7.cal X G vQ fun _ _ F=>ve F T
 have C_all_added:Cal l.prog w K mg base "all_added" 1 cz []:=D8.cal X G uk fun _ _ F=>tH F T
 have C_signed:Cal l.prog w K mg base "signed" 1 gu []:=D9.cal X G AS fun _ _ F=>Ab F T
 have C_ties_in_order:Cal l.prog w K mg base "ties_in_order" 1 bh []:=D10.cal X G mG fun _ _ F=>mh F T
 have J_Ways:CalI l.prog w K mg base "Ways" 1 gZ:=D11.calI X G wa_Ways wmk_Ways wkc_Ways lE fun _ _ F=>kZ F T Z_Ways A_Wayscarried A_Wayspairs A_Waysties A_Wayshidden A_Waysfirst_mark A_Waysfirst_hidden A_Wayslooked
 have W_Ways__sign:CalW l.prog w K mg base "Ways" "sign" 2 be:=D12.calW wa_Ways wcl_Ways rm fun _ _ F=>qT F T C_signed Z_Ways A_Wayspairs
 have W_Ways__swing:CalW l.prog w K mg base "Ways" "swing" 3 bY:=D13.calW wa_Ways wcl_Ways qu fun _ _ F=>pv F T Z_Ways A_Waysfirst_hidden A_Wayshidden A_Wayscarried W_Ways__sign
 have W_Ways__flip:CalW l.prog w K mg base "Ways" "flip" 1 bq:=D14.calW wa_Ways wcl_Ways rn fun _ _ F=>qU F T Z_Ways A_Wayscarried
 have W_Ways__cross:CalW l.prog w K mg base "Ways" "cross" 1 bZ:=D15.calW wa_Ways wcl_Ways qv fun _ _ F=>px F T Z_Ways A_Wayscarried
 have W_Ways__go:CalW l.prog w K mg base "Ways" "go" 4 aM:=D16.calW wa_Ways wcl_Ways vU fun _ _ F=>vi F T W_Ways__swing Z_Ways A_Wayscarried A_Wayspairs W_Ways__flip W_Ways__sign W_Ways__cross
 have C_sum_of:Cal l.prog w K mg base "sum_of" 5 b6 []:=D17.cal X G AR fun _ _ F=>Aa F T C_looks_in C_all_added C_ties_in_order J_Ways W_Ways__go Z_Ways A_Wayscarried A_Wayspairs A_Wayshidden A_Waysties
 have C_told_set:Cal l.prog w K mg base "told_set" 2 b5 []:=D18.cal X G vR fun _ _ F=>vf F T C_bits_of
 have C_hidden_place:Cal l.prog w K mg base "hidden_place" 1 bE []:=D19.cal X G nA fun _ _ F=>m9 F T
 have C_differences:Cal l.prog w K mg base "differences" 15 fw []:=D20.calR X G qp fun _ _ F m k b=>i9 F T m k b 14
 have C_summed_up:Cal l.prog w K mg base "summed_up" 16 bc []:=D21.cal X G uh fun _ _ F=>tz F T C_differences C_hidden_place C_value_of
 have C_by_halves:Cal l.prog w K mg base "by_halves" 3 bT []:=D22.cal X G uj fun _ _ F=>tG F T C_number C_parts_over
 have C_number_at:Cal l.prog w K mg base "number_at" 17 aT []:=D23.cal X G ui fun _ _ F=>tF F T T_MOST_HIDDEN C_told_set C_summed_up C_by_halves C_turned
 have C__law_cell_at:Cal l.prog w K mg base "_law_cell_at" 1 bg []:=D24.cal X G nD fun _ _ F=>nh F T
 have C__law_mixed:Cal l.prog w K mg base "_law_mixed" 1 bA []:=D25.cal X G rj fun _ _ F=>qR F T
 have C__law_whole:Cal l.prog w K mg base "_law_whole" 1 cE []:=D26.cal X G rh fun _ _ F=>qQ F T
 have C__law_least:Cal l.prog w K mg base "_law_least" 1 bB []:=D27.cal X G rk fun _ _ F=>qS F T
 have C__law_sum:Cal l.prog w K mg base "_law_sum" 2 cF []:=D28.cal X G vT fun _ _ F=>vh F T C__law_least
 have C__law_product:Cal l.prog w K mg base "_law_product" 2 bF []:=D29.cal X G nC fun _ _ F=>ng F T C__law_least
 have C__law_row_by:Cal l.prog w K mg base "_law_row_by" 2 aG []:=D30.cal X G qq fun _ _ F=>pi F T C__law_mixed
 have C__law_rows_by:Cal l.prog w K mg base "_law_rows_by" 3 bf []:=D31.cal X G nB fun _ _ F=>nc F T C__law_row_by C__law_mixed
 have C__law_formed:Cal l.prog w K mg base "_law_formed" 2 aZ []:=D32.cal X G qt fun _ _ F=>pq F T C__law_whole
 have C__law_back:Cal l.prog w K mg base "_law_back" 1 dg []:=D33.cal X G ul fun _ _ F=>tI F T
 have C__law_mirror:Cal l.prog w K mg base "_law_mirror" 1 cb []:=D34.cal X G qr fun _ _ F=>pj F T
 have O35:FnOk l.prog w K mg base dY 18 _ _ _ (iE K yT):=IW F35 T C__law_rows_by C_sum_of C__law_cell_at C_number_at C__law_back C__law_sum C__law_mirror C__law_product C__law_formed;exact MJ O35 fun ns hl=>law_true ns hl
end GN
open PySem PySem.W PyProof.Rows
set_option maxRecDepth 1000000 in
set_option maxHeartbeats 0 in
theorem PySem.Challenge.cw_wavewires_k33_whole_sums_behind_one_anot_holds : PySem.Challenge.rw_wavewires_k33_whole_sums_behind_one_anot.Holds := by
  refine topT ?_
  k_fill
  refine VL.Ls (k := 18) (l := PySem.Challenge.rw_wavewires_k33_whole_sums_behind_one_anot) rfl ⟨rfl, by decide, by decide⟩ rfl (fun w h Y => PySem.W.kIn_of Y) ?F
  case F =>
    intro w mg fa h KX G hmg
    refine' GN.KR KX G hmg ?wa_Ways ?wpg_Ways ?whd_Ways ?wpo_Ways ?wsa_Ways ?wmk_Ways ?wkc_Ways ?wncarried_Ways ?wnpairs_Ways ?wnties_Ways ?wnhidden_Ways ?wnfirst_mark_Ways ?wnfirst_hidden_Ways ?wnlooked_Ways (VL.DefIn.mk ?a0 ?l0 ?c0 ?k0) (VL.DefIn.mk ?a1 ?l1 ?c1 ?k1) ?a2 ?l2 ?c2 ?k2 ?d2 (VL.DefIn.mk ?a3 ?l3 ?c3 ?k3) (VL.DefIn.mk ?a4 ?l4 ?c4 ?k4) (VL.DefIn.mk ?a5 ?l5 ?c5 ?k5) (VL.DefIn.mk ?a6 ?l6 ?c6 ?k6) (VL.DefIn.mk ?a7 ?l7 ?c7 ?k7) (VL.DefIn.mk ?a8 ?l8 ?c8 ?k8) (VL.DefIn.mk ?a9 ?l9 ?c9 ?k9) (VL.DefIn.mk ?a10 ?l10 ?c10 ?k10) (VL.MethIn.mk ?a11 ?i11 ?l11 ?c11 ?k11) (VL.MethIn.mk ?a12 ?i12 ?l12 ?c12 ?k12) (VL.MethIn.mk ?a13 ?i13 ?l13 ?c13 ?k13) (VL.MethIn.mk ?a14 ?i14 ?l14 ?c14 ?k14) (VL.MethIn.mk ?a15 ?i15 ?l15 ?c15 ?k15) (VL.MethIn.mk ?a16 ?i16 ?l16 ?c16 ?k16) (VL.DefIn.mk ?a17 ?l17 ?c17 ?k17) (VL.DefIn.mk ?a18 ?l18 ?c18 ?k18) (VL.DefIn.mk ?a19 ?l19 ?c19 ?k19) (VL.DefIn.mk ?a20 ?l20 ?c20 ?k20) (VL.DefIn.mk ?a21 ?l21 ?c21 ?k21) (VL.DefIn.mk ?a22 ?l22 ?c22 ?k22) (VL.DefIn.mk ?a23 ?l23 ?c23 ?k23) (VL.DefIn.mk ?a24 ?l24 ?c24 ?k24) (VL.DefIn.mk ?a25 ?l25 ?c25 ?k25) (VL.DefIn.mk ?a26 ?l26 ?c26 ?k26) (VL.DefIn.mk ?a27 ?l27 ?c27 ?k27) (VL.DefIn.mk ?a28 ?l28 ?c28 ?k28) (VL.DefIn.mk ?a29 ?l29 ?c29 ?k29) (VL.DefIn.mk ?a30 ?l30 ?c30 ?k30) (VL.DefIn.mk ?a31 ?l31 ?c31 ?k31) (VL.DefIn.mk ?a32 ?l32 ?c32 ?k32) (VL.DefIn.mk ?a33 ?l33 ?c33 ?k33) (VL.DefIn.mk ?a34 ?l34 ?c34 ?k34) ?a35 ?l35 ?c35 ?k35 ?z_min ?z_tuple ?z_range ?z_len ?z_dict ?z_sorted ?z_set ?z_sum ?z_list ?z_zip ?z_isinstance ?z_int ?z_bool ?a_MOST_HIDDEN
    (case wa_Ways => k_is)
    (case wpg_Ways => k_is)
    (case whd_Ways => k_is)
    (case wpo_Ways => k_is)
    (case wsa_Ways => k_is)
    (case wmk_Ways => k_is)
    (case wkc_Ways => k_is)
    (case wncarried_Ways => k_is)
    (case wnpairs_Ways => k_is)
    (case wnties_Ways => k_is)
    (case wnhidden_Ways => k_is)
    (case wnfirst_mark_Ways => k_is)
    (case wnfirst_hidden_Ways => k_is)
    (case wnlooked_Ways => k_is)
    (case a0 => k_is)
    (case l0 => k_is)
    (case c0 => k_is)
    (case k0 => k_is)
    (case a1 => k_is)
    (case l1 => k_is)
    (case c1 => k_is)
    (case k1 => k_is)
    (case a2 => k_is)
    (case l2 => k_is)
    (case c2 => k_is)
    (case k2 => k_is)
    (case d2 => k_is)
    (case a3 => k_is)
    (case l3 => k_is)
    (case c3 => k_is)
    (case k3 => k_is)
    (case a4 => k_is)
    (case l4 => k_is)
    (case c4 => k_is)
    (case k4 => k_is)
    (case a5 => k_is)
    (case l5 => k_is)
    (case c5 => k_is)
    (case k5 => k_is)
    (case a6 => k_is)
    (case l6 => k_is)
    (case c6 => k_is)
    (case k6 => k_is)
    (case a7 => k_is)
    (case l7 => k_is)
    (case c7 => k_is)
    (case k7 => k_is)
    (case a8 => k_is)
    (case l8 => k_is)
    (case c8 => k_is)
    (case k8 => k_is)
    (case a9 => k_is)
    (case l9 => k_is)
    (case c9 => k_is)
    (case k9 => k_is)
    (case a10 => k_is)
    (case l10 => k_is)
    (case c10 => k_is)
    (case k10 => k_is)
    (case a11 => k_is)
    (case i11 => k_is)
    (case l11 => k_is)
    (case c11 => k_is)
    (case k11 => k_is)
    (case a12 => k_is)
    (case i12 => k_is)
    (case l12 => k_is)
    (case c12 => k_is)
    (case k12 => k_is)
    (case a13 => k_is)
    (case i13 => k_is)
    (case l13 => k_is)
    (case c13 => k_is)
    (case k13 => k_is)
    (case a14 => k_is)
    (case i14 => k_is)
    (case l14 => k_is)
    (case c14 => k_is)
    (case k14 => k_is)
    (case a15 => k_is)
    (case i15 => k_is)
    (case l15 => k_is)
    (case c15 => k_is)
    (case k15 => k_is)
    (case a16 => k_is)
    (case i16 => k_is)
    (case l16 => k_is)
    (case c16 => k_is)
    (case k16 => k_is)
    (case a17 => k_is)
    (case l17 => k_is)
    (case c17 => k_is)
    (case k17 => k_is)
    (case a18 => k_is)
    (case l18 => k_is)
    (case c18 => k_is)
    (case k18 => k_is)
    (case a19 => k_is)
    (case l19 => k_is)
    (case c19 => k_is)
    (case k19 => k_is)
    (case a20 => k_is)
    (case l20 => k_is)
    (case c20 => k_is)
    (case k20 => k_is)
    (case a21 => k_is)
    (case l21 => k_is)
    (case c21 => k_is)
    (case k21 => k_is)
    (case a22 => k_is)
    (case l22 => k_is)
    (case c22 => k_is)
    (case k22 => k_is)
    (case a23 => k_is)
    (case l23 => k_is)
    (case c23 => k_is)
    (case k23 => k_is)
    (case a24 => k_is)
    (case l24 => k_is)
    (case c24 => k_is)
    (case k24 => k_is)
    (case a25 => k_is)
    (case l25 => k_is)
    (case c25 => k_is)
    (case k25 => k_is)
    (case a26 => k_is)
    (case l26 => k_is)
    (case c26 => k_is)
    (case k26 => k_is)
    (case a27 => k_is)
    (case l27 => k_is)
    (case c27 => k_is)
    (case k27 => k_is)
    (case a28 => k_is)
    (case l28 => k_is)
    (case c28 => k_is)
    (case k28 => k_is)
    (case a29 => k_is)
    (case l29 => k_is)
    (case c29 => k_is)
    (case k29 => k_is)
    (case a30 => k_is)
    (case l30 => k_is)
    (case c30 => k_is)
    (case k30 => k_is)
    (case a31 => k_is)
    (case l31 => k_is)
    (case c31 => k_is)
    (case k31 => k_is)
    (case a32 => k_is)
    (case l32 => k_is)
    (case c32 => k_is)
    (case k32 => k_is)
    (case a33 => k_is)
    (case l33 => k_is)
    (case c33 => k_is)
    (case k33 => k_is)
    (case a34 => k_is)
    (case l34 => k_is)
    (case c34 => k_is)
    (case k34 => k_is)
    (case a35 => k_is)
    (case l35 => k_is)
    (case c35 => k_is)
    (case k35 => k_is)
    (case z_min => k_is)
    (case z_tuple => k_is)
    (case z_range => k_is)
    (case z_len => k_is)
    (case z_dict => k_is)
    (case z_sorted => k_is)
    (case z_set => k_is)
    (case z_sum => k_is)
    (case z_list => k_is)
    (case z_zip => k_is)
    (case z_isinstance => k_is)
    (case z_int => k_is)
    (case z_bool => k_is)
    (case a_MOST_HIDDEN => k_is)

end