import PyProof.Rows.All
import Wide.All
import OpenK.AllK
import Wide.FinOn
import Lean
import PyProof.EqAt
import PyProof.EqKinds
import PyProof.TupleCall
import PySem.Challenge.RW_wavewires_k53_form_of_turns
section TopS
set_option Elab.async false
set_option linter.all false
open PySem PySem.W PyProof.Rows
def viewQ : Program := view PySem.Challenge.rw_wavewires_k53_form_of_turns.prog [1, 3, 4, 5, 6, 7, 9, 10, 11, 12, 13, 14, 15]
local macro_rules
  | `(tactic| o_head $H) => do
    let hw := Lean.mkIdent `hw
    let hc := Lean.mkIdent `hc
    `(tactic| refine holds_open (q := viewQ) (loose := []) (Xt := fun s => xlAt viewQ [] s && recOk (RowW.records (OpenRow.toRowW PySem.Challenge.rw_wavewires_k53_form_of_turns.row)) s) (XP := XL viewQ []) (Yf := Hook.obs $H) (Ya := Hook.val $H) (YP := Hook.says $H) (N := 6000) (fun w => by (unfold openEnds fencedOpening topFrom; rw [Fast.te10274390034422433532, Fast.te14082659384304107361, Fast.te1435165496053646825, Fast.te14289696077712309145, Fast.te14364793385576792824, Fast.te4187177175401517315, Fast.te5923862056798008813]; kernel_rfl)) (Hook.of $H) (Hook.keeps $H) (fun s e => xl_of s (Bool.and_eq_true_iff.mp e).1) XL.keeps (by rfl) (by rfl) (by rfl) (fun s e => recFacts_of (Bool.and_eq_true_iff.mp e).2) (by rfl) (by first | assumption | decide +kernel) (by decide +kernel) ⟨rfl, rfl, rfl, rfl, rfl, by decide +kernel⟩ ?$hw ?$hc)
set_option maxRecDepth 1000000 in
set_option maxHeartbeats 0 in
open_top topT for PySem.Challenge.rw_wavewires_k53_form_of_turns
end TopS
noncomputable section
set_option Elab.async false
set_option linter.all false
set_option maxRecDepth 100000
namespace L2
open PySem PySem.Spec PyProof.Rows
abbrev ak:=Sum Int Str
noncomputable def iP:ak->Value->Bool
 |.inl k,v=>Value.isInt k v
 |.inr x,v=>Value.isStrOf x v
noncomputable def B5(w:World):ak->Int
 |.inl k=>hashInt k
 |.inr x=>hashStr w x
theorem aI:∀{k:ak} {v:Value},iP k v=true->(∃i t,k=Sum.inl i/\v=Value.int i t)\/(∃x t,k=Sum.inr x/\v=Value.str x t)
 |.inl i,v,h=>by
  obtain⟨t,e⟩:=Value.isInt_shape (k:=i) (v:=v) h;exact .inl ⟨i,t,rfl,e⟩
 |.inr x,v,h=>by
  obtain⟨t,e⟩:=Value.isStrOf_shape (x:=x) (v:=v) h;exact .inr ⟨x,t,rfl,e⟩
theorem qG(i:Int)(t:Tok):iP (.inl i) (.int i t)=true:=by simp[iP,Value.isInt]
theorem qF(x:Str)(t:Tok):iP (.inr x) (.str x t)=true:=by simp[iP,Value.isStrOf]
theorem xP(a b:Int):decide ((Sum.inl a:ak)=Sum.inl b)=(a==b):=by
 by_cases e:a=b
 ·subst e;simp
 ·have h:¬(Sum.inl a:ak)=Sum.inl b:=fun q=>e (Sum.inl.inj q)
  rw[decide_eq_false h];exact(beq_eq_false_iff_ne.mpr e).symm
theorem xM(a b:Str):decide ((Sum.inr a:ak)=Sum.inr b)=decide (a=b):=by
 by_cases e:a=b
 ·subst e;simp
 ·have h:¬(Sum.inr a:ak)=Sum.inr b:=fun q=>e (Sum.inr.inj q)
  rw[decide_eq_false h,decide_eq_false e]
theorem xO(a:Int)(b:Str):decide ((Sum.inl a:ak)=Sum.inr b)=false:=decide_eq_false (fun q=>nomatch q)
theorem xN(a:Str)(b:Int):decide ((Sum.inr a:ak)=Sum.inl b)=false:=decide_eq_false (fun q=>nomatch q)
noncomputable def aM(prog:Program)(w:World):PySem.KeyKind prog w ak where
 is:=iP
 hash:=B5 w
 inj:=fun v a b ha hb=>by
  rcases aI ha with⟨i,t,rfl,rfl⟩|⟨x,t,rfl,rfl⟩
  ·rcases aI hb with⟨j,u,rfl,e⟩|⟨y,u,rfl,e⟩
   ·injection e with e1 _;rw[e1]
   ·exact nomatch e
  ·rcases aI hb with⟨j,u,rfl,e⟩|⟨y,u,rfl,e⟩
   ·exact nomatch e
   ·injection e with e1 _;rw[e1]
 byValue:=fun k v h=>by
  rcases aI h with⟨i,t,rfl,rfl⟩|⟨x,t,rfl,rfl⟩<;>rfl
 pyHash:=fun hv h=>by
  rcases aI hv with⟨i,t,rfl,rfl⟩|⟨x,t,rfl,rfl⟩
  ·exact wpAny_pyHash_int h
  ·exact wpAny_pyHash_str h
 eqBool:=fun hu hv h=>by
  rcases aI hu with⟨i,t,rfl,rfl⟩|⟨x,t,rfl,rfl⟩
  ·rcases aI hv with⟨j,u,rfl,rfl⟩|⟨y,u,rfl,rfl⟩
   ·rw[xP]at h;exact wpAny_eqBool_int h
   ·rw[xO]at h;exact SeqAt.EqAt.int_str i t y u _ _ _ _ h
  ·rcases aI hv with⟨j,u,rfl,rfl⟩|⟨y,u,rfl,rfl⟩
   ·rw[xN]at h;exact SeqAt.EqAt.str_int x t j u _ _ _ _ h
   ·rw[xM]at h;exact wpAny_eqBool_str h
 «strs»:=fun k x t v h=>by
  rcases aI h with⟨i,u,rfl,e⟩|⟨y,u,rfl,e⟩
  ·exact nomatch e
  ·injection e with e1 _
   subst e1;cases v<;>rfl
theorem lY(prog:Program)(w:World)(i:Int)(t:Tok):(aM prog w).is (.inl i) (.int i t)=true:=qG i t
theorem lX(prog:Program)(w:World)(x:Str)(t:Tok):(aM prog w).is (.inr x) (.str x t)=true:=qF x t
inductive V where
 |non|bl (b:Bool)|int (i:Int)|str (x:Str)|byt (b:Array UInt8)|flt (b:UInt64)|ref (a:Addr)|ty (n:String)
 deriving DecidableEq
def RelV:V->Value->Prop
 |.non,u=>u=Value.none
 |.bl b,u=>u=Value.bool b
 |.int i,u=>∃t,u=Value.int i t
 |.str x,u=>∃t,u=Value.str x t
 |.byt b,u=>∃t,u=Value.bytes b t
 |.flt b,u=>∃t,u=Value.float b t
 |.ref a,u=>u=Value.ref a
 |.ty n,u=>u=Value.type n
abbrev Vals:List V->List Value->Prop:=Paired RelV
theorem Vals.length{xs:List V}{us:List Value}(r:Vals xs us):xs.length=us.length:=Paired.length r
theorem Vals.get:∀{xs:List V} {us:List Value} {i:Nat} {x:V},Vals xs us->xs[i]? = some x->∃u,us[i]? = some u/\RelV x u
 |_,_,_,_,.nil,e=>by simp at e
 |_,_,0,_,.cons r _,e=>by simp at e;subst e;exact⟨_,rfl,r⟩
 |_,_,i+1,x,.cons _ t,e=>by
  obtain⟨u,h1,h2⟩:=Vals.get (i:=i) (x:=x) t (by simpa using e);exact⟨u,by simpa using h1,h2⟩
theorem Vals.append:∀{xs ys:List V} {us ws:List Value},Vals xs us->Vals ys ws->Vals (xs++ys) (us++ws)
 |_,_,_,_,.nil,s=>s
 |_,_,_,_,.cons r t,s=>.cons r (Vals.append t s)
theorem Vals.take:∀{xs:List V} {us:List Value} (n:Nat),Vals xs us->Vals (xs.take n) (us.take n)
 |_,_,0,_=>.nil
 |_,_,_+1,.nil=>.nil
 |_,_,n+1,.cons r t=>.cons r (Vals.take n t)
theorem Vals.drop:∀{xs:List V} {us:List Value} (n:Nat),Vals xs us->Vals (xs.drop n) (us.drop n)
 |_,_,0,r=>r
 |_,_,_+1,.nil=>.nil
 |_,_,n+1,.cons _ t=>Vals.drop n t
def RelO:Option V->Option Value->Prop
 |some v,some u=>RelV v u
 |none,none=>True
 |_,_=>False
def KV{κ:Type}:List (κ × V)->List (κ × Value)->Prop:=Paired fun(p:κ × V) (q:κ × Value)=>p.1=q.1/\RelV p.2 q.2
noncomputable def kV:ak->V
 |.inl i=>.int i
 |.inr x=>.str x
inductive HO where
 |lst (xs:List V)
 |tup (xs:List V)
 |dK (kvs:List (ak×V))|dT (kvs:List (List ak×V))
 |set (S:Int->Bool) (n:Nat)
 |ins (C dx:Addr) (fs:List (Str×V))
 |own (x:Addr)
 |xd (fs:List (Str×V))
 |met (f x:Addr)
 |rng (lo hi:Int)
 |frz (o:Obj) (u:HO)
 |tbl (ps:Array Value)
 |ext (φ:Heap->Prop)
abbrev Hp:=Addr->Option HO
noncomputable def upd(H:Hp)(a:Addr)(o:HO):Hp:=fun b=>if b=a then some o else H b
theorem al{H:Hp}{a:Addr}{o:HO}:upd H a o a=some o:=by unfold upd;rw[if_pos rfl]
theorem ap{H:Hp}{a b:Addr}{o:HO}(h:b≠a):upd H a o b=H b:=by unfold upd;rw[if_neg h]
theorem zR{H:Hp}{a b:Addr}{o u:HO}(h:H a=some o)(h':H b=some u)(d:o≠u):a≠b:=by
 intro e;subst e;rw[h]at h';exact d (Option.some.inj h')
theorem aK{H:Hp}{a b:Addr}{o:HO}(h:H a=some o)(h':H b=none):a≠b:=by
 intro e;subst e;rw[h]at h';cases h'
section
variable(P:Program)(w:World)
def NoDi(h:Heap)(a:Addr):Prop:=∃o,h.get? a=some o/\o.dict=none
theorem NoDi.new(h:Heap)(o:Obj)(e:o.dict=none:=by rfl)(f:o.isFreed=false:=by rfl):NoDi (h.push o) h.objs.size:=⟨o,Heap.get?_push_size h f,e⟩
def ObjOk(H:Hp)(h:Heap)(a:Addr):HO->Prop
 |.lst xs=>xs.length<=sizeLine/\∃(its:List Value) (n:Nat),Vals xs its/\h.get? a=some { cls:=.type "list",data:=.seq its.toArray n }
 |.tup xs=>xs.length<=sizeLine/\∃its:List Value,Vals xs its/\IsTup h a its.toArray/\NoDi h a
 |.dK kvs=>kvs.length<=sizeLine/\(a==sysModules)=false/\∃vs,KV kvs vs/\h.DictOf (aM P w) a vs
 |.dT kvs=>kvs.length<=sizeLine/\(a==sysModules)=false/\∃xs:List (List ak×Addr×Value),
   Paired (fun(p:List ak×V) (q:List ak×Addr×Value)=>p.1=q.1/\H q.2.1=some (.tup (p.1.map kV))/\RelV p.2 q.2.2) kvs xs /\
   ∃o es ep,h.get? a=some o/\o.ExactDict/\o.data=.dict es ep/\es.toList=xs.map (entryOfKey (tupleKind (aM P w)))/\(xs.map (·.1)).Nodup
 |.set S n=>h.SetOf (intKind P w) a S n
 |.ins C dx fs=>H dx=some (.own a)/\fs.length<=1000/\dx≠a/\h.get? a=some (PySem.W.instObj C dx) /\
   ∃mA,h.Ns1 dx mA/\(∀f,RelO (fs.lookup f) (mA f))/\PySem.Within mA (fs.map (·.1))
 |.own _=>∃o,h.get? a=some o
 |.xd fs=>∃mA,h.Ns1 a mA/\∀f,RelO (fs.lookup f) (mA f)
 |.rng lo hi=>∃t u v,h.get? a=some { cls:=.type "range",data:=.fields #[.int lo t,.int hi u,.int 1 v] }
 |.frz o u=>h.get? a=some o/\ObjOk H h a u
 |.tbl ps=>h.get? a=some { cls:=.none,data:=.fields ps }
 |.met f x=>h.get? a=some (PySem.W.methodObj (.ref f) (.ref x))
 |.ext φ=>φ h/\(∃o,h.get? a=some o)/\∀h1 h2:Heap,φ h1->(∀o,h1.get? a=some o->h2.get? a=some o) -> φ h2
def HOk(H:Hp)(h:Heap):Prop:=∀a o,H a=some o->ObjOk P w H h a o
end
section
variable{P:Program}{w:World}{H H':Hp}{h h':Heap}{a:Addr}{o:HO}
theorem ObjOk.lt(x:ObjOk P w H h a o):a<h.objs.size:=by
 cases o with
 |lst xs=>obtain⟨_,_,_,_,e⟩:=x;exact Heap.lt_size e
 |tup xs=>obtain⟨_,_,_,p⟩:=x;exact p.1.lt
 |dK kvs=>obtain⟨_,_,_,_,o,_,_,e,_⟩:=x;exact Heap.lt_size e
 |dT kvs=>obtain⟨_,_,_,_,o,_,_,e,_⟩:=x;exact Heap.lt_size e
 |set S n=>obtain⟨o,_,_,_,e,_⟩:=x;exact Heap.lt_size e
 |ins C dx fs=>obtain⟨_,_,_,e,_⟩:=x;exact Heap.lt_size e
 |own y=>obtain⟨_,e⟩:=x;exact Heap.lt_size e
 |xd fs=>obtain⟨_,⟨_,_,_,e,_⟩,_⟩:=x;exact Heap.lt_size e
 |rng lo hi=>obtain⟨_,_,_,e⟩:=x;exact Heap.lt_size e
 |frz ob u=>obtain⟨e,_⟩:=x;exact Heap.lt_size e
 |tbl ps=>exact Heap.lt_size (show h.get? a=some _ from x)
 |met f y=>exact Heap.lt_size (show h.get? a=some _ from x)
 |ext φ=>obtain⟨_,⟨_,e⟩,_⟩:=x;exact Heap.lt_size e
theorem Paired.mapP{α β:Type}{F G:α -> β -> Prop}:∀{l₁:List α} {l₂:List β},Paired F l₁ l₂ -> (∀a b,F a b->G a b)->Paired G l₁ l₂
 |_,_,.nil,_=>.nil
 |_,_,.cons r t,f=>.cons (f _ _ r) (Paired.mapP t f)
theorem ObjOk.stay(x:ObjOk P w H h a o)(k:∀b u,(b=a\/H b=some (.own a))->h.get? b=some u->h'.get? b=some u)
  (ho:∀b,H b=some (.own a)->H' b=some (.own a)) (ht:∀b xs,H b=some (.tup xs)->H' b=some (.tup xs)):ObjOk P w H' h' a o:=by
 induction o with
 |lst xs=>obtain⟨z,its,n,r,e⟩:=x;exact⟨z,its,n,r,k _ _ (.inl rfl) e⟩
 |tup xs=>obtain⟨z,its,r,⟨ob,e,c⟩,od,e',c'⟩:=x;exact⟨z,its,r,⟨ob,k _ _ (.inl rfl) e,c⟩,od,k _ _ (.inl rfl) e',c'⟩
 |dK kvs=>obtain⟨z,y,vs,r,ob,es,ep,e,c⟩:=x;exact⟨z,y,vs,r,ob,es,ep,k _ _ (.inl rfl) e,c⟩
 |dT kvs=>
  obtain⟨z,y,xs,r,ob,es,ep,e,c⟩:=x;exact⟨z,y,xs,Paired.mapP r fun p q z=>⟨z.1,ht _ _ z.2.1,z.2.2⟩,ob,es,ep,k _ _ (.inl rfl) e,c⟩
 |set S n=>obtain⟨ob,es,ep,t,e,c⟩:=x;exact⟨ob,es,ep,t,k _ _ (.inl rfl) e,c⟩
 |ins C dx fs=>
  obtain⟨d,z,ne,e,mA,⟨od,es,ep,e2,c⟩,r⟩:=x;exact⟨ho _ d,z,ne,k _ _ (.inl rfl) e,mA,⟨od,es,ep,k _ _ (.inr d) e2,c⟩,r⟩
 |own y=>obtain⟨ob,e⟩:=x;exact⟨ob,k _ _ (.inl rfl) e⟩
 |xd fs=>obtain⟨mA,⟨od,es,ep,e,c⟩,r⟩:=x;exact⟨mA,⟨od,es,ep,k _ _ (.inl rfl) e,c⟩,r⟩
 |rng lo hi=>obtain⟨t,u,v,e⟩:=x;exact⟨t,u,v,k _ _ (.inl rfl) e⟩
 |frz ob u ih=>obtain⟨e,q⟩:=x;exact⟨k _ _ (.inl rfl) e,ih q⟩
 |tbl ps=>
  have e:h.get? a=some { cls:=.none,data:=.fields ps }:=x;show h'.get? a=some { cls:=.none,data:=.fields ps };exact k a _ (.inl rfl) e
 |met f y=>
  have e:h.get? a=some (PySem.W.methodObj (.ref f) (.ref y)):=x;show h'.get? a=some (PySem.W.methodObj (.ref f) (.ref y));exact k a _ (.inl rfl) e
 |ext φ=>obtain⟨p,⟨o,e⟩,st⟩:=x;exact⟨st _ _ p fun o q=>k _ _ (.inl rfl) q,⟨o,k _ _ (.inl rfl) e⟩,st⟩
theorem HOk.lt(x:HOk P w H h)(e:H a=some o):a<h.objs.size:=(x a o e).lt
theorem HOk.fresh(x:HOk P w H h)(e:h.objs.size<=a):H a=none:=by
 cases q:H a with
 |none=>rfl
 |some u=>exact absurd (Nat.lt_of_lt_of_le (x.lt q) e) (Nat.lt_irrefl _)
theorem HOk.kept(x:HOk P w H h)(k:∀b u,h.get? b=some u->h'.get? b=some u):HOk P w H h':=fun a o e=>
 (x a o e).stay (fun b u _ q=>k b u q) (fun _ q=>q) fun _ _ q=>q
theorem HOk.laid(x:HOk P w H h)(k:∀b u,h.get? b=some u->h'.get? b=some u)(hp:h.objs.size<=a)(new:ObjOk P w (upd H a o) h' a o):HOk P w (upd H a o) h':=fun b u e=>by
 have hn:=x.fresh hp;by_cases hb:b=a
 ·subst hb;rw[al]at e;cases e;exact new
 ·rw[ap hb]at e
  exact(x b u e).stay (fun c v _ q=>k c v q) (fun c q=>by rw[ap (aK q hn)];exact q) fun c xs q=>by rw[ap (aK q hn)];exact q
end
def Rd(H:Hp)(a:Addr)(u:HO):Prop:=H a=some u\/∃o,H a=some (.frz o u)
theorem Rd.ok{P:Program}{w:World}{H:Hp}{h:Heap}{a:Addr}{u:HO}(r:Rd H a u)(x:HOk P w H h):ObjOk P w H h a u:=by
 rcases r with r|⟨o,r⟩
 ·exact x a u r
 ·obtain⟨_,q⟩:=x a _ r
  exact q
def AT:Option HO->Prop
 |some (.lst _)=>True
 |some (.dK _)=>True
 |some (.dT _)=>True
 |some (.set _ _)=>True
 |some (.ins _ _ _)=>True
 |some (.ext _)=>True
 |_=>False
section
variable{P:Program}{w:World}{H:Hp}{h h':Heap}{x e:Addr}{o':HO}
theorem HOk.write(ok:HOk P w H h)(mu:AT (H x))(he:e=x\/H e=some (.own x))(k:∀b u,b≠e->h.get? b=some u->h'.get? b=some u)(heo:∃u,h'.get? e=some u)
  (new:ObjOk P w (upd H x o') h' x o'):HOk P w (upd H x o') h':=fun b u q=>by
 have nown:∀c y,H c=some (.own y)->c≠x:=fun c y r z=>by subst z;rw[r]at mu;exact mu
 have ntup:∀c xs,H c=some (.tup xs)->c≠x:=fun c xs r z=>by subst z;rw[r]at mu;exact mu
 by_cases hb:b=x
 ·subst hb;rw[al]at q;cases q;exact new
 ·rw[ap hb]at q
  by_cases hbe:b=e
  ·have q':H b=some (.own x):=by
    rcases he with z|z
    ·exact absurd (hbe.trans z) hb
    ·rw[hbe];exact z
   rw[q]at q';cases q';obtain⟨v,hv⟩:=heo;exact⟨v,by rw[hbe];exact hv⟩
  ·refine(ok b u q).stay (fun c v hc r=>k c v ?_ r) (fun c r=>by rw[ap (nown c b r)];exact r) fun c xs r=>by rw[ap (ntup c xs r)];exact r
   rcases hc with rfl|hc
   ·exact hbe
   ·rintro rfl
    rcases he with z|z
    ·exact nown c b hc z
    ·rw[hc]at z;cases z;exact hb rfl
end
structure Un (fs ex:List Addr) (H H':Hp) (h h':Heap):Prop where
 keep:∀b o,h.get? b=some o->H b=none->b ∉ fs->b ∉ ex->h'.get? b=some o
 slot:∀b o,h.get? b=some o->H b=none->b∈fs->b ∉ ex->∃sl,h'.get? b=some { o with slots:=sl }
 free:∀b o,h.get? b=some o->H b=none->b ∉ ex->H' b=none
 there:∀b o,h.get? b=some o->b ∉ ex->∃o',h'.get? b=some o'
 tups:∀b xs,H b=some (.tup xs)->H' b=some (.tup xs)
 frzs:∀b o u,H b=some (.frz o u)->H' b=some (.frz o u)
 tbls:∀b ps,H b=some (.tbl ps)->∃more,H' b=some (.tbl (ps++more))
section
variable{fs fs' ex ex':List Addr}{H H1 H2:Hp}{h h1 h2 h':Heap}{a x e:Addr}{o:HO}
theorem Un.any(u:Un fs ex H H1 h h1){b:Addr}{ob:Obj}(q:h.get? b=some ob)(n:H b=none)(hx:b ∉ ex):∃sl,h1.get? b=some { ob with slots:=sl }:=by
 by_cases hb:b∈fs
 ·exact u.slot b ob q n hb hx
 ·exact⟨ob.slots,u.keep b ob q n hb hx⟩
theorem Un.kept(k:∀b u,h.get? b=some u->h'.get? b=some u):Un fs ex H H h h':=
 ⟨fun b ob q _ _ _=>k b ob q,fun b ob q _ _ _=>⟨ob.slots,k b ob q⟩,fun _ _ _ n _=>n,fun b ob q _=>⟨ob,k b ob q⟩,fun _ _ q=>q,fun _ _ _ q=>q,fun _ ps q=>⟨#[],by rw[q];simp⟩⟩
theorem Un.refl:Un fs ex H H h h:=Un.kept fun _ _ q=>q
theorem Un.laid(k:∀b u,h.get? b=some u->h'.get? b=some u)(hp:h.objs.size<=a)(hn:H a=none):Un fs ex H (upd H a o) h h' where
 keep:=fun b u q _ _ _=>k b u q
 slot:=fun b u q _ _ _=>⟨u.slots,k b u q⟩
 free:=fun b u q n _=>by rw[ap (Nat.ne_of_lt (Nat.lt_of_lt_of_le (Heap.lt_size q) hp))];exact n
 there:=fun b u q _=>⟨u,k b u q⟩
 tups:=fun b xs q=>by rw[ap (aK q hn)];exact q
 frzs:=fun b u xs q=>by rw[ap (aK q hn)];exact q
 tbls:=fun b ps q=>⟨#[],by rw[ap (aK q hn),q];simp⟩
theorem Un.write(mu:AT (H x))(he:e=x\/H e=some (.own x))(k:∀b u,b≠e->h.get? b=some u->h'.get? b=some u)(heo:∃u,h'.get? e=some u):Un fs ex H (upd H x o) h h':=by
 have hx:∀b,H b=none->b≠x:=fun b n z=>by subst z;rw[n]at mu;exact mu
 have hb:∀b,H b=none->b≠e:=fun b n z=>by
  subst z;rcases he with r|r
  ·exact hx b n r
  ·rw[n]at r;cases r
 have hm:∀b u,H b=some u->¬AT (some u)->b≠x:=fun b u q nm z=>by subst z;rw[q]at mu;exact nm mu
 refine⟨fun b u q n _ _=>k b u (hb b n) q,fun b u q n _ _=>⟨u.slots,k b u (hb b n) q⟩,fun b u q n _=>by rw[ap (hx b n)];exact n,fun b u q _=>?_,
  fun b xs q=>by rw[ap (hm b _ q fun z=>z)];exact q,fun b u xs q=>by rw[ap (hm b _ q fun z=>z)];exact q,fun b ps q=>⟨#[],by rw[ap (hm b _ q fun z=>z),q];simp⟩⟩
 by_cases hbe:b=e
 ·subst hbe;exact heo
 ·exact⟨u,k b u hbe q⟩
end
noncomputable def AY(h:Heap)(H:Hp):List Addr:=(List.range h.objs.size).filter fun a=>(H a).isSome
noncomputable def kH(h:Heap)(H:Hp):Heap:=PySem.W.hideAll h (AY h H)
theorem qO(h:Heap)(H:Hp):(kH h H).objs.size=h.objs.size:=PySem.W.hideAll_size _ _
theorem sR{h:Heap}{H:Hp}{b:Addr}{o:Obj}(e:h.get? b=some o)(n:H b=none):(kH h H).get? b=some o:=
 PySem.W.hideAll_get _ e fun hm=>by
  have q:(H b).isSome=true:=(List.mem_filter.mp hm).2;rw[n]at q;simp at q
theorem uX{h:Heap}{H:Hp}{b:Addr}{o:Obj}(e:(kH h H).get? b=some o):h.get? b=some o/\H b=none:=by
 have e':h.get? b=some o:=PySem.W.of_hideAll (AY h H) e;refine⟨e',?_⟩;cases q:H b with
 |none=>rfl
 |some x=>
  have hm:b∈AY h H:=List.mem_filter.mpr ⟨List.mem_range.mpr (Heap.lt_size e'),by simp[q]⟩;have z:(kH h H).get? b=none:=PySem.W.hideAll_none (AY h H) hm;rw[z]at e;cases e
noncomputable def vO(g h:Heap)(L:Addr):List (Addr×Obj):=(List.range h.objs.size).filterMap fun a=>if a=L\/(g.get? a).isSome=true then none else(h.get? a).map fun o=>(a,o)
noncomputable def rest(g h:Heap)(L d:Addr):List (Addr×Obj):=(vO g h L).filter fun p=>decide (p.1≠d)
structure Mod (K:PySem.W.Frag) (mg:Str->Option Value) (base:Heap):Prop where
 kin:K.In base
 glob:base.Ns mainGlobals mg
 blt:∃mb,base.Ns builtinsNs mb/\∀x:Str,x ≠ "__name__" -> mb x=bootBuiltins x
 nolimit:base.NoLimit
structure Cx where
 prog:Program
 w:World
 K:PySem.W.Frag
 mg:Str->Option Value
 base:Heap
 A:Around
 N:List Str
 s₀:Shared
 H₀:Hp
 env:Env
 outer:List Env
 stack:List Env
 ex:List Addr
 fn:Str->Bool
 calm:Bool
 pn:List (Addr×Obj)
 xe:Value->Shared->Prop
noncomputable def pq(l:List Env):List Addr:=l.filterMap (·.frame)
abbrev Cx.fs(X:Cx):List Addr:=pq X.outer
def wz(sc:Scope)(x:Str):Prop:=sc.names.lookup x=some .local\/sc.names.lookup x=some .cell\/sc.names.lookup x=some .free
def rh(sc:Scope)(x:Str):Prop:=sc.names.lookup x=some .local\/sc.names.lookup x=some .cell
def Cv(env:Env)(h:Heap)(m:Str->Option Value)(x:Str)(u:Value):Prop:=
 (env.kindOf x=some .local/\m x=some u)\/((env.kindOf x=some .cell\/env.kindOf x=some .free)/\∃c,env.cells.lookup x=some c/\h.IsCell c (some u))
structure Cx.Ok (X:Cx):Prop where
 mod:Mod X.K X.mg X.base
 kind:X.env.scope.kind=.function
 glob:X.env.globals=mainGlobals
 blt:X.env.builtins=builtinsNs
 above:X.s₀.heap.objs.size<=X.env.locals
 inj:∀x y c,X.env.cells.lookup x=some c->X.env.cells.lookup y=some c->x=y
 has:∀x,(X.env.kindOf x=some .cell\/X.env.kindOf x=some .free)->∃c,X.env.cells.lookup x=some c
 cab:∀x c,X.fn x=true->X.env.cells.lookup x=some c->X.s₀.heap.objs.size<=c
 hd:X.calm=true->X.A.handled=none
 frames:X.A.frames=some X.stack
 stk:X.stack=X.outer\/(X.stack=X.env::X.outer/\X.env.frame=some X.env.locals)
 exf:∀b∈X.ex,b≠X.env.locals/\∀x c,X.env.cells.lookup x=some c->c≠b
 bs:∀b o,X.base.get? b=some o->X.s₀.heap.get? b=some o/\X.H₀ b=none
 bsz:X.base.objs.size<=X.s₀.heap.objs.size
 noex:∀b o,X.base.get? b=some o->b ∉ X.ex
 exfs:∀b∈X.ex,b ∉ X.fs
 funs:X.s₀.heap.FunFrames X.base X.outer
 frf:∀b∈X.fs,X.H₀ b=none
structure Inv (X:Cx) (pins:List (Addr×Obj)) (σ:List (Option V)) (H:Hp) (s:Shared):Prop where
 ok:X.Ok
 os:s.os=X.s₀.os
 bare:AllBare s.gens
 base:Un X.fs X.ex X.H₀ H X.s₀.heap s.heap
 loc:∃m,s.heap.Ns X.env.locals m/\∀(i:Nat) (x:Str) (v:V),X.N[i]? = some x -> σ[i]? = some (some v)->wz X.env.scope x->∃u,RelV v u/\Cv X.env s.heap m x u
 cell:∀x c,X.env.cells.lookup x=some c->∃v,s.heap.IsCell c v
 free:H X.env.locals=none
 freeC:∀x c,X.env.cells.lookup x=some c->H c=none
 pin:∀p∈X.pn++pins,s.heap.get? p.1=some p.2/\H p.1=none/\p.1≠X.env.locals/\p.1 ∉ X.fs/\∀v,p.2.data≠.cell v
 hok:HOk X.prog X.w H s.heap
 len:σ.length=X.N.length
section
variable{X:Cx}{pins:List (Addr×Obj)}{σ:List (Option V)}{H H':Hp}{s:Shared}{h':Heap}
theorem Cx.Ok.nofr(ok:X.Ok){b:Addr}{o:Obj}(e:X.base.get? b=some o):b ∉ X.fs:=fun hb=>by
 have:=(ok.funs.mem hb).1;rw[e]at this;cases this
theorem Inv.bs(I:Inv X pins σ H s):∀b o,X.base.get? b=some o->s.heap.get? b=some o/\H b=none:=fun b o e=>
 ⟨I.base.keep b o (I.ok.bs b o e).1 (I.ok.bs b o e).2 (I.ok.nofr e) (I.ok.noex b o e),I.base.free b o (I.ok.bs b o e).1 (I.ok.bs b o e).2 (I.ok.noex b o e)⟩
theorem Inv.bk(I:Inv X pins σ H s):∀b o,X.base.get? b=some o->s.heap.get? b=some o:=fun b o e=>(I.bs b o e).1
theorem Inv.mod(I:Inv X pins σ H s):Mod X.K X.mg X.base:=I.ok.mod
theorem Inv.kIn(I:Inv X pins σ H s):X.K.In s.heap:=I.ok.mod.kin.keeps I.bk
theorem Inv.fr(I:Inv X pins σ H s):∃m,Fr X.base X.env.locals s.heap m:=
 let ⟨m,hn,_⟩:=I.loc
 ⟨m,hn,I.bk,Nat.le_trans I.ok.bsz I.ok.above⟩
theorem Inv.lt(I:Inv X pins σ H s):X.env.locals<s.heap.objs.size:=let ⟨_,hn,_⟩:=I.loc;hn.lt
theorem Inv.sz(I:Inv X pins σ H s):X.s₀.heap.objs.size<=s.heap.objs.size:=Nat.le_trans I.ok.above (Nat.le_of_lt I.lt)
theorem Inv.nofs(I:Inv X pins σ H s){a:Addr}(h:s.heap.objs.size<=a):a ∉ X.fs:=fun hb=>by
 obtain⟨_,o,ho,_⟩:=I.ok.funs.mem hb;exact absurd (Nat.lt_of_lt_of_le (Heap.lt_size ho) (Nat.le_trans I.sz h)) (Nat.lt_irrefl _)
theorem Inv.cne(I:Inv X pins σ H s):∀x c,X.env.cells.lookup x=some c->c≠X.env.locals:=fun x c e z=>by
 obtain⟨v,o,ho,hd⟩:=I.cell x c e;obtain⟨m,⟨o',es,ep,ho',hd',_⟩,_⟩:=I.loc;rw[z,ho']at ho;cases ho;rw[hd']at hd;cases hd
theorem Inv.funs(I:Inv X pins σ H s):s.heap.FunFrames X.base X.outer:=by
 have all:∀(l:List Env),(∀b∈pq l,b∈X.fs)->X.s₀.heap.FunFrames X.base l->s.heap.FunFrames X.base l:=by
  intro l
  induction l with
  |nil=>intro _ _;trivial
  |cons env r ih=>
   intro hs hl;obtain⟨hk,⟨L,o,hf,hn,ho,hd⟩,hr⟩:=hl;have hL:L∈X.fs:=hs L (by unfold pq;rw[List.filterMap_cons,hf];exact List.mem_cons_self);obtain⟨sl,e⟩:=I.base.slot L o ho (I.ok.frf L hL) hL fun z=>I.ok.exfs L z hL
   exact⟨hk,⟨L,_,hf,hn,e,hd⟩,ih (fun b hb=>hs b (by unfold pq;rw[List.filterMap_cons,hf];exact List.mem_cons_of_mem _ hb)) hr⟩
 exact all X.outer (fun _ hb=>hb) I.ok.funs
theorem Inv.stack(I:Inv X pins σ H s):s.heap.FunFrames X.base X.stack:=by
 rcases I.ok.stk with e|⟨e,hf⟩
 ·rw[e];exact I.funs
 ·rw[e]
  obtain⟨m,hn,_⟩:=I.loc;refine .cons (by rw[I.ok.kind];decide) hf hn ?_ I.funs;exact Heap.get?_none_of_le (Nat.le_trans I.ok.bsz I.ok.above)
theorem Inv.stkSub(I:Inv X pins σ H s):∀b∈pq X.stack,b∈X.env.locals::X.fs:=fun b hb=>by
 rcases I.ok.stk with e|⟨e,hf⟩
 ·rw[e]at hb;exact List.mem_cons_of_mem _ hb
 ·rw[e]at hb
  unfold pq at hb;rw[List.filterMap_cons,hf]at hb;exact hb
theorem Inv.stkFree(I:Inv X pins σ H s):∀b∈pq X.stack,H b=none:=fun b hb=>by
 rcases List.mem_cons.mp (I.stkSub b hb)with e|hb
 ·rw[e];exact I.free
 ·obtain⟨_,o,ho,_⟩:=I.ok.funs.mem hb
  exact I.base.free b o ho (I.ok.frf b hb) fun z=>I.ok.exfs b z hb
theorem Inv.step{g':Array GenState}{t':Nat}{d':Drawn}{ch:List Addr}(I:Inv X pins σ H s)
  (hch:∀b∈ch,(b∈X.ex\/X.s₀.heap.objs.size<=b)/\b≠X.env.locals/\(∀x c,X.env.cells.lookup x=some c->c≠b)/\∀p∈X.pn++pins,p.1≠b)
  (keep:∀b o,b≠X.env.locals->b ∉ X.fs->b ∉ ch->s.heap.get? b=some o->H b=none->h'.get? b=some o)
  (slot:∀b o,b≠X.env.locals->b∈X.fs->b ∉ ch->s.heap.get? b=some o->H b=none->∃sl,h'.get? b=some { o with slots:=sl }) (free:∀b o,b ∉ ch->s.heap.get? b=some o->H b=none->H' b=none)
  (there:∀b o,b ∉ ch->s.heap.get? b=some o->∃o',h'.get? b=some o')
  (tups:∀b xs,H b=some (.tup xs)->H' b=some (.tup xs)) (frzs:∀b o u,H b=some (.frz o u)->H' b=some (.frz o u)) (tbls:∀b ps,H b=some (.tbl ps)->∃more,H' b=some (.tbl (ps++more)))
  (ns:∀m,s.heap.Ns X.env.locals m->h'.Ns X.env.locals m) (hok:HOk X.prog X.w H' h') (hg:AllBare g') :
  Inv X pins σ H' { s with heap:=h',gens:=g',drawn:=d',toks:=t' }:=by
 have neL:∀b o,X.s₀.heap.get? b=some o->b≠X.env.locals:=fun b o e=>Nat.ne_of_lt (Nat.lt_of_lt_of_le (Heap.lt_size e) I.ok.above)
 have neC:∀b o,X.s₀.heap.get? b=some o->b ∉ X.ex->b ∉ ch:=fun b o e hx hb=>by
  rcases (hch b hb).1 with z|z
  ·exact hx z
  ·exact absurd (Nat.lt_of_lt_of_le (Heap.lt_size e) z) (Nat.lt_irrefl _)
 have cellK:∀x c,X.env.cells.lookup x=some c->∀v,s.heap.IsCell c v->h'.IsCell c v:=fun x c e v ⟨o,ho,hd⟩=>by
  have nch:c ∉ ch:=fun z=>(hch c z).2.2.1 x c e rfl
  by_cases hc:c∈X.fs
  ·obtain⟨sl,q⟩:=slot c o (I.cne x c e) hc nch ho (I.freeC x c e)
   exact⟨_,q,hd⟩
  ·exact⟨o,keep c o (I.cne x c e) hc nch ho (I.freeC x c e),hd⟩
 refine⟨I.ok,I.os,hg,⟨fun b o e n hb hx=>?_,fun b o e n hb hx=>?_,fun b o e n hx=>?_,fun b o e hx=>?_,fun b xs e=>tups b xs (I.base.tups b xs e),fun b o xs e=>frzs b o xs (I.base.frzs b o xs e),fun b ps e=>?_⟩,?_,fun x c e=>?_,?_,fun x c e=>?_,fun p hp=>?_,hok,I.len⟩
 ·exact keep b o (neL b o e) hb (neC b o e hx) (I.base.keep b o e n hb hx) (I.base.free b o e n hx)
 ·obtain⟨sl,e1⟩:=I.base.slot b o e n hb hx
  obtain⟨sl',e2⟩:=slot b _ (neL b o e) hb (neC b o e hx) e1 (I.base.free b o e n hx);exact⟨sl',e2⟩
 ·obtain⟨o',e1⟩:=I.base.there b o e hx
  exact free b o' (neC b o e hx) e1 (I.base.free b o e n hx)
 ·obtain⟨o',e1⟩:=I.base.there b o e hx
  exact there b o' (neC b o e hx) e1
 ·obtain⟨m1,e1⟩:=I.base.tbls b ps e
  obtain⟨m2,e2⟩:=tbls b _ e1;exact⟨m1++m2,by rw[e2,Array.append_assoc]⟩
 ·obtain⟨m,hn,hl⟩:=I.loc
  refine⟨m,ns m hn,fun i x v e1 e2 e3=>?_⟩
  obtain⟨u,r,l⟩:=hl i x v e1 e2 e3;refine⟨u,r,?_⟩;rcases l with l|⟨k,c,e,z⟩
  ·exact .inl l
  ·exact .inr ⟨k,c,e,cellK x c e _ z⟩
 ·obtain⟨v,z⟩:=I.cell x c e
  exact⟨v,cellK x c e v z⟩
 ·obtain⟨m,⟨o,_,_,ho,_⟩,_⟩:=I.loc
  exact free _ o (fun z=>(hch _ z).2.1 rfl) ho I.free
 ·obtain⟨v,o,ho,hd⟩:=I.cell x c e
  exact free c o (fun z=>(hch c z).2.2.1 x c e rfl) ho (I.freeC x c e)
 ·obtain⟨e,n,ne,nf,d⟩:=I.pin p hp
  have nch:p.1 ∉ ch:=fun z=>(hch p.1 z).2.2.2 p hp rfl
  exact⟨keep p.1 p.2 ne nf nch e n,free p.1 p.2 nch e n,ne,nf,d⟩
theorem Inv.un{t':Nat}(I:Inv X pins σ H s)(u:Un X.fs [] H H' s.heap h')(hok:HOk X.prog X.w H' h'):Inv X pins σ H' { s with heap:=h',toks:=t' }:=by
 obtain⟨m,⟨o,es,ep,ho,r⟩,_⟩:=id I.loc;obtain⟨sl,hL⟩:=u.any ho I.free (by simp);exact I.step (g':=s.gens) (d':=s.drawn) (ch:=[]) (fun _ z=>nomatch z) (fun b o _ hb _ e n=>u.keep b o e n hb (by simp)) (fun b o _ hb _ e n=>u.slot b o e n hb (by simp)) (fun b o _ e n=>u.free b o e n (by simp)) (fun b o _ e=>u.there b o e (by simp)) u.tups u.frzs u.tbls (fun m' hm=>by
  obtain⟨o',es',ep',ho',r'⟩:=hm;rw[ho]at ho';cases ho';exact⟨_,es',ep',hL,r'⟩) hok I.bare
theorem Inv.call{g':Array GenState}{t':Nat}{d':Drawn}{ch:List Addr}(I:Inv X pins σ H s)(u:Un (pq X.stack) ch H H' s.heap h')(hok:HOk X.prog X.w H' h')(hg:AllBare g')
  (hch:∀b∈ch,(b∈X.ex\/X.s₀.heap.objs.size<=b)/\b≠X.env.locals/\(∀x c,X.env.cells.lookup x=some c->c≠b)/\∀p∈X.pn++pins,p.1≠b) :
  Inv X pins σ H' { s with heap:=h',gens:=g',drawn:=d',toks:=t' }:=by
 obtain⟨m,⟨o,es,ep,ho,r⟩,_⟩:=id I.loc;obtain⟨sl,hL⟩:=u.any ho I.free fun z=>(hch _ z).2.1 rfl
 exact I.step (ch:=ch) hch (fun b o hL hb hc e n=>u.keep b o e n (fun z=>(List.mem_cons.mp (I.stkSub b z)).elim hL hb) hc) (fun b o _ _ hc e n=>u.any e n hc) (fun b o hc e n=>u.free b o e n hc) (fun b o hc e=>u.there b o e hc) u.tups u.frzs u.tbls (fun m' hm=>by
  obtain⟨o',es',ep',ho',r'⟩:=hm;rw[ho]at ho';cases ho';exact⟨_,es',ep',hL,r'⟩) hok hg
theorem Inv.turned{t':Nat}{it:Addr}(I:Inv X pins σ H s)(k:∀b o,b≠it->s.heap.get? b=some o->h'.get? b=some o)(hn:H it=none)(hL:it≠X.env.locals)
  (h1:it∈X.ex\/X.s₀.heap.objs.size<=it) (h2:∀x c,X.env.cells.lookup x=some c->c≠it) (h3:∀p∈X.pn++pins,p.1≠it):Inv X pins σ H { s with heap:=h',toks:=t' }:=by
 have nit:∀b u,H b=some u->b≠it:=fun b u e z=>by rw[z,hn]at e;cases e
 refine I.step (g':=s.gens) (d':=s.drawn) (ch:=[it]) (fun b hb=>?_) (fun b o _ _ hc e _=>k b o (fun z=>hc (by simp[z])) e) (fun b o _ _ hc e _=>⟨o.slots,k b o (fun z=>hc (by simp[z])) e⟩) (fun _ _ _ _ n=>n)
  (fun b o hc e=>⟨o,k b o (fun z=>hc (by simp[z])) e⟩) (fun _ _ e=>e) (fun _ _ _ e=>e) (fun b ps e=>⟨#[],by rw[e];simp⟩) (fun m hm=>?_) (fun b u e=>?_) I.bare
 ·have e:b=it:=by simpa using hb
  subst e;exact⟨h1,hL,h2,h3⟩
 ·obtain⟨o,es,ep,ho,r⟩:=hm
  exact⟨o,es,ep,k _ o (Ne.symm hL) ho,r⟩
 ·refine(I.hok b u e).stay (fun c v hc q=>k c v ?_ q) (fun _ q=>q) fun _ _ q=>q
  rcases hc with z|z
  ·rw[z];exact nit b u e
  ·exact nit c _ z
theorem Inv.tok(I:Inv X pins σ H s)(t:Nat):Inv X pins σ H { s with toks:=t }:=I.un (h':=s.heap) (t':=t) Un.refl I.hok
theorem Inv.kept{t':Nat}(I:Inv X pins σ H s)(k:∀b u,s.heap.get? b=some u->h'.get? b=some u):Inv X pins σ H { s with heap:=h',toks:=t' }:=I.un (Un.kept k) (I.hok.kept k)
theorem Inv.laid{a:Addr}{o:HO}{t':Nat}(I:Inv X pins σ H s)(k:∀b u,s.heap.get? b=some u->h'.get? b=some u)(hp:s.heap.objs.size<=a)(new:ObjOk X.prog X.w (upd H a o) h' a o):
  Inv X pins σ (upd H a o) { s with heap:=h',toks:=t' }:=I.un (Un.laid k hp (I.hok.fresh hp)) (I.hok.laid k hp new)
theorem Inv.write{x e:Addr}{o:HO}{t':Nat}(I:Inv X pins σ H s)(mu:AT (H x))(he:e=x\/H e=some (.own x))(k:∀b u,b≠e->s.heap.get? b=some u->h'.get? b=some u)(heo:∃u,h'.get? e=some u)
  (new:ObjOk X.prog X.w (upd H x o) h' x o):Inv X pins σ (upd H x o) { s with heap:=h',toks:=t' }:=I.un (Un.write mu he k heo) (I.hok.write mu he k heo new)
theorem Inv.weak{σ':List (Option V)}(I:Inv X pins σ H s)(hl:σ'.length = σ.length)(w:∀(i:Nat) v,σ'[i]? = some (some v) -> σ[i]? = some (some v)):Inv X pins σ' H s:=
 ⟨I.ok,I.os,I.bare,I.base,let ⟨m,hn,hl'⟩:=I.loc; ⟨m,hn,fun i x v e1 e2 e3=>hl' i x v e1 (w i v e2) e3⟩,I.cell,I.free,I.freeC,I.pin,I.hok,hl.trans I.len⟩
theorem Inv.pins_of{pins':List (Addr×Obj)}(I:Inv X pins σ H s)(h:∀p∈pins',s.heap.get? p.1=some p.2/\H p.1=none/\p.1≠X.env.locals/\p.1 ∉ X.fs/\∀v,p.2.data≠.cell v):Inv X pins' σ H s:=
 ⟨I.ok,I.os,I.bare,I.base,I.loc,I.cell,I.free,I.freeC,fun p hp=>(List.mem_append.mp hp).elim (fun z=>I.pin p (List.mem_append_left _ z)) (h p),I.hok,I.len⟩
theorem lV{N:List Str}(hN:N.Nodup){i j:Nat}{x:Str}(a:N[i]? = some x)(b:N[j]? = some x):i=j:=by
 obtain⟨h1,e1⟩:=List.getElem?_eq_some_iff.mp a;obtain⟨h2,e2⟩:=List.getElem?_eq_some_iff.mp b;exact(List.getElem_inj hN).mp (e1.trans e2.symm)
theorem pT{M:Model}{A:Around}{E:Value->Shared->Prop}{i:Nat}{x:Str}{v:V}{u:Value}{Q:Unit->Shared->Prop}(I:Inv X pins σ H s)(hN:X.N.Nodup)(hi:X.N[i]? = some x)(hx:rh X.env.scope x)(r:RelV v u)
  (h:∀s',Inv X pins (σ.set i (some v)) H s'->(∃a,Heap.SameBut a s.heap s'.heap/\(a=X.env.locals\/X.env.cells.lookup x=some a))->Q () s') (hf:X.fn x=true\/X.env.scope.names.lookup x=some .local:=by first|exact .inl rfl|exact .inr rfl|assumption):wpAny M A (storeName X.env x u) Q E s:=by
 obtain⟨m,hn,hl⟩:=id I.loc;have hcls:(X.env.scope.kind == .class||(X.env.scope.kind == .module&&X.env.locals != X.env.globals))=false:=by rw[I.ok.kind];rfl
 have hiσ:i < σ.length:=by rw[I.len];exact(List.getElem?_eq_some_iff.mp hi).1
 have cne:=I.cne;have tracked:∀{a:Addr} {h':Heap},(∃o,s.heap.get? a=some o/\H a=none)->Heap.SameBut a s.heap h'->HOk X.prog X.w H h':=fun{a h'} ha hs b ob e=>by
  obtain⟨_,_,hfree⟩:=ha;refine(I.hok b ob e).stay (fun c w' hc q=>(hs.2 c ?_).trans q) (fun _ q=>q) fun _ _ q=>q
  rintro rfl;rcases hc with rfl|hc
  ·rw[hfree]at e;cases e
  ·rw[hfree]at hc;cases hc
 rcases hx with hk|hk
 ·refine wpAny_storeName_local hk hn (fun h' hn' hs=>?_) hcls
  obtain⟨oL,_,_,hoL,_⟩:=id hn;refine h _ ⟨I.ok,I.os,I.bare,⟨fun b o e n hb hx=>?_,fun b o e n hb hx=>?_,I.base.free,fun b o e hx=>?_,I.base.tups,I.base.frzs,I.base.tbls⟩,⟨_,hn',fun j y v' e1 e2 e3=>?_⟩,fun y c e=>?_,I.free,I.freeC,fun p hp=>?_,tracked ⟨oL,hoL,I.free⟩ hs,by simpa using I.len⟩ ⟨_,hs,.inl rfl⟩
  ·exact(hs.2 b (Nat.ne_of_lt (Nat.lt_of_lt_of_le (Heap.lt_size e) I.ok.above))).trans (I.base.keep b o e n hb hx)
  ·obtain⟨sl,e1⟩:=I.base.slot b o e n hb hx
   exact⟨sl,(hs.2 b (Nat.ne_of_lt (Nat.lt_of_lt_of_le (Heap.lt_size e) I.ok.above))).trans e1⟩
  ·obtain⟨o',e1⟩:=I.base.there b o e hx
   exact⟨o',(hs.2 b (Nat.ne_of_lt (Nat.lt_of_lt_of_le (Heap.lt_size e) I.ok.above))).trans e1⟩
  ·by_cases hj:j=i
   ·subst hj
    rw[hi]at e1;cases e1;rw[List.getElem?_set_self hiσ]at e2;cases e2;exact⟨u,r,.inl ⟨hk,by simp⟩⟩
   ·rw[List.getElem?_set_ne (Ne.symm hj)]at e2
    obtain⟨u',r',q⟩:=hl j y v' e1 e2 e3;refine⟨u',r',?_⟩;rcases q with⟨k,e⟩|⟨k,c,e,z⟩
    ·refine .inl ⟨k,?_⟩
     have:y≠x:=fun e=>hj (lV hN e1 (e ▸ hi))
     simp[this,e]
    ·exact .inr ⟨k,c,e,z.sameBut hs (cne y c e)⟩
  ·obtain⟨w',z⟩:=I.cell y c e
   exact⟨w',z.sameBut hs (cne y c e)⟩
  ·obtain⟨e,n,ne,nf,d⟩:=I.pin p hp
   exact⟨(hs.2 p.1 ne).trans e,n,ne,nf,d⟩
 ·have hfn:X.fn x=true:=by
   rcases hf with z|z
   ·exact z
   ·rw[z]at hk;cases hk
  obtain⟨c,hc⟩:=I.ok.has x (.inl hk);obtain⟨w',z⟩:=I.cell x c hc;refine wpAny_storeName_cell I.ok.kind hk hc z (fun h' hc' hs=>?_);obtain⟨oc,hoc,hocd⟩:=id z;refine h { s with heap:=h' } ⟨I.ok,I.os,I.bare,⟨fun b o e n hb hx=>?_,fun b o e n hb hx=>?_,I.base.free,fun b o e hx=>?_,I.base.tups,I.base.frzs,I.base.tbls⟩,⟨m,hn.sameBut hs (Ne.symm (cne x c hc)),fun j y v' e1 e2 e3=>?_⟩,fun y c' e=>?_,I.free,I.freeC,fun p hp=>?_,tracked ⟨oc,hoc,I.freeC x c hc⟩ hs,by simpa using I.len⟩ ⟨c,hs,.inr hc⟩
  ·exact(hs.2 b (Nat.ne_of_lt (Nat.lt_of_lt_of_le (Heap.lt_size e) (I.ok.cab x c hfn hc)))).trans (I.base.keep b o e n hb hx)
  ·obtain⟨sl,e1⟩:=I.base.slot b o e n hb hx
   exact⟨sl,(hs.2 b (Nat.ne_of_lt (Nat.lt_of_lt_of_le (Heap.lt_size e) (I.ok.cab x c hfn hc)))).trans e1⟩
  ·obtain⟨o',e1⟩:=I.base.there b o e hx
   exact⟨o',(hs.2 b (Nat.ne_of_lt (Nat.lt_of_lt_of_le (Heap.lt_size e) (I.ok.cab x c hfn hc)))).trans e1⟩
  ·by_cases hj:j=i
   ·subst hj
    rw[hi]at e1;cases e1;rw[List.getElem?_set_self hiσ]at e2;cases e2;exact⟨u,r,.inr ⟨.inl hk,c,hc,hc'⟩⟩
   ·rw[List.getElem?_set_ne (Ne.symm hj)]at e2
    obtain⟨u',r',q⟩:=hl j y v' e1 e2 e3;refine⟨u',r',?_⟩;rcases q with q|⟨k,c',e,z'⟩
    ·exact .inl q
    ·refine .inr ⟨k,c',e,z'.sameBut hs ?_⟩
     rintro rfl;exact hj (lV hN e1 (I.ok.inj _ _ _ e hc ▸ hi))
  ·by_cases hcc:c'=c
   ·subst hcc;exact⟨_,hc'⟩
   ·obtain⟨w2,z2⟩:=I.cell y c' e
    exact⟨w2,z2.sameBut hs hcc⟩
  ·obtain⟨e,n,ne,nf,d⟩:=I.pin p hp
   refine⟨(hs.2 p.1 ?_).trans e,n,ne,nf,d⟩;intro q;rw[q,hoc]at e;have q':oc=p.2:=Option.some.inj e;exact d w' (by rw[<-q'];exact hocd)
theorem lA{M:Model}{A:Around}{E:Value->Shared->Prop}{i:Nat}{x:Str}{v:V}{u:Value}{Q:Unit->Shared->Prop}(I:Inv X pins σ H s)(hN:X.N.Nodup)(hi:X.N[i]? = some x)(hx:rh X.env.scope x)(r:RelV v u)
  (h:∀s',Inv X pins (σ.set i (some v)) H s'->Q () s') (hf:X.fn x=true\/X.env.scope.names.lookup x=some .local:=by first|exact .inl rfl|exact .inr rfl|assumption):wpAny M A (storeName X.env x u) Q E s:=
 pT I hN hi hx r (fun s' I' _=>h s' I') hf
theorem Inv.call'{s':Shared}{ch:List Addr}(I:Inv X pins σ H s)(ho:s'.os=s.os)(u:Un (pq X.stack) ch H H' s.heap s'.heap)(hok:HOk X.prog X.w H' s'.heap)(hg:AllBare s'.gens)
  (hch:∀b∈ch,(b∈X.ex\/X.s₀.heap.objs.size<=b)/\b≠X.env.locals/\(∀x c,X.env.cells.lookup x=some c->c≠b)/\∀p∈X.pn++pins,p.1≠b):Inv X pins σ H' s':=by
 obtain⟨h',g',d',t',o'⟩:=s';have e:o'=s.os:=ho;subst e;exact I.call (g':=g') (t':=t') (d':=d') u hok hg hch
end
abbrev XK:=Value->Option Addr->Hp->Prop
abbrev St:=List (Option V)
abbrev VK:=V->Hp->Prop
abbrev TE:=St->Hp->VK->Prop
abbrev TT:=St->Hp->(Bool->Hp->Prop)->Prop
abbrev TA:=St->Hp->(List V->Hp->Prop)->Prop
structure Ends where
 nx:St->Hp->Prop
 rt:VK
 bk:St->Hp->Prop:=fun _ _=>False
 ct:St->Hp->Prop:=fun _ _=>False
abbrev TS:=Ends->St->Hp->Prop
def EP(X:Cx)(pins:List (Addr×Obj))(σ:St)(Q:VK)(u:Value)(s':Shared):Prop:=∃v H',Inv X pins σ H' s'/\RelV v u/\Q v H'
def TP(X:Cx)(pins:List (Addr×Obj))(σ:St)(Q:Bool->Hp->Prop)(b:Bool)(s':Shared):Prop:=∃H',Inv X pins σ H' s'/\Q b H'
def AP(X:Cx)(pins:List (Addr×Obj))(σ:St)(Q:List V->Hp->Prop)(us:List Value)(s':Shared):Prop:=∃vs H',Inv X pins σ H' s'/\Vals vs us/\Q vs H'
def SP(X:Cx)(pins:List (Addr×Obj))(D:Ends)(f:Flow)(s':Shared):Prop:=
 match f with
 |.next=>∃ σ' H',Inv X pins σ' H' s'/\D.nx σ' H'
 |.brk=>∃ σ' H',Inv X pins σ' H' s'/\D.bk σ' H'
 |.cont=>∃ σ' H',Inv X pins σ' H' s'/\D.ct σ' H'
 |.ret u=>∃v σ' H',Inv X pins σ' H' s'/\RelV v u/\D.rt v H'
def PE(X:Cx)(e:Expr)(t:TE):Prop:=
 ∀(pins:List (Addr×Obj)) (s:Shared) (σ:St) (H:Hp) (Q:VK),Inv X pins σ H s->t σ H Q->wpAny (model X.prog X.w) X.A (eval e X.env) (EP X pins σ Q) X.xe s
def PT(X:Cx)(e:Expr)(t:TT):Prop:=
 ∀(pins:List (Addr×Obj)) (s:Shared) (σ:St) (H:Hp) (Q:Bool->Hp->Prop),Inv X pins σ H s->t σ H Q->wpAny (model X.prog X.w) X.A (isTrue e X.env (eval e X.env)) (TP X pins σ Q) X.xe s
def PW(X:Cx)(e:Expr)(t:TT):Prop:=
 ∀(whole:Sem Value) (pins:List (Addr×Obj)) (s:Shared) (σ:St) (H:Hp) (Q:Bool->Hp->Prop),Inv X pins σ H s->t σ H Q->wpAny (model X.prog X.w) X.A (isTrue e X.env whole) (TP X pins σ Q) X.xe s
theorem PW.pt{X:Cx}{e:Expr}{t:TT}(h:PW X e t):PT X e t:=h _
def PA(X:Cx)(es:List Expr)(t:TA):Prop:=
 ∀(pos:Pos) (pins:List (Addr×Obj)) (s:Shared) (σ:St) (H:Hp) (Q:List V->Hp->Prop),Inv X pins σ H s->t σ H Q->wpAny (model X.prog X.w) X.A (spliced (backTo pos (starEach es X.env))) (AP X pins σ Q) X.xe s
def PS(X:Cx)(st:Stmt)(t:TS):Prop:=
 ∀(pins:List (Addr×Obj)) (s:Shared) (σ:St) (H:Hp) (D:Ends),Inv X pins σ H s->t D σ H->wpAny (model X.prog X.w) X.A (exec st X.env) (SP X pins D) X.xe s
def PSs(X:Cx)(st:List Stmt)(t:TS):Prop:=
 ∀(pins:List (Addr×Obj)) (s:Shared) (σ:St) (H:Hp) (D:Ends),Inv X pins σ H s->t D σ H->wpAny (model X.prog X.w) X.A (execs st X.env) (SP X pins D) X.xe s
theorem aY{α:Type}{t:Sem α}{Q Q':α -> Shared->Prop}{M:Model}{A:Around}{E:Value->Shared->Prop}{s:Shared}(h:wpAny M A t Q E s)(hQ:∀a s,Q a s->Q' a s):wpAny M A t Q' E s:=wpAny_mono h hQ fun _ _ x=>x
section
variable{X:Cx}
def Bn(i:Nat):TE:=fun σ H Q=>∃v,σ[i]? = some (some v)/\Q v H
def tC(v:V):TE:=fun _ H Q=>Q v H
theorem fY{i:Nat}{x:Str}{pos:Pos}(hN:X.N[i]? = some x)(hv:wz X.env.scope x)(hd:(x==("__debug__":Str))=false:=by decide)(hcd:(x==("__classdict__":Str))=false:=by decide):PE X (.Name x pos) (Bn i):=by
 intro pins s σ H Q I h;obtain⟨v,e,h⟩:=h;obtain⟨m,hn,hl⟩:=I.loc;obtain⟨u,r,l⟩:=hl i x v hN e hv;have fin:EP X pins σ Q u s:=⟨v,H,I,r,h⟩;rcases l with⟨hk,hm⟩|⟨hk,c,hc,hcell⟩
 ·exact wpAny_Name (wpAny_loadName_local I.ok.kind hk hn hm fin) hd
 ·rcases hk with hk|hk
  ·exact wpAny_Name (wpAny_loadName_cell I.ok.kind hk hc hcell fin) hd
  ·exact wpAny_Name (wpAny_loadName_free I.ok.kind hk hc hcell fin hcd) hd
theorem xt{i j pos}:PE X (.Constant (.int i) j pos) (tC (.int i)):=fun _ _ _ H _ I h=>wpAny_Constant_int ⟨.int i,H,I.tok _,⟨_,rfl⟩,h⟩
theorem zD{b j pos}:PE X (.Constant (.bool b) j pos) (tC (.bl b)):=fun _ _ _ H _ I h=>Constant_bool ⟨.bl b,H,I,rfl,h⟩
def Gl(X:Cx)(x:Str):Prop:=X.env.kindOf x=some .globalImplicit
theorem vg{E:Value->Shared->Prop}{pins:List (Addr×Obj)}{s:Shared}{σ:St}{H:Hp}{x:Str}{u:Value}{pos:Pos}{Q:Value->Shared->Prop}(I:Inv X pins σ H s)(hg:Gl X x)(hm:X.mg x=some u)(h:Q u s)
  (hd:(x==("__debug__":Str))=false:=by decide):wpAny (model X.prog X.w) X.A (eval (.Name x pos) X.env) Q E s:=
 Calls.Name_function_global I.ok.kind hg (Calls.loadGlobal_global (by rw[I.ok.glob];exact I.mod.glob.keeps I.bk) hm h) hd
theorem dy{E:Value->Shared->Prop}{pins:List (Addr×Obj)}{s:Shared}{σ:St}{H:Hp}{x:Str}{u:Value}{pos:Pos}{Q:Value->Shared->Prop}(I:Inv X pins σ H s)(hg:Gl X x)(hm:X.mg x=none)(hv:bootBuiltins x=some u)(h:Q u s)
  (hn:x ≠ "__name__":=by decide) (hd:(x==("__debug__":Str))=false:=by decide):wpAny (model X.prog X.w) X.A (eval (.Name x pos) X.env) Q E s:=by
 obtain⟨mb,h1,h2⟩:=I.mod.blt;exact Calls.Name_function_global I.ok.kind hg (Calls.loadGlobal_builtin (by rw[I.ok.glob];exact I.mod.glob.keeps I.bk) hm (by rw[I.ok.blt];exact h1.keeps I.bk) ((h2 x hn).trans hv) h) hd
theorem uS{x:Str}{v:V}{u:Value}{pos:Pos}(hg:Gl X x)(hm:X.mg x=none)(hv:bootBuiltins x=some u)(r:RelV v u)(hn:x ≠ "__name__":=by decide)(hd:(x==("__debug__":Str))=false:=by decide):PE X (.Name x pos) (tC v):=
 fun _ _ _ H _ I h=>dy I hg hm hv ⟨v,H,I,r,h⟩ hn hd
variable{a b:Expr}{ta tb:TE}{pos:Pos}
def tB(t:TE):TT:=fun σ H Q=>t σ H fun x H1=>∃c,x=.bl c/\Q c H1
theorem xi{e:Expr}{t:TE}(h:PE X e t)(he:∀whole,isTrue e X.env whole=(do let v <-whole;standAt e.pos;holding [v] (truthy v)):=by intro _;rfl):PT X e (tB t):=by
 intro pins s σ H Q I hw;refine isTrue_plain (aY (h pins s σ H _ I hw) fun v s1 ⟨x,H1,I1,r1,q1⟩=>?_) (he _)
 obtain⟨d,rfl,q⟩:=q1;cases r1;exact wpAny_truthy_bool ⟨H1,I1,q⟩
variable{tA tB':TT}{rest:List Expr}
def BA(t u:TT):TT:=fun σ H Q=>t σ H fun c H1=>if c=true then u σ H1 Q else Q false H1
def Da(t u:TT):TT:=fun σ H Q=>t σ H fun c H1=>if c=true then Q true H1 else u σ H1 Q
def Bt(t:TT):TT:=fun σ H Q=>t σ H fun c H1=>Q (!c) H1
theorem uA(ha:PT X a tA):PW X (.BoolOp .And [a] pos) tA:=by
 intro wh pins s σ H Q I h;refine isTrue_and (aY (ha pins s σ H Q I h) fun c s1 e=>?_)
 cases c with
 |true=>exact isTrue_and_nil e
 |false=>exact e
theorem xf(ha:PT X a tA):PW X (.BoolOp .Or [a] pos) tA:=by
 intro wh pins s σ H Q I h;refine isTrue_or (aY (ha pins s σ H Q I h) fun c s1 e=>?_)
 cases c with
 |false=>exact isTrue_or_nil e
 |true=>exact e
theorem xg(ha:PT X a tA)(hb:PW X (.BoolOp .And (b::rest) pos) tB'):PW X (.BoolOp .And (a::b::rest) pos) (BA tA tB'):=by
 intro wh pins s σ H Q I h;refine isTrue_and (aY (ha pins s σ H _ I h) fun c s1 ⟨H1,I1,q1⟩=>?_)
 cases c with
 |true=>exact hb wh pins s1 σ H1 Q I1 q1
 |false=>exact⟨H1,I1,q1⟩
theorem zv(ha:PT X a tA)(hb:PW X (.BoolOp .Or (b::rest) pos) tB'):PW X (.BoolOp .Or (a::b::rest) pos) (Da tA tB'):=by
 intro wh pins s σ H Q I h;refine isTrue_or (aY (ha pins s σ H _ I h) fun c s1 ⟨H1,I1,q1⟩=>?_)
 cases c with
 |true=>exact⟨H1,I1,q1⟩
 |false=>exact hb wh pins s1 σ H1 Q I1 q1
theorem xj(ha:PT X a tA):PT X (.UnaryOp .Not a pos) (Bt tA):=by
 intro pins s σ H Q I h;exact isTrue_not (ha pins s σ H (fun c H1=>Q (!c) H1) I h)
def zi(ta tb:TE):TE:=fun σ H Q=>ta σ H fun x H1=>∃c,x=.bl c/\if c=true then tb σ H1 Q else Q (.bl false) H1
def za(ta:TE):TE:=fun σ H Q=>ta σ H fun x H1=>∃c,x=.bl c/\Q (.bl (!c)) H1
theorem xp{op}{t:TE}(h:PE X a t):PE X (.BoolOp op [a] pos) t:=fun pins s σ H Q I hw=>BoolOp_one (h pins s σ H Q I hw)
theorem xv(ha:PE X a ta)(hb:PE X (.BoolOp .And (b::rest) pos) tb):PE X (.BoolOp .And (a::b::rest) pos) (zi ta tb):=by
 intro pins s σ H Q I h;refine BoolOp_and (aY (ha pins s σ H _ I h) fun v s1 ⟨x,H1,I1,r1,q1⟩=>?_)
 obtain⟨c,rfl,q1⟩:=q1;cases r1;refine wpAny_truthy_bool ?_;cases c with
 |true=>exact hb pins s1 σ H1 Q I1 q1
 |false=>exact⟨.bl false,H1,I1,rfl,q1⟩
theorem xq(ha:PE X a ta):PE X (.UnaryOp .Not a pos) (za ta):=by
 intro pins s σ H Q I h;refine UnaryOp_ (aY (ha pins s σ H _ I h) fun v s1 ⟨x,H1,I1,r1,q1⟩=>?_)
 obtain⟨c,rfl,q1⟩:=q1;cases r1;exact not_of (wpAny_truthy_bool ⟨.bl (!c),H1,I1,rfl,q1⟩)
end
def SqL(K:PySem.W.Frag)(H:Hp)(a:Addr)(xs:List V):Prop:=
 Rd H a (.lst xs) \/
  ∃(o:Obj) (its:Array Value) (n:Nat),K.lookup a=some o/\o.cls=.type "list" /\ o.dict=none/\o.data=.seq its n/\its.size<=sizeLine/\Vals xs its.toList
def SqT(K:PySem.W.Frag)(H:Hp)(a:Addr)(xs:List V):Prop:=
 Rd H a (.tup xs) \/
  ∃(o:Obj) (its:Array Value) (n:Nat),K.lookup a=some o/\o.cls=.type "tuple" /\ o.data=.seq its n/\its.size<=sizeLine/\Vals xs its.toList/\o.dict=none
noncomputable def Cs:Value->Option V
 |.none=>some .non
 |.bool b=>some (.bl b)
 |.int i _=>some (.int i)
 |.str x _=>some (.str x)
 |.bytes b _=>some (.byt b)
 |.float b _=>some (.flt b)
 |.ref a=>some (.ref a)
 |.type n=>some (.ty n)
 |_=>none
theorem RelV.abs{x:V}{u:Value}(r:RelV x u):Cs u=some x:=by
 cases x with
 |non=>cases r;rfl
 |bl _=>cases r;rfl
 |int _=>obtain⟨t,rfl⟩:=r;rfl
 |str _=>obtain⟨t,rfl⟩:=r;rfl
 |byt _=>obtain⟨t,rfl⟩:=r;rfl
 |flt _=>obtain⟨t,rfl⟩:=r;rfl
 |ref _=>cases r;rfl
 |ty _=>cases r;rfl
theorem RelV.inj{x y:V}{u:Value}(r:RelV x u)(q:RelV y u):x=y:=Option.some.inj (r.abs.symm.trans q.abs)
theorem Vals.inj:∀{xs ys:List V} {us:List Value},Vals xs us->Vals ys us->xs=ys
 |_,_,_,.nil,.nil=>rfl
 |_,_,_,.cons r t,.cons r' t'=>by rw[r.inj r',Vals.inj t t']
section
variable{X:Cx}{pins:List (Addr×Obj)}{σ:St}{H:Hp}{s:Shared}{a:Addr}{xs ys:List V}
theorem SqL.of{K:PySem.W.Frag}(h:H a=some (.lst xs)):SqL K H a xs:=.inl (.inl h)
theorem SqT.of{K:PySem.W.Frag}(h:H a=some (.tup xs)):SqT K H a xs:=.inl (.inl h)
theorem Inv.list(I:Inv X pins σ H s)(h:SqL X.K H a xs):∃its:List Value,Vals xs its/\PlainL s.heap a its.toArray/\xs.length<=sizeLine:=by
 rcases h with h|⟨o,its,n,hk,hc,hd,hs,hz,r⟩
 ·obtain⟨z,its,n,r,e⟩:=h.ok I.hok
  exact⟨its,r,⟨_,n,e,rfl,rfl,rfl⟩,z⟩
 ·refine⟨its.toList,r,⟨o,n,I.kIn a o hk,hc,hd,by simpa using hs⟩,?_⟩
  have e:=r.length;simp only[Array.length_toList]at e;omega
theorem Inv.tuple(I:Inv X pins σ H s)(h:SqT X.K H a xs):∃its:List Value,Vals xs its/\IsTup s.heap a its.toArray/\xs.length<=sizeLine:=by
 rcases h with h|⟨o,its,n,hk,hc,hs,hz,r,hd⟩
 ·obtain⟨z,its,r,p⟩:=h.ok I.hok
  exact⟨its,r,p.1,z⟩
 ·refine⟨its.toList,r,⟨o,I.kIn a o hk,hc,n,by simpa using hs⟩,?_⟩
  have e:=r.length;simp only[Array.length_toList]at e;omega
theorem Inv.list_inj(I:Inv X pins σ H s)(h:SqL X.K H a xs)(h':SqL X.K H a ys):xs=ys:=by
 obtain⟨its,r,⟨o,n,e,_,_,d⟩,_⟩:=I.list h;obtain⟨its',r',⟨o',n',e',_,_,d'⟩,_⟩:=I.list h';rw[e]at e';cases e';rw[d]at d';injection d' with d1 _
 have:its=its':=by simpa using congrArg Array.toList d1
 subst this;exact r.inj r'
theorem Inv.tuple_inj(I:Inv X pins σ H s)(h:SqT X.K H a xs)(h':SqT X.K H a ys):xs=ys:=by
 obtain⟨its,r,⟨o,e,_,n,d⟩,_⟩:=I.tuple h;obtain⟨its',r',⟨o',e',_,n',d'⟩,_⟩:=I.tuple h';rw[e]at e';cases e';rw[d]at d';injection d' with d1 _
 have:its=its':=by simpa using congrArg Array.toList d1
 subst this;exact r.inj r'
end
abbrev Cx.wish(X:Cx)(E:Value->Shared->Prop):Cx:={ X with xe:=E }
abbrev Cx.nox(X:Cx):Cx:=X.wish fun _ _=>False
theorem Cx.Ok.wish{X:Cx}(ok:X.Ok)(E:Value->Shared->Prop):(X.wish E).Ok:=
 ⟨ok.mod,ok.kind,ok.glob,ok.blt,ok.above,ok.inj,ok.has,ok.cab,ok.hd,ok.frames,ok.stk,ok.exf,ok.bs,ok.bsz,ok.noex,ok.exfs,ok.funs,ok.frf⟩
theorem Cx.Ok.unwish{X:Cx}{E:Value->Shared->Prop}(ok:(X.wish E).Ok):X.Ok:=
 ⟨ok.mod,ok.kind,ok.glob,ok.blt,ok.above,ok.inj,ok.has,ok.cab,ok.hd,ok.frames,ok.stk,ok.exf,ok.bs,ok.bsz,ok.noex,ok.exfs,ok.funs,ok.frf⟩
section
variable{X:Cx}{pins:List (Addr×Obj)}{σ:St}{H:Hp}{s:Shared}{E:Value->Shared->Prop}
theorem Inv.wish(I:Inv X pins σ H s)(E:Value->Shared->Prop):Inv (X.wish E) pins σ H s:=⟨I.ok.wish E,I.os,I.bare,I.base,I.loc,I.cell,I.free,I.freeC,I.pin,I.hok,I.len⟩
theorem Inv.unwish(I:Inv (X.wish E) pins σ H s):Inv X pins σ H s:=⟨I.ok.unwish,I.os,I.bare,I.base,I.loc,I.cell,I.free,I.freeC,I.pin,I.hok,I.len⟩
theorem SP.unwish{D:Ends}{f:Flow}{s':Shared}(h:SP (X.wish E) pins D f s'):SP X pins D f s':=by
 cases f with
 |next=>obtain⟨σ',H',I,q⟩:=h;exact⟨σ',H',I.unwish,q⟩
 |brk=>obtain⟨σ',H',I,q⟩:=h;exact⟨σ',H',I.unwish,q⟩
 |cont=>obtain⟨σ',H',I,q⟩:=h;exact⟨σ',H',I.unwish,q⟩
 |ret u=>obtain⟨v,σ',H',I,r,q⟩:=h;exact⟨v,σ',H',I.unwish,r,q⟩
theorem PSs.nox{st:List Stmt}{t:TS}(h:PSs X.nox st t):PSs X st t:=fun pins s σ H D I hw=>
 wpAny_mono (h pins s σ H D (I.wish _) hw) (fun _ _ q=>q.unwish) fun _ _ z=>False.elim z
end
section
variable{X:Cx}{st:Stmt}{rest:List Stmt}{t u:TS}{e:Expr}{te:TE}{pos:Pos}
def zc:TS:=fun D σ H=>D.nx σ H
def Br(t u:TS):TS:=fun D σ H=>t { D with nx:=u D } σ H
theorem uF:PSs X [] zc:=fun _ _ σ H _ I h=>wpAny_execs_nil ⟨σ,H,I,h⟩
theorem rY(h1:PS X st t)(h2:PSs X rest u):PSs X (st::rest) (Br t u):=by
 intro pins s σ H D I h;refine wpAny_execs_cons (aY (h1 pins s σ H { D with nx:=u D } I h) fun f s1 q=>?_)
 cases f with
 |next=>
  obtain⟨σ',H',I',q⟩:=q;exact h2 pins s1 σ' H' D I' q
 |ret v=>exact q
 |brk=>exact q
 |cont=>exact q
theorem uE(h1:PS X st t):PSs X [st] t:=by
 intro pins s σ H D I h;refine wpAny_execs_cons (aY (h1 pins s σ H D I h) fun f s1 q=>?_)
 cases f with
 |next=>exact wpAny_execs_nil q
 |ret v=>exact q
 |brk=>exact q
 |cont=>exact q
theorem Inv.quiet{pins:List (Addr×Obj)}{σ:St}{H:Hp}{s:Shared}(I:Inv X pins σ H s):interactive X.env=false:=by simp[interactive,I.ok.kind]
def zd(te:TE):TS:=fun D σ H=>te σ H fun _ H1=>D.nx σ H1
theorem oN(he:PE X e te)(hs:swapsWith e none pos.line X.env=pure false:=by rfl):PS X (.Expr e pos) (zd te):=by
 intro pins s σ H D I h;exact wpAny_Expr_any (aY (he pins s σ H _ I h) fun v s1 ⟨x,H1,I1,r1,q1⟩=>⟨σ,H1,I1,q1⟩) I.quiet hs
def Bs(te:TE):TS:=fun D σ H=>te σ H D.rt
theorem xk(he:PE X e te):PS X (.Return (some e) pos) (Bs te):=by
 intro pins s σ H D I h;exact wpAny_Return_some (aY (he pins s σ H _ I h) fun v s1 ⟨x,H1,I1,r1,q1⟩=>⟨x,σ,H1,I1,r1,q1⟩)
def Bw(c:TT)(t u:TS):TS:=fun D σ H=>c σ H fun b H1=>if b=true then t D σ H1 else u D σ H1
theorem zy{c:Expr}{a b:List Stmt}{tc:TT}(hc:PT X c tc)(ha:PSs X a t)(hb:PSs X b u):PS X (.If c a b pos) (Bw tc t u):=by
 intro pins s σ H D I h;refine wpAny_If (aY (hc pins s σ H _ I h) fun d s1 ⟨H1,I1,q1⟩=>?_)
 cases d with
 |true=>exact ha pins s1 σ H1 D I1 q1
 |false=>exact hb pins s1 σ H1 D I1 q1
end
abbrev TG:=V->St->Hp->(St->Hp->Prop)->Prop
abbrev vP:=List V->St->Hp->(St->Hp->Prop)->Prop
def PG(X:Cx)(target:Expr)(t:TG):Prop:=
 ∀(pins:List (Addr×Obj)) (s:Shared) (σ:St) (H:Hp) (v:V) (u:Value) (Q:St->Hp->Prop),Inv X pins σ H s->RelV v u->t v σ H Q ->
  wpAny (model X.prog X.w) X.A (assign target X.env u) (fun _ s'=>∃ σ' H',Inv X pins σ' H' s'/\Q σ' H') X.xe s
def PGs(X:Cx)(ts:List Expr)(t:vP):Prop:=
 ∀(pins:List (Addr×Obj)) (s:Shared) (σ:St) (H:Hp) (vs:List V) (us:List Value) (Q:St->Hp->Prop),Inv X pins σ H s->Vals vs us->t vs σ H Q ->
  wpAny (model X.prog X.w) X.A (assignInOrder ((assignEach ts X.env).map (·.2)) us) (fun _ s'=>∃ σ' H',Inv X pins σ' H' s'/\Q σ' H') X.xe s
section
variable{X:Cx}{pos:Pos}
def sY(i:Nat):TG:=fun v σ H Q=>Q (σ.set i (some v)) H
theorem bE{i:Nat}{x:Str}(hN:X.N.Nodup)(hi:X.N[i]? = some x)(hx:rh X.env.scope x)(hf:X.fn x=true\/X.env.scope.names.lookup x=some .local:=by first|exact .inl rfl|exact .inr rfl|assumption):PG X (.Name x pos) (sY i):=by
 intro pins s σ H v u Q I r h;exact wpAny_assign_Name (lA I hN hi hx r (fun s' I'=>⟨_,H,I',h⟩) hf)
noncomputable def Cd:vP:=fun vs σ H Q=>vs=[]/\Q σ H
def Ap(t:TG)(u:vP):vP:=fun vs σ H Q=>∃v r,vs=v::r/\t v σ H fun σ' H'=>u r σ' H' Q
theorem uM:PGs X [] Cd:=by
 intro pins s σ H vs us Q I r h;obtain⟨e,h⟩:=h;subst e;cases r;exact assignInOrder_nil ⟨σ,H,I,h⟩
theorem sd{e:Expr}{es:List Expr}{t:TG}{u:vP}(h1:PG X e t)(h2:PGs X es u)
  (hs:(assignEach (e::es) X.env).map (·.2)=assign e X.env::(assignEach es X.env).map (·.2):=by rfl):PGs X (e::es) (Ap t u):=by
 intro pins s σ H vs us Q I r h;obtain⟨v,vr,e1,h⟩:=h;subst e1;cases r with
 |cons r rr=>
  rw[hs];refine assignInOrder_cons (aY (h1 pins s σ H _ _ _ I r h) fun _ s1 ⟨σ1,H1,I1,q1⟩=>?_)
  exact h2 pins s1 σ1 H1 _ _ Q I1 rr q1
def Cb(K:PySem.W.Frag)(n:Nat)(t:vP):TG:=fun v σ H Q=>∃a xs,v=.ref a/\SqT K H a xs/\xs.length=n/\t xs σ H Q
theorem xn{es:List Expr}{k:Nat}{t:vP}{n:Nat}(hc:X.calm=true)(h:PGs X es t)
  (hn:(assignEach es X.env).length=n:=by rfl) (hst:(assignEach es X.env).findIdx? (·.1)=none:=by rfl):PG X (.Tuple es k pos) (Cb X.K n t):=by
 intro pins s σ H v u Q I r hw;obtain⟨a,xs,e1,hq,hl,hw⟩:=hw;subst e1;cases r;obtain⟨its,rv,ht,hz⟩:=I.tuple hq;refine assign_Tuple_tuple (I.ok.hd hc) ht (by simp[hn,<-hl,rv.length]) hst fun h' hx=>?_
 have I1:Inv X pins σ H { s with heap:=h' }:=I.kept (t':=s.toks) fun b o e=>hx b o (Nat.ne_of_lt (Heap.lt_size e)) e
 exact h pins _ σ H xs _ Q I1 (by simpa using rv) hw
def Bz(te:TE)(g:TG):TS:=fun D σ H=>te σ H fun x H1=>g x σ H1 D.nx
theorem nz{i:Nat}{x:Str}{e:Expr}{te:TE}{pos':Pos}(hN:X.N.Nodup)(hi:X.N[i]? = some x)(hx:rh X.env.scope x)(he:PE X e te)(hs:swapsWith e (some (.Name x pos')) pos.line X.env=pure false:=by rfl)(hf:X.fn x=true\/X.env.scope.names.lookup x=some .local:=by first|exact .inl rfl|exact .inr rfl|assumption):
  PS X (.Assign [.Name x pos'] e pos) (Bz te (sY i)):=by
 intro pins s σ H D I h;refine wpAny_Assign_Name (aY (he pins s σ H _ I h) fun v s1 ⟨y,H1,I1,r1,q1⟩=>?_) hs
 exact lA I1 hN hi hx r1 (fun s2 I2=>⟨_,H1,I2,q1⟩) hf
end
structure It where
 go:Nat->Hp->Prop
 yld:Nat->Hp->V->Hp->Prop
 stop:Nat->Hp->Prop
def eR(X:Cx)(pins:List (Addr×Obj))(H:Hp)(b:Addr):Prop:=
 H b=none/\b≠X.env.locals/\b ∉ X.fs/\(b∈X.ex\/X.s₀.heap.objs.size<=b)/\(∀x c,X.env.cells.lookup x=some c->c≠b)/\∀p∈X.pn++pins,p.1≠b
theorem Inv.fpOk{X:Cx}{pins:List (Addr×Obj)}{σ:St}{H H':Hp}{s:Shared}{b:Addr}(I:Inv X pins σ H s)(hb:s.heap.objs.size<=b)(hn:H' b=none):eR X pins H' b:=by
 refine⟨hn,Nat.ne_of_gt (Nat.lt_of_lt_of_le I.lt hb),I.nofs hb,.inr (Nat.le_trans I.sz hb),fun x c e z=>?_,fun p hp z=>?_⟩
 ·obtain⟨v,q⟩:=I.cell x c e
  exact absurd (Nat.lt_of_lt_of_le q.lt (by rw[z];exact hb)) (Nat.lt_irrefl _)
 ·exact absurd (Nat.lt_of_lt_of_le (Heap.lt_size (I.pin p hp).1) (by rw[z];exact hb)) (Nat.lt_irrefl _)
structure TurnG (Cm:Cx->Prop) (P:Program) (w:World) (K:PySem.W.Frag) (tg:Expr) (J:It) (fp:List Addr) (it:Addr) (tn:Nat->Heap->Prop):Prop where
 mem:it∈fp
 obj:∀i h,tn i h->∀b∈fp,∃o,h.get? b=some o/\∀v,o.data≠.cell v
 keep:∀i h h',tn i h->(∀b∈fp,∀o,h.get? b=some o->h'.get? b=some o)->tn i h'
 item:∀(X:Cx),X.prog=P->X.w=w->X.K=K->Cm X->∀(i:Nat) (pins:List (Addr×Obj)) (s:Shared) (σ:St) (H:Hp) (E:Value->Shared->Prop),Inv X pins σ H s->(∀b∈fp,eR X pins H b)->tn i s.heap->J.go i H ->
  wpAny (model P w) X.A (pyNext (.ref it)) (fun r s1=>∃u,r=some u /\
   wpAny (model P w) X.A (letOwnedTupleGo tg (.ref it) u) (fun _ s2=>∃x H',Inv X pins σ H' s2/\RelV x u/\J.yld i H x H'/\tn (i+1) s2.heap/\∀b∈fp,H' b=none) E s1) E s
 done:∀(X:Cx),X.prog=P->X.w=w->X.K=K->Cm X->∀(i:Nat) (pins:List (Addr×Obj)) (s:Shared) (σ:St) (H:Hp) (E:Value->Shared->Prop),Inv X pins σ H s->(∀b∈fp,eR X pins H b)->tn i s.heap->J.stop i H ->
  wpAny (model P w) X.A (pyNext (.ref it)) (fun r s1=>r=none/\Inv X pins σ H s1) E s
 self:∀(A:Around) (i:Nat) (s:Shared) (Q:Value->Shared->Prop) (E:Value->Shared->Prop),tn i s.heap->Q (.ref it) s->wpAny (model P w) A (pyIter (.ref it)) Q E s
abbrev qX(P:Program)(w:World)(K:PySem.W.Frag)(tg:Expr)(J:It)(fp:List Addr)(it:Addr)(tn:Nat->Heap->Prop):Prop:=TurnG (fun X=>X.calm=true) P w K tg J fp it tn
abbrev TI:=St->Hp->(It->Hp->Prop)->Prop
def Ct(X:Cx)(pins:List (Addr×Obj))(σ:St)(tg:Expr)(R:It->Hp->Prop)(itv:Value)(s2:Shared):Prop:=
 ∃(it:Addr) (fp:List Addr) (tn:Nat->Heap->Prop) (J:It) (H':Hp),itv=.ref it/\Inv X pins σ H' s2/\qX X.prog X.w X.K tg J fp it tn/\tn 0 s2.heap/\(∀b∈fp,eR X pins H' b)/\R J H'
def PI(X:Cx)(tg iter:Expr)(wi:TI):Prop:=
 ∀(pins:List (Addr×Obj)) (s:Shared) (σ:St) (H:Hp) (R:It->Hp->Prop),Inv X pins σ H s->wi σ H R ->
  wpAny (model X.prog X.w) X.A (eval iter X.env) (fun v s1=>wpAny (model X.prog X.w) X.A (pyIter v) (Ct X pins σ tg R) X.xe s1) X.xe s
theorem o8{M:Model}{A:Around}{E:Value->Shared->Prop}{s:Shared}{tg:Expr}{it:Addr}{u:Value}{o:Obj}{n:String}{vs:Array Value}{Q:Unit->Shared->Prop}(ho:s.heap.get? it=some o)(hc:o.cls=.type n)(hd:o.data=.fields vs)
  (hn:["enumerate","zip","dict_itemiterator","dict_reverseitemiterator","odict_iterator","itertools.zip_longest","itertools.pairwise"].contains n=false) (hQ:Q () s):wpAny M A (letOwnedTupleGo tg (.ref it) u) Q E s:=by
 unfold letOwnedTupleGo;cases tg<;>first
  |exact wpAny_pure hQ
  | (cases u<;>first
    |exact wpAny_pure hQ
    | (refine wpAny_bind (wpAny_load ho ?_)
       rw[hc,hd];show wpAny M A (if(["enumerate","zip","dict_itemiterator","dict_reverseitemiterator","odict_iterator","itertools.zip_longest","itertools.pairwise"].contains n&&vs[0]? == some (rawInt _))=true then _ else _) Q E s;rw[if_neg (by intro h;rw[hn,Bool.false_and]at h;cases h)];exact wpAny_pure hQ))
noncomputable def C2(K:PySem.W.Frag)(a:Addr):It:=
 ⟨fun i H=>∃xs x,SqL K H a xs/\xs[i]? = some x,fun i H x H'=>H'=H/\∀xs,SqL K H a xs->xs[i]? = some x,fun i H=>∃xs,SqL K H a xs/\xs.length<=i⟩
noncomputable def C1(K:PySem.W.Frag)(a:Addr):It:=
 ⟨fun i H=>∃xs x,SqT K H a xs/\xs[i]? = some x,fun i H x H'=>H'=H/\∀xs,SqT K H a xs->xs[i]? = some x,fun i H=>∃xs,SqT K H a xs/\xs.length<=i⟩
noncomputable def yR(lo:Int)(n:Nat):It:=⟨fun i _=>i<n,fun i H x H'=>H'=H/\x=.int (lo+i),fun i _=>n<=i⟩
theorem pR{P:Program}{w:World}{K:PySem.W.Frag}{tg:Expr}(a it:Addr):qX P w K tg (C2 K a) [it] it (fun i h=>h.IsListIter it a i) where
 mem:=by simp
 obj:=fun i h st b hb=>by
  have e:b=it:=by simpa using hb
  subst e;obtain⟨o,e,c,d⟩:=st;exact⟨o,e,fun v z=>by rw[d]at z;cases z⟩
 keep:=fun i h h' st k=>st.at fun o e=>k it (by simp) o e
 item:=by
  intro X hP hw hK hc i pins s σ H E I hf st hg;subst hP hw hK;obtain⟨xs,x,hq,hx⟩:=hg;obtain⟨its,rv,p,hz⟩:=I.list hq;obtain⟨u,hu,ru⟩:=rv.get hx;obtain⟨f0,f1,f2,f3,f4,f5⟩:=hf it (by simp);refine wpAny_pyNext_list_item st p.isList (x:=u) (by simpa using hu) fun h' st' sb=>?_
  have I1:Inv X pins σ H { s with heap:=h' }:=I.turned (t':=s.toks) (fun b o hb e=>(sb.2 b hb).trans e) f0 f1 f3 f4 f5
  obtain⟨o,e,c,d⟩:=id st';exact⟨u,rfl,o8 (s:={ s with heap:=h' }) e c d (by decide) ⟨x,H,I1,ru,⟨rfl,fun ys hy=>by rw[I.list_inj hy hq];exact hx⟩,st',fun b hb=>(hf b hb).1⟩⟩
 done:=by
  intro X hP hw hK hc i pins s σ H E I hf st hg;subst hP hw hK;obtain⟨xs,hq,hx⟩:=hg;obtain⟨its,rv,p,hz⟩:=I.list hq;obtain⟨f0,f1,f2,f3,f4,f5⟩:=hf it (by simp);have hl:=rv.length;exact wpAny_pyNext_list_end (I.ok.hd hc) st p.isList (by simp;omega) fun h' eb=>⟨rfl,I.turned (t':=s.toks) (fun b o hb e=>eb b o hb e) f0 f1 f3 f4 f5⟩
 self:=fun _ _ _ _ _ st h=>wpAny_pyIter_listiter st h
theorem m6{P:Program}{w:World}{K:PySem.W.Frag}{tg:Expr}(a it:Addr):qX P w K tg (C1 K a) [it] it (fun i h=>h.IsTupleIter it a i) where
 mem:=by simp
 obj:=fun i h st b hb=>by
  have e:b=it:=by simpa using hb
  subst e;obtain⟨o,e,c,d⟩:=st;exact⟨o,e,fun v z=>by rw[d]at z;cases z⟩
 keep:=fun i h h' st k=>st.at fun o e=>k it (by simp) o e
 item:=by
  intro X hP hw hK hc i pins s σ H E I hf st hg;subst hP hw hK;obtain⟨xs,x,hq,hx⟩:=hg;obtain⟨its,rv,p,hz⟩:=I.tuple hq;obtain⟨u,hu,ru⟩:=rv.get hx;obtain⟨f0,f1,f2,f3,f4,f5⟩:=hf it (by simp);refine wpAny_pyNext_tuple_item st (show s.heap.IsTuple a its.toArray from p) (x:=u) (by simpa using hu) fun h' st' sb=>?_
  have I1:Inv X pins σ H { s with heap:=h' }:=I.turned (t':=s.toks) (fun b o hb e=>(sb.2 b hb).trans e) f0 f1 f3 f4 f5
  obtain⟨o,e,c,d⟩:=id st';exact⟨u,rfl,o8 (s:={ s with heap:=h' }) e c d (by decide) ⟨x,H,I1,ru,⟨rfl,fun ys hy=>by rw[I.tuple_inj hy hq];exact hx⟩,st',fun b hb=>(hf b hb).1⟩⟩
 done:=by
  intro X hP hw hK hc i pins s σ H E I hf st hg;subst hP hw hK;obtain⟨xs,hq,hx⟩:=hg;obtain⟨its,rv,p,hz⟩:=I.tuple hq;obtain⟨f0,f1,f2,f3,f4,f5⟩:=hf it (by simp);have hl:=rv.length;exact wpAny_pyNext_tuple_end (I.ok.hd hc) st (show s.heap.IsTuple a its.toArray from p) (by simp;omega) fun h' eb=>⟨rfl,I.turned (t':=s.toks) (fun b o hb e=>eb b o hb e) f0 f1 f3 f4 f5⟩
 self:=fun _ _ _ _ _ st h=>wpAny_pyIter_tupleiter st h
theorem m7{P:Program}{w:World}{K:PySem.W.Frag}{tg:Expr}(it:Addr)(lo:Int)(n:Nat):qX P w K tg (yR lo n) [it] it (fun i h=>IsRangeIter h it (lo+(i:Nat)*1) ((n:Int)-(i:Nat)) 1) where
 mem:=by simp
 obj:=fun i h st b hb=>by
  have e:b=it:=by simpa using hb
  subst e;exact⟨_,st,fun v z=>by
   have z':Data.fields _=Data.cell v:=z;cases z'⟩
 keep:=fun i h h' st k=>k it (by simp) _ st
 item:=by
  intro X hP hw hK hc i pins s σ H E I hf st hg;subst hP hw hK;obtain⟨f0,f1,f2,f3,f4,f5⟩:=hf it (by simp);have W:=Walks.range (prog:=X.prog) (w:=X.w) (I.ok.hd hc) it lo 1 n;refine W.item i s _ _ hg st fun v h' tk hv st' kk=>?_
  obtain⟨t,rfl⟩:=hv;have I1:Inv X pins σ H { s with heap:=h',toks:=tk }:=I.turned (fun b o hb e=>kk b o (by simpa using hb) e) f0 f1 f3 f4 f5
  refine⟨_,rfl,o8 (s:={ s with heap:=h',toks:=tk }) (n:="range_iterator") st' rfl rfl (by decide) ⟨.int (lo+i),H,I1,⟨t,?_⟩,⟨rfl,rfl⟩,st',fun b hb=>(hf b hb).1⟩⟩
  rw[Int.mul_one]
 done:=by
  intro X hP hw hK hc i pins s σ H E I hf st hg;subst hP hw hK;obtain⟨f0,f1,f2,f3,f4,f5⟩:=hf it (by simp);exact wpAny_pyNext_range_end (I.ok.hd hc) st (by have:n<=i:=hg;omega) fun h' eb=>⟨rfl,I.turned (t':=s.toks) (fun b o hb e=>eb b o hb e) f0 f1 f3 f4 f5⟩
 self:=fun _ _ _ _ _ st h=>wpAny_pyIter_rangeiter st h
section
variable{X:Cx}{tg:Expr}
def Am(K:PySem.W.Frag)(tl:TE):TI:=fun σ H R=>tl σ H fun x H1=>∃a,x=.ref a/\(∃xs,SqL K H1 a xs)/\R (C2 K a) H1
def B7(K:PySem.W.Frag)(tl:TE):TI:=fun σ H R=>tl σ H fun x H1=>∃a,x=.ref a/\(∃xs,SqT K H1 a xs)/\R (C1 K a) H1
theorem uL{l:Expr}{tl:TE}(hl:PE X l tl):PI X tg l (Am X.K tl):=by
 intro pins s σ H R I h;refine aY (hl pins s σ H _ I h) fun v s1 ⟨x,H1,I1,r1,q1⟩=>?_
 obtain⟨a,e,⟨xs,hq⟩,q⟩:=q1;subst e;cases r1;obtain⟨its,rv,p,hz⟩:=I1.list hq;refine wpAny_pyIter_list p.isList ?_;refine⟨s1.heap.objs.size,[s1.heap.objs.size],_,_,H1,rfl,I1.kept (t':=s1.toks) fun b o e=>Heap.get?_push_of_some _ e,pR a _,⟨_,Heap.get?_push_size _ rfl,rfl,rfl⟩,fun b hb=>?_,q⟩
 have e:b=s1.heap.objs.size:=by simpa using hb
 subst e;exact I1.fpOk (Nat.le_refl _) (I1.hok.fresh (Nat.le_refl _))
theorem xm{l:Expr}{tl:TE}(hl:PE X l tl):PI X tg l (B7 X.K tl):=by
 intro pins s σ H R I h;refine aY (hl pins s σ H _ I h) fun v s1 ⟨x,H1,I1,r1,q1⟩=>?_
 obtain⟨a,e,⟨xs,hq⟩,q⟩:=q1;subst e;cases r1;obtain⟨its,rv,p,hz⟩:=I1.tuple hq;refine wpAny_pyIter_tuple (show s1.heap.IsTuple a its.toArray from p) ?_;refine⟨s1.heap.objs.size,[s1.heap.objs.size],_,_,H1,rfl,I1.kept (t':=s1.toks) fun b o e=>Heap.get?_push_of_some _ e,m6 a _,⟨_,Heap.get?_push_size _ rfl,rfl,rfl⟩,fun b hb=>?_,q⟩
 have e:b=s1.heap.objs.size:=by simpa using hb
 subst e;exact I1.fpOk (Nat.le_refl _) (I1.hok.fresh (Nat.le_refl _))
theorem rW{pins:List (Addr×Obj)}{σ:St}{H:Hp}{s:Shared}{R:It->Hp->Prop}{E:Value->Shared->Prop}{lo hi:Int}{t u v:Tok}{tk:Nat}(I:Inv X pins σ H s)(h1:-(2^62)<=lo)(h2:lo<2^62)(h3:-(2^62)<=hi)(h4:hi<2^62)
  (q:R (yR lo (hi-lo).toNat) H):wpAny (model X.prog X.w) X.A (pyIter (.ref s.heap.objs.size)) (Ct X pins σ tg R) E { s with heap:=s.heap.push { cls:=.type "range",data:=.fields #[.int lo t,.int hi u,.int 1 v] },toks:=tk }:=by
 refine wpAny_pyIter_range (IsRange.new ..) (small_one h1 h2 h3 h4) ?_;have I1:Inv X pins σ H { s with heap:=s.heap.push { cls:=.type "range",data:=.fields #[.int lo t,.int hi u,.int 1 v] },toks:=tk }:=I.kept fun b o e=>Heap.get?_push_of_some _ e
 refine⟨(s.heap.push { cls:=.type "range",data:=.fields #[.int lo t,.int hi u,.int 1 v] }).objs.size,[(s.heap.push { cls:=.type "range",data:=.fields #[.int lo t,.int hi u,.int 1 v] }).objs.size],_,_,H,rfl,
  I1.kept (t':=tk) fun b o e=>Heap.get?_push_of_some _ e,m7 _ lo (hi-lo).toNat,?_,fun b hb=>?_,q⟩
 ·have e1:lo+((0:Nat):Int)*1=lo:=by simp
  have e2:(((hi-lo).toNat:Nat):Int)-((0:Nat):Int)=Builtin.Range.rangeSize lo hi 1:=by rw[rangeSize_one];split<;>omega
  show IsRangeIter _ _ (lo+((0:Nat):Int)*1) ((((hi-lo).toNat:Nat):Int)-((0:Nat):Int)) 1;rw[e1,e2];exact Heap.get?_push_size _ rfl
 ·have e:b=(s.heap.push { cls:=.type "range",data:=.fields #[.int lo t,.int hi u,.int 1 v] }).objs.size:=by simpa using hb
  subst e;exact I1.fpOk (Nat.le_refl _) (I1.hok.fresh (Nat.le_refl _))
def Ak(ta:TA):TI:=fun σ H R=>ta σ H fun vs H1=>∃j:Int,vs=[.int j] /\ -(2^62)<=j/\j<2^62/\R (yR 0 j.toNat) H1
theorem qo{a:Expr}{ta:TA}{p pos:Pos}(hg:Gl X "range")(hm:X.mg "range" = none)(ha:PA X [a] ta)(hs:starEach [a] X.env=[(false,eval a X.env)]:=by rfl):PI X tg (.Call (.Name "range" p) [a] [] pos) (Ak ta):=by
 intro pins s σ H R I h;refine Call_ (dy I hg hm boot_range (PyProof.Rows.callWith_type1 (aY (ha pos pins s σ H _ I h) fun us s1 ⟨vs,H1,I1,r1,q1⟩=>?_) hs rfl))
 obtain⟨j,e,q1,q2,q⟩:=q1;subst e;cases r1 with
 |cons r rr=>
  cases rr;obtain⟨t,rfl⟩:=r;exact call_range_1 (rW I1 (by omega) (by omega) q1 q2 (by simpa using q))
def Bx(wi:TI)(g:TG)(tb:TS):TS:=fun D σ H=>wi σ H fun J H1=>∃W:Nat->Nat->St->Hp->Prop,(∃m,W 0 m σ H1)/\∀i m σ H,W i m σ H ->
 (J.stop i H/\D.nx σ H)\/(J.go i H/\∃N:St->Hp->Prop,(∀ σ' H',N σ' H'->∃m',m'<m/\W (i+1) m' σ' H')/\∀x H',J.yld i H x H'->g x σ H' fun σ2 H2=>tb { D with nx:=N,ct:=N,bk:=D.nx } σ2 H2)
noncomputable def kw(fp:List Addr)(h:Heap):List (Addr×Obj):=fp.filterMap fun b=>(h.get? b).map fun o=>(b,o)
theorem bn{fp:List Addr}{h:Heap}{b:Addr}{o:Obj}(hb:b∈fp)(e:h.get? b=some o):(b,o)∈kw fp h:=List.mem_filterMap.mpr ⟨b,hb,by rw[e];rfl⟩
theorem qt{fp:List Addr}{h:Heap}{p:Addr×Obj}(hp:p∈kw fp h):p.1∈fp/\h.get? p.1=some p.2:=by
 obtain⟨b,hb,e⟩:=List.mem_filterMap.mp hp;cases q:h.get? b with
 |none=>rw[q]at e;cases e
 |some o=>
  rw[q]at e;have e':(b,o)=p:=Option.some.inj e;subst e';exact⟨hb,q⟩
theorem Inv.pinned{pins:List (Addr×Obj)}{σ:St}{H:Hp}{s:Shared}{fp:List Addr}(I:Inv X pins σ H s)(hf:∀b∈fp,eR X pins H b)(ho:∀b∈fp,∃o,s.heap.get? b=some o/\∀v,o.data≠.cell v):Inv X (pins++kw fp s.heap) σ H s:=
 I.pins_of fun p hp=>(List.mem_append.mp hp).elim (fun z=>I.pin p (List.mem_append_right _ z)) fun z=>by
  obtain⟨hb,e⟩:=qt z;obtain⟨f0,f1,f2,_⟩:=hf p.1 hb;obtain⟨o,e',d⟩:=ho p.1 hb;rw[e]at e';cases e';exact⟨e,f0,f1,f2,d⟩
theorem Inv.unpinned{pins pl:List (Addr×Obj)}{σ:St}{H:Hp}{s:Shared}(I:Inv X (pins++pl) σ H s):Inv X pins σ H s:=I.pins_of fun p hp=>I.pin p (List.mem_append_right _ (List.mem_append_left _ hp))
theorem xl{iter:Expr}{body:List Stmt}{wi:TI}{g:TG}{tb:TS}{pos:Pos}(hp:PassesOwn (model X.prog X.w) X.A X.env X.xe)(hc:X.calm=true)(hi:PI X tg iter wi)(hg:PG X tg g)(hb:PSs X body tb)
  (hs:∀x,foldedSetIterable iter X.env x=pure x:=by intro _;rfl):PS X (.For tg iter body [] pos) (Bx wi g tb):=by
 intro pins s σ H D I h;refine wpAny_For (aY (hi pins s σ H _ I h) fun v s1 h1=>aY h1 fun itv s2 h2=>?_) hs
 obtain⟨it,fp,tn,J,H2,e,I2,T,st2,f2,W,⟨m0,w0⟩,turn⟩:=h2;subst e;have stat:∀{H':Hp},(∀b∈fp,H' b=none)->∀b∈fp,eR X pins H' b:=fun hn b hb=>⟨hn b hb,(f2 b hb).2⟩
 refine codeAny_forLoop_any (fun n s'=>∃i σ' H',Inv X pins σ' H' s'/\tn i s'.heap/\(∀b∈fp,H' b=none)/\W i n σ' H') ?_ m0 ⟨0,σ,H2,I2,st2,fun b hb=>(f2 b hb).1,w0⟩
 rintro n s3 ⟨i,σ3,H3,I3,st3,fr3,w3⟩;rcases turn i n σ3 H3 w3 with⟨stop,qn⟩|⟨go,N,hN,step⟩
 ·refine wpAny_passesOwn hp (aY (T.done X rfl rfl rfl hc i pins s3 σ3 H3 X.xe I3 (stat fr3) st3 stop) fun r s4 ⟨hr,I4⟩=>?_)
  subst hr;exact wpAny_execs_nil ⟨σ3,H3,I4,qn⟩
 ·refine wpAny_passesOwn hp (aY (T.item X rfl rfl rfl hc i pins s3 σ3 H3 X.xe I3 (stat fr3) st3 go) fun r s4 ⟨u,hr,h4⟩=>?_)
  subst hr;refine wpAny_passesOwn hp (aY h4 fun _ s5 ⟨x,H5,I5,r5,y5,st5,fr5⟩=>?_);have I5':=I5.pinned (stat fr5) (T.obj _ _ st5);refine wpAny_passesOwn hp (aY (hg _ s5 σ3 H5 x u _ I5' r5 (step x H5 y5)) fun _ s6 ⟨σ6,H6,I6,q6⟩=>?_)
  refine wpAny_passesOwn hp (aY (hb _ s6 σ6 H6 _ I6 q6) fun f s7 q7=>?_)
  have again:∀{σ7:St} {H7:Hp},Inv X (pins++kw fp s5.heap) σ7 H7 s7->N σ7 H7->∃m,m<n/\∃i σ' H',Inv X pins σ' H' s7/\tn i s7.heap/\(∀b∈fp,H' b=none)/\W i m σ' H':=fun{σ7 H7} I7 n7=>by
   obtain⟨m',hm,w7⟩:=hN σ7 H7 n7;refine⟨m',hm,i+1,σ7,H7,I7.unpinned,T.keep _ _ _ st5 fun b hb o e=>(I7.pin (b,o) (List.mem_append_right _ (List.mem_append_right _ (bn hb e)))).1,fun b hb=>?_,w7⟩
   obtain⟨o,e,d⟩:=T.obj _ _ st5 b hb;exact(I7.pin (b,o) (List.mem_append_right _ (List.mem_append_right _ (bn hb e)))).2.1
  cases f with
  |next=>obtain⟨σ7,H7,I7,n7⟩:=q7;exact again I7 n7
  |cont=>obtain⟨σ7,H7,I7,n7⟩:=q7;exact again I7 n7
  |brk=>obtain⟨σ7,H7,I7,q7⟩:=q7;exact⟨σ7,H7,I7.unpinned,q7⟩
  |ret v=>obtain⟨x7,σ7,H7,I7,r7,q7⟩:=q7;exact⟨x7,σ7,H7,I7.unpinned,r7,q7⟩
end
abbrev R2:=V->V->Hp->VK->Prop
def OpR(X:Cx)(f:Value->Value->Sem Value)(r:R2):Prop:=
 ∀(pins:List (Addr×Obj)) (s:Shared) (σ:St) (H:Hp) (x y:V) (v u:Value) (Q:VK),Inv X pins σ H s->RelV x v->RelV y u->r x y H Q ->
  wpAny (model X.prog X.w) X.A (f v u) (EP X pins σ Q) X.xe s
def AS(X:Cx)(f:Value->Sem Value)(r:V->Hp->VK->Prop):Prop:=
 ∀(pins:List (Addr×Obj)) (s:Shared) (σ:St) (H:Hp) (x:V) (v:Value) (Q:VK),Inv X pins σ H s->RelV x v->r x H Q ->
  wpAny (model X.prog X.w) X.A (f v) (EP X pins σ Q) X.xe s
def CallR(X:Cx)(f:Value)(r:List V->Hp->VK->Prop):Prop:=
 ∀(pins:List (Addr×Obj)) (s:Shared) (σ:St) (H:Hp) (xs:List V) (us:List Value) (Q:VK),Inv X pins σ H s->Vals xs us->r xs H Q ->
  wpAny (model X.prog X.w) X.A (call f us) (EP X pins σ Q) X.xe s
def y9(r:R2)(ta tb:TE):TE:=fun σ H Q=>ta σ H fun x H1=>tb σ H1 fun y H2=>r x y H2 Q
def C8(r:V->Hp->VK->Prop)(ta:TE):TE:=fun σ H Q=>ta σ H fun x H1=>r x H1 Q
def rI(C:Int->Int->Prop)(g:Int->Int->V):R2:=fun x y H Q=>∃i j,x=.int i/\y=.int j/\C i j/\Q (g i j) H
def tW(g:Int->Int->V):R2:=fun x y H Q=>∃i j,x=.int i/\y=.int j/\Q (g i j) H
def rU(g:Int->V):V->Hp->VK->Prop:=fun x H Q=>∃i,x=.int i/\Q (g i) H
section
variable{X:Cx}{a b c:Expr}{ta tb tc:TE}{pos:Pos}
theorem yt(ha:PE X a ta)(hb:PE X b tb){pins:List (Addr×Obj)}{s:Shared}{σ:St}{H:Hp}{R:V->V->Hp->Prop}(I:Inv X pins σ H s)
  (h:ta σ H fun x H1=>tb σ H1 fun y H2=>R x y H2) {Q:Value->Shared->Prop} {f:Value->Value->Sem Value}
  (hf:∀v u s2 x y H2,Inv X pins σ H2 s2->RelV x v->RelV y u->R x y H2->wpAny (model X.prog X.w) X.A (f v u) Q X.xe s2) :
  wpAny (model X.prog X.w) X.A (eval a X.env) (fun v s₁=>wpAny (model X.prog X.w) X.A (eval b X.env) (fun u s₂=>wpAny (model X.prog X.w) X.A (f v u) Q X.xe s₂) X.xe s₁) X.xe s:=by
 refine aY (ha pins s σ H _ I h) fun v s1 ⟨x,H1,I1,r1,q1⟩=>?_
 refine aY (hb pins s1 σ H1 _ I1 q1) fun u s2 ⟨y,H2,I2,r2,q2⟩=>?_
 exact hf v u s2 x y H2 I2 r1 r2 q2
theorem zC{op:Operator}{r:R2}(ho:OpR X (binaryOp op) r)(ha:PE X a ta)(hb:PE X b tb):PE X (.BinOp a op b pos) (y9 r ta tb):=by
 intro pins s σ H Q I h;exact wpAny_BinOp (yt ha hb I h fun v u s2 x y H2 I2 rx ry q=>ho pins s2 σ H2 x y v u Q I2 rx ry q)
theorem zB{op:UnaryOp}{r:V->Hp->VK->Prop}(ho:AS X (unaryOp op) r)(ha:PE X a ta):PE X (.UnaryOp op a pos) (C8 r ta):=by
 intro pins s σ H Q I h;exact UnaryOp_ (aY (ha pins s σ H _ I h) fun v s1 ⟨x,H1,I1,r1,q1⟩=>ho pins s1 σ H1 x v Q I1 r1 q1)
theorem zI{f:Value->Value->Sem Value}{C:Int->Int->Prop}{g:Int->Int->Int}
  (rule:∀(i j:Int) (t u:Tok) (s:Shared) (Q:Value->Shared->Prop) (E:Value->Shared->Prop),C i j->Q (.int (g i j) s.toks) { s with toks:=s.toks+1 }->wpAny (model X.prog X.w) X.A (f (.int i t) (.int j u)) Q E s) :
  OpR X f (rI C fun i j=>.int (g i j)):=by
 intro pins s σ H x y v u Q I rx ry h;obtain⟨i,j,rfl,rfl,hc,q⟩:=h;obtain⟨t,rfl⟩:=rx;obtain⟨t',rfl⟩:=ry;exact rule i j t t' s _ _ hc ⟨.int (g i j),H,I.tok _,⟨_,rfl⟩,q⟩
theorem uV{f:Value->Value->Sem Value}{g:Int->Int->Int}
  (rule:∀(i j:Int) (t u:Tok) (s:Shared) (Q:Value->Shared->Prop) (E:Value->Shared->Prop),Q (.int (g i j) s.toks) { s with toks:=s.toks+1 }->wpAny (model X.prog X.w) X.A (f (.int i t) (.int j u)) Q E s) :
  OpR X f (tW fun i j=>.int (g i j)):=by
 intro pins s σ H x y v u Q I rx ry h;obtain⟨i,j,rfl,rfl,q⟩:=h;obtain⟨t,rfl⟩:=rx;obtain⟨t',rfl⟩:=ry;exact rule i j t t' s _ _ ⟨.int (g i j),H,I.tok _,⟨_,rfl⟩,q⟩
theorem zJ{f:Value->Value->Sem Value}{g:Int->Int->Bool}
  (rule:∀(i j:Int) (t u:Tok) (s:Shared) (Q:Value->Shared->Prop) (E:Value->Shared->Prop),Q (.bool (g i j)) s->wpAny (model X.prog X.w) X.A (f (.int i t) (.int j u)) Q E s) :
  OpR X f (tW fun i j=>.bl (g i j)):=by
 intro pins s σ H x y v u Q I rx ry h;obtain⟨i,j,rfl,rfl,q⟩:=h;obtain⟨t,rfl⟩:=rx;obtain⟨t',rfl⟩:=ry;exact rule i j t t' s _ _ ⟨.bl (g i j),H,I,rfl,q⟩
def CA(i j:Int):Prop:=0<j/\j<1073741824
theorem mZ(k:Nat):(0:Int)<=2^k:=by
 rw[two_pow_cast];exact Int.natCast_nonneg _
theorem xA:OpR X (binaryOp .Add) (tW fun i j=>.int (i+j)):=uV fun _ _ _ _ _ _ _ q=>add_int q
theorem uT:OpR X (binaryOp .FloorDiv) (rI CA fun i j=>.int (i/j)):=zI fun i j _ _ _ _ _ hc q=>by
 have h1:(0:Int)<j:=hc.1;have h2:j<1073741824:=hc.2;exact floordiv_int (by omega) (by rw[Int.fdiv_eq_ediv_of_nonneg i (by omega)];exact q) (.inl (PyProof.noPylong_small (by omega)))
theorem xy:OpR X (binaryOp .Mod) (rI (fun _ j=>0<j) fun i j=>.int (i%j)):=zI fun i j _ _ _ _ _ hc q=>by
 have h1:(0:Int)<j:=hc;exact mod_int' (by omega) (by rw[Int.fmod_eq_emod_of_nonneg i (by omega)];exact q)
theorem xx:OpR X (binaryOp .RShift) (rI (fun _ j=>0<=j) fun i j=>.int (i/2^j.toNat)):=zI fun i j _ _ _ _ _ hc q=>
 rshift_int hc (by rw[Int.fdiv_eq_ediv_of_nonneg i (mZ _)];exact q)
theorem xz:OpR X (binaryOp .BitAnd) (tW fun i j=>.int (Builtin.bitAnd i j)):=uV fun _ _ _ _ _ _ _ q=>and_int q
theorem zF:OpR X (binaryOp .BitOr) (tW fun i j=>.int (Builtin.bitOr i j)):=uV fun _ _ _ _ _ _ _ q=>or_int q
theorem xw:OpR X (binaryOp .BitXor) (tW fun i j=>.int (Builtin.bitXor i j)):=uV fun _ _ _ _ _ _ _ q=>xor_int q
theorem C4{f:Value->Sem Value}{g:Int->Int}
  (rule:∀(i:Int) (t:Tok) (s:Shared) (Q:Value->Shared->Prop) (E:Value->Shared->Prop),Q (.int (g i) s.toks) { s with toks:=s.toks+1 }->wpAny (model X.prog X.w) X.A (f (.int i t)) Q E s) :
  AS X f (rU fun i=>.int (g i)):=by
 intro pins s σ H x v Q I rx h;obtain⟨i,rfl,q⟩:=h;obtain⟨t,rfl⟩:=rx;exact rule i t s _ _ ⟨.int (g i),H,I.tok _,⟨_,rfl⟩,q⟩
theorem wJ:AS X (unaryOp .USub) (rU fun i=>.int (-i)):=C4 fun _ _ _ _ _ q=>neg_int q
end
section
variable{X:Cx}{a b c:Expr}{ta tb tc:TE}{pos:Pos}
theorem zG:OpR X (compareOp .Lt) (tW fun i j=>.bl (decide (i<j))):=zJ fun _ _ _ _ _ _ _ q=>lt_int q
theorem zH:OpR X (compareOp .Gt) (tW fun i j=>.bl (decide (j<i))):=zJ fun _ _ _ _ _ _ _ q=>gt_int q
theorem bm(b:Expr){op:CmpOp}(h:op≠.In:=by decide)(h2:op≠.NotIn:=by decide):behindInMarks op b=false:=by
 have e1:(op==CmpOp.In)=false:=by cases op<;>first|rfl|exact absurd rfl h
 have e2:(op==CmpOp.NotIn)=false:=by cases op<;>first|rfl|exact absurd rfl h2
 cases b<;>simp[behindInMarks,e1,e2]
theorem uQ{op:CmpOp}{r:R2}(ho:OpR X (compareOp op) r)(ha:PE X a ta)(hb:PE X b tb)(hm:behindInMarks op b=false):PE X (.Compare a [op] [b] pos) (y9 r ta tb):=by
 intro pins s σ H Q I h;exact wpAny_Compare1 (yt ha hb I h fun v u s2 x y H2 I2 rx ry q=>ho pins s2 σ H2 x y v u Q I2 rx ry q) hm
def yZ(t:TE):TT:=fun σ H Q=>t σ H fun x H'=>∃k,x=.bl k/\Q k H'
theorem uC{op:CmpOp}{r:R2}(ho:OpR X (compareOp op) r)(ha:PE X a ta)(hb:PE X b tb)(hm:behindInMarks op b=false):PT X (.Compare a [op] [b] pos) (yZ (y9 r ta tb)):=by
 intro pins s σ H Q I h;refine wpAny_isTrue_Compare1 (aY (ha pins s σ H _ I h) fun v s1 ⟨x,H1,I1,r1,q1⟩=>aY (hb pins s1 σ H1 _ I1 q1) fun u s2 ⟨y,H2,I2,r2,q2⟩=>
  aY (ho pins s2 σ H2 x y v u _ I2 r1 r2 q2) fun c s3 ⟨z,H3,I3,r3,k,e,q3⟩=>?_) hm
 subst e;cases r3;exact wpAny_truthy_bool ⟨H3,I3,q3⟩
theorem nG:(sizeLine:Nat)<2^63:=by rw[sizeLine_eq];decide
theorem nC:OpR X (binaryOp .Add) (fun x y H Q=>∃i j,x=.str i/\y=.str j/\i.length+j.length<=sizeLine/\Q (.str (i++j)) H):=by
 intro pins s σ H x y v u Q I rx ry h;obtain⟨i,j,rfl,rfl,hz,q⟩:=h;obtain⟨t,rfl⟩:=rx;obtain⟨t',rfl⟩:=ry;exact add_str (fun t' tk=>⟨.str (i++j),H,I.tok _,⟨_,rfl⟩,q⟩) hz
theorem ii{x:V}{us:List Value}(r:Vals [x] us):∃u,us=[u]/\RelV x u:=by
 cases r with
 |cons r1 r2=>cases r2;exact⟨_,rfl,r1⟩
theorem yW{x y:V}{us:List Value}(r:Vals [x,y] us):∃u w',us=[u,w']/\RelV x u/\RelV y w':=by
 cases r with
 |cons r1 r2=>
  cases r2 with
  |cons r3 r4=>cases r4;exact⟨_,_,rfl,r1,r3⟩
def Cw(K:PySem.W.Frag)(x:V)(H:Hp)(n:Nat):Prop:=
 match x with
 |.str y=>y.length<=sizeLine/\n=y.length
 |.byt y=>y.size<=sizeLine/\n=y.size
 |.ref p=>(∃xs,SqL K H p xs/\n=xs.length)\/∃xs,SqT K H p xs/\n=xs.length
 |_=>False
theorem tN:CallR X (.builtin "len") (fun xs H Q=>∃x n,xs=[x]/\Cw X.K x H n/\Q (.int n) H):=by
 intro pins s σ H xs us Q I r h;obtain⟨x,n,rfl,e,q⟩:=h;obtain⟨u,rfl,rx⟩:=ii r;have hl:=nG;have hs:sizeLine=16777216:=sizeLine_eq;cases x with
 |str y=>
  obtain⟨t,rfl⟩:=rx;obtain⟨hy,e'⟩:y.length<=sizeLine/\n=y.length:=e;subst e';exact len_str (by omega) ⟨.int _,H,I.tok _,⟨_,rfl⟩,q⟩
 |byt y=>
  obtain⟨t,rfl⟩:=rx;obtain⟨hy,e'⟩:y.size<=sizeLine/\n=y.size:=e;subst e';exact PySem.W.len_bytes (by omega) ⟨.int _,H,I.tok _,⟨_,rfl⟩,q⟩
 |ref p=>
  cases rx;have e':(∃xs,SqL X.K H p xs/\n=xs.length)\/∃xs,SqT X.K H p xs/\n=xs.length:=e;rcases e' with⟨xs,hx,e'⟩|⟨xs,hx,e'⟩
  ·subst e'
   obtain⟨its,r',pl,hz⟩:=I.list hx;have hlen:=r'.length;exact Calls.call_len_list pl.isList (by simp only[List.size_toArray];omega) ⟨.int xs.length,H,I.tok _,⟨_,by simp only[List.size_toArray];rw[hlen]⟩,q⟩
  ·subst e'
   obtain⟨its,r',pl,hz⟩:=I.tuple hx;have hlen:=r'.length;exact len_tuple pl (by simp only[List.size_toArray];omega) ⟨.int xs.length,H,I.tok _,⟨_,by simp only[List.size_toArray];rw[hlen]⟩,q⟩
 |_=>exact(show False from e).elim
end
structure ObjM (h:Heap) (x dx C:Addr) (mA:Str->Option Value):Prop where
 obj:h.get? x=some (PySem.W.instObj C dx)
 ns:h.Ns1 dx mA
 ne:dx≠x
theorem qA{h:Heap}{dx:Addr}{mA:Str->Option Value}(n:h.Ns1 dx mA):∃od,h.get? dx=some od/\∀name,PySem.W.lookIn name od=some (mA name):=by
 obtain⟨o,es,ep,ho,hd,hk,_,hm⟩:=n;refine⟨o,ho,fun name=>?_⟩
 have e:=hm name;unfold nsFind findBy at e;rw[<-Array.find?_toList]at e;unfold PySem.W.lookIn;rw[hd];dsimp only;split
 ·rename_i y q
  rw[q]at e;exact congrArg some e
 ·rename_i q
  rw[q]at e;have a:es.toList.any (·.refKey)=false:=by
   rw[List.any_eq_false];intro y hy;obtain⟨z,t,hkey⟩:=hk y (Array.mem_toList_iff.mp hy);simp[DictEntry.refKey,hkey]
  have a':¬es.toList.any (·.refKey)=true:=by rw[a];exact Bool.false_ne_true
  rw[if_neg a'];exact congrArg some e
theorem ObjM.look{h:Heap}{x dx C:Addr}{mA:Str->Option Value}(I:ObjM h x dx C mA):∃od,PySem.W.InstAt h x (PySem.W.instObj C dx) C (some od)/\∀name,PySem.W.lookIn name od=some (mA name):=
 let ⟨od,ho,hl⟩:=qA I.ns
 ⟨od,⟨I.obj,rfl,rfl,ho⟩,hl⟩
theorem RelO.some_of{v:V}{o:Option Value}(r:RelO (some v) o):∃u,o=some u/\RelV v u:=by
 cases o with
 |none=>exact(show False from r).elim
 |some u=>exact⟨u,rfl,r⟩
section
variable{P:Program}{w:World}{H H':Hp}{h h':Heap}{a C dx:Addr}{fs fs':List (Str×V)}
theorem em(hok:HOk P w H h)(e:H a=some (.ins C dx fs)):∃mA,ObjM h a dx C mA/\(∀f,RelO (fs.lookup f) (mA f))/\PySem.Within mA (fs.map (·.1))/\fs.length<=1000/\H dx=some (.own a):=by
 obtain⟨d,z,ne,ob,mA,n,r,q⟩:=(show ObjOk P w H h a (.ins C dx fs)from hok a _ e);exact⟨mA,⟨ob,n,ne⟩,r,q,z,d⟩
end
structure Cls (K:PySem.W.Frag) (C:Addr):Prop where
 pg:PySem.W.plainGet K C Str.empty=true
 hd:PySem.W.hasDictIn K C=true
 po:PySem.W.plainOver K C=true
 sa:PySem.W.findIn K (.ref C) "__setattr__" = some (some (.builtin "object.__setattr__"))
theorem Cls.get{K:PySem.W.Frag}{C:Addr}(c:Cls K C)(f:Str):PySem.W.plainGet K C f=true:=c.pg
section
variable{X:Cx}{pins:List (Addr×Obj)}{σ:St}{H:Hp}{s:Shared}{A:Around}{E:Value->Shared->Prop}{Q:Value->Shared->Prop}{c:Value}{b:Bool}
inductive TyOf (K:PySem.W.Frag) (H:Hp):V->Value->Prop where
 |non:TyOf K H .non (.type "NoneType")
 |bl (x:Bool):TyOf K H (.bl x) (.type "bool")
 |int (i:Int):TyOf K H (.int i) (.type "int")
 |str (x:Str):TyOf K H (.str x) (.type "str")
 |flt (x:UInt64):TyOf K H (.flt x) (.type "float")
 |lst {a:Addr} {xs:List V} (e:H a=some (.lst xs)):TyOf K H (.ref a) (.type "list")
 |frz {a:Addr} {o:Obj} {xs:List V} (e:H a=some (.frz o (.lst xs))):TyOf K H (.ref a) (.type "list")
 |tup {a:Addr} {xs:List V} (e:H a=some (.tup xs)):TyOf K H (.ref a) (.type "tuple")
 |dK {a:Addr} {kvs:List (ak×V)} (e:H a=some (.dK kvs)):TyOf K H (.ref a) (.type "dict")
 |dT {a:Addr} {kvs:List (List ak×V)} (e:H a=some (.dT kvs)):TyOf K H (.ref a) (.type "dict")
 |ins {a C dx:Addr} {fs:List (Str×V)} (e:H a=some (.ins C dx fs)) (cl:Cls K C) (ha:PySem.W.findIn K (.ref C) "__class__" = some (some (.builtin "object.__class__")))
   (hn:PySem.W.specialIn K (.builtin "object.__class__") "__get__" = some (some (.builtin "getset_descriptor.__get__"))) (htk:PySem.W.takesIn K (.builtin "object.__class__")=some true)
   (hm:PySem.W.mroIn K C (.type "object")=some true):TyOf K H (.ref a) (.ref C)
theorem ej{x:V}{u t:Value}(I:Inv X pins σ H s)(rx:RelV x u)(ty:TyOf X.K H x t)(e:PySem.W.kitOne X.K t c=some b)(h:∀tk,Q (.bool b) { s with toks:=tk }):
  wpAny (model X.prog X.w) A (call (.builtin "isinstance") [u,c]) Q E s:=by
 cases ty with
 |non=>cases(show u=Value.none from rx);exact PySem.W.kia_one PySem.W.kitx_none I.kIn True.intro e (fun z=>nomatch z) h
 |bl y=>cases(show u=Value.bool y from rx);exact PySem.W.kia_one PySem.W.kitx_bool I.kIn True.intro e (fun z=>nomatch z) h
 |int i=>obtain⟨t,q⟩:=(show ∃t,u=Value.int i t from rx);cases q;exact PySem.W.kia_one PySem.W.kitx_int I.kIn True.intro e (fun z=>nomatch z) h
 |str y=>obtain⟨t,q⟩:=(show ∃t,u=Value.str y t from rx);cases q;exact PySem.W.kia_one PySem.W.kitx_str I.kIn True.intro e (fun z=>nomatch z) h
 |flt y=>obtain⟨t,q⟩:=(show ∃t,u=Value.float y t from rx);cases q;exact PySem.W.kia_one PySem.W.kitx_float I.kIn True.intro e (fun z=>nomatch z) h
 | @lst a xs ea=>
  cases(show u=Value.ref a from rx);obtain⟨_,_,n,_,h1⟩:=(show ObjOk X.prog X.w H s.heap a (.lst xs)from I.hok a _ ea);exact PySem.W.kia_one PySem.W.kitx_list I.kIn ⟨_,h1,rfl⟩ e (fun z=>nomatch z) h
 | @frz a ob xs ea=>
  cases(show u=Value.ref a from rx);obtain⟨_,_,_,n,_,h1⟩:=(show ObjOk X.prog X.w H s.heap a (.frz ob (.lst xs))from I.hok a _ ea);exact PySem.W.kia_one PySem.W.kitx_list I.kIn ⟨_,h1,rfl⟩ e (fun z=>nomatch z) h
 | @tup a xs ea=>
  cases(show u=Value.ref a from rx);obtain⟨_,_,_,p⟩:=(show ObjOk X.prog X.w H s.heap a (.tup xs)from I.hok a _ ea);obtain⟨o,h1,h2,_⟩:=p.1;exact PySem.W.kia_one PySem.W.kitx_tuple I.kIn ⟨o,h1,h2⟩ e (fun z=>nomatch z) h
 | @dK a kvs ea=>
  cases(show u=Value.ref a from rx);obtain⟨_,_,vs,_,p⟩:=(show ObjOk X.prog X.w H s.heap a (.dK kvs)from I.hok a _ ea);obtain⟨o,es,ep,h1,h2,_⟩:=p;exact PySem.W.kia_one PySem.W.kitx_dict I.kIn ⟨o,h1,h2.1⟩ e (fun z=>nomatch z) h
 | @dT a kvs ea=>
  cases(show u=Value.ref a from rx);obtain⟨_,_,xs,_,o,es,ep,h1,h2,_⟩:=(show ObjOk X.prog X.w H s.heap a (.dT kvs)from I.hok a _ ea);exact PySem.W.kia_one PySem.W.kitx_dict I.kIn ⟨o,h1,h2.1⟩ e (fun z=>nomatch z) h
 | @ins a C dx fs ea cl ha hn htk hm=>
  cases(show u=Value.ref a from rx);obtain⟨mA,O,_⟩:=em I.hok ea;obtain⟨od,J,_⟩:=O.look;exact PySem.W.kia_one (PySem.W.kitx_own (cl.get _) cl.hd ha hn htk hm) I.kIn J e (fun z=>nomatch z) h
end
structure Room (k:Nat) (A:Around):Prop where
 hd:A.handled=none
 dp:A.depth+3*k+5<recursionLimit
 un:A.units+16*k+200<cLine
theorem Room.mono{j k:Nat}{A:Around}(r:Room k A)(h:j<=k):Room j A:=⟨r.hd,by have:=r.dp;omega,by have:=r.un;omega⟩
theorem Room.deeper{k:Nat}{A:Around}(r:Room (k+1) A)(env:Env):Room k (A.deeper env):=
 ⟨r.hd,by have:=r.dp;show A.depth+1+3*k+5<_;omega,by have:=r.un;show A.units+3+16*k+200<_;omega⟩
theorem Room.depth{k:Nat}{A:Around}(r:Room k A):A.depth<recursionLimit:=by have:=r.dp;omega
theorem Room.units{k:Nat}{A:Around}(r:Room k A):A.units+64<cLine:=by have:=r.un;omega
def Bu:TA:=fun _ H Q=>Q [] H
def zf(ta:TE)(tr:TA):TA:=fun σ H Q=>ta σ H fun x H1=>tr σ H1 fun xs H2=>Q (x::xs) H2
section
variable{X:Cx}{e:Expr}{es:List Expr}{te:TE}{t:TA}{pos:Pos}
theorem eK:PA X [] Bu:=fun _ _ _ _ H Q I h=>Calls.spliced_nil ⟨[],H,I,.nil,h⟩
theorem cP(ha:PE X e te)(hr:PA X es t)(hs:starEach (e::es) X.env=(false,eval e X.env)::starEach es X.env:=by rfl):PA X (e::es) (zf te t):=by
 intro pos pins s σ H Q I h;rw[hs];show wpAny _ _ (spliced ((false,eval e X.env)::backTo pos (starEach es X.env))) _ _ s;refine Calls.spliced_cons (aY (ha pins s σ H _ I h) fun u s1 ⟨x,H1,I1,r1,q1⟩=>?_)
 exact aY (hr pos pins s1 σ H1 _ I1 q1) fun us s2 ⟨xs,H2,I2,r2,q2⟩=>⟨x::xs,H2,I2,.cons r1 r2,q2⟩
def Bq(t:TA):TE:=fun σ H Q=>t σ H fun xs H1=>xs.length<=sizeLine/\∀p,H1 p=none->Q (.ref p) (upd H1 p (.tup xs))
def Bv(t:TA):TE:=fun σ H Q=>t σ H fun xs H1=>xs.length<=sizeLine/\∀p,H1 p=none->Q (.ref p) (upd H1 p (.lst xs))
theorem xo{x1}(h:PA X es t):PE X (.Tuple es x1 pos) (Bq t):=by
 intro pins s σ H Q I hq;refine wpAny_Tuple_spliced (aY (h pos pins s σ H _ I hq) fun us s1 ⟨xs,H1,I1,r,z,q⟩=>⟨by rw[<-r.length];exact z,?_⟩)
 have hf:H1 s1.heap.objs.size=none:=I1.hok.fresh (Nat.le_refl _);refine⟨.ref s1.heap.objs.size,upd H1 s1.heap.objs.size (.tup xs),I1.laid (t':=s1.toks) (fun b u e=>Heap.get?_push_of_some _ e) (Nat.le_refl _) ?_,rfl,q _ hf⟩;exact⟨z,us,r,⟨_,Heap.get?_push_size _ rfl,rfl,_,rfl⟩,NoDi.new _ _⟩
theorem xr(h:PA X es t):PE X (.List es pos) (Bv t):=by
 intro pins s σ H Q I hq;refine wpAny_List_spliced (aY (h pos pins s σ H _ I hq) fun us s1 ⟨xs,H1,I1,r,z,q⟩=>⟨by rw[<-r.length];exact z,?_⟩)
 have hf:H1 s1.heap.objs.size=none:=I1.hok.fresh (Nat.le_refl _);refine⟨.ref s1.heap.objs.size,upd H1 s1.heap.objs.size (.lst xs),I1.laid (t':=s1.toks) (fun b u e=>Heap.get?_push_of_some _ e) (Nat.le_refl _) ?_,rfl,q _ hf⟩;exact⟨z,us,0,r,Heap.get?_push_size _ rfl⟩
end
abbrev Sp:=List V->Hp->VK->XK->Prop
abbrev pO:=List Env->Hp->Shared->XK->Value->Shared->Prop
structure Env0 (P:Program) (w:World) (K:PySem.W.Frag) (mg:Str->Option Value) (base:Heap) (A:Around) (outer:List Env) (s:Shared) (H:Hp):Prop where
 frames:A.frames=some outer
 mod:Mod K mg base
 bs:∀b o,base.get? b=some o->s.heap.get? b=some o/\H b=none
 bsz:base.objs.size<=s.heap.objs.size
 funs:s.heap.FunFrames base outer
 frf:∀b∈pq outer,H b=none
 hok:HOk P w H s.heap
 bare:AllBare s.gens
def CE(outer:List Env)(P:Program)(w:World)(H:Hp)(s:Shared)(Q:VK)(u:Value)(s':Shared):Prop:=
 ∃v H',s'.os=s.os/\AllBare s'.gens/\Un (pq outer) [] H H' s.heap s'.heap/\HOk P w H' s'.heap/\RelV v u/\Q v H'
def CR(CX:pO)(outer:List Env)(P:Program)(w:World)(H:Hp)(s:Shared)(Q:VK)(E:XK)(r:Result)(s':Shared):Prop:=
 match r with
 |.ok (.ret u)=>CE outer P w H s Q u s'
 |.ok _=>False
 |.error e=>CX outer H s E e s'
structure FnOk (P:Program) (w:World) (K:PySem.W.Frag) (mg:Str->Option Value) (base:Heap) (CX:pO) (k:Nat) (f:Addr) (fd:FuncData) (ps:List Str) (sp:Sp):Prop where
 len:∀vs H Q E,sp vs H Q E->vs.length=ps.length
 run:∀(A:Around) (outer:List Env) (s:Shared) (H:Hp) (args:Args) (us:List Value) (vs:List V) (Q:VK) (E:XK),Room k A->Env0 P w K mg base A outer s H->BindsTo s fd args (ps.zip us)->Vals vs us->sp vs H Q E ->
  codeAny (model P w) A (.call (.ref f) args) (CR CX outer P w H s Q E) s
theorem FnOk.imp{P:Program}{w:World}{K:PySem.W.Frag}{mg:Str->Option Value}{base:Heap}{CX:pO}{k:Nat}{f:Addr}{fd:FuncData}{ps:List Str}{sp sp':Sp}(F:FnOk P w K mg base CX k f fd ps sp)
  (h:∀vs H Q E,sp' vs H Q E->sp vs H Q E):FnOk P w K mg base CX k f fd ps sp':=
 ⟨fun vs H Q E q=>F.len vs H Q E (h _ _ _ _ q),fun A outer s H args us vs Q E hr he hb hv hs=>F.run A outer s H args us vs Q E hr he hb hv (h _ _ _ _ hs)⟩
section
variable{X:Cx}{pins:List (Addr×Obj)}{σ:St}{H:Hp}{s s':Shared}
theorem Inv.env0(I:Inv X pins σ H s):Env0 X.prog X.w X.K X.mg X.base X.A X.stack s H:=
 ⟨I.ok.frames,I.ok.mod,I.bs,Nat.le_trans I.ok.bsz I.sz,I.stack,I.stkFree,I.hok,I.bare⟩
theorem Inv.after{Q:VK}{u:Value}(I:Inv X pins σ H s)(h:CE X.stack X.prog X.w H s Q u s'):EP X pins σ Q u s':=by
 obtain⟨v,H',os,bare,un,hok,r,q⟩:=h;obtain⟨hh,g,d,t,os'⟩:=s';obtain rfl:os'=s.os:=os;exact⟨v,H',I.call (h':=hh) (g':=g) (d':=d) (t':=t) (ch:=[]) un hok bare (fun b z=>absurd z (by simp)),r,q⟩
end
def zg(sp:Sp)(dvs:List V)(E:XK)(t:TA):TE:=fun σ H Q=>t σ H fun vs H1=>sp (vs++dvs) H1 Q E
def Binds(K:PySem.W.Frag)(fd:FuncData)(ps:List Str)(ds:List Value):Prop:=
 ∀(s:Shared) (us:List Value),K.In s.heap->(us++ds).length=ps.length->BindsTo s fd ⟨us,[]⟩ (ps.zip (us++ds))
theorem Binds.all{K:PySem.W.Frag}{fd:FuncData}{ps:List Str}(h:∀us:List Value,us.length=ps.length->bindArgs fd ⟨us,[]⟩=pure (ps.zip us)):Binds K fd ps []:=fun s us _ hl=>by
 rw[List.append_nil]at hl ⊢;exact .of_eq (h us hl)
def lb(CX:pO)(X:Cx)(E:XK):Prop:=∀(pins:List (Addr×Obj)) (σ:St) (H:Hp) (s:Shared) (e:Value) (s':Shared),Inv X pins σ H s->CX X.stack H s E e s'->X.xe e s'
section
variable{X:Cx}{CX:pO}{k:Nat}{f C:Addr}{fd:FuncData}{ps:List Str}{sp:Sp}{dvs:List V}{ds:List Value}{E:XK}{x m:Str}{p pos apos:Pos}{e o:Expr}{es:List Expr}{ta:TE}{t:TA}
theorem wY{pins:List (Addr×Obj)}{σ:St}{H:Hp}{s:Shared}{Q:VK}{us:List Value}{vs:List V}(F:FnOk X.prog X.w X.K X.mg X.base CX k f fd ps sp)(hr:Room k X.A)(hb:Binds X.K fd ps ds)(hd:Vals dvs ds)(hx:lb CX X E)
  (I:Inv X pins σ H s) (r:Vals vs us) (h:sp (vs++dvs) H Q E):wpAny (model X.prog X.w) X.A (call (.ref f) us) (EP X pins σ Q) X.xe s:=by
 have r2:Vals (vs++dvs) (us++ds):=r.append hd;have hl:(us++ds).length=ps.length:=by rw[<-r2.length];exact F.len _ _ _ _ h
 refine wpAny_call (codeAny_mono (F.run X.A X.stack s H ⟨us,[]⟩ (us++ds) (vs++dvs) Q E hr I.env0 (hb s us I.kIn hl) r2 h) fun r s' hq=>?_)
 cases r with
 |error e=>exact hx pins σ H s e s' I hq
 |ok fl=>
  cases fl with
  |ret u=>exact I.after hq
  |next=>exact False.elim hq
  |brk=>exact False.elim hq
  |cont=>exact False.elim hq
theorem uR(F:FnOk X.prog X.w X.K X.mg X.base CX k f fd ps sp)(hr:Room k X.A)(hg:Gl X x)(hm:X.mg x=some (.ref f))(hk:PySem.W.keepIn X.K (.ref f)=true)(hb:Binds X.K fd ps ds)(hd:Vals dvs ds)(hx:lb CX X E)
  (ha:PA X (e::es) t) (hdb:(x==("__debug__":Str))=false:=by decide) (he:starEach (e::es) X.env=(false,eval e X.env)::starEach es X.env:=by rfl) (hpl:(backTo pos (starEach es X.env)).any (·.1)=false:=by rfl) :
  PE X (.Call (.Name x p) (e::es) [] pos) (zg sp dvs E t):=by
 intro pins s σ H Q I h;refine wpAny_Call_Name_kw (vg I hg hm ?_ hdb);refine PySem.W.callWith_K (h₀:=X.base) I.ok.mod.kin hk (aY (ha pos pins s σ H _ I h) fun us s1 ⟨vs,H1,I1,r,q⟩=>⟨I1.kIn,?_⟩) he hpl
 exact wY F hr hb hd hx I1 r q
end
structure FnScope (N P:List Str) (sc:Scope):Prop where
 kind:sc.kind=.function
 co:sc.isCoroutine=false
 gen:sc.isGenerator=false
 nd:N.Nodup
 pre:N.take P.length=P
 par:∀x∈P,sc.names.lookup x=some .local\/sc.names.lookup x=some .cell
 nofree:∀y∈sc.names,y.2≠.free
theorem kc{kindOf:Str->Option NameKind}{x:Str}:∀{binds:List (Str×Value)} {m:Str->Option Value},(∀v,(x,v) ∉ binds)->bindL kindOf binds m x=m x
 |[],_,_=>rfl
 | (n,v)::r,m,h=>by
  unfold bindL;rw[kc fun w hw=>h w (List.mem_cons_of_mem _ hw)]
  split
  ·have:x≠n:=by rintro rfl;exact h v List.mem_cons_self
   simp[this]
  ·rfl
theorem kf{kindOf:Str->Option NameKind}{x:Str}:∀{binds:List (Str×Value)} {m:Str->Option Value},(∀v,(x,v) ∉ binds)->bindC kindOf binds m x=m x
 |[],_,_=>rfl
 | (n,v)::r,m,h=>by
  unfold bindC;rw[kf fun w hw=>h w (List.mem_cons_of_mem _ hw)]
  split
  ·rfl
  ·have:x≠n:=by rintro rfl;exact h v List.mem_cons_self
   simp[this]
theorem ke{kindOf:Str->Option NameKind}{x:Str}{v:Value}:∀{P:List Str} {vs:List Value} {i:Nat} {m:Str->Option Value},P.Nodup->P[i]? = some x->vs[i]? = some v->kindOf x=some .local ->
  bindL kindOf (P.zip vs) m x=some v
 |[],_,_,_,_,h,_,_=>by simp at h
 |_::_,[],_,_,_,_,h,_=>by simp at h
 |p::P,w::vs,0,m,nd,h1,h2,hk=>by
  simp at h1 h2;subst h1;subst h2;show bindL kindOf ((p,w)::P.zip vs) m p=_;unfold bindL;rw[kc fun v hv=>(List.nodup_cons.mp nd).1 (List.of_mem_zip hv).1,if_pos hk]
  simp
 |p::P,w::vs,i+1,m,nd,h1,h2,hk=>by
  show bindL kindOf ((p,w)::P.zip vs) m x=_;unfold bindL;exact ke (i:=i) (List.nodup_cons.mp nd).2 (by simpa using h1) (by simpa using h2) hk
theorem kg{kindOf:Str->Option NameKind}{x:Str}{v:Value}:∀{P:List Str} {vs:List Value} {i:Nat} {m:Str->Option Value},P.Nodup->P[i]? = some x->vs[i]? = some v->kindOf x≠some .local ->
  bindC kindOf (P.zip vs) m x=some v
 |[],_,_,_,_,h,_,_=>by simp at h
 |_::_,[],_,_,_,_,h,_=>by simp at h
 |p::P,w::vs,0,m,nd,h1,h2,hk=>by
  simp at h1 h2;subst h1;subst h2;show bindC kindOf ((p,w)::P.zip vs) m p=_;unfold bindC;rw[kf fun v hv=>(List.nodup_cons.mp nd).1 (List.of_mem_zip hv).1,if_neg hk]
  simp
 |p::P,w::vs,i+1,m,nd,h1,h2,hk=>by
  show bindC kindOf ((p,w)::P.zip vs) m x=_;unfold bindC;exact kg (i:=i) (List.nodup_cons.mp nd).2 (by simpa using h1) (by simpa using h2) hk
noncomputable def dP(N:List Str)(vs:List V):St:=vs.map some++List.replicate (N.length-vs.length) none
noncomputable def oa(CX:pO)(P:Program)(w:World)(K:PySem.W.Frag)(mg:Str->Option Value)(base:Heap)(N:List Str)(qual:Str)(scope:Scope)(f:Addr)(cd:Value)(A:Around)(outer:List Env)(s:Shared)(H:Hp)(E:XK):Cx where
 prog:=P
 w:=w
 K:=K
 mg:=mg
 base:=base
 A:=A.deeper (envOfC qual scope s.heap.objs.size f cd)
 N:=N
 s₀:=s
 H₀:=H
 env:=envOfC qual scope s.heap.objs.size f cd
 outer:=outer
 stack:=envOfC qual scope s.heap.objs.size f cd::outer
 ex:=[]
 calm:=true
 fn:=fun _=>true
 pn:=[]
 xe:=fun e s'=>wpAny (model P w) (A.deeper (envOfC qual scope s.heap.objs.size f cd)) (leaving (envOfC qual scope s.heap.objs.size f cd) e) (fun _ s''=>CX outer H s E e s'') (fun e' s''=>CX outer H s E e' s'') s'
theorem mR{sc:Scope}{n:Nat}{x:Str}(h:sc.names.lookup x=some .cell):∃c,(cellsFrom n sc.names []).lookup x=some c:=by
 have q:=PySem.W.cellsFrom_some sc.names n [] (.inl h);exact Option.isSome_iff_exists.mp q
theorem qK{CX:pO}{P:Program}{w:World}{K:PySem.W.Frag}{mg:Str->Option Value}{base:Heap}{N ps:List Str}{qual:Str}{scope:Scope}{f:Addr}{cd:Value}{A:Around}{outer:List Env}{s s1:Shared}{H:Hp}{E:XK}{us:List Value}{vs:List V}
  (S:FnScope N ps scope) (hd:A.handled=none) (e0:Env0 P w K mg base A outer s H) (hl:vs.length=ps.length) (r:Vals vs us)
  (x:InCallC s s.heap.objs.size (bindL (envOfC qual scope s.heap.objs.size f cd).kindOf (ps.zip us) fun _=>none) (cellsFrom (s.heap.objs.size+1) scope.names []) (bindC (envOfC qual scope s.heap.objs.size f cd).kindOf (ps.zip us) fun _=>none) s1) :
  Inv (oa CX P w K mg base N qual scope f cd A outer s H E) [] (dP N vs) H s1:=by
 have hpl:ps.length<=N.length:=by have:=congrArg List.length S.pre;rw[List.length_take]at this;omega
 obtain⟨h1,tk,rfl,hk⟩:=x.done;have noA:∀b:Addr,b ∉ (oa CX P w K mg base N qual scope f cd A outer s H E).ex:=fun b z=>absurd (show b∈([]:List Addr)from z) (by simp)
 refine⟨⟨e0.mod,S.kind,rfl,rfl,Nat.le_refl _,fun y z c h1 h2=>?_,fun y hy=>?_,fun y c _ h=>?_,fun _=>hd,Around.frames_deeper e0.frames,.inr ⟨rfl,rfl⟩,fun b z=>absurd z (noA b),e0.bs,e0.bsz,fun b _ _=>noA b,fun b z=>absurd z (noA b),e0.funs,e0.frf⟩,
  rfl,e0.bare,Un.kept hk,⟨_,x.toInCall.ns,fun i y v h1 h2 h3=>?_⟩,fun y c h=>⟨_,x.cell y c h⟩,e0.hok.fresh (Nat.le_refl _),fun y c h=>?_,fun p hp=>absurd (show p∈([]:List (Addr×Obj))from hp) (by simp),e0.hok.kept hk,?_⟩
 ·exact name_of_addr x.apart (PySem.mem_of_lookup h1) (PySem.mem_of_lookup h2)
 ·have hy:scope.names.lookup y=some .cell\/scope.names.lookup y=some .free:=hy
  rcases hy with hy|hy
  ·exact mR hy
  ·exact absurd rfl (S.nofree _ (PySem.mem_of_lookup hy))
 ·exact Nat.le_of_lt (x.above y c (PySem.mem_of_lookup h))
 ·have hi:i<vs.length:=by
   unfold dP at h2;by_cases hi:i<vs.length
   ·exact hi
   ·rw[List.getElem?_append_right (by simpa using hi)]at h2
    rw[List.getElem?_replicate]at h2;split at h2<;>cases h2
  have ha:vs[i]? = some v:=by
   unfold dP at h2;rw[List.getElem?_append_left (by simpa using hi),List.getElem?_map]at h2;cases e:vs[i]? with
   |none=>rw[e]at h2;cases h2
   |some a=>rw[e]at h2;cases h2;rfl
  obtain⟨u,hu,rv⟩:=r.get ha;have hp:ps[i]? = some y:=by
   rw[<-S.pre,List.getElem?_take_of_lt (by omega)];exact h1
  have ndP:ps.Nodup:=by rw[<-S.pre];exact S.nd.sublist (List.take_sublist _ _)
  refine⟨u,rv,?_⟩;rcases S.par y (List.mem_of_getElem? hp)with k|k
  ·exact .inl ⟨k,ke ndP hp hu k⟩
  ·obtain⟨c,e⟩:=mR (n:=s.heap.objs.size+1) k
   refine .inr ⟨.inl k,c,e,?_⟩;have q:=x.cell y c e;rw[kg ndP hp hu (by show scope.names.lookup y≠_;rw[k];decide)]at q;exact q
 ·exact e0.hok.fresh (Nat.le_of_lt (x.above y c (PySem.mem_of_lookup h)))
 ·unfold dP
  show _=N.length;rw[List.length_append,List.length_map,List.length_replicate];omega
theorem Aw{CX:pO}{P:Program}{w:World}{K:PySem.W.Frag}{mg:Str->Option Value}{base:Heap}{k:Nat}{f:Addr}{name qual:Str}{params:Arguments}{body:List Stmt}{scope:Scope}{dV kV doc pm cdv ct oc:Value}{an od:Option Addr}
  {osl:Array (Option Value)} {N ps:List Str} {sp:Sp} (lk:K.lookup f=some ⟨oc,od,.func (PySem.W.fnOf name qual params body scope dV kV doc pm an cdv ct),osl⟩) (hcd:PySem.W.codeIn K cdv qual=true) (S:FnScope N ps scope)
  (len:∀vs H Q E,sp vs H Q E->vs.length=ps.length)
  (hbody:∀(A:Around) (outer:List Env) (s:Shared) (H:Hp) (vs:List V) (Q:VK) (E:XK),Room k (A.deeper (envOfC qual scope s.heap.objs.size f cdv))->sp vs H Q E ->
   ∃t,PSs (oa CX P w K mg base N qual scope f cdv A outer s H E) body t/\t { nx:=fun _ H'=>Q .non H',rt:=Q } (dP N vs) H) :
  FnOk P w K mg base CX (k+1) f (PySem.W.fnOf name qual params body scope dV kV doc pm an cdv ct) ps sp:=by
 refine⟨len,fun A outer s H args us vs Q E hr e0 hb r hsp=>?_⟩
 have hl:=len _ _ _ _ hsp;have KX:K.In s.heap:=e0.mod.kin.keeps fun b o e=>(e0.bs b o e).1
 have lim:s.heap.NoLimit:=e0.mod.nolimit.keeps fun b o e=>(e0.bs b o e).1
 have hkind:∀y∈ps.zip us,scope.names.lookup y.1=some .local\/(scope.names.lookup y.1=some .cell/\((cellsFrom (s.heap.objs.size+1) scope.names []).lookup y.1).isSome=true):=fun⟨n,v⟩ hy=>by
  rcases S.par n (List.of_mem_zip hy).1 with q|q
  ·exact .inl q
  ·exact .inr ⟨q,PySem.W.cellsFrom_some _ _ _ (.inl q)⟩
 refine codeAny_call_function hr.depth (KX _ _ lk) rfl S.co S.gen rfl (PySem.W.codeRec_of KX hcd) (hb _ _ _ _ ?_);refine wpAny_newFunctionEnv_cells S.kind hkind fun env he s1 x=>?_
 subst he;refine⟨lim.keeps x.toInCall.keep,codeAny_func ?_⟩;obtain⟨t,ht,hq⟩:=hbody A outer s H vs Q E (hr.deeper _) hsp;have I:Inv (oa CX P w K mg base N qual scope f cdv A outer s H E) [] (dP N vs) H s1:=qK S hr.hd e0 hl r x;refine wpAny_mono (ht [] s1 (dP N vs) H _ I hq) (fun fl s' hs=>?_) fun e s' hs=>hs
 have fin:∀{σ':St} {H':Hp} {v:V} {u:Value},Inv (oa CX P w K mg base N qual scope f cdv A outer s H E) [] σ' H' s'->RelV v u->Q v H'->CE outer P w H s Q u s':=
  fun{σ' H' v u} J rv q=>⟨v,H',J.os,J.bare,J.base,J.hok,rv,q⟩
 cases fl with
 |ret u=>
  obtain⟨v,σ',H',J,rv,q⟩:=hs;exact fin J rv q
 |next=>
  obtain⟨σ',H',J,q⟩:=hs;exact fin (v:=V.non) (u:=Value.none) J rfl q
 |brk=>
  obtain⟨_,_,_,q⟩:=hs;exact False.elim q
 |cont=>
  obtain⟨_,_,_,q⟩:=hs;exact False.elim q
section
variable{X:Cx}{x:Str}{p pos:Pos}{e:Expr}{es:List Expr}{t:TA}{id T:String}{r:List V->Hp->VK->Prop}
def CL(r:List V->Hp->VK->Prop)(t:TA):TE:=fun σ H Q=>t σ H fun vs H1=>r vs H1 Q
theorem iy(hc:CallR X (.builtin id) r)(hg:Gl X x)(hm:X.mg x=none)(hv:bootBuiltins x=some (.builtin id))(ha:PA X (e::es) t)(hn:x ≠ "__name__":=by decide)(hdb:(x==("__debug__":Str))=false:=by decide)
  (he:starEach (e::es) X.env=(false,eval e X.env)::starEach es X.env:=by rfl) (hpl:(backTo pos (starEach es X.env)).any (·.1)=false:=by rfl):PE X (.Call (.Name x p) (e::es) [] pos) (CL r t):=by
 intro pins s σ H Q I h;refine wpAny_Call_Name_kw (dy I hg hm hv ?_ hn hdb);exact PyProof.Rows.callWith_builtin1 (aY (ha pos pins s σ H _ I h) fun us s1 ⟨vs,H1,I1,r1,q1⟩=>hc pins s1 σ H1 vs us Q I1 r1 q1) he hpl
theorem qp(hc:CallR X (.type T) r)(hg:Gl X x)(hm:X.mg x=none)(hv:bootBuiltins x=some (.type T))(ha:PA X (e::es) t)(hn:x ≠ "__name__":=by decide)(hdb:(x==("__debug__":Str))=false:=by decide)
  (he:starEach (e::es) X.env=(false,eval e X.env)::starEach es X.env:=by rfl) (hpl:(backTo pos (starEach es X.env)).any (·.1)=false:=by rfl):PE X (.Call (.Name x p) (e::es) [] pos) (CL r t):=by
 intro pins s σ H Q I h;refine wpAny_Call_Name_kw (dy I hg hm hv ?_ hn hdb);exact PyProof.Rows.callWith_type1 (aY (ha pos pins s σ H _ I h) fun us s1 ⟨vs,H1,I1,r1,q1⟩=>hc pins s1 σ H1 vs us Q I1 r1 q1) he hpl
end
end L2
namespace HT
open PySem PyProof.Rows
section
variable{prog:Program}{w:World}{A:Around}{E:Value->Shared->Prop}{s:Shared}
theorem vH{t b:Addr}{vs ws:List Value}{Q:Value->Shared->Prop}(ht:IsTup s.heap t vs.toArray)(hb:IsTup s.heap b ws.toArray)(hv:vs≠[])
  (h1:ws=[]->Q (.ref t) s) (h2:ws≠[]->Q (.ref s.heap.objs.size) { s with heap:=s.heap.push { cls:=.type "tuple",data:=.seq (vs++ws).toArray } })
  (hsz:vs.length+ws.length<=sizeLine):wpAny (model prog w) A (binaryOp .Add (.ref t) (.ref b)) Q E s:=by
 obtain⟨⟨cls,dd,data,sl⟩,ho,hc,n,hd⟩:=id ht;obtain⟨⟨cls2,dd2,data2,sl2⟩,ho2,hc2,n2,hd2⟩:=id hb;simp only at hc hd hc2 hd2;subst hc hd hc2 hd2;have e:vs.toArray++ws.toArray=(vs++ws).toArray:=by simp
 by_cases hw:ws=[]
 ·exact concat_meets ⟨_,ho,rfl⟩ ⟨_,ho2,rfl⟩ noFill_tuple_add seq_tuple_add PySem.F.slot_tuple_add PySem.F.entry_tuple_add (PySem.F.args_tuple_add_2 _ _)
   (tuple_addW1 t b vs.toArray ws.toArray n n2 dd dd2 sl sl2 (by simpa using hv) (by simp[hw])) ⟨ho,ho2,h1 hw⟩
 ·refine concat_meets ⟨_,ho,rfl⟩ ⟨_,ho2,rfl⟩ noFill_tuple_add seq_tuple_add PySem.F.slot_tuple_add PySem.F.entry_tuple_add (PySem.F.args_tuple_add_2 _ _)
   (tuple_addW2 t b vs.toArray ws.toArray n n2 dd dd2 sl sl2 (by simpa using hv) (by simpa using hw) (by rw[List.size_toArray,List.size_toArray];exact hsz)) ⟨ho,ho2,?_⟩
  rw[e];exact h2 hw
noncomputable def sIx(n d:Nat):Option Int->Nat
 |none=>d
 |some v=>if v<0 then(v+(n:Int)).toNat else min v.toNat n
theorem wV(n d:Nat)(hd:d<=n)(o:Option Int):sIx n d o<=n:=by
 cases o with
 |none=>exact hd
 |some v=>
  show(if v<0 then(v+(n:Int)).toNat else min v.toNat n)<=n;by_cases hv:v<0
  ·rw[if_pos hv];omega
  ·rw[if_neg hv];exact Nat.min_le_right _ _
theorem pH(v:Int)(n d:Nat):(if v<0 then max (v+(n:Int)) 0 else min v (n:Int))=((sIx n d (some v):Nat):Int):=by
 show(if v<0 then max (v+(n:Int)) 0 else min v (n:Int))=(((if v<0 then(v+(n:Int)).toNat else min v.toNat n):Nat):Int);by_cases hv:v<0
 ·simp only[if_pos hv];omega
 ·simp only[if_neg hv];omega
theorem ou(lo hi:Option Int)(n:Nat):Builtin.Slice.sliceAdjust lo hi 1 (n:Int)=(((sIx n 0 lo:Nat):Int),((sIx n n hi:Nat):Int)):=by
 have h1:¬((1:Int)<0):=by omega
 unfold Builtin.Slice.sliceAdjust;simp only[h1,if_false];refine Prod.ext ?_ ?_
 ·cases lo with
  |none=>rfl
  |some v=>exact pH v n 0
 ·cases hi with
  |none=>rfl
  |some v=>exact pH v n n
theorem nA(i j:Nat):Builtin.Slice.slicePlaces (i:Int) (j:Int) 1=j-i:=by
 unfold Builtin.Slice.slicePlaces;have h1:(1:Int)>0:=by omega
 simp only[h1,if_true,Int.ediv_one];split<;>omega
theorem io{v:Value}{o:Option Int}{Q:Option Int->Shared->Prop}(p:IsPart v o)(h:Q o s):wpAny (model prog w) A (Builtin.Slice.slicePartIndex v) Q E s:=by
 cases p with
 |none=>exact slicePart_none h
 |int i t=>exact slicePart_int h
theorem cY{sl:Addr}{vl vu:Value}{lo hi:Option Int}{n:Nat}{Q:Int×Int×Nat->Shared->Prop}(hs:s.heap.IsSliceOf sl vl vu .none)(pl:IsPart vl lo)(pu:IsPart vu hi)
  (h:Q (((sIx n 0 lo:Nat):Int),1,sIx n n hi-sIx n 0 lo) s):wpAny (model prog w) A (Builtin.Slice.sliceApplied (.ref sl) (pure (n:Int))) Q E s:=by
 obtain⟨os,hos,hcs,hds⟩:=id hs;unfold Builtin.Slice.sliceApplied Builtin.Slice.sliceFields;refine wpAny_bind (wpAny_bind (wpAny_field hos hds (x:=vl) rfl (wpAny_bind (wpAny_field hos hds (x:=vu) rfl (wpAny_bind (wpAny_field hos hds (x:=.none) rfl (wpAny_pure ?_)))))));refine wpAny_bind (slicePart_none ?_);show wpAny _ _ (if((1:Int)==0)=true then _ else _) _ _ s;rw[if_neg (by decide)];refine wpAny_bind (io pl (wpAny_bind (io pu (wpAny_bind (wpAny_pure ?_)))));show wpAny _ _ (match Builtin.Slice.sliceAdjust lo hi 1 (n:Int)with|(lo,hi)=>pure (lo,(1:Int),Builtin.Slice.slicePlaces lo hi 1)) _ _ s
 rw[ou lo hi n];show wpAny _ _ (pure (((sIx n 0 lo:Nat):Int),(1:Int),Builtin.Slice.slicePlaces ((sIx n 0 lo:Nat):Int) ((sIx n n hi:Nat):Int) 1)) _ _ s;rw[nA];exact wpAny_pure h
theorem r9(xs:Array Value)(i k:Nat):((List.range k).filterMap fun(m:Nat)=>xs[((i:Int)+(m:Int)*1).toNat]?).toArray=((xs.toList.drop i).take k).toArray:=by
 have e:(fun(m:Nat)=>xs[((i:Int)+(m:Int)*1).toNat]?)=fun m=>xs[i+m]?:=by
  funext m;have:((i:Int)+(m:Int)*1).toNat=i+m:=by omega
  rw[this]
 rw[e];have:=pick_run xs i k;rw[List.filterMap_map]at this;have e2:((fun x=>xs[x]?) ∘ fun x=>i+x)=fun m=>xs[i+m]?:=rfl
 rw[e2]at this;rw[this]
theorem fJ{t sl:Addr}{items:Array Value}{vl vu:Value}{lo hi:Option Int}{Q:Value->Shared->Prop}(ht:IsTup s.heap t items)(hs:s.heap.IsSliceOf sl vl vu .none)(pl:IsPart vl lo)(pu:IsPart vu hi)
  (hw:¬(sIx items.size 0 lo=0/\sIx items.size items.size hi=items.size))
  (h:Q (.ref s.heap.objs.size) { s with heap:=s.heap.push { cls:=.type "tuple",data:=.seq ((items.toList.drop (sIx items.size 0 lo)).take (sIx items.size items.size hi-sIx items.size 0 lo)).toArray } })
  (hsz:items.size<=sizeLine):wpAny (model prog w) A (getItem (.ref t) (.ref sl)) Q E s:=by
 have htake:sizeOk (.seq ((items.toList.drop (sIx items.size 0 lo)).take (sIx items.size items.size hi-sIx items.size 0 lo)).toArray):=by
  show((items.toList.drop (sIx items.size 0 lo)).take (sIx items.size items.size hi-sIx items.size 0 lo)).toArray.size<=sizeLine;rw[List.size_toArray,List.length_take,List.length_drop,Array.length_toList];omega
 have hj:sIx items.size items.size hi<=items.size:=wV _ _ (Nat.le_refl _) hi;obtain⟨os,hos,hcs,hds⟩:=id hs;have hTs:s.TypeIs (.ref sl) "slice":=⟨os,hos,hcs⟩;unfold getItem
 try with_reducible refine wpAny_holding ?_
 first|refine wpAny_bind (wpAny_pure ?_)|skip
 refine wpAny_bind (wpAny_sequenceKey ht.typeIs (by decide) ?_);refine wpAny_bind (wpAny_callSpecial?_slot (name:=Str.ofString "__getitem__") ht.typeIs PyProof.Rows.slot_tuple_getitem
  (wpAny_call_entry PyProof.Rows.slot_tuple_getitem ht.typeIs entry_tuple_getitem ?_ (args_tuple_getitem _ _)))
 show wpAny _ _ (Builtin.Tuple.tupleItemsOf (.ref t) >>= _) _ _ s;refine wpAny_bind (tupleItemsOf_ ht ?_);refine wpAny_bind (wpAny_typeOf hTs ?_);rw[if_pos (by decide)];refine wpAny_bind (cY hs pl pu ?_);have hno:¬((((sIx items.size 0 lo:Nat):Int)==0&&(1:Int)==1&&(sIx items.size items.size hi-sIx items.size 0 lo)==items.size)=true):=by
  intro q;rw[Bool.and_eq_true,Bool.and_eq_true]at q;have q1:((sIx items.size 0 lo:Nat):Int)=0:=eq_of_beq q.1.1;have q2:sIx items.size items.size hi-sIx items.size 0 lo=items.size:=eq_of_beq q.2;exact hw ⟨by omega,by omega⟩
 show wpAny _ _ (if(((sIx items.size 0 lo:Nat):Int)==0&&(1:Int)==1&&(sIx items.size items.size hi-sIx items.size 0 lo)==items.size)=true then _ else _) _ _ s;rw[if_neg hno,r9]
 first
  |exact wpAny_bind (m:=Builtin.Tuple.tupleExact _) (wpAny_newObj_type (wpAny_pure ⟨_,rfl,wpAny_pure h⟩) htake)
  |exact wpAny_bind (m:=Builtin.Tuple.tupleExact _) (wpAny_newObj_type (wpAny_bind (wpAny_pure (wpAny_pure ⟨_,rfl,wpAny_pure h⟩))) htake)
  |exact wpAny_bind (wpAny_bind (m:=Builtin.Tuple.tupleExact _) (wpAny_newObj_type (wpAny_pure (wpAny_pure ⟨_,rfl,wpAny_pure h⟩)) htake))
  |exact wpAny_bind (wpAny_bind (m:=Builtin.Tuple.tupleExact _) (wpAny_newObj_type (wpAny_pure ⟨_,rfl,wpAny_pure h⟩) htake))
end
end HT
namespace L2
open PySem PySem.Spec PyProof.Rows
abbrev TO:=St->Hp->(Option Int->Hp->Prop)->Prop
def PO(X:Cx)(e:Option Expr)(t:TO):Prop:=
 ∀(pins:List (Addr×Obj)) (s:Shared) (σ:St) (H:Hp) (Q:Option Int->Hp->Prop),Inv X pins σ H s->t σ H Q ->
  wpAny (model X.prog X.w) X.A (evalPart e X.env) (fun u s'=>∃o H',Inv X pins σ H' s'/\IsPart u o/\Q o H') X.xe s
noncomputable def uh:TO:=fun _ H Q=>Q none H
def y8(t:TE):TO:=fun σ H Q=>t σ H fun x H1=>∃i,x=.int i/\Q (some i) H1
section
variable{X:Cx}{e:Expr}{te:TE}{lo hi:Option Expr}{tl th:TO}{pos p2:Pos}
theorem uJ:PO X none uh:=by
 intro pins s σ H Q I h;rw[evalPart_none];exact wpAny_pure ⟨none,H,I,.none,h⟩
theorem uI(h:PE X e te):PO X (some e) (y8 te):=by
 intro pins s σ H Q I hw;rw[evalPart_some];refine aY (h pins s σ H _ I hw) fun u s1 ⟨x,H1,I1,r1,q1⟩=>?_
 obtain⟨i,rfl,q⟩:=q1;obtain⟨t,rfl⟩:=r1;exact⟨some i,H1,I1,.int i t,q⟩
def SlR(X:Cx)(r:V->Option Int->Option Int->Hp->VK->Prop):Prop:=
 ∀(pins:List (Addr×Obj)) (s:Shared) (σ:St) (H:Hp) (x:V) (v vl vu:Value) (lo hi:Option Int) (sl:Addr) (Q:VK),Inv X pins σ H s->RelV x v->s.heap.IsSliceOf sl vl vu .none->IsPart vl lo->IsPart vu hi->r x lo hi H Q ->
  ∃T id,typeLookup (.type T) "__getitem__" = pure (some (.builtin id))/\s.TypeIs v T/\wpAny (model X.prog X.w) X.A (getItem v (.ref sl)) (EP X pins σ Q) X.xe s
theorem SlR.or{r r':V->Option Int->Option Int->Hp->VK->Prop}(h:SlR X r)(h':SlR X r'):SlR X (fun x lo hi H Q=>r x lo hi H Q\/r' x lo hi H Q):=by
 intro pins s σ H x v vl vu lo hi sl Q I rx hs pl pu q;rcases q with q|q
 ·exact h pins s σ H x v vl vu lo hi sl Q I rx hs pl pu q
 ·exact h' pins s σ H x v vl vu lo hi sl Q I rx hs pl pu q
def C9(r:V->Option Int->Option Int->Hp->VK->Prop)(te:TE)(tl th:TO):TE:=fun σ H Q=>te σ H fun x H1=>tl σ H1 fun l H2=>th σ H2 fun u H3=>r x l u H3 Q
theorem sg{r:V->Option Int->Option Int->Hp->VK->Prop}(hr:SlR X r)(he:PE X e te)(hl:PO X lo tl)(hu:PO X hi th):PE X (.Subscript e (.Slice lo hi none p2) pos) (C9 r te tl th):=by
 intro pins s σ H Q I h;refine Subscript_ (aY (he pins s σ H _ I h) fun v s1 ⟨x,H1,I1,r1,q1⟩=>?_)
 refine wpAny_Slice (aY (hl pins s1 σ H1 _ I1 q1) fun vl s2 ⟨l,H2,I2,pl,q2⟩=>aY (hu pins s2 σ H2 _ I2 q2) fun vu s3 ⟨u,H3,I3,pu,q3⟩=>?_)
 rw[evalPart_none];refine wpAny_pure ?_;have I4:Inv X pins σ H3 { s3 with heap:=s3.heap.push { cls:=.type "slice",data:=.fields #[vl,vu,.none] } }:=I3.kept (t':=s3.toks) fun b ob q=>Heap.get?_push_of_some _ q
 obtain⟨T,id,hT,ht,hg⟩:=hr pins { s3 with heap:=s3.heap.push { cls:=.type "slice",data:=.fields #[vl,vu,.none] } } σ H3 x v vl vu l u s3.heap.objs.size Q I4 r1 (Heap.IsSliceOf.new ..) pl pu q3;show wpAny (model X.prog X.w) X.A (subscriptTail e (.Slice lo hi none p2) v (.ref s3.heap.objs.size)) (EP X pins σ Q) X.xe { s3 with heap:=s3.heap.push { cls:=.type "slice",data:=.fields #[vl,vu,.none] } };exact tail_any (ops:=[.ref s3.heap.objs.size,v]) ht hT hg (by with_unfolding_all rfl)
noncomputable def jA(xs:List V)(lo hi:Option Int):List V:=(xs.drop (HT.sIx xs.length 0 lo)).take (HT.sIx xs.length xs.length hi-HT.sIx xs.length 0 lo)
theorem gO(xs:List V)(lo hi:Option Int):(jA xs lo hi).length<=xs.length:=by
 unfold jA;rw[List.length_take,List.length_drop];omega
def BK(K:PySem.W.Frag):V->Option Int->Option Int->Hp->VK->Prop:=fun x lo hi H Q=>∃a xs,x=.ref a/\SqT K H a xs /\
 ¬(HT.sIx xs.length 0 lo=0/\HT.sIx xs.length xs.length hi=xs.length)/\∀p,H p=none->Q (.ref p) (upd H p (.tup (jA xs lo hi)))
theorem sl_tup:SlR X (BK X.K):=by
 intro pins s σ H x v vl vu lo hi sl Q I rx hs pl pu h;obtain⟨a,xs,rfl,hx,hw,q⟩:=h;cases rx;obtain⟨its,r,ht,hz⟩:=I.tuple hx;have hlen:its.toArray.size=xs.length:=by rw[List.size_toArray];exact r.length.symm
 refine⟨"tuple",_,PyProof.Rows.slot_tuple_getitem.lookup,ht.typeIs,?_⟩;refine HT.fJ ht hs pl pu (by rw[hlen];exact hw) ?_ (by rw[hlen];exact hz);rw[hlen];refine⟨.ref s.heap.objs.size,_,I.laid (t':=s.toks) (o:=.tup (jA xs lo hi)) (fun b ob q=>Heap.get?_push_of_some _ q) (Nat.le_refl _) ?_,rfl,q _ (I.hok.fresh (Nat.le_refl _))⟩;exact⟨Nat.le_trans (gO xs lo hi) hz,_,(r.drop (HT.sIx xs.length 0 lo)).take (HT.sIx xs.length xs.length hi-HT.sIx xs.length 0 lo),IsTup.new _ _,NoDi.new _ _⟩
def zu(K:PySem.W.Frag):R2:=fun x y H Q=>∃a b xs ys,x=.ref a/\y=.ref b/\SqT K H a xs/\SqT K H b ys/\xs≠[]/\xs.length+ys.length<=sizeLine /\
 (ys=[]->Q (.ref a) H)/\(ys≠[]->∀p,H p=none->Q (.ref p) (upd H p (.tup (xs++ys))))
theorem Vals.nil_iff{xs:List V}{us:List Value}(r:Vals xs us):us=[]↔xs=[]:=by
 cases r with
 |nil=>simp
 |cons _ _=>simp
theorem uU:OpR X (binaryOp .Add) (zu X.K):=by
 intro pins s σ H x y v u Q I rx ry h;obtain⟨a,b,xs,ys,rfl,rfl,ha,hb,hx,hz,q1,q2⟩:=h;cases rx;cases ry;obtain⟨its,r1,p1,_⟩:=I.tuple ha;obtain⟨its2,r2,p2,_⟩:=I.tuple hb;refine HT.vH p1 p2 (fun z=>hx (r1.nil_iff.mp z)) (fun z=>⟨.ref a,H,I,rfl,q1 (r2.nil_iff.mp z)⟩) (fun z=>?_) (by rw[<-r1.length,<-r2.length];exact hz)
 refine⟨.ref s.heap.objs.size,_,I.laid (t':=s.toks) (o:=.tup (xs++ys)) (fun b ob q=>Heap.get?_push_of_some _ q) (Nat.le_refl _) ?_,rfl,q2 (fun w=>z (r2.nil_iff.mpr w)) _ (I.hok.fresh (Nat.le_refl _))⟩
 exact⟨by rw[List.length_append];exact hz,_,r1.append r2,IsTup.new _ _,NoDi.new _ _⟩
end
noncomputable def tY(n:Nat)(i:Int):Option Nat:=if 0<=i then(if i<n then some i.toNat else none)else if -(n:Int)<=i then some (i+n).toNat else none
noncomputable def jn{α:Type}(xs:List α)(i:Int):Option α:=(tY xs.length i).bind fun j=>xs[j]?
theorem vi{n:Nat}{i:Int}{j:Nat}(h:tY n i=some j):seqIndex? i n=some j/\j<n /\ -(n:Int)<=i/\i<n:=by
 unfold tY at h;by_cases h0:0<=i
 ·rw[if_pos h0]at h
  by_cases h1:i<n
  ·rw[if_pos h1]at h
   have e:i.toNat=j:=Option.some.inj h;exact⟨by rw[seqIndex_of h0 h1,e],by omega,by omega,h1⟩
  ·rw[if_neg h1]at h;cases h
 ·rw[if_neg h0]at h
  by_cases h1:-(n:Int)<=i
  ·rw[if_pos h1]at h
   have e:(i+n).toNat=j:=Option.some.inj h;exact⟨by rw[seqIndex_neg (by omega) h1,e],by omega,h1,by omega⟩
  ·rw[if_neg h1]at h;cases h
theorem pM{α:Type}{xs:List α}{i:Int}{v:α}(h:jn xs i=some v):∃j,seqIndex? i xs.length=some j/\xs[j]? = some v/\j<xs.length /\ -(xs.length:Int)<=i/\i<xs.length:=by
 unfold jn at h;cases e:tY xs.length i with
 |none=>rw[e]at h;cases h
 |some j=>
  rw[e]at h;obtain⟨h1,h2,h3,h4⟩:=vi e;exact⟨j,h1,h,h2,h3,h4⟩
def la(b:Expr):Prop:=∀o i,subscripted b false o i=operate [o,i] (getItem o i)
def IxR(X:Cx)(r:R2):Prop:=
 ∀(value slice:Expr) (pins:List (Addr×Obj)) (s:Shared) (σ:St) (H:Hp) (x y:V) (v u:Value) (Q:VK),Inv X pins σ H s->RelV x v->RelV y u->r x y H Q ->
  subscripted slice false v u=operate [v,u] (getItem v u)->wpAny (model X.prog X.w) X.A (subscriptTail value slice v u) (EP X pins σ Q) X.xe s
def Cu(X:Cx)(id:String)(r:V->List V->Hp->VK->Prop):Prop:=
 ∀(pins:List (Addr×Obj)) (s:Shared) (σ:St) (H:Hp) (x:V) (xs:List V) (v:Value) (us:List Value) (Q:VK),Inv X pins σ H s->RelV x v->Vals xs us->r x xs H Q ->
  wpAny (model X.prog X.w) X.A (call (.builtin id) (v::us)) (EP X pins σ Q) X.xe s
section
variable{X:Cx}{a b:Expr}{ta tb:TE}{pos:Pos}
theorem IxR.or{r r':R2}(h:IxR X r)(h':IxR X r'):IxR X (fun x y H Q=>r x y H Q\/r' x y H Q):=by
 intro value slice pins s σ H x y v u Q I rx ry q hs;rcases q with q|q
 ·exact h value slice pins s σ H x y v u Q I rx ry q hs
 ·exact h' value slice pins s σ H x y v u Q I rx ry q hs
theorem v7{r:R2}(hr:IxR X r)(ha:PE X a ta)(hb:PE X b tb)(hs:la b):PE X (.Subscript a b pos) (y9 r ta tb):=by
 intro pins s σ H Q I h;exact Subscript_ (yt ha hb I h fun v u s2 x y H2 I2 rx ry q=>hr a b pins s2 σ H2 x y v u Q I2 rx ry q (hs _ _))
def BN(K:PySem.W.Frag):R2:=fun x y H Q=>∃p xs i v,x=.ref p/\y=.int i/\SqL K H p xs/\jn xs i=some v/\Q v H
def BM(K:PySem.W.Frag):R2:=fun x y H Q=>∃p xs i v,x=.ref p/\y=.int i/\SqT K H p xs/\jn xs i=some v/\Q v H
theorem ix_list:IxR X (BN X.K):=by
 intro value slice pins s σ H x y v u Q I rx ry h hs;obtain⟨p,xs,i,z,rfl,rfl,hq,he,q⟩:=h;cases rx;obtain⟨t,rfl⟩:=ry;obtain⟨its,r,pl,hz⟩:=I.list hq;obtain⟨j,h1,h2,h3,h4,h5⟩:=pM he;obtain⟨w,ew,rw'⟩:=r.get h2;have hl:=r.length;have hn:=nG;have fin:EP X pins σ Q w s:=⟨z,H,I,rw',q⟩;by_cases h0:0<=i
 ·have hj:i.toNat=j:=by
   rw[seqIndex_of h0 h5]at h1;exact Option.some.inj h1
  exact item_listR pl.isList h0 (by omega) (by rw[hj];simpa using ew) fin hs
 ·have hj:(i+(its.toArray.size:Int)).toNat=j:=by
   rw[seqIndex_neg (by omega) h4]at h1;rw[List.size_toArray,<-hl];exact Option.some.inj h1
  exact subscriptTail_builtinR (x:=w) pl.isList.typeIs slot_list_getitem.lookup
   (wpAny_getItem_list_neg (Q:=fun r s'=>r=w/\EP X pins σ Q r s') pl.isList (by omega) (by rw[List.size_toArray]<;>omega) (by omega) (by rw[hj];simpa using ew) ⟨rfl,fin⟩) hs
theorem xQ:IxR X (BM X.K):=by
 intro value slice pins s σ H x y v u Q I rx ry h hs;obtain⟨p,xs,i,z,rfl,rfl,hq,he,q⟩:=h;cases rx;obtain⟨t,rfl⟩:=ry;obtain⟨its,r,pl,hz⟩:=I.tuple hq;obtain⟨j,h1,h2,h3,h4,h5⟩:=pM he;obtain⟨w,ew,rw'⟩:=r.get h2;have hl:=r.length;have hn:=nG;have fin:EP X pins σ Q w s:=⟨z,H,I,rw',q⟩;exact subscriptTail_builtinR (x:=w) pl.typeIs slot_tuple_getitem.lookup
  (getItem_tuple (j:=j) (Q:=fun r s'=>r=w/\EP X pins σ Q r s') pl (by omega) (by omega) (by rw[List.size_toArray,<-hl];exact h1) (by simpa using ew) ⟨rfl,fin⟩) hs
theorem km(lo hi:Option Int)(n:Nat):(sliceBounds lo hi none n).1=((HT.sIx n 0 lo:Nat):Int)/\(sliceBounds lo hi none n).2.1=((HT.sIx n n hi:Nat):Int)/\(sliceBounds lo hi none n).2.2=1:=by
 refine⟨?_,?_,rfl⟩
 ·cases lo with
  |none=>simp[sliceBounds,HT.sIx]
  |some i=>
   simp only[sliceBounds,HT.sIx,Option.getD_none,show(1:Int)>0 by decide,if_true];by_cases h:i<0
   ·simp only[h,if_true]<;>omega
   ·simp only[h,if_false]<;>omega
 ·cases hi with
  |none=>simp[sliceBounds,HT.sIx]
  |some i=>
   simp only[sliceBounds,HT.sIx,Option.getD_none,show(1:Int)>0 by decide,if_true];by_cases h:i<0
   ·simp only[h,if_true]<;>omega
   ·simp only[h,if_false]<;>omega
theorem jp(its:List Value)(lo hi:Option Int):slicePick its.toArray lo hi none=((its.drop (HT.sIx its.length 0 lo)).take (HT.sIx its.length its.length hi-HT.sIx its.length 0 lo)).toArray:=by
 obtain⟨h1,h2,h3⟩:=km lo hi its.toArray.size;unfold slicePick;rw[h1,h2,h3];simp only[sliceRange_one,pick_run,List.size_toArray]<;>rfl
def BL(K:PySem.W.Frag):V->Option Int->Option Int->Hp->VK->Prop:=fun x lo hi H Q=>∃a xs,x=.ref a/\SqL K H a xs/\∀p,H p=none->Q (.ref p) (upd H p (.lst (jA xs lo hi)))
theorem sl_list:SlR X (BL X.K):=by
 intro pins s σ H x v vl vu lo hi sl Q I rx hs pl pu h;obtain⟨a,xs,rfl,hx,q⟩:=h;cases rx;obtain⟨its,r,ht,hz⟩:=I.list hx;have hlen:=r.length;refine⟨"list",_,slot_list_getitem.lookup,ht.isList.typeIs,?_⟩;refine wpAny_getItem_list_slice ht.isList hs pl pu .none (by simp) ?_ (by rw[List.size_toArray]<;>omega);rw[jp,<-hlen];refine⟨.ref s.heap.objs.size,_,I.laid (t':=s.toks) (o:=.lst (jA xs lo hi)) (fun b ob q=>Heap.get?_push_of_some _ q) (Nat.le_refl _) ?_,rfl,q _ (I.hok.fresh (Nat.le_refl _))⟩;exact⟨Nat.le_trans (gO xs lo hi) hz,_,0,(r.drop (HT.sIx xs.length 0 lo)).take (HT.sIx xs.length xs.length hi-HT.sIx xs.length 0 lo),Heap.get?_push_size _ rfl⟩
noncomputable def dZ:V->Bool
 |.non=>true
 |.bl _=>true
 |.int _=>true
 |.str _=>true
 |_=>false
noncomputable def t6:V->V->Bool
 |.non,.non=>true
 |.bl a,.bl b=>a==b
 |.bl a,.int b=>(if a then 1 else 0)==b
 |.int a,.bl b=>a==(if b then 1 else 0)
 |.int a,.int b=>a==b
 |.str a,.str b=>a==b
 |_,_=>false
theorem yl{A:Around}{s:Shared}{y x:V}{u v:Value}(ry:RelV y u)(rx:RelV x v)(fy:dZ y=true)(fx:dZ x=true):SeqAt.EqAt A s u v (t6 y x):=by
 cases y with
 |non=>
  cases ry;cases x with
  |non=>cases rx;exact SeqAt.EqAt.same _
  |bl b=>cases rx;exact SeqAt.EqAt.none_bool b
  |int b=>obtain⟨t,rfl⟩:=rx;exact SeqAt.EqAt.none_int b t
  |str b=>obtain⟨t,rfl⟩:=rx;exact SeqAt.EqAt.none_str b t
  |_=>exact absurd (show false=true from fx) Bool.false_ne_true
 |bl a=>
  cases ry;cases x with
  |non=>cases rx;exact SeqAt.EqAt.bool_none a
  |bl b=>cases rx;exact SeqAt.EqAt.bool_bool a b
  |int b=>obtain⟨t,rfl⟩:=rx;exact SeqAt.EqAt.bool_int a b t
  |str b=>obtain⟨t,rfl⟩:=rx;exact SeqAt.EqAt.bool_str a b t
  |_=>exact absurd (show false=true from fx) Bool.false_ne_true
 |int a=>
  obtain⟨t',rfl⟩:=ry;cases x with
  |non=>cases rx;exact SeqAt.EqAt.int_none a t'
  |bl b=>cases rx;exact SeqAt.EqAt.int_bool a t' b
  |int b=>obtain⟨t,rfl⟩:=rx;exact SeqAt.EqAt.int_int a t' b t
  |str b=>obtain⟨t,rfl⟩:=rx;exact SeqAt.EqAt.int_str a t' b t
  |_=>exact absurd (show false=true from fx) Bool.false_ne_true
 |str a=>
  obtain⟨t',rfl⟩:=ry;cases x with
  |non=>cases rx;exact SeqAt.EqAt.str_none a t'
  |bl b=>cases rx;exact SeqAt.EqAt.str_bool a t' b
  |int b=>obtain⟨t,rfl⟩:=rx;exact SeqAt.EqAt.str_int a t' b t
  |str b=>obtain⟨t,rfl⟩:=rx;exact SeqAt.EqAt.str_str a t' b t
  |_=>exact absurd (show false=true from fx) Bool.false_ne_true
 |_=>exact absurd (show false=true from fy) Bool.false_ne_true
noncomputable def vC(x:V)(u:Value):Bool:=match u with
 |.none=>t6 .non x
 |.bool b=>t6 (.bl b) x
 |.int i _=>t6 (.int i) x
 |.str z _=>t6 (.str z) x
 |_=>false
theorem tF{x y:V}{u:Value}(r:RelV y u)(f:dZ y=true):vC x u=t6 y x:=by
 cases y with
 |non=>cases r;rfl
 |bl b=>cases r;rfl
 |int i=>obtain⟨t,rfl⟩:=r;rfl
 |str z=>obtain⟨t,rfl⟩:=r;rfl
 |_=>exact absurd (show false=true from f) Bool.false_ne_true
theorem kZ{x:V}:∀{xs:List V} {us:List Value},Vals xs us->xs.all dZ=true->us.any (vC x)=xs.any fun y=>t6 y x
 |_,_,.nil,_=>rfl
 |y::xs,u::us,.cons r t,f=>by
  rw[List.all_cons,Bool.and_eq_true]at f;rw[List.any_cons,List.any_cons,tF r f.1,kZ t f.2]
theorem iJ{A:Around}{s:Shared}{x:V}{v:Value}(rx:RelV x v)(fx:dZ x=true):∀{xs:List V} {us:List Value},Vals xs us->xs.all dZ=true->∀u∈us,SeqAt.EqAt A s u v (vC x u)
 |_,_,.nil,_=>fun u hu=>by cases hu
 |y::xs,u::us,.cons r t,f=>fun u' hu=>by
  rw[List.all_cons,Bool.and_eq_true]at f;rcases List.mem_cons.mp hu with rfl|hu
  ·rw[tF r f.1];exact yl r rx f.1 fx
  ·exact iJ rx fx t f.2 u' hu
noncomputable def A9(x:V)(xs:List V):Bool:=xs.any fun y=>t6 y x
def BO(K:PySem.W.Frag)(neg:Bool):R2:=fun x y H Q=>∃p xs,y=.ref p/\(SqL K H p xs\/SqT K H p xs)/\dZ x=true/\xs.all dZ=true/\Q (.bl (if neg then !A9 x xs else A9 x xs)) H
theorem qq:OpR X (compareOp .In) (BO X.K false):=by
 intro pins s σ H x y v u Q I rx ry h;obtain⟨p,xs,rfl,hq,fx,fs,q⟩:=h;cases ry;rcases hq with hq|hq
 ·obtain⟨its,r,pl,hz⟩:=I.list hq
  refine SeqAt.in_listAt (vC x) pl.isList (fun w hw=>iJ rx fx r fs w (by simpa using hw)) ⟨.bl _,H,I,rfl,?_⟩
  rw[show its.toArray.any (vC x)=its.any (vC x) by simp,kZ r fs];exact q
 ·obtain⟨its,r,pl,hz⟩:=I.tuple hq
  refine SeqAt.in_tupleAt (vC x) pl (fun w hw=>iJ rx fx r fs w (by simpa using hw)) ⟨.bl _,H,I,rfl,?_⟩
  rw[show its.toArray.any (vC x)=its.any (vC x) by simp,kZ r fs];exact q
theorem kQ:CallR X (.type "list") (fun xs H Q=>∃p ys,xs=[.ref p]/\(SqL X.K H p ys\/SqT X.K H p ys)/\∀l,H l=none->Q (.ref l) (upd H l (.lst ys))):=by
 intro pins s σ H xs us Q I r h;obtain⟨p,ys,rfl,hq,q⟩:=h;obtain⟨u,rfl,rx⟩:=ii r;cases rx;have fin:∀(its:List Value),Vals ys its->ys.length<=sizeLine->∀(h':Heap) (c':Nat),(∀b o',s.heap.get? b=some o'->h'.get? b=some o') ->
   h'.get? s.heap.objs.size=some { cls:=.type "list",dict:=none,data:=.seq its.toArray c',slots:=#[] }->EP X pins σ Q (.ref s.heap.objs.size) { s with heap:=h' }:=fun its r' hz h' c' kp e=>
  ⟨.ref s.heap.objs.size,_,I.laid (t':=s.toks) kp (Nat.le_refl _) (show ObjOk X.prog X.w _ h' _ (.lst ys)from ⟨hz,its,c',r',e⟩),rfl,q _ (I.hok.fresh (Nat.le_refl _))⟩
 rcases hq with hq|hq
 ·obtain⟨its,r',pl,hz⟩:=I.list hq
  have hlen:=r'.length;obtain⟨o,ho,hc,n,hd⟩:=pl.isList;exact call_list_seq p (.inl rfl) ho hc hd (fun h' c' kp e=>fin its r' hz h' c' kp e) (by simp only[List.size_toArray]<;>omega)
 ·obtain⟨its,r',pl,hz⟩:=I.tuple hq
  have hlen:=r'.length;obtain⟨o,ho,hc,n,hd⟩:=pl;exact call_list_seq p (.inr rfl) ho hc hd (fun h' c' kp e=>fin its r' hz h' c' kp e) (by simp only[List.size_toArray]<;>omega)
theorem jC:CallR X (.type "tuple") (fun xs H Q=>∃p ys,xs=[.ref p]/\((SqL X.K H p ys/\∀l,H l=none->Q (.ref l) (upd H l (.tup ys)))\/(SqT X.K H p ys/\Q (.ref p) H))):=by
 intro pins s σ H xs us Q I r h;obtain⟨p,ys,rfl,h⟩:=h;obtain⟨u,rfl,rx⟩:=ii r;cases rx;rcases h with⟨hq,q⟩|⟨hq,q⟩
 ·obtain⟨its,r',pl,hz⟩:=I.list hq
  have hlen:=r'.length;refine call_tuple_list pl.isList (fun h' kp=>?_) (by simp only[List.size_toArray]<;>omega);have I1:Inv X pins σ H { s with heap:=h' }:=I.kept (t':=s.toks) kp;have I2:Inv X pins σ (upd H h'.objs.size (.tup ys)) { s with heap:=h'.push { cls:=.type "tuple",data:=.seq its.toArray } }:=
   I1.laid (t':=s.toks) (fun b o e=>Heap.get?_push_of_some _ e) (Nat.le_refl _) (show ObjOk X.prog X.w _ _ _ (.tup ys)from ⟨hz,its,r',IsTup.new _ _,NoDi.new _ _⟩)
  exact⟨.ref h'.objs.size,_,I2,rfl,q _ (I1.hok.fresh (Nat.le_refl _))⟩
 ·obtain⟨its,r',pl,hz⟩:=I.tuple hq
  exact call_tuple_same pl ⟨.ref p,H,I,rfl,q⟩
def Bk(K:PySem.W.Frag)(T:String)(x:V)(H:Hp):Prop:=match x with
 |.str _=>T = "str"
 |.int _=>T = "int"
 |.ref p=>(T = "list" /\ ∃xs,SqL K H p xs)\/(T = "tuple" /\ ∃o,K.lookup p=some o/\o.cls=.type "tuple" /\ o.dict=none) \/
   (T = "dict" /\ ((∃kvs,H p=some (.dK kvs))\/∃kvs,H p=some (.dT kvs)))\/(T = "set" /\ ∃S n,H p=some (.set S n))
 |_=>False
theorem rm{pins:List (Addr×Obj)}{σ:St}{H:Hp}{s:Shared}{T:String}{x:V}{v:Value}(I:Inv X pins σ H s)(r:RelV x v)(ty:Bk X.K T x H):
  s.TypeIs v T/\∀a,v=.ref a->∃ob,s.heap.get? a=some ob/\ob.dict=none:=by
 cases x with
 |str z=>
  obtain⟨t,rfl⟩:=r;cases(show T = "str" from ty);exact⟨typeIs_str s z t,fun _ e=>nomatch e⟩
 |int i=>
  obtain⟨t,rfl⟩:=r;cases(show T = "int" from ty);exact⟨typeIs_int s i t,fun _ e=>nomatch e⟩
 |ref p=>
  cases r;rcases ty with⟨rfl,xs,hq⟩|⟨rfl,o,hk,hc,hd⟩|⟨rfl,hk⟩|⟨rfl,S,n,hk⟩
  ·obtain⟨its,_,pl,_⟩:=I.list hq
   refine⟨pl.isList.typeIs,fun a e=>?_⟩
   cases e;obtain⟨o,n,e,c,hd,_⟩:=pl;exact⟨o,e,hd⟩
  ·refine⟨⟨o,I.kIn p o hk,hc⟩,fun a e=>?_⟩
   cases e;exact⟨o,I.kIn _ o hk,hd⟩
  ·have z:∃o,s.heap.get? p=some o/\o.ExactDict:=by
    rcases hk with⟨kvs,hk⟩|⟨kvs,hk⟩
    ·obtain⟨_,_,_,_,o,_,_,e,ex,_⟩:=I.hok p _ hk
     exact⟨o,e,ex⟩
    ·obtain⟨_,_,_,_,o,_,_,e,ex,_⟩:=I.hok p _ hk
     exact⟨o,e,ex⟩
   obtain⟨o,e,ex⟩:=z;refine⟨⟨o,e,ex.1⟩,fun a e2=>?_⟩
   cases e2;exact⟨o,e,ex.2.1⟩
  ·obtain⟨o,_,_,_,e,ex,_⟩:=I.hok p _ hk
   refine⟨⟨o,e,ex.1⟩,fun a e2=>?_⟩
   cases e2;exact⟨o,e,ex.2.1⟩
 |_=>exact False.elim ty
def By(K:PySem.W.Frag)(T:String)(r:V->List V->Hp->VK->Prop)(to:TE):TE:=fun σ H Q=>to σ H fun x H1=>Bk K T x H1/\r x [] H1 Q
def Db(K:PySem.W.Frag)(T:String)(r:V->List V->Hp->VK->Prop)(to:TE)(t:TA):TE:=fun σ H Q=>to σ H fun x H1=>Bk K T x H1/\t σ H1 fun xs H2=>r x xs H2 Q
variable{o e:Expr}{es:List Expr}{to:TE}{t:TA}{name:Str}{apos cpos:Pos}{T id:String}{r:V->List V->Hp->VK->Prop}
theorem xu(pa:PlainAttrs T)(slot:Slot T name id)(hty:typeOf (.builtin id)=pure (.type "method_descriptor"))(hm:Cu X id r)(ho:PE X o to)
  (hbase:attributeBase o name X.env (eval o X.env)=eval o X.env:=by rfl) (hline:(apos.endLine==cpos.line)=true:=by rfl):PE X (.Call (.Attribute o name apos) [] [] cpos) (By X.K T r to):=by
 intro pins s σ H Q I h;refine wpAny_Call_method0_late hbase hline (aY (ho pins s σ H _ I h) fun v s1 ⟨x,H1,I1,r1,ty,q1⟩=>?_)
 obtain⟨h1,h2⟩:=rm I1 r1 ty;exact⟨T,id,pa,slot,hty,h1,h2,Calls.callWith_builtin rfl (PySem.evalArgs_none (hm pins s1 σ H1 x [] v [] Q I1 r1 .nil q1))⟩
theorem v9(pa:PlainAttrs T)(slot:Slot T name id)(hty:typeOf (.builtin id)=pure (.type "method_descriptor"))(hm:Cu X id r)(ho:PE X o to)(ha:PA X (e::es) t)
  (hbase:attributeBase o name X.env (eval o X.env)=eval o X.env:=by rfl)
  (hfew:((backTo cpos (starEach (e::es) X.env)).all (fun x=>!x.1)&&(backToKw cpos (keywordEach [] X.env)).all (fun x=>x.1.isSome)
   && decide ((e::es).length+([]:List Keyword).length+(if([]:List Keyword).isEmpty then 0 else 1)<30))=true:=by rfl)
  (hline:(apos.endLine==cpos.line)=true:=by rfl) (hs:starEach (e::es) X.env=(false,eval e X.env)::starEach es X.env:=by rfl) (hplain:(backTo cpos (starEach es X.env)).any (·.1)=false:=by rfl) :
  PE X (.Call (.Attribute o name apos) (e::es) [] cpos) (Db X.K T r to t):=by
 intro pins s σ H Q I h;refine wpAny_Call_method_late hbase hfew hline rfl (aY (ho pins s σ H _ I h) fun v s1 ⟨x,H1,I1,r1,ty,q1⟩=>?_)
 obtain⟨h1,h2⟩:=rm I1 r1 ty;refine⟨T,id,pa,slot,hty,h1,h2,?_⟩;have hA:=ha cpos pins s1 σ H1 _ I1 q1;rw[hs]at hA ⊢;refine Calls.callWith_builtin (by show(false||(backTo cpos (starEach es X.env)).any (·.1))=false;rw[hplain]<;>rfl) (Calls.evalArgs_plain ?_);exact aY hA fun us s2 ⟨vs,H2,I2,r2,q2⟩=>hm pins s2 σ H2 x vs v us Q I2 r1 r2 q2
end
def C0(X:Cx)(id:String)(r:V->List V->Hp->VK->Prop):Prop:=
 ∀(pins:List (Addr×Obj)) (s:Shared) (σ:St) (H:Hp) (x:V) (xs:List V) (v:Value) (us:List Value) (Q:VK),Inv X pins σ H s->RelV x v->Vals xs us->r x xs H Q ->
  wpAny (model X.prog X.w) X.A (call (.builtin id) (v::us)) (EP X pins σ Q) X.xe s
theorem Vals.one:∀{x:V} {us:List Value},Vals [x] us->∃u,us=[u]/\RelV x u
 |_,_,h=>by
  cases h with
  |cons r t=>
   cases t;exact⟨_,rfl,r⟩
section
variable{X:Cx}{pins:List (Addr×Obj)}{σ:St}{H:Hp}{s:Shared}{l b:Addr}{xs ys zs:List V}
theorem Inv.lset{its its':List Value}{n:Nat}{f:Array Value->Array Value}{t':Nat}(I:Inv X pins σ H s)(hH:H l=some (.lst xs))
  (e:s.heap.get? l=some { cls:=.type "list",data:=.seq its.toArray n }) (hf:f its.toArray=its'.toArray) (hv:Vals ys its') (hz:ys.length<=sizeLine) :
  Inv X pins σ (upd H l (.lst ys)) { s with heap:=s.heap.update l (Obj.mapSeq f),toks:=t' }:=by
 have q:=PySem.IsL.update e f;rw[hf]at q;refine I.write (x:=l) (e:=l) (by rw[hH];exact trivial) (.inl rfl) (fun b' u hb hu=>(Heap.get?_update_other s.heap (Obj.mapSeq f) (Ne.symm hb)).trans hu) ⟨_,q⟩ ?_
 exact⟨hz,its',_,hv,q⟩
theorem Inv.lnew{its:List Value}{t':Nat}(I:Inv X pins σ H s)(hv:Vals ys its)(hz:ys.length<=sizeLine):
  Inv X pins σ (upd H s.heap.objs.size (.lst ys)) { s with heap:=s.heap.push { cls:=.type "list",data:=.seq its.toArray },toks:=t' }:=
 I.laid (fun _ _ q=>Heap.get?_push_of_some _ q) (Nat.le_refl _) ⟨hz,its,0,hv,Heap.get?_push_size _ rfl⟩
theorem Inv.fresh(I:Inv X pins σ H s):H s.heap.objs.size=none:=I.hok.fresh (Nat.le_refl _)
theorem Inv.lstM(I:Inv X pins σ H s)(hH:H l=some (.lst xs)):xs.length<=sizeLine/\∃(its:List Value) (n:Nat),Vals xs its/\xs.length=its.length/\s.heap.get? l=some { cls:=.type "list",data:=.seq its.toArray n }:=by
 obtain⟨z,its,n,r,e⟩:=I.hok l _ hH;exact⟨z,its,n,r,r.length,e⟩
theorem sB{n:Nat}(h:n<=sizeLine):Builtin.List.listTooLong n=false:=by
 unfold Builtin.List.listTooLong;exact decide_eq_false (by omega)
end
section
variable{X:Cx}
def uz:V->List V->Hp->VK->Prop:=fun x vs H Q=>∃l xs y,x=.ref l/\vs=[y]/\H l=some (.lst xs)/\xs.length<sizeLine/\Q .non (upd H l (.lst (xs++[y])))
theorem qv:C0 X "list.append" uz:=by
 intro pins s σ H x vs v us Q I rx rv h;obtain⟨l,xs,y,rfl,rfl,hH,hz,q⟩:=h;cases rx;obtain⟨u,rfl,ru⟩:=rv.one;obtain⟨z,its,n,r,hl,e⟩:=I.lstM hH;refine call_meets F.slot_list_append ⟨_,e,rfl⟩ F.entry_list_append (F.args_list_append_2 _ _) (PySem.list_append l its.toArray n u (by rw[List.size_toArray];omega)) ⟨e,?_⟩;refine⟨.non,_,I.lset (its':=its++[u]) hH e (by simp) (r.append (.cons ru .nil)) ?_,rfl,q⟩;rw[List.length_append,List.length_singleton];omega
end
end L2
namespace Att
open PySem PySem.W PySem.Calls PyProof.Rows
theorem gY{P:Params}{h:Heap}:∀(ns:List Int) (vs:List Value),WellAll P h vs (ns.map WData.int)->IntsAre vs ns:=by
 intro ns
 induction ns with
 |nil=>
  intro vs w;rw[List.map_nil]at w;cases w;exact .nil
 |cons n ns ih=>
  intro vs w;rw[List.map_cons]at w;cases w with
  |cons a b=>
   cases a;exact .cons _ _ (ih _ b)
theorem p7{l:OpenLaw}{n:Nat}(hn:l.most=some n){P:Params}{h:Heap}{args:List WData}{vals:List Value}
  (hpre:l.row.toRowW.claim.pre args=true) (hwl:WellAll P h vals args) :
  ∃a vs ns,vals=[Value.ref a]/\args=[WData.list (ns.map WData.int)]/\h.get? a=some { cls:=.type "list",data:=.seq vs.toArray }/\IntsAre vs ns/\ns.length<=n:=by
 have hsh:WShape.hasAll [] args [.list .int]=true:=(pre_splitW hpre).1;have hc:l.pre.holds [] { args:=args }=true:=(pre_splitW hpre).2;obtain⟨d,r,rfl,h1,h2⟩:=hasAllW_cons hsh;obtain rfl:=hasAllW_nil h2;obtain⟨xs,rfl,h3⟩:=hasW_list h1;obtain⟨ns,rfl⟩:=items_int h3;have hlen:ns.length<=n:=by
  unfold OpenLaw.pre at hc;have h4:(WTm.not (.lt (.lit (.int (n:Int))) (.len (.arg 0)))).holds [] { args:=[.list (ns.map .int)] }=true:=by
   have h4:=(holds_andW hc).1;rw[hn]at h4;exact h4
  have h5:=condW_of h4 (w_not (w_lt w_lit (w_len_list (w_arg rfl))));rw[List.length_map]at h5;refine Nat.le_of_not_lt fun q=>?_
  have q':(n:Int)<((ns.length:Nat):Int):=by omega
  first
   | (rw[decide_eq_true q']at h5;exact absurd h5 (by decide))
   | (simp at h5;omega)
 cases hwl with
 |cons w1 w2=>
  cases w2;cases w1 with
  |list ho hall=>exact⟨_,_,ns,rfl,rfl,ho,gY ns _ hall,hlen⟩
theorem qj(l:OpenLaw)(args:List WData):l.row.toRowW.claim.post args (.bool true) args=true:=
 postW_of (r:=l.row.toRowW) (X:=(true==true))
  (show WShape.has [] (.bool true) .bool=true by first|rfl|decide|simp[WShape.has,WShape.arms,WShape.armsAll])
  (show(WTm.eq .res (.lit (.bool true))).value [] { args:=args,res:=some (.bool true),after:=args }=some (.bool (true==true))from w_eq_bool (w_res rfl) w_lit) rfl
theorem mV{l:OpenLaw}{n:Nat}{q:Program}{loose:List Str}{XP:(Str->Option Value)->Heap->Prop}{YP:World->Heap->Prop}{d:DefRec}
  (hn:l.most=some n) (hdf:d.params.defaults=[])
  (call:∀(w:World) (s₀ s₁:Shared) (mg mb:Str->Option Value) (fa:Addr) (o:Obj) (pm cd doc:Value) (a:Addr) (vs:List Value) (ns:List Int),
   Ground q loose [] XP w s₀ mg mb s₁.heap->YP w s₁.heap ->
   s₁.heap.get? fa=some o->o.data=.func (docDef d.name d.params d.body d.scope pm cd doc)->s₁.heap.CodeRec cd d.name->mg d.name=some (.ref fa) ->
   s₁.heap.get? a=some { cls:=.type "list",data:=.seq vs.toArray }->IntsAre vs ns->ns.length<=n->s₁.gens = #[] ->
   codeAny (model l.prog w) callerA (.call (.ref fa) ⟨[.ref a],[]⟩) (fun r s'=>r=.ok (.ret (.bool true))/\OldK s₁.heap s'.heap/\s'.os=s₁.os/\AllBare s'.gens) s₁) :
  WalkO q loose XP YP l.row.toRowW d [] (fun f vs=>PySem.call f vs):=by
 intro w s₀ s₁ mg mb G Y fa o pm cd doc dV kV ho hd hcd hD hmg hg args vals as hpre hlay hrd hwl hlo;obtain rfl:dV=.none:=Dflts.none hD hdf;obtain rfl:kV=.none:=Dflts.noKw hD;obtain⟨a,vs,ns,rfl,rfl,hobj,hints,hlen⟩:=p7 hn hpre hwl;refine enter_call (codeAny_mono (call w s₀ s₁ mg mb fa o pm cd doc a vs ns G Y ho (fd_plain hd) hcd hmg hobj hints hlen hg) fun r s' hq=>?_)
 obtain⟨rfl,h2,h3,h4⟩:=hq;exact⟨.inl ⟨.bool true,.bool true,[],rfl,fun _=>rfl,.bool true,qj l _,fun _=>⟨List.Pairwise.nil,fun _ hm=>(nomatch hm)⟩⟩,h2,h3,h4⟩
section
variable{prog:Program}{w:World}{A:Around}{E:Value->Shared->Prop}{s:Shared}{K:Frag}
noncomputable def B2(h:Heap)(L d:Addr):List (Addr×Obj):=(List.range h.objs.size).filterMap fun a=>if a=L\/a=d then none else(h.get? a).map fun o=>(a,o)
end
end Att
namespace L2
open PySem PySem.Spec PyProof.Rows
theorem bY:∀{vs:List Value} {ns:List Int},IntsAre vs ns->Vals (ns.map V.int) vs
 |_,_,.nil=>.nil
 |_,_,.cons n t h=>.cons ⟨t,rfl⟩ (bY h)
def yF(H:Hp):Prop:=∀b,H b=none\/∃o xs,H b=some (.frz o (.lst xs))
theorem sL{P:Program}{w:World}{K:PySem.W.Frag}{mg mb:Str->Option Value}{CX:pO}{k:Nat}{fa a:Addr}{fd:FuncData}{x:Str}{sp:Sp}{s₁:Shared}{vs:List Value}{ns:List Int}
  (KX:K.In s₁.heap) (hns:s₁.heap.Ns mainGlobals mg) (hb:s₁.heap.Ns builtinsNs mb) (hbb:∀x:Str,x ≠ "__name__" -> mb x=bootBuiltins x) (hlim:s₁.heap.NoLimit) (hg:s₁.gens = #[])
  (ha:s₁.heap.get? a=some { cls:=.type "list",data:=.seq vs.toArray }) (hi:IntsAre vs ns) (hl:ns.length<=sizeLine) (hr:Room k callerA)
  (F:∀base:Heap,K.In base->base.Ns mainGlobals mg->FnOk P w K mg base CX k fa fd [x] sp) (hbind:∀(s:Shared) (u:Value),BindsTo s fd ⟨[u],[]⟩ [(x,u)])
  (hsp:∀H:Hp,yF H->SqL K H a (ns.map V.int)->sp [.ref a] H (fun v _=>v=.bl true) fun _ _ _=>False)
  (hCX:∀H e s',CX [] H s₁ (fun _ _ _=>False) e s'->False) :
  codeAny (model P w) callerA (.call (.ref fa) ⟨[.ref a],[]⟩) (fun r s'=>r=.ok (.ret (.bool true))/\OldK s₁.heap s'.heap/\s'.os=s₁.os/\AllBare s'.gens) s₁:=by
 have rv:=bY hi;have lenV:=hi.length;have core:∀H:Hp,yF H->SqL K H a (ns.map V.int)->HOk P w H s₁.heap->(∀b,H b≠none->b=a)->(H a≠none->K.lookup a=none) ->
   codeAny (model P w) callerA (.call (.ref fa) ⟨[.ref a],[]⟩) (fun r s'=>r=.ok (.ret (.bool true))/\OldK s₁.heap s'.heap/\s'.os=s₁.os/\AllBare s'.gens) s₁:=by
  intro H hO hS hok hA hK;have base_of:∀{b:Addr} {o:Obj},s₁.heap.get? b=some o->H b=none->(kH s₁.heap H).get? b=some o:=fun e n=>sR e n
  have noA:∀{b:Addr} {o:Obj} {es:Array DictEntry} {ep:Nat},s₁.heap.get? b=some o->o.data=.dict es ep->H b=none:=fun{b o es ep} e d=>by
   cases q:H b with
   |none=>rfl
   |some u=>
    have e':b=a:=hA b (by rw[q];simp);subst e';rw[ha]at e;cases e;have d':Data.seq vs.toArray _=Data.dict es ep:=d;cases d'
  have nsK:∀{b:Addr} {m:Str->Option Value},s₁.heap.Ns b m->(kH s₁.heap H).Ns b m:=fun{b m} ⟨o,es,ep,e,d,r⟩=>⟨o,es,ep,base_of e (noA e d),d,r⟩
  have hKb:K.In (kH s₁.heap H):=fun b o e=>base_of (KX b o e) (by
   cases q:H b with
   |none=>rfl
   |some u=>
    have e':b=a:=hA b (by rw[q];simp);subst e';rw[hK (by rw[q];simp)]at e;cases e)
  have hM:Mod K mg (kH s₁.heap H):=⟨hKb,nsK hns,⟨mb,nsK hb,hbb⟩,let ⟨mc,h1,h2⟩:=hlim; ⟨mc,nsK h1,h2⟩⟩;have e0:Env0 P w K mg (kH s₁.heap H) callerA [] s₁ H:=⟨rfl,hM,fun b o e=>uX e,Nat.le_of_eq (qO _ _),trivial,fun b hb=>absurd (show b∈([]:List Addr)from hb) (by simp),hok,.of_eq hg⟩
  refine codeAny_mono ((F _ hKb (nsK hns)).run callerA [] s₁ H ⟨[.ref a],[]⟩ [.ref a] [.ref a] _ _ hr e0 (hbind s₁ (.ref a)) (.cons rfl .nil) (hsp H hO hS)) fun r s' h=>?_
  cases r with
  |error e=>exact(hCX H e s' h).elim
  |ok fl=>
   cases fl with
   |next=>exact False.elim h
   |brk=>exact False.elim h
   |cont=>exact False.elim h
   |ret u=>
    obtain⟨v,H',os,bare,un,hok',r',q⟩:=h;have q':v=.bl true:=q;subst q';obtain rfl:u=Value.bool true:=r';refine⟨rfl,OldK.of_keep fun b o e=>?_,os,bare⟩
    cases q:H b with
    |none=>exact un.keep b o e q (by intro z;exact absurd (show b∈([]:List Addr)from z) (by simp)) (by simp)
    |some u=>
     rcases hO b with z|⟨ob,xs,z⟩
     ·rw[q]at z;cases z
     ·have z2:=un.frzs b ob _ z
      obtain⟨e1,_⟩:=hok b _ z;obtain⟨e2,_⟩:=hok' b _ z2;rw[e]at e1;cases e1;exact e2
 cases hk:K.lookup a with
 |some o=>
  have e:=KX a o hk;rw[ha]at e;cases e;refine core (fun _=>none) (fun _=>.inl rfl) (.inr ⟨_,vs.toArray,_,hk,rfl,rfl,rfl,by rw[List.size_toArray,lenV];exact hl,by simpa using rv⟩) (fun b u z=>by have z':(none:Option HO)=some u:=z;cases z') (fun b z=>absurd rfl z) fun z=>absurd rfl z
 |none=>
  refine core (fun b=>if b=a then some (.frz { cls:=.type "list",data:=.seq vs.toArray } (.lst (ns.map V.int)))else none) (fun b=>?_) (.inl (.inr ⟨{ cls:=.type "list",data:=.seq vs.toArray },if_pos rfl⟩)) (fun b u z=>?_) (fun b z=>?_) fun _=>hk
  ·by_cases hb:b=a
   ·exact .inr ⟨_,_,if_pos hb⟩
   ·exact .inl (if_neg hb)
  ·by_cases hb:b=a
   ·have z':=(if_pos hb).symm.trans z
    cases z';subst hb;exact⟨ha,by rw[List.length_map];exact hl,vs,_,rv,ha⟩
   ·have z':=(if_neg hb).symm.trans z
    cases z'
  ·by_cases hb:b=a
   ·exact hb
   ·exact absurd (if_neg hb) z
abbrev Du{K:PySem.W.Frag}{h:Heap}(_:K.In h):PySem.W.Frag:=K
theorem ud{l:PySem.W.OpenLaw}{n k:Nat}{q:Program}{loose:List Str}{XP:(Str->Option Value)->Heap->Prop}{YP:World->Heap->Prop}{d:DefRec}{K:Params->PySem.W.Frag}{CX:World->pO}{sp:World->Sp}{x:Str}
  (hn:l.most=some n) (hn2:n<=sizeLine) (hdf:d.params.defaults=[]) (hr:Room k callerA)
  (hY:∀(w:World) (h:Heap),YP w h->(K w.params).In h)
  (F:∀(w:World) (mg:Str->Option Value) (fa:Addr) (h:Heap),(K w.params).In h->h.Ns mainGlobals mg->mg d.name=some (.ref fa) ->
   ∃fd:FuncData,(∀(s:Shared) (u:Value),BindsTo s fd ⟨[u],[]⟩ [(x,u)]) /\
    ∀base:Heap,(K w.params).In base->base.Ns mainGlobals mg->FnOk l.prog w (K w.params) mg base (CX w) k fa fd [x] (sp w))
  (hsp:∀(w:World) (H:Hp) (a:Addr) (ns:List Int),ns.length<=n->yF H->SqL (K w.params) H a (ns.map V.int)->sp w [.ref a] H (fun v _=>v=.bl true) fun _ _ _=>False)
  (hCX:∀(w:World) (H:Hp) (s:Shared) (e:Value) (s':Shared),CX w [] H s (fun _ _ _=>False) e s'->False) :
  PySem.W.WalkO q loose XP YP l.row.toRowW d [] (fun f vs=>PySem.call f vs):=by
 refine Att.mV hn hdf fun w s₀ s₁ mg mb fa o pm cd doc a vs ns G Y ho hd hcd hmg hobj hints hlen hg=>?_
 have KX:=hY w _ Y;obtain⟨fd,hb,hF⟩:=F w mg fa _ KX G.T.g hmg;exact sL KX G.T.g G.T.b G.T.builtins G.T.nolimit hg hobj hints (Nat.le_trans hlen hn2) hr hF hb (fun H hO hS=>hsp w H a ns hlen hO hS) fun H e s'=>hCX w H s₁ e s'
noncomputable def cR(s:Stmt):Arguments:=match s with
 |.FunctionDef _ a _ _ _ _ _ _ _ _=>a
 |_=>{ posonlyargs:=[],args:=[],vararg:=none,kwonlyargs:=[],kw_defaults:=[],kwarg:=none,defaults:=[] }
noncomputable def cg(s:Stmt):List Stmt:=match s with
 |.FunctionDef _ _ b _ _ _ _ _ _ _=>b
 |_=>[]
noncomputable def ag(s:Stmt):Scope:=match s with
 |.FunctionDef _ _ _ _ _ _ sc _ _ _=>sc
 |_=>{ kind:=.function,names:=[],isGenerator:=false,isCoroutine:=false }
abbrev fT:pO:=fun _ _ _ _ _ _=>False
abbrev E0:XK:=fun _ _ _=>False
theorem zE{X:Cx}:lb fT X E0:=fun _ _ _ _ _ _ _ h=>h.elim
def Same(H H':Hp):Prop:=∀b o,H b=some o->H' b=some o
theorem Same.refl(H:Hp):Same H H:=fun _ _ h=>h
theorem Same.trans{H H1 H2:Hp}(a:Same H H1)(b:Same H1 H2):Same H H2:=fun c o h=>b c o (a c o h)
end L2
set_option maxHeartbeats 4000000
namespace VL
open PySem L2
abbrev D:=PyData
inductive Oc where
 |l (ds:List D)|d (es:List (ak×D))
inductive Sl where
 |un|fz (d:D)|own (c:Oc)|fr (ds:List D)
abbrev Sl.ow(ds:List D):Sl:=.own (.l ds)
abbrev Sl.od(es:List (ak×D)):Sl:=.own (.d es)
noncomputable def fE:ak->D
 |.inl i=>.int i
 |.inr x=>.str x
noncomputable def B6(n:Str)(ds:List (Str×D)):List (D×D):=(.str "ins",.str n)::ds.map fun q=>(.str q.1,q.2)
noncomputable def g0(es:List (ak×Int)):List (D×D):=es.map fun p=>(fE p.1,.int p.2)
abbrev Dv:=List Sl
inductive Fl where
 |nx|bk|ct|rt (d:D)
abbrev Sf:=Dv->Option (Fl×Dv)
@[simp] noncomputable def o2(f1 f2:Dv->Option D)(g:D->D->Option D):Dv->Option D:=fun δ=>(f1 δ).bind fun x=>(f2 δ).bind fun y=>g x y
@[simp] noncomputable def o1(f:Dv->Option D)(g:D->Option D):Dv->Option D:=fun δ=>(f δ).bind g
@[simp] noncomputable def os(f:Dv->Option (List D))(g:List D->Option D):Dv->Option D:=fun δ=>(f δ).bind g
noncomputable def asB:D->Option Bool
 |.bool b=>some b
 |_=>none
@[simp] theorem tQ(b:Bool):asB (.bool b)=some b:=rfl
@[simp] noncomputable def ob(f:Dv->Option D):Dv->Option Bool:=fun δ=>(f δ).bind asB
@[simp] noncomputable def zN(t u:Dv->Option Bool):Dv->Option Bool:=fun δ=>(t δ).bind fun b=>if b=true then u δ else some false
@[simp] noncomputable def xD(t u:Dv->Option Bool):Dv->Option Bool:=fun δ=>(t δ).bind fun b=>if b=true then some true else u δ
@[simp] noncomputable def iz(t:Dv->Option Bool):Dv->Option Bool:=fun δ=>(t δ).map (!·)
@[simp] noncomputable def wc(f1 f2:Dv->Option D):Dv->Option D:=fun δ=>(f1 δ).bind fun x=>(asB x).bind fun b=>if b=true then f2 δ else some (.bool false)
@[simp] noncomputable def Dh(f1 f2:Dv->Option D):Dv->Option D:=fun δ=>(f1 δ).bind fun x=>(asB x).bind fun b=>if b=true then some (.bool true)else f2 δ
@[simp] noncomputable def u5(d:D):Option D:=(asB d).map fun b=>.bool (!b)
@[simp] noncomputable def Dr(t:Dv->Option Bool)(f1 f2:Dv->Option D):Dv->Option D:=fun δ=>(t δ).bind fun b=>if b=true then f1 δ else f2 δ
noncomputable def BC:Option Sl->Option D
 |some (.fz d)=>some d
 |some (.fr ds)=>some (.list ds)
 |_=>none
@[simp] theorem BB(ds:List D):BC (some (.fr ds))=some (.list ds):=rfl
@[simp] theorem wR(d:D):BC (some (.fz d))=some d:=rfl
@[simp] noncomputable def oV(i:Nat):Dv->Option D:=fun δ=>BC δ[i]?
@[simp] noncomputable def oC(d:D):Dv->Option D:=fun _=>some d
@[simp] noncomputable def aw:Dv->Option (List D):=fun _=>some []
@[simp] noncomputable def af(f:Dv->Option D)(fs:Dv->Option (List D)):Dv->Option (List D):=fun δ=>(f δ).bind fun x=>(fs δ).bind fun xs=>some (x::xs)
noncomputable def eJ(ds:List D):Option D:=if ds.length<=sizeLine then some (.tuple ds)else none
noncomputable def BZ(ds:List D):Option D:=if ds.length<=sizeLine then some (.list ds)else none
theorem kj{ds:List D}(h:ds.length<=16777216):eJ ds=some (.tuple ds):=if_pos h
@[simp] theorem CH:eJ []=some (.tuple []):=rfl
@[simp] theorem CG(a:D):eJ [a]=some (.tuple [a]):=kj (by simp)
@[simp] theorem CF(a b:D):eJ [a,b]=some (.tuple [a,b]):=kj (by simp)
@[simp] theorem CD(a b c:D):eJ [a,b,c]=some (.tuple [a,b,c]):=kj (by simp)
@[simp] theorem CS:BZ []=some (.list []):=rfl
instance (i j:Int):Decidable (IntMulOk i j):=by unfold IntMulOk;infer_instance
noncomputable def iI(g:Int->Int->Int):D->D->Option D
 |.int i,.int j=>some (.int (g i j))
 |_,_=>none
noncomputable def iC(C:Int->Int->Bool)(g:Int->Int->Int):D->D->Option D
 |.int i,.int j=>if C i j=true then some (.int (g i j))else none
 |_,_=>none
noncomputable def iB(g:Int->Int->Bool):D->D->Option D
 |.int i,.int j=>some (.bool (g i j))
 |_,_=>none
@[simp] theorem B8(g:Int->Int->Int)(i j:Int):iI g (.int i) (.int j)=some (.int (g i j)):=rfl
@[simp] theorem B9(g:Int->Int->Bool)(i j:Int):iB g (.int i) (.int j)=some (.bool (g i j)):=rfl
theorem iV{C:Int->Int->Bool}{g:Int->Int->Int}{i j:Int}(h:C i j=true):iC C g (.int i) (.int j)=some (.int (g i j)):=if_pos h
noncomputable def Cn(i j:Int):Bool:=decide (IntMulOk i j)
noncomputable def Cp(i j:Int):Bool:=decide (0<j/\j<1073741824)
noncomputable def Co(i j:Int):Bool:=decide (0<j)
noncomputable def Cl(i j:Int):Bool:=decide (0<=j/\(Builtin.Int.intBits i:Int)+j<=2^27)
noncomputable def Ck(i j:Int):Bool:=decide (0<=j)
abbrev jv:=iC Cn fun i j=>i*j
abbrev n6:=iC Cp fun i j=>i/j
abbrev cq:=iC Co fun i j=>i%j
abbrev pW:=iC Cl fun i j=>i*2^j.toNat
abbrev gS:=iC Ck fun i j=>i/2^j.toNat
abbrev AO:=iI Builtin.bitAnd
abbrev CP:=iI Builtin.bitOr
abbrev yT:=iI Builtin.bitXor
abbrev BY:=iB fun i j=>decide (i<j)
abbrev wq:=iB fun i j=>decide (j<i)
@[simp] theorem iE{i j:Int}(h:IntMulOk i j):jv (.int i) (.int j)=some (.int (i*j)):=iV (decide_eq_true h)
@[simp] theorem tH{i j:Int}(h:0<j)(h2:j<1073741824):n6 (.int i) (.int j)=some (.int (i/j)):=iV (decide_eq_true ⟨h,h2⟩)
@[simp] theorem sC{i j:Int}(h:0<j):cq (.int i) (.int j)=some (.int (i%j)):=iV (decide_eq_true h)
theorem rK{i j:Int}(h:0<=j)(h2:(Builtin.Int.intBits i:Int)+j<=2^27):pW (.int i) (.int j)=some (.int (i*2^j.toNat)):=iV (decide_eq_true ⟨h,h2⟩)
@[simp] theorem lF{i j:Int}(h:0<=j):gS (.int i) (.int j)=some (.int (i/2^j.toNat)):=iV (decide_eq_true h)
noncomputable def negD:D->Option D
 |.int i=>some (.int (-i))
 |_=>none
@[simp] theorem zQ(i:Int):negD (.int i)=some (.int (-i)):=rfl
noncomputable def cM:D->D->Option D
 |.int i,.int j=>some (.int (i+j))
 |.str x,.str y=>if x.length+y.length<=sizeLine then some (.str (x++y))else none
 |.list xs,.list ys=>if xs.length+ys.length<=sizeLine then some (.list (xs++ys))else none
 |.tuple xs,.tuple ys=>if xs.length+ys.length<=sizeLine then some (.tuple (xs++ys))else none
 |_,_=>none
@[simp] theorem tT(i j:Int):cM (.int i) (.int j)=some (.int (i+j)):=rfl
noncomputable def shp(d:D):Bool:=PySem.SeqAt.shaped d
noncomputable def n4:D->D->Option D:=fun a b=>if shp a=true/\shp b=true then some (.bool (PyData.eqv a b))else none
noncomputable def neD:D->D->Option D:=fun a b=>if shp a=true/\shp b=true then some (.bool (!PyData.eqv a b))else none
@[simp] theorem vD(i j:Int):n4 (.int i) (.int j)=some (.bool (i==j)):=rfl
@[simp] theorem A4(i j:Int):neD (.int i) (.int j)=some (.bool (!(i==j))):=rfl
@[simp] theorem AB(i j:Bool):n4 (.bool i) (.bool j)=some (.bool (i==j)):=rfl
@[simp] theorem zS(i j:Bool):neD (.bool i) (.bool j)=some (.bool (!(i==j))):=rfl
noncomputable def yP(d:D):Bool:=match d with
 |.none=>true
 |_=>false
noncomputable def Di:D->D->Option D:=fun a b=>match b with
 |.none=>some (.bool (yP a))
 |_=>none
noncomputable def Aa:D->D->Option D:=fun a b=>match b with
 |.none=>some (.bool (!yP a))
 |_=>none
@[simp] theorem Ac(a:D):Di a .none=some (.bool (yP a)):=rfl
@[simp] theorem xU(a:D):Aa a .none=some (.bool (!yP a)):=rfl
@[simp] theorem Ab:yP .none=true:=rfl
@[simp] theorem A8(i:Int):yP (.int i)=false:=rfl
noncomputable def dJ:D->D->Option D
 |.list xs,.int i=>jn xs i
 |.tuple xs,.int i=>jn xs i
 |_,_=>none
@[simp] theorem z8(xs:List D)(i:Int):dJ (.list xs) (.int i)=jn xs i:=rfl
@[simp] theorem yN(xs:List D)(i:Int):dJ (.tuple xs) (.int i)=jn xs i:=rfl
theorem oo{α:Type}{xs:List α}{i:Int}{j:Nat}{v:α}(hi:i=j)(h:xs[j]? = some v):jn xs i=some v:=by
 have hl:j<xs.length:=(List.getElem?_eq_some_iff.mp h).1;subst hi;unfold jn tY;rw[if_pos (by omega),if_pos (by omega)];simpa using h
@[simp] theorem Dt{α:Type}(a:α)(r:List α):jn (a::r) 0=some a:=oo (j:=0) rfl rfl
@[simp] theorem Ds{α:Type}(a b:α)(r:List α):jn (a::b::r) 1=some b:=oo (j:=1) rfl rfl
noncomputable def de:List D->Option D
 |[.list xs]=>some (.int xs.length)
 |[.tuple xs]=>some (.int xs.length)
 |_=>none
@[simp] theorem yM(xs:List D):de [.list xs]=some (.int xs.length):=rfl
@[simp] theorem xI(xs:List D):de [.tuple xs]=some (.int xs.length):=rfl
noncomputable def BR:List D->Option D
 |[.int i,.int j]=>some (.int (if j<i then j else i))
 |_=>none
noncomputable def BS:List D->Option D
 |[.int i,.int j]=>some (.int (if j>i then j else i))
 |_=>none
@[simp] theorem zU(i j:Int):BR [.int i,.int j]=some (.int (if j<i then j else i)):=rfl
@[simp] theorem zV(i j:Int):BS [.int i,.int j]=some (.int (if j>i then j else i)):=rfl
noncomputable def Ag:List D->Option D
 |[.int i]=>some (.int i)
 |[.bool b]=>some (.int (if b then 1 else 0))
 |_=>none
@[simp] theorem Af(i:Int):Ag [.int i]=some (.int i):=rfl
@[simp] theorem yQ(b:Bool):Ag [.bool b]=some (.int (if b then 1 else 0)):=rfl
noncomputable def jY:List D->Option D
 |[.list xs]=>some (.list xs)
 |[.tuple xs]=>some (.list xs)
 |_=>none
@[simp] theorem xH(xs:List D):jY [.list xs]=some (.list xs):=rfl
@[simp] theorem wj(xs:List D):jY [.tuple xs]=some (.list xs):=rfl
noncomputable def fU:List D->Option D
 |[.list xs]=>some (.tuple xs)
 |[.tuple xs]=>some (.tuple xs)
 |_=>none
@[simp] theorem vR(xs:List D):fU [.list xs]=some (.tuple xs):=rfl
@[simp] theorem uf(xs:List D):fU [.tuple xs]=some (.tuple xs):=rfl
noncomputable def mU:D->Option D
 |.int i=>some (.int (Builtin.Int.intBits i))
 |_=>none
@[simp] theorem qV(i:Int):mU (.int i)=some (.int (Builtin.Int.intBits i)):=rfl
noncomputable def tyN:D->String
 |.none=>"NoneType"
 |.bool _=>"bool"
 |.int _=>"int"
 |.str _=>"str"
 |.list _=>"list"
 |.tuple _=>"tuple"
 |.dict _=>"dict"
noncomputable def xW(t T:String):Bool:=t==T||(t == "bool" && T == "int")
noncomputable def o0:D->Bool
 |.dict _=>true
 |_=>false
noncomputable def dY(T:String)(d:D):Option D:=if o0 d=true then none else if T = "int" \/ T = "bool" \/ T = "str" \/ T = "list" \/ T = "tuple" then some (.bool (xW (tyN d) T))else none
@[simp] theorem wn(i:Int):dY "int" (.int i)=some (.bool true):=rfl
@[simp] theorem vm(i:Int):dY "bool" (.int i)=some (.bool false):=rfl
@[simp] theorem vk(i:Bool):dY "int" (.bool i)=some (.bool true):=rfl
@[simp] theorem t0(i:Bool):dY "bool" (.bool i)=some (.bool true):=rfl
@[simp] theorem q9(xs:List D):dY "tuple" (.tuple xs)=some (.bool true):=rfl
@[simp] theorem tZ(xs:List D):dY "list" (.list xs)=some (.bool true):=rfl
@[simp] noncomputable def cF(f:Dv->Option D):Sf:=fun δ=>(f δ).bind fun d=>some (.rt d,δ)
@[simp] noncomputable def cj(i:Nat)(f:Dv->Option D):Sf:=fun δ=>(f δ).bind fun d=>some (.nx,δ.set i (.fz d))
@[simp] noncomputable def CN(f:Dv->Option D):Sf:=fun δ=>(f δ).bind fun _=>some (.nx,δ)
@[simp] noncomputable def mX:Sf:=fun δ=>some (.nx,δ)
@[simp] noncomputable def Do:Sf:=fun δ=>some (.bk,δ)
@[simp] noncomputable def Dn:Sf:=fun δ=>some (.ct,δ)
@[simp] noncomputable def aB(s t:Sf):Sf:=fun δ=>(s δ).bind fun r=>match r with
 | (.nx,δ')=>t δ'
 |r=>some r
@[simp] noncomputable def eA(t:Dv->Option Bool)(u w:Sf):Sf:=fun δ=>(t δ).bind fun c=>if c=true then u δ else w δ
noncomputable def vF(i:Nat)(δ:Dv):Dv:=match δ[i]? with
 |some (.own (.l ds))=>δ.set i (.fz (.list ds))
 |_=>δ
@[simp] noncomputable def gN(i:Nat):D->Dv->Option Dv:=fun d δ=>some (δ.set i (.fz d))
noncomputable def loop(g:D->Dv->Option Dv)(b:Sf):List D->Sf
 |[],δ=>some (.nx,δ)
 |d::ds,δ=>(g d δ).bind fun δ1=>(b δ1).bind fun r=>match r with
  | (.nx,δ2)=>loop g b ds δ2
  | (.ct,δ2)=>loop g b ds δ2
  | (.bk,δ2)=>some (.nx,δ2)
  | (.rt x,δ2)=>some (.rt x,δ2)
@[simp] theorem zX(g:D->Dv->Option Dv)(b:Sf)(δ:Dv):loop g b [] δ = some (.nx,δ):=rfl
@[simp] noncomputable def er(f:Dv->Option (List D))(g:D->Dv->Option Dv)(b:Sf):Sf:=fun δ=>(f δ).bind fun ds=>loop g b ds δ
noncomputable def qc(lo:Int)(n:Nat):List D:=(List.range n).map fun k=>.int (lo+(k:Nat))
noncomputable def bj:List D->Option (List D)
 |[.int j]=>if j<2^62 /\ -(2^62)<=j then some (qc 0 j.toNat)else none
 |_=>none
theorem qe{j:Int}(h:j<4611686018427387904)(h2:-4611686018427387904<=j):bj [.int j]=some (qc 0 j.toNat):=if_pos ⟨h,h2⟩
@[simp] noncomputable def oL(fs:Dv->Option (List D))(g:List D->Option (List D)):Dv->Option (List D):=fun δ=>(fs δ).bind g
noncomputable def bI:D->Option (List D)
 |.list xs=>some xs
 |.tuple xs=>some xs
 |_=>none
@[simp] theorem yO(xs:List D):bI (.list xs)=some xs:=rfl
@[simp] theorem xT(xs:List D):bI (.tuple xs)=some xs:=rfl
noncomputable def vd:D->Option (List D)
 |.list xs=>some xs
 |_=>none
noncomputable def Bm:D->Option (List D)
 |.tuple xs=>some xs
 |_=>none
@[simp] noncomputable def oI(f:Dv->Option D)(g:D->Option (List D)):Dv->Option (List D):=fun δ=>(f δ).bind g
noncomputable def rngN(lo hi st:Int):Nat:=if lo<hi then((hi-lo-1)/st+1).toNat else 0
noncomputable def jT(lo st:Int)(n:Nat):List D:=(List.range n).map fun k=>.int (lo+(k:Nat)*st)
noncomputable def ir:List D->Option (List D)
 |[.int i,.int j,.int k]=>if -(2^40)<=i/\i<2^40 /\ -(2^40)<=j/\j<2^40/\0<k/\k<2^20 then some (jT i k (rngN i j k))else none
 |_=>none
theorem qd{i j k:Int}(h:-1099511627776<=i/\i<1099511627776 /\ -1099511627776<=j/\j<1099511627776/\0<k/\k<1048576):ir [.int i,.int j,.int k]=some (jT i k (rngN i j k)):=if_pos h
@[simp] noncomputable def BP:Dv->Option (Option Int):=fun _=>some none
noncomputable def asI:D->Option (Option Int)
 |.int i=>some (some i)
 |_=>none
@[simp] theorem Bg(i:Int):asI (.int i)=some (some i):=rfl
@[simp] noncomputable def oP(f:Dv->Option D):Dv->Option (Option Int):=fun δ=>(f δ).bind asI
noncomputable def jB(xs:List D)(lo hi:Option Int):List D:=(xs.drop (HT.sIx xs.length 0 lo)).take (HT.sIx xs.length xs.length hi-HT.sIx xs.length 0 lo)
noncomputable def wS:D->Option Int->Option Int->Option D
 |.list xs,lo,hi=>some (.list (jB xs lo hi))
 |.tuple xs,lo,hi=>some (.tuple (jB xs lo hi))
 |_,_,_=>none
@[simp] noncomputable def zL(f:Dv->Option D)(l u:Dv->Option (Option Int)):Dv->Option D:=fun δ=>(f δ).bind fun x=>(l δ).bind fun i=>(u δ).bind fun j=>wS x i j
noncomputable def aL(N:List Str)(as:List D):Dv:=as.map .fz++List.replicate (N.length-as.length) .un
noncomputable def b5(N:List Str)(n:Nat)(b:Sf):List D->Option D:=fun as=>if as.length=n then(b (aL N as)).bind fun r=>match r with
  | (.rt d,_)=>some d
  | (.nx,_)=>some .none
  |_=>none
 else none
end VL
namespace VL
open PySem PySem.Spec PyProof.Rows L2
abbrev Fg:=PySem.W.Frag
abbrev St:=L2.St
noncomputable def Ch(a C:Addr):HO:=.ext fun h=>∃o,h.get? a=some o/\o.cls=.ref C/\∃vs,o.data=.fields vs/\vs[2]? = some .none
theorem Rd.same{H H':Hp}{a:Addr}{u:HO}(h:Rd H a u)(s:Same H H'):Rd H' a u:=by
 rcases h with h|⟨o,h⟩
 ·exact .inl (s _ _ h)
 ·exact .inr ⟨o,s _ _ h⟩
inductive FI (K:Fg) (Z:Hp):V->D->Prop
 |int (i:Int):FI K Z (.int i) (.int i)
 |pair {b:Addr} {i j:Int}:SqT K Z b [.int i,.int j]->FI K Z (.ref b) (.tuple [.int i,.int j])
inductive FF (K:Fg) (Z:Hp):V->D->Prop
 |int (i:Int):FF K Z (.int i) (.int i)
 |lst {b:Addr} {xs:List V} {ds:List D}:Z b=some (.lst xs)->Paired (FI K Z) xs ds->FF K Z (.ref b) (.list ds)
inductive Opq (K:Fg) (Z:Hp) (a:Addr):List (D×D)->Prop
 |exc {n:Str} {C:Addr}:PySem.W.nsIn K mainGlobals n=some (some (.ref C))->Rd Z a (Ch a C)->Opq K Z a [(.str "exc",.str n)]
 |fn {n:Str}:PySem.W.nsIn K mainGlobals n=some (some (.ref a))->Opq K Z a [(.str "fn",.str n)]
 |ins {n:Str} {C dx:Addr} {fs:List (Str×V)} {ds:List (Str×D)}:PySem.W.nsIn K mainGlobals n=some (some (.ref C))->Z a=some (.ins C dx fs)->Paired (fun(p:Str×V) (q:Str×D)=>p.1=q.1/\FF K Z p.2 q.2) fs ds->Opq K Z a (B6 n ds)
 |dct {kvs:List (D×D)} {es:List (ak×Int)}:kvs=g0 es->Z a=some (.dK (es.map fun p=>(p.1,V.int p.2)))->Opq K Z a kvs
theorem SqT.same{K:Fg}{H H':Hp}{a:Addr}{xs:List V}(h:SqT K H a xs)(s:Same H H'):SqT K H' a xs:=by
 rcases h with h|h
 ·exact .inl (Rd.same h s)
 ·exact .inr h
theorem FI.same{K:Fg}{Z Z':Hp}(s:Same Z Z'){v:V}{d:D}(h:FI K Z v d):FI K Z' v d:=by
 cases h with
 |int i=>exact .int i
 |pair q=>exact .pair (SqT.same q s)
theorem FF.same{K:Fg}{Z Z':Hp}(s:Same Z Z'){v:V}{d:D}(h:FF K Z v d):FF K Z' v d:=by
 cases h with
 |int i=>exact .int i
 |lst q r=>exact .lst (s _ _ q) (Paired.mapP r fun _ _=>FI.same s)
theorem Opq.same{K:Fg}{Z Z':Hp}{a:Addr}{kvs:List (D×D)}(s:Same Z Z')(h:Opq K Z a kvs):Opq K Z' a kvs:=by
 cases h with
 |exc h1 h2=>exact .exc h1 (Rd.same h2 s)
 |fn h1=>exact .fn h1
 |ins h1 h2 h3=>exact .ins h1 (s _ _ h2) (Paired.mapP h3 fun _ _ q=>⟨q.1,q.2.same s⟩)
 |dct h1 h2=>exact .dct h1 (s _ _ h2)
mutual
inductive Rep (K:Fg) (Z:Hp):V->D->Prop
 |non:Rep K Z .non .none
 |bl (b:Bool):Rep K Z (.bl b) (.bool b)
 |int (i:Int):Rep K Z (.int i) (.int i)
 |str (x:Str):Rep K Z (.str x) (.str x)
 |tup {a:Addr} {xs:List V} {ds:List D}:SqT K Z a xs->Reps K Z xs ds->Rep K Z (.ref a) (.tuple ds)
 |lst {a:Addr} {xs:List V} {ds:List D}:SqL K Z a xs->Reps K Z xs ds->Rep K Z (.ref a) (.list ds)
 |opq {a:Addr} {kvs:List (D×D)}:Opq K Z a kvs->Rep K Z (.ref a) (.dict kvs)
 |gdc {a:Addr} {kvs:List (ak×V)} {es:List (ak×D)} {l:List (D×D)}:Z a=some (.dK kvs)->es.map (·.1)=kvs.map (·.1)->Reps K Z (kvs.map (·.2)) (es.map (·.2))->l=es.map (fun p=>(fE p.1,p.2))->Rep K Z (.ref a) (.dict ((.none,.none)::l))
inductive Reps (K:Fg) (Z:Hp):List V->List D->Prop
 |nil:Reps K Z [] []
 |cons {v:V} {d:D} {vs:List V} {ds:List D}:Rep K Z v d->Reps K Z vs ds->Reps K Z (v::vs) (d::ds)
end
theorem SqL.same{K:Fg}{H H':Hp}{a:Addr}{xs:List V}(h:SqL K H a xs)(s:Same H H'):SqL K H' a xs:=by
 rcases h with h|h
 ·exact .inl (Rd.same h s)
 ·exact .inr h
mutual
theorem Rep.same{K:Fg}{Z Z':Hp}(s:Same Z Z'):∀{v:V} {d:D},Rep K Z v d->Rep K Z' v d
 |_,_,.non=>.non
 |_,_,.bl b=>.bl b
 |_,_,.int i=>.int i
 |_,_,.str x=>.str x
 |_,_,.tup h r=>.tup (SqT.same h s) (Reps.same s r)
 |_,_,.lst h r=>.lst (SqL.same h s) (Reps.same s r)
 |_,_,.opq h=>.opq (Opq.same s h)
 |_,_,.gdc h k r e=>.gdc (s _ _ h) k (Reps.same s r) e
theorem Reps.same{K:Fg}{Z Z':Hp}(s:Same Z Z'):∀{vs:List V} {ds:List D},Reps K Z vs ds->Reps K Z' vs ds
 |_,_,.nil=>.nil
 |_,_,.cons h r=>.cons (Rep.same s h) (Reps.same s r)
end
theorem Reps.length{K:Fg}{Z:Hp}:∀{vs:List V} {ds:List D},Reps K Z vs ds->vs.length=ds.length
 |_,_,.nil=>rfl
 |_,_,.cons _ r=>congrArg (· + 1) (Reps.length r)
theorem Reps.get{K:Fg}{Z:Hp}:∀{vs:List V} {ds:List D} {i:Nat} {d:D},Reps K Z vs ds->ds[i]? = some d->∃v,vs[i]? = some v/\Rep K Z v d
 |_,_,_,_,.nil,e=>by simp at e
 |_,_,0,_,.cons r _,e=>by simp at e;subst e;exact⟨_,rfl,r⟩
 |_,_,i+1,d,.cons _ t,e=>by
  obtain⟨u,h1,h2⟩:=Reps.get (i:=i) (d:=d) t (by simpa using e);exact⟨u,by simpa using h1,h2⟩
theorem Reps.append{K:Fg}{Z:Hp}:∀{xs ys:List V} {us ws:List D},Reps K Z xs us->Reps K Z ys ws->Reps K Z (xs++ys) (us++ws)
 |_,_,_,_,.nil,s=>s
 |_,_,_,_,.cons r t,s=>.cons r (Reps.append t s)
theorem Reps.take{K:Fg}{Z:Hp}:∀{xs:List V} {us:List D} (n:Nat),Reps K Z xs us->Reps K Z (xs.take n) (us.take n)
 |_,_,0,_=>.nil
 |_,_,_+1,.nil=>.nil
 |_,_,n+1,.cons r t=>.cons r (Reps.take n t)
theorem Reps.drop{K:Fg}{Z:Hp}:∀{xs:List V} {us:List D} (n:Nat),Reps K Z xs us->Reps K Z (xs.drop n) (us.drop n)
 |_,_,0,r=>r
 |_,_,_+1,.nil=>.nil
 |_,_,n+1,.cons _ t=>Reps.drop n t
theorem Rep.int_eq{K:Fg}{Z:Hp}{v:V}{i:Int}(h:Rep K Z v (.int i)):v=.int i:=by cases h;rfl
theorem Rep.bl_eq{K:Fg}{Z:Hp}{v:V}{b:Bool}(h:Rep K Z v (.bool b)):v=.bl b:=by cases h;rfl
theorem Reps.ints{K:Fg}{Z:Hp}:∀ns:List Int,Reps K Z (ns.map V.int) (ns.map PyData.int)
 |[]=>.nil
 |n::r=>.cons (.int n) (Reps.ints r)
mutual
theorem Rep.reads{X:Cx}{pins:List (Addr×Obj)}{σ:St}{H Z:Hp}{s:Shared}(I:Inv X pins σ H s)(zh:Same Z H):∀{v:V} {d:D} {u:Value},Rep X.K Z v d->RelV v u->d.canLay0=true->∃as,Reads s.heap u d as
 |_,_,u,.non,r,_=>by cases(show u=Value.none from r);exact⟨_,.none⟩
 |_,_,u,.bl b,r,_=>by cases(show u=Value.bool b from r);exact⟨_,.bool b⟩
 |_,_,u,.int i,r,_=>by obtain⟨t,rfl⟩:=(show ∃t,u=Value.int i t from r);exact⟨_,.int i t⟩
 |_,_,u,.str x,r,_=>by obtain⟨t,rfl⟩:=(show ∃t,u=Value.str x t from r);exact⟨_,.str x t⟩
 |_,_,u,.tup (a:=a) h q,r,hc=>by
  cases(show u=Value.ref a from r);obtain⟨its,rv,ht,_⟩:=I.tuple (SqT.same h zh);obtain⟨as,ra⟩:=Reps.reads I zh q rv hc;obtain⟨o,e,c,n,dd⟩:=ht;exact⟨_,reads_tuple_at e c dd (by simpa using ra)⟩
 |_,_,u,.lst (a:=a) h q,r,hc=>by
  cases(show u=Value.ref a from r);obtain⟨its,rv,ht,_⟩:=I.list (SqL.same h zh);obtain⟨as,ra⟩:=Reps.reads I zh q rv hc;obtain⟨o,n,e,c,_,dd⟩:=ht;exact⟨_,reads_list_at e c dd (by simpa using ra)⟩
 |_,_,u,.opq h,r,hc=>by cases hc
 |_,_,u,.gdc h k q e,r,hc=>by cases hc
theorem Reps.reads{X:Cx}{pins:List (Addr×Obj)}{σ:St}{H Z:Hp}{s:Shared}(I:Inv X pins σ H s)(zh:Same Z H):∀{vs:List V} {ds:List D} {us:List Value},Reps X.K Z vs ds->Vals vs us->PyData.canLayAll0 ds=true->∃as,ReadsAll s.heap us ds as
 |_,_,_,.nil,.nil,_=>⟨_,.nil⟩
 |_,_,_,.cons h q,.cons r t,hc=>by
  have hc':=Bool.and_eq_true_iff.mp hc;obtain⟨as,ha⟩:=Rep.reads I zh h r hc'.1;obtain⟨bs,hb⟩:=Reps.reads I zh q t hc'.2;exact⟨_,.cons ha hb⟩
end
noncomputable def zP:HO->Bool
 |.frz _ (.lst _)=>false
 |_=>true
def NoF(Z Z':Hp):Prop:=∀b o xs,Z' b=some (.frz o (.lst xs))->Z b=some (.frz o (.lst xs))
theorem NoF.refl(Z:Hp):NoF Z Z:=fun _ _ _ e=>e
theorem NoF.trans{Z Z1 Z2:Hp}(a:NoF Z Z1)(b:NoF Z1 Z2):NoF Z Z2:=fun c o xs e=>a c o xs (b c o xs e)
theorem NoF.upd{Z Z':Hp}(a:NoF Z Z')(p:Addr){u:HO}(hu:zP u=true:=by rfl):NoF Z (upd Z' p u):=fun b o xs e=>by
 by_cases hb:b=p
 ·subst hb
  rw[al]at e;cases e;cases hu
 ·rw[ap hb]at e
  exact a b o xs e
structure New (Z H Z' H':Hp):Prop where
 z:Same Z Z'
 h:Same H H'
 zh:Same Z' H'
 o:∀b,H b≠none->Z' b=Z b
 nf:NoF Z Z'
theorem New.refl{Z H:Hp}(zh:Same Z H):New Z H Z H:=⟨Same.refl _,Same.refl _,zh,fun _ _=>rfl,NoF.refl _⟩
theorem cE{H:Hp}{p:Addr}{o:HO}(h:H p=none):Same H (upd H p o):=fun b u e=>by
 rw[ap (aK e h)];exact e
theorem kJ{Z H:Hp}(zh:Same Z H){p:Addr}(h:H p=none):Z p=none:=by
 cases e:Z p with
 |none=>rfl
 |some o=>rw[zh p o e]at h;cases h
theorem New.add{Z H:Hp}(zh:Same Z H){p:Addr}(hp:H p=none)(o:HO)(hf:zP o=true:=by rfl):New Z H (upd Z p o) (upd H p o) where
 nf:=(NoF.refl Z).upd p hf
 z:=cE (kJ zh hp)
 h:=cE hp
 zh:=fun b u e=>by
  by_cases hb:b=p
  ·subst hb;rw[al]at e ⊢;exact e
  ·rw[ap hb]at e ⊢;exact zh b u e
 o:=fun b hb=>by
  have:b≠p:=fun z=>hb (z ▸ hp)
  rw[ap this]
def jl(K:Fg)(Z:Hp)(kvs:List (ak×V))(es:List (ak×D)):Prop:=es.map (·.1)=kvs.map (·.1)/\Reps K Z (kvs.map (·.2)) (es.map (·.2))
inductive OwR (K:Fg) (Z:Hp):HO->Oc->Prop
 |lst {xs:List V} {ds:List D}:Reps K Z xs ds->OwR K Z (.lst xs) (.l ds)
 |dct {kvs:List (ak×V)} {es:List (ak×D)}:jl K Z kvs es->OwR K Z (.dK kvs) (.d es)
theorem OwR.same{K:Fg}{Z Z':Hp}{o:HO}{c:Oc}(h:OwR K Z o c)(s:Same Z Z'):OwR K Z' o c:=by
 cases h with
 |lst r=>exact .lst (r.same s)
 |dct r=>exact .dct ⟨r.1,r.2.same s⟩
def FrOk(K:Fg)(H₀ Z₀ Z:Hp)(δ:Dv)(σ:St):Prop:=∀(i:Nat) ds,δ[i]? = some (.fr ds)->∃a xs,σ[i]? = some (some (.ref a))/\H₀ a=none/\Z₀ a=none/\Z a=some (.lst xs)/\Reps K Z xs ds
theorem FrOk.same{K:Fg}{H₀ Z₀ Z Z':Hp}{δ:Dv}{σ:St}(h:FrOk K H₀ Z₀ Z δ σ)(s:Same Z Z'):FrOk K H₀ Z₀ Z' δ σ:=fun i ds e=>
 let ⟨a,xs,h1,h2,h3,h4,h5⟩:=h i ds e; ⟨a,xs,h1,h2,h3,s _ _ h4,h5.same s⟩
theorem FrOk.put{K:Fg}{H₀ Z₀ Z:Hp}{δ:Dv}{σ σ':St}(h:FrOk K H₀ Z₀ Z δ σ){i:Nat}{x:Sl}(hx:∀ds,x≠Sl.fr ds)(hs:∀j:Nat,i≠j -> σ'[j]? = σ[j]?):FrOk K H₀ Z₀ Z (δ.set i x) σ':=fun j ds e=>by
 by_cases hj:i=j
 ·subst hj
  have hl:i < δ.length:=by have:=(List.getElem?_eq_some_iff.mp e).1;simpa using this
  rw[List.getElem?_set_self hl]at e;exact absurd (Option.some.inj e) (hx ds)
 ·rw[List.getElem?_set_ne hj]at e
  obtain⟨a,xs,h1,r⟩:=h j ds e;exact⟨a,xs,by rw[hs j hj];exact h1,r⟩
structure Hold (K:Fg) (H₀ Z₀ Z:Hp) (δ:Dv) (σ:St) (H:Hp):Prop where
 zh:Same Z H
 h0:Same H₀ H
 z0:Same Z₀ Z
 zb:∀b,H₀ b≠none->Z b=Z₀ b
 len:δ.length = σ.length
 fz:∀(i:Nat) d,δ[i]? = some (.fz d)->∃v,σ[i]? = some (some v)/\Rep K Z v d
 own:∀(i:Nat) c,δ[i]? = some (.own c)->∃a o,σ[i]? = some (some (.ref a))/\H₀ a=none/\Z a=none/\H a=some o/\OwR K Z o c
 dja:∀(i j:Nat) c c' a,i≠j -> δ[i]? = some (.own c) -> δ[j]? = some (.own c') -> σ[i]? = some (some (.ref a)) -> σ[j]? ≠ some (some (V.ref a))
 fr:FrOk K H₀ Z₀ Z δ σ
 nf:NoF Z₀ Z
section
variable{K:Fg}{H₀ Z₀ Z Z' H H':Hp}{δ:Dv}{σ:St}
theorem Hold.ow(h:Hold K H₀ Z₀ Z δ σ H)(i:Nat)(ds:List D)(e:δ[i]? = some (.ow ds)):∃a xs,σ[i]? = some (some (.ref a))/\H₀ a=none/\Z a=none/\H a=some (.lst xs)/\Reps K Z xs ds:=by
 obtain⟨a,o,h1,h2,h3,h4,h5⟩:=h.own i _ e;cases h5 with
 |lst r=>exact⟨a,_,h1,h2,h3,h4,r⟩
theorem Hold.od(h:Hold K H₀ Z₀ Z δ σ H)(i:Nat)(es:List (ak×D))(e:δ[i]? = some (.od es)):∃a kvs,σ[i]? = some (some (.ref a))/\H₀ a=none/\Z a=none/\H a=some (.dK kvs)/\jl K Z kvs es:=by
 obtain⟨a,o,h1,h2,h3,h4,h5⟩:=h.own i _ e;cases h5 with
 |dct r=>exact⟨a,_,h1,h2,h3,h4,r⟩
theorem Hold.new(h:Hold K H₀ Z₀ Z δ σ H)(n:New Z H Z' H'):Hold K H₀ Z₀ Z' δ σ H' where
 zh:=n.zh
 h0:=h.h0.trans n.h
 z0:=h.z0.trans n.z
 zb:=fun b hb=>by
  have:H b≠none:=by
   cases e:H₀ b with
   |none=>exact absurd e hb
   |some o=>rw[h.h0 b o e];intro z;cases z
  rw[n.o b this,h.zb b hb]
 len:=h.len
 fz:=fun i d e=>let ⟨v,a,r⟩:=h.fz i d e; ⟨v,a,r.same n.z⟩
 own:=fun i ds e=>by
  obtain⟨a,xs,h1,h2,h3,h4,h5⟩:=h.own i ds e;exact⟨a,xs,h1,h2,by rw[n.o a (by rw[h4];intro z;cases z)];exact h3,n.h a _ h4,h5.same n.z⟩
 dja:=h.dja
 fr:=h.fr.same n.z
 nf:=h.nf.trans n.nf
theorem Hold.set(h:Hold K H₀ Z₀ Z δ σ H){i:Nat}{v:V}{d:D}(r:Rep K Z v d):Hold K H₀ Z₀ Z (δ.set i (.fz d)) (σ.set i (some v)) H where
 zh:=h.zh
 h0:=h.h0
 z0:=h.z0
 zb:=h.zb
 len:=by simp[h.len]
 fz:=fun j e q=>by
  by_cases hj:i=j
  ·subst hj
   have hl:i < δ.length:=by
    have:=(List.getElem?_eq_some_iff.mp q).1;simpa using this
   rw[List.getElem?_set_self hl]at q;cases q;exact⟨v,List.getElem?_set_self (by rw[<-h.len];exact hl),r⟩
  ·rw[List.getElem?_set_ne hj]at q
   obtain⟨u,a,b⟩:=h.fz j e q;exact⟨u,by rw[List.getElem?_set_ne hj];exact a,b⟩
 own:=fun j es q=>by
  by_cases hj:i=j
  ·subst hj
   have hl:i < δ.length:=by
    have:=(List.getElem?_eq_some_iff.mp q).1;simpa using this
   rw[List.getElem?_set_self hl]at q;cases q
  ·rw[List.getElem?_set_ne hj]at q ⊢
   exact h.own j es q
 dja:=fun j k ds es a hjk q1 q2=>by
  by_cases hj:i=j
  ·subst hj
   have hl:i < δ.length:=by
    have:=(List.getElem?_eq_some_iff.mp q1).1;simpa using this
   rw[List.getElem?_set_self hl]at q1;cases q1
  ·by_cases hk:i=k
   ·subst hk
    have hl:i < δ.length:=by
     have:=(List.getElem?_eq_some_iff.mp q2).1;simpa using this
    rw[List.getElem?_set_self hl]at q2;cases q2
   ·rw[List.getElem?_set_ne hj]at q1
    rw[List.getElem?_set_ne hk]at q2;rw[List.getElem?_set_ne hj,List.getElem?_set_ne hk];exact h.dja j k ds es a hjk q1 q2
 fr:=h.fr.put (fun _ z=>nomatch z) fun _ hj=>List.getElem?_set_ne hj
 nf:=h.nf
theorem Hold.setW(h:Hold K H₀ Z₀ Z δ σ H){i:Nat}{p:Addr}{o:HO}{c:Oc}(hp:H p=none)(r:OwR K Z o c):Hold K H₀ Z₀ Z (δ.set i (.own c)) (σ.set i (some (.ref p))) (upd H p o) where
 zh:=h.zh.trans (cE hp)
 h0:=h.h0.trans (cE hp)
 z0:=h.z0
 zb:=h.zb
 len:=by simp[h.len]
 fz:=fun j e q=>by
  by_cases hj:i=j
  ·subst hj
   have hl:i < δ.length:=by
    have:=(List.getElem?_eq_some_iff.mp q).1;simpa using this
   rw[List.getElem?_set_self hl]at q;cases q
  ·rw[List.getElem?_set_ne hj]at q
   obtain⟨u,a,b⟩:=h.fz j e q;exact⟨u,by rw[List.getElem?_set_ne hj];exact a,b⟩
 own:=fun j es q=>by
  by_cases hj:i=j
  ·subst hj
   have hl:i < δ.length:=by
    have:=(List.getElem?_eq_some_iff.mp q).1;simpa using this
   rw[List.getElem?_set_self hl]at q;cases q;exact⟨p,o,List.getElem?_set_self (by rw[<-h.len];exact hl),kJ h.h0 hp,kJ h.zh hp,al,r⟩
  ·rw[List.getElem?_set_ne hj]at q ⊢
   obtain⟨a,ys,h1,h2,h3,h4,h5⟩:=h.own j es q;exact⟨a,ys,h1,h2,h3,by rw[ap (aK h4 hp)];exact h4,h5⟩
 dja:=fun j k ds es a hjk q1 q2=>by
  have old:∀{m:Nat} {fs:Oc},δ[m]? = some (.own fs) -> σ[m]? ≠ some (some (V.ref p)):=fun{m fs} q z=>by
   obtain⟨b,ys,h1,h2,h3,h4,h5⟩:=h.own m fs q;rw[h1]at z;cases z;rw[hp]at h4;cases h4
  have hl:∀{m:Nat} {x:Sl},(δ.set i x)[m]? ≠ none->m < σ.length:=fun{m x} q=>by
   have:m<(δ.set i x).length:=by
    rcases Nat.lt_or_ge m (δ.set i x).length with g|g
    ·exact g
    ·exact absurd (List.getElem?_eq_none_iff.mpr g) q
   rw[<-h.len];simpa using this
  by_cases hj:i=j
  ·subst hj
   have h1:i < σ.length:=hl (by rw[q1];intro z;cases z);rw[List.getElem?_set_self h1];intro e;cases e;rw[List.getElem?_set_ne hjk]at q2 ⊢;exact old q2
  ·rw[List.getElem?_set_ne hj]at q1 ⊢
   by_cases hk:i=k
   ·subst hk
    have h1:i < σ.length:=hl (by rw[q2];intro z;cases z);intro e z;rw[List.getElem?_set_self h1]at z;cases z;exact old q1 e
   ·rw[List.getElem?_set_ne hk]at q2 ⊢
    exact h.dja j k ds es a hjk q1 q2
 fr:=h.fr.put (fun _ z=>nomatch z) fun _ hj=>List.getElem?_set_ne hj
 nf:=h.nf
theorem Hold.setO(h:Hold K H₀ Z₀ Z δ σ H){i:Nat}{p:Addr}{xs:List V}{ds:List D}(hp:H p=none)(r:Reps K Z xs ds):Hold K H₀ Z₀ Z (δ.set i (.ow ds)) (σ.set i (some (.ref p))) (upd H p (.lst xs)):=h.setW hp (.lst r)
theorem Hold.chgW(h:Hold K H₀ Z₀ Z δ σ H){i:Nat}{p:Addr}{o:HO}{ds es:Oc}(e:δ[i]? = some (.own ds))(ep:σ[i]? = some (some (.ref p)))(r:OwR K Z o es):Hold K H₀ Z₀ Z (δ.set i (.own es)) σ (upd H p o):=by
 obtain⟨a,zs,h1,h2,h3,h4,h5⟩:=h.own i ds e;rw[ep]at h1;cases h1;have hl:i < δ.length:=(List.getElem?_eq_some_iff.mp e).1;refine⟨fun b o' q=>?_,fun b o' q=>?_,h.z0,h.zb,by simp[h.len],fun j d q=>?_,fun j d q=>?_,fun j k d1 d2 a hjk q1 q2=>?_,h.fr.put (fun _ z=>nomatch z) fun _ _=>rfl,h.nf⟩
 ·rw[ap (aK q h3)];exact h.zh b o' q
 ·rw[ap (aK q h2)];exact h.h0 b o' q
 ·by_cases hj:i=j
  ·subst hj
   rw[List.getElem?_set_self hl]at q;cases q
  ·rw[List.getElem?_set_ne hj]at q
   exact h.fz j d q
 ·by_cases hj:i=j
  ·subst hj
   rw[List.getElem?_set_self hl]at q;cases q;exact⟨p,o,ep,h2,h3,al,r⟩
  ·rw[List.getElem?_set_ne hj]at q
   obtain⟨b,ws,g1,g2,g3,g4,g5⟩:=h.own j d q;refine⟨b,ws,g1,g2,g3,?_,g5⟩;have:b≠p:=fun z=>by subst z;exact h.dja i j ds d b hj e q ep g1
   rw[ap this];exact g4
 ·have f:∀{m:Nat} {dm:Oc},(δ.set i (.own es))[m]? = some (.own dm)->∃dm',δ[m]? = some (.own dm'):=fun{m dm} q=>by
   by_cases hm:i=m
   ·subst hm;exact⟨ds,e⟩
   ·rw[List.getElem?_set_ne hm]at q;exact⟨dm,q⟩
  obtain⟨e1,g1⟩:=f q1;obtain⟨e2,g2⟩:=f q2;exact h.dja j k e1 e2 a hjk g1 g2
theorem Hold.chg(h:Hold K H₀ Z₀ Z δ σ H){i:Nat}{p:Addr}{xs ys:List V}{ds es:List D}(e:δ[i]? = some (.ow ds))(ep:σ[i]? = some (some (.ref p)))(r:Reps K Z ys es):Hold K H₀ Z₀ Z (δ.set i (.ow es)) σ (upd H p (.lst ys)):=h.chgW e ep (.lst r)
theorem Hold.frz(h:Hold K H₀ Z₀ Z δ σ H){i:Nat}{ds:List D}(e:δ[i]? = some (.ow ds)):∃Z',Same Z Z'/\Hold K H₀ Z₀ Z' (δ.set i (.fz (.list ds))) σ H:=by
 obtain⟨a,xs,h1,h2,h3,h4,h5⟩:=h.ow i ds e;have hl:i < δ.length:=(List.getElem?_eq_some_iff.mp e).1;have sz:Same Z (upd Z a (.lst xs)):=cE h3;refine⟨upd Z a (.lst xs),sz,fun b o q=>?_,h.h0,h.z0.trans sz,fun b hb=>?_,by simp[h.len],fun j d q=>?_,fun j d q=>?_,fun j k d1 d2 b hjk q1 q2=>?_,(h.fr.same sz).put (fun _ z=>nomatch z) fun _ _=>rfl,h.nf.upd a⟩
 ·by_cases hb:b=a
  ·subst hb;rw[al]at q;cases q;exact h4
  ·rw[ap hb]at q;exact h.zh b o q
 ·rw[ap (fun z=>hb (by rw[z];exact h2))];exact h.zb b hb
 ·by_cases hj:i=j
  ·subst hj
   rw[List.getElem?_set_self hl]at q;cases q;exact⟨.ref a,h1,.lst (SqL.of al) (h5.same sz)⟩
  ·rw[List.getElem?_set_ne hj]at q
   obtain⟨v,g1,g2⟩:=h.fz j d q;exact⟨v,g1,g2.same sz⟩
 ·by_cases hj:i=j
  ·subst hj
   rw[List.getElem?_set_self hl]at q;cases q
  ·rw[List.getElem?_set_ne hj]at q
   obtain⟨b,ws,g1,g2,g3,g4,g5⟩:=h.own j d q;have:b≠a:=fun z=>by subst z;exact h.dja i j _ d b hj e q h1 g1
   exact⟨b,ws,g1,g2,by rw[ap this];exact g3,g4,g5.same sz⟩
 ·by_cases hj:i=j
  ·subst hj
   rw[List.getElem?_set_self hl]at q1;cases q1
  ·by_cases hk:i=k
   ·subst hk
    rw[List.getElem?_set_self hl]at q2;cases q2
   ·rw[List.getElem?_set_ne hj]at q1
    rw[List.getElem?_set_ne hk]at q2;exact h.dja j k d1 d2 b hjk q1 q2
end
def tV(K:Fg)(f:Dv->Option D):TE:=fun σ H Q=>∃H₀ Z₀ Z δ d,Hold K H₀ Z₀ Z δ σ H/\f δ = some d/\∀v Z' H',Hold K H₀ Z₀ Z' δ σ H'->Same Z Z'->Rep K Z' v d->Q v H'
def yH(K:Fg)(f:Dv->Option Bool):TT:=fun σ H Q=>∃H₀ Z₀ Z δ b,Hold K H₀ Z₀ Z δ σ H/\f δ = some b/\∀Z' H',Hold K H₀ Z₀ Z' δ σ H'->Same Z Z'->Q b H'
def CK(K:Fg)(f:Dv->Option (List D)):TA:=fun σ H Q=>∃H₀ Z₀ Z δ ds,Hold K H₀ Z₀ Z δ σ H/\f δ = some ds/\∀vs Z' H',Hold K H₀ Z₀ Z' δ σ H'->Same Z Z'->Reps K Z' vs ds->Q vs H'
def Fl.to(K:Fg)(Z:Hp)(D:Ends)(σ:St)(H:Hp):Fl->Prop
 |.nx=>D.nx σ H
 |.bk=>D.bk σ H
 |.ct=>D.ct σ H
 |.rt d=>∀v,Rep K Z v d->D.rt v H
def wL(K:Fg)(f:Dv->Option (Fl×Dv)):TS:=fun D σ H=>∃H₀ Z₀ Z δ r,Hold K H₀ Z₀ Z δ σ H/\f δ = some r/\∀ σ' H' Z',Hold K H₀ Z₀ Z' r.2 σ' H'->Same Z Z'->r.1.to K Z' D σ' H'
def EV(X:Cx)(e:Expr)(f:Dv->Option D):Prop:=PE X e (tV X.K f)
def TV(X:Cx)(e:Expr)(f:Dv->Option Bool):Prop:=PT X e (yH X.K f)
def AV(X:Cx)(es:List Expr)(f:Dv->Option (List D)):Prop:=PA X es (CK X.K f)
def SV(X:Cx)(st:Stmt)(f:Dv->Option (Fl×Dv)):Prop:=PS X st (wL X.K f)
def BV(X:Cx)(st:List Stmt)(f:Dv->Option (Fl×Dv)):Prop:=PSs X st (wL X.K f)
theorem PE.imp{X:Cx}{e:Expr}{t t':TE}(h:PE X e t)(i:∀ σ H Q,t' σ H Q->t σ H Q):PE X e t':=fun pins s σ H Q I hw=>h pins s σ H Q I (i _ _ _ hw)
theorem PT.imp{X:Cx}{e:Expr}{t t':TT}(h:PT X e t)(i:∀ σ H Q,t' σ H Q->t σ H Q):PT X e t':=fun pins s σ H Q I hw=>h pins s σ H Q I (i _ _ _ hw)
theorem PA.imp{X:Cx}{es:List Expr}{t t':TA}(h:PA X es t)(i:∀ σ H Q,t' σ H Q->t σ H Q):PA X es t':=fun pos pins s σ H Q I hw=>h pos pins s σ H Q I (i _ _ _ hw)
theorem PS.imp{X:Cx}{st:Stmt}{t t':TS}(h:PS X st t)(i:∀D σ H,t' D σ H->t D σ H):PS X st t':=fun pins s σ H D I hw=>h pins s σ H D I (i _ _ _ hw)
theorem PSs.imp{X:Cx}{st:List Stmt}{t t':TS}(h:PSs X st t)(i:∀D σ H,t' D σ H->t D σ H):PSs X st t':=fun pins s σ H D I hw=>h pins s σ H D I (i _ _ _ hw)
theorem OpR.imp{X:Cx}{f:Value->Value->Sem Value}{r r':R2}(h:OpR X f r)(i:∀x y H Q,r' x y H Q->r x y H Q):OpR X f r':=fun pins s σ H x y v u Q I rx ry q=>h pins s σ H x y v u Q I rx ry (i _ _ _ _ q)
theorem CallR.imp{X:Cx}{f:Value}{r r':List V->Hp->VK->Prop}(h:CallR X f r)(i:∀xs H Q,r' xs H Q->r xs H Q):CallR X f r':=fun pins s σ H xs us Q I rx q=>h pins s σ H xs us Q I rx (i _ _ _ q)
def rD(K:Fg)(g:D->D->Option D):R2:=fun x y H Q=>∃Z a b d,Same Z H/\Rep K Z x a/\Rep K Z y b/\g a b=some d/\∀v Z' H',New Z H Z' H'->Rep K Z' v d->Q v H'
def CO(K:Fg)(g:D->Option D):V->Hp->VK->Prop:=fun x H Q=>∃Z a d,Same Z H/\Rep K Z x a/\g a=some d/\∀v Z' H',New Z H Z' H'->Rep K Z' v d->Q v H'
def vZ(K:Fg)(g:List D->Option D):List V->Hp->VK->Prop:=fun xs H Q=>∃Z as d,Same Z H/\Reps K Z xs as/\g as=some d/\∀v Z' H',New Z H Z' H'->Rep K Z' v d->Q v H'
def jo(K:Fg)(g:List D->Option D):Sp:=fun vs H Q _=>vZ K g vs H Q
section
variable{X:Cx}{a b c e:Expr}{es:List Expr}{pos p:Pos}{f f1 f2 f3:Dv->Option D}{fs:Dv->Option (List D)}{ft fu:Dv->Option Bool}
theorem bind_some{α β:Type}{o:Option α}{k:α -> Option β}{r:β}(h:o.bind k=some r):∃a,o=some a/\k a=some r:=by
 cases o with
 |none=>cases h
 |some a=>exact⟨a,rfl,h⟩
theorem AX{K:Fg}{g:D->D->Option D}{σ:St}{H:Hp}{Q:VK}{r:R2}(hr:∀x y H Q,rD K g x y H Q->r x y H Q)(h:tV K (o2 f1 f2 g) σ H Q):y9 r (tV K f1) (tV K f2) σ H Q:=by
 obtain⟨H₀,Z₀,Z,δ,d,hh,e,k⟩:=h;obtain⟨x,e1,e⟩:=bind_some e;obtain⟨y,e2,e⟩:=bind_some e;refine⟨H₀,Z₀,Z,δ,x,hh,e1,fun v Z1 H1 hh1 s1 r1=>⟨H₀,Z₀,Z1,δ,y,hh1,e2,fun u Z2 H2 hh2 s2 r2=>hr _ _ _ _ ⟨Z2,x,y,d,hh2.zh,r1.same s2,r2,e,fun w Z3 H3 n r3=>?_⟩⟩⟩
 exact k w Z3 H3 (hh2.new n) ((s1.trans s2).trans n.z) r3
theorem aA{op:Operator}{g:D->D->Option D}(ho:OpR X (binaryOp op) (rD X.K g))(ha:EV X a f1)(hb:EV X b f2):EV X (.BinOp a op b pos) (o2 f1 f2 g):=
 PE.imp (zC ho ha hb) fun _ _ _ h=>AX (fun _ _ _ _ q=>q) h
theorem Az{op:UnaryOp}{g:D->Option D}(ho:AS X (unaryOp op) (CO X.K g))(ha:EV X a f):EV X (.UnaryOp op a pos) (o1 f g):=
 PE.imp (zB ho ha) fun σ H Q h=>by
  obtain⟨H₀,Z₀,Z,δ,d,hh,e,k⟩:=h;obtain⟨x,e1,e⟩:=bind_some e;exact⟨H₀,Z₀,Z,δ,x,hh,e1,fun v Z1 H1 hh1 s1 r1=>⟨Z1,x,d,hh1.zh,r1,e,fun w Z3 H3 n r3=>k w Z3 H3 (hh1.new n) (s1.trans n.z) r3⟩⟩
theorem tE{op:CmpOp}{g:D->D->Option D}(ho:OpR X (compareOp op) (rD X.K g))(ha:EV X a f1)(hb:EV X b f2)(hm:behindInMarks op b=false):EV X (.Compare a [op] [b] pos) (o2 f1 f2 g):=
 PE.imp (uQ ho ha hb hm) fun _ _ _ h=>AX (fun _ _ _ _ q=>q) h
theorem oq{d:D}{b:Bool}(h:asB d=some b):d=.bool b:=by
 cases d<;>simp[asB]at h;subst h;rfl
theorem CI{K:Fg}{σ:St}{H:Hp}{Q:Bool->Hp->Prop}(h:yH K (ob f) σ H Q):tV K f σ H fun x H1=>∃c,x=.bl c/\Q c H1:=by
 obtain⟨H₀,Z₀,Z,δ,d,hh,e,k⟩:=h;obtain⟨x,e1,e⟩:=bind_some e;have:=oq e;subst this;exact⟨H₀,Z₀,Z,δ,_,hh,e1,fun v Z1 H1 hh1 s1 r1=>⟨_,r1.bl_eq,k Z1 H1 hh1 s1⟩⟩
theorem bw{op:CmpOp}{g:D->D->Option D}(ho:OpR X (compareOp op) (rD X.K g))(ha:EV X a f1)(hb:EV X b f2)(hm:behindInMarks op b=false):TV X (.Compare a [op] [b] pos) (ob (o2 f1 f2 g)):=
 PT.imp (uC ho ha hb hm) fun σ H Q h=>by
  have h':=CI h;exact AX (f1:=f1) (f2:=f2) (g:=g) (fun _ _ _ _ q=>q) h'
theorem cU(ha:EV X a f)(he:∀whole,isTrue a X.env whole=(do let v <-whole;standAt a.pos;holding [v] (truthy v)):=by intro _;rfl):TV X a (ob f):=
 PT.imp (xi ha he) fun _ _ _ h=>CI h
def WV(X:Cx)(e:Expr)(f:Dv->Option Bool):Prop:=PW X e (yH X.K f)
theorem PW.imp{X:Cx}{e:Expr}{t t':TT}(h:PW X e t)(i:∀ σ H Q,t' σ H Q->t σ H Q):PW X e t':=fun whole pins s σ H Q I hw=>h whole pins s σ H Q I (i _ _ _ hw)
theorem t7(ha:TV X a ft):WV X (.BoolOp .And [a] pos) ft:=uA ha
theorem rk(ha:TV X a ft):WV X (.BoolOp .Or [a] pos) ft:=xf ha
theorem wD{rest:List Expr}(ha:TV X a ft)(hb:WV X (.BoolOp .And (b::rest) pos) fu):WV X (.BoolOp .And (a::b::rest) pos) (zN ft fu):=
 PW.imp (xg ha hb) fun σ H Q h=>by
  obtain⟨H₀,Z₀,Z,δ,d,hh,e,k⟩:=h;obtain⟨x,e1,e⟩:=bind_some e;refine⟨H₀,Z₀,Z,δ,x,hh,e1,fun Z1 H1 hh1 s1=>?_⟩
  cases x with
  |true=>exact⟨H₀,Z₀,Z1,δ,d,hh1,e,fun Z2 H2 hh2 s2=>k Z2 H2 hh2 (s1.trans s2)⟩
  |false=>cases e;exact k Z1 H1 hh1 s1
theorem jK{rest:List Expr}(ha:TV X a ft)(hb:WV X (.BoolOp .Or (b::rest) pos) fu):WV X (.BoolOp .Or (a::b::rest) pos) (xD ft fu):=
 PW.imp (zv ha hb) fun σ H Q h=>by
  obtain⟨H₀,Z₀,Z,δ,d,hh,e,k⟩:=h;obtain⟨x,e1,e⟩:=bind_some e;refine⟨H₀,Z₀,Z,δ,x,hh,e1,fun Z1 H1 hh1 s1=>?_⟩
  cases x with
  |true=>cases e;exact k Z1 H1 hh1 s1
  |false=>exact⟨H₀,Z₀,Z1,δ,d,hh1,e,fun Z2 H2 hh2 s2=>k Z2 H2 hh2 (s1.trans s2)⟩
theorem WV.tv(h:WV X a ft):TV X a ft:=PW.pt h
theorem eI(ha:TV X a ft):TV X (.UnaryOp .Not a pos) (iz ft):=
 PT.imp (xj ha) fun σ H Q h=>by
  obtain⟨H₀,Z₀,Z,δ,d,hh,e,k⟩:=h;cases e1:ft δ with
  |none=>unfold iz at e;rw[e1]at e;cases e
  |some x=>
   unfold iz at e;rw[e1]at e;cases e;exact⟨H₀,Z₀,Z,δ,x,hh,e1,fun Z1 H1 hh1 s1=>k Z1 H1 hh1 s1⟩
theorem yg{op}(h:EV X a f):EV X (.BoolOp op [a] pos) f:=xp h
theorem yk{rest:List Expr}(ha:EV X a f1)(hb:EV X (.BoolOp .And (b::rest) pos) f2):EV X (.BoolOp .And (a::b::rest) pos) (wc f1 f2):=
 PE.imp (xv ha hb) fun σ H Q h=>by
  obtain⟨H₀,Z₀,Z,δ,d,hh,e,k⟩:=h;obtain⟨x,e1,e⟩:=bind_some e;obtain⟨c,e2,e⟩:=bind_some e;have:=oq e2;subst this;refine⟨H₀,Z₀,Z,δ,_,hh,e1,fun v Z1 H1 hh1 s1 r1=>⟨c,r1.bl_eq,?_⟩⟩
  cases c with
  |true=>exact⟨H₀,Z₀,Z1,δ,d,hh1,e,fun v Z2 H2 hh2 s2 r2=>k v Z2 H2 hh2 (s1.trans s2) r2⟩
  |false=>cases e;exact k _ Z1 H1 hh1 s1 (.bl false)
theorem yh(ha:EV X a f):EV X (.UnaryOp .Not a pos) (o1 f u5):=
 PE.imp (xq ha) fun σ H Q h=>by
  obtain⟨H₀,Z₀,Z,δ,d,hh,e,k⟩:=h;obtain⟨x,e1,e⟩:=bind_some e;cases e2:asB x with
  |none=>unfold u5 at e;rw[e2]at e;cases e
  |some c=>
   unfold u5 at e;rw[e2]at e;cases e;have:=oq e2;subst this;exact⟨H₀,Z₀,Z,δ,_,hh,e1,fun v Z1 H1 hh1 s1 r1=>⟨c,r1.bl_eq,k _ Z1 H1 hh1 s1 (.bl _)⟩⟩
theorem Hold.read{K:Fg}{H₀ Z₀ Z H:Hp}{δ:Dv}{σ:St}(hh:Hold K H₀ Z₀ Z δ σ H){i:Nat}{d:D}(h:oV i δ = some d):∃v,σ[i]? = some (some v)/\Rep K Z v d:=by
 unfold oV at h;cases q:δ[i]? with
 |none=>rw[q]at h;cases h
 |some x=>
  rw[q]at h;cases x with
  |fz e=>cases h;exact hh.fz i _ q
  |un=>cases h
  |own _=>cases h
  |fr ds=>
   cases h;obtain⟨a,xs,h1,_,_,h4,h5⟩:=hh.fr i ds q;exact⟨.ref a,h1,.lst (SqL.of h4) h5⟩
theorem aa(i:Nat){x:Str}(hN:X.N[i]? = some x:=by rfl)(hv:wz X.env.scope x:=by first|exact Or.inl rfl|exact Or.inr (Or.inl rfl)|exact Or.inr (Or.inr rfl))(hd:(x==("__debug__":Str))=false:=by decide)(hcd:(x==("__classdict__":Str))=false:=by decide):
  EV X (.Name x pos) (oV i):=
 PE.imp (fY hN hv hd hcd) fun σ H Q h=>by
  obtain⟨H₀,Z₀,Z,δ,d,hh,e,k⟩:=h;obtain⟨v,q,r⟩:=hh.read e;exact⟨v,q,k v Z H hh (Same.refl _) r⟩
theorem AA{d:D}{v:V}(h:PE X e (tC v))(r:∀Z,Rep X.K Z v d):EV X e (oC d):=
 PE.imp h fun σ H Q h=>by
  obtain⟨H₀,Z₀,Z,δ,d',hh,e,k⟩:=h;cases e;exact k v Z H hh (Same.refl _) (r Z)
theorem ae{i j}:EV X (.Constant (.int i) j pos) (oC (.int i)):=AA xt fun _=>.int i
theorem eF{i j}:EV X (.Constant (.bool i) j pos) (oC (.bool i)):=AA zD fun _=>.bl i
theorem ai:AV X [] aw:=
 PA.imp eK fun σ H Q h=>by
  obtain⟨H₀,Z₀,Z,δ,d,hh,e,k⟩:=h;cases e;exact k [] Z H hh (Same.refl _) .nil
theorem ac(ha:EV X e f)(hr:AV X es fs)(hs:starEach (e::es) X.env=(false,eval e X.env)::starEach es X.env:=by rfl):AV X (e::es) (af f fs):=
 PA.imp (cP ha hr hs) fun σ H Q h=>by
  obtain⟨H₀,Z₀,Z,δ,d,hh,e,k⟩:=h;obtain⟨x,e1,e⟩:=bind_some e;obtain⟨xs,e2,e⟩:=bind_some e;cases e;exact⟨H₀,Z₀,Z,δ,x,hh,e1,fun v Z1 H1 hh1 s1 r1=>⟨H₀,Z₀,Z1,δ,xs,hh1,e2,fun vs Z2 H2 hh2 s2 r2=>k _ Z2 H2 hh2 (s1.trans s2) (.cons (r1.same s2) r2)⟩⟩
theorem eN{x1}(h:AV X es fs):EV X (.Tuple es x1 pos) (os fs eJ):=
 PE.imp (xo h) fun σ H Q h=>by
  obtain⟨H₀,Z₀,Z,δ,d,hh,e,k⟩:=h;obtain⟨xs,e1,e⟩:=bind_some e;refine⟨H₀,Z₀,Z,δ,xs,hh,e1,fun vs Z1 H1 hh1 s1 r1=>?_⟩
  by_cases hl:xs.length<=sizeLine
  ·rw[eJ,if_pos hl]at e
   cases e;refine⟨by rw[r1.length];exact hl,fun p hp=>?_⟩
   have n:=New.add hh1.zh hp (.tup vs);exact k _ _ _ (hh1.new n) (s1.trans n.z) (.tup (SqT.of al) (r1.same n.z))
  ·rw[eJ,if_neg hl]at e;cases e
theorem args{K:Fg}{g:List D->Option D}{σ:St}{H:Hp}{Q:VK}(h:tV K (os fs g) σ H Q):CK K fs σ H fun vs H1=>vZ K g vs H1 Q:=by
 obtain⟨H₀,Z₀,Z,δ,d,hh,e,k⟩:=h;obtain⟨xs,e1,e⟩:=bind_some e;exact⟨H₀,Z₀,Z,δ,xs,hh,e1,fun vs Z1 H1 hh1 s1 r1=>⟨Z1,xs,d,hh1.zh,r1,e,fun w Z3 H3 n r3=>k w Z3 H3 (hh1.new n) (s1.trans n.z) r3⟩⟩
theorem bD{x:Str}{id:String}{g:List D->Option D}(hc:CallR X (.builtin id) (vZ X.K g))(hg:Gl X x)(hm:X.mg x=none)(hv:bootBuiltins x=some (.builtin id))(ha:AV X (e::es) fs)(hn:x ≠ "__name__":=by decide)(hdb:(x==("__debug__":Str))=false:=by decide)
  (he:starEach (e::es) X.env=(false,eval e X.env)::starEach es X.env:=by rfl) (hpl:(backTo pos (starEach es X.env)).any (·.1)=false:=by rfl):EV X (.Call (.Name x p) (e::es) [] pos) (os fs g):=
 PE.imp (iy hc hg hm hv ha hn hdb he hpl) fun _ _ _ h=>args h
theorem gy{x:Str}{id:String}{g:List D->Option D}(hc:CallR X (.type id) (vZ X.K g))(hg:Gl X x)(hm:X.mg x=none)(hv:bootBuiltins x=some (.type id))(ha:AV X (e::es) fs)(hn:x ≠ "__name__":=by decide)(hdb:(x==("__debug__":Str))=false:=by decide)
  (he:starEach (e::es) X.env=(false,eval e X.env)::starEach es X.env:=by rfl) (hpl:(backTo pos (starEach es X.env)).any (·.1)=false:=by rfl):EV X (.Call (.Name x p) (e::es) [] pos) (os fs g):=
 PE.imp (qp hc hg hm hv ha hn hdb he hpl) fun _ _ _ h=>args h
theorem vz{k:Nat}{fa:Addr}{fd:FuncData}{ps:List Str}{x:Str}{g:List D->Option D}{dd:List D}{dv:List V}{ds:List Value}(F:FnOk X.prog X.w X.K X.mg X.base fT k fa fd ps (jo X.K g))(hr:Room k X.A)(hg:Gl X x)(hm:X.mg x=some (.ref fa))(hk:PySem.W.keepIn X.K (.ref fa)=true)
  (hb:Binds X.K fd ps ds) (hd:Vals dv ds) (hdd:∀Z,Reps X.K Z dv dd) (hx:lb fT X E0) (ha:AV X (e::es) fs) (hdb:(x==("__debug__":Str))=false:=by decide) (he:starEach (e::es) X.env=(false,eval e X.env)::starEach es X.env:=by rfl) (hpl:(backTo pos (starEach es X.env)).any (·.1)=false:=by rfl) :
  EV X (.Call (.Name x p) (e::es) [] pos) (os fs fun as=>g (as++dd)):=
 PE.imp (uR F hr hg hm hk hb hd hx ha hdb he hpl) fun σ H Q h=>by
  obtain⟨H₀,Z₀,Z,δ,xs,hh,e1,q⟩:=args h;refine⟨H₀,Z₀,Z,δ,xs,hh,e1,fun vs Z1 H1 hh1 s1 r1=>?_⟩
  obtain⟨Z2,as,d,zh,ra,eg,kk⟩:=q vs Z1 H1 hh1 s1 r1;exact⟨Z2,as++dd,d,zh,ra.append (hdd Z2),eg,kk⟩
theorem IxR.imp{r r':R2}(h:IxR X r)(i:∀x y H Q,r' x y H Q->r x y H Q):IxR X r':=fun value slice pins s σ H x y v u Q I rx ry q hs=>h value slice pins s σ H x y v u Q I rx ry (i _ _ _ _ q) hs
theorem be{g:D->D->Option D}(ho:IxR X (rD X.K g))(ha:EV X a f1)(hb:EV X b f2)(hs:la b):EV X (.Subscript a b pos) (o2 f1 f2 g):=
 PE.imp (v7 ho ha hb hs) fun _ _ _ h=>AX (fun _ _ _ _ q=>q) h
end
section
variable{X:Cx}{a b c e tg:Expr}{es:List Expr}{pos p:Pos}{f f1 f2 f3:Dv->Option D}{fs:Dv->Option (List D)}{ft fu:Dv->Option Bool}{st:Stmt}{sts body:List Stmt}{s1 s2:Dv->Option (Fl×Dv)}
theorem su{F:Value->Value->Sem Value}{g:Int->Int->Int}(h:OpR X F (tW fun i j=>.int (g i j))):OpR X F (rD X.K (iI g)):=
 OpR.imp h fun x y H Q q=>by
  obtain⟨Z,a,b,d,zh,ra,rb,e,k⟩:=q;cases ra<;>cases rb<;>simp[iI]at e;subst e;exact⟨_,_,rfl,rfl,k _ Z H (New.refl zh) (.int _)⟩
theorem wb{F:Value->Value->Sem Value}{g:Int->Int->Bool}(h:OpR X F (tW fun i j=>.bl (g i j))):OpR X F (rD X.K (iB g)):=
 OpR.imp h fun x y H Q q=>by
  obtain⟨Z,a,b,d,zh,ra,rb,e,k⟩:=q;cases ra<;>cases rb<;>simp[iB]at e;subst e;exact⟨_,_,rfl,rfl,k _ Z H (New.refl zh) (.bl _)⟩
theorem lS{F:Value->Value->Sem Value}{P:Int->Int->Prop}{C:Int->Int->Bool}{g:Int->Int->Int}(h:OpR X F (rI P fun i j=>.int (g i j)))(hc:∀i j,C i j=true->P i j):OpR X F (rD X.K (iC C g)):=
 OpR.imp h fun x y H Q q=>by
  obtain⟨Z,a,b,d,zh,ra,rb,e,k⟩:=q;cases ra with
  |int i=>
   cases rb with
   |int j=>
    by_cases hh:C i j=true
    ·simp only[iC,if_pos hh]at e
     cases e;exact⟨_,_,rfl,rfl,hc _ _ hh,k _ Z H (New.refl zh) (.int _)⟩
    ·simp only[iC,if_neg hh]at e
     cases e
   |_=>simp[iC]at e
  |_=>simp[iC]at e
theorem n9:OpR X (binaryOp .Mult) (rD X.K jv):=lS (P:=fun i j=>IntMulOk i j) (zI fun _ _ _ _ _ _ _ hc q=>mul_int q hc) fun i j h=>of_decide_eq_true h
theorem wy:OpR X (binaryOp .FloorDiv) (rD X.K n6):=lS uT fun i j h=>(of_decide_eq_true h:0<j/\j<1073741824)
theorem dM:OpR X (binaryOp .Mod) (rD X.K cq):=lS xy fun i j h=>of_decide_eq_true h
theorem AF:OpR X (binaryOp .LShift) (rD X.K pW):=lS (P:=fun i j=>0<=j/\(Builtin.Int.intBits i:Int)+j<=2^27) (zI fun _ _ _ _ _ _ _ hc q=>lshift_int hc.1 hc.2 q) fun i j h=>of_decide_eq_true h
theorem pG:OpR X (binaryOp .RShift) (rD X.K gS):=lS xx fun i j h=>of_decide_eq_true h
theorem AJ:OpR X (binaryOp .BitAnd) (rD X.K AO):=su xz
theorem Cj:OpR X (binaryOp .BitOr) (rD X.K CP):=su zF
theorem AE:OpR X (binaryOp .BitXor) (rD X.K yT):=su xw
theorem AH:OpR X (compareOp .Lt) (rD X.K BY):=wb zG
theorem tJ:OpR X (compareOp .Gt) (rD X.K wq):=wb zH
theorem AG:AS X (unaryOp .USub) (CO X.K negD):=by
 intro pins s σ H x v Q I rx q;obtain⟨Z,a,d,zh,ra,e,k⟩:=q;cases ra<;>simp[negD]at e;subst e;exact wJ pins s σ H _ v Q I rx ⟨_,rfl,k _ Z H (New.refl zh) (.int _)⟩
theorem Rep.str_eq{K:Fg}{Z:Hp}{v:V}{x:Str}(h:Rep K Z v (.str x)):v=.str x:=by cases h;rfl
theorem Rep.tup_ex{K:Fg}{Z:Hp}{v:V}{ds:List D}(h:Rep K Z v (.tuple ds)):∃a xs,v=.ref a/\SqT K Z a xs/\Reps K Z xs ds:=by
 cases h with
 |tup p q=>exact⟨_,_,rfl,p,q⟩
theorem Rep.lst_ex{K:Fg}{Z:Hp}{v:V}{ds:List D}(h:Rep K Z v (.list ds)):∃a xs,v=.ref a/\SqL K Z a xs/\Reps K Z xs ds:=by
 cases h with
 |lst p q=>exact⟨_,_,rfl,p,q⟩
theorem cJ{p:Prop}[Decidable p]{α:Type}{x y:α}(h:(if p then some x else none)=some y):p/\x=y:=by
 by_cases q:p
 ·rw[if_pos q]at h;exact⟨q,Option.some.inj h⟩
 ·rw[if_neg q]at h;cases h
theorem yD{a b d:D}(h:cM a b=some d):(∃i,a=.int i)\/(∃x,a=.str x)\/(∃xs,a=.list xs)\/∃xs,a=.tuple xs:=by
 cases a with
 |int i=>exact .inl ⟨_,rfl⟩
 |str i=>exact .inr (.inl ⟨_,rfl⟩)
 |list i=>exact .inr (.inr (.inl ⟨_,rfl⟩))
 |tuple i=>exact .inr (.inr (.inr ⟨_,rfl⟩))
 |_=>cases h
theorem yE{i:Int}{b d:D}(h:cM (.int i) b=some d):∃j,b=.int j/\d=.int (i+j):=by
 cases b with
 |int j=>exact⟨j,rfl,(Option.some.inj h).symm⟩
 |_=>cases h
theorem yB{i:Str}{b d:D}(h:cM (.str i) b=some d):∃j,b=.str j/\i.length+j.length<=sizeLine/\d=.str (i++j):=by
 cases b with
 |str j=>obtain⟨p,q⟩:=cJ h;exact⟨j,rfl,p,q.symm⟩
 |_=>cases h
theorem yC{i:List D}{b d:D}(h:cM (.list i) b=some d):∃j,b=.list j/\i.length+j.length<=sizeLine/\d=.list (i++j):=by
 cases b with
 |list j=>obtain⟨p,q⟩:=cJ h;exact⟨j,rfl,p,q.symm⟩
 |_=>cases h
theorem yA{i:List D}{b d:D}(h:cM (.tuple i) b=some d):∃j,b=.tuple j/\i.length+j.length<=sizeLine/\d=.tuple (i++j):=by
 cases b with
 |tuple j=>obtain⟨p,q⟩:=cJ h;exact⟨j,rfl,p,q.symm⟩
 |_=>cases h
theorem di:OpR X (binaryOp .Add) (rD X.K cM):=by
 intro pins s σ H x y v u Q I rx ry q;obtain⟨Z,a,b,d,zh,ra,rb,e,k⟩:=q;rcases yD e with⟨i,rfl⟩|⟨i,rfl⟩|⟨ds,rfl⟩|⟨ds,rfl⟩
 ·obtain⟨j,rfl,rfl⟩:=yE e
  cases ra.int_eq;cases rb.int_eq;exact xA pins s σ H _ _ v u Q I rx ry ⟨_,_,rfl,rfl,k _ Z H (New.refl zh) (.int _)⟩
 ·obtain⟨j,rfl,hl,rfl⟩:=yB e
  cases ra.str_eq;cases rb.str_eq;exact nC pins s σ H _ _ v u Q I rx ry ⟨_,_,rfl,rfl,hl,k _ Z H (New.refl zh) (.str _)⟩
 ·obtain⟨es,rfl,hl,rfl⟩:=yC e
  obtain⟨a,xs,rfl,h1,q1⟩:=ra.lst_ex;obtain⟨b,ys,rfl,h2,q2⟩:=rb.lst_ex;cases rx;cases ry;obtain⟨its,r1,p1,z1⟩:=I.list (SqL.same h1 zh);obtain⟨its2,r2,p2,z2⟩:=I.list (SqL.same h2 zh);obtain⟨⟨cls,dd,data,sl⟩,n1,ho,hc,hdd,hd⟩:=p1;obtain⟨⟨cls2,dd2,data2,sl2⟩,n2,ho2,hc2,hdd2,hd2⟩:=p2;simp only at hc hd hc2 hd2;subst hc hd hc2 hd2;have hl1:=r1.length;have hl2:=r2.length;have ql1:=q1.length;have ql2:=q2.length;refine concat_meets ⟨_,ho,rfl⟩ ⟨_,ho2,rfl⟩ noFill_list_add seq_list_add PySem.F.slot_list_add PySem.F.entry_list_add (PySem.F.args_list_add_2 _ _) (list_addW a b its.toArray its2.toArray n1 n2 dd dd2 sl sl2 (by simp;omega)) ⟨ho,ho2,?_⟩;have ea:its.toArray++its2.toArray=(its++its2).toArray:=by simp
  rw[ea];have n:=New.add zh I.fresh (.lst (xs++ys));exact⟨.ref _,_,I.lnew (t':=s.toks) (r1.append r2) (by rw[List.length_append];omega),rfl,k _ _ _ n (.lst (SqL.of al) ((q1.append q2).same n.z))⟩
 ·obtain⟨es,rfl,hl,rfl⟩:=yA e
  obtain⟨a,xs,rfl,h1,q1⟩:=ra.tup_ex;obtain⟨b,ys,rfl,h2,q2⟩:=rb.tup_ex;by_cases h0:ds.length=0
  ·have hd0:ds=[]:=List.eq_nil_of_length_eq_zero h0
   subst hd0;cases q1;cases rx;cases ry;obtain⟨its,r1,p1,z1⟩:=I.tuple (SqT.same h1 zh);obtain⟨its2,r2,p2,z2⟩:=I.tuple (SqT.same h2 zh);cases r1;obtain⟨⟨cls,dd,data,sl⟩,ho,hc,n,hd⟩:=id p1;obtain⟨⟨cls2,dd2,data2,sl2⟩,ho2,hc2,n2,hd2⟩:=id p2;simp only at hc hd hc2 hd2;subst hc hd hc2 hd2;exact concat_meets ⟨_,ho,rfl⟩ ⟨_,ho2,rfl⟩ noFill_tuple_add seq_tuple_add PySem.F.slot_tuple_add PySem.F.entry_tuple_add (PySem.F.args_tuple_add_2 _ _)
    (tuple_addW0 a b _ its2.toArray n n2 dd dd2 sl sl2 (by simp)) ⟨ho,ho2,⟨.ref b,H,I,rfl,k _ Z H (New.refl zh) (.tup h2 q2)⟩⟩
  refine uU pins s σ H _ _ v u Q I rx ry ⟨a,b,xs,ys,rfl,rfl,SqT.same h1 zh,SqT.same h2 zh,fun z=>h0 (by rw[<-q1.length,z];rfl),by rw[q1.length,q2.length];exact hl,fun z=>?_,fun z p hp=>?_⟩
  ·subst z
   cases q2;rw[List.append_nil]at k;exact k _ Z H (New.refl zh) (.tup h1 q1)
  ·have n:=New.add zh hp (.tup (xs++ys))
   exact k _ _ _ n (.tup (SqT.of al) ((q1.append q2).same n.z))
theorem g9{d:D}(h:shp d=true):d.canLay0=true:=(Bool.and_eq_true_iff.mp h).1
theorem qT(hu:X.A.units+64<cLine):OpR X (compareOp .Eq) (rD X.K n4):=by
 intro pins s σ H x y v u Q I rx ry q;obtain⟨Z,a,b,d,zh,ra,rb,e,k⟩:=q;by_cases hs:shp a=true/\shp b=true
 ·rw[n4,if_pos hs]at e
  cases e;obtain⟨as,r1⟩:=ra.reads I zh rx (g9 hs.1);obtain⟨bs,r2⟩:=rb.reads I zh ry (g9 hs.2);exact eq_dataH r1 r2 hs.1 hs.2 hu ⟨.bl _,H,I,rfl,k _ Z H (New.refl zh) (.bl _)⟩
 ·rw[n4,if_neg hs]at e;cases e
theorem vE(hu:X.A.units+64<cLine):OpR X (compareOp .NotEq) (rD X.K neD):=by
 intro pins s σ H x y v u Q I rx ry q;obtain⟨Z,a,b,d,zh,ra,rb,e,k⟩:=q;by_cases hs:shp a=true/\shp b=true
 ·rw[neD,if_pos hs]at e
  cases e;obtain⟨as,r1⟩:=ra.reads I zh rx (g9 hs.1);obtain⟨bs,r2⟩:=rb.reads I zh ry (g9 hs.2);exact ne_dataH r1 r2 hs.1 hs.2 hu ⟨.bl _,H,I,rfl,k _ Z H (New.refl zh) (.bl _)⟩
 ·rw[neD,if_neg hs]at e;cases e
theorem Reps.at{K:Fg}{Z:Hp}{vs:List V}{ds:List D}{i:Int}{d:D}(r:Reps K Z vs ds)(h:jn ds i=some d):∃v,jn vs i=some v/\Rep K Z v d:=by
 unfold jn at h ⊢;rw[r.length];obtain⟨j,e,h⟩:=bind_some h;obtain⟨v,q,rr⟩:=r.get h;exact⟨v,by rw[e];exact q,rr⟩
theorem z9{a b d:D}(h:dJ a b=some d):(∃xs,a=.list xs)\/∃xs,a=.tuple xs:=by
 cases a with
 |list i=>exact .inl ⟨_,rfl⟩
 |tuple i=>exact .inr ⟨_,rfl⟩
 |_=>cases h
theorem wl{xs:List D}{b d:D}(h:dJ (.list xs) b=some d):∃i,b=.int i/\jn xs i=some d:=by
 cases b with
 |int i=>exact⟨i,rfl,h⟩
 |_=>cases h
theorem cB:IxR X (rD X.K dJ):=
 IxR.imp (ix_list.or xQ) fun x y H Q q=>by
  obtain⟨Z,a,b,d,zh,ra,rb,e,k⟩:=q;rcases z9 e with⟨xs,rfl⟩|⟨xs,rfl⟩
  ·obtain⟨i,rfl,e⟩:=wl e
   obtain⟨a,vs,rfl,h1,q1⟩:=ra.lst_ex;cases rb.int_eq;obtain⟨v,ev,rv⟩:=q1.at e;exact .inl ⟨_,_,_,v,rfl,rfl,SqL.same h1 zh,ev,k v Z H (New.refl zh) rv⟩
  ·obtain⟨i,rfl,e⟩:=wl (xs:=xs) (b:=b) (by cases b<;>exact e)
   obtain⟨a,vs,rfl,h1,q1⟩:=ra.tup_ex;cases rb.int_eq;obtain⟨v,ev,rv⟩:=q1.at e;exact .inr ⟨_,_,_,v,rfl,rfl,SqT.same h1 zh,ev,k v Z H (New.refl zh) rv⟩
theorem fN:CallR X (.builtin "len") (vZ X.K de):=
 CallR.imp tN fun xs H Q q=>by
  obtain⟨Z,as,d,zh,ra,e,k⟩:=q;cases ra with
  |nil=>cases e
  |cons r1 r2=>
   cases r2 with
   |cons _ _=>cases r1<;>cases e
   |nil=>
    cases r1 with
    |lst h1 q1=>cases e;exact⟨_,_,rfl,.inl ⟨_,SqL.same h1 zh,rfl⟩,k _ Z H (New.refl zh) (by rw[q1.length];exact .int _)⟩
    |tup h1 q1=>cases e;exact⟨_,_,rfl,.inr ⟨_,SqT.same h1 zh,rfl⟩,k _ Z H (New.refl zh) (by rw[q1.length];exact .int _)⟩
    |_=>cases e
theorem yq:CallR X (.type "list") (vZ X.K jY):=
 CallR.imp kQ fun xs H Q q=>by
  obtain⟨Z,as,d,zh,ra,e,k⟩:=q;cases ra with
  |nil=>cases e
  |cons r1 r2=>
   cases r2 with
   |cons _ _=>cases r1<;>cases e
   |nil=>
    cases r1 with
    |lst h1 q1=>cases e;exact⟨_,_,rfl,.inl (SqL.same h1 zh),fun l hl=>let n:=New.add zh hl (.lst _);k _ _ _ n (.lst (SqL.of al) (q1.same n.z))⟩
    |tup h1 q1=>cases e;exact⟨_,_,rfl,.inr (SqT.same h1 zh),fun l hl=>let n:=New.add zh hl (.lst _);k _ _ _ n (.lst (SqL.of al) (q1.same n.z))⟩
    |_=>cases e
theorem pI:CallR X (.type "tuple") (vZ X.K fU):=
 CallR.imp jC fun xs H Q q=>by
  obtain⟨Z,as,d,zh,ra,e,k⟩:=q;cases ra with
  |nil=>cases e
  |cons r1 r2=>
   cases r2 with
   |cons _ _=>cases r1<;>cases e
   |nil=>
    cases r1 with
    |lst h1 q1=>cases e;exact⟨_,_,rfl,.inl ⟨SqL.same h1 zh,fun l hl=>let n:=New.add zh hl (.tup _);k _ _ _ n (.tup (SqT.of al) (q1.same n.z))⟩⟩
    |tup h1 q1=>cases e;exact⟨_,_,rfl,.inr ⟨SqT.same h1 zh,k _ Z H (New.refl zh) (.tup h1 q1)⟩⟩
    |_=>cases e
theorem u9:Cu X "int.bit_length" (fun x xs H Q=>∃i,x=.int i/\xs=[]/\Q (.int (Builtin.Int.intBits i)) H):=by
 intro pins s σ H x xs v us Q I rx rs q;obtain⟨i,rfl,rfl,q⟩:=q;obtain⟨t,rfl⟩:=rx;cases rs;exact call_int_bit_length ⟨.int _,H,I.tok _,⟨_,rfl⟩,q⟩
theorem vA{apos:Pos}(ha:EV X a f)(hbase:attributeBase a "bit_length" X.env (eval a X.env)=eval a X.env:=by rfl)(hline:(apos.endLine==pos.line)=true:=by rfl):EV X (.Call (.Attribute a "bit_length" apos) [] [] pos) (o1 f mU):=
 PE.imp (xu PySem.F.plainAttrs_int PySem.F.slot_int_bit_length PySem.F.type_int_bit_length u9 ha hbase hline) fun σ H Q h=>by
  obtain⟨H₀,Z₀,Z,δ,d,hh,e,k⟩:=h;obtain⟨x,e1,e⟩:=bind_some e;refine⟨H₀,Z₀,Z,δ,x,hh,e1,fun v Z1 H1 hh1 s1 r1=>?_⟩
  cases r1<;>simp[mU]at e;subst e;exact⟨rfl,_,rfl,rfl,k _ Z1 H1 hh1 s1 (.int _)⟩
theorem xL(K:Fg){t T:String}(ht:t = "NoneType" \/ t = "bool" \/ t = "int" \/ t = "str" \/ t = "list" \/ t = "tuple")(hT:T = "int" \/ T = "bool" \/ T = "str" \/ T = "list" \/ T = "tuple"):PySem.W.kitOne K (.type t) (.type T)=some (xW t T):=by
 rcases ht with rfl|rfl|rfl|rfl|rfl|rfl<;>rcases hT with rfl|rfl|rfl|rfl|rfl<;>rfl
theorem Rep.ty{K:Fg}{Z H:Hp}{v:V}{d:D}(zh:Same Z H)(r:Rep K Z v d)(hD:¬o0 d=true):(tyN d = "NoneType" \/ tyN d = "bool" \/ tyN d = "int" \/ tyN d = "str" \/ tyN d = "list" \/ tyN d = "tuple"):=by
 cases r<;>simp[tyN]
 ·exact absurd rfl hD
 ·exact absurd rfl hD
theorem xV{pins:List (Addr×Obj)}{σ:St}{H Z:Hp}{s:Shared}{x:V}{u:Value}{d:D}{T:String}{A:Around}{E:Value->Shared->Prop}{Q:Value->Shared->Prop}(I:Inv X pins σ H s)(zh:Same Z H)(rx:RelV x u)(r:Rep X.K Z x d)(hD:¬o0 d=true)
  (hT:T = "int" \/ T = "bool" \/ T = "str" \/ T = "list" \/ T = "tuple") (h:∀tk,Q (.bool (xW (tyN d) T)) { s with toks:=tk }):wpAny (model X.prog X.w) A (call (.builtin "isinstance") [u,.type T]) Q E s:=by
 have ko:=xL X.K (Rep.ty zh r hD) hT;cases r with
 |non=>exact ej I rx (.non) ko h
 |bl b=>exact ej I rx (.bl b) ko h
 |int b=>exact ej I rx (.int b) ko h
 |str b=>exact ej I rx (.str b) ko h
 | @tup a xs ds h1 q1=>
  cases(show u=Value.ref a from rx);obtain⟨its,_,p,_⟩:=I.tuple (SqT.same h1 zh);obtain⟨o,h1,h2,_⟩:=p;exact PySem.W.kia_one PySem.W.kitx_tuple I.kIn ⟨o,h1,h2⟩ ko (fun z=>nomatch z) h
 | @lst a xs ds h1 q1=>
  cases(show u=Value.ref a from rx);obtain⟨its,_,p,_⟩:=I.list (SqL.same h1 zh);obtain⟨o,n,h1,h2,_⟩:=p;exact PySem.W.kia_one PySem.W.kitx_list I.kIn ⟨o,h1,h2⟩ ko (fun z=>nomatch z) h
 |opq h1=>exact absurd rfl hD
 |gdc _ _ _ _=>exact absurd rfl hD
theorem AL(T:String):CallR X (.builtin "isinstance") (fun xs H Q=>∃x Z d r,xs=[x,.ty T]/\Same Z H/\Rep X.K Z x d/\dY T d=some r/\∃b,r=.bool b/\Q (.bl b) H):=by
 intro pins s σ H xs us Q I rv h;obtain⟨x,Z,d,r,rfl,zh,rr,e,b,rfl,q⟩:=h;obtain⟨u,w',rfl,r1,r2⟩:=yW rv;cases(show w'=Value.type T from r2);by_cases hD:o0 d=true
 ·rw[dY,if_pos hD]at e;cases e
 by_cases hT:T = "int" \/ T = "bool" \/ T = "str" \/ T = "list" \/ T = "tuple"
 ·rw[dY,if_neg hD,if_pos hT]at e
  cases e;exact xV I zh r1 rr hD hT fun tk=>⟨.bl _,H,I.tok _,rfl,q⟩
 ·rw[dY,if_neg hD,if_neg hT]at e;cases e
theorem i9{x:Str}{T:String}{p2:Pos}(hg:Gl X "isinstance")(hm:X.mg "isinstance" = none)(hgT:Gl X x)(hmT:X.mg x=none)(hvT:bootBuiltins x=some (.type T))(hnT:x ≠ "__name__")(hdT:(x==("__debug__":Str))=false)(ha:EV X a f)
  (he:starEach (a::[.Name x p2]) X.env=(false,eval a X.env)::starEach [.Name x p2] X.env:=by rfl) (he2:starEach ((.Name x p2)::[]) X.env=(false,eval (.Name x p2) X.env)::starEach [] X.env:=by rfl) (hpl:(backTo pos (starEach [.Name x p2] X.env)).any (·.1)=false:=by rfl) :
  EV X (.Call (.Name "isinstance" p) [a,.Name x p2] [] pos) (o1 f (dY T)):=
 PE.imp (iy (AL T) hg hm PyProof.Rows.boot_isinstance (cP ha (cP (uS (v:=.ty T) hgT hmT hvT rfl hnT hdT) eK he2) he) (by decide) (by decide) he hpl) fun σ H Q h=>by
  obtain⟨H₀,Z₀,Z,δ,d,hh,e,k⟩:=h;obtain⟨y,e1,e⟩:=bind_some e;refine⟨H₀,Z₀,Z,δ,y,hh,e1,fun v Z1 H1 hh1 s1 r1=>⟨v,Z1,y,d,rfl,hh1.zh,r1,e,?_⟩⟩
  have:∃b,d=.bool b:=by
   unfold dY at e;split at e
   ·cases e
   ·split at e
    ·cases e;exact⟨_,rfl⟩
    ·cases e
  obtain⟨b,rfl⟩:=this;exact⟨b,rfl,k _ Z1 H1 hh1 s1 (.bl b)⟩
end
section
variable{X:Cx}{a b c e tg iter:Expr}{es:List Expr}{pos p:Pos}{f f1 f2 f3:Dv->Option D}{fs:Dv->Option (List D)}{ft fu:Dv->Option Bool}{st:Stmt}{sts body orelse:List Stmt}{s1 s2 s3:Sf}
theorem aQ(he:EV X e f):SV X (.Return (some e) pos) (cF f):=
 PS.imp (xk he) fun D σ H h=>by
  obtain⟨H₀,Z₀,Z,δ,r,hh,e,k⟩:=h;obtain⟨x,e1,e⟩:=bind_some e;cases e;exact⟨H₀,Z₀,Z,δ,x,hh,e1,fun v Z1 H1 hh1 s1 r1=>k σ H1 Z1 hh1 s1 v r1⟩
theorem bg(i:Nat){x:Str}{pos':Pos}(hN:X.N.Nodup)(he:EV X e f)(hi:X.N[i]? = some x:=by rfl)(hx:rh X.env.scope x:=by first|exact Or.inl rfl|exact Or.inr rfl)(hs:swapsWith e (some (.Name x pos')) pos.line X.env=pure false:=by rfl)
  (hf:X.fn x=true\/X.env.scope.names.lookup x=some .local:=by first|exact .inl rfl|exact .inr rfl|assumption):SV X (.Assign [.Name x pos'] e pos) (cj i f):=
 PS.imp (nz hN hi hx he hs hf) fun D σ H h=>by
  obtain⟨H₀,Z₀,Z,δ,r,hh,e,k⟩:=h;obtain⟨x,e1,e⟩:=bind_some e;cases e;exact⟨H₀,Z₀,Z,δ,x,hh,e1,fun v Z1 H1 hh1 s1 r1=>k _ H1 Z1 (hh1.set r1) s1⟩
theorem zO{D:Ends}{σ:St}{H:Hp}{K:Fg}(h:wL K mX D σ H):D.nx σ H:=by
 obtain⟨H₀,Z₀,Z,δ,r,hh,e,k⟩:=h;cases e;exact k σ H Z hh (Same.refl _)
theorem cr:BV X [] mX:=PSs.imp uF fun D σ H h=>zO h
theorem aj(h1:SV X st s1)(h2:BV X sts s2):BV X (st::sts) (aB s1 s2):=
 PSs.imp (rY h1 h2) fun D σ H h=>by
  obtain⟨H₀,Z₀,Z,δ,r,hh,e,k⟩:=h;obtain⟨⟨fl,δ'⟩,e1,e⟩:=bind_some e;refine⟨H₀,Z₀,Z,δ,(fl,δ'),hh,e1,fun σ' H' Z' hh' s'=>?_⟩
  cases fl with
  |nx=>exact⟨H₀,Z₀,Z',δ',r,hh',e,fun σ2 H2 Z2 hh2 s2=>by
    have:=k σ2 H2 Z2 hh2 (s'.trans s2);obtain⟨fl,δ2⟩:=r;cases fl<;>exact this⟩
  |bk=>cases e;exact k σ' H' Z' hh' s'
  |ct=>cases e;exact k σ' H' Z' hh' s'
  |rt d=>cases e;exact k σ' H' Z' hh' s'
theorem ao(h1:SV X st s1):BV X [st] s1:=uE h1
theorem dI(hc:TV X c ft)(ha:BV X body s1)(hb:BV X orelse s2):SV X (.If c body orelse pos) (eA ft s1 s2):=
 PS.imp (zy hc ha hb) fun D σ H h=>by
  obtain⟨H₀,Z₀,Z,δ,r,hh,e,k⟩:=h;obtain⟨x,e1,e⟩:=bind_some e;refine⟨H₀,Z₀,Z,δ,x,hh,e1,fun Z1 H1 hh1 t1=>?_⟩
  cases x with
  |true=>exact⟨H₀,Z₀,Z1,δ,r,hh1,e,fun σ2 H2 Z2 hh2 t2=>k σ2 H2 Z2 hh2 (t1.trans t2)⟩
  |false=>exact⟨H₀,Z₀,Z1,δ,r,hh1,e,fun σ2 H2 Z2 hh2 t2=>k σ2 H2 Z2 hh2 (t1.trans t2)⟩
theorem Aq{K:Fg}(i:Nat){D:Ends}{σ:St}{H:Hp}(h:wL K (fun δ=>s1 (vF i δ)) D σ H):wL K s1 D σ H:=by
 obtain⟨H₀,Z₀,Z,δ,r,hh,e,k⟩:=h;have e:s1 (vF i δ)=some r:=e;unfold vF at e;split at e
 ·rename_i ds q
  obtain⟨Z1,t1,hh1⟩:=hh.frz q;exact⟨H₀,Z₀,Z1,_,r,hh1,e,fun σ2 H2 Z2 hh2 t2=>k σ2 H2 Z2 hh2 (t1.trans t2)⟩
 ·exact⟨H₀,Z₀,Z,_,r,hh,e,k⟩
theorem vU(i:Nat)(h:SV X st s1):SV X st (fun δ=>s1 (vF i δ)):=PS.imp h fun D σ H q=>Aq i q
def C7(K:Fg)(g:D->Dv->Option Dv):TG:=fun v σ H Q=>∃H₀ Z₀ Z δ d δ',Hold K H₀ Z₀ Z δ σ H/\Rep K Z v d/\g d δ = some δ'/\∀ σ' H' Z',Hold K H₀ Z₀ Z' δ' σ' H'->Same Z Z'->Q σ' H'
def GV(X:Cx)(tg:Expr)(g:D->Dv->Option Dv):Prop:=PG X tg (C7 X.K g)
theorem PG.imp{t t':TG}(h:PG X tg t)(i:∀v σ H Q,t' v σ H Q->t v σ H Q):PG X tg t':=fun pins s σ H x v Q I r q=>h pins s σ H x v Q I r (i _ _ _ _ q)
theorem aS(i:Nat){x:Str}(hN:X.N.Nodup)(hi:X.N[i]? = some x:=by rfl)(hx:rh X.env.scope x:=by first|exact Or.inl rfl|exact Or.inr rfl)
  (hf:X.fn x=true\/X.env.scope.names.lookup x=some .local:=by first|exact .inl rfl|exact .inr rfl|assumption):GV X (.Name x pos) (gN i):=
 PG.imp (bE hN hi hx hf) fun v σ H Q h=>by
  obtain⟨H₀,Z₀,Z,δ,d,δ',hh,r,e,k⟩:=h;cases e;exact k _ H Z (hh.set r) (Same.refl _)
structure ItOk (K:Fg) (Z:Hp) (J:It) (ds:List D):Prop where
 go:∀(i:Nat) (H:Hp),Same Z H->i<ds.length->J.go i H
 yld:∀(i:Nat) (H:Hp) x H' d,Same Z H->ds[i]? = some d->J.yld i H x H'->H'=H/\Rep K Z x d
 stop:∀(i:Nat) (H:Hp),Same Z H->ds.length<=i->J.stop i H
def Bo(K:Fg)(f:Dv->Option (List D)):TI:=fun σ H R=>∃H₀ Z₀ Z δ ds,Hold K H₀ Z₀ Z δ σ H/\f δ = some ds/\∀J Z' H',Hold K H₀ Z₀ Z' δ σ H'->Same Z Z'->ItOk K Z' J ds->R J H'
def IV(X:Cx)(tg iter:Expr)(f:Dv->Option (List D)):Prop:=PI X tg iter (Bo X.K f)
theorem PI.imp{t t':TI}(h:PI X tg iter t)(i:∀ σ H R,t' σ H R->t σ H R):PI X tg iter t':=fun pins s σ H R I q=>h pins s σ H R I (i _ _ _ q)
theorem bM{g:D->Dv->Option Dv}(hp:PassesOwn (model X.prog X.w) X.A X.env X.xe)(hc:X.calm=true)(hi:IV X tg iter fs)(hg:GV X tg g)(hb:BV X body s1)
  (hs:∀x,foldedSetIterable iter X.env x=pure x:=by intro _;rfl):SV X (.For tg iter body [] pos) (er fs g s1):=
 PS.imp (xl hp hc hi hg hb hs) fun D σ H h=>by
  obtain⟨H₀,Z₀,Z,δ,r,hh,e,k⟩:=h;obtain⟨ds,e1,e⟩:=bind_some e;refine⟨H₀,Z₀,Z,δ,ds,hh,e1,fun J Z1 H1 hh1 t1 ok=>?_⟩
  refine⟨fun i m σ H=>m=ds.length-i/\i<=ds.length/\∃Zc δc,Hold X.K H₀ Z₀ Zc δc σ H/\Same Z1 Zc/\loop g s1 (ds.drop i) δc=some r,⟨ds.length,by simp,Nat.zero_le _,Z1,δ,hh1,Same.refl _,e⟩,?_⟩
  rintro i m σ2 H2 ⟨rfl,hi2,Zc,δc,hhc,tc,ec⟩;have zh:Same Z1 H2:=tc.trans hhc.zh;by_cases hlt:i<ds.length
  ·refine .inr ⟨ok.go i H2 zh hlt,fun σ3 H3=>∃Zc δc,Hold X.K H₀ Z₀ Zc δc σ3 H3/\Same Z1 Zc/\loop g s1 (ds.drop (i+1)) δc=some r,fun σ3 H3 q=>⟨ds.length-(i+1),by omega,rfl,hlt,q⟩,fun x H3 y=>?_⟩
   have ed:ds[i]? = some ds[i]:=by simp[hlt]
   obtain⟨rfl,rx⟩:=ok.yld i H2 x H3 _ zh ed y;rw[List.drop_eq_getElem_cons hlt]at ec;obtain⟨δ1,g1,ec⟩:=bind_some ec;obtain⟨⟨fl,δ2⟩,g2,ec⟩:=bind_some ec;refine⟨H₀,Z₀,Zc,δc,_,δ1,hhc,rx.same tc,g1,fun σ4 H4 Z4 hh4 t4=>⟨H₀,Z₀,Z4,δ1,(fl,δ2),hh4,g2,fun σ5 H5 Z5 hh5 t5=>?_⟩⟩
   cases fl with
   |nx=>exact⟨Z5,δ2,hh5,(tc.trans t4).trans t5,ec⟩
   |ct=>exact⟨Z5,δ2,hh5,(tc.trans t4).trans t5,ec⟩
   |bk=>cases ec;exact k σ5 H5 Z5 hh5 (((t1.trans tc).trans t4).trans t5)
   |rt d=>cases ec;exact k σ5 H5 Z5 hh5 (((t1.trans tc).trans t4).trans t5)
  ·have e2:ds.drop i=[]:=List.drop_eq_nil_iff.mpr (by omega)
   rw[e2]at ec;cases ec;exact .inl ⟨ok.stop i H2 zh (by omega),k σ2 H2 Zc hhc (t1.trans tc)⟩
theorem sO{K:Fg}{Z:Hp}{lo:Int}{n:Nat}:ItOk K Z (yR lo n) (qc lo n) where
 go:=fun i H _ h=>by simpa[qc,yR]using h
 yld:=fun i H x H' d _ e y=>by
  obtain⟨rfl,rfl⟩:=y;refine⟨rfl,?_⟩;unfold qc at e;rw[List.getElem?_map]at e;cases q:(List.range n)[i]? with
  |none=>rw[q]at e;cases e
  |some k=>
   rw[q]at e;cases e;have:k=i:=by
    obtain⟨h,h2⟩:=List.getElem?_eq_some_iff.mp q;simpa using h2.symm
   subst this;exact .int _
 stop:=fun i H _ h=>by simpa[qc,yR]using h
theorem b6(hg:Gl X "range")(hm:X.mg "range" = none)(ha:AV X [a] fs)(hs:starEach [a] X.env=[(false,eval a X.env)]:=by rfl):IV X tg (.Call (.Name "range" p) [a] [] pos) (oL fs bj):=
 PI.imp (qo hg hm ha hs) fun σ H R h=>by
  obtain⟨H₀,Z₀,Z,δ,ds,hh,e,k⟩:=h;obtain⟨as,e1,e⟩:=bind_some e;refine⟨H₀,Z₀,Z,δ,as,hh,e1,fun vs Z1 H1 hh1 t1 r1=>?_⟩
  unfold bj at e;split at e
  ·rename_i j
   split at e
   ·rename_i hj
    cases e;cases r1 with
    |cons q1 q2=>
     cases q2;exact⟨j,by rw[q1.int_eq],hj.2,hj.1,k _ Z1 H1 hh1 t1 sO⟩
   ·cases e
  ·cases e
theorem vj(ha:EV X a f):IV X tg a (oI f vd):=
 PI.imp (uL ha) fun σ H R h=>by
  obtain⟨H₀,Z₀,Z,δ,ds,hh,e,k⟩:=h;obtain⟨y,e1,e⟩:=bind_some e;refine⟨H₀,Z₀,Z,δ,y,hh,e1,fun v Z1 H1 hh1 t1 r1=>?_⟩
  cases r1 with
  | @lst l xs ds' h1 q1=>
   cases e;refine⟨l,rfl,⟨xs,SqL.same h1 hh1.zh⟩,k _ Z1 H1 hh1 t1 ⟨fun i H2 z hi=>?_,fun i H2 x H3 d z ed y=>?_,fun i H2 z hi=>⟨xs,SqL.same h1 z,by rw[q1.length];exact hi⟩⟩⟩
   ·have hi':i<xs.length:=by rw[q1.length];exact hi
    exact⟨xs,xs[i],SqL.same h1 z,by simp[hi']⟩
   ·obtain⟨rfl,y⟩:=y
    obtain⟨v,ev,rv⟩:=q1.get ed;have:=y xs (SqL.same h1 z);rw[ev]at this;cases this;exact⟨rfl,rv⟩
  |_=>cases e
theorem xS(ha:EV X a f):IV X tg a (oI f Bm):=
 PI.imp (xm ha) fun σ H R h=>by
  obtain⟨H₀,Z₀,Z,δ,ds,hh,e,k⟩:=h;obtain⟨y,e1,e⟩:=bind_some e;refine⟨H₀,Z₀,Z,δ,y,hh,e1,fun v Z1 H1 hh1 t1 r1=>?_⟩
  cases r1 with
  | @tup l xs ds' h1 q1=>
   cases e;refine⟨l,rfl,⟨xs,SqT.same h1 hh1.zh⟩,k _ Z1 H1 hh1 t1 ⟨fun i H2 z hi=>?_,fun i H2 x H3 d z ed y=>?_,fun i H2 z hi=>⟨xs,SqT.same h1 z,by rw[q1.length];exact hi⟩⟩⟩
   ·have hi':i<xs.length:=by rw[q1.length];exact hi
    exact⟨xs,xs[i],SqT.same h1 z,by simp[hi']⟩
   ·obtain⟨rfl,y⟩:=y
    obtain⟨v,ev,rv⟩:=q1.get ed;have:=y xs (SqT.same h1 z);rw[ev]at this;cases this;exact⟨rfl,rv⟩
  |_=>cases e
end
noncomputable def qZ(lo st:Int)(n:Nat):It:=⟨fun i _=>i<n,fun i H x H'=>H'=H/\x=.int (lo+i*st),fun i _=>n<=i⟩
theorem lq{P:Program}{w:World}{K:PySem.W.Frag}{tg:Expr}(it:Addr)(lo st:Int)(n:Nat):qX P w K tg (qZ lo st n) [it] it (fun i h=>IsRangeIter h it (lo+(i:Nat)*st) ((n:Int)-(i:Nat)) st) where
 mem:=by simp
 obj:=fun i h st b hb=>by
  have e:b=it:=by simpa using hb
  subst e;exact⟨_,st,fun v z=>by
   have z':Data.fields _=Data.cell v:=z;cases z'⟩
 keep:=fun i h h' st k=>k it (by simp) _ st
 item:=by
  intro X hP hw hK hc i pins s σ H E I hf st' hg;subst hP hw hK;obtain⟨f0,f1,f2,f3,f4,f5⟩:=hf it (by simp);have W:=Walks.range (prog:=X.prog) (w:=X.w) (I.ok.hd hc) it lo st n;refine W.item i s _ _ hg st' fun v h' tk hv st'' kk=>?_
  obtain⟨t,rfl⟩:=hv;have I1:Inv X pins σ H { s with heap:=h',toks:=tk }:=I.turned (fun b o hb e=>kk b o (by simpa using hb) e) f0 f1 f3 f4 f5
  exact⟨_,rfl,o8 (s:={ s with heap:=h',toks:=tk }) (n:="range_iterator") st'' rfl rfl (by decide) ⟨.int (lo+i*st),H,I1,⟨t,rfl⟩,⟨rfl,rfl⟩,st'',fun b hb=>(hf b hb).1⟩⟩
 done:=by
  intro X hP hw hK hc i pins s σ H E I hf st' hg;subst hP hw hK;obtain⟨f0,f1,f2,f3,f4,f5⟩:=hf it (by simp);exact wpAny_pyNext_range_end (I.ok.hd hc) st' (by have:n<=i:=hg;omega) fun h' eb=>⟨rfl,I.turned (t':=s.toks) (fun b o hb e=>eb b o hb e) f0 f1 f3 f4 f5⟩
 self:=fun _ _ _ _ _ st h=>wpAny_pyIter_rangeiter st h
theorem nq{a b c:Int}(ha:-(2^40)<=a)(ha':a<2^40)(hb:-(2^40)<=b)(hb':b<2^40)(hc:0<c)(hc':c<2^20):Builtin.Range.small a b c=true:=by
 have h0:0<=(b-a-1)/c\/b-a-1<0:=by
  rcases Int.lt_or_le (b-a-1) 0 with h|h
  ·exact .inr h
  ·exact .inl (Int.ediv_nonneg h (by omega))
 have h1:0<=b-a-1->(b-a-1)/c<=b-a-1:=fun h=>Int.ediv_le_self _ h
 have h2:0<=b-a-1->(b-a-1)/c*c<=b-a-1:=fun h=>Int.ediv_mul_le _ (by omega)
 have hp:0<=(b-a-1)/c->0<=(b-a-1)/c*c:=fun h=>Int.mul_nonneg h (by omega)
 unfold Builtin.Range.small Builtin.Range.rangeSize;simp only[Builtin.Range.rangeFitsLong,Bool.and_eq_true,Bool.or_eq_true,decide_eq_true_eq,beq_iff_eq,if_pos (show c>0 from hc)];split<;>omega
section
variable{X:Cx}{a b c tg:Expr}{ta:TA}{p pos:Pos}{fs:Dv->Option (List D)}
theorem qg{pins:List (Addr×Obj)}{σ:St}{H:Hp}{s:Shared}{R:It->Hp->Prop}{E:Value->Shared->Prop}{lo hi st:Int}{t u v:Tok}{tk:Nat}(I:Inv X pins σ H s)(h1:-(2^40)<=lo)(h2:lo<2^40)(h3:-(2^40)<=hi)(h4:hi<2^40)(h5:0<st)(h6:st<2^20)
  (q:R (qZ lo st (rngN lo hi st)) H):wpAny (model X.prog X.w) X.A (pyIter (.ref s.heap.objs.size)) (Ct X pins σ tg R) E { s with heap:=s.heap.push { cls:=.type "range",data:=.fields #[.int lo t,.int hi u,.int st v] },toks:=tk }:=by
 refine wpAny_pyIter_range (IsRange.new ..) (nq h1 h2 h3 h4 h5 h6) ?_;have I1:Inv X pins σ H { s with heap:=s.heap.push { cls:=.type "range",data:=.fields #[.int lo t,.int hi u,.int st v] },toks:=tk }:=I.kept fun b o e=>Heap.get?_push_of_some _ e
 refine⟨(s.heap.push { cls:=.type "range",data:=.fields #[.int lo t,.int hi u,.int st v] }).objs.size,[(s.heap.push { cls:=.type "range",data:=.fields #[.int lo t,.int hi u,.int st v] }).objs.size],_,_,H,rfl,
  I1.kept (t':=tk) fun b o e=>Heap.get?_push_of_some _ e,lq _ lo st (rngN lo hi st),?_,fun b hb=>?_,q⟩
 ·have e1:lo+((0:Nat):Int)*st=lo:=by simp
  have e2:((rngN lo hi st:Nat):Int)-((0:Nat):Int)=Builtin.Range.rangeSize lo hi st:=by
   unfold rngN Builtin.Range.rangeSize;rw[if_pos (show st>0 from h5)];split
   ·have:0<=(hi-lo-1)/st:=Int.ediv_nonneg (by omega) (by omega)
    omega
   ·rfl
  show IsRangeIter _ _ (lo+((0:Nat):Int)*st) (((rngN lo hi st:Nat):Int)-((0:Nat):Int)) st;rw[e1,e2];exact Heap.get?_push_size _ rfl
 ·have e:b=(s.heap.push { cls:=.type "range",data:=.fields #[.int lo t,.int hi u,.int st v] }).objs.size:=by simpa using hb
  subst e;exact I1.fpOk (Nat.le_refl _) (I1.hok.fresh (Nat.le_refl _))
def Aj(ta:TA):TI:=fun σ H R=>ta σ H fun vs H1=>∃i j k:Int,vs=[.int i,.int j,.int k]/\(-(2^40)<=i/\i<2^40 /\ -(2^40)<=j/\j<2^40/\0<k/\k<2^20)/\R (qZ i k (rngN i j k)) H1
theorem qm(hg:Gl X "range")(hm:X.mg "range" = none)(ha:PA X [a,b,c] ta)(hs:starEach [a,b,c] X.env=[(false,eval a X.env),(false,eval b X.env),(false,eval c X.env)]:=by rfl)(hs2:starEach [b,c] X.env=[(false,eval b X.env),(false,eval c X.env)]:=by rfl):
  PI X tg (.Call (.Name "range" p) [a,b,c] [] pos) (Aj ta):=by
 intro pins s σ H R I h;refine Call_ (dy I hg hm boot_range (PyProof.Rows.callWith_type1 (aY (ha pos pins s σ H _ I h) fun us s1 ⟨vs,H1,I1,r1,q1⟩=>?_) (by rw[hs,hs2]) (by rw[hs2];rfl)))
 obtain⟨i,j,k,e,⟨q1,q2,q3,q4,q5,q6⟩,q⟩:=q1;subst e;cases r1 with
 |cons r rr=>
  cases rr with
  |cons r' rr=>
   cases rr with
   |cons r'' rr=>
    cases rr;obtain⟨t,rfl⟩:=r;obtain⟨t',rfl⟩:=r';obtain⟨t'',rfl⟩:=r'';exact call_range_3 (by omega) (qg I1 q1 q2 q3 q4 q5 q6 q) (.inl (PyProof.noPylong_small (by omega)))
theorem qI{K:Fg}{Z:Hp}{lo st:Int}{n:Nat}:ItOk K Z (qZ lo st n) (jT lo st n) where
 go:=fun i H _ h=>by simpa[jT,qZ]using h
 yld:=fun i H x H' d _ e y=>by
  obtain⟨rfl,rfl⟩:=y;refine⟨rfl,?_⟩;unfold jT at e;rw[List.getElem?_map]at e;cases q:(List.range n)[i]? with
  |none=>rw[q]at e;cases e
  |some k=>
   rw[q]at e;cases e;have:k=i:=by
    obtain⟨h,h2⟩:=List.getElem?_eq_some_iff.mp q;simpa using h2.symm
   subst this;exact .int _
 stop:=fun i H _ h=>by simpa[jT,qZ]using h
theorem qH(hg:Gl X "range")(hm:X.mg "range" = none)(ha:AV X [a,b,c] fs)(hs:starEach [a,b,c] X.env=[(false,eval a X.env),(false,eval b X.env),(false,eval c X.env)]:=by rfl)(hs2:starEach [b,c] X.env=[(false,eval b X.env),(false,eval c X.env)]:=by rfl):
  IV X tg (.Call (.Name "range" p) [a,b,c] [] pos) (oL fs ir):=
 PI.imp (qm hg hm ha hs hs2) fun σ H R h=>by
  obtain⟨H₀,Z₀,Z,δ,ds,hh,e,k⟩:=h;obtain⟨as,e1,e⟩:=bind_some e;refine⟨H₀,Z₀,Z,δ,as,hh,e1,fun vs Z1 H1 hh1 t1 r1=>?_⟩
  unfold ir at e;split at e
  ·rename_i i j m
   split at e
   ·rename_i hj
    cases e;cases r1 with
    |cons q1 q2=>
     cases q2 with
     |cons q2 q3=>
      cases q3 with
      |cons q3 q4=>
       cases q4;exact⟨i,j,m,by rw[q1.int_eq,q2.int_eq,q3.int_eq],hj,k _ Z1 H1 hh1 t1 qI⟩
   ·cases e
  ·cases e
end
section
variable{X:Cx}{e:Expr}{lo hi:Option Expr}{p2 pos:Pos}{f:Dv->Option D}
noncomputable def C6(K:Fg)(f:Dv->Option (Option Int)):TO:=fun σ H Q=>∃H₀ Z₀ Z δ d,Hold K H₀ Z₀ Z δ σ H/\f δ = some d/\∀Z' H',Hold K H₀ Z₀ Z' δ σ H'->Same Z Z'->Q d H'
def OV(X:Cx)(e:Option Expr)(f:Dv->Option (Option Int)):Prop:=PO X e (C6 X.K f)
theorem PO.imp{eo:Option Expr}{t t':TO}(h:PO X eo t)(i:∀ σ H Q,t' σ H Q->t σ H Q):PO X eo t':=fun pins s σ H Q I q=>h pins s σ H Q I (i _ _ _ q)
theorem oQ:OV X none BP:=PO.imp uJ fun σ H Q h=>by
 obtain⟨H₀,Z₀,Z,δ,d,hh,e,k⟩:=h;cases e;exact k Z H hh (Same.refl _)
theorem hE(h:EV X e f):OV X (some e) (oP f):=PO.imp (uI h) fun σ H Q h=>by
 obtain⟨H₀,Z₀,Z,δ,d,hh,e,k⟩:=h;obtain⟨x,e1,e⟩:=bind_some e;refine⟨H₀,Z₀,Z,δ,x,hh,e1,fun v Z1 H1 hh1 t1 r1=>?_⟩
 cases r1<;>simp[asI]at e;subst e;exact⟨_,rfl,k Z1 H1 hh1 t1⟩
theorem Reps.cut{K:Fg}{Z:Hp}{vs:List V}{ds:List D}(r:Reps K Z vs ds)(lo hi:Option Int):Reps K Z (jA vs lo hi) (jB ds lo hi):=by
 unfold jA jB;rw[r.length];exact(r.drop _).take _
theorem og{ds:List D}{lo hi:Option Int}(h1:HT.sIx ds.length 0 lo=0)(h2:HT.sIx ds.length ds.length hi=ds.length):jB ds lo hi=ds:=by
 unfold jB;rw[h1,h2];simp
section
variable{prog:Program}{w:World}{A:Around}{E:Value->Shared->Prop}{s:Shared}
theorem kl{t sl:Addr}{items:Array Value}{vl vu:Value}{lo hi:Option Int}{Q:Value->Shared->Prop}(ht:IsTup s.heap t items)(hs:s.heap.IsSliceOf sl vl vu .none)(pl:IsPart vl lo)(pu:IsPart vu hi)
  (h1:HT.sIx items.size 0 lo=0) (h2:HT.sIx items.size items.size hi=items.size) (h:Q (.ref t) s):wpAny (model prog w) A (getItem (.ref t) (.ref sl)) Q E s:=by
 obtain⟨osl,hos,hcs,hds⟩:=id hs;have ty:s.TypeIs (.ref sl) "slice":=⟨osl,hos,hcs⟩;unfold getItem
 try with_reducible refine wpAny_holding ?_
 first|refine wpAny_bind (wpAny_pure ?_)|skip
 refine wpAny_bind (wpAny_sequenceKey ht.typeIs (by decide) ?_);refine wpAny_bind (wpAny_callSpecial?_slot (name:=Str.ofString "__getitem__") ht.typeIs PyProof.Rows.slot_tuple_getitem
  (wpAny_call_entry PyProof.Rows.slot_tuple_getitem ht.typeIs PyProof.Rows.entry_tuple_getitem ?_ (PyProof.Rows.args_tuple_getitem _ _)))
 show wpAny _ _ (Builtin.Tuple.tupleItemsOf (.ref t) >>= _) _ _ s;refine wpAny_bind (tupleItemsOf_ ht ?_);refine wpAny_bind (wpAny_typeOf ty ?_);rw[if_pos (by decide)];refine wpAny_bind (HT.cY hs pl pu ?_);have yes:(((((HT.sIx items.size 0 lo:Nat):Int)==0)&&((1:Int)==1))&&((HT.sIx items.size items.size hi-HT.sIx items.size 0 lo)==items.size))=true:=by
  rw[h1,h2];simp
 show wpAny _ _ (if(((((HT.sIx items.size 0 lo:Nat):Int)==0)&&((1:Int)==1))&&((HT.sIx items.size items.size hi-HT.sIx items.size 0 lo)==items.size))=true then _ else _) _ _ s;rw[if_pos yes];unfold Builtin.Tuple.tupleIsExact;refine wpAny_bind (wpAny_bind (wpAny_typeOf ht.typeIs (wpAny_pure ?_)));rw[if_pos (by decide)];exact wpAny_bind (wpAny_rule (wpAny_pure ⟨_,rfl,wpAny_pure h⟩))
end
def BJ(K:PySem.W.Frag):V->Option Int->Option Int->Hp->VK->Prop:=fun x lo hi H Q=>∃a xs,x=.ref a/\SqT K H a xs/\HT.sIx xs.length 0 lo=0/\HT.sIx xs.length xs.length hi=xs.length/\Q (.ref a) H
theorem uu:SlR X (BJ X.K):=by
 intro pins s σ H x v vl vu lo hi sl Q I rx hs pl pu h;obtain⟨a,xs,rfl,hx,w1,w2,q⟩:=h;cases rx;obtain⟨its,r,ht,hz⟩:=I.tuple hx;have hlen:its.toArray.size=xs.length:=by rw[List.size_toArray];exact r.length.symm
 refine⟨"tuple",_,PyProof.Rows.slot_tuple_getitem.lookup,ht.typeIs,?_⟩;exact kl ht hs pl pu (by rw[hlen];exact w1) (by rw[hlen];exact w2) ⟨.ref a,H,I,rfl,q⟩
theorem i8{fl fu:Dv->Option (Option Int)}(he:EV X e f)(hl:OV X lo fl)(hu:OV X hi fu):EV X (.Subscript e (.Slice lo hi none p2) pos) (zL f fl fu):=
 PE.imp (sg (sl_list.or (sl_tup.or uu)) he hl hu) fun σ H Q h=>by
  obtain⟨H₀,Z₀,Z,δ,d,hh,e,k⟩:=h;obtain⟨x,e1,e⟩:=bind_some e;obtain⟨i,e2,e⟩:=bind_some e;obtain⟨j,e3,e⟩:=bind_some e;refine⟨H₀,Z₀,Z,δ,x,hh,e1,fun v Z1 H1 hh1 t1 r1=>⟨H₀,Z₀,Z1,δ,i,hh1,e2,fun Z2 H2 hh2 t2=>⟨H₀,Z₀,Z2,δ,j,hh2,e3,fun Z3 H3 hh3 t3=>?_⟩⟩⟩
  have r3:=(r1.same t2).same t3;have tt:=(t1.trans t2).trans t3;cases r3 with
  | @lst a xs ds h1 q1=>
   cases e;refine .inl ⟨_,_,rfl,SqL.same h1 hh3.zh,fun p hp=>?_⟩
   have n:=New.add hh3.zh hp (.lst (jA xs i j));exact k _ _ _ (hh3.new n) (tt.trans n.z) (.lst (SqL.of al) ((q1.cut i j).same n.z))
  | @tup a xs ds h1 q1=>
   simp only[wS]at e;cases e;by_cases hw:HT.sIx ds.length 0 i=0/\HT.sIx ds.length ds.length j=ds.length
   ·refine .inr (.inr ⟨_,_,rfl,SqT.same h1 hh3.zh,by rw[q1.length];exact hw.1,by rw[q1.length];exact hw.2,?_⟩)
    refine k _ _ _ hh3 tt ?_;rw[og hw.1 hw.2];exact .tup h1 q1
   ·refine .inr (.inl ⟨_,_,rfl,SqT.same h1 hh3.zh,by rw[q1.length];exact hw,fun p hp=>?_⟩)
    have n:=New.add hh3.zh hp (.tup (jA xs i j));exact k _ _ _ (hh3.new n) (tt.trans n.z) (.tup (SqT.of al) ((q1.cut i j).same n.z))
  |_=>cases e
end
structure FunV (K:PySem.W.Frag) (x qual:Str) (st:Stmt) (f:Addr) (fd:FuncData) (dV:Value):Prop where
 ex:∃(oc:Value) (od:Option Addr) (kV doc pm:Value) (an:Option Addr) (cdv ct:Value) (osl:Array (Option Value)),
  fd=PySem.W.fnOf x qual (cR st) (cg st) (ag st) dV kV doc pm an cdv ct/\K.lookup f=some ⟨oc,od,.func fd,osl⟩/\PySem.W.codeIn K cdv qual=true
 kp:PySem.W.keepIn K (.ref f)=true
section
variable{P:Program}{w:World}{K:PySem.W.Frag}{mg:Str->Option Value}{base:Heap}
theorem pU{N:List Str}{vs:List V}{as:List D}{Z:Hp}(r:Reps K Z vs as):∀(i:Nat) d,(aL N as)[i]? = some (.fz d)->∃v,(dP N vs)[i]? = some (some v)/\Rep K Z v d:=by
 intro i d e;unfold aL at e;unfold L2.dP;by_cases hi:i<as.length
 ·rw[List.getElem?_append_left (by simpa using hi),List.getElem?_map]at e
  cases q:as[i]? with
  |none=>rw[q]at e;cases e
  |some d'=>
   rw[q]at e;cases e;obtain⟨v,ev,rv⟩:=r.get q;exact⟨v,by rw[List.getElem?_append_left (by simpa[r.length]using hi),List.getElem?_map,ev];rfl,rv⟩
 ·rw[List.getElem?_append_right (by simpa using hi),List.getElem?_replicate]at e
  split at e<;>cases e
theorem jO{N:List Str}{as:List D}:∀(i:Nat) ds,(aL N as)[i]? ≠ some (.own ds):=by
 intro i ds e;unfold aL at e;by_cases hi:i<as.length
 ·rw[List.getElem?_append_left (by simpa using hi),List.getElem?_map]at e
  cases q:as[i]? with
  |none=>rw[q]at e;cases e
  |some d'=>rw[q]at e;cases e
 ·rw[List.getElem?_append_right (by simpa using hi),List.getElem?_replicate]at e
  split at e<;>cases e
theorem rF{N:List Str}{as:List D}:∀(i:Nat) ds,(aL N as)[i]? ≠ some (.fr ds):=by
 intro i ds e;unfold aL at e;by_cases hi:i<as.length
 ·rw[List.getElem?_append_left (by simpa using hi),List.getElem?_map]at e
  cases q:as[i]? with
  |none=>rw[q]at e;cases e
  |some d'=>rw[q]at e;cases e
 ·rw[List.getElem?_append_right (by simpa using hi),List.getElem?_replicate]at e
  split at e<;>cases e
theorem nQ{N:List Str}{vs:List V}{as:List D}{Z H:Hp}(zh:Same Z H)(r:Reps K Z vs as):Hold K H Z Z (aL N as) (dP N vs) H:=
 ⟨zh,Same.refl _,Same.refl _,fun _ _=>rfl,by simp[aL,L2.dP,r.length],pU r,fun i ds e=>absurd e (jO i ds),fun i j ds es a _ e=>absurd e (jO i ds),fun i ds e=>absurd e (rF i ds),NoF.refl _⟩
theorem Cg{x qual:Str}{st:Stmt}{f:Addr}{fd:FuncData}{dV:Value}{N ps:List Str}{k:Nat}{g:List D->Option D}{b:Sf}(F:FunV K x qual st f fd dV)(S:FnScope N ps (ag st))(len:∀as d,g as=some d->as.length=ps.length)
  (hb:∀(cdv:Value) (A:Around) (outer:List Env) (s:Shared) (H:Hp) (E:XK),Room k (A.deeper (envOfC qual (ag st) s.heap.objs.size f cdv))->BV (oa fT P w K mg base N qual (ag st) f cdv A outer s H E).nox (cg st) b)
  (hg:∀as d,g as=some d->∃ δ',b (aL N as)=some (.rt d,δ')\/(d=.none/\b (aL N as)=some (.nx,δ'))):FnOk P w K mg base fT (k+1) f fd ps (jo K g):=by
 obtain⟨oc,od,kV,doc,pm,an,cdv,ct,osl,rfl,lk,hcd⟩:=F.ex;refine Aw lk hcd S (fun vs H Q E h=>?_) fun A outer s H vs Q E hr hsp=>?_
 ·obtain⟨Z,as,d,zh,r,e,_⟩:=h
  rw[r.length];exact len as d e
 ·refine⟨_,PSs.nox (hb cdv A outer s H E hr),?_⟩
  obtain⟨Z,as,d,zh,r,e,kk⟩:=hsp;have hh:=nQ (N:=N) zh r;have fin:∀{σ':St} {H' Z':Hp} {δ':Dv},Hold K H Z Z' δ' σ' H'->Same Z Z'->New Z H Z' H':=fun h' z'=>⟨z',h'.h0,h'.zh,h'.zb,h'.nf⟩
  obtain⟨δ',e2|⟨rfl,e2⟩⟩:=hg as d e
  ·exact⟨H,Z,Z,_,_,hh,e2,fun σ' H' Z' h' z' v rv=>kk v Z' H' (fin h' z') rv⟩
  ·exact⟨H,Z,Z,_,_,hh,e2,fun σ' H' Z' h' z'=>kk _ Z' H' (fin h' z') .non⟩
theorem FunV.binds{x qual:Str}{st:Stmt}{f:Addr}{fd:FuncData}{ps:List Str}(F:FunV K x qual st f fd .none)
  (h:∀(kV doc pm:Value) (an:Option Addr) (cdv ct:Value) (us:List Value),us.length=ps.length->bindArgs (PySem.W.fnOf x qual (cR st) (cg st) (ag st) .none kV doc pm an cdv ct) ⟨us,[]⟩=pure (ps.zip us)):Binds K fd ps []:=by
 obtain⟨oc,od,kV,doc,pm,an,cdv,ct,osl,rfl,lk,hcd⟩:=F.ex;exact .all (h kV doc pm an cdv ct)
theorem pj{x qual:Str}{st:Stmt}{f:Addr}{dV oc:Value}{od an:Option Addr}{osl:Array (Option Value)}{kV doc pm cdv ct:Value}(l:K.lookup f=some ⟨oc,od,.func (PySem.W.fnOf x qual (cR st) (cg st) (ag st) dV kV doc pm an cdv ct),osl⟩)
  (c:PySem.W.codeIn K cdv qual=true) (k:PySem.W.keepIn K (.ref f)=true):FunV K x qual st f (PySem.W.fnOf x qual (cR st) (cg st) (ag st) dV kV doc pm an cdv ct) dV:=⟨⟨oc,od,kV,doc,pm,an,cdv,ct,osl,rfl,l,c⟩,k⟩
def oF(K:PySem.W.Frag):Sp:=fun vs H Q _=>∃(a:Addr) (ns:List Int),vs=[.ref a]/\SqL K H a (ns.map V.int)/\ns.length<=63/\∀H',Q (.bl true) H'
theorem zZ{g:List D->Option D}{k:Nat}{f:Addr}{fd:FuncData}(F:FnOk P w K mg base fT k f fd ["script"] (jo K g))(hg:∀ns:List Int,ns.length<=63->g [.list (ns.map .int)]=some (.bool true)):FnOk P w K mg base fT k f fd ["script"] (oF K):=
 F.imp fun vs H Q E h=>by
  obtain⟨a,ns,rfl,hS,hl,q⟩:=h;exact⟨H,[.list (ns.map .int)],.bool true,Same.refl _,.cons (.lst hS (Reps.ints ns)) .nil,hg ns hl,fun v Z' H' _ r=>by cases r;exact q H'⟩
end
theorem yV{k:Nat}{l:PySem.W.OpenLaw}{q:Program}{loose:List Str}{XP:(Str->Option Value)->Heap->Prop}{YP:World->Heap->Prop}{d:DefRec}{K:Params->PySem.W.Frag}(hn:l.most=some 63)(hr:Room k callerA)(hdf:d.params.defaults=[])
  (hY:∀(w:World) (h:Heap),YP w h->(K w.params).In h)
  (F:∀(w:World) (mg:Str->Option Value) (fa:Addr) (h:Heap),(K w.params).In h->h.Ns mainGlobals mg->mg d.name=some (.ref fa) ->
   ∃fd:FuncData,(∀(s:Shared) (u:Value),BindsTo s fd ⟨[u],[]⟩ [("script",u)])/\∀base:Heap,(K w.params).In base->base.Ns mainGlobals mg->FnOk l.prog w (K w.params) mg base fT k fa fd ["script"] (oF (K w.params))) :
  PySem.W.WalkO q loose XP YP l.row.toRowW d [] (fun f vs=>PySem.call f vs):=
 L2.ud (n:=63) (k:=k) (x:="script") (CX:=fun _=>fT) (sp:=fun w=>oF (K w.params)) hn (by decide) hdf hr hY F (fun _ _ a ns hl _ hS=>⟨a,ns,rfl,hS,hl,fun _=>rfl⟩) fun _ _ _ _ _ z=>z
section
variable{P:Program}{w:World}{K:PySem.W.Frag}{mg:Str->Option Value}{base:Heap}
theorem gm{x qual:Str}{st:Stmt}{f:Addr}{fd:FuncData}{dV:Value}{N ps:List Str}{k:Nat}{b:Sf}(F:FunV K x qual st f fd dV)(S:FnScope N ps (ag st))
  (hb:∀(cdv:Value) (A:Around) (outer:List Env) (s:Shared) (H:Hp) (E:XK),Room k (A.deeper (envOfC qual (ag st) s.heap.objs.size f cdv))->BV (oa fT P w K mg base N qual (ag st) f cdv A outer s H E).nox (cg st) b) :
  FnOk P w K mg base fT (k+1) f fd ps (jo K (b5 N ps.length b)):=by
 refine Cg F S (fun as d h=>?_) hb fun as d h=>?_
 ·unfold b5 at h
  split at h
  ·assumption
  ·cases h
 ·unfold b5 at h
  split at h
  ·obtain⟨⟨fl,δ'⟩,e,h⟩:=bind_some h
   cases fl with
   |nx=>cases h;exact⟨δ',.inr ⟨rfl,e⟩⟩
   |rt d=>cases h;exact⟨δ',.inl e⟩
   |bk=>cases h
   |ct=>cases h
  ·cases h
structure Cal (P:Program) (w:World) (K:PySem.W.Frag) (mg:Str->Option Value) (base:Heap) (x:Str) (k:Nat) (g:List D->Option D) (dd:List D):Prop where
 ex:∃(fa:Addr) (fd:FuncData) (ps:List Str) (ds:List Value) (dv:List V),FnOk P w K mg base fT k fa fd ps (jo K g)/\mg x=some (.ref fa)/\PySem.W.keepIn K (.ref fa)=true/\Binds K fd ps ds/\Vals dv ds/\∀Z,Reps K Z dv dd
theorem Cal.mk0{x:Str}{k:Nat}{g:List D->Option D}{fa:Addr}{fd:FuncData}{ps:List Str}(F:FnOk P w K mg base fT k fa fd ps (jo K g))(hm:mg x=some (.ref fa))(hk:PySem.W.keepIn K (.ref fa)=true)(hb:Binds K fd ps []):Cal P w K mg base x k g []:=
 ⟨⟨fa,fd,ps,[],[],F,hm,hk,hb,.nil,fun _=>.nil⟩⟩
end
section
variable{X:Cx}{e:Expr}{es:List Expr}{p pos:Pos}{fs:Dv->Option (List D)}
theorem yj{k:Nat}{x:Str}{g:List D->Option D}{dd:List D}(C:Cal X.prog X.w X.K X.mg X.base x k g dd)(hr:Room k X.A)(hg:Gl X x)(ha:AV X (e::es) fs)(hdb:(x==("__debug__":Str))=false:=by decide)(he:starEach (e::es) X.env=(false,eval e X.env)::starEach es X.env:=by rfl)
  (hpl:(backTo pos (starEach es X.env)).any (·.1)=false:=by rfl):EV X (.Call (.Name x p) (e::es) [] pos) (os fs fun as=>g (as++dd)):=by
 obtain⟨fa,fd,ps,ds,dv,F,hm,hk,hb,hd,hdd⟩:=C.ex;exact vz F hr hg hm hk hb hd hdd zE ha hdb he hpl
variable{tg a:Expr}{f:Dv->Option D}
theorem bH(ha:EV X a f):IV X tg a (oI f bI):=by
 intro pins s σ H R I h;obtain⟨H₀,Z₀,Z,δ,ds,hh,e,k⟩:=h;obtain⟨y,e1,e⟩:=bind_some e;cases y with
 |list xs=>exact vj ha pins s σ H R I ⟨H₀,Z₀,Z,δ,ds,hh,by unfold oI;rw[e1];exact e,k⟩
 |tuple xs=>exact xS ha pins s σ H R I ⟨H₀,Z₀,Z,δ,ds,hh,by unfold oI;rw[e1];exact e,k⟩
 |_=>cases e
end
noncomputable def eP(env:Env):List (Str×NameKind)->List (Str×Addr)->List (Str×Addr)
 |[],cs=>cs
 | (n,k)::r,cs=>if k == .free then eP env r ((n,(env.cells.lookup n).getD 0)::cs)else eP env r cs
theorem i5{env:Env}:∀(l:List (Str×NameKind)) (cs:List (Str×Addr)),(∀y∈l,y.2=.free->∃c,env.cells.lookup y.1=some c) ->
  (forIn l cs fun(x:Str×NameKind) (r:List (Str×Addr))=>(if(x.2==NameKind.free)=true then do let c <-cellOf env x.1;pure (ForInStep.yield ((x.1,c)::r))else pure (ForInStep.yield r):Sem (ForInStep (List (Str×Addr)))))=pure (eP env l cs)
 |[],cs,_=>rfl
 | (n,k)::r,cs,h=>by
  have ih:=fun cs'=>i5 r cs' fun y hy=>h y (List.mem_cons_of_mem _ hy)
  rw[List.forIn_cons];cases hk:k==NameKind.free with
  |true=>
   have hk':k=.free:=by simpa using hk
   obtain⟨c,ec⟩:=h (n,k) List.mem_cons_self hk';have e1:cellOf env n=pure c:=by unfold cellOf;rw[ec]
   simp only[hk,if_true,e1,pure_bind,eP,ec,Option.getD_some];exact ih _
  |false=>
   simp only[hk,Bool.false_eq_true,if_false,pure_bind,eP];exact ih _
theorem ci{scope:Scope}{env:Env}(h:∀y∈scope.names,y.2=.free->∃c,env.cells.lookup y.1=some c):closureFor scope env=pure (eP env scope.names []):=by
 simp only[closureFor];have:=i5 (env:=env) scope.names [] h
 first
  | (rw[this];rfl)
  | (simp only[this];rfl)
  | (unfold closureFor;simp_all)
theorem aJ{env:Env}:∀(l:List (Str×NameKind)) (cs:List (Str×Addr)) (y:Str) (c:Addr),(∀z∈l,z.2=.free->∃c,env.cells.lookup z.1=some c)->(eP env l cs).lookup y=some c->cs.lookup y=some c\/env.cells.lookup y=some c
 |[],cs,y,c,_,e=>.inl e
 | (n,k)::r,cs,y,c,h,e=>by
  unfold eP at e;have hr:=fun z hz=>h z (List.mem_cons_of_mem _ hz)
  split at e
  ·rename_i hk
   rcases aJ r _ y c hr e with q|q
   ·rw[List.lookup_cons]at q
    cases hy:y==n with
    |true=>
     have hy':y=n:=by simpa using hy
     subst hy';rw[hy]at q;obtain⟨c',ec⟩:=h (y,k) List.mem_cons_self (by simpa using hk);simp only[ec,Option.getD_some]at q;cases q;exact .inr ec
    |false=>rw[hy]at q;exact .inl q
   ·exact .inr q
  ·exact aJ r cs y c hr e
theorem fM{env:Env}:∀(l:List (Str×NameKind)) (cs:List (Str×Addr)) (y:Str),((y,NameKind.free)∈l\/(cs.lookup y).isSome=true)->((eP env l cs).lookup y).isSome=true
 |[],cs,y,h=>by
  rcases h with h|h
  ·cases h
  ·exact h
 | (n,k)::r,cs,y,h=>by
  unfold eP;split
  ·rename_i hk
   refine fM r _ y ?_;rcases h with h|h
   ·rcases List.mem_cons.mp h with e|e
    ·cases e;exact .inr (by simp[List.lookup_cons])
    ·exact .inl e
   ·refine .inr ?_
    rw[List.lookup_cons];cases hy:y==n with
    |true=>rfl
    |false=>exact h
  ·rename_i hk
   refine fM r cs y ?_;rcases h with h|h
   ·rcases List.mem_cons.mp h with e|e
    ·cases e;exact absurd rfl hk
    ·exact .inl e
   ·exact .inr h
theorem cG{env:Env}{y:Str}:∀(l:List (Str×NameKind)),(∀z∈l,z.2≠.cell) ->
  (((l.map fun(n,k)=>if(k==NameKind.free&&env.scope.kind == .function&&env.kindOf n==some .cell)then(n,NameKind.cell)else(n,k)).lookup y=some .cell\/(l.map fun(n,k)=>if(k==NameKind.free&&env.scope.kind == .function&&env.kindOf n==some .cell)then(n,NameKind.cell)else(n,k)).lookup y=some .free)↔l.lookup y=some .free)
 |[],_=>by simp
 | (n,k)::r,h=>by
  have ih:=cG (env:=env) (y:=y) r fun z hz=>h z (List.mem_cons_of_mem _ hz)
  have hk:k≠.cell:=h (n,k) List.mem_cons_self;rw[List.map_cons];cases hy:y==n with
  |true=>
   by_cases hc:(k==NameKind.free&&env.scope.kind == .function&&env.kindOf n==some .cell)=true
   ·have hf:k=.free:=by
     simp only[Bool.and_eq_true]at hc;simpa using hc.1.1
    simp only[if_pos hc,List.lookup_cons,hy];simp[hf]
   ·simp only[if_neg hc,List.lookup_cons,hy]
    simp[hk]
  |false=>
   by_cases hc:(k==NameKind.free&&env.scope.kind == .function&&env.kindOf n==some .cell)=true
   ·simp only[if_pos hc,List.lookup_cons,hy];exact ih
   ·simp only[if_neg hc,List.lookup_cons,hy];exact ih
noncomputable def bF(X:Cx)(scope:Scope)(N:List Str)(C:Addr)(s₀:Shared)(H₀:Hp)(ex:List Addr):Cx:=
 { X with N:=N,s₀:=s₀,H₀:=H₀,env:=compEnvC scope (eP X.env scope.names []) C X.env,outer:=X.stack,stack:=X.stack,ex:=ex,fn:=fun _=>false,pn:=[],xe:=fun _ _=>False }
structure BlkOk (on:List (Str×NameKind)) (ON:List Str) (scope:Scope) (vars:List Str) (caps:List (Nat×Str)):Prop where
 kind:scope.kind=.function
 cell:∀y∈scope.names,y.2≠.cell
 names:∀y∈scope.names,y.2=.local->scope.names.lookup y.1=some .local
 free:∀y∈scope.names,y.2=.free->on.lookup y.1=some .cell\/on.lookup y.1=some .free
 cap:∀p∈caps,ON[p.1]? = some p.2/\scope.names.lookup p.2=some .free
section
variable{X:Cx}{pins:List (Addr×Obj)}{σ:St}{H H':Hp}{s s':Shared}{scope:Scope}{vars:List Str}{caps:List (Nat×Str)}{fp:List Addr}{C:Addr}
noncomputable def cV(σ:St)(caps:List (Nat×Str)):St:=caps.map fun p=>(σ[p.1]?).getD none
theorem BlkOk.cells(B:BlkOk X.env.scope.names X.N scope vars caps)(I:Inv X pins σ H s):∀y∈scope.names,y.2=.free->∃c,X.env.cells.lookup y.1=some c:=fun y hy e=>I.ok.has y.1 (B.free y hy e)
theorem oj(B:BlkOk X.env.scope.names X.N scope vars caps)(I:Inv X pins σ H s)(hf:∀b∈fp,eR X pins H b)(hlt:∀b∈fp,b<s.heap.objs.size)(hC:s.heap.objs.size<=C):(bF X scope (vars++caps.map (·.2)) C s H fp).Ok where
 mod:=I.ok.mod
 kind:=B.kind
 glob:=I.ok.glob
 blt:=I.ok.blt
 above:=hC
 inj:=fun x y c e1 e2=>by
  rcases aJ _ _ _ _ (B.cells I) e1 with q1|q1
  ·cases q1
  ·rcases aJ _ _ _ _ (B.cells I) e2 with q2|q2
   ·cases q2
   ·exact I.ok.inj x y c q1 q2
 has:=fun x e=>by
  have:scope.names.lookup x=some .free:=(cG scope.names B.cell).mp e;have:=fM (env:=X.env) scope.names [] x (.inl (PySem.mem_of_lookup this));exact Option.isSome_iff_exists.mp this
 cab:=fun x c e=>nomatch e
 hd:=I.ok.hd
 frames:=I.ok.frames
 stk:=.inl rfl
 exf:=fun b hb=>⟨Nat.ne_of_lt (Nat.lt_of_lt_of_le (hlt b hb) hC),fun x c e=>by
  rcases aJ _ _ _ _ (B.cells I) e with q|q
  ·cases q
  ·exact(hf b hb).2.2.2.2.1 x c q⟩
 bs:=I.bs
 bsz:=Nat.le_trans I.ok.bsz I.sz
 noex:=fun b o e hb=>by
  rcases (hf b hb).2.2.2.1 with z|z
  ·exact I.ok.noex b o e z
  ·exact absurd (Nat.lt_of_lt_of_le (Heap.lt_size e) (Nat.le_trans I.ok.bsz z)) (Nat.lt_irrefl _)
 exfs:=fun b hb z=>by
  rcases List.mem_cons.mp (I.stkSub b z)with q|q
  ·exact(hf b hb).2.1 q
  ·exact(hf b hb).2.2.1 q
 funs:=I.stack
 frf:=I.stkFree
theorem pL(B:BlkOk X.env.scope.names X.N scope vars caps)(I:Inv X pins σ H s)(hf:∀b∈fp,eR X pins H b)(hlt:∀b∈fp,b<s.heap.objs.size)(hC:s.heap.objs.size<=C){h₁:Heap}{m:Str->Option Value}{tk:Nat}(hns:h₁.Ns C m)(old:∀b o,s.heap.get? b=some o->h₁.get? b=some o):
  Inv (bF X scope (vars++caps.map (·.2)) C s H fp) [] (vars.map (fun _=>none)++cV σ caps) H { s with heap:=h₁,toks:=tk }:=by
 refine⟨oj B I hf hlt hC,rfl,I.bare,Un.kept old,⟨m,hns,fun i x v e1 e2 e3=>?_⟩,fun x c e=>?_,I.hok.fresh hC,fun x c e=>?_,fun p hp=>absurd (show p∈([]:List (Addr×Obj))from hp) (by simp),I.hok.kept old,?_⟩
 ·have e1:(vars++caps.map (·.2))[i]? = some x:=e1
  by_cases hi:i<vars.length
  ·rw[List.getElem?_append_left (by simpa using hi),List.getElem?_map]at e2
   cases q:vars[i]?<;>rw[q]at e2<;>cases e2
  ·rw[List.getElem?_append_right (by simpa using hi)]at e1 e2
   simp only[List.length_map]at e2;unfold cV at e2;rw[List.getElem?_map]at e1 e2;cases q:caps[i-vars.length]? with
   |none=>rw[q]at e1;cases e1
   |some p=>
    rw[q]at e1 e2;cases e1;have hp:=List.mem_of_getElem? q;obtain⟨g1,g2⟩:=B.cap p hp;have gf:X.env.scope.names.lookup p.2=some .cell\/X.env.scope.names.lookup p.2=some .free:=B.free (p.2,.free) (PySem.mem_of_lookup g2) rfl;have ev:σ[p.1]? = some (some v):=by
     have e2:(σ[p.1]?).getD none=some v:=Option.some.inj e2;cases z:σ[p.1]? with
     |none=>rw[z]at e2;cases e2
     |some w=>rw[z]at e2;rw[show w=some v from e2]
    obtain⟨m',_,hl⟩:=I.loc;obtain⟨u,r,l⟩:=hl p.1 p.2 v g1 ev (gf.elim (fun z=>.inr (.inl z)) fun z=>.inr (.inr z))
    refine⟨u,r,.inr ⟨?_,?_⟩⟩
    ·exact(cG scope.names B.cell).mpr g2
    ·rcases l with⟨z,_⟩|⟨_,c,ec,hc⟩
     ·have z:X.env.scope.names.lookup p.2=some .local:=z
      rcases gf with w|w<;>rw[z]at w<;>cases w
     ·obtain⟨c',q'⟩:=Option.isSome_iff_exists.mp (fM (env:=X.env) scope.names [] p.2 (.inl (PySem.mem_of_lookup g2)))
      rcases aJ _ _ _ _ (B.cells I) q' with w|w
      ·cases w
      ·rw[ec]at w
       cases w;obtain⟨o,ho,hd⟩:=hc;exact⟨c,q',o,old c o ho,hd⟩
 ·rcases aJ _ _ _ _ (B.cells I) e with q|q
  ·cases q
  ·obtain⟨v,o,ho,hd⟩:=I.cell x c q
   exact⟨v,o,old c o ho,hd⟩
 ·rcases aJ _ _ _ _ (B.cells I) e with q|q
  ·cases q
  ·exact I.freeC x c q
 ·simp[bF,cV]
theorem pK(I:Inv X pins σ H s)(hf:∀b∈fp,eR X pins H b){D:Addr}{s':Shared}{σ':St}{N:List Str}{ys:List V}{its:List Value}(hC:s.heap.objs.size<=C)(hD:s.heap.objs.size<=D)(hDC:D≠C)
  (J:Inv (bF X scope N C s H fp) [] σ' H' s') (hD':H' D=none) (hp:s'.heap.PlainList D its.toArray) (hv:Vals ys its) (hz:ys.length<=sizeLine) {h':Heap} (hs:Heap.SameBut C s'.heap h') :
  Inv X pins σ (upd H' D (.lst ys)) { s' with heap:=h' }:=by
 have U:Un (pq X.stack) fp H H' s.heap s'.heap:=J.base;have neC:∀b o,s.heap.get? b=some o->b≠C:=fun b o e=>Nat.ne_of_lt (Nat.lt_of_lt_of_le (Heap.lt_size e) hC)
 have neD:∀b o,s.heap.get? b=some o->b≠D:=fun b o e=>Nat.ne_of_lt (Nat.lt_of_lt_of_le (Heap.lt_size e) hD)
 have mv:∀b o,b≠C->s'.heap.get? b=some o->h'.get? b=some o:=fun b o hb e=>hs.extBut b o hb e
 have tD:∀b o,H' b=some o->(upd H' D (.lst ys)) b=some o:=fun b o e=>by rw[ap (aK e hD')];exact e
 refine I.call' (s':={ s' with heap:=h' }) (ch:=fp) J.os ⟨fun b o e n h1 h2=>mv b o (neC b o e) (U.keep b o e n h1 h2),fun b o e n h1 h2=>?_,fun b o e n h2=>?_,fun b o e h2=>?_,fun b xs e=>tD _ _ (U.tups b xs e),fun b o xs e=>tD _ _ (U.frzs b o xs e),fun b ps e=>?_⟩ (fun b o e=>?_) J.bare
  (fun b hb=>⟨(hf b hb).2.2.2.1,(hf b hb).2.1,(hf b hb).2.2.2.2.1,(hf b hb).2.2.2.2.2⟩)
 ·obtain⟨sl,q⟩:=U.slot b o e n h1 h2
  exact⟨sl,mv b _ (neC b o e) q⟩
 ·rw[ap (neD b o e)];exact U.free b o e n h2
 ·obtain⟨o',q⟩:=U.there b o e h2
  exact⟨o',mv b _ (neC b o e) q⟩
 ·obtain⟨more,q⟩:=U.tbls b ps e
  exact⟨more,tD _ _ q⟩
 ·by_cases hb:b=D
  ·subst hb
   rw[al]at e;cases e;obtain⟨n,q⟩:=hp;exact⟨hz,its,n,hv,mv _ _ hDC q⟩
  ·rw[ap hb]at e
   refine(J.hok b o e).stay (fun c v hc q=>mv c v ?_ q) (fun c q=>tD _ _ q) fun c xs q=>tD _ _ q
   intro z;have fc:H' C=none:=J.free;rcases hc with w|w
   ·rw[<-w,z,fc]at e;cases e
   ·rw[z,fc]at w;cases w
theorem mP(elt target iter:Expr)(scope:Scope)(pos:Pos)(it acc:Value)(env:Env):
  compTurn (.ListComp elt [⟨target,iter,[],0⟩] scope pos) 0 it acc env=(standAt iter.pos >>= fun _=>pyNext it >>= fun r=>match r with
   |none=>pure (.done .next)
   |some v=>letOwnedTupleGo target it v >>= fun _=>assign target env v >>= fun _=>
    (eval elt env >>= fun x=>call (.builtin "list.append") [acc,x] >>= fun _=>pure ()) >>= fun _=>
     again (.compLoop (.ListComp elt [⟨target,iter,[],0⟩] scope pos) 0 it acc env)):=by rfl
def pN(σ σ':St):Prop:=σ.length = σ'.length/\∀(i:Nat) v,σ[i]? = some (some v) -> σ'[i]? = some (some v)
def rA(wi:TI)(g:TG)(te:TE)(vars:List Str)(caps:List (Nat×Str)):TE:=fun σ H Q=>wi σ H fun J H1=>∃W:Nat->Nat->List V->Hp->Prop,(∃m,W 0 m [] H1)/\∀i m ys H,W i m ys H ->
 (J.stop i H/\ys.length<=sizeLine/\∀p,H p=none->Q (.ref p) (upd H p (.lst ys))) \/
 (J.go i H/\ys.length<sizeLine/\∀x H',J.yld i H x H'->g x (vars.map (fun _=>none)++cV σ caps) H' fun σ2 H2=>pN (vars.map (fun _=>none)++cV σ caps) σ2/\te σ2 H2 fun y H3=>∃m',m'<m/\W (i+1) m' (ys++[y]) H3)
theorem g6{prog:Program}{w:World}{A:Around}{R:Result->Shared->Prop}{s:Shared}{elt target iter:Expr}{scope:Scope}{pos:Pos}{it acc:Value}{env:Env}(I:Nat->Shared->Prop)
  (turn:∀n s,I n s->wpAny (model prog w) A (pyNext it) (fun r s₁=>match r with
   |none=>R (.ok .next) s₁
   |some v=>wpAny (model prog w) A (letOwnedTupleGo target it v) (fun _ s₁=>wpAny (model prog w) A (assign target env v) (fun _ s₂=>wpAny (model prog w) A (eval elt env) (fun x s₃=>
     wpAny (model prog w) A (call (.builtin "list.append") [acc,x]) (fun _ s₄=>∃m,m<n/\I m s₄) (fun _ _=>False) s₃) (fun _ _=>False) s₂) (fun _ _=>False) s₁) (fun _ _=>False) s₁) (fun _ _=>False) s)
  (n:Nat) (h:I n s):codeAny (model prog w) A (.compLoop (.ListComp elt [⟨target,iter,[],0⟩] scope pos) 0 it acc env) R s:=by
 refine codeAny_loop rfl I (fun n s hI=>?_) n h;show wpAny _ _ ((compTurn (.ListComp elt [⟨target,iter,[],0⟩] scope pos) 0 it acc env).onRaise (fun x=>do noteFrame x env;theTreesLotGoes x)) _ _ s;refine wpAny_noted ?_;rw[mP];refine wpAny_bind (wpAny_standAt (wpAny_bind (wpAny_mono (turn n s hI) (fun r s₁ h₁=>?_) fun _ _ h'=>h'.elim)))
 cases r with
 |none=>exact wpAny_pure h₁
 |some v=>
  refine wpAny_bind (wpAny_mono h₁ (fun _ s₁ h₁=>?_) fun _ _ h'=>h'.elim)
  exact wpAny_bind (wpAny_mono h₁ (fun _ s₂ h₂=>wpAny_bind (wpAny_bind (wpAny_mono h₂ (fun x s₃ h₃=>wpAny_bind (wpAny_mono h₃
   (fun _ s₄ h₄=>wpAny_pure (wpAny_pure ⟨rfl,h₄⟩)) fun _ _ h'=>h'.elim)) fun _ _ h'=>h'.elim))) fun _ _ h'=>h'.elim)
end
section
variable{X:Cx}{scope:Scope}{vars:List Str}{caps:List (Nat×Str)}{elt tg iter:Expr}{pos:Pos}{wi:TI}{g:TG}{te:TE}
theorem jd(B:BlkOk X.env.scope.names X.N scope vars caps)(hc:X.calm=true)
  (hg:∀C s₀ H₀ ex,PG (bF X scope (vars++caps.map (·.2)) C s₀ H₀ ex) tg g) (he:∀C s₀ H₀ ex,PE (bF X scope (vars++caps.map (·.2)) C s₀ H₀ ex) elt te)
  {pins:List (Addr×Obj)} {σ:St} {H2:Hp} {s2:Shared} {Q:VK} {it:Addr} {fp:List Addr} {tn:Nat->Heap->Prop} {J:It} (I2:Inv X pins σ H2 s2) (T:qX X.prog X.w X.K tg J fp it tn) (st2:tn 0 s2.heap) (f2:∀b∈fp,eR X pins H2 b)
  {W:Nat->Nat->List V->Hp->Prop} {m0:Nat} (w0:W 0 m0 [] H2) (turn:∀i m ys H,W i m ys H ->
   (J.stop i H/\ys.length<=sizeLine/\∀p,H p=none->Q (.ref p) (upd H p (.lst ys))) \/
   (J.go i H/\ys.length<sizeLine/\∀x H',J.yld i H x H'->g x (vars.map (fun _=>none)++cV σ caps) H' fun σ2 H2=>pN (vars.map (fun _=>none)++cV σ caps) σ2/\te σ2 H2 fun y H3=>∃m',m'<m/\W (i+1) m' (ys++[y]) H3))
  {RR:Value->Addr->Result->Shared->Prop} {E:Value->Shared->Prop}
  (hRR:∀D C s' m,s'.heap.Ns C m->D≠C->s2.heap.objs.size<=D->s2.heap.objs.size<=C->∀H',H' C=none->(∀h',Heap.SameBut C s'.heap h'->Inv X pins σ H' { s' with heap:=h' })->Q (.ref D) H'->RR (.ref D) C (.ok .next) s') :
  wpAny (model X.prog X.w) X.A (newList []) (fun acc s₃=>wpAny (model X.prog X.w) X.A (newFunctionEnv scope X.env.globals (eP X.env scope.names []) [] X.env.qual none .none (some X.env)) (fun cenv s₄=>
   codeAny (model X.prog X.w) X.A (.compStart (.ListComp elt [⟨tg,iter,[],0⟩] scope pos) 0 (.ref it) acc { cenv with scope:=relabel scope X.env }) (RR acc cenv.locals) s₄) E s₃) E s2:=by
 refine wpAny_newObj_type (wpAny_newFunctionEnv B.cell (by intro y hy;simp at hy) (fun h₁ hns₁ hsb₁=>?_) B.kind);dsimp only at hns₁ hsb₁ ⊢;generalize hP:s2.heap.push { cls:=.type "list",dict:=none,data:=.seq ([]:List Value).toArray }=HP at hns₁ hsb₁ ⊢;have hCs:HP.objs.size=s2.heap.objs.size+1:=by rw[<-hP,Heap.size_push]
 have hDC:s2.heap.objs.size≠HP.objs.size:=by rw[hCs];exact Nat.ne_of_lt (Nat.lt_succ_self _)
 have hCle:s2.heap.objs.size<=HP.objs.size:=by rw[hCs];exact Nat.le_succ _
 have old:∀b o,s2.heap.get? b=some o->h₁.get? b=some o:=fun b o e=>hsb₁.extBut b o (Nat.ne_of_lt (Nat.lt_of_lt_of_le (Heap.lt_size e) hCle)) (Heap.get?_push_of_some _ (hP ▸ Heap.get?_push_of_some _ e))
 have hacc:h₁.PlainList s2.heap.objs.size #[]:=⟨_,hsb₁.extBut _ _ hDC (Heap.get?_push_of_some _ (hP ▸ Heap.get?_push_size _ rfl))⟩;have flt:∀b∈fp,b<s2.heap.objs.size:=fun b hb=>by
  obtain⟨o,e,_⟩:=T.obj _ _ st2 b hb;exact Heap.lt_size e
 have st1:tn 0 h₁:=T.keep _ _ _ st2 fun b _ o e=>old b o e
 have loop:∀s3:Shared,s3={ s2 with heap:=h₁,toks:=s2.toks+([]:List (Str×Value)).length } ->
   codeAny (model X.prog X.w) X.A (.compLoop (.ListComp elt [⟨tg,iter,[],0⟩] scope pos) 0 (.ref it) (.ref s2.heap.objs.size) (compEnvC scope (eP X.env scope.names []) HP.objs.size X.env))
    (RR (.ref s2.heap.objs.size) HP.objs.size) s3:=by
  rintro s3 rfl;have X':=bF X scope (vars++caps.map (·.2)) HP.objs.size s2 H2 fp;have fpo:∀{H':Hp},(∀b∈fp,H' b=none)->∀b∈fp,eR (bF X scope (vars++caps.map (·.2)) HP.objs.size s2 H2 fp) [] H' b:=fun hn b hb=>by
   have ok:=oj B I2 f2 flt hCle;exact⟨hn b hb,(ok.exf b hb).1,ok.exfs b hb,.inl hb,(ok.exf b hb).2,fun p hp=>absurd (show p∈([]:List (Addr×Obj))from hp) (by simp)⟩
  refine g6 (fun n s=>∃i ys H its,Inv (bF X scope (vars++caps.map (·.2)) HP.objs.size s2 H2 fp) [] (vars.map (fun _=>none)++cV σ caps) H s/\tn i s.heap/\(∀b∈fp,H b=none)/\s.heap.PlainList s2.heap.objs.size (List.toArray its)/\H s2.heap.objs.size=none/\Vals ys its/\W i n ys H) ?_ m0
   ⟨0,[],H2,[],pL B I2 f2 flt hCle hns₁ old,st1,fun b hb=>(f2 b hb).1,hacc,I2.hok.fresh (Nat.le_refl _),.nil,w0⟩
  rintro n s4 ⟨i,ys,H4,its,I4,st4,fr4,pl4,nD4,v4,w4⟩;obtain⟨nn,eD⟩:=id pl4;have DnL:s2.heap.objs.size≠(bF X scope (vars++caps.map (·.2)) HP.objs.size s2 H2 fp).env.locals:=hDC;have Dfs:s2.heap.objs.size ∉ (bF X scope (vars++caps.map (·.2)) HP.objs.size s2 H2 fp).fs:=fun z=>by
   rcases List.mem_cons.mp (I2.stkSub _ z)with q|q
   ·have:=I2.lt;rw[<-q]at this;exact Nat.lt_irrefl _ this
   ·exact I2.nofs (Nat.le_refl _) q
  have Dfp:∀b∈fp,s2.heap.objs.size≠b:=fun b hb z=>by have:=flt b hb;rw[<-z]at this;exact Nat.lt_irrefl _ this
  have DnC:∀x c,(bF X scope (vars++caps.map (·.2)) HP.objs.size s2 H2 fp).env.cells.lookup x=some c->c≠s2.heap.objs.size:=fun x c e z=>by
   rcases aJ _ _ _ _ (B.cells I2) e with q|q
   ·cases q
   ·obtain⟨v,o,ho,_⟩:=I2.cell x c q
    have:=Heap.lt_size ho;rw[z]at this;exact Nat.lt_irrefl _ this
  have pinD:∀{σ':St} {H':Hp} {s':Shared},Inv (bF X scope (vars++caps.map (·.2)) HP.objs.size s2 H2 fp) [(s2.heap.objs.size,{ cls:=.type "list",data:=.seq its.toArray nn })] σ' H' s'->s'.heap.PlainList s2.heap.objs.size its.toArray/\H' s2.heap.objs.size=none:=fun{σ' H' s'} I'=>by
   obtain⟨q1,q2,_⟩:=I'.pin (s2.heap.objs.size,{ cls:=.type "list",data:=.seq its.toArray nn }) (by simp[bF]);exact⟨⟨nn,q1⟩,q2⟩
  have I4p:Inv (bF X scope (vars++caps.map (·.2)) HP.objs.size s2 H2 fp) [(s2.heap.objs.size,{ cls:=.type "list",data:=.seq its.toArray nn })] (vars.map (fun _=>none)++cV σ caps) H4 s4:=
   I4.pins_of fun p hp=>by
    have e:p=(s2.heap.objs.size,{ cls:=.type "list",data:=.seq its.toArray nn }):=by simpa[bF]using hp
    subst e;exact⟨eD,nD4,DnL,Dfs,fun v z=>by cases z⟩
  have fpo':∀{H':Hp},(∀b∈fp,H' b=none)->∀b∈fp,eR (bF X scope (vars++caps.map (·.2)) HP.objs.size s2 H2 fp) [(s2.heap.objs.size,{ cls:=.type "list",data:=.seq its.toArray nn })] H' b:=fun hn b hb=>by
   obtain⟨q1,q2,q3,q4,q5,_⟩:=fpo hn b hb;exact⟨q1,q2,q3,q4,q5,fun p hp=>by
    have e:p=(s2.heap.objs.size,{ cls:=.type "list",data:=.seq its.toArray nn }):=by simpa[bF]using hp
    subst e;exact Dfp b hb⟩
  have unp:∀{pl:List (Addr×Obj)} {σ':St} {H':Hp} {s':Shared},Inv (bF X scope (vars++caps.map (·.2)) HP.objs.size s2 H2 fp) pl σ' H' s'->Inv (bF X scope (vars++caps.map (·.2)) HP.objs.size s2 H2 fp) [] σ' H' s':=fun{pl σ' H' s'} I'=>
   I'.pins_of fun p hp=>absurd (show p∈([]:List (Addr×Obj))from hp) (by simp)
  rcases turn i n ys H4 w4 with⟨stop,hz,qn⟩|⟨go,hz,step⟩
  ·refine aY (T.done (bF X scope (vars++caps.map (·.2)) HP.objs.size s2 H2 fp) rfl rfl rfl hc i _ s4 _ H4 _ I4p (fpo' fr4) st4 stop) fun r s5 ⟨hr,I5⟩=>?_
   subst hr;obtain⟨p5,n5⟩:=pinD I5;obtain⟨m5,ns5,_⟩:=I5.loc;refine hRR _ _ s5 m5 ns5 hDC (Nat.le_refl _) hCle _ ?_ (fun h' hs'=>pK I2 f2 hCle (Nat.le_refl _) hDC (unp I5) n5 p5 v4 hz hs') (qn _ n5)
   rw[ap hDC.symm];exact I5.free
  ·refine aY (T.item (bF X scope (vars++caps.map (·.2)) HP.objs.size s2 H2 fp) rfl rfl rfl hc i _ s4 _ H4 _ I4p (fpo' fr4) st4 go) fun r s5 ⟨u,hr,h5⟩=>?_
   subst hr;refine aY h5 fun _ s6 ⟨x,H6,I6,rx,yx,st6,fr6⟩=>?_
   have I6p:=I6.pinned (fpo' fr6) (T.obj _ _ st6);refine aY (hg _ _ _ _ _ s6 _ H6 x u _ I6p rx (step x H6 yx)) fun _ s7 ⟨σ7,H7,I7,kp,q7⟩=>?_
   refine aY (he _ _ _ _ _ s7 σ7 H7 _ I7 q7) fun v s8 ⟨y,H8,I8,ry,m',hm,w8⟩=>?_
   obtain⟨p8,n8⟩:=pinD I8.unpinned;have st8:tn (i+1) s8.heap:=T.keep _ _ _ st6 fun b hb o e=>(I8.pin (b,o) (List.mem_append_right _ (List.mem_append_right _ (bn hb e)))).1
   have fr8:∀b∈fp,H8 b=none:=fun b hb=>by
    obtain⟨o,e,d⟩:=T.obj _ _ st6 b hb;exact(I8.pin (b,o) (List.mem_append_right _ (List.mem_append_right _ (bn hb e)))).2.1
   have hl:=v4.length;refine wpAny_list_append_plain p8 (fun h9 p9 sb9=>⟨m',hm,i+1,ys++[y],H8,its++[v],?_,?_,fr8,by simpa using p9,n8,v4.append (.cons ry .nil),w8⟩) (by simp;omega)
   ·have I9:Inv (bF X scope (vars++caps.map (·.2)) HP.objs.size s2 H2 fp) [] σ7 H8 { s8 with heap:=h9,toks:=s8.toks }:=
     (unp I8).turned (it:=s2.heap.objs.size) (fun b o hb e=>sb9.extBut b o hb e) n8 DnL (.inr (Nat.le_refl _)) DnC fun p hp=>absurd (show p∈([]:List (Addr×Obj))from hp) (by simp)
    exact I9.weak kp.1 kp.2
   ·exact T.keep _ _ _ st8 fun b hb o e=>sb9.extBut b o (Dfp b hb).symm e
 exact codeAny_compStart_list (loop _ rfl) (T.self _ 0 _ _ _ st1 (loop _ rfl))
theorem uP(B:BlkOk X.env.scope.names X.N scope vars caps)(hc:X.calm=true)(hi:PI X tg iter wi)
  (hg:∀C s₀ H₀ ex,PG (bF X scope (vars++caps.map (·.2)) C s₀ H₀ ex) tg g) (he:∀C s₀ H₀ ex,PE (bF X scope (vars++caps.map (·.2)) C s₀ H₀ ex) elt te) (hs:∀x,foldedSetIterable iter X.env x=pure x:=by intro _;rfl) :
  PE X (.ListComp elt [⟨tg,iter,[],0⟩] scope pos) (rA wi g te vars caps):=by
 intro pins s σ H Q I h;rw[eval_ListComp];refine wpAny_comprehension_free (use:=none) rfl hs (ci (B.cells I)) B.kind B.names ?_;show wpAny _ _ (eval iter X.env) _ _ s;refine aY (hi pins s σ H _ I h) fun v s1 h1=>aY h1 fun itv s2 h2=>?_
 obtain⟨it,fp,tn,J,H2,e,I2,T,st2,f2,W,⟨m0,w0⟩,turn⟩:=h2;subst e;exact jd B hc hg he I2 T st2 f2 w0 turn (RR:=fun acc C=>compPost (model X.prog X.w) X.A X.xe none (EP X pins σ Q) acc C) fun D C s' m ns _ _ _ H' _ k q=>⟨m,ns,fun h' hs'=>⟨.ref D,H',k h' hs',rfl,q⟩⟩
theorem uH{i:Nat}{y:Str}{py spos:Pos}(B:BlkOk X.env.scope.names X.N scope vars caps)(hc:X.calm=true)(hi:PI X tg iter wi)
  (hg:∀C s₀ H₀ ex,PG (bF X scope (vars++caps.map (·.2)) C s₀ H₀ ex) tg g) (he:∀C s₀ H₀ ex,PE (bF X scope (vars++caps.map (·.2)) C s₀ H₀ ex) elt te)
  (hN:X.N.Nodup) (hy:X.N[i]? = some y) (hx:rh X.env.scope y) (hsw:swapsWith (.ListComp elt [⟨tg,iter,[],0⟩] scope pos) (some (.Name y py)) spos.line X.env=pure true)
  (hf:X.fn y=true\/X.env.scope.names.lookup y=some .local) (hs:∀x,foldedSetIterable iter X.env x=pure x:=by intro _;rfl) :
  PS X (.Assign [.Name y py] (.ListComp elt [⟨tg,iter,[],0⟩] scope pos) spos) (fun D σ H=>rA wi g te vars caps σ H fun v H1=>D.nx (σ.set i (some v)) H1):=by
 intro pins s σ H DE I h;rw[exec_Assign_Name_used _ _ _ _ hsw];refine wpAny_bind (wpAny_standAt (wpAny_bind ?_));show wpAny _ X.A (do let _ <-comprehension (.ListComp elt [⟨tg,iter,[],0⟩] scope pos) scope X.env _ (newList []) false (eval iter X.env) (some (assign (.Name y py) X.env))) _ _ s;refine wpAny_bind (wpAny_mono (wpAny_comprehension_free (use:=some (assign (.Name y py) X.env)) (Q:=fun _ s'=>SP X pins DE .next s') rfl hs (ci (B.cells I)) B.kind B.names
  (aY (hi pins s σ H _ I h) fun v s1 h1=>aY h1 fun itv s2 h2=>?_)) (fun _ s' hq=>wpAny_pure (wpAny_pure hq)) fun _ _ e=>e)
 obtain⟨it,fp,tn,J,H2,e,I2,T,st2,f2,W,⟨m0,w0⟩,turn⟩:=h2;subst e;refine jd (Q:=fun v H1=>DE.nx (σ.set i (some v)) H1) B hc hg he I2 T st2 f2 w0 turn (RR:=fun acc C=>compPost (model X.prog X.w) X.A X.xe (some (assign (.Name y py) X.env)) (fun _ s'=>SP X pins DE .next s') acc C) ?_
 intro D C s' m ns hDC hD hC H' hHC k q;obtain⟨oC,es,ep,eC,dC,rC⟩:=ns;have I':Inv X pins σ H' s':=k s'.heap (Heap.SameBut.refl ..);have nL:C≠X.env.locals:=fun z=>by have:=I2.lt;rw[<-z]at this;exact absurd (Nat.lt_of_lt_of_le this hC) (Nat.lt_irrefl _)
 have nF:C ∉ X.fs:=I2.nofs hC;have nCell:∀x c,X.env.cells.lookup x=some c->c≠C:=fun x c e z=>by
  obtain⟨v,o,ho,_⟩:=I2.cell x c e;have:=Heap.lt_size ho;rw[z]at this;exact absurd (Nat.lt_of_lt_of_le this hC) (Nat.lt_irrefl _)
 have nPin:∀p∈X.pn++pins,p.1≠C:=fun p hp z=>by
  have:=Heap.lt_size (I2.pin p hp).1;rw[z]at this;exact absurd (Nat.lt_of_lt_of_le this hC) (Nat.lt_irrefl _)
 have Ip:Inv X (pins++[(C,oC)]) σ H' s':=I'.pins_of fun p hp=>by
  rcases List.mem_append.mp hp with z|z
  ·exact I'.pin p (List.mem_append_right _ z)
  ·have e:p=(C,oC):=by simpa using z
   subst e;exact⟨eC,hHC,nL,nF,fun v z=>by rw[dC]at z;cases z⟩
 refine aY (bE (pos:=py) hN hy hx hf _ s' σ H' (.ref D) (.ref D) (fun σ' H''=>σ' = σ.set i (some (.ref D))/\H''=H'/\DE.nx σ' H'') Ip rfl ⟨rfl,rfl,q⟩) fun _ s'' ⟨σ'',H'',I'',e1,e2,q''⟩=>?_
 subst e1 e2;have eC'':s''.heap.get? C=some oC:=(I''.pin (C,oC) (List.mem_append_right _ (List.mem_append_right _ (by simp)))).1;refine⟨m,⟨oC,es,ep,eC'',dC,rC⟩,fun h' hs'=>⟨_,H'',?_,q''⟩⟩
 exact I''.unpinned.turned (t':=s''.toks) (it:=C) (fun b o hb e=>hs'.extBut b o hb e) hHC nL (.inr (Nat.le_trans I2.sz hC)) nCell nPin
end
noncomputable def zn:Option Sl->Sl
 |some (.fz d)=>.fz d
 |_=>.un
@[simp] theorem BF(d:D):zn (some (.fz d))=.fz d:=rfl
noncomputable def bf(δ:Dv)(caps:List (Nat×Str)):Dv:=caps.map fun p=>zn δ[p.1]?
noncomputable def qx(f:D->Option D):List D->Option (List D)
 |[]=>some []
 |d::ds=>(f d).bind fun e=>(qx f ds).bind fun es=>some (e::es)
noncomputable def iA(fi:Dv->Option (List D))(caps:List (Nat×Str))(bv:D->Option (List D))(fe:Dv->Option D):Dv->Option D:=fun δ=>(fi δ).bind fun ds=>if ds.length<=sizeLine then(qx (fun d=>(bv d).bind fun vs=>fe (vs.map .fz++bf δ caps)) ds).bind fun es=>some (.list es)else none
noncomputable def rf:D->Option (List D):=fun d=>some [d]
theorem gK{f:D->Option D}:∀{ds es:List D},qx f ds=some es->es.length=ds.length
 |[],es,h=>by cases h;rfl
 |d::ds,es,h=>by
  obtain⟨e,_,h⟩:=bind_some h;obtain⟨es',h2,h⟩:=bind_some h;cases h;exact congrArg (· + 1) (gK h2)
theorem mh{f:D->Option D}:∀{ds es:List D} {i:Nat} {d:D},qx f ds=some es->ds[i]? = some d->∃e,f d=some e/\es[i]? = some e
 |[],es,i,d,h,q=>by simp at q
 |d::ds,es,i,d',h,q=>by
  obtain⟨e,h1,h⟩:=bind_some h;obtain⟨es',h2,h⟩:=bind_some h;cases h;cases i with
  |zero=>simp at q;subst q;exact⟨e,h1,rfl⟩
  |succ i=>simp at q;obtain⟨e',g1,g2⟩:=mh (i:=i) h2 q;exact⟨e',g1,by simpa using g2⟩
def ox(K:Fg)(g:TG)(n:Nat)(bv:D->Option (List D)):Prop:=∀(x:V) (Z:Hp) (d:D) (vs:List D) (σc:St) (H:Hp) (R:St->Hp->Prop),Rep K Z x d->Same Z H->bv d=some vs->(∀us,Reps K Z us vs->us.length=n->R (us.map some ++ σc) H)->g x (List.replicate n none ++ σc) H R
theorem dq{K:Fg}:ox K (sY 0) 1 rf:=fun x Z d vs σc H R r zh e k=>by
 cases e;exact k [x] (.cons r .nil) rfl
section
variable{X:Cx}{scope:Scope}{vars:List Str}{caps:List (Nat×Str)}{elt tg iter:Expr}{pos:Pos}{g:TG}{fi:Dv->Option (List D)}{fe:Dv->Option D}{bv:D->Option (List D)}
theorem tM{σ:St}{δ:Dv}{K:Fg}{H₀ Z₀ Z H:Hp}(hh:Hold K H₀ Z₀ Z δ σ H):∀(j:Nat) d,(bf δ caps)[j]? = some (.fz d)->∃v,(cV σ caps)[j]? = some (some v)/\Rep K Z v d:=fun j d e=>by
 unfold bf at e;unfold cV;rw[List.getElem?_map]at e ⊢;cases q:caps[j]? with
 |none=>rw[q]at e;cases e
 |some p=>
  rw[q]at e;have e:zn δ[p.1]? = .fz d:=Option.some.inj e;cases z:δ[p.1]? with
  |none=>rw[z]at e;cases e
  |some sl=>
   rw[z]at e;cases sl with
   |fz d'=>
    cases e;obtain⟨v,g1,g2⟩:=hh.fz p.1 _ z;exact⟨v,by show some ((σ[p.1]?).getD none)=_;rw[g1];rfl,g2⟩
   |un=>cases e
   |own _=>cases e
   |fr _=>cases e
theorem vI{δ:Dv}:∀(j:Nat) ds,(bf δ caps)[j]? ≠ some (.own ds):=fun j ds e=>by
 unfold bf at e;rw[List.getElem?_map]at e;cases q:caps[j]? with
 |none=>rw[q]at e;cases e
 |some p=>
  rw[q]at e;have e:zn δ[p.1]? = .own ds:=Option.some.inj e;cases z:δ[p.1]? with
  |none=>rw[z]at e;cases e
  |some sl=>rw[z]at e;cases sl<;>cases e
theorem vJ{δ:Dv}:∀(j:Nat) ds,(bf δ caps)[j]? ≠ some (.fr ds):=fun j ds e=>by
 unfold bf at e;rw[List.getElem?_map]at e;cases q:caps[j]? with
 |none=>rw[q]at e;cases e
 |some p=>
  rw[q]at e;have e:zn δ[p.1]? = .fr ds:=Option.some.inj e;cases z:δ[p.1]? with
  |none=>rw[z]at e;cases e
  |some sl=>rw[z]at e;cases sl<;>cases e
theorem mT{σ:St}{δ:Dv}{K:Fg}{H₀ Z₀ Z H:Hp}(hh:Hold K H₀ Z₀ Z δ σ H){us:List V}{vs:List D}(r:Reps K Z us vs):Hold K H Z Z (vs.map .fz++bf δ caps) (us.map some++cV σ caps) H:=by
 have hl:=r.length;refine⟨hh.zh,Same.refl _,Same.refl _,fun _ _=>rfl,by simp[bf,cV,hl],fun i d e=>?_,fun i ds e=>?_,fun i j ds es a _ e=>?_,fun i ds e=>?_,NoF.refl _⟩
 ·by_cases hi:i<vs.length
  ·rw[List.getElem?_append_left (by simpa using hi),List.getElem?_map]at e
   cases q:vs[i]? with
   |none=>rw[q]at e;cases e
   |some d'=>
    rw[q]at e;cases e;obtain⟨v,g1,g2⟩:=r.get q;exact⟨v,by rw[List.getElem?_append_left (by simpa[hl]using hi),List.getElem?_map,g1];rfl,g2⟩
  ·rw[List.getElem?_append_right (by simpa using hi)]at e
   obtain⟨v,g1,g2⟩:=tM hh _ d e;refine⟨v,?_,g2⟩;rw[List.getElem?_append_right (by simpa[hl]using hi)];simp only[List.length_map]at g1 ⊢;rw[hl];exact g1
 all_goals
  exfalso;by_cases hi:i<vs.length
  ·rw[List.getElem?_append_left (by simpa using hi),List.getElem?_map]at e
   cases q:vs[i]?<;>rw[q]at e<;>cases e
  ·rw[List.getElem?_append_right (by simpa using hi)]at e
   first|exact vI _ _ e|exact vJ _ _ e
theorem j9(tk:ox X.K g vars.length bv){σ:St}{H:Hp}{Q:VK}(h:tV X.K (iA fi caps bv fe) σ H Q):rA (Bo X.K fi) g (tV X.K fe) vars caps σ H Q:=by
 obtain⟨H₀,Z₀,Z,δ,d,hh,e,k⟩:=h;obtain⟨ds,e1,e⟩:=bind_some e;by_cases hz:ds.length<=sizeLine
 ·rw[if_pos hz]at e
  obtain⟨es,e2,e⟩:=bind_some e;cases e;have le:=gK e2;have hv:vars.map (fun _=>(none:Option V))=List.replicate vars.length none:=by rw[List.map_const']
  refine⟨H₀,Z₀,Z,δ,ds,hh,e1,fun J Z1 H1 hh1 t1 ok=>?_⟩
  refine⟨fun i m ys H=>m=ds.length-i/\i<=ds.length/\∃Zc,Hold X.K H₀ Z₀ Zc δ σ H/\Same Z1 Zc/\Reps X.K Zc ys (es.take i),⟨ds.length,by simp,Nat.zero_le _,Z1,hh1,Same.refl _,by simpa using .nil⟩,?_⟩
  rintro i m ys H2 ⟨rfl,hi2,Zc,hhc,tc,rc⟩;have zh:Same Z1 H2:=tc.trans hhc.zh;have ly:=rc.length;rw[List.length_take]at ly;by_cases hlt:i<ds.length
  ·refine .inr ⟨ok.go i H2 zh hlt,by omega,fun x H3 y=>?_⟩
   have ed:ds[i]? = some ds[i]:=by simp[hlt]
   obtain⟨rfl,rx⟩:=ok.yld i H2 x H3 _ zh ed y;obtain⟨ei,f1,f2⟩:=mh e2 ed;obtain⟨vs,f3,f1⟩:=bind_some f1;rw[hv];refine tk x Zc ds[i] vs (cV σ caps) H3 _ (rx.same tc) hhc.zh f3 fun us ru hn=>⟨⟨by simp[hn],fun j v q=>?_⟩,?_⟩
   ·by_cases hj:j<vars.length
    ·rw[List.getElem?_append_left (by simpa using hj),List.getElem?_replicate]at q
     split at q<;>cases q
    ·rw[List.getElem?_append_right (by simpa using hj)]at q
     rw[List.getElem?_append_right (by simpa[hn]using hj)];simpa[hn]using q
   ·refine⟨H3,Zc,Zc,_,ei,mT hhc ru,f1,fun v Z4 H4 h4 t4 r4=>⟨ds.length-(i+1),by omega,rfl,hlt,Z4,hhc.new ⟨t4,h4.h0,h4.zh,h4.zb,h4.nf⟩,tc.trans t4,?_⟩⟩
    have:es.take (i+1)=es.take i++[ei]:=by
     rw[List.take_add_one,f2];rfl
    rw[this];exact(rc.same t4).append (.cons r4 .nil)
  ·have hie:i=ds.length:=by omega
   subst hie;refine .inl ⟨ok.stop _ H2 zh (Nat.le_refl _),by omega,fun p hp=>?_⟩
   rw[<-le,List.take_length]at rc;have n:=New.add hhc.zh hp (.lst ys);exact k _ _ _ (hhc.new n) ((t1.trans tc).trans n.z) (.lst (SqL.of al) (rc.same n.z))
 ·rw[if_neg hz]at e;cases e
theorem vy(B:BlkOk X.env.scope.names X.N scope vars caps)(hc:X.calm=true)(hi:IV X tg iter fi)(tk:ox X.K g vars.length bv)
  (hg:∀C s₀ H₀ ex,PG (bF X scope (vars++caps.map (·.2)) C s₀ H₀ ex) tg g) (he:∀C s₀ H₀ ex,EV (bF X scope (vars++caps.map (·.2)) C s₀ H₀ ex) elt fe) (hs:∀x,foldedSetIterable iter X.env x=pure x:=by intro _;rfl) :
  EV X (.ListComp elt [⟨tg,iter,[],0⟩] scope pos) (iA fi caps bv fe):=
 PE.imp (uP (te:=tV X.K fe) B hc hi hg he hs) fun _ _ _ h=>j9 tk h
theorem um(i:Nat){y:Str}{py spos:Pos}(hN:X.N.Nodup)(B:BlkOk X.env.scope.names X.N scope vars caps)(hc:X.calm=true)(hi:IV X tg iter fi)(tk:ox X.K g vars.length bv)
  (hg:∀C s₀ H₀ ex,PG (bF X scope (vars++caps.map (·.2)) C s₀ H₀ ex) tg g) (he:∀C s₀ H₀ ex,EV (bF X scope (vars++caps.map (·.2)) C s₀ H₀ ex) elt fe)
  (hy:X.N[i]? = some y:=by rfl) (hx:rh X.env.scope y:=by first|exact Or.inl rfl|exact Or.inr rfl) (hsw:swapsWith (.ListComp elt [⟨tg,iter,[],0⟩] scope pos) (some (.Name y py)) spos.line X.env=pure true:=by rfl)
  (hf:X.fn y=true\/X.env.scope.names.lookup y=some .local:=by first|exact .inl rfl|exact .inr rfl|assumption) (hs:∀x,foldedSetIterable iter X.env x=pure x:=by intro _;rfl) :
  SV X (.Assign [.Name y py] (.ListComp elt [⟨tg,iter,[],0⟩] scope pos) spos) (cj i (iA fi caps bv fe)):=
 PS.imp (uH (te:=tV X.K fe) B hc hi hg he hN hy hx hsw hf hs) fun D σ H h=>by
  obtain⟨H₀,Z₀,Z,δ,r,hh,e,k⟩:=h;obtain⟨x,e1,e⟩:=bind_some e;cases e;exact j9 tk ⟨H₀,Z₀,Z,δ,x,hh,e1,fun v Z1 H1 hh1 s1 r1=>k _ H1 Z1 (hh1.set r1) s1⟩
end
section
variable{X:Cx}{e:Expr}{es:List Expr}{p pos:Pos}{fs:Dv->Option (List D)}
theorem aP{k:Nat}{x:Str}{g:List D->Option D}(C:Cal X.prog X.w X.K X.mg X.base x k g [])(hr:Room k X.A)(hg:Gl X x)(ha:AV X (e::es) fs)(hdb:(x==("__debug__":Str))=false:=by decide)(he:starEach (e::es) X.env=(false,eval e X.env)::starEach es X.env:=by rfl)
  (hpl:(backTo pos (starEach es X.env)).any (·.1)=false:=by rfl):EV X (.Call (.Name x p) (e::es) [] pos) (os fs g):=by
 have h:=yj C hr hg ha hdb he hpl (p:=p) (pos:=pos);have e:(fun as=>g (as++[]))=g:=by funext as;rw[List.append_nil]
 rw[e]at h;exact h
end
noncomputable def q8:Option Sl->Option (List D)
 |some (.own (.l ds))=>some ds
 |_=>none
@[simp] theorem BD(ds:List D):q8 (some (.ow ds))=some ds:=rfl
theorem nt{o:Option Sl}{ds:List D}(h:q8 o=some ds):o=some (.ow ds):=by
 cases o with
 |none=>cases h
 |some x=>
  cases x with
  |own c=>
   cases c with
   |l es=>cases h;rfl
   |d es=>cases h
  |un=>cases h
  |fz d=>cases h
  |fr _=>cases h
@[simp] noncomputable def rO(i:Nat)(fs:Dv->Option (List D)):Sf:=fun δ=>(fs δ).bind fun ds=>if ds.length<=sizeLine then some (.nx,δ.set i (.ow ds))else none
@[simp] noncomputable def zM(i:Nat)(f:Dv->Option D):Dv->Option D:=fun δ=>(q8 δ[i]?).bind fun ds=>(f δ).bind fun k=>dJ (.list ds) k
@[simp] noncomputable def CQ(i:Nat):Dv->Option D:=fun δ=>(q8 δ[i]?).bind fun ds=>some (.int ds.length)
noncomputable def zx(ds:List D)(k v:D):Option (List D):=match k with
 |.int j=>(tY ds.length j).map fun n=>ds.set n v
 |_=>none
@[simp] theorem zw(ds:List D)(j:Int)(v:D):zx ds (.int j) v=(tY ds.length j).map fun n=>ds.set n v:=rfl
@[simp] noncomputable def Dd(i:Nat)(fk fv:Dv->Option D):Sf:=fun δ=>(fv δ).bind fun v=>(fk δ).bind fun k=>(q8 δ[i]?).bind fun ds=>(zx ds k v).bind fun ds'=>some (.nx,δ.set i (.ow ds'))
@[simp] noncomputable def wW(i:Nat)(f:Dv->Option D):Sf:=fun δ=>(f δ).bind fun v=>(q8 δ[i]?).bind fun ds=>if ds.length<sizeLine then some (.nx,δ.set i (.ow (ds++[v])))else none
section
variable{X:Cx}{e b:Expr}{es:List Expr}{p pos tpos apos:Pos}{fs:Dv->Option (List D)}{f fk fv:Dv->Option D}
theorem nh(i:Nat){x:Str}{pos':Pos}(hN:X.N.Nodup)(ha:AV X es fs)(hi:X.N[i]? = some x:=by rfl)(hx:rh X.env.scope x:=by first|exact Or.inl rfl|exact Or.inr rfl)(hs:swapsWith (.List es p) (some (.Name x pos')) pos.line X.env=pure false:=by rfl)
  (hf:X.fn x=true\/X.env.scope.names.lookup x=some .local:=by first|exact .inl rfl|exact .inr rfl|assumption):SV X (.Assign [.Name x pos'] (.List es p) pos) (rO i fs):=
 PS.imp (nz hN hi hx (xr ha) hs hf) fun D σ H h=>by
  obtain⟨H₀,Z₀,Z,δ,r,hh,e,k⟩:=h;obtain⟨ds,e1,e⟩:=bind_some e;by_cases hl:ds.length<=sizeLine
  ·rw[if_pos hl]at e
   cases e;exact⟨H₀,Z₀,Z,δ,ds,hh,e1,fun vs Z1 H1 hh1 t1 r1=>⟨by rw[r1.length];exact hl,fun p hp=>k _ _ Z1 (hh1.setO hp r1) t1⟩⟩
  ·rw[if_neg hl]at e;cases e
theorem jW{K:Fg}{H₀ Z₀ Z:Hp}{δ:Dv}{σ:St}{H:Hp}(hh:Hold K H₀ Z₀ Z δ σ H){i:Nat}{ds:List D}(h:q8 δ[i]? = some ds):∃a xs,σ[i]? = some (some (V.ref a))/\H a=some (.lst xs)/\Reps K Z xs ds:=by
 obtain⟨a,xs,h1,_,_,h4,h5⟩:=hh.ow i ds (nt h);exact⟨a,xs,h1,h4,h5⟩
theorem yi(i:Nat){x:Str}(hb:EV X b f)(hs:la b)(hN:X.N[i]? = some x:=by rfl)(hv:wz X.env.scope x:=by first|exact Or.inl rfl|exact Or.inr (Or.inl rfl)|exact Or.inr (Or.inr rfl))(hd:(x==("__debug__":Str))=false:=by decide)(hcd:(x==("__classdict__":Str))=false:=by decide):
  EV X (.Subscript (.Name x p) b pos) (zM i f):=
 PE.imp (v7 ix_list (fY hN hv hd hcd) hb hs) fun σ H Q h=>by
  obtain⟨H₀,Z₀,Z,δ,d,hh,e,k⟩:=h;obtain⟨ds,e1,e⟩:=bind_some e;obtain⟨y,e2,e⟩:=bind_some e;obtain⟨a,xs,h1,h4,h5⟩:=jW hh e1;refine⟨_,h1,H₀,Z₀,Z,δ,y,hh,e2,fun v Z1 H1 hh1 t1 r1=>?_⟩
  obtain⟨a',xs',g1,g4,g5⟩:=jW hh1 e1;rw[h1]at g1;cases g1;cases r1 with
  |int j=>
   obtain⟨w,ew,rw'⟩:=g5.at e;exact⟨_,_,_,w,rfl,rfl,SqL.of g4,ew,k w Z1 H1 hh1 t1 rw'⟩
  |_=>cases e
theorem rB(i:Nat){x:Str}{cpos:Pos}(hv':EV X e f)(hN:X.N[i]? = some x:=by rfl)(hv:wz X.env.scope x:=by first|exact Or.inl rfl|exact Or.inr (Or.inl rfl)|exact Or.inr (Or.inr rfl))(hd:(x==("__debug__":Str))=false:=by decide)(hcd:(x==("__classdict__":Str))=false:=by decide)
  (hbase:attributeBase (.Name x p) "append" X.env (eval (.Name x p) X.env)=eval (.Name x p) X.env:=by rfl)
  (hfew:((backTo cpos (starEach [e] X.env)).all (fun x=>!x.1)&&(backToKw cpos (keywordEach [] X.env)).all (fun x=>x.1.isSome)
   && decide ([e].length+([]:List Keyword).length+(if([]:List Keyword).isEmpty then 0 else 1)<30))=true:=by rfl)
  (hline:(apos.endLine==cpos.line)=true:=by rfl) (hs:starEach [e] X.env=(false,eval e X.env)::starEach [] X.env:=by rfl) (hplain:(backTo cpos (starEach [] X.env)).any (·.1)=false:=by rfl)
  (hsw:swapsWith (.Call (.Attribute (.Name x p) "append" apos) [e] [] cpos) none pos.line X.env=pure false:=by rfl):SV X (.Expr (.Call (.Attribute (.Name x p) "append" apos) [e] [] cpos) pos) (wW i f):=
 PS.imp (oN (v9 PySem.F.plainAttrs_list PySem.F.slot_list_append PySem.F.type_list_append qv (fY hN hv hd hcd) (cP hv' eK hs) hbase hfew hline hs hplain) hsw) fun D σ H h=>by
  obtain⟨H₀,Z₀,Z,δ,r,hh,e,k⟩:=h;obtain⟨v,e1,e⟩:=bind_some e;obtain⟨ds,e2,e⟩:=bind_some e;by_cases hl:ds.length<sizeLine
  ·rw[if_pos hl]at e
   cases e;obtain⟨a,xs,h1,h4,h5⟩:=jW hh e2;refine⟨_,h1,.inl ⟨rfl,xs,SqL.of h4⟩,H₀,Z₀,Z,δ,v,hh,e1,fun w Z1 H1 hh1 t1 r1=>?_⟩
   obtain⟨a',xs',g1,g4,g5⟩:=jW hh1 e2;rw[h1]at g1;cases g1;exact⟨a,xs',w,rfl,rfl,g4,by rw[g5.length];exact hl,k σ _ Z1 (hh1.chg (xs:=xs') (nt e2) h1 (g5.append (.cons r1 .nil))) t1⟩
  ·rw[if_neg hl]at e;cases e
end
section
def nc(wi:TI)(g:TG)(tt:TT)(te:TE)(vars:List Str)(caps:List (Nat×Str)):TE:=fun σ H Q=>wi σ H fun J H1=>∃W:Nat->Nat->List V->Hp->Prop,(∃m,W 0 m [] H1)/\∀i m ys H,W i m ys H ->
 (J.stop i H/\ys.length<=sizeLine/\∀p,H p=none->Q (.ref p) (upd H p (.lst ys))) \/
 (J.go i H/\ys.length<sizeLine/\∀x H',J.yld i H x H'->g x (vars.map (fun _=>none)++cV σ caps) H' fun σ2 H2=>pN (vars.map (fun _=>none)++cV σ caps) σ2/\tt σ2 H2 fun b H3=>if b=true then te σ2 H3 fun y H4=>∃m',m'<m/\W (i+1) m' (ys++[y]) H4 else ∃m',m'<m/\W (i+1) m' ys H3)
theorem gA{prog:Program}{w:World}{A:Around}{R:Result->Shared->Prop}{s:Shared}{elt target iter cnd:Expr}{scope:Scope}{pos:Pos}{it acc:Value}{env:Env}(I:Nat->Shared->Prop)
  (turn:∀n s,I n s->wpAny (model prog w) A (pyNext it) (fun r s₁=>match r with
   |none=>R (.ok .next) s₁
   |some v=>wpAny (model prog w) A (letOwnedTupleGo target it v) (fun _ s₁=>wpAny (model prog w) A (assign target env v) (fun _ s₂=>wpAny (model prog w) A (isTrue cnd env (eval cnd env)) (fun ok s₂=>if ok=true then wpAny (model prog w) A (eval elt env) (fun x s₃=>
     wpAny (model prog w) A (call (.builtin "list.append") [acc,x]) (fun _ s₄=>∃m,m<n/\I m s₄) (fun _ _=>False) s₃) (fun _ _=>False) s₂ else ∃m,m<n/\I m s₂) (fun _ _=>False) s₂) (fun _ _=>False) s₁) (fun _ _=>False) s₁) (fun _ _=>False) s)
  (n:Nat) (h:I n s):codeAny (model prog w) A (.compLoop (.ListComp elt [⟨target,iter,[cnd],0⟩] scope pos) 0 it acc env) R s:=by
 refine codeAny_loop rfl I (fun n s hI=>?_) n h;show wpAny _ _ ((compTurn (.ListComp elt [⟨target,iter,[cnd],0⟩] scope pos) 0 it acc env).onRaise (fun x=>do noteFrame x env;theTreesLotGoes x)) _ _ s;refine wpAny_noted ?_;rw[compTurn_list];refine wpAny_bind (wpAny_standAt (wpAny_bind (wpAny_mono (turn n s hI) (fun r s₁ h₁=>?_) fun _ _ h'=>h'.elim)))
 cases r with
 |none=>exact wpAny_pure h₁
 |some v=>
  refine wpAny_bind (wpAny_mono h₁ (fun _ s₁ h₁=>?_) fun _ _ h'=>h'.elim)
  refine wpAny_bind (wpAny_mono h₁ (fun _ s₂ h₂=>?_) fun _ _ h'=>h'.elim)
  refine wpAny_bind (wpAny_tests_one (wpAny_mono h₂ (fun okb s₃ h₃=>?_) fun _ _ h'=>h'.elim))
  cases okb with
  |false=>exact wpAny_pure ⟨rfl,h₃⟩
  |true=>exact wpAny_bind (wpAny_bind (wpAny_mono h₃ (fun x s₄ h₄=>wpAny_bind (wpAny_mono h₄ (fun _ s₅ h₅=>wpAny_pure (wpAny_pure ⟨rfl,h₅⟩)) fun _ _ h'=>h'.elim)) fun _ _ h'=>h'.elim))
end
section
variable{X:Cx}{scope:Scope}{vars:List Str}{caps:List (Nat×Str)}{elt tg iter cnd:Expr}{pos:Pos}{wi:TI}{g:TG}{tt:TT}{te:TE}
theorem gP{Cm:Cx->Prop}(B:BlkOk X.env.scope.names X.N scope vars caps)
  (hg:∀C s₀ H₀ ex,PG (bF X scope (vars++caps.map (·.2)) C s₀ H₀ ex) tg g) (hb:∀C s₀ H₀ ex,PT (bF X scope (vars++caps.map (·.2)) C s₀ H₀ ex) cnd tt) (he:∀C s₀ H₀ ex,PE (bF X scope (vars++caps.map (·.2)) C s₀ H₀ ex) elt te)
  {pins:List (Addr×Obj)} {σ:St} {H2:Hp} {s2:Shared} {Q:VK} {it:Addr} {fp:List Addr} {tn:Nat->Heap->Prop} {J:It} (I2:Inv X pins σ H2 s2) (T:TurnG Cm X.prog X.w X.K tg J fp it tn) (st2:tn 0 s2.heap) (f2:∀b∈fp,eR X pins H2 b) (hc:∀C,Cm (bF X scope (vars++caps.map (·.2)) C s2 H2 fp))
  {W:Nat->Nat->List V->Hp->Prop} {m0:Nat} (w0:W 0 m0 [] H2) (turn:∀i m ys H,W i m ys H ->
   (J.stop i H/\ys.length<=sizeLine/\∀p,H p=none->Q (.ref p) (upd H p (.lst ys))) \/
   (J.go i H/\ys.length<sizeLine/\∀x H',J.yld i H x H'->g x (vars.map (fun _=>none)++cV σ caps) H' fun σ2 H2=>pN (vars.map (fun _=>none)++cV σ caps) σ2/\tt σ2 H2 fun b H3=>if b=true then te σ2 H3 fun y H4=>∃m',m'<m/\W (i+1) m' (ys++[y]) H4 else ∃m',m'<m/\W (i+1) m' ys H3))
  {RR:Value->Addr->Result->Shared->Prop} {E:Value->Shared->Prop}
  (hRR:∀D C s' m,s'.heap.Ns C m->D≠C->s2.heap.objs.size<=D->s2.heap.objs.size<=C->∀H',H' C=none->(∀h',Heap.SameBut C s'.heap h'->Inv X pins σ H' { s' with heap:=h' })->Q (.ref D) H'->RR (.ref D) C (.ok .next) s') :
  wpAny (model X.prog X.w) X.A (newList []) (fun acc s₃=>wpAny (model X.prog X.w) X.A (newFunctionEnv scope X.env.globals (eP X.env scope.names []) [] X.env.qual none .none (some X.env)) (fun cenv s₄=>
   codeAny (model X.prog X.w) X.A (.compStart (.ListComp elt [⟨tg,iter,[cnd],0⟩] scope pos) 0 (.ref it) acc { cenv with scope:=relabel scope X.env }) (RR acc cenv.locals) s₄) E s₃) E s2:=by
 refine wpAny_newObj_type (wpAny_newFunctionEnv B.cell (by intro y hy;simp at hy) (fun h₁ hns₁ hsb₁=>?_) B.kind);dsimp only at hns₁ hsb₁ ⊢;generalize hP:s2.heap.push { cls:=.type "list",dict:=none,data:=.seq ([]:List Value).toArray }=HP at hns₁ hsb₁ ⊢;have hCs:HP.objs.size=s2.heap.objs.size+1:=by rw[<-hP,Heap.size_push]
 have hDC:s2.heap.objs.size≠HP.objs.size:=by rw[hCs];exact Nat.ne_of_lt (Nat.lt_succ_self _)
 have hCle:s2.heap.objs.size<=HP.objs.size:=by rw[hCs];exact Nat.le_succ _
 have old:∀b o,s2.heap.get? b=some o->h₁.get? b=some o:=fun b o e=>hsb₁.extBut b o (Nat.ne_of_lt (Nat.lt_of_lt_of_le (Heap.lt_size e) hCle)) (Heap.get?_push_of_some _ (hP ▸ Heap.get?_push_of_some _ e))
 have hacc:h₁.PlainList s2.heap.objs.size #[]:=⟨_,hsb₁.extBut _ _ hDC (Heap.get?_push_of_some _ (hP ▸ Heap.get?_push_size _ rfl))⟩;have flt:∀b∈fp,b<s2.heap.objs.size:=fun b hb=>by
  obtain⟨o,e,_⟩:=T.obj _ _ st2 b hb;exact Heap.lt_size e
 have st1:tn 0 h₁:=T.keep _ _ _ st2 fun b _ o e=>old b o e
 have loop:∀s3:Shared,s3={ s2 with heap:=h₁,toks:=s2.toks+([]:List (Str×Value)).length } ->
   codeAny (model X.prog X.w) X.A (.compLoop (.ListComp elt [⟨tg,iter,[cnd],0⟩] scope pos) 0 (.ref it) (.ref s2.heap.objs.size) (compEnvC scope (eP X.env scope.names []) HP.objs.size X.env))
    (RR (.ref s2.heap.objs.size) HP.objs.size) s3:=by
  rintro s3 rfl;have X':=bF X scope (vars++caps.map (·.2)) HP.objs.size s2 H2 fp;have fpo:∀{H':Hp},(∀b∈fp,H' b=none)->∀b∈fp,eR (bF X scope (vars++caps.map (·.2)) HP.objs.size s2 H2 fp) [] H' b:=fun hn b hb=>by
   have ok:=oj B I2 f2 flt hCle;exact⟨hn b hb,(ok.exf b hb).1,ok.exfs b hb,.inl hb,(ok.exf b hb).2,fun p hp=>absurd (show p∈([]:List (Addr×Obj))from hp) (by simp)⟩
  refine gA (fun n s=>∃i ys H its,Inv (bF X scope (vars++caps.map (·.2)) HP.objs.size s2 H2 fp) [] (vars.map (fun _=>none)++cV σ caps) H s/\tn i s.heap/\(∀b∈fp,H b=none)/\s.heap.PlainList s2.heap.objs.size (List.toArray its)/\H s2.heap.objs.size=none/\Vals ys its/\W i n ys H) ?_ m0
   ⟨0,[],H2,[],pL B I2 f2 flt hCle hns₁ old,st1,fun b hb=>(f2 b hb).1,hacc,I2.hok.fresh (Nat.le_refl _),.nil,w0⟩
  rintro n s4 ⟨i,ys,H4,its,I4,st4,fr4,pl4,nD4,v4,w4⟩;obtain⟨nn,eD⟩:=id pl4;have DnL:s2.heap.objs.size≠(bF X scope (vars++caps.map (·.2)) HP.objs.size s2 H2 fp).env.locals:=hDC;have Dfs:s2.heap.objs.size ∉ (bF X scope (vars++caps.map (·.2)) HP.objs.size s2 H2 fp).fs:=fun z=>by
   rcases List.mem_cons.mp (I2.stkSub _ z)with q|q
   ·have:=I2.lt;rw[<-q]at this;exact Nat.lt_irrefl _ this
   ·exact I2.nofs (Nat.le_refl _) q
  have Dfp:∀b∈fp,s2.heap.objs.size≠b:=fun b hb z=>by have:=flt b hb;rw[<-z]at this;exact Nat.lt_irrefl _ this
  have DnC:∀x c,(bF X scope (vars++caps.map (·.2)) HP.objs.size s2 H2 fp).env.cells.lookup x=some c->c≠s2.heap.objs.size:=fun x c e z=>by
   rcases aJ _ _ _ _ (B.cells I2) e with q|q
   ·cases q
   ·obtain⟨v,o,ho,_⟩:=I2.cell x c q
    have:=Heap.lt_size ho;rw[z]at this;exact Nat.lt_irrefl _ this
  have pinD:∀{σ':St} {H':Hp} {s':Shared},Inv (bF X scope (vars++caps.map (·.2)) HP.objs.size s2 H2 fp) [(s2.heap.objs.size,{ cls:=.type "list",data:=.seq its.toArray nn })] σ' H' s'->s'.heap.PlainList s2.heap.objs.size its.toArray/\H' s2.heap.objs.size=none:=fun{σ' H' s'} I'=>by
   obtain⟨q1,q2,_⟩:=I'.pin (s2.heap.objs.size,{ cls:=.type "list",data:=.seq its.toArray nn }) (by simp[bF]);exact⟨⟨nn,q1⟩,q2⟩
  have I4p:Inv (bF X scope (vars++caps.map (·.2)) HP.objs.size s2 H2 fp) [(s2.heap.objs.size,{ cls:=.type "list",data:=.seq its.toArray nn })] (vars.map (fun _=>none)++cV σ caps) H4 s4:=
   I4.pins_of fun p hp=>by
    have e:p=(s2.heap.objs.size,{ cls:=.type "list",data:=.seq its.toArray nn }):=by simpa[bF]using hp
    subst e;exact⟨eD,nD4,DnL,Dfs,fun v z=>by cases z⟩
  have fpo':∀{H':Hp},(∀b∈fp,H' b=none)->∀b∈fp,eR (bF X scope (vars++caps.map (·.2)) HP.objs.size s2 H2 fp) [(s2.heap.objs.size,{ cls:=.type "list",data:=.seq its.toArray nn })] H' b:=fun hn b hb=>by
   obtain⟨q1,q2,q3,q4,q5,_⟩:=fpo hn b hb;exact⟨q1,q2,q3,q4,q5,fun p hp=>by
    have e:p=(s2.heap.objs.size,{ cls:=.type "list",data:=.seq its.toArray nn }):=by simpa[bF]using hp
    subst e;exact Dfp b hb⟩
  have unp:∀{pl:List (Addr×Obj)} {σ':St} {H':Hp} {s':Shared},Inv (bF X scope (vars++caps.map (·.2)) HP.objs.size s2 H2 fp) pl σ' H' s'->Inv (bF X scope (vars++caps.map (·.2)) HP.objs.size s2 H2 fp) [] σ' H' s':=fun{pl σ' H' s'} I'=>
   I'.pins_of fun p hp=>absurd (show p∈([]:List (Addr×Obj))from hp) (by simp)
  rcases turn i n ys H4 w4 with⟨stop,hz,qn⟩|⟨go,hz,step⟩
  ·refine aY (T.done (bF X scope (vars++caps.map (·.2)) HP.objs.size s2 H2 fp) rfl rfl rfl (hc _) i _ s4 _ H4 _ I4p (fpo' fr4) st4 stop) fun r s5 ⟨hr,I5⟩=>?_
   subst hr;obtain⟨p5,n5⟩:=pinD I5;obtain⟨m5,ns5,_⟩:=I5.loc;refine hRR _ _ s5 m5 ns5 hDC (Nat.le_refl _) hCle _ ?_ (fun h' hs'=>pK I2 f2 hCle (Nat.le_refl _) hDC (unp I5) n5 p5 v4 hz hs') (qn _ n5)
   rw[ap hDC.symm];exact I5.free
  ·refine aY (T.item (bF X scope (vars++caps.map (·.2)) HP.objs.size s2 H2 fp) rfl rfl rfl (hc _) i _ s4 _ H4 _ I4p (fpo' fr4) st4 go) fun r s5 ⟨u,hr,h5⟩=>?_
   subst hr;refine aY h5 fun _ s6 ⟨x,H6,I6,rx,yx,st6,fr6⟩=>?_
   have I6p:=I6.pinned (fpo' fr6) (T.obj _ _ st6);refine aY (hg _ _ _ _ _ s6 _ H6 x u _ I6p rx (step x H6 yx)) fun _ s7 ⟨σ7,H7,I7,kp,q7⟩=>?_
   refine aY (hb _ _ _ _ _ s7 σ7 H7 _ I7 q7) fun okb s7' q7'=>?_
   obtain⟨H7',I7',q7'⟩:=q7';cases okb with
   |false=>
    obtain⟨m',hm,w8⟩:=q7';rw[if_neg (by decide)];obtain⟨p8,n8⟩:=pinD I7'.unpinned;have st8:tn (i+1) s7'.heap:=T.keep _ _ _ st6 fun b hb o e=>(I7'.pin (b,o) (List.mem_append_right _ (List.mem_append_right _ (bn hb e)))).1
    have fr8:∀b∈fp,H7' b=none:=fun b hb=>by
     obtain⟨o,e,d⟩:=T.obj _ _ st6 b hb;exact(I7'.pin (b,o) (List.mem_append_right _ (List.mem_append_right _ (bn hb e)))).2.1
    exact⟨m',hm,i+1,ys,H7',its,(unp I7').weak kp.1 kp.2,st8,fr8,p8,n8,v4,w8⟩
   |true=>
   rw[if_pos rfl];rw[if_pos rfl]at q7';refine aY (he _ _ _ _ _ s7' σ7 H7' _ I7' q7') fun v s8 ⟨y,H8,I8,ry,m',hm,w8⟩=>?_
   obtain⟨p8,n8⟩:=pinD I8.unpinned;have st8:tn (i+1) s8.heap:=T.keep _ _ _ st6 fun b hb o e=>(I8.pin (b,o) (List.mem_append_right _ (List.mem_append_right _ (bn hb e)))).1
   have fr8:∀b∈fp,H8 b=none:=fun b hb=>by
    obtain⟨o,e,d⟩:=T.obj _ _ st6 b hb;exact(I8.pin (b,o) (List.mem_append_right _ (List.mem_append_right _ (bn hb e)))).2.1
   have hl:=v4.length;refine wpAny_list_append_plain p8 (fun h9 p9 sb9=>⟨m',hm,i+1,ys++[y],H8,its++[v],?_,?_,fr8,by simpa using p9,n8,v4.append (.cons ry .nil),w8⟩) (by simp;omega)
   ·have I9:Inv (bF X scope (vars++caps.map (·.2)) HP.objs.size s2 H2 fp) [] σ7 H8 { s8 with heap:=h9,toks:=s8.toks }:=
     (unp I8).turned (it:=s2.heap.objs.size) (fun b o hb e=>sb9.extBut b o hb e) n8 DnL (.inr (Nat.le_refl _)) DnC fun p hp=>absurd (show p∈([]:List (Addr×Obj))from hp) (by simp)
    exact I9.weak kp.1 kp.2
   ·exact T.keep _ _ _ st8 fun b hb o e=>sb9.extBut b o (Dfp b hb).symm e
 exact codeAny_compStart_list (loop _ rfl) (T.self _ 0 _ _ _ st1 (loop _ rfl))
theorem ss(B:BlkOk X.env.scope.names X.N scope vars caps)(hc:X.calm=true)(hi:PI X tg iter wi)
  (hg:∀C s₀ H₀ ex,PG (bF X scope (vars++caps.map (·.2)) C s₀ H₀ ex) tg g) (hb:∀C s₀ H₀ ex,PT (bF X scope (vars++caps.map (·.2)) C s₀ H₀ ex) cnd tt) (he:∀C s₀ H₀ ex,PE (bF X scope (vars++caps.map (·.2)) C s₀ H₀ ex) elt te) (hs:∀x,foldedSetIterable iter X.env x=pure x:=by intro _;rfl) :
  PE X (.ListComp elt [⟨tg,iter,[cnd],0⟩] scope pos) (nc wi g tt te vars caps):=by
 intro pins s σ H Q I h;rw[eval_ListComp];refine wpAny_comprehension_free (use:=none) rfl hs (ci (B.cells I)) B.kind B.names ?_;show wpAny _ _ (eval iter X.env) _ _ s;refine aY (hi pins s σ H _ I h) fun v s1 h1=>aY h1 fun itv s2 h2=>?_
 obtain⟨it,fp,tn,J,H2,e,I2,T,st2,f2,W,⟨m0,w0⟩,turn⟩:=h2;subst e;exact gP (Cm:=fun X=>X.calm=true) B hg hb he I2 T st2 f2 (fun _=>hc) w0 turn (RR:=fun acc C=>compPost (model X.prog X.w) X.A X.xe none (EP X pins σ Q) acc C) fun D C s' m ns _ _ _ H' _ k q=>⟨m,ns,fun h' hs'=>⟨.ref D,H',k h' hs',rfl,q⟩⟩
theorem rZ{i:Nat}{y:Str}{py spos:Pos}(B:BlkOk X.env.scope.names X.N scope vars caps)(hc:X.calm=true)(hi:PI X tg iter wi)
  (hg:∀C s₀ H₀ ex,PG (bF X scope (vars++caps.map (·.2)) C s₀ H₀ ex) tg g) (hb:∀C s₀ H₀ ex,PT (bF X scope (vars++caps.map (·.2)) C s₀ H₀ ex) cnd tt) (he:∀C s₀ H₀ ex,PE (bF X scope (vars++caps.map (·.2)) C s₀ H₀ ex) elt te)
  (hN:X.N.Nodup) (hy:X.N[i]? = some y) (hx:rh X.env.scope y) (hsw:swapsWith (.ListComp elt [⟨tg,iter,[cnd],0⟩] scope pos) (some (.Name y py)) spos.line X.env=pure true)
  (hf:X.fn y=true\/X.env.scope.names.lookup y=some .local) (hs:∀x,foldedSetIterable iter X.env x=pure x:=by intro _;rfl) :
  PS X (.Assign [.Name y py] (.ListComp elt [⟨tg,iter,[cnd],0⟩] scope pos) spos) (fun D σ H=>nc wi g tt te vars caps σ H fun v H1=>D.nx (σ.set i (some v)) H1):=by
 intro pins s σ H DE I h;rw[exec_Assign_Name_used _ _ _ _ hsw];refine wpAny_bind (wpAny_standAt (wpAny_bind ?_));show wpAny _ X.A (do let _ <-comprehension (.ListComp elt [⟨tg,iter,[cnd],0⟩] scope pos) scope X.env _ (newList []) false (eval iter X.env) (some (assign (.Name y py) X.env))) _ _ s;refine wpAny_bind (wpAny_mono (wpAny_comprehension_free (use:=some (assign (.Name y py) X.env)) (Q:=fun _ s'=>SP X pins DE .next s') rfl hs (ci (B.cells I)) B.kind B.names
  (aY (hi pins s σ H _ I h) fun v s1 h1=>aY h1 fun itv s2 h2=>?_)) (fun _ s' hq=>wpAny_pure (wpAny_pure hq)) fun _ _ e=>e)
 obtain⟨it,fp,tn,J,H2,e,I2,T,st2,f2,W,⟨m0,w0⟩,turn⟩:=h2;subst e;refine gP (Cm:=fun X=>X.calm=true) (Q:=fun v H1=>DE.nx (σ.set i (some v)) H1) B hg hb he I2 T st2 f2 (fun _=>hc) w0 turn (RR:=fun acc C=>compPost (model X.prog X.w) X.A X.xe (some (assign (.Name y py) X.env)) (fun _ s'=>SP X pins DE .next s') acc C) ?_
 intro D C s' m ns hDC hD hC H' hHC k q;obtain⟨oC,es,ep,eC,dC,rC⟩:=ns;have I':Inv X pins σ H' s':=k s'.heap (Heap.SameBut.refl ..);have nL:C≠X.env.locals:=fun z=>by have:=I2.lt;rw[<-z]at this;exact absurd (Nat.lt_of_lt_of_le this hC) (Nat.lt_irrefl _)
 have nF:C ∉ X.fs:=I2.nofs hC;have nCell:∀x c,X.env.cells.lookup x=some c->c≠C:=fun x c e z=>by
  obtain⟨v,o,ho,_⟩:=I2.cell x c e;have:=Heap.lt_size ho;rw[z]at this;exact absurd (Nat.lt_of_lt_of_le this hC) (Nat.lt_irrefl _)
 have nPin:∀p∈X.pn++pins,p.1≠C:=fun p hp z=>by
  have:=Heap.lt_size (I2.pin p hp).1;rw[z]at this;exact absurd (Nat.lt_of_lt_of_le this hC) (Nat.lt_irrefl _)
 have Ip:Inv X (pins++[(C,oC)]) σ H' s':=I'.pins_of fun p hp=>by
  rcases List.mem_append.mp hp with z|z
  ·exact I'.pin p (List.mem_append_right _ z)
  ·have e:p=(C,oC):=by simpa using z
   subst e;exact⟨eC,hHC,nL,nF,fun v z=>by rw[dC]at z;cases z⟩
 refine aY (bE (pos:=py) hN hy hx hf _ s' σ H' (.ref D) (.ref D) (fun σ' H''=>σ' = σ.set i (some (.ref D))/\H''=H'/\DE.nx σ' H'') Ip rfl ⟨rfl,rfl,q⟩) fun _ s'' ⟨σ'',H'',I'',e1,e2,q''⟩=>?_
 subst e1 e2;have eC'':s''.heap.get? C=some oC:=(I''.pin (C,oC) (List.mem_append_right _ (List.mem_append_right _ (by simp)))).1;refine⟨m,⟨oC,es,ep,eC'',dC,rC⟩,fun h' hs'=>⟨_,H'',?_,q''⟩⟩
 exact I''.unpinned.turned (t':=s''.toks) (it:=C) (fun b o hb e=>hs'.extBut b o hb e) hHC nL (.inr (Nat.le_trans I2.sz hC)) nCell nPin
end
noncomputable def dA(t:D->Option Bool)(f:D->Option D):List D->Option (List D)
 |[]=>some []
 |d::ds=>(t d).bind fun b=>if b=true then(f d).bind fun e=>(dA t f ds).bind fun es=>some (e::es)else dA t f ds
@[simp] theorem Ay{t:D->Option Bool}{f:D->Option D}:dA t f []=some []:=rfl
noncomputable def cp(fi:Dv->Option (List D))(caps:List (Nat×Str))(bv:D->Option (List D))(ft:Dv->Option Bool)(fe:Dv->Option D):Dv->Option D:=fun δ=>(fi δ).bind fun ds=>if ds.length<=sizeLine then(dA (fun d=>(bv d).bind fun vs=>ft (vs.map .fz++bf δ caps)) (fun d=>(bv d).bind fun vs=>fe (vs.map .fz++bf δ caps)) ds).bind fun es=>some (.list es)else none
theorem gu{t:D->Option Bool}{f:D->Option D}:∀{ds es:List D} {i:Nat} {d:D},dA t f ds=some es->ds[i]? = some d->∃xs,dA t f (ds.take i)=some xs/\∃b,t d=some b/\(b=false->dA t f (ds.take (i+1))=some xs)/\(b=true->∃e,f d=some e/\dA t f (ds.take (i+1))=some (xs++[e]))
 |[],es,i,d,h,q=>by simp at q
 |d::ds,es,i,d',h,q=>by
  obtain⟨b,h1,h⟩:=bind_some h;cases i with
  |zero=>
   simp at q;subst q;refine⟨[],rfl,b,h1,fun hb=>?_,fun hb=>?_⟩
   ·subst hb;simp[dA,h1]
   ·subst hb
    rw[if_pos rfl]at h;obtain⟨e,h2,h⟩:=bind_some h;exact⟨e,h2,by simp[dA,h1,h2]⟩
  |succ i=>
   simp at q;cases b with
   |false=>
    rw[if_neg (by decide)]at h;obtain⟨xs,g1,b',g2,g3,g4⟩:=gu (i:=i) h q;refine⟨xs,by simp[dA,h1,g1],b',g2,fun hb=>by simpa[dA,h1]using g3 hb,fun hb=>?_⟩
    obtain⟨e,k1,k2⟩:=g4 hb;exact⟨e,k1,by simpa[dA,h1]using k2⟩
   |true=>
    rw[if_pos rfl]at h;obtain⟨e0,h2,h⟩:=bind_some h;obtain⟨es',h3,h⟩:=bind_some h;obtain⟨xs,g1,b',g2,g3,g4⟩:=gu (i:=i) h3 q;refine⟨e0::xs,by simp[dA,h1,h2,g1],b',g2,fun hb=>by simp[dA,h1,h2,g3 hb],fun hb=>?_⟩
    obtain⟨e,k1,k2⟩:=g4 hb;exact⟨e,k1,by simp[dA,h1,h2,k2]⟩
theorem kK{t:D->Option Bool}{f:D->Option D}:∀{ds es:List D},dA t f ds=some es->es.length<=ds.length
 |[],es,h=>by cases h;exact Nat.le_refl _
 |d::ds,es,h=>by
  obtain⟨b,h1,h⟩:=bind_some h;cases b with
  |false=>rw[if_neg (by decide)]at h;exact Nat.le_succ_of_le (kK h)
  |true=>
   rw[if_pos rfl]at h;obtain⟨e0,h2,h⟩:=bind_some h;obtain⟨es',h3,h⟩:=bind_some h;cases h;exact Nat.succ_le_succ (kK h3)
section
variable{X:Cx}{scope:Scope}{vars:List Str}{caps:List (Nat×Str)}{elt tg iter cnd:Expr}{pos:Pos}{g:TG}{fi:Dv->Option (List D)}{ft:Dv->Option Bool}{fe:Dv->Option D}{bv:D->Option (List D)}
theorem jc(tk:ox X.K g vars.length bv){σ:St}{H:Hp}{Q:VK}(h:tV X.K (cp fi caps bv ft fe) σ H Q):nc (Bo X.K fi) g (yH X.K ft) (tV X.K fe) vars caps σ H Q:=by
 obtain⟨H₀,Z₀,Z,δ,d,hh,e,k⟩:=h;obtain⟨ds,e1,e⟩:=bind_some e;by_cases hz:ds.length<=sizeLine
 ·rw[if_pos hz]at e
  obtain⟨es,e2,e⟩:=bind_some e;cases e;have hv:vars.map (fun _=>(none:Option V))=List.replicate vars.length none:=by rw[List.map_const']
  refine⟨H₀,Z₀,Z,δ,ds,hh,e1,fun J Z1 H1 hh1 t1 ok=>?_⟩
  refine⟨fun i m ys H=>m=ds.length-i/\i<=ds.length/\∃Zc xs,Hold X.K H₀ Z₀ Zc δ σ H/\Same Z1 Zc/\dA (fun d=>(bv d).bind fun vs=>ft (vs.map .fz++bf δ caps)) (fun d=>(bv d).bind fun vs=>fe (vs.map .fz++bf δ caps)) (ds.take i)=some xs/\Reps X.K Zc ys xs,⟨ds.length,by simp,Nat.zero_le _,Z1,[],hh1,Same.refl _,rfl,.nil⟩,?_⟩
  rintro i m ys H2 ⟨rfl,hi2,Zc,xs,hhc,tc,fx,rc⟩;have zh:Same Z1 H2:=tc.trans hhc.zh;have ly:=rc.length;have lx:=kK fx;rw[List.length_take]at lx;by_cases hlt:i<ds.length
  ·refine .inr ⟨ok.go i H2 zh hlt,by omega,fun x H3 y=>?_⟩
   have ed:ds[i]? = some ds[i]:=by simp[hlt]
   obtain⟨rfl,rx⟩:=ok.yld i H2 x H3 _ zh ed y;obtain⟨xs',f0,b,fb,ff,ftr⟩:=gu e2 ed;rw[fx]at f0;cases f0;obtain⟨vs,f3,f1⟩:=bind_some fb;rw[hv];refine tk x Zc ds[i] vs (cV σ caps) H3 _ (rx.same tc) hhc.zh f3 fun us ru hn=>⟨⟨by simp[hn],fun j v q=>?_⟩,?_⟩
   ·by_cases hj:j<vars.length
    ·rw[List.getElem?_append_left (by simpa using hj),List.getElem?_replicate]at q
     split at q<;>cases q
    ·rw[List.getElem?_append_right (by simpa using hj)]at q
     rw[List.getElem?_append_right (by simpa[hn]using hj)];simpa[hn]using q
   ·refine⟨H3,Zc,Zc,_,b,mT hhc ru,f1,fun Z3 H3' h3 t3=>?_⟩
    have hh3:=hhc.new ⟨t3,h3.h0,h3.zh,h3.zb,h3.nf⟩;cases b with
    |false=>
     dsimp only;rw[if_neg (by decide)];exact⟨ds.length-(i+1),by omega,rfl,hlt,Z3,xs,hh3,tc.trans t3,ff rfl,rc.same t3⟩
    |true=>
     dsimp only;rw[if_pos rfl];obtain⟨ei,f2,f4⟩:=ftr rfl;rw[f3]at f2;refine⟨H3,Zc,Z3,_,ei,h3,f2,fun v Z4 H4 h4 t4 r4=>⟨ds.length-(i+1),by omega,rfl,hlt,Z4,xs++[ei],?_,(tc.trans t3).trans t4,f4,((rc.same t3).same t4).append (.cons r4 .nil)⟩⟩
     exact hhc.new ⟨t3.trans t4,h4.h0,h4.zh,h4.zb,h4.nf⟩
  ·have hie:i=ds.length:=by omega
   subst hie;refine .inl ⟨ok.stop _ H2 zh (Nat.le_refl _),by omega,fun p hp=>?_⟩
   rw[List.take_length,e2]at fx;cases fx;have n:=New.add hhc.zh hp (.lst ys);exact k _ _ _ (hhc.new n) ((t1.trans tc).trans n.z) (.lst (SqL.of al) (rc.same n.z))
 ·rw[if_neg hz]at e;cases e
theorem d0(B:BlkOk X.env.scope.names X.N scope vars caps)(hc:X.calm=true)(hi:IV X tg iter fi)(tk:ox X.K g vars.length bv)
  (hg:∀C s₀ H₀ ex,PG (bF X scope (vars++caps.map (·.2)) C s₀ H₀ ex) tg g) (hb:∀C s₀ H₀ ex,TV (bF X scope (vars++caps.map (·.2)) C s₀ H₀ ex) cnd ft) (he:∀C s₀ H₀ ex,EV (bF X scope (vars++caps.map (·.2)) C s₀ H₀ ex) elt fe) (hs:∀x,foldedSetIterable iter X.env x=pure x:=by intro _;rfl) :
  EV X (.ListComp elt [⟨tg,iter,[cnd],0⟩] scope pos) (cp fi caps bv ft fe):=
 PE.imp (ss (tt:=yH X.K ft) (te:=tV X.K fe) B hc hi hg hb he hs) fun _ _ _ h=>jc tk h
theorem ls(i:Nat){y:Str}{py spos:Pos}(hN:X.N.Nodup)(B:BlkOk X.env.scope.names X.N scope vars caps)(hc:X.calm=true)(hi:IV X tg iter fi)(tk:ox X.K g vars.length bv)
  (hg:∀C s₀ H₀ ex,PG (bF X scope (vars++caps.map (·.2)) C s₀ H₀ ex) tg g) (hb:∀C s₀ H₀ ex,TV (bF X scope (vars++caps.map (·.2)) C s₀ H₀ ex) cnd ft) (he:∀C s₀ H₀ ex,EV (bF X scope (vars++caps.map (·.2)) C s₀ H₀ ex) elt fe)
  (hy:X.N[i]? = some y:=by rfl) (hx:rh X.env.scope y:=by first|exact Or.inl rfl|exact Or.inr rfl) (hsw:swapsWith (.ListComp elt [⟨tg,iter,[cnd],0⟩] scope pos) (some (.Name y py)) spos.line X.env=pure true:=by rfl)
  (hf:X.fn y=true\/X.env.scope.names.lookup y=some .local:=by first|exact .inl rfl|exact .inr rfl|assumption) (hs:∀x,foldedSetIterable iter X.env x=pure x:=by intro _;rfl) :
  SV X (.Assign [.Name y py] (.ListComp elt [⟨tg,iter,[cnd],0⟩] scope pos) spos) (cj i (cp fi caps bv ft fe)):=
 PS.imp (rZ (tt:=yH X.K ft) (te:=tV X.K fe) B hc hi hg hb he hN hy hx hsw hf hs) fun D σ H h=>by
  obtain⟨H₀,Z₀,Z,δ,r,hh,e,k⟩:=h;obtain⟨x,e1,e⟩:=bind_some e;cases e;exact jc tk ⟨H₀,Z₀,Z,δ,x,hh,e1,fun v Z1 H1 hh1 s1 r1=>k _ H1 Z1 (hh1.set r1) s1⟩
end
noncomputable def qP:D->Bool
 |.none=>true
 |.bool _=>true
 |.int _=>true
 |.str _=>true
 |_=>false
noncomputable def x8(x:D)(ds:List D):Bool:=ds.any fun y=>PyData.eqv y x
noncomputable def Ba(neg:Bool):D->D->Option D:=fun a b=>(bI b).bind fun ds=>if qP a=true/\ds.all qP=true then some (.bool (if neg=true then !x8 a ds else x8 a ds))else none
theorem Rep.flat{K:Fg}{Z:Hp}{v:V}{d:D}(r:Rep K Z v d):dZ v=qP d:=by cases r<;>rfl
theorem Rep.eqF{K:Fg}{Z:Hp}{v u:V}{d e:D}(r:Rep K Z v d)(q:Rep K Z u e)(h1:qP d=true)(h2:qP e=true):t6 v u=PyData.eqv d e:=by
 cases r<;>first|(cases q<;>first|rfl|cases h2)|cases h1
theorem Reps.allF{K:Fg}{Z:Hp}:∀{vs:List V} {ds:List D},Reps K Z vs ds->vs.all dZ=ds.all qP
 |_,_,.nil=>rfl
 |_,_,.cons r t=>by rw[List.all_cons,List.all_cons,r.flat,t.allF]
theorem Reps.inF{K:Fg}{Z:Hp}{x:V}{a:D}(q:Rep K Z x a)(h:qP a=true):∀{vs:List V} {ds:List D},Reps K Z vs ds->ds.all qP=true->A9 x vs=x8 a ds
 |_,_,.nil,_=>rfl
 |_,_,.cons r t,f=>by
  rw[List.all_cons,Bool.and_eq_true]at f;show(t6 _ x||A9 x _)=(PyData.eqv _ a||x8 a _);rw[r.eqF q f.1 h,t.inF q h f.2]
theorem vn{K:Fg}{neg:Bool}{x y:V}{H:Hp}{Q:VK}(h:rD K (Ba neg) x y H Q):BO K neg x y H Q:=by
 obtain⟨Z,a,b,d,zh,ra,rb,e,k⟩:=h;obtain⟨ds,e1,e⟩:=bind_some e;by_cases c:qP a=true/\ds.all qP=true
 ·rw[if_pos c]at e
  cases e;have go:∀(xs:List V),Reps K Z xs ds->(∃p,y=.ref p/\(SqL K H p xs\/SqT K H p xs))->BO K neg x y H Q:=fun xs r ⟨p,ey,hq⟩=>by
   refine⟨p,xs,ey,hq,by rw[ra.flat];exact c.1,by rw[r.allF];exact c.2,?_⟩;have:=r.inF ra c.1 c.2;rw[this];exact k _ Z H (New.refl zh) (.bl _)
  cases rb with
  |lst h q=>cases e1;exact go _ q ⟨_,rfl,.inl (SqL.same h zh)⟩
  |tup h q=>cases e1;exact go _ q ⟨_,rfl,.inr (SqT.same h zh)⟩
  |_=>cases e1
 ·rw[if_neg c]at e;cases e
theorem AI{X:Cx}:OpR X (compareOp .In) (rD X.K (Ba false)):=OpR.imp qq fun _ _ _ _ h=>vn h
noncomputable def gT:List (D->Dv->Option Dv)->List D->Dv->Option Dv
 |[],[],δ=>some δ
 |g::gs,d::ds,δ=>(g d δ).bind fun δ1=>gT gs ds δ1
 |_,_,_=>none
noncomputable def yc(gs:List (D->Dv->Option Dv)):D->Dv->Option Dv
 |.tuple ds,δ=>gT gs ds δ
 |_,_=>none
@[simp] theorem Cc(δ:Dv):gT [] [] δ = some δ:=rfl
@[simp] theorem Bf(g:D->Dv->Option Dv)(gs:List (D->Dv->Option Dv))(d:D)(ds:List D)(δ:Dv):gT (g::gs) (d::ds) δ = (g d δ).bind fun δ1=>gT gs ds δ1:=rfl
@[simp] theorem Be(gs:List (D->Dv->Option Dv))(ds:List D)(δ:Dv):yc gs (.tuple ds) δ = gT gs ds δ:=rfl
theorem sX:∀{gs:List (D->Dv->Option Dv)} {ds:List D} {δ δ':Dv},gT gs ds δ = some δ'->ds.length=gs.length
 |[],[],_,_,_=>rfl
 |[],_::_,_,_,h=>by cases h
 |_::_,[],_,_,h=>by cases h
 |g::gs,d::ds,δ,δ',h=>by
  obtain⟨δ1,_,h⟩:=bind_some h;exact congrArg (· + 1) (sX h)
noncomputable def Bp(K:Fg)(gs:List (D->Dv->Option Dv)):vP:=fun vs σ H Q=>∃H₀ Z₀ Z δ ds δ',Hold K H₀ Z₀ Z δ σ H/\Reps K Z vs ds/\gT gs ds δ = some δ'/\∀ σ' H' Z',Hold K H₀ Z₀ Z' δ' σ' H'->Same Z Z'->Q σ' H'
def Bh(X:Cx)(es:List Expr)(gs:List (D->Dv->Option Dv)):Prop:=PGs X es (Bp X.K gs)
section
variable{X:Cx}{pos:Pos}{e:Expr}{es:List Expr}{g:D->Dv->Option Dv}{gs:List (D->Dv->Option Dv)}
theorem PGs.imp{t t':vP}(h:PGs X es t)(i:∀v σ H Q,t' v σ H Q->t v σ H Q):PGs X es t':=fun pins s σ H x v Q I r q=>h pins s σ H x v Q I r (i _ _ _ _ q)
theorem o7:Bh X [] []:=PGs.imp uM fun vs σ H Q h=>by
 obtain⟨H₀,Z₀,Z,δ,ds,δ',hh,r,e,k⟩:=h;cases r with
 |nil=>cases e;exact⟨rfl,k σ H Z hh (Same.refl _)⟩
 |cons _ _=>cases e
theorem fI(h1:GV X e g)(h2:Bh X es gs)(hs:(assignEach (e::es) X.env).map (·.2)=assign e X.env::(assignEach es X.env).map (·.2):=by rfl):Bh X (e::es) (g::gs):=
 PGs.imp (sd h1 h2 hs) fun vs σ H Q h=>by
  obtain⟨H₀,Z₀,Z,δ,ds,δ',hh,r,e,k⟩:=h;cases r with
  |nil=>cases e
  |cons r t=>
   obtain⟨δ1,e1,e⟩:=bind_some e;exact⟨_,_,rfl,H₀,Z₀,Z,δ,_,δ1,hh,r,e1,fun σ1 H1 Z1 hh1 s1=>⟨H₀,Z₀,Z1,δ1,_,δ',hh1,t.same s1,e,fun σ2 H2 Z2 hh2 s2=>k σ2 H2 Z2 hh2 (s1.trans s2)⟩⟩
theorem sW{k:Nat}(hc:X.calm=true)(h:Bh X es gs)(hn:(assignEach es X.env).length=gs.length:=by rfl)(hst:(assignEach es X.env).findIdx? (·.1)=none:=by rfl):GV X (.Tuple es k pos) (yc gs):=
 PG.imp (xn hc h hn hst) fun v σ H Q h=>by
  obtain⟨H₀,Z₀,Z,δ,d,δ',hh,r,e,k⟩:=h;cases r with
  |tup q t=>
   have el:_=gs.length:=sX (gs:=gs) e;exact⟨_,_,rfl,SqT.same q hh.zh,by rw[t.length];exact el,H₀,Z₀,Z,δ,_,δ',hh,t,e,k⟩
  |_=>cases e
end
theorem ar{g:D->Dv->Option Dv}{b:Sf}{d:D}{ds:List D}{δ δ1 δ2:Dv}(h1:g d δ = some δ1)(h2:b δ1=some (.nx,δ2)):loop g b (d::ds) δ = loop g b ds δ2:=by
 show((g d δ).bind fun δ1=>_)=_
 rw[h1,Option.bind_some,h2];rfl
@[simp] noncomputable def CM(i:Nat)(f:Dv->Option (List D)):Sf:=fun δ=>(f δ).bind fun ds=>some (.nx,δ.set i (.ow ds))
noncomputable def p0(t:Sf):Fl×Dv->Option (Fl×Dv)
 | (.nx,δ)=>t δ
 |r=>some r
@[simp] theorem A1(t:Sf)(δ:Dv):p0 t (.nx,δ)=t δ:=rfl
@[simp] theorem A0(t:Sf)(d:D)(δ:Dv):p0 t (.rt d,δ)=some (.rt d,δ):=rfl
@[simp] theorem A3(t:Sf)(δ:Dv):p0 t (.bk,δ)=some (.bk,δ):=rfl
@[simp] theorem A2(t:Sf)(δ:Dv):p0 t (.ct,δ)=some (.ct,δ):=rfl
noncomputable def Bc(u w:Sf)(δ:Dv):Bool->Option (Fl×Dv)
 |true=>u δ
 |false=>w δ
@[simp] theorem CU(u w:Sf)(δ:Dv):Bc u w δ true=u δ:=rfl
@[simp] theorem CV(u w:Sf)(δ:Dv):Bc u w δ false=w δ:=rfl
theorem bZ(s t:Sf)(δ:Dv):aB s t δ = (s δ).bind (p0 t):=by
 unfold aB p0;congr 1
theorem da(t:Dv->Option Bool)(u w:Sf)(δ:Dv):eA t u w δ = (t δ).bind (Bc u w δ):=by
 unfold eA;congr 1;funext c;cases c<;>rfl
noncomputable def fG:List D->Option (List Int)
 |[]=>some []
 |.int b::r=>(fG r).map (b :: ·)
 |_=>none
noncomputable def uo:List D->Option D
 |[.list xs]=>(fG xs).map fun bs=>.int bs.sum
 |_=>none
theorem j3{α:Type}(f:α -> Int):∀xs:List α,fG (xs.map fun a=>.int (f a))=some (xs.map f)
 |[]=>rfl
 |a::r=>by simp[fG,j3 f r]
theorem rE{α:Type}(f:α -> Int)(xs:List α):uo [.list (xs.map fun a=>.int (f a))]=some (.int (xs.map f).sum):=by
 simp[uo,j3]
noncomputable def zq:D->Option D
 |.list xs=>some (.list xs.reverse)
 |_=>none
@[simp] theorem w9(xs:List D):zq (.list xs)=some (.list xs.reverse):=rfl
noncomputable def zr:D->Option (List D)
 |.list xs=>some xs.reverse
 |.tuple xs=>some xs.reverse
 |_=>none
@[simp] theorem yL(xs:List D):zr (.list xs)=some xs.reverse:=rfl
@[simp] theorem xa(xs:List D):zr (.tuple xs)=some xs.reverse:=rfl
@[simp] noncomputable def Dm:Sf:=fun _=>none
@[simp] noncomputable def Dg(i:Nat)(f:Dv->Option D):Sf:=fun δ=>(f δ).bind fun v=>(bI v).bind fun es=>(q8 δ[i]?).bind fun ds=>if ds.length+es.length<=sizeLine then some (.nx,δ.set i (.ow (ds++es)))else none
section
variable{X:Cx}{e:Expr}{es:List Expr}{p pos tpos apos:Pos}{f:Dv->Option D}{st:Stmt}
theorem mF{K:Fg}{Z:Hp}:∀{xs:List V} {ds:List D} {bs:List Int} {its:List Value},Reps K Z xs ds->Vals xs its->fG ds=some bs->IntsAre its bs
 |_,_,bs,_,.nil,.nil,h=>by cases h;exact .nil
 |_,_,bs,_,.cons r t,.cons q u,h=>by
  cases r with
  |int b=>
   unfold fG at h;cases g:fG _ with
   |none=>rw[g]at h;cases h
   |some cs=>
    rw[g]at h;cases h;obtain⟨tk,rfl⟩:=q;exact .cons _ _ (mF t u g)
  |_=>cases h
theorem AK(hc:X.calm=true):CallR X (.builtin "sum") (vZ X.K uo):=by
 intro pins s σ H xs us Q I rs q;obtain⟨Z,as,d,zh,ra,e,k⟩:=q;cases ra with
 |nil=>cases e
 |cons r1 r2=>
  cases r2 with
  |cons _ _=>cases r1<;>cases e
  |nil=>
   cases r1 with
   | @lst l ys ds h1 q1=>
    have e:(fG ds).map (fun bs=>PyData.int bs.sum)=some d:=e;cases g:fG ds with
    |none=>rw[g]at e;cases e
    |some bs=>
     rw[g]at e;cases e;obtain⟨u,rfl,ru⟩:=ii rs;cases ru;obtain⟨its,rv,pl,hz⟩:=I.list (SqL.same h1 zh);have hi:=mF q1 rv g;obtain⟨zs,hx⟩:=hi.allInts.items;have hl':s.heap.IsList l (intItems zs):=hx ▸ pl.isList;refine sum_intListG (I.ok.hd hc) hl' fun h' tk t' hk=>?_
     have e1:bs=zs.toList.map (·.1):=by
      rw[<-nums_intItems,<-hx];exact(show numsOf its.toArray.toList=bs from hi.numsOf).symm
     have e2:preSum (numAt zs) zs.size=bs.sum:=by
      rw[preSum_eq,List.take_of_length_le (by simp),e1]
     rw[e2];exact⟨.int _,H,I.kept (t':=tk) hk,⟨t',rfl⟩,k _ Z H (New.refl zh) (.int _)⟩
   |_=>cases e
end
noncomputable def BI:D->Option (List D)
 |.tuple xs=>some xs.reverse
 |_=>none
@[simp] theorem wZ(xs:List D):BI (.tuple xs)=some xs.reverse:=rfl
def F2(h:Heap)(e:Addr):Prop:=∃oe vs,h.get? e=some oe/\oe.data=.fields vs/\vs[2]? = some .none
def Cz(base:Heap)(l:List Env)(e:Addr)(cls a0:Value)(h:Heap):Prop:=Heap.FlyingW base l e cls a0 h/\F2 h e
abbrev Xf:=Dv->Option (Str×Dv)
@[simp] noncomputable def Dk:Xf:=fun _=>none
@[simp] noncomputable def Bj(n:Str)(f:Dv->Option D):Xf:=fun δ=>(f δ).bind fun _=>some (n,δ)
@[simp] noncomputable def xE(f:Dv->Option Str):Xf:=fun δ=>(f δ).bind fun n=>some (n,δ)
@[simp] noncomputable def Dl(t:Dv->Option Bool)(u w:Xf):Xf:=fun δ=>(t δ).bind fun c=>if c=true then u δ else w δ
@[simp] noncomputable def Bi(s:Sf)(u:Xf):Xf:=fun δ=>(s δ).bind fun r=>match r with
 | (.nx,δ')=>u δ'
 |_=>none
@[simp] noncomputable def CC(u1:Xf)(s:Sf)(u:Xf):Xf:=fun δ=>match u1 δ with
 |some r=>some r
 |none=>Bi s u δ
@[simp] noncomputable def Dp(fs:Dv->Option (List D))(g:List D->Option Str):Dv->Option Str:=fun δ=>(fs δ).bind g
structure Thrown (P:Program) (w:World) (outer:List Env) (H:Hp) (s:Shared) (x C:Addr) (H':Hp) (s':Shared):Prop where
 os:s'.os=s.os
 bare:AllBare s'.gens
 un:Un (pq outer) [] H H' s.heap s'.heap
 hok:HOk P w H' s'.heap
 sm:Same H H'
 is:H' x=some (Ch x C)
 fly:∃B t,Cz B outer x (.ref C) t s'.heap/\(∀b o,H' b=some o->b≠x->∃ob,B.get? b=some ob)/\(∀b o,s.heap.get? b=some o->H b=none->b ∉ pq outer->B.get? b=some o)
inductive Flung (m:Bool) (X:Cx) (n:Str) (Z H:Hp) (s:Shared) (e:Value) (s':Shared):Prop
 |made {x C:Addr} {vs:List Value}:m=true->PySem.W.nsIn X.K mainGlobals n=some (some (.ref C))->e=.ref x->s'={ s with heap:=s'.heap }->Heap.MadeExcOf s.heap s'.heap x (.ref C) vs->Flung m X n Z H s e s'
 |thrown {x C:Addr} {H' Z':Hp}:PySem.W.nsIn X.K mainGlobals n=some (some (.ref C))->e=.ref x->Thrown X.prog X.w X.stack H s x C H' s'->New Z H Z' H'->Z' x=some (Ch x C)->H x=none->Flung m X n Z H s e s'
def C5(m:Bool)(X:Cx)(f:Xf):TS:=fun _ σ H=>∃H₀ Z₀ Z δ r,Hold X.K H₀ Z₀ Z δ σ H/\f δ = some r/\∀pins σ' H' Z' s e s',Hold X.K H₀ Z₀ Z' r.2 σ' H'->Same Z Z'->Inv X pins σ' H' s->Flung m X r.1 Z' H' s e s'->X.xe e s'
def SX(m:Bool)(X:Cx)(st:Stmt)(f:Xf):Prop:=PS X st (C5 m X f)
noncomputable def qJ:Sl->Bool
 |.own _=>true
 |_=>false
@[simp] theorem A7(d:D):qJ (.fz d)=false:=rfl
@[simp] theorem A6:qJ .un=false:=rfl
noncomputable def nk:Nat->Dv->Bool
 |_,[]=>true
 | 0,_::r=>r.all fun s=>!qJ s
 |n+1,s::r=>!qJ s&&nk n r
@[simp] theorem yI(s:Sl)(r:Dv):nk 0 (s::r)=r.all fun s=>!qJ s:=rfl
@[simp] theorem yJ(n:Nat)(s:Sl)(r:Dv):nk (n+1) (s::r)=(!qJ s&&nk n r):=rfl
noncomputable def lU(i:Nat)(ft:Dv->Option Bool):Dv->Option Bool:=fun δ=>if nk i δ = true then ft (vF i δ)else none
theorem lE:∀(i:Nat) (δ:Dv),nk i δ = true->∀(j:Nat) (ds:Oc),δ[j]? = some (.own ds)->j=i
 |_,[],_,j,ds,e=>by simp at e
 | 0,s::r,h,0,ds,e=>rfl
 | 0,s::r,h,j+1,ds,e=>by
  have:=List.all_eq_true.mp h (.own ds) (List.mem_of_getElem? (by simpa using e));cases this
 |i+1,s::r,h,0,ds,e=>by
  have h:=(Bool.and_eq_true_iff.mp h).1;have e:s=.own ds:=by simpa using e
  subst e;cases h
 |i+1,s::r,h,j+1,ds,e=>congrArg (· + 1) (lE i r (Bool.and_eq_true_iff.mp h).2 j ds (by simpa using e))
theorem ue{X:Cx}{e:Expr}{ft:Dv->Option Bool}(i:Nat)(h:TV X e ft):TV X e (lU i ft):=
 PT.imp h fun σ H Q q=>by
  obtain⟨H₀,Z₀,Z,δ,b,hh,e,k⟩:=q;unfold lU at e;split at e
  rotate_left
  ·cases e
  rename_i hso;unfold vF at e;split at e
  ·rename_i ds q
   obtain⟨a,xs,h1,h2,h3,h4,h5⟩:=hh.ow i ds q;have hl:i < δ.length:=(List.getElem?_eq_some_iff.mp q).1;have sz:Same Z (upd Z a (.lst xs)):=cE h3;have hh1:Hold X.K H₀ Z₀ (upd Z a (.lst xs)) (δ.set i (.fz (.list ds))) σ H:=by
    refine⟨fun b o q=>?_,hh.h0,hh.z0.trans sz,fun b hb=>?_,by simp[hh.len],fun j d q=>?_,fun j d q=>?_,fun j k d1 d2 b hjk q1 q2=>?_,(hh.fr.same sz).put (fun _ z=>nomatch z) fun _ _=>rfl,hh.nf.upd a⟩
    ·by_cases hb:b=a
     ·subst hb;rw[al]at q;cases q;exact h4
     ·rw[ap hb]at q;exact hh.zh b o q
    ·rw[ap (fun z=>hb (by rw[z];exact h2))];exact hh.zb b hb
    ·by_cases hj:i=j
     ·subst hj
      rw[List.getElem?_set_self hl]at q;cases q;exact⟨.ref a,h1,.lst (SqL.of al) (h5.same sz)⟩
     ·rw[List.getElem?_set_ne hj]at q
      obtain⟨v,g1,g2⟩:=hh.fz j d q;exact⟨v,g1,g2.same sz⟩
    ·by_cases hj:i=j
     ·subst hj
      rw[List.getElem?_set_self hl]at q;cases q
     ·rw[List.getElem?_set_ne hj]at q
      obtain⟨b,ws,g1,g2,g3,g4,g5⟩:=hh.own j d q;have:b≠a:=fun z=>by subst z;rename_i q0;exact hh.dja i j _ d b hj q0 q h1 g1
      exact⟨b,ws,g1,g2,by rw[ap this];exact g3,g4,g5.same sz⟩
    ·by_cases hj:i=j
     ·subst hj
      rw[List.getElem?_set_self hl]at q1;cases q1
     ·by_cases hk:i=k
      ·subst hk
       rw[List.getElem?_set_self hl]at q2;cases q2
      ·rw[List.getElem?_set_ne hj]at q1
       rw[List.getElem?_set_ne hk]at q2;exact hh.dja j k d1 d2 b hjk q1 q2
   refine⟨H₀,Z₀,_,_,b,hh1,e,fun Z2 H2 hh2 t2=>?_⟩
   have zl:Same Z (fun c=>if c=a then none else Z2 c):=fun c o q=>by
    have hc:c≠a:=aK q h3;show(if c=a then none else Z2 c)=some o;rw[if_neg hc];exact t2 c o (sz c o q)
   have back:Hold X.K H₀ Z₀ (fun c=>if c=a then none else Z2 c) δ σ H2:=by
    refine⟨fun b o q=>?_,hh2.h0,hh.z0.trans zl,fun b hb=>?_,hh.len,fun j d q=>?_,fun j d q=>?_,hh.dja,hh.fr.same zl,fun b o xs q=>by
     have q:(if b=a then none else Z2 b)=_:=q;split at q
     ·cases q
     ·exact hh2.nf b o xs q⟩
    ·have q:(if b=a then none else Z2 b)=some o:=q
     split at q
     ·cases q
     ·exact hh2.zh b o q
    ·show(if b=a then none else Z2 b)=_
     rw[if_neg (fun z=>hb (by rw[z];exact h2))]
     exact hh2.zb b hb
    ·obtain⟨v,g1,g2⟩:=hh.fz j d q
     exact⟨v,g1,g2.same zl⟩
    ·by_cases hj:i=j
     ·subst hj
      rename_i q0;rw[q0]at q;cases q;refine⟨a,.lst xs,h1,h2,by simp,hh2.zh a _ (t2 a _ al),.lst (h5.same zl)⟩
     ·exact absurd (lE i δ hso j d q) (Ne.symm hj)
   exact k _ H2 back zl
  ·exact⟨H₀,Z₀,Z,_,b,hh,e,k⟩
@[simp] noncomputable def CB(f:Dv->Option D)(u:Dv->Option Str):Dv->Option Str:=fun δ=>(f δ).bind fun _=>u δ
@[simp] noncomputable def rP(i:Nat)(f:Dv->Option D):Sf:=fun δ=>(f δ).bind fun v=>(vd v).bind fun es=>(q8 δ[i]?).bind fun ds=>if ds.length+es.length<=sizeLine then some (.nx,δ.set i (.ow (ds++es)))else none
theorem nZ(l:Addr)(items:Array Value)(n:Nat)(b:Addr)(items2:Array Value)(n2:Nat)(sl:Array (Option Value))(hc0:¬(!items.isEmpty&&Builtin.List.listTooLong (items.size+items2.size))=true)(hc1:items.size<=sizeLine)(hs2:items.size+items2.size<=sizeLine+1):
  Meets (Builtin.«list.extend» ⟨[.ref l,.ref b],[]⟩) (fun _ R s=>s.heap.get? l=some { cls:=.type "list",dict:=none,data:=.seq items n,slots:=#[] }/\s.heap.get? b=some { cls:=.type "list",dict:=none,data:=.seq items2 n2,slots:=sl }/\R (.ok (.ret Value.none)) { s with heap:=s.heap.update l (Obj.mapSeq fun x=>x++items2),toks:=s.toks }):=
 .of_wp fun prog w A R s h=>by
  obtain⟨hp,g,d,tk,os⟩:=s;obtain⟨hl,hb,h⟩:=h;have f1:=AutoSeq1.idx_int;have f2:=AutoSeq1.sub_tuple_tuple;have f3:=AutoSeq1.sub_list_list;have f4:=AutoSeq1.sub_tuple_list;have f5:=AutoSeq1.sub_list_tuple;have hz':(items++items2).size<=sizeLine+1:=by rw[Array.size_append];exact hs2
  wp_walk using (wpAny_updateSeq hl rfl (hz:=hc1) (_hz':=hz')),AutoSeq1.wpAny_loadPart' hl,AutoSeq1.wpAny_loadPart' hb;exact⟨_,rfl,h⟩
def zt(K:Fg):V->List V->Hp->VK->Prop:=fun x vs H Q=>∃l b xs zs,x=.ref l/\vs=[.ref b]/\H l=some (.lst xs)/\SqL K H b zs/\xs.length+zs.length<=sizeLine/\Q .non (upd H l (.lst (xs++zs)))
section
variable{X:Cx}
theorem u8:C0 X "list.extend" (zt X.K):=by
 intro pins s σ H x vs v us Q I rx rv h;obtain⟨l,b,xs,zs,rfl,rfl,hH,hB,hz,q⟩:=h;cases rx;obtain⟨u,rfl,ru⟩:=rv.one;cases ru;obtain⟨z,its,n,r,hl,e⟩:=I.lstM hH;obtain⟨its2,r2,⟨o2,n2,e2,hc,hd,hs⟩,z2⟩:=I.list hB;have hl2:=r2.length;obtain⟨c2,d2,dt2,sl2⟩:=o2;dsimp only at hc hd hs;subst hc hd hs;have hsz:its.toArray.size+its2.toArray.size<=sizeLine:=by rw[List.size_toArray,List.size_toArray];omega
 have hlong:¬(!its.toArray.isEmpty&&Builtin.List.listTooLong (its.toArray.size+its2.toArray.size))=true:=by
  rw[sB hsz,Bool.and_false];exact Bool.false_ne_true
 refine call_meets F.slot_list_extend ⟨_,e,rfl⟩ F.entry_list_extend (F.args_list_extend_2 _ _)
  (nZ l its.toArray n b its2.toArray n2 sl2 hlong (by rw[List.size_toArray];omega) (by omega)) ⟨e,e2,?_⟩
 refine⟨.non,_,I.lset (its':=its++its2) hH e (by simp) (r.append r2) ?_,rfl,q⟩;rw[List.length_append];omega
end
section
variable{X:Cx}{e:Expr}{f:Dv->Option D}{p pos apos:Pos}
theorem oB(i:Nat){x:Str}{cpos:Pos}(hv':EV X e f)(hN:X.N[i]? = some x:=by rfl)(hv:wz X.env.scope x:=by first|exact Or.inl rfl|exact Or.inr (Or.inl rfl)|exact Or.inr (Or.inr rfl))(hd:(x==("__debug__":Str))=false:=by decide)(hcd:(x==("__classdict__":Str))=false:=by decide)
  (hbase:attributeBase (.Name x p) "extend" X.env (eval (.Name x p) X.env)=eval (.Name x p) X.env:=by rfl)
  (hfew:((backTo cpos (starEach [e] X.env)).all (fun x=>!x.1)&&(backToKw cpos (keywordEach [] X.env)).all (fun x=>x.1.isSome)
   && decide ([e].length+([]:List Keyword).length+(if([]:List Keyword).isEmpty then 0 else 1)<30))=true:=by rfl)
  (hline:(apos.endLine==cpos.line)=true:=by rfl) (hs:starEach [e] X.env=(false,eval e X.env)::starEach [] X.env:=by rfl) (hplain:(backTo cpos (starEach [] X.env)).any (·.1)=false:=by rfl)
  (hsw:swapsWith (.Call (.Attribute (.Name x p) "extend" apos) [e] [] cpos) none pos.line X.env=pure false:=by rfl):SV X (.Expr (.Call (.Attribute (.Name x p) "extend" apos) [e] [] cpos) pos) (rP i f):=
 PS.imp (oN (v9 PySem.F.plainAttrs_list PySem.F.slot_list_extend PySem.F.type_list_extend u8 (fY hN hv hd hcd) (cP hv' eK hs) hbase hfew hline hs hplain) hsw) fun D σ H h=>by
  obtain⟨H₀,Z₀,Z,δ,r,hh,e,k⟩:=h;obtain⟨v,e1,e⟩:=bind_some e;obtain⟨es,e3,e⟩:=bind_some e;obtain⟨ds,e2,e⟩:=bind_some e;by_cases hl:ds.length+es.length<=sizeLine
  ·rw[if_pos hl]at e
   cases e;cases v with
   |list es'=>
    cases e3;obtain⟨a,xs,h1,h4,h5⟩:=jW hh e2;refine⟨_,h1,.inl ⟨rfl,xs,SqL.of h4⟩,H₀,Z₀,Z,δ,_,hh,e1,fun w Z1 H1 hh1 t1 r1=>?_⟩
    obtain⟨a',xs',g1,g4,g5⟩:=jW hh1 e2;rw[h1]at g1;cases g1;cases r1 with
    |lst q1 q2=>
     exact⟨a,_,xs',_,rfl,rfl,g4,SqL.same q1 hh1.zh,by rw[g5.length,q2.length];exact hl,k σ _ Z1 (hh1.chg (xs:=xs') (nt e2) h1 (g5.append q2)) t1⟩
   |_=>cases e3
  ·rw[if_neg hl]at e;cases e
end
theorem qB{α:Type}:∀{us:List α},us.length=1->∃a,us=[a]
 |[a],_=>⟨a,rfl⟩
theorem nI{α:Type}{us:List α}(h:us.length=2):∃a b,us=[a,b]:=by
 cases us with
 |nil=>cases h
 |cons a r=>
  obtain⟨b,rfl⟩:=qB (Nat.succ.inj h);exact⟨a,b,rfl⟩
theorem B1{α:Type}{us:List α}(h:us.length=3):∃a b c,us=[a,b,c]:=by
 cases us with
 |nil=>cases h
 |cons a r=>
  obtain⟨b,c,rfl⟩:=nI (Nat.succ.inj h);exact⟨a,b,c,rfl⟩
def DefIn(K:PySem.W.Frag)(x y:Str)(st:Stmt):Prop:=∃f fd,PySem.W.nsIn K mainGlobals x=some (some (.ref f))/\FunV K y y st f fd .none/\PySem.W.keepIn K (.ref f)=true
def bu(x:Str)(st:Stmt)(ps:List Str):Prop:=∀(kV doc pm:Value) (an:Option Addr) (cdv ct:Value) (us:List Value),us.length=ps.length->bindArgs (PySem.W.fnOf x x (cR st) (cg st) (ag st) .none kV doc pm an cdv ct) ⟨us,[]⟩=pure (ps.zip us)
section
variable{P:Program}{w:World}{K:PySem.W.Frag}{mg:Str->Option Value}{base h:Heap}{x y:Str}{st:Stmt}{k:Nat}{ps:List Str}
theorem DefIn.mk{f:Addr}{oc:Value}{od an:Option Addr}{osl:Array (Option Value)}{kV doc pm cdv ct:Value}(a:PySem.W.nsIn K mainGlobals x=some (some (.ref f)))(l:K.lookup f=some ⟨oc,od,.func (PySem.W.fnOf y y (cR st) (cg st) (ag st) .none kV doc pm an cdv ct),osl⟩)
  (c:PySem.W.codeIn K cdv y=true) (k:PySem.W.keepIn K (.ref f)=true):DefIn K x y st:=⟨_,_,a,pj l c k,k⟩
variable(D:DefIn K x y st)(X:K.In h)(G:h.Ns mainGlobals mg)(b:bu y st ps)
include D X G
include b
theorem DefIn.cal{g:List VL.D->Option VL.D}(ok:∀f fd,FunV K y y st f fd .none->FnOk P w K mg base fT k f fd ps (jo K g)):Cal P w K mg base x k g []:=by
 obtain⟨f,fd,a,F,hk⟩:=D;exact Cal.mk0 (ok f fd F) (PySem.W.mg_of X G a) hk (F.binds b)
end
end VL
namespace VL
open PySem PySem.Spec PyProof.Rows L2
open AutoSeq1 (wpAny_loadPart')
end VL
namespace VL
open PySem PySem.Spec PyProof.Rows L2
noncomputable def Dj(z:Bool):D->D->Option D
 |.bool a,.bool b=>some (.bool (z != (a==b)))
 |_,_=>none
@[simp] theorem Ad(z a b:Bool):Dj z (.bool a) (.bool b)=some (.bool (z != (a==b))):=rfl
end VL
namespace L2
open PySem PySem.Spec PyProof.Rows
section
variable{κ:Type}[DecidableEq κ]
noncomputable def eV(kvs:List (κ × V))(k:κ):Option V:=(kvs.find? fun kv=>decide (kv.1=k)).map (·.2)
noncomputable def fX(kvs:List (κ × V))(k:κ)(v:V):List (κ × V):=
 if(kvs.any fun kv=>decide (kv.1=k))=true then kvs.map (fun kv=>if kv.1=k then(kv.1,v)else kv)else kvs++[(k,v)]
theorem dN{p:κ × V}{r:List (κ × V)}{k:κ}(e:p.1=k):eV (p::r) k=some p.2:=by simp[eV,List.find?_cons,e]
theorem dO{p:κ × V}{r:List (κ × V)}{k:κ}(e:¬p.1=k):eV (p::r) k=eV r k:=by simp[eV,List.find?_cons,e]
theorem lj(k:κ):∀kvs:List (κ × V),(kvs.any fun kv=>decide (kv.1=k))=(eV kvs k).isSome
 |[]=>rfl
 |p::r=>by
  rw[List.any_cons];by_cases e:p.1=k
  ·simp only[dN e,decide_eq_true e,Bool.true_or,Option.isSome_some]
  ·rw[dO e,decide_eq_false e,Bool.false_or];exact lj k r
theorem gL(kvs:List (κ × V))(k:κ)(v:V):(fX kvs k v).length<=kvs.length+1:=by
 unfold fX;split
 ·rw[List.length_map];omega
 ·rw[List.length_append,List.length_cons,List.length_nil];omega
theorem RelO.isSome_eq{o:Option V}{u:Option Value}(r:RelO o u):o.isSome=u.isSome:=by
 cases o with
 |none=>cases u with
  |none=>rfl
  |some _=>exact(show False from r).elim
 |some _=>cases u with
  |none=>exact(show False from r).elim
  |some _=>rfl
theorem RelO.getD{o:Option V}{u:Option Value}{d:V}{d':Value}(r:RelO o u)(rd:RelV d d'):RelV (o.getD d) (u.getD d'):=by
 cases o with
 |none=>cases u with
  |none=>exact rd
  |some _=>exact(show False from r).elim
 |some _=>cases u with
  |none=>exact(show False from r).elim
  |some _=>exact r
theorem KV.val{kvs:List (κ × V)}{vs:List (κ × Value)}(r:KV kvs vs)(k:κ):RelO (eV kvs k) (valueAt vs k):=by
 unfold KV at r
 induction r with
 |nil=>exact True.intro
 | @cons p q ps qs h t ih=>
  obtain⟨h1,h2⟩:=h;by_cases e:p.1=k
  ·have e':q.1=k:=h1.symm.trans e
   have b:valueAt (q::qs) k=some q.2:=by simp[valueAt,List.find?_cons,e']
   rw[dN e,b];exact h2
  ·have e':¬q.1=k:=fun z=>e (h1.trans z)
   have b:valueAt (q::qs) k=valueAt qs k:=by simp[valueAt,List.find?_cons,e']
   rw[dO e,b];exact ih
theorem KV.any{kvs:List (κ × V)}{vs:List (κ × Value)}(r:KV kvs vs)(k:κ):(kvs.any fun kv=>decide (kv.1=k))=vs.any fun kv=>decide (kv.1=k):=by
 unfold KV at r
 induction r with
 |nil=>rfl
 |cons h t ih=>rw[List.any_cons,List.any_cons,ih,h.1]
theorem KV.repl{kvs:List (κ × V)}{vs:List (κ × Value)}(r:KV kvs vs)(k:κ){y:V}{u:Value}(ry:RelV y u):
  KV (kvs.map fun kv=>if kv.1=k then(kv.1,y)else kv) (vs.map fun kv=>if kv.1=k then(kv.1,u)else kv):=by
 unfold KV at r ⊢
 induction r with
 |nil=>exact .nil
 | @cons p q ps qs h t ih=>
  rw[List.map_cons,List.map_cons];refine .cons ?_ ih;obtain⟨h1,h2⟩:=h;by_cases e:p.1=k
  ·rw[if_pos e,if_pos (h1.symm.trans e)];exact⟨h1,ry⟩
  ·rw[if_neg e,if_neg (fun z=>e (h1.trans z))];exact⟨h1,h2⟩
theorem KV.put{kvs:List (κ × V)}{vs:List (κ × Value)}(r:KV kvs vs)(k:κ){y:V}{u:Value}(ry:RelV y u):KV (fX kvs k y) (stored vs k u):=by
 unfold fX stored;rw[r.any k];by_cases e:(vs.any fun kv=>decide (kv.1=k))=true
 ·rw[if_pos e,if_pos e];exact r.repl k ry
 ·rw[if_neg e,if_neg e];exact Paired.snoc r ⟨rfl,ry⟩
theorem KV.length{kvs:List (κ × V)}{vs:List (κ × Value)}(r:KV kvs vs):kvs.length=vs.length:=Paired.length r
end
theorem mz{P:Program}{w:World}{k:ak}{u:Value}(r:RelV (kV k) u):(aM P w).is k u=true:=by
 cases k with
 |inl i=>obtain⟨t,e⟩:=(show ∃t,u=Value.int i t from r);subst e;exact lY P w i t
 |inr x=>obtain⟨t,e⟩:=(show ∃t,u=Value.str x t from r);subst e;exact lX P w x t
theorem j1{P:Program}{w:World}:∀{ks:List ak} {us:List Value},Vals (ks.map kV) us->ItemsAre (aM P w) ks us
 |[],_,r=>by rw[List.map_nil]at r;cases r;exact .nil
 |k::ks,_,r=>by
  rw[List.map_cons]at r;cases r with
  |cons h t=>exact .cons (mz h) (j1 t)
abbrev KT(H:Hp):List (List ak×V)->List (List ak×Addr×Value)->Prop:=Paired fun p q=>p.1=q.1/\H q.2.1=some (.tup (p.1.map kV))/\RelV p.2 q.2.2
theorem KT.val{H:Hp}{kvs:List (List ak×V)}{xs:List (List ak×Addr×Value)}(r:KT H kvs xs)(k:List ak):RelO (eV kvs k) ((atKey xs k).map (·.2)):=by
 induction r with
 |nil=>exact True.intro
 | @cons p q ps qs h t ih=>
  obtain⟨h1,_,h2⟩:=h;by_cases e:p.1=k
  ·have e':q.1=k:=h1.symm.trans e
   have b:atKey (q::qs) k=some q.2:=by simp[atKey,List.find?_cons,e']
   rw[dN e,b];exact h2
  ·have e':¬q.1=k:=fun z=>e (h1.trans z)
   have b:atKey (q::qs) k=atKey qs k:=by simp[atKey,List.find?_cons,e']
   rw[dO e,b];exact ih
theorem KT.repl{H:Hp}{kvs:List (List ak×V)}{xs:List (List ak×Addr×Value)}(r:KT H kvs xs)(k:List ak){y:V}{u:Value}(ry:RelV y u):
  KT H (kvs.map fun kv=>if kv.1=k then(kv.1,y)else kv) (xs.map (putAt k u)):=by
 induction r with
 |nil=>exact .nil
 | @cons p q ps qs h t ih=>
  rw[List.map_cons,List.map_cons];refine .cons ?_ ih;obtain⟨h1,h2,h3⟩:=h;unfold putAt;by_cases e:p.1=k
  ·rw[if_pos e,if_pos (h1.symm.trans e)];exact⟨h1,h2,ry⟩
  ·rw[if_neg e,if_neg (fun z=>e (h1.trans z))];exact⟨h1,h2,h3⟩
theorem KT.put{H:Hp}{kvs:List (List ak×V)}{xs:List (List ak×Addr×Value)}(r:KT H kvs xs)(k:List ak){b:Addr}{y:V}{u:Value}(hb:H b=some (.tup (k.map kV)))(ry:RelV y u):
  KT H (fX kvs k y) (storedH xs k b u):=by
 have e:(kvs.any fun kv=>decide (kv.1=k))=(atKey xs k).isSome:=by
  rw[lj,(r.val k).isSome_eq,Option.isSome_map]
 unfold fX storedH;rw[e];by_cases q:(atKey xs k).isSome=true
 ·rw[if_pos q,if_pos q];exact r.repl k ry
 ·rw[if_neg q,if_neg q];exact Paired.snoc r ⟨rfl,hb,ry⟩
theorem KT.keeps{H H':Hp}{kvs:List (List ak×V)}{xs:List (List ak×Addr×Value)}(r:KT H kvs xs)(ht:∀b ys,H b=some (.tup ys)->H' b=some (.tup ys)):KT H' kvs xs:=
 Paired.mapP r fun _ _ z=>⟨z.1,ht _ _ z.2.1,z.2.2⟩
section
variable{P:Program}{w:World}{H:Hp}{h:Heap}{a:Addr}
theorem vY{u:HO}(ok:HOk P w H h)(e:Rd H a u):ObjOk P w H h a u:=e.ok ok
theorem jb{kvs:List (ak×V)}(ok:HOk P w H h)(e:Rd H a (.dK kvs)):kvs.length<=sizeLine/\(a==sysModules)=false/\∃vs,KV kvs vs/\h.DictOf (aM P w) a vs:=
 show ObjOk P w H h a (.dK kvs)from vY ok e
theorem AD{kvs:List (ak×V)}(ok:HOk P w H h)(e:H a=some (.dK kvs)):kvs.length<=sizeLine/\(a==sysModules)=false/\∃vs,KV kvs vs/\h.DictOf (aM P w) a vs:=jb ok (.inl e)
theorem iN{ks:List ak}(ok:HOk P w H h)(e:H a=some (.tup (ks.map kV))):(tupleKind (aM P w)).is h ks a:=by
 obtain⟨_,its,r,⟨o,h1,h2,n,h3⟩,_⟩:=(show ObjOk P w H h a (.tup (ks.map kV))from ok a _ e);exact⟨o,its.toArray,n,h1,h2,h3,by simpa using j1 r⟩
theorem j8{kvs:List (List ak×V)}(ok:HOk P w H h)(e:Rd H a (.dT kvs)):kvs.length<=sizeLine/\(a==sysModules)=false /\
  ∃xs,KT H kvs xs/\h.DictOfH (tupleKind (aM P w)) a xs:=by
 obtain⟨z,y,xs,r,o,es,ep,h1,h2,h3,h4,h5⟩:=(show ObjOk P w H h a (.dT kvs)from vY ok e);refine⟨z,y,xs,r,o,es,ep,h1,h2,h3,h4,fun x hx=>?_,h5⟩
 have all:∀{l:List (List ak×V)} {m:List (List ak×Addr×Value)},KT H l m->∀x∈m,(tupleKind (aM P w)).is h x.1 x.2.1:=by
  intro l m q
  induction q with
  |nil=>intro x hx;exact nomatch hx
  | @cons p q ps qs hq t ih=>
   intro x hx;rcases List.mem_cons.mp hx with e|hx
   ·subst e
    exact iN ok (by rw[<-hq.1];exact hq.2.1)
   ·exact ih x hx
 exact all r x hx
theorem AC{kvs:List (List ak×V)}(ok:HOk P w H h)(e:H a=some (.dT kvs)):kvs.length<=sizeLine/\(a==sysModules)=false /\
  ∃xs,KT H kvs xs/\h.DictOfH (tupleKind (aM P w)) a xs:=j8 ok (.inl e)
end
def DGet(H:Hp)(a:Addr)(y:V)(r:Option V):Prop:=
 (∃kvs k,Rd H a (.dK kvs)/\y=kV k/\r=eV kvs k)\/∃kvs k b,Rd H a (.dT kvs)/\y=.ref b/\H b=some (.tup (k.map kV))/\r=eV kvs k
def DPut(H:Hp)(a:Addr)(y v:V)(H':Hp):Prop:=
 (∃kvs k,H a=some (.dK kvs)/\y=kV k/\kvs.length<sizeLine/\H'=upd H a (.dK (fX kvs k v))) \/
 ∃kvs k b,H a=some (.dT kvs)/\y=.ref b/\H b=some (.tup (k.map kV))/\kvs.length<sizeLine/\H'=upd H a (.dT (fX kvs k v))
theorem DGet.k{H:Hp}{a:Addr}{kvs:List (ak×V)}{k:ak}(e:H a=some (.dK kvs)):DGet H a (kV k) (eV kvs k):=.inl ⟨kvs,k,.inl e,rfl,rfl⟩
theorem DPut.k{H:Hp}{a:Addr}{kvs:List (ak×V)}{k:ak}{v:V}(e:H a=some (.dK kvs))(hl:kvs.length<sizeLine):DPut H a (kV k) v (upd H a (.dK (fX kvs k v))):=.inl ⟨kvs,k,e,rfl,hl,rfl⟩
section
variable{X:Cx}{pins:List (Addr×Obj)}{σ:St}{H:Hp}{s:Shared}{a:Addr}{y v:V}{u r:Value}{o:Option V}{A:Around}{E:Value->Shared->Prop}
theorem Inv.big(I:Inv X pins σ H s):sysModules<s.heap.objs.size:=by
 have h:mainGlobals<s.heap.objs.size:=(I.mod.glob.keeps I.bk).lt;exact Nat.lt_trans (by decide) h
theorem qS{Q:Value->Shared->Prop}(hu:A.units+1<cLine)(I:Inv X pins σ H s)(g:DGet H a y (some v))(ry:RelV y u)(h:∀w' s',Inv X pins σ H s'->RelV v w'->Q w' s'):
  wpAny (model X.prog X.w) A (getItem (.ref a) u) Q E s:=by
 rcases g with⟨kvs,k,e,ey,l⟩|⟨kvs,k,b,e,ey,eb,l⟩
 ·subst ey
  obtain⟨z,hd,vs,rel,dd⟩:=jb I.hok e;obtain⟨w',hw,rw'⟩:=RelO.some_of (v:=v) (o:=valueAt vs k) (by rw[l];exact rel.val k);exact wpAny_getItem_of (mz ry) dd.mapOf hw (h w' _ (I.tok _) rw')
 ·subst ey
  cases(show u=Value.ref b from ry);obtain⟨z,hd,xs,rel,dd⟩:=j8 I.hok e;obtain⟨w',hw,rw'⟩:=RelO.some_of (v:=v) (o:=(atKey xs k).map (·.2)) (by rw[l];exact rel.val k);obtain⟨p,hp,hp2⟩:=Option.map_eq_some_iff.mp hw;refine wpAny_getItem_heap (tupleKind_room_in1 hu) (iN I.hok eb) dd hp ?_;rw[hp2];exact h w' _ (I.tok _) rw'
theorem AI{Q:Value->Shared->Prop}(hu:A.units+1<cLine)(I:Inv X pins σ H s)(g:DGet H a y o)(ry:RelV y u)(h:∀s',Inv X pins σ H s'->Q (.bool o.isSome) s'):
  wpAny (model X.prog X.w) A (compareOp .In u (.ref a)) Q E s:=by
 rcases g with⟨kvs,k,e,ey,l⟩|⟨kvs,k,b,e,ey,eb,l⟩
 ·subst ey
  obtain⟨z,hd,vs,rel,dd⟩:=jb I.hok e;refine wpAny_in_of (mz ry) hd dd.mapOf ?_;rw[<-(rel.val k).isSome_eq,<-l];exact h _ (I.tok _)
 ·subst ey
  cases(show u=Value.ref b from ry);obtain⟨z,hd,xs,rel,dd⟩:=j8 I.hok e;refine wpAny_in_heap (tupleKind_room_in1 hu) (iN I.hok eb) hd dd ?_;have q:=(rel.val k).isSome_eq;rw[Option.isSome_map]at q;rw[<-q,<-l];exact h _ (I.tok _)
theorem pF{h':Heap}{t':Nat}{ob:HO}(I:Inv X pins σ H s)(mu:AT (H a))(hs:Heap.SameBut a s.heap h')(he:∃q,h'.get? a=some q)(new:ObjOk X.prog X.w (upd H a ob) h' a ob):
  Inv X pins σ (upd H a ob) { s with heap:=h',toks:=t' }:=
 I.write (x:=a) (e:=a) mu (.inl rfl) (fun b q hb z=>(hs.2 b hb).trans z) he new
theorem yn{P:Program}{w:World}{H':Hp}{h':Heap}{kvs:List (ak×V)}{vs:List (ak×Value)}(z:kvs.length<=sizeLine)(hd:(a==sysModules)=false)(rel:KV kvs vs)(dd:h'.DictOf (aM P w) a vs):
  ObjOk P w H' h' a (.dK kvs):=⟨z,hd,vs,rel,dd⟩
theorem qR{H':Hp}{Q:Unit->Shared->Prop}(hu:A.units+1<cLine)(I:Inv X pins σ H s)(g:DPut H a y v H')(ry:RelV y u)(rv:RelV v r)(h:∀s',Inv X pins σ H' s'->Q () s'):
  wpAny (model X.prog X.w) A (setItem (.ref a) u r) Q E s:=by
 rcases g with⟨kvs,k,e,ey,l,eH⟩|⟨kvs,k,b,e,ey,eb,l,eH⟩
 ·subst ey eH
  obtain⟨z,hd,vs,rel,dd⟩:=AD I.hok e;have hz:vs.length<=sizeLine:=by rw[<-rel.length];exact z
  have hl:(fX kvs k v).length<=sizeLine:=by have:=gL kvs k v;omega
  refine wpAny_setItem_pairs (hsz:=hz) (mz ry) dd fun h' dd' hs=>h _ ?_
  have he:∃q,h'.get? a=some q:=let ⟨q,_,_,hq,_⟩:=dd'; ⟨q,hq⟩
  exact pF I (by rw[e];exact True.intro) hs he (yn hl hd (rel.put k rv) dd')
 ·subst ey eH
  cases(show u=Value.ref b from ry);obtain⟨z,hd,xs,rel,dd⟩:=AC I.hok e;have hz:xs.length<=sizeLine:=by rw[<-Paired.length rel];exact z
  have hl:(fX kvs k v).length<=sizeLine:=by have:=gL kvs k v;omega
  refine wpAny_setItem_heap (hsz:=hz) (tupleKind_room_in1 hu) (iN I.hok eb) dd fun h' dd' hs=>h _ ?_
  obtain⟨q,es,ep,hq,h2,h3,h4,_,h5⟩:=dd';refine pF I (by rw[e];exact True.intro) hs ⟨q,hq⟩ ⟨hl,hd,_,(rel.put k eb rv).keeps fun c ys ec=>?_,q,es,ep,hq,h2,h3,h4,h5⟩
  rw[ap (zR ec e (fun z=>nomatch z))];exact ec
end
def yG(i:Expr):Prop:=∀ov iv,subscripted i false ov iv=operate [ov,iv] (getItem ov iv)
theorem uq{prog:Program}{w:World}{A:Around}{E:Value->Shared->Prop}{s:Shared}{env:Env}{value slice:Expr}{pos:Pos}{T id:String}{Q:Value->Shared->Prop}
  (hl:typeLookup (.type T) "__getitem__" = pure (some (.builtin id))) (hs:yG slice)
  (h:wpAny (model prog w) A (eval value env) (fun o s₁=>wpAny (model prog w) A (eval slice env) (fun i s₂=>s₂.TypeIs o T/\wpAny (model prog w) A (getItem o i) Q E s₂) E s₁) E s) :
  wpAny (model prog w) A (eval (.Subscript value slice pos) env) Q E s:=by
 refine Subscript_ (wpAny_mono h (fun o s₁ h₁=>wpAny_mono h₁ (fun i s₂ h₂=>?_) fun _ _ x=>x) fun _ _ x=>x)
 obtain⟨hT,h₂⟩:=h₂;unfold subscriptTail;refine wpAny_bind ?_;rw[getitemInPython_of_ne hT.not_modules];refine wpAny_bind (wpAny_specialOf hT hl ?_);have fin:wpAny (model prog w) A (subscripted slice false o i) (fun r s₃=>wpAny (model prog w) A (letTemporaryGo value o r >>= fun _=>pure r) Q E s₃) E s₂:=by
  rw[hs o i];exact wpAny_operating (wpAny_mono h₂ (fun r s₃ h₃=>wpAny_bind (wpAny_letTemporaryGo (wpAny_pure h₃))) fun _ _ x=>x)
 first
  |exact wpAny_pure (wpAny_bind fin)
  |exact wpAny_bind (wpAny_pure (wpAny_bind fin))
  |exact wpAny_bind fin
theorem mM{X:Cx}{pins:List (Addr×Obj)}{σ:St}{H:Hp}{s:Shared}{a:Addr}{y:V}{o:Option V}(I:Inv X pins σ H s)(g:DGet H a y o):s.TypeIs (.ref a) "dict":=by
 rcases g with⟨kvs,k,e,_,_⟩|⟨kvs,k,b,e,_,_,_⟩
 ·obtain⟨_,_,vs,_,dd⟩:=jb I.hok e
  exact dd.typeIs
 ·obtain⟨_,_,xs,_,dd⟩:=j8 I.hok e
  exact dd.typeIs
def ze(td ty:TE):TE:=fun σ H Q=>td σ H fun x H1=>ty σ H1 fun y H2=>∃a v,x=.ref a/\DGet H2 a y (some v)/\Q v H2
def zp(td ty tv:TE):TS:=fun D σ H=>tv σ H fun v H1=>td σ H1 fun x H2=>ty σ H2 fun y H3=>∃a H4,x=.ref a/\DPut H3 a y v H4/\D.nx σ H4
section
variable{X:Cx}{o i e value:Expr}{pos pos' tpos:Pos}{td ty tv:TE}
theorem uO(hu:X.A.units+1<cLine)(ho:PE X o td)(hi:PE X i ty)(hs:yG i):PE X (.Subscript o i pos) (ze td ty):=by
 intro pins s σ H Q I h;refine uq PySem.F.slot_dict_getitem.lookup hs (aY (ho pins s σ H _ I h) fun u s1 ⟨x,H1,I1,rx,q1⟩=>aY (hi pins s1 σ H1 _ I1 q1) fun iv s2 ⟨y,H2,I2,ry,a,v,ex,g,q2⟩=>?_)
 subst ex;obtain rfl:u=Value.ref a:=rx;exact⟨mM I2 g,qS hu I2 g ry fun w' s3 I3 rw'=>⟨v,H2,I3,rw',q2⟩⟩
theorem uG(hu:X.A.units+1<cLine)(ho:PE X o td)(hi:PE X i ty)(hv:PE X value tv)(hs:swapsWith value (some (.Subscript o i pos')) pos.line X.env=pure false):
  PS X (.Assign [.Subscript o i pos'] value pos) (zp td ty tv):=by
 intro pins s σ H D I h;refine wpAny_Assign_Subscript (aY (hv pins s σ H _ I h) fun r s1 ⟨v,H1,I1,rv,q1⟩=>aY (ho pins s1 σ H1 _ I1 q1) fun u s2 ⟨x,H2,I2,rx,q2⟩=>aY (hi pins s2 σ H2 _ I2 q2) fun iv s3 ⟨y,H3,I3,ry,a,H4,ex,g,q3⟩=>?_) hs
 subst ex;obtain rfl:u=Value.ref a:=rx;exact qR hu I3 g ry rv fun s4 I4=>⟨σ,H4,I4,q3⟩
end
theorem tG{P:Program}{w:World}{H:Hp}(h:Heap)(hb:sysModules<h.objs.size):ObjOk P w H (h.push { cls:=.type "dict",data:=.dict #[] }) h.objs.size (.dK []):=
 ⟨Nat.zero_le _,beq_eq_false_iff_ne.mpr (Ne.symm (Nat.ne_of_lt hb)),[],.nil,Heap.DictOf.new h⟩
def wN:TE:=fun _ H Q=>∀p,H p=none->Q (.ref p) (upd H p (.dK []))
section
variable{X:Cx}{pos:Pos}
theorem sk:PE X (.Dict [] [] pos) wN:=fun pins s σ H Q I h=>
 wpAny_Dict_empty ⟨.ref s.heap.objs.size,_,I.laid (a:=s.heap.objs.size) (o:=.dK []) (t':=s.toks) (fun _ _ q=>Heap.get?_push_of_some _ q) (Nat.le_refl _) (tG s.heap I.big),rfl,h _ (I.hok.fresh (Nat.le_refl _))⟩
end
structure M2 (X:Cx) (o:Expr) (m:Str) (apos:Pos) (e f:Expr) (cpos:Pos):Prop where
 base:attributeBase o m X.env (eval o X.env)=eval o X.env
 few:((backTo cpos (starEach [e,f] X.env)).all (fun x=>!x.1)&&(backToKw cpos (keywordEach [] X.env)).all (fun x=>x.1.isSome)
  && decide (([e,f]:List Expr).length+([]:List Keyword).length+(if([]:List Keyword).isEmpty then 0 else 1)<30))=true
 line:(apos.endLine==cpos.line)=true
 trees:backTo cpos (starEach [e,f] X.env)=[(false,eval e X.env),(false,eval f X.env)]
def C3(H:Hp)(a:Addr):Prop:=(∃kvs,Rd H a (.dK kvs))\/∃kvs,Rd H a (.dT kvs)
theorem xY{X:Cx}{pins:List (Addr×Obj)}{σ:St}{H:Hp}{s:Shared}{a:Addr}(I:Inv X pins σ H s)(d:C3 H a):
  s.TypeIs (.ref a) "dict" /\ (∀b,Value.ref a=.ref b->∃ob,s.heap.get? b=some ob/\ob.dict=none)/\(a==sysModules)=false:=by
 rcases d with⟨kvs,e⟩|⟨kvs,e⟩
 ·obtain⟨_,hd,vs,_,dd⟩:=jb I.hok e
  refine⟨dd.typeIs,fun b q=>?_,hd⟩
  cases q;obtain⟨ob,_,_,h1,h2,_⟩:=dd;exact⟨ob,h1,h2.2.1⟩
 ·obtain⟨_,hd,xs,_,dd⟩:=j8 I.hok e
  refine⟨dd.typeIs,fun b q=>?_,hd⟩
  cases q;obtain⟨ob,_,_,h1,h2,_⟩:=dd;exact⟨ob,h1,h2.2.1⟩
section
variable{X:Cx}{pins:List (Addr×Obj)}{σ:St}{H:Hp}{s:Shared}{a:Addr}{y d:V}{u r:Value}{o:Option V}{A:Around}{E:Value->Shared->Prop}
theorem yo{Q:Value->Shared->Prop}(hu:A.units+1<cLine)(I:Inv X pins σ H s)(g:DGet H a y o)(ry:RelV y u)(rd:RelV d r)(h:∀w' s',Inv X pins σ H s'->RelV (o.getD d) w'->Q w' s'):
  wpAny (model X.prog X.w) A (call (.builtin "dict.get") [.ref a,u,r]) Q E s:=by
 rcases g with⟨kvs,k,e,ey,l⟩|⟨kvs,k,b,e,ey,eb,l⟩
 ·subst ey
  obtain⟨z,hd,vs,rel,dd⟩:=jb I.hok e;refine call_meetsIn PySem.F.slot_dict_get dd.typeIs PySem.F.entry_dict_get (PySem.F.args_dict_get_3 _ _ _) (meets_dict_get_default (aM X.prog X.w) a (mz ry) hd r) ⟨_,dd.mapOf,h _ _ (I.tok _) ?_⟩;rw[l];exact(rel.val k).getD rd
 ·subst ey
  cases(show u=Value.ref b from ry);obtain⟨z,hd,xs,rel,dd⟩:=j8 I.hok e;refine call_meetsIn PySem.F.slot_dict_get dd.typeIs PySem.F.entry_dict_get (PySem.F.args_dict_get_3 _ _ _) (meetsH_dict_get_default (tupleKind (aM X.prog X.w)) a b hd r) ⟨tupleKind_room_in1 hu,k,xs,iN I.hok eb,dd,h _ _ (I.tok _) ?_⟩;rw[l];exact(rel.val k).getD rd
end
def wO(td ty tx:TE):TE:=fun σ H Q=>td σ H fun x H1=>∃a,x=.ref a/\C3 H1 a/\ty σ H1 fun y H2=>tx σ H2 fun z H3=>∃o,DGet H3 a y o/\Q (o.getD z) H3
section
variable{X:Cx}{o e f:Expr}{apos cpos:Pos}{td ty tx:TE}
theorem sr(hu:X.A.units+1<cLine)(ho:PE X o td)(he:PE X e ty)(hf:PE X f tx)(m:M2 X o "get" apos e f cpos):PE X (.Call (.Attribute o "get" apos) [e,f] [] cpos) (wO td ty tx):=by
 intro pins s σ H Q I h;refine wpAny_Call_method m.base m.few m.line PySem.F.plainAttrs_dict PySem.F.slot_dict_get PySem.F.type_dict_get (aY (ho pins s σ H _ I h) fun u s1 ⟨x,H1,I1,rx,a,ex,d,q1⟩=>?_)
 subst ex;obtain rfl:u=Value.ref a:=rx;obtain⟨t1,t2,_⟩:=xY I1 d;refine⟨t1,t2,?_⟩;rw[m.trees];refine Calls.callWith_builtin rfl (Calls.evalArgs_plain (Calls.spliced_cons (aY (he pins s1 σ H1 _ I1 q1) fun iv s2 ⟨y,H2,I2,ry,q2⟩=>
  Calls.spliced_cons (aY (hf pins s2 σ H2 _ I2 q2) fun fv s3 ⟨z,H3,I3,rz,ov,g,q3⟩=>Calls.spliced_nil ?_))))
 exact yo hu I3 g ry rz fun w' s4 I4 rw'=>⟨_,H3,I4,rw',q3⟩
end
end L2
namespace Att
open PySem PySem.W PySem.Calls PyProof.Rows
end Att
namespace L2
open PySem PySem.Spec PyProof.Rows
end L2
namespace VL
open PySem PySem.Spec PyProof.Rows L2
noncomputable def kD:D->Option ak
 |.int i=>some (.inl i)
 |.str x=>some (.inr x)
 |_=>none
@[simp] theorem z7(i:Int):kD (.int i)=some (.inl i):=rfl
noncomputable def zm:Option Sl->Option (List (ak×D))
 |some (.own (.d es))=>some es
 |_=>none
@[simp] theorem BE(es:List (ak×D)):zm (some (.od es))=some es:=rfl
noncomputable def gk(es:List (ak×D))(k:ak):Option D:=(es.find? fun p=>decide (p.1=k)).map (·.2)
noncomputable def qi(es:List (ak×D))(k:ak)(d:D):List (ak×D):=if(es.any fun p=>decide (p.1=k))=true then es.map (fun p=>if p.1=k then(p.1,d)else p)else es++[(k,d)]
noncomputable def rQ(i:Nat):Sf:=fun δ=>some (.nx,δ.set i (.od []))
noncomputable def nE(i:Nat)(fk fx:Dv->Option D):Dv->Option D:=fun δ=>(zm δ[i]?).bind fun es=>(fk δ).bind fun k=>(fx δ).bind fun y=>(kD k).bind fun k=>some ((gk es k).getD y)
noncomputable def ny(i:Nat)(fk fv:Dv->Option D):Sf:=fun δ=>(fv δ).bind fun v=>(zm δ[i]?).bind fun es=>(fk δ).bind fun k=>(kD k).bind fun k=>if es.length<sizeLine then some (.nx,δ.set i (.od (qi es k v)))else none
theorem rH{o:Option Sl}{es:List (ak×D)}(h:zm o=some es):o=some (.od es):=by
 cases o with
 |none=>cases h
 |some x=>
  cases x with
  |own c=>
   cases c with
   |l ds=>cases h
   |d fs=>cases h;rfl
  |un=>cases h
  |fz d=>cases h
  |fr _=>cases h
theorem iQ{K:Fg}{Z:Hp}{v:V}{d:D}{k:ak}(r:Rep K Z v d)(h:kD d=some k):v=kV k:=by
 cases d with
 |int i=>cases h;exact r.int_eq
 |str x=>cases h;exact r.str_eq
 |_=>cases h
theorem dS{K:Fg}{Z:Hp}{kvs:List (ak×V)}{es:List (ak×D)}(h:jl K Z kvs es):kvs.length=es.length:=by
 have:=congrArg List.length h.1;rw[List.length_map,List.length_map]at this;exact this.symm
theorem d9{K:Fg}{Z:Hp}{kv:ak×V}{kvs:List (ak×V)}{es:List (ak×D)}(h:jl K Z (kv::kvs) es):∃d fs,es=(kv.1,d)::fs/\Rep K Z kv.2 d/\jl K Z kvs fs:=by
 obtain⟨h1,h2⟩:=h;cases es with
 |nil=>cases h1
 |cons e fs=>
  obtain⟨k,d⟩:=e;rw[List.map_cons,List.map_cons,List.cons.injEq]at h1;cases h2 with
  |cons r q=>exact⟨d,fs,by rw[<-h1.1],r,h1.2,q⟩
theorem lM{K:Fg}{Z:Hp}(k:ak):∀{kvs:List (ak×V)} {es:List (ak×D)},jl K Z kvs es->(eV kvs k=none/\gk es k=none)\/∃v d,eV kvs k=some v/\gk es k=some d/\Rep K Z v d
 |[],es,h=>by
  have:es=[]:=List.length_eq_zero_iff.mp (dS h).symm;subst this;exact .inl ⟨rfl,rfl⟩
 |kv::kvs,es,h=>by
  obtain⟨d,fs,rfl,r,q⟩:=d9 h;by_cases e:kv.1=k
  ·exact .inr ⟨kv.2,d,dN e,by simp[gk,List.find?_cons,e],r⟩
  ·rw[dO e]
   have:gk ((kv.1,d)::fs) k=gk fs k:=by simp[gk,List.find?_cons,e]
   rw[this];exact lM k q
theorem rT{K:Fg}{Z:Hp}{kvs:List (ak×V)}{es:List (ak×D)}(h:jl K Z kvs es)(k:ak){v:V}{d:D}(r:Rep K Z v d):jl K Z (fX kvs k v) (qi es k d):=by
 have any:∀{kvs:List (ak×V)} {es:List (ak×D)},jl K Z kvs es->(kvs.any fun kv=>decide (kv.1=k))=es.any fun p=>decide (p.1=k):=by
  intro kvs
  induction kvs with
  |nil=>
   intro es h;have:es=[]:=List.length_eq_zero_iff.mp (dS h).symm;subst this;rfl
  |cons kv kvs ih=>
   intro es h;obtain⟨d,fs,rfl,_,q⟩:=d9 h;rw[List.any_cons,List.any_cons,ih q]
 unfold fX qi;rw[any h];by_cases a:(es.any fun p=>decide (p.1=k))=true
 ·rw[if_pos a,if_pos a]
  clear a any;revert es
  induction kvs with
  |nil=>
   intro es h;have:es=[]:=List.length_eq_zero_iff.mp (dS h).symm;subst this;exact⟨rfl,.nil⟩
  |cons kv kvs ih=>
   intro es h;obtain⟨d',fs,rfl,r',q⟩:=d9 h;obtain⟨i1,i2⟩:=ih q;by_cases e:kv.1=k
   ·rw[List.map_cons,List.map_cons,if_pos e,if_pos e]
    exact⟨by rw[List.map_cons,List.map_cons,i1],.cons r i2⟩
   ·rw[List.map_cons,List.map_cons,if_neg e,if_neg e]
    exact⟨by rw[List.map_cons,List.map_cons,i1],.cons r' i2⟩
 ·rw[if_neg a,if_neg a]
  refine⟨by rw[List.map_append,List.map_append,h.1];rfl,?_⟩;rw[List.map_append,List.map_append];exact h.2.append (.cons r .nil)
theorem AW{n:Nat}(h:n+64<cLine):n+1<cLine:=by omega
section
variable{X:Cx}{e b c:Expr}{p pos tpos apos cpos:Pos}{f fk fv fx:Dv->Option D}
theorem ul(i:Nat){x:Str}{pos':Pos}(hN:X.N.Nodup)(hi:X.N[i]? = some x:=by rfl)(hx:rh X.env.scope x:=by first|exact Or.inl rfl|exact Or.inr rfl)(hs:swapsWith (.Dict [] [] p) (some (.Name x pos')) pos.line X.env=pure false:=by rfl)
  (hf:X.fn x=true\/X.env.scope.names.lookup x=some .local:=by first|exact .inl rfl|exact .inr rfl|assumption):SV X (.Assign [.Name x pos'] (.Dict [] [] p) pos) (rQ i):=
 PS.imp (nz hN hi hx sk hs hf) fun D σ H h=>by
  obtain⟨H₀,Z₀,Z,δ,r,hh,e,k⟩:=h;cases e;exact fun p hp=>k _ _ Z (hh.setW hp (.dct ⟨rfl,.nil⟩)) (Same.refl _)
theorem oT{K:Fg}{H₀ Z₀ Z:Hp}{δ:Dv}{σ:St}{H:Hp}(hh:Hold K H₀ Z₀ Z δ σ H){i:Nat}{es:List (ak×D)}(h:zm δ[i]? = some es):∃a kvs,σ[i]? = some (some (V.ref a))/\H a=some (.dK kvs)/\jl K Z kvs es:=by
 obtain⟨a,kvs,h1,_,_,h4,h5⟩:=hh.od i es (rH h);exact⟨a,kvs,h1,h4,h5⟩
theorem tz(i:Nat){x:Str}(hu:X.A.units+1<cLine)(hb:EV X b fk)(hc:EV X c fx)(m:M2 X (.Name x p) "get" apos b c cpos)(hN:X.N[i]? = some x:=by rfl)(hv:wz X.env.scope x:=by first|exact Or.inl rfl|exact Or.inr (Or.inl rfl)|exact Or.inr (Or.inr rfl))(hd:(x==("__debug__":Str))=false:=by decide)(hcd:(x==("__classdict__":Str))=false:=by decide):
  EV X (.Call (.Attribute (.Name x p) "get" apos) [b,c] [] cpos) (nE i fk fx):=
 PE.imp (sr hu (fY hN hv hd hcd) hb hc m) fun σ H Q h=>by
  obtain⟨H₀,Z₀,Z,δ,d,hh,e,k⟩:=h;obtain⟨es,e1,e⟩:=bind_some e;obtain⟨y,e2,e⟩:=bind_some e;obtain⟨z,e3,e⟩:=bind_some e;obtain⟨ky,e4,e⟩:=bind_some e;cases e;obtain⟨a,kvs,h1,h4,h5⟩:=oT hh e1;refine⟨_,h1,a,rfl,.inl ⟨kvs,.inl h4⟩,H₀,Z₀,Z,δ,y,hh,e2,fun v Z1 H1 hh1 t1 r1=>⟨H₀,Z₀,Z1,δ,z,hh1,e3,fun u Z2 H2 hh2 t2 r2=>?_⟩⟩
  obtain⟨a',kvs',g1,g4,g5⟩:=oT hh2 e1;rw[h1]at g1;cases g1;obtain rfl:=iQ r1 e4;rcases lM ky g5 with⟨q,q'⟩|⟨w,d',q1,q2,rw'⟩
  ·refine⟨none,q ▸ DGet.k g4,k u Z2 H2 hh2 (t1.trans t2) ?_⟩
   rw[q'];exact r2
  ·refine⟨some w,q1 ▸ DGet.k g4,k w Z2 H2 hh2 (t1.trans t2) ?_⟩
   rw[q2];exact rw'
theorem uk(i:Nat){x:Str}(hu:X.A.units+1<cLine)(hb:EV X b fk)(hv':EV X e fv)(hN:X.N[i]? = some x:=by rfl)(hv:wz X.env.scope x:=by first|exact Or.inl rfl|exact Or.inr (Or.inl rfl)|exact Or.inr (Or.inr rfl))(hd:(x==("__debug__":Str))=false:=by decide)(hcd:(x==("__classdict__":Str))=false:=by decide)
  (hs:swapsWith e (some (.Subscript (.Name x p) b tpos)) pos.line X.env=pure false:=by rfl):SV X (.Assign [.Subscript (.Name x p) b tpos] e pos) (ny i fk fv):=
 PS.imp (uG hu (fY hN hv hd hcd) hb hv' hs) fun D σ H h=>by
  obtain⟨H₀,Z₀,Z,δ,r,hh,e,k⟩:=h;obtain⟨v,e1,e⟩:=bind_some e;obtain⟨es,e2,e⟩:=bind_some e;obtain⟨y,e3,e⟩:=bind_some e;obtain⟨ky,e4,e⟩:=bind_some e;obtain⟨hl,e5⟩:=cJ e;cases e5;refine⟨H₀,Z₀,Z,δ,v,hh,e1,fun w Z1 H1 hh1 t1 r1=>?_⟩
  obtain⟨a,kvs,h1,h4,h5⟩:=oT hh1 e2;refine⟨_,h1,H₀,Z₀,Z1,δ,y,hh1,e3,fun u Z2 H2 hh2 t2 r2=>?_⟩
  obtain⟨a',kvs',g1,g4,g5⟩:=oT hh2 e2;rw[h1]at g1;cases g1;obtain rfl:=iQ r2 e4;exact⟨a,_,rfl,DPut.k g4 (by rw[dS g5];exact hl),k σ _ Z2 (hh2.chgW (rH e2) h1 (.dct (rT g5 ky (r1.same t2)))) (t1.trans t2)⟩
end
noncomputable def nP(x:Int):List Int->List Int
 |[]=>[x]
 |y::r=>if x<=y then x::y::r else y::nP x r
noncomputable def aU:List Int->List Int
 |[]=>[]
 |x::r=>nP x (aU r)
theorem gh(x:Int):∀l:List Int,(nP x l).Perm (x::l)
 |[]=>.refl _
 |y::r=>by
  unfold nP;split
  ·exact .refl _
  ·exact((gh x r).cons y).trans (.swap x y r)
theorem ck:∀l:List Int,(aU l).Perm l
 |[]=>.refl _
 |x::r=>(gh x _).trans ((ck r).cons x)
theorem o6(x:Int):∀l:List Int,l.Pairwise (· <= ·)->(nP x l).Pairwise (· <= ·)
 |[],_=>by simp[nP]
 |y::r,h=>by
  obtain⟨h1,h2⟩:=List.pairwise_cons.mp h;unfold nP;split
  ·rename_i hx
   exact List.pairwise_cons.mpr ⟨fun z hz=>by rcases List.mem_cons.mp hz with rfl|hz;exact hx;exact Int.le_trans hx (h1 z hz),h⟩
  ·rename_i hx
   refine List.pairwise_cons.mpr ⟨fun z hz=>?_,o6 x r h2⟩
   rcases List.mem_cons.mp ((gh x r).mem_iff.mp hz)with rfl|hz
   ·omega
   ·exact h1 z hz
theorem gb:∀l:List Int,(aU l).Pairwise (· <= ·)
 |[]=>.nil
 |x::r=>o6 x _ (gb r)
theorem im:∀{a b:List Int},a.Perm b->a.Pairwise (· <= ·)->b.Pairwise (· <= ·)->a=b
 |[],b,p,_,_=>(List.nil_perm.mp p).symm
 |x::a,b,p,ha,hb=>by
  cases b with
  |nil=>exact absurd (List.perm_nil.mp p) (by simp)
  |cons y b=>
   obtain⟨ha1,ha2⟩:=List.pairwise_cons.mp ha;obtain⟨hb1,hb2⟩:=List.pairwise_cons.mp hb;have e:x=y:=by
    have h1:x∈y::b:=p.mem_iff.mp List.mem_cons_self;have h2:y∈x::a:=p.mem_iff.mpr List.mem_cons_self;rcases List.mem_cons.mp h1 with h1|h1
    ·exact h1
    ·rcases List.mem_cons.mp h2 with h2|h2
     ·exact h2.symm
     ·exact Int.le_antisymm (ha1 y h2) (hb1 x h1)
   subst e;rw[im (List.perm_cons x |>.mp p) ha2 hb2]
theorem gc{a b:List Int}(p:a.Perm b)(h:a.Pairwise (· <= ·)):a=aU b:=im (p.trans (ck b).symm) h (gb b)
noncomputable def B4:ak->Option Int
 |.inl i=>some i
 |.inr _=>none
noncomputable def mr:List (ak×D)->Option (List Int)
 |[]=>some []
 |p::r=>(B4 p.1).bind fun i=>(mr r).bind fun l=>some (i::l)
theorem mq:∀{es:List (ak×D)} {l:List Int},mr es=some l->es.map (·.1)=l.map Sum.inl
 |[],_,h=>by cases h;rfl
 | (.inl i,d)::r,l,h=>by
  obtain⟨m,hm,e⟩:=bind_some h;cases hm;obtain⟨l',h',e⟩:=bind_some e;cases e;rw[List.map_cons,mq h'];rfl
 | (.inr x,d)::r,l,h=>by cases h
theorem o3{P:Program}{w:World}:∀{acc:List Value} {kvs:List (ak×Value)} {l:List Int},acc.length=kvs.length->(∀(j:Nat) (v:Value),acc[j]? = some v->∃k x,kvs[j]? = some (k,x)/\(aM P w).is k v=true)->kvs.map (·.1)=l.map Sum.inl->IntsAre acc l
 |[],kvs,l,h1,_,h3=>by
  have:kvs=[]:=List.length_eq_zero_iff.mp h1.symm;subst this;have:l=[]:=by simpa using h3.symm
  subst this;exact .nil
 |v::acc,kv::kvs,l,h1,h2,h3=>by
  cases l with
  |nil=>cases h3
  |cons i l=>
   rw[List.map_cons,List.map_cons,List.cons.injEq]at h3;obtain⟨k,x,e,hk⟩:=h2 0 v rfl;cases e;have hk':iP k v=true:=hk;have h3':k=Sum.inl i:=h3.1;subst h3';rcases aI hk' with⟨i',t,e1,rfl⟩|⟨y,t,e1,rfl⟩
   ·cases e1
    exact .cons i t (o3 (P:=P) (w:=w) (by simpa using h1) (fun j v e=>h2 (j+1) v e) h3.2)
   ·cases e1
theorem bY:∀{out:List Value} {l:List Int},IntsAre out l->Vals (l.map V.int) out
 |_,_,.nil=>.nil
 |_,_,.cons n t r=>.cons ⟨t,rfl⟩ (bY r)
theorem oX{κ:Type}:∀{kvs:List (κ × V)} {vs:List (κ × Value)},KV kvs vs->vs.map (·.1)=kvs.map (·.1)
 |_,_,.nil=>rfl
 |_,_,.cons r q=>by rw[List.map_cons,List.map_cons,oX q,r.1]
theorem aE{h:Heap}{a b:Addr}{f:Obj->Obj}{o:Obj}(hab:b≠a)(e:h.get? b=some o):(h.update a f).get? b=some o:=(Heap.get?_update_other _ _ (Ne.symm hab)).trans e
section
variable{X:Cx}
theorem kO(hc:X.calm=true):CallR X (.builtin "sorted") (fun xs H Q=>∃a kvs ns,xs=[V.ref a]/\H a=some (.dK kvs)/\kvs.map (·.1)=ns.map Sum.inl/\ns.length<64/\∀l,H l=none->Q (.ref l) (upd H l (.lst ((aU ns).map V.int)))):=by
 intro pins s σ H xs us Q I r h;obtain⟨a,kvs,ns,rfl,ha,hk,h64,q⟩:=h;obtain⟨u,rfl,ru⟩:=ii r;cases ru;obtain⟨z,hd,vs,rel,dd⟩:=jb I.hok (.inl ha);obtain⟨ep,dat⟩:=dd.dictAt;have hln:vs.length=ns.length:=by
  have:=congrArg List.length hk;simp only[List.length_map]at this;rw[<-rel.length,this]
 refine Calls.call_function_entry kind_sorted plain_sorted entry_sorted (args_sorted1 _) ?_;unfold Builtin.«sorted»;refine wpAny_bind (m:=checkCount "sorted" 1 1 _) (wpAny_pure ?_);refine wpAny_bind (PySem.W.kdu_collect (A:=X.A.in1) (PySem.W.kdl_dict (knd:=aM X.prog X.w) (kvs:=vs) (ep:=ep) hd) (I.ok.hd hc) dat (by rw[hln,sizeLine_eq];omega) fun h' tk acc hk' hacc=>?_)
 have hal:acc.toList.length=vs.length:=by rw[Array.length_toList];exact hacc.1
 have hI:IntsAre acc.toList ns:=o3 (P:=X.prog) (w:=X.w) hal (fun j v e=>hacc.2 j v (by rw[<-Array.getElem?_toList];exact e)) (by rw[oX rel];exact hk)
 refine wpAny_bind (wpAny_newList ?_ (by rw[hal,hln,sizeLine_eq];omega));have hoL:(h'.push (seqObj "list" acc.toList.toArray 0)).get? h'.objs.size=some (seqObj "list" acc.toList.toArray 0):=Heap.get?_push_size _ rfl;refine wpAny_bind (wpAny_holding (wpAny_call_entry slot_list_sort ⟨_,hoL,rfl⟩ entry_list_sort (list_sort_tree hoL hI (by rw[hal,hln];exact h64) fun out ns' a1 a2 a3=>⟨_,rfl,?_⟩) (args_list_sort _)))
 refine wpAny_pure ⟨_,rfl,?_⟩;have e:=gc a2 a3;subst e;have I1:Inv X pins σ H { s with heap:=h',toks:=tk }:=I.kept hk';have kp:∀b o,h'.get? b=some o->(sortedHeap (h'.push (seqObj "list" acc.toList.toArray 0)) h'.objs.size acc.toList out).get? b=some o:=fun b o eo=>by
  have hb:b≠h'.objs.size:=Nat.ne_of_lt (Heap.lt_size eo);exact aE hb (Heap.get?_push_of_some _ (Heap.get?_push_of_some _ (aE hb (Heap.get?_push_of_some _ eo))))
 have hlen:out.toList.length=ns.length:=by rw[(bY a1).length.symm,List.length_map,a2.length_eq]
 obtain⟨e1,ho1⟩:∃e1,((h'.push (seqObj "list" acc.toList.toArray 0)).update h'.objs.size (Obj.mapSeq fun _=>#[])).get? h'.objs.size=some (seqObj "list" #[] e1):=⟨_,get?_update_seq hoL (fun _=>#[])⟩;have ho2:=Heap.get?_push_of_some (seqObj "list" #[] 0) (Heap.get?_push_of_some (seqObj "tuple" acc.toList.toArray 0) ho1);have ho3:=get?_update_seq ho2 (fun _=>out);have L:=I1.laid (h':=sortedHeap (h'.push (seqObj "list" acc.toList.toArray 0)) h'.objs.size acc.toList out) (a:=h'.objs.size) (o:=.lst ((aU ns).map V.int)) (t':=tk) kp (Nat.le_refl _)
  (show ObjOk X.prog X.w _ _ _ (.lst ((aU ns).map V.int))from ⟨by rw[List.length_map,(ck ns).length_eq,sizeLine_eq];omega,out.toList,_,bY a1,by rw[Array.toArray_toList];exact ho3⟩)
 exact⟨.ref h'.objs.size,_,L,rfl,q _ (I1.hok.fresh (Nat.le_refl _))⟩
variable{e:Expr}{p p2 pos pos2:Pos}{te:TE}{f:Dv->Option D}
end
noncomputable def yS:List D->Option D
 |[.list a,.list b]=>some (.list (List.zipWith (fun x y=>.tuple [x,y]) a b))
 |_=>none
@[simp] noncomputable def Dq(fs:Dv->Option (List D))(g:List D->Option D):Dv->Option D:=fun δ=>(fs δ).bind g
@[simp] theorem AU(a b:List D):yS [.list a,.list b]=some (.list (List.zipWith (fun x y=>.tuple [x,y]) a b)):=rfl
noncomputable def j2:List (ak×D)->Option (List (ak×Int))
 |[]=>some []
 | (k,.int i)::r=>(j2 r).bind fun l=>some ((k,i)::l)
 |_=>none
noncomputable def qU(i:Nat)(δ:Dv):Dv:=match δ[i]? with
 |some (.own (.d es))=>match j2 es with
  |some l=>δ.set i (.fz (.dict (g0 l)))
  |none=>δ
 |_=>δ
noncomputable def gG:List (D×D)->Option (List (ak×Int))
 |[]=>some []
 | (k,.int i)::r=>(kD k).bind fun k=>(gG r).bind fun l=>some ((k,i)::l)
 |_=>none
theorem nK(k:ak):kD (fE k)=some k:=by cases k<;>rfl
@[simp] theorem dn:∀es:List (ak×Int),gG (g0 es)=some es
 |[]=>rfl
 | (k,i)::r=>by
  show(kD (fE k)).bind _=_;rw[nK];show(gG (g0 r)).bind _=_;rw[dn r];rfl
noncomputable def iZ(es:List (ak×Int))(k:ak):Option Int:=(es.find? fun p=>decide (p.1=k)).map (·.2)
noncomputable def pb:D->D->Option D
 |.dict kvs,k=>(gG kvs).bind fun es=>(kD k).bind fun k=>(iZ es k).map .int
 |_,_=>none
noncomputable def nj:D->Option D
 |.dict kvs=>(gG kvs).bind fun es=>(mr (es.map fun p=>(p.1,PyData.int p.2))).bind fun l=>if l.length<64 then some (.list ((aU l).map .int))else none
 |_=>none
theorem mG:∀{es:List (ak×D)} {l:List (ak×Int)},j2 es=some l->es=l.map fun p=>(p.1,PyData.int p.2)
 |[],_,h=>by cases h;rfl
 | (k,.int i)::r,l,h=>by
  obtain⟨m,hm,e⟩:=bind_some h;cases e;rw[mG hm];rfl
 | (k,.none)::r,l,h=>by cases h
 | (k,.bool _)::r,l,h=>by cases h
 | (k,.str _)::r,l,h=>by cases h
 | (k,.tuple _)::r,l,h=>by cases h
 | (k,.list _)::r,l,h=>by cases h
 | (k,.dict _)::r,l,h=>by cases h
theorem jU{K:Fg}{Z:Hp}:∀{kvs:List (ak×V)} {l:List (ak×Int)},jl K Z kvs (l.map fun p=>(p.1,PyData.int p.2))->kvs=l.map fun p=>(p.1,V.int p.2)
 |[],l,h=>by
  have:(l.map fun p=>(p.1,PyData.int p.2))=[]:=List.length_eq_zero_iff.mp (dS h).symm
  rw[List.map_eq_nil_iff.mp this];rfl
 |kv::kvs,l,h=>by
  obtain⟨d,fs,e,r,q⟩:=d9 h;cases l with
  |nil=>cases e
  |cons p l=>
   rw[List.map_cons,List.cons.injEq,Prod.mk.injEq]at e;obtain⟨⟨e1,e2⟩,e3⟩:=e;subst e2;subst e3;obtain⟨k,v⟩:=kv;have e1:p.1=k:=e1;have rv:v=V.int p.2:=r.int_eq;subst rv;rw[List.map_cons,<-jU q,e1]
theorem qN{K:Fg}{H₀ Z₀ Z H:Hp}{δ:Dv}{σ:St}(h:Hold K H₀ Z₀ Z δ σ H){i:Nat}{l:List (ak×Int)}(e:δ[i]? = some (.od (l.map fun p=>(p.1,PyData.int p.2)))):∃Z',Same Z Z'/\Hold K H₀ Z₀ Z' (δ.set i (.fz (.dict (g0 l)))) σ H:=by
 obtain⟨a,kvs,h1,h2,h3,h4,h5⟩:=h.od i _ e;obtain rfl:=jU h5;have hl:i < δ.length:=(List.getElem?_eq_some_iff.mp e).1;have sz:Same Z (upd Z a (.dK (l.map fun p=>(p.1,V.int p.2)))):=cE h3
 refine⟨_,sz,fun b o q=>?_,h.h0,h.z0.trans sz,fun b hb=>?_,by simp[h.len],fun j d q=>?_,fun j d q=>?_,fun j k d1 d2 b hjk q1 q2=>?_,(h.fr.same sz).put (fun _ z=>nomatch z) fun _ _=>rfl,h.nf.upd a⟩
 ·by_cases hb:b=a
  ·subst hb;rw[al]at q;cases q;exact h4
  ·rw[ap hb]at q;exact h.zh b o q
 ·rw[ap (fun z=>hb (by rw[z];exact h2))];exact h.zb b hb
 ·by_cases hj:i=j
  ·subst hj
   rw[List.getElem?_set_self hl]at q;cases q;exact⟨.ref a,h1,.opq (.dct rfl al)⟩
  ·rw[List.getElem?_set_ne hj]at q
   obtain⟨v,g1,g2⟩:=h.fz j d q;exact⟨v,g1,g2.same sz⟩
 ·by_cases hj:i=j
  ·subst hj
   rw[List.getElem?_set_self hl]at q;cases q
  ·rw[List.getElem?_set_ne hj]at q
   obtain⟨b,ws,g1,g2,g3,g4,g5⟩:=h.own j d q;have:b≠a:=fun z=>by subst z;exact h.dja i j _ d b hj e q h1 g1
   exact⟨b,ws,g1,g2,by rw[ap this];exact g3,g4,g5.same sz⟩
 ·by_cases hj:i=j
  ·subst hj
   rw[List.getElem?_set_self hl]at q1;cases q1
  ·by_cases hk:i=k
   ·subst hk
    rw[List.getElem?_set_self hl]at q2;cases q2
   ·rw[List.getElem?_set_ne hj]at q1
    rw[List.getElem?_set_ne hk]at q2;exact h.dja j k d1 d2 b hjk q1 q2
section
variable{X:Cx}{st:Stmt}{s1:Sf}{a b:Expr}{f fk:Dv->Option D}{p pos:Pos}
theorem yd{K:Fg}(i:Nat){D:Ends}{σ:St}{H:Hp}(h:wL K (fun δ=>s1 (qU i δ)) D σ H):wL K s1 D σ H:=by
 obtain⟨H₀,Z₀,Z,δ,r,hh,e,k⟩:=h;have e:s1 (qU i δ)=some r:=e;unfold qU at e;split at e
 ·rename_i es q
  split at e
  ·rename_i l ql
   rw[mG ql]at q;obtain⟨Z1,t1,hh1⟩:=qN hh q;exact⟨H₀,Z₀,Z1,_,r,hh1,e,fun σ2 H2 Z2 hh2 t2=>k σ2 H2 Z2 hh2 (t1.trans t2)⟩
  ·exact⟨H₀,Z₀,Z,_,r,hh,e,k⟩
 ·exact⟨H₀,Z₀,Z,_,r,hh,e,k⟩
theorem wP(i:Nat)(h:SV X st s1):SV X st (fun δ=>s1 (qU i δ)):=PS.imp h fun D σ H q=>yd i q
theorem tI{K:Fg}{Z:Hp}{v:V}{kvs:List (D×D)}{es:List (ak×Int)}(r:Rep K Z v (.dict kvs))(h:gG kvs=some es):∃a,v=.ref a/\Z a=some (.dK (es.map fun p=>(p.1,V.int p.2))):=by
 cases r with
 | @opq a _ q=>
  cases q with
  |exc _ _=>cases h
  |fn _=>cases h
  |ins _ _ _=>cases h
  |dct h1 h2=>
   subst h1;rw[dn]at h;cases h;exact⟨a,rfl,h2⟩
 |gdc _ _ _ _=>cases h
theorem jM(k:ak):∀es:List (ak×Int),eV (es.map fun p=>(p.1,V.int p.2)) k=(iZ es k).map V.int
 |[]=>rfl
 | (k',i)::r=>by
  by_cases e:k'=k
  ·rw[List.map_cons,dN e];simp[iZ,List.find?_cons,e]
  ·rw[List.map_cons,dO e,jM k r];simp[iZ,List.find?_cons,e]
theorem mL(hu:X.A.units+1<cLine)(ha:EV X a f)(hb:EV X b fk)(hsl:yG b):EV X (.Subscript a b pos) (o2 f fk pb):=
 PE.imp (uO hu ha hb hsl) fun σ H Q h=>by
  obtain⟨H₀,Z₀,Z,δ,d,hh,e,k⟩:=h;obtain⟨x,e1,e⟩:=bind_some e;obtain⟨y,e2,e⟩:=bind_some e;cases x with
  |dict kvs=>
   obtain⟨es,e3,e⟩:=bind_some e;obtain⟨ky,e4,e⟩:=bind_some e;obtain⟨i,e5,e⟩:=Option.map_eq_some_iff.mp e;subst e;refine⟨H₀,Z₀,Z,δ,_,hh,e1,fun v Z1 H1 hh1 t1 r1=>⟨H₀,Z₀,Z1,δ,y,hh1,e2,fun u Z2 H2 hh2 t2 r2=>?_⟩⟩
   obtain⟨ad,rfl,g⟩:=tI r1 e3;obtain rfl:=iQ r2 e4;exact⟨ad,V.int i,rfl,by have:=DGet.k (k:=ky) (hh2.zh _ _ (t2 _ _ g));rw[jM,e5]at this;exact this,k _ Z2 H2 hh2 (t1.trans t2) (.int i)⟩
  |_=>cases e
theorem qQ(hg:Gl X "sorted")(hm:X.mg "sorted" = none)(ha:EV X a f)(hc:X.calm=true:=by rfl)
  (he:starEach [a] X.env=(false,eval a X.env)::starEach [] X.env:=by rfl) (hpl:(backTo pos (starEach [] X.env)).any (·.1)=false:=by rfl):EV X (.Call (.Name "sorted" p) [a] [] pos) (o1 f nj):=
 PE.imp (iy (kO hc) hg hm (by decide +kernel) (cP ha eK he) (by decide) (by decide) he hpl) fun σ H Q h=>by
  obtain⟨H₀,Z₀,Z,δ,d,hh,e,k⟩:=h;obtain⟨x,e1,e⟩:=bind_some e;cases x with
  |dict kvs=>
   obtain⟨es,e3,e⟩:=bind_some e;obtain⟨l,e4,e⟩:=bind_some e;obtain⟨h64,e⟩:=cJ e;cases e;refine⟨H₀,Z₀,Z,δ,_,hh,e1,fun v Z1 H1 hh1 t1 r1=>?_⟩
   obtain⟨ad,rfl,g⟩:=tI r1 e3;refine⟨ad,_,l,rfl,hh1.zh _ _ g,by have:=mq e4;rw[<-this];simp[List.map_map,Function.comp_def],h64,fun l' hl=>?_⟩
   have n:=New.add hh1.zh hl (.lst ((aU l).map V.int));exact k _ _ _ (hh1.new n) (t1.trans n.z) (.lst (SqL.of al) (Reps.ints _))
  |_=>cases e
end
section
variable{cmp:Nat->Nat->(Bool->Shared->Prop)->Shared->Prop}{N:Nat}{key:Nat->Int}
noncomputable def ky(key:Nat->Int)(p:Array Nat)(i:Nat):Int:=key (p.getD i 0)
variable{s:Shared}(hinj:∀i j,i<N->j<N->key i=key j->i=j)(hc:∀i j,i<N->j<N->i≠j->∀C:Bool->Shared->Prop,C (decide (key i<key j)) s->cmp i j C s)
def Up(key:Nat->Int)(p:Array Nat)(m:Nat):Prop:=∀i j,i<j->j<m->ky key p i<ky key p j
end
noncomputable def mH:List D->Option (List Int)
 |[]=>some []
 |.int i::r=>(mH r).bind fun l=>some (i::l)
 |_::_=>none
noncomputable def bG(ns:List Int)(x:Int):List Int:=if x∈ns then ns else ns++[x]
noncomputable def dQ(l:List Int):List Int:=l.foldl bG []
noncomputable def lC(d:D):Option D:=(bI d).bind fun ds=>(mH ds).bind fun l=>if l.length<64 then some (.list ((aU (dQ l)).map .int))else none
def UpA(xs:Array Nat):Prop:=∀i j (hi:i<xs.size) (hj:j<xs.size),i<j->xs[i]<xs[j]
theorem jh{xs:Array Nat}{j:Nat}(hu:UpA xs):∀(f lo hi:Nat),hi-lo<=f->lo<=hi->hi<=xs.size ->
  (∀i (h:i<xs.size),i<lo->xs[i]<j)->(∀i (h:i<xs.size),hi<=i->j<=xs[i]) ->
  SetTable.below.go xs j f lo hi<=xs.size/\(∀i (h:i<xs.size),i<SetTable.below.go xs j f lo hi->xs[i]<j)/\(∀i (h:i<xs.size),SetTable.below.go xs j f lo hi<=i->j<=xs[i])
 | 0,lo,hi,h1,h2,h3,a,b=>by
  have:lo=hi:=by omega
  subst this;exact⟨h3,a,b⟩
 |f+1,lo,hi,h1,h2,h3,a,b=>by
  unfold SetTable.below.go;by_cases h:lo<hi
  ·rw[if_pos h]
   have hm:(lo+hi)/2<xs.size:=by omega
   have e:xs.getD ((lo+hi)/2) j=xs[(lo+hi)/2]:=by simp[Array.getD,hm]
   dsimp only;rw[e];by_cases h':xs[(lo+hi)/2]<j
   ·rw[if_pos h']
    refine jh hu f _ hi (by omega) (by omega) h3 (fun i hi' hl=>?_) b;by_cases e2:i=(lo+hi)/2
    ·subst e2;exact h'
    ·exact Nat.lt_trans (hu i _ hi' hm (by omega)) h'
   ·rw[if_neg h']
    refine jh hu f lo _ (by omega) (by omega) (by omega) a fun i hi' hl=>?_
    by_cases e2:i=(lo+hi)/2
    ·subst e2;omega
    ·have:=hu _ i hm hi' (by omega);omega
  ·rw[if_neg h]
   have:lo=hi:=by omega
   subst this;exact⟨h3,a,b⟩
theorem dl{xs:Array Nat}(hu:UpA xs)(j:Nat):SetTable.below xs j<=xs.size/\(∀i (h:i<xs.size),i<SetTable.below xs j->xs[i]<j)/\(∀i (h:i<xs.size),SetTable.below xs j<=i->j<=xs[i]):=
 jh hu xs.size 0 xs.size (by omega) (by omega) (Nat.le_refl _) (fun i _ h=>absurd h (by omega)) (fun i h h'=>absurd h (by omega))
theorem kG{xs:Array Nat}{p x:Nat}(hp:p<=xs.size)(i:Nat):(SetTable.insertAt xs p x)[i]? = if i<p then xs[i]? else if i=p then some x else xs[i-1]?:=by
 rw[<-Array.getElem?_toList,SetTable.toList_insertAt];have hl:(xs.toList.take p).length=p:=by rw[List.length_take,Array.length_toList];omega
 by_cases h1:i<p
 ·rw[if_pos h1,List.getElem?_append_left (by omega),List.getElem?_take_of_lt h1,Array.getElem?_toList]
 ·rw[if_neg h1,List.getElem?_append_right (by omega),hl]
  by_cases h2:i=p
  ·subst h2
   rw[if_pos rfl,Nat.sub_self,List.getElem?_cons_zero]
  ·rw[if_neg h2]
   obtain⟨k,rfl⟩:∃k,i=p+k+1:=⟨i-p-1,by omega⟩;rw[show p+k+1-p=k+1 by omega,List.getElem?_cons_succ,List.getElem?_drop,Array.getElem?_toList];rfl
theorem UpA.iff{xs:Array Nat}:UpA xs↔∀i j a b:Nat,i<j->xs[i]? = some a->xs[j]? = some b->a<b:=by
 constructor
 ·intro h i j a b hij ha hb
  obtain⟨h1,rfl⟩:=Array.getElem?_eq_some_iff.mp ha;obtain⟨h2,rfl⟩:=Array.getElem?_eq_some_iff.mp hb;exact h i j h1 h2 hij
 ·intro h i j hi hj hij
  exact h i j _ _ hij (Array.getElem?_eq_getElem hi) (Array.getElem?_eq_getElem hj)
theorem UpA.insert{xs:Array Nat}{j:Nat}(hu:UpA xs)(hn:xs[SetTable.below xs j]? ≠ some j):UpA (SetTable.insertAt xs (SetTable.below xs j) j):=by
 obtain⟨h1,h2,h3⟩:=dl hu j;have lo:∀i a,i<SetTable.below xs j->xs[i]? = some a->a<j:=fun i a hi e=>by
  obtain⟨q,rfl⟩:=Array.getElem?_eq_some_iff.mp e;exact h2 i q hi
 have hi:∀i a,SetTable.below xs j<=i->xs[i]? = some a->j<a:=fun i a hi e=>by
  obtain⟨q,rfl⟩:=Array.getElem?_eq_some_iff.mp e;have hb:SetTable.below xs j<xs.size:=by omega
  have e1:j<=xs[SetTable.below xs j]:=h3 _ hb (Nat.le_refl _);have e2:xs[SetTable.below xs j]≠j:=fun z=>hn (by rw[Array.getElem?_eq_getElem hb,z])
  by_cases e3:i=SetTable.below xs j
  ·subst e3;omega
  ·have:=hu _ i hb q (by omega);omega
 rw[UpA.iff]at hu ⊢;intro i k a b hik ha hb;rw[kG h1]at ha hb;split at ha<;>split at hb
 ·exact hu i k a b hik ha hb
 ·split at hb
  ·cases hb;exact lo i a ‹_› ha
  ·exact Nat.lt_trans (lo i a ‹_› ha) (hi _ b (by omega) hb)
 ·omega
 ·split at ha<;>split at hb
  ·omega
  ·cases ha;exact hi _ b (by omega) hb
  ·omega
  ·exact hu (i-1) (k-1) a b (by omega) ha hb
theorem jP{t:SetTable}{j:Nat}(h:t.slot j=.empty\/t.slot j=.dummy):t.place[SetTable.below t.place j]? ≠ some j:=by
 intro e;unfold SetTable.slot at h;simp[e]at h
theorem iw{t:SetTable}{f:Nat->Int}{h:Int}:∀(n:Nat) (p:SetTable.Probe) (j:Nat) (d:Option Nat),(∀x,p.dummy=some x->t.slot x=.dummy)->SetTable.probe.go t f h n p=some (.empty j d)->t.slot j=.empty/\∀x,d=some x->t.slot x=.dummy
 | 0,p,j,d,hp,e=>by cases e
 |n+1,p,j,d,hp,e=>by
  unfold SetTable.probe.go at e;have adv:∀q:SetTable.Probe,(t.advance q).dummy=q.dummy:=fun q=>by unfold SetTable.advance;split<;>rfl
  split at e
  ·rename_i hs;cases e;exact⟨hs,hp⟩
  ·rename_i hs
   refine iw n _ j d (fun x hx=>?_) e;rw[adv]at hx;cases hx;exact hs
  ·split at e
   ·cases e
   ·exact iw n _ j d (fun x hx=>hp x (by rwa [adv]at hx)) e
theorem jx{t:SetTable}{h:Int}{j:Nat}{b:Bool}(e:t.freeSlot h=some (j,b)):t.place[SetTable.below t.place j]? ≠ some j:=by
 unfold SetTable.freeSlot at e;split at e
 ·rename_i j' d hq
  cases e;have:=iw _ _ _ _ (fun x hx=>by cases hx) hq;cases d with
  |none=>exact jP (.inl this.1)
  |some x=>exact jP (.inr (this.2 x rfl))
 ·cases e
structure WkT (led:Bool) (t:SetTable):Prop where
 led:t.led=led
 up:t.plain=true->UpA t.place
theorem WkT.fresh(led:Bool):WkT led (.fresh 0 0 led):=⟨rfl,fun _ i j hi=>absurd hi (by simp[SetTable.fresh])⟩
theorem WkT.standIn{led:Bool}{t:SetTable}(h:WkT led t)(n:Nat):WkT led (t.standIn n):=⟨h.led,fun e=>by cases e⟩
theorem WkT.orStandIn{led:Bool}{t:SetTable}(h:WkT led t)(n:Nat):WkT led (t.orStandIn n):=by
 unfold SetTable.orStandIn;split
 ·exact h
 ·exact h.standIn n
theorem WkT.put{led:Bool}{t:SetTable}(h:WkT led t){x:Int}{j:Nat}{b:Bool}(e:t.freeSlot x=some (j,b)):WkT led (t.put j).1:=⟨h.led,fun q=>(h.up q).insert (jx e)⟩
theorem WkT.layNew{led:Bool}{t:SetTable}(h:WkT led t)(es:Array (Int×Value))(x:Int)(v:Value):WkT led (layNew t es x v).2.1:=by
 unfold PySem.layNew;split
 ·rename_i e;exact(h.put e).orStandIn _
 ·exact h.standIn _
theorem cz(f:Nat->Option Nat):∀(l:List Nat),l.Pairwise (· < ·)->((l.filterMap fun j=>(f j).map (j,·)).map (·.1)).Pairwise (· < ·)
 |[],_=>.nil
 |a::l,h=>by
  obtain⟨h1,h2⟩:=List.pairwise_cons.mp h;rw[List.filterMap_cons];cases f a with
  |none=>exact cz f l h2
  |some b=>
   refine List.pairwise_cons.mpr ⟨fun z hz=>?_,cz f l h2⟩
   obtain⟨q,hq,rfl⟩:=List.mem_map.mp hz;obtain⟨c,hc,e⟩:=List.mem_filterMap.mp hq;obtain⟨d,_,rfl⟩:=Option.map_eq_some_iff.mp e;exact h1 _ hc
theorem WkT.relay{led:Bool}{t:SetTable}(h:WkT led t)(es:Array (Int×Value))(n:Nat):WkT led (relayAll t es n).2.1:=by
 unfold relayAll;split
 ·rename_i t' order e
  dsimp only;split
  ·unfold SetTable.relaid SetTable.laid at e
   obtain⟨o,_,e⟩:=Option.bind_eq_some_iff.mp e;cases e;refine⟨h.led,fun _ i j hi hj hij=>?_⟩
   have:=cz (fun j=>o.getD j none) (List.range (SetTable.sizeAbove n-1+1)) List.pairwise_lt_range;have:=List.pairwise_iff_getElem.mp this i j (by simpa using hi) (by simpa using hj) hij;simpa using this
  ·exact h.standIn _
 ·exact h.standIn _
theorem jg{xs:Array Nat}(hu:UpA xs){i:Nat}(hi:i<xs.size):SetTable.below xs (xs[i]+1)=i+1:=by
 obtain⟨h1,h2,h3⟩:=dl hu (xs[i]+1);have a:i<SetTable.below xs (xs[i]+1):=by
  refine Nat.lt_of_not_le fun h=>?_
  have:=h3 i hi h;omega
 have b:¬(i+1<SetTable.below xs (xs[i]+1)):=fun h=>by
  have q:=h2 (i+1) (by omega) h;have:=hu i (i+1) hi (by omega) (by omega);omega
 omega
theorem jf{xs:Array Nat}(hu:UpA xs):SetTable.below xs 0=0:=by
 obtain⟨h1,h2,h3⟩:=dl hu 0;refine Nat.eq_zero_of_not_pos fun h=>?_
 have:=h2 0 (by omega) h;omega
noncomputable def ij:Value->Int
 |.int k _=>k
 |_=>0
def oy(e:Int×Value):Prop:=∃k t,e=(hashInt k,Value.int k t)
def SetJ(w:World)(h:Heap)(a:Addr)(ns:List Int):Prop:=∃es ep t,h.get? a=some { cls:=.type "set",dict:=none,data:=.set es ep t,slots:=#[] }/\(∀e∈es.toList,oy e)/\(es.toList.map fun e=>ij e.2).Perm ns/\ns.length<scanBound/\t.fits es.size=true/\WkT (!w.params.followText "set-order") t
theorem SetJ.at{w:World}{h h':Heap}{a:Addr}{ns:List Int}(x:SetJ w h a ns)(e:∀o,h.get? a=some o->h'.get? a=some o):SetJ w h' a ns:=
 let ⟨es,ep,t,ho,r⟩:=x
 ⟨es,ep,t,e _ ho,r⟩
theorem nv(ns:List Int)(x:Int):(bG ns x).length<=ns.length+1:=by
 unfold bG;split
 ·omega
 ·simp
section
variable{prog:Program}{w:World}{A:Around}{E:Value->Shared->Prop}{s:Shared}
theorem iU{es:Array (Int×Value)}(h:∀e∈es.toList,oy e):ElemsOf (intKind prog w) es.toList:=fun e he=>by
 obtain⟨k,t,rfl⟩:=h e he;exact⟨⟨k,intKind_is prog w k t,rfl⟩,rfl⟩
theorem qL{l:List (Int×Value)}(h:∀e∈l,oy e)(k:Int):(l.findIdx? fun e=>(intKind prog w).is k e.2)=none↔k ∉ l.map fun e=>ij e.2:=by
 rw[List.findIdx?_eq_none_iff];constructor
 ·intro q z
  obtain⟨e,he,rfl⟩:=List.mem_map.mp z;obtain⟨k',t,rfl⟩:=h e he;have:=q _ he;rw[show(ij (hashInt k',Value.int k' t).2)=k' from rfl,show((hashInt k',Value.int k' t):Int×Value).2=Value.int k' t from rfl,intKind_is]at this;cases this
 ·intro q e he
  obtain⟨k',t,rfl⟩:=h e he;have hne:k≠k':=fun z=>q (List.mem_map.mpr ⟨_,he,z.symm⟩)
  cases hx:(intKind prog w).is k ((hashInt k',Value.int k' t):Int×Value).2 with
  |false=>rfl
  |true=>exact absurd ((intKind prog w).inj _ _ _ hx (intKind_is prog w k' t)) hne
theorem lL{h:Heap}{a:Addr}{es es':Array (Int×Value)}{ep:Nat}{t t':SetTable}{ns:List Int}(ho:h.get? a=some { cls:=.type "set",dict:=none,data:=.set es ep t,slots:=#[] })(h1:∀e∈es'.toList,oy e)(h2:(es'.toList.map fun e=>ij e.2).Perm ns)(h3:ns.length<scanBound)(h4:t'.fits es'.size=true)(h5:WkT (!w.params.followText "set-order") t'):
  (h.update a (Obj.putSet es' t')).get? a=some { cls:=.type "set",dict:=none,data:=.set es' (ep+1) t',slots:=#[] }/\SetJ w (h.update a (Obj.putSet es' t')) a ns:=by
 have g:=Heap.get?_update_self (Obj.putSet es' t') ho (by rw[putSet_of es' t' rfl];rfl);rw[putSet_of es' t' rfl]at g;exact⟨g,es',ep+1,t',g,h1,h2,h3,h4,h5⟩
theorem lQ{l l':List (Int×Value)}(p:List.Perm l' l):(l'.map fun e=>ij e.2).Perm (l.map fun e=>ij e.2):=p.map _
theorem uw{a:Addr}{x:Int}{tk:Tok}{ns:List Int}{Q:Bool->Shared->Prop}(hS:SetJ w s.heap a ns)(hroom:ns.length+1<scanBound)
  (h:∀h' b,Heap.SameBut a s.heap h'->SetJ w h' a (bG ns x)->Q b { s with heap:=h' }):wpAny (model prog w) A (setAddHashed a (.int x tk) (hashInt x)) Q E s:=by
 obtain⟨es,ep,t,ho,hel,hp,hb,hf,hw⟩:=hS;have hsz:es.size=ns.length:=by
  have:=hp.length_eq;rw[List.length_map,Array.length_toList]at this;exact this
 have fl:=qL (prog:=prog) (w:=w) hel x;unfold setAddHashed setAddHashedIn;refine wpAny_holding (wpAny_bind (wpAny_setState_of ho rfl hf ?_));dsimp only;rw[byScan_of (knd:=intKind prog w) (x:=Value.int x tk) rfl (by omega) (iU hel)];simp only[↓reduceIte];unfold setAddByScan;refine wpAny_bind (wpAny_bind (wpAny_rule (wpAny_bind (wpAny_setScan_of (knd:=intKind prog w) (k:=x) (intKind_is prog w x tk) ho rfl hf (iU hel) ?_))));cases hr:es.toList.findIdx? fun e=>(intKind prog w).is x e.2 with
 |some j=>
  have hin:x∈ns:=by
   refine hp.mem_iff.mp (Classical.byContradiction fun z=>?_);rw[fl.mpr z]at hr;cases hr
  have e:bG ns x=ns:=if_pos hin;rw[e]at h;dsimp only;exact wpAny_pure (wpAny_pure (h s.heap _ (Heap.SameBut.refl a s.heap) ⟨es,ep,t,ho,hel,hp,hb,hf,hw⟩))
 |none=>
  have hin:x ∉ ns:=fun z=>fl.mp hr (hp.mem_iff.mpr z)
  have e:bG ns x=ns++[x]:=if_neg hin;rw[e]at h;dsimp only;have gw:∀(b:Bool) {s1:Shared} {Q':Unit->Shared->Prop},Q' () s1->wpAny (model prog w) A (match b with
   |true=>rule "set.scan.the-table-gave-way"
   |false=>pure ()) Q' E s1:=fun b s1 Q' hq=>by
   cases b
   ·exact wpAny_pure hq
   ·exact wpAny_rule hq
  have q1:=layNew_perm t es (hashInt x) (.int x tk);have q2:=layNew_fits t es (hashInt x) (.int x tk);have q3:=hw.layNew es (hashInt x) (.int x tk);generalize hL:PySem.layNew t es (hashInt x) (.int x tk)=L at q1 q2 q3;obtain⟨es1,t1,wd,gv⟩:=L;have hL':PySem.layNew t es ((intKind prog w).hash x) (.int x tk)=(es1,t1,wd,gv):=hL;dsimp only at q1 q2 q3;rw[Array.toList_push]at q1;have el1:∀e∈es1.toList,oy e:=fun e he=>by
   rcases List.mem_append.mp (q1.mem_iff.mp he)with he|he
   ·exact hel e he
   ·rw[List.mem_singleton.mp he];exact⟨x,tk,rfl⟩
  have pm1:(es1.toList.map fun e=>ij e.2).Perm (ns++[x]):=(lQ q1).trans (by
   rw[List.map_append];exact hp.append_right _)
  have ln1:(ns++[x]).length<scanBound:=by simpa using hroom
  have sz1:es1.size=(ns++[x]).length:=by
   have:=pm1.length_eq;rw[List.length_map,Array.length_toList]at this;exact this
  dsimp only;refine wpAny_bind (gw _ ?_);refine wpAny_ite_split (fun _=>?_) (fun _=>?_)<;>refine wpAny_bind (wpAny_of_eq (a:=true) rfl ?_)<;>simp only[↓reduceIte]
  all_goals
   obtain⟨g1,g2⟩:=lL (w:=w) ho el1 pm1 ln1 q2 q3;refine wpAny_bind (wpAny_storeSet_of ho rfl ?_ (fits_of_scanBound (by omega)));have sb:=Heap.SameBut.update s.heap a (Obj.putSet es1 t1);split
   ·have r1:=relayAll_perm t1 es1 (SetTable.grown es1.size)
    have r2:=relayAll_fits t1 es1 (SetTable.grown es1.size);have r3:=q3.relay es1 (SetTable.grown es1.size);generalize relayAll t1 es1 (SetTable.grown es1.size)=Rl at r1 r2 r3;obtain⟨es2,t2,gv2⟩:=Rl;dsimp only at r1 r2 r3 ⊢;have el2:∀e∈es2.toList,oy e:=fun e he=>el1 e (r1.mem_iff.mp he)
    have pm2:(es2.toList.map fun e=>ij e.2).Perm (ns++[x]):=(lQ r1).trans pm1;have sz2:es2.size=(ns++[x]).length:=by
     have:=pm2.length_eq;rw[List.length_map,Array.length_toList]at this;exact this
    refine wpAny_bind (gw _ ?_);refine wpAny_bind (wpAny_storeSet_of g1 rfl ?_ (fits_of_scanBound (by omega)));exact wpAny_pure (wpAny_pure (h _ _ (sb.trans (Heap.SameBut.update _ a _)) (lL (w:=w) g1 el2 pm2 ln1 r2 r3).2))
   ·exact wpAny_pure (wpAny_pure (h _ _ sb g2))
end
theorem iq:∀(l ns:List Int),(l.foldl bG ns).length<=ns.length+l.length
 |[],ns=>by simp
 |x::l,ns=>by
  have h1:=iq l (bG ns x);have h2:=nv ns x;show(l.foldl bG (bG ns x)).length<=_;rw[List.length_cons];omega
theorem pZ{ns:List Int}{i:Nat}{k:Int}(h:ns[i]? = some k):dQ (ns.take (i+1))=bG (dQ (ns.take i)) k:=by
 unfold dQ;rw[List.take_succ,h,List.foldl_append];rfl
abbrev ah(led:Bool):Obj:={ cls:=.type "set",dict:=none,data:=.set #[] 0 (.fresh 0 0 led) }
theorem setJ_fresh{w:World}{h:Heap}:SetJ w (h.push (ah (!w.params.followText "set-order"))) h.objs.size []:=
 ⟨#[],0,_,Heap.get?_push_size _ rfl,fun e he=>by simp at he,.refl _,by decide,rfl,WkT.fresh _⟩
section
variable{prog:Program}{w:World}{A:Around}{R:Result->Shared->Prop}{I:Addr}{fp wr:List Addr}{G:Array GenState->Array GenState->Prop}{n:Nat}{P:Nat->Value->Prop}{St:Nat->Shared->Prop}
theorem lG(W:WalksS prog w A.in1 I fp wr G n P St)(S:Addr)(hSf:S ∉ fp)(ns:List Int)(hn:ns.length=n)(hP:∀i v,P i v->∃k t,ns[i]? = some k/\v=.int k t)(hz:n+1<scanBound):
  ∀(k i:Nat) (s:Shared),n-i=k->i<=n->St i s->SetJ w s.heap S (dQ (ns.take i))->(∀s',Moved (S::wr) G s s'->SetJ w s'.heap S (dQ ns)->R (.ok (.ret .none)) s') ->
   codeAny (model prog w) A (.builtin "set.update.loop" ⟨[.ref S,.ref I],[]⟩) R s:=by
 have nw:S ∉ wr:=fun h=>hSf (W.sub _ h)
 have up:∀b∈wr,b∈S::wr:=fun b hb=>List.mem_cons_of_mem _ hb
 intro k
 induction k with
 |zero=>
  intro i s hk hi hst hS hR;have e:i=n:=by omega
  subst e;refine codeAny_builtin F.entry_set_update_loop ?_;rw[Around.under_plainId F.plain_set_update_loop _];refine wpAny_bind (m:=pyNext (.ref I)) (W.done s _ _ hst fun s' hm=>?_);rw[<-hn,List.take_length]at hS;exact wpAny_pure (hR s' (hm.mono up) (hS.at fun o e=>hm.heap S o nw e))
 |succ k ih=>
  intro i s hk hi hst hS hR;have hlt:i<n:=by omega
  refine codeAny_builtin F.entry_set_update_loop ?_;rw[Around.under_plainId F.plain_set_update_loop _];refine wpAny_bind (m:=pyNext (.ref I)) (W.item i s _ _ hlt hst fun v s' hPv hst' hm=>?_);obtain⟨x,t,hx,rfl⟩:=hP i v hPv;have hS':=hS.at fun o e=>hm.heap S o nw e
  refine wpAny_bind (m:=holding [Value.int x t] (setAdd S (.int x t))) (wpAny_holding ?_);unfold setAdd;refine wpAny_holding (wpAny_bind ((intKind prog w).pyHash (k:=x) (intKind_is prog w x t) ?_));have ln:(dQ (ns.take i)).length<=i:=by
   have:=iq (ns.take i) [];rw[List.length_take]at this;unfold dQ;simp only[List.length_nil]at this;omega
  refine uw (s:={ s' with toks:=s'.toks+1 }) hS' (by omega) fun h' b hsb hS2=>?_
  rw[<-pZ hx]at hS2;refine wpAny_pure ⟨plainId_quiet F.plain_set_update_loop _,ih (i+1) _ (by omega) hlt (W.frame _ s' _ _ hst' (Nat.le_succ _) fun b hb o e=>?_) hS2 fun s'' hm'' hS''=>?_⟩
  ·rw[hsb.2 b (fun z=>hSf (z ▸ hb))];exact e
  ·refine hR s'' (Moved.trans W.gtrans ((hm.mono up).then_heap (Nat.le_succ _) fun b o hb e=>?_) hm'') hS''
   rw[hsb.2 b (fun z=>hb (z ▸ List.mem_cons_self))];exact e
end
section
variable{prog:Program}{w:World}{A:Around}{E:Value->Shared->Prop}{s:Shared}
theorem d3(a:Value){Q:Value->Shared->Prop}(h:Q (.ref s.heap.objs.size) { s with heap:=s.heap.push (ah (!w.params.followText "set-order")) }):
  codeAny (model prog w) A (.call (.builtin "set.__new__") ⟨[.type "set",a],[]⟩) (wants Q E) s:=by
 refine codeAny_of_tree ?_;refine wpAny_bind (m:=checkBuiltinCall "set.__new__" ⟨[.type "set",a],[]⟩) (wpAny_of_eq (F.newCall_set_1 a) (wpAny_pure ⟨plainId_quiet F.plain_set_new _,codeAny_builtin F.entry_set_new ?_⟩));rw[Around.under_plainId F.plain_set_new _];unfold Builtin.«set.__new__» Builtin.Frozenset.newClass;have f1:=sub_set_self;obtain⟨hp,g,d,tk,os⟩:=s;dsimp only
 wp_walk
 refine wpAny_askSetting (wpAny_pure ?_);dsimp only;simp only[newObj];exact wpAny_bind (wpAny_alloc (wpAny_pure (wpAny_pure h)))
theorem kP{v:Value}{Q:Value->Shared->Prop}
  (h:∀A':Around,A'.handled=A.handled->wpAny (model prog w) A' (Builtin.Frozenset.updateFrom "set.__init__" s.heap.objs.size v) (fun _ s2=>Q (.ref s.heap.objs.size) s2) E { s with heap:=s.heap.push (ah (!w.params.followText "set-order")) }) :
  wpAny (model prog w) A (call (.type "set") [v]) Q E s:=by
 obtain⟨c,tl,hmro⟩:=F.called_set.mro;have hmade:=F.called_set.made;have hsub:=F.called_set.sub;refine wpAny_call (codeAny_of_tree ?_);show wpAny _ _ (callAny (.type "set") _) _ _ _;refine wpAny_pure ⟨Code.quiet_builtin _ (by decide +kernel),codeAny_builtin F.entry_type_call ?_⟩;rw[Around.under_plain (weight_type_call_type "set" [v] []) rfl];have h1:=F.called_set.notType;have h2:=F.called_set.canCreate;have hct:=F.typeCall_set_1 v
 repeat (any_goals (first|assumption|wp_step))
 refine codeAny_mono (d3 v (E:=E) (Q:=fun obj s1=>obj=.ref s.heap.objs.size/\s1={ s with heap:=s.heap.push (ah (!w.params.followText "set-order")) }) ⟨rfl,rfl⟩) fun r s1 hr=>?_
 cases r with
 |error e=>exact hr
 |ok fl=>
  cases fl with
  |ret obj=>
   obtain⟨rfl,rfl⟩:=hr;have hT:Shared.TypeIs { s with heap:=s.heap.push (ah (!w.params.followText "set-order")) } (.ref s.heap.objs.size) "set":=⟨_,Heap.get?_push_size _ rfl,rfl⟩;have hS:(s.heap.push (ah (!w.params.followText "set-order"))).get? s.heap.objs.size=some (ah (!w.params.followText "set-order")):=Heap.get?_push_size _ rfl;have hli:=F.called_set.init.lookup;have hbi:=F.called_set.init.bind (.ref s.heap.objs.size)
   repeat (any_goals (first|assumption|wp_step))
   refine codeAny_mono (codeAny_call_builtin (R:=wants (fun r s2=>r=.none/\Q (.ref s.heap.objs.size) s2) E) F.called_set.init.plain F.entry_set_init (check_set_init_1 hT ?_)) fun r2 s2 hr2=>?_
   ·unfold Builtin.«set.__init__» noKeywords
    generalize hUF:Builtin.Frozenset.updateFrom=UF
    wp_walk
    subst hUF;refine wpAny_mono (h _ (by simp)) (fun _ s2 q=>?_) fun _ _ e=>e
    exact wpAny_pure ⟨rfl,q⟩
   ·cases r2 with
    |error e=>exact hr2
    |ok fl2=>
     cases fl2 with
     |ret r=>
      obtain⟨rfl,q⟩:=hr2
      repeat (any_goals (first|assumption|wp_step))
     |_=>exact hr2.elim
  |_=>exact hr.elim
end
theorem ez:isSubtype (.type "tuple") (.type "set")=pure false:=by rw[isSubtype_type];kernel_rfl
theorem cu:isSubtype (.type "tuple") (.type "frozenset")=pure false:=by rw[isSubtype_type];kernel_rfl
theorem nO{items:Array Value}{ns:List Int}(hi:IntsAre items.toList ns):ns.length=items.size/\∀(i:Nat) (v:Value),items[i]? = some v->∃k t,ns[i]? = some k/\v=Value.int k t:=by
 have hl:ns.length=items.size:=by
  have:=IntsAre.length hi;rw[Array.length_toList]at this;omega
 refine⟨hl,fun i v e=>?_⟩
 obtain⟨t,q⟩:=IntsAre.int_at hi i v (by rw[Array.getElem?_toList];exact e);have h:i<ns.length:=by
  have:=(Array.getElem?_eq_some_iff.mp e).1;omega
 exact⟨ns[i],t,by simp[h],by rw[q,List.getD_eq_getElem?_getD];simp[h]⟩
section
variable{prog:Program}{w:World}{A:Around}{E:Value->Shared->Prop}{s:Shared}
theorem jE{l:Addr}{items:Array Value}{ns:List Int}{Q:Value->Shared->Prop}(hh:A.handled=none)(hl:s.heap.IsList l items\/s.heap.IsTuple l items)(hi:IntsAre items.toList ns)(hb:items.size+1<scanBound)
  (h:∀(h':Heap) (tk:Nat),SetJ w h' s.heap.objs.size (dQ ns)->(∀b o,s.heap.get? b=some o->h'.get? b=some o)->Q (.ref s.heap.objs.size) { s with heap:=h',toks:=tk }):wpAny (model prog w) A (call (.type "set") [.ref l]) Q E s:=by
 obtain⟨hn,hP⟩:=nO hi;refine kP fun A' hA=>?_
 have hh':A'.handled=none:=hA.trans hh;have fin:∀(s':Shared) (I:Addr) (o:Obj),Moved [s.heap.objs.size,I] (fun a b=>b=a) { s with heap:=(s.heap.push (ah (!w.params.followText "set-order"))).push o } s'->I=(s.heap.push (ah (!w.params.followText "set-order"))).objs.size->SetJ w s'.heap s.heap.objs.size (dQ ns)->Q (.ref s.heap.objs.size) s':=fun s' I o hm hI hS=>by
  obtain⟨h',g',d',tk',os'⟩:=s';have eg:g'=s.gens:=hm.gens;have ed:d'=s.drawn:=hm.drawn;have eo:os'=s.os:=hm.os;subst eg ed eo;refine h h' tk' hS fun b o' e=>?_
  have lt:=Heap.lt_size e;refine hm.heap b o' ?_ (Heap.get?_push_of_some _ (Heap.get?_push_of_some _ e));rw[hI,Heap.size_push];simp only[List.mem_cons,List.not_mem_nil,or_false,not_or];exact⟨Nat.ne_of_lt lt,Nat.ne_of_lt (Nat.lt_succ_of_lt lt)⟩
 rcases hl with hl|hl
 ·obtain⟨ol,hol,hcl,nl,hdl⟩:=hl
  obtain⟨ocls,odict,odata,oslots⟩:=ol;simp only at hcl hdl;subst hcl hdl;have lt:=Heap.lt_size hol;have hol':=Heap.get?_push_of_some (ah (!w.params.followText "set-order")) hol;have f1:=F.sub_list_set;have f2:=F.sub_list_frozenset;have f3:(Value.type "list" == Value.type "dict")=false:=by decide
  have hl1:(s.heap.push (ah (!w.params.followText "set-order"))).IsList l items:=⟨_,hol',rfl,nl,rfl⟩;unfold Builtin.Frozenset.updateFrom;generalize hPI:pyIter=PI
  wp_walk
  subst hPI;refine wpAny_pyIter_list hl1 ?_;refine wpAny_bind (wpAny_runValue ?_);have ne:l≠(s.heap.push (ah (!w.params.followText "set-order"))).objs.size:=by rw[Heap.size_push];exact Nat.ne_of_lt (Nat.lt_succ_of_lt lt)
  have nf:s.heap.objs.size ∉ [(s.heap.push (ah (!w.params.followText "set-order"))).objs.size,l]:=by
   rw[Heap.size_push];simp only[List.mem_cons,List.not_mem_nil,or_false,not_or];exact⟨Nat.ne_of_lt (Nat.lt_succ_self _),Nat.ne_of_gt lt⟩
  refine lG ((Walks.list (by simpa using hh') _ l ne items).toS) s.heap.objs.size nf ns hn hP hb items.size 0 _ (by omega) (Nat.zero_le _) ⟨⟨_,Heap.get?_push_size _ rfl,rfl,rfl⟩,hl1.push _⟩ (setJ_fresh.at fun o e=>Heap.get?_push_of_some _ e) fun s' hm hS=>?_
  exact wpAny_pure ((fin s' _ _ hm rfl hS))
 ·obtain⟨ol,hol,hcl,nl,hdl⟩:=hl
  obtain⟨ocls,odict,odata,oslots⟩:=ol;simp only at hcl hdl;subst hcl hdl;have lt:=Heap.lt_size hol;have hol':=Heap.get?_push_of_some (ah (!w.params.followText "set-order")) hol;have f1:=ez;have f2:=cu;have f3:(Value.type "tuple" == Value.type "dict")=false:=by decide
  have hl1:(s.heap.push (ah (!w.params.followText "set-order"))).IsTuple l items:=⟨_,hol',rfl,nl,rfl⟩;unfold Builtin.Frozenset.updateFrom;generalize hPI:pyIter=PI
  wp_walk
  subst hPI;refine wpAny_pyIter_tuple hl1 ?_;refine wpAny_bind (wpAny_runValue ?_);have ne:l≠(s.heap.push (ah (!w.params.followText "set-order"))).objs.size:=by rw[Heap.size_push];exact Nat.ne_of_lt (Nat.lt_succ_of_lt lt)
  have nf:s.heap.objs.size ∉ [(s.heap.push (ah (!w.params.followText "set-order"))).objs.size,l]:=by
   rw[Heap.size_push];simp only[List.mem_cons,List.not_mem_nil,or_false,not_or];exact⟨Nat.ne_of_lt (Nat.lt_succ_self _),Nat.ne_of_gt lt⟩
  refine lG ((Walks.tuple (by simpa using hh') _ l ne items).toS) s.heap.objs.size nf ns hn hP hb items.size 0 _ (by omega) (Nat.zero_le _) ⟨⟨_,Heap.get?_push_size _ rfl,rfl,rfl⟩,hl1.push _⟩ (setJ_fresh.at fun o e=>Heap.get?_push_of_some _ e) fun s' hm hS=>?_
  exact wpAny_pure ((fin s' _ _ hm rfl hS))
end
theorem eO{α:Type}:∀(l:List α) (i:Nat) (x:α),l[i]? = some x->l.Perm (x::l.eraseIdx i)
 |a::l,0,x,h=>by
  have:a=x:=by simpa using h
  subst this;exact .refl _
 |a::l,i+1,x,h=>by
  have ih:=eO l i x (by simpa using h);rw[List.eraseIdx_cons_succ];exact(ih.cons a).trans (.swap x a _)
theorem oO{α:Type}(f:Nat->Nat):∀(n k:Nat) (l:List α) (out:Array α),l.length=n->(pickOrder.go f n k l out).toList.Perm (out.toList++l)
 | 0,k,l,out,h=>by
  have:l=[]:=List.length_eq_zero_iff.mp h;subst this;unfold pickOrder.go;simp
 |n+1,k,l,out,h=>by
  have hi:f k%l.length<l.length:=Nat.mod_lt _ (by omega);have hx:l[f k%l.length]? = some l[f k%l.length]:=by simp[hi]
  unfold pickOrder.go;rw[hx];have ih:=oO f n (k+1) (l.eraseIdx (f k%l.length)) (out.push l[f k%l.length]) (by rw[List.length_eraseIdx,if_pos hi];omega);refine ih.trans ?_;rw[Array.toList_push,List.append_assoc];exact(eO l _ _ hx).symm.append_left _
theorem jV{α:Type}(f:Nat->Nat)(xs:Array α):(pickOrder f xs).toList.Perm xs.toList:=by
 have:=oO f xs.size 0 xs.toList #[] (by simp);simpa[pickOrder]using this
theorem slot_si_next:Slot "set_iterator" "__next__" "set_iterator.__next__":=
 .of (owner:="set_iterator") (n:="__next__") (by rw[typeLookup_type,builtinLookup_eq_fast];kernel_rfl) (by decide +kernel) (by decide +kernel) (by decide +kernel)
  (by first|exact .inl (by decide +kernel)|exact .inr (by decide +kernel)) (by rw[isSubtype_type];kernel_rfl)
theorem jy:entryFor table "set_iterator.__next__" = some Builtin.«set_iterator.__next__»:=entryFor_of_tree (by kernel_rfl)
theorem lR:Manifest.owners.lookup (String.ofList ['r','o','t','a','r','e','t','i','_','t','e','s'].reverse)=some Manifest.sig_set_iterator:=by kernel_rfl
theorem kX(a:Value):argsOk "set_iterator.__next__" ⟨[a],[]⟩:=by
 unfold argsOk;rw[signature?_of (id:="set_iterator.__next__") (n:=['_','_','t','x','e','n','_','_']) (o:=['r','o','t','a','r','e','t','i','_','t','e','s']) (by kernel_rfl) lR];kernel_rfl
theorem dL:entryFor table "set.__iter__" = some Builtin.«frozenset.__iter__»:=
 entryFor_alias (id':="frozenset.__iter__") (by kernel_rfl) rfl (by decide +kernel) (by kernel_rfl)
section
variable{M:Model}{prog:Program}{w:World}{A:Around}{E:Value->Shared->Prop}{s:Shared}
theorem ki{src:Source}{n:Nat}{Q:Nat->Shared->Prop}(hn:n≠0)(h:∀k d,k<n->Q k { s with drawn:=d }):wpAny M A (choose src n) Q E s:=fun Γ p hΓ=>by
 show Sem.wp M Γ (.choose src n .pure) _ _ p s;rw[Sem.wp_choose];exact⟨hn,h _ _ (Nat.mod_lt _ (Nat.pos_of_ne_zero hn))⟩
theorem gz{α:Type}:∀(n:Nat) (xs:List α) (s:Shared) {Q:List α -> Shared->Prop},xs.length=n->(∀ys d,ys.Perm xs->Q ys { s with drawn:=d })->wpAny M A (drawOrder n xs) Q E s
 | 0,xs,s,Q,hn,h=>by
  have:xs=[]:=List.length_eq_zero_iff.mp hn;subst this;unfold drawOrder;exact wpAny_pure (h [] s.drawn (.refl _))
 |n+1,[],s,Q,hn,h=>by simp at hn
 |n+1,x::xs,s,Q,hn,h=>by
  unfold drawOrder;refine wpAny_bind (ki (by simp) fun k d hk=>?_)
  have hx:(x::xs)[k]? = some ((x::xs)[k]):=by simp[hk]
  rw[hx];refine wpAny_bind (gz n ((x::xs).eraseIdx k) _ (by rw[List.length_eraseIdx,if_pos hk];omega) fun ys d' p=>?_)
  exact wpAny_pure (h _ d' ((p.cons _).trans (eO _ _ _ hx).symm))
abbrev cm(es:Array (Int×Value))(ep:Nat)(t:SetTable):Obj:={ cls:=.type "set",dict:=none,data:=.set es ep t,slots:=#[] }
noncomputable def ip(first:Value)(i:Int)(a:Addr)(n ep:Int):Obj:={ cls:=.type "set_iterator",data:=.fields #[first,rawInt i,.ref a,rawInt n,rawInt ep] }
theorem dj{Q:Bool->Shared->Prop}(h:Q (w.params.followText "set-order") s):wpAny (model prog w) A setsByText Q E s:=by
 unfold setsByText;exact wpAny_bind (wpAny_askSetting (wpAny_pure h))
inductive Mode (w:World) (h:Heap) (a:Addr) (es:Array (Int×Value)) (ep:Nat) (t:SetTable) (vs:List Value):Nat->Value->Prop
 |text {i:Nat} {sl:Nat}:w.params.followText "set-order" = true->vs=(pickOrder (w.params.setOrder a ep) es).toList.map (·.2)->Mode w h a es ep t vs i (rawInt sl)
 |slots {i:Nat}:w.params.followText "set-order" = false->(!t.plain&&decide (es.size>1))=false->UpA t.place->vs=es.toList.map (·.2)->Mode w h a es ep t vs i (rawInt (if i=0 then 0 else t.place.getD (i-1) 0+1:Nat))
 |drawn {i:Nat} {tp:Addr} {o:Obj} {ps:List Nat} {k:Nat}:h.get? tp=some o->o.data=.seq (ps.map fun p:Nat=>rawInt (p:Int)).toArray k->vs.length=ps.length->(∀(j p:Nat),ps[j]? = some p->∃e:Int×Value,es[p]? = some e/\vs[j]? = some e.2)->Mode w h a es ep t vs i (.ref tp)
def SWk(w:World)(h:Heap)(I a:Addr)(vs:List Value)(tp:Addr)(i:Nat):Prop:=∃es ep t first,h.get? a=some (cm es ep t)/\t.fits es.size=true/\WkT (!w.params.followText "set-order") t/\vs.length=es.size/\h.get? I=some (ip first i a es.size ep)/\(∀b,first=.ref b->b=tp)/\Mode w h a es ep t vs i first
theorem Mode.keep{h h':Heap}{a tp:Addr}{es:Array (Int×Value)}{ep:Nat}{t:SetTable}{vs:List Value}{i:Nat}{first:Value}(m:Mode w h a es ep t vs i first)(hf:∀b,first=.ref b->b=tp)(k:∀o,h.get? tp=some o->h'.get? tp=some o):Mode w h' a es ep t vs i first:=by
 cases m with
 |text e1 e2=>exact .text e1 e2
 |slots e1 e2 e3 e4=>exact .slots e1 e2 e3 e4
 |drawn e1 e2 e3 e4=>
  have:=hf _ rfl;subst this;exact .drawn (k _ e1) e2 e3 e4
theorem cD{I:Addr}{first:Value}{i n ep:Int}{a:Addr}(h:s.heap.get? I=some (ip first i a n ep)):s.TypeIs (.ref I) "set_iterator":=⟨_,h,rfl⟩
theorem oG{I a:Addr}{first:Value}{i n:Nat}{es:Array (Int×Value)}{ep:Nat}{t:SetTable}{Q:Option Value->Shared->Prop}(hI:s.heap.get? I=some (ip first i a n ep))(ha:s.heap.get? a=some (cm es ep t))(hf:t.fits es.size=true)(hn:es.size=n)
  (h:wpAny (model prog w) A.in1 (if let .int slot _:=first then do
     match <-setNext a slot.toNat i ep with
     |some (x,next)=>
      setField (.ref I) 0 (rawInt next)
      setField (.ref I) 1 (rawInt ((i:Int)+1))
      ret x
     |none=>setField (.ref I) 2 .none;raiseNew (<-newExc (.type "StopIteration") [])
    else do
     let some places <-seqItems? first|unsupported "internal:set_iterator"
     match places[i]? with
     |some (.int place _)=>
      let x <-setNextDrawn a place.toNat ep
      setField (.ref I) 1 (rawInt ((i:Int)+1))
      ret x
     |some _=>unsupported "internal:set_iterator"
     |none=>setField (.ref I) 0 (rawInt 0);setField (.ref I) 2 .none;raiseNew (<-newExc (.type "StopIteration") []))
   (fun fin s'=>∃r,fin=.done (.ret r)/\Q (some r) s') (fun e s'=>wpAny (model prog w) A (do if <-isInstance e (.type "StopIteration")then pure none else throw e) Q E s') s):wpAny (model prog w) A (pyNext (.ref I)) Q E s:=by
 unfold pyNext;refine wpAny_bind (wpAny_attempt (wpAny_callSpecial?_slot (name:=Str.ofString "__next__") (cD hI) slot_si_next (wpAny_call_entry slot_si_next (cD hI) jy ?_ (kX _))));unfold Builtin.«set_iterator.__next__»;refine wpAny_bind (wpAny_of_eq (a:=(Value.ref I,[])) rfl ?_)
 try dsimp only
 refine wpAny_bind (wpAny_fieldsOf hI rfl ?_);show wpAny _ _ (setEntries a >>= fun q=>_) _ _ s;refine wpAny_bind (wpAny_setEntries_of ha rfl hf ?_);refine wpAny_ite_split (fun z=>absurd z (by simp[hn])) (fun _=>?_)
 simp only[Int.toNat_natCast];exact wpAny_mono h (fun fin s' q=>let ⟨r,e,q⟩:=q; ⟨r,e,wpAny_pure q⟩) fun _ _ e=>e
theorem kn{Q:Option Value->Shared->Prop}{P:PySem.Fin->Shared->Prop}(hh:A.handled=none)(h:∀h',(∀b o,s.heap.get? b=some o->h'.get? b=some o)->Q none { s with heap:=h' }):
  wpAny (model prog w) A.in1 (do
   let x <-newExc (.type "StopIteration") []
   raiseNew x) P (fun e s'=>wpAny (model prog w) A (do if <-isInstance e (.type "StopIteration")then pure none else throw e) Q E s') s:=by
 refine wpAny_bind ?_;simp only[newExc,newTuple];refine wpAny_bind (wpAny_newObj_type ?_ (by size_fits));refine wpAny_bind (m:=firstArgMember _ _) (wpAny_of_eq (a:=Value.none) (by first|rfl|(simp only[firstArgMember];rfl)) ?_);refine wpAny_newObj_type ?_ (by size_fits);simp only[raiseNew];refine wpAny_bind (wpAny_handled ?_);rw[show A.in1.handled=none from hh];refine wpAny_bind (wpAny_pure (wpAny_throw ?_));refine wpAny_bind (wpAny_isInstance (T:="StopIteration") (b:=true) ⟨_,Heap.get?_push_size _ rfl,rfl⟩ isSubtype_stop ?_);exact wpAny_pure (h _ fun b o e=>Heap.get?_push_of_some _ (Heap.get?_push_of_some _ e))
theorem aD{h:Heap}{I b:Addr}{f:Obj->Obj}{o:Obj}(hb:b≠I)(e:h.get? b=some o):(h.update I f).get? b=some o:=(Heap.get?_update_other _ _ (Ne.symm hb)).trans e
theorem fg{a:Addr}{es:Array (Int×Value)}{ep:Nat}{t:SetTable}{sl i:Nat}{Q:Option (Value×Nat)->Shared->Prop}(ha:s.heap.get? a=some (cm es ep t))(hf:t.fits es.size=true)(hT:w.params.followText "set-order" = true)(h:Q (((pickOrder (w.params.setOrder a ep) es)[i]?).map fun e=>(e.2,sl)) s):wpAny (model prog w) A (setNext a sl i ep) Q E s:=by
 unfold setNext;refine wpAny_bind (wpAny_setState_of ha rfl hf ?_);dsimp only;refine wpAny_bind (dj ?_);rw[hT,if_pos rfl];refine wpAny_ite_split (fun z=>absurd z (by simp)) (fun _=>?_)
 unfold setWalk;refine wpAny_bind (wpAny_bind (wpAny_setState_of ha rfl hf ?_));dsimp only;refine wpAny_bind (dj ?_);rw[hT,if_pos rfl];refine wpAny_bind (wpAny_askSetting (wpAny_pure ?_));exact wpAny_pure h
theorem fh{a:Addr}{es:Array (Int×Value)}{ep:Nat}{t:SetTable}{sl i:Nat}{Q:Option (Value×Nat)->Shared->Prop}(ha:s.heap.get? a=some (cm es ep t))(hf:t.fits es.size=true)(hT:w.params.followText "set-order" = false)(hp:(!t.plain&&decide (es.size>1))=false)(hw:t.led=true)
  (h:Q (match es[SetTable.below t.place sl]?,t.place[SetTable.below t.place sl]? with
   |some (_,x),some j=>some (x,j+1)
   |_,_=>none) s):wpAny (model prog w) A (setNext a sl i ep) Q E s:=by
 unfold setNext;refine wpAny_bind (wpAny_setState_of ha rfl hf ?_);dsimp only;refine wpAny_bind (dj ?_);rw[hT,if_neg (by decide)];show wpAny _ _ (if(!t.plain&&decide (es.size>1))=true then _ else _) _ _ _;rw[hp,if_neg (by decide)];show wpAny _ _ ((if(!t.led && !es.isEmpty)=true then _ else _) >>= _) _ _ _;rw[hw];simp only[Bool.not_true,Bool.false_and,Bool.false_eq_true,if_false];exact wpAny_bind (wpAny_pure (wpAny_pure h))
end
section
variable{prog:Program}{w:World}{A:Around}{E:Value->Shared->Prop}{s:Shared}
theorem en{t:SetTable}{n:Nat}(h:t.fits n=true):t.place.size=n:=by
 simp only[SetTable.fits,Bool.and_eq_true,beq_iff_eq]at h;exact h.1
theorem rJ{h:Heap}{I a:Addr}{first x:Value}{i n ep:Int}(hI:h.get? I=some (ip first i a n ep))(j:Int):((h.update I (Obj.mapFields (·.setIfInBounds 0 x))).update I (Obj.mapFields (·.setIfInBounds 1 (rawInt j)))).get? I=some (ip x j a n ep):=by
 have h1:=Heap.get?_update_self (Obj.mapFields (·.setIfInBounds 0 x)) hI rfl;exact Heap.get?_update_self (Obj.mapFields (·.setIfInBounds 1 (rawInt j))) h1 rfl
theorem wT{h:Heap}{I a:Addr}{first:Value}{i n ep:Int}(hI:h.get? I=some (ip first i a n ep))(j:Int):(h.update I (Obj.mapFields (·.setIfInBounds 1 (rawInt j)))).get? I=some (ip first j a n ep):=
 Heap.get?_update_self (Obj.mapFields (·.setIfInBounds 1 (rawInt j))) hI rfl
theorem ui{I a tp:Addr}{vs:List Value}{i:Nat}{v:Value}{Q:Option Value->Shared->Prop}(ha:a≠I)(ht:tp≠I)(hW:SWk w s.heap I a vs tp i)(hv:vs[i]? = some v)
  (hQ:∀h',SWk w h' I a vs tp (i+1)->(∀b o,b≠I->s.heap.get? b=some o->h'.get? b=some o)->Q (some v) { s with heap:=h' }):wpAny (model prog w) A (pyNext (.ref I)) Q E s:=by
 obtain⟨es,ep,t,first,e1,e2,e3,e4,e5,e6,e7⟩:=hW;have hi:i<vs.length:=(List.getElem?_eq_some_iff.mp hv).1;refine oG e5 e1 e2 rfl ?_;cases e7 with
 |text m1 m2=>
  rename_i sl;show wpAny _ _ (setNext a ((sl:Int)).toNat i ep >>= _) _ _ _;rw[Int.toNat_natCast];have hx:∃e,(pickOrder (w.params.setOrder a ep) es)[i]? = some e/\e.2=v:=by
   rw[m2,List.getElem?_map,Array.getElem?_toList]at hv;exact Option.map_eq_some_iff.mp hv
  obtain⟨e,q1,q2⟩:=hx;refine wpAny_bind (fg e1 e2 m1 ?_);rw[q1];dsimp only[Option.map];rw[q2];refine wpAny_bind (wpAny_setField e5 rfl (by simp) ?_);have g1:=Heap.get?_update_self (Obj.mapFields (·.setIfInBounds 0 (rawInt (sl:Int)))) e5 rfl;refine wpAny_bind (wpAny_setField g1 rfl (by simp) (wpAny_pure ⟨v,rfl,hQ _ ?_ fun b o hb eo=>aD hb (aD hb eo)⟩))
  exact⟨es,ep,t,rawInt sl,aD ha (aD ha e1),e2,e3,e4,rJ e5 _,fun b z=>(by cases z),.text m1 m2⟩
 |slots m1 m2 m3 m4=>
  have hz:=en e2;have hb:SetTable.below t.place (if i=0 then 0 else t.place.getD (i-1) 0+1)=i:=by
   by_cases z:i=0
   ·subst z;rw[if_pos rfl,jf m3]
   ·rw[if_neg z]
    have:i-1<t.place.size:=by omega
    have e:t.place.getD (i-1) 0=t.place[i-1]:=by simp[Array.getD,this]
    rw[e,jg m3 this];omega
  have hp:t.place[i]? = some (t.place.getD i 0):=by
   have:i<t.place.size:=by omega
   simp[Array.getD,this]
  obtain⟨e,q1,q2⟩:∃e,es[i]? = some e/\e.2=v:=by
   rw[m4,List.getElem?_map,Array.getElem?_toList]at hv;exact Option.map_eq_some_iff.mp hv
  obtain⟨eh,ev⟩:=e;have q2:ev=v:=q2;subst q2;show wpAny _ _ (setNext a (((if i=0 then 0 else t.place.getD (i-1) 0+1:Nat):Int)).toNat i ep >>= _) _ _ _;rw[Int.toNat_natCast];refine wpAny_bind (fh e1 e2 m1 m2 (by rw[e3.led,m1];rfl) ?_);rw[hb,q1,hp];dsimp only;refine wpAny_bind (wpAny_setField e5 rfl (by simp) ?_);have g1:=Heap.get?_update_self (Obj.mapFields (·.setIfInBounds 0 (rawInt ((t.place.getD i 0+1:Nat):Int)))) e5 rfl;refine wpAny_bind (wpAny_setField g1 rfl (by simp) (wpAny_pure ⟨ev,rfl,hQ _ ?_ fun b o hb eo=>aD hb (aD hb eo)⟩))
  have m:Mode w ((s.heap.update I (Obj.mapFields (·.setIfInBounds 0 (rawInt ((t.place.getD i 0+1:Nat):Int))))).update I (Obj.mapFields (·.setIfInBounds 1 (rawInt ((i:Int)+1))))) a es ep t vs (i+1) (rawInt (if i+1=0 then 0 else t.place.getD (i+1-1) 0+1:Nat)):=.slots m1 m2 m3 m4;rw[if_neg (by omega),Nat.add_sub_cancel]at m;exact⟨es,ep,t,_,aD ha (aD ha e1),e2,e3,e4,rJ e5 _,fun b z=>(by cases z),m⟩
 |drawn m1 m2 m3 m4=>
  rename_i tq o ps k;have:=e6 _ rfl;subst this;have hj:i<ps.length:=by omega
  have hp:ps[i]? = some ps[i]:=by simp[hj]
  obtain⟨e,q1,q2⟩:=m4 i _ hp;rw[hv]at q2;have q2:v=e.2:=by simpa using q2
  show wpAny _ _ (seqItems? (.ref tq) >>= _) _ _ _;refine wpAny_bind (wpAny_seqItems m1 m2 ?_);dsimp only;have pl:(ps.map fun p:Nat=>rawInt (p:Int)).toArray[i]? = some (rawInt (ps[i]:Int)):=by simp[hj]
  rw[pl];show wpAny _ _ (setNextDrawn a ((ps[i]:Int)).toNat ep >>= _) _ _ _;rw[Int.toNat_natCast];unfold setNextDrawn;refine wpAny_bind (wpAny_bind (wpAny_setState_of e1 rfl e2 ?_));dsimp only;refine wpAny_ite_split (fun z=>absurd z (by simp)) (fun _=>?_)
  rw[q1];refine wpAny_pure ?_;rw[<-q2];refine wpAny_bind (wpAny_setField e5 rfl (by simp) (wpAny_pure ⟨v,rfl,hQ _ ?_ fun b o hb eo=>aD hb eo⟩));exact⟨es,ep,t,.ref tq,aD ha e1,e2,e3,e4,wT e5 _,e6,.drawn (aD ht m1) m2 m3 m4⟩
theorem uj{I a tp:Addr}{vs:List Value}{Q:Option Value->Shared->Prop}(hh:A.handled=none)(hW:SWk w s.heap I a vs tp vs.length)
  (hQ:∀h',(∀b o,b≠I->s.heap.get? b=some o->h'.get? b=some o)->Q none { s with heap:=h' }):wpAny (model prog w) A (pyNext (.ref I)) Q E s:=by
 obtain⟨es,ep,t,first,e1,e2,e3,e4,e5,e6,e7⟩:=hW;refine oG e5 e1 e2 rfl ?_;cases e7 with
 |text m1 m2=>
  rename_i sl;show wpAny _ _ (setNext a ((sl:Int)).toNat vs.length ep >>= _) _ _ _;rw[Int.toNat_natCast];refine wpAny_bind (fg e1 e2 m1 ?_);have hx:(pickOrder (w.params.setOrder a ep) es)[vs.length]? = none:=by
   rw[<-Array.getElem?_toList,List.getElem?_eq_none_iff,m2,List.length_map];exact Nat.le_refl _
  rw[hx];dsimp only[Option.map];refine wpAny_bind (wpAny_setField e5 rfl (by simp) ?_);exact kn hh fun h' kp=>hQ h' fun b o hb eo=>kp b o (aD hb eo)
 |slots m1 m2 m3 m4=>
  have hz:=en e2;have hb:SetTable.below t.place (if vs.length=0 then 0 else t.place.getD (vs.length-1) 0+1)=vs.length:=by
   by_cases z:vs.length=0
   ·rw[if_pos z,jf m3,z]
   ·rw[if_neg z]
    have:vs.length-1<t.place.size:=by omega
    have e:t.place.getD (vs.length-1) 0=t.place[vs.length-1]:=by simp[Array.getD,this]
    rw[e,jg m3 this];omega
  show wpAny _ _ (setNext a (((if vs.length=0 then 0 else t.place.getD (vs.length-1) 0+1:Nat):Int)).toNat vs.length ep >>= _) _ _ _;rw[Int.toNat_natCast];refine wpAny_bind (fh e1 e2 m1 m2 (by rw[e3.led,m1];rfl) ?_);rw[hb];have hx:es[vs.length]? = none:=by rw[e4];simp
  rw[hx];dsimp only;refine wpAny_bind (wpAny_setField e5 rfl (by simp) ?_);exact kn hh fun h' kp=>hQ h' fun b o hb eo=>kp b o (aD hb eo)
 |drawn m1 m2 m3 m4=>
  rename_i tq o ps k;show wpAny _ _ (seqItems? (.ref tq) >>= _) _ _ _;refine wpAny_bind (wpAny_seqItems m1 m2 ?_);dsimp only;have pl:(ps.map fun p:Nat=>rawInt (p:Int)).toArray[vs.length]? = none:=by rw[m3];simp
  rw[pl];dsimp only;refine wpAny_bind (wpAny_setField e5 rfl (by simp) ?_);have g1:=Heap.get?_update_self (Obj.mapFields (·.setIfInBounds 0 (rawInt 0))) e5 rfl;refine wpAny_bind (wpAny_setField g1 rfl (by simp) ?_);exact kn hh fun h' kp=>hQ h' fun b o hb eo=>kp b o (aD hb (aD hb eo))
theorem SWk.frame{h h':Heap}{I a tp:Addr}{vs:List Value}{i:Nat}(x:SWk w h I a vs tp i)(k:∀b∈[I,a,tp],∀o,h.get? b=some o->h'.get? b=some o):SWk w h' I a vs tp i:=
 let ⟨es,ep,t,first,e1,e2,e3,e4,e5,e6,e7⟩:=x
 ⟨es,ep,t,first,k a (by simp) _ e1,e2,e3,e4,k I (by simp) _ e5,e6,e7.keep e6 (k tp (by simp))⟩
theorem jz:entryFor table "set_iterator.__iter__" = some Builtin.«dict_keyiterator.__iter__»:=
 entryFor_alias (id':="dict_keyiterator.__iter__") (by kernel_rfl) (by first|rfl|decide +kernel|(unfold String.splitOn;simp +decide [String.splitOnAux])) (by decide +kernel) (by kernel_rfl)
theorem e8:Slot "set_iterator" "__iter__" "set_iterator.__iter__":=
 .of (owner:="set_iterator") (n:="__iter__") (by rw[typeLookup_type,builtinLookup_eq_fast];kernel_rfl) (by decide +kernel) (by decide +kernel) (by decide +kernel)
  (by first|exact .inl (by decide +kernel)|exact .inr (by decide +kernel)) (by rw[isSubtype_type];kernel_rfl)
theorem kY(a:Value):argsOk "set_iterator.__iter__" ⟨[a],[]⟩:=by
 unfold argsOk;rw[signature?_of (id:="set_iterator.__iter__") (n:=['_','_','r','e','t','i','_','_']) (o:=['r','o','t','a','r','e','t','i','_','t','e','s']) (by kernel_rfl) lR];kernel_rfl
theorem lr(hh:A.handled=none){I a tp:Addr}(ha:a≠I)(ht:tp≠I)(vs:List Value):Walks prog w A I [I,a,tp] [I] vs.length (fun i v=>vs[i]? = some v) (fun i h=>SWk w h I a vs tp i) where
 sub:=fun b hb=>by simp at hb;simp[hb]
 frame:=fun _ _ _ st hk=>st.frame hk
 item:=fun i s Q E hi st hQ=>ui ha ht st (v:=vs[i]) (by simp[hi]) fun h' x k=>hQ _ h' s.toks (by simp[hi]) x fun b o hb e=>k b o (fun z=>hb (by simp[z])) e
 done:=fun s Q E st hQ=>uj hh st fun h' k=>hQ h' s.toks fun b o hb e=>k b o (fun z=>hb (by simp[z])) e
 self:=fun i s Q E st hQ=>by
  obtain⟨es,ep,t,first,e1,e2,e3,e4,e5,e6,e7⟩:=st;refine wpAny_pyIter_slot (cD e5) e8 (wpAny_call_entry e8 (cD e5) jz ?_ (kY _));exact wpAny_pure ⟨_,rfl,"set_iterator",_,cD e5,slot_si_next.lookup,hQ⟩
end
theorem fF:∀(l:List (Int×Value)),(∀e∈l,oy e)->IntsAre (l.map (·.2)) (l.map fun e=>ij e.2)
 |[],_=>.nil
 |e::l,h=>by
  obtain⟨k,t,rfl⟩:=h e List.mem_cons_self;exact .cons k t (fF l fun e he=>h e (List.mem_cons_of_mem _ he))
theorem iu(es:Array (Int×Value)):(List.range es.size).map (fun p=>es.getD p (0,.none))=es.toList:=by
 apply List.ext_getElem?;intro i;rw[List.getElem?_map];by_cases h:i<es.size
 ·rw[List.getElem?_range h]
  simp[Array.getD,h]
 ·rw[List.getElem?_eq_none (by rw[List.length_range];omega),List.getElem?_eq_none (by rw[Array.length_toList];omega)]
  rfl
section
variable{prog:Program}{w:World}{A:Around}{E:Value->Shared->Prop}{s:Shared}
theorem rL{a:Addr}{ns:List Int}{Q:Value->Shared->Prop}(hS:SetJ w s.heap a ns)
  (hQ:∀I tp h1 d vs ms,tp≠I->a≠I->(∀b o,s.heap.get? b=some o->h1.get? b=some o)->s.heap.objs.size<=I->I<h1.objs.size->(tp=a\/s.heap.objs.size<=tp)->SWk w h1 I a vs tp 0->IntsAre vs ms->ms.Perm ns->Q (.ref I) { s with heap:=h1,drawn:=d }):wpAny (model prog w) A (pyIter (.ref a)) Q E s:=by
 obtain⟨es,ep,t,ho,hel,hp,hb,hf,hw⟩:=hS;have hT:s.TypeIs (.ref a) "set":=⟨_,ho,rfl⟩;have lt:=Heap.lt_size ho;refine wpAny_pyIter_slot hT F.slot_set_iter (wpAny_call_entry F.slot_set_iter hT dL ?_ (F.args_set_iter_1 _));unfold Builtin.«frozenset.__iter__» Builtin.Frozenset.slot0;refine wpAny_bind (wpAny_bind (wpAny_of_eq (a:=(Value.ref a,[])) rfl ?_));unfold Builtin.Frozenset.addrOf Builtin.Frozenset.sizeOf;refine wpAny_pure ?_;refine wpAny_bind (wpAny_bind (wpAny_setEntries_of ho rfl hf (wpAny_pure ?_)));unfold setDrawn;refine wpAny_bind (wpAny_bind (wpAny_setState_of ho rfl hf ?_));dsimp only;refine wpAny_bind (dj (wpAny_pure ?_));have plain:∀vs ms,IntsAre vs ms->ms.Perm ns->vs.length=es.size->(∀h1:Heap,Mode w h1 a es ep t vs 0 (rawInt (0:Nat)))->wpAny (model prog w) A.in1 (do
   let ep <-setEpoch a
   let x <-newFields "set_iterator" [rawInt 0,rawInt 0,.ref a,rawInt es.size,rawInt ep]
   ret x) (fun fin s'=>∃v,fin=.done (.ret v)/\∃T' r,s'.TypeIs v T'/\typeLookup (.type T') "__next__" = pure (some r)/\Q v s') E s:=fun vs ms q1 q2 q3 q4=>by
  refine wpAny_bind (wpAny_setEpoch_of ho rfl hf ?_);refine wpAny_bind (wpAny_newObj_type (wpAny_pure ⟨_,rfl,"set_iterator",_,⟨_,Heap.get?_push_size _ rfl,rfl⟩,slot_si_next.lookup,?_⟩));refine hQ s.heap.objs.size a _ s.drawn vs ms (Nat.ne_of_lt lt) (Nat.ne_of_lt lt) (fun b o e=>Heap.get?_push_of_some _ e) (Nat.le_refl _) (by rw[Heap.size_push];exact Nat.lt_succ_self _) (.inl rfl) ⟨es,ep,t,rawInt (0:Nat),Heap.get?_push_of_some _ ho,hf,hw,q3,Heap.get?_push_size _ rfl,fun b z=>(by cases z),q4 _⟩ q1 q2
 cases hb1:w.params.followText "set-order" with
 |true=>
  simp only[Bool.not_true,Bool.false_and,Bool.false_eq_true,if_false];have pp:=jV (w.params.setOrder a ep) es;refine plain ((pickOrder (w.params.setOrder a ep) es).toList.map (·.2)) _ (fF _ fun e he=>hel e (pp.mem_iff.mp he)) ((pp.map _).trans hp) (by rw[List.length_map,pp.length_eq,Array.length_toList]) fun h1=>.text hb1 rfl
 |false=>
  by_cases hd:(!t.plain&&decide (es.size>1))=true
  ·show wpAny _ _ (if(!false&&(!t.plain&&decide (es.size>1)))=true then _ else _) _ _ _
   rw[hd];simp only[Bool.not_false,Bool.and_self,if_true];refine wpAny_bind (gz es.size (List.range es.size) s (List.length_range ..) fun ys d py=>?_)
   have hlen:ys.length=es.size:=by rw[py.length_eq,List.length_range]
   refine wpAny_bind (wpAny_newObj_type ?_ (by show(List.toArray _).size<=sizeLine;rw[List.size_toArray,List.length_map,hlen];have:=hp.length_eq;rw[List.length_map,Array.length_toList]at this;exact fits_of_scanBound (by omega)));have ho1:=Heap.get?_push_of_some { cls:=.type "tuple",data:=.seq (ys.map fun i:Nat=>rawInt (i:Int)).toArray } ho
   refine wpAny_bind (wpAny_setEpoch_of ho1 rfl hf ?_);refine wpAny_bind (wpAny_newObj_type (wpAny_pure ⟨_,rfl,"set_iterator",_,⟨_,Heap.get?_push_size _ rfl,rfl⟩,slot_si_next.lookup,?_⟩));have pe:(ys.map fun p=>es.getD p (0,.none)).Perm es.toList:=by
    have:=py.map fun p=>es.getD p (0,.none)
    rwa [iu]at this
   refine hQ (s.heap.push { cls:=.type "tuple",data:=.seq (ys.map fun i:Nat=>rawInt (i:Int)).toArray }).objs.size s.heap.objs.size _ d ((ys.map fun p=>es.getD p (0,.none)).map (·.2)) _ ?_ ?_ (fun b o e=>Heap.get?_push_of_some _ (Heap.get?_push_of_some _ e)) (by rw[Heap.size_push];exact Nat.le_succ _) (Heap.lt_size (Heap.get?_push_size _ rfl)) (.inr (Nat.le_refl _)) ⟨es,ep,t,.ref s.heap.objs.size,Heap.get?_push_of_some _ ho1,hf,hw,by simp[hlen],Heap.get?_push_size _ rfl,fun b z=>by injection z with z;exact z.symm,?_⟩ (fF _ fun e he=>hel e (pe.mem_iff.mp he)) ((pe.map _).trans hp)
   ·rw[Heap.size_push];exact Nat.ne_of_lt (Nat.lt_succ_self _)
   ·rw[Heap.size_push];exact Nat.ne_of_lt (Nat.lt_succ_of_lt lt)
   ·refine .drawn (ps:=ys) (Heap.get?_push_of_some _ (Heap.get?_push_size _ rfl)) rfl (by simp) fun j p hj=>?_
    have hpn:p<es.size:=List.mem_range.mp (py.mem_iff.mp (List.mem_of_getElem? hj));refine⟨es.getD p (0,.none),by simp[Array.getD,hpn],?_⟩;rw[List.getElem?_map,List.getElem?_map,hj];rfl
  ·show wpAny _ _ (if(!false&&(!t.plain&&decide (es.size>1)))=true then _ else _) _ _ _
   have hd':(!t.plain&&decide (es.size>1))=false:=by simpa using hd
   rw[hd'];simp only[Bool.not_false,Bool.and_false,Bool.false_eq_true,if_false];have up:UpA t.place:=by
    cases hpl:t.plain with
    |true=>exact hw.up hpl
    |false=>
     rw[hpl]at hd';have h1:es.size<=1:=by simpa using hd'
     have h2:=en hf;intro i j hi hj hij;omega
   refine wpAny_bind (wpAny_pure ?_);refine plain (es.toList.map (·.2)) _ (fF _ hel) hp (by simp) fun h1=>?_
   have:=Mode.slots (w:=w) (h:=h1) (a:=a) (ep:=ep) (i:=0) hb1 hd' up (es:=es) rfl;simpa using this
theorem mI{r:Addr}{Q:Bool->Shared->Prop}(hT:s.TypeIs (.ref r) "set")(h:Q false s):wpAny (model prog w) A (Builtin.List.listLengthHint (.ref r)) Q E s:=by
 unfold Builtin.List.listLengthHint;refine wpAny_bind (wpAny_specialOf hT PySem.F.slot_set_len.lookup ?_);generalize hid:("set.__len__":String)=id0
 wp_delta
 rw[show splitId id0=some ("set","__len__")from by subst hid;decide +kernel];subst hid;refine wpAny_bind (wpAny_isInstance (T:="set") (b:=true) hT (by rw[isSubtype_type];kernel_rfl) ?_);refine wpAny_ite_split (fun z=>absurd z (by decide)) (fun _=>wpAny_ite_split (fun _=>?_) (fun z=>absurd (by decide +kernel) z))
 exact wpAny_bind (wpAny_typeOf hT (wpAny_pure h))
end
section
variable{prog:Program}{w:World}{A:Around}{E:Value->Shared->Prop}{s:Shared}
theorem mE{vs:List Value}{acc:Array Value}(h:ItemsOf (fun i v=>vs[i]? = some v) acc vs.length):acc.toList=vs:=by
 obtain⟨h1,h2⟩:=h;apply List.ext_getElem?;intro i;rw[Array.getElem?_toList];cases e:acc[i]? with
 |some v=>exact(h2 i v e).symm
 |none=>
  have:acc.size<=i:=by simpa using e
  rw[List.getElem?_eq_none (by omega)]
theorem mQ{a:Addr}{ns:List Int}{R:List Value->Shared->Prop}(hh:A.handled=none)(hS:SetJ w s.heap a ns)
  (h:∀h' d tk vs ms,(∀b o,s.heap.get? b=some o->h'.get? b=some o)->IntsAre vs ms->ms.Perm ns->R vs { s with heap:=h',drawn:=d,toks:=tk }):wpAny (model prog w) A (collect (.ref a)) R E s:=by
 have hsz:ns.length<scanBound:=by obtain⟨es,ep,t,ho,hel,hp,hb,hf,hw⟩:=hS;exact hb
 have lta:a<s.heap.objs.size:=by obtain⟨es,ep,t,ho,hel,hp,hb,hf,hw⟩:=hS;exact Heap.lt_size ho
 unfold collect;refine wpAny_bind (wpAny_runValue (codeAny_builtin entry_proto_collect' ?_));rw[Around.under_plainId PySem.F.plain_proto_collect _];refine wpAny_bind (m:=newList []) (wpAny_newObj_type ?_);refine wpAny_pure ⟨plainId_quiet PySem.F.plain_list_iadd _,codeAny_builtin entry_list_iadd' ?_⟩;rw[Around.under_plainId PySem.F.plain_list_iadd _];show wpAny _ A.in1 (Builtin.List.listExtendWith (.ref s.heap.objs.size) (.ref a) (.ref s.heap.objs.size)) _ _ _;unfold Builtin.List.listExtendWith;have kp1:∀b o,s.heap.get? b=some o->(s.heap.push { cls:=.type "list",data:=.seq ([]:List Value).toArray }).get? b=some o:=fun b o e=>Heap.get?_push_of_some _ e
 have hS1:=hS.at fun o e=>kp1 a o e
 have hL:(s.heap.push { cls:=.type "list",data:=.seq ([]:List Value).toArray }).get? s.heap.objs.size=some { cls:=.type "list",data:=.seq #[] 0 }:=Heap.get?_push_size _ rfl;have hT:∀{s1:Shared},SetJ w s1.heap a ns->s1.TypeIs (.ref a) "set":=fun q=>by obtain⟨es,ep,t,ho,r⟩:=q;exact⟨_,ho,rfl⟩
 refine wpAny_bind (wpAny_typeOf (T:="set") (hT hS1) ?_);have h1:Builtin.List.listSameRef (.ref s.heap.objs.size) (.ref a)=false:=by simp[Builtin.List.listSameRef];exact Nat.ne_of_gt lta
 have h2:(Value.type "set" == Value.type "list")=false:=by decide
 have h3:(Value.type "set" == Value.type "tuple")=false:=by decide
 simp only[h1,h2,h3,Bool.or_false,Bool.false_eq_true,if_false];refine wpAny_bind (rL hS1 fun I tp h1 d vs ms htp haI kp2 hI hI2 htp2 sw iv pm=>?_);have ltL:s.heap.objs.size<(s.heap.push { cls:=.type "list",data:=.seq ([]:List Value).toArray }).objs.size:=Heap.lt_size hL;have neI:s.heap.objs.size≠I:=fun z=>by
  have q:s.heap.objs.size<I:=Nat.lt_of_lt_of_le ltL hI;rw[<-z]at q;exact Nat.lt_irrefl _ q
 have neT:s.heap.objs.size≠tp:=fun z=>by
  rcases htp2 with q|q
  ·rw[q]at z;exact absurd lta (by rw[z];exact Nat.lt_irrefl _)
  ·rw[<-z]at q;exact absurd ltL (Nat.not_lt.mpr q)
 have hL1:=kp2 _ _ hL;refine wpAny_bind (wpAny_holding (mI (hT (s1:={ s with heap:=h1,drawn:=d }) (hS1.at fun o e=>kp2 a o e)) ?_));have fin:∀(RR:Result->Shared->Prop) (hR:∀s',wpAny (model prog w) A (load s.heap.objs.size >>= fun o=>match o.data with
   |.seq xs _=>pure xs.toList
   |_=>unsupported "internal:collect") R E s'->RR (.ok (.ret (.ref s.heap.objs.size))) s') (h2:Heap) (c:Nat),h2.get? s.heap.objs.size=some { cls:=.type "list",data:=.seq #[] c }->(∀b o,b≠s.heap.objs.size->h1.get? b=some o->h2.get? b=some o)->codeAny (model prog w) A (.builtin "list.extend.loop" ⟨[.ref s.heap.objs.size,.ref I,.ref s.heap.objs.size],[]⟩) RR { s with heap:=h2,drawn:=d }:=fun RR hR h2 c e2 k2=>by
  have W:=(lr (prog:=prog) (w:=w) (A:=A.in1) hh haI htp vs).toS;have vl:vs.length=ns.length:=by rw[<-pm.length_eq];exact IntsAre.length iv
  refine codeAny_extend_loopS W (by rw[vl];exact fits_of_scanBound hsz) s.heap.objs.size (by simp only[List.mem_cons,List.not_mem_nil,or_false,not_or];exact⟨neI,Nat.ne_of_gt lta,neT⟩) (.ref s.heap.objs.size) vs.length 0 _ #[] c rfl (Nat.zero_le _) (sw.frame fun b hb o e=>?_) e2 (ItemsOf.nil _) fun s' acc c' hm hS' hacc=>?_
  ·refine k2 b o (fun z=>?_) e
   simp only[List.mem_cons,List.not_mem_nil,or_false]at hb;rcases hb with rfl|rfl|rfl
   ·exact neI z.symm
   ·exact Nat.ne_of_lt lta z
   ·exact neT z.symm
  ·refine hR s' (wpAny_bind (wpAny_load hS' (wpAny_pure ?_)))
   rw[mE hacc];obtain⟨h',g',d',tk',os'⟩:=s';have eg:g'=s.gens:=hm.gens;have ed:d'=d:=hm.drawn;have eo:os'=s.os:=hm.os;subst eg ed eo;refine h h' d' tk' vs ms (fun b o e=>?_) iv pm;have lt:=Heap.lt_size e;refine hm.heap b o ?_ (k2 b o (Nat.ne_of_lt lt) (kp2 b o (kp1 b o e)));simp only[List.mem_cons,List.not_mem_nil,or_false,not_or];exact⟨Nat.ne_of_lt lt,fun z=>by
    have q:b<I:=Nat.lt_trans lt (Nat.lt_of_lt_of_le ltL hI);rw[z]at q;exact Nat.lt_irrefl _ q⟩
 refine wpAny_ite_split (fun _=>?_) (fun _=>wpAny_pure ⟨plainId_quiet PySem.F.plain_extend_loop _,fin _ (fun s' q=>q) h1 0 hL1 fun b o _ e=>e⟩)
 refine wpAny_bind (wpAny_rule ?_);refine wpAny_bind ?_;show wpAny _ _ (updateSeq s.heap.objs.size (·.push .none) >>= fun _=>updateSeq s.heap.objs.size (·.pop)) _ _ _
 refine wpAny_bind (wpAny_updateSeq hL1 rfl ?_);have g2:=Heap.get?_update_self (Obj.mapSeq (·.push Value.none)) hL1 rfl;refine wpAny_updateSeq (hz:=by seq_fits) g2 rfl ?_;have g3:=Heap.get?_update_self (Obj.mapSeq (·.pop)) g2 rfl;exact wpAny_pure ⟨plainId_quiet PySem.F.plain_extend_loop _,fin _ (fun s' q=>q) _ _ g3 fun b o hb e=>aE hb (aE hb e)⟩
end
section
variable{X:Cx}
theorem Inv.keptD{pins:List (Addr×Obj)}{σ:St}{H:Hp}{s:Shared}{h':Heap}{t':Nat}{d:Drawn}(I:Inv X pins σ H s)(k:∀b u,s.heap.get? b=some u->h'.get? b=some u):Inv X pins σ H { s with heap:=h',drawn:=d,toks:=t' }:=by
 obtain⟨a1,a2,a3,a4,a5,a6,a7,a8,a9,a10,a11⟩:=I.kept (t':=t') k;exact⟨a1,a2,a3,a4,a5,a6,a7,a8,a9,a10,a11⟩
theorem ni(hc:X.calm=true){pins:List (Addr×Obj)}{σ:St}{H:Hp}{s:Shared}{a:Addr}{ns:List Int}{Q:VK}(I:Inv X pins σ H s)(hS:SetJ X.w s.heap a ns)(h64:ns.length<64)(q:∀l,H l=none->Q (.ref l) (upd H l (.lst ((aU ns).map V.int)))):
  wpAny (model X.prog X.w) X.A (call (.builtin "sorted") [.ref a]) (EP X pins σ Q) X.xe s:=by
 refine Calls.call_function_entry kind_sorted plain_sorted entry_sorted (args_sorted1 _) ?_;unfold Builtin.«sorted»;refine wpAny_bind (m:=checkCount "sorted" 1 1 _) (wpAny_pure ?_);refine wpAny_bind (mQ (I.ok.hd hc) hS fun h' d tk acc ms hk' hI pm=>?_)
 have hln:acc.length=ns.length:=by rw[<-pm.length_eq];exact IntsAre.length hI
 refine wpAny_bind (wpAny_newList ?_ (by rw[hln,sizeLine_eq];omega));have hoL:(h'.push (seqObj "list" acc.toArray 0)).get? h'.objs.size=some (seqObj "list" acc.toArray 0):=Heap.get?_push_size _ rfl;refine wpAny_bind (wpAny_holding (wpAny_call_entry slot_list_sort ⟨_,hoL,rfl⟩ entry_list_sort (list_sort_tree hoL hI (by rw[hln];exact h64) fun out ns' a1 a2 a3=>⟨_,rfl,?_⟩) (args_list_sort _)))
 refine wpAny_pure ⟨_,rfl,?_⟩;have e:=gc (a2.trans pm) a3;subst e;have I1:Inv X pins σ H { s with heap:=h',drawn:=d,toks:=tk }:=Inv.keptD I hk';have kp:∀b o,h'.get? b=some o->(sortedHeap (h'.push (seqObj "list" acc.toArray 0)) h'.objs.size acc out).get? b=some o:=fun b o eo=>by
  have hb:b≠h'.objs.size:=Nat.ne_of_lt (Heap.lt_size eo);exact aE hb (Heap.get?_push_of_some _ (Heap.get?_push_of_some _ (aE hb (Heap.get?_push_of_some _ eo))))
 obtain⟨e1,ho1⟩:∃e1,((h'.push (seqObj "list" acc.toArray 0)).update h'.objs.size (Obj.mapSeq fun _=>#[])).get? h'.objs.size=some (seqObj "list" #[] e1):=⟨_,get?_update_seq hoL (fun _=>#[])⟩;have ho2:=Heap.get?_push_of_some (seqObj "list" #[] 0) (Heap.get?_push_of_some (seqObj "tuple" acc.toArray 0) ho1);have ho3:=get?_update_seq ho2 (fun _=>out);have L:=I1.laid (h':=sortedHeap (h'.push (seqObj "list" acc.toArray 0)) h'.objs.size acc out) (a:=h'.objs.size) (o:=.lst ((aU ns).map V.int)) (t':=tk) kp (Nat.le_refl _)
  (show ObjOk X.prog X.w _ _ _ (.lst ((aU ns).map V.int))from ⟨by rw[List.length_map,(ck ns).length_eq,sizeLine_eq];omega,out.toList,_,bY a1,by rw[Array.toArray_toList];exact ho3⟩)
 exact⟨.ref h'.objs.size,_,L,rfl,q _ (I1.hok.fresh (Nat.le_refl _))⟩
variable{e:Expr}{p p2 pos pos2:Pos}{te:TE}{f:Dv->Option D}
def y7(X:Cx)(te:TE):TE:=fun σ H Q=>te σ H fun v H1=>∃(a:Addr) (l:List Int),[v]=[V.ref a]/\(SqL X.K H1 a (l.map V.int)\/SqT X.K H1 a (l.map V.int))/\l.length<64/\∀b,H1 b=none->Q (.ref b) (upd H1 b (.lst ((aU (dQ l)).map V.int)))
theorem eG:∀{l:List Int} {us:List Value},Vals (l.map V.int) us->IntsAre us l
 |[],[],.nil=>.nil
 |n::l,u::us,.cons h r=>by
  obtain⟨t,rfl⟩:=h;exact .cons n t (eG r)
theorem uN(hc:X.calm=true)(hg:Gl X "sorted")(hm:X.mg "sorted" = none)(hg':Gl X "set")(hm':X.mg "set" = none)(ha:PE X e te)
  (he:starEach [.Call (.Name "set" p2) [e] [] pos2] X.env=(false,eval (.Call (.Name "set" p2) [e] [] pos2) X.env)::starEach [] X.env:=by rfl)
  (he2:starEach [e] X.env=(false,eval e X.env)::starEach [] X.env:=by rfl) (hpl:(backTo pos (starEach [] X.env)).any (·.1)=false:=by rfl) (hpl2:(backTo pos2 (starEach [] X.env)).any (·.1)=false:=by rfl) :
  PE X (.Call (.Name "sorted" p) [.Call (.Name "set" p2) [e] [] pos2] [] pos) (y7 X te):=by
 intro pins s σ H Q I h;refine wpAny_Call_Name_kw (dy I hg hm (u:=.builtin "sorted") (by decide +kernel) ?_ (by decide) (by decide));refine PyProof.Rows.callWith_builtin1 ?_ he hpl;rw[he];show wpAny _ _ (spliced ((false,eval _ X.env)::backTo pos (starEach [] X.env))) _ _ s;refine Calls.spliced_cons ?_;refine wpAny_Call_Name_kw (dy I hg' hm' (u:=.type "set") (by decide +kernel) ?_ (by decide) (by decide));refine PyProof.Rows.callWith_type1 (aY (cP ha eK he2 pos2 pins s σ H (fun xs H1=>∃(a:Addr) (l:List Int),xs=[V.ref a]/\(SqL X.K H1 a (l.map V.int)\/SqT X.K H1 a (l.map V.int))/\l.length<64/\∀b,H1 b=none->Q (.ref b) (upd H1 b (.lst ((aU (dQ l)).map V.int)))) I (by exact h)) fun us s1 ⟨vs,H1,I1,r1,q1⟩=>?_) he2 hpl2
 obtain⟨a,l,e1,hsq,h64,q⟩:=q1;subst e1;obtain⟨u,rfl,rx⟩:=ii r1;cases rx;obtain⟨its,iv,hl,hz⟩:∃its:List Value,IntsAre its l/\(s1.heap.IsList a its.toArray\/s1.heap.IsTuple a its.toArray)/\its.length=l.length:=by
  rcases hsq with hsq|hsq
  ·obtain⟨its,r,⟨o,n,e1,e2,e3,e4⟩,z⟩:=I1.list hsq
   exact⟨its,eG r,.inl ⟨o,e1,e2,n,e4⟩,by rw[<-r.length,List.length_map]⟩
  ·obtain⟨its,r,⟨o,e1,e2,n,e3⟩,z⟩:=I1.tuple hsq
   exact⟨its,eG r,.inr ⟨o,e1,e2,n,e3⟩,by rw[<-r.length,List.length_map]⟩
 refine jE (I1.ok.hd hc) hl (by simpa using iv) (by rw[List.size_toArray,hz];unfold scanBound;omega) fun h' tk hS kp=>?_
 refine Calls.spliced_nil ?_;have sl:(dQ l).length<=l.length:=by
  have:=iq l [];simpa[dQ]using this
 exact ni hc (I1.kept kp) hS (by omega) fun b hb=>q b hb
theorem fH{K:Fg}{Z:Hp}:∀{vs:List V} {ds:List D} {l:List Int},Reps K Z vs ds->mH ds=some l->vs=l.map V.int
 |_,_,_,.nil,h=>by cases h;rfl
 |_,.int i::ds,l,.cons r rs,h=>by
  obtain⟨l',e,h⟩:=bind_some h;cases h;rw[r.int_eq,fH rs e];rfl
 |_,.none::ds,l,.cons r rs,h=>by cases h
 |_,.bool _::ds,l,.cons r rs,h=>by cases h
 |_,.str _::ds,l,.cons r rs,h=>by cases h
 |_,.list _::ds,l,.cons r rs,h=>by cases h
 |_,.tuple _::ds,l,.cons r rs,h=>by cases h
 |_,.dict _::ds,l,.cons r rs,h=>by cases h
theorem vx(hg:Gl X "sorted")(hm:X.mg "sorted" = none)(hg':Gl X "set")(hm':X.mg "set" = none)(ha:EV X e f)(hc:X.calm=true:=by rfl)
  (he:starEach [.Call (.Name "set" p2) [e] [] pos2] X.env=(false,eval (.Call (.Name "set" p2) [e] [] pos2) X.env)::starEach [] X.env:=by rfl)
  (he2:starEach [e] X.env=(false,eval e X.env)::starEach [] X.env:=by rfl) (hpl:(backTo pos (starEach [] X.env)).any (·.1)=false:=by rfl) (hpl2:(backTo pos2 (starEach [] X.env)).any (·.1)=false:=by rfl) :
  EV X (.Call (.Name "sorted" p) [.Call (.Name "set" p2) [e] [] pos2] [] pos) (o1 f lC):=
 PE.imp (uN hc hg hm hg' hm' ha he he2 hpl hpl2) fun σ H Q h=>by
  obtain⟨H₀,Z₀,Z,δ,d,hh,e,k⟩:=h;obtain⟨d1,e1,e⟩:=bind_some e;refine⟨H₀,Z₀,Z,δ,d1,hh,e1,fun v Z1 H1 hh1 t1 r1=>?_⟩
  unfold lC at e;obtain⟨ds,e2,e⟩:=bind_some e;obtain⟨l,e3,e⟩:=bind_some e;obtain⟨h64,e⟩:=cJ e;cases e;have key:∀b,H1 b=none->Q (.ref b) (upd H1 b (.lst ((aU (dQ l)).map V.int))):=fun b hb=>by
   have n:=New.add hh1.zh hb (.lst ((aU (dQ l)).map V.int));exact k _ _ _ (hh1.new n) (t1.trans n.z) (.lst (SqL.of al) (Reps.ints _))
  cases r1 with
  |lst sq rs=>
   cases e2;have:=fH rs e3;subst this;exact⟨_,l,rfl,.inl (SqL.same sq hh1.zh),h64,key⟩
  |tup sq rs=>
   cases e2;have:=fH rs e3;subst this;exact⟨_,l,rfl,.inr (SqT.same sq hh1.zh),h64,key⟩
  |_=>cases e2
end
end VL
namespace VL
open PySem PySem.Spec PyProof.Rows
noncomputable def bU:Bool->Keyed->Array Keyed->Nat->Nat->Nat->StateT SortSt Sem (Option Nat):=sortPriv% PySem.Builtin.gallop
noncomputable def bA:Nat->StateT SortSt Sem Unit:=sortPriv% PySem.Builtin.setMinGallop
noncomputable def iF:Array Keyed->Array Keyed->StateT SortSt Sem (Array Keyed):=sortPriv% PySem.Builtin.mergeLo
noncomputable def iG:Array Keyed->Array Keyed->StateT SortSt Sem (Array Keyed):=sortPriv% PySem.Builtin.mergeHi
noncomputable def dB(left:Bool)(key:Keyed)(arr:Array Keyed)(base i:Nat):StateT SortSt Sem (Option Bool):=do
 let x <-elem' arr (base+i)
 if left then lt' x key else return (<-lt' key x).map (!·)
theorem nS(left:Bool)(key:Keyed)(arr:Array Keyed)(base n hint:Nat):bU left key arr base n hint=(do
 let mut lastofs:=0
 let mut ofs:=1
 let mut lo:=0
 let mut hi:=0
 let some right <-dB left key arr base hint|return none
 if right then
  let maxofs:=n-hint
  for _ in [0:n] do
   if ofs>=maxofs then break
   let some more <-dB left key arr base (hint+ofs)|return none
   if !more then break
   lastofs:=ofs
   ofs:=2*ofs+1
  lo:=hint+lastofs+1
  hi:=hint+min ofs maxofs
 else
  let maxofs:=hint+1
  for _ in [0:n] do
   if ofs>=maxofs then break
   let some found <-dB left key arr base (hint-ofs)|return none
   if found then break
   lastofs:=ofs
   ofs:=2*ofs+1
  lo:=hint+1-min ofs maxofs
  hi:=hint-lastofs
 for _ in [0:n] do
  if lo>=hi then break
  let m:=lo+(hi-lo)/2
  let some more <-dB left key arr base m|return none
  if more then lo:=m+1 else hi:=m
 return some hi):=rfl
section
variable{M:Model}{A:Around}{E:Value->Shared->Prop}{s:Shared}{st:SortSt}
theorem gM{left:Bool}{key:Keyed}{arr:Array Keyed}{base n:Nat}{B:Nat->Bool}{lo hi:Nat}{Q:Option (Option Nat)×Nat×Nat->SortSt->Prop}
  (hb:∀i,i<n->∀Q:Option Bool->SortSt->Prop,Q (some (B i)) st->wpS M A E s (dB left key arr base i) Q st) (mono:∀i j,i<=j->j<n->B j=true->B i=true)
  (h1:lo<=hi) (h2:hi<=n) (hlo:∀i,i<lo->B i=true) (hhi:∀i,hi<=i->i<n->B i=false)
  (h:∀r,r<=n->(∀i,i<r->B i=true)->(∀i,r<=i->i<n->B i=false)->Q (none,r,r) st) :
  wpS M A E s (forIn [0:n] ((none,lo,hi):Option (Option Nat)×Nat×Nat) fun _ c=>do
   if c.2.1>=c.2.2 then pure (ForInStep.done (none,c.2.1,c.2.2))else do
    let x <-dB left key arr base (c.2.1+(c.2.2-c.2.1)/2)
    match x with
    |some more=>if more=true then pure (ForInStep.yield (none,c.2.1+(c.2.2-c.2.1)/2+1,c.2.2))else pure (ForInStep.yield (none,c.2.1,c.2.1+(c.2.2-c.2.1)/2))
    |_=>pure (ForInStep.done (some none,c.2.1,c.2.2))) Q st:=by
 refine wpS_forRange (I:=fun t c st'=>st'=st/\∃lo hi,c=(none,lo,hi)/\lo<=hi/\hi<=n/\hi-lo<=n-t/\(∀i,i<lo->B i=true)/\(∀i,hi<=i->i<n->B i=false)) ?step ?fin ⟨rfl,lo,hi,rfl,h1,h2,by omega,hlo,hhi⟩
 case fin=>
  rintro c st' ⟨rfl,lo,hi,rfl,a1,a2,a3,a4,a5⟩;have:lo=hi:=by omega
  subst this;exact h lo a2 a4 a5
 case step=>
  rintro t c st' _ ht ⟨rfl,lo,hi,rfl,a1,a2,a3,a4,a5⟩;dsimp only;by_cases q:lo>=hi
  ·rw[if_pos q]
   have:lo=hi:=by omega
   subst this;exact wpS_pure (h lo a2 a4 a5)
  ·rw[if_neg q]
   refine wpS_bind (hb _ (by omega) _ ?_);dsimp only;cases e:B (lo+(hi-lo)/2)with
   |true=>
    simp only[if_true];refine wpS_pure ⟨rfl,_,_,rfl,by omega,a2,by omega,fun i hi'=>mono i _ (by omega) (by omega) e,a5⟩
   |false=>
    simp only[Bool.false_eq_true,if_false];refine wpS_pure ⟨rfl,_,_,rfl,by omega,by omega,by omega,a4,fun i h3 h4=>?_⟩
    cases e2:B i with
    |false=>rfl
    |true=>rw[mono _ i h3 h4 e2]at e;cases e
theorem mY{left:Bool}{key:Keyed}{arr:Array Keyed}{base n hint:Nat}{B:Nat->Bool}{Q:Option Nat->SortSt->Prop}(hh:hint<n)
  (hb:∀i,i<n->∀Q:Option Bool->SortSt->Prop,Q (some (B i)) st->wpS M A E s (dB left key arr base i) Q st) (mono:∀i j,i<=j->j<n->B j=true->B i=true)
  (h:∀r,r<=n->(∀i,i<r->B i=true)->(∀i,r<=i->i<n->B i=false)->Q (some r) st) :
  wpS M A E s (bU left key arr base n hint) Q st:=by
 rw[nS];refine wpS_bind (hb hint hh _ ?_);dsimp only;cases e:B hint with
 |true=>
  simp only[if_true];refine wpS_bind (wpS_mono (wpS_forRange (I:=fun t c st'=>st'=st/\∃last ofs,c=(none,last,ofs)/\last<ofs/\t+1<=ofs/\hint+last<n/\B (hint+last)=true)
   (Q:=fun c st'=>st'=st/\∃last ofs,c=(none,last,ofs)/\last<ofs/\hint+last<n/\B (hint+last)=true/\(n-hint<=ofs\/B (hint+ofs)=false)) ?step ?fin ⟨rfl,0,1,rfl,by omega,by omega,by omega,by simpa using e⟩) ?post)
  case fin=>
   rintro c st' ⟨rfl,last,ofs,rfl,a1,a2,a3,a4⟩;exact⟨rfl,last,ofs,rfl,a1,a3,a4,.inl (by omega)⟩
  case step=>
   rintro t c st' _ ht ⟨rfl,last,ofs,rfl,a1,a2,a3,a4⟩;dsimp only;by_cases q:ofs>=n-hint
   ·rw[if_pos q]
    exact wpS_pure ⟨rfl,last,ofs,rfl,a1,a3,a4,.inl q⟩
   ·rw[if_neg q]
    refine wpS_bind (hb _ (by omega) _ ?_);dsimp only;cases e2:B (hint+ofs)with
    |false=>
     simp only[Bool.not_false,if_true];exact wpS_pure ⟨rfl,last,ofs,rfl,a1,a3,a4,.inr e2⟩
    |true=>
     simp only[Bool.not_true,Bool.false_eq_true,if_false];exact wpS_pure ⟨rfl,ofs,2*ofs+1,rfl,by omega,by omega,by omega,e2⟩
  case post=>
   rintro c st' ⟨rfl,last,ofs,rfl,a1,a3,a4,a5⟩;dsimp only;refine wpS_bind (gM (lo:=hint+last+1) (hi:=hint+min ofs (n-hint)) hb mono (by omega) (by omega) (fun i hi=>mono i _ (by omega) a3 a4) (fun i h3 h4=>?_) fun r r1 r2 r3=>?_)
   ·rcases a5 with a5|a5
    ·omega
    ·cases e2:B i with
     |false=>rfl
     |true=>rw[mono _ i (by omega) h4 e2]at a5;cases a5
   ·exact wpS_pure (h r r1 r2 r3)
 |false=>
  simp only[Bool.false_eq_true,if_false];refine wpS_bind (wpS_mono (wpS_forRange (I:=fun t c st'=>st'=st/\∃last ofs,c=(none,last,ofs)/\last<ofs/\t+1<=ofs/\last<=hint/\B (hint-last)=false)
   (Q:=fun c st'=>st'=st/\∃last ofs,c=(none,last,ofs)/\last<ofs/\last<=hint/\B (hint-last)=false/\(hint+1<=ofs\/B (hint-ofs)=true)) ?step ?fin ⟨rfl,0,1,rfl,by omega,by omega,by omega,by simpa using e⟩) ?post)
  case fin=>
   rintro c st' ⟨rfl,last,ofs,rfl,a1,a2,a3,a4⟩;exact⟨rfl,last,ofs,rfl,a1,a3,a4,.inl (by omega)⟩
  case step=>
   rintro t c st' _ ht ⟨rfl,last,ofs,rfl,a1,a2,a3,a4⟩;dsimp only;by_cases q:ofs>=hint+1
   ·rw[if_pos q]
    exact wpS_pure ⟨rfl,last,ofs,rfl,a1,a3,a4,.inl q⟩
   ·rw[if_neg q]
    refine wpS_bind (hb _ (by omega) _ ?_);dsimp only;cases e2:B (hint-ofs)with
    |true=>
     simp only[if_true];exact wpS_pure ⟨rfl,last,ofs,rfl,a1,a3,a4,.inr e2⟩
    |false=>
     simp only[Bool.false_eq_true,if_false];exact wpS_pure ⟨rfl,ofs,2*ofs+1,rfl,by omega,by omega,by omega,e2⟩
  case post=>
   rintro c st' ⟨rfl,last,ofs,rfl,a1,a3,a4,a5⟩;dsimp only;refine wpS_bind (gM (lo:=hint+1-min ofs (hint+1)) (hi:=hint-last) hb mono (by omega) (by omega) (fun i hi=>?_) (fun i h3 h4=>?_) fun r r1 r2 r3=>?_)
   ·rcases a5 with a5|a5
    ·omega
    ·exact mono i _ (by omega) (by omega) a5
   ·cases e2:B i with
    |false=>rfl
    |true=>rw[mono _ i (by omega) h4 e2]at a4;cases a4
   ·exact wpS_pure (h r r1 r2 r3)
end
section
variable{κ:Keyed->Int}{all out l ra rb:List Keyed}{m:Keyed}
def Asc(κ:Keyed->Int)(l:List Keyed):Prop:=l.Pairwise fun x y=>κ x <= κ y
theorem Asc.app(h1:Asc κ l)(h2:Asc κ ra)(h:∀x∈l,∀y∈ra,κ x <= κ y):Asc κ (l++ra):=List.pairwise_append.mpr ⟨h1,h2,h⟩
theorem Asc.left(h:Asc κ (l++ra)):Asc κ l:=(List.pairwise_append.mp h).1
theorem Asc.right(h:Asc κ (l++ra)):Asc κ ra:=(List.pairwise_append.mp h).2.1
theorem Asc.mid(h:Asc κ (l++ra)):∀x∈l,∀y∈ra,κ x <= κ y:=(List.pairwise_append.mp h).2.2
structure LI (κ:Keyed->Int) (all out ra rb:List Keyed):Prop where
 pm:(out++(ra++rb)).Perm all
 so:Asc κ out
 le:∀x∈out,∀y∈ra++rb,κ x <= κ y
 sa:Asc κ ra
 sb:Asc κ rb
theorem LI.mvA(h:LI κ all out (l++ra) rb)(q:∀x∈l,∀y∈rb,κ x <= κ y):LI κ all (out++l) ra rb where
 pm:=by
  have:=h.pm;simpa[List.append_assoc]using this
 so:=h.so.app h.sa.left fun x hx y hy=>h.le x hx y (by simp[hy])
 le x hx y hy:=by
  rcases List.mem_append.mp hx with hx|hx
  ·exact h.le x hx y (by simp at hy ⊢;rcases hy with hy|hy<;>simp[hy])
  ·rcases List.mem_append.mp hy with hy|hy
   ·exact h.sa.mid x hx y hy
   ·exact q x hx y hy
 sa:=h.sa.right
 sb:=h.sb
theorem LI.swap(h:LI κ all out ra rb):LI κ all out rb ra where
 pm:=((List.Perm.refl out).append List.perm_append_comm).trans h.pm
 so:=h.so
 le x hx y hy:=h.le x hx y (by simp at hy ⊢;exact hy.symm)
 sa:=h.sb
 sb:=h.sa
theorem LI.mvB(h:LI κ all out ra (l++rb))(q:∀x∈l,∀y∈ra,κ x <= κ y):LI κ all (out++l) ra rb:=(h.swap.mvA q).swap
theorem LI.endA(h:LI κ all out ra []):(out++ra).Perm all/\Asc κ (out++ra):=⟨by simpa using h.pm,h.so.app h.sa fun x hx y hy=>h.le x hx y (by simp[hy])⟩
theorem LI.endB(h:LI κ all out [] rb):(out++rb).Perm all/\Asc κ (out++rb):=h.swap.endA
theorem LI.last(h:LI κ all out [m] rb)(q:∀y∈rb,κ y <= κ m):(out++(rb++[m])).Perm all/\Asc κ (out++(rb++[m])):=
 ⟨h.swap.pm,h.so.app (h.sb.app (List.pairwise_singleton _ _) fun x hx y hy=>by rw[List.mem_singleton.mp hy];exact q x hx) fun x hx y hy=>h.le x hx y (by simp at hy ⊢;exact hy.symm)⟩
end
section
variable{M:Model}{A:Around}{E:Value->Shared->Prop}{s:Shared}{κ:Keyed->Int}{S:Keyed->Prop}{kd:SortKind}
def bV(M:Model)(A:Around)(E:Value->Shared->Prop)(s:Shared)(kd:SortKind)(κ:Keyed->Int)(S:Keyed->Prop):Prop:=
 ∀x y,S x->S y->∀(st:SortSt) (Q:Option Bool->SortSt->Prop),kindOf st=kd->Q (some (decide (κ x < κ y))) st->wpS M A E s (lt' x y) Q st
theorem aq{arr:Array Keyed}{i:Nat}{x:Keyed}{st:SortSt}{Q:Keyed->SortSt->Prop}(h:arr[i]? = some x)(q:Q x st):wpS M A E s (elem' arr i) Q st:=by
 rw[elem'_eq,h];exact wpS_pure q
structure Stretch (κ:Keyed->Int) (S:Keyed->Prop) (arr:Array Keyed) (base n:Nat) (l:List Keyed):Prop where
 eq:(arr.toList.drop base).take n=l
 len:l.length=n
 all:∀x∈l,S x
 asc:Asc κ l
theorem Stretch.get{arr:Array Keyed}{base n:Nat}{l:List Keyed}(h:Stretch κ S arr base n l){i:Nat}(hi:i<l.length):arr[base+i]? = some l[i]:=by
 have e:((arr.toList.drop base).take n)[i]? = l[i]?:=by rw[h.eq]
 rw[List.getElem?_take_of_lt (by have:=h.len;omega),List.getElem?_drop,Array.getElem?_toList,List.getElem?_eq_getElem hi]at e;exact e
theorem uc(T:bV M A E s kd κ S){left:Bool}{key:Keyed}{arr:Array Keyed}{base i:Nat}{x:Keyed}{st:SortSt}{Q:Option Bool->SortSt->Prop}(hk:S key)(hx:arr[base+i]? = some x)(sx:S x)(ek:kindOf st=kd)
  (q:Q (some (if left=true then decide (κ x < κ key)else !decide (κ key < κ x))) st):wpS M A E s (dB left key arr base i) Q st:=by
 unfold dB;refine wpS_bind (aq hx ?_);cases left with
 |true=>
  simp only[if_true]at q ⊢;exact T x key sx hk st _ ek q
 |false=>
  simp only[Bool.false_eq_true,if_false]at q ⊢;exact wpS_bind (T key x hk sx st _ ek (wpS_pure q))
theorem d8(T:bV M A E s kd κ S){left:Bool}{key:Keyed}{arr:Array Keyed}{base n hint:Nat}{l:List Keyed}{st:SortSt}{Q:Option Nat->SortSt->Prop}(hs:Stretch κ S arr base n l)(hk:S key)(ek:kindOf st=kd)(hh:hint<n)
  (h:∀l1 l2,l=l1++l2->(∀x∈l1,if left=true then κ x < κ key else κ x <= κ key)->(∀x∈l2,if left=true then κ key <= κ x else κ key < κ x)->Q (some l1.length) st) :
  wpS M A E s (bU left key arr base n hint) Q st:=by
 have hl:=hs.len;refine mY (B:=fun i=>if left=true then decide (κ (l.getD i key) < κ key)else !decide (κ key < κ (l.getD i key))) hh (fun i hi Q' q=>?_) (fun i j hij hj e=>?_) fun r hr r1 r2=>?_
 ·have e:l.getD i key=l[i]:=by simp[hl,hi]
  rw[e]at q;exact uc T hk (hs.get (by omega)) (hs.all _ (List.getElem_mem _)) ek q
 ·have e1:l.getD i key=l[i]'(by omega):=by simp[hl,show i<n by omega]
  have e2:l.getD j key=l[j]'(by omega):=by simp[hl,hj]
  have c:κ (l[i]'(by omega)) <= κ (l[j]'(by omega)):=by
   rcases Nat.lt_or_ge i j with q|q
   ·exact List.pairwise_iff_getElem.mp hs.asc i j (by omega) (by omega) q
   ·have:i=j:=by omega
    subst this;exact Int.le_refl _
  rw[e1];rw[e2]at e;cases left with
  |true=>simp only[if_true,decide_eq_true_eq]at e ⊢;omega
  |false=>
   simp only[Bool.false_eq_true,if_false,Bool.not_eq_true',decide_eq_false_iff_not]at e ⊢;omega
 ·have:=h (l.take r) (l.drop r) (List.take_append_drop r l).symm (fun x hx=>?_) (fun x hx=>?_)
  ·rw[List.length_take,hl,Nat.min_eq_left hr]at this;exact this
  ·obtain⟨i,hi,rfl⟩:=List.mem_iff_getElem.mp hx
   rw[List.length_take]at hi;have q:=r1 i (by omega);have e:l.getD i key=l[i]'(by omega):=by simp[hl,show i<n by omega]
   rw[e]at q;rw[List.getElem_take];cases left with
   |true=>simpa using q
   |false=>simpa using q
  ·obtain⟨i,hi,rfl⟩:=List.mem_iff_getElem.mp hx
   rw[List.length_drop]at hi;have q:=r2 (r+i) (by omega) (by omega);have e:l.getD (r+i) key=l[r+i]'(by omega):=by simp[hl,show r+i<n by omega]
   rw[e]at q;rw[List.getElem_drop];cases left with
   |true=>simpa using q
   |false=>simpa using q
end
theorem lZ(a b:Array Keyed):iF a b=(do
 rule "list.sort.merge-lo"
 let mut out:Array Keyed:=#[<-elem' b 0]
 let mut ia:=0
 let mut ib:=1
 if ib==b.size then return out++a.extract ia a.size++b.extract ib b.size
 if ia+1==a.size then return out++b.extract ib b.size++a.extract ia a.size
 let mut minGallop:=gallopOf (<-get)
 for _ in [0:a.size+b.size] do
  let mut acount:=0
  let mut bcount:=0
  for _ in [0:a.size+b.size] do
   let some bWins <-lt' (<-elem' b ib) (<-elem' a ia)|return out++a.extract ia a.size++b.extract ib b.size
   if bWins then
    out:=out.push (<-elem' b ib);ib:=ib+1;bcount:=bcount+1;acount:=0
    if ib==b.size then return out++a.extract ia a.size++b.extract ib b.size
    if bcount>=minGallop then break
   else
    out:=out.push (<-elem' a ia);ia:=ia+1;acount:=acount+1;bcount:=0
    if ia+1==a.size then return out++b.extract ib b.size++a.extract ia a.size
    if acount>=minGallop then break
  rule "list.sort.gallop"
  minGallop:=minGallop+1
  for _ in [0:a.size+b.size] do
   if minGallop>1 then minGallop:=minGallop-1
   bA minGallop
   let some k <-bU false (<-elem' b ib) a ia (a.size-ia) 0|return out++a.extract ia a.size++b.extract ib b.size
   acount:=k
   if k>0 then
    out:=out++a.extract ia (ia+k);ia:=ia+k
    if ia+1==a.size then return out++b.extract ib b.size++a.extract ia a.size
    if ia==a.size then return out++a.extract ia a.size++b.extract ib b.size
   out:=out.push (<-elem' b ib);ib:=ib+1
   if ib==b.size then return out++a.extract ia a.size++b.extract ib b.size
   let some k <-bU true (<-elem' a ia) b ib (b.size-ib) 0|return out++a.extract ia a.size++b.extract ib b.size
   bcount:=k
   if k>0 then
    out:=out++b.extract ib (ib+k);ib:=ib+k
    if ib==b.size then return out++a.extract ia a.size++b.extract ib b.size
   out:=out.push (<-elem' a ia);ia:=ia+1
   if ia+1==a.size then return out++b.extract ib b.size++a.extract ia a.size
   if acount<7&&bcount<7 then break
  minGallop:=minGallop+1
  bA minGallop
 unsupported "internal:list.sort.merge-bound"):=rfl
section
variable{M:Model}{A:Around}{E:Value->Shared->Prop}{s:Shared}{κ:Keyed->Int}{S:Keyed->Prop}{kd:SortKind}
def SameBut(st st':SortSt):Prop:=kindOf st'=kindOf st/\arrOf st'=arrOf st/\pendingOf st'=pendingOf st/\failedOf st'=failedOf st
theorem SameBut.refl(st:SortSt):SameBut st st:=⟨rfl,rfl,rfl,rfl⟩
theorem eS{st0 st:SortSt}{g:Nat}{Q:Unit->SortSt->Prop}(sm:SameBut st0 st)(q:∀st',SameBut st0 st'->Q () st'):wpS M A E s (bA g) Q st:=by
 show wpS M A E s (modify fun x=>SortSt.mk' (kindOf x) (arrOf x) (pendingOf x) g (failedOf x)) Q st
 exact wpS_modify (q _ sm)
def MI(κ:Keyed->Int)(a b out:Array Keyed)(ia ib:Nat):Prop:=LI κ (a.toList++b.toList) out.toList (a.toList.drop ia) (b.toList.drop ib)
def eQ(κ:Keyed->Int)(a b out:Array Keyed):Prop:=out.toList.Perm (a.toList++b.toList)/\Asc κ out.toList
variable{a b out:Array Keyed}{ia ib:Nat}
theorem fK{xs:Array Keyed}{i:Nat}{x:Keyed}(h:xs[i]? = some x):xs.toList.drop i=[x]++xs.toList.drop (i+1):=by
 rw[<-Array.getElem?_toList]at h;obtain⟨q,e⟩:=List.getElem?_eq_some_iff.mp h;rw[List.drop_eq_getElem_cons q,e];rfl
theorem b7{xs:Array Keyed}{i:Nat}(h:i<xs.size):∃x,xs[i]? = some x:=⟨xs[i],Array.getElem?_eq_getElem h⟩
theorem fL{xs:Array Keyed}{i k:Nat}{l1 l2:List Keyed}(h:xs.toList.drop i=l1++l2)(hk:l1.length=k):(xs.extract i (i+k)).toList=l1/\xs.toList.drop (i+k)=l2:=by
 constructor
 ·rw[Array.toList_extract,List.extract_eq_drop_take,h,show i+k-i=k by omega,<-hk,List.take_left]
 ·rw[<-List.drop_drop,h,<-hk,List.drop_left]
theorem vw{xs:Array Keyed}(i:Nat):(xs.extract i xs.size).toList=xs.toList.drop i:=by
 rw[Array.toList_extract,List.extract_eq_drop_take,List.take_of_length_le (by simp)]
theorem MI.pushB(h:MI κ a b out ia ib){y:Keyed}(hy:b[ib]? = some y)(q:∀x∈a.toList.drop ia,κ y <= κ x):MI κ a b (out.push y) ia (ib+1):=by
 unfold MI at h ⊢;rw[fK hy]at h;rw[Array.toList_push];exact h.mvB fun x hx z hz=>by rw[List.mem_singleton.mp hx];exact q z hz
theorem MI.pushA(h:MI κ a b out ia ib){y:Keyed}(hy:a[ia]? = some y)(q:∀x∈b.toList.drop ib,κ y <= κ x):MI κ a b (out.push y) (ia+1) ib:=by
 unfold MI at h ⊢;rw[fK hy]at h;rw[Array.toList_push];exact h.mvA fun x hx z hz=>by rw[List.mem_singleton.mp hx];exact q z hz
theorem MI.appA(h:MI κ a b out ia ib){l1 l2:List Keyed}(e:a.toList.drop ia=l1++l2)(q:∀x∈l1,∀y∈b.toList.drop ib,κ x <= κ y):MI κ a b (out++a.extract ia (ia+l1.length)) (ia+l1.length) ib:=by
 obtain⟨e1,e2⟩:=fL e rfl;unfold MI at h ⊢;rw[Array.toList_append,e1,e2];rw[e]at h;exact h.mvA q
theorem MI.appB(h:MI κ a b out ia ib){l1 l2:List Keyed}(e:b.toList.drop ib=l1++l2)(q:∀x∈l1,∀y∈a.toList.drop ia,κ x <= κ y):MI κ a b (out++b.extract ib (ib+l1.length)) ia (ib+l1.length):=by
 obtain⟨e1,e2⟩:=fL e rfl;unfold MI at h ⊢;rw[Array.toList_append,e1,e2];rw[e]at h;exact h.mvB q
theorem MI.done(h:MI κ a b out ia ib)(e:ib=b.size\/ia=a.size):eQ κ a b (out++a.extract ia a.size++b.extract ib b.size):=by
 unfold eQ;unfold MI at h;rw[Array.toList_append,Array.toList_append,vw,vw];rcases e with e|e
 ·have:b.toList.drop ib=[]:=by rw[e];exact List.drop_of_length_le (by simp)
  rw[this]at h ⊢;rw[List.append_nil];exact h.endA
 ·have:a.toList.drop ia=[]:=by rw[e];exact List.drop_of_length_le (by simp)
  rw[this]at h ⊢;rw[List.append_nil];exact h.endB
theorem MI.last(h:MI κ a b out ia ib)(e:ia+1=a.size)(q:∀x,a[a.size-1]? = some x->∀y∈b.toList,κ y <= κ x):eQ κ a b (out++b.extract ib b.size++a.extract ia a.size):=by
 unfold eQ;obtain⟨x,hx⟩:=b7 (xs:=a) (i:=ia) (by omega);have hd:=fK hx;have:a.toList.drop (ia+1)=[]:=by rw[e];exact List.drop_of_length_le (by simp)
 rw[this,List.append_nil]at hd;unfold MI at h;rw[Array.toList_append,Array.toList_append,vw,vw,hd,List.append_assoc];rw[hd]at h;exact h.last fun y hy=>q x (by rw[show a.size-1=ia by omega];exact hx) y (List.mem_of_mem_drop hy)
end
section
variable{M:Model}{A:Around}{E:Value->Shared->Prop}{s:Shared}{κ:Keyed->Int}{S:Keyed->Prop}{kd:SortKind}
variable{a b:Array Keyed}
theorem Asc.rest{xs:Array Keyed}(h:Asc κ xs.toList)(i:Nat):Asc κ (xs.toList.drop i):=List.Pairwise.drop h
theorem fQ{xs:Array Keyed}(h:Asc κ xs.toList){i:Nat}{x:Keyed}(e:xs[i]? = some x):∀y∈xs.toList.drop i,κ x <= κ y:=fun y hy=>by
 have q:=h.rest i;rw[fK e]at q hy;rcases List.mem_append.mp hy with hy|hy
 ·rw[List.mem_singleton.mp hy];exact Int.le_refl _
 ·exact q.mid x (List.mem_singleton.mpr rfl) y hy
theorem cA{xs:Array Keyed}{i:Nat}{x:Keyed}(e:xs[i]? = some x):x∈xs.toList:=by
 rw[<-Array.getElem?_toList]at e;exact List.mem_of_getElem? e
theorem oE{xs:Array Keyed}(h:Asc κ xs.toList)(hS:∀x∈xs.toList,S x)(i:Nat):Stretch κ S xs i (xs.size-i) (xs.toList.drop i) where
 eq:=List.take_of_length_le (by simp)
 len:=by simp
 all x hx:=hS x (List.mem_of_mem_drop hx)
 asc:=h.rest i
def tU(κ:Keyed->Int)(a b:Array Keyed)(B:Nat)(ro:Option (Array Keyed))(out:Array Keyed)(ia ib:Nat):Prop:=
 (∃r,ro=some r/\eQ κ a b r)\/(ro=none/\MI κ a b out ia ib/\ia+1<a.size/\ib<b.size/\(a.size-ia)+(b.size-ib)<=B)
abbrev Gs:Type:=Option (Array Keyed)×Array Keyed×Nat×Nat×Nat×Nat×Nat
def GsQ(κ:Keyed->Int)(a b:Array Keyed)(B:Nat)(st:SortSt)(r:ForInStep Gs)(st':SortSt):Prop:=SameBut st st'/\match r with
 |.done c=>tU κ a b B c.1 c.2.1 c.2.2.1 c.2.2.2.1
 |.yield c=>c.1=none/\tU κ a b B c.1 c.2.1 c.2.2.1 c.2.2.2.1
noncomputable def A5(a b out:Array Keyed)(ia ib g k k1:Nat):StateT SortSt Sem (ForInStep Gs):=do
 let x <-elem' a ia
 if(ia+1+1==a.size)=true then pure (.done (some (out.push x++b.extract ib b.size++a.extract (ia+1) a.size),out.push x,ia+1,ib,g,k,k1))
 else if(decide (k<7)&&decide (k1<7))=true then pure (.done (none,out.push x,ia+1,ib,g,k,k1))else pure (.yield (none,out.push x,ia+1,ib,g,k,k1))
noncomputable def CT(a b out:Array Keyed)(ia ib g k n2:Nat):StateT SortSt Sem (ForInStep Gs):=do
 let y <-elem' b ib
 if(ib+1==b.size)=true then pure (.done (some (out.push y++a.extract ia a.size++b.extract (ib+1) b.size),out.push y,ia,ib+1,g,k,n2))
 else do
  let x <-elem' a ia
  let r <-bU true x b (ib+1) (b.size-(ib+1)) 0
  match r with
  |some k1=>
   if k1>0 then
    if(ib+1+k1==b.size)=true then pure (.done (some (out.push y++b.extract (ib+1) (ib+1+k1)++a.extract ia a.size++b.extract (ib+1+k1) b.size),out.push y++b.extract (ib+1) (ib+1+k1),ia,ib+1+k1,g,k,k1))
    else A5 a b (out.push y++b.extract (ib+1) (ib+1+k1)) ia (ib+1+k1) g k k1
   else A5 a b (out.push y) ia (ib+1) g k k1
  |_=>pure (.done (some (out.push y++a.extract ia a.size++b.extract (ib+1) b.size),out.push y,ia,ib+1,g,k,n2))
theorem sH{st st':SortSt}{out:Array Keyed}{ia ib g k k1 B:Nat}{x:Keyed}(m:MI κ a b out ia ib)(hx:a[ia]? = some x)(q:∀z∈b.toList.drop ib,κ x <= κ z)(hl:∀x,a[a.size-1]? = some x->∀y∈b.toList,κ y <= κ x)(p1:ia+1<a.size)(p2:ib<b.size)(p3:(a.size-ia)+(b.size-ib)<=B)(sm:SameBut st st'):
  wpS M A E s (A5 a b out ia ib g k k1) (GsQ κ a b B st) st':=by
 unfold A5;refine wpS_bind (aq hx ?_);have m':=m.pushA hx q;by_cases c:(ia+1+1==a.size)=true
 ·rw[if_pos c]
  exact wpS_pure ⟨sm,.inl ⟨_,rfl,m'.last (by simpa using c) hl⟩⟩
 rw[if_neg c];have c:ia+1+1≠a.size:=by simpa using c
 have pt:tU κ a b B none (out.push x) (ia+1) ib:=.inr ⟨rfl,m',by omega,p2,by omega⟩;split
 ·exact wpS_pure ⟨sm,pt⟩
 ·exact wpS_pure ⟨sm,rfl,pt⟩
theorem sI(T:bV M A E s kd κ S){st st':SortSt}{out:Array Keyed}{ia ib g k n2 B:Nat}{y:Keyed}(sa:Asc κ a.toList)(sb:Asc κ b.toList)(Sa:∀x∈a.toList,S x)(Sb:∀x∈b.toList,S x)(m:MI κ a b out ia ib)(hy:b[ib]? = some y)(q:∀z∈a.toList.drop ia,κ y <= κ z)(hl:∀x,a[a.size-1]? = some x->∀y∈b.toList,κ y <= κ x)
  (p1:ia+1<a.size) (p2:ib<b.size) (p3:(a.size-ia)+(b.size-ib)<=B) (sm:SameBut st st') (ek:kindOf st=kd):wpS M A E s (CT a b out ia ib g k n2) (GsQ κ a b B st) st':=by
 unfold CT;refine wpS_bind (aq hy ?_);have mB:=m.pushB hy q;by_cases c3:(ib+1==b.size)=true
 ·rw[if_pos c3]
  exact wpS_pure ⟨sm,.inl ⟨_,rfl,mB.done (.inl (by simpa using c3))⟩⟩
 rw[if_neg c3];have c3:ib+1≠b.size:=by simpa using c3
 obtain⟨x,hx⟩:=b7 (xs:=a) (i:=ia) (by omega);refine wpS_bind (aq hx ?_);refine wpS_bind (d8 T (oE sb Sb (ib+1)) (Sa x (cA hx)) (sm.1.trans ek) (by omega) fun k1 k2 ek2 f1 f2=>?_)
 simp only[if_true]at f1 f2;dsimp only;rcases Nat.eq_zero_or_pos k1.length with h1|h1
 ·rw[if_neg (by omega)]
  have:k1=[]:=List.length_eq_zero_iff.mp h1;subst this;exact sH mB hx (fun z hz=>f2 z (by rw[ek2,List.nil_append]at hz;exact hz)) hl p1 (by omega) (by omega) sm
 ·rw[if_pos h1]
  have mC:=mB.appB ek2 fun z hz u hu=>Int.le_trans (Int.le_of_lt (f1 z hz)) (fQ sa hx u hu)
  have ln:k1.length+k2.length=b.size-(ib+1):=by
   have:=congrArg List.length ek2;rw[List.length_append,List.length_drop,Array.length_toList]at this;exact this.symm
  by_cases c4:(ib+1+k1.length==b.size)=true
  ·rw[if_pos c4]
   exact wpS_pure ⟨sm,.inl ⟨_,rfl,mC.done (.inl (by simpa using c4))⟩⟩
  rw[if_neg c4];have c4:ib+1+k1.length≠b.size:=by simpa using c4
  exact sH mC hx (fun z hz=>f2 z (by rw[(fL ek2 rfl).2]at hz;exact hz)) hl p1 (by omega) (by omega) sm
theorem GsQ.y{B:Nat}{st st':SortSt}{c:Gs}(h:GsQ κ a b B st (.yield c) st'):SameBut st st'/\∃out ia ib g x y,c=(none,out,ia,ib,g,x,y)/\MI κ a b out ia ib/\ia+1<a.size/\ib<b.size/\(a.size-ia)+(b.size-ib)<=B:=by
 obtain⟨sm,e,pt⟩:=h;obtain⟨ro,out,ia,ib,g,x,y⟩:=c;have e:ro=none:=e;subst e;rcases pt with⟨r,e,_⟩|⟨_,m,p1,p2,p3⟩
 ·cases e
 ·exact⟨sm,out,ia,ib,g,x,y,rfl,m,p1,p2,p3⟩
theorem ld(T:bV M A E s kd κ S){st:SortSt}{Q:Array Keyed->SortSt->Prop}(sa:Asc κ a.toList)(sb:Asc κ b.toList)(Sa:∀x∈a.toList,S x)(Sb:∀x∈b.toList,S x)(na:1<=a.size)(nb:1<=b.size)
  (h0:∀y,b[0]? = some y->∀x∈a.toList,κ y <= κ x) (hl:∀x,a[a.size-1]? = some x->∀y∈b.toList,κ y <= κ x) (ek:kindOf st=kd) (h:∀out st',eQ κ a b out->SameBut st st'->Q out st'):wpS M A E s (iF a b) Q st:=by
 rw[lZ];refine wpS_bind (wpS_lift (wpAny_rule ⟨rfl,?_⟩));obtain⟨y0,hy0⟩:=b7 (xs:=b) (i:=0) (by omega);refine wpS_bind (aq hy0 ?_);dsimp only;have m0:MI κ a b #[] 0 0:=⟨by simp,List.Pairwise.nil,fun x hx=>by simp at hx,sa,sb⟩
 have m1:MI κ a b #[y0] 0 1:=m0.pushB hy0 fun x hx=>h0 y0 hy0 x hx
 by_cases c1:(1==b.size)=true
 ·rw[if_pos c1]
  exact wpS_pure (h _ _ (m1.done (.inl (by simpa using c1))) (.refl _))
 rw[if_neg c1];have c1:1≠b.size:=by simpa using c1
 by_cases c2:(0+1==a.size)=true
 ·rw[if_pos c2]
  exact wpS_pure (h _ _ (m1.last (by simpa using c2) hl) (.refl _))
 rw[if_neg c2];have c2:0+1≠a.size:=by simpa using c2
 refine wpS_bind (wpS_get ?_);refine wpS_bind (wpS_mono (wpS_forRange (I:=fun t c st'=>SameBut st st'/\∃out ia ib g,c=(none,out,ia,ib,g)/\MI κ a b out ia ib/\ia+1<a.size/\ib<b.size/\(a.size-ia)+(b.size-ib)+t+1<=a.size+b.size)
  (Q:=fun c st'=>SameBut st st'/\∃r,c.1=some r/\eQ κ a b r) ?step ?fin ⟨.refl _,_,_,_,_,rfl,m1,by omega,by omega,by omega⟩) ?post)
 case fin=>
  rintro c st' ⟨sm,out,ia,ib,g,rfl,m,p1,p2,p3⟩;omega
 case post=>
  rintro c st' ⟨sm,r,e,g⟩;rw[e];exact wpS_pure (h r st' g sm)
 case step=>
  rintro t c st1 _ ht ⟨sm1,out,ia,ib,g,rfl,m,p1,p2,p3⟩;dsimp only;refine wpS_bind (wpS_mono (wpS_forRange (I:=fun u c st'=>SameBut st st'/\∃out ia ib x y,c=(none,out,ia,ib,x,y)/\MI κ a b out ia ib/\ia+1<a.size/\ib<b.size/\(a.size-ia)+(b.size-ib)+t+1+min u 1<=a.size+b.size)
   (Q:=fun c st'=>SameBut st st'/\tU κ a b (a.size+b.size-t-2) c.1 c.2.1 c.2.2.1 c.2.2.2.1) ?step1 ?fin1 ⟨sm1,_,_,_,_,_,rfl,m,p1,p2,by omega⟩) ?post1)
  case fin1=>
   rintro c st' ⟨sm,out,ia,ib,x,y,rfl,m,p1,p2,p3⟩;exact⟨sm,.inr ⟨rfl,m,p1,p2,show a.size-ia+(b.size-ib)<=_ by omega⟩⟩
  case step1=>
   rintro u c st2 _ hu ⟨sm2,out,ia,ib,n1,n2,rfl,m,p1,p2,p3⟩;dsimp only;obtain⟨y,hy⟩:=b7 (xs:=b) (i:=ib) p2;obtain⟨x,hx⟩:=b7 (xs:=a) (i:=ia) (by omega);refine wpS_bind (aq hy (wpS_bind (aq hx (wpS_bind (T y x (Sb y (cA hy)) (Sa x (cA hx)) st2 _ (sm2.1.trans ek) ?_)))));dsimp only;by_cases q:κ y < κ x
   ·simp only[q,decide_true,if_true]
    refine wpS_bind (aq hy ?_);have m':=m.pushB hy fun z hz=>Int.le_trans (Int.le_of_lt q) (fQ sa hx z hz)
    by_cases c3:(ib+1==b.size)=true
    ·rw[if_pos c3]
     exact wpS_pure ⟨sm2,.inl ⟨_,rfl,m'.done (.inl (by simpa using c3))⟩⟩
    rw[if_neg c3];have c3:ib+1≠b.size:=by simpa using c3
    split
    ·exact wpS_pure ⟨sm2,.inr ⟨rfl,m',p1,show ib+1<b.size by omega,show a.size-ia+(b.size-(ib+1))<=_ by omega⟩⟩
    ·exact wpS_pure ⟨sm2,_,_,_,_,_,rfl,m',p1,by omega,by omega⟩
   ·simp only[q,decide_false,Bool.false_eq_true,if_false]
    refine wpS_bind (aq hx ?_);have m':=m.pushA hx fun z hz=>Int.le_trans (Int.not_lt.mp q) (fQ sb hy z hz)
    by_cases c3:(ia+1+1==a.size)=true
    ·rw[if_pos c3]
     exact wpS_pure ⟨sm2,.inl ⟨_,rfl,m'.last (by simpa using c3) hl⟩⟩
    rw[if_neg c3];have c3:ia+1+1≠a.size:=by simpa using c3
    split
    ·exact wpS_pure ⟨sm2,.inr ⟨rfl,m',show ia+1+1<a.size by omega,p2,show a.size-(ia+1)+(b.size-ib)<=_ by omega⟩⟩
    ·exact wpS_pure ⟨sm2,_,_,_,_,_,rfl,m',by omega,p2,by omega⟩
  case post1=>
   rintro⟨ro,out,ia,ib,n1,n2⟩ st2 ⟨sm2,pt⟩;rcases pt with⟨r,e,gd⟩|⟨e,m,p1,p2,p3⟩
   ·have e:ro=some r:=e
    subst e;exact wpS_pure ⟨sm2,r,rfl,gd⟩
   have e:ro=none:=e;subst e;dsimp only at m p1 p2 p3 ⊢;refine wpS_bind (wpS_lift (wpAny_rule ⟨rfl,?_⟩));refine wpS_bind (wpS_mono (wpS_forRange (I:=fun u c st'=>SameBut st st'/\∃out ia ib g x y,c=(none,out,ia,ib,g,x,y)/\MI κ a b out ia ib/\ia+1<a.size/\ib<b.size/\(a.size-ia)+(b.size-ib)<=a.size+b.size-t-2)
    (Q:=fun c st'=>SameBut st st'/\tU κ a b (a.size+b.size-t-2) c.1 c.2.1 c.2.2.1 c.2.2.2.1) ?step2 ?fin2 ⟨sm2,_,_,_,_,_,_,rfl,m,p1,p2,p3⟩) ?post2)
   case fin2=>
    rintro c st' ⟨sm,out,ia,ib,g,x,y,rfl,m,p1,p2,p3⟩;exact⟨sm,.inr ⟨rfl,m,p1,p2,p3⟩⟩
   case post2=>
    rintro⟨ro,out,ia,ib,g,n1,n2⟩ st3 ⟨sm3,pt⟩;rcases pt with⟨r,e,gd⟩|⟨e,m,p1,p2,p3⟩
    ·have e:ro=some r:=e
     subst e;exact wpS_pure ⟨sm3,r,rfl,gd⟩
    have e:ro=none:=e;subst e;dsimp only at m p1 p2 p3 ⊢;exact wpS_bind (eS sm3 fun st4 sm4=>wpS_pure ⟨sm4,_,_,_,_,rfl,m,p1,p2,by omega⟩)
   case step2=>
    rintro u c st3 _ hu ⟨sm3,out,ia,ib,g,n1,n2,rfl,m,p1,p2,p3⟩;dsimp only;obtain⟨y,hy⟩:=b7 (xs:=b) (i:=ib) p2;have Sy:=Sb y (cA hy);rcases Nat.lt_or_ge 1 g with hg|hg
    all_goals
     first
     |rw[if_pos hg]
     |rw[if_neg (Nat.not_lt.mpr hg)]
     refine wpS_bind (eS sm3 fun st4 sm4=>?_);refine wpS_bind (aq hy ?_);refine wpS_bind (d8 T (oE sa Sa ia) Sy (sm4.1.trans ek) (by omega) fun l1 l2 el e1 e2=>?_)
     simp only[Bool.false_eq_true,if_false]at e1 e2;dsimp only;rcases Nat.eq_zero_or_pos l1.length with h1|h1
     ·rw[if_neg (by omega)]
      have l1n:l1=[]:=List.length_eq_zero_iff.mp h1;subst l1n;refine wpS_mono (sI (B:=a.size+b.size-t-2) (out:=out) (ia:=ia) (ib:=ib) (k:=0) (n2:=n2) T sa sb Sa Sb m hy (fun z hz=>Int.le_of_lt (e2 z (by rw[el,List.nil_append]at hz;exact hz))) hl p1 p2 p3 sm4 ek) fun r st5 gq=>?_
      cases r with
      |done c=>exact gq
      |yield c=>exact gq.y
     ·rw[if_pos h1]
      have mA:=m.appA el fun x hx z hz=>Int.le_trans (e1 x hx) (fQ sb hy z hz)
      have ln:l1.length+l2.length=a.size-ia:=by
       have:=congrArg List.length el;rw[List.length_append,List.length_drop,Array.length_toList]at this;exact this.symm
      by_cases c3:(ia+l1.length+1==a.size)=true
      ·rw[if_pos c3]
       exact wpS_pure ⟨sm4,.inl ⟨_,rfl,mA.last (by simpa using c3) hl⟩⟩
      rw[if_neg c3];by_cases c4:(ia+l1.length==a.size)=true
      ·rw[if_pos c4]
       exact wpS_pure ⟨sm4,.inl ⟨_,rfl,mA.done (.inr (by simpa using c4))⟩⟩
      rw[if_neg c4];have c3:ia+l1.length+1≠a.size:=by simpa using c3
      have c4:ia+l1.length≠a.size:=by simpa using c4
      refine wpS_mono (sI (B:=a.size+b.size-t-2) (out:=out++a.extract ia (ia+l1.length)) (ia:=ia+l1.length) (ib:=ib) (k:=l1.length) (n2:=n2) T sa sb Sa Sb mA hy (fun z hz=>Int.le_of_lt (e2 z (by rw[(fL el rfl).2]at hz;exact hz))) hl (by omega) p2 (by omega) sm4 ek) fun r st5 gq=>?_
      cases r with
      |done c=>exact gq
      |yield c=>exact gq.y
end
theorem ma(a b:Array Keyed):iG a b=(do
 rule "list.sort.merge-hi"
 let mut na:=a.size-1
 let mut nb:=b.size
 let mut out:Array Keyed:=#[<-elem' a na]
 if na==0 then return a.extract 0 na++b.extract 0 nb++out.reverse
 if nb==1 then return b.extract 0 nb++a.extract 0 na++out.reverse
 let mut minGallop:=gallopOf (<-get)
 for _ in [0:a.size+b.size] do
  let mut acount:=0
  let mut bcount:=0
  for _ in [0:a.size+b.size] do
   let some aWins <-lt' (<-elem' b (nb-1)) (<-elem' a (na-1))|return a.extract 0 na++b.extract 0 nb++out.reverse
   if aWins then
    na:=na-1;out:=out.push (<-elem' a na);acount:=acount+1;bcount:=0
    if na==0 then return a.extract 0 na++b.extract 0 nb++out.reverse
    if acount>=minGallop then break
   else
    nb:=nb-1;out:=out.push (<-elem' b nb);bcount:=bcount+1;acount:=0
    if nb==1 then return b.extract 0 nb++a.extract 0 na++out.reverse
    if bcount>=minGallop then break
  rule "list.sort.gallop"
  minGallop:=minGallop+1
  for _ in [0:a.size+b.size] do
   if minGallop>1 then minGallop:=minGallop-1
   bA minGallop
   let some at_ <-bU false (<-elem' b (nb-1)) a 0 na (na-1)|return a.extract 0 na++b.extract 0 nb++out.reverse
   let k:=na-at_
   acount:=k
   if k>0 then
    out:=out++(a.extract at_ na).reverse;na:=at_
    if na==0 then return a.extract 0 na++b.extract 0 nb++out.reverse
   nb:=nb-1;out:=out.push (<-elem' b nb)
   if nb==1 then return b.extract 0 nb++a.extract 0 na++out.reverse
   let some at_ <-bU true (<-elem' a (na-1)) b 0 nb (nb-1)|return a.extract 0 na++b.extract 0 nb++out.reverse
   let k:=nb-at_
   bcount:=k
   if k>0 then
    out:=out++(b.extract at_ nb).reverse;nb:=at_
    if nb==1 then return b.extract 0 nb++a.extract 0 na++out.reverse
    if nb==0 then return a.extract 0 na++b.extract 0 nb++out.reverse
   na:=na-1;out:=out.push (<-elem' a na)
   if na==0 then return a.extract 0 na++b.extract 0 nb++out.reverse
   if acount<7&&bcount<7 then break
  minGallop:=minGallop+1
  bA minGallop
 unsupported "internal:list.sort.merge-bound"):=rfl
section
variable{M:Model}{A:Around}{E:Value->Shared->Prop}{s:Shared}{κ:Keyed->Int}{S:Keyed->Prop}{kd:SortKind}
variable{a b out:Array Keyed}{na nb:Nat}
theorem asc_neg{l:List Keyed}:Asc (fun x=>- κ x) l↔Asc κ l.reverse:=by
 unfold Asc;rw[List.pairwise_reverse];constructor
 ·intro h;exact h.imp fun{x y} (q:- κ x <= - κ y)=>(by omega:κ y <= κ x)
 ·intro h;exact h.imp fun{x y} (q:κ y <= κ x)=>(by omega:- κ x <= - κ y)
def HI(κ:Keyed->Int)(a b out:Array Keyed)(na nb:Nat):Prop:=LI (fun x=>- κ x) (a.toList++b.toList) out.toList (a.toList.take na).reverse (b.toList.take nb).reverse
theorem eY{xs:Array Keyed}{i:Nat}{x:Keyed}(h:xs[i]? = some x):(xs.toList.take (i+1)).reverse=[x]++(xs.toList.take i).reverse:=by
 rw[<-Array.getElem?_toList]at h;rw[List.take_add_one,h];simp
theorem HI.pushB(h:HI κ a b out na (nb+1)){y:Keyed}(hy:b[nb]? = some y)(q:∀x∈a.toList.take na,κ x <= κ y):HI κ a b (out.push y) na nb:=by
 unfold HI at h ⊢;rw[eY hy]at h;rw[Array.toList_push];exact h.mvB fun x hx z hz=>by
  have:=q z (List.mem_reverse.mp hz);rw[List.mem_singleton.mp hx];omega
theorem HI.pushA(h:HI κ a b out (na+1) nb){y:Keyed}(hy:a[na]? = some y)(q:∀x∈b.toList.take nb,κ x <= κ y):HI κ a b (out.push y) na nb:=by
 unfold HI at h ⊢;rw[eY hy]at h;rw[Array.toList_push];exact h.mvA fun x hx z hz=>by
  have:=q z (List.mem_reverse.mp hz);rw[List.mem_singleton.mp hx];omega
theorem eZ{xs:Array Keyed}{n:Nat}{l1 l2:List Keyed}(hn:n<=xs.size)(h:xs.toList.take n=l1++l2):(xs.extract l1.length n).reverse.toList=l2.reverse/\xs.toList.take l1.length=l1:=by
 have hl:l1.length+l2.length=n:=by
  have:=congrArg List.length h;rw[List.length_append,List.length_take,Array.length_toList]at this;omega
 constructor
 ·rw[Array.toList_reverse,Array.toList_extract,List.extract_eq_drop_take]
  congr 1;have:(xs.toList.take n).drop l1.length=l2:=by rw[h,List.drop_left]
  rw[<-this,List.drop_take]
 ·have:(xs.toList.take n).take l1.length=l1:=by rw[h,List.take_left]
  rw[List.take_take,Nat.min_eq_left (by omega)]at this;exact this
theorem HI.appA(h:HI κ a b out na nb){l1 l2:List Keyed}(hn:na<=a.size)(e:a.toList.take na=l1++l2)(q:∀x∈l2,∀y∈b.toList.take nb,κ y <= κ x):HI κ a b (out++(a.extract l1.length na).reverse) l1.length nb:=by
 obtain⟨e1,e2⟩:=eZ hn e;unfold HI at h ⊢;rw[Array.toList_append,e1,e2];rw[e,List.reverse_append]at h;exact h.mvA fun x hx y hy=>by have:=q x (List.mem_reverse.mp hx) y (List.mem_reverse.mp hy);omega
theorem HI.appB(h:HI κ a b out na nb){l1 l2:List Keyed}(hn:nb<=b.size)(e:b.toList.take nb=l1++l2)(q:∀x∈l2,∀y∈a.toList.take na,κ y <= κ x):HI κ a b (out++(b.extract l1.length nb).reverse) na l1.length:=by
 obtain⟨e1,e2⟩:=eZ hn e;unfold HI at h ⊢;rw[Array.toList_append,e1,e2];rw[e,List.reverse_append]at h;exact h.mvB fun x hx y hy=>by have:=q x (List.mem_reverse.mp hx) y (List.mem_reverse.mp hy);omega
theorem tu{xs:Array Keyed}(n:Nat):(xs.extract 0 n).toList=xs.toList.take n:=by
 rw[Array.toList_extract,List.extract_eq_drop_take,Nat.sub_zero,List.drop_zero]
theorem iY{l:List Keyed}{r:Array Keyed}(e:r.toList=l.reverse)(h:l.Perm (a.toList++b.toList)/\Asc (fun x=>- κ x) l):eQ κ a b r:=by
 unfold eQ;rw[e];exact⟨(List.reverse_perm l).trans h.1,asc_neg.mp h.2⟩
theorem HI.done(h:HI κ a b out na nb)(e:na=0\/nb=0):eQ κ a b (a.extract 0 na++b.extract 0 nb++out.reverse):=by
 unfold HI at h;rcases e with rfl|rfl
 ·rw[List.take_zero,List.reverse_nil]at h
  exact iY (by simp[tu]) h.endB
 ·rw[List.take_zero,List.reverse_nil]at h
  exact iY (by simp[tu]) h.endA
theorem HI.first(h:HI κ a b out na nb)(e:nb=1)(q:∀y,b[0]? = some y->∀x∈a.toList,κ y <= κ x)(hb:1<=b.size):eQ κ a b (b.extract 0 nb++a.extract 0 na++out.reverse):=by
 subst e;obtain⟨y,hy⟩:=b7 (xs:=b) (i:=0) (by omega);unfold HI at h;have t:=eY hy;rw[List.take_zero,List.reverse_nil,List.append_nil]at t;have t:(b.toList.take 1).reverse=[y]:=t;rw[t]at h;have t2:b.toList.take 1=[y]:=by rw[<-List.reverse_reverse (b.toList.take 1),t];rfl
 exact iY (by simp[tu,t2]) (h.swap.last fun x hx=>by have:=q y hy x (List.mem_of_mem_take (List.mem_reverse.mp hx));omega)
theorem fP{xs:Array Keyed}(h:Asc κ xs.toList){i:Nat}{x:Keyed}(e:xs[i]? = some x):∀y∈xs.toList.take (i+1),κ y <= κ x:=fun y hy=>by
 have q:Asc κ (xs.toList.take (i+1)):=List.Pairwise.take h;have t:xs.toList.take (i+1)=xs.toList.take i++[x]:=by rw[<-List.reverse_reverse (xs.toList.take (i+1)),eY e];simp
 rw[t]at q hy;rcases List.mem_append.mp hy with hy|hy
 ·exact q.mid y hy x (List.mem_singleton.mpr rfl)
 ·rw[List.mem_singleton.mp hy];exact Int.le_refl _
theorem lz{xs:Array Keyed}(h:Asc κ xs.toList)(hS:∀x∈xs.toList,S x){n:Nat}(hn:n<=xs.size):Stretch κ S xs 0 n (xs.toList.take n) where
 eq:=by rw[List.drop_zero]
 len:=by rw[List.length_take,Array.length_toList];omega
 all x hx:=hS x (List.mem_of_mem_take hx)
 asc:=List.Pairwise.take h
end
section
variable{M:Model}{A:Around}{E:Value->Shared->Prop}{s:Shared}{κ:Keyed->Int}{S:Keyed->Prop}{kd:SortKind}
variable{a b:Array Keyed}
abbrev Hs:Type:=Option (Array Keyed)×Nat×Nat×Array Keyed×Nat×Nat×Nat
def mW(κ:Keyed->Int)(a b:Array Keyed)(B:Nat)(ro:Option (Array Keyed))(na nb:Nat)(out:Array Keyed):Prop:=
 (∃r,ro=some r/\eQ κ a b r)\/(ro=none/\HI κ a b out na nb/\1<=na/\2<=nb/\na<=a.size/\nb<=b.size/\na+nb<=B)
def HsQ(κ:Keyed->Int)(a b:Array Keyed)(B:Nat)(st:SortSt)(r:ForInStep Hs)(st':SortSt):Prop:=SameBut st st'/\match r with
 |.done c=>mW κ a b B c.1 c.2.1 c.2.2.1 c.2.2.2.1
 |.yield c=>c.1=none/\mW κ a b B c.1 c.2.1 c.2.2.1 c.2.2.2.1
noncomputable def Bd(a b out:Array Keyed)(na nb g k k1:Nat):StateT SortSt Sem (ForInStep Hs):=do
 let x <-elem' a (na-1)
 if(na-1==0)=true then pure (.done (some (a.extract 0 (na-1)++b.extract 0 nb++(out.push x).reverse),na-1,nb,out.push x,g,k,k1))
 else if(decide (k<7)&&decide (k1<7))=true then pure (.done (none,na-1,nb,out.push x,g,k,k1))else pure (.yield (none,na-1,nb,out.push x,g,k,k1))
noncomputable def CW(a b out:Array Keyed)(na nb g k n2:Nat):StateT SortSt Sem (ForInStep Hs):=do
 let y <-elem' b (nb-1)
 if(nb-1==1)=true then pure (.done (some (b.extract 0 (nb-1)++a.extract 0 na++(out.push y).reverse),na,nb-1,out.push y,g,k,n2))
 else do
  let x <-elem' a (na-1)
  let r <-bU true x b 0 (nb-1) (nb-1-1)
  match r with
  |some k1=>
   if nb-1-k1>0 then
    if(k1==1)=true then pure (.done (some (b.extract 0 k1++a.extract 0 na++(out.push y++(b.extract k1 (nb-1)).reverse).reverse),na,k1,out.push y++(b.extract k1 (nb-1)).reverse,g,k,nb-1-k1))
    else if(k1==0)=true then pure (.done (some (a.extract 0 na++b.extract 0 k1++(out.push y++(b.extract k1 (nb-1)).reverse).reverse),na,k1,out.push y++(b.extract k1 (nb-1)).reverse,g,k,nb-1-k1))
    else Bd a b (out.push y++(b.extract k1 (nb-1)).reverse) na k1 g k (nb-1-k1)
   else Bd a b (out.push y) na (nb-1) g k (nb-1-k1)
  |_=>pure (.done (some (a.extract 0 na++b.extract 0 (nb-1)++(out.push y).reverse),na,nb-1,out.push y,g,k,n2))
theorem sS{st st':SortSt}{out:Array Keyed}{na nb g k k1 B:Nat}{x:Keyed}(m:HI κ a b out na nb)(hx:a[na-1]? = some x)(q:∀z∈b.toList.take nb,κ z <= κ x)(p1:1<=na)(p2:2<=nb)(p4:na<=a.size)(p5:nb<=b.size)(p3:na+nb<=B)(sm:SameBut st st'):
  wpS M A E s (Bd a b out na nb g k k1) (HsQ κ a b B st) st':=by
 unfold Bd;refine wpS_bind (aq hx ?_);have m':HI κ a b (out.push x) (na-1) nb:=HI.pushA (by rw[show na-1+1=na by omega];exact m) hx q;by_cases c:(na-1==0)=true
 ·rw[if_pos c]
  exact wpS_pure ⟨sm,.inl ⟨_,rfl,m'.done (.inl (by simpa using c))⟩⟩
 rw[if_neg c];have c:na-1≠0:=by simpa using c
 have pt:mW κ a b B none (na-1) nb (out.push x):=.inr ⟨rfl,m',by omega,p2,by omega,p5,by omega⟩;split
 ·exact wpS_pure ⟨sm,pt⟩
 ·exact wpS_pure ⟨sm,rfl,pt⟩
theorem sT(T:bV M A E s kd κ S){st st':SortSt}{out:Array Keyed}{na nb g k n2 B:Nat}{y:Keyed}(sa:Asc κ a.toList)(sb:Asc κ b.toList)(Sa:∀x∈a.toList,S x)(Sb:∀x∈b.toList,S x)(m:HI κ a b out na nb)(hy:b[nb-1]? = some y)(q:∀z∈a.toList.take na,κ z <= κ y)(h0:∀y,b[0]? = some y->∀x∈a.toList,κ y <= κ x)
  (p1:1<=na) (p2:2<=nb) (p4:na<=a.size) (p5:nb<=b.size) (p3:na+nb<=B) (sm:SameBut st st') (ek:kindOf st=kd):wpS M A E s (CW a b out na nb g k n2) (HsQ κ a b B st) st':=by
 unfold CW;refine wpS_bind (aq hy ?_);have mB:HI κ a b (out.push y) na (nb-1):=HI.pushB (by rw[show nb-1+1=nb by omega];exact m) hy q;by_cases c3:(nb-1==1)=true
 ·rw[if_pos c3]
  exact wpS_pure ⟨sm,.inl ⟨_,rfl,mB.first (by simpa using c3) h0 (by omega)⟩⟩
 rw[if_neg c3];have c3:nb-1≠1:=by simpa using c3
 obtain⟨x,hx⟩:=b7 (xs:=a) (i:=na-1) (by omega);refine wpS_bind (aq hx ?_);have ax:∀u∈a.toList.take na,κ u <= κ x:=fun u hu=>fP sa hx u (by rw[show na-1+1=na by omega];exact hu)
 refine wpS_bind (d8 T (lz sb Sb (n:=nb-1) (by omega)) (Sa x (cA hx)) (sm.1.trans ek) (by omega) fun k1 k2 ek2 f1 f2=>?_)
 simp only[if_true]at f1 f2;dsimp only;have ln:k1.length+k2.length=nb-1:=by
  have:=congrArg List.length ek2;rw[List.length_append,List.length_take,Array.length_toList]at this;omega
 rcases Nat.eq_zero_or_pos (nb-1-k1.length)with h1|h1
 ·rw[if_neg (by omega)]
  have:k2=[]:=List.length_eq_zero_iff.mp (by omega);subst this;exact sS mB hx (fun z hz=>Int.le_of_lt (f1 z (by rw[ek2,List.append_nil]at hz;exact hz))) p1 (by omega) p4 (by omega) (by omega) sm
 ·rw[if_pos h1]
  have mC:=mB.appB (by omega) ek2 fun z hz u hu=>Int.le_trans (ax u hu) (f2 z hz)
  by_cases c4:(k1.length==1)=true
  ·rw[if_pos c4]
   exact wpS_pure ⟨sm,.inl ⟨_,rfl,mC.first (by simpa using c4) h0 (by omega)⟩⟩
  rw[if_neg c4];by_cases c5:(k1.length==0)=true
  ·rw[if_pos c5]
   exact wpS_pure ⟨sm,.inl ⟨_,rfl,mC.done (.inr (by simpa using c5))⟩⟩
  rw[if_neg c5];have c4:k1.length≠1:=by simpa using c4
  have c5:k1.length≠0:=by simpa using c5
  exact sS mC hx (fun z hz=>Int.le_of_lt (f1 z (by rw[(eZ (by omega) ek2).2]at hz;exact hz))) p1 (by omega) p4 (by omega) (by omega) sm
theorem HsQ.y{B:Nat}{st st':SortSt}{c:Hs}(h:HsQ κ a b B st (.yield c) st'):SameBut st st'/\∃na nb out g x y,c=(none,na,nb,out,g,x,y)/\HI κ a b out na nb/\1<=na/\2<=nb/\na<=a.size/\nb<=b.size/\na+nb<=B:=by
 obtain⟨sm,e,pt⟩:=h;obtain⟨ro,na,nb,out,g,x,y⟩:=c;have e:ro=none:=e;subst e;rcases pt with⟨r,e,_⟩|⟨_,m,p1,p2,p3⟩
 ·cases e
 ·exact⟨sm,na,nb,out,g,x,y,rfl,m,p1,p2,p3⟩
theorem lh(T:bV M A E s kd κ S){st:SortSt}{Q:Array Keyed->SortSt->Prop}(sa:Asc κ a.toList)(sb:Asc κ b.toList)(Sa:∀x∈a.toList,S x)(Sb:∀x∈b.toList,S x)(na:1<=a.size)(nb:1<=b.size)
  (h0:∀y,b[0]? = some y->∀x∈a.toList,κ y <= κ x) (hl:∀x,a[a.size-1]? = some x->∀y∈b.toList,κ y <= κ x) (ek:kindOf st=kd) (h:∀out st',eQ κ a b out->SameBut st st'->Q out st'):wpS M A E s (iG a b) Q st:=by
 rw[ma];refine wpS_bind (wpS_lift (wpAny_rule ⟨rfl,?_⟩));obtain⟨x0,hx0⟩:=b7 (xs:=a) (i:=a.size-1) (by omega);refine wpS_bind (aq hx0 ?_);dsimp only;have m0:HI κ a b #[] a.size b.size:=by
  have e1:a.toList.take a.size=a.toList:=List.take_of_length_le (by simp);have e2:b.toList.take b.size=b.toList:=List.take_of_length_le (by simp);unfold HI;rw[e1,e2];exact⟨by rw[List.nil_append];exact(List.reverse_perm _).append (List.reverse_perm _),List.Pairwise.nil,fun x hx=>by simp at hx,asc_neg.mpr (by rw[List.reverse_reverse];exact sa),asc_neg.mpr (by rw[List.reverse_reverse];exact sb)⟩
 have m1:HI κ a b #[x0] (a.size-1) b.size:=HI.pushA (out:=#[]) (nb:=b.size) (na:=a.size-1) (by rw[show a.size-1+1=a.size by omega];exact m0) hx0 fun z hz=>hl x0 hx0 z (List.mem_of_mem_take hz)
 by_cases c1:(a.size-1==0)=true
 ·rw[if_pos c1]
  exact wpS_pure (h _ _ (m1.done (.inl (by simpa using c1))) (.refl _))
 rw[if_neg c1];have c1:a.size-1≠0:=by simpa using c1
 by_cases c2:(b.size==1)=true
 ·rw[if_pos c2]
  exact wpS_pure (h _ _ (m1.first (by simpa using c2) h0 nb) (.refl _))
 rw[if_neg c2];have c2:b.size≠1:=by simpa using c2
 refine wpS_bind (wpS_get ?_);refine wpS_bind (wpS_mono (wpS_forRange (I:=fun t c st'=>SameBut st st'/\∃na nb out g,c=(none,na,nb,out,g)/\HI κ a b out na nb/\1<=na/\2<=nb/\na<=a.size/\nb<=b.size/\na+nb+t+1<=a.size+b.size)
  (Q:=fun c st'=>SameBut st st'/\∃r,c.1=some r/\eQ κ a b r) ?step ?fin ⟨.refl _,_,_,_,_,rfl,m1,by omega,by omega,by omega,by omega,by omega⟩) ?post)
 case fin=>
  rintro c st' ⟨sm,na,nb,out,g,rfl,m,p1,p2,p4,p5,p3⟩;omega
 case post=>
  rintro c st' ⟨sm,r,e,g⟩;rw[e];exact wpS_pure (h r st' g sm)
 case step=>
  rintro t c st1 _ ht ⟨sm1,na,nb,out,g,rfl,m,p1,p2,p4,p5,p3⟩;dsimp only;refine wpS_bind (wpS_mono (wpS_forRange (I:=fun u c st'=>SameBut st st'/\∃na nb out x y,c=(none,na,nb,out,x,y)/\HI κ a b out na nb/\1<=na/\2<=nb/\na<=a.size/\nb<=b.size/\na+nb+t+1+min u 1<=a.size+b.size)
   (Q:=fun c st'=>SameBut st st'/\mW κ a b (a.size+b.size-t-2) c.1 c.2.1 c.2.2.1 c.2.2.2.1) ?step1 ?fin1 ⟨sm1,_,_,_,_,_,rfl,m,p1,p2,p4,p5,by omega⟩) ?post1)
  case fin1=>
   rintro c st' ⟨sm,na,nb,out,x,y,rfl,m,p1,p2,p4,p5,p3⟩;exact⟨sm,.inr ⟨rfl,m,p1,p2,p4,p5,show na+nb<=_ by omega⟩⟩
  case step1=>
   rintro u c st2 _ hu ⟨sm2,na,nb,out,n1,n2,rfl,m,p1,p2,p4,p5,p3⟩;dsimp only;obtain⟨y,hy⟩:=b7 (xs:=b) (i:=nb-1) (by omega);obtain⟨x,hx⟩:=b7 (xs:=a) (i:=na-1) (by omega);have ax:∀u∈a.toList.take na,κ u <= κ x:=fun u hu=>fP sa hx u (by rw[show na-1+1=na by omega];exact hu)
   have bx:∀u∈b.toList.take nb,κ u <= κ y:=fun u hu=>fP sb hy u (by rw[show nb-1+1=nb by omega];exact hu)
   refine wpS_bind (aq hy (wpS_bind (aq hx (wpS_bind (T y x (Sb y (cA hy)) (Sa x (cA hx)) st2 _ (sm2.1.trans ek) ?_)))));dsimp only;by_cases q:κ y < κ x
   ·simp only[q,decide_true,if_true]
    refine wpS_bind (aq hx ?_);have m':HI κ a b (out.push x) (na-1) nb:=HI.pushA (by rw[show na-1+1=na by omega];exact m) hx fun z hz=>Int.le_trans (bx z hz) (Int.le_of_lt q)
    by_cases c3:(na-1==0)=true
    ·rw[if_pos c3]
     exact wpS_pure ⟨sm2,.inl ⟨_,rfl,m'.done (.inl (by simpa using c3))⟩⟩
    rw[if_neg c3];have c3:na-1≠0:=by simpa using c3
    split
    ·exact wpS_pure ⟨sm2,.inr ⟨rfl,m',show 1<=na-1 by omega,p2,show na-1<=_ by omega,p5,show na-1+nb<=_ by omega⟩⟩
    ·exact wpS_pure ⟨sm2,_,_,_,_,_,rfl,m',by omega,p2,by omega,p5,by omega⟩
   ·simp only[q,decide_false,Bool.false_eq_true,if_false]
    refine wpS_bind (aq hy ?_);have m':HI κ a b (out.push y) na (nb-1):=HI.pushB (by rw[show nb-1+1=nb by omega];exact m) hy fun z hz=>Int.le_trans (ax z hz) (Int.not_lt.mp q)
    by_cases c3:(nb-1==1)=true
    ·rw[if_pos c3]
     exact wpS_pure ⟨sm2,.inl ⟨_,rfl,m'.first (by simpa using c3) h0 (by omega)⟩⟩
    rw[if_neg c3];have c3:nb-1≠1:=by simpa using c3
    split
    ·exact wpS_pure ⟨sm2,.inr ⟨rfl,m',p1,show 2<=nb-1 by omega,p4,show nb-1<=_ by omega,show na+(nb-1)<=_ by omega⟩⟩
    ·exact wpS_pure ⟨sm2,_,_,_,_,_,rfl,m',p1,by omega,p4,by omega,by omega⟩
  case post1=>
   rintro⟨ro,na,nb,out,n1,n2⟩ st2 ⟨sm2,pt⟩;rcases pt with⟨r,e,gd⟩|⟨e,m,p1,p2,p4,p5,p3⟩
   ·have e:ro=some r:=e
    subst e;exact wpS_pure ⟨sm2,r,rfl,gd⟩
   have e:ro=none:=e;subst e;dsimp only at m p1 p2 p3 p4 p5 ⊢;refine wpS_bind (wpS_lift (wpAny_rule ⟨rfl,?_⟩));refine wpS_bind (wpS_mono (wpS_forRange (I:=fun u c st'=>SameBut st st'/\∃na nb out g x y,c=(none,na,nb,out,g,x,y)/\HI κ a b out na nb/\1<=na/\2<=nb/\na<=a.size/\nb<=b.size/\na+nb<=a.size+b.size-t-2)
    (Q:=fun c st'=>SameBut st st'/\mW κ a b (a.size+b.size-t-2) c.1 c.2.1 c.2.2.1 c.2.2.2.1) ?step2 ?fin2 ⟨sm2,_,_,_,_,_,_,rfl,m,p1,p2,p4,p5,p3⟩) ?post2)
   case fin2=>
    rintro c st' ⟨sm,na,nb,out,g,x,y,rfl,m,p⟩;exact⟨sm,.inr ⟨rfl,m,p⟩⟩
   case post2=>
    rintro⟨ro,na,nb,out,g,n1,n2⟩ st3 ⟨sm3,pt⟩;rcases pt with⟨r,e,gd⟩|⟨e,m,p1,p2,p4,p5,p3⟩
    ·have e:ro=some r:=e
     subst e;exact wpS_pure ⟨sm3,r,rfl,gd⟩
    have e:ro=none:=e;subst e;dsimp only at m p1 p2 p3 p4 p5 ⊢;exact wpS_bind (eS sm3 fun st4 sm4=>wpS_pure ⟨sm4,_,_,_,_,rfl,m,p1,p2,p4,p5,by omega⟩)
   case step2=>
    rintro u c st3 _ hu ⟨sm3,na,nb,out,g,n1,n2,rfl,m,p1,p2,p4,p5,p3⟩;dsimp only;obtain⟨y,hy⟩:=b7 (xs:=b) (i:=nb-1) (by omega);have Sy:=Sb y (cA hy);have bx:∀u∈b.toList.take nb,κ u <= κ y:=fun u hu=>fP sb hy u (by rw[show nb-1+1=nb by omega];exact hu)
    rcases Nat.lt_or_ge 1 g with hg|hg
    all_goals
     first
     |rw[if_pos hg]
     |rw[if_neg (Nat.not_lt.mpr hg)]
     refine wpS_bind (eS sm3 fun st4 sm4=>?_);refine wpS_bind (aq hy ?_);refine wpS_bind (d8 T (lz sa Sa p4) Sy (sm4.1.trans ek) (by omega) fun l1 l2 el e1 e2=>?_)
     simp only[Bool.false_eq_true,if_false]at e1 e2;dsimp only;have ln:l1.length+l2.length=na:=by
      have:=congrArg List.length el;rw[List.length_append,List.length_take,Array.length_toList]at this;omega
     rcases Nat.eq_zero_or_pos (na-l1.length)with h1|h1
     ·rw[if_neg (by omega)]
      have l2n:l2=[]:=List.length_eq_zero_iff.mp (by omega);subst l2n;refine wpS_mono (sT (B:=a.size+b.size-t-2) (out:=out) (na:=na) (nb:=nb) (k:=na-l1.length) (n2:=n2) T sa sb Sa Sb m hy (fun z hz=>e1 z (by rw[el,List.append_nil]at hz;exact hz)) h0 p1 p2 p4 p5 p3 sm4 ek) fun r st5 gq=>?_
      cases r with
      |done c=>exact gq
      |yield c=>exact gq.y
     ·rw[if_pos h1]
      have mA:=m.appA p4 el fun x hx z hz=>Int.le_trans (bx z hz) (Int.le_of_lt (e2 x hx))
      by_cases c3:(l1.length==0)=true
      ·rw[if_pos c3]
       exact wpS_pure ⟨sm4,.inl ⟨_,rfl,mA.done (.inl (by simpa using c3))⟩⟩
      rw[if_neg c3];have c3:l1.length≠0:=by simpa using c3
      refine wpS_mono (sT (B:=a.size+b.size-t-2) (out:=out++(a.extract l1.length na).reverse) (na:=l1.length) (nb:=nb) (k:=na-l1.length) (n2:=n2) T sa sb Sa Sb mA hy (fun z hz=>e1 z (by rw[(eZ p4 el).2]at hz;exact hz)) h0 (by omega) p2 (by omega) p5 (by omega) sm4 ek) fun r st5 gq=>?_
      cases r with
      |done c=>exact gq
      |yield c=>exact gq.y
end
theorem md(i:Nat):mergeAt' i=(do
 let s <-get
 let (some (sa,na,power),some (sb,nb,_)):=((pendingOf s)[i]?,(pendingOf s)[i+1]?)|unsupported "internal:list.sort.pending"
 set (setPending s (((pendingOf s).setIfInBounds i (sa,na+nb,power)).eraseIdxIfInBounds (i+1)))
 let some k <-bU false (<-elem' (arrOf s) sb) (arrOf s) sa na 0|return false
 let (sa,na):=(sa+k,na-k)
 if na==0 then return true
 let some nb <-bU true (<-elem' (arrOf s) (sa+na-1)) (arrOf s) sb nb (nb-1)|return false
 if nb==0 then return true
 let x:=(arrOf s).extract sa sb
 let y:=(arrOf s).extract sb (sb+nb)
 let merged <-if na<=nb then iF x y else iG x y
 modify fun s=>setArr s (merged.toList.zipIdx.foldl (fun a (p,j)=>a.setIfInBounds (sa+j) p) (arrOf s))
 return (failedOf (<-get)).isNone):=rfl
section
variable{M:Model}{A:Around}{E:Value->Shared->Prop}{s:Shared}{κ:Keyed->Int}{S:Keyed->Prop}{kd:SortKind}
theorem t9{σ:Type}{x:σ}{Q:PUnit -> σ -> Prop}{st:σ}(h:Q ⟨⟩ x):wpS M A E s (set x:StateT σ Sem PUnit) Q st:=by
 unfold wpS;rw[StateT.run_set];exact wpAny_pure ⟨rfl,h⟩
theorem ic(o:Nat):∀(l:List Keyed) (k:Nat) (xs:Array Keyed),o+k+l.length<=xs.size->((l.zipIdx k).foldl (fun(a:Array Keyed) (q:Keyed×Nat)=>a.setIfInBounds (o+q.2) q.1) xs).toList=xs.toList.take (o+k)++l++xs.toList.drop (o+k+l.length)
 |[],k,xs,_=>by simp
 |x::l,k,xs,h=>by
  rw[List.length_cons]at h;rw[List.zipIdx_cons,List.foldl_cons,ic o l (k+1) _ (by rw[Array.size_setIfInBounds];omega),Array.toList_setIfInBounds];have hk:o+k<xs.toList.length:=by rw[Array.length_toList];omega
  rw[show o+(k+1)=o+k+1 by omega,List.take_add_one,List.take_set_of_le (Nat.le_refl _),List.getElem?_set_self hk,List.drop_set_of_lt (by omega),List.length_cons,show o+k+1+l.length=o+k+(l.length+1) by omega];simp
theorem t8(T:bV M A E s kd κ S){st:SortSt}{L1 g1 g2 L2:List Keyed}{i pw pw2:Nat}{Q:Bool->SortSt->Prop}(ek:kindOf st=kd)(hf:failedOf st=none)(ha:(arrOf st).toList=L1++(g1++(g2++L2)))(a1:Asc κ g1)(a2:Asc κ g2)(n1:g1≠[])(n2:g2≠[])(hS:∀x∈g1++g2,S x)
  (p1:(pendingOf st)[i]? = some (L1.length,g1.length,pw)) (p2:(pendingOf st)[i+1]? = some (L1.length+g1.length,g2.length,pw2))
  (h:∀st' g,g.Perm (g1++g2)->Asc κ g->(arrOf st').toList=L1++(g++L2)->kindOf st'=kd->failedOf st'=none->pendingOf st'=((pendingOf st).setIfInBounds i (L1.length,g1.length+g2.length,pw)).eraseIdxIfInBounds (i+1)->Q true st') :
  wpS M A E s (mergeAt' i) Q st:=by
 rw[md];refine wpS_bind (wpS_get ?_);rw[p1,p2];dsimp only;refine wpS_bind (t9 ?_);have sz:(arrOf st).size=L1.length+(g1.length+(g2.length+L2.length)):=by
  have:=congrArg List.length ha;simpa using this
 have l1:1<=g1.length:=List.length_pos_iff.mpr n1;have l2:1<=g2.length:=List.length_pos_iff.mpr n2;have st1:Stretch κ S (arrOf st) L1.length g1.length g1:=⟨by rw[ha,List.drop_left,List.take_left],rfl,fun x hx=>hS x (by simp[hx]),a1⟩
 have st2:Stretch κ S (arrOf st) (L1.length+g1.length) g2.length g2:=⟨by rw[ha,<-List.drop_drop,List.drop_left,List.drop_left,List.take_left],rfl,fun x hx=>hS x (by simp[hx]),a2⟩
 have hb:=st2.get (i:=0) (by omega);rw[Nat.add_zero]at hb;have Sb0:S g2[0]:=st2.all _ (List.getElem_mem _);have b0:∀z∈g2,κ g2[0] <= κ z:=fun z hz=>by
  obtain⟨j,hj,rfl⟩:=List.mem_iff_getElem.mp hz;rcases Nat.eq_zero_or_pos j with q|q
  ·subst q;exact Int.le_refl _
  ·exact List.pairwise_iff_getElem.mp a2 0 j (by omega) hj q
 have same:∀Z:SortSt,arrOf Z=arrOf st->kindOf Z=kindOf st->failedOf Z=failedOf st->pendingOf Z=((pendingOf st).setIfInBounds i (L1.length,g1.length+g2.length,pw)).eraseIdxIfInBounds (i+1)->(∀x∈g1,∀y∈g2,κ x <= κ y)->Q true Z:=fun Z e1 e2 e3 e4 q=>
  h Z (g1++g2) (List.Perm.refl _) (a1.app a2 q) (by rw[e1,ha,List.append_assoc]) (e2.trans ek) (e3.trans hf) e4
 refine wpS_bind (aq hb ?_);refine wpS_bind (d8 T st1 Sb0 ek (by omega) fun u1 u2 eu e1 e2=>?_)
 simp only[Bool.false_eq_true,if_false]at e1 e2;dsimp only;have lu:u1.length+u2.length=g1.length:=by rw[eu,List.length_append]
 by_cases c1:(g1.length-u1.length==0)=true
 ·rw[if_pos c1]
  have:u2=[]:=List.length_eq_zero_iff.mp (by have:g1.length-u1.length=0:=(by simpa using c1);omega);subst this;rw[List.append_nil]at eu;refine wpS_pure (same _ rfl rfl rfl rfl fun x hx y hy=>Int.le_trans (e1 x (eu ▸ hx)) (b0 y hy))
 rw[if_neg c1];have c1:g1.length-u1.length≠0:=by simpa using c1
 have hlast:(arrOf st)[L1.length+u1.length+(g1.length-u1.length)-1]? = some g1[g1.length-1]:=by
  rw[show L1.length+u1.length+(g1.length-u1.length)-1=L1.length+(g1.length-1) by omega];exact st1.get (by omega)
 have gl:∀z∈g1,κ z <= κ g1[g1.length-1]:=fun z hz=>by
  obtain⟨j,hj,rfl⟩:=List.mem_iff_getElem.mp hz;rcases Nat.lt_or_ge j (g1.length-1)with q|q
  ·exact List.pairwise_iff_getElem.mp a1 j _ hj (by omega) q
  ·have:j=g1.length-1:=by omega
   subst this;exact Int.le_refl _
 refine wpS_bind (aq hlast ?_);refine wpS_bind (d8 T st2 (st1.all _ (List.getElem_mem _)) ek (by omega) fun v1 v2 ev f1 f2=>?_)
 simp only[if_true]at f1 f2;dsimp only;by_cases c2:(v1.length==0)=true
 ·rw[if_pos c2]
  have:v1=[]:=List.length_eq_zero_iff.mp (by simpa using c2);subst this;rw[List.nil_append]at ev;refine wpS_pure (same _ rfl rfl rfl rfl fun x hx y hy=>Int.le_trans (gl x hx) (f2 y (ev ▸ hy)))
 rw[if_neg c2];have c2:v1.length≠0:=by simpa using c2
 have lv:v1.length+v2.length=g2.length:=by rw[ev,List.length_append]
 have ex:((arrOf st).extract (L1.length+u1.length) (L1.length+g1.length)).toList=u2:=by
  rw[Array.toList_extract,List.extract_eq_drop_take,ha,eu,<-List.drop_drop,List.drop_left,List.append_assoc,List.drop_left,List.length_append,show L1.length+(u1.length+u2.length)-(L1.length+u1.length)=u2.length by omega,List.take_left]
 have ey:((arrOf st).extract (L1.length+g1.length) (L1.length+g1.length+v1.length)).toList=v1:=by
  rw[Array.toList_extract,List.extract_eq_drop_take,ha,<-List.drop_drop,List.drop_left,List.drop_left,ev,List.append_assoc,show L1.length+g1.length+v1.length-(L1.length+g1.length)=v1.length by omega,List.take_left]
 have hm:∀(mg:Array Keyed) (st':SortSt),eQ κ ((arrOf st).extract (L1.length+u1.length) (L1.length+g1.length)) ((arrOf st).extract (L1.length+g1.length) (L1.length+g1.length+v1.length)) mg->SameBut (setPending st (((pendingOf st).setIfInBounds i (L1.length,g1.length+g2.length,pw)).eraseIdxIfInBounds (i+1))) st' ->
   wpS M A E s (do
    modify fun s=>setArr s (mg.toList.zipIdx.foldl (fun(a:Array Keyed) (q:Keyed×Nat)=>a.setIfInBounds (L1.length+u1.length+q.2) q.1) (arrOf s))
    return (failedOf (<-get)).isNone) Q st':=fun mg st' gd sm=>by
  obtain⟨gp,ga⟩:=gd;rw[ex,ey]at gp;have ea:arrOf st'=arrOf st:=sm.2.1;have lm:mg.toList.length=u2.length+v1.length:=by rw[gp.length_eq,List.length_append]
  refine wpS_bind (wpS_modify (wpS_bind (wpS_get (wpS_pure ?_))));have fn:failedOf st'=none:=sm.2.2.2.trans hf;show Q (failedOf st').isNone _;rw[fn];refine h _ (u1++mg.toList++v2) ?_ ?_ ?_ (sm.1.trans ek) fn sm.2.2.1
  ·rw[eu,ev]
   have:=((List.Perm.refl u1).append gp).append (List.Perm.refl v2);simpa[List.append_assoc]using this
  ·have mem:∀z,z∈mg.toList->z∈u2\/z∈v1:=fun z hz=>List.mem_append.mp (gp.mem_iff.mp hz)
   have au:=eu ▸ a1;have av:=ev ▸ a2;have v0:∀z∈v1,κ g2[0] <= κ z:=fun z hz=>b0 z (by rw[ev];simp[hz])
   refine(au.left.app ga fun x hx z hz=>?_).app av.right fun x hx z hz=>?_
   ·rcases mem z hz with q|q
    ·exact au.mid x hx z q
    ·exact Int.le_trans (e1 x hx) (v0 z q)
   ·rcases List.mem_append.mp hx with q|q
    ·exact Int.le_trans (gl x (by rw[eu];simp[q])) (f2 z hz)
    ·rcases mem x q with q|q
     ·exact Int.le_trans (gl x (by rw[eu];simp[q])) (f2 z hz)
     ·exact av.mid x q z hz
  ·show(mg.toList.zipIdx.foldl _ (arrOf st')).toList=_
   rw[ea,ic (L1.length+u1.length) mg.toList 0 (arrOf st) (by rw[lm,sz];omega),Nat.add_zero,ha,eu,ev,lm];have t1:(L1++(u1++u2++(v1++v2++L2))).take (L1.length+u1.length)=L1++u1:=by
    rw[show L1++(u1++u2++(v1++v2++L2))=(L1++u1)++(u2++(v1++v2++L2)) by simp[List.append_assoc],<-List.length_append,List.take_left]
   have t2:(L1++(u1++u2++(v1++v2++L2))).drop (L1.length+u1.length+(u2.length+v1.length))=v2++L2:=by
    rw[show L1++(u1++u2++(v1++v2++L2))=(L1++u1++(u2++v1))++(v2++L2) by simp[List.append_assoc],<-List.length_append,<-List.length_append,<-List.length_append,List.drop_left]
   rw[t1,t2];simp[List.append_assoc]
 have ax:Asc κ ((arrOf st).extract (L1.length+u1.length) (L1.length+g1.length)).toList:=by rw[ex];exact(eu ▸ a1).right
 have ay:Asc κ ((arrOf st).extract (L1.length+g1.length) (L1.length+g1.length+v1.length)).toList:=by rw[ey];exact(ev ▸ a2).left
 have SX:∀x∈((arrOf st).extract (L1.length+u1.length) (L1.length+g1.length)).toList,S x:=by rw[ex];exact fun x hx=>hS x (by rw[eu];simp[hx])
 have SY:∀x∈((arrOf st).extract (L1.length+g1.length) (L1.length+g1.length+v1.length)).toList,S x:=by rw[ey];exact fun x hx=>hS x (by rw[ev];simp[hx])
 have nX:1<=((arrOf st).extract (L1.length+u1.length) (L1.length+g1.length)).size:=by rw[<-Array.length_toList,ex];omega
 have nY:1<=((arrOf st).extract (L1.length+g1.length) (L1.length+g1.length+v1.length)).size:=by rw[<-Array.length_toList,ey];omega
 have h0:∀y,((arrOf st).extract (L1.length+g1.length) (L1.length+g1.length+v1.length))[0]? = some y->∀x∈((arrOf st).extract (L1.length+u1.length) (L1.length+g1.length)).toList,κ y <= κ x:=fun y hy x hx=>by
  rw[<-Array.getElem?_toList,ey]at hy;have:g2[0]? = some y:=by rw[ev,List.getElem?_append_left (by omega)];exact hy
  obtain⟨_,e⟩:=List.getElem?_eq_some_iff.mp this;rw[ex]at hx;rw[<-e];exact Int.le_of_lt (e2 x hx)
 have hl:∀x,((arrOf st).extract (L1.length+u1.length) (L1.length+g1.length))[((arrOf st).extract (L1.length+u1.length) (L1.length+g1.length)).size-1]? = some x->∀y∈((arrOf st).extract (L1.length+g1.length) (L1.length+g1.length+v1.length)).toList,κ y <= κ x:=fun x hx y hy=>by
  rw[<-Array.length_toList,<-Array.getElem?_toList,ex]at hx;have:g1[g1.length-1]? = some x:=by
   rw[<-hx];have:g1.length-1=u1.length+(u2.length-1):=by omega
   rw[this]
   conv=>lhs;rw[eu]
   rw[List.getElem?_append_right (by omega),Nat.add_sub_cancel_left]
  obtain⟨_,e⟩:=List.getElem?_eq_some_iff.mp this;rw[ey]at hy;rw[<-e];exact Int.le_of_lt (f1 y hy)
 by_cases c3:g1.length-u1.length<=v1.length
 ·rw[if_pos c3]
  exact wpS_bind (ld T ax ay SX SY nX nY h0 hl ek fun mg st' gd sm=>hm mg st' gd sm)
 ·rw[if_neg c3]
  exact wpS_bind (lh T ax ay SX SY nX nY h0 hl ek fun mg st' gd sm=>hm mg st' gd sm)
end
noncomputable def KA(κ:Keyed->Int)(xs:Array Keyed)(i:Nat):Int:=match xs[i]? with
 |some p=>κ p
 |none=>0
def jk(κ:Keyed->Int)(xs:Array Keyed)(lo k:Nat):Prop:=∀i j,i<=j->j<k->KA κ xs (lo+i)<=KA κ xs (lo+j)
def gF(κ:Keyed->Int)(xs:Array Keyed)(lo k:Nat):Prop:=∀i j,i<=j->j<k->KA κ xs (lo+j)<=KA κ xs (lo+i)
section
variable{M:Model}{A:Around}{E:Value->Shared->Prop}{s:Shared}{κ:Keyed->Int}{S:Keyed->Prop}{kd:SortKind}
theorem d7{xs ys:Array Keyed}{i j:Nat}(h:xs[i]? = ys[j]?):KA κ xs i=KA κ ys j:=by unfold KA;rw[h]
theorem kh{xs:Array Keyed}{src d:Nat}(hs:src<xs.size)(hd:d<=src)(k:Nat):
  KA κ (bubble xs src d) k=if k=src-d then KA κ xs src else if src-d<k/\k<=src then KA κ xs (k-1)else KA κ xs k:=by
 have e:=getElem?_bubble hs d hd k;by_cases h1:k=src-d
 ·rw[if_pos h1]at e ⊢;exact d7 e
 ·rw[if_neg h1]at e ⊢
  by_cases h2:src-d<k/\k<=src
  ·rw[if_pos h2]at e ⊢;exact d7 e
  ·rw[if_neg h2]at e ⊢;exact d7 e
theorem gE{xs:Array Keyed}{i j:Nat}(hj:j<=xs.size)(k:Nat):KA κ (mirror xs i j ((j-i)/2)) k=if i<=k/\k<j then KA κ xs (i+j-1-k)else KA κ xs k:=by
 have e:=getElem?_mirror_all (i:=i) hj k;by_cases h1:i<=k/\k<j
 ·rw[if_pos h1]at e ⊢;exact d7 e
 ·rw[if_neg h1]at e ⊢;exact d7 e
theorem aX{xs:Array Keyed}{i j:Nat}(hj:j<=xs.size)(heq:∀k,i<=k->k<j->KA κ xs k=KA κ xs (j-1))(k:Nat):KA κ (mirror xs i j ((j-i)/2)) k=KA κ xs k:=by
 rw[gE hj];split
 ·rw[heq _ (by omega) (by omega),heq k (by omega) (by omega)]
 ·rfl
structure SB (S:Keyed->Prop) (kd:SortKind) (lo:Nat) (st0 st:SortSt):Prop where
 perm:(arrOf st).Perm (arrOf st0)
 pre:∀k,k<lo->(arrOf st)[k]? = (arrOf st0)[k]?
 kind:kindOf st=kd
 failed:failedOf st=none
 pend:pendingOf st=pendingOf st0
 gal:gallopOf st=gallopOf st0
 all:∀x∈(arrOf st0).toList,S x
theorem SB.size{lo:Nat}{st0 st:SortSt}(h:SB S kd lo st0 st):(arrOf st).size=(arrOf st0).size:=h.perm.size_eq
theorem SB.setArr{lo:Nat}{st0 st:SortSt}(h:SB S kd lo st0 st){xs:Array Keyed}(hp:xs.Perm (arrOf st))(hq:∀k,k<lo->xs[k]? = (arrOf st)[k]?):SB S kd lo st0 (setArr st xs):=
 ⟨hp.trans h.perm,fun k hk=>(hq k hk).trans (h.pre k hk),h.kind,h.failed,h.pend,h.gal,h.all⟩
theorem SB.at{lo:Nat}{st0 st:SortSt}(h:SB S kd lo st0 st){i:Nat}(hi:i<(arrOf st0).size):∃x,(arrOf st)[i]? = some x/\S x /\ κ x=KA κ (arrOf st) i:=by
 obtain⟨x,hx⟩:=b7 (xs:=arrOf st) (i:=i) (by rw[h.size];exact hi);exact⟨x,hx,h.all x ((Array.perm_iff_toList_perm.mp h.perm).mem_iff.mp (cA hx)),by unfold KA;rw[hx]⟩
theorem eT(T:bV M A E s kd κ S){lo:Nat}{st0 st:SortSt}{i j:Nat}{Q:Option Bool->SortSt->Prop}(hB:SB S kd lo st0 st)(hi:i<(arrOf st0).size)(hj:j<(arrOf st0).size)
  (h:Q (some (decide (KA κ (arrOf st) i<KA κ (arrOf st) j))) st):wpS M A E s (ltAt' i j) Q st:=by
 obtain⟨x,e1,s1,k1⟩:=hB.at (κ:=κ) hi;obtain⟨y,e2,s2,k2⟩:=hB.at (κ:=κ) hj;rw[ltAt'_eq];refine wpS_bind (wpS_get ?_);exact wpS_bind (aq e1 (wpS_bind (aq e2 (T x y s1 s2 st _ hB.kind (by rw[k1,k2];exact h)))))
theorem dw{xs:Array Keyed}{i j lo:Nat}(hj:j<=xs.size)(hi:lo<=i):∀k,k<lo->(mirror xs i j ((j-i)/2))[k]? = xs[k]?:=fun k hk=>by
 rw[getElem?_mirror_all hj,if_neg (by omega)]
theorem oh{xs:Array Keyed}{src d lo:Nat}(hs:src<xs.size)(hd:d<=src)(hl:lo<=src-d):∀k,k<lo->(bubble xs src d)[k]? = xs[k]?:=fun k hk=>by
 rw[getElem?_bubble hs d hd,if_neg (by omega),if_neg (by omega)]
theorem ub(T:bV M A E s kd κ S){lo:Nat}{st0 st:SortSt}{n ok:Nat}{Q:Bool->SortSt->Prop}(hn:lo+n<=(arrOf st0).size)(hok:ok<=n)(hB:SB S kd lo st0 st)(hs:jk κ (arrOf st) lo ok)
  (h:∀st',SB S kd lo st0 st'->jk κ (arrOf st') lo n->Q true st'):wpS M A E s (binarySort' lo n ok) Q st:=by
 rw[binarySort'_eq];refine wpS_bind (wpS_mono (wpS_forRange (I:=fun k c st'=>c=(none,())/\SB S kd lo st0 st'/\jk κ (arrOf st') lo (min k n))
  (Q:=fun c st'=>c=(none,())/\SB S kd lo st0 st'/\jk κ (arrOf st') lo n) ?step ?fin ?init) ?post)
 case post=>
  rintro c st' ⟨rfl,hB',hs'⟩;exact wpS_pure (h st' hB' hs')
 case init=>
  refine⟨rfl,hB,fun i j hij hj=>?_⟩
  by_cases h1:ok=0
  ·have:i=j:=by omega
   subst this;exact Int.le_refl _
  ·exact hs i j hij (by omega)
 case fin=>
  rintro c st' ⟨hc,hB',hs'⟩;refine⟨hc,hB',?_⟩
  rwa [show min (max (max ok 1) n) n=n by omega]at hs'
 case step=>
  rintro k c st' hak hkn ⟨rfl,hB',hs'⟩;rw[show min k n=k by omega]at hs';have hk:lo+k<(arrOf st0).size:=by omega
  refine wpS_bind (wpS_mono (wpS_forRange (I:=fun x c st''=>st''=st'/\∃l r,c=(none,l,r)/\l<=r/\r<=k/\r-l<=k-x /\
    (∀i,i<l->KA κ (arrOf st') (lo+i)<=KA κ (arrOf st') (lo+k))/\(∀i,r<=i->i<k->KA κ (arrOf st') (lo+k)<KA κ (arrOf st') (lo+i)))
   (Q:=fun c st''=>st''=st'/\∃l r,c=(none,l,r)/\l<=k /\
    (∀i,i<l->KA κ (arrOf st') (lo+i)<=KA κ (arrOf st') (lo+k))/\(∀i,l<=i->i<k->KA κ (arrOf st') (lo+k)<KA κ (arrOf st') (lo+i))) ?istep ?ifin ?iinit) ?ipost)
  case iinit=>exact⟨rfl,0,k,rfl,by omega,by omega,by omega,fun i hi=>by omega,fun i h1 h2=>by omega⟩
  case ifin=>
   rintro c st'' ⟨rfl,l,r,rfl,hlr,hrk,hm,hlo,hhi⟩;have:l=r:=by omega
   subst this;exact⟨rfl,l,l,rfl,hrk,hlo,hhi⟩
  case istep=>
   rintro x c st'' _ hxk ⟨rfl,l,r,rfl,hlr,hrk,hm,hlo,hhi⟩;dsimp only;by_cases hge:l>=r
   ·rw[if_pos hge]
    have:l=r:=by omega
    subst this;exact wpS_pure ⟨rfl,l,l,rfl,hrk,hlo,hhi⟩
   ·rw[if_neg hge]
    refine wpS_bind (eT T hB' hk (by omega) ?_);by_cases hless:KA κ (arrOf st'') (lo+k)<KA κ (arrOf st'') (lo+(l+r)/2)
    ·simp only[hless,decide_true,if_true]
     refine wpS_pure ⟨rfl,l,(l+r)/2,rfl,by omega,by omega,by omega,hlo,fun i h1 h2=>?_⟩
     exact Int.lt_of_lt_of_le hless (hs' _ _ h1 h2)
    ·simp only[hless,decide_false,Bool.false_eq_true,if_false]
     refine wpS_pure ⟨rfl,(l+r)/2+1,r,rfl,by omega,by omega,by omega,fun i h1=>?_,hhi⟩
     exact Int.le_trans (hs' i ((l+r)/2) (by omega) (by omega)) (Int.not_lt.mp hless)
  case ipost=>
   rintro c st'' ⟨rfl,l,r,rfl,hlk,hlo,hhi⟩;show wpS _ _ _ _ (do moveDown' (lo+k) (lo+l);pure (ForInStep.yield (none,()))) _ _;rw[moveDown'_eq];have hks:lo+k<(arrOf st'').size:=by rw[hB'.size];exact hk
   refine wpS_bind (wpS_modify (wpS_pure ⟨rfl,hB'.setArr (bubble_perm _ _ _) (oh hks (by omega) (by omega)),?_⟩));rw[show min (k+1) n=k+1 by omega];intro i j hij hj;show KA κ (bubble (arrOf st'') (lo+k) (lo+k-(lo+l))) (lo+i)<=KA κ (bubble (arrOf st'') (lo+k) (lo+k-(lo+l))) (lo+j);rw[kh hks (by omega),kh hks (by omega),show lo+k-(lo+k-(lo+l))=lo+l by omega];have r1:∀i,l<i->lo+i-1=lo+(i-1):=fun i hi=>by omega
   repeat' split
   all_goals first
    | (exfalso;omega)
    |exact Int.le_refl _
    |exact hlo _ (by omega)
    | (rw[r1 _ (by omega)];exact Int.le_of_lt (hhi _ (by omega) (by omega)))
    | (rw[r1 _ (by omega),r1 _ (by omega)];exact hs' _ _ (by omega) (by omega))
    | (rw[r1 _ (by omega)];exact hs' _ _ (by omega) (by omega))
    |exact hs' _ _ (by omega) (by omega)
end
noncomputable def ascL(lo a nrem:Nat):StateT SortSt Sem AscSt:=
 forIn [a:nrem] ((none,a):AscSt) fun _ c=>do
  let x <-ltAt' (lo+c.snd) (lo+c.snd-1)
  match x with
  |some smaller=>if smaller=true then pure (ForInStep.done (none,c.snd))else pure (ForInStep.yield (none,c.snd+1))
  |_=>pure (ForInStep.done (some none,c.snd))
noncomputable def il(lo n nrem:Nat):StateT SortSt Sem (Option Nat):=do
 reverseSlice' lo (lo+n)
 let c <-ascL lo n nrem
 match c.fst with
 |some r=>pure r
 |none=>pure (some c.snd)
noncomputable def pE(lo n nrem:Nat):StateT SortSt Sem DescSt:=
 forIn [n:nrem] ((none,n,0):DescSt) fun _ c=>do
  let x <-ltAt' (lo+c.snd.fst) (lo+c.snd.fst-1)
  match x with
  |some smaller=>
   if smaller=true then
    if c.snd.snd>0 then do
     reverseSlice' (lo+c.snd.fst-(c.snd.snd+1)) (lo+c.snd.fst)
     pure (ForInStep.yield (none,c.snd.fst+1,0))
    else pure (ForInStep.yield (none,c.snd.fst+1,0))
   else do
    let x <-ltAt' (lo+c.snd.fst-1) (lo+c.snd.fst)
    match x with
    |some larger=>
     if larger=true then pure (ForInStep.done (none,c.snd.fst,c.snd.snd))
     else pure (ForInStep.yield (none,c.snd.fst+1,c.snd.snd+1))
    |_=>pure (ForInStep.done (some none,c.snd.fst,c.snd.snd))
  |_=>pure (ForInStep.done (some none,c.snd.fst,c.snd.snd))
noncomputable def dh(lo n nrem:Nat):StateT SortSt Sem (Option Nat):=do
 liftM (rule "list.sort.descending-run")
 let c <-pE lo (n+1) nrem
 match c.fst with
 |some r=>pure r
 |none=>
  if c.snd.snd>0 then do
   reverseSlice' (lo+c.snd.fst-(c.snd.snd+1)) (lo+c.snd.fst)
   il lo c.snd.fst nrem
  else il lo c.snd.fst nrem
theorem kM(lo nrem:Nat):countRun' lo nrem=(do
  let c <-ascL lo 1 nrem
  match c.fst with
  |some r=>pure r
  |none=>
   if(c.snd==nrem)=true then pure (some c.snd)
   else if c.snd>1 then do
    let x <-ltAt' lo (lo+c.snd-1)
    match x with
    |some rose=>if rose=true then pure (some c.snd)else do
      reverseSlice' lo (lo+c.snd)
      dh lo c.snd nrem
    |_=>pure none
   else dh lo c.snd nrem):=by
 rw[countRun'_eq];unfold dh il pE ascL;dsimp only;congr 1;funext c;obtain⟨r,n⟩:=c;cases r with
 |some r=>rfl
 |none=>
  dsimp only;split
  ·rfl
  ·split
   ·congr 1
    funext x;cases x with
    |none=>rfl
    |some rose=>
     dsimp only;split
     ·rfl
     ·congr 1
      funext u0;congr 1;funext u1;congr 1;congr 1;funext c2;obtain⟨r2,n2,q2⟩:=c2;cases r2 with
      |some r2=>rfl
      |none=>
       dsimp only;split
       ·congr 1
        funext u2;congr 1;funext u3;congr 1;funext c3;obtain⟨r3,n3⟩:=c3;cases r3<;>rfl
       ·congr 1
        funext u3;congr 1;funext c3;obtain⟨r3,n3⟩:=c3;cases r3<;>rfl
   ·congr 1
    funext u1;congr 1;congr 1;funext c2;obtain⟨r2,n2,q2⟩:=c2;cases r2 with
    |some r2=>rfl
    |none=>
     dsimp only;split
     ·congr 1
      funext u2;congr 1;funext u3;congr 1;funext c3;obtain⟨r3,n3⟩:=c3;cases r3<;>rfl
     ·congr 1
      funext u3;congr 1;funext c3;obtain⟨r3,n3⟩:=c3;cases r3<;>rfl
section
variable{M:Model}{A:Around}{E:Value->Shared->Prop}{s:Shared}{κ:Keyed->Int}{S:Keyed->Prop}{kd:SortKind}{lo:Nat}{st0 st:SortSt}
theorem g8{i j:Nat}{Q:Unit->SortSt->Prop}(h:Q () (setArr st (mirror (arrOf st) i j ((j-i)/2)))):wpS M A E s (reverseSlice' i j) Q st:=by
 rw[reverseSlice'_eq];exact wpS_modify h
theorem li(T:bV M A E s kd κ S){a nrem:Nat}{Q:AscSt->SortSt->Prop}(hn:lo+nrem<=(arrOf st0).size)(ha:1<=a)(han:a<=nrem)(hB:SB S kd lo st0 st)(hs:jk κ (arrOf st) lo a)
  (h:∀n,a<=n->n<=nrem->jk κ (arrOf st) lo n->(n=nrem\/KA κ (arrOf st) (lo+n)<KA κ (arrOf st) (lo+n-1))->Q (none,n) st):wpS M A E s (ascL lo a nrem) Q st:=by
 unfold ascL;refine wpS_forRange (I:=fun x c st'=>st'=st/\c=(none,x)/\jk κ (arrOf st) lo x) ?step ?fin ⟨rfl,rfl,hs⟩
 case fin=>
  rintro c st' ⟨rfl,rfl,hs'⟩;rw[show max a nrem=nrem by omega]at hs' ⊢;exact h nrem han (Nat.le_refl _) hs' (.inl rfl)
 case step=>
  rintro x c st' hax hxn ⟨rfl,rfl,hs'⟩;dsimp only;refine wpS_bind (eT T hB (by omega) (by omega) ?_);by_cases hless:KA κ (arrOf st') (lo+x)<KA κ (arrOf st') (lo+x-1)
  ·simp only[hless,decide_true,if_true]
   exact wpS_pure (h x hax (by omega) hs' (.inr hless))
  ·simp only[hless,decide_false,Bool.false_eq_true,if_false]
   refine wpS_pure ⟨rfl,rfl,fun i j hij hj=>?_⟩
   by_cases hjx:j<x
   ·exact hs' i j hij hjx
   ·have hj':j=x:=by omega
    subst hj';by_cases hi':i=j
    ·subst hi';exact Int.le_refl _
    ·rw[show lo+j-1=lo+(j-1) by omega]at hless
     exact Int.le_trans (hs' i (j-1) (by omega) (by omega)) (Int.not_lt.mp hless)
theorem ie(T:bV M A E s kd κ S){n nrem:Nat}{Q:Option Nat->SortSt->Prop}(hn:lo+nrem<=(arrOf st0).size)(h1:1<=n)(hnn:n<=nrem)(hB:SB S kd lo st0 st)(hs:gF κ (arrOf st) lo n)
  (h:∀m st',SB S kd lo st0 st'->1<=m->m<=nrem->jk κ (arrOf st') lo m->Q (some m) st'):wpS M A E s (il lo n nrem) Q st:=by
 unfold il;have hsz:lo+n<=(arrOf st).size:=by rw[hB.size];omega
 refine wpS_bind (g8 ?_);have hB':SB S kd lo st0 (setArr st (mirror (arrOf st) lo (lo+n) ((lo+n-lo)/2))):=hB.setArr (mirror_perm _ _ _ _) (dw hsz (Nat.le_refl _));refine wpS_bind (li T hn h1 hnn hB' ?_ fun m hm1 hm2 hsm _=>wpS_pure (h m _ hB' (by omega) hm2 hsm))
 intro i j hij hj;show KA κ (mirror (arrOf st) lo (lo+n) ((lo+n-lo)/2)) (lo+i)<=KA κ (mirror (arrOf st) lo (lo+n) ((lo+n-lo)/2)) (lo+j);rw[gE hsz,gE hsz,if_pos (by omega),if_pos (by omega),show lo+(lo+n)-1-(lo+i)=lo+(n-1-i) by omega,show lo+(lo+n)-1-(lo+j)=lo+(n-1-j) by omega];exact hs _ _ (by omega) (by omega)
theorem pP(T:bV M A E s kd κ S){n nrem:Nat}{Q:DescSt->SortSt->Prop}(hn:lo+nrem<=(arrOf st0).size)(h1:1<=n)(hnn:n<=nrem)(hB:SB S kd lo st0 st)(hs:gF κ (arrOf st) lo n)
  (h:∀m neq st',SB S kd lo st0 st'->n<=m->m<=nrem->gF κ (arrOf st') lo m->neq+1<=m->(∀i,lo+m-(neq+1)<=i->i<lo+m->KA κ (arrOf st') i=KA κ (arrOf st') (lo+m-1))->Q (none,m,neq) st'):wpS M A E s (pE lo n nrem) Q st:=by
 unfold pE;refine wpS_forRange (I:=fun x c st'=>∃neq,c=(none,x,neq)/\SB S kd lo st0 st'/\gF κ (arrOf st') lo x/\neq+1<=x /\
   (∀i,lo+x-(neq+1)<=i->i<lo+x->KA κ (arrOf st') i=KA κ (arrOf st') (lo+x-1))) ?step ?fin ⟨0,rfl,hB,hs,by omega,fun i h1 h2=>by congr 1;omega⟩
 case fin=>
  rintro c st' ⟨neq,rfl,hB',hs',hq,he⟩;rw[show max n nrem=nrem by omega]at hs' hq he ⊢;exact h nrem neq st' hB' hnn (Nat.le_refl _) hs' hq he
 case step=>
  rintro x c st' hax hxn ⟨neq,rfl,hB',hs',hq,he⟩;dsimp only;have hsz:lo+x<=(arrOf st').size:=by rw[hB'.size];omega
  have e1:lo+x-1=lo+(x-1):=by omega
  refine wpS_bind (eT T hB' (by omega) (by omega) ?_);by_cases hless:KA κ (arrOf st') (lo+x)<KA κ (arrOf st') (lo+x-1)
  ·simp only[hless,decide_true,if_true]
   have step1:∀xs:Array Keyed,(∀k,KA κ xs k=KA κ (arrOf st') k)->gF κ xs lo (x+1):=by
    intro xs hk i j hij hj;rw[hk,hk];by_cases hjx:j<x
    ·exact hs' i j hij hjx
    ·have hj':j=x:=by omega
     subst hj';by_cases hi':i=j
     ·subst hi';exact Int.le_refl _
     ·rw[e1]at hless
      exact Int.le_trans (Int.le_of_lt hless) (hs' i (j-1) (by omega) (by omega))
   by_cases hneq:neq>0
   ·rw[if_pos hneq]
    refine wpS_bind (g8 (wpS_pure ⟨0,rfl,hB'.setArr (mirror_perm _ _ _ _) (dw hsz (by omega)),step1 _ (aX hsz he),by omega,fun i h1 h2=>by congr 1;omega⟩))
   ·rw[if_neg hneq]
    exact wpS_pure ⟨0,rfl,hB',step1 _ (fun _=>rfl),by omega,fun i h1 h2=>by congr 1;omega⟩
  ·simp only[hless,decide_false,Bool.false_eq_true,if_false]
   refine wpS_bind (eT T hB' (by omega) (by omega) ?_);by_cases hlarger:KA κ (arrOf st') (lo+x-1)<KA κ (arrOf st') (lo+x)
   ·simp only[hlarger,decide_true,if_true]
    exact wpS_pure (h x neq st' hB' hax (by omega) hs' hq he)
   ·simp only[hlarger,decide_false,Bool.false_eq_true,if_false]
    have heqx:KA κ (arrOf st') (lo+x)=KA κ (arrOf st') (lo+x-1):=by omega
    refine wpS_pure ⟨neq+1,rfl,hB',fun i j hij hj=>?_,by omega,fun i h1 h2=>?_⟩
    ·by_cases hjx:j<x
     ·exact hs' i j hij hjx
     ·have hj':j=x:=by omega
      subst hj';by_cases hi':i=j
      ·subst hi';exact Int.le_refl _
      ·rw[heqx,e1];exact hs' i (j-1) (by omega) (by omega)
    ·rw[show lo+(x+1)-1=lo+x by omega]
     by_cases hix:i=lo+x
     ·subst hix;rfl
     ·rw[heqx];exact he i (by omega) (by omega)
theorem et(T:bV M A E s kd κ S){n nrem:Nat}{Q:Option Nat->SortSt->Prop}(hn:lo+nrem<=(arrOf st0).size)(hnn:n+1<=nrem)(hB:SB S kd lo st0 st)(hs:gF κ (arrOf st) lo (n+1))
  (h:∀m st',SB S kd lo st0 st'->1<=m->m<=nrem->jk κ (arrOf st') lo m->Q (some m) st'):wpS M A E s (dh lo n nrem) Q st:=by
 unfold dh;refine wpS_bind (wpS_lift (wpAny_rule ⟨rfl,?_⟩));refine wpS_bind (pP T hn (by omega) hnn hB hs fun m neq st' hB' hm1 hm2 hs' hq he=>?_)
 dsimp only;have hsz:lo+m<=(arrOf st').size:=by rw[hB'.size];omega
 by_cases hneq:neq>0
 ·rw[if_pos hneq]
  refine wpS_bind (g8 (ie T hn (by omega) hm2 (hB'.setArr (mirror_perm _ _ _ _) (dw hsz (by omega))) ?_ h));intro i j hij hj;show KA κ (mirror (arrOf st') _ _ _) (lo+j)<=KA κ (mirror (arrOf st') _ _ _) (lo+i);rw[aX hsz he,aX hsz he];exact hs' i j hij hj
 ·rw[if_neg hneq]
  exact ie T hn (by omega) hm2 hB' hs' h
theorem ua(T:bV M A E s kd κ S){nrem:Nat}{Q:Option Nat->SortSt->Prop}(hn:lo+nrem<=(arrOf st0).size)(h1:1<=nrem)(hB:SB S kd lo st0 st)
  (h:∀m st',SB S kd lo st0 st'->1<=m->m<=nrem->jk κ (arrOf st') lo m->Q (some m) st'):wpS M A E s (countRun' lo nrem) Q st:=by
 rw[kM];refine wpS_bind (li T hn (Nat.le_refl 1) h1 hB (fun i j hij hj=>by rw[show i=j by omega];exact Int.le_refl _) fun n hn1 hn2 hsn hor=>?_)
 dsimp only;by_cases hnn:n=nrem
 ·rw[if_pos (by simpa using hnn)]
  exact wpS_pure (h n st hB hn1 hn2 hsn)
 ·rw[if_neg (by simpa using hnn)]
  have hlt:KA κ (arrOf st) (lo+n)<KA κ (arrOf st) (lo+(n-1)):=by
   have:=hor.resolve_left hnn
   rwa [show lo+n-1=lo+(n-1) by omega]at this
  by_cases hgt:n>1
  ·rw[if_pos hgt]
   refine wpS_bind (eT T hB (by omega) (by omega) ?_);by_cases hrose:KA κ (arrOf st) lo<KA κ (arrOf st) (lo+n-1)
   ·simp only[hrose,decide_true,if_true]
    exact wpS_pure (h n st hB hn1 hn2 hsn)
   ·simp only[hrose,decide_false,Bool.false_eq_true,if_false]
    have hsz:lo+n<=(arrOf st).size:=by rw[hB.size];omega
    have hall:∀k,k<n->KA κ (arrOf st) (lo+k)=KA κ (arrOf st) (lo+n-1):=by
     intro k hk;have a1:=hsn 0 k (by omega) hk;have a2:=hsn k (n-1) (by omega) (by omega);rw[Nat.add_zero]at a1;rw[show lo+n-1=lo+(n-1) by omega]at hrose ⊢;omega
    have hall':∀k,lo<=k->k<lo+n->KA κ (arrOf st) k=KA κ (arrOf st) (lo+n-1):=fun k k1 k2=>by
     have:=hall (k-lo) (by omega)
     rwa [show lo+(k-lo)=k by omega]at this
    refine wpS_bind (g8 (et T hn (by omega) (hB.setArr (mirror_perm _ _ _ _) (dw hsz (Nat.le_refl _))) ?_ h));intro i j hij hj;show KA κ (mirror (arrOf st) _ _ _) (lo+j)<=KA κ (mirror (arrOf st) _ _ _) (lo+i);rw[aX hsz hall',aX hsz hall'];by_cases hjn:j<n
    ·rw[hall i (by omega),hall j hjn];exact Int.le_refl _
    ·have hj':j=n:=by omega
     subst hj';by_cases hi':i=j
     ·subst hi';exact Int.le_refl _
     ·rw[hall i (by omega),show lo+j-1=lo+(j-1) by omega];exact Int.le_of_lt hlt
  ·rw[if_neg hgt]
   have hn1':n=1:=by omega
   subst hn1';refine et T hn (by omega) hB ?_ h;intro i j hij hj;by_cases hi':i=j
   ·subst hi';exact Int.le_refl _
   ·have hi0:i=0:=by omega
    have hj1:j=1:=by omega
    subst hi0;subst hj1;exact Int.le_of_lt hlt
end
noncomputable def fV:Nat->List (List Keyed)->List (Nat×Nat)
 |_,[]=>[]
 |o,g::gs=>(o,g.length)::fV (o+g.length) gs
theorem eX:∀(A B:List (List Keyed)) (o:Nat),fV o (A++B)=fV o A++fV (o+A.flatten.length) B
 |[],B,o=>by simp[fV]
 |g::A,B,o=>by
  rw[List.cons_append,fV,fV,eX A B,List.flatten_cons,List.length_append,Nat.add_assoc];rfl
theorem ik:∀(A:List (List Keyed)) (o:Nat),(fV o A).length=A.length
 |[],_=>rfl
 |g::A,o=>by rw[fV,List.length_cons,List.length_cons,ik A]
section
variable{M:Model}{A:Around}{E:Value->Shared->Prop}{s:Shared}{κ:Keyed->Int}{S:Keyed->Prop}{kd:SortKind}{all:List Keyed}
structure RS (κ:Keyed->Int) (S:Keyed->Prop) (kd:SortKind) (all:List Keyed) (st:SortSt) (segs:List (List Keyed)) (rest:List Keyed):Prop where
 arr:(arrOf st).toList=segs.flatten++rest
 tl:(pendingOf st).toList.map (fun e=>(e.1,e.2.1))=fV 0 segs
 asc:∀g∈segs,Asc κ g
 ne:∀g∈segs,g≠[]
 kind:kindOf st=kd
 failed:failedOf st=none
 perm:(arrOf st).toList.Perm all
 sall:∀x∈all,S x
theorem RS.size{st:SortSt}{segs:List (List Keyed)}{rest:List Keyed}(h:RS κ S kd all st segs rest):(pendingOf st).size=segs.length:=by
 have:=congrArg List.length h.tl;rw[List.length_map,Array.length_toList,ik]at this;exact this
theorem yp{α:Type}{l:List α}{i:Nat}(h:i+1<l.length):∃A x y B,l=A++x::y::B/\A.length=i:=
 ⟨l.take i,l[i],l[i+1],l.drop (i+2),by
  conv=>lhs;rw[<-List.take_append_drop i l]
  rw[List.drop_eq_getElem_cons (by omega),List.drop_eq_getElem_cons h],by rw[List.length_take];omega⟩
theorem ig(T:bV M A E s kd κ S){st:SortSt}{segs:List (List Keyed)}{rest:List Keyed}{i:Nat}{Q:Bool->SortSt->Prop}(h:RS κ S kd all st segs rest)(hi:i+1<segs.length)
  (q:∀st' segs',RS κ S kd all st' segs' rest->segs'.length+1=segs.length->segs'.flatten.length=segs.flatten.length->Q true st'):wpS M A E s (mergeAt' i) Q st:=by
 obtain⟨S1,g1,g2,S2,rfl,e⟩:=yp hi;have ha:(arrOf st).toList=S1.flatten++(g1++(g2++(S2.flatten++rest))):=by rw[h.arr];simp[List.append_assoc]
 have ht:=h.tl;rw[eX]at ht;simp only[fV,Nat.zero_add]at ht;obtain⟨P1,P2,ep,e1,e2⟩:=List.map_eq_append_iff.mp ht;obtain⟨⟨a1,a2,pw⟩,P3,rfl,f1,e3⟩:=List.map_eq_cons_iff.mp e2;obtain⟨⟨b1,b2,pw2⟩,P4,rfl,f2,e4⟩:=List.map_eq_cons_iff.mp e3;simp only[Prod.mk.injEq]at f1 f2;obtain⟨rfl,rfl⟩:=f1;obtain⟨rfl,rfl⟩:=f2;have lP:P1.length=i:=by
  have:=congrArg List.length e1;rw[List.length_map,ik]at this;omega
 have p1:(pendingOf st)[i]? = some (S1.flatten.length,g1.length,pw):=by
  rw[<-Array.getElem?_toList,ep,List.getElem?_append_right (by omega),lP,Nat.sub_self];rfl
 have p2:(pendingOf st)[i+1]? = some (S1.flatten.length+g1.length,g2.length,pw2):=by
  rw[<-Array.getElem?_toList,ep,List.getElem?_append_right (by omega),lP,show i+1-i=1 by omega];rfl
 refine t8 T h.kind h.failed ha (h.asc _ (by simp)) (h.asc _ (by simp)) (h.ne _ (by simp)) (h.ne _ (by simp)) (fun x hx=>h.sall x (h.perm.mem_iff.mp (by rw[ha];simp at hx ⊢;rcases hx with hx|hx<;>simp[hx]))) p1 p2 fun st' g gp ga ea ek ef epd=>?_
 have lg:g.length=g1.length+g2.length:=by rw[gp.length_eq,List.length_append]
 refine q st' (S1++g::S2) ⟨by rw[ea];simp[List.append_assoc],?_,fun x hx=>?_,fun x hx=>?_,ek,ef,?_,h.sall⟩ (by simp;omega) (by simp[lg];omega)
 ·rw[epd,Array.toList_eraseIdxIfInBounds,Array.toList_setIfInBounds,ep,<-lP]
  have t1:(P1++(S1.flatten.length,g1.length,pw)::(S1.flatten.length+g1.length,g2.length,pw2)::P4).set P1.length (S1.flatten.length,g1.length+g2.length,pw)=P1++(S1.flatten.length,g1.length+g2.length,pw)::(S1.flatten.length+g1.length,g2.length,pw2)::P4:=by simp
  rw[t1];have t2:(P1++(S1.flatten.length,g1.length+g2.length,pw)::(S1.flatten.length+g1.length,g2.length,pw2)::P4).eraseIdx (P1.length+1)=P1++(S1.flatten.length,g1.length+g2.length,pw)::P4:=by
   rw[List.eraseIdx_append_of_length_le (by omega),show P1.length+1-P1.length=1 by omega];rfl
  rw[t2,List.map_append,e1,List.map_cons,e4,eX,fV,lg,Nat.zero_add,Nat.add_assoc]
 ·rcases List.mem_append.mp hx with hx|hx
  ·exact h.asc x (by simp[hx])
  ·rcases List.mem_cons.mp hx with rfl|hx
   ·exact ga
   ·exact h.asc x (by simp[hx])
 ·rcases List.mem_append.mp hx with hx|hx
  ·exact h.ne x (by simp[hx])
  ·rcases List.mem_cons.mp hx with rfl|hx
   ·have:=h.ne g1 (by simp)
    intro z;subst z;have:=List.length_pos_iff.mpr this;simp at lg;omega
   ·exact h.ne x (by simp[hx])
 ·have hp:=h.perm
  rw[ha]at hp;rw[ea];refine List.Perm.trans ((List.Perm.refl S1.flatten).append ?_) hp;rw[<-List.append_assoc g1];exact gp.append_right _
end
section
variable{M:Model}{A:Around}{E:Value->Shared->Prop}{s:Shared}{κ:Keyed->Int}{S:Keyed->Prop}{kd:SortKind}{all:List Keyed}
theorem oM{st0 st:SortSt}{segs:List (List Keyed)}{rest:List Keyed}{n:Nat}(h:RS κ S kd all st0 segs rest)(hB:SB S kd segs.flatten.length st0 st)(hu:jk κ (arrOf st) segs.flatten.length n)(hn:segs.flatten.length+n<=(arrOf st0).size):
  ∃rest',RS κ S kd all st segs rest'/\Asc κ (rest'.take n)/\rest'.length=rest.length:=by
 have hp:(arrOf st).toList.Perm (arrOf st0).toList:=Array.perm_iff_toList_perm.mp hB.perm;have pre0:∀lo,(∀k,k<lo->(arrOf st)[k]? = (arrOf st0)[k]?)->(arrOf st).toList.take lo=(arrOf st0).toList.take lo:=fun lo hq=>by
  apply List.ext_getElem?;intro k;by_cases hk:k<lo
  ·rw[List.getElem?_take_of_lt hk,List.getElem?_take_of_lt hk,Array.getElem?_toList,Array.getElem?_toList]
   exact hq k hk
  ·rw[List.getElem?_eq_none (by rw[List.length_take];omega),List.getElem?_eq_none (by rw[List.length_take];omega)]
 have pre:(arrOf st).toList.take segs.flatten.length=segs.flatten:=by rw[pre0 _ hB.pre,h.arr,List.take_left]
 have arr:(arrOf st).toList=segs.flatten++(arrOf st).toList.drop segs.flatten.length:=by
  conv=>lhs;rw[<-List.take_append_drop segs.flatten.length (arrOf st).toList,pre]
 have pm:=hp;rw[arr,h.arr]at pm;have pr:=(List.perm_append_left_iff _).mp pm;refine⟨_,⟨arr,by rw[hB.pend];exact h.tl,h.asc,h.ne,hB.kind,hB.failed,hp.trans h.perm,h.sall⟩,?_,pr.length_eq⟩;have get:∀i,i<n->((arrOf st).toList.drop segs.flatten.length)[i]? = (arrOf st)[segs.flatten.length+i]?:=fun i _=>by rw[List.getElem?_drop,Array.getElem?_toList]
 refine List.pairwise_iff_getElem.mpr fun i j hi hj hij=>?_
 rw[List.length_take]at hi hj;have:=hu i j (by omega) (by omega);unfold KA at this;rw[<-get i (by omega),<-get j (by omega),List.getElem?_eq_getElem (by omega),List.getElem?_eq_getElem (by omega)]at this;rw[List.getElem_take,List.getElem_take];exact this
theorem RS.push{st:SortSt}{segs:List (List Keyed)}{rest:List Keyed}{n pw:Nat}(h:RS κ S kd all st segs rest)(ha:Asc κ (rest.take n))(h1:1<=n)(hn:n<=rest.length):
  RS κ S kd all (setPending st ((pendingOf st).push (segs.flatten.length,n,pw))) (segs++[rest.take n]) (rest.drop n):=by
 have ln:(rest.take n).length=n:=by rw[List.length_take];omega
 refine⟨?_,?_,fun g hg=>?_,fun g hg=>?_,h.kind,h.failed,h.perm,h.sall⟩
 ·rw[List.flatten_append,List.append_assoc]
  simp only[List.flatten_cons,List.flatten_nil,List.append_nil];rw[List.take_append_drop];exact h.arr
 ·show((pendingOf st).push _).toList.map _=_
  rw[Array.toList_push,List.map_append,h.tl,eX];simp[fV,ln]
 ·rcases List.mem_append.mp hg with hg|hg
  ·exact h.asc g hg
  ·rw[List.mem_singleton.mp hg];exact ha
 ·rcases List.mem_append.mp hg with hg|hg
  ·exact h.ne g hg
  ·rw[List.mem_singleton.mp hg]
   intro z;rw[z]at ln;simp at ln;omega
theorem RS.pow{st:SortSt}{segs:List (List Keyed)}{rest:List Keyed}{pw i:Nat}(h:RS κ S kd all st segs rest):RS κ S kd all (setPending st ((pendingOf st).modify i fun x=>(x.1,x.2.1,pw))) segs rest:=by
 refine⟨h.arr,?_,h.asc,h.ne,h.kind,h.failed,h.perm,h.sall⟩;rw[<-h.tl];show((pendingOf st).modify i _).toList.map _=_;rw[Array.toList_modify];apply List.ext_getElem?;intro k;rw[List.getElem?_map,List.getElem?_map,List.getElem?_modify];cases(pendingOf st).toList[k]? with
 |none=>rfl
 |some x=>
  by_cases e:i=k
  ·simp[e]
  ·simp[e]
noncomputable def jX(size pw:Nat):StateT SortSt Sem (Option Unit×Unit):=
 forIn [0:size] ((none,()):Option Unit×Unit) fun _ _=>do
  let d <-get
  match if(pendingOf d).size>1 then(pendingOf d)[(pendingOf d).size-2]? else none with
  |some (_,_,older)=>
   if older<=pw then pure (ForInStep.done (none,()))
   else do
    let ok <-mergeAt' ((pendingOf d).size-2)
    if(!ok)=true then pure (ForInStep.done (some (),()))else pure (ForInStep.yield (none,()))
  |_=>pure (ForInStep.done (none,()))
theorem fC(T:bV M A E s kd κ S){st:SortSt}{segs:List (List Keyed)}{rest:List Keyed}{size pw:Nat}(r:RS κ S kd all st segs rest):
  wpS M A E s (jX size pw) (fun c st'=>c=(none,())/\∃segs',RS κ S kd all st' segs' rest/\segs'.flatten.length=segs.flatten.length) st:=by
 unfold jX;refine wpS_forRange (I:=fun _ c st'=>c=(none,())/\∃segs',RS κ S kd all st' segs' rest/\segs'.flatten.length=segs.flatten.length) ?step (fun _ _ h=>h) ⟨rfl,segs,r,rfl⟩
 rintro t c st' _ _ ⟨rfl,segs',r',e'⟩;refine wpS_bind (wpS_get ?_);have hs:=r'.size;by_cases c1:(pendingOf st').size>1
 ·rw[if_pos c1,Array.getElem?_eq_getElem (by omega)]
  dsimp only;split
  ·exact wpS_pure ⟨rfl,segs',r',e'⟩
  ·refine wpS_bind (ig T r' (by omega) fun st2 segs2 r2 _ e2=>?_)
   simp only[Bool.not_true,Bool.false_eq_true,if_false];exact wpS_pure ⟨rfl,segs2,r2,e2.trans e'⟩
 ·rw[if_neg c1]
  exact wpS_pure ⟨rfl,segs',r',e'⟩
theorem hV{segs:List (List Keyed)}{rest:List Keyed}{n:Nat}{st2:SortSt}{segs2:List (List Keyed)}(r2:RS κ S kd all st2 segs2 rest)(ha:Asc κ (rest.take n))(h1:1<=n)(hn:n<=rest.length)(e2:segs2.flatten.length=segs.flatten.length):wpS M A E s (do
   modify fun s=>setPending s ((pendingOf s).push (segs.flatten.length,n,0))
   pure (ForInStep.yield ((none:Option Unit),segs.flatten.length+n))) (fun c st'=>∃segs' rest',c=.yield (none,segs'.flatten.length)/\RS κ S kd all st' segs' rest'/\segs'.flatten.length=segs.flatten.length+n) st2:=by
 have ln:(segs2++[rest.take n]).flatten.length=segs.flatten.length+n:=by
  rw[List.flatten_append,List.length_append,e2];simp;omega
 refine wpS_bind (wpS_modify (wpS_pure ⟨segs2++[rest.take n],rest.drop n,by rw[ln],?_,ln⟩));rw[<-e2];exact r2.push ha h1 hn
theorem lc(T:bV M A E s kd κ S){st:SortSt}{Q:Unit->SortSt->Prop}(hk:kindOf st=kd)(hf:failedOf st=none)(hp:pendingOf st = #[])(hS:∀x∈(arrOf st).toList,S x)
  (h:∀st',(arrOf st').toList.Perm (arrOf st).toList->failedOf st'=none->Asc κ (arrOf st').toList->Q () st'):wpS M A E s sortRuns' Q st:=by
 rw[sortRuns'_eq];refine wpS_bind (wpS_get ?_);dsimp only;have r0:RS κ S kd (arrOf st).toList st [] (arrOf st).toList:=⟨rfl,by rw[hp];rfl,(fun _ z=>nomatch z),(fun _ z=>nomatch z),hk,hf,List.Perm.refl _,hS⟩;have sz:∀{st':SortSt} {segs:List (List Keyed)} {rest:List Keyed},RS κ S kd (arrOf st).toList st' segs rest->(arrOf st').size=(arrOf st).size:=fun r=>by
  have:=r.perm.length_eq
  rwa [Array.length_toList,Array.length_toList]at this
 refine wpS_bind (wpS_mono (wpS_forRange (I:=fun t c st'=>∃segs rest,c=(none,segs.flatten.length)/\RS κ S kd (arrOf st).toList st' segs rest/\t<=segs.flatten.length)
  (Q:=fun c st'=>∃segs,c.1=none/\RS κ S kd (arrOf st).toList st' segs []) ?step ?fin ⟨[],_,rfl,r0,by simp⟩) ?post)
 case fin=>
  rintro c st' ⟨segs,rest,rfl,r,ht⟩;have l:=congrArg List.length r.arr;rw[List.length_append,Array.length_toList,sz r]at l;have:rest=[]:=List.length_eq_zero_iff.mp (by omega);subst this;exact⟨segs,rfl,r⟩
 case post=>
  rintro c st' ⟨segs,hc,r⟩;rw[hc];dsimp only;have nl:segs.length<=(arrOf st).size:=by
   have l:=congrArg List.length r.arr;rw[List.append_nil,Array.length_toList,sz r]at l;have:∀L:List (List Keyed),(∀g∈L,g≠[])->L.length<=L.flatten.length:=by
    intro L
    induction L with
    |nil=>intro _;simp
    |cons g L ih=>
     intro hg;have:=ih fun x hx=>hg x (List.mem_cons_of_mem _ hx)
     have:=List.length_pos_iff.mpr (hg g List.mem_cons_self);rw[List.flatten_cons,List.length_append,List.length_cons];omega
   have:=this segs r.ne;omega
  refine wpS_bind (wpS_mono (wpS_forRange (I:=fun t c st'=>c=(none,())/\∃segs,RS κ S kd (arrOf st).toList st' segs []/\(segs.length<=1\/segs.length+t<=(arrOf st).size))
   (Q:=fun c st'=>c=(none,())/\∃segs,RS κ S kd (arrOf st).toList st' segs []/\segs.length<=1) ?step2 ?fin2 ⟨rfl,segs,r,.inr nl⟩) ?post2)
  case fin2=>
   rintro c st2 ⟨rfl,segs,r,hq⟩;exact⟨rfl,segs,r,by omega⟩
  case post2=>
   rintro c st2 ⟨rfl,segs,r,hq⟩;refine wpS_pure (h st2 r.perm r.failed ?_);rw[r.arr,List.append_nil]
   match segs,hq with
   |[],_=>exact List.Pairwise.nil
   |[g],_=>simpa using r.asc g (by simp)
  case step2=>
   rintro t c st2 _ ht ⟨rfl,segs,r,hq⟩;refine wpS_bind (wpS_get ?_);have hs:=r.size;by_cases c1:(pendingOf st2).size<=1
   ·rw[if_pos c1]
    exact wpS_pure ⟨rfl,segs,r,by omega⟩
   ·rw[if_neg c1]
    have ix:∀(c:Prop) [Decidable c],(if c then(pendingOf st2).size-2-1 else(pendingOf st2).size-2)+1<segs.length:=fun c _=>by split<;>omega
    refine wpS_bind (ig T r (ix _) fun st3 segs3 r3 e3 _=>?_)
    simp only[Bool.not_true,Bool.false_eq_true,if_false];exact wpS_pure ⟨rfl,segs3,r3,by omega⟩
 case step=>
  rintro t c st' _ ht ⟨segs,rest,rfl,r,hl⟩;dsimp only;have l:=congrArg List.length r.arr;rw[List.length_append,Array.length_toList,sz r]at l;by_cases c1:segs.flatten.length>=(arrOf st).size
  ·rw[if_pos c1]
   have:rest=[]:=List.length_eq_zero_iff.mp (by omega);subst this;exact wpS_pure ⟨segs,rfl,r⟩
  rw[if_neg c1];have b0:SB S kd segs.flatten.length st' st':=⟨Array.Perm.refl _,fun _ _=>rfl,r.kind,r.failed,rfl,rfl,fun x hx=>hS x (r.perm.mem_iff.mp hx)⟩
  refine wpS_bind (ua T (by rw[sz r];omega) (by omega) b0 fun m st2 b2 m1 m2 u2=>?_)
  dsimp only;by_cases c2:m<minRun' (arrOf st).size (arrOf st).size 0
  ·rw[if_pos c2]
   refine wpS_bind (wpS_lift (wpAny_rule ⟨rfl,?_⟩));refine wpS_bind (ub T (by rw[sz r];omega) (by omega) b2 u2 fun st3 b3 u3=>?_)
   simp only[Bool.not_true,Bool.false_eq_true,if_false];obtain⟨rest',r3,a3,l3⟩:=oM r b3 u3 (by rw[sz r];omega);refine wpS_mono (Q:=fun c st'=>∃segs' rest',c=.yield (none,segs'.flatten.length)/\RS κ S kd (arrOf st).toList st' segs' rest'/\segs'.flatten.length=segs.flatten.length+(min ((arrOf st).size-segs.flatten.length) (minRun' (arrOf st).size (arrOf st).size 0))) ?_ ?_
   ·refine wpS_bind (wpS_get ?_)
    cases e:(pendingOf st3).back? with
    |none=>exact hV r3 a3 (by omega) (by omega) rfl
    |some x=>
     obtain⟨s1,n1,p1⟩:=x;dsimp only;refine wpS_bind (wpS_mono (fC (size:=(arrOf st).size) (pw:=power' (arrOf st).size (2*s1+n1) (2*s1+n1+n1+(min ((arrOf st).size-segs.flatten.length) (minRun' (arrOf st).size (arrOf st).size 0))) (arrOf st).size) T r3) ?_);rintro c st5 ⟨rfl,segs5,r5,e5⟩;dsimp only;exact wpS_bind (wpS_modify (hV r5.pow a3 (by omega) (by omega) e5))
   ·rintro c st4 ⟨segs',rest2,rfl,r4,e4⟩
    exact⟨segs',rest2,rfl,r4,by omega⟩
  ·rw[if_neg c2]
   obtain⟨rest',r3,a3,l3⟩:=oM r b2 u2 (by rw[sz r];omega);refine wpS_mono (Q:=fun c st'=>∃segs' rest',c=.yield (none,segs'.flatten.length)/\RS κ S kd (arrOf st).toList st' segs' rest'/\segs'.flatten.length=segs.flatten.length+m) ?_ ?_
   ·refine wpS_bind (wpS_get ?_)
    cases e:(pendingOf st2).back? with
    |none=>exact hV r3 a3 m1 (by omega) rfl
    |some x=>
     obtain⟨s1,n1,p1⟩:=x;dsimp only;refine wpS_bind (wpS_mono (fC (size:=(arrOf st).size) (pw:=power' (arrOf st).size (2*s1+n1) (2*s1+n1+n1+m) (arrOf st).size) T r3) ?_);rintro c st5 ⟨rfl,segs5,r5,e5⟩;dsimp only;exact wpS_bind (wpS_modify (hV r5.pow a3 m1 (by omega) e5))
   ·rintro c st4 ⟨segs',rest2,rfl,r4,e4⟩
    exact⟨segs',rest2,rfl,r4,by omega⟩
end
end VL
namespace VL
open PySem PySem.Spec PyProof.Rows L2
section
variable{prog:Program}{w:World}{A:Around}{E:Value->Shared->Prop}{s:Shared}
theorem jw{a:Addr}{vs:List Value}{n:Nat}{P:PySem.Fin->Shared->Prop}{kd:SortKind}{κ:Keyed->Int}{S:Keyed->Prop}(ho:s.heap.get? a=some (seqObj "list" vs.toArray n))(PA:Heap->Prop)(x:PA s.heap)(keeps:∀h h':Heap,PA h->(∀b o,o.cls=.type "tuple" -> h.get? b=some o->h'.get? b=some o)->PA h')
  (kindw:2<=vs.length->∀s':Shared,PA s'.heap->∀Q:SortKind->Shared->Prop,Q kd s'->wpAny (model prog w) A (keyKind' vs.toArray) Q E s') (T:∀s':Shared,PA s'.heap->bV (model prog w) A E s' kd κ S) (hS:∀v∈vs,S (v,v)) (hz:vs.length<=sizeLine)
  (h:∀out:List Value,out.Perm vs->(out.Pairwise fun x y=>κ (x,x) <= κ (y,y))->P (.done (.ret .none)) { s with heap:=sortedHeap s.heap a vs out.toArray }) :
  wpAny (model prog w) A (Builtin.«list.sort» ⟨[.ref a],[]⟩) P E s:=by
 rw[list_sort_plain];have ha:a<s.heap.objs.size:=Heap.lt_size ho;refine wpAny_bind (listItems_at ho rfl ?_);refine wpAny_bind (listUpdate_at ho rfl ?_);obtain⟨e1,ho1⟩:∃e1,(s.heap.update a (Obj.mapSeq fun _=>#[])).get? a=some (seqObj "list" #[] e1):=⟨_,get?_update_seq ho (fun _=>#[])⟩;refine wpAny_bind (seqEpoch_at ho1 rfl ?_);refine wpAny_bind (wpAny_newTuple ?_);refine wpAny_bind (wpAny_newList ?_);refine wpAny_holding ?_;have ho6:(((s.heap.update a (Obj.mapSeq fun _=>#[])).push (seqObj "tuple" vs.toArray 0)).push (seqObj "list" #[] 0)).get? a=some (seqObj "list" #[] e1):=Heap.get?_push_of_some _ (Heap.get?_push_of_some _ ho1);have kp:∀b o,o.cls=.type "tuple" -> s.heap.get? b=some o->(((s.heap.update a (Obj.mapSeq fun _=>#[])).push (seqObj "tuple" vs.toArray 0)).push (seqObj "list" #[] 0)).get? b=some o:=fun b o hc eo=>by
  have hb:b≠a:=fun z=>by
   subst z;rw[ho]at eo;cases eo;exact absurd hc (by intro z;injection z with z;exact absurd z (by decide))
  exact Heap.get?_push_of_some _ (Heap.get?_push_of_some _ (aE hb eo))
 have x6:=keeps _ _ x kp;show wpAny (model prog w) A _ P E { s with heap:=((s.heap.update a (Obj.mapSeq fun _=>#[])).push (seqObj "tuple" vs.toArray 0)).push (seqObj "list" #[] 0) };dsimp only;have fin:∀st':SortSt,(arrOf st').toList.Perm (pairsOf vs).toList->failedOf st'=none->Asc κ (arrOf st').toList ->
   wpAny (model prog w) A (do
    let sorted:=(arrOf st').map (·.2)
    let touched:=(<-seqEpoch a) != e1
    Builtin.List.listUpdate (.ref a) fun _=>sorted
    if let some e:=failedOf st' then rule "list.sort.comparison-raised";throw e
    if touched then rule "list.sort.modified";raiseError "ValueError" "list modified during sort"
    ret .none) P E { s with heap:=((s.heap.update a (Obj.mapSeq fun _=>#[])).push (seqObj "tuple" vs.toArray 0)).push (seqObj "list" #[] 0) }:=fun st' hp hf hs=>by
  have hm:∀p∈(arrOf st').toList,p=(p.2,p.2):=fun p hq=>by
   have:=hp.mem_iff.mp hq;rw[pairsOf_toList]at this;exact Prod.ext (mem_zip_self this).1 rfl
  have e2:((arrOf st').map (·.2)).toList=(arrOf st').toList.map (·.2):=Array.toList_map;have pm:((arrOf st').toList.map (·.2)).Perm vs:=by
   have:=hp.map (·.2);rw[pairsOf_toList,List.map_snd_zip (Nat.le_refl _)]at this;exact this
  have hsz:((arrOf st').map (·.2)).size=vs.length:=by rw[<-Array.length_toList,e2,pm.length_eq]
  refine wpAny_bind (seqEpoch_at ho6 rfl ?_);refine wpAny_bind (listUpdate_at ho6 rfl ?_ (hsz2:=by rw[hsz];exact Nat.le_succ_of_le hz));rw[hf];simp only[bne_self_eq_false,Bool.false_eq_true,if_false];have ea:(arrOf st').map (·.2)=((arrOf st').toList.map (·.2)).toArray:=by rw[<-e2]
  refine wpAny_pure ?_;have hh:=h ((arrOf st').toList.map (·.2)) pm ?_
  ·rw[<-ea]at hh
   exact hh
  ·rw[List.pairwise_map]
   refine List.Pairwise.imp_of_mem ?_ hs;intro p q hp' hq' hle;rw[hm p hp',hm q hq']at hle;exact hle
 by_cases h2:vs.toArray.size<2
 ·rw[if_pos h2,if_pos h2]
  refine wpAny_bind (wpAny_pure ?_);rw[StateT.run_pure];refine wpAny_bind (wpAny_pure ?_);refine fin (SortSt.mk' general' (vs.toArray.zip vs.toArray) #[] 7 none) (List.Perm.refl _) rfl ?_;show Asc κ (pairsOf vs).toList;rw[pairsOf_toList]
  match vs,h2 with
  |[],_=>exact List.Pairwise.nil
  |[v],_=>exact List.pairwise_singleton _ _
  |_::_::_,h2=>simp at h2;omega
 ·rw[if_neg h2,if_neg h2]
  refine wpAny_bind (kindw (by simp at h2;omega) _ x6 _ ?_);refine wpAny_bind (wpAny_mono (lc (T _ x6) (st:=SortSt.mk' kd (vs.toArray.zip vs.toArray) #[] 7 none)
   (Q:=fun _ st'=>(arrOf st').toList.Perm (pairsOf vs).toList/\failedOf st'=none/\Asc κ (arrOf st').toList) rfl rfl rfl (fun p hp=>?_) fun st' a1 a2 a3=>⟨a1,a2,a3⟩) ?_ fun _ _ e=>e)
  ·have hp:p∈(pairsOf vs).toList:=hp
   rw[pairsOf_toList]at hp;obtain⟨q1,q2⟩:=mem_zip_self hp;have:p=(p.1,p.1):=Prod.ext rfl q1.symm;rw[this];exact hS _ q2
  ·rintro⟨⟨⟩,st'⟩ s' ⟨rfl,hp,hf,hs⟩
   exact fin st' hp hf hs
end
noncomputable def df:ak->ak->Bool
 |.inl a,.inl b=>decide (a<b)
 |.inr a,.inr b=>decide (a.cps.toList<b.cps.toList)
 |.inl _,.inr _=>true
 |.inr _,.inl _=>false
noncomputable def bX:List ak->List ak->Bool
 |[],[]=>false
 |[],_::_=>true
 |_::_,[]=>false
 |a::r,b::t=>if a=b then bX r t else df a b
noncomputable def qM(x:List ak):List (List ak)->List (List ak)
 |[]=>[x]
 |y::r=>if bX y x then y::qM x r else x::y::r
noncomputable def bT:List (List ak)->List (List ak)
 |[]=>[]
 |x::r=>qM x (bT r)
noncomputable def xX:ak->Bool
 |.inl _=>true
 |.inr _=>false
noncomputable def jN:List ak->Bool
 |.inr _::r=>r.all xX
 |_=>false
noncomputable def ot:List ak->Bool
 |.inl _::r=>r.all xX
 |_=>false
theorem str_eq{x y:Str}(h:x.cps.toList=y.cps.toList):x=y:=by
 cases x;cases y;simp only[Str.mk.injEq];exact Array.toList_inj.mp h
theorem qE(a:ak):df a a=false:=by
 cases a with
 |inl a=>simp[df]
 |inr a=>simp[df,List.lt_irrefl]
theorem qD(a b:ak)(h:a≠b):df a b=!df b a:=by
 cases a with
 |inl a=>
  cases b with
  |inl b=>
   have:a≠b:=fun z=>h (by rw[z])
   simp only[df];rcases Int.lt_trichotomy a b with q|q|q
   ·rw[decide_eq_true q,decide_eq_false (by omega)];rfl
   ·exact absurd q this
   ·rw[decide_eq_false (by omega),decide_eq_true q];rfl
  |inr b=>rfl
 |inr a=>
  cases b with
  |inl b=>rfl
  |inr b=>
   have:a.cps.toList≠b.cps.toList:=fun z=>h (by rw[str_eq z])
   simp only[df];by_cases q:a.cps.toList<b.cps.toList
   ·rw[decide_eq_true q,decide_eq_false (List.lt_asymm q)];rfl
   ·rw[decide_eq_false q]
    have q:=List.not_lt.mp q;rcases List.le_iff_lt_or_eq.mp q with q|q
    ·rw[decide_eq_true q];rfl
    ·exact absurd q.symm this
theorem sM{a b c:ak}(h1:df a b=true)(h2:df b c=true):df a c=true:=by
 cases a<;>cases b<;>cases c<;>simp only[df,decide_eq_true_eq,Bool.false_eq_true]at h1 h2 ⊢
 ·omega
 ·exact List.lt_trans h1 h2
theorem dW:∀a:List ak,bX a a=false
 |[]=>rfl
 |x::r=>by simp[bX,dW r]
theorem dU:∀(a b:List ak),a≠b->bX a b=!bX b a
 |[],[],h=>absurd rfl h
 |[],_::_,_=>rfl
 |_::_,[],_=>rfl
 |x::r,y::t,h=>by
  by_cases e:x=y
  ·subst e
   simp only[bX,if_true];exact dU r t fun z=>h (by rw[z])
  ·simp only[bX]
   rw[if_neg e,if_neg (Ne.symm e)];exact qD x y e
theorem fD:∀{a b c:List ak},bX a b=true->bX b c=true->bX a c=true
 |[],[],_,h,_=>by cases h
 |[],_::_,[],_,h=>by cases h
 |[],_::_,_::_,_,_=>rfl
 |_::_,[],_,h,_=>by cases h
 |_::_,_::_,[],_,h=>by cases h
 |x::r,y::t,z::u,h1,h2=>by
  simp only[bX]at h1 h2 ⊢;by_cases e:x=y
  ·subst e
   rw[if_pos rfl]at h1;by_cases e2:x=z
   ·subst e2
    rw[if_pos rfl]at h2 ⊢;exact fD h1 h2
   ·rw[if_neg e2]at h2 ⊢
    exact h2
  ·rw[if_neg e]at h1
   by_cases e2:y=z
   ·subst e2
    rw[if_neg e];exact h1
   ·rw[if_neg e2]at h2
    have h3:=sM h1 h2;by_cases e3:x=z
    ·subst e3
     rw[qE]at h3;cases h3
    ·rw[if_neg e3];exact h3
def mj(a b:List ak):Prop:=bX b a=false
theorem sK{a b:List ak}(h1:mj a b)(h2:mj b a):a=b:=by
 by_cases e:a=b
 ·exact e
 ·have:=dU a b e
  unfold mj at h1 h2;rw[h1,h2]at this;cases this
theorem xJ{a b c:List ak}(h1:mj a b)(h2:mj b c):mj a c:=by
 unfold mj at *;cases h:bX c a with
 |false=>rfl
 |true=>
  by_cases e:b=c
  ·subst e;rw[h]at h1;cases h1
  ·have:=dU b c e
   rw[h2]at this;rw[fD (by simpa using this) h]at h1;cases h1
theorem gg(x:List ak):∀l,(qM x l).Perm (x::l)
 |[]=>.refl _
 |y::r=>by
  unfold qM;split
  ·exact((gg x r).cons y).trans (.swap x y r)
  ·exact .refl _
theorem dX:∀l,(bT l).Perm l
 |[]=>.refl _
 |x::r=>(gg x _).trans ((dX r).cons x)
theorem o5(x:List ak):∀l,l.Pairwise mj->(qM x l).Pairwise mj
 |[],_=>List.pairwise_singleton _ _
 |y::r,h=>by
  unfold qM;obtain⟨h1,h2⟩:=List.pairwise_cons.mp h;split
  ·rename_i q
   refine List.pairwise_cons.mpr ⟨fun z hz=>?_,o5 x r h2⟩
   rcases List.mem_cons.mp ((gg x r).mem_iff.mp hz)with rfl|hz
   ·unfold mj
    cases e:bX z y with
    |false=>rfl
    |true=>
     have:=fD q e;rw[dW]at this;cases this
   ·exact h1 z hz
  ·rename_i q
   have q:mj x y:=by simpa[mj]using q
   refine List.pairwise_cons.mpr ⟨fun z hz=>?_,h⟩
   rcases List.mem_cons.mp hz with rfl|hz
   ·exact q
   ·exact xJ q (h1 z hz)
theorem f8:∀l,(bT l).Pairwise mj
 |[]=>.nil
 |x::r=>o5 x _ (f8 r)
theorem gH:∀{a b:List (List ak)},a.Perm b->a.Pairwise mj->b.Pairwise mj->a=b
 |[],b,p,_,_=>(List.nil_perm.mp p).symm
 |x::r,[],p,_,_=>absurd p.length_eq (by simp)
 |x::r,y::t,p,h1,h2=>by
  obtain⟨a1,a2⟩:=List.pairwise_cons.mp h1;obtain⟨b1,b2⟩:=List.pairwise_cons.mp h2;have e:x=y:=by
   rcases List.mem_cons.mp (p.mem_iff.mp (List.mem_cons_self (a:=x) (l:=r)))with e|e
   ·exact e
   ·rcases List.mem_cons.mp (p.mem_iff.mpr (List.mem_cons_self (a:=y) (l:=t)))with f|f
    ·exact f.symm
    ·exact sK (a1 y f) (b1 x e)
  subst e;rw[gH ((List.perm_cons x).mp p) a2 b2]
theorem f9{a b:List (List ak)}(p:a.Perm b)(h:a.Pairwise mj):a=bT b:=gH (p.trans (dX b).symm) h (f8 b)
section
variable{prog:Program}{w:World}{A:Around}{E:Value->Shared->Prop}{s:Shared}
def Cy:ak->Value->Prop
 |.inl i,v=>∃t,v=.int i t
 |.inr x,v=>∃t,v=.str x t
inductive KVals:List ak->List Value->Prop
 |nil:KVals [] []
 |cons {k v ks vs}:Cy k v->KVals ks vs->KVals (k::ks) (v::vs)
theorem KVals.one:∀{k k':List ak} {vs:List Value},KVals k vs->KVals k' vs->k=k'
 |_,_,_,.nil,.nil=>rfl
 |_,_,_,.cons (k:=a) h1 r1,.cons (k:=b) h2 r2=>by
  have e:=KVals.one r1 r2;subst e;cases a<;>cases b<;>obtain⟨t,rfl⟩:=h1<;>obtain⟨u,h2⟩:=h2<;>first|cases h2;rfl|cases h2
noncomputable def cS:List ak->List ak->Bool
 |a::r,b::t=>if a=b then cS r t else xX a==xX b
 |_,_=>true
theorem sJ{fin:Bool}{Q:Bool->Shared->Prop}:∀{k1 k2:List ak} {xs ys:List Value} {i:Nat},KVals k1 xs->KVals k2 ys->cS k1 k2=true->fin=decide (xs.length<ys.length)->Q (bX k1 k2) s->PySem.W.KatLex prog w A true fin Q (xs.zip ys) i s
 |_,_,_,_,i,.nil,.nil,_,hf,q=>by
  subst hf;exact PySem.W.kat_nil q
 |_,_,_,_,i,.nil,.cons h r,_,hf,q=>by
  subst hf;exact PySem.W.kat_nil (by simpa[bX]using q)
 |_,_,_,_,i,.cons h r,.nil,_,hf,q=>by
  subst hf;rw[List.zip_nil_right];exact PySem.W.kat_nil (by simpa[bX]using q)
 |_,_,_,_,i,.cons (k:=a) (vs:=xs) h1 r1,.cons (k:=b) (vs:=ys) h2 r2,hc,hf,q=>by
  have hf:fin=decide (xs.length<ys.length):=by rw[hf];simp
  rw[List.zip_cons_cons];refine PySem.W.kat_cons ?_;simp only[bX,cS]at q hc;by_cases e:a=b
  ·subst e
   rw[if_pos rfl]at q hc;have go:=sJ (i:=i+1) r1 r2 hc hf q;cases a with
   |inl a=>
    obtain⟨t,rfl⟩:=h1;obtain⟨u,rfl⟩:=h2;refine SeqAt.EqAt.int_int a t a u _ _ _ _ ?_;rw[beq_self_eq_true];exact PySem.W.kat_yes go
   |inr a=>
    obtain⟨t,rfl⟩:=h1;obtain⟨u,rfl⟩:=h2;refine SeqAt.EqAt.str_str a t a u _ _ _ _ ?_;rw[beq_self_eq_true];exact PySem.W.kat_yes go
  ·rw[if_neg e]at q hc
   cases a with
   |inl a=>
    cases b with
    |inr b=>cases hc
    |inl b=>
     obtain⟨t,rfl⟩:=h1;obtain⟨u,rfl⟩:=h2;refine SeqAt.EqAt.int_int a t b u _ _ _ _ ?_;rw[beq_eq_false_iff_ne.mpr fun z=>e (by rw[z])]
     refine PySem.W.kat_no ?_;cases i with
     |zero=>exact oneLt_int q
     |succ i=>exact PySem.W.kat_one _ _ (lt_int q)
   |inr a=>
    cases b with
    |inl b=>cases hc
    |inr b=>
     obtain⟨t,rfl⟩:=h1;obtain⟨u,rfl⟩:=h2;refine SeqAt.EqAt.str_str a t b u _ _ _ _ ?_;rw[beq_eq_false_iff_ne.mpr fun z=>e (by rw[z])]
     refine PySem.W.kat_no ?_;cases i with
     |zero=>exact oneLt_str q
     |succ i=>exact PySem.W.kat_one _ _ (lt_str q)
def KAt(h:Heap)(v:Value)(k:List ak):Prop:=∃b o xs n,v=.ref b/\h.get? b=some o/\o.cls=.type "tuple" /\ o.data=.seq xs n/\KVals k xs.toList
theorem KAt.one{h:Heap}{v:Value}{k k':List ak}(h1:KAt h v k)(h2:KAt h v k'):k=k':=by
 obtain⟨b,o,xs,n,rfl,e1,e2,e3,e4⟩:=h1;obtain⟨b',o',xs',n',q,f1,f2,f3,f4⟩:=h2;cases q;rw[e1]at f1;cases f1;rw[e3]at f3;cases f3;exact e4.one f4
theorem KAt.keeps{h h':Heap}{v:Value}{k:List ak}(x:KAt h v k)(kp:∀b o,o.cls=.type "tuple" -> h.get? b=some o->h'.get? b=some o):KAt h' v k:=by
 obtain⟨b,o,xs,n,rfl,e1,e2,e3,e4⟩:=x;exact⟨b,o,xs,n,rfl,kp b o e2 e1,e2,e3,e4⟩
theorem wK{x y:Value}{k1 k2:List ak}{Q:Bool->Shared->Prop}(h1:KAt s.heap x k1)(h2:KAt s.heap y k2)(hc:cS k1 k2=true)(q:Q (bX k1 k2) s):wpAny (model prog w) A (keyLt' (tuples' true) x y) Q E s:=by
 obtain⟨b,o,xs,n,rfl,e1,e2,e3,e4⟩:=h1;obtain⟨b',o',xs',n',rfl,f1,f2,f3,f4⟩:=h2;exact PySem.W.kat_lt e1 e3 f1 f3 (sJ e4 f4 hc (by simp) q)
noncomputable def fq(ks:List (List ak))(k:List ak):Int:=((ks.filter fun x=>bX x k).length:Nat)
theorem gr{α:Type}{p q:α -> Bool}:∀(l:List α),(∀x∈l,p x=true->q x=true)->(l.filter p).length<=(l.filter q).length
 |[],_=>Nat.le_refl _
 |x::l,h=>by
  have ih:=gr l fun y hy=>h y (List.mem_cons_of_mem _ hy)
  have hx:=h x List.mem_cons_self;rw[List.filter_cons,List.filter_cons];cases e:p x with
  |false=>
   rw[if_neg (by simp)];split
   ·rw[List.length_cons];omega
   ·exact ih
  |true=>
   rw[if_pos rfl,if_pos (hx e),List.length_cons,List.length_cons];omega
theorem j7{α:Type}{p q:α -> Bool}:∀(l:List α),(∀x∈l,p x=true->q x=true)->(∃x∈l,p x=false/\q x=true)->(l.filter p).length<(l.filter q).length
 |[],_,⟨x,hx,_⟩=>by cases hx
 |x::l,h,⟨y,hy,h1,h2⟩=>by
  have ih:=gr l fun y hy=>h y (List.mem_cons_of_mem _ hy)
  have hx:=h x List.mem_cons_self;rw[List.filter_cons,List.filter_cons];rcases List.mem_cons.mp hy with rfl|hy
  ·rw[if_neg (by rw[h1];simp),if_pos h2,List.length_cons];omega
  ·have ih:=j7 l (fun y hy=>h y (List.mem_cons_of_mem _ hy)) ⟨y,hy,h1,h2⟩
   cases e:p x with
   |false=>
    rw[if_neg (by simp)];split
    ·rw[List.length_cons];omega
    ·exact ih
   |true=>
    rw[if_pos rfl,if_pos (hx e),List.length_cons,List.length_cons];omega
theorem lN{ks:List (List ak)}{x y:List ak}(hx:x∈ks):decide (fq ks x<fq ks y)=bX x y:=by
 unfold fq;cases e:bX x y with
 |true=>
  refine decide_eq_true ?_;exact Int.ofNat_lt.mpr (j7 ks (fun z _ hz=>fD hz e) ⟨x,hx,dW x,e⟩)
 |false=>
  refine decide_eq_false ?_;have:=gr (p:=fun z=>bX z y) (q:=fun z=>bX z x) ks fun z _ hz=>by
   by_cases q:y=x
   ·subst q;exact hz
   ·have:=dU y x q
    rw[e]at this;exact fD hz this
  omega
open Classical in
noncomputable def nM(h:Heap)(v:Value):List ak:=if q:∃k,KAt h v k then q.choose else []
theorem kE{h:Heap}{v:Value}{k:List ak}(x:KAt h v k):nM h v=k:=by
 unfold nM;have q:∃k,KAt h v k:=⟨k,x⟩;rw[dif_pos q];exact q.choose_spec.one x
theorem m9{h0:Heap}{ks:List (List ak)}(hc:∀x∈ks,∀y∈ks,cS x y=true)(kp:∀b o,o.cls=.type "tuple" -> h0.get? b=some o->s.heap.get? b=some o):
  bV (model prog w) A E s (tuples' true) (fun p=>fq ks (nM h0 p.1)) (fun p=>∃k∈ks,KAt h0 p.1 k):=fun x y hx hy st Q ek q=>by
 obtain⟨k1,m1,a1⟩:=hx;obtain⟨k2,m2,a2⟩:=hy;have q:Q (some (decide (fq ks (nM h0 x.1)<fq ks (nM h0 y.1)))) st:=q;rw[kE a1,kE a2,lN m1]at q;rw[lt'_eq];refine wpS_bind (wpS_get ?_);rw[ek];exact wpS_bind (wpS_lift (wpAny_attempt (wK (a1.keeps kp) (a2.keeps kp) (hc _ m1 _ m2) ⟨rfl,wpS_pure q⟩)))
theorem iR:∀{a b:List ak},a.all xX=true->b.all xX=true->cS a b=true
 |[],_,_,_=>by simp[cS]
 |_::_,[],_,_=>by simp[cS]
 |x::r,y::t,h1,h2=>by
  simp only[List.all_cons,Bool.and_eq_true]at h1 h2;simp only[cS];split
  ·exact iR h1.2 h2.2
  ·rw[h1.1,h2.1];rfl
theorem rq{a b:List ak}(h1:jN a=true)(h2:jN b=true):cS a b=true:=by
 match a,b,h1,h2 with
 |.inr x::r,.inr y::t,h1,h2=>
  simp only[cS];split
  ·exact iR h1 h2
  ·rfl
theorem vM{a b:List ak}(h1:ot a=true)(h2:ot b=true):cS a b=true:=by
 match a,b,h1,h2 with
 |.inl x::r,.inl y::t,h1,h2=>
  simp only[cS];split
  ·exact iR h1 h2
  ·rfl
inductive KAts (h:Heap):List Value->List (List ak)->Prop
 |nil:KAts h [] []
 |cons {v k vs ks}:KAt h v k->KAts h vs ks->KAts h (v::vs) (k::ks)
theorem KAts.keeps{h h':Heap}(kp:∀b o,o.cls=.type "tuple" -> h.get? b=some o->h'.get? b=some o):∀{vs:List Value} {ks:List (List ak)},KAts h vs ks->KAts h' vs ks
 |_,_,.nil=>.nil
 |_,_,.cons x r=>.cons (x.keeps kp) (KAts.keeps kp r)
theorem KAts.map{h:Heap}:∀{vs:List Value} {ks:List (List ak)},KAts h vs ks->vs.map (nM h)=ks
 |_,_,.nil=>rfl
 |_,_,.cons x r=>by rw[List.map_cons,kE x,KAts.map r]
theorem KAts.mem{h:Heap}:∀{vs:List Value} {ks:List (List ak)},KAts h vs ks->∀v∈vs,∃k∈ks,KAt h v k
 |_,_,.cons (k:=k) x r,v,hv=>by
  rcases List.mem_cons.mp hv with rfl|hv
  ·exact⟨k,List.mem_cons_self,x⟩
  ·obtain⟨k',m,y⟩:=KAts.mem r v hv
   exact⟨k',List.mem_cons_of_mem _ m,y⟩
theorem KAts.of_map{h:Heap}:∀{vs:List Value},(∀v∈vs,∃k,KAt h v k)->KAts h vs (vs.map (nM h))
 |[],_=>.nil
 |v::vs,H=>by
  obtain⟨k,x⟩:=H v List.mem_cons_self;rw[List.map_cons,kE x];exact .cons x (KAts.of_map fun u hu=>H u (List.mem_cons_of_mem _ hu))
noncomputable def vQ:Bool->Value
 |true=>.type "str"
 |false=>.type "int"
theorem KAts.tups{h:Heap}{b:Bool}:∀{vs:List Value} {ks:List (List ak)},KAts h vs ks->(∀k∈ks,(if b then jN k else ot k)=true)->∃fs:List Value,fs.length=vs.length/\PySem.W.KatTups h vs fs/\∀v∈fs,∀M:Model,PySem.W.Looks M h (typeOf v) (vQ b)
 |_,_,.nil,_=>⟨[],rfl,trivial,fun v h=>by cases h⟩
 |_,_,.cons (k:=k) x r,hk=>by
  obtain⟨fs,h1,h2,h3⟩:=KAts.tups r fun k' m=>hk k' (List.mem_cons_of_mem _ m)
  obtain⟨a,o,xs,n,rfl,e1,e2,e3,e4⟩:=x;have hk:=hk k List.mem_cons_self;obtain⟨f,ef,lf⟩:∃f,xs[0]? = some f/\∀M:Model,PySem.W.Looks M h (typeOf f) (vQ b):=by
   cases b with
   |true=>
    match k,hk,e4 with
    |.inr y::t,_,e4=>
     generalize exs:xs.toList=l at e4;cases e4 with
     |cons hv hr=>
      obtain⟨u,rfl⟩:=hv;refine⟨_,by rw[<-Array.getElem?_toList,exs];rfl,fun M=>PySem.W.Looks.of_pure rfl⟩
   |false=>
    match k,hk,e4 with
    |.inl y::t,_,e4=>
     generalize exs:xs.toList=l at e4;cases e4 with
     |cons hv hr=>
      obtain⟨u,rfl⟩:=hv;refine⟨_,by rw[<-Array.getElem?_toList,exs];rfl,fun M=>PySem.W.Looks.of_pure rfl⟩
  refine⟨f::fs,by rw[List.length_cons,List.length_cons,h1],⟨⟨a,o,xs,n,rfl,e1,e2,e3,ef⟩,h2⟩,fun v hv=>?_⟩
  rcases List.mem_cons.mp hv with rfl|hv
  ·exact lf
  ·exact h3 v hv
theorem qh{α β:Type}{f:α -> β}{R:β -> β -> Prop}{l:List α}(h:l.Pairwise fun x y=>R (f x) (f y)):(l.map f).Pairwise R:=List.pairwise_map.mpr h
theorem iL{a:Addr}{vs:List Value}{ks:List (List ak)}{n:Nat}{P:PySem.Fin->Shared->Prop}(ho:s.heap.get? a=some (seqObj "list" vs.toArray n))(x:KAts s.heap vs ks)(hk:(ks.all jN||ks.all ot)=true)(hz:vs.length<=sizeLine)
  (h:∀out:List Value,out.Perm vs->KAts s.heap out (bT ks)->P (.done (.ret .none)) { s with heap:=sortedHeap s.heap a vs out.toArray }) :
  wpAny (model prog w) A (Builtin.«list.sort» ⟨[.ref a],[]⟩) P E s:=by
 have hc:∀x∈ks,∀y∈ks,cS x y=true:=fun x hx y hy=>by
  rcases Bool.or_eq_true_iff.mp hk with q|q
  ·exact rq (List.all_eq_true.mp q x hx) (List.all_eq_true.mp q y hy)
  ·exact vM (List.all_eq_true.mp q x hx) (List.all_eq_true.mp q y hy)
 obtain⟨b,hb⟩:∃b:Bool,∀k∈ks,(if b then jN k else ot k)=true:=by
  rcases Bool.or_eq_true_iff.mp hk with q|q
  ·exact⟨true,fun k m=>List.all_eq_true.mp q k m⟩
  ·exact⟨false,fun k m=>List.all_eq_true.mp q k m⟩
 refine jw (kd:=tuples' true) (κ:=fun p=>fq ks (nM s.heap p.1)) (S:=fun p=>∃k∈ks,KAt s.heap p.1 k) ho (fun h'=>∀(b:Addr) (o:Obj),o.cls=.type "tuple" -> s.heap.get? b=some o->h'.get? b=some o) (fun _ _ _ e=>e) (fun h1 h2 (p:∀(b:Addr) (o:Obj),o.cls=.type "tuple" -> s.heap.get? b=some o->h1.get? b=some o) kp b o (ec:o.cls=.type "tuple") e=>kp b o ec (p b o ec e)) (fun h2 s' kp Q q=>?_) (fun s' kp=>m9 hc kp) (fun v hv=>x.mem v hv) hz fun out pm hs=>?_
 ·obtain⟨fs,f1,f2,f3⟩:=(x.keeps kp).tups hb
  refine PySem.W.kat_kind (T:=vQ b) f2 (by omega) (fun v hv=>f3 v hv _) (by cases b<;>decide) ?_;have:(vQ b != Value.type "tuple")=true:=by cases b<;>decide
  rw[this];exact q
 ·have H:∀v∈out,∃k,KAt s.heap v k:=fun v hv=>by
   obtain⟨k,_,y⟩:=x.mem v (pm.mem_iff.mp hv);exact⟨k,y⟩
  have X:=KAts.of_map H;have pk:(out.map (nM s.heap)).Perm ks:=by
   have:=pm.map (nM s.heap)
   rwa [x.map]at this
  have e:out.map (nM s.heap)=bT ks:=by
   refine f9 pk ?_;refine qh ?_;refine List.Pairwise.imp_of_mem ?_ hs;intro p q hp hq hle;have m:nM s.heap q∈ks:=pk.mem_iff.mp (List.mem_map.mpr ⟨q,hq,rfl⟩);have:=lN (y:=nM s.heap p) m;unfold mj;rw[<-this];have hle:fq ks (nM s.heap p)<=fq ks (nM s.heap q):=hle;exact decide_eq_false (by omega)
  rw[e]at X;exact h out pm X
end
section
variable{X:Cx}
noncomputable def nJ:ak->V
 |.inl i=>.int i
 |.inr x=>.str x
noncomputable def AZ:Value->V
 |.ref b=>.ref b
 |_=>.non
inductive KeyVs (K:Fg) (H:Hp):List V->List (List ak)->Prop
 |nil:KeyVs K H [] []
 |cons {b k vs ks}:SqT K H b (k.map nJ)->KeyVs K H vs ks->KeyVs K H (.ref b::vs) (k::ks)
theorem iM:∀{k:List ak} {us:List Value},Vals (k.map nJ) us->KVals k us
 |[],_,.nil=>.nil
 |.inl i::k,_,.cons h r=>.cons h (iM r)
 |.inr x::k,_,.cons h r=>.cons h (iM r)
theorem sN{pins:List (Addr×Obj)}{σ:St}{H:Hp}{s:Shared}(I:Inv X pins σ H s){b:Addr}{k:List ak}(h:SqT X.K H b (k.map nJ)):KAt s.heap (.ref b) k:=by
 obtain⟨its,r,⟨o,e1,e2,n,e3⟩,z⟩:=I.tuple h;exact⟨b,o,its.toArray,n,rfl,e1,e2,e3,by simpa using iM r⟩
theorem mw{pins:List (Addr×Obj)}{σ:St}{Z H:Hp}{s:Shared}(I:Inv X pins σ H s)(zh:Same Z H):∀{vs:List V} {ks:List (List ak)} {its:List Value},KeyVs X.K Z vs ks->Vals vs its->KAts s.heap its ks/\∀u∈its,∃(b:Addr) (k:List ak),u=.ref b/\SqT X.K Z b (k.map nJ)
 |_,_,_,.nil,.nil=>⟨.nil,fun u h=>by cases h⟩
 |_,_,_,.cons (b:=b) (k:=k) h r,.cons hv hr=>by
  obtain⟨a2,a3⟩:=mw I zh r hr;have hv:=hv;cases hv;refine⟨.cons (sN I (SqT.same h zh)) a2,fun u hu=>?_⟩
  rcases List.mem_cons.mp hu with rfl|hu
  ·exact⟨b,k,rfl,h⟩
  ·exact a3 u hu
theorem iO{pins:List (Addr×Obj)}{σ:St}{Z H:Hp}{s:Shared}(I:Inv X pins σ H s)(zh:Same Z H):∀{out:List Value} {ks:List (List ak)},KAts s.heap out ks->(∀u∈out,∃(b:Addr) (k:List ak),u=.ref b/\SqT X.K Z b (k.map nJ))->KeyVs X.K Z (out.map AZ) ks/\Vals (out.map AZ) out
 |_,_,.nil,_=>⟨.nil,.nil⟩
 |_,_,.cons h r,hs=>by
  obtain⟨a1,a2⟩:=iO I zh r fun u hu=>hs u (List.mem_cons_of_mem _ hu)
  obtain⟨b,k',rfl,q⟩:=hs _ List.mem_cons_self;have:=h.one (sN I (SqT.same q zh));subst this;exact⟨.cons q a1,.cons rfl a2⟩
theorem fW{K:Fg}{Z:Hp}:∀k:List ak,Reps K Z (k.map nJ) (k.map fE)
 |[]=>.nil
 |.inl i::k=>.cons (.int i) (fW k)
 |.inr x::k=>.cons (.str x) (fW k)
theorem jZ{K:Fg}{Z:Hp}:∀{vs:List V} {ks:List (List ak)},KeyVs K Z vs ks->Reps K Z vs (ks.map fun k=>.tuple (k.map fE))
 |_,_,.nil=>.nil
 |_,_,.cons h r=>.cons (.tup h (fW _)) (jZ r)
variable{e:Expr}{p pos:Pos}{te:TE}{f:Dv->Option D}
end
@[simp] noncomputable def Df(i:Nat)(fk fv:Dv->Option D):Sf:=fun δ=>(fk δ).bind fun dk=>(fv δ).bind fun v=>(q8 δ[i]?).bind fun ds=>match dk with
 |.int k=>if 0<=k/\k.toNat<=ds.length/\ds.length<sizeLine then some (.nx,δ.set i (.ow (ds.take k.toNat++v::ds.drop k.toNat)))else none
 |_=>none
section
variable{K:Fg}
noncomputable def dZ(ps:List (V×V)):List V:=ps.flatMap fun p=>[p.1,p.2]
end
@[simp] noncomputable def De(i:Nat)(fk:Dv->Option D):Sf:=fun δ=>(fk δ).bind fun dk=>(q8 δ[i]?).bind fun ds=>match dk with
 |.int k=>if 0<=k/\k.toNat<ds.length/\ds.length<sizeLine then some (.nx,δ.set i (.ow (ds.eraseIdx k.toNat)))else none
 |_=>none
@[simp] noncomputable def Dc(i:Nat):Sf:=fun δ=>(q8 δ[i]?).bind fun ds=>if ds.length<sizeLine then some (.nx,δ.set i (.ow ds.reverse))else none
noncomputable def gC(M:Nat)(p:SetTable.Probe):SetTable.Probe:=if p.more>0 then { p with j:=p.j+1,more:=p.more-1 } else { p with j:=(SetTable.leap M p.i p.perturb).1,more:=SetTable.runEnd M (SetTable.leap M p.i p.perturb).1-(SetTable.leap M p.i p.perturb).1,i:=(SetTable.leap M p.i p.perturb).1,perturb:=(SetTable.leap M p.i p.perturb).2 }
theorem yz(t:SetTable)(p:SetTable.Probe):t.advance p=gC t.mask p:=rfl
noncomputable def itP(M:Nat):Nat->SetTable.Probe->SetTable.Probe
 | 0,p=>p
 |n+1,p=>itP M n (gC M p)
theorem cQ(M:Nat):∀(n m:Nat) (p:SetTable.Probe),itP M (n+m) p=itP M m (itP M n p)
 | 0,m,p=>by rw[Nat.zero_add];rfl
 |n+1,m,p=>by rw[Nat.add_right_comm];exact cQ M n m (gC M p)
theorem sQ(M n:Nat)(p:SetTable.Probe):itP M (n+1) p=gC M (itP M n p):=cQ M n 1 p
theorem tS(M:Nat)(p:SetTable.Probe):(gC M p).dummy=p.dummy:=by unfold gC;split<;>rfl
theorem wm(M:Nat):∀(n:Nat) (p:SetTable.Probe),(itP M n p).dummy=p.dummy
 | 0,p=>rfl
 |n+1,p=>(wm M n _).trans (tS M p)
noncomputable def tX(M i q:Nat):SetTable.Probe:={ j:=i,more:=SetTable.runEnd M i-i,i:=i,perturb:=q,dummy:=none }
noncomputable def stP0(M:Nat)(h:Int):SetTable.Probe:=tX M (SetTable.bits h%(M+1)) (SetTable.bits h)
theorem wX(M i:Nat):SetTable.runEnd M i-i<=9:=by unfold SetTable.runEnd;split<;>omega
theorem nN(M i q:Nat):∀(r:Nat) (k j:Nat),k<=r->itP M k { j:=j,more:=r,i:=i,perturb:=q,dummy:=none }={ j:=j+k,more:=r-k,i:=i,perturb:=q,dummy:=none }
 |r,0,j,_=>rfl
 | 0,k+1,j,h=>by omega
 |r+1,k+1,j,h=>by
  show itP M k (gC M _)=_;have:gC M { j:=j,more:=r+1,i:=i,perturb:=q,dummy:=none }={ j:=j+1,more:=r,i:=i,perturb:=q,dummy:=none }:=by unfold gC;rw[if_pos (by show r+1>0;omega)];rfl
  rw[this,nN M i q r k (j+1) (by omega)];congr 1<;>omega
theorem kF(M i q:Nat):itP M (SetTable.runEnd M i-i+1) (tX M i q)=tX M (SetTable.leap M i q).1 (SetTable.leap M i q).2:=by
 rw[sQ];unfold tX;rw[nN M i q _ _ i (Nat.le_refl _),Nat.sub_self];unfold gC;rw[if_neg (by show ¬ 0>0;omega)]
noncomputable def lps(M:Nat):Nat->Nat×Nat->Nat×Nat
 | 0,x=>x
 |k+1,x=>lps M k (SetTable.leap M x.1 x.2)
theorem sF(M:Nat):∀(k:Nat) (i q:Nat),∃n,n<=10*k/\itP M n (tX M i q)=tX M (lps M k (i,q)).1 (lps M k (i,q)).2
 | 0,i,q=>⟨0,Nat.le_refl _,rfl⟩
 |k+1,i,q=>by
  obtain⟨n,h1,h2⟩:=sF M k (SetTable.leap M i q).1 (SetTable.leap M i q).2;refine⟨SetTable.runEnd M i-i+1+n,?_,?_⟩
  ·have:=wX M i;omega
  ·rw[cQ,kF,h2];rfl
theorem kC(M:Nat):∀(a b:Nat) (x:Nat×Nat),lps M (a+b) x=lps M b (lps M a x)
 | 0,b,x=>by rw[Nat.zero_add];rfl
 |a+1,b,x=>by rw[Nat.add_right_comm];exact kC M a b _
theorem sD(M:Nat):∀(k:Nat) (i q:Nat),(lps M k (i,q)).2=q/32^k
 | 0,i,q=>by simp[lps]
 |k+1,i,q=>by
  show(lps M k (SetTable.leap M i q)).2=_;have:SetTable.leap M i q=((SetTable.leap M i q).1,q/32):=rfl;rw[this,sD M k,Nat.div_div_eq_div_mul,Nat.pow_succ,Nat.mul_comm]
theorem sE(M:Nat):∀(k:Nat) (i q:Nat),i<M+1->(lps M k (i,q)).1<M+1
 | 0,i,q,h=>h
 |k+1,i,q,h=>sE M k _ _ (Nat.mod_lt _ (by omega))
noncomputable def fiv(k:Nat):Nat:=(5^k-1)/4
theorem i6(k:Nat):fiv (k+1)=5*fiv k+1:=by
 unfold fiv;have h1:5^k%4=1:=by
  induction k with
  |zero=>rfl
  |succ k ih=>rw[Nat.pow_succ];omega
 have h2:1<=5^k:=Nat.pow_pos (by decide);rw[Nat.pow_succ];omega
theorem wg(M:Nat):∀(k:Nat) (i:Nat),i<M+1->(lps M k (i,0)).1=(5^k*i+fiv k)%(M+1)
 | 0,i,h=>by rw[Nat.pow_zero,Nat.one_mul];show i=(i+0)%(M+1);rw[Nat.add_zero,Nat.mod_eq_of_lt h]
 |k+1,i,h=>by
  have e:lps M (k+1) (i,0)=lps M 1 (lps M k (i,0)):=kC M k 1 _;have q:=sD M k i 0;rw[Nat.zero_div]at q;have e2:lps M k (i,0)=((lps M k (i,0)).1,0):=Prod.ext rfl q;rw[e,e2,wg M k i h];show((5^k*i+fiv k)%(M+1)*5+1+0/32)%(M+1)=_;rw[i6,Nat.zero_div,Nat.add_zero,Nat.add_mod,Nat.mul_mod,Nat.mod_mod,<-Nat.mul_mod,<-Nat.add_mod];congr 1;rw[Nat.pow_succ];generalize 5^k=p;generalize fiv k=f;rw[Nat.add_mul,Nat.mul_right_comm,Nat.mul_comm f 5,Nat.add_assoc]
def oS(M:Nat):Prop:=M=7\/M=31\/M=127
theorem AR:∀j,j<8->∃s,s<8/\fiv s%8=j:=by decide +kernel
theorem yy:∀j,j<32->∃s,s<32/\fiv s%32=j:=by decide +kernel
theorem vN:∀j,j<128->∃s,s<128/\fiv s%128=j:=by decide +kernel
theorem AQ{M:Nat}(h:oS M):(∀j,j<M+1->∃s,s<M+1/\fiv s%(M+1)=j)/\fiv (M+1)%(M+1)=0/\5^(M+1)%(M+1)=1:=by
 rcases h with rfl|rfl|rfl
 ·exact⟨AR,by decide +kernel,by decide +kernel⟩
 ·exact⟨yy,by decide +kernel,by decide +kernel⟩
 ·exact⟨vN,by decide +kernel,by decide +kernel⟩
theorem pB(a b:Nat):fiv (a+b)=5^b*fiv a+fiv b:=by
 induction b with
 |zero=>rw[Nat.pow_zero,Nat.one_mul];rfl
 |succ b ih=>
  rw[Nat.add_succ,i6,ih,i6,Nat.pow_succ];generalize 5^b=p;generalize fiv a=x;generalize fiv b=y;rw[Nat.mul_add,Nat.mul_comm p 5,Nat.mul_assoc,Nat.add_assoc]
theorem xc{M:Nat}(h:oS M){i j:Nat}(hi:i<M+1)(hj:j<M+1):∃s,s<M+1/\(lps M s (i,0)).1=j:=by
 obtain⟨a,b,c⟩:=AQ h;obtain⟨si,h1,h2⟩:=a i hi;obtain⟨sj,h3,h4⟩:=a j hj;have key:∀s,(lps M s (i,0)).1=fiv (si+s)%(M+1):=fun s=>by
  rw[wg M s i hi,pB,<-h2,Nat.add_mod,Nat.mul_mod,Nat.mod_mod,<-Nat.mul_mod,<-Nat.add_mod]
 by_cases q:si<=sj
 ·exact⟨sj-si,by omega,by rw[key,show si+(sj-si)=sj by omega,h4]⟩
 ·refine⟨M+1+sj-si,by omega,?_⟩
  rw[key,show si+(M+1+sj-si)=(M+1)+sj by omega,pB,Nat.add_mod,Nat.mul_mod,b,Nat.mul_zero,Nat.zero_mod,Nat.zero_add,Nat.mod_mod,h4]
theorem vK(h:Int):SetTable.bits h<2^64:=by
 unfold SetTable.bits;omega
theorem vX{M:Nat}(h:oS M)(x:Int){j:Nat}(hj:j<M+1):∃k,k<SetTable.turns M/\(lps M k (SetTable.bits x%(M+1),SetTable.bits x)).1=j:=by
 have lt:SetTable.bits x%(M+1)<M+1:=Nat.mod_lt _ (by omega);have q:=sD M 13 (SetTable.bits x%(M+1)) (SetTable.bits x);have z:SetTable.bits x/32^13=0:=Nat.div_eq_of_lt (Nat.lt_of_lt_of_le (vK x) (by decide));rw[z]at q;obtain⟨s,h1,h2⟩:=xc h (sE M 13 _ (SetTable.bits x) lt) hj;refine⟨13+s,by unfold SetTable.turns;omega,?_⟩;rw[kC];generalize lps M 13 (SetTable.bits x%(M+1),SetTable.bits x)=y at q h2;obtain⟨y1,y2⟩:=y;dsimp only at q h2;subst q;exact h2
theorem xb{M:Nat}(h:oS M)(x:Int){j:Nat}(hj:j<M+1):∃n,n<10*SetTable.turns M/\(itP M n (stP0 M x)).j=j:=by
 obtain⟨k,h1,h2⟩:=vX h x hj;obtain⟨n,h3,h4⟩:=sF M k (SetTable.bits x%(M+1)) (SetTable.bits x);exact⟨n,by omega,by unfold stP0;rw[h4];exact h2⟩
def Lv(t:SetTable)(j:Nat):Prop:=∃i:Nat,t.place[i]? = some j
structure Tab (t:SetTable) (es:Array (Int×Value)):Prop where
 m:oS t.mask
 up:UpA t.place
 nd:t.dummies = #[]
 sz:t.place.size=es.size
 le:∀(i j:Nat),t.place[i]? = some j->j<t.mask+1
 few:es.size*5<t.mask*3
 rc:∀(i j:Nat) (e:Int×Value),t.place[i]? = some j->es[i]? = some e->∃n,(itP t.mask n (stP0 t.mask e.1)).j=j/\∀m,m<n->Lv t (itP t.mask m (stP0 t.mask e.1)).j
theorem cX{t:SetTable}(hu:UpA t.place){i j:Nat}(h:t.place[i]? = some j):t.slot j=.live i:=by
 obtain⟨h1,h2,h3⟩:=dl hu j;obtain⟨hi,hx⟩:=Array.getElem?_eq_some_iff.mp h;have e:SetTable.below t.place j=i:=by
  rcases Nat.lt_trichotomy (SetTable.below t.place j) i with q|q|q
  ·have a:=h3 (SetTable.below t.place j) (by omega) (Nat.le_refl _)
   have b:=hu _ _ (by omega) hi q;omega
  ·exact q
  ·have:=h2 i hi q;omega
 unfold SetTable.slot;simp[e,h]
theorem nr{t:SetTable}(hd:t.dummies = #[]){j:Nat}(h:¬Lv t j):t.slot j=.empty:=by
 unfold SetTable.slot;have:¬(t.place[SetTable.below t.place j]? == some j)=true:=fun z=>h ⟨_,by simpa using z⟩
 simp only[this,if_false,Bool.false_eq_true];rw[hd];simp[SetTable.has]
theorem vb{t:SetTable}{j:Nat}(h:¬Lv t j):t.place[SetTable.below t.place j]? ≠ some j:=fun z=>h ⟨_,z⟩
theorem o9{t:SetTable}{f:Nat->Int}{h:Int}(hu:UpA t.place)(hd:t.dummies = #[]):∀(n fuel:Nat) (p:SetTable.Probe),n<fuel->p.dummy=none->(∀m,m<n->∃i,t.place[i]? = some (itP t.mask m p).j/\f i≠h) ->
  (¬Lv t (itP t.mask n p).j->SetTable.probe.go t f h fuel p=some (.empty (itP t.mask n p).j none))/\(∀i,t.place[i]? = some (itP t.mask n p).j->f i=h->SetTable.probe.go t f h fuel p=some (.candidate (itP t.mask n p).j i (itP t.mask (n+1) p)))
 | 0,fuel+1,p,_,pd,_=>by
  refine⟨fun z=>?_,fun i hi e=>?_⟩
  ·unfold SetTable.probe.go
   have z:¬Lv t p.j:=z;rw[nr hd z,pd];rfl
  ·unfold SetTable.probe.go
   have hi:t.place[i]? = some p.j:=hi;rw[cX hu hi];dsimp only;rw[if_pos (by simp[e])];rfl
 |n+1,fuel+1,p,hn,pd,hm=>by
  obtain⟨i0,h1,h2⟩:=hm 0 (by omega);have h1:t.place[i0]? = some p.j:=h1;have st:SetTable.probe.go t f h (fuel+1) p=SetTable.probe.go t f h fuel (t.advance p):=by
   conv=>lhs;unfold SetTable.probe.go
   rw[cX hu h1];dsimp only;rw[if_neg (by simp[h2])]
  rw[st,yz];exact o9 hu hd n fuel (gC t.mask p) (by omega) ((tS _ _).trans pd) fun m hm'=>hm (m+1) (by omega)
theorem lW:∀(l m:List Nat),l.Nodup->(∀x∈l,x∈m)->l.length<=m.length
 |[],m,_,_=>Nat.zero_le _
 |a::l,m,h,s=>by
  obtain⟨h1,h2⟩:=List.nodup_cons.mp h;have:=lW l (m.erase a) h2 fun x hx=>(List.mem_erase_of_ne (fun z:x=a=>h1 (z ▸ hx))).mpr (s x (List.mem_cons_of_mem _ hx))
  have ha:=s a List.mem_cons_self;have e:=List.length_erase_of_mem ha;have p:=List.length_pos_of_mem ha;rw[List.length_cons];omega
theorem vt{t:SetTable}{n:Nat}(hs:t.place.size=n)(h:n<t.mask+1):∃j,j<t.mask+1/\¬Lv t j:=by
 refine Classical.byContradiction fun z=>?_
 have all:∀j∈List.range (t.mask+1),j∈t.place.toList:=fun j hj=>by
  refine Classical.byContradiction fun q=>z ⟨j,List.mem_range.mp hj,fun⟨i,e⟩=>q ?_⟩
  exact Array.mem_toList_iff.mpr (Array.mem_of_getElem? e)
 have:=lW _ _ List.nodup_range all;rw[List.length_range,Array.length_toList]at this;omega
theorem oW{P:Nat->Prop}:∀n,P n->∃m,m<=n/\P m/\∀k,k<m->¬P k:=fun n=>by
 induction n using Nat.strongRecOn with
 |_ n ih=>
  intro h;by_cases q:∃k,k<n/\P k
  ·obtain⟨k,h1,h2⟩:=q
   obtain⟨m,h3,h4⟩:=ih k h1 h2;exact⟨m,by omega,h4⟩
  ·exact⟨n,Nat.le_refl _,h,fun k hk z=>q ⟨k,hk,z⟩⟩
theorem nW{t:SetTable}{n:Nat}(hm:oS t.mask)(hs:t.place.size=n)(h:n<t.mask+1)(x:Int):∃N,N<10*SetTable.turns t.mask/\¬Lv t (itP t.mask N (stP0 t.mask x)).j/\∀m,m<N->Lv t (itP t.mask m (stP0 t.mask x)).j:=by
 obtain⟨j,h1,h2⟩:=vt hs h;obtain⟨k,h3,h4⟩:=xb hm x h1;obtain⟨N,h5,h6,h7⟩:=oW (P:=fun n=>¬Lv t (itP t.mask n (stP0 t.mask x)).j) k (by rw[h4];exact h2)
 exact⟨N,by omega,h6,fun m hm'=>Classical.not_not.mp (h7 m hm')⟩
theorem ku{M i:Nat}(h:i<M+1):SetTable.runEnd M i<M+1:=by unfold SetTable.runEnd;split<;>omega
def wA(M:Nat)(p:SetTable.Probe):Prop:=p.j+p.more<M+1
theorem uK{M:Nat}{p:SetTable.Probe}(h:wA M p):wA M (gC M p):=by
 unfold gC;split
 ·unfold wA at *;dsimp only;omega
 ·unfold wA
  have lt:(SetTable.leap M p.i p.perturb).1<M+1:=Nat.mod_lt _ (by omega);have:=ku lt;dsimp only;have:(SetTable.leap M p.i p.perturb).1<=SetTable.runEnd M (SetTable.leap M p.i p.perturb).1:=by unfold SetTable.runEnd;split<;>omega
  omega
theorem r8{M:Nat}:∀(n:Nat) {p:SetTable.Probe},wA M p->wA M (itP M n p)
 | 0,_,h=>h
 |n+1,_,h=>r8 n (uK h)
theorem zA(M:Nat)(x:Int):wA M (stP0 M x):=by
 have lt:SetTable.bits x%(M+1)<M+1:=Nat.mod_lt _ (by omega);have:=ku lt;have:SetTable.bits x%(M+1)<=SetTable.runEnd M (SetTable.bits x%(M+1)):=by unfold SetTable.runEnd;split<;>omega
 show SetTable.bits x%(M+1)+(SetTable.runEnd M (SetTable.bits x%(M+1))-SetTable.bits x%(M+1))<M+1;omega
theorem sP(M n:Nat)(x:Int):(itP M n (stP0 M x)).j<M+1:=by
 have:=r8 n (zA M x);unfold wA at this;omega
theorem dg{α:Type}(xs:Array α)(p:Nat)(x:α):(SetTable.insertAt xs p x).size=xs.size+1:=by
 have:=(SetTable.insertAt_perm xs p x).length_eq;simpa using this
theorem em{α:Type}{xs:Array α}{p:Nat}{x:α}(hp:p<=xs.size)(i:Nat):(SetTable.insertAt xs p x)[i]? = if i<p then xs[i]? else if i=p then some x else xs[i-1]?:=by
 rw[<-Array.getElem?_toList,SetTable.toList_insertAt];have hl:(xs.toList.take p).length=p:=by rw[List.length_take,Array.length_toList];omega
 by_cases h1:i<p
 ·rw[if_pos h1,List.getElem?_append_left (by omega),List.getElem?_take_of_lt h1,Array.getElem?_toList]
 ·rw[if_neg h1,List.getElem?_append_right (by omega),hl]
  by_cases h2:i=p
  ·subst h2
   rw[if_pos rfl,Nat.sub_self,List.getElem?_cons_zero]
  ·rw[if_neg h2]
   obtain⟨k,rfl⟩:∃k,i=p+k+1:=⟨i-p-1,by omega⟩;rw[show p+k+1-p=k+1 by omega,List.getElem?_cons_succ,List.getElem?_drop,Array.getElem?_toList];rfl
theorem j4{α:Type}{xs:Array α}{p:Nat}{x y:α}(hp:p<=xs.size){i:Nat}(h:(SetTable.insertAt xs p x)[i]? = some y):(i=p/\y=x)\/(i<p/\xs[i]? = some y)\/(p<i/\xs[i-1]? = some y):=by
 rw[em hp]at h;split at h
 ·exact .inr (.inl ⟨by assumption,h⟩)
 ·split at h
  ·exact .inl ⟨by assumption,(Option.some.inj h).symm⟩
  ·exact .inr (.inr ⟨by omega,h⟩)
theorem bK(t:SetTable)(j:Nat):(t.put j).1.place=SetTable.insertAt t.place (SetTable.below t.place j) j:=rfl
theorem rX(t:SetTable)(j:Nat):(t.put j).1.mask=t.mask:=rfl
theorem xh{t:SetTable}(hu:UpA t.place){j k:Nat}(h:Lv t k):Lv (t.put j).1 k:=by
 obtain⟨i,e⟩:=h;have hp:=(dl hu j).1;by_cases q:i<SetTable.below t.place j
 ·exact⟨i,by rw[bK,em hp,if_pos q];exact e⟩
 ·exact⟨i+1,by rw[bK,em hp,if_neg (by omega),if_neg (by omega),Nat.add_sub_cancel];exact e⟩
theorem Tab.put{t:SetTable}{es:Array (Int×Value)}(T:Tab t es){x:Int}{v:Value}{N:Nat}(h1:¬Lv t (itP t.mask N (stP0 t.mask x)).j)(h2:∀m,m<N->Lv t (itP t.mask m (stP0 t.mask x)).j)(hf:(es.size+1)*5<t.mask*3){t':SetTable}(ht:t'.place=(t.put (itP t.mask N (stP0 t.mask x)).j).1.place)(hM:t'.mask=t.mask)(hD:t'.dummies = #[]):
  Tab t' (SetTable.insertAt es (SetTable.below t.place (itP t.mask N (stP0 t.mask x)).j) (x,v)):=by
 have lt:=sP t.mask N x;have hp:=(dl T.up (itP t.mask N (stP0 t.mask x)).j).1;have hp':SetTable.below t.place (itP t.mask N (stP0 t.mask x)).j<=es.size:=by rw[<-T.sz];exact hp
 have lift:∀k,Lv t k->Lv t' k:=fun k z=>by
  obtain⟨i,e⟩:=xh T.up (j:=(itP t.mask N (stP0 t.mask x)).j) z;exact⟨i,by rw[ht];exact e⟩
 refine⟨by rw[hM];exact T.m,by rw[ht,bK];exact T.up.insert (vb h1),hD,by rw[ht,bK,dg,dg,T.sz],fun i j e=>?_,by rw[hM,dg];exact hf,fun i j e hi he=>?_⟩
 ·rw[ht,bK]at e
  rw[hM];rcases j4 hp e with⟨_,q⟩|⟨_,q⟩|⟨_,q⟩
  ·rw[q];exact lt
  ·exact T.le _ _ q
  ·exact T.le _ _ q
 ·rw[ht,bK]at hi
  rw[hM];rw[em hp']at he;rcases j4 hp hi with⟨q1,q2⟩|⟨q1,q2⟩|⟨q1,q2⟩
  ·rw[if_neg (by omega),if_pos q1]at he
   cases he;exact⟨N,q2.symm,fun m hm=>lift _ (h2 m hm)⟩
  ·rw[if_pos q1]at he
   obtain⟨n,a,b⟩:=T.rc i j e q2 he;exact⟨n,a,fun m hm=>lift _ (b m hm)⟩
  ·rw[if_neg (by omega),if_neg (by omega)]at he
   obtain⟨n,a,b⟩:=T.rc _ j e q2 he;exact⟨n,a,fun m hm=>lift _ (b m hm)⟩
structure Lay (M:Nat) (hs:List Int) (ow:Array (Option Nat)) (k:Nat):Prop where
 sz:ow.size=M+1
 pm:((List.range (M+1)).filterMap fun j=>ow.getD j none).Perm (List.range k)
 rc:∀(j i:Nat),ow.getD j none=some i->∃x,hs[i]? = some x/\∃n,(itP M n (stP0 M x)).j=j/\∀m,m<n->ow.getD (itP M m (stP0 M x)).j none≠none
theorem Ca{ow:Array (Option Nat)}{y:Nat}(h:y<ow.size)(d:Option Nat):ow.getD y d=ow.getD y none:=by simp[Array.getD_eq_getD_getElem?,h]
theorem pv{M:Nat}{ow:Array (Option Nat)}(hsz:ow.size=M+1):∀(fuel i q j:Nat),i<M+1->SetTable.layClean.free M ow fuel i q=some j->ow.getD j none=none/\j<M+1/\∃n,(itP M n (tX M i q)).j=j/\∀m,m<n->ow.getD (itP M m (tX M i q)).j none≠none
 | 0,i,q,j,_,e=>by cases e
 |fuel+1,i,q,j,hi,e=>by
  unfold SetTable.layClean.free at e;have re:=ku hi;have rj:∀k,k<=SetTable.runEnd M i-i->(itP M k (tX M i q)).j=i+k:=fun k hk=>by unfold tX;rw[nN M i q _ _ i hk]
  have sm:∀y,y<M+1->(ow.getD y (some 0)).isNone=true->ow.getD y none=none:=fun y hy z=>by
   rw[Ca (by omega)]at z;exact Option.isNone_iff_eq_none.mp z
  have sn:∀y,y<M+1->¬(ow.getD y (some 0)).isNone=true->ow.getD y none≠none:=fun y hy z e=>by
   rw[Ca (by omega),e]at z;exact z rfl
  have ri:i<=SetTable.runEnd M i:=by unfold SetTable.runEnd;split<;>omega
  split at e
  ·rename_i k hk
   cases e;obtain⟨h1,as,bs,h2,h3⟩:=List.find?_eq_some_iff_append.mp hk;have hlen:=congrArg List.length h2;rw[List.length_range,List.length_append,List.length_cons]at hlen;have hkk:as.length=k:=by
    have:=congrArg (fun l=>l[as.length]?) h2;simp only[List.getElem?_append_right (Nat.le_refl _),Nat.sub_self,List.getElem?_cons_zero]at this;rw[List.getElem?_range (by omega)]at this;exact Option.some.inj this
   refine⟨sm _ (by omega) h1,by omega,k,rj k (by omega),fun m hm=>?_⟩
   rw[rj m (by omega)];have hma:m∈as:=by
    have this:(List.range (SetTable.runEnd M i+1-i))[m]? = (as++k::bs)[m]?:=congrArg (fun l=>l[m]?) h2;rw[List.getElem?_range (by omega),List.getElem?_append_left (by omega)]at this;exact List.mem_of_getElem? this.symm
   exact sn _ (by omega) (fun w=>absurd (h3 m hma) (by rw[w];decide))
  ·rename_i hk
   have hno:=List.find?_eq_none.mp hk;obtain⟨a,b,n,c,d⟩:=pv hsz fuel _ _ j (Nat.mod_lt _ (by omega)) e;refine⟨a,b,SetTable.runEnd M i-i+1+n,by rw[cQ,kF];exact c,fun m hm=>?_⟩
   by_cases q1:m<=SetTable.runEnd M i-i
   ·rw[rj m q1]
    exact sn _ (by omega) (hno m (List.mem_range.mpr (by omega)))
   ·obtain⟨m',rfl⟩:∃m',m=SetTable.runEnd M i-i+1+m':=⟨m-(SetTable.runEnd M i-i+1),by omega⟩
    rw[cQ,kF];exact d m' (by omega)
theorem j6{M:Nat}{ow:Array (Option Nat)}(hsz:ow.size=M+1):∀(fuel k i q:Nat),k<fuel->i<M+1->ow.getD (lps M k (i,q)).1 none=none->SetTable.layClean.free M ow fuel i q≠none
 | 0,k,i,q,h,_,_=>by omega
 |fuel+1,k,i,q,h,hi,z=>by
  unfold SetTable.layClean.free;split
  ·intro e;cases e
  ·rename_i hk
   have hno:=List.find?_eq_none.mp hk;cases k with
   |zero=>
    exfalso;have ri:i<=SetTable.runEnd M i:=by unfold SetTable.runEnd;split<;>omega
    have:=hno 0 (List.mem_range.mpr (by omega));have z:ow.getD i none=none:=z;rw[Nat.add_zero,Ca (by omega),z]at this;exact this rfl
   |succ k=>exact j6 hsz fuel k _ _ (by omega) (Nat.mod_lt _ (by omega)) z
theorem mJ{f g:Nat->Option Nat}:∀(l:List Nat),(∀x∈l,g x=f x)->l.filterMap g=l.filterMap f
 |[],_=>rfl
 |a::l,h=>by rw[List.filterMap_cons,List.filterMap_cons,h a List.mem_cons_self,mJ l fun x hx=>h x (List.mem_cons_of_mem _ hx)]
theorem ti{f g:Nat->Option Nat}{j k:Nat}(fj:f j=none)(gj:g j=some k)(gx:∀x,x≠j->g x=f x):∀(l:List Nat),l.Nodup->j∈l->(l.filterMap g).Perm (k::l.filterMap f)
 |[],_,h=>by cases h
 |a::l,nd,h=>by
  obtain⟨n1,n2⟩:=List.nodup_cons.mp nd;by_cases e:a=j
  ·subst e
   have same:l.filterMap g=l.filterMap f:=mJ l fun x hx=>gx x fun z=>n1 (z ▸ hx)
   rw[List.filterMap_cons,List.filterMap_cons,fj,gj,same]
  ·have hj:j∈l:=by
    rcases List.mem_cons.mp h with z|z
    ·exact absurd z.symm e
    ·exact z
   have ih:=ti fj gj gx l n2 hj;rw[List.filterMap_cons,List.filterMap_cons,gx a e];cases f a with
   |none=>exact ih
   |some b=>exact(ih.cons b).trans (List.Perm.swap k b _)
theorem tj{f:Nat->Option Nat}:∀(l:List Nat),(∀j∈l,f j≠none)->(l.filterMap f).length=l.length
 |[],_=>rfl
 |a::l,h=>by
  obtain⟨b,hb⟩:=Option.ne_none_iff_exists'.mp (h a List.mem_cons_self);rw[List.filterMap_cons,hb,List.length_cons,List.length_cons,tj l fun j hj=>h j (List.mem_cons_of_mem _ hj)]
theorem Lay.step{M:Nat}(hM:oS M){hs:List Int}{ow:Array (Option Nat)}{k:Nat}(L:Lay M hs ow k)(hk:k<M+1){x:Int}(hx:hs[k]? = some x):∃j,SetTable.layClean.free M ow (SetTable.turns M) (SetTable.bits x%(M+1)) (SetTable.bits x)=some j/\Lay M hs (ow.setIfInBounds j (some k)) (k+1):=by
 have lt:SetTable.bits x%(M+1)<M+1:=Nat.mod_lt _ (by omega);obtain⟨j0,h0,h1⟩:∃j0,j0<M+1/\ow.getD j0 none=none:=Classical.byContradiction fun z=>by
  have:=tj (f:=fun j=>ow.getD j none) (List.range (M+1)) fun j hj e=>z ⟨j,List.mem_range.mp hj,e⟩
  rw[L.pm.length_eq,List.length_range,List.length_range]at this;omega
 obtain⟨kk,h2,h3⟩:=vX hM x h0;have h4:=j6 L.sz (SetTable.turns M) kk (SetTable.bits x%(M+1)) (SetTable.bits x) h2 lt (by rw[h3];exact h1);obtain⟨j,e⟩:=Option.ne_none_iff_exists'.mp h4;obtain⟨a,b,n,c,d⟩:=pv L.sz _ _ _ _ lt e;have gs:(ow.setIfInBounds j (some k)).getD j none=some k:=by simp[Array.getD_eq_getD_getElem?,L.sz,b]
 have gn:∀y,y≠j->(ow.setIfInBounds j (some k)).getD y none=ow.getD y none:=fun y hy=>by simp[Array.getD_eq_getD_getElem?,Array.getElem?_setIfInBounds,Ne.symm hy]
 have up:∀y,ow.getD y none≠none->(ow.setIfInBounds j (some k)).getD y none≠none:=fun y hy=>by
  by_cases q:y=j
  ·rw[q,gs];intro z;cases z
  ·rw[gn y q];exact hy
 refine⟨j,e,by rw[Array.size_setIfInBounds];exact L.sz,?_,fun y i hy=>?_⟩
 ·refine(ti (f:=fun j=>ow.getD j none) (g:=fun y=>(ow.setIfInBounds j (some k)).getD y none) a gs gn _ List.nodup_range (List.mem_range.mpr b)).trans ((L.pm.cons k).trans ?_)
  rw[List.range_succ];exact(List.perm_append_singleton k _).symm
 ·by_cases q:y=j
  ·subst q
   rw[gs]at hy;cases hy;exact⟨x,hx,n,c,fun m hm=>up _ (d m hm)⟩
  ·rw[gn y q]at hy
   obtain⟨x',h5,n',h6,h7⟩:=L.rc y i hy;exact⟨x',h5,n',h6,fun m hm=>up _ (h7 m hm)⟩
theorem Lay.nil(M:Nat)(hs:List Int):Lay M hs (Array.replicate (M+1) none) 0:=by
 have g:∀j,(Array.replicate (M+1) (none:Option Nat)).getD j none=none:=fun j=>by
  simp[Array.getD_eq_getD_getElem?,Array.getElem?_replicate];split<;>rfl
 refine⟨by simp,?_,fun j i e=>by rw[g]at e;cases e⟩
 have:((List.range (M+1)).filterMap fun j=>(Array.replicate (M+1) (none:Option Nat)).getD j none)=[]:=List.filterMap_eq_nil_iff.mpr fun j _=>g j
 rw[this];exact .nil
noncomputable def xK(M:Nat)(acc:Option (Array (Option Nat)×Nat))(h:Int):Option (Array (Option Nat)×Nat):=acc.bind fun p=>(SetTable.layClean.free M p.1 (SetTable.turns M) (SetTable.bits h%(M+1)) (SetTable.bits h)).bind fun j=>some (p.1.setIfInBounds j (some p.2),p.2+1)
theorem ml{M:Nat}(hM:oS M){hs:List Int}(hl:hs.length<M+1):∀(l pre:List Int) (ow:Array (Option Nat)),hs=pre++l->Lay M hs ow pre.length->∃ow',l.foldl (xK M) (some (ow,pre.length))=some (ow',hs.length)/\Lay M hs ow' hs.length
 |[],pre,ow,e,L=>by
  rw[List.append_nil]at e;subst e;exact⟨ow,rfl,L⟩
 |x::l,pre,ow,e,L=>by
  have hx:hs[pre.length]? = some x:=by rw[e,List.getElem?_append_right (Nat.le_refl _),Nat.sub_self];rfl
  have hlen:pre.length<hs.length:=by rw[e,List.length_append,List.length_cons];omega
  obtain⟨j,h1,h2⟩:=L.step hM (by omega) hx;have:=ml hM hl l (pre++[x]) (ow.setIfInBounds j (some pre.length)) (by rw[e,List.append_assoc];rfl) (by rw[List.length_append];exact h2);obtain⟨ow',a,b⟩:=this;refine⟨ow',?_,b⟩;rw[List.foldl_cons];have st:xK M (some (ow,pre.length)) x=some (ow.setIfInBounds j (some pre.length),pre.length+1):=by
   unfold xK;rw[Option.bind_some,h1];rfl
  rw[st];rw[List.length_append]at a;exact a
theorem qC{M:Nat}(hM:oS M)(hs:Array Int)(hl:hs.size<M+1):∃ow,SetTable.layClean M hs=some ow/\Lay M hs.toList ow hs.size:=by
 obtain⟨ow,a,b⟩:=ml hM (hs:=hs.toList) (by simpa using hl) hs.toList [] _ rfl (Lay.nil M _);refine⟨ow,?_,by simpa using b⟩;unfold SetTable.layClean;rw[<-Array.foldl_toList];have:(hs.toList.foldl (fun(acc:Option (Array (Option Nat)×Nat)) h=>do
   let (owner,k) <-acc
   let j <-SetTable.layClean.free M owner (SetTable.turns M) (SetTable.bits h%(M+1)) (SetTable.bits h)
   pure (owner.setIfInBounds j (some k),k+1)) (some (Array.replicate (M+1) none,0)))=some (ow,hs.toList.length):=a
 rw[this];rfl
theorem nV(f:Nat->Option Nat):∀l:List Nat,(l.filterMap fun j=>(f j).map (j,·)).map (·.2)=l.filterMap f
 |[]=>rfl
 |a::l=>by
  rw[List.filterMap_cons,List.filterMap_cons];cases f a with
  |none=>exact nV f l
  |some b=>show b::_=b::_;rw[nV f l]
theorem ww{α:Type}(es:Array α):∀(l:List Nat),(∀i∈l,i<es.size)->∀r:Nat,(l.filterMap fun i=>es[i]?)[r]? = l[r]?.bind fun i=>es[i]?
 |[],_,r=>rfl
 |a::l,h,r=>by
  have ha:=h a List.mem_cons_self;rw[List.filterMap_cons,Array.getElem?_eq_getElem ha];cases r with
  |zero=>simp[ha]
  |succ r=>
   rw[List.getElem?_cons_succ,List.getElem?_cons_succ];exact ww es l (fun i hi=>h i (List.mem_cons_of_mem _ hi)) r
theorem qf{t:SetTable}{es:Array (Int×Value)}{wanted:Nat}(hM:oS (SetTable.sizeAbove wanted-1))(hl:es.size<SetTable.sizeAbove wanted-1+1)(few:es.size*5<(SetTable.sizeAbove wanted-1)*3):
  ∃t' order,t.relaid (es.map (·.1)) wanted=some (t',order)/\Tab t' (order.filterMap fun i=>es[i]?)/\List.Perm (order.filterMap fun i=>es[i]?).toList es.toList/\t'.led=t.led:=by
 generalize hw:SetTable.sizeAbove wanted-1=M at hM hl few;obtain⟨ow,a,L⟩:=qC hM (es.map (·.1)) (by rw[Array.size_map];exact hl);rw[Array.size_map]at L;refine⟨_,_,by unfold SetTable.relaid SetTable.laid;rw[hw,a];rfl,?_⟩;have pm:(((List.range (M+1)).filterMap fun j=>(ow.getD j none).map (j,·)).map (·.2)).Perm (List.range es.size):=by rw[nV];exact L.pm
 have ixl:∀i∈((List.range (M+1)).filterMap fun j=>(ow.getD j none).map (j,·)).map (·.2),i<es.size:=fun i hi=>List.mem_range.mp (pm.mem_iff.mp hi)
 have tl:((((List.range (M+1)).filterMap fun j=>(ow.getD j none).map (j,·)).map (·.2)).toArray.filterMap fun i=>es[i]?).toList=(((List.range (M+1)).filterMap fun j=>(ow.getD j none).map (j,·)).map (·.2)).filterMap fun i=>es[i]?:=by rw[Array.toList_filterMap]
 have pes:((((List.range (M+1)).filterMap fun j=>(ow.getD j none).map (j,·)).map (·.2)).toArray.filterMap fun i=>es[i]?).toList.Perm es.toList:=by
  rw[tl];refine(pm.filterMap _).trans ?_;rw[filterMap_getElem?_range]
 have lv:∀j,j<M+1->ow.getD j none≠none->∃i:Nat,(((List.range (M+1)).filterMap fun j=>(ow.getD j none).map (j,·)).map (·.1)).toArray[i]? = some j:=fun j hj hn=>by
  obtain⟨i,hi⟩:=Option.ne_none_iff_exists'.mp hn;have:j∈((List.range (M+1)).filterMap fun j=>(ow.getD j none).map (j,·)).map (·.1):=List.mem_map.mpr ⟨(j,i),List.mem_filterMap.mpr ⟨j,List.mem_range.mpr hj,by rw[hi];rfl⟩,rfl⟩
  obtain⟨r,hr⟩:=List.mem_iff_getElem?.mp this;exact⟨r,by simpa using hr⟩
 have ent:∀(r j:Nat),(((List.range (M+1)).filterMap fun j=>(ow.getD j none).map (j,·)).map (·.1)).toArray[r]? = some j->∃i,((List.range (M+1)).filterMap fun j=>(ow.getD j none).map (j,·))[r]? = some (j,i)/\j<M+1/\ow.getD j none=some i:=fun r j h=>by
  have h:(((List.range (M+1)).filterMap fun j=>(ow.getD j none).map (j,·)).map (·.1))[r]? = some j:=by simpa using h
  rw[List.getElem?_map]at h;obtain⟨⟨j',i⟩,h1,h2⟩:=Option.map_eq_some_iff.mp h;dsimp only at h2;subst h2;obtain⟨c,hc,e⟩:=List.mem_filterMap.mp (List.mem_of_getElem? h1);obtain⟨d,hd,e⟩:=Option.map_eq_some_iff.mp e;cases e;exact⟨i,h1,List.mem_range.mp hc,hd⟩
 refine⟨⟨hM,fun i j hi hj hij=>?_,rfl,?_,fun r j h=>(ent r j h).choose_spec.2.1,?_,fun r j e hr he=>?_⟩,pes,rfl⟩
 ·have:=cz (fun j=>ow.getD j none) (List.range (M+1)) List.pairwise_lt_range
  have:=List.pairwise_iff_getElem.mp this i j (by simpa using hi) (by simpa using hj) hij;simpa using this
 ·have h1:=pes.length_eq
  have h2:=pm.length_eq;rw[Array.length_toList,Array.length_toList]at h1;rw[List.length_map,List.length_range]at h2;rw[h1,List.size_toArray,List.length_map,h2]
 ·have h1:=pes.length_eq
  rw[Array.length_toList,Array.length_toList]at h1;rw[h1];exact few
 ·obtain⟨i,h1,h2,h3⟩:=ent r j hr
  rw[<-Array.getElem?_toList,tl,ww es _ ixl,List.getElem?_map,h1]at he;have he:es[i]? = some e:=he;obtain⟨x,h4,n,h5,h6⟩:=L.rc j i h3;have hx:x=e.1:=by
   rw[Array.getElem?_toList,Array.getElem?_map,he]at h4;exact(Option.some.inj h4).symm
  subst hx;exact⟨n,h5,fun m hm=>lv _ (sP M m _) (h6 m hm)⟩
noncomputable def cw(h:Heap):Value->List Int
 |.ref b=>match h.get? b with
  |some o=>match o.data with
   |.seq items _=>items.toList.map ij
   |_=>[]
  |none=>[]
 |_=>[]
section
variable{prog:Program}{w:World}{A:Around}{E:Value->Shared->Prop}{s:Shared}
theorem oZ:∀{ks:List Int} {vs:List Value},ItemsAre (intKind prog w) ks vs->vs.map ij=ks
 |_,_,.nil=>rfl
 |_,_,.cons h r=>by
  obtain⟨t,rfl⟩:=Value.isInt_shape h;rw[List.map_cons,oZ r];rfl
theorem cv{h:Heap}{ks:List Int}{b:Addr}(x:IsTupleKey (intKind prog w) h ks b):cw h (.ref b)=ks:=by
 obtain⟨o,items,n,ho,_,hd,hi⟩:=x;show(match h.get? b with|some o=>_|none=>_)=_;rw[ho];dsimp only;rw[hd];exact oZ hi
def qY(prog:Program)(w:World)(L:Addr->Prop)(h:Heap)(e:Int×Value):Prop:=∃ks b,e=(tupleKeyHash (intKind prog w) ks,Value.ref b)/\IsTupleKey (intKind prog w) h ks b/\L b
theorem gI{ks:List Int}{a:Addr}{Q:Bool->Shared->Prop}(hk:IsTupleKey (intKind prog w) s.heap ks a)(h:Q false s):wpAny (model prog w) A (ofAClassStatement 8 (.ref a)) Q E s:=by
 have hT:=hk.typeIs;obtain⟨o,items,n,ho,_,hd,hi⟩:=hk;unfold ofAClassStatement;refine wpAny_bind (wpAny_typeOf hT ?_);dsimp only;refine wpAny_bind (wpAny_of_eq (a:=true) (by rfl) ?_);simp only[Bool.not_true,Bool.false_eq_true,if_false];refine wpAny_bind (wpAny_seqItems ho hd ?_);dsimp only;refine wpAny_bind ?_;show wpAny _ _ (forIn items _ _) _ _ s;rw[<-Array.forIn_toList];refine wpAny_forIn_list _ (fun rest r s'=>r.1=none/\s'=s/\∀v∈rest,∃k t,v=Value.int k t) _ ?_ ?_ _ _ ⟨rfl,rfl,fun v hv=>?_⟩
 ·rintro v rest r s' ⟨hr,rfl,hall⟩
  obtain⟨k,t,rfl⟩:=hall v List.mem_cons_self;refine wpAny_bind (wpAny_of_eq (a:=false) (by unfold ofAClassStatement;rfl) ?_);simp only[Bool.false_eq_true,if_false];exact wpAny_pure ⟨rfl,rfl,fun u hu'=>hall u (List.mem_cons_of_mem _ hu')⟩
 ·rintro⟨r1,r2⟩ s' ⟨hr,rfl,_⟩
  simp only at hr;subst hr;exact wpAny_pure h
 ·have go:∀{ks:List Int} {vs:List Value},ItemsAre (intKind prog w) ks vs->∀v∈vs,∃k t,v=Value.int k t:=fun x=>by
   induction x with
   |nil=>intro v hv;cases hv
   |cons h _ ih=>
    intro v hv;rcases List.mem_cons.mp hv with rfl|z
    ·obtain⟨t,q⟩:=Value.isInt_shape h
     exact⟨_,t,q⟩
    ·exact ih v z
  exact go hi v hv
theorem mS{ks:List Int}{a:Addr}{Q:Bool->Shared->Prop}(hk:IsTupleKey (intKind prog w) s.heap ks a)(h:Q true s):wpAny (model prog w) A (hashByValue 8 (.ref a)) Q E s:=by
 have hT:=hk.typeIs;obtain⟨o,items,n,ho,_,hd,hi⟩:=hk;unfold hashByValue;refine wpAny_bind (wpAny_specialOf hT F.slot_tuple_hash.lookup ?_);dsimp only;refine wpAny_bind (wpAny_seqItems ho hd ?_);dsimp only[Option.getD];refine wpAny_bind ?_;rw[<-Array.forIn_toList];refine wpAny_forIn_list _ (fun rest r s'=>r.1=none/\s'=s/\∃ks,ItemsAre (intKind prog w) ks rest) _ ?_ ?_ _ _ ⟨rfl,rfl,ks,hi⟩
 ·rintro v rest r s' ⟨hr,rfl,ks',hall⟩
  cases hall with
  |cons h1 h2=>
   obtain⟨t,rfl⟩:=Value.isInt_shape h1;refine wpAny_bind (wpAny_of_eq (a:=true) (by unfold hashByValue;rfl) ?_);simp only[Bool.not_true,Bool.false_eq_true,if_false];exact wpAny_pure ⟨rfl,rfl,_,h2⟩
 ·rintro⟨r1,r2⟩ s' ⟨hr,rfl,_⟩
  simp only at hr;subst hr;exact wpAny_pure h
theorem rN{ks:List Int}{a:Addr}{l:List Value}{Q:Bool->Shared->Prop}(hk:IsTupleKey (intKind prog w) s.heap ks a)(hl:∀y∈l,∃kb b,y=Value.ref b/\IsTupleKey (intKind prog w) s.heap kb b)(h:Q false s):wpAny (model prog w) A (searchCouldBeSeen (.ref a) l) Q E s:=by
 unfold searchCouldBeSeen;refine wpAny_bind ?_;refine wpAny_forIn_list _ (fun rest r s'=>r.1=none/\s'=s/\∀y∈rest,∃kb b,y=Value.ref b/\IsTupleKey (intKind prog w) s.heap kb b) _ ?_ ?_ _ _ ⟨rfl,rfl,hl⟩
 ·rintro v rest r s' ⟨hr,rfl,hall⟩
  have tl:∀y∈rest,∃kb b,y=Value.ref b/\IsTupleKey (intKind prog w) s'.heap kb b:=fun y hy=>hall y (List.mem_cons_of_mem _ hy)
  obtain⟨kb,b,rfl,hb⟩:=hall v List.mem_cons_self;dsimp only;refine wpAny_ite_split (fun _=>wpAny_pure ⟨rfl,rfl,tl⟩) fun _=>?_
  refine wpAny_bind (wpAny_eqIsQuiet_tuple hk ?_);simp only[Bool.not_true,Bool.false_eq_true,if_false];refine wpAny_bind (wpAny_eqIsQuiet_tuple hb ?_);simp only[Bool.not_true,Bool.false_eq_true,if_false];refine wpAny_bind (gI hk ?_);simp only[Bool.false_eq_true,if_false];refine wpAny_bind (gI hb ?_);simp only[Bool.false_eq_true,if_false];exact wpAny_pure ⟨rfl,rfl,tl⟩
 ·rintro⟨r1,r2⟩ s' ⟨hr,rfl,_⟩
  simp only at hr;subst hr;exact wpAny_pure h
end
theorem uW{M:Nat}(h:oS M):(M%2==0)=false:=by rcases h with rfl|rfl|rfl<;>rfl
section
variable{prog:Program}{w:World}{A:Around}{E:Value->Shared->Prop}{s:Shared}
theorem p6{L:Addr->Prop}(hu:A.units<cLine){a b:Addr}{es:Array (Int×Value)}{ep:Nat}{t:SetTable}(ho:s.heap.get? a=some (cm es ep t))(T:Tab t es)(hf:t.fits es.size=true)(hel:∀e∈es.toList,qY prog w L s.heap e){ks:List Int}(hk:IsTupleKey (intKind prog w) s.heap ks b){N:Nat}(hN:N<10*SetTable.turns t.mask)(n1:¬Lv t (itP t.mask N (stP0 t.mask (tupleKeyHash (intKind prog w) ks))).j)(n2:∀m,m<N->Lv t (itP t.mask m (stP0 t.mask (tupleKeyHash (intKind prog w) ks))).j)
  {Q:SetFound->Shared->Prop} (q1:(∃e∈es.toList,cw s.heap e.2=ks)->Q (.there none) s) (q2:(∀m,m<N->∀(i:Nat) e,t.place[i]? = some (itP t.mask m (stP0 t.mask (tupleKeyHash (intKind prog w) ks))).j->es[i]? = some e->cw s.heap e.2≠ks)->Q (.free (itP t.mask N (stP0 t.mask (tupleKeyHash (intKind prog w) ks))).j false) s) :
  ∀(d m fuel:Nat) (stand:Option SetTable.Probe),N-m=d->m<=N->d<fuel->stand.getD (stP0 t.mask (tupleKeyHash (intKind prog w) ks))=itP t.mask m (stP0 t.mask (tupleKeyHash (intKind prog w) ks)) ->
   (∀m',m'<m->∀(i:Nat) e,t.place[i]? = some (itP t.mask m' (stP0 t.mask (tupleKeyHash (intKind prog w) ks))).j->es[i]? = some e->cw s.heap e.2≠ks) ->
   wpAny (model prog w) A (setSearchFrom a (.ref b) (tupleKeyHash (intKind prog w) ks) true fuel stand) Q E s:=by
 generalize hH:tupleKeyHash (intKind prog w) ks=H at *;intro d
 induction d using Nat.strongRecOn with
 |_ d ih=>
  intro m fuel stand hd hm hfu hst hne;cases fuel with
  |zero=>omega
  |succ fuel=>
   unfold setSearchFrom;refine wpAny_bind (wpAny_setState_of ho rfl hf ?_);dsimp only;rw[show t.gaveWay=false from uW T.m];simp only[Bool.false_eq_true,if_false];have key:∀f:Nat->Int,(∀(i:Nat) e,es[i]? = some e->f i=e.1)->∃k,m+k<=N/\((m+k=N/\t.probe f H (itP t.mask m (stP0 t.mask H))=some (.empty (itP t.mask N (stP0 t.mask H)).j none))\/(m+k<N/\∃(i:Nat) (e:Int×Value),t.place[i]? = some (itP t.mask (m+k) (stP0 t.mask H)).j/\es[i]? = some e/\e.1=H/\t.probe f H (itP t.mask m (stP0 t.mask H))=some (.candidate (itP t.mask (m+k) (stP0 t.mask H)).j i (itP t.mask (m+k+1) (stP0 t.mask H)))))/\∀k',k'<k->∀(i:Nat) e,t.place[i]? = some (itP t.mask (m+k') (stP0 t.mask H)).j->es[i]? = some e->e.1≠H:=fun f hfe=>by
    have ee:∀(i j:Nat),t.place[i]? = some j->∃e,es[i]? = some e:=fun i j h=>by
     have:=(Array.getElem?_eq_some_iff.mp h).1;rw[T.sz]at this;exact⟨es[i],Array.getElem?_eq_getElem this⟩
    obtain⟨k,k1,k2,k3⟩:=oW (P:=fun k=>¬Lv t (itP t.mask (m+k) (stP0 t.mask H)).j\/∃i:Nat,t.place[i]? = some (itP t.mask (m+k) (stP0 t.mask H)).j/\f i=H) (N-m) (.inl (by rw[show m+(N-m)=N by omega];exact n1))
    have hb:∀m',m'<k->∃i:Nat,t.place[i]? = some (itP t.mask m' (itP t.mask m (stP0 t.mask H))).j/\f i≠H:=fun m' hm'=>by
     have:=not_or.mp (k3 m' hm');obtain⟨i,hi⟩:=Classical.not_not.mp this.1;exact⟨i,by rw[<-cQ];exact hi,fun z=>this.2 ⟨i,hi,z⟩⟩
    obtain⟨g1,g2⟩:=o9 (t:=t) (f:=f) (h:=H) T.up T.nd k (10*SetTable.turns t.mask) (itP t.mask m (stP0 t.mask H)) (by omega) (wm _ _ _) hb;rw[<-cQ]at g1 g2;refine⟨k,by omega,?_,fun k' hk' i e hi he z=>?_⟩
    ·rcases k2 with z|⟨i,z1,z2⟩
     ·left
      have e:m+k=N:=by
       rcases Nat.lt_or_ge (m+k) N with q|q
       ·exact absurd (n2 _ q) z
       ·omega
      refine⟨e,?_⟩;rw[<-e];exact g1 z
     ·right
      have lt:m+k<N:=by
       rcases Nat.lt_or_ge (m+k) N with q|q
       ·exact q
       ·rw[show m+k=N by omega]at z1
        exact absurd ⟨i,z1⟩ n1
      obtain⟨e,he⟩:=ee i _ z1;refine⟨lt,i,e,z1,he,by rw[<-hfe i e he];exact z2,?_⟩;have:=g2 i z1 z2;rw[<-cQ]at this;exact this
    ·exact(not_or.mp (k3 k' hk')).2 ⟨i,hi,by rw[hfe i e he];exact z⟩
   have st0:stand.getD (t.probeStart H)=itP t.mask m (stP0 t.mask H):=hst;rw[st0];generalize hpr:t.probe _ H (itP t.mask m (stP0 t.mask H))=pr;obtain⟨k,k1,k2,k3⟩:=key _ (fun i e he=>by
    show(es[i]?.map (·.1)).getD 0=_;rw[he];rfl)
   have hne':∀m',m'<m+k->∀(i:Nat) e,t.place[i]? = some (itP t.mask m' (stP0 t.mask H)).j->es[i]? = some e->cw s.heap e.2≠ks:=fun m' hm' i e hi he=>by
    rcases Nat.lt_or_ge m' m with q|q
    ·exact hne m' q i e hi he
    ·have:=k3 (m'-m) (by omega) i e (by rw[show m+(m'-m)=m' by omega];exact hi) he
     intro z;obtain⟨ks',b',e1,e2,_⟩:=hel e (by rw[Array.mem_toList_iff];exact Array.mem_of_getElem? he);subst e1;have z:cw s.heap (.ref b')=ks:=z;rw[cv e2]at z;subst z;exact this hH
   rcases k2 with⟨e,pe⟩|⟨lt,i,e,hi,he,hx,pe⟩
   ·rw[hpr.symm.trans pe]
    dsimp only;exact wpAny_pure (q2 (fun m' hm'=>hne' m' (by omega)))
   ·rw[hpr.symm.trans pe]
    dsimp only;have hem:e∈es.toList:=by rw[Array.mem_toList_iff];exact Array.mem_of_getElem? he
    obtain⟨ks',b',e1,e2,_⟩:=hel e hem;have rest:wpAny (model prog w) A (do
      let some (_,y):=es[i]? | unsupported "internal:set-entry"
      let equal <-holding [y] (eqBool y (.ref b))
      let (es',_,t') <-setState a
      if true&&equal then return .there none
      let some same:=t'.sameMemory t.moves t.mask|unsupported "set.changed-during-lookup:is-the-new-block-at-the-old-address"
      let still <-match (if same then t'.slot (itP t.mask (m+k) (stP0 t.mask H)).j else .empty)with
       |.live i'=>match es'[i']? with
        |some (_,y')=>do pure (if <-isSame y' y then some i' else none)
        |none=>pure none
       |_=>pure none
      match still with
      |none=>rule "set.search.anew";setSearchFrom a (.ref b) H true fuel none
      |some i'=>if equal then return .there (some i')else setSearchFrom a (.ref b) H true fuel (some (itP t.mask (m+k+1) (stP0 t.mask H)))) Q E s:=by
     rw[he];subst e1;dsimp only;refine wpAny_bind (wpAny_holding (wpAny_eqBool_tuple hu e2 hk ?_));refine wpAny_bind (wpAny_setState_of ho rfl hf ?_);dsimp only;by_cases q:ks'=ks
     ·rw[decide_eq_true q]
      simp only[Bool.and_self,if_true];exact wpAny_pure (q1 ⟨_,hem,by show cw s.heap (.ref b')=ks;rw[cv e2,q]⟩)
     ·rw[decide_eq_false q]
      simp only[Bool.and_false,Bool.false_eq_true,if_false];rw[show t.sameMemory t.moves t.mask=some true by unfold SetTable.sameMemory;simp];dsimp only;simp only[if_true];rw[cX T.up hi];dsimp only;rw[he];dsimp only;refine wpAny_bind (wpAny_isSame_ref_self (wpAny_bind (wpAny_pure ?_)));simp only[if_true];refine ih (N-(m+k+1)) (by omega) (m+k+1) fuel _ rfl (by omega) (by omega) rfl fun m' hm' i' e' hi' he'=>?_
      rcases Nat.lt_or_ge m' (m+k)with z|z
      ·exact hne' m' z i' e' hi' he'
      ·have:m'=m+k:=by omega
       subst this;have s1:=cX T.up hi;have s2:=cX T.up hi';rw[s1]at s2;cases s2;rw[he]at he';cases he';intro z;have z:cw s.heap (.ref b')=ks:=z;rw[cv e2]at z;exact q z
    refine wpAny_ite_split (fun _=>?_) fun _=>rest
    refine wpAny_bind (rN hk (fun y hy=>?_) ?_)
    ·obtain⟨e',he',rfl⟩:=List.mem_map.mp hy
     have:=(Array.mem_filter.mp (Array.mem_toList_iff.mp he')).1;obtain⟨k2,b2,z1,z2,_⟩:=hel e' (Array.mem_toList_iff.mpr this);exact⟨k2,b2,by rw[z1],z2⟩
    ·simp only[Bool.false_eq_true,if_false]
     exact rest
end
noncomputable def bh(ns:List (List Int))(x:List Int):List (List Int):=if x∈ns then ns else ns++[x]
noncomputable def e9(l:List (List Int)):List (List Int):=l.foldl bh []
def SetK(prog:Program)(w:World)(L:Addr->Prop)(h:Heap)(a:Addr)(kss:List (List Int)):Prop:=∃es ep t,h.get? a=some (cm es ep t)/\Tab t es/\(∀e∈es.toList,qY prog w L h e)/\(es.toList.map fun e=>cw h e.2).Perm kss/\kss.length<64/\t.fits es.size=true/\t.led=!w.params.followText "set-order"
section
variable{prog:Program}{w:World}{L:Addr->Prop}{A:Around}{E:Value->Shared->Prop}{s:Shared}
theorem eW{h h':Heap}{ks:List Int}{b:Addr}(x:IsTupleKey (intKind prog w) h ks b)(e:∀o,h.get? b=some o->h'.get? b=some o):IsTupleKey (intKind prog w) h' ks b:=by
 obtain⟨o,items,n,ho,r⟩:=x;exact⟨o,items,n,e o ho,r⟩
theorem rp{h:Heap}{ks:List Int}{a b:Addr}{es:Array (Int×Value)}{ep:Nat}{t:SetTable}(x:IsTupleKey (intKind prog w) h ks b)(ho:h.get? a=some (cm es ep t)):b≠a:=by
 rintro rfl;obtain⟨o,items,n,e,hc,_⟩:=x;rw[ho]at e;cases e;injection hc with z
 exact absurd z (by decide)
theorem iH{h h':Heap}{es:Array (Int×Value)}(hel:∀e∈es.toList,qY prog w L h e)(k:∀(b:Addr) ks,IsTupleKey (intKind prog w) h ks b->L b->∀o,h.get? b=some o->h'.get? b=some o):(∀e∈es.toList,qY prog w L h' e)/\(es.toList.map fun e=>cw h' e.2)=es.toList.map fun e=>cw h e.2:=by
 refine⟨fun e he=>?_,List.map_congr_left fun e he=>?_⟩
 ·obtain⟨ks,b,e1,e2,e3⟩:=hel e he
  exact⟨ks,b,e1,eW e2 (k b ks e2 e3),e3⟩
 ·obtain⟨ks,b,e1,e2,e3⟩:=hel e he
  subst e1;show cw h' (.ref b)=cw h (.ref b);rw[cv e2,cv (eW e2 (k b ks e2 e3))]
theorem SetK.at{h h':Heap}{a:Addr}{kss:List (List Int)}(x:SetK prog w L h a kss)(e:∀b o,L b\/b=a->h.get? b=some o->h'.get? b=some o):SetK prog w L h' a kss:=by
 obtain⟨es,ep,t,ho,T,hel,hp,r⟩:=x;obtain⟨a1,a2⟩:=iH (h':=h') hel fun b _ _ hb o=>e b o (.inl hb)
 exact⟨es,ep,t,e a _ (.inr rfl) ho,T,a1,by rw[a2];exact hp,r⟩
theorem yf{t:SetTable}{es:Array (Int×Value)}(T:Tab t es):t.fits es.size=true:=by
 have:=T.few;unfold SetTable.fits SetTable.fill;rw[T.sz,T.nd];simp;omega
theorem lK{h:Heap}{a:Addr}{es es':Array (Int×Value)}{ep:Nat}{t t':SetTable}{kss:List (List Int)}(ho:h.get? a=some (cm es ep t))(hel:∀e∈es'.toList,qY prog w L h e)(hp:(es'.toList.map fun e=>cw h e.2).Perm kss)(T:Tab t' es')(hl:kss.length<64)(hled:t'.led=!w.params.followText "set-order"):SetK prog w L (h.update a (Obj.putSet es' t')) a kss:=by
 have g:=Heap.get?_update_self (Obj.putSet es' t') ho (by rw[putSet_of es' t' rfl];rfl);rw[putSet_of es' t' rfl]at g;obtain⟨a1,a2⟩:=iH (h':=h.update a (Obj.putSet es' t')) hel fun b ks x _ o e=>aD (rp x ho) e
 exact⟨es',ep+1,t',g,T,a1,by rw[a2];exact hp,hl,yf T,hled⟩
theorem AM{t:SetTable}{n:Nat}(hm:oS t.mask)(hf:n*5<t.mask*3)(hn:n+1<64)(ht:t.mask*3<=(n+1)*5):oS (SetTable.sizeAbove (SetTable.grown (n+1))-1)/\n+1<SetTable.sizeAbove (SetTable.grown (n+1))-1+1/\(n+1)*5<(SetTable.sizeAbove (SetTable.grown (n+1))-1)*3/\¬SetTable.sizeAbove (SetTable.grown (n+1))>sizeLine:=by
 rcases hm with e|e|e<;>rw[e]at hf ht
 ·have:n=4:=by omega
  subst this;exact⟨.inr (.inl rfl),by decide,by decide,by rw[sizeLine_eq];decide⟩
 ·have:n=18:=by omega
  subst this;exact⟨.inr (.inr rfl),by decide,by decide,by rw[sizeLine_eq];decide⟩
 ·omega
theorem rV{a:Addr}{es:Array (Int×Value)}{ep:Nat}{t:SetTable}{n:Nat}{Q:Unit->Shared->Prop}(ho:s.heap.get? a=some (cm es ep t))(hf:t.fits es.size=true)(hn:es.size=n+1)(hm:oS t.mask)(h1:n*5<t.mask*3)(h2:n+1<64)(h3:t.mask*3<=(n+1)*5)
  (h:∀es' t',Tab t' es'->List.Perm es'.toList es.toList->t'.led=t.led->Q () { s with heap:=s.heap.update a (Obj.putSet es' t') }):wpAny (model prog w) A (setRelay a (SetTable.grown (n+1))) Q E s:=by
 obtain⟨b1,b2,b3,b4⟩:=AM hm h1 h2 h3;obtain⟨t',order,e,T,p,l⟩:=qf (t:=t) (es:=es) b1 (by rw[hn];exact b2) (by rw[hn];exact b3);have psz:(order.filterMap fun i=>es[i]?).size=es.size:=by
  have:=p.length_eq;rw[Array.length_toList,Array.length_toList]at this;exact this
 unfold setRelay;refine wpAny_bind (wpAny_setState_of ho rfl hf ?_);dsimp only;rw[if_neg b4,e];refine wpAny_bind (wpAny_of_eq (a:=(order.filterMap fun i=>es[i]?,t')) ?_ ?_)
 ·show(if((order.filterMap fun i=>es[i]?).size != es.size)=true then _ else _)=_
  rw[if_neg (by simp[psz])]
 ·dsimp only
  exact wpAny_storeSet_of ho rfl (h _ _ T p l) (by rw[psz,hn,sizeLine_eq];omega)
theorem rM(hu:A.units<cLine){a b:Addr}{ks:List Int}{kss:List (List Int)}{Q:Bool->Shared->Prop}(hS:SetK prog w L s.heap a kss)(hk:IsTupleKey (intKind prog w) s.heap ks b)(hbL:L b)(hroom:kss.length+1<64)
  (h:∀h' r,Heap.SameBut a s.heap h'->SetK prog w L h' a (bh kss ks)->Q r { s with heap:=h' }):wpAny (model prog w) A (setAddHashed a (.ref b) (tupleKeyHash (intKind prog w) ks)) Q E s:=by
 have hS0:=hS;obtain⟨es,ep,t,ho,T,hel,hp,hb,hf,hled⟩:=hS;have hsz:es.size=kss.length:=by
  have:=hp.length_eq;rw[List.length_map,Array.length_toList]at this;exact this
 have few:=T.few;obtain⟨N,n0,n1,n2⟩:=nW T.m T.sz (by omega) (tupleKeyHash (intKind prog w) ks);have n3:N<100000:=by
  have:10*SetTable.turns t.mask<100000:=by rcases T.m with e|e|e<;>rw[e]<;>decide
  omega
 unfold setAddHashed;refine wpAny_holding ?_;unfold setAddHashedIn;refine wpAny_bind (wpAny_setState_of ho rfl hf ?_);dsimp only;rw[show byScan (.ref b) es=false from rfl];simp only[Bool.false_eq_true,if_false];unfold setSearch;refine wpAny_bind (p6 hu ho T hf hel hk n0 n1 n2 (fun hex=>?there) (fun hno=>?free) N 0 100000 none rfl (Nat.zero_le _) n3 rfl fun m' hm'=>by omega)
 case there=>
  obtain⟨e,he,q⟩:=hex;have hin:ks∈kss:=hp.mem_iff.mp (List.mem_map.mpr ⟨e,he,q⟩);have e:bh kss ks=kss:=if_pos hin;rw[e]at h;exact wpAny_pure (h s.heap _ (Heap.SameBut.refl a s.heap) hS0)
 case free=>
  have hin:ks ∉ kss:=fun z=>by
   obtain⟨e,he,q⟩:=List.mem_map.mp (hp.mem_iff.mpr z);obtain⟨i,hi⟩:=List.mem_iff_getElem?.mp he;rw[Array.getElem?_toList]at hi;have lt:=(Array.getElem?_eq_some_iff.mp hi).1;have hpl:t.place[i]? = some t.place[i]!:=by rw[Array.getElem?_eq_getElem (by rw[T.sz];exact lt)];simp[T.sz,lt]
   obtain⟨n,r1,r2⟩:=T.rc i _ e hpl hi;obtain⟨ks',b',e1,e2,_⟩:=hel e he;subst e1;have q:cw s.heap (.ref b')=ks:=q;rw[cv e2]at q;subst q;have hn:n<N:=by
    rcases Nat.lt_trichotomy n N with z|z|z
    ·exact z
    ·subst z
     exact absurd ⟨i,by rw[r1];exact hpl⟩ n1
    ·exact absurd (r2 N z) n1
   exact hno n hn i _ (by rw[r1];exact hpl) hi (by show cw s.heap (.ref b')=_;exact cv e2)
  have e:bh kss ks=kss++[ks]:=if_neg hin;rw[e]at h;dsimp only;refine wpAny_bind (wpAny_setState_of ho rfl hf ?_);dsimp only;generalize hH:tupleKeyHash (intKind prog w) ks=H at *;have hj:(itP t.mask N (stP0 t.mask H)).j<t.mask+1:=sP _ _ _;have pd:(t.put (itP t.mask N (stP0 t.mask H)).j).1.dummies = #[]:=by
   show(if SetTable.has t.dummies _ then _ else t.dummies) = #[];rw[T.nd];simp[SetTable.has]
  have hpm:List.Perm (SetTable.insertAt es (SetTable.below t.place (itP t.mask N (stP0 t.mask H)).j) (H,Value.ref b)).toList (es.toList++[(H,Value.ref b)]):=by
   have:=SetTable.insertAt_perm es (SetTable.below t.place (itP t.mask N (stP0 t.mask H)).j) (H,Value.ref b)
   rwa [Array.toList_push]at this
  have el1:∀e∈(SetTable.insertAt es (SetTable.below t.place (itP t.mask N (stP0 t.mask H)).j) (H,Value.ref b)).toList,qY prog w L s.heap e:=fun e he=>by
   rcases List.mem_append.mp (hpm.mem_iff.mp he)with z|z
   ·exact hel e z
   ·rw[List.mem_singleton.mp z];exact⟨ks,b,by rw[hH],hk,hbL⟩
  have pm1:((SetTable.insertAt es (SetTable.below t.place (itP t.mask N (stP0 t.mask H)).j) (H,Value.ref b)).toList.map fun e=>cw s.heap e.2).Perm (kss++[ks]):=(hpm.map _).trans (by
   rw[List.map_append];refine(hp.append_right _).trans ?_;show(kss++[cw s.heap (.ref b)]).Perm _;rw[cv hk])
  have sz1:(SetTable.insertAt es (SetTable.below t.place (itP t.mask N (stP0 t.mask H)).j) (H,Value.ref b)).size=es.size+1:=dg _ _ _;have ln1:(kss++[ks]).length<64:=by simpa using hroom
  refine wpAny_ite_split (fun _=>wpAny_bind (mS hk ?_)) (fun _=>wpAny_bind (wpAny_pure ?_))
  all_goals
   simp only[if_true];refine wpAny_bind (wpAny_storeSet_of ho rfl ?_ (by rw[show SetTable.insertAt es (t.put (itP t.mask N (stP0 t.mask H)).j).2 (H,Value.ref b)=SetTable.insertAt es (SetTable.below t.place (itP t.mask N (stP0 t.mask H)).j) (H,Value.ref b)from rfl,sz1,sizeLine_eq];omega));have g:=Heap.get?_update_self (Obj.putSet (SetTable.insertAt es (SetTable.below t.place (itP t.mask N (stP0 t.mask H)).j) (H,Value.ref b)) (t.put (itP t.mask N (stP0 t.mask H)).j).1) ho (by rw[putSet_of _ _ rfl];rfl);rw[putSet_of _ _ rfl]at g;have tf:(t.put (itP t.mask N (stP0 t.mask H)).j).1.tooFull=decide ((es.size+1)*5>=t.mask*3):=by
    unfold SetTable.tooFull SetTable.fill;rw[pd,bK,dg,T.sz];rfl
   by_cases full:(es.size+1)*5>=t.mask*3
   ·rw[tf,decide_eq_true full]
    simp only[Bool.not_false,Bool.and_self,if_true];have fit1:(t.put (itP t.mask N (stP0 t.mask H)).j).1.fits (SetTable.insertAt es (SetTable.below t.place (itP t.mask N (stP0 t.mask H)).j) (H,Value.ref b)).size=true:=by
     unfold SetTable.fits SetTable.fill;rw[pd,bK,dg,sz1,T.sz,rX];simp;omega
    refine wpAny_bind (rV (n:=es.size) (s:={ s with heap:=s.heap.update a (Obj.putSet (SetTable.insertAt es (SetTable.below t.place (itP t.mask N (stP0 t.mask H)).j) (H,Value.ref b)) (t.put (itP t.mask N (stP0 t.mask H)).j).1) }) g fit1 sz1 T.m few (by omega) full fun es2 t2 T2 p2 l2=>wpAny_pure (h _ _ ((Heap.SameBut.update _ a _).trans (Heap.SameBut.update _ a _)) ?_))
    obtain⟨a1,a2⟩:=iH (h':=s.heap.update a (Obj.putSet (SetTable.insertAt es (SetTable.below t.place (itP t.mask N (stP0 t.mask H)).j) (H,Value.ref b)) (t.put (itP t.mask N (stP0 t.mask H)).j).1)) el1 fun b ks x _ o e=>aD (rp x ho) e
    exact lK g (fun e he=>a1 e (p2.mem_iff.mp he)) ((p2.map _).trans (by rw[a2];exact pm1)) T2 ln1 (l2.trans hled)
   ·rw[tf,decide_eq_false full]
    simp only[Bool.and_false,Bool.false_eq_true,if_false];exact wpAny_pure (h _ _ (Heap.SameBut.update _ a _) (lK ho el1 pm1 (T.put n1 n2 (by omega) rfl rfl pd) ln1 hled))
end
theorem nu(ns:List (List Int))(x:List Int):(bh ns x).length<=ns.length+1:=by
 unfold bh;split
 ·omega
 ·simp
theorem lJ:∀(l ns:List (List Int)),(l.foldl bh ns).length<=ns.length+l.length
 |[],ns=>by simp
 |x::l,ns=>by
  have h1:=lJ l (bh ns x);have h2:=nu ns x;show(l.foldl bh (bh ns x)).length<=_;rw[List.length_cons];omega
theorem pY{ns:List (List Int)}{i:Nat}{k:List Int}(h:ns[i]? = some k):e9 (ns.take (i+1))=bh (e9 (ns.take i)) k:=by
 unfold e9;rw[List.take_succ,h,List.foldl_append];rfl
theorem setK_fresh{prog:Program}{w:World}{L:Addr->Prop}{h:Heap}:SetK prog w L (h.push (ah (!w.params.followText "set-order"))) h.objs.size []:=
 ⟨#[],0,_,Heap.get?_push_size _ rfl,⟨.inl rfl,fun i j hi=>absurd hi (by simp[SetTable.fresh]),rfl,rfl,fun i j e=>by simp[SetTable.fresh]at e,(by show 0*5<7*3;decide),fun i j e h1=>by simp[SetTable.fresh]at h1⟩,fun e he=>by simp at he,.refl _,by decide,rfl,rfl⟩
section
variable{prog:Program}{w:World}{A:Around}{R:Result->Shared->Prop}{I:Addr}{fp wr:List Addr}{G:Array GenState->Array GenState->Prop}{n:Nat}{P:Nat->Value->Prop}{St:Nat->Shared->Prop}
theorem jQ(W:WalksS prog w A.in1 I fp wr G n P St)(hu:A.units+1<cLine)(S:Addr)(hSf:S ∉ fp){L:Addr->Prop}(hLw:∀b∈S::wr,¬L b){h0:Heap}(kss:List (List Int))(hn:kss.length=n)(hP:∀i v,P i v->∃ks b,kss[i]? = some ks/\v=.ref b/\L b/\IsTupleKey (intKind prog w) h0 ks b)(hz:n+1<64):
  ∀(k i:Nat) (s:Shared),n-i=k->i<=n->St i s->(∀b o,L b->h0.get? b=some o->s.heap.get? b=some o)->SetK prog w L s.heap S (e9 (kss.take i))->(∀s',Moved (S::wr) G s s'->SetK prog w L s'.heap S (e9 kss)->R (.ok (.ret .none)) s') ->
   codeAny (model prog w) A (.builtin "set.update.loop" ⟨[.ref S,.ref I],[]⟩) R s:=by
 have nw:S ∉ wr:=fun h=>hSf (W.sub _ h)
 have up:∀b∈wr,b∈S::wr:=fun b hb=>List.mem_cons_of_mem _ hb
 have low:∀b,L b->b ∉ wr:=fun b hb z=>hLw b (up b z) hb
 have lowS:∀b,L b->b≠S:=fun b hb z=>hLw S List.mem_cons_self (z ▸ hb)
 intro k
 induction k with
 |zero=>
  intro i s hk hi hst kp hS hR;have e:i=n:=by omega
  subst e;refine codeAny_builtin F.entry_set_update_loop ?_;rw[Around.under_plainId F.plain_set_update_loop _];refine wpAny_bind (m:=pyNext (.ref I)) (W.done s _ _ hst fun s' hm=>?_);rw[<-hn,List.take_length]at hS;exact wpAny_pure (hR s' (hm.mono up) (hS.at fun b o hb e=>hm.heap b o (hb.elim (low b) fun z=>z ▸ nw) e))
 |succ k ih=>
  intro i s hk hi hst kp hS hR;have hlt:i<n:=by omega
  refine codeAny_builtin F.entry_set_update_loop ?_;rw[Around.under_plainId F.plain_set_update_loop _];refine wpAny_bind (m:=pyNext (.ref I)) (W.item i s _ _ hlt hst fun v s' hPv hst' hm=>?_);obtain⟨ks,b,hx,rfl,hb,hk0⟩:=hP i v hPv;have hS':=hS.at fun b o hb e=>hm.heap b o (hb.elim (low b) fun z=>z ▸ nw) e
  have kp':∀b o,L b->h0.get? b=some o->s'.heap.get? b=some o:=fun b o hb e=>hm.heap b o (low b hb) (kp b o hb e)
  have hk1:IsTupleKey (intKind prog w) s'.heap ks b:=eW hk0 fun o e=>kp' b o hb e
  refine wpAny_bind (m:=holding [Value.ref b] (setAdd S (.ref b))) (wpAny_holding ?_);unfold setAdd;refine wpAny_holding (wpAny_bind (wpAny_pyHash_tuple (knd:=intKind prog w) (ks:=ks) hu hk1 ?_));have ln:(e9 (kss.take i)).length<=i:=by
   have:=lJ (kss.take i) [];rw[List.length_take]at this;unfold e9;simp only[List.length_nil]at this;omega
  refine rM (s:={ s' with toks:=s'.toks+(ks.length+1) }) hu hS' hk1 hb (by omega) fun h' r hsb hS2=>?_
  rw[<-pY hx]at hS2;refine wpAny_pure ⟨plainId_quiet F.plain_set_update_loop _,ih (i+1) _ (by omega) hlt (W.frame _ s' _ _ hst' (Nat.le_add_right _ _) fun b hb o e=>?_) (fun b o hb e=>?_) hS2 fun s'' hm'' hS''=>?_⟩
  ·rw[hsb.2 b (fun z=>hSf (z ▸ hb))];exact e
  ·show h'.get? b=some o
   rw[hsb.2 b (lowS b hb)];exact kp' b o hb e
  ·refine hR s'' (Moved.trans W.gtrans ((hm.mono up).then_heap (Nat.le_add_right _ _) fun b o hb e=>?_) hm'') hS''
   rw[hsb.2 b (fun z=>hb (z ▸ List.mem_cons_self))];exact e
end
section
variable{prog:Program}{w:World}{A:Around}{E:Value->Shared->Prop}{s:Shared}
theorem jF{v:Value}{Q:Value->Shared->Prop}
  (h:∀A':Around,A'.handled=A.handled->A'.units<=A.units+8->wpAny (model prog w) A' (Builtin.Frozenset.updateFrom "set.__init__" s.heap.objs.size v) (fun _ s2=>Q (.ref s.heap.objs.size) s2) E { s with heap:=s.heap.push (ah (!w.params.followText "set-order")) }) :
  wpAny (model prog w) A (call (.type "set") [v]) Q E s:=by
 obtain⟨c,tl,hmro⟩:=F.called_set.mro;have hmade:=F.called_set.made;have hsub:=F.called_set.sub;refine wpAny_call (codeAny_of_tree ?_);show wpAny _ _ (callAny (.type "set") _) _ _ _;refine wpAny_pure ⟨Code.quiet_builtin _ (by decide +kernel),codeAny_builtin F.entry_type_call ?_⟩;rw[Around.under_plain (weight_type_call_type "set" [v] []) rfl];have h1:=F.called_set.notType;have h2:=F.called_set.canCreate;have hct:=F.typeCall_set_1 v
 repeat (any_goals (first|assumption|wp_step))
 refine codeAny_mono (d3 v (E:=E) (Q:=fun obj s1=>obj=.ref s.heap.objs.size/\s1={ s with heap:=s.heap.push (ah (!w.params.followText "set-order")) }) ⟨rfl,rfl⟩) fun r s1 hr=>?_
 cases r with
 |error e=>exact hr
 |ok fl=>
  cases fl with
  |ret obj=>
   obtain⟨rfl,rfl⟩:=hr;have hT:Shared.TypeIs { s with heap:=s.heap.push (ah (!w.params.followText "set-order")) } (.ref s.heap.objs.size) "set":=⟨_,Heap.get?_push_size _ rfl,rfl⟩;have hS:(s.heap.push (ah (!w.params.followText "set-order"))).get? s.heap.objs.size=some (ah (!w.params.followText "set-order")):=Heap.get?_push_size _ rfl;have hli:=F.called_set.init.lookup;have hbi:=F.called_set.init.bind (.ref s.heap.objs.size)
   repeat (any_goals (first|assumption|wp_step))
   refine codeAny_mono (codeAny_call_builtin (R:=wants (fun r s2=>r=.none/\Q (.ref s.heap.objs.size) s2) E) F.called_set.init.plain F.entry_set_init (check_set_init_1 hT ?_)) fun r2 s2 hr2=>?_
   ·unfold Builtin.«set.__init__» noKeywords
    generalize hUF:Builtin.Frozenset.updateFrom=UF
    wp_walk
    subst hUF;refine wpAny_mono (h _ (by simp) (by simp)) (fun _ s2 q=>?_) fun _ _ e=>e
    exact wpAny_pure ⟨rfl,q⟩
   ·cases r2 with
    |error e=>exact hr2
    |ok fl2=>
     cases fl2 with
     |ret r=>
      obtain⟨rfl,q⟩:=hr2
      repeat (any_goals (first|assumption|wp_step))
     |_=>exact hr2.elim
  |_=>exact hr.elim
theorem pX{a:Addr}{es:Array (Int×Value)}{ep:Nat}{t:SetTable}{Q:Value->Shared->Prop}(ho:s.heap.get? a=some (cm es ep t))(hb:es.size<scanBound)(hf:t.fits es.size=true)(hw:WkT (!w.params.followText "set-order") t)
  (hQ:∀I tp h1 d vs,tp≠I->a≠I->(∀b o,s.heap.get? b=some o->h1.get? b=some o)->s.heap.objs.size<=I->I<h1.objs.size->(tp=a\/s.heap.objs.size<=tp)->SWk w h1 I a vs tp 0->vs.Perm (es.toList.map (·.2))->Q (.ref I) { s with heap:=h1,drawn:=d }):wpAny (model prog w) A (pyIter (.ref a)) Q E s:=by
 have hT:s.TypeIs (.ref a) "set":=⟨_,ho,rfl⟩;have lt:=Heap.lt_size ho;refine wpAny_pyIter_slot hT F.slot_set_iter (wpAny_call_entry F.slot_set_iter hT dL ?_ (F.args_set_iter_1 _));unfold Builtin.«frozenset.__iter__» Builtin.Frozenset.slot0;refine wpAny_bind (wpAny_bind (wpAny_of_eq (a:=(Value.ref a,[])) rfl ?_));unfold Builtin.Frozenset.addrOf Builtin.Frozenset.sizeOf;refine wpAny_pure ?_;refine wpAny_bind (wpAny_bind (wpAny_setEntries_of ho rfl hf (wpAny_pure ?_)));unfold setDrawn;refine wpAny_bind (wpAny_bind (wpAny_setState_of ho rfl hf ?_));dsimp only;refine wpAny_bind (dj (wpAny_pure ?_));have plain:∀vs:List Value,vs.Perm (es.toList.map (·.2))->vs.length=es.size->(∀h1:Heap,Mode w h1 a es ep t vs 0 (rawInt (0:Nat)))->wpAny (model prog w) A.in1 (do
   let ep <-setEpoch a
   let x <-newFields "set_iterator" [rawInt 0,rawInt 0,.ref a,rawInt es.size,rawInt ep]
   ret x) (fun fin s'=>∃v,fin=.done (.ret v)/\∃T' r,s'.TypeIs v T'/\typeLookup (.type T') "__next__" = pure (some r)/\Q v s') E s:=fun vs q1 q3 q4=>by
  refine wpAny_bind (wpAny_setEpoch_of ho rfl hf ?_);refine wpAny_bind (wpAny_newObj_type (wpAny_pure ⟨_,rfl,"set_iterator",_,⟨_,Heap.get?_push_size _ rfl,rfl⟩,slot_si_next.lookup,?_⟩));refine hQ s.heap.objs.size a _ s.drawn vs (Nat.ne_of_lt lt) (Nat.ne_of_lt lt) (fun b o e=>Heap.get?_push_of_some _ e) (Nat.le_refl _) (by rw[Heap.size_push];exact Nat.lt_succ_self _) (.inl rfl) ⟨es,ep,t,rawInt (0:Nat),Heap.get?_push_of_some _ ho,hf,hw,q3,Heap.get?_push_size _ rfl,fun b z=>(by cases z),q4 _⟩ q1
 cases hb1:w.params.followText "set-order" with
 |true=>
  simp only[Bool.not_true,Bool.false_and,Bool.false_eq_true,if_false];have pp:=jV (w.params.setOrder a ep) es;refine plain ((pickOrder (w.params.setOrder a ep) es).toList.map (·.2)) (pp.map _) (by rw[List.length_map,pp.length_eq,Array.length_toList]) fun h1=>.text hb1 rfl
 |false=>
  by_cases hd:(!t.plain&&decide (es.size>1))=true
  ·show wpAny _ _ (if(!false&&(!t.plain&&decide (es.size>1)))=true then _ else _) _ _ _
   rw[hd];simp only[Bool.not_false,Bool.and_self,if_true];refine wpAny_bind (gz es.size (List.range es.size) s (List.length_range ..) fun ys d py=>?_)
   have hlen:ys.length=es.size:=by rw[py.length_eq,List.length_range]
   refine wpAny_bind (wpAny_newObj_type ?_ (by show(List.toArray _).size<=sizeLine;rw[List.size_toArray,List.length_map,hlen];exact fits_of_scanBound hb));have ho1:=Heap.get?_push_of_some { cls:=.type "tuple",data:=.seq (ys.map fun i:Nat=>rawInt (i:Int)).toArray } ho
   refine wpAny_bind (wpAny_setEpoch_of ho1 rfl hf ?_);refine wpAny_bind (wpAny_newObj_type (wpAny_pure ⟨_,rfl,"set_iterator",_,⟨_,Heap.get?_push_size _ rfl,rfl⟩,slot_si_next.lookup,?_⟩));have pe:(ys.map fun p=>es.getD p (0,.none)).Perm es.toList:=by
    have:=py.map fun p=>es.getD p (0,.none)
    rwa [iu]at this
   refine hQ (s.heap.push { cls:=.type "tuple",data:=.seq (ys.map fun i:Nat=>rawInt (i:Int)).toArray }).objs.size s.heap.objs.size _ d ((ys.map fun p=>es.getD p (0,.none)).map (·.2)) ?_ ?_ (fun b o e=>Heap.get?_push_of_some _ (Heap.get?_push_of_some _ e)) (by rw[Heap.size_push];exact Nat.le_succ _) (Heap.lt_size (Heap.get?_push_size _ rfl)) (.inr (Nat.le_refl _)) ⟨es,ep,t,.ref s.heap.objs.size,Heap.get?_push_of_some _ ho1,hf,hw,by simp[hlen],Heap.get?_push_size _ rfl,fun b z=>by injection z with z;exact z.symm,?_⟩ (pe.map _)
   ·rw[Heap.size_push];exact Nat.ne_of_lt (Nat.lt_succ_self _)
   ·rw[Heap.size_push];exact Nat.ne_of_lt (Nat.lt_succ_of_lt lt)
   ·refine .drawn (ps:=ys) (Heap.get?_push_of_some _ (Heap.get?_push_size _ rfl)) rfl (by simp) fun j p hj=>?_
    have hpn:p<es.size:=List.mem_range.mp (py.mem_iff.mp (List.mem_of_getElem? hj));refine⟨es.getD p (0,.none),by simp[Array.getD,hpn],?_⟩;rw[List.getElem?_map,List.getElem?_map,hj];rfl
  ·show wpAny _ _ (if(!false&&(!t.plain&&decide (es.size>1)))=true then _ else _) _ _ _
   have hd':(!t.plain&&decide (es.size>1))=false:=by simpa using hd
   rw[hd'];simp only[Bool.not_false,Bool.and_false,Bool.false_eq_true,if_false];have up:UpA t.place:=by
    cases hpl:t.plain with
    |true=>exact hw.up hpl
    |false=>
     rw[hpl]at hd';have h1:es.size<=1:=by simpa using hd'
     have h2:=en hf;intro i j hi hj hij;omega
   refine wpAny_bind (wpAny_pure ?_);refine plain (es.toList.map (·.2)) (.refl _) (by simp) fun h1=>?_
   have:=Mode.slots (w:=w) (h:=h1) (a:=a) (ep:=ep) (i:=0) hb1 hd' up (es:=es) rfl;simpa using this
theorem kN{a:Addr}{es:Array (Int×Value)}{ep:Nat}{t:SetTable}{R:List Value->Shared->Prop}(hh:A.handled=none)(hS:s.heap.get? a=some (cm es ep t))(hsz:es.size<scanBound)(hf:t.fits es.size=true)(hw:WkT (!w.params.followText "set-order") t)
  (h:∀h' d tk vs,(∀b o,s.heap.get? b=some o->h'.get? b=some o)->vs.Perm (es.toList.map (·.2))->R vs { s with heap:=h',drawn:=d,toks:=tk }):wpAny (model prog w) A (collect (.ref a)) R E s:=by
 have lta:a<s.heap.objs.size:=Heap.lt_size hS;unfold collect;refine wpAny_bind (wpAny_runValue (codeAny_builtin entry_proto_collect' ?_));rw[Around.under_plainId PySem.F.plain_proto_collect _];refine wpAny_bind (m:=newList []) (wpAny_newObj_type ?_);refine wpAny_pure ⟨plainId_quiet PySem.F.plain_list_iadd _,codeAny_builtin entry_list_iadd' ?_⟩;rw[Around.under_plainId PySem.F.plain_list_iadd _];show wpAny _ A.in1 (Builtin.List.listExtendWith (.ref s.heap.objs.size) (.ref a) (.ref s.heap.objs.size)) _ _ _;unfold Builtin.List.listExtendWith;have kp1:∀b o,s.heap.get? b=some o->(s.heap.push { cls:=.type "list",data:=.seq ([]:List Value).toArray }).get? b=some o:=fun b o e=>Heap.get?_push_of_some _ e
 have hS1:=kp1 a _ hS;have hL:(s.heap.push { cls:=.type "list",data:=.seq ([]:List Value).toArray }).get? s.heap.objs.size=some { cls:=.type "list",data:=.seq #[] 0 }:=Heap.get?_push_size _ rfl;have hT:∀{s1:Shared},s1.heap.get? a=some (cm es ep t)->s1.TypeIs (.ref a) "set":=fun q=>⟨_,q,rfl⟩
 refine wpAny_bind (wpAny_typeOf (T:="set") (hT hS1) ?_);have h1:Builtin.List.listSameRef (.ref s.heap.objs.size) (.ref a)=false:=by simp[Builtin.List.listSameRef];exact Nat.ne_of_gt lta
 have h2:(Value.type "set" == Value.type "list")=false:=by decide
 have h3:(Value.type "set" == Value.type "tuple")=false:=by decide
 simp only[h1,h2,h3,Bool.or_false,Bool.false_eq_true,if_false];refine wpAny_bind (pX hS1 hsz hf hw fun I tp h1 d vs htp haI kp2 hI hI2 htp2 sw pm=>?_);have ltL:s.heap.objs.size<(s.heap.push { cls:=.type "list",data:=.seq ([]:List Value).toArray }).objs.size:=Heap.lt_size hL;have neI:s.heap.objs.size≠I:=fun z=>by
  have q:s.heap.objs.size<I:=Nat.lt_of_lt_of_le ltL hI;rw[<-z]at q;exact Nat.lt_irrefl _ q
 have neT:s.heap.objs.size≠tp:=fun z=>by
  rcases htp2 with q|q
  ·rw[q]at z;exact absurd lta (by rw[z];exact Nat.lt_irrefl _)
  ·rw[<-z]at q;exact absurd ltL (Nat.not_lt.mpr q)
 have hL1:=kp2 _ _ hL;refine wpAny_bind (wpAny_holding (mI (hT (s1:={ s with heap:=h1,drawn:=d }) (kp2 a _ hS1)) ?_));have fin:∀(RR:Result->Shared->Prop) (hR:∀s',wpAny (model prog w) A (load s.heap.objs.size >>= fun o=>match o.data with
   |.seq xs _=>pure xs.toList
   |_=>unsupported "internal:collect") R E s'->RR (.ok (.ret (.ref s.heap.objs.size))) s') (h2:Heap) (c:Nat),h2.get? s.heap.objs.size=some { cls:=.type "list",data:=.seq #[] c }->(∀b o,b≠s.heap.objs.size->h1.get? b=some o->h2.get? b=some o)->codeAny (model prog w) A (.builtin "list.extend.loop" ⟨[.ref s.heap.objs.size,.ref I,.ref s.heap.objs.size],[]⟩) RR { s with heap:=h2,drawn:=d }:=fun RR hR h2 c e2 k2=>by
  have W:=(lr (prog:=prog) (w:=w) (A:=A.in1) hh haI htp vs).toS;have vl:vs.length=es.size:=by rw[pm.length_eq,List.length_map,Array.length_toList]
  refine codeAny_extend_loopS W (by rw[vl];exact fits_of_scanBound hsz) s.heap.objs.size (by simp only[List.mem_cons,List.not_mem_nil,or_false,not_or];exact⟨neI,Nat.ne_of_gt lta,neT⟩) (.ref s.heap.objs.size) vs.length 0 _ #[] c rfl (Nat.zero_le _) (sw.frame fun b hb o e=>?_) e2 (ItemsOf.nil _) fun s' acc c' hm hS' hacc=>?_
  ·refine k2 b o (fun z=>?_) e
   simp only[List.mem_cons,List.not_mem_nil,or_false]at hb;rcases hb with rfl|rfl|rfl
   ·exact neI z.symm
   ·exact Nat.ne_of_lt lta z
   ·exact neT z.symm
  ·refine hR s' (wpAny_bind (wpAny_load hS' (wpAny_pure ?_)))
   rw[mE hacc];obtain⟨h',g',d',tk',os'⟩:=s';have eg:g'=s.gens:=hm.gens;have ed:d'=d:=hm.drawn;have eo:os'=s.os:=hm.os;subst eg ed eo;refine h h' d' tk' vs (fun b o e=>?_) pm;have lt:=Heap.lt_size e;refine hm.heap b o ?_ (k2 b o (Nat.ne_of_lt lt) (kp2 b o (kp1 b o e)));simp only[List.mem_cons,List.not_mem_nil,or_false,not_or];exact⟨Nat.ne_of_lt lt,fun z=>by
    have q:b<I:=Nat.lt_trans lt (Nat.lt_of_lt_of_le ltL hI);rw[z]at q;exact Nat.lt_irrefl _ q⟩
 refine wpAny_ite_split (fun _=>?_) (fun _=>wpAny_pure ⟨plainId_quiet PySem.F.plain_extend_loop _,fin _ (fun s' q=>q) h1 0 hL1 fun b o _ e=>e⟩)
 refine wpAny_bind (wpAny_rule ?_);refine wpAny_bind ?_;show wpAny _ _ (updateSeq s.heap.objs.size (·.push .none) >>= fun _=>updateSeq s.heap.objs.size (·.pop)) _ _ _
 refine wpAny_bind (wpAny_updateSeq hL1 rfl ?_);have g2:=Heap.get?_update_self (Obj.mapSeq (·.push Value.none)) hL1 rfl;refine wpAny_updateSeq (hz:=by seq_fits) g2 rfl ?_;have g3:=Heap.get?_update_self (Obj.mapSeq (·.pop)) g2 rfl;exact wpAny_pure ⟨plainId_quiet PySem.F.plain_extend_loop _,fin _ (fun s' q=>q) _ _ g3 fun b o hb e=>aE hb (aE hb e)⟩
theorem jD(hu:A.units+64<cLine){l:Addr}{items:Array Value}{kss:List (List Int)}{Q:Value->Shared->Prop}(hh:A.handled=none)(hl:s.heap.IsList l items\/s.heap.IsTuple l items)(hn:kss.length=items.size)(hi:∀(i:Nat) v,items[i]? = some v->∃ks b,kss[i]? = some ks/\v=.ref b/\IsTupleKey (intKind prog w) s.heap ks b)(hb:items.size+1<64)
  (h:∀(h':Heap) (tk:Nat),SetK prog w (fun b=>b<s.heap.objs.size/\Value.ref b∈items.toList) h' s.heap.objs.size (e9 kss)->(∀b o,s.heap.get? b=some o->h'.get? b=some o)->Q (.ref s.heap.objs.size) { s with heap:=h',toks:=tk }):wpAny (model prog w) A (call (.type "set") [.ref l]) Q E s:=by
 have hP:∀(i:Nat) v,items[i]? = some v->∃ks b,kss[i]? = some ks/\v=.ref b/\(b<s.heap.objs.size/\Value.ref b∈items.toList)/\IsTupleKey (intKind prog w) s.heap ks b:=fun i v e=>by
  obtain⟨ks,b,h1,h2,h3⟩:=hi i v e;exact⟨ks,b,h1,h2,⟨by obtain⟨o,_,_,ho,_⟩:=h3;exact Heap.lt_size ho,by rw[<-h2,Array.mem_toList_iff];exact Array.mem_of_getElem? e⟩,h3⟩
 refine jF fun A' hA hU=>?_
 have hh':A'.handled=none:=hA.trans hh;have hu':A'.units+1<cLine:=by omega
 have fin:∀(s':Shared) (I:Addr) (o:Obj),Moved [s.heap.objs.size,I] (fun a b=>b=a) { s with heap:=(s.heap.push (ah (!w.params.followText "set-order"))).push o } s'->I=(s.heap.push (ah (!w.params.followText "set-order"))).objs.size->SetK prog w (fun b=>b<s.heap.objs.size/\Value.ref b∈items.toList) s'.heap s.heap.objs.size (e9 kss)->Q (.ref s.heap.objs.size) s':=fun s' I o hm hI hS=>by
  obtain⟨h',g',d',tk',os'⟩:=s';have eg:g'=s.gens:=hm.gens;have ed:d'=s.drawn:=hm.drawn;have eo:os'=s.os:=hm.os;subst eg ed eo;refine h h' tk' hS fun b o' e=>?_
  have lt:=Heap.lt_size e;refine hm.heap b o' ?_ (Heap.get?_push_of_some _ (Heap.get?_push_of_some _ e));rw[hI,Heap.size_push];simp only[List.mem_cons,List.not_mem_nil,or_false,not_or];exact⟨Nat.ne_of_lt lt,Nat.ne_of_lt (Nat.lt_succ_of_lt lt)⟩
 have hLw:∀b∈[s.heap.objs.size,(s.heap.push (ah (!w.params.followText "set-order"))).objs.size],¬(b<s.heap.objs.size/\Value.ref b∈items.toList):=fun b hb=>by
  rw[Heap.size_push]at hb;simp only[List.mem_cons,List.not_mem_nil,or_false]at hb;rcases hb with rfl|rfl
  ·exact fun z=>Nat.lt_irrefl _ z.1
  ·exact fun z=>Nat.not_succ_le_self _ (Nat.le_of_lt z.1)
 rcases hl with hl|hl
 ·obtain⟨ol,hol,hcl,nl,hdl⟩:=hl
  obtain⟨ocls,odict,odata,oslots⟩:=ol;simp only at hcl hdl;subst hcl hdl;have lt:=Heap.lt_size hol;have hol':=Heap.get?_push_of_some (ah (!w.params.followText "set-order")) hol;have f1:=F.sub_list_set;have f2:=F.sub_list_frozenset;have f3:(Value.type "list" == Value.type "dict")=false:=by decide
  have hl1:(s.heap.push (ah (!w.params.followText "set-order"))).IsList l items:=⟨_,hol',rfl,nl,rfl⟩;unfold Builtin.Frozenset.updateFrom;generalize hPI:pyIter=PI
  wp_walk
  subst hPI;refine wpAny_pyIter_list hl1 ?_;refine wpAny_bind (wpAny_runValue ?_);have ne:l≠(s.heap.push (ah (!w.params.followText "set-order"))).objs.size:=by rw[Heap.size_push];exact Nat.ne_of_lt (Nat.lt_succ_of_lt lt)
  have nf:s.heap.objs.size ∉ [(s.heap.push (ah (!w.params.followText "set-order"))).objs.size,l]:=by
   rw[Heap.size_push];simp only[List.mem_cons,List.not_mem_nil,or_false,not_or];exact⟨Nat.ne_of_lt (Nat.lt_succ_self _),Nat.ne_of_gt lt⟩
  refine jQ ((Walks.list (by simpa using hh') _ l ne items).toS) hu' s.heap.objs.size nf hLw kss hn hP hb items.size 0 _ (by omega) (Nat.zero_le _) ⟨⟨_,Heap.get?_push_size _ rfl,rfl,rfl⟩,hl1.push _⟩ (fun b o _ e=>Heap.get?_push_of_some _ (Heap.get?_push_of_some _ e)) (setK_fresh.at fun b o _ e=>Heap.get?_push_of_some _ e) fun s' hm hS=>?_
  exact wpAny_pure ((fin s' _ _ hm rfl hS))
 ·obtain⟨ol,hol,hcl,nl,hdl⟩:=hl
  obtain⟨ocls,odict,odata,oslots⟩:=ol;simp only at hcl hdl;subst hcl hdl;have lt:=Heap.lt_size hol;have hol':=Heap.get?_push_of_some (ah (!w.params.followText "set-order")) hol;have f1:=ez;have f2:=cu;have f3:(Value.type "tuple" == Value.type "dict")=false:=by decide
  have hl1:(s.heap.push (ah (!w.params.followText "set-order"))).IsTuple l items:=⟨_,hol',rfl,nl,rfl⟩;unfold Builtin.Frozenset.updateFrom;generalize hPI:pyIter=PI
  wp_walk
  subst hPI;refine wpAny_pyIter_tuple hl1 ?_;refine wpAny_bind (wpAny_runValue ?_);have ne:l≠(s.heap.push (ah (!w.params.followText "set-order"))).objs.size:=by rw[Heap.size_push];exact Nat.ne_of_lt (Nat.lt_succ_of_lt lt)
  have nf:s.heap.objs.size ∉ [(s.heap.push (ah (!w.params.followText "set-order"))).objs.size,l]:=by
   rw[Heap.size_push];simp only[List.mem_cons,List.not_mem_nil,or_false,not_or];exact⟨Nat.ne_of_lt (Nat.lt_succ_self _),Nat.ne_of_gt lt⟩
  refine jQ ((Walks.tuple (by simpa using hh') _ l ne items).toS) hu' s.heap.objs.size nf hLw kss hn hP hb items.size 0 _ (by omega) (Nat.zero_le _) ⟨⟨_,Heap.get?_push_size _ rfl,rfl,rfl⟩,hl1.push _⟩ (fun b o _ e=>Heap.get?_push_of_some _ (Heap.get?_push_of_some _ e)) (setK_fresh.at fun b o _ e=>Heap.get?_push_of_some _ e) fun s' hm hS=>?_
  exact wpAny_pure ((fin s' _ _ hm rfl hS))
end
noncomputable def Ae:D->Option (List Int)
 |.tuple ds=>mH ds
 |_=>none
noncomputable def iS:List D->Option (List (List Int))
 |[]=>some []
 |d::r=>(Ae d).bind fun k=>(iS r).bind fun l=>some (k::l)
noncomputable def bd(k:List Int):List ak:=k.map Sum.inl
noncomputable def lB(d:D):Option D:=(bI d).bind fun ds=>(iS ds).bind fun kss=>if kss.length<63/\(∀k∈kss,k≠[])then some (.list ((bT ((e9 kss).map bd)).map fun k=>.tuple (k.map fE)))else none
section
variable{prog:Program}{w:World}
theorem mm:∀{ks:List Int} {vs:List Value},KVals (bd ks) vs->ItemsAre (intKind prog w) ks vs
 |[],_,.nil=>.nil
 |k::ks,_,.cons h r=>by
  obtain⟨t,rfl⟩:=h;exact .cons (intKind_is prog w k t) (mm r)
theorem mD:∀{ks:List Int} {vs:List Value},ItemsAre (intKind prog w) ks vs->KVals (bd ks) vs
 |_,_,.nil=>.nil
 |_,_,.cons h r=>by
  obtain⟨t,rfl⟩:=Value.isInt_shape h;exact .cons ⟨t,rfl⟩ (mD r)
theorem vh{h:Heap}{ks:List Int}{b:Addr}(x:KAt h (.ref b) (bd ks)):IsTupleKey (intKind prog w) h ks b:=by
 obtain⟨b',o,xs,n,e,e1,e2,e3,e4⟩:=x;cases e;exact⟨o,xs,n,e1,e2,e3,mm e4⟩
theorem ug{h:Heap}{ks:List Int}{b:Addr}(x:IsTupleKey (intKind prog w) h ks b):KAt h (.ref b) (bd ks):=by
 obtain⟨o,xs,n,e1,e2,e3,e4⟩:=x;exact⟨b,o,xs,n,rfl,e1,e2,e3,mD e4⟩
end
theorem mx{h:Heap}{f:Value->List ak}:∀{vs:List Value},(∀v∈vs,KAt h v (f v))->KAts h vs (vs.map f)
 |[],_=>.nil
 |v::vs,H=>.cons (H v List.mem_cons_self) (mx fun u hu=>H u (List.mem_cons_of_mem _ hu))
theorem oY{h:Heap}:∀{vs:List Value} {ks:List (List ak)},KAts h vs ks->ks.length=vs.length/\∀(i:Nat) v,vs[i]? = some v->∃k,ks[i]? = some k/\KAt h v k
 |_,_,.nil=>⟨rfl,fun i v e=>by simp at e⟩
 |_,_,.cons x r=>by
  obtain⟨a,b⟩:=oY r;refine⟨by rw[List.length_cons,List.length_cons,a],fun i v e=>?_⟩
  cases i with
  |zero=>cases e;exact⟨_,rfl,x⟩
  |succ i=>exact b i v e
theorem tR{k:List Int}(h:k≠[]):ot (bd k)=true:=by
 cases k with
 |nil=>exact absurd rfl h
 |cons x k=>
  show(bd k).all xX=true;exact List.all_eq_true.mpr fun y hy=>by obtain⟨z,_,rfl⟩:=List.mem_map.mp hy;rfl
theorem lH:∀(l ns:List (List Int)) (x:List Int),x∈l.foldl bh ns->x∈ns\/x∈l
 |[],ns,x,h=>.inl h
 |y::l,ns,x,h=>by
  rcases lH l _ x h with z|z
  ·unfold bh at z
   split at z
   ·exact .inl z
   ·rcases List.mem_append.mp z with q|q
    ·exact .inl q
    ·rw[List.mem_singleton.mp q];exact .inr List.mem_cons_self
  ·exact .inr (List.mem_cons_of_mem _ z)
section
variable{X:Cx}
theorem lD(hc:X.calm=true){pins:List (Addr×Obj)}{σ:St}{H Z:Hp}{s:Shared}{a:Addr}{kss:List (List Int)}{L:Addr->Prop}{Q:VK}(I:Inv X pins σ H s)(zh:Same Z H)(hS:SetK X.prog X.w L s.heap a kss)(hne:∀k∈kss,k≠[])(hL:∀b,L b->∃k:List ak,SqT X.K Z b (k.map nJ))
  (q:∀vs',KeyVs X.K Z vs' (bT (kss.map bd))->∀l,H l=none->Q (.ref l) (upd H l (.lst vs'))) :
  wpAny (model X.prog X.w) X.A (call (.builtin "sorted") [.ref a]) (EP X pins σ Q) X.xe s:=by
 obtain⟨es,ep,t,ho,T,hel,hp,hb,hf,hled⟩:=hS;have hsz:es.size=kss.length:=by
  have:=hp.length_eq;rw[List.length_map,Array.length_toList]at this;exact this
 refine Calls.call_function_entry kind_sorted plain_sorted entry_sorted (args_sorted1 _) ?_;unfold Builtin.«sorted»;refine wpAny_bind (m:=checkCount "sorted" 1 1 _) (wpAny_pure ?_);refine wpAny_bind (kN (I.ok.hd hc) ho (by unfold scanBound;omega) hf ⟨hled,fun _=>T.up⟩ fun h' d tk acc hk' pm=>?_)
 have hln:acc.length=kss.length:=by rw[pm.length_eq,List.length_map,Array.length_toList,hsz]
 have hz:acc.length<=sizeLine:=by rw[hln,sizeLine_eq];omega
 refine wpAny_bind (wpAny_newList ?_ hz);have hoL:(h'.push (seqObj "list" acc.toArray 0)).get? h'.objs.size=some (seqObj "list" acc.toArray 0):=Heap.get?_push_size _ rfl;have I1:Inv X pins σ H { s with heap:=h',drawn:=d,toks:=tk }:=Inv.keptD I hk';have I2:Inv X pins σ H { s with heap:=h'.push (seqObj "list" acc.toArray 0),drawn:=d,toks:=tk }:=I1.kept (t':=tk) fun b o eo=>Heap.get?_push_of_some _ eo
 have mem:∀v∈acc,∃ks b,v=Value.ref b/\IsTupleKey (intKind X.prog X.w) s.heap ks b/\L b:=fun v hv=>by
  obtain⟨e,he,rfl⟩:=List.mem_map.mp (pm.mem_iff.mp hv);obtain⟨ks,b,e1,e2,e3⟩:=hel e he;subst e1;exact⟨ks,b,rfl,e2,e3⟩
 have ka:KAts (h'.push (seqObj "list" acc.toArray 0)) acc (acc.map fun v=>bd (cw s.heap v)):=mx fun v hv=>by
  obtain⟨ks,b,rfl,e2,_⟩:=mem v hv;rw[cv e2];exact ug (eW e2 fun o e=>Heap.get?_push_of_some _ (hk' _ _ e))
 have kp:(acc.map fun v=>bd (cw s.heap v)).Perm (kss.map bd):=by
  have h1:=pm.map fun v=>bd (cw s.heap v)
  rw[List.map_map]at h1;have h2:=hp.map bd;rw[List.map_map]at h2;exact h1.trans h2
 have ok:((acc.map fun v=>bd (cw s.heap v)).all jN||(acc.map fun v=>bd (cw s.heap v)).all ot)=true:=by
  rw[Bool.or_eq_true];refine .inr (List.all_eq_true.mpr fun k hk=>?_);obtain⟨k0,h0,rfl⟩:=List.mem_map.mp (kp.mem_iff.mp hk);exact tR (hne k0 h0)
 refine wpAny_bind (wpAny_holding (wpAny_call_entry slot_list_sort ⟨_,hoL,rfl⟩ entry_list_sort (iL hoL ka ok hz fun out pm2 ka2=>⟨_,rfl,?_⟩) (args_list_sort _)));refine wpAny_pure ⟨_,rfl,?_⟩;have es:bT (acc.map fun v=>bd (cw s.heap v))=bT (kss.map bd):=f9 ((dX _).trans kp) (f8 _)
 rw[es]at ka2;obtain⟨b1,b2⟩:=iO I2 zh ka2 fun u hu=>by
  obtain⟨ks,b,rfl,_,e3⟩:=mem u (pm2.mem_iff.mp hu);obtain⟨k,hk⟩:=hL b e3;exact⟨b,k,rfl,hk⟩
 have kp':∀b o,h'.get? b=some o->(sortedHeap (h'.push (seqObj "list" acc.toArray 0)) h'.objs.size acc out.toArray).get? b=some o:=fun b o eo=>by
  have hb:b≠h'.objs.size:=Nat.ne_of_lt (Heap.lt_size eo);exact aE hb (Heap.get?_push_of_some _ (Heap.get?_push_of_some _ (aE hb (Heap.get?_push_of_some _ eo))))
 obtain⟨e1,ho1⟩:∃e1,((h'.push (seqObj "list" acc.toArray 0)).update h'.objs.size (Obj.mapSeq fun _=>#[])).get? h'.objs.size=some (seqObj "list" #[] e1):=⟨_,get?_update_seq hoL (fun _=>#[])⟩;have ho2:=Heap.get?_push_of_some (seqObj "list" #[] 0) (Heap.get?_push_of_some (seqObj "tuple" acc.toArray 0) ho1);have ho3:=get?_update_seq ho2 (fun _=>out.toArray);have Lh:=I1.laid (h':=sortedHeap (h'.push (seqObj "list" acc.toArray 0)) h'.objs.size acc out.toArray) (a:=h'.objs.size) (o:=.lst (out.map AZ)) (t':=tk) kp' (Nat.le_refl _)
  (show ObjOk X.prog X.w _ _ _ (.lst (out.map AZ))from ⟨by rw[List.length_map,pm2.length_eq];exact hz,out,_,b2,ho3⟩)
 exact⟨.ref h'.objs.size,_,Lh,rfl,q _ b1 _ (I1.hok.fresh (Nat.le_refl _))⟩
variable{e:Expr}{p p2 pos pos2:Pos}{te:TE}{f:Dv->Option D}
def wM(X:Cx)(te:TE):TE:=fun σ H Q=>te σ H fun v H1=>∃(a:Addr) (vs:List V) (Z:Hp) (kss:List (List Int)),[v]=[V.ref a]/\Same Z H1/\(SqL X.K H1 a vs\/SqT X.K H1 a vs)/\KeyVs X.K Z vs (kss.map bd)/\kss.length<63/\(∀k∈kss,k≠[])/\∀vs',KeyVs X.K Z vs' (bT ((e9 kss).map bd))->∀b,H1 b=none->Q (.ref b) (upd H1 b (.lst vs'))
theorem sf(hu:X.A.units+64<cLine)(hc:X.calm=true)(hg:Gl X "sorted")(hm:X.mg "sorted" = none)(hg':Gl X "set")(hm':X.mg "set" = none)(ha:PE X e te)
  (he:starEach [.Call (.Name "set" p2) [e] [] pos2] X.env=(false,eval (.Call (.Name "set" p2) [e] [] pos2) X.env)::starEach [] X.env:=by rfl)
  (he2:starEach [e] X.env=(false,eval e X.env)::starEach [] X.env:=by rfl) (hpl:(backTo pos (starEach [] X.env)).any (·.1)=false:=by rfl) (hpl2:(backTo pos2 (starEach [] X.env)).any (·.1)=false:=by rfl) :
  PE X (.Call (.Name "sorted" p) [.Call (.Name "set" p2) [e] [] pos2] [] pos) (wM X te):=by
 intro pins s σ H Q I h;refine wpAny_Call_Name_kw (dy I hg hm (u:=.builtin "sorted") (by decide +kernel) ?_ (by decide) (by decide));refine PyProof.Rows.callWith_builtin1 ?_ he hpl;rw[he];show wpAny _ _ (spliced ((false,eval _ X.env)::backTo pos (starEach [] X.env))) _ _ s;refine Calls.spliced_cons ?_;refine wpAny_Call_Name_kw (dy I hg' hm' (u:=.type "set") (by decide +kernel) ?_ (by decide) (by decide));refine PyProof.Rows.callWith_type1 (aY (cP ha eK he2 pos2 pins s σ H (fun xs H1=>∃(a:Addr) (vs:List V) (Z:Hp) (kss:List (List Int)),xs=[V.ref a]/\Same Z H1/\(SqL X.K H1 a vs\/SqT X.K H1 a vs)/\KeyVs X.K Z vs (kss.map bd)/\kss.length<63/\(∀k∈kss,k≠[])/\∀vs',KeyVs X.K Z vs' (bT ((e9 kss).map bd))->∀b,H1 b=none->Q (.ref b) (upd H1 b (.lst vs'))) I (by exact h)) fun us s1 ⟨vs,H1,I1,r1,q1⟩=>?_) he2 hpl2
 obtain⟨a,xs,Z,kss,e1,zh,hsq,kv,h63,hne,q⟩:=q1;subst e1;obtain⟨u,rfl,rx⟩:=ii r1;cases rx;obtain⟨its,rv,hl⟩:∃its:List Value,Vals xs its/\(s1.heap.IsList a its.toArray\/s1.heap.IsTuple a its.toArray):=by
  rcases hsq with hsq|hsq
  ·obtain⟨its,r,⟨o,n,e1,e2,e3,e4⟩,z⟩:=I1.list hsq
   exact⟨its,r,.inl ⟨o,e1,e2,n,e4⟩⟩
  ·obtain⟨its,r,⟨o,e1,e2,n,e3⟩,z⟩:=I1.tuple hsq
   exact⟨its,r,.inr ⟨o,e1,e2,n,e3⟩⟩
 obtain⟨v2,v3⟩:=mw I1 zh kv rv;obtain⟨k1,k2⟩:=oY v2;rw[List.length_map]at k1;refine jD (kss:=kss) hu (I1.ok.hd hc) hl (by rw[List.size_toArray,k1]) (fun i v e=>?_) (by rw[List.size_toArray,<-k1];omega) fun h' tk hS kp=>?_
 ·have e:its[i]? = some v:=by simpa using e
  obtain⟨k,a1,a2⟩:=k2 i v e;rw[List.getElem?_map]at a1;obtain⟨ks,a3,rfl⟩:=Option.map_eq_some_iff.mp a1;obtain⟨b,_,rfl,_⟩:=v3 v (List.mem_of_getElem? e);exact⟨ks,b,a3,rfl,vh a2⟩
 ·refine Calls.spliced_nil ?_
  refine lD hc (I1.kept kp) zh hS (fun k hk=>?_) (fun b hb=>?_) fun vs' kv' b hb=>q vs' kv' b hb
  ·rcases lH kss [] k hk with z|z
   ·cases z
   ·exact hne k z
  ·obtain⟨b',k,z,hk⟩:=v3 _ (by simpa using hb.2)
   cases z;exact⟨k,hk⟩
theorem eM{K:Fg}{Z:Hp}:∀{vs:List V} {ds:List D} {kss:List (List Int)},Reps K Z vs ds->iS ds=some kss->KeyVs K Z vs (kss.map bd)
 |_,_,_,.nil,h=>by cases h;exact .nil
 |_,d::ds,_,.cons r rs,h=>by
  obtain⟨k,e1,h⟩:=bind_some h;obtain⟨k',e2,h⟩:=bind_some h;cases h;cases r with
  |tup sq r2=>
   have e:=fH r2 e1;subst e;refine .cons ?_ (eM rs e2);unfold bd;rw[List.map_map];exact sq
  |_=>cases e1
theorem tw(hu:X.A.units+64<cLine)(hg:Gl X "sorted")(hm:X.mg "sorted" = none)(hg':Gl X "set")(hm':X.mg "set" = none)(ha:EV X e f)(hc:X.calm=true:=by rfl)
  (he:starEach [.Call (.Name "set" p2) [e] [] pos2] X.env=(false,eval (.Call (.Name "set" p2) [e] [] pos2) X.env)::starEach [] X.env:=by rfl)
  (he2:starEach [e] X.env=(false,eval e X.env)::starEach [] X.env:=by rfl) (hpl:(backTo pos (starEach [] X.env)).any (·.1)=false:=by rfl) (hpl2:(backTo pos2 (starEach [] X.env)).any (·.1)=false:=by rfl) :
  EV X (.Call (.Name "sorted" p) [.Call (.Name "set" p2) [e] [] pos2] [] pos) (o1 f lB):=
 PE.imp (sf hu hc hg hm hg' hm' ha he he2 hpl hpl2) fun σ H Q h=>by
  obtain⟨H₀,Z₀,Z,δ,d,hh,e,k⟩:=h;obtain⟨d1,e1,e⟩:=bind_some e;refine⟨H₀,Z₀,Z,δ,d1,hh,e1,fun v Z1 H1 hh1 t1 r1=>?_⟩
  unfold lB at e;obtain⟨ds,e2,e⟩:=bind_some e;obtain⟨kss,e3,e⟩:=bind_some e;obtain⟨h63,e⟩:=cJ e;cases e;have key:∀vs',KeyVs X.K Z1 vs' (bT ((e9 kss).map bd))->∀b,H1 b=none->Q (.ref b) (upd H1 b (.lst vs')):=fun vs' kv b hb=>by
   have n:=New.add hh1.zh hb (.lst vs');exact k _ _ _ (hh1.new n) (t1.trans n.z) (.lst (SqL.of al) ((jZ kv).same n.z))
  cases r1 with
  |lst sq rs=>
   cases e2;exact⟨_,_,Z1,kss,rfl,hh1.zh,.inl (SqL.same sq hh1.zh),eM rs e3,h63.1,h63.2,key⟩
  |tup sq rs=>
   cases e2;exact⟨_,_,Z1,kss,rfl,hh1.zh,.inr (SqT.same sq hh1.zh),eM rs e3,h63.1,h63.2,key⟩
  |_=>cases e2
end
end VL
namespace MA
open PySem
noncomputable def Bl(j most:Int):Int:=if j=0 then most else if(Builtin.Int.intBits (Builtin.bitAnd j (-j)):Int)-1<most then(Builtin.Int.intBits (Builtin.bitAnd j (-j)):Int)-1 else most
theorem kR{a:Int}{m:Nat}(h:a.natAbs<2^m):Builtin.Int.intBits a<=m:=by
 unfold Builtin.Int.intBits;split
 ·exact Nat.zero_le _
 ·rename_i h0
  have h0:a≠0:=by simpa using h0
  have:a.natAbs.log2<m:=(Nat.log2_lt (by omega)).mpr h;omega
structure Q4 where
 a:Int
 b:Int
 c:Int
 d:Int
namespace Q4
noncomputable def add(x y:Q4):Q4:=⟨x.a+y.a,x.b+y.b,x.c+y.c,x.d+y.d⟩
noncomputable def rt(x:Q4):Q4:=⟨x.b-x.d,x.a+x.c,x.b+x.d,x.c-x.a⟩
noncomputable def tn(x:Q4):Q4:=⟨-x.d,x.a,x.b,x.c⟩
noncomputable def rtn:Nat->Q4->Q4
 | 0,x=>x
 |n+1,x=>rtn n (rt x)
end Q4
noncomputable def BQ(x:Q4)(k:Int):Q4×Int:=
 let t:=(Bl (Builtin.bitOr (Builtin.bitOr (Builtin.bitOr x.a x.b) x.c) x.d) (k/2)).toNat
 let y:Q4:=⟨x.a/2^t,x.b/2^t,x.c/2^t,x.d/2^t⟩
 if k-2*t=0\/(y.a-y.c)%2=1\/(y.b-y.d)%2=1 then(y,k-2*t)else(⟨(y.b-y.d)/2,(y.a+y.c)/2,(y.b+y.d)/2,(y.c-y.a)/2⟩,k-2*t-1)
noncomputable def v5(x:Q4)(c:Int)(y:Q4)(d:Int):Q4×Int:=BQ (Q4.add (Q4.rtn (max c d-c).toNat x) (Q4.rtn (max c d-d).toNat y)) (max c d)
noncomputable def CJ:Nat->Q4->Q4
 | 0,x=>x
 |n+1,x=>Q4.tn (CJ n x)
structure S2 where
 p:Int
 q:Int
namespace S2
end S2
abbrev Nu:=Q4×Nat
inductive Row where
 |swing (j:Nat)|turn (j:Nat) (e:Nat)|flip (j:Nat)|tie (i j:Nat)|sign (i j:Nat)|cross (i j:Nat)
noncomputable def v6(u v:Nu):Nu:=((v5 u.1 u.2 v.1 v.2).1,(v5 u.1 u.2 v.1 v.2).2.toNat)
noncomputable def wo(u:Nu):Nu:=((BQ u.1 ((u.2+1:Nat):Int)).1,(BQ u.1 ((u.2+1:Nat):Int)).2.toNat)
noncomputable def rn(e:Nat)(u:Nu):Nu:=(CJ (e%8) u.1,u.2)
noncomputable def wt(n j:Nat):Nat:=2^(n-1-j)
noncomputable def vL(w p:Nat):Nat:=p/w%2
noncomputable def Ax(w p:Nat):Nat:=if vL w p=0 then p+w else p-w
noncomputable def wu(n:Nat):Row->Nat->Nat
 |.flip j,p=>Ax (wt n j) p
 |.tie i j,p=>if vL (wt n i) p=0 then p else Ax (wt n j) p
 |.cross i j,p=>if vL (wt n i) p=vL (wt n j) p then p else Ax (wt n j) (Ax (wt n i) p)
 |_,p=>p
noncomputable def ym(n:Nat)(f:Nat->Nu):Row->Nat->Nu
 |.swing j,p=>if vL (wt n j) p=0 then wo (v6 (f p) (f (p+wt n j)))else wo (v6 (f (p-wt n j)) (rn 4 (f p)))
 |.turn j e,p=>rn (e*vL (wt n j) p) (f p)
 |.sign i j,p=>rn (4*vL (wt n i) p*vL (wt n j) p) (f p)
 |r,p=>f (wu n r p)
theorem AN(a b:Nat):Builtin.bitAnd (a:Int) (b:Int)=((a &&& b:Nat):Int):=by
 unfold Builtin.bitAnd;simp
theorem pQ{x y z:Nat}(h:x/2=y/2+z/2)(m:x%2=y%2+z%2):x=y+z:=by omega
theorem qw{u v w:Nat}{p q:Prop}(hu:u<2)(hv:v<2)(hw:w<2)(m1:u=1↔p\/q)(m2:v=1 ↔ ¬(p↔q))(m3:w=1↔p/\q):u=v+w:=by
 have z:∀{x:Nat},x<2->¬x=1->x=0:=fun h k=>by omega
 by_cases a:p<;>by_cases b:q
 ·rw[m1.mpr (.inl a),m3.mpr ⟨a,b⟩,z hv fun e=>m2.mp e ⟨fun _=>b,fun _=>a⟩]
 ·rw[m1.mpr (.inl a),m2.mpr fun e=>b (e.mp a),z hw fun e=>b (m3.mp e).2]
 ·rw[m1.mpr (.inr b),m2.mpr fun e=>a (e.mpr b),z hw fun e=>a (m3.mp e).1]
 ·rw[z hu fun e=>(m1.mp e).elim a b,z hv fun e=>m2.mp e ⟨fun c=>absurd c a,fun c=>absurd c b⟩,z hw fun e=>a (m3.mp e).1]
theorem jj:∀(k a b:Nat),a<2^k->b<2^k->(a ||| b)=(a ^^^ b)+(a &&& b)
 | 0,a,b,ha,hb=>by
  have:a=0:=by simpa using ha
  have:b=0:=by simpa using hb
  subst a;subst b;rfl
 |k+1,a,b,ha,hb=>by
  have ih:=jj k (a/2) (b/2) (by rw[Nat.pow_succ]at ha;omega) (by rw[Nat.pow_succ]at hb;omega);have h1:=@Nat.or_div_two a b;have h2:=@Nat.xor_div_two a b;have h3:=@Nat.and_div_two a b;have m1:=@Nat.or_mod_two_eq_one a b;have m2:=@Nat.xor_mod_two_eq_one a b;have m3:=@Nat.and_mod_two_eq_one a b;rw[<-h1,<-h2,<-h3]at ih;exact pQ ih (qw (Nat.mod_lt _ (by decide)) (Nat.mod_lt _ (by decide)) (Nat.mod_lt _ (by decide)) m1 m2 m3)
theorem CZ(a b:Nat):Builtin.bitOr (a:Int) (b:Int)=((a ||| b:Nat):Int):=by
 have h1:¬(0:Int)<=Builtin.bitNot (a:Int):=by unfold Builtin.bitNot;omega
 have h2:¬(0:Int)<=Builtin.bitNot (b:Int):=by unfold Builtin.bitNot;omega
 have e1:(Builtin.bitNot (Builtin.bitNot (a:Int))).toNat=a:=by unfold Builtin.bitNot;omega
 have e2:(Builtin.bitNot (Builtin.bitNot (b:Int))).toNat=b:=by unfold Builtin.bitNot;omega
 unfold Builtin.bitOr Builtin.bitAnd;rw[decide_eq_false h1,decide_eq_false h2];dsimp only;rw[e1,e2];unfold Builtin.bitNot;omega
theorem Cq(a b:Nat):Builtin.bitXor (a:Int) (b:Int)=((a ^^^ b:Nat):Int):=by
 unfold Builtin.bitXor;rw[CZ,AN];have h:∀n:Nat,n<2^n:=fun n=>Nat.lt_two_pow_self
 have:=jj (max a b) a b (Nat.lt_of_lt_of_le (h a) (Nat.pow_le_pow_right (by decide) (by omega))) (Nat.lt_of_lt_of_le (h b) (Nat.pow_le_pow_right (by decide) (by omega)));omega
noncomputable def CY(n:Nat):Nat:=if n=0 then 0 else n%2+CY (n/2)
termination_by n
decreasing_by omega
noncomputable def par(n:Nat):Nat:=CY n%2
structure Wd where
 x:Nat
 z:Nat
 s:Nat
noncomputable def wE(u v:Wd):Wd:=⟨u.x ^^^ v.x,u.z ^^^ v.z,(u.s+v.s+2*par (u.z &&& v.x))%4⟩
def Sh(k:Nat)(d:PyData):Prop:=d.canLay0=true/\d.depth<=k
theorem Sh.int(k:Nat)(i:Int):Sh k (.int i):=⟨by simp[PyData.canLay0],by simp[PyData.depth]⟩
theorem Sh.all{k:Nat}:∀(xs:List PyData),(∀x∈xs,Sh k x)->PyData.canLayAll0 xs=true/\PyData.depthAll xs<=k
 |[],_=>⟨by simp[PyData.canLayAll0],by simp[PyData.depthAll]⟩
 |x::xs,h=>by
  obtain⟨a,b⟩:=Sh.all xs fun y hy=>h y (List.mem_cons_of_mem _ hy)
  obtain⟨c,d⟩:=h x List.mem_cons_self;refine⟨by simp[PyData.canLayAll0,a,c],?_⟩;simp only[PyData.depthAll];omega
theorem Sh.tuple{k:Nat}{xs:List PyData}(h:∀x∈xs,Sh k x):Sh (k+1) (.tuple xs):=by
 obtain⟨a,b⟩:=Sh.all xs h;exact⟨by simp[PyData.canLay0,a],by simp only[PyData.depth];omega⟩
theorem Sh.list{k:Nat}{xs:List PyData}(h:∀x∈xs,Sh k x):Sh (k+1) (.list xs):=by
 obtain⟨a,b⟩:=Sh.all xs h;exact⟨by simp[PyData.canLay0,a],by simp only[PyData.depth];omega⟩
mutual
theorem ja:∀d:PyData,d.canLay0=true->PyData.eqv d d=true
 |.none,_=>by simp[PyData.eqv]
 |.bool _,_=>by simp[PyData.eqv]
 |.int _,_=>by simp[PyData.eqv]
 |.str _,_=>by simp[PyData.eqv]
 |.list xs,h=>by
  simp only[PyData.eqv];exact eqvAll_self xs (by simpa[PyData.canLay0]using h)
 |.tuple xs,h=>by
  simp only[PyData.eqv];exact eqvAll_self xs (by simpa[PyData.canLay0]using h)
 |.dict _,h=>by simp[PyData.canLay0]at h
theorem eqvAll_self:∀xs:List PyData,PyData.canLayAll0 xs=true->PyData.eqvAll xs xs=true
 |[],_=>by simp[PyData.eqvAll]
 |x::xs,h=>by
  have h':x.canLay0=true/\PyData.canLayAll0 xs=true:=by simpa[PyData.canLayAll0]using h
  simp only[PyData.eqvAll,ja x h'.1,eqvAll_self xs h'.2,Bool.and_self]
end
end MA
namespace GN
open PySem L2 VL
noncomputable def pS(i:Nat):Stmt:=PySem.Challenge.pw_wavewires_k53_form_of_turns.main.body.getD i (.Pass ⟨0,0,0,0⟩)
abbrev oJ:Stmt:=pS 1
abbrev wC:List Str:=["bitset","bit"]
noncomputable def tP:Sf:=cF (o2 (o2 (o2 (oV 0) (oV 1) gS) (oC (.int 1)) AO) (oC (.int 1)) n4)
noncomputable def eE:List D->Option D:=b5 wC 2 tP
abbrev dR:Stmt:=pS 3
abbrev jm:List Str:=["turns","bit"]
noncomputable def fZ:Dv->Option D:=cp (oI (oV 0) bI) [(1,"bit")] rf (ob (os (af (o2 (oV 0) (oC (.int 0)) dJ) (af (oV 1) (aw))) eE)) (oV 0)
noncomputable def ji:Sf:=cF (fZ)
noncomputable def bC:List D->Option D:=b5 jm 2 ji
abbrev bi:Stmt:=pS 4
abbrev cL:List Str:=["turns"]
noncomputable def cn:Dv->Option D:=iA (oI (oV 0) bI) [] rf (o2 (oV 0) (oC (.int 1)) dJ)
noncomputable def cK:Sf:=cF (os (af (cn) (aw)) uo)
noncomputable def az:List D->Option D:=b5 cL 1 cK
abbrev cx:Stmt:=pS 5
abbrev fR:List Str:=["turns","told","pair"]
noncomputable def ba:Sf:=eA (ob (o2 (o2 (o2 (oV 2) (oC (.int 1)) dJ) (oC (.int 2)) cq) (oC (.int 1)) n4)) (cj 1 (o2 (oV 1) (o2 (oV 2) (oC (.int 0)) dJ) yT)) (mX)
noncomputable def dD:Sf:=aB (cj 1 (oC (.int 0))) (aB (er (oI (oV 0) bI) (gN 2) (ba)) (cF (oV 1)))
noncomputable def aV:List D->Option D:=b5 fR 1 dD
abbrev bJ:Stmt:=pS 6
abbrev cT:List Str:=["bit","turns","bits","form","k","both","held"]
noncomputable def dt:Dv->Option D:=cp (oI (zL (oV 2) (oP (o2 (oV 4) (oC (.int 1)) cM)) (BP)) bI) [(0,"bit"),(2,"bits"),(4,"k"),(6,"held")] rf (ob (os (af (oV 4) (af (oV 0) (aw))) eE)) (os (af (os (af (oV 1) (af (o2 (oV 2) (oV 3) dJ) (af (oV 0) (aw)))) eJ) (af (oC (.int 4)) (aw))) eJ)
noncomputable def bO:Dv->Option D:=cp (oI (oV 3) bI) [] rf (ob (o2 (o2 (oV 0) (oC (.int 1)) dJ) (oC (.int 0)) neD)) (oV 0)
noncomputable def bR:Sf:=aB (cj 5 (os (af (oV 1) (af (o2 (oV 2) (oV 4) dJ) (aw))) bC)) (aB (wW 3 (os (af (os (af (oV 0) (af (o2 (oV 2) (oV 4) dJ) (aw))) eJ) (af (o2 (o2 (o1 (oC (.int 2)) negD) (os (af (oV 5) (aw)) az) jv) (oC (.int 8)) cq) (aw))) eJ)) (aB (cj 6 (os (af (oV 5) (aw)) aV)) (rP 3 (dt))))
noncomputable def d4:Sf:=aB (rO 3 (af (os (af (os (af (oV 0) (aw)) eJ) (af (o2 (os (af (oV 1) (aw)) az) (oC (.int 8)) cq) (aw))) eJ) (aw))) (aB (er (oL (af (os (af (oV 2) (aw)) de) (aw)) bj) (gN 4) (bR)) (fun δ=>(cF (bO)) (vF 3 δ)))
noncomputable def bo:List D->Option D:=b5 cT 3 d4
abbrev cZ:Stmt:=pS 7
abbrev gD:List Str:=["turns","held","pair","bits","form","k"]
noncomputable def du:Dv->Option D:=cp (oL (af (o1 (oV 1) mU) (aw)) bj) [(1,"held")] rf (ob (os (af (oV 1) (af (oV 0) (aw))) eE)) (oV 0)
noncomputable def dz:Sf:=cj 1 (o2 (oV 1) (o2 (oV 2) (oC (.int 0)) dJ) CP)
noncomputable def cH:Sf:=rP 4 (os (af (o2 (oV 3) (oV 5) dJ) (af (os (af (oV 0) (af (o2 (oV 3) (oV 5) dJ) (aw))) bC) (af (zL (oV 3) (oP (o2 (oV 5) (oC (.int 1)) cM)) (BP)) (aw)))) bo)
noncomputable def gB:Sf:=aB (cj 1 (oC (.int 0))) (aB (er (oI (oV 0) bI) (gN 2) (dz)) (aB (cj 3 (du)) (aB (rO 4 (aw)) (aB (er (oL (af (os (af (oV 3) (aw)) de) (aw)) bj) (gN 5) (cH)) (fun δ=>(cF (os (af (oV 4) (aw)) fU)) (vF 4 δ))))))
noncomputable def bL:List D->Option D:=b5 gD 1 gB
abbrev cy:Stmt:=pS 9
abbrev fS:List Str:=["found"]
noncomputable def dE:Sf:=cF (wc (o1 (oV 0) (dY "int")) (o1 (o1 (oV 0) (dY "bool")) u5))
noncomputable def aW:List D->Option D:=b5 fS 1 dE
abbrev bN:Stmt:=pS 10
abbrev dH:List Str:=["cells","bits","counts","cell","bitset","k"]
noncomputable def ce:Dv->Option D:=cp (oI (o1 (oV 2) nj) bI) [(2,"counts")] rf (zN (ob (o2 (oV 0) (oC (.int 0)) wq)) (ob (o2 (o2 (oV 1) (oV 0) pb) (oC (.int 0)) wq))) (os (af (oV 0) (af (o2 (oV 1) (oV 0) pb) (aw))) eJ)
noncomputable def aR:Sf:=eA (ob (o2 (o2 (o2 (oV 3) (oV 5) gS) (oC (.int 2)) cq) (oC (.int 1)) n4)) (cj 4 (o2 (oV 4) (o2 (oC (.int 1)) (o2 (oV 1) (oV 5) dJ) pW) cM)) (mX)
noncomputable def bB:Sf:=aB (cj 4 (oC (.int 0))) (aB (er (oL (af (oC (.int 5)) (aw)) bj) (gN 5) (aR)) (ny 2 (oV 4) (o2 (o2 (nE 2 (oV 4) (oC (.int 0))) (o2 (oV 3) (oC (.int 32)) n6) cM) (oC (.int 8)) cq)))
noncomputable def dF:Sf:=aB (rQ 2) (aB (er (oI (oV 0) bI) (gN 3) (bB)) (fun δ=>(cF (os (af (ce) (aw)) fU)) (qU 2 δ)))
noncomputable def aG:List D->Option D:=b5 dH 2 dF
abbrev cN:Stmt:=pS 11
abbrev gQ:List Str:=["turns","setting","rest","bitset","e","many","bit"]
noncomputable def aN:Sf:=cj 5 (o2 (oV 5) (o2 (o2 (oV 3) (oV 6) gS) (oC (.int 2)) cq) cM)
noncomputable def bQ:Sf:=aB (cj 5 (oC (.int 0))) (aB (er (oI (oV 1) bI) (gN 6) (aN)) (cj 2 (o2 (oV 2) (o2 (oV 4) (o2 (oV 5) (oC (.int 2)) cq) jv) cM)))
noncomputable def d5:Sf:=aB (cj 2 (oC (.int 0))) (aB (er (oI (oV 0) bI) (yc [gN 3,gN 4]) (bQ)) (cF (o2 (oV 2) (oC (.int 8)) cq)))
noncomputable def bp:List D->Option D:=b5 gQ 2 d5
abbrev aT:Stmt:=pS 12
abbrev ca:List Str:=["form","setting","rest","part","e"]
noncomputable def bP:Dv->Option D:=cp (oI (oV 3) bI) [(1,"setting")] rf (ob (o2 (oV 0) (oV 1) (Ba false))) (oV 0)
noncomputable def aF:Sf:=eA (ob (o2 (os (af (bP) (aw)) de) (os (af (oV 3) (aw)) de) n4)) (cj 2 (o2 (oV 2) (oV 4) cM)) (mX)
noncomputable def b9:Sf:=aB (cj 2 (oC (.int 0))) (aB (er (oI (oV 0) bI) (yc [gN 3,gN 4]) (aF)) (cF (o2 (oV 2) (oC (.int 8)) cq)))
noncomputable def aC:List D->Option D:=b5 ca 2 b9
abbrev cO:Stmt:=pS 13
abbrev gR:List Str:=["pair","bit"]
noncomputable def bS:Sf:=eA (iz (ob (os (af (oV 1) (aw)) aW))) (cF (oC (.bool false))) (mX)
noncomputable def d6:Sf:=aB (eA (xD (iz (ob (o1 (oV 0) (dY "tuple")))) (xD (ob (o2 (os (af (oV 0) (aw)) de) (oC (.int 2)) neD)) (xD (iz (ob (os (af (o2 (oV 0) (oC (.int 1)) dJ) (aw)) aW))) (xD (ob (o2 (o2 (oV 0) (oC (.int 1)) dJ) (oC (.int 1)) BY)) (ob (o2 (o2 (oV 0) (oC (.int 1)) dJ) (oC (.int 7)) wq)))))) (cF (oC (.bool false))) (mX)) (aB (eA (xD (iz (ob (o1 (o2 (oV 0) (oC (.int 0)) dJ) (dY "tuple")))) (xD (ob (o2 (os (af (o2 (oV 0) (oC (.int 0)) dJ) (aw)) de) (oC (.int 1)) BY)) (ob (o2 (os (af (o2 (oV 0) (oC (.int 0)) dJ) (aw)) de) (oC (.int 3)) wq)))) (cF (oC (.bool false))) (mX)) (aB (er (oI (o2 (oV 0) (oC (.int 0)) dJ) bI) (gN 1) (bS)) (cF (o2 (os (af (o2 (oV 0) (oC (.int 0)) dJ) (aw)) jY) (o1 (o2 (oV 0) (oC (.int 0)) dJ) lC) n4))))
noncomputable def bq:List D->Option D:=b5 gR 1 d6
abbrev br:Stmt:=pS 14
abbrev bW:List Str:=["turns","bits","form","pair","parts","way","setting"]
noncomputable def cf:Dv->Option D:=iA (oI (oV 2) bI) [] rf (o2 (oV 0) (oC (.int 0)) dJ)
noncomputable def cc:Dv->Option D:=cp (oL (af (oC (.int 5)) (aw)) bj) [(1,"bits"),(5,"way")] rf (ob (o2 (o2 (o2 (oV 2) (oV 0) gS) (oC (.int 2)) cq) (oC (.int 1)) n4)) (o2 (oV 1) (oV 0) dJ)
noncomputable def bb:Sf:=eA (iz (ob (os (af (oV 3) (aw)) bq))) (cF (oC (.bool false))) (mX)
noncomputable def aZ:Sf:=aB (cj 6 (cc)) (eA (ob (o2 (os (af (oV 0) (af (oV 6) (aw))) bp) (os (af (oV 2) (af (oV 6) (aw))) aC) neD)) (cF (oC (.bool false))) (mX))
noncomputable def dG:Sf:=aB (cj 2 (os (af (oV 0) (aw)) bL)) (aB (eA (iz (ob (o1 (oV 2) (dY "tuple")))) (cF (oC (.bool false))) (mX)) (aB (er (oI (oV 2) bI) (gN 3) (bb)) (aB (cj 4 (cf)) (aB (eA (ob (o2 (oV 4) (o1 (oV 4) lB) neD)) (cF (oC (.bool false))) (mX)) (aB (er (oL (af (oC (.int 32)) (aw)) bj) (gN 5) (aZ)) (cF (oC (.bool true))))))))
noncomputable def aO:List D->Option D:=b5 bW 2 dG
abbrev fm:Stmt:=pS 15
abbrev wB:List Str:=["script","first","bits","k"]
noncomputable def f7:Sf:=wW 2 (o2 (o2 (zM 2 (oV 3)) (oC (.int 1)) cM) (o2 (o2 (oV 1) (o2 (oC (.int 40)) (o2 (oC (.int 7)) (oV 3) jv) cM) n6) (oC (.int 30)) cq) cM)
noncomputable def eL:Sf:=eA (lU 2 (iz (ob (os (af (os (af (zL (oV 0) (oP (oV 3)) (oP (o2 (oV 3) (oC (.int 12)) cM))) (af (oV 2) (aw))) aG) (af (oV 2) (aw))) aO)))) (cF (oC (.bool false))) (mX)
noncomputable def tO:Sf:=aB (cj 1 (oC (.int 0))) (aB (eA (ob (o2 (os (af (oV 0) (aw)) de) (oC (.int 0)) wq)) (cj 1 (o2 (oV 0) (oC (.int 0)) dJ)) (mX)) (aB (rO 2 (af (o2 (oC (.int 1)) (o2 (oV 1) (oC (.int 40)) cq) cM) (aw))) (aB (er (oL (af (oC (.int 4)) (aw)) bj) (gN 3) (f7)) (aB (er (oL (af (oC (.int 0)) (af (o2 (os (af (oV 0) (aw)) de) (oC (.int 1)) cM) (af (oC (.int 12)) (aw)))) ir) (gN 3) (eL)) (cF (oC (.bool true)))))))
noncomputable def pf:List D->Option D:=b5 wB 1 tO
open MA (Nu Row wt vL Ax wu ym Wd par wE)
theorem db{s t:Sf}{δ δ':Dv}(h:s δ = some (.nx,δ')):aB s t δ = t δ':=by simp only[aB,h,Option.bind_some]
theorem uZ{N:List Str}{n:Nat}{b:Sf}{as:List D}{d:D}{δ':Dv}(hl:as.length=n)(h:b (aL N as)=some (.rt d,δ')):b5 N n b as=some d:=by unfold b5;rw[if_pos hl,h];rfl
theorem zo{t:Dv->Option Bool}{u w:Sf}{δ:Dv}(h:t δ = some false):eA t u w δ = w δ:=by unfold eA;rw[h];rfl
theorem Cr(a:Nat):Builtin.bitAnd (a:Int) 1=((a%2:Nat):Int):=by
 have:=MA.AN a 1;rw[show((1:Nat):Int)=1 from rfl]at this;rw[this,Nat.and_one_is_mod]
theorem kq(a h:Nat):gS (.int (a:Int)) (.int (h:Int))=some (.int ((a/2^h:Nat):Int)):=by
 rw[lF (by omega),Int.toNat_natCast];congr 2
theorem uv{a:Nat}(k:Nat)(ha:a<2^100000)(hk:k<=100000):pW (.int (a:Int)) (.int (k:Int))=some (.int ((a*2^k:Nat):Int)):=by
 have hb:(a:Int).natAbs<2^100000:=by rw[Int.natAbs_natCast];exact ha
 have:=MA.kR hb;rw[rK (by omega) (by omega),Int.toNat_natCast];congr 2
theorem pV{a:Nat}(h:a<2^64):a<2^100000:=Nat.lt_of_lt_of_le h (Nat.pow_le_pow_right (by decide) (by decide))
noncomputable def ab(hs:List Nat):List D:=hs.map fun h=>.int ((h:Nat):Int)
theorem bt(hs:List Nat):(ab hs).length=hs.length:=by simp[ab]
theorem iD(hs:List Nat){k:Nat}(h:k<hs.length):jn (ab hs) (k:Int)=some (.int (hs.getD k 0:Nat)):=by
 refine oo rfl ?_;unfold ab;rw[List.getElem?_map,List.getD_eq_getElem?_getD,List.getElem?_eq_getElem h];rfl
theorem qb{n:Nat}(hn:n<=16777216):bj [.int (n:Int)]=some ((List.range n).map fun k:Nat=>PyData.int (0+(k:Int))):=qe (j:=(n:Int)) (by omega) (by omega)
theorem gJ{fs:Dv->Option (List D)}{g:List D->Option (List D)}{δ:Dv}{ds r:List D}(h:fs δ = some ds)(h2:g ds=some r):oL fs g δ = some r:=by unfold oL;rw[h];exact h2
theorem xR{n q:Nat}(h:q<n):tY n (q:Int)=some q:=by
 unfold tY;rw[if_pos (by omega),if_pos (by omega)];simp
theorem va(a:Nat){k:Nat}(hk:0<k):cq (.int (a:Int)) (.int (k:Int))=some (.int ((a%k:Nat):Int)):=by
 rw[sC (by omega)];congr 2
theorem fB(a:Nat):cq (.int (a:Int)) (.int 2)=some (.int ((a%2:Nat):Int)):=va a (k:=2) (by decide)
theorem r6{k:Nat}(hk:k<=100000):pW (.int 1) (.int (k:Int))=some (.int ((2^k:Nat):Int)):=by
 have:=uv (a:=1) k (pV (by decide)) hk;rw[Nat.one_mul]at this;exact this
theorem qu(a b:List Nat):ab (a++b)=ab a++ab b:=by simp[ab]
@[simp] theorem Bb(u w:Sf)(δ:Dv)(a b:Int):Bc u w δ (a==b)=if a=b then u δ else w δ:=by
 by_cases h:a=b
 ·subst h;simp
 ·have:(a==b)=false:=by simpa using h
  rw[this,if_neg h];rfl
theorem mf{α:Type}{f:D->Option D}{h k:α -> D}:∀(xs:List α),(∀x∈xs,f (h x)=some (k x))->qx f (xs.map h)=some (xs.map k)
 |[],_=>rfl
 |x::xs,H=>by
  show((f (h x)).bind fun y=>_)=_
  rw[H x List.mem_cons_self];show((qx f (xs.map h)).bind fun ys=>_)=_
  rw[mf xs fun y hy=>H y (List.mem_cons_of_mem _ hy)]
  rfl
theorem mK{α:Type}{t:D->Option Bool}{f:D->Option D}{h k:α -> D}{b:α -> Bool}:∀(xs:List α),(∀x∈xs,t (h x)=some (b x))->(∀x∈xs,b x=true->f (h x)=some (k x))->dA t f (xs.map h)=some ((xs.filter b).map k)
 |[],_,_=>rfl
 |x::xs,H,G=>by
  have ih:=mK (k:=k) xs (fun y hy=>H y (List.mem_cons_of_mem _ hy)) (fun y hy=>G y (List.mem_cons_of_mem _ hy))
  show((t (h x)).bind fun c=>_)=_
  rw[H x List.mem_cons_self,Option.bind_some];cases e:b x with
  |false=>simp[e,ih]
  |true=>simp[e,ih,G x List.mem_cons_self e]
theorem mO{α:Type}{fi:Dv->Option (List D)}{caps:List (Nat×Str)}{fe:Dv->Option D}{δ:Dv}{h k:α -> D}{xs:List α}(e:fi δ = some (xs.map h))(hl:xs.length<=16777216)(H:∀x∈xs,fe (.fz (h x)::bf δ caps)=some (k x)):iA fi caps rf fe δ = some (.list (xs.map k)):=by
 unfold iA;rw[e,Option.bind_some,if_pos (by rw[List.length_map];exact hl),mf xs (k:=k) fun x hx=>by
  show fe _=_;exact H x hx]
 rfl
theorem b8{α:Type}{fi:Dv->Option (List D)}{caps:List (Nat×Str)}{ft:Dv->Option Bool}{fe:Dv->Option D}{δ:Dv}{h k:α -> D}{b:α -> Bool}{xs:List α}(e:fi δ = some (xs.map h))(hl:xs.length<=16777216)(H:∀x∈xs,ft (.fz (h x)::bf δ caps)=some (b x))(G:∀x∈xs,b x=true->fe (.fz (h x)::bf δ caps)=some (k x)):cp fi caps rf ft fe δ = some (.list ((xs.filter b).map k)):=by
 unfold cp;rw[e,Option.bind_some,if_pos (by rw[List.length_map];exact hl),mK xs (b:=b) (k:=k) (fun x hx=>by
  show ft _=_;exact H x hx) (fun x hx hb=>by
  show fe _=_;exact G x hx hb)]
 rfl
abbrev As:=List (Nat×Nat)
noncomputable def vl(A:As)(k:Nat):Nat:=((A.find? fun p=>decide (p.1=k)).map (·.2)).getD 0
noncomputable def uD(A:As)(k v:Nat):As:=if(A.any fun p=>decide (p.1=k))=true then A.map (fun p=>if p.1=k then(p.1,v)else p)else A++[(k,v)]
noncomputable def gZ(A:As):List (ak×D):=A.map fun p=>(.inl (p.1:Int),.int (p.2:Int))
noncomputable def aH(A:As):List Nat:=A.map (·.1)
theorem gi(a b:Nat):((Sum.inl (a:Int):ak)=.inl (b:Int))↔a=b:=by
 constructor
 ·intro h;exact Int.ofNat.inj (Sum.inl.inj h)
 ·intro h;rw[h]
theorem pc(A:As)(k:Nat):gk (gZ A) (.inl (k:Int))=(A.find? fun p=>decide (p.1=k)).map fun p=>.int (p.2:Int):=by
 induction A with
 |nil=>rfl
 |cons p A ih=>
  unfold gk gZ at *;rw[List.map_cons,List.find?_cons,List.find?_cons];by_cases h:p.1=k
  ·have:((Sum.inl (p.1:Int):ak)=.inl (k:Int)):=(gi _ _).mpr h
   simp[h]
  ·have:¬((Sum.inl (p.1:Int):ak)=.inl (k:Int)):=fun z=>h ((gi _ _).mp z)
   simp only[this,h,decide_false];exact ih
theorem yb(A:As)(k:Nat):(gk (gZ A) (.inl (k:Int))).getD (.int 0)=.int (vl A k:Int):=by
 rw[pc];unfold vl;cases A.find? fun p=>decide (p.1=k)with
 |none=>rfl
 |some p=>rfl
theorem yv(A:As)(k:Nat):((gZ A).any fun p=>decide (p.1=.inl (k:Int)))=A.any fun p=>decide (p.1=k):=by
 unfold gZ;rw[List.any_map];congr 1;funext p;simp only[Function.comp,decide_eq_decide];exact gi _ _
theorem uB(A:As)(k v:Nat):qi (gZ A) (.inl (k:Int)) (.int (v:Int))=gZ (uD A k v):=by
 unfold qi uD;rw[yv];split
 ·unfold gZ
  rw[List.map_map,List.map_map];apply List.map_congr_left;intro p _;show(if(Sum.inl (p.1:Int):ak)=.inl (k:Int)then _ else _)=_;by_cases h:p.1=k
  ·rw[if_pos ((gi _ _).mpr h)]
   simp[h]
  ·rw[if_neg (fun z=>h ((gi _ _).mp z))]
   simp[h]
 ·unfold gZ
  rw[List.map_append];rfl
theorem h8(A:As)(k:Nat):(A.any fun p=>decide (p.1=k))=true↔k∈aH A:=by
 simp[aH,List.any_eq_true]
theorem eU(p:Nat×Nat)(A:As)(k:Nat):vl (p::A) k=if p.1=k then p.2 else vl A k:=by
 unfold vl;rw[List.find?_cons];by_cases h:p.1=k<;>simp[h]
theorem wH(A:As)(k v j:Nat)(h:k ∉ aH A):vl (A++[(k,v)]) j=if j=k then v else vl A j:=by
 induction A with
 |nil=>
  rw[List.nil_append,eU];by_cases e:k=j
  ·rw[if_pos e,if_pos e.symm]
  ·rw[if_neg e,if_neg (Ne.symm e)]
 |cons p A ih=>
  have h1:k≠p.1:=fun z=>h (by rw[z];exact List.mem_cons_self)
  have h2:k ∉ aH A:=fun z=>h (List.mem_cons_of_mem _ z)
  rw[List.cons_append,eU,eU,ih h2];by_cases e:p.1=j
  ·rw[if_pos e,if_pos e,if_neg (fun z=>h1 (by rw[e];exact z.symm))]
  ·rw[if_neg e,if_neg e]
theorem wG(A:As)(k v j:Nat)(h:k∈aH A):vl (A.map fun p=>if p.1=k then(p.1,v)else p) j=if j=k then v else vl A j:=by
 induction A with
 |nil=>cases h
 |cons p A ih=>
  rw[List.map_cons,eU,eU];by_cases hp:p.1=k
  ·rw[if_pos hp]
   show(if p.1=j then v else _)=_;by_cases e:p.1=j
   ·rw[if_pos e,if_pos (by rw[<-e];exact hp)]
   ·rw[if_neg e,if_neg e]
    by_cases hk:k∈aH A
    ·exact ih hk
    ·rw[if_neg (fun z=>e (by rw[hp];exact z.symm))]
     congr 1;have:∀B:As,k ∉ aH B->(B.map fun p=>if p.1=k then(p.1,v)else p)=B:=fun B=>by
      induction B with
      |nil=>intro _;rfl
      |cons q B ihB=>
       intro hB;rw[List.map_cons,ihB (fun z=>hB (List.mem_cons_of_mem _ z)),if_neg (fun z=>hB (by rw[<-z];exact List.mem_cons_self))]
     exact this A hk
  ·rw[if_neg hp]
   have hk:k∈aH A:=by
    rcases List.mem_cons.mp h with z|z
    ·exact absurd z.symm hp
    ·exact z
   rw[ih hk];by_cases e:p.1=j
   ·rw[if_pos e,if_pos e,if_neg (fun z=>hp (by rw[e];exact z))]
   ·rw[if_neg e,if_neg e]
theorem wF(A:As)(k v j:Nat):vl (uD A k v) j=if j=k then v else vl A j:=by
 unfold uD;by_cases h:(A.any fun p=>decide (p.1=k))=true
 ·rw[if_pos h];exact wG A k v j ((h8 A k).mp h)
 ·rw[if_neg h];exact wH A k v j fun z=>h ((h8 A k).mpr z)
theorem mn(A:As)(k v:Nat):aH (uD A k v)=if k∈aH A then aH A else aH A++[k]:=by
 unfold uD;by_cases h:k∈aH A
 ·rw[if_pos ((h8 A k).mpr h),if_pos h]
  unfold aH;rw[List.map_map];apply List.map_congr_left;intro p _;simp only[Function.comp];split<;>rfl
 ·rw[if_neg (fun z=>h ((h8 A k).mp z)),if_neg h]
  unfold aH;rw[List.map_append];rfl
theorem xF{A:As}(h:(aH A).Nodup)(k v:Nat):(aH (uD A k v)).Nodup:=by
 rw[mn];split
 ·exact h
 ·rename_i hk
  rw[List.nodup_append];exact⟨h,by simp,fun a ha b hb=>by simp at hb;subst hb;exact fun z=>hk (by rw[<-z];exact ha)⟩
noncomputable def cI(k:Nat):Int:=(k:Int)
noncomputable def pD(p:Nat×Nat):D:=.tuple [.int (p.1:Int),.int (p.2:Int)]
theorem mo:∀A:As,mr (gZ A)=some ((aH A).map cI)
 |[]=>rfl
 |p::A=>by
  show(mr (gZ A)).bind _=_;rw[mo A];rfl
theorem ut(ks:List Nat)(nd:ks.Nodup):∃rs:List Nat,aU (ks.map cI)=rs.map (cI)/\rs.Perm ks/\rs.Pairwise (· < ·):=by
 have pm:=ck (ks.map cI);have pw:=gb (ks.map cI);obtain⟨l,hl⟩:∃l,aU (ks.map cI)=l:=⟨_,rfl⟩;rw[hl]at pm pw ⊢;have e:l=(l.map Int.toNat).map cI:=by
  rw[List.map_map];have:∀x∈l,((cI) ∘ Int.toNat) x=x:=fun x hx=>by
   obtain⟨k,_,rfl⟩:=List.mem_map.mp (pm.mem_iff.mp hx);simp[cI]
  rw[List.map_congr_left this,List.map_id']
 have p2:(l.map Int.toNat).Perm ks:=by
  have:=pm.map Int.toNat;rw[List.map_map]at this;have e2:ks.map (Int.toNat ∘ cI)=ks:=by
   have:∀x∈ks,(Int.toNat ∘ cI) x=x:=fun x _=>by simp[cI]
   rw[List.map_congr_left this,List.map_id']
  rw[e2]at this;exact this
 refine⟨l.map Int.toNat,e,p2,?_⟩;have nd2:(l.map Int.toNat).Nodup:=p2.nodup_iff.mpr nd;rw[e,List.pairwise_map]at pw;rw[List.nodup_iff_pairwise_ne]at nd2;exact(pw.and nd2).imp fun{a b} h=>by
  have h1:(a:Int)<=(b:Int):=h.1;have h2:=h.2;omega
theorem ya{A:As}{k:Nat}(h:k∈aH A):gk (gZ A) (.inl (k:Int))=some (.int (vl A k:Int)):=by
 rw[pc];unfold vl;cases e:A.find? fun p=>decide (p.1=k)with
 |none=>
  obtain⟨p,hp,rfl⟩:=List.mem_map.mp h;have:=List.find?_eq_none.mp e p hp;simp at this
 |some p=>rfl
noncomputable def lI(A:As):List (ak×Int):=A.map fun p=>(.inl (p.1:Int),(p.2:Int))
theorem o4:∀A:As,j2 (gZ A)=some (lI A)
 |[]=>rfl
 |p::A=>by
  show(j2 (gZ A)).bind _=_;rw[o4 A];rfl
theorem wk(A:As):(lI A).map (fun p=>(p.1,PyData.int p.2))=gZ A:=by
 unfold lI gZ;rw[List.map_map];rfl
theorem vp{A:As}{k:Nat}(h:k∈aH A):iZ (lI A) (.inl (k:Int))=some (vl A k:Int):=by
 have g:=ya h;rw[<-wk]at g;unfold gk at g;unfold iZ;rw[List.find?_map]at g;have e:((fun p:ak×D=>decide (p.1=Sum.inl (k:Int))) ∘ fun p:ak×Int=>(p.1,PyData.int p.2))=fun p=>decide (p.1=Sum.inl (k:Int)):=rfl
 rw[e]at g;cases q:(lI A).find? fun p=>decide (p.1=Sum.inl (k:Int))with
 |none=>rw[q]at g;cases g
 |some p=>
  rw[q]at g;have g:PyData.int p.2=PyData.int (vl A k:Int):=Option.some.inj g;show some p.2=_;rw[PyData.int.inj g]
noncomputable def qk(A:As)(rs:List Nat):As:=(rs.filter fun k=>decide (0<k/\0<vl A k)).map fun k=>(k,vl A k)
noncomputable def hasB(b k:Nat):Bool:=decide (b/2^k%2=1)
theorem sV(b k:Nat):(((b/2^k%2:Nat):Int)==1)=hasB b k:=by
 unfold hasB;rcases Nat.mod_two_eq_zero_or_one (b/2^k)with h|h<;>rw[h]<;>rfl
theorem nR(b k:Nat):eE [.int b,.int k]=some (.bool (hasB b k)):=by
 have s:=kq b k;have o:=Cr (b/2^k);have h:=sV b k;generalize b/2^k%2=z at *;generalize b/2^k=y at *;simp[eE,b5,tP,aL,s,o,h]
theorem zK(b k:Nat){δ:Dv}{f1 f2:Dv->Option D}(h1:f1 δ = some (.int b))(h2:f2 δ = some (.int k)):(ob (o2 (o2 (o2 f1 f2 gS) (oC (.int 2)) cq) (oC (.int 1)) n4)) δ = some (hasB b k):=by
 have s:=kq b k;have m:=fB (b/2^k);have h:=sV b k;generalize b/2^k%2=z at *;generalize b/2^k=y at *;simp only[ob,o2,oC,h1,h2,Option.bind_some,s,m,vD,tQ,h]
noncomputable def fa(ps:List (Nat×Int))(ts:List Nat)(k:Nat):Bool:=if(ts.any fun t=>hasB t k)=true then false else(ps.filter fun p=>hasB p.1 k).all fun p=>p.2%2==0
theorem vB{d:D}{k:Nat}(h:MA.Sh k d)(hk:k<=64):n4 d d=some (.bool true):=by
 have hs:shp d=true:=by
  show(d.canLay0&&decide (d.depth<=64))=true;rw[h.1,decide_eq_true (Nat.le_trans h.2 hk)];rfl
 unfold n4;rw[if_pos ⟨hs,hs⟩,MA.ja d h.1]
theorem u6{d:D}{k:Nat}(h:MA.Sh k d)(hk:k<=64):neD d d=some (.bool false):=by
 have hs:shp d=true:=by
  show(d.canLay0&&decide (d.depth<=64))=true;rw[h.1,decide_eq_true (Nat.le_trans h.2 hk)];rfl
 unfold neD;rw[if_pos ⟨hs,hs⟩,MA.ja d h.1];rfl
theorem vG(ns:List Int)(lo hi:Option Int):∃ms:List Int,ms.length<=ns.length/\wS (.list (ns.map .int)) lo hi=some (.list (ms.map .int)):=by
 refine⟨(ns.drop (HT.sIx ns.length 0 lo)).take (HT.sIx ns.length ns.length hi-HT.sIx ns.length 0 lo),?_,?_⟩
 ·rw[List.length_take,List.length_drop];omega
 ·show some (PyData.list (jB _ _ _))=_
  unfold jB;rw[List.length_map,<-List.map_drop,<-List.map_take]
noncomputable def hav(T:As)(b:Nat):As:=T.filter fun p=>hasB p.1 b
noncomputable def sumE:As->Int
 |[]=>0
 |p::T=>(p.2:Int)+sumE T
noncomputable def oddH(T:As):Nat:=T.foldl (fun t p=>if p.2%2=1 then t ^^^ p.1 else t) 0
abbrev Fm:=List (List Nat×Int)
noncomputable def f2(b:Nat)(T:As):List Nat->Fm
 |[]=>[]
 |c::C=>(([b,c],-2*sumE (hav T c)%8)::(C.filter fun d=>hasB (oddH (hav T c)) d).map fun d=>([b,c,d],4))++f2 b T C
noncomputable def fw(b:Nat)(T:As)(B:List Nat):Fm:=(([b],sumE T%8)::f2 b T B).filter fun p=>decide (p.2≠0)
noncomputable def fo(T:As):List Nat->Fm
 |[]=>[]
 |b::B=>fw b (hav T b) B++fo T B
noncomputable def bz(σ:Nat->Bool):Fm->Int
 |[]=>0
 |p::F=>(if p.1.all σ = true then p.2 else 0)+bz σ F
theorem i3(σ:Nat->Bool):∀F G:Fm,bz σ (F++G)=bz σ F+bz σ G
 |[],G=>by show bz σ G=0+bz σ G;omega
 |p::F,G=>by
  have:=i3 σ F G;show _+bz σ (F++G)=_+bz σ F+bz σ G;omega
theorem pi(σ:Nat->Bool):∀F:Fm,bz σ (F.filter fun p=>decide (p.2≠0))=bz σ F
 |[]=>rfl
 |p::F=>by
  have ih:=pi σ F;rw[List.filter_cons];by_cases h:p.2≠0
  ·rw[if_pos (by simpa using h)]
   show _+_=_+_;rw[ih]
  ·rw[if_neg (by simpa using h),ih]
   have:p.2=0:=by omega
   show bz σ F=(if p.1.all σ = true then p.2 else 0)+bz σ F;rw[this];split<;>omega
noncomputable def s1(σ:Nat->Bool)(T:As):List Nat->Int
 |[]=>0
 |c::C=>(if σ c=true then sumE (hav T c)else 0)+s1 σ T C
noncomputable def s2(σ:Nat->Bool)(T:As):List Nat->Int
 |[]=>0
 |c::C=>(if σ c=true then s1 σ (hav T c) C else 0)+s2 σ T C
noncomputable def s3(σ:Nat->Bool)(T:As):List Nat->Int
 |[]=>0
 |c::C=>(if σ c=true then s2 σ (hav T c) C else 0)+s3 σ T C
theorem sU(a b k:Nat):hasB (a ^^^ b) k=(hasB a k != hasB b k):=by
 have e:∀x,hasB x k=x.testBit k:=fun x=>by
  rw[Nat.testBit_eq_decide_div_mod_eq];rfl
 rw[e,e,e,Nat.testBit_xor]
theorem sA(d:Nat):∀(T:As) (t:Nat),hasB (T.foldl (fun t p=>if p.2%2=1 then t ^^^ p.1 else t) t) d=(hasB t d != decide (sumE (hav T d)%2=1))
 |[],t=>by show hasB t d=(hasB t d != decide ((0:Int)%2=1));cases hasB t d<;>rfl
 |p::T,t=>by
  show hasB (T.foldl _ (if p.2%2=1 then t ^^^ p.1 else t)) d=_;rw[sA d T];have e:hav (p::T) d=if hasB p.1 d=true then p::hav T d else hav T d:=by unfold hav;rw[List.filter_cons]
  rw[e];by_cases o:p.2%2=1
  ·rw[if_pos o,sU]
   cases h:hasB p.1 d with
   |true=>
    rw[if_pos rfl];have:decide (sumE (p::hav T d)%2=1)=!decide (sumE (hav T d)%2=1):=by
     show decide (((p.2:Int)+sumE (hav T d))%2=1)=_;by_cases q:sumE (hav T d)%2=1
     ·rw[decide_eq_true q,decide_eq_false (by omega)];rfl
     ·rw[decide_eq_false q,decide_eq_true (by omega)];rfl
    rw[this];cases hasB t d<;>cases decide (sumE (hav T d)%2=1)<;>rfl
   |false=>
    rw[if_neg (by decide)];cases hasB t d<;>cases decide (sumE (hav T d)%2=1)<;>rfl
  ·rw[if_neg o]
   cases h:hasB p.1 d with
   |true=>
    rw[if_pos rfl];have:decide (sumE (p::hav T d)%2=1)=decide (sumE (hav T d)%2=1):=by
     show decide (((p.2:Int)+sumE (hav T d))%2=1)=_;by_cases q:sumE (hav T d)%2=1
     ·rw[decide_eq_true q,decide_eq_true (by omega)]
     ·rw[decide_eq_false q,decide_eq_false (by omega)]
    rw[this]
   |false=>rw[if_neg (by decide)]
theorem uY(T:As)(d:Nat):hasB (oddH T) d=decide (sumE (hav T d)%2=1):=by
 unfold oddH;rw[sA];have:hasB 0 d=false:=by unfold hasB;rw[Nat.zero_div];rfl
 rw[this];cases decide (sumE (hav T d)%2=1)<;>rfl
theorem vT(σ:Nat->Bool)(b c:Nat)(U:As)(hb:σ b=true)(hc:σ c=true):∀C:List Nat,∃k,bz σ ((C.filter fun d=>hasB (oddH U) d).map fun d=>([b,c,d],4))=4*s1 σ U C+8*k
 |[]=>⟨0,rfl⟩
 |d::C=>by
  obtain⟨k,ih⟩:=vT σ b c U hb hc C;have h:=uY U d;have es:s1 σ U (d::C)=(if σ d=true then sumE (hav U d)else 0)+s1 σ U C:=rfl;rw[List.filter_cons,es];by_cases q:sumE (hav U d)%2=1
  ·rw[decide_eq_true q]at h
   rw[if_pos h];have e:bz σ (((d::C.filter fun d=>hasB (oddH U) d).map fun d=>(([b,c,d],4):List Nat×Int)))=(if [b,c,d].all σ = true then 4 else 0)+bz σ ((C.filter fun d=>hasB (oddH U) d).map fun d=>([b,c,d],4)):=rfl
   rw[e,ih];by_cases z:σ d=true
   ·rw[if_pos z,if_pos (by simp[hb,hc,z])]
    exact⟨k+(1-sumE (hav U d))/2,by omega⟩
   ·rw[if_neg z,if_neg (by simp[z])]
    exact⟨k,by omega⟩
  ·rw[decide_eq_false q]at h
   rw[if_neg (by rw[h];decide),ih];by_cases z:σ d=true
   ·rw[if_pos z]
    exact⟨k-sumE (hav U d)/2,by omega⟩
   ·rw[if_neg z]
    exact⟨k,by omega⟩
theorem m8(σ:Nat->Bool)(b c:Nat)(h:¬(σ b=true /\ σ c=true)):∀C:List Nat,bz σ (C.map fun d=>([b,c,d],4))=0
 |[]=>rfl
 |d::C=>by
  have ih:=m8 σ b c h C;show(if [b,c,d].all σ = true then(4:Int)else 0)+bz σ (C.map fun d=>([b,c,d],4))=0
  rw[ih,if_neg (by
   intro z;simp only[List.all_cons,List.all_nil,Bool.and_true,Bool.and_eq_true]at z;exact h ⟨z.1,z.2.1⟩)]
  rfl
theorem tm(σ:Nat->Bool)(b:Nat)(U:As):∀C:List Nat,∃k,bz σ (f2 b U C)=(if σ b=true then -2*s1 σ U C+4*s2 σ U C else 0)+8*k
 |[]=>⟨0,by show(0:Int)=(if σ b=true then -2*0+4*0 else 0)+8*0;split<;>omega⟩
 |c::C=>by
  obtain⟨k,ih⟩:=tm σ b U C;have e1:s1 σ U (c::C)=(if σ c=true then sumE (hav U c)else 0)+s1 σ U C:=rfl;have e2:s2 σ U (c::C)=(if σ c=true then s1 σ (hav U c) C else 0)+s2 σ U C:=rfl;have e:bz σ (f2 b U (c::C))=(if [b,c].all σ = true then -2*sumE (hav U c)%8 else 0)+bz σ ((C.filter fun d=>hasB (oddH (hav U c)) d).map fun d=>([b,c,d],4))+bz σ (f2 b U C):=by
   show bz σ (_++_)=_;rw[i3];rfl
  rw[e,ih,e1,e2];by_cases hb:σ b=true
  ·by_cases hc:σ c=true
   ·obtain⟨m,t⟩:=vT σ b c (hav U c) hb hc C
    rw[t,if_pos hb,if_pos hb,if_pos hc,if_pos hc,if_pos (by simp[hb,hc])];exact⟨k+m-(-2*sumE (hav U c))/8,by omega⟩
   ·rw[m8 σ b c (fun z=>hc z.2),if_pos hb,if_pos hb,if_neg hc,if_neg hc,if_neg (by simp[hc])]
    exact⟨k,by omega⟩
  ·rw[m8 σ b c (fun z=>hb z.1),if_neg hb,if_neg hb,if_neg (by simp[hb])]
   exact⟨k,by omega⟩
theorem s9(σ:Nat->Bool)(T:As):∀B:List Nat,∃k,bz σ (fo T B)=s1 σ T B-2*s2 σ T B+4*s3 σ T B+8*k
 |[]=>⟨0,rfl⟩
 |b::B=>by
  obtain⟨k,ih⟩:=s9 σ T B;obtain⟨m,f⟩:=tm σ b (hav T b) B;have e1:s1 σ T (b::B)=(if σ b=true then sumE (hav T b)else 0)+s1 σ T B:=rfl;have e2:s2 σ T (b::B)=(if σ b=true then s1 σ (hav T b) B else 0)+s2 σ T B:=rfl;have e3:s3 σ T (b::B)=(if σ b=true then s2 σ (hav T b) B else 0)+s3 σ T B:=rfl;have e:bz σ (fo T (b::B))=(if [b].all σ = true then sumE (hav T b)%8 else 0)+bz σ (f2 b (hav T b) B)+bz σ (fo T B):=by
   show bz σ (fw b (hav T b) B++fo T B)=_;rw[i3];unfold fw;rw[pi];rfl
  rw[e,f,ih,e1,e2,e3];by_cases hb:σ b=true
  ·rw[if_pos hb,if_pos hb,if_pos hb,if_pos hb,if_pos (by simp[hb])]
   exact⟨k+m-sumE (hav T b)/8,by omega⟩
  ·rw[if_neg hb,if_neg hb,if_neg hb,if_neg hb,if_neg (by simp[hb])]
   exact⟨k+m,by omega⟩
theorem iW(p:Nat×Nat)(T:As)(b:Nat):hav (p::T) b=if hasB p.1 b=true then p::hav T b else hav T b:=by unfold hav;rw[List.filter_cons]
noncomputable def n1(σ:Nat->Bool)(S:Nat):List Nat->Int
 |[]=>0
 |c::C=>(if hasB S c=true /\ σ c=true then 1 else 0)+n1 σ S C
noncomputable def n2(σ:Nat->Bool)(S:Nat):List Nat->Int
 |[]=>0
 |c::C=>(if hasB S c=true /\ σ c=true then n1 σ S C else 0)+n2 σ S C
noncomputable def n3(σ:Nat->Bool)(S:Nat):List Nat->Int
 |[]=>0
 |c::C=>(if hasB S c=true /\ σ c=true then n2 σ S C else 0)+n3 σ S C
theorem kt(σ:Nat->Bool)(p:Nat×Nat)(T:As):∀C,s1 σ (p::T) C=(p.2:Int)*n1 σ p.1 C+s1 σ T C
 |[]=>by show(0:Int)=(p.2:Int)*0+0;omega
 |c::C=>by
  have ih:=kt σ p T C;show(if σ c=true then sumE (hav (p::T) c)else 0)+s1 σ (p::T) C=(p.2:Int)*((if hasB p.1 c=true /\ σ c=true then 1 else 0)+n1 σ p.1 C)+((if σ c=true then sumE (hav T c)else 0)+s1 σ T C);rw[ih,iW,Int.mul_add];by_cases hc:σ c=true<;>by_cases hs:hasB p.1 c=true<;>simp only[hc,hs,if_true,if_false,and_self,and_true,true_and,and_false,false_and,Int.mul_one,Int.mul_zero,Bool.false_eq_true,sumE]<;>omega
theorem kr(σ:Nat->Bool)(p:Nat×Nat)(T:As):∀C,s2 σ (p::T) C=(p.2:Int)*n2 σ p.1 C+s2 σ T C
 |[]=>by show(0:Int)=(p.2:Int)*0+0;omega
 |c::C=>by
  have ih:=kr σ p T C;have h1:=kt σ p (hav T c) C;show(if σ c=true then s1 σ (hav (p::T) c) C else 0)+s2 σ (p::T) C=(p.2:Int)*((if hasB p.1 c=true /\ σ c=true then n1 σ p.1 C else 0)+n2 σ p.1 C)+((if σ c=true then s1 σ (hav T c) C else 0)+s2 σ T C);rw[ih,iW,Int.mul_add];by_cases hc:σ c=true<;>by_cases hs:hasB p.1 c=true<;>simp only[hc,hs,if_true,if_false,and_self,and_true,true_and,and_false,false_and,Int.mul_zero,Bool.false_eq_true,h1]<;>omega
theorem oK(σ:Nat->Bool)(p:Nat×Nat)(T:As):∀C,s3 σ (p::T) C=(p.2:Int)*n3 σ p.1 C+s3 σ T C
 |[]=>by show(0:Int)=(p.2:Int)*0+0;omega
 |c::C=>by
  have ih:=oK σ p T C;have h1:=kr σ p (hav T c) C;show(if σ c=true then s2 σ (hav (p::T) c) C else 0)+s3 σ (p::T) C=(p.2:Int)*((if hasB p.1 c=true /\ σ c=true then n2 σ p.1 C else 0)+n3 σ p.1 C)+((if σ c=true then s2 σ (hav T c) C else 0)+s3 σ T C);rw[ih,iW,Int.mul_add];by_cases hc:σ c=true<;>by_cases hs:hasB p.1 c=true<;>simp only[hc,hs,if_true,if_false,and_self,and_true,true_and,and_false,false_and,Int.mul_zero,Bool.false_eq_true,h1]<;>omega
theorem wf(σ:Nat->Bool)(S:Nat):∀C,0<=n1 σ S C/\(∃k,n1 σ S C-2*n2 σ S C=n1 σ S C%2+4*k)/\∃k,n1 σ S C-2*n2 σ S C+4*n3 σ S C=n1 σ S C%2+8*k
 |[]=>⟨Int.le_refl _,⟨0,rfl⟩,⟨0,rfl⟩⟩
 |c::C=>by
  obtain⟨h0,⟨k,h1⟩,⟨m,h2⟩⟩:=wf σ S C;have e1:n1 σ S (c::C)=(if hasB S c=true /\ σ c=true then 1 else 0)+n1 σ S C:=rfl;have e2:n2 σ S (c::C)=(if hasB S c=true /\ σ c=true then n1 σ S C else 0)+n2 σ S C:=rfl;have e3:n3 σ S (c::C)=(if hasB S c=true /\ σ c=true then n2 σ S C else 0)+n3 σ S C:=rfl;rw[e1,e2,e3];by_cases q:hasB S c=true /\ σ c=true
  ·rw[if_pos q,if_pos q,if_pos q]
   generalize n1 σ S C=a at *;generalize n2 σ S C=b at *;generalize n3 σ S C=d at *;refine⟨by omega,⟨k+(1-2*a+a%2-(1+a)%2)/4,by omega⟩,⟨(1+a-2*(a+b)+4*(b+d)-(1+a)%2)/8,by omega⟩⟩
  ·rw[if_neg q,if_neg q,if_neg q]
   exact⟨by omega,⟨k,by omega⟩,⟨m,by omega⟩⟩
noncomputable def yK(σ:Nat->Bool)(B:List Nat):As->Int
 |[]=>0
 |p::T=>(p.2:Int)*(n1 σ p.1 B%2)+yK σ B T
theorem vV(σ:Nat->Bool)(B:List Nat):∀T:As,∃k,s1 σ T B-2*s2 σ T B+4*s3 σ T B=yK σ B T+8*k
 |[]=>by
  have z1:∀C,s1 σ [] C=0:=fun C=>by
   induction C with
   |nil=>rfl
   |cons c C ih=>show(if σ c=true then(0:Int)else 0)+s1 σ [] C=0;rw[ih];split<;>rfl
  have z2:∀C,s2 σ [] C=0:=fun C=>by
   induction C with
   |nil=>rfl
   |cons c C ih=>show(if σ c=true then s1 σ [] C else 0)+s2 σ [] C=0;rw[ih,z1];split<;>rfl
  have z3:∀C,s3 σ [] C=0:=fun C=>by
   induction C with
   |nil=>rfl
   |cons c C ih=>show(if σ c=true then s2 σ [] C else 0)+s3 σ [] C=0;rw[ih,z2];split<;>rfl
  exact⟨0,by rw[z1,z2,z3];rfl⟩
 |p::T=>by
  obtain⟨k,ih⟩:=vV σ B T;obtain⟨_,_,m,h⟩:=wf σ p.1 B;refine⟨k+(p.2:Int)*m,?_⟩;rw[kt,kr,oK];show _=(p.2:Int)*(n1 σ p.1 B%2)+yK σ B T+8*(k+(p.2:Int)*m);have h':(p.2:Int)*n1 σ p.1 B-2*((p.2:Int)*n2 σ p.1 B)+4*((p.2:Int)*n3 σ p.1 B)=(p.2:Int)*(n1 σ p.1 B%2)+8*((p.2:Int)*m):=by
   have:=congrArg (fun x=>(p.2:Int)*x) h
   simp only[Int.mul_add,Int.mul_sub]at this;rw[Int.mul_left_comm (p.2:Int) 2,Int.mul_left_comm (p.2:Int) 4,Int.mul_left_comm (p.2:Int) 8]at this;exact this
  omega
theorem ye(σ:Nat->Bool)(T:As)(B:List Nat):bz σ (fo T B)%8=yK σ B T%8:=by
 obtain⟨k,h⟩:=s9 σ T B;obtain⟨m,g⟩:=vV σ B T;omega
noncomputable def gX:List Nat->List Nat->Bool
 |[],[]=>false
 |[],_::_=>true
 |_::_,[]=>false
 |a::r,b::t=>if a=b then gX r t else decide (a<b)
noncomputable def eB(l:List Nat):List Int:=l.map fun k:Nat=>(k:Int)
theorem f6:∀l m:List Nat,bX (bd (eB l)) (bd (eB m))=gX l m
 |[],[]=>rfl
 |[],_::_=>rfl
 |_::_,[]=>rfl
 |a::r,b::t=>by
  show(if(Sum.inl (a:Int):ak)=Sum.inl (b:Int)then bX (bd (eB r)) (bd (eB t))else df (.inl (a:Int)) (.inl (b:Int)))=if a=b then gX r t else decide (a<b)
  by_cases e:a=b
  ·subst e;rw[if_pos rfl,if_pos rfl,f6 r t]
  ·rw[if_neg (fun z=>e ((gi a b).mp z)),if_neg e]
   show decide ((a:Int)<(b:Int))=decide (a<b);by_cases q:a<b
   ·rw[decide_eq_true q,decide_eq_true (by omega)]
   ·rw[decide_eq_false q,decide_eq_false (by omega)]
def Up(F:Fm):Prop:=F.Pairwise fun p q=>gX p.1 q.1=true
theorem dc(b:Nat){l m:List Nat}(h:gX l m=true):gX (b::l) (b::m)=true:=by
 show(if b=b then gX l m else _)=true;rw[if_pos rfl];exact h
theorem nH{a b:Nat}(l m:List Nat)(h:a<b):gX (a::l) (b::m)=true:=by
 show(if a=b then gX l m else decide (a<b))=true;rw[if_neg (by omega)];exact decide_eq_true h
theorem hZ(b:Nat)(U:As):∀C:List Nat,∀p∈f2 b U C,∃c r,p.1=b::c::r/\c∈C/\(∀x∈r,x∈C)
 |[],p,h=>by cases h
 |c::C,p,h=>by
  rcases List.mem_append.mp h with z|z
  ·rcases List.mem_cons.mp z with rfl|z
   ·exact⟨c,[],rfl,List.mem_cons_self,fun x hx=>by cases hx⟩
   ·obtain⟨d,hd,rfl⟩:=List.mem_map.mp z
    exact⟨c,[d],rfl,List.mem_cons_self,fun x hx=>by rw[List.mem_singleton.mp hx];exact List.mem_cons_of_mem _ (List.mem_filter.mp hd).1⟩
  ·obtain⟨c',r,e,h1,h2⟩:=hZ b U C p z
   exact⟨c',r,e,List.mem_cons_of_mem _ h1,fun x hx=>List.mem_cons_of_mem _ (h2 x hx)⟩
theorem wx(b:Nat)(U:As):∀C:List Nat,C.Pairwise (· < ·)->Up (f2 b U C)
 |[],_=>.nil
 |c::C,h=>by
  obtain⟨h1,h2⟩:=List.pairwise_cons.mp h;refine List.pairwise_append.mpr ⟨?_,wx b U C h2,fun p hp q hq=>?_⟩
  ·refine List.pairwise_cons.mpr ⟨fun q hq=>?_,?_⟩
   ·obtain⟨d,_,rfl⟩:=List.mem_map.mp hq
    exact dc b (dc c rfl)
   ·refine List.pairwise_map.mpr ((h2.sublist List.filter_sublist).imp fun{x y} q=>?_)
    exact dc b (dc c (nH [] [] q))
  ·obtain⟨c',r,e,h3,_⟩:=hZ b U C q hq
   obtain⟨r',e'⟩:∃r',p.1=b::c::r':=by
    rcases List.mem_cons.mp hp with rfl|z
    ·exact⟨[],rfl⟩
    ·obtain⟨d,_,rfl⟩:=List.mem_map.mp z
     exact⟨[d],rfl⟩
   rw[e,e'];exact dc b (nH _ _ (h1 c' h3))
theorem kI(b:Nat)(U:As)(C:List Nat):∀p∈fw b U C,∃r,p.1=b::r/\∀x∈r,x∈C:=fun p hp=>by
 rcases List.mem_cons.mp (List.mem_filter.mp hp).1 with rfl|z
 ·exact⟨[],rfl,fun x hx=>by cases hx⟩
 ·obtain⟨c,r,e,h1,h2⟩:=hZ b U C p z
  exact⟨c::r,e,fun x hx=>by
   rcases List.mem_cons.mp hx with rfl|q
   ·exact h1
   ·exact h2 x q⟩
theorem At(b:Nat)(U:As)(C:List Nat)(h:C.Pairwise (· < ·)):Up (fw b U C):=by
 refine List.Pairwise.sublist List.filter_sublist (List.pairwise_cons.mpr ⟨fun q hq=>?_,wx b U C h⟩);obtain⟨c,r,e,_⟩:=hZ b U C q hq;rw[e];exact dc b rfl
theorem pz(T:As):∀B:List Nat,∀p∈fo T B,∃b r,p.1=b::r/\b∈B
 |[],p,h=>by cases h
 |b::B,p,h=>by
  rcases List.mem_append.mp h with z|z
  ·obtain⟨r,e,_⟩:=kI b _ B p z
   exact⟨b,r,e,List.mem_cons_self⟩
  ·obtain⟨b',r,e,h1⟩:=pz T B p z
   exact⟨b',r,e,List.mem_cons_of_mem _ h1⟩
theorem wv(T:As):∀B:List Nat,B.Pairwise (· < ·)->Up (fo T B)
 |[],_=>.nil
 |b::B,h=>by
  obtain⟨h1,h2⟩:=List.pairwise_cons.mp h;refine List.pairwise_append.mpr ⟨At b _ B h2,wv T B h2,fun p hp q hq=>?_⟩
  obtain⟨r,e,_⟩:=kI b _ B p hp;obtain⟨b',r',e',h3⟩:=pz T B q hq;rw[e,e'];exact nH _ _ (h1 b' h3)
structure Gp (p:List Nat×Int):Prop where
 n0:p.1≠[]
 n3:p.1.length<=3
 up:p.1.Pairwise (· < ·)
 e1:1<=p.2
 e7:p.2<=7
theorem pC(b:Nat)(U:As):∀C:List Nat,C.Pairwise (· < ·)->(∀c∈C,b<c)->∀p∈f2 b U C,p.1.length<=3/\p.1.Pairwise (· < ·)/\0<=p.2/\p.2<=7
 |[],_,_,p,h=>by cases h
 |c::C,h,hb,p,hp=>by
  obtain⟨h1,h2⟩:=List.pairwise_cons.mp h;have bc:=hb c List.mem_cons_self;rcases List.mem_append.mp hp with z|z
  ·rcases List.mem_cons.mp z with rfl|z
   ·exact⟨by simp,by simp[bc],by show(0:Int)<=_%8;omega,by show _%8<=(7:Int);omega⟩
   ·obtain⟨d,hd,rfl⟩:=List.mem_map.mp z
    have cd:=h1 d (List.mem_filter.mp hd).1;exact⟨by simp,by simp[bc,cd];omega,by show(0:Int)<=4;decide,by show(4:Int)<=7;decide⟩
  ·exact pC b U C h2 (fun c hc=>hb c (List.mem_cons_of_mem _ hc)) p z
theorem vq(b:Nat)(U:As)(C:List Nat)(h:C.Pairwise (· < ·))(hb:∀c∈C,b<c):∀p∈fw b U C,Gp p:=fun p hp=>by
 obtain⟨h1,h2⟩:=List.mem_filter.mp hp;have h2:p.2≠0:=by simpa using h2
 obtain⟨r,e,_⟩:=kI b U C p hp;have n0:p.1≠[]:=by rw[e];intro z;cases z
 rcases List.mem_cons.mp h1 with rfl|z
 ·have:(sumE U%8)≠0:=h2
  exact⟨n0,by simp,by simp,by show(1:Int)<=sumE U%8;omega,by show sumE U%8<=(7:Int);omega⟩
 ·obtain⟨a1,a2,a3,a4⟩:=pC b U C h hb p z
  exact⟨n0,a1,a2,by omega,a4⟩
theorem pA(T:As):∀B:List Nat,B.Pairwise (· < ·)->∀p∈fo T B,Gp p
 |[],_,p,h=>by cases h
 |b::B,h,p,hp=>by
  obtain⟨h1,h2⟩:=List.pairwise_cons.mp h;rcases List.mem_append.mp hp with z|z
  ·exact vq b _ B h2 h1 p z
  ·exact pA T B h2 p z
noncomputable def vS:Nat->Nat
 | 0=>0
 |n+1=>1+n+vS n
noncomputable def yY:Nat->Nat
 | 0=>0
 |n+1=>1+vS n+yY n
theorem kL(b:Nat)(U:As):∀C:List Nat,(f2 b U C).length<=vS C.length
 |[]=>Nat.le_refl _
 |c::C=>by
  have ih:=kL b U C;have:=List.length_filter_le (fun d=>hasB (oddH (hav U c)) d) C
  show((_::_)++f2 b U C).length<=1+C.length+vS C.length;rw[List.length_append,List.length_cons,List.length_map];omega
theorem nU(T:As):∀B:List Nat,(fo T B).length<=yY B.length
 |[]=>Nat.le_refl _
 |b::B=>by
  have ih:=nU T B;have h1:=kL b (hav T b) B;have h2:=List.length_filter_le (fun p:List Nat×Int=>decide (p.2≠0)) (([b],sumE (hav T b)%8)::f2 b (hav T b) B)
  rw[List.length_cons]at h2;show(fw b (hav T b) B++fo T B).length<=1+vS B.length+yY B.length;rw[List.length_append];unfold fw;omega
theorem yX{n:Nat}(h:n<=5):yY n<=25:=by
 have:∀m,m<=5->yY m<=25:=by decide
 exact this n h
noncomputable def cW(F:Fm):List D:=F.map fun p=>.tuple [.tuple (ab p.1),.int p.2]
theorem An(T:As)(b:Nat)(hl:T.length<=1000)(X:D)(hX:bI X=some (T.map pD)):fZ [.fz X,.fz (.int (b:Int))]=some (.list ((hav T b).map pD)):=by
 unfold fZ hav;refine b8 (xs:=T) (h:=pD) (by simp[hX]) (by omega) (fun p _=>?_) fun p _ _=>?_
 ·have h:=nR p.1 b
  generalize hasB p.1 b=z at *;simp[bf,pD,h]
 ·simp[bf]
theorem j5(T:As)(b:Nat)(hl:T.length<=1000)(X:D)(hX:bI X=some (T.map pD)):bC [X,.int (b:Int)]=some (.list ((hav T b).map pD)):=by
 have:=An T b hl X hX;simp[bC,b5,ji,aL,this]
theorem lw:∀T:As,(T.map fun p=>(p.2:Int)).sum=sumE T
 |[]=>rfl
 |p::T=>by rw[List.map_cons,List.sum_cons,lw T];rfl
theorem zj(T:As)(hl:T.length<=1000):cn [.fz (.list (T.map pD))]=some (.list (T.map fun p=>.int (p.2:Int))):=by
 unfold cn;exact mO (xs:=T) (h:=pD) (by simp) (by omega) fun p _=>by simp[bf,pD]
theorem oD(T:As)(hl:T.length<=1000):az [.list (T.map pD)]=some (.int (sumE T)):=by
 have h1:=zj T hl;have h2:=rE (fun p:Nat×Nat=>(p.2:Int)) T
 rw[lw]at h2;simp[az,b5,cK,aL,h1,h2]
theorem sy(X:D)(t:Nat)(p:Nat×Nat):ba [.fz X,.fz (.int (t:Int)),.fz (pD p)]=some (.nx,[.fz X,.fz (.int ((if p.2%2=1 then t ^^^ p.1 else t:Nat):Int)),.fz (pD p)]):=by
 have x:=MA.Cq t p.1;have m:=fB p.2;by_cases o:p.2%2=1
 ·rw[o]at m
  rw[if_pos o];simp[ba,pD,m,x]
 ·have o':p.2%2=0:=by omega
  rw[o']at m;rw[if_neg o];simp[ba,pD,m]
theorem lT(X:D):∀(T:As) (t:Nat) (y:Sl),∃z,loop (gN 2) ba (T.map pD) [.fz X,.fz (.int (t:Int)),y]=some (.nx,[.fz X,.fz (.int ((T.foldl (fun t p=>if p.2%2=1 then t ^^^ p.1 else t) t:Nat):Int)),z])
 |[],t,y=>⟨y,rfl⟩
 |p::T,t,y=>by
  obtain⟨z,e⟩:=lT X T (if p.2%2=1 then t ^^^ p.1 else t) (.fz (pD p));refine⟨z,?_⟩;rw[List.map_cons,ar (δ1:=[.fz X,.fz (.int (t:Int)),.fz (pD p)]) (by rfl) (sy X t p)];exact e
theorem sv(T:As):aV [.list (T.map pD)]=some (.int (oddH T:Int)):=by
 obtain⟨z,e⟩:=lT (.list (T.map pD)) T 0 .un;have e:loop (gN 2) ba (T.map pD) [.fz (.list (T.map pD)),.fz (.int 0),.un]=some (.nx,[.fz (.list (T.map pD)),.fz (.int (oddH T:Int)),z]):=e;simp[aV,b5,dD,aL,e]
theorem mN(pre:List Nat)(c:Nat)(C:List Nat)(k:Int)(hk:(pre.length:Int)+1=k):wS (.list (ab (pre++c::C))) (some k) none=some (.list (ab C)):=by
 subst hk;show some (PyData.list (jB _ _ _))=_;unfold jB;have ln:(ab (pre++c::C)).length=pre.length+1+C.length:=by rw[bt,List.length_append,List.length_cons];omega
 have h1:HT.sIx (ab (pre++c::C)).length 0 (some ((pre.length:Int)+1))=pre.length+1:=by
  rw[ln];simp[HT.sIx];omega
 have h2:HT.sIx (ab (pre++c::C)).length (ab (pre++c::C)).length none=pre.length+1+C.length:=by rw[ln];rfl
 rw[h1,h2];have:(ab (pre++c::C)).drop (pre.length+1)=ab C:=by
  unfold ab;rw[List.map_append,List.map_cons,List.drop_append,List.length_map,List.drop_of_length_le (by rw[List.length_map];omega),Nat.add_sub_cancel_left];rfl
 rw[this,List.take_of_length_le (by rw[bt];omega)]
theorem kW(pre:List Nat)(c:Nat)(C:List Nat):dJ (.list (ab (pre++c::C))) (.int (pre.length:Int))=some (.int (c:Int)):=by
 show jn _ _=_;rw[iD _ (by rw[List.length_append,List.length_cons];omega),List.getD_eq_getElem?_getD,List.getElem?_append_right (Nat.le_refl _),Nat.sub_self];rfl
theorem xG(x:Int):jv (.int (-2)) (.int x)=some (.int (-2*x)):=iE (.of_left (by decide))
theorem Ce(b c:Nat)(U:D)(B C:List Nat)(V:As)(acc:List D)(k k1:Int)(H:Nat)(y5 y6:Sl)(hk:k+1=k1)(hx:dJ (.list (ab B)) (.int k)=some (.int (c:Int)))(hs:wS (.list (ab B)) (some k1) none=some (.list (ab C)))(h1:bC [U,.int (c:Int)]=some (.list (V.map pD)))(h2:az [.list (V.map pD)]=some (.int (sumE V)))(h3:aV [.list (V.map pD)]=some (.int (H:Int)))(hl:acc.length+1+C.length<=1000)(hC:C.length<=1000):bR [.fz (.int (b:Int)),.fz U,.fz (.list (ab B)),.ow acc,.fz (.int k),y5,y6]=some (.nx,[.fz (.int (b:Int)),.fz U,.fz (.list (ab B)),.ow (acc++cW (([b,c],-2*sumE V%8)::(C.filter fun d=>hasB H d).map fun d=>([b,c,d],4))),.fz (.int k),.fz (.list (V.map pD)),.fz (.int (H:Int))]):=by
 have p:dt [.fz (.int (b:Int)),.fz U,.fz (.list (ab B)),.ow (acc++[.tuple [.tuple [.int (b:Int),.int (c:Int)],.int (-2*sumE V%8)]]),.fz (.int k),.fz (.list (V.map pD)),.fz (.int (H:Int))]=some (.list ((C.filter fun d=>hasB H d).map fun d:Nat=>.tuple [.tuple [.int (b:Int),.int (c:Int),.int (d:Int)],.int 4])):=by
  unfold dt;refine b8 (xs:=C) (h:=fun d:Nat=>PyData.int (d:Int)) (by simp[hk,hs];rfl) (by omega) (fun d _=>?_) fun d _ _=>?_
  ·have h:=nR H d
   generalize hasB H d=z at *;simp[bf,h]
  ·simp[bf,hx]
 have ng:negD (.int 2)=some (.int (-2)):=rfl;have m:=xG (sumE V);have a1:acc.length<sizeLine:=by rw[sizeLine_eq];omega
 have a2:acc.length+1+(C.filter fun d=>hasB H d).length<=sizeLine:=by
  have:=List.length_filter_le (fun d=>hasB H d) C;rw[sizeLine_eq];omega
 have ef:acc++cW (([b,c],-2*sumE V%8)::(C.filter fun d=>hasB H d).map fun d=>([b,c,d],4))=acc++[.tuple [.tuple [.int (b:Int),.int (c:Int)],.int (-2*sumE V%8)]]++((C.filter fun d=>hasB H d).map fun d:Nat=>.tuple [.tuple [.int (b:Int),.int (c:Int),.int (d:Int)],.int 4]):=by
  unfold cW;rw[List.map_cons,List.map_map,List.append_assoc];rfl
 rw[ef];simp[bR,hx,h1,h2,h3,ng,m,a1,p,vd,a2]
theorem ph(b:Nat)(T:As)(hl:T.length<=1000)(U:D)(hU:bI U=some (T.map pD))(B:List Nat)(hB:B.length<=20):∀(C pre:List Nat) (acc:List D) (y4 y5 y6:Sl),B=pre++C->acc.length+C.length*30<=900->∃z4 z5 z6,loop (gN 4) bR ((List.range' pre.length C.length).map fun k:Nat=>PyData.int (0+(k:Int))) [.fz (.int (b:Int)),.fz U,.fz (.list (ab B)),.ow acc,y4,y5,y6]=some (.nx,[.fz (.int (b:Int)),.fz U,.fz (.list (ab B)),.ow (acc++cW (f2 b T C)),z4,z5,z6])
 |[],pre,acc,y4,y5,y6,_,_=>⟨y4,y5,y6,by rw[show cW (f2 b T [])=[]from rfl,List.append_nil];rfl⟩
 |c::C,pre,acc,y4,y5,y6,e,ha=>by
  have hlen:C.length<=20:=by
   have:=congrArg List.length e;rw[List.length_append,List.length_cons]at this;omega
  rw[List.length_cons]at ha;have hv:(hav T c).length<=1000:=by
   have:=List.length_filter_le (fun p:Nat×Nat=>hasB p.1 c) T;unfold hav;omega
  have st:=Ce b c U B C (hav T c) acc (pre.length:Int) ((pre.length:Int)+1) (oddH (hav T c)) y5 y6 rfl (by rw[e];exact kW pre c C) (by rw[e];exact mN pre c C _ rfl) (j5 T c hl U hU) (oD _ hv) (sv _) (by omega) (by omega);have fl:=List.length_filter_le (fun d=>hasB (oddH (hav T c)) d) C
  obtain⟨z4,z5,z6,h⟩:=ph b T hl U hU B hB C (pre++[c]) (acc++cW (([b,c],-2*sumE (hav T c)%8)::(C.filter fun d=>hasB (oddH (hav T c)) d).map fun d=>([b,c,d],4))) (.fz (.int (pre.length:Int))) _ _ (by rw[e,List.append_assoc];rfl) (by
   unfold cW;rw[List.length_append,List.length_map,List.length_cons,List.length_map];omega)
  refine⟨z4,z5,z6,?_⟩;have z:PyData.int (0+((pre.length:Nat):Int))=PyData.int (pre.length:Int):=by rw[Int.zero_add]
  rw[List.length_cons,List.range'_succ,List.map_cons,z,ar (δ1:=[.fz (.int (b:Int)),.fz U,.fz (.list (ab B)),.ow acc,.fz (.int (pre.length:Int)),y5,y6]) (by rfl) st];rw[List.length_append]at h;refine h.trans ?_;have:cW (f2 b T (c::C))=cW (([b,c],-2*sumE (hav T c)%8)::(C.filter fun d=>hasB (oddH (hav T c)) d).map fun d=>([b,c,d],4))++cW (f2 b T C):=by
   show cW (_++_)=_;unfold cW;rw[List.map_append]
  rw[this,List.append_assoc]
theorem Au(x0 x1 x2:D)(F:Fm)(hl:F.length<=1000)(z4 z5 z6:Sl):bO [.fz x0,.fz x1,.fz x2,.fz (.list (cW F)),z4,z5,z6]=some (.list (cW (F.filter fun p=>decide (p.2≠0)))):=by
 unfold bO cW;refine b8 (xs:=F) (h:=fun p:List Nat×Int=>PyData.tuple [.tuple (ab p.1),.int p.2]) (by simp) (by omega) (fun p _=>?_) fun p _ _=>by simp[bf]
 by_cases h:p.2=0
 ·simp[bf,h]
 ·simp[bf,h]
theorem Ar(b:Nat)(U R:D)(B:List Nat)(s n:Int)(ln:((ab B).length:Int)=n)(F:Fm)(L:List D)(z4 z5 z6:Sl)(h1:az [U]=some (.int s))(r:bj [.int n]=some L)(lp:loop (gN 4) bR L [.fz (.int (b:Int)),.fz U,.fz (.list (ab B)),.ow [.tuple [.tuple [.int (b:Int)],.int (s%8)]],.un,.un,.un]=some (.nx,[.fz (.int (b:Int)),.fz U,.fz (.list (ab B)),.ow (cW F),z4,z5,z6]))(p:bO [.fz (.int (b:Int)),.fz U,.fz (.list (ab B)),.fz (.list (cW F)),z4,z5,z6]=some R):bo [.int (b:Int),U,.list (ab B)]=some R:=by
 refine uZ rfl (δ':=[.fz (.int (b:Int)),.fz U,.fz (.list (ab B)),.fz (.list (cW F)),z4,z5,z6]) ?_;unfold d4;have o:1<=sizeLine:=by rw[sizeLine_eq];decide
 rw[db (δ':=[.fz (.int (b:Int)),.fz U,.fz (.list (ab B)),.ow [.tuple [.tuple [.int (b:Int)],.int (s%8)]],.un,.un,.un]) (by
  show rO 3 _ [.fz (.int (b:Int)),.fz U,.fz (.list (ab B)),.un,.un,.un,.un]=_;simp[h1,o])]
 have hf:(oL (af (VL.os (af (oV 2) (aw)) de) (aw)) bj) [.fz (.int (b:Int)),.fz U,.fz (.list (ab B)),.ow [.tuple [.tuple [.int (b:Int)],.int (s%8)]],.un,.un,.un]=some L:=gJ (ds:=[.int n]) (by simp[ln]) r;rw[db (δ':=[.fz (.int (b:Int)),.fz U,.fz (.list (ab B)),.ow (cW F),z4,z5,z6]) (by
  show(_:Option (List D)).bind _=_;rw[hf];exact lp)]
 show(bO [.fz (.int (b:Int)),.fz U,.fz (.list (ab B)),.fz (.list (cW F)),z4,z5,z6]).bind _=_;rw[p];rfl
theorem s0(b:Nat)(T:As)(hl:T.length<=1000)(B:List Nat)(hB:B.length<=20):bo [.int (b:Int),.list (T.map pD),.list (ab B)]=some (.list (cW (fw b T B))):=by
 obtain⟨z4,z5,z6,h⟩:=ph b T hl (.list (T.map pD)) rfl B hB B [] [.tuple [.tuple [.int (b:Int)],.int (sumE T%8)]] .un .un .un rfl (by show 1+_<=_;omega);have lf:=kL b T B;have tb:vS B.length<=300:=by
  have:∀m,m<=20->vS m<=300:=by decide
  exact this _ hB
 exact Ar b _ _ B (sumE T) (B.length:Int) (by rw[bt]) (([b],sumE T%8)::f2 b T B) _ z4 z5 z6 (oD T hl) (by rw[qb (by omega),List.range_eq_range'];rfl) h (Au _ _ _ _ (by rw[List.length_cons];omega) _ _ _)
noncomputable def orH(T:As):Nat:=T.foldl (fun t p=>t ||| p.1) 0
theorem iX(x k:Nat):hasB x k=x.testBit k:=by rw[Nat.testBit_eq_decide_div_mod_eq];rfl
theorem oR(X:D)(y3 y4 y5:Sl):∀(T:As) (t:Nat) (y:Sl),∃z,loop (gN 2) dz (T.map pD) [.fz X,.fz (.int (t:Int)),y,y3,y4,y5]=some (.nx,[.fz X,.fz (.int ((T.foldl (fun t p=>t ||| p.1) t:Nat):Int)),z,y3,y4,y5])
 |[],t,y=>⟨y,rfl⟩
 |p::T,t,y=>by
  obtain⟨z,e⟩:=oR X y3 y4 y5 T (t ||| p.1) (.fz (pD p));refine⟨z,?_⟩;have o:=MA.CZ t p.1;rw[List.map_cons,ar (δ1:=[.fz X,.fz (.int (t:Int)),.fz (pD p),y3,y4,y5]) (δ2:=[.fz X,.fz (.int ((t ||| p.1:Nat):Int)),.fz (pD p),y3,y4,y5]) (by rfl) (by simp[dz,pD,o])];exact e
theorem nB(k:Nat):∀(T:As) (t:Nat),hasB (T.foldl (fun t p=>t ||| p.1) t) k=true↔hasB t k=true\/∃p∈T,hasB p.1 k=true
 |[],t=>by simp
 |p::T,t=>by
  show hasB (T.foldl _ (t ||| p.1)) k=true↔_;rw[nB k T,iX,Nat.testBit_or,<-iX,<-iX,Bool.or_eq_true];constructor
  ·rintro ((a|a)|⟨q,hq,a⟩)
   ·exact .inl a
   ·exact .inr ⟨p,List.mem_cons_self,a⟩
   ·exact .inr ⟨q,List.mem_cons_of_mem _ hq,a⟩
  ·rintro (a|⟨q,hq,a⟩)
   ·exact .inl (.inl a)
   ·rcases List.mem_cons.mp hq with rfl|z
    ·exact .inl (.inr a)
    ·exact .inr ⟨q,z,a⟩
noncomputable def je(h:Nat):List Nat:=(List.range (Builtin.Int.intBits (h:Int))).filter fun k=>hasB h k
theorem vc(h:Nat):h<2^Builtin.Int.intBits (h:Int):=by
 unfold Builtin.Int.intBits;split
 ·rename_i z
  have:h=0:=by simpa using z
  omega
 ·rw[Int.natAbs_natCast]
  exact Nat.lt_log2_self
theorem x9{h k n:Nat}(hn:h<2^n)(hk:hasB h k=true):k<n:=by
 refine Nat.lt_of_not_le fun q=>?_
 have:h/2^k=0:=Nat.div_eq_of_lt (Nat.lt_of_lt_of_le hn (Nat.pow_le_pow_right (by decide) q));unfold hasB at hk;rw[this]at hk;cases hk
theorem pJ(h k:Nat):k∈je h↔hasB h k=true:=by
 unfold je;rw[List.mem_filter,List.mem_range];exact⟨fun q=>q.2,fun q=>⟨x9 (vc h) q,q⟩⟩
theorem oi(h:Nat):(je h).Pairwise (· < ·):=List.pairwise_lt_range.sublist List.filter_sublist
theorem yr(X:D)(h N:Nat)(n:Int)(z2:Sl)(hN:N<=1000)(hb:mU (.int (h:Int))=some (.int n))(r:bj [.int n]=some ((List.range N).map fun k:Nat=>PyData.int (0+(k:Int)))):du [.fz X,.fz (.int (h:Int)),z2,.un,.un,.un]=some (.list (ab ((List.range N).filter fun k=>hasB h k))):=by
 unfold du ab;have hb':(Builtin.Int.intBits (h:Int):Int)=n:=by
  have:=hb;rw[qV]at this;injection this with this
  injection this
 refine b8 (xs:=List.range N) (h:=fun k:Nat=>PyData.int (0+(k:Int))) (gJ (ds:=[.int n]) (by simp[hb']) r) (by rw[List.length_range];omega) (fun k _=>?_) fun k _ _=>by simp[bf]
 have q:=nR h k;generalize hasB h k=z at *;simp[bf,q]
theorem Cf(X:D)(c:Nat)(U V:D)(B:List Nat)(acc L:List D)(k k1:Int)(h:D)(z2:Sl)(hk:k+1=k1)(hx:dJ (.list (ab B)) (.int k)=some (.int (c:Int)))(h1:bC [X,.int (c:Int)]=some U)(hs:wS (.list (ab B)) (some k1) none=some V)(h2:bo [.int (c:Int),U,V]=some (.list L))(hl:acc.length+L.length<=1000):cH [.fz X,.fz h,z2,.fz (.list (ab B)),.ow acc,.fz (.int k)]=some (.nx,[.fz X,.fz h,z2,.fz (.list (ab B)),.ow (acc++L),.fz (.int k)]):=by
 have a2:acc.length+L.length<=sizeLine:=by rw[sizeLine_eq];omega
 simp[cH,hk,hx,h1,hs,h2,vd,a2]
theorem px(T:As)(hl:T.length<=1000)(X:D)(hX:bI X=some (T.map pD))(h:D)(z2:Sl)(B:List Nat)(hB:B.length<=5):∀(C pre:List Nat) (acc:List D) (y5:Sl),B=pre++C->acc.length+C.length*100<=900->∃z5,loop (gN 5) cH ((List.range' pre.length C.length).map fun k:Nat=>PyData.int (0+(k:Int))) [.fz X,.fz h,z2,.fz (.list (ab B)),.ow acc,y5]=some (.nx,[.fz X,.fz h,z2,.fz (.list (ab B)),.ow (acc++cW (fo T C)),z5])
 |[],pre,acc,y5,_,_=>⟨y5,by rw[show cW (fo T [])=[]from rfl,List.append_nil];rfl⟩
 |c::C,pre,acc,y5,e,ha=>by
  have hlen:C.length<=5:=by
   have:=congrArg List.length e;rw[List.length_append,List.length_cons]at this;omega
  rw[List.length_cons]at ha;have hv:(hav T c).length<=1000:=by
   have:=List.length_filter_le (fun p:Nat×Nat=>hasB p.1 c) T;unfold hav;omega
  have lf:(cW (fw c (hav T c) C)).length<=100:=by
   have h1:=kL c (hav T c) C;have h2:=List.length_filter_le (fun p:List Nat×Int=>decide (p.2≠0)) (([c],sumE (hav T c)%8)::f2 c (hav T c) C)
   rw[List.length_cons]at h2;have:∀m,m<=5->vS m<=90:=by decide
   have:=this _ hlen;unfold cW fw;rw[List.length_map];omega
  have st:=Cf X c _ _ B acc _ (pre.length:Int) ((pre.length:Int)+1) h z2 rfl (by rw[e];exact kW pre c C) (j5 T c hl X hX) (by rw[e];exact mN pre c C _ rfl) (s0 c _ hv C (by omega)) (by omega);obtain⟨z5,q⟩:=px T hl X hX h z2 B hB C (pre++[c]) (acc++cW (fw c (hav T c) C)) (.fz (.int (pre.length:Int))) (by rw[e,List.append_assoc];rfl) (by rw[List.length_append];omega);refine⟨z5,?_⟩;have z:PyData.int (0+((pre.length:Nat):Int))=PyData.int (pre.length:Int):=by rw[Int.zero_add]
  rw[List.length_cons,List.range'_succ,List.map_cons,z,ar (δ1:=[.fz X,.fz h,z2,.fz (.list (ab B)),.ow acc,.fz (.int (pre.length:Int))]) (by rfl) st];rw[List.length_append]at q;refine q.trans ?_;have:cW (fo T (c::C))=cW (fw c (hav T c) C)++cW (fo T C):=by
   show cW (_++_)=_;unfold cW;rw[List.map_append]
  rw[this,List.append_assoc]
theorem Av(X:D)(PL L:List D)(B:List Nat)(F:List D)(h n:Int)(z2 z5:Sl)(hX:bI X=some PL)(lp:loop (gN 2) dz PL [.fz X,.fz (.int 0),.un,.un,.un,.un]=some (.nx,[.fz X,.fz (.int h),z2,.un,.un,.un]))(p:du [.fz X,.fz (.int h),z2,.un,.un,.un]=some (.list (ab B)))(ln:((ab B).length:Int)=n)(r:bj [.int n]=some L)(lp2:loop (gN 5) cH L [.fz X,.fz (.int h),z2,.fz (.list (ab B)),.ow [],.un]=some (.nx,[.fz X,.fz (.int h),z2,.fz (.list (ab B)),.ow F,z5]))(hF:F.length<=sizeLine):bL [X]=some (.tuple F):=by
 refine uZ rfl (δ':=[.fz X,.fz (.int h),z2,.fz (.list (ab B)),.fz (.list F),z5]) ?_;unfold gB;rw[db (δ':=[.fz X,.fz (.int 0),.un,.un,.un,.un]) (by rfl),db (δ':=[.fz X,.fz (.int h),z2,.un,.un,.un]) (by
  show(_:Option (List D)).bind _=_;rw[show(oI (oV 0) bI) [.fz X,.fz (.int 0),.un,.un,.un,.un]=some PL from hX];exact lp),db (δ':=[.fz X,.fz (.int h),z2,.fz (.list (ab B)),.un,.un]) (by
  show(_:Option D).bind _=_;rw[p];rfl),db (δ':=[.fz X,.fz (.int h),z2,.fz (.list (ab B)),.ow [],.un]) (by simp)]
 have hf:(oL (af (VL.os (af (oV 3) (aw)) de) (aw)) bj) [.fz X,.fz (.int h),z2,.fz (.list (ab B)),.ow [],.un]=some L:=gJ (ds:=[.int n]) (by simp[ln]) r;rw[db (δ':=[.fz X,.fz (.int h),z2,.fz (.list (ab B)),.ow F,z5]) (by
  show(_:Option (List D)).bind _=_;rw[hf];exact lp2)]
 show(cF (VL.os (af (oV 4) (aw)) fU)) [.fz X,.fz (.int h),z2,.fz (.list (ab B)),.fz (.list F),z5]=_;simp[hF]
theorem vv(T:As)(hl:T.length<=900)(hb:(je (orH T)).length<=5)(hs:orH T<2^900):bL [.tuple (T.map pD)]=some (.tuple (cW (fo T (je (orH T))))):=by
 obtain⟨z2,lp⟩:=oR (.tuple (T.map pD)) .un .un .un T 0 .un;obtain⟨z5,lp2⟩:=px T (by omega) (.tuple (T.map pD)) rfl (.int (orH T:Int)) z2 (je (orH T)) hb (je (orH T)) [] [] .un rfl (by show 0+_<=_;omega);have hN:Builtin.Int.intBits (orH T:Int)<=900:=MA.kR (by rw[Int.natAbs_natCast];exact hs);have lf:=nU T (je (orH T));have t5:=yX hb;exact Av _ (T.map pD) _ (je (orH T)) _ (orH T:Int) ((je (orH T)).length:Int) z2 z5 rfl lp (yr _ (orH T) (Builtin.Int.intBits (orH T:Int)) _ z2 (by omega) rfl (qb (by omega))) (by rw[bt]) (by rw[qb (by omega),List.range_eq_range'];rfl) lp2 (by unfold cW;rw[List.length_map,sizeLine_eq];omega)
theorem jS:∀(l ns:List Int),(ns++l).Nodup->l.foldl bG ns=ns++l
 |[],ns,_=>by rw[List.append_nil];rfl
 |x::l,ns,h=>by
  have hx:x ∉ ns:=fun z=>by
   have:=(List.nodup_append.mp h).2.2 x z x List.mem_cons_self;exact this rfl
  show l.foldl bG (bG ns x)=_;have e:bG ns x=ns++[x]:=if_neg hx;rw[e,jS l (ns++[x]) (by rw[List.append_assoc];exact h),List.append_assoc];rfl
theorem jR:∀(l ns:List (List Int)),(ns++l).Nodup->l.foldl bh ns=ns++l
 |[],ns,_=>by rw[List.append_nil];rfl
 |x::l,ns,h=>by
  have hx:x ∉ ns:=fun z=>by
   have:=(List.nodup_append.mp h).2.2 x z x List.mem_cons_self;exact this rfl
  show l.foldl bh (bh ns x)=_;have e:bh ns x=ns++[x]:=if_neg hx;rw[e,jR l (ns++[x]) (by rw[List.append_assoc];exact h),List.append_assoc];rfl
theorem iT:∀xs:List Nat,mH (ab xs)=some (eB xs)
 |[]=>rfl
 |x::xs=>by
  show(mH (ab xs)).bind _=_;rw[iT xs];rfl
theorem xZ{l:List Nat}(h:l.Pairwise (· < ·)):(eB l).Pairwise (· < ·):=List.pairwise_map.mpr (h.imp fun{a b} q=>by omega)
theorem Ah(l:List Nat):(eB l).map PyData.int=ab l:=by unfold eB ab;rw[List.map_map];rfl
theorem ur{l:List Nat}(h:l.Pairwise (· < ·))(hl:l.length<64):lC (.tuple (ab l))=some (.list (ab l)):=by
 have hz:=xZ h;have nd:(eB l).Nodup:=hz.imp fun{a b} q=>by omega
 have e1:dQ (eB l)=eB l:=jS (eB l) [] nd;have e2:aU (eB l)=eB l:=(gc (.refl _) (hz.imp fun{a b} q=>by omega)).symm;show(mH (ab l)).bind _=_;rw[iT,Option.bind_some,if_pos (by unfold eB;rw[List.length_map];exact hl),e1,e2,Ah]
theorem rG{F:Fm}(h:Up F)(hg:∀p∈F,Gp p)(hl:F.length<=50):lB (.list (F.map fun p=>.tuple (ab p.1)))=some (.list (F.map fun p=>.tuple (ab p.1))):=by
 have it:∀F:Fm,iS (F.map fun p=>.tuple (ab p.1))=some (F.map fun p=>eB p.1):=fun F=>by
  induction F with
  |nil=>rfl
  |cons p F ih=>
   show(mH (ab p.1)).bind _=_;rw[iT,Option.bind_some,ih];rfl
 have irr:∀l:List Nat,gX l l=false:=fun l=>by rw[<-f6];exact dW _
 have injZ:∀{a b:List Nat},eB a=eB b->a=b:=fun{a b} e=>by
  have:=congrArg (List.map Int.toNat) e;unfold eB at this;rw[List.map_map,List.map_map]at this;simpa[Function.comp_def]using this
 have nd:(F.map fun p=>eB p.1).Nodup:=List.pairwise_map.mpr (h.imp fun{p q} z e=>by
  have:=injZ e;rw[this,irr]at z;cases z)
 have e1:e9 (F.map fun p=>eB p.1)=F.map fun p=>eB p.1:=jR _ [] nd
 have e2:bT ((F.map fun p=>eB p.1).map bd)=(F.map fun p=>eB p.1).map bd:=by
  refine(f9 (.refl _) ?_).symm;rw[List.map_map];refine List.pairwise_map.mpr (h.imp fun{p q} z=>?_);show bX (bd (eB q.1)) (bd (eB p.1))=false;rw[f6];have:gX p.1 q.1=true:=z;have ne:bd (eB p.1)≠bd (eB q.1):=fun e=>by
   rw[<-f6,e,dW]at this;cases this
  have t:=dU _ _ ne;rw[f6,f6,this]at t;cases e:gX q.1 p.1 with
  |false=>rfl
  |true=>rw[e]at t;cases t
 show(iS _).bind _=_;rw[it,Option.bind_some,if_pos ⟨by rw[List.length_map];omega,fun k hk=>by
  obtain⟨p,hp,rfl⟩:=List.mem_map.mp hk;have:=(hg p hp).n0;intro z;unfold eB at z;exact this (List.map_eq_nil_iff.mp z)⟩,e1,e2,List.map_map,List.map_map]
 have kd:∀l:List Nat,(bd (eB l)).map fE=ab l:=fun l=>by
  unfold bd eB ab;rw[List.map_map,List.map_map];rfl
 congr 2;refine List.map_congr_left fun p _=>?_
 show PyData.tuple ((bd (eB p.1)).map fE)=_;rw[kd]
theorem oz(i:Int):aW [.int i]=some (.bool true):=by simp[aW,b5,dE,aL]
theorem iK(X:D):∀(l:List Nat) (y:Sl),∃z,loop (gN 1) bS (ab l) [.fz X,y]=some (.nx,[.fz X,z])
 |[],y=>⟨y,rfl⟩
 |b::l,y=>by
  obtain⟨z,e⟩:=iK X l (.fz (.int (b:Int)));refine⟨z,?_⟩;have w:=oz (b:Int);show loop (gN 1) bS (.int (b:Int)::ab l) _=_;rw[ar (δ1:=[.fz X,.fz (.int (b:Int))]) (δ2:=[.fz X,.fz (.int (b:Int))]) (by rfl) (by simp[bS,w])];exact e
theorem vf(L:List D)(e n:Int)(S:D)(z:Sl)(hn:(L.length:Int)=n)(n1:1<=n)(n3:n<=3)(e1:1<=e)(e7:e<=7)(lp:loop (gN 1) bS L [.fz (.tuple [.tuple L,.int e]),.un]=some (.nx,[.fz (.tuple [.tuple L,.int e]),z]))(hs:lC (.tuple L)=some S)(hq:(jY [.tuple L]).bind (fun a=>n4 a S)=some (.bool true)):bq [.tuple [.tuple L,.int e]]=some (.bool true):=by
 have w:=oz e;have a1:¬e<1:=by omega
 have a2:¬ 7<e:=by omega
 have a3:¬n<1:=by omega
 have a4:¬ 3<n:=by omega
 obtain⟨a,ha,hq⟩:=Option.bind_eq_some_iff.mp hq;simp[-aB,-eA,bZ,da,bq,b5,d6,aL,w,hn,a1,a2,a3,a4,lp,hs,ha,hq]
theorem oH(k:Nat)(hs:List Nat):∀x∈ab hs,MA.Sh k x:=fun x hx=>by
 obtain⟨h,_,rfl⟩:=List.mem_map.mp hx;exact MA.Sh.int k _
theorem sG{p:List Nat×Int}(g:Gp p):bq [.tuple [.tuple (ab p.1),.int p.2]]=some (.bool true):=by
 obtain⟨z,lp⟩:=iK (.tuple [.tuple (ab p.1),.int p.2]) p.1 .un;have n0:1<=p.1.length:=by
  have:=g.n0;cases h:p.1 with
  |nil=>exact absurd h this
  |cons a l=>simp
 have n3:=g.n3;refine vf (ab p.1) p.2 (p.1.length:Int) _ z (by rw[bt]) (by omega) (by omega) g.e1 g.e7 lp (ur g.up (by omega)) ?_;have:jY [.tuple (ab p.1)]=some (.list (ab p.1)):=by
  have hz:(ab p.1).length<=sizeLine:=by rw[bt,sizeLine_eq];omega
  simp[hz]
 rw[this,Option.bind_some];exact vB (MA.Sh.list (oH 1 p.1)) (by decide)
theorem Ai(hs:List Nat)(b:Nat):Ba false (.int (b:Int)) (.list (ab hs))=some (.bool (decide (b∈hs))):=by
 have f:(ab hs).all qP=true:=by
  rw[List.all_eq_true];intro d hd;obtain⟨h,_,rfl⟩:=List.mem_map.mp hd;rfl
 show(if qP (.int (b:Int))=true/\(ab hs).all qP=true then some (PyData.bool (if false=true then !x8 (.int (b:Int)) (ab hs)else x8 (.int (b:Int)) (ab hs)))else none)=_;rw[if_pos ⟨rfl,f⟩,if_neg (by decide)];congr 2;unfold x8 ab;rw[List.any_map];by_cases h:b∈hs
 ·rw[decide_eq_true h]
  exact List.any_eq_true.mpr ⟨b,h,by simp[PyData.eqv]⟩
 ·rw[decide_eq_false h]
  refine List.any_eq_false.mpr fun x hx=>?_
  simp only[Function.comp_def,PyData.eqv];intro z;have:(b:Int)=(x:Int)\/(x:Int)=(b:Int):=by first|exact .inl (by simpa using z)|exact .inr (by simpa using z)
  exact h (by rw[show b=x by omega];exact hx)
theorem i7(σ:Nat->Bool):∀l:List Nat,((l.filter σ).length:Int)=(l.length:Int)↔l.all σ = true
 |[]=>by simp
 |a::l=>by
  have ih:=i7 σ l;have le:=List.length_filter_le σ l;rw[List.filter_cons,List.all_cons,List.length_cons];cases h:σ a with
  |true=>
   rw[if_pos rfl,List.length_cons,Bool.true_and];exact⟨fun z=>ih.mp (by omega),fun z=>by have:=ih.mpr z;omega⟩
  |false=>
   rw[if_neg (by decide),Bool.false_and];constructor
   ·intro z;omega
   ·intro z;cases z
theorem nT(X:D)(st:List Nat)(r:Int)(p:List Nat×Int)(hp:p.1.length<=100):aF [.fz X,.fz (.list (ab st)),.fz (.int r),.fz (.tuple (ab p.1)),.fz (.int p.2)]=some (.nx,[.fz X,.fz (.list (ab st)),.fz (.int (r+if p.1.all (fun x=>decide (x∈st))=true then p.2 else 0)),.fz (.tuple (ab p.1)),.fz (.int p.2)]):=by
 have c:bP [.fz X,.fz (.list (ab st)),.fz (.int r),.fz (.tuple (ab p.1)),.fz (.int p.2)]=some (.list (ab (p.1.filter fun x=>decide (x∈st)))):=by
  unfold bP;show _=some (PyData.list ((p.1.filter fun x=>decide (x∈st)).map fun k:Nat=>PyData.int (k:Int)))
  refine b8 (xs:=p.1) (h:=fun k:Nat=>PyData.int (k:Int)) (by simp;rfl) (by omega) (fun k _=>?_) fun k _ _=>by simp[bf]
  have:=Ai st k;simp[bf,this]
 have l1:((ab (p.1.filter fun x=>decide (x∈st))).length:Int)=((p.1.filter fun x=>decide (x∈st)).length:Int):=by rw[bt]
 have l2:((ab p.1).length:Int)=(p.1.length:Int):=by rw[bt]
 by_cases h:p.1.all (fun x=>decide (x∈st))=true
 ·have q:=(i7 (fun x=>decide (x∈st)) p.1).mpr h
  rw[if_pos h];generalize ((p.1.filter fun x=>decide (x∈st)).length:Int)=a at *
  generalize (p.1.length:Int)=b at *;subst q;simp[-aB,-eA,bZ,da,aF,c,l1,l2]
 ·have q:¬_:=fun z=>h ((i7 (fun x=>decide (x∈st)) p.1).mp z)
  rw[if_neg h,Int.add_zero];generalize ((p.1.filter fun x=>decide (x∈st)).length:Int)=a at *
  generalize (p.1.length:Int)=b at *;simp[-aB,-eA,bZ,da,aF,c,l1,l2,q]
theorem i4(X:D)(st:List Nat):∀(F:Fm) (r:Int) (y3 y4:Sl),(∀p∈F,p.1.length<=100)->∃z3 z4,loop (yc [gN 3,gN 4]) aF (cW F) [.fz X,.fz (.list (ab st)),.fz (.int r),y3,y4]=some (.nx,[.fz X,.fz (.list (ab st)),.fz (.int (r+bz (fun x=>decide (x∈st)) F)),z3,z4])
 |[],r,y3,y4,_=>⟨y3,y4,by rw[show bz (fun x=>decide (x∈st)) []=0 from rfl,Int.add_zero];rfl⟩
 |p::F,r,y3,y4,h=>by
  obtain⟨z3,z4,e⟩:=i4 X st F (r+if p.1.all (fun x=>decide (x∈st))=true then p.2 else 0) (.fz (.tuple (ab p.1))) (.fz (.int p.2)) fun q hq=>h q (List.mem_cons_of_mem _ hq)
  refine⟨z3,z4,?_⟩;show loop (yc [gN 3,gN 4]) aF (.tuple [.tuple (ab p.1),.int p.2]::cW F) _=_;rw[ar (δ1:=[.fz X,.fz (.list (ab st)),.fz (.int r),.fz (.tuple (ab p.1)),.fz (.int p.2)]) (by rfl) (nT X st r p (h p List.mem_cons_self)),e];show _=some (Fl.nx,[.fz X,.fz (.list (ab st)),.fz (.int (r+((if p.1.all (fun x=>decide (x∈st))=true then p.2 else 0)+bz (fun x=>decide (x∈st)) F))),z3,z4])
  rw[Int.add_assoc]
theorem sZ(F:Fm)(st:List Nat)(h:∀p∈F,p.1.length<=100):aC [.tuple (cW F),.list (ab st)]=some (.int (bz (fun x=>decide (x∈st)) F%8)):=by
 obtain⟨z3,z4,e⟩:=i4 (.tuple (cW F)) st F 0 .un .un h;rw[Int.zero_add]at e;simp[aC,b5,b9,aL,e]
noncomputable def cntS(S:Nat):List Nat->Nat
 |[]=>0
 |x::l=>S/2^x%2+cntS S l
noncomputable def qz(st:List Nat):As->Int
 |[]=>0
 |p::T=>(p.2:Int)*((cntS p.1 st%2:Nat):Int)+qz st T
theorem u7{a:Nat}(b:Nat)(ha:a<2^60):jv (.int (a:Int)) (.int (b:Int))=some (.int ((a:Int)*(b:Int))):=by
 have:IntMulOk (a:Int) (b:Int):=.of_left (Nat.le_trans (MA.kR (m:=60) (by rw[Int.natAbs_natCast];exact ha)) (by decide));rw[iE this]
theorem BH(X Y:D)(r e S m x v u w:Int)(s:gS (.int S) (.int x)=some (.int v))(m2:cq (.int v) (.int 2)=some (.int u))(c:m+u=w):aN [.fz X,.fz Y,.fz (.int r),.fz (.int S),.fz (.int e),.fz (.int m),.fz (.int x)]=some (.nx,[.fz X,.fz Y,.fz (.int r),.fz (.int S),.fz (.int e),.fz (.int w),.fz (.int x)]):=by
 subst c;simp only[aN,cj,o2,oV,oC,List.getElem?_cons_succ,List.getElem?_cons_zero,wR,Option.bind_some,s,m2,tT,List.set_cons_succ,List.set_cons_zero]
theorem vW(X Y:D)(r e:Int)(S:Nat):∀(l:List Nat) (m:Nat) (y:Sl),∃z,loop (gN 6) aN (ab l) [.fz X,.fz Y,.fz (.int r),.fz (.int (S:Int)),.fz (.int e),.fz (.int (m:Int)),y]=some (.nx,[.fz X,.fz Y,.fz (.int r),.fz (.int (S:Int)),.fz (.int e),.fz (.int ((m+cntS S l:Nat):Int)),z])
 |[],m,y=>⟨y,rfl⟩
 |x::l,m,y=>by
  obtain⟨z,h⟩:=vW X Y r e S l (m+S/2^x%2) (.fz (.int (x:Int)));refine⟨z,?_⟩;have s:=kq S x;have m2:=fB (S/2^x);have c:(m:Int)+((S/2^x%2:Nat):Int)=((m+S/2^x%2:Nat):Int):=by omega
  have st:aN [.fz X,.fz Y,.fz (.int r),.fz (.int (S:Int)),.fz (.int e),.fz (.int (m:Int)),.fz (.int (x:Int))]=some (.nx,[.fz X,.fz Y,.fz (.int r),.fz (.int (S:Int)),.fz (.int e),.fz (.int ((m+S/2^x%2:Nat):Int)),.fz (.int (x:Int))]):=by
   exact BH X Y r e _ _ _ _ _ _ s m2 c
  show loop (gN 6) aN (.int (x:Int)::ab l) _=_;rw[ar (δ1:=[.fz X,.fz Y,.fz (.int r),.fz (.int (S:Int)),.fz (.int e),.fz (.int (m:Int)),.fz (.int (x:Int))]) (by rfl) st,h,Nat.add_assoc];rfl
theorem BG(X Y:D)(L:List D)(r S e c u q:Int)(y5 y6 w6:Sl)(hY:bI Y=some L)(e1:loop (gN 6) aN L [.fz X,.fz Y,.fz (.int r),.fz (.int S),.fz (.int e),.fz (.int 0),y6]=some (.nx,[.fz X,.fz Y,.fz (.int r),.fz (.int S),.fz (.int e),.fz (.int c),w6]))(d:cq (.int c) (.int 2)=some (.int u))(m:jv (.int e) (.int u)=some (.int q)):bQ [.fz X,.fz Y,.fz (.int r),.fz (.int S),.fz (.int e),y5,y6]=some (.nx,[.fz X,.fz Y,.fz (.int (r+q)),.fz (.int S),.fz (.int e),.fz (.int c),w6]):=by
 simp[-aB,-eA,bZ,da,bQ,hY,e1,d,m]
theorem rR(X:D)(st:List Nat):∀(T:As) (r:Int) (y3 y4 y5 y6:Sl),(∀p∈T,p.2<8)->∃z3 z4 z5 z6,loop (yc [gN 3,gN 4]) bQ (T.map pD) [.fz X,.fz (.list (ab st)),.fz (.int r),y3,y4,y5,y6]=some (.nx,[.fz X,.fz (.list (ab st)),.fz (.int (r+qz st T)),z3,z4,z5,z6])
 |[],r,y3,y4,y5,y6,_=>⟨y3,y4,y5,y6,by rw[show qz st []=0 from rfl,Int.add_zero];rfl⟩
 |p::T,r,y3,y4,y5,y6,h=>by
  have p8:=h p List.mem_cons_self;obtain⟨w6,e1⟩:=vW X (.list (ab st)) r (p.2:Int) p.1 st 0 y6;rw[Nat.zero_add]at e1;have e1:loop (gN 6) aN (ab st) [.fz X,.fz (.list (ab st)),.fz (.int r),.fz (.int (p.1:Int)),.fz (.int (p.2:Int)),.fz (.int 0),y6]=some (.nx,[.fz X,.fz (.list (ab st)),.fz (.int r),.fz (.int (p.1:Int)),.fz (.int (p.2:Int)),.fz (.int (cntS p.1 st:Int)),w6]):=e1;have m:=u7 (a:=p.2) (cntS p.1 st%2) (Nat.lt_of_lt_of_le p8 (by decide));have d:=fB (cntS p.1 st);obtain⟨z3,z4,z5,z6,e⟩:=rR X st T (r+(p.2:Int)*((cntS p.1 st%2:Nat):Int)) (.fz (.int (p.1:Int))) (.fz (.int (p.2:Int))) (.fz (.int (cntS p.1 st:Int))) w6 fun q hq=>h q (List.mem_cons_of_mem _ hq)
  refine⟨z3,z4,z5,z6,?_⟩;have st2:bQ [.fz X,.fz (.list (ab st)),.fz (.int r),.fz (.int (p.1:Int)),.fz (.int (p.2:Int)),y5,y6]=some (.nx,[.fz X,.fz (.list (ab st)),.fz (.int (r+(p.2:Int)*((cntS p.1 st%2:Nat):Int))),.fz (.int (p.1:Int)),.fz (.int (p.2:Int)),.fz (.int (cntS p.1 st:Int)),w6]):=by
   exact BG X (.list (ab st)) (ab st) r _ _ _ _ _ y5 y6 w6 rfl e1 d m
  rw[List.map_cons,ar (δ1:=[.fz X,.fz (.list (ab st)),.fz (.int r),.fz (.int (p.1:Int)),.fz (.int (p.2:Int)),y5,y6]) (by rfl) st2,e,Int.add_assoc];rfl
theorem uy(T:As)(st:List Nat)(h:∀p∈T,p.2<8):bp [.tuple (T.map pD),.list (ab st)]=some (.int (qz st T%8)):=by
 obtain⟨z3,z4,z5,z6,e⟩:=rR (.tuple (T.map pD)) st T 0 .un .un .un .un h;rw[Int.zero_add]at e;simp[bp,b5,d5,aL,e]
theorem tL(S:Nat):∀l:List Nat,cntS S l=(l.filter fun x=>hasB S x).length
 |[]=>rfl
 |x::l=>by
  have ih:=tL S l;rw[List.filter_cons];show S/2^x%2+cntS S l=_;by_cases h:S/2^x%2=1
  ·rw[if_pos (by unfold hasB;exact decide_eq_true h),List.length_cons,h,ih];omega
  ·rw[if_neg (by unfold hasB;simp[h]),ih];omega
theorem zT(σ:Nat->Bool)(S:Nat):∀l:List Nat,n1 σ S l=((l.filter fun x=>hasB S x && σ x).length:Int)
 |[]=>rfl
 |x::l=>by
  have ih:=zT σ S l;rw[List.filter_cons];show(if hasB S x=true /\ σ x=true then 1 else 0)+n1 σ S l=_;by_cases h:hasB S x=true /\ σ x=true
  ·rw[if_pos h,if_pos (by rw[h.1,h.2];rfl),List.length_cons,ih];omega
  ·rw[if_neg h,if_neg (by simpa using h),ih];omega
theorem tK{S:Nat}{st B:List Nat}(n1':st.Nodup)(n2':B.Nodup)(h:∀x,hasB S x=true->x∈B):(cntS S st:Int)=n1 (fun x=>decide (x∈st)) S B:=by
 rw[tL,zT];have a:(st.filter fun x=>hasB S x).Nodup:=n1'.sublist List.filter_sublist;have b:(B.filter fun x=>hasB S x&&decide (x∈st)).Nodup:=n2'.sublist List.filter_sublist
 have l1:=lW _ (B.filter fun x=>hasB S x&&decide (x∈st)) a fun x hx=>by
  obtain⟨q1,q2⟩:=List.mem_filter.mp hx;exact List.mem_filter.mpr ⟨h x q2,by rw[q2];simpa using q1⟩
 have l2:=lW _ (st.filter fun x=>hasB S x) b fun x hx=>by
  obtain⟨q1,q2⟩:=List.mem_filter.mp hx;simp only[Bool.and_eq_true,decide_eq_true_eq]at q2;exact List.mem_filter.mpr ⟨q2.2,q2.1⟩
 omega
theorem mi{st B:List Nat}(n1':st.Nodup)(n2':B.Nodup):∀T:As,(∀p∈T,∀x,hasB p.1 x=true->x∈B)->qz st T=yK (fun x=>decide (x∈st)) B T
 |[],_=>rfl
 |p::T,h=>by
  have ih:=mi n1' n2' T fun q hq=>h q (List.mem_cons_of_mem _ hq)
  have c:=tK n1' n2' (h p List.mem_cons_self);show(p.2:Int)*((cntS p.1 st%2:Nat):Int)+qz st T=(p.2:Int)*(n1 _ p.1 B%2)+yK _ B T;rw[ih,<-c];rfl
structure GS (bs:List Nat) (s:Nat):Prop where
 mem:∀x,hasB s x=true->x∈bs
 lt:s<2^300
theorem vo{s c x:Nat}(h:s<2^c)(hx:hasB (s+2^c) x=true):hasB s x=true\/x=c:=by
 have e:s+2^c=2^c ||| s:=by
  have:=Nat.two_pow_add_eq_or_of_lt h 1;rw[Nat.mul_one]at this;omega
 rw[e,iX,Nat.testBit_or,Nat.testBit_two_pow,Bool.or_eq_true,decide_eq_true_eq]at hx;rcases hx with z|z
 ·exact .inr z.symm
 ·exact .inl (by rw[iX];exact z)
theorem BU(X B:D)(es:List (ak×D))(cell s k q c w v:Int)(h1:gS (.int cell) (.int k)=some (.int q))(hm:cq (.int q) (.int 2)=some (.int 1))(hx:dJ B (.int k)=some (.int c))(sh:pW (.int 1) (.int c)=some (.int w))(e:s+w=v):aR [.fz X,.fz B,.od es,.fz (.int cell),.fz (.int s),.fz (.int k)]=some (.nx,[.fz X,.fz B,.od es,.fz (.int cell),.fz (.int v),.fz (.int k)]):=by
 subst e;simp[-aB,-eA,bZ,da,aR,h1,hm,hx,sh]
theorem BX(X B:D)(es:List (ak×D))(cell s k q m:Int)(h1:gS (.int cell) (.int k)=some (.int q))(hm:cq (.int q) (.int 2)=some (.int m))(h:¬m=1):aR [.fz X,.fz B,.od es,.fz (.int cell),.fz (.int s),.fz (.int k)]=some (.nx,[.fz X,.fz B,.od es,.fz (.int cell),.fz (.int s),.fz (.int k)]):=by
 simp[-aB,-eA,bZ,da,aR,h1,hm,h]
theorem kB(X:D)(es:List (ak×D))(cell:Int)(bs:List Nat)(up:bs.Pairwise (· < ·))(hb:∀b∈bs,b<=250):∀(C pre:List Nat) (s:Nat) (y5:Sl),bs=pre++C->(∀c∈C,s<2^c)->GS bs s->∃s' z5,GS bs s'/\loop (gN 5) aR ((List.range' pre.length C.length).map fun k:Nat=>PyData.int (0+(k:Int))) [.fz X,.fz (.list (ab bs)),.od es,.fz (.int cell),.fz (.int (s:Int)),y5]=some (.nx,[.fz X,.fz (.list (ab bs)),.od es,.fz (.int cell),.fz (.int (s':Int)),z5])
 |[],pre,s,y5,_,_,g=>⟨s,y5,g,rfl⟩
 |c::C,pre,s,y5,e,hs,g=>by
  have z:PyData.int (0+((pre.length:Nat):Int))=PyData.int (pre.length:Int):=by rw[Int.zero_add]
  have sc:=hs c List.mem_cons_self;have cb:c∈bs:=by rw[e];exact List.mem_append_right _ List.mem_cons_self
  have c250:=hb c cb;have h1:gS (.int cell) (.int (pre.length:Int))=some (.int (cell/2^pre.length)):=by
   rw[lF (by omega),Int.toNat_natCast]
  obtain⟨m,hm⟩:∃m,cq (.int (cell/2^pre.length)) (.int 2)=some (.int m):=⟨_,rfl⟩;have up':(pre++c::C).Pairwise (· < ·):=by rw[<-e];exact up
  have cC:∀c'∈C,c<c':=(List.pairwise_cons.mp (List.pairwise_append.mp up').2.1).1;have hx:=kW pre c C;rw[<-e]at hx;by_cases q:m=1
  ·subst q
   have p2:s+2^c<2^(c+1):=by rw[Nat.pow_succ];omega
   have g':GS bs (s+2^c):=⟨fun x hx=>(vo sc hx).elim (g.mem x) fun z=>z ▸ cb,Nat.lt_of_lt_of_le p2 (Nat.pow_le_pow_right (by decide) (by omega))⟩
   obtain⟨s',z5,g2,h⟩:=kB X es cell bs up hb C (pre++[c]) (s+2^c) (.fz (.int (pre.length:Int))) (by rw[e,List.append_assoc];rfl) (fun c' hc'=>Nat.lt_of_lt_of_le p2 (Nat.pow_le_pow_right (by decide) (cC c' hc'))) g'
   refine⟨s',z5,g2,?_⟩;have st:=BU X (.list (ab bs)) es cell (s:Int) (pre.length:Int) _ _ _ ((s+2^c:Nat):Int) h1 hm hx (r6 (k:=c) (by omega)) (by omega);rw[List.length_cons,List.range'_succ,List.map_cons,z,ar (δ1:=[.fz X,.fz (.list (ab bs)),.od es,.fz (.int cell),.fz (.int (s:Int)),.fz (.int (pre.length:Int))]) (by rfl) st];rw[List.length_append]at h;exact h
  ·obtain⟨s',z5,g2,h⟩:=kB X es cell bs up hb C (pre++[c]) s (.fz (.int (pre.length:Int))) (by rw[e,List.append_assoc];rfl) (fun c' hc'=>hs c' (List.mem_cons_of_mem _ hc')) g
   refine⟨s',z5,g2,?_⟩;have st:=BX X (.list (ab bs)) es cell (s:Int) (pre.length:Int) _ _ h1 hm q;rw[List.length_cons,List.range'_succ,List.map_cons,z,ar (δ1:=[.fz X,.fz (.list (ab bs)),.od es,.fz (.int cell),.fz (.int (s:Int)),.fz (.int (pre.length:Int))]) (by rfl) st];rw[List.length_append]at h;exact h
theorem B0(X B:D)(L:List D)(es es':List (ak×D))(cell s d G v:Int)(y4 y5 z5:Sl)(r:bj [.int 5]=some L)(lp:loop (gN 5) aR L [.fz X,.fz B,.od es,.fz (.int cell),.fz (.int 0),y5]=some (.nx,[.fz X,.fz B,.od es,.fz (.int cell),.fz (.int s),z5]))(hd:n6 (.int cell) (.int 32)=some (.int d))(hG:(gk es (.inl s)).getD (.int 0)=.int G)(hv:cq (.int (G+d)) (.int 8)=some (.int v))(hl:es.length<sizeLine)(hp:qi es (.inl s) (.int v)=es'):bB [.fz X,.fz B,.od es,.fz (.int cell),y4,y5]=some (.nx,[.fz X,.fz B,.od es',.fz (.int cell),.fz (.int s),z5]):=by
 subst hp;unfold bB;rw[db (δ':=[.fz X,.fz B,.od es,.fz (.int cell),.fz (.int 0),y5]) (by rfl)];have hf:(oL (af (oC (.int 5)) (aw)) bj) [.fz X,.fz B,.od es,.fz (.int cell),.fz (.int 0),y5]=some L:=gJ (ds:=[.int 5]) rfl r;rw[db (δ':=[.fz X,.fz B,.od es,.fz (.int cell),.fz (.int s),z5]) (by
  show(_:Option (List D)).bind _=_;rw[hf];exact lp)]
 simp[ny,nE,kD,hd,hG,hv,hl]
structure Al (bs:List Nat) (A:As) (n:Nat):Prop where
 nd:(aH A).Nodup
 ln:A.length<=n
 gs:∀k∈aH A,GS bs k
 v8:∀k,vl A k<8
theorem Al.put{bs:List Nat}{A:As}{n:Nat}(a:Al bs A n){s v:Nat}(g:GS bs s)(hv:v<8):Al bs (uD A s v) (n+1):=by
 have kp:=mn A s v;have ln:(aH (uD A s v)).length<=n+1:=by
  have h0:=a.ln;have:(aH A).length=A.length:=by unfold aH;rw[List.length_map]
  rw[kp];split
  ·omega
  ·rw[List.length_append];simp;omega
 refine⟨xF a.nd s v,by unfold aH at ln;rw[List.length_map]at ln;exact ln,fun k hk=>?_,fun k=>?_⟩
 ·rw[kp]at hk
  split at hk
  ·exact a.gs k hk
  ·rcases List.mem_append.mp hk with z|z
   ·exact a.gs k z
   ·rw[List.mem_singleton.mp z];exact g
 ·rw[wF]
  split
  ·exact hv
  ·exact a.v8 k
theorem Ao(bs:List Nat):GS bs 0 where
 mem:=fun x h=>by
  unfold hasB at h;rw[Nat.zero_div]at h;cases h
 lt:=Nat.pow_pos (by decide)
theorem oA(X:D)(bs:List Nat)(up:bs.Pairwise (· < ·))(hb:∀b∈bs,b<=250)(h5:bs.length=5):∀(cs:List Int) (A:As) (n:Nat) (y3 y4 y5:Sl),Al bs A n->n+cs.length<=500->∃A' z3 z4 z5,Al bs A' (n+cs.length)/\loop (gN 3) bB (cs.map .int) [.fz X,.fz (.list (ab bs)),.od (gZ A),y3,y4,y5]=some (.nx,[.fz X,.fz (.list (ab bs)),.od (gZ A'),z3,z4,z5])
 |[],A,n,y3,y4,y5,a,_=>⟨A,y3,y4,y5,a,rfl⟩
 |c::cs,A,n,y3,y4,y5,a,hn=>by
  rw[List.length_cons]at hn;have ln:=a.ln;obtain⟨s,z5,g,lp⟩:=kB X (gZ A) c bs up hb bs [] 0 y5 rfl (fun c hc=>Nat.pow_pos (by decide)) (Ao bs)
  rw[h5]at lp;have r5:bj [.int 5]=some ((List.range' 0 5).map fun k:Nat=>PyData.int (0+(k:Int))):=by
   rw[show(5:Int)=((5:Nat):Int)from rfl,qb (by decide),List.range_eq_range']
  have v0:0<=((vl A s:Int)+c/32)%8:=by omega
  have v8:((vl A s:Int)+c/32)%8<8:=by omega
  have ve:(((((vl A s:Int)+c/32)%8).toNat:Nat):Int)=((vl A s:Int)+c/32)%8:=by omega
  have st:=B0 X (.list (ab bs)) _ (gZ A) _ c (s:Int) (c/32) (vl A s:Int) ((((((vl A s:Int)+c/32)%8).toNat:Nat):Int)) y4 y5 z5 r5 lp rfl (yb A s) (by rw[ve];rfl) (by unfold gZ;rw[List.length_map,sizeLine_eq];omega) (uB A s _);obtain⟨A',z3,z4,w5,a',h⟩:=oA X bs up hb h5 cs _ (n+1) (.fz (.int c)) (.fz (.int (s:Int))) z5 (a.put g (v:=(((vl A s:Int)+c/32)%8).toNat) (by omega)) (by omega);refine⟨A',z3,z4,w5,by rw[List.length_cons,show n+(cs.length+1)=n+1+cs.length by omega];exact a',?_⟩;rw[List.map_cons,ar (δ1:=[.fz X,.fz (.list (ab bs)),.od (gZ A),.fz (.int c),y4,y5]) (by rfl) st];exact h
theorem BW(X B:D)(A:As)(nd:(aH A).Nodup)(hl:A.length<64)(z3 z4 z5:Sl):∃rs:List Nat,rs.Perm (aH A)/\ce [.fz X,.fz B,.fz (.dict (g0 (lI A))),z3,z4,z5]=some (.list ((qk A rs).map pD)):=by
 obtain⟨rs,e,p,pw⟩:=ut (aH A) nd;refine⟨rs,p,?_⟩;have hln:rs.length<64:=by rw[p.length_eq];unfold aH;rw[List.length_map];exact hl
 have so:nj (.dict (g0 (lI A)))=some (.list (rs.map fun k:Nat=>PyData.int (k:Int))):=by
  show(gG (g0 (lI A))).bind _=_;rw[dn,Option.bind_some,wk,mo,Option.bind_some,if_pos (by rw[List.length_map];unfold aH;rw[List.length_map];exact hl),e,List.map_map];rfl
 have gf:∀k∈rs,pb (.dict (g0 (lI A))) (.int (k:Int))=some (.int (vl A k:Int)):=fun k hk=>by
  show(gG (g0 (lI A))).bind _=_;rw[dn,Option.bind_some];show(iZ (lI A) (.inl (k:Int))).map PyData.int=_;rw[vp (p.mem_iff.mp hk)];rfl
 have e2:(qk A rs).map pD=(rs.filter fun k=>decide (0<k/\0<vl A k)).map fun k=>pD (k,vl A k):=by unfold qk;rw[List.map_map];rfl
 rw[e2];unfold ce;refine b8 (xs:=rs) (h:=fun k:Nat=>PyData.int (k:Int)) (by simp[so]) (by omega) (fun k hk=>?_) fun k hk _=>?_
 ·have g:=gf k hk
  by_cases h1:0<k
  ·by_cases h2:0<vl A k
   ·simp[bf,g,h1,h2]
   ·simp[bf,g,h1,h2]
  ·simp[bf,h1]
 ·have g:=gf k hk
  simp[bf,g,pD]
theorem Ci(A:As)(x0 x1 x3 x4 x5:Sl):qU 2 [x0,x1,.od (gZ A),x3,x4,x5]=[x0,x1,.fz (.dict (g0 (lI A))),x3,x4,x5]:=by
 have h:=o4 A;show(match j2 (gZ A)with|some l'=>_|none=>_)=_
 rw[h];rfl
theorem zW(X B:D)(PL L:List D)(A:As)(z3 z4 z5:Sl)(hX:bI X=some PL)(lp:loop (gN 3) bB PL [.fz X,.fz B,.od [],.un,.un,.un]=some (.nx,[.fz X,.fz B,.od (gZ A),z3,z4,z5]))(p:ce [.fz X,.fz B,.fz (.dict (g0 (lI A))),z3,z4,z5]=some (.list L))(hl:L.length<=sizeLine):aG [X,B]=some (.tuple L):=by
 have d:=Ci A (.fz X) (.fz B) z3 z4 z5;simp[-aB,-eA,bZ,da,aG,b5,dF,aL,rQ,hX,lp,d,p,hl]
theorem qy(cs:List Int)(hc:cs.length<=63)(bs:List Nat)(up:bs.Pairwise (· < ·))(hb:∀b∈bs,b<=250)(h5:bs.length=5):∃R:As,R.length<=63/\(∀p∈R,GS bs p.1/\p.2<8)/\aG [.list (cs.map .int),.list (ab bs)]=some (.tuple (R.map pD)):=by
 obtain⟨A,z3,z4,z5,a,lp⟩:=oA (.list (cs.map .int)) bs up hb h5 cs [] 0 .un .un .un ⟨List.nodup_nil,Nat.le_refl _,fun k h=>(by cases h),fun k=>(by show 0<8;decide)⟩ (by omega)
 have ln:=a.ln;obtain⟨rs,p,e⟩:=BW (.list (cs.map .int)) (.list (ab bs)) A a.nd (by omega) z3 z4 z5;have rl:rs.length<=63:=by rw[p.length_eq];unfold aH;rw[List.length_map];omega
 have pl:(qk A rs).length<=63:=by
  unfold qk;rw[List.length_map];exact Nat.le_trans (List.length_filter_le _ _) rl
 refine⟨qk A rs,pl,fun q hq=>?_,zW _ _ _ _ A z3 z4 z5 rfl lp e (by rw[List.length_map,sizeLine_eq];omega)⟩
 obtain⟨k,hk,rfl⟩:=List.mem_map.mp hq;exact⟨a.gs k (p.mem_iff.mp (List.mem_filter.mp hk).1),a.v8 k⟩
theorem wa{n:Nat}:∀(T:As) (t:Nat),t<2^n->(∀p∈T,p.1<2^n)->T.foldl (fun t p=>t ||| p.1) t<2^n
 |[],t,h,_=>h
 |p::T,t,h,hp=>wa T (t ||| p.1) (Nat.or_lt_two_pow h (hp p List.mem_cons_self)) fun q hq=>hp q (List.mem_cons_of_mem _ hq)
theorem zk(X F B:D)(x3 x4:Sl)(bs:List Nat)(hB:B=.list (ab bs))(h5:bs.length=5)(w:Nat)(z6:Sl):cc [.fz X,.fz B,.fz F,x3,x4,.fz (.int (w:Int)),z6]=some (.list (ab (((List.range 5).filter fun k=>hasB w k).map fun k=>bs.getD k 0))):=by
 subst hB;have e:ab (((List.range 5).filter fun k=>hasB w k).map fun k=>bs.getD k 0)=((List.range 5).filter fun k=>hasB w k).map fun k=>PyData.int ((bs.getD k 0:Nat):Int):=by unfold ab;rw[List.map_map];rfl
 rw[e];unfold cc;refine b8 (xs:=List.range 5) (h:=fun k:Nat=>PyData.int (0+(k:Int))) (gJ (ds:=[.int 5]) rfl (qb (n:=5) (by decide))) (by simp) (fun k hk=>?_) fun k hk _=>?_
 ·rw[Int.zero_add]
  exact zK w k (by simp[bf]) (by simp[bf])
 ·have:dJ (.list (ab bs)) (.int (k:Int))=some (.int ((bs.getD k 0:Nat):Int)):=iD bs (by have:=List.mem_range.mp hk;omega)
  simp[bf,this]
theorem wI{l:List Nat}(h:l.Pairwise (· < ·)):∀(i j:Nat),i<j->j<l.length->l.getD i 0<l.getD j 0:=fun i j hij hj=>by
 rw[List.getD_eq_getElem?_getD,List.getD_eq_getElem?_getD,List.getElem?_eq_getElem hj,List.getElem?_eq_getElem (by omega)];exact List.pairwise_iff_getElem.mp h i j (by omega) hj hij
theorem wQ{bs:List Nat}(up:bs.Pairwise (· < ·))(h5:bs.length=5)(w:Nat):(((List.range 5).filter fun k=>hasB w k).map fun k=>bs.getD k 0).Nodup:=by
 refine List.pairwise_map.mpr ?_;have:((List.range 5).filter fun k=>hasB w k).Pairwise (· < ·):=List.pairwise_lt_range.sublist List.filter_sublist
 refine List.Pairwise.imp_of_mem ?_ this;intro a b ha hb q;have hb:=List.mem_range.mp (List.mem_filter.mp hb).1;have:=wI up a b q (by omega);omega
theorem yU(X F B S:D)(x3 x4:Sl)(w r:Int)(z6:Sl)(p:cc [.fz X,.fz B,.fz F,x3,x4,.fz (.int w),z6]=some S)(h1:bp [X,S]=some (.int r))(h2:aC [F,S]=some (.int r)):aZ [.fz X,.fz B,.fz F,x3,x4,.fz (.int w),z6]=some (.nx,[.fz X,.fz B,.fz F,x3,x4,.fz (.int w),.fz S]):=by
 simp[-aB,-eA,bZ,da,aZ,p,h1,h2]
theorem jL{X F B:D}{x3 x4:Sl}(H:∀(w:Nat) (z6:Sl),∃S,aZ [.fz X,.fz B,.fz F,x3,x4,.fz (.int (w:Int)),z6]=some (.nx,[.fz X,.fz B,.fz F,x3,x4,.fz (.int (w:Int)),.fz S])):∀(l:List Nat) (y5 y6:Sl),∃z5 z6,loop (gN 5) aZ (l.map fun k:Nat=>PyData.int (0+(k:Int))) [.fz X,.fz B,.fz F,x3,x4,y5,y6]=some (.nx,[.fz X,.fz B,.fz F,x3,x4,z5,z6])
 |[],y5,y6=>⟨y5,y6,rfl⟩
 |w::l,y5,y6=>by
  obtain⟨S,st⟩:=H w y6;obtain⟨z5,z6,e⟩:=jL H l (.fz (.int (w:Int))) (.fz S);refine⟨z5,z6,?_⟩;have z:PyData.int (0+(w:Int))=PyData.int (w:Int):=by rw[Int.zero_add]
  rw[List.map_cons,z,ar (δ1:=[.fz X,.fz B,.fz F,x3,x4,.fz (.int (w:Int)),y6]) (by rfl) st];exact e
theorem lO{X B FT:D}:∀(F:Fm) (y3:Sl),(∀p∈F,Gp p)->∃z3,loop (gN 3) bb (cW F) [.fz X,.fz B,.fz FT,y3,.un,.un,.un]=some (.nx,[.fz X,.fz B,.fz FT,z3,.un,.un,.un])
 |[],y3,_=>⟨y3,rfl⟩
 |p::F,y3,h=>by
  have g:=sG (h p List.mem_cons_self);obtain⟨z3,e⟩:=lO (X:=X) (B:=B) (FT:=FT) F (.fz (.tuple [.tuple (ab p.1),.int p.2])) (fun q hq=>h q (List.mem_cons_of_mem _ hq))
  refine⟨z3,?_⟩;show loop (gN 3) bb (.tuple [.tuple (ab p.1),.int p.2]::cW F) _=_;rw[ar (δ1:=[.fz X,.fz B,.fz FT,.fz (.tuple [.tuple (ab p.1),.int p.2]),.un,.un,.un]) (δ2:=[.fz X,.fz B,.fz FT,.fz (.tuple [.tuple (ab p.1),.int p.2]),.un,.un,.un]) (by rfl) (by simp[-aB,-eA,bZ,da,bb,g])];exact e
theorem zz(X B:D)(F:Fm)(hl:F.length<=100)(z3:Sl):cf [.fz X,.fz B,.fz (.tuple (cW F)),z3,.un,.un,.un]=some (.list (F.map fun p=>.tuple (ab p.1))):=by
 unfold cf;exact mO (xs:=F) (h:=fun p:List Nat×Int=>PyData.tuple [.tuple (ab p.1),.int p.2]) (by simp;rfl) (by omega) fun p _=>by simp[bf]
theorem ux(X B:D)(FL P L32:List D)(z3 z5 z6:Sl)(hf:bL [X]=some (.tuple FL))(lp:loop (gN 3) bb FL [.fz X,.fz B,.fz (.tuple FL),.un,.un,.un,.un]=some (.nx,[.fz X,.fz B,.fz (.tuple FL),z3,.un,.un,.un]))(p:cf [.fz X,.fz B,.fz (.tuple FL),z3,.un,.un,.un]=some (.list P))(hs:lB (.list P)=some (.list P))(hn:neD (.list P) (.list P)=some (.bool false))(r:bj [.int 32]=some L32)(lp2:loop (gN 5) aZ L32 [.fz X,.fz B,.fz (.tuple FL),z3,.fz (.list P),.un,.un]=some (.nx,[.fz X,.fz B,.fz (.tuple FL),z3,.fz (.list P),z5,z6])):aO [X,B]=some (.bool true):=by
 refine uZ rfl (δ':=[.fz X,.fz B,.fz (.tuple FL),z3,.fz (.list P),z5,z6]) ?_;unfold dG;rw[db (δ':=[.fz X,.fz B,.fz (.tuple FL),.un,.un,.un,.un]) (by
  show(_:Option D).bind _=_;rw[show(VL.os (af (oV 0) (aw)) bL) (aL bW [X,B])=some (.tuple FL)from hf];rfl),db (δ':=[.fz X,.fz B,.fz (.tuple FL),.un,.un,.un,.un]) (by simp[-aB,-eA,bZ,da,]),db (s:=er (oI (oV 2) bI) (gN 3) bb) (δ':=[.fz X,.fz B,.fz (.tuple FL),z3,.un,.un,.un]) (by exact lp),db (δ':=[.fz X,.fz B,.fz (.tuple FL),z3,.fz (.list P),.un,.un]) (by
  show(_:Option D).bind _=_;rw[p];rfl),db (δ':=[.fz X,.fz B,.fz (.tuple FL),z3,.fz (.list P),.un,.un]) (by simp[-aB,-eA,bZ,da,hs,hn])]
 have hf:(oL (af (oC (.int 32)) (aw)) bj) [.fz X,.fz B,.fz (.tuple FL),z3,.fz (.list P),.un,.un]=some L32:=gJ (ds:=[.int 32]) rfl r;rw[db (δ':=[.fz X,.fz B,.fz (.tuple FL),z3,.fz (.list P),z5,z6]) (by
  show(_:Option (List D)).bind _=_;rw[hf];exact lp2)]
 rfl
theorem rS(R:As)(hR:R.length<=63)(bs:List Nat)(up:bs.Pairwise (· < ·))(h5:bs.length=5)(hg:∀p∈R,GS bs p.1/\p.2<8):aO [.tuple (R.map pD),.list (ab bs)]=some (.bool true):=by
 have hB:∀x∈je (orH R),x∈bs:=fun x hx=>by
  rcases (nB x R 0).mp ((pJ _ _).mp hx)with z|⟨p,hp,z⟩
  ·exact(Ao bs).mem x z
  ·exact(hg p hp).1.mem x z
 have ndB:(je (orH R)).Nodup:=(oi (orH R)).imp fun{a b} q=>by omega
 have hb5:(je (orH R)).length<=5:=by
  have:=lW _ bs ndB hB;omega
 have ho:orH R<2^900:=Nat.lt_of_lt_of_le (wa (n:=300) R 0 (Nat.pow_pos (by decide)) fun p hp=>(hg p hp).1.lt) (Nat.pow_le_pow_right (by decide) (by decide))
 have fe:=vv R (by omega) hb5 ho;have gp:=pA R (je (orH R)) (oi _);have ln:=nU R (je (orH R));have t5:=yX hb5;have up':=wv R (je (orH R)) (oi _);have inB:∀p∈R,∀x,hasB p.1 x=true->x∈je (orH R):=fun p hp x hx=>(pJ _ _).mpr ((nB x R 0).mpr (.inr ⟨p,hp,hx⟩))
 obtain⟨z3,lp⟩:=lO (X:=.tuple (R.map pD)) (B:=.list (ab bs)) (FT:=.tuple (cW (fo R (je (orH R))))) (fo R (je (orH R))) .un gp;have shp:MA.Sh 3 (.list ((fo R (je (orH R))).map fun p=>PyData.tuple (ab p.1))):=MA.Sh.list fun x hx=>by
  obtain⟨p,_,rfl⟩:=List.mem_map.mp hx;exact MA.Sh.tuple (oH 1 p.1)
 obtain⟨z5,z6,lp2⟩:=jL (X:=.tuple (R.map pD)) (F:=.tuple (cW (fo R (je (orH R))))) (B:=.list (ab bs)) (x3:=z3) (x4:=.fz (.list ((fo R (je (orH R))).map fun p=>PyData.tuple (ab p.1)))) (fun w z6=>by
  have e1:=uy R (((List.range 5).filter fun k=>hasB w k).map fun k=>bs.getD k 0) fun p hp=>(hg p hp).2
  have e2:=sZ (fo R (je (orH R))) (((List.range 5).filter fun k=>hasB w k).map fun k=>bs.getD k 0) fun p hp=>Nat.le_trans (gp p hp).n3 (by decide)
  rw[ye,<-mi (wQ up h5 w) ndB R inB]at e2;exact⟨_,yU _ _ _ _ _ _ _ _ z6 (zk _ _ _ _ _ bs rfl h5 w z6) e1 e2⟩) (List.range 32) .un .un
 exact ux _ _ _ _ _ z3 z5 z6 fe lp (zz _ _ _ (by omega) z3) (rG up' gp (by omega)) (u6 shp (by decide)) (qb (n:=32) (by decide)) lp2
theorem B3(X:D)(f:Int)(L:List D)(k b m d q v:Int)(hx:jn L k=some (.int b))(hm:jv (.int 7) (.int k)=some (.int m))(hd:n6 (.int f) (.int (40+m))=some (.int d))(hq:cq (.int d) (.int 30)=some (.int q))(hv:b+1+q=v)(hl:L.length<sizeLine):f7 [.fz X,.fz (.int f),.ow L,.fz (.int k)]=some (.nx,[.fz X,.fz (.int f),.ow (L++[.int v]),.fz (.int k)]):=by
 subst hv;simp[-aB,-eA,bZ,da,f7,hx,hm,hd,hq,hl]
theorem hJ(X:D)(f:Int)(bs:List Nat)(k b:Nat)(hk:k<4)(hb:bs[k]? = some b)(hl:bs.length=k+1):∃c:Nat,b<c/\c<=b+30/\f7 [.fz X,.fz (.int f),.ow (ab bs),.fz (.int (k:Int))]=some (.nx,[.fz X,.fz (.int f),.ow (ab (bs++[c])),.fz (.int (k:Int))]):=by
 have hx:jn (ab bs) (k:Int)=some (.int (b:Int)):=by
  rw[iD bs (by omega),List.getD_eq_getElem?_getD,hb];rfl
 have hm:jv (.int 7) (.int (k:Int))=some (.int (7*(k:Int))):=iE (.of_left (by decide));have hd:n6 (.int f) (.int (40+7*(k:Int)))=some (.int (f/(40+7*(k:Int)))):=tH (by omega) (by omega);have q0:0<=f/(40+7*(k:Int))%30:=by omega
 have q1:f/(40+7*(k:Int))%30<30:=by omega
 refine⟨b+1+(f/(40+7*(k:Int))%30).toNat,by omega,by omega,?_⟩;rw[qu];exact B3 X f (ab bs) k b _ _ (f/(40+7*(k:Int))%30) _ hx hm hd rfl (by omega) (by rw[bt,sizeLine_eq];omega)
theorem BT(S T B C:D)(f k k2:Int)(bs:List D)(hB:B=.list bs)(hk:k+12=k2)(sl:wS S (some k) (some k2)=some C)(g1:aG [C,B]=some T)(g2:aO [T,B]=some (.bool true)):eL [.fz S,.fz (.int f),.ow bs,.fz (.int k)]=some (.nx,[.fz S,.fz (.int f),.ow bs,.fz (.int k)]):=by
 subst hB;have so:nk 2 [.fz S,.fz (.int f),.ow bs,.fz (.int k)]=true:=rfl;have d:vF 2 [.fz S,.fz (.int f),.ow bs,.fz (.int k)]=[.fz S,.fz (.int f),.fz (.list bs),.fz (.int k)]:=rfl;have t:(lU 2 (iz (ob (VL.os (af (VL.os (af (zL (oV 0) (oP (oV 3)) (oP (o2 (oV 3) (oC (.int 12)) cM))) (af (oV 2) (aw))) aG) (af (oV 2) (aw))) aO)))) [.fz S,.fz (.int f),.ow bs,.fz (.int k)]=some false:=by
  unfold lU;rw[if_pos so,d];simp[hk,sl,g1,g2]
 unfold eL;rw[zo t];rfl
theorem oU{S:D}{f:Int}{bs:List D}(H:∀k:Int,eL [.fz S,.fz (.int f),.ow bs,.fz (.int k)]=some (.nx,[.fz S,.fz (.int f),.ow bs,.fz (.int k)])):∀(l:List Int) (y:Sl),∃z,loop (gN 3) eL (l.map .int) [.fz S,.fz (.int f),.ow bs,y]=some (.nx,[.fz S,.fz (.int f),.ow bs,z])
 |[],y=>⟨y,rfl⟩
 |k::l,y=>by
  obtain⟨z,e⟩:=oU H l (.fz (.int k));exact⟨z,by rw[List.map_cons,ar (δ1:=[.fz S,.fz (.int f),.ow bs,.fz (.int k)]) (by rfl) (H k)];exact e⟩
theorem zY(S:D)(f m n w:Int)(L4 L3:List D)(bs:List D)(z3 w3:Sl)(ln:de [S]=some (.int n))(hf:(eA (ob (o2 (VL.os (af (oV 0) (aw)) de) (oC (.int 0)) wq)) (cj 1 (o2 (oV 0) (oC (.int 0)) dJ)) (mX)) [.fz S,.fz (.int 0),.un,.un]=some (.nx,[.fz S,.fz (.int f),.un,.un]))(hm:cq (.int f) (.int 40)=some (.int m))(hw:1+m=w)(r4:bj [.int 4]=some L4)(lp:loop (gN 3) f7 L4 [.fz S,.fz (.int f),.ow [.int w],.un]=some (.nx,[.fz S,.fz (.int f),.ow bs,z3]))(r3:ir [.int 0,.int (n+1),.int 12]=some L3)(lp2:loop (gN 3) eL L3 [.fz S,.fz (.int f),.ow bs,z3]=some (.nx,[.fz S,.fz (.int f),.ow bs,w3])):pf [S]=some (.bool true):=by
 refine uZ rfl (δ':=[.fz S,.fz (.int f),.ow bs,w3]) ?_;unfold tO;have o:1<=sizeLine:=by rw[sizeLine_eq];decide
 rw[db (δ':=[.fz S,.fz (.int 0),.un,.un]) (by rfl),db (δ':=[.fz S,.fz (.int f),.un,.un]) hf,db (δ':=[.fz S,.fz (.int f),.ow [.int w],.un]) (by simp[hm,hw,o])];have f4:(oL (af (oC (.int 4)) (aw)) bj) [.fz S,.fz (.int f),.ow [.int w],.un]=some L4:=gJ (ds:=[.int 4]) rfl r4;rw[db (δ':=[.fz S,.fz (.int f),.ow bs,z3]) (by
  show(_:Option (List D)).bind _=_;rw[f4];exact lp)]
 have f3:(oL (af (oC (.int 0)) (af (o2 (VL.os (af (oV 0) (aw)) de) (oC (.int 1)) cM) (af (oC (.int 12)) (aw)))) ir) [.fz S,.fz (.int f),.ow bs,z3]=some L3:=gJ (ds:=[.int 0,.int (n+1),.int 12]) (by simp[ln]) r3;rw[db (δ':=[.fz S,.fz (.int f),.ow bs,w3]) (by
  show(_:Option (List D)).bind _=_;rw[f3];exact lp2)]
 rfl
theorem law_true(ns:List Int)(hl:ns.length<=63):pf [.list (ns.map .int)]=some (.bool true):=by
 obtain⟨f,hf⟩:∃f:Int,(eA (ob (o2 (VL.os (af (oV 0) (aw)) de) (oC (.int 0)) wq)) (cj 1 (o2 (oV 0) (oC (.int 0)) dJ)) (mX)) [.fz (.list (ns.map .int)),.fz (.int 0),.un,.un]=some (.nx,[.fz (.list (ns.map .int)),.fz (.int f),.un,.un]):=by
  cases ns with
  |nil=>exact⟨0,by rfl⟩
  |cons a l=>
   refine⟨a,?_⟩;have ln:de [.list ((a::l).map PyData.int)]=some (.int ((l.length:Int)+1)):=by simp
   have g:(0:Int)<(l.length:Int)+1:=by omega
   have i:dJ (.list ((a::l).map PyData.int)) (.int 0)=some (.int a):=by
    show jn (.int a::l.map PyData.int) 0=_;unfold jn;rw[show tY (PyData.int a::l.map PyData.int).length 0=some 0 from xR (n:=(PyData.int a::l.map PyData.int).length) (q:=0) (by simp)];rfl
   generalize PyData.list ((a::l).map PyData.int)=S at *;generalize (l.length:Int)+1=n at *;simp[-aB,-eA,bZ,da,ln,g,i]
 generalize hS:PyData.list (ns.map PyData.int)=S at *;have q0:0<=f%40:=by omega
 obtain⟨b0,e0,l0⟩:∃b0:Nat,(b0:Int)=1+f%40/\b0<=40:=⟨(1+f%40).toNat,by omega,by omega⟩;obtain⟨b1,u1,v1,s1⟩:=hJ S f [b0] 0 b0 (by decide) rfl rfl;obtain⟨b2,u2,v2,s2⟩:=hJ S f [b0,b1] 1 b1 (by decide) rfl rfl;obtain⟨b3,u3,v3,s3⟩:=hJ S f [b0,b1,b2] 2 b2 (by decide) rfl rfl;obtain⟨b4,u4,v4,s4⟩:=hJ S f [b0,b1,b2,b3] 3 b3 (by decide) rfl rfl;have up:[b0,b1,b2,b3,b4].Pairwise (· < ·):=by
  simp only[List.pairwise_cons,List.mem_cons,List.not_mem_nil,or_false,forall_eq_or_imp,forall_eq,false_implies,implies_true,List.Pairwise.nil,and_true];omega
 have hb:∀b∈[b0,b1,b2,b3,b4],b<=250:=by
  simp only[List.mem_cons,List.not_mem_nil,or_false,forall_eq_or_imp,forall_eq];omega
 have lp:loop (gN 3) f7 [.int 0,.int 1,.int 2,.int 3] [.fz S,.fz (.int f),.ow [.int (1+f%40)],.un]=some (.nx,[.fz S,.fz (.int f),.ow (ab [b0,b1,b2,b3,b4]),.fz (.int 3)]):=by
  rw[<-e0];rw[ar (δ1:=[.fz S,.fz (.int f),.ow (ab [b0]),.fz (.int 0)]) (by rfl) s1,ar (δ1:=[.fz S,.fz (.int f),.ow (ab ([b0]++[b1])),.fz (.int 1)]) (by rfl) s2,ar (δ1:=[.fz S,.fz (.int f),.ow (ab ([b0,b1]++[b2])),.fz (.int 2)]) (by rfl) s3,ar (δ1:=[.fz S,.fz (.int f),.ow (ab ([b0,b1,b2]++[b3])),.fz (.int 3)]) (by rfl) s4];rfl
 have H:∀k:Int,eL [.fz S,.fz (.int f),.ow (ab [b0,b1,b2,b3,b4]),.fz (.int k)]=some (.nx,[.fz S,.fz (.int f),.ow (ab [b0,b1,b2,b3,b4]),.fz (.int k)]):=fun k=>by
  obtain⟨cs,cl,se⟩:=vG ns (some k) (some (k+12));rw[hS]at se;obtain⟨R,rl,rg,te⟩:=qy cs (by omega) _ up hb rfl;exact BT S _ _ _ f k (k+12) _ rfl rfl se te (rS R rl _ up rfl rg)
 have ll:de [S]=some (.int (ns.length:Int)):=by rw[<-hS];simp
 obtain⟨is,e3⟩:∃is:List Int,ir [.int 0,.int ((ns.length:Int)+1),.int 12]=some (is.map .int):=by
  refine⟨(List.range (rngN 0 ((ns.length:Int)+1) 12)).map fun k:Nat=>0+(k:Int)*12,?_⟩
  rw[qd (by omega),List.map_map];rfl
 obtain⟨w3,lp2⟩:=oU H is (.fz (.int 3));exact zY S f (f%40) (ns.length:Int) _ _ _ _ _ w3 ll hf rfl rfl (by rfl) lp e3 lp2
end GN
namespace GN
open PySem PySem.Spec PyProof.Rows L2 VL
structure Txt (mg:Str->Option Value):Prop where
 sum:mg "sum" = none
 range:mg "range" = none
 len:mg "len" = none
 tuple:mg "tuple" = none
 isinstance:mg "isinstance" = none
 int:mg "int" = none
 bool:mg "bool" = none
 sorted:mg "sorted" = none
 list:mg "list" = none
 set_:mg "set" = none
section
variable{P:Program}{w:World}{K:PySem.W.Frag}{mg:Str->Option Value}{base:Heap}
theorem wU:FnScope wC ["bitset","bit"] (ag oJ):=⟨rfl,rfl,rfl,by decide +kernel,rfl,by decide +kernel,by decide +kernel⟩
theorem xC{f:Addr}{fd:FuncData}{dV:Value}(F:FunV K "has" "has" oJ f fd dV)(T:Txt mg):FnOk P w K mg base fT 1 f fd ["bitset","bit"] (jo K eE):=
 gm (k:=0) (b:=tP) F wU fun cdv A outer s H E hr=>(ao (aQ (tE (qT hr.units) (aA AJ (aA pG (aa 0) (aa 1)) ae) ae (bm _))))
theorem qa:FnScope jm ["turns","bit"] (ag dR):=⟨rfl,rfl,rfl,by decide +kernel,rfl,by decide +kernel,by decide +kernel⟩
theorem qr{f:Addr}{fd:FuncData}{dV:Value}(F:FunV K "having" "having" dR f fd dV)(T:Txt mg)(C_has:Cal P w K mg base "has" 1 eE []):FnOk P w K mg base fT 2 f fd ["turns","bit"] (jo K bC):=
 gm (k:=1) (b:=ji) F qa fun cdv A outer s H E hr=>(ao (aQ (d0 (vars:=["pair"]) (caps:=[(1,"bit")]) (by change BlkOk (ag dR).names jm _ _ _;exact⟨rfl,by decide +kernel,by decide +kernel,by decide +kernel,by decide +kernel⟩) rfl (bH (aa 0)) dq (fun _ _ _ _=>bE (i:=0) (show(["pair","bit"]:List Str).Nodup by decide +kernel) rfl (Or.inl rfl) (.inr rfl)) (fun _ _ _ _=>(cU (aP C_has (hr.mono (by decide)) rfl (ac (be cB (aa 0) ae (fun _ _=>rfl)) (ac (aa 1) ai))))) (fun _ _ _ _=>(aa 0)))))
theorem gU:FnScope cL ["turns"] (ag bi):=⟨rfl,rfl,rfl,by decide +kernel,rfl,by decide +kernel,by decide +kernel⟩
theorem gW{f:Addr}{fd:FuncData}{dV:Value}(F:FunV K "sum_of_turns" "sum_of_turns" bi f fd dV)(T:Txt mg):FnOk P w K mg base fT 1 f fd ["turns"] (jo K az):=
 gm (k:=0) (b:=cK) F gU fun cdv A outer s H E hr=>(ao (aQ (bD (AK rfl) rfl T.sum (by decide +kernel) (ac (vy (vars:=["pair"]) (caps:=[]) (by change BlkOk (ag bi).names cL _ _ _;exact⟨rfl,by decide +kernel,by decide +kernel,by decide +kernel,by decide +kernel⟩) rfl (bH (aa 0)) dq (fun _ _ _ _=>bE (i:=0) (show(["pair"]:List Str).Nodup by decide +kernel) rfl (Or.inl rfl) (.inr rfl)) (fun _ _ _ _=>(be cB (aa 0) ae (fun _ _=>rfl)))) ai))))
theorem sc_oddly_held:FnScope fR ["turns"] (ag cx):=⟨rfl,rfl,rfl,by decide +kernel,rfl,by decide +kernel,by decide +kernel⟩
theorem jr{f:Addr}{fd:FuncData}{dV:Value}(F:FunV K "oddly_held" "oddly_held" cx f fd dV)(T:Txt mg):FnOk P w K mg base fT 1 f fd ["turns"] (jo K aV):=
 gm (k:=0) (b:=dD) F sc_oddly_held fun cdv A outer s H E hr=>(aj (bg 1 sc_oddly_held.nd ae) (aj (bM PassesOwn.never rfl (bH (aa 0)) (aS 2 sc_oddly_held.nd) (ao (dI (bw (qT hr.units) (aA dM (be cB (aa 2) ae (fun _ _=>rfl)) ae) ae (bm _)) (ao (bg 1 sc_oddly_held.nd (aA AE (aa 1) (be cB (aa 2) ae (fun _ _=>rfl))))) cr))) (ao (aQ (aa 1)))))
theorem sc_form_with:FnScope cT ["bit","turns","bits"] (ag bJ):=⟨rfl,rfl,rfl,by decide +kernel,rfl,by decide +kernel,by decide +kernel⟩
theorem kx{f:Addr}{fd:FuncData}{dV:Value}(F:FunV K "form_with" "form_with" bJ f fd dV)(T:Txt mg)(C_having:Cal P w K mg base "having" 2 bC [])(C_oddly_held:Cal P w K mg base "oddly_held" 1 aV [])(C_sum_of_turns:Cal P w K mg base "sum_of_turns" 1 az [])(C_has:Cal P w K mg base "has" 1 eE []):FnOk P w K mg base fT 3 f fd ["bit","turns","bits"] (jo K bo):=
 gm (k:=2) (b:=d4) F sc_form_with fun cdv A outer s H E hr=>(aj (nh 3 sc_form_with.nd (ac (eN (ac (eN (ac (aa 0) ai)) (ac (aA dM (aP C_sum_of_turns (hr.mono (by decide)) rfl (ac (aa 1) ai)) ae) ai))) ai)) (aj (bM PassesOwn.never rfl (b6 rfl T.range (ac (bD fN rfl T.len (by decide +kernel) (ac (aa 2) ai)) ai)) (aS 4 sc_form_with.nd) (aj (bg 5 sc_form_with.nd (aP C_having (hr.mono (by decide)) rfl (ac (aa 1) (ac (be cB (aa 2) (aa 4) (fun _ _=>rfl)) ai)))) (aj (rB 3 (eN (ac (eN (ac (aa 0) (ac (be cB (aa 2) (aa 4) (fun _ _=>rfl)) ai))) (ac (aA dM (aA n9 (Az AG ae) (aP C_sum_of_turns (hr.mono (by decide)) rfl (ac (aa 5) ai))) ae) ai)))) (aj (bg 6 sc_form_with.nd (aP C_oddly_held (hr.mono (by decide)) rfl (ac (aa 5) ai))) (ao (oB 3 (d0 (vars:=["third"]) (caps:=[(0,"bit"),(2,"bits"),(4,"k"),(6,"held")]) (by change BlkOk (ag bJ).names cT _ _ _;exact⟨rfl,by decide +kernel,by decide +kernel,by decide +kernel,by decide +kernel⟩) rfl (bH (i8 (aa 2) (hE (aA di (aa 4) ae)) oQ)) dq (fun _ _ _ _=>bE (i:=0) (show(["third","bit","bits","k","held"]:List Str).Nodup by decide +kernel) rfl (Or.inl rfl) (.inr rfl)) (fun _ _ _ _=>(cU (aP C_has (hr.mono (by decide)) rfl (ac (aa 4) (ac (aa 0) ai))))) (fun _ _ _ _=>(eN (ac (eN (ac (aa 1) (ac (be cB (aa 2) (aa 3) (fun _ _=>rfl)) (ac (aa 0) ai)))) (ac ae ai))))))))))) (ao (vU 3 (aQ (d0 (vars:=["pair"]) (caps:=[]) (by change BlkOk (ag bJ).names cT _ _ _;exact⟨rfl,by decide +kernel,by decide +kernel,by decide +kernel,by decide +kernel⟩) rfl (bH (aa 3)) dq (fun _ _ _ _=>bE (i:=0) (show(["pair"]:List Str).Nodup by decide +kernel) rfl (Or.inl rfl) (.inr rfl)) (fun _ _ _ _=>(bw (vE hr.units) (be cB (aa 0) ae (fun _ _=>rfl)) ae (bm _))) (fun _ _ _ _=>(aa 0))))))))
theorem sc_form_of:FnScope gD ["turns"] (ag cZ):=⟨rfl,rfl,rfl,by decide +kernel,rfl,by decide +kernel,by decide +kernel⟩
theorem nD{f:Addr}{fd:FuncData}{dV:Value}(F:FunV K "form_of" "form_of" cZ f fd dV)(T:Txt mg)(C_has:Cal P w K mg base "has" 1 eE [])(C_form_with:Cal P w K mg base "form_with" 3 bo [])(C_having:Cal P w K mg base "having" 2 bC []):FnOk P w K mg base fT 4 f fd ["turns"] (jo K bL):=
 gm (k:=3) (b:=gB) F sc_form_of fun cdv A outer s H E hr=>(aj (bg 1 sc_form_of.nd ae) (aj (bM PassesOwn.never rfl (bH (aa 0)) (aS 2 sc_form_of.nd) (ao (bg 1 sc_form_of.nd (aA Cj (aa 1) (be cB (aa 2) ae (fun _ _=>rfl)))))) (aj (ls 3 sc_form_of.nd (vars:=["bit"]) (caps:=[(1,"held")]) (by change BlkOk (ag cZ).names gD _ _ _;exact⟨rfl,by decide +kernel,by decide +kernel,by decide +kernel,by decide +kernel⟩) rfl (b6 rfl T.range (ac (vA (aa 1)) ai)) dq (fun _ _ _ _=>bE (i:=0) (show(["bit","held"]:List Str).Nodup by decide +kernel) rfl (Or.inl rfl) (.inr rfl)) (fun _ _ _ _=>(cU (aP C_has (hr.mono (by decide)) rfl (ac (aa 1) (ac (aa 0) ai))))) (fun _ _ _ _=>(aa 0))) (aj (nh 4 sc_form_of.nd ai) (aj (bM PassesOwn.never rfl (b6 rfl T.range (ac (bD fN rfl T.len (by decide +kernel) (ac (aa 3) ai)) ai)) (aS 5 sc_form_of.nd) (ao (oB 4 (aP C_form_with (hr.mono (by decide)) rfl (ac (be cB (aa 3) (aa 5) (fun _ _=>rfl)) (ac (aP C_having (hr.mono (by decide)) rfl (ac (aa 0) (ac (be cB (aa 3) (aa 5) (fun _ _=>rfl)) ai))) (ac (i8 (aa 3) (hE (aA di (aa 5) ae)) oQ) ai))))))) (ao (vU 4 (aQ (gy pI rfl T.tuple (by decide +kernel) (ac (aa 4) ai))))))))))
theorem jq:FnScope fS ["found"] (ag cy):=⟨rfl,rfl,rfl,by decide +kernel,rfl,by decide +kernel,by decide +kernel⟩
theorem js{f:Addr}{fd:FuncData}{dV:Value}(F:FunV K "_law_whole" "_law_whole" cy f fd dV)(T:Txt mg):FnOk P w K mg base fT 1 f fd ["found"] (jo K aW):=
 gm (k:=0) (b:=dE) F jq fun cdv A outer s H E hr=>(ao (aQ (yk (i9 (T:="int") rfl T.isinstance rfl T.int (by decide +kernel) (by decide) (by decide) (aa 0)) (yg (yh (i9 (T:="bool") rfl T.isinstance rfl T.bool (by decide +kernel) (by decide) (by decide) (aa 0)))))))
theorem sc__law_turns:FnScope dH ["cells","bits"] (ag bN):=⟨rfl,rfl,rfl,by decide +kernel,rfl,by decide +kernel,by decide +kernel⟩
theorem jt{f:Addr}{fd:FuncData}{dV:Value}(F:FunV K "_law_turns" "_law_turns" bN f fd dV)(T:Txt mg):FnOk P w K mg base fT 1 f fd ["cells","bits"] (jo K aG):=
 gm (k:=0) (b:=dF) F sc__law_turns fun cdv A outer s H E hr=>(aj (ul 2 sc__law_turns.nd) (aj (bM PassesOwn.never rfl (bH (aa 0)) (aS 3 sc__law_turns.nd) (aj (bg 4 sc__law_turns.nd ae) (aj (bM PassesOwn.never rfl (b6 rfl T.range (ac ae ai)) (aS 5 sc__law_turns.nd) (ao (dI (bw (qT hr.units) (aA dM (aA pG (aa 3) (aa 5)) ae) ae (bm _)) (ao (bg 4 sc__law_turns.nd (aA di (aa 4) (aA AF ae (be cB (aa 1) (aa 5) (fun _ _=>rfl)))))) cr))) (ao (uk 2 (AW hr.units) (aa 4) (aA dM (aA di (tz 2 (AW hr.units) (aa 4) ae ⟨rfl,rfl,rfl,rfl⟩) (aA wy (aa 3) ae)) ae)))))) (ao (wP 2 (aQ (gy pI rfl T.tuple (by decide +kernel) (ac (d0 (vars:=["bitset"]) (caps:=[(2,"counts")]) (by change BlkOk (ag bN).names dH _ _ _;exact⟨rfl,by decide +kernel,by decide +kernel,by decide +kernel,by decide +kernel⟩) rfl (bH (qQ rfl T.sorted (aa 2))) dq (fun _ _ _ _=>bE (i:=0) (show(["bitset","counts"]:List Str).Nodup by decide +kernel) rfl (Or.inl rfl) (.inr rfl)) (fun _ _ _ _=>(WV.tv (wD (bw tJ (aa 0) ae (bm _)) (t7 (bw tJ (mL (AW hr.units) (aa 1) (aa 0) (fun _ _=>rfl)) ae (bm _)))))) (fun _ _ _ _=>(eN (ac (aa 0) (ac (mL (AW hr.units) (aa 1) (aa 0) (fun _ _=>rfl)) ai))))) ai)))))))
theorem sc__law_rest:FnScope gQ ["turns","setting"] (ag cN):=⟨rfl,rfl,rfl,by decide +kernel,rfl,by decide +kernel,by decide +kernel⟩
theorem kz{f:Addr}{fd:FuncData}{dV:Value}(F:FunV K "_law_rest" "_law_rest" cN f fd dV)(T:Txt mg):FnOk P w K mg base fT 1 f fd ["turns","setting"] (jo K bp):=
 gm (k:=0) (b:=d5) F sc__law_rest fun cdv A outer s H E hr=>(aj (bg 2 sc__law_rest.nd ae) (aj (bM PassesOwn.never rfl (bH (aa 0)) (sW rfl (fI (aS 3 sc__law_rest.nd) (fI (aS 4 sc__law_rest.nd) o7))) (aj (bg 5 sc__law_rest.nd ae) (aj (bM PassesOwn.never rfl (bH (aa 1)) (aS 6 sc__law_rest.nd) (ao (bg 5 sc__law_rest.nd (aA di (aa 5) (aA dM (aA pG (aa 3) (aa 6)) ae))))) (ao (bg 2 sc__law_rest.nd (aA di (aa 2) (aA n9 (aa 4) (aA dM (aa 5) ae)))))))) (ao (aQ (aA dM (aa 2) ae)))))
theorem sc__law_form_rest:FnScope ca ["form","setting"] (ag aT):=⟨rfl,rfl,rfl,by decide +kernel,rfl,by decide +kernel,by decide +kernel⟩
theorem fA{f:Addr}{fd:FuncData}{dV:Value}(F:FunV K "_law_form_rest" "_law_form_rest" aT f fd dV)(T:Txt mg):FnOk P w K mg base fT 1 f fd ["form","setting"] (jo K aC):=
 gm (k:=0) (b:=b9) F sc__law_form_rest fun cdv A outer s H E hr=>(aj (bg 2 sc__law_form_rest.nd ae) (aj (bM PassesOwn.never rfl (bH (aa 0)) (sW rfl (fI (aS 3 sc__law_form_rest.nd) (fI (aS 4 sc__law_form_rest.nd) o7))) (ao (dI (bw (qT hr.units) (bD fN rfl T.len (by decide +kernel) (ac (d0 (vars:=["bit"]) (caps:=[(1,"setting")]) (by change BlkOk (ag aT).names ca _ _ _;exact⟨rfl,by decide +kernel,by decide +kernel,by decide +kernel,by decide +kernel⟩) rfl (bH (aa 3)) dq (fun _ _ _ _=>bE (i:=0) (show(["bit","setting"]:List Str).Nodup by decide +kernel) rfl (Or.inl rfl) (.inr rfl)) (fun _ _ _ _=>(bw AI (aa 0) (aa 1) (by with_unfolding_all rfl))) (fun _ _ _ _=>(aa 0))) ai)) (bD fN rfl T.len (by decide +kernel) (ac (aa 3) ai)) (bm _)) (ao (bg 2 sc__law_form_rest.nd (aA di (aa 2) (aa 4)))) cr))) (ao (aQ (aA dM (aa 2) ae)))))
theorem sc__law_pair:FnScope gR ["pair"] (ag cO):=⟨rfl,rfl,rfl,by decide +kernel,rfl,by decide +kernel,by decide +kernel⟩
theorem kA{f:Addr}{fd:FuncData}{dV:Value}(F:FunV K "_law_pair" "_law_pair" cO f fd dV)(T:Txt mg)(C__law_whole:Cal P w K mg base "_law_whole" 1 aW []):FnOk P w K mg base fT 2 f fd ["pair"] (jo K bq):=
 gm (k:=1) (b:=d6) F sc__law_pair fun cdv A outer s H E hr=>(aj (dI (WV.tv (jK (eI (cU (i9 (T:="tuple") rfl T.isinstance rfl T.tuple (by decide +kernel) (by decide) (by decide) (aa 0)))) (jK (bw (vE hr.units) (bD fN rfl T.len (by decide +kernel) (ac (aa 0) ai)) ae (bm _)) (jK (eI (cU (aP C__law_whole (hr.mono (by decide)) rfl (ac (be cB (aa 0) ae (fun _ _=>rfl)) ai)))) (jK (bw AH (be cB (aa 0) ae (fun _ _=>rfl)) ae (bm _)) (rk (bw tJ (be cB (aa 0) ae (fun _ _=>rfl)) ae (bm _)))))))) (ao (aQ eF)) cr) (aj (dI (WV.tv (jK (eI (cU (i9 (T:="tuple") rfl T.isinstance rfl T.tuple (by decide +kernel) (by decide) (by decide) (be cB (aa 0) ae (fun _ _=>rfl))))) (jK (bw AH (bD fN rfl T.len (by decide +kernel) (ac (be cB (aa 0) ae (fun _ _=>rfl)) ai)) ae (bm _)) (rk (bw tJ (bD fN rfl T.len (by decide +kernel) (ac (be cB (aa 0) ae (fun _ _=>rfl)) ai)) ae (bm _)))))) (ao (aQ eF)) cr) (aj (bM PassesOwn.never rfl (bH (be cB (aa 0) ae (fun _ _=>rfl))) (aS 1 sc__law_pair.nd) (ao (dI (eI (cU (aP C__law_whole (hr.mono (by decide)) rfl (ac (aa 1) ai)))) (ao (aQ eF)) cr))) (ao (aQ (tE (qT hr.units) (gy yq rfl T.list (by decide +kernel) (ac (be cB (aa 0) ae (fun _ _=>rfl)) ai)) (vx rfl T.sorted rfl T.set_ (be cB (aa 0) ae (fun _ _=>rfl))) (bm _)))))))
theorem sc__law_right:FnScope bW ["turns","bits"] (ag br):=⟨rfl,rfl,rfl,by decide +kernel,rfl,by decide +kernel,by decide +kernel⟩
theorem ju{f:Addr}{fd:FuncData}{dV:Value}(F:FunV K "_law_right" "_law_right" br f fd dV)(T:Txt mg)(C_form_of:Cal P w K mg base "form_of" 4 bL [])(C__law_pair:Cal P w K mg base "_law_pair" 2 bq [])(C__law_rest:Cal P w K mg base "_law_rest" 1 bp [])(C__law_form_rest:Cal P w K mg base "_law_form_rest" 1 aC []):FnOk P w K mg base fT 5 f fd ["turns","bits"] (jo K aO):=
 gm (k:=4) (b:=dG) F sc__law_right fun cdv A outer s H E hr=>(aj (bg 2 sc__law_right.nd (aP C_form_of (hr.mono (by decide)) rfl (ac (aa 0) ai))) (aj (dI (eI (cU (i9 (T:="tuple") rfl T.isinstance rfl T.tuple (by decide +kernel) (by decide) (by decide) (aa 2)))) (ao (aQ eF)) cr) (aj (bM PassesOwn.never rfl (bH (aa 2)) (aS 3 sc__law_right.nd) (ao (dI (eI (cU (aP C__law_pair (hr.mono (by decide)) rfl (ac (aa 3) ai)))) (ao (aQ eF)) cr))) (aj (um 4 sc__law_right.nd (vars:=["pair"]) (caps:=[]) (by change BlkOk (ag br).names bW _ _ _;exact⟨rfl,by decide +kernel,by decide +kernel,by decide +kernel,by decide +kernel⟩) rfl (bH (aa 2)) dq (fun _ _ _ _=>bE (i:=0) (show(["pair"]:List Str).Nodup by decide +kernel) rfl (Or.inl rfl) (.inr rfl)) (fun _ _ _ _=>(be cB (aa 0) ae (fun _ _=>rfl)))) (aj (dI (bw (vE hr.units) (aa 4) (tw hr.units rfl T.sorted rfl T.set_ (aa 4)) (bm _)) (ao (aQ eF)) cr) (aj (bM PassesOwn.never rfl (b6 rfl T.range (ac ae ai)) (aS 5 sc__law_right.nd) (aj (ls 6 sc__law_right.nd (vars:=["k"]) (caps:=[(1,"bits"),(5,"way")]) (by change BlkOk (ag br).names bW _ _ _;exact⟨rfl,by decide +kernel,by decide +kernel,by decide +kernel,by decide +kernel⟩) rfl (b6 rfl T.range (ac ae ai)) dq (fun _ _ _ _=>bE (i:=0) (show(["k","bits","way"]:List Str).Nodup by decide +kernel) rfl (Or.inl rfl) (.inr rfl)) (fun _ _ _ _=>(bw (qT hr.units) (aA dM (aA pG (aa 2) (aa 0)) ae) ae (bm _))) (fun _ _ _ _=>(be cB (aa 1) (aa 0) (fun _ _=>rfl)))) (ao (dI (bw (vE hr.units) (aP C__law_rest (hr.mono (by decide)) rfl (ac (aa 0) (ac (aa 6) ai))) (aP C__law_form_rest (hr.mono (by decide)) rfl (ac (aa 2) (ac (aa 6) ai))) (bm _)) (ao (aQ eF)) cr)))) (ao (aQ eF))))))))
theorem sc_law:FnScope wB ["script"] (ag fm):=⟨rfl,rfl,rfl,by decide +kernel,rfl,by decide +kernel,by decide +kernel⟩
theorem xB{f:Addr}{fd:FuncData}{dV:Value}(F:FunV K "law" "law" fm f fd dV)(T:Txt mg)(C__law_right:Cal P w K mg base "_law_right" 5 aO [])(C__law_turns:Cal P w K mg base "_law_turns" 1 aG []):FnOk P w K mg base fT 6 f fd ["script"] (jo K pf):=
 gm (k:=5) (b:=tO) F sc_law fun cdv A outer s H E hr=>(aj (bg 1 sc_law.nd ae) (aj (dI (bw tJ (bD fN rfl T.len (by decide +kernel) (ac (aa 0) ai)) ae (bm _)) (ao (bg 1 sc_law.nd (be cB (aa 0) ae (fun _ _=>rfl)))) cr) (aj (nh 2 sc_law.nd (ac (aA di ae (aA dM (aa 1) ae)) ai)) (aj (bM PassesOwn.never rfl (b6 rfl T.range (ac ae ai)) (aS 3 sc_law.nd) (ao (rB 2 (aA di (aA di (yi 2 (aa 3) (fun _ _=>rfl)) ae) (aA dM (aA wy (aa 1) (aA di ae (aA n9 ae (aa 3)))) ae))))) (aj (bM PassesOwn.never rfl (qH rfl T.range (ac ae (ac (aA di (bD fN rfl T.len (by decide +kernel) (ac (aa 0) ai)) ae) (ac ae ai)))) (aS 3 sc_law.nd) (ao (dI (ue 2 (eI (cU (aP C__law_right (hr.mono (by decide)) rfl (ac (aP C__law_turns (hr.mono (by decide)) rfl (ac (i8 (aa 0) (hE (aa 3)) (hE (aA di (aa 3) ae))) (ac (aa 2) ai))) (ac (aa 2) ai)))))) (ao (aQ eF)) cr))) (ao (aQ eF)))))))
end
theorem yu:bu "has" oJ ["bitset","bit"]:=fun _ _ _ _ _ _ us hl=>by obtain⟨_,_,rfl⟩:=nI hl;exact rfl
theorem qW:bu "having" dR ["turns","bit"]:=fun _ _ _ _ _ _ us hl=>by obtain⟨_,_,rfl⟩:=nI hl;exact rfl
theorem g7:bu "sum_of_turns" bi ["turns"]:=fun _ _ _ _ _ _ us hl=>by obtain⟨_,rfl⟩:=qB hl;exact rfl
theorem jG:bu "oddly_held" cx ["turns"]:=fun _ _ _ _ _ _ us hl=>by obtain⟨_,rfl⟩:=qB hl;exact rfl
theorem kS:bu "form_with" bJ ["bit","turns","bits"]:=fun _ _ _ _ _ _ us hl=>by obtain⟨_,_,_,rfl⟩:=B1 hl;exact rfl
theorem om:bu "form_of" cZ ["turns"]:=fun _ _ _ _ _ _ us hl=>by obtain⟨_,rfl⟩:=qB hl;exact rfl
theorem jH:bu "_law_whole" cy ["found"]:=fun _ _ _ _ _ _ us hl=>by obtain⟨_,rfl⟩:=qB hl;exact rfl
theorem jI:bu "_law_turns" bN ["cells","bits"]:=fun _ _ _ _ _ _ us hl=>by obtain⟨_,_,rfl⟩:=nI hl;exact rfl
theorem kT:bu "_law_rest" cN ["turns","setting"]:=fun _ _ _ _ _ _ us hl=>by obtain⟨_,_,rfl⟩:=nI hl;exact rfl
theorem fO:bu "_law_form_rest" aT ["form","setting"]:=fun _ _ _ _ _ _ us hl=>by obtain⟨_,_,rfl⟩:=nI hl;exact rfl
theorem kU:bu "_law_pair" cO ["pair"]:=fun _ _ _ _ _ _ us hl=>by obtain⟨_,rfl⟩:=qB hl;exact rfl
theorem jJ:bu "_law_right" br ["turns","bits"]:=fun _ _ _ _ _ _ us hl=>by obtain⟨_,_,rfl⟩:=nI hl;exact rfl
theorem yw{l:PySem.W.OpenLaw}{w:World}{K:PySem.W.Frag}{h:Heap}{mg:Str->Option Value}{fa f12:Addr}{od12 an12:Option Addr}{sl12:Array (Option Value)}{oc12 kV12 dc12 pm12 cd12 ct12:Value}(X:K.In h)(G:h.Ns mainGlobals mg)(hfa:mg "law" = some (.ref fa))
  (D0:DefIn K "has" "has" oJ)
  (D1:DefIn K "having" "having" dR)
  (D2:DefIn K "sum_of_turns" "sum_of_turns" bi)
  (D3:DefIn K "oddly_held" "oddly_held" cx)
  (D4:DefIn K "form_with" "form_with" bJ)
  (D5:DefIn K "form_of" "form_of" cZ)
  (D6:DefIn K "_law_whole" "_law_whole" cy)
  (D7:DefIn K "_law_turns" "_law_turns" bN)
  (D8:DefIn K "_law_rest" "_law_rest" cN)
  (D9:DefIn K "_law_form_rest" "_law_form_rest" aT)
  (D10:DefIn K "_law_pair" "_law_pair" cO)
  (D11:DefIn K "_law_right" "_law_right" br)
  (a12:PySem.W.nsIn K mainGlobals "law" = some (some (.ref f12))) (l12:K.lookup f12=some ⟨oc12,od12,.func (PySem.W.fnOf "law" "law" (cR fm) (cg fm) (ag fm) .none kV12 dc12 pm12 an12 cd12 ct12),sl12⟩) (c12:PySem.W.codeIn K cd12 "law" = true) (k12:PySem.W.keepIn K (.ref f12)=true)
  (z_sum:PySem.W.nsIn K mainGlobals "sum" = some none)
  (z_range:PySem.W.nsIn K mainGlobals "range" = some none)
  (z_len:PySem.W.nsIn K mainGlobals "len" = some none)
  (z_tuple:PySem.W.nsIn K mainGlobals "tuple" = some none)
  (z_isinstance:PySem.W.nsIn K mainGlobals "isinstance" = some none)
  (z_int:PySem.W.nsIn K mainGlobals "int" = some none)
  (z_bool:PySem.W.nsIn K mainGlobals "bool" = some none)
  (z_sorted:PySem.W.nsIn K mainGlobals "sorted" = some none)
  (z_list:PySem.W.nsIn K mainGlobals "list" = some none)
  (z_set:PySem.W.nsIn K mainGlobals "set" = some none)
   :∃fd:FuncData,(∀(s:Shared) (v:Value),BindsTo s fd ⟨[v],[]⟩ [("script",v)])/\∀base:Heap,K.In base->base.Ns mainGlobals mg->FnOk l.prog w K mg base fT 6 fa fd ["script"] (oF K):=by
 have e:=hfa.symm.trans (PySem.W.mg_of X G a12);cases e;have T:Txt mg:=⟨PySem.W.mg_none_of X G z_sum,PySem.W.mg_none_of X G z_range,PySem.W.mg_none_of X G z_len,PySem.W.mg_none_of X G z_tuple,PySem.W.mg_none_of X G z_isinstance,PySem.W.mg_none_of X G z_int,PySem.W.mg_none_of X G z_bool,PySem.W.mg_none_of X G z_sorted,PySem.W.mg_none_of X G z_list,PySem.W.mg_none_of X G z_set⟩;have F12:=pj (st:=fm) l12 c12 k12;refine⟨PySem.W.fnOf "law" "law" (cR fm) (cg fm) (ag fm) .none kV12 dc12 pm12 an12 cd12 ct12,fun s v=>.of_eq rfl,fun base _ _=>?_⟩
 have C_has:Cal l.prog w K mg base "has" 1 eE []:=D0.cal X G yu fun _ _ F=>xC F T
 have C_having:Cal l.prog w K mg base "having" 2 bC []:=D1.cal X G qW fun _ _ F=>qr F T C_has
 have C_sum_of_turns:Cal l.prog w K mg base "sum_of_turns" 1 az []:=D2.cal X G g7 fun _ _ F=>gW F T
 have C_oddly_held:Cal l.prog w K mg base "oddly_held" 1 aV []:=D3.cal X G jG fun _ _ F=>jr F T
 have C_form_with:Cal l.prog w K mg base "form_with" 3 bo []:=D4.cal X G kS fun _ _ F=>kx F T C_having C_oddly_held C_sum_of_turns C_has
 have C_form_of:Cal l.prog w K mg base "form_of" 4 bL []:=D5.cal X G om fun _ _ F=>nD F T C_has C_form_with C_having
 have C__law_whole:Cal l.prog w K mg base "_law_whole" 1 aW []:=D6.cal X G jH fun _ _ F=>js F T
 have C__law_turns:Cal l.prog w K mg base "_law_turns" 1 aG []:=D7.cal X G jI fun _ _ F=>jt F T
 have C__law_rest:Cal l.prog w K mg base "_law_rest" 1 bp []:=D8.cal X G kT fun _ _ F=>kz F T
 have C__law_form_rest:Cal l.prog w K mg base "_law_form_rest" 1 aC []:=D9.cal X G fO fun _ _ F=>fA F T
 have C__law_pair:Cal l.prog w K mg base "_law_pair" 2 bq []:=D10.cal X G kU fun _ _ F=>kA F T C__law_whole
 have C__law_right:Cal l.prog w K mg base "_law_right" 5 aO []:=D11.cal X G jJ fun _ _ F=>ju F T C_form_of C__law_pair C__law_rest C__law_form_rest
 have O12:FnOk l.prog w K mg base fT 6 _ _ _ (jo K pf):=xB F12 T C__law_right C__law_turns;exact zZ O12 fun ns hl=>law_true ns hl
end GN
open PySem PySem.W PyProof.Rows
set_option maxRecDepth 1000000 in
set_option maxHeartbeats 0 in
theorem PySem.Challenge.cw_wavewires_k53_form_of_turns_holds : PySem.Challenge.rw_wavewires_k53_form_of_turns.Holds := by
  refine topT ?_
  k_fill
  refine VL.yV (k := 6) (l := PySem.Challenge.rw_wavewires_k53_form_of_turns) rfl ⟨rfl, by decide, by decide⟩ rfl (fun w h Y => PySem.W.kIn_of Y) ?F
  case F =>
    intro w mg fa h KX G hmg
    refine' GN.yw KX G hmg (VL.DefIn.mk ?a0 ?l0 ?c0 ?k0) (VL.DefIn.mk ?a1 ?l1 ?c1 ?k1) (VL.DefIn.mk ?a2 ?l2 ?c2 ?k2) (VL.DefIn.mk ?a3 ?l3 ?c3 ?k3) (VL.DefIn.mk ?a4 ?l4 ?c4 ?k4) (VL.DefIn.mk ?a5 ?l5 ?c5 ?k5) (VL.DefIn.mk ?a6 ?l6 ?c6 ?k6) (VL.DefIn.mk ?a7 ?l7 ?c7 ?k7) (VL.DefIn.mk ?a8 ?l8 ?c8 ?k8) (VL.DefIn.mk ?a9 ?l9 ?c9 ?k9) (VL.DefIn.mk ?a10 ?l10 ?c10 ?k10) (VL.DefIn.mk ?a11 ?l11 ?c11 ?k11) ?a12 ?l12 ?c12 ?k12 ?z_sum ?z_range ?z_len ?z_tuple ?z_isinstance ?z_int ?z_bool ?z_sorted ?z_list ?z_set
    (case a0 => k_is)
    (case l0 => k_is)
    (case c0 => k_is)
    (case k0 => k_is)
    (case a1 => k_is)
    (case l1 => k_is)
    (case c1 => k_is)
    (case k1 => k_is)
    (case a2 => k_is)
    (case l2 => k_is)
    (case c2 => k_is)
    (case k2 => k_is)
    (case a3 => k_is)
    (case l3 => k_is)
    (case c3 => k_is)
    (case k3 => k_is)
    (case a4 => k_is)
    (case l4 => k_is)
    (case c4 => k_is)
    (case k4 => k_is)
    (case a5 => k_is)
    (case l5 => k_is)
    (case c5 => k_is)
    (case k5 => k_is)
    (case a6 => k_is)
    (case l6 => k_is)
    (case c6 => k_is)
    (case k6 => k_is)
    (case a7 => k_is)
    (case l7 => k_is)
    (case c7 => k_is)
    (case k7 => k_is)
    (case a8 => k_is)
    (case l8 => k_is)
    (case c8 => k_is)
    (case k8 => k_is)
    (case a9 => k_is)
    (case l9 => k_is)
    (case c9 => k_is)
    (case k9 => k_is)
    (case a10 => k_is)
    (case l10 => k_is)
    (case c10 => k_is)
    (case k10 => k_is)
    (case a11 => k_is)
    (case l11 => k_is)
    (case c11 => k_is)
    (case k11 => k_is)
    (case a12 => k_is)
    (case l12 => k_is)
    (case c12 => k_is)
    (case k12 => k_is)
    (case z_sum => k_is)
    (case z_range => k_is)
    (case z_len => k_is)
    (case z_tuple => k_is)
    (case z_isinstance => k_is)
    (case z_int => k_is)
    (case z_bool => k_is)
    (case z_sorted => k_is)
    (case z_list => k_is)
    (case z_set => k_is)

end