import PyProof.Rows.All
import Wide.All
import OpenK.AllK
import Wide.FinOn
import Lean
import PyProof.EqAt
import PyProof.EqKinds
import PyProof.TupleCall
import PySem.Challenge.RW_wavewires_k38_whole_worn_by_a_chain
section TopS
set_option Elab.async false
set_option linter.all false
open PySem PySem.W PyProof.Rows
def viewQ : Program := view PySem.Challenge.rw_wavewires_k38_whole_worn_by_a_chain.prog [1, 2, 4, 5, 7, 8, 9, 10, 11, 12, 13, 14, 15, 16, 17, 18, 19, 21, 22, 23, 24, 25, 26, 27, 28, 29, 30, 31, 32, 33, 34, 35, 36, 37]
local macro_rules
  | `(tactic| o_head $H) => do
    let hw := Lean.mkIdent `hw
    let hc := Lean.mkIdent `hc
    `(tactic| refine holds_open (q := viewQ) (loose := []) (Xt := fun s => xlAt viewQ [] s && recOk (RowW.records (OpenRow.toRowW PySem.Challenge.rw_wavewires_k38_whole_worn_by_a_chain.row)) s) (XP := XL viewQ []) (Yf := Hook.obs $H) (Ya := Hook.val $H) (YP := Hook.says $H) (N := 6000) (fun w => by (unfold openEnds fencedOpening topFrom; rw [Fast.te10274390034422433532, Fast.te14082659384304107361, Fast.te1435165496053646825, Fast.te14289696077712309145, Fast.te14364793385576792824, Fast.te4187177175401517315, Fast.te5923862056798008813]; kernel_rfl)) (Hook.of $H) (Hook.keeps $H) (fun s e => xl_of s (Bool.and_eq_true_iff.mp e).1) XL.keeps (by rfl) (by rfl) (by rfl) (fun s e => recFacts_of (Bool.and_eq_true_iff.mp e).2) (by rfl) (by first | assumption | decide +kernel) (by decide +kernel) ⟨rfl, rfl, rfl, rfl, rfl, by decide +kernel⟩ ?$hw ?$hc)
set_option maxRecDepth 1000000 in
set_option maxHeartbeats 0 in
open_top topT for PySem.Challenge.rw_wavewires_k38_whole_worn_by_a_chain
end TopS
noncomputable section
set_option Elab.async false
set_option linter.all false
set_option maxRecDepth 100000
namespace L2
open PySem PySem.Spec PyProof.Rows
open PySem.W (findIn instObj kia_one kitx_dict kitx_list lookIn methodObj plainGet)
open List (mem_append_right size_toArray)
open Nat (le_refl le_trans lt_irrefl lt_of_lt_of_le ne_of_lt)
open PySem.Heap (get?_push_of_some get?_push_size lt_size)
abbrev aG:=Sum Int Str
noncomputable def kz:aG->Value->Bool
 |.inl k,v=>Value.isInt k v
 |.inr x,v=>Value.isStrOf x v
noncomputable def JV(w:World):aG->Int
 |.inl k=>hashInt k
 |.inr x=>hashStr w x
theorem bB:∀{k:aG} {v:Value},kz k v=true->(∃i t,k=Sum.inl i/\v=Value.int i t)\/(∃x t,k=Sum.inr x/\v=Value.str x t)
 |.inl i,v,h=>by
  obtain⟨t,e⟩:=Value.isInt_shape (k:=i) (v:=v) h;exact .inl ⟨i,t,rfl,e⟩
 |.inr x,v,h=>by
  obtain⟨t,e⟩:=Value.isStrOf_shape (x:=x) (v:=v) h;exact .inr ⟨x,t,rfl,e⟩
theorem xj(i:Int)(t:Tok):kz (.inl i) (.int i t)=true:=by simp[kz,Value.isInt]
theorem xi(x:Str)(t:Tok):kz (.inr x) (.str x t)=true:=by simp[kz,Value.isStrOf]
theorem ES(a b:Int):decide ((Sum.inl a:aG)=Sum.inl b)=(a==b):=by
 by_cases e:a=b
 ·subst e;simp
 ·have h:¬(Sum.inl a:aG)=Sum.inl b:=fun q=>e (Sum.inl.inj q)
  rw[decide_eq_false h];exact(beq_eq_false_iff_ne.mpr e).symm
theorem EN(a b:Str):decide ((Sum.inr a:aG)=Sum.inr b)=decide (a=b):=by
 by_cases e:a=b
 ·subst e;simp
 ·have h:¬(Sum.inr a:aG)=Sum.inr b:=fun q=>e (Sum.inr.inj q)
  rw[decide_eq_false h,decide_eq_false e]
theorem ER(a:Int)(b:Str):decide ((Sum.inl a:aG)=Sum.inr b)=false:=decide_eq_false (fun q=>nomatch q)
theorem EQ(a:Str)(b:Int):decide ((Sum.inr a:aG)=Sum.inl b)=false:=decide_eq_false (fun q=>nomatch q)
noncomputable def aJ(prog:Program)(w:World):PySem.KeyKind prog w aG where
 is:=kz
 hash:=JV w
 inj:=fun v a b ha hb=>by
  rcases bB ha with⟨i,t,rfl,rfl⟩|⟨x,t,rfl,rfl⟩
  ·rcases bB hb with⟨j,u,rfl,e⟩|⟨y,u,rfl,e⟩
   ·injection e with e1 _;rw[e1]
   ·exact nomatch e
  ·rcases bB hb with⟨j,u,rfl,e⟩|⟨y,u,rfl,e⟩
   ·exact nomatch e
   ·injection e with e1 _;rw[e1]
 byValue:=fun k v h=>by
  rcases bB h with⟨i,t,rfl,rfl⟩|⟨x,t,rfl,rfl⟩<;>rfl
 pyHash:=fun hv h=>by
  rcases bB hv with⟨i,t,rfl,rfl⟩|⟨x,t,rfl,rfl⟩
  ·exact wpAny_pyHash_int h
  ·exact wpAny_pyHash_str h
 eqBool:=fun hu hv h=>by
  rcases bB hu with⟨i,t,rfl,rfl⟩|⟨x,t,rfl,rfl⟩
  ·rcases bB hv with⟨j,u,rfl,rfl⟩|⟨y,u,rfl,rfl⟩
   ·rw[ES]at h;exact wpAny_eqBool_int h
   ·rw[ER]at h;exact SeqAt.EqAt.int_str i t y u _ _ _ _ h
  ·rcases bB hv with⟨j,u,rfl,rfl⟩|⟨y,u,rfl,rfl⟩
   ·rw[EQ]at h;exact SeqAt.EqAt.str_int x t j u _ _ _ _ h
   ·rw[EN]at h;exact wpAny_eqBool_str h
 «strs»:=fun k x t v h=>by
  rcases bB h with⟨i,u,rfl,e⟩|⟨y,u,rfl,e⟩
  ·exact nomatch e
  ·injection e with e1 _
   subst e1;cases v<;>rfl
theorem sr(prog:Program)(w:World)(i:Int)(t:Tok):(aJ prog w).is (.inl i) (.int i t)=true:=xj i t
theorem sk(prog:Program)(w:World)(x:Str)(t:Tok):(aJ prog w).is (.inr x) (.str x t)=true:=xi x t
inductive V where
 |non|bl (b:Bool)|int (i:Int)|str (x:Str)|byt (b:Array UInt8)|flt (b:UInt64)|ref (a:Addr)|ty (n:String)
 deriving DecidableEq
def RelV:V->Value->Prop
 |.non,u=>u=Value.none
 |.bl b,u=>u=Value.bool b
 |.int i,u=>∃t,u=Value.int i t
 |.str x,u=>∃t,u=Value.str x t
 |.byt b,u=>∃t,u=Value.bytes b t
 |.flt b,u=>∃t,u=Value.float b t
 |.ref a,u=>u=Value.ref a
 |.ty n,u=>u=Value.type n
abbrev Vals:List V->List Value->Prop:=Paired RelV
theorem Vals.length{xs:List V}{us:List Value}(r:Vals xs us):xs.length=us.length:=Paired.length r
theorem Vals.get:∀{xs:List V} {us:List Value} {i:Nat} {x:V},Vals xs us->xs[i]? = some x->∃u,us[i]? = some u/\RelV x u
 |_,_,_,_,.nil,e=>by simp at e
 |_,_,0,_,.cons r _,e=>by simp at e;subst e;exact⟨_,rfl,r⟩
 |_,_,i+1,x,.cons _ t,e=>by
  obtain⟨u,h1,h2⟩:=Vals.get (i:=i) (x:=x) t (by simpa using e);exact⟨u,by simpa using h1,h2⟩
theorem Vals.set{x:V}{u:Value}(r:RelV x u):∀{xs:List V} {us:List Value} (i:Nat),Vals xs us->Vals (xs.set i x) (us.set i u)
 |_,_,_,.nil=>.nil
 |_,_,0,.cons _ t=>.cons r t
 |_,_,i+1,.cons q t=>.cons q (Vals.set r i t)
theorem Vals.append:∀{xs ys:List V} {us ws:List Value},Vals xs us->Vals ys ws->Vals (xs++ys) (us++ws)
 |_,_,_,_,.nil,s=>s
 |_,_,_,_,.cons r t,s=>.cons r (Vals.append t s)
theorem Vals.take:∀{xs:List V} {us:List Value} (n:Nat),Vals xs us->Vals (xs.take n) (us.take n)
 |_,_,0,_=>.nil
 |_,_,_+1,.nil=>.nil
 |_,_,n+1,.cons r t=>.cons r (Vals.take n t)
theorem Vals.drop:∀{xs:List V} {us:List Value} (n:Nat),Vals xs us->Vals (xs.drop n) (us.drop n)
 |_,_,0,r=>r
 |_,_,_+1,.nil=>.nil
 |_,_,n+1,.cons _ t=>Vals.drop n t
def RelO:Option V->Option Value->Prop
 |some v,some u=>RelV v u
 |none,none=>True
 |_,_=>False
def KV{κ:Type}:List (κ × V)->List (κ × Value)->Prop:=Paired fun(p:κ × V) (q:κ × Value)=>p.1=q.1/\RelV p.2 q.2
noncomputable def kV:aG->V
 |.inl i=>.int i
 |.inr x=>.str x
inductive HO where
 |lst (xs:List V)
 |tup (xs:List V)
 |dK (kvs:List (aG×V))|dT (kvs:List (List aG×V))
 |set (S:Int->Bool) (n:Nat)
 |ins (C dx:Addr) (fs:List (Str×V))
 |own (x:Addr)
 |xd (fs:List (Str×V))
 |met (f x:Addr)
 |rng (lo hi:Int)
 |frz (o:Obj) (u:HO)
 |tbl (ps:Array Value)
 |ext (φ:Heap->Prop)
abbrev Hp:=Addr->Option HO
noncomputable def upd(H:Hp)(a:Addr)(o:HO):Hp:=fun b=>if b=a then some o else H b
theorem ay{H:Hp}{a:Addr}{o:HO}:upd H a o a=some o:=by unfold upd;rw[if_pos rfl]
theorem au{H:Hp}{a b:Addr}{o:HO}(h:b≠a):upd H a o b=H b:=by unfold upd;rw[if_neg h]
theorem GX{H:Hp}{a b:Addr}{o u:HO}(h:H a=some o)(h':H b=some u)(d:o≠u):a≠b:=by
 intro e;subst e;rw[h]at h';exact d (Option.some.inj h')
theorem aH{H:Hp}{a b:Addr}{o:HO}(h:H a=some o)(h':H b=none):a≠b:=by
 intro e;subst e;rw[h]at h';cases h'
section
variable(P:Program)(w:World)
def NoDi(h:Heap)(a:Addr):Prop:=∃o,h.get? a=some o/\o.dict=none
theorem NoDi.new(h:Heap)(o:Obj)(e:o.dict=none:=by rfl)(f:o.isFreed=false:=by rfl):NoDi (h.push o) h.objs.size:=⟨o,get?_push_size h f,e⟩
def ObjOk(H:Hp)(h:Heap)(a:Addr):HO->Prop
 |.lst xs=>xs.length<=sizeLine/\∃(its:List Value) (n:Nat),Vals xs its/\h.get? a=some { cls:=.type "list",data:=.seq its.toArray n }
 |.tup xs=>xs.length<=sizeLine/\∃its:List Value,Vals xs its/\IsTup h a its.toArray/\NoDi h a
 |.dK kvs=>kvs.length<=sizeLine/\(a==sysModules)=false/\∃vs,KV kvs vs/\h.DictOf (aJ P w) a vs
 |.dT kvs=>kvs.length<=sizeLine/\(a==sysModules)=false/\∃xs:List (List aG×Addr×Value),
   Paired (fun(p:List aG×V) (q:List aG×Addr×Value)=>p.1=q.1/\H q.2.1=some (.tup (p.1.map kV))/\RelV p.2 q.2.2) kvs xs /\
   ∃o es ep,h.get? a=some o/\o.ExactDict/\o.data=.dict es ep/\es.toList=xs.map (entryOfKey (tupleKind (aJ P w)))/\(xs.map (·.1)).Nodup
 |.set S n=>h.SetOf (intKind P w) a S n
 |.ins C dx fs=>H dx=some (.own a)/\fs.length<=1000/\dx≠a/\h.get? a=some (instObj C dx) /\
   ∃mA,h.Ns1 dx mA/\(∀f,RelO (fs.lookup f) (mA f))/\PySem.Within mA (fs.map (·.1))
 |.own _=>∃o,h.get? a=some o
 |.xd fs=>∃mA,h.Ns1 a mA/\∀f,RelO (fs.lookup f) (mA f)
 |.rng lo hi=>∃t u v,h.get? a=some { cls:=.type "range",data:=.fields #[.int lo t,.int hi u,.int 1 v] }
 |.frz o u=>h.get? a=some o/\ObjOk H h a u
 |.tbl ps=>h.get? a=some { cls:=.none,data:=.fields ps }
 |.met f x=>h.get? a=some (methodObj (.ref f) (.ref x))
 |.ext φ=>φ h/\(∃o,h.get? a=some o)/\∀h1 h2:Heap,φ h1->(∀o,h1.get? a=some o->h2.get? a=some o) -> φ h2
def HOk(H:Hp)(h:Heap):Prop:=∀a o,H a=some o->ObjOk P w H h a o
end
section
variable{P:Program}{w:World}{H H':Hp}{h h':Heap}{a:Addr}{o:HO}
theorem ObjOk.lt(x:ObjOk P w H h a o):a<h.objs.size:=by
 cases o with
 |lst xs=>obtain⟨_,_,_,_,e⟩:=x;exact lt_size e
 |tup xs=>obtain⟨_,_,_,p⟩:=x;exact p.1.lt
 |dK kvs=>obtain⟨_,_,_,_,o,_,_,e,_⟩:=x;exact lt_size e
 |dT kvs=>obtain⟨_,_,_,_,o,_,_,e,_⟩:=x;exact lt_size e
 |set S n=>obtain⟨o,_,_,_,e,_⟩:=x;exact lt_size e
 |ins C dx fs=>obtain⟨_,_,_,e,_⟩:=x;exact lt_size e
 |own y=>obtain⟨_,e⟩:=x;exact lt_size e
 |xd fs=>obtain⟨_,⟨_,_,_,e,_⟩,_⟩:=x;exact lt_size e
 |rng lo hi=>obtain⟨_,_,_,e⟩:=x;exact lt_size e
 |frz ob u=>obtain⟨e,_⟩:=x;exact lt_size e
 |tbl ps=>exact lt_size (show h.get? a=some _ from x)
 |met f y=>exact lt_size (show h.get? a=some _ from x)
 |ext φ=>obtain⟨_,⟨_,e⟩,_⟩:=x;exact lt_size e
theorem Paired.mapP{α β:Type}{F G:α -> β -> Prop}:∀{l₁:List α} {l₂:List β},Paired F l₁ l₂ -> (∀a b,F a b->G a b)->Paired G l₁ l₂
 |_,_,.nil,_=>.nil
 |_,_,.cons r t,f=>.cons (f _ _ r) (Paired.mapP t f)
theorem ObjOk.stay(x:ObjOk P w H h a o)(k:∀b u,(b=a\/H b=some (.own a))->h.get? b=some u->h'.get? b=some u)
  (ho:∀b,H b=some (.own a)->H' b=some (.own a)) (ht:∀b xs,H b=some (.tup xs)->H' b=some (.tup xs)):ObjOk P w H' h' a o:=by
 induction o with
 |lst xs=>obtain⟨z,its,n,r,e⟩:=x;exact⟨z,its,n,r,k _ _ (.inl rfl) e⟩
 |tup xs=>obtain⟨z,its,r,⟨ob,e,c⟩,od,e',c'⟩:=x;exact⟨z,its,r,⟨ob,k _ _ (.inl rfl) e,c⟩,od,k _ _ (.inl rfl) e',c'⟩
 |dK kvs=>obtain⟨z,y,vs,r,ob,es,ep,e,c⟩:=x;exact⟨z,y,vs,r,ob,es,ep,k _ _ (.inl rfl) e,c⟩
 |dT kvs=>
  obtain⟨z,y,xs,r,ob,es,ep,e,c⟩:=x;exact⟨z,y,xs,Paired.mapP r fun p q z=>⟨z.1,ht _ _ z.2.1,z.2.2⟩,ob,es,ep,k _ _ (.inl rfl) e,c⟩
 |set S n=>obtain⟨ob,es,ep,t,e,c⟩:=x;exact⟨ob,es,ep,t,k _ _ (.inl rfl) e,c⟩
 |ins C dx fs=>
  obtain⟨d,z,ne,e,mA,⟨od,es,ep,e2,c⟩,r⟩:=x;exact⟨ho _ d,z,ne,k _ _ (.inl rfl) e,mA,⟨od,es,ep,k _ _ (.inr d) e2,c⟩,r⟩
 |own y=>obtain⟨ob,e⟩:=x;exact⟨ob,k _ _ (.inl rfl) e⟩
 |xd fs=>obtain⟨mA,⟨od,es,ep,e,c⟩,r⟩:=x;exact⟨mA,⟨od,es,ep,k _ _ (.inl rfl) e,c⟩,r⟩
 |rng lo hi=>obtain⟨t,u,v,e⟩:=x;exact⟨t,u,v,k _ _ (.inl rfl) e⟩
 |frz ob u ih=>obtain⟨e,q⟩:=x;exact⟨k _ _ (.inl rfl) e,ih q⟩
 |tbl ps=>
  have e:h.get? a=some { cls:=.none,data:=.fields ps }:=x;show h'.get? a=some { cls:=.none,data:=.fields ps };exact k a _ (.inl rfl) e
 |met f y=>
  have e:h.get? a=some (methodObj (.ref f) (.ref y)):=x;show h'.get? a=some (methodObj (.ref f) (.ref y));exact k a _ (.inl rfl) e
 |ext φ=>obtain⟨p,⟨o,e⟩,st⟩:=x;exact⟨st _ _ p fun o q=>k _ _ (.inl rfl) q,⟨o,k _ _ (.inl rfl) e⟩,st⟩
theorem HOk.lt(x:HOk P w H h)(e:H a=some o):a<h.objs.size:=(x a o e).lt
theorem HOk.fresh(x:HOk P w H h)(e:h.objs.size<=a):H a=none:=by
 cases q:H a with
 |none=>rfl
 |some u=>exact absurd (lt_of_lt_of_le (x.lt q) e) (lt_irrefl _)
theorem HOk.kept(x:HOk P w H h)(k:∀b u,h.get? b=some u->h'.get? b=some u):HOk P w H h':=fun a o e=>
 (x a o e).stay (fun b u _ q=>k b u q) (fun _ q=>q) fun _ _ q=>q
theorem HOk.laid(x:HOk P w H h)(k:∀b u,h.get? b=some u->h'.get? b=some u)(hp:h.objs.size<=a)(new:ObjOk P w (upd H a o) h' a o):HOk P w (upd H a o) h':=fun b u e=>by
 have hn:=x.fresh hp;by_cases hb:b=a
 ·subst hb;rw[ay]at e;cases e;exact new
 ·rw[au hb]at e
  exact(x b u e).stay (fun c v _ q=>k c v q) (fun c q=>by rw[au (aH q hn)];exact q) fun c xs q=>by rw[au (aH q hn)];exact q
end
def Rd(H:Hp)(a:Addr)(u:HO):Prop:=H a=some u\/∃o,H a=some (.frz o u)
theorem Rd.ok{P:Program}{w:World}{H:Hp}{h:Heap}{a:Addr}{u:HO}(r:Rd H a u)(x:HOk P w H h):ObjOk P w H h a u:=by
 rcases r with r|⟨o,r⟩
 ·exact x a u r
 ·obtain⟨_,q⟩:=x a _ r
  exact q
def Ir:Option HO->Prop
 |some (.lst _)=>True
 |some (.dK _)=>True
 |some (.dT _)=>True
 |some (.set _ _)=>True
 |some (.ins _ _ _)=>True
 |some (.ext _)=>True
 |_=>False
section
variable{P:Program}{w:World}{H:Hp}{h h':Heap}{x e:Addr}{o':HO}
theorem HOk.write(ok:HOk P w H h)(mu:Ir (H x))(he:e=x\/H e=some (.own x))(k:∀b u,b≠e->h.get? b=some u->h'.get? b=some u)(heo:∃u,h'.get? e=some u)
  (new:ObjOk P w (upd H x o') h' x o'):HOk P w (upd H x o') h':=fun b u q=>by
 have nown:∀c y,H c=some (.own y)->c≠x:=fun c y r z=>by subst z;rw[r]at mu;exact mu
 have ntup:∀c xs,H c=some (.tup xs)->c≠x:=fun c xs r z=>by subst z;rw[r]at mu;exact mu
 by_cases hb:b=x
 ·subst hb;rw[ay]at q;cases q;exact new
 ·rw[au hb]at q
  by_cases hbe:b=e
  ·have q':H b=some (.own x):=by
    rcases he with z|z
    ·exact absurd (hbe.trans z) hb
    ·rw[hbe];exact z
   rw[q]at q';cases q';obtain⟨v,hv⟩:=heo;exact⟨v,by rw[hbe];exact hv⟩
  ·refine(ok b u q).stay (fun c v hc r=>k c v ?_ r) (fun c r=>by rw[au (nown c b r)];exact r) fun c xs r=>by rw[au (ntup c xs r)];exact r
   rcases hc with rfl|hc
   ·exact hbe
   ·rintro rfl
    rcases he with z|z
    ·exact nown c b hc z
    ·rw[hc]at z;cases z;exact hb rfl
end
structure Un (fs ex:List Addr) (H H':Hp) (h h':Heap):Prop where
 keep:∀b o,h.get? b=some o->H b=none->b ∉ fs->b ∉ ex->h'.get? b=some o
 slot:∀b o,h.get? b=some o->H b=none->b∈fs->b ∉ ex->∃sl,h'.get? b=some { o with slots:=sl }
 free:∀b o,h.get? b=some o->H b=none->b ∉ ex->H' b=none
 there:∀b o,h.get? b=some o->b ∉ ex->∃o',h'.get? b=some o'
 tups:∀b xs,H b=some (.tup xs)->H' b=some (.tup xs)
 frzs:∀b o u,H b=some (.frz o u)->H' b=some (.frz o u)
 tbls:∀b ps,H b=some (.tbl ps)->∃more,H' b=some (.tbl (ps++more))
section
variable{fs fs' ex ex':List Addr}{H H1 H2:Hp}{h h1 h2 h':Heap}{a x e:Addr}{o:HO}
theorem Un.any(u:Un fs ex H H1 h h1){b:Addr}{ob:Obj}(q:h.get? b=some ob)(n:H b=none)(hx:b ∉ ex):∃sl,h1.get? b=some { ob with slots:=sl }:=by
 by_cases hb:b∈fs
 ·exact u.slot b ob q n hb hx
 ·exact⟨ob.slots,u.keep b ob q n hb hx⟩
theorem Un.kept(k:∀b u,h.get? b=some u->h'.get? b=some u):Un fs ex H H h h':=
 ⟨fun b ob q _ _ _=>k b ob q,fun b ob q _ _ _=>⟨ob.slots,k b ob q⟩,fun _ _ _ n _=>n,fun b ob q _=>⟨ob,k b ob q⟩,fun _ _ q=>q,fun _ _ _ q=>q,fun _ ps q=>⟨#[],by rw[q];simp⟩⟩
theorem Un.refl:Un fs ex H H h h:=Un.kept fun _ _ q=>q
theorem Un.laid(k:∀b u,h.get? b=some u->h'.get? b=some u)(hp:h.objs.size<=a)(hn:H a=none):Un fs ex H (upd H a o) h h' where
 keep:=fun b u q _ _ _=>k b u q
 slot:=fun b u q _ _ _=>⟨u.slots,k b u q⟩
 free:=fun b u q n _=>by rw[au (ne_of_lt (lt_of_lt_of_le (lt_size q) hp))];exact n
 there:=fun b u q _=>⟨u,k b u q⟩
 tups:=fun b xs q=>by rw[au (aH q hn)];exact q
 frzs:=fun b u xs q=>by rw[au (aH q hn)];exact q
 tbls:=fun b ps q=>⟨#[],by rw[au (aH q hn),q];simp⟩
theorem Un.write(mu:Ir (H x))(he:e=x\/H e=some (.own x))(k:∀b u,b≠e->h.get? b=some u->h'.get? b=some u)(heo:∃u,h'.get? e=some u):Un fs ex H (upd H x o) h h':=by
 have hx:∀b,H b=none->b≠x:=fun b n z=>by subst z;rw[n]at mu;exact mu
 have hb:∀b,H b=none->b≠e:=fun b n z=>by
  subst z;rcases he with r|r
  ·exact hx b n r
  ·rw[n]at r;cases r
 have hm:∀b u,H b=some u->¬Ir (some u)->b≠x:=fun b u q nm z=>by subst z;rw[q]at mu;exact nm mu
 refine⟨fun b u q n _ _=>k b u (hb b n) q,fun b u q n _ _=>⟨u.slots,k b u (hb b n) q⟩,fun b u q n _=>by rw[au (hx b n)];exact n,fun b u q _=>?_,
  fun b xs q=>by rw[au (hm b _ q fun z=>z)];exact q,fun b u xs q=>by rw[au (hm b _ q fun z=>z)];exact q,fun b ps q=>⟨#[],by rw[au (hm b _ q fun z=>z),q];simp⟩⟩
 by_cases hbe:b=e
 ·subst hbe;exact heo
 ·exact⟨u,k b u hbe q⟩
end
noncomputable def trk(h:Heap)(H:Hp):List Addr:=(List.range h.objs.size).filter fun a=>(H a).isSome
noncomputable def qC(h:Heap)(H:Hp):Heap:=PySem.W.hideAll h (trk h H)
theorem xr(h:Heap)(H:Hp):(qC h H).objs.size=h.objs.size:=PySem.W.hideAll_size _ _
theorem zq{h:Heap}{H:Hp}{b:Addr}{o:Obj}(e:h.get? b=some o)(n:H b=none):(qC h H).get? b=some o:=
 PySem.W.hideAll_get _ e fun hm=>by
  have q:(H b).isSome=true:=(List.mem_filter.mp hm).2;rw[n]at q;simp at q
theorem Bz{h:Heap}{H:Hp}{b:Addr}{o:Obj}(e:(qC h H).get? b=some o):h.get? b=some o/\H b=none:=by
 have e':h.get? b=some o:=PySem.W.of_hideAll (trk h H) e;refine⟨e',?_⟩;cases q:H b with
 |none=>rfl
 |some x=>
  have hm:b∈trk h H:=List.mem_filter.mpr ⟨List.mem_range.mpr (lt_size e'),by simp[q]⟩;have z:(qC h H).get? b=none:=PySem.W.hideAll_none (trk h H) hm;rw[z]at e;cases e
noncomputable def Cq(g h:Heap)(L:Addr):List (Addr×Obj):=(List.range h.objs.size).filterMap fun a=>if a=L\/(g.get? a).isSome=true then none else(h.get? a).map fun o=>(a,o)
noncomputable def rest(g h:Heap)(L d:Addr):List (Addr×Obj):=(Cq g h L).filter fun p=>decide (p.1≠d)
structure Mod (K:PySem.W.Frag) (mg:Str->Option Value) (base:Heap):Prop where
 kin:K.In base
 glob:base.Ns mainGlobals mg
 blt:∃mb,base.Ns builtinsNs mb/\∀x:Str,x ≠ "__name__" -> mb x=bootBuiltins x
 nolimit:base.NoLimit
structure Cx where
 prog:Program
 w:World
 K:PySem.W.Frag
 mg:Str->Option Value
 base:Heap
 A:Around
 N:List Str
 s₀:Shared
 H₀:Hp
 env:Env
 outer:List Env
 stack:List Env
 ex:List Addr
 fn:Str->Bool
 calm:Bool
 pn:List (Addr×Obj)
 xe:Value->Shared->Prop
noncomputable def ic(l:List Env):List Addr:=l.filterMap (·.frame)
abbrev Cx.fs(X:Cx):List Addr:=ic X.outer
def nO(sc:Scope)(x:Str):Prop:=sc.names.lookup x=some .local\/sc.names.lookup x=some .cell\/sc.names.lookup x=some .free
def pE(sc:Scope)(x:Str):Prop:=sc.names.lookup x=some .local\/sc.names.lookup x=some .cell
def Kn(env:Env)(h:Heap)(m:Str->Option Value)(x:Str)(u:Value):Prop:=
 (env.kindOf x=some .local/\m x=some u)\/((env.kindOf x=some .cell\/env.kindOf x=some .free)/\∃c,env.cells.lookup x=some c/\h.IsCell c (some u))
structure Cx.Ok (X:Cx):Prop where
 mod:Mod X.K X.mg X.base
 kind:X.env.scope.kind=.function
 glob:X.env.globals=mainGlobals
 blt:X.env.builtins=builtinsNs
 above:X.s₀.heap.objs.size<=X.env.locals
 inj:∀x y c,X.env.cells.lookup x=some c->X.env.cells.lookup y=some c->x=y
 has:∀x,(X.env.kindOf x=some .cell\/X.env.kindOf x=some .free)->∃c,X.env.cells.lookup x=some c
 cab:∀x c,X.fn x=true->X.env.cells.lookup x=some c->X.s₀.heap.objs.size<=c
 hd:X.calm=true->X.A.handled=none
 frames:X.A.frames=some X.stack
 stk:X.stack=X.outer\/(X.stack=X.env::X.outer/\X.env.frame=some X.env.locals)
 exf:∀b∈X.ex,b≠X.env.locals/\∀x c,X.env.cells.lookup x=some c->c≠b
 bs:∀b o,X.base.get? b=some o->X.s₀.heap.get? b=some o/\X.H₀ b=none
 bsz:X.base.objs.size<=X.s₀.heap.objs.size
 noex:∀b o,X.base.get? b=some o->b ∉ X.ex
 exfs:∀b∈X.ex,b ∉ X.fs
 funs:X.s₀.heap.FunFrames X.base X.outer
 frf:∀b∈X.fs,X.H₀ b=none
structure Inv (X:Cx) (pins:List (Addr×Obj)) (σ:List (Option V)) (H:Hp) (s:Shared):Prop where
 ok:X.Ok
 os:s.os=X.s₀.os
 bare:AllBare s.gens
 base:Un X.fs X.ex X.H₀ H X.s₀.heap s.heap
 loc:∃m,s.heap.Ns X.env.locals m/\∀(i:Nat) (x:Str) (v:V),X.N[i]? = some x -> σ[i]? = some (some v)->nO X.env.scope x->∃u,RelV v u/\Kn X.env s.heap m x u
 cell:∀x c,X.env.cells.lookup x=some c->∃v,s.heap.IsCell c v
 free:H X.env.locals=none
 freeC:∀x c,X.env.cells.lookup x=some c->H c=none
 pin:∀p∈X.pn++pins,s.heap.get? p.1=some p.2/\H p.1=none/\p.1≠X.env.locals/\p.1 ∉ X.fs/\∀v,p.2.data≠.cell v
 hok:HOk X.prog X.w H s.heap
 len:σ.length=X.N.length
section
variable{X:Cx}{pins:List (Addr×Obj)}{σ:List (Option V)}{H H':Hp}{s:Shared}{h':Heap}
theorem Cx.Ok.nofr(ok:X.Ok){b:Addr}{o:Obj}(e:X.base.get? b=some o):b ∉ X.fs:=fun hb=>by
 have:=(ok.funs.mem hb).1;rw[e]at this;cases this
theorem Inv.bs(I:Inv X pins σ H s):∀b o,X.base.get? b=some o->s.heap.get? b=some o/\H b=none:=fun b o e=>
 ⟨I.base.keep b o (I.ok.bs b o e).1 (I.ok.bs b o e).2 (I.ok.nofr e) (I.ok.noex b o e),I.base.free b o (I.ok.bs b o e).1 (I.ok.bs b o e).2 (I.ok.noex b o e)⟩
theorem Inv.bk(I:Inv X pins σ H s):∀b o,X.base.get? b=some o->s.heap.get? b=some o:=fun b o e=>(I.bs b o e).1
theorem Inv.mod(I:Inv X pins σ H s):Mod X.K X.mg X.base:=I.ok.mod
theorem Inv.kIn(I:Inv X pins σ H s):X.K.In s.heap:=I.ok.mod.kin.keeps I.bk
theorem Inv.fr(I:Inv X pins σ H s):∃m,Fr X.base X.env.locals s.heap m:=
 let ⟨m,hn,_⟩:=I.loc
 ⟨m,hn,I.bk,le_trans I.ok.bsz I.ok.above⟩
theorem Inv.lt(I:Inv X pins σ H s):X.env.locals<s.heap.objs.size:=let ⟨_,hn,_⟩:=I.loc;hn.lt
theorem Inv.sz(I:Inv X pins σ H s):X.s₀.heap.objs.size<=s.heap.objs.size:=le_trans I.ok.above (Nat.le_of_lt I.lt)
theorem Inv.nofs(I:Inv X pins σ H s){a:Addr}(h:s.heap.objs.size<=a):a ∉ X.fs:=fun hb=>by
 obtain⟨_,o,ho,_⟩:=I.ok.funs.mem hb;exact absurd (lt_of_lt_of_le (lt_size ho) (le_trans I.sz h)) (lt_irrefl _)
theorem Inv.cne(I:Inv X pins σ H s):∀x c,X.env.cells.lookup x=some c->c≠X.env.locals:=fun x c e z=>by
 obtain⟨v,o,ho,hd⟩:=I.cell x c e;obtain⟨m,⟨o',es,ep,ho',hd',_⟩,_⟩:=I.loc;rw[z,ho']at ho;cases ho;rw[hd']at hd;cases hd
theorem Inv.funs(I:Inv X pins σ H s):s.heap.FunFrames X.base X.outer:=by
 have all:∀(l:List Env),(∀b∈ic l,b∈X.fs)->X.s₀.heap.FunFrames X.base l->s.heap.FunFrames X.base l:=by
  intro l
  induction l with
  |nil=>intro _ _;trivial
  |cons env r ih=>
   intro hs hl;obtain⟨hk,⟨L,o,hf,hn,ho,hd⟩,hr⟩:=hl;have hL:L∈X.fs:=hs L (by unfold ic;rw[List.filterMap_cons,hf];exact List.mem_cons_self);obtain⟨sl,e⟩:=I.base.slot L o ho (I.ok.frf L hL) hL fun z=>I.ok.exfs L z hL
   exact⟨hk,⟨L,_,hf,hn,e,hd⟩,ih (fun b hb=>hs b (by unfold ic;rw[List.filterMap_cons,hf];exact List.mem_cons_of_mem _ hb)) hr⟩
 exact all X.outer (fun _ hb=>hb) I.ok.funs
theorem Inv.stack(I:Inv X pins σ H s):s.heap.FunFrames X.base X.stack:=by
 rcases I.ok.stk with e|⟨e,hf⟩
 ·rw[e];exact I.funs
 ·rw[e]
  obtain⟨m,hn,_⟩:=I.loc;refine .cons (by rw[I.ok.kind];decide) hf hn ?_ I.funs;exact Heap.get?_none_of_le (le_trans I.ok.bsz I.ok.above)
theorem Inv.stkSub(I:Inv X pins σ H s):∀b∈ic X.stack,b∈X.env.locals::X.fs:=fun b hb=>by
 rcases I.ok.stk with e|⟨e,hf⟩
 ·rw[e]at hb;exact List.mem_cons_of_mem _ hb
 ·rw[e]at hb
  unfold ic at hb;rw[List.filterMap_cons,hf]at hb;exact hb
theorem Inv.stkFree(I:Inv X pins σ H s):∀b∈ic X.stack,H b=none:=fun b hb=>by
 rcases List.mem_cons.mp (I.stkSub b hb)with e|hb
 ·rw[e];exact I.free
 ·obtain⟨_,o,ho,_⟩:=I.ok.funs.mem hb
  exact I.base.free b o ho (I.ok.frf b hb) fun z=>I.ok.exfs b z hb
theorem Inv.step{g':Array GenState}{t':Nat}{d':Drawn}{ch:List Addr}(I:Inv X pins σ H s)
  (hch:∀b∈ch,(b∈X.ex\/X.s₀.heap.objs.size<=b)/\b≠X.env.locals/\(∀x c,X.env.cells.lookup x=some c->c≠b)/\∀p∈X.pn++pins,p.1≠b)
  (keep:∀b o,b≠X.env.locals->b ∉ X.fs->b ∉ ch->s.heap.get? b=some o->H b=none->h'.get? b=some o)
  (slot:∀b o,b≠X.env.locals->b∈X.fs->b ∉ ch->s.heap.get? b=some o->H b=none->∃sl,h'.get? b=some { o with slots:=sl }) (free:∀b o,b ∉ ch->s.heap.get? b=some o->H b=none->H' b=none)
  (there:∀b o,b ∉ ch->s.heap.get? b=some o->∃o',h'.get? b=some o')
  (tups:∀b xs,H b=some (.tup xs)->H' b=some (.tup xs)) (frzs:∀b o u,H b=some (.frz o u)->H' b=some (.frz o u)) (tbls:∀b ps,H b=some (.tbl ps)->∃more,H' b=some (.tbl (ps++more)))
  (ns:∀m,s.heap.Ns X.env.locals m->h'.Ns X.env.locals m) (hok:HOk X.prog X.w H' h') (hg:AllBare g') :
  Inv X pins σ H' { s with heap:=h',gens:=g',drawn:=d',toks:=t' }:=by
 have neL:∀b o,X.s₀.heap.get? b=some o->b≠X.env.locals:=fun b o e=>ne_of_lt (lt_of_lt_of_le (lt_size e) I.ok.above)
 have neC:∀b o,X.s₀.heap.get? b=some o->b ∉ X.ex->b ∉ ch:=fun b o e hx hb=>by
  rcases (hch b hb).1 with z|z
  ·exact hx z
  ·exact absurd (lt_of_lt_of_le (lt_size e) z) (lt_irrefl _)
 have cellK:∀x c,X.env.cells.lookup x=some c->∀v,s.heap.IsCell c v->h'.IsCell c v:=fun x c e v ⟨o,ho,hd⟩=>by
  have nch:c ∉ ch:=fun z=>(hch c z).2.2.1 x c e rfl
  by_cases hc:c∈X.fs
  ·obtain⟨sl,q⟩:=slot c o (I.cne x c e) hc nch ho (I.freeC x c e)
   exact⟨_,q,hd⟩
  ·exact⟨o,keep c o (I.cne x c e) hc nch ho (I.freeC x c e),hd⟩
 refine⟨I.ok,I.os,hg,⟨fun b o e n hb hx=>?_,fun b o e n hb hx=>?_,fun b o e n hx=>?_,fun b o e hx=>?_,fun b xs e=>tups b xs (I.base.tups b xs e),fun b o xs e=>frzs b o xs (I.base.frzs b o xs e),fun b ps e=>?_⟩,?_,fun x c e=>?_,?_,fun x c e=>?_,fun p hp=>?_,hok,I.len⟩
 ·exact keep b o (neL b o e) hb (neC b o e hx) (I.base.keep b o e n hb hx) (I.base.free b o e n hx)
 ·obtain⟨sl,e1⟩:=I.base.slot b o e n hb hx
  obtain⟨sl',e2⟩:=slot b _ (neL b o e) hb (neC b o e hx) e1 (I.base.free b o e n hx);exact⟨sl',e2⟩
 ·obtain⟨o',e1⟩:=I.base.there b o e hx
  exact free b o' (neC b o e hx) e1 (I.base.free b o e n hx)
 ·obtain⟨o',e1⟩:=I.base.there b o e hx
  exact there b o' (neC b o e hx) e1
 ·obtain⟨m1,e1⟩:=I.base.tbls b ps e
  obtain⟨m2,e2⟩:=tbls b _ e1;exact⟨m1++m2,by rw[e2,Array.append_assoc]⟩
 ·obtain⟨m,hn,hl⟩:=I.loc
  refine⟨m,ns m hn,fun i x v e1 e2 e3=>?_⟩
  obtain⟨u,r,l⟩:=hl i x v e1 e2 e3;refine⟨u,r,?_⟩;rcases l with l|⟨k,c,e,z⟩
  ·exact .inl l
  ·exact .inr ⟨k,c,e,cellK x c e _ z⟩
 ·obtain⟨v,z⟩:=I.cell x c e
  exact⟨v,cellK x c e v z⟩
 ·obtain⟨m,⟨o,_,_,ho,_⟩,_⟩:=I.loc
  exact free _ o (fun z=>(hch _ z).2.1 rfl) ho I.free
 ·obtain⟨v,o,ho,hd⟩:=I.cell x c e
  exact free c o (fun z=>(hch c z).2.2.1 x c e rfl) ho (I.freeC x c e)
 ·obtain⟨e,n,ne,nf,d⟩:=I.pin p hp
  have nch:p.1 ∉ ch:=fun z=>(hch p.1 z).2.2.2 p hp rfl
  exact⟨keep p.1 p.2 ne nf nch e n,free p.1 p.2 nch e n,ne,nf,d⟩
theorem Inv.un{t':Nat}(I:Inv X pins σ H s)(u:Un X.fs [] H H' s.heap h')(hok:HOk X.prog X.w H' h'):Inv X pins σ H' { s with heap:=h',toks:=t' }:=by
 obtain⟨m,⟨o,es,ep,ho,r⟩,_⟩:=id I.loc;obtain⟨sl,hL⟩:=u.any ho I.free (by simp);exact I.step (g':=s.gens) (d':=s.drawn) (ch:=[]) (fun _ z=>nomatch z) (fun b o _ hb _ e n=>u.keep b o e n hb (by simp)) (fun b o _ hb _ e n=>u.slot b o e n hb (by simp)) (fun b o _ e n=>u.free b o e n (by simp)) (fun b o _ e=>u.there b o e (by simp)) u.tups u.frzs u.tbls (fun m' hm=>by
  obtain⟨o',es',ep',ho',r'⟩:=hm;rw[ho]at ho';cases ho';exact⟨_,es',ep',hL,r'⟩) hok I.bare
theorem Inv.call{g':Array GenState}{t':Nat}{d':Drawn}{ch:List Addr}(I:Inv X pins σ H s)(u:Un (ic X.stack) ch H H' s.heap h')(hok:HOk X.prog X.w H' h')(hg:AllBare g')
  (hch:∀b∈ch,(b∈X.ex\/X.s₀.heap.objs.size<=b)/\b≠X.env.locals/\(∀x c,X.env.cells.lookup x=some c->c≠b)/\∀p∈X.pn++pins,p.1≠b) :
  Inv X pins σ H' { s with heap:=h',gens:=g',drawn:=d',toks:=t' }:=by
 obtain⟨m,⟨o,es,ep,ho,r⟩,_⟩:=id I.loc;obtain⟨sl,hL⟩:=u.any ho I.free fun z=>(hch _ z).2.1 rfl
 exact I.step (ch:=ch) hch (fun b o hL hb hc e n=>u.keep b o e n (fun z=>(List.mem_cons.mp (I.stkSub b z)).elim hL hb) hc) (fun b o _ _ hc e n=>u.any e n hc) (fun b o hc e n=>u.free b o e n hc) (fun b o hc e=>u.there b o e hc) u.tups u.frzs u.tbls (fun m' hm=>by
  obtain⟨o',es',ep',ho',r'⟩:=hm;rw[ho]at ho';cases ho';exact⟨_,es',ep',hL,r'⟩) hok hg
theorem Inv.turned{t':Nat}{it:Addr}(I:Inv X pins σ H s)(k:∀b o,b≠it->s.heap.get? b=some o->h'.get? b=some o)(hn:H it=none)(hL:it≠X.env.locals)
  (h1:it∈X.ex\/X.s₀.heap.objs.size<=it) (h2:∀x c,X.env.cells.lookup x=some c->c≠it) (h3:∀p∈X.pn++pins,p.1≠it):Inv X pins σ H { s with heap:=h',toks:=t' }:=by
 have nit:∀b u,H b=some u->b≠it:=fun b u e z=>by rw[z,hn]at e;cases e
 refine I.step (g':=s.gens) (d':=s.drawn) (ch:=[it]) (fun b hb=>?_) (fun b o _ _ hc e _=>k b o (fun z=>hc (by simp[z])) e) (fun b o _ _ hc e _=>⟨o.slots,k b o (fun z=>hc (by simp[z])) e⟩) (fun _ _ _ _ n=>n)
  (fun b o hc e=>⟨o,k b o (fun z=>hc (by simp[z])) e⟩) (fun _ _ e=>e) (fun _ _ _ e=>e) (fun b ps e=>⟨#[],by rw[e];simp⟩) (fun m hm=>?_) (fun b u e=>?_) I.bare
 ·have e:b=it:=by simpa using hb
  subst e;exact⟨h1,hL,h2,h3⟩
 ·obtain⟨o,es,ep,ho,r⟩:=hm
  exact⟨o,es,ep,k _ o (Ne.symm hL) ho,r⟩
 ·refine(I.hok b u e).stay (fun c v hc q=>k c v ?_ q) (fun _ q=>q) fun _ _ q=>q
  rcases hc with z|z
  ·rw[z];exact nit b u e
  ·exact nit c _ z
theorem Inv.tok(I:Inv X pins σ H s)(t:Nat):Inv X pins σ H { s with toks:=t }:=I.un (h':=s.heap) (t':=t) Un.refl I.hok
theorem Inv.kept{t':Nat}(I:Inv X pins σ H s)(k:∀b u,s.heap.get? b=some u->h'.get? b=some u):Inv X pins σ H { s with heap:=h',toks:=t' }:=I.un (Un.kept k) (I.hok.kept k)
theorem Inv.laid{a:Addr}{o:HO}{t':Nat}(I:Inv X pins σ H s)(k:∀b u,s.heap.get? b=some u->h'.get? b=some u)(hp:s.heap.objs.size<=a)(new:ObjOk X.prog X.w (upd H a o) h' a o):
  Inv X pins σ (upd H a o) { s with heap:=h',toks:=t' }:=I.un (Un.laid k hp (I.hok.fresh hp)) (I.hok.laid k hp new)
theorem Inv.write{x e:Addr}{o:HO}{t':Nat}(I:Inv X pins σ H s)(mu:Ir (H x))(he:e=x\/H e=some (.own x))(k:∀b u,b≠e->s.heap.get? b=some u->h'.get? b=some u)(heo:∃u,h'.get? e=some u)
  (new:ObjOk X.prog X.w (upd H x o) h' x o):Inv X pins σ (upd H x o) { s with heap:=h',toks:=t' }:=I.un (Un.write mu he k heo) (I.hok.write mu he k heo new)
theorem Inv.weak{σ':List (Option V)}(I:Inv X pins σ H s)(hl:σ'.length = σ.length)(w:∀(i:Nat) v,σ'[i]? = some (some v) -> σ[i]? = some (some v)):Inv X pins σ' H s:=
 ⟨I.ok,I.os,I.bare,I.base,let ⟨m,hn,hl'⟩:=I.loc; ⟨m,hn,fun i x v e1 e2 e3=>hl' i x v e1 (w i v e2) e3⟩,I.cell,I.free,I.freeC,I.pin,I.hok,hl.trans I.len⟩
theorem Inv.pins_of{pins':List (Addr×Obj)}(I:Inv X pins σ H s)(h:∀p∈pins',s.heap.get? p.1=some p.2/\H p.1=none/\p.1≠X.env.locals/\p.1 ∉ X.fs/\∀v,p.2.data≠.cell v):Inv X pins' σ H s:=
 ⟨I.ok,I.os,I.bare,I.base,I.loc,I.cell,I.free,I.freeC,fun p hp=>(List.mem_append.mp hp).elim (fun z=>I.pin p (List.mem_append_left _ z)) (h p),I.hok,I.len⟩
theorem sg{N:List Str}(hN:N.Nodup){i j:Nat}{x:Str}(a:N[i]? = some x)(b:N[j]? = some x):i=j:=by
 obtain⟨h1,e1⟩:=List.getElem?_eq_some_iff.mp a;obtain⟨h2,e2⟩:=List.getElem?_eq_some_iff.mp b;exact(List.getElem_inj hN).mp (e1.trans e2.symm)
theorem wE{M:Model}{A:Around}{E:Value->Shared->Prop}{i:Nat}{x:Str}{v:V}{u:Value}{Q:Unit->Shared->Prop}(I:Inv X pins σ H s)(hN:X.N.Nodup)(hi:X.N[i]? = some x)(hx:pE X.env.scope x)(r:RelV v u)
  (h:∀s',Inv X pins (σ.set i (some v)) H s'->(∃a,Heap.SameBut a s.heap s'.heap/\(a=X.env.locals\/X.env.cells.lookup x=some a))->Q () s') (hf:X.fn x=true\/X.env.scope.names.lookup x=some .local:=by first|exact .inl rfl|exact .inr rfl|assumption):wpAny M A (storeName X.env x u) Q E s:=by
 obtain⟨m,hn,hl⟩:=id I.loc;have hcls:(X.env.scope.kind == .class||(X.env.scope.kind == .module&&X.env.locals != X.env.globals))=false:=by rw[I.ok.kind];rfl
 have hiσ:i < σ.length:=by rw[I.len];exact(List.getElem?_eq_some_iff.mp hi).1
 have cne:=I.cne;have tracked:∀{a:Addr} {h':Heap},(∃o,s.heap.get? a=some o/\H a=none)->Heap.SameBut a s.heap h'->HOk X.prog X.w H h':=fun{a h'} ha hs b ob e=>by
  obtain⟨_,_,hfree⟩:=ha;refine(I.hok b ob e).stay (fun c w' hc q=>(hs.2 c ?_).trans q) (fun _ q=>q) fun _ _ q=>q
  rintro rfl;rcases hc with rfl|hc
  ·rw[hfree]at e;cases e
  ·rw[hfree]at hc;cases hc
 rcases hx with hk|hk
 ·refine wpAny_storeName_local hk hn (fun h' hn' hs=>?_) hcls
  obtain⟨oL,_,_,hoL,_⟩:=id hn;refine h _ ⟨I.ok,I.os,I.bare,⟨fun b o e n hb hx=>?_,fun b o e n hb hx=>?_,I.base.free,fun b o e hx=>?_,I.base.tups,I.base.frzs,I.base.tbls⟩,⟨_,hn',fun j y v' e1 e2 e3=>?_⟩,fun y c e=>?_,I.free,I.freeC,fun p hp=>?_,tracked ⟨oL,hoL,I.free⟩ hs,by simpa using I.len⟩ ⟨_,hs,.inl rfl⟩
  ·exact(hs.2 b (ne_of_lt (lt_of_lt_of_le (lt_size e) I.ok.above))).trans (I.base.keep b o e n hb hx)
  ·obtain⟨sl,e1⟩:=I.base.slot b o e n hb hx
   exact⟨sl,(hs.2 b (ne_of_lt (lt_of_lt_of_le (lt_size e) I.ok.above))).trans e1⟩
  ·obtain⟨o',e1⟩:=I.base.there b o e hx
   exact⟨o',(hs.2 b (ne_of_lt (lt_of_lt_of_le (lt_size e) I.ok.above))).trans e1⟩
  ·by_cases hj:j=i
   ·subst hj
    rw[hi]at e1;cases e1;rw[List.getElem?_set_self hiσ]at e2;cases e2;exact⟨u,r,.inl ⟨hk,by simp⟩⟩
   ·rw[List.getElem?_set_ne (Ne.symm hj)]at e2
    obtain⟨u',r',q⟩:=hl j y v' e1 e2 e3;refine⟨u',r',?_⟩;rcases q with⟨k,e⟩|⟨k,c,e,z⟩
    ·refine .inl ⟨k,?_⟩
     have:y≠x:=fun e=>hj (sg hN e1 (e ▸ hi))
     simp[this,e]
    ·exact .inr ⟨k,c,e,z.sameBut hs (cne y c e)⟩
  ·obtain⟨w',z⟩:=I.cell y c e
   exact⟨w',z.sameBut hs (cne y c e)⟩
  ·obtain⟨e,n,ne,nf,d⟩:=I.pin p hp
   exact⟨(hs.2 p.1 ne).trans e,n,ne,nf,d⟩
 ·have hfn:X.fn x=true:=by
   rcases hf with z|z
   ·exact z
   ·rw[z]at hk;cases hk
  obtain⟨c,hc⟩:=I.ok.has x (.inl hk);obtain⟨w',z⟩:=I.cell x c hc;refine wpAny_storeName_cell I.ok.kind hk hc z (fun h' hc' hs=>?_);obtain⟨oc,hoc,hocd⟩:=id z;refine h { s with heap:=h' } ⟨I.ok,I.os,I.bare,⟨fun b o e n hb hx=>?_,fun b o e n hb hx=>?_,I.base.free,fun b o e hx=>?_,I.base.tups,I.base.frzs,I.base.tbls⟩,⟨m,hn.sameBut hs (Ne.symm (cne x c hc)),fun j y v' e1 e2 e3=>?_⟩,fun y c' e=>?_,I.free,I.freeC,fun p hp=>?_,tracked ⟨oc,hoc,I.freeC x c hc⟩ hs,by simpa using I.len⟩ ⟨c,hs,.inr hc⟩
  ·exact(hs.2 b (ne_of_lt (lt_of_lt_of_le (lt_size e) (I.ok.cab x c hfn hc)))).trans (I.base.keep b o e n hb hx)
  ·obtain⟨sl,e1⟩:=I.base.slot b o e n hb hx
   exact⟨sl,(hs.2 b (ne_of_lt (lt_of_lt_of_le (lt_size e) (I.ok.cab x c hfn hc)))).trans e1⟩
  ·obtain⟨o',e1⟩:=I.base.there b o e hx
   exact⟨o',(hs.2 b (ne_of_lt (lt_of_lt_of_le (lt_size e) (I.ok.cab x c hfn hc)))).trans e1⟩
  ·by_cases hj:j=i
   ·subst hj
    rw[hi]at e1;cases e1;rw[List.getElem?_set_self hiσ]at e2;cases e2;exact⟨u,r,.inr ⟨.inl hk,c,hc,hc'⟩⟩
   ·rw[List.getElem?_set_ne (Ne.symm hj)]at e2
    obtain⟨u',r',q⟩:=hl j y v' e1 e2 e3;refine⟨u',r',?_⟩;rcases q with q|⟨k,c',e,z'⟩
    ·exact .inl q
    ·refine .inr ⟨k,c',e,z'.sameBut hs ?_⟩
     rintro rfl;exact hj (sg hN e1 (I.ok.inj _ _ _ e hc ▸ hi))
  ·by_cases hcc:c'=c
   ·subst hcc;exact⟨_,hc'⟩
   ·obtain⟨w2,z2⟩:=I.cell y c' e
    exact⟨w2,z2.sameBut hs hcc⟩
  ·obtain⟨e,n,ne,nf,d⟩:=I.pin p hp
   refine⟨(hs.2 p.1 ?_).trans e,n,ne,nf,d⟩;intro q;rw[q,hoc]at e;have q':oc=p.2:=Option.some.inj e;exact d w' (by rw[<-q'];exact hocd)
theorem ro{M:Model}{A:Around}{E:Value->Shared->Prop}{i:Nat}{x:Str}{v:V}{u:Value}{Q:Unit->Shared->Prop}(I:Inv X pins σ H s)(hN:X.N.Nodup)(hi:X.N[i]? = some x)(hx:pE X.env.scope x)(r:RelV v u)
  (h:∀s',Inv X pins (σ.set i (some v)) H s'->Q () s') (hf:X.fn x=true\/X.env.scope.names.lookup x=some .local:=by first|exact .inl rfl|exact .inr rfl|assumption):wpAny M A (storeName X.env x u) Q E s:=
 wE I hN hi hx r (fun s' I' _=>h s' I') hf
theorem Inv.call'{s':Shared}{ch:List Addr}(I:Inv X pins σ H s)(ho:s'.os=s.os)(u:Un (ic X.stack) ch H H' s.heap s'.heap)(hok:HOk X.prog X.w H' s'.heap)(hg:AllBare s'.gens)
  (hch:∀b∈ch,(b∈X.ex\/X.s₀.heap.objs.size<=b)/\b≠X.env.locals/\(∀x c,X.env.cells.lookup x=some c->c≠b)/\∀p∈X.pn++pins,p.1≠b):Inv X pins σ H' s':=by
 obtain⟨h',g',d',t',o'⟩:=s';have e:o'=s.os:=ho;subst e;exact I.call (g':=g') (t':=t') (d':=d') u hok hg hch
end
abbrev XK:=Value->Option Addr->Hp->Prop
abbrev St:=List (Option V)
abbrev VK:=V->Hp->Prop
abbrev TE:=St->Hp->VK->Prop
abbrev TT:=St->Hp->(Bool->Hp->Prop)->Prop
abbrev TA:=St->Hp->(List V->Hp->Prop)->Prop
structure Ends where
 nx:St->Hp->Prop
 rt:VK
 bk:St->Hp->Prop:=fun _ _=>False
 ct:St->Hp->Prop:=fun _ _=>False
abbrev TS:=Ends->St->Hp->Prop
def EP(X:Cx)(pins:List (Addr×Obj))(σ:St)(Q:VK)(u:Value)(s':Shared):Prop:=∃v H',Inv X pins σ H' s'/\RelV v u/\Q v H'
def TP(X:Cx)(pins:List (Addr×Obj))(σ:St)(Q:Bool->Hp->Prop)(b:Bool)(s':Shared):Prop:=∃H',Inv X pins σ H' s'/\Q b H'
def AP(X:Cx)(pins:List (Addr×Obj))(σ:St)(Q:List V->Hp->Prop)(us:List Value)(s':Shared):Prop:=∃vs H',Inv X pins σ H' s'/\Vals vs us/\Q vs H'
def SP(X:Cx)(pins:List (Addr×Obj))(D:Ends)(f:Flow)(s':Shared):Prop:=
 match f with
 |.next=>∃ σ' H',Inv X pins σ' H' s'/\D.nx σ' H'
 |.brk=>∃ σ' H',Inv X pins σ' H' s'/\D.bk σ' H'
 |.cont=>∃ σ' H',Inv X pins σ' H' s'/\D.ct σ' H'
 |.ret u=>∃v σ' H',Inv X pins σ' H' s'/\RelV v u/\D.rt v H'
def PE(X:Cx)(e:Expr)(t:TE):Prop:=
 ∀(pins:List (Addr×Obj)) (s:Shared) (σ:St) (H:Hp) (Q:VK),Inv X pins σ H s->t σ H Q->wpAny (model X.prog X.w) X.A (eval e X.env) (EP X pins σ Q) X.xe s
def PT(X:Cx)(e:Expr)(t:TT):Prop:=
 ∀(pins:List (Addr×Obj)) (s:Shared) (σ:St) (H:Hp) (Q:Bool->Hp->Prop),Inv X pins σ H s->t σ H Q->wpAny (model X.prog X.w) X.A (isTrue e X.env (eval e X.env)) (TP X pins σ Q) X.xe s
def PW(X:Cx)(e:Expr)(t:TT):Prop:=
 ∀(whole:Sem Value) (pins:List (Addr×Obj)) (s:Shared) (σ:St) (H:Hp) (Q:Bool->Hp->Prop),Inv X pins σ H s->t σ H Q->wpAny (model X.prog X.w) X.A (isTrue e X.env whole) (TP X pins σ Q) X.xe s
theorem PW.pt{X:Cx}{e:Expr}{t:TT}(h:PW X e t):PT X e t:=h _
def PA(X:Cx)(es:List Expr)(t:TA):Prop:=
 ∀(pos:Pos) (pins:List (Addr×Obj)) (s:Shared) (σ:St) (H:Hp) (Q:List V->Hp->Prop),Inv X pins σ H s->t σ H Q->wpAny (model X.prog X.w) X.A (spliced (backTo pos (starEach es X.env))) (AP X pins σ Q) X.xe s
def PS(X:Cx)(st:Stmt)(t:TS):Prop:=
 ∀(pins:List (Addr×Obj)) (s:Shared) (σ:St) (H:Hp) (D:Ends),Inv X pins σ H s->t D σ H->wpAny (model X.prog X.w) X.A (exec st X.env) (SP X pins D) X.xe s
def PSs(X:Cx)(st:List Stmt)(t:TS):Prop:=
 ∀(pins:List (Addr×Obj)) (s:Shared) (σ:St) (H:Hp) (D:Ends),Inv X pins σ H s->t D σ H->wpAny (model X.prog X.w) X.A (execs st X.env) (SP X pins D) X.xe s
theorem b0{α:Type}{t:Sem α}{Q Q':α -> Shared->Prop}{M:Model}{A:Around}{E:Value->Shared->Prop}{s:Shared}(h:wpAny M A t Q E s)(hQ:∀a s,Q a s->Q' a s):wpAny M A t Q' E s:=wpAny_mono h hQ fun _ _ x=>x
section
variable{X:Cx}
def Jd(i:Nat):TE:=fun σ H Q=>∃v,σ[i]? = some (some v)/\Q v H
def tC(v:V):TE:=fun _ H Q=>Q v H
theorem ca{i:Nat}{x:Str}{pos:Pos}(hN:X.N[i]? = some x)(hv:nO X.env.scope x)(hd:(x==("__debug__":Str))=false:=by decide)(hcd:(x==("__classdict__":Str))=false:=by decide):PE X (.Name x pos) (Jd i):=by
 intro pins s σ H Q I h;obtain⟨v,e,h⟩:=h;obtain⟨m,hn,hl⟩:=I.loc;obtain⟨u,r,l⟩:=hl i x v hN e hv;have fin:EP X pins σ Q u s:=⟨v,H,I,r,h⟩;rcases l with⟨hk,hm⟩|⟨hk,c,hc,hcell⟩
 ·exact wpAny_Name (wpAny_loadName_local I.ok.kind hk hn hm fin) hd
 ·rcases hk with hk|hk
  ·exact wpAny_Name (wpAny_loadName_cell I.ok.kind hk hc hcell fin) hd
  ·exact wpAny_Name (wpAny_loadName_free I.ok.kind hk hc hcell fin hcd) hd
theorem uq{i j pos}:PE X (.Constant (.int i) j pos) (tC (.int i)):=fun _ _ _ H _ I h=>wpAny_Constant_int ⟨.int i,H,I.tok _,⟨_,rfl⟩,h⟩
theorem GL{b j pos}:PE X (.Constant (.bool b) j pos) (tC (.bl b)):=fun _ _ _ H _ I h=>Constant_bool ⟨.bl b,H,I,rfl,h⟩
theorem Ei{j pos}:PE X (.Constant .none j pos) (tC .non):=fun _ _ _ H _ I h=>Constant_none ⟨.non,H,I,rfl,h⟩
theorem Eg{x j pos}:PE X (.Constant (.str x) j pos) (tC (.str x)):=fun _ _ _ H _ I h=>Calls.Constant_str ⟨.str x,H,I.tok _,⟨_,rfl⟩,h⟩
def Gl(X:Cx)(x:Str):Prop:=X.env.kindOf x=some .globalImplicit
theorem lz{E:Value->Shared->Prop}{pins:List (Addr×Obj)}{s:Shared}{σ:St}{H:Hp}{x:Str}{u:Value}{pos:Pos}{Q:Value->Shared->Prop}(I:Inv X pins σ H s)(hg:Gl X x)(hm:X.mg x=some u)(h:Q u s)
  (hd:(x==("__debug__":Str))=false:=by decide):wpAny (model X.prog X.w) X.A (eval (.Name x pos) X.env) Q E s:=
 Calls.Name_function_global I.ok.kind hg (Calls.loadGlobal_global (by rw[I.ok.glob];exact I.mod.glob.keeps I.bk) hm h) hd
theorem fH{E:Value->Shared->Prop}{pins:List (Addr×Obj)}{s:Shared}{σ:St}{H:Hp}{x:Str}{u:Value}{pos:Pos}{Q:Value->Shared->Prop}(I:Inv X pins σ H s)(hg:Gl X x)(hm:X.mg x=none)(hv:bootBuiltins x=some u)(h:Q u s)
  (hn:x ≠ "__name__":=by decide) (hd:(x==("__debug__":Str))=false:=by decide):wpAny (model X.prog X.w) X.A (eval (.Name x pos) X.env) Q E s:=by
 obtain⟨mb,h1,h2⟩:=I.mod.blt;exact Calls.Name_function_global I.ok.kind hg (Calls.loadGlobal_builtin (by rw[I.ok.glob];exact I.mod.glob.keeps I.bk) hm (by rw[I.ok.blt];exact h1.keeps I.bk) ((h2 x hn).trans hv) h) hd
theorem Bo{x:Str}{v:V}{u:Value}{pos:Pos}(hg:Gl X x)(hm:X.mg x=some u)(r:RelV v u)(hd:(x==("__debug__":Str))=false:=by decide):PE X (.Name x pos) (tC v):=
 fun _ _ _ H _ I h=>lz I hg hm ⟨v,H,I,r,h⟩ hd
theorem Bs{x:Str}{v:V}{u:Value}{pos:Pos}(hg:Gl X x)(hm:X.mg x=none)(hv:bootBuiltins x=some u)(r:RelV v u)(hn:x ≠ "__name__":=by decide)(hd:(x==("__debug__":Str))=false:=by decide):PE X (.Name x pos) (tC v):=
 fun _ _ _ H _ I h=>fH I hg hm hv ⟨v,H,I,r,h⟩ hn hd
variable{a b:Expr}{ta tb:TE}{pos:Pos}
def tB(t:TE):TT:=fun σ H Q=>t σ H fun x H1=>∃c,x=.bl c/\Q c H1
theorem DZ{e:Expr}{t:TE}(h:PE X e t)(he:∀whole,isTrue e X.env whole=(do let v <-whole;standAt e.pos;holding [v] (truthy v)):=by intro _;rfl):PT X e (tB t):=by
 intro pins s σ H Q I hw;refine isTrue_plain (b0 (h pins s σ H _ I hw) fun v s1 ⟨x,H1,I1,r1,q1⟩=>?_) (he _)
 obtain⟨d,rfl,q⟩:=q1;cases r1;exact wpAny_truthy_bool ⟨H1,I1,q⟩
variable{tA tB':TT}{rest:List Expr}
def Jo(t u:TT):TT:=fun σ H Q=>t σ H fun c H1=>if c=true then u σ H1 Q else Q false H1
def K8(t u:TT):TT:=fun σ H Q=>t σ H fun c H1=>if c=true then Q true H1 else u σ H1 Q
def Ji(t:TT):TT:=fun σ H Q=>t σ H fun c H1=>Q (!c) H1
theorem Bd(ha:PT X a tA):PW X (.BoolOp .And [a] pos) tA:=by
 intro wh pins s σ H Q I h;refine isTrue_and (b0 (ha pins s σ H Q I h) fun c s1 e=>?_)
 cases c with
 |true=>exact isTrue_and_nil e
 |false=>exact e
theorem DW(ha:PT X a tA):PW X (.BoolOp .Or [a] pos) tA:=by
 intro wh pins s σ H Q I h;refine isTrue_or (b0 (ha pins s σ H Q I h) fun c s1 e=>?_)
 cases c with
 |false=>exact isTrue_or_nil e
 |true=>exact e
theorem DX(ha:PT X a tA)(hb:PW X (.BoolOp .And (b::rest) pos) tB'):PW X (.BoolOp .And (a::b::rest) pos) (Jo tA tB'):=by
 intro wh pins s σ H Q I h;refine isTrue_and (b0 (ha pins s σ H _ I h) fun c s1 ⟨H1,I1,q1⟩=>?_)
 cases c with
 |true=>exact hb wh pins s1 σ H1 Q I1 q1
 |false=>exact⟨H1,I1,q1⟩
theorem GD(ha:PT X a tA)(hb:PW X (.BoolOp .Or (b::rest) pos) tB'):PW X (.BoolOp .Or (a::b::rest) pos) (K8 tA tB'):=by
 intro wh pins s σ H Q I h;refine isTrue_or (b0 (ha pins s σ H _ I h) fun c s1 ⟨H1,I1,q1⟩=>?_)
 cases c with
 |true=>exact⟨H1,I1,q1⟩
 |false=>exact hb wh pins s1 σ H1 Q I1 q1
theorem Ea(ha:PT X a tA):PT X (.UnaryOp .Not a pos) (Ji tA):=by
 intro pins s σ H Q I h;exact isTrue_not (ha pins s σ H (fun c H1=>Q (!c) H1) I h)
def F5(ta tb:TE):TE:=fun σ H Q=>ta σ H fun x H1=>∃c,x=.bl c/\if c=true then tb σ H1 Q else Q (.bl false) H1
theorem Eh{op}{t:TE}(h:PE X a t):PE X (.BoolOp op [a] pos) t:=fun pins s σ H Q I hw=>BoolOp_one (h pins s σ H Q I hw)
theorem Ej(ha:PE X a ta)(hb:PE X (.BoolOp .And (b::rest) pos) tb):PE X (.BoolOp .And (a::b::rest) pos) (F5 ta tb):=by
 intro pins s σ H Q I h;refine BoolOp_and (b0 (ha pins s σ H _ I h) fun v s1 ⟨x,H1,I1,r1,q1⟩=>?_)
 obtain⟨c,rfl,q1⟩:=q1;cases r1;refine wpAny_truthy_bool ?_;cases c with
 |true=>exact hb pins s1 σ H1 Q I1 q1
 |false=>exact⟨.bl false,H1,I1,rfl,q1⟩
def K9(t:TT)(ta tb:TE):TE:=fun σ H Q=>t σ H fun c H1=>if c=true then ta σ H1 Q else tb σ H1 Q
theorem yF{c:Expr}(hc:PT X c tA)(ha:PE X a ta)(hb:PE X b tb):PE X (.IfExp c a b pos) (K9 tA ta tb):=by
 intro pins s σ H Q I h;refine wpAny_IfExp (b0 (hc pins s σ H _ I h) fun d s1 ⟨H1,I1,q1⟩=>?_)
 cases d with
 |true=>exact ha pins s1 σ H1 Q I1 q1
 |false=>exact hb pins s1 σ H1 Q I1 q1
end
def SqL(K:PySem.W.Frag)(H:Hp)(a:Addr)(xs:List V):Prop:=
 Rd H a (.lst xs) \/
  ∃(o:Obj) (its:Array Value) (n:Nat),K.lookup a=some o/\o.cls=.type "list" /\ o.dict=none/\o.data=.seq its n/\its.size<=sizeLine/\Vals xs its.toList
def SqT(K:PySem.W.Frag)(H:Hp)(a:Addr)(xs:List V):Prop:=
 Rd H a (.tup xs) \/
  ∃(o:Obj) (its:Array Value) (n:Nat),K.lookup a=some o/\o.cls=.type "tuple" /\ o.data=.seq its n/\its.size<=sizeLine/\Vals xs its.toList/\o.dict=none
noncomputable def Kl:Value->Option V
 |.none=>some .non
 |.bool b=>some (.bl b)
 |.int i _=>some (.int i)
 |.str x _=>some (.str x)
 |.bytes b _=>some (.byt b)
 |.float b _=>some (.flt b)
 |.ref a=>some (.ref a)
 |.type n=>some (.ty n)
 |_=>none
theorem RelV.abs{x:V}{u:Value}(r:RelV x u):Kl u=some x:=by
 cases x with
 |non=>cases r;rfl
 |bl _=>cases r;rfl
 |int _=>obtain⟨t,rfl⟩:=r;rfl
 |str _=>obtain⟨t,rfl⟩:=r;rfl
 |byt _=>obtain⟨t,rfl⟩:=r;rfl
 |flt _=>obtain⟨t,rfl⟩:=r;rfl
 |ref _=>cases r;rfl
 |ty _=>cases r;rfl
theorem RelV.inj{x y:V}{u:Value}(r:RelV x u)(q:RelV y u):x=y:=Option.some.inj (r.abs.symm.trans q.abs)
theorem Vals.inj:∀{xs ys:List V} {us:List Value},Vals xs us->Vals ys us->xs=ys
 |_,_,_,.nil,.nil=>rfl
 |_,_,_,.cons r t,.cons r' t'=>by rw[r.inj r',Vals.inj t t']
section
variable{X:Cx}{pins:List (Addr×Obj)}{σ:St}{H:Hp}{s:Shared}{a:Addr}{xs ys:List V}
theorem SqL.of{K:PySem.W.Frag}(h:H a=some (.lst xs)):SqL K H a xs:=.inl (.inl h)
theorem SqT.of{K:PySem.W.Frag}(h:H a=some (.tup xs)):SqT K H a xs:=.inl (.inl h)
theorem Inv.list(I:Inv X pins σ H s)(h:SqL X.K H a xs):∃its:List Value,Vals xs its/\PlainL s.heap a its.toArray/\xs.length<=sizeLine:=by
 rcases h with h|⟨o,its,n,hk,hc,hd,hs,hz,r⟩
 ·obtain⟨z,its,n,r,e⟩:=h.ok I.hok
  exact⟨its,r,⟨_,n,e,rfl,rfl,rfl⟩,z⟩
 ·refine⟨its.toList,r,⟨o,n,I.kIn a o hk,hc,hd,by simpa using hs⟩,?_⟩
  have e:=r.length;simp only[Array.length_toList]at e;omega
theorem Inv.tuple(I:Inv X pins σ H s)(h:SqT X.K H a xs):∃its:List Value,Vals xs its/\IsTup s.heap a its.toArray/\xs.length<=sizeLine:=by
 rcases h with h|⟨o,its,n,hk,hc,hs,hz,r,hd⟩
 ·obtain⟨z,its,r,p⟩:=h.ok I.hok
  exact⟨its,r,p.1,z⟩
 ·refine⟨its.toList,r,⟨o,I.kIn a o hk,hc,n,by simpa using hs⟩,?_⟩
  have e:=r.length;simp only[Array.length_toList]at e;omega
theorem Inv.noDi(I:Inv X pins σ H s)(h:SqT X.K H a xs):NoDi s.heap a:=by
 rcases h with h|⟨o,its,n,hk,hc,hs,hz,r,hd⟩
 ·obtain⟨z,its,r,p⟩:=h.ok I.hok
  exact p.2
 ·exact⟨o,I.kIn a o hk,hd⟩
theorem Inv.list_inj(I:Inv X pins σ H s)(h:SqL X.K H a xs)(h':SqL X.K H a ys):xs=ys:=by
 obtain⟨its,r,⟨o,n,e,_,_,d⟩,_⟩:=I.list h;obtain⟨its',r',⟨o',n',e',_,_,d'⟩,_⟩:=I.list h';rw[e]at e';cases e';rw[d]at d';injection d' with d1 _
 have:its=its':=by simpa using congrArg Array.toList d1
 subst this;exact r.inj r'
theorem Inv.tuple_inj(I:Inv X pins σ H s)(h:SqT X.K H a xs)(h':SqT X.K H a ys):xs=ys:=by
 obtain⟨its,r,⟨o,e,_,n,d⟩,_⟩:=I.tuple h;obtain⟨its',r',⟨o',e',_,n',d'⟩,_⟩:=I.tuple h';rw[e]at e';cases e';rw[d]at d';injection d' with d1 _
 have:its=its':=by simpa using congrArg Array.toList d1
 subst this;exact r.inj r'
end
abbrev Cx.wish(X:Cx)(E:Value->Shared->Prop):Cx:={ X with xe:=E }
abbrev Cx.nox(X:Cx):Cx:=X.wish fun _ _=>False
theorem Cx.Ok.wish{X:Cx}(ok:X.Ok)(E:Value->Shared->Prop):(X.wish E).Ok:=
 ⟨ok.mod,ok.kind,ok.glob,ok.blt,ok.above,ok.inj,ok.has,ok.cab,ok.hd,ok.frames,ok.stk,ok.exf,ok.bs,ok.bsz,ok.noex,ok.exfs,ok.funs,ok.frf⟩
theorem Cx.Ok.unwish{X:Cx}{E:Value->Shared->Prop}(ok:(X.wish E).Ok):X.Ok:=
 ⟨ok.mod,ok.kind,ok.glob,ok.blt,ok.above,ok.inj,ok.has,ok.cab,ok.hd,ok.frames,ok.stk,ok.exf,ok.bs,ok.bsz,ok.noex,ok.exfs,ok.funs,ok.frf⟩
section
variable{X:Cx}{pins:List (Addr×Obj)}{σ:St}{H:Hp}{s:Shared}{E:Value->Shared->Prop}
theorem Inv.wish(I:Inv X pins σ H s)(E:Value->Shared->Prop):Inv (X.wish E) pins σ H s:=⟨I.ok.wish E,I.os,I.bare,I.base,I.loc,I.cell,I.free,I.freeC,I.pin,I.hok,I.len⟩
theorem Inv.unwish(I:Inv (X.wish E) pins σ H s):Inv X pins σ H s:=⟨I.ok.unwish,I.os,I.bare,I.base,I.loc,I.cell,I.free,I.freeC,I.pin,I.hok,I.len⟩
theorem SP.unwish{D:Ends}{f:Flow}{s':Shared}(h:SP (X.wish E) pins D f s'):SP X pins D f s':=by
 cases f with
 |next=>obtain⟨σ',H',I,q⟩:=h;exact⟨σ',H',I.unwish,q⟩
 |brk=>obtain⟨σ',H',I,q⟩:=h;exact⟨σ',H',I.unwish,q⟩
 |cont=>obtain⟨σ',H',I,q⟩:=h;exact⟨σ',H',I.unwish,q⟩
 |ret u=>obtain⟨v,σ',H',I,r,q⟩:=h;exact⟨v,σ',H',I.unwish,r,q⟩
theorem PE.nox{e:Expr}{t:TE}(h:PE X.nox e t):PE X e t:=fun pins s σ H Q I hw=>
 wpAny_mono (h pins s σ H Q (I.wish _) hw) (fun _ _ ⟨v,H',I',r,q⟩=>⟨v,H',I'.unwish,r,q⟩) fun _ _ z=>False.elim z
theorem PT.nox{e:Expr}{t:TT}(h:PT X.nox e t):PT X e t:=fun pins s σ H Q I hw=>
 wpAny_mono (h pins s σ H Q (I.wish _) hw) (fun _ _ ⟨H',I',q⟩=>⟨H',I'.unwish,q⟩) fun _ _ z=>False.elim z
theorem PSs.nox{st:List Stmt}{t:TS}(h:PSs X.nox st t):PSs X st t:=fun pins s σ H D I hw=>
 wpAny_mono (h pins s σ H D (I.wish _) hw) (fun _ _ q=>q.unwish) fun _ _ z=>False.elim z
end
section
variable{X:Cx}{st:Stmt}{rest:List Stmt}{t u:TS}{e:Expr}{te:TE}{pos:Pos}
def FV:TS:=fun D σ H=>D.nx σ H
def Jg(t u:TS):TS:=fun D σ H=>t { D with nx:=u D } σ H
theorem pY:PSs X [] FV:=fun _ _ σ H _ I h=>wpAny_execs_nil ⟨σ,H,I,h⟩
theorem g7(h1:PS X st t)(h2:PSs X rest u):PSs X (st::rest) (Jg t u):=by
 intro pins s σ H D I h;refine wpAny_execs_cons (b0 (h1 pins s σ H { D with nx:=u D } I h) fun f s1 q=>?_)
 cases f with
 |next=>
  obtain⟨σ',H',I',q⟩:=q;exact h2 pins s1 σ' H' D I' q
 |ret v=>exact q
 |brk=>exact q
 |cont=>exact q
theorem pX(h1:PS X st t):PSs X [st] t:=by
 intro pins s σ H D I h;refine wpAny_execs_cons (b0 (h1 pins s σ H D I h) fun f s1 q=>?_)
 cases f with
 |next=>exact wpAny_execs_nil q
 |ret v=>exact q
 |brk=>exact q
 |cont=>exact q
theorem Inv.quiet{pins:List (Addr×Obj)}{σ:St}{H:Hp}{s:Shared}(I:Inv X pins σ H s):interactive X.env=false:=by simp[interactive,I.ok.kind]
def FY(te:TE):TS:=fun D σ H=>te σ H fun _ H1=>D.nx σ H1
theorem eY(he:PE X e te)(hs:swapsWith e none pos.line X.env=pure false:=by rfl):PS X (.Expr e pos) (FY te):=by
 intro pins s σ H D I h;exact wpAny_Expr_any (b0 (he pins s σ H _ I h) fun v s1 ⟨x,H1,I1,r1,q1⟩=>⟨σ,H1,I1,q1⟩) I.quiet hs
def Jh(te:TE):TS:=fun D σ H=>te σ H D.rt
theorem yA(he:PE X e te):PS X (.Return (some e) pos) (Jh te):=by
 intro pins s σ H D I h;exact wpAny_Return_some (b0 (he pins s σ H _ I h) fun v s1 ⟨x,H1,I1,r1,q1⟩=>⟨x,σ,H1,I1,r1,q1⟩)
def Jl(c:TT)(t u:TS):TS:=fun D σ H=>c σ H fun b H1=>if b=true then t D σ H1 else u D σ H1
theorem vm{c:Expr}{a b:List Stmt}{tc:TT}(hc:PT X c tc)(ha:PSs X a t)(hb:PSs X b u):PS X (.If c a b pos) (Jl tc t u):=by
 intro pins s σ H D I h;refine wpAny_If (b0 (hc pins s σ H _ I h) fun d s1 ⟨H1,I1,q1⟩=>?_)
 cases d with
 |true=>exact ha pins s1 σ H1 D I1 q1
 |false=>exact hb pins s1 σ H1 D I1 q1
end
abbrev TG:=V->St->Hp->(St->Hp->Prop)->Prop
abbrev Cu:=List V->St->Hp->(St->Hp->Prop)->Prop
def PG(X:Cx)(target:Expr)(t:TG):Prop:=
 ∀(pins:List (Addr×Obj)) (s:Shared) (σ:St) (H:Hp) (v:V) (u:Value) (Q:St->Hp->Prop),Inv X pins σ H s->RelV v u->t v σ H Q ->
  wpAny (model X.prog X.w) X.A (assign target X.env u) (fun _ s'=>∃ σ' H',Inv X pins σ' H' s'/\Q σ' H') X.xe s
def PGs(X:Cx)(ts:List Expr)(t:Cu):Prop:=
 ∀(pins:List (Addr×Obj)) (s:Shared) (σ:St) (H:Hp) (vs:List V) (us:List Value) (Q:St->Hp->Prop),Inv X pins σ H s->Vals vs us->t vs σ H Q ->
  wpAny (model X.prog X.w) X.A (assignInOrder ((assignEach ts X.env).map (·.2)) us) (fun _ s'=>∃ σ' H',Inv X pins σ' H' s'/\Q σ' H') X.xe s
section
variable{X:Cx}{pos:Pos}
def zw(i:Nat):TG:=fun v σ H Q=>Q (σ.set i (some v)) H
theorem bh{i:Nat}{x:Str}(hN:X.N.Nodup)(hi:X.N[i]? = some x)(hx:pE X.env.scope x)(hf:X.fn x=true\/X.env.scope.names.lookup x=some .local:=by first|exact .inl rfl|exact .inr rfl|assumption):PG X (.Name x pos) (zw i):=by
 intro pins s σ H v u Q I r h;exact wpAny_assign_Name (ro I hN hi hx r (fun s' I'=>⟨_,H,I',h⟩) hf)
noncomputable def J5:Cu:=fun vs σ H Q=>vs=[]/\Q σ H
def HL(t:TG)(u:Cu):Cu:=fun vs σ H Q=>∃v r,vs=v::r/\t v σ H fun σ' H'=>u r σ' H' Q
theorem Bl:PGs X [] J5:=by
 intro pins s σ H vs us Q I r h;obtain⟨e,h⟩:=h;subst e;cases r;exact assignInOrder_nil ⟨σ,H,I,h⟩
theorem yD{e:Expr}{es:List Expr}{t:TG}{u:Cu}(h1:PG X e t)(h2:PGs X es u)
  (hs:(assignEach (e::es) X.env).map (·.2)=assign e X.env::(assignEach es X.env).map (·.2):=by rfl):PGs X (e::es) (HL t u):=by
 intro pins s σ H vs us Q I r h;obtain⟨v,vr,e1,h⟩:=h;subst e1;cases r with
 |cons r rr=>
  rw[hs];refine assignInOrder_cons (b0 (h1 pins s σ H _ _ _ I r h) fun _ s1 ⟨σ1,H1,I1,q1⟩=>?_)
  exact h2 pins s1 σ1 H1 _ _ Q I1 rr q1
def J3(K:PySem.W.Frag)(n:Nat)(t:Cu):TG:=fun v σ H Q=>∃a xs,v=.ref a/\SqT K H a xs/\xs.length=n/\t xs σ H Q
theorem Ee{es:List Expr}{k:Nat}{t:Cu}{n:Nat}(hc:X.calm=true)(h:PGs X es t)
  (hn:(assignEach es X.env).length=n:=by rfl) (hst:(assignEach es X.env).findIdx? (·.1)=none:=by rfl):PG X (.Tuple es k pos) (J3 X.K n t):=by
 intro pins s σ H v u Q I r hw;obtain⟨a,xs,e1,hq,hl,hw⟩:=hw;subst e1;cases r;obtain⟨its,rv,ht,hz⟩:=I.tuple hq;refine assign_Tuple_tuple (I.ok.hd hc) ht (by simp[hn,<-hl,rv.length]) hst fun h' hx=>?_
 have I1:Inv X pins σ H { s with heap:=h' }:=I.kept (t':=s.toks) fun b o e=>hx b o (ne_of_lt (lt_size e)) e
 exact h pins _ σ H xs _ Q I1 (by simpa using rv) hw
def F4(te:TE)(g:TG):TS:=fun D σ H=>te σ H fun x H1=>g x σ H1 D.nx
theorem Ec{tg e:Expr}{te:TE}{g:TG}(he:PE X e te)(hg:PG X tg g)(hs:swapsWithSole [tg] e pos.line X.env=pure false:=by rfl)(hw:swappedStores [tg] e X.env=pure none:=by rfl)
  (h1:(assignEach [tg] X.env).map (·.2)=[assign tg X.env]:=by rfl):PS X (.Assign [tg] e pos) (F4 te g):=by
 intro pins s σ H D I h;refine wpAny_Assign_stores (b0 (he pins s σ H _ I h) fun v s1 ⟨x,H1,I1,r1,q1⟩=>?_) hs hw
 rw[h1];exact b0 (hg pins s1 σ H1 x v _ I1 r1 q1) fun _ s2 q=>q
theorem dZ{i:Nat}{x:Str}{e:Expr}{te:TE}{pos':Pos}(hN:X.N.Nodup)(hi:X.N[i]? = some x)(hx:pE X.env.scope x)(he:PE X e te)(hs:swapsWith e (some (.Name x pos')) pos.line X.env=pure false:=by rfl)(hf:X.fn x=true\/X.env.scope.names.lookup x=some .local:=by first|exact .inl rfl|exact .inr rfl|assumption):
  PS X (.Assign [.Name x pos'] e pos) (F4 te (zw i)):=by
 intro pins s σ H D I h;refine wpAny_Assign_Name (b0 (he pins s σ H _ I h) fun v s1 ⟨y,H1,I1,r1,q1⟩=>?_) hs
 exact ro I1 hN hi hx r1 (fun s2 I2=>⟨_,H1,I2,q1⟩) hf
end
section
variable{X:Cx}{pos:Pos}
def Dl(c:TT)(tb:TS):TS:=fun D σ H=>∃W:Nat->St->Hp->Prop,(∃m,W m σ H)/\∀m σ H,W m σ H ->
 c σ H fun b H1=>if b=true then ∃N:St->Hp->Prop,(∀ σ' H',N σ' H'->∃m',m'<m/\W m' σ' H')/\tb { D with nx:=N,ct:=N,bk:=D.nx } σ H1 else D.nx σ H1
theorem yz{c:Expr}{body:List Stmt}{tc:TT}{tb:TS}(hp:PassesOwn (model X.prog X.w) X.A X.env X.xe)(hc:PT X c tc)(hb:PSs X body tb):PS X (.While c body [] pos) (Dl tc tb):=by
 intro pins s σ H D I h;obtain⟨W,⟨m0,w0⟩,turn⟩:=h;refine wpAny_While (codeAny_whileLoop (fun n s'=>∃ σ' H',Inv X pins σ' H' s'/\W n σ' H') ?_ m0 ⟨σ,H,I,w0⟩);rintro n s1 ⟨σ1,H1,I1,w1⟩;refine wpAny_passesOwn hp (b0 (hc pins s1 σ1 H1 _ I1 (turn n σ1 H1 w1)) fun b s2 ⟨H2,I2,q2⟩=>?_)
 cases b with
 |true=>
  obtain⟨N,hN,q2⟩:=q2;rw[if_pos rfl];refine wpAny_passesOwn hp (b0 (hb pins s2 σ1 H2 _ I2 q2) fun f s3 q3=>?_)
  cases f with
  |next=>
   obtain⟨σ3,H3,I3,n3⟩:=q3;obtain⟨m',hm,w3⟩:=hN σ3 H3 n3;exact⟨m',hm,σ3,H3,I3,w3⟩
  |cont=>
   obtain⟨σ3,H3,I3,n3⟩:=q3;obtain⟨m',hm,w3⟩:=hN σ3 H3 n3;exact⟨m',hm,σ3,H3,I3,w3⟩
  |brk=>exact q3
  |ret v=>exact q3
 |false=>
  rw[if_neg Bool.false_ne_true];exact wpAny_execs_nil ⟨σ1,H2,I2,q2⟩
end
structure It where
 go:Nat->Hp->Prop
 yld:Nat->Hp->V->Hp->Prop
 stop:Nat->Hp->Prop
def jf(X:Cx)(pins:List (Addr×Obj))(H:Hp)(b:Addr):Prop:=
 H b=none/\b≠X.env.locals/\b ∉ X.fs/\(b∈X.ex\/X.s₀.heap.objs.size<=b)/\(∀x c,X.env.cells.lookup x=some c->c≠b)/\∀p∈X.pn++pins,p.1≠b
theorem Inv.fpOk{X:Cx}{pins:List (Addr×Obj)}{σ:St}{H H':Hp}{s:Shared}{b:Addr}(I:Inv X pins σ H s)(hb:s.heap.objs.size<=b)(hn:H' b=none):jf X pins H' b:=by
 refine⟨hn,Nat.ne_of_gt (lt_of_lt_of_le I.lt hb),I.nofs hb,.inr (le_trans I.sz hb),fun x c e z=>?_,fun p hp z=>?_⟩
 ·obtain⟨v,q⟩:=I.cell x c e
  exact absurd (lt_of_lt_of_le q.lt (by rw[z];exact hb)) (lt_irrefl _)
 ·exact absurd (lt_of_lt_of_le (lt_size (I.pin p hp).1) (by rw[z];exact hb)) (lt_irrefl _)
structure TurnG (Cm:Cx->Prop) (P:Program) (w:World) (K:PySem.W.Frag) (tg:Expr) (J:It) (fp:List Addr) (it:Addr) (tn:Nat->Heap->Prop):Prop where
 mem:it∈fp
 obj:∀i h,tn i h->∀b∈fp,∃o,h.get? b=some o/\∀v,o.data≠.cell v
 keep:∀i h h',tn i h->(∀b∈fp,∀o,h.get? b=some o->h'.get? b=some o)->tn i h'
 item:∀(X:Cx),X.prog=P->X.w=w->X.K=K->Cm X->∀(i:Nat) (pins:List (Addr×Obj)) (s:Shared) (σ:St) (H:Hp) (E:Value->Shared->Prop),Inv X pins σ H s->(∀b∈fp,jf X pins H b)->tn i s.heap->J.go i H ->
  wpAny (model P w) X.A (pyNext (.ref it)) (fun r s1=>∃u,r=some u /\
   wpAny (model P w) X.A (letOwnedTupleGo tg (.ref it) u) (fun _ s2=>∃x H',Inv X pins σ H' s2/\RelV x u/\J.yld i H x H'/\tn (i+1) s2.heap/\∀b∈fp,H' b=none) E s1) E s
 done:∀(X:Cx),X.prog=P->X.w=w->X.K=K->Cm X->∀(i:Nat) (pins:List (Addr×Obj)) (s:Shared) (σ:St) (H:Hp) (E:Value->Shared->Prop),Inv X pins σ H s->(∀b∈fp,jf X pins H b)->tn i s.heap->J.stop i H ->
  wpAny (model P w) X.A (pyNext (.ref it)) (fun r s1=>r=none/\Inv X pins σ H s1) E s
 self:∀(A:Around) (i:Nat) (s:Shared) (Q:Value->Shared->Prop) (E:Value->Shared->Prop),tn i s.heap->Q (.ref it) s->wpAny (model P w) A (pyIter (.ref it)) Q E s
abbrev Ah(P:Program)(w:World)(K:PySem.W.Frag)(tg:Expr)(J:It)(fp:List Addr)(it:Addr)(tn:Nat->Heap->Prop):Prop:=TurnG (fun X=>X.calm=true) P w K tg J fp it tn
abbrev TI:=St->Hp->(It->Hp->Prop)->Prop
def KR(X:Cx)(pins:List (Addr×Obj))(σ:St)(tg:Expr)(R:It->Hp->Prop)(itv:Value)(s2:Shared):Prop:=
 ∃(it:Addr) (fp:List Addr) (tn:Nat->Heap->Prop) (J:It) (H':Hp),itv=.ref it/\Inv X pins σ H' s2/\Ah X.prog X.w X.K tg J fp it tn/\tn 0 s2.heap/\(∀b∈fp,jf X pins H' b)/\R J H'
def PI(X:Cx)(tg iter:Expr)(wi:TI):Prop:=
 ∀(pins:List (Addr×Obj)) (s:Shared) (σ:St) (H:Hp) (R:It->Hp->Prop),Inv X pins σ H s->wi σ H R ->
  wpAny (model X.prog X.w) X.A (eval iter X.env) (fun v s1=>wpAny (model X.prog X.w) X.A (pyIter v) (KR X pins σ tg R) X.xe s1) X.xe s
theorem o9{M:Model}{A:Around}{E:Value->Shared->Prop}{s:Shared}{tg:Expr}{it:Addr}{u:Value}{o:Obj}{n:String}{vs:Array Value}{Q:Unit->Shared->Prop}(ho:s.heap.get? it=some o)(hc:o.cls=.type n)(hd:o.data=.fields vs)
  (hn:["enumerate","zip","dict_itemiterator","dict_reverseitemiterator","odict_iterator","itertools.zip_longest","itertools.pairwise"].contains n=false) (hQ:Q () s):wpAny M A (letOwnedTupleGo tg (.ref it) u) Q E s:=by
 unfold letOwnedTupleGo;cases tg<;>first
  |exact wpAny_pure hQ
  | (cases u<;>first
    |exact wpAny_pure hQ
    | (refine wpAny_bind (wpAny_load ho ?_)
       rw[hc,hd];show wpAny M A (if(["enumerate","zip","dict_itemiterator","dict_reverseitemiterator","odict_iterator","itertools.zip_longest","itertools.pairwise"].contains n&&vs[0]? == some (rawInt _))=true then _ else _) Q E s;rw[if_neg (by intro h;rw[hn,Bool.false_and]at h;cases h)];exact wpAny_pure hQ))
noncomputable def KW(K:PySem.W.Frag)(a:Addr):It:=
 ⟨fun i H=>∃xs x,SqL K H a xs/\xs[i]? = some x,fun i H x H'=>H'=H/\∀xs,SqL K H a xs->xs[i]? = some x,fun i H=>∃xs,SqL K H a xs/\xs.length<=i⟩
noncomputable def KU(K:PySem.W.Frag)(a:Addr):It:=
 ⟨fun i H=>∃xs x,SqT K H a xs/\xs[i]? = some x,fun i H x H'=>H'=H/\∀xs,SqT K H a xs->xs[i]? = some x,fun i H=>∃xs,SqT K H a xs/\xs.length<=i⟩
noncomputable def FM(lo:Int)(n:Nat):It:=⟨fun i _=>i<n,fun i H x H'=>H'=H/\x=.int (lo+i),fun i _=>n<=i⟩
theorem wB{P:Program}{w:World}{K:PySem.W.Frag}{tg:Expr}(a it:Addr):Ah P w K tg (KW K a) [it] it (fun i h=>h.IsListIter it a i) where
 mem:=by simp
 obj:=fun i h st b hb=>by
  have e:b=it:=by simpa using hb
  subst e;obtain⟨o,e,c,d⟩:=st;exact⟨o,e,fun v z=>by rw[d]at z;cases z⟩
 keep:=fun i h h' st k=>st.at fun o e=>k it (by simp) o e
 item:=by
  intro X hP hw hK hc i pins s σ H E I hf st hg;subst hP hw hK;obtain⟨xs,x,hq,hx⟩:=hg;obtain⟨its,rv,p,hz⟩:=I.list hq;obtain⟨u,hu,ru⟩:=rv.get hx;obtain⟨f0,f1,f2,f3,f4,f5⟩:=hf it (by simp);refine wpAny_pyNext_list_item st p.isList (x:=u) (by simpa using hu) fun h' st' sb=>?_
  have I1:Inv X pins σ H { s with heap:=h' }:=I.turned (t':=s.toks) (fun b o hb e=>(sb.2 b hb).trans e) f0 f1 f3 f4 f5
  obtain⟨o,e,c,d⟩:=id st';exact⟨u,rfl,o9 (s:={ s with heap:=h' }) e c d (by decide) ⟨x,H,I1,ru,⟨rfl,fun ys hy=>by rw[I.list_inj hy hq];exact hx⟩,st',fun b hb=>(hf b hb).1⟩⟩
 done:=by
  intro X hP hw hK hc i pins s σ H E I hf st hg;subst hP hw hK;obtain⟨xs,hq,hx⟩:=hg;obtain⟨its,rv,p,hz⟩:=I.list hq;obtain⟨f0,f1,f2,f3,f4,f5⟩:=hf it (by simp);have hl:=rv.length;exact wpAny_pyNext_list_end (I.ok.hd hc) st p.isList (by simp;omega) fun h' eb=>⟨rfl,I.turned (t':=s.toks) (fun b o hb e=>eb b o hb e) f0 f1 f3 f4 f5⟩
 self:=fun _ _ _ _ _ st h=>wpAny_pyIter_listiter st h
theorem tU{P:Program}{w:World}{K:PySem.W.Frag}{tg:Expr}(a it:Addr):Ah P w K tg (KU K a) [it] it (fun i h=>h.IsTupleIter it a i) where
 mem:=by simp
 obj:=fun i h st b hb=>by
  have e:b=it:=by simpa using hb
  subst e;obtain⟨o,e,c,d⟩:=st;exact⟨o,e,fun v z=>by rw[d]at z;cases z⟩
 keep:=fun i h h' st k=>st.at fun o e=>k it (by simp) o e
 item:=by
  intro X hP hw hK hc i pins s σ H E I hf st hg;subst hP hw hK;obtain⟨xs,x,hq,hx⟩:=hg;obtain⟨its,rv,p,hz⟩:=I.tuple hq;obtain⟨u,hu,ru⟩:=rv.get hx;obtain⟨f0,f1,f2,f3,f4,f5⟩:=hf it (by simp);refine wpAny_pyNext_tuple_item st (show s.heap.IsTuple a its.toArray from p) (x:=u) (by simpa using hu) fun h' st' sb=>?_
  have I1:Inv X pins σ H { s with heap:=h' }:=I.turned (t':=s.toks) (fun b o hb e=>(sb.2 b hb).trans e) f0 f1 f3 f4 f5
  obtain⟨o,e,c,d⟩:=id st';exact⟨u,rfl,o9 (s:={ s with heap:=h' }) e c d (by decide) ⟨x,H,I1,ru,⟨rfl,fun ys hy=>by rw[I.tuple_inj hy hq];exact hx⟩,st',fun b hb=>(hf b hb).1⟩⟩
 done:=by
  intro X hP hw hK hc i pins s σ H E I hf st hg;subst hP hw hK;obtain⟨xs,hq,hx⟩:=hg;obtain⟨its,rv,p,hz⟩:=I.tuple hq;obtain⟨f0,f1,f2,f3,f4,f5⟩:=hf it (by simp);have hl:=rv.length;exact wpAny_pyNext_tuple_end (I.ok.hd hc) st (show s.heap.IsTuple a its.toArray from p) (by simp;omega) fun h' eb=>⟨rfl,I.turned (t':=s.toks) (fun b o hb e=>eb b o hb e) f0 f1 f3 f4 f5⟩
 self:=fun _ _ _ _ _ st h=>wpAny_pyIter_tupleiter st h
theorem tW{P:Program}{w:World}{K:PySem.W.Frag}{tg:Expr}(it:Addr)(lo:Int)(n:Nat):Ah P w K tg (FM lo n) [it] it (fun i h=>IsRangeIter h it (lo+(i:Nat)*1) ((n:Int)-(i:Nat)) 1) where
 mem:=by simp
 obj:=fun i h st b hb=>by
  have e:b=it:=by simpa using hb
  subst e;exact⟨_,st,fun v z=>by
   have z':Data.fields _=Data.cell v:=z;cases z'⟩
 keep:=fun i h h' st k=>k it (by simp) _ st
 item:=by
  intro X hP hw hK hc i pins s σ H E I hf st hg;subst hP hw hK;obtain⟨f0,f1,f2,f3,f4,f5⟩:=hf it (by simp);have W:=Walks.range (prog:=X.prog) (w:=X.w) (I.ok.hd hc) it lo 1 n;refine W.item i s _ _ hg st fun v h' tk hv st' kk=>?_
  obtain⟨t,rfl⟩:=hv;have I1:Inv X pins σ H { s with heap:=h',toks:=tk }:=I.turned (fun b o hb e=>kk b o (by simpa using hb) e) f0 f1 f3 f4 f5
  refine⟨_,rfl,o9 (s:={ s with heap:=h',toks:=tk }) (n:="range_iterator") st' rfl rfl (by decide) ⟨.int (lo+i),H,I1,⟨t,?_⟩,⟨rfl,rfl⟩,st',fun b hb=>(hf b hb).1⟩⟩
  rw[Int.mul_one]
 done:=by
  intro X hP hw hK hc i pins s σ H E I hf st hg;subst hP hw hK;obtain⟨f0,f1,f2,f3,f4,f5⟩:=hf it (by simp);exact wpAny_pyNext_range_end (I.ok.hd hc) st (by have:n<=i:=hg;omega) fun h' eb=>⟨rfl,I.turned (t':=s.toks) (fun b o hb e=>eb b o hb e) f0 f1 f3 f4 f5⟩
 self:=fun _ _ _ _ _ st h=>wpAny_pyIter_rangeiter st h
section
variable{X:Cx}{tg:Expr}
def HA(K:PySem.W.Frag)(tl:TE):TI:=fun σ H R=>tl σ H fun x H1=>∃a,x=.ref a/\(∃xs,SqL K H1 a xs)/\R (KW K a) H1
def JY(K:PySem.W.Frag)(tl:TE):TI:=fun σ H R=>tl σ H fun x H1=>∃a,x=.ref a/\(∃xs,SqT K H1 a xs)/\R (KU K a) H1
theorem Bk{l:Expr}{tl:TE}(hl:PE X l tl):PI X tg l (HA X.K tl):=by
 intro pins s σ H R I h;refine b0 (hl pins s σ H _ I h) fun v s1 ⟨x,H1,I1,r1,q1⟩=>?_
 obtain⟨a,e,⟨xs,hq⟩,q⟩:=q1;subst e;cases r1;obtain⟨its,rv,p,hz⟩:=I1.list hq;refine wpAny_pyIter_list p.isList ?_;refine⟨s1.heap.objs.size,[s1.heap.objs.size],_,_,H1,rfl,I1.kept (t':=s1.toks) fun b o e=>get?_push_of_some _ e,wB a _,⟨_,get?_push_size _ rfl,rfl,rfl⟩,fun b hb=>?_,q⟩
 have e:b=s1.heap.objs.size:=by simpa using hb
 subst e;exact I1.fpOk (le_refl _) (I1.hok.fresh (le_refl _))
theorem Ed{l:Expr}{tl:TE}(hl:PE X l tl):PI X tg l (JY X.K tl):=by
 intro pins s σ H R I h;refine b0 (hl pins s σ H _ I h) fun v s1 ⟨x,H1,I1,r1,q1⟩=>?_
 obtain⟨a,e,⟨xs,hq⟩,q⟩:=q1;subst e;cases r1;obtain⟨its,rv,p,hz⟩:=I1.tuple hq;refine wpAny_pyIter_tuple (show s1.heap.IsTuple a its.toArray from p) ?_;refine⟨s1.heap.objs.size,[s1.heap.objs.size],_,_,H1,rfl,I1.kept (t':=s1.toks) fun b o e=>get?_push_of_some _ e,tU a _,⟨_,get?_push_size _ rfl,rfl,rfl⟩,fun b hb=>?_,q⟩
 have e:b=s1.heap.objs.size:=by simpa using hb
 subst e;exact I1.fpOk (le_refl _) (I1.hok.fresh (le_refl _))
theorem yw{pins:List (Addr×Obj)}{σ:St}{H:Hp}{s:Shared}{R:It->Hp->Prop}{E:Value->Shared->Prop}{lo hi:Int}{t u v:Tok}{tk:Nat}(I:Inv X pins σ H s)(h1:-(2^62)<=lo)(h2:lo<2^62)(h3:-(2^62)<=hi)(h4:hi<2^62)
  (q:R (FM lo (hi-lo).toNat) H):wpAny (model X.prog X.w) X.A (pyIter (.ref s.heap.objs.size)) (KR X pins σ tg R) E { s with heap:=s.heap.push { cls:=.type "range",data:=.fields #[.int lo t,.int hi u,.int 1 v] },toks:=tk }:=by
 refine wpAny_pyIter_range (IsRange.new ..) (small_one h1 h2 h3 h4) ?_;have I1:Inv X pins σ H { s with heap:=s.heap.push { cls:=.type "range",data:=.fields #[.int lo t,.int hi u,.int 1 v] },toks:=tk }:=I.kept fun b o e=>get?_push_of_some _ e
 refine⟨(s.heap.push { cls:=.type "range",data:=.fields #[.int lo t,.int hi u,.int 1 v] }).objs.size,[(s.heap.push { cls:=.type "range",data:=.fields #[.int lo t,.int hi u,.int 1 v] }).objs.size],_,_,H,rfl,
  I1.kept (t':=tk) fun b o e=>get?_push_of_some _ e,tW _ lo (hi-lo).toNat,?_,fun b hb=>?_,q⟩
 ·have e1:lo+((0:Nat):Int)*1=lo:=by simp
  have e2:(((hi-lo).toNat:Nat):Int)-((0:Nat):Int)=Builtin.Range.rangeSize lo hi 1:=by rw[rangeSize_one];split<;>omega
  show IsRangeIter _ _ (lo+((0:Nat):Int)*1) ((((hi-lo).toNat:Nat):Int)-((0:Nat):Int)) 1;rw[e1,e2];exact get?_push_size _ rfl
 ·have e:b=(s.heap.push { cls:=.type "range",data:=.fields #[.int lo t,.int hi u,.int 1 v] }).objs.size:=by simpa using hb
  subst e;exact I1.fpOk (le_refl _) (I1.hok.fresh (le_refl _))
def Hz(ta:TA):TI:=fun σ H R=>ta σ H fun vs H1=>∃j:Int,vs=[.int j] /\ -(2^62)<=j/\j<2^62/\R (FM 0 j.toNat) H1
theorem wT{a:Expr}{ta:TA}{p pos:Pos}(hg:Gl X "range")(hm:X.mg "range" = none)(ha:PA X [a] ta)(hs:starEach [a] X.env=[(false,eval a X.env)]:=by rfl):PI X tg (.Call (.Name "range" p) [a] [] pos) (Hz ta):=by
 intro pins s σ H R I h;refine Call_ (fH I hg hm boot_range (PyProof.Rows.callWith_type1 (b0 (ha pos pins s σ H _ I h) fun us s1 ⟨vs,H1,I1,r1,q1⟩=>?_) hs rfl))
 obtain⟨j,e,q1,q2,q⟩:=q1;subst e;cases r1 with
 |cons r rr=>
  cases rr;obtain⟨t,rfl⟩:=r;exact call_range_1 (yw I1 (by omega) (by omega) q1 q2 (by simpa using q))
def Jm(wi:TI)(g:TG)(tb:TS):TS:=fun D σ H=>wi σ H fun J H1=>∃W:Nat->Nat->St->Hp->Prop,(∃m,W 0 m σ H1)/\∀i m σ H,W i m σ H ->
 (J.stop i H/\D.nx σ H)\/(J.go i H/\∃N:St->Hp->Prop,(∀ σ' H',N σ' H'->∃m',m'<m/\W (i+1) m' σ' H')/\∀x H',J.yld i H x H'->g x σ H' fun σ2 H2=>tb { D with nx:=N,ct:=N,bk:=D.nx } σ2 H2)
noncomputable def pZ(fp:List Addr)(h:Heap):List (Addr×Obj):=fp.filterMap fun b=>(h.get? b).map fun o=>(b,o)
theorem cx{fp:List Addr}{h:Heap}{b:Addr}{o:Obj}(hb:b∈fp)(e:h.get? b=some o):(b,o)∈pZ fp h:=List.mem_filterMap.mpr ⟨b,hb,by rw[e];rfl⟩
theorem wX{fp:List Addr}{h:Heap}{p:Addr×Obj}(hp:p∈pZ fp h):p.1∈fp/\h.get? p.1=some p.2:=by
 obtain⟨b,hb,e⟩:=List.mem_filterMap.mp hp;cases q:h.get? b with
 |none=>rw[q]at e;cases e
 |some o=>
  rw[q]at e;have e':(b,o)=p:=Option.some.inj e;subst e';exact⟨hb,q⟩
theorem Inv.pinned{pins:List (Addr×Obj)}{σ:St}{H:Hp}{s:Shared}{fp:List Addr}(I:Inv X pins σ H s)(hf:∀b∈fp,jf X pins H b)(ho:∀b∈fp,∃o,s.heap.get? b=some o/\∀v,o.data≠.cell v):Inv X (pins++pZ fp s.heap) σ H s:=
 I.pins_of fun p hp=>(List.mem_append.mp hp).elim (fun z=>I.pin p (mem_append_right _ z)) fun z=>by
  obtain⟨hb,e⟩:=wX z;obtain⟨f0,f1,f2,_⟩:=hf p.1 hb;obtain⟨o,e',d⟩:=ho p.1 hb;rw[e]at e';cases e';exact⟨e,f0,f1,f2,d⟩
theorem Inv.unpinned{pins pl:List (Addr×Obj)}{σ:St}{H:Hp}{s:Shared}(I:Inv X (pins++pl) σ H s):Inv X pins σ H s:=I.pins_of fun p hp=>I.pin p (mem_append_right _ (List.mem_append_left _ hp))
theorem Eb{iter:Expr}{body:List Stmt}{wi:TI}{g:TG}{tb:TS}{pos:Pos}(hp:PassesOwn (model X.prog X.w) X.A X.env X.xe)(hc:X.calm=true)(hi:PI X tg iter wi)(hg:PG X tg g)(hb:PSs X body tb)
  (hs:∀x,foldedSetIterable iter X.env x=pure x:=by intro _;rfl):PS X (.For tg iter body [] pos) (Jm wi g tb):=by
 intro pins s σ H D I h;refine wpAny_For (b0 (hi pins s σ H _ I h) fun v s1 h1=>b0 h1 fun itv s2 h2=>?_) hs
 obtain⟨it,fp,tn,J,H2,e,I2,T,st2,f2,W,⟨m0,w0⟩,turn⟩:=h2;subst e;have stat:∀{H':Hp},(∀b∈fp,H' b=none)->∀b∈fp,jf X pins H' b:=fun hn b hb=>⟨hn b hb,(f2 b hb).2⟩
 refine codeAny_forLoop_any (fun n s'=>∃i σ' H',Inv X pins σ' H' s'/\tn i s'.heap/\(∀b∈fp,H' b=none)/\W i n σ' H') ?_ m0 ⟨0,σ,H2,I2,st2,fun b hb=>(f2 b hb).1,w0⟩
 rintro n s3 ⟨i,σ3,H3,I3,st3,fr3,w3⟩;rcases turn i n σ3 H3 w3 with⟨stop,qn⟩|⟨go,N,hN,step⟩
 ·refine wpAny_passesOwn hp (b0 (T.done X rfl rfl rfl hc i pins s3 σ3 H3 X.xe I3 (stat fr3) st3 stop) fun r s4 ⟨hr,I4⟩=>?_)
  subst hr;exact wpAny_execs_nil ⟨σ3,H3,I4,qn⟩
 ·refine wpAny_passesOwn hp (b0 (T.item X rfl rfl rfl hc i pins s3 σ3 H3 X.xe I3 (stat fr3) st3 go) fun r s4 ⟨u,hr,h4⟩=>?_)
  subst hr;refine wpAny_passesOwn hp (b0 h4 fun _ s5 ⟨x,H5,I5,r5,y5,st5,fr5⟩=>?_);have I5':=I5.pinned (stat fr5) (T.obj _ _ st5);refine wpAny_passesOwn hp (b0 (hg _ s5 σ3 H5 x u _ I5' r5 (step x H5 y5)) fun _ s6 ⟨σ6,H6,I6,q6⟩=>?_)
  refine wpAny_passesOwn hp (b0 (hb _ s6 σ6 H6 _ I6 q6) fun f s7 q7=>?_)
  have again:∀{σ7:St} {H7:Hp},Inv X (pins++pZ fp s5.heap) σ7 H7 s7->N σ7 H7->∃m,m<n/\∃i σ' H',Inv X pins σ' H' s7/\tn i s7.heap/\(∀b∈fp,H' b=none)/\W i m σ' H':=fun{σ7 H7} I7 n7=>by
   obtain⟨m',hm,w7⟩:=hN σ7 H7 n7;refine⟨m',hm,i+1,σ7,H7,I7.unpinned,T.keep _ _ _ st5 fun b hb o e=>(I7.pin (b,o) (mem_append_right _ (mem_append_right _ (cx hb e)))).1,fun b hb=>?_,w7⟩
   obtain⟨o,e,d⟩:=T.obj _ _ st5 b hb;exact(I7.pin (b,o) (mem_append_right _ (mem_append_right _ (cx hb e)))).2.1
  cases f with
  |next=>obtain⟨σ7,H7,I7,n7⟩:=q7;exact again I7 n7
  |cont=>obtain⟨σ7,H7,I7,n7⟩:=q7;exact again I7 n7
  |brk=>obtain⟨σ7,H7,I7,q7⟩:=q7;exact⟨σ7,H7,I7.unpinned,q7⟩
  |ret v=>obtain⟨x7,σ7,H7,I7,r7,q7⟩:=q7;exact⟨x7,σ7,H7,I7.unpinned,r7,q7⟩
end
abbrev R2:=V->V->Hp->VK->Prop
def OpR(X:Cx)(f:Value->Value->Sem Value)(r:R2):Prop:=
 ∀(pins:List (Addr×Obj)) (s:Shared) (σ:St) (H:Hp) (x y:V) (v u:Value) (Q:VK),Inv X pins σ H s->RelV x v->RelV y u->r x y H Q ->
  wpAny (model X.prog X.w) X.A (f v u) (EP X pins σ Q) X.xe s
def Io(X:Cx)(f:Value->Sem Value)(r:V->Hp->VK->Prop):Prop:=
 ∀(pins:List (Addr×Obj)) (s:Shared) (σ:St) (H:Hp) (x:V) (v:Value) (Q:VK),Inv X pins σ H s->RelV x v->r x H Q ->
  wpAny (model X.prog X.w) X.A (f v) (EP X pins σ Q) X.xe s
def CallR(X:Cx)(f:Value)(r:List V->Hp->VK->Prop):Prop:=
 ∀(pins:List (Addr×Obj)) (s:Shared) (σ:St) (H:Hp) (xs:List V) (us:List Value) (Q:VK),Inv X pins σ H s->Vals xs us->r xs H Q ->
  wpAny (model X.prog X.w) X.A (call f us) (EP X pins σ Q) X.xe s
def FU(r:R2)(ta tb:TE):TE:=fun σ H Q=>ta σ H fun x H1=>tb σ H1 fun y H2=>r x y H2 Q
def K6(r:V->Hp->VK->Prop)(ta:TE):TE:=fun σ H Q=>ta σ H fun x H1=>r x H1 Q
def rI(C:Int->Int->Prop)(g:Int->Int->V):R2:=fun x y H Q=>∃i j,x=.int i/\y=.int j/\C i j/\Q (g i j) H
def Am(g:Int->Int->V):R2:=fun x y H Q=>∃i j,x=.int i/\y=.int j/\Q (g i j) H
def rU(g:Int->V):V->Hp->VK->Prop:=fun x H Q=>∃i,x=.int i/\Q (g i) H
section
variable{X:Cx}{a b c:Expr}{ta tb tc:TE}{pos:Pos}
theorem Fe(ha:PE X a ta)(hb:PE X b tb){pins:List (Addr×Obj)}{s:Shared}{σ:St}{H:Hp}{R:V->V->Hp->Prop}(I:Inv X pins σ H s)
  (h:ta σ H fun x H1=>tb σ H1 fun y H2=>R x y H2) {Q:Value->Shared->Prop} {f:Value->Value->Sem Value}
  (hf:∀v u s2 x y H2,Inv X pins σ H2 s2->RelV x v->RelV y u->R x y H2->wpAny (model X.prog X.w) X.A (f v u) Q X.xe s2) :
  wpAny (model X.prog X.w) X.A (eval a X.env) (fun v s₁=>wpAny (model X.prog X.w) X.A (eval b X.env) (fun u s₂=>wpAny (model X.prog X.w) X.A (f v u) Q X.xe s₂) X.xe s₁) X.xe s:=by
 refine b0 (ha pins s σ H _ I h) fun v s1 ⟨x,H1,I1,r1,q1⟩=>?_
 refine b0 (hb pins s1 σ H1 _ I1 q1) fun u s2 ⟨y,H2,I2,r2,q2⟩=>?_
 exact hf v u s2 x y H2 I2 r1 r2 q2
theorem GK{op:Operator}{r:R2}(ho:OpR X (binaryOp op) r)(ha:PE X a ta)(hb:PE X b tb):PE X (.BinOp a op b pos) (FU r ta tb):=by
 intro pins s σ H Q I h;exact wpAny_BinOp (Fe ha hb I h fun v u s2 x y H2 I2 rx ry q=>ho pins s2 σ H2 x y v u Q I2 rx ry q)
theorem GJ{op:UnaryOp}{r:V->Hp->VK->Prop}(ho:Io X (unaryOp op) r)(ha:PE X a ta):PE X (.UnaryOp op a pos) (K6 r ta):=by
 intro pins s σ H Q I h;exact UnaryOp_ (b0 (ha pins s σ H _ I h) fun v s1 ⟨x,H1,I1,r1,q1⟩=>ho pins s1 σ H1 x v Q I1 r1 q1)
theorem FA{f:Value->Value->Sem Value}{C:Int->Int->Prop}{g:Int->Int->Int}
  (rule:∀(i j:Int) (t u:Tok) (s:Shared) (Q:Value->Shared->Prop) (E:Value->Shared->Prop),C i j->Q (.int (g i j) s.toks) { s with toks:=s.toks+1 }->wpAny (model X.prog X.w) X.A (f (.int i t) (.int j u)) Q E s) :
  OpR X f (rI C fun i j=>.int (g i j)):=by
 intro pins s σ H x y v u Q I rx ry h;obtain⟨i,j,rfl,rfl,hc,q⟩:=h;obtain⟨t,rfl⟩:=rx;obtain⟨t',rfl⟩:=ry;exact rule i j t t' s _ _ hc ⟨.int (g i j),H,I.tok _,⟨_,rfl⟩,q⟩
theorem Bw{f:Value->Value->Sem Value}{g:Int->Int->Int}
  (rule:∀(i j:Int) (t u:Tok) (s:Shared) (Q:Value->Shared->Prop) (E:Value->Shared->Prop),Q (.int (g i j) s.toks) { s with toks:=s.toks+1 }->wpAny (model X.prog X.w) X.A (f (.int i t) (.int j u)) Q E s) :
  OpR X f (Am fun i j=>.int (g i j)):=by
 intro pins s σ H x y v u Q I rx ry h;obtain⟨i,j,rfl,rfl,q⟩:=h;obtain⟨t,rfl⟩:=rx;obtain⟨t',rfl⟩:=ry;exact rule i j t t' s _ _ ⟨.int (g i j),H,I.tok _,⟨_,rfl⟩,q⟩
theorem GS{f:Value->Value->Sem Value}{g:Int->Int->Bool}
  (rule:∀(i j:Int) (t u:Tok) (s:Shared) (Q:Value->Shared->Prop) (E:Value->Shared->Prop),Q (.bool (g i j)) s->wpAny (model X.prog X.w) X.A (f (.int i t) (.int j u)) Q E s) :
  OpR X f (Am fun i j=>.bl (g i j)):=by
 intro pins s σ H x y v u Q I rx ry h;obtain⟨i,j,rfl,rfl,q⟩:=h;obtain⟨t,rfl⟩:=rx;obtain⟨t',rfl⟩:=ry;exact rule i j t t' s _ _ ⟨.bl (g i j),H,I,rfl,q⟩
def Kq(i j:Int):Prop:=0<j/\j<1073741824
def Kp(i j:Int):Prop:=0<=j/\j<=1000000/\i.natAbs<2^64
theorem tT(k:Nat):(0:Int)<=2^k:=by
 rw[two_pow_cast];exact Int.natCast_nonneg _
theorem Er:OpR X (binaryOp .Add) (Am fun i j=>.int (i+j)):=Bw fun _ _ _ _ _ _ _ q=>add_int q
theorem El:OpR X (binaryOp .Sub) (Am fun i j=>.int (i-j)):=Bw fun _ _ _ _ _ _ _ q=>sub_int q
theorem Bu:OpR X (binaryOp .FloorDiv) (rI Kq fun i j=>.int (i/j)):=FA fun i j _ _ _ _ _ hc q=>by
 have h1:(0:Int)<j:=hc.1;have h2:j<1073741824:=hc.2;exact floordiv_int (by omega) (by rw[Int.fdiv_eq_ediv_of_nonneg i (by omega)];exact q) (.inl (PyProof.noPylong_small (by omega)))
theorem Eo:OpR X (binaryOp .Mod) (rI (fun _ j=>0<j) fun i j=>.int (i%j)):=FA fun i j _ _ _ _ _ hc q=>by
 have h1:(0:Int)<j:=hc;exact mod_int' (by omega) (by rw[Int.fmod_eq_emod_of_nonneg i (by omega)];exact q)
theorem En:OpR X (binaryOp .Pow) (rI Kp fun i j=>.int (i^j.toNat)):=FA fun _ _ _ _ _ _ _ hc q=>pow_int_small hc.1 hc.2.1 hc.2.2 q
theorem Em:OpR X (binaryOp .RShift) (rI (fun _ j=>0<=j) fun i j=>.int (i/2^j.toNat)):=FA fun i j _ _ _ _ _ hc q=>
 rshift_int hc (by rw[Int.fdiv_eq_ediv_of_nonneg i (tT _)];exact q)
theorem Ep:OpR X (binaryOp .BitAnd) (Am fun i j=>.int (Builtin.bitAnd i j)):=Bw fun _ _ _ _ _ _ _ q=>and_int q
theorem Ek:OpR X (binaryOp .BitXor) (Am fun i j=>.int (Builtin.bitXor i j)):=Bw fun _ _ _ _ _ _ _ q=>xor_int q
theorem KZ{f:Value->Sem Value}{g:Int->Int}
  (rule:∀(i:Int) (t:Tok) (s:Shared) (Q:Value->Shared->Prop) (E:Value->Shared->Prop),Q (.int (g i) s.toks) { s with toks:=s.toks+1 }->wpAny (model X.prog X.w) X.A (f (.int i t)) Q E s) :
  Io X f (rU fun i=>.int (g i)):=by
 intro pins s σ H x v Q I rx h;obtain⟨i,rfl,q⟩:=h;obtain⟨t,rfl⟩:=rx;exact rule i t s _ _ ⟨.int (g i),H,I.tok _,⟨_,rfl⟩,q⟩
theorem Dj:Io X (unaryOp .USub) (rU fun i=>.int (-i)):=KZ fun _ _ _ _ _ q=>neg_int q
end
section
variable{X:Cx}{a b c:Expr}{ta tb tc:TE}{pos:Pos}
theorem vx:OpR X (compareOp .Lt) (Am fun i j=>.bl (decide (i<j))):=GS fun _ _ _ _ _ _ _ q=>lt_int q
theorem GR:OpR X (compareOp .Gt) (Am fun i j=>.bl (decide (j<i))):=GS fun _ _ _ _ _ _ _ q=>gt_int q
theorem aA(b:Expr){op:CmpOp}(h:op≠.In:=by decide)(h2:op≠.NotIn:=by decide):behindInMarks op b=false:=by
 have e1:(op==CmpOp.In)=false:=by cases op<;>first|rfl|exact absurd rfl h
 have e2:(op==CmpOp.NotIn)=false:=by cases op<;>first|rfl|exact absurd rfl h2
 cases b<;>simp[behindInMarks,e1,e2]
theorem Br{op:CmpOp}{r:R2}(ho:OpR X (compareOp op) r)(ha:PE X a ta)(hb:PE X b tb)(hm:behindInMarks op b=false):PE X (.Compare a [op] [b] pos) (FU r ta tb):=by
 intro pins s σ H Q I h;exact wpAny_Compare1 (Fe ha hb I h fun v u s2 x y H2 I2 rx ry q=>ho pins s2 σ H2 x y v u Q I2 rx ry q) hm
def FR(t:TE):TT:=fun σ H Q=>t σ H fun x H'=>∃k,x=.bl k/\Q k H'
theorem Bg{op:CmpOp}{r:R2}(ho:OpR X (compareOp op) r)(ha:PE X a ta)(hb:PE X b tb)(hm:behindInMarks op b=false):PT X (.Compare a [op] [b] pos) (FR (FU r ta tb)):=by
 intro pins s σ H Q I h;refine wpAny_isTrue_Compare1 (b0 (ha pins s σ H _ I h) fun v s1 ⟨x,H1,I1,r1,q1⟩=>b0 (hb pins s1 σ H1 _ I1 q1) fun u s2 ⟨y,H2,I2,r2,q2⟩=>
  b0 (ho pins s2 σ H2 x y v u _ I2 r1 r2 q2) fun c s3 ⟨z,H3,I3,r3,k,e,q3⟩=>?_) hm
 subst e;cases r3;exact wpAny_truthy_bool ⟨H3,I3,q3⟩
theorem uy:(sizeLine:Nat)<2^63:=by rw[sizeLine_eq];decide
theorem ur:OpR X (binaryOp .Add) (fun x y H Q=>∃i j,x=.str i/\y=.str j/\i.length+j.length<=sizeLine/\Q (.str (i++j)) H):=by
 intro pins s σ H x y v u Q I rx ry h;obtain⟨i,j,rfl,rfl,hz,q⟩:=h;obtain⟨t,rfl⟩:=rx;obtain⟨t',rfl⟩:=ry;exact add_str (fun t' tk=>⟨.str (i++j),H,I.tok _,⟨_,rfl⟩,q⟩) hz
theorem gJ{x:V}{us:List Value}(r:Vals [x] us):∃u,us=[u]/\RelV x u:=by
 cases r with
 |cons r1 r2=>cases r2;exact⟨_,rfl,r1⟩
theorem xP{x y:V}{us:List Value}(r:Vals [x,y] us):∃u w',us=[u,w']/\RelV x u/\RelV y w':=by
 cases r with
 |cons r1 r2=>
  cases r2 with
  |cons r3 r4=>cases r4;exact⟨_,_,rfl,r1,r3⟩
theorem xC(hc:X.calm=true):CallR X (.builtin "min") (fun xs H Q=>∃i j,xs=[.int i,.int j]/\Q (.int (if j<i then j else i)) H):=by
 intro pins s σ H xs us Q I r h;obtain⟨i,j,rfl,q⟩:=h;obtain⟨u,w',rfl,⟨t,rfl⟩,⟨t',rfl⟩⟩:=xP r;refine min_two_ints (I.ok.hd hc) fun h' tk k=>⟨_,H,I.kept k,?_,q⟩
 by_cases hj:j<i
 ·rw[if_pos hj,if_pos hj];exact⟨_,rfl⟩
 ·rw[if_neg hj,if_neg hj];exact⟨_,rfl⟩
def Ko(K:PySem.W.Frag)(x:V)(H:Hp)(n:Nat):Prop:=
 match x with
 |.str y=>y.length<=sizeLine/\n=y.length
 |.byt y=>y.size<=sizeLine/\n=y.size
 |.ref p=>(∃xs,SqL K H p xs/\n=xs.length)\/∃xs,SqT K H p xs/\n=xs.length
 |_=>False
theorem tE:CallR X (.builtin "len") (fun xs H Q=>∃x n,xs=[x]/\Ko X.K x H n/\Q (.int n) H):=by
 intro pins s σ H xs us Q I r h;obtain⟨x,n,rfl,e,q⟩:=h;obtain⟨u,rfl,rx⟩:=gJ r;have hl:=uy;have hs:sizeLine=16777216:=sizeLine_eq;cases x with
 |str y=>
  obtain⟨t,rfl⟩:=rx;obtain⟨hy,e'⟩:y.length<=sizeLine/\n=y.length:=e;subst e';exact len_str (by omega) ⟨.int _,H,I.tok _,⟨_,rfl⟩,q⟩
 |byt y=>
  obtain⟨t,rfl⟩:=rx;obtain⟨hy,e'⟩:y.size<=sizeLine/\n=y.size:=e;subst e';exact PySem.W.len_bytes (by omega) ⟨.int _,H,I.tok _,⟨_,rfl⟩,q⟩
 |ref p=>
  cases rx;have e':(∃xs,SqL X.K H p xs/\n=xs.length)\/∃xs,SqT X.K H p xs/\n=xs.length:=e;rcases e' with⟨xs,hx,e'⟩|⟨xs,hx,e'⟩
  ·subst e'
   obtain⟨its,r',pl,hz⟩:=I.list hx;have hlen:=r'.length;exact Calls.call_len_list pl.isList (by simp only[size_toArray];omega) ⟨.int xs.length,H,I.tok _,⟨_,by simp only[size_toArray];rw[hlen]⟩,q⟩
  ·subst e'
   obtain⟨its,r',pl,hz⟩:=I.tuple hx;have hlen:=r'.length;exact len_tuple pl (by simp only[size_toArray];omega) ⟨.int xs.length,H,I.tok _,⟨_,by simp only[size_toArray];rw[hlen]⟩,q⟩
 |_=>exact(show False from e).elim
end
structure ObjM (h:Heap) (x dx C:Addr) (mA:Str->Option Value):Prop where
 obj:h.get? x=some (instObj C dx)
 ns:h.Ns1 dx mA
 ne:dx≠x
theorem xg{h:Heap}{dx:Addr}{mA:Str->Option Value}(n:h.Ns1 dx mA):∃od,h.get? dx=some od/\∀name,lookIn name od=some (mA name):=by
 obtain⟨o,es,ep,ho,hd,hk,_,hm⟩:=n;refine⟨o,ho,fun name=>?_⟩
 have e:=hm name;unfold nsFind findBy at e;rw[<-Array.find?_toList]at e;unfold lookIn;rw[hd];dsimp only;split
 ·rename_i y q
  rw[q]at e;exact congrArg some e
 ·rename_i q
  rw[q]at e;have a:es.toList.any (·.refKey)=false:=by
   rw[List.any_eq_false];intro y hy;obtain⟨z,t,hkey⟩:=hk y (Array.mem_toList_iff.mp hy);simp[DictEntry.refKey,hkey]
  have a':¬es.toList.any (·.refKey)=true:=by rw[a];exact Bool.false_ne_true
  rw[if_neg a'];exact congrArg some e
theorem ObjM.look{h:Heap}{x dx C:Addr}{mA:Str->Option Value}(I:ObjM h x dx C mA):∃od,PySem.W.InstAt h x (instObj C dx) C (some od)/\∀name,lookIn name od=some (mA name):=
 let ⟨od,ho,hl⟩:=xg I.ns
 ⟨od,⟨I.obj,rfl,rfl,ho⟩,hl⟩
theorem RelO.some_of{v:V}{o:Option Value}(r:RelO (some v) o):∃u,o=some u/\RelV v u:=by
 cases o with
 |none=>exact(show False from r).elim
 |some u=>exact⟨u,rfl,r⟩
section
variable{P:Program}{w:World}{H H':Hp}{h h':Heap}{a C dx:Addr}{fs fs':List (Str×V)}
theorem B3(hok:HOk P w H h)(e:H a=some (.ins C dx fs)):∃mA,ObjM h a dx C mA/\(∀f,RelO (fs.lookup f) (mA f))/\PySem.Within mA (fs.map (·.1))/\fs.length<=1000/\H dx=some (.own a):=by
 obtain⟨d,z,ne,ob,mA,n,r,q⟩:=(show ObjOk P w H h a (.ins C dx fs)from hok a _ e);exact⟨mA,⟨ob,n,ne⟩,r,q,z,d⟩
end
structure Cls (K:PySem.W.Frag) (C:Addr):Prop where
 pg:plainGet K C Str.empty=true
 hd:PySem.W.hasDictIn K C=true
 po:PySem.W.plainOver K C=true
 sa:findIn K (.ref C) "__setattr__" = some (some (.builtin "object.__setattr__"))
theorem Cls.get{K:PySem.W.Frag}{C:Addr}(c:Cls K C)(f:Str):plainGet K C f=true:=c.pg
section
variable{X:Cx}{pins:List (Addr×Obj)}{σ:St}{H:Hp}{s:Shared}{A:Around}{E:Value->Shared->Prop}{Q:Value->Shared->Prop}{c:Value}{b:Bool}
inductive TyOf (K:PySem.W.Frag) (H:Hp):V->Value->Prop where
 |non:TyOf K H .non (.type "NoneType")
 |bl (x:Bool):TyOf K H (.bl x) (.type "bool")
 |int (i:Int):TyOf K H (.int i) (.type "int")
 |str (x:Str):TyOf K H (.str x) (.type "str")
 |flt (x:UInt64):TyOf K H (.flt x) (.type "float")
 |lst {a:Addr} {xs:List V} (e:H a=some (.lst xs)):TyOf K H (.ref a) (.type "list")
 |frz {a:Addr} {o:Obj} {xs:List V} (e:H a=some (.frz o (.lst xs))):TyOf K H (.ref a) (.type "list")
 |tup {a:Addr} {xs:List V} (e:H a=some (.tup xs)):TyOf K H (.ref a) (.type "tuple")
 |dK {a:Addr} {kvs:List (aG×V)} (e:H a=some (.dK kvs)):TyOf K H (.ref a) (.type "dict")
 |dT {a:Addr} {kvs:List (List aG×V)} (e:H a=some (.dT kvs)):TyOf K H (.ref a) (.type "dict")
 |ins {a C dx:Addr} {fs:List (Str×V)} (e:H a=some (.ins C dx fs)) (cl:Cls K C) (ha:findIn K (.ref C) "__class__" = some (some (.builtin "object.__class__")))
   (hn:PySem.W.specialIn K (.builtin "object.__class__") "__get__" = some (some (.builtin "getset_descriptor.__get__"))) (htk:PySem.W.takesIn K (.builtin "object.__class__")=some true)
   (hm:PySem.W.mroIn K C (.type "object")=some true):TyOf K H (.ref a) (.ref C)
theorem iG{x:V}{u t:Value}(I:Inv X pins σ H s)(rx:RelV x u)(ty:TyOf X.K H x t)(e:PySem.W.kitOne X.K t c=some b)(h:∀tk,Q (.bool b) { s with toks:=tk }):
  wpAny (model X.prog X.w) A (call (.builtin "isinstance") [u,c]) Q E s:=by
 cases ty with
 |non=>cases(show u=Value.none from rx);exact kia_one PySem.W.kitx_none I.kIn True.intro e (fun z=>nomatch z) h
 |bl y=>cases(show u=Value.bool y from rx);exact kia_one PySem.W.kitx_bool I.kIn True.intro e (fun z=>nomatch z) h
 |int i=>obtain⟨t,q⟩:=(show ∃t,u=Value.int i t from rx);cases q;exact kia_one PySem.W.kitx_int I.kIn True.intro e (fun z=>nomatch z) h
 |str y=>obtain⟨t,q⟩:=(show ∃t,u=Value.str y t from rx);cases q;exact kia_one PySem.W.kitx_str I.kIn True.intro e (fun z=>nomatch z) h
 |flt y=>obtain⟨t,q⟩:=(show ∃t,u=Value.float y t from rx);cases q;exact kia_one PySem.W.kitx_float I.kIn True.intro e (fun z=>nomatch z) h
 | @lst a xs ea=>
  cases(show u=Value.ref a from rx);obtain⟨_,_,n,_,h1⟩:=(show ObjOk X.prog X.w H s.heap a (.lst xs)from I.hok a _ ea);exact kia_one kitx_list I.kIn ⟨_,h1,rfl⟩ e (fun z=>nomatch z) h
 | @frz a ob xs ea=>
  cases(show u=Value.ref a from rx);obtain⟨_,_,_,n,_,h1⟩:=(show ObjOk X.prog X.w H s.heap a (.frz ob (.lst xs))from I.hok a _ ea);exact kia_one kitx_list I.kIn ⟨_,h1,rfl⟩ e (fun z=>nomatch z) h
 | @tup a xs ea=>
  cases(show u=Value.ref a from rx);obtain⟨_,_,_,p⟩:=(show ObjOk X.prog X.w H s.heap a (.tup xs)from I.hok a _ ea);obtain⟨o,h1,h2,_⟩:=p.1;exact kia_one PySem.W.kitx_tuple I.kIn ⟨o,h1,h2⟩ e (fun z=>nomatch z) h
 | @dK a kvs ea=>
  cases(show u=Value.ref a from rx);obtain⟨_,_,vs,_,p⟩:=(show ObjOk X.prog X.w H s.heap a (.dK kvs)from I.hok a _ ea);obtain⟨o,es,ep,h1,h2,_⟩:=p;exact kia_one kitx_dict I.kIn ⟨o,h1,h2.1⟩ e (fun z=>nomatch z) h
 | @dT a kvs ea=>
  cases(show u=Value.ref a from rx);obtain⟨_,_,xs,_,o,es,ep,h1,h2,_⟩:=(show ObjOk X.prog X.w H s.heap a (.dT kvs)from I.hok a _ ea);exact kia_one kitx_dict I.kIn ⟨o,h1,h2.1⟩ e (fun z=>nomatch z) h
 | @ins a C dx fs ea cl ha hn htk hm=>
  cases(show u=Value.ref a from rx);obtain⟨mA,O,_⟩:=B3 I.hok ea;obtain⟨od,J,_⟩:=O.look;exact kia_one (PySem.W.kitx_own (cl.get _) cl.hd ha hn htk hm) I.kIn J e (fun z=>nomatch z) h
end
structure Room (k:Nat) (A:Around):Prop where
 hd:A.handled=none
 dp:A.depth+3*k+5<recursionLimit
 un:A.units+16*k+200<cLine
theorem Room.mono{j k:Nat}{A:Around}(r:Room k A)(h:j<=k):Room j A:=⟨r.hd,by have:=r.dp;omega,by have:=r.un;omega⟩
theorem Room.deeper{k:Nat}{A:Around}(r:Room (k+1) A)(env:Env):Room k (A.deeper env):=
 ⟨r.hd,by have:=r.dp;show A.depth+1+3*k+5<_;omega,by have:=r.un;show A.units+3+16*k+200<_;omega⟩
theorem Room.depth{k:Nat}{A:Around}(r:Room k A):A.depth<recursionLimit:=by have:=r.dp;omega
theorem Room.units{k:Nat}{A:Around}(r:Room k A):A.units+64<cLine:=by have:=r.un;omega
def Jj:TA:=fun _ H Q=>Q [] H
def F1(ta:TE)(tr:TA):TA:=fun σ H Q=>ta σ H fun x H1=>tr σ H1 fun xs H2=>Q (x::xs) H2
section
variable{X:Cx}{e:Expr}{es:List Expr}{te:TE}{t:TA}{pos:Pos}
theorem cM:PA X [] Jj:=fun _ _ _ _ H Q I h=>Calls.spliced_nil ⟨[],H,I,.nil,h⟩
theorem bK(ha:PE X e te)(hr:PA X es t)(hs:starEach (e::es) X.env=(false,eval e X.env)::starEach es X.env:=by rfl):PA X (e::es) (F1 te t):=by
 intro pos pins s σ H Q I h;rw[hs];show wpAny _ _ (spliced ((false,eval e X.env)::backTo pos (starEach es X.env))) _ _ s;refine Calls.spliced_cons (b0 (ha pins s σ H _ I h) fun u s1 ⟨x,H1,I1,r1,q1⟩=>?_)
 exact b0 (hr pos pins s1 σ H1 _ I1 q1) fun us s2 ⟨xs,H2,I2,r2,q2⟩=>⟨x::xs,H2,I2,.cons r1 r2,q2⟩
def Jf(t:TA):TE:=fun σ H Q=>t σ H fun xs H1=>xs.length<=sizeLine/\∀p,H1 p=none->Q (.ref p) (upd H1 p (.tup xs))
def Jk(t:TA):TE:=fun σ H Q=>t σ H fun xs H1=>xs.length<=sizeLine/\∀p,H1 p=none->Q (.ref p) (upd H1 p (.lst xs))
theorem Ef{x1}(h:PA X es t):PE X (.Tuple es x1 pos) (Jf t):=by
 intro pins s σ H Q I hq;refine wpAny_Tuple_spliced (b0 (h pos pins s σ H _ I hq) fun us s1 ⟨xs,H1,I1,r,z,q⟩=>⟨by rw[<-r.length];exact z,?_⟩)
 have hf:H1 s1.heap.objs.size=none:=I1.hok.fresh (le_refl _);refine⟨.ref s1.heap.objs.size,upd H1 s1.heap.objs.size (.tup xs),I1.laid (t':=s1.toks) (fun b u e=>get?_push_of_some _ e) (le_refl _) ?_,rfl,q _ hf⟩;exact⟨z,us,r,⟨_,get?_push_size _ rfl,rfl,_,rfl⟩,NoDi.new _ _⟩
theorem yE(h:PA X es t):PE X (.List es pos) (Jk t):=by
 intro pins s σ H Q I hq;refine wpAny_List_spliced (b0 (h pos pins s σ H _ I hq) fun us s1 ⟨xs,H1,I1,r,z,q⟩=>⟨by rw[<-r.length];exact z,?_⟩)
 have hf:H1 s1.heap.objs.size=none:=I1.hok.fresh (le_refl _);refine⟨.ref s1.heap.objs.size,upd H1 s1.heap.objs.size (.lst xs),I1.laid (t':=s1.toks) (fun b u e=>get?_push_of_some _ e) (le_refl _) ?_,rfl,q _ hf⟩;exact⟨z,us,0,r,get?_push_size _ rfl⟩
end
abbrev Sp:=List V->Hp->VK->XK->Prop
abbrev uY:=List Env->Hp->Shared->XK->Value->Shared->Prop
structure Env0 (P:Program) (w:World) (K:PySem.W.Frag) (mg:Str->Option Value) (base:Heap) (A:Around) (outer:List Env) (s:Shared) (H:Hp):Prop where
 frames:A.frames=some outer
 mod:Mod K mg base
 bs:∀b o,base.get? b=some o->s.heap.get? b=some o/\H b=none
 bsz:base.objs.size<=s.heap.objs.size
 funs:s.heap.FunFrames base outer
 frf:∀b∈ic outer,H b=none
 hok:HOk P w H s.heap
 bare:AllBare s.gens
def CE(outer:List Env)(P:Program)(w:World)(H:Hp)(s:Shared)(Q:VK)(u:Value)(s':Shared):Prop:=
 ∃v H',s'.os=s.os/\AllBare s'.gens/\Un (ic outer) [] H H' s.heap s'.heap/\HOk P w H' s'.heap/\RelV v u/\Q v H'
def CR(CX:uY)(outer:List Env)(P:Program)(w:World)(H:Hp)(s:Shared)(Q:VK)(E:XK)(r:Result)(s':Shared):Prop:=
 match r with
 |.ok (.ret u)=>CE outer P w H s Q u s'
 |.ok _=>False
 |.error e=>CX outer H s E e s'
structure FnOk (P:Program) (w:World) (K:PySem.W.Frag) (mg:Str->Option Value) (base:Heap) (CX:uY) (k:Nat) (f:Addr) (fd:FuncData) (ps:List Str) (sp:Sp):Prop where
 len:∀vs H Q E,sp vs H Q E->vs.length=ps.length
 run:∀(A:Around) (outer:List Env) (s:Shared) (H:Hp) (args:Args) (us:List Value) (vs:List V) (Q:VK) (E:XK),Room k A->Env0 P w K mg base A outer s H->BindsTo s fd args (ps.zip us)->Vals vs us->sp vs H Q E ->
  codeAny (model P w) A (.call (.ref f) args) (CR CX outer P w H s Q E) s
theorem FnOk.imp{P:Program}{w:World}{K:PySem.W.Frag}{mg:Str->Option Value}{base:Heap}{CX:uY}{k:Nat}{f:Addr}{fd:FuncData}{ps:List Str}{sp sp':Sp}(F:FnOk P w K mg base CX k f fd ps sp)
  (h:∀vs H Q E,sp' vs H Q E->sp vs H Q E):FnOk P w K mg base CX k f fd ps sp':=
 ⟨fun vs H Q E q=>F.len vs H Q E (h _ _ _ _ q),fun A outer s H args us vs Q E hr he hb hv hs=>F.run A outer s H args us vs Q E hr he hb hv (h _ _ _ _ hs)⟩
section
variable{X:Cx}{pins:List (Addr×Obj)}{σ:St}{H:Hp}{s s':Shared}
theorem Inv.env0(I:Inv X pins σ H s):Env0 X.prog X.w X.K X.mg X.base X.A X.stack s H:=
 ⟨I.ok.frames,I.ok.mod,I.bs,le_trans I.ok.bsz I.sz,I.stack,I.stkFree,I.hok,I.bare⟩
theorem Inv.after{Q:VK}{u:Value}(I:Inv X pins σ H s)(h:CE X.stack X.prog X.w H s Q u s'):EP X pins σ Q u s':=by
 obtain⟨v,H',os,bare,un,hok,r,q⟩:=h;obtain⟨hh,g,d,t,os'⟩:=s';obtain rfl:os'=s.os:=os;exact⟨v,H',I.call (h':=hh) (g':=g) (d':=d) (t':=t) (ch:=[]) un hok bare (fun b z=>absurd z (by simp)),r,q⟩
end
def F3(sp:Sp)(dvs:List V)(E:XK)(t:TA):TE:=fun σ H Q=>t σ H fun vs H1=>sp (vs++dvs) H1 Q E
def Binds(K:PySem.W.Frag)(fd:FuncData)(ps:List Str)(ds:List Value):Prop:=
 ∀(s:Shared) (us:List Value),K.In s.heap->(us++ds).length=ps.length->BindsTo s fd ⟨us,[]⟩ (ps.zip (us++ds))
theorem Binds.all{K:PySem.W.Frag}{fd:FuncData}{ps:List Str}(h:∀us:List Value,us.length=ps.length->bindArgs fd ⟨us,[]⟩=pure (ps.zip us)):Binds K fd ps []:=fun s us _ hl=>by
 rw[List.append_nil]at hl ⊢;exact .of_eq (h us hl)
def re(CX:uY)(X:Cx)(E:XK):Prop:=∀(pins:List (Addr×Obj)) (σ:St) (H:Hp) (s:Shared) (e:Value) (s':Shared),Inv X pins σ H s->CX X.stack H s E e s'->X.xe e s'
section
variable{X:Cx}{CX:uY}{k:Nat}{f C:Addr}{fd:FuncData}{ps:List Str}{sp:Sp}{dvs:List V}{ds:List Value}{E:XK}{x m:Str}{p pos apos:Pos}{e o:Expr}{es:List Expr}{ta:TE}{t:TA}
theorem yq{pins:List (Addr×Obj)}{σ:St}{H:Hp}{s:Shared}{Q:VK}{us:List Value}{vs:List V}(F:FnOk X.prog X.w X.K X.mg X.base CX k f fd ps sp)(hr:Room k X.A)(hb:Binds X.K fd ps ds)(hd:Vals dvs ds)(hx:re CX X E)
  (I:Inv X pins σ H s) (r:Vals vs us) (h:sp (vs++dvs) H Q E):wpAny (model X.prog X.w) X.A (call (.ref f) us) (EP X pins σ Q) X.xe s:=by
 have r2:Vals (vs++dvs) (us++ds):=r.append hd;have hl:(us++ds).length=ps.length:=by rw[<-r2.length];exact F.len _ _ _ _ h
 refine wpAny_call (codeAny_mono (F.run X.A X.stack s H ⟨us,[]⟩ (us++ds) (vs++dvs) Q E hr I.env0 (hb s us I.kIn hl) r2 h) fun r s' hq=>?_)
 cases r with
 |error e=>exact hx pins σ H s e s' I hq
 |ok fl=>
  cases fl with
  |ret u=>exact I.after hq
  |next=>exact False.elim hq
  |brk=>exact False.elim hq
  |cont=>exact False.elim hq
theorem p6(F:FnOk X.prog X.w X.K X.mg X.base CX k f fd ps sp)(hr:Room k X.A)(hg:Gl X x)(hm:X.mg x=some (.ref f))(hk:PySem.W.keepIn X.K (.ref f)=true)(hb:Binds X.K fd ps ds)(hd:Vals dvs ds)(hx:re CX X E)
  (ha:PA X (e::es) t) (hdb:(x==("__debug__":Str))=false:=by decide) (he:starEach (e::es) X.env=(false,eval e X.env)::starEach es X.env:=by rfl) (hpl:(backTo pos (starEach es X.env)).any (·.1)=false:=by rfl) :
  PE X (.Call (.Name x p) (e::es) [] pos) (F3 sp dvs E t):=by
 intro pins s σ H Q I h;refine wpAny_Call_Name_kw (lz I hg hm ?_ hdb);refine PySem.W.callWith_K (h₀:=X.base) I.ok.mod.kin hk (b0 (ha pos pins s σ H _ I h) fun us s1 ⟨vs,H1,I1,r,q⟩=>⟨I1.kIn,?_⟩) he hpl
 exact yq F hr hb hd hx I1 r q
end
structure FnScope (N P:List Str) (sc:Scope):Prop where
 kind:sc.kind=.function
 co:sc.isCoroutine=false
 gen:sc.isGenerator=false
 nd:N.Nodup
 pre:N.take P.length=P
 par:∀x∈P,sc.names.lookup x=some .local\/sc.names.lookup x=some .cell
 nofree:∀y∈sc.names,y.2≠.free
theorem px{kindOf:Str->Option NameKind}{x:Str}:∀{binds:List (Str×Value)} {m:Str->Option Value},(∀v,(x,v) ∉ binds)->bindL kindOf binds m x=m x
 |[],_,_=>rfl
 | (n,v)::r,m,h=>by
  unfold bindL;rw[px fun w hw=>h w (List.mem_cons_of_mem _ hw)]
  split
  ·have:x≠n:=by rintro rfl;exact h v List.mem_cons_self
   simp[this]
  ·rfl
theorem pA{kindOf:Str->Option NameKind}{x:Str}:∀{binds:List (Str×Value)} {m:Str->Option Value},(∀v,(x,v) ∉ binds)->bindC kindOf binds m x=m x
 |[],_,_=>rfl
 | (n,v)::r,m,h=>by
  unfold bindC;rw[pA fun w hw=>h w (List.mem_cons_of_mem _ hw)]
  split
  ·rfl
  ·have:x≠n:=by rintro rfl;exact h v List.mem_cons_self
   simp[this]
theorem pz{kindOf:Str->Option NameKind}{x:Str}{v:Value}:∀{P:List Str} {vs:List Value} {i:Nat} {m:Str->Option Value},P.Nodup->P[i]? = some x->vs[i]? = some v->kindOf x=some .local ->
  bindL kindOf (P.zip vs) m x=some v
 |[],_,_,_,_,h,_,_=>by simp at h
 |_::_,[],_,_,_,_,h,_=>by simp at h
 |p::P,w::vs,0,m,nd,h1,h2,hk=>by
  simp at h1 h2;subst h1;subst h2;show bindL kindOf ((p,w)::P.zip vs) m p=_;unfold bindL;rw[px fun v hv=>(List.nodup_cons.mp nd).1 (List.of_mem_zip hv).1,if_pos hk]
  simp
 |p::P,w::vs,i+1,m,nd,h1,h2,hk=>by
  show bindL kindOf ((p,w)::P.zip vs) m x=_;unfold bindL;exact pz (i:=i) (List.nodup_cons.mp nd).2 (by simpa using h1) (by simpa using h2) hk
theorem pC{kindOf:Str->Option NameKind}{x:Str}{v:Value}:∀{P:List Str} {vs:List Value} {i:Nat} {m:Str->Option Value},P.Nodup->P[i]? = some x->vs[i]? = some v->kindOf x≠some .local ->
  bindC kindOf (P.zip vs) m x=some v
 |[],_,_,_,_,h,_,_=>by simp at h
 |_::_,[],_,_,_,_,h,_=>by simp at h
 |p::P,w::vs,0,m,nd,h1,h2,hk=>by
  simp at h1 h2;subst h1;subst h2;show bindC kindOf ((p,w)::P.zip vs) m p=_;unfold bindC;rw[pA fun v hv=>(List.nodup_cons.mp nd).1 (List.of_mem_zip hv).1,if_neg hk]
  simp
 |p::P,w::vs,i+1,m,nd,h1,h2,hk=>by
  show bindC kindOf ((p,w)::P.zip vs) m x=_;unfold bindC;exact pC (i:=i) (List.nodup_cons.mp nd).2 (by simpa using h1) (by simpa using h2) hk
noncomputable def dh(N:List Str)(vs:List V):St:=vs.map some++List.replicate (N.length-vs.length) none
noncomputable def eU(CX:uY)(P:Program)(w:World)(K:PySem.W.Frag)(mg:Str->Option Value)(base:Heap)(N:List Str)(qual:Str)(scope:Scope)(f:Addr)(cd:Value)(A:Around)(outer:List Env)(s:Shared)(H:Hp)(E:XK):Cx where
 prog:=P
 w:=w
 K:=K
 mg:=mg
 base:=base
 A:=A.deeper (envOfC qual scope s.heap.objs.size f cd)
 N:=N
 s₀:=s
 H₀:=H
 env:=envOfC qual scope s.heap.objs.size f cd
 outer:=outer
 stack:=envOfC qual scope s.heap.objs.size f cd::outer
 ex:=[]
 calm:=true
 fn:=fun _=>true
 pn:=[]
 xe:=fun e s'=>wpAny (model P w) (A.deeper (envOfC qual scope s.heap.objs.size f cd)) (leaving (envOfC qual scope s.heap.objs.size f cd) e) (fun _ s''=>CX outer H s E e s'') (fun e' s''=>CX outer H s E e' s'') s'
theorem tz{sc:Scope}{n:Nat}{x:Str}(h:sc.names.lookup x=some .cell):∃c,(cellsFrom n sc.names []).lookup x=some c:=by
 have q:=PySem.W.cellsFrom_some sc.names n [] (.inl h);exact Option.isSome_iff_exists.mp q
theorem xm{CX:uY}{P:Program}{w:World}{K:PySem.W.Frag}{mg:Str->Option Value}{base:Heap}{N ps:List Str}{qual:Str}{scope:Scope}{f:Addr}{cd:Value}{A:Around}{outer:List Env}{s s1:Shared}{H:Hp}{E:XK}{us:List Value}{vs:List V}
  (S:FnScope N ps scope) (hd:A.handled=none) (e0:Env0 P w K mg base A outer s H) (hl:vs.length=ps.length) (r:Vals vs us)
  (x:InCallC s s.heap.objs.size (bindL (envOfC qual scope s.heap.objs.size f cd).kindOf (ps.zip us) fun _=>none) (cellsFrom (s.heap.objs.size+1) scope.names []) (bindC (envOfC qual scope s.heap.objs.size f cd).kindOf (ps.zip us) fun _=>none) s1) :
  Inv (eU CX P w K mg base N qual scope f cd A outer s H E) [] (dh N vs) H s1:=by
 have hpl:ps.length<=N.length:=by have:=congrArg List.length S.pre;rw[List.length_take]at this;omega
 obtain⟨h1,tk,rfl,hk⟩:=x.done;have noA:∀b:Addr,b ∉ (eU CX P w K mg base N qual scope f cd A outer s H E).ex:=fun b z=>absurd (show b∈([]:List Addr)from z) (by simp)
 refine⟨⟨e0.mod,S.kind,rfl,rfl,le_refl _,fun y z c h1 h2=>?_,fun y hy=>?_,fun y c _ h=>?_,fun _=>hd,Around.frames_deeper e0.frames,.inr ⟨rfl,rfl⟩,fun b z=>absurd z (noA b),e0.bs,e0.bsz,fun b _ _=>noA b,fun b z=>absurd z (noA b),e0.funs,e0.frf⟩,
  rfl,e0.bare,Un.kept hk,⟨_,x.toInCall.ns,fun i y v h1 h2 h3=>?_⟩,fun y c h=>⟨_,x.cell y c h⟩,e0.hok.fresh (le_refl _),fun y c h=>?_,fun p hp=>absurd (show p∈([]:List (Addr×Obj))from hp) (by simp),e0.hok.kept hk,?_⟩
 ·exact name_of_addr x.apart (PySem.mem_of_lookup h1) (PySem.mem_of_lookup h2)
 ·have hy:scope.names.lookup y=some .cell\/scope.names.lookup y=some .free:=hy
  rcases hy with hy|hy
  ·exact tz hy
  ·exact absurd rfl (S.nofree _ (PySem.mem_of_lookup hy))
 ·exact Nat.le_of_lt (x.above y c (PySem.mem_of_lookup h))
 ·have hi:i<vs.length:=by
   unfold dh at h2;by_cases hi:i<vs.length
   ·exact hi
   ·rw[List.getElem?_append_right (by simpa using hi)]at h2
    rw[List.getElem?_replicate]at h2;split at h2<;>cases h2
  have ha:vs[i]? = some v:=by
   unfold dh at h2;rw[List.getElem?_append_left (by simpa using hi),List.getElem?_map]at h2;cases e:vs[i]? with
   |none=>rw[e]at h2;cases h2
   |some a=>rw[e]at h2;cases h2;rfl
  obtain⟨u,hu,rv⟩:=r.get ha;have hp:ps[i]? = some y:=by
   rw[<-S.pre,List.getElem?_take_of_lt (by omega)];exact h1
  have ndP:ps.Nodup:=by rw[<-S.pre];exact S.nd.sublist (List.take_sublist _ _)
  refine⟨u,rv,?_⟩;rcases S.par y (List.mem_of_getElem? hp)with k|k
  ·exact .inl ⟨k,pz ndP hp hu k⟩
  ·obtain⟨c,e⟩:=tz (n:=s.heap.objs.size+1) k
   refine .inr ⟨.inl k,c,e,?_⟩;have q:=x.cell y c e;rw[pC ndP hp hu (by show scope.names.lookup y≠_;rw[k];decide)]at q;exact q
 ·exact e0.hok.fresh (Nat.le_of_lt (x.above y c (PySem.mem_of_lookup h)))
 ·unfold dh
  show _=N.length;rw[List.length_append,List.length_map,List.length_replicate];omega
theorem v5{CX:uY}{P:Program}{w:World}{K:PySem.W.Frag}{mg:Str->Option Value}{base:Heap}{k:Nat}{f:Addr}{name qual:Str}{params:Arguments}{body:List Stmt}{scope:Scope}{dV kV doc pm cdv ct oc:Value}{an od:Option Addr}
  {osl:Array (Option Value)} {N ps:List Str} {sp:Sp} (lk:K.lookup f=some ⟨oc,od,.func (PySem.W.fnOf name qual params body scope dV kV doc pm an cdv ct),osl⟩) (hcd:PySem.W.codeIn K cdv qual=true) (S:FnScope N ps scope)
  (len:∀vs H Q E,sp vs H Q E->vs.length=ps.length)
  (hbody:∀(A:Around) (outer:List Env) (s:Shared) (H:Hp) (vs:List V) (Q:VK) (E:XK),Room k (A.deeper (envOfC qual scope s.heap.objs.size f cdv))->sp vs H Q E ->
   ∃t,PSs (eU CX P w K mg base N qual scope f cdv A outer s H E) body t/\t { nx:=fun _ H'=>Q .non H',rt:=Q } (dh N vs) H) :
  FnOk P w K mg base CX (k+1) f (PySem.W.fnOf name qual params body scope dV kV doc pm an cdv ct) ps sp:=by
 refine⟨len,fun A outer s H args us vs Q E hr e0 hb r hsp=>?_⟩
 have hl:=len _ _ _ _ hsp;have KX:K.In s.heap:=e0.mod.kin.keeps fun b o e=>(e0.bs b o e).1
 have lim:s.heap.NoLimit:=e0.mod.nolimit.keeps fun b o e=>(e0.bs b o e).1
 have hkind:∀y∈ps.zip us,scope.names.lookup y.1=some .local\/(scope.names.lookup y.1=some .cell/\((cellsFrom (s.heap.objs.size+1) scope.names []).lookup y.1).isSome=true):=fun⟨n,v⟩ hy=>by
  rcases S.par n (List.of_mem_zip hy).1 with q|q
  ·exact .inl q
  ·exact .inr ⟨q,PySem.W.cellsFrom_some _ _ _ (.inl q)⟩
 refine codeAny_call_function hr.depth (KX _ _ lk) rfl S.co S.gen rfl (PySem.W.codeRec_of KX hcd) (hb _ _ _ _ ?_);refine wpAny_newFunctionEnv_cells S.kind hkind fun env he s1 x=>?_
 subst he;refine⟨lim.keeps x.toInCall.keep,codeAny_func ?_⟩;obtain⟨t,ht,hq⟩:=hbody A outer s H vs Q E (hr.deeper _) hsp;have I:Inv (eU CX P w K mg base N qual scope f cdv A outer s H E) [] (dh N vs) H s1:=xm S hr.hd e0 hl r x;refine wpAny_mono (ht [] s1 (dh N vs) H _ I hq) (fun fl s' hs=>?_) fun e s' hs=>hs
 have fin:∀{σ':St} {H':Hp} {v:V} {u:Value},Inv (eU CX P w K mg base N qual scope f cdv A outer s H E) [] σ' H' s'->RelV v u->Q v H'->CE outer P w H s Q u s':=
  fun{σ' H' v u} J rv q=>⟨v,H',J.os,J.bare,J.base,J.hok,rv,q⟩
 cases fl with
 |ret u=>
  obtain⟨v,σ',H',J,rv,q⟩:=hs;exact fin J rv q
 |next=>
  obtain⟨σ',H',J,q⟩:=hs;exact fin (v:=V.non) (u:=Value.none) J rfl q
 |brk=>
  obtain⟨_,_,_,q⟩:=hs;exact False.elim q
 |cont=>
  obtain⟨_,_,_,q⟩:=hs;exact False.elim q
section
variable{X:Cx}{x:Str}{p pos:Pos}{e:Expr}{es:List Expr}{t:TA}{id T:String}{r:List V->Hp->VK->Prop}
def KF(r:List V->Hp->VK->Prop)(t:TA):TE:=fun σ H Q=>t σ H fun vs H1=>r vs H1 Q
theorem fR(hc:CallR X (.builtin id) r)(hg:Gl X x)(hm:X.mg x=none)(hv:bootBuiltins x=some (.builtin id))(ha:PA X (e::es) t)(hn:x ≠ "__name__":=by decide)(hdb:(x==("__debug__":Str))=false:=by decide)
  (he:starEach (e::es) X.env=(false,eval e X.env)::starEach es X.env:=by rfl) (hpl:(backTo pos (starEach es X.env)).any (·.1)=false:=by rfl):PE X (.Call (.Name x p) (e::es) [] pos) (KF r t):=by
 intro pins s σ H Q I h;refine wpAny_Call_Name_kw (fH I hg hm hv ?_ hn hdb);exact PyProof.Rows.callWith_builtin1 (b0 (ha pos pins s σ H _ I h) fun us s1 ⟨vs,H1,I1,r1,q1⟩=>hc pins s1 σ H1 vs us Q I1 r1 q1) he hpl
theorem j4(hc:CallR X (.type T) r)(hg:Gl X x)(hm:X.mg x=none)(hv:bootBuiltins x=some (.type T))(ha:PA X (e::es) t)(hn:x ≠ "__name__":=by decide)(hdb:(x==("__debug__":Str))=false:=by decide)
  (he:starEach (e::es) X.env=(false,eval e X.env)::starEach es X.env:=by rfl) (hpl:(backTo pos (starEach es X.env)).any (·.1)=false:=by rfl):PE X (.Call (.Name x p) (e::es) [] pos) (KF r t):=by
 intro pins s σ H Q I h;refine wpAny_Call_Name_kw (fH I hg hm hv ?_ hn hdb);exact PyProof.Rows.callWith_type1 (b0 (ha pos pins s σ H _ I h) fun us s1 ⟨vs,H1,I1,r1,q1⟩=>hc pins s1 σ H1 vs us Q I1 r1 q1) he hpl
end
end L2
namespace HT
open PySem PyProof.Rows
section
variable{prog:Program}{w:World}{A:Around}{E:Value->Shared->Prop}{s:Shared}
theorem Ch{t b:Addr}{vs ws:List Value}{Q:Value->Shared->Prop}(ht:IsTup s.heap t vs.toArray)(hb:IsTup s.heap b ws.toArray)(hv:vs≠[])
  (h1:ws=[]->Q (.ref t) s) (h2:ws≠[]->Q (.ref s.heap.objs.size) { s with heap:=s.heap.push { cls:=.type "tuple",data:=.seq (vs++ws).toArray } })
  (hsz:vs.length+ws.length<=sizeLine):wpAny (model prog w) A (binaryOp .Add (.ref t) (.ref b)) Q E s:=by
 obtain⟨⟨cls,dd,data,sl⟩,ho,hc,n,hd⟩:=id ht;obtain⟨⟨cls2,dd2,data2,sl2⟩,ho2,hc2,n2,hd2⟩:=id hb;simp only at hc hd hc2 hd2;subst hc hd hc2 hd2;have e:vs.toArray++ws.toArray=(vs++ws).toArray:=by simp
 by_cases hw:ws=[]
 ·exact concat_meets ⟨_,ho,rfl⟩ ⟨_,ho2,rfl⟩ noFill_tuple_add seq_tuple_add PySem.F.slot_tuple_add PySem.F.entry_tuple_add (PySem.F.args_tuple_add_2 _ _)
   (tuple_addW1 t b vs.toArray ws.toArray n n2 dd dd2 sl sl2 (by simpa using hv) (by simp[hw])) ⟨ho,ho2,h1 hw⟩
 ·refine concat_meets ⟨_,ho,rfl⟩ ⟨_,ho2,rfl⟩ noFill_tuple_add seq_tuple_add PySem.F.slot_tuple_add PySem.F.entry_tuple_add (PySem.F.args_tuple_add_2 _ _)
   (tuple_addW2 t b vs.toArray ws.toArray n n2 dd dd2 sl sl2 (by simpa using hv) (by simpa using hw) (by rw[List.size_toArray,List.size_toArray];exact hsz)) ⟨ho,ho2,?_⟩
  rw[e];exact h2 hw
noncomputable def sIx(n d:Nat):Option Int->Nat
 |none=>d
 |some v=>if v<0 then(v+(n:Int)).toNat else min v.toNat n
theorem DQ(n d:Nat)(hd:d<=n)(o:Option Int):sIx n d o<=n:=by
 cases o with
 |none=>exact hd
 |some v=>
  show(if v<0 then(v+(n:Int)).toNat else min v.toNat n)<=n;by_cases hv:v<0
  ·rw[if_pos hv];omega
  ·rw[if_neg hv];exact Nat.min_le_right _ _
theorem wm(v:Int)(n d:Nat):(if v<0 then max (v+(n:Int)) 0 else min v (n:Int))=((sIx n d (some v):Nat):Int):=by
 show(if v<0 then max (v+(n:Int)) 0 else min v (n:Int))=(((if v<0 then(v+(n:Int)).toNat else min v.toNat n):Nat):Int);by_cases hv:v<0
 ·simp only[if_pos hv];omega
 ·simp only[if_neg hv];omega
theorem uW(lo hi:Option Int)(n:Nat):Builtin.Slice.sliceAdjust lo hi 1 (n:Int)=(((sIx n 0 lo:Nat):Int),((sIx n n hi:Nat):Int)):=by
 have h1:¬((1:Int)<0):=by omega
 unfold Builtin.Slice.sliceAdjust;simp only[h1,if_false];refine Prod.ext ?_ ?_
 ·cases lo with
  |none=>rfl
  |some v=>exact wm v n 0
 ·cases hi with
  |none=>rfl
  |some v=>exact wm v n n
theorem uo(i j:Nat):Builtin.Slice.slicePlaces (i:Int) (j:Int) 1=j-i:=by
 unfold Builtin.Slice.slicePlaces;have h1:(1:Int)>0:=by omega
 simp only[h1,if_true,Int.ediv_one];split<;>omega
theorem lU{v:Value}{o:Option Int}{Q:Option Int->Shared->Prop}(p:IsPart v o)(h:Q o s):wpAny (model prog w) A (Builtin.Slice.slicePartIndex v) Q E s:=by
 cases p with
 |none=>exact slicePart_none h
 |int i t=>exact slicePart_int h
theorem fP{sl:Addr}{vl vu:Value}{lo hi:Option Int}{n:Nat}{Q:Int×Int×Nat->Shared->Prop}(hs:s.heap.IsSliceOf sl vl vu .none)(pl:IsPart vl lo)(pu:IsPart vu hi)
  (h:Q (((sIx n 0 lo:Nat):Int),1,sIx n n hi-sIx n 0 lo) s):wpAny (model prog w) A (Builtin.Slice.sliceApplied (.ref sl) (pure (n:Int))) Q E s:=by
 obtain⟨os,hos,hcs,hds⟩:=id hs;unfold Builtin.Slice.sliceApplied Builtin.Slice.sliceFields;refine wpAny_bind (wpAny_bind (wpAny_field hos hds (x:=vl) rfl (wpAny_bind (wpAny_field hos hds (x:=vu) rfl (wpAny_bind (wpAny_field hos hds (x:=.none) rfl (wpAny_pure ?_)))))));refine wpAny_bind (slicePart_none ?_);show wpAny _ _ (if((1:Int)==0)=true then _ else _) _ _ s;rw[if_neg (by decide)];refine wpAny_bind (lU pl (wpAny_bind (lU pu (wpAny_bind (wpAny_pure ?_)))));show wpAny _ _ (match Builtin.Slice.sliceAdjust lo hi 1 (n:Int)with|(lo,hi)=>pure (lo,(1:Int),Builtin.Slice.slicePlaces lo hi 1)) _ _ s
 rw[uW lo hi n];show wpAny _ _ (pure (((sIx n 0 lo:Nat):Int),(1:Int),Builtin.Slice.slicePlaces ((sIx n 0 lo:Nat):Int) ((sIx n n hi:Nat):Int) 1)) _ _ s;rw[uo];exact wpAny_pure h
theorem yC(xs:Array Value)(i k:Nat):((List.range k).filterMap fun(m:Nat)=>xs[((i:Int)+(m:Int)*1).toNat]?).toArray=((xs.toList.drop i).take k).toArray:=by
 have e:(fun(m:Nat)=>xs[((i:Int)+(m:Int)*1).toNat]?)=fun m=>xs[i+m]?:=by
  funext m;have:((i:Int)+(m:Int)*1).toNat=i+m:=by omega
  rw[this]
 rw[e];have:=pick_run xs i k;rw[List.filterMap_map]at this;have e2:((fun x=>xs[x]?) ∘ fun x=>i+x)=fun m=>xs[i+m]?:=rfl
 rw[e2]at this;rw[this]
theorem jE{t sl:Addr}{items:Array Value}{vl vu:Value}{lo hi:Option Int}{Q:Value->Shared->Prop}(ht:IsTup s.heap t items)(hs:s.heap.IsSliceOf sl vl vu .none)(pl:IsPart vl lo)(pu:IsPart vu hi)
  (hw:¬(sIx items.size 0 lo=0/\sIx items.size items.size hi=items.size))
  (h:Q (.ref s.heap.objs.size) { s with heap:=s.heap.push { cls:=.type "tuple",data:=.seq ((items.toList.drop (sIx items.size 0 lo)).take (sIx items.size items.size hi-sIx items.size 0 lo)).toArray } })
  (hsz:items.size<=sizeLine):wpAny (model prog w) A (getItem (.ref t) (.ref sl)) Q E s:=by
 have htake:sizeOk (.seq ((items.toList.drop (sIx items.size 0 lo)).take (sIx items.size items.size hi-sIx items.size 0 lo)).toArray):=by
  show((items.toList.drop (sIx items.size 0 lo)).take (sIx items.size items.size hi-sIx items.size 0 lo)).toArray.size<=sizeLine;rw[List.size_toArray,List.length_take,List.length_drop,Array.length_toList];omega
 have hj:sIx items.size items.size hi<=items.size:=DQ _ _ (Nat.le_refl _) hi;obtain⟨os,hos,hcs,hds⟩:=id hs;have hTs:s.TypeIs (.ref sl) "slice":=⟨os,hos,hcs⟩;unfold getItem
 try with_reducible refine wpAny_holding ?_
 first|refine wpAny_bind (wpAny_pure ?_)|skip
 refine wpAny_bind (wpAny_sequenceKey ht.typeIs (by decide) ?_);refine wpAny_bind (wpAny_callSpecial?_slot (name:=Str.ofString "__getitem__") ht.typeIs PyProof.Rows.slot_tuple_getitem
  (wpAny_call_entry PyProof.Rows.slot_tuple_getitem ht.typeIs entry_tuple_getitem ?_ (args_tuple_getitem _ _)))
 show wpAny _ _ (Builtin.Tuple.tupleItemsOf (.ref t) >>= _) _ _ s;refine wpAny_bind (tupleItemsOf_ ht ?_);refine wpAny_bind (wpAny_typeOf hTs ?_);rw[if_pos (by decide)];refine wpAny_bind (fP hs pl pu ?_);have hno:¬((((sIx items.size 0 lo:Nat):Int)==0&&(1:Int)==1&&(sIx items.size items.size hi-sIx items.size 0 lo)==items.size)=true):=by
  intro q;rw[Bool.and_eq_true,Bool.and_eq_true]at q;have q1:((sIx items.size 0 lo:Nat):Int)=0:=eq_of_beq q.1.1;have q2:sIx items.size items.size hi-sIx items.size 0 lo=items.size:=eq_of_beq q.2;exact hw ⟨by omega,by omega⟩
 show wpAny _ _ (if(((sIx items.size 0 lo:Nat):Int)==0&&(1:Int)==1&&(sIx items.size items.size hi-sIx items.size 0 lo)==items.size)=true then _ else _) _ _ s;rw[if_neg hno,yC]
 first
  |exact wpAny_bind (m:=Builtin.Tuple.tupleExact _) (wpAny_newObj_type (wpAny_pure ⟨_,rfl,wpAny_pure h⟩) htake)
  |exact wpAny_bind (m:=Builtin.Tuple.tupleExact _) (wpAny_newObj_type (wpAny_bind (wpAny_pure (wpAny_pure ⟨_,rfl,wpAny_pure h⟩))) htake)
  |exact wpAny_bind (wpAny_bind (m:=Builtin.Tuple.tupleExact _) (wpAny_newObj_type (wpAny_pure (wpAny_pure ⟨_,rfl,wpAny_pure h⟩)) htake))
  |exact wpAny_bind (wpAny_bind (m:=Builtin.Tuple.tupleExact _) (wpAny_newObj_type (wpAny_pure ⟨_,rfl,wpAny_pure h⟩) htake))
end
end HT
namespace L2
open PySem PySem.Spec PyProof.Rows
open List (size_toArray)
open Nat (le_refl)
open PySem.Heap (get?_push_of_some)
abbrev TO:=St->Hp->(Option Int->Hp->Prop)->Prop
def PO(X:Cx)(e:Option Expr)(t:TO):Prop:=
 ∀(pins:List (Addr×Obj)) (s:Shared) (σ:St) (H:Hp) (Q:Option Int->Hp->Prop),Inv X pins σ H s->t σ H Q ->
  wpAny (model X.prog X.w) X.A (evalPart e X.env) (fun u s'=>∃o H',Inv X pins σ H' s'/\IsPart u o/\Q o H') X.xe s
noncomputable def Az:TO:=fun _ H Q=>Q none H
def FT(t:TE):TO:=fun σ H Q=>t σ H fun x H1=>∃i,x=.int i/\Q (some i) H1
section
variable{X:Cx}{e:Expr}{te:TE}{lo hi:Option Expr}{tl th:TO}{pos p2:Pos}
theorem Bj:PO X none Az:=by
 intro pins s σ H Q I h;rw[evalPart_none];exact wpAny_pure ⟨none,H,I,.none,h⟩
theorem Bi(h:PE X e te):PO X (some e) (FT te):=by
 intro pins s σ H Q I hw;rw[evalPart_some];refine b0 (h pins s σ H _ I hw) fun u s1 ⟨x,H1,I1,r1,q1⟩=>?_
 obtain⟨i,rfl,q⟩:=q1;obtain⟨t,rfl⟩:=r1;exact⟨some i,H1,I1,.int i t,q⟩
def SlR(X:Cx)(r:V->Option Int->Option Int->Hp->VK->Prop):Prop:=
 ∀(pins:List (Addr×Obj)) (s:Shared) (σ:St) (H:Hp) (x:V) (v vl vu:Value) (lo hi:Option Int) (sl:Addr) (Q:VK),Inv X pins σ H s->RelV x v->s.heap.IsSliceOf sl vl vu .none->IsPart vl lo->IsPart vu hi->r x lo hi H Q ->
  ∃T id,typeLookup (.type T) "__getitem__" = pure (some (.builtin id))/\s.TypeIs v T/\wpAny (model X.prog X.w) X.A (getItem v (.ref sl)) (EP X pins σ Q) X.xe s
theorem SlR.or{r r':V->Option Int->Option Int->Hp->VK->Prop}(h:SlR X r)(h':SlR X r'):SlR X (fun x lo hi H Q=>r x lo hi H Q\/r' x lo hi H Q):=by
 intro pins s σ H x v vl vu lo hi sl Q I rx hs pl pu q;rcases q with q|q
 ·exact h pins s σ H x v vl vu lo hi sl Q I rx hs pl pu q
 ·exact h' pins s σ H x v vl vu lo hi sl Q I rx hs pl pu q
def K7(r:V->Option Int->Option Int->Hp->VK->Prop)(te:TE)(tl th:TO):TE:=fun σ H Q=>te σ H fun x H1=>tl σ H1 fun l H2=>th σ H2 fun u H3=>r x l u H3 Q
theorem rS{r:V->Option Int->Option Int->Hp->VK->Prop}(hr:SlR X r)(he:PE X e te)(hl:PO X lo tl)(hu:PO X hi th):PE X (.Subscript e (.Slice lo hi none p2) pos) (K7 r te tl th):=by
 intro pins s σ H Q I h;refine Subscript_ (b0 (he pins s σ H _ I h) fun v s1 ⟨x,H1,I1,r1,q1⟩=>?_)
 refine wpAny_Slice (b0 (hl pins s1 σ H1 _ I1 q1) fun vl s2 ⟨l,H2,I2,pl,q2⟩=>b0 (hu pins s2 σ H2 _ I2 q2) fun vu s3 ⟨u,H3,I3,pu,q3⟩=>?_)
 rw[evalPart_none];refine wpAny_pure ?_;have I4:Inv X pins σ H3 { s3 with heap:=s3.heap.push { cls:=.type "slice",data:=.fields #[vl,vu,.none] } }:=I3.kept (t':=s3.toks) fun b ob q=>get?_push_of_some _ q
 obtain⟨T,id,hT,ht,hg⟩:=hr pins { s3 with heap:=s3.heap.push { cls:=.type "slice",data:=.fields #[vl,vu,.none] } } σ H3 x v vl vu l u s3.heap.objs.size Q I4 r1 (Heap.IsSliceOf.new ..) pl pu q3;show wpAny (model X.prog X.w) X.A (subscriptTail e (.Slice lo hi none p2) v (.ref s3.heap.objs.size)) (EP X pins σ Q) X.xe { s3 with heap:=s3.heap.push { cls:=.type "slice",data:=.fields #[vl,vu,.none] } };exact tail_any (ops:=[.ref s3.heap.objs.size,v]) ht hT hg (by with_unfolding_all rfl)
noncomputable def oh(xs:List V)(lo hi:Option Int):List V:=(xs.drop (HT.sIx xs.length 0 lo)).take (HT.sIx xs.length xs.length hi-HT.sIx xs.length 0 lo)
theorem kC(xs:List V)(lo hi:Option Int):(oh xs lo hi).length<=xs.length:=by
 unfold oh;rw[List.length_take,List.length_drop];omega
def Jw(K:PySem.W.Frag):V->Option Int->Option Int->Hp->VK->Prop:=fun x lo hi H Q=>∃a xs,x=.ref a/\SqT K H a xs /\
 ¬(HT.sIx xs.length 0 lo=0/\HT.sIx xs.length xs.length hi=xs.length)/\∀p,H p=none->Q (.ref p) (upd H p (.tup (oh xs lo hi)))
theorem sl_tup:SlR X (Jw X.K):=by
 intro pins s σ H x v vl vu lo hi sl Q I rx hs pl pu h;obtain⟨a,xs,rfl,hx,hw,q⟩:=h;cases rx;obtain⟨its,r,ht,hz⟩:=I.tuple hx;have hlen:its.toArray.size=xs.length:=by rw[size_toArray];exact r.length.symm
 refine⟨"tuple",_,PyProof.Rows.slot_tuple_getitem.lookup,ht.typeIs,?_⟩;refine HT.jE ht hs pl pu (by rw[hlen];exact hw) ?_ (by rw[hlen];exact hz);rw[hlen];refine⟨.ref s.heap.objs.size,_,I.laid (t':=s.toks) (o:=.tup (oh xs lo hi)) (fun b ob q=>get?_push_of_some _ q) (le_refl _) ?_,rfl,q _ (I.hok.fresh (le_refl _))⟩;exact⟨Nat.le_trans (kC xs lo hi) hz,_,(r.drop (HT.sIx xs.length 0 lo)).take (HT.sIx xs.length xs.length hi-HT.sIx xs.length 0 lo),IsTup.new _ _,NoDi.new _ _⟩
def GC(K:PySem.W.Frag):R2:=fun x y H Q=>∃a b xs ys,x=.ref a/\y=.ref b/\SqT K H a xs/\SqT K H b ys/\xs≠[]/\xs.length+ys.length<=sizeLine /\
 (ys=[]->Q (.ref a) H)/\(ys≠[]->∀p,H p=none->Q (.ref p) (upd H p (.tup (xs++ys))))
theorem Vals.nil_iff{xs:List V}{us:List Value}(r:Vals xs us):us=[]↔xs=[]:=by
 cases r with
 |nil=>simp
 |cons _ _=>simp
theorem Bv:OpR X (binaryOp .Add) (GC X.K):=by
 intro pins s σ H x y v u Q I rx ry h;obtain⟨a,b,xs,ys,rfl,rfl,ha,hb,hx,hz,q1,q2⟩:=h;cases rx;cases ry;obtain⟨its,r1,p1,_⟩:=I.tuple ha;obtain⟨its2,r2,p2,_⟩:=I.tuple hb;refine HT.Ch p1 p2 (fun z=>hx (r1.nil_iff.mp z)) (fun z=>⟨.ref a,H,I,rfl,q1 (r2.nil_iff.mp z)⟩) (fun z=>?_) (by rw[<-r1.length,<-r2.length];exact hz)
 refine⟨.ref s.heap.objs.size,_,I.laid (t':=s.toks) (o:=.tup (xs++ys)) (fun b ob q=>get?_push_of_some _ q) (le_refl _) ?_,rfl,q2 (fun w=>z (r2.nil_iff.mpr w)) _ (I.hok.fresh (le_refl _))⟩
 exact⟨by rw[List.length_append];exact hz,_,r1.append r2,IsTup.new _ _,NoDi.new _ _⟩
end
noncomputable def BZ(n:Nat)(i:Int):Option Nat:=if 0<=i then(if i<n then some i.toNat else none)else if -(n:Int)<=i then some (i+n).toNat else none
noncomputable def lJ{α:Type}(xs:List α)(i:Int):Option α:=(BZ xs.length i).bind fun j=>xs[j]?
theorem BY{n:Nat}{i:Int}{j:Nat}(h:BZ n i=some j):seqIndex? i n=some j/\j<n /\ -(n:Int)<=i/\i<n:=by
 unfold BZ at h;by_cases h0:0<=i
 ·rw[if_pos h0]at h
  by_cases h1:i<n
  ·rw[if_pos h1]at h
   have e:i.toNat=j:=Option.some.inj h;exact⟨by rw[seqIndex_of h0 h1,e],by omega,by omega,h1⟩
  ·rw[if_neg h1]at h;cases h
 ·rw[if_neg h0]at h
  by_cases h1:-(n:Int)<=i
  ·rw[if_pos h1]at h
   have e:(i+n).toNat=j:=Option.some.inj h;exact⟨by rw[seqIndex_neg (by omega) h1,e],by omega,h1,by omega⟩
  ·rw[if_neg h1]at h;cases h
theorem wu{α:Type}{xs:List α}{i:Int}{v:α}(h:lJ xs i=some v):∃j,seqIndex? i xs.length=some j/\xs[j]? = some v/\j<xs.length /\ -(xs.length:Int)<=i/\i<xs.length:=by
 unfold lJ at h;cases e:BZ xs.length i with
 |none=>rw[e]at h;cases h
 |some j=>
  rw[e]at h;obtain⟨h1,h2,h3,h4⟩:=BY e;exact⟨j,h1,h,h2,h3,h4⟩
def jU(b:Expr):Prop:=∀o i,subscripted b false o i=operate [o,i] (getItem o i)
def IxR(X:Cx)(r:R2):Prop:=
 ∀(value slice:Expr) (pins:List (Addr×Obj)) (s:Shared) (σ:St) (H:Hp) (x y:V) (v u:Value) (Q:VK),Inv X pins σ H s->RelV x v->RelV y u->r x y H Q ->
  subscripted slice false v u=operate [v,u] (getItem v u)->wpAny (model X.prog X.w) X.A (subscriptTail value slice v u) (EP X pins σ Q) X.xe s
def KS(X:Cx)(id:String)(r:V->List V->Hp->VK->Prop):Prop:=
 ∀(pins:List (Addr×Obj)) (s:Shared) (σ:St) (H:Hp) (x:V) (xs:List V) (v:Value) (us:List Value) (Q:VK),Inv X pins σ H s->RelV x v->Vals xs us->r x xs H Q ->
  wpAny (model X.prog X.w) X.A (call (.builtin id) (v::us)) (EP X pins σ Q) X.xe s
section
variable{X:Cx}{a b:Expr}{ta tb:TE}{pos:Pos}
theorem IxR.or{r r':R2}(h:IxR X r)(h':IxR X r'):IxR X (fun x y H Q=>r x y H Q\/r' x y H Q):=by
 intro value slice pins s σ H x y v u Q I rx ry q hs;rcases q with q|q
 ·exact h value slice pins s σ H x y v u Q I rx ry q hs
 ·exact h' value slice pins s σ H x y v u Q I rx ry q hs
theorem vq{r:R2}(hr:IxR X r)(ha:PE X a ta)(hb:PE X b tb)(hs:jU b):PE X (.Subscript a b pos) (FU r ta tb):=by
 intro pins s σ H Q I h;exact Subscript_ (Fe ha hb I h fun v u s2 x y H2 I2 rx ry q=>hr a b pins s2 σ H2 x y v u Q I2 rx ry q (hs _ _))
def JA(K:PySem.W.Frag):R2:=fun x y H Q=>∃p xs i v,x=.ref p/\y=.int i/\SqL K H p xs/\lJ xs i=some v/\Q v H
def Jz(K:PySem.W.Frag):R2:=fun x y H Q=>∃p xs i v,x=.ref p/\y=.int i/\SqT K H p xs/\lJ xs i=some v/\Q v H
theorem ix_list:IxR X (JA X.K):=by
 intro value slice pins s σ H x y v u Q I rx ry h hs;obtain⟨p,xs,i,z,rfl,rfl,hq,he,q⟩:=h;cases rx;obtain⟨t,rfl⟩:=ry;obtain⟨its,r,pl,hz⟩:=I.list hq;obtain⟨j,h1,h2,h3,h4,h5⟩:=wu he;obtain⟨w,ew,rw'⟩:=r.get h2;have hl:=r.length;have hn:=uy;have fin:EP X pins σ Q w s:=⟨z,H,I,rw',q⟩;by_cases h0:0<=i
 ·have hj:i.toNat=j:=by
   rw[seqIndex_of h0 h5]at h1;exact Option.some.inj h1
  exact item_listR pl.isList h0 (by omega) (by rw[hj];simpa using ew) fin hs
 ·have hj:(i+(its.toArray.size:Int)).toNat=j:=by
   rw[seqIndex_neg (by omega) h4]at h1;rw[size_toArray,<-hl];exact Option.some.inj h1
  exact subscriptTail_builtinR (x:=w) pl.isList.typeIs slot_list_getitem.lookup
   (wpAny_getItem_list_neg (Q:=fun r s'=>r=w/\EP X pins σ Q r s') pl.isList (by omega) (by rw[size_toArray]<;>omega) (by omega) (by rw[hj];simpa using ew) ⟨rfl,fin⟩) hs
theorem uC:IxR X (Jz X.K):=by
 intro value slice pins s σ H x y v u Q I rx ry h hs;obtain⟨p,xs,i,z,rfl,rfl,hq,he,q⟩:=h;cases rx;obtain⟨t,rfl⟩:=ry;obtain⟨its,r,pl,hz⟩:=I.tuple hq;obtain⟨j,h1,h2,h3,h4,h5⟩:=wu he;obtain⟨w,ew,rw'⟩:=r.get h2;have hl:=r.length;have hn:=uy;have fin:EP X pins σ Q w s:=⟨z,H,I,rw',q⟩;exact subscriptTail_builtinR (x:=w) pl.typeIs slot_tuple_getitem.lookup
  (getItem_tuple (j:=j) (Q:=fun r s'=>r=w/\EP X pins σ Q r s') pl (by omega) (by omega) (by rw[size_toArray,<-hl];exact h1) (by simpa using ew) ⟨rfl,fin⟩) hs
theorem pQ(lo hi:Option Int)(n:Nat):(sliceBounds lo hi none n).1=((HT.sIx n 0 lo:Nat):Int)/\(sliceBounds lo hi none n).2.1=((HT.sIx n n hi:Nat):Int)/\(sliceBounds lo hi none n).2.2=1:=by
 refine⟨?_,?_,rfl⟩
 ·cases lo with
  |none=>simp[sliceBounds,HT.sIx]
  |some i=>
   simp only[sliceBounds,HT.sIx,Option.getD_none,show(1:Int)>0 by decide,if_true];by_cases h:i<0
   ·simp only[h,if_true]<;>omega
   ·simp only[h,if_false]<;>omega
 ·cases hi with
  |none=>simp[sliceBounds,HT.sIx]
  |some i=>
   simp only[sliceBounds,HT.sIx,Option.getD_none,show(1:Int)>0 by decide,if_true];by_cases h:i<0
   ·simp only[h,if_true]<;>omega
   ·simp only[h,if_false]<;>omega
theorem nQ(its:List Value)(lo hi:Option Int):slicePick its.toArray lo hi none=((its.drop (HT.sIx its.length 0 lo)).take (HT.sIx its.length its.length hi-HT.sIx its.length 0 lo)).toArray:=by
 obtain⟨h1,h2,h3⟩:=pQ lo hi its.toArray.size;unfold slicePick;rw[h1,h2,h3];simp only[sliceRange_one,pick_run,size_toArray]<;>rfl
def Jx(K:PySem.W.Frag):V->Option Int->Option Int->Hp->VK->Prop:=fun x lo hi H Q=>∃a xs,x=.ref a/\SqL K H a xs/\∀p,H p=none->Q (.ref p) (upd H p (.lst (oh xs lo hi)))
theorem sl_list:SlR X (Jx X.K):=by
 intro pins s σ H x v vl vu lo hi sl Q I rx hs pl pu h;obtain⟨a,xs,rfl,hx,q⟩:=h;cases rx;obtain⟨its,r,ht,hz⟩:=I.list hx;have hlen:=r.length;refine⟨"list",_,slot_list_getitem.lookup,ht.isList.typeIs,?_⟩;refine wpAny_getItem_list_slice ht.isList hs pl pu .none (by simp) ?_ (by rw[size_toArray]<;>omega);rw[nQ,<-hlen];refine⟨.ref s.heap.objs.size,_,I.laid (t':=s.toks) (o:=.lst (oh xs lo hi)) (fun b ob q=>get?_push_of_some _ q) (le_refl _) ?_,rfl,q _ (I.hok.fresh (le_refl _))⟩;exact⟨Nat.le_trans (kC xs lo hi) hz,_,0,(r.drop (HT.sIx xs.length 0 lo)).take (HT.sIx xs.length xs.length hi-HT.sIx xs.length 0 lo),Heap.get?_push_size _ rfl⟩
noncomputable def fW:V->Bool
 |.non=>true
 |.bl _=>true
 |.int _=>true
 |.str _=>true
 |_=>false
noncomputable def Ap:V->V->Bool
 |.non,.non=>true
 |.bl a,.bl b=>a==b
 |.bl a,.int b=>(if a then 1 else 0)==b
 |.int a,.bl b=>a==(if b then 1 else 0)
 |.int a,.int b=>a==b
 |.str a,.str b=>a==b
 |_,_=>false
theorem E9{A:Around}{s:Shared}{y x:V}{u v:Value}(ry:RelV y u)(rx:RelV x v)(fy:fW y=true)(fx:fW x=true):SeqAt.EqAt A s u v (Ap y x):=by
 cases y with
 |non=>
  cases ry;cases x with
  |non=>cases rx;exact SeqAt.EqAt.same _
  |bl b=>cases rx;exact SeqAt.EqAt.none_bool b
  |int b=>obtain⟨t,rfl⟩:=rx;exact SeqAt.EqAt.none_int b t
  |str b=>obtain⟨t,rfl⟩:=rx;exact SeqAt.EqAt.none_str b t
  |_=>exact absurd (show false=true from fx) Bool.false_ne_true
 |bl a=>
  cases ry;cases x with
  |non=>cases rx;exact SeqAt.EqAt.bool_none a
  |bl b=>cases rx;exact SeqAt.EqAt.bool_bool a b
  |int b=>obtain⟨t,rfl⟩:=rx;exact SeqAt.EqAt.bool_int a b t
  |str b=>obtain⟨t,rfl⟩:=rx;exact SeqAt.EqAt.bool_str a b t
  |_=>exact absurd (show false=true from fx) Bool.false_ne_true
 |int a=>
  obtain⟨t',rfl⟩:=ry;cases x with
  |non=>cases rx;exact SeqAt.EqAt.int_none a t'
  |bl b=>cases rx;exact SeqAt.EqAt.int_bool a t' b
  |int b=>obtain⟨t,rfl⟩:=rx;exact SeqAt.EqAt.int_int a t' b t
  |str b=>obtain⟨t,rfl⟩:=rx;exact SeqAt.EqAt.int_str a t' b t
  |_=>exact absurd (show false=true from fx) Bool.false_ne_true
 |str a=>
  obtain⟨t',rfl⟩:=ry;cases x with
  |non=>cases rx;exact SeqAt.EqAt.str_none a t'
  |bl b=>cases rx;exact SeqAt.EqAt.str_bool a t' b
  |int b=>obtain⟨t,rfl⟩:=rx;exact SeqAt.EqAt.str_int a t' b t
  |str b=>obtain⟨t,rfl⟩:=rx;exact SeqAt.EqAt.str_str a t' b t
  |_=>exact absurd (show false=true from fx) Bool.false_ne_true
 |_=>exact absurd (show false=true from fy) Bool.false_ne_true
noncomputable def Ce(x:V)(u:Value):Bool:=match u with
 |.none=>Ap .non x
 |.bool b=>Ap (.bl b) x
 |.int i _=>Ap (.int i) x
 |.str z _=>Ap (.str z) x
 |_=>false
theorem zL{x y:V}{u:Value}(r:RelV y u)(f:fW y=true):Ce x u=Ap y x:=by
 cases y with
 |non=>cases r;rfl
 |bl b=>cases r;rfl
 |int i=>obtain⟨t,rfl⟩:=r;rfl
 |str z=>obtain⟨t,rfl⟩:=r;rfl
 |_=>exact absurd (show false=true from f) Bool.false_ne_true
theorem q9{x:V}:∀{xs:List V} {us:List Value},Vals xs us->xs.all fW=true->us.any (Ce x)=xs.any fun y=>Ap y x
 |_,_,.nil,_=>rfl
 |y::xs,u::us,.cons r t,f=>by
  rw[List.all_cons,Bool.and_eq_true]at f;rw[List.any_cons,List.any_cons,zL r f.1,q9 t f.2]
theorem mQ{A:Around}{s:Shared}{x:V}{v:Value}(rx:RelV x v)(fx:fW x=true):∀{xs:List V} {us:List Value},Vals xs us->xs.all fW=true->∀u∈us,SeqAt.EqAt A s u v (Ce x u)
 |_,_,.nil,_=>fun u hu=>by cases hu
 |y::xs,u::us,.cons r t,f=>fun u' hu=>by
  rw[List.all_cons,Bool.and_eq_true]at f;rcases List.mem_cons.mp hu with rfl|hu
  ·rw[zL r f.1];exact E9 r rx f.1 fx
  ·exact mQ rx fx t f.2 u' hu
noncomputable def IJ(x:V)(xs:List V):Bool:=xs.any fun y=>Ap y x
def JB(K:PySem.W.Frag)(neg:Bool):R2:=fun x y H Q=>∃p xs,y=.ref p/\(SqL K H p xs\/SqT K H p xs)/\fW x=true/\xs.all fW=true/\Q (.bl (if neg then !IJ x xs else IJ x xs)) H
theorem wV:OpR X (compareOp .In) (JB X.K false):=by
 intro pins s σ H x y v u Q I rx ry h;obtain⟨p,xs,rfl,hq,fx,fs,q⟩:=h;cases ry;rcases hq with hq|hq
 ·obtain⟨its,r,pl,hz⟩:=I.list hq
  refine SeqAt.in_listAt (Ce x) pl.isList (fun w hw=>mQ rx fx r fs w (by simpa using hw)) ⟨.bl _,H,I,rfl,?_⟩
  rw[show its.toArray.any (Ce x)=its.any (Ce x) by simp,q9 r fs];exact q
 ·obtain⟨its,r,pl,hz⟩:=I.tuple hq
  refine SeqAt.in_tupleAt (Ce x) pl (fun w hw=>mQ rx fx r fs w (by simpa using hw)) ⟨.bl _,H,I,rfl,?_⟩
  rw[show its.toArray.any (Ce x)=its.any (Ce x) by simp,q9 r fs];exact q
theorem jQ:CallR X (.type "list") (fun xs H Q=>∃p ys,xs=[.ref p]/\(SqL X.K H p ys\/SqT X.K H p ys)/\∀l,H l=none->Q (.ref l) (upd H l (.lst ys))):=by
 intro pins s σ H xs us Q I r h;obtain⟨p,ys,rfl,hq,q⟩:=h;obtain⟨u,rfl,rx⟩:=gJ r;cases rx;have fin:∀(its:List Value),Vals ys its->ys.length<=sizeLine->∀(h':Heap) (c':Nat),(∀b o',s.heap.get? b=some o'->h'.get? b=some o') ->
   h'.get? s.heap.objs.size=some { cls:=.type "list",dict:=none,data:=.seq its.toArray c',slots:=#[] }->EP X pins σ Q (.ref s.heap.objs.size) { s with heap:=h' }:=fun its r' hz h' c' kp e=>
  ⟨.ref s.heap.objs.size,_,I.laid (t':=s.toks) kp (le_refl _) (show ObjOk X.prog X.w _ h' _ (.lst ys)from ⟨hz,its,c',r',e⟩),rfl,q _ (I.hok.fresh (le_refl _))⟩
 rcases hq with hq|hq
 ·obtain⟨its,r',pl,hz⟩:=I.list hq
  have hlen:=r'.length;obtain⟨o,ho,hc,n,hd⟩:=pl.isList;exact call_list_seq p (.inl rfl) ho hc hd (fun h' c' kp e=>fin its r' hz h' c' kp e) (by simp only[size_toArray]<;>omega)
 ·obtain⟨its,r',pl,hz⟩:=I.tuple hq
  have hlen:=r'.length;obtain⟨o,ho,hc,n,hd⟩:=pl;exact call_list_seq p (.inr rfl) ho hc hd (fun h' c' kp e=>fin its r' hz h' c' kp e) (by simp only[size_toArray]<;>omega)
theorem oi:CallR X (.type "tuple") (fun xs H Q=>∃p ys,xs=[.ref p]/\((SqL X.K H p ys/\∀l,H l=none->Q (.ref l) (upd H l (.tup ys)))\/(SqT X.K H p ys/\Q (.ref p) H))):=by
 intro pins s σ H xs us Q I r h;obtain⟨p,ys,rfl,h⟩:=h;obtain⟨u,rfl,rx⟩:=gJ r;cases rx;rcases h with⟨hq,q⟩|⟨hq,q⟩
 ·obtain⟨its,r',pl,hz⟩:=I.list hq
  have hlen:=r'.length;refine call_tuple_list pl.isList (fun h' kp=>?_) (by simp only[size_toArray]<;>omega);have I1:Inv X pins σ H { s with heap:=h' }:=I.kept (t':=s.toks) kp;have I2:Inv X pins σ (upd H h'.objs.size (.tup ys)) { s with heap:=h'.push { cls:=.type "tuple",data:=.seq its.toArray } }:=
   I1.laid (t':=s.toks) (fun b o e=>get?_push_of_some _ e) (le_refl _) (show ObjOk X.prog X.w _ _ _ (.tup ys)from ⟨hz,its,r',IsTup.new _ _,NoDi.new _ _⟩)
  exact⟨.ref h'.objs.size,_,I2,rfl,q _ (I1.hok.fresh (le_refl _))⟩
 ·obtain⟨its,r',pl,hz⟩:=I.tuple hq
  exact call_tuple_same pl ⟨.ref p,H,I,rfl,q⟩
def Jb(K:PySem.W.Frag)(T:String)(x:V)(H:Hp):Prop:=match x with
 |.str _=>T = "str"
 |.int _=>T = "int"
 |.ref p=>(T = "list" /\ ∃xs,SqL K H p xs)\/(T = "tuple" /\ ∃o,K.lookup p=some o/\o.cls=.type "tuple" /\ o.dict=none) \/
   (T = "dict" /\ ((∃kvs,H p=some (.dK kvs))\/∃kvs,H p=some (.dT kvs)))\/(T = "set" /\ ∃S n,H p=some (.set S n))
 |_=>False
theorem xQ{pins:List (Addr×Obj)}{σ:St}{H:Hp}{s:Shared}{T:String}{x:V}{v:Value}(I:Inv X pins σ H s)(r:RelV x v)(ty:Jb X.K T x H):
  s.TypeIs v T/\∀a,v=.ref a->∃ob,s.heap.get? a=some ob/\ob.dict=none:=by
 cases x with
 |str z=>
  obtain⟨t,rfl⟩:=r;cases(show T = "str" from ty);exact⟨typeIs_str s z t,fun _ e=>nomatch e⟩
 |int i=>
  obtain⟨t,rfl⟩:=r;cases(show T = "int" from ty);exact⟨typeIs_int s i t,fun _ e=>nomatch e⟩
 |ref p=>
  cases r;rcases ty with⟨rfl,xs,hq⟩|⟨rfl,o,hk,hc,hd⟩|⟨rfl,hk⟩|⟨rfl,S,n,hk⟩
  ·obtain⟨its,_,pl,_⟩:=I.list hq
   refine⟨pl.isList.typeIs,fun a e=>?_⟩
   cases e;obtain⟨o,n,e,c,hd,_⟩:=pl;exact⟨o,e,hd⟩
  ·refine⟨⟨o,I.kIn p o hk,hc⟩,fun a e=>?_⟩
   cases e;exact⟨o,I.kIn _ o hk,hd⟩
  ·have z:∃o,s.heap.get? p=some o/\o.ExactDict:=by
    rcases hk with⟨kvs,hk⟩|⟨kvs,hk⟩
    ·obtain⟨_,_,_,_,o,_,_,e,ex,_⟩:=I.hok p _ hk
     exact⟨o,e,ex⟩
    ·obtain⟨_,_,_,_,o,_,_,e,ex,_⟩:=I.hok p _ hk
     exact⟨o,e,ex⟩
   obtain⟨o,e,ex⟩:=z;refine⟨⟨o,e,ex.1⟩,fun a e2=>?_⟩
   cases e2;exact⟨o,e,ex.2.1⟩
  ·obtain⟨o,_,_,_,e,ex,_⟩:=I.hok p _ hk
   refine⟨⟨o,e,ex.1⟩,fun a e2=>?_⟩
   cases e2;exact⟨o,e,ex.2.1⟩
 |_=>exact False.elim ty
def Jn(K:PySem.W.Frag)(T:String)(r:V->List V->Hp->VK->Prop)(to:TE):TE:=fun σ H Q=>to σ H fun x H1=>Jb K T x H1/\r x [] H1 Q
def Lb(K:PySem.W.Frag)(T:String)(r:V->List V->Hp->VK->Prop)(to:TE)(t:TA):TE:=fun σ H Q=>to σ H fun x H1=>Jb K T x H1/\t σ H1 fun xs H2=>r x xs H2 Q
variable{o e:Expr}{es:List Expr}{to:TE}{t:TA}{name:Str}{apos cpos:Pos}{T id:String}{r:V->List V->Hp->VK->Prop}
theorem yJ(pa:PlainAttrs T)(slot:Slot T name id)(hty:typeOf (.builtin id)=pure (.type "method_descriptor"))(hm:KS X id r)(ho:PE X o to)
  (hbase:attributeBase o name X.env (eval o X.env)=eval o X.env:=by rfl) (hline:(apos.endLine==cpos.line)=true:=by rfl):PE X (.Call (.Attribute o name apos) [] [] cpos) (Jn X.K T r to):=by
 intro pins s σ H Q I h;refine wpAny_Call_method0_late hbase hline (b0 (ho pins s σ H _ I h) fun v s1 ⟨x,H1,I1,r1,ty,q1⟩=>?_)
 obtain⟨h1,h2⟩:=xQ I1 r1 ty;exact⟨T,id,pa,slot,hty,h1,h2,Calls.callWith_builtin rfl (PySem.evalArgs_none (hm pins s1 σ H1 x [] v [] Q I1 r1 .nil q1))⟩
theorem rT(pa:PlainAttrs T)(slot:Slot T name id)(hty:typeOf (.builtin id)=pure (.type "method_descriptor"))(hm:KS X id r)(ho:PE X o to)(ha:PA X (e::es) t)
  (hbase:attributeBase o name X.env (eval o X.env)=eval o X.env:=by rfl)
  (hfew:((backTo cpos (starEach (e::es) X.env)).all (fun x=>!x.1)&&(backToKw cpos (keywordEach [] X.env)).all (fun x=>x.1.isSome)
   && decide ((e::es).length+([]:List Keyword).length+(if([]:List Keyword).isEmpty then 0 else 1)<30))=true:=by rfl)
  (hline:(apos.endLine==cpos.line)=true:=by rfl) (hs:starEach (e::es) X.env=(false,eval e X.env)::starEach es X.env:=by rfl) (hplain:(backTo cpos (starEach es X.env)).any (·.1)=false:=by rfl) :
  PE X (.Call (.Attribute o name apos) (e::es) [] cpos) (Lb X.K T r to t):=by
 intro pins s σ H Q I h;refine wpAny_Call_method_late hbase hfew hline rfl (b0 (ho pins s σ H _ I h) fun v s1 ⟨x,H1,I1,r1,ty,q1⟩=>?_)
 obtain⟨h1,h2⟩:=xQ I1 r1 ty;refine⟨T,id,pa,slot,hty,h1,h2,?_⟩;have hA:=ha cpos pins s1 σ H1 _ I1 q1;rw[hs]at hA ⊢;refine Calls.callWith_builtin (by show(false||(backTo cpos (starEach es X.env)).any (·.1))=false;rw[hplain]<;>rfl) (Calls.evalArgs_plain ?_);exact b0 hA fun us s2 ⟨vs,H2,I2,r2,q2⟩=>hm pins s2 σ H2 x vs v us Q I2 r1 r2 q2
end
def FL(X:Cx)(id:String)(r:V->List V->Hp->VK->Prop):Prop:=
 ∀(pins:List (Addr×Obj)) (s:Shared) (σ:St) (H:Hp) (x:V) (xs:List V) (v:Value) (us:List Value) (Q:VK),Inv X pins σ H s->RelV x v->Vals xs us->r x xs H Q ->
  wpAny (model X.prog X.w) X.A (call (.builtin id) (v::us)) (EP X pins σ Q) X.xe s
theorem Vals.one:∀{x:V} {us:List Value},Vals [x] us->∃u,us=[u]/\RelV x u
 |_,_,h=>by
  cases h with
  |cons r t=>
   cases t;exact⟨_,rfl,r⟩
theorem Vals.two:∀{x y:V} {us:List Value},Vals [x,y] us->∃u v,us=[u,v]/\RelV x u/\RelV y v
 |_,_,_,h=>by
  cases h with
  |cons r t=>
   cases t with
   |cons q t2=>
    cases t2;exact⟨_,_,rfl,r,q⟩
section
variable{X:Cx}{pins:List (Addr×Obj)}{σ:St}{H:Hp}{s:Shared}{l b:Addr}{xs ys zs:List V}
theorem Inv.lset{its its':List Value}{n:Nat}{f:Array Value->Array Value}{t':Nat}(I:Inv X pins σ H s)(hH:H l=some (.lst xs))
  (e:s.heap.get? l=some { cls:=.type "list",data:=.seq its.toArray n }) (hf:f its.toArray=its'.toArray) (hv:Vals ys its') (hz:ys.length<=sizeLine) :
  Inv X pins σ (upd H l (.lst ys)) { s with heap:=s.heap.update l (Obj.mapSeq f),toks:=t' }:=by
 have q:=PySem.IsL.update e f;rw[hf]at q;refine I.write (x:=l) (e:=l) (by rw[hH];exact trivial) (.inl rfl) (fun b' u hb hu=>(Heap.get?_update_other s.heap (Obj.mapSeq f) (Ne.symm hb)).trans hu) ⟨_,q⟩ ?_
 exact⟨hz,its',_,hv,q⟩
theorem Inv.lnew{its:List Value}{t':Nat}(I:Inv X pins σ H s)(hv:Vals ys its)(hz:ys.length<=sizeLine):
  Inv X pins σ (upd H s.heap.objs.size (.lst ys)) { s with heap:=s.heap.push { cls:=.type "list",data:=.seq its.toArray },toks:=t' }:=
 I.laid (fun _ _ q=>get?_push_of_some _ q) (le_refl _) ⟨hz,its,0,hv,Heap.get?_push_size _ rfl⟩
theorem Inv.fresh(I:Inv X pins σ H s):H s.heap.objs.size=none:=I.hok.fresh (le_refl _)
theorem Inv.lstM(I:Inv X pins σ H s)(hH:H l=some (.lst xs)):xs.length<=sizeLine/\∃(its:List Value) (n:Nat),Vals xs its/\xs.length=its.length/\s.heap.get? l=some { cls:=.type "list",data:=.seq its.toArray n }:=by
 obtain⟨z,its,n,r,e⟩:=I.hok l _ hH;exact⟨z,its,n,r,r.length,e⟩
theorem yQ{n:Nat}(h:n<=sizeLine):Builtin.List.listTooLong n=false:=by
 unfold Builtin.List.listTooLong;exact decide_eq_false (by omega)
end
section
variable{X:Cx}
def Bc:V->List V->Hp->VK->Prop:=fun x vs H Q=>∃l xs y,x=.ref l/\vs=[y]/\H l=some (.lst xs)/\xs.length<sizeLine/\Q .non (upd H l (.lst (xs++[y])))
theorem oR:FL X "list.append" Bc:=by
 intro pins s σ H x vs v us Q I rx rv h;obtain⟨l,xs,y,rfl,rfl,hH,hz,q⟩:=h;cases rx;obtain⟨u,rfl,ru⟩:=rv.one;obtain⟨z,its,n,r,hl,e⟩:=I.lstM hH;refine call_meets F.slot_list_append ⟨_,e,rfl⟩ F.entry_list_append (F.args_list_append_2 _ _) (PySem.list_append l its.toArray n u (by rw[size_toArray];omega)) ⟨e,?_⟩;refine⟨.non,_,I.lset (its':=its++[u]) hH e (by simp) (r.append (.cons ru .nil)) ?_,rfl,q⟩;rw[List.length_append,List.length_singleton];omega
end
end L2
namespace Att
open PySem PySem.W PySem.Calls PyProof.Rows
theorem kU{P:Params}{h:Heap}:∀(ns:List Int) (vs:List Value),WellAll P h vs (ns.map WData.int)->IntsAre vs ns:=by
 intro ns
 induction ns with
 |nil=>
  intro vs w;rw[List.map_nil]at w;cases w;exact .nil
 |cons n ns ih=>
  intro vs w;rw[List.map_cons]at w;cases w with
  |cons a b=>
   cases a;exact .cons _ _ (ih _ b)
theorem wM{l:OpenLaw}{n:Nat}(hn:l.most=some n){P:Params}{h:Heap}{args:List WData}{vals:List Value}
  (hpre:l.row.toRowW.claim.pre args=true) (hwl:WellAll P h vals args) :
  ∃a vs ns,vals=[Value.ref a]/\args=[WData.list (ns.map WData.int)]/\h.get? a=some { cls:=.type "list",data:=.seq vs.toArray }/\IntsAre vs ns/\ns.length<=n:=by
 have hsh:WShape.hasAll [] args [.list .int]=true:=(pre_splitW hpre).1;have hc:l.pre.holds [] { args:=args }=true:=(pre_splitW hpre).2;obtain⟨d,r,rfl,h1,h2⟩:=hasAllW_cons hsh;obtain rfl:=hasAllW_nil h2;obtain⟨xs,rfl,h3⟩:=hasW_list h1;obtain⟨ns,rfl⟩:=items_int h3;have hlen:ns.length<=n:=by
  unfold OpenLaw.pre at hc;have h4:(WTm.not (.lt (.lit (.int (n:Int))) (.len (.arg 0)))).holds [] { args:=[.list (ns.map .int)] }=true:=by
   have h4:=(holds_andW hc).1;rw[hn]at h4;exact h4
  have h5:=condW_of h4 (w_not (w_lt w_lit (w_len_list (w_arg rfl))));rw[List.length_map]at h5;refine Nat.le_of_not_lt fun q=>?_
  have q':(n:Int)<((ns.length:Nat):Int):=by omega
  first
   | (rw[decide_eq_true q']at h5;exact absurd h5 (by decide))
   | (simp at h5;omega)
 cases hwl with
 |cons w1 w2=>
  cases w2;cases w1 with
  |list ho hall=>exact⟨_,_,ns,rfl,rfl,ho,kU ns _ hall,hlen⟩
theorem wR(l:OpenLaw)(args:List WData):l.row.toRowW.claim.post args (.bool true) args=true:=
 postW_of (r:=l.row.toRowW) (X:=(true==true))
  (show WShape.has [] (.bool true) .bool=true by first|rfl|decide|simp[WShape.has,WShape.arms,WShape.armsAll])
  (show(WTm.eq .res (.lit (.bool true))).value [] { args:=args,res:=some (.bool true),after:=args }=some (.bool (true==true))from w_eq_bool (w_res rfl) w_lit) rfl
theorem tL{l:OpenLaw}{n:Nat}{q:Program}{loose:List Str}{XP:(Str->Option Value)->Heap->Prop}{YP:World->Heap->Prop}{d:DefRec}
  (hn:l.most=some n) (hdf:d.params.defaults=[])
  (call:∀(w:World) (s₀ s₁:Shared) (mg mb:Str->Option Value) (fa:Addr) (o:Obj) (pm cd doc:Value) (a:Addr) (vs:List Value) (ns:List Int),
   Ground q loose [] XP w s₀ mg mb s₁.heap->YP w s₁.heap ->
   s₁.heap.get? fa=some o->o.data=.func (docDef d.name d.params d.body d.scope pm cd doc)->s₁.heap.CodeRec cd d.name->mg d.name=some (.ref fa) ->
   s₁.heap.get? a=some { cls:=.type "list",data:=.seq vs.toArray }->IntsAre vs ns->ns.length<=n->s₁.gens = #[] ->
   codeAny (model l.prog w) callerA (.call (.ref fa) ⟨[.ref a],[]⟩) (fun r s'=>r=.ok (.ret (.bool true))/\OldK s₁.heap s'.heap/\s'.os=s₁.os/\AllBare s'.gens) s₁) :
  WalkO q loose XP YP l.row.toRowW d [] (fun f vs=>PySem.call f vs):=by
 intro w s₀ s₁ mg mb G Y fa o pm cd doc dV kV ho hd hcd hD hmg hg args vals as hpre hlay hrd hwl hlo;obtain rfl:dV=.none:=Dflts.none hD hdf;obtain rfl:kV=.none:=Dflts.noKw hD;obtain⟨a,vs,ns,rfl,rfl,hobj,hints,hlen⟩:=wM hn hpre hwl;refine enter_call (codeAny_mono (call w s₀ s₁ mg mb fa o pm cd doc a vs ns G Y ho (fd_plain hd) hcd hmg hobj hints hlen hg) fun r s' hq=>?_)
 obtain⟨rfl,h2,h3,h4⟩:=hq;exact⟨.inl ⟨.bool true,.bool true,[],rfl,fun _=>rfl,.bool true,wR l _,fun _=>⟨List.Pairwise.nil,fun _ hm=>(nomatch hm)⟩⟩,h2,h3,h4⟩
section
variable{prog:Program}{w:World}{A:Around}{E:Value->Shared->Prop}{s:Shared}{K:Frag}
noncomputable def JP(h:Heap)(L d:Addr):List (Addr×Obj):=(List.range h.objs.size).filterMap fun a=>if a=L\/a=d then none else(h.get? a).map fun o=>(a,o)
end
end Att
namespace L2
open PySem PySem.Spec PyProof.Rows
theorem cZ:∀{vs:List Value} {ns:List Int},IntsAre vs ns->Vals (ns.map V.int) vs
 |_,_,.nil=>.nil
 |_,_,.cons n t h=>.cons ⟨t,rfl⟩ (cZ h)
def Ai(H:Hp):Prop:=∀b,H b=none\/∃o xs,H b=some (.frz o (.lst xs))
theorem y7{P:Program}{w:World}{K:PySem.W.Frag}{mg mb:Str->Option Value}{CX:uY}{k:Nat}{fa a:Addr}{fd:FuncData}{x:Str}{sp:Sp}{s₁:Shared}{vs:List Value}{ns:List Int}
  (KX:K.In s₁.heap) (hns:s₁.heap.Ns mainGlobals mg) (hb:s₁.heap.Ns builtinsNs mb) (hbb:∀x:Str,x ≠ "__name__" -> mb x=bootBuiltins x) (hlim:s₁.heap.NoLimit) (hg:s₁.gens = #[])
  (ha:s₁.heap.get? a=some { cls:=.type "list",data:=.seq vs.toArray }) (hi:IntsAre vs ns) (hl:ns.length<=sizeLine) (hr:Room k callerA)
  (F:∀base:Heap,K.In base->base.Ns mainGlobals mg->FnOk P w K mg base CX k fa fd [x] sp) (hbind:∀(s:Shared) (u:Value),BindsTo s fd ⟨[u],[]⟩ [(x,u)])
  (hsp:∀H:Hp,Ai H->SqL K H a (ns.map V.int)->sp [.ref a] H (fun v _=>v=.bl true) fun _ _ _=>False)
  (hCX:∀H e s',CX [] H s₁ (fun _ _ _=>False) e s'->False) :
  codeAny (model P w) callerA (.call (.ref fa) ⟨[.ref a],[]⟩) (fun r s'=>r=.ok (.ret (.bool true))/\OldK s₁.heap s'.heap/\s'.os=s₁.os/\AllBare s'.gens) s₁:=by
 have rv:=cZ hi;have lenV:=hi.length;have core:∀H:Hp,Ai H->SqL K H a (ns.map V.int)->HOk P w H s₁.heap->(∀b,H b≠none->b=a)->(H a≠none->K.lookup a=none) ->
   codeAny (model P w) callerA (.call (.ref fa) ⟨[.ref a],[]⟩) (fun r s'=>r=.ok (.ret (.bool true))/\OldK s₁.heap s'.heap/\s'.os=s₁.os/\AllBare s'.gens) s₁:=by
  intro H hO hS hok hA hK;have base_of:∀{b:Addr} {o:Obj},s₁.heap.get? b=some o->H b=none->(qC s₁.heap H).get? b=some o:=fun e n=>zq e n
  have noA:∀{b:Addr} {o:Obj} {es:Array DictEntry} {ep:Nat},s₁.heap.get? b=some o->o.data=.dict es ep->H b=none:=fun{b o es ep} e d=>by
   cases q:H b with
   |none=>rfl
   |some u=>
    have e':b=a:=hA b (by rw[q];simp);subst e';rw[ha]at e;cases e;have d':Data.seq vs.toArray _=Data.dict es ep:=d;cases d'
  have nsK:∀{b:Addr} {m:Str->Option Value},s₁.heap.Ns b m->(qC s₁.heap H).Ns b m:=fun{b m} ⟨o,es,ep,e,d,r⟩=>⟨o,es,ep,base_of e (noA e d),d,r⟩
  have hKb:K.In (qC s₁.heap H):=fun b o e=>base_of (KX b o e) (by
   cases q:H b with
   |none=>rfl
   |some u=>
    have e':b=a:=hA b (by rw[q];simp);subst e';rw[hK (by rw[q];simp)]at e;cases e)
  have hM:Mod K mg (qC s₁.heap H):=⟨hKb,nsK hns,⟨mb,nsK hb,hbb⟩,let ⟨mc,h1,h2⟩:=hlim; ⟨mc,nsK h1,h2⟩⟩;have e0:Env0 P w K mg (qC s₁.heap H) callerA [] s₁ H:=⟨rfl,hM,fun b o e=>Bz e,Nat.le_of_eq (xr _ _),trivial,fun b hb=>absurd (show b∈([]:List Addr)from hb) (by simp),hok,.of_eq hg⟩
  refine codeAny_mono ((F _ hKb (nsK hns)).run callerA [] s₁ H ⟨[.ref a],[]⟩ [.ref a] [.ref a] _ _ hr e0 (hbind s₁ (.ref a)) (.cons rfl .nil) (hsp H hO hS)) fun r s' h=>?_
  cases r with
  |error e=>exact(hCX H e s' h).elim
  |ok fl=>
   cases fl with
   |next=>exact False.elim h
   |brk=>exact False.elim h
   |cont=>exact False.elim h
   |ret u=>
    obtain⟨v,H',os,bare,un,hok',r',q⟩:=h;have q':v=.bl true:=q;subst q';obtain rfl:u=Value.bool true:=r';refine⟨rfl,OldK.of_keep fun b o e=>?_,os,bare⟩
    cases q:H b with
    |none=>exact un.keep b o e q (by intro z;exact absurd (show b∈([]:List Addr)from z) (by simp)) (by simp)
    |some u=>
     rcases hO b with z|⟨ob,xs,z⟩
     ·rw[q]at z;cases z
     ·have z2:=un.frzs b ob _ z
      obtain⟨e1,_⟩:=hok b _ z;obtain⟨e2,_⟩:=hok' b _ z2;rw[e]at e1;cases e1;exact e2
 cases hk:K.lookup a with
 |some o=>
  have e:=KX a o hk;rw[ha]at e;cases e;refine core (fun _=>none) (fun _=>.inl rfl) (.inr ⟨_,vs.toArray,_,hk,rfl,rfl,rfl,by rw[List.size_toArray,lenV];exact hl,by simpa using rv⟩) (fun b u z=>by have z':(none:Option HO)=some u:=z;cases z') (fun b z=>absurd rfl z) fun z=>absurd rfl z
 |none=>
  refine core (fun b=>if b=a then some (.frz { cls:=.type "list",data:=.seq vs.toArray } (.lst (ns.map V.int)))else none) (fun b=>?_) (.inl (.inr ⟨{ cls:=.type "list",data:=.seq vs.toArray },if_pos rfl⟩)) (fun b u z=>?_) (fun b z=>?_) fun _=>hk
  ·by_cases hb:b=a
   ·exact .inr ⟨_,_,if_pos hb⟩
   ·exact .inl (if_neg hb)
  ·by_cases hb:b=a
   ·have z':=(if_pos hb).symm.trans z
    cases z';subst hb;exact⟨ha,by rw[List.length_map];exact hl,vs,_,rv,ha⟩
   ·have z':=(if_neg hb).symm.trans z
    cases z'
  ·by_cases hb:b=a
   ·exact hb
   ·exact absurd (if_neg hb) z
abbrev LI{K:PySem.W.Frag}{h:Heap}(_:K.In h):PySem.W.Frag:=K
theorem At{l:PySem.W.OpenLaw}{n k:Nat}{q:Program}{loose:List Str}{XP:(Str->Option Value)->Heap->Prop}{YP:World->Heap->Prop}{d:DefRec}{K:Params->PySem.W.Frag}{CX:World->uY}{sp:World->Sp}{x:Str}
  (hn:l.most=some n) (hn2:n<=sizeLine) (hdf:d.params.defaults=[]) (hr:Room k callerA)
  (hY:∀(w:World) (h:Heap),YP w h->(K w.params).In h)
  (F:∀(w:World) (mg:Str->Option Value) (fa:Addr) (h:Heap),(K w.params).In h->h.Ns mainGlobals mg->mg d.name=some (.ref fa) ->
   ∃fd:FuncData,(∀(s:Shared) (u:Value),BindsTo s fd ⟨[u],[]⟩ [(x,u)]) /\
    ∀base:Heap,(K w.params).In base->base.Ns mainGlobals mg->FnOk l.prog w (K w.params) mg base (CX w) k fa fd [x] (sp w))
  (hsp:∀(w:World) (H:Hp) (a:Addr) (ns:List Int),ns.length<=n->Ai H->SqL (K w.params) H a (ns.map V.int)->sp w [.ref a] H (fun v _=>v=.bl true) fun _ _ _=>False)
  (hCX:∀(w:World) (H:Hp) (s:Shared) (e:Value) (s':Shared),CX w [] H s (fun _ _ _=>False) e s'->False) :
  PySem.W.WalkO q loose XP YP l.row.toRowW d [] (fun f vs=>PySem.call f vs):=by
 refine Att.tL hn hdf fun w s₀ s₁ mg mb fa o pm cd doc a vs ns G Y ho hd hcd hmg hobj hints hlen hg=>?_
 have KX:=hY w _ Y;obtain⟨fd,hb,hF⟩:=F w mg fa _ KX G.T.g hmg;exact y7 KX G.T.g G.T.b G.T.builtins G.T.nolimit hg hobj hints (Nat.le_trans hlen hn2) hr hF hb (fun H hO hS=>hsp w H a ns hlen hO hS) fun H e s'=>hCX w H s₁ e s'
noncomputable def fA(s:Stmt):Arguments:=match s with
 |.FunctionDef _ a _ _ _ _ _ _ _ _=>a
 |_=>{ posonlyargs:=[],args:=[],vararg:=none,kwonlyargs:=[],kw_defaults:=[],kwarg:=none,defaults:=[] }
noncomputable def cK(s:Stmt):List Stmt:=match s with
 |.FunctionDef _ _ b _ _ _ _ _ _ _=>b
 |_=>[]
noncomputable def aj(s:Stmt):Scope:=match s with
 |.FunctionDef _ _ _ _ _ _ sc _ _ _=>sc
 |_=>{ kind:=.function,names:=[],isGenerator:=false,isCoroutine:=false }
abbrev dM:uY:=fun _ _ _ _ _ _=>False
abbrev E0:XK:=fun _ _ _=>False
theorem vv{X:Cx}:re dM X E0:=fun _ _ _ _ _ _ _ h=>h.elim
def Same(H H':Hp):Prop:=∀b o,H b=some o->H' b=some o
theorem Same.refl(H:Hp):Same H H:=fun _ _ h=>h
theorem Same.trans{H H1 H2:Hp}(a:Same H H1)(b:Same H1 H2):Same H H2:=fun c o h=>b c o (a c o h)
end L2
set_option maxHeartbeats 4000000
namespace VL
open PySem L2
abbrev D:=PyData
inductive Oc where
 |l (ds:List D)|d (es:List (aG×D))
inductive Sl where
 |un|fz (d:D)|own (c:Oc)|fr (ds:List D)
abbrev Sl.ow(ds:List D):Sl:=.own (.l ds)
abbrev Sl.od(es:List (aG×D)):Sl:=.own (.d es)
noncomputable def vT:aG->D
 |.inl i=>.int i
 |.inr x=>.str x
noncomputable def JW(n:Str)(ds:List (Str×D)):List (D×D):=(.str "ins",.str n)::ds.map fun q=>(.str q.1,q.2)
noncomputable def dctD(es:List (aG×Int)):List (D×D):=es.map fun p=>(vT p.1,.int p.2)
abbrev Dv:=List Sl
inductive Fl where
 |nx|bk|ct|rt (d:D)
abbrev Sf:=Dv->Option (Fl×Dv)
@[simp] noncomputable def o2(f1 f2:Dv->Option D)(g:D->D->Option D):Dv->Option D:=fun δ=>(f1 δ).bind fun x=>(f2 δ).bind fun y=>g x y
@[simp] noncomputable def o1(f:Dv->Option D)(g:D->Option D):Dv->Option D:=fun δ=>(f δ).bind g
@[simp] noncomputable def os(f:Dv->Option (List D))(g:List D->Option D):Dv->Option D:=fun δ=>(f δ).bind g
noncomputable def asB:D->Option Bool
 |.bool b=>some b
 |_=>none
@[simp] theorem Ab(b:Bool):asB (.bool b)=some b:=rfl
@[simp] noncomputable def ob(f:Dv->Option D):Dv->Option Bool:=fun δ=>(f δ).bind asB
@[simp] noncomputable def i8(t u:Dv->Option Bool):Dv->Option Bool:=fun δ=>(t δ).bind fun b=>if b=true then u δ else some false
@[simp] noncomputable def xI(t u:Dv->Option Bool):Dv->Option Bool:=fun δ=>(t δ).bind fun b=>if b=true then some true else u δ
@[simp] noncomputable def kR(t:Dv->Option Bool):Dv->Option Bool:=fun δ=>(t δ).map (!·)
@[simp] noncomputable def oO(f1 f2:Dv->Option D):Dv->Option D:=fun δ=>(f1 δ).bind fun x=>(asB x).bind fun b=>if b=true then f2 δ else some (.bool false)
@[simp] noncomputable def Ln(f1 f2:Dv->Option D):Dv->Option D:=fun δ=>(f1 δ).bind fun x=>(asB x).bind fun b=>if b=true then some (.bool true)else f2 δ
@[simp] noncomputable def Lo(d:D):Option D:=(asB d).map fun b=>.bool (!b)
@[simp] noncomputable def JE(t:Dv->Option Bool)(f1 f2:Dv->Option D):Dv->Option D:=fun δ=>(t δ).bind fun b=>if b=true then f1 δ else f2 δ
noncomputable def vd:Option Sl->Option D
 |some (.fz d)=>some d
 |some (.fr ds)=>some (.list ds)
 |_=>none
@[simp] theorem Jp(ds:List D):vd (some (.fr ds))=some (.list ds):=rfl
@[simp] theorem gb(d:D):vd (some (.fz d))=some d:=rfl
@[simp] noncomputable def oV(i:Nat):Dv->Option D:=fun δ=>vd δ[i]?
@[simp] noncomputable def oC(d:D):Dv->Option D:=fun _=>some d
@[simp] noncomputable def ar:Dv->Option (List D):=fun _=>some []
@[simp] noncomputable def ag(f:Dv->Option D)(fs:Dv->Option (List D)):Dv->Option (List D):=fun δ=>(f δ).bind fun x=>(fs δ).bind fun xs=>some (x::xs)
noncomputable def bw(ds:List D):Option D:=if ds.length<=sizeLine then some (.tuple ds)else none
noncomputable def gO(ds:List D):Option D:=if ds.length<=sizeLine then some (.list ds)else none
theorem ji{ds:List D}(h:ds.length<=16777216):bw ds=some (.tuple ds):=if_pos h
theorem qo{ds:List D}(h:ds.length<=16777216):gO ds=some (.list ds):=if_pos h
@[simp] theorem Kz:bw []=some (.tuple []):=rfl
@[simp] theorem Ky(a:D):bw [a]=some (.tuple [a]):=ji (by simp)
@[simp] theorem Kx(a b:D):bw [a,b]=some (.tuple [a,b]):=ji (by simp)
@[simp] theorem Kw(a b c:D):bw [a,b,c]=some (.tuple [a,b,c]):=ji (by simp)
@[simp] theorem KM:gO []=some (.list []):=rfl
@[simp] theorem KL(a:D):gO [a]=some (.list [a]):=qo (by simp)
@[simp] theorem KK(a b:D):gO [a,b]=some (.list [a,b]):=qo (by simp)
@[simp] theorem KJ(a b c d:D):gO [a,b,c,d]=some (.list [a,b,c,d]):=qo (by simp)
instance (i j:Int):Decidable (IntMulOk i j):=by unfold IntMulOk;infer_instance
noncomputable def iI(g:Int->Int->Int):D->D->Option D
 |.int i,.int j=>some (.int (g i j))
 |_,_=>none
noncomputable def iC(C:Int->Int->Bool)(g:Int->Int->Int):D->D->Option D
 |.int i,.int j=>if C i j=true then some (.int (g i j))else none
 |_,_=>none
noncomputable def iB(g:Int->Int->Bool):D->D->Option D
 |.int i,.int j=>some (.bool (g i j))
 |_,_=>none
@[simp] theorem JZ(g:Int->Int->Int)(i j:Int):iI g (.int i) (.int j)=some (.int (g i j)):=rfl
@[simp] theorem J0(g:Int->Int->Bool)(i j:Int):iB g (.int i) (.int j)=some (.bool (g i j)):=rfl
theorem kb{C:Int->Int->Bool}{g:Int->Int->Int}{i j:Int}(h:C i j=true):iC C g (.int i) (.int j)=some (.int (g i j)):=if_pos h
noncomputable def Kg(i j:Int):Bool:=decide (IntMulOk i j)
noncomputable def Ki(i j:Int):Bool:=decide (0<j/\j<1073741824)
noncomputable def Kh(i j:Int):Bool:=decide (0<j)
noncomputable def Kf(i j:Int):Bool:=decide (0<=j/\j<=1000000/\i.natAbs<2^64)
noncomputable def Ke(i j:Int):Bool:=decide (0<=j/\(Builtin.Int.intBits i:Int)+j<=2^27)
noncomputable def Kd(i j:Int):Bool:=decide (0<=j)
abbrev gX:=iI fun i j=>i-j
abbrev gu:=iC Kg fun i j=>i*j
abbrev cX:=iC Ki fun i j=>i/j
abbrev aK:=iC Kh fun i j=>i%j
abbrev um:=iC Kf fun i j=>i^j.toNat
abbrev kH:=iC Ke fun i j=>i*2^j.toNat
abbrev iZ:=iC Kd fun i j=>i/2^j.toNat
abbrev Fj:=iI Builtin.bitAnd
abbrev lL:=iI Builtin.bitXor
abbrev FB:=iB fun i j=>decide (i<j)
abbrev uH:=iB fun i j=>decide (j<i)
@[simp] theorem mO{i j:Int}(h:IntMulOk i j):gu (.int i) (.int j)=some (.int (i*j)):=kb (decide_eq_true h)
@[simp] theorem HV{i j:Int}(h:0<j)(h2:j<1073741824):cX (.int i) (.int j)=some (.int (i/j)):=kb (decide_eq_true ⟨h,h2⟩)
@[simp] theorem jw{i j:Int}(h:0<j):aK (.int i) (.int j)=some (.int (i%j)):=kb (decide_eq_true h)
@[simp] theorem GI{i j:Int}(h:0<=j)(h2:j<=1000000)(h3:i.natAbs<2^64):um (.int i) (.int j)=some (.int (i^j.toNat)):=kb (decide_eq_true ⟨h,h2,h3⟩)
theorem yk{i j:Int}(h:0<=j)(h2:(Builtin.Int.intBits i:Int)+j<=2^27):kH (.int i) (.int j)=some (.int (i*2^j.toNat)):=kb (decide_eq_true ⟨h,h2⟩)
@[simp] theorem yj{i j:Int}(h:0<=j):iZ (.int i) (.int j)=some (.int (i/2^j.toNat)):=kb (decide_eq_true h)
noncomputable def negD:D->Option D
 |.int i=>some (.int (-i))
 |_=>none
@[simp] theorem GW(i:Int):negD (.int i)=some (.int (-i)):=rfl
noncomputable def aL:D->D->Option D
 |.int i,.int j=>some (.int (i+j))
 |.str x,.str y=>if x.length+y.length<=sizeLine then some (.str (x++y))else none
 |.list xs,.list ys=>if xs.length+ys.length<=sizeLine then some (.list (xs++ys))else none
 |.tuple xs,.tuple ys=>if xs.length+ys.length<=sizeLine then some (.tuple (xs++ys))else none
 |_,_=>none
@[simp] theorem Im(i j:Int):aL (.int i) (.int j)=some (.int (i+j)):=rfl
theorem fZ{xs ys:List D}(h:xs.length+ys.length<=16777216):aL (.list xs) (.list ys)=some (.list (xs++ys)):=if_pos h
theorem tM{xs ys:List D}(h:xs.length+ys.length<=16777216):aL (.tuple xs) (.tuple ys)=some (.tuple (xs++ys)):=if_pos h
noncomputable def shp(d:D):Bool:=PySem.SeqAt.shaped d
noncomputable def cN:D->D->Option D:=fun a b=>if shp a=true/\shp b=true then some (.bool (PyData.eqv a b))else none
noncomputable def neD:D->D->Option D:=fun a b=>if shp a=true/\shp b=true then some (.bool (!PyData.eqv a b))else none
@[simp] theorem wb(i j:Int):cN (.int i) (.int j)=some (.bool (i==j)):=rfl
@[simp] theorem BF(i j:Int):neD (.int i) (.int j)=some (.bool (!(i==j))):=rfl
@[simp] theorem HR(i j:Bool):cN (.bool i) (.bool j)=some (.bool (i==j)):=rfl
@[simp] theorem GY(i j:Bool):neD (.bool i) (.bool j)=some (.bool (!(i==j))):=rfl
noncomputable def FD(d:D):Bool:=match d with
 |.none=>true
 |_=>false
noncomputable def Lv:D->D->Option D:=fun a b=>match b with
 |.none=>some (.bool (FD a))
 |_=>none
noncomputable def Ho:D->D->Option D:=fun a b=>match b with
 |.none=>some (.bool (!FD a))
 |_=>none
@[simp] theorem Hr(a:D):Lv a .none=some (.bool (FD a)):=rfl
@[simp] theorem EW(a:D):Ho a .none=some (.bool (!FD a)):=rfl
@[simp] theorem Hq:FD .none=true:=rfl
@[simp] theorem II(i:Int):FD (.int i)=false:=rfl
noncomputable def aB:D->D->Option D
 |.list xs,.int i=>lJ xs i
 |.tuple xs,.int i=>lJ xs i
 |_,_=>none
@[simp] theorem Hm(xs:List D)(i:Int):aB (.list xs) (.int i)=lJ xs i:=rfl
@[simp] theorem FC(xs:List D)(i:Int):aB (.tuple xs) (.int i)=lJ xs i:=rfl
theorem kn{α:Type}{xs:List α}{i:Int}{j:Nat}{v:α}(hi:i=j)(h:xs[j]? = some v):lJ xs i=some v:=by
 have hl:j<xs.length:=(List.getElem?_eq_some_iff.mp h).1;subst hi;unfold lJ BZ;rw[if_pos (by omega),if_pos (by omega)];simpa using h
@[simp] theorem KQ{α:Type}(a:α)(r:List α):lJ (a::r) 0=some a:=kn (j:=0) rfl rfl
@[simp] theorem LH{α:Type}(a b:α)(r:List α):lJ (a::b::r) 1=some b:=kn (j:=1) rfl rfl
@[simp] theorem LG{α:Type}(a b c:α)(r:List α):lJ (a::b::c::r) 2=some c:=kn (j:=2) rfl rfl
noncomputable def iO:List D->Option D
 |[.list xs]=>some (.int xs.length)
 |[.tuple xs]=>some (.int xs.length)
 |_=>none
@[simp] theorem oY(xs:List D):iO [.list xs]=some (.int xs.length):=rfl
@[simp] theorem EK(xs:List D):iO [.tuple xs]=some (.int xs.length):=rfl
noncomputable def yT:List D->Option D
 |[.int i,.int j]=>some (.int (if j<i then j else i))
 |_=>none
noncomputable def JI:List D->Option D
 |[.int i,.int j]=>some (.int (if j>i then j else i))
 |_=>none
@[simp] theorem G1(i j:Int):yT [.int i,.int j]=some (.int (if j<i then j else i)):=rfl
@[simp] theorem G5(i j:Int):JI [.int i,.int j]=some (.int (if j>i then j else i)):=rfl
noncomputable def Hu:List D->Option D
 |[.int i]=>some (.int i)
 |[.bool b]=>some (.int (if b then 1 else 0))
 |_=>none
@[simp] theorem Ht(i:Int):Hu [.int i]=some (.int i):=rfl
@[simp] theorem FE(b:Bool):Hu [.bool b]=some (.int (if b then 1 else 0)):=rfl
noncomputable def oU:List D->Option D
 |[.list xs]=>some (.list xs)
 |[.tuple xs]=>some (.list xs)
 |_=>none
@[simp] theorem EG(xs:List D):oU [.list xs]=some (.list xs):=rfl
@[simp] theorem CU(xs:List D):oU [.tuple xs]=some (.list xs):=rfl
noncomputable def bJ:List D->Option D
 |[.list xs]=>some (.tuple xs)
 |[.tuple xs]=>some (.tuple xs)
 |_=>none
@[simp] theorem ri(xs:List D):bJ [.list xs]=some (.tuple xs):=rfl
@[simp] theorem Aw(xs:List D):bJ [.tuple xs]=some (.tuple xs):=rfl
noncomputable def Ii:D->Option D
 |.int i=>some (.int (Builtin.Int.intBits i))
 |_=>none
@[simp] theorem FJ(i:Int):Ii (.int i)=some (.int (Builtin.Int.intBits i)):=rfl
noncomputable def tyN:D->String
 |.none=>"NoneType"
 |.bool _=>"bool"
 |.int _=>"int"
 |.str _=>"str"
 |.list _=>"list"
 |.tuple _=>"tuple"
 |.dict _=>"dict"
noncomputable def EZ(t T:String):Bool:=t==T||(t == "bool" && T == "int")
noncomputable def vU:D->Bool
 |.dict _=>true
 |_=>false
noncomputable def fT(T:String)(d:D):Option D:=if vU d=true then none else if T = "int" \/ T = "bool" \/ T = "str" \/ T = "list" \/ T = "tuple" then some (.bool (EZ (tyN d) T))else none
@[simp] theorem C0(i:Int):fT "int" (.int i)=some (.bool true):=rfl
@[simp] theorem B2(i:Int):fT "bool" (.int i)=some (.bool false):=rfl
@[simp] theorem B1(i:Bool):fT "int" (.bool i)=some (.bool true):=rfl
@[simp] theorem Ao(i:Bool):fT "bool" (.bool i)=some (.bool true):=rfl
@[simp] theorem xJ(xs:List D):fT "tuple" (.tuple xs)=some (.bool true):=rfl
@[simp] theorem An(xs:List D):fT "list" (.list xs)=some (.bool true):=rfl
@[simp] noncomputable def bA(f:Dv->Option D):Sf:=fun δ=>(f δ).bind fun d=>some (.rt d,δ)
@[simp] noncomputable def aI(i:Nat)(f:Dv->Option D):Sf:=fun δ=>(f δ).bind fun d=>some (.nx,δ.set i (.fz d))
@[simp] noncomputable def KH(f:Dv->Option D):Sf:=fun δ=>(f δ).bind fun _=>some (.nx,δ)
@[simp] noncomputable def dS:Sf:=fun δ=>some (.nx,δ)
@[simp] noncomputable def LD:Sf:=fun δ=>some (.bk,δ)
@[simp] noncomputable def LC:Sf:=fun δ=>some (.ct,δ)
@[simp] noncomputable def ap(s t:Sf):Sf:=fun δ=>(s δ).bind fun r=>match r with
 | (.nx,δ')=>t δ'
 |r=>some r
@[simp] noncomputable def bH(t:Dv->Option Bool)(u w:Sf):Sf:=fun δ=>(t δ).bind fun c=>if c=true then u δ else w δ
noncomputable def jM(i:Nat)(δ:Dv):Dv:=match δ[i]? with
 |some (.own (.l ds))=>δ.set i (.fz (.list ds))
 |_=>δ
@[simp] noncomputable def gN(i:Nat):D->Dv->Option Dv:=fun d δ=>some (δ.set i (.fz d))
noncomputable def loop(g:D->Dv->Option Dv)(b:Sf):List D->Sf
 |[],δ=>some (.nx,δ)
 |d::ds,δ=>(g d δ).bind fun δ1=>(b δ1).bind fun r=>match r with
  | (.nx,δ2)=>loop g b ds δ2
  | (.ct,δ2)=>loop g b ds δ2
  | (.bk,δ2)=>some (.nx,δ2)
  | (.rt x,δ2)=>some (.rt x,δ2)
@[simp] theorem Hc(g:D->Dv->Option Dv)(b:Sf)(δ:Dv):loop g b [] δ = some (.nx,δ):=rfl
@[simp] noncomputable def eM(f:Dv->Option (List D))(g:D->Dv->Option Dv)(b:Sf):Sf:=fun δ=>(f δ).bind fun ds=>loop g b ds δ
noncomputable def fN(t:Dv->Option Bool)(b:Sf):Nat->Sf
 | 0,_=>none
 |n+1,δ=>(t δ).bind fun c=>if c=true then(b δ).bind fun r=>match r with
   | (.nx,δ2)=>fN t b n δ2
   | (.ct,δ2)=>fN t b n δ2
   | (.bk,δ2)=>some (.nx,δ2)
   | (.rt x,δ2)=>some (.rt x,δ2)
  else some (.nx,δ)
noncomputable def kM(lo:Int)(n:Nat):List D:=(List.range n).map fun k=>.int (lo+(k:Nat))
noncomputable def ma:List D->Option (List D)
 |[.int j]=>if j<2^62 /\ -(2^62)<=j then some (kM 0 j.toNat)else none
 |_=>none
theorem wQ{j:Int}(h:j<4611686018427387904)(h2:-4611686018427387904<=j):ma [.int j]=some (kM 0 j.toNat):=if_pos ⟨h,h2⟩
@[simp] noncomputable def oL(fs:Dv->Option (List D))(g:List D->Option (List D)):Dv->Option (List D):=fun δ=>(fs δ).bind g
noncomputable def aU:D->Option (List D)
 |.list xs=>some xs
 |.tuple xs=>some xs
 |_=>none
@[simp] theorem xk(xs:List D):aU (.list xs)=some xs:=rfl
@[simp] theorem EU(xs:List D):aU (.tuple xs)=some xs:=rfl
noncomputable def sx:D->Option (List D)
 |.list xs=>some xs
 |_=>none
noncomputable def Jc:D->Option (List D)
 |.tuple xs=>some xs
 |_=>none
@[simp] noncomputable def oI(f:Dv->Option D)(g:D->Option (List D)):Dv->Option (List D):=fun δ=>(f δ).bind g
@[simp] noncomputable def se:Dv->Option (Option Int):=fun _=>some none
noncomputable def asI:D->Option (Option Int)
 |.int i=>some (some i)
 |_=>none
@[simp] theorem IR(i:Int):asI (.int i)=some (some i):=rfl
@[simp] noncomputable def oP(f:Dv->Option D):Dv->Option (Option Int):=fun δ=>(f δ).bind asI
noncomputable def cutD(xs:List D)(lo hi:Option Int):List D:=(xs.drop (HT.sIx xs.length 0 lo)).take (HT.sIx xs.length xs.length hi-HT.sIx xs.length 0 lo)
noncomputable def ue:D->Option Int->Option Int->Option D
 |.list xs,lo,hi=>some (.list (cutD xs lo hi))
 |.tuple xs,lo,hi=>some (.tuple (cutD xs lo hi))
 |_,_,_=>none
@[simp] noncomputable def nN(f:Dv->Option D)(l u:Dv->Option (Option Int)):Dv->Option D:=fun δ=>(f δ).bind fun x=>(l δ).bind fun i=>(u δ).bind fun j=>ue x i j
noncomputable def az(N:List Str)(as:List D):Dv:=as.map .fz++List.replicate (N.length-as.length) .un
noncomputable def aR(N:List Str)(n:Nat)(b:Sf):List D->Option D:=fun as=>if as.length=n then(b (az N as)).bind fun r=>match r with
  | (.rt d,_)=>some d
  | (.nx,_)=>some .none
  |_=>none
 else none
theorem vG{g:D->Dv->Option Dv}{b:Sf}(I:Dv->Prop):∀(ds:List D),(∀d∈ds,∀ δ,I δ -> ∃ δ1,g d δ = some δ1/\∃ δ2,b δ1=some (.nx,δ2)/\I δ2)->∀ δ,I δ -> ∃ δ',loop g b ds δ = some (.nx,δ')/\I δ'
 |[],_,δ,hI=>⟨δ,rfl,hI⟩
 |d::ds,h,δ,hI=>by
  obtain⟨δ1,e1,δ2,e2,h2⟩:=h d List.mem_cons_self δ hI;obtain⟨δ',e3,h3⟩:=vG I ds (fun d hd=>h d (List.mem_cons_of_mem _ hd)) δ2 h2
  refine⟨δ',?_,h3⟩;rw[loop,e1];show(b δ1).bind _=_;rw[e2];exact e3
end VL
namespace VL
open PySem PySem.Spec PyProof.Rows L2
open PySem.W (codeIn excIn findIn hideAll keepIn kia_one mg_of mroIn of_hideAll subIn)
open List (all_cons getElem?_append_left getElem?_append_right getElem?_map getElem?_replicate getElem?_set_ne getElem?_set_self lookup_cons mem_append_right size_toArray)
open Nat (le_refl lt_irrefl lt_of_lt_of_le ne_of_lt zero_le)
open PySem.Heap (get?_push_of_some get?_push_size get?_update_other lt_size)
open Option (getD_some)
abbrev Fg:=PySem.W.Frag
abbrev St:=L2.St
noncomputable def n9(a C:Addr):HO:=.ext fun h=>∃o,h.get? a=some o/\o.cls=.ref C/\∃vs,o.data=.fields vs/\vs[2]? = some .none
theorem Rd.same{H H':Hp}{a:Addr}{u:HO}(h:Rd H a u)(s:Same H H'):Rd H' a u:=by
 rcases h with h|⟨o,h⟩
 ·exact .inl (s _ _ h)
 ·exact .inr ⟨o,s _ _ h⟩
inductive FI (K:Fg) (Z:Hp):V->D->Prop
 |int (i:Int):FI K Z (.int i) (.int i)
 |pair {b:Addr} {i j:Int}:SqT K Z b [.int i,.int j]->FI K Z (.ref b) (.tuple [.int i,.int j])
inductive FF (K:Fg) (Z:Hp):V->D->Prop
 |int (i:Int):FF K Z (.int i) (.int i)
 |lst {b:Addr} {xs:List V} {ds:List D}:Z b=some (.lst xs)->Paired (FI K Z) xs ds->FF K Z (.ref b) (.list ds)
inductive Opq (K:Fg) (Z:Hp) (a:Addr):List (D×D)->Prop
 |exc {n:Str} {C:Addr}:PySem.W.nsIn K mainGlobals n=some (some (.ref C))->Rd Z a (n9 a C)->Opq K Z a [(.str "exc",.str n)]
 |fn {n:Str}:PySem.W.nsIn K mainGlobals n=some (some (.ref a))->Opq K Z a [(.str "fn",.str n)]
 |ins {n:Str} {C dx:Addr} {fs:List (Str×V)} {ds:List (Str×D)}:PySem.W.nsIn K mainGlobals n=some (some (.ref C))->Z a=some (.ins C dx fs)->Paired (fun(p:Str×V) (q:Str×D)=>p.1=q.1/\FF K Z p.2 q.2) fs ds->Opq K Z a (JW n ds)
 |dct {kvs:List (D×D)} {es:List (aG×Int)}:kvs=dctD es->Z a=some (.dK (es.map fun p=>(p.1,V.int p.2)))->Opq K Z a kvs
theorem wg{es:List (aG×Int)}{a:D}{x:Str}{r:List (D×D)}(h:(a,PyData.str x)::r=dctD es):False:=by
 cases es with
 |nil=>cases h
 |cons e es=>simp[dctD]at h
theorem SqT.same{K:Fg}{H H':Hp}{a:Addr}{xs:List V}(h:SqT K H a xs)(s:Same H H'):SqT K H' a xs:=by
 rcases h with h|h
 ·exact .inl (Rd.same h s)
 ·exact .inr h
theorem FI.same{K:Fg}{Z Z':Hp}(s:Same Z Z'){v:V}{d:D}(h:FI K Z v d):FI K Z' v d:=by
 cases h with
 |int i=>exact .int i
 |pair q=>exact .pair (SqT.same q s)
theorem FF.same{K:Fg}{Z Z':Hp}(s:Same Z Z'){v:V}{d:D}(h:FF K Z v d):FF K Z' v d:=by
 cases h with
 |int i=>exact .int i
 |lst q r=>exact .lst (s _ _ q) (Paired.mapP r fun _ _=>FI.same s)
theorem Opq.same{K:Fg}{Z Z':Hp}{a:Addr}{kvs:List (D×D)}(s:Same Z Z')(h:Opq K Z a kvs):Opq K Z' a kvs:=by
 cases h with
 |exc h1 h2=>exact .exc h1 (Rd.same h2 s)
 |fn h1=>exact .fn h1
 |ins h1 h2 h3=>exact .ins h1 (s _ _ h2) (Paired.mapP h3 fun _ _ q=>⟨q.1,q.2.same s⟩)
 |dct h1 h2=>exact .dct h1 (s _ _ h2)
mutual
inductive Rep (K:Fg) (Z:Hp):V->D->Prop
 |non:Rep K Z .non .none
 |bl (b:Bool):Rep K Z (.bl b) (.bool b)
 |int (i:Int):Rep K Z (.int i) (.int i)
 |str (x:Str):Rep K Z (.str x) (.str x)
 |tup {a:Addr} {xs:List V} {ds:List D}:SqT K Z a xs->Reps K Z xs ds->Rep K Z (.ref a) (.tuple ds)
 |lst {a:Addr} {xs:List V} {ds:List D}:SqL K Z a xs->Reps K Z xs ds->Rep K Z (.ref a) (.list ds)
 |opq {a:Addr} {kvs:List (D×D)}:Opq K Z a kvs->Rep K Z (.ref a) (.dict kvs)
 |gdc {a:Addr} {kvs:List (aG×V)} {es:List (aG×D)} {l:List (D×D)}:Z a=some (.dK kvs)->es.map (·.1)=kvs.map (·.1)->Reps K Z (kvs.map (·.2)) (es.map (·.2))->l=es.map (fun p=>(vT p.1,p.2))->Rep K Z (.ref a) (.dict ((.none,.none)::l))
inductive Reps (K:Fg) (Z:Hp):List V->List D->Prop
 |nil:Reps K Z [] []
 |cons {v:V} {d:D} {vs:List V} {ds:List D}:Rep K Z v d->Reps K Z vs ds->Reps K Z (v::vs) (d::ds)
end
theorem SqL.same{K:Fg}{H H':Hp}{a:Addr}{xs:List V}(h:SqL K H a xs)(s:Same H H'):SqL K H' a xs:=by
 rcases h with h|h
 ·exact .inl (Rd.same h s)
 ·exact .inr h
mutual
theorem Rep.same{K:Fg}{Z Z':Hp}(s:Same Z Z'):∀{v:V} {d:D},Rep K Z v d->Rep K Z' v d
 |_,_,.non=>.non
 |_,_,.bl b=>.bl b
 |_,_,.int i=>.int i
 |_,_,.str x=>.str x
 |_,_,.tup h r=>.tup (SqT.same h s) (Reps.same s r)
 |_,_,.lst h r=>.lst (SqL.same h s) (Reps.same s r)
 |_,_,.opq h=>.opq (Opq.same s h)
 |_,_,.gdc h k r e=>.gdc (s _ _ h) k (Reps.same s r) e
theorem Reps.same{K:Fg}{Z Z':Hp}(s:Same Z Z'):∀{vs:List V} {ds:List D},Reps K Z vs ds->Reps K Z' vs ds
 |_,_,.nil=>.nil
 |_,_,.cons h r=>.cons (Rep.same s h) (Reps.same s r)
end
theorem Reps.length{K:Fg}{Z:Hp}:∀{vs:List V} {ds:List D},Reps K Z vs ds->vs.length=ds.length
 |_,_,.nil=>rfl
 |_,_,.cons _ r=>congrArg (· + 1) (Reps.length r)
theorem Reps.get{K:Fg}{Z:Hp}:∀{vs:List V} {ds:List D} {i:Nat} {d:D},Reps K Z vs ds->ds[i]? = some d->∃v,vs[i]? = some v/\Rep K Z v d
 |_,_,_,_,.nil,e=>by simp at e
 |_,_,0,_,.cons r _,e=>by simp at e;subst e;exact⟨_,rfl,r⟩
 |_,_,i+1,d,.cons _ t,e=>by
  obtain⟨u,h1,h2⟩:=Reps.get (i:=i) (d:=d) t (by simpa using e);exact⟨u,by simpa using h1,h2⟩
theorem Reps.getV{K:Fg}{Z:Hp}:∀{vs:List V} {ds:List D} {i:Nat} {v:V},Reps K Z vs ds->vs[i]? = some v->∃d,ds[i]? = some d/\Rep K Z v d
 |_,_,_,_,.nil,e=>by simp at e
 |_,_,0,_,.cons r _,e=>by simp at e;subst e;exact⟨_,rfl,r⟩
 |_,_,i+1,v,.cons _ t,e=>by
  obtain⟨u,h1,h2⟩:=Reps.getV (i:=i) (v:=v) t (by simpa using e);exact⟨u,by simpa using h1,h2⟩
theorem Reps.set{K:Fg}{Z:Hp}{x:V}{u:D}(r:Rep K Z x u):∀{xs:List V} {us:List D} (i:Nat),Reps K Z xs us->Reps K Z (xs.set i x) (us.set i u)
 |_,_,_,.nil=>.nil
 |_,_,0,.cons _ t=>.cons r t
 |_,_,i+1,.cons q t=>.cons q (Reps.set r i t)
theorem Reps.append{K:Fg}{Z:Hp}:∀{xs ys:List V} {us ws:List D},Reps K Z xs us->Reps K Z ys ws->Reps K Z (xs++ys) (us++ws)
 |_,_,_,_,.nil,s=>s
 |_,_,_,_,.cons r t,s=>.cons r (Reps.append t s)
theorem Reps.take{K:Fg}{Z:Hp}:∀{xs:List V} {us:List D} (n:Nat),Reps K Z xs us->Reps K Z (xs.take n) (us.take n)
 |_,_,0,_=>.nil
 |_,_,_+1,.nil=>.nil
 |_,_,n+1,.cons r t=>.cons r (Reps.take n t)
theorem Reps.drop{K:Fg}{Z:Hp}:∀{xs:List V} {us:List D} (n:Nat),Reps K Z xs us->Reps K Z (xs.drop n) (us.drop n)
 |_,_,0,r=>r
 |_,_,_+1,.nil=>.nil
 |_,_,n+1,.cons _ t=>Reps.drop n t
theorem Rep.int_eq{K:Fg}{Z:Hp}{v:V}{i:Int}(h:Rep K Z v (.int i)):v=.int i:=by cases h;rfl
theorem Rep.bl_eq{K:Fg}{Z:Hp}{v:V}{b:Bool}(h:Rep K Z v (.bool b)):v=.bl b:=by cases h;rfl
theorem Reps.ints{K:Fg}{Z:Hp}:∀ns:List Int,Reps K Z (ns.map V.int) (ns.map PyData.int)
 |[]=>.nil
 |n::r=>.cons (.int n) (Reps.ints r)
mutual
theorem Rep.reads{X:Cx}{pins:List (Addr×Obj)}{σ:St}{H Z:Hp}{s:Shared}(I:Inv X pins σ H s)(zh:Same Z H):∀{v:V} {d:D} {u:Value},Rep X.K Z v d->RelV v u->d.canLay0=true->∃as,Reads s.heap u d as
 |_,_,u,.non,r,_=>by cases(show u=Value.none from r);exact⟨_,.none⟩
 |_,_,u,.bl b,r,_=>by cases(show u=Value.bool b from r);exact⟨_,.bool b⟩
 |_,_,u,.int i,r,_=>by obtain⟨t,rfl⟩:=(show ∃t,u=Value.int i t from r);exact⟨_,.int i t⟩
 |_,_,u,.str x,r,_=>by obtain⟨t,rfl⟩:=(show ∃t,u=Value.str x t from r);exact⟨_,.str x t⟩
 |_,_,u,.tup (a:=a) h q,r,hc=>by
  cases(show u=Value.ref a from r);obtain⟨its,rv,ht,_⟩:=I.tuple (SqT.same h zh);obtain⟨as,ra⟩:=Reps.reads I zh q rv hc;obtain⟨o,e,c,n,dd⟩:=ht;exact⟨_,reads_tuple_at e c dd (by simpa using ra)⟩
 |_,_,u,.lst (a:=a) h q,r,hc=>by
  cases(show u=Value.ref a from r);obtain⟨its,rv,ht,_⟩:=I.list (SqL.same h zh);obtain⟨as,ra⟩:=Reps.reads I zh q rv hc;obtain⟨o,n,e,c,_,dd⟩:=ht;exact⟨_,reads_list_at e c dd (by simpa using ra)⟩
 |_,_,u,.opq h,r,hc=>by cases hc
 |_,_,u,.gdc h k q e,r,hc=>by cases hc
theorem Reps.reads{X:Cx}{pins:List (Addr×Obj)}{σ:St}{H Z:Hp}{s:Shared}(I:Inv X pins σ H s)(zh:Same Z H):∀{vs:List V} {ds:List D} {us:List Value},Reps X.K Z vs ds->Vals vs us->PyData.canLayAll0 ds=true->∃as,ReadsAll s.heap us ds as
 |_,_,_,.nil,.nil,_=>⟨_,.nil⟩
 |_,_,_,.cons h q,.cons r t,hc=>by
  have hc':=Bool.and_eq_true_iff.mp hc;obtain⟨as,ha⟩:=Rep.reads I zh h r hc'.1;obtain⟨bs,hb⟩:=Reps.reads I zh q t hc'.2;exact⟨_,.cons ha hb⟩
end
noncomputable def BD:HO->Bool
 |.frz _ (.lst _)=>false
 |_=>true
def NoF(Z Z':Hp):Prop:=∀b o xs,Z' b=some (.frz o (.lst xs))->Z b=some (.frz o (.lst xs))
theorem NoF.refl(Z:Hp):NoF Z Z:=fun _ _ _ e=>e
theorem NoF.trans{Z Z1 Z2:Hp}(a:NoF Z Z1)(b:NoF Z1 Z2):NoF Z Z2:=fun c o xs e=>a c o xs (b c o xs e)
theorem NoF.upd{Z Z':Hp}(a:NoF Z Z')(p:Addr){u:HO}(hu:BD u=true:=by rfl):NoF Z (upd Z' p u):=fun b o xs e=>by
 by_cases hb:b=p
 ·subst hb
  rw[ay]at e;cases e;cases hu
 ·rw[au hb]at e
  exact a b o xs e
structure New (Z H Z' H':Hp):Prop where
 z:Same Z Z'
 h:Same H H'
 zh:Same Z' H'
 o:∀b,H b≠none->Z' b=Z b
 nf:NoF Z Z'
theorem New.refl{Z H:Hp}(zh:Same Z H):New Z H Z H:=⟨Same.refl _,Same.refl _,zh,fun _ _=>rfl,NoF.refl _⟩
theorem New.trans{Z H Z1 H1 Z2 H2:Hp}(a:New Z H Z1 H1)(b:New Z1 H1 Z2 H2):New Z H Z2 H2:=
 ⟨a.z.trans b.z,a.h.trans b.h,b.zh,fun c hc=>by
  have:H1 c≠none:=by
   cases e:H c with
   |none=>exact absurd e hc
   |some o=>rw[a.h c o e];intro z;cases z
  rw[b.o c this,a.o c hc],a.nf.trans b.nf⟩
theorem di{H:Hp}{p:Addr}{o:HO}(h:H p=none):Same H (upd H p o):=fun b u e=>by
 rw[au (aH e h)];exact e
theorem jH{Z H:Hp}(zh:Same Z H){p:Addr}(h:H p=none):Z p=none:=by
 cases e:Z p with
 |none=>rfl
 |some o=>rw[zh p o e]at h;cases h
theorem New.add{Z H:Hp}(zh:Same Z H){p:Addr}(hp:H p=none)(o:HO)(hf:BD o=true:=by rfl):New Z H (upd Z p o) (upd H p o) where
 nf:=(NoF.refl Z).upd p hf
 z:=di (jH zh hp)
 h:=di hp
 zh:=fun b u e=>by
  by_cases hb:b=p
  ·subst hb;rw[ay]at e ⊢;exact e
  ·rw[au hb]at e ⊢;exact zh b u e
 o:=fun b hb=>by
  have:b≠p:=fun z=>hb (z ▸ hp)
  rw[au this]
def io(K:Fg)(Z:Hp)(kvs:List (aG×V))(es:List (aG×D)):Prop:=es.map (·.1)=kvs.map (·.1)/\Reps K Z (kvs.map (·.2)) (es.map (·.2))
inductive OwR (K:Fg) (Z:Hp):HO->Oc->Prop
 |lst {xs:List V} {ds:List D}:Reps K Z xs ds->OwR K Z (.lst xs) (.l ds)
 |dct {kvs:List (aG×V)} {es:List (aG×D)}:io K Z kvs es->OwR K Z (.dK kvs) (.d es)
theorem OwR.same{K:Fg}{Z Z':Hp}{o:HO}{c:Oc}(h:OwR K Z o c)(s:Same Z Z'):OwR K Z' o c:=by
 cases h with
 |lst r=>exact .lst (r.same s)
 |dct r=>exact .dct ⟨r.1,r.2.same s⟩
def FrOk(K:Fg)(H₀ Z₀ Z:Hp)(δ:Dv)(σ:St):Prop:=∀(i:Nat) ds,δ[i]? = some (.fr ds)->∃a xs,σ[i]? = some (some (.ref a))/\H₀ a=none/\Z₀ a=none/\Z a=some (.lst xs)/\Reps K Z xs ds
theorem FrOk.same{K:Fg}{H₀ Z₀ Z Z':Hp}{δ:Dv}{σ:St}(h:FrOk K H₀ Z₀ Z δ σ)(s:Same Z Z'):FrOk K H₀ Z₀ Z' δ σ:=fun i ds e=>
 let ⟨a,xs,h1,h2,h3,h4,h5⟩:=h i ds e; ⟨a,xs,h1,h2,h3,s _ _ h4,h5.same s⟩
theorem FrOk.put{K:Fg}{H₀ Z₀ Z:Hp}{δ:Dv}{σ σ':St}(h:FrOk K H₀ Z₀ Z δ σ){i:Nat}{x:Sl}(hx:∀ds,x≠Sl.fr ds)(hs:∀j:Nat,i≠j -> σ'[j]? = σ[j]?):FrOk K H₀ Z₀ Z (δ.set i x) σ':=fun j ds e=>by
 by_cases hj:i=j
 ·subst hj
  have hl:i < δ.length:=by have:=(List.getElem?_eq_some_iff.mp e).1;simpa using this
  rw[getElem?_set_self hl]at e;exact absurd (Option.some.inj e) (hx ds)
 ·rw[getElem?_set_ne hj]at e
  obtain⟨a,xs,h1,r⟩:=h j ds e;exact⟨a,xs,by rw[hs j hj];exact h1,r⟩
structure Hold (K:Fg) (H₀ Z₀ Z:Hp) (δ:Dv) (σ:St) (H:Hp):Prop where
 zh:Same Z H
 h0:Same H₀ H
 z0:Same Z₀ Z
 zb:∀b,H₀ b≠none->Z b=Z₀ b
 len:δ.length = σ.length
 fz:∀(i:Nat) d,δ[i]? = some (.fz d)->∃v,σ[i]? = some (some v)/\Rep K Z v d
 own:∀(i:Nat) c,δ[i]? = some (.own c)->∃a o,σ[i]? = some (some (.ref a))/\H₀ a=none/\Z a=none/\H a=some o/\OwR K Z o c
 dja:∀(i j:Nat) c c' a,i≠j -> δ[i]? = some (.own c) -> δ[j]? = some (.own c') -> σ[i]? = some (some (.ref a)) -> σ[j]? ≠ some (some (V.ref a))
 fr:FrOk K H₀ Z₀ Z δ σ
 nf:NoF Z₀ Z
section
variable{K:Fg}{H₀ Z₀ Z Z' H H':Hp}{δ:Dv}{σ:St}
theorem Hold.ow(h:Hold K H₀ Z₀ Z δ σ H)(i:Nat)(ds:List D)(e:δ[i]? = some (.ow ds)):∃a xs,σ[i]? = some (some (.ref a))/\H₀ a=none/\Z a=none/\H a=some (.lst xs)/\Reps K Z xs ds:=by
 obtain⟨a,o,h1,h2,h3,h4,h5⟩:=h.own i _ e;cases h5 with
 |lst r=>exact⟨a,_,h1,h2,h3,h4,r⟩
theorem Hold.od(h:Hold K H₀ Z₀ Z δ σ H)(i:Nat)(es:List (aG×D))(e:δ[i]? = some (.od es)):∃a kvs,σ[i]? = some (some (.ref a))/\H₀ a=none/\Z a=none/\H a=some (.dK kvs)/\io K Z kvs es:=by
 obtain⟨a,o,h1,h2,h3,h4,h5⟩:=h.own i _ e;cases h5 with
 |dct r=>exact⟨a,_,h1,h2,h3,h4,r⟩
theorem Hold.new(h:Hold K H₀ Z₀ Z δ σ H)(n:New Z H Z' H'):Hold K H₀ Z₀ Z' δ σ H' where
 zh:=n.zh
 h0:=h.h0.trans n.h
 z0:=h.z0.trans n.z
 zb:=fun b hb=>by
  have:H b≠none:=by
   cases e:H₀ b with
   |none=>exact absurd e hb
   |some o=>rw[h.h0 b o e];intro z;cases z
  rw[n.o b this,h.zb b hb]
 len:=h.len
 fz:=fun i d e=>let ⟨v,a,r⟩:=h.fz i d e; ⟨v,a,r.same n.z⟩
 own:=fun i ds e=>by
  obtain⟨a,xs,h1,h2,h3,h4,h5⟩:=h.own i ds e;exact⟨a,xs,h1,h2,by rw[n.o a (by rw[h4];intro z;cases z)];exact h3,n.h a _ h4,h5.same n.z⟩
 dja:=h.dja
 fr:=h.fr.same n.z
 nf:=h.nf.trans n.nf
theorem Hold.set(h:Hold K H₀ Z₀ Z δ σ H){i:Nat}{v:V}{d:D}(r:Rep K Z v d):Hold K H₀ Z₀ Z (δ.set i (.fz d)) (σ.set i (some v)) H where
 zh:=h.zh
 h0:=h.h0
 z0:=h.z0
 zb:=h.zb
 len:=by simp[h.len]
 fz:=fun j e q=>by
  by_cases hj:i=j
  ·subst hj
   have hl:i < δ.length:=by
    have:=(List.getElem?_eq_some_iff.mp q).1;simpa using this
   rw[getElem?_set_self hl]at q;cases q;exact⟨v,getElem?_set_self (by rw[<-h.len];exact hl),r⟩
  ·rw[getElem?_set_ne hj]at q
   obtain⟨u,a,b⟩:=h.fz j e q;exact⟨u,by rw[getElem?_set_ne hj];exact a,b⟩
 own:=fun j es q=>by
  by_cases hj:i=j
  ·subst hj
   have hl:i < δ.length:=by
    have:=(List.getElem?_eq_some_iff.mp q).1;simpa using this
   rw[getElem?_set_self hl]at q;cases q
  ·rw[getElem?_set_ne hj]at q ⊢
   exact h.own j es q
 dja:=fun j k ds es a hjk q1 q2=>by
  by_cases hj:i=j
  ·subst hj
   have hl:i < δ.length:=by
    have:=(List.getElem?_eq_some_iff.mp q1).1;simpa using this
   rw[getElem?_set_self hl]at q1;cases q1
  ·by_cases hk:i=k
   ·subst hk
    have hl:i < δ.length:=by
     have:=(List.getElem?_eq_some_iff.mp q2).1;simpa using this
    rw[getElem?_set_self hl]at q2;cases q2
   ·rw[getElem?_set_ne hj]at q1
    rw[getElem?_set_ne hk]at q2;rw[getElem?_set_ne hj,getElem?_set_ne hk];exact h.dja j k ds es a hjk q1 q2
 fr:=h.fr.put (fun _ z=>nomatch z) fun _ hj=>getElem?_set_ne hj
 nf:=h.nf
theorem Hold.setW(h:Hold K H₀ Z₀ Z δ σ H){i:Nat}{p:Addr}{o:HO}{c:Oc}(hp:H p=none)(r:OwR K Z o c):Hold K H₀ Z₀ Z (δ.set i (.own c)) (σ.set i (some (.ref p))) (upd H p o) where
 zh:=h.zh.trans (di hp)
 h0:=h.h0.trans (di hp)
 z0:=h.z0
 zb:=h.zb
 len:=by simp[h.len]
 fz:=fun j e q=>by
  by_cases hj:i=j
  ·subst hj
   have hl:i < δ.length:=by
    have:=(List.getElem?_eq_some_iff.mp q).1;simpa using this
   rw[getElem?_set_self hl]at q;cases q
  ·rw[getElem?_set_ne hj]at q
   obtain⟨u,a,b⟩:=h.fz j e q;exact⟨u,by rw[getElem?_set_ne hj];exact a,b⟩
 own:=fun j es q=>by
  by_cases hj:i=j
  ·subst hj
   have hl:i < δ.length:=by
    have:=(List.getElem?_eq_some_iff.mp q).1;simpa using this
   rw[getElem?_set_self hl]at q;cases q;exact⟨p,o,getElem?_set_self (by rw[<-h.len];exact hl),jH h.h0 hp,jH h.zh hp,ay,r⟩
  ·rw[getElem?_set_ne hj]at q ⊢
   obtain⟨a,ys,h1,h2,h3,h4,h5⟩:=h.own j es q;exact⟨a,ys,h1,h2,h3,by rw[au (aH h4 hp)];exact h4,h5⟩
 dja:=fun j k ds es a hjk q1 q2=>by
  have old:∀{m:Nat} {fs:Oc},δ[m]? = some (.own fs) -> σ[m]? ≠ some (some (V.ref p)):=fun{m fs} q z=>by
   obtain⟨b,ys,h1,h2,h3,h4,h5⟩:=h.own m fs q;rw[h1]at z;cases z;rw[hp]at h4;cases h4
  have hl:∀{m:Nat} {x:Sl},(δ.set i x)[m]? ≠ none->m < σ.length:=fun{m x} q=>by
   have:m<(δ.set i x).length:=by
    rcases Nat.lt_or_ge m (δ.set i x).length with g|g
    ·exact g
    ·exact absurd (List.getElem?_eq_none_iff.mpr g) q
   rw[<-h.len];simpa using this
  by_cases hj:i=j
  ·subst hj
   have h1:i < σ.length:=hl (by rw[q1];intro z;cases z);rw[getElem?_set_self h1];intro e;cases e;rw[getElem?_set_ne hjk]at q2 ⊢;exact old q2
  ·rw[getElem?_set_ne hj]at q1 ⊢
   by_cases hk:i=k
   ·subst hk
    have h1:i < σ.length:=hl (by rw[q2];intro z;cases z);intro e z;rw[getElem?_set_self h1]at z;cases z;exact old q1 e
   ·rw[getElem?_set_ne hk]at q2 ⊢
    exact h.dja j k ds es a hjk q1 q2
 fr:=h.fr.put (fun _ z=>nomatch z) fun _ hj=>getElem?_set_ne hj
 nf:=h.nf
theorem Hold.setO(h:Hold K H₀ Z₀ Z δ σ H){i:Nat}{p:Addr}{xs:List V}{ds:List D}(hp:H p=none)(r:Reps K Z xs ds):Hold K H₀ Z₀ Z (δ.set i (.ow ds)) (σ.set i (some (.ref p))) (upd H p (.lst xs)):=h.setW hp (.lst r)
theorem Hold.chgW(h:Hold K H₀ Z₀ Z δ σ H){i:Nat}{p:Addr}{o:HO}{ds es:Oc}(e:δ[i]? = some (.own ds))(ep:σ[i]? = some (some (.ref p)))(r:OwR K Z o es):Hold K H₀ Z₀ Z (δ.set i (.own es)) σ (upd H p o):=by
 obtain⟨a,zs,h1,h2,h3,h4,h5⟩:=h.own i ds e;rw[ep]at h1;cases h1;have hl:i < δ.length:=(List.getElem?_eq_some_iff.mp e).1;refine⟨fun b o' q=>?_,fun b o' q=>?_,h.z0,h.zb,by simp[h.len],fun j d q=>?_,fun j d q=>?_,fun j k d1 d2 a hjk q1 q2=>?_,h.fr.put (fun _ z=>nomatch z) fun _ _=>rfl,h.nf⟩
 ·rw[au (aH q h3)];exact h.zh b o' q
 ·rw[au (aH q h2)];exact h.h0 b o' q
 ·by_cases hj:i=j
  ·subst hj
   rw[getElem?_set_self hl]at q;cases q
  ·rw[getElem?_set_ne hj]at q
   exact h.fz j d q
 ·by_cases hj:i=j
  ·subst hj
   rw[getElem?_set_self hl]at q;cases q;exact⟨p,o,ep,h2,h3,ay,r⟩
  ·rw[getElem?_set_ne hj]at q
   obtain⟨b,ws,g1,g2,g3,g4,g5⟩:=h.own j d q;refine⟨b,ws,g1,g2,g3,?_,g5⟩;have:b≠p:=fun z=>by subst z;exact h.dja i j ds d b hj e q ep g1
   rw[au this];exact g4
 ·have f:∀{m:Nat} {dm:Oc},(δ.set i (.own es))[m]? = some (.own dm)->∃dm',δ[m]? = some (.own dm'):=fun{m dm} q=>by
   by_cases hm:i=m
   ·subst hm;exact⟨ds,e⟩
   ·rw[getElem?_set_ne hm]at q;exact⟨dm,q⟩
  obtain⟨e1,g1⟩:=f q1;obtain⟨e2,g2⟩:=f q2;exact h.dja j k e1 e2 a hjk g1 g2
theorem Hold.chg(h:Hold K H₀ Z₀ Z δ σ H){i:Nat}{p:Addr}{xs ys:List V}{ds es:List D}(e:δ[i]? = some (.ow ds))(ep:σ[i]? = some (some (.ref p)))(r:Reps K Z ys es):Hold K H₀ Z₀ Z (δ.set i (.ow es)) σ (upd H p (.lst ys)):=h.chgW e ep (.lst r)
theorem Hold.frz(h:Hold K H₀ Z₀ Z δ σ H){i:Nat}{ds:List D}(e:δ[i]? = some (.ow ds)):∃Z',Same Z Z'/\Hold K H₀ Z₀ Z' (δ.set i (.fz (.list ds))) σ H:=by
 obtain⟨a,xs,h1,h2,h3,h4,h5⟩:=h.ow i ds e;have hl:i < δ.length:=(List.getElem?_eq_some_iff.mp e).1;have sz:Same Z (upd Z a (.lst xs)):=di h3;refine⟨upd Z a (.lst xs),sz,fun b o q=>?_,h.h0,h.z0.trans sz,fun b hb=>?_,by simp[h.len],fun j d q=>?_,fun j d q=>?_,fun j k d1 d2 b hjk q1 q2=>?_,(h.fr.same sz).put (fun _ z=>nomatch z) fun _ _=>rfl,h.nf.upd a⟩
 ·by_cases hb:b=a
  ·subst hb;rw[ay]at q;cases q;exact h4
  ·rw[au hb]at q;exact h.zh b o q
 ·rw[au (fun z=>hb (by rw[z];exact h2))];exact h.zb b hb
 ·by_cases hj:i=j
  ·subst hj
   rw[getElem?_set_self hl]at q;cases q;exact⟨.ref a,h1,.lst (SqL.of ay) (h5.same sz)⟩
  ·rw[getElem?_set_ne hj]at q
   obtain⟨v,g1,g2⟩:=h.fz j d q;exact⟨v,g1,g2.same sz⟩
 ·by_cases hj:i=j
  ·subst hj
   rw[getElem?_set_self hl]at q;cases q
  ·rw[getElem?_set_ne hj]at q
   obtain⟨b,ws,g1,g2,g3,g4,g5⟩:=h.own j d q;have:b≠a:=fun z=>by subst z;exact h.dja i j _ d b hj e q h1 g1
   exact⟨b,ws,g1,g2,by rw[au this];exact g3,g4,g5.same sz⟩
 ·by_cases hj:i=j
  ·subst hj
   rw[getElem?_set_self hl]at q1;cases q1
  ·by_cases hk:i=k
   ·subst hk
    rw[getElem?_set_self hl]at q2;cases q2
   ·rw[getElem?_set_ne hj]at q1
    rw[getElem?_set_ne hk]at q2;exact h.dja j k d1 d2 b hjk q1 q2
end
def tV(K:Fg)(f:Dv->Option D):TE:=fun σ H Q=>∃H₀ Z₀ Z δ d,Hold K H₀ Z₀ Z δ σ H/\f δ = some d/\∀v Z' H',Hold K H₀ Z₀ Z' δ σ H'->Same Z Z'->Rep K Z' v d->Q v H'
def CI(K:Fg)(f:Dv->Option Bool):TT:=fun σ H Q=>∃H₀ Z₀ Z δ b,Hold K H₀ Z₀ Z δ σ H/\f δ = some b/\∀Z' H',Hold K H₀ Z₀ Z' δ σ H'->Same Z Z'->Q b H'
def KE(K:Fg)(f:Dv->Option (List D)):TA:=fun σ H Q=>∃H₀ Z₀ Z δ ds,Hold K H₀ Z₀ Z δ σ H/\f δ = some ds/\∀vs Z' H',Hold K H₀ Z₀ Z' δ σ H'->Same Z Z'->Reps K Z' vs ds->Q vs H'
def Fl.to(K:Fg)(Z:Hp)(D:Ends)(σ:St)(H:Hp):Fl->Prop
 |.nx=>D.nx σ H
 |.bk=>D.bk σ H
 |.ct=>D.ct σ H
 |.rt d=>∀v,Rep K Z v d->D.rt v H
def CJ(K:Fg)(f:Dv->Option (Fl×Dv)):TS:=fun D σ H=>∃H₀ Z₀ Z δ r,Hold K H₀ Z₀ Z δ σ H/\f δ = some r/\∀ σ' H' Z',Hold K H₀ Z₀ Z' r.2 σ' H'->Same Z Z'->r.1.to K Z' D σ' H'
def EV(X:Cx)(e:Expr)(f:Dv->Option D):Prop:=PE X e (tV X.K f)
def TV(X:Cx)(e:Expr)(f:Dv->Option Bool):Prop:=PT X e (CI X.K f)
def AV(X:Cx)(es:List Expr)(f:Dv->Option (List D)):Prop:=PA X es (KE X.K f)
def SV(X:Cx)(st:Stmt)(f:Dv->Option (Fl×Dv)):Prop:=PS X st (CJ X.K f)
def BV(X:Cx)(st:List Stmt)(f:Dv->Option (Fl×Dv)):Prop:=PSs X st (CJ X.K f)
theorem PE.imp{X:Cx}{e:Expr}{t t':TE}(h:PE X e t)(i:∀ σ H Q,t' σ H Q->t σ H Q):PE X e t':=fun pins s σ H Q I hw=>h pins s σ H Q I (i _ _ _ hw)
theorem PT.imp{X:Cx}{e:Expr}{t t':TT}(h:PT X e t)(i:∀ σ H Q,t' σ H Q->t σ H Q):PT X e t':=fun pins s σ H Q I hw=>h pins s σ H Q I (i _ _ _ hw)
theorem PA.imp{X:Cx}{es:List Expr}{t t':TA}(h:PA X es t)(i:∀ σ H Q,t' σ H Q->t σ H Q):PA X es t':=fun pos pins s σ H Q I hw=>h pos pins s σ H Q I (i _ _ _ hw)
theorem PS.imp{X:Cx}{st:Stmt}{t t':TS}(h:PS X st t)(i:∀D σ H,t' D σ H->t D σ H):PS X st t':=fun pins s σ H D I hw=>h pins s σ H D I (i _ _ _ hw)
theorem PSs.imp{X:Cx}{st:List Stmt}{t t':TS}(h:PSs X st t)(i:∀D σ H,t' D σ H->t D σ H):PSs X st t':=fun pins s σ H D I hw=>h pins s σ H D I (i _ _ _ hw)
theorem OpR.imp{X:Cx}{f:Value->Value->Sem Value}{r r':R2}(h:OpR X f r)(i:∀x y H Q,r' x y H Q->r x y H Q):OpR X f r':=fun pins s σ H x y v u Q I rx ry q=>h pins s σ H x y v u Q I rx ry (i _ _ _ _ q)
theorem CallR.imp{X:Cx}{f:Value}{r r':List V->Hp->VK->Prop}(h:CallR X f r)(i:∀xs H Q,r' xs H Q->r xs H Q):CallR X f r':=fun pins s σ H xs us Q I rx q=>h pins s σ H xs us Q I rx (i _ _ _ q)
def rD(K:Fg)(g:D->D->Option D):R2:=fun x y H Q=>∃Z a b d,Same Z H/\Rep K Z x a/\Rep K Z y b/\g a b=some d/\∀v Z' H',New Z H Z' H'->Rep K Z' v d->Q v H'
def KI(K:Fg)(g:D->Option D):V->Hp->VK->Prop:=fun x H Q=>∃Z a d,Same Z H/\Rep K Z x a/\g a=some d/\∀v Z' H',New Z H Z' H'->Rep K Z' v d->Q v H'
def yy(K:Fg)(g:List D->Option D):List V->Hp->VK->Prop:=fun xs H Q=>∃Z as d,Same Z H/\Reps K Z xs as/\g as=some d/\∀v Z' H',New Z H Z' H'->Rep K Z' v d->Q v H'
def f9(K:Fg)(g:List D->Option D):Sp:=fun vs H Q _=>yy K g vs H Q
section
variable{X:Cx}{a b c e:Expr}{es:List Expr}{pos p:Pos}{f f1 f2 f3:Dv->Option D}{fs:Dv->Option (List D)}{ft fu:Dv->Option Bool}
theorem bind_some{α β:Type}{o:Option α}{k:α -> Option β}{r:β}(h:o.bind k=some r):∃a,o=some a/\k a=some r:=by
 cases o with
 |none=>cases h
 |some a=>exact⟨a,rfl,h⟩
theorem two{K:Fg}{g:D->D->Option D}{σ:St}{H:Hp}{Q:VK}{r:R2}(hr:∀x y H Q,rD K g x y H Q->r x y H Q)(h:tV K (o2 f1 f2 g) σ H Q):FU r (tV K f1) (tV K f2) σ H Q:=by
 obtain⟨H₀,Z₀,Z,δ,d,hh,e,k⟩:=h;obtain⟨x,e1,e⟩:=bind_some e;obtain⟨y,e2,e⟩:=bind_some e;refine⟨H₀,Z₀,Z,δ,x,hh,e1,fun v Z1 H1 hh1 s1 r1=>⟨H₀,Z₀,Z1,δ,y,hh1,e2,fun u Z2 H2 hh2 s2 r2=>hr _ _ _ _ ⟨Z2,x,y,d,hh2.zh,r1.same s2,r2,e,fun w Z3 H3 n r3=>?_⟩⟩⟩
 exact k w Z3 H3 (hh2.new n) ((s1.trans s2).trans n.z) r3
theorem ak{op:Operator}{g:D->D->Option D}(ho:OpR X (binaryOp op) (rD X.K g))(ha:EV X a f1)(hb:EV X b f2):EV X (.BinOp a op b pos) (o2 f1 f2 g):=
 PE.imp (GK ho ha hb) fun _ _ _ h=>two (fun _ _ _ _ q=>q) h
theorem C5{op:UnaryOp}{g:D->Option D}(ho:Io X (unaryOp op) (KI X.K g))(ha:EV X a f):EV X (.UnaryOp op a pos) (o1 f g):=
 PE.imp (GJ ho ha) fun σ H Q h=>by
  obtain⟨H₀,Z₀,Z,δ,d,hh,e,k⟩:=h;obtain⟨x,e1,e⟩:=bind_some e;exact⟨H₀,Z₀,Z,δ,x,hh,e1,fun v Z1 H1 hh1 s1 r1=>⟨Z1,x,d,hh1.zh,r1,e,fun w Z3 H3 n r3=>k w Z3 H3 (hh1.new n) (s1.trans n.z) r3⟩⟩
theorem fK{op:CmpOp}{g:D->D->Option D}(ho:OpR X (compareOp op) (rD X.K g))(ha:EV X a f1)(hb:EV X b f2)(hm:behindInMarks op b=false):EV X (.Compare a [op] [b] pos) (o2 f1 f2 g):=
 PE.imp (Br ho ha hb hm) fun _ _ _ h=>two (fun _ _ _ _ q=>q) h
theorem Aa{d:D}{b:Bool}(h:asB d=some b):d=.bool b:=by
 cases d<;>simp[asB]at h;subst h;rfl
theorem KA{K:Fg}{σ:St}{H:Hp}{Q:Bool->Hp->Prop}(h:CI K (ob f) σ H Q):tV K f σ H fun x H1=>∃c,x=.bl c/\Q c H1:=by
 obtain⟨H₀,Z₀,Z,δ,d,hh,e,k⟩:=h;obtain⟨x,e1,e⟩:=bind_some e;have:=Aa e;subst this;exact⟨H₀,Z₀,Z,δ,_,hh,e1,fun v Z1 H1 hh1 s1 r1=>⟨_,r1.bl_eq,k Z1 H1 hh1 s1⟩⟩
theorem aE{op:CmpOp}{g:D->D->Option D}(ho:OpR X (compareOp op) (rD X.K g))(ha:EV X a f1)(hb:EV X b f2)(hm:behindInMarks op b=false):TV X (.Compare a [op] [b] pos) (ob (o2 f1 f2 g)):=
 PT.imp (Bg ho ha hb hm) fun σ H Q h=>by
  have h':=KA h;exact two (f1:=f1) (f2:=f2) (g:=g) (fun _ _ _ _ q=>q) h'
theorem dg(ha:EV X a f)(he:∀whole,isTrue a X.env whole=(do let v <-whole;standAt a.pos;holding [v] (truthy v)):=by intro _;rfl):TV X a (ob f):=
 PT.imp (DZ ha he) fun _ _ _ h=>KA h
def WV(X:Cx)(e:Expr)(f:Dv->Option Bool):Prop:=PW X e (CI X.K f)
theorem PW.imp{X:Cx}{e:Expr}{t t':TT}(h:PW X e t)(i:∀ σ H Q,t' σ H Q->t σ H Q):PW X e t':=fun whole pins s σ H Q I hw=>h whole pins s σ H Q I (i _ _ _ hw)
theorem lm(ha:TV X a ft):WV X (.BoolOp .And [a] pos) ft:=Bd ha
theorem lN(ha:TV X a ft):WV X (.BoolOp .Or [a] pos) ft:=DW ha
theorem jX{rest:List Expr}(ha:TV X a ft)(hb:WV X (.BoolOp .And (b::rest) pos) fu):WV X (.BoolOp .And (a::b::rest) pos) (i8 ft fu):=
 PW.imp (DX ha hb) fun σ H Q h=>by
  obtain⟨H₀,Z₀,Z,δ,d,hh,e,k⟩:=h;obtain⟨x,e1,e⟩:=bind_some e;refine⟨H₀,Z₀,Z,δ,x,hh,e1,fun Z1 H1 hh1 s1=>?_⟩
  cases x with
  |true=>exact⟨H₀,Z₀,Z1,δ,d,hh1,e,fun Z2 H2 hh2 s2=>k Z2 H2 hh2 (s1.trans s2)⟩
  |false=>cases e;exact k Z1 H1 hh1 s1
theorem ot{rest:List Expr}(ha:TV X a ft)(hb:WV X (.BoolOp .Or (b::rest) pos) fu):WV X (.BoolOp .Or (a::b::rest) pos) (xI ft fu):=
 PW.imp (GD ha hb) fun σ H Q h=>by
  obtain⟨H₀,Z₀,Z,δ,d,hh,e,k⟩:=h;obtain⟨x,e1,e⟩:=bind_some e;refine⟨H₀,Z₀,Z,δ,x,hh,e1,fun Z1 H1 hh1 s1=>?_⟩
  cases x with
  |true=>cases e;exact k Z1 H1 hh1 s1
  |false=>exact⟨H₀,Z₀,Z1,δ,d,hh1,e,fun Z2 H2 hh2 s2=>k Z2 H2 hh2 (s1.trans s2)⟩
theorem WV.tv(h:WV X a ft):TV X a ft:=PW.pt h
theorem jY(ha:TV X a ft):TV X (.UnaryOp .Not a pos) (kR ft):=
 PT.imp (Ea ha) fun σ H Q h=>by
  obtain⟨H₀,Z₀,Z,δ,d,hh,e,k⟩:=h;cases e1:ft δ with
  |none=>unfold kR at e;rw[e1]at e;cases e
  |some x=>
   unfold kR at e;rw[e1]at e;cases e;exact⟨H₀,Z₀,Z,δ,x,hh,e1,fun Z1 H1 hh1 s1=>k Z1 H1 hh1 s1⟩
theorem uJ{op}(h:EV X a f):EV X (.BoolOp op [a] pos) f:=Eh h
theorem m9{rest:List Expr}(ha:EV X a f1)(hb:EV X (.BoolOp .And (b::rest) pos) f2):EV X (.BoolOp .And (a::b::rest) pos) (oO f1 f2):=
 PE.imp (Ej ha hb) fun σ H Q h=>by
  obtain⟨H₀,Z₀,Z,δ,d,hh,e,k⟩:=h;obtain⟨x,e1,e⟩:=bind_some e;obtain⟨c,e2,e⟩:=bind_some e;have:=Aa e2;subst this;refine⟨H₀,Z₀,Z,δ,_,hh,e1,fun v Z1 H1 hh1 s1 r1=>⟨c,r1.bl_eq,?_⟩⟩
  cases c with
  |true=>exact⟨H₀,Z₀,Z1,δ,d,hh1,e,fun v Z2 H2 hh2 s2 r2=>k v Z2 H2 hh2 (s1.trans s2) r2⟩
  |false=>cases e;exact k _ Z1 H1 hh1 s1 (.bl false)
theorem zF(hc:TV X c ft)(ha:EV X a f1)(hb:EV X b f2):EV X (.IfExp c a b pos) (JE ft f1 f2):=
 PE.imp (yF hc ha hb) fun σ H Q h=>by
  obtain⟨H₀,Z₀,Z,δ,d,hh,e,k⟩:=h;obtain⟨x,e1,e⟩:=bind_some e;refine⟨H₀,Z₀,Z,δ,x,hh,e1,fun Z1 H1 hh1 s1=>?_⟩
  cases x with
  |true=>exact⟨H₀,Z₀,Z1,δ,d,hh1,e,fun v Z2 H2 hh2 s2 r2=>k v Z2 H2 hh2 (s1.trans s2) r2⟩
  |false=>exact⟨H₀,Z₀,Z1,δ,d,hh1,e,fun v Z2 H2 hh2 s2 r2=>k v Z2 H2 hh2 (s1.trans s2) r2⟩
theorem Hold.read{K:Fg}{H₀ Z₀ Z H:Hp}{δ:Dv}{σ:St}(hh:Hold K H₀ Z₀ Z δ σ H){i:Nat}{d:D}(h:oV i δ = some d):∃v,σ[i]? = some (some v)/\Rep K Z v d:=by
 unfold oV at h;cases q:δ[i]? with
 |none=>rw[q]at h;cases h
 |some x=>
  rw[q]at h;cases x with
  |fz e=>cases h;exact hh.fz i _ q
  |un=>cases h
  |own _=>cases h
  |fr ds=>
   cases h;obtain⟨a,xs,h1,_,_,h4,h5⟩:=hh.fr i ds q;exact⟨.ref a,h1,.lst (SqL.of h4) h5⟩
theorem ac(i:Nat){x:Str}(hN:X.N[i]? = some x:=by rfl)(hv:nO X.env.scope x:=by first|exact Or.inl rfl|exact Or.inr (Or.inl rfl)|exact Or.inr (Or.inr rfl))(hd:(x==("__debug__":Str))=false:=by decide)(hcd:(x==("__classdict__":Str))=false:=by decide):
  EV X (.Name x pos) (oV i):=
 PE.imp (ca hN hv hd hcd) fun σ H Q h=>by
  obtain⟨H₀,Z₀,Z,δ,d,hh,e,k⟩:=h;obtain⟨v,q,r⟩:=hh.read e;exact⟨v,q,k v Z H hh (Same.refl _) r⟩
theorem zG{d:D}{v:V}(h:PE X e (tC v))(r:∀Z,Rep X.K Z v d):EV X e (oC d):=
 PE.imp h fun σ H Q h=>by
  obtain⟨H₀,Z₀,Z,δ,d',hh,e,k⟩:=h;cases e;exact k v Z H hh (Same.refl _) (r Z)
theorem af{i j}:EV X (.Constant (.int i) j pos) (oC (.int i)):=zG uq fun _=>.int i
theorem jJ{i j}:EV X (.Constant (.bool i) j pos) (oC (.bool i)):=zG GL fun _=>.bl i
theorem E4{j}:EV X (.Constant .none j pos) (oC .none):=zG Ei fun _=>.non
theorem fJ{i j}:EV X (.Constant (.str i) j pos) (oC (.str i)):=zG Eg fun _=>.str i
theorem ah:AV X [] ar:=
 PA.imp cM fun σ H Q h=>by
  obtain⟨H₀,Z₀,Z,δ,d,hh,e,k⟩:=h;cases e;exact k [] Z H hh (Same.refl _) .nil
theorem ae(ha:EV X e f)(hr:AV X es fs)(hs:starEach (e::es) X.env=(false,eval e X.env)::starEach es X.env:=by rfl):AV X (e::es) (ag f fs):=
 PA.imp (bK ha hr hs) fun σ H Q h=>by
  obtain⟨H₀,Z₀,Z,δ,d,hh,e,k⟩:=h;obtain⟨x,e1,e⟩:=bind_some e;obtain⟨xs,e2,e⟩:=bind_some e;cases e;exact⟨H₀,Z₀,Z,δ,x,hh,e1,fun v Z1 H1 hh1 s1 r1=>⟨H₀,Z₀,Z1,δ,xs,hh1,e2,fun vs Z2 H2 hh2 s2 r2=>k _ Z2 H2 hh2 (s1.trans s2) (.cons (r1.same s2) r2)⟩⟩
theorem bf{x1}(h:AV X es fs):EV X (.Tuple es x1 pos) (os fs bw):=
 PE.imp (Ef h) fun σ H Q h=>by
  obtain⟨H₀,Z₀,Z,δ,d,hh,e,k⟩:=h;obtain⟨xs,e1,e⟩:=bind_some e;refine⟨H₀,Z₀,Z,δ,xs,hh,e1,fun vs Z1 H1 hh1 s1 r1=>?_⟩
  by_cases hl:xs.length<=sizeLine
  ·rw[bw,if_pos hl]at e
   cases e;refine⟨by rw[r1.length];exact hl,fun p hp=>?_⟩
   have n:=New.add hh1.zh hp (.tup vs);exact k _ _ _ (hh1.new n) (s1.trans n.z) (.tup (SqT.of ay) (r1.same n.z))
  ·rw[bw,if_neg hl]at e;cases e
theorem i9(h:AV X es fs):EV X (.List es pos) (os fs gO):=
 PE.imp (yE h) fun σ H Q h=>by
  obtain⟨H₀,Z₀,Z,δ,d,hh,e,k⟩:=h;obtain⟨xs,e1,e⟩:=bind_some e;refine⟨H₀,Z₀,Z,δ,xs,hh,e1,fun vs Z1 H1 hh1 s1 r1=>?_⟩
  by_cases hl:xs.length<=sizeLine
  ·rw[gO,if_pos hl]at e
   cases e;refine⟨by rw[r1.length];exact hl,fun p hp=>?_⟩
   have n:=New.add hh1.zh hp (.lst vs);exact k _ _ _ (hh1.new n) (s1.trans n.z) (.lst (SqL.of ay) (r1.same n.z))
  ·rw[gO,if_neg hl]at e;cases e
theorem args{K:Fg}{g:List D->Option D}{σ:St}{H:Hp}{Q:VK}(h:tV K (os fs g) σ H Q):KE K fs σ H fun vs H1=>yy K g vs H1 Q:=by
 obtain⟨H₀,Z₀,Z,δ,d,hh,e,k⟩:=h;obtain⟨xs,e1,e⟩:=bind_some e;exact⟨H₀,Z₀,Z,δ,xs,hh,e1,fun vs Z1 H1 hh1 s1 r1=>⟨Z1,xs,d,hh1.zh,r1,e,fun w Z3 H3 n r3=>k w Z3 H3 (hh1.new n) (s1.trans n.z) r3⟩⟩
theorem cC{x:Str}{id:String}{g:List D->Option D}(hc:CallR X (.builtin id) (yy X.K g))(hg:Gl X x)(hm:X.mg x=none)(hv:bootBuiltins x=some (.builtin id))(ha:AV X (e::es) fs)(hn:x ≠ "__name__":=by decide)(hdb:(x==("__debug__":Str))=false:=by decide)
  (he:starEach (e::es) X.env=(false,eval e X.env)::starEach es X.env:=by rfl) (hpl:(backTo pos (starEach es X.env)).any (·.1)=false:=by rfl):EV X (.Call (.Name x p) (e::es) [] pos) (os fs g):=
 PE.imp (fR hc hg hm hv ha hn hdb he hpl) fun _ _ _ h=>args h
theorem bY{x:Str}{id:String}{g:List D->Option D}(hc:CallR X (.type id) (yy X.K g))(hg:Gl X x)(hm:X.mg x=none)(hv:bootBuiltins x=some (.type id))(ha:AV X (e::es) fs)(hn:x ≠ "__name__":=by decide)(hdb:(x==("__debug__":Str))=false:=by decide)
  (he:starEach (e::es) X.env=(false,eval e X.env)::starEach es X.env:=by rfl) (hpl:(backTo pos (starEach es X.env)).any (·.1)=false:=by rfl):EV X (.Call (.Name x p) (e::es) [] pos) (os fs g):=
 PE.imp (j4 hc hg hm hv ha hn hdb he hpl) fun _ _ _ h=>args h
theorem Cb{k:Nat}{fa:Addr}{fd:FuncData}{ps:List Str}{x:Str}{g:List D->Option D}{dd:List D}{dv:List V}{ds:List Value}(F:FnOk X.prog X.w X.K X.mg X.base dM k fa fd ps (f9 X.K g))(hr:Room k X.A)(hg:Gl X x)(hm:X.mg x=some (.ref fa))(hk:keepIn X.K (.ref fa)=true)
  (hb:Binds X.K fd ps ds) (hd:Vals dv ds) (hdd:∀Z,Reps X.K Z dv dd) (hx:re dM X E0) (ha:AV X (e::es) fs) (hdb:(x==("__debug__":Str))=false:=by decide) (he:starEach (e::es) X.env=(false,eval e X.env)::starEach es X.env:=by rfl) (hpl:(backTo pos (starEach es X.env)).any (·.1)=false:=by rfl) :
  EV X (.Call (.Name x p) (e::es) [] pos) (os fs fun as=>g (as++dd)):=
 PE.imp (p6 F hr hg hm hk hb hd hx ha hdb he hpl) fun σ H Q h=>by
  obtain⟨H₀,Z₀,Z,δ,xs,hh,e1,q⟩:=args h;refine⟨H₀,Z₀,Z,δ,xs,hh,e1,fun vs Z1 H1 hh1 s1 r1=>?_⟩
  obtain⟨Z2,as,d,zh,ra,eg,kk⟩:=q vs Z1 H1 hh1 s1 r1;exact⟨Z2,as++dd,d,zh,ra.append (hdd Z2),eg,kk⟩
theorem IxR.imp{r r':R2}(h:IxR X r)(i:∀x y H Q,r' x y H Q->r x y H Q):IxR X r':=fun value slice pins s σ H x y v u Q I rx ry q hs=>h value slice pins s σ H x y v u Q I rx ry (i _ _ _ _ q) hs
theorem aq{g:D->D->Option D}(ho:IxR X (rD X.K g))(ha:EV X a f1)(hb:EV X b f2)(hs:jU b):EV X (.Subscript a b pos) (o2 f1 f2 g):=
 PE.imp (vq ho ha hb hs) fun _ _ _ h=>two (fun _ _ _ _ q=>q) h
end
section
variable{X:Cx}{a b c e tg:Expr}{es:List Expr}{pos p:Pos}{f f1 f2 f3:Dv->Option D}{fs:Dv->Option (List D)}{ft fu:Dv->Option Bool}{st:Stmt}{sts body:List Stmt}{s1 s2:Dv->Option (Fl×Dv)}
theorem yN{F:Value->Value->Sem Value}{g:Int->Int->Int}(h:OpR X F (Am fun i j=>.int (g i j))):OpR X F (rD X.K (iI g)):=
 OpR.imp h fun x y H Q q=>by
  obtain⟨Z,a,b,d,zh,ra,rb,e,k⟩:=q;cases ra<;>cases rb<;>simp[iI]at e;subst e;exact⟨_,_,rfl,rfl,k _ Z H (New.refl zh) (.int _)⟩
theorem CP{F:Value->Value->Sem Value}{g:Int->Int->Bool}(h:OpR X F (Am fun i j=>.bl (g i j))):OpR X F (rD X.K (iB g)):=
 OpR.imp h fun x y H Q q=>by
  obtain⟨Z,a,b,d,zh,ra,rb,e,k⟩:=q;cases ra<;>cases rb<;>simp[iB]at e;subst e;exact⟨_,_,rfl,rfl,k _ Z H (New.refl zh) (.bl _)⟩
theorem oM{F:Value->Value->Sem Value}{P:Int->Int->Prop}{C:Int->Int->Bool}{g:Int->Int->Int}(h:OpR X F (rI P fun i j=>.int (g i j)))(hc:∀i j,C i j=true->P i j):OpR X F (rD X.K (iC C g)):=
 OpR.imp h fun x y H Q q=>by
  obtain⟨Z,a,b,d,zh,ra,rb,e,k⟩:=q;cases ra with
  |int i=>
   cases rb with
   |int j=>
    by_cases hh:C i j=true
    ·simp only[iC,if_pos hh]at e
     cases e;exact⟨_,_,rfl,rfl,hc _ _ hh,k _ Z H (New.refl zh) (.int _)⟩
    ·simp only[iC,if_neg hh]at e
     cases e
   |_=>simp[iC]at e
  |_=>simp[iC]at e
theorem gL:OpR X (binaryOp .Sub) (rD X.K gX):=yN El
theorem kf:OpR X (binaryOp .Mult) (rD X.K gu):=oM (P:=fun i j=>IntMulOk i j) (FA fun _ _ _ _ _ _ _ hc q=>mul_int q hc) fun i j h=>of_decide_eq_true h
theorem dG:OpR X (binaryOp .FloorDiv) (rD X.K cX):=oM Bu fun i j h=>(of_decide_eq_true h:0<j/\j<1073741824)
theorem aT:OpR X (binaryOp .Mod) (rD X.K aK):=oM Eo fun i j h=>of_decide_eq_true h
theorem C7:OpR X (binaryOp .Pow) (rD X.K um):=oM En fun i j h=>(of_decide_eq_true h:0<=j/\j<=1000000/\i.natAbs<2^64)
theorem sY:OpR X (binaryOp .LShift) (rD X.K kH):=oM (P:=fun i j=>0<=j/\(Builtin.Int.intBits i:Int)+j<=2^27) (FA fun _ _ _ _ _ _ _ hc q=>lshift_int hc.1 hc.2 q) fun i j h=>of_decide_eq_true h
theorem kB:OpR X (binaryOp .RShift) (rD X.K iZ):=oM Em fun i j h=>of_decide_eq_true h
theorem C9:OpR X (binaryOp .BitAnd) (rD X.K Fj):=yN Ep
theorem iU:OpR X (binaryOp .BitXor) (rD X.K lL):=yN Ek
theorem Fb:OpR X (compareOp .Lt) (rD X.K FB):=CP vx
theorem sZ:OpR X (compareOp .Gt) (rD X.K uH):=CP GR
theorem C8:Io X (unaryOp .USub) (KI X.K negD):=by
 intro pins s σ H x v Q I rx q;obtain⟨Z,a,d,zh,ra,e,k⟩:=q;cases ra<;>simp[negD]at e;subst e;exact Dj pins s σ H _ v Q I rx ⟨_,rfl,k _ Z H (New.refl zh) (.int _)⟩
theorem Rep.str_eq{K:Fg}{Z:Hp}{v:V}{x:Str}(h:Rep K Z v (.str x)):v=.str x:=by cases h;rfl
theorem Rep.tup_ex{K:Fg}{Z:Hp}{v:V}{ds:List D}(h:Rep K Z v (.tuple ds)):∃a xs,v=.ref a/\SqT K Z a xs/\Reps K Z xs ds:=by
 cases h with
 |tup p q=>exact⟨_,_,rfl,p,q⟩
theorem Rep.lst_ex{K:Fg}{Z:Hp}{v:V}{ds:List D}(h:Rep K Z v (.list ds)):∃a xs,v=.ref a/\SqL K Z a xs/\Reps K Z xs ds:=by
 cases h with
 |lst p q=>exact⟨_,_,rfl,p,q⟩
theorem bg{p:Prop}[Decidable p]{α:Type}{x y:α}(h:(if p then some x else none)=some y):p/\x=y:=by
 by_cases q:p
 ·rw[if_pos q]at h;exact⟨q,Option.some.inj h⟩
 ·rw[if_neg q]at h;cases h
theorem Fp{a b d:D}(h:aL a b=some d):(∃i,a=.int i)\/(∃x,a=.str x)\/(∃xs,a=.list xs)\/∃xs,a=.tuple xs:=by
 cases a with
 |int i=>exact .inl ⟨_,rfl⟩
 |str i=>exact .inr (.inl ⟨_,rfl⟩)
 |list i=>exact .inr (.inr (.inl ⟨_,rfl⟩))
 |tuple i=>exact .inr (.inr (.inr ⟨_,rfl⟩))
 |_=>cases h
theorem Fq{i:Int}{b d:D}(h:aL (.int i) b=some d):∃j,b=.int j/\d=.int (i+j):=by
 cases b with
 |int j=>exact⟨j,rfl,(Option.some.inj h).symm⟩
 |_=>cases h
theorem Fn{i:Str}{b d:D}(h:aL (.str i) b=some d):∃j,b=.str j/\i.length+j.length<=sizeLine/\d=.str (i++j):=by
 cases b with
 |str j=>obtain⟨p,q⟩:=bg h;exact⟨j,rfl,p,q.symm⟩
 |_=>cases h
theorem Fo{i:List D}{b d:D}(h:aL (.list i) b=some d):∃j,b=.list j/\i.length+j.length<=sizeLine/\d=.list (i++j):=by
 cases b with
 |list j=>obtain⟨p,q⟩:=bg h;exact⟨j,rfl,p,q.symm⟩
 |_=>cases h
theorem Fm{i:List D}{b d:D}(h:aL (.tuple i) b=some d):∃j,b=.tuple j/\i.length+j.length<=sizeLine/\d=.tuple (i++j):=by
 cases b with
 |tuple j=>obtain⟨p,q⟩:=bg h;exact⟨j,rfl,p,q.symm⟩
 |_=>cases h
theorem bG:OpR X (binaryOp .Add) (rD X.K aL):=by
 intro pins s σ H x y v u Q I rx ry q;obtain⟨Z,a,b,d,zh,ra,rb,e,k⟩:=q;rcases Fp e with⟨i,rfl⟩|⟨i,rfl⟩|⟨ds,rfl⟩|⟨ds,rfl⟩
 ·obtain⟨j,rfl,rfl⟩:=Fq e
  cases ra.int_eq;cases rb.int_eq;exact Er pins s σ H _ _ v u Q I rx ry ⟨_,_,rfl,rfl,k _ Z H (New.refl zh) (.int _)⟩
 ·obtain⟨j,rfl,hl,rfl⟩:=Fn e
  cases ra.str_eq;cases rb.str_eq;exact ur pins s σ H _ _ v u Q I rx ry ⟨_,_,rfl,rfl,hl,k _ Z H (New.refl zh) (.str _)⟩
 ·obtain⟨es,rfl,hl,rfl⟩:=Fo e
  obtain⟨a,xs,rfl,h1,q1⟩:=ra.lst_ex;obtain⟨b,ys,rfl,h2,q2⟩:=rb.lst_ex;cases rx;cases ry;obtain⟨its,r1,p1,z1⟩:=I.list (SqL.same h1 zh);obtain⟨its2,r2,p2,z2⟩:=I.list (SqL.same h2 zh);obtain⟨⟨cls,dd,data,sl⟩,n1,ho,hc,hdd,hd⟩:=p1;obtain⟨⟨cls2,dd2,data2,sl2⟩,n2,ho2,hc2,hdd2,hd2⟩:=p2;simp only at hc hd hc2 hd2;subst hc hd hc2 hd2;have hl1:=r1.length;have hl2:=r2.length;have ql1:=q1.length;have ql2:=q2.length;refine concat_meets ⟨_,ho,rfl⟩ ⟨_,ho2,rfl⟩ noFill_list_add seq_list_add PySem.F.slot_list_add PySem.F.entry_list_add (PySem.F.args_list_add_2 _ _) (list_addW a b its.toArray its2.toArray n1 n2 dd dd2 sl sl2 (by simp;omega)) ⟨ho,ho2,?_⟩;have ea:its.toArray++its2.toArray=(its++its2).toArray:=by simp
  rw[ea];have n:=New.add zh I.fresh (.lst (xs++ys));exact⟨.ref _,_,I.lnew (t':=s.toks) (r1.append r2) (by rw[List.length_append];omega),rfl,k _ _ _ n (.lst (SqL.of ay) ((q1.append q2).same n.z))⟩
 ·obtain⟨es,rfl,hl,rfl⟩:=Fm e
  obtain⟨a,xs,rfl,h1,q1⟩:=ra.tup_ex;obtain⟨b,ys,rfl,h2,q2⟩:=rb.tup_ex;by_cases h0:ds.length=0
  ·have hd0:ds=[]:=List.eq_nil_of_length_eq_zero h0
   subst hd0;cases q1;cases rx;cases ry;obtain⟨its,r1,p1,z1⟩:=I.tuple (SqT.same h1 zh);obtain⟨its2,r2,p2,z2⟩:=I.tuple (SqT.same h2 zh);cases r1;obtain⟨⟨cls,dd,data,sl⟩,ho,hc,n,hd⟩:=id p1;obtain⟨⟨cls2,dd2,data2,sl2⟩,ho2,hc2,n2,hd2⟩:=id p2;simp only at hc hd hc2 hd2;subst hc hd hc2 hd2;exact concat_meets ⟨_,ho,rfl⟩ ⟨_,ho2,rfl⟩ noFill_tuple_add seq_tuple_add PySem.F.slot_tuple_add PySem.F.entry_tuple_add (PySem.F.args_tuple_add_2 _ _)
    (tuple_addW0 a b _ its2.toArray n n2 dd dd2 sl sl2 (by simp)) ⟨ho,ho2,⟨.ref b,H,I,rfl,k _ Z H (New.refl zh) (.tup h2 q2)⟩⟩
  refine Bv pins s σ H _ _ v u Q I rx ry ⟨a,b,xs,ys,rfl,rfl,SqT.same h1 zh,SqT.same h2 zh,fun z=>h0 (by rw[<-q1.length,z];rfl),by rw[q1.length,q2.length];exact hl,fun z=>?_,fun z p hp=>?_⟩
  ·subst z
   cases q2;rw[List.append_nil]at k;exact k _ Z H (New.refl zh) (.tup h1 q1)
  ·have n:=New.add zh hp (.tup (xs++ys))
   exact k _ _ _ n (.tup (SqT.of ay) ((q1.append q2).same n.z))
theorem eA{d:D}(h:shp d=true):d.canLay0=true:=(Bool.and_eq_true_iff.mp h).1
theorem cD(hu:X.A.units+64<cLine):OpR X (compareOp .Eq) (rD X.K cN):=by
 intro pins s σ H x y v u Q I rx ry q;obtain⟨Z,a,b,d,zh,ra,rb,e,k⟩:=q;by_cases hs:shp a=true/\shp b=true
 ·rw[cN,if_pos hs]at e
  cases e;obtain⟨as,r1⟩:=ra.reads I zh rx (eA hs.1);obtain⟨bs,r2⟩:=rb.reads I zh ry (eA hs.2);exact eq_dataH r1 r2 hs.1 hs.2 hu ⟨.bl _,H,I,rfl,k _ Z H (New.refl zh) (.bl _)⟩
 ·rw[cN,if_neg hs]at e;cases e
theorem jL(hu:X.A.units+64<cLine):OpR X (compareOp .NotEq) (rD X.K neD):=by
 intro pins s σ H x y v u Q I rx ry q;obtain⟨Z,a,b,d,zh,ra,rb,e,k⟩:=q;by_cases hs:shp a=true/\shp b=true
 ·rw[neD,if_pos hs]at e
  cases e;obtain⟨as,r1⟩:=ra.reads I zh rx (eA hs.1);obtain⟨bs,r2⟩:=rb.reads I zh ry (eA hs.2);exact ne_dataH r1 r2 hs.1 hs.2 hu ⟨.bl _,H,I,rfl,k _ Z H (New.refl zh) (.bl _)⟩
 ·rw[neD,if_neg hs]at e;cases e
theorem Reps.at{K:Fg}{Z:Hp}{vs:List V}{ds:List D}{i:Int}{d:D}(r:Reps K Z vs ds)(h:lJ ds i=some d):∃v,lJ vs i=some v/\Rep K Z v d:=by
 unfold lJ at h ⊢;rw[r.length];obtain⟨j,e,h⟩:=bind_some h;obtain⟨v,q,rr⟩:=r.get h;exact⟨v,by rw[e];exact q,rr⟩
theorem Hn{a b d:D}(h:aB a b=some d):(∃xs,a=.list xs)\/∃xs,a=.tuple xs:=by
 cases a with
 |list i=>exact .inl ⟨_,rfl⟩
 |tuple i=>exact .inr ⟨_,rfl⟩
 |_=>cases h
theorem CZ{xs:List D}{b d:D}(h:aB (.list xs) b=some d):∃i,b=.int i/\lJ xs i=some d:=by
 cases b with
 |int i=>exact⟨i,rfl,h⟩
 |_=>cases h
theorem aD:IxR X (rD X.K aB):=
 IxR.imp (ix_list.or uC) fun x y H Q q=>by
  obtain⟨Z,a,b,d,zh,ra,rb,e,k⟩:=q;rcases Hn e with⟨xs,rfl⟩|⟨xs,rfl⟩
  ·obtain⟨i,rfl,e⟩:=CZ e
   obtain⟨a,vs,rfl,h1,q1⟩:=ra.lst_ex;cases rb.int_eq;obtain⟨v,ev,rv⟩:=q1.at e;exact .inl ⟨_,_,_,v,rfl,rfl,SqL.same h1 zh,ev,k v Z H (New.refl zh) rv⟩
  ·obtain⟨i,rfl,e⟩:=CZ (xs:=xs) (b:=b) (by cases b<;>exact e)
   obtain⟨a,vs,rfl,h1,q1⟩:=ra.tup_ex;cases rb.int_eq;obtain⟨v,ev,rv⟩:=q1.at e;exact .inr ⟨_,_,_,v,rfl,rfl,SqT.same h1 zh,ev,k v Z H (New.refl zh) rv⟩
theorem pv:CallR X (.builtin "len") (yy X.K iO):=
 CallR.imp tE fun xs H Q q=>by
  obtain⟨Z,as,d,zh,ra,e,k⟩:=q;cases ra with
  |nil=>cases e
  |cons r1 r2=>
   cases r2 with
   |cons _ _=>cases r1<;>cases e
   |nil=>
    cases r1 with
    |lst h1 q1=>cases e;exact⟨_,_,rfl,.inl ⟨_,SqL.same h1 zh,rfl⟩,k _ Z H (New.refl zh) (by rw[q1.length];exact .int _)⟩
    |tup h1 q1=>cases e;exact⟨_,_,rfl,.inr ⟨_,SqT.same h1 zh,rfl⟩,k _ Z H (New.refl zh) (by rw[q1.length];exact .int _)⟩
    |_=>cases e
theorem xR{K:Fg}{Z:Hp}{xs:List V}{as:List D}{d:D}{g:List D->Option D}{h:Int->Int->Int}(hg:∀as d,g as=some d->∃i j,as=[.int i,.int j]/\d=.int (h i j))(r:Reps K Z xs as)(e:g as=some d):
  ∃i j,xs=[.int i,.int j]/\d=.int (h i j):=by
 obtain⟨i,j,rfl,rfl⟩:=hg _ _ e;cases r with
 |cons r1 r2=>
  cases r2 with
  |cons r3 r4=>
   cases r4;exact⟨i,j,by rw[r1.int_eq,r3.int_eq],rfl⟩
theorem H9(hc:X.calm=true):CallR X (.builtin "min") (yy X.K yT):=
 CallR.imp (xC hc) fun xs H Q q=>by
  obtain⟨Z,as,d,zh,ra,e,k⟩:=q;obtain⟨i,j,rfl,rfl⟩:=xR (h:=fun i j=>if j<i then j else i) (fun as d h=>by unfold yT at h;split at h<;>cases h;exact⟨_,_,rfl,rfl⟩) ra e;exact⟨i,j,rfl,k _ Z H (New.refl zh) (.int _)⟩
theorem Fd:CallR X (.type "list") (yy X.K oU):=
 CallR.imp jQ fun xs H Q q=>by
  obtain⟨Z,as,d,zh,ra,e,k⟩:=q;cases ra with
  |nil=>cases e
  |cons r1 r2=>
   cases r2 with
   |cons _ _=>cases r1<;>cases e
   |nil=>
    cases r1 with
    |lst h1 q1=>cases e;exact⟨_,_,rfl,.inl (SqL.same h1 zh),fun l hl=>let n:=New.add zh hl (.lst _);k _ _ _ n (.lst (SqL.of ay) (q1.same n.z))⟩
    |tup h1 q1=>cases e;exact⟨_,_,rfl,.inr (SqT.same h1 zh),fun l hl=>let n:=New.add zh hl (.lst _);k _ _ _ n (.lst (SqL.of ay) (q1.same n.z))⟩
    |_=>cases e
theorem dB:CallR X (.type "tuple") (yy X.K bJ):=
 CallR.imp oi fun xs H Q q=>by
  obtain⟨Z,as,d,zh,ra,e,k⟩:=q;cases ra with
  |nil=>cases e
  |cons r1 r2=>
   cases r2 with
   |cons _ _=>cases r1<;>cases e
   |nil=>
    cases r1 with
    |lst h1 q1=>cases e;exact⟨_,_,rfl,.inl ⟨SqL.same h1 zh,fun l hl=>let n:=New.add zh hl (.tup _);k _ _ _ n (.tup (SqT.of ay) (q1.same n.z))⟩⟩
    |tup h1 q1=>cases e;exact⟨_,_,rfl,.inr ⟨SqT.same h1 zh,k _ Z H (New.refl zh) (.tup h1 q1)⟩⟩
    |_=>cases e
theorem EM(K:Fg){t T:String}(ht:t = "NoneType" \/ t = "bool" \/ t = "int" \/ t = "str" \/ t = "list" \/ t = "tuple")(hT:T = "int" \/ T = "bool" \/ T = "str" \/ T = "list" \/ T = "tuple"):PySem.W.kitOne K (.type t) (.type T)=some (EZ t T):=by
 rcases ht with rfl|rfl|rfl|rfl|rfl|rfl<;>rcases hT with rfl|rfl|rfl|rfl|rfl<;>rfl
theorem Rep.ty{K:Fg}{Z H:Hp}{v:V}{d:D}(zh:Same Z H)(r:Rep K Z v d)(hD:¬vU d=true):(tyN d = "NoneType" \/ tyN d = "bool" \/ tyN d = "int" \/ tyN d = "str" \/ tyN d = "list" \/ tyN d = "tuple"):=by
 cases r<;>simp[tyN]
 ·exact absurd rfl hD
 ·exact absurd rfl hD
theorem EY{pins:List (Addr×Obj)}{σ:St}{H Z:Hp}{s:Shared}{x:V}{u:Value}{d:D}{T:String}{A:Around}{E:Value->Shared->Prop}{Q:Value->Shared->Prop}(I:Inv X pins σ H s)(zh:Same Z H)(rx:RelV x u)(r:Rep X.K Z x d)(hD:¬vU d=true)
  (hT:T = "int" \/ T = "bool" \/ T = "str" \/ T = "list" \/ T = "tuple") (h:∀tk,Q (.bool (EZ (tyN d) T)) { s with toks:=tk }):wpAny (model X.prog X.w) A (call (.builtin "isinstance") [u,.type T]) Q E s:=by
 have ko:=EM X.K (Rep.ty zh r hD) hT;cases r with
 |non=>exact iG I rx (.non) ko h
 |bl b=>exact iG I rx (.bl b) ko h
 |int b=>exact iG I rx (.int b) ko h
 |str b=>exact iG I rx (.str b) ko h
 | @tup a xs ds h1 q1=>
  cases(show u=Value.ref a from rx);obtain⟨its,_,p,_⟩:=I.tuple (SqT.same h1 zh);obtain⟨o,h1,h2,_⟩:=p;exact kia_one PySem.W.kitx_tuple I.kIn ⟨o,h1,h2⟩ ko (fun z=>nomatch z) h
 | @lst a xs ds h1 q1=>
  cases(show u=Value.ref a from rx);obtain⟨its,_,p,_⟩:=I.list (SqL.same h1 zh);obtain⟨o,n,h1,h2,_⟩:=p;exact kia_one PySem.W.kitx_list I.kIn ⟨o,h1,h2⟩ ko (fun z=>nomatch z) h
 |opq h1=>exact absurd rfl hD
 |gdc _ _ _ _=>exact absurd rfl hD
theorem Ia(T:String):CallR X (.builtin "isinstance") (fun xs H Q=>∃x Z d r,xs=[x,.ty T]/\Same Z H/\Rep X.K Z x d/\fT T d=some r/\∃b,r=.bool b/\Q (.bl b) H):=by
 intro pins s σ H xs us Q I rv h;obtain⟨x,Z,d,r,rfl,zh,rr,e,b,rfl,q⟩:=h;obtain⟨u,w',rfl,r1,r2⟩:=xP rv;cases(show w'=Value.type T from r2);by_cases hD:vU d=true
 ·rw[fT,if_pos hD]at e;cases e
 by_cases hT:T = "int" \/ T = "bool" \/ T = "str" \/ T = "list" \/ T = "tuple"
 ·rw[fT,if_neg hD,if_pos hT]at e
  cases e;exact EY I zh r1 rr hD hT fun tk=>⟨.bl _,H,I.tok _,rfl,q⟩
 ·rw[fT,if_neg hD,if_neg hT]at e;cases e
theorem uK{x:Str}{T:String}{p2:Pos}(hg:Gl X "isinstance")(hm:X.mg "isinstance" = none)(hgT:Gl X x)(hmT:X.mg x=none)(hvT:bootBuiltins x=some (.type T))(hnT:x ≠ "__name__")(hdT:(x==("__debug__":Str))=false)(ha:EV X a f)
  (he:starEach (a::[.Name x p2]) X.env=(false,eval a X.env)::starEach [.Name x p2] X.env:=by rfl) (he2:starEach ((.Name x p2)::[]) X.env=(false,eval (.Name x p2) X.env)::starEach [] X.env:=by rfl) (hpl:(backTo pos (starEach [.Name x p2] X.env)).any (·.1)=false:=by rfl) :
  EV X (.Call (.Name "isinstance" p) [a,.Name x p2] [] pos) (o1 f (fT T)):=
 PE.imp (fR (Ia T) hg hm PyProof.Rows.boot_isinstance (bK ha (bK (Bs (v:=.ty T) hgT hmT hvT rfl hnT hdT) cM he2) he) (by decide) (by decide) he hpl) fun σ H Q h=>by
  obtain⟨H₀,Z₀,Z,δ,d,hh,e,k⟩:=h;obtain⟨y,e1,e⟩:=bind_some e;refine⟨H₀,Z₀,Z,δ,y,hh,e1,fun v Z1 H1 hh1 s1 r1=>⟨v,Z1,y,d,rfl,hh1.zh,r1,e,?_⟩⟩
  have:∃b,d=.bool b:=by
   unfold fT at e;split at e
   ·cases e
   ·split at e
    ·cases e;exact⟨_,rfl⟩
    ·cases e
  obtain⟨b,rfl⟩:=this;exact⟨b,rfl,k _ Z1 H1 hh1 s1 (.bl b)⟩
end
section
variable{X:Cx}{a b c e tg iter:Expr}{es:List Expr}{pos p:Pos}{f f1 f2 f3:Dv->Option D}{fs:Dv->Option (List D)}{ft fu:Dv->Option Bool}{st:Stmt}{sts body orelse:List Stmt}{s1 s2 s3:Sf}
theorem aQ(he:EV X e f):SV X (.Return (some e) pos) (bA f):=
 PS.imp (yA he) fun D σ H h=>by
  obtain⟨H₀,Z₀,Z,δ,r,hh,e,k⟩:=h;obtain⟨x,e1,e⟩:=bind_some e;cases e;exact⟨H₀,Z₀,Z,δ,x,hh,e1,fun v Z1 H1 hh1 s1 r1=>k σ H1 Z1 hh1 s1 v r1⟩
theorem aF(i:Nat){x:Str}{pos':Pos}(hN:X.N.Nodup)(he:EV X e f)(hi:X.N[i]? = some x:=by rfl)(hx:pE X.env.scope x:=by first|exact Or.inl rfl|exact Or.inr rfl)(hs:swapsWith e (some (.Name x pos')) pos.line X.env=pure false:=by rfl)
  (hf:X.fn x=true\/X.env.scope.names.lookup x=some .local:=by first|exact .inl rfl|exact .inr rfl|assumption):SV X (.Assign [.Name x pos'] e pos) (aI i f):=
 PS.imp (dZ hN hi hx he hs hf) fun D σ H h=>by
  obtain⟨H₀,Z₀,Z,δ,r,hh,e,k⟩:=h;obtain⟨x,e1,e⟩:=bind_some e;cases e;exact⟨H₀,Z₀,Z,δ,x,hh,e1,fun v Z1 H1 hh1 s1 r1=>k _ H1 Z1 (hh1.set r1) s1⟩
theorem GU{D:Ends}{σ:St}{H:Hp}{K:Fg}(h:CJ K dS D σ H):D.nx σ H:=by
 obtain⟨H₀,Z₀,Z,δ,r,hh,e,k⟩:=h;cases e;exact k σ H Z hh (Same.refl _)
theorem bu:BV X [] dS:=PSs.imp pY fun D σ H h=>GU h
theorem ai(h1:SV X st s1)(h2:BV X sts s2):BV X (st::sts) (ap s1 s2):=
 PSs.imp (g7 h1 h2) fun D σ H h=>by
  obtain⟨H₀,Z₀,Z,δ,r,hh,e,k⟩:=h;obtain⟨⟨fl,δ'⟩,e1,e⟩:=bind_some e;refine⟨H₀,Z₀,Z,δ,(fl,δ'),hh,e1,fun σ' H' Z' hh' s'=>?_⟩
  cases fl with
  |nx=>exact⟨H₀,Z₀,Z',δ',r,hh',e,fun σ2 H2 Z2 hh2 s2=>by
    have:=k σ2 H2 Z2 hh2 (s'.trans s2);obtain⟨fl,δ2⟩:=r;cases fl<;>exact this⟩
  |bk=>cases e;exact k σ' H' Z' hh' s'
  |ct=>cases e;exact k σ' H' Z' hh' s'
  |rt d=>cases e;exact k σ' H' Z' hh' s'
theorem av(h1:SV X st s1):BV X [st] s1:=pX h1
theorem bS(hc:TV X c ft)(ha:BV X body s1)(hb:BV X orelse s2):SV X (.If c body orelse pos) (bH ft s1 s2):=
 PS.imp (vm hc ha hb) fun D σ H h=>by
  obtain⟨H₀,Z₀,Z,δ,r,hh,e,k⟩:=h;obtain⟨x,e1,e⟩:=bind_some e;refine⟨H₀,Z₀,Z,δ,x,hh,e1,fun Z1 H1 hh1 t1=>?_⟩
  cases x with
  |true=>exact⟨H₀,Z₀,Z1,δ,r,hh1,e,fun σ2 H2 Z2 hh2 t2=>k σ2 H2 Z2 hh2 (t1.trans t2)⟩
  |false=>exact⟨H₀,Z₀,Z1,δ,r,hh1,e,fun σ2 H2 Z2 hh2 t2=>k σ2 H2 Z2 hh2 (t1.trans t2)⟩
theorem HM{K:Fg}(i:Nat){D:Ends}{σ:St}{H:Hp}(h:CJ K (fun δ=>s1 (jM i δ)) D σ H):CJ K s1 D σ H:=by
 obtain⟨H₀,Z₀,Z,δ,r,hh,e,k⟩:=h;have e:s1 (jM i δ)=some r:=e;unfold jM at e;split at e
 ·rename_i ds q
  obtain⟨Z1,t1,hh1⟩:=hh.frz q;exact⟨H₀,Z₀,Z1,_,r,hh1,e,fun σ2 H2 Z2 hh2 t2=>k σ2 H2 Z2 hh2 (t1.trans t2)⟩
 ·exact⟨H₀,Z₀,Z,_,r,hh,e,k⟩
theorem kq(i:Nat)(h:SV X st s1):SV X st (fun δ=>s1 (jM i δ)):=PS.imp h fun D σ H q=>HM i q
def K4(K:Fg)(g:D->Dv->Option Dv):TG:=fun v σ H Q=>∃H₀ Z₀ Z δ d δ',Hold K H₀ Z₀ Z δ σ H/\Rep K Z v d/\g d δ = some δ'/\∀ σ' H' Z',Hold K H₀ Z₀ Z' δ' σ' H'->Same Z Z'->Q σ' H'
def GV(X:Cx)(tg:Expr)(g:D->Dv->Option Dv):Prop:=PG X tg (K4 X.K g)
theorem PG.imp{t t':TG}(h:PG X tg t)(i:∀v σ H Q,t' v σ H Q->t v σ H Q):PG X tg t':=fun pins s σ H x v Q I r q=>h pins s σ H x v Q I r (i _ _ _ _ q)
theorem b8(i:Nat){x:Str}(hN:X.N.Nodup)(hi:X.N[i]? = some x:=by rfl)(hx:pE X.env.scope x:=by first|exact Or.inl rfl|exact Or.inr rfl)
  (hf:X.fn x=true\/X.env.scope.names.lookup x=some .local:=by first|exact .inl rfl|exact .inr rfl|assumption):GV X (.Name x pos) (gN i):=
 PG.imp (bh hN hi hx hf) fun v σ H Q h=>by
  obtain⟨H₀,Z₀,Z,δ,d,δ',hh,r,e,k⟩:=h;cases e;exact k _ H Z (hh.set r) (Same.refl _)
structure ItOk (K:Fg) (Z:Hp) (J:It) (ds:List D):Prop where
 go:∀(i:Nat) (H:Hp),Same Z H->i<ds.length->J.go i H
 yld:∀(i:Nat) (H:Hp) x H' d,Same Z H->ds[i]? = some d->J.yld i H x H'->H'=H/\Rep K Z x d
 stop:∀(i:Nat) (H:Hp),Same Z H->ds.length<=i->J.stop i H
def Iu(K:Fg)(f:Dv->Option (List D)):TI:=fun σ H R=>∃H₀ Z₀ Z δ ds,Hold K H₀ Z₀ Z δ σ H/\f δ = some ds/\∀J Z' H',Hold K H₀ Z₀ Z' δ σ H'->Same Z Z'->ItOk K Z' J ds->R J H'
def IV(X:Cx)(tg iter:Expr)(f:Dv->Option (List D)):Prop:=PI X tg iter (Iu X.K f)
theorem PI.imp{t t':TI}(h:PI X tg iter t)(i:∀ σ H R,t' σ H R->t σ H R):PI X tg iter t':=fun pins s σ H R I q=>h pins s σ H R I (i _ _ _ q)
theorem dY{g:D->Dv->Option Dv}(hp:PassesOwn (model X.prog X.w) X.A X.env X.xe)(hc:X.calm=true)(hi:IV X tg iter fs)(hg:GV X tg g)(hb:BV X body s1)
  (hs:∀x,foldedSetIterable iter X.env x=pure x:=by intro _;rfl):SV X (.For tg iter body [] pos) (eM fs g s1):=
 PS.imp (Eb hp hc hi hg hb hs) fun D σ H h=>by
  obtain⟨H₀,Z₀,Z,δ,r,hh,e,k⟩:=h;obtain⟨ds,e1,e⟩:=bind_some e;refine⟨H₀,Z₀,Z,δ,ds,hh,e1,fun J Z1 H1 hh1 t1 ok=>?_⟩
  refine⟨fun i m σ H=>m=ds.length-i/\i<=ds.length/\∃Zc δc,Hold X.K H₀ Z₀ Zc δc σ H/\Same Z1 Zc/\loop g s1 (ds.drop i) δc=some r,⟨ds.length,by simp,zero_le _,Z1,δ,hh1,Same.refl _,e⟩,?_⟩
  rintro i m σ2 H2 ⟨rfl,hi2,Zc,δc,hhc,tc,ec⟩;have zh:Same Z1 H2:=tc.trans hhc.zh;by_cases hlt:i<ds.length
  ·refine .inr ⟨ok.go i H2 zh hlt,fun σ3 H3=>∃Zc δc,Hold X.K H₀ Z₀ Zc δc σ3 H3/\Same Z1 Zc/\loop g s1 (ds.drop (i+1)) δc=some r,fun σ3 H3 q=>⟨ds.length-(i+1),by omega,rfl,hlt,q⟩,fun x H3 y=>?_⟩
   have ed:ds[i]? = some ds[i]:=by simp[hlt]
   obtain⟨rfl,rx⟩:=ok.yld i H2 x H3 _ zh ed y;rw[List.drop_eq_getElem_cons hlt]at ec;obtain⟨δ1,g1,ec⟩:=bind_some ec;obtain⟨⟨fl,δ2⟩,g2,ec⟩:=bind_some ec;refine⟨H₀,Z₀,Zc,δc,_,δ1,hhc,rx.same tc,g1,fun σ4 H4 Z4 hh4 t4=>⟨H₀,Z₀,Z4,δ1,(fl,δ2),hh4,g2,fun σ5 H5 Z5 hh5 t5=>?_⟩⟩
   cases fl with
   |nx=>exact⟨Z5,δ2,hh5,(tc.trans t4).trans t5,ec⟩
   |ct=>exact⟨Z5,δ2,hh5,(tc.trans t4).trans t5,ec⟩
   |bk=>cases ec;exact k σ5 H5 Z5 hh5 (((t1.trans tc).trans t4).trans t5)
   |rt d=>cases ec;exact k σ5 H5 Z5 hh5 (((t1.trans tc).trans t4).trans t5)
  ·have e2:ds.drop i=[]:=List.drop_eq_nil_iff.mpr (by omega)
   rw[e2]at ec;cases ec;exact .inl ⟨ok.stop i H2 zh (by omega),k σ2 H2 Zc hhc (t1.trans tc)⟩
theorem xW(n:Dv->Nat)(hp:PassesOwn (model X.prog X.w) X.A X.env X.xe)(hc:TV X c ft)(hb:BV X body s1):SV X (.While c body [] pos) (fun δ=>fN ft s1 (n δ) δ):=
 PS.imp (yz hp hc hb) fun D σ H h=>by
  obtain⟨H₀,Z₀,Z,δ,r,hh,e,k⟩:=h;refine⟨fun m σ H=>∃Zc δc,Hold X.K H₀ Z₀ Zc δc σ H/\Same Z Zc/\fN ft s1 m δc=some r,⟨n δ,Z,δ,hh,Same.refl _,e⟩,?_⟩
  rintro m σ2 H2 ⟨Zc,δc,hhc,tc,ec⟩;cases m with
  |zero=>cases ec
  |succ m=>
   obtain⟨cc,g1,ec⟩:=bind_some ec;refine⟨H₀,Z₀,Zc,δc,cc,hhc,g1,fun Z3 H3 hh3 t3=>?_⟩
   cases cc with
   |false=>cases ec;exact k σ2 H3 Z3 hh3 (tc.trans t3)
   |true=>
    obtain⟨⟨fl,δ2⟩,g2,ec⟩:=bind_some ec;refine⟨fun σ4 H4=>∃Zc δc,Hold X.K H₀ Z₀ Zc δc σ4 H4/\Same Z Zc/\fN ft s1 m δc=some r,fun σ4 H4 q=>⟨m,Nat.lt_succ_self m,q⟩,?_⟩
    refine⟨H₀,Z₀,Z3,δc,(fl,δ2),hh3,g2,fun σ5 H5 Z5 hh5 t5=>?_⟩
    cases fl with
    |nx=>exact⟨Z5,δ2,hh5,(tc.trans t3).trans t5,ec⟩
    |ct=>exact⟨Z5,δ2,hh5,(tc.trans t3).trans t5,ec⟩
    |bk=>cases ec;exact k σ5 H5 Z5 hh5 ((tc.trans t3).trans t5)
    |rt d=>cases ec;exact k σ5 H5 Z5 hh5 ((tc.trans t3).trans t5)
theorem zf{K:Fg}{Z:Hp}{lo:Int}{n:Nat}:ItOk K Z (FM lo n) (kM lo n) where
 go:=fun i H _ h=>by simpa[kM,FM]using h
 yld:=fun i H x H' d _ e y=>by
  obtain⟨rfl,rfl⟩:=y;refine⟨rfl,?_⟩;unfold kM at e;rw[getElem?_map]at e;cases q:(List.range n)[i]? with
  |none=>rw[q]at e;cases e
  |some k=>
   rw[q]at e;cases e;have:k=i:=by
    obtain⟨h,h2⟩:=List.getElem?_eq_some_iff.mp q;simpa using h2.symm
   subst this;exact .int _
 stop:=fun i H _ h=>by simpa[kM,FM]using h
theorem o6(hg:Gl X "range")(hm:X.mg "range" = none)(ha:AV X [a] fs)(hs:starEach [a] X.env=[(false,eval a X.env)]:=by rfl):IV X tg (.Call (.Name "range" p) [a] [] pos) (oL fs ma):=
 PI.imp (wT hg hm ha hs) fun σ H R h=>by
  obtain⟨H₀,Z₀,Z,δ,ds,hh,e,k⟩:=h;obtain⟨as,e1,e⟩:=bind_some e;refine⟨H₀,Z₀,Z,δ,as,hh,e1,fun vs Z1 H1 hh1 t1 r1=>?_⟩
  unfold ma at e;split at e
  ·rename_i j
   split at e
   ·rename_i hj
    cases e;cases r1 with
    |cons q1 q2=>
     cases q2;exact⟨j,by rw[q1.int_eq],hj.2,hj.1,k _ Z1 H1 hh1 t1 zf⟩
   ·cases e
  ·cases e
theorem B0(ha:EV X a f):IV X tg a (oI f sx):=
 PI.imp (Bk ha) fun σ H R h=>by
  obtain⟨H₀,Z₀,Z,δ,ds,hh,e,k⟩:=h;obtain⟨y,e1,e⟩:=bind_some e;refine⟨H₀,Z₀,Z,δ,y,hh,e1,fun v Z1 H1 hh1 t1 r1=>?_⟩
  cases r1 with
  | @lst l xs ds' h1 q1=>
   cases e;refine⟨l,rfl,⟨xs,SqL.same h1 hh1.zh⟩,k _ Z1 H1 hh1 t1 ⟨fun i H2 z hi=>?_,fun i H2 x H3 d z ed y=>?_,fun i H2 z hi=>⟨xs,SqL.same h1 z,by rw[q1.length];exact hi⟩⟩⟩
   ·have hi':i<xs.length:=by rw[q1.length];exact hi
    exact⟨xs,xs[i],SqL.same h1 z,by simp[hi']⟩
   ·obtain⟨rfl,y⟩:=y
    obtain⟨v,ev,rv⟩:=q1.get ed;have:=y xs (SqL.same h1 z);rw[ev]at this;cases this;exact⟨rfl,rv⟩
  |_=>cases e
theorem ET(ha:EV X a f):IV X tg a (oI f Jc):=
 PI.imp (Ed ha) fun σ H R h=>by
  obtain⟨H₀,Z₀,Z,δ,ds,hh,e,k⟩:=h;obtain⟨y,e1,e⟩:=bind_some e;refine⟨H₀,Z₀,Z,δ,y,hh,e1,fun v Z1 H1 hh1 t1 r1=>?_⟩
  cases r1 with
  | @tup l xs ds' h1 q1=>
   cases e;refine⟨l,rfl,⟨xs,SqT.same h1 hh1.zh⟩,k _ Z1 H1 hh1 t1 ⟨fun i H2 z hi=>?_,fun i H2 x H3 d z ed y=>?_,fun i H2 z hi=>⟨xs,SqT.same h1 z,by rw[q1.length];exact hi⟩⟩⟩
   ·have hi':i<xs.length:=by rw[q1.length];exact hi
    exact⟨xs,xs[i],SqT.same h1 z,by simp[hi']⟩
   ·obtain⟨rfl,y⟩:=y
    obtain⟨v,ev,rv⟩:=q1.get ed;have:=y xs (SqT.same h1 z);rw[ev]at this;cases this;exact⟨rfl,rv⟩
  |_=>cases e
end
section
variable{X:Cx}{e:Expr}{lo hi:Option Expr}{p2 pos:Pos}{f:Dv->Option D}
noncomputable def K1(K:Fg)(f:Dv->Option (Option Int)):TO:=fun σ H Q=>∃H₀ Z₀ Z δ d,Hold K H₀ Z₀ Z δ σ H/\f δ = some d/\∀Z' H',Hold K H₀ Z₀ Z' δ σ H'->Same Z Z'->Q d H'
def OV(X:Cx)(e:Option Expr)(f:Dv->Option (Option Int)):Prop:=PO X e (K1 X.K f)
theorem PO.imp{eo:Option Expr}{t t':TO}(h:PO X eo t)(i:∀ σ H Q,t' σ H Q->t σ H Q):PO X eo t':=fun pins s σ H Q I q=>h pins s σ H Q I (i _ _ _ q)
theorem fm:OV X none se:=PO.imp Bj fun σ H Q h=>by
 obtain⟨H₀,Z₀,Z,δ,d,hh,e,k⟩:=h;cases e;exact k Z H hh (Same.refl _)
theorem cS(h:EV X e f):OV X (some e) (oP f):=PO.imp (Bi h) fun σ H Q h=>by
 obtain⟨H₀,Z₀,Z,δ,d,hh,e,k⟩:=h;obtain⟨x,e1,e⟩:=bind_some e;refine⟨H₀,Z₀,Z,δ,x,hh,e1,fun v Z1 H1 hh1 t1 r1=>?_⟩
 cases r1<;>simp[asI]at e;subst e;exact⟨_,rfl,k Z1 H1 hh1 t1⟩
theorem Reps.cut{K:Fg}{Z:Hp}{vs:List V}{ds:List D}(r:Reps K Z vs ds)(lo hi:Option Int):Reps K Z (oh vs lo hi) (cutD ds lo hi):=by
 unfold oh cutD;rw[r.length];exact(r.drop _).take _
theorem uO{ds:List D}{lo hi:Option Int}(h1:HT.sIx ds.length 0 lo=0)(h2:HT.sIx ds.length ds.length hi=ds.length):cutD ds lo hi=ds:=by
 unfold cutD;rw[h1,h2];simp
section
variable{prog:Program}{w:World}{A:Around}{E:Value->Shared->Prop}{s:Shared}
theorem pK{t sl:Addr}{items:Array Value}{vl vu:Value}{lo hi:Option Int}{Q:Value->Shared->Prop}(ht:IsTup s.heap t items)(hs:s.heap.IsSliceOf sl vl vu .none)(pl:IsPart vl lo)(pu:IsPart vu hi)
  (h1:HT.sIx items.size 0 lo=0) (h2:HT.sIx items.size items.size hi=items.size) (h:Q (.ref t) s):wpAny (model prog w) A (getItem (.ref t) (.ref sl)) Q E s:=by
 obtain⟨osl,hos,hcs,hds⟩:=id hs;have ty:s.TypeIs (.ref sl) "slice":=⟨osl,hos,hcs⟩;unfold getItem
 try with_reducible refine wpAny_holding ?_
 first|refine wpAny_bind (wpAny_pure ?_)|skip
 refine wpAny_bind (wpAny_sequenceKey ht.typeIs (by decide) ?_);refine wpAny_bind (wpAny_callSpecial?_slot (name:=Str.ofString "__getitem__") ht.typeIs PyProof.Rows.slot_tuple_getitem
  (wpAny_call_entry PyProof.Rows.slot_tuple_getitem ht.typeIs PyProof.Rows.entry_tuple_getitem ?_ (PyProof.Rows.args_tuple_getitem _ _)))
 show wpAny _ _ (Builtin.Tuple.tupleItemsOf (.ref t) >>= _) _ _ s;refine wpAny_bind (tupleItemsOf_ ht ?_);refine wpAny_bind (wpAny_typeOf ty ?_);rw[if_pos (by decide)];refine wpAny_bind (HT.fP hs pl pu ?_);have yes:(((((HT.sIx items.size 0 lo:Nat):Int)==0)&&((1:Int)==1))&&((HT.sIx items.size items.size hi-HT.sIx items.size 0 lo)==items.size))=true:=by
  rw[h1,h2];simp
 show wpAny _ _ (if(((((HT.sIx items.size 0 lo:Nat):Int)==0)&&((1:Int)==1))&&((HT.sIx items.size items.size hi-HT.sIx items.size 0 lo)==items.size))=true then _ else _) _ _ s;rw[if_pos yes];unfold Builtin.Tuple.tupleIsExact;refine wpAny_bind (wpAny_bind (wpAny_typeOf ht.typeIs (wpAny_pure ?_)));rw[if_pos (by decide)];exact wpAny_bind (wpAny_rule (wpAny_pure ⟨_,rfl,wpAny_pure h⟩))
end
def Jv(K:PySem.W.Frag):V->Option Int->Option Int->Hp->VK->Prop:=fun x lo hi H Q=>∃a xs,x=.ref a/\SqT K H a xs/\HT.sIx xs.length 0 lo=0/\HT.sIx xs.length xs.length hi=xs.length/\Q (.ref a) H
theorem vc:SlR X (Jv X.K):=by
 intro pins s σ H x v vl vu lo hi sl Q I rx hs pl pu h;obtain⟨a,xs,rfl,hx,w1,w2,q⟩:=h;cases rx;obtain⟨its,r,ht,hz⟩:=I.tuple hx;have hlen:its.toArray.size=xs.length:=by rw[size_toArray];exact r.length.symm
 refine⟨"tuple",_,PyProof.Rows.slot_tuple_getitem.lookup,ht.typeIs,?_⟩;exact pK ht hs pl pu (by rw[hlen];exact w1) (by rw[hlen];exact w2) ⟨.ref a,H,I,rfl,q⟩
theorem dA{fl fu:Dv->Option (Option Int)}(he:EV X e f)(hl:OV X lo fl)(hu:OV X hi fu):EV X (.Subscript e (.Slice lo hi none p2) pos) (nN f fl fu):=
 PE.imp (rS (sl_list.or (sl_tup.or vc)) he hl hu) fun σ H Q h=>by
  obtain⟨H₀,Z₀,Z,δ,d,hh,e,k⟩:=h;obtain⟨x,e1,e⟩:=bind_some e;obtain⟨i,e2,e⟩:=bind_some e;obtain⟨j,e3,e⟩:=bind_some e;refine⟨H₀,Z₀,Z,δ,x,hh,e1,fun v Z1 H1 hh1 t1 r1=>⟨H₀,Z₀,Z1,δ,i,hh1,e2,fun Z2 H2 hh2 t2=>⟨H₀,Z₀,Z2,δ,j,hh2,e3,fun Z3 H3 hh3 t3=>?_⟩⟩⟩
  have r3:=(r1.same t2).same t3;have tt:=(t1.trans t2).trans t3;cases r3 with
  | @lst a xs ds h1 q1=>
   cases e;refine .inl ⟨_,_,rfl,SqL.same h1 hh3.zh,fun p hp=>?_⟩
   have n:=New.add hh3.zh hp (.lst (oh xs i j));exact k _ _ _ (hh3.new n) (tt.trans n.z) (.lst (SqL.of ay) ((q1.cut i j).same n.z))
  | @tup a xs ds h1 q1=>
   simp only[ue]at e;cases e;by_cases hw:HT.sIx ds.length 0 i=0/\HT.sIx ds.length ds.length j=ds.length
   ·refine .inr (.inr ⟨_,_,rfl,SqT.same h1 hh3.zh,by rw[q1.length];exact hw.1,by rw[q1.length];exact hw.2,?_⟩)
    refine k _ _ _ hh3 tt ?_;rw[uO hw.1 hw.2];exact .tup h1 q1
   ·refine .inr (.inl ⟨_,_,rfl,SqT.same h1 hh3.zh,by rw[q1.length];exact hw,fun p hp=>?_⟩)
    have n:=New.add hh3.zh hp (.tup (oh xs i j));exact k _ _ _ (hh3.new n) (tt.trans n.z) (.tup (SqT.of ay) ((q1.cut i j).same n.z))
  |_=>cases e
end
structure FunV (K:PySem.W.Frag) (x qual:Str) (st:Stmt) (f:Addr) (fd:FuncData) (dV:Value):Prop where
 ex:∃(oc:Value) (od:Option Addr) (kV doc pm:Value) (an:Option Addr) (cdv ct:Value) (osl:Array (Option Value)),
  fd=PySem.W.fnOf x qual (fA st) (cK st) (aj st) dV kV doc pm an cdv ct/\K.lookup f=some ⟨oc,od,.func fd,osl⟩/\codeIn K cdv qual=true
 kp:keepIn K (.ref f)=true
section
variable{P:Program}{w:World}{K:PySem.W.Frag}{mg:Str->Option Value}{base:Heap}
theorem wF{N:List Str}{vs:List V}{as:List D}{Z:Hp}(r:Reps K Z vs as):∀(i:Nat) d,(az N as)[i]? = some (.fz d)->∃v,(dh N vs)[i]? = some (some v)/\Rep K Z v d:=by
 intro i d e;unfold az at e;unfold L2.dh;by_cases hi:i<as.length
 ·rw[getElem?_append_left (by simpa using hi),getElem?_map]at e
  cases q:as[i]? with
  |none=>rw[q]at e;cases e
  |some d'=>
   rw[q]at e;cases e;obtain⟨v,ev,rv⟩:=r.get q;exact⟨v,by rw[getElem?_append_left (by simpa[r.length]using hi),getElem?_map,ev];rfl,rv⟩
 ·rw[getElem?_append_right (by simpa using hi),getElem?_replicate]at e
  split at e<;>cases e
theorem oA{N:List Str}{as:List D}:∀(i:Nat) ds,(az N as)[i]? ≠ some (.own ds):=by
 intro i ds e;unfold az at e;by_cases hi:i<as.length
 ·rw[getElem?_append_left (by simpa using hi),getElem?_map]at e
  cases q:as[i]? with
  |none=>rw[q]at e;cases e
  |some d'=>rw[q]at e;cases e
 ·rw[getElem?_append_right (by simpa using hi),getElem?_replicate]at e
  split at e<;>cases e
theorem ya{N:List Str}{as:List D}:∀(i:Nat) ds,(az N as)[i]? ≠ some (.fr ds):=by
 intro i ds e;unfold az at e;by_cases hi:i<as.length
 ·rw[getElem?_append_left (by simpa using hi),getElem?_map]at e
  cases q:as[i]? with
  |none=>rw[q]at e;cases e
  |some d'=>rw[q]at e;cases e
 ·rw[getElem?_append_right (by simpa using hi),getElem?_replicate]at e
  split at e<;>cases e
theorem gy{N:List Str}{vs:List V}{as:List D}{Z H:Hp}(zh:Same Z H)(r:Reps K Z vs as):Hold K H Z Z (az N as) (dh N vs) H:=
 ⟨zh,Same.refl _,Same.refl _,fun _ _=>rfl,by simp[az,L2.dh,r.length],wF r,fun i ds e=>absurd e (oA i ds),fun i j ds es a _ e=>absurd e (oA i ds),fun i ds e=>absurd e (ya i ds),NoF.refl _⟩
theorem J7{x qual:Str}{st:Stmt}{f:Addr}{fd:FuncData}{dV:Value}{N ps:List Str}{k:Nat}{g:List D->Option D}{b:Sf}(F:FunV K x qual st f fd dV)(S:FnScope N ps (aj st))(len:∀as d,g as=some d->as.length=ps.length)
  (hb:∀(cdv:Value) (A:Around) (outer:List Env) (s:Shared) (H:Hp) (E:XK),Room k (A.deeper (envOfC qual (aj st) s.heap.objs.size f cdv))->BV (eU dM P w K mg base N qual (aj st) f cdv A outer s H E).nox (cK st) b)
  (hg:∀as d,g as=some d->∃ δ',b (az N as)=some (.rt d,δ')\/(d=.none/\b (az N as)=some (.nx,δ'))):FnOk P w K mg base dM (k+1) f fd ps (f9 K g):=by
 obtain⟨oc,od,kV,doc,pm,an,cdv,ct,osl,rfl,lk,hcd⟩:=F.ex;refine v5 lk hcd S (fun vs H Q E h=>?_) fun A outer s H vs Q E hr hsp=>?_
 ·obtain⟨Z,as,d,zh,r,e,_⟩:=h
  rw[r.length];exact len as d e
 ·refine⟨_,PSs.nox (hb cdv A outer s H E hr),?_⟩
  obtain⟨Z,as,d,zh,r,e,kk⟩:=hsp;have hh:=gy (N:=N) zh r;have fin:∀{σ':St} {H' Z':Hp} {δ':Dv},Hold K H Z Z' δ' σ' H'->Same Z Z'->New Z H Z' H':=fun h' z'=>⟨z',h'.h0,h'.zh,h'.zb,h'.nf⟩
  obtain⟨δ',e2|⟨rfl,e2⟩⟩:=hg as d e
  ·exact⟨H,Z,Z,_,_,hh,e2,fun σ' H' Z' h' z' v rv=>kk v Z' H' (fin h' z') rv⟩
  ·exact⟨H,Z,Z,_,_,hh,e2,fun σ' H' Z' h' z'=>kk _ Z' H' (fin h' z') .non⟩
theorem FunV.binds{x qual:Str}{st:Stmt}{f:Addr}{fd:FuncData}{ps:List Str}(F:FunV K x qual st f fd .none)
  (h:∀(kV doc pm:Value) (an:Option Addr) (cdv ct:Value) (us:List Value),us.length=ps.length->bindArgs (PySem.W.fnOf x qual (fA st) (cK st) (aj st) .none kV doc pm an cdv ct) ⟨us,[]⟩=pure (ps.zip us)):Binds K fd ps []:=by
 obtain⟨oc,od,kV,doc,pm,an,cdv,ct,osl,rfl,lk,hcd⟩:=F.ex;exact .all (h kV doc pm an cdv ct)
theorem v3{x qual:Str}{st:Stmt}{f:Addr}{dV oc:Value}{od an:Option Addr}{osl:Array (Option Value)}{kV doc pm cdv ct:Value}(l:K.lookup f=some ⟨oc,od,.func (PySem.W.fnOf x qual (fA st) (cK st) (aj st) dV kV doc pm an cdv ct),osl⟩)
  (c:codeIn K cdv qual=true) (k:keepIn K (.ref f)=true):FunV K x qual st f (PySem.W.fnOf x qual (fA st) (cK st) (aj st) dV kV doc pm an cdv ct) dV:=⟨⟨oc,od,kV,doc,pm,an,cdv,ct,osl,rfl,l,c⟩,k⟩
end
section
variable{P:Program}{w:World}{K:PySem.W.Frag}{mg:Str->Option Value}{base:Heap}
theorem dz{x qual:Str}{st:Stmt}{f:Addr}{fd:FuncData}{dV:Value}{N ps:List Str}{k:Nat}{b:Sf}(F:FunV K x qual st f fd dV)(S:FnScope N ps (aj st))
  (hb:∀(cdv:Value) (A:Around) (outer:List Env) (s:Shared) (H:Hp) (E:XK),Room k (A.deeper (envOfC qual (aj st) s.heap.objs.size f cdv))->BV (eU dM P w K mg base N qual (aj st) f cdv A outer s H E).nox (cK st) b) :
  FnOk P w K mg base dM (k+1) f fd ps (f9 K (aR N ps.length b)):=by
 refine J7 F S (fun as d h=>?_) hb fun as d h=>?_
 ·unfold aR at h
  split at h
  ·assumption
  ·cases h
 ·unfold aR at h
  split at h
  ·obtain⟨⟨fl,δ'⟩,e,h⟩:=bind_some h
   cases fl with
   |nx=>cases h;exact⟨δ',.inr ⟨rfl,e⟩⟩
   |rt d=>cases h;exact⟨δ',.inl e⟩
   |bk=>cases h
   |ct=>cases h
  ·cases h
structure Cal (P:Program) (w:World) (K:PySem.W.Frag) (mg:Str->Option Value) (base:Heap) (x:Str) (k:Nat) (g:List D->Option D) (dd:List D):Prop where
 ex:∃(fa:Addr) (fd:FuncData) (ps:List Str) (ds:List Value) (dv:List V),FnOk P w K mg base dM k fa fd ps (f9 K g)/\mg x=some (.ref fa)/\keepIn K (.ref fa)=true/\Binds K fd ps ds/\Vals dv ds/\∀Z,Reps K Z dv dd
theorem Cal.mk0{x:Str}{k:Nat}{g:List D->Option D}{fa:Addr}{fd:FuncData}{ps:List Str}(F:FnOk P w K mg base dM k fa fd ps (f9 K g))(hm:mg x=some (.ref fa))(hk:keepIn K (.ref fa)=true)(hb:Binds K fd ps []):Cal P w K mg base x k g []:=
 ⟨⟨fa,fd,ps,[],[],F,hm,hk,hb,.nil,fun _=>.nil⟩⟩
end
section
variable{X:Cx}{e:Expr}{es:List Expr}{p pos:Pos}{fs:Dv->Option (List D)}
theorem E8{k:Nat}{x:Str}{g:List D->Option D}{dd:List D}(C:Cal X.prog X.w X.K X.mg X.base x k g dd)(hr:Room k X.A)(hg:Gl X x)(ha:AV X (e::es) fs)(hdb:(x==("__debug__":Str))=false:=by decide)(he:starEach (e::es) X.env=(false,eval e X.env)::starEach es X.env:=by rfl)
  (hpl:(backTo pos (starEach es X.env)).any (·.1)=false:=by rfl):EV X (.Call (.Name x p) (e::es) [] pos) (os fs fun as=>g (as++dd)):=by
 obtain⟨fa,fd,ps,ds,dv,F,hm,hk,hb,hd,hdd⟩:=C.ex;exact Cb F hr hg hm hk hb hd hdd vv ha hdb he hpl
variable{tg a:Expr}{f:Dv->Option D}
theorem aZ(ha:EV X a f):IV X tg a (oI f aU):=by
 intro pins s σ H R I h;obtain⟨H₀,Z₀,Z,δ,ds,hh,e,k⟩:=h;obtain⟨y,e1,e⟩:=bind_some e;cases y with
 |list xs=>exact B0 ha pins s σ H R I ⟨H₀,Z₀,Z,δ,ds,hh,by unfold oI;rw[e1];exact e,k⟩
 |tuple xs=>exact ET ha pins s σ H R I ⟨H₀,Z₀,Z,δ,ds,hh,by unfold oI;rw[e1];exact e,k⟩
 |_=>cases e
end
noncomputable def jb(env:Env):List (Str×NameKind)->List (Str×Addr)->List (Str×Addr)
 |[],cs=>cs
 | (n,k)::r,cs=>if k == .free then jb env r ((n,(env.cells.lookup n).getD 0)::cs)else jb env r cs
theorem mZ{env:Env}:∀(l:List (Str×NameKind)) (cs:List (Str×Addr)),(∀y∈l,y.2=.free->∃c,env.cells.lookup y.1=some c) ->
  (forIn l cs fun(x:Str×NameKind) (r:List (Str×Addr))=>(if(x.2==NameKind.free)=true then do let c <-cellOf env x.1;pure (ForInStep.yield ((x.1,c)::r))else pure (ForInStep.yield r):Sem (ForInStep (List (Str×Addr)))))=pure (jb env l cs)
 |[],cs,_=>rfl
 | (n,k)::r,cs,h=>by
  have ih:=fun cs'=>mZ r cs' fun y hy=>h y (List.mem_cons_of_mem _ hy)
  rw[List.forIn_cons];cases hk:k==NameKind.free with
  |true=>
   have hk':k=.free:=by simpa using hk
   obtain⟨c,ec⟩:=h (n,k) List.mem_cons_self hk';have e1:cellOf env n=pure c:=by unfold cellOf;rw[ec]
   simp only[hk,if_true,e1,pure_bind,jb,ec,getD_some];exact ih _
  |false=>
   simp only[hk,Bool.false_eq_true,if_false,pure_bind,jb];exact ih _
theorem fL{scope:Scope}{env:Env}(h:∀y∈scope.names,y.2=.free->∃c,env.cells.lookup y.1=some c):closureFor scope env=pure (jb env scope.names []):=by
 simp only[closureFor];have:=mZ (env:=env) scope.names [] h
 first
  | (rw[this];rfl)
  | (simp only[this];rfl)
  | (unfold closureFor;simp_all)
theorem bM{env:Env}:∀(l:List (Str×NameKind)) (cs:List (Str×Addr)) (y:Str) (c:Addr),(∀z∈l,z.2=.free->∃c,env.cells.lookup z.1=some c)->(jb env l cs).lookup y=some c->cs.lookup y=some c\/env.cells.lookup y=some c
 |[],cs,y,c,_,e=>.inl e
 | (n,k)::r,cs,y,c,h,e=>by
  unfold jb at e;have hr:=fun z hz=>h z (List.mem_cons_of_mem _ hz)
  split at e
  ·rename_i hk
   rcases bM r _ y c hr e with q|q
   ·rw[lookup_cons]at q
    cases hy:y==n with
    |true=>
     have hy':y=n:=by simpa using hy
     subst hy';rw[hy]at q;obtain⟨c',ec⟩:=h (y,k) List.mem_cons_self (by simpa using hk);simp only[ec,getD_some]at q;cases q;exact .inr ec
    |false=>rw[hy]at q;exact .inl q
   ·exact .inr q
  ·exact bM r cs y c hr e
theorem jO{env:Env}:∀(l:List (Str×NameKind)) (cs:List (Str×Addr)) (y:Str),((y,NameKind.free)∈l\/(cs.lookup y).isSome=true)->((jb env l cs).lookup y).isSome=true
 |[],cs,y,h=>by
  rcases h with h|h
  ·cases h
  ·exact h
 | (n,k)::r,cs,y,h=>by
  unfold jb;split
  ·rename_i hk
   refine jO r _ y ?_;rcases h with h|h
   ·rcases List.mem_cons.mp h with e|e
    ·cases e;exact .inr (by simp[lookup_cons])
    ·exact .inl e
   ·refine .inr ?_
    rw[lookup_cons];cases hy:y==n with
    |true=>rfl
    |false=>exact h
  ·rename_i hk
   refine jO r cs y ?_;rcases h with h|h
   ·rcases List.mem_cons.mp h with e|e
    ·cases e;exact absurd rfl hk
    ·exact .inl e
   ·exact .inr h
theorem eO{env:Env}{y:Str}:∀(l:List (Str×NameKind)),(∀z∈l,z.2≠.cell) ->
  (((l.map fun(n,k)=>if(k==NameKind.free&&env.scope.kind == .function&&env.kindOf n==some .cell)then(n,NameKind.cell)else(n,k)).lookup y=some .cell\/(l.map fun(n,k)=>if(k==NameKind.free&&env.scope.kind == .function&&env.kindOf n==some .cell)then(n,NameKind.cell)else(n,k)).lookup y=some .free)↔l.lookup y=some .free)
 |[],_=>by simp
 | (n,k)::r,h=>by
  have ih:=eO (env:=env) (y:=y) r fun z hz=>h z (List.mem_cons_of_mem _ hz)
  have hk:k≠.cell:=h (n,k) List.mem_cons_self;rw[List.map_cons];cases hy:y==n with
  |true=>
   by_cases hc:(k==NameKind.free&&env.scope.kind == .function&&env.kindOf n==some .cell)=true
   ·have hf:k=.free:=by
     simp only[Bool.and_eq_true]at hc;simpa using hc.1.1
    simp only[if_pos hc,lookup_cons,hy];simp[hf]
   ·simp only[if_neg hc,lookup_cons,hy]
    simp[hk]
  |false=>
   by_cases hc:(k==NameKind.free&&env.scope.kind == .function&&env.kindOf n==some .cell)=true
   ·simp only[if_pos hc,lookup_cons,hy];exact ih
   ·simp only[if_neg hc,lookup_cons,hy];exact ih
noncomputable def cY(X:Cx)(scope:Scope)(N:List Str)(C:Addr)(s₀:Shared)(H₀:Hp)(ex:List Addr):Cx:=
 { X with N:=N,s₀:=s₀,H₀:=H₀,env:=compEnvC scope (jb X.env scope.names []) C X.env,outer:=X.stack,stack:=X.stack,ex:=ex,fn:=fun _=>false,pn:=[],xe:=fun _ _=>False }
structure BlkOk (on:List (Str×NameKind)) (ON:List Str) (scope:Scope) (vars:List Str) (caps:List (Nat×Str)):Prop where
 kind:scope.kind=.function
 cell:∀y∈scope.names,y.2≠.cell
 names:∀y∈scope.names,y.2=.local->scope.names.lookup y.1=some .local
 free:∀y∈scope.names,y.2=.free->on.lookup y.1=some .cell\/on.lookup y.1=some .free
 cap:∀p∈caps,ON[p.1]? = some p.2/\scope.names.lookup p.2=some .free
section
variable{X:Cx}{pins:List (Addr×Obj)}{σ:St}{H H':Hp}{s s':Shared}{scope:Scope}{vars:List Str}{caps:List (Nat×Str)}{fp:List Addr}{C:Addr}
noncomputable def eV(σ:St)(caps:List (Nat×Str)):St:=caps.map fun p=>(σ[p.1]?).getD none
theorem BlkOk.cells(B:BlkOk X.env.scope.names X.N scope vars caps)(I:Inv X pins σ H s):∀y∈scope.names,y.2=.free->∃c,X.env.cells.lookup y.1=some c:=fun y hy e=>I.ok.has y.1 (B.free y hy e)
theorem uR(B:BlkOk X.env.scope.names X.N scope vars caps)(I:Inv X pins σ H s)(hf:∀b∈fp,jf X pins H b)(hlt:∀b∈fp,b<s.heap.objs.size)(hC:s.heap.objs.size<=C):(cY X scope (vars++caps.map (·.2)) C s H fp).Ok where
 mod:=I.ok.mod
 kind:=B.kind
 glob:=I.ok.glob
 blt:=I.ok.blt
 above:=hC
 inj:=fun x y c e1 e2=>by
  rcases bM _ _ _ _ (B.cells I) e1 with q1|q1
  ·cases q1
  ·rcases bM _ _ _ _ (B.cells I) e2 with q2|q2
   ·cases q2
   ·exact I.ok.inj x y c q1 q2
 has:=fun x e=>by
  have:scope.names.lookup x=some .free:=(eO scope.names B.cell).mp e;have:=jO (env:=X.env) scope.names [] x (.inl (PySem.mem_of_lookup this));exact Option.isSome_iff_exists.mp this
 cab:=fun x c e=>nomatch e
 hd:=I.ok.hd
 frames:=I.ok.frames
 stk:=.inl rfl
 exf:=fun b hb=>⟨ne_of_lt (lt_of_lt_of_le (hlt b hb) hC),fun x c e=>by
  rcases bM _ _ _ _ (B.cells I) e with q|q
  ·cases q
  ·exact(hf b hb).2.2.2.2.1 x c q⟩
 bs:=I.bs
 bsz:=Nat.le_trans I.ok.bsz I.sz
 noex:=fun b o e hb=>by
  rcases (hf b hb).2.2.2.1 with z|z
  ·exact I.ok.noex b o e z
  ·exact absurd (lt_of_lt_of_le (lt_size e) (Nat.le_trans I.ok.bsz z)) (lt_irrefl _)
 exfs:=fun b hb z=>by
  rcases List.mem_cons.mp (I.stkSub b z)with q|q
  ·exact(hf b hb).2.1 q
  ·exact(hf b hb).2.2.1 q
 funs:=I.stack
 frf:=I.stkFree
theorem wt(B:BlkOk X.env.scope.names X.N scope vars caps)(I:Inv X pins σ H s)(hf:∀b∈fp,jf X pins H b)(hlt:∀b∈fp,b<s.heap.objs.size)(hC:s.heap.objs.size<=C){h₁:Heap}{m:Str->Option Value}{tk:Nat}(hns:h₁.Ns C m)(old:∀b o,s.heap.get? b=some o->h₁.get? b=some o):
  Inv (cY X scope (vars++caps.map (·.2)) C s H fp) [] (vars.map (fun _=>none)++eV σ caps) H { s with heap:=h₁,toks:=tk }:=by
 refine⟨uR B I hf hlt hC,rfl,I.bare,Un.kept old,⟨m,hns,fun i x v e1 e2 e3=>?_⟩,fun x c e=>?_,I.hok.fresh hC,fun x c e=>?_,fun p hp=>absurd (show p∈([]:List (Addr×Obj))from hp) (by simp),I.hok.kept old,?_⟩
 ·have e1:(vars++caps.map (·.2))[i]? = some x:=e1
  by_cases hi:i<vars.length
  ·rw[getElem?_append_left (by simpa using hi),getElem?_map]at e2
   cases q:vars[i]?<;>rw[q]at e2<;>cases e2
  ·rw[getElem?_append_right (by simpa using hi)]at e1 e2
   simp only[List.length_map]at e2;unfold eV at e2;rw[getElem?_map]at e1 e2;cases q:caps[i-vars.length]? with
   |none=>rw[q]at e1;cases e1
   |some p=>
    rw[q]at e1 e2;cases e1;have hp:=List.mem_of_getElem? q;obtain⟨g1,g2⟩:=B.cap p hp;have gf:X.env.scope.names.lookup p.2=some .cell\/X.env.scope.names.lookup p.2=some .free:=B.free (p.2,.free) (PySem.mem_of_lookup g2) rfl;have ev:σ[p.1]? = some (some v):=by
     have e2:(σ[p.1]?).getD none=some v:=Option.some.inj e2;cases z:σ[p.1]? with
     |none=>rw[z]at e2;cases e2
     |some w=>rw[z]at e2;rw[show w=some v from e2]
    obtain⟨m',_,hl⟩:=I.loc;obtain⟨u,r,l⟩:=hl p.1 p.2 v g1 ev (gf.elim (fun z=>.inr (.inl z)) fun z=>.inr (.inr z))
    refine⟨u,r,.inr ⟨?_,?_⟩⟩
    ·exact(eO scope.names B.cell).mpr g2
    ·rcases l with⟨z,_⟩|⟨_,c,ec,hc⟩
     ·have z:X.env.scope.names.lookup p.2=some .local:=z
      rcases gf with w|w<;>rw[z]at w<;>cases w
     ·obtain⟨c',q'⟩:=Option.isSome_iff_exists.mp (jO (env:=X.env) scope.names [] p.2 (.inl (PySem.mem_of_lookup g2)))
      rcases bM _ _ _ _ (B.cells I) q' with w|w
      ·cases w
      ·rw[ec]at w
       cases w;obtain⟨o,ho,hd⟩:=hc;exact⟨c,q',o,old c o ho,hd⟩
 ·rcases bM _ _ _ _ (B.cells I) e with q|q
  ·cases q
  ·obtain⟨v,o,ho,hd⟩:=I.cell x c q
   exact⟨v,o,old c o ho,hd⟩
 ·rcases bM _ _ _ _ (B.cells I) e with q|q
  ·cases q
  ·exact I.freeC x c q
 ·simp[cY,eV]
theorem wq(I:Inv X pins σ H s)(hf:∀b∈fp,jf X pins H b){D:Addr}{s':Shared}{σ':St}{N:List Str}{ys:List V}{its:List Value}(hC:s.heap.objs.size<=C)(hD:s.heap.objs.size<=D)(hDC:D≠C)
  (J:Inv (cY X scope N C s H fp) [] σ' H' s') (hD':H' D=none) (hp:s'.heap.PlainList D its.toArray) (hv:Vals ys its) (hz:ys.length<=sizeLine) {h':Heap} (hs:Heap.SameBut C s'.heap h') :
  Inv X pins σ (upd H' D (.lst ys)) { s' with heap:=h' }:=by
 have U:Un (ic X.stack) fp H H' s.heap s'.heap:=J.base;have neC:∀b o,s.heap.get? b=some o->b≠C:=fun b o e=>ne_of_lt (lt_of_lt_of_le (lt_size e) hC)
 have neD:∀b o,s.heap.get? b=some o->b≠D:=fun b o e=>ne_of_lt (lt_of_lt_of_le (lt_size e) hD)
 have mv:∀b o,b≠C->s'.heap.get? b=some o->h'.get? b=some o:=fun b o hb e=>hs.extBut b o hb e
 have tD:∀b o,H' b=some o->(upd H' D (.lst ys)) b=some o:=fun b o e=>by rw[au (aH e hD')];exact e
 refine I.call' (s':={ s' with heap:=h' }) (ch:=fp) J.os ⟨fun b o e n h1 h2=>mv b o (neC b o e) (U.keep b o e n h1 h2),fun b o e n h1 h2=>?_,fun b o e n h2=>?_,fun b o e h2=>?_,fun b xs e=>tD _ _ (U.tups b xs e),fun b o xs e=>tD _ _ (U.frzs b o xs e),fun b ps e=>?_⟩ (fun b o e=>?_) J.bare
  (fun b hb=>⟨(hf b hb).2.2.2.1,(hf b hb).2.1,(hf b hb).2.2.2.2.1,(hf b hb).2.2.2.2.2⟩)
 ·obtain⟨sl,q⟩:=U.slot b o e n h1 h2
  exact⟨sl,mv b _ (neC b o e) q⟩
 ·rw[au (neD b o e)];exact U.free b o e n h2
 ·obtain⟨o',q⟩:=U.there b o e h2
  exact⟨o',mv b _ (neC b o e) q⟩
 ·obtain⟨more,q⟩:=U.tbls b ps e
  exact⟨more,tD _ _ q⟩
 ·by_cases hb:b=D
  ·subst hb
   rw[ay]at e;cases e;obtain⟨n,q⟩:=hp;exact⟨hz,its,n,hv,mv _ _ hDC q⟩
  ·rw[au hb]at e
   refine(J.hok b o e).stay (fun c v hc q=>mv c v ?_ q) (fun c q=>tD _ _ q) fun c xs q=>tD _ _ q
   intro z;have fc:H' C=none:=J.free;rcases hc with w|w
   ·rw[<-w,z,fc]at e;cases e
   ·rw[z,fc]at w;cases w
theorem tj(elt target iter:Expr)(scope:Scope)(pos:Pos)(it acc:Value)(env:Env):
  compTurn (.ListComp elt [⟨target,iter,[],0⟩] scope pos) 0 it acc env=(standAt iter.pos >>= fun _=>pyNext it >>= fun r=>match r with
   |none=>pure (.done .next)
   |some v=>letOwnedTupleGo target it v >>= fun _=>assign target env v >>= fun _=>
    (eval elt env >>= fun x=>call (.builtin "list.append") [acc,x] >>= fun _=>pure ()) >>= fun _=>
     again (.compLoop (.ListComp elt [⟨target,iter,[],0⟩] scope pos) 0 it acc env)):=by rfl
def wz(σ σ':St):Prop:=σ.length = σ'.length/\∀(i:Nat) v,σ[i]? = some (some v) -> σ'[i]? = some (some v)
def CK(wi:TI)(g:TG)(te:TE)(vars:List Str)(caps:List (Nat×Str)):TE:=fun σ H Q=>wi σ H fun J H1=>∃W:Nat->Nat->List V->Hp->Prop,(∃m,W 0 m [] H1)/\∀i m ys H,W i m ys H ->
 (J.stop i H/\ys.length<=sizeLine/\∀p,H p=none->Q (.ref p) (upd H p (.lst ys))) \/
 (J.go i H/\ys.length<sizeLine/\∀x H',J.yld i H x H'->g x (vars.map (fun _=>none)++eV σ caps) H' fun σ2 H2=>wz (vars.map (fun _=>none)++eV σ caps) σ2/\te σ2 H2 fun y H3=>∃m',m'<m/\W (i+1) m' (ys++[y]) H3)
theorem kY{prog:Program}{w:World}{A:Around}{R:Result->Shared->Prop}{s:Shared}{elt target iter:Expr}{scope:Scope}{pos:Pos}{it acc:Value}{env:Env}(I:Nat->Shared->Prop)
  (turn:∀n s,I n s->wpAny (model prog w) A (pyNext it) (fun r s₁=>match r with
   |none=>R (.ok .next) s₁
   |some v=>wpAny (model prog w) A (letOwnedTupleGo target it v) (fun _ s₁=>wpAny (model prog w) A (assign target env v) (fun _ s₂=>wpAny (model prog w) A (eval elt env) (fun x s₃=>
     wpAny (model prog w) A (call (.builtin "list.append") [acc,x]) (fun _ s₄=>∃m,m<n/\I m s₄) (fun _ _=>False) s₃) (fun _ _=>False) s₂) (fun _ _=>False) s₁) (fun _ _=>False) s₁) (fun _ _=>False) s)
  (n:Nat) (h:I n s):codeAny (model prog w) A (.compLoop (.ListComp elt [⟨target,iter,[],0⟩] scope pos) 0 it acc env) R s:=by
 refine codeAny_loop rfl I (fun n s hI=>?_) n h;show wpAny _ _ ((compTurn (.ListComp elt [⟨target,iter,[],0⟩] scope pos) 0 it acc env).onRaise (fun x=>do noteFrame x env;theTreesLotGoes x)) _ _ s;refine wpAny_noted ?_;rw[tj];refine wpAny_bind (wpAny_standAt (wpAny_bind (wpAny_mono (turn n s hI) (fun r s₁ h₁=>?_) fun _ _ h'=>h'.elim)))
 cases r with
 |none=>exact wpAny_pure h₁
 |some v=>
  refine wpAny_bind (wpAny_mono h₁ (fun _ s₁ h₁=>?_) fun _ _ h'=>h'.elim)
  exact wpAny_bind (wpAny_mono h₁ (fun _ s₂ h₂=>wpAny_bind (wpAny_bind (wpAny_mono h₂ (fun x s₃ h₃=>wpAny_bind (wpAny_mono h₃
   (fun _ s₄ h₄=>wpAny_pure (wpAny_pure ⟨rfl,h₄⟩)) fun _ _ h'=>h'.elim)) fun _ _ h'=>h'.elim))) fun _ _ h'=>h'.elim)
end
section
variable{X:Cx}{scope:Scope}{vars:List Str}{caps:List (Nat×Str)}{elt tg iter:Expr}{pos:Pos}{wi:TI}{g:TG}{te:TE}
theorem uP(B:BlkOk X.env.scope.names X.N scope vars caps)(hc:X.calm=true)
  (hg:∀C s₀ H₀ ex,PG (cY X scope (vars++caps.map (·.2)) C s₀ H₀ ex) tg g) (he:∀C s₀ H₀ ex,PE (cY X scope (vars++caps.map (·.2)) C s₀ H₀ ex) elt te)
  {pins:List (Addr×Obj)} {σ:St} {H2:Hp} {s2:Shared} {Q:VK} {it:Addr} {fp:List Addr} {tn:Nat->Heap->Prop} {J:It} (I2:Inv X pins σ H2 s2) (T:Ah X.prog X.w X.K tg J fp it tn) (st2:tn 0 s2.heap) (f2:∀b∈fp,jf X pins H2 b)
  {W:Nat->Nat->List V->Hp->Prop} {m0:Nat} (w0:W 0 m0 [] H2) (turn:∀i m ys H,W i m ys H ->
   (J.stop i H/\ys.length<=sizeLine/\∀p,H p=none->Q (.ref p) (upd H p (.lst ys))) \/
   (J.go i H/\ys.length<sizeLine/\∀x H',J.yld i H x H'->g x (vars.map (fun _=>none)++eV σ caps) H' fun σ2 H2=>wz (vars.map (fun _=>none)++eV σ caps) σ2/\te σ2 H2 fun y H3=>∃m',m'<m/\W (i+1) m' (ys++[y]) H3))
  {RR:Value->Addr->Result->Shared->Prop} {E:Value->Shared->Prop}
  (hRR:∀D C s' m,s'.heap.Ns C m->D≠C->s2.heap.objs.size<=D->s2.heap.objs.size<=C->∀H',H' C=none->(∀h',Heap.SameBut C s'.heap h'->Inv X pins σ H' { s' with heap:=h' })->Q (.ref D) H'->RR (.ref D) C (.ok .next) s') :
  wpAny (model X.prog X.w) X.A (newList []) (fun acc s₃=>wpAny (model X.prog X.w) X.A (newFunctionEnv scope X.env.globals (jb X.env scope.names []) [] X.env.qual none .none (some X.env)) (fun cenv s₄=>
   codeAny (model X.prog X.w) X.A (.compStart (.ListComp elt [⟨tg,iter,[],0⟩] scope pos) 0 (.ref it) acc { cenv with scope:=relabel scope X.env }) (RR acc cenv.locals) s₄) E s₃) E s2:=by
 refine wpAny_newObj_type (wpAny_newFunctionEnv B.cell (by intro y hy;simp at hy) (fun h₁ hns₁ hsb₁=>?_) B.kind);dsimp only at hns₁ hsb₁ ⊢;generalize hP:s2.heap.push { cls:=.type "list",dict:=none,data:=.seq ([]:List Value).toArray }=HP at hns₁ hsb₁ ⊢;have hCs:HP.objs.size=s2.heap.objs.size+1:=by rw[<-hP,Heap.size_push]
 have hDC:s2.heap.objs.size≠HP.objs.size:=by rw[hCs];exact ne_of_lt (Nat.lt_succ_self _)
 have hCle:s2.heap.objs.size<=HP.objs.size:=by rw[hCs];exact Nat.le_succ _
 have old:∀b o,s2.heap.get? b=some o->h₁.get? b=some o:=fun b o e=>hsb₁.extBut b o (ne_of_lt (lt_of_lt_of_le (lt_size e) hCle)) (get?_push_of_some _ (hP ▸ get?_push_of_some _ e))
 have hacc:h₁.PlainList s2.heap.objs.size #[]:=⟨_,hsb₁.extBut _ _ hDC (get?_push_of_some _ (hP ▸ get?_push_size _ rfl))⟩;have flt:∀b∈fp,b<s2.heap.objs.size:=fun b hb=>by
  obtain⟨o,e,_⟩:=T.obj _ _ st2 b hb;exact lt_size e
 have st1:tn 0 h₁:=T.keep _ _ _ st2 fun b _ o e=>old b o e
 have loop:∀s3:Shared,s3={ s2 with heap:=h₁,toks:=s2.toks+([]:List (Str×Value)).length } ->
   codeAny (model X.prog X.w) X.A (.compLoop (.ListComp elt [⟨tg,iter,[],0⟩] scope pos) 0 (.ref it) (.ref s2.heap.objs.size) (compEnvC scope (jb X.env scope.names []) HP.objs.size X.env))
    (RR (.ref s2.heap.objs.size) HP.objs.size) s3:=by
  rintro s3 rfl;have X':=cY X scope (vars++caps.map (·.2)) HP.objs.size s2 H2 fp;have fpo:∀{H':Hp},(∀b∈fp,H' b=none)->∀b∈fp,jf (cY X scope (vars++caps.map (·.2)) HP.objs.size s2 H2 fp) [] H' b:=fun hn b hb=>by
   have ok:=uR B I2 f2 flt hCle;exact⟨hn b hb,(ok.exf b hb).1,ok.exfs b hb,.inl hb,(ok.exf b hb).2,fun p hp=>absurd (show p∈([]:List (Addr×Obj))from hp) (by simp)⟩
  refine kY (fun n s=>∃i ys H its,Inv (cY X scope (vars++caps.map (·.2)) HP.objs.size s2 H2 fp) [] (vars.map (fun _=>none)++eV σ caps) H s/\tn i s.heap/\(∀b∈fp,H b=none)/\s.heap.PlainList s2.heap.objs.size (List.toArray its)/\H s2.heap.objs.size=none/\Vals ys its/\W i n ys H) ?_ m0
   ⟨0,[],H2,[],wt B I2 f2 flt hCle hns₁ old,st1,fun b hb=>(f2 b hb).1,hacc,I2.hok.fresh (le_refl _),.nil,w0⟩
  rintro n s4 ⟨i,ys,H4,its,I4,st4,fr4,pl4,nD4,v4,w4⟩;obtain⟨nn,eD⟩:=id pl4;have DnL:s2.heap.objs.size≠(cY X scope (vars++caps.map (·.2)) HP.objs.size s2 H2 fp).env.locals:=hDC;have Dfs:s2.heap.objs.size ∉ (cY X scope (vars++caps.map (·.2)) HP.objs.size s2 H2 fp).fs:=fun z=>by
   rcases List.mem_cons.mp (I2.stkSub _ z)with q|q
   ·have:=I2.lt;rw[<-q]at this;exact lt_irrefl _ this
   ·exact I2.nofs (le_refl _) q
  have Dfp:∀b∈fp,s2.heap.objs.size≠b:=fun b hb z=>by have:=flt b hb;rw[<-z]at this;exact lt_irrefl _ this
  have DnC:∀x c,(cY X scope (vars++caps.map (·.2)) HP.objs.size s2 H2 fp).env.cells.lookup x=some c->c≠s2.heap.objs.size:=fun x c e z=>by
   rcases bM _ _ _ _ (B.cells I2) e with q|q
   ·cases q
   ·obtain⟨v,o,ho,_⟩:=I2.cell x c q
    have:=lt_size ho;rw[z]at this;exact lt_irrefl _ this
  have pinD:∀{σ':St} {H':Hp} {s':Shared},Inv (cY X scope (vars++caps.map (·.2)) HP.objs.size s2 H2 fp) [(s2.heap.objs.size,{ cls:=.type "list",data:=.seq its.toArray nn })] σ' H' s'->s'.heap.PlainList s2.heap.objs.size its.toArray/\H' s2.heap.objs.size=none:=fun{σ' H' s'} I'=>by
   obtain⟨q1,q2,_⟩:=I'.pin (s2.heap.objs.size,{ cls:=.type "list",data:=.seq its.toArray nn }) (by simp[cY]);exact⟨⟨nn,q1⟩,q2⟩
  have I4p:Inv (cY X scope (vars++caps.map (·.2)) HP.objs.size s2 H2 fp) [(s2.heap.objs.size,{ cls:=.type "list",data:=.seq its.toArray nn })] (vars.map (fun _=>none)++eV σ caps) H4 s4:=
   I4.pins_of fun p hp=>by
    have e:p=(s2.heap.objs.size,{ cls:=.type "list",data:=.seq its.toArray nn }):=by simpa[cY]using hp
    subst e;exact⟨eD,nD4,DnL,Dfs,fun v z=>by cases z⟩
  have fpo':∀{H':Hp},(∀b∈fp,H' b=none)->∀b∈fp,jf (cY X scope (vars++caps.map (·.2)) HP.objs.size s2 H2 fp) [(s2.heap.objs.size,{ cls:=.type "list",data:=.seq its.toArray nn })] H' b:=fun hn b hb=>by
   obtain⟨q1,q2,q3,q4,q5,_⟩:=fpo hn b hb;exact⟨q1,q2,q3,q4,q5,fun p hp=>by
    have e:p=(s2.heap.objs.size,{ cls:=.type "list",data:=.seq its.toArray nn }):=by simpa[cY]using hp
    subst e;exact Dfp b hb⟩
  have unp:∀{pl:List (Addr×Obj)} {σ':St} {H':Hp} {s':Shared},Inv (cY X scope (vars++caps.map (·.2)) HP.objs.size s2 H2 fp) pl σ' H' s'->Inv (cY X scope (vars++caps.map (·.2)) HP.objs.size s2 H2 fp) [] σ' H' s':=fun{pl σ' H' s'} I'=>
   I'.pins_of fun p hp=>absurd (show p∈([]:List (Addr×Obj))from hp) (by simp)
  rcases turn i n ys H4 w4 with⟨stop,hz,qn⟩|⟨go,hz,step⟩
  ·refine b0 (T.done (cY X scope (vars++caps.map (·.2)) HP.objs.size s2 H2 fp) rfl rfl rfl hc i _ s4 _ H4 _ I4p (fpo' fr4) st4 stop) fun r s5 ⟨hr,I5⟩=>?_
   subst hr;obtain⟨p5,n5⟩:=pinD I5;obtain⟨m5,ns5,_⟩:=I5.loc;refine hRR _ _ s5 m5 ns5 hDC (le_refl _) hCle _ ?_ (fun h' hs'=>wq I2 f2 hCle (le_refl _) hDC (unp I5) n5 p5 v4 hz hs') (qn _ n5)
   rw[au hDC.symm];exact I5.free
  ·refine b0 (T.item (cY X scope (vars++caps.map (·.2)) HP.objs.size s2 H2 fp) rfl rfl rfl hc i _ s4 _ H4 _ I4p (fpo' fr4) st4 go) fun r s5 ⟨u,hr,h5⟩=>?_
   subst hr;refine b0 h5 fun _ s6 ⟨x,H6,I6,rx,yx,st6,fr6⟩=>?_
   have I6p:=I6.pinned (fpo' fr6) (T.obj _ _ st6);refine b0 (hg _ _ _ _ _ s6 _ H6 x u _ I6p rx (step x H6 yx)) fun _ s7 ⟨σ7,H7,I7,kp,q7⟩=>?_
   refine b0 (he _ _ _ _ _ s7 σ7 H7 _ I7 q7) fun v s8 ⟨y,H8,I8,ry,m',hm,w8⟩=>?_
   obtain⟨p8,n8⟩:=pinD I8.unpinned;have st8:tn (i+1) s8.heap:=T.keep _ _ _ st6 fun b hb o e=>(I8.pin (b,o) (mem_append_right _ (mem_append_right _ (cx hb e)))).1
   have fr8:∀b∈fp,H8 b=none:=fun b hb=>by
    obtain⟨o,e,d⟩:=T.obj _ _ st6 b hb;exact(I8.pin (b,o) (mem_append_right _ (mem_append_right _ (cx hb e)))).2.1
   have hl:=v4.length;refine wpAny_list_append_plain p8 (fun h9 p9 sb9=>⟨m',hm,i+1,ys++[y],H8,its++[v],?_,?_,fr8,by simpa using p9,n8,v4.append (.cons ry .nil),w8⟩) (by simp;omega)
   ·have I9:Inv (cY X scope (vars++caps.map (·.2)) HP.objs.size s2 H2 fp) [] σ7 H8 { s8 with heap:=h9,toks:=s8.toks }:=
     (unp I8).turned (it:=s2.heap.objs.size) (fun b o hb e=>sb9.extBut b o hb e) n8 DnL (.inr (le_refl _)) DnC fun p hp=>absurd (show p∈([]:List (Addr×Obj))from hp) (by simp)
    exact I9.weak kp.1 kp.2
   ·exact T.keep _ _ _ st8 fun b hb o e=>sb9.extBut b o (Dfp b hb).symm e
 exact codeAny_compStart_list (loop _ rfl) (T.self _ 0 _ _ _ st1 (loop _ rfl))
theorem Bq(B:BlkOk X.env.scope.names X.N scope vars caps)(hc:X.calm=true)(hi:PI X tg iter wi)
  (hg:∀C s₀ H₀ ex,PG (cY X scope (vars++caps.map (·.2)) C s₀ H₀ ex) tg g) (he:∀C s₀ H₀ ex,PE (cY X scope (vars++caps.map (·.2)) C s₀ H₀ ex) elt te) (hs:∀x,foldedSetIterable iter X.env x=pure x:=by intro _;rfl) :
  PE X (.ListComp elt [⟨tg,iter,[],0⟩] scope pos) (CK wi g te vars caps):=by
 intro pins s σ H Q I h;rw[eval_ListComp];refine wpAny_comprehension_free (use:=none) rfl hs (fL (B.cells I)) B.kind B.names ?_;show wpAny _ _ (eval iter X.env) _ _ s;refine b0 (hi pins s σ H _ I h) fun v s1 h1=>b0 h1 fun itv s2 h2=>?_
 obtain⟨it,fp,tn,J,H2,e,I2,T,st2,f2,W,⟨m0,w0⟩,turn⟩:=h2;subst e;exact uP B hc hg he I2 T st2 f2 w0 turn (RR:=fun acc C=>compPost (model X.prog X.w) X.A X.xe none (EP X pins σ Q) acc C) fun D C s' m ns _ _ _ H' _ k q=>⟨m,ns,fun h' hs'=>⟨.ref D,H',k h' hs',rfl,q⟩⟩
end
noncomputable def Gk:Option Sl->Sl
 |some (.fz d)=>.fz d
 |_=>.un
@[simp] theorem Jr(d:D):Gk (some (.fz d))=.fz d:=rfl
noncomputable def br(δ:Dv)(caps:List (Nat×Str)):Dv:=caps.map fun p=>Gk δ[p.1]?
noncomputable def xc(f:D->Option D):List D->Option (List D)
 |[]=>some []
 |d::ds=>(f d).bind fun e=>(xc f ds).bind fun es=>some (e::es)
noncomputable def ku(fi:Dv->Option (List D))(caps:List (Nat×Str))(bv:D->Option (List D))(fe:Dv->Option D):Dv->Option D:=fun δ=>(fi δ).bind fun ds=>if ds.length<=sizeLine then(xc (fun d=>(bv d).bind fun vs=>fe (vs.map .fz++br δ caps)) ds).bind fun es=>some (.list es)else none
noncomputable def lb:D->Option (List D):=fun d=>some [d]
theorem kw{f:D->Option D}:∀{ds es:List D},xc f ds=some es->es.length=ds.length
 |[],es,h=>by cases h;rfl
 |d::ds,es,h=>by
  obtain⟨e,_,h⟩:=bind_some h;obtain⟨es',h2,h⟩:=bind_some h;cases h;exact congrArg (· + 1) (kw h2)
theorem sv{f:D->Option D}:∀{ds es:List D} {i:Nat} {d:D},xc f ds=some es->ds[i]? = some d->∃e,f d=some e/\es[i]? = some e
 |[],es,i,d,h,q=>by simp at q
 |d::ds,es,i,d',h,q=>by
  obtain⟨e,h1,h⟩:=bind_some h;obtain⟨es',h2,h⟩:=bind_some h;cases h;cases i with
  |zero=>simp at q;subst q;exact⟨e,h1,rfl⟩
  |succ i=>simp at q;obtain⟨e',g1,g2⟩:=sv (i:=i) h2 q;exact⟨e',g1,by simpa using g2⟩
def tN(K:Fg)(g:TG)(n:Nat)(bv:D->Option (List D)):Prop:=∀(x:V) (Z:Hp) (d:D) (vs:List D) (σc:St) (H:Hp) (R:St->Hp->Prop),Rep K Z x d->Same Z H->bv d=some vs->(∀us,Reps K Z us vs->us.length=n->R (us.map some ++ σc) H)->g x (List.replicate n none ++ σc) H R
theorem bT{K:Fg}:tN K (zw 0) 1 lb:=fun x Z d vs σc H R r zh e k=>by
 cases e;exact k [x] (.cons r .nil) rfl
section
variable{X:Cx}{scope:Scope}{vars:List Str}{caps:List (Nat×Str)}{elt tg iter:Expr}{pos:Pos}{g:TG}{fi:Dv->Option (List D)}{fe:Dv->Option D}{bv:D->Option (List D)}
theorem zT{σ:St}{δ:Dv}{K:Fg}{H₀ Z₀ Z H:Hp}(hh:Hold K H₀ Z₀ Z δ σ H):∀(j:Nat) d,(br δ caps)[j]? = some (.fz d)->∃v,(eV σ caps)[j]? = some (some v)/\Rep K Z v d:=fun j d e=>by
 unfold br at e;unfold eV;rw[getElem?_map]at e ⊢;cases q:caps[j]? with
 |none=>rw[q]at e;cases e
 |some p=>
  rw[q]at e;have e:Gk δ[p.1]? = .fz d:=Option.some.inj e;cases z:δ[p.1]? with
  |none=>rw[z]at e;cases e
  |some sl=>
   rw[z]at e;cases sl with
   |fz d'=>
    cases e;obtain⟨v,g1,g2⟩:=hh.fz p.1 _ z;exact⟨v,by show some ((σ[p.1]?).getD none)=_;rw[g1];rfl,g2⟩
   |un=>cases e
   |own _=>cases e
   |fr _=>cases e
theorem Ci{δ:Dv}:∀(j:Nat) ds,(br δ caps)[j]? ≠ some (.own ds):=fun j ds e=>by
 unfold br at e;rw[getElem?_map]at e;cases q:caps[j]? with
 |none=>rw[q]at e;cases e
 |some p=>
  rw[q]at e;have e:Gk δ[p.1]? = .own ds:=Option.some.inj e;cases z:δ[p.1]? with
  |none=>rw[z]at e;cases e
  |some sl=>rw[z]at e;cases sl<;>cases e
theorem Cj{δ:Dv}:∀(j:Nat) ds,(br δ caps)[j]? ≠ some (.fr ds):=fun j ds e=>by
 unfold br at e;rw[getElem?_map]at e;cases q:caps[j]? with
 |none=>rw[q]at e;cases e
 |some p=>
  rw[q]at e;have e:Gk δ[p.1]? = .fr ds:=Option.some.inj e;cases z:δ[p.1]? with
  |none=>rw[z]at e;cases e
  |some sl=>rw[z]at e;cases sl<;>cases e
theorem nr{σ:St}{δ:Dv}{K:Fg}{H₀ Z₀ Z H:Hp}(hh:Hold K H₀ Z₀ Z δ σ H){us:List V}{vs:List D}(r:Reps K Z us vs):Hold K H Z Z (vs.map .fz++br δ caps) (us.map some++eV σ caps) H:=by
 have hl:=r.length;refine⟨hh.zh,Same.refl _,Same.refl _,fun _ _=>rfl,by simp[br,eV,hl],fun i d e=>?_,fun i ds e=>?_,fun i j ds es a _ e=>?_,fun i ds e=>?_,NoF.refl _⟩
 ·by_cases hi:i<vs.length
  ·rw[getElem?_append_left (by simpa using hi),getElem?_map]at e
   cases q:vs[i]? with
   |none=>rw[q]at e;cases e
   |some d'=>
    rw[q]at e;cases e;obtain⟨v,g1,g2⟩:=r.get q;exact⟨v,by rw[getElem?_append_left (by simpa[hl]using hi),getElem?_map,g1];rfl,g2⟩
  ·rw[getElem?_append_right (by simpa using hi)]at e
   obtain⟨v,g1,g2⟩:=zT hh _ d e;refine⟨v,?_,g2⟩;rw[getElem?_append_right (by simpa[hl]using hi)];simp only[List.length_map]at g1 ⊢;rw[hl];exact g1
 all_goals
  exfalso;by_cases hi:i<vs.length
  ·rw[getElem?_append_left (by simpa using hi),getElem?_map]at e
   cases q:vs[i]?<;>rw[q]at e<;>cases e
  ·rw[getElem?_append_right (by simpa using hi)]at e
   first|exact Ci _ _ e|exact Cj _ _ e
theorem xB(tk:tN X.K g vars.length bv){σ:St}{H:Hp}{Q:VK}(h:tV X.K (ku fi caps bv fe) σ H Q):CK (Iu X.K fi) g (tV X.K fe) vars caps σ H Q:=by
 obtain⟨H₀,Z₀,Z,δ,d,hh,e,k⟩:=h;obtain⟨ds,e1,e⟩:=bind_some e;by_cases hz:ds.length<=sizeLine
 ·rw[if_pos hz]at e
  obtain⟨es,e2,e⟩:=bind_some e;cases e;have le:=kw e2;have hv:vars.map (fun _=>(none:Option V))=List.replicate vars.length none:=by rw[List.map_const']
  refine⟨H₀,Z₀,Z,δ,ds,hh,e1,fun J Z1 H1 hh1 t1 ok=>?_⟩
  refine⟨fun i m ys H=>m=ds.length-i/\i<=ds.length/\∃Zc,Hold X.K H₀ Z₀ Zc δ σ H/\Same Z1 Zc/\Reps X.K Zc ys (es.take i),⟨ds.length,by simp,zero_le _,Z1,hh1,Same.refl _,by simpa using .nil⟩,?_⟩
  rintro i m ys H2 ⟨rfl,hi2,Zc,hhc,tc,rc⟩;have zh:Same Z1 H2:=tc.trans hhc.zh;have ly:=rc.length;rw[List.length_take]at ly;by_cases hlt:i<ds.length
  ·refine .inr ⟨ok.go i H2 zh hlt,by omega,fun x H3 y=>?_⟩
   have ed:ds[i]? = some ds[i]:=by simp[hlt]
   obtain⟨rfl,rx⟩:=ok.yld i H2 x H3 _ zh ed y;obtain⟨ei,f1,f2⟩:=sv e2 ed;obtain⟨vs,f3,f1⟩:=bind_some f1;rw[hv];refine tk x Zc ds[i] vs (eV σ caps) H3 _ (rx.same tc) hhc.zh f3 fun us ru hn=>⟨⟨by simp[hn],fun j v q=>?_⟩,?_⟩
   ·by_cases hj:j<vars.length
    ·rw[getElem?_append_left (by simpa using hj),getElem?_replicate]at q
     split at q<;>cases q
    ·rw[getElem?_append_right (by simpa using hj)]at q
     rw[getElem?_append_right (by simpa[hn]using hj)];simpa[hn]using q
   ·refine⟨H3,Zc,Zc,_,ei,nr hhc ru,f1,fun v Z4 H4 h4 t4 r4=>⟨ds.length-(i+1),by omega,rfl,hlt,Z4,hhc.new ⟨t4,h4.h0,h4.zh,h4.zb,h4.nf⟩,tc.trans t4,?_⟩⟩
    have:es.take (i+1)=es.take i++[ei]:=by
     rw[List.take_add_one,f2];rfl
    rw[this];exact(rc.same t4).append (.cons r4 .nil)
  ·have hie:i=ds.length:=by omega
   subst hie;refine .inl ⟨ok.stop _ H2 zh (le_refl _),by omega,fun p hp=>?_⟩
   rw[<-le,List.take_length]at rc;have n:=New.add hhc.zh hp (.lst ys);exact k _ _ _ (hhc.new n) ((t1.trans tc).trans n.z) (.lst (SqL.of ay) (rc.same n.z))
 ·rw[if_neg hz]at e;cases e
theorem lH(B:BlkOk X.env.scope.names X.N scope vars caps)(hc:X.calm=true)(hi:IV X tg iter fi)(tk:tN X.K g vars.length bv)
  (hg:∀C s₀ H₀ ex,PG (cY X scope (vars++caps.map (·.2)) C s₀ H₀ ex) tg g) (he:∀C s₀ H₀ ex,EV (cY X scope (vars++caps.map (·.2)) C s₀ H₀ ex) elt fe) (hs:∀x,foldedSetIterable iter X.env x=pure x:=by intro _;rfl) :
  EV X (.ListComp elt [⟨tg,iter,[],0⟩] scope pos) (ku fi caps bv fe):=
 PE.imp (Bq (te:=tV X.K fe) B hc hi hg he hs) fun _ _ _ h=>xB tk h
end
section
variable{X:Cx}{e:Expr}{es:List Expr}{p pos:Pos}{fs:Dv->Option (List D)}
theorem aC{k:Nat}{x:Str}{g:List D->Option D}(C:Cal X.prog X.w X.K X.mg X.base x k g [])(hr:Room k X.A)(hg:Gl X x)(ha:AV X (e::es) fs)(hdb:(x==("__debug__":Str))=false:=by decide)(he:starEach (e::es) X.env=(false,eval e X.env)::starEach es X.env:=by rfl)
  (hpl:(backTo pos (starEach es X.env)).any (·.1)=false:=by rfl):EV X (.Call (.Name x p) (e::es) [] pos) (os fs g):=by
 have h:=E8 C hr hg ha hdb he hpl (p:=p) (pos:=pos);have e:(fun as=>g (as++[]))=g:=by funext as;rw[List.append_nil]
 rw[e]at h;exact h
end
noncomputable def xH:Option Sl->Option (List D)
 |some (.own (.l ds))=>some ds
 |_=>none
@[simp] theorem Jq(ds:List D):xH (some (.ow ds))=some ds:=rfl
theorem jZ{o:Option Sl}{ds:List D}(h:xH o=some ds):o=some (.ow ds):=by
 cases o with
 |none=>cases h
 |some x=>
  cases x with
  |own c=>
   cases c with
   |l es=>cases h;rfl
   |d es=>cases h
  |un=>cases h
  |fz d=>cases h
  |fr _=>cases h
@[simp] noncomputable def DP(i:Nat)(fs:Dv->Option (List D)):Sf:=fun δ=>(fs δ).bind fun ds=>if ds.length<=sizeLine then some (.nx,δ.set i (.ow ds))else none
@[simp] noncomputable def Ew(i:Nat)(f:Dv->Option D):Dv->Option D:=fun δ=>(xH δ[i]?).bind fun ds=>(f δ).bind fun k=>aB (.list ds) k
@[simp] noncomputable def ju(i:Nat):Dv->Option D:=fun δ=>(xH δ[i]?).bind fun ds=>some (.int ds.length)
noncomputable def GG(ds:List D)(k v:D):Option (List D):=match k with
 |.int j=>(BZ ds.length j).map fun n=>ds.set n v
 |_=>none
@[simp] theorem GF(ds:List D)(j:Int)(v:D):GG ds (.int j) v=(BZ ds.length j).map fun n=>ds.set n v:=rfl
@[simp] noncomputable def Lj(i:Nat)(fk fv:Dv->Option D):Sf:=fun δ=>(fv δ).bind fun v=>(fk δ).bind fun k=>(xH δ[i]?).bind fun ds=>(GG ds k v).bind fun ds'=>some (.nx,δ.set i (.ow ds'))
@[simp] noncomputable def yp(i:Nat)(f:Dv->Option D):Sf:=fun δ=>(f δ).bind fun v=>(xH δ[i]?).bind fun ds=>if ds.length<sizeLine then some (.nx,δ.set i (.ow (ds++[v])))else none
section
variable{X:Cx}{e b:Expr}{es:List Expr}{p pos tpos apos:Pos}{fs:Dv->Option (List D)}{f fk fv:Dv->Option D}
theorem xX(i:Nat){x:Str}{pos':Pos}(hN:X.N.Nodup)(ha:AV X es fs)(hi:X.N[i]? = some x:=by rfl)(hx:pE X.env.scope x:=by first|exact Or.inl rfl|exact Or.inr rfl)(hs:swapsWith (.List es p) (some (.Name x pos')) pos.line X.env=pure false:=by rfl)
  (hf:X.fn x=true\/X.env.scope.names.lookup x=some .local:=by first|exact .inl rfl|exact .inr rfl|assumption):SV X (.Assign [.Name x pos'] (.List es p) pos) (DP i fs):=
 PS.imp (dZ hN hi hx (yE ha) hs hf) fun D σ H h=>by
  obtain⟨H₀,Z₀,Z,δ,r,hh,e,k⟩:=h;obtain⟨ds,e1,e⟩:=bind_some e;by_cases hl:ds.length<=sizeLine
  ·rw[if_pos hl]at e
   cases e;exact⟨H₀,Z₀,Z,δ,ds,hh,e1,fun vs Z1 H1 hh1 t1 r1=>⟨by rw[r1.length];exact hl,fun p hp=>k _ _ Z1 (hh1.setO hp r1) t1⟩⟩
  ·rw[if_neg hl]at e;cases e
theorem gK{K:Fg}{H₀ Z₀ Z:Hp}{δ:Dv}{σ:St}{H:Hp}(hh:Hold K H₀ Z₀ Z δ σ H){i:Nat}{ds:List D}(h:xH δ[i]? = some ds):∃a xs,σ[i]? = some (some (V.ref a))/\H a=some (.lst xs)/\Reps K Z xs ds:=by
 obtain⟨a,xs,h1,_,_,h4,h5⟩:=hh.ow i ds (jZ h);exact⟨a,xs,h1,h4,h5⟩
theorem E5(i:Nat){x:Str}(hb:EV X b f)(hs:jU b)(hN:X.N[i]? = some x:=by rfl)(hv:nO X.env.scope x:=by first|exact Or.inl rfl|exact Or.inr (Or.inl rfl)|exact Or.inr (Or.inr rfl))(hd:(x==("__debug__":Str))=false:=by decide)(hcd:(x==("__classdict__":Str))=false:=by decide):
  EV X (.Subscript (.Name x p) b pos) (Ew i f):=
 PE.imp (vq ix_list (ca hN hv hd hcd) hb hs) fun σ H Q h=>by
  obtain⟨H₀,Z₀,Z,δ,d,hh,e,k⟩:=h;obtain⟨ds,e1,e⟩:=bind_some e;obtain⟨y,e2,e⟩:=bind_some e;obtain⟨a,xs,h1,h4,h5⟩:=gK hh e1;refine⟨_,h1,H₀,Z₀,Z,δ,y,hh,e2,fun v Z1 H1 hh1 t1 r1=>?_⟩
  obtain⟨a',xs',g1,g4,g5⟩:=gK hh1 e1;rw[h1]at g1;cases g1;cases r1 with
  |int j=>
   obtain⟨w,ew,rw'⟩:=g5.at e;exact⟨_,_,_,w,rfl,rfl,SqL.of g4,ew,k w Z1 H1 hh1 t1 rw'⟩
  |_=>cases e
theorem lG(i:Nat){x:Str}{p2:Pos}(hg:Gl X "len")(hm:X.mg "len" = none)(hN:X.N[i]? = some x:=by rfl)(hv:nO X.env.scope x:=by first|exact Or.inl rfl|exact Or.inr (Or.inl rfl)|exact Or.inr (Or.inr rfl))(hd:(x==("__debug__":Str))=false:=by decide)(hcd:(x==("__classdict__":Str))=false:=by decide)
  (he:starEach [.Name x p2] X.env=(false,eval (.Name x p2) X.env)::starEach [] X.env:=by rfl) (hpl:(backTo pos (starEach [] X.env)).any (·.1)=false:=by rfl):EV X (.Call (.Name "len" p) [.Name x p2] [] pos) (ju i):=
 PE.imp (fR tE hg hm PySem.boot_len (bK (ca hN hv hd hcd) cM he) (by decide) (by decide) he hpl) fun σ H Q h=>by
  obtain⟨H₀,Z₀,Z,δ,d,hh,e,k⟩:=h;obtain⟨ds,e1,e⟩:=bind_some e;cases e;obtain⟨a,xs,h1,h4,h5⟩:=gK hh e1;exact⟨_,h1,_,_,rfl,.inl ⟨xs,SqL.of h4,rfl⟩,k _ Z H hh (Same.refl _) (by rw[h5.length];exact .int _)⟩
theorem tZ(i:Nat){x:Str}{cpos:Pos}(hv':EV X e f)(hN:X.N[i]? = some x:=by rfl)(hv:nO X.env.scope x:=by first|exact Or.inl rfl|exact Or.inr (Or.inl rfl)|exact Or.inr (Or.inr rfl))(hd:(x==("__debug__":Str))=false:=by decide)(hcd:(x==("__classdict__":Str))=false:=by decide)
  (hbase:attributeBase (.Name x p) "append" X.env (eval (.Name x p) X.env)=eval (.Name x p) X.env:=by rfl)
  (hfew:((backTo cpos (starEach [e] X.env)).all (fun x=>!x.1)&&(backToKw cpos (keywordEach [] X.env)).all (fun x=>x.1.isSome)
   && decide ([e].length+([]:List Keyword).length+(if([]:List Keyword).isEmpty then 0 else 1)<30))=true:=by rfl)
  (hline:(apos.endLine==cpos.line)=true:=by rfl) (hs:starEach [e] X.env=(false,eval e X.env)::starEach [] X.env:=by rfl) (hplain:(backTo cpos (starEach [] X.env)).any (·.1)=false:=by rfl)
  (hsw:swapsWith (.Call (.Attribute (.Name x p) "append" apos) [e] [] cpos) none pos.line X.env=pure false:=by rfl):SV X (.Expr (.Call (.Attribute (.Name x p) "append" apos) [e] [] cpos) pos) (yp i f):=
 PS.imp (eY (rT PySem.F.plainAttrs_list PySem.F.slot_list_append PySem.F.type_list_append oR (ca hN hv hd hcd) (bK hv' cM hs) hbase hfew hline hs hplain) hsw) fun D σ H h=>by
  obtain⟨H₀,Z₀,Z,δ,r,hh,e,k⟩:=h;obtain⟨v,e1,e⟩:=bind_some e;obtain⟨ds,e2,e⟩:=bind_some e;by_cases hl:ds.length<sizeLine
  ·rw[if_pos hl]at e
   cases e;obtain⟨a,xs,h1,h4,h5⟩:=gK hh e2;refine⟨_,h1,.inl ⟨rfl,xs,SqL.of h4⟩,H₀,Z₀,Z,δ,v,hh,e1,fun w Z1 H1 hh1 t1 r1=>?_⟩
   obtain⟨a',xs',g1,g4,g5⟩:=gK hh1 e2;rw[h1]at g1;cases g1;exact⟨a,xs',w,rfl,rfl,g4,by rw[g5.length];exact hl,k σ _ Z1 (hh1.chg (xs:=xs') (jZ e2) h1 (g5.append (.cons r1 .nil))) t1⟩
  ·rw[if_neg hl]at e;cases e
end
section
def pL(wi:TI)(g:TG)(tt:TT)(te:TE)(vars:List Str)(caps:List (Nat×Str)):TE:=fun σ H Q=>wi σ H fun J H1=>∃W:Nat->Nat->List V->Hp->Prop,(∃m,W 0 m [] H1)/\∀i m ys H,W i m ys H ->
 (J.stop i H/\ys.length<=sizeLine/\∀p,H p=none->Q (.ref p) (upd H p (.lst ys))) \/
 (J.go i H/\ys.length<sizeLine/\∀x H',J.yld i H x H'->g x (vars.map (fun _=>none)++eV σ caps) H' fun σ2 H2=>wz (vars.map (fun _=>none)++eV σ caps) σ2/\tt σ2 H2 fun b H3=>if b=true then te σ2 H3 fun y H4=>∃m',m'<m/\W (i+1) m' (ys++[y]) H4 else ∃m',m'<m/\W (i+1) m' ys H3)
theorem kg{prog:Program}{w:World}{A:Around}{R:Result->Shared->Prop}{s:Shared}{elt target iter cnd:Expr}{scope:Scope}{pos:Pos}{it acc:Value}{env:Env}(I:Nat->Shared->Prop)
  (turn:∀n s,I n s->wpAny (model prog w) A (pyNext it) (fun r s₁=>match r with
   |none=>R (.ok .next) s₁
   |some v=>wpAny (model prog w) A (letOwnedTupleGo target it v) (fun _ s₁=>wpAny (model prog w) A (assign target env v) (fun _ s₂=>wpAny (model prog w) A (isTrue cnd env (eval cnd env)) (fun ok s₂=>if ok=true then wpAny (model prog w) A (eval elt env) (fun x s₃=>
     wpAny (model prog w) A (call (.builtin "list.append") [acc,x]) (fun _ s₄=>∃m,m<n/\I m s₄) (fun _ _=>False) s₃) (fun _ _=>False) s₂ else ∃m,m<n/\I m s₂) (fun _ _=>False) s₂) (fun _ _=>False) s₁) (fun _ _=>False) s₁) (fun _ _=>False) s)
  (n:Nat) (h:I n s):codeAny (model prog w) A (.compLoop (.ListComp elt [⟨target,iter,[cnd],0⟩] scope pos) 0 it acc env) R s:=by
 refine codeAny_loop rfl I (fun n s hI=>?_) n h;show wpAny _ _ ((compTurn (.ListComp elt [⟨target,iter,[cnd],0⟩] scope pos) 0 it acc env).onRaise (fun x=>do noteFrame x env;theTreesLotGoes x)) _ _ s;refine wpAny_noted ?_;rw[compTurn_list];refine wpAny_bind (wpAny_standAt (wpAny_bind (wpAny_mono (turn n s hI) (fun r s₁ h₁=>?_) fun _ _ h'=>h'.elim)))
 cases r with
 |none=>exact wpAny_pure h₁
 |some v=>
  refine wpAny_bind (wpAny_mono h₁ (fun _ s₁ h₁=>?_) fun _ _ h'=>h'.elim)
  refine wpAny_bind (wpAny_mono h₁ (fun _ s₂ h₂=>?_) fun _ _ h'=>h'.elim)
  refine wpAny_bind (wpAny_tests_one (wpAny_mono h₂ (fun okb s₃ h₃=>?_) fun _ _ h'=>h'.elim))
  cases okb with
  |false=>exact wpAny_pure ⟨rfl,h₃⟩
  |true=>exact wpAny_bind (wpAny_bind (wpAny_mono h₃ (fun x s₄ h₄=>wpAny_bind (wpAny_mono h₄ (fun _ s₅ h₅=>wpAny_pure (wpAny_pure ⟨rfl,h₅⟩)) fun _ _ h'=>h'.elim)) fun _ _ h'=>h'.elim))
end
section
variable{X:Cx}{scope:Scope}{vars:List Str}{caps:List (Nat×Str)}{elt tg iter cnd:Expr}{pos:Pos}{wi:TI}{g:TG}{tt:TT}{te:TE}
theorem kD{Cm:Cx->Prop}(B:BlkOk X.env.scope.names X.N scope vars caps)
  (hg:∀C s₀ H₀ ex,PG (cY X scope (vars++caps.map (·.2)) C s₀ H₀ ex) tg g) (hb:∀C s₀ H₀ ex,PT (cY X scope (vars++caps.map (·.2)) C s₀ H₀ ex) cnd tt) (he:∀C s₀ H₀ ex,PE (cY X scope (vars++caps.map (·.2)) C s₀ H₀ ex) elt te)
  {pins:List (Addr×Obj)} {σ:St} {H2:Hp} {s2:Shared} {Q:VK} {it:Addr} {fp:List Addr} {tn:Nat->Heap->Prop} {J:It} (I2:Inv X pins σ H2 s2) (T:TurnG Cm X.prog X.w X.K tg J fp it tn) (st2:tn 0 s2.heap) (f2:∀b∈fp,jf X pins H2 b) (hc:∀C,Cm (cY X scope (vars++caps.map (·.2)) C s2 H2 fp))
  {W:Nat->Nat->List V->Hp->Prop} {m0:Nat} (w0:W 0 m0 [] H2) (turn:∀i m ys H,W i m ys H ->
   (J.stop i H/\ys.length<=sizeLine/\∀p,H p=none->Q (.ref p) (upd H p (.lst ys))) \/
   (J.go i H/\ys.length<sizeLine/\∀x H',J.yld i H x H'->g x (vars.map (fun _=>none)++eV σ caps) H' fun σ2 H2=>wz (vars.map (fun _=>none)++eV σ caps) σ2/\tt σ2 H2 fun b H3=>if b=true then te σ2 H3 fun y H4=>∃m',m'<m/\W (i+1) m' (ys++[y]) H4 else ∃m',m'<m/\W (i+1) m' ys H3))
  {RR:Value->Addr->Result->Shared->Prop} {E:Value->Shared->Prop}
  (hRR:∀D C s' m,s'.heap.Ns C m->D≠C->s2.heap.objs.size<=D->s2.heap.objs.size<=C->∀H',H' C=none->(∀h',Heap.SameBut C s'.heap h'->Inv X pins σ H' { s' with heap:=h' })->Q (.ref D) H'->RR (.ref D) C (.ok .next) s') :
  wpAny (model X.prog X.w) X.A (newList []) (fun acc s₃=>wpAny (model X.prog X.w) X.A (newFunctionEnv scope X.env.globals (jb X.env scope.names []) [] X.env.qual none .none (some X.env)) (fun cenv s₄=>
   codeAny (model X.prog X.w) X.A (.compStart (.ListComp elt [⟨tg,iter,[cnd],0⟩] scope pos) 0 (.ref it) acc { cenv with scope:=relabel scope X.env }) (RR acc cenv.locals) s₄) E s₃) E s2:=by
 refine wpAny_newObj_type (wpAny_newFunctionEnv B.cell (by intro y hy;simp at hy) (fun h₁ hns₁ hsb₁=>?_) B.kind);dsimp only at hns₁ hsb₁ ⊢;generalize hP:s2.heap.push { cls:=.type "list",dict:=none,data:=.seq ([]:List Value).toArray }=HP at hns₁ hsb₁ ⊢;have hCs:HP.objs.size=s2.heap.objs.size+1:=by rw[<-hP,Heap.size_push]
 have hDC:s2.heap.objs.size≠HP.objs.size:=by rw[hCs];exact ne_of_lt (Nat.lt_succ_self _)
 have hCle:s2.heap.objs.size<=HP.objs.size:=by rw[hCs];exact Nat.le_succ _
 have old:∀b o,s2.heap.get? b=some o->h₁.get? b=some o:=fun b o e=>hsb₁.extBut b o (ne_of_lt (lt_of_lt_of_le (lt_size e) hCle)) (get?_push_of_some _ (hP ▸ get?_push_of_some _ e))
 have hacc:h₁.PlainList s2.heap.objs.size #[]:=⟨_,hsb₁.extBut _ _ hDC (get?_push_of_some _ (hP ▸ get?_push_size _ rfl))⟩;have flt:∀b∈fp,b<s2.heap.objs.size:=fun b hb=>by
  obtain⟨o,e,_⟩:=T.obj _ _ st2 b hb;exact lt_size e
 have st1:tn 0 h₁:=T.keep _ _ _ st2 fun b _ o e=>old b o e
 have loop:∀s3:Shared,s3={ s2 with heap:=h₁,toks:=s2.toks+([]:List (Str×Value)).length } ->
   codeAny (model X.prog X.w) X.A (.compLoop (.ListComp elt [⟨tg,iter,[cnd],0⟩] scope pos) 0 (.ref it) (.ref s2.heap.objs.size) (compEnvC scope (jb X.env scope.names []) HP.objs.size X.env))
    (RR (.ref s2.heap.objs.size) HP.objs.size) s3:=by
  rintro s3 rfl;have X':=cY X scope (vars++caps.map (·.2)) HP.objs.size s2 H2 fp;have fpo:∀{H':Hp},(∀b∈fp,H' b=none)->∀b∈fp,jf (cY X scope (vars++caps.map (·.2)) HP.objs.size s2 H2 fp) [] H' b:=fun hn b hb=>by
   have ok:=uR B I2 f2 flt hCle;exact⟨hn b hb,(ok.exf b hb).1,ok.exfs b hb,.inl hb,(ok.exf b hb).2,fun p hp=>absurd (show p∈([]:List (Addr×Obj))from hp) (by simp)⟩
  refine kg (fun n s=>∃i ys H its,Inv (cY X scope (vars++caps.map (·.2)) HP.objs.size s2 H2 fp) [] (vars.map (fun _=>none)++eV σ caps) H s/\tn i s.heap/\(∀b∈fp,H b=none)/\s.heap.PlainList s2.heap.objs.size (List.toArray its)/\H s2.heap.objs.size=none/\Vals ys its/\W i n ys H) ?_ m0
   ⟨0,[],H2,[],wt B I2 f2 flt hCle hns₁ old,st1,fun b hb=>(f2 b hb).1,hacc,I2.hok.fresh (le_refl _),.nil,w0⟩
  rintro n s4 ⟨i,ys,H4,its,I4,st4,fr4,pl4,nD4,v4,w4⟩;obtain⟨nn,eD⟩:=id pl4;have DnL:s2.heap.objs.size≠(cY X scope (vars++caps.map (·.2)) HP.objs.size s2 H2 fp).env.locals:=hDC;have Dfs:s2.heap.objs.size ∉ (cY X scope (vars++caps.map (·.2)) HP.objs.size s2 H2 fp).fs:=fun z=>by
   rcases List.mem_cons.mp (I2.stkSub _ z)with q|q
   ·have:=I2.lt;rw[<-q]at this;exact lt_irrefl _ this
   ·exact I2.nofs (le_refl _) q
  have Dfp:∀b∈fp,s2.heap.objs.size≠b:=fun b hb z=>by have:=flt b hb;rw[<-z]at this;exact lt_irrefl _ this
  have DnC:∀x c,(cY X scope (vars++caps.map (·.2)) HP.objs.size s2 H2 fp).env.cells.lookup x=some c->c≠s2.heap.objs.size:=fun x c e z=>by
   rcases bM _ _ _ _ (B.cells I2) e with q|q
   ·cases q
   ·obtain⟨v,o,ho,_⟩:=I2.cell x c q
    have:=lt_size ho;rw[z]at this;exact lt_irrefl _ this
  have pinD:∀{σ':St} {H':Hp} {s':Shared},Inv (cY X scope (vars++caps.map (·.2)) HP.objs.size s2 H2 fp) [(s2.heap.objs.size,{ cls:=.type "list",data:=.seq its.toArray nn })] σ' H' s'->s'.heap.PlainList s2.heap.objs.size its.toArray/\H' s2.heap.objs.size=none:=fun{σ' H' s'} I'=>by
   obtain⟨q1,q2,_⟩:=I'.pin (s2.heap.objs.size,{ cls:=.type "list",data:=.seq its.toArray nn }) (by simp[cY]);exact⟨⟨nn,q1⟩,q2⟩
  have I4p:Inv (cY X scope (vars++caps.map (·.2)) HP.objs.size s2 H2 fp) [(s2.heap.objs.size,{ cls:=.type "list",data:=.seq its.toArray nn })] (vars.map (fun _=>none)++eV σ caps) H4 s4:=
   I4.pins_of fun p hp=>by
    have e:p=(s2.heap.objs.size,{ cls:=.type "list",data:=.seq its.toArray nn }):=by simpa[cY]using hp
    subst e;exact⟨eD,nD4,DnL,Dfs,fun v z=>by cases z⟩
  have fpo':∀{H':Hp},(∀b∈fp,H' b=none)->∀b∈fp,jf (cY X scope (vars++caps.map (·.2)) HP.objs.size s2 H2 fp) [(s2.heap.objs.size,{ cls:=.type "list",data:=.seq its.toArray nn })] H' b:=fun hn b hb=>by
   obtain⟨q1,q2,q3,q4,q5,_⟩:=fpo hn b hb;exact⟨q1,q2,q3,q4,q5,fun p hp=>by
    have e:p=(s2.heap.objs.size,{ cls:=.type "list",data:=.seq its.toArray nn }):=by simpa[cY]using hp
    subst e;exact Dfp b hb⟩
  have unp:∀{pl:List (Addr×Obj)} {σ':St} {H':Hp} {s':Shared},Inv (cY X scope (vars++caps.map (·.2)) HP.objs.size s2 H2 fp) pl σ' H' s'->Inv (cY X scope (vars++caps.map (·.2)) HP.objs.size s2 H2 fp) [] σ' H' s':=fun{pl σ' H' s'} I'=>
   I'.pins_of fun p hp=>absurd (show p∈([]:List (Addr×Obj))from hp) (by simp)
  rcases turn i n ys H4 w4 with⟨stop,hz,qn⟩|⟨go,hz,step⟩
  ·refine b0 (T.done (cY X scope (vars++caps.map (·.2)) HP.objs.size s2 H2 fp) rfl rfl rfl (hc _) i _ s4 _ H4 _ I4p (fpo' fr4) st4 stop) fun r s5 ⟨hr,I5⟩=>?_
   subst hr;obtain⟨p5,n5⟩:=pinD I5;obtain⟨m5,ns5,_⟩:=I5.loc;refine hRR _ _ s5 m5 ns5 hDC (le_refl _) hCle _ ?_ (fun h' hs'=>wq I2 f2 hCle (le_refl _) hDC (unp I5) n5 p5 v4 hz hs') (qn _ n5)
   rw[au hDC.symm];exact I5.free
  ·refine b0 (T.item (cY X scope (vars++caps.map (·.2)) HP.objs.size s2 H2 fp) rfl rfl rfl (hc _) i _ s4 _ H4 _ I4p (fpo' fr4) st4 go) fun r s5 ⟨u,hr,h5⟩=>?_
   subst hr;refine b0 h5 fun _ s6 ⟨x,H6,I6,rx,yx,st6,fr6⟩=>?_
   have I6p:=I6.pinned (fpo' fr6) (T.obj _ _ st6);refine b0 (hg _ _ _ _ _ s6 _ H6 x u _ I6p rx (step x H6 yx)) fun _ s7 ⟨σ7,H7,I7,kp,q7⟩=>?_
   refine b0 (hb _ _ _ _ _ s7 σ7 H7 _ I7 q7) fun okb s7' q7'=>?_
   obtain⟨H7',I7',q7'⟩:=q7';cases okb with
   |false=>
    obtain⟨m',hm,w8⟩:=q7';rw[if_neg (by decide)];obtain⟨p8,n8⟩:=pinD I7'.unpinned;have st8:tn (i+1) s7'.heap:=T.keep _ _ _ st6 fun b hb o e=>(I7'.pin (b,o) (mem_append_right _ (mem_append_right _ (cx hb e)))).1
    have fr8:∀b∈fp,H7' b=none:=fun b hb=>by
     obtain⟨o,e,d⟩:=T.obj _ _ st6 b hb;exact(I7'.pin (b,o) (mem_append_right _ (mem_append_right _ (cx hb e)))).2.1
    exact⟨m',hm,i+1,ys,H7',its,(unp I7').weak kp.1 kp.2,st8,fr8,p8,n8,v4,w8⟩
   |true=>
   rw[if_pos rfl];rw[if_pos rfl]at q7';refine b0 (he _ _ _ _ _ s7' σ7 H7' _ I7' q7') fun v s8 ⟨y,H8,I8,ry,m',hm,w8⟩=>?_
   obtain⟨p8,n8⟩:=pinD I8.unpinned;have st8:tn (i+1) s8.heap:=T.keep _ _ _ st6 fun b hb o e=>(I8.pin (b,o) (mem_append_right _ (mem_append_right _ (cx hb e)))).1
   have fr8:∀b∈fp,H8 b=none:=fun b hb=>by
    obtain⟨o,e,d⟩:=T.obj _ _ st6 b hb;exact(I8.pin (b,o) (mem_append_right _ (mem_append_right _ (cx hb e)))).2.1
   have hl:=v4.length;refine wpAny_list_append_plain p8 (fun h9 p9 sb9=>⟨m',hm,i+1,ys++[y],H8,its++[v],?_,?_,fr8,by simpa using p9,n8,v4.append (.cons ry .nil),w8⟩) (by simp;omega)
   ·have I9:Inv (cY X scope (vars++caps.map (·.2)) HP.objs.size s2 H2 fp) [] σ7 H8 { s8 with heap:=h9,toks:=s8.toks }:=
     (unp I8).turned (it:=s2.heap.objs.size) (fun b o hb e=>sb9.extBut b o hb e) n8 DnL (.inr (le_refl _)) DnC fun p hp=>absurd (show p∈([]:List (Addr×Obj))from hp) (by simp)
    exact I9.weak kp.1 kp.2
   ·exact T.keep _ _ _ st8 fun b hb o e=>sb9.extBut b o (Dfp b hb).symm e
 exact codeAny_compStart_list (loop _ rfl) (T.self _ 0 _ _ _ st1 (loop _ rfl))
theorem yI(B:BlkOk X.env.scope.names X.N scope vars caps)(hc:X.calm=true)(hi:PI X tg iter wi)
  (hg:∀C s₀ H₀ ex,PG (cY X scope (vars++caps.map (·.2)) C s₀ H₀ ex) tg g) (hb:∀C s₀ H₀ ex,PT (cY X scope (vars++caps.map (·.2)) C s₀ H₀ ex) cnd tt) (he:∀C s₀ H₀ ex,PE (cY X scope (vars++caps.map (·.2)) C s₀ H₀ ex) elt te) (hs:∀x,foldedSetIterable iter X.env x=pure x:=by intro _;rfl) :
  PE X (.ListComp elt [⟨tg,iter,[cnd],0⟩] scope pos) (pL wi g tt te vars caps):=by
 intro pins s σ H Q I h;rw[eval_ListComp];refine wpAny_comprehension_free (use:=none) rfl hs (fL (B.cells I)) B.kind B.names ?_;show wpAny _ _ (eval iter X.env) _ _ s;refine b0 (hi pins s σ H _ I h) fun v s1 h1=>b0 h1 fun itv s2 h2=>?_
 obtain⟨it,fp,tn,J,H2,e,I2,T,st2,f2,W,⟨m0,w0⟩,turn⟩:=h2;subst e;exact kD (Cm:=fun X=>X.calm=true) B hg hb he I2 T st2 f2 (fun _=>hc) w0 turn (RR:=fun acc C=>compPost (model X.prog X.w) X.A X.xe none (EP X pins σ Q) acc C) fun D C s' m ns _ _ _ H' _ k q=>⟨m,ns,fun h' hs'=>⟨.ref D,H',k h' hs',rfl,q⟩⟩
theorem rO{i:Nat}{y:Str}{py spos:Pos}(B:BlkOk X.env.scope.names X.N scope vars caps)(hc:X.calm=true)(hi:PI X tg iter wi)
  (hg:∀C s₀ H₀ ex,PG (cY X scope (vars++caps.map (·.2)) C s₀ H₀ ex) tg g) (hb:∀C s₀ H₀ ex,PT (cY X scope (vars++caps.map (·.2)) C s₀ H₀ ex) cnd tt) (he:∀C s₀ H₀ ex,PE (cY X scope (vars++caps.map (·.2)) C s₀ H₀ ex) elt te)
  (hN:X.N.Nodup) (hy:X.N[i]? = some y) (hx:pE X.env.scope y) (hsw:swapsWith (.ListComp elt [⟨tg,iter,[cnd],0⟩] scope pos) (some (.Name y py)) spos.line X.env=pure true)
  (hf:X.fn y=true\/X.env.scope.names.lookup y=some .local) (hs:∀x,foldedSetIterable iter X.env x=pure x:=by intro _;rfl) :
  PS X (.Assign [.Name y py] (.ListComp elt [⟨tg,iter,[cnd],0⟩] scope pos) spos) (fun D σ H=>pL wi g tt te vars caps σ H fun v H1=>D.nx (σ.set i (some v)) H1):=by
 intro pins s σ H DE I h;rw[exec_Assign_Name_used _ _ _ _ hsw];refine wpAny_bind (wpAny_standAt (wpAny_bind ?_));show wpAny _ X.A (do let _ <-comprehension (.ListComp elt [⟨tg,iter,[cnd],0⟩] scope pos) scope X.env _ (newList []) false (eval iter X.env) (some (assign (.Name y py) X.env))) _ _ s;refine wpAny_bind (wpAny_mono (wpAny_comprehension_free (use:=some (assign (.Name y py) X.env)) (Q:=fun _ s'=>SP X pins DE .next s') rfl hs (fL (B.cells I)) B.kind B.names
  (b0 (hi pins s σ H _ I h) fun v s1 h1=>b0 h1 fun itv s2 h2=>?_)) (fun _ s' hq=>wpAny_pure (wpAny_pure hq)) fun _ _ e=>e)
 obtain⟨it,fp,tn,J,H2,e,I2,T,st2,f2,W,⟨m0,w0⟩,turn⟩:=h2;subst e;refine kD (Cm:=fun X=>X.calm=true) (Q:=fun v H1=>DE.nx (σ.set i (some v)) H1) B hg hb he I2 T st2 f2 (fun _=>hc) w0 turn (RR:=fun acc C=>compPost (model X.prog X.w) X.A X.xe (some (assign (.Name y py) X.env)) (fun _ s'=>SP X pins DE .next s') acc C) ?_
 intro D C s' m ns hDC hD hC H' hHC k q;obtain⟨oC,es,ep,eC,dC,rC⟩:=ns;have I':Inv X pins σ H' s':=k s'.heap (Heap.SameBut.refl ..);have nL:C≠X.env.locals:=fun z=>by have:=I2.lt;rw[<-z]at this;exact absurd (lt_of_lt_of_le this hC) (lt_irrefl _)
 have nF:C ∉ X.fs:=I2.nofs hC;have nCell:∀x c,X.env.cells.lookup x=some c->c≠C:=fun x c e z=>by
  obtain⟨v,o,ho,_⟩:=I2.cell x c e;have:=lt_size ho;rw[z]at this;exact absurd (lt_of_lt_of_le this hC) (lt_irrefl _)
 have nPin:∀p∈X.pn++pins,p.1≠C:=fun p hp z=>by
  have:=lt_size (I2.pin p hp).1;rw[z]at this;exact absurd (lt_of_lt_of_le this hC) (lt_irrefl _)
 have Ip:Inv X (pins++[(C,oC)]) σ H' s':=I'.pins_of fun p hp=>by
  rcases List.mem_append.mp hp with z|z
  ·exact I'.pin p (mem_append_right _ z)
  ·have e:p=(C,oC):=by simpa using z
   subst e;exact⟨eC,hHC,nL,nF,fun v z=>by rw[dC]at z;cases z⟩
 refine b0 (bh (pos:=py) hN hy hx hf _ s' σ H' (.ref D) (.ref D) (fun σ' H''=>σ' = σ.set i (some (.ref D))/\H''=H'/\DE.nx σ' H'') Ip rfl ⟨rfl,rfl,q⟩) fun _ s'' ⟨σ'',H'',I'',e1,e2,q''⟩=>?_
 subst e1 e2;have eC'':s''.heap.get? C=some oC:=(I''.pin (C,oC) (mem_append_right _ (mem_append_right _ (by simp)))).1;refine⟨m,⟨oC,es,ep,eC'',dC,rC⟩,fun h' hs'=>⟨_,H'',?_,q''⟩⟩
 exact I''.unpinned.turned (t':=s''.toks) (it:=C) (fun b o hb e=>hs'.extBut b o hb e) hHC nL (.inr (Nat.le_trans I2.sz hC)) nCell nPin
end
noncomputable def fX(t:D->Option Bool)(f:D->Option D):List D->Option (List D)
 |[]=>some []
 |d::ds=>(t d).bind fun b=>if b=true then(f d).bind fun e=>(fX t f ds).bind fun es=>some (e::es)else fX t f ds
@[simp] theorem HQ{t:D->Option Bool}{f:D->Option D}:fX t f []=some []:=rfl
noncomputable def bI(fi:Dv->Option (List D))(caps:List (Nat×Str))(bv:D->Option (List D))(ft:Dv->Option Bool)(fe:Dv->Option D):Dv->Option D:=fun δ=>(fi δ).bind fun ds=>if ds.length<=sizeLine then(fX (fun d=>(bv d).bind fun vs=>ft (vs.map .fz++br δ caps)) (fun d=>(bv d).bind fun vs=>fe (vs.map .fz++br δ caps)) ds).bind fun es=>some (.list es)else none
theorem iJ{t:D->Option Bool}{f:D->Option D}:∀{ds es:List D} {i:Nat} {d:D},fX t f ds=some es->ds[i]? = some d->∃xs,fX t f (ds.take i)=some xs/\∃b,t d=some b/\(b=false->fX t f (ds.take (i+1))=some xs)/\(b=true->∃e,f d=some e/\fX t f (ds.take (i+1))=some (xs++[e]))
 |[],es,i,d,h,q=>by simp at q
 |d::ds,es,i,d',h,q=>by
  obtain⟨b,h1,h⟩:=bind_some h;cases i with
  |zero=>
   simp at q;subst q;refine⟨[],rfl,b,h1,fun hb=>?_,fun hb=>?_⟩
   ·subst hb;simp[fX,h1]
   ·subst hb
    rw[if_pos rfl]at h;obtain⟨e,h2,h⟩:=bind_some h;exact⟨e,h2,by simp[fX,h1,h2]⟩
  |succ i=>
   simp at q;cases b with
   |false=>
    rw[if_neg (by decide)]at h;obtain⟨xs,g1,b',g2,g3,g4⟩:=iJ (i:=i) h q;refine⟨xs,by simp[fX,h1,g1],b',g2,fun hb=>by simpa[fX,h1]using g3 hb,fun hb=>?_⟩
    obtain⟨e,k1,k2⟩:=g4 hb;exact⟨e,k1,by simpa[fX,h1]using k2⟩
   |true=>
    rw[if_pos rfl]at h;obtain⟨e0,h2,h⟩:=bind_some h;obtain⟨es',h3,h⟩:=bind_some h;obtain⟨xs,g1,b',g2,g3,g4⟩:=iJ (i:=i) h3 q;refine⟨e0::xs,by simp[fX,h1,h2,g1],b',g2,fun hb=>by simp[fX,h1,h2,g3 hb],fun hb=>?_⟩
    obtain⟨e,k1,k2⟩:=g4 hb;exact⟨e,k1,by simp[fX,h1,h2,k2]⟩
theorem lF{t:D->Option Bool}{f:D->Option D}:∀{ds es:List D},fX t f ds=some es->es.length<=ds.length
 |[],es,h=>by cases h;exact le_refl _
 |d::ds,es,h=>by
  obtain⟨b,h1,h⟩:=bind_some h;cases b with
  |false=>rw[if_neg (by decide)]at h;exact Nat.le_succ_of_le (lF h)
  |true=>
   rw[if_pos rfl]at h;obtain⟨e0,h2,h⟩:=bind_some h;obtain⟨es',h3,h⟩:=bind_some h;cases h;exact Nat.succ_le_succ (lF h3)
section
variable{X:Cx}{scope:Scope}{vars:List Str}{caps:List (Nat×Str)}{elt tg iter cnd:Expr}{pos:Pos}{g:TG}{fi:Dv->Option (List D)}{ft:Dv->Option Bool}{fe:Dv->Option D}{bv:D->Option (List D)}
theorem nh(tk:tN X.K g vars.length bv){σ:St}{H:Hp}{Q:VK}(h:tV X.K (bI fi caps bv ft fe) σ H Q):pL (Iu X.K fi) g (CI X.K ft) (tV X.K fe) vars caps σ H Q:=by
 obtain⟨H₀,Z₀,Z,δ,d,hh,e,k⟩:=h;obtain⟨ds,e1,e⟩:=bind_some e;by_cases hz:ds.length<=sizeLine
 ·rw[if_pos hz]at e
  obtain⟨es,e2,e⟩:=bind_some e;cases e;have hv:vars.map (fun _=>(none:Option V))=List.replicate vars.length none:=by rw[List.map_const']
  refine⟨H₀,Z₀,Z,δ,ds,hh,e1,fun J Z1 H1 hh1 t1 ok=>?_⟩
  refine⟨fun i m ys H=>m=ds.length-i/\i<=ds.length/\∃Zc xs,Hold X.K H₀ Z₀ Zc δ σ H/\Same Z1 Zc/\fX (fun d=>(bv d).bind fun vs=>ft (vs.map .fz++br δ caps)) (fun d=>(bv d).bind fun vs=>fe (vs.map .fz++br δ caps)) (ds.take i)=some xs/\Reps X.K Zc ys xs,⟨ds.length,by simp,zero_le _,Z1,[],hh1,Same.refl _,rfl,.nil⟩,?_⟩
  rintro i m ys H2 ⟨rfl,hi2,Zc,xs,hhc,tc,fx,rc⟩;have zh:Same Z1 H2:=tc.trans hhc.zh;have ly:=rc.length;have lx:=lF fx;rw[List.length_take]at lx;by_cases hlt:i<ds.length
  ·refine .inr ⟨ok.go i H2 zh hlt,by omega,fun x H3 y=>?_⟩
   have ed:ds[i]? = some ds[i]:=by simp[hlt]
   obtain⟨rfl,rx⟩:=ok.yld i H2 x H3 _ zh ed y;obtain⟨xs',f0,b,fb,ff,ftr⟩:=iJ e2 ed;rw[fx]at f0;cases f0;obtain⟨vs,f3,f1⟩:=bind_some fb;rw[hv];refine tk x Zc ds[i] vs (eV σ caps) H3 _ (rx.same tc) hhc.zh f3 fun us ru hn=>⟨⟨by simp[hn],fun j v q=>?_⟩,?_⟩
   ·by_cases hj:j<vars.length
    ·rw[getElem?_append_left (by simpa using hj),getElem?_replicate]at q
     split at q<;>cases q
    ·rw[getElem?_append_right (by simpa using hj)]at q
     rw[getElem?_append_right (by simpa[hn]using hj)];simpa[hn]using q
   ·refine⟨H3,Zc,Zc,_,b,nr hhc ru,f1,fun Z3 H3' h3 t3=>?_⟩
    have hh3:=hhc.new ⟨t3,h3.h0,h3.zh,h3.zb,h3.nf⟩;cases b with
    |false=>
     dsimp only;rw[if_neg (by decide)];exact⟨ds.length-(i+1),by omega,rfl,hlt,Z3,xs,hh3,tc.trans t3,ff rfl,rc.same t3⟩
    |true=>
     dsimp only;rw[if_pos rfl];obtain⟨ei,f2,f4⟩:=ftr rfl;rw[f3]at f2;refine⟨H3,Zc,Z3,_,ei,h3,f2,fun v Z4 H4 h4 t4 r4=>⟨ds.length-(i+1),by omega,rfl,hlt,Z4,xs++[ei],?_,(tc.trans t3).trans t4,f4,((rc.same t3).same t4).append (.cons r4 .nil)⟩⟩
     exact hhc.new ⟨t3.trans t4,h4.h0,h4.zh,h4.zb,h4.nf⟩
  ·have hie:i=ds.length:=by omega
   subst hie;refine .inl ⟨ok.stop _ H2 zh (le_refl _),by omega,fun p hp=>?_⟩
   rw[List.take_length,e2]at fx;cases fx;have n:=New.add hhc.zh hp (.lst ys);exact k _ _ _ (hhc.new n) ((t1.trans tc).trans n.z) (.lst (SqL.of ay) (rc.same n.z))
 ·rw[if_neg hz]at e;cases e
theorem cA(B:BlkOk X.env.scope.names X.N scope vars caps)(hc:X.calm=true)(hi:IV X tg iter fi)(tk:tN X.K g vars.length bv)
  (hg:∀C s₀ H₀ ex,PG (cY X scope (vars++caps.map (·.2)) C s₀ H₀ ex) tg g) (hb:∀C s₀ H₀ ex,TV (cY X scope (vars++caps.map (·.2)) C s₀ H₀ ex) cnd ft) (he:∀C s₀ H₀ ex,EV (cY X scope (vars++caps.map (·.2)) C s₀ H₀ ex) elt fe) (hs:∀x,foldedSetIterable iter X.env x=pure x:=by intro _;rfl) :
  EV X (.ListComp elt [⟨tg,iter,[cnd],0⟩] scope pos) (bI fi caps bv ft fe):=
 PE.imp (yI (tt:=CI X.K ft) (te:=tV X.K fe) B hc hi hg hb he hs) fun _ _ _ h=>nh tk h
theorem gW(i:Nat){y:Str}{py spos:Pos}(hN:X.N.Nodup)(B:BlkOk X.env.scope.names X.N scope vars caps)(hc:X.calm=true)(hi:IV X tg iter fi)(tk:tN X.K g vars.length bv)
  (hg:∀C s₀ H₀ ex,PG (cY X scope (vars++caps.map (·.2)) C s₀ H₀ ex) tg g) (hb:∀C s₀ H₀ ex,TV (cY X scope (vars++caps.map (·.2)) C s₀ H₀ ex) cnd ft) (he:∀C s₀ H₀ ex,EV (cY X scope (vars++caps.map (·.2)) C s₀ H₀ ex) elt fe)
  (hy:X.N[i]? = some y:=by rfl) (hx:pE X.env.scope y:=by first|exact Or.inl rfl|exact Or.inr rfl) (hsw:swapsWith (.ListComp elt [⟨tg,iter,[cnd],0⟩] scope pos) (some (.Name y py)) spos.line X.env=pure true:=by rfl)
  (hf:X.fn y=true\/X.env.scope.names.lookup y=some .local:=by first|exact .inl rfl|exact .inr rfl|assumption) (hs:∀x,foldedSetIterable iter X.env x=pure x:=by intro _;rfl) :
  SV X (.Assign [.Name y py] (.ListComp elt [⟨tg,iter,[cnd],0⟩] scope pos) spos) (aI i (bI fi caps bv ft fe)):=
 PS.imp (rO (tt:=CI X.K ft) (te:=tV X.K fe) B hc hi hg hb he hN hy hx hsw hf hs) fun D σ H h=>by
  obtain⟨H₀,Z₀,Z,δ,r,hh,e,k⟩:=h;obtain⟨x,e1,e⟩:=bind_some e;cases e;exact nh tk ⟨H₀,Z₀,Z,δ,x,hh,e1,fun v Z1 H1 hh1 s1 r1=>k _ H1 Z1 (hh1.set r1) s1⟩
end
noncomputable def xu:D->Bool
 |.none=>true
 |.bool _=>true
 |.int _=>true
 |.str _=>true
 |_=>false
noncomputable def ka(x:D)(ds:List D):Bool:=ds.any fun y=>PyData.eqv y x
noncomputable def C1(neg:Bool):D->D->Option D:=fun a b=>(aU b).bind fun ds=>if xu a=true/\ds.all xu=true then some (.bool (if neg=true then !ka a ds else ka a ds))else none
theorem Rep.flat{K:Fg}{Z:Hp}{v:V}{d:D}(r:Rep K Z v d):fW v=xu d:=by cases r<;>rfl
theorem Rep.eqF{K:Fg}{Z:Hp}{v u:V}{d e:D}(r:Rep K Z v d)(q:Rep K Z u e)(h1:xu d=true)(h2:xu e=true):Ap v u=PyData.eqv d e:=by
 cases r<;>first|(cases q<;>first|rfl|cases h2)|cases h1
theorem Reps.allF{K:Fg}{Z:Hp}:∀{vs:List V} {ds:List D},Reps K Z vs ds->vs.all fW=ds.all xu
 |_,_,.nil=>rfl
 |_,_,.cons r t=>by rw[all_cons,all_cons,r.flat,t.allF]
theorem Reps.inF{K:Fg}{Z:Hp}{x:V}{a:D}(q:Rep K Z x a)(h:xu a=true):∀{vs:List V} {ds:List D},Reps K Z vs ds->ds.all xu=true->IJ x vs=ka a ds
 |_,_,.nil,_=>rfl
 |_,_,.cons r t,f=>by
  rw[all_cons,Bool.and_eq_true]at f;show(Ap _ x||IJ x _)=(PyData.eqv _ a||ka a _);rw[r.eqF q f.1 h,t.inF q h f.2]
theorem B4{K:Fg}{neg:Bool}{x y:V}{H:Hp}{Q:VK}(h:rD K (C1 neg) x y H Q):JB K neg x y H Q:=by
 obtain⟨Z,a,b,d,zh,ra,rb,e,k⟩:=h;obtain⟨ds,e1,e⟩:=bind_some e;by_cases c:xu a=true/\ds.all xu=true
 ·rw[if_pos c]at e
  cases e;have go:∀(xs:List V),Reps K Z xs ds->(∃p,y=.ref p/\(SqL K H p xs\/SqT K H p xs))->JB K neg x y H Q:=fun xs r ⟨p,ey,hq⟩=>by
   refine⟨p,xs,ey,hq,by rw[ra.flat];exact c.1,by rw[r.allF];exact c.2,?_⟩;have:=r.inF ra c.1 c.2;rw[this];exact k _ Z H (New.refl zh) (.bl _)
  cases rb with
  |lst h q=>cases e1;exact go _ q ⟨_,rfl,.inl (SqL.same h zh)⟩
  |tup h q=>cases e1;exact go _ q ⟨_,rfl,.inr (SqT.same h zh)⟩
  |_=>cases e1
 ·rw[if_neg c]at e;cases e
theorem zQ{X:Cx}:OpR X (compareOp .In) (rD X.K (C1 false)):=OpR.imp wV fun _ _ _ _ h=>B4 h
noncomputable def gT:List (D->Dv->Option Dv)->List D->Dv->Option Dv
 |[],[],δ=>some δ
 |g::gs,d::ds,δ=>(g d δ).bind fun δ1=>gT gs ds δ1
 |_,_,_=>none
noncomputable def xK(gs:List (D->Dv->Option Dv)):D->Dv->Option Dv
 |.tuple ds,δ=>gT gs ds δ
 |_,_=>none
@[simp] theorem J4(δ:Dv):gT [] [] δ = some δ:=rfl
@[simp] theorem IN(g:D->Dv->Option Dv)(gs:List (D->Dv->Option Dv))(d:D)(ds:List D)(δ:Dv):gT (g::gs) (d::ds) δ = (g d δ).bind fun δ1=>gT gs ds δ1:=rfl
@[simp] theorem IM(gs:List (D->Dv->Option Dv))(ds:List D)(δ:Dv):xK gs (.tuple ds) δ = gT gs ds δ:=rfl
theorem zv:∀{gs:List (D->Dv->Option Dv)} {ds:List D} {δ δ':Dv},gT gs ds δ = some δ'->ds.length=gs.length
 |[],[],_,_,_=>rfl
 |[],_::_,_,_,h=>by cases h
 |_::_,[],_,_,h=>by cases h
 |g::gs,d::ds,δ,δ',h=>by
  obtain⟨δ1,_,h⟩:=bind_some h;exact congrArg (· + 1) (zv h)
noncomputable def Je(K:Fg)(gs:List (D->Dv->Option Dv)):Cu:=fun vs σ H Q=>∃H₀ Z₀ Z δ ds δ',Hold K H₀ Z₀ Z δ σ H/\Reps K Z vs ds/\gT gs ds δ = some δ'/\∀ σ' H' Z',Hold K H₀ Z₀ Z' δ' σ' H'->Same Z Z'->Q σ' H'
def IT(X:Cx)(es:List Expr)(gs:List (D->Dv->Option Dv)):Prop:=PGs X es (Je X.K gs)
section
variable{X:Cx}{pos:Pos}{e:Expr}{es:List Expr}{g:D->Dv->Option Dv}{gs:List (D->Dv->Option Dv)}
theorem PGs.imp{t t':Cu}(h:PGs X es t)(i:∀v σ H Q,t' v σ H Q->t v σ H Q):PGs X es t':=fun pins s σ H x v Q I r q=>h pins s σ H x v Q I r (i _ _ _ _ q)
theorem qE:IT X [] []:=PGs.imp Bl fun vs σ H Q h=>by
 obtain⟨H₀,Z₀,Z,δ,ds,δ',hh,r,e,k⟩:=h;cases r with
 |nil=>cases e;exact⟨rfl,k σ H Z hh (Same.refl _)⟩
 |cons _ _=>cases e
theorem fU(h1:GV X e g)(h2:IT X es gs)(hs:(assignEach (e::es) X.env).map (·.2)=assign e X.env::(assignEach es X.env).map (·.2):=by rfl):IT X (e::es) (g::gs):=
 PGs.imp (yD h1 h2 hs) fun vs σ H Q h=>by
  obtain⟨H₀,Z₀,Z,δ,ds,δ',hh,r,e,k⟩:=h;cases r with
  |nil=>cases e
  |cons r t=>
   obtain⟨δ1,e1,e⟩:=bind_some e;exact⟨_,_,rfl,H₀,Z₀,Z,δ,_,δ1,hh,r,e1,fun σ1 H1 Z1 hh1 s1=>⟨H₀,Z₀,Z1,δ1,_,δ',hh1,t.same s1,e,fun σ2 H2 Z2 hh2 s2=>k σ2 H2 Z2 hh2 (s1.trans s2)⟩⟩
theorem uG{k:Nat}(hc:X.calm=true)(h:IT X es gs)(hn:(assignEach es X.env).length=gs.length:=by rfl)(hst:(assignEach es X.env).findIdx? (·.1)=none:=by rfl):GV X (.Tuple es k pos) (xK gs):=
 PG.imp (Ee hc h hn hst) fun v σ H Q h=>by
  obtain⟨H₀,Z₀,Z,δ,d,δ',hh,r,e,k⟩:=h;cases r with
  |tup q t=>
   have el:_=gs.length:=zv (gs:=gs) e;exact⟨_,_,rfl,SqT.same q hh.zh,by rw[t.length];exact el,H₀,Z₀,Z,δ,_,δ',hh,t,e,k⟩
  |_=>cases e
noncomputable def A8(f:Dv->Option D)(g:D->Dv->Option Dv):Sf:=fun δ=>(f δ).bind fun d=>(g d δ).bind fun δ'=>some (.nx,δ')
theorem Ds{tg:Expr}{f:Dv->Option D}(he:EV X e f)(hg:GV X tg g)(hs:swapsWithSole [tg] e pos.line X.env=pure false:=by rfl)(hw:swappedStores [tg] e X.env=pure none:=by rfl)
  (h1:(assignEach [tg] X.env).map (·.2)=[assign tg X.env]:=by rfl):SV X (.Assign [tg] e pos) (A8 f g):=
 PS.imp (Ec he hg hs hw h1) fun D σ H h=>by
  obtain⟨H₀,Z₀,Z,δ,r,hh,e,k⟩:=h;obtain⟨d,e1,e⟩:=bind_some e;obtain⟨δ',e2,e⟩:=bind_some e;cases e;exact⟨H₀,Z₀,Z,δ,d,hh,e1,fun v Z1 H1 hh1 s1 r1=>⟨H₀,Z₀,Z1,δ,d,δ',hh1,r1,e2,fun σ' H' Z' hh' s'=>k σ' H' Z' hh' (s1.trans s')⟩⟩
end
noncomputable def wN:Nat:=1000000
theorem iV{t:Dv->Option Bool}{b:Sf}:∀{n m:Nat} {δ:Dv} {r:Fl×Dv},fN t b n δ = some r->n<=m->fN t b m δ = some r
 | 0,_,_,_,h,_=>by cases h
 |n+1,0,_,_,_,hm=>by omega
 |n+1,m+1,δ,r,h,hm=>by
  have hm:n<=m:=by omega
  obtain⟨c,h1,h⟩:=bind_some h;show((t δ).bind fun c=>_)=_
  rw[h1,Option.bind_some];cases c with
  |false=>exact h
  |true=>
   rw[if_pos rfl]at h ⊢;obtain⟨⟨fl,δ2⟩,h2,h⟩:=bind_some h;rw[h2,Option.bind_some];cases fl with
   |nx=>exact iV h hm
   |ct=>exact iV h hm
   |bk=>exact h
   |rt d=>exact h
theorem tS{t:Dv->Option Bool}{b:Sf}{δ:Dv}(n:Nat)(h:t δ = some false):fN t b (n+1) δ = some (.nx,δ):=by
 show((t δ).bind fun c=>_)=_
 rw[h];rfl
theorem xM{t:Dv->Option Bool}{b:Sf}{δ δ2:Dv}{r:Fl×Dv}(n:Nat)(h:t δ = some true)(h2:b δ = some (.nx,δ2))(h3:fN t b n δ2=some r):fN t b (n+1) δ = some r:=by
 show((t δ).bind fun c=>_)=_
 rw[h,Option.bind_some,if_pos rfl,h2,Option.bind_some];exact h3
theorem bN{g:D->Dv->Option Dv}{b:Sf}{d:D}{ds:List D}{δ δ1 δ2:Dv}(h1:g d δ = some δ1)(h2:b δ1=some (.nx,δ2)):loop g b (d::ds) δ = loop g b ds δ2:=by
 show((g d δ).bind fun δ1=>_)=_
 rw[h1,Option.bind_some,h2];rfl
theorem sy{g:D->Dv->Option Dv}{b:Sf}{d x:D}{ds:List D}{δ δ1 δ2:Dv}(h1:g d δ = some δ1)(h2:b δ1=some (.rt x,δ2)):loop g b (d::ds) δ = some (.rt x,δ2):=by
 show((g d δ).bind fun δ1=>_)=_
 rw[h1,Option.bind_some,h2];rfl
def tO(K:Fg)(f:Dv->Option (List D)):TE:=fun σ H Q=>∃H₀ Z₀ Z δ ds,Hold K H₀ Z₀ Z δ σ H/\f δ = some ds/\∀p vs Z' H',Hold K H₀ Z₀ Z' δ σ H'->Same Z Z'->H' p=none->Reps K Z' vs ds->Q (.ref p) (upd H' p (.lst vs))
def EO(X:Cx)(e:Expr)(f:Dv->Option (List D)):Prop:=PE X e (tO X.K f)
noncomputable def wY(f:Dv->Option D):Dv->Option (List D):=fun δ=>(f δ).bind sx
@[simp] noncomputable def eL(i:Nat)(f:Dv->Option (List D)):Sf:=fun δ=>(f δ).bind fun ds=>some (.nx,δ.set i (.ow ds))
section
variable{X:Cx}{e:Expr}{es:List Expr}{p pos:Pos}{f:Dv->Option (List D)}{fs:Dv->Option (List D)}
theorem rW{K:Fg}{D:Ends}{i:Nat}{σ:St}{H:Hp}(h:CJ K (eL i f) D σ H):tO K f σ H fun v H1=>D.nx (σ.set i (some v)) H1:=by
 obtain⟨H₀,Z₀,Z,δ,r,hh,e,k⟩:=h;obtain⟨ds,e1,e⟩:=bind_some e;cases e;exact⟨H₀,Z₀,Z,δ,ds,hh,e1,fun p vs Z1 H1 hh1 t1 hp r1=>k _ _ Z1 (hh1.setO hp r1) t1⟩
theorem u9(i:Nat){x:Str}{pos':Pos}(hN:X.N.Nodup)(ha:EO X e f)(hi:X.N[i]? = some x:=by rfl)(hx:pE X.env.scope x:=by first|exact Or.inl rfl|exact Or.inr rfl)(hs:swapsWith e (some (.Name x pos')) pos.line X.env=pure false:=by rfl)
  (hf:X.fn x=true\/X.env.scope.names.lookup x=some .local:=by first|exact .inl rfl|exact .inr rfl|assumption):SV X (.Assign [.Name x pos'] e pos) (eL i f):=
 PS.imp (dZ hN hi hx ha hs hf) fun D σ H h=>rW h
noncomputable def Ev(fs:Dv->Option (List D)):Dv->Option (List D):=fun δ=>(fs δ).bind fun as=>match as with
 |[d]=>aU d
 |_=>none
theorem wc(hg:Gl X "list")(hm:X.mg "list" = none)(ha:AV X (e::es) fs)(he:starEach (e::es) X.env=(false,eval e X.env)::starEach es X.env:=by rfl)(hpl:(backTo pos (starEach es X.env)).any (·.1)=false:=by rfl):EO X (.Call (.Name "list" p) (e::es) [] pos) (Ev fs):=
 PE.imp (j4 jQ hg hm (by decide +kernel) ha (by decide) (by decide) he hpl) fun σ H Q h=>by
  obtain⟨H₀,Z₀,Z,δ,ds,hh,e,k⟩:=h;obtain⟨as,e1,e⟩:=bind_some e;refine⟨H₀,Z₀,Z,δ,as,hh,e1,fun vs Z1 H1 hh1 t1 r1=>?_⟩
  cases r1 with
  |nil=>cases e
  |cons r1 r2=>
   cases r2 with
   |cons _ _=>cases e
   |nil=>
    cases r1 with
    |lst h1 q1=>cases e;exact⟨_,_,rfl,.inl (SqL.same h1 hh1.zh),fun l hl=>k l _ Z1 H1 hh1 t1 hl q1⟩
    |tup h1 q1=>cases e;exact⟨_,_,rfl,.inr (SqT.same h1 hh1.zh),fun l hl=>k l _ Z1 H1 hh1 t1 hl q1⟩
    |_=>cases e
end
section
variable{X:Cx}{scope:Scope}{vars:List Str}{caps:List (Nat×Str)}{elt tg iter cnd:Expr}{pos:Pos}{g:TG}{fi:Dv->Option (List D)}{ft:Dv->Option Bool}{fe:Dv->Option D}{bv:D->Option (List D)}
theorem ti(tk:tN X.K g vars.length bv){σ:St}{H:Hp}{Q:VK}(h:tO X.K (wY (bI fi caps bv ft fe)) σ H Q):pL (Iu X.K fi) g (CI X.K ft) (tV X.K fe) vars caps σ H Q:=by
 obtain⟨H₀,Z₀,Z,δ,d0,hh,e0,k⟩:=h;obtain⟨d,e,e0⟩:=bind_some e0;obtain⟨ds,e1,e⟩:=bind_some e;by_cases hz:ds.length<=sizeLine
 ·rw[if_pos hz]at e
  obtain⟨es,e2,e⟩:=bind_some e;cases e;obtain rfl:es=d0:=Option.some.inj e0;have hv:vars.map (fun _=>(none:Option V))=List.replicate vars.length none:=by rw[List.map_const']
  refine⟨H₀,Z₀,Z,δ,ds,hh,e1,fun J Z1 H1 hh1 t1 ok=>?_⟩
  refine⟨fun i m ys H=>m=ds.length-i/\i<=ds.length/\∃Zc xs,Hold X.K H₀ Z₀ Zc δ σ H/\Same Z1 Zc/\fX (fun d=>(bv d).bind fun vs=>ft (vs.map .fz++br δ caps)) (fun d=>(bv d).bind fun vs=>fe (vs.map .fz++br δ caps)) (ds.take i)=some xs/\Reps X.K Zc ys xs,⟨ds.length,by simp,zero_le _,Z1,[],hh1,Same.refl _,rfl,.nil⟩,?_⟩
  rintro i m ys H2 ⟨rfl,hi2,Zc,xs,hhc,tc,fx,rc⟩;have zh:Same Z1 H2:=tc.trans hhc.zh;have ly:=rc.length;have lx:=lF fx;rw[List.length_take]at lx;by_cases hlt:i<ds.length
  ·refine .inr ⟨ok.go i H2 zh hlt,by omega,fun x H3 y=>?_⟩
   have ed:ds[i]? = some ds[i]:=by simp[hlt]
   obtain⟨rfl,rx⟩:=ok.yld i H2 x H3 _ zh ed y;obtain⟨xs',f0,b,fb,ff,ftr⟩:=iJ e2 ed;rw[fx]at f0;cases f0;obtain⟨vs,f3,f1⟩:=bind_some fb;rw[hv];refine tk x Zc ds[i] vs (eV σ caps) H3 _ (rx.same tc) hhc.zh f3 fun us ru hn=>⟨⟨by simp[hn],fun j v q=>?_⟩,?_⟩
   ·by_cases hj:j<vars.length
    ·rw[getElem?_append_left (by simpa using hj),getElem?_replicate]at q
     split at q<;>cases q
    ·rw[getElem?_append_right (by simpa using hj)]at q
     rw[getElem?_append_right (by simpa[hn]using hj)];simpa[hn]using q
   ·refine⟨H3,Zc,Zc,_,b,nr hhc ru,f1,fun Z3 H3' h3 t3=>?_⟩
    have hh3:=hhc.new ⟨t3,h3.h0,h3.zh,h3.zb,h3.nf⟩;cases b with
    |false=>
     dsimp only;rw[if_neg (by decide)];exact⟨ds.length-(i+1),by omega,rfl,hlt,Z3,xs,hh3,tc.trans t3,ff rfl,rc.same t3⟩
    |true=>
     dsimp only;rw[if_pos rfl];obtain⟨ei,f2,f4⟩:=ftr rfl;rw[f3]at f2;refine⟨H3,Zc,Z3,_,ei,h3,f2,fun v Z4 H4 h4 t4 r4=>⟨ds.length-(i+1),by omega,rfl,hlt,Z4,xs++[ei],?_,(tc.trans t3).trans t4,f4,((rc.same t3).same t4).append (.cons r4 .nil)⟩⟩
     exact hhc.new ⟨t3.trans t4,h4.h0,h4.zh,h4.zb,h4.nf⟩
  ·have hie:i=ds.length:=by omega
   subst hie;refine .inl ⟨ok.stop _ H2 zh (le_refl _),by omega,fun p hp=>?_⟩
   rw[List.take_length,e2]at fx;cases fx;exact k p ys Zc _ hhc (t1.trans tc) hp rc
 ·rw[if_neg hz]at e;cases e
theorem oz(i:Nat){y:Str}{py spos:Pos}(hN:X.N.Nodup)(B:BlkOk X.env.scope.names X.N scope vars caps)(hc:X.calm=true)(hi:IV X tg iter fi)(tk:tN X.K g vars.length bv)
  (hg:∀C s₀ H₀ ex,PG (cY X scope (vars++caps.map (·.2)) C s₀ H₀ ex) tg g) (hb:∀C s₀ H₀ ex,TV (cY X scope (vars++caps.map (·.2)) C s₀ H₀ ex) cnd ft) (he:∀C s₀ H₀ ex,EV (cY X scope (vars++caps.map (·.2)) C s₀ H₀ ex) elt fe)
  (hy:X.N[i]? = some y:=by rfl) (hx:pE X.env.scope y:=by first|exact Or.inl rfl|exact Or.inr rfl) (hsw:swapsWith (.ListComp elt [⟨tg,iter,[cnd],0⟩] scope pos) (some (.Name y py)) spos.line X.env=pure true:=by rfl)
  (hf:X.fn y=true\/X.env.scope.names.lookup y=some .local:=by first|exact .inl rfl|exact .inr rfl|assumption) (hs:∀x,foldedSetIterable iter X.env x=pure x:=by intro _;rfl) :
  SV X (.Assign [.Name y py] (.ListComp elt [⟨tg,iter,[cnd],0⟩] scope pos) spos) (eL i (wY (bI fi caps bv ft fe))):=
 PS.imp (rO (tt:=CI X.K ft) (te:=tV X.K fe) B hc hi hg hb he hN hy hx hsw hf hs) fun D σ H h=>ti tk (rW h)
end
noncomputable def wL(t:Sf):Fl×Dv->Option (Fl×Dv)
 | (.nx,δ)=>t δ
 |r=>some r
@[simp] theorem Iz(t:Sf)(δ:Dv):wL t (.nx,δ)=t δ:=rfl
@[simp] theorem Iy(t:Sf)(d:D)(δ:Dv):wL t (.rt d,δ)=some (.rt d,δ):=rfl
@[simp] theorem IB(t:Sf)(δ:Dv):wL t (.bk,δ)=some (.bk,δ):=rfl
@[simp] theorem IA(t:Sf)(δ:Dv):wL t (.ct,δ)=some (.ct,δ):=rfl
noncomputable def Hy(u w:Sf)(δ:Dv):Bool->Option (Fl×Dv)
 |true=>u δ
 |false=>w δ
@[simp] theorem KN(u w:Sf)(δ:Dv):Hy u w δ true=u δ:=rfl
@[simp] theorem KO(u w:Sf)(δ:Dv):Hy u w δ false=w δ:=rfl
theorem aM(s t:Sf)(δ:Dv):ap s t δ = (s δ).bind (wL t):=by
 unfold ap wL;congr 1
theorem bd(t:Dv->Option Bool)(u w:Sf)(δ:Dv):bH t u w δ = (t δ).bind (Hy u w δ):=by
 unfold bH;congr 1;funext c;cases c<;>rfl
noncomputable def lc:List D->Option (List Bool)
 |[]=>some []
 |.bool b::r=>(lc r).map (b :: ·)
 |_=>none
noncomputable def Cr:List D->Option D
 |[.list xs]=>(lc xs).map fun bs=>.bool (bs.all id)
 |_=>none
noncomputable def Cp:List D->Option D
 |[.list xs]=>(lc xs).map fun bs=>.bool (bs.any id)
 |_=>none
noncomputable def jD:List D->Option (List Int)
 |[]=>some []
 |.int b::r=>(jD r).map (b :: ·)
 |_=>none
noncomputable def lQ:List D->Option D
 |[.list xs]=>(jD xs).map fun bs=>.int bs.sum
 |_=>none
theorem nq{α:Type}(f:α -> Bool):∀xs:List α,lc (xs.map fun a=>.bool (f a))=some (xs.map f)
 |[]=>rfl
 |a::r=>by simp[lc,nq f r]
theorem Af{α:Type}(f:α -> Bool)(xs:List α):Cr [.list (xs.map fun a=>.bool (f a))]=some (.bool (xs.all f)):=by
 simp[Cr,nq,List.all_map]
theorem Ac{α:Type}(f:α -> Bool)(xs:List α):Cp [.list (xs.map fun a=>.bool (f a))]=some (.bool (xs.any f)):=by
 simp[Cp,nq,List.any_map]
theorem o8{α:Type}(f:α -> Int):∀xs:List α,jD (xs.map fun a=>.int (f a))=some (xs.map f)
 |[]=>rfl
 |a::r=>by simp[jD,o8 f r]
theorem rm{α:Type}(f:α -> Int)(xs:List α):lQ [.list (xs.map fun a=>.int (f a))]=some (.int (xs.map f).sum):=by
 simp[lQ,o8]
noncomputable def Gx:D->Option D
 |.list xs=>some (.list xs.reverse)
 |_=>none
@[simp] theorem DU(xs:List D):Gx (.list xs)=some (.list xs.reverse):=rfl
noncomputable def Gy:D->Option (List D)
 |.list xs=>some xs.reverse
 |.tuple xs=>some xs.reverse
 |_=>none
@[simp] theorem Fz(xs:List D):Gy (.list xs)=some xs.reverse:=rfl
@[simp] theorem DV(xs:List D):Gy (.tuple xs)=some xs.reverse:=rfl
@[simp] noncomputable def KG:Sf:=fun _=>none
@[simp] noncomputable def Lk(i:Nat)(f:Dv->Option D):Sf:=fun δ=>(f δ).bind fun v=>(aU v).bind fun es=>(xH δ[i]?).bind fun ds=>if ds.length+es.length<=sizeLine then some (.nx,δ.set i (.ow (ds++es)))else none
section
variable{X:Cx}{e:Expr}{es:List Expr}{p pos tpos apos:Pos}{f:Dv->Option D}{st:Stmt}
theorem qQ{K:Fg}{Z:Hp}:∀{xs:List V} {ds:List D} {bs:List Bool} {its:List Value},Reps K Z xs ds->Vals xs its->lc ds=some bs->its.length=bs.length/\∀(i:Nat) (v:Value),its[i]? = some v->∃b,bs[i]? = some b/\v=.bool b
 |_,_,bs,_,.nil,.nil,h=>by cases h;exact⟨rfl,fun i v q=>by simp at q⟩
 |_,_,bs,_,.cons r t,.cons q u,h=>by
  cases r with
  |bl b=>
   unfold lc at h;cases g:lc _ with
   |none=>rw[g]at h;cases h
   |some cs=>
    rw[g]at h;cases h;obtain⟨h1,h2⟩:=qQ t u g;refine⟨by simp[h1],fun i v e=>?_⟩
    cases i with
    |zero=>simp at e;subst e;exact⟨b,rfl,q⟩
    |succ i=>simp at e;simpa using h2 i v e
  |_=>cases h
theorem sK{K:Fg}{Z:Hp}:∀{xs:List V} {ds:List D} {bs:List Int} {its:List Value},Reps K Z xs ds->Vals xs its->jD ds=some bs->IntsAre its bs
 |_,_,bs,_,.nil,.nil,h=>by cases h;exact .nil
 |_,_,bs,_,.cons r t,.cons q u,h=>by
  cases r with
  |int b=>
   unfold jD at h;cases g:jD _ with
   |none=>rw[g]at h;cases h
   |some cs=>
    rw[g]at h;cases h;obtain⟨tk,rfl⟩:=q;exact .cons _ _ (sK t u g)
  |_=>cases h
theorem Ic(hc:X.calm=true):CallR X (.builtin "all") (yy X.K Cr):=by
 intro pins s σ H xs us Q I rs q;obtain⟨Z,as,d,zh,ra,e,k⟩:=q;cases ra with
 |nil=>cases e
 |cons r1 r2=>
  cases r2 with
  |cons _ _=>cases r1<;>cases e
  |nil=>
   cases r1 with
   | @lst l ys ds h1 q1=>
    have e:(lc ds).map (fun bs=>PyData.bool (bs.all id))=some d:=e
    cases g:lc ds with
    |none=>rw[g]at e;cases e
    |some bs=>
     rw[g]at e;cases e;obtain⟨u,rfl,ru⟩:=gJ rs;cases ru;obtain⟨its,rv,pl,hz⟩:=I.list (SqL.same h1 zh);obtain⟨hlen,hget⟩:=qQ q1 rv g;have hl:=pl.isList;have hlt:l<s.heap.objs.size:=by obtain⟨_,e,_⟩:=hl;exact lt_size e
     refine call_all_walk (wpAny_pyIter_list hl ?_);refine⟨s.heap.objs.size,[s.heap.objs.size,l],[s.heap.objs.size],its.toArray.size,_,_,fun i=>(bs[i]?).getD true,rfl,Walks.list (A:=X.A.in1) (I.ok.hd hc) _ l (ne_of_lt hlt) its.toArray,
      ⟨⟨_,get?_push_size _ rfl,rfl,rfl⟩,hl.push _⟩,fun i v s' Q' E' hP hQ=>?_,fun h' tk hk=>?_⟩
     ·obtain⟨b,e,rfl⟩:=hget i v (by simpa using hP)
      simp only[e,getD_some]at hQ;exact wpAny_truthy_bool hQ
     ·have e:((List.range its.toArray.size).all fun i=>(bs[i]?).getD true)=bs.all id:=by
       rw[size_toArray,hlen];exact LSm.range_all bs
      rw[e];exact⟨.bl _,H,I.kept (t':=tk) (LSm.kept_iter hk),rfl,k _ Z H (New.refl zh) (.bl _)⟩
   |_=>cases e
theorem Ib(hc:X.calm=true):CallR X (.builtin "any") (yy X.K Cp):=by
 intro pins s σ H xs us Q I rs q;obtain⟨Z,as,d,zh,ra,e,k⟩:=q;cases ra with
 |nil=>cases e
 |cons r1 r2=>
  cases r2 with
  |cons _ _=>cases r1<;>cases e
  |nil=>
   cases r1 with
   | @lst l ys ds h1 q1=>
    have e:(lc ds).map (fun bs=>PyData.bool (bs.any id))=some d:=e
    cases g:lc ds with
    |none=>rw[g]at e;cases e
    |some bs=>
     rw[g]at e;cases e;obtain⟨u,rfl,ru⟩:=gJ rs;cases ru;obtain⟨its,rv,pl,hz⟩:=I.list (SqL.same h1 zh);obtain⟨hlen,hget⟩:=qQ q1 rv g;have hl:=pl.isList;have hlt:l<s.heap.objs.size:=by obtain⟨_,e,_⟩:=hl;exact lt_size e
     refine call_any_walk (wpAny_pyIter_list hl ?_);refine⟨s.heap.objs.size,[s.heap.objs.size,l],[s.heap.objs.size],its.toArray.size,_,_,fun i=>(bs[i]?).getD false,rfl,Walks.list (A:=X.A.in1) (I.ok.hd hc) _ l (ne_of_lt hlt) its.toArray,
      ⟨⟨_,get?_push_size _ rfl,rfl,rfl⟩,hl.push _⟩,fun i v s' Q' E' hP hQ=>?_,fun h' tk hk=>?_⟩
     ·obtain⟨b,e,rfl⟩:=hget i v (by simpa using hP)
      simp only[e,getD_some]at hQ;exact wpAny_truthy_bool hQ
     ·have e:((List.range its.toArray.size).any fun i=>(bs[i]?).getD false)=bs.any id:=by
       rw[size_toArray,hlen];exact LSm.range_any bs
      rw[e];exact⟨.bl _,H,I.kept (t':=tk) (LSm.kept_iter hk),rfl,k _ Z H (New.refl zh) (.bl _)⟩
   |_=>cases e
theorem Da(hc:X.calm=true):CallR X (.builtin "sum") (yy X.K lQ):=by
 intro pins s σ H xs us Q I rs q;obtain⟨Z,as,d,zh,ra,e,k⟩:=q;cases ra with
 |nil=>cases e
 |cons r1 r2=>
  cases r2 with
  |cons _ _=>cases r1<;>cases e
  |nil=>
   cases r1 with
   | @lst l ys ds h1 q1=>
    have e:(jD ds).map (fun bs=>PyData.int bs.sum)=some d:=e;cases g:jD ds with
    |none=>rw[g]at e;cases e
    |some bs=>
     rw[g]at e;cases e;obtain⟨u,rfl,ru⟩:=gJ rs;cases ru;obtain⟨its,rv,pl,hz⟩:=I.list (SqL.same h1 zh);have hi:=sK q1 rv g;obtain⟨zs,hx⟩:=hi.allInts.items;have hl':s.heap.IsList l (intItems zs):=hx ▸ pl.isList;refine sum_intListG (I.ok.hd hc) hl' fun h' tk t' hk=>?_
     have e1:bs=zs.toList.map (·.1):=by
      rw[<-nums_intItems,<-hx];exact(show numsOf its.toArray.toList=bs from hi.numsOf).symm
     have e2:preSum (numAt zs) zs.size=bs.sum:=by
      rw[preSum_eq,List.take_of_length_le (by simp),e1]
     rw[e2];exact⟨.int _,H,I.kept (t':=tk) hk,⟨t',rfl⟩,k _ Z H (New.refl zh) (.int _)⟩
   |_=>cases e
theorem F9{st:Stmt}:SV X st KG:=fun pins s σ H D I h=>by
 obtain⟨_,_,_,_,_,_,e,_⟩:=h;cases e
end
noncomputable def Ju:D->Option (List D)
 |.tuple xs=>some xs.reverse
 |_=>none
@[simp] theorem DT(xs:List D):Ju (.tuple xs)=some xs.reverse:=rfl
def F2(h:Heap)(e:Addr):Prop:=∃oe vs,h.get? e=some oe/\oe.data=.fields vs/\vs[2]? = some .none
def FlyX(base:Heap)(l:List Env)(e:Addr)(cls a0:Value)(h:Heap):Prop:=Heap.FlyingW base l e cls a0 h/\F2 h e
def Dc(base:Heap)(l:List Env)(e:Addr)(cls a0:Value)(L:Addr)(h:Heap):Prop:=Heap.HeldW base l e cls a0 L h/\F2 h e
structure Put (l:List Env) (e T:Addr) (oe:Obj) (fl:Value) (h h':Heap):Prop where
 new:h.get? T=none
 ex:h'.get? e=some (oe.mapFields (·.setIfInBounds 1 (.ref T)))
 tb:∃oT ts,h'.get? T=some oT/\oT.data=.fields ts/\ts[3]? = some fl
 keep:∀b o,b≠e->b ∉ ic l->h.get? b=some o->h'.get? b=some o
 slot:∀b o,b≠e->h.get? b=some o->∃sl,h'.get? b=some { o with slots:=sl }
section
variable{M:Model}{A:Around}{E:Value->Shared->Prop}{s:Shared}
theorem oJ{base:Heap}{env:Env}{outer:List Env}{L e:Addr}{oe:Obj}{vs:Array Value}{head:Value}{nx:Bool}{Q:Unit->Shared->Prop}
  (hfr:A.frames=some (env::outer)) (hl:s.heap.FunFrames base (env::outer)) (hf:env.frame=some L) (he:s.heap.get? e=some oe) (hd:oe.data=.fields vs) (hsz:1<vs.size)
  (h:∀h' T,Put (env::outer) e T oe (rawInt L) s.heap h'->Q () { s with heap:=h' }) :
  wpAny M A (do let a <-frameOf env;let pl <-entryPlaceOf L nx;let b <-EntryCells.newEntry head a .none (rawInt L) .none pl;setField (.ref e) 1 b) Q E s:=by
 have hene:e ∉ ic (env::outer):=fun hm=>by
  obtain⟨_,o,ho,hnf⟩:=hl.mem hm;rw[he]at ho;cases ho;exact hnf vs hd
 refine wpAny_bind (wpAny_frameOf_fun hfr hl hf fun h₁ hs₁=>wpAny_bind (wpAny_entryPlaceOf fun pl hpl=>?_))
 unfold EntryCells.newEntry newFields;refine wpAny_bind (wpAny_newObj_type ?_ (hpl.sizeOk5 _ _ _ _ _));have he₁:h₁.get? e=some oe:=(hs₁.2.1 e hene).trans he;have nT:s.heap.get? h₁.objs.size=none:=by
  cases q:s.heap.get? h₁.objs.size with
  |none=>rfl
  |some o=>
   obtain⟨sl,q2⟩:=hs₁.2.2 _ o q;exact absurd (lt_size q2) (lt_irrefl _)
 refine wpAny_setField (get?_push_of_some _ he₁) hd hsz (h _ h₁.objs.size ⟨nT,?_,?_,fun b o hb hbf q=>?_,fun b o hb q=>?_⟩)
 ·exact Heap.get?_update_self _ (get?_push_of_some _ he₁) (Obj.isFreed_of_fields (Obj.data_mapFields hd _))
 ·refine⟨_,_,(get?_update_other _ _ (ne_of_lt (lt_size he₁))).trans (get?_push_size h₁ rfl),rfl,?_⟩
  first|(simp;done)|(rcases hpl with rfl|⟨_,_,_,_,_,_,_,rfl⟩<;>simp)
 ·rw[get?_update_other _ _ (Ne.symm hb)]
  exact get?_push_of_some _ ((hs₁.2.1 b hbf).trans q)
 ·obtain⟨sl,q2⟩:=hs₁.2.2 b o q
  exact⟨sl,by rw[get?_update_other _ _ (Ne.symm hb)];exact get?_push_of_some _ q2⟩
theorem Put.flies{base h h':Heap}{l:List Env}{e T:Addr}{oe:Obj}{vs:Array Value}{fl a0:Value}(p:Put l e T oe fl h h')(hkb:base.StaysIn h)(hl:h.FunFrames base l)(hen:base.get? e=none)(he:h.get? e=some oe)(hd:oe.data=.fields vs)(h0:vs[0]? = some a0)(h2:vs[2]? = some .none):
  base.StaysIn h'/\h'.FunFrames base l/\h'.TracedAtW base e oe.cls a0 fl/\F2 h' e/\h.UpToSlots h':=by
 have hsz:2<vs.size:=(Array.getElem?_eq_some_iff.mp h2).1;have hd3:=Obj.data_mapFields hd (·.setIfInBounds 1 (Value.ref T));have hTe:T≠e:=fun z=>by subst z;rw[p.new]at he;cases he
 obtain⟨oT,ts,q1,q2,q3⟩:=p.tb;have ne:∀b o,h.get? b=some o->(∀ws,o.data≠.fields ws)->b≠e:=fun b o hb hnf z=>by subst z;rw[he]at hb;cases hb;exact hnf _ hd
 have nT:base.get? T=none:=by
  cases q:base.get? T with
  |none=>rfl
  |some o=>have:=hkb _ _ q;rw[p.new]at this;cases this
 refine⟨fun b o hb=>p.keep b o (fun z=>by subst z;rw[hen]at hb;cases hb) (fun z=>?_) (hkb b o hb),hl.of_keeps fun b o hb hnf=>?_,⟨_,_,T,oT,ts,p.ex,⟨Obj.cls_mapFields _ _,by rw[Array.getElem?_setIfInBounds_ne (by decide)];exact h0⟩,hd3,by rw[Array.getElem?_setIfInBounds_self,if_pos (by omega)],nT,hTe,q1,q2,q3⟩,⟨_,_,p.ex,hd3,by rw[Array.getElem?_setIfInBounds_ne (by decide)];exact h2⟩,fun b o hb hnf=>p.slot b o (ne b o hb hnf) hb⟩
 ·rw[(hl.mem z).1]at hb;cases hb
 ·obtain⟨sl,q⟩:=p.slot b o (ne b o hb hnf) hb
  exact⟨_,q,rfl⟩
theorem pd{base:Heap}{l:List Env}{e:Addr}{cls a0 fl:Value}{Q:Unit->Shared->Prop}(hkb:base.StaysIn s.heap)(hl:s.heap.FunFrames base l)(ht:s.heap.TracedAtW base e cls a0 fl)(h2:F2 s.heap e)
  (h:∀h',base.StaysIn h'->h'.FunFrames base l->h'.TracedW base e cls a0->F2 h' e->s.heap.UpToSlots h'->Q () { s with heap:=h' }):wpAny M A (setFlight (.ref e) none) Q E s:=by
 obtain⟨oe,vs,T,oT,ts,he,hcls,hd,h1,hnT,hTe,hT,hdT,h3⟩:=ht;have hsz3:3<ts.size:=(Array.getElem?_eq_some_iff.mp h3).1;have other:∀b,b≠T->(s.heap.update T (Obj.mapFields (·.setIfInBounds 3 ((none:Option Addr).elim Value.none fun f=>rawInt f)))).get? b=s.heap.get? b:=fun b hb=>get?_update_other _ _ (Ne.symm hb)
 have noR:∀b o,s.heap.get? b=some o->(∀ws,o.data≠.fields ws)->b≠T:=fun b o hb hnf q=>by
  subst q;rw[hT]at hb;cases hb;exact hnf _ hdT
 unfold setFlight;refine wpAny_bind (wpAny_field he hd h1 ?_);rw[if_pos (show(Value.ref T != Value.none)=true from by simp)];refine wpAny_setField hT hdT hsz3 (h _ (fun b o hb=>(other b fun q=>by subst q;rw[hnT]at hb;cases hb).trans (hkb b o hb)) (hl.of_keeps fun b o hb hnf=>⟨o,(other b (noR b o hb hnf)).trans hb,rfl⟩) ?_ ?_ fun b o hb hnf=>⟨o.slots,(other b (noR b o hb hnf)).trans hb⟩)
 ·exact⟨oe,vs,T,_,_,(other e (Ne.symm hTe)).trans he,hcls,hd,h1,hnT,hTe,Heap.get?_update_self _ hT (Obj.isFreed_of_fields (Obj.data_mapFields hdT _)),Obj.data_mapFields hdT _,by simp[hsz3]⟩
 ·obtain⟨o2,v2,q1,q2,q3⟩:=h2
  exact⟨o2,v2,(other e (Ne.symm hTe)).trans q1,q2,q3⟩
theorem vA{base:Heap}{env:Env}{outer:List Env}{L e:Addr}{cls a0:Value}{Q:Unit->Shared->Prop}(hfr:A.frames=some (env::outer))(hf:env.frame=some L)(hfl:FlyX base (env::outer) e cls a0 s.heap)
  (hQ:∀h',Dc base (env::outer) e cls a0 L h'->s.heap.UpToSlots h'->Q () { s with heap:=h' }):wpAny M A (noteFrame (.ref e) env) Q E s:=by
 obtain⟨⟨hkb,hen,hl,oe,vs,T,oT,ts,he,⟨hcls,h0⟩,hd,h1,hnT,hTe,hT,hdT,h3⟩,h2⟩:=hfl;subst hcls;have h2:vs[2]? = some .none:=by
  obtain⟨o2,v2,q1,q2,q3⟩:=h2;rw[he]at q1;cases q1;rw[hd]at q2;cases q2;exact q3
 have other:∀b,b≠T->(s.heap.update T (Obj.mapFields (·.setIfInBounds 3 Value.none))).get? b=s.heap.get? b:=fun b hb=>get?_update_other _ _ (Ne.symm hb)
 have noR:∀b o,s.heap.get? b=some o->(∀ws,o.data≠.fields ws)->b≠T:=fun b o hb hnf q=>by
  subst q;rw[hT]at hb;cases hb;exact hnf _ hdT
 unfold noteFrame;simp only[hf];refine wpAny_bind (wpAny_field he hd h1 ?_);rw[if_pos (show(Value.ref T != Value.none)=true from by simp)];refine wpAny_bind (wpAny_field hT hdT h3 ?_);rw[if_neg (show ¬((Value.none==rawInt L)=true)from by simp[rawInt])];refine wpAny_bind (wpAny_setField hT hdT (Array.getElem?_eq_some_iff.mp h3).1 ?_);have hl':(s.heap.update T (Obj.mapFields (·.setIfInBounds 3 Value.none))).FunFrames base (env::outer):=hl.of_keeps fun b o hb hnf=>⟨o,(other b (noR b o hb hnf)).trans hb,rfl⟩
 have he':=(other e (Ne.symm hTe)).trans he;refine oJ hfr hl' hf he' hd (Array.getElem?_eq_some_iff.mp h1).1 fun h' T' p=>?_
 obtain⟨k1,k2,k3,k4,k5⟩:=p.flies (fun b o hb=>(other b fun q=>by subst q;rw[hnT]at hb;cases hb).trans (hkb b o hb)) hl' hen he' hd h0 h2
 exact hQ h' ⟨⟨k1,hen,k2,k3⟩,k4⟩ fun b o hb hnf=>k5 b o ((other b (noR b o hb hnf)).trans hb) hnf
theorem qw{base:Heap}{l:List Env}{e L:Addr}{cls a0:Value}{Q:Unit->Shared->Prop}(hh:Dc base l e cls a0 L s.heap)
  (hQ:∀h',FlyX base l e cls a0 h'->s.heap.UpToSlots h'->Q () { s with heap:=h' }):wpAny M A (setFlight (.ref e) none) Q E s:=by
 obtain⟨⟨f1,f2,f3,f4⟩,f5⟩:=hh;exact pd f1 f3 f4 f5 fun h' k1 k2 k3 k4 k5=>hQ h' ⟨⟨k1,f2,k2,k3⟩,k4⟩ k5
theorem nZ{base:Heap}{l:List Env}{e:Addr}{cls a0:Value}{Q:Unit->Shared->Prop}(hh:FlyX base l e cls a0 s.heap)
  (hQ:∀h',FlyX base l e cls a0 h'->s.heap.UpToSlots h'->Q () { s with heap:=h' }):wpAny M A (setFlight (.ref e) none) Q E s:=by
 obtain⟨⟨f1,f2,f3,f4⟩,f5⟩:=hh;exact pd f1 f3 f4.at f5 fun h' k1 k2 k3 k4 k5=>hQ h' ⟨⟨k1,f2,k2,k3⟩,k4⟩ k5
theorem FlyX.pop{base h:Heap}{env:Env}{l:List Env}{e:Addr}{cls a0:Value}(x:FlyX base (env::l) e cls a0 h):FlyX base l e cls a0 h:=
 let ⟨⟨k1,k2,⟨_,_,k3⟩,k4⟩,k5⟩:=x; ⟨⟨k1,k2,k3,k4⟩,k5⟩
theorem sG{base:Heap}{env:Env}{outer:List Env}{L e:Addr}{cls a0:Value}{Q:Unit->Shared->Prop}(hfr:A.frames=some (env::outer))(hf:env.frame=some L)(hfl:FlyX base (env::outer) e cls a0 s.heap)
  (hQ:∀h',FlyX base outer e cls a0 h'->s.heap.UpToSlots h'->Q () { s with heap:=h' }):wpAny M A (leaving env (.ref e)) Q E s:=by
 unfold leaving;refine wpAny_bind (vA hfr hf hfl fun h1 x1 u1=>?_);exact qw (s:={ s with heap:=h1 }) x1 fun h2 x2 u2=>hQ h2 x2.pop (u1.trans u2)
theorem nY{base h:Heap}{env:Env}{outer:List Env}{L e:Addr}{cls:Value}{args:List Value}{Q:Unit->Shared->Prop}
  (hfr:A.frames=some (env::outer)) (hf:env.frame=some L) (hkb:base.StaysIn h) (hl:h.FunFrames base (env::outer)) (hx:Heap.MadeExcOf h s.heap e cls args)
  (hQ:∀h' t,FlyX base outer e cls (.ref t) h'->s.heap.UpToSlots h'->Q () { s with heap:=h' }):wpAny M A (leaving env (.ref e)) Q E s:=by
 obtain⟨t,he,htn,ht⟩:=hx.there;have fresh:∀b,h.get? b=none->base.get? b=none:=fun b hb=>by
  cases hq:base.get? b with
  |none=>rfl
  |some o'=>have:=hkb b o' hq;rw[hb]at this;cases this
 have hl2:s.heap.FunFrames base (env::outer):=hl.of_keeps fun b o hb _=>⟨o,hx.keeps b o hb,rfl⟩
 unfold leaving noteFrame;simp only[hf];refine wpAny_bind (wpAny_bind (wpAny_field he rfl (x:=.none) rfl ?_));rw[if_neg (by decide)];refine oJ hfr hl2 hf he rfl (by simp) fun h1 T p=>?_
 obtain⟨k1,k2,k3,k4,k5⟩:=p.flies (a0:=.ref t) (fun b o hb=>hx.keeps b o (hkb b o hb)) hl2 (fresh e hx.new) he rfl rfl rfl
 exact qw (s:={ s with heap:=h1 }) (L:=L) ⟨⟨k1,fresh e hx.new,k2,k3⟩,k4⟩ fun h2 x2 u2=>hQ h2 t x2.pop (k5.trans u2)
end
noncomputable def ii(n:Str):D:=.dict [(.str "fn",.str n)]
abbrev Xf:=Dv->Option (Str×Dv)
@[simp] noncomputable def Ks:Xf:=fun _=>none
@[simp] noncomputable def xL(n:Str)(f:Dv->Option D):Xf:=fun δ=>(f δ).bind fun _=>some (n,δ)
@[simp] noncomputable def xE(f:Dv->Option Str):Xf:=fun δ=>(f δ).bind fun n=>some (n,δ)
@[simp] noncomputable def Kt(t:Dv->Option Bool)(u w:Xf):Xf:=fun δ=>(t δ).bind fun c=>if c=true then u δ else w δ
@[simp] noncomputable def IY(s:Sf)(u:Xf):Xf:=fun δ=>(s δ).bind fun r=>match r with
 | (.nx,δ')=>u δ'
 |_=>none
@[simp] noncomputable def Ku(u1:Xf)(s:Sf)(u:Xf):Xf:=fun δ=>match u1 δ with
 |some r=>some r
 |none=>IY s u δ
noncomputable def wO(N:List Str)(m:Nat)(fx:Xf):List D->Option Str:=fun as=>if as.length=m then(fx (az N as)).bind fun r=>some r.1 else none
@[simp] noncomputable def LE(fs:Dv->Option (List D))(g:List D->Option Str):Dv->Option Str:=fun δ=>(fs δ).bind g
theorem kt{P:Program}{w:World}{H:Hp}{h:Heap}{a:Addr}{o:HO}(x:ObjOk P w H h a o):∃ob,h.get? a=some ob:=by
 cases o with
 |lst xs=>obtain⟨_,_,_,_,e⟩:=x;exact⟨_,e⟩
 |tup xs=>obtain⟨_,_,_,⟨ob,e,_⟩,_⟩:=x;exact⟨_,e⟩
 |dK kvs=>obtain⟨_,_,_,_,o,_,_,e,_⟩:=x;exact⟨_,e⟩
 |dT kvs=>obtain⟨_,_,_,_,o,_,_,e,_⟩:=x;exact⟨_,e⟩
 |set S n=>obtain⟨o,_,_,_,e,_⟩:=x;exact⟨_,e⟩
 |ins C dx fs=>obtain⟨_,_,_,e,_⟩:=x;exact⟨_,e⟩
 |own y=>exact x
 |xd fs=>obtain⟨_,⟨_,_,_,e,_⟩,_⟩:=x;exact⟨_,e⟩
 |rng lo hi=>obtain⟨_,_,_,e⟩:=x;exact⟨_,e⟩
 |frz ob u=>exact⟨_,x.1⟩
 |tbl ps=>exact⟨_,x⟩
 |met f y=>exact⟨_,x⟩
 |ext φ=>exact x.2.1
theorem zC{P:Program}{w:World}{H:Hp}{h:Heap}{x C:Addr}{o:Obj}(e:h.get? x=some o)(c:o.cls=.ref C)(f:F2 h x):ObjOk P w H h x (n9 x C):=
 ⟨⟨o,e,c,by obtain⟨o',vs,q1,q2⟩:=f;rw[e]at q1;cases q1;exact⟨vs,q2⟩⟩,⟨o,e⟩,fun h1 h2 ⟨o',e',c'⟩ k=>⟨o',k o' e',c'⟩⟩
theorem FlyX.there{base h:Heap}{l:List Env}{e:Addr}{cls a0:Value}(x:FlyX base l e cls a0 h):∃ob,h.get? e=some ob/\ob.cls=cls:=x.1.there
structure Thrown (P:Program) (w:World) (outer:List Env) (H:Hp) (s:Shared) (x C:Addr) (H':Hp) (s':Shared):Prop where
 os:s'.os=s.os
 bare:AllBare s'.gens
 un:Un (ic outer) [] H H' s.heap s'.heap
 hok:HOk P w H' s'.heap
 sm:Same H H'
 is:H' x=some (n9 x C)
 fly:∃B t,FlyX B outer x (.ref C) t s'.heap/\(∀b o,H' b=some o->b≠x->∃ob,B.get? b=some ob)/\(∀b o,s.heap.get? b=some o->H b=none->b ∉ ic outer->B.get? b=some o)
noncomputable def tQ(P:Program)(w:World):uY:=fun outer H s E e s'=>∃x C H',e=.ref x/\Thrown P w outer H s x C H' s'/\E (.ref C) (some x) H'
theorem vX{P:Program}{w:World}{H2:Hp}{B h2 h':Heap}{l l':List Env}{x C:Addr}{t t':Value}(ok:HOk P w H2 h2)(is:H2 x=some (n9 x C))(k2:B.StaysIn h2)(fl':FlyX B l' x (.ref C) t' h')
  (hB:∀b o,H2 b=some o->b≠x->∃ob,B.get? b=some ob):HOk P w H2 h':=fun b o e=>by
 by_cases hb:b=x
 ·subst hb
  rw[is]at e;cases e;obtain⟨ob,h1,h2⟩:=fl'.there;exact zC h1 h2 fl'.2
 ·refine(ok b o e).stay (fun c u hc q=>?_) (fun _ q=>q) fun _ _ q=>q
  have:∃ob,B.get? c=some ob:=by
   rcases hc with rfl|hc
   ·exact hB c o e hb
   ·refine hB c _ hc fun z=>?_
    subst z;rw[is]at hc;cases hc
  obtain⟨ob,hob⟩:=this;have:=k2 c ob hob;rw[q]at this;cases this;exact fl'.1.1 c _ hob
section
variable{P:Program}{w:World}{K:PySem.W.Frag}{mg:Str->Option Value}{base:Heap}{N:List Str}{qual:Str}{scope:Scope}{f:Addr}{cd:Value}{A:Around}{outer:List Env}{s:Shared}{H:Hp}{E:XK}{pins:List (Addr×Obj)}{σ:St}{H1 H2:Hp}{s1 s2:Shared}{x C:Addr}
theorem y3(I:Inv (eU (tQ P w) P w K mg base N qual scope f cd A outer s H E) pins σ H1 s1)(T:Thrown P w (eU (tQ P w) P w K mg base N qual scope f cd A outer s H E).stack H1 s1 x C H2 s2)(hE:E (.ref C) (some x) H2)(h0:Same H H2):
  (eU (tQ P w) P w K mg base N qual scope f cd A outer s H E).xe (.ref x) s2:=by
 obtain⟨B,t,fl,hB1,hB2⟩:=T.fly;have hfr:=I.ok.frames;have loc:∀b o,s.heap.get? b=some o->b ∉ ic outer->b ∉ ic (eU (tQ P w) P w K mg base N qual scope f cd A outer s H E).stack:=fun b o q hb z=>by
  rcases List.mem_cons.mp (I.stkSub b z)with e|e
  ·exact absurd (lt_size q) (by rw[e];exact Nat.not_lt.mpr I.ok.above)
  ·exact hb e
 have keep:∀b o,s.heap.get? b=some o->H b=none->b ∉ ic outer->B.get? b=some o:=fun b o q n hb=>
  hB2 b o (I.base.keep b o q n hb (fun z=>nomatch z)) (I.base.free b o q n (fun z=>nomatch z)) (loc b o q hb)
 refine sG hfr rfl fl fun h' fl' sm=>?_
 have slot:∀b o,s.heap.get? b=some o->H b=none->b∈ic outer->∃sl,h'.get? b=some { o with slots:=sl }:=fun b o q n hb=>by
  obtain⟨sl,e1⟩:=I.base.slot b o q n hb (fun z=>nomatch z);have hb':b∈ic (eU (tQ P w) P w K mg base N qual scope f cd A outer s H E).stack:=by
   show b∈List.filterMap _ (_::outer);exact List.mem_filterMap.mpr (by obtain⟨env,he,hf⟩:=List.mem_filterMap.mp hb;exact⟨env,List.mem_cons_of_mem _ he,hf⟩)
  obtain⟨sl2,e2⟩:=T.un.slot b _ e1 (I.base.free b o q n (fun z=>nomatch z)) hb' (fun z=>nomatch z);obtain⟨_,o',ho',hd⟩:=I.ok.funs.mem hb;have ho2:s.heap.get? b=some o':=ho';rw[q]at ho2;cases ho2;obtain⟨sl3,e3⟩:=sm b _ e2 hd;exact⟨sl3,e3⟩
 refine⟨x,C,H2,rfl,⟨T.os.trans I.os,T.bare,⟨fun b o q n hb _=>fl'.1.1 b o (keep b o q n hb),fun b o q n hb _=>slot b o q n hb,fun b o q n _=>?_,fun b o q _=>?_,fun b xs e=>T.un.tups b xs (I.base.tups b xs e),fun b o u e=>T.un.frzs b o u (I.base.frzs b o u e),fun b ps e=>?_⟩,vX (l:=[]) (t:=t) T.hok T.is fl.1.1 fl' hB1,h0,T.is,⟨B,t,fl',hB1,keep⟩⟩,hE⟩
 ·obtain⟨o1,e1⟩:=I.base.there b o q (fun z=>nomatch z)
  exact T.un.free b o1 e1 (I.base.free b o q n (fun z=>nomatch z)) (fun z=>nomatch z)
 ·cases q2:H2 b with
  |some ho=>
   by_cases hb:b=x
   ·subst hb;obtain⟨ob,e1,_⟩:=fl'.there;exact⟨ob,e1⟩
   ·obtain⟨ob,e1⟩:=hB1 b ho q2 hb;exact⟨ob,fl'.1.1 b ob e1⟩
  |none=>
   have n:H b=none:=by
    cases e:H b with
    |none=>rfl
    |some z=>rw[h0 b z e]at q2;cases q2
   by_cases hb:b∈ic outer
   ·obtain⟨sl,e⟩:=slot b o q n hb;exact⟨_,e⟩
   ·exact⟨o,fl'.1.1 b o (keep b o q n hb)⟩
 ·obtain⟨m1,e1⟩:=I.base.tbls b ps e
  obtain⟨m2,e2⟩:=T.un.tbls b _ e1;exact⟨m1++m2,by rw[e2,Array.append_assoc]⟩
theorem uz{vs:List Value}(I:Inv (eU (tQ P w) P w K mg base N qual scope f cd A outer s H E) pins σ H1 s1)(hs:s2={ s1 with heap:=s2.heap })(hx:Heap.MadeExcOf s1.heap s2.heap x (.ref C) vs)(h0:Same H H1)(hE:H1 x=none->E (.ref C) (some x) (upd H1 x (n9 x C))):
  (eU (tQ P w) P w K mg base N qual scope f cd A outer s H E).xe (.ref x) s2:=by
 have hfr:=I.ok.frames;have n1:H1 x=none:=by
  cases e:H1 x with
  |none=>rfl
  |some o=>obtain⟨ob,h⟩:=kt (I.hok x o e);rw[hx.new]at h;cases h
 have loc:∀b o,s.heap.get? b=some o->b ∉ ic outer->b ∉ ic (eU (tQ P w) P w K mg base N qual scope f cd A outer s H E).stack:=fun b o q hb z=>by
  rcases List.mem_cons.mp (I.stkSub b z)with e|e
  ·exact absurd (lt_size q) (by rw[e];exact Nat.not_lt.mpr I.ok.above)
  ·exact hb e
 have hin:∀env∈(eU (tQ P w) P w K mg base N qual scope f cd A outer s H E).stack,∀b,env.frame=some b->b∈ic (eU (tQ P w) P w K mg base N qual scope f cd A outer s H E).stack:=fun env he b hb=>List.mem_filterMap.mpr ⟨env,he,hb⟩
 have keep:∀b o,s.heap.get? b=some o->H b=none->b ∉ ic outer->(hideAll s1.heap (ic (eU (tQ P w) P w K mg base N qual scope f cd A outer s H E).stack)).get? b=some o:=fun b o q n hb=>
  PySem.W.hideAll_get _ (I.base.keep b o q n hb (fun z=>nomatch z)) (loc b o q hb)
 have trk:∀b o,H1 b=some o->∃ob,(hideAll s1.heap (ic (eU (tQ P w) P w K mg base N qual scope f cd A outer s H E).stack)).get? b=some ob:=fun b o e=>by
  obtain⟨ob,h⟩:=kt (I.hok b o e);refine⟨ob,PySem.W.hideAll_get _ h fun z=>?_⟩
  rw[I.stkFree b z]at e;cases e
 refine nY hfr rfl (fun b o q=>of_hideAll _ q) (PySem.W.funFrames_hide I.stack hin) hx fun h' t fl sm=>?_
 have slot:∀b o,s.heap.get? b=some o->H b=none->b∈ic outer->∃sl,h'.get? b=some { o with slots:=sl }:=fun b o q n hb=>by
  obtain⟨sl,e1⟩:=I.base.slot b o q n hb (fun z=>nomatch z);obtain⟨_,o',ho',hd⟩:=I.ok.funs.mem hb;have ho2:s.heap.get? b=some o':=ho';rw[q]at ho2;cases ho2;obtain⟨sl3,e3⟩:=sm b _ (hx.keeps b _ e1) hd;exact⟨sl3,e3⟩
 have ne:∀b o,s1.heap.get? b=some o->b≠x:=fun b o q z=>by subst z;rw[hx.new]at q;cases q
 have os2:s2.os=s1.os:=by rw[hs]
 have g2:s2.gens=s1.gens:=by rw[hs]
 have hok2:HOk P w (upd H1 x (n9 x C)) h':=fun b o e=>by
  by_cases hb:b=x
  ·subst hb;rw[ay]at e;cases e;obtain⟨ob,q1,q2⟩:=fl.there;exact zC q1 q2 fl.2
  ·rw[au hb]at e
   refine(I.hok b o e).stay (fun c u hc q=>?_) (fun c q=>?_) fun c xs q=>?_
   ·have:∃ho,H1 c=some ho:=by rcases hc with rfl|hc;exact⟨_,e⟩;exact⟨_,hc⟩
    obtain⟨ho,hc⟩:=this;obtain⟨ob,hob⟩:=trk c ho hc;have:=of_hideAll _ hob;rw[q]at this;cases this;exact fl.1.1 c _ hob
   ·rw[au (aH q n1)];exact q
   ·rw[au (aH q n1)];exact q
 refine⟨x,C,upd H1 x (n9 x C),rfl,⟨os2.trans I.os,by rw[show({ s2 with heap:=h' }:Shared).gens=s1.gens from g2];exact I.bare,⟨fun b o q n hb _=>fl.1.1 b o (keep b o q n hb),fun b o q n hb _=>slot b o q n hb,fun b o q n _=>?_,fun b o q _=>?_,fun b xs e=>?_,fun b o u e=>?_,fun b ps e=>?_⟩,hok2,h0.trans (di n1),ay,⟨_,_,fl,fun b o e hb=>?_,keep⟩⟩,hE n1⟩
 ·obtain⟨o1,e1⟩:=I.base.there b o q (fun z=>nomatch z)
  rw[au (ne b o1 e1)];exact I.base.free b o q n (fun z=>nomatch z)
 ·obtain⟨o1,e1⟩:=I.base.there b o q (fun z=>nomatch z)
  cases q2:H1 b with
  |some ho=>obtain⟨ob,e⟩:=trk b ho q2;exact⟨ob,fl.1.1 b ob e⟩
  |none=>
   have n:H b=none:=by
    cases e:H b with
    |none=>rfl
    |some z=>rw[h0 b z e]at q2;cases q2
   by_cases hb:b∈ic outer
   ·obtain⟨sl,e⟩:=slot b o q n hb;exact⟨_,e⟩
   ·exact⟨o,fl.1.1 b o (keep b o q n hb)⟩
 ·have:=I.base.tups b xs e
  rw[au (aH this n1)];exact this
 ·have:=I.base.frzs b o u e
  rw[au (aH this n1)];exact this
 ·obtain⟨m1,e1⟩:=I.base.tbls b ps e
  exact⟨m1,by rw[au (aH e1 n1)];exact e1⟩
 ·rw[au hb]at e
  exact trk b o e
end
abbrev Au:List Value:=[.type "ValueError",.type "Exception",.type "BaseException",.type "object"]
structure ExcC (K:Fg) (n:Str) (C:Addr):Prop where
 nm:PySem.W.nsIn K mainGlobals n=some (some (.ref C))
 ex:excIn K C Au "ValueError.__new__" = true
 ga:findIn K (.ref C) "__getattribute__" = some (some (.builtin "BaseException.__getattribute__"))
 gt:findIn K (.ref C) "__getattr__" = some none
 cl:findIn K (.ref C) "__class__" = some (some (.builtin "object.__class__"))
 mo:mroIn K C (.type "object")=some true
 be:mroIn K C (.type "BaseException")=some true
theorem v6{K:Fg}{h:Heap}{C:Addr}{mB:List Value}{newId:String}(kin:K.In h)(q:excIn K C mB newId=true):
  ∃mr ns nm qn bs hd sn sub ab col dd a0 a1 a2 a3 a5 mN,h.get? C=some (excClassObj nm qn C ns bs mr hd sn sub ab col dd a0 a1 a2 a3 a5 newId)/\h.Ns ns mN/\mN "__init__" = none/\OwnTail h mB mr:=by
 unfold excIn at q;split at q
 ·rename_i dct cda slo lk
  split at q
  ·rename_i C2 mr a0 a1 a2 a3 nw a5 em es
   simp only[Bool.and_eq_true,beq_iff_eq,Bool.not_eq_true']at q;obtain⟨⟨⟨⟨⟨rfl,rfl⟩,nodel⟩,tl⟩,okn⟩,noini⟩:=q;obtain⟨nm,bs,mro,ns,qn,hd,sn,sub,ab,col,del⟩:=cda;dsimp only at em nodel okn noini;subst em nodel;have esl:slo = #[a0,a1,a2,a3,some (.builtin nw),a5]:=by
    obtain⟨ll⟩:=slo;simp only at es;rw[es]
   subst esl;exact⟨mr,ns,nm,qn,bs,hd,sn,sub,ab,col,dct,a0,a1,a2,a3,a5,_,kin _ _ lk,Heap.Ns.of_isNs (PySem.W.isNs_of_in kin okn),PySem.W.nsMap_none_of_in kin okn noini,PySem.W.tail_of_in kin tl⟩
  ·cases q
 ·cases q
section
variable{K:Fg}{n:Str}{C x:Addr}
theorem yX{M:Model}{h:Heap}{o:Obj}(e:h.get? x=some o)(c:o.cls=.ref C):PySem.W.Looks M h (typeOf (.ref x)) (.ref C):=c ▸ (PySem.W.Looks.ld e).andThen .now
variable{prog:Program}{w:World}{A:Around}{E:Value->Shared->Prop}
open Builtin Builtin.ObjectAttr Builtin.Getset_descriptor in
end
theorem eE{H H':Hp}{b:Addr}(s:Same H H')(h:H' b=none):H b=none:=by
 cases e:H b with
 |none=>rfl
 |some o=>rw[s b o e]at h;cases h
inductive Flung (m:Bool) (X:Cx) (n:Str) (Z H:Hp) (s:Shared) (e:Value) (s':Shared):Prop
 |made {x C:Addr} {vs:List Value}:m=true->PySem.W.nsIn X.K mainGlobals n=some (some (.ref C))->e=.ref x->s'={ s with heap:=s'.heap }->Heap.MadeExcOf s.heap s'.heap x (.ref C) vs->Flung m X n Z H s e s'
 |thrown {x C:Addr} {H' Z':Hp}:PySem.W.nsIn X.K mainGlobals n=some (some (.ref C))->e=.ref x->Thrown X.prog X.w X.stack H s x C H' s'->New Z H Z' H'->Z' x=some (n9 x C)->H x=none->Flung m X n Z H s e s'
def KC(m:Bool)(X:Cx)(f:Xf):TS:=fun _ σ H=>∃H₀ Z₀ Z δ r,Hold X.K H₀ Z₀ Z δ σ H/\f δ = some r/\∀pins σ' H' Z' s e s',Hold X.K H₀ Z₀ Z' r.2 σ' H'->Same Z Z'->Inv X pins σ' H' s->Flung m X r.1 Z' H' s e s'->X.xe e s'
def La(m:Bool)(X:Cx)(f:Dv->Option Str):TE:=fun σ H _=>∃H₀ Z₀ Z δ n,Hold X.K H₀ Z₀ Z δ σ H/\f δ = some n/\∀pins σ' H' Z' s e s',Hold X.K H₀ Z₀ Z' δ σ' H'->Same Z Z'->Inv X pins σ' H' s->Flung m X n Z' H' s e s'->X.xe e s'
def SX(m:Bool)(X:Cx)(st:Stmt)(f:Xf):Prop:=PS X st (KC m X f)
def BX(m:Bool)(X:Cx)(st:List Stmt)(f:Xf):Prop:=PSs X st (KC m X f)
def EX(m:Bool)(X:Cx)(e:Expr)(f:Dv->Option Str):Prop:=PE X e (La m X f)
section
variable{m:Bool}{X:Cx}{e c:Expr}{es:List Expr}{f:Dv->Option D}{fs:Dv->Option (List D)}{ft:Dv->Option Bool}{fx:Dv->Option Str}{st:Stmt}{sts body orelse:List Stmt}{s1:Sf}{u u1 u2:Xf}{pos p:Pos}
theorem EV.lift(h:EV X.nox e f):EV X e f:=PE.nox h
theorem TV.lift(h:TV X.nox e ft):TV X e ft:=PT.nox h
theorem AV.lift(h:AV X.nox es fs):AV X es fs:=fun pos pins s σ H Q I hw=>
 wpAny_mono (h pos pins s σ H Q (I.wish _) hw) (fun _ _ ⟨vs,H',I',r,q⟩=>⟨vs,H',I'.unwish,r,q⟩) fun _ _ z=>False.elim z
theorem Ie:BX m X sts Ks:=fun _ _ _ _ _ _ ⟨_,_,_,_,_,_,e,_⟩=>nomatch e
theorem Dp(i:Nat){x:Str}{pos':Pos}(hN:X.N.Nodup)(he:EX m X e fx)(hi:X.N[i]? = some x:=by rfl)(hx:pE X.env.scope x:=by first|exact Or.inl rfl|exact Or.inr rfl)(hs:swapsWith e (some (.Name x pos')) pos.line X.env=pure false:=by rfl)
  (hf:X.fn x=true\/X.env.scope.names.lookup x=some .local:=by first|exact .inl rfl|exact .inr rfl|assumption):SX m X (.Assign [.Name x pos'] e pos) (xE fx):=
 PS.imp (dZ hN hi hx he hs hf) fun D σ H q=>by
  obtain⟨H₀,Z₀,Z,δ,r,hh,e,k⟩:=q;obtain⟨n,e1,e⟩:=bind_some e;cases e;exact⟨H₀,Z₀,Z,δ,n,hh,e1,k⟩
theorem qO(h:SX m X st u):BX m X (st::sts) u:=
 PSs.imp (g7 h (u:=fun _ _ _=>False) fun _ _ _ _ _ _ z=>z.elim) fun D σ H q=>q
theorem F8(hc:TV X c ft)(ha:BX m X body u1)(hb:BX m X orelse u2):SX m X (.If c body orelse pos) (Kt ft u1 u2):=
 PS.imp (vm hc ha hb) fun D σ H q=>by
  obtain⟨H₀,Z₀,Z,δ,r,hh,e,k⟩:=q;obtain⟨x,e1,e⟩:=bind_some e;refine⟨H₀,Z₀,Z,δ,x,hh,e1,fun Z1 H1 hh1 t1=>?_⟩
  cases x with
  |true=>exact⟨H₀,Z₀,Z1,δ,r,hh1,e,fun pins σ2 H2 Z2 s e s' hh2 t2 I fl=>k pins σ2 H2 Z2 s e s' hh2 (t1.trans t2) I fl⟩
  |false=>exact⟨H₀,Z₀,Z1,δ,r,hh1,e,fun pins σ2 H2 Z2 s e s' hh2 t2 I fl=>k pins σ2 H2 Z2 s e s' hh2 (t1.trans t2) I fl⟩
structure ExcX (K:Fg) (n:Str):Prop where
 ex:∃C,ExcC K n C
theorem xT{x:Str}{np cpos:Pos}(O:ExcX X.K x)(hg:Gl X x)(hc:X.calm=true)(ha:EV X e f)(hdb:(x==("__debug__":Str))=false:=by decide)
  (he:starEach (e::[]) X.env=(false,eval e X.env)::starEach [] X.env:=by rfl) (hpl:(backTo cpos (starEach [] X.env)).any (·.1)=false:=by rfl) :
  SX true X (.Raise (some (.Call (.Name x np) [e] [] cpos)) none pos) (xL x f):=by
 intro pins s σ H D I h;obtain⟨H₀,Z₀,Z,δ,r,hh,e0,k⟩:=h;obtain⟨d,e1,e0⟩:=bind_some e0;cases e0;obtain⟨C,F⟩:=O.ex;obtain⟨mr,ns,nm,qn,bs,hd,sn,sub,ab,col,dd,a0,a1,a2,a3,a5,mN,hC,hN,hni,TL⟩:=v6 I.ok.mod.kin F.ex;have hm:=mg_of I.ok.mod.kin I.ok.mod.glob F.nm;refine wpAny_Raise_call_subU (C:=C) (nm:=nm) (q:=qn) (N:=ns) (bs:=bs) (bm:=mr) (hdct:=hd) (sn:=sn) (sub:=sub) (ab:=ab) (col:=col) (dd:=dd) (k0:=a0) (k1:=a1) (k2:=a2) (k3:=a3) (k5:=a5) (bmB:=Au)
  PySem.F.excBase_ValueError (by decide +kernel) PySem.F.excBase_ValueError (mN:=mN) (TL.hasType (by decide +kernel)) (I.ok.hd hc) (by rw[he];show(false||(backTo cpos (starEach [] X.env)).any (·.1))=false;rw[hpl];rfl) hni (lz I hg hm ⟨rfl,?_⟩ hdb)
 rw[he];have one:wpAny (model X.prog X.w) X.A (spliced (backTo cpos (starEach (e::[]) X.env))) (AP X pins σ fun vs H1=>vs.length=1/\∃Z1,Hold X.K H₀ Z₀ Z1 δ σ H1/\Same Z Z1) X.xe s:=
  (bK ha cM he) cpos pins s σ H _ I ⟨H₀,Z₀,Z,δ,d,hh,e1,fun v Z1 H1 hh1 t1 r1=>⟨rfl,Z1,hh1,t1⟩⟩
 rw[he]at one;refine Calls.evalArgs_plain (wpAny_mono one (fun us s2 z=>?_) fun _ _ y=>y)
 obtain⟨vs,H1,I1,rv,hl,Z1,hh1,t1⟩:=z;have lu:us.length=1:=by rw[<-rv.length];exact hl
 refine⟨rfl,by show us.length<=sizeLine;rw[lu];decide,I1.bk _ _ hC,hN.keeps I1.bk,TL.keeps I1.bk,fun h' ex hmd=>?_⟩
 exact k pins σ H1 Z1 s2 _ _ hh1 t1 I1 (.made rfl F.nm rfl rfl hmd)
def Gh(K:Fg)(g:List D->Option Str):Sp:=fun vs H _ E=>∃Z as n,Same Z H/\Reps K Z vs as/\g as=some n/\∀C x Z' H',PySem.W.nsIn K mainGlobals n=some (some (.ref C))->New Z H Z' H'->Z' x=some (n9 x C)->H x=none->E (.ref C) (some x) H'
structure CalX (P:Program) (w:World) (K:PySem.W.Frag) (mg:Str->Option Value) (base:Heap) (x:Str) (k:Nat) (g:List D->Option Str) (dd:List D):Prop where
 ex:∃(fa:Addr) (fd:FuncData) (ps:List Str) (ds:List Value) (dv:List V),FnOk P w K mg base (tQ P w) k fa fd ps (Gh K g)/\mg x=some (.ref fa)/\keepIn K (.ref fa)=true/\Binds K fd ps ds/\Vals dv ds/\∀Z,Reps K Z dv dd
end
section
variable{P:Program}{w:World}{K:PySem.W.Frag}{mg:Str->Option Value}{base:Heap}
theorem J6{x qual:Str}{st:Stmt}{f:Addr}{fd:FuncData}{dV:Value}{N ps:List Str}{k:Nat}{fx:Xf}(F:FunV K x qual st f fd dV)(S:FnScope N ps (aj st))
  (hb:∀(cdv:Value) (A:Around) (outer:List Env) (s:Shared) (H:Hp) (E:XK),Room k (A.deeper (envOfC qual (aj st) s.heap.objs.size f cdv))->BX true (eU (tQ P w) P w K mg base N qual (aj st) f cdv A outer s H E) (cK st) fx) :
  FnOk P w K mg base (tQ P w) (k+1) f fd ps (Gh K (wO N ps.length fx)):=by
 obtain⟨oc,od,kV,doc,pm,an,cdv,ct,osl,rfl,lk,hcd⟩:=F.ex;have some_of:∀{as:List D} {n:Str},wO N ps.length fx as=some n->as.length=ps.length/\∃ δ',fx (az N as)=some (n,δ'):=fun{as n} h=>by
  unfold wO at h;split at h
  ·rename_i hl
   obtain⟨⟨n',δ'⟩,e,h⟩:=bind_some h;cases h;exact⟨hl,δ',e⟩
  ·cases h
 refine v5 lk hcd S (fun vs H Q E h=>?_) fun A outer s H vs Q E hr hsp=>?_
 ·obtain⟨Z,as,n,zh,r,e,_⟩:=h
  rw[r.length];exact(some_of e).1
 ·refine⟨_,hb cdv A outer s H E hr,?_⟩
  obtain⟨Z,as,n,zh,r,e,kk⟩:=hsp;obtain⟨_,δ',e2⟩:=some_of e;have hh:=gy (N:=N) zh r;refine⟨H,Z,Z,_,(n,δ'),hh,e2,fun pins σ' H' Z' s1 ee s2 h' z' I fl=>?_⟩
  have nw:New Z H Z' H':=⟨z',h'.h0,h'.zh,h'.zb,h'.nf⟩;cases fl with
  | @made xx C' vs' _ hC' he hs hmd=>
   subst he;exact uz I hs hmd h'.h0 fun hn=>kk C' xx (upd Z' xx (n9 xx C')) _ hC' (nw.trans (New.add h'.zh hn _)) ay (eE h'.h0 hn)
  | @thrown xx C' H2 Z2 hC' he T n2 hx hn=>
   subst he;exact y3 I T (kk C' xx Z2 H2 hC' (nw.trans n2) hx (eE h'.h0 hn)) (h'.h0.trans n2.h)
end
theorem xw{K:Fg}{n:Str}{M:Model}{A:Around}{E:Value->Shared->Prop}{s:Shared}{x C W:Addr}{o:Obj}{Q:Bool->Shared->Prop}(kin:K.In s.heap)(F:ExcC K n C)(FW:excIn K W Au "ValueError.__new__" = true)(hs:subIn K (.ref C) (.ref W)=some true)
  (e:s.heap.get? x=some o) (c:o.cls=.ref C) (h:Q true s):wpAny M A (excMatches (.ref x) (.ref W)) Q E s:=by
 obtain⟨mr,ns,nm,qn,bs,hd,sn,sub,ab,col,dd,a0,a1,a2,a3,a5,mN,hW,hN,hni,TL⟩:=v6 kin FW;obtain⟨hh,g,d,t,os⟩:=s;have cB:(Value.ref W::mr).contains (.type "BaseException")=true:=by rw[List.contains_cons,TL.hasType (b:=true) (by decide +kernel),Bool.or_true]
 have L:=PySem.W.looks_subIn (M:=M) kin hs;have L0:=yX (M:=M) e c;have nt:=tc_notTuple;unfold excMatches
 repeat (first|with_reducible refine L0.at ?_|with_reducible refine L.at ?_|with_reducible refine wpAny_loadPart_at hW ?_|(with_reducible refine wpAny_isSubtype_exc hW ?_;rw[cB])|wp_step)
 exact h
inductive HndL (K:Fg) (W:Addr):List Str->Prop
 |nil:HndL K W []
 |cons {n:Str} {t:List Str} {C:Addr}:ExcC K n C->subIn K (.ref C) (.ref W)=some true->HndL K W t->HndL K W (n::t)
theorem HndL.get{K:Fg}{W:Addr}{t:List Str}(h:HndL K W t){n:Str}(e:t.contains n=true):∃C,ExcC K n C/\subIn K (.ref C) (.ref W)=some true:=by
 induction h with
 |nil=>cases e
 |cons h1 h2 _ ih=>
  rw[List.contains_cons,Bool.or_eq_true]at e;rcases e with e|e
  ·have:=eq_of_beq e;subst this;exact⟨_,h1,h2⟩
  ·exact ih e
structure Hnd (K:Fg) (W:Str) (ns:List Str):Prop where
 ex:∃wC,PySem.W.nsIn K mainGlobals W=some (some (.ref wC))/\excIn K wC Au "ValueError.__new__" = true/\HndL K wC ns
theorem Thrown.move{P:Program}{w:World}{l:List Env}{H H2:Hp}{s s2:Shared}{x C:Addr}(T:Thrown P w l H s x C H2 s2)(hf:∀b∈ic l,∃o,s.heap.get? b=some o/\∀vs,o.data≠.fields vs)(hn:∀b∈ic l,H b=none):
  ∃B t,FlyX B l x (.ref C) t s2.heap/\∀h' t',FlyX B l x (.ref C) t' h'->s2.heap.UpToSlots h'->Thrown P w l H s x C H2 { s2 with heap:=h' }:=by
 obtain⟨B,t,fl,hB1,hB2⟩:=T.fly;refine⟨B,t,fl,fun h' t' fl' sm=>?_⟩
 have slot:∀b o,s.heap.get? b=some o->H b=none->b∈ic l->∃sl,h'.get? b=some { o with slots:=sl }:=fun b o q n hb=>by
  obtain⟨sl2,e2⟩:=T.un.slot b o q n hb (fun z=>nomatch z);obtain⟨o',ho',hd⟩:=hf b hb;rw[q]at ho';cases ho';obtain⟨sl3,e3⟩:=sm b _ e2 hd;exact⟨sl3,e3⟩
 refine⟨T.os,T.bare,⟨fun b o q n hb _=>fl'.1.1 b o (hB2 b o q n hb),fun b o q n hb _=>slot b o q n hb,fun b o q n z=>T.un.free b o q n z,fun b o q _=>?_,T.un.tups,T.un.frzs,T.un.tbls⟩,vX (l:=[]) (t:=t) T.hok T.is fl.1.1 fl' hB1,T.sm,T.is,⟨B,t',fl',hB1,hB2⟩⟩
 cases q2:H2 b with
 |some ho=>
  by_cases hb:b=x
  ·subst hb;obtain⟨ob,e1,_⟩:=fl'.there;exact⟨ob,e1⟩
  ·obtain⟨ob,e1⟩:=hB1 b ho q2 hb;exact⟨ob,fl'.1.1 b ob e1⟩
 |none=>
  have n:H b=none:=by
   cases e:H b with
   |none=>rfl
   |some z=>rw[T.sm b z e]at q2;cases q2
  by_cases hb:b∈ic l
  ·obtain⟨sl,e⟩:=slot b o q n hb;exact⟨_,e⟩
  ·exact⟨o,fl'.1.1 b o (hB2 b o q n hb)⟩
abbrev Kc(X:Cx)(pn:List (Addr×Obj))(E:Value->Shared->Prop):Cx:={ X with pn:=pn,xe:=E }
abbrev IQ(X:Cx)(x:Addr):Cx:={ X with A:=X.A.mark (some (.ref x)),calm:=false,xe:=fun _ _=>False }
theorem Inv.toT{X:Cx}{pins:List (Addr×Obj)}{σ:St}{H:Hp}{s:Shared}(I:Inv X pins σ H s)(E:Value->Shared->Prop):Inv (Kc X (X.pn++pins) E) [] σ H s:=
 ⟨⟨I.ok.mod,I.ok.kind,I.ok.glob,I.ok.blt,I.ok.above,I.ok.inj,I.ok.has,I.ok.cab,I.ok.hd,I.ok.frames,I.ok.stk,I.ok.exf,I.ok.bs,I.ok.bsz,I.ok.noex,I.ok.exfs,I.ok.funs,I.ok.frf⟩,I.os,I.bare,I.base,I.loc,I.cell,I.free,I.freeC,fun p hp=>I.pin p (by simpa using hp),I.hok,I.len⟩
theorem Inv.ofT{X:Cx}{pins pins':List (Addr×Obj)}{σ:St}{H:Hp}{s:Shared}{E:Value->Shared->Prop}(I:Inv (Kc X (X.pn++pins) E) pins' σ H s):Inv X pins σ H s:=
 ⟨⟨I.ok.mod,I.ok.kind,I.ok.glob,I.ok.blt,I.ok.above,I.ok.inj,I.ok.has,I.ok.cab,I.ok.hd,I.ok.frames,I.ok.stk,I.ok.exf,I.ok.bs,I.ok.bsz,I.ok.noex,I.ok.exfs,I.ok.funs,I.ok.frf⟩,I.os,I.bare,I.base,I.loc,I.cell,I.free,I.freeC,fun p hp=>I.pin p (List.mem_append_left _ hp),I.hok,I.len⟩
theorem Inv.toH{X:Cx}{pins:List (Addr×Obj)}{σ:St}{H:Hp}{s:Shared}(I:Inv X pins σ H s)(x:Addr):Inv (IQ X x) pins σ H s:=
 ⟨⟨I.ok.mod,I.ok.kind,I.ok.glob,I.ok.blt,I.ok.above,I.ok.inj,I.ok.has,I.ok.cab,(fun z=>(nomatch z)),I.ok.frames,I.ok.stk,I.ok.exf,I.ok.bs,I.ok.bsz,I.ok.noex,I.ok.exfs,I.ok.funs,I.ok.frf⟩,I.os,I.bare,I.base,I.loc,I.cell,I.free,I.freeC,I.pin,I.hok,I.len⟩
theorem Inv.ofH{X:Cx}{pins:List (Addr×Obj)}{σ:St}{H:Hp}{s:Shared}{x:Addr}(hc:X.A.handled=none)(I:Inv (IQ X x) pins σ H s):Inv X pins σ H s:=
 ⟨⟨I.ok.mod,I.ok.kind,I.ok.glob,I.ok.blt,I.ok.above,I.ok.inj,I.ok.has,I.ok.cab,fun _=>hc,I.ok.frames,I.ok.stk,I.ok.exf,I.ok.bs,I.ok.bsz,I.ok.noex,I.ok.exfs,I.ok.funs,I.ok.frf⟩,I.os,I.bare,I.base,I.loc,I.cell,I.free,I.freeC,I.pin,I.hok,I.len⟩
theorem Inv.still{X:Cx}{pins:List (Addr×Obj)}{σ:St}{H:Hp}{s:Shared}{x C:Addr}{ob:Obj}(I:Inv X pins σ H s)(hx:H x=some (n9 x C))(ho:s.heap.get? x=some ob):Inv X pins σ (upd H x (.frz ob (n9 x C))) s:=by
 have ne:∀{b:Addr},H b=none->b≠x:=fun{b} h z=>by subst z;rw[hx]at h;cases h
 have up:∀{b:Addr},H b=none->upd H x (.frz ob (n9 x C)) b=none:=fun{b} h=>by rw[au (ne h)];exact h
 refine⟨I.ok,I.os,I.bare,⟨I.base.keep,I.base.slot,fun b o e n hb=>up (I.base.free b o e n hb),I.base.there,fun b xs e=>?_,fun b o u e=>?_,fun b ps e=>?_⟩,I.loc,I.cell,up I.free,fun y c e=>up (I.freeC y c e),fun p hp=>?_,fun b o e=>?_,I.len⟩
 ·have q:=I.base.tups b xs e
  by_cases hb:b=x
  ·subst hb;rw[hx]at q;cases q
  ·rw[au hb];exact q
 ·have q:=I.base.frzs b o u e
  by_cases hb:b=x
  ·subst hb;rw[hx]at q;cases q
  ·rw[au hb];exact q
 ·obtain⟨m,q⟩:=I.base.tbls b ps e
  by_cases hb:b=x
  ·subst hb;rw[hx]at q;cases q
  ·exact⟨m,by rw[au hb];exact q⟩
 ·obtain⟨e,n,r⟩:=I.pin p hp
  exact⟨e,up n,r⟩
 ·have st:∀{b':Addr} {o':HO},ObjOk X.prog X.w H s.heap b' o'->ObjOk X.prog X.w (upd H x (.frz ob (n9 x C))) s.heap b' o':=fun{b' o'} q=>by
   refine q.stay (fun _ _ _ z=>z) (fun c z=>?_) fun c xs z=>?_
   ·by_cases hc:c=x
    ·subst hc;rw[hx]at z;cases z
    ·rw[au hc];exact z
   ·by_cases hc:c=x
    ·subst hc;rw[hx]at z;cases z
    ·rw[au hc];exact z
  by_cases hb:b=x
  ·subst hb
   rw[ay]at e;cases e;exact⟨ho,st (I.hok b _ hx)⟩
  ·rw[au hb]at e
   exact st (I.hok b o e)
theorem New.still{Z H Z2 H2:Hp}{x C:Addr}{ob:Obj}(n:New Z H Z2 H2)(zh:Same Z H)(hz:Z2 x=some (n9 x C))(hn:H x=none):New Z H (upd Z2 x (.frz ob (n9 x C))) (upd H2 x (.frz ob (n9 x C))) where
 z:=fun b o e=>by rw[au (aH (zh b o e) hn)];exact n.z b o e
 h:=fun b o e=>by rw[au (aH e hn)];exact n.h b o e
 zh:=fun b o e=>by
  by_cases hb:b=x
  ·subst hb;rw[ay]at e ⊢;exact e
  ·rw[au hb]at e ⊢;exact n.zh b o e
 o:=fun b hb=>by
  have:b≠x:=fun z=>hb (by rw[z];exact hn)
  rw[au this];exact n.o b hb
 nf:=n.nf.upd x
noncomputable def qA:Sl->Bool
 |.own _=>true
 |_=>false
@[simp] theorem IH(d:D):qA (.fz d)=false:=rfl
@[simp] theorem IG:qA .un=false:=rfl
noncomputable def rF:Nat->Dv->Bool
 |_,[]=>true
 | 0,_::r=>r.all fun s=>!qA s
 |n+1,s::r=>!qA s&&rF n r
@[simp] theorem Fx(s:Sl)(r:Dv):rF 0 (s::r)=r.all fun s=>!qA s:=rfl
@[simp] theorem Fy(n:Nat)(s:Sl)(r:Dv):rF (n+1) (s::r)=(!qA s&&rF n r):=rfl
noncomputable def oN(i:Nat)(ft:Dv->Option Bool):Dv->Option Bool:=fun δ=>if rF i δ = true then ft (jM i δ)else none
theorem rE:∀(i:Nat) (δ:Dv),rF i δ = true->∀(j:Nat) (ds:Oc),δ[j]? = some (.own ds)->j=i
 |_,[],_,j,ds,e=>by simp at e
 | 0,s::r,h,0,ds,e=>rfl
 | 0,s::r,h,j+1,ds,e=>by
  have:=List.all_eq_true.mp h (.own ds) (List.mem_of_getElem? (by simpa using e));cases this
 |i+1,s::r,h,0,ds,e=>by
  have h:=(Bool.and_eq_true_iff.mp h).1;have e:s=.own ds:=by simpa using e
  subst e;cases h
 |i+1,s::r,h,j+1,ds,e=>congrArg (· + 1) (rE i r (Bool.and_eq_true_iff.mp h).2 j ds (by simpa using e))
theorem Av{X:Cx}{e:Expr}{ft:Dv->Option Bool}(i:Nat)(h:TV X e ft):TV X e (oN i ft):=
 PT.imp h fun σ H Q q=>by
  obtain⟨H₀,Z₀,Z,δ,b,hh,e,k⟩:=q;unfold oN at e;split at e
  rotate_left
  ·cases e
  rename_i hso;unfold jM at e;split at e
  ·rename_i ds q
   obtain⟨a,xs,h1,h2,h3,h4,h5⟩:=hh.ow i ds q;have hl:i < δ.length:=(List.getElem?_eq_some_iff.mp q).1;have sz:Same Z (upd Z a (.lst xs)):=di h3;have hh1:Hold X.K H₀ Z₀ (upd Z a (.lst xs)) (δ.set i (.fz (.list ds))) σ H:=by
    refine⟨fun b o q=>?_,hh.h0,hh.z0.trans sz,fun b hb=>?_,by simp[hh.len],fun j d q=>?_,fun j d q=>?_,fun j k d1 d2 b hjk q1 q2=>?_,(hh.fr.same sz).put (fun _ z=>nomatch z) fun _ _=>rfl,hh.nf.upd a⟩
    ·by_cases hb:b=a
     ·subst hb;rw[ay]at q;cases q;exact h4
     ·rw[au hb]at q;exact hh.zh b o q
    ·rw[au (fun z=>hb (by rw[z];exact h2))];exact hh.zb b hb
    ·by_cases hj:i=j
     ·subst hj
      rw[getElem?_set_self hl]at q;cases q;exact⟨.ref a,h1,.lst (SqL.of ay) (h5.same sz)⟩
     ·rw[getElem?_set_ne hj]at q
      obtain⟨v,g1,g2⟩:=hh.fz j d q;exact⟨v,g1,g2.same sz⟩
    ·by_cases hj:i=j
     ·subst hj
      rw[getElem?_set_self hl]at q;cases q
     ·rw[getElem?_set_ne hj]at q
      obtain⟨b,ws,g1,g2,g3,g4,g5⟩:=hh.own j d q;have:b≠a:=fun z=>by subst z;rename_i q0;exact hh.dja i j _ d b hj q0 q h1 g1
      exact⟨b,ws,g1,g2,by rw[au this];exact g3,g4,g5.same sz⟩
    ·by_cases hj:i=j
     ·subst hj
      rw[getElem?_set_self hl]at q1;cases q1
     ·by_cases hk:i=k
      ·subst hk
       rw[getElem?_set_self hl]at q2;cases q2
      ·rw[getElem?_set_ne hj]at q1
       rw[getElem?_set_ne hk]at q2;exact hh.dja j k d1 d2 b hjk q1 q2
   refine⟨H₀,Z₀,_,_,b,hh1,e,fun Z2 H2 hh2 t2=>?_⟩
   have zl:Same Z (fun c=>if c=a then none else Z2 c):=fun c o q=>by
    have hc:c≠a:=aH q h3;show(if c=a then none else Z2 c)=some o;rw[if_neg hc];exact t2 c o (sz c o q)
   have back:Hold X.K H₀ Z₀ (fun c=>if c=a then none else Z2 c) δ σ H2:=by
    refine⟨fun b o q=>?_,hh2.h0,hh.z0.trans zl,fun b hb=>?_,hh.len,fun j d q=>?_,fun j d q=>?_,hh.dja,hh.fr.same zl,fun b o xs q=>by
     have q:(if b=a then none else Z2 b)=_:=q;split at q
     ·cases q
     ·exact hh2.nf b o xs q⟩
    ·have q:(if b=a then none else Z2 b)=some o:=q
     split at q
     ·cases q
     ·exact hh2.zh b o q
    ·show(if b=a then none else Z2 b)=_
     rw[if_neg (fun z=>hb (by rw[z];exact h2))]
     exact hh2.zb b hb
    ·obtain⟨v,g1,g2⟩:=hh.fz j d q
     exact⟨v,g1,g2.same zl⟩
    ·by_cases hj:i=j
     ·subst hj
      rename_i q0;rw[q0]at q;cases q;refine⟨a,.lst xs,h1,h2,by simp,hh2.zh a _ (t2 a _ ay),.lst (h5.same zl)⟩
     ·exact absurd (rE i δ hso j d q) (Ne.symm hj)
   exact k _ H2 back zl
  ·exact⟨H₀,Z₀,Z,_,b,hh,e,k⟩
@[simp] noncomputable def Kr(f:Dv->Option D)(u:Dv->Option Str):Dv->Option Str:=fun δ=>(f δ).bind fun _=>u δ
noncomputable def ie:D->Option Str
 |.dict [(.str k,.str n)]=>if k = "fn" then some n else none
 |_=>none
theorem pb(n:Str):ie (ii n)=some n:=by simp[ie,ii]
noncomputable def gr(i:Nat)(fs:Dv->Option (List D))(tbl:List (Str×(List D->Option D))):Dv->Option D:=fun δ=>(oV i δ).bind fun d=>(ie d).bind fun n=>(tbl.lookup n).bind fun g=>(fs δ).bind g
@[simp] noncomputable def CM(i:Nat)(f:Dv->Option D):Sf:=fun δ=>(f δ).bind fun v=>(sx v).bind fun es=>(xH δ[i]?).bind fun ds=>if ds.length+es.length<=sizeLine then some (.nx,δ.set i (.ow (ds++es)))else none
theorem pc{d:D}{n:Str}(h:ie d=some n):d=ii n:=by
 unfold ie at h;split at h
 ·split at h
  ·rename_i hk;subst hk;cases h;rfl
  ·cases h
 ·cases h
structure CalF (P:Program) (w:World) (K:PySem.W.Frag) (mg:Str->Option Value) (base:Heap) (x:Str) (k:Nat) (g:List D->Option D):Prop where
 ex:∃(fa:Addr) (fd:FuncData) (ps:List Str),FnOk P w K mg base dM k fa fd ps (f9 K g)/\PySem.W.nsIn K mainGlobals x=some (some (.ref fa))/\mg x=some (.ref fa)/\keepIn K (.ref fa)=true/\Binds K fd ps []
theorem qD{P:Program}{w:World}{K:PySem.W.Frag}{mg:Str->Option Value}{base:Heap}{k:Nat}:∀n g,([]:List (Str×(List D->Option D))).lookup n=some g->∃j,j<=k/\CalF P w K mg base n j g:=fun _ _ h=>by cases h
theorem lD{P:Program}{w:World}{K:PySem.W.Frag}{mg:Str->Option Value}{base:Heap}{k j:Nat}{c:Str}{gc:List D->Option D}{tbl:List (Str×(List D->Option D))}(hj:j<=k)(V:CalF P w K mg base c j gc)(h:∀n g,tbl.lookup n=some g->∃j,j<=k/\CalF P w K mg base n j g):∀n g,((c,gc)::tbl).lookup n=some g->∃j,j<=k/\CalF P w K mg base n j g:=fun n g e=>by
 rw[lookup_cons]at e;split at e
 ·rename_i hn
  cases e;have:n=c:=by simpa using hn
  subst this;exact⟨j,hj,V⟩
 ·exact h n g e
structure Fnm (K:PySem.W.Frag) (mg:Str->Option Value) (x:Str):Prop where
 ex:∃fa,PySem.W.nsIn K mainGlobals x=some (some (.ref fa))/\mg x=some (.ref fa)
section
variable{X:Cx}{e:Expr}{es:List Expr}{p pos:Pos}{fs:Dv->Option (List D)}
theorem m8{x:Str}(F:Fnm X.K X.mg x)(hg:Gl X x)(hdb:(x==("__debug__":Str))=false:=by decide):EV X (.Name x pos) (oC (ii x)):=by
 obtain⟨fa,h1,h2⟩:=F.ex;exact zG (Bo (v:=.ref fa) (u:=.ref fa) hg h2 rfl hdb) fun Z=>.opq (.fn h1)
theorem jI(i:Nat){x:Str}{k:Nat}{tbl:List (Str×(List D->Option D))}(hT:∀n g,tbl.lookup n=some g->∃j,j<=k/\CalF X.prog X.w X.K X.mg X.base n j g)(hr:Room k X.A)(ha:AV X (e::es) fs)(hN:X.N[i]? = some x:=by rfl)(hv:nO X.env.scope x:=by first|exact Or.inl rfl|exact Or.inr (Or.inl rfl)|exact Or.inr (Or.inr rfl))(hdb:(x==("__debug__":Str))=false:=by decide)(hcd:(x==("__classdict__":Str))=false:=by decide)
  (he:starEach (e::es) X.env=(false,eval e X.env)::starEach es X.env:=by rfl) (hpl:(backTo pos (starEach es X.env)).any (·.1)=false:=by rfl):EV X (.Call (.Name x p) (e::es) [] pos) (gr i fs tbl):=by
 intro pins s σ H Q I h;obtain⟨H₀,Z₀,Z,δ,d,hh,e0,kk⟩:=h;unfold gr at e0;obtain⟨c,e1,e0⟩:=bind_some e0;obtain⟨n,e2,e4⟩:=bind_some e0;obtain⟨g,e3,e5⟩:=bind_some e4;have:=pc e2;subst this;obtain⟨v,hσ,rv⟩:=hh.read e1;obtain⟨j,hj,CF⟩:=hT n g e3;obtain⟨fa,fd,ps,F,hns,hm,hk,hb⟩:=CF.ex;have hva:v=.ref fa:=by
  cases rv with
  |opq o=>
   cases o with
   |fn h1=>rw[hns]at h1;cases h1;rfl
   |dct h1 _=>exact absurd h1 fun z=>wg z
 subst hva;refine wpAny_Call_Name_kw (b0 (ca hN hv hdb hcd pins s σ H (fun v' H'=>v'=.ref fa/\H'=H) I ⟨_,hσ,rfl,rfl⟩) fun u s1 hq=>?_)
 obtain⟨v',H',I1,r1,hv',hH'⟩:=hq;subst hv';subst hH';cases(show u=Value.ref fa from r1);have ht:tV X.K (os fs g) σ H' Q:=⟨H₀,Z₀,Z,δ,d,hh,e5,kk⟩;obtain⟨H₀',Z₀',Z',δ',xs,hh',ea,q⟩:=args ht;refine PySem.W.callWith_K (h₀:=X.base) I1.ok.mod.kin hk (b0 (ha pos pins s1 σ H' (fun vs H1=>f9 X.K g (vs++[]) H1 Q E0) I1 ⟨H₀',Z₀',Z',δ',xs,hh',ea,fun vs Z1 H1 hh1 t1 r1=>?_⟩) fun us s2 ⟨vs,H1,I2,r,q2⟩=>⟨I2.kIn,yq F (hr.mono hj) hb .nil vv I2 r q2⟩) he hpl
 show f9 X.K g (vs++[]) H1 Q E0;rw[List.append_nil];exact q vs Z1 H1 hh1 t1 r1
end
theorem uI(l:Addr)(items:Array Value)(n:Nat)(b:Addr)(items2:Array Value)(n2:Nat)(sl:Array (Option Value))(hc0:¬(!items.isEmpty&&Builtin.List.listTooLong (items.size+items2.size))=true)(hc1:items.size<=sizeLine)(hs2:items.size+items2.size<=sizeLine+1):
  Meets (Builtin.«list.extend» ⟨[.ref l,.ref b],[]⟩) (fun _ R s=>s.heap.get? l=some { cls:=.type "list",dict:=none,data:=.seq items n,slots:=#[] }/\s.heap.get? b=some { cls:=.type "list",dict:=none,data:=.seq items2 n2,slots:=sl }/\R (.ok (.ret Value.none)) { s with heap:=s.heap.update l (Obj.mapSeq fun x=>x++items2),toks:=s.toks }):=
 .of_wp fun prog w A R s h=>by
  obtain⟨hp,g,d,tk,os⟩:=s;obtain⟨hl,hb,h⟩:=h;have f1:=AutoSeq1.idx_int;have f2:=AutoSeq1.sub_tuple_tuple;have f3:=AutoSeq1.sub_list_list;have f4:=AutoSeq1.sub_tuple_list;have f5:=AutoSeq1.sub_list_tuple;have hz':(items++items2).size<=sizeLine+1:=by rw[Array.size_append];exact hs2
  wp_walk using (wpAny_updateSeq hl rfl (hz:=hc1) (_hz':=hz')),AutoSeq1.wpAny_loadPart' hl,AutoSeq1.wpAny_loadPart' hb;exact⟨_,rfl,h⟩
def GB(K:Fg):V->List V->Hp->VK->Prop:=fun x vs H Q=>∃l b xs zs,x=.ref l/\vs=[.ref b]/\H l=some (.lst xs)/\SqL K H b zs/\xs.length+zs.length<=sizeLine/\Q .non (upd H l (.lst (xs++zs)))
section
variable{X:Cx}
theorem BI:FL X "list.extend" (GB X.K):=by
 intro pins s σ H x vs v us Q I rx rv h;obtain⟨l,b,xs,zs,rfl,rfl,hH,hB,hz,q⟩:=h;cases rx;obtain⟨u,rfl,ru⟩:=rv.one;cases ru;obtain⟨z,its,n,r,hl,e⟩:=I.lstM hH;obtain⟨its2,r2,⟨o2,n2,e2,hc,hd,hs⟩,z2⟩:=I.list hB;have hl2:=r2.length;obtain⟨c2,d2,dt2,sl2⟩:=o2;dsimp only at hc hd hs;subst hc hd hs;have hsz:its.toArray.size+its2.toArray.size<=sizeLine:=by rw[size_toArray,size_toArray];omega
 have hlong:¬(!its.toArray.isEmpty&&Builtin.List.listTooLong (its.toArray.size+its2.toArray.size))=true:=by
  rw[yQ hsz,Bool.and_false];exact Bool.false_ne_true
 refine call_meets F.slot_list_extend ⟨_,e,rfl⟩ F.entry_list_extend (F.args_list_extend_2 _ _)
  (uI l its.toArray n b its2.toArray n2 sl2 hlong (by rw[size_toArray];omega) (by omega)) ⟨e,e2,?_⟩
 refine⟨.non,_,I.lset (its':=its++its2) hH e (by simp) (r.append r2) ?_,rfl,q⟩;rw[List.length_append];omega
end
section
variable{X:Cx}{e:Expr}{f:Dv->Option D}{p pos apos:Pos}
theorem AD(i:Nat){x:Str}{cpos:Pos}(hv':EV X e f)(hN:X.N[i]? = some x:=by rfl)(hv:nO X.env.scope x:=by first|exact Or.inl rfl|exact Or.inr (Or.inl rfl)|exact Or.inr (Or.inr rfl))(hd:(x==("__debug__":Str))=false:=by decide)(hcd:(x==("__classdict__":Str))=false:=by decide)
  (hbase:attributeBase (.Name x p) "extend" X.env (eval (.Name x p) X.env)=eval (.Name x p) X.env:=by rfl)
  (hfew:((backTo cpos (starEach [e] X.env)).all (fun x=>!x.1)&&(backToKw cpos (keywordEach [] X.env)).all (fun x=>x.1.isSome)
   && decide ([e].length+([]:List Keyword).length+(if([]:List Keyword).isEmpty then 0 else 1)<30))=true:=by rfl)
  (hline:(apos.endLine==cpos.line)=true:=by rfl) (hs:starEach [e] X.env=(false,eval e X.env)::starEach [] X.env:=by rfl) (hplain:(backTo cpos (starEach [] X.env)).any (·.1)=false:=by rfl)
  (hsw:swapsWith (.Call (.Attribute (.Name x p) "extend" apos) [e] [] cpos) none pos.line X.env=pure false:=by rfl):SV X (.Expr (.Call (.Attribute (.Name x p) "extend" apos) [e] [] cpos) pos) (CM i f):=
 PS.imp (eY (rT PySem.F.plainAttrs_list PySem.F.slot_list_extend PySem.F.type_list_extend BI (ca hN hv hd hcd) (bK hv' cM hs) hbase hfew hline hs hplain) hsw) fun D σ H h=>by
  obtain⟨H₀,Z₀,Z,δ,r,hh,e,k⟩:=h;obtain⟨v,e1,e⟩:=bind_some e;obtain⟨es,e3,e⟩:=bind_some e;obtain⟨ds,e2,e⟩:=bind_some e;by_cases hl:ds.length+es.length<=sizeLine
  ·rw[if_pos hl]at e
   cases e;cases v with
   |list es'=>
    cases e3;obtain⟨a,xs,h1,h4,h5⟩:=gK hh e2;refine⟨_,h1,.inl ⟨rfl,xs,SqL.of h4⟩,H₀,Z₀,Z,δ,_,hh,e1,fun w Z1 H1 hh1 t1 r1=>?_⟩
    obtain⟨a',xs',g1,g4,g5⟩:=gK hh1 e2;rw[h1]at g1;cases g1;cases r1 with
    |lst q1 q2=>
     exact⟨a,_,xs',_,rfl,rfl,g4,SqL.same q1 hh1.zh,by rw[g5.length,q2.length];exact hl,k σ _ Z1 (hh1.chg (xs:=xs') (jZ e2) h1 (g5.append q2)) t1⟩
   |_=>cases e3
  ·rw[if_neg hl]at e;cases e
end
theorem qu{α:Type}:∀{us:List α},us.length=1->∃a,us=[a]
 |[a],_=>⟨a,rfl⟩
theorem kS{α:Type}{us:List α}(h:us.length=2):∃a b,us=[a,b]:=by
 cases us with
 |nil=>cases h
 |cons a r=>
  obtain⟨b,rfl⟩:=qu (Nat.succ.inj h);exact⟨a,b,rfl⟩
theorem mR{α:Type}{us:List α}(h:us.length=3):∃a b c,us=[a,b,c]:=by
 cases us with
 |nil=>cases h
 |cons a r=>
  obtain⟨b,c,rfl⟩:=kS (Nat.succ.inj h);exact⟨a,b,c,rfl⟩
theorem JO{α:Type}{us:List α}(h:us.length=4):∃a b c d,us=[a,b,c,d]:=by
 cases us with
 |nil=>cases h
 |cons a r=>
  obtain⟨b,c,d,rfl⟩:=mR (Nat.succ.inj h);exact⟨a,b,c,d,rfl⟩
def DefIn(K:PySem.W.Frag)(x y:Str)(st:Stmt):Prop:=∃f fd,PySem.W.nsIn K mainGlobals x=some (some (.ref f))/\FunV K y y st f fd .none/\keepIn K (.ref f)=true
def aP(x:Str)(st:Stmt)(ps:List Str):Prop:=∀(kV doc pm:Value) (an:Option Addr) (cdv ct:Value) (us:List Value),us.length=ps.length->bindArgs (PySem.W.fnOf x x (fA st) (cK st) (aj st) .none kV doc pm an cdv ct) ⟨us,[]⟩=pure (ps.zip us)
section
variable{P:Program}{w:World}{K:PySem.W.Frag}{mg:Str->Option Value}{base h:Heap}{x y:Str}{st:Stmt}{k:Nat}{ps:List Str}
theorem DefIn.mk{f:Addr}{oc:Value}{od an:Option Addr}{osl:Array (Option Value)}{kV doc pm cdv ct:Value}(a:PySem.W.nsIn K mainGlobals x=some (some (.ref f)))(l:K.lookup f=some ⟨oc,od,.func (PySem.W.fnOf y y (fA st) (cK st) (aj st) .none kV doc pm an cdv ct),osl⟩)
  (c:codeIn K cdv y=true) (k:keepIn K (.ref f)=true):DefIn K x y st:=⟨_,_,a,v3 l c k,k⟩
variable(D:DefIn K x y st)(X:K.In h)(G:h.Ns mainGlobals mg)(b:aP y st ps)
include D X G
theorem DefIn.fnm:Fnm K mg x:=by
 obtain⟨f,fd,a,F,hk⟩:=D;exact⟨⟨_,a,mg_of X G a⟩⟩
include b
theorem DefIn.cal{g:List VL.D->Option VL.D}(ok:∀f fd,FunV K y y st f fd .none->FnOk P w K mg base dM k f fd ps (f9 K g)):Cal P w K mg base x k g []:=by
 obtain⟨f,fd,a,F,hk⟩:=D;exact Cal.mk0 (ok f fd F) (mg_of X G a) hk (F.binds b)
theorem DefIn.calF{g:List VL.D->Option VL.D}(ok:∀f fd,FunV K y y st f fd .none->FnOk P w K mg base dM k f fd ps (f9 K g)):CalF P w K mg base x k g:=by
 obtain⟨f,fd,a,F,hk⟩:=D;exact⟨⟨_,_,_,ok f fd F,a,mg_of X G a,hk,F.binds b⟩⟩
theorem DefIn.calX{g:List VL.D->Option Str}(ok:∀f fd,FunV K y y st f fd .none->FnOk P w K mg base (tQ P w) k f fd ps (Gh K g)):CalX P w K mg base x k g []:=by
 obtain⟨f,fd,a,F,hk⟩:=D;exact⟨⟨_,_,_,[],[],ok f fd F,mg_of X G a,hk,F.binds b,.nil,fun _=>.nil⟩⟩
end
end VL
namespace VL
open PySem PySem.Spec PyProof.Rows L2
open AutoSeq1 (wpAny_loadPart')
end VL
namespace VL
open PySem PySem.Spec PyProof.Rows L2
noncomputable def Lw(z:Bool):D->D->Option D
 |.bool a,.bool b=>some (.bool (z != (a==b)))
 |_,_=>none
@[simp] theorem Hs(z a b:Bool):Lw z (.bool a) (.bool b)=some (.bool (z != (a==b))):=rfl
end VL
namespace L2
open PySem PySem.Spec PyProof.Rows
open PySem.F (slot_dict_get)
open List (any_cons find?_cons map_cons)
open Nat (le_refl)
section
variable{κ:Type}[DecidableEq κ]
noncomputable def jh(kvs:List (κ × V))(k:κ):Option V:=(kvs.find? fun kv=>decide (kv.1=k)).map (·.2)
noncomputable def eP(kvs:List (κ × V))(k:κ)(v:V):List (κ × V):=
 if(kvs.any fun kv=>decide (kv.1=k))=true then kvs.map (fun kv=>if kv.1=k then(kv.1,v)else kv)else kvs++[(k,v)]
theorem gQ{p:κ × V}{r:List (κ × V)}{k:κ}(e:p.1=k):jh (p::r) k=some p.2:=by simp[jh,find?_cons,e]
theorem gR{p:κ × V}{r:List (κ × V)}{k:κ}(e:¬p.1=k):jh (p::r) k=jh r k:=by simp[jh,find?_cons,e]
theorem rf(k:κ):∀kvs:List (κ × V),(kvs.any fun kv=>decide (kv.1=k))=(jh kvs k).isSome
 |[]=>rfl
 |p::r=>by
  rw[any_cons];by_cases e:p.1=k
  ·simp only[gQ e,decide_eq_true e,Bool.true_or,Option.isSome_some]
  ·rw[gR e,decide_eq_false e,Bool.false_or];exact rf k r
theorem fq(kvs:List (κ × V))(k:κ)(v:V):(eP kvs k v).length<=kvs.length+1:=by
 unfold eP;split
 ·rw[List.length_map];omega
 ·rw[List.length_append,List.length_cons,List.length_nil];omega
theorem RelO.isSome_eq{o:Option V}{u:Option Value}(r:RelO o u):o.isSome=u.isSome:=by
 cases o with
 |none=>cases u with
  |none=>rfl
  |some _=>exact(show False from r).elim
 |some _=>cases u with
  |none=>exact(show False from r).elim
  |some _=>rfl
theorem RelO.getD{o:Option V}{u:Option Value}{d:V}{d':Value}(r:RelO o u)(rd:RelV d d'):RelV (o.getD d) (u.getD d'):=by
 cases o with
 |none=>cases u with
  |none=>exact rd
  |some _=>exact(show False from r).elim
 |some _=>cases u with
  |none=>exact(show False from r).elim
  |some _=>exact r
theorem KV.val{kvs:List (κ × V)}{vs:List (κ × Value)}(r:KV kvs vs)(k:κ):RelO (jh kvs k) (valueAt vs k):=by
 unfold KV at r
 induction r with
 |nil=>exact True.intro
 | @cons p q ps qs h t ih=>
  obtain⟨h1,h2⟩:=h;by_cases e:p.1=k
  ·have e':q.1=k:=h1.symm.trans e
   have b:valueAt (q::qs) k=some q.2:=by simp[valueAt,find?_cons,e']
   rw[gQ e,b];exact h2
  ·have e':¬q.1=k:=fun z=>e (h1.trans z)
   have b:valueAt (q::qs) k=valueAt qs k:=by simp[valueAt,find?_cons,e']
   rw[gR e,b];exact ih
theorem KV.any{kvs:List (κ × V)}{vs:List (κ × Value)}(r:KV kvs vs)(k:κ):(kvs.any fun kv=>decide (kv.1=k))=vs.any fun kv=>decide (kv.1=k):=by
 unfold KV at r
 induction r with
 |nil=>rfl
 |cons h t ih=>rw[any_cons,any_cons,ih,h.1]
theorem KV.repl{kvs:List (κ × V)}{vs:List (κ × Value)}(r:KV kvs vs)(k:κ){y:V}{u:Value}(ry:RelV y u):
  KV (kvs.map fun kv=>if kv.1=k then(kv.1,y)else kv) (vs.map fun kv=>if kv.1=k then(kv.1,u)else kv):=by
 unfold KV at r ⊢
 induction r with
 |nil=>exact .nil
 | @cons p q ps qs h t ih=>
  rw[map_cons,map_cons];refine .cons ?_ ih;obtain⟨h1,h2⟩:=h;by_cases e:p.1=k
  ·rw[if_pos e,if_pos (h1.symm.trans e)];exact⟨h1,ry⟩
  ·rw[if_neg e,if_neg (fun z=>e (h1.trans z))];exact⟨h1,h2⟩
theorem KV.put{kvs:List (κ × V)}{vs:List (κ × Value)}(r:KV kvs vs)(k:κ){y:V}{u:Value}(ry:RelV y u):KV (eP kvs k y) (stored vs k u):=by
 unfold eP stored;rw[r.any k];by_cases e:(vs.any fun kv=>decide (kv.1=k))=true
 ·rw[if_pos e,if_pos e];exact r.repl k ry
 ·rw[if_neg e,if_neg e];exact Paired.snoc r ⟨rfl,ry⟩
theorem KV.length{kvs:List (κ × V)}{vs:List (κ × Value)}(r:KV kvs vs):kvs.length=vs.length:=Paired.length r
end
theorem mV{P:Program}{w:World}{k:aG}{u:Value}(r:RelV (kV k) u):(aJ P w).is k u=true:=by
 cases k with
 |inl i=>obtain⟨t,e⟩:=(show ∃t,u=Value.int i t from r);subst e;exact sr P w i t
 |inr x=>obtain⟨t,e⟩:=(show ∃t,u=Value.str x t from r);subst e;exact sk P w x t
theorem o7{P:Program}{w:World}:∀{ks:List aG} {us:List Value},Vals (ks.map kV) us->ItemsAre (aJ P w) ks us
 |[],_,r=>by rw[List.map_nil]at r;cases r;exact .nil
 |k::ks,_,r=>by
  rw[map_cons]at r;cases r with
  |cons h t=>exact .cons (mV h) (o7 t)
abbrev KT(H:Hp):List (List aG×V)->List (List aG×Addr×Value)->Prop:=Paired fun p q=>p.1=q.1/\H q.2.1=some (.tup (p.1.map kV))/\RelV p.2 q.2.2
theorem KT.val{H:Hp}{kvs:List (List aG×V)}{xs:List (List aG×Addr×Value)}(r:KT H kvs xs)(k:List aG):RelO (jh kvs k) ((atKey xs k).map (·.2)):=by
 induction r with
 |nil=>exact True.intro
 | @cons p q ps qs h t ih=>
  obtain⟨h1,_,h2⟩:=h;by_cases e:p.1=k
  ·have e':q.1=k:=h1.symm.trans e
   have b:atKey (q::qs) k=some q.2:=by simp[atKey,find?_cons,e']
   rw[gQ e,b];exact h2
  ·have e':¬q.1=k:=fun z=>e (h1.trans z)
   have b:atKey (q::qs) k=atKey qs k:=by simp[atKey,find?_cons,e']
   rw[gR e,b];exact ih
theorem KT.repl{H:Hp}{kvs:List (List aG×V)}{xs:List (List aG×Addr×Value)}(r:KT H kvs xs)(k:List aG){y:V}{u:Value}(ry:RelV y u):
  KT H (kvs.map fun kv=>if kv.1=k then(kv.1,y)else kv) (xs.map (putAt k u)):=by
 induction r with
 |nil=>exact .nil
 | @cons p q ps qs h t ih=>
  rw[map_cons,map_cons];refine .cons ?_ ih;obtain⟨h1,h2,h3⟩:=h;unfold putAt;by_cases e:p.1=k
  ·rw[if_pos e,if_pos (h1.symm.trans e)];exact⟨h1,h2,ry⟩
  ·rw[if_neg e,if_neg (fun z=>e (h1.trans z))];exact⟨h1,h2,h3⟩
theorem KT.put{H:Hp}{kvs:List (List aG×V)}{xs:List (List aG×Addr×Value)}(r:KT H kvs xs)(k:List aG){b:Addr}{y:V}{u:Value}(hb:H b=some (.tup (k.map kV)))(ry:RelV y u):
  KT H (eP kvs k y) (storedH xs k b u):=by
 have e:(kvs.any fun kv=>decide (kv.1=k))=(atKey xs k).isSome:=by
  rw[rf,(r.val k).isSome_eq,Option.isSome_map]
 unfold eP storedH;rw[e];by_cases q:(atKey xs k).isSome=true
 ·rw[if_pos q,if_pos q];exact r.repl k ry
 ·rw[if_neg q,if_neg q];exact Paired.snoc r ⟨rfl,hb,ry⟩
theorem KT.keeps{H H':Hp}{kvs:List (List aG×V)}{xs:List (List aG×Addr×Value)}(r:KT H kvs xs)(ht:∀b ys,H b=some (.tup ys)->H' b=some (.tup ys)):KT H' kvs xs:=
 Paired.mapP r fun _ _ z=>⟨z.1,ht _ _ z.2.1,z.2.2⟩
section
variable{P:Program}{w:World}{H:Hp}{h:Heap}{a:Addr}
theorem CN{u:HO}(ok:HOk P w H h)(e:Rd H a u):ObjOk P w H h a u:=e.ok ok
theorem jK{kvs:List (aG×V)}(ok:HOk P w H h)(e:Rd H a (.dK kvs)):kvs.length<=sizeLine/\(a==sysModules)=false/\∃vs,KV kvs vs/\h.DictOf (aJ P w) a vs:=
 show ObjOk P w H h a (.dK kvs)from CN ok e
theorem C6{kvs:List (aG×V)}(ok:HOk P w H h)(e:H a=some (.dK kvs)):kvs.length<=sizeLine/\(a==sysModules)=false/\∃vs,KV kvs vs/\h.DictOf (aJ P w) a vs:=jK ok (.inl e)
theorem mU{ks:List aG}(ok:HOk P w H h)(e:H a=some (.tup (ks.map kV))):(tupleKind (aJ P w)).is h ks a:=by
 obtain⟨_,its,r,⟨o,h1,h2,n,h3⟩,_⟩:=(show ObjOk P w H h a (.tup (ks.map kV))from ok a _ e);exact⟨o,its.toArray,n,h1,h2,h3,by simpa using o7 r⟩
theorem pi{kvs:List (List aG×V)}(ok:HOk P w H h)(e:Rd H a (.dT kvs)):kvs.length<=sizeLine/\(a==sysModules)=false /\
  ∃xs,KT H kvs xs/\h.DictOfH (tupleKind (aJ P w)) a xs:=by
 obtain⟨z,y,xs,r,o,es,ep,h1,h2,h3,h4,h5⟩:=(show ObjOk P w H h a (.dT kvs)from CN ok e);refine⟨z,y,xs,r,o,es,ep,h1,h2,h3,h4,fun x hx=>?_,h5⟩
 have all:∀{l:List (List aG×V)} {m:List (List aG×Addr×Value)},KT H l m->∀x∈m,(tupleKind (aJ P w)).is h x.1 x.2.1:=by
  intro l m q
  induction q with
  |nil=>intro x hx;exact nomatch hx
  | @cons p q ps qs hq t ih=>
   intro x hx;rcases List.mem_cons.mp hx with e|hx
   ·subst e
    exact mU ok (by rw[<-hq.1];exact hq.2.1)
   ·exact ih x hx
 exact all r x hx
theorem HU{kvs:List (List aG×V)}(ok:HOk P w H h)(e:H a=some (.dT kvs)):kvs.length<=sizeLine/\(a==sysModules)=false /\
  ∃xs,KT H kvs xs/\h.DictOfH (tupleKind (aJ P w)) a xs:=pi ok (.inl e)
end
def DGet(H:Hp)(a:Addr)(y:V)(r:Option V):Prop:=
 (∃kvs k,Rd H a (.dK kvs)/\y=kV k/\r=jh kvs k)\/∃kvs k b,Rd H a (.dT kvs)/\y=.ref b/\H b=some (.tup (k.map kV))/\r=jh kvs k
def DPut(H:Hp)(a:Addr)(y v:V)(H':Hp):Prop:=
 (∃kvs k,H a=some (.dK kvs)/\y=kV k/\kvs.length<sizeLine/\H'=upd H a (.dK (eP kvs k v))) \/
 ∃kvs k b,H a=some (.dT kvs)/\y=.ref b/\H b=some (.tup (k.map kV))/\kvs.length<sizeLine/\H'=upd H a (.dT (eP kvs k v))
theorem DGet.k{H:Hp}{a:Addr}{kvs:List (aG×V)}{k:aG}(e:H a=some (.dK kvs)):DGet H a (kV k) (jh kvs k):=.inl ⟨kvs,k,.inl e,rfl,rfl⟩
theorem DPut.k{H:Hp}{a:Addr}{kvs:List (aG×V)}{k:aG}{v:V}(e:H a=some (.dK kvs))(hl:kvs.length<sizeLine):DPut H a (kV k) v (upd H a (.dK (eP kvs k v))):=.inl ⟨kvs,k,e,rfl,hl,rfl⟩
section
variable{X:Cx}{pins:List (Addr×Obj)}{σ:St}{H:Hp}{s:Shared}{a:Addr}{y v:V}{u r:Value}{o:Option V}{A:Around}{E:Value->Shared->Prop}
theorem Inv.big(I:Inv X pins σ H s):sysModules<s.heap.objs.size:=by
 have h:mainGlobals<s.heap.objs.size:=(I.mod.glob.keeps I.bk).lt;exact Nat.lt_trans (by decide) h
theorem xA{Q:Value->Shared->Prop}(hu:A.units+1<cLine)(I:Inv X pins σ H s)(g:DGet H a y (some v))(ry:RelV y u)(h:∀w' s',Inv X pins σ H s'->RelV v w'->Q w' s'):
  wpAny (model X.prog X.w) A (getItem (.ref a) u) Q E s:=by
 rcases g with⟨kvs,k,e,ey,l⟩|⟨kvs,k,b,e,ey,eb,l⟩
 ·subst ey
  obtain⟨z,hd,vs,rel,dd⟩:=jK I.hok e;obtain⟨w',hw,rw'⟩:=RelO.some_of (v:=v) (o:=valueAt vs k) (by rw[l];exact rel.val k);exact wpAny_getItem_of (mV ry) dd.mapOf hw (h w' _ (I.tok _) rw')
 ·subst ey
  cases(show u=Value.ref b from ry);obtain⟨z,hd,xs,rel,dd⟩:=pi I.hok e;obtain⟨w',hw,rw'⟩:=RelO.some_of (v:=v) (o:=(atKey xs k).map (·.2)) (by rw[l];exact rel.val k);obtain⟨p,hp,hp2⟩:=Option.map_eq_some_iff.mp hw;refine wpAny_getItem_heap (tupleKind_room_in1 hu) (mU I.hok eb) dd hp ?_;rw[hp2];exact h w' _ (I.tok _) rw'
theorem zQ{Q:Value->Shared->Prop}(hu:A.units+1<cLine)(I:Inv X pins σ H s)(g:DGet H a y o)(ry:RelV y u)(h:∀s',Inv X pins σ H s'->Q (.bool o.isSome) s'):
  wpAny (model X.prog X.w) A (compareOp .In u (.ref a)) Q E s:=by
 rcases g with⟨kvs,k,e,ey,l⟩|⟨kvs,k,b,e,ey,eb,l⟩
 ·subst ey
  obtain⟨z,hd,vs,rel,dd⟩:=jK I.hok e;refine wpAny_in_of (mV ry) hd dd.mapOf ?_;rw[<-(rel.val k).isSome_eq,<-l];exact h _ (I.tok _)
 ·subst ey
  cases(show u=Value.ref b from ry);obtain⟨z,hd,xs,rel,dd⟩:=pi I.hok e;refine wpAny_in_heap (tupleKind_room_in1 hu) (mU I.hok eb) hd dd ?_;have q:=(rel.val k).isSome_eq;rw[Option.isSome_map]at q;rw[<-q,<-l];exact h _ (I.tok _)
theorem qK{h':Heap}{t':Nat}{ob:HO}(I:Inv X pins σ H s)(mu:Ir (H a))(hs:Heap.SameBut a s.heap h')(he:∃q,h'.get? a=some q)(new:ObjOk X.prog X.w (upd H a ob) h' a ob):
  Inv X pins σ (upd H a ob) { s with heap:=h',toks:=t' }:=
 I.write (x:=a) (e:=a) mu (.inl rfl) (fun b q hb z=>(hs.2 b hb).trans z) he new
theorem uN{P:Program}{w:World}{H':Hp}{h':Heap}{kvs:List (aG×V)}{vs:List (aG×Value)}(z:kvs.length<=sizeLine)(hd:(a==sysModules)=false)(rel:KV kvs vs)(dd:h'.DictOf (aJ P w) a vs):
  ObjOk P w H' h' a (.dK kvs):=⟨z,hd,vs,rel,dd⟩
theorem xz{H':Hp}{Q:Unit->Shared->Prop}(hu:A.units+1<cLine)(I:Inv X pins σ H s)(g:DPut H a y v H')(ry:RelV y u)(rv:RelV v r)(h:∀s',Inv X pins σ H' s'->Q () s'):
  wpAny (model X.prog X.w) A (setItem (.ref a) u r) Q E s:=by
 rcases g with⟨kvs,k,e,ey,l,eH⟩|⟨kvs,k,b,e,ey,eb,l,eH⟩
 ·subst ey eH
  obtain⟨z,hd,vs,rel,dd⟩:=C6 I.hok e;have hz:vs.length<=sizeLine:=by rw[<-rel.length];exact z
  have hl:(eP kvs k v).length<=sizeLine:=by have:=fq kvs k v;omega
  refine wpAny_setItem_pairs (hsz:=hz) (mV ry) dd fun h' dd' hs=>h _ ?_
  have he:∃q,h'.get? a=some q:=let ⟨q,_,_,hq,_⟩:=dd'; ⟨q,hq⟩
  exact qK I (by rw[e];exact True.intro) hs he (uN hl hd (rel.put k rv) dd')
 ·subst ey eH
  cases(show u=Value.ref b from ry);obtain⟨z,hd,xs,rel,dd⟩:=HU I.hok e;have hz:xs.length<=sizeLine:=by rw[<-Paired.length rel];exact z
  have hl:(eP kvs k v).length<=sizeLine:=by have:=fq kvs k v;omega
  refine wpAny_setItem_heap (hsz:=hz) (tupleKind_room_in1 hu) (mU I.hok eb) dd fun h' dd' hs=>h _ ?_
  obtain⟨q,es,ep,hq,h2,h3,h4,_,h5⟩:=dd';refine qK I (by rw[e];exact True.intro) hs ⟨q,hq⟩ ⟨hl,hd,_,(rel.put k eb rv).keeps fun c ys ec=>?_,q,es,ep,hq,h2,h3,h4,h5⟩
  rw[au (GX ec e (fun z=>nomatch z))];exact ec
end
section
variable{X:Cx}{pins:List (Addr×Obj)}{σ:St}{H:Hp}{s:Shared}{a:Addr}{kvs:List (aG×V)}{k:aG}{u:Value}{A:Around}{E:Value->Shared->Prop}
theorem HY{Q:Value->Shared->Prop}(I:Inv X pins σ H s)(e:Rd H a (.dK kvs))(h:∀t s',Inv X pins σ H s'->Q (.int kvs.length t) s'):wpAny (model X.prog X.w) A (call (.builtin "len") [.ref a]) Q E s:=by
 obtain⟨z,hd,vs,rel,dd⟩:=jK I.hok e;refine call_len_dict hd dd (by rw[<-rel.length];rw[sizeLine_eq]at z;omega) ?_;rw[<-rel.length];exact h _ _ (I.tok _)
end
def Cv(i:Expr):Prop:=∀ov iv,subscripted i false ov iv=operate [ov,iv] (getItem ov iv)
theorem AG{prog:Program}{w:World}{A:Around}{E:Value->Shared->Prop}{s:Shared}{env:Env}{value slice:Expr}{pos:Pos}{T id:String}{Q:Value->Shared->Prop}
  (hl:typeLookup (.type T) "__getitem__" = pure (some (.builtin id))) (hs:Cv slice)
  (h:wpAny (model prog w) A (eval value env) (fun o s₁=>wpAny (model prog w) A (eval slice env) (fun i s₂=>s₂.TypeIs o T/\wpAny (model prog w) A (getItem o i) Q E s₂) E s₁) E s) :
  wpAny (model prog w) A (eval (.Subscript value slice pos) env) Q E s:=by
 refine Subscript_ (wpAny_mono h (fun o s₁ h₁=>wpAny_mono h₁ (fun i s₂ h₂=>?_) fun _ _ x=>x) fun _ _ x=>x)
 obtain⟨hT,h₂⟩:=h₂;unfold subscriptTail;refine wpAny_bind ?_;rw[getitemInPython_of_ne hT.not_modules];refine wpAny_bind (wpAny_specialOf hT hl ?_);have fin:wpAny (model prog w) A (subscripted slice false o i) (fun r s₃=>wpAny (model prog w) A (letTemporaryGo value o r >>= fun _=>pure r) Q E s₃) E s₂:=by
  rw[hs o i];exact wpAny_operating (wpAny_mono h₂ (fun r s₃ h₃=>wpAny_bind (wpAny_letTemporaryGo (wpAny_pure h₃))) fun _ _ x=>x)
 first
  |exact wpAny_pure (wpAny_bind fin)
  |exact wpAny_bind (wpAny_pure (wpAny_bind fin))
  |exact wpAny_bind fin
theorem sX{X:Cx}{pins:List (Addr×Obj)}{σ:St}{H:Hp}{s:Shared}{a:Addr}{y:V}{o:Option V}(I:Inv X pins σ H s)(g:DGet H a y o):s.TypeIs (.ref a) "dict":=by
 rcases g with⟨kvs,k,e,_,_⟩|⟨kvs,k,b,e,_,_,_⟩
 ·obtain⟨_,_,vs,_,dd⟩:=jK I.hok e
  exact dd.typeIs
 ·obtain⟨_,_,xs,_,dd⟩:=pi I.hok e
  exact dd.typeIs
def F0(td ty:TE):TE:=fun σ H Q=>td σ H fun x H1=>ty σ H1 fun y H2=>∃a v,x=.ref a/\DGet H2 a y (some v)/\Q v H2
def Gs(td ty tv:TE):TS:=fun D σ H=>tv σ H fun v H1=>td σ H1 fun x H2=>ty σ H2 fun y H3=>∃a H4,x=.ref a/\DPut H3 a y v H4/\D.nx σ H4
section
variable{X:Cx}{o i e value:Expr}{pos pos' tpos:Pos}{td ty tv:TE}
theorem vt(hu:X.A.units+1<cLine)(ho:PE X o td)(hi:PE X i ty)(hs:Cv i):PE X (.Subscript o i pos) (F0 td ty):=by
 intro pins s σ H Q I h;refine AG PySem.F.slot_dict_getitem.lookup hs (b0 (ho pins s σ H _ I h) fun u s1 ⟨x,H1,I1,rx,q1⟩=>b0 (hi pins s1 σ H1 _ I1 q1) fun iv s2 ⟨y,H2,I2,ry,a,v,ex,g,q2⟩=>?_)
 subst ex;obtain rfl:u=Value.ref a:=rx;exact⟨sX I2 g,xA hu I2 g ry fun w' s3 I3 rw'=>⟨v,H2,I3,rw',q2⟩⟩
theorem vn(hu:X.A.units+1<cLine)(ho:PE X o td)(hi:PE X i ty)(hv:PE X value tv)(hs:swapsWith value (some (.Subscript o i pos')) pos.line X.env=pure false):
  PS X (.Assign [.Subscript o i pos'] value pos) (Gs td ty tv):=by
 intro pins s σ H D I h;refine wpAny_Assign_Subscript (b0 (hv pins s σ H _ I h) fun r s1 ⟨v,H1,I1,rv,q1⟩=>b0 (ho pins s1 σ H1 _ I1 q1) fun u s2 ⟨x,H2,I2,rx,q2⟩=>b0 (hi pins s2 σ H2 _ I2 q2) fun iv s3 ⟨y,H3,I3,ry,a,H4,ex,g,q3⟩=>?_) hs
 subst ex;obtain rfl:u=Value.ref a:=rx;exact xz hu I3 g ry rv fun s4 I4=>⟨σ,H4,I4,q3⟩
end
theorem sW{P:Program}{w:World}{H:Hp}(h:Heap)(hb:sysModules<h.objs.size):ObjOk P w H (h.push { cls:=.type "dict",data:=.dict #[] }) h.objs.size (.dK []):=
 ⟨Nat.zero_le _,beq_eq_false_iff_ne.mpr (Ne.symm (Nat.ne_of_lt hb)),[],.nil,Heap.DictOf.new h⟩
def Dm:TE:=fun _ H Q=>∀p,H p=none->Q (.ref p) (upd H p (.dK []))
section
variable{X:Cx}{pos:Pos}
theorem yG:PE X (.Dict [] [] pos) Dm:=fun pins s σ H Q I h=>
 wpAny_Dict_empty ⟨.ref s.heap.objs.size,_,I.laid (a:=s.heap.objs.size) (o:=.dK []) (t':=s.toks) (fun _ _ q=>Heap.get?_push_of_some _ q) (le_refl _) (sW s.heap I.big),rfl,h _ (I.hok.fresh (le_refl _))⟩
end
def tX:List (TE×TE)->St->Hp->(List (V×V)->Hp->Prop)->Prop
 |[],_,H,Q=>Q [] H
 | (tk,tv)::r,σ,H,Q=>tk σ H fun x H1=>tv σ H1 fun y H2=>tX r σ H2 fun ps H3=>Q ((x,y)::ps) H3
abbrev VV:List (V×V)->List (Value×Value)->Prop:=Paired fun p q=>RelV p.1 q.1/\RelV p.2 q.2
def IS(X:Cx)(pos:Pos)(keys:List (Option Expr))(values:List Expr)(trs:List (TE×TE)):Prop:=
 ∀(pins:List (Addr×Obj)) (s:Shared) (σ:St) (H:Hp) (Q:List (V×V)->Hp->Prop),Inv X pins σ H s->tX trs σ H Q ->
  wpAny (model X.prog X.w) X.A (evalPairs (pairTrees keys values X.env pos)) (fun vs s'=>∃ps H',Inv X pins σ H' s'/\VV ps vs/\Q ps H') X.xe s
theorem Bh{X:Cx}{pos:Pos}:IS X pos [] [] []:=fun pins s σ H Q I h=>pairTrees_nil_walk ⟨[],H,I,.nil,h⟩
theorem yB{X:Cx}{pos:Pos}{k v:Expr}{ks:List (Option Expr)}{vs:List Expr}{tk tv:TE}{trs:List (TE×TE)}(hk:PE X k tk)(hv:PE X v tv)(hr:IS X pos ks vs trs):
  IS X pos (some k::ks) (v::vs) ((tk,tv)::trs):=fun pins s σ H Q I h=>
 pairTrees_cons_walk (b0 (hk pins s σ H _ I h) fun u s1 ⟨x,H1,I1,rx,q1⟩=>b0 (hv pins s1 σ H1 _ I1 q1) fun w2 s2 ⟨y,H2,I2,ry,q2⟩=>
  b0 (hr pins s2 σ H2 _ I2 q2) fun ws s3 ⟨ps,H3,I3,rel,q3⟩=>⟨(x,y)::ps,H3,I3,.cons ⟨rx,ry⟩ rel,q3⟩)
noncomputable def mP(kvs more:List (aG×V)):List (aG×V):=more.foldl (fun acc kv=>eP acc kv.1 kv.2) kvs
theorem KV.merge:∀{more:List (aG×V)} {rs:List (aG×Value)} {kvs:List (aG×V)} {vs:List (aG×Value)},KV more rs->KV kvs vs->KV (mP kvs more) (merged vs rs):=by
 intro more rs kvs vs r;unfold KV at r
 induction r generalizing kvs vs with
 |nil=>intro q;exact q
 | @cons p q ps qs h t ih=>
  intro r0;have e:KV (eP kvs p.1 p.2) (stored vs q.1 q.2):=by
   have:=r0.put p.1 h.2;rw[<-h.1];exact this
  exact ih e
theorem iS:∀(more kvs:List (aG×V)),(mP kvs more).length<=kvs.length+more.length
 |[],kvs=>by show kvs.length<=kvs.length+0;omega
 |p::r,kvs=>by
  have h1:=iS r (eP kvs p.1 p.2);have h2:=fq kvs p.1 p.2;show(mP (eP kvs p.1 p.2) r).length<=_;rw[List.length_cons];omega
theorem nj{P:Program}{w:World}:∀{kvs:List (aG×V)} {ws:List (Value×Value)},VV (kvs.map fun kv=>(kV kv.1,kv.2)) ws->∃rs,Carries (aJ P w) ws rs/\KV kvs rs
 |[],_,r=>by rw[List.map_nil]at r;cases r;exact⟨[],True.intro,.nil⟩
 |p::kvs,_,r=>by
  rw[map_cons]at r;cases r with
  | @cons a b as bs h t=>
   obtain⟨rs,c,q⟩:=nj (P:=P) (w:=w) t;obtain⟨b1,b2⟩:=b;exact⟨(p.1,b2)::rs,⟨mV h.1,rfl,c⟩,.cons ⟨rfl,h.2⟩ q⟩
def FZ(trs:List (TE×TE)):TE:=fun σ H Q=>∀p,H p=none->tX trs σ (upd H p (.dK [])) fun ps H2=>H2 p=some (.dK [])/\∃kvs:List (aG×V),ps=kvs.map (fun kv=>(kV kv.1,kv.2))/\kvs.length<=15/\Q (.ref p) (upd H2 p (.dK (mP [] kvs)))
theorem Bp{X:Cx}{pos:Pos}{keys:List (Option Expr)}{values:List Expr}{trs:List (TE×TE)}(h:IS X pos keys values trs)(hall:keys.all (·.isSome)=true)(hl:keys.length=values.length)(h0:keys≠[])
  (h15:keys.length<=15):PE X (.Dict keys values pos) (FZ trs):=by
 intro pins s σ H Q I q;have hn:=I.hok.fresh (le_refl s.heap.objs.size);have I1:=I.laid (a:=s.heap.objs.size) (o:=.dK []) (h':=s.heap.push { cls:=.type "dict",data:=.dict #[] }) (t':=s.toks) (fun _ _ q=>Heap.get?_push_of_some _ q) (le_refl _) (sW s.heap I.big);refine wpAny_Dict_walk (knd:=aJ X.prog X.w) hall hl h0 h15 (b0 (h pins _ σ _ _ I1 (q _ hn)) fun ws s2 ⟨ps,H2,I2,rel,e,kvs,ep,lk,q2⟩=>?_)
 subst ep;obtain⟨rs,c,rk⟩:=nj (P:=X.prog) (w:=X.w) rel;obtain⟨z,hd,vs0,r0,dd⟩:=C6 I2.hok e;cases r0;refine⟨rs,c,dd,fun h' dd' hs=>⟨.ref s.heap.objs.size,_,?_,rfl,q2⟩⟩
 have hz:(mP [] kvs).length<=sizeLine:=by
  have h1:=iS kvs [];rw[List.length_nil]at h1;rw[sizeLine_eq];omega
 have he:∃q,h'.get? s.heap.objs.size=some q:=let ⟨q,_,_,hq,_⟩:=dd'; ⟨q,hq⟩
 exact qK I2 (by rw[e];exact True.intro) hs he (uN hz hd (rk.merge .nil) dd')
structure M2 (X:Cx) (o:Expr) (m:Str) (apos:Pos) (e f:Expr) (cpos:Pos):Prop where
 base:attributeBase o m X.env (eval o X.env)=eval o X.env
 few:((backTo cpos (starEach [e,f] X.env)).all (fun x=>!x.1)&&(backToKw cpos (keywordEach [] X.env)).all (fun x=>x.1.isSome)
  && decide (([e,f]:List Expr).length+([]:List Keyword).length+(if([]:List Keyword).isEmpty then 0 else 1)<30))=true
 line:(apos.endLine==cpos.line)=true
 trees:backTo cpos (starEach [e,f] X.env)=[(false,eval e X.env),(false,eval f X.env)]
def KY(H:Hp)(a:Addr):Prop:=(∃kvs,Rd H a (.dK kvs))\/∃kvs,Rd H a (.dT kvs)
theorem zj{X:Cx}{pins:List (Addr×Obj)}{σ:St}{H:Hp}{s:Shared}{a:Addr}(I:Inv X pins σ H s)(d:KY H a):
  s.TypeIs (.ref a) "dict" /\ (∀b,Value.ref a=.ref b->∃ob,s.heap.get? b=some ob/\ob.dict=none)/\(a==sysModules)=false:=by
 rcases d with⟨kvs,e⟩|⟨kvs,e⟩
 ·obtain⟨_,hd,vs,_,dd⟩:=jK I.hok e
  refine⟨dd.typeIs,fun b q=>?_,hd⟩
  cases q;obtain⟨ob,_,_,h1,h2,_⟩:=dd;exact⟨ob,h1,h2.2.1⟩
 ·obtain⟨_,hd,xs,_,dd⟩:=pi I.hok e
  refine⟨dd.typeIs,fun b q=>?_,hd⟩
  cases q;obtain⟨ob,_,_,h1,h2,_⟩:=dd;exact⟨ob,h1,h2.2.1⟩
section
variable{X:Cx}{pins:List (Addr×Obj)}{σ:St}{H:Hp}{s:Shared}{a:Addr}{y d:V}{u r:Value}{o:Option V}{A:Around}{E:Value->Shared->Prop}
theorem Fc{Q:Value->Shared->Prop}(hu:A.units+1<cLine)(I:Inv X pins σ H s)(g:DGet H a y o)(ry:RelV y u)(rd:RelV d r)(h:∀w' s',Inv X pins σ H s'->RelV (o.getD d) w'->Q w' s'):
  wpAny (model X.prog X.w) A (call (.builtin "dict.get") [.ref a,u,r]) Q E s:=by
 rcases g with⟨kvs,k,e,ey,l⟩|⟨kvs,k,b,e,ey,eb,l⟩
 ·subst ey
  obtain⟨z,hd,vs,rel,dd⟩:=jK I.hok e;refine call_meetsIn slot_dict_get dd.typeIs PySem.F.entry_dict_get (PySem.F.args_dict_get_3 _ _ _) (meets_dict_get_default (aJ X.prog X.w) a (mV ry) hd r) ⟨_,dd.mapOf,h _ _ (I.tok _) ?_⟩;rw[l];exact(rel.val k).getD rd
 ·subst ey
  cases(show u=Value.ref b from ry);obtain⟨z,hd,xs,rel,dd⟩:=pi I.hok e;refine call_meetsIn slot_dict_get dd.typeIs PySem.F.entry_dict_get (PySem.F.args_dict_get_3 _ _ _) (meetsH_dict_get_default (tupleKind (aJ X.prog X.w)) a b hd r) ⟨tupleKind_room_in1 hu,k,xs,mU I.hok eb,dd,h _ _ (I.tok _) ?_⟩;rw[l];exact(rel.val k).getD rd
end
def Do(td ty tx:TE):TE:=fun σ H Q=>td σ H fun x H1=>∃a,x=.ref a/\KY H1 a/\ty σ H1 fun y H2=>tx σ H2 fun z H3=>∃o,DGet H3 a y o/\Q (o.getD z) H3
section
variable{X:Cx}{o e f:Expr}{apos cpos:Pos}{td ty tx:TE}
theorem yH(hu:X.A.units+1<cLine)(ho:PE X o td)(he:PE X e ty)(hf:PE X f tx)(m:M2 X o "get" apos e f cpos):PE X (.Call (.Attribute o "get" apos) [e,f] [] cpos) (Do td ty tx):=by
 intro pins s σ H Q I h;refine wpAny_Call_method m.base m.few m.line PySem.F.plainAttrs_dict slot_dict_get PySem.F.type_dict_get (b0 (ho pins s σ H _ I h) fun u s1 ⟨x,H1,I1,rx,a,ex,d,q1⟩=>?_)
 subst ex;obtain rfl:u=Value.ref a:=rx;obtain⟨t1,t2,_⟩:=zj I1 d;refine⟨t1,t2,?_⟩;rw[m.trees];refine Calls.callWith_builtin rfl (Calls.evalArgs_plain (Calls.spliced_cons (b0 (he pins s1 σ H1 _ I1 q1) fun iv s2 ⟨y,H2,I2,ry,q2⟩=>
  Calls.spliced_cons (b0 (hf pins s2 σ H2 _ I2 q2) fun fv s3 ⟨z,H3,I3,rz,ov,g,q3⟩=>Calls.spliced_nil ?_))))
 exact Fc hu I3 g ry rz fun w' s4 I4 rw'=>⟨_,H3,I4,rw',q3⟩
end
end L2
namespace Att
open PySem PySem.W PySem.Calls PyProof.Rows
end Att
namespace L2
open PySem PySem.Spec PyProof.Rows
section
variable{X:Cx}
theorem xD:CallR X (.builtin "len") (fun xs H Q=>∃a kvs,xs=[V.ref a]/\H a=some (.dK kvs)/\Q (.int kvs.length) H):=by
 intro pins s σ H xs us Q I r h;obtain⟨a,kvs,rfl,ha,q⟩:=h;obtain⟨u,rfl,ru⟩:=gJ r;cases ru;exact HY I (.inl ha) fun t s' I'=>⟨.int kvs.length,H,I',⟨t,rfl⟩,q⟩
end
end L2
namespace VL
open PySem PySem.Spec PyProof.Rows L2
open PySem.W (kas_ask kas_bin kas_count kas_place kas_rev kas_sort kas_tail3)
open List (ext_getElem? find?_cons getD_eq_getElem?_getD getElem?_eq_none getElem?_map getElem?_set_ne getElem?_set_self length_cons length_map length_range map_append map_cons map_map mem_cons mem_cons_of_mem mem_cons_self not_mem_nil)
open Nat (le_refl le_succ lt_irrefl lt_succ_self ne_of_gt ne_of_lt zero_le)
open Int (toNat_natCast)
open PySem.Heap (get?_push_of_some get?_push_size get?_update_self lt_size size_push)
open Array (getElem?_toList length_toList toArray_toList)
noncomputable def iP:D->Option aG
 |.int i=>some (.inl i)
 |.str x=>some (.inr x)
 |_=>none
@[simp] theorem sI(i:Int):iP (.int i)=some (.inl i):=rfl
noncomputable def ud:Option Sl->Option (List (aG×D))
 |some (.own (.d es))=>some es
 |_=>none
@[simp] theorem yh(es:List (aG×D)):ud (some (.od es))=some es:=rfl
noncomputable def dW(es:List (aG×D))(k:aG):Option D:=(es.find? fun p=>decide (p.1=k)).map (·.2)
noncomputable def eQ(es:List (aG×D))(k:aG)(d:D):List (aG×D):=if(es.any fun p=>decide (p.1=k))=true then es.map (fun p=>if p.1=k then(p.1,d)else p)else es++[(k,d)]
noncomputable def lZ(i:Nat):Sf:=fun δ=>some (.nx,δ.set i (.od []))
noncomputable def mJ(i:Nat)(fk:Dv->Option D):Dv->Option D:=fun δ=>(ud δ[i]?).bind fun es=>(fk δ).bind fun k=>(iP k).bind fun k=>dW es k
noncomputable def i7(i:Nat)(fk fx:Dv->Option D):Dv->Option D:=fun δ=>(ud δ[i]?).bind fun es=>(fk δ).bind fun k=>(fx δ).bind fun y=>(iP k).bind fun k=>some ((dW es k).getD y)
noncomputable def bU(i:Nat)(fk fv:Dv->Option D):Sf:=fun δ=>(fv δ).bind fun v=>(ud δ[i]?).bind fun es=>(fk δ).bind fun k=>(iP k).bind fun k=>if es.length<sizeLine then some (.nx,δ.set i (.od (eQ es k v)))else none
noncomputable def mI(i:Nat):Dv->Option D:=fun δ=>(ud δ[i]?).bind fun es=>some (.int es.length)
theorem iY{o:Option Sl}{es:List (aG×D)}(h:ud o=some es):o=some (.od es):=by
 cases o with
 |none=>cases h
 |some x=>
  cases x with
  |own c=>
   cases c with
   |l ds=>cases h
   |d fs=>cases h;rfl
  |un=>cases h
  |fz d=>cases h
  |fr _=>cases h
theorem dU{K:Fg}{Z:Hp}{v:V}{d:D}{k:aG}(r:Rep K Z v d)(h:iP d=some k):v=kV k:=by
 cases d with
 |int i=>cases h;exact r.int_eq
 |str x=>cases h;exact r.str_eq
 |_=>cases h
theorem eN{K:Fg}{Z:Hp}{kvs:List (aG×V)}{es:List (aG×D)}(h:io K Z kvs es):kvs.length=es.length:=by
 have:=congrArg List.length h.1;rw[length_map,length_map]at this;exact this.symm
theorem iA{K:Fg}{Z:Hp}{kv:aG×V}{kvs:List (aG×V)}{es:List (aG×D)}(h:io K Z (kv::kvs) es):∃d fs,es=(kv.1,d)::fs/\Rep K Z kv.2 d/\io K Z kvs fs:=by
 obtain⟨h1,h2⟩:=h;cases es with
 |nil=>cases h1
 |cons e fs=>
  obtain⟨k,d⟩:=e;rw[map_cons,map_cons,List.cons.injEq]at h1;cases h2 with
  |cons r q=>exact⟨d,fs,by rw[<-h1.1],r,h1.2,q⟩
theorem mi{K:Fg}{Z:Hp}(k:aG):∀{kvs:List (aG×V)} {es:List (aG×D)},io K Z kvs es->(jh kvs k=none/\dW es k=none)\/∃v d,jh kvs k=some v/\dW es k=some d/\Rep K Z v d
 |[],es,h=>by
  have:es=[]:=List.length_eq_zero_iff.mp (eN h).symm;subst this;exact .inl ⟨rfl,rfl⟩
 |kv::kvs,es,h=>by
  obtain⟨d,fs,rfl,r,q⟩:=iA h;by_cases e:kv.1=k
  ·exact .inr ⟨kv.2,d,gQ e,by simp[dW,find?_cons,e],r⟩
  ·rw[gR e]
   have:dW ((kv.1,d)::fs) k=dW fs k:=by simp[dW,find?_cons,e]
   rw[this];exact mi k q
theorem mh{K:Fg}{Z:Hp}{kvs:List (aG×V)}{es:List (aG×D)}(h:io K Z kvs es)(k:aG){v:V}{d:D}(r:Rep K Z v d):io K Z (eP kvs k v) (eQ es k d):=by
 have any:∀{kvs:List (aG×V)} {es:List (aG×D)},io K Z kvs es->(kvs.any fun kv=>decide (kv.1=k))=es.any fun p=>decide (p.1=k):=by
  intro kvs
  induction kvs with
  |nil=>
   intro es h;have:es=[]:=List.length_eq_zero_iff.mp (eN h).symm;subst this;rfl
  |cons kv kvs ih=>
   intro es h;obtain⟨d,fs,rfl,_,q⟩:=iA h;rw[List.any_cons,List.any_cons,ih q]
 unfold eP eQ;rw[any h];by_cases a:(es.any fun p=>decide (p.1=k))=true
 ·rw[if_pos a,if_pos a]
  clear a any;revert es
  induction kvs with
  |nil=>
   intro es h;have:es=[]:=List.length_eq_zero_iff.mp (eN h).symm;subst this;exact⟨rfl,.nil⟩
  |cons kv kvs ih=>
   intro es h;obtain⟨d',fs,rfl,r',q⟩:=iA h;obtain⟨i1,i2⟩:=ih q;by_cases e:kv.1=k
   ·rw[map_cons,map_cons,if_pos e,if_pos e]
    exact⟨by rw[map_cons,map_cons,i1],.cons r i2⟩
   ·rw[map_cons,map_cons,if_neg e,if_neg e]
    exact⟨by rw[map_cons,map_cons,i1],.cons r' i2⟩
 ·rw[if_neg a,if_neg a]
  refine⟨by rw[map_append,map_append,h.1];rfl,?_⟩;rw[map_append,map_append];exact h.2.append (.cons r .nil)
theorem tR{n:Nat}(h:n+64<cLine):n+1<cLine:=by omega
section
variable{X:Cx}{e b c:Expr}{p pos tpos apos cpos:Pos}{f fk fv fx:Dv->Option D}
theorem pN(i:Nat){x:Str}{pos':Pos}(hN:X.N.Nodup)(hi:X.N[i]? = some x:=by rfl)(hx:pE X.env.scope x:=by first|exact Or.inl rfl|exact Or.inr rfl)(hs:swapsWith (.Dict [] [] p) (some (.Name x pos')) pos.line X.env=pure false:=by rfl)
  (hf:X.fn x=true\/X.env.scope.names.lookup x=some .local:=by first|exact .inl rfl|exact .inr rfl|assumption):SV X (.Assign [.Name x pos'] (.Dict [] [] p) pos) (lZ i):=
 PS.imp (dZ hN hi hx yG hs hf) fun D σ H h=>by
  obtain⟨H₀,Z₀,Z,δ,r,hh,e,k⟩:=h;cases e;exact fun p hp=>k _ _ Z (hh.setW hp (.dct ⟨rfl,.nil⟩)) (Same.refl _)
theorem g9{K:Fg}{H₀ Z₀ Z:Hp}{δ:Dv}{σ:St}{H:Hp}(hh:Hold K H₀ Z₀ Z δ σ H){i:Nat}{es:List (aG×D)}(h:ud δ[i]? = some es):∃a kvs,σ[i]? = some (some (V.ref a))/\H a=some (.dK kvs)/\io K Z kvs es:=by
 obtain⟨a,kvs,h1,_,_,h4,h5⟩:=hh.od i es (iY h);exact⟨a,kvs,h1,h4,h5⟩
theorem wa(i:Nat){x:Str}(hu:X.A.units+1<cLine)(hb:EV X b fk)(hsl:Cv b)(hN:X.N[i]? = some x:=by rfl)(hv:nO X.env.scope x:=by first|exact Or.inl rfl|exact Or.inr (Or.inl rfl)|exact Or.inr (Or.inr rfl))(hd:(x==("__debug__":Str))=false:=by decide)(hcd:(x==("__classdict__":Str))=false:=by decide):
  EV X (.Subscript (.Name x p) b pos) (mJ i fk):=
 PE.imp (vt hu (ca hN hv hd hcd) hb hsl) fun σ H Q h=>by
  obtain⟨H₀,Z₀,Z,δ,d,hh,e,k⟩:=h;obtain⟨es,e1,e⟩:=bind_some e;obtain⟨y,e2,e⟩:=bind_some e;obtain⟨ky,e3,e⟩:=bind_some e;obtain⟨a,kvs,h1,h4,h5⟩:=g9 hh e1;refine⟨_,h1,H₀,Z₀,Z,δ,y,hh,e2,fun v Z1 H1 hh1 t1 r1=>?_⟩
  obtain⟨a',kvs',g1,g4,g5⟩:=g9 hh1 e1;rw[h1]at g1;cases g1;obtain rfl:=dU r1 e3;rcases mi ky g5 with⟨_,q⟩|⟨w,d',q1,q2,rw'⟩
  ·rw[e]at q;cases q
  ·rw[e]at q2
   cases q2;exact⟨a,w,rfl,q1 ▸ DGet.k g4,k w Z1 H1 hh1 t1 rw'⟩
theorem sU(i:Nat){x:Str}(hu:X.A.units+1<cLine)(hb:EV X b fk)(hc:EV X c fx)(m:M2 X (.Name x p) "get" apos b c cpos)(hN:X.N[i]? = some x:=by rfl)(hv:nO X.env.scope x:=by first|exact Or.inl rfl|exact Or.inr (Or.inl rfl)|exact Or.inr (Or.inr rfl))(hd:(x==("__debug__":Str))=false:=by decide)(hcd:(x==("__classdict__":Str))=false:=by decide):
  EV X (.Call (.Attribute (.Name x p) "get" apos) [b,c] [] cpos) (i7 i fk fx):=
 PE.imp (yH hu (ca hN hv hd hcd) hb hc m) fun σ H Q h=>by
  obtain⟨H₀,Z₀,Z,δ,d,hh,e,k⟩:=h;obtain⟨es,e1,e⟩:=bind_some e;obtain⟨y,e2,e⟩:=bind_some e;obtain⟨z,e3,e⟩:=bind_some e;obtain⟨ky,e4,e⟩:=bind_some e;cases e;obtain⟨a,kvs,h1,h4,h5⟩:=g9 hh e1;refine⟨_,h1,a,rfl,.inl ⟨kvs,.inl h4⟩,H₀,Z₀,Z,δ,y,hh,e2,fun v Z1 H1 hh1 t1 r1=>⟨H₀,Z₀,Z1,δ,z,hh1,e3,fun u Z2 H2 hh2 t2 r2=>?_⟩⟩
  obtain⟨a',kvs',g1,g4,g5⟩:=g9 hh2 e1;rw[h1]at g1;cases g1;obtain rfl:=dU r1 e4;rcases mi ky g5 with⟨q,q'⟩|⟨w,d',q1,q2,rw'⟩
  ·refine⟨none,q ▸ DGet.k g4,k u Z2 H2 hh2 (t1.trans t2) ?_⟩
   rw[q'];exact r2
  ·refine⟨some w,q1 ▸ DGet.k g4,k w Z2 H2 hh2 (t1.trans t2) ?_⟩
   rw[q2];exact rw'
theorem jj(i:Nat){x:Str}(hu:X.A.units+1<cLine)(hb:EV X b fk)(hv':EV X e fv)(hN:X.N[i]? = some x:=by rfl)(hv:nO X.env.scope x:=by first|exact Or.inl rfl|exact Or.inr (Or.inl rfl)|exact Or.inr (Or.inr rfl))(hd:(x==("__debug__":Str))=false:=by decide)(hcd:(x==("__classdict__":Str))=false:=by decide)
  (hs:swapsWith e (some (.Subscript (.Name x p) b tpos)) pos.line X.env=pure false:=by rfl):SV X (.Assign [.Subscript (.Name x p) b tpos] e pos) (bU i fk fv):=
 PS.imp (vn hu (ca hN hv hd hcd) hb hv' hs) fun D σ H h=>by
  obtain⟨H₀,Z₀,Z,δ,r,hh,e,k⟩:=h;obtain⟨v,e1,e⟩:=bind_some e;obtain⟨es,e2,e⟩:=bind_some e;obtain⟨y,e3,e⟩:=bind_some e;obtain⟨ky,e4,e⟩:=bind_some e;obtain⟨hl,e5⟩:=bg e;cases e5;refine⟨H₀,Z₀,Z,δ,v,hh,e1,fun w Z1 H1 hh1 t1 r1=>?_⟩
  obtain⟨a,kvs,h1,h4,h5⟩:=g9 hh1 e2;refine⟨_,h1,H₀,Z₀,Z1,δ,y,hh1,e3,fun u Z2 H2 hh2 t2 r2=>?_⟩
  obtain⟨a',kvs',g1,g4,g5⟩:=g9 hh2 e2;rw[h1]at g1;cases g1;obtain rfl:=dU r2 e4;exact⟨a,_,rfl,DPut.k g4 (by rw[eN g5];exact hl),k σ _ Z2 (hh2.chgW (iY e2) h1 (.dct (mh g5 ky (r1.same t2)))) (t1.trans t2)⟩
theorem v9(i:Nat){x:Str}{p2:Pos}(hg:Gl X "len")(hm:X.mg "len" = none)(hN:X.N[i]? = some x:=by rfl)(hv:nO X.env.scope x:=by first|exact Or.inl rfl|exact Or.inr (Or.inl rfl)|exact Or.inr (Or.inr rfl))(hd:(x==("__debug__":Str))=false:=by decide)(hcd:(x==("__classdict__":Str))=false:=by decide)
  (he:starEach [.Name x p2] X.env=(false,eval (.Name x p2) X.env)::starEach [] X.env:=by rfl) (hpl:(backTo pos (starEach [] X.env)).any (·.1)=false:=by rfl):EV X (.Call (.Name "len" p) [.Name x p2] [] pos) (mI i):=
 PE.imp (fR xD hg hm PySem.boot_len (bK (ca hN hv hd hcd) cM he) (by decide) (by decide) he hpl) fun σ H Q h=>by
  obtain⟨H₀,Z₀,Z,δ,d,hh,e,k⟩:=h;obtain⟨es,e1,e⟩:=bind_some e;cases e;obtain⟨a,kvs,h1,h4,h5⟩:=g9 hh e1;exact⟨_,h1,a,kvs,rfl,h4,k _ Z H hh (Same.refl _) (by rw[eN h5];exact .int _)⟩
end
noncomputable def uF(x:Int):List Int->List Int
 |[]=>[x]
 |y::r=>if x<=y then x::y::r else y::uF x r
noncomputable def aW:List Int->List Int
 |[]=>[]
 |x::r=>uF x (aW r)
theorem j9(x:Int):∀l:List Int,(uF x l).Perm (x::l)
 |[]=>.refl _
 |y::r=>by
  unfold uF;split
  ·exact .refl _
  ·exact((j9 x r).cons y).trans (.swap x y r)
theorem cj:∀l:List Int,(aW l).Perm l
 |[]=>.refl _
 |x::r=>(j9 x _).trans ((cj r).cons x)
theorem vW(x:Int):∀l:List Int,l.Pairwise (· <= ·)->(uF x l).Pairwise (· <= ·)
 |[],_=>by simp[uF]
 |y::r,h=>by
  obtain⟨h1,h2⟩:=List.pairwise_cons.mp h;unfold uF;split
  ·rename_i hx
   exact List.pairwise_cons.mpr ⟨fun z hz=>by rcases List.mem_cons.mp hz with rfl|hz;exact hx;exact Int.le_trans hx (h1 z hz),h⟩
  ·rename_i hx
   refine List.pairwise_cons.mpr ⟨fun z hz=>?_,vW x r h2⟩
   rcases List.mem_cons.mp ((j9 x r).mem_iff.mp hz)with rfl|hz
   ·omega
   ·exact h1 z hz
theorem j8:∀l:List Int,(aW l).Pairwise (· <= ·)
 |[]=>.nil
 |x::r=>vW x _ (j8 r)
theorem lS:∀{a b:List Int},a.Perm b->a.Pairwise (· <= ·)->b.Pairwise (· <= ·)->a=b
 |[],b,p,_,_=>(List.nil_perm.mp p).symm
 |x::a,b,p,ha,hb=>by
  cases b with
  |nil=>exact absurd (List.perm_nil.mp p) (by simp)
  |cons y b=>
   obtain⟨ha1,ha2⟩:=List.pairwise_cons.mp ha;obtain⟨hb1,hb2⟩:=List.pairwise_cons.mp hb;have e:x=y:=by
    have h1:x∈y::b:=p.mem_iff.mp mem_cons_self;have h2:y∈x::a:=p.mem_iff.mpr mem_cons_self;rcases List.mem_cons.mp h1 with h1|h1
    ·exact h1
    ·rcases List.mem_cons.mp h2 with h2|h2
     ·exact h2.symm
     ·exact Int.le_antisymm (ha1 y h2) (hb1 x h1)
   subst e;rw[lS (List.perm_cons x |>.mp p) ha2 hb2]
theorem iF{a b:List Int}(p:a.Perm b)(h:a.Pairwise (· <= ·)):a=aW b:=lS (p.trans (cj b).symm) h (j8 b)
noncomputable def Hl:aG->Option Int
 |.inl i=>some i
 |.inr _=>none
noncomputable def iT:List (aG×D)->Option (List Int)
 |[]=>some []
 |p::r=>(Hl p.1).bind fun i=>(iT r).bind fun l=>some (i::l)
noncomputable def hJ(i:Nat):Dv->Option D:=fun δ=>(ud δ[i]?).bind fun es=>(iT es).bind fun l=>if l.length<64 then some (.list ((aW l).map .int))else none
noncomputable def kx:D->Option D
 |.int j=>if j<=16777216 /\ -4611686018427387904<=j then some (.list (kM 0 j.toNat))else none
 |_=>none
theorem hX:∀{es:List (aG×D)} {l:List Int},iT es=some l->es.map (·.1)=l.map Sum.inl
 |[],_,h=>by cases h;rfl
 | (.inl i,d)::r,l,h=>by
  obtain⟨m,hm,e⟩:=bind_some h;cases hm;obtain⟨l',h',e⟩:=bind_some e;cases e;rw[map_cons,hX h'];rfl
 | (.inr x,d)::r,l,h=>by cases h
theorem vV{P:Program}{w:World}:∀{acc:List Value} {kvs:List (aG×Value)} {l:List Int},acc.length=kvs.length->(∀(j:Nat) (v:Value),acc[j]? = some v->∃k x,kvs[j]? = some (k,x)/\(aJ P w).is k v=true)->kvs.map (·.1)=l.map Sum.inl->IntsAre acc l
 |[],kvs,l,h1,_,h3=>by
  have:kvs=[]:=List.length_eq_zero_iff.mp h1.symm;subst this;have:l=[]:=by simpa using h3.symm
  subst this;exact .nil
 |v::acc,kv::kvs,l,h1,h2,h3=>by
  cases l with
  |nil=>cases h3
  |cons i l=>
   rw[map_cons,map_cons,List.cons.injEq]at h3;obtain⟨k,x,e,hk⟩:=h2 0 v rfl;cases e;have hk':kz k v=true:=hk;have h3':k=Sum.inl i:=h3.1;subst h3';rcases bB hk' with⟨i',t,e1,rfl⟩|⟨y,t,e1,rfl⟩
   ·cases e1
    exact .cons i t (vV (P:=P) (w:=w) (by simpa using h1) (fun j v e=>h2 (j+1) v e) h3.2)
   ·cases e1
theorem cZ:∀{out:List Value} {l:List Int},IntsAre out l->Vals (l.map V.int) out
 |_,_,.nil=>.nil
 |_,_,.cons n t r=>.cons ⟨t,rfl⟩ (cZ r)
theorem qy{κ:Type}:∀{kvs:List (κ × V)} {vs:List (κ × Value)},KV kvs vs->vs.map (·.1)=kvs.map (·.1)
 |_,_,.nil=>rfl
 |_,_,.cons r q=>by rw[map_cons,map_cons,qy q,r.1]
theorem bC{h:Heap}{a b:Addr}{f:Obj->Obj}{o:Obj}(hab:b≠a)(e:h.get? b=some o):(h.update a f).get? b=some o:=(Heap.get?_update_other _ _ (Ne.symm hab)).trans e
theorem Ag{acc:Array Value}{n:Nat}(h:ItemsOf (fun i v=>∃t,v=.int ((0:Int)+i*1) t) acc n):Vals ((List.range n).map fun k=>V.int (k:Nat)) acc.toList:=by
 obtain⟨h1,h2⟩:=h;subst h1;have key:∀(l:List Value) (m:Nat),(∀(j:Nat) (v:Value),l[j]? = some v->∃t,v=Value.int ((m+j:Nat):Int) t)->Vals ((List.range' m l.length).map fun k=>V.int (k:Nat)) l:=by
  intro l
  induction l with
  |nil=>intro m _;exact .nil
  |cons v l ih=>
   intro m h;obtain⟨t,rfl⟩:=h 0 v rfl;rw[length_cons,List.range'_succ];exact .cons ⟨t,rfl⟩ (ih (m+1) fun j v e=>by obtain⟨t,q⟩:=h (j+1) v e;exact⟨t,by rw[q];congr 2;omega⟩)
 have:=key acc.toList 0 fun j v e=>by
  obtain⟨t,q⟩:=h2 j v (by rw[<-getElem?_toList];exact e);exact⟨t,by rw[q];congr 1;omega⟩
 rwa [length_toList,<-List.range_eq_range']at this
section
variable{X:Cx}
theorem jP(hc:X.calm=true):CallR X (.builtin "sorted") (fun xs H Q=>∃a kvs ns,xs=[V.ref a]/\H a=some (.dK kvs)/\kvs.map (·.1)=ns.map Sum.inl/\ns.length<64/\∀l,H l=none->Q (.ref l) (upd H l (.lst ((aW ns).map V.int)))):=by
 intro pins s σ H xs us Q I r h;obtain⟨a,kvs,ns,rfl,ha,hk,h64,q⟩:=h;obtain⟨u,rfl,ru⟩:=gJ r;cases ru;obtain⟨z,hd,vs,rel,dd⟩:=jK I.hok (.inl ha);obtain⟨ep,dat⟩:=dd.dictAt;have hln:vs.length=ns.length:=by
  have:=congrArg List.length hk;simp only[length_map]at this;rw[<-rel.length,this]
 refine Calls.call_function_entry kind_sorted plain_sorted entry_sorted (args_sorted1 _) ?_;unfold Builtin.«sorted»;refine wpAny_bind (m:=checkCount "sorted" 1 1 _) (wpAny_pure ?_);refine wpAny_bind (PySem.W.kdu_collect (A:=X.A.in1) (PySem.W.kdl_dict (knd:=aJ X.prog X.w) (kvs:=vs) (ep:=ep) hd) (I.ok.hd hc) dat (by rw[hln,sizeLine_eq];omega) fun h' tk acc hk' hacc=>?_)
 have hal:acc.toList.length=vs.length:=by rw[length_toList];exact hacc.1
 have hI:IntsAre acc.toList ns:=vV (P:=X.prog) (w:=X.w) hal (fun j v e=>hacc.2 j v (by rw[<-getElem?_toList];exact e)) (by rw[qy rel];exact hk)
 refine wpAny_bind (wpAny_newList ?_ (by rw[hal,hln,sizeLine_eq];omega));have hoL:(h'.push (seqObj "list" acc.toList.toArray 0)).get? h'.objs.size=some (seqObj "list" acc.toList.toArray 0):=get?_push_size _ rfl;refine wpAny_bind (wpAny_holding (wpAny_call_entry slot_list_sort ⟨_,hoL,rfl⟩ entry_list_sort (list_sort_tree hoL hI (by rw[hal,hln];exact h64) fun out ns' a1 a2 a3=>⟨_,rfl,?_⟩) (args_list_sort _)))
 refine wpAny_pure ⟨_,rfl,?_⟩;have e:=iF a2 a3;subst e;have I1:Inv X pins σ H { s with heap:=h',toks:=tk }:=I.kept hk';have kp:∀b o,h'.get? b=some o->(sortedHeap (h'.push (seqObj "list" acc.toList.toArray 0)) h'.objs.size acc.toList out).get? b=some o:=fun b o eo=>by
  have hb:b≠h'.objs.size:=ne_of_lt (lt_size eo);exact bC hb (get?_push_of_some _ (get?_push_of_some _ (bC hb (get?_push_of_some _ eo))))
 have hlen:out.toList.length=ns.length:=by rw[(cZ a1).length.symm,length_map,a2.length_eq]
 obtain⟨e1,ho1⟩:∃e1,((h'.push (seqObj "list" acc.toList.toArray 0)).update h'.objs.size (Obj.mapSeq fun _=>#[])).get? h'.objs.size=some (seqObj "list" #[] e1):=⟨_,get?_update_seq hoL (fun _=>#[])⟩;have ho2:=get?_push_of_some (seqObj "list" #[] 0) (get?_push_of_some (seqObj "tuple" acc.toList.toArray 0) ho1);have ho3:=get?_update_seq ho2 (fun _=>out);have L:=I1.laid (h':=sortedHeap (h'.push (seqObj "list" acc.toList.toArray 0)) h'.objs.size acc.toList out) (a:=h'.objs.size) (o:=.lst ((aW ns).map V.int)) (t':=tk) kp (le_refl _)
  (show ObjOk X.prog X.w _ _ _ (.lst ((aW ns).map V.int))from ⟨by rw[length_map,(cj ns).length_eq,sizeLine_eq];omega,out.toList,_,cZ a1,by rw[toArray_toList];exact ho3⟩)
 exact⟨.ref h'.objs.size,_,L,rfl,q _ (I1.hok.fresh (le_refl _))⟩
variable{e:Expr}{p p2 pos pos2:Pos}{te:TE}{f:Dv->Option D}
theorem sT(i:Nat){x:Str}(hg:Gl X "sorted")(hm:X.mg "sorted" = none)(hc:X.calm=true:=by rfl)(hN:X.N[i]? = some x:=by rfl)(hv:nO X.env.scope x:=by first|exact Or.inl rfl|exact Or.inr (Or.inl rfl)|exact Or.inr (Or.inr rfl))(hd:(x==("__debug__":Str))=false:=by decide)(hcd:(x==("__classdict__":Str))=false:=by decide)
  (he:starEach [.Name x p2] X.env=(false,eval (.Name x p2) X.env)::starEach [] X.env:=by rfl) (hpl:(backTo pos (starEach [] X.env)).any (·.1)=false:=by rfl):EV X (.Call (.Name "sorted" p) [.Name x p2] [] pos) (hJ i):=
 PE.imp (fR (jP hc) hg hm (by decide +kernel) (bK (ca hN hv hd hcd) cM he) (by decide) (by decide) he hpl) fun σ H Q h=>by
  obtain⟨H₀,Z₀,Z,δ,d,hh,e,k⟩:=h;obtain⟨es,e1,e⟩:=bind_some e;obtain⟨l,e2,e⟩:=bind_some e;obtain⟨h64,e⟩:=bg e;cases e;obtain⟨a,kvs,h1,h4,h5⟩:=g9 hh e1;refine⟨_,h1,a,kvs,l,rfl,h4,by rw[<-h5.1];exact hX e2,h64,fun l' hl=>?_⟩
  have n:=New.add hh.zh hl (.lst ((aW l).map V.int));exact k _ _ _ (hh.new n) n.z (.lst (SqL.of ay) (Reps.ints _))
def FX(te:TE):TE:=fun σ H Q=>te σ H fun v H1=>∃j:Int,[v]=[V.int j]/\j<=16777216 /\ -4611686018427387904<=j/\∀l,H1 l=none->Q (.ref l) (upd H1 l (.lst ((List.range j.toNat).map fun k=>V.int (k:Nat))))
theorem Bn(hc:X.calm=true)(hg:Gl X "list")(hm:X.mg "list" = none)(hg':Gl X "range")(hm':X.mg "range" = none)(ha:PE X e te)
  (he:starEach [.Call (.Name "range" p2) [e] [] pos2] X.env=(false,eval (.Call (.Name "range" p2) [e] [] pos2) X.env)::starEach [] X.env:=by rfl)
  (he2:starEach [e] X.env=(false,eval e X.env)::starEach [] X.env:=by rfl) (hpl:(backTo pos (starEach [] X.env)).any (·.1)=false:=by rfl) (hpl2:(backTo pos2 (starEach [] X.env)).any (·.1)=false:=by rfl) :
  PE X (.Call (.Name "list" p) [.Call (.Name "range" p2) [e] [] pos2] [] pos) (FX te):=by
 intro pins s σ H Q I h;refine wpAny_Call_Name_kw (fH I hg hm (u:=.type "list") (by decide +kernel) ?_ (by decide) (by decide));refine PyProof.Rows.callWith_type1 ?_ he hpl;rw[he];show wpAny _ _ (spliced ((false,eval _ X.env)::backTo pos (starEach [] X.env))) _ _ s;refine Calls.spliced_cons ?_;refine wpAny_Call_Name_kw (fH I hg' hm' (u:=.type "range") (by decide +kernel) ?_ (by decide) (by decide));refine PyProof.Rows.callWith_type1 (b0 (bK ha cM he2 pos2 pins s σ H (fun xs H1=>∃j:Int,xs=[V.int j]/\j<=16777216 /\ -4611686018427387904<=j/\∀l,H1 l=none->Q (.ref l) (upd H1 l (.lst ((List.range j.toNat).map fun k=>V.int (k:Nat))))) I (by exact h)) fun us s1 ⟨vs,H1,I1,r1,q1⟩=>?_) he2 hpl2
 obtain⟨j,e1,h1,h2,q⟩:=q1;subst e1;obtain⟨u,rfl,rx⟩:=gJ r1;obtain⟨t,rfl⟩:=rx;refine call_range_1 ?_;refine Calls.spliced_nil ?_;refine call_list_range (I1.ok.hd hc) (IsRange.new ..) (small_one (by omega) (by omega) (by omega) (by omega)) (n:=j.toNat) (by rw[rangeSize_one];split<;>omega) (by omega) fun h' tk acc c hk hS hacc=>?_
 have hal:=Ag hacc;have L:=I1.laid (h':=h') (a:=(s1.heap.push { cls:=.type "range",data:=.fields #[.int 0 s1.toks,.int j t,.int 1 (s1.toks+1)] }).objs.size) (o:=.lst ((List.range j.toNat).map fun k=>V.int (k:Nat))) (t':=tk) (fun b o eo=>hk b o (get?_push_of_some _ eo)) (by rw[size_push];exact le_succ _)
  (show ObjOk X.prog X.w _ _ _ (.lst ((List.range j.toNat).map fun k=>V.int (k:Nat)))from ⟨by rw[length_map,length_range,sizeLine_eq];omega,acc.toList,_,hal,by rw[toArray_toList];exact hS⟩)
 exact⟨.ref _,_,L,rfl,q _ (I1.hok.fresh (by rw[size_push];exact le_succ _))⟩
theorem Ca(hg:Gl X "list")(hm:X.mg "list" = none)(hg':Gl X "range")(hm':X.mg "range" = none)(ha:EV X e f)(hc:X.calm=true:=by rfl)
  (he:starEach [.Call (.Name "range" p2) [e] [] pos2] X.env=(false,eval (.Call (.Name "range" p2) [e] [] pos2) X.env)::starEach [] X.env:=by rfl)
  (he2:starEach [e] X.env=(false,eval e X.env)::starEach [] X.env:=by rfl) (hpl:(backTo pos (starEach [] X.env)).any (·.1)=false:=by rfl) (hpl2:(backTo pos2 (starEach [] X.env)).any (·.1)=false:=by rfl) :
  EV X (.Call (.Name "list" p) [.Call (.Name "range" p2) [e] [] pos2] [] pos) (o1 f kx):=
 PE.imp (Bn hc hg hm hg' hm' ha he he2 hpl hpl2) fun σ H Q h=>by
  obtain⟨H₀,Z₀,Z,δ,d,hh,e,k⟩:=h;obtain⟨d1,e1,e⟩:=bind_some e;refine⟨H₀,Z₀,Z,δ,d1,hh,e1,fun v Z1 H1 hh1 t1 r1=>?_⟩
  cases d1 with
  |int j=>
   obtain⟨hj,e⟩:=bg e;cases e;refine⟨j,by rw[r1.int_eq],hj.1,hj.2,fun l hl=>?_⟩
   have n:=New.add hh1.zh hl (.lst ((List.range j.toNat).map fun k=>V.int (k:Nat)))
   refine k _ _ _ (hh1.new n) (t1.trans n.z) (.lst (SqL.of ay) ?_);have:=Reps.ints (K:=X.K) (Z:=upd Z1 l (.lst ((List.range j.toNat).map fun k=>V.int (k:Nat)))) ((List.range j.toNat).map fun k=>((k:Nat):Int))
   simpa[kM,map_map,Function.comp_def]using this
  |_=>cases e
end
noncomputable def FN:List D->Option D
 |[.list a,.list b]=>some (.list (List.zipWith (fun x y=>.tuple [x,y]) a b))
 |_=>none
@[simp] noncomputable def LF(fs:Dv->Option (List D))(g:List D->Option D):Dv->Option D:=fun δ=>(fs δ).bind g
@[simp] theorem Is(a b:List D):FN [.list a,.list b]=some (.list (List.zipWith (fun x y=>.tuple [x,y]) a b)):=rfl
theorem xn{X:Cx}{pins:List (Addr×Obj)}{σ:St}{H H':Hp}{s:Shared}{h':Heap}{t':Nat}(I:Inv X pins σ H s)(k:∀b u,s.heap.get? b=some u->h'.get? b=some u)(ext:∀b,H b≠none->H' b=H b)
  (new:∀b o,H b=none->H' b=some o->s.heap.objs.size<=b/\ObjOk X.prog X.w H' h' b o):Inv X pins σ H' { s with heap:=h',toks:=t' }:=by
 have e':∀{b:Addr} {u:HO},H b=some u->H' b=some u:=fun{b u} q=>by rw[ext b (by rw[q];simp),q]
 refine I.un ⟨fun b u q _ _ _=>k b u q,fun b u q _ _ _=>⟨u.slots,k b u q⟩,fun b u q n _=>?_,fun b u q _=>⟨u,k b u q⟩,fun b xs q=>e' q,fun b u xs q=>e' q,fun b ps q=>⟨#[],by rw[e' q];simp⟩⟩ fun b u e=>?_
 ·cases q':H' b with
  |none=>rfl
  |some o=>exact absurd (lt_size q) (Nat.not_lt.mpr (new b o n q').1)
 ·by_cases n:H b=none
  ·exact(new b u n e).2
  ·cases q:H b with
   |none=>exact absurd q n
   |some u'=>
    have:=e' q;rw[e]at this;cases this;exact(I.hok b u q).stay (fun c v _ q=>k c v q) (fun c q=>e' q) fun c xs q=>e' q
noncomputable def p4:List Addr->List (List V)->Addr->Option HO
 |a::as,t::ts,b=>if b=a then some (.tup t)else p4 as ts b
 |_,_,_=>none
theorem oK:∀{as:List Addr} {ts:List (List V)} {b:Addr} {o:HO},p4 as ts b=some o->∃(j:Nat) (t:List V),as[j]? = some b/\ts[j]? = some t/\o=.tup t
 |[],_,_,_,h=>by cases h
 |_::_,[],_,_,h=>by cases h
 |a::as,t::ts,b,o,h=>by
  unfold p4 at h;split at h
  ·rename_i e
   cases h;exact⟨0,t,by rw[e];rfl,rfl,rfl⟩
  ·obtain⟨j,t',h1,h2,h3⟩:=oK h
   exact⟨j+1,t',h1,h2,h3⟩
theorem rQ:∀{as:List Addr} {ts:List (List V)} {j:Nat} {a:Addr} {t:List V},as.Pairwise (· < ·)->as[j]? = some a->ts[j]? = some t->p4 as ts a=some (.tup t)
 |[],_,_,_,_,_,h,_=>by simp at h
 |_::_,[],_,_,_,_,_,h=>by simp at h
 |a::as,t::ts,0,_,_,_,h1,h2=>by cases h1;cases h2;exact if_pos rfl
 |a::as,t::ts,j+1,b,u,h,h1,h2=>by
  obtain⟨g1,g2⟩:=List.pairwise_cons.mp h;have hb:=g1 b (List.mem_of_getElem? (by simpa using h1));unfold p4;rw[if_neg (ne_of_gt hb)];exact rQ g2 (by simpa using h1) (by simpa using h2)
section
variable{X:Cx}{e1 e2:Expr}{p p2 pos pos2:Pos}{ta:TA}{fs:Dv->Option (List D)}
noncomputable def Fw:Option HO->Option HO
 |some (.frz _ (.lst _))=>none
 |o=>o
theorem rh{o:Option HO}{u:HO}(h:Fw o=some u):o=some u/\BD u=true:=by
 unfold Fw at h;split at h
 ·cases h
 ·rename_i hn
  refine⟨h,?_⟩;unfold BD;split
  ·exact absurd h (hn _ _)
  ·rfl
theorem New.many{Z H H':Hp}(zh:Same Z H)(ext:∀b,H b≠none->H' b=H b):New Z H (fun b=>if H b=none then Fw (H' b)else Z b) H' where
 z:=fun b u e=>by
  have:H b=some u:=zh b u e;show(if H b=none then _ else _)=_;rw[if_neg (by rw[this];simp)];exact e
 h:=fun b u e=>by rw[ext b (by rw[e];simp),e]
 zh:=fun b u e=>by
  have e:(if H b=none then Fw (H' b)else Z b)=some u:=e;split at e
  ·exact(rh e).1
  ·rename_i n
   rw[ext b n];exact zh b u e
 o:=fun b hb=>if_neg hb
 nf:=fun b o xs e=>by
  have e:(if H b=none then Fw (H' b)else Z b)=_:=e;split at e
  ·cases(rh e).2
  ·exact e
end
noncomputable def kA:List (aG×D)->Option (List (aG×Int))
 |[]=>some []
 | (k,.int i)::r=>(kA r).bind fun l=>some ((k,i)::l)
 |_=>none
noncomputable def kX(i:Nat)(δ:Dv):Dv:=match δ[i]? with
 |some (.own (.d es))=>match kA es with
  |some l=>δ.set i (.fz (.dict (dctD l)))
  |none=>δ
 |_=>δ
noncomputable def gU:List (D×D)->Option (List (aG×Int))
 |[]=>some []
 | (k,.int i)::r=>(iP k).bind fun k=>(gU r).bind fun l=>some ((k,i)::l)
 |_=>none
theorem uB(k:aG):iP (vT k)=some k:=by cases k<;>rfl
@[simp] theorem cU:∀es:List (aG×Int),gU (dctD es)=some es
 |[]=>rfl
 | (k,i)::r=>by
  show(iP (vT k)).bind _=_;rw[uB];show(gU (dctD r)).bind _=_;rw[cU r];rfl
noncomputable def mY(es:List (aG×Int))(k:aG):Option Int:=(es.find? fun p=>decide (p.1=k)).map (·.2)
noncomputable def fw:D->D->Option D
 |.dict kvs,k=>(gU kvs).bind fun es=>(iP k).bind fun k=>(mY es k).map .int
 |_,_=>none
noncomputable def gZ:D->Option D
 |.dict kvs=>(gU kvs).bind fun es=>(iT (es.map fun p=>(p.1,PyData.int p.2))).bind fun l=>if l.length<64 then some (.list ((aW l).map .int))else none
 |_=>none
theorem sL:∀{es:List (aG×D)} {l:List (aG×Int)},kA es=some l->es=l.map fun p=>(p.1,PyData.int p.2)
 |[],_,h=>by cases h;rfl
 | (k,.int i)::r,l,h=>by
  obtain⟨m,hm,e⟩:=bind_some h;cases e;rw[sL hm];rfl
 | (k,.none)::r,l,h=>by cases h
 | (k,.bool _)::r,l,h=>by cases h
 | (k,.str _)::r,l,h=>by cases h
 | (k,.tuple _)::r,l,h=>by cases h
 | (k,.list _)::r,l,h=>by cases h
 | (k,.dict _)::r,l,h=>by cases h
theorem oH{K:Fg}{Z:Hp}:∀{kvs:List (aG×V)} {l:List (aG×Int)},io K Z kvs (l.map fun p=>(p.1,PyData.int p.2))->kvs=l.map fun p=>(p.1,V.int p.2)
 |[],l,h=>by
  have:(l.map fun p=>(p.1,PyData.int p.2))=[]:=List.length_eq_zero_iff.mp (eN h).symm
  rw[List.map_eq_nil_iff.mp this];rfl
 |kv::kvs,l,h=>by
  obtain⟨d,fs,e,r,q⟩:=iA h;cases l with
  |nil=>cases e
  |cons p l=>
   rw[map_cons,List.cons.injEq,Prod.mk.injEq]at e;obtain⟨⟨e1,e2⟩,e3⟩:=e;subst e2;subst e3;obtain⟨k,v⟩:=kv;have e1:p.1=k:=e1;have rv:v=V.int p.2:=r.int_eq;subst rv;rw[map_cons,<-oH q,e1]
theorem xq{K:Fg}{H₀ Z₀ Z H:Hp}{δ:Dv}{σ:St}(h:Hold K H₀ Z₀ Z δ σ H){i:Nat}{l:List (aG×Int)}(e:δ[i]? = some (.od (l.map fun p=>(p.1,PyData.int p.2)))):∃Z',Same Z Z'/\Hold K H₀ Z₀ Z' (δ.set i (.fz (.dict (dctD l)))) σ H:=by
 obtain⟨a,kvs,h1,h2,h3,h4,h5⟩:=h.od i _ e;obtain rfl:=oH h5;have hl:i < δ.length:=(List.getElem?_eq_some_iff.mp e).1;have sz:Same Z (upd Z a (.dK (l.map fun p=>(p.1,V.int p.2)))):=di h3
 refine⟨_,sz,fun b o q=>?_,h.h0,h.z0.trans sz,fun b hb=>?_,by simp[h.len],fun j d q=>?_,fun j d q=>?_,fun j k d1 d2 b hjk q1 q2=>?_,(h.fr.same sz).put (fun _ z=>nomatch z) fun _ _=>rfl,h.nf.upd a⟩
 ·by_cases hb:b=a
  ·subst hb;rw[ay]at q;cases q;exact h4
  ·rw[au hb]at q;exact h.zh b o q
 ·rw[au (fun z=>hb (by rw[z];exact h2))];exact h.zb b hb
 ·by_cases hj:i=j
  ·subst hj
   rw[getElem?_set_self hl]at q;cases q;exact⟨.ref a,h1,.opq (.dct rfl ay)⟩
  ·rw[getElem?_set_ne hj]at q
   obtain⟨v,g1,g2⟩:=h.fz j d q;exact⟨v,g1,g2.same sz⟩
 ·by_cases hj:i=j
  ·subst hj
   rw[getElem?_set_self hl]at q;cases q
  ·rw[getElem?_set_ne hj]at q
   obtain⟨b,ws,g1,g2,g3,g4,g5⟩:=h.own j d q;have:b≠a:=fun z=>by subst z;exact h.dja i j _ d b hj e q h1 g1
   exact⟨b,ws,g1,g2,by rw[au this];exact g3,g4,g5.same sz⟩
 ·by_cases hj:i=j
  ·subst hj
   rw[getElem?_set_self hl]at q1;cases q1
  ·by_cases hk:i=k
   ·subst hk
    rw[getElem?_set_self hl]at q2;cases q2
   ·rw[getElem?_set_ne hj]at q1
    rw[getElem?_set_ne hk]at q2;exact h.dja j k d1 d2 b hjk q1 q2
section
variable{X:Cx}{st:Stmt}{s1:Sf}{a b:Expr}{f fk:Dv->Option D}{p pos:Pos}
theorem E3{K:Fg}(i:Nat){D:Ends}{σ:St}{H:Hp}(h:CJ K (fun δ=>s1 (kX i δ)) D σ H):CJ K s1 D σ H:=by
 obtain⟨H₀,Z₀,Z,δ,r,hh,e,k⟩:=h;have e:s1 (kX i δ)=some r:=e;unfold kX at e;split at e
 ·rename_i es q
  split at e
  ·rename_i l ql
   rw[sL ql]at q;obtain⟨Z1,t1,hh1⟩:=xq hh q;exact⟨H₀,Z₀,Z1,_,r,hh1,e,fun σ2 H2 Z2 hh2 t2=>k σ2 H2 Z2 hh2 (t1.trans t2)⟩
  ·exact⟨H₀,Z₀,Z,_,r,hh,e,k⟩
 ·exact⟨H₀,Z₀,Z,_,r,hh,e,k⟩
theorem tY(i:Nat)(h:SV X st s1):SV X st (fun δ=>s1 (kX i δ)):=PS.imp h fun D σ H q=>E3 i q
theorem zO{K:Fg}{Z:Hp}{v:V}{kvs:List (D×D)}{es:List (aG×Int)}(r:Rep K Z v (.dict kvs))(h:gU kvs=some es):∃a,v=.ref a/\Z a=some (.dK (es.map fun p=>(p.1,V.int p.2))):=by
 cases r with
 | @opq a _ q=>
  cases q with
  |exc _ _=>cases h
  |fn _=>cases h
  |ins _ _ _=>cases h
  |dct h1 h2=>
   subst h1;rw[cU]at h;cases h;exact⟨a,rfl,h2⟩
 |gdc _ _ _ _=>cases h
theorem ou(k:aG):∀es:List (aG×Int),jh (es.map fun p=>(p.1,V.int p.2)) k=(mY es k).map V.int
 |[]=>rfl
 | (k',i)::r=>by
  by_cases e:k'=k
  ·rw[map_cons,gQ e];simp[mY,find?_cons,e]
  ·rw[map_cons,gR e,ou k r];simp[mY,find?_cons,e]
theorem ij(hu:X.A.units+1<cLine)(ha:EV X a f)(hb:EV X b fk)(hsl:Cv b):EV X (.Subscript a b pos) (o2 f fk fw):=
 PE.imp (vt hu ha hb hsl) fun σ H Q h=>by
  obtain⟨H₀,Z₀,Z,δ,d,hh,e,k⟩:=h;obtain⟨x,e1,e⟩:=bind_some e;obtain⟨y,e2,e⟩:=bind_some e;cases x with
  |dict kvs=>
   obtain⟨es,e3,e⟩:=bind_some e;obtain⟨ky,e4,e⟩:=bind_some e;obtain⟨i,e5,e⟩:=Option.map_eq_some_iff.mp e;subst e;refine⟨H₀,Z₀,Z,δ,_,hh,e1,fun v Z1 H1 hh1 t1 r1=>⟨H₀,Z₀,Z1,δ,y,hh1,e2,fun u Z2 H2 hh2 t2 r2=>?_⟩⟩
   obtain⟨ad,rfl,g⟩:=zO r1 e3;obtain rfl:=dU r2 e4;exact⟨ad,V.int i,rfl,by have:=DGet.k (k:=ky) (hh2.zh _ _ (t2 _ _ g));rw[ou,e5]at this;exact this,k _ Z2 H2 hh2 (t1.trans t2) (.int i)⟩
  |_=>cases e
theorem pf(hg:Gl X "sorted")(hm:X.mg "sorted" = none)(ha:EV X a f)(hc:X.calm=true:=by rfl)
  (he:starEach [a] X.env=(false,eval a X.env)::starEach [] X.env:=by rfl) (hpl:(backTo pos (starEach [] X.env)).any (·.1)=false:=by rfl):EV X (.Call (.Name "sorted" p) [a] [] pos) (o1 f gZ):=
 PE.imp (fR (jP hc) hg hm (by decide +kernel) (bK ha cM he) (by decide) (by decide) he hpl) fun σ H Q h=>by
  obtain⟨H₀,Z₀,Z,δ,d,hh,e,k⟩:=h;obtain⟨x,e1,e⟩:=bind_some e;cases x with
  |dict kvs=>
   obtain⟨es,e3,e⟩:=bind_some e;obtain⟨l,e4,e⟩:=bind_some e;obtain⟨h64,e⟩:=bg e;cases e;refine⟨H₀,Z₀,Z,δ,_,hh,e1,fun v Z1 H1 hh1 t1 r1=>?_⟩
   obtain⟨ad,rfl,g⟩:=zO r1 e3;refine⟨ad,_,l,rfl,hh1.zh _ _ g,by have:=hX e4;rw[<-this];simp[map_map,Function.comp_def],h64,fun l' hl=>?_⟩
   have n:=New.add hh1.zh hl (.lst ((aW l).map V.int));exact k _ _ _ (hh1.new n) (t1.trans n.z) (.lst (SqL.of ay) (Reps.ints _))
  |_=>cases e
end
noncomputable def Hx(neg:Bool):D->D->Option D
 |a,.list xs=>if shp a=true/\PyData.canLayAll0 xs=true then some (.bool (if neg=true then !ka a xs else ka a xs))else none
 |a,.tuple xs=>if shp a=true/\PyData.canLayAll0 xs=true then some (.bool (if neg=true then !ka a xs else ka a xs))else none
 |_,_=>none
theorem Ja{k:Nat}{A:Around}(r:Room k A):A.units+65<cLine:=by have:=r.un;omega
section
variable{X:Cx}
theorem zP(hu:X.A.units+65<cLine):OpR X (compareOp .NotIn) (rD X.K (Hx true)):=by
 intro pins s σ H x y v u Q I rx ry q;obtain⟨Z,a,b,d,zh,ra,rb,e,k⟩:=q;cases b with
 |list xs=>
  obtain⟨hs,e⟩:=bg e;cases e;obtain⟨as,r1⟩:=ra.reads I zh rx (eA hs.1);obtain⟨bs,r2⟩:=rb.reads I zh ry hs.2;exact SeqAt.notIn_list_reads r2 r1 hs.2 (eA hs.1) (room_in_shaped hs.1 hu) ⟨.bl _,H,I,rfl,k _ Z H (New.refl zh) (.bl _)⟩
 |tuple xs=>
  obtain⟨hs,e⟩:=bg e;cases e;obtain⟨as,r1⟩:=ra.reads I zh rx (eA hs.1);obtain⟨bs,r2⟩:=rb.reads I zh ry hs.2;exact SeqAt.notIn_tuple_reads r2 r1 hs.2 (eA hs.1) (room_in_shaped hs.1 hu) ⟨.bl _,H,I,rfl,k _ Z H (New.refl zh) (.bl _)⟩
 |_=>cases e
end
section
variable{cmp:Nat->Nat->(Bool->Shared->Prop)->Shared->Prop}{N:Nat}{key:Nat->Int}
noncomputable def ky(key:Nat->Int)(p:Array Nat)(i:Nat):Int:=key (p.getD i 0)
structure Pm (N:Nat) (p:Array Nat):Prop where
 perm:p.toList.Perm (List.range N)
theorem Pm.size{p:Array Nat}(h:Pm N p):p.size=N:=by
 have:=h.perm.length_eq;simpa using this
theorem Pm.lt{p:Array Nat}(h:Pm N p)(i:Nat)(hN:0<N):p.getD i 0<N:=by
 by_cases hi:i<p.size
 ·have e:p.getD i 0=p[i]:=by simp[Array.getD,hi]
  rw[e];have m:p[i]∈p.toList:=Array.getElem_mem_toList hi;exact List.mem_range.mp (h.perm.mem_iff.mp m)
 ·have e:p.getD i 0=0:=by simp[Array.getD,hi]
  rw[e];exact hN
theorem Pm.ne{p:Array Nat}(h:Pm N p){i j:Nat}(hi:i<N)(hj:j<N)(e:p.getD i 0=p.getD j 0):i=j:=by
 have nd:p.toList.Nodup:=h.perm.nodup_iff.mpr List.nodup_range;have hz:=h.size;have e1:p.getD i 0=p.toList[i]'(by simpa[hz]using hi):=by simp[Array.getD,hz,hi]
 have e2:p.getD j 0=p.toList[j]'(by simpa[hz]using hj):=by simp[Array.getD,hz,hj]
 rw[e1,e2]at e;have pw:=List.pairwise_iff_getElem.mp nd;rcases Nat.lt_trichotomy i j with q|q|q
 ·exact absurd e (pw i j (by simpa[hz]using hi) (by simpa[hz]using hj) q)
 ·exact q
 ·exact absurd e.symm (pw j i (by simpa[hz]using hj) (by simpa[hz]using hi) q)
theorem Pm.of{p q:Array Nat}(h:Pm N p)(e:q.Perm p):Pm N q:=⟨(Array.perm_iff_toList_perm.mp e).trans h.perm⟩
variable{s:Shared}(hinj:∀i j,i<N->j<N->key i=key j->i=j)(hc:∀i j,i<N->j<N->i≠j->∀C:Bool->Shared->Prop,C (decide (key i<key j)) s->cmp i j C s)
def Up(key:Nat->Int)(p:Array Nat)(m:Nat):Prop:=∀i j,i<j->j<m->ky key p i<ky key p j
def Dn(key:Nat->Int)(p:Array Nat)(m:Nat):Prop:=∀i j,i<j->j<m->ky key p j<ky key p i
include hinj in
theorem zd{p:Array Nat}(h:Pm N p){i j:Nat}(hi:i<N)(hj:j<N)(hij:i≠j):ky key p i≠ky key p j:=fun e=>
 hij (h.ne hi hj (hinj _ _ (h.lt i (by omega)) (h.lt j (by omega)) e))
include hc in
theorem nI{α:Type}{p:Array Nat}(h:Pm N p)(hN:0<N)(i j:Nat)(hi:i<N)(hj:j<N)(hij:i≠j){k:Bool->PySem.W.KasT α}{Q:α -> Shared->Prop}(hk:(k (decide (ky key p i<ky key p j))).kasWp cmp Q s):(PySem.W.KasT.ask (p.getD i 0) (p.getD j 0) k).kasWp cmp Q s:=
 hc _ _ (h.lt i hN) (h.lt j hN) (fun e=>hij (h.ne hi hj e)) _ hk
include hinj hc in
theorem uV{p:Array Nat}(h:Pm N p){Q:Nat->Shared->Prop}{M:Nat}(hM:M<=N):∀(f n:Nat),1<=n->n+f=M->Up key p n->(∀m,n<=m->m<=M->Up key p m->(m=M\/ky key p m<ky key p (m-1))->Q m s)->(PySem.W.kas_asc p f n).kasWp cmp Q s
 | 0,n,h1,hf,up,q=>q n (le_refl _) (by omega) up (.inl (by omega))
 |f+1,n,h1,hf,up,q=>by
  refine nI hc h (by omega) n (n-1) (by omega) (by omega) (by omega) ?_;by_cases d:ky key p n<ky key p (n-1)
  ·rw[decide_eq_true d,if_pos rfl]
   exact q n (le_refl _) (by omega) up (.inr d)
  ·rw[decide_eq_false d,if_neg (by decide)]
   have ne:=zd hinj h (i:=n) (j:=n-1) (by omega) (by omega) (by omega);refine uV h hM f (n+1) (by omega) (by omega) (fun i j hij hj=>?_) fun m a1 a2 a3 a4=>q m (by omega) a2 a3 a4
   by_cases hjn:j=n
   ·subst hjn
    by_cases hi:i=j-1
    ·subst hi;omega
    ·have:=up i (j-1) (by omega) (by omega);omega
   ·exact up i j hij (by omega)
include hinj hc in
theorem wf{p:Array Nat}(h:Pm N p){Q:Array Nat×Nat×Nat->Shared->Prop}{M:Nat}(hM:M<=N):∀(f n:Nat),1<=n->n+f=M->Dn key p n->(∀m,n<=m->m<=M->Dn key p m->Q (p,m,0) s)->(PySem.W.kas_desc f p n 0).kasWp cmp Q s
 | 0,n,h1,hf,dn,q=>q n (le_refl _) (by omega) dn
 |f+1,n,h1,hf,dn,q=>by
  refine nI hc h (by omega) n (n-1) (by omega) (by omega) (by omega) ?_;have ne:=zd hinj h (i:=n) (j:=n-1) (by omega) (by omega) (by omega);by_cases d:ky key p n<ky key p (n-1)
  ·rw[decide_eq_true d,if_pos rfl,if_neg (by decide)]
   refine wf h hM f (n+1) (by omega) (by omega) (fun i j hij hj=>?_) fun m a1 a2 a3=>q m (by omega) a2 a3
   by_cases hjn:j=n
   ·subst hjn
    by_cases hi:i=j-1
    ·subst hi;omega
    ·have:=dn i (j-1) (by omega) (by omega);omega
   ·exact dn i j hij (by omega)
  ·rw[decide_eq_false d,if_neg (by decide)]
   refine nI hc h (by omega) (n-1) n (by omega) (by omega) (by omega) ?_;rw[decide_eq_true (show ky key p (n-1)<ky key p n by omega),if_pos rfl];exact q n (le_refl _) (by omega) dn
theorem yt{p:Array Nat}(h:Pm N p)(i j:Nat):Pm N (kas_rev p i j):=h.of (mirror_perm _ _ _ _)
theorem jF{p q:Array Nat}{i j:Nat}(e:p[i]? = q[j]?):p.getD i 0=q.getD j 0:=by
 rw[Array.getD_eq_getD_getElem?,Array.getD_eq_getD_getElem?,e]
theorem yu{p:Array Nat}(h:Pm N p){n:Nat}(hn:n<=N)(k:Nat):ky key (kas_rev p 0 n) k=if k<n then ky key p (n-1-k)else ky key p k:=by
 have e:=getElem?_mirror_all (xs:=p) (i:=0) (j:=n) (by rw[h.size];exact hn) k;unfold ky kas_rev;by_cases hk:k<n
 ·rw[if_pos ⟨zero_le _,hk⟩]at e
  rw[if_pos hk,jF e,Nat.zero_add]
 ·rw[if_neg (by omega)]at e
  rw[if_neg hk,jF e]
theorem DS{p:Array Nat}(h:Pm N p){n:Nat}(hn:n<=N)(dn:Dn key p n):Up key (kas_rev p 0 n) n:=fun i j hij hj=>by
 rw[yu h hn,yu h hn,if_pos (by omega),if_pos hj];exact dn _ _ (by omega) (by omega)
include hinj hc in
theorem Ax{p:Array Nat}(h:Pm N p){Q:Nat×Array Nat->Shared->Prop}{n:Nat}(h1:1<=n)(hn:n<=N)(dn:Dn key p n)(q:∀m p',1<=m->m<=N->Pm N p'->Up key p' m->Q (m,p') s):(kas_tail3 n N p).kasWp cmp Q s:=by
 unfold kas_tail3;rw[PySem.W.KasT.kasWp_bind];exact uV hinj hc (yt h 0 n) (le_refl N) (N-n) n h1 (by omega) (DS h hn dn) fun m a1 a2 a3 _=>q m _ (by omega) a2 (yt h 0 n) a3
include hinj hc in
theorem zS{p:Array Nat}(h:Pm N p)(hN:2<=N){Q:Nat×Array Nat->Shared->Prop}(q:∀m p',1<=m->m<=N->Pm N p'->Up key p' m->Q (m,p') s):(kas_count N p).kasWp cmp Q s:=by
 unfold kas_count;rw[PySem.W.KasT.kasWp_bind];refine uV hinj hc h (le_refl N) (N-1) 1 (le_refl _) (by omega) (fun i j a b=>by omega) fun n a1 a2 a3 a4=>?_
 by_cases e:(n==N)=true
 ·rw[if_pos e]
  exact q n p a1 a2 h a3
 ·rw[if_neg e]
  have hne:n≠N:=fun z=>e (by rw[z];exact beq_self_eq_true _)
  by_cases e2:n>1
  ·rw[if_pos e2]
   refine nI hc h (by omega) 0 (n-1) (by omega) (by omega) (by omega) ?_;rw[decide_eq_true (a3 0 (n-1) (by omega) (by omega)),if_pos rfl];exact q n p a1 a2 h a3
  ·rw[if_neg e2]
   have hn1:n=1:=by omega
   subst hn1;have d:ky key p 1<ky key p 0:=by
    rcases a4 with z|z
    ·exact absurd z hne
    ·exact z
   unfold PySem.W.kas_descPart;rw[PySem.W.KasT.kasWp_bind];refine wf hinj hc h (le_refl N) (N-(1+1)) (1+1) (by omega) (by omega) (fun i j hij hj=>?_) fun m b1 b2 b3=>?_
   ·have:i=0:=by omega
    have:j=1:=by omega
    subst i;subst j;exact d
   ·rw[if_neg (by show ¬(0>0);decide)]
    exact Ax hinj hc h (show 1<=m from Nat.le_trans (by decide) b1) b2 b3 q
include hinj hc in
theorem mn{p:Array Nat}(h:Pm N p){Q:Nat->Shared->Prop}{k:Nat}(hk:k<N)(up:Up key p k):∀(f l r:Nat),r-l<=f->l<=r->r<=k->(∀i,i<l->ky key p i<ky key p k)->(∀i,r<=i->i<k->ky key p k<ky key p i) ->
  (∀l',l'<=k->(∀i,i<l'->ky key p i<ky key p k)->(∀i,l'<=i->i<k->ky key p k<ky key p i)->Q l' s)->(kas_place p k f l r).kasWp cmp Q s
 | 0,l,r,hf,hlr,hr,lo,hi,q=>q l (by omega) lo fun i h1 h2=>hi i (by omega) h2
 |f+1,l,r,hf,hlr,hr,lo,hi,q=>by
  unfold kas_place;by_cases e:l>=r
  ·rw[if_pos e]
   exact q l (by omega) lo fun i h1 h2=>hi i (by omega) h2
  ·rw[if_neg e]
   refine nI hc h (by omega) k ((l+r)/2) hk (by omega) (by omega) ?_;have ne:=zd hinj h (i:=k) (j:=(l+r)/2) hk (by omega) (by omega);by_cases d:ky key p k<ky key p ((l+r)/2)
   ·rw[decide_eq_true d,if_pos rfl]
    refine mn h hk up f l ((l+r)/2) (by omega) (by omega) (by omega) lo (fun i h1 h2=>?_) q;by_cases z:i=(l+r)/2
    ·subst z;exact d
    ·have:=up ((l+r)/2) i (by omega) h2;omega
   ·rw[decide_eq_false d,if_neg (by decide)]
    refine mn h hk up f ((l+r)/2+1) r (by omega) (by omega) hr (fun i h1=>?_) hi q;by_cases z:i=(l+r)/2
    ·subst z;omega
    ·have:=up i ((l+r)/2) (by omega) (by omega);omega
theorem zU{p:Array Nat}(h:Pm N p){k d:Nat}(hk:k<N)(hd:d<=k)(i:Nat):ky key (bubble p k d) i=if i=k-d then ky key p k else if k-d<i/\i<=k then ky key p (i-1)else ky key p i:=by
 have e:=getElem?_bubble (xs:=p) (src:=k) (by rw[h.size];exact hk) d hd i;unfold ky;by_cases h1:i=k-d
 ·rw[if_pos h1]at e ⊢
  rw[jF e]
 ·rw[if_neg h1]at e ⊢
  by_cases h2:k-d<i/\i<=k
  ·rw[if_pos h2]at e ⊢
   rw[jF e]
  ·rw[if_neg h2]at e ⊢
   rw[jF e]
include hinj hc in
theorem zV{Q:Array Nat->Shared->Prop}(q:∀p',Pm N p'->Up key p' N->Q p' s):∀(f:Nat) (p:Array Nat) (k:Nat),k+f=N->Pm N p->Up key p k->(kas_bin f p k).kasWp cmp Q s
 | 0,p,k,hf,h,up=>q p h (by rw[show N=k by omega];exact up)
 |f+1,p,k,hf,h,up=>by
  unfold kas_bin;rw[PySem.W.KasT.kasWp_bind];refine mn hinj hc h (by omega) up k 0 k (by omega) (zero_le _) (le_refl _) (fun i hi=>by omega) (fun i h1 h2=>by omega) fun l hl lo hi=>?_
  refine zV q f (bubble p k (k-l)) (k+1) (by omega) (h.of (bubble_perm _ _ _)) fun i j hij hj=>?_
  rw[zU h (by omega) (by omega),zU h (by omega) (by omega),show k-(k-l)=l by omega];by_cases i1:i=l
  ·rw[if_pos i1,if_neg (by omega),if_pos (by omega)]
   exact hi (j-1) (by omega) (by omega)
  ·rw[if_neg i1]
   by_cases j1:j=l
   ·rw[if_pos j1,if_neg (by omega)]
    exact lo i (by omega)
   ·rw[if_neg j1]
    by_cases i2:l<i/\i<=k
    ·rw[if_pos i2,if_pos (by omega)]
     exact up (i-1) (j-1) (by omega) (by omega)
    ·rw[if_neg i2]
     by_cases j2:l<j/\j<=k
     ·rw[if_pos j2]
      by_cases z:i=j-1
      ·omega
      ·exact up i (j-1) (by omega) (by omega)
     ·rw[if_neg j2]
      exact up i j hij (by omega)
include hinj hc in
theorem AT(hN:2<=N){Q:Array Nat->Shared->Prop}(q:∀p',Pm N p'->Up key p' N->Q p' s):(kas_sort N).kasWp cmp Q s:=by
 unfold kas_sort;rw[PySem.W.KasT.kasWp_bind];refine zS hinj hc (p:=List.toArray (List.range N)) ⟨List.Perm.refl _⟩ hN fun m p a1 a2 a3 a4=>?_
 dsimp only;by_cases e:m<N
 ·rw[if_pos e]
  rw[show max m 1=m by omega];exact zV hinj hc q (N-m) p m (by omega) a3 a4
 ·rw[if_neg e]
  exact q p a3 (by rw[show N=m by omega];exact a4)
end
section
variable{prog:Program}{w:World}{A:Around}{E:Value->Shared->Prop}{s:Shared}
def PairsAt(h:Heap)(key:Nat->Int)(vs:List Value):Prop:=∀(j:Nat) (v:Value),vs[j]? = some v->∃b t y,v=.ref b/\h.get? b=some { cls:=.type "tuple",data:=.seq #[.int (key j) t,y] }
theorem PairsAt.keeps{h h':Heap}{key:Nat->Int}{vs:List Value}(x:PairsAt h key vs)(k:∀b o,o.cls=.type "tuple" -> h.get? b=some o->h'.get? b=some o):PairsAt h' key vs:=fun j v e=>by
 obtain⟨b,t,y,e1,e2⟩:=x j v e;exact⟨b,t,y,e1,k b _ rfl e2⟩
theorem mq{h:Heap}:∀{vs:List Value} {key:Nat->Int},PairsAt h key vs->∃fs:List Value,fs.length=vs.length/\PySem.W.KatTups h vs fs/\∀v∈fs,∃i t,v=Value.int i t
 |[],key,_=>⟨[],rfl,trivial,fun v h=>by cases h⟩
 |v::vs,key,x=>by
  obtain⟨b,t,y,rfl,e⟩:=x 0 v rfl;obtain⟨fs,h1,h2,h3⟩:=mq (vs:=vs) (key:=fun j=>key (j+1)) fun j u q=>x (j+1) u q
  refine⟨.int (key 0) t::fs,by rw[length_cons,length_cons,h1],⟨⟨b,_,_,_,rfl,e,rfl,rfl,rfl⟩,h2⟩,fun u hu=>?_⟩
  rcases List.mem_cons.mp hu with rfl|hu
  ·exact⟨_,_,rfl⟩
  ·exact h3 u hu
theorem yM{κ:SortKind}{key:Nat->Int}{vs:List Value}(hκ:κ = tuples' true)(x:PairsAt s.heap key vs)(hinj:∀i j,i<vs.length->j<vs.length->key i=key j->i=j){i j:Nat}(hi:i<vs.length)(hj:j<vs.length)(hij:i≠j){C:Bool->Shared->Prop}(hC:C (decide (key i<key j)) s):
  kas_ask prog w A κ vs i j C s:=by
 subst hκ;obtain⟨b,t,y,e1,e2⟩:=x i _ (List.getElem?_eq_getElem hi);obtain⟨b',t',y',e1',e2'⟩:=x j _ (List.getElem?_eq_getElem hj);have g1:vs.getD i Value.none=.ref b:=by rw[getD_eq_getElem?_getD,List.getElem?_eq_getElem hi];exact e1
 have g2:vs.getD j Value.none=.ref b':=by rw[getD_eq_getElem?_getD,List.getElem?_eq_getElem hj];exact e1'
 unfold kas_ask;rw[g1,g2];refine PySem.W.kat_lt e2 rfl e2' rfl (PySem.W.kat_cons ?_);have ne:(key i==key j)=false:=beq_eq_false_iff_ne.mpr fun e=>hij (hinj i j hi hj e)
 refine SeqAt.EqAt.int_int (key i) t (key j) t' _ _ _ _ ?_;rw[ne];refine PySem.W.kat_no ?_;exact PySem.W.kat_lt_int hC
theorem nX{a:Addr}{vs:List Value}{key:Nat->Int}{n:Nat}{P:PySem.Fin->Shared->Prop}(ho:s.heap.get? a=some (seqObj "list" vs.toArray n))(x:PairsAt s.heap key vs)(hinj:∀i j,i<vs.length->j<vs.length->key i=key j->i=j)(h64:vs.length<64)
  (h:∀p:Array Nat,Pm vs.length p->Up key p vs.length->P (.done (.ret .none)) { s with heap:=sortedHeap s.heap a vs (List.toArray (p.toList.map fun i=>vs.getD i Value.none)) }) :
  wpAny (model prog w) A (Builtin.«list.sort» ⟨[.ref a],[]⟩) P E s:=by
 rw[list_sort_plain];have ha:a<s.heap.objs.size:=lt_size ho;refine wpAny_bind (listItems_at ho rfl ?_);refine wpAny_bind (listUpdate_at ho rfl ?_);obtain⟨e1,ho1⟩:∃e1,(s.heap.update a (Obj.mapSeq fun _=>#[])).get? a=some (seqObj "list" #[] e1):=⟨_,get?_update_seq ho (fun _=>#[])⟩;refine wpAny_bind (seqEpoch_at ho1 rfl ?_);refine wpAny_bind (wpAny_newTuple ?_);refine wpAny_bind (wpAny_newList ?_);refine wpAny_holding ?_;have ho6:(((s.heap.update a (Obj.mapSeq fun _=>#[])).push (seqObj "tuple" vs.toArray 0)).push (seqObj "list" #[] 0)).get? a=some (seqObj "list" #[] e1):=get?_push_of_some _ (get?_push_of_some _ ho1);have kp:∀b o,o.cls=.type "tuple" -> s.heap.get? b=some o->(((s.heap.update a (Obj.mapSeq fun _=>#[])).push (seqObj "tuple" vs.toArray 0)).push (seqObj "list" #[] 0)).get? b=some o:=fun b o hc eo=>by
  have hb:b≠a:=fun z=>by
   subst z;rw[ho]at eo;cases eo;exact absurd hc (by intro z;injection z with z;exact absurd z (by decide))
  exact get?_push_of_some _ (get?_push_of_some _ (bC hb eo))
 have x6:=x.keeps kp;show wpAny (model prog w) A _ P E { s with heap:=((s.heap.update a (Obj.mapSeq fun _=>#[])).push (seqObj "tuple" vs.toArray 0)).push (seqObj "list" #[] 0) };dsimp only;have fin:∀p:Array Nat,Pm vs.length p->Up key p vs.length->∀st':SortSt,(arrOf st').map (·.2)=List.toArray (p.toList.map fun i=>vs.getD i Value.none)->failedOf st'=none ->
   wpAny (model prog w) A (do
    let sorted:=(arrOf st').map (·.2)
    let touched:=(<-seqEpoch a) != e1
    Builtin.List.listUpdate (.ref a) fun _=>sorted
    if let some e:=failedOf st' then rule "list.sort.comparison-raised";throw e
    if touched then rule "list.sort.modified";raiseError "ValueError" "list modified during sort"
    ret .none) P E { s with heap:=((s.heap.update a (Obj.mapSeq fun _=>#[])).push (seqObj "tuple" vs.toArray 0)).push (seqObj "list" #[] 0) }:=fun p hp hu st' ha' hf=>by
  have hsz:(List.toArray (p.toList.map fun i=>vs.getD i Value.none)).size=vs.length:=by rw[List.size_toArray,length_map,length_toList,hp.size]
  refine wpAny_bind (seqEpoch_at ho6 rfl ?_);refine wpAny_bind (listUpdate_at ho6 rfl ?_ (hsz2:=by rw[ha',hsz,sizeLine_eq];omega));rw[hf,ha'];simp only[bne_self_eq_false,Bool.false_eq_true,if_false];exact wpAny_pure (h p hp hu)
 by_cases h2:vs.toArray.size<2
 ·rw[if_pos h2,if_pos h2]
  refine wpAny_bind (wpAny_pure ?_);rw[StateT.run_pure];refine wpAny_bind (wpAny_pure ?_);refine fin (List.toArray (List.range vs.length)) ⟨List.Perm.refl _⟩ (fun i j hij hj=>by simp at h2;omega) (SortSt.mk' general' (vs.toArray.zip vs.toArray) #[] 7 none) ?_ rfl;apply Array.toList_inj.mp;show((vs.toArray.zip vs.toArray).map (·.2)).toList=_;rw[Array.toList_map,Array.toList_zip];apply ext_getElem?;intro k;by_cases hk:k<vs.length
  ·simp[hk,getD_eq_getElem?_getD]
  ·simp[hk]
 ·rw[if_neg h2,if_neg h2]
  have hn2:2<=vs.length:=by simp at h2;omega
  obtain⟨fs,f1,f2,f3⟩:=mq x6;refine wpAny_bind (PySem.W.kat_kind (s:={ s with heap:=((s.heap.update a (Obj.mapSeq fun _=>#[])).push (seqObj "tuple" vs.toArray 0)).push (seqObj "list" #[] 0) }) (T:=.type "int") f2 (by omega) (fun v hv=>?_) (by decide) ?_)
  ·obtain⟨i,t,rfl⟩:=f3 v hv
   exact PySem.W.Looks.of_pure rfl
  ·refine wpAny_bind (wpAny_mono (PySem.W.kat_run (s:={ s with heap:=((s.heap.update a (Obj.mapSeq fun _=>#[])).push (seqObj "tuple" vs.toArray 0)).push (seqObj "list" #[] 0) })
    (Q:=fun st' s'=>∃p:Array Nat,Pm vs.length p/\Up key p vs.length/\(arrOf st').map (·.2)=List.toArray (p.toList.map fun i=>vs.getD i Value.none)/\failedOf st'=none/\s'={ s with heap:=((s.heap.update a (Obj.mapSeq fun _=>#[])).push (seqObj "tuple" vs.toArray 0)).push (seqObj "list" #[] 0) })
    (G:=fun p s'=>Pm vs.length p/\Up key p vs.length/\s'={ s with heap:=((s.heap.update a (Obj.mapSeq fun _=>#[])).push (seqObj "tuple" vs.toArray 0)).push (seqObj "list" #[] 0) })
    (ks:=vs) (vs:=vs) rfl hn2 h64 (fun p st' s' a1 a2 a3 a4=>⟨p,a4.1,a4.2.1,PySem.W.kat_snds rfl a2,a3,a4.2.2⟩) ?_) ?_ fun _ _ e=>e)
   ·exact AT hinj (fun i j hi hj hij C hC=>yM rfl x6 hinj hi hj hij hC) hn2 fun p hp hu=>⟨hp,hu,rfl⟩
   ·rintro⟨⟨⟩,st'⟩ s' ⟨p,hp,hu,har,hf,rfl⟩
    exact fin p hp hu st' har hf
end
noncomputable def uD(es:List (aG×D))(l:List Int):List D:=(aW l).map fun k=>.tuple [.int k,(dW es (.inl k)).getD .none]
noncomputable def jv(i:Nat):Dv->Option D:=fun δ=>(ud δ[i]?).bind fun es=>(iT es).bind fun l=>if l.length<64/\l.Nodup then some (.list (uD es l))else none
section
variable{X:Cx}{o:Expr}{p pos apos cpos:Pos}{td:TE}
def Ay(td:TE):TE:=fun σ H Q=>td σ H fun x H1=>∃(a:Addr) (kvs:List (aG×V)) (ns:List Int),x=V.ref a/\H1 a=some (.dK kvs)/\kvs.map (·.1)=ns.map Sum.inl/\ns.length<64/\ns.Nodup /\
 ∀(H':Hp) (l:Addr) (as:List Addr) (q:Array Nat),(∀b,H1 b≠none->H' b=H1 b)->H1 l=none->Pm ns.length q->Up (fun j=>ns.getD j 0) q ns.length->as.length=ns.length->H' l=some (.lst (q.toList.map fun i=>V.ref (as.getD i 0))) ->
  (∀(j:Nat) (b:Addr),as[j]? = some b->H1 b=none/\∃k v,ns[j]? = some k/\kvs[j]? = some (.inl k,v)/\H' b=some (.tup [.int k,v]))->Q (.ref l) H'
theorem Ez{ns:List Int}(h:ns.Nodup):∀i j,i<ns.length->j<ns.length->ns.getD i 0=ns.getD j 0->i=j:=fun i j hi hj e=>by
 rw[getD_eq_getElem?_getD,getD_eq_getElem?_getD,List.getElem?_eq_getElem hi,List.getElem?_eq_getElem hj]at e;have pw:=List.pairwise_iff_getElem.mp h;rcases Nat.lt_trichotomy i j with q|q|q
 ·exact absurd e (pw i j hi hj q)
 ·exact q
 ·exact absurd e.symm (pw j i hj hi q)
theorem ze{κ:Type}:∀(kvs:List (κ × V)) (vs:List (κ × Value)) (j:Nat) (k:κ) (u:Value),KV kvs vs->vs[j]? = some (k,u)->∃v,kvs[j]? = some (k,v)/\RelV v u
 |[],vs,j,k,u,h,e=>by cases h;simp at e
 |p::kvs,[],j,k,u,h,e=>by simp at e
 |p::kvs,r::vs,0,k,u,h,e=>by
  cases h with
  |cons a b=>
   have e:r=(k,u):=by simpa using e
   subst e;obtain⟨a1,a2⟩:=a;obtain⟨k',v⟩:=p;have a1:k'=k:=a1;subst a1;exact⟨v,rfl,a2⟩
 |p::kvs,r::vs,j+1,k,u,h,e=>by
  cases h with
  |cons a b=>
   obtain⟨v,h1,h2⟩:=ze kvs vs j k u b (by simpa using e);exact⟨v,by simpa using h1,h2⟩
theorem Ey:∀{l:List Int},l.Nodup->(l.map (Sum.inl:Int->aG)).Nodup:=fun{l} h=>by
 show List.Pairwise _ _;rw[List.pairwise_map];exact List.Pairwise.imp (fun hne z=>hne (by cases z;rfl)) h
theorem vY:∀{es:List (aG×D)} {i:Nat} {k:aG} {d:D},(es.map (·.1)).Nodup->es[i]? = some (k,d)->dW es k=some d
 |[],i,k,d,_,h=>by simp at h
 |e::es,0,k,d,nd,h=>by
  have h:e=(k,d):=by simpa using h
  subst h;simp[dW,find?_cons]
 |e::es,i+1,k,d,nd,h=>by
  have h:es[i]? = some (k,d):=by simpa using h
  rw[map_cons]at nd;obtain⟨n1,n2⟩:=List.nodup_cons.mp nd;have ne:¬e.1=k:=fun z=>n1 (by rw[z];exact List.mem_map.mpr ⟨(k,d),List.mem_of_getElem? h,rfl⟩)
  have:=vY n2 h;unfold dW at this ⊢;rw[find?_cons,decide_eq_false ne];exact this
theorem wU(hc:X.calm=true)(hg:Gl X "sorted")(hm:X.mg "sorted" = none)(ho:PE X o td)
  (hbase:attributeBase o "items" X.env (eval o X.env)=eval o X.env:=by rfl) (hline:(apos.endLine==cpos.line)=true:=by rfl)
  (he:starEach [.Call (.Attribute o "items" apos) [] [] cpos] X.env=(false,eval (.Call (.Attribute o "items" apos) [] [] cpos) X.env)::starEach [] X.env:=by rfl) (hpl:(backTo pos (starEach [] X.env)).any (·.1)=false:=by rfl) :
  PE X (.Call (.Name "sorted" p) [.Call (.Attribute o "items" apos) [] [] cpos] [] pos) (Ay td):=by
 intro pins s σ H Q I h;refine wpAny_Call_Name_kw (fH I hg hm (u:=.builtin "sorted") (by decide +kernel) ?_ (by decide) (by decide));refine PyProof.Rows.callWith_builtin1 ?_ he hpl;rw[he];show wpAny _ _ (spliced ((false,eval _ X.env)::backTo pos (starEach [] X.env))) _ _ s;refine Calls.spliced_cons ?_;refine wpAny_Call_method0_late hbase hline (b0 (ho pins s σ H _ I h) fun v s1 ⟨x,H1,I1,r1,q1⟩=>?_)
 obtain⟨a,kvs,ns,e1,ha,hk,h64,nd,q⟩:=q1;subst e1;cases r1;obtain⟨t1,t2,_⟩:=zj I1 (.inl ⟨kvs,.inl ha⟩);obtain⟨z,hlo,vs,rel,dd⟩:=jK I1.hok (.inl ha);refine⟨"dict","dict.items",PySem.F.plainAttrs_dict,PySem.F.slot_dict_items,PySem.F.type_dict_items,t1,t2,Calls.callWith_builtin rfl (PySem.evalArgs_none ?_)⟩;refine call_meetsIn PySem.F.slot_dict_items dd.typeIs PySem.F.entry_dict_items (PySem.F.args_dict_items_1 _) (meets_dict_items (aJ X.prog X.w) a hlo) ⟨⟨vs,dd⟩,?_⟩;refine Calls.spliced_nil ?_;have hln:vs.length=ns.length:=by
  have:=congrArg List.length hk;simp only[length_map]at this;rw[<-rel.length,this]
 have dd1:=dd.push { cls:=.type "dict_items",data:=.fields #[.ref a] };obtain⟨ep,dat⟩:=dd1.dictAt;refine Calls.call_function_entry kind_sorted plain_sorted entry_sorted (args_sorted1 _) ?_;unfold Builtin.«sorted»;refine wpAny_bind (m:=checkCount "sorted" 1 1 _) (wpAny_pure ?_);refine wpAny_bind (PySem.W.kdx_collect (A:=X.A.in1) (knd:=aJ X.prog X.w) (kvs:=vs) (ep:=ep) (d:=a) (I1.ok.hd hc) ⟨_,get?_push_size _ rfl,rfl,rfl⟩ dat (by rw[hln,sizeLine_eq];omega) fun h' tk as hk' hal hG=>?_)
 dsimp only at hk' hG ⊢;have hasn:as.length=ns.length:=by rw[hal,hln]
 have kv:vs.map (·.1)=ns.map Sum.inl:=by rw[qy rel];exact hk
 have at_:∀(j:Nat) (b:Addr),as[j]? = some b->∃k t u,ns[j]? = some k/\vs[j]? = some (.inl k,u)/\h'.get? b=some { cls:=.type "tuple",data:=.seq #[.int k t,u] }:=fun j b eb=>by
  obtain⟨ky,k,u,e1,e2,e3⟩:=hG.pairs j b eb;have e4:(vs.map (·.1))[j]? = some k:=by rw[getElem?_map,e1];rfl
  rw[kv,getElem?_map]at e4;cases e5:ns[j]? with
  |none=>rw[e5]at e4;cases e4
  |some i=>
   rw[e5]at e4;have e4:Sum.inl i=k:=by simpa using e4
   subst e4;rcases bB (show kz (.inl i) ky=true from e2)with⟨i',t,q1,rfl⟩|⟨y,t,q1,rfl⟩
   ·cases q1
    exact⟨i,t,u,rfl,e1,e3⟩
   ·cases q1
 refine wpAny_bind (wpAny_newList ?_ (by rw[length_map,hasn,sizeLine_eq];omega));have hoL:(h'.push (seqObj "list" (as.map Value.ref).toArray 0)).get? h'.objs.size=some (seqObj "list" (as.map Value.ref).toArray 0):=get?_push_size _ rfl;have pa:PairsAt (h'.push (seqObj "list" (as.map Value.ref).toArray 0)) (fun j=>ns.getD j 0) (as.map Value.ref):=fun j v ev=>by
  rw[getElem?_map]at ev;cases eb:as[j]? with
  |none=>rw[eb]at ev;cases ev
  |some b=>
   rw[eb]at ev;cases ev;obtain⟨k,t,u,e1,e2,e3⟩:=at_ j b eb;have ek:ns.getD j 0=k:=by rw[getD_eq_getElem?_getD,e1];rfl
   refine⟨b,t,u,rfl,?_⟩;show _=some ({ cls:=.type "tuple",data:=.seq #[.int (ns.getD j 0) t,u] }:Obj);rw[ek];exact get?_push_of_some _ e3
 have hlv:(as.map Value.ref).length=ns.length:=by rw[length_map,hasn]
 refine wpAny_bind (wpAny_holding (wpAny_call_entry slot_list_sort ⟨_,hoL,rfl⟩ entry_list_sort (nX hoL pa (by rw[hlv];exact Ez nd) (by rw[hlv];exact h64) fun q' hp hu=>⟨_,rfl,?_⟩) (args_list_sort _)))
 refine wpAny_pure ⟨_,rfl,?_⟩;rw[hlv]at hp hu;generalize hout:List.toArray (q'.toList.map fun i=>(as.map Value.ref).getD i Value.none)=out
 have I2:Inv X pins σ H1 { s1 with heap:=h',toks:=tk }:=I1.kept fun b o eo=>hk' b o (get?_push_of_some _ eo)
 have kp:∀b o,h'.get? b=some o->(sortedHeap (h'.push (seqObj "list" (as.map Value.ref).toArray 0)) h'.objs.size (as.map Value.ref) out).get? b=some o:=fun b o eo=>by
  have hb:b≠h'.objs.size:=ne_of_lt (lt_size eo);exact bC hb (get?_push_of_some _ (get?_push_of_some _ (bC hb (get?_push_of_some _ eo))))
 obtain⟨e1,ho1⟩:∃e1,((h'.push (seqObj "list" (as.map Value.ref).toArray 0)).update h'.objs.size (Obj.mapSeq fun _=>#[])).get? h'.objs.size=some (seqObj "list" #[] e1):=⟨_,get?_update_seq hoL (fun _=>#[])⟩;have ho2:=get?_push_of_some (seqObj "list" #[] 0) (get?_push_of_some (seqObj "tuple" (as.map Value.ref).toArray 0) ho1);have ho3:=get?_update_seq ho2 (fun _=>out);generalize hts:((List.range ns.length).map fun j=>[V.int (ns.getD j 0),((kvs[j]?).map (·.2)).getD V.non])=ts
 have lo_:∀(j:Nat) (b:Addr),as[j]? = some b->s1.heap.objs.size<b:=fun j b eb=>by
  have:=hG.above b (List.mem_of_getElem? eb);rw[size_push]at this;exact Nat.lt_of_lt_of_le (lt_succ_self _) (Nat.le_of_lt this)
 have fr:∀(j:Nat) (b:Addr),as[j]? = some b->H1 b=none/\b≠h'.objs.size/\s1.heap.objs.size<=b:=fun j b eb=>by
  obtain⟨_,_,_,_,_,e3⟩:=at_ j b eb;exact⟨I1.hok.fresh (Nat.le_of_lt (lo_ j b eb)),ne_of_lt (lt_size e3),Nat.le_of_lt (lo_ j b eb)⟩
 have hD:H1 h'.objs.size=none:=I2.hok.fresh (le_refl _);have tsat:∀(j:Nat) (b:Addr),as[j]? = some b->∃k v u t,ns[j]? = some k/\kvs[j]? = some (.inl k,v)/\ts[j]? = some [V.int k,v]/\RelV v u/\h'.get? b=some { cls:=.type "tuple",data:=.seq #[.int k t,u] }:=fun j b eb=>by
  obtain⟨k,t,u,e1,e2,e3⟩:=at_ j b eb;obtain⟨v,e4,e5⟩:=ze kvs vs j _ u rel e2;have hj:j<ns.length:=(List.getElem?_eq_some_iff.mp e1).1;refine⟨k,v,u,t,e1,e4,?_,e5,e3⟩;rw[<-hts,getElem?_map,List.getElem?_range hj];show some [V.int (ns.getD j 0),((kvs[j]?).map (·.2)).getD V.non]=_;rw[e4,getD_eq_getElem?_getD,e1];rfl
 have ext:∀b,H1 b≠none->(fun b=>if H1 b≠none then H1 b else if b=h'.objs.size then some (HO.lst (q'.toList.map fun i=>V.ref (as.getD i 0)))else p4 as ts b) b=H1 b:=fun b hb=>if_pos hb
 have le1:s1.heap.objs.size<=h'.objs.size:=by
  have v:=hk' s1.heap.objs.size _ (get?_push_size _ rfl);exact Nat.le_of_lt (lt_size v)
 have qlt:∀i∈q'.toList,i<ns.length:=fun i hi=>List.mem_range.mp (hp.perm.mem_iff.mp hi)
 have gv:∀i,i<ns.length->(as.map Value.ref).getD i Value.none=Value.ref (as.getD i 0):=fun i hi=>by
  rw[getD_eq_getElem?_getD,getElem?_map,getD_eq_getElem?_getD,List.getElem?_eq_getElem (by rw[hasn];exact hi)];rfl
 have L:=xn (h':=sortedHeap (h'.push (seqObj "list" (as.map Value.ref).toArray 0)) h'.objs.size (as.map Value.ref) out) (t':=tk) I1 (fun b o eo=>kp b o (hk' b o (get?_push_of_some _ eo))) ext fun b o nb eb=>by
  simp only[nb,ne_eq,not_true,if_false]at eb;split at eb
  ·rename_i ebs
   subst ebs;cases eb;refine⟨le1,show ObjOk X.prog X.w _ _ _ (.lst (q'.toList.map fun i=>V.ref (as.getD i 0)))from ⟨by rw[length_map,length_toList,hp.size,sizeLine_eq];omega,out.toList,_,?_,by rw[toArray_toList];exact ho3⟩⟩
   rw[<-hout];show Vals _ (q'.toList.map fun i=>(as.map Value.ref).getD i Value.none)
   have key:∀l:List Nat,(∀i∈l,i<ns.length)->Vals (l.map fun i=>V.ref (as.getD i 0)) (l.map fun i=>(as.map Value.ref).getD i Value.none):=fun l=>by
    induction l with
    |nil=>intro _;exact .nil
    |cons x l ih=>
     intro hx;exact .cons (gv x (hx x mem_cons_self)) (ih fun i hi=>hx i (mem_cons_of_mem _ hi))
   exact key _ qlt
  ·obtain⟨j,t,h1',h2',rfl⟩:=oK eb
   obtain⟨_,_,g⟩:=fr j b h1';obtain⟨k,v,u,tt,_,_,e3,e4,e5⟩:=tsat j b h1';rw[e3]at h2';cases h2';exact⟨g,show ObjOk X.prog X.w _ _ _ (.tup [V.int k,v])from ⟨by rw[sizeLine_eq];show 2<=16777216;decide,[.int k tt,u],.cons ⟨tt,rfl⟩ (.cons e4 .nil),⟨_,kp b _ e5,rfl,_,rfl⟩,_,kp b _ e5,rfl⟩⟩
 refine⟨.ref h'.objs.size,_,L,rfl,q _ _ as q' ext hD hp hu hasn (by simp[hD]) fun j b eb=>?_⟩
 obtain⟨g1,g2,g3⟩:=fr j b eb;obtain⟨k,v,u,tt,e1,e2,e3,_,_⟩:=tsat j b eb;exact⟨g1,k,v,e1,e2,by simp only[g1,ne_eq,not_true,if_false];rw[if_neg g2];exact rQ hG.rise eb e3⟩
theorem xy(i:Nat){x:Str}{p3:Pos}(hg:Gl X "sorted")(hm:X.mg "sorted" = none)(hc:X.calm=true:=by rfl)(hN:X.N[i]? = some x:=by rfl)(hv:nO X.env.scope x:=by first|exact Or.inl rfl|exact Or.inr (Or.inl rfl)|exact Or.inr (Or.inr rfl))(hd:(x==("__debug__":Str))=false:=by decide)(hcd:(x==("__classdict__":Str))=false:=by decide)
  (hbase:attributeBase (.Name x p3) "items" X.env (eval (.Name x p3) X.env)=eval (.Name x p3) X.env:=by rfl) (hline:(apos.endLine==cpos.line)=true:=by rfl)
  (he:starEach [.Call (.Attribute (.Name x p3) "items" apos) [] [] cpos] X.env=(false,eval (.Call (.Attribute (.Name x p3) "items" apos) [] [] cpos) X.env)::starEach [] X.env:=by rfl) (hpl:(backTo pos (starEach [] X.env)).any (·.1)=false:=by rfl) :
  EV X (.Call (.Name "sorted" p) [.Call (.Attribute (.Name x p3) "items" apos) [] [] cpos] [] pos) (jv i):=
 PE.imp (wU hc hg hm (ca hN hv hd hcd) hbase hline he hpl) fun σ H Q h=>by
  obtain⟨H₀,Z₀,Z,δ,d,hh,e,k⟩:=h;obtain⟨es,e1,e⟩:=bind_some e;obtain⟨l,e2,e⟩:=bind_some e;obtain⟨⟨h64,nd⟩,e⟩:=bg e;cases e;obtain⟨a,kvs,h1,h4,h5⟩:=g9 hh e1;have hkl:kvs.map (·.1)=l.map Sum.inl:=by rw[<-h5.1];exact hX e2
  refine⟨_,h1,a,kvs,l,rfl,h4,hkl,h64,nd,fun H' lo as q' ext hl hp hu hal hl' hpr=>?_⟩
  have n:=New.many (Z:=Z) (H':=H') hh.zh ext;refine k _ _ _ (hh.new n) n.z (.lst (SqL.of (by rw[if_pos hl,hl'];rfl)) ?_);have ei:aW l=q'.toList.map fun i=>l.getD i 0:=by
   refine(iF ?_ ?_).symm
   ·have:=hp.perm.map fun i=>l.getD i 0
    have e:((List.range l.length).map fun i=>l.getD i 0)=l:=by
     apply ext_getElem?;intro j;by_cases hj:j<l.length
     ·rw[getElem?_map,List.getElem?_range hj,List.getElem?_eq_getElem hj]
      show some (l.getD j 0)=_;rw[getD_eq_getElem?_getD,List.getElem?_eq_getElem hj];rfl
     ·rw[getElem?_eq_none (by simp;omega),getElem?_eq_none (by omega)]
    rw[e]at this;exact this
   ·rw[List.pairwise_map,List.pairwise_iff_getElem]
    intro i j hi hj hij;have hz:=hp.size;have:=hu i j hij (by rw[length_toList,hz]at hj;exact hj);unfold ky at this;have e1:q'.getD i 0=q'.toList[i]:=by simp[Array.getD,show i<q'.size by simpa using hi]
    have e2:q'.getD j 0=q'.toList[j]:=by simp[Array.getD,show j<q'.size by simpa using hj]
    rw[e1,e2]at this;exact Int.le_of_lt this
  unfold uD;rw[ei,map_map];have qlt:∀i∈q'.toList,i<l.length:=fun i hi=>List.mem_range.mp (hp.perm.mem_iff.mp hi)
  have key:∀u:List Nat,(∀i∈u,i<l.length)->Reps X.K (fun b=>if H b=none then Fw (H' b)else Z b) (u.map fun i=>V.ref (as.getD i 0)) (u.map ((fun k=>PyData.tuple [.int k,(dW es (.inl k)).getD .none]) ∘ fun i=>l.getD i 0)):=fun u=>by
   induction u with
   |nil=>intro _;exact .nil
   |cons i u ih=>
    intro hx;refine .cons ?_ (ih fun j hj=>hx j (mem_cons_of_mem _ hj))
    have hi:=hx i mem_cons_self;have eb:as[i]? = some (as.getD i 0):=by rw[getD_eq_getElem?_getD,List.getElem?_eq_getElem (by rw[hal];exact hi)];rfl
    obtain⟨g1,k',v,g2,g3,g4⟩:=hpr i _ eb;have el:l.getD i 0=k':=by rw[getD_eq_getElem?_getD,g2];rfl
    have hkv:(kvs.map (·.2))[i]? = some v:=by rw[getElem?_map,g3];rfl
    obtain⟨d,q1,q2⟩:=h5.2.getV hkv;have hek:(es.map (·.1))[i]? = some (.inl k'):=by rw[h5.1,getElem?_map,g3];rfl
    have hes:es[i]? = some (.inl k',d):=by
     rw[getElem?_map]at q1 hek;cases e:es[i]? with
     |none=>rw[e]at q1;cases q1
     |some z=>
      rw[e]at q1 hek;obtain⟨z1,z2⟩:=z;have hek:z1=.inl k':=by simpa using hek
      have q1:z2=d:=by simpa using q1
      rw[hek,q1]
    have hgt:dW es (.inl k')=some d:=vY (by rw[hX e2];exact Ey nd) hes;show Rep _ _ _ (.tuple [.int (l.getD i 0),(dW es (.inl (l.getD i 0))).getD .none]);rw[el,hgt];exact .tup (SqT.of (by rw[if_pos g1,g4];rfl)) (.cons (.int k') (.cons (q2.same n.z) .nil))
  exact key _ qlt
end
theorem qi:typeLookup (.type "tuple") "keys" = pure none:=by rw[typeLookup_type,builtinLookup_eq_fast];kernel_rfl
theorem sf:typeLookup (.type "list") "keys" = pure none:=by rw[typeLookup_type,builtinLookup_eq_fast];kernel_rfl
section
variable{prog:Program}{w:World}{A:Around}{E:Value->Shared->Prop}{s:Shared}
theorem kT{a:Addr}{o:Obj}{xs:Array Value}{k:Nat}{Q:Option Value->Shared->Prop}(hx:s.heap.get? a=some o)(hc:o.cls=.type "tuple")(hdat:o.data=.seq xs k)(hd:o.dict=none)(hA:A.handled=none)
  (h:∀h' tk,(∀b o,s.heap.get? b=some o->h'.get? b=some o)->Q none { s with heap:=h',toks:=tk }):wpAny (model prog w) A (getAttr? (.ref a) "keys") Q E s:=by
 obtain⟨c,dct,dat,sl⟩:=o;simp only at hc hdat hd;subst hc hdat hd;obtain⟨hp,g,d,tk,os⟩:=s;have hT:∀tk',(⟨hp,g,d,tk',os⟩:Shared).TypeIs (.ref a) "tuple":=fun _=>⟨_,hx,rfl⟩
 have f1:=sub_AttributeError;have f3:=PySem.F.slot_tuple_getattribute.lookup;have f4:=PySem.F.slot_tuple_getattribute.bind (.ref a);have f5:=am_tuple_getattr_none;unfold getAttr? getAttrBy? getAttrBy
 repeat (any_goals (first|assumption|exact hT _|((with_reducible show wpAny _ _ (call (Value.builtin "tuple.__getattribute__") _ _) _ _ _);refine call_meets PySem.F.slot_tuple_getattribute (hT _) am_entry_tuple_getattribute (PySem.F.args_tuple_getattribute_2 _ _) (meets_getattribute_miss_tuple a xs k sl "keys" _ qi (by decide +kernel) (by decide +kernel)) ⟨hx,hA,fun h' tk' e hx'=>?_⟩)|wp_step))
 obtain⟨t',u',he⟩:=hx'.there;show wpAny _ _ (getattributeRaised _ _ _ _ _ _ _) _ _ _;unfold getattributeRaised
 repeat (any_goals (first|assumption|wp_step))
 exact h h' tk' hx'.of.keeps
theorem mT{a:Addr}{o:Obj}{xs:Array Value}{k:Nat}{Q:Option Value->Shared->Prop}(hx:s.heap.get? a=some o)(hc:o.cls=.type "list")(hdat:o.data=.seq xs k)(hd:o.dict=none)(hA:A.handled=none)
  (h:∀h' tk,(∀b o,s.heap.get? b=some o->h'.get? b=some o)->Q none { s with heap:=h',toks:=tk }):wpAny (model prog w) A (getAttr? (.ref a) "keys") Q E s:=by
 obtain⟨c,dct,dat,sl⟩:=o;simp only at hc hdat hd;subst hc hdat hd;obtain⟨hp,g,d,tk,os⟩:=s;have hT:∀tk',(⟨hp,g,d,tk',os⟩:Shared).TypeIs (.ref a) "list":=fun _=>⟨_,hx,rfl⟩
 have f1:=sub_AttributeError;have f3:=PySem.F.slot_list_getattribute.lookup;have f4:=PySem.F.slot_list_getattribute.bind (.ref a);have f5:=am_list_getattr_none;unfold getAttr? getAttrBy? getAttrBy
 repeat (any_goals (first|assumption|exact hT _|((with_reducible show wpAny _ _ (call (Value.builtin "list.__getattribute__") _ _) _ _ _);refine call_meets PySem.F.slot_list_getattribute (hT _) am_entry_list_getattribute (PySem.F.args_list_getattribute_2 _ _) (meets_getattribute_miss_list a xs k sl "keys" _ sf (by decide +kernel) (by decide +kernel)) ⟨hx,hA,fun h' tk' e hx'=>?_⟩)|wp_step))
 obtain⟨t',u',he⟩:=hx'.there;show wpAny _ _ (getattributeRaised _ _ _ _ _ _ _) _ _ _;unfold getattributeRaised
 repeat (any_goals (first|assumption|wp_step))
 exact h h' tk' hx'.of.keeps
end
theorem ik:entryFor table "dict.update.loop" = some Builtin.«dict.update.loop»:=entryFor_of_tree (by kernel_rfl)
theorem cw:plainId "dict.update.loop" = true:=by decide +kernel
noncomputable def Ad(kvs:List (aG×Value))(ps:List (aG×Value)):List (aG×Value):=ps.foldl (fun acc p=>stored acc p.1 p.2) kvs
theorem t9(kvs:List (aG×Value))(k:aG)(v:Value):(stored kvs k v).length<=kvs.length+1:=by
 unfold stored;split
 ·rw[length_map];omega
 ·simp
section
variable{prog:Program}{w:World}{A:Around}{R:Result->Shared->Prop}{I:Addr}{fp wr:List Addr}{G:Array GenState->Array GenState->Prop}{n:Nat}{P:Nat->Value->Prop}{St:Nat->Shared->Prop}
theorem rg(W:WalksS prog w A.in1 I fp wr G n P St)(S:Addr)(hSf:S ∉ fp)(res:Value)(ps:List (aG×Value))(hn:ps.length=n)(hz:n<=100000){h₁:Heap}
  (hP:∀i v,P i v->∃b key k u,v=.ref b/\b≠S/\b ∉ wr/\ps[i]? = some (k,u)/\(aJ prog w).is k key=true/\IsTup h₁ b #[key,u]) :
  ∀(m i:Nat) (s:Shared) (kvs:List (aG×Value)),n-i=m->i<=n->St i s->s.heap.DictOf (aJ prog w) S kvs->kvs.length<=i->(∀b o,b≠S->b ∉ wr->h₁.get? b=some o->s.heap.get? b=some o) ->
   (∀s',Moved (S::wr) G s s'->s'.heap.DictOf (aJ prog w) S (Ad kvs (ps.drop i))->R (.ok (.ret res)) s') ->
   codeAny (model prog w) A (.builtin "dict.update.loop" ⟨[.ref S,.ref I,rawInt i,res],[]⟩) R s:=by
 have hSw:S ∉ wr:=fun h=>hSf (W.sub _ h)
 have hsub:∀b∈wr,b∈S::wr:=fun b hb=>mem_cons_of_mem _ hb
 intro m
 induction m with
 |zero=>
  intro i s kvs hk hi hst hS hl hkp hR;have hin:i=n:=by omega
  subst hin;refine codeAny_builtin ik ?_;rw[Around.under_plainId cw _];show wpAny _ A.in1 (pyNext (.ref I) >>= _) _ _ s;refine wpAny_bind (W.done s _ _ hst fun s' hm=>?_);show wpAny _ A.in1 (Builtin.Dict.addKeywords S [] >>= _) _ _ _;refine wpAny_bind (wpAny_pure (wpAny_pure (hR s' (hm.mono hsub) ?_)));rw[List.drop_of_length_le (by omega)];obtain⟨o,es,ep,ho,r⟩:=hS;exact⟨o,es,ep,hm.heap S _ hSw ho,r⟩
 |succ m ih=>
  intro i s kvs hk hi hst hS hl hkp hR;have hlt:i<n:=by omega
  refine codeAny_builtin ik ?_;rw[Around.under_plainId cw _];show wpAny _ A.in1 (pyNext (.ref I) >>= _) _ _ s;refine wpAny_bind (W.item i s _ _ hlt hst fun v s' hv hst' hm=>?_);obtain⟨b,key,k,u,rfl,hbS,hbw,hpi,hkey,o,hb,hbc,nn,hbd⟩:=hP i v hv;have hb':=hm.heap b _ hbw (hkp b _ hbS hbw hb);have hS':s'.heap.DictOf (aJ prog w) S kvs:=by
   obtain⟨o,es,ep,ho,r⟩:=hS;exact⟨o,es,ep,hm.heap S _ hSw ho,r⟩
  refine wpAny_bind (wpAny_holding ?_);refine wpAny_bind (wpAny_tryCatch ?_);unfold Builtin.Dict.pairItems;refine wpAny_bind (wpAny_typeOf (T:="tuple") ⟨o,hb',hbc⟩ ?_);rw[if_pos (by decide)];refine wpAny_bind (wpAny_seqItems hb' hbd (wpAny_pure ?_));show wpAny _ A.in1 (holding [key,u] (dictSet S key u)) _ _ _;refine wpAny_holding (wpAny_dictSet_pairs (hsz:=by rw[sizeLine_eq];omega) hkey hS' fun h' hD hs=>?_)
  have hc:((i:Int)+1)=((i+1:Nat):Int):=by push_cast;rfl
  show wpAny _ A.in1 (again (.builtin "dict.update.loop" ⟨[.ref S,.ref I,rawInt ((i:Int)+1),res],[]⟩)) _ _ _;rw[hc];refine wpAny_pure ⟨plainId_quiet cw _,ih (i+1) _ (stored kvs k u) (by omega) hlt (W.frame _ s' _ _ hst' (le_succ _) fun b hb o e=>hs.extBut b o (fun z=>hSf (z ▸ hb)) e) hD (by have:=t9 kvs k u;omega) (fun b o h1 h2 e=>hs.extBut b o h1 (hm.heap b o h2 (hkp b o h1 h2 e))) fun s'' hm'' hD''=>?_⟩
  refine hR s'' (Moved.trans W.gtrans ((hm.mono hsub).then_heap (le_succ _) fun b o hb e=>hs.extBut b o (fun z=>hb (by rw[z];exact mem_cons_self)) e) hm'') ?_
  have e:ps.drop i=(k,u)::ps.drop (i+1):=by
   obtain⟨hx,hy⟩:=List.getElem?_eq_some_iff.mp hpi;rw[List.drop_eq_getElem_cons hx,hy]
  rw[e];exact hD''
end
mutual
def jy:D->Bool
 |.none=>true
 |.bool _=>true
 |.int _=>true
 |.str _=>true
 |.tuple xs=>lfA xs
 |_=>false
def lfA:List D->Bool
 |[]=>true
 |d::ds=>jy d&&lfA ds
end
noncomputable def sD:Sl->Bool
 |.un=>true
 |.fz d=>jy d
 |.own (.l ds)=>lfA ds
 |_=>false
theorem EJ{xs:List D}(h:jy (.tuple xs)=true):lfA xs=true:=by simpa[jy]using h
theorem jx{d:D}{ds:List D}(h:lfA (d::ds)=true):jy d=true/\lfA ds=true:=by
 rw[<-Bool.and_eq_true_iff];simpa[lfA]using h
theorem BL{xs:List D}(h:jy (.list xs)=true):False:=by simp[jy]at h
theorem vH{xs:List (D×D)}(h:jy (.dict xs)=true):False:=by simp[jy]at h
section
variable{X:Cx}{e c:Expr}{st:Stmt}{sts:List Stmt}{s1 s2:Sf}{f:Dv->Option D}{p pos apos:Pos}
def K5(K:Fg)(f:Sf):TS:=fun D σ H=>∃H₀ Z₀ Z δ r,Hold K H₀ Z₀ Z δ σ H/\f δ = some r/\∀ σ' H' Z',Hold K H₀ Z₀ Z' r.2 σ' H'->r.1.to K Z' D σ' H'
def BE(X:Cx)(sts:List Stmt)(f:Sf):Prop:=PSs X sts (K5 X.K f)
theorem Ij(h:BV X sts s1):BE X sts s1:=PSs.imp h fun D σ H q=>by
 obtain⟨H₀,Z₀,Z,δ,r,hh,e,k⟩:=q;exact⟨H₀,Z₀,Z,δ,r,hh,e,fun σ' H' Z' h' _=>k σ' H' Z' h'⟩
end
noncomputable def FH(δ:Dv):Dv:=δ.map fun s=>if sD s=true then s else .un
theorem lR{K:Fg}{Z Z':Hp}(h:∀b xs,Rd Z b (.tup xs)->Rd Z' b (.tup xs)){b:Addr}{xs:List V}(r:SqT K Z b xs):SqT K Z' b xs:=by
 rcases r with r|r
 ·exact .inl (h b xs r)
 ·exact .inr r
mutual
theorem Rep.lf{K:Fg}{Z Z':Hp}(h:∀b xs,Rd Z b (.tup xs)->Rd Z' b (.tup xs)):∀{v:V} {d:D},Rep K Z v d->jy d=true->Rep K Z' v d
 |_,_,.non,_=>.non
 |_,_,.bl b,_=>.bl b
 |_,_,.int i,_=>.int i
 |_,_,.str x,_=>.str x
 |_,_,.tup q r,hl=>.tup (lR h q) (Reps.lf h r (EJ hl))
 |_,_,.lst q r,hl=>(BL hl).elim
 |_,_,.opq q,hl=>(vH hl).elim
 |_,_,.gdc _ _ _ _,hl=>(vH hl).elim
theorem Reps.lf{K:Fg}{Z Z':Hp}(h:∀b xs,Rd Z b (.tup xs)->Rd Z' b (.tup xs)):∀{vs:List V} {ds:List D},Reps K Z vs ds->lfA ds=true->Reps K Z' vs ds
 |_,_,.nil,_=>.nil
 |_,_,.cons q r,hl=>.cons (Rep.lf h q (jx hl).1) (Reps.lf h r (jx hl).2)
end
noncomputable def kE(Z Z':Hp):Hp:=fun c=>match Z c with
 |some o=>some o
 |none=>Z' c
theorem eG{Z Z':Hp}:Same Z (kE Z Z'):=fun c o e=>by unfold kE;rw[e]
theorem eR{Z Z':Hp}{c:Addr}(e:Z c=none):kE Z Z' c=Z' c:=by unfold kE;rw[e]
def NoL(K:Fg):Prop:=∀a o,K.lookup a=some o->o.cls≠.type "list"
noncomputable def H0:Value->Bool
 |.type s=>s == "list"
 |_=>false
theorem NoL.of{K:Fg}(h:(List.all K fun p=>!H0 p.2.cls)=true):NoL K:=fun a o e hc=>by
 have m:∃b,(b,o)∈K:=by
  clear h
  induction K with
  |nil=>cases e
  |cons q K ih=>
   obtain⟨b,o'⟩:=q;rw[List.lookup_cons]at e;split at e
   ·cases e;exact⟨b,mem_cons_self⟩
   ·obtain⟨c,hm⟩:=ih e;exact⟨c,mem_cons_of_mem _ hm⟩
 obtain⟨b,m⟩:=m;have:=List.all_eq_true.mp h _ m;dsimp only at this;rw[hc]at this;cases this
section
variable{K:Fg}{H₀ Z₀ Z H:Hp}{δ:Dv}{σ:St}
theorem Cg{j:Nat}{s:Sl}(e:(FH δ)[j]? = some s):s=.un\/(δ[j]? = some s/\sD s=true):=by
 unfold FH at e;rw[getElem?_map]at e;cases q:δ[j]? with
 |none=>rw[q]at e;cases e
 |some t=>
  rw[q]at e;have e:(if sD t=true then t else .un)=s:=Option.some.inj e;split at e
  ·subst e;exact .inr ⟨rfl,by assumption⟩
  ·exact .inl e.symm
end
section
variable{prog:Program}{w:World}{A:Around}{E:Value->Shared->Prop}{s:Shared}
theorem kZ{t:Addr}{items:Array Value}{ps:List (aG×Value)}{Q:Value->Shared->Prop}(ht:IsTup s.heap t items)(hnd:NoDi s.heap t)(hh:A.handled=none)(hn:ps.length=items.size)(hz:items.size<=100000)
  (hP:∀(i:Nat) (v:Value),items[i]? = some v->∃b key k u,v=.ref b/\ps[i]? = some (k,u)/\(aJ prog w).is k key=true/\IsTup s.heap b #[key,u])
  (h:∀s':Shared,(∀b o,s.heap.get? b=some o->s'.heap.get? b=some o)->s'.gens=s.gens->s'.drawn=s.drawn->s'.os=s.os->s'.heap.DictOf (aJ prog w) s.heap.objs.size (Ad [] ps)->Q (.ref s.heap.objs.size) s') :
  wpAny (model prog w) A (call (.type "dict") [.ref t]) Q E s:=by
 refine callType_codes (Q₁:=fun obj s₁=>obj=.ref s.heap.objs.size/\s₁ = { s with heap:=s.heap.push { cls:=.type "dict",data:=.dict #[] } }) PySem.F.kt_called_dict (PySem.F.kt_typeCall_dict_1 _) PySem.F.entry_dict_init (kt_code_dict_new _ ⟨rfl,rfl⟩) ?_;rintro obj s₁ ⟨rfl,rfl⟩;have hnew:(s.heap.push { cls:=.type "dict",data:=.dict #[] }).DictOf (aJ prog w) s.heap.objs.size []:=Heap.DictOf.new s.heap;refine⟨hnew.typeIs,PySem.F.args_dict_init_2 _ _,?_⟩;unfold Builtin.«dict.__init__»;refine wpAny_bind ?_;unfold Builtin.Dict.selfAndRest;refine wpAny_bind (wpAny_notOrdered_dict hnew.typeIs ?_);show wpAny _ _ (pure (s.heap.objs.size,[Value.ref t])) _ _ _;refine wpAny_pure ?_;show wpAny _ _ (Builtin.Dict.updateFrom "dict.__init__" s.heap.objs.size (.ref t) [] .none) _ _ _;unfold Builtin.Dict.updateFrom;obtain⟨o,ho,hc,n0,hd⟩:=ht;obtain⟨o',ho',hdn⟩:=hnd;rw[ho]at ho';cases ho';have ho1:=get?_push_of_some { cls:=.type "dict",data:=.dict #[] } ho;refine wpAny_bind (wpAny_typeOf (T:="tuple") ⟨o,ho1,hc⟩ ?_);rw[if_pos (by decide)];refine wpAny_bind (kT ho1 hc hd hdn hh fun h' tk keep=>?_);rw[if_pos (show(none:Option Value).isNone=true from rfl)];refine wpAny_bind (wpAny_rule ?_);have ht1:h'.IsTuple t items:=⟨o,keep _ _ ho1,hc,n0,hd⟩;refine wpAny_bind (wpAny_pyIter_tuple ht1 ?_);have hD1:h'.DictOf (aJ prog w) s.heap.objs.size []:=by
  obtain⟨o2,es,ep,e2,r2⟩:=hnew;exact⟨o2,es,ep,keep _ _ e2,r2⟩
 have old:∀{b:Addr} {o:Obj},s.heap.get? b=some o->h'.get? b=some o:=fun{b o} e=>keep _ _ (get?_push_of_some _ e)
 have lt0:∀{b:Addr} {o:Obj},s.heap.get? b=some o->b≠s.heap.objs.size:=fun{b o} e=>ne_of_lt (lt_size e)
 have lt1:∀{b:Addr} {o:Obj},h'.get? b=some o->b≠h'.objs.size:=fun{b o} e=>ne_of_lt (lt_size e)
 have hSI:s.heap.objs.size≠h'.objs.size:=by
  obtain⟨o2,es,ep,e2,r2⟩:=hD1;exact lt1 e2
 have W:=(Walks.tuple (prog:=prog) (w:=w) (A:=A.in1.in1) hh h'.objs.size t (lt1 (old ho)) items).toS;refine wpAny_pure ⟨plainId_quiet cw _,?_⟩;refine rg W s.heap.objs.size (by simp[hSI];exact fun z=>lt0 ho z.symm) .none ps hn hz (h₁:=h'.push { cls:=.type "tuple_iterator",data:=.fields #[.ref t,.int 0 0] }) (fun i v e=>?_) items.size 0 _ [] rfl (zero_le _) ⟨?_,?_⟩ ?_ (zero_le _) (fun b o _ _ e=>e) fun s' mv dd=>?_
 ·obtain⟨b,key,k,u,rfl,h1,h2,o3,h3,h4⟩:=hP i v e
  exact⟨b,key,k,u,rfl,lt0 h3,by simp;exact lt1 (old h3),h1,h2,o3,get?_push_of_some _ (old h3),h4⟩
 ·exact⟨_,get?_push_size _ rfl,rfl,rfl⟩
 ·exact⟨o,get?_push_of_some _ (keep _ _ ho1),hc,n0,hd⟩
 ·obtain⟨o2,es,ep,e2,r2⟩:=hD1
  exact⟨o2,es,ep,get?_push_of_some _ e2,r2⟩
 ·refine⟨rfl,h s' (fun b o e=>mv.heap b o (by simp;exact⟨lt0 e,lt1 (old e)⟩) (get?_push_of_some _ (old e))) mv.gens mv.drawn mv.os ?_⟩
  simpa using dd
theorem kh{t:Addr}{items:Array Value}{ps:List (aG×Value)}{Q:Value->Shared->Prop}(ht:PlainL s.heap t items)(hh:A.handled=none)(hn:ps.length=items.size)(hz:items.size<=100000)
  (hP:∀(i:Nat) (v:Value),items[i]? = some v->∃b key k u,v=.ref b/\ps[i]? = some (k,u)/\(aJ prog w).is k key=true/\IsTup s.heap b #[key,u])
  (h:∀s':Shared,(∀b o,s.heap.get? b=some o->s'.heap.get? b=some o)->s'.gens=s.gens->s'.drawn=s.drawn->s'.os=s.os->s'.heap.DictOf (aJ prog w) s.heap.objs.size (Ad [] ps)->Q (.ref s.heap.objs.size) s') :
  wpAny (model prog w) A (call (.type "dict") [.ref t]) Q E s:=by
 refine callType_codes (Q₁:=fun obj s₁=>obj=.ref s.heap.objs.size/\s₁ = { s with heap:=s.heap.push { cls:=.type "dict",data:=.dict #[] } }) PySem.F.kt_called_dict (PySem.F.kt_typeCall_dict_1 _) PySem.F.entry_dict_init (kt_code_dict_new _ ⟨rfl,rfl⟩) ?_;rintro obj s₁ ⟨rfl,rfl⟩;have hnew:(s.heap.push { cls:=.type "dict",data:=.dict #[] }).DictOf (aJ prog w) s.heap.objs.size []:=Heap.DictOf.new s.heap;refine⟨hnew.typeIs,PySem.F.args_dict_init_2 _ _,?_⟩;unfold Builtin.«dict.__init__»;refine wpAny_bind ?_;unfold Builtin.Dict.selfAndRest;refine wpAny_bind (wpAny_notOrdered_dict hnew.typeIs ?_);show wpAny _ _ (pure (s.heap.objs.size,[Value.ref t])) _ _ _;refine wpAny_pure ?_;show wpAny _ _ (Builtin.Dict.updateFrom "dict.__init__" s.heap.objs.size (.ref t) [] .none) _ _ _;unfold Builtin.Dict.updateFrom;obtain⟨o,n0,ho,hc,hdn,hd⟩:=ht;have ho1:=get?_push_of_some { cls:=.type "dict",data:=.dict #[] } ho;refine wpAny_bind (wpAny_typeOf (T:="list") ⟨o,ho1,hc⟩ ?_);rw[if_pos (by decide)];refine wpAny_bind (mT ho1 hc hd hdn hh fun h' tk keep=>?_);rw[if_pos (show(none:Option Value).isNone=true from rfl)];refine wpAny_bind (wpAny_rule ?_);have ht1:h'.IsList t items:=⟨o,keep _ _ ho1,hc,n0,hd⟩;refine wpAny_bind (wpAny_pyIter_list ht1 ?_);have hD1:h'.DictOf (aJ prog w) s.heap.objs.size []:=by
  obtain⟨o2,es,ep,e2,r2⟩:=hnew;exact⟨o2,es,ep,keep _ _ e2,r2⟩
 have old:∀{b:Addr} {o:Obj},s.heap.get? b=some o->h'.get? b=some o:=fun{b o} e=>keep _ _ (get?_push_of_some _ e)
 have lt0:∀{b:Addr} {o:Obj},s.heap.get? b=some o->b≠s.heap.objs.size:=fun{b o} e=>ne_of_lt (lt_size e)
 have lt1:∀{b:Addr} {o:Obj},h'.get? b=some o->b≠h'.objs.size:=fun{b o} e=>ne_of_lt (lt_size e)
 have hSI:s.heap.objs.size≠h'.objs.size:=by
  obtain⟨o2,es,ep,e2,r2⟩:=hD1;exact lt1 e2
 have W:=(Walks.list (prog:=prog) (w:=w) (A:=A.in1.in1) hh h'.objs.size t (lt1 (old ho)) items).toS;refine wpAny_pure ⟨plainId_quiet cw _,?_⟩;refine rg W s.heap.objs.size (by simp[hSI];exact fun z=>lt0 ho z.symm) .none ps hn hz (h₁:=h'.push { cls:=.type "list_iterator",data:=.fields #[.ref t,.int 0 0] }) (fun i v e=>?_) items.size 0 _ [] rfl (zero_le _) ⟨?_,?_⟩ ?_ (zero_le _) (fun b o _ _ e=>e) fun s' mv dd=>?_
 ·obtain⟨b,key,k,u,rfl,h1,h2,o3,h3,h4⟩:=hP i v e
  exact⟨b,key,k,u,rfl,lt0 h3,by simp;exact lt1 (old h3),h1,h2,o3,get?_push_of_some _ (old h3),h4⟩
 ·exact⟨_,get?_push_size _ rfl,rfl,rfl⟩
 ·exact⟨o,get?_push_of_some _ (keep _ _ ho1),hc,n0,hd⟩
 ·obtain⟨o2,es,ep,e2,r2⟩:=hD1
  exact⟨o2,es,ep,get?_push_of_some _ e2,r2⟩
 ·refine⟨rfl,h s' (fun b o e=>mv.heap b o (by simp;exact⟨lt0 e,lt1 (old e)⟩) (get?_push_of_some _ (old e))) mv.gens mv.drawn mv.os ?_⟩
  simpa using dd
end
noncomputable def vw:D->Option (aG×D)
 |.tuple [k,v]=>(iP k).bind fun k=>some (k,v)
 |_=>none
noncomputable def i6:List D->Option (List (aG×D))
 |[]=>some []
 |d::ds=>(vw d).bind fun p=>(i6 ds).bind fun ps=>some (p::ps)
noncomputable def pq:D->Option (List (aG×D))
 |.tuple ds=>(i6 ds).bind fun ps=>if ds.length<=1000 then some (ps.foldl (fun acc p=>eQ acc p.1 p.2) [])else none
 |.list ds=>(i6 ds).bind fun ps=>if ds.length<=1000 then some (ps.foldl (fun acc p=>eQ acc p.1 p.2) [])else none
 |_=>none
noncomputable def ui(i:Nat)(f:Dv->Option D):Sf:=fun δ=>(f δ).bind fun d=>(pq d).bind fun es=>some (.nx,δ.set i (.od es))
inductive PairsV (K:Fg) (H:Hp):List V->List (aG×V)->Prop
 |nil:PairsV K H [] []
 |cons {b:Addr} {k:aG} {v:V} {ts:List V} {ps:List (aG×V)}:SqT K H b [kV k,v]->PairsV K H ts ps->PairsV K H (.ref b::ts) ((k,v)::ps)
noncomputable def Ae(ps:List (aG×V)):List (aG×V):=ps.foldl (fun acc p=>eP acc p.1 p.2) []
theorem PairsV.vals{X:Cx}{pins:List (Addr×Obj)}{σ:St}{H:Hp}{s:Shared}(I:Inv X pins σ H s):∀{ts:List V} {ps:List (aG×V)} {us:List Value},PairsV X.K H ts ps->Vals ts us->∃qs:List (aG×Value),KV ps qs/\qs.length=us.length/\∀(i:Nat) (v:Value),us[i]? = some v->∃b key k u,v=.ref b/\qs[i]? = some (k,u)/\(aJ X.prog X.w).is k key=true/\IsTup s.heap b #[key,u]
 |_,_,_,.nil,.nil=>⟨[],.nil,rfl,fun i v e=>by simp at e⟩
 |_,_,_,.cons (b:=b) (k:=k) (v:=v) h r,.cons h1 r1=>by
  obtain⟨qs,g1,g2,g3⟩:=PairsV.vals I r r1;cases h1;obtain⟨its,rr,tp,_⟩:=I.tuple h;obtain⟨a1,a2,rfl,q1,q2⟩:=xP rr;refine⟨(k,a2)::qs,.cons ⟨rfl,q2⟩ g1,by simp[g2],fun i w e=>?_⟩
  cases i with
  |zero=>
   have e:Value.ref b=w:=by simpa using e
   subst e;exact⟨b,a1,k,a2,rfl,rfl,mV q1,tp⟩
  |succ i=>exact g3 i w (by simpa using e)
theorem EL{ps:List (aG×V)}{qs:List (aG×Value)}(r:KV ps qs):∀{kvs:List (aG×V)} {vs:List (aG×Value)},KV kvs vs->KV (ps.foldl (fun acc p=>eP acc p.1 p.2) kvs) (Ad vs qs):=by
 induction r with
 |nil=>intro kvs vs h;exact h
 |cons h r ih=>
  intro kvs vs g;obtain⟨h1,h2⟩:=h;refine ih ?_;dsimp only;rw[<-h1];exact g.put _ h2
theorem vL:∀(ps:List (aG×V)) (kvs:List (aG×V)),(ps.foldl (fun acc p=>eP acc p.1 p.2) kvs).length<=kvs.length+ps.length
 |[],kvs=>le_refl _
 |p::ps,kvs=>by
  have:=vL ps (eP kvs p.1 p.2);have:=fq kvs p.1 p.2;show(ps.foldl _ (eP kvs p.1 p.2)).length<=_;rw[length_cons];omega
theorem PairsV.length{K:Fg}{H:Hp}{ts:List V}{ps:List (aG×V)}(h:PairsV K H ts ps):ps.length=ts.length:=by
 induction h with
 |nil=>rfl
 |cons _ _ ih=>simp[ih]
section
variable{X:Cx}
theorem uQ(hc:X.calm=true):CallR X (.type "dict") (fun xs H Q=>∃a ts ps,xs=[V.ref a]/\(SqT X.K H a ts\/SqL X.K H a ts)/\PairsV X.K H ts ps/\ts.length<=1000/\∀l,H l=none->Q (.ref l) (upd H l (.dK (Ae ps)))):=by
 intro pins s σ H xs us Q I r h;obtain⟨a,ts,ps,rfl,ha,hp,hl,q⟩:=h;obtain⟨u,rfl,ru⟩:=gJ r;cases ru;have fin:∀{its:List Value} (r1:Vals ts its) {qs:List (aG×Value)} (g1:KV ps qs) (s':Shared) (kp:∀b o,s.heap.get? b=some o->s'.heap.get? b=some o) (hg:s'.gens=s.gens) (hdr:s'.drawn=s.drawn) (hos:s'.os=s.os) (dd:s'.heap.DictOf (aJ X.prog X.w) s.heap.objs.size (Ad [] qs)),∃v H',Inv X pins σ H' s'/\RelV v (.ref s.heap.objs.size)/\Q v H':=by
  intro its r1 qs g1 s' kp hg hdr hos dd;have hf:H s.heap.objs.size=none:=I.hok.fresh (le_refl _);refine⟨.ref s.heap.objs.size,upd H s.heap.objs.size (.dK (Ae ps)),?_,rfl,q _ hf⟩;have big:=I.big;have L:=I.laid (h':=s'.heap) (a:=s.heap.objs.size) (o:=.dK (Ae ps)) (t':=s'.toks) kp (le_refl _) (uN (by
    have:=vL ps [];have:=hp.length;show(Ae ps).length<=sizeLine;rw[sizeLine_eq];unfold Ae;simp only[List.length_nil]at *;omega) (by rw[beq_eq_false_iff_ne];exact fun z=>lt_irrefl _ (z ▸ big)) (EL g1 .nil) dd)
  obtain⟨hp',g',d',t',o'⟩:=s';obtain⟨hp0,g0,d0,t0,o0⟩:=s;simp only at hg hdr hos;subst hg hdr hos;exact L
 rcases ha with ha|ha
 ·obtain⟨its,r1,tp,_⟩:=I.tuple ha
  obtain⟨qs,g1,g2,g3⟩:=hp.vals I r1;have hlen:=r1.length;have e1:its.toArray.size=its.length:=by simp
  exact kZ tp (I.noDi ha) (I.ok.hd hc) (ps:=qs) (by rw[e1];exact g2) (by rw[e1];omega) (fun i v e=>g3 i v (by simpa using e)) (fin r1 g1)
 ·obtain⟨its,r1,tp,_⟩:=I.list ha
  obtain⟨qs,g1,g2,g3⟩:=hp.vals I r1;have hlen:=r1.length;have e1:its.toArray.size=its.length:=by simp
  exact kh tp (I.ok.hd hc) (ps:=qs) (by rw[e1];exact g2) (by rw[e1];omega) (fun i v e=>g3 i v (by simpa using e)) (fin r1 g1)
theorem Ba{K:Fg}{Z H:Hp}(zh:Same Z H){v:V}{d:D}{p:aG×D}(r:Rep K Z v d)(h:vw d=some p):∃b w,v=.ref b/\SqT K H b [kV p.1,w]/\Rep K Z w p.2:=by
 unfold vw at h;split at h
 rotate_left
 ·cases h
 rename_i dk dv;obtain⟨k,e1,h⟩:=bind_some h;cases h;cases r with
 |tup sq rs=>
  cases rs with
  |cons r1 rs=>
   cases rs with
   |cons r2 rs=>
    cases rs;have:=dU r1 e1;subst this;exact⟨_,_,rfl,SqT.same sq zh,r2⟩
theorem ml{K:Fg}{Z H:Hp}(zh:Same Z H):∀{vs:List V} {ds:List D} {ps:List (aG×D)},Reps K Z vs ds->i6 ds=some ps->∃qs:List (aG×V),PairsV K H vs qs/\qs.map (·.1)=ps.map (·.1)/\Reps K Z (qs.map (·.2)) (ps.map (·.2))
 |_,_,_,.nil,h=>by cases h;exact⟨[],.nil,rfl,.nil⟩
 |_,_,_,.cons r rs,h=>by
  obtain⟨p,e1,h⟩:=bind_some h;obtain⟨ps,e2,h⟩:=bind_some h;cases h;obtain⟨b,w,rfl,g1,g2⟩:=Ba zh r e1;obtain⟨qs,g3,g4,g5⟩:=ml zh rs e2;exact⟨(p.1,w)::qs,.cons g1 g3,by simp[g4],.cons g2 g5⟩
theorem mj{K:Fg}{Z:Hp}:∀{qs:List (aG×V)} {ps:List (aG×D)},qs.map (·.1)=ps.map (·.1)->Reps K Z (qs.map (·.2)) (ps.map (·.2))->∀{kvs:List (aG×V)} {es:List (aG×D)},io K Z kvs es->io K Z (qs.foldl (fun acc p=>eP acc p.1 p.2) kvs) (ps.foldl (fun acc p=>eQ acc p.1 p.2) es)
 |[],[],_,_,kvs,es,h=>h
 |[],_::_,e,_,_,_,_=>by simp at e
 |_::_,[],e,_,_,_,_=>by simp at e
 |q::qs,p::ps,e,r,kvs,es,h=>by
  simp only[map_cons,List.cons.injEq]at e;cases r with
  |cons r1 r2=>
   refine mj e.2 r2 ?_;dsimp only;rw[e.1];exact mh h p.1 r1
theorem AE(i:Nat){x:Str}{e:Expr}{f:Dv->Option D}{p pos pos' cpos:Pos}(hN:X.N.Nodup)(hg:Gl X "dict")(hm:X.mg "dict" = none)(he':EV X e f)(hc:X.calm=true:=by rfl)(hi:X.N[i]? = some x:=by rfl)(hx:pE X.env.scope x:=by first|exact Or.inl rfl|exact Or.inr rfl)
  (he:starEach [e] X.env=(false,eval e X.env)::starEach [] X.env:=by rfl) (hpl:(backTo cpos (starEach [] X.env)).any (·.1)=false:=by rfl)
  (hs:swapsWith (.Call (.Name "dict" p) [e] [] cpos) (some (.Name x pos')) pos.line X.env=pure false:=by rfl)
  (hf:X.fn x=true\/X.env.scope.names.lookup x=some .local:=by first|exact .inl rfl|exact .inr rfl|assumption):SV X (.Assign [.Name x pos'] (.Call (.Name "dict" p) [e] [] cpos) pos) (ui i f):=
 PS.imp (dZ hN hi hx (j4 (uQ hc) hg hm (by decide +kernel) (bK he' cM he) (by decide) (by decide) he hpl) hs hf) fun D σ H h=>by
  obtain⟨H₀,Z₀,Z,δ,r,hh,e,k⟩:=h;obtain⟨d,e1,e⟩:=bind_some e;obtain⟨es,e2,e⟩:=bind_some e;cases e;refine⟨H₀,Z₀,Z,δ,d,hh,e1,fun v Z1 H1 hh1 t1 r1=>?_⟩
  unfold pq at e2;split at e2
  ·rename_i ds
   obtain⟨ps,e3,e2⟩:=bind_some e2;obtain⟨hl,e2⟩:=bg e2;cases e2;cases r1 with
   |tup sq rs=>
    obtain⟨qs,g1,g2,g3⟩:=ml hh1.zh rs e3;refine⟨_,_,qs,rfl,.inl (SqT.same sq hh1.zh),g1,by rw[rs.length];exact hl,fun l hl'=>?_⟩
    exact k _ _ Z1 (hh1.setW hl' (.dct (mj g2 g3 ⟨rfl,.nil⟩))) t1
  ·rename_i ds
   obtain⟨ps,e3,e2⟩:=bind_some e2;obtain⟨hl,e2⟩:=bg e2;cases e2;cases r1 with
   |lst sq rs=>
    obtain⟨qs,g1,g2,g3⟩:=ml hh1.zh rs e3;refine⟨_,_,qs,rfl,.inr (SqL.same sq hh1.zh),g1,by rw[rs.length];exact hl,fun l hl'=>?_⟩
    exact k _ _ Z1 (hh1.setW hl' (.dct (mj g2 g3 ⟨rfl,.nil⟩))) t1
  ·cases e2
end
noncomputable def kr(i:Nat)(fk fv:Dv->Option D):Sf:=fun δ=>(fk δ).bind fun k=>(fv δ).bind fun v=>(iP k).bind fun k=>some (.nx,δ.set i (.od [(k,v)]))
section
variable{K:Fg}{H₀ Z₀ Z H:Hp}{δ:Dv}{σ:St}{p:Addr}{o:HO}
theorem Hold.aside(h:Hold K H₀ Z₀ Z δ σ H)(hp:H p=none)(o:HO):Hold K (upd H₀ p o) Z₀ Z δ σ (upd H p o) where
 zh:=h.zh.trans (di hp)
 h0:=fun b u e=>by
  by_cases hb:b=p
  ·subst hb;rw[ay]at e ⊢;exact e
  ·rw[au hb]at e ⊢;exact h.h0 b u e
 z0:=h.z0
 zb:=fun b hb=>by
  by_cases e:b=p
  ·subst e
   have z1:=jH h.zh hp;rw[z1,eE h.z0 z1]
  ·rw[au e]at hb;exact h.zb b hb
 len:=h.len
 fz:=h.fz
 own:=fun i c e=>by
  obtain⟨a,u,h1,h2,h3,h4,h5⟩:=h.own i c e;have:a≠p:=fun z=>by rw[z,hp]at h4;cases h4
  exact⟨a,u,h1,by rw[au this];exact h2,h3,by rw[au this];exact h4,h5⟩
 dja:=h.dja
 fr:=fun i ds e=>by
  obtain⟨a,xs,h1,h2,h3,h4,h5⟩:=h.fr i ds e;have:a≠p:=fun z=>by have:=h.zh _ _ h4;rw[z,hp]at this;cases this
  exact⟨a,xs,h1,by rw[au this];exact h2,h3,h4,h5⟩
 nf:=h.nf
theorem Hold.inside(h:Hold K (upd H₀ p o) Z₀ Z δ σ H)(h0:H₀ p=none)(hz:Z₀ p=none):H p=some o/\Hold K H₀ Z₀ Z δ σ (fun b=>if b=p then none else H b):=by
 have hzp:Z p=none:=by rw[h.zb p (by rw[ay];intro z;cases z)];exact hz
 refine⟨h.h0 p o ay,fun b u e=>?_,fun b u e=>?_,h.z0,fun b hb=>?_,h.len,h.fz,fun i c e=>?_,h.dja,fun i ds e=>?_,h.nf⟩
 ·show(if b=p then none else H b)=some u
  rw[if_neg (aH e hzp)];exact h.zh b u e
 ·show(if b=p then none else H b)=some u
  have:=aH e h0;rw[if_neg this];exact h.h0 b u (by rw[au this];exact e)
 ·exact h.zb b (by rw[au (fun z=>hb (by rw[z];exact h0))];exact hb)
 ·obtain⟨a,u,h1,h2,h3,h4,h5⟩:=h.own i c e
  have:a≠p:=fun z=>by rw[z,ay]at h2;cases h2
  exact⟨a,u,h1,by rw[au this]at h2;exact h2,h3,by show(if a=p then none else H a)=_;rw[if_neg this];exact h4,h5⟩
 ·obtain⟨a,xs,h1,h2,h3,h4,h5⟩:=h.fr i ds e
  have:a≠p:=fun z=>by rw[z,ay]at h2;cases h2
  exact⟨a,xs,h1,by rw[au this]at h2;exact h2,h3,h4,h5⟩
end
section
variable{X:Cx}
theorem va(i:Nat){x:Str}{k v:Expr}{fk fv:Dv->Option D}{pos pos' dpos:Pos}(hN:X.N.Nodup)(hk:EV X k fk)(hv':EV X v fv)(hi:X.N[i]? = some x:=by rfl)(hx:pE X.env.scope x:=by first|exact Or.inl rfl|exact Or.inr rfl)
  (hs:swapsWith (.Dict [some k] [v] dpos) (some (.Name x pos')) pos.line X.env=pure false:=by rfl)
  (hf:X.fn x=true\/X.env.scope.names.lookup x=some .local:=by first|exact .inl rfl|exact .inr rfl|assumption):SV X (.Assign [.Name x pos'] (.Dict [some k] [v] dpos) pos) (kr i fk fv):=
 PS.imp (dZ hN hi hx (Bp (yB hk hv' Bh) rfl rfl (by simp) (by simp)) hs hf) fun D σ H h=>by
  obtain⟨H₀,Z₀,Z,δ,r,hh,e,kk⟩:=h;obtain⟨dk,e1,e⟩:=bind_some e;obtain⟨dv,e2,e⟩:=bind_some e;obtain⟨ky,e3,e⟩:=bind_some e;cases e;intro p hp;have z0:=eE hh.z0 (jH hh.zh hp);have h0:H₀ p=none:=by
   cases e:H₀ p with
   |none=>rfl
   |some o=>rw[hh.h0 p o e]at hp;cases hp
  refine⟨_,Z₀,Z,δ,dk,hh.aside hp (.dK []),e1,fun w1 Z1 H1 hh1 t1 r1=>⟨_,Z₀,Z1,δ,dv,hh1,e2,fun w2 Z2 H2 hh2 t2 r2=>?_⟩⟩
  obtain⟨g1,g2⟩:=hh2.inside h0 z0;have:=dU r1 e3;subst this;refine⟨g1,[(ky,w2)],rfl,by simp,?_⟩;have hn:(fun b=>if b=p then none else H2 b) p=none:=if_pos rfl;have st:=g2.setW (i:=i) hn (.dct (K:=X.K) (Z:=Z2) (kvs:=[(ky,w2)]) (es:=[(ky,dv)]) ⟨rfl,.cons r2 .nil⟩);have eH:upd (fun b=>if b=p then none else H2 b) p (.dK [(ky,w2)])=upd H2 p (.dK [(ky,w2)]):=funext fun b=>by
   by_cases hb:b=p
   ·subst hb;rw[ay,ay]
   ·rw[au hb,au hb];exact if_neg hb
  rw[eH]at st;exact kk _ _ Z2 st (t1.trans t2)
end
noncomputable def Dt(N:List Str)(es:List (aG×D))(as:List D):Dv:=(az N (.none::as)).set 0 (.od es)
noncomputable def uj(N:List Str)(n:Nat)(b:Sf):List (aG×D)->List D->Option (List (aG×D)):=fun es as=>if as.length+1=n then(b (Dt N es as)).bind fun r=>match r with
  | (.nx,δ)=>ud δ[0]?
  |_=>none
 else none
noncomputable def kL(i:Nat)(fs:Dv->Option (List D))(g:List (aG×D)->List D->Option (List (aG×D))):Sf:=fun δ=>(ud δ[i]?).bind fun es=>(fs δ).bind fun as=>(g es as).bind fun es'=>some (.nx,δ.set i (.od es'))
noncomputable def less(a:Addr)(H:Hp):Hp:=fun b=>if b=a then none else H b
theorem qr{a:Addr}{H:Hp}:less a H a=none:=if_pos rfl
theorem gx{a b:Addr}{H:Hp}(h:b≠a):less a H b=H b:=if_neg h
theorem yZ{a:Addr}{H:Hp}:Same (less a H) H:=fun b o e=>by
 unfold less at e;split at e
 ·cases e
 ·exact e
theorem yY{a:Addr}{H:Hp}{o:HO}(e:H a=some o):upd (less a H) a o=H:=funext fun b=>by
 by_cases hb:b=a
 ·subst hb;rw[ay,e]
 ·rw[au hb,gx hb]
theorem oX{a:Addr}{Z H:Hp}(z:Same Z H)(h:Z a=none):Same Z (less a H):=fun b o e=>by rw[gx (aH e h)];exact z b o e
def Ix(K:Fg)(g:List (aG×D)->List D->Option (List (aG×D))):Sp:=fun vs H Q _=>∃Z a ws kvs es as es',vs=.ref a::ws/\Same Z H/\Z a=none/\H a=some (.dK kvs)/\io K Z kvs es/\Reps K Z ws as/\g es as=some es' /\
 ∀Z' H' kvs',New Z (less a H) Z' (less a H')->H' a=some (.dK kvs')->io K Z' kvs' es'->Q .non H'
def KB(K:Fg)(a:Addr)(f:Sf):TS:=fun D σ H=>∃H₀ Z₀ Z δ r,Hold K H₀ Z₀ Z δ σ H /\ σ[0]? = some (some (.ref a))/\f δ = some r/\∀ σ' H' Z',Hold K H₀ Z₀ Z' r.2 σ' H' -> σ'[0]? = some (some (.ref a))->Same Z Z'->r.1.to K Z' D σ' H'
def Iq(X:Cx)(st:Stmt)(f:Sf):Prop:=∀a,PS X st (KB X.K a f)
def Fv(X:Cx)(sts:List Stmt)(f:Sf):Prop:=∀a,PSs X sts (KB X.K a f)
section
variable{X:Cx}{e b c:Expr}{st:Stmt}{sts body orelse:List Stmt}{s1 s2:Sf}{f fk fv:Dv->Option D}{ft:Dv->Option Bool}{p pos tpos:Pos}
theorem u8(i:Nat){x:Str}{pos':Pos}(hN:X.N.Nodup)(he:EV X e f)(h0:0<i)(hi:X.N[i]? = some x:=by rfl)(hx:pE X.env.scope x:=by first|exact Or.inl rfl|exact Or.inr rfl)(hs:swapsWith e (some (.Name x pos')) pos.line X.env=pure false:=by rfl)
  (hf:X.fn x=true\/X.env.scope.names.lookup x=some .local:=by first|exact .inl rfl|exact .inr rfl|assumption):Iq X (.Assign [.Name x pos'] e pos) (aI i f):=fun a=>
 PS.imp (dZ hN hi hx he hs hf) fun D σ H h=>by
  obtain⟨H₀,Z₀,Z,δ,r,hh,ha,e,k⟩:=h;obtain⟨x,e1,e⟩:=bind_some e;cases e;exact⟨H₀,Z₀,Z,δ,x,hh,e1,fun v Z1 H1 hh1 s1 r1=>k _ H1 Z1 (hh1.set r1) (by rw[getElem?_set_ne (by omega)];exact ha) s1⟩
theorem rj{x:Str}(hu:X.A.units+1<cLine)(hb:EV X b fk)(hv':EV X e fv)(hN:X.N[0]? = some x:=by rfl)(hv:nO X.env.scope x:=by first|exact Or.inl rfl|exact Or.inr (Or.inl rfl)|exact Or.inr (Or.inr rfl))(hd:(x==("__debug__":Str))=false:=by decide)(hcd:(x==("__classdict__":Str))=false:=by decide)
  (hs:swapsWith e (some (.Subscript (.Name x p) b tpos)) pos.line X.env=pure false:=by rfl):Iq X (.Assign [.Subscript (.Name x p) b tpos] e pos) (bU 0 fk fv):=fun a0=>
 PS.imp (vn hu (ca hN hv hd hcd) hb hv' hs) fun D σ H h=>by
  obtain⟨H₀,Z₀,Z,δ,r,hh,ha0,e,k⟩:=h;obtain⟨v,e1,e⟩:=bind_some e;obtain⟨es,e2,e⟩:=bind_some e;obtain⟨y,e3,e⟩:=bind_some e;obtain⟨ky,e4,e⟩:=bind_some e;obtain⟨hl,e5⟩:=bg e;cases e5;refine⟨H₀,Z₀,Z,δ,v,hh,e1,fun w Z1 H1 hh1 t1 r1=>?_⟩
  obtain⟨a,kvs,h1,h4,h5⟩:=g9 hh1 e2;refine⟨_,h1,H₀,Z₀,Z1,δ,y,hh1,e3,fun u Z2 H2 hh2 t2 r2=>?_⟩
  obtain⟨a',kvs',g1,g4,g5⟩:=g9 hh2 e2;rw[h1]at g1;cases g1;obtain rfl:=dU r2 e4;exact⟨a,_,rfl,DPut.k g4 (by rw[eN g5];exact hl),k σ _ Z2 (hh2.chgW (iY e2) h1 (.dct (mh g5 ky (r1.same t2)))) ha0 (t1.trans t2)⟩
theorem wo:Fv X [] dS:=fun a=>PSs.imp pY fun D σ H h=>by
 obtain⟨H₀,Z₀,Z,δ,r,hh,ha,e,k⟩:=h;cases e;exact k σ H Z hh ha (Same.refl _)
theorem qP(h1:Iq X st s1):Fv X [st] s1:=fun a=>pX (h1 a)
theorem nk(h1:Iq X st s1)(h2:Fv X sts s2):Fv X (st::sts) (ap s1 s2):=fun a=>
 PSs.imp (g7 (h1 a) (h2 a)) fun D σ H h=>by
  obtain⟨H₀,Z₀,Z,δ,r,hh,ha,e,k⟩:=h;obtain⟨⟨fl,δ'⟩,e1,e⟩:=bind_some e;refine⟨H₀,Z₀,Z,δ,(fl,δ'),hh,ha,e1,fun σ' H' Z' hh' ha' s'=>?_⟩
  cases fl with
  |nx=>exact⟨H₀,Z₀,Z',δ',r,hh',ha',e,fun σ2 H2 Z2 hh2 ha2 s2=>by
    have:=k σ2 H2 Z2 hh2 ha2 (s'.trans s2);obtain⟨fl,δ2⟩:=r;cases fl<;>exact this⟩
  |bk=>cases e;exact k σ' H' Z' hh' ha' s'
  |ct=>cases e;exact k σ' H' Z' hh' ha' s'
  |rt d=>cases e;exact k σ' H' Z' hh' ha' s'
theorem xV(hc:TV X c ft)(ha:Fv X body s1)(hb:Fv X orelse s2):Iq X (.If c body orelse pos) (bH ft s1 s2):=fun a=>
 PS.imp (vm hc (ha a) (hb a)) fun D σ H h=>by
  obtain⟨H₀,Z₀,Z,δ,r,hh,h0,e,k⟩:=h;obtain⟨x,e1,e⟩:=bind_some e;refine⟨H₀,Z₀,Z,δ,x,hh,e1,fun Z1 H1 hh1 t1=>?_⟩
  cases x with
  |true=>exact⟨H₀,Z₀,Z1,δ,r,hh1,h0,e,fun σ2 H2 Z2 hh2 h2 t2=>k σ2 H2 Z2 hh2 h2 (t1.trans t2)⟩
  |false=>exact⟨H₀,Z₀,Z1,δ,r,hh1,h0,e,fun σ2 H2 Z2 hh2 h2 t2=>k σ2 H2 Z2 hh2 h2 (t1.trans t2)⟩
end
section
variable{P:Program}{w:World}{K:PySem.W.Frag}{mg:Str->Option Value}{base:Heap}
theorem J8{x qual:Str}{st:Stmt}{f:Addr}{fd:FuncData}{dV:Value}{N ps:List Str}{k:Nat}{b:Sf}(F:FunV K x qual st f fd dV)(S:FnScope N ps (aj st))(hn:0<N.length)
  (hb:∀(cdv:Value) (A:Around) (outer:List Env) (s:Shared) (H:Hp) (E:XK),Room k (A.deeper (envOfC qual (aj st) s.heap.objs.size f cdv))->Fv (eU dM P w K mg base N qual (aj st) f cdv A outer s H E).nox (cK st) b) :
  FnOk P w K mg base dM (k+1) f fd ps (Ix K (uj N ps.length b)):=by
 obtain⟨oc,od,kV,doc,pm,an,cdv,ct,osl,rfl,lk,hcd⟩:=F.ex;have hlen:∀es as es',uj N ps.length b es as=some es'->as.length+1=ps.length:=fun es as es' h=>by
  unfold uj at h;split at h
  ·assumption
  ·cases h
 refine v5 lk hcd S (fun vs H Q E h=>?_) fun A outer s H vs Q E hr hsp=>?_
 ·obtain⟨Z,a,ws,kvs,es,as,es',rfl,zh,za,ha,r1,r2,e,_⟩:=h
  have:=hlen es as es' e;have:=r2.length;simp only[length_cons];omega
 ·obtain⟨Z,a,ws,kvs,es,as,es',rfl,zh,za,ha,r1,r2,e,kk⟩:=hsp
  refine⟨_,PSs.nox (hb cdv A outer s H E hr a),?_⟩;have h1:=gy (K:=K) (N:=N) (H:=less a H) (oX zh za) (.cons (.non:Rep K Z .non .none) r2);have h2:=h1.setW (i:=0) (p:=a) qr (.dct r1);rw[yY ha]at h2;have hl0:0<(dh N (.non::ws)).length:=by simp[L2.dh]
  have es0:(dh N (.non::ws)).set 0 (some (.ref a))=dh N (.ref a::ws):=by simp[L2.dh]
  rw[es0]at h2;unfold uj at e;split at e
  rotate_left
  ·cases e
  obtain⟨⟨fl,δ'⟩,e2,e⟩:=bind_some e;cases fl with
  |nx=>
   refine⟨less a H,Z,Z,_,_,h2,by simp[L2.dh],e2,fun σ' H' Z' h' a' s'=>?_⟩
   obtain⟨a2,kvs',g1,g2,g3,g4,g5⟩:=h'.od 0 es' (iY e);rw[a']at g1;cases g1;refine kk Z' H' kvs' ⟨s',fun b o q=>?_,oX h'.zh g3,h'.zb,h'.nf⟩ g4 g5
   have hb':b≠a:=fun z=>by rw[z,qr]at q;cases q
   rw[gx hb'];exact h'.h0 b o q
  |rt d=>cases e
  |bk=>cases e
  |ct=>cases e
structure CalM (P:Program) (w:World) (K:PySem.W.Frag) (mg:Str->Option Value) (base:Heap) (x:Str) (k:Nat) (g:List (aG×D)->List D->Option (List (aG×D))):Prop where
 ex:∃(fa:Addr) (fd:FuncData) (ps:List Str),FnOk P w K mg base dM k fa fd ps (Ix K g)/\mg x=some (.ref fa)/\PySem.W.keepIn K (.ref fa)=true/\Binds K fd ps []
end
section
variable{K:Fg}{H₀ Z₀ Z H:Hp}{δ:Dv}{σ:St}
theorem Hold.mod(h:Hold K H₀ Z₀ Z δ σ H){i:Nat}{a:Addr}{es es':List (aG×D)}{kvs':List (aG×V)}{Z' H':Hp}(q:δ[i]? = some (.od es))(h1:σ[i]? = some (some (.ref a)))(h2:H₀ a=none)(n:New Z (less a H) Z' (less a H'))(g4:H' a=some (.dK kvs'))(g5:io K Z' kvs' es'):
  Hold K H₀ Z₀ Z' (δ.set i (.od es')) σ H':=by
 have hl:i < δ.length:=(List.getElem?_eq_some_iff.mp q).1;have up:∀{b:Addr} {o:HO},b≠a->H b=some o->H' b=some o:=fun{b o} hb e=>by
  have:=n.h b o (by rw[gx hb];exact e)
  rwa [gx hb]at this
 have za:Z' a=none:=by
  cases e:Z' a with
  |none=>rfl
  |some o=>have:=n.zh a o e;rw[qr]at this;cases this
 refine⟨n.zh.trans yZ,fun b o e=>up (aH e h2) (h.h0 b o e),h.z0.trans n.z,fun b hb=>?_,by simp[h.len],fun j d e=>?_,fun j d e=>?_,fun j k d1 d2 c hjk q1 q2=>?_,(h.fr.same n.z).put (fun _ z=>nomatch z) fun _ _=>rfl,h.nf.trans n.nf⟩
 ·have hba:b≠a:=fun z=>hb (by rw[z];exact h2)
  have:less a H b≠none:=by
   rw[gx hba];cases e:H₀ b with
   |none=>exact absurd e hb
   |some o=>rw[h.h0 b o e];intro z;cases z
  rw[n.o b this,h.zb b hb]
 ·by_cases hj:i=j
  ·subst hj
   rw[getElem?_set_self hl]at e;cases e
  ·rw[getElem?_set_ne hj]at e
   obtain⟨v,g1,g2⟩:=h.fz j d e;exact⟨v,g1,g2.same n.z⟩
 ·by_cases hj:i=j
  ·subst hj
   rw[getElem?_set_self hl]at e;cases e;exact⟨a,_,h1,h2,za,g4,.dct g5⟩
  ·rw[getElem?_set_ne hj]at e
   obtain⟨c,o,f1,f2,f3,f4,f5⟩:=h.own j d e;have hc:c≠a:=fun z=>by subst z;exact h.dja i j _ d c hj q e h1 f1
   exact⟨c,o,f1,f2,by rw[n.o c (by rw[gx hc,f4];intro z;cases z)];exact f3,up hc f4,f5.same n.z⟩
 ·have f:∀{m:Nat} {dm:Oc},(δ.set i (.od es'))[m]? = some (.own dm)->∃dm',δ[m]? = some (.own dm'):=fun{m dm} z=>by
   by_cases hm:i=m
   ·subst hm;exact⟨_,q⟩
   ·rw[getElem?_set_ne hm]at z;exact⟨dm,z⟩
  obtain⟨e1,f1⟩:=f q1;obtain⟨e2,f2⟩:=f q2;exact h.dja j k e1 e2 c hjk f1 f2
end
section
variable{X:Cx}{es:List Expr}{fs:Dv->Option (List D)}{p p2 pos cpos:Pos}
theorem pM(i:Nat){k:Nat}{x fx:Str}{g:List (aG×D)->List D->Option (List (aG×D))}(C:CalM X.prog X.w X.K X.mg X.base fx k g)(hr:Room k X.A)(hg:Gl X fx)(ha:AV X es fs)(hi:X.N[i]? = some x:=by rfl)(hv:nO X.env.scope x:=by first|exact Or.inl rfl|exact Or.inr (Or.inl rfl)|exact Or.inr (Or.inr rfl))(hd:(x==("__debug__":Str))=false:=by decide)(hcd:(x==("__classdict__":Str))=false:=by decide)(hdb:(fx==("__debug__":Str))=false:=by decide)
  (he:starEach (.Name x p2::es) X.env=(false,eval (.Name x p2) X.env)::starEach es X.env:=by rfl) (hpl:(backTo cpos (starEach es X.env)).any (·.1)=false:=by rfl)
  (hs:swapsWith (.Call (.Name fx p) (.Name x p2::es) [] cpos) none pos.line X.env=pure false:=by rfl):SV X (.Expr (.Call (.Name fx p) (.Name x p2::es) [] cpos) pos) (kL i fs g):=by
 obtain⟨fa,fd,ps,F,hm,hk,hb⟩:=C.ex;refine PS.imp (eY (p6 F hr hg hm hk hb .nil vv (bK (ca hi hv hd hcd) ha he) hdb he hpl) hs) fun D σ H h=>?_
 obtain⟨H₀,Z₀,Z,δ,r,hh,e,kk⟩:=h;obtain⟨es0,e1,e⟩:=bind_some e;obtain⟨as,e2,e⟩:=bind_some e;obtain⟨es',e3,e⟩:=bind_some e;cases e;obtain⟨a,kvs,h1,h2,h3,h4,h5⟩:=hh.od i es0 (iY e1);refine⟨.ref a,h1,H₀,Z₀,Z,δ,as,hh,e2,fun vs Z1 H1 hh1 t1 r1=>?_⟩
 obtain⟨a',kvs1,g1,g2,g3,g4,g5⟩:=hh1.od i es0 (iY e1);rw[h1]at g1;cases g1;refine⟨Z1,a,vs,kvs1,es0,as,es',by simp,hh1.zh,g3,g4,g5,r1,e3,fun Z' H' kvs' n f4 f5=>?_⟩
 exact kk σ H' Z' (hh1.mod (iY e1) h1 g2 n f4 f5) (t1.trans n.z)
end
section
variable{P:Program}{w:World}{K:PySem.W.Frag}{mg:Str->Option Value}{base h:Heap}{x y:Str}{st:Stmt}{k:Nat}{ps:List Str}
theorem DefIn.calM(D:DefIn K x y st)(X:K.In h)(G:h.Ns mainGlobals mg)(b:aP y st ps){g:List (aG×VL.D)->List VL.D->Option (List (aG×VL.D))}(ok:∀f fd,FunV K y y st f fd .none->FnOk P w K mg base dM k f fd ps (Ix K g)):CalM P w K mg base x k g:=by
 obtain⟨f,fd,a,F,hk⟩:=D;exact⟨⟨_,_,_,ok f fd F,PySem.W.mg_of X G a,hk,F.binds b⟩⟩
end
noncomputable def sO:List D->Option (List Int)
 |[]=>some []
 |.int i::r=>(sO r).bind fun l=>some (i::l)
 |_::_=>none
noncomputable def cL(ns:List Int)(x:Int):List Int:=if x∈ns then ns else ns++[x]
noncomputable def g6(l:List Int):List Int:=l.foldl cL []
noncomputable def jl(d:D):Option D:=(aU d).bind fun ds=>(sO ds).bind fun l=>if l.length<64 then some (.list ((aW (g6 l)).map .int))else none
def UpA(xs:Array Nat):Prop:=∀i j (hi:i<xs.size) (hj:j<xs.size),i<j->xs[i]<xs[j]
theorem nB{xs:Array Nat}{j:Nat}(hu:UpA xs):∀(f lo hi:Nat),hi-lo<=f->lo<=hi->hi<=xs.size ->
  (∀i (h:i<xs.size),i<lo->xs[i]<j)->(∀i (h:i<xs.size),hi<=i->j<=xs[i]) ->
  SetTable.below.go xs j f lo hi<=xs.size/\(∀i (h:i<xs.size),i<SetTable.below.go xs j f lo hi->xs[i]<j)/\(∀i (h:i<xs.size),SetTable.below.go xs j f lo hi<=i->j<=xs[i])
 | 0,lo,hi,h1,h2,h3,a,b=>by
  have:lo=hi:=by omega
  subst this;exact⟨h3,a,b⟩
 |f+1,lo,hi,h1,h2,h3,a,b=>by
  unfold SetTable.below.go;by_cases h:lo<hi
  ·rw[if_pos h]
   have hm:(lo+hi)/2<xs.size:=by omega
   have e:xs.getD ((lo+hi)/2) j=xs[(lo+hi)/2]:=by simp[Array.getD,hm]
   dsimp only;rw[e];by_cases h':xs[(lo+hi)/2]<j
   ·rw[if_pos h']
    refine nB hu f _ hi (by omega) (by omega) h3 (fun i hi' hl=>?_) b;by_cases e2:i=(lo+hi)/2
    ·subst e2;exact h'
    ·exact Nat.lt_trans (hu i _ hi' hm (by omega)) h'
   ·rw[if_neg h']
    refine nB hu f lo _ (by omega) (by omega) (by omega) a fun i hi' hl=>?_
    by_cases e2:i=(lo+hi)/2
    ·subst e2;omega
    ·have:=hu _ i hm hi' (by omega);omega
  ·rw[if_neg h]
   have:lo=hi:=by omega
   subst this;exact⟨h3,a,b⟩
theorem ny{xs:Array Nat}(hu:UpA xs)(j:Nat):SetTable.below xs j<=xs.size/\(∀i (h:i<xs.size),i<SetTable.below xs j->xs[i]<j)/\(∀i (h:i<xs.size),SetTable.below xs j<=i->j<=xs[i]):=
 nB hu xs.size 0 xs.size (by omega) (by omega) (le_refl _) (fun i _ h=>absurd h (by omega)) (fun i h h'=>absurd h (by omega))
theorem qB{xs:Array Nat}{p x:Nat}(hp:p<=xs.size)(i:Nat):(SetTable.insertAt xs p x)[i]? = if i<p then xs[i]? else if i=p then some x else xs[i-1]?:=by
 rw[<-getElem?_toList,SetTable.toList_insertAt];have hl:(xs.toList.take p).length=p:=by rw[List.length_take,length_toList];omega
 by_cases h1:i<p
 ·rw[if_pos h1,List.getElem?_append_left (by omega),List.getElem?_take_of_lt h1,getElem?_toList]
 ·rw[if_neg h1,List.getElem?_append_right (by omega),hl]
  by_cases h2:i=p
  ·subst h2
   rw[if_pos rfl,Nat.sub_self,List.getElem?_cons_zero]
  ·rw[if_neg h2]
   obtain⟨k,rfl⟩:∃k,i=p+k+1:=⟨i-p-1,by omega⟩;rw[show p+k+1-p=k+1 by omega,List.getElem?_cons_succ,List.getElem?_drop,getElem?_toList];rfl
theorem UpA.iff{xs:Array Nat}:UpA xs↔∀i j a b:Nat,i<j->xs[i]? = some a->xs[j]? = some b->a<b:=by
 constructor
 ·intro h i j a b hij ha hb
  obtain⟨h1,rfl⟩:=Array.getElem?_eq_some_iff.mp ha;obtain⟨h2,rfl⟩:=Array.getElem?_eq_some_iff.mp hb;exact h i j h1 h2 hij
 ·intro h i j hi hj hij
  exact h i j _ _ hij (Array.getElem?_eq_getElem hi) (Array.getElem?_eq_getElem hj)
theorem UpA.insert{xs:Array Nat}{j:Nat}(hu:UpA xs)(hn:xs[SetTable.below xs j]? ≠ some j):UpA (SetTable.insertAt xs (SetTable.below xs j) j):=by
 obtain⟨h1,h2,h3⟩:=ny hu j;have lo:∀i a,i<SetTable.below xs j->xs[i]? = some a->a<j:=fun i a hi e=>by
  obtain⟨q,rfl⟩:=Array.getElem?_eq_some_iff.mp e;exact h2 i q hi
 have hi:∀i a,SetTable.below xs j<=i->xs[i]? = some a->j<a:=fun i a hi e=>by
  obtain⟨q,rfl⟩:=Array.getElem?_eq_some_iff.mp e;have hb:SetTable.below xs j<xs.size:=by omega
  have e1:j<=xs[SetTable.below xs j]:=h3 _ hb (le_refl _);have e2:xs[SetTable.below xs j]≠j:=fun z=>hn (by rw[Array.getElem?_eq_getElem hb,z])
  by_cases e3:i=SetTable.below xs j
  ·subst e3;omega
  ·have:=hu _ i hb q (by omega);omega
 rw[UpA.iff]at hu ⊢;intro i k a b hik ha hb;rw[qB h1]at ha hb;split at ha<;>split at hb
 ·exact hu i k a b hik ha hb
 ·split at hb
  ·cases hb;exact lo i a ‹_› ha
  ·exact Nat.lt_trans (lo i a ‹_› ha) (hi _ b (by omega) hb)
 ·omega
 ·split at ha<;>split at hb
  ·omega
  ·cases ha;exact hi _ b (by omega) hb
  ·omega
  ·exact hu (i-1) (k-1) a b (by omega) ha hb
theorem oG{t:SetTable}{j:Nat}(h:t.slot j=.empty\/t.slot j=.dummy):t.place[SetTable.below t.place j]? ≠ some j:=by
 intro e;unfold SetTable.slot at h;simp[e]at h
theorem mm{t:SetTable}{f:Nat->Int}{h:Int}:∀(n:Nat) (p:SetTable.Probe) (j:Nat) (d:Option Nat),(∀x,p.dummy=some x->t.slot x=.dummy)->SetTable.probe.go t f h n p=some (.empty j d)->t.slot j=.empty/\∀x,d=some x->t.slot x=.dummy
 | 0,p,j,d,hp,e=>by cases e
 |n+1,p,j,d,hp,e=>by
  unfold SetTable.probe.go at e;have adv:∀q:SetTable.Probe,(t.advance q).dummy=q.dummy:=fun q=>by unfold SetTable.advance;split<;>rfl
  split at e
  ·rename_i hs;cases e;exact⟨hs,hp⟩
  ·rename_i hs
   refine mm n _ j d (fun x hx=>?_) e;rw[adv]at hx;cases hx;exact hs
  ·split at e
   ·cases e
   ·exact mm n _ j d (fun x hx=>hp x (by rwa [adv]at hx)) e
theorem n6{t:SetTable}{h:Int}{j:Nat}{b:Bool}(e:t.freeSlot h=some (j,b)):t.place[SetTable.below t.place j]? ≠ some j:=by
 unfold SetTable.freeSlot at e;split at e
 ·rename_i j' d hq
  cases e;have:=mm _ _ _ _ (fun x hx=>by cases hx) hq;cases d with
  |none=>exact oG (.inl this.1)
  |some x=>exact oG (.inr (this.2 x rfl))
 ·cases e
structure WkT (led:Bool) (t:SetTable):Prop where
 led:t.led=led
 up:t.plain=true->UpA t.place
theorem WkT.fresh(led:Bool):WkT led (.fresh 0 0 led):=⟨rfl,fun _ i j hi=>absurd hi (by simp[SetTable.fresh])⟩
theorem WkT.standIn{led:Bool}{t:SetTable}(h:WkT led t)(n:Nat):WkT led (t.standIn n):=⟨h.led,fun e=>by cases e⟩
theorem WkT.orStandIn{led:Bool}{t:SetTable}(h:WkT led t)(n:Nat):WkT led (t.orStandIn n):=by
 unfold SetTable.orStandIn;split
 ·exact h
 ·exact h.standIn n
theorem WkT.put{led:Bool}{t:SetTable}(h:WkT led t){x:Int}{j:Nat}{b:Bool}(e:t.freeSlot x=some (j,b)):WkT led (t.put j).1:=⟨h.led,fun q=>(h.up q).insert (n6 e)⟩
theorem WkT.layNew{led:Bool}{t:SetTable}(h:WkT led t)(es:Array (Int×Value))(x:Int)(v:Value):WkT led (layNew t es x v).2.1:=by
 unfold PySem.layNew;split
 ·rename_i e;exact(h.put e).orStandIn _
 ·exact h.standIn _
theorem gi(f:Nat->Option Nat):∀(l:List Nat),l.Pairwise (· < ·)->((l.filterMap fun j=>(f j).map (j,·)).map (·.1)).Pairwise (· < ·)
 |[],_=>.nil
 |a::l,h=>by
  obtain⟨h1,h2⟩:=List.pairwise_cons.mp h;rw[List.filterMap_cons];cases f a with
  |none=>exact gi f l h2
  |some b=>
   refine List.pairwise_cons.mpr ⟨fun z hz=>?_,gi f l h2⟩
   obtain⟨q,hq,rfl⟩:=List.mem_map.mp hz;obtain⟨c,hc,e⟩:=List.mem_filterMap.mp hq;obtain⟨d,_,rfl⟩:=Option.map_eq_some_iff.mp e;exact h1 _ hc
theorem WkT.relay{led:Bool}{t:SetTable}(h:WkT led t)(es:Array (Int×Value))(n:Nat):WkT led (relayAll t es n).2.1:=by
 unfold relayAll;split
 ·rename_i t' order e
  dsimp only;split
  ·unfold SetTable.relaid SetTable.laid at e
   obtain⟨o,_,e⟩:=Option.bind_eq_some_iff.mp e;cases e;refine⟨h.led,fun _ i j hi hj hij=>?_⟩
   have:=gi (fun j=>o.getD j none) (List.range (SetTable.sizeAbove n-1+1)) List.pairwise_lt_range;have:=List.pairwise_iff_getElem.mp this i j (by simpa using hi) (by simpa using hj) hij;simpa using this
  ·exact h.standIn _
 ·exact h.standIn _
theorem nA{xs:Array Nat}(hu:UpA xs){i:Nat}(hi:i<xs.size):SetTable.below xs (xs[i]+1)=i+1:=by
 obtain⟨h1,h2,h3⟩:=ny hu (xs[i]+1);have a:i<SetTable.below xs (xs[i]+1):=by
  refine Nat.lt_of_not_le fun h=>?_
  have:=h3 i hi h;omega
 have b:¬(i+1<SetTable.below xs (xs[i]+1)):=fun h=>by
  have q:=h2 (i+1) (by omega) h;have:=hu i (i+1) hi (by omega) (by omega);omega
 omega
theorem nu{xs:Array Nat}(hu:UpA xs):SetTable.below xs 0=0:=by
 obtain⟨h1,h2,h3⟩:=ny hu 0;refine Nat.eq_zero_of_not_pos fun h=>?_
 have:=h2 0 (by omega) h;omega
noncomputable def pI:Value->Int
 |.int k _=>k
 |_=>0
def uX(e:Int×Value):Prop:=∃k t,e=(hashInt k,Value.int k t)
def SetJ(w:World)(h:Heap)(a:Addr)(ns:List Int):Prop:=∃es ep t,h.get? a=some { cls:=.type "set",dict:=none,data:=.set es ep t,slots:=#[] }/\(∀e∈es.toList,uX e)/\(es.toList.map fun e=>pI e.2).Perm ns/\ns.length<scanBound/\t.fits es.size=true/\WkT (!w.params.followText "set-order") t
theorem SetJ.at{w:World}{h h':Heap}{a:Addr}{ns:List Int}(x:SetJ w h a ns)(e:∀o,h.get? a=some o->h'.get? a=some o):SetJ w h' a ns:=
 let ⟨es,ep,t,ho,r⟩:=x
 ⟨es,ep,t,e _ ho,r⟩
theorem uh(ns:List Int)(x:Int):(cL ns x).length<=ns.length+1:=by
 unfold cL;split
 ·omega
 ·simp
section
variable{prog:Program}{w:World}{A:Around}{E:Value->Shared->Prop}{s:Shared}
theorem mW{es:Array (Int×Value)}(h:∀e∈es.toList,uX e):ElemsOf (intKind prog w) es.toList:=fun e he=>by
 obtain⟨k,t,rfl⟩:=h e he;exact⟨⟨k,intKind_is prog w k t,rfl⟩,rfl⟩
theorem xp{l:List (Int×Value)}(h:∀e∈l,uX e)(k:Int):(l.findIdx? fun e=>(intKind prog w).is k e.2)=none↔k ∉ l.map fun e=>pI e.2:=by
 rw[List.findIdx?_eq_none_iff];constructor
 ·intro q z
  obtain⟨e,he,rfl⟩:=List.mem_map.mp z;obtain⟨k',t,rfl⟩:=h e he;have:=q _ he;rw[show(pI (hashInt k',Value.int k' t).2)=k' from rfl,show((hashInt k',Value.int k' t):Int×Value).2=Value.int k' t from rfl,intKind_is]at this;cases this
 ·intro q e he
  obtain⟨k',t,rfl⟩:=h e he;have hne:k≠k':=fun z=>q (List.mem_map.mpr ⟨_,he,z.symm⟩)
  cases hx:(intKind prog w).is k ((hashInt k',Value.int k' t):Int×Value).2 with
  |false=>rfl
  |true=>exact absurd ((intKind prog w).inj _ _ _ hx (intKind_is prog w k' t)) hne
theorem rJ{h:Heap}{a:Addr}{es es':Array (Int×Value)}{ep:Nat}{t t':SetTable}{ns:List Int}(ho:h.get? a=some { cls:=.type "set",dict:=none,data:=.set es ep t,slots:=#[] })(h1:∀e∈es'.toList,uX e)(h2:(es'.toList.map fun e=>pI e.2).Perm ns)(h3:ns.length<scanBound)(h4:t'.fits es'.size=true)(h5:WkT (!w.params.followText "set-order") t'):
  (h.update a (Obj.putSet es' t')).get? a=some { cls:=.type "set",dict:=none,data:=.set es' (ep+1) t',slots:=#[] }/\SetJ w (h.update a (Obj.putSet es' t')) a ns:=by
 have g:=get?_update_self (Obj.putSet es' t') ho (by rw[putSet_of es' t' rfl];rfl);rw[putSet_of es' t' rfl]at g;exact⟨g,es',ep+1,t',g,h1,h2,h3,h4,h5⟩
theorem rR{l l':List (Int×Value)}(p:List.Perm l' l):(l'.map fun e=>pI e.2).Perm (l.map fun e=>pI e.2):=p.map _
theorem AZ{a:Addr}{x:Int}{tk:Tok}{ns:List Int}{Q:Bool->Shared->Prop}(hS:SetJ w s.heap a ns)(hroom:ns.length+1<scanBound)
  (h:∀h' b,Heap.SameBut a s.heap h'->SetJ w h' a (cL ns x)->Q b { s with heap:=h' }):wpAny (model prog w) A (setAddHashed a (.int x tk) (hashInt x)) Q E s:=by
 obtain⟨es,ep,t,ho,hel,hp,hb,hf,hw⟩:=hS;have hsz:es.size=ns.length:=by
  have:=hp.length_eq;rw[length_map,length_toList]at this;exact this
 have fl:=xp (prog:=prog) (w:=w) hel x;unfold setAddHashed setAddHashedIn;refine wpAny_holding (wpAny_bind (wpAny_setState_of ho rfl hf ?_));dsimp only;rw[byScan_of (knd:=intKind prog w) (x:=Value.int x tk) rfl (by omega) (mW hel)];simp only[↓reduceIte];unfold setAddByScan;refine wpAny_bind (wpAny_bind (wpAny_rule (wpAny_bind (wpAny_setScan_of (knd:=intKind prog w) (k:=x) (intKind_is prog w x tk) ho rfl hf (mW hel) ?_))));cases hr:es.toList.findIdx? fun e=>(intKind prog w).is x e.2 with
 |some j=>
  have hin:x∈ns:=by
   refine hp.mem_iff.mp (Classical.byContradiction fun z=>?_);rw[fl.mpr z]at hr;cases hr
  have e:cL ns x=ns:=if_pos hin;rw[e]at h;dsimp only;exact wpAny_pure (wpAny_pure (h s.heap _ (Heap.SameBut.refl a s.heap) ⟨es,ep,t,ho,hel,hp,hb,hf,hw⟩))
 |none=>
  have hin:x ∉ ns:=fun z=>fl.mp hr (hp.mem_iff.mpr z)
  have e:cL ns x=ns++[x]:=if_neg hin;rw[e]at h;dsimp only;have gw:∀(b:Bool) {s1:Shared} {Q':Unit->Shared->Prop},Q' () s1->wpAny (model prog w) A (match b with
   |true=>rule "set.scan.the-table-gave-way"
   |false=>pure ()) Q' E s1:=fun b s1 Q' hq=>by
   cases b
   ·exact wpAny_pure hq
   ·exact wpAny_rule hq
  have q1:=layNew_perm t es (hashInt x) (.int x tk);have q2:=layNew_fits t es (hashInt x) (.int x tk);have q3:=hw.layNew es (hashInt x) (.int x tk);generalize hL:PySem.layNew t es (hashInt x) (.int x tk)=L at q1 q2 q3;obtain⟨es1,t1,wd,gv⟩:=L;have hL':PySem.layNew t es ((intKind prog w).hash x) (.int x tk)=(es1,t1,wd,gv):=hL;dsimp only at q1 q2 q3;rw[Array.toList_push]at q1;have el1:∀e∈es1.toList,uX e:=fun e he=>by
   rcases List.mem_append.mp (q1.mem_iff.mp he)with he|he
   ·exact hel e he
   ·rw[List.mem_singleton.mp he];exact⟨x,tk,rfl⟩
  have pm1:(es1.toList.map fun e=>pI e.2).Perm (ns++[x]):=(rR q1).trans (by
   rw[map_append];exact hp.append_right _)
  have ln1:(ns++[x]).length<scanBound:=by simpa using hroom
  have sz1:es1.size=(ns++[x]).length:=by
   have:=pm1.length_eq;rw[length_map,length_toList]at this;exact this
  dsimp only;refine wpAny_bind (gw _ ?_);refine wpAny_ite_split (fun _=>?_) (fun _=>?_)<;>refine wpAny_bind (wpAny_of_eq (a:=true) rfl ?_)<;>simp only[↓reduceIte]
  all_goals
   obtain⟨g1,g2⟩:=rJ (w:=w) ho el1 pm1 ln1 q2 q3;refine wpAny_bind (wpAny_storeSet_of ho rfl ?_ (fits_of_scanBound (by omega)));have sb:=Heap.SameBut.update s.heap a (Obj.putSet es1 t1);split
   ·have r1:=relayAll_perm t1 es1 (SetTable.grown es1.size)
    have r2:=relayAll_fits t1 es1 (SetTable.grown es1.size);have r3:=q3.relay es1 (SetTable.grown es1.size);generalize relayAll t1 es1 (SetTable.grown es1.size)=Rl at r1 r2 r3;obtain⟨es2,t2,gv2⟩:=Rl;dsimp only at r1 r2 r3 ⊢;have el2:∀e∈es2.toList,uX e:=fun e he=>el1 e (r1.mem_iff.mp he)
    have pm2:(es2.toList.map fun e=>pI e.2).Perm (ns++[x]):=(rR r1).trans pm1;have sz2:es2.size=(ns++[x]).length:=by
     have:=pm2.length_eq;rw[length_map,length_toList]at this;exact this
    refine wpAny_bind (gw _ ?_);refine wpAny_bind (wpAny_storeSet_of g1 rfl ?_ (fits_of_scanBound (by omega)));exact wpAny_pure (wpAny_pure (h _ _ (sb.trans (Heap.SameBut.update _ a _)) (rJ (w:=w) g1 el2 pm2 ln1 r2 r3).2))
   ·exact wpAny_pure (wpAny_pure (h _ _ sb g2))
end
theorem lX:∀(l ns:List Int),(l.foldl cL ns).length<=ns.length+l.length
 |[],ns=>by simp
 |x::l,ns=>by
  have h1:=lX l (cL ns x);have h2:=uh ns x;show(l.foldl cL (cL ns x)).length<=_;rw[length_cons];omega
theorem wJ{ns:List Int}{i:Nat}{k:Int}(h:ns[i]? = some k):g6 (ns.take (i+1))=cL (g6 (ns.take i)) k:=by
 unfold g6;rw[List.take_succ,h,List.foldl_append];rfl
abbrev bF(led:Bool):Obj:={ cls:=.type "set",dict:=none,data:=.set #[] 0 (.fresh 0 0 led) }
theorem setJ_fresh{w:World}{h:Heap}:SetJ w (h.push (bF (!w.params.followText "set-order"))) h.objs.size []:=
 ⟨#[],0,_,get?_push_size _ rfl,fun e he=>by simp at he,.refl _,by decide,rfl,WkT.fresh _⟩
section
variable{prog:Program}{w:World}{A:Around}{R:Result->Shared->Prop}{I:Addr}{fp wr:List Addr}{G:Array GenState->Array GenState->Prop}{n:Nat}{P:Nat->Value->Prop}{St:Nat->Shared->Prop}
theorem rH(W:WalksS prog w A.in1 I fp wr G n P St)(S:Addr)(hSf:S ∉ fp)(ns:List Int)(hn:ns.length=n)(hP:∀i v,P i v->∃k t,ns[i]? = some k/\v=.int k t)(hz:n+1<scanBound):
  ∀(k i:Nat) (s:Shared),n-i=k->i<=n->St i s->SetJ w s.heap S (g6 (ns.take i))->(∀s',Moved (S::wr) G s s'->SetJ w s'.heap S (g6 ns)->R (.ok (.ret .none)) s') ->
   codeAny (model prog w) A (.builtin "set.update.loop" ⟨[.ref S,.ref I],[]⟩) R s:=by
 have nw:S ∉ wr:=fun h=>hSf (W.sub _ h)
 have up:∀b∈wr,b∈S::wr:=fun b hb=>mem_cons_of_mem _ hb
 intro k
 induction k with
 |zero=>
  intro i s hk hi hst hS hR;have e:i=n:=by omega
  subst e;refine codeAny_builtin F.entry_set_update_loop ?_;rw[Around.under_plainId F.plain_set_update_loop _];refine wpAny_bind (m:=pyNext (.ref I)) (W.done s _ _ hst fun s' hm=>?_);rw[<-hn,List.take_length]at hS;exact wpAny_pure (hR s' (hm.mono up) (hS.at fun o e=>hm.heap S o nw e))
 |succ k ih=>
  intro i s hk hi hst hS hR;have hlt:i<n:=by omega
  refine codeAny_builtin F.entry_set_update_loop ?_;rw[Around.under_plainId F.plain_set_update_loop _];refine wpAny_bind (m:=pyNext (.ref I)) (W.item i s _ _ hlt hst fun v s' hPv hst' hm=>?_);obtain⟨x,t,hx,rfl⟩:=hP i v hPv;have hS':=hS.at fun o e=>hm.heap S o nw e
  refine wpAny_bind (m:=holding [Value.int x t] (setAdd S (.int x t))) (wpAny_holding ?_);unfold setAdd;refine wpAny_holding (wpAny_bind ((intKind prog w).pyHash (k:=x) (intKind_is prog w x t) ?_));have ln:(g6 (ns.take i)).length<=i:=by
   have:=lX (ns.take i) [];rw[List.length_take]at this;unfold g6;simp only[List.length_nil]at this;omega
  refine AZ (s:={ s' with toks:=s'.toks+1 }) hS' (by omega) fun h' b hsb hS2=>?_
  rw[<-wJ hx]at hS2;refine wpAny_pure ⟨plainId_quiet F.plain_set_update_loop _,ih (i+1) _ (by omega) hlt (W.frame _ s' _ _ hst' (le_succ _) fun b hb o e=>?_) hS2 fun s'' hm'' hS''=>?_⟩
  ·rw[hsb.2 b (fun z=>hSf (z ▸ hb))];exact e
  ·refine hR s'' (Moved.trans W.gtrans ((hm.mono up).then_heap (le_succ _) fun b o hb e=>?_) hm'') hS''
   rw[hsb.2 b (fun z=>hb (z ▸ mem_cons_self))];exact e
end
section
variable{prog:Program}{w:World}{A:Around}{E:Value->Shared->Prop}{s:Shared}
theorem ni(a:Value){Q:Value->Shared->Prop}(h:Q (.ref s.heap.objs.size) { s with heap:=s.heap.push (bF (!w.params.followText "set-order")) }):
  codeAny (model prog w) A (.call (.builtin "set.__new__") ⟨[.type "set",a],[]⟩) (wants Q E) s:=by
 refine codeAny_of_tree ?_;refine wpAny_bind (m:=checkBuiltinCall "set.__new__" ⟨[.type "set",a],[]⟩) (wpAny_of_eq (F.newCall_set_1 a) (wpAny_pure ⟨plainId_quiet F.plain_set_new _,codeAny_builtin F.entry_set_new ?_⟩));rw[Around.under_plainId F.plain_set_new _];unfold Builtin.«set.__new__» Builtin.Frozenset.newClass;have f1:=sub_set_self;obtain⟨hp,g,d,tk,os⟩:=s;dsimp only
 wp_walk
 refine wpAny_askSetting (wpAny_pure ?_);dsimp only;simp only[newObj];exact wpAny_bind (wpAny_alloc (wpAny_pure (wpAny_pure h)))
theorem qM{v:Value}{Q:Value->Shared->Prop}
  (h:∀A':Around,A'.handled=A.handled->wpAny (model prog w) A' (Builtin.Frozenset.updateFrom "set.__init__" s.heap.objs.size v) (fun _ s2=>Q (.ref s.heap.objs.size) s2) E { s with heap:=s.heap.push (bF (!w.params.followText "set-order")) }) :
  wpAny (model prog w) A (call (.type "set") [v]) Q E s:=by
 obtain⟨c,tl,hmro⟩:=F.called_set.mro;have hmade:=F.called_set.made;have hsub:=F.called_set.sub;refine wpAny_call (codeAny_of_tree ?_);show wpAny _ _ (callAny (.type "set") _) _ _ _;refine wpAny_pure ⟨Code.quiet_builtin _ (by decide +kernel),codeAny_builtin F.entry_type_call ?_⟩;rw[Around.under_plain (weight_type_call_type "set" [v] []) rfl];have h1:=F.called_set.notType;have h2:=F.called_set.canCreate;have hct:=F.typeCall_set_1 v
 repeat (any_goals (first|assumption|wp_step))
 refine codeAny_mono (ni v (E:=E) (Q:=fun obj s1=>obj=.ref s.heap.objs.size/\s1={ s with heap:=s.heap.push (bF (!w.params.followText "set-order")) }) ⟨rfl,rfl⟩) fun r s1 hr=>?_
 cases r with
 |error e=>exact hr
 |ok fl=>
  cases fl with
  |ret obj=>
   obtain⟨rfl,rfl⟩:=hr;have hT:Shared.TypeIs { s with heap:=s.heap.push (bF (!w.params.followText "set-order")) } (.ref s.heap.objs.size) "set":=⟨_,get?_push_size _ rfl,rfl⟩;have hS:(s.heap.push (bF (!w.params.followText "set-order"))).get? s.heap.objs.size=some (bF (!w.params.followText "set-order")):=get?_push_size _ rfl;have hli:=F.called_set.init.lookup;have hbi:=F.called_set.init.bind (.ref s.heap.objs.size)
   repeat (any_goals (first|assumption|wp_step))
   refine codeAny_mono (codeAny_call_builtin (R:=wants (fun r s2=>r=.none/\Q (.ref s.heap.objs.size) s2) E) F.called_set.init.plain F.entry_set_init (check_set_init_1 hT ?_)) fun r2 s2 hr2=>?_
   ·unfold Builtin.«set.__init__» noKeywords
    generalize hUF:Builtin.Frozenset.updateFrom=UF
    wp_walk
    subst hUF;refine wpAny_mono (h _ (by simp)) (fun _ s2 q=>?_) fun _ _ e=>e
    exact wpAny_pure ⟨rfl,q⟩
   ·cases r2 with
    |error e=>exact hr2
    |ok fl2=>
     cases fl2 with
     |ret r=>
      obtain⟨rfl,q⟩:=hr2
      repeat (any_goals (first|assumption|wp_step))
     |_=>exact hr2.elim
  |_=>exact hr.elim
end
theorem nP:isSubtype (.type "tuple") (.type "set")=pure false:=by rw[isSubtype_type];kernel_rfl
theorem iN:isSubtype (.type "tuple") (.type "frozenset")=pure false:=by rw[isSubtype_type];kernel_rfl
theorem uE{items:Array Value}{ns:List Int}(hi:IntsAre items.toList ns):ns.length=items.size/\∀(i:Nat) (v:Value),items[i]? = some v->∃k t,ns[i]? = some k/\v=Value.int k t:=by
 have hl:ns.length=items.size:=by
  have:=IntsAre.length hi;rw[length_toList]at this;omega
 refine⟨hl,fun i v e=>?_⟩
 obtain⟨t,q⟩:=IntsAre.int_at hi i v (by rw[getElem?_toList];exact e);have h:i<ns.length:=by
  have:=(Array.getElem?_eq_some_iff.mp e).1;omega
 exact⟨ns[i],t,by simp[h],by rw[q,getD_eq_getElem?_getD];simp[h]⟩
section
variable{prog:Program}{w:World}{A:Around}{E:Value->Shared->Prop}{s:Shared}
theorem oj{l:Addr}{items:Array Value}{ns:List Int}{Q:Value->Shared->Prop}(hh:A.handled=none)(hl:s.heap.IsList l items\/s.heap.IsTuple l items)(hi:IntsAre items.toList ns)(hb:items.size+1<scanBound)
  (h:∀(h':Heap) (tk:Nat),SetJ w h' s.heap.objs.size (g6 ns)->(∀b o,s.heap.get? b=some o->h'.get? b=some o)->Q (.ref s.heap.objs.size) { s with heap:=h',toks:=tk }):wpAny (model prog w) A (call (.type "set") [.ref l]) Q E s:=by
 obtain⟨hn,hP⟩:=uE hi;refine qM fun A' hA=>?_
 have hh':A'.handled=none:=hA.trans hh;have fin:∀(s':Shared) (I:Addr) (o:Obj),Moved [s.heap.objs.size,I] (fun a b=>b=a) { s with heap:=(s.heap.push (bF (!w.params.followText "set-order"))).push o } s'->I=(s.heap.push (bF (!w.params.followText "set-order"))).objs.size->SetJ w s'.heap s.heap.objs.size (g6 ns)->Q (.ref s.heap.objs.size) s':=fun s' I o hm hI hS=>by
  obtain⟨h',g',d',tk',os'⟩:=s';have eg:g'=s.gens:=hm.gens;have ed:d'=s.drawn:=hm.drawn;have eo:os'=s.os:=hm.os;subst eg ed eo;refine h h' tk' hS fun b o' e=>?_
  have lt:=lt_size e;refine hm.heap b o' ?_ (get?_push_of_some _ (get?_push_of_some _ e));rw[hI,size_push];simp only[mem_cons,not_mem_nil,or_false,not_or];exact⟨ne_of_lt lt,ne_of_lt (Nat.lt_succ_of_lt lt)⟩
 rcases hl with hl|hl
 ·obtain⟨ol,hol,hcl,nl,hdl⟩:=hl
  obtain⟨ocls,odict,odata,oslots⟩:=ol;simp only at hcl hdl;subst hcl hdl;have lt:=lt_size hol;have hol':=get?_push_of_some (bF (!w.params.followText "set-order")) hol;have f1:=F.sub_list_set;have f2:=F.sub_list_frozenset;have f3:(Value.type "list" == Value.type "dict")=false:=by decide
  have hl1:(s.heap.push (bF (!w.params.followText "set-order"))).IsList l items:=⟨_,hol',rfl,nl,rfl⟩;unfold Builtin.Frozenset.updateFrom;generalize hPI:pyIter=PI
  wp_walk
  subst hPI;refine wpAny_pyIter_list hl1 ?_;refine wpAny_bind (wpAny_runValue ?_);have ne:l≠(s.heap.push (bF (!w.params.followText "set-order"))).objs.size:=by rw[size_push];exact ne_of_lt (Nat.lt_succ_of_lt lt)
  have nf:s.heap.objs.size ∉ [(s.heap.push (bF (!w.params.followText "set-order"))).objs.size,l]:=by
   rw[size_push];simp only[mem_cons,not_mem_nil,or_false,not_or];exact⟨ne_of_lt (lt_succ_self _),ne_of_gt lt⟩
  refine rH ((Walks.list (by simpa using hh') _ l ne items).toS) s.heap.objs.size nf ns hn hP hb items.size 0 _ (by omega) (zero_le _) ⟨⟨_,get?_push_size _ rfl,rfl,rfl⟩,hl1.push _⟩ (setJ_fresh.at fun o e=>get?_push_of_some _ e) fun s' hm hS=>?_
  exact wpAny_pure ((fin s' _ _ hm rfl hS))
 ·obtain⟨ol,hol,hcl,nl,hdl⟩:=hl
  obtain⟨ocls,odict,odata,oslots⟩:=ol;simp only at hcl hdl;subst hcl hdl;have lt:=lt_size hol;have hol':=get?_push_of_some (bF (!w.params.followText "set-order")) hol;have f1:=nP;have f2:=iN;have f3:(Value.type "tuple" == Value.type "dict")=false:=by decide
  have hl1:(s.heap.push (bF (!w.params.followText "set-order"))).IsTuple l items:=⟨_,hol',rfl,nl,rfl⟩;unfold Builtin.Frozenset.updateFrom;generalize hPI:pyIter=PI
  wp_walk
  subst hPI;refine wpAny_pyIter_tuple hl1 ?_;refine wpAny_bind (wpAny_runValue ?_);have ne:l≠(s.heap.push (bF (!w.params.followText "set-order"))).objs.size:=by rw[size_push];exact ne_of_lt (Nat.lt_succ_of_lt lt)
  have nf:s.heap.objs.size ∉ [(s.heap.push (bF (!w.params.followText "set-order"))).objs.size,l]:=by
   rw[size_push];simp only[mem_cons,not_mem_nil,or_false,not_or];exact⟨ne_of_lt (lt_succ_self _),ne_of_gt lt⟩
  refine rH ((Walks.tuple (by simpa using hh') _ l ne items).toS) s.heap.objs.size nf ns hn hP hb items.size 0 _ (by omega) (zero_le _) ⟨⟨_,get?_push_size _ rfl,rfl,rfl⟩,hl1.push _⟩ (setJ_fresh.at fun o e=>get?_push_of_some _ e) fun s' hm hS=>?_
  exact wpAny_pure ((fin s' _ _ hm rfl hS))
end
theorem ja{α:Type}:∀(l:List α) (i:Nat) (x:α),l[i]? = some x->l.Perm (x::l.eraseIdx i)
 |a::l,0,x,h=>by
  have:a=x:=by simpa using h
  subst this;exact .refl _
 |a::l,i+1,x,h=>by
  have ih:=ja l i x (by simpa using h);rw[List.eraseIdx_cons_succ];exact(ih.cons a).trans (.swap x a _)
theorem vo{α:Type}(f:Nat->Nat):∀(n k:Nat) (l:List α) (out:Array α),l.length=n->(pickOrder.go f n k l out).toList.Perm (out.toList++l)
 | 0,k,l,out,h=>by
  have:l=[]:=List.length_eq_zero_iff.mp h;subst this;unfold pickOrder.go;simp
 |n+1,k,l,out,h=>by
  have hi:f k%l.length<l.length:=Nat.mod_lt _ (by omega);have hx:l[f k%l.length]? = some l[f k%l.length]:=by simp[hi]
  unfold pickOrder.go;rw[hx];have ih:=vo f n (k+1) (l.eraseIdx (f k%l.length)) (out.push l[f k%l.length]) (by rw[List.length_eraseIdx,if_pos hi];omega);refine ih.trans ?_;rw[Array.toList_push,List.append_assoc];exact(ja l _ _ hx).symm.append_left _
theorem wS{α:Type}(f:Nat->Nat)(xs:Array α):(pickOrder f xs).toList.Perm xs.toList:=by
 have:=vo f xs.size 0 xs.toList #[] (by simp);simpa[pickOrder]using this
theorem slot_si_next:Slot "set_iterator" "__next__" "set_iterator.__next__":=
 .of (owner:="set_iterator") (n:="__next__") (by rw[typeLookup_type,builtinLookup_eq_fast];kernel_rfl) (by decide +kernel) (by decide +kernel) (by decide +kernel)
  (by first|exact .inl (by decide +kernel)|exact .inr (by decide +kernel)) (by rw[isSubtype_type];kernel_rfl)
theorem oa:entryFor table "set_iterator.__next__" = some Builtin.«set_iterator.__next__»:=entryFor_of_tree (by kernel_rfl)
theorem rV:Manifest.owners.lookup (String.ofList ['r','o','t','a','r','e','t','i','_','t','e','s'].reverse)=some Manifest.sig_set_iterator:=by kernel_rfl
theorem qY(a:Value):argsOk "set_iterator.__next__" ⟨[a],[]⟩:=by
 unfold argsOk;rw[signature?_of (id:="set_iterator.__next__") (n:=['_','_','t','x','e','n','_','_']) (o:=['r','o','t','a','r','e','t','i','_','t','e','s']) (by kernel_rfl) rV];kernel_rfl
theorem kW:entryFor table "set.__iter__" = some Builtin.«frozenset.__iter__»:=
 entryFor_alias (id':="frozenset.__iter__") (by kernel_rfl) rfl (by decide +kernel) (by kernel_rfl)
section
variable{M:Model}{prog:Program}{w:World}{A:Around}{E:Value->Shared->Prop}{s:Shared}
theorem pF{src:Source}{n:Nat}{Q:Nat->Shared->Prop}(hn:n≠0)(h:∀k d,k<n->Q k { s with drawn:=d }):wpAny M A (choose src n) Q E s:=fun Γ p hΓ=>by
 show Sem.wp M Γ (.choose src n .pure) _ _ p s;rw[Sem.wp_choose];exact⟨hn,h _ _ (Nat.mod_lt _ (Nat.pos_of_ne_zero hn))⟩
theorem pj{α:Type}:∀(n:Nat) (xs:List α) (s:Shared) {Q:List α -> Shared->Prop},xs.length=n->(∀ys d,ys.Perm xs->Q ys { s with drawn:=d })->wpAny M A (drawOrder n xs) Q E s
 | 0,xs,s,Q,hn,h=>by
  have:xs=[]:=List.length_eq_zero_iff.mp hn;subst this;unfold drawOrder;exact wpAny_pure (h [] s.drawn (.refl _))
 |n+1,[],s,Q,hn,h=>by simp at hn
 |n+1,x::xs,s,Q,hn,h=>by
  unfold drawOrder;refine wpAny_bind (pF (by simp) fun k d hk=>?_)
  have hx:(x::xs)[k]? = some ((x::xs)[k]):=by simp[hk]
  rw[hx];refine wpAny_bind (pj n ((x::xs).eraseIdx k) _ (by rw[List.length_eraseIdx,if_pos hk];omega) fun ys d' p=>?_)
  exact wpAny_pure (h _ d' ((p.cons _).trans (ja _ _ _ hx).symm))
abbrev pS(es:Array (Int×Value))(ep:Nat)(t:SetTable):Obj:={ cls:=.type "set",dict:=none,data:=.set es ep t,slots:=#[] }
noncomputable def lV(first:Value)(i:Int)(a:Addr)(n ep:Int):Obj:={ cls:=.type "set_iterator",data:=.fields #[first,rawInt i,.ref a,rawInt n,rawInt ep] }
theorem iK{Q:Bool->Shared->Prop}(h:Q (w.params.followText "set-order") s):wpAny (model prog w) A setsByText Q E s:=by
 unfold setsByText;exact wpAny_bind (wpAny_askSetting (wpAny_pure h))
inductive Mode (w:World) (h:Heap) (a:Addr) (es:Array (Int×Value)) (ep:Nat) (t:SetTable) (vs:List Value):Nat->Value->Prop
 |text {i:Nat} {sl:Nat}:w.params.followText "set-order" = true->vs=(pickOrder (w.params.setOrder a ep) es).toList.map (·.2)->Mode w h a es ep t vs i (rawInt sl)
 |slots {i:Nat}:w.params.followText "set-order" = false->(!t.plain&&decide (es.size>1))=false->UpA t.place->vs=es.toList.map (·.2)->Mode w h a es ep t vs i (rawInt (if i=0 then 0 else t.place.getD (i-1) 0+1:Nat))
 |drawn {i:Nat} {tp:Addr} {o:Obj} {ps:List Nat} {k:Nat}:h.get? tp=some o->o.data=.seq (ps.map fun p:Nat=>rawInt (p:Int)).toArray k->vs.length=ps.length->(∀(j p:Nat),ps[j]? = some p->∃e:Int×Value,es[p]? = some e/\vs[j]? = some e.2)->Mode w h a es ep t vs i (.ref tp)
def SWk(w:World)(h:Heap)(I a:Addr)(vs:List Value)(tp:Addr)(i:Nat):Prop:=∃es ep t first,h.get? a=some (pS es ep t)/\t.fits es.size=true/\WkT (!w.params.followText "set-order") t/\vs.length=es.size/\h.get? I=some (lV first i a es.size ep)/\(∀b,first=.ref b->b=tp)/\Mode w h a es ep t vs i first
theorem Mode.keep{h h':Heap}{a tp:Addr}{es:Array (Int×Value)}{ep:Nat}{t:SetTable}{vs:List Value}{i:Nat}{first:Value}(m:Mode w h a es ep t vs i first)(hf:∀b,first=.ref b->b=tp)(k:∀o,h.get? tp=some o->h'.get? tp=some o):Mode w h' a es ep t vs i first:=by
 cases m with
 |text e1 e2=>exact .text e1 e2
 |slots e1 e2 e3 e4=>exact .slots e1 e2 e3 e4
 |drawn e1 e2 e3 e4=>
  have:=hf _ rfl;subst this;exact .drawn (k _ e1) e2 e3 e4
theorem eK{I:Addr}{first:Value}{i n ep:Int}{a:Addr}(h:s.heap.get? I=some (lV first i a n ep)):s.TypeIs (.ref I) "set_iterator":=⟨_,h,rfl⟩
theorem ve{I a:Addr}{first:Value}{i n:Nat}{es:Array (Int×Value)}{ep:Nat}{t:SetTable}{Q:Option Value->Shared->Prop}(hI:s.heap.get? I=some (lV first i a n ep))(ha:s.heap.get? a=some (pS es ep t))(hf:t.fits es.size=true)(hn:es.size=n)
  (h:wpAny (model prog w) A.in1 (if let .int slot _:=first then do
     match <-setNext a slot.toNat i ep with
     |some (x,next)=>
      setField (.ref I) 0 (rawInt next)
      setField (.ref I) 1 (rawInt ((i:Int)+1))
      ret x
     |none=>setField (.ref I) 2 .none;raiseNew (<-newExc (.type "StopIteration") [])
    else do
     let some places <-seqItems? first|unsupported "internal:set_iterator"
     match places[i]? with
     |some (.int place _)=>
      let x <-setNextDrawn a place.toNat ep
      setField (.ref I) 1 (rawInt ((i:Int)+1))
      ret x
     |some _=>unsupported "internal:set_iterator"
     |none=>setField (.ref I) 0 (rawInt 0);setField (.ref I) 2 .none;raiseNew (<-newExc (.type "StopIteration") []))
   (fun fin s'=>∃r,fin=.done (.ret r)/\Q (some r) s') (fun e s'=>wpAny (model prog w) A (do if <-isInstance e (.type "StopIteration")then pure none else throw e) Q E s') s):wpAny (model prog w) A (pyNext (.ref I)) Q E s:=by
 unfold pyNext;refine wpAny_bind (wpAny_attempt (wpAny_callSpecial?_slot (name:=Str.ofString "__next__") (eK hI) slot_si_next (wpAny_call_entry slot_si_next (eK hI) oa ?_ (qY _))));unfold Builtin.«set_iterator.__next__»;refine wpAny_bind (wpAny_of_eq (a:=(Value.ref I,[])) rfl ?_)
 try dsimp only
 refine wpAny_bind (wpAny_fieldsOf hI rfl ?_);show wpAny _ _ (setEntries a >>= fun q=>_) _ _ s;refine wpAny_bind (wpAny_setEntries_of ha rfl hf ?_);refine wpAny_ite_split (fun z=>absurd z (by simp[hn])) (fun _=>?_)
 simp only[toNat_natCast];exact wpAny_mono h (fun fin s' q=>let ⟨r,e,q⟩:=q; ⟨r,e,wpAny_pure q⟩) fun _ _ e=>e
theorem pR{Q:Option Value->Shared->Prop}{P:PySem.Fin->Shared->Prop}(hh:A.handled=none)(h:∀h',(∀b o,s.heap.get? b=some o->h'.get? b=some o)->Q none { s with heap:=h' }):
  wpAny (model prog w) A.in1 (do
   let x <-newExc (.type "StopIteration") []
   raiseNew x) P (fun e s'=>wpAny (model prog w) A (do if <-isInstance e (.type "StopIteration")then pure none else throw e) Q E s') s:=by
 refine wpAny_bind ?_;simp only[newExc,newTuple];refine wpAny_bind (wpAny_newObj_type ?_ (by size_fits));refine wpAny_bind (m:=firstArgMember _ _) (wpAny_of_eq (a:=Value.none) (by first|rfl|(simp only[firstArgMember];rfl)) ?_);refine wpAny_newObj_type ?_ (by size_fits);simp only[raiseNew];refine wpAny_bind (wpAny_handled ?_);rw[show A.in1.handled=none from hh];refine wpAny_bind (wpAny_pure (wpAny_throw ?_));refine wpAny_bind (wpAny_isInstance (T:="StopIteration") (b:=true) ⟨_,get?_push_size _ rfl,rfl⟩ isSubtype_stop ?_);exact wpAny_pure (h _ fun b o e=>get?_push_of_some _ (get?_push_of_some _ e))
theorem bP{h:Heap}{I b:Addr}{f:Obj->Obj}{o:Obj}(hb:b≠I)(e:h.get? b=some o):(h.update I f).get? b=some o:=(Heap.get?_update_other _ _ (Ne.symm hb)).trans e
theorem jo{a:Addr}{es:Array (Int×Value)}{ep:Nat}{t:SetTable}{sl i:Nat}{Q:Option (Value×Nat)->Shared->Prop}(ha:s.heap.get? a=some (pS es ep t))(hf:t.fits es.size=true)(hT:w.params.followText "set-order" = true)(h:Q (((pickOrder (w.params.setOrder a ep) es)[i]?).map fun e=>(e.2,sl)) s):wpAny (model prog w) A (setNext a sl i ep) Q E s:=by
 unfold setNext;refine wpAny_bind (wpAny_setState_of ha rfl hf ?_);dsimp only;refine wpAny_bind (iK ?_);rw[hT,if_pos rfl];refine wpAny_ite_split (fun z=>absurd z (by simp)) (fun _=>?_)
 unfold setWalk;refine wpAny_bind (wpAny_bind (wpAny_setState_of ha rfl hf ?_));dsimp only;refine wpAny_bind (iK ?_);rw[hT,if_pos rfl];refine wpAny_bind (wpAny_askSetting (wpAny_pure ?_));exact wpAny_pure h
theorem jp{a:Addr}{es:Array (Int×Value)}{ep:Nat}{t:SetTable}{sl i:Nat}{Q:Option (Value×Nat)->Shared->Prop}(ha:s.heap.get? a=some (pS es ep t))(hf:t.fits es.size=true)(hT:w.params.followText "set-order" = false)(hp:(!t.plain&&decide (es.size>1))=false)(hw:t.led=true)
  (h:Q (match es[SetTable.below t.place sl]?,t.place[SetTable.below t.place sl]? with
   |some (_,x),some j=>some (x,j+1)
   |_,_=>none) s):wpAny (model prog w) A (setNext a sl i ep) Q E s:=by
 unfold setNext;refine wpAny_bind (wpAny_setState_of ha rfl hf ?_);dsimp only;refine wpAny_bind (iK ?_);rw[hT,if_neg (by decide)];show wpAny _ _ (if(!t.plain&&decide (es.size>1))=true then _ else _) _ _ _;rw[hp,if_neg (by decide)];show wpAny _ _ ((if(!t.led && !es.isEmpty)=true then _ else _) >>= _) _ _ _;rw[hw];simp only[Bool.not_true,Bool.false_and,Bool.false_eq_true,if_false];exact wpAny_bind (wpAny_pure (wpAny_pure h))
end
section
variable{prog:Program}{w:World}{A:Around}{E:Value->Shared->Prop}{s:Shared}
theorem ke{t:SetTable}{n:Nat}(h:t.fits n=true):t.place.size=n:=by
 simp only[SetTable.fits,Bool.and_eq_true,beq_iff_eq]at h;exact h.1
theorem yi{h:Heap}{I a:Addr}{first x:Value}{i n ep:Int}(hI:h.get? I=some (lV first i a n ep))(j:Int):((h.update I (Obj.mapFields (·.setIfInBounds 0 x))).update I (Obj.mapFields (·.setIfInBounds 1 (rawInt j)))).get? I=some (lV x j a n ep):=by
 have h1:=get?_update_self (Obj.mapFields (·.setIfInBounds 0 x)) hI rfl;exact get?_update_self (Obj.mapFields (·.setIfInBounds 1 (rawInt j))) h1 rfl
theorem DK{h:Heap}{I a:Addr}{first:Value}{i n ep:Int}(hI:h.get? I=some (lV first i a n ep))(j:Int):(h.update I (Obj.mapFields (·.setIfInBounds 1 (rawInt j)))).get? I=some (lV first j a n ep):=
 get?_update_self (Obj.mapFields (·.setIfInBounds 1 (rawInt j))) hI rfl
theorem AA{I a tp:Addr}{vs:List Value}{i:Nat}{v:Value}{Q:Option Value->Shared->Prop}(ha:a≠I)(ht:tp≠I)(hW:SWk w s.heap I a vs tp i)(hv:vs[i]? = some v)
  (hQ:∀h',SWk w h' I a vs tp (i+1)->(∀b o,b≠I->s.heap.get? b=some o->h'.get? b=some o)->Q (some v) { s with heap:=h' }):wpAny (model prog w) A (pyNext (.ref I)) Q E s:=by
 obtain⟨es,ep,t,first,e1,e2,e3,e4,e5,e6,e7⟩:=hW;have hi:i<vs.length:=(List.getElem?_eq_some_iff.mp hv).1;refine ve e5 e1 e2 rfl ?_;cases e7 with
 |text m1 m2=>
  rename_i sl;show wpAny _ _ (setNext a ((sl:Int)).toNat i ep >>= _) _ _ _;rw[toNat_natCast];have hx:∃e,(pickOrder (w.params.setOrder a ep) es)[i]? = some e/\e.2=v:=by
   rw[m2,getElem?_map,getElem?_toList]at hv;exact Option.map_eq_some_iff.mp hv
  obtain⟨e,q1,q2⟩:=hx;refine wpAny_bind (jo e1 e2 m1 ?_);rw[q1];dsimp only[Option.map];rw[q2];refine wpAny_bind (wpAny_setField e5 rfl (by simp) ?_);have g1:=get?_update_self (Obj.mapFields (·.setIfInBounds 0 (rawInt (sl:Int)))) e5 rfl;refine wpAny_bind (wpAny_setField g1 rfl (by simp) (wpAny_pure ⟨v,rfl,hQ _ ?_ fun b o hb eo=>bP hb (bP hb eo)⟩))
  exact⟨es,ep,t,rawInt sl,bP ha (bP ha e1),e2,e3,e4,yi e5 _,fun b z=>(by cases z),.text m1 m2⟩
 |slots m1 m2 m3 m4=>
  have hz:=ke e2;have hb:SetTable.below t.place (if i=0 then 0 else t.place.getD (i-1) 0+1)=i:=by
   by_cases z:i=0
   ·subst z;rw[if_pos rfl,nu m3]
   ·rw[if_neg z]
    have:i-1<t.place.size:=by omega
    have e:t.place.getD (i-1) 0=t.place[i-1]:=by simp[Array.getD,this]
    rw[e,nA m3 this];omega
  have hp:t.place[i]? = some (t.place.getD i 0):=by
   have:i<t.place.size:=by omega
   simp[Array.getD,this]
  obtain⟨e,q1,q2⟩:∃e,es[i]? = some e/\e.2=v:=by
   rw[m4,getElem?_map,getElem?_toList]at hv;exact Option.map_eq_some_iff.mp hv
  obtain⟨eh,ev⟩:=e;have q2:ev=v:=q2;subst q2;show wpAny _ _ (setNext a (((if i=0 then 0 else t.place.getD (i-1) 0+1:Nat):Int)).toNat i ep >>= _) _ _ _;rw[toNat_natCast];refine wpAny_bind (jp e1 e2 m1 m2 (by rw[e3.led,m1];rfl) ?_);rw[hb,q1,hp];dsimp only;refine wpAny_bind (wpAny_setField e5 rfl (by simp) ?_);have g1:=get?_update_self (Obj.mapFields (·.setIfInBounds 0 (rawInt ((t.place.getD i 0+1:Nat):Int)))) e5 rfl;refine wpAny_bind (wpAny_setField g1 rfl (by simp) (wpAny_pure ⟨ev,rfl,hQ _ ?_ fun b o hb eo=>bP hb (bP hb eo)⟩))
  have m:Mode w ((s.heap.update I (Obj.mapFields (·.setIfInBounds 0 (rawInt ((t.place.getD i 0+1:Nat):Int))))).update I (Obj.mapFields (·.setIfInBounds 1 (rawInt ((i:Int)+1))))) a es ep t vs (i+1) (rawInt (if i+1=0 then 0 else t.place.getD (i+1-1) 0+1:Nat)):=.slots m1 m2 m3 m4;rw[if_neg (by omega),Nat.add_sub_cancel]at m;exact⟨es,ep,t,_,bP ha (bP ha e1),e2,e3,e4,yi e5 _,fun b z=>(by cases z),m⟩
 |drawn m1 m2 m3 m4=>
  rename_i tq o ps k;have:=e6 _ rfl;subst this;have hj:i<ps.length:=by omega
  have hp:ps[i]? = some ps[i]:=by simp[hj]
  obtain⟨e,q1,q2⟩:=m4 i _ hp;rw[hv]at q2;have q2:v=e.2:=by simpa using q2
  show wpAny _ _ (seqItems? (.ref tq) >>= _) _ _ _;refine wpAny_bind (wpAny_seqItems m1 m2 ?_);dsimp only;have pl:(ps.map fun p:Nat=>rawInt (p:Int)).toArray[i]? = some (rawInt (ps[i]:Int)):=by simp[hj]
  rw[pl];show wpAny _ _ (setNextDrawn a ((ps[i]:Int)).toNat ep >>= _) _ _ _;rw[toNat_natCast];unfold setNextDrawn;refine wpAny_bind (wpAny_bind (wpAny_setState_of e1 rfl e2 ?_));dsimp only;refine wpAny_ite_split (fun z=>absurd z (by simp)) (fun _=>?_)
  rw[q1];refine wpAny_pure ?_;rw[<-q2];refine wpAny_bind (wpAny_setField e5 rfl (by simp) (wpAny_pure ⟨v,rfl,hQ _ ?_ fun b o hb eo=>bP hb eo⟩));exact⟨es,ep,t,.ref tq,bP ha e1,e2,e3,e4,DK e5 _,e6,.drawn (bP ht m1) m2 m3 m4⟩
theorem AB{I a tp:Addr}{vs:List Value}{Q:Option Value->Shared->Prop}(hh:A.handled=none)(hW:SWk w s.heap I a vs tp vs.length)
  (hQ:∀h',(∀b o,b≠I->s.heap.get? b=some o->h'.get? b=some o)->Q none { s with heap:=h' }):wpAny (model prog w) A (pyNext (.ref I)) Q E s:=by
 obtain⟨es,ep,t,first,e1,e2,e3,e4,e5,e6,e7⟩:=hW;refine ve e5 e1 e2 rfl ?_;cases e7 with
 |text m1 m2=>
  rename_i sl;show wpAny _ _ (setNext a ((sl:Int)).toNat vs.length ep >>= _) _ _ _;rw[toNat_natCast];refine wpAny_bind (jo e1 e2 m1 ?_);have hx:(pickOrder (w.params.setOrder a ep) es)[vs.length]? = none:=by
   rw[<-getElem?_toList,List.getElem?_eq_none_iff,m2,length_map];exact le_refl _
  rw[hx];dsimp only[Option.map];refine wpAny_bind (wpAny_setField e5 rfl (by simp) ?_);exact pR hh fun h' kp=>hQ h' fun b o hb eo=>kp b o (bP hb eo)
 |slots m1 m2 m3 m4=>
  have hz:=ke e2;have hb:SetTable.below t.place (if vs.length=0 then 0 else t.place.getD (vs.length-1) 0+1)=vs.length:=by
   by_cases z:vs.length=0
   ·rw[if_pos z,nu m3,z]
   ·rw[if_neg z]
    have:vs.length-1<t.place.size:=by omega
    have e:t.place.getD (vs.length-1) 0=t.place[vs.length-1]:=by simp[Array.getD,this]
    rw[e,nA m3 this];omega
  show wpAny _ _ (setNext a (((if vs.length=0 then 0 else t.place.getD (vs.length-1) 0+1:Nat):Int)).toNat vs.length ep >>= _) _ _ _;rw[toNat_natCast];refine wpAny_bind (jp e1 e2 m1 m2 (by rw[e3.led,m1];rfl) ?_);rw[hb];have hx:es[vs.length]? = none:=by rw[e4];simp
  rw[hx];dsimp only;refine wpAny_bind (wpAny_setField e5 rfl (by simp) ?_);exact pR hh fun h' kp=>hQ h' fun b o hb eo=>kp b o (bP hb eo)
 |drawn m1 m2 m3 m4=>
  rename_i tq o ps k;show wpAny _ _ (seqItems? (.ref tq) >>= _) _ _ _;refine wpAny_bind (wpAny_seqItems m1 m2 ?_);dsimp only;have pl:(ps.map fun p:Nat=>rawInt (p:Int)).toArray[vs.length]? = none:=by rw[m3];simp
  rw[pl];dsimp only;refine wpAny_bind (wpAny_setField e5 rfl (by simp) ?_);have g1:=get?_update_self (Obj.mapFields (·.setIfInBounds 0 (rawInt 0))) e5 rfl;refine wpAny_bind (wpAny_setField g1 rfl (by simp) ?_);exact pR hh fun h' kp=>hQ h' fun b o hb eo=>kp b o (bP hb (bP hb eo))
theorem SWk.frame{h h':Heap}{I a tp:Addr}{vs:List Value}{i:Nat}(x:SWk w h I a vs tp i)(k:∀b∈[I,a,tp],∀o,h.get? b=some o->h'.get? b=some o):SWk w h' I a vs tp i:=
 let ⟨es,ep,t,first,e1,e2,e3,e4,e5,e6,e7⟩:=x
 ⟨es,ep,t,first,k a (by simp) _ e1,e2,e3,e4,k I (by simp) _ e5,e6,e7.keep e6 (k tp (by simp))⟩
theorem og:entryFor table "set_iterator.__iter__" = some Builtin.«dict_keyiterator.__iter__»:=
 entryFor_alias (id':="dict_keyiterator.__iter__") (by kernel_rfl) (by first|rfl|decide +kernel|(unfold String.splitOn;simp +decide [String.splitOnAux])) (by decide +kernel) (by kernel_rfl)
theorem jn:Slot "set_iterator" "__iter__" "set_iterator.__iter__":=
 .of (owner:="set_iterator") (n:="__iter__") (by rw[typeLookup_type,builtinLookup_eq_fast];kernel_rfl) (by decide +kernel) (by decide +kernel) (by decide +kernel)
  (by first|exact .inl (by decide +kernel)|exact .inr (by decide +kernel)) (by rw[isSubtype_type];kernel_rfl)
theorem qZ(a:Value):argsOk "set_iterator.__iter__" ⟨[a],[]⟩:=by
 unfold argsOk;rw[signature?_of (id:="set_iterator.__iter__") (n:=['_','_','r','e','t','i','_','_']) (o:=['r','o','t','a','r','e','t','i','_','t','e','s']) (by kernel_rfl) rV];kernel_rfl
theorem xU(hh:A.handled=none){I a tp:Addr}(ha:a≠I)(ht:tp≠I)(vs:List Value):Walks prog w A I [I,a,tp] [I] vs.length (fun i v=>vs[i]? = some v) (fun i h=>SWk w h I a vs tp i) where
 sub:=fun b hb=>by simp at hb;simp[hb]
 frame:=fun _ _ _ st hk=>st.frame hk
 item:=fun i s Q E hi st hQ=>AA ha ht st (v:=vs[i]) (by simp[hi]) fun h' x k=>hQ _ h' s.toks (by simp[hi]) x fun b o hb e=>k b o (fun z=>hb (by simp[z])) e
 done:=fun s Q E st hQ=>AB hh st fun h' k=>hQ h' s.toks fun b o hb e=>k b o (fun z=>hb (by simp[z])) e
 self:=fun i s Q E st hQ=>by
  obtain⟨es,ep,t,first,e1,e2,e3,e4,e5,e6,e7⟩:=st;refine wpAny_pyIter_slot (eK e5) jn (wpAny_call_entry jn (eK e5) og ?_ (qZ _));exact wpAny_pure ⟨_,rfl,"set_iterator",_,eK e5,slot_si_next.lookup,hQ⟩
end
theorem jC:∀(l:List (Int×Value)),(∀e∈l,uX e)->IntsAre (l.map (·.2)) (l.map fun e=>pI e.2)
 |[],_=>.nil
 |e::l,h=>by
  obtain⟨k,t,rfl⟩:=h e mem_cons_self;exact .cons k t (jC l fun e he=>h e (mem_cons_of_mem _ he))
theorem ul(es:Array (Int×Value)):(List.range es.size).map (fun p=>es.getD p (0,.none))=es.toList:=by
 apply ext_getElem?;intro i;rw[getElem?_map];by_cases h:i<es.size
 ·rw[List.getElem?_range h]
  simp[Array.getD,h]
 ·rw[getElem?_eq_none (by rw[length_range];omega),getElem?_eq_none (by rw[length_toList];omega)]
  rfl
section
variable{prog:Program}{w:World}{A:Around}{E:Value->Shared->Prop}{s:Shared}
theorem yl{a:Addr}{ns:List Int}{Q:Value->Shared->Prop}(hS:SetJ w s.heap a ns)
  (hQ:∀I tp h1 d vs ms,tp≠I->a≠I->(∀b o,s.heap.get? b=some o->h1.get? b=some o)->s.heap.objs.size<=I->I<h1.objs.size->(tp=a\/s.heap.objs.size<=tp)->SWk w h1 I a vs tp 0->IntsAre vs ms->ms.Perm ns->Q (.ref I) { s with heap:=h1,drawn:=d }):wpAny (model prog w) A (pyIter (.ref a)) Q E s:=by
 obtain⟨es,ep,t,ho,hel,hp,hb,hf,hw⟩:=hS;have hT:s.TypeIs (.ref a) "set":=⟨_,ho,rfl⟩;have lt:=lt_size ho;refine wpAny_pyIter_slot hT F.slot_set_iter (wpAny_call_entry F.slot_set_iter hT kW ?_ (F.args_set_iter_1 _));unfold Builtin.«frozenset.__iter__» Builtin.Frozenset.slot0;refine wpAny_bind (wpAny_bind (wpAny_of_eq (a:=(Value.ref a,[])) rfl ?_));unfold Builtin.Frozenset.addrOf Builtin.Frozenset.sizeOf;refine wpAny_pure ?_;refine wpAny_bind (wpAny_bind (wpAny_setEntries_of ho rfl hf (wpAny_pure ?_)));unfold setDrawn;refine wpAny_bind (wpAny_bind (wpAny_setState_of ho rfl hf ?_));dsimp only;refine wpAny_bind (iK (wpAny_pure ?_));have plain:∀vs ms,IntsAre vs ms->ms.Perm ns->vs.length=es.size->(∀h1:Heap,Mode w h1 a es ep t vs 0 (rawInt (0:Nat)))->wpAny (model prog w) A.in1 (do
   let ep <-setEpoch a
   let x <-newFields "set_iterator" [rawInt 0,rawInt 0,.ref a,rawInt es.size,rawInt ep]
   ret x) (fun fin s'=>∃v,fin=.done (.ret v)/\∃T' r,s'.TypeIs v T'/\typeLookup (.type T') "__next__" = pure (some r)/\Q v s') E s:=fun vs ms q1 q2 q3 q4=>by
  refine wpAny_bind (wpAny_setEpoch_of ho rfl hf ?_);refine wpAny_bind (wpAny_newObj_type (wpAny_pure ⟨_,rfl,"set_iterator",_,⟨_,get?_push_size _ rfl,rfl⟩,slot_si_next.lookup,?_⟩));refine hQ s.heap.objs.size a _ s.drawn vs ms (ne_of_lt lt) (ne_of_lt lt) (fun b o e=>get?_push_of_some _ e) (le_refl _) (by rw[size_push];exact lt_succ_self _) (.inl rfl) ⟨es,ep,t,rawInt (0:Nat),get?_push_of_some _ ho,hf,hw,q3,get?_push_size _ rfl,fun b z=>(by cases z),q4 _⟩ q1 q2
 cases hb1:w.params.followText "set-order" with
 |true=>
  simp only[Bool.not_true,Bool.false_and,Bool.false_eq_true,if_false];have pp:=wS (w.params.setOrder a ep) es;refine plain ((pickOrder (w.params.setOrder a ep) es).toList.map (·.2)) _ (jC _ fun e he=>hel e (pp.mem_iff.mp he)) ((pp.map _).trans hp) (by rw[length_map,pp.length_eq,length_toList]) fun h1=>.text hb1 rfl
 |false=>
  by_cases hd:(!t.plain&&decide (es.size>1))=true
  ·show wpAny _ _ (if(!false&&(!t.plain&&decide (es.size>1)))=true then _ else _) _ _ _
   rw[hd];simp only[Bool.not_false,Bool.and_self,if_true];refine wpAny_bind (pj es.size (List.range es.size) s (length_range ..) fun ys d py=>?_)
   have hlen:ys.length=es.size:=by rw[py.length_eq,length_range]
   refine wpAny_bind (wpAny_newObj_type ?_ (by show(List.toArray _).size<=sizeLine;rw[List.size_toArray,length_map,hlen];have:=hp.length_eq;rw[length_map,length_toList]at this;exact fits_of_scanBound (by omega)));have ho1:=get?_push_of_some { cls:=.type "tuple",data:=.seq (ys.map fun i:Nat=>rawInt (i:Int)).toArray } ho
   refine wpAny_bind (wpAny_setEpoch_of ho1 rfl hf ?_);refine wpAny_bind (wpAny_newObj_type (wpAny_pure ⟨_,rfl,"set_iterator",_,⟨_,get?_push_size _ rfl,rfl⟩,slot_si_next.lookup,?_⟩));have pe:(ys.map fun p=>es.getD p (0,.none)).Perm es.toList:=by
    have:=py.map fun p=>es.getD p (0,.none)
    rwa [ul]at this
   refine hQ (s.heap.push { cls:=.type "tuple",data:=.seq (ys.map fun i:Nat=>rawInt (i:Int)).toArray }).objs.size s.heap.objs.size _ d ((ys.map fun p=>es.getD p (0,.none)).map (·.2)) _ ?_ ?_ (fun b o e=>get?_push_of_some _ (get?_push_of_some _ e)) (by rw[size_push];exact le_succ _) (lt_size (get?_push_size _ rfl)) (.inr (le_refl _)) ⟨es,ep,t,.ref s.heap.objs.size,get?_push_of_some _ ho1,hf,hw,by simp[hlen],get?_push_size _ rfl,fun b z=>by injection z with z;exact z.symm,?_⟩ (jC _ fun e he=>hel e (pe.mem_iff.mp he)) ((pe.map _).trans hp)
   ·rw[size_push];exact ne_of_lt (lt_succ_self _)
   ·rw[size_push];exact ne_of_lt (Nat.lt_succ_of_lt lt)
   ·refine .drawn (ps:=ys) (get?_push_of_some _ (get?_push_size _ rfl)) rfl (by simp) fun j p hj=>?_
    have hpn:p<es.size:=List.mem_range.mp (py.mem_iff.mp (List.mem_of_getElem? hj));refine⟨es.getD p (0,.none),by simp[Array.getD,hpn],?_⟩;rw[getElem?_map,getElem?_map,hj];rfl
  ·show wpAny _ _ (if(!false&&(!t.plain&&decide (es.size>1)))=true then _ else _) _ _ _
   have hd':(!t.plain&&decide (es.size>1))=false:=by simpa using hd
   rw[hd'];simp only[Bool.not_false,Bool.and_false,Bool.false_eq_true,if_false];have up:UpA t.place:=by
    cases hpl:t.plain with
    |true=>exact hw.up hpl
    |false=>
     rw[hpl]at hd';have h1:es.size<=1:=by simpa using hd'
     have h2:=ke hf;intro i j hi hj hij;omega
   refine wpAny_bind (wpAny_pure ?_);refine plain (es.toList.map (·.2)) _ (jC _ hel) hp (by simp) fun h1=>?_
   have:=Mode.slots (w:=w) (h:=h1) (a:=a) (ep:=ep) (i:=0) hb1 hd' up (es:=es) rfl;simpa using this
theorem zp{r:Addr}{Q:Bool->Shared->Prop}(hT:s.TypeIs (.ref r) "set")(h:Q false s):wpAny (model prog w) A (Builtin.List.listLengthHint (.ref r)) Q E s:=by
 unfold Builtin.List.listLengthHint;refine wpAny_bind (wpAny_specialOf hT PySem.F.slot_set_len.lookup ?_);generalize hid:("set.__len__":String)=id0
 wp_delta
 rw[show splitId id0=some ("set","__len__")from by subst hid;decide +kernel];subst hid;refine wpAny_bind (wpAny_isInstance (T:="set") (b:=true) hT (by rw[isSubtype_type];kernel_rfl) ?_);refine wpAny_ite_split (fun z=>absurd z (by decide)) (fun _=>wpAny_ite_split (fun _=>?_) (fun z=>absurd (by decide +kernel) z))
 exact wpAny_bind (wpAny_typeOf hT (wpAny_pure h))
end
section
variable{prog:Program}{w:World}{A:Around}{E:Value->Shared->Prop}{s:Shared}
theorem zi{vs:List Value}{acc:Array Value}(h:ItemsOf (fun i v=>vs[i]? = some v) acc vs.length):acc.toList=vs:=by
 obtain⟨h1,h2⟩:=h;apply ext_getElem?;intro i;rw[getElem?_toList];cases e:acc[i]? with
 |some v=>exact(h2 i v e).symm
 |none=>
  have:acc.size<=i:=by simpa using e
  rw[getElem?_eq_none (by omega)]
theorem tw{a:Addr}{ns:List Int}{R:List Value->Shared->Prop}(hh:A.handled=none)(hS:SetJ w s.heap a ns)
  (h:∀h' d tk vs ms,(∀b o,s.heap.get? b=some o->h'.get? b=some o)->IntsAre vs ms->ms.Perm ns->R vs { s with heap:=h',drawn:=d,toks:=tk }):wpAny (model prog w) A (collect (.ref a)) R E s:=by
 have hsz:ns.length<scanBound:=by obtain⟨es,ep,t,ho,hel,hp,hb,hf,hw⟩:=hS;exact hb
 have lta:a<s.heap.objs.size:=by obtain⟨es,ep,t,ho,hel,hp,hb,hf,hw⟩:=hS;exact lt_size ho
 unfold collect;refine wpAny_bind (wpAny_runValue (codeAny_builtin entry_proto_collect' ?_));rw[Around.under_plainId PySem.F.plain_proto_collect _];refine wpAny_bind (m:=newList []) (wpAny_newObj_type ?_);refine wpAny_pure ⟨plainId_quiet PySem.F.plain_list_iadd _,codeAny_builtin entry_list_iadd' ?_⟩;rw[Around.under_plainId PySem.F.plain_list_iadd _];show wpAny _ A.in1 (Builtin.List.listExtendWith (.ref s.heap.objs.size) (.ref a) (.ref s.heap.objs.size)) _ _ _;unfold Builtin.List.listExtendWith;have kp1:∀b o,s.heap.get? b=some o->(s.heap.push { cls:=.type "list",data:=.seq ([]:List Value).toArray }).get? b=some o:=fun b o e=>get?_push_of_some _ e
 have hS1:=hS.at fun o e=>kp1 a o e
 have hL:(s.heap.push { cls:=.type "list",data:=.seq ([]:List Value).toArray }).get? s.heap.objs.size=some { cls:=.type "list",data:=.seq #[] 0 }:=get?_push_size _ rfl;have hT:∀{s1:Shared},SetJ w s1.heap a ns->s1.TypeIs (.ref a) "set":=fun q=>by obtain⟨es,ep,t,ho,r⟩:=q;exact⟨_,ho,rfl⟩
 refine wpAny_bind (wpAny_typeOf (T:="set") (hT hS1) ?_);have h1:Builtin.List.listSameRef (.ref s.heap.objs.size) (.ref a)=false:=by simp[Builtin.List.listSameRef];exact ne_of_gt lta
 have h2:(Value.type "set" == Value.type "list")=false:=by decide
 have h3:(Value.type "set" == Value.type "tuple")=false:=by decide
 simp only[h1,h2,h3,Bool.or_false,Bool.false_eq_true,if_false];refine wpAny_bind (yl hS1 fun I tp h1 d vs ms htp haI kp2 hI hI2 htp2 sw iv pm=>?_);have ltL:s.heap.objs.size<(s.heap.push { cls:=.type "list",data:=.seq ([]:List Value).toArray }).objs.size:=lt_size hL;have neI:s.heap.objs.size≠I:=fun z=>by
  have q:s.heap.objs.size<I:=Nat.lt_of_lt_of_le ltL hI;rw[<-z]at q;exact lt_irrefl _ q
 have neT:s.heap.objs.size≠tp:=fun z=>by
  rcases htp2 with q|q
  ·rw[q]at z;exact absurd lta (by rw[z];exact lt_irrefl _)
  ·rw[<-z]at q;exact absurd ltL (Nat.not_lt.mpr q)
 have hL1:=kp2 _ _ hL;refine wpAny_bind (wpAny_holding (zp (hT (s1:={ s with heap:=h1,drawn:=d }) (hS1.at fun o e=>kp2 a o e)) ?_));have fin:∀(RR:Result->Shared->Prop) (hR:∀s',wpAny (model prog w) A (load s.heap.objs.size >>= fun o=>match o.data with
   |.seq xs _=>pure xs.toList
   |_=>unsupported "internal:collect") R E s'->RR (.ok (.ret (.ref s.heap.objs.size))) s') (h2:Heap) (c:Nat),h2.get? s.heap.objs.size=some { cls:=.type "list",data:=.seq #[] c }->(∀b o,b≠s.heap.objs.size->h1.get? b=some o->h2.get? b=some o)->codeAny (model prog w) A (.builtin "list.extend.loop" ⟨[.ref s.heap.objs.size,.ref I,.ref s.heap.objs.size],[]⟩) RR { s with heap:=h2,drawn:=d }:=fun RR hR h2 c e2 k2=>by
  have W:=(xU (prog:=prog) (w:=w) (A:=A.in1) hh haI htp vs).toS;have vl:vs.length=ns.length:=by rw[<-pm.length_eq];exact IntsAre.length iv
  refine codeAny_extend_loopS W (by rw[vl];exact fits_of_scanBound hsz) s.heap.objs.size (by simp only[mem_cons,not_mem_nil,or_false,not_or];exact⟨neI,ne_of_gt lta,neT⟩) (.ref s.heap.objs.size) vs.length 0 _ #[] c rfl (zero_le _) (sw.frame fun b hb o e=>?_) e2 (ItemsOf.nil _) fun s' acc c' hm hS' hacc=>?_
  ·refine k2 b o (fun z=>?_) e
   simp only[mem_cons,not_mem_nil,or_false]at hb;rcases hb with rfl|rfl|rfl
   ·exact neI z.symm
   ·exact ne_of_lt lta z
   ·exact neT z.symm
  ·refine hR s' (wpAny_bind (wpAny_load hS' (wpAny_pure ?_)))
   rw[zi hacc];obtain⟨h',g',d',tk',os'⟩:=s';have eg:g'=s.gens:=hm.gens;have ed:d'=d:=hm.drawn;have eo:os'=s.os:=hm.os;subst eg ed eo;refine h h' d' tk' vs ms (fun b o e=>?_) iv pm;have lt:=lt_size e;refine hm.heap b o ?_ (k2 b o (ne_of_lt lt) (kp2 b o (kp1 b o e)));simp only[mem_cons,not_mem_nil,or_false,not_or];exact⟨ne_of_lt lt,fun z=>by
    have q:b<I:=Nat.lt_trans lt (Nat.lt_of_lt_of_le ltL hI);rw[z]at q;exact lt_irrefl _ q⟩
 refine wpAny_ite_split (fun _=>?_) (fun _=>wpAny_pure ⟨plainId_quiet PySem.F.plain_extend_loop _,fin _ (fun s' q=>q) h1 0 hL1 fun b o _ e=>e⟩)
 refine wpAny_bind (wpAny_rule ?_);refine wpAny_bind ?_;show wpAny _ _ (updateSeq s.heap.objs.size (·.push .none) >>= fun _=>updateSeq s.heap.objs.size (·.pop)) _ _ _
 refine wpAny_bind (wpAny_updateSeq hL1 rfl ?_);have g2:=get?_update_self (Obj.mapSeq (·.push Value.none)) hL1 rfl;refine wpAny_updateSeq (hz:=by seq_fits) g2 rfl ?_;have g3:=get?_update_self (Obj.mapSeq (·.pop)) g2 rfl;exact wpAny_pure ⟨plainId_quiet PySem.F.plain_extend_loop _,fin _ (fun s' q=>q) _ _ g3 fun b o hb e=>bC hb (bC hb e)⟩
end
section
variable{X:Cx}
theorem Inv.keptD{pins:List (Addr×Obj)}{σ:St}{H:Hp}{s:Shared}{h':Heap}{t':Nat}{d:Drawn}(I:Inv X pins σ H s)(k:∀b u,s.heap.get? b=some u->h'.get? b=some u):Inv X pins σ H { s with heap:=h',drawn:=d,toks:=t' }:=by
 obtain⟨a1,a2,a3,a4,a5,a6,a7,a8,a9,a10,a11⟩:=I.kept (t':=t') k;exact⟨a1,a2,a3,a4,a5,a6,a7,a8,a9,a10,a11⟩
theorem uc(hc:X.calm=true){pins:List (Addr×Obj)}{σ:St}{H:Hp}{s:Shared}{a:Addr}{ns:List Int}{Q:VK}(I:Inv X pins σ H s)(hS:SetJ X.w s.heap a ns)(h64:ns.length<64)(q:∀l,H l=none->Q (.ref l) (upd H l (.lst ((aW ns).map V.int)))):
  wpAny (model X.prog X.w) X.A (call (.builtin "sorted") [.ref a]) (EP X pins σ Q) X.xe s:=by
 refine Calls.call_function_entry kind_sorted plain_sorted entry_sorted (args_sorted1 _) ?_;unfold Builtin.«sorted»;refine wpAny_bind (m:=checkCount "sorted" 1 1 _) (wpAny_pure ?_);refine wpAny_bind (tw (I.ok.hd hc) hS fun h' d tk acc ms hk' hI pm=>?_)
 have hln:acc.length=ns.length:=by rw[<-pm.length_eq];exact IntsAre.length hI
 refine wpAny_bind (wpAny_newList ?_ (by rw[hln,sizeLine_eq];omega));have hoL:(h'.push (seqObj "list" acc.toArray 0)).get? h'.objs.size=some (seqObj "list" acc.toArray 0):=get?_push_size _ rfl;refine wpAny_bind (wpAny_holding (wpAny_call_entry slot_list_sort ⟨_,hoL,rfl⟩ entry_list_sort (list_sort_tree hoL hI (by rw[hln];exact h64) fun out ns' a1 a2 a3=>⟨_,rfl,?_⟩) (args_list_sort _)))
 refine wpAny_pure ⟨_,rfl,?_⟩;have e:=iF (a2.trans pm) a3;subst e;have I1:Inv X pins σ H { s with heap:=h',drawn:=d,toks:=tk }:=Inv.keptD I hk';have kp:∀b o,h'.get? b=some o->(sortedHeap (h'.push (seqObj "list" acc.toArray 0)) h'.objs.size acc out).get? b=some o:=fun b o eo=>by
  have hb:b≠h'.objs.size:=ne_of_lt (lt_size eo);exact bC hb (get?_push_of_some _ (get?_push_of_some _ (bC hb (get?_push_of_some _ eo))))
 obtain⟨e1,ho1⟩:∃e1,((h'.push (seqObj "list" acc.toArray 0)).update h'.objs.size (Obj.mapSeq fun _=>#[])).get? h'.objs.size=some (seqObj "list" #[] e1):=⟨_,get?_update_seq hoL (fun _=>#[])⟩;have ho2:=get?_push_of_some (seqObj "list" #[] 0) (get?_push_of_some (seqObj "tuple" acc.toArray 0) ho1);have ho3:=get?_update_seq ho2 (fun _=>out);have L:=I1.laid (h':=sortedHeap (h'.push (seqObj "list" acc.toArray 0)) h'.objs.size acc out) (a:=h'.objs.size) (o:=.lst ((aW ns).map V.int)) (t':=tk) kp (le_refl _)
  (show ObjOk X.prog X.w _ _ _ (.lst ((aW ns).map V.int))from ⟨by rw[length_map,(cj ns).length_eq,sizeLine_eq];omega,out.toList,_,cZ a1,by rw[toArray_toList];exact ho3⟩)
 exact⟨.ref h'.objs.size,_,L,rfl,q _ (I1.hok.fresh (le_refl _))⟩
variable{e:Expr}{p p2 pos pos2:Pos}{te:TE}{f:Dv->Option D}
def FS(X:Cx)(te:TE):TE:=fun σ H Q=>te σ H fun v H1=>∃(a:Addr) (l:List Int),[v]=[V.ref a]/\(SqL X.K H1 a (l.map V.int)\/SqT X.K H1 a (l.map V.int))/\l.length<64/\∀b,H1 b=none->Q (.ref b) (upd H1 b (.lst ((aW (g6 l)).map V.int)))
theorem f7:∀{l:List Int} {us:List Value},Vals (l.map V.int) us->IntsAre us l
 |[],[],.nil=>.nil
 |n::l,u::us,.cons h r=>by
  obtain⟨t,rfl⟩:=h;exact .cons n t (f7 r)
theorem Bm(hc:X.calm=true)(hg:Gl X "sorted")(hm:X.mg "sorted" = none)(hg':Gl X "set")(hm':X.mg "set" = none)(ha:PE X e te)
  (he:starEach [.Call (.Name "set" p2) [e] [] pos2] X.env=(false,eval (.Call (.Name "set" p2) [e] [] pos2) X.env)::starEach [] X.env:=by rfl)
  (he2:starEach [e] X.env=(false,eval e X.env)::starEach [] X.env:=by rfl) (hpl:(backTo pos (starEach [] X.env)).any (·.1)=false:=by rfl) (hpl2:(backTo pos2 (starEach [] X.env)).any (·.1)=false:=by rfl) :
  PE X (.Call (.Name "sorted" p) [.Call (.Name "set" p2) [e] [] pos2] [] pos) (FS X te):=by
 intro pins s σ H Q I h;refine wpAny_Call_Name_kw (fH I hg hm (u:=.builtin "sorted") (by decide +kernel) ?_ (by decide) (by decide));refine PyProof.Rows.callWith_builtin1 ?_ he hpl;rw[he];show wpAny _ _ (spliced ((false,eval _ X.env)::backTo pos (starEach [] X.env))) _ _ s;refine Calls.spliced_cons ?_;refine wpAny_Call_Name_kw (fH I hg' hm' (u:=.type "set") (by decide +kernel) ?_ (by decide) (by decide));refine PyProof.Rows.callWith_type1 (b0 (bK ha cM he2 pos2 pins s σ H (fun xs H1=>∃(a:Addr) (l:List Int),xs=[V.ref a]/\(SqL X.K H1 a (l.map V.int)\/SqT X.K H1 a (l.map V.int))/\l.length<64/\∀b,H1 b=none->Q (.ref b) (upd H1 b (.lst ((aW (g6 l)).map V.int)))) I (by exact h)) fun us s1 ⟨vs,H1,I1,r1,q1⟩=>?_) he2 hpl2
 obtain⟨a,l,e1,hsq,h64,q⟩:=q1;subst e1;obtain⟨u,rfl,rx⟩:=gJ r1;cases rx;obtain⟨its,iv,hl,hz⟩:∃its:List Value,IntsAre its l/\(s1.heap.IsList a its.toArray\/s1.heap.IsTuple a its.toArray)/\its.length=l.length:=by
  rcases hsq with hsq|hsq
  ·obtain⟨its,r,⟨o,n,e1,e2,e3,e4⟩,z⟩:=I1.list hsq
   exact⟨its,f7 r,.inl ⟨o,e1,e2,n,e4⟩,by rw[<-r.length,length_map]⟩
  ·obtain⟨its,r,⟨o,e1,e2,n,e3⟩,z⟩:=I1.tuple hsq
   exact⟨its,f7 r,.inr ⟨o,e1,e2,n,e3⟩,by rw[<-r.length,length_map]⟩
 refine oj (I1.ok.hd hc) hl (by simpa using iv) (by rw[List.size_toArray,hz];unfold scanBound;omega) fun h' tk hS kp=>?_
 refine Calls.spliced_nil ?_;have sl:(g6 l).length<=l.length:=by
  have:=lX l [];simpa[g6]using this
 exact uc hc (I1.kept kp) hS (by omega) fun b hb=>q b hb
theorem hZ{K:Fg}{Z:Hp}:∀{vs:List V} {ds:List D} {l:List Int},Reps K Z vs ds->sO ds=some l->vs=l.map V.int
 |_,_,_,.nil,h=>by cases h;rfl
 |_,.int i::ds,l,.cons r rs,h=>by
  obtain⟨l',e,h⟩:=bind_some h;cases h;rw[r.int_eq,hZ rs e];rfl
 |_,.none::ds,l,.cons r rs,h=>by cases h
 |_,.bool _::ds,l,.cons r rs,h=>by cases h
 |_,.str _::ds,l,.cons r rs,h=>by cases h
 |_,.list _::ds,l,.cons r rs,h=>by cases h
 |_,.tuple _::ds,l,.cons r rs,h=>by cases h
 |_,.dict _::ds,l,.cons r rs,h=>by cases h
theorem B9(hg:Gl X "sorted")(hm:X.mg "sorted" = none)(hg':Gl X "set")(hm':X.mg "set" = none)(ha:EV X e f)(hc:X.calm=true:=by rfl)
  (he:starEach [.Call (.Name "set" p2) [e] [] pos2] X.env=(false,eval (.Call (.Name "set" p2) [e] [] pos2) X.env)::starEach [] X.env:=by rfl)
  (he2:starEach [e] X.env=(false,eval e X.env)::starEach [] X.env:=by rfl) (hpl:(backTo pos (starEach [] X.env)).any (·.1)=false:=by rfl) (hpl2:(backTo pos2 (starEach [] X.env)).any (·.1)=false:=by rfl) :
  EV X (.Call (.Name "sorted" p) [.Call (.Name "set" p2) [e] [] pos2] [] pos) (o1 f jl):=
 PE.imp (Bm hc hg hm hg' hm' ha he he2 hpl hpl2) fun σ H Q h=>by
  obtain⟨H₀,Z₀,Z,δ,d,hh,e,k⟩:=h;obtain⟨d1,e1,e⟩:=bind_some e;refine⟨H₀,Z₀,Z,δ,d1,hh,e1,fun v Z1 H1 hh1 t1 r1=>?_⟩
  unfold jl at e;obtain⟨ds,e2,e⟩:=bind_some e;obtain⟨l,e3,e⟩:=bind_some e;obtain⟨h64,e⟩:=bg e;cases e;have key:∀b,H1 b=none->Q (.ref b) (upd H1 b (.lst ((aW (g6 l)).map V.int))):=fun b hb=>by
   have n:=New.add hh1.zh hb (.lst ((aW (g6 l)).map V.int));exact k _ _ _ (hh1.new n) (t1.trans n.z) (.lst (SqL.of ay) (Reps.ints _))
  cases r1 with
  |lst sq rs=>
   cases e2;have:=hZ rs e3;subst this;exact⟨_,l,rfl,.inl (SqL.same sq hh1.zh),h64,key⟩
  |tup sq rs=>
   cases e2;have:=hZ rs e3;subst this;exact⟨_,l,rfl,.inr (SqT.same sq hh1.zh),h64,key⟩
  |_=>cases e2
end
end VL
namespace VL
open PySem PySem.Spec PyProof.Rows
section
variable{κ:Keyed->Int}{all out l ra rb:List Keyed}{m:Keyed}
def LB(κ:Keyed->Int)(l:List Keyed):Prop:=l.Pairwise fun x y=>κ x <= κ y
end
section
variable{M:Model}{A:Around}{E:Value->Shared->Prop}{s:Shared}{κ:Keyed->Int}{S:Keyed->Prop}{kd:SortKind}
def iy(κ:Keyed->Int)(a b out:Array Keyed):Prop:=out.toList.Perm (a.toList++b.toList)/\LB κ out.toList
variable{a b out:Array Keyed}{ia ib:Nat}
end
end VL
namespace VL
open PySem PySem.Spec PyProof.Rows L2
open PySem.F (plainAttrs_list slot_list_pop)
open List (getElem?_set_ne reverse_cons size_toArray)
open PySem.Heap (get?_push_of_some)
@[simp] noncomputable def yn(i:Nat)(fk fv:Dv->Option D):Sf:=fun δ=>(fk δ).bind fun dk=>(fv δ).bind fun v=>(xH δ[i]?).bind fun ds=>match dk with
 |.int k=>if 0<=k/\k.toNat<=ds.length/\ds.length<sizeLine then some (.nx,δ.set i (.ow (ds.take k.toNat++v::ds.drop k.toNat)))else none
 |_=>none
section
variable{X:Cx}
def Bb:V->List V->Hp->VK->Prop:=fun x vs H Q=>∃l xs k y,x=.ref l/\vs=[.int k,y]/\H l=some (.lst xs)/\0<=k/\k.toNat<=xs.length/\xs.length<sizeLine/\Q .non (upd H l (.lst (xs.take k.toNat++y::xs.drop k.toNat)))
theorem Vals.takeV:∀{xs:List V} {us:List Value} (n:Nat),Vals xs us->Vals (xs.take n) (us.take n)
 |_,_,0,_=>by simpa using .nil
 |_,_,n+1,.nil=>.nil
 |_,_,n+1,.cons h r=>.cons h (Vals.takeV n r)
theorem Vals.dropV:∀{xs:List V} {us:List Value} (n:Nat),Vals xs us->Vals (xs.drop n) (us.drop n)
 |_,_,0,h=>h
 |_,_,n+1,.nil=>.nil
 |_,_,n+1,.cons h r=>Vals.dropV n r
theorem w9:FL X "list.insert" Bb:=by
 intro pins s σ H x vs v us Q I rx rv h;obtain⟨l,xs,k,y,rfl,rfl,hH,h0,hk,hz,q⟩:=h;cases rx;obtain⟨u,w,rfl,⟨t,rfl⟩,rw_⟩:=rv.two;obtain⟨z,its,n,r,hl,e⟩:=I.lstM hH;have hlen:xs.length=its.length:=r.length;have hf:Builtin.List.listFitsIndex k=true:=by
  unfold Builtin.List.listFitsIndex;have:k<16777217:=by rw[sizeLine_eq]at hz;omega
  simp only[Bool.and_eq_true,decide_eq_true_eq];exact⟨by omega,by omega⟩
 refine call_meets PySem.F.slot_list_insert ⟨_,e,rfl⟩ PySem.F.entry_list_insert (PySem.F.args_list_insert_3 _ _ _) (PySem.AutoSeq1.list_insert_list_int_val_1 l its.toArray n k t w (by simp[hf]) (by rw[size_toArray,<-hlen];omega)) ⟨e,?_⟩;refine⟨.non,_,I.lset (its':=its.take k.toNat++w::its.drop k.toNat) hH e ?_ ((Vals.takeV _ r).append (.cons rw_ (Vals.dropV _ r))) ?_,rfl,q⟩
 ·have e1:(if k<0 then(k+(its.toArray.size:Int)).toNat else min k.toNat its.toArray.size)=k.toNat:=by
   rw[if_neg (by omega),size_toArray];omega
  show(its.toArray.extract 0 (if k<0 then(k+(its.toArray.size:Int)).toNat else min k.toNat its.toArray.size)).push w++its.toArray.extract (if k<0 then(k+(its.toArray.size:Int)).toNat else min k.toNat its.toArray.size)=_;rw[e1];apply Array.toList_inj.mp;simp;exact List.take_of_length_le (by simp)
 ·simp only[List.length_append,List.length_cons,List.length_take,List.length_drop]
  omega
theorem Reps.takeV{K:Fg}{Z:Hp}:∀{xs:List V} {us:List D} (n:Nat),Reps K Z xs us->Reps K Z (xs.take n) (us.take n)
 |_,_,0,_=>by simpa using .nil
 |_,_,n+1,.nil=>.nil
 |_,_,n+1,.cons h r=>.cons h (Reps.takeV n r)
theorem Reps.dropV{K:Fg}{Z:Hp}:∀{xs:List V} {us:List D} (n:Nat),Reps K Z xs us->Reps K Z (xs.drop n) (us.drop n)
 |_,_,0,h=>h
 |_,_,n+1,.nil=>.nil
 |_,_,n+1,.cons h r=>Reps.dropV n r
variable{e b:Expr}{p pos apos:Pos}{fk fv:Dv->Option D}
theorem xY(i:Nat){x:Str}{cpos:Pos}(hk:EV X b fk)(hv':EV X e fv)(hN:X.N[i]? = some x:=by rfl)(hv:nO X.env.scope x:=by first|exact Or.inl rfl|exact Or.inr (Or.inl rfl)|exact Or.inr (Or.inr rfl))(hd:(x==("__debug__":Str))=false:=by decide)(hcd:(x==("__classdict__":Str))=false:=by decide)
  (hbase:attributeBase (.Name x p) "insert" X.env (eval (.Name x p) X.env)=eval (.Name x p) X.env:=by rfl)
  (hfew:((backTo cpos (starEach [b,e] X.env)).all (fun x=>!x.1)&&(backToKw cpos (keywordEach [] X.env)).all (fun x=>x.1.isSome)
   && decide ([b,e].length+([]:List Keyword).length+(if([]:List Keyword).isEmpty then 0 else 1)<30))=true:=by rfl)
  (hline:(apos.endLine==cpos.line)=true:=by rfl) (hs:starEach [b,e] X.env=(false,eval b X.env)::starEach [e] X.env:=by rfl) (hs2:starEach [e] X.env=(false,eval e X.env)::starEach [] X.env:=by rfl) (hplain:(backTo cpos (starEach [e] X.env)).any (·.1)=false:=by rfl)
  (hsw:swapsWith (.Call (.Attribute (.Name x p) "insert" apos) [b,e] [] cpos) none pos.line X.env=pure false:=by rfl):SV X (.Expr (.Call (.Attribute (.Name x p) "insert" apos) [b,e] [] cpos) pos) (yn i fk fv):=
 PS.imp (eY (rT plainAttrs_list PySem.F.slot_list_insert PySem.F.type_list_insert w9 (ca hN hv hd hcd) (bK hk (bK hv' cM hs2) hs) hbase hfew hline hs hplain) hsw) fun D σ H h=>by
  obtain⟨H₀,Z₀,Z,δ,r,hh,e,k⟩:=h;obtain⟨dk,e0,e⟩:=bind_some e;obtain⟨v,e1,e⟩:=bind_some e;obtain⟨ds,e2,e⟩:=bind_some e;cases dk with
  |int n=>
   obtain⟨⟨h0,hn,hl⟩,e⟩:=bg e;cases e;obtain⟨a,xs,h1,h4,h5⟩:=gK hh e2;refine⟨_,h1,.inl ⟨rfl,xs,SqL.of h4⟩,H₀,Z₀,Z,δ,.int n,hh,e0,fun w Z1 H1 hh1 t1 r1=>?_⟩
   refine⟨H₀,Z₀,Z1,δ,v,hh1,e1,fun w2 Z2 H2 hh2 t2 r2=>?_⟩
   obtain⟨a',xs',g1,g4,g5⟩:=gK hh2 e2;rw[h1]at g1;cases g1;have:=r1.int_eq;subst this;have gl:=g5.length;exact⟨a,xs',n,w2,rfl,rfl,g4,h0,by rw[gl];exact hn,by rw[gl];exact hl,k σ _ Z2 (hh2.chg (xs:=xs') (jZ e2) h1 ((Reps.takeV _ g5).append (.cons r2 (Reps.dropV _ g5)))) (t1.trans t2)⟩
  |_=>cases e
end
noncomputable def yL:List D->Option (List (aG×D))
 |[]=>some []
 |k::v::r=>(iP k).bind fun k=>(yL r).bind fun es=>some ((k,v)::es)
 |_=>none
section
variable{K:Fg}
noncomputable def fW(ps:List (V×V)):List V:=ps.flatMap fun p=>[p.1,p.2]
theorem yK{Z:Hp}:∀{ps:List (V×V)} {xs:List D} {es:List (aG×D)},Reps K Z (fW ps) xs->yL xs=some es->∃kvs:List (aG×V),ps=kvs.map (fun kv=>(kV kv.1,kv.2))/\io K Z kvs es
 |[],xs,es,r,h=>by
  cases(show Reps K Z [] xs from r);cases h;exact⟨[],rfl,rfl,.nil⟩
 | (x,y)::ps,xs,es,r,h=>by
  have r':Reps K Z (x::y::fW ps) xs:=r
  match xs,r' with
  |_::_::_,.cons r1 (.cons r2 r3)=>
   obtain⟨ky,e1,h⟩:=bind_some h;obtain⟨fs,e2,h⟩:=bind_some h;cases h;obtain⟨kvs,rfl,q1,q2⟩:=yK r3 e2;obtain rfl:=dU r1 e1;exact⟨(ky,y)::kvs,rfl,by simp[q1],.cons r2 q2⟩
end
section
variable{X:Cx}{pos:Pos}{ks:List (Option Expr)}{vs:List Expr}{k v:Expr}{fs:Dv->Option (List D)}{fk fv:Dv->Option D}
theorem zM{e:Expr}{lo hi:Option Expr}{f:Dv->Option D}{fl fu:Dv->Option (Option Int)}{p2:Pos}(he:EV X e f)(hl:OV X lo fl)(hu:OV X hi fu):EO X (.Subscript e (.Slice lo hi none p2) pos) (wY (nN f fl fu)):=
 PE.imp (rS (sl_list.or (sl_tup.or vc)) he hl hu) fun σ H Q h=>by
  obtain⟨H₀,Z₀,Z,δ,d,hh,e,k⟩:=h;obtain⟨l,e0,e⟩:=bind_some e;obtain⟨x,e1,e0⟩:=bind_some e0;obtain⟨i,e2,e0⟩:=bind_some e0;obtain⟨j,e3,e0⟩:=bind_some e0;refine⟨H₀,Z₀,Z,δ,x,hh,e1,fun v Z1 H1 hh1 t1 r1=>⟨H₀,Z₀,Z1,δ,i,hh1,e2,fun Z2 H2 hh2 t2=>⟨H₀,Z₀,Z2,δ,j,hh2,e3,fun Z3 H3 hh3 t3=>?_⟩⟩⟩
  have r3:=(r1.same t2).same t3;have tt:=(t1.trans t2).trans t3;cases r3 with
  | @lst a xs ds h1 q1=>
   cases e0;cases e;exact .inl ⟨_,_,rfl,SqL.same h1 hh3.zh,fun p hp=>k p _ Z3 H3 hh3 tt hp (q1.cut i j)⟩
  | @tup a xs ds h1 q1=>
   simp only[ue]at e0;cases e0;cases e
  |_=>cases e0
end
noncomputable def rL(ns:List Str)(b:Sf)(bx:Xf)(bs:Sf):Sf:=fun δ=>match bx δ with
 |some (n,δ')=>if ns.contains n=true then bs δ' else none
 |none=>b δ
noncomputable def mK(i:Nat)(fs:Dv->Option (List D))(tbl:List (Str×(List D->Option Str))):Dv->Option Str:=fun δ=>(oV i δ).bind fun d=>(ie d).bind fun n=>(tbl.lookup n).bind fun g=>(fs δ).bind g
section
variable{P:Program}{w:World}{K:PySem.W.Frag}{mg:Str->Option Value}{base:Heap}
theorem E2{k:Nat}:∀n g,([]:List (Str×(List D->Option Str))).lookup n=some g->∃j,j<=k/\CalX P w K mg base n j g []/\Fnm K mg n:=fun _ _ h=>by cases h
theorem B5{k j j':Nat}{c:Str}{gc:List D->Option Str}{gv:List D->Option D}{tbl:List (Str×(List D->Option Str))}(hj:j<=k)(Y:CalX P w K mg base c j gc [])(V:CalF P w K mg base c j' gv)(h:∀n g,tbl.lookup n=some g->∃j,j<=k/\CalX P w K mg base n j g []/\Fnm K mg n):∀n g,((c,gc)::tbl).lookup n=some g->∃j,j<=k/\CalX P w K mg base n j g []/\Fnm K mg n:=fun n g e=>by
 rw[List.lookup_cons]at e;split at e
 ·rename_i hn
  cases e;have:n=c:=by simpa using hn
  subst this;obtain⟨fa,fd,ps,_,h1,h2,_,_⟩:=V.ex;exact⟨j,hj,Y,⟨fa,h1,h2⟩⟩
 ·exact h n g e
end
section
variable{m:Bool}{X:Cx}{e:Expr}{es:List Expr}{p pos:Pos}{fs:Dv->Option (List D)}
theorem zB(i:Nat){x:Str}{k:Nat}{tbl:List (Str×(List D->Option Str))}(hT:∀n g,tbl.lookup n=some g->∃j,j<=k/\CalX X.prog X.w X.K X.mg X.base n j g []/\Fnm X.K X.mg n)(hr:Room k X.A)(ha:AV X (e::es) fs)(hN:X.N[i]? = some x:=by rfl)(hv:nO X.env.scope x:=by first|exact Or.inl rfl|exact Or.inr (Or.inl rfl)|exact Or.inr (Or.inr rfl))(hdb:(x==("__debug__":Str))=false:=by decide)(hcd:(x==("__classdict__":Str))=false:=by decide)
  (he:starEach (e::es) X.env=(false,eval e X.env)::starEach es X.env:=by rfl) (hpl:(backTo pos (starEach es X.env)).any (·.1)=false:=by rfl):EX m X (.Call (.Name x p) (e::es) [] pos) (mK i fs tbl):=by
 intro pins s σ H Q I h;obtain⟨H₀,Z₀,Z,δ,n,hh,e0,k⟩:=h;unfold mK at e0;obtain⟨c,e1,ea⟩:=bind_some e0;obtain⟨fnm,e2,eb⟩:=bind_some ea;obtain⟨g,e3,ec⟩:=bind_some eb;obtain⟨as,e4,ed⟩:=bind_some ec;have:=pc e2;subst this;obtain⟨v,hσ,rv⟩:=hh.read e1;obtain⟨j,hj,Y,⟨fb,hns,hmb⟩⟩:=hT fnm g e3;obtain⟨fa,fd,ps,ds,dv,F,hm,hk,hb,hd,hdd⟩:=Y.ex;have hfa:fb=fa:=by have:=hmb.symm.trans hm;simpa using this
 subst hfa;have hva:v=.ref fb:=by
  cases rv with
  |opq o=>
   cases o with
   |fn h1=>rw[hns]at h1;cases h1;rfl
   |dct h1 _=>exact absurd h1 fun z=>wg z
 subst hva;refine wpAny_Call_Name_kw (b0 (ca hN hv hdb hcd pins s σ H (fun v' H'=>v'=.ref fb/\H'=H) I ⟨_,hσ,rfl,rfl⟩) fun u s0 hq=>?_)
 obtain⟨v',H',I0,r0,hv',hH'⟩:=hq;subst hv';subst hH';cases(show u=Value.ref fb from r0);refine PySem.W.callWith_K (h₀:=X.base) I0.ok.mod.kin hk (b0 (ha pos pins s0 σ H' (fun vs H1=>∃Z1,Hold X.K H₀ Z₀ Z1 δ σ H1/\Same Z Z1/\Reps X.K Z1 vs as) I0 ⟨H₀,Z₀,Z,δ,as,hh,e4,fun vs Z1 H1 hh1 t1 r1=>⟨Z1,hh1,t1,r1⟩⟩) fun us s1 ⟨vs,H1,I1,r,Z1,hh1,t1,r1⟩=>⟨I1.kIn,?_⟩) he hpl
 have r2:Vals (vs++dv) (us++ds):=r.append hd;have sp:Gh X.K g (vs++dv) H1 Q (fun c ox H2=>∃C xx Z2,c=.ref C/\ox=some xx/\PySem.W.nsIn X.K mainGlobals n=some (some (.ref C))/\New Z1 H1 Z2 H2/\Z2 xx=some (n9 xx C)/\H1 xx=none):=⟨Z1,as++[],n,hh1.zh,r1.append (hdd Z1),by rw[List.append_nil];exact ed,fun C xx Z2 H2 hC n2 h2 h3=>⟨C,xx,Z2,rfl,rfl,hC,n2,h2,h3⟩⟩
 have hl:(us++ds).length=ps.length:=by rw[<-r2.length];exact F.len _ _ _ _ sp
 refine wpAny_call (codeAny_mono (F.run X.A X.stack s1 H1 ⟨us,[]⟩ (us++ds) (vs++dv) Q _ (hr.mono hj) I1.env0 (hb s1 us I1.kIn hl) r2 sp) fun res s' hq=>?_)
 cases res with
 |error ee=>
  obtain⟨xx,C',H2,rfl,T,C,xx',Z2,hC',hx',hC,n2,h2,h3⟩:=hq;cases hx';cases hC';exact k pins σ H1 Z1 s1 _ s' hh1 t1 I1 (.thrown hC rfl T n2 h2 h3)
 |ok fl=>
  cases fl with
  |ret z=>exact I1.after hq
  |next=>exact False.elim hq
  |brk=>exact False.elim hq
  |cont=>exact False.elim hq
end
section
variable{X:Cx}{body suite:List Stmt}{b₀:Stmt}{b bs:Sf}{bx:Xf}{np hpos pos:Pos}
theorem AC{W:Str}{ns:List Str}(O:Hnd X.K W ns)(hgW:Gl X W)(hcalm:X.calm=true)(hstk:X.stack=X.env::X.outer)
  (hb:BV X.nox body b) (hx:∀pn E',BX false (Kc X pn E') body bx) (hs:∀x,BV (IQ X x) (b₀ :: suite) bs) (hfrm:X.env.frame=some X.env.locals:=by rfl) (hdb:(W==("__debug__":Str))=false:=by decide) :
  SV X (.Try body [.ExceptHandler (some (.Name W np)) none (b₀ :: suite) hpos] [] [] pos) (rL ns b bx bs):=by
 intro pins s σ H D I h;obtain⟨H₀,Z₀,Z,δ,r,hh,e,k⟩:=h;unfold rL at e;cases hbx:bx δ with
 |none=>
  rw[hbx]at e;refine wpAny_Try_except (wpAny_mono (hb pins s σ H D (I.wish _) ⟨H₀,Z₀,Z,δ,r,hh,e,k⟩) (fun f s1 q=>?_) fun _ _ z=>False.elim z)
  have q:=q.unwish;cases f with
  |next=>exact wpAny_execs_nil q
  |brk=>exact q
  |cont=>exact q
  |ret u=>exact q
 |some pr=>
  obtain⟨nm,δ'⟩:=pr;rw[hbx]at e;dsimp only at e;split at e
  rotate_left
  ·cases e
  rename_i hcn;obtain⟨fl,δ2⟩:=r;obtain⟨wC,hW,FW,L⟩:=O.ex;obtain⟨C,F,hsub⟩:=L.get hcn;have hhd:=I.ok.hd hcalm;refine wpAny_Try_except (wpAny_mono (hx (X.pn++pins) _ [] s σ H ⟨fun _ _=>False,fun _ _=>False,fun _ _=>False,fun _ _=>False⟩ (Inv.toT I _) ⟨H₀,Z₀,Z,δ,(nm,δ'),hh,hbx,?_⟩) (fun f s1 q=>?_) fun _ _ z=>z)
  rotate_left
  ·cases f with
   |next=>obtain⟨_,_,_,q⟩:=q;exact q.elim
   |brk=>obtain⟨_,_,_,q⟩:=q;exact q.elim
   |cont=>obtain⟨_,_,_,q⟩:=q;exact q.elim
   |ret u=>obtain⟨_,_,_,_,_,q⟩:=q;exact q.elim
  intro pins' σ' H' Z' s1 e1 s2 hh' sm I1 fg;cases fg with
  |made hm _ _ _ _=>cases hm
  | @thrown x C' H2 Z2 hC' he T nw hx2 hxn=>
   subst he;have:C'=C:=by have:=hC'.symm.trans F.nm;simpa using this
   subst this;have I1:Inv X pins σ' H' s1:=Inv.ofT I1;have T:Thrown X.prog X.w X.stack H' s1 x C' H2 s2:=T;have ff:∀b∈ic X.stack,∃o,s1.heap.get? b=some o/\∀vs,o.data≠.fields vs:=fun b hb=>(I1.stack.mem hb).2
   obtain⟨B,t,fl0,mv⟩:=T.move ff I1.stkFree;have fl1:=fl0;rw[hstk]at fl1;refine vA (by rw[I1.ok.frames,hstk]) hfrm fl1 fun h4 held4 sm4=>?_
   refine qw held4 fun h5 fl5 sm5=>?_
   have fl5':=fl5;rw[<-hstk]at fl5';have T5:=mv h5 t fl5' (sm4.trans sm5);have I5:Inv X pins σ' H2 { s2 with heap:=h5 }:=I1.call' T5.os T5.un T5.hok T5.bare (fun _ z=>nomatch z);have hmW:=PySem.W.mg_of I.ok.mod.kin I.ok.mod.glob hW;refine wpAny_handleBy_cons (codeAny_handlers_test (lz (X:=IQ X x) (Inv.toH I5 x) hgW hmW ?_ hdb)) (by intro q;cases q);obtain⟨oe,hoe,hoec⟩:=fl5.there;refine xw I5.kIn F FW hsub hoe hoec (codeAny_handlers_suite ?_);refine nZ fl5 fun h6 fl6 sm6=>?_
   have fl6':=fl6;rw[<-hstk]at fl6';have T6:=mv h6 t fl6' ((sm4.trans sm5).trans sm6);have I6:Inv X pins σ' H2 { s2 with heap:=h6 }:=I1.call' T6.os T6.un T6.hok T6.bare (fun _ z=>nomatch z);obtain⟨ob,hob,_,hF⟩:=(T6.hok x _ T6.is).1;have I6':Inv X pins σ' (upd H2 x (.frz ob (n9 x C'))) { s2 with heap:=h6 }:=Inv.still I6 T.is hob;have nw':=nw.still (ob:=ob) hh'.zh hx2 hxn;have hh7:Hold X.K H₀ Z₀ (upd Z2 x (.frz ob (n9 x C'))) δ' σ' (upd H2 x (.frz ob (n9 x C'))):=hh'.new nw';refine wpAny_mono (hs x pins _ _ _ D (Inv.toH I6' x) ⟨H₀,Z₀,_,_,(fl,δ2),hh7,e,fun σ8 H8 Z8 hh8 t8=>k σ8 H8 Z8 hh8 ((sm.trans nw'.z).trans t8)⟩) (fun f s8 q=>?_) fun _ _ z=>False.elim z
   cases f with
   |next=>
    obtain⟨σ8,H8,I8,q⟩:=q;exact⟨σ8,H8,Inv.ofH hhd I8,q⟩
   |brk=>
    obtain⟨σ8,H8,I8,q⟩:=q;exact⟨σ8,H8,Inv.ofH hhd I8,q⟩
   |cont=>
    obtain⟨σ8,H8,I8,q⟩:=q;exact⟨σ8,H8,Inv.ofH hhd I8,q⟩
   |ret u=>
    obtain⟨v,σ8,H8,I8,rv,q⟩:=q;exact⟨v,σ8,H8,Inv.ofH hhd I8,rv,q⟩
end
noncomputable def wZ(Z:Hp):Hp:=fun c=>match Z c with
 |some (.lst _)=>none
 |some (.frz _ (.lst _))=>none
 |o=>o
theorem noZ_sub{Z:Hp}:Same (wZ Z) Z:=fun c o e=>by
 unfold wZ at e;split at e
 ·cases e
 ·cases e
 ·exact e
theorem BB{Z:Hp}(b:Addr)(xs:List V)(r:Rd Z b (.tup xs)):Rd (wZ Z) b (.tup xs):=by
 rcases r with r|⟨o,r⟩
 ·exact .inl (by unfold wZ;rw[r])
 ·exact .inr ⟨o,by unfold wZ;rw[r]⟩
theorem sj{Z:Hp}{c:Addr}(e:Z c=none):wZ Z c=none:=by unfold wZ;rw[e]
theorem BC{Z:Hp}{c:Addr}{xs:List V}:wZ Z c≠some (.lst xs):=fun e=>by
 unfold wZ at e;split at e
 ·cases e
 ·cases e
 ·rename_i h1 h2
  exact h1 _ e
theorem vB{Z:Hp}{c:Addr}{o:Obj}{xs:List V}:wZ Z c≠some (.frz o (.lst xs)):=fun e=>by
 unfold wZ at e;split at e
 ·cases e
 ·cases e
 ·rename_i h1 h2
  exact h2 _ _ e
noncomputable def Zn:Hp:=fun _=>none
@[simp] noncomputable def DO(i:Nat)(fk:Dv->Option D):Sf:=fun δ=>(fk δ).bind fun dk=>(xH δ[i]?).bind fun ds=>match dk with
 |.int k=>if 0<=k/\k.toNat<ds.length/\ds.length<sizeLine then some (.nx,δ.set i (.ow (ds.eraseIdx k.toNat)))else none
 |_=>none
@[simp] noncomputable def DN(i:Nat):Sf:=fun δ=>(xH δ[i]?).bind fun ds=>if ds.length<sizeLine then some (.nx,δ.set i (.ow ds.reverse))else none
noncomputable def pW(i:Nat)(fs:Dv->Option (List D))(g:List D->Option D):Sf:=fun δ=>(fs δ).bind fun as=>if lfA as=true/\i < δ.length then(g as).bind fun d=>match d with
  |.tuple [.list es,e]=>some (.nx,δ.set i (.fz (.tuple [.list es,e])))
  |_=>none
 else none
noncomputable def sJ:Sl->Sl
 |.fz (.list ds)=>if lfA ds=true then .fz (.list ds)else .un
 |s=>if sD s=true then s else .un
noncomputable def ng:Dv->Dv
 |[]=>[]
 |s::r=>sJ s::FH r
noncomputable def vj(i:Nat)(f:Dv->Option D):Sf:=fun δ=>(f δ).bind fun v=>match δ[i]? with
 |some (.fz (.tuple [.list es,e]))=>if es.length<sizeLine/\jy v=true/\lfA es=true/\jy e=true then some (.nx,(ng δ).set i (.fz (.tuple [.list (es++[v]),e])))else none
 |_=>none
noncomputable def rM(i:Nat):Sf:=fun δ=>match δ[i]? with
 |some (.fz (.tuple [.list es,e]))=>if 0<es.length/\es.length<sizeLine/\lfA es=true/\jy e=true then some (.nx,(ng δ).set i (.fz (.tuple [.list (es.eraseIdx (es.length-1)),e])))else none
 |_=>none
section
variable{X:Cx}
def Gz:V->List V->Hp->VK->Prop:=fun x vs H Q=>∃l xs k y,x=.ref l/\vs=[.int k]/\H l=some (.lst xs)/\0<=k/\xs[k.toNat]? = some y/\xs.length<sizeLine/\Q y (upd H l (.lst (xs.eraseIdx k.toNat)))
def GA:V->List V->Hp->VK->Prop:=fun x vs H Q=>∃l xs y,x=.ref l/\vs=[]/\H l=some (.lst xs)/\xs[xs.length-1]? = some y/\xs.length<sizeLine/\Q y (upd H l (.lst (xs.eraseIdx (xs.length-1))))
def Jy:V->List V->Hp->VK->Prop:=fun x vs H Q=>∃l xs,x=.ref l/\vs=[]/\H l=some (.lst xs)/\xs.length<sizeLine/\Q .non (upd H l (.lst xs.reverse))
theorem Vals.eraseV:∀{xs:List V} {us:List Value} (n:Nat),Vals xs us->Vals (xs.eraseIdx n) (us.eraseIdx n)
 |_,_,_,.nil=>.nil
 |_,_,0,.cons h r=>r
 |_,_,n+1,.cons h r=>.cons h (Vals.eraseV n r)
theorem Vals.revV:∀{xs:List V} {us:List Value},Vals xs us->Vals xs.reverse us.reverse
 |_,_,.nil=>.nil
 |_,_,.cons h r=>by
  rw[reverse_cons,reverse_cons];exact(Vals.revV r).append (.cons h .nil)
theorem Vals.atV:∀{xs:List V} {us:List Value} {n:Nat} {y:V},Vals xs us->xs[n]? = some y->∃u,us[n]? = some u/\RelV y u
 |_,_,n,y,.nil,h=>by simp at h
 |_,_,0,y,.cons h r,e=>by cases e;exact⟨_,rfl,h⟩
 |_,_,n+1,y,.cons h r,e=>Vals.atV (n:=n) r e
theorem BG:FL X "list.pop" Gz:=by
 intro pins s σ H x vs v us Q I rx rv h;obtain⟨l,xs,k,y,rfl,rfl,hH,h0,hy,hz,q⟩:=h;cases rx;obtain⟨u,rfl,⟨t,rfl⟩⟩:=rv.one;obtain⟨z,its,n,r,hl,e⟩:=I.lstM hH;have hlen:xs.length=its.length:=r.length;obtain⟨yv,hyv,ry⟩:=Vals.atV r hy;have hk:k.toNat<its.length:=(List.getElem?_eq_some_iff.mp hyv).1;have hf:Builtin.List.listFitsIndex k=true:=by
  unfold Builtin.List.listFitsIndex;have:k<16777217:=by rw[sizeLine_eq]at hz;omega
  simp only[Bool.and_eq_true,decide_eq_true_eq];exact⟨by omega,by omega⟩
 have hi:seqIndex? k its.toArray.size=some k.toNat:=by
  unfold seqIndex?;rw[size_toArray];simp[show ¬k<0 by omega];omega
 refine call_meets slot_list_pop ⟨_,e,rfl⟩ PySem.F.entry_list_pop (PySem.F.args_list_pop_2 _ _) (PySem.MeetsSeq.list_pop_at l its.toArray n k t k.toNat yv hf hi (by simpa using hyv) (by rw[size_toArray,<-hlen];omega)) ⟨e,?_⟩;refine⟨y,_,I.lset (its':=its.eraseIdx k.toNat) hH e ?_ (Vals.eraseV _ r) ?_,ry,q⟩
 ·apply Array.toList_inj.mp
  simp
 ·rw[List.length_eraseIdx];split<;>omega
theorem BH:FL X "list.pop" GA:=by
 intro pins s σ H x vs v us Q I rx rv h;obtain⟨l,xs,y,rfl,rfl,hH,hy,hz,q⟩:=h;cases rx;cases rv;obtain⟨z,its,n,r,hl,e⟩:=I.lstM hH;have hlen:xs.length=its.length:=r.length;obtain⟨yv,hyv,ry⟩:=Vals.atV r hy;rw[hlen]at hyv q;refine call_meets slot_list_pop ⟨_,e,rfl⟩ PySem.F.entry_list_pop (PySem.F.args_list_pop_1 _) (PySem.MeetsSeq.list_pop_last l its.toArray n yv (by simpa using hyv) (by rw[size_toArray,<-hlen];omega)) ⟨e,?_⟩;refine⟨y,_,I.lset (its':=its.eraseIdx (its.length-1)) hH e ?_ (Vals.eraseV _ r) ?_,ry,q⟩
 ·apply Array.toList_inj.mp
  simp
 ·rw[List.length_eraseIdx];split<;>omega
theorem EB:FL X "list.reverse" Jy:=by
 intro pins s σ H x vs v us Q I rx rv h;obtain⟨l,xs,rfl,rfl,hH,hz,q⟩:=h;cases rx;cases rv;obtain⟨z,its,n,r,hl,e⟩:=I.lstM hH;have hlen:xs.length=its.length:=r.length;refine call_meets PySem.F.slot_list_reverse ⟨_,e,rfl⟩ PySem.F.entry_list_reverse (PySem.F.args_list_reverse_1 _) (PySem.AutoSeq1.list_reverse_list_0 l its.toArray n (by rw[size_toArray,<-hlen];omega)) ⟨e,?_⟩;refine⟨.non,_,I.lset (its':=its.reverse) hH e ?_ (Vals.revV r) ?_,rfl,q⟩
 ·apply Array.toList_inj.mp
  simp
 ·rw[List.length_reverse];omega
theorem Reps.eraseV{K:Fg}{Z:Hp}:∀{xs:List V} {us:List D} (n:Nat),Reps K Z xs us->Reps K Z (xs.eraseIdx n) (us.eraseIdx n)
 |_,_,_,.nil=>.nil
 |_,_,0,.cons h r=>r
 |_,_,n+1,.cons h r=>.cons h (Reps.eraseV n r)
theorem Reps.revV{K:Fg}{Z:Hp}:∀{xs:List V} {us:List D},Reps K Z xs us->Reps K Z xs.reverse us.reverse
 |_,_,.nil=>.nil
 |_,_,.cons h r=>by
  rw[reverse_cons,reverse_cons];exact(Reps.revV r).append (.cons h .nil)
theorem Reps.atV{K:Fg}{Z:Hp}:∀{xs:List V} {us:List D} {n:Nat},Reps K Z xs us->n<us.length->∃y,xs[n]? = some y
 |_,_,n,.nil,h=>absurd h (Nat.not_lt_zero _)
 |_,_,0,.cons h r,e=>⟨_,rfl⟩
 |_,_,n+1,.cons h r,e=>Reps.atV (n:=n) r (by simpa using e)
variable{e b:Expr}{p pos apos:Pos}{fk fv:Dv->Option D}
theorem Dr(i:Nat){x:Str}{cpos:Pos}(hk:EV X b fk)(hN:X.N[i]? = some x:=by rfl)(hv:nO X.env.scope x:=by first|exact Or.inl rfl|exact Or.inr (Or.inl rfl)|exact Or.inr (Or.inr rfl))(hd:(x==("__debug__":Str))=false:=by decide)(hcd:(x==("__classdict__":Str))=false:=by decide)
  (hbase:attributeBase (.Name x p) "pop" X.env (eval (.Name x p) X.env)=eval (.Name x p) X.env:=by rfl)
  (hfew:((backTo cpos (starEach [b] X.env)).all (fun x=>!x.1)&&(backToKw cpos (keywordEach [] X.env)).all (fun x=>x.1.isSome)
   && decide ([b].length+([]:List Keyword).length+(if([]:List Keyword).isEmpty then 0 else 1)<30))=true:=by rfl)
  (hline:(apos.endLine==cpos.line)=true:=by rfl) (hs:starEach [b] X.env=(false,eval b X.env)::starEach [] X.env:=by rfl) (hplain:(backTo cpos (starEach [] X.env)).any (·.1)=false:=by rfl)
  (hsw:swapsWith (.Call (.Attribute (.Name x p) "pop" apos) [b] [] cpos) none pos.line X.env=pure false:=by rfl):SV X (.Expr (.Call (.Attribute (.Name x p) "pop" apos) [b] [] cpos) pos) (DO i fk):=
 PS.imp (eY (rT plainAttrs_list slot_list_pop PySem.F.type_list_pop BG (ca hN hv hd hcd) (bK hk cM hs) hbase hfew hline hs hplain) hsw) fun D σ H h=>by
  obtain⟨H₀,Z₀,Z,δ,r,hh,e,k⟩:=h;obtain⟨dk,e0,e⟩:=bind_some e;obtain⟨ds,e2,e⟩:=bind_some e;cases dk with
  |int n=>
   obtain⟨⟨h0,hn,hl⟩,e⟩:=bg e;cases e;obtain⟨a,xs,h1,h4,h5⟩:=gK hh e2;refine⟨_,h1,.inl ⟨rfl,xs,SqL.of h4⟩,H₀,Z₀,Z,δ,.int n,hh,e0,fun w Z1 H1 hh1 t1 r1=>?_⟩
   obtain⟨a',xs',g1,g4,g5⟩:=gK hh1 e2;rw[h1]at g1;cases g1;have:=r1.int_eq;subst this;have gl:=g5.length;obtain⟨y,hy⟩:=Reps.atV g5 hn;exact⟨a,xs',n,y,rfl,rfl,g4,h0,hy,by rw[gl];exact hl,k σ _ Z1 (hh1.chg (xs:=xs') (jZ e2) h1 (Reps.eraseV _ g5)) t1⟩
  |_=>cases e
theorem Dq(i:Nat){x:Str}{cpos:Pos}(hN:X.N[i]? = some x:=by rfl)(hv:nO X.env.scope x:=by first|exact Or.inl rfl|exact Or.inr (Or.inl rfl)|exact Or.inr (Or.inr rfl))(hd:(x==("__debug__":Str))=false:=by decide)(hcd:(x==("__classdict__":Str))=false:=by decide)
  (hbase:attributeBase (.Name x p) "reverse" X.env (eval (.Name x p) X.env)=eval (.Name x p) X.env:=by rfl)
  (hline:(apos.endLine==cpos.line)=true:=by rfl)
  (hsw:swapsWith (.Call (.Attribute (.Name x p) "reverse" apos) [] [] cpos) none pos.line X.env=pure false:=by rfl):SV X (.Expr (.Call (.Attribute (.Name x p) "reverse" apos) [] [] cpos) pos) (DN i):=
 PS.imp (eY (yJ plainAttrs_list PySem.F.slot_list_reverse PySem.F.type_list_reverse EB (ca hN hv hd hcd) hbase hline) hsw) fun D σ H h=>by
  obtain⟨H₀,Z₀,Z,δ,r,hh,e,k⟩:=h;obtain⟨ds,e2,e⟩:=bind_some e;obtain⟨hl,e⟩:=bg e;cases e;obtain⟨a,xs,h1,h4,h5⟩:=gK hh e2;have gl:=h5.length;exact⟨_,h1,.inl ⟨rfl,xs,SqL.of h4⟩,a,xs,rfl,rfl,h4,by rw[gl];exact hl,k σ _ Z (hh.chg (xs:=xs) (jZ e2) h1 (Reps.revV h5)) (Same.refl _)⟩
end
theorem qq:∀{es:List D} {v:D},lfA es=true->jy v=true->lfA (es++[v])=true
 |[],v,_,h=>by show(jy v&&true)=true;rw[h];rfl
 |e::es,v,h,hv=>by
  obtain⟨a,b⟩:=jx h;show(jy e&&lfA (es++[v]))=true;rw[a,qq b hv];rfl
theorem oW:∀{es:List D},lfA es=true->∀n,lfA (es.eraseIdx n)=true
 |[],h,n=>by simpa using h
 |e::es,h,0=>(jx h).2
 |e::es,h,n+1=>by
  obtain⟨a,b⟩:=jx h;show(jy e&&lfA (es.eraseIdx n))=true;rw[a,oW b n];rfl
structure Trk (K:Fg) (i:Nat) (t a b:Addr) (H₀ Z₀ Z:Hp) (δ:Dv) (σ:St):Prop where
 s0:σ[0]? = some (some (.ref b))
 si:σ[i]? = some (some (.ref t))
 zb:∃o ys,Z b=some (.frz o (.lst ys))
 tr:∃v xs es d,δ[i]? = some (.fz (.tuple [.list es,d]))/\SqT K Z t [.ref a,v]/\Z a=some (.lst xs)/\Reps K Z xs es/\Rep K Z v d
 ha:H₀ a=none
 hz:Z₀ a=none
theorem Trk.same{K:Fg}{i:Nat}{t a b:Addr}{H₀ Z₀ Z Z':Hp}{δ δ':Dv}{σ σ':St}(h:Trk K i t a b H₀ Z₀ Z δ σ)(s:Same Z Z')(h0:σ'[0]? = σ[0]?)(h1:σ'[i]? = σ[i]?)(h2:δ'[i]? = δ[i]?):Trk K i t a b H₀ Z₀ Z' δ' σ':=
 ⟨by rw[h0];exact h.s0,by rw[h1];exact h.si,let ⟨o,ys,e⟩:=h.zb; ⟨o,ys,s _ _ e⟩,let ⟨v,xs,es,d,q,e1,e2,e3,e4⟩:=h.tr; ⟨v,xs,es,d,by rw[h2];exact q,SqT.same e1 s,s _ _ e2,e3.same s,e4.same s⟩,h.ha,h.hz⟩
def K3(K:Fg)(i:Nat)(t a b:Addr)(f:Sf):TS:=fun D σ H=>∃H₀ Z₀ Z δ r,Hold K H₀ Z₀ Z δ σ H/\Trk K i t a b H₀ Z₀ Z δ σ /\ f δ = some r/\∀ σ' H' Z',Hold K H₀ Z₀ Z' r.2 σ' H'->(r.1=.nx->Trk K i t a b H₀ Z₀ Z' r.2 σ')->r.1.to K Z' D σ' H'
def FK(X:Cx)(i:Nat)(st:Stmt)(f:Sf):Prop:=∀t a b,PS X st (K3 X.K i t a b f)
def KD(K:Fg)(i:Nat)(t a b:Addr)(f:Sf):TS:=fun D σ H=>∃H₀ Z₀ Z δ r,Hold K H₀ Z₀ Z δ σ H/\Trk K i t a b H₀ Z₀ Z δ σ /\ f δ = some r/\∀ σ' H' Z',Hold K H₀ Z₀ Z' r.2 σ' H'->r.1.to K Z' D σ' H'
def IU(X:Cx)(i:Nat)(sts:List Stmt)(f:Sf):Prop:=∀t a b,PSs X sts (KD X.K i t a b f)
section
variable{K:Fg}{H₀ Z₀ Z H:Hp}{δ:Dv}{σ:St}
theorem zR{j:Nat}{s:Sl}(e:(ng δ)[j]? = some s):s=.un\/(δ[j]? = some s/\(sD s=true\/(j=0/\∃ds,s=.fz (.list ds)/\lfA ds=true))):=by
 cases δ with
 |nil=>cases e
 |cons x r=>
  cases j with
  |zero=>
   have e:sJ x=s:=Option.some.inj e;unfold sJ at e;split at e
   ·split at e
    ·subst e;exact .inr ⟨rfl,.inr ⟨rfl,_,rfl,by assumption⟩⟩
    ·exact .inl e.symm
   ·split at e
    ·subst e;exact .inr ⟨rfl,.inl (by assumption)⟩
    ·exact .inl e.symm
  |succ j=>
   rcases Cg (δ:=r) (j:=j) e with z|⟨z,h⟩
   ·exact .inl z
   ·exact .inr ⟨z,.inl h⟩
theorem tf:(ng δ).length = δ.length:=by
 cases δ with
 |nil=>rfl
 |cons x r=>simp[ng,FH]
theorem Hold.toldPut(h:Hold K H₀ Z₀ Z δ σ H){i:Nat}{t a b:Addr}{xs ys:List V}{es':List D}{d:D}{v:V}(hi:i≠0)(hsi:σ[i]? = some (some (.ref t)))(hs0:σ[0]? = some (some (.ref b)))(hb:∃o us,Z b=some (.frz o (.lst us)))(ht:SqT K Z t [.ref a,v])(h2:H₀ a=none)(h3:Z₀ a=none)(h4:Z a=some (.lst xs))(r:Reps K Z ys es')(hl:lfA es'=true)(rd:Rep K Z v d)(hld:jy d=true):
  Hold K H₀ Z₀ (upd Z a (.lst ys)) ((ng δ).set i (.fz (.tuple [.list es',d]))) σ (upd H a (.lst ys))/\(i < δ.length->Trk K i t a b H₀ Z₀ (upd Z a (.lst ys)) ((ng δ).set i (.fz (.tuple [.list es',d]))) σ):=by
 have mv:∀c ws,Rd Z c (.tup ws)->Rd (upd Z a (.lst ys)) c (.tup ws):=fun c ws r=>by
  rcases r with r|⟨o,r⟩
  ·have:c≠a:=fun z=>by subst z;rw[h4]at r;cases r
   exact .inl (by rw[au this];exact r)
  ·have:c≠a:=fun z=>by subst z;rw[h4]at r;cases r
   exact .inr ⟨o,by rw[au this];exact r⟩
 have hba:b≠a:=fun z=>by
  obtain⟨o,us,e⟩:=hb;subst z;rw[h4]at e;cases e
 have told:Rep K (upd Z a (.lst ys)) (.ref t) (.tuple [.list es',d]):=.tup (lR mv ht) (.cons (.lst (SqL.of ay) (Reps.lf mv r hl)) (.cons (Rep.lf mv rd hld) .nil));have oth:∀(j:Nat) (s:Sl),((ng δ).set i (.fz (.tuple [.list es',d])))[j]? = some s->(i=j/\s=.fz (.tuple [.list es',d]))\/s=.un\/(i≠j /\ δ[j]? = some s/\(sD s=true\/(j=0/\∃ds,s=.fz (.list ds)/\lfA ds=true))):=fun j s q=>by
  by_cases hj:i=j
  ·subst hj
   have hli:i<(ng δ).length:=by have:=(List.getElem?_eq_some_iff.mp q).1;simpa using this
   rw[List.getElem?_set_self hli]at q;exact .inl ⟨rfl,(Option.some.inj q).symm⟩
  ·rw[getElem?_set_ne hj]at q
   rcases zR q with z|⟨q,hs⟩
   ·exact .inr (.inl z)
   ·exact .inr (.inr ⟨hj,q,hs⟩)
 refine⟨⟨fun c o q=>?_,fun c o q=>?_,fun c o q=>?_,fun c hc=>?_,by simp[tf,h.len],fun j d q=>?_,fun j d q=>?_,fun j k d1 d2 c hjk q1 q2=>?_,fun j d q=>?_,h.nf.upd a⟩,fun hil=>?_⟩
 ·by_cases hc:c=a
  ·subst hc;rw[ay]at q ⊢;exact q
  ·rw[au hc]at q ⊢;exact h.zh c o q
 ·rw[au (aH q h2)];exact h.h0 c o q
 ·rw[au (aH q h3)];exact h.z0 c o q
 ·rw[au (fun z=>hc (by rw[z];exact h2))];exact h.zb c hc
 ·rcases oth j _ q with⟨rfl,z⟩|z|⟨hj,q,hs⟩
  ·cases z
   exact⟨_,hsi,told⟩
  ·cases z
  ·obtain⟨u,g1,g2⟩:=h.fz j d q
   rcases hs with hs|⟨rfl,ds,z,hs⟩
   ·exact⟨u,g1,Rep.lf mv g2 hs⟩
   ·cases z
    rw[hs0]at g1;cases g1;obtain⟨o,us,e⟩:=hb;refine⟨_,hs0,?_⟩;cases g2 with
    |lst sq rr=>
     have eb:upd Z a (.lst ys) b=some (.frz o (.lst us)):=by rw[au hba];exact e
     rcases sq with (z|⟨o2,z⟩)|z
     ·rw[e]at z;cases z
     ·rw[e]at z
      cases z;exact .lst (.inl (.inr ⟨o,eb⟩)) (Reps.lf mv rr hs)
     ·exact .lst (.inr z) (Reps.lf mv rr hs)
 ·rcases oth j _ q with⟨_,z⟩|z|⟨hj,q,hs⟩
  ·cases z
  ·cases z
  ·rcases hs with hs|⟨_,_,z,_⟩
   ·cases d with
    |l es=>
     obtain⟨c,ws,g1,g2,g3,g4,g5⟩:=h.ow j es q;have hc:c≠a:=fun z=>by subst z;rw[g3]at h4;cases h4
     exact⟨c,.lst ws,g1,g2,by rw[au hc];exact g3,by rw[au hc];exact g4,.lst (Reps.lf mv g5 hs)⟩
    |d es=>cases hs
   ·cases z
 ·rcases oth j _ q1 with⟨_,z⟩|z|⟨hj,q1,_⟩
  ·cases z
  ·cases z
  ·rcases oth k _ q2 with⟨_,z⟩|z|⟨hk,q2,_⟩
   ·cases z
   ·cases z
   ·exact h.dja j k d1 d2 c hjk q1 q2
 ·rcases oth j _ q with⟨_,z⟩|z|⟨hj,q,hs⟩
  ·cases z
  ·cases z
  ·rcases hs with hs|⟨_,_,z,_⟩
   ·cases hs
   ·cases z
 ·refine⟨hs0,hsi,?_,⟨v,ys,es',d,?_,lR mv ht,ay,Reps.lf mv r hl,Rep.lf mv rd hld⟩,h2,h3⟩
  ·obtain⟨o,us,e⟩:=hb
   exact⟨o,us,by rw[au hba];exact e⟩
  ·rw[List.getElem?_set_self (by rw[tf];exact hil)]
end
section
variable{X:Cx}{i:Nat}{e c:Expr}{es:List Expr}{st:Stmt}{sts:List Stmt}{s1 s2:Sf}{f:Dv->Option D}{fs fo:Dv->Option (List D)}{ft:Dv->Option Bool}{p p3 pos apos spos cpos rpos:Pos}
theorem Ig(h:BE X sts s1):IU X i sts s1:=fun t a b=>PSs.imp h fun D σ H q=>by
 obtain⟨H₀,Z₀,Z,δ,r,hh,_,e,k⟩:=q;exact⟨H₀,Z₀,Z,δ,r,hh,e,k⟩
theorem gC(h1:FK X i st s1)(h2:IU X i sts s2):IU X i (st::sts) (ap s1 s2):=fun t a b=>
 PSs.imp (g7 (h1 t a b) (h2 t a b)) fun D σ H h=>by
  obtain⟨H₀,Z₀,Z,δ,r,hh,tk,e,k⟩:=h;obtain⟨⟨fl,δ'⟩,e1,e⟩:=bind_some e;refine⟨H₀,Z₀,Z,δ,(fl,δ'),hh,tk,e1,fun σ' H' Z' hh' tk'=>?_⟩
  cases fl with
  |nx=>exact⟨H₀,Z₀,Z',δ',r,hh',tk' rfl,e,fun σ2 H2 Z2 hh2=>by
    have:=k σ2 H2 Z2 hh2;obtain⟨fl,δ2⟩:=r;cases fl<;>exact this⟩
  |bk=>cases e;exact k σ' H' Z' hh'
  |ct=>cases e;exact k σ' H' Z' hh'
  |rt d=>cases e;exact k σ' H' Z' hh'
theorem Du(j:Nat){x:Str}{pos':Pos}(hN:X.N.Nodup)(he:EV X e f)(h0:j≠0)(hij:j≠i)(hi:X.N[j]? = some x:=by rfl)(hx:pE X.env.scope x:=by first|exact Or.inl rfl|exact Or.inr rfl)(hs:swapsWith e (some (.Name x pos')) pos.line X.env=pure false:=by rfl)
  (hf:X.fn x=true\/X.env.scope.names.lookup x=some .local:=by first|exact .inl rfl|exact .inr rfl|assumption):FK X i (.Assign [.Name x pos'] e pos) (aI j f):=fun t a b=>
 PS.imp (dZ hN hi hx he hs hf) fun D σ H h=>by
  obtain⟨H₀,Z₀,Z,δ,r,hh,tk,e,k⟩:=h;obtain⟨x,e1,e⟩:=bind_some e;cases e;exact⟨H₀,Z₀,Z,δ,x,hh,e1,fun v Z1 H1 hh1 s1 r1=>k _ H1 Z1 (hh1.set r1) fun _=>tk.same s1 (getElem?_set_ne h0) (getElem?_set_ne hij) (getElem?_set_ne hij)⟩
theorem AI(j:Nat){x:Str}{pos':Pos}(hN:X.N.Nodup)(ha:EO X e fo)(h0:j≠0)(hij:j≠i)(hi:X.N[j]? = some x:=by rfl)(hx:pE X.env.scope x:=by first|exact Or.inl rfl|exact Or.inr rfl)(hs:swapsWith e (some (.Name x pos')) pos.line X.env=pure false:=by rfl)
  (hf:X.fn x=true\/X.env.scope.names.lookup x=some .local:=by first|exact .inl rfl|exact .inr rfl|assumption):FK X i (.Assign [.Name x pos'] e pos) (eL j fo):=fun t a b=>
 PS.imp (dZ hN hi hx ha hs hf) fun D σ H h=>by
  obtain⟨H₀,Z₀,Z,δ,r,hh,tk,e,k⟩:=h;obtain⟨ds,e1,e⟩:=bind_some e;cases e;exact⟨H₀,Z₀,Z,δ,ds,hh,e1,fun p vs Z1 H1 hh1 t1 hp r1=>k _ _ Z1 (hh1.setO hp r1) fun _=>tk.same t1 (getElem?_set_ne h0) (getElem?_set_ne hij) (getElem?_set_ne hij)⟩
theorem ua(hc:TV X c ft)(he:EV X e f):FK X i (.If c [.Return (some e) rpos] [] pos) (bH ft (bA f) dS):=fun t a b=>
 PS.imp (vm hc (pX (yA he)) pY) fun D σ H h=>by
  obtain⟨H₀,Z₀,Z,δ,r,hh,tk,e,k⟩:=h;obtain⟨x,e1,e⟩:=bind_some e;refine⟨H₀,Z₀,Z,δ,x,hh,e1,fun Z1 H1 hh1 t1=>?_⟩
  cases x with
  |true=>
   obtain⟨d,e2,e⟩:=bind_some e;cases e;exact⟨H₀,Z₀,Z1,δ,d,hh1,e2,fun v Z2 H2 hh2 t2 r2=>k σ H2 Z2 hh2 (fun z=>nomatch z) v r2⟩
  |false=>
   cases e;exact k σ H1 Z1 hh1 fun _=>tk.same t1 rfl rfl rfl
theorem AJ{x:Str}{j:Nat}(i0:i≠0)(hv':EV X e f)(hN:X.N[i]? = some x:=by rfl)(hv:nO X.env.scope x:=by first|exact Or.inl rfl|exact Or.inr (Or.inl rfl)|exact Or.inr (Or.inr rfl))(hd:(x==("__debug__":Str))=false:=by decide)(hcd:(x==("__classdict__":Str))=false:=by decide)
  (hix:jU (.Constant (.int 0) j p3):=by intro _ _;rfl)
  (hbase:attributeBase (.Subscript (.Name x p) (.Constant (.int 0) j p3) spos) "append" X.env (eval (.Subscript (.Name x p) (.Constant (.int 0) j p3) spos) X.env)=eval (.Subscript (.Name x p) (.Constant (.int 0) j p3) spos) X.env:=by rfl)
  (hfew:((backTo cpos (starEach [e] X.env)).all (fun x=>!x.1)&&(backToKw cpos (keywordEach [] X.env)).all (fun x=>x.1.isSome)
   && decide ([e].length+([]:List Keyword).length+(if([]:List Keyword).isEmpty then 0 else 1)<30))=true:=by rfl)
  (hline:(apos.endLine==cpos.line)=true:=by rfl) (hs:starEach [e] X.env=(false,eval e X.env)::starEach [] X.env:=by rfl) (hplain:(backTo cpos (starEach [] X.env)).any (·.1)=false:=by rfl)
  (hsw:swapsWith (.Call (.Attribute (.Subscript (.Name x p) (.Constant (.int 0) j p3) spos) "append" apos) [e] [] cpos) none pos.line X.env=pure false:=by rfl):FK X i (.Expr (.Call (.Attribute (.Subscript (.Name x p) (.Constant (.int 0) j p3) spos) "append" apos) [e] [] cpos) pos) (vj i f):=fun t a b=>
 PS.imp (eY (rT plainAttrs_list PySem.F.slot_list_append PySem.F.type_list_append oR (vq uC (ca hN hv hd hcd) uq hix) (bK hv' cM hs) hbase hfew hline hs hplain) hsw) fun D σ H h=>by
  obtain⟨H₀,Z₀,Z,δ,r,hh,tk,e,k⟩:=h;obtain⟨v,e2,e1⟩:=bind_some e;obtain⟨u,xs,es,d,q,ht,la,rl,rd⟩:=tk.tr;rw[q]at e1;dsimp only at e1;obtain⟨⟨hc,hlv,hle,hld⟩,e1⟩:=bg e1;cases e1;refine⟨_,tk.si,_,_,0,.ref a,rfl,rfl,SqT.same ht hh.zh,by unfold lJ;simp[BZ],.inl ⟨rfl,xs,SqL.of (hh.zh _ _ la)⟩,H₀,Z₀,Z,δ,v,hh,e2,fun w Z1 H1 hh1 t1 r1=>?_⟩
  have la1:Z1 a=some (.lst xs):=t1 _ _ la;have len:xs.length<sizeLine:=by rw[rl.length];exact hc
  have tk1:=tk.same t1 (σ':=σ) (δ':=δ) rfl rfl rfl;obtain⟨h1,h2⟩:=hh1.toldPut (ys:=xs++[w]) (es':=es++[v]) i0 tk.si tk.s0 tk1.zb (SqT.same ht t1) tk.ha tk.hz la1 ((rl.same t1).append (.cons r1 .nil)) (qq hle hlv) (rd.same t1) hld;exact⟨a,xs,w,rfl,rfl,hh1.zh _ _ la1,len,k σ _ _ h1 fun _=>h2 (List.getElem?_eq_some_iff.mp q).1⟩
theorem AH{x:Str}{j:Nat}(i0:i≠0)(hN:X.N[i]? = some x:=by rfl)(hv:nO X.env.scope x:=by first|exact Or.inl rfl|exact Or.inr (Or.inl rfl)|exact Or.inr (Or.inr rfl))(hd:(x==("__debug__":Str))=false:=by decide)(hcd:(x==("__classdict__":Str))=false:=by decide)
  (hix:jU (.Constant (.int 0) j p3):=by intro _ _;rfl)
  (hbase:attributeBase (.Subscript (.Name x p) (.Constant (.int 0) j p3) spos) "pop" X.env (eval (.Subscript (.Name x p) (.Constant (.int 0) j p3) spos) X.env)=eval (.Subscript (.Name x p) (.Constant (.int 0) j p3) spos) X.env:=by rfl)
  (hline:(apos.endLine==cpos.line)=true:=by rfl)
  (hsw:swapsWith (.Call (.Attribute (.Subscript (.Name x p) (.Constant (.int 0) j p3) spos) "pop" apos) [] [] cpos) none pos.line X.env=pure false:=by rfl):FK X i (.Expr (.Call (.Attribute (.Subscript (.Name x p) (.Constant (.int 0) j p3) spos) "pop" apos) [] [] cpos) pos) (rM i):=fun t a b=>
 PS.imp (eY (yJ plainAttrs_list slot_list_pop PySem.F.type_list_pop BH (vq uC (ca hN hv hd hcd) uq hix) hbase hline) hsw) fun D σ H h=>by
  obtain⟨H₀,Z₀,Z,δ,r,hh,tk,e1,k⟩:=h;obtain⟨u,xs,es,d,q,ht,la,rl,rd⟩:=tk.tr;unfold rM at e1;rw[q]at e1;dsimp only at e1;obtain⟨⟨hp,hc,hle,hld⟩,e1⟩:=bg e1;cases e1;have gl:=rl.length;obtain⟨y,hy⟩:=Reps.atV rl (n:=es.length-1) (by omega);rw[<-gl]at hy;have hlv:lfA (es.eraseIdx (es.length-1))=true:=oW hle _;have rr:=Reps.eraseV (es.length-1) rl;rw[<-gl]at rr;obtain⟨h1,h2⟩:=hh.toldPut (ys:=xs.eraseIdx (xs.length-1)) (es':=es.eraseIdx (xs.length-1)) i0 tk.si tk.s0 tk.zb ht tk.ha tk.hz la rr (by rw[gl];exact hlv) rd hld;rw[gl]at h1 h2;refine⟨_,tk.si,_,_,0,.ref a,rfl,rfl,SqT.same ht hh.zh,by unfold lJ;simp[BZ],.inl ⟨rfl,xs,SqL.of (hh.zh _ _ la)⟩,a,xs,y,rfl,rfl,hh.zh _ _ la,hy,by rw[gl];exact hc,?_⟩;rw[gl];exact k σ _ _ h1 fun _=>h2 (List.getElem?_eq_some_iff.mp q).1
end
section
variable{K:Fg}{H₀ Z₀ Z Z' H H':Hp}{δ:Dv}{σ:St}
theorem Hold.both(h:Hold K H₀ Z₀ Z δ σ H)(n:New (wZ Z) H Z' H'):Same Z' (kE Z Z')/\Hold K H₀ Z₀ (kE Z Z') δ σ H':=by
 have nz:∀{c:Addr} {o:HO},Z c=some o->H c≠none:=fun{c o} e z=>by rw[h.zh c o e]at z;cases z
 have s':Same Z' (kE Z Z'):=fun c o e=>by
  cases ez:Z c with
  |none=>rw[eR ez];exact e
  |some o'=>
   have e2:=n.o c (nz ez);rw[e]at e2;exact eG c o (noZ_sub c o e2.symm)
 refine⟨s',⟨fun c o e=>?_,h.h0.trans n.h,h.z0.trans eG,fun c hc=>?_,h.len,fun j d q=>?_,fun j d q=>?_,h.dja,h.fr.same eG,fun c o ws e=>?_⟩⟩
 ·cases ez:Z c with
  |none=>rw[eR ez]at e;exact n.zh c o e
  |some o'=>
   rw[eG c o' ez]at e;cases e;exact n.h c _ (h.zh c _ ez)
 ·have hH:H c≠none:=by
   cases e:H₀ c with
   |none=>exact absurd e hc
   |some o=>rw[h.h0 c o e];intro z;cases z
  have e1:=h.zb c hc;have e2:=n.o c hH;cases ez:Z c with
  |none=>rw[eR ez,e2,sj ez,<-e1,ez]
  |some o'=>rw[eG c o' ez,<-e1,ez]
 ·obtain⟨v,g1,g2⟩:=h.fz j d q
  exact⟨v,g1,g2.same eG⟩
 ·obtain⟨p,o,g1,g2,g3,g4,g5⟩:=h.own j d q
  refine⟨p,o,g1,g2,?_,n.h p o g4,g5.same eG⟩;rw[eR g3,n.o p (by rw[g4];intro z;cases z),sj g3]
 ·cases ez:Z c with
  |none=>
   rw[eR ez]at e;exact absurd (n.nf c o ws e) vB
  |some o'=>
   rw[eG c o' ez]at e;cases e;exact h.nf c o ws ez
end
def K2(K:Fg)(b:Addr)(f:Sf):TS:=fun D σ H=>∃H₀ Z₀ Z δ r,Hold K H₀ Z₀ Z δ σ H /\ σ[0]? = some (some (.ref b))/\(∃o ys,Z b=some (.frz o (.lst ys)))/\f δ = some r/\∀ σ' H' Z',Hold K H₀ Z₀ Z' r.2 σ' H'->r.1.to K Z' D σ' H'
def IW(X:Cx)(sts:List Stmt)(f:Sf):Prop:=∀b,PSs X sts (K2 X.K b f)
section
variable{X:Cx}{i:Nat}{e c:Expr}{es:List Expr}{st:Stmt}{sts:List Stmt}{s1 s2:Sf}{f:Dv->Option D}{fs fo:Dv->Option (List D)}{p pos cpos:Pos}
theorem zZ(j:Nat){x:Str}{pos':Pos}(hN:X.N.Nodup)(he:EV X e f)(h0:j≠0)(h2:IW X sts s2)(hi:X.N[j]? = some x:=by rfl)(hx:pE X.env.scope x:=by first|exact Or.inl rfl|exact Or.inr rfl)(hs:swapsWith e (some (.Name x pos')) pos.line X.env=pure false:=by rfl)
  (hf:X.fn x=true\/X.env.scope.names.lookup x=some .local:=by first|exact .inl rfl|exact .inr rfl|assumption):IW X (.Assign [.Name x pos'] e pos::sts) (ap (aI j f) s2):=fun b=>
 PSs.imp (g7 (dZ hN hi hx he hs hf) (h2 b)) fun D σ H h=>by
  obtain⟨H₀,Z₀,Z,δ,r,hh,t0,⟨o,ys,tb⟩,e,k⟩:=h;obtain⟨⟨fl,δ'⟩,e1,e⟩:=bind_some e;obtain⟨x,e2,e1⟩:=bind_some e1;cases e1;exact⟨H₀,Z₀,Z,δ,x,hh,e2,fun v Z1 H1 hh1 s1 r1=>⟨H₀,Z₀,Z1,_,r,hh1.set r1,by rw[getElem?_set_ne h0];exact t0,⟨o,ys,s1 _ _ tb⟩,e,k⟩⟩
theorem Cn(i:Nat){k:Nat}{x fx:Str}{g:List D->Option D}{pos':Pos}(hN:X.N.Nodup)(hK:NoL X.K)(C:Cal X.prog X.w X.K X.mg X.base fx k g [])(hr:Room k X.A)(hg:Gl X fx)(ha:AV X (e::es) fs)(i0:i≠0)(h2:IU X i sts s2)(hi:X.N[i]? = some x:=by rfl)(hx:pE X.env.scope x:=by first|exact Or.inl rfl|exact Or.inr rfl)
  (hdb:(fx==("__debug__":Str))=false:=by decide)
  (he:starEach (e::es) X.env=(false,eval e X.env)::starEach es X.env:=by rfl) (hpl:(backTo cpos (starEach es X.env)).any (·.1)=false:=by rfl)
  (hs:swapsWith (.Call (.Name fx p) (e::es) [] cpos) (some (.Name x pos')) pos.line X.env=pure false:=by rfl)
  (hf:X.fn x=true\/X.env.scope.names.lookup x=some .local:=by first|exact .inl rfl|exact .inr rfl|assumption) :
  IW X (.Assign [.Name x pos'] (.Call (.Name fx p) (e::es) [] cpos) pos::sts) (ap (pW i fs g) s2):=fun b=>by
 obtain⟨fa,fd,ps,dds,dv,F,hm,hk,hb,hdv,hdd⟩:=C.ex;have dv0:dv=[]:=by
  have:=(hdd Zn).length;cases dv with
  |nil=>rfl
  |cons _ _=>cases this
 subst dv0;intro pins s σ H D I h;obtain⟨H₀,Z₀,Z,δ,r,hh,t0,⟨o,ys,tb⟩,e,k⟩:=h;obtain⟨⟨fl,δ'⟩,e1,e⟩:=bind_some e;obtain⟨as,e2,e1⟩:=bind_some e1;split at e1
 rotate_left
 ·cases e1
 rename_i hlf;obtain⟨d,e3,e1⟩:=bind_some e1;split at e1
 rotate_left
 ·cases e1
 rename_i es' d';cases e1;refine wpAny_execs_cons (b0 (dZ hN hi hx (p6 F hr hg hm hk hb hdv vv ha hdb he hpl) hs hf pins s σ H { D with nx:=fun σ' H'=>∃t a,KD X.K i t a b s2 D σ' H' } I ⟨H₀,Z₀,Z,δ,as,hh,e2,fun vs Z1 H1 hh1 t1 r1=>?_⟩) fun f s1 q=>?_)
 ·refine⟨wZ Z1,as,_,noZ_sub.trans hh1.zh,?_,e3,fun v Z' H' n rv=>?_⟩
  ·rw[List.append_nil]
   exact Reps.lf BB r1 hlf.1
  ·cases rv with
   |tup q1 w1=>
    rename_i t ws;cases w1 with
    |cons r0 rr=>
     cases r0 with
     |lst s0 rl=>
      rename_i a xs;cases rr with
      |cons rv2 rn=>
       rename_i v2 _;cases rn;have la:Z' a=some (.lst xs):=by
        rcases s0 with (z|⟨o,z⟩)|⟨o,its,m,z,hcl,_⟩
        ·exact z
        ·exact absurd (n.nf _ _ _ z) vB
        ·exact absurd hcl (hK _ o z)
       have h1a:H1 a=none:=by
        cases e:H1 a with
        |none=>rfl
        |some o=>exact absurd (by rw[<-n.o a (by rw[e];intro z;cases z)];exact la) BC
       have h0a:H₀ a=none:=by
        cases e:H₀ a with
        |none=>rfl
        |some o=>rw[hh1.h0 a o e]at h1a;cases h1a
       have z0a:Z₀ a=none:=by
        cases e:Z₀ a with
        |none=>rfl
        |some o=>rw[hh1.zh a o (hh1.z0 a o e)]at h1a;cases h1a
       obtain⟨sb,hb2⟩:=hh1.both n;refine⟨t,a,H₀,Z₀,kE Z1 Z',_,r,hb2.set ((Rep.tup q1 (.cons (.lst s0 rl) (.cons rv2 .nil))).same sb),⟨?_,?_,⟨o,ys,eG _ _ (t1 _ _ tb)⟩,⟨v2,xs,es',d',?_,SqT.same q1 sb,sb _ _ la,rl.same sb,rv2.same sb⟩,h0a,z0a⟩,e,k⟩
       ·rw[getElem?_set_ne i0];exact t0
       ·rw[List.getElem?_set_self (by rw[<-hh.len];exact hlf.2)]
       ·rw[List.getElem?_set_self hlf.2]
 ·cases f with
  |next=>
   obtain⟨σ1,H1,I1,t,a,q1⟩:=q;exact h2 t a b pins s1 σ1 H1 D I1 q1
  |brk=>exact q
  |cont=>exact q
  |ret u=>exact q
end
section
variable{P:Program}{w:World}{K:PySem.W.Frag}{mg:Str->Option Value}{base:Heap}
def AS(K:Fg)(g:List D->Option D):Sp:=fun vs H Q _=>∃(a:Addr) (ns:List Int) (d:D),vs=[.ref a]/\Ai H/\SqL K H a (ns.map V.int)/\g [.list (ns.map .int)]=some d/\∀v Z' H',Rep K Z' v d->Q v H'
def pP(K:PySem.W.Frag):Sp:=fun vs H Q _=>∃(a:Addr) (ns:List Int),vs=[.ref a]/\Ai H/\SqL K H a (ns.map V.int)/\ns.length<=63/\∀H',Q (.bl true) H'
theorem J9{x qual:Str}{st:Stmt}{f:Addr}{fd:FuncData}{dV:Value}{N ps:List Str}{k:Nat}{b:Sf}(F:FunV K x qual st f fd dV)(S:FnScope N ps (aj st))(hn:0<N.length)(hp:ps.length=1)(hK:NoL K)
  (hb:∀(cdv:Value) (A:Around) (outer:List Env) (s:Shared) (H:Hp) (E:XK),Room k (A.deeper (envOfC qual (aj st) s.heap.objs.size f cdv))->IW (eU dM P w K mg base N qual (aj st) f cdv A outer s H E).nox (cK st) b) :
  FnOk P w K mg base dM (k+1) f fd ps (AS K (aR N ps.length b)):=by
 obtain⟨oc,od,kV,doc,pm,an,cdv,ct,osl,rfl,lk,hcd⟩:=F.ex;refine v5 lk hcd S (fun vs H Q E h=>?_) fun A outer s H vs Q E hr hsp=>?_
 ·obtain⟨a,ns,d,rfl,_⟩:=h
  rw[hp];rfl
 ·obtain⟨a,ns,d,rfl,hO,hS,e,kk⟩:=hsp
  refine⟨_,PSs.nox (hb cdv A outer s H E hr a),?_⟩;have hh:=gy (K:=K) (N:=N) (Same.refl H) (.cons (.lst hS (Reps.ints ns)) .nil);have zb:∃o ys,H a=some (.frz o (.lst ys)):=by
   rcases hS with (z|⟨o,z⟩)|⟨o,its,m,z,hcl,_⟩
   ·rcases hO a with q|⟨o,us,q⟩
    ·rw[z]at q;cases q
    ·rw[z]at q;cases q
   ·exact⟨o,_,z⟩
   ·exact absurd hcl (hK _ o z)
  unfold aR at e;split at e
  ·obtain⟨⟨fl,δ'⟩,e2,e⟩:=bind_some e
   cases fl with
   |nx=>cases e;exact⟨H,H,H,_,_,hh,by simp[L2.dh],zb,e2,fun σ' H' Z' h'=>kk _ Z' H' .non⟩
   |rt d=>cases e;exact⟨H,H,H,_,_,hh,by simp[L2.dh],zb,e2,fun σ' H' Z' h' v rv=>kk v Z' H' rv⟩
   |bk=>cases e
   |ct=>cases e
  ·cases e
theorem Hj{g:List D->Option D}{k:Nat}{f:Addr}{fd:FuncData}(F:FnOk P w K mg base dM k f fd ["script"] (AS K g))(hg:∀ns:List Int,ns.length<=63->g [.list (ns.map .int)]=some (.bool true)):FnOk P w K mg base dM k f fd ["script"] (pP K):=
 F.imp fun vs H Q E h=>by
  obtain⟨a,ns,rfl,hO,hS,hl,q⟩:=h;exact⟨a,ns,.bool true,rfl,hO,hS,hg ns hl,fun v Z' H' r=>by cases r;exact q H'⟩
end
theorem FQ{k:Nat}{l:PySem.W.OpenLaw}{q:Program}{loose:List Str}{XP:(Str->Option Value)->Heap->Prop}{YP:World->Heap->Prop}{d:DefRec}{K:Params->PySem.W.Frag}(hn:l.most=some 63)(hr:Room k callerA)(hdf:d.params.defaults=[])
  (hY:∀(w:World) (h:Heap),YP w h->(K w.params).In h)
  (F:∀(w:World) (mg:Str->Option Value) (fa:Addr) (h:Heap),(K w.params).In h->h.Ns mainGlobals mg->mg d.name=some (.ref fa) ->
   ∃fd:FuncData,(∀(s:Shared) (u:Value),BindsTo s fd ⟨[u],[]⟩ [("script",u)])/\∀base:Heap,(K w.params).In base->base.Ns mainGlobals mg->FnOk l.prog w (K w.params) mg base dM k fa fd ["script"] (pP (K w.params))) :
  PySem.W.WalkO q loose XP YP l.row.toRowW d [] (fun f vs=>PySem.call f vs):=
 L2.At (n:=63) (k:=k) (x:="script") (CX:=fun _=>dM) (sp:=fun w=>pP (K w.params)) hn (by decide) hdf hr hY F (fun _ _ a ns hl hO hS=>⟨a,ns,rfl,hO,hS,hl,fun _=>rfl⟩) fun _ _ _ _ _ z=>z
noncomputable def oF(d:D):Option D:=(aU d).bind fun ds=>(sO ds).bind fun l=>if l.length<64 then some (.list ((aW l).map .int))else none
section
variable{X:Cx}{e:Expr}{p pos:Pos}{te:TE}{f:Dv->Option D}
theorem yg{pins:List (Addr×Obj)}{σ:St}{H:Hp}{s:Shared}{a:Addr}{ns:List Int}{Q:VK}(I:Inv X pins σ H s)(hs:SqL X.K H a (ns.map V.int)\/SqT X.K H a (ns.map V.int))(h64:ns.length<64)(q:∀l,H l=none->Q (.ref l) (upd H l (.lst ((aW ns).map V.int)))):
  wpAny (model X.prog X.w) X.A (call (.builtin "sorted") [.ref a]) (EP X pins σ Q) X.xe s:=by
 obtain⟨its,rv,T,o,n,hT,e1,e2,e3,hz⟩:∃(its:List Value),Vals (ns.map V.int) its/\∃(T:String) (o:Obj) (n:Nat),(T = "list" \/ T = "tuple")/\s.heap.get? a=some o/\o.cls=.type T/\o.data=.seq its.toArray n/\its.length<=sizeLine:=by
  rcases hs with hs|hs
  ·obtain⟨its,r,⟨o,n,e1,e2,e3,e4⟩,z⟩:=I.list hs
   exact⟨its,r,"list",o,n,.inl rfl,e1,e2,e4,by rw[<-r.length];exact z⟩
  ·obtain⟨its,r,⟨o,e1,e2,n,e3⟩,z⟩:=I.tuple hs
   exact⟨its,r,"tuple",o,n,.inr rfl,e1,e2,e3,by rw[<-r.length];exact z⟩
 have hI:=f7 rv;have hln:its.length=ns.length:=(IntsAre.length hI);refine Calls.call_function_entry kind_sorted plain_sorted entry_sorted (args_sorted1 _) ?_;unfold Builtin.«sorted»;refine wpAny_bind (m:=checkCount "sorted" 1 1 _) (wpAny_pure ?_);refine wpAny_bind (wpAny_collect_seq a hT e1 e2 e3 (fun h' hk'=>?_) (by simpa using hz));show wpAny _ _ (newList its >>= _) _ _ { s with heap:=h' };refine wpAny_bind (wpAny_newList ?_ hz);have hoL:(h'.push (seqObj "list" its.toArray 0)).get? h'.objs.size=some (seqObj "list" its.toArray 0):=Heap.get?_push_size _ rfl;have I1:Inv X pins σ H { s with heap:=h' }:=I.kept (t':=s.toks) hk';refine wpAny_bind (wpAny_holding (wpAny_call_entry slot_list_sort ⟨_,hoL,rfl⟩ entry_list_sort (list_sort_tree hoL hI (by rw[hln];exact h64) fun out ns' a1 a2 a3=>⟨_,rfl,?_⟩) (args_list_sort _)))
 refine wpAny_pure ⟨_,rfl,?_⟩;have e:=iF a2 a3;subst e;have kp:∀b o,h'.get? b=some o->(sortedHeap (h'.push (seqObj "list" its.toArray 0)) h'.objs.size its out).get? b=some o:=fun b o eo=>by
  have hb:b≠h'.objs.size:=Nat.ne_of_lt (Heap.lt_size eo);exact bC hb (get?_push_of_some _ (get?_push_of_some _ (bC hb (get?_push_of_some _ eo))))
 obtain⟨e1,ho1⟩:∃e1,((h'.push (seqObj "list" its.toArray 0)).update h'.objs.size (Obj.mapSeq fun _=>#[])).get? h'.objs.size=some (seqObj "list" #[] e1):=⟨_,get?_update_seq hoL (fun _=>#[])⟩;have ho2:=get?_push_of_some (seqObj "list" #[] 0) (get?_push_of_some (seqObj "tuple" its.toArray 0) ho1);have ho3:=get?_update_seq ho2 (fun _=>out);have L:=I1.laid (h':=sortedHeap (h'.push (seqObj "list" its.toArray 0)) h'.objs.size its out) (a:=h'.objs.size) (o:=.lst ((aW ns).map V.int)) (t':=s.toks) kp (Nat.le_refl _)
  (show ObjOk X.prog X.w _ _ _ (.lst ((aW ns).map V.int))from ⟨by rw[List.length_map,(cj ns).length_eq,sizeLine_eq];omega,out.toList,_,cZ a1,by rw[Array.toArray_toList];exact ho3⟩)
 exact⟨.ref h'.objs.size,_,L,rfl,q _ (I1.hok.fresh (Nat.le_refl _))⟩
theorem zE(hg:Gl X "sorted")(hm:X.mg "sorted" = none)(ha:EV X e f)(he:starEach [e] X.env=(false,eval e X.env)::starEach [] X.env:=by rfl)(hpl:(backTo pos (starEach [] X.env)).any (·.1)=false:=by rfl):
  EV X (.Call (.Name "sorted" p) [e] [] pos) (o1 f oF):=by
 intro pins s σ H Q I h;refine wpAny_Call_Name_kw (fH I hg hm (u:=.builtin "sorted") (by decide +kernel) ?_ (by decide) (by decide));refine PyProof.Rows.callWith_builtin1 (b0 (bK ha cM he pos pins s σ H (fun xs H1=>∃(a:Addr) (l:List Int),xs=[V.ref a]/\(SqL X.K H1 a (l.map V.int)\/SqT X.K H1 a (l.map V.int))/\l.length<64/\∀b,H1 b=none->Q (.ref b) (upd H1 b (.lst ((aW l).map V.int)))) I ?_) fun us s1 ⟨vs,H1,I1,r1,q1⟩=>?_) he hpl
 ·obtain⟨H₀,Z₀,Z,δ,d,hh,e,k⟩:=h
  obtain⟨d1,e1,e⟩:=bind_some e;refine⟨H₀,Z₀,Z,δ,d1,hh,e1,fun v Z1 H1 hh1 t1 r1=>?_⟩
  unfold oF at e;obtain⟨ds,e2,e⟩:=bind_some e;obtain⟨l,e3,e⟩:=bind_some e;obtain⟨h64,e⟩:=bg e;cases e;have key:∀b,H1 b=none->Q (.ref b) (upd H1 b (.lst ((aW l).map V.int))):=fun b hb=>by
   have n:=New.add hh1.zh hb (.lst ((aW l).map V.int));exact k _ _ _ (hh1.new n) (t1.trans n.z) (.lst (SqL.of ay) (Reps.ints _))
  cases r1 with
  |lst sq rs=>
   cases e2;have:=hZ rs e3;subst this;exact⟨_,l,rfl,.inl (SqL.same sq hh1.zh),h64,key⟩
  |tup sq rs=>
   cases e2;have:=hZ rs e3;subst this;exact⟨_,l,rfl,.inr (SqT.same sq hh1.zh),h64,key⟩
  |_=>cases e2
 ·obtain⟨a,l,e1,hsq,h64,q⟩:=q1
  subst e1;obtain⟨u,rfl,rx⟩:=gJ r1;cases rx;exact yg I1 hsq h64 q
end
end VL
namespace MA
open PySem
open Nat (mod_lt)
noncomputable def K0(j most:Int):Int:=if j=0 then most else if(Builtin.Int.intBits (Builtin.bitAnd j (-j)):Int)-1<most then(Builtin.Int.intBits (Builtin.bitAnd j (-j)):Int)-1 else most
theorem qR{a:Int}{m:Nat}(h:a.natAbs<2^m):Builtin.Int.intBits a<=m:=by
 unfold Builtin.Int.intBits;split
 ·exact Nat.zero_le _
 ·rename_i h0
  have h0:a≠0:=by simpa using h0
  have:a.natAbs.log2<m:=(Nat.log2_lt (by omega)).mpr h;omega
theorem EA{a b:Int}(m n:Nat)(ha:a.natAbs<2^m)(hb:b.natAbs<2^n)(h:m+n<=134217728):IntMulOk a b:=by
 have h1:=qR ha;have h2:=qR hb;have hc:Builtin.Int.intTooBig (Builtin.Int.intBits a+Builtin.Int.intBits b)=false:=by
  unfold Builtin.Int.intTooBig bitsLine;exact decide_eq_false (by omega)
 unfold IntMulOk;rw[hc];simp
structure Q4 where
 a:Int
 b:Int
 c:Int
 d:Int
namespace Q4
noncomputable def rt(x:Q4):Q4:=⟨x.b-x.d,x.a+x.c,x.b+x.d,x.c-x.a⟩
noncomputable def rtn:Nat->Q4->Q4
 | 0,x=>x
 |n+1,x=>rtn n (rt x)
end Q4
structure S2 where
 p:Int
 q:Int
namespace S2
end S2
abbrev Nu:=Q4×Nat
noncomputable def bit(w p:Nat):Nat:=p/w%2
theorem Ik(a b:Nat):Builtin.bitAnd (a:Int) (b:Int)=((a &&& b:Nat):Int):=by
 unfold Builtin.bitAnd;simp
theorem wA{x y z:Nat}(h:x/2=y/2+z/2)(m:x%2=y%2+z%2):x=y+z:=by omega
theorem xa{u v w:Nat}{p q:Prop}(hu:u<2)(hv:v<2)(hw:w<2)(m1:u=1↔p\/q)(m2:v=1 ↔ ¬(p↔q))(m3:w=1↔p/\q):u=v+w:=by
 have z:∀{x:Nat},x<2->¬x=1->x=0:=fun h k=>by omega
 by_cases a:p<;>by_cases b:q
 ·rw[m1.mpr (.inl a),m3.mpr ⟨a,b⟩,z hv fun e=>m2.mp e ⟨fun _=>b,fun _=>a⟩]
 ·rw[m1.mpr (.inl a),m2.mpr fun e=>b (e.mp a),z hw fun e=>b (m3.mp e).2]
 ·rw[m1.mpr (.inr b),m2.mpr fun e=>a (e.mpr b),z hw fun e=>a (m3.mp e).1]
 ·rw[z hu fun e=>(m1.mp e).elim a b,z hv fun e=>m2.mp e ⟨fun c=>absurd c a,fun c=>absurd c b⟩,z hw fun e=>a (m3.mp e).1]
theorem nJ:∀(k a b:Nat),a<2^k->b<2^k->(a ||| b)=(a ^^^ b)+(a &&& b)
 | 0,a,b,ha,hb=>by
  have:a=0:=by simpa using ha
  have:b=0:=by simpa using hb
  subst a;subst b;rfl
 |k+1,a,b,ha,hb=>by
  have ih:=nJ k (a/2) (b/2) (by rw[Nat.pow_succ]at ha;omega) (by rw[Nat.pow_succ]at hb;omega);have h1:=@Nat.or_div_two a b;have h2:=@Nat.xor_div_two a b;have h3:=@Nat.and_div_two a b;have m1:=@Nat.or_mod_two_eq_one a b;have m2:=@Nat.xor_mod_two_eq_one a b;have m3:=@Nat.and_mod_two_eq_one a b;rw[<-h1,<-h2,<-h3]at ih;exact wA ih (xa (mod_lt _ (by decide)) (mod_lt _ (by decide)) (mod_lt _ (by decide)) m1 m2 m3)
theorem LA(a b:Nat):Builtin.bitOr (a:Int) (b:Int)=((a ||| b:Nat):Int):=by
 have h1:¬(0:Int)<=Builtin.bitNot (a:Int):=by unfold Builtin.bitNot;omega
 have h2:¬(0:Int)<=Builtin.bitNot (b:Int):=by unfold Builtin.bitNot;omega
 have e1:(Builtin.bitNot (Builtin.bitNot (a:Int))).toNat=a:=by unfold Builtin.bitNot;omega
 have e2:(Builtin.bitNot (Builtin.bitNot (b:Int))).toNat=b:=by unfold Builtin.bitNot;omega
 unfold Builtin.bitOr Builtin.bitAnd;rw[decide_eq_false h1,decide_eq_false h2];dsimp only;rw[e1,e2];unfold Builtin.bitNot;omega
theorem qN(a b:Nat):Builtin.bitXor (a:Int) (b:Int)=((a ^^^ b:Nat):Int):=by
 unfold Builtin.bitXor;rw[LA,Ik];have h:∀n:Nat,n<2^n:=fun n=>Nat.lt_two_pow_self
 have:=nJ (max a b) a b (Nat.lt_of_lt_of_le (h a) (Nat.pow_le_pow_right (by decide) (by omega))) (Nat.lt_of_lt_of_le (h b) (Nat.pow_le_pow_right (by decide) (by omega)));omega
noncomputable def KP(n:Nat):Nat:=if n=0 then 0 else n%2+KP (n/2)
termination_by n
decreasing_by omega
noncomputable def par(n:Nat):Nat:=KP n%2
def Sh(k:Nat)(d:PyData):Prop:=d.canLay0=true/\d.depth<=k
theorem Sh.int(k:Nat)(i:Int):Sh k (.int i):=⟨by simp[PyData.canLay0],by simp[PyData.depth]⟩
theorem Sh.all{k:Nat}:∀(xs:List PyData),(∀x∈xs,Sh k x)->PyData.canLayAll0 xs=true/\PyData.depthAll xs<=k
 |[],_=>⟨by simp[PyData.canLayAll0],by simp[PyData.depthAll]⟩
 |x::xs,h=>by
  obtain⟨a,b⟩:=Sh.all xs fun y hy=>h y (List.mem_cons_of_mem _ hy)
  obtain⟨c,d⟩:=h x List.mem_cons_self;refine⟨by simp[PyData.canLayAll0,a,c],?_⟩;simp only[PyData.depthAll];omega
theorem Sh.tuple{k:Nat}{xs:List PyData}(h:∀x∈xs,Sh k x):Sh (k+1) (.tuple xs):=by
 obtain⟨a,b⟩:=Sh.all xs h;exact⟨by simp[PyData.canLay0,a],by simp only[PyData.depth];omega⟩
mutual
theorem nc:∀d:PyData,d.canLay0=true->PyData.eqv d d=true
 |.none,_=>by simp[PyData.eqv]
 |.bool _,_=>by simp[PyData.eqv]
 |.int _,_=>by simp[PyData.eqv]
 |.str _,_=>by simp[PyData.eqv]
 |.list xs,h=>by
  simp only[PyData.eqv];exact eqvAll_self xs (by simpa[PyData.canLay0]using h)
 |.tuple xs,h=>by
  simp only[PyData.eqv];exact eqvAll_self xs (by simpa[PyData.canLay0]using h)
 |.dict _,h=>by simp[PyData.canLay0]at h
theorem eqvAll_self:∀xs:List PyData,PyData.canLayAll0 xs=true->PyData.eqvAll xs xs=true
 |[],_=>by simp[PyData.eqvAll]
 |x::xs,h=>by
  have h':x.canLay0=true/\PyData.canLayAll0 xs=true:=by simpa[PyData.canLayAll0]using h
  simp only[PyData.eqvAll,nc x h'.1,eqvAll_self xs h'.2,Bool.and_self]
end
noncomputable def val(M:Nat)(u:Nu):Q4:=Q4.rtn (M-u.2) u.1
end MA
namespace GN
open PySem L2 VL
open List (all_cons any_cons any_eq_false any_map append_assoc append_nil filter_cons_of_neg filter_cons_of_pos filter_sublist length_append length_cons length_filter_le length_map length_nil length_range map_append map_congr_left map_cons map_id' map_map map_nil mem_cons mem_cons_of_mem mem_cons_self mem_filter mem_map nodup_append not_mem_nil sum_cons)
open Nat (le_trans pow_succ)
open Int (toNat_of_nonneg zero_add)
noncomputable def iX(i:Nat):Stmt:=PySem.Challenge.pw_wavewires_k38_whole_worn_by_a_chain.main.body.getD i (.Pass ⟨0,0,0,0⟩)
noncomputable def iH:List Str:=["NoStep"]
abbrev dQ:Stmt:=iX 4
abbrev iq:List Str:=["turn","turns","pairs","by_set","pair","bitset","e"]
noncomputable def gq:Dv->Option D:=bI (oI (jv 3) aU) [] lb (ob (o2 (o2 (oV 0) (oC (.int 1)) aB) (oC (.int 0)) neD)) (oV 0)
noncomputable def ck:Sf:=ap (aI 5 (o2 (oV 4) (oC (.int 0)) aB)) (ap (aI 6 (o2 (oV 4) (oC (.int 1)) aB)) (ap (bH (ob (o2 (o2 (oV 5) (oC (.int 1)) Fj) (oC (.int 1)) cN)) (ap (aI 0 (o2 (oV 0) (oV 6) aL)) (ap (aI 5 (o2 (oV 5) (oC (.int 1)) lL)) (aI 6 (o1 (oV 6) negD)))) (dS)) (bH (ob (o2 (oV 5) (oC (.int 0)) neD)) (bU 3 (oV 5) (o2 (o2 (i7 3 (oV 5) (oC (.int 0))) (oV 6) aL) (oC (.int 8)) aK)) (dS))))
noncomputable def il:Sf:=ap (ui 3 (oV 1)) (ap (eM (oI (oV 2) aU) (gN 4) (ck)) (bA (os (ag (o2 (oV 0) (oC (.int 8)) aK) (ag (os (ag (gq) (ar)) bJ) (ar))) bw)))
noncomputable def bD:List D->Option D:=aR iq 3 il
abbrev cq:Stmt:=iX 5
abbrev eu:List Str:=["ties"]
noncomputable def cG:Dv->Option D:=bI (oI (o1 (oV 0) jl) aU) [] lb (ob (o2 (oV 0) (oC (.int 0)) neD)) (oV 0)
noncomputable def ef:Sf:=bA (os (ag (cG) (ar)) bJ)
noncomputable def aN:List D->Option D:=aR eu 1 ef
abbrev vh:Stmt:=iX 7
abbrev Db:List Str:=["bitset","bit"]
noncomputable def zY:Sf:=bA (o2 (o2 (o2 (oV 0) (oV 1) iZ) (oC (.int 1)) Fj) (oC (.int 1)) cN)
noncomputable def dF:List D->Option D:=aR Db 2 zY
abbrev db:Stmt:=iX 8
abbrev fE:List Str:=["one","bit"]
noncomputable def gp:Dv->Option D:=ku (oI (o2 (oV 0) (oC (.int 4)) aB) aU) [(1,"bit")] lb (os (ag (oV 0) (ag (oV 1) (ar))) dF)
noncomputable def gm:Dv->Option D:=bI (oI (o2 (oV 0) (oC (.int 3)) aB) aU) [(1,"bit")] lb (ob (os (ag (o2 (oV 0) (oC (.int 0)) aB) (ag (oV 1) (ar))) dF)) (o2 (o2 (o2 (oV 0) (oC (.int 1)) aB) (oC (.int 2)) aK) (oC (.int 0)) cN)
noncomputable def fB:Sf:=ap (bH (ob (os (ag (gp) (ar)) Cp)) (bA (oC (.bool false))) (dS)) (bA (os (ag (gm) (ar)) Cr))
noncomputable def bZ:List D->Option D:=aR fE 2 fB
abbrev dH:Stmt:=iX 9
abbrev N_steps_of:List Str:=["one","steps","tie"]
noncomputable def fh:Dv->Option D:=bI (oI (o2 (oV 0) (oC (.int 5)) aB) aU) [(0,"one")] lb (ob (os (ag (oV 1) (ag (oV 0) (ar))) bZ)) (os (ag (oC (.str "away")) (ag (oV 0) (ar))) bw)
noncomputable def g8:Dv->Option D:=bI (oI (o2 (oV 0) (oC (.int 5)) aB) aU) [(2,"tie")] lb (ob (os (ag (oV 1) (ag (oV 0) (ar))) dF)) (os (ag (oC (.str "put")) (ag (oV 1) (ag (oV 0) (ar)))) bw)
noncomputable def cy:Sf:=CM 1 (g8)
noncomputable def nG:Sf:=ap (eL 1 (wY (fh))) (ap (eM (oI (o2 (oV 0) (oC (.int 4)) aB) aU) (gN 2) (cy)) (fun δ=>(bA (oV 1)) (jM 1 δ)))
noncomputable def cn:List D->Option D:=aR N_steps_of 1 nG
abbrev pV:Stmt:=iX 10
abbrev Al:List Str:=["one","step"]
noncomputable def gE:Sf:=ap (bH (ob (o2 (o2 (oV 1) (oC (.int 0)) aB) (oC (.str "away")) cN)) (bA (oO (o2 (o2 (oV 1) (oC (.int 1)) aB) (o2 (oV 0) (oC (.int 5)) aB) (C1 false)) (os (ag (oV 0) (ag (o2 (oV 1) (oC (.int 1)) aB) (ar))) bZ))) (dS)) (bA (oO (o2 (o2 (oV 1) (oC (.int 1)) aB) (o2 (oV 0) (oC (.int 4)) aB) (C1 false)) (oO (o2 (o2 (oV 1) (oC (.int 2)) aB) (o2 (oV 0) (oC (.int 5)) aB) (C1 false)) (os (ag (o2 (oV 1) (oC (.int 1)) aB) (ag (o2 (oV 1) (oC (.int 2)) aB) (ar))) dF))))
noncomputable def bV:List D->Option D:=aR Al 2 gE
abbrev dI:Stmt:=iX 11
abbrev f6:List Str:=["one","bit","change","within","others","both"]
noncomputable def gn:Dv->Option D:=bI (oI (o2 (oV 0) (oC (.int 3)) aB) aU) [(1,"bit"),(2,"change")] lb (ob (os (ag (o2 (oV 0) (oC (.int 0)) aB) (ag (oV 1) (ar))) dF)) (os (ag (o2 (o2 (oV 0) (oC (.int 0)) aB) (oV 2) lL) (ag (o2 (oV 0) (oC (.int 1)) aB) (ar))) bw)
noncomputable def gk:Dv->Option D:=bI (oI (o2 (oV 0) (oC (.int 3)) aB) aU) [(1,"bit")] lb (kR (ob (os (ag (o2 (oV 0) (oC (.int 0)) aB) (ag (oV 1) (ar))) dF))) (oV 0)
noncomputable def gj:Dv->Option D:=bI (oI (o2 (oV 0) (oC (.int 5)) aB) aU) [(1,"bit")] lb (ob (o2 (oV 0) (oV 1) neD)) (oV 0)
noncomputable def km:Sf:=ap (aI 3 (gn)) (ap (aI 4 (gk)) (ap (aI 5 (os (ag (o2 (oV 0) (oC (.int 2)) aB) (ag (oV 4) (ag (oV 3) (ar)))) bD)) (bA (os (ag (o2 (oV 0) (oC (.int 0)) aB) (ag (o2 (oV 0) (oC (.int 1)) aB) (ag (o2 (oV 5) (oC (.int 0)) aB) (ag (o2 (oV 5) (oC (.int 1)) aB) (ag (o2 (oV 0) (oC (.int 4)) aB) (ag (os (ag (gj) (ar)) bJ) (ar))))))) bw))))
noncomputable def bX:List D->Option D:=aR f6 3 km
abbrev gd:Stmt:=iX 12
abbrev nK:List Str:=["pairs","told","pair"]
noncomputable def dc:Sf:=bH (ob (o2 (o2 (oV 2) (oC (.int 1)) aB) (os (ag (oC (.int 2)) (ag (oC (.int 6)) (ar))) bw) (C1 false))) (aI 1 (o2 (oV 1) (o2 (oV 2) (oC (.int 0)) aB) lL)) (dS)
noncomputable def jc:Sf:=ap (aI 1 (oC (.int 0))) (ap (eM (oI (oV 0) aU) (gN 2) (dc)) (bA (oV 1)))
noncomputable def cp:List D->Option D:=aR nK 1 jc
abbrev da:Stmt:=iX 13
abbrev fD:List Str:=["one","bit","within","total","rest","left","tie","both"]
noncomputable def cH:Dv->Option D:=bI (oI (o2 (oV 0) (oC (.int 3)) aB) aU) [(1,"bit")] lb (ob (os (ag (o2 (oV 0) (oC (.int 0)) aB) (ag (oV 1) (ar))) dF)) (os (ag (o2 (o2 (oV 0) (oC (.int 0)) aB) (o2 (oC (.int 1)) (oV 1) kH) lL) (ag (o2 (oV 0) (oC (.int 1)) aB) (ar))) bw)
noncomputable def cF:Dv->Option D:=ku (oI (oV 2) aU) [] lb (o2 (oV 0) (oC (.int 1)) aB)
noncomputable def dX:Sf:=ap (aI 2 (cH)) (ap (aI 3 (o2 (os (ag (cF) (ar)) lQ) (oC (.int 8)) aK)) (ap (aI 4 (os (ag (oV 2) (ar)) cp)) (ap (aI 5 (os (ag (oV 0) (ag (oV 1) (ag (o2 (oC (.int 1)) (oV 1) kH) (ar)))) bX)) (ap (bH (ob (o2 (o2 (oV 3) (oC (.int 4)) aK) (oC (.int 0)) cN)) (ap (aI 6 (o2 (oV 4) (o2 (oV 3) (oC (.int 4)) cX) lL)) (bA (os (ag (o2 (oV 5) (oC (.int 0)) aB) (ag (o2 (o2 (oV 5) (oC (.int 1)) aB) (oC (.int 2)) gX) (ag (o2 (oV 5) (oC (.int 2)) aB) (ag (o2 (oV 5) (oC (.int 3)) aB) (ag (os (ag (o2 (o2 (oV 5) (oC (.int 4)) aB) (os (ag (oV 6) (ar)) bw) aL) (ar)) aN) (ag (o2 (oV 5) (oC (.int 5)) aB) (ar))))))) bw))) (dS)) (ap (aI 7 (os (ag (o2 (o2 (oV 5) (oC (.int 2)) aB) (JE (ob (o2 (oV 3) (oC (.int 2)) cN)) (oC (.int 1)) (oC (.int 7))) aL) (ag (o2 (oV 5) (oC (.int 3)) aB) (ag (os (ag (os (ag (oV 4) (ag (o2 (oC (.int 8)) (oV 3) gX) (ar))) bw) (ar)) gO) (ar)))) bD)) (bA (os (ag (o2 (oV 5) (oC (.int 0)) aB) (ag (o2 (o2 (oV 5) (oC (.int 1)) aB) (oC (.int 1)) gX) (ag (o2 (oV 7) (oC (.int 0)) aB) (ag (o2 (oV 7) (oC (.int 1)) aB) (ag (o2 (oV 5) (oC (.int 4)) aB) (ag (o2 (oV 5) (oC (.int 5)) aB) (ar))))))) bw)))))))
noncomputable def bn:List D->Option D:=aR fD 2 dX
abbrev rK:Stmt:=iX 14
abbrev Ak:List Str:=["one","tie","bit","left","ties"]
noncomputable def p7:Dv->Option D:=bI (oI (o2 (oV 3) (oC (.int 4)) aB) aU) [(1,"tie"),(2,"bit")] lb (ob (o2 (oV 0) (oV 1) neD)) (JE (ob (os (ag (oV 0) (ag (oV 2) (ar))) dF)) (o2 (oV 0) (oV 1) lL) (oV 0))
noncomputable def zW:Sf:=ap (aI 3 (os (ag (oV 0) (ag (oV 2) (ag (oV 1) (ar)))) bX)) (ap (aI 4 (p7)) (bA (os (ag (o2 (oV 3) (oC (.int 0)) aB) (ag (o2 (oV 3) (oC (.int 1)) aB) (ag (o2 (oV 3) (oC (.int 2)) aB) (ag (o2 (oV 3) (oC (.int 3)) aB) (ag (os (ag (oV 4) (ar)) aN) (ag (o2 (oV 3) (oC (.int 5)) aB) (ar))))))) bw)))
noncomputable def jG:List D->Option D:=aR Ak 3 zW
abbrev fQ:Stmt:=iX 15
abbrev N_stepped:List Str:=["one","step"]
noncomputable def iL:Sf:=ap (bH (kR (ob (os (ag (oV 0) (ag (oV 1) (ar))) bV))) (KG) (dS)) (ap (bH (ob (o2 (o2 (oV 1) (oC (.int 0)) aB) (oC (.str "away")) cN)) (bA (os (ag (oV 0) (ag (o2 (oV 1) (oC (.int 1)) aB) (ar))) bn)) (dS)) (bA (os (ag (oV 0) (ag (o2 (oV 1) (oC (.int 1)) aB) (ag (o2 (oV 1) (oC (.int 2)) aB) (ar)))) jG)))
noncomputable def bO:List D->Option D:=aR N_stepped 2 iL
noncomputable def gB:Xf:=Kt (kR (ob (os (ag (oV 0) (ag (oV 1) (ar))) bV))) (xL "NoStep" (oC (.str "the step does not fit the sum"))) (Ks)
noncomputable def cu:List D->Option Str:=wO N_stepped 2 gB
abbrev jq:Stmt:=iX 16
abbrev tP:List Str:=["thing","steps_for","behind_step","chain","steps"]
noncomputable def fO:Dv->Option Bool:=ob (o2 (oV 4) (os (ar) gO) neD)
noncomputable def fS:Sf:=ap (yp 3 (o2 (oV 4) (oC (.int 0)) aB)) (ap (aI 0 (gr 2 (ag (oV 0) (ag (o2 (oV 4) (oC (.int 0)) aB) (ar))) (("stepped",bO)::[]))) (aI 4 (gr 1 (ag (oV 0) (ar)) (("steps_of",cn)::[]))))
noncomputable def nH:Sf:=ap (DP 3 (ar)) (ap (aI 4 (gr 1 (ag (oV 0) (ar)) (("steps_of",cn)::[]))) (ap (fun δ=>fN (fO) (fS) wN δ) (fun δ=>(bA (os (ag (oV 3) (ag (oV 0) (ar))) bw)) (jM 3 δ))))
noncomputable def fV:List D->Option D:=aR tP 3 nH
abbrev gg:Stmt:=iX 17
abbrev nM:List Str:=["thing","steps","last","behind_step","step"]
noncomputable def ci:Sf:=rL iH (aI 0 (gr 3 (ag (oV 0) (ag (oV 4) (ar))) (("stepped",bO)::[]))) (xE (mK 3 (ag (oV 0) (ag (oV 4) (ar))) (("stepped",cu)::[]))) (bA (oC (.bool false)))
noncomputable def gD:Sf:=ap (eM (oI (oV 1) aU) (gN 4) (ci)) (bA (o2 (oV 0) (oV 2) cN))
noncomputable def cW:List D->Option D:=aR nM 4 gD
abbrev pU:Stmt:=iX 18
abbrev Aj:List Str:=["one"]
noncomputable def uU:Sf:=bA (os (ag (oV 0) (ag (oC (ii "steps_of")) (ag (oC (ii "stepped")) (ar)))) fV)
noncomputable def fI:List D->Option D:=aR Aj 1 uU
abbrev dj:Stmt:=iX 19
abbrev ip:List Str:=["one","steps","last"]
noncomputable def eS:Sf:=bA (os (ag (oV 0) (ag (oV 1) (ag (oV 2) (ag (oC (ii "stepped")) (ar))))) cW)
noncomputable def bQ:List D->Option D:=aR ip 3 eS
abbrev dt:Stmt:=iX 21
abbrev iw:List Str:=["script","k"]
noncomputable def dE:Sf:=ap (bH (ob (o2 (oV 1) (os (ag (oV 0) (ar)) iO) FB)) (bA (o2 (oV 0) (oV 1) aB)) (dS)) (bA (oC (.int 0)))
noncomputable def aS:List D->Option D:=aR iw 2 dE
abbrev eB:Stmt:=iX 22
abbrev jV:List Str:=["cell"]
noncomputable def gG:Sf:=bA (o2 (o2 (o2 (o2 (oV 0) (o2 (oC (.int 10)) (oC (.int 60)) um) aK) (oC (.int 48271)) gu) (oC (.int 12345)) aL) (oC (.int 2147483629)) aK)
noncomputable def bi:List D->Option D:=aR jV 1 gG
abbrev gh:Stmt:=iX 24
abbrev je:List Str:=["turns","bitset","e"]
noncomputable def b7:Sf:=ap (bH (ob (o2 (o2 (oV 1) (oC (.int 2)) aK) (oC (.int 1)) cN)) (ap (bU 0 (oC (.int 0)) (o2 (o2 (mJ 0 (oC (.int 0))) (oV 2) aL) (oC (.int 8)) aK)) (ap (aI 2 (o2 (oC (.int 0)) (oV 2) gX)) (aI 1 (o2 (oV 1) (oC (.int 1)) gX)))) (dS)) (bH (ob (o2 (oV 1) (oC (.int 0)) uH)) (bU 0 (oV 1) (o2 (o2 (i7 0 (oV 1) (oC (.int 0))) (oV 2) aL) (oC (.int 8)) aK)) (dS))
noncomputable def aX:List (aG×D)->List D->Option (List (aG×D)):=uj je 3 b7
abbrev dq:Stmt:=iX 25
abbrev gI:List Str:=["turns"]
noncomputable def iQ:Dv->Option D:=bI (oI (o1 (oV 0) gZ) aU) [(0,"turns")] lb (i8 (ob (o2 (oV 0) (oC (.int 0)) uH)) (ob (o2 (o2 (oV 1) (oV 0) fw) (oC (.int 0)) uH))) (os (ag (oV 0) (ag (o2 (oV 1) (oV 0) fw) (ar))) bw)
noncomputable def gF:Sf:=bA (os (ag (iQ) (ar)) bJ)
noncomputable def bc:List D->Option D:=aR gI 1 gF
abbrev du:Stmt:=iX 26
abbrev ix:List Str:=["head","cells","first","hidden","bit","k"]
noncomputable def cr:Sf:=ap (aI 4 (o2 (o2 (oV 4) (oC (.int 1)) aL) (o2 (os (ag (oV 1) (ag (oV 5) (ar))) aS) (o2 (os (ag (oC (.int 1)) (ag (oC (.int 1)) (ag (oC (.int 2)) (ag (oC (.int 40)) (ar))))) gO) (o2 (o2 (oV 0) (oC (.int 45)) cX) (oC (.int 4)) aK) aB) aK) aL)) (yp 3 (oV 4))
noncomputable def eT:Sf:=ap (DP 3 (ar)) (ap (aI 4 (o2 (oV 2) (oC (.int 1)) gX)) (ap (eM (oL (ag (o2 (o2 (oV 0) (oC (.int 9)) cX) (oC (.int 6)) aK) (ar)) ma) (gN 5) (cr)) (fun δ=>(bA (oV 3)) (jM 3 δ))))
noncomputable def bj:List D->Option D:=aR ix 3 eT
abbrev bW:Stmt:=iX 27
abbrev cT:List Str:=["head","cells","wires","looks","hidden","allowed","turns","ties","cell","turn","bitset","halves","pairs_of"]
noncomputable def ce:Dv->Option D:=bI (oL (ag (os (ag (oV 5) (ar)) iO) (ar)) ma) [(5,"allowed"),(9,"turn")] lb (ob (o2 (o2 (o2 (oV 2) (o2 (oV 0) (oC (.int 6)) aL) iZ) (oC (.int 2)) aK) (oC (.int 1)) cN)) (o2 (oC (.int 1)) (o2 (oV 1) (oV 0) aB) kH)
noncomputable def cb:Dv->Option D:=ku (oI (o1 (oV 6) gZ) aU) [(6,"turns")] lb (os (ag (oV 0) (ag (o2 (oV 1) (oV 0) fw) (ar))) bw)
noncomputable def bt:Sf:=ap (aI 9 (os (ag (oV 8) (ar)) bi)) (ap (aI 10 (os (ag (ce) (ar)) lQ)) (bH (i8 (ob (o2 (o2 (oV 9) (oC (.int 5)) aK) (oC (.int 1)) cN)) (i8 (ob (o2 (mI 7) (oC (.int 4)) FB)) (ob (o2 (oV 10) (oC (.int 0)) uH)))) (bU 7 (oV 10) (oC (.bool true))) (bH (i8 (ob (o2 (o2 (oV 9) (oC (.int 5)) aK) (oC (.int 1)) neD)) (i8 (ob (o2 (oV 10) (oC (.int 1)) uH)) (ob (o2 (mI 6) (oC (.int 12)) FB)))) (bU 6 (o2 (oV 10) (o2 (oV 10) (oC (.int 2)) aK) gX) (o2 (os (ag (o2 (oC (.int 1)) (o2 (o2 (oV 9) (oC (.int 5)) cX) (oC (.int 7)) aK) aL) (ag (o2 (oC (.int 2)) (o2 (oC (.int 2)) (o2 (o2 (oV 9) (oC (.int 5)) cX) (oC (.int 3)) aK) gu) aL) (ar))) gO) (os (ag (oC (.int 1)) (ag (o2 (o2 (oV 0) (oC (.int 11)) cX) (oC (.int 3)) aK) (ar))) yT) aB)) (dS))))
noncomputable def ej:Sf:=ap (aI 2 (o2 (oC (.int 1)) (o2 (oV 0) (oC (.int 3)) aK) aL)) (ap (aI 3 (o2 (o2 (oV 0) (oC (.int 3)) cX) (oC (.int 3)) aK)) (ap (aI 4 (os (ag (oV 0) (ag (oV 1) (ag (o2 (o2 (o2 (oC (.int 2)) (oV 2) gu) (oC (.int 1)) aL) (oV 3) aL) (ar)))) bj)) (ap (aI 5 (o2 (o1 (o2 (o2 (o2 (oC (.int 2)) (oV 2) gu) (oC (.int 1)) aL) (oV 3) aL) kx) (oV 4) aL)) (ap (lZ 6) (ap (lZ 7) (ap (eM (oI (oV 1) aU) (gN 8) (bt)) (ap (aI 11 (o2 (o2 (o2 (oV 0) (oC (.int 180)) cX) (oC (.int 13)) aK) (oC (.int 6)) gX)) (ap (bH (ob (o2 (o2 (o2 (oV 0) (oC (.int 2340)) cX) (oC (.int 9)) aK) (oC (.int 1)) cN)) (aI 11 (o2 (o2 (o2 (oV 0) (oC (.int 2340)) cX) (oC (.int 401)) aK) (oC (.int 200)) gX)) (dS)) (ap (fun δ=>(aI 12 (os (ag (cb) (ar)) bJ)) (kX 6 δ)) (bA (os (ag (os (ag (oV 2) (ag (oV 3) (ar))) bw) (ag (oV 11) (ag (o2 (o2 (oV 0) (oC (.int 7)) cX) (oC (.int 8)) aK) (ag (oV 12) (ag (os (ag (hJ 7) (ar)) bJ) (ag (os (ag (oV 4) (ar)) bJ) (ar))))))) bw)))))))))))
noncomputable def bp:List D->Option D:=aR cT 2 ej
abbrev b9:Stmt:=iX 28
abbrev dL:List Str:=["one","bit","tie"]
noncomputable def dy:Dv->Option D:=bI (oI (o2 (oV 0) (oC (.int 3)) aB) aU) [(1,"bit")] lb (i8 (ob (o2 (o2 (o2 (o2 (oV 0) (oC (.int 0)) aB) (oV 1) iZ) (oC (.int 2)) aK) (oC (.int 1)) cN)) (ob (o2 (o2 (o2 (oV 0) (oC (.int 1)) aB) (oC (.int 2)) aK) (oC (.int 1)) cN))) (oV 0)
noncomputable def aO:Sf:=bH (ob (o2 (o2 (o2 (oV 2) (oV 1) iZ) (oC (.int 2)) aK) (oC (.int 1)) cN)) (bA (oC (.bool false))) (dS)
noncomputable def fY:Sf:=ap (eM (oI (o2 (oV 0) (oC (.int 4)) aB) aU) (gN 2) (aO)) (bA (o2 (os (ag (dy) (ar)) iO) (oC (.int 0)) cN))
noncomputable def cf:List D->Option D:=aR dL 2 fY
abbrev cE:Stmt:=iX 29
abbrev eI:List Str:=["one","steps","tie"]
noncomputable def dO:Dv->Option D:=bI (oI (o2 (oV 0) (oC (.int 5)) aB) aU) [(0,"one")] lb (ob (os (ag (oV 1) (ag (oV 0) (ar))) cf)) (os (ag (oC (.str "away")) (ag (oV 0) (ar))) bw)
noncomputable def fF:Dv->Option D:=bI (oI (o2 (oV 0) (oC (.int 5)) aB) aU) [(2,"tie")] lb (ob (o2 (o2 (o2 (oV 1) (oV 0) iZ) (oC (.int 2)) aK) (oC (.int 1)) cN)) (os (ag (oC (.str "put")) (ag (oV 1) (ag (oV 0) (ar)))) bw)
noncomputable def b5:Sf:=aI 1 (o2 (oV 1) (fF) aL)
noncomputable def jS:Sf:=ap (aI 1 (dO)) (ap (eM (oI (o2 (oV 0) (oC (.int 4)) aB) aU) (gN 2) (b5)) (bA (oV 1)))
noncomputable def bb:List D->Option D:=aR eI 1 jS
abbrev eX:Stmt:=iX 30
abbrev kG:List Str:=["ties","kept","tie"]
noncomputable def cm:Sf:=bH (ob (o2 (oV 2) (oC (.int 0)) uH)) (bU 1 (oV 2) (oC (.bool true))) (dS)
noncomputable def im:Sf:=ap (lZ 1) (ap (eM (oI (oV 0) aU) (gN 2) (cm)) (bA (os (ag (hJ 1) (ar)) bJ)))
noncomputable def bE:List D->Option D:=aR kG 1 im
abbrev dR:Stmt:=iX 31
abbrev iu:List Str:=["one","bit","turns","total","left","bitset","e","halves","ties"]
noncomputable def cJ:Dv->Option D:=bI (oI (o2 (oV 0) (oC (.int 5)) aB) aU) [(1,"bit")] lb (ob (o2 (oV 0) (oV 1) neD)) (oV 0)
noncomputable def bz:Sf:=bH (ob (o2 (o2 (o2 (oV 5) (oV 1) iZ) (oC (.int 2)) aK) (oC (.int 0)) cN)) (kL 2 (ag (oV 5) (ag (oV 6) (ar))) aX) (ap (kL 2 (ag (o2 (oV 5) (o2 (oC (.int 1)) (oV 1) kH) gX) (ag (oV 6) (ar))) aX) (ap (aI 3 (o2 (o2 (oV 3) (oV 6) aL) (oC (.int 8)) aK)) (bH (xI (ob (o2 (oV 6) (oC (.int 2)) cN)) (ob (o2 (oV 6) (oC (.int 6)) cN))) (aI 4 (o2 (oV 4) (o2 (oV 5) (o2 (oC (.int 1)) (oV 1) kH) gX) lL)) (dS))))
noncomputable def df:Sf:=ap (kr 2 (oC (.int 0)) (o2 (oV 0) (oC (.int 2)) aB)) (ap (aI 3 (oC (.int 0))) (ap (aI 4 (oC (.int 0))) (ap (eM (oI (o2 (oV 0) (oC (.int 3)) aB) aU) (xK [gN 5,gN 6]) (bz)) (ap (aI 7 (o2 (o2 (o2 (oV 0) (oC (.int 1)) aB) (oC (.int 2)) gX) (o2 (o2 (oV 3) (oC (.int 4)) aK) (oC (.int 2)) cX) aL)) (ap (aI 8 (o2 (oV 0) (oC (.int 4)) aB)) (ap (bH (xI (ob (o2 (oV 3) (oC (.int 0)) cN)) (ob (o2 (oV 3) (oC (.int 4)) cN))) (aI 8 (os (ag (o2 (oV 8) (os (ag (o2 (oV 4) (o2 (oV 3) (oC (.int 4)) cX) lL) (ar)) bw) aL) (ar)) bE)) (ap (bU 2 (oC (.int 0)) (o2 (o2 (mJ 2 (oC (.int 0))) (o2 (os (ag (oC (.int 1)) (ag (oC (.int 7)) (ar))) gO) (o2 (oV 3) (oC (.int 4)) cX) aB) aL) (oC (.int 8)) aK)) (kL 2 (ag (oV 4) (ag (o2 (os (ag (oC (.int 6)) (ag (oC (.int 2)) (ar))) gO) (o2 (oV 3) (oC (.int 4)) cX) aB) (ar))) aX))) (fun δ=>(bA (os (ag (o2 (oV 0) (oC (.int 0)) aB) (ag (oV 7) (ag (o2 (oV 2) (oC (.int 0)) fw) (ag (os (ag (oV 2) (ar)) bc) (ag (oV 8) (ag (os (ag (cJ) (ar)) bJ) (ar))))))) bw)) (kX 2 δ))))))))
noncomputable def bq:List D->Option D:=aR iu 2 df
abbrev dJ:Stmt:=iX 32
abbrev gH:List Str:=["one","tie","bit","turns","bitset","e","ties"]
noncomputable def fj:Dv->Option D:=ku (oI (o2 (oV 0) (oC (.int 4)) aB) aU) [(1,"tie"),(2,"bit")] lb (o2 (oV 0) (o2 (oV 1) (o2 (o2 (oV 0) (oV 2) iZ) (oC (.int 2)) aK) gu) lL)
noncomputable def eZ:Dv->Option D:=bI (oI (o2 (oV 0) (oC (.int 5)) aB) aU) [(2,"bit")] lb (ob (o2 (oV 0) (oV 1) neD)) (oV 0)
noncomputable def de:Sf:=kL 3 (ag (o2 (oV 4) (o2 (oV 1) (o2 (o2 (oV 4) (oV 2) iZ) (oC (.int 2)) aK) gu) lL) (ag (oV 5) (ar))) aX
noncomputable def jd:Sf:=ap (kr 3 (oC (.int 0)) (o2 (oV 0) (oC (.int 2)) aB)) (ap (eM (oI (o2 (oV 0) (oC (.int 3)) aB) aU) (xK [gN 4,gN 5]) (de)) (ap (aI 6 (os (ag (fj) (ar)) bE)) (fun δ=>(bA (os (ag (o2 (oV 0) (oC (.int 0)) aB) (ag (o2 (oV 0) (oC (.int 1)) aB) (ag (o2 (oV 3) (oC (.int 0)) fw) (ag (os (ag (oV 3) (ar)) bc) (ag (oV 6) (ag (os (ag (eZ) (ar)) bJ) (ar))))))) bw)) (kX 3 δ))))
noncomputable def cz:List D->Option D:=aR gH 3 jd
abbrev dl:Stmt:=iX 33
abbrev ir:List Str:=["one","step"]
noncomputable def dD:Sf:=ap (bH (ob (o2 (o2 (oV 1) (oC (.int 0)) aB) (oC (.str "away")) cN)) (bA (os (ag (oV 0) (ag (o2 (oV 1) (oC (.int 1)) aB) (ar))) bq)) (dS)) (bA (os (ag (oV 0) (ag (o2 (oV 1) (oC (.int 1)) aB) (ag (o2 (oV 1) (oC (.int 2)) aB) (ar)))) cz))
noncomputable def ba:List D->Option D:=aR ir 2 dD
abbrev eW:Stmt:=iX 34
abbrev kF:List Str:=["one","steps","step"]
noncomputable def bL:Sf:=ap (bH (ob (o2 (oV 2) (os (ag (oV 0) (ar)) bb) (Hx true))) (bA (oC .none)) (dS)) (aI 0 (os (ag (oV 0) (ag (oV 2) (ar))) ba))
noncomputable def fC:Sf:=ap (eM (oI (oV 1) aU) (gN 2) (bL)) (bA (oV 0))
noncomputable def bo:List D->Option D:=aR kF 2 fC
abbrev cP:Stmt:=iX 35
abbrev dP:List Str:=["steps","last","turn","ties","pairs_of","at","pair"]
noncomputable def dw:Dv->Option D:=bI (oI (o2 (oV 1) (oC (.int 4)) aB) aU) [] lb (ob (o2 (oV 0) (oC (.int 2)) neD)) (oV 0)
noncomputable def fM:Sf:=ap (fun δ=>(eL 0 (Ev (ag (oV 0) (ar)))) (jM 0 δ)) (ap (bH (ob (o2 (o2 (oV 2) (oC (.int 7)) aK) (oC (.int 1)) cN)) (aI 1 (o2 (os (ag (o2 (oV 1) (oC (.int 0)) aB) (ag (o2 (oV 1) (oC (.int 1)) aB) (ag (o2 (o2 (o2 (oV 1) (oC (.int 2)) aB) (oC (.int 1)) aL) (oC (.int 8)) aK) (ar)))) bw) (nN (oV 1) (oP (oC (.int 3))) (se)) aL)) (dS)) (ap (bH (ob (o2 (o2 (oV 2) (oC (.int 7)) aK) (oC (.int 6)) cN)) (ap (eL 3 (wY (dw))) (ap (bH (ob (o2 (ju 3) (os (ag (o2 (oV 1) (oC (.int 4)) aB) (ar)) iO) cN)) (yp 3 (oC (.int 2))) (dS)) (fun δ=>(aI 1 (o2 (nN (oV 1) (se) (oP (oC (.int 4)))) (os (ag (os (ag (o1 (oV 3) oF) (ar)) bJ) (ag (o2 (oV 1) (oC (.int 5)) aB) (ar))) bw) aL)) (jM 3 δ)))) (dS)) (ap (bH (ob (o2 (o2 (oV 2) (oC (.int 7)) aK) (oC (.int 0)) cN)) (ap (aI 4 (nN (o2 (oV 1) (oC (.int 3)) aB) (oP (oC (.int 1))) (se))) (ap (bH (ob (o2 (o2 (oV 1) (oC (.int 3)) aB) (os (ar) bw) cN)) (aI 4 (os (ag (os (ag (oC (.int 2)) (ag (o2 (oC (.int 1)) (o2 (o2 (oV 2) (oC (.int 7)) cX) (oC (.int 7)) aK) aL) (ar))) bw) (ar)) bw)) (dS)) (aI 1 (o2 (o2 (nN (oV 1) (se) (oP (oC (.int 3)))) (os (ag (oV 4) (ar)) bw) aL) (nN (oV 1) (oP (oC (.int 4))) (se)) aL)))) (dS)) (ap (bH (ob (o2 (o2 (oV 2) (oC (.int 7)) aK) (oC (.int 2)) cN)) (yn 0 (o2 (o2 (oV 2) (oC (.int 7)) cX) (o2 (ju 0) (oC (.int 1)) aL) aK) (os (ag (oC (.str "put")) (ag (oC (.int 0)) (ag (oC (.int 0)) (ar)))) bw)) (dS)) (ap (bH (ob (o2 (ju 0) (oC (.int 0)) uH)) (ap (aI 5 (o2 (o2 (oV 2) (oC (.int 7)) cX) (ju 0) aK)) (ap (bH (ob (o2 (o2 (oV 2) (oC (.int 7)) aK) (oC (.int 3)) cN)) (DO 0 (oV 5)) (dS)) (ap (bH (ob (o2 (o2 (oV 2) (oC (.int 7)) aK) (oC (.int 4)) cN)) (yn 0 (oV 5) (Ew 0 (oV 5))) (dS)) (bH (ob (o2 (o2 (oV 2) (oC (.int 7)) aK) (oC (.int 5)) cN)) (ap (fun δ=>(eL 6 (wY (nN (oV 0) (oP (oV 5)) (oP (o2 (oV 5) (oC (.int 2)) aL))))) (jM 0 δ)) (ap (DN 6) (fun δ=>(aI 0 (o2 (o2 (nN (oV 0) (se) (oP (oV 5))) (oV 6) aL) (nN (oV 0) (oP (o2 (oV 5) (oC (.int 2)) aL)) (se)) aL)) (jM 6 δ)))) (dS))))) (dS)) (fun δ=>(bA (os (ag (oV 0) (ag (oV 1) (ar))) bw)) (jM 0 δ)))))))
noncomputable def b6:List D->Option D:=aR dP 3 fM
abbrev cR:Stmt:=iX 36
abbrev gM:List Str:=["one","steps","last","handed","found","due"]
noncomputable def en:Sf:=ap (aI 3 (os (ag (oV 1) (ar)) oU)) (ap (aI 4 (os (ag (oV 0) (ag (oV 3) (ag (oV 2) (ar)))) bQ)) (ap (aI 5 (o2 (os (ag (oV 0) (ag (oV 1) (ar))) bo) (oV 2) cN)) (bA (oO (o1 (oV 4) (fT "bool")) (oO (o2 (oV 4) (oV 5) cN) (o2 (oV 3) (oV 1) cN))))))
noncomputable def aV:List D->Option D:=aR gM 3 en
abbrev jr:Stmt:=iX 37
abbrev wy:List Str:=["script","head","one","told","chain","again","turn","steps","last"]
noncomputable def zX:Sf:=ap (aI 1 (o2 (os (ag (oV 0) (ag (oC (.int 0)) (ar))) aS) (o2 (oC (.int 10)) (oC (.int 9)) um) aK)) (ap (aI 2 (os (ag (oV 1) (ag (nN (oV 0) (oP (oC (.int 1))) (oP (oC (.int 61)))) (ar))) bp)) (ap (pW 3 (ag (oV 2) (ar)) fI) (ap (bH (xI (kR (ob (o1 (oV 3) (fT "tuple")))) (xI (ob (o2 (os (ag (oV 3) (ar)) iO) (oC (.int 2)) neD)) (kR (ob (o1 (o2 (oV 3) (oC (.int 0)) aB) (fT "list")))))) (bA (oC (.bool false))) (dS)) (ap (bH (xI (ob (o2 (os (ag (oV 2) (ag (o2 (oV 3) (oC (.int 0)) aB) (ar))) bo) (o2 (oV 3) (oC (.int 1)) aB) neD)) (ob (o2 (os (ag (os (ag (o2 (oV 3) (oC (.int 1)) aB) (ar)) bb) (ar)) iO) (oC (.int 0)) uH))) (bA (oC (.bool false))) (dS)) (ap (eL 4 (Ev (ag (o2 (oV 3) (oC (.int 0)) aB) (ar)))) (ap (vj 3 (os (ag (oC (.str "away")) (ag (oC (.int 0)) (ar))) bw)) (ap (aI 5 (os (ag (oV 2) (ar)) fI)) (ap (bH (oN 4 (xI (ob (o2 (o2 (oV 5) (oC (.int 0)) aB) (oV 4) neD)) (ob (o2 (o2 (oV 5) (oC (.int 1)) aB) (o2 (oV 3) (oC (.int 1)) aB) neD)))) (bA (oC (.bool false))) (dS)) (ap (rM 3) (ap (aI 6 (os (ag (o2 (o2 (nN (oV 0) (oP (o1 (oC (.int 1)) negD)) (se)) (os (ag (oC (.int 0)) (ar)) gO) aL) (oC (.int 0)) aB) (ar)) bi)) (ap (A8 (os (ag (o2 (oV 3) (oC (.int 0)) aB) (ag (o2 (oV 3) (oC (.int 1)) aB) (ag (oV 6) (ar)))) b6) (xK [gN 7,gN 8])) (ap (bH (kR (ob (os (ag (oV 2) (ag (o2 (oV 3) (oC (.int 0)) aB) (ag (o2 (oV 3) (oC (.int 1)) aB) (ar)))) aV))) (bA (oC (.bool false))) (dS)) (bA (os (ag (oV 2) (ag (oV 7) (ag (oV 8) (ar)))) aV))))))))))))))
noncomputable def sR:List D->Option D:=aR wy 1 zX
theorem hU{s t:Sf}{δ δ':Dv}(h:s δ = some (.nx,δ')):ap s t δ = t δ':=by simp only[ap,h,Option.bind_some]
theorem JF{s t:Sf}{δ δ':Dv}{d:D}(h:s δ = some (.rt d,δ')):ap s t δ = some (.rt d,δ'):=by simp only[ap,h,Option.bind_some]
theorem yP{N:List Str}{n:Nat}{b:Sf}{as:List D}{d:D}{δ':Dv}(hl:as.length=n)(h:b (az N as)=some (.rt d,δ')):aR N n b as=some d:=by unfold aR;rw[if_pos hl,h];rfl
theorem yo{t:Dv->Option Bool}{u w:Sf}{δ:Dv}(h:t δ = some true):bH t u w δ = u δ:=by unfold bH;rw[h];rfl
theorem vi{t:Dv->Option Bool}{u w:Sf}{δ:Dv}(h:t δ = some false):bH t u w δ = w δ:=by unfold bH;rw[h];rfl
theorem xZ(g:Nat->Nat)(l:List Nat):(l.map fun p=>((g p:Nat):Int)).sum=((l.map g).sum:Nat):=by
 induction l with
 |nil=>rfl
 |cons x l ih=>rw[map_cons,map_cons,sum_cons,sum_cons,ih];omega
theorem Il(a:Nat):Builtin.bitAnd (a:Int) 1=((a%2:Nat):Int):=by
 have:=MA.Ik a 1;rw[show((1:Nat):Int)=1 from rfl]at this;rw[this,Nat.and_one_is_mod]
theorem iz(a h:Nat):iZ (.int (a:Int)) (.int (h:Int))=some (.int ((a/2^h:Nat):Int)):=by
 rw[yj (by omega),Int.toNat_natCast];congr 2
theorem AW{a:Nat}(k:Nat)(ha:a<2^100000)(hk:k<=100000):kH (.int (a:Int)) (.int (k:Int))=some (.int ((a*2^k:Nat):Int)):=by
 have hb:(a:Int).natAbs<2^100000:=by rw[Int.natAbs_natCast];exact ha
 have:=MA.qR hb;rw[yk (by omega) (by omega),Int.toNat_natCast];congr 2
theorem wI{a:Nat}(h:a<2^64):a<2^100000:=Nat.lt_of_lt_of_le h (Nat.pow_le_pow_right (by decide) (by decide))
noncomputable def ao(hs:List Nat):List D:=hs.map fun h=>.int ((h:Nat):Int)
theorem eJ(hs:List Nat):(ao hs).length=hs.length:=by simp[ao]
theorem yS(hs:List Nat){k:Nat}(h:k<hs.length):lJ (ao hs) (k:Int)=some (.int (hs.getD k 0:Nat)):=by
 refine kn rfl ?_;unfold ao;rw[List.getElem?_map,List.getD_eq_getElem?_getD,List.getElem?_eq_getElem h];rfl
theorem Gw{n:Nat}(hn:n<=16777216):ma [.int (n:Int)]=some ((List.range n).map fun k:Nat=>PyData.int (0+(k:Int))):=wQ (j:=(n:Int)) (by omega) (by omega)
theorem GT{fs:Dv->Option (List D)}{g:List D->Option (List D)}{δ:Dv}{ds r:List D}(h:fs δ = some ds)(h2:g ds=some r):oL fs g δ = some r:=by unfold oL;rw[h];exact h2
theorem BA{δ:Dv}{i:Nat}{xs:List D}(e:vd δ[i]? = some (.list xs)):(oI (oV i) aU) δ = some xs:=by unfold oI oV;rw[e];rfl
noncomputable def prD(p:Nat×Int):D:=.tuple [.int p.1,.int p.2]
theorem BJ(a:Nat){k:Nat}(hk:0<k):aK (.int (a:Int)) (.int (k:Int))=some (.int ((a%k:Nat):Int)):=by
 rw[jw (by omega)];congr 2
theorem hV(a:Nat):aK (.int (a:Int)) (.int 2)=some (.int ((a%2:Nat):Int)):=BJ a (k:=2) (by decide)
theorem js{k:Nat}(hk:k<=100000):kH (.int 1) (.int (k:Int))=some (.int ((2^k:Nat):Int)):=by
 have:=AW (a:=1) k (wI (by decide)) hk;rw[Nat.one_mul]at this;exact this
theorem iE(a b:List Nat):ao (a++b)=ao a++ao b:=by simp[ao]
theorem sQ{hs:List Nat}{i:Nat}(hi:i<hs.length):hs.getD i 0∈hs:=by
 rw[List.getD_eq_getElem?_getD,List.getElem?_eq_getElem hi];exact List.getElem_mem hi
noncomputable def oneD(w l:Nat)(hv:Int)(c:Nat)(ps:List (Nat×Int))(ts hs:List Nat):D:=.tuple [.tuple [.int w,.int l],.int hv,.int c,.tuple (ps.map prD),.tuple (ao ts),.tuple (ao hs)]
theorem mG(w l:Nat)(hv:Int)(c:Nat)(ps:List (Nat×Int))(ts hs:List Nat):aB (oneD w l hv c ps ts hs) (.int 0)=some (.tuple [.int w,.int l]):=rfl
theorem mF(w l:Nat)(hv:Int)(c:Nat)(ps:List (Nat×Int))(ts hs:List Nat):aB (oneD w l hv c ps ts hs) (.int 1)=some (.int hv):=rfl
theorem mE(w l:Nat)(hv:Int)(c:Nat)(ps:List (Nat×Int))(ts hs:List Nat):aB (oneD w l hv c ps ts hs) (.int 2)=some (.int c):=rfl
theorem rX(w l:Nat)(hv:Int)(c:Nat)(ps:List (Nat×Int))(ts hs:List Nat):aB (oneD w l hv c ps ts hs) (.int 3)=some (.tuple (ps.map prD)):=rfl
theorem mD(w l:Nat)(hv:Int)(c:Nat)(ps:List (Nat×Int))(ts hs:List Nat):aB (oneD w l hv c ps ts hs) (.int 4)=some (.tuple (ao ts)):=rfl
theorem mC(w l:Nat)(hv:Int)(c:Nat)(ps:List (Nat×Int))(ts hs:List Nat):aB (oneD w l hv c ps ts hs) (.int 5)=some (.tuple (ao hs)):=rfl
@[simp] theorem IL(u w:Sf)(δ:Dv)(a b:Int):Hy u w δ (a==b)=if a=b then u δ else w δ:=by
 by_cases h:a=b
 ·subst h;simp
 ·have:(a==b)=false:=by simpa using h
  rw[this,if_neg h];rfl
theorem su{α:Type}{f:D->Option D}{h k:α -> D}:∀(xs:List α),(∀x∈xs,f (h x)=some (k x))->xc f (xs.map h)=some (xs.map k)
 |[],_=>rfl
 |x::xs,H=>by
  show((f (h x)).bind fun y=>_)=_
  rw[H x mem_cons_self];show((xc f (xs.map h)).bind fun ys=>_)=_
  rw[su xs fun y hy=>H y (mem_cons_of_mem _ hy)]
  rfl
theorem sS{α:Type}{t:D->Option Bool}{f:D->Option D}{h k:α -> D}{b:α -> Bool}:∀(xs:List α),(∀x∈xs,t (h x)=some (b x))->(∀x∈xs,b x=true->f (h x)=some (k x))->fX t f (xs.map h)=some ((xs.filter b).map k)
 |[],_,_=>rfl
 |x::xs,H,G=>by
  have ih:=sS (k:=k) xs (fun y hy=>H y (mem_cons_of_mem _ hy)) (fun y hy=>G y (mem_cons_of_mem _ hy))
  show((t (h x)).bind fun c=>_)=_
  rw[H x mem_cons_self,Option.bind_some];cases e:b x with
  |false=>simp[e,ih]
  |true=>simp[e,ih,G x mem_cons_self e]
theorem jN{α:Type}{fi:Dv->Option (List D)}{caps:List (Nat×Str)}{fe:Dv->Option D}{δ:Dv}{h k:α -> D}{xs:List α}(e:fi δ = some (xs.map h))(hl:xs.length<=16777216)(H:∀x∈xs,fe (.fz (h x)::br δ caps)=some (k x)):ku fi caps lb fe δ = some (.list (xs.map k)):=by
 unfold ku;rw[e,Option.bind_some,if_pos (by rw[length_map];exact hl),su xs (k:=k) fun x hx=>by
  show fe _=_;exact H x hx]
 rfl
theorem aY{α:Type}{fi:Dv->Option (List D)}{caps:List (Nat×Str)}{ft:Dv->Option Bool}{fe:Dv->Option D}{δ:Dv}{h k:α -> D}{b:α -> Bool}{xs:List α}(e:fi δ = some (xs.map h))(hl:xs.length<=16777216)(H:∀x∈xs,ft (.fz (h x)::br δ caps)=some (b x))(G:∀x∈xs,b x=true->fe (.fz (h x)::br δ caps)=some (k x)):bI fi caps lb ft fe δ = some (.list ((xs.filter b).map k)):=by
 unfold bI;rw[e,Option.bind_some,if_pos (by rw[length_map];exact hl),sS xs (b:=b) (k:=k) (fun x hx=>by
  show ft _=_;exact H x hx) (fun x hx hb=>by
  show fe _=_;exact G x hx hb)]
 rfl
theorem yW{b:Sf}{k:Nat}(I:Nat->Dv->Prop)(n:Nat)(h:∀i,i<n->∀ δ,I i δ -> ∃ δ2,b (δ.set k (.fz (.int i)))=some (.nx,δ2)/\I (i+1) δ2):∀ δ,I 0 δ -> ∃ δ',loop (gN k) b (kM 0 n) δ = some (.nx,δ')/\I n δ':=by
 have go:∀(m i:Nat),i+m=n->∀ δ,I i δ -> ∃ δ',loop (gN k) b ((List.range' i m).map fun(k:Nat)=>PyData.int (0+(k:Int))) δ = some (.nx,δ')/\I n δ':=by
  intro m
  induction m with
  |zero=>intro i e δ h;exact⟨δ,rfl,by rw[<-e];exact h⟩
  |succ m ih=>
   intro i e δ hi;obtain⟨δ2,e2,h2⟩:=h i (by omega) δ hi;obtain⟨δ',e3,h3⟩:=ih (i+1) (by omega) δ2 h2;refine⟨δ',?_,h3⟩;rw[<-e3,List.range'_succ,map_cons];exact bN (δ1:=δ.set k (.fz (.int i))) (by simp) e2
 intro δ h0;have:=go n 0 (by omega) δ h0;rw[<-List.range_eq_range']at this;exact this
theorem Lx:um (.int 10) (.int 60)=some (.int 1000000000000000000000000000000000000000000000000000000000000):=rfl
theorem oS(c:Int):∃T:Nat,bi [.int c]=some (.int T):=by
 have m:IntMulOk (c%1000000000000000000000000000000000000000000000000000000000000) 48271:=.of_right (by decide +kernel);have h2:0<=(c%1000000000000000000000000000000000000000000000000000000000000*48271+12345)%2147483629:=Int.emod_nonneg _ (by decide);refine⟨((c%1000000000000000000000000000000000000000000000000000000000000*48271+12345)%2147483629).toNat,?_⟩;rw[toNat_of_nonneg h2];simp[bi,aR,gG,az,Lx,m]
theorem wn(ns:List Int)(k:Int)(hk:0<=k):∃c,aS [.list (ns.map .int),.int k]=some (.int c):=by
 by_cases h:k<ns.length
 ·have hk':k.toNat<ns.length:=by omega
  refine⟨ns[k.toNat],?_⟩;have e:lJ (ns.map PyData.int) k=some (.int ns[k.toNat]):=kn (j:=k.toNat) (by omega) (by simp[hk']);simp[aS,aR,dE,az,h,e]
 ·exact⟨0,by simp[aS,aR,dE,az,h]⟩
@[simp] theorem IK(u w:Sf)(δ:Dv)(a b:Int):Hy u w δ (!(a==b))=if a=b then w δ else u δ:=by
 by_cases h:a=b
 ·subst h;simp
 ·have:(a==b)=false:=by simpa using h
  rw[this,if_neg h];rfl
abbrev As:=List (Nat×Nat)
noncomputable def vl(A:As)(k:Nat):Nat:=((A.find? fun p=>decide (p.1=k)).map (·.2)).getD 0
noncomputable def lq(A:As)(k v:Nat):As:=if(A.any fun p=>decide (p.1=k))=true then A.map (fun p=>if p.1=k then(p.1,v)else p)else A++[(k,v)]
noncomputable def bR(A:As):List (aG×D):=A.map fun p=>(.inl (p.1:Int),.int (p.2:Int))
noncomputable def ax(A:As):List Nat:=A.map (·.1)
theorem mX(a b:Nat):((Sum.inl (a:Int):aG)=.inl (b:Int))↔a=b:=by
 constructor
 ·intro h;exact Int.ofNat.inj (Sum.inl.inj h)
 ·intro h;rw[h]
theorem vZ(A:As)(k:Nat):dW (bR A) (.inl (k:Int))=(A.find? fun p=>decide (p.1=k)).map fun p=>.int (p.2:Int):=by
 induction A with
 |nil=>rfl
 |cons p A ih=>
  unfold dW bR at *;rw[map_cons,List.find?_cons,List.find?_cons];by_cases h:p.1=k
  ·have:((Sum.inl (p.1:Int):aG)=.inl (k:Int)):=(mX _ _).mpr h
   simp[h]
  ·have:¬((Sum.inl (p.1:Int):aG)=.inl (k:Int)):=fun z=>h ((mX _ _).mp z)
   simp only[this,h,decide_false];exact ih
theorem zu(A:As)(k:Nat):(dW (bR A) (.inl (k:Int))).getD (.int 0)=.int (vl A k:Int):=by
 rw[vZ];unfold vl;cases A.find? fun p=>decide (p.1=k)with
 |none=>rfl
 |some p=>rfl
theorem Fi(A:As)(k:Nat):((bR A).any fun p=>decide (p.1=.inl (k:Int)))=A.any fun p=>decide (p.1=k):=by
 unfold bR;rw[any_map];congr 1;funext p;simp only[Function.comp,decide_eq_decide];exact mX _ _
theorem iD(A:As)(k v:Nat):eQ (bR A) (.inl (k:Int)) (.int (v:Int))=bR (lq A k v):=by
 unfold eQ lq;rw[Fi];split
 ·unfold bR
  rw[map_map,map_map];apply map_congr_left;intro p _;show(if(Sum.inl (p.1:Int):aG)=.inl (k:Int)then _ else _)=_;by_cases h:p.1=k
  ·rw[if_pos ((mX _ _).mpr h)]
   simp[h]
  ·rw[if_neg (fun z=>h ((mX _ _).mp z))]
   simp[h]
 ·unfold bR
  rw[map_append];rfl
theorem iM(A:As)(k:Nat):(A.any fun p=>decide (p.1=k))=true↔k∈ax A:=by
 simp[ax,List.any_eq_true]
theorem dN(p:Nat×Nat)(A:As)(k:Nat):vl (p::A) k=if p.1=k then p.2 else vl A k:=by
 unfold vl;rw[List.find?_cons];by_cases h:p.1=k<;>simp[h]
theorem jg{A:As}{k:Nat}(h:k ∉ ax A):vl A k=0:=by
 unfold vl;have:(A.find? fun p=>decide (p.1=k))=none:=by
  rw[List.find?_eq_none];intro p hp;simp only[decide_eq_true_eq];exact fun z=>h (List.mem_map.mpr ⟨p,hp,z⟩)
 rw[this];rfl
theorem Di(A:As)(k v j:Nat)(h:k ∉ ax A):vl (A++[(k,v)]) j=if j=k then v else vl A j:=by
 induction A with
 |nil=>
  rw[List.nil_append,dN];by_cases e:k=j
  ·rw[if_pos e,if_pos e.symm]
  ·rw[if_neg e,if_neg (Ne.symm e)]
 |cons p A ih=>
  have h1:k≠p.1:=fun z=>h (by rw[z];exact mem_cons_self)
  have h2:k ∉ ax A:=fun z=>h (mem_cons_of_mem _ z)
  rw[List.cons_append,dN,dN,ih h2];by_cases e:p.1=j
  ·rw[if_pos e,if_pos e,if_neg (fun z=>h1 (by rw[e];exact z.symm))]
  ·rw[if_neg e,if_neg e]
theorem Dh(A:As)(k v j:Nat)(h:k∈ax A):vl (A.map fun p=>if p.1=k then(p.1,v)else p) j=if j=k then v else vl A j:=by
 induction A with
 |nil=>cases h
 |cons p A ih=>
  rw[map_cons,dN,dN];by_cases hp:p.1=k
  ·rw[if_pos hp]
   show(if p.1=j then v else _)=_;by_cases e:p.1=j
   ·rw[if_pos e,if_pos (by rw[<-e];exact hp)]
   ·rw[if_neg e,if_neg e]
    by_cases hk:k∈ax A
    ·exact ih hk
    ·rw[if_neg (fun z=>e (by rw[hp];exact z.symm))]
     congr 1;have:∀B:As,k ∉ ax B->(B.map fun p=>if p.1=k then(p.1,v)else p)=B:=fun B=>by
      induction B with
      |nil=>intro _;rfl
      |cons q B ihB=>
       intro hB;rw[map_cons,ihB (fun z=>hB (mem_cons_of_mem _ z)),if_neg (fun z=>hB (by rw[<-z];exact mem_cons_self))]
     exact this A hk
  ·rw[if_neg hp]
   have hk:k∈ax A:=by
    rcases List.mem_cons.mp h with z|z
    ·exact absurd z.symm hp
    ·exact z
   rw[ih hk];by_cases e:p.1=j
   ·rw[if_pos e,if_pos e,if_neg (fun z=>hp (by rw[e];exact z))]
   ·rw[if_neg e,if_neg e]
theorem gP(A:As)(k v j:Nat):vl (lq A k v) j=if j=k then v else vl A j:=by
 unfold lq;by_cases h:(A.any fun p=>decide (p.1=k))=true
 ·rw[if_pos h];exact Dh A k v j ((iM A k).mp h)
 ·rw[if_neg h];exact Di A k v j fun z=>h ((iM A k).mpr z)
theorem mS(A:As)(k v:Nat):ax (lq A k v)=if k∈ax A then ax A else ax A++[k]:=by
 unfold lq;by_cases h:k∈ax A
 ·rw[if_pos ((iM A k).mpr h),if_pos h]
  unfold ax;rw[map_map];apply map_congr_left;intro p _;simp only[Function.comp];split<;>rfl
 ·rw[if_neg (fun z=>h ((iM A k).mp z)),if_neg h]
  unfold ax;rw[map_append];rfl
theorem uw{A:As}(h:(ax A).Nodup)(k v:Nat):(ax (lq A k v)).Nodup:=by
 rw[mS];split
 ·exact h
 ·rename_i hk
  rw[nodup_append];exact⟨h,by simp,fun a ha b hb=>by simp at hb;subst hb;exact fun z=>hk (by rw[<-z];exact ha)⟩
theorem iW{A:As}(nd:(ax A).Nodup){p:Nat×Nat}(h:p∈A):vl A p.1=p.2:=by
 induction A with
 |nil=>cases h
 |cons q A ih=>
  rw[dN];have nd':=List.nodup_cons.mp (show(q.1::ax A).Nodup from nd);rcases List.mem_cons.mp h with rfl|h
  ·rw[if_pos rfl]
  ·rw[if_neg (fun z=>nd'.1 (by rw[z];exact List.mem_map.mpr ⟨p,h,rfl⟩))]
   exact ih nd'.2 h
theorem mf:∀{a b:List Nat},a.Pairwise (· < ·)->b.Pairwise (· < ·)->(∀k,k∈a↔k∈b)->a=b
 |[],b,_,_,h=>by
  cases b with
  |nil=>rfl
  |cons y b=>exact absurd ((h y).mpr mem_cons_self) (by simp)
 |x::a,b,ha,hb,h=>by
  cases b with
  |nil=>exact absurd ((h x).mp mem_cons_self) (by simp)
  |cons y b=>
   obtain⟨a1,a2⟩:=List.pairwise_cons.mp ha;obtain⟨b1,b2⟩:=List.pairwise_cons.mp hb;have e:x=y:=by
    rcases List.mem_cons.mp ((h x).mp mem_cons_self)with z|z
    ·exact z
    ·rcases List.mem_cons.mp ((h y).mpr mem_cons_self)with w|w
     ·exact w.symm
     ·have:=b1 x z
      have:=a1 y w;omega
   subst e;rw[mf a2 b2 fun k=>?_]
   constructor
   ·intro z
    rcases List.mem_cons.mp ((h k).mp (mem_cons_of_mem _ z))with w|w
    ·have:=a1 k z;omega
    ·exact w
   ·intro z
    rcases List.mem_cons.mp ((h k).mpr (mem_cons_of_mem _ z))with w|w
    ·have:=b1 k z;omega
    ·exact w
noncomputable def cI(k:Nat):Int:=(k:Int)
noncomputable def pD(p:Nat×Nat):D:=.tuple [.int (p.1:Int),.int (p.2:Int)]
theorem mx:∀S:As,i6 (S.map pD)=some (bR S)
 |[]=>rfl
 |p::S=>by
  show(vw (pD p)).bind _=_;show(some ((Sum.inl (p.1:Int):aG),PyData.int (p.2:Int))).bind _=_;rw[Option.bind_some,mx S];rfl
theorem qJ:∀(S A:As),(ax (A++S)).Nodup->(bR S).foldl (fun acc p=>eQ acc p.1 p.2) (bR A)=bR (A++S)
 |[],A,_=>by rw[append_nil];rfl
 |p::S,A,h=>by
  show(bR S).foldl _ (eQ (bR A) (.inl (p.1:Int)) (.int (p.2:Int)))=_;have hn:p.1 ∉ ax A:=fun z=>by
   unfold ax at h z;rw[map_append,nodup_append]at h;exact h.2.2 p.1 z p.1 (by simp) rfl
  rw[iD,show lq A p.1 p.2=A++[p]from if_neg (fun z=>hn ((iM A p.1).mp z)),qJ S (A++[p]) (by rw[append_assoc];exact h),append_assoc]
  rfl
theorem zN(S:As)(h:(ax S).Nodup)(hl:S.length<=1000):pq (.tuple (S.map pD))=some (bR S):=by
 show(i6 (S.map pD)).bind _=_;rw[mx,Option.bind_some,length_map,if_pos hl];exact congrArg some (qJ S [] h)
theorem jB:∀A:As,iT (bR A)=some ((ax A).map cI)
 |[]=>rfl
 |p::A=>by
  show(iT (bR A)).bind _=_;rw[jB A];rfl
theorem jm(ks:List Nat)(nd:ks.Nodup):∃rs:List Nat,aW (ks.map cI)=rs.map (cI)/\rs.Perm ks/\rs.Pairwise (· < ·):=by
 have pm:=cj (ks.map cI);have pw:=j8 (ks.map cI);obtain⟨l,hl⟩:∃l,aW (ks.map cI)=l:=⟨_,rfl⟩;rw[hl]at pm pw ⊢;have e:l=(l.map Int.toNat).map cI:=by
  rw[map_map];have:∀x∈l,((cI) ∘ Int.toNat) x=x:=fun x hx=>by
   obtain⟨k,_,rfl⟩:=List.mem_map.mp (pm.mem_iff.mp hx);simp[cI]
  rw[map_congr_left this,map_id']
 have p2:(l.map Int.toNat).Perm ks:=by
  have:=pm.map Int.toNat;rw[map_map]at this;have e2:ks.map (Int.toNat ∘ cI)=ks:=by
   have:∀x∈ks,(Int.toNat ∘ cI) x=x:=fun x _=>by simp[cI]
   rw[map_congr_left this,map_id']
  rw[e2]at this;exact this
 refine⟨l.map Int.toNat,e,p2,?_⟩;have nd2:(l.map Int.toNat).Nodup:=p2.nodup_iff.mpr nd;rw[e,List.pairwise_map]at pw;rw[List.nodup_iff_pairwise_ne]at nd2;exact(pw.and nd2).imp fun{a b} h=>by
  have h1:(a:Int)<=(b:Int):=h.1;have h2:=h.2;omega
theorem qH{A:As}{k:Nat}(h:k∈ax A):dW (bR A) (.inl (k:Int))=some (.int (vl A k:Int)):=by
 rw[vZ];unfold vl;cases e:A.find? fun p=>decide (p.1=k)with
 |none=>
  obtain⟨p,hp,rfl⟩:=List.mem_map.mp h;have:=List.find?_eq_none.mp e p hp;simp at this
 |some p=>rfl
theorem zg(A:As)(nd:(ax A).Nodup)(hl:A.length<64):∃rs:List Nat,rs.Perm (ax A)/\rs.Pairwise (· < ·)/\∀(δ:Dv) (i:Nat),ud δ[i]? = some (bR A)->jv i δ = some (.list (rs.map fun k=>pD (k,vl A k))):=by
 obtain⟨rs,e,p,pw⟩:=jm (ax A) nd;refine⟨rs,p,pw,fun δ i h=>?_⟩
 unfold jv;rw[h,Option.bind_some,jB,Option.bind_some,if_pos ⟨by rw[length_map];unfold ax;rw[length_map];exact hl,by
  rw[List.nodup_iff_pairwise_ne,List.pairwise_map];rw[List.nodup_iff_pairwise_ne]at nd;exact nd.imp fun{a b} h=>by unfold cI;omega⟩]
 unfold uD;rw[e,map_map];congr 2;apply map_congr_left;intro k hk;have hk:=p.mem_iff.mp hk;show PyData.tuple [.int (k:Int),(dW (bR A) (.inl (k:Int))).getD .none]=_;rw[qH hk];rfl
theorem Km(b1 e1 G:Int)(es:List (aG×D))(z0 z1 z2 z4:Sl)(hG:(dW es (.inl b1)).getD (.int 0)=.int G)(hl:es.length<sizeLine):(if b1=0 then some (Fl.nx,[z0,z1,z2,.od es,z4,.fz (.int b1),.fz (.int e1)])else bU 3 (oV 5) (o2 (o2 (i7 3 (oV 5) (oC (.int 0))) (oV 6) aL) (oC (.int 8)) aK) [z0,z1,z2,.od es,z4,.fz (.int b1),.fz (.int e1)])=some (.nx,[z0,z1,z2,.od (if b1=0 then es else eQ es (.inl b1) (.int ((G+e1)%8))),z4,.fz (.int b1),.fz (.int e1)]):=by
 by_cases h:b1=0
 ·rw[if_pos h,if_pos h]
 ·rw[if_neg h,if_neg h]
  simp[bU,i7,hG,hl]
theorem Ct(t b e a b1 e1 t1 G:Int)(es:List (aG×D))(P:D)(z1 z2 z5 z6:Sl)(p0:aB P (.int 0)=some (.int b))(p1:aB P (.int 1)=some (.int e))(ha:Builtin.bitAnd b 1=a)(hb1:(if a=1 then Builtin.bitXor b 1 else b)=b1)(he1:(if a=1 then -e else e)=e1)(ht1:(if a=1 then t+e else t)=t1)(hG:(dW es (.inl b1)).getD (.int 0)=.int G)(hl:es.length<sizeLine):ck [.fz (.int t),z1,z2,.od es,.fz P,z5,z6]=some (.nx,[.fz (.int t1),z1,z2,.od (if b1=0 then es else eQ es (.inl b1) (.int ((G+e1)%8))),.fz P,.fz (.int b1),.fz (.int e1)]):=by
 have q:=Km b1 e1 G es (.fz (.int t1)) z1 z2 (.fz P) hG hl;by_cases h:a=1
 ·rw[if_pos h]at hb1 he1 ht1
  subst h hb1 he1 ht1;simp[-ap,-bH,aM,bd,ck,p0,p1,ha];exact q
 ·rw[if_neg h]at hb1 he1 ht1
  subst hb1 he1 ht1;have n:cN (.int a) (.int 1)=some (.bool false):=by simp[h]
  simp[-ap,-bH,aM,bd,ck,p0,p1,ha,n];exact q
noncomputable def CS(A:As)(rs:List Nat):As:=(rs.filter fun k=>decide (vl A k≠0)).map fun k=>(k,vl A k)
theorem GQ(A:As)(nd:(ax A).Nodup)(hl:A.length<64):∃rs:List Nat,rs.Perm (ax A)/\rs.Pairwise (· < ·)/\∀z0 z1 z2 z4 z5 z6,gq [z0,z1,z2,.od (bR A),z4,z5,z6]=some (.list ((CS A rs).map pD)):=by
 obtain⟨rs,p,pw,it⟩:=zg A nd hl;refine⟨rs,p,pw,fun z0 z1 z2 z4 z5 z6=>?_⟩
 have hln:rs.length<=1000:=by rw[p.length_eq];unfold ax;rw[length_map];omega
 have:=aY (fi:=oI (jv 3) aU) (caps:=[]) (ft:=ob (o2 (o2 (oV 0) (oC (.int 1)) aB) (oC (.int 0)) neD)) (fe:=oV 0) (δ:=[z0,z1,z2,.od (bR A),z4,z5,z6]) (h:=fun k=>pD (k,vl A k)) (k:=fun k=>pD (k,vl A k)) (b:=fun k=>decide (vl A k≠0)) (xs:=rs) (by
  have:=it [z0,z1,z2,.od (bR A),z4,z5,z6] 3 rfl;simp[this]) (by omega) (fun k _=>by
  have b1:aB (pD (k,vl A k)) (.int 1)=some (.int (vl A k:Int)):=rfl;have e:neD (.int (vl A k:Int)) (.int 0)=some (.bool (decide (vl A k≠0))):=by
   by_cases h:vl A k=0
   ·rw[h];rfl
   ·have:¬((vl A k:Int)=0):=by omega
    simp[h,this]
  simp only[br,map_nil,append_nil];show(((aB (pD (k,vl A k)) (.int 1)).bind fun x=>neD x (.int 0)).bind asB)=_
  rw[b1,Option.bind_some,e];rfl) (fun k _ _=>by simp[br])
 have e:(CS A rs).map pD=(rs.filter fun k=>decide (vl A k≠0)).map fun k=>pD (k,vl A k):=by unfold CS;rw[map_map];rfl
 rw[e];exact this
theorem JS(b e a b1 e1 G0 G:Int)(es es1:List (aG×D))(hm:b%2=a)(h0:dW es (.inl 0)=some (.int G0))(hes1:(if a=1 then eQ es (.inl 0) (.int ((G0+e)%8))else es)=es1)(hb1:(if a=1 then b-1 else b)=b1)(he1:(if a=1 then -e else e)=e1)(hG:(dW es1 (.inl b1)).getD (.int 0)=.int G)(hl:es.length<sizeLine)(hl1:es1.length<sizeLine):b7 [.od es,.fz (.int b),.fz (.int e)]=some (.nx,[.od (if 0<b1 then eQ es1 (.inl b1) (.int ((G+e1)%8))else es1),.fz (.int b1),.fz (.int e1)]):=by
 have Q:bU 0 (oV 1) (o2 (o2 (i7 0 (oV 1) (oC (.int 0))) (oV 2) aL) (oC (.int 8)) aK) [.od es1,.fz (.int b1),.fz (.int e1)]=some (.nx,[.od (eQ es1 (.inl b1) (.int ((G+e1)%8))),.fz (.int b1),.fz (.int e1)]):=by
  simp[bU,i7,hG,hl1]
 by_cases h:a=1
 ·rw[if_pos h]at hb1 he1 hes1
  subst h hb1 he1;have P:bU 0 (oC (.int 0)) (o2 (o2 (mJ 0 (oC (.int 0))) (oV 2) aL) (oC (.int 8)) aK) [.od es,.fz (.int b),.fz (.int e)]=some (.nx,[.od es1,.fz (.int b),.fz (.int e)]):=by
   simp[bU,mJ,h0,hl,hes1]
  by_cases hp:1<b
  ·simp[-ap,-bH,aM,bd,b7,hm,P,hp,Q]
  ·simp[-ap,-bH,aM,bd,b7,hm,P,hp]
 ·rw[if_neg h]at hb1 he1 hes1
  subst hb1 he1 hes1;have n:cN (.int a) (.int 1)=some (.bool false):=by simp[h]
  by_cases hp:0<b
  ·simp[-ap,-bH,aM,bd,b7,hm,n,hp,Q]
  ·simp[-ap,-bH,aM,bd,b7,hm,n,hp]
theorem JR(b e:Int)(es es2:List (aG×D))(b1 e1:Int)(h:b7 [.od es,.fz (.int b),.fz (.int e)]=some (.nx,[.od es2,.fz (.int b1),.fz (.int e1)])):aX es [.int b,.int e]=some es2:=by
 show uj je 3 b7 es [.int b,.int e]=_;unfold uj;rw[if_pos (show [PyData.int b,PyData.int e].length+1=3 from rfl)];show(b7 [.od es,.fz (.int b),.fz (.int e)]).bind _=_;rw[h];rfl
noncomputable def lI(A:As):List (aG×Int):=A.map fun p=>(.inl (p.1:Int),(p.2:Int))
theorem lC:∀A:As,kA (bR A)=some (lI A)
 |[]=>rfl
 |p::A=>by
  show(kA (bR A)).bind _=_;rw[lC A];rfl
theorem zc(A:As):(lI A).map (fun p=>(p.1,PyData.int p.2))=bR A:=by
 unfold lI bR;rw[map_map];rfl
theorem qG{A:As}{k:Nat}(h:k∈ax A):mY (lI A) (.inl (k:Int))=some (vl A k:Int):=by
 have g:=qH h;rw[<-zc]at g;unfold dW at g;unfold mY;rw[List.find?_map]at g;have e:((fun p:aG×D=>decide (p.1=Sum.inl (k:Int))) ∘ fun p:aG×Int=>(p.1,PyData.int p.2))=fun p=>decide (p.1=Sum.inl (k:Int)):=rfl
 rw[e]at g;cases q:(lI A).find? fun p=>decide (p.1=Sum.inl (k:Int))with
 |none=>rw[q]at g;cases g
 |some p=>
  rw[q]at g;have g:PyData.int p.2=PyData.int (vl A k:Int):=Option.some.inj g;show some p.2=_;rw[PyData.int.inj g]
noncomputable def j3(A:As)(rs:List Nat):As:=(rs.filter fun k=>decide (0<k/\0<vl A k)).map fun k=>(k,vl A k)
theorem JK(T:D)(L:List D)(p:iQ [.fz T]=some (.list L)):bc [T]=some (.tuple L):=by
 simp[bc,aR,gF,az,p]
theorem mz(A:As)(nd:(ax A).Nodup)(hl:A.length<64):∃rs:List Nat,rs.Perm (ax A)/\rs.Pairwise (· < ·)/\bc [.dict (dctD (lI A))]=some (.tuple ((j3 A rs).map pD)):=by
 obtain⟨rs,e,p,pw⟩:=jm (ax A) nd;refine⟨rs,p,pw,JK _ _ ?_⟩;have hln:rs.length<64:=by rw[p.length_eq];unfold ax;rw[length_map];exact hl
 have so:gZ (.dict (dctD (lI A)))=some (.list (rs.map fun k:Nat=>PyData.int (k:Int))):=by
  show(gU (dctD (lI A))).bind _=_;rw[cU,Option.bind_some,zc,jB,Option.bind_some,if_pos (by rw[length_map];unfold ax;rw[length_map];exact hl),e,map_map];rfl
 have gf:∀k∈rs,fw (.dict (dctD (lI A))) (.int (k:Int))=some (.int (vl A k:Int)):=fun k hk=>by
  show(gU (dctD (lI A))).bind _=_;rw[cU,Option.bind_some];show(mY (lI A) (.inl (k:Int))).map PyData.int=_;rw[qG (p.mem_iff.mp hk)];rfl
 have:=aY (fi:=oI (o1 (oV 0) gZ) aU) (caps:=[(0,"turns")]) (ft:=i8 (ob (o2 (oV 0) (oC (.int 0)) uH)) (ob (o2 (o2 (oV 1) (oV 0) fw) (oC (.int 0)) uH))) (fe:=VL.os (ag (oV 0) (ag (o2 (oV 1) (oV 0) fw) (ar))) bw) (δ:=[.fz (.dict (dctD (lI A)))]) (h:=fun k:Nat=>PyData.int (k:Int)) (k:=fun k=>pD (k,vl A k)) (b:=fun k=>decide (0<k/\0<vl A k)) (xs:=rs) (by simp[so]) (by omega) (fun k hk=>by
  have g:=gf k hk;by_cases h1:0<k
  ·have h1':(0:Int)<(k:Int):=by omega
   by_cases h2:0<vl A k
   ·have h2':(0:Int)<(vl A k:Int):=by omega
    simp[br,g,h1,h2]
   ·have h2':¬(0:Int)<(vl A k:Int):=by omega
    simp[br,g,h1,h2]
  ·have h1':¬(0:Int)<(k:Int):=by omega
   simp[br,h1]) (fun k hk _=>by
  have g:=gf k hk;simp[br,g,pD])
 have e2:(j3 A rs).map pD=(rs.filter fun k=>decide (0<k/\0<vl A k)).map fun k=>pD (k,vl A k):=by unfold j3;rw[map_map];rfl
 rw[e2];exact this
theorem FO(b:Nat)(h:b%2=1):b ^^^ 1=b-1:=by
 have h1:(b ^^^ 1)/2=b/2:=by rw[Nat.xor_div_two,show 1/2=0 from rfl,Nat.xor_zero]
 have h2:¬(b ^^^ 1)%2=1:=fun z=>by
  rw[Nat.xor_mod_two_eq_one]at z;exact z ⟨fun _=>rfl,fun _=>h⟩
 omega
theorem Id(b:Nat)(h:b%2=1):Builtin.bitXor (b:Int) 1=((b-1:Nat):Int):=by
 have:=MA.qN b 1;rw[FO b h]at this;exact this
noncomputable def nv(x:Nat)(e:Int):Nat:=(((x:Int)+e)%8).toNat
theorem iR(x:Nat)(e:Int):((nv x e:Nat):Int)=((x:Int)+e)%8:=by unfold nv;omega
theorem vz(x:Nat)(e:Int):nv x e<8:=by unfold nv;omega
structure OkA (A:As):Prop where
 nd:(ax A).Nodup
 z:0∈ax A
 lt:∀k,vl A k<8
noncomputable def hb(b:Nat):Nat:=b-b%2
noncomputable def he(b:Nat)(e:Int):Int:=if b%2=1 then -e else e
noncomputable def n4(A:As)(b:Nat)(e:Int):As:=if b%2=1 then lq A 0 (nv (vl A 0) e)else A
noncomputable def qx(A:As)(b:Nat)(e:Int):As:=if 0<hb b then lq (n4 A b e) (hb b) (nv (vl (n4 A b e) (hb b)) (he b e))else n4 A b e
theorem qh{A:As}(h:OkA A)(k v:Nat)(hv:v<8):OkA (lq A k v):=by
 refine⟨uw h.nd k v,?_,fun j=>?_⟩
 ·rw[mS]
  split
  ·exact h.z
  ·exact List.mem_append_left _ h.z
 ·rw[gP]
  split
  ·exact hv
  ·exact h.lt j
theorem ok1{A:As}(h:OkA A)(b:Nat)(e:Int):OkA (n4 A b e):=by
 unfold n4;split
 ·exact qh h _ _ (vz _ _)
 ·exact h
theorem CQ{A:As}(h:OkA A)(b:Nat)(e:Int):OkA (qx A b e):=by
 unfold qx;split
 ·exact qh (ok1 h b e) _ _ (vz _ _)
 ·exact ok1 h b e
theorem lv(A:As)(k v:Nat):(lq A k v).length<=A.length+1:=by
 unfold lq;split
 ·rw[length_map];omega
 ·simp
theorem y0{A:As}(h:0∈ax A)(v:Nat):(lq A 0 v).length=A.length:=by
 unfold lq;rw[if_pos ((iM A 0).mpr h),length_map]
theorem oZ{A:As}(h:OkA A)(b:Nat)(e:Int):(n4 A b e).length=A.length/\(qx A b e).length<=A.length+1:=by
 have l1:(n4 A b e).length=A.length:=by
  unfold n4;split
  ·exact y0 h.z _
  ·rfl
 refine⟨l1,?_⟩;unfold qx;split
 ·have:=lv (n4 A b e) (hb b) (nv (vl (n4 A b e) (hb b)) (he b e));omega
 ·omega
theorem HD{b:Nat}(h:0<hb b):0≠hb b:=by omega
theorem IZ(A:As)(b:Nat)(e:Int)(k:Nat)(hk:0<k):vl (n4 A b e) k=vl A k:=by
 unfold n4;split
 ·rw[gP,if_neg (by omega)]
 ·rfl
theorem CC(A:As)(b:Nat)(e:Int):vl (qx A b e) 0=if b%2=1 then nv (vl A 0) e else vl A 0:=by
 have q:vl (n4 A b e) 0=if b%2=1 then nv (vl A 0) e else vl A 0:=by
  unfold n4;split
  ·rw[gP,if_pos rfl]
  ·rfl
 unfold qx;split
 ·rename_i h
  rw[gP,if_neg (HD h),q]
 ·exact q
theorem Kv(A:As)(b:Nat)(e:Int)(k:Nat)(hk:0<k):vl (qx A b e) k=if k=hb b then nv (vl A k) (he b e)else vl A k:=by
 unfold qx;split
 ·rename_i h
  rw[gP,IZ A b e _ h,IZ A b e _ hk];split
  ·rename_i z;rw[z]
  ·rfl
 ·rename_i h
  rw[if_neg (by omega),IZ A b e _ hk]
theorem vM{A:As}(h:OkA A)(hl:A.length<1000)(b:Nat)(e:Int):aX (bR A) [.int b,.int e]=some (bR (qx A b e)):=by
 have l:=oZ h b e;have sz:sizeLine>=1001:=by decide
 have e1:(if((b%2:Nat):Int)=1 then eQ (bR A) (.inl 0) (.int (((vl A 0:Nat)+e)%8))else bR A)=bR (n4 A b e):=by
  unfold n4;by_cases o:b%2=1
  ·rw[if_pos o,if_pos (by omega),<-iR]
   exact iD A 0 _
  ·rw[if_neg o,if_neg (by omega)]
 have e2:(if((b%2:Nat):Int)=1 then(b:Int)-1 else b)=((hb b:Nat):Int):=by
  unfold hb;by_cases o:b%2=1
  ·rw[if_pos (by omega)];omega
  ·rw[if_neg (by omega)];omega
 have e3:(if((b%2:Nat):Int)=1 then -e else e)=he b e:=by
  unfold he;by_cases o:b%2=1
  ·rw[if_pos o,if_pos (by omega)]
  ·rw[if_neg o,if_neg (by omega)]
 have q:=JS b e ((b%2:Nat):Int) (hb b:Nat) (he b e) (vl A 0:Nat) (vl (n4 A b e) (hb b):Nat) (bR A) (bR (n4 A b e)) (by omega) (qH h.z) e1 e2 e3 (zu _ _) (by unfold bR;rw[length_map];omega) (by unfold bR;rw[length_map];omega);have e4:(if(0:Int)<((hb b:Nat):Int)then eQ (bR (n4 A b e)) (.inl (hb b:Nat)) (.int (((vl (n4 A b e) (hb b):Nat)+he b e)%8))else bR (n4 A b e))=bR (qx A b e):=by
  unfold qx;by_cases o:0<hb b
  ·rw[if_pos o,if_pos (by omega),<-iR]
   exact iD _ _ _
  ·rw[if_neg o,if_neg (by omega)]
 rw[e4]at q;exact JR _ _ _ _ _ _ q
theorem jA(A:As)(rs:List Nat):ax (j3 A rs)=rs.filter fun k=>decide (0<k/\0<vl A k):=by
 unfold ax j3;rw[map_map];exact map_id' _
theorem Ex{A:As}(h:OkA A){rs:List Nat}(p:rs.Perm (ax A)):(ax (j3 A rs)).Nodup:=by
 rw[jA];exact List.Nodup.sublist filter_sublist (p.nodup_iff.mpr h.nd)
theorem ux{A:As}{k:Nat}(h:vl A k≠0):k∈ax A:=Classical.byContradiction fun z=>h (jg z)
theorem Df{A:As}(h:OkA A){rs:List Nat}(p:rs.Perm (ax A))(k:Nat):vl (j3 A rs) k=if 0<k then vl A k else 0:=by
 by_cases hk:k∈ax (j3 A rs)
 ·have hk':=hk
  rw[jA,mem_filter]at hk';obtain⟨h1,h2⟩:=hk';have h2:0<k/\0<vl A k:=by simpa using h2
  rw[if_pos h2.1];exact iW (Ex h p) (p:=(k,vl A k)) (List.mem_map.mpr ⟨k,List.mem_filter.mpr ⟨h1,by simpa using h2⟩,rfl⟩)
 ·rw[jg hk]
  by_cases h0:0<k
  ·rw[if_pos h0]
   refine Classical.byContradiction fun z=>hk ?_
   rw[jA,mem_filter];exact⟨p.mem_iff.mpr (ux (Ne.symm z)),by simp[h0];omega⟩
  ·rw[if_neg h0]
noncomputable def pB(S:As)(b:Nat)(e:Int):As:=if hb b=0 then S else lq S (hb b) (nv (vl S (hb b)) (he b e))
structure HB (first:Nat) (hs:List Nat) (bit:Int) (i:Nat):Prop where
 len:hs.length=i
 pw:hs.Pairwise (· < ·)
 lo:∀h∈hs,first<=h
 hi:∀h∈hs,(h:Int)<=bit
 b1:(first:Int)-1<=bit
 b2:bit<=(first:Int)-1+41*i
theorem HB.more{first i:Nat}{hs:List Nat}{bit:Int}(h:HB first hs bit i)(d:Int)(h0:0<=d)(h1:d<=40):HB first (hs++[(bit+1+d).toNat]) (bit+1+d) (i+1) where
 len:=by rw[length_append,h.len];rfl
 pw:=by
  refine List.pairwise_append.mpr ⟨h.pw,List.pairwise_singleton _ _,fun a ha b hb=>?_⟩
  rw[List.mem_singleton.mp hb];have:=h.hi a ha;omega
 lo:=fun a ha=>by
  rcases List.mem_append.mp ha with ha|ha
  ·exact h.lo a ha
  ·rw[List.mem_singleton.mp ha];have:=h.b1;omega
 hi:=fun a ha=>by
  rcases List.mem_append.mp ha with ha|ha
  ·have:=h.hi a ha;omega
  ·rw[List.mem_singleton.mp ha];have:=h.b1;omega
 b1:=by have:=h.b1;omega
 b2:=by have:=h.b2;omega
theorem Kk(hd bit k c m z v:Int)(C:D)(W:List D)(x2:Sl)(g:aS [C,.int k]=some (.int c))(hz:hd/45%4=z)(ha:lJ [PyData.int 1,.int 1,.int 2,.int 40] z=some (.int m))(hm:0<m)(hv:bit+1+c%m=v)(hl:W.length<sizeLine):
  cr [.fz (.int hd),.fz C,x2,.ow W,.fz (.int bit),.fz (.int k)]=some (.nx,[.fz (.int hd),.fz C,x2,.ow (W++[.int v]),.fz (.int v),.fz (.int k)]):=by
 have hmod:=jw (i:=c) hm;simp[cr,g,hz,ha,hmod,hv,hl]
theorem Kj(hd n f:Int)(C:D)(L W:List D)(x4 x5:Sl)(hn:hd/9%6=n)(r:ma [.int n]=some L)(lp:loop (gN 5) cr L [.fz (.int hd),.fz C,.fz (.int f),.ow [],.fz (.int (f-1)),.un]=some (.nx,[.fz (.int hd),.fz C,.fz (.int f),.ow W,x4,x5])):bj [.int hd,C,.int f]=some (.list W):=by
 simp[bj,aR,eT,az,hn,r,lp,jM]
theorem uS(hd first:Nat)(cells:List Int):∃hs:List Nat,bj [.int hd,.list (cells.map .int),.int first]=some (.list (ao hs))/\hs.length<=5/\hs.Pairwise (· < ·)/\∀h∈hs,first<=h/\h<=first+205:=by
 obtain⟨n,hn⟩:∃n:Nat,(hd:Int)/9%6=n:=⟨hd/9%6,by omega⟩;have hn4:n<=5:=by omega
 have r:=Gw (n:=n) (by omega);obtain⟨δ,e,hs,bit,x5,hb,rfl⟩:=yW (b:=cr) (k:=5) (fun i δ=>∃(hs:List Nat) (bit:Int) (x5:Sl),HB first hs bit i /\ δ = [.fz (.int hd),.fz (.list (cells.map .int)),.fz (.int first),.ow (ao hs),.fz (.int bit),x5]) n (fun i hi δ hdl=>by
  obtain⟨hs,bit,x5,hb,rfl⟩:=hdl;obtain⟨c,hc⟩:=wn cells i (by omega);obtain⟨z,hz⟩:∃z:Nat,(hd:Int)/45%4=z:=⟨hd/45%4,by omega⟩;obtain⟨m,ha,hm,hm2⟩:∃m:Int,lJ [PyData.int 1,.int 1,.int 2,.int 40] (z:Int)=some (.int m)/\0<m/\m<=40:=by
   have:z=0\/z=1\/z=2\/z=3:=by omega
   rcases this with rfl|rfl|rfl|rfl
   ·exact⟨1,rfl,by decide,by decide⟩
   ·exact⟨1,rfl,by decide,by decide⟩
   ·exact⟨2,rfl,by decide,by decide⟩
   ·exact⟨40,rfl,by decide,by decide⟩
  have d0:0<=c%m:=Int.emod_nonneg _ (by omega);have d1:c%m<m:=Int.emod_lt_of_pos _ hm;refine⟨_,Kk hd bit i c m z _ _ (ao hs) _ hc hz ha hm rfl (by rw[eJ,hb.len,sizeLine_eq];omega),hs++[(bit+1+c%m).toNat],bit+1+c%m,.fz (.int i),hb.more _ d0 (by omega),?_⟩;have:ao (hs++[(bit+1+c%m).toNat])=ao hs++[.int (bit+1+c%m)]:=by
   rw[iE];unfold ao;rw[map_cons,map_nil,toNat_of_nonneg (by have:=hb.b1;omega)]
  rw[this]) [.fz (.int hd),.fz (.list (cells.map .int)),.fz (.int first),.ow [],.fz (.int ((first:Int)-1)),.un] ⟨[],_,.un,⟨rfl,.nil,fun h q=>(by cases q),fun h q=>(by cases q),Int.le_refl _,by omega⟩,rfl⟩
 refine⟨hs,Kj hd n first _ _ _ _ _ hn r e,by rw[hb.len];exact hn4,hb.pw,fun h hh=>⟨hb.lo h hh,?_⟩⟩
 have:=hb.hi h hh;have:=hb.b2;omega
noncomputable def cv(l:List Nat):List (aG×D):=l.map fun p:Nat=>(.inl ((p:Nat):Int),.bool true)
theorem ph:∀l:List Nat,iT (cv l)=some (l.map fun p:Nat=>((p:Nat):Int))
 |[]=>rfl
 |p::r=>by
  show((Hl (Sum.inl (p:Int))).bind fun i=>(iT (cv r)).bind fun l=>some (i::l))=_
  rw[ph r];rfl
noncomputable def DC:Sf:=aI 2 (o2 (oC (.int 1)) (o2 (oV 0) (oC (.int 3)) aK) aL)
noncomputable def DB:Sf:=aI 3 (o2 (o2 (oV 0) (oC (.int 3)) cX) (oC (.int 3)) aK)
noncomputable def DA:Sf:=aI 4 (VL.os (ag (oV 0) (ag (oV 1) (ag (o2 (o2 (o2 (oC (.int 2)) (oV 2) gu) (oC (.int 1)) aL) (oV 3) aL) (ar)))) bj)
noncomputable def Dz:Sf:=aI 5 (o2 (o1 (o2 (o2 (o2 (oC (.int 2)) (oV 2) gu) (oC (.int 1)) aL) (oV 3) aL) kx) (oV 4) aL)
noncomputable def Gd:Sf:=lZ 6
noncomputable def Gc:Sf:=lZ 7
noncomputable def Dy:Sf:=eM (oI (oV 1) aU) (gN 8) (bt)
noncomputable def Dx:Sf:=aI 11 (o2 (o2 (o2 (oV 0) (oC (.int 180)) cX) (oC (.int 13)) aK) (oC (.int 6)) gX)
noncomputable def wG:Sf:=bH (ob (o2 (o2 (o2 (oV 0) (oC (.int 2340)) cX) (oC (.int 9)) aK) (oC (.int 1)) cN)) (aI 11 (o2 (o2 (o2 (oV 0) (oC (.int 2340)) cX) (oC (.int 401)) aK) (oC (.int 200)) gX)) (dS)
noncomputable def CL:Sf:=fun δ=>(aI 12 (VL.os (ag (cb) (ar)) bJ)) (kX 6 δ)
noncomputable def yd:Sf:=bA (VL.os (ag (VL.os (ag (oV 2) (ag (oV 3) (ar))) bw) (ag (oV 11) (ag (o2 (o2 (oV 0) (oC (.int 7)) cX) (oC (.int 8)) aK) (ag (oV 12) (ag (VL.os (ag (hJ 7) (ar)) bJ) (ag (VL.os (ag (oV 4) (ar)) bJ) (ar))))))) bw)
theorem Ga:ej=ap DC (ap DB (ap DA (ap Dz (ap Gd (ap Gc (ap Dy (ap Dx (ap wG (ap CL (yd)))))))))):=rfl
theorem CO(al:List Nat)(hb:∀a∈al,a<=1000):∀l:List Nat,(∀k∈l,k<al.length)->(l.map fun k=>2^al.getD k 0).sum<=l.length*2^1000
 |[],_=>by simp
 |k::l,h=>by
  have h1:=CO al hb l fun k hk=>h k (mem_cons_of_mem _ hk)
  have h2:2^al.getD k 0<=2^1000:=Nat.pow_le_pow_right (by decide) (hb _ (sQ (h k mem_cons_self)));rw[map_cons,sum_cons,length_cons,Nat.add_mul,Nat.one_mul];omega
noncomputable def cg:Nat:=2^1100
theorem GE(al:List Nat)(hb:∀a∈al,a<=1000)(l:List Nat)(h:∀k∈l,k<al.length)(hl:l.length<=1000):(l.map fun k=>2^al.getD k 0).sum<cg:=by
 have h1:=CO al hb l h;have h2:l.length*2^1000<=1000*2^1000:=Nat.mul_le_mul_right _ hl;have h3:1000*2^1000<cg:=by decide +kernel
 omega
theorem Gb(al:List Nat)(T:Nat)(x0 x1 x2 x3 x4 x6 x7 x8 x10 x11 x12:Sl)(hl:al.length<=1000)(hb:∀a∈al,a<=1000):∃(S:D) (b:Nat),b<cg/\ce [x0,x1,x2,x3,x4,.fz (.list (ao al)),x6,x7,x8,.fz (.int T),x10,x11,x12]=some S/\lQ [S]=some (.int (b:Int)):=by
 have hs:=xZ (fun k=>2^al.getD k 0) ((List.range al.length).filter fun k=>decide (T/2^(k+6)%2=1))
 have hlt:=GE al hb ((List.range al.length).filter fun k=>decide (T/2^(k+6)%2=1)) (fun k hk=>List.mem_range.mp (List.mem_filter.mp hk).1) (by
  have:=length_filter_le (fun k=>decide (T/2^(k+6)%2=1)) (List.range al.length)
  rw[length_range]at this;omega)
 generalize (((List.range al.length).filter fun k=>decide (T/2^(k+6)%2=1)).map fun k=>2^al.getD k 0).sum=b at hs hlt
 refine⟨.list (((List.range al.length).filter fun k=>decide (T/2^(k+6)%2=1)).map fun k=>.int ((2^al.getD k 0:Nat):Int)),b,hlt,?_,by rw[rm (fun k=>((2^al.getD k 0:Nat):Int)),hs]⟩
 unfold ce;refine aY (xs:=List.range al.length) (h:=fun k:Nat=>PyData.int (0+(k:Int))) ?_ (by rw[length_range];omega) (fun k hk=>?_) fun k hk _=>?_
 ·have h1:iO [.list (ao al)]=some (.int (al.length:Int)):=by rw[oY,eJ]
  refine GT (ds:=[.int (al.length:Int)]) ?_ (Gw (by omega));simp only[ag,VL.os,oV,ar];show(((some (PyData.list (ao al))).bind fun x=>some [x]).bind iO).bind _=_
  simp only[Option.bind_some,h1]
 ·have s:=iz T (k+6)
  have m:=hV (T/2^(k+6));rw[show((k+6:Nat):Int)=(k:Int)+6 by omega]at s;have d:decide (T/2^(k+6)%2=1)=(((T/2^(k+6)%2:Nat):Int)==1):=by
   rcases Nat.mod_two_eq_zero_or_one (T/2^(k+6))with h|h<;>rw[h]<;>rfl
  rw[d];generalize T/2^(k+6)%2=z at *;generalize T/2^(k+6)=y at *;rw[zero_add];simp only[ob,o2,oV,oC,br];simp[s,m]
 ·have hk':=List.mem_range.mp hk
  have a:=yS al hk';have p:=js (k:=al.getD k 0) (by have:=hb _ (sQ hk');omega);rw[zero_add];generalize 2^al.getD k 0=z at *;generalize al.getD k 0=y at *;simp[br,a,p]
noncomputable def sA:Sf:=aI 9 (VL.os (ag (oV 8) (ar)) bi)
noncomputable def sB:Sf:=aI 10 (VL.os (ag (ce) (ar)) lQ)
noncomputable def Iw:Dv->Option Bool:=i8 (ob (o2 (o2 (oV 9) (oC (.int 5)) aK) (oC (.int 1)) cN)) (i8 (ob (o2 (mI 7) (oC (.int 4)) FB)) (ob (o2 (oV 10) (oC (.int 0)) uH)))
noncomputable def Iv:Dv->Option Bool:=i8 (ob (o2 (o2 (oV 9) (oC (.int 5)) aK) (oC (.int 1)) neD)) (i8 (ob (o2 (oV 10) (oC (.int 1)) uH)) (ob (o2 (mI 6) (oC (.int 12)) FB)))
noncomputable def IC:Sf:=bU 7 (oV 10) (oC (.bool true))
noncomputable def C3:Dv->Option D:=o2 (VL.os (ag (o2 (oC (.int 1)) (o2 (o2 (oV 9) (oC (.int 5)) cX) (oC (.int 7)) aK) aL) (ag (o2 (oC (.int 2)) (o2 (oC (.int 2)) (o2 (o2 (oV 9) (oC (.int 5)) cX) (oC (.int 3)) aK) gu) aL) (ar))) gO) (VL.os (ag (oC (.int 1)) (ag (o2 (o2 (oV 0) (oC (.int 11)) cX) (oC (.int 3)) aK) (ar))) yT) aB
noncomputable def ID:Sf:=bU 6 (o2 (oV 10) (o2 (oV 10) (oC (.int 2)) aK) gX) C3
theorem xh:bt=ap sA (ap sB (bH Iw IC (bH Iv ID dS))):=rfl
section
variable(x0 x1 x2 x3 x4 x5 x6 x7 x8 x9 x10 x11 x12:Sl)(E6 E7:List (aG×D))(T b:Int)
theorem Gv(cell T:Int)(h:bi [.int cell]=some (.int T)):sA [x0,x1,x2,x3,x4,x5,x6,x7,.fz (.int cell),x9,x10,x11,x12]=some (.nx,[x0,x1,x2,x3,x4,x5,x6,x7,.fz (.int cell),.fz (.int T),x10,x11,x12]):=by simp[sA,h]
theorem Gu(S:D)(hp:ce [x0,x1,x2,x3,x4,x5,x6,x7,x8,x9,x10,x11,x12]=some S)(hs:lQ [S]=some (.int b)):sB [x0,x1,x2,x3,x4,x5,x6,x7,x8,x9,x10,x11,x12]=some (.nx,[x0,x1,x2,x3,x4,x5,x6,x7,x8,x9,.fz (.int b),x11,x12]):=by simp[sB,hp,hs]
theorem Ly:mI 7 [x0,x1,x2,x3,x4,x5,x6,.od E7,x8,x9,x10,x11,x12]=some (.int (E7.length:Int)):=rfl
theorem Lz:mI 6 [x0,x1,x2,x3,x4,x5,.od E6,x7,x8,x9,x10,x11,x12]=some (.int (E6.length:Int)):=rfl
theorem F7(n:Int)(hn:(E7.length:Int)=n):Iw [x0,x1,x2,x3,x4,x5,x6,.od E7,x8,.fz (.int T),.fz (.int b),x11,x12]=some (decide (T%5=1)&&(decide (n<4)&&decide (0<b))):=by
 have l:=Ly x0 x1 x2 x3 x4 x5 x6 x8 (.fz (.int T)) (.fz (.int b)) x11 x12 E7;rw[hn]at l;unfold Iw;simp only[i8,ob,o2,l];by_cases h1:T%5=1<;>by_cases h2:n<4<;>by_cases h3:0<b<;>simp[h1,h2,h3]
theorem F6(n:Int)(hn:(E6.length:Int)=n):Iv [x0,x1,x2,x3,x4,x5,.od E6,x7,x8,.fz (.int T),.fz (.int b),x11,x12]=some (decide (¬T%5=1)&&(decide (1<b)&&decide (n<12))):=by
 have l:=Lz x0 x1 x2 x3 x4 x5 x7 x8 (.fz (.int T)) (.fz (.int b)) x11 x12 E6;rw[hn]at l;unfold Iv;simp only[i8,ob,o2,l];by_cases h1:T%5=1<;>by_cases h2:n<12<;>by_cases h3:1<b<;>simp[h1,h2,h3]
theorem GM(E7':List (aG×D))(hl:E7.length<sizeLine)(hp:eQ E7 (.inl b) (.bool true)=E7'):IC [x0,x1,x2,x3,x4,x5,x6,.od E7,x8,x9,.fz (.int b),x11,x12]=some (.nx,[x0,x1,x2,x3,x4,x5,x6,.od E7',x8,x9,.fz (.int b),x11,x12]):=by
 subst hp;have k:iP (.int b)=some (.inl b):=rfl;simp only[IC,bU,oC,oV,Option.bind_some];show(ud (some (.od E7))).bind _=_;rw[yh,Option.bind_some];show(vd (some (.fz (.int b)))).bind _=_;rw[gb,Option.bind_some,k,Option.bind_some,if_pos hl];rfl
theorem HN(hd:Int):∃v:Nat,1<=v/\v<=7/\C3 [.fz (.int hd),x1,x2,x3,x4,x5,x6,x7,x8,.fz (.int T),x10,x11,x12]=some (.int v):=by
 have mk:gu (.int 2) (.int (T/5%3))=some (.int (2*(T/5%3))):=mO (.of_left (by decide));have hz:hd/11%3=0\/hd/11%3=1\/hd/11%3=2:=by omega
 have key:∀u:Int,1<=u->u<=7->C3 [.fz (.int hd),x1,x2,x3,x4,x5,x6,x7,x8,.fz (.int T),x10,x11,x12]=some (.int u)->∃v:Nat,1<=v/\v<=7/\C3 [.fz (.int hd),x1,x2,x3,x4,x5,x6,x7,x8,.fz (.int T),x10,x11,x12]=some (.int v):=fun u h1 h2 e=>⟨u.toNat,by omega,by omega,by rw[e,toNat_of_nonneg (by omega)]⟩
 rcases hz with h|h|h
 ·exact key (1+T/5%7) (by omega) (by omega) (by simp[C3,mk,h])
 ·exact key (2+2*(T/5%3)) (by omega) (by omega) (by simp[C3,mk,h])
 ·exact key (2+2*(T/5%3)) (by omega) (by omega) (by simp[C3,mk,h])
theorem GO(E6':List (aG×D))(k v:Int)(hl:E6.length<sizeLine)(hk:b-b%2=k)(hv:C3 [x0,x1,x2,x3,x4,x5,.od E6,x7,x8,.fz (.int T),.fz (.int b),x11,x12]=some (.int v))(hp:eQ E6 (.inl k) (.int v)=E6'):ID [x0,x1,x2,x3,x4,x5,.od E6,x7,x8,.fz (.int T),.fz (.int b),x11,x12]=some (.nx,[x0,x1,x2,x3,x4,x5,.od E6',x7,x8,.fz (.int T),.fz (.int b),x11,x12]):=by
 subst hp;have kk:iP (.int k)=some (.inl k):=rfl;have f1:(o2 (oV 10) (o2 (oV 10) (oC (.int 2)) aK) gX) [x0,x1,x2,x3,x4,x5,.od E6,x7,x8,.fz (.int T),.fz (.int b),x11,x12]=some (.int k):=by simp[hk]
 simp only[ID,bU,f1,hv,Option.bind_some];show(ud (some (.od E6))).bind _=_;rw[yh,Option.bind_some,kk,Option.bind_some,if_pos hl];rfl
end
structure OkT (A:As) (n:Nat):Prop where
 nd:(ax A).Nodup
 e:∀p∈A,2<=p.1/\p.1%2=0/\p.1<cg/\1<=p.2/\p.2<=7
 l:A.length<=n
structure OkU (ts:List Nat) (n:Nat):Prop where
 nd:ts.Nodup
 e:∀t∈ts,0<t/\t<cg
 l:ts.length<=n
theorem BK{A:As}{k v:Nat}{q:Nat×Nat}(h:q∈lq A k v):q∈A\/q=(k,v):=by
 unfold lq at h;split at h
 ·obtain⟨p,hp,rfl⟩:=List.mem_map.mp h
  by_cases e:p.1=k
  ·rw[if_pos e,e];exact .inr rfl
  ·rw[if_neg e];exact .inl hp
 ·rcases List.mem_append.mp h with h|h
  ·exact .inl h
  ·exact .inr (List.mem_singleton.mp h)
theorem OkT.put{A:As}{n k v:Nat}(h:OkT A n)(h1:2<=k/\k%2=0/\k<cg/\1<=v/\v<=7):OkT (lq A k v) (n+1) where
 nd:=uw h.nd k v
 e:=fun p hp=>by
  rcases BK hp with hp|rfl
  ·exact h.e p hp
  ·exact h1
 l:=by
  have:=h.l;have:=lv A k v;omega
noncomputable def jW(ts:List Nat)(k:Nat):List Nat:=if k∈ts then ts else ts++[k]
theorem OkU.put{ts:List Nat}{n k:Nat}(h:OkU ts n)(h1:0<k/\k<cg):OkU (jW ts k) (n+1):=by
 unfold jW;split
 ·exact⟨h.nd,h.e,by have:=h.l;omega⟩
 ·rename_i z
  refine⟨?_,fun t ht=>?_,by rw[length_append];have:=h.l;simp;omega⟩
  ·rw[nodup_append]
   exact⟨h.nd,by simp,fun a ha b hb=>by rw[List.mem_singleton.mp hb];exact fun q=>z (q ▸ ha)⟩
  ·rcases List.mem_append.mp ht with ht|ht
   ·exact h.e t ht
   ·rw[List.mem_singleton.mp ht];exact h1
theorem sV(l:List Nat)(k:Nat):eQ (cv l) (.inl (k:Int)) (.bool true)=cv (jW l k):=by
 have e:∀l:List Nat,((cv l).any fun p=>decide (p.1=.inl (k:Int)))=decide (k∈l):=fun l=>by
  induction l with
  |nil=>rfl
  |cons a l ih=>
   have h:cv (a::l)=(.inl (a:Int),.bool true)::cv l:=rfl;rw[h,any_cons,ih];by_cases q:k=a
   ·subst q;simp
   ·have:¬((Sum.inl (a:Int):aG)=.inl (k:Int)):=fun z=>q (by injection z with z;omega)
    simp[q,this]
 unfold eQ jW;rw[e l];by_cases h:k∈l
 ·simp only[h,decide_true,if_true]
  unfold cv;rw[map_map];apply map_congr_left;intro a _;show(if _ then _ else _)=_;split
  ·rename_i z
   have z:(Sum.inl (a:Int):aG)=.inl (k:Int):=by simpa using z
   show(Sum.inl (a:Int),_)=_;rw[z]
  ·rfl
 ·simp only[h,decide_false,if_false]
  unfold cv;rw[map_append];rfl
theorem AK(hd:Int)(C W L Hd:D)(al:List Nat)(l6:As)(l7:List Nat)(cell:Int)(x9 x10 x11 x12:Sl)(hl:al.length<=1000)(hb:∀a∈al,a<=1000)(h6:OkT l6 12)(h7:OkU l7 4):
  ∃(l6':As) (l7':List Nat) (y9 y10:Sl),OkT l6' 12/\OkU l7' 4/\bt [.fz (.int hd),.fz C,.fz W,.fz L,.fz Hd,.fz (.list (ao al)),.od (bR l6),.od (cv l7),.fz (.int cell),x9,x10,x11,x12]=some (.nx,[.fz (.int hd),.fz C,.fz W,.fz L,.fz Hd,.fz (.list (ao al)),.od (bR l6'),.od (cv l7'),.fz (.int cell),y9,y10,x11,x12]):=by
 obtain⟨T,hT⟩:=oS cell;obtain⟨S,b,hlt,hp,hs⟩:=Gb al T (.fz (.int hd)) (.fz C) (.fz W) (.fz L) (.fz Hd) (.od (bR l6)) (.od (cv l7)) (.fz (.int cell)) x10 x11 x12 hl hb;have e6:(bR l6).length=l6.length:=by simp[bR]
 have e7:(cv l7).length=l7.length:=by simp[cv]
 have z6:(bR l6).length<sizeLine:=by rw[e6,sizeLine_eq];have:=h6.l;omega
 have z7:(cv l7).length<sizeLine:=by rw[e7,sizeLine_eq];have:=h7.l;omega
 have go:bt [.fz (.int hd),.fz C,.fz W,.fz L,.fz Hd,.fz (.list (ao al)),.od (bR l6),.od (cv l7),.fz (.int cell),x9,x10,x11,x12]=(bH Iw IC (bH Iv ID dS)) [.fz (.int hd),.fz C,.fz W,.fz L,.fz Hd,.fz (.list (ao al)),.od (bR l6),.od (cv l7),.fz (.int cell),.fz (.int T),.fz (.int b),x11,x12]:=by
  rw[xh];exact(hU (Gv _ _ _ _ _ _ _ _ _ _ _ _ cell T hT)).trans (hU (Gu _ _ _ _ _ _ _ _ _ _ _ _ _ b S hp hs))
 have t1:=F7 (.fz (.int hd)) (.fz C) (.fz W) (.fz L) (.fz Hd) (.fz (.list (ao al))) (.od (bR l6)) (.fz (.int cell)) x11 x12 (cv l7) T b l7.length (by rw[e7]);have t2:=F6 (.fz (.int hd)) (.fz C) (.fz W) (.fz L) (.fz Hd) (.fz (.list (ao al))) (.od (cv l7)) (.fz (.int cell)) x11 x12 (bR l6) T b l6.length (by rw[e6]);rw[go];cases q1:(decide ((T:Int)%5=1)&&(decide ((l7.length:Int)<4)&&decide ((0:Int)<b)))with
 |true=>
  rw[q1]at t1;simp only[Bool.and_eq_true,decide_eq_true_eq]at q1;have u:=(OkU.put (n:=3) ⟨h7.nd,h7.e,by omega⟩ (k:=b) ⟨by omega,hlt⟩);exact⟨l6,_,_,_,h6,u,(yo t1).trans (GM _ _ _ _ _ _ _ _ _ _ _ _ _ _ z7 (sV l7 b))⟩
 |false=>
  rw[q1]at t1;cases q2:(decide (¬(T:Int)%5=1)&&(decide ((1:Int)<b)&&decide ((l6.length:Int)<12)))with
  |true=>
   rw[q2]at t2;simp only[Bool.and_eq_true,decide_eq_true_eq]at q2;obtain⟨k,hk⟩:∃k:Nat,(b:Int)-(b:Int)%2=k:=⟨b-b%2,by omega⟩;obtain⟨v,v1,v7,hv⟩:=HN (.fz C) (.fz W) (.fz L) (.fz Hd) (.fz (.list (ao al))) (.od (bR l6)) (.od (cv l7)) (.fz (.int cell)) (.fz (.int b)) x11 x12 T hd;have u:=(OkT.put (n:=11) ⟨h6.nd,h6.e,by omega⟩ (k:=k) (v:=v) ⟨by omega,by omega,by omega,v1,v7⟩);exact⟨_,l7,_,_,u,h7,(vi t1).trans ((yo t2).trans (GO _ _ _ _ _ _ _ _ _ _ _ _ _ _ k _ z6 hk hv (iD l6 k v)))⟩
  |false=>
   rw[q2]at t2;exact⟨l6,l7,_,_,h6,h7,(vi t1).trans ((vi t2).trans rfl)⟩
theorem AL(hd:Int)(W L Hd:D)(al:List Nat)(cells:List Int)(x11 x12:Sl)(hl:al.length<=1000)(hb:∀a∈al,a<=1000):∃(l6:As) (l7:List Nat) (y8 y9 y10:Sl),OkT l6 12/\OkU l7 4 /\
  loop (gN 8) bt (cells.map .int) [.fz (.int hd),.fz (.list (cells.map .int)),.fz W,.fz L,.fz Hd,.fz (.list (ao al)),.od [],.od [],.un,.un,.un,x11,x12]=some (.nx,[.fz (.int hd),.fz (.list (cells.map .int)),.fz W,.fz L,.fz Hd,.fz (.list (ao al)),.od (bR l6),.od (cv l7),y8,y9,y10,x11,x12]):=by
 obtain⟨δ',e,l6,l7,y8,y9,y10,h6,h7,rfl⟩:=vG (g:=gN 8) (b:=bt) (fun δ=>∃(l6:As) (l7:List Nat) (y8 y9 y10:Sl),OkT l6 12/\OkU l7 4 /\ δ = [.fz (.int hd),.fz (.list (cells.map .int)),.fz W,.fz L,.fz Hd,.fz (.list (ao al)),.od (bR l6),.od (cv l7),y8,y9,y10,x11,x12]) (cells.map .int) (fun d hdm δ hI=>by
  obtain⟨l6,l7,y8,y9,y10,h6,h7,rfl⟩:=hI;obtain⟨cell,_,rfl⟩:=List.mem_map.mp hdm;obtain⟨l6',l7',z9,z10,k6,k7,q⟩:=AK hd (.list (cells.map .int)) W L Hd al l6 l7 cell y9 y10 x11 x12 hl hb h6 h7;exact⟨_,rfl,_,q,l6',l7',_,_,_,k6,k7,rfl⟩) [.fz (.int hd),.fz (.list (cells.map .int)),.fz W,.fz L,.fz Hd,.fz (.list (ao al)),.od [],.od [],.un,.un,.un,x11,x12] ⟨[],[],_,_,_,⟨.nil,fun p hp=>(by cases hp),by simp⟩,⟨.nil,fun p hp=>(by cases hp),by simp⟩,rfl⟩
 exact⟨l6,l7,y8,y9,y10,h6,h7,e⟩
theorem mM(rs:List Nat):(rs.map cI).map PyData.int=ao rs:=by
 unfold ao cI;rw[map_map];rfl
theorem AU(A:As)(nd:(ax A).Nodup)(hl:A.length<=50):∃rs:List Nat,gZ (.dict (dctD (lI A)))=some (.list (ao rs))/\rs.Perm (ax A)/\rs.Pairwise (· < ·):=by
 obtain⟨rs,e,p,pw⟩:=jm (ax A) nd;refine⟨rs,?_,p,pw⟩;show(gU (dctD (lI A))).bind _=_;rw[cU,Option.bind_some,zc,jB,Option.bind_some,if_pos (by rw[length_map];unfold ax;rw[length_map];omega),e,mM]
theorem oE(l:List Nat)(nd:l.Nodup)(hl:l.length<=50):∃ss:List Nat,(∀(δ:Dv) (i:Nat),ud δ[i]? = some (cv l)->hJ i δ = some (.list (ao ss)))/\ss.Perm l/\ss.Pairwise (· < ·):=by
 obtain⟨ss,e,p,pw⟩:=jm l nd;refine⟨ss,fun δ i h=>?_,p,pw⟩
 have k:iT (cv l)=some (l.map cI):=ph l;unfold hJ;rw[h,Option.bind_some,k,Option.bind_some,if_pos (by rw[length_map];omega),e,mM]
theorem Ka(l:As)(x0 x1 x2 x3 x4 x5 x7 x8 x9 x10 x11 x12:Sl):kX 6 [x0,x1,x2,x3,x4,x5,.od (bR l),x7,x8,x9,x10,x11,x12]=[x0,x1,x2,x3,x4,x5,.fz (.dict (dctD (lI l))),x7,x8,x9,x10,x11,x12]:=by
 have h:=lC l;show(match kA (bR l)with|some l'=>_|none=>_)=_
 rw[h];rfl
theorem AN(l:As)(h:OkT l 12)(x0 x1 x2 x3 x4 x5 x7 x8 x9 x10 x11 x12:Sl):∃rs:List Nat,rs.Perm (ax l)/\rs.Pairwise (· < ·)/\CL [x0,x1,x2,x3,x4,x5,.od (bR l),x7,x8,x9,x10,x11,x12]=some (.nx,[x0,x1,x2,x3,x4,x5,.fz (.dict (dctD (lI l))),x7,x8,x9,x10,x11,.fz (.tuple ((rs.map fun k=>(k,vl l k)).map pD))]):=by
 have hl:=h.l;obtain⟨ss,h1,h2,h3⟩:=AU l h.nd (by omega);refine⟨ss,h2,h3,?_⟩;show(aI 12 (VL.os (ag (cb) (ar)) bJ)) (kX 6 [x0,x1,x2,x3,x4,x5,.od (bR l),x7,x8,x9,x10,x11,x12])=_;rw[Ka];have p:cb [x0,x1,x2,x3,x4,x5,.fz (.dict (dctD (lI l))),x7,x8,x9,x10,x11,x12]=some (.list ((ss.map fun k=>(k,vl l k)).map pD)):=by
  unfold cb;rw[map_map];refine jN (xs:=ss) (h:=fun s=>.int ((s:Nat):Int)) ?_ (by have:=h2.length_eq;unfold ax at this;rw[length_map]at this;omega) fun s hs=>?_
  ·have:(oI (o1 (oV 6) gZ) aU) [x0,x1,x2,x3,x4,x5,.fz (.dict (dctD (lI l))),x7,x8,x9,x10,x11,x12]=some (ao ss):=by
    show((gZ (.dict (dctD (lI l))))).bind aU=_;rw[h1];rfl
   exact this
  ·have hv:=qG (h2.mem_iff.mp hs)
   have g:fw (.dict (dctD (lI l))) (.int (s:Int))=some (.int (vl l s:Int)):=by
    show(gU (dctD (lI l))).bind _=_;rw[cU,Option.bind_some];show(iP (.int (s:Int))).bind _=_;rw[sI,Option.bind_some,hv];rfl
   generalize PyData.dict (dctD (lI l))=Z at *;simp[br,g,pD]
 simp only[aI,VL.os,ag,ar,p,Option.bind_some,ri];rfl
noncomputable def cO(A:As):List (Nat×Int):=A.map fun p=>(p.1,(p.2:Int))
theorem gS(A:As):(cO A).map prD=A.map pD:=by
 unfold cO;rw[map_map];rfl
theorem pJ(A:As):(cO A).length=A.length:=by simp[cO]
theorem AM(hd w l:Nat)(hv:Int)(ps:List (Nat×Int))(ts hs:List Nat)(x1 x5 x6 x7 x8 x9 x10:Sl)(q:hJ 7 [.fz (.int hd),x1,.fz (.int w),.fz (.int l),.fz (.list (ao hs)),x5,x6,x7,x8,x9,x10,.fz (.int hv),.fz (.tuple (ps.map prD))]=some (.list (ao ts))):
  yd [.fz (.int hd),x1,.fz (.int w),.fz (.int l),.fz (.list (ao hs)),x5,x6,x7,x8,x9,x10,.fz (.int hv),.fz (.tuple (ps.map prD))]=some (.rt (oneD w l hv (hd/7%8) ps ts hs),[.fz (.int hd),x1,.fz (.int w),.fz (.int l),.fz (.list (ao hs)),x5,x6,x7,x8,x9,x10,.fz (.int hv),.fz (.tuple (ps.map prD))]):=by
 have t6:∀a b c d e f:D,bw [a,b,c,d,e,f]=some (.tuple [a,b,c,d,e,f]):=fun a b c d e f=>ji (by simp)
 have hc:(hd:Int)/7%8=((hd/7%8:Nat):Int):=by omega
 unfold oneD;generalize ao hs=HS at *;generalize ao ts=TS at *;generalize ps.map prD=PS at *;generalize hd/7%8=c at *;simp[yd,q,t6,hc]
structure Sm (w l:Nat) (hv:Int) (c:Nat) (ps:As) (ts hs:List Nat) (n m:Nat):Prop where
 w1:1<=w
 w3:w<=3
 l2:l<=2
 c8:c<8
 pk:(ax ps).Pairwise (· < ·)
 pe:∀p∈ps,2<=p.1/\p.1%2=0/\p.1<cg/\1<=p.2/\p.2<=7
 pl:ps.length<=m
 tk:ts.Pairwise (· < ·)
 te:∀t∈ts,0<t/\t<cg
 tl:ts.length<=m
 hl:hs.length<=n
 pw:hs.Pairwise (· < ·)
 hb:∀h∈hs,2*w+1+l<=h/\h<900
theorem BW(l:As)(rs:List Nat):ax (rs.map fun k=>(k,vl l k))=rs:=by
 unfold ax;rw[map_map];exact map_id' rs
theorem Jt{l:As}{n:Nat}(h:OkT l n){rs:List Nat}(p:rs.Perm (ax l)):∀q∈(rs.map fun k=>(k,vl l k)),2<=q.1/\q.1%2=0/\q.1<cg/\1<=q.2/\q.2<=7:=fun q hq=>by
 obtain⟨k,hk,rfl⟩:=List.mem_map.mp hq;obtain⟨r,hr,rfl⟩:=List.mem_map.mp (p.mem_iff.mp hk);have:=h.e r hr;rw[iW h.nd hr];exact this
section
variable(C:D)(x3 x4 x5 x6 x7 x8 x9 x10 x11 x12:Sl)
theorem DI(hd w:Int)(hw:1+hd%3=w)(x2:Sl):DC [.fz (.int hd),.fz C,x2,x3,x4,x5,x6,x7,x8,x9,x10,x11,x12]=some (.nx,[.fz (.int hd),.fz C,.fz (.int w),x3,x4,x5,x6,x7,x8,x9,x10,x11,x12]):=by simp[DC,hw]
theorem DH(hd l:Int)(hl:hd/3%3=l)(x2:Sl):DB [.fz (.int hd),.fz C,x2,x3,x4,x5,x6,x7,x8,x9,x10,x11,x12]=some (.nx,[.fz (.int hd),.fz C,x2,.fz (.int l),x4,x5,x6,x7,x8,x9,x10,x11,x12]):=by simp[DB,hl]
theorem DG(hd w l f m:Int)(B:D)(mw:gu (.int 2) (.int w)=some (.int m))(hf:m+1+l=f)(b1:bj [.int hd,C,.int f]=some B):DA [.fz (.int hd),.fz C,.fz (.int w),.fz (.int l),x4,x5,x6,x7,x8,x9,x10,x11,x12]=some (.nx,[.fz (.int hd),.fz C,.fz (.int w),.fz (.int l),.fz B,x5,x6,x7,x8,x9,x10,x11,x12]):=by simp[DA,mw,hf,b1]
theorem DF(H:D)(w l f m:Int)(B R A:D)(mw:gu (.int 2) (.int w)=some (.int m))(hf:m+1+l=f)(lr:kx (.int f)=some R)(al:aL R B=some A):Dz [.fz H,.fz C,.fz (.int w),.fz (.int l),.fz B,x5,x6,x7,x8,x9,x10,x11,x12]=some (.nx,[.fz H,.fz C,.fz (.int w),.fz (.int l),.fz B,.fz A,x6,x7,x8,x9,x10,x11,x12]):=by
 have e:(o2 (o2 (o2 (oC (.int 2)) (oV 2) gu) (oC (.int 1)) aL) (oV 3) aL) [.fz H,.fz C,.fz (.int w),.fz (.int l),.fz B,x5,x6,x7,x8,x9,x10,x11,x12]=some (.int f):=by simp[mw,hf]
 have e2:(o1 (o2 (o2 (o2 (oC (.int 2)) (oV 2) gu) (oC (.int 1)) aL) (oV 3) aL) kx) [.fz H,.fz C,.fz (.int w),.fz (.int l),.fz B,x5,x6,x7,x8,x9,x10,x11,x12]=some R:=by
  unfold o1;rw[e];exact lr
 unfold Dz aI;show((((o1 _ kx) _).bind fun x=>((some B).bind fun y=>aL x y)).bind _)=_
 rw[e2,Option.bind_some,Option.bind_some,al];rfl
theorem DD(hd h0:Int)(h:hd/180%13-6=h0)(x1 x2:Sl):Dx [.fz (.int hd),x1,x2,x3,x4,x5,x6,x7,x8,x9,x10,x11,x12]=some (.nx,[.fz (.int hd),x1,x2,x3,x4,x5,x6,x7,x8,x9,x10,.fz (.int h0),x12]):=by simp[Dx,h]
theorem Ge(hd h1:Int)(q:hd/2340%9=1)(h:hd/2340%401-200=h1)(x1 x2:Sl):wG [.fz (.int hd),x1,x2,x3,x4,x5,x6,x7,x8,x9,x10,x11,x12]=some (.nx,[.fz (.int hd),x1,x2,x3,x4,x5,x6,x7,x8,x9,x10,.fz (.int h1),x12]):=by simp[wG,q,h]
theorem Gf(hd:Int)(q:¬hd/2340%9=1)(x1 x2:Sl):wG [.fz (.int hd),x1,x2,x3,x4,x5,x6,x7,x8,x9,x10,x11,x12]=some (.nx,[.fz (.int hd),x1,x2,x3,x4,x5,x6,x7,x8,x9,x10,x11,x12]):=by simp[wG,q]
end
theorem xf{j:Int}(h:j<=16777216)(h2:-4611686018427387904<=j):kx (.int j)=some (.list (kM 0 j.toNat)):=if_pos ⟨h,h2⟩
theorem wP(f:Nat):kM 0 f=ao (List.range f):=by
 unfold kM ao;simp
theorem yV{f:Nat}(h:f<=1000):kx (.int (f:Int))=some (.list (ao (List.range f))):=by
 rw[xf (by omega) (by omega),Int.toNat_natCast,wP]
theorem rB(hd:Nat)(cells:List Int):∃(w l:Nat) (hv:Int) (c:Nat) (ps:As) (ts hs:List Nat),bp [.int hd,.list (cells.map .int)]=some (oneD w l hv c (cO ps) ts hs)/\Sm w l hv c ps ts hs 5 12:=by
 obtain⟨w,hw⟩:∃w:Nat,1+(hd:Int)%3=w:=⟨1+hd%3,by omega⟩;obtain⟨l,hl⟩:∃l:Nat,(hd:Int)/3%3=l:=⟨hd/3%3,by omega⟩;obtain⟨f,hf⟩:∃f:Nat,2*(w:Int)+1+l=f:=⟨2*w+1+l,by omega⟩;obtain⟨hs,b1,b2,b3,b4⟩:=uS hd f cells;have mw:gu (.int 2) (.int (w:Int))=some (.int (2*(w:Int))):=mO (.of_left (by decide));have lr:=yV (f:=f) (by omega);have al:aL (.list (ao (List.range f))) (.list (ao hs))=some (.list (ao (List.range f++hs))):=by
  rw[fZ (by rw[eJ,eJ,length_range];omega),iE]
 obtain⟨l6,l7,y8,y9,y10,h6,h7,lp⟩:=AL hd (.int w) (.int l) (.list (ao hs)) (List.range f++hs) cells .un .un (by rw[length_append,length_range];omega) (fun a ha=>by
  rcases List.mem_append.mp ha with ha|ha
  ·have:=List.mem_range.mp ha;omega
  ·have:=(b4 a ha).2;omega)
 have s7:Dy [.fz (.int hd),.fz (.list (cells.map .int)),.fz (.int w),.fz (.int l),.fz (.list (ao hs)),.fz (.list (ao (List.range f++hs))),.od [],.od [],.un,.un,.un,.un,.un]=some (.nx,[.fz (.int hd),.fz (.list (cells.map .int)),.fz (.int w),.fz (.int l),.fz (.list (ao hs)),.fz (.list (ao (List.range f++hs))),.od (bR l6),.od (cv l7),y8,y9,y10,.un,.un]):=by
  unfold Dy eM;rw[BA rfl,Option.bind_some];exact lp
 obtain⟨h0,hh0⟩:∃h0:Int,(hd:Int)/180%13-6=h0:=⟨_,rfl⟩;obtain⟨hv,v1,v2,s9⟩:∃hv:Int,-1000<=hv/\hv<=1000/\∀x1 x2 x3 x4 x5 x6 x7,wG [.fz (.int hd),x1,x2,x3,x4,x5,x6,x7,y8,y9,y10,.fz (.int h0),.un]=some (.nx,[.fz (.int hd),x1,x2,x3,x4,x5,x6,x7,y8,y9,y10,.fz (.int hv),.un]):=by
  by_cases q:(hd:Int)/2340%9=1
  ·exact⟨(hd:Int)/2340%401-200,by omega,by omega,fun x1 x2 x3 x4 x5 x6 x7=>Ge _ _ _ _ _ _ _ _ _ _ hd _ q rfl _ _⟩
  ·exact⟨h0,by omega,by omega,fun x1 x2 x3 x4 x5 x6 x7=>Gf _ _ _ _ _ _ _ _ _ _ hd q _ _⟩
 obtain⟨rs,p1,p2,s10⟩:=AN l6 h6 (.fz (.int hd)) (.fz (.list (cells.map .int))) (.fz (.int w)) (.fz (.int l)) (.fz (.list (ao hs))) (.fz (.list (ao (List.range f++hs)))) (.od (cv l7)) y8 y9 y10 (.fz (.int hv)) .un;obtain⟨ps,hps⟩:∃ps:As,rs.map (fun k=>(k,vl l6 k))=ps:=⟨_,rfl⟩
 rw[hps,<-gS]at s10;have hpl:ps.length<=12:=by
  have:=p1.length_eq;have:=h6.l;unfold ax at *;rw[<-hps,length_map];rw[length_map]at *;omega
 obtain⟨ts,hts,q1,q2⟩:=oE l7 h7.nd (by have:=h7.l;omega);have hts:=hts [.fz (.int hd),.fz (.list (cells.map .int)),.fz (.int w),.fz (.int l),.fz (.list (ao hs)),.fz (.list (ao (List.range f++hs))),.fz (.dict (dctD (lI l6))),.od (cv l7),y8,y9,y10,.fz (.int hv),.fz (.tuple ((cO ps).map prD))] 7 rfl;have s11:=AM hd w l hv (cO ps) ts hs (.fz (.list (cells.map .int))) (.fz (.list (ao (List.range f++hs)))) (.fz (.dict (dctD (lI l6)))) (.od (cv l7)) y8 y9 y10 hts;have d5:Gd [.fz (.int hd),.fz (.list (cells.map .int)),.fz (.int w),.fz (.int l),.fz (.list (ao hs)),.fz (.list (ao (List.range f++hs))),.un,.un,.un,.un,.un,.un,.un]=some (.nx,[.fz (.int hd),.fz (.list (cells.map .int)),.fz (.int w),.fz (.int l),.fz (.list (ao hs)),.fz (.list (ao (List.range f++hs))),.od [],.un,.un,.un,.un,.un,.un]):=rfl;have d6:Gc [.fz (.int hd),.fz (.list (cells.map .int)),.fz (.int w),.fz (.int l),.fz (.list (ao hs)),.fz (.list (ao (List.range f++hs))),.od [],.un,.un,.un,.un,.un,.un]=some (.nx,[.fz (.int hd),.fz (.list (cells.map .int)),.fz (.int w),.fz (.int l),.fz (.list (ao hs)),.fz (.list (ao (List.range f++hs))),.od [],.od [],.un,.un,.un,.un,.un]):=rfl;refine⟨w,l,hv,hd/7%8,ps,ts,hs,yP (δ':=[.fz (.int hd),.fz (.list (cells.map .int)),.fz (.int w),.fz (.int l),.fz (.list (ao hs)),.fz (.list (ao (List.range f++hs))),.fz (.dict (dctD (lI l6))),.od (cv l7),y8,y9,y10,.fz (.int hv),.fz (.tuple ((cO ps).map prD))]) rfl ?_,⟨by omega,by omega,by omega,by omega,by rw[<-hps,BW];exact p2,by rw[<-hps];exact Jt h6 p1,hpl,q2,fun t ht=>h7.e t (q1.mem_iff.mp ht),by rw[q1.length_eq];have:=h7.l;omega,by omega,b3,fun h hh=>?_⟩⟩
 ·rw[Ga]
  exact(hU (DI _ _ _ _ _ _ _ _ _ _ _ hd w hw _)).trans ((hU (DH _ _ _ _ _ _ _ _ _ _ _ hd l hl _)).trans ((hU (DG _ _ _ _ _ _ _ _ _ _ hd w l f _ _ mw hf b1)).trans ((hU (DF _ _ _ _ _ _ _ _ _ _ w l f _ _ _ _ mw hf lr al)).trans ((hU d5).trans ((hU d6).trans ((hU s7).trans ((hU (DD _ _ _ _ _ _ _ _ _ _ hd h0 hh0 _ _)).trans ((hU (s9 _ _ _ _ _ _ _)).trans ((hU s10).trans s11)))))))))
 ·have:=b4 h hh;omega
noncomputable def oB(S:As):List (Nat×Int)->As
 |[]=>S
 |q::Q=>oB (pB S q.1 q.2) Q
noncomputable def tv:List (Nat×Int)->Int
 |[]=>0
 |q::Q=>(if q.1%2=1 then q.2 else 0)+tv Q
noncomputable def kv(k:Nat):List (Nat×Int)->Int
 |[]=>0
 |q::Q=>(if hb q.1=k then he q.1 q.2 else 0)+kv k Q
theorem Dg(S:As)(b:Nat)(e:Int){k:Nat}(hk:0<k):vl (pB S b e) k=if hb b=k then nv (vl S k) (he b e)else vl S k:=by
 unfold pB;by_cases z:hb b=0
 ·rw[if_pos z,if_neg (by omega)]
 ·rw[if_neg z,gP]
  by_cases y:hb b=k
  ·rw[if_pos y,if_pos y.symm,y]
  ·rw[if_neg y,if_neg (fun q=>y q.symm)]
theorem xN{k:Nat}(hk:0<k):∀(Q:List (Nat×Int)) (S:As),vl S k<8->(vl (oB S Q) k:Int)=((vl S k:Int)+kv k Q)%8
 |[],S,h=>by
  show(vl S k:Int)=(_+0)%8;omega
 |q::Q,S,h=>by
  have ih:=xN hk Q (pB S q.1 q.2);have e:=Dg S q.1 q.2 hk;show(vl (oB (pB S q.1 q.2) Q) k:Int)=((vl S k:Int)+((if hb q.1=k then he q.1 q.2 else 0)+kv k Q))%8;by_cases y:hb q.1=k
  ·rw[if_pos y]at e ⊢
   have h2:=vz (vl S k) (he q.1 q.2);have h3:=iR (vl S k) (he q.1 q.2);rw[ih (by omega),e,h3];omega
  ·rw[if_neg y]at e ⊢
   rw[ih (by omega),e];omega
theorem GZ{S:As}(h:(ax S).Nodup)(b:Nat)(e:Int):(ax (pB S b e)).Nodup:=by
 unfold pB;split
 ·exact h
 ·exact uw h _ _
theorem y1(S:As)(b:Nat)(e:Int):(pB S b e).length<=S.length+1:=by
 unfold pB;split
 ·omega
 ·exact lv S _ _
theorem yR:∀(Q:List (Nat×Int)) {S:As},(ax S).Nodup->(ax (oB S Q)).Nodup
 |[],_,h=>h
 |q::Q,_,h=>yR Q (GZ h q.1 q.2)
theorem vK:∀(Q:List (Nat×Int)) (S:As),(oB S Q).length<=S.length+Q.length
 |[],S=>Nat.le_refl _
 |q::Q,S=>by
  have:=vK Q (pB S q.1 q.2);have:=y1 S q.1 q.2;show(oB (pB S q.1 q.2) Q).length<=_;rw[length_cons];omega
theorem Ft(t:Int)(S:As)(b:Nat)(e:Int)(z1 z2 z5 z6:Sl)(hl:S.length<1000):∃y5 y6,ck [.fz (.int t),z1,z2,.od (bR S),.fz (prD (b,e)),z5,z6]=some (.nx,[.fz (.int (t+if b%2=1 then e else 0)),z1,z2,.od (bR (pB S b e)),.fz (prD (b,e)),y5,y6]):=by
 have e2:(if((b%2:Nat):Int)=1 then Builtin.bitXor (b:Int) 1 else b)=((hb b:Nat):Int):=by
  unfold hb;by_cases o:b%2=1
  ·rw[if_pos (by omega),Id b o,o]
  ·rw[if_neg (by omega)];omega
 have e3:(if((b%2:Nat):Int)=1 then -e else e)=he b e:=by
  unfold he;by_cases o:b%2=1
  ·rw[if_pos o,if_pos (by omega)]
  ·rw[if_neg o,if_neg (by omega)]
 have e4:(if((hb b:Nat):Int)=0 then bR S else eQ (bR S) (.inl (hb b:Nat)) (.int (((vl S (hb b):Nat)+he b e)%8)))=bR (pB S b e):=by
  unfold pB;by_cases o:hb b=0
  ·rw[if_pos o,if_pos (by omega)]
  ·rw[if_neg o,if_neg (by omega),<-iR]
   exact iD _ _ _
 have e5:(if((b%2:Nat):Int)=1 then t+e else t)=t+if b%2=1 then e else 0:=by
  by_cases o:b%2=1
  ·rw[if_pos o,if_pos (by omega)]
  ·rw[if_neg o,if_neg (by omega)];omega
 have sz:sizeLine>=1001:=by decide
 have st:=Ct t b e ((b%2:Nat):Int) (hb b:Nat) (he b e) _ (vl S (hb b):Nat) (bR S) (prD (b,e)) z1 z2 z5 z6 rfl rfl (Il b) e2 e3 e5 (zu _ _) (by unfold bR;rw[length_map];omega);rw[e4]at st;exact⟨_,_,st⟩
theorem wx(z1 z2:Sl):∀(Q:List (Nat×Int)) (t:Int) (S:As) (z4 z5 z6:Sl),S.length+Q.length<1000->∃y4 y5 y6,loop (gN 4) ck (Q.map prD) [.fz (.int t),z1,z2,.od (bR S),z4,z5,z6]=some (.nx,[.fz (.int (t+tv Q)),z1,z2,.od (bR (oB S Q)),y4,y5,y6])
 |[],t,S,z4,z5,z6,_=>⟨z4,z5,z6,by
  show some (Fl.nx,[Sl.fz (.int t),z1,z2,.od (bR S),z4,z5,z6])=some (.nx,[.fz (.int (t+0)),z1,z2,.od (bR S),z4,z5,z6]);rw[Int.add_zero]⟩
 |q::Q,t,S,z4,z5,z6,h=>by
  rw[length_cons]at h;obtain⟨w5,w6,e1⟩:=Ft t S q.1 q.2 z1 z2 z5 z6 (by omega);have hl:=y1 S q.1 q.2;obtain⟨y4,y5,y6,e2⟩:=wx z1 z2 Q (t+if q.1%2=1 then q.2 else 0) (pB S q.1 q.2) (.fz (prD q)) w5 w6 (by omega);refine⟨y4,y5,y6,?_⟩;rw[map_cons,bN (δ1:=[.fz (.int t),z1,z2,.od (bR S),.fz (prD q),z5,z6]) (by simp) e1,e2,Int.add_assoc];rfl
structure RR (R:As) (f:Nat->Int):Prop where
 pk:(ax R).Pairwise (· < ·)
 val:∀k,0<k->(vl R k:Int)=f k%8
 nz:∀p∈R,0<p.1/\p.2≠0
theorem mL{l:List Nat}(h:l.Pairwise (· < ·)):l.Nodup:=by
 rw[List.nodup_iff_pairwise_ne];exact h.imp fun{a b} q=>by omega
theorem RR.keys{R:As}{f:Nat->Int}(h:RR R f)(k:Nat):k∈ax R↔0<k/\f k%8≠0:=by
 constructor
 ·intro hk
  obtain⟨p,hp,rfl⟩:=List.mem_map.mp hk;have h1:=h.nz p hp;have h2:=h.val p.1 h1.1;rw[iW (mL h.pk) hp]at h2;exact⟨h1.1,by omega⟩
 ·intro ⟨h0,hk⟩
  have h2:=h.val k h0;exact ux (by omega)
theorem wv:∀{R:As},(ax R).Nodup->R=(ax R).map fun k=>(k,vl R k):=fun{R} nd=>by
 unfold ax;rw[map_map];refine(List.map_id R).symm.trans (map_congr_left fun p hp=>?_);show p=(p.1,vl R p.1);rw[iW nd hp]
theorem RR.one{R R':As}{f g:Nat->Int}(h:RR R f)(h':RR R' g)(e:∀k,0<k->f k%8=g k%8):R=R':=by
 have k1:ax R=ax R':=mf h.pk h'.pk fun k=>by
  rw[h.keys,h'.keys];constructor
  ·intro ⟨a,b⟩;exact⟨a,by rw[<-e k a];exact b⟩
  ·intro ⟨a,b⟩;exact⟨a,by rw[e k a];exact b⟩
 rw[wv (mL h.pk),wv (mL h'.pk),k1];refine map_congr_left fun k hk=>?_
 have h0:0<k:=((h'.keys k).mp hk).1;have h1:=h.val k h0;have h2:=h'.val k h0;have:=e k h0;congr 1;omega
theorem Cf(S:As)(h:(ax S).Nodup)(hl:S.length<=1000):pq (.list (S.map pD))=some (bR S):=by
 show(i6 (S.map pD)).bind _=_;rw[mx,Option.bind_some,length_map,if_pos hl];exact congrArg some (qJ S [] h)
theorem Fu(t t':Int)(T:D)(Q L:List D)(es es':List (aG×D))(y4 y5 y6:Sl)(hT:pq T=some es)(lp:loop (gN 4) ck Q [.fz (.int t),.fz T,.fz (.list Q),.od es,.un,.un,.un]=some (.nx,[.fz (.int t'),.fz T,.fz (.list Q),.od es',y4,y5,y6]))(p:gq [.fz (.int t'),.fz T,.fz (.list Q),.od es',y4,y5,y6]=some (.list L)):bD [.int t,T,.list Q]=some (.tuple [.int (t' % 8),.tuple L]):=by
 simp[-ap,-bH,aM,bd,bD,aR,il,az,ui,hT,lp,p]
theorem zk:∀(Q:List (Nat×Int)) {S:As},0 ∉ ax S->0 ∉ ax (oB S Q)
 |[],_,h=>h
 |q::Q,S,h=>zk Q (by
  unfold pB;split
  ·exact h
  ·rename_i z
   rw[mS];split
   ·exact h
   ·intro y
    rcases List.mem_append.mp y with y|y
    ·exact h y
    ·exact z (List.mem_singleton.mp y).symm)
theorem jT(t:Int)(S:As)(hk:(ax S).Nodup)(h8:∀k,vl S k<8)(Q:List (Nat×Int))(hl:S.length+Q.length<64)(h0:0 ∉ ax S):∃R:As,RR R (fun k=>(vl S k:Int)+kv k Q)/\R.length<=S.length+Q.length/\∀T,pq T=some (bR S)->bD [.int t,T,.list (Q.map prD)]=some (.tuple [.int ((t+tv Q)%8),.tuple (R.map pD)]):=by
 have nd:=yR Q hk;have ln:=vK Q S;obtain⟨rs,p,pw,hp⟩:=GQ (oB S Q) nd (by omega);refine⟨CS (oB S Q) rs,⟨?_,fun k h=>?_,fun q hq=>?_⟩,?_,fun T hT=>?_⟩
 ·unfold CS ax
  rw[map_map];have:(rs.filter fun k=>decide (vl (oB S Q) k≠0)).map ((fun p:Nat×Nat=>p.1) ∘ fun k=>(k,vl (oB S Q) k))=rs.filter fun k=>decide (vl (oB S Q) k≠0):=map_id' _
  rw[this];exact pw.sublist filter_sublist
 ·rw[<-xN h Q S (h8 k)]
  congr 1;by_cases z:vl (oB S Q) k=0
  ·rw[z]
   refine jg fun hq=>?_
   obtain⟨r,hr,rfl⟩:=List.mem_map.mp hq;obtain⟨j,hj,rfl⟩:=List.mem_map.mp hr;have:=(List.mem_filter.mp hj).2;simp at this;exact this z
  ·have nd2:(ax (CS (oB S Q) rs)).Nodup:=by
    unfold CS ax;rw[map_map];have:(rs.filter fun k=>decide (vl (oB S Q) k≠0)).map ((fun p:Nat×Nat=>p.1) ∘ fun k=>(k,vl (oB S Q) k))=rs.filter fun k=>decide (vl (oB S Q) k≠0):=map_id' _
    rw[this];exact List.Nodup.sublist filter_sublist (p.nodup_iff.mpr nd)
   exact iW nd2 (p:=(k,vl (oB S Q) k)) (List.mem_map.mpr ⟨k,List.mem_filter.mpr ⟨p.mem_iff.mpr (ux z),by simpa using z⟩,rfl⟩)
 ·obtain⟨j,hj,rfl⟩:=List.mem_map.mp hq
  have:=List.mem_filter.mp hj;refine⟨?_,by simpa using this.2⟩;refine Nat.pos_of_ne_zero fun z=>?_
  subst z;exact zk Q h0 (p.mem_iff.mp this.1)
 ·unfold CS
  rw[length_map];have:=length_filter_le (fun k=>decide (vl (oB S Q) k≠0)) rs
  have h2:=p.length_eq;unfold ax at h2;rw[length_map]at h2;omega
 ·obtain⟨y4,y5,y6,lp⟩:=wx (.fz T) (.fz (.list (Q.map prD))) Q t S .un .un .un (by omega)
  exact Fu _ _ _ _ _ _ _ _ _ _ hT lp (hp _ _ _ _ _ _)
noncomputable def rA(A:As):List (Nat×Int)->As
 |[]=>A
 |q::Q=>rA (qx A q.1 q.2) Q
theorem uu:∀(Q:List (Nat×Int)) {A:As},OkA A->OkA (rA A Q)
 |[],_,h=>h
 |q::Q,_,h=>uu Q (CQ h q.1 q.2)
theorem qt:∀(Q:List (Nat×Int)) {A:As},OkA A->(rA A Q).length<=A.length+Q.length
 |[],A,_=>Nat.le_refl _
 |q::Q,A,h=>by
  have h1:=qt Q (CQ h q.1 q.2);have h2:=(oZ h q.1 q.2).2;show(rA (qx A q.1 q.2) Q).length<=_;rw[length_cons];omega
theorem pH:∀(Q:List (Nat×Int)) {A:As},OkA A->(vl (rA A Q) 0:Int)=((vl A 0:Int)+tv Q)%8
 |[],A,h=>by
  have:=h.lt 0;show(vl A 0:Int)=(_+0)%8;omega
 |q::Q,A,h=>by
  have ih:=pH Q (CQ h q.1 q.2);have e:=CC A q.1 q.2;show(vl (rA (qx A q.1 q.2) Q) 0:Int)=((vl A 0:Int)+((if q.1%2=1 then q.2 else 0)+tv Q))%8;rw[ih,e];by_cases o:q.1%2=1
  ·rw[if_pos o,if_pos o,iR];omega
  ·rw[if_neg o,if_neg o];omega
theorem pG{k:Nat}(hk:0<k):∀(Q:List (Nat×Int)) {A:As},OkA A->(vl (rA A Q) k:Int)=((vl A k:Int)+kv k Q)%8
 |[],A,h=>by
  have:=h.lt k;show(vl A k:Int)=(_+0)%8;omega
 |q::Q,A,h=>by
  have ih:=pG hk Q (CQ h q.1 q.2);have e:=Kv A q.1 q.2 k hk;show(vl (rA (qx A q.1 q.2) Q) k:Int)=((vl A k:Int)+((if hb q.1=k then he q.1 q.2 else 0)+kv k Q))%8;rw[ih,e];by_cases o:hb q.1=k
  ·rw[if_pos o,if_pos o.symm,iR];omega
  ·rw[if_neg o,if_neg (fun z=>o z.symm)];omega
theorem uk{A:As}(h:OkA A){rs:List Nat}(p:rs.Perm (ax A))(pw:rs.Pairwise (· < ·)){f:Nat->Int}(hf:∀k,0<k->(vl A k:Int)=f k%8):RR (j3 A rs) f where
 pk:=by
  rw[jA];exact pw.sublist filter_sublist
 val:=fun k hk=>by
  rw[Df h p,if_pos hk];exact hf k hk
 nz:=fun q hq=>by
  obtain⟨k,hk,rfl⟩:=List.mem_map.mp hq;have:=(List.mem_filter.mp hk).2;have:0<k/\0<vl A k:=by simpa using this
  exact⟨this.1,by omega⟩
theorem fG{c:Nat}(h:c<8):OkA [(0,c)] where
 nd:=by simp[ax]
 z:=by simp[ax]
 lt:=fun k=>by
  rw[dN];split
  ·exact h
  ·rw[jg (by simp[ax])];omega
theorem xO(c:Nat){k:Nat}(hk:0<k):vl [(0,c)] k=0:=by
 rw[dN,if_neg (by show ¬ 0=k;omega),jg (by simp[ax])]
theorem u3(c:Nat):vl [(0,c)] 0=c:=by rw[dN,if_pos rfl]
noncomputable def IP(xs:List Nat):List Nat:=xs.foldl jW []
theorem Fs{ts:List Nat}(h:ts.Nodup)(k:Nat):(jW ts k).Nodup:=by
 unfold jW;split
 ·exact h
 ·rename_i z
  rw[nodup_append];exact⟨h,by simp,fun a ha b hb=>by rw[List.mem_singleton.mp hb];exact fun q=>z (q ▸ ha)⟩
theorem Cs(ts:List Nat)(k a:Nat):a∈jW ts k↔a∈ts\/a=k:=by
 unfold jW;split
 ·rename_i z
  exact⟨.inl,fun h=>h.elim id fun e=>e ▸ z⟩
 ·simp
theorem qI:∀(xs:List Nat) {ts:List Nat},ts.Nodup->(xs.foldl jW ts).Nodup
 |[],_,h=>h
 |x::xs,_,h=>qI xs (Fs h x)
theorem m6:∀(xs ts:List Nat) (a:Nat),a∈xs.foldl jW ts↔a∈ts\/a∈xs
 |[],ts,a=>by simp
 |x::xs,ts,a=>by
  show a∈xs.foldl jW (jW ts x)↔_;rw[m6 xs,Cs,mem_cons,or_assoc]
theorem ww(ts:List Nat)(k:Nat):(jW ts k).length<=ts.length+1:=by
 unfold jW;split
 ·omega
 ·simp
theorem m7:∀(xs ts:List Nat),(xs.foldl jW ts).length<=ts.length+xs.length
 |[],ts=>by simp
 |x::xs,ts=>by
  have:=m7 xs (jW ts x);have:=ww ts x;show(xs.foldl jW (jW ts x)).length<=_;rw[length_cons];omega
theorem wK(ts:List Nat)(k:Nat):cL (ts.map cI) (cI k)=(jW ts k).map cI:=by
 have e:cI k∈ts.map cI↔k∈ts:=by
  rw[mem_map];exact⟨fun⟨a,ha,q⟩=>(show a=k by unfold cI at q;omega) ▸ ha,fun h=>⟨k,h,rfl⟩⟩
 unfold cL jW;by_cases h:k∈ts
 ·rw[if_pos h,if_pos (e.mpr h)]
 ·rw[if_neg h,if_neg (fun z=>h (e.mp z)),map_append]
  rfl
theorem vg:∀(xs ts:List Nat),(xs.map cI).foldl cL (ts.map cI)=(xs.foldl jW ts).map cI
 |[],_=>rfl
 |x::xs,ts=>by
  show(xs.map cI).foldl cL (cL (ts.map cI) (cI x))=(xs.foldl jW (jW ts x)).map cI;rw[wK,vg]
theorem sM:∀xs:List Nat,sO (ao xs)=some (xs.map cI)
 |[]=>rfl
 |x::xs=>by
  show(sO (ao xs)).bind _=_;rw[sM xs];rfl
theorem yc(xs:List Nat)(hl:xs.length<64):∃rs:List Nat,rs.Pairwise (· < ·)/\(∀t,t∈rs↔t∈xs)/\rs.length<=xs.length/\jl (.list (ao xs))=some (.list (ao rs))/\jl (.tuple (ao xs))=some (.list (ao rs)):=by
 obtain⟨rs,e,p,pw⟩:=jm (IP xs) (qI xs .nil);have s:g6 (xs.map cI)=(IP xs).map cI:=vg xs [];have ln:=m7 xs [];have key:∀d,aU d=some (ao xs)->jl d=some (.list (ao rs)):=fun d h=>by
  unfold jl;rw[h,Option.bind_some,sM,Option.bind_some,if_pos (by rw[length_map];exact hl),s,e,mM]
 refine⟨rs,pw,fun t=>?_,by rw[p.length_eq];simpa[IP]using ln,key _ rfl,key _ rfl⟩
 rw[p.mem_iff,IP,m6];simp
theorem eF(rs:List Nat)(f:Nat->Bool):ao (rs.filter f)=(rs.filter f).map fun k:Nat=>PyData.int (k:Int):=rfl
theorem CH(xs rs:List Nat)(T:D)(hr:rs.length<=1000)(hs:jl T=some (.list (ao rs))):cG [.fz T]=some (.list (ao (rs.filter fun k=>decide (0<k)))):=by
 unfold cG;rw[eF];refine aY (xs:=rs) (h:=fun k:Nat=>PyData.int (k:Int)) ?_ (by omega) (fun k _=>?_) fun k _ _=>?_
 ·show((jl T).bind aU)=_
  rw[hs];rfl
 ·have:neD (.int (k:Int)) (.int 0)=some (.bool (decide (0<k))):=by
   by_cases h:k=0
   ·subst h;rfl
   ·have h1:¬((k:Int)=0):=by omega
    have h2:0<k:=by omega
    simp[h,h1,h2]
  simp only[br,map_nil,append_nil];show(neD (.int (k:Int)) (.int 0)).bind asB=_;rw[this];rfl
 ·simp[br]
theorem CG(T:D)(L:List D)(p:cG [.fz T]=some (.list L)):aN [T]=some (.tuple L):=by
 simp[aN,aR,ef,az,p]
structure TT (ss:List Nat) (xs:List Nat):Prop where
 pw:ss.Pairwise (· < ·)
 mem:∀t,t∈ss↔t∈xs/\0<t
theorem TT.one{ss ss' xs ys:List Nat}(h:TT ss xs)(h':TT ss' ys)(e:∀t,0<t->(t∈xs↔t∈ys)):ss=ss':=
 mf h.pw h'.pw fun t=>by
  rw[h.mem,h'.mem];exact⟨fun⟨a,b⟩=>⟨(e t b).mp a,b⟩,fun⟨a,b⟩=>⟨(e t b).mpr a,b⟩⟩
theorem u6(xs:List Nat)(hl:xs.length<64):∃ss:List Nat,TT ss xs/\ss.length<=xs.length/\aN [.list (ao xs)]=some (.tuple (ao ss))/\aN [.tuple (ao xs)]=some (.tuple (ao ss)):=by
 obtain⟨rs,h1,h2,h3,h4,h5⟩:=yc xs hl;refine⟨rs.filter fun k=>decide (0<k),⟨h1.sublist filter_sublist,fun t=>?_⟩,?_,CG _ _ (CH xs rs _ (by omega) h4),CG _ _ (CH xs rs _ (by omega) h5)⟩
 ·rw[mem_filter,h2]
  simp
 ·have:=length_filter_le (fun k=>decide (0<k)) rs
  omega
theorem wD(t:Nat)(ts:List Nat)(z0:Sl)(hl:ts.length<1000):cm [z0,.od (cv ts),.fz (.int (t:Int))]=some (.nx,[z0,.od (cv (if 0<t then jW ts t else ts)),.fz (.int (t:Int))]):=by
 have sz:sizeLine>=1001:=by decide
 have he:(cv ts).length<sizeLine:=by unfold cv;rw[length_map];omega
 by_cases h:0<t
 ·have g:(0:Int)<(t:Int):=by omega
  have e:=sV ts t;rw[if_pos h,<-e];simp[cm,g,bU,he];omega
 ·have g:¬(0:Int)<(t:Int):=by omega
  rw[if_neg h];simp[cm,g];omega
theorem oy(z0:Sl):∀(xs ts:List Nat) (z2:Sl),ts.length+xs.length<1000->∃y2,loop (gN 2) cm (ao xs) [z0,.od (cv ts),z2]=some (.nx,[z0,.od (cv ((xs.filter fun t=>decide (0<t)).foldl jW ts)),y2])
 |[],ts,z2,_=>⟨z2,rfl⟩
 |x::xs,ts,z2,h=>by
  rw[length_cons]at h;have s:=wD x ts z0 (by omega);have hl:=ww ts x;obtain⟨y2,e⟩:=oy z0 xs (if 0<x then jW ts x else ts) (.fz (.int (x:Int))) (by split<;>omega);refine⟨y2,?_⟩;show loop (gN 2) cm (PyData.int (x:Int)::ao xs) _=_;rw[bN (δ1:=[z0,.od (cv ts),.fz (.int (x:Int))]) (by simp) s,e];by_cases q:0<x
  ·rw[if_pos q,filter_cons_of_pos (by simpa using q)];rfl
  ·rw[if_neg q,filter_cons_of_neg (by simpa using q)]
theorem Dk(T:D)(L M:List D)(es:List (aG×D))(y:Sl)(hT:aU T=some L)(lp:loop (gN 2) cm L [.fz T,.od [],.un]=some (.nx,[.fz T,.od es,y]))(s:hJ 1 [.fz T,.od es,y]=some (.list M)):bE [T]=some (.tuple M):=by
 simp[bE,aR,im,az,lZ,hT,lp,s]
theorem u7(xs:List Nat)(hl:xs.length<50):∃ss:List Nat,TT ss xs/\∀T,aU T=some (ao xs)->bE [T]=some (.tuple (ao ss)):=by
 have hfl:=length_filter_le (fun t=>decide (0<t)) xs
 have hln:=m7 (xs.filter fun t=>decide (0<t)) []
 simp only[length_nil]at hln;obtain⟨ss,h1,h2,h3⟩:=oE ((xs.filter fun t=>decide (0<t)).foldl jW []) (qI _ .nil) (by omega)
 refine⟨ss,⟨h3,fun t=>?_⟩,fun T hT=>?_⟩
 ·rw[h2.mem_iff,m6,mem_filter]
  simp
 ·obtain⟨y2,lp⟩:=oy (.fz T) xs [] .un (by simp;omega)
  exact Dk _ _ _ _ _ hT lp (h1 _ 1 rfl)
noncomputable def hasB(b k:Nat):Bool:=decide (b/2^k%2=1)
theorem zr(b k:Nat):(((b/2^k%2:Nat):Int)==1)=hasB b k:=by
 unfold hasB;rcases Nat.mod_two_eq_zero_or_one (b/2^k)with h|h<;>rw[h]<;>rfl
theorem gA(b k:Nat):dF [.int b,.int k]=some (.bool (hasB b k)):=by
 have s:=iz b k;have o:=Il (b/2^k);have h:=zr b k;generalize b/2^k%2=z at *;generalize b/2^k=y at *;simp[dF,aR,zY,az,s,o,h]
noncomputable def cQ(ps:As)(bit ch:Nat):List (Nat×Int):=(ps.filter fun p=>hasB p.1 bit).map fun p=>(p.1 ^^^ ch,(p.2:Int))
noncomputable def oth(ps:As)(bit:Nat):As:=ps.filter fun p=>!hasB p.1 bit
noncomputable def kc(hs:List Nat)(bit:Nat):List Nat:=hs.filter fun h=>decide (h≠bit)
theorem t6(a b c d e f:D):bw [a,b,c,d,e,f]=some (.tuple [a,b,c,d,e,f]):=ji (by simp)
section
variable(w l:Nat)(hv:Int)(c:Nat)(ps:As)(ts hs:List Nat)
theorem o3:(oI (o2 (oV 0) (oC (.int 3)) aB) aU) (.fz (oneD w l hv c (cO ps) ts hs)::r)=some (ps.map pD):=by
 have:aB (oneD w l hv c (cO ps) ts hs) (.int 3)=some (.tuple (ps.map pD)):=by rw[rX,gS]
 show(aB (oneD w l hv c (cO ps) ts hs) (.int 3)).bind aU=_;rw[this];rfl
theorem Gr(bit ch:Nat)(hp:ps.length<=1000)(x3 x4 x5:Sl):gn [.fz (oneD w l hv c (cO ps) ts hs),.fz (.int (bit:Int)),.fz (.int (ch:Int)),x3,x4,x5]=some (.list ((cQ ps bit ch).map prD)):=by
 unfold gn cQ;rw[map_map];refine aY (xs:=ps) (h:=pD) (o3 w l hv c ps ts hs) (by omega) (fun p _=>?_) fun p _ _=>?_
 ·have h:=gA p.1 bit
  generalize hasB p.1 bit=z at *;simp[br,pD,h]
 ·have x:=MA.qN p.1 ch
  simp[br,pD,prD,x]
theorem Gq(bit:Nat)(hp:ps.length<=1000)(x2 x3 x4 x5:Sl):gk [.fz (oneD w l hv c (cO ps) ts hs),.fz (.int (bit:Int)),x2,x3,x4,x5]=some (.list ((oth ps bit).map pD)):=by
 unfold gk oth;refine aY (xs:=ps) (h:=pD) (o3 w l hv c ps ts hs) (by omega) (fun p _=>?_) fun p _ _=>?_
 ·have h:=gA p.1 bit
  generalize hasB p.1 bit=z at *;simp[br,pD,h]
 ·simp[br]
theorem qj(h bit:Nat):neD (.int (h:Int)) (.int (bit:Int))=some (.bool (decide (h≠bit))):=by
 by_cases e:h=bit
 ·subst e;simp
 ·have:¬((h:Int)=(bit:Int)):=by omega
  simp[e,this]
theorem Gp(bit:Nat)(hh:hs.length<=1000)(x2 x3 x4 x5:Sl):gj [.fz (oneD w l hv c (cO ps) ts hs),.fz (.int (bit:Int)),x2,x3,x4,x5]=some (.list (ao (kc hs bit))):=by
 unfold gj kc;rw[eF];refine aY (xs:=hs) (h:=fun h:Nat=>PyData.int (h:Int)) (by
  have:(oI (o2 (oV 0) (oC (.int 5)) aB) aU) [.fz (oneD w l hv c (cO ps) ts hs),.fz (.int (bit:Int)),x2,x3,x4,x5]=some (ao hs):=rfl;exact this) (by omega) (fun p _=>?_) fun p _ _=>?_
 ·have h:=qj p bit
  generalize decide (p≠bit)=z at *;simp only[br];show(((vd (some (Sl.fz (.int (p:Int))))).bind fun x=>(vd (some (Sl.fz (.int (bit:Int))))).bind fun y=>neD x y).bind asB)=_
  rw[gb,gb,Option.bind_some,Option.bind_some,h];rfl
 ·simp[br]
theorem Js(O W S H R A4 A0 A1:D)(bit ch t c':Int)(p1:∀x3 x4 x5,gn [.fz O,.fz (.int bit),.fz (.int ch),x3,x4,x5]=some W)(p2:∀x3 x4 x5,gk [.fz O,.fz (.int bit),.fz (.int ch),x3,x4,x5]=some S)(hp:∀x3 x4 x5,gj [.fz O,.fz (.int bit),.fz (.int ch),x3,x4,x5]=some H)(o0:aB O (.int 0)=some A0)(o1:aB O (.int 1)=some A1)(o2:aB O (.int 2)=some (.int c'))(o4:aB O (.int 4)=some A4)(g:bD [.int c',S,W]=some (.tuple [.int t,R]))(HT:D)(hH:bJ [H]=some HT):bX [O,.int bit,.int ch]=some (.tuple [A0,A1,.int t,R,A4,HT]):=by
 simp[bX,aR,km,az,p1,p2,hp,o0,o1,o2,o4,g,hH,t6]
end
theorem CW{k:Nat}(hk:0<k):∀{S:As},(ax S).Nodup->(∀p∈S,p.1%2=0)->kv k (cO S)=(vl S k:Int)
 |[],_,_=>by rw[jg (by simp[ax])];rfl
 |p::S,nd,h=>by
  have h1:=h p mem_cons_self;have nd':(ax S).Nodup:=(List.nodup_cons.mp nd).2;have ih:=CW hk nd' fun q hq=>h q (mem_cons_of_mem _ hq)
  have e1:hb p.1=p.1:=by unfold hb;omega
  have e2:he p.1 (p.2:Int)=(p.2:Int):=by unfold he;rw[if_neg (by omega)]
  show(if hb p.1=k then he p.1 (p.2:Int)else 0)+kv k (cO S)=_;rw[ih,e1,e2,dN];by_cases q:p.1=k
  ·rw[if_pos q,if_pos q]
   have:vl S k=0:=jg (q ▸ (List.nodup_cons.mp nd).1);omega
  ·rw[if_neg q,if_neg q];omega
theorem CD:∀{S:As},(∀p∈S,p.1%2=0)->tv (cO S)=0
 |[],_=>rfl
 |p::S,h=>by
  have h1:=h p mem_cons_self;show(if p.1%2=1 then(p.2:Int)else 0)+tv (cO S)=0;rw[CD fun q hq=>h q (mem_cons_of_mem _ hq),if_neg (by omega)]
  rfl
noncomputable def xb(bit ch:Nat)(p:Nat×Nat):Nat×Int:=(if hasB p.1 bit then p.1 ^^^ ch else p.1,(p.2:Int))
theorem vS(bit ch k:Nat):∀ps:As,kv k (ps.map (xb bit ch))=kv k (cO (oth ps bit))+kv k (cQ ps bit ch)
 |[]=>rfl
 |p::ps=>by
  have ih:=vS bit ch k ps;show(if hb (xb bit ch p).1=k then he (xb bit ch p).1 (xb bit ch p).2 else 0)+kv k (ps.map (xb bit ch))=_;rw[ih];cases h:hasB p.1 bit with
  |true=>
   have e1:oth (p::ps) bit=oth ps bit:=by unfold oth;rw[filter_cons_of_neg (by simp[h])]
   have e2:cQ (p::ps) bit ch=(p.1 ^^^ ch,(p.2:Int))::cQ ps bit ch:=by unfold cQ;rw[filter_cons_of_pos (by simp[h])];rfl
   have e3:xb bit ch p=(p.1 ^^^ ch,(p.2:Int)):=by unfold xb;rw[h];rfl
   rw[e1,e2,e3];show(if hb (p.1 ^^^ ch)=k then he (p.1 ^^^ ch) (p.2:Int)else 0)+_=_+((if hb (p.1 ^^^ ch)=k then he (p.1 ^^^ ch) (p.2:Int)else 0)+kv k (cQ ps bit ch));omega
  |false=>
   have e1:oth (p::ps) bit=p::oth ps bit:=by unfold oth;rw[filter_cons_of_pos (by simp[h])]
   have e2:cQ (p::ps) bit ch=cQ ps bit ch:=by unfold cQ;rw[filter_cons_of_neg (by simp[h])]
   have e3:xb bit ch p=(p.1,(p.2:Int)):=by unfold xb;rw[h];rfl
   rw[e1,e2,e3];show(if hb p.1=k then he p.1 (p.2:Int)else 0)+_=((if hb p.1=k then he p.1 (p.2:Int)else 0)+kv k (cO (oth ps bit)))+_;omega
theorem u4(bit ch:Nat):∀ps:As,tv (ps.map (xb bit ch))=tv (cO (oth ps bit))+tv (cQ ps bit ch)
 |[]=>rfl
 |p::ps=>by
  have ih:=u4 bit ch ps;show(if(xb bit ch p).1%2=1 then(xb bit ch p).2 else 0)+tv (ps.map (xb bit ch))=_;rw[ih];cases h:hasB p.1 bit with
  |true=>
   have e1:oth (p::ps) bit=oth ps bit:=by unfold oth;rw[filter_cons_of_neg (by simp[h])]
   have e2:cQ (p::ps) bit ch=(p.1 ^^^ ch,(p.2:Int))::cQ ps bit ch:=by unfold cQ;rw[filter_cons_of_pos (by simp[h])];rfl
   have e3:xb bit ch p=(p.1 ^^^ ch,(p.2:Int)):=by unfold xb;rw[h];rfl
   rw[e1,e2,e3];show _=_+((if(p.1 ^^^ ch)%2=1 then(p.2:Int)else 0)+tv (cQ ps bit ch));omega
  |false=>
   have e1:oth (p::ps) bit=p::oth ps bit:=by unfold oth;rw[filter_cons_of_pos (by simp[h])]
   have e2:cQ (p::ps) bit ch=cQ ps bit ch:=by unfold cQ;rw[filter_cons_of_neg (by simp[h])]
   have e3:xb bit ch p=(p.1,(p.2:Int)):=by unfold xb;rw[h];rfl
   rw[e1,e2,e3];show _=((if p.1%2=1 then(p.2:Int)else 0)+tv (cO (oth ps bit)))+_;omega
theorem lK{a b:Nat}(ha:a<cg)(hb:b<cg):a ^^^ b<cg:=Nat.xor_lt_two_pow (n:=1100) ha hb
theorem HE{b:Nat}(h:b<cg):hb b<cg:=by unfold hb;omega
theorem zA(ps:As)(bit:Nat):(ps.filter fun p=>!hasB p.1 bit).length+(ps.filter fun p=>hasB p.1 bit).length=ps.length:=by
 induction ps with
 |nil=>rfl
 |cons p ps ih=>
  cases h:hasB p.1 bit with
  |true=>rw[filter_cons_of_neg (by simp[h]),filter_cons_of_pos (by simp[h]),length_cons,length_cons];omega
  |false=>rw[filter_cons_of_pos (by simp[h]),filter_cons_of_neg (by simp[h]),length_cons,length_cons];omega
theorem lW{w l:Nat}{hv:Int}{c:Nat}{ps:As}{ts hs:List Nat}{n m:Nat}(S:Sm w l hv c ps ts hs n m)(hm:m<32)(hn:n<=100)(bit ch:Nat):∃(T:Nat) (R:As),(T:Int)=((c:Int)+tv (ps.map (xb bit ch)))%8/\RR R (fun k=>kv k (ps.map (xb bit ch)))/\R.length<=ps.length/\bX [oneD w l hv c (cO ps) ts hs,.int (bit:Int),.int (ch:Int)]=some (oneD w l hv T (cO R) ts (kc hs bit)):=by
 have nd:=mL S.pk;have pl:=S.pl;have hl:=S.hl;have ndo:(ax (oth ps bit)).Nodup:=List.Nodup.sublist (List.filter_sublist.map _) nd;have ev:∀p∈oth ps bit,p.1%2=0:=fun p hp=>(S.pe p (List.mem_filter.mp hp).1).2.1
 have ln:(oth ps bit).length+(cQ ps bit ch).length=ps.length:=by
  unfold oth cQ;rw[length_map];exact zA ps bit
 have v8:∀k,vl (oth ps bit) k<8:=fun k=>by
  by_cases h:k∈ax (oth ps bit)
  ·obtain⟨p,hp,rfl⟩:=List.mem_map.mp h
   rw[iW ndo hp];have:=S.pe p (List.mem_filter.mp hp).1;omega
  ·rw[jg h];omega
 have n0:0 ∉ ax (oth ps bit):=fun h=>by
  obtain⟨p,hp,e⟩:=List.mem_map.mp h;have:=S.pe p (List.mem_filter.mp hp).1;omega
 obtain⟨R,h1,h2,h3⟩:=jT c (oth ps bit) ndo v8 (cQ ps bit ch) (by omega) n0;have h3:=h3 (.list ((oth ps bit).map pD)) (Cf _ ndo (by omega));have et:tv (ps.map (xb bit ch))=tv (cQ ps bit ch):=by rw[u4,CD ev];omega
 have x:=Js (oneD w l hv c (cO ps) ts hs) (.list ((cQ ps bit ch).map prD)) (.list ((oth ps bit).map pD)) (.list (ao (kc hs bit))) (.tuple (R.map pD)) (.tuple (ao ts)) (.tuple [.int w,.int l]) (.int hv) bit ch _ c (fun x3 x4 x5=>Gr w l hv c ps ts hs bit ch (by omega) x3 x4 x5) (fun x3 x4 x5=>Gq w l hv c ps ts hs bit (by omega) _ x3 x4 x5) (fun x3 x4 x5=>Gp w l hv c ps ts hs bit (by omega) _ x3 x4 x5) (mG ..) (mF ..) (mE ..) (mD ..) h3 _ rfl
 refine⟨(((c:Int)+tv (cQ ps bit ch))%8).toNat,R,by rw[et];omega,⟨h1.pk,fun k hk=>?_,h1.nz⟩,by omega,?_⟩
 ·rw[h1.val k hk,vS,CW hk ndo ev]
 ·rw[x]
  unfold oneD;rw[gS,toNat_of_nonneg (by omega)]
noncomputable def xo(bit ch o:Nat):Nat:=if hasB o bit then o ^^^ ch else o
noncomputable def Aq(ts:List Nat)(tie bit:Nat):List Nat:=(ts.filter fun o=>decide (o≠tie)).map (xo bit tie)
theorem GH(w l:Nat)(hv:Int)(c:Nat)(ps:As)(ts hs:List Nat)(tie bit:Nat)(ht:ts.length<=1000)(x0 x4:Sl):p7 [x0,.fz (.int (tie:Int)),.fz (.int (bit:Int)),.fz (oneD w l hv c (cO ps) ts hs),x4]=some (.list (ao (Aq ts tie bit))):=by
 have e:ao (Aq ts tie bit)=(ts.filter fun o=>decide (o≠tie)).map fun o=>PyData.int ((xo bit tie o:Nat):Int):=by unfold ao Aq;rw[map_map];rfl
 rw[e];unfold p7;refine aY (xs:=ts) (h:=fun h:Nat=>PyData.int (h:Int)) (by
  have:(oI (o2 (oV 3) (oC (.int 4)) aB) aU) [x0,.fz (.int (tie:Int)),.fz (.int (bit:Int)),.fz (oneD w l hv c (cO ps) ts hs),x4]=some (ao ts):=rfl;exact this) (by omega) (fun p _=>?_) fun p _ _=>?_
 ·have h:=qj p tie
  generalize decide (p≠tie)=z at *;simp only[br];show(((vd (some (Sl.fz (.int (p:Int))))).bind fun x=>(vd (some (Sl.fz (.int (tie:Int))))).bind fun y=>neD x y).bind asB)=_
  rw[gb,gb,Option.bind_some,Option.bind_some,h];rfl
 ·have h:=gA p bit
  have x:=MA.qN p tie;unfold xo;cases q:hasB p bit with
  |true=>rw[q]at h;simp[br,h,x]
  |false=>rw[q]at h;simp[br,h]
theorem JC(O L A0 A1 A2 A3 A5 X SS:D)(tie bit:Int)(h1:bX [O,.int bit,.int tie]=some L)(p:∀x0 x4,p7 [x0,.fz (.int tie),.fz (.int bit),.fz L,x4]=some X)(o0:aB L (.int 0)=some A0)(o1:aB L (.int 1)=some A1)(o2:aB L (.int 2)=some A2)(o3:aB L (.int 3)=some A3)(o5:aB L (.int 5)=some A5)(t:aN [X]=some SS):jG [O,.int tie,.int bit]=some (.tuple [A0,A1,A2,A3,SS,A5]):=by
 simp[jG,aR,zW,az,h1,p,o0,o1,o2,o3,o5,t,t6]
theorem DY{w l:Nat}{hv:Int}{c:Nat}{ps:As}{ts hs:List Nat}{n m:Nat}(S:Sm w l hv c ps ts hs n m)(hm:m<32)(hn:n<=100)(tie bit:Nat):∃(T:Nat) (R:As) (ss:List Nat),(T:Int)=((c:Int)+tv (ps.map (xb bit tie)))%8/\RR R (fun k=>kv k (ps.map (xb bit tie)))/\R.length<=ps.length/\TT ss (Aq ts tie bit)/\ss.length<=ts.length/\jG [oneD w l hv c (cO ps) ts hs,.int (tie:Int),.int (bit:Int)]=some (oneD w l hv T (cO R) ss (kc hs bit)):=by
 obtain⟨T,R,h1,h2,h3,h4⟩:=lW S hm hn bit tie;have tl:=S.tl;have ln:(Aq ts tie bit).length<=ts.length:=by unfold Aq;rw[length_map];exact length_filter_le _ _
 obtain⟨ss,g1,g2,g3,_⟩:=u6 (Aq ts tie bit) (by omega);exact⟨T,R,ss,h1,h2,h3,g1,by omega,JC _ _ _ _ _ _ _ _ _ _ _ h4 (fun x0 x4=>GH w l hv T R ts (kc hs bit) tie bit (by omega) x0 x4) (mG ..) (mF ..) (mE ..) (rX ..) (mC ..) g3⟩
theorem JH{a b:Nat}(ha:a<cg)(hb:b<2):IntMulOk (a:Int) (b:Int):=by
 have h1:((b:Int)).natAbs<2^2:=by
  rw[Int.natAbs_natCast];have:(2:Nat)^2=4:=rfl;omega
 exact MA.EA 1100 2 (by rw[Int.natAbs_natCast];exact ha) h1 (by decide)
theorem vD{tie o:Nat}(ht:tie<cg)(bit:Nat):gu (.int (tie:Int)) (.int ((o/2^bit%2:Nat):Int))=some (.int ((if hasB o bit then tie else 0:Nat):Int)):=by
 have hz:o/2^bit%2=0\/o/2^bit%2=1:=Nat.mod_two_eq_zero_or_one _;rw[mO (JH ht (by omega))];unfold hasB;rcases hz with h|h
 ·rw[h];simp
 ·rw[h];simp
theorem u0{tie o:Nat}(bit:Nat):Builtin.bitXor (o:Int) ((if hasB o bit then tie else 0:Nat):Int)=((xo bit tie o:Nat):Int):=by
 rw[MA.qN];unfold xo;cases hasB o bit<;>simp
theorem Hb(w l:Nat)(hv:Int)(c:Nat)(ps:As)(ts hs:List Nat)(tie bit:Nat)(ht:ts.length<=1000)(hb:tie<cg)(x3 x4 x5 x6:Sl):fj [.fz (oneD w l hv c (cO ps) ts hs),.fz (.int (tie:Int)),.fz (.int (bit:Int)),x3,x4,x5,x6]=some (.list (ao (ts.map (xo bit tie)))):=by
 have e:ao (ts.map (xo bit tie))=ts.map fun o=>PyData.int ((xo bit tie o:Nat):Int):=by unfold ao;rw[map_map];rfl
 rw[e];unfold fj;refine jN (xs:=ts) (h:=fun h:Nat=>PyData.int (h:Int)) (by
  have:(oI (o2 (oV 0) (oC (.int 4)) aB) aU) [.fz (oneD w l hv c (cO ps) ts hs),.fz (.int (tie:Int)),.fz (.int (bit:Int)),x3,x4,x5,x6]=some (ao ts):=rfl;exact this) (by omega) fun p _=>?_
 have s:=iz p bit;have m:=hV (p/2^bit);have u:=vD (o:=p) hb bit;have x:=u0 (tie:=tie) (o:=p) bit;generalize (if hasB p bit then tie else 0:Nat)=v at *;generalize p/2^bit%2=z at *;generalize p/2^bit=y at *;simp[br,s,m,u,x]
theorem Ha(w l:Nat)(hv:Int)(c:Nat)(ps:As)(ts hs:List Nat)(bit:Nat)(hh:hs.length<=1000)(x1 x3 x4 x5 x6:Sl):eZ [.fz (oneD w l hv c (cO ps) ts hs),x1,.fz (.int (bit:Int)),x3,x4,x5,x6]=some (.list (ao (kc hs bit))):=by
 unfold eZ kc;rw[eF];refine aY (xs:=hs) (h:=fun h:Nat=>PyData.int (h:Int)) (by
  have:(oI (o2 (oV 0) (oC (.int 5)) aB) aU) [.fz (oneD w l hv c (cO ps) ts hs),x1,.fz (.int (bit:Int)),x3,x4,x5,x6]=some (ao hs):=rfl;exact this) (by omega) (fun p _=>?_) fun p _ _=>?_
 ·have h:=qj p bit
  generalize decide (p≠bit)=z at *;simp only[br];show(((vd (some (Sl.fz (.int (p:Int))))).bind fun x=>(vd (some (Sl.fz (.int (bit:Int))))).bind fun y=>neD x y).bind asB)=_
  rw[gb,gb,Option.bind_some,Option.bind_some,h];rfl
 ·simp[br]
theorem JL(O:D)(tie bit b e v y z u:Int)(es es':List (aG×D))(x6:Sl)(s:iZ (.int b) (.int bit)=some (.int y))(m:aK (.int y) (.int 2)=some (.int z))(mu:gu (.int tie) (.int z)=some (.int u))(x:Builtin.bitXor b u=v)(g:aX es [.int v,.int e]=some es'):de [.fz O,.fz (.int tie),.fz (.int bit),.od es,.fz (.int b),.fz (.int e),x6]=some (.nx,[.fz O,.fz (.int tie),.fz (.int bit),.od es',.fz (.int b),.fz (.int e),x6]):=by
 simp[de,kL,s,m,mu,x,g]
theorem vF(O:D)(tie bit:Nat)(ht:tie<cg)(x6:Sl):∀(ps A:As) (x4 x5:Sl),OkA A->A.length+ps.length<1000->∃y4 y5,loop (xK [gN 4,gN 5]) de (ps.map pD) [.fz O,.fz (.int (tie:Int)),.fz (.int (bit:Int)),.od (bR A),x4,x5,x6]=some (.nx,[.fz O,.fz (.int (tie:Int)),.fz (.int (bit:Int)),.od (bR (rA A (ps.map (xb bit tie)))),y4,y5,x6])
 |[],A,x4,x5,_,_=>⟨x4,x5,rfl⟩
 |p::ps,A,x4,x5,h,hl=>by
  rw[length_cons]at hl;have g:=vM h (by omega) (xo bit tie p.1) (p.2:Int);have st:=JL O tie bit p.1 p.2 _ _ _ _ (bR A) _ x6 (iz p.1 bit) (hV _) (vD (o:=p.1) ht bit) (u0 (tie:=tie) (o:=p.1) bit) g;have l2:=(oZ h (xo bit tie p.1) (p.2:Int)).2;obtain⟨y4,y5,e⟩:=vF O tie bit ht x6 ps (qx A (xo bit tie p.1) (p.2:Int)) (.fz (.int (p.1:Int))) (.fz (.int (p.2:Int))) (CQ h _ _) (by omega);refine⟨y4,y5,?_⟩;rw[map_cons,bN (δ1:=[.fz O,.fz (.int (tie:Int)),.fz (.int (bit:Int)),.od (bR A),.fz (.int (p.1:Int)),.fz (.int (p.2:Int)),x6]) (by simp[pD]) st,e];rfl
theorem Kb(A:As)(x0 x1 x2 x4 x5 x6:Sl):kX 3 [x0,x1,x2,.od (bR A),x4,x5,x6]=[x0,x1,x2,.fz (.dict (dctD (lI A))),x4,x5,x6]:=by
 have h:=lC A;show(match kA (bR A)with|some l'=>_|none=>_)=_
 rw[h];rfl
theorem zt{A:As}{k:Nat}(h:k∈ax A):fw (.dict (dctD (lI A))) (.int (k:Int))=some (.int (vl A k:Int)):=by
 show(gU (dctD (lI A))).bind _=_;rw[cU,Option.bind_some];show(iP (.int (k:Int))).bind _=_;rw[sI,Option.bind_some,qG h];rfl
theorem JJ(O A0 A1 Q5 X SS PP:D)(PL:List D)(A:As)(tie bit c t:Int)(y4 y5:Sl)(o2:aB O (.int 2)=some (.int c))(o3:aB O (.int 3)=some (.tuple PL))(lp:loop (xK [gN 4,gN 5]) de PL [.fz O,.fz (.int tie),.fz (.int bit),.od [(.inl 0,.int c)],.un,.un,.un]=some (.nx,[.fz O,.fz (.int tie),.fz (.int bit),.od (bR A),y4,y5,.un]))
  (p1:∀x3 x4 x5 x6,fj [.fz O,.fz (.int tie),.fz (.int bit),x3,x4,x5,x6]=some X) (p2:∀x3 x4 x5 x6,eZ [.fz O,.fz (.int tie),.fz (.int bit),x3,x4,x5,x6]=some Q5) (td:bE [X]=some SS) (o0:aB O (.int 0)=some A0) (o1:aB O (.int 1)=some A1) (g0:fw (.dict (dctD (lI A))) (.int 0)=some (.int t)) (pp:bc [.dict (dctD (lI A))]=some PP) (QT:D) (hQ:bJ [Q5]=some QT):cz [O,.int tie,.int bit]=some (.tuple [A0,A1,.int t,PP,SS,QT]):=by
 have d:=Kb A (.fz O) (.fz (.int tie)) (.fz (.int bit)) y4 y5 (.fz SS);simp[cz,aR,jd,az,kr,o2,o3,lp,p1,td,d,o0,o1,g0,pp,p2,hQ,t6]
theorem uA{w l:Nat}{hv:Int}{c:Nat}{ps:As}{ts hs:List Nat}{n m:Nat}(S:Sm w l hv c ps ts hs n m)(hm:m<32)(hn:n<=100)(tie bit:Nat)(htie:tie<cg):∃(T:Nat) (R:As) (ss:List Nat),(T:Int)=((c:Int)+tv (ps.map (xb bit tie)))%8/\RR R (fun k=>kv k (ps.map (xb bit tie)))/\TT ss (ts.map (xo bit tie))/\cz [oneD w l hv c (cO ps) ts hs,.int (tie:Int),.int (bit:Int)]=some (oneD w l hv T (cO R) ss (kc hs bit)):=by
 have tl:=S.tl;have pl:=S.pl;have hl:=S.hl;have ok:=uu (ps.map (xb bit tie)) (fG S.c8);have ln:=qt (ps.map (xb bit tie)) (fG S.c8);simp only[length_map,length_cons,length_nil]at ln;obtain⟨rs,p,pw,e⟩:=mz (rA [(0,c)] (ps.map (xb bit tie))) ok.nd (by omega);obtain⟨ss,g1,g2⟩:=u7 (ts.map (xo bit tie)) (by rw[length_map];omega);have v0:=pH (ps.map (xb bit tie)) (fG S.c8);rw[u3]at v0;have rr:RR (j3 (rA [(0,c)] (ps.map (xb bit tie))) rs) (fun k=>kv k (ps.map (xb bit tie))):=uk ok p pw fun k hk=>by
  rw[pG hk _ (fG S.c8),xO c hk];show((0:Nat)+_:Int)%8=_;rw[show((0:Nat):Int)=0 from rfl,zero_add]
 have lp:∀x6,∃y4 y5,loop (xK [gN 4,gN 5]) de (ps.map pD) [.fz (oneD w l hv c (cO ps) ts hs),.fz (.int (tie:Int)),.fz (.int (bit:Int)),.od [(.inl 0,.int c)],.un,.un,x6]=some (.nx,[.fz (oneD w l hv c (cO ps) ts hs),.fz (.int (tie:Int)),.fz (.int (bit:Int)),.od (bR (rA [(0,c)] (ps.map (xb bit tie)))),y4,y5,x6]):=fun x6=>vF _ tie bit htie x6 ps [(0,c)] .un .un (fG S.c8) (by simp;omega)
 obtain⟨y4,y5,lp⟩:=lp .un;have o3:aB (oneD w l hv c (cO ps) ts hs) (.int 3)=some (.tuple (ps.map pD)):=by rw[rX,gS]
 have x:=JJ (oneD w l hv c (cO ps) ts hs) (.tuple [.int w,.int l]) (.int hv) (.list (ao (kc hs bit))) (.list (ao (ts.map (xo bit tie)))) (.tuple (ao ss)) (.tuple ((j3 (rA [(0,c)] (ps.map (xb bit tie))) rs).map pD)) (ps.map pD) _ tie bit c _ y4 y5 (mE ..) o3 lp (fun x3 x4 x5 x6=>Hb w l hv c ps ts hs tie bit (by omega) htie x3 x4 x5 x6) (fun x3 x4 x5 x6=>Ha w l hv c ps ts hs bit (by omega) _ x3 x4 x5 x6) (g2 _ rfl) (mG ..) (mF ..) (zt (k:=0) ok.z) e _ rfl
 refine⟨vl (rA [(0,c)] (ps.map (xb bit tie))) 0,_,ss,v0,rr,g1,?_⟩;rw[x];unfold oneD;rw[gS]
theorem Cd{d:D}{k:Nat}(h:MA.Sh k d)(hk:k<=64):cN d d=some (.bool true):=by
 have hs:shp d=true:=by
  show(d.canLay0&&decide (d.depth<=64))=true;rw[h.1,decide_eq_true (le_trans h.2 hk)];rfl
 unfold cN;rw[if_pos ⟨hs,hs⟩,MA.nc d h.1]
theorem vC{d:D}{k:Nat}(h:MA.Sh k d)(hk:k<=64):neD d d=some (.bool false):=by
 have hs:shp d=true:=by
  show(d.canLay0&&decide (d.depth<=64))=true;rw[h.1,decide_eq_true (le_trans h.2 hk)];rfl
 unfold neD;rw[if_pos ⟨hs,hs⟩,MA.nc d h.1];rfl
theorem yO(b k:Nat){δ:Dv}{f1 f2:Dv->Option D}(h1:f1 δ = some (.int b))(h2:f2 δ = some (.int k)):(ob (o2 (o2 (o2 f1 f2 iZ) (oC (.int 2)) aK) (oC (.int 1)) cN)) δ = some (hasB b k):=by
 have s:=iz b k;have m:=hV (b/2^k);have h:=zr b k;generalize b/2^k%2=z at *;generalize b/2^k=y at *;simp only[ob,o2,oC,h1,h2,Option.bind_some,s,m,wb,Ab,h]
noncomputable def faW(ps:List (Nat×Int))(ts:List Nat)(k:Nat):Bool:=if(ts.any fun t=>hasB t k)=true then false else(ps.filter fun p=>hasB p.1 k).all fun p=>p.2%2==0
section
variable(w l:Nat)(hv:Int)(c:Nat)(ps:List (Nat×Int))(ts hs:List Nat)
theorem HK(k:Nat)(ht:ts.length<=1000):gp [.fz (oneD w l hv c ps ts hs),.fz (.int k)]=some (.list (ts.map fun t=>.bool (hasB t k))):=by
 unfold gp;refine jN (xs:=ts) (h:=fun t=>.int ((t:Nat):Int)) ?_ (by omega) fun t _=>?_
 ·have:(oI (o2 (oV 0) (oC (.int 4)) aB) aU) [.fz (oneD w l hv c ps ts hs),.fz (.int k)]=some (ao ts):=rfl
  exact this
 ·have h:=gA t k
  generalize hasB t k=z at *;simp[br,h]
theorem HJ(k:Nat)(hp:ps.length<=1000):gm [.fz (oneD w l hv c ps ts hs),.fz (.int k)]=some (.list ((ps.filter fun p=>hasB p.1 k).map fun p=>.bool (p.2%2==0))):=by
 unfold gm;refine aY (xs:=ps) (h:=prD) ?_ (by omega) (fun p _=>?_) fun p _ _=>?_
 ·have:(oI (o2 (oV 0) (oC (.int 3)) aB) aU) [.fz (oneD w l hv c ps ts hs),.fz (.int k)]=some (ps.map prD):=rfl
  exact this
 ·have h:=gA p.1 k
  generalize hasB p.1 k=z at *;simp[br,prD,h]
 ·simp[br,prD]
theorem qF(k:Nat)(ht:ts.length<=1000)(hp:ps.length<=1000):bZ [oneD w l hv c ps ts hs,.int k]=some (.bool (faW ps ts k)):=by
 have p1:=HK w l hv c ps ts hs k ht;have p2:=HJ w l hv c ps ts hs k hp;have a1:=Ac (fun t=>hasB t k) ts;have a2:=Af (fun p:Nat×Int=>p.2%2==0) (ps.filter fun p=>hasB p.1 k);unfold faW;generalize oneD w l hv c ps ts hs=O at *;generalize (ps.filter fun p=>hasB p.1 k).all (fun p:Nat×Int=>p.2%2==0)=r at *;generalize ((ps.filter fun p=>hasB p.1 k).map fun p=>PyData.bool (p.2%2==0))=L2 at *
 generalize (ts.map fun t=>PyData.bool (hasB t k))=L1 at *
 cases h:ts.any fun t=>hasB t k with
 |true=>
  rw[h]at a1;simp[bZ,aR,fB,az,p1,a1]
 |false=>
  rw[h]at a1;simp[bZ,aR,fB,az,p1,a1,p2,a2]
theorem sC(O:D)(k:Nat):∀(ts:List Nat) (x2:Sl),(∃y2,(ts.any fun t=>hasB t k)=false/\loop (gN 2) aO (ao ts) [.fz O,.fz (.int k),x2]=some (.nx,[.fz O,.fz (.int k),y2]))\/∃ δ,(ts.any fun t=>hasB t k)=true/\loop (gN 2) aO (ao ts) [.fz O,.fz (.int k),x2]=some (.rt (.bool false),δ)
 |[],x2=>.inl ⟨x2,rfl,rfl⟩
 |t::r,x2=>by
  have te:=yO t k (δ:=[.fz O,.fz (.int k),.fz (.int t)]) (f1:=oV 2) (f2:=oV 1) rfl rfl;cases h:hasB t k with
  |true=>
   rw[h]at te;have b:aO [.fz O,.fz (.int k),.fz (.int t)]=some (.rt (.bool false),[.fz O,.fz (.int k),.fz (.int t)]):=(yo te).trans rfl;refine .inr ⟨[.fz O,.fz (.int k),.fz (.int t)],by rw[any_cons,h];rfl,?_⟩;show((gN 2 (.int t) [.fz O,.fz (.int k),x2]).bind _)=_;show((aO [.fz O,.fz (.int k),.fz (.int t)]).bind _)=_;rw[b];rfl
  |false=>
   rw[h]at te;have b:aO [.fz O,.fz (.int k),.fz (.int t)]=some (.nx,[.fz O,.fz (.int k),.fz (.int t)]):=(vi te).trans rfl;have e:loop (gN 2) aO (ao (t::r)) [.fz O,.fz (.int k),x2]=loop (gN 2) aO (ao r) [.fz O,.fz (.int k),.fz (.int t)]:=bN rfl b;rw[e,any_cons,h,Bool.false_or];exact sC O k r _
theorem EH(k:Nat)(hp:ps.length<=1000)(x2:Sl):dy [.fz (oneD w l hv c ps ts hs),.fz (.int k),x2]=some (.list ((ps.filter fun p=>hasB p.1 k&&(p.2%2==1)).map prD)):=by
 unfold dy;refine aY (xs:=ps) (h:=prD) ?_ (by omega) (fun p _=>?_) fun p _ _=>?_
 ·have:(oI (o2 (oV 0) (oC (.int 3)) aB) aU) [.fz (oneD w l hv c ps ts hs),.fz (.int k),x2]=some (ps.map prD):=rfl
  exact this
 ·have te:=yO p.1 k (δ:=.fz (prD p)::br [.fz (oneD w l hv c ps ts hs),.fz (.int k),x2] [(1,"bit")]) (f1:=o2 (oV 0) (oC (.int 0)) aB) (f2:=oV 1) rfl rfl
  unfold i8;rw[te,Option.bind_some];cases h:hasB p.1 k with
  |true=>simp[prD]
  |false=>rfl
 ·rfl
theorem zD(ps:List (Nat×Int))(k:Nat):(((ps.filter fun p=>hasB p.1 k&&(p.2%2==1)).length:Int)==0)=(ps.filter fun p=>hasB p.1 k).all fun p=>p.2%2==0:=by
 induction ps with
 |nil=>rfl
 |cons p r ih=>
  rw[List.filter_cons,List.filter_cons];cases h:hasB p.1 k with
  |false=>simpa using ih
  |true=>
   by_cases q:p.2%2=1
   ·have q0:¬p.2%2=0:=by omega
    have e1:(p.2%2==1)=true:=by simpa using q
    have e0:(p.2%2==0)=false:=by simpa using q0
    simp only[Bool.true_and,e1,if_true,length_cons,all_cons,e0,Bool.false_and];rw[beq_eq_false_iff_ne];omega
   ·have q0:p.2%2=0:=by omega
    have e1:(p.2%2==1)=false:=by simpa using q
    have e0:(p.2%2==0)=true:=by simpa using q0
    simp only[Bool.true_and,e1,if_true,all_cons,e0];simpa using ih
theorem EI(k:Nat)(hp:ps.length<=1000):cf [oneD w l hv c ps ts hs,.int k]=some (.bool (faW ps ts k)):=by
 have it:(oI (o2 (oV 0) (oC (.int 4)) aB) aU) [.fz (oneD w l hv c ps ts hs),.fz (.int k),.un]=some (ao ts):=rfl;unfold faW;rcases sC (oneD w l hv c ps ts hs) k ts .un with⟨y2,h,e⟩|⟨δ,h,e⟩
 ·rw[if_neg (by rw[h];decide)]
  have p:=EH w l hv c ps ts hs k hp y2;have z:=zD ps k;have s1:(eM (oI (o2 (oV 0) (oC (.int 4)) aB) aU) (gN 2) (aO)) [.fz (oneD w l hv c ps ts hs),.fz (.int k),.un]=some (.nx,[.fz (oneD w l hv c ps ts hs),.fz (.int k),y2]):=by
   unfold eM;rw[it];exact e
  refine yP (δ':=[.fz (oneD w l hv c ps ts hs),.fz (.int k),y2]) rfl ((hU s1).trans ?_);have ln:iO [.list ((ps.filter fun p=>hasB p.1 k&&(p.2%2==1)).map prD)]=some (.int ((ps.filter fun p=>hasB p.1 k&&(p.2%2==1)).length:Int)):=by rw[oY,length_map]
  simp only[bA,o2,VL.os,ag,ar,oC,p,Option.bind_some,ln,wb,z]
 ·rw[if_pos h]
  have s1:(eM (oI (o2 (oV 0) (oC (.int 4)) aB) aU) (gN 2) (aO)) [.fz (oneD w l hv c ps ts hs),.fz (.int k),.un]=some (.rt (.bool false),δ):=by
   unfold eM;rw[it];exact e
  exact yP (δ':=δ) rfl (JF s1)
end
theorem xt(b k:Nat):hasB b (k+1)=hasB (b/2) k:=by
 unfold hasB;rw[pow_succ,Nat.mul_comm,<-Nat.div_div_eq_div_mul]
theorem uZ:∀(k b:Nat),hasB b k=true->2^k<=b/\b ^^^ 2^k=b-2^k
 | 0,b,h=>by
  have h:b%2=1:=by unfold hasB at h;simpa using h
  exact⟨by rw[Nat.pow_zero];omega,FO b h⟩
 |k+1,b,h=>by
  rw[xt]at h;obtain⟨h1,h2⟩:=uZ k (b/2) h;have e1:(b ^^^ 2^(k+1))/2=b/2 ^^^ 2^k:=by
   rw[Nat.xor_div_two,pow_succ,Nat.mul_div_cancel _ (by decide)]
  have e2:(b ^^^ 2^(k+1))%2=b%2:=by
   have:(2^(k+1))%2=0:=by rw[pow_succ];omega
   have q:=Nat.xor_mod_two_eq_one (a:=b) (b:=2^(k+1));rcases Nat.mod_two_eq_zero_or_one b with z|z<;>rcases Nat.mod_two_eq_zero_or_one (b ^^^ 2^(k+1))with y|y<;>simp_all
  have e3:(2:Nat)^(k+1)=2*2^k:=by rw[pow_succ];omega
  rw[h2]at e1;rw[e3]at e1 e2 ⊢;omega
noncomputable def op:Nat->List (Nat×Int)->Nat
 |x,[]=>x
 |x,q::Q=>op (if q.2=2\/q.2=6 then x ^^^ q.1 else x) Q
noncomputable def cV:List (Nat×Int)->Int
 |[]=>0
 |q::Q=>q.2+cV Q
theorem JX(e:Int):C1 false (.int e) (.tuple [.int 2,.int 6])=some (.bool (decide (e=2\/e=6))):=by
 show some (PyData.bool (ka (.int e) [.int 2,.int 6]))=_;congr 2;unfold ka;simp only[any_cons,List.any_nil,PyData.eqv,Bool.or_false];by_cases h1:e=2
 ·subst h1;rfl
 ·by_cases h2:e=6
  ·subst h2;rfl
  ·simp[h1,h2]
   omega
theorem Bt(x b:Nat)(e:Int)(z0:Sl):dc [z0,.fz (.int (x:Int)),.fz (prD (b,e))]=some (.nx,[z0,.fz (.int ((if e=2\/e=6 then x ^^^ b else x:Nat):Int)),.fz (prD (b,e))]):=by
 have i:=JX e;have y:=MA.qN x b;by_cases h:e=2\/e=6
 ·rw[decide_eq_true h]at i
  rw[if_pos h,<-y];simp[dc,prD,i]
 ·rw[decide_eq_false h]at i
  rw[if_neg h];simp[dc,prD,i]
theorem vy(z0:Sl):∀(Q:List (Nat×Int)) (x:Nat) (z2:Sl),∃y2,loop (gN 2) dc (Q.map prD) [z0,.fz (.int (x:Int)),z2]=some (.nx,[z0,.fz (.int (op x Q:Nat)),y2])
 |[],x,z2=>⟨z2,rfl⟩
 |q::Q,x,z2=>by
  obtain⟨y2,e⟩:=vy z0 Q (if q.2=2\/q.2=6 then x ^^^ q.1 else x) (.fz (prD q));refine⟨y2,?_⟩;rw[map_cons,bN (δ1:=[z0,.fz (.int (x:Int)),.fz (prD q)]) (by simp) (Bt x q.1 q.2 z0),e];rfl
theorem JD(L:List D)(r:Int)(y:Sl)(lp:loop (gN 2) dc L [.fz (.list L),.fz (.int 0),.un]=some (.nx,[.fz (.list L),.fz (.int r),y])):cp [.list L]=some (.int r):=by
 simp[cp,aR,jc,az,lp]
theorem sd(Q:List (Nat×Int)):cp [.list (Q.map prD)]=some (.int (op 0 Q:Nat)):=by
 obtain⟨y,lp⟩:=vy (.fz (.list (Q.map prD))) Q 0 .un;exact JD _ _ y lp
theorem J1(w l:Nat)(hv:Int)(c:Nat)(ps:As)(ts hs:List Nat)(bit:Nat)(hb:bit<=1000)(hp:ps.length<=1000)(r:Dv):cH (.fz (oneD w l hv c (cO ps) ts hs) :: .fz (.int (bit:Int))::r)=some (.list ((cQ ps bit (2^bit)).map prD)):=by
 unfold cH cQ;rw[map_map];have sh:=js (k:=bit) (by omega);generalize 2^bit=N at *;refine aY (xs:=ps) (h:=pD) (o3 w l hv c ps ts hs) (by omega) (fun p _=>?_) fun p _ _=>?_
 ·have h:=gA p.1 bit
  generalize hasB p.1 bit=z at *;simp[br,pD,h]
 ·have x:=MA.qN p.1 N
  simp[br,pD,prD,x,sh]
theorem J2(Q:List (Nat×Int))(hl:Q.length<=1000)(z0 z1:Sl)(r:Dv):cF (z0::z1 :: .fz (.list (Q.map prD))::r)=some (.list (Q.map fun q=>PyData.int q.2)):=by
 unfold cF;refine jN (xs:=Q) (h:=prD) rfl (by omega) fun q _=>?_
 simp[br,prD]
theorem u5:∀Q:List (Nat×Int),(Q.map fun q=>q.2).sum=cV Q
 |[]=>rfl
 |q::Q=>by rw[map_cons,sum_cons,u5 Q];rfl
theorem AF(Q:List (Nat×Int)):lQ [.list (Q.map fun q=>PyData.int q.2)]=some (.int (cV Q)):=by
 have:=rm (fun q:Nat×Int=>q.2) Q;rw[this,u5]
theorem HI(O L W E A0 A3 A4 A5 TT SS:D)(bit N tt t4 r h c' tie:Int)(p1:∀x2 x3 x4 x5 x6 x7,cH [.fz O,.fz (.int bit),x2,x3,x4,x5,x6,x7]=some W)(p2:∀x3 x4 x5 x6 x7,cF [.fz O,.fz (.int bit),.fz W,x3,x4,x5,x6,x7]=some E)(sm:lQ [E]=some (.int tt))(ht:tt%8=t4)(h4:t4%4=0)(od:cp [W]=some (.int r))(sh:kH (.int 1) (.int bit)=some (.int N))(gs:bX [O,.int bit,.int N]=some L)(hx:Builtin.bitXor r (t4/4)=tie)
  (o0:aB L (.int 0)=some A0) (o1:aB L (.int 1)=some (.int h)) (o2:aB L (.int 2)=some (.int c')) (o3:aB L (.int 3)=some A3) (o4:aB L (.int 4)=some A4) (o5:aB L (.int 5)=some A5) (ad:aL A4 (.tuple [.int tie])=some TT) (gt:aN [TT]=some SS):bn [O,.int bit]=some (.tuple [A0,.int (h-2),.int c',A3,SS,A5]):=by
 simp[bn,aR,dX,az,p1,p2,sm,ht,h4,od,sh,gs,hx,o0,o1,o2,o3,o4,o5,ad,gt,t6]
theorem HH(O L W E A0 A3 A4 A5 R:D)(bit N tt t4 r h c' x t2 e8:Int)(he8:8-t4=e8)(p1:∀x2 x3 x4 x5 x6 x7,cH [.fz O,.fz (.int bit),x2,x3,x4,x5,x6,x7]=some W)(p2:∀x3 x4 x5 x6 x7,cF [.fz O,.fz (.int bit),.fz W,x3,x4,x5,x6,x7]=some E)(sm:lQ [E]=some (.int tt))(ht:tt%8=t4)(h4:¬t4%4=0)(od:cp [W]=some (.int r))(sh:kH (.int 1) (.int bit)=some (.int N))(gs:bX [O,.int bit,.int N]=some L)(hx:(if t4=2 then 1 else 7)=x)
  (o0:aB L (.int 0)=some A0) (o1:aB L (.int 1)=some (.int h)) (o2:aB L (.int 2)=some (.int c')) (o3:aB L (.int 3)=some A3) (o4:aB L (.int 4)=some A4) (o5:aB L (.int 5)=some A5) (aa:bD [.int (c'+x),A3,.list [.tuple [.int r,.int e8]]]=some (.tuple [.int t2,R])):bn [O,.int bit]=some (.tuple [A0,.int (h-1),.int t2,R,A4,A5]):=by
 by_cases q:t4=2
 ·rw[if_pos q]at hx
  have z:e8=6:=by omega
  subst q hx z;simp[bn,aR,dX,az,p1,p2,sm,ht,od,sh,gs,o0,o1,o2,o3,o4,o5,aa,t6]
 ·rw[if_neg q]at hx
  subst hx;simp[bn,aR,dX,az,p1,p2,sm,ht,h4,q,he8,od,sh,gs,o0,o1,o2,o3,o4,o5,aa,t6]
noncomputable def zn(hv t:Int):Int:=if t%4=0 then hv-2 else hv-1
noncomputable def xS(ts:List Nat)(r:Nat)(t:Int):List Nat:=ts++[r ^^^ (t/4).toNat]
noncomputable def xG(t:Int):Int:=if t=2 then 1 else 7
structure Gn (w l:Nat) (hv:Int) (c:Nat) (ps:As) (ts hs:List Nat) (bit:Nat) (hv':Int) (c':Nat) (R:As) (ss:List Nat):Prop where
 h:hv'=zn hv (cV (cQ ps bit (2^bit))%8)
 a:cV (cQ ps bit (2^bit))%4=0->(c':Int)=((c:Int)+tv (ps.map (xb bit (2^bit))))%8/\RR R (fun k=>kv k (ps.map (xb bit (2^bit))))/\TT ss (xS ts (op 0 (cQ ps bit (2^bit))) (cV (cQ ps bit (2^bit))%8))
 b:¬cV (cQ ps bit (2^bit))%4=0->(c':Int)=((c:Int)+tv (ps.map (xb bit (2^bit)))+xG (cV (cQ ps bit (2^bit))%8)+tv [(op 0 (cQ ps bit (2^bit)),8-cV (cQ ps bit (2^bit))%8)])%8/\RR R (fun k=>kv k (ps.map (xb bit (2^bit)))+kv k [(op 0 (cQ ps bit (2^bit)),8-cV (cQ ps bit (2^bit))%8)])/\ss=ts
theorem Gn.one{w l:Nat}{hv:Int}{c:Nat}{ps:As}{ts hs:List Nat}{bit:Nat}{hv' hv'':Int}{c' c'':Nat}{R R':As}{ss ss':List Nat}(g:Gn w l hv c ps ts hs bit hv' c' R ss)(g':Gn w l hv c ps ts hs bit hv'' c'' R' ss'):hv'=hv''/\c'=c''/\R=R'/\ss=ss':=by
 refine⟨g.h.trans g'.h.symm,?_⟩;by_cases q:cV (cQ ps bit (2^bit))%4=0
 ·obtain⟨a1,a2,a3⟩:=g.a q
  obtain⟨b1,b2,b3⟩:=g'.a q;exact⟨by omega,a2.one b2 fun k _=>rfl,a3.one b3 fun t _=>.rfl⟩
 ·obtain⟨a1,a2,a3⟩:=g.b q
  obtain⟨b1,b2,b3⟩:=g'.b q;exact⟨by omega,a2.one b2 fun k _=>rfl,a3.trans b3.symm⟩
theorem HW(t:Int):(((t%8)/4).toNat:Int)=t%8/4:=by omega
theorem Ll{R:As}{f:Nat->Int}(h:RR R f)(k:Nat):vl R k<8:=by
 by_cases hk:0<k
 ·have:=h.val k hk;omega
 ·have:k=0:=by omega
  subst this;rw[jg fun q=>by
   obtain⟨p,hp,e⟩:=List.mem_map.mp q;have:=(h.nz p hp).1;omega]
  omega
theorem Lm{R:As}{f:Nat->Int}(h:RR R f):0 ∉ ax R:=fun q=>by
 obtain⟨p,hp,e⟩:=List.mem_map.mp q;have:=(h.nz p hp).1;omega
theorem B6{w l:Nat}{hv:Int}{c:Nat}{ps:As}{ts hs:List Nat}{n m:Nat}(S:Sm w l hv c ps ts hs n m)(hm:m<32)(hn:n<=100)(bit:Nat)(hb:bit<=1000):∃(hv':Int) (c':Nat) (R:As) (ss:List Nat),Gn w l hv c ps ts hs bit hv' c' R ss/\R.length<=ps.length+1/\ss.length<=ts.length+1/\bn [oneD w l hv c (cO ps) ts hs,.int (bit:Int)]=some (oneD w l hv' c' (cO R) ss (kc hs bit)):=by
 obtain⟨T,R,h1,h2,h3,h4⟩:=lW S hm hn bit (2^bit);have tl:=S.tl;have pl:=S.pl;have wl:(cQ ps bit (2^bit)).length<=ps.length:=by unfold cQ;rw[length_map];exact length_filter_le _ _
 have p1:∀x2 x3 x4 x5 x6 x7,cH [.fz (oneD w l hv c (cO ps) ts hs),.fz (.int (bit:Int)),x2,x3,x4,x5,x6,x7]=some (.list ((cQ ps bit (2^bit)).map prD)):=fun x2 x3 x4 x5 x6 x7=>J1 w l hv c ps ts hs bit hb (by omega) _
 have p2:∀x3 x4 x5 x6 x7,cF [.fz (oneD w l hv c (cO ps) ts hs),.fz (.int (bit:Int)),.fz (.list ((cQ ps bit (2^bit)).map prD)),x3,x4,x5,x6,x7]=_:=fun x3 x4 x5 x6 x7=>J2 (cQ ps bit (2^bit)) (by omega) _ _ _
 have o3:aB (oneD w l hv T (cO R) ts (kc hs bit)) (.int 3)=some (.tuple (R.map pD)):=by rw[rX,gS]
 have od:=sd (cQ ps bit (2^bit));have sm:=AF (cQ ps bit (2^bit));have sh:=js (k:=bit) (by omega);obtain⟨W,hW⟩:∃W,cQ ps bit (2^bit)=W:=⟨_,rfl⟩;rw[hW]at wl p1 p2 od sm;by_cases q:cV W%4=0
 ·obtain⟨ss,g1,g2,_,g3⟩:=u6 (xS ts (op 0 W) (cV W%8)) (by unfold xS;rw[length_append];simp;omega)
  have hx:Builtin.bitXor ((op 0 W:Nat):Int) (cV W%8/4)=((op 0 W ^^^ (cV W%8/4).toNat:Nat):Int):=by
   have:=MA.qN (op 0 W) (cV W%8/4).toNat;rw[HW]at this;exact this
  have ad:aL (.tuple (ao ts)) (.tuple [.int ((op 0 W ^^^ (cV W%8/4).toNat:Nat):Int)])=some (.tuple (ao (xS ts (op 0 W) (cV W%8)))):=by
   rw[tM (by simp[eJ];omega)];unfold xS;rw[iE];rfl
  have x:=HI _ _ _ _ _ _ _ _ _ _ bit _ _ _ _ _ _ _ p1 p2 sm rfl (by omega) od sh h4 hx (mG ..) (mF ..) (mE ..) o3 (mD ..) (mC ..) ad g3;refine⟨zn hv (cV W%8),T,R,ss,⟨by rw[hW],fun _=>⟨h1,h2,by rw[hW];exact g1⟩,fun z=>absurd (hW ▸ q) z⟩,by omega,by unfold xS at g2;rw[length_append]at g2;simpa using g2,?_⟩
  rw[x];unfold oneD zn;rw[gS,if_pos (by omega)]
 ·obtain⟨R2,g1,g2,g3⟩:=jT (T+xG (cV W%8)) R (mL h2.pk) (Ll h2) [(op 0 W,8-cV W%8)] (by simp;omega) (Lm h2)
  have g3:=g3 (.tuple (R.map pD)) (zN R (mL h2.pk) (by omega));have x:=HH _ _ _ _ _ _ _ _ _ bit _ _ _ _ _ _ (xG (cV W%8)) _ _ rfl p1 p2 sm rfl (by omega) od sh h4 rfl (mG ..) (mF ..) (mE ..) o3 (mD ..) (mC ..) g3;refine⟨zn hv (cV W%8),(((T:Int)+xG (cV W%8)+tv [(op 0 W,8-cV W%8)])%8).toNat,R2,ts,⟨by rw[hW],fun z=>absurd (hW ▸ z) q,fun _=>⟨?_,⟨g1.pk,fun k hk=>?_,g1.nz⟩,rfl⟩⟩,by simpa using le_trans g2 (by simp;omega),by omega,?_⟩
  ·rw[hW];omega
  ·rw[g1.val k hk,hW,h2.val k hk];omega
  ·rw[x]
   unfold oneD zn;rw[gS,if_neg (by omega),toNat_of_nonneg (by omega)]
theorem JN(O:D)(bit b e y t lf:Int)(es es':List (aG×D))(x7 x8:Sl)(s:iZ (.int b) (.int bit)=some (.int y))(m:aK (.int y) (.int 2)=some (.int 0))(g:aX es [.int b,.int e]=some es'):bz [.fz O,.fz (.int bit),.od es,.fz (.int t),.fz (.int lf),.fz (.int b),.fz (.int e),x7,x8]=some (.nx,[.fz O,.fz (.int bit),.od es',.fz (.int t),.fz (.int lf),.fz (.int b),.fz (.int e),x7,x8]):=by
 simp[bz,kL,s,m,g]
theorem JM(O:D)(bit b e y t lf N v t' lf':Int)(es es':List (aG×D))(x7 x8:Sl)(s:iZ (.int b) (.int bit)=some (.int y))(m:aK (.int y) (.int 2)=some (.int 1))(sh:kH (.int 1) (.int bit)=some (.int N))(hv:b-N=v)(g:aX es [.int v,.int e]=some es')(ht:(t+e)%8=t')(hl:(if e=2\/e=6 then Builtin.bitXor lf v else lf)=lf'):bz [.fz O,.fz (.int bit),.od es,.fz (.int t),.fz (.int lf),.fz (.int b),.fz (.int e),x7,x8]=some (.nx,[.fz O,.fz (.int bit),.od es',.fz (.int t'),.fz (.int lf'),.fz (.int b),.fz (.int e),x7,x8]):=by
 by_cases h:e=2
 ·subst h
  rw[if_pos (.inl rfl)]at hl;simp[bz,kL,s,m,sh,hv,g,ht,hl]
 ·by_cases h6:e=6
  ·subst h6
   rw[if_pos (.inr rfl)]at hl;simp[bz,kL,s,m,sh,hv,g,ht,hl]
  ·rw[if_neg (by omega)]at hl
   subst hl;simp[bz,kL,s,m,sh,hv,g,ht,h,h6]
theorem Cz{p:Nat×Nat}{bit:Nat}(ps:As)(ch:Nat)(h:hasB p.1 bit=true):cQ (p::ps) bit ch=(p.1 ^^^ ch,(p.2:Int))::cQ ps bit ch:=by unfold cQ;rw[filter_cons_of_pos (by simp[h])];rfl
theorem CA{p:Nat×Nat}{bit:Nat}(ps:As)(ch:Nat)(h:hasB p.1 bit=false):cQ (p::ps) bit ch=cQ ps bit ch:=by unfold cQ;rw[filter_cons_of_neg (by simp[h])]
theorem qp(O:D)(bit:Nat)(hb:bit<=1000)(x7 x8:Sl):∀(ps A:As) (t:Int) (lf:Nat) (x5 x6:Sl),OkA A->A.length+ps.length<1000->0<=t->t<8->∃y5 y6,loop (xK [gN 5,gN 6]) bz (ps.map pD) [.fz O,.fz (.int (bit:Int)),.od (bR A),.fz (.int t),.fz (.int (lf:Int)),x5,x6,x7,x8]=some (.nx,[.fz O,.fz (.int (bit:Int)),.od (bR (rA A (ps.map (xb bit (2^bit))))),.fz (.int ((t+cV (cQ ps bit (2^bit)))%8)),.fz (.int (op lf (cQ ps bit (2^bit)):Nat)),y5,y6,x7,x8])
 |[],A,t,lf,x5,x6,_,_,h0,h8=>⟨x5,x6,by
  show some (Fl.nx,_)=some (Fl.nx,[_,_,_,Sl.fz (.int ((t+0)%8)),_,_,_,_,_]);rw[show(t+0)%8=t by omega];rfl⟩
 |p::ps,A,t,lf,x5,x6,h,hl,h0,h8=>by
  rw[length_cons]at hl;have s:=iz p.1 bit;have md:=hV (p.1/2^bit);cases q:hasB p.1 bit with
  |true=>
   obtain⟨z1,z2⟩:=uZ bit p.1 q;have e3:xb bit (2^bit) p=(p.1 ^^^ 2^bit,(p.2:Int)):=by unfold xb;rw[q];rfl
   have m1:p.1/2^bit%2=1:=by unfold hasB at q;simpa using q
   rw[m1]at md;have g:=vM h (by omega) (p.1 ^^^ 2^bit) (p.2:Int);have l2:=(oZ h (p.1 ^^^ 2^bit) (p.2:Int)).2;have lfx:(if((p.2:Int)=2\/(p.2:Int)=6)then Builtin.bitXor (lf:Int) ((p.1 ^^^ 2^bit:Nat):Int)else(lf:Int))=((if(p.2:Int)=2\/(p.2:Int)=6 then lf ^^^ (p.1 ^^^ 2^bit)else lf:Nat):Int):=by
    split
    ·rw[MA.qN]
    ·rfl
   have st:=JM O bit p.1 p.2 _ t lf _ ((p.1 ^^^ 2^bit:Nat):Int) _ _ (bR A) _ x7 x8 s md (js (k:=bit) (by omega)) (by rw[z2];omega) g rfl lfx;obtain⟨y5,y6,e⟩:=qp O bit hb x7 x8 ps (qx A (p.1 ^^^ 2^bit) (p.2:Int)) ((t+(p.2:Int))%8) (if(p.2:Int)=2\/(p.2:Int)=6 then lf ^^^ (p.1 ^^^ 2^bit)else lf) (.fz (.int (p.1:Int))) (.fz (.int (p.2:Int))) (CQ h _ _) (by omega) (by omega) (by omega);refine⟨y5,y6,?_⟩;rw[map_cons,bN (δ1:=[.fz O,.fz (.int (bit:Int)),.od (bR A),.fz (.int t),.fz (.int (lf:Int)),.fz (.int (p.1:Int)),.fz (.int (p.2:Int)),x7,x8]) (by simp[pD]) st,e,Cz ps _ q,map_cons,e3];have tt:((t+(p.2:Int))%8+cV (cQ ps bit (2^bit)))%8=(t+cV ((p.1 ^^^ 2^bit,(p.2:Int))::cQ ps bit (2^bit)))%8:=by
    show _=(t+((p.2:Int)+cV (cQ ps bit (2^bit))))%8;omega
   rw[tt];rfl
  |false=>
   have e3:xb bit (2^bit) p=(p.1,(p.2:Int)):=by unfold xb;rw[q];rfl
   have m1:p.1/2^bit%2=0:=by
    have:¬p.1/2^bit%2=1:=by unfold hasB at q;simpa using q
    omega
   rw[m1]at md;have g:=vM h (by omega) p.1 (p.2:Int);have l2:=(oZ h p.1 (p.2:Int)).2;have st:=JN O bit p.1 p.2 _ t lf (bR A) _ x7 x8 s md g;obtain⟨y5,y6,e⟩:=qp O bit hb x7 x8 ps (qx A p.1 (p.2:Int)) t lf (.fz (.int (p.1:Int))) (.fz (.int (p.2:Int))) (CQ h _ _) (by omega) h0 h8;refine⟨y5,y6,?_⟩;rw[map_cons,bN (δ1:=[.fz O,.fz (.int (bit:Int)),.od (bR A),.fz (.int t),.fz (.int (lf:Int)),.fz (.int (p.1:Int)),.fz (.int (p.2:Int)),x7,x8]) (by simp[pD]) st,e,CA ps _ q,map_cons,e3];rfl
theorem Hg(w l:Nat)(hv:Int)(c:Nat)(ps:As)(ts hs:List Nat)(bit:Nat)(hh:hs.length<=1000)(r:Dv):cJ (.fz (oneD w l hv c (cO ps) ts hs) :: .fz (.int (bit:Int))::r)=some (.list (ao (kc hs bit))):=by
 unfold cJ kc;rw[eF];refine aY (xs:=hs) (h:=fun h:Nat=>PyData.int (h:Int)) (by
  have:(oI (o2 (oV 0) (oC (.int 5)) aB) aU) (.fz (oneD w l hv c (cO ps) ts hs) :: .fz (.int (bit:Int))::r)=some (ao hs):=rfl;exact this) (by omega) (fun p _=>?_) fun p _ _=>?_
 ·have h:=qj p bit
  generalize decide (p≠bit)=z at *;simp only[br];show(((vd (some (Sl.fz (.int (p:Int))))).bind fun x=>(vd (some (Sl.fz (.int (bit:Int))))).bind fun y=>neD x y).bind asB)=_
  rw[gb,gb,Option.bind_some,Option.bind_some,h];rfl
 ·simp[br]
theorem HX(A:As)(x0 x1 x3 x4 x5 x6 x7 x8:Sl):kX 2 [x0,x1,.od (bR A),x3,x4,x5,x6,x7,x8]=[x0,x1,.fz (.dict (dctD (lI A))),x3,x4,x5,x6,x7,x8]:=by
 have h:=lC A;show(match kA (bR A)with|some l'=>_|none=>_)=_
 rw[h];rfl
theorem Hf(O A0 Q5 A4 X SS PP:D)(PL:List D)(A:As)(bit c t h h' v0 r tie:Int)(y5 y6:Sl)(o2:aB O (.int 2)=some (.int c))(o3:aB O (.int 3)=some (.tuple PL))(lp:loop (xK [gN 5,gN 6]) bz PL [.fz O,.fz (.int bit),.od [(.inl 0,.int c)],.fz (.int 0),.fz (.int 0),.un,.un,.un,.un]=some (.nx,[.fz O,.fz (.int bit),.od (bR A),.fz (.int t),.fz (.int r),y5,y6,.un,.un]))
  (o1:aB O (.int 1)=some (.int h)) (hh:h-2+t%4/2=h') (o4:aB O (.int 4)=some A4) (ht:t=0\/t=4) (hx:Builtin.bitXor r (t/4)=tie) (ad:aL A4 (.tuple [.int tie])=some X) (td:bE [X]=some SS) (p1:∀x2 x3 x4 x5 x6 x7 x8,cJ [.fz O,.fz (.int bit),x2,x3,x4,x5,x6,x7,x8]=some Q5) (o0:aB O (.int 0)=some A0) (g0:fw (.dict (dctD (lI A))) (.int 0)=some (.int v0)) (pp:bc [.dict (dctD (lI A))]=some PP) (QT:D) (hQ:bJ [Q5]=some QT):bq [O,.int bit]=some (.tuple [A0,.int h',.int v0,PP,SS,QT]):=by
 have d:=HX A (.fz O) (.fz (.int bit)) (.fz (.int t)) (.fz (.int r)) y5 y6 (.fz (.int h')) (.fz SS);rcases ht with rfl|rfl
 ·have hx:Builtin.bitXor r 0=tie:=hx
  have hh:h-2=h':=by omega
  simp[bq,aR,df,az,kr,o2,o3,lp,o1,hh,o4,hx,ad,td,p1,d,o0,g0,pp,hQ,t6]
 ·have hx:Builtin.bitXor r 1=tie:=hx
  have hh:h-2=h':=by omega
  simp[bq,aR,df,az,kr,o2,o3,lp,o1,hh,o4,hx,ad,td,p1,d,o0,g0,pp,hQ,t6]
theorem He(O A0 Q5 A4 PP:D)(PL:List D)(A B:As)(es1:List (aG×D))(bit c t h h' v0 v1 r x e8:Int)(y5 y6:Sl)(o2:aB O (.int 2)=some (.int c))(o3:aB O (.int 3)=some (.tuple PL))(lp:loop (xK [gN 5,gN 6]) bz PL [.fz O,.fz (.int bit),.od [(.inl 0,.int c)],.fz (.int 0),.fz (.int 0),.un,.un,.un,.un]=some (.nx,[.fz O,.fz (.int bit),.od (bR A),.fz (.int t),.fz (.int r),y5,y6,.un,.un]))
  (o1:aB O (.int 1)=some (.int h)) (hh:h-2+t%4/2=h') (o4:aB O (.int 4)=some A4) (ht:t=2/\x=1/\e8=6\/t=6/\x=7/\e8=2) (gz:dW (bR A) (.inl 0)=some (.int v0)) (hl:(bR A).length<sizeLine) (hp:eQ (bR A) (.inl 0) (.int ((v0+x)%8))=es1) (ga:aX es1 [.int r,.int e8]=some (bR B)) (p1:∀x2 x3 x4 x5 x6 x7 x8,cJ [.fz O,.fz (.int bit),x2,x3,x4,x5,x6,x7,x8]=some Q5) (o0:aB O (.int 0)=some A0) (g0:fw (.dict (dctD (lI B))) (.int 0)=some (.int v1)) (pp:bc [.dict (dctD (lI B))]=some PP) (QT:D) (hQ:bJ [Q5]=some QT):bq [O,.int bit]=some (.tuple [A0,.int h',.int v1,PP,A4,QT]):=by
 have d:=HX B (.fz O) (.fz (.int bit)) (.fz (.int t)) (.fz (.int r)) y5 y6 (.fz (.int h')) (.fz A4);rcases ht with⟨rfl,rfl,rfl⟩|⟨rfl,rfl,rfl⟩
 ·have hh:h-2+1=h':=by omega
  simp[bq,aR,df,az,kr,bU,mJ,kL,o2,o3,lp,o1,hh,o4,gz,hl,hp,ga,p1,d,o0,g0,pp,hQ,t6]
 ·have hh:h-2+1=h':=by omega
  simp[bq,aR,df,az,kr,bU,mJ,kL,o2,o3,lp,o1,hh,o4,gz,hl,hp,ga,p1,d,o0,g0,pp,hQ,t6]
theorem sH{w l:Nat}{hv:Int}{c:Nat}{ps:As}{ts hs:List Nat}{n m:Nat}(S:Sm w l hv c ps ts hs n m)(hm:m<32)(hn:n<=100)(bit:Nat)(hb:bit<=1000)(ev:cV (cQ ps bit (2^bit))%2=0):∃(hv':Int) (c':Nat) (R:As) (ss:List Nat),Gn w l hv c ps ts hs bit hv' c' R ss/\bq [oneD w l hv c (cO ps) ts hs,.int (bit:Int)]=some (oneD w l hv' c' (cO R) ss (kc hs bit)):=by
 have tl:=S.tl;have pl:=S.pl;have hl:=S.hl;have ok:=uu (ps.map (xb bit (2^bit))) (fG S.c8);have ln:=qt (ps.map (xb bit (2^bit))) (fG S.c8);simp only[length_map,length_cons,length_nil]at ln;have v0:=pH (ps.map (xb bit (2^bit))) (fG S.c8);rw[u3]at v0;have vk:∀k,0<k->(vl (rA [(0,c)] (ps.map (xb bit (2^bit)))) k:Int)=kv k (ps.map (xb bit (2^bit)))%8:=fun k hk=>by
  rw[pG hk _ (fG S.c8),xO c hk];show((0:Nat)+_:Int)%8=_;rw[show((0:Nat):Int)=0 from rfl,zero_add]
 obtain⟨y5,y6,lp⟩:=qp (oneD w l hv c (cO ps) ts hs) bit hb .un .un ps [(0,c)] 0 0 .un .un (fG S.c8) (by simp;omega) (by decide) (by decide);rw[zero_add]at lp;have o3:aB (oneD w l hv c (cO ps) ts hs) (.int 3)=some (.tuple (ps.map pD)):=by rw[rX,gS]
 have p1:∀x2 x3 x4 x5 x6 x7 x8,cJ [.fz (oneD w l hv c (cO ps) ts hs),.fz (.int (bit:Int)),x2,x3,x4,x5,x6,x7,x8]=some (.list (ao (kc hs bit))):=fun x2 x3 x4 x5 x6 x7 x8=>Hg w l hv c ps ts hs bit (by omega) _
 obtain⟨A,hA⟩:∃A,rA [(0,c)] (ps.map (xb bit (2^bit)))=A:=⟨_,rfl⟩;rw[hA]at ok ln v0 lp;simp only[hA]at vk;obtain⟨W,hW⟩:∃W,cQ ps bit (2^bit)=W:=⟨_,rfl⟩;rw[hW]at lp ev;by_cases q:cV W%4=0
 ·obtain⟨rs,p,pw,e⟩:=mz A ok.nd (by omega)
  obtain⟨ss,g1,g2⟩:=u7 (xS ts (op 0 W) (cV W%8)) (by unfold xS;rw[length_append];simp;omega);have hx:Builtin.bitXor ((op 0 W:Nat):Int) (cV W%8/4)=((op 0 W ^^^ (cV W%8/4).toNat:Nat):Int):=by
   have:=MA.qN (op 0 W) (cV W%8/4).toNat;rw[HW]at this;exact this
  have ad:aL (.tuple (ao ts)) (.tuple [.int ((op 0 W ^^^ (cV W%8/4).toNat:Nat):Int)])=some (.tuple (ao (xS ts (op 0 W) (cV W%8)))):=by
   rw[tM (by simp[eJ];omega)];unfold xS;rw[iE];rfl
  have x:=Hf _ _ _ _ _ _ _ _ A bit c _ hv (zn hv (cV W%8)) _ _ _ y5 y6 (mE ..) o3 lp (mF ..) (by unfold zn;rw[if_pos (by omega)];omega) (mD ..) (by omega) hx ad (g2 _ rfl) p1 (mG ..) (zt (k:=0) ok.z) e _ rfl;refine⟨zn hv (cV W%8),vl A 0,j3 A rs,ss,⟨by rw[hW],fun _=>⟨v0,uk ok p pw vk,by rw[hW];exact g1⟩,fun z=>absurd (hW ▸ q) z⟩,?_⟩
  rw[x];unfold oneD;rw[gS]
 ·have ok1:OkA (lq A 0 (nv (vl A 0) (xG (cV W%8)))):=qh ok 0 _ (vz _ _)
  have okB:=CQ ok1 (op 0 W) (8-cV W%8);have l1:=lv A 0 (nv (vl A 0) (xG (cV W%8)));have lB:=(oZ ok1 (op 0 W) (8-cV W%8)).2;have ga:=vM ok1 (by omega) (op 0 W) (8-cV W%8);obtain⟨B,hB⟩:∃B,qx (lq A 0 (nv (vl A 0) (xG (cV W%8)))) (op 0 W) (8-cV W%8)=B:=⟨_,rfl⟩;have vB0:=CC (lq A 0 (nv (vl A 0) (xG (cV W%8)))) (op 0 W) (8-cV W%8);have vBk:=Kv (lq A 0 (nv (vl A 0) (xG (cV W%8)))) (op 0 W) (8-cV W%8);rw[hB]at okB lB ga vB0;simp only[hB]at vBk;rw[gP,if_pos rfl]at vB0;obtain⟨rs,p,pw,e⟩:=mz B okB.nd (by omega);have sz:sizeLine>=1001:=by decide
  have x:=He _ _ _ _ _ _ A B _ bit c _ hv (zn hv (cV W%8)) _ _ _ (xG (cV W%8)) (8-cV W%8) y5 y6 (mE ..) o3 lp (mF ..) (by unfold zn;rw[if_neg (by omega)];omega) (mD ..) (by
   unfold xG;by_cases z:cV W%8=2
   ·rw[if_pos z];omega
   ·rw[if_neg z];omega) (qH ok.z) (by unfold bR;rw[length_map];omega) (by rw[<-iR];exact iD A 0 _) ga p1 (mG ..) (zt (k:=0) okB.z) e _ rfl
  refine⟨zn hv (cV W%8),vl B 0,j3 B rs,ts,⟨by rw[hW],fun z=>absurd (hW ▸ z) q,fun _=>⟨?_,uk okB p pw fun k hk=>?_,rfl⟩⟩,?_⟩
  ·rw[hW,vB0]
   have n1:=iR (vl A 0) (xG (cV W%8));show _=(_+((if op 0 W%2=1 then 8-cV W%8 else 0)+0))%8;by_cases o:op 0 W%2=1
   ·rw[if_pos o,if_pos o,iR];omega
   ·rw[if_neg o,if_neg o];omega
  ·have vp:vl (lq A 0 (nv (vl A 0) (xG (cV W%8)))) k=vl A k:=by rw[gP,if_neg (by omega)]
   rw[hW,vBk k hk,vp];have:=vk k hk;show _=(_+((if GN.hb (op 0 W)=k then he (op 0 W) (8-cV W%8)else 0)+0))%8;by_cases o:GN.hb (op 0 W)=k
   ·rw[if_pos o,if_pos o.symm,iR];omega
   ·rw[if_neg o,if_neg (fun z=>o z.symm)];omega
  ·rw[x]
   unfold oneD;rw[gS]
noncomputable def awT(h:Int):D:=.tuple [.str "away",.int h]
noncomputable def ptT(t h:Int):D:=.tuple [.str "put",.int t,.int h]
noncomputable def puts(hs:List Nat)(t:Nat):List D:=(hs.filter fun h=>hasB t h).map fun h:Nat=>ptT (t:Int) ((h:Nat):Int)
noncomputable def t7(ps:List (Nat×Int))(ts hs:List Nat):List D:=((hs.filter fun h=>faW ps ts h).map fun h:Nat=>awT ((h:Nat):Int))++(ts.map (puts hs)).flatten
theorem rN(hs:List Nat)(t:Nat):(puts hs t).length<=hs.length:=by
 unfold puts;rw[length_map];exact length_filter_le _ _
section
variable(w l:Nat)(hv:Int)(c:Nat)(ps:List (Nat×Int))(ts hs:List Nat)
theorem Gj(ht:ts.length<=1000)(hp:ps.length<=1000)(hh:hs.length<=1000)(x1 x2:Sl):fh [.fz (oneD w l hv c ps ts hs),x1,x2]=some (.list ((hs.filter fun h=>faW ps ts h).map fun h:Nat=>awT ((h:Nat):Int))):=by
 unfold fh;refine aY (xs:=hs) (h:=fun h=>.int ((h:Nat):Int)) ?_ (by omega) (fun h _=>?_) fun h _ _=>?_
 ·have:(oI (o2 (oV 0) (oC (.int 5)) aB) aU) [.fz (oneD w l hv c ps ts hs),x1,x2]=some (ao hs):=rfl
  exact this
 ·have g:=qF w l hv c ps ts hs h ht hp
  generalize faW ps ts h=z at *;generalize oneD w l hv c ps ts hs=O at *;simp[br,g]
 ·simp[awT]
theorem Gi(hh:hs.length<=1000)(t:Nat)(x1:Sl):g8 [.fz (oneD w l hv c ps ts hs),x1,.fz (.int t)]=some (.list (puts hs t)):=by
 unfold g8 puts;refine aY (xs:=hs) (h:=fun h=>.int ((h:Nat):Int)) ?_ (by omega) (fun h _=>?_) fun h _ _=>?_
 ·have:(oI (o2 (oV 0) (oC (.int 5)) aB) aU) [.fz (oneD w l hv c ps ts hs),x1,.fz (.int t)]=some (ao hs):=rfl
  exact this
 ·have g:=gA t h
  generalize hasB t h=z at *;simp[br,g]
 ·simp[ptT,br]
theorem vb(hh:hs.length<=1000):∀(us:List Nat) (A:List D) (x2:Sl),A.length+us.length*1000<=10000000->∃y2,loop (gN 2) cy (ao us) [.fz (oneD w l hv c ps ts hs),.ow A,x2]=some (.nx,[.fz (oneD w l hv c ps ts hs),.ow (A++(us.map (puts hs)).flatten),y2])
 |[],A,x2,_=>⟨x2,by rw[map_nil,List.flatten_nil,append_nil];rfl⟩
 |t::us,A,x2,hA=>by
  have p:=Gi w l hv c ps ts hs hh t (.ow A);have pl:=rN hs t;have hz:A.length+(puts hs t).length<=sizeLine:=by rw[sizeLine_eq];simp only[length_cons]at hA;omega
  have b:cy [.fz (oneD w l hv c ps ts hs),.ow A,.fz (.int t)]=some (.nx,[.fz (oneD w l hv c ps ts hs),.ow (A++puts hs t),.fz (.int t)]):=by
   generalize puts hs t=U at *;generalize oneD w l hv c ps ts hs=O at *;simp[cy,p,sx,hz]
  obtain⟨y2,e⟩:=vb hh us (A++puts hs t) (.fz (.int t)) (by rw[length_append];simp only[length_cons]at hA;omega);refine⟨y2,?_⟩;have e0:loop (gN 2) cy (ao (t::us)) [.fz (oneD w l hv c ps ts hs),.ow A,x2]=loop (gN 2) cy (ao us) [.fz (oneD w l hv c ps ts hs),.ow (A++puts hs t),.fz (.int t)]:=bN rfl b;rw[e0,e,map_cons,List.flatten_cons,append_assoc]
theorem rp(ht:ts.length<=1000)(hp:ps.length<=1000)(hh:hs.length<=1000):cn [oneD w l hv c ps ts hs]=some (.list (t7 ps ts hs)):=by
 have p:=Gj w l hv c ps ts hs ht hp hh .un .un;have hl:((hs.filter fun h=>faW ps ts h).map fun h:Nat=>awT ((h:Nat):Int)).length<=hs.length:=by rw[length_map];exact length_filter_le _ _
 obtain⟨y2,e⟩:=vb w l hv c ps ts hs hh ts ((hs.filter fun h=>faW ps ts h).map fun h:Nat=>awT ((h:Nat):Int)) .un (by omega)
 have s1:(eL 1 (wY (fh))) [.fz (oneD w l hv c ps ts hs),.un,.un]=some (.nx,[.fz (oneD w l hv c ps ts hs),.ow ((hs.filter fun h=>faW ps ts h).map fun h:Nat=>awT ((h:Nat):Int)),.un]):=by
  simp only[eL,wY,p,Option.bind_some,sx];rfl
 have s2:(eM (oI (o2 (oV 0) (oC (.int 4)) aB) aU) (gN 2) (cy)) [.fz (oneD w l hv c ps ts hs),.ow ((hs.filter fun h=>faW ps ts h).map fun h:Nat=>awT ((h:Nat):Int)),.un]=some (.nx,[.fz (oneD w l hv c ps ts hs),.ow (t7 ps ts hs),y2]):=by
  unfold eM;rw[show(oI (o2 (oV 0) (oC (.int 4)) aB) aU) [.fz (oneD w l hv c ps ts hs),.ow ((hs.filter fun h=>faW ps ts h).map fun h:Nat=>awT ((h:Nat):Int)),.un]=some (ao ts)from rfl]
  exact e
 exact yP (δ':=jM 1 [.fz (oneD w l hv c ps ts hs),.ow (t7 ps ts hs),y2]) rfl ((hU s1).trans ((hU s2).trans rfl))
theorem G9(ht:ts.length<=1000)(hp:ps.length<=1000)(hh:hs.length<=1000)(x1 x2:Sl):dO [.fz (oneD w l hv c ps ts hs),x1,x2]=some (.list ((hs.filter fun h=>faW ps ts h).map fun h:Nat=>awT ((h:Nat):Int))):=by
 unfold dO;refine aY (xs:=hs) (h:=fun h=>.int ((h:Nat):Int)) ?_ (by omega) (fun h _=>?_) fun h _ _=>?_
 ·have:(oI (o2 (oV 0) (oC (.int 5)) aB) aU) [.fz (oneD w l hv c ps ts hs),x1,x2]=some (ao hs):=rfl
  exact this
 ·have g:=EI w l hv c ps ts hs h hp
  generalize faW ps ts h=z at *;generalize oneD w l hv c ps ts hs=O at *;simp[br,g]
 ·simp[awT]
theorem G8(hh:hs.length<=1000)(t:Nat)(x1:Sl):fF [.fz (oneD w l hv c ps ts hs),x1,.fz (.int t)]=some (.list (puts hs t)):=by
 unfold fF puts;refine aY (xs:=hs) (h:=fun h=>.int ((h:Nat):Int)) ?_ (by omega) (fun h _=>?_) fun h _ _=>?_
 ·have:(oI (o2 (oV 0) (oC (.int 5)) aB) aU) [.fz (oneD w l hv c ps ts hs),x1,.fz (.int t)]=some (ao hs):=rfl
  exact this
 ·exact yO t h (δ:=.fz (.int h)::br [.fz (oneD w l hv c ps ts hs),x1,.fz (.int t)] [(2,"tie")]) (f1:=oV 1) (f2:=oV 0) rfl rfl
 ·simp[ptT,br]
theorem vE(hh:hs.length<=1000):∀(us:List Nat) (A:List D) (x2:Sl),A.length+us.length*1000<=10000000->∃y2,loop (gN 2) b5 (ao us) [.fz (oneD w l hv c ps ts hs),.fz (.list A),x2]=some (.nx,[.fz (oneD w l hv c ps ts hs),.fz (.list (A++(us.map (puts hs)).flatten)),y2])
 |[],A,x2,_=>⟨x2,by rw[map_nil,List.flatten_nil,append_nil];rfl⟩
 |t::us,A,x2,hA=>by
  have p:=G8 w l hv c ps ts hs hh t (.fz (.list A));have pl:=rN hs t;have ad:aL (.list A) (.list (puts hs t))=some (.list (A++puts hs t)):=fZ (by simp only[length_cons]at hA;omega);have b:b5 [.fz (oneD w l hv c ps ts hs),.fz (.list A),.fz (.int t)]=some (.nx,[.fz (oneD w l hv c ps ts hs),.fz (.list (A++puts hs t)),.fz (.int t)]):=by
   generalize puts hs t=U at *;generalize oneD w l hv c ps ts hs=O at *;simp[b5,p,ad]
  obtain⟨y2,e⟩:=vE hh us (A++puts hs t) (.fz (.int t)) (by rw[length_append];simp only[length_cons]at hA;omega);refine⟨y2,?_⟩;have e0:loop (gN 2) b5 (ao (t::us)) [.fz (oneD w l hv c ps ts hs),.fz (.list A),x2]=loop (gN 2) b5 (ao us) [.fz (oneD w l hv c ps ts hs),.fz (.list (A++puts hs t)),.fz (.int t)]:=bN rfl b;rw[e0,e,map_cons,List.flatten_cons,append_assoc]
theorem qv(ht:ts.length<=1000)(hp:ps.length<=1000)(hh:hs.length<=1000):bb [oneD w l hv c ps ts hs]=some (.list (t7 ps ts hs)):=by
 have p:=G9 w l hv c ps ts hs ht hp hh .un .un;have hl:((hs.filter fun h=>faW ps ts h).map fun h:Nat=>awT ((h:Nat):Int)).length<=hs.length:=by rw[length_map];exact length_filter_le _ _
 obtain⟨y2,e⟩:=vE w l hv c ps ts hs hh ts ((hs.filter fun h=>faW ps ts h).map fun h:Nat=>awT ((h:Nat):Int)) .un (by omega)
 have s1:(aI 1 (dO)) [.fz (oneD w l hv c ps ts hs),.un,.un]=some (.nx,[.fz (oneD w l hv c ps ts hs),.fz (.list ((hs.filter fun h=>faW ps ts h).map fun h:Nat=>awT ((h:Nat):Int))),.un]):=by
  simp only[aI,p,Option.bind_some];rfl
 have s2:(eM (oI (o2 (oV 0) (oC (.int 4)) aB) aU) (gN 2) (b5)) [.fz (oneD w l hv c ps ts hs),.fz (.list ((hs.filter fun h=>faW ps ts h).map fun h:Nat=>awT ((h:Nat):Int))),.un]=some (.nx,[.fz (oneD w l hv c ps ts hs),.fz (.list (t7 ps ts hs)),y2]):=by
  unfold eM;rw[show(oI (o2 (oV 0) (oC (.int 4)) aB) aU) [.fz (oneD w l hv c ps ts hs),.fz (.list ((hs.filter fun h=>faW ps ts h).map fun h:Nat=>awT ((h:Nat):Int))),.un]=some (ao ts)from rfl]
  exact e
 exact yP (δ':=[.fz (oneD w l hv c ps ts hs),.fz (.list (t7 ps ts hs)),y2]) rfl ((hU s1).trans ((hU s2).trans rfl))
end
inductive Stp:D->Prop
 |aw (h:Int):Stp (awT h)
 |pt (t h:Int):Stp (ptT t h)
theorem f8(ps:List (Nat×Int))(ts hs:List Nat):∀d∈t7 ps ts hs,Stp d:=fun d hd=>by
 rcases List.mem_append.mp hd with hd|hd
 ·obtain⟨h,_,rfl⟩:=List.mem_map.mp hd
  exact .aw _
 ·obtain⟨x,hx,hd⟩:=List.mem_flatten.mp hd
  obtain⟨t,_,rfl⟩:=List.mem_map.mp hx;obtain⟨h,_,rfl⟩:=List.mem_map.mp hd;exact .pt _ _
theorem z8:PyData.canLay0 (.str "away")=true:=by decide +kernel
theorem Be:PyData.canLay0 (.str "put")=true:=by decide +kernel
theorem ug(h:Int):shp (awT h)=true:=by
 have:=z8;simp[shp,PySem.SeqAt.shaped,awT,PyData.canLay0,PyData.canLayAll0,PyData.depth,PyData.depthAll]at this ⊢;exact this
theorem uf(t h:Int):shp (ptT t h)=true:=by
 have:=Be;simp[shp,PySem.SeqAt.shaped,ptT,PyData.canLay0,PyData.canLayAll0,PyData.depth,PyData.depthAll]at this ⊢;exact this
theorem Co(h:Int):neD (awT h) (awT h)=some (.bool false):=by
 unfold neD;rw[if_pos ⟨ug h,ug h⟩];simp[awT,PyData.eqv,PyData.eqvAll]
theorem Bf(t h:Int):neD (ptT t h) (ptT t h)=some (.bool false):=by
 unfold neD;rw[if_pos ⟨uf t h,uf t h⟩];simp[ptT,PyData.eqv,PyData.eqvAll]
theorem Stp.ne{d:D}(h:Stp d):neD d d=some (.bool false):=by
 cases h with
 |aw h=>exact Co h
 |pt t h=>exact Bf t h
theorem Stp.shp{d:D}(h:Stp d):shp d=true:=by
 cases h with
 |aw h=>exact ug h
 |pt t h=>exact uf t h
theorem zK(h b:Int):PyData.eqv (awT h) (awT b)=(h==b):=by simp[awT,PyData.eqv,PyData.eqvAll]
theorem zJ(h s b:Int):PyData.eqv (awT h) (ptT s b)=false:=by simp[awT,ptT,PyData.eqv,PyData.eqvAll]
theorem zI(t h b:Int):PyData.eqv (ptT t h) (awT b)=false:=by simp[awT,ptT,PyData.eqv,PyData.eqvAll]
theorem zH(t h s b:Int):PyData.eqv (ptT t h) (ptT s b)=((t==s)&&(h==b)):=by simp[ptT,PyData.eqv,PyData.eqvAll]
theorem Hw(ps:List (Nat×Int))(ts hs:List Nat)(b:Int):ka (awT b) (t7 ps ts hs)=(hs.filter fun h=>faW ps ts h).any fun h=>((h:Nat):Int)==b:=by
 unfold ka t7;rw[List.any_append,any_map];have z:((ts.map (puts hs)).flatten.any fun y=>PyData.eqv y (awT b))=false:=by
  rw[any_eq_false];intro y hy;obtain⟨x,hx,hy⟩:=List.mem_flatten.mp hy;obtain⟨t,_,rfl⟩:=List.mem_map.mp hx;obtain⟨h,_,rfl⟩:=List.mem_map.mp hy;rw[zI];decide
 rw[z,Bool.or_false];simp only[Function.comp_def,zK]
theorem Hv(ps:List (Nat×Int))(ts hs:List Nat)(s b:Int):ka (ptT s b) (t7 ps ts hs)=ts.any fun t=>(((t:Nat):Int)==s)&&(hs.filter fun h=>hasB t h).any fun h=>((h:Nat):Int)==b:=by
 unfold ka t7;rw[List.any_append,any_map,List.any_flatten,any_map];have z:((hs.filter fun h=>faW ps ts h).any ((fun y=>PyData.eqv y (ptT s b)) ∘ fun h:Nat=>awT ((h:Nat):Int)))=false:=by
  rw[any_eq_false];intro y hy;show ¬PyData.eqv (awT ((y:Nat):Int)) (ptT s b)=true;rw[zJ];decide
 rw[z,Bool.false_or];congr 1;funext t;show(puts hs t).any _=_;unfold puts;rw[any_map];simp only[Function.comp_def,zH];cases q:(((t:Nat):Int)==s)with
 |true=>simp
 |false=>simp
theorem FG(hs:List Nat)(b:Int):C1 false (.int b) (.tuple (ao hs))=some (.bool (hs.any fun h=>((h:Nat):Int)==b)):=by
 have f:(ao hs).all xu=true:=by
  rw[List.all_eq_true];intro d hd;obtain⟨h,_,rfl⟩:=List.mem_map.mp hd;rfl
 show(if xu (.int b)=true/\(ao hs).all xu=true then some (PyData.bool (if false=true then !ka (.int b) (ao hs)else ka (.int b) (ao hs)))else none)=_;rw[if_pos ⟨rfl,f⟩,if_neg (by decide)];unfold ka ao;rw[any_map];simp only[Function.comp_def,PyData.eqv]
theorem IF:cN (.str "away") (.str "away")=some (.bool true):=by
 unfold cN;rw[if_pos ⟨by decide +kernel,by decide +kernel⟩];simp[PyData.eqv]
theorem IE:cN (.str "put") (.str "away")=some (.bool false):=by
 unfold cN;rw[if_pos ⟨by decide +kernel,by decide +kernel⟩];have:(("put":Str)==("away":Str))=false:=by decide +kernel
 simp[PyData.eqv,this]
section
variable(w l:Nat)(hv:Int)(c:Nat)(ps:List (Nat×Int))(ts hs:List Nat)
theorem B8(b:Int)(ht:ts.length<=1000)(hp:ps.length<=1000):bV [oneD w l hv c ps ts hs,awT b]=some (.bool (ka (awT b) (t7 ps ts hs))):=by
 have i:=FG hs b;have a:=IF;have o5:=mC w l hv c ps ts hs;rw[Hw];cases q:hs.any fun h=>((h:Nat):Int)==b with
 |false=>
  rw[q]at i;have z:((hs.filter fun h=>faW ps ts h).any fun h=>((h:Nat):Int)==b)=false:=by
   rw[any_eq_false]at q ⊢;intro x hx;exact q x (List.mem_filter.mp hx).1
  rw[z];generalize oneD w l hv c ps ts hs=O at *;simp[bV,aR,gE,az,awT,a,o5,i]
 |true=>
  rw[q]at i;obtain⟨h,hm,hb⟩:=List.any_eq_true.mp q;have hb:(h:Int)=b:=by simpa using hb
  subst hb;have g:=qF w l hv c ps ts hs h ht hp;have z:((hs.filter fun h=>faW ps ts h).any fun x=>((x:Nat):Int)==(h:Int))=faW ps ts h:=by
   cases f:faW ps ts h with
   |true=>exact List.any_eq_true.mpr ⟨h,List.mem_filter.mpr ⟨hm,f⟩,by simp⟩
   |false=>
    rw[any_eq_false];intro x hx;have:=(List.mem_filter.mp hx).2;intro e;have e:(x:Int)=(h:Int):=by simpa using e
    have e:x=h:=by omega
    rw[e,f]at this;cases this
  rw[z];generalize oneD w l hv c ps ts hs=O at *;generalize faW ps ts h=r at *;simp[bV,aR,gE,az,awT,a,o5,i,g]
theorem B7(s b:Int):bV [oneD w l hv c ps ts hs,ptT s b]=some (.bool (ka (ptT s b) (t7 ps ts hs))):=by
 have i1:=FG ts s;have i2:=FG hs b;have a:=IE;have o4:=mD w l hv c ps ts hs;have o5:=mC w l hv c ps ts hs;rw[Hv];cases q1:ts.any fun t=>((t:Nat):Int)==s with
 |false=>
  rw[q1]at i1;have z:(ts.any fun t=>(((t:Nat):Int)==s)&&(hs.filter fun h=>hasB t h).any fun h=>((h:Nat):Int)==b)=false:=by
   rw[any_eq_false]at q1 ⊢;intro x hx e;exact q1 x hx (Bool.and_eq_true_iff.mp e).1
  rw[z];generalize oneD w l hv c ps ts hs=O at *;simp[bV,aR,gE,az,ptT,a,o4,i1]
 |true=>
  rw[q1]at i1;cases q2:hs.any fun h=>((h:Nat):Int)==b with
  |false=>
   rw[q2]at i2;have z:(ts.any fun t=>(((t:Nat):Int)==s)&&(hs.filter fun h=>hasB t h).any fun h=>((h:Nat):Int)==b)=false:=by
    rw[any_eq_false]at q2 ⊢;intro x hx e;obtain⟨h,hm,hb⟩:=List.any_eq_true.mp (Bool.and_eq_true_iff.mp e).2;exact q2 h (List.mem_filter.mp hm).1 hb
   rw[z];generalize oneD w l hv c ps ts hs=O at *;simp[bV,aR,gE,az,ptT,a,o4,o5,i1,i2]
  |true=>
   rw[q2]at i2;obtain⟨t,tm,tb⟩:=List.any_eq_true.mp q1;obtain⟨h,hm,hb⟩:=List.any_eq_true.mp q2;have tb:(t:Int)=s:=by simpa using tb
   have hb:(h:Int)=b:=by simpa using hb
   subst tb;subst hb;have g:=gA t h;have z:(ts.any fun x=>(((x:Nat):Int)==(t:Int))&&(hs.filter fun y=>hasB x y).any fun y=>((y:Nat):Int)==(h:Int))=hasB t h:=by
    cases f:hasB t h with
    |true=>exact List.any_eq_true.mpr ⟨t,tm,Bool.and_eq_true_iff.mpr ⟨by simp,List.any_eq_true.mpr ⟨h,List.mem_filter.mpr ⟨hm,f⟩,by simp⟩⟩⟩
    |false=>
     rw[any_eq_false];intro x hx e;obtain⟨e1,e2⟩:=Bool.and_eq_true_iff.mp e;obtain⟨y,ym,yb⟩:=List.any_eq_true.mp e2;have e1:(x:Int)=(t:Int):=by simpa using e1
     have yb:(y:Int)=(h:Int):=by simpa using yb
     have e1:x=t:=by omega
     have yb:y=h:=by omega
     have:=(List.mem_filter.mp ym).2;rw[e1,yb,f]at this;cases this
   rw[z];generalize oneD w l hv c ps ts hs=O at *;generalize hasB t h=r at *;simp[bV,aR,gE,az,ptT,a,o4,o5,i1,i2,g]
end
theorem lA:∀L:List D,(∀d∈L,Stp d)->PyData.canLayAll0 L=true
 |[],_=>rfl
 |d::r,h=>by
  show(PyData.canLay0 d&&PyData.canLayAll0 r)=true;rw[lA r fun x hx=>h x (mem_cons_of_mem _ hx),eA (h d mem_cons_self).shp]
  rfl
theorem zm(L:List D)(s:D)(hs:Stp s)(hL:∀d∈L,Stp d):Hx true s (.list L)=some (.bool (!ka s L)):=by
 show(if shp s=true/\PyData.canLayAll0 L=true then some (PyData.bool (if true=true then !ka s L else ka s L))else none)=_;rw[if_pos ⟨hs.shp,lA L hL⟩,if_pos rfl]
theorem e9:um (.int 10) (.int 9)=some (.int 1000000000):=rfl
theorem wj(ns:List Int)(lo hi:Option Int):∃ms:List Int,ms.length<=ns.length/\ue (.list (ns.map .int)) lo hi=some (.list (ms.map .int)):=by
 refine⟨(ns.drop (HT.sIx ns.length 0 lo)).take (HT.sIx ns.length ns.length hi-HT.sIx ns.length 0 lo),?_,?_⟩
 ·rw[List.length_take,List.length_drop];omega
 ·show some (PyData.list (cutD _ _ _))=_
  unfold cutD;rw[length_map,<-List.map_drop,<-List.map_take]
theorem q8{hs:List Nat}{h:Nat}(m:h∈hs):(hs.any fun x=>((x:Nat):Int)==(h:Int))=true:=List.any_eq_true.mpr ⟨h,m,by simp⟩
theorem zy(w l:Nat)(hv:Int)(c:Nat)(ps:List (Nat×Int)){ts hs:List Nat}{t h:Nat}(ht:t∈ts)(hh:h∈hs):bV [oneD w l hv c ps ts hs,ptT (t:Int) (h:Int)]=some (.bool (hasB t h)):=by
 have i1:=FG ts (t:Int);have i2:=FG hs (h:Int);rw[q8 ht]at i1;rw[q8 hh]at i2;have a:=IE;have o4:=mD w l hv c ps ts hs;have o5:=mC w l hv c ps ts hs;have g:=gA t h;generalize oneD w l hv c ps ts hs=O at *;generalize hasB t h=r at *;simp[bV,aR,gE,az,ptT,a,o4,o5,i1,i2,g]
theorem rq(O R:D)(t h:Int)(f:bV [O,ptT t h]=some (.bool true))(g:jG [O,.int t,.int h]=some R):bO [O,ptT t h]=some R:=by
 have a:=IE;unfold ptT at *;simp[bO,aR,iL,az,a,f,g]
theorem xv{w l:Nat}{hv:Int}{c:Nat}{ps:List (Nat×Int)}{ts hs:List Nat}{h:Nat}(hh:h∈hs)(ht:ts.length<=1000)(hp:ps.length<=1000):bV [oneD w l hv c ps ts hs,awT (h:Int)]=some (.bool (faW ps ts h)):=by
 have i2:=FG hs (h:Int);rw[q8 hh]at i2;have a:=IF;have o5:=mC w l hv c ps ts hs;have g:=qF w l hv c ps ts hs h ht hp;generalize oneD w l hv c ps ts hs=O at *;generalize faW ps ts h=r at *;simp[bV,aR,gE,az,awT,a,o5,i2,g]
theorem pO(O R:D)(h:Int)(f:bV [O,awT h]=some (.bool true))(g:bn [O,.int h]=some R):bO [O,awT h]=some R:=by
 have a:=IF;unfold awT at *;simp[bO,aR,iL,az,a,f,g]
theorem lP(bit ch:Nat):∀ps:As,((cO ps).filter fun p=>hasB p.1 bit).all (fun p=>p.2%2==0)=true->cV (cQ ps bit ch)%2=0
 |[],_=>rfl
 |p::ps,h=>by
  have e0:cO (p::ps)=(p.1,(p.2:Int))::cO ps:=rfl;rw[e0]at h;cases q:hasB p.1 bit with
  |true=>
   rw[filter_cons_of_pos (by simp[q]),all_cons,Bool.and_eq_true]at h;have ih:=lP bit ch ps h.2;have h1:(p.2:Int)%2=0:=by simpa using h.1
   rw[Cz ps ch q];show((p.2:Int)+cV (cQ ps bit ch))%2=0;omega
  |false=>
   rw[filter_cons_of_neg (by simp[q])]at h;rw[CA ps ch q];exact lP bit ch ps h
theorem CY{k:Nat}:∀{Q:List (Nat×Int)},kv k Q≠0->∃q∈Q,hb q.1=k
 |[],h=>absurd rfl h
 |q::Q,h=>by
  by_cases z:hb q.1=k
  ·exact⟨q,mem_cons_self,z⟩
  ·have h:(if hb q.1=k then he q.1 q.2 else 0)+kv k Q≠0:=h
   rw[if_neg z,zero_add]at h;obtain⟨p,hp,e⟩:=CY h;exact⟨p,mem_cons_of_mem _ hp,e⟩
theorem qz{Q:List (Nat×Int)}(hQ:∀q∈Q,q.1<cg){k:Nat}(h0:0<k)(h:kv k Q≠0):2<=k/\k%2=0/\k<cg:=by
 obtain⟨q,hq,rfl⟩:=CY h;have:=HE (hQ q hq);unfold hb at h0 ⊢;unfold hb at this;omega
theorem yr{R:As}{f:Nat->Int}(h:RR R f)(hf:∀k,0<k->f k≠0->2<=k/\k%2=0/\k<cg):∀p∈R,2<=p.1/\p.1%2=0/\p.1<cg/\1<=p.2/\p.2<=7:=fun p hp=>by
 obtain⟨h0,h1⟩:=h.nz p hp;have v:=h.val p.1 h0;rw[iW (mL h.pk) hp]at v;have:=hf p.1 h0 (fun z=>by rw[z]at v;omega);omega
theorem Cy{ps:As}{bit ch:Nat}(hp:∀p∈ps,p.1<cg)(hc:ch<cg):∀q∈ps.map (xb bit ch),q.1<cg:=fun q hq=>by
 obtain⟨p,h,rfl⟩:=List.mem_map.mp hq;unfold xb;dsimp only;split
 ·exact lK (hp p h) hc
 ·exact hp p h
theorem Dd{ps:As}{bit ch:Nat}(hp:∀p∈ps,p.1<cg)(hc:ch<cg):∀q∈cQ ps bit ch,q.1<cg:=fun q hq=>by
 unfold cQ at hq;obtain⟨p,h,rfl⟩:=List.mem_map.mp hq;exact lK (hp p (List.mem_filter.mp h).1) hc
theorem vx:∀(Q:List (Nat×Int)) (x:Nat),x<cg->(∀q∈Q,q.1<cg)->op x Q<cg
 |[],x,h,_=>h
 |q::Q,x,h,hQ=>by
  refine vx Q _ ?_ fun p hp=>hQ p (mem_cons_of_mem _ hp)
  split
  ·exact lK h (hQ q mem_cons_self)
  ·exact h
theorem rP{b:Nat}(h:b<900):2^b<cg:=Nat.pow_lt_pow_right (by decide) (by omega)
theorem sP{hs:List Nat}{bit:Nat}(h:bit∈hs):(kc hs bit).length<hs.length:=by
 unfold kc;exact List.length_filter_lt_length_iff_exists.mpr ⟨bit,h,by simp⟩
theorem zo{hs:List Nat}(h:hs.Pairwise (· < ·))(bit:Nat):(kc hs bit).Pairwise (· < ·):=h.filter _
structure Su where
 hv:Int
 c:Nat
 ps:As
 ts:List Nat
 hs:List Nat
noncomputable def suD(w l:Nat)(s:Su):D:=oneD w l s.hv s.c (cO s.ps) s.ts s.hs
def iy(w l:Nat)(s:Su):Prop:=Sm w l s.hv s.c s.ps s.ts s.hs 5 (17-s.hs.length)
theorem Sm.more{w l:Nat}{hv:Int}{c:Nat}{ps:As}{ts hs:List Nat}{n m m':Nat}(S:Sm w l hv c ps ts hs n m)(h:m<=m'):Sm w l hv c ps ts hs n m':=⟨S.w1,S.w3,S.l2,S.c8,S.pk,S.pe,le_trans S.pl h,S.tk,S.te,le_trans S.tl h,S.hl,S.pw,S.hb⟩
noncomputable def gY(s:Su):List D:=t7 (cO s.ps) s.ts s.hs
structure Go (w l:Nat) (s:Su) (x:D) (s':Su):Prop where
 ok:iy w l s'
 less:s'.hs.length<s.hs.length
 g:bO [suD w l s,x]=some (suD w l s')
 lw:ba [suD w l s,x]=some (suD w l s')
theorem EF(O R:D)(h:Int)(g:bq [O,.int h]=some R):ba [O,awT h]=some R:=by
 have k:=IF;simp[ba,aR,dD,az,awT,k,g]
theorem EE(O R:D)(t h:Int)(g:cz [O,.int t,.int h]=some R):ba [O,ptT t h]=some R:=by
 have k:=IE;simp[ba,aR,dD,az,ptT,k,g]
theorem HG{w l:Nat}{s:Su}(S:iy w l s){bit:Nat}(hbit:bit∈s.hs)(hf:faW (cO s.ps) s.ts bit=true):∃s',Go w l s (awT (bit:Int)) s':=by
 obtain⟨hv,c,ps,ts,hs⟩:=s;have S:Sm w l hv c ps ts hs 5 (17-hs.length):=S;have hbit:bit∈hs:=hbit;have hf:faW (cO ps) ts bit=true:=hf;have hb9:=(S.hb bit hbit).2;have tl:=S.tl;have pl:=S.pl;have hl:=S.hl;have ev:((cO ps).filter fun p=>hasB p.1 bit).all (fun p=>p.2%2==0)=true:=by
  unfold faW at hf;split at hf
  ·cases hf
  ·exact hf
 obtain⟨hv',c',R,ss,a1,a2,a3,a4⟩:=B6 S (by omega) (by omega) bit (by omega);obtain⟨hv'',c'',R',ss',b1,b2⟩:=sH S (by omega) (by omega) bit (by omega) (lP bit _ ps ev);obtain⟨rfl,rfl,rfl,rfl⟩:=a1.one b1;have f:=xv (w:=w) (l:=l) (hv:=hv) (c:=c) (ps:=cO ps) hbit (ts:=ts) (by omega) (by rw[pJ];omega);rw[hf]at f;have hx:=sP hbit;have plt:∀p∈ps,p.1<cg:=fun p hp=>(S.pe p hp).2.2.1
 have l1:=Cy (bit:=bit) plt (rP hb9);have l2:=Dd (bit:=bit) plt (rP hb9);have l3:=vx _ 0 (by unfold cg;exact Nat.pow_pos (by decide)) l2;have sm:Sm w l hv' c' R ss (kc hs bit) 5 (17-(kc hs bit).length):=by
  have base:∀(hpk:(ax R).Pairwise (· < ·)) (hpe:∀p∈R,2<=p.1/\p.1%2=0/\p.1<cg/\1<=p.2/\p.2<=7) (hc:c'<8) (htk:ss.Pairwise (· < ·)) (hte:∀t∈ss,0<t/\t<cg),Sm w l hv' c' R ss (kc hs bit) 5 (17-(kc hs bit).length):=fun hpk hpe hc htk hte=>
   ⟨S.w1,S.w3,S.l2,hc,hpk,hpe,by omega,htk,hte,by omega,by omega,zo S.pw bit,fun h hh=>S.hb h (List.mem_filter.mp hh).1⟩
  by_cases q:cV (cQ ps bit (2^bit))%4=0
  ·obtain⟨e1,e2,e3⟩:=a1.a q
   refine base e2.pk (yr e2 fun k h0 h=>qz l1 h0 h) (by omega) e3.pw fun t ht=>?_
   obtain⟨m1,m2⟩:=(e3.mem t).mp ht;refine⟨m2,?_⟩;unfold xS at m1;rcases List.mem_append.mp m1 with m1|m1
   ·exact(S.te t m1).2
   ·rw[List.mem_singleton.mp m1]
    refine lK l3 ?_;have:(cV (cQ ps bit (2^bit))%8/4).toNat<2:=by omega
    exact Nat.lt_trans this (by unfold cg;exact Nat.lt_of_lt_of_le (by decide:2<2^2) (Nat.pow_le_pow_right (by decide) (by decide)))
  ·obtain⟨e1,e2,e3⟩:=a1.b q
   subst e3;refine base e2.pk (yr e2 fun k h0 h=>?_) (by omega) S.tk S.te;by_cases z:kv k (ps.map (xb bit (2^bit)))=0
   ·rw[z,zero_add]at h
    exact qz (fun q hq=>by rw[List.mem_singleton.mp hq];exact l3) h0 h
   ·exact qz l1 h0 z
 exact⟨⟨hv',c',R,ss,kc hs bit⟩,sm,hx,pO _ _ _ f a4,EF _ _ _ b2⟩
theorem HF{w l:Nat}{s:Su}(S:iy w l s){tie bit:Nat}(htie:tie∈s.ts)(hbit:bit∈s.hs)(hb:hasB tie bit=true):∃s',Go w l s (ptT (tie:Int) (bit:Int)) s':=by
 obtain⟨hv,c,ps,ts,hs⟩:=s;have S:Sm w l hv c ps ts hs 5 (17-hs.length):=S;have hbit:bit∈hs:=hbit;have htie:tie∈ts:=htie;have tl:=S.tl;have pl:=S.pl;have hl:=S.hl;have tt:=S.te tie htie;obtain⟨T,R,ss,a1,a2,a3,a4,a5,a6⟩:=DY S (by omega) (by omega) tie bit;obtain⟨T',R',ss',b1,b2,b3,b4⟩:=uA S (by omega) (by omega) tie bit tt.2;have e1:T'=T:=by omega
 have e2:R'=R:=b2.one a2 fun k _=>rfl
 have e3:ss'=ss:=b3.one a4 fun t ht=>by
  unfold Aq;rw[mem_map,mem_map];constructor
  ·rintro⟨o,ho,rfl⟩
   refine⟨o,List.mem_filter.mpr ⟨ho,?_⟩,rfl⟩;rw[decide_eq_true_eq];intro z;subst z;unfold xo at ht;rw[hb,if_pos rfl,Nat.xor_self]at ht;omega
  ·rintro⟨o,ho,rfl⟩
   exact⟨o,(List.mem_filter.mp ho).1,rfl⟩
 subst e1 e2 e3;have hx:=sP hbit;have plt:∀p∈ps,p.1<cg:=fun p hp=>(S.pe p hp).2.2.1
 have l1:=Cy (bit:=bit) plt tt.2;have f:=zy w l hv c (cO ps) htie hbit;rw[hb]at f;have sm:Sm w l hv T' R' ss' (kc hs bit) 5 (17-(kc hs bit).length):=by
  refine⟨S.w1,S.w3,S.l2,by omega,a2.pk,yr a2 fun k h0 h=>qz l1 h0 h,by omega,a4.pw,fun t ht=>?_,by omega,by omega,zo S.pw bit,fun h hh=>S.hb h (List.mem_filter.mp hh).1⟩
  obtain⟨m1,m2⟩:=(a4.mem t).mp ht;refine⟨m2,?_⟩;unfold Aq at m1;obtain⟨o,ho,rfl⟩:=List.mem_map.mp m1;have ho:=S.te o (List.mem_filter.mp ho).1;unfold xo;split
  ·exact lK ho.2 tt.2
  ·exact ho.2
 exact⟨⟨hv,T',R',ss',kc hs bit⟩,sm,hx,rq _ _ _ _ f a6,EE _ _ _ _ b4⟩
theorem o9{w l:Nat}{s:Su}(S:iy w l s){x:D}(hx:x∈gY s):∃s',Go w l s x s':=by
 unfold gY t7 at hx;rcases List.mem_append.mp hx with h|h
 ·obtain⟨b,hb,rfl⟩:=List.mem_map.mp h
  obtain⟨h1,h2⟩:=List.mem_filter.mp hb;exact HG S h1 h2
 ·obtain⟨P,hP,h⟩:=List.mem_flatten.mp h
  obtain⟨t,ht,rfl⟩:=List.mem_map.mp hP;unfold puts at h;obtain⟨b,hb,rfl⟩:=List.mem_map.mp h;obtain⟨h1,h2⟩:=List.mem_filter.mp hb;exact HF S ht h1 h2
theorem Cc{d y:D}(hd:Stp d)(hy:Stp y)(h:PyData.eqv d y=true):d=y:=by
 cases hd with
 |aw a=>cases hy with
  |aw b=>
   rw[zK]at h;have:a=b:=by simpa using h
   rw[this]
  |pt s b=>rw[zJ]at h;cases h
 |pt t a=>cases hy with
  |aw b=>rw[zI]at h;cases h
  |pt s b=>
   rw[zH]at h;have:t=s/\a=b:=by simpa using h
   rw[this.1,this.2]
theorem E1{s:Su}{y:D}(hy:Stp y)(h:ka y (gY s)=true):y∈gY s:=by
 unfold ka at h;obtain⟨d,hd,e⟩:=List.any_eq_true.mp h;rw[<-Cc (f8 _ _ _ d hd) hy e];exact hd
theorem zz{w l:Nat}{s:Su}(S:iy w l s){y:D}(hy:Stp y):bV [suD w l s,y]=some (.bool (ka y (gY s))):=by
 have tl:=S.tl;have pl:=S.pl;cases hy with
 |aw b=>exact B8 _ _ _ _ _ _ _ b (by omega) (by rw[pJ];omega)
 |pt t b=>exact B7 _ _ _ _ _ _ _ t b
theorem jk{w l:Nat}{s:Su}(S:iy w l s):cn [suD w l s]=some (.list (gY s))/\bb [suD w l s]=some (.list (gY s)):=by
 have tl:=S.tl;have pl:=S.pl;have hl:=S.hl;exact⟨rp _ _ _ _ _ _ _ (by omega) (by rw[pJ];omega) (by omega),qv _ _ _ _ _ _ _ (by omega) (by rw[pJ];omega) (by omega)⟩
theorem HC:("NoStep":Str)∈iH:=mem_cons_self
theorem zx:ie (ii "stepped")=some "stepped":=pb _
theorem C4:ie (ii "steps_of")=some "steps_of":=pb _
theorem IX(O S:D)(h:bV [O,S]=some (.bool false)):cu [O,S]=some ("NoStep":Str):=by
 simp[cu,wO,gB,az,h]
theorem FP(O S:D)(h:bV [O,S]=some (.bool true)):cu [O,S]=none:=by
 simp[cu,wO,gB,az,h]
theorem G7(C S:D)(z1 z2:Sl)(hx:cu [C,S]=some ("NoStep":Str)):ci [.fz C,z1,z2,.fz (ii "stepped"),.fz S]=some (.rt (.bool false),[.fz C,z1,z2,.fz (ii "stepped"),.fz S]):=by
 simp[ci,rL,mK,zx,hx,HC]
theorem ED(C S C':D)(z1 z2:Sl)(hx:cu [C,S]=none)(hs:bO [C,S]=some C'):ci [.fz C,z1,z2,.fz (ii "stepped"),.fz S]=some (.nx,[.fz C',z1,z2,.fz (ii "stepped"),.fz S]):=by
 simp[ci,rL,mK,gr,zx,hx,hs]
theorem yU(O O' S L:D)(z1:Sl)(g:bb [O]=some L)(hi:Hx true S L=some (.bool false))(h:ba [O,S]=some O'):bL [.fz O,z1,.fz S]=some (.nx,[.fz O',z1,.fz S]):=by
 simp[bL,g,hi,h]
theorem G6(O S L:D)(z1:Sl)(g:bb [O]=some L)(hi:Hx true S L=some (.bool true)):bL [.fz O,z1,.fz S]=some (.rt .none,[.fz O,z1,.fz S]):=by
 simp[bL,g,hi]
theorem CB(w l:Nat)(G:D):∀(ys:List D) (s:Su),(∀y∈ys,Stp y)->iy w l s->∀z1 z2 z4 z5,(∃s' y4 y5,iy w l s'/\loop (gN 4) ci ys [.fz (suD w l s),z1,.fz G,.fz (ii "stepped"),z4]=some (.nx,[.fz (suD w l s'),z1,.fz G,.fz (ii "stepped"),y4])/\loop (gN 2) bL ys [.fz (suD w l s),z2,z5]=some (.nx,[.fz (suD w l s'),z2,y5])) \/
  ∃ δ δ',loop (gN 4) ci ys [.fz (suD w l s),z1,.fz G,.fz (ii "stepped"),z4]=some (.rt (.bool false),δ)/\loop (gN 2) bL ys [.fz (suD w l s),z2,z5]=some (.rt .none,δ')
 |[],s,_,S,z1,z2,z4,z5=>.inl ⟨s,z4,z5,S,rfl,rfl⟩
 |y::ys,s,hy,S,z1,z2,z4,z5=>by
  have h0:=hy y mem_cons_self;have f:=zz S h0;have ig:=zm (gY s) y h0 (f8 _ _ _);have ls:=(jk S).2;cases e:ka y (gY s)with
  |true=>
   rw[e]at f ig;obtain⟨s',go⟩:=o9 S (E1 h0 e);have a:=ED _ _ _ z1 (.fz G) (FP _ _ f) go.g;have b:=yU _ _ _ _ z2 ls ig go.lw;rw[bN (δ1:=[.fz (suD w l s),z1,.fz G,.fz (ii "stepped"),.fz y]) (by rfl) a,bN (δ1:=[.fz (suD w l s),z2,.fz y]) (by rfl) b];exact CB w l G ys s' (fun x hx=>hy x (mem_cons_of_mem _ hx)) go.ok z1 z2 _ _
  |false=>
   rw[e]at f ig;have a:=G7 _ _ z1 (.fz G) (IX _ _ f);have b:=G6 _ _ _ z2 ls ig;exact .inr ⟨_,_,sy (δ1:=[.fz (suD w l s),z1,.fz G,.fz (ii "stepped"),.fz y]) (by rfl) a,sy (δ1:=[.fz (suD w l s),z2,.fz y]) (by rfl) b⟩
theorem Fa{d:D}(h:Stp d):PyData.depth d<=2:=by cases h<;>simp[awT,ptT,PyData.depth,PyData.depthAll]
theorem uM:∀L:List D,(∀d∈L,Stp d)->PyData.depthAll L<=2
 |[],_=>by simp[PyData.depthAll]
 |d::L,h=>by
  have a:=Fa (h d mem_cons_self);have b:=uM L fun x hx=>h x (mem_cons_of_mem _ hx)
  simp only[PyData.depthAll];omega
inductive Rn (w l:Nat):Su->List D->Su->Prop
 |nil (s:Su):Rn w l s [] s
 |cons {s s' s'':Su} {x:D} {xs:List D}:x∈gY s->Go w l s x s'->Rn w l s' xs s''->Rn w l s (x::xs) s''
theorem CT{L:List D}(h:∀d∈L,Stp d):neD (.list L) (.list [])=some (.bool (!L.isEmpty)):=by
 have h1:shp (.list L)=true:=by
  have:=lA L h;have hd:PyData.depthAll L<=2:=uM L h;show(PyData.canLay0 (.list L)&&decide (PyData.depth (.list L)<=64))=true;have e1:PyData.canLay0 (.list L)=PyData.canLayAll0 L:=by simp[PyData.canLay0]
  have e2:PyData.depth (.list L)<=64:=by simp[PyData.depth];omega
  rw[e1,this,decide_eq_true e2];rfl
 have h2:shp (.list ([]:List D))=true:=by rfl
 unfold neD;rw[if_pos ⟨h1,h2⟩];cases L with
 |nil=>rfl
 |cons r rs=>simp[PyData.eqv,PyData.eqvAll]
theorem Hh(z0 z1 z2 z3:Sl)(L:D)(b:Bool)(h:neD L (.list [])=some (.bool b)):fO [z0,z1,z2,z3,.fz L]=some b:=by
 simp[fO,h]
theorem JQ(C C' S L L':D)(ds:List D)(hs:aB L (.int 0)=some S)(hl:ds.length<sizeLine)(h1:bO [C,S]=some C')(h2:cn [C']=some L'):fS [.fz C,.fz (ii "steps_of"),.fz (ii "stepped"),.ow ds,.fz L]=some (.nx,[.fz C',.fz (ii "steps_of"),.fz (ii "stepped"),.ow (ds++[S]),.fz L']):=by
 simp[fS,gr,zx,C4,hs,hl,h1,h2]
theorem sF(w l:Nat):∀(N:Nat) (s:Su),iy w l s->s.hs.length<=N->N<=100->∀ds:List D,ds.length+N<=1000->∃xs s' y,Rn w l s xs s'/\(xs.length<=N/\iy w l s'/\gY s'=[])/\fN fO fS (N+1) [.fz (suD w l s),.fz (ii "steps_of"),.fz (ii "stepped"),.ow ds,.fz (.list (gY s))]=some (.nx,[.fz (suD w l s'),.fz (ii "steps_of"),.fz (ii "stepped"),.ow (ds++xs),y])
 |N,s,S,hN,hn,ds,hd=>by
  have st:=f8 (cO s.ps) s.ts s.hs;cases e:gY s with
  |nil=>exact⟨[],s,.fz (.list []),.nil s,⟨Nat.zero_le _,S,e⟩,by rw[tS N (Hh _ _ _ _ _ _ (CT (L:=[]) (fun _ h=>nomatch h)))];simp⟩
  |cons x zs=>
   have hx:x∈gY s:=by rw[e];exact mem_cons_self
   obtain⟨s',go⟩:=o9 S hx;have less:=go.less;cases N with
   |zero=>omega
   |succ N=>
    obtain⟨xs,s'',y,hr,⟨h1,h2⟩,lp⟩:=sF w l N s' go.ok (by omega) (by omega) (ds++[x]) (by simp;omega);refine⟨x::xs,s'',y,.cons hx go hr,⟨by simp;omega,h2⟩,?_⟩;have step:=JQ (suD w l s) (suD w l s') x (.list (x::zs)) _ ds (KQ _ _) (by show _<16777216;omega) go.g (jk go.ok).1;have nn:=CT (L:=x::zs) (fun d hd=>by rw[<-e]at hd;exact st d hd);rw[xM (N+1) (Hh _ _ _ _ _ _ nn) step lp];simp
theorem De(C L C':D)(ds:List D)(y:Sl)(h:cn [C]=some L)(lp:fN fO fS wN [.fz C,.fz (ii "steps_of"),.fz (ii "stepped"),.ow [],.fz L]=some (.nx,[.fz C',.fz (ii "steps_of"),.fz (ii "stepped"),.ow ds,y])):fI [C]=some (.tuple [.list ds,C']):=by
 have k:fV [C,ii "steps_of",ii "stepped"]=some (.tuple [.list ds,C']):=by simp[-ap,-bH,aM,bd,fV,aR,nH,az,gr,C4,h,lp,jM]
 simp[-ap,-bH,aM,bd,fI,aR,uU,az,k]
theorem Ar{w l:Nat}{s:Su}(S:iy w l s):∃xs s',Rn w l s xs s'/\(xs.length<=100/\iy w l s'/\gY s'=[])/\fI [suD w l s]=some (.tuple [.list xs,suD w l s']):=by
 have hl:=S.hl;obtain⟨xs,s',y,hr,hx,e⟩:=sF w l 100 s S (by omega) (Nat.le_refl _) [] (by simp);rw[List.nil_append]at e;exact⟨xs,s',hr,hx,De _ _ _ _ y (jk S).1 (iV e (by show 101<=1000000;decide))⟩
theorem DR{w l:Nat}{s s':Su}{xs:List D}(r:Rn w l s xs s'):∀x∈xs,Stp x:=by
 induction r with
 |nil s=>exact fun _ h=>nomatch h
 |cons hx go r ih=>
  intro y hy;rcases List.mem_cons.mp hy with rfl|hy
  ·exact f8 _ _ _ y hx
  ·exact ih y hy
theorem A9{w l:Nat}{s s':Su}{xs:List D}(r:Rn w l s xs s'):iy w l s->∀z1 z2,∃y,loop (gN 2) bL xs [.fz (suD w l s),z1,z2]=some (.nx,[.fz (suD w l s'),z1,y]):=by
 induction r with
 |nil s=>exact fun _ z1 z2=>⟨z2,rfl⟩
 | @cons s s' s'' x xs hx go r ih=>
  intro S z1 z2;obtain⟨y,e⟩:=ih go.ok z1 (.fz x);have ig:=zm (gY s) x (f8 _ _ _ x hx) (f8 _ _ _);have:ka x (gY s)=true:=List.any_eq_true.mpr ⟨x,hx,by
   have:=(f8 _ _ _ x hx).ne;unfold neD at this;split at this
   ·have:(!PyData.eqv x x)=false:=by simpa using this
    simpa using this
   ·cases this⟩
  rw[this]at ig;exact⟨y,by rw[bN (δ1:=[.fz (suD w l s),z1,.fz x]) (by rfl) (yU _ _ _ _ z1 (jk S).2 ig go.lw)];exact e⟩
noncomputable def DJ:Sf:=fun δ=>(eL 0 (Ev (ag (oV 0) (ar)))) (jM 0 δ)
noncomputable def AR:Sf:=bH (ob (o2 (o2 (oV 2) (oC (.int 7)) aK) (oC (.int 1)) cN)) (aI 1 (o2 (VL.os (ag (o2 (oV 1) (oC (.int 0)) aB) (ag (o2 (oV 1) (oC (.int 1)) aB) (ag (o2 (o2 (o2 (oV 1) (oC (.int 2)) aB) (oC (.int 1)) aL) (oC (.int 8)) aK) (ar)))) bw) (nN (oV 1) (oP (oC (.int 3))) (se)) aL)) (dS)
noncomputable def yf:Sf:=bH (ob (o2 (o2 (oV 2) (oC (.int 7)) aK) (oC (.int 6)) cN)) (ap (eL 3 (wY (dw))) (ap (bH (ob (o2 (ju 3) (VL.os (ag (o2 (oV 1) (oC (.int 4)) aB) (ar)) iO) cN)) (yp 3 (oC (.int 2))) (dS)) (fun δ=>(aI 1 (o2 (nN (oV 1) (se) (oP (oC (.int 4)))) (VL.os (ag (VL.os (ag (o1 (oV 3) oF) (ar)) bJ) (ag (o2 (oV 1) (oC (.int 5)) aB) (ar))) bw) aL)) (jM 3 δ)))) (dS)
noncomputable def ye:Sf:=bH (ob (o2 (o2 (oV 2) (oC (.int 7)) aK) (oC (.int 0)) cN)) (ap (aI 4 (nN (o2 (oV 1) (oC (.int 3)) aB) (oP (oC (.int 1))) (se))) (ap (bH (ob (o2 (o2 (oV 1) (oC (.int 3)) aB) (VL.os (ar) bw) cN)) (aI 4 (VL.os (ag (VL.os (ag (oC (.int 2)) (ag (o2 (oC (.int 1)) (o2 (o2 (oV 2) (oC (.int 7)) cX) (oC (.int 7)) aK) aL) (ar))) bw) (ar)) bw)) (dS)) (aI 1 (o2 (o2 (nN (oV 1) (se) (oP (oC (.int 3)))) (VL.os (ag (oV 4) (ar)) bw) aL) (nN (oV 1) (oP (oC (.int 4))) (se)) aL)))) (dS)
noncomputable def AQ:Sf:=bH (ob (o2 (o2 (oV 2) (oC (.int 7)) aK) (oC (.int 2)) cN)) (yn 0 (o2 (o2 (oV 2) (oC (.int 7)) cX) (o2 (ju 0) (oC (.int 1)) aL) aK) (VL.os (ag (oC (.str "put")) (ag (oC (.int 0)) (ag (oC (.int 0)) (ar)))) bw)) (dS)
noncomputable def ub:Sf:=bH (ob (o2 (ju 0) (oC (.int 0)) uH)) (ap (aI 5 (o2 (o2 (oV 2) (oC (.int 7)) cX) (ju 0) aK)) (ap (bH (ob (o2 (o2 (oV 2) (oC (.int 7)) aK) (oC (.int 3)) cN)) (DO 0 (oV 5)) (dS)) (ap (bH (ob (o2 (o2 (oV 2) (oC (.int 7)) aK) (oC (.int 4)) cN)) (yn 0 (oV 5) (Ew 0 (oV 5))) (dS)) (bH (ob (o2 (o2 (oV 2) (oC (.int 7)) aK) (oC (.int 5)) cN)) (ap (fun δ=>(eL 6 (wY (nN (oV 0) (oP (oV 5)) (oP (o2 (oV 5) (oC (.int 2)) aL))))) (jM 0 δ)) (ap (DN 6) (fun δ=>(aI 0 (o2 (o2 (nN (oV 0) (se) (oP (oV 5))) (oV 6) aL) (nN (oV 0) (oP (o2 (oV 5) (oC (.int 2)) aL)) (se)) aL)) (jM 6 δ)))) (dS))))) (dS)
noncomputable def AO:Sf:=fun δ=>(bA (VL.os (ag (oV 0) (ag (oV 1) (ar))) bw)) (jM 0 δ)
theorem Gg:fM=ap DJ (ap AR (ap yf (ap ye (ap AQ (ap ub (AO)))))):=rfl
theorem vf{L:List D}(h:∀d∈L,Stp d):MA.Sh 3 (.list L):=by
 have a:=lA L h;have b:=uM L h;refine⟨by simpa[PyData.canLay0]using a,?_⟩;simp[PyData.depth];omega
theorem rG{k k':Nat}{d:D}(h:MA.Sh k d)(hk:k<=k'):MA.Sh k' d:=⟨h.1,le_trans h.2 hk⟩
theorem AX(hs:List Nat):MA.Sh 1 (.tuple (ao hs)):=MA.Sh.tuple fun x hx=>by
 obtain⟨h,_,rfl⟩:=List.mem_map.mp hx;exact MA.Sh.int 0 _
theorem DL(ps:List (Nat×Int)):MA.Sh 2 (.tuple (ps.map prD)):=MA.Sh.tuple fun x hx=>by
 obtain⟨p,_,rfl⟩:=List.mem_map.mp hx;exact MA.Sh.tuple fun y hy=>by
  simp only[mem_cons,not_mem_nil,or_false]at hy;rcases hy with rfl|rfl<;>exact MA.Sh.int 0 _
structure Lst (n:Nat) (d:D):Prop where
 ex:∃(A0 A5:D) (hv c:Int) (PL:List D) (is:List Int),d=.tuple [A0,.int hv,.int c,.tuple PL,.tuple (is.map .int),A5]/\MA.Sh 3 A0/\MA.Sh 3 A5/\MA.Sh 3 (.tuple PL)/\is.length<=n
theorem AY(is:List Int):MA.Sh 1 (.tuple (is.map .int)):=MA.Sh.tuple fun x hx=>by
 obtain⟨h,_,rfl⟩:=List.mem_map.mp hx;exact MA.Sh.int 0 _
theorem Lst.sh{n:Nat}{d:D}(h:Lst n d):MA.Sh 4 d:=by
 obtain⟨A0,A5,hv,c,PL,is,rfl,a,b,p,_⟩:=h.ex;refine MA.Sh.tuple fun x hx=>?_
 simp only[mem_cons,not_mem_nil,or_false]at hx;rcases hx with rfl|rfl|rfl|rfl|rfl|rfl
 ·exact a
 ·exact MA.Sh.int 3 _
 ·exact MA.Sh.int 3 _
 ·exact p
 ·exact rG (AY is) (by decide)
 ·exact b
theorem oQ(hs:List Nat):ao hs=(hs.map fun h:Nat=>((h:Nat):Int)).map PyData.int:=by unfold ao;rw[map_map];rfl
theorem qm{w l:Nat}{s:Su}(S:iy w l s):Lst 20 (suD w l s):=by
 have tl:=S.tl;refine⟨.tuple [.int (w:Int),.int (l:Int)],.tuple (ao s.hs),s.hv,s.c,_,s.ts.map fun h:Nat=>((h:Nat):Int),?_,?_,?_,rG (DL (cO s.ps)) (by decide),by rw[length_map];omega⟩
 ·rw[<-oQ];rfl
 ·exact rG (MA.Sh.tuple (k:=0) fun y hy=>by
   simp only[mem_cons,not_mem_nil,or_false]at hy;rcases hy with rfl|rfl<;>exact MA.Sh.int 0 _) (by decide)
 ·exact rG (AX s.hs) (by decide)
theorem uL{a b:D}{k j:Nat}(h:MA.Sh k a)(hk:k<=64)(h2:MA.Sh j b)(hj:j<=64):cN a b=some (.bool (PyData.eqv a b)):=by
 have s1:shp a=true:=by show(a.canLay0&&decide (a.depth<=64))=true;rw[h.1,decide_eq_true (le_trans h.2 hk)];rfl
 have s2:shp b=true:=by show(b.canLay0&&decide (b.depth<=64))=true;rw[h2.1,decide_eq_true (le_trans h2.2 hj)];rfl
 exact if_pos ⟨s1,s2⟩
theorem HZ(O L G:D)(ds:List D)(fl:Fl)(δ:Dv)(r:D)(hL:L=.list ds)(lp:loop (gN 4) ci ds [.fz O,.fz L,.fz G,.fz (ii "stepped"),.un]=some (fl,δ))(h:(fl=.rt r)\/∃O' y,fl=.nx /\ δ = [.fz O',.fz L,.fz G,.fz (ii "stepped"),y]/\cN O' G=some r):bQ [O,L,G]=some r:=by
 subst hL;have k:cW [O,.list ds,G,ii "stepped"]=some r:=by
  rcases h with rfl|⟨O',y,rfl,rfl,e⟩
  ·simp[-ap,-bH,aM,bd,cW,aR,gD,az,lp]
  ·simp[-ap,-bH,aM,bd,cW,aR,gD,az,lp,e]
 simp[-ap,-bH,aM,bd,bQ,aR,eS,az,k]
theorem EC(O:D)(ds:List D)(fl:Fl)(δ:Dv)(r:D)(lp:loop (gN 2) bL ds [.fz O,.fz (.list ds),.un]=some (fl,δ))(h:(fl=.rt r)\/∃y,fl=.nx /\ δ = [.fz r,.fz (.list ds),y]):bo [O,.list ds]=some r:=by
 rcases h with rfl|⟨y,rfl,rfl⟩
 ·simp[-ap,-bH,aM,bd,bo,aR,fC,az,lp]
 ·simp[-ap,-bH,aM,bd,bo,aR,fC,az,lp]
theorem Ih(O G W:D)(ys:List D)(b:Bool)(cs:bQ [O,.list ys,G]=some (.bool b))(lw:bo [O,.list ys]=some W)(e:cN W G=some (.bool b))(es:cN (.list ys) (.list ys)=some (.bool true))(hl:oU [.list ys]=some (.list ys)):aV [O,.list ys,G]=some (.bool true):=by
 have i:fT "bool" (.bool b)=some (.bool true):=rfl;simp[-ap,-bH,aM,bd,aV,aR,en,az,hl,cs,lw,e,es,i]
theorem tF{w l:Nat}{s:Su}(S:iy w l s){ys:List D}(hy:∀y∈ys,Stp y)(hl:ys.length<=1000){n:Nat}{G:D}(hG:Lst n G):aV [suD w l s,.list ys,G]=some (.bool true):=by
 have es:=Cd (vf hy) (by decide);have hls:oU [.list ys]=some (.list ys):=by rfl
 rcases CB w l G ys s hy S (.fz (.list ys)) (.fz (.list ys)) .un .un with⟨s',y4,y5,S',a,b⟩|⟨δ,δ',a,b⟩
 ·have e:=uL (qm S').sh (by decide) hG.sh (by decide)
  exact Ih _ _ _ ys _ (HZ _ _ _ _ _ _ _ rfl a (.inr ⟨_,_,rfl,rfl,e⟩)) (EC _ _ _ _ _ b (.inr ⟨_,rfl,rfl⟩)) e es hls
 ·have e:cN .none G=some (.bool false):=by
   have h0:MA.Sh 0 PyData.none:=⟨by simp[PyData.canLay0],by simp[PyData.depth]⟩;rw[uL h0 (by decide) hG.sh (by decide)];obtain⟨_,_,_,_,_,_,rfl,_⟩:=hG.ex;rfl
  exact Ih _ _ _ ys _ (HZ _ _ _ _ _ _ _ rfl a (.inl rfl)) (EC _ _ _ _ _ b (.inl rfl)) e es hls
theorem Li(n:Nat)(d:Nat){a:Nat}(h:a<=n):HT.sIx n d (some (a:Int))=a:=by
 simp only[HT.sIx];rw[if_neg (by omega)];omega
theorem p4(c:Int)(n:Nat)(h:0<n):∃a:Nat,a<n/\aK (.int c) (.int (n:Int))=some (.int (a:Int))/\c%(n:Int)=a:=by
 have hk:=jw (i:=c) (show(0:Int)<(n:Int) by omega);have a1:=Int.emod_nonneg c (show(n:Int)≠0 by omega);have a2:=Int.emod_lt_of_pos c (show(0:Int)<(n:Int) by omega);obtain⟨k,ek⟩:∃k:Nat,c%(n:Int)=k:=⟨_,(toNat_of_nonneg a1).symm⟩;rw[ek]at hk a2;exact⟨k,by omega,hk,ek⟩
theorem qk{L:List D}{lo hi:Option Int}{x:D}(h:x∈cutD L lo hi):x∈L:=List.mem_of_mem_drop (List.mem_of_mem_take h)
theorem qL(L:List D)(lo hi:Option Int):(cutD L lo hi).length<=L.length:=by
 unfold cutD;rw[List.length_take,List.length_drop];omega
noncomputable def Lst.mono{n m:Nat}{d:D}(h:Lst n d)(hm:n<=m):Lst m d:=by
 obtain⟨A0,A5,hv,c,PL,is,e,a,b,p,q⟩:=h.ex;exact⟨A0,A5,hv,c,PL,is,e,a,b,p,le_trans q hm⟩
theorem Gm{k:Nat}{x:D}{L:List D}(h:MA.Sh k (.tuple (x::L))):MA.Sh k (.tuple L):=by
 obtain⟨a,b⟩:=h;simp[PyData.canLay0,PyData.canLayAll0,PyData.depth,PyData.depthAll]at a b ⊢;exact⟨by simpa[PyData.canLay0]using a.2,by simp[PyData.depth];omega⟩
section
variable(c:Int)(ys:List D)
theorem Lh(g t z3 z4 z5 z6:Sl):DJ [.fz (.list ys),g,t,z3,z4,z5,z6]=some (.nx,[.ow ys,g,t,z3,z4,z5,z6]):=by
 simp[DJ,jM,Ev]
theorem Lg{n:Nat}{G:D}(hG:Lst n G)(z3 z4 z5 z6:Sl):∃G',Lst n G'/\AR [.ow ys,.fz G,.fz (.int c),z3,z4,z5,z6]=some (.nx,[.ow ys,.fz G',.fz (.int c),z3,z4,z5,z6]):=by
 by_cases h:c%7=1
 ·obtain⟨A0,A5,hv,k,PL,is,rfl,a,b,p,q⟩:=hG.ex
  refine⟨.tuple [A0,.int hv,.int ((k+1)%8),.tuple PL,.tuple (is.map .int),A5],⟨A0,A5,hv,_,PL,is,rfl,a,b,p,q⟩,?_⟩;have e3:ue (.tuple [A0,.int hv,.int k,.tuple PL,.tuple (is.map .int),A5]) (some 3) none=some (.tuple [.tuple PL,.tuple (is.map .int),A5]):=rfl;have ad:aL (.tuple [A0,.int hv,.int ((k+1)%8)]) (.tuple [.tuple PL,.tuple (is.map .int),A5])=some (.tuple [A0,.int hv,.int ((k+1)%8),.tuple PL,.tuple (is.map .int),A5]):=rfl;simp[-ap,-bH,aM,bd,AR,h,e3,ad]
 ·exact⟨G,hG,by simp[-ap,-bH,aM,bd,AR,h]⟩
theorem sN:∀is:List Int,sO (is.map PyData.int)=some is
 |[]=>rfl
 |i::is=>by
  show(sO (is.map PyData.int)).bind _=_;rw[sN is];rfl
theorem oD(is:List Int)(h:is.length<64):oF (.list (is.map .int))=some (.list ((aW is).map .int)):=by
 show(aU _).bind _=_;rw[xk,Option.bind_some,sN,Option.bind_some,if_pos h]
theorem GP(A0 A1 A2 A3 A5:D)(is:List Int)(hl:is.length<=1000)(z0 z2 z3 z4 z5 z6:Sl):dw [z0,.fz (.tuple [A0,A1,A2,A3,.tuple (is.map .int),A5]),z2,z3,z4,z5,z6]=some (.list ((is.filter fun i=>i != 2).map .int)):=by
 unfold dw;have i4:aB (.tuple [A0,A1,A2,A3,.tuple (is.map .int),A5]) (.int 4)=some (.tuple (is.map .int)):=rfl;refine aY (h:=PyData.int) (k:=PyData.int) (xs:=is) (by simp[i4]) (by omega) (fun x _=>?_) fun x _ _=>by simp
 simp[BF,bne]
theorem Lf{n:Nat}(hn:n<=60){G:D}(hG:Lst n G)(z3 z4 z5 z6:Sl):∃G' z3',Lst (n+1) G'/\yf [.ow ys,.fz G,.fz (.int c),z3,z4,z5,z6]=some (.nx,[.ow ys,.fz G',.fz (.int c),z3',z4,z5,z6]):=by
 by_cases h:c%7=6
 ·obtain⟨A0,A5,hv,k,PL,is,rfl,a,b,p,q⟩:=hG.ex
  have pe:=GP A0 (.int hv) (.int k) (.tuple PL) A5 is (by omega) (.ow ys) (.fz (.int c)) z3 z4 z5 z6;have ln:iO [.tuple (is.map PyData.int)]=some (.int (is.length:Int)):=by simp
  have i4:aB (.tuple [A0,.int hv,.int k,.tuple PL,.tuple (is.map .int),A5]) (.int 4)=some (.tuple (is.map .int)):=rfl;have i5:aB (.tuple [A0,.int hv,.int k,.tuple PL,.tuple (is.map .int),A5]) (.int 5)=some A5:=rfl;have e4:ue (.tuple [A0,.int hv,.int k,.tuple PL,.tuple (is.map .int),A5]) none (some 4)=some (.tuple [A0,.int hv,.int k,.tuple PL]):=rfl;have ad:∀x,aL (.tuple [A0,.int hv,.int k,.tuple PL]) (.tuple [x,A5])=some (.tuple [A0,.int hv,.int k,.tuple PL,x,A5]):=fun x=>rfl
  have fl:(is.filter fun i=>i != 2).length<=is.length:=length_filter_le _ _;have tu:∀l:List D,bJ [.list l]=some (.tuple l):=fun l=>rfl
  by_cases g:(is.filter fun i=>i != 2).length=is.length
  ·have s:oF (.list ((is.filter fun i=>i != 2).map PyData.int++[.int 2]))=some (.list ((aW ((is.filter fun i=>i != 2)++[2])).map .int)):=by
    rw[<-oD _ (by rw[length_append];simp only[length_cons,length_nil];omega),map_append];rfl
   have le:(is.filter fun i=>i != 2).length<sizeLine:=by show _<16777216;omega
   refine⟨.tuple [A0,.int hv,.int k,.tuple PL,.tuple ((aW ((is.filter fun i=>i != 2)++[2])).map .int),A5],.fz (.list ((is.filter fun i=>i != 2).map PyData.int++[.int 2])),⟨A0,A5,hv,k,PL,_,rfl,a,b,p,by rw[(cj _).length_eq,length_append];simp only[length_cons,length_nil];omega⟩,?_⟩;generalize (is.filter fun i=>i != 2)=fs at *;have g':((fs.length:Nat):Int)=(is.length:Int):=by omega
   simp[-ap,-bH,aM,bd,yf,h,wY,pe,sx,g',i4,ln,le,jM,s,tu,i5,e4,ad]
   done
  ·have s:=oD (is.filter fun i=>i != 2) (by omega)
   refine⟨.tuple [A0,.int hv,.int k,.tuple PL,.tuple ((aW (is.filter fun i=>i != 2)).map .int),A5],.fz (.list ((is.filter fun i=>i != 2).map PyData.int)),⟨A0,A5,hv,k,PL,_,rfl,a,b,p,by rw[(cj _).length_eq];omega⟩,?_⟩;generalize (is.filter fun i=>i != 2)=fs at *;have g':¬((fs.length:Nat):Int)=(is.length:Int):=by omega
   simp[-ap,-bH,aM,bd,yf,h,wY,pe,sx,g',i4,ln,jM,s,tu,i5,e4,ad]
   done
 ·exact⟨G,z3,hG.mono (by omega),by simp[-ap,-bH,aM,bd,yf,h]⟩
theorem Le{n:Nat}{G:D}(hG:Lst n G)(z3 z4 z5 z6:Sl):∃G' z4',Lst n G'/\ye [.ow ys,.fz G,.fz (.int c),z3,z4,z5,z6]=some (.nx,[.ow ys,.fz G',.fz (.int c),z3,z4',z5,z6]):=by
 by_cases h:c%7=0
 ·obtain⟨A0,A5,hv,k,PL,is,rfl,a,b,p,q⟩:=hG.ex
  have i3:aB (.tuple [A0,.int hv,.int k,.tuple PL,.tuple (is.map .int),A5]) (.int 3)=some (.tuple PL):=rfl;have e3:ue (.tuple [A0,.int hv,.int k,.tuple PL,.tuple (is.map .int),A5]) none (some 3)=some (.tuple [A0,.int hv,.int k]):=rfl;have e4:ue (.tuple [A0,.int hv,.int k,.tuple PL,.tuple (is.map .int),A5]) (some 4) none=some (.tuple [.tuple (is.map .int),A5]):=rfl;have a1:∀x,aL (.tuple [A0,.int hv,.int k]) (.tuple [x])=some (.tuple [A0,.int hv,.int k,x]):=fun x=>rfl
  have a2:∀x,aL (.tuple [A0,.int hv,.int k,x]) (.tuple [.tuple (is.map .int),A5])=some (.tuple [A0,.int hv,.int k,x,.tuple (is.map .int),A5]):=fun x=>rfl
  cases PL with
  |nil=>
   have s1:ue (.tuple []) (some 1) none=some (.tuple []):=rfl;have eq:cN (.tuple []) (.tuple [])=some (.bool true):=by rfl
   refine⟨.tuple [A0,.int hv,.int k,.tuple [.tuple [.int 2,.int (1+c/7%7)]],.tuple (is.map .int),A5],.fz (.tuple [.tuple [.int 2,.int (1+c/7%7)]]),⟨A0,A5,hv,k,_,is,rfl,a,b,rG (MA.Sh.tuple (k:=1) fun y hy=>?_) (by decide),q⟩,?_⟩
   ·rw[List.mem_singleton.mp hy]
    exact MA.Sh.tuple fun y hy=>by
     simp only[mem_cons,not_mem_nil,or_false]at hy;rcases hy with rfl|rfl<;>exact MA.Sh.int 0 _
   ·simp[-ap,-bH,aM,bd,ye,h,i3,s1,eq,e3,e4,a1,a2]
    done
  |cons x PL=>
   have s1:ue (.tuple (x::PL)) (some 1) none=some (.tuple PL):=by
    have:ue (.tuple (x::PL)) (some ((1:Nat):Int)) none=some (.tuple ((x::PL).drop 1)):=by
     show some (PyData.tuple (cutD _ _ _))=_;unfold cutD;have h1:HT.sIx (x::PL).length (x::PL).length none=(x::PL).length:=rfl;rw[h1,Li _ _ (by simp),List.take_of_length_le (by rw[List.length_drop];omega)]
    exact this
   have eq:cN (.tuple (x::PL)) (.tuple [])=some (.bool false):=by
    rw[uL p (by decide) (MA.Sh.tuple (k:=0) (xs:=[]) fun _ h=>nomatch h) (by decide)]
    simp[PyData.eqv,PyData.eqvAll]
   refine⟨.tuple [A0,.int hv,.int k,.tuple PL,.tuple (is.map .int),A5],.fz (.tuple PL),⟨A0,A5,hv,k,_,is,rfl,a,b,Gm p,q⟩,?_⟩;simp[-ap,-bH,aM,bd,ye,h,i3,s1,eq,e3,e4,a1,a2]
   done
 ·exact⟨G,z4,hG,by simp[-ap,-bH,aM,bd,ye,h]⟩
noncomputable def Cw:D:=ptT 0 0
theorem Ld(hy:∀y∈ys,Stp y)(hl:ys.length<=200)(g z3 z4 z5 z6:Sl):∃ys',(∀y∈ys',Stp y)/\ys'.length<=201/\AQ [.ow ys,g,.fz (.int c),z3,z4,z5,z6]=some (.nx,[.ow ys',g,.fz (.int c),z3,z4,z5,z6]):=by
 by_cases h:c%7=2
 ·obtain⟨a,ha,e,e'⟩:=p4 (c/7) (ys.length+1) (by omega)
  have e:aK (.int (c/7)) (.int ((ys.length:Int)+1))=some (.int a):=e;have e':c/7%((ys.length:Int)+1)=a:=e';have k:(0:Int)<=(a:Int)/\(a:Int).toNat<=ys.length/\ys.length<sizeLine:=⟨by omega,by omega,by show _<16777216;omega⟩;refine⟨ys.take a++Cw::ys.drop a,fun y hh=>?_,by simp;omega,?_⟩
  ·rcases List.mem_append.mp hh with hh|hh
   ·exact hy y (List.mem_of_mem_take hh)
   ·rcases List.mem_cons.mp hh with rfl|hh
    ·exact .pt 0 0
    ·exact hy y (List.mem_of_mem_drop hh)
  ·simp[-ap,-bH,aM,bd,AQ,h,e,e',k,Cw,ptT]
   omega
 ·exact⟨ys,hy,by omega,by simp[-ap,-bH,aM,bd,AQ,h]⟩
theorem Lc(hy:∀y∈ys,Stp y)(hl:ys.length<=300)(g z3 z4 z5 z6:Sl):∃ys' s z5' z6',(s=.ow ys'\/s=.fz (.list ys'))/\(∀y∈ys',Stp y)/\ys'.length<=900/\ub [.ow ys,g,.fz (.int c),z3,z4,z5,z6]=some (.nx,[s,g,.fz (.int c),z3,z4,z5',z6']):=by
 by_cases h0:ys.length=0
 ·have:¬(0:Int)<(ys.length:Int):=by omega
  have h0':ys=[]:=List.length_eq_zero_iff.mp h0;subst h0';exact⟨[],_,z5,z6,.inl rfl,hy,by simp,by simp[-ap,-bH,aM,bd,ub]⟩
 obtain⟨a,ha,e,e'⟩:=p4 (c/7) ys.length (by omega);have gt:(0:Int)<(ys.length:Int):=by omega
 have gtl:0<ys.length:=by omega
 have sz:ys.length<sizeLine:=by show _<16777216;omega
 have ne:¬ys=[]:=fun z=>h0 (by rw[z];rfl)
 have hx:aB (.list ys) (.int (a:Int))=some ys[a]:=kn (j:=a) rfl (by simp[ha]);have hx':lJ ys (a:Int)=some ys[a]:=hx;have na:a<=ys.length:=by omega
 by_cases h3:c%7=3
 ·exact⟨ys.eraseIdx a,_,.fz (.int a),z6,.inl rfl,fun y h=>hy y (List.mem_of_mem_eraseIdx h),by have:=List.length_eraseIdx_le ys a;omega,by simp[-ap,-bH,aM,bd,ub,gt,gtl,ne,e,e',h3,ha,sz]⟩
 by_cases h4:c%7=4
 ·refine⟨ys.take a++ys[a]::ys.drop a,_,.fz (.int a),z6,.inl rfl,fun y hh=>?_,by simp;omega,by simp[-ap,-bH,aM,bd,ub,gt,gtl,ne,e,e',h4,ha,sz,hx',na]⟩
  rcases List.mem_append.mp hh with hh|hh
  ·exact hy y (List.mem_of_mem_take hh)
  ·rcases List.mem_cons.mp hh with rfl|hh
   ·exact hy _ (List.getElem_mem _)
   ·exact hy y (List.mem_of_mem_drop hh)
 by_cases h5:c%7=5
 ·obtain⟨b,hb⟩:∃b:Int,(a:Int)+2=b:=⟨_,rfl⟩
  have s1:ue (.list ys) (some (a:Int)) (some b)=some (.list (cutD ys (some (a:Int)) (some b))):=rfl;have s2:ue (.list ys) none (some (a:Int))=some (.list (cutD ys none (some (a:Int)))):=rfl;have s3:ue (.list ys) (some b) none=some (.list (cutD ys (some b) none)):=rfl;have l1:=qL ys (some (a:Int)) (some b);have l2:=qL ys none (some (a:Int));have l3:=qL ys (some b) none;have m1:∀y∈cutD ys (some (a:Int)) (some b),Stp y:=fun y h=>hy y (qk h)
  have m2:∀y∈cutD ys none (some (a:Int)),Stp y:=fun y h=>hy y (qk h)
  have m3:∀y∈cutD ys (some b) none,Stp y:=fun y h=>hy y (qk h)
  generalize cutD ys (some (a:Int)) (some b)=M at *;generalize cutD ys none (some (a:Int))=A at *;generalize cutD ys (some b) none=B at *;have lM:M.length<sizeLine:=by show _<16777216;omega
  have d1:aL (.list A) (.list M.reverse)=some (.list (A++M.reverse)):=fZ (by rw[List.length_reverse];omega);have d2:aL (.list (A++M.reverse)) (.list B)=some (.list (A++M.reverse++B)):=fZ (by rw[length_append,List.length_reverse];omega);refine⟨A++M.reverse++B,_,.fz (.int a),.fz (.list M.reverse),.inr rfl,fun y h=>?_,by rw[length_append,length_append,List.length_reverse];omega,?_⟩
  ·rcases List.mem_append.mp h with h|h
   ·rcases List.mem_append.mp h with h|h
    ·exact m2 y h
    ·exact m1 y (List.mem_reverse.mp h)
   ·exact m3 y h
  ·simp[-ap,-bH,aM,bd,ub,gt,gtl,ne,e,e',h5,jM,wY,hb,s1,sx,lM,s2,s3,d1,d2]
   done
 ·exact⟨ys,_,.fz (.int a),z6,.inl rfl,hy,by omega,by simp[-ap,-bH,aM,bd,ub,gt,gtl,ne,e,e',h3,h4,h5]⟩
end
theorem wH(c:Int){ys:List D}(hy:∀y∈ys,Stp y)(hl:ys.length<=150){n:Nat}(hn:n<=50){G:D}(hG:Lst n G):∃ys' G',(∀y∈ys',Stp y)/\ys'.length<=900/\Lst (n+1) G'/\b6 [.list ys,G,.int c]=some (.tuple [.list ys',G']):=by
 obtain⟨G2,l2,e2⟩:=Lg c ys hG .un .un .un .un;obtain⟨G3,z3,l3,e3⟩:=Lf c ys (by omega) l2 .un .un .un .un;obtain⟨G4,z4,l4,e4⟩:=Le c ys l3 z3 .un .un .un;obtain⟨Y5,hy5,hl5,e5⟩:=Ld c ys hy (by omega) (.fz G4) z3 z4 .un .un;obtain⟨Y6,s,z5,z6,hs,hy6,hl6,e6⟩:=Lc c Y5 hy5 (by omega) (.fz G4) z3 z4 .un .un;refine⟨Y6,G4,hy6,hl6,l4,?_⟩;have st:az dP [.list ys,G,.int c]=[.fz (.list ys),.fz G,.fz (.int c),.un,.un,.un,.un]:=rfl;have e7:AO [s,.fz G4,.fz (.int c),z3,z4,z5,z6]=some (.rt (.tuple [.list Y6,G4]),[.fz (.list Y6),.fz G4,.fz (.int c),z3,z4,z5,z6]):=by
  rcases hs with rfl|rfl
  ·simp[AO,jM]
  ·simp[AO,jM]
 have e1:=Lh ys (.fz G) (.fz (.int c)) .un .un .un .un;simp[-ap,-bH,aM,bd,b6,aR,Gg,st,e1,e2,e3,e4,e5,e6,e7]
noncomputable def BU:Sf:=aI 1 (o2 (VL.os (ag (oV 0) (ag (oC (.int 0)) (ar))) aS) (o2 (oC (.int 10)) (oC (.int 9)) um) aK)
noncomputable def BT:Sf:=aI 2 (VL.os (ag (oV 1) (ag (nN (oV 0) (oP (oC (.int 1))) (oP (oC (.int 61)))) (ar))) bp)
noncomputable def BS:Sf:=pW 3 (ag (oV 2) (ar)) fI
noncomputable def BR:Sf:=bH (xI (kR (ob (o1 (oV 3) (fT "tuple")))) (xI (ob (o2 (VL.os (ag (oV 3) (ar)) iO) (oC (.int 2)) neD)) (kR (ob (o1 (o2 (oV 3) (oC (.int 0)) aB) (fT "list")))))) (bA (oC (.bool false))) (dS)
noncomputable def BQ:Sf:=bH (xI (ob (o2 (VL.os (ag (oV 2) (ag (o2 (oV 3) (oC (.int 0)) aB) (ar))) bo) (o2 (oV 3) (oC (.int 1)) aB) neD)) (ob (o2 (VL.os (ag (VL.os (ag (o2 (oV 3) (oC (.int 1)) aB) (ar)) bb) (ar)) iO) (oC (.int 0)) uH))) (bA (oC (.bool false))) (dS)
noncomputable def BP:Sf:=eL 4 (Ev (ag (o2 (oV 3) (oC (.int 0)) aB) (ar)))
noncomputable def BO:Sf:=vj 3 (VL.os (ag (oC (.str "away")) (ag (oC (.int 0)) (ar))) bw)
noncomputable def BN:Sf:=aI 5 (VL.os (ag (oV 2) (ar)) fI)
noncomputable def BM:Sf:=bH (oN 4 (xI (ob (o2 (o2 (oV 5) (oC (.int 0)) aB) (oV 4) neD)) (ob (o2 (o2 (oV 5) (oC (.int 1)) aB) (o2 (oV 3) (oC (.int 1)) aB) neD)))) (bA (oC (.bool false))) (dS)
noncomputable def vR:Sf:=rM 3
noncomputable def vQ:Sf:=aI 6 (VL.os (ag (o2 (o2 (nN (oV 0) (oP (o1 (oC (.int 1)) negD)) (se)) (VL.os (ag (oC (.int 0)) (ar)) gO) aL) (oC (.int 0)) aB) (ar)) bi)
noncomputable def vP:Sf:=A8 (VL.os (ag (o2 (oV 3) (oC (.int 0)) aB) (ag (o2 (oV 3) (oC (.int 1)) aB) (ag (oV 6) (ar)))) b6) (xK [gN 7,gN 8])
noncomputable def vO:Sf:=bH (kR (ob (VL.os (ag (oV 2) (ag (o2 (oV 3) (oC (.int 0)) aB) (ag (o2 (oV 3) (oC (.int 1)) aB) (ar)))) aV))) (bA (oC (.bool false))) (dS)
noncomputable def vN:Sf:=bA (VL.os (ag (oV 2) (ag (oV 7) (ag (oV 8) (ar)))) aV)
theorem Hk:zX=ap BU (ap BT (ap BS (ap BR (ap BQ (ap BP (ap BO (ap BN (ap BM (ap vR (ap vQ (ap vP (ap vO (vN))))))))))))):=rfl
theorem jz:∀is:List Int,lfA (is.map PyData.int)=true
 |[]=>rfl
 |i::is=>jz is
theorem sE(hs:List Nat):lfA (ao hs)=true:=by rw[oQ];exact jz _
theorem vJ:∀ps:List (Nat×Int),lfA (ps.map prD)=true
 |[]=>rfl
 |p::ps=>vJ ps
theorem CV(w l:Nat)(s:Su):jy (suD w l s)=true:=by
 show(true&&(true&&(true&&(lfA ((cO s.ps).map prD)&&(lfA (ao s.ts)&&(lfA (ao s.hs)&&true))))))=true;rw[vJ,sE,sE];rfl
theorem vI:∀{L:List D},(∀d∈L,Stp d)->lfA L=true
 |[],_=>rfl
 |d::L,h=>by
  show(jy d&&lfA L)=true;rw[vI fun x hx=>h x (mem_cons_of_mem _ hx)]
  cases h d mem_cons_self<;>rfl
theorem Ls(E T:D)(es:List D)(x0 x1 x2 x4 x5 x6 x7 x8:Sl):BR [x0,x1,x2,.fz (.tuple [.list es,T]),x4,x5,x6,x7,x8]=some (.nx,[x0,x1,x2,.fz (.tuple [.list es,T]),x4,x5,x6,x7,x8]):=by
 have i1:fT "tuple" (.tuple [.list es,T])=some (.bool true):=rfl;have i2:fT "list" (.list es)=some (.bool true):=rfl;have i3:aB (.tuple [.list es,T]) (.int 0)=some (.list es):=rfl;simp[-ap,-bH,aM,bd,BR,i1,i2,i3]
theorem Lr(O T:D)(es:List D)(w:bo [O,.list es]=some T)(e:neD T T=some (.bool false))(g:bb [T]=some (.list []))(x0 x1 x4 x5 x6 x7 x8:Sl):BQ [x0,x1,.fz O,.fz (.tuple [.list es,T]),x4,x5,x6,x7,x8]=some (.nx,[x0,x1,.fz O,.fz (.tuple [.list es,T]),x4,x5,x6,x7,x8]):=by
 have i3:aB (.tuple [.list es,T]) (.int 0)=some (.list es):=rfl;have i4:aB (.tuple [.list es,T]) (.int 1)=some T:=rfl;simp[-ap,-bH,aM,bd,BQ,i3,i4,w,e,g]
theorem Lp(T T':D)(es fs:List D)(e1:neD (.list es) (.list es)=some (.bool false))(e:neD T T=some (.bool false))(S O:D)(h:Int)(x6 x7 x8:Sl)(s6:qA x6=false)(s7:qA x7=false)(s8:qA x8=false):BM [.fz S,.fz (.int h),.fz O,.fz (.tuple [.list fs,T]),.ow es,.fz (.tuple [.list es,T]),x6,x7,x8]=some (.nx,[.fz S,.fz (.int h),.fz O,.fz (.tuple [.list fs,T]),.ow es,.fz (.tuple [.list es,T]),x6,x7,x8]):=by
 have i3:∀es T,aB (.tuple [.list es,T]) (.int 0)=some (.list es):=fun _ _=>rfl
 have i4:∀es T,aB (.tuple [.list es,T]) (.int 1)=some T:=fun _ _=>rfl
 have so:rF 4 [.fz S,.fz (.int h),.fz O,.fz (.tuple [.list fs,T]),.ow es,.fz (.tuple [.list es,T]),x6,x7,x8]=true:=by simp[rF,s6,s7,s8]
 have pk:oN 4 (xI (ob (o2 (o2 (oV 5) (oC (.int 0)) aB) (oV 4) neD)) (ob (o2 (o2 (oV 5) (oC (.int 1)) aB) (o2 (oV 3) (oC (.int 1)) aB) neD))) [.fz S,.fz (.int h),.fz O,.fz (.tuple [.list fs,T]),.ow es,.fz (.tuple [.list es,T]),x6,x7,x8]=some false:=by
  unfold oN;rw[if_pos so];simp[jM,i3,i4,e1,e]
 simp[-ap,-bH,aM,bd,BM,pk]
theorem Lq(S:List Int)(h:Int)(O T:D)(es:List D)(hO:jy O=true)(hT:jy T=true)(hE:lfA es=true)(hl:es.length<sizeLine):BO [.fz (.list (S.map .int)),.fz (.int h),.fz O,.fz (.tuple [.list es,T]),.ow es,.un,.un,.un,.un]=some (.nx,[.fz (.list (S.map .int)),.fz (.int h),.fz O,.fz (.tuple [.list (es++[awT 0]),T]),.ow es,.un,.un,.un,.un]):=by
 have h1:sD (.fz O)=true:=hO;have h2:sD (.ow es)=true:=hE;have h3:sD (.fz (.int h))=true:=rfl;have h4:sD (.fz (.tuple [.list es,T]))=false:=rfl;have h5:sD .un=true:=rfl;have hv:jy (awT 0)=true:=rfl;have k:es.length<sizeLine/\jy (awT 0)=true/\lfA es=true/\jy T=true:=⟨hl,hv,hE,hT⟩;have hf:VL.os (ag (oC (.str "away")) (ag (oC (.int 0)) (ar))) bw [.fz (.list (S.map .int)),.fz (.int h),.fz O,.fz (.tuple [.list es,T]),.ow es,.un,.un,.un,.un]=some (awT 0):=rfl;unfold BO vj;rw[hf,Option.bind_some];show(if _ then _ else _)=_;rw[if_pos k];simp[ng,sJ,FH,jz,h1,h2,h3,h4,h5]
theorem JU(S:List Int)(h:Int)(O T:D)(es:List D)(B:D)(hO:jy O=true)(hT:jy T=true)(hE:lfA es=true)(hl:es.length+1<sizeLine):vR [.fz (.list (S.map .int)),.fz (.int h),.fz O,.fz (.tuple [.list (es++[awT 0]),T]),.ow es,.fz (.tuple [.list es,B]),.un,.un,.un]=some (.nx,[.fz (.list (S.map .int)),.fz (.int h),.fz O,.fz (.tuple [.list es,T]),.ow es,.un,.un,.un,.un]):=by
 have h1:sD (.fz O)=true:=hO;have h2:sD (.ow es)=true:=hE;have h3:sD (.fz (.int h))=true:=rfl;have h4:sD (.fz (.tuple [.list (es++[awT 0]),T]))=false:=rfl;have h6:sD (.fz (.tuple [.list es,B]))=false:=rfl;have h5:sD .un=true:=rfl;have k:0<(es++[awT 0]).length/\(es++[awT 0]).length<sizeLine/\lfA (es++[awT 0])=true/\jy T=true:=⟨by simp,by simpa using hl,qq hE rfl,hT⟩;have er:(es++[awT 0]).eraseIdx ((es++[awT 0]).length-1)=es:=by
  rw[length_append,List.length_singleton,Nat.add_sub_cancel,List.eraseIdx_append_of_length_le (Nat.le_refl _)];simp
 unfold vR rM;show(if _ then _ else _)=_;rw[if_pos k,er];simp[ng,sJ,FH,jz,h1,h2,h3,h4,h5,h6]
theorem JG:negD (.int 1)=some (.int (-1)):=rfl
theorem JT(S:List Int)(hS:S.length<=1000):∃T:Nat,∀x1 x2 x3 x4 x5 x6 x7 x8:Sl,vQ [.fz (.list (S.map .int)),x1,x2,x3,x4,x5,x6,x7,x8]=some (.nx,[.fz (.list (S.map .int)),x1,x2,x3,x4,x5,.fz (.int T),x7,x8]):=by
 obtain⟨ms,hm,hs⟩:=wj S (some (-1)) none;obtain⟨c,hc⟩:∃c,aB (.list (ms.map PyData.int++[.int 0])) (.int 0)=some (.int c):=by
  cases ms with
  |nil=>exact⟨0,rfl⟩
  |cons m ms=>exact⟨m,KQ _ _⟩
 obtain⟨T,hT⟩:=oS c;have ad:aL (.list (ms.map PyData.int)) (.list [.int 0])=some (.list (ms.map PyData.int++[.int 0])):=fZ (by simp;omega);have ls:gO [.int 0]=some (.list [.int 0]):=rfl;exact⟨T,fun x1 x2 x3 x4 x5 x6 x7 x8=>by simp[-ap,-bH,aM,bd,vQ,JG,hs,ad,hc,hT]⟩
theorem la1(S:D)(c h:Int)(hc:aS [S,.int 0]=some (.int c))(hh:c%1000000000=h):BU [.fz S,.un,.un,.un,.un,.un,.un,.un,.un]=some (.nx,[.fz S,.fz (.int h),.un,.un,.un,.un,.un,.un,.un]):=by
 have m:aK (.int c) (.int 1000000000)=some (.int h):=by rw[<-hh];exact jw (by decide)
 simp only[BU,aI,o2,VL.os,ag,oV,oC,ar,vd,List.getElem?_cons_zero,Option.bind_some,hc,e9,m,List.set_cons_succ,List.set_cons_zero]
theorem Lu(S A O:D)(h:Int)(s:ue S (some 1) (some 61)=some A)(g2:bp [.int h,A]=some O):BT [.fz S,.fz (.int h),.un,.un,.un,.un,.un,.un,.un]=some (.nx,[.fz S,.fz (.int h),.fz O,.un,.un,.un,.un,.un,.un]):=by
 simp[-ap,-bH,aM,bd,BT,s,g2]
theorem Dw(S:D):az wy [S]=[.fz S,.un,.un,.un,.un,.un,.un,.un,.un]:=rfl
theorem Hi(S:D){d1 d2 d3 d4 d5 d6 d7 d8 d9 d10 d11 d12 d13 d14 d15:Dv}(st:az wy [S]=d1)(e1:BU d1=some (.nx,d2))(e2:BT d2=some (.nx,d3))(e3:BS d3=some (.nx,d4))(e4:BR d4=some (.nx,d5))(e5:BQ d5=some (.nx,d6))(e6:BP d6=some (.nx,d7))(e7:BO d7=some (.nx,d8))(e8:BN d8=some (.nx,d9))(e9:BM d9=some (.nx,d10))(e10:vR d10=some (.nx,d11))(e11:vQ d11=some (.nx,d12))(e12:vP d12=some (.nx,d13))(e13:vO d13=some (.nx,d14))(e14:vN d14=some (.rt (.bool true),d15)):sR [S]=some (.bool true):=by
 simp[sR,aR,Hk,st,e1,e2,e3,e4,e5,e6,e7,e8,e9,e10,e11,e12,e13,e14]
theorem law_true(ns:List Int)(hl:ns.length<=63):sR [.list (ns.map .int)]=some (.bool true):=by
 obtain⟨c,hc⟩:=wn ns 0 (by decide);obtain⟨h,hh⟩:∃h:Nat,c%1000000000=h:=⟨(c%1000000000).toNat,by omega⟩;obtain⟨ms,_,hs⟩:=wj ns (some 1) (some 61);obtain⟨w,l,hv,cc,ps,ts,hs',e,S0⟩:=rB h ms;have S:iy w l ⟨hv,cc,ps,ts,hs'⟩:=S0.more (by have:=S0.hl;show 12<=17-hs'.length;omega);have e:bp [.int h,.list (ms.map .int)]=some (suD w l ⟨hv,cc,ps,ts,hs'⟩):=e;generalize Su.mk hv cc ps ts hs'=s at *;obtain⟨xs,s',hr,⟨hx,S',hn⟩,hw⟩:=Ar S;have hst:=DR hr;have sz:sizeLine=16777216:=rfl;have xl:xs.length<sizeLine:=by rw[sz];omega
 have xl':xs.length+1<sizeLine:=by rw[sz];omega
 clear sz;obtain⟨y,wk⟩:=A9 hr S (.fz (.list xs)) .un;have wk':=EC _ _ _ _ (suD w l s') wk (.inr ⟨_,rfl,rfl⟩);have lO:=CV w l s;have lT:=CV w l s';have lE:=vI hst;have nT:neD (suD w l s') (suD w l s')=some (.bool false):=vC (qm S').sh (by decide);have nE:neD (.list xs) (.list xs)=some (.bool false):=vC (vf hst) (by decide);have ls:=(jk S').2;rw[hn]at ls;obtain⟨T,h11⟩:=JT ns (by omega);obtain⟨ys,G,hy,hyl,hG,hsp⟩:=wH T hst (by omega) (by omega) (qm S');have b1:=tF S hst (by omega) (qm S');have b2:=tF S hy (by omega) hG;generalize suD w l s=O at *;generalize suD w l s'=E at *;have e1:=la1 (.list (ns.map .int)) c h hc hh;have e2:=Lu (.list (ns.map .int)) _ O h hs e;have e3:BS [.fz (.list (ns.map .int)),.fz (.int h),.fz O,.un,.un,.un,.un,.un,.un]=some (.nx,[.fz (.list (ns.map .int)),.fz (.int h),.fz O,.fz (.tuple [.list xs,E]),.un,.un,.un,.un,.un]):=by
  have k:lfA [O]=true:=by show(jy O&&true)=true;rw[lO];rfl
  simp[-ap,-bH,aM,bd,BS,pW,k,hw]
 have e4:=Ls .none E xs (.fz (.list (ns.map .int))) (.fz (.int h)) (.fz O) .un .un .un .un .un;have e5:=Lr O E xs wk' nT ls (.fz (.list (ns.map .int))) (.fz (.int h)) .un .un .un .un .un;have e6:BP [.fz (.list (ns.map .int)),.fz (.int h),.fz O,.fz (.tuple [.list xs,E]),.un,.un,.un,.un,.un]=some (.nx,[.fz (.list (ns.map .int)),.fz (.int h),.fz O,.fz (.tuple [.list xs,E]),.ow xs,.un,.un,.un,.un]):=by
  have i3:aB (.tuple [.list xs,E]) (.int 0)=some (.list xs):=rfl;simp[-ap,-bH,aM,bd,BP,Ev,i3]
 have e7:=Lq ns h O E xs lO lT lE xl;have e8:∀x0 x1 x3 x4,BN [x0,x1,.fz O,x3,x4,.un,.un,.un,.un]=some (.nx,[x0,x1,.fz O,x3,x4,.fz (.tuple [.list xs,E]),.un,.un,.un]):=fun x0 x1 x3 x4=>by simp[-ap,-bH,aM,bd,BN,hw]
 have e9':=Lp E .none xs (xs++[awT 0]) nE nT (.list (ns.map .int)) O h .un .un .un rfl rfl rfl;have e10:=JU ns h O E xs E lO lT lE xl';have e12:∀x0 x1 x2 x4 x5,vP [x0,x1,x2,.fz (.tuple [.list xs,E]),x4,x5,.fz (.int T),.un,.un]=some (.nx,[x0,x1,x2,.fz (.tuple [.list xs,E]),x4,x5,.fz (.int T),.fz (.list ys),.fz G]):=fun x0 x1 x2 x4 x5=>by
  have i3:aB (.tuple [.list xs,E]) (.int 0)=some (.list xs):=rfl;have i4:aB (.tuple [.list xs,E]) (.int 1)=some E:=rfl;simp[-ap,-bH,aM,bd,vP,A8,i3,i4,hsp]
 have e13:∀x0 x1 x4 x5 x6 x7 x8,vO [x0,x1,.fz O,.fz (.tuple [.list xs,E]),x4,x5,x6,x7,x8]=some (.nx,[x0,x1,.fz O,.fz (.tuple [.list xs,E]),x4,x5,x6,x7,x8]):=fun x0 x1 x4 x5 x6 x7 x8=>by
  have i3:aB (.tuple [.list xs,E]) (.int 0)=some (.list xs):=rfl;have i4:aB (.tuple [.list xs,E]) (.int 1)=some E:=rfl;simp[-ap,-bH,aM,bd,vO,i3,i4,b1]
 have e14:∀x0 x1 x3 x4 x5 x6,vN [x0,x1,.fz O,x3,x4,x5,x6,.fz (.list ys),.fz G]=some (.rt (.bool true),[x0,x1,.fz O,x3,x4,x5,x6,.fz (.list ys),.fz G]):=fun x0 x1 x3 x4 x5 x6=>by
  simp[-ap,-bH,aM,bd,vN,b2]
 exact Hi _ (Dw _) e1 e2 e3 e4 e5 e6 e7 (e8 _ _ _ _) e9' e10 (h11 _ _ _ _ _ _ _ _) (e12 _ _ _ _ _) (e13 _ _ _ _ _ _ _) (e14 _ _ _ _ _ _)
end GN
namespace GN
open PySem PySem.Spec PyProof.Rows L2 VL
open PySem.W (findIn mg_none_of mroIn)
structure Txt (mg:Str->Option Value):Prop where
 dict:mg "dict" = none
 tuple:mg "tuple" = none
 sorted:mg "sorted" = none
 set_:mg "set" = none
 any:mg "any" = none
 all:mg "all" = none
 sum:mg "sum" = none
 len:mg "len" = none
 range:mg "range" = none
 list:mg "list" = none
 min:mg "min" = none
 isinstance:mg "isinstance" = none
 bool:mg "bool" = none
section
variable{P:Program}{w:World}{K:PySem.W.Frag}{mg:Str->Option Value}{base:Heap}
theorem sc_all_added:FnScope iq ["turn","turns","pairs"] (aj dQ):=⟨rfl,rfl,rfl,by decide +kernel,rfl,by decide +kernel,by decide +kernel⟩
theorem qd{f:Addr}{fd:FuncData}{dV:Value}(F:FunV K "all_added" "all_added" dQ f fd dV)(T:Txt mg):FnOk P w K mg base dM 1 f fd ["turn","turns","pairs"] (f9 K bD):=
 dz (k:=0) (b:=il) F sc_all_added fun cdv A outer s H E hr=>(ai (AE 3 sc_all_added.nd rfl T.dict (ac 1)) (ai (dY PassesOwn.never rfl (aZ (ac 2)) (b8 4 sc_all_added.nd) (ai (aF 5 sc_all_added.nd (aq aD (ac 4) af (fun _ _=>rfl))) (ai (aF 6 sc_all_added.nd (aq aD (ac 4) af (fun _ _=>rfl))) (ai (bS (aE (cD hr.units) (ak C9 (ac 5) af) af (aA _)) (ai (aF 0 sc_all_added.nd (ak bG (ac 0) (ac 6))) (ai (aF 5 sc_all_added.nd (ak iU (ac 5) af)) (av (aF 6 sc_all_added.nd (C5 C8 (ac 6)))))) bu) (av (bS (aE (jL hr.units) (ac 5) af (aA _)) (av (jj 3 (tR hr.units) (ac 5) (ak aT (ak bG (sU 3 (tR hr.units) (ac 5) af ⟨rfl,rfl,rfl,rfl⟩) (ac 6)) af))) bu)))))) (av (aQ (bf (ae (ak aT (ac 0) af) (ae (bY dB rfl T.tuple (by decide +kernel) (ae (cA (vars:=["pair"]) (caps:=[]) (by change BlkOk (aj dQ).names iq _ _ _;exact⟨rfl,by decide +kernel,by decide +kernel,by decide +kernel,by decide +kernel⟩) rfl (aZ (xy 3 rfl T.sorted)) bT (fun _ _ _ _=>bh (i:=0) (show(["pair"]:List Str).Nodup by decide +kernel) rfl (Or.inl rfl) (.inr rfl)) (fun _ _ _ _=>(aE (jL hr.units) (aq aD (ac 0) af (fun _ _=>rfl)) af (aA _))) (fun _ _ _ _=>(ac 0))) ah)) ah)))))))
theorem j0:FnScope eu ["ties"] (aj cq):=⟨rfl,rfl,rfl,by decide +kernel,rfl,by decide +kernel,by decide +kernel⟩
theorem j5{f:Addr}{fd:FuncData}{dV:Value}(F:FunV K "ties_in_order" "ties_in_order" cq f fd dV)(T:Txt mg):FnOk P w K mg base dM 1 f fd ["ties"] (f9 K aN):=
 dz (k:=0) (b:=ef) F j0 fun cdv A outer s H E hr=>(av (aQ (bY dB rfl T.tuple (by decide +kernel) (ae (cA (vars:=["tie"]) (caps:=[]) (by change BlkOk (aj cq).names eu _ _ _;exact⟨rfl,by decide +kernel,by decide +kernel,by decide +kernel,by decide +kernel⟩) rfl (aZ (B9 rfl T.sorted rfl T.set_ (ac 0))) bT (fun _ _ _ _=>bh (i:=0) (show(["tie"]:List Str).Nodup by decide +kernel) rfl (Or.inl rfl) (.inr rfl)) (fun _ _ _ _=>(aE (jL hr.units) (ac 0) af (aA _))) (fun _ _ _ _=>(ac 0))) ah))))
theorem DM:FnScope Db ["bitset","bit"] (aj vh):=⟨rfl,rfl,rfl,by decide +kernel,rfl,by decide +kernel,by decide +kernel⟩
theorem Eu{f:Addr}{fd:FuncData}{dV:Value}(F:FunV K "has" "has" vh f fd dV)(T:Txt mg):FnOk P w K mg base dM 1 f fd ["bitset","bit"] (f9 K dF):=
 dz (k:=0) (b:=zY) F DM fun cdv A outer s H E hr=>(av (aQ (fK (cD hr.units) (ak C9 (ak kB (ac 0) (ac 1)) af) af (aA _))))
theorem pT:FnScope fE ["one","bit"] (aj db):=⟨rfl,rfl,rfl,by decide +kernel,rfl,by decide +kernel,by decide +kernel⟩
theorem qc{f:Addr}{fd:FuncData}{dV:Value}(F:FunV K "goes_away" "goes_away" db f fd dV)(T:Txt mg)(C_has:Cal P w K mg base "has" 1 dF []):FnOk P w K mg base dM 2 f fd ["one","bit"] (f9 K bZ):=
 dz (k:=1) (b:=fB) F pT fun cdv A outer s H E hr=>(ai (bS (dg (cC (Ib rfl) rfl T.any (by decide +kernel) (ae (lH (vars:=["tie"]) (caps:=[(1,"bit")]) (by change BlkOk (aj db).names fE _ _ _;exact⟨rfl,by decide +kernel,by decide +kernel,by decide +kernel,by decide +kernel⟩) rfl (aZ (aq aD (ac 0) af (fun _ _=>rfl))) bT (fun _ _ _ _=>bh (i:=0) (show(["tie","bit"]:List Str).Nodup by decide +kernel) rfl (Or.inl rfl) (.inr rfl)) (fun _ _ _ _=>(aC C_has (hr.mono (by decide)) rfl (ae (ac 0) (ae (ac 1) ah))))) ah))) (av (aQ jJ)) bu) (av (aQ (cC (Ic rfl) rfl T.all (by decide +kernel) (ae (cA (vars:=["pair"]) (caps:=[(1,"bit")]) (by change BlkOk (aj db).names fE _ _ _;exact⟨rfl,by decide +kernel,by decide +kernel,by decide +kernel,by decide +kernel⟩) rfl (aZ (aq aD (ac 0) af (fun _ _=>rfl))) bT (fun _ _ _ _=>bh (i:=0) (show(["pair","bit"]:List Str).Nodup by decide +kernel) rfl (Or.inl rfl) (.inr rfl)) (fun _ _ _ _=>(dg (aC C_has (hr.mono (by decide)) rfl (ae (aq aD (ac 0) af (fun _ _=>rfl)) (ae (ac 1) ah))))) (fun _ _ _ _=>(fK (cD hr.units) (ak aT (aq aD (ac 0) af (fun _ _=>rfl)) af) af (aA _)))) ah)))))
theorem sc_steps_of:FnScope N_steps_of ["one"] (aj dH):=⟨rfl,rfl,rfl,by decide +kernel,rfl,by decide +kernel,by decide +kernel⟩
theorem rZ{f:Addr}{fd:FuncData}{dV:Value}(F:FunV K "steps_of" "steps_of" dH f fd dV)(T:Txt mg)(C_goes_away:Cal P w K mg base "goes_away" 2 bZ [])(C_has:Cal P w K mg base "has" 1 dF []):FnOk P w K mg base dM 3 f fd ["one"] (f9 K cn):=
 dz (k:=2) (b:=nG) F sc_steps_of fun cdv A outer s H E hr=>(ai (oz 1 sc_steps_of.nd (vars:=["bit"]) (caps:=[(0,"one")]) (by change BlkOk (aj dH).names N_steps_of _ _ _;exact⟨rfl,by decide +kernel,by decide +kernel,by decide +kernel,by decide +kernel⟩) rfl (aZ (aq aD (ac 0) af (fun _ _=>rfl))) bT (fun _ _ _ _=>bh (i:=0) (show(["bit","one"]:List Str).Nodup by decide +kernel) rfl (Or.inl rfl) (.inr rfl)) (fun _ _ _ _=>(dg (aC C_goes_away (hr.mono (by decide)) rfl (ae (ac 1) (ae (ac 0) ah))))) (fun _ _ _ _=>(bf (ae fJ (ae (ac 0) ah))))) (ai (dY PassesOwn.never rfl (aZ (aq aD (ac 0) af (fun _ _=>rfl))) (b8 2 sc_steps_of.nd) (av (AD 1 (cA (vars:=["bit"]) (caps:=[(2,"tie")]) (by change BlkOk (aj dH).names N_steps_of _ _ _;exact⟨rfl,by decide +kernel,by decide +kernel,by decide +kernel,by decide +kernel⟩) rfl (aZ (aq aD (ac 0) af (fun _ _=>rfl))) bT (fun _ _ _ _=>bh (i:=0) (show(["bit","tie"]:List Str).Nodup by decide +kernel) rfl (Or.inl rfl) (.inr rfl)) (fun _ _ _ _=>(dg (aC C_has (hr.mono (by decide)) rfl (ae (ac 1) (ae (ac 0) ah))))) (fun _ _ _ _=>(bf (ae fJ (ae (ac 1) (ae (ac 0) ah))))))))) (av (kq 1 (aQ (ac 1))))))
theorem A7:FnScope Al ["one","step"] (aj pV):=⟨rfl,rfl,rfl,by decide +kernel,rfl,by decide +kernel,by decide +kernel⟩
theorem By{f:Addr}{fd:FuncData}{dV:Value}(F:FunV K "fits" "fits" pV f fd dV)(T:Txt mg)(C_has:Cal P w K mg base "has" 1 dF [])(C_goes_away:Cal P w K mg base "goes_away" 2 bZ []):FnOk P w K mg base dM 3 f fd ["one","step"] (f9 K bV):=
 dz (k:=2) (b:=gE) F A7 fun cdv A outer s H E hr=>(ai (bS (aE (cD hr.units) (aq aD (ac 1) af (fun _ _=>rfl)) fJ (aA _)) (av (aQ (m9 (fK zQ (aq aD (ac 1) af (fun _ _=>rfl)) (aq aD (ac 0) af (fun _ _=>rfl)) (by with_unfolding_all rfl)) (uJ (aC C_goes_away (hr.mono (by decide)) rfl (ae (ac 0) (ae (aq aD (ac 1) af (fun _ _=>rfl)) ah))))))) bu) (av (aQ (m9 (fK zQ (aq aD (ac 1) af (fun _ _=>rfl)) (aq aD (ac 0) af (fun _ _=>rfl)) (by with_unfolding_all rfl)) (m9 (fK zQ (aq aD (ac 1) af (fun _ _=>rfl)) (aq aD (ac 0) af (fun _ _=>rfl)) (by with_unfolding_all rfl)) (uJ (aC C_has (hr.mono (by decide)) rfl (ae (aq aD (ac 1) af (fun _ _=>rfl)) (ae (aq aD (ac 1) af (fun _ _=>rfl)) ah)))))))))
theorem sc_shorter:FnScope f6 ["one","bit","change"] (aj dI):=⟨rfl,rfl,rfl,by decide +kernel,rfl,by decide +kernel,by decide +kernel⟩
theorem uv{f:Addr}{fd:FuncData}{dV:Value}(F:FunV K "shorter" "shorter" dI f fd dV)(T:Txt mg)(C_all_added:Cal P w K mg base "all_added" 1 bD [])(C_has:Cal P w K mg base "has" 1 dF []):FnOk P w K mg base dM 2 f fd ["one","bit","change"] (f9 K bX):=
 dz (k:=1) (b:=km) F sc_shorter fun cdv A outer s H E hr=>(ai (gW 3 sc_shorter.nd (vars:=["pair"]) (caps:=[(1,"bit"),(2,"change")]) (by change BlkOk (aj dI).names f6 _ _ _;exact⟨rfl,by decide +kernel,by decide +kernel,by decide +kernel,by decide +kernel⟩) rfl (aZ (aq aD (ac 0) af (fun _ _=>rfl))) bT (fun _ _ _ _=>bh (i:=0) (show(["pair","bit","change"]:List Str).Nodup by decide +kernel) rfl (Or.inl rfl) (.inr rfl)) (fun _ _ _ _=>(dg (aC C_has (hr.mono (by decide)) rfl (ae (aq aD (ac 0) af (fun _ _=>rfl)) (ae (ac 1) ah))))) (fun _ _ _ _=>(bf (ae (ak iU (aq aD (ac 0) af (fun _ _=>rfl)) (ac 2)) (ae (aq aD (ac 0) af (fun _ _=>rfl)) ah))))) (ai (gW 4 sc_shorter.nd (vars:=["pair"]) (caps:=[(1,"bit")]) (by change BlkOk (aj dI).names f6 _ _ _;exact⟨rfl,by decide +kernel,by decide +kernel,by decide +kernel,by decide +kernel⟩) rfl (aZ (aq aD (ac 0) af (fun _ _=>rfl))) bT (fun _ _ _ _=>bh (i:=0) (show(["pair","bit"]:List Str).Nodup by decide +kernel) rfl (Or.inl rfl) (.inr rfl)) (fun _ _ _ _=>(jY (dg (aC C_has (hr.mono (by decide)) rfl (ae (aq aD (ac 0) af (fun _ _=>rfl)) (ae (ac 1) ah)))))) (fun _ _ _ _=>(ac 0))) (ai (aF 5 sc_shorter.nd (aC C_all_added (hr.mono (by decide)) rfl (ae (aq aD (ac 0) af (fun _ _=>rfl)) (ae (ac 4) (ae (ac 3) ah))))) (av (aQ (bf (ae (aq aD (ac 0) af (fun _ _=>rfl)) (ae (aq aD (ac 0) af (fun _ _=>rfl)) (ae (aq aD (ac 5) af (fun _ _=>rfl)) (ae (aq aD (ac 5) af (fun _ _=>rfl)) (ae (aq aD (ac 0) af (fun _ _=>rfl)) (ae (bY dB rfl T.tuple (by decide +kernel) (ae (cA (vars:=["other"]) (caps:=[(1,"bit")]) (by change BlkOk (aj dI).names f6 _ _ _;exact⟨rfl,by decide +kernel,by decide +kernel,by decide +kernel,by decide +kernel⟩) rfl (aZ (aq aD (ac 0) af (fun _ _=>rfl))) bT (fun _ _ _ _=>bh (i:=0) (show(["other","bit"]:List Str).Nodup by decide +kernel) rfl (Or.inl rfl) (.inr rfl)) (fun _ _ _ _=>(aE (jL hr.units) (ac 0) (ac 1) (aA _))) (fun _ _ _ _=>(ac 0))) ah)) ah))))))))))))
theorem sc_odd_part:FnScope nK ["pairs"] (aj gd):=⟨rfl,rfl,rfl,by decide +kernel,rfl,by decide +kernel,by decide +kernel⟩
theorem r6{f:Addr}{fd:FuncData}{dV:Value}(F:FunV K "odd_part" "odd_part" gd f fd dV)(T:Txt mg):FnOk P w K mg base dM 1 f fd ["pairs"] (f9 K cp):=
 dz (k:=0) (b:=jc) F sc_odd_part fun cdv A outer s H E hr=>(ai (aF 1 sc_odd_part.nd af) (ai (dY PassesOwn.never rfl (aZ (ac 0)) (b8 2 sc_odd_part.nd) (av (bS (aE zQ (aq aD (ac 2) af (fun _ _=>rfl)) (bf (ae af (ae af ah))) (by with_unfolding_all rfl)) (av (aF 1 sc_odd_part.nd (ak iU (ac 1) (aq aD (ac 2) af (fun _ _=>rfl))))) bu))) (av (aQ (ac 1)))))
theorem sc_gone_away:FnScope fD ["one","bit"] (aj da):=⟨rfl,rfl,rfl,by decide +kernel,rfl,by decide +kernel,by decide +kernel⟩
theorem qb{f:Addr}{fd:FuncData}{dV:Value}(F:FunV K "gone_away" "gone_away" da f fd dV)(T:Txt mg)(C_odd_part:Cal P w K mg base "odd_part" 1 cp [])(C_shorter:Cal P w K mg base "shorter" 2 bX [])(C_all_added:Cal P w K mg base "all_added" 1 bD [])(C_has:Cal P w K mg base "has" 1 dF [])(C_ties_in_order:Cal P w K mg base "ties_in_order" 1 aN []):FnOk P w K mg base dM 3 f fd ["one","bit"] (f9 K bn):=
 dz (k:=2) (b:=dX) F sc_gone_away fun cdv A outer s H E hr=>(ai (gW 2 sc_gone_away.nd (vars:=["pair"]) (caps:=[(1,"bit")]) (by change BlkOk (aj da).names fD _ _ _;exact⟨rfl,by decide +kernel,by decide +kernel,by decide +kernel,by decide +kernel⟩) rfl (aZ (aq aD (ac 0) af (fun _ _=>rfl))) bT (fun _ _ _ _=>bh (i:=0) (show(["pair","bit"]:List Str).Nodup by decide +kernel) rfl (Or.inl rfl) (.inr rfl)) (fun _ _ _ _=>(dg (aC C_has (hr.mono (by decide)) rfl (ae (aq aD (ac 0) af (fun _ _=>rfl)) (ae (ac 1) ah))))) (fun _ _ _ _=>(bf (ae (ak iU (aq aD (ac 0) af (fun _ _=>rfl)) (ak sY af (ac 1))) (ae (aq aD (ac 0) af (fun _ _=>rfl)) ah))))) (ai (aF 3 sc_gone_away.nd (ak aT (cC (Da rfl) rfl T.sum (by decide +kernel) (ae (lH (vars:=["pair"]) (caps:=[]) (by change BlkOk (aj da).names fD _ _ _;exact⟨rfl,by decide +kernel,by decide +kernel,by decide +kernel,by decide +kernel⟩) rfl (aZ (ac 2)) bT (fun _ _ _ _=>bh (i:=0) (show(["pair"]:List Str).Nodup by decide +kernel) rfl (Or.inl rfl) (.inr rfl)) (fun _ _ _ _=>(aq aD (ac 0) af (fun _ _=>rfl)))) ah)) af)) (ai (aF 4 sc_gone_away.nd (aC C_odd_part (hr.mono (by decide)) rfl (ae (ac 2) ah))) (ai (aF 5 sc_gone_away.nd (aC C_shorter (hr.mono (by decide)) rfl (ae (ac 0) (ae (ac 1) (ae (ak sY af (ac 1)) ah))))) (ai (bS (aE (cD hr.units) (ak aT (ac 3) af) af (aA _)) (ai (aF 6 sc_gone_away.nd (ak iU (ac 4) (ak dG (ac 3) af))) (av (aQ (bf (ae (aq aD (ac 5) af (fun _ _=>rfl)) (ae (ak gL (aq aD (ac 5) af (fun _ _=>rfl)) af) (ae (aq aD (ac 5) af (fun _ _=>rfl)) (ae (aq aD (ac 5) af (fun _ _=>rfl)) (ae (aC C_ties_in_order (hr.mono (by decide)) rfl (ae (ak bG (aq aD (ac 5) af (fun _ _=>rfl)) (bf (ae (ac 6) ah))) ah)) (ae (aq aD (ac 5) af (fun _ _=>rfl)) ah)))))))))) bu) (ai (aF 7 sc_gone_away.nd (aC C_all_added (hr.mono (by decide)) rfl (ae (ak bG (aq aD (ac 5) af (fun _ _=>rfl)) (zF (aE (cD hr.units) (ac 3) af (aA _)) af af)) (ae (aq aD (ac 5) af (fun _ _=>rfl)) (ae (i9 (ae (bf (ae (ac 4) (ae (ak gL af (ac 3)) ah))) ah)) ah))))) (av (aQ (bf (ae (aq aD (ac 5) af (fun _ _=>rfl)) (ae (ak gL (aq aD (ac 5) af (fun _ _=>rfl)) af) (ae (aq aD (ac 7) af (fun _ _=>rfl)) (ae (aq aD (ac 7) af (fun _ _=>rfl)) (ae (aq aD (ac 5) af (fun _ _=>rfl)) (ae (aq aD (ac 5) af (fun _ _=>rfl)) ah)))))))))))))))
theorem sc_put:FnScope Ak ["one","tie","bit"] (aj rK):=⟨rfl,rfl,rfl,by decide +kernel,rfl,by decide +kernel,by decide +kernel⟩
theorem Es{f:Addr}{fd:FuncData}{dV:Value}(F:FunV K "put" "put" rK f fd dV)(T:Txt mg)(C_shorter:Cal P w K mg base "shorter" 2 bX [])(C_ties_in_order:Cal P w K mg base "ties_in_order" 1 aN [])(C_has:Cal P w K mg base "has" 1 dF []):FnOk P w K mg base dM 3 f fd ["one","tie","bit"] (f9 K jG):=
 dz (k:=2) (b:=zW) F sc_put fun cdv A outer s H E hr=>(ai (aF 3 sc_put.nd (aC C_shorter (hr.mono (by decide)) rfl (ae (ac 0) (ae (ac 2) (ae (ac 1) ah))))) (ai (gW 4 sc_put.nd (vars:=["other"]) (caps:=[(1,"tie"),(2,"bit")]) (by change BlkOk (aj rK).names Ak _ _ _;exact⟨rfl,by decide +kernel,by decide +kernel,by decide +kernel,by decide +kernel⟩) rfl (aZ (aq aD (ac 3) af (fun _ _=>rfl))) bT (fun _ _ _ _=>bh (i:=0) (show(["other","tie","bit"]:List Str).Nodup by decide +kernel) rfl (Or.inl rfl) (.inr rfl)) (fun _ _ _ _=>(aE (jL hr.units) (ac 0) (ac 1) (aA _))) (fun _ _ _ _=>(zF (dg (aC C_has (hr.mono (by decide)) rfl (ae (ac 0) (ae (ac 2) ah)))) (ak iU (ac 0) (ac 1)) (ac 0)))) (av (aQ (bf (ae (aq aD (ac 3) af (fun _ _=>rfl)) (ae (aq aD (ac 3) af (fun _ _=>rfl)) (ae (aq aD (ac 3) af (fun _ _=>rfl)) (ae (aq aD (ac 3) af (fun _ _=>rfl)) (ae (aC C_ties_in_order (hr.mono (by decide)) rfl (ae (ac 4) ah)) (ae (aq aD (ac 3) af (fun _ _=>rfl)) ah)))))))))))
theorem lY:FnScope N_stepped ["one","step"] (aj fQ):=⟨rfl,rfl,rfl,by decide +kernel,rfl,by decide +kernel,by decide +kernel⟩
theorem rY{f:Addr}{fd:FuncData}{dV:Value}(F:FunV K "stepped" "stepped" fQ f fd dV)(T:Txt mg)(C_put:Cal P w K mg base "put" 3 jG [])(C_fits:Cal P w K mg base "fits" 3 bV [])(C_gone_away:Cal P w K mg base "gone_away" 3 bn [])(E_NoStep:ExcX K "NoStep"):FnOk P w K mg base (tQ P w) 4 f fd ["one","step"] (Gh K cu):=
 J6 (k:=3) (fx:=gB) F lY fun cdv A outer s H E hr=>(qO (F8 (TV.lift (jY (dg (aC C_fits (hr.mono (by decide)) rfl (ae (ac 0) (ae (ac 1) ah)))))) (qO (xT E_NoStep rfl rfl (EV.lift fJ))) Ie))
theorem ut{f:Addr}{fd:FuncData}{dV:Value}(F:FunV K "stepped" "stepped" fQ f fd dV)(T:Txt mg)(C_put:Cal P w K mg base "put" 3 jG [])(C_fits:Cal P w K mg base "fits" 3 bV [])(C_gone_away:Cal P w K mg base "gone_away" 3 bn []):FnOk P w K mg base dM 4 f fd ["one","step"] (f9 K bO):=
 dz (k:=3) (b:=iL) F lY fun cdv A outer s H E hr=>(ai (bS (jY (dg (aC C_fits (hr.mono (by decide)) rfl (ae (ac 0) (ae (ac 1) ah))))) (av F9) bu) (ai (bS (aE (cD hr.units) (aq aD (ac 1) af (fun _ _=>rfl)) fJ (aA _)) (av (aQ (aC C_gone_away (hr.mono (by decide)) rfl (ae (ac 0) (ae (aq aD (ac 1) af (fun _ _=>rfl)) ah))))) bu) (av (aQ (aC C_put (hr.mono (by decide)) rfl (ae (ac 0) (ae (aq aD (ac 1) af (fun _ _=>rfl)) (ae (aq aD (ac 1) af (fun _ _=>rfl)) ah))))))))
theorem sc_led_on:FnScope tP ["thing","steps_for","behind_step"] (aj jq):=⟨rfl,rfl,rfl,by decide +kernel,rfl,by decide +kernel,by decide +kernel⟩
theorem wW{f:Addr}{fd:FuncData}{dV:Value}(F:FunV K "led_on" "led_on" jq f fd dV)(T:Txt mg)(V_steps_of:CalF P w K mg base "steps_of" 3 cn)(V_stepped:CalF P w K mg base "stepped" 4 bO):FnOk P w K mg base dM 5 f fd ["thing","steps_for","behind_step"] (f9 K fV):=
 dz (k:=4) (b:=nH) F sc_led_on fun cdv A outer s H E hr=>(ai (xX 3 sc_led_on.nd ah) (ai (aF 4 sc_led_on.nd (jI 1 (k:=3) (lD (by decide) V_steps_of qD) (hr.mono (by decide)) (ae (ac 0) ah))) (ai (xW (fun _=>wN) PassesOwn.never (aE (jL hr.units) (ac 4) (i9 ah) (aA _)) (ai (tZ 3 (aq aD (ac 4) af (fun _ _=>rfl))) (ai (aF 0 sc_led_on.nd (jI 2 (k:=4) (lD (by decide) V_stepped qD) (hr.mono (by decide)) (ae (ac 0) (ae (aq aD (ac 4) af (fun _ _=>rfl)) ah)))) (av (aF 4 sc_led_on.nd (jI 1 (k:=3) (lD (by decide) V_steps_of qD) (hr.mono (by decide)) (ae (ac 0) ah))))))) (av (kq 3 (aQ (bf (ae (ac 3) (ae (ac 0) ah)))))))))
theorem sc_leads_to:FnScope nM ["thing","steps","last","behind_step"] (aj gg):=⟨rfl,rfl,rfl,by decide +kernel,rfl,by decide +kernel,by decide +kernel⟩
theorem r8{f:Addr}{fd:FuncData}{dV:Value}(F:FunV K "leads_to" "leads_to" gg f fd dV)(T:Txt mg)(V_stepped:CalF P w K mg base "stepped" 4 bO)(Y_stepped:CalX P w K mg base "stepped" 4 cu [])(H_NoStep:Hnd K "NoStep" iH):FnOk P w K mg base dM 5 f fd ["thing","steps","last","behind_step"] (f9 K cW):=
 dz (k:=4) (b:=gD) F sc_leads_to fun cdv A outer s H E hr=>(ai (dY PassesOwn.never rfl (aZ (ac 1)) (b8 4 sc_leads_to.nd) (av (AC H_NoStep rfl rfl rfl (av (aF 0 sc_leads_to.nd (jI 3 (k:=4) (lD (by decide) V_stepped qD) (hr.mono (by decide)) (ae (ac 0) (ae (ac 4) ah))))) (fun _ _=>(qO (Dp 0 sc_leads_to.nd (zB 3 (k:=4) (B5 (by decide) Y_stepped V_stepped E2) (hr.mono (by decide)) (AV.lift (ae (ac 0) (ae (ac 4) ah))))))) (fun _=>(av (aQ jJ)))))) (av (aQ (fK (cD hr.units) (ac 0) (ac 2) (aA _)))))
theorem A6:FnScope Aj ["one"] (aj pU):=⟨rfl,rfl,rfl,by decide +kernel,rfl,by decide +kernel,by decide +kernel⟩
theorem Bx{f:Addr}{fd:FuncData}{dV:Value}(F:FunV K "worn" "worn" pU f fd dV)(T:Txt mg)(C_led_on:Cal P w K mg base "led_on" 5 fV [])(N_stepped:Fnm K mg "stepped")(N_steps_of:Fnm K mg "steps_of"):FnOk P w K mg base dM 6 f fd ["one"] (f9 K fI):=
 dz (k:=5) (b:=uU) F A6 fun cdv A outer s H E hr=>(av (aQ (aC C_led_on (hr.mono (by decide)) rfl (ae (ac 0) (ae (m8 N_steps_of rfl) (ae (m8 N_stepped rfl) ah))))))
theorem kI:FnScope ip ["one","steps","last"] (aj dj):=⟨rfl,rfl,rfl,by decide +kernel,rfl,by decide +kernel,by decide +kernel⟩
theorem kN{f:Addr}{fd:FuncData}{dV:Value}(F:FunV K "chain_stands" "chain_stands" dj f fd dV)(T:Txt mg)(C_leads_to:Cal P w K mg base "leads_to" 5 cW [])(N_stepped:Fnm K mg "stepped"):FnOk P w K mg base dM 6 f fd ["one","steps","last"] (f9 K bQ):=
 dz (k:=5) (b:=eS) F kI fun cdv A outer s H E hr=>(av (aQ (aC C_leads_to (hr.mono (by decide)) rfl (ae (ac 0) (ae (ac 1) (ae (ac 2) (ae (m8 N_stepped rfl) ah)))))))
theorem kK:FnScope iw ["script","k"] (aj dt):=⟨rfl,rfl,rfl,by decide +kernel,rfl,by decide +kernel,by decide +kernel⟩
theorem kP{f:Addr}{fd:FuncData}{dV:Value}(F:FunV K "_law_cell_at" "_law_cell_at" dt f fd dV)(T:Txt mg):FnOk P w K mg base dM 1 f fd ["script","k"] (f9 K aS):=
 dz (k:=0) (b:=dE) F kK fun cdv A outer s H E hr=>(ai (bS (aE Fb (ac 1) (cC pv rfl T.len (by decide +kernel) (ae (ac 0) ah)) (aA _)) (av (aQ (aq aD (ac 0) (ac 1) (fun _ _=>rfl)))) bu) (av (aQ af)))
theorem nS:FnScope jV ["cell"] (aj eB):=⟨rfl,rfl,rfl,by decide +kernel,rfl,by decide +kernel,by decide +kernel⟩
theorem nW{f:Addr}{fd:FuncData}{dV:Value}(F:FunV K "_law_mixed" "_law_mixed" eB f fd dV)(T:Txt mg):FnOk P w K mg base dM 1 f fd ["cell"] (f9 K bi):=
 dz (k:=0) (b:=gG) F nS fun cdv A outer s H E hr=>(av (aQ (ak aT (ak bG (ak kf (ak aT (ac 0) (ak C7 af af)) af) af) af)))
theorem sc__law_add:FnScope je ["turns","bitset","e"] (aj gh):=⟨rfl,rfl,rfl,by decide +kernel,rfl,by decide +kernel,by decide +kernel⟩
theorem qa{f:Addr}{fd:FuncData}{dV:Value}(F:FunV K "_law_add" "_law_add" gh f fd dV)(T:Txt mg):FnOk P w K mg base dM 1 f fd ["turns","bitset","e"] (Ix K aX):=
 J8 (k:=0) (b:=b7) F sc__law_add (by decide) fun cdv A outer s H E hr=>(nk (xV (aE (cD hr.units) (ak aT (ac 1) af) af (aA _)) (nk (rj (tR hr.units) af (ak aT (ak bG (wa 0 (tR hr.units) af (fun _ _=>rfl)) (ac 2)) af)) (nk (u8 2 sc__law_add.nd (ak gL af (ac 2)) (by decide)) (qP (u8 1 sc__law_add.nd (ak gL (ac 1) af) (by decide))))) wo) (qP (xV (aE sZ (ac 1) af (aA _)) (qP (rj (tR hr.units) (ac 1) (ak aT (ak bG (sU 0 (tR hr.units) (ac 1) af ⟨rfl,rfl,rfl,rfl⟩) (ac 2)) af))) wo)))
theorem nR:FnScope gI ["turns"] (aj dq):=⟨rfl,rfl,rfl,by decide +kernel,rfl,by decide +kernel,by decide +kernel⟩
theorem nV{f:Addr}{fd:FuncData}{dV:Value}(F:FunV K "_law_pairs" "_law_pairs" dq f fd dV)(T:Txt mg):FnOk P w K mg base dM 1 f fd ["turns"] (f9 K bc):=
 dz (k:=0) (b:=gF) F nR fun cdv A outer s H E hr=>(av (aQ (bY dB rfl T.tuple (by decide +kernel) (ae (cA (vars:=["bitset"]) (caps:=[(0,"turns")]) (by change BlkOk (aj dq).names gI _ _ _;exact⟨rfl,by decide +kernel,by decide +kernel,by decide +kernel,by decide +kernel⟩) rfl (aZ (pf rfl T.sorted (ac 0))) bT (fun _ _ _ _=>bh (i:=0) (show(["bitset","turns"]:List Str).Nodup by decide +kernel) rfl (Or.inl rfl) (.inr rfl)) (fun _ _ _ _=>(WV.tv (jX (aE sZ (ac 0) af (aA _)) (lm (aE sZ (ij (tR hr.units) (ac 1) (ac 0) (fun _ _=>rfl)) af (aA _)))))) (fun _ _ _ _=>(bf (ae (ac 0) (ae (ij (tR hr.units) (ac 1) (ac 0) (fun _ _=>rfl)) ah))))) ah))))
theorem sc__law_bits_by:FnScope ix ["head","cells","first"] (aj du):=⟨rfl,rfl,rfl,by decide +kernel,rfl,by decide +kernel,by decide +kernel⟩
theorem kQ{f:Addr}{fd:FuncData}{dV:Value}(F:FunV K "_law_bits_by" "_law_bits_by" du f fd dV)(T:Txt mg)(C__law_cell_at:Cal P w K mg base "_law_cell_at" 1 aS []):FnOk P w K mg base dM 2 f fd ["head","cells","first"] (f9 K bj):=
 dz (k:=1) (b:=eT) F sc__law_bits_by fun cdv A outer s H E hr=>(ai (xX 3 sc__law_bits_by.nd ah) (ai (aF 4 sc__law_bits_by.nd (ak gL (ac 2) af)) (ai (dY PassesOwn.never rfl (o6 rfl T.range (ae (ak aT (ak dG (ac 0) af) af) ah)) (b8 5 sc__law_bits_by.nd) (ai (aF 4 sc__law_bits_by.nd (ak bG (ak bG (ac 4) af) (ak aT (aC C__law_cell_at (hr.mono (by decide)) rfl (ae (ac 1) (ae (ac 5) ah))) (aq aD (i9 (ae af (ae af (ae af (ae af ah))))) (ak aT (ak dG (ac 0) af) af) (fun _ _=>rfl))))) (av (tZ 3 (ac 4))))) (av (kq 3 (aQ (ac 3)))))))
theorem sc__law_some_sum:FnScope cT ["head","cells"] (aj bW):=⟨rfl,rfl,rfl,by decide +kernel,rfl,by decide +kernel,by decide +kernel⟩
theorem j6{f:Addr}{fd:FuncData}{dV:Value}(F:FunV K "_law_some_sum" "_law_some_sum" bW f fd dV)(T:Txt mg)(C__law_bits_by:Cal P w K mg base "_law_bits_by" 2 bj [])(C__law_mixed:Cal P w K mg base "_law_mixed" 1 bi []):FnOk P w K mg base dM 3 f fd ["head","cells"] (f9 K bp):=
 dz (k:=2) (b:=ej) F sc__law_some_sum fun cdv A outer s H E hr=>(ai (aF 2 sc__law_some_sum.nd (ak bG af (ak aT (ac 0) af))) (ai (aF 3 sc__law_some_sum.nd (ak aT (ak dG (ac 0) af) af)) (ai (aF 4 sc__law_some_sum.nd (aC C__law_bits_by (hr.mono (by decide)) rfl (ae (ac 0) (ae (ac 1) (ae (ak bG (ak bG (ak kf af (ac 2)) af) (ac 3)) ah))))) (ai (aF 5 sc__law_some_sum.nd (ak bG (Ca rfl T.list rfl T.range (ak bG (ak bG (ak kf af (ac 2)) af) (ac 3))) (ac 4))) (ai (pN 6 sc__law_some_sum.nd) (ai (pN 7 sc__law_some_sum.nd) (ai (dY PassesOwn.never rfl (aZ (ac 1)) (b8 8 sc__law_some_sum.nd) (ai (aF 9 sc__law_some_sum.nd (aC C__law_mixed (hr.mono (by decide)) rfl (ae (ac 8) ah))) (ai (aF 10 sc__law_some_sum.nd (cC (Da rfl) rfl T.sum (by decide +kernel) (ae (cA (vars:=["k"]) (caps:=[(5,"allowed"),(9,"turn")]) (by change BlkOk (aj bW).names cT _ _ _;exact⟨rfl,by decide +kernel,by decide +kernel,by decide +kernel,by decide +kernel⟩) rfl (o6 rfl T.range (ae (cC pv rfl T.len (by decide +kernel) (ae (ac 5) ah)) ah)) bT (fun _ _ _ _=>bh (i:=0) (show(["k","allowed","turn"]:List Str).Nodup by decide +kernel) rfl (Or.inl rfl) (.inr rfl)) (fun _ _ _ _=>(aE (cD hr.units) (ak aT (ak kB (ac 2) (ak bG (ac 0) af)) af) af (aA _))) (fun _ _ _ _=>(ak sY af (aq aD (ac 1) (ac 0) (fun _ _=>rfl))))) ah))) (av (bS (WV.tv (jX (aE (cD hr.units) (ak aT (ac 9) af) af (aA _)) (jX (aE Fb (v9 7 rfl T.len) af (aA _)) (lm (aE sZ (ac 10) af (aA _)))))) (av (jj 7 (tR hr.units) (ac 10) jJ)) (av (bS (WV.tv (jX (aE (jL hr.units) (ak aT (ac 9) af) af (aA _)) (jX (aE sZ (ac 10) af (aA _)) (lm (aE Fb (v9 6 rfl T.len) af (aA _)))))) (av (jj 6 (tR hr.units) (ak gL (ac 10) (ak aT (ac 10) af)) (aq aD (i9 (ae (ak bG af (ak aT (ak dG (ac 9) af) af)) (ae (ak bG af (ak kf af (ak aT (ak dG (ac 9) af) af))) ah))) (cC (H9 rfl) rfl T.min (by decide +kernel) (ae af (ae (ak aT (ak dG (ac 0) af) af) ah))) (fun _ _=>rfl)))) bu))))))) (ai (aF 11 sc__law_some_sum.nd (ak gL (ak aT (ak dG (ac 0) af) af) af)) (ai (bS (aE (cD hr.units) (ak aT (ak dG (ac 0) af) af) af (aA _)) (av (aF 11 sc__law_some_sum.nd (ak gL (ak aT (ak dG (ac 0) af) af) af))) bu) (ai (tY 6 (aF 12 sc__law_some_sum.nd (bY dB rfl T.tuple (by decide +kernel) (ae (lH (vars:=["bitset"]) (caps:=[(6,"turns")]) (by change BlkOk (aj bW).names cT _ _ _;exact⟨rfl,by decide +kernel,by decide +kernel,by decide +kernel,by decide +kernel⟩) rfl (aZ (pf rfl T.sorted (ac 6))) bT (fun _ _ _ _=>bh (i:=0) (show(["bitset","turns"]:List Str).Nodup by decide +kernel) rfl (Or.inl rfl) (.inr rfl)) (fun _ _ _ _=>(bf (ae (ac 0) (ae (ij (tR hr.units) (ac 1) (ac 0) (fun _ _=>rfl)) ah))))) ah)))) (av (aQ (bf (ae (bf (ae (ac 2) (ae (ac 3) ah))) (ae (ac 11) (ae (ak aT (ak dG (ac 0) af) af) (ae (ac 12) (ae (bY dB rfl T.tuple (by decide +kernel) (ae (sT 7 rfl T.sorted) ah)) (ae (bY dB rfl T.tuple (by decide +kernel) (ae (ac 4) ah)) ah)))))))))))))))))))
theorem sc__law_fits_away:FnScope dL ["one","bit"] (aj b9):=⟨rfl,rfl,rfl,by decide +kernel,rfl,by decide +kernel,by decide +kernel⟩
theorem jt{f:Addr}{fd:FuncData}{dV:Value}(F:FunV K "_law_fits_away" "_law_fits_away" b9 f fd dV)(T:Txt mg):FnOk P w K mg base dM 1 f fd ["one","bit"] (f9 K cf):=
 dz (k:=0) (b:=fY) F sc__law_fits_away fun cdv A outer s H E hr=>(ai (dY PassesOwn.never rfl (aZ (aq aD (ac 0) af (fun _ _=>rfl))) (b8 2 sc__law_fits_away.nd) (av (bS (aE (cD hr.units) (ak aT (ak kB (ac 2) (ac 1)) af) af (aA _)) (av (aQ jJ)) bu))) (av (aQ (fK (cD hr.units) (cC pv rfl T.len (by decide +kernel) (ae (cA (vars:=["pair"]) (caps:=[(1,"bit")]) (by change BlkOk (aj b9).names dL _ _ _;exact⟨rfl,by decide +kernel,by decide +kernel,by decide +kernel,by decide +kernel⟩) rfl (aZ (aq aD (ac 0) af (fun _ _=>rfl))) bT (fun _ _ _ _=>bh (i:=0) (show(["pair","bit"]:List Str).Nodup by decide +kernel) rfl (Or.inl rfl) (.inr rfl)) (fun _ _ _ _=>(WV.tv (jX (aE (cD hr.units) (ak aT (ak kB (aq aD (ac 0) af (fun _ _=>rfl)) (ac 1)) af) af (aA _)) (lm (aE (cD hr.units) (ak aT (aq aD (ac 0) af (fun _ _=>rfl)) af) af (aA _)))))) (fun _ _ _ _=>(ac 0))) ah)) af (aA _)))))
theorem sc__law_steps:FnScope eI ["one"] (aj cE):=⟨rfl,rfl,rfl,by decide +kernel,rfl,by decide +kernel,by decide +kernel⟩
theorem nU{f:Addr}{fd:FuncData}{dV:Value}(F:FunV K "_law_steps" "_law_steps" cE f fd dV)(T:Txt mg)(C__law_fits_away:Cal P w K mg base "_law_fits_away" 1 cf []):FnOk P w K mg base dM 2 f fd ["one"] (f9 K bb):=
 dz (k:=1) (b:=jS) F sc__law_steps fun cdv A outer s H E hr=>(ai (gW 1 sc__law_steps.nd (vars:=["bit"]) (caps:=[(0,"one")]) (by change BlkOk (aj cE).names eI _ _ _;exact⟨rfl,by decide +kernel,by decide +kernel,by decide +kernel,by decide +kernel⟩) rfl (aZ (aq aD (ac 0) af (fun _ _=>rfl))) bT (fun _ _ _ _=>bh (i:=0) (show(["bit","one"]:List Str).Nodup by decide +kernel) rfl (Or.inl rfl) (.inr rfl)) (fun _ _ _ _=>(dg (aC C__law_fits_away (hr.mono (by decide)) rfl (ae (ac 1) (ae (ac 0) ah))))) (fun _ _ _ _=>(bf (ae fJ (ae (ac 0) ah))))) (ai (dY PassesOwn.never rfl (aZ (aq aD (ac 0) af (fun _ _=>rfl))) (b8 2 sc__law_steps.nd) (av (aF 1 sc__law_steps.nd (ak bG (ac 1) (cA (vars:=["bit"]) (caps:=[(2,"tie")]) (by change BlkOk (aj cE).names eI _ _ _;exact⟨rfl,by decide +kernel,by decide +kernel,by decide +kernel,by decide +kernel⟩) rfl (aZ (aq aD (ac 0) af (fun _ _=>rfl))) bT (fun _ _ _ _=>bh (i:=0) (show(["bit","tie"]:List Str).Nodup by decide +kernel) rfl (Or.inl rfl) (.inr rfl)) (fun _ _ _ _=>(aE (cD hr.units) (ak aT (ak kB (ac 1) (ac 0)) af) af (aA _))) (fun _ _ _ _=>(bf (ae fJ (ae (ac 1) (ae (ac 0) ah)))))))))) (av (aQ (ac 1)))))
theorem sc__law_tied:FnScope kG ["ties"] (aj eX):=⟨rfl,rfl,rfl,by decide +kernel,rfl,by decide +kernel,by decide +kernel⟩
theorem qf{f:Addr}{fd:FuncData}{dV:Value}(F:FunV K "_law_tied" "_law_tied" eX f fd dV)(T:Txt mg):FnOk P w K mg base dM 1 f fd ["ties"] (f9 K bE):=
 dz (k:=0) (b:=im) F sc__law_tied fun cdv A outer s H E hr=>(ai (pN 1 sc__law_tied.nd) (ai (dY PassesOwn.never rfl (aZ (ac 0)) (b8 2 sc__law_tied.nd) (av (bS (aE sZ (ac 2) af (aA _)) (av (jj 1 (tR hr.units) (ac 2) jJ)) bu))) (av (aQ (bY dB rfl T.tuple (by decide +kernel) (ae (sT 1 rfl T.sorted) ah))))))
theorem sc__law_gone:FnScope iu ["one","bit"] (aj dR):=⟨rfl,rfl,rfl,by decide +kernel,rfl,by decide +kernel,by decide +kernel⟩
theorem qg{f:Addr}{fd:FuncData}{dV:Value}(F:FunV K "_law_gone" "_law_gone" dR f fd dV)(T:Txt mg)(C__law_tied:Cal P w K mg base "_law_tied" 1 bE [])(C__law_pairs:Cal P w K mg base "_law_pairs" 1 bc [])(M__law_add:CalM P w K mg base "_law_add" 1 aX):FnOk P w K mg base dM 2 f fd ["one","bit"] (f9 K bq):=
 dz (k:=1) (b:=df) F sc__law_gone fun cdv A outer s H E hr=>(ai (va 2 sc__law_gone.nd af (aq aD (ac 0) af (fun _ _=>rfl))) (ai (aF 3 sc__law_gone.nd af) (ai (aF 4 sc__law_gone.nd af) (ai (dY PassesOwn.never rfl (aZ (aq aD (ac 0) af (fun _ _=>rfl))) (uG rfl (fU (b8 5 sc__law_gone.nd) (fU (b8 6 sc__law_gone.nd) qE))) (av (bS (aE (cD hr.units) (ak aT (ak kB (ac 5) (ac 1)) af) af (aA _)) (av (pM 2 M__law_add (hr.mono (by decide)) rfl (ae (ac 5) (ae (ac 6) ah)))) (ai (pM 2 M__law_add (hr.mono (by decide)) rfl (ae (ak gL (ac 5) (ak sY af (ac 1))) (ae (ac 6) ah))) (ai (aF 3 sc__law_gone.nd (ak aT (ak bG (ac 3) (ac 6)) af)) (av (bS (WV.tv (ot (aE (cD hr.units) (ac 6) af (aA _)) (lN (aE (cD hr.units) (ac 6) af (aA _))))) (av (aF 4 sc__law_gone.nd (ak iU (ac 4) (ak gL (ac 5) (ak sY af (ac 1)))))) bu))))))) (ai (aF 7 sc__law_gone.nd (ak bG (ak gL (aq aD (ac 0) af (fun _ _=>rfl)) af) (ak dG (ak aT (ac 3) af) af))) (ai (aF 8 sc__law_gone.nd (aq aD (ac 0) af (fun _ _=>rfl))) (ai (bS (WV.tv (ot (aE (cD hr.units) (ac 3) af (aA _)) (lN (aE (cD hr.units) (ac 3) af (aA _))))) (av (aF 8 sc__law_gone.nd (aC C__law_tied (hr.mono (by decide)) rfl (ae (ak bG (ac 8) (bf (ae (ak iU (ac 4) (ak dG (ac 3) af)) ah))) ah)))) (ai (jj 2 (tR hr.units) af (ak aT (ak bG (wa 2 (tR hr.units) af (fun _ _=>rfl)) (aq aD (i9 (ae af (ae af ah))) (ak dG (ac 3) af) (fun _ _=>rfl))) af)) (av (pM 2 M__law_add (hr.mono (by decide)) rfl (ae (ac 4) (ae (aq aD (i9 (ae af (ae af ah))) (ak dG (ac 3) af) (fun _ _=>rfl)) ah)))))) (av (tY 2 (aQ (bf (ae (aq aD (ac 0) af (fun _ _=>rfl)) (ae (ac 7) (ae (ij (tR hr.units) (ac 2) af (fun _ _=>rfl)) (ae (aC C__law_pairs (hr.mono (by decide)) rfl (ae (ac 2) ah)) (ae (ac 8) (ae (bY dB rfl T.tuple (by decide +kernel) (ae (cA (vars:=["b"]) (caps:=[(1,"bit")]) (by change BlkOk (aj dR).names iu _ _ _;exact⟨rfl,by decide +kernel,by decide +kernel,by decide +kernel,by decide +kernel⟩) rfl (aZ (aq aD (ac 0) af (fun _ _=>rfl))) bT (fun _ _ _ _=>bh (i:=0) (show(["b","bit"]:List Str).Nodup by decide +kernel) rfl (Or.inl rfl) (.inr rfl)) (fun _ _ _ _=>(aE (jL hr.units) (ac 0) (ac 1) (aA _))) (fun _ _ _ _=>(ac 0))) ah)) ah)))))))))))))))))
theorem sc__law_put:FnScope gH ["one","tie","bit"] (aj dJ):=⟨rfl,rfl,rfl,by decide +kernel,rfl,by decide +kernel,by decide +kernel⟩
theorem r9{f:Addr}{fd:FuncData}{dV:Value}(F:FunV K "_law_put" "_law_put" dJ f fd dV)(T:Txt mg)(C__law_tied:Cal P w K mg base "_law_tied" 1 bE [])(C__law_pairs:Cal P w K mg base "_law_pairs" 1 bc [])(M__law_add:CalM P w K mg base "_law_add" 1 aX):FnOk P w K mg base dM 2 f fd ["one","tie","bit"] (f9 K cz):=
 dz (k:=1) (b:=jd) F sc__law_put fun cdv A outer s H E hr=>(ai (va 3 sc__law_put.nd af (aq aD (ac 0) af (fun _ _=>rfl))) (ai (dY PassesOwn.never rfl (aZ (aq aD (ac 0) af (fun _ _=>rfl))) (uG rfl (fU (b8 4 sc__law_put.nd) (fU (b8 5 sc__law_put.nd) qE))) (av (pM 3 M__law_add (hr.mono (by decide)) rfl (ae (ak iU (ac 4) (ak kf (ac 1) (ak aT (ak kB (ac 4) (ac 2)) af))) (ae (ac 5) ah))))) (ai (aF 6 sc__law_put.nd (aC C__law_tied (hr.mono (by decide)) rfl (ae (lH (vars:=["other"]) (caps:=[(1,"tie"),(2,"bit")]) (by change BlkOk (aj dJ).names gH _ _ _;exact⟨rfl,by decide +kernel,by decide +kernel,by decide +kernel,by decide +kernel⟩) rfl (aZ (aq aD (ac 0) af (fun _ _=>rfl))) bT (fun _ _ _ _=>bh (i:=0) (show(["other","tie","bit"]:List Str).Nodup by decide +kernel) rfl (Or.inl rfl) (.inr rfl)) (fun _ _ _ _=>(ak iU (ac 0) (ak kf (ac 1) (ak aT (ak kB (ac 0) (ac 2)) af))))) ah))) (av (tY 3 (aQ (bf (ae (aq aD (ac 0) af (fun _ _=>rfl)) (ae (aq aD (ac 0) af (fun _ _=>rfl)) (ae (ij (tR hr.units) (ac 3) af (fun _ _=>rfl)) (ae (aC C__law_pairs (hr.mono (by decide)) rfl (ae (ac 3) ah)) (ae (ac 6) (ae (bY dB rfl T.tuple (by decide +kernel) (ae (cA (vars:=["b"]) (caps:=[(2,"bit")]) (by change BlkOk (aj dJ).names gH _ _ _;exact⟨rfl,by decide +kernel,by decide +kernel,by decide +kernel,by decide +kernel⟩) rfl (aZ (aq aD (ac 0) af (fun _ _=>rfl))) bT (fun _ _ _ _=>bh (i:=0) (show(["b","bit"]:List Str).Nodup by decide +kernel) rfl (Or.inl rfl) (.inr rfl)) (fun _ _ _ _=>(aE (jL hr.units) (ac 0) (ac 1) (aA _))) (fun _ _ _ _=>(ac 0))) ah)) ah)))))))))))))
theorem kJ:FnScope ir ["one","step"] (aj dl):=⟨rfl,rfl,rfl,by decide +kernel,rfl,by decide +kernel,by decide +kernel⟩
theorem kO{f:Addr}{fd:FuncData}{dV:Value}(F:FunV K "_law_stepped" "_law_stepped" dl f fd dV)(T:Txt mg)(C__law_put:Cal P w K mg base "_law_put" 2 cz [])(C__law_gone:Cal P w K mg base "_law_gone" 2 bq []):FnOk P w K mg base dM 3 f fd ["one","step"] (f9 K ba):=
 dz (k:=2) (b:=dD) F kJ fun cdv A outer s H E hr=>(ai (bS (aE (cD hr.units) (aq aD (ac 1) af (fun _ _=>rfl)) fJ (aA _)) (av (aQ (aC C__law_gone (hr.mono (by decide)) rfl (ae (ac 0) (ae (aq aD (ac 1) af (fun _ _=>rfl)) ah))))) bu) (av (aQ (aC C__law_put (hr.mono (by decide)) rfl (ae (ac 0) (ae (aq aD (ac 1) af (fun _ _=>rfl)) (ae (aq aD (ac 1) af (fun _ _=>rfl)) ah)))))))
theorem sc__law_walk:FnScope kF ["one","steps"] (aj eW):=⟨rfl,rfl,rfl,by decide +kernel,rfl,by decide +kernel,by decide +kernel⟩
theorem qe{f:Addr}{fd:FuncData}{dV:Value}(F:FunV K "_law_walk" "_law_walk" eW f fd dV)(T:Txt mg)(C__law_stepped:Cal P w K mg base "_law_stepped" 3 ba [])(C__law_steps:Cal P w K mg base "_law_steps" 2 bb []):FnOk P w K mg base dM 4 f fd ["one","steps"] (f9 K bo):=
 dz (k:=3) (b:=fC) F sc__law_walk fun cdv A outer s H E hr=>(ai (dY PassesOwn.never rfl (aZ (ac 1)) (b8 2 sc__law_walk.nd) (ai (bS (aE (zP (Ja hr)) (ac 2) (aC C__law_steps (hr.mono (by decide)) rfl (ae (ac 0) ah)) (by with_unfolding_all rfl)) (av (aQ E4)) bu) (av (aF 0 sc__law_walk.nd (aC C__law_stepped (hr.mono (by decide)) rfl (ae (ac 0) (ae (ac 2) ah))))))) (av (aQ (ac 0))))
theorem sc__law_spoilt:FnScope dP ["steps","last","turn"] (aj cP):=⟨rfl,rfl,rfl,by decide +kernel,rfl,by decide +kernel,by decide +kernel⟩
theorem mH{f:Addr}{fd:FuncData}{dV:Value}(F:FunV K "_law_spoilt" "_law_spoilt" cP f fd dV)(T:Txt mg):FnOk P w K mg base dM 1 f fd ["steps","last","turn"] (f9 K b6):=
 dz (k:=0) (b:=fM) F sc__law_spoilt fun cdv A outer s H E hr=>(ai (kq 0 (u9 0 sc__law_spoilt.nd (wc rfl T.list (ae (ac 0) ah)))) (ai (bS (aE (cD hr.units) (ak aT (ac 2) af) af (aA _)) (av (aF 1 sc__law_spoilt.nd (ak bG (bf (ae (aq aD (ac 1) af (fun _ _=>rfl)) (ae (aq aD (ac 1) af (fun _ _=>rfl)) (ae (ak aT (ak bG (aq aD (ac 1) af (fun _ _=>rfl)) af) af) ah)))) (dA (ac 1) (cS af) fm)))) bu) (ai (bS (aE (cD hr.units) (ak aT (ac 2) af) af (aA _)) (ai (oz 3 sc__law_spoilt.nd (vars:=["tie"]) (caps:=[]) (by change BlkOk (aj cP).names dP _ _ _;exact⟨rfl,by decide +kernel,by decide +kernel,by decide +kernel,by decide +kernel⟩) rfl (aZ (aq aD (ac 1) af (fun _ _=>rfl))) bT (fun _ _ _ _=>bh (i:=0) (show(["tie"]:List Str).Nodup by decide +kernel) rfl (Or.inl rfl) (.inr rfl)) (fun _ _ _ _=>(aE (jL hr.units) (ac 0) af (aA _))) (fun _ _ _ _=>(ac 0))) (ai (bS (aE (cD hr.units) (lG 3 rfl T.len) (cC pv rfl T.len (by decide +kernel) (ae (aq aD (ac 1) af (fun _ _=>rfl)) ah)) (aA _)) (av (tZ 3 af)) bu) (av (kq 3 (aF 1 sc__law_spoilt.nd (ak bG (dA (ac 1) fm (cS af)) (bf (ae (bY dB rfl T.tuple (by decide +kernel) (ae (zE rfl T.sorted (ac 3)) ah)) (ae (aq aD (ac 1) af (fun _ _=>rfl)) ah))))))))) bu) (ai (bS (aE (cD hr.units) (ak aT (ac 2) af) af (aA _)) (ai (aF 4 sc__law_spoilt.nd (dA (aq aD (ac 1) af (fun _ _=>rfl)) (cS af) fm)) (ai (bS (aE (cD hr.units) (aq aD (ac 1) af (fun _ _=>rfl)) (bf ah) (aA _)) (av (aF 4 sc__law_spoilt.nd (bf (ae (bf (ae af (ae (ak bG af (ak aT (ak dG (ac 2) af) af)) ah))) ah)))) bu) (av (aF 1 sc__law_spoilt.nd (ak bG (ak bG (dA (ac 1) fm (cS af)) (bf (ae (ac 4) ah))) (dA (ac 1) (cS af) fm)))))) bu) (ai (bS (aE (cD hr.units) (ak aT (ac 2) af) af (aA _)) (av (xY 0 (ak aT (ak dG (ac 2) af) (ak bG (lG 0 rfl T.len) af)) (bf (ae fJ (ae af (ae af ah)))))) bu) (ai (bS (aE sZ (lG 0 rfl T.len) af (aA _)) (ai (aF 5 sc__law_spoilt.nd (ak aT (ak dG (ac 2) af) (lG 0 rfl T.len))) (ai (bS (aE (cD hr.units) (ak aT (ac 2) af) af (aA _)) (av (Dr 0 (ac 5))) bu) (ai (bS (aE (cD hr.units) (ak aT (ac 2) af) af (aA _)) (av (xY 0 (ac 5) (E5 0 (ac 5) (fun _ _=>rfl)))) bu) (av (bS (aE (cD hr.units) (ak aT (ac 2) af) af (aA _)) (ai (kq 0 (u9 6 sc__law_spoilt.nd (zM (ac 0) (cS (ac 5)) (cS (ak bG (ac 5) af))))) (ai (Dq 6) (av (kq 6 (aF 0 sc__law_spoilt.nd (ak bG (ak bG (dA (ac 0) fm (cS (ac 5))) (ac 6)) (dA (ac 0) (cS (ak bG (ac 5) af)) fm))))))) bu))))) bu) (av (kq 0 (aQ (bf (ae (ac 0) (ae (ac 1) ah))))))))))))
theorem sc__law_believed:FnScope gM ["one","steps","last"] (aj cR):=⟨rfl,rfl,rfl,by decide +kernel,rfl,by decide +kernel,by decide +kernel⟩
theorem j7{f:Addr}{fd:FuncData}{dV:Value}(F:FunV K "_law_believed" "_law_believed" cR f fd dV)(T:Txt mg)(C_chain_stands:Cal P w K mg base "chain_stands" 6 bQ [])(C__law_walk:Cal P w K mg base "_law_walk" 4 bo []):FnOk P w K mg base dM 7 f fd ["one","steps","last"] (f9 K aV):=
 dz (k:=6) (b:=en) F sc__law_believed fun cdv A outer s H E hr=>(ai (aF 3 sc__law_believed.nd (bY Fd rfl T.list (by decide +kernel) (ae (ac 1) ah))) (ai (aF 4 sc__law_believed.nd (aC C_chain_stands (hr.mono (by decide)) rfl (ae (ac 0) (ae (ac 3) (ae (ac 2) ah))))) (ai (aF 5 sc__law_believed.nd (fK (cD hr.units) (aC C__law_walk (hr.mono (by decide)) rfl (ae (ac 0) (ae (ac 1) ah))) (ac 2) (aA _))) (av (aQ (m9 (uK (T:="bool") rfl T.isinstance rfl T.bool (by decide +kernel) (by decide) (by decide) (ac 4)) (m9 (fK (cD hr.units) (ac 4) (ac 5) (aA _)) (uJ (fK (cD hr.units) (ac 3) (ac 1) (aA _))))))))))
theorem sc_law:FnScope wy ["script"] (aj jr):=⟨rfl,rfl,rfl,by decide +kernel,rfl,by decide +kernel,by decide +kernel⟩
theorem Et{f:Addr}{fd:FuncData}{dV:Value}(F:FunV K "law" "law" jr f fd dV)(T:Txt mg)(C__law_some_sum:Cal P w K mg base "_law_some_sum" 3 bp [])(C_worn:Cal P w K mg base "worn" 6 fI [])(C__law_mixed:Cal P w K mg base "_law_mixed" 1 bi [])(C__law_spoilt:Cal P w K mg base "_law_spoilt" 1 b6 [])(C__law_believed:Cal P w K mg base "_law_believed" 7 aV [])(C__law_cell_at:Cal P w K mg base "_law_cell_at" 1 aS [])(C__law_walk:Cal P w K mg base "_law_walk" 4 bo [])(C__law_steps:Cal P w K mg base "_law_steps" 2 bb [])(L_K:NoL K):FnOk P w K mg base dM 8 f fd ["script"] (AS K sR):=
 J9 (k:=7) (b:=zX) F sc_law (by decide) rfl L_K fun cdv A outer s H E hr=>(zZ 1 sc_law.nd (ak aT (aC C__law_cell_at (hr.mono (by decide)) rfl (ae (ac 0) (ae af ah))) (ak C7 af af)) (by decide) (zZ 2 sc_law.nd (aC C__law_some_sum (hr.mono (by decide)) rfl (ae (ac 1) (ae (dA (ac 0) (cS af) (cS af)) ah))) (by decide) (Cn 3 sc_law.nd L_K C_worn (hr.mono (by decide)) rfl (ae (ac 2) ah) (by decide) (gC (ua (WV.tv (ot (jY (dg (uK (T:="tuple") rfl T.isinstance rfl T.tuple (by decide +kernel) (by decide) (by decide) (ac 3)))) (ot (aE (jL hr.units) (cC pv rfl T.len (by decide +kernel) (ae (ac 3) ah)) af (aA _)) (lN (jY (dg (uK (T:="list") rfl T.isinstance rfl T.list (by decide +kernel) (by decide) (by decide) (aq aD (ac 3) af (fun _ _=>rfl))))))))) jJ) (gC (ua (WV.tv (ot (aE (jL hr.units) (aC C__law_walk (hr.mono (by decide)) rfl (ae (ac 2) (ae (aq aD (ac 3) af (fun _ _=>rfl)) ah))) (aq aD (ac 3) af (fun _ _=>rfl)) (aA _)) (lN (aE sZ (cC pv rfl T.len (by decide +kernel) (ae (aC C__law_steps (hr.mono (by decide)) rfl (ae (aq aD (ac 3) af (fun _ _=>rfl)) ah)) ah)) af (aA _))))) jJ) (gC (AI 4 sc_law.nd (wc rfl T.list (ae (aq aD (ac 3) af (fun _ _=>rfl)) ah)) (by decide) (by decide)) (gC (AJ (by decide) (bf (ae fJ (ae af ah)))) (gC (Du 5 sc_law.nd (aC C_worn (hr.mono (by decide)) rfl (ae (ac 2) ah)) (by decide) (by decide)) (gC (ua (Av 4 (WV.tv (ot (aE (jL hr.units) (aq aD (ac 5) af (fun _ _=>rfl)) (ac 4) (aA _)) (lN (aE (jL hr.units) (aq aD (ac 5) af (fun _ _=>rfl)) (aq aD (ac 3) af (fun _ _=>rfl)) (aA _)))))) jJ) (gC (AH (by decide)) (Ig (Ij (ai (aF 6 sc_law.nd (aC C__law_mixed (hr.mono (by decide)) rfl (ae (aq aD (ak bG (dA (ac 0) (cS (C5 C8 af)) fm) (i9 (ae af ah))) af (fun _ _=>rfl)) ah))) (ai (Ds (aC C__law_spoilt (hr.mono (by decide)) rfl (ae (aq aD (ac 3) af (fun _ _=>rfl)) (ae (aq aD (ac 3) af (fun _ _=>rfl)) (ae (ac 6) ah)))) (uG rfl (fU (b8 7 sc_law.nd) (fU (b8 8 sc_law.nd) qE)))) (ai (bS (jY (dg (aC C__law_believed (hr.mono (by decide)) rfl (ae (ac 2) (ae (aq aD (ac 3) af (fun _ _=>rfl)) (ae (aq aD (ac 3) af (fun _ _=>rfl)) ah)))))) (av (aQ jJ)) bu) (av (aQ (aC C__law_believed (hr.mono (by decide)) rfl (ae (ac 2) (ae (ac 7) (ae (ac 8) ah)))))))))))))))))))))
end
theorem qU:aP "all_added" dQ ["turn","turns","pairs"]:=fun _ _ _ _ _ _ us hl=>by obtain⟨_,_,_,rfl⟩:=mR hl;exact rfl
theorem ki:aP "ties_in_order" cq ["ties"]:=fun _ _ _ _ _ _ us hl=>by obtain⟨_,rfl⟩:=qu hl;exact rfl
theorem Fh:aP "has" vh ["bitset","bit"]:=fun _ _ _ _ _ _ us hl=>by obtain⟨_,_,rfl⟩:=kS hl;exact rfl
theorem qT:aP "goes_away" db ["one","bit"]:=fun _ _ _ _ _ _ us hl=>by obtain⟨_,_,rfl⟩:=kS hl;exact rfl
theorem tG:aP "steps_of" dH ["one"]:=fun _ _ _ _ _ _ us hl=>by obtain⟨_,rfl⟩:=qu hl;exact rfl
theorem Cl:aP "fits" pV ["one","step"]:=fun _ _ _ _ _ _ us hl=>by obtain⟨_,_,rfl⟩:=kS hl;exact rfl
theorem uT:aP "shorter" dI ["one","bit","change"]:=fun _ _ _ _ _ _ us hl=>by obtain⟨_,_,_,rfl⟩:=mR hl;exact rfl
theorem tH:aP "odd_part" gd ["pairs"]:=fun _ _ _ _ _ _ us hl=>by obtain⟨_,rfl⟩:=qu hl;exact rfl
theorem qS:aP "gone_away" da ["one","bit"]:=fun _ _ _ _ _ _ us hl=>by obtain⟨_,_,rfl⟩:=kS hl;exact rfl
theorem Ff:aP "put" rK ["one","tie","bit"]:=fun _ _ _ _ _ _ us hl=>by obtain⟨_,_,_,rfl⟩:=mR hl;exact rfl
theorem nC:aP "stepped" fQ ["one","step"]:=fun _ _ _ _ _ _ us hl=>by obtain⟨_,_,rfl⟩:=kS hl;exact rfl
theorem xF:aP "led_on" jq ["thing","steps_for","behind_step"]:=fun _ _ _ _ _ _ us hl=>by obtain⟨_,_,_,rfl⟩:=mR hl;exact rfl
theorem tI:aP "leads_to" gg ["thing","steps","last","behind_step"]:=fun _ _ _ _ _ _ us hl=>by obtain⟨_,_,_,_,rfl⟩:=JO hl;exact rfl
theorem Ck:aP "worn" pU ["one"]:=fun _ _ _ _ _ _ us hl=>by obtain⟨_,rfl⟩:=qu hl;exact rfl
theorem lg:aP "chain_stands" dj ["one","steps","last"]:=fun _ _ _ _ _ _ us hl=>by obtain⟨_,_,_,rfl⟩:=mR hl;exact rfl
theorem li:aP "_law_cell_at" dt ["script","k"]:=fun _ _ _ _ _ _ us hl=>by obtain⟨_,_,rfl⟩:=kS hl;exact rfl
theorem oq:aP "_law_mixed" eB ["cell"]:=fun _ _ _ _ _ _ us hl=>by obtain⟨_,rfl⟩:=qu hl;exact rfl
theorem tK:aP "_law_add" gh ["turns","bitset","e"]:=fun _ _ _ _ _ _ us hl=>by obtain⟨_,_,_,rfl⟩:=mR hl;exact rfl
theorem oo:aP "_law_pairs" dq ["turns"]:=fun _ _ _ _ _ _ us hl=>by obtain⟨_,rfl⟩:=qu hl;exact rfl
theorem lj:aP "_law_bits_by" du ["head","cells","first"]:=fun _ _ _ _ _ _ us hl=>by obtain⟨_,_,_,rfl⟩:=mR hl;exact rfl
theorem kj:aP "_law_some_sum" bW ["head","cells"]:=fun _ _ _ _ _ _ us hl=>by obtain⟨_,_,rfl⟩:=kS hl;exact rfl
theorem jR:aP "_law_fits_away" b9 ["one","bit"]:=fun _ _ _ _ _ _ us hl=>by obtain⟨_,_,rfl⟩:=kS hl;exact rfl
theorem om:aP "_law_steps" cE ["one"]:=fun _ _ _ _ _ _ us hl=>by obtain⟨_,rfl⟩:=qu hl;exact rfl
theorem qW:aP "_law_tied" eX ["ties"]:=fun _ _ _ _ _ _ us hl=>by obtain⟨_,rfl⟩:=qu hl;exact rfl
theorem qX:aP "_law_gone" dR ["one","bit"]:=fun _ _ _ _ _ _ us hl=>by obtain⟨_,_,rfl⟩:=kS hl;exact rfl
theorem tJ:aP "_law_put" dJ ["one","tie","bit"]:=fun _ _ _ _ _ _ us hl=>by obtain⟨_,_,_,rfl⟩:=mR hl;exact rfl
theorem lh:aP "_law_stepped" dl ["one","step"]:=fun _ _ _ _ _ _ us hl=>by obtain⟨_,_,rfl⟩:=kS hl;exact rfl
theorem qV:aP "_law_walk" eW ["one","steps"]:=fun _ _ _ _ _ _ us hl=>by obtain⟨_,_,rfl⟩:=kS hl;exact rfl
theorem nD:aP "_law_spoilt" cP ["steps","last","turn"]:=fun _ _ _ _ _ _ us hl=>by obtain⟨_,_,_,rfl⟩:=mR hl;exact rfl
theorem kl:aP "_law_believed" cR ["one","steps","last"]:=fun _ _ _ _ _ _ us hl=>by obtain⟨_,_,_,rfl⟩:=mR hl;exact rfl
theorem Fk{l:PySem.W.OpenLaw}{w:World}{K:PySem.W.Frag}{h:Heap}{mg:Str->Option Value}{fa f30 xc_NoStep:Addr}{od30 an30:Option Addr}{sl30:Array (Option Value)}{oc30 kV30 dc30 pm30 cd30 ct30:Value}(X:K.In h)(G:h.Ns mainGlobals mg)(hfa:mg "law" = some (.ref fa))
  (D0:DefIn K "all_added" "all_added" dQ)
  (D1:DefIn K "ties_in_order" "ties_in_order" cq)
  (D2:DefIn K "has" "has" vh)
  (D3:DefIn K "goes_away" "goes_away" db)
  (D4:DefIn K "steps_of" "steps_of" dH)
  (D5:DefIn K "fits" "fits" pV)
  (D6:DefIn K "shorter" "shorter" dI)
  (D7:DefIn K "odd_part" "odd_part" gd)
  (D8:DefIn K "gone_away" "gone_away" da)
  (D9:DefIn K "put" "put" rK)
  (D10:DefIn K "stepped" "stepped" fQ)
  (D11:DefIn K "led_on" "led_on" jq)
  (D12:DefIn K "leads_to" "leads_to" gg)
  (D13:DefIn K "worn" "worn" pU)
  (D14:DefIn K "chain_stands" "chain_stands" dj)
  (D15:DefIn K "_law_cell_at" "_law_cell_at" dt)
  (D16:DefIn K "_law_mixed" "_law_mixed" eB)
  (D17:DefIn K "_law_add" "_law_add" gh)
  (D18:DefIn K "_law_pairs" "_law_pairs" dq)
  (D19:DefIn K "_law_bits_by" "_law_bits_by" du)
  (D20:DefIn K "_law_some_sum" "_law_some_sum" bW)
  (D21:DefIn K "_law_fits_away" "_law_fits_away" b9)
  (D22:DefIn K "_law_steps" "_law_steps" cE)
  (D23:DefIn K "_law_tied" "_law_tied" eX)
  (D24:DefIn K "_law_gone" "_law_gone" dR)
  (D25:DefIn K "_law_put" "_law_put" dJ)
  (D26:DefIn K "_law_stepped" "_law_stepped" dl)
  (D27:DefIn K "_law_walk" "_law_walk" eW)
  (D28:DefIn K "_law_spoilt" "_law_spoilt" cP)
  (D29:DefIn K "_law_believed" "_law_believed" cR)
  (a30:PySem.W.nsIn K mainGlobals "law" = some (some (.ref f30))) (l30:K.lookup f30=some ⟨oc30,od30,.func (PySem.W.fnOf "law" "law" (fA jr) (cK jr) (aj jr) .none kV30 dc30 pm30 an30 cd30 ct30),sl30⟩) (c30:PySem.W.codeIn K cd30 "law" = true) (k30:PySem.W.keepIn K (.ref f30)=true)
  (z_dict:PySem.W.nsIn K mainGlobals "dict" = some none)
  (z_tuple:PySem.W.nsIn K mainGlobals "tuple" = some none)
  (z_sorted:PySem.W.nsIn K mainGlobals "sorted" = some none)
  (z_set:PySem.W.nsIn K mainGlobals "set" = some none)
  (z_any:PySem.W.nsIn K mainGlobals "any" = some none)
  (z_all:PySem.W.nsIn K mainGlobals "all" = some none)
  (z_sum:PySem.W.nsIn K mainGlobals "sum" = some none)
  (z_len:PySem.W.nsIn K mainGlobals "len" = some none)
  (z_range:PySem.W.nsIn K mainGlobals "range" = some none)
  (z_list:PySem.W.nsIn K mainGlobals "list" = some none)
  (z_min:PySem.W.nsIn K mainGlobals "min" = some none)
  (z_isinstance:PySem.W.nsIn K mainGlobals "isinstance" = some none)
  (z_bool:PySem.W.nsIn K mainGlobals "bool" = some none)
  (xn_NoStep:PySem.W.nsIn K mainGlobals "NoStep" = some (some (.ref xc_NoStep)))
  (xe_NoStep:PySem.W.excIn K xc_NoStep [.type "ValueError",.type "Exception",.type "BaseException",.type "object"] "ValueError.__new__" = true)
  (xga_NoStep:findIn K (.ref xc_NoStep) "__getattribute__" = some (some (.builtin "BaseException.__getattribute__")))
  (xgt_NoStep:findIn K (.ref xc_NoStep) "__getattr__" = some none)
  (xcl_NoStep:findIn K (.ref xc_NoStep) "__class__" = some (some (.builtin "object.__class__")))
  (xmo_NoStep:mroIn K xc_NoStep (.type "object")=some true)
  (xbe_NoStep:mroIn K xc_NoStep (.type "BaseException")=some true)
  (xs_NoStep_NoStep:PySem.W.subIn K (.ref xc_NoStep) (.ref xc_NoStep)=some true)
  (xl:(List.all K fun p=>!H0 p.2.cls)=true)
   :∃fd:FuncData,(∀(s:Shared) (v:Value),BindsTo s fd ⟨[v],[]⟩ [("script",v)])/\∀base:Heap,K.In base->base.Ns mainGlobals mg->FnOk l.prog w K mg base dM 8 fa fd ["script"] (pP K):=by
 have e:=hfa.symm.trans (PySem.W.mg_of X G a30);cases e;have T:Txt mg:=⟨mg_none_of X G z_dict,mg_none_of X G z_tuple,mg_none_of X G z_sorted,mg_none_of X G z_set,mg_none_of X G z_any,mg_none_of X G z_all,mg_none_of X G z_sum,mg_none_of X G z_len,mg_none_of X G z_range,mg_none_of X G z_list,mg_none_of X G z_min,mg_none_of X G z_isinstance,mg_none_of X G z_bool⟩;have F30:=v3 (st:=jr) l30 c30 k30;have N_steps_of:Fnm K mg "steps_of":=D4.fnm X G;have N_stepped:Fnm K mg "stepped":=D10.fnm X G;have F_NoStep:ExcC K "NoStep" xc_NoStep:=⟨xn_NoStep,xe_NoStep,xga_NoStep,xgt_NoStep,xcl_NoStep,xmo_NoStep,xbe_NoStep⟩;have E_NoStep:ExcX K "NoStep":=⟨⟨_,F_NoStep⟩⟩;have L_K:NoL K:=NoL.of xl;have H_NoStep:Hnd K "NoStep" iH:=⟨⟨_,xn_NoStep,xe_NoStep,(.cons F_NoStep xs_NoStep_NoStep .nil)⟩⟩;refine⟨PySem.W.fnOf "law" "law" (fA jr) (cK jr) (aj jr) .none kV30 dc30 pm30 an30 cd30 ct30,fun s v=>.of_eq rfl,fun base _ _=>?_⟩
 have C_all_added:Cal l.prog w K mg base "all_added" 1 bD []:=D0.cal X G qU fun _ _ F=>qd F T
 have C_ties_in_order:Cal l.prog w K mg base "ties_in_order" 1 aN []:=D1.cal X G ki fun _ _ F=>j5 F T
 have C_has:Cal l.prog w K mg base "has" 1 dF []:=D2.cal X G Fh fun _ _ F=>Eu F T
 have C_goes_away:Cal l.prog w K mg base "goes_away" 2 bZ []:=D3.cal X G qT fun _ _ F=>qc F T C_has
 have V_steps_of:CalF l.prog w K mg base "steps_of" 3 cn:=D4.calF X G tG fun _ _ F=>rZ F T C_goes_away C_has
 have C_fits:Cal l.prog w K mg base "fits" 3 bV []:=D5.cal X G Cl fun _ _ F=>By F T C_has C_goes_away
 have C_shorter:Cal l.prog w K mg base "shorter" 2 bX []:=D6.cal X G uT fun _ _ F=>uv F T C_all_added C_has
 have C_odd_part:Cal l.prog w K mg base "odd_part" 1 cp []:=D7.cal X G tH fun _ _ F=>r6 F T
 have C_gone_away:Cal l.prog w K mg base "gone_away" 3 bn []:=D8.cal X G qS fun _ _ F=>qb F T C_odd_part C_shorter C_all_added C_has C_ties_in_order
 have C_put:Cal l.prog w K mg base "put" 3 jG []:=D9.cal X G Ff fun _ _ F=>Es F T C_shorter C_ties_in_order C_has
 have Y_stepped:CalX l.prog w K mg base "stepped" 4 cu []:=D10.calX X G nC fun _ _ F=>rY F T C_put C_fits C_gone_away E_NoStep
 have V_stepped:CalF l.prog w K mg base "stepped" 4 bO:=D10.calF X G nC fun _ _ F=>ut F T C_put C_fits C_gone_away
 have C_led_on:Cal l.prog w K mg base "led_on" 5 fV []:=D11.cal X G xF fun _ _ F=>wW F T V_steps_of V_stepped
 have C_leads_to:Cal l.prog w K mg base "leads_to" 5 cW []:=D12.cal X G tI fun _ _ F=>r8 F T V_stepped Y_stepped H_NoStep
 have C_worn:Cal l.prog w K mg base "worn" 6 fI []:=D13.cal X G Ck fun _ _ F=>Bx F T C_led_on N_stepped N_steps_of
 have C_chain_stands:Cal l.prog w K mg base "chain_stands" 6 bQ []:=D14.cal X G lg fun _ _ F=>kN F T C_leads_to N_stepped
 have C__law_cell_at:Cal l.prog w K mg base "_law_cell_at" 1 aS []:=D15.cal X G li fun _ _ F=>kP F T
 have C__law_mixed:Cal l.prog w K mg base "_law_mixed" 1 bi []:=D16.cal X G oq fun _ _ F=>nW F T
 have M__law_add:CalM l.prog w K mg base "_law_add" 1 aX:=D17.calM X G tK fun _ _ F=>qa F T
 have C__law_pairs:Cal l.prog w K mg base "_law_pairs" 1 bc []:=D18.cal X G oo fun _ _ F=>nV F T
 have C__law_bits_by:Cal l.prog w K mg base "_law_bits_by" 2 bj []:=D19.cal X G lj fun _ _ F=>kQ F T C__law_cell_at
 have C__law_some_sum:Cal l.prog w K mg base "_law_some_sum" 3 bp []:=D20.cal X G kj fun _ _ F=>j6 F T C__law_bits_by C__law_mixed
 have C__law_fits_away:Cal l.prog w K mg base "_law_fits_away" 1 cf []:=D21.cal X G jR fun _ _ F=>jt F T
 have C__law_steps:Cal l.prog w K mg base "_law_steps" 2 bb []:=D22.cal X G om fun _ _ F=>nU F T C__law_fits_away
 have C__law_tied:Cal l.prog w K mg base "_law_tied" 1 bE []:=D23.cal X G qW fun _ _ F=>qf F T
 have C__law_gone:Cal l.prog w K mg base "_law_gone" 2 bq []:=D24.cal X G qX fun _ _ F=>qg F T C__law_tied C__law_pairs M__law_add
 have C__law_put:Cal l.prog w K mg base "_law_put" 2 cz []:=D25.cal X G tJ fun _ _ F=>r9 F T C__law_tied C__law_pairs M__law_add
 have C__law_stepped:Cal l.prog w K mg base "_law_stepped" 3 ba []:=D26.cal X G lh fun _ _ F=>kO F T C__law_put C__law_gone
 have C__law_walk:Cal l.prog w K mg base "_law_walk" 4 bo []:=D27.cal X G qV fun _ _ F=>qe F T C__law_stepped C__law_steps
 have C__law_spoilt:Cal l.prog w K mg base "_law_spoilt" 1 b6 []:=D28.cal X G nD fun _ _ F=>mH F T
 have C__law_believed:Cal l.prog w K mg base "_law_believed" 7 aV []:=D29.cal X G kl fun _ _ F=>j7 F T C_chain_stands C__law_walk
 have O30:FnOk l.prog w K mg base dM 8 _ _ _ (AS K sR):=Et F30 T C__law_some_sum C_worn C__law_mixed C__law_spoilt C__law_believed C__law_cell_at C__law_walk C__law_steps L_K;exact Hj O30 fun ns hl=>law_true ns hl
end GN
open PySem PySem.W PyProof.Rows
set_option maxRecDepth 1000000 in
set_option maxHeartbeats 0 in
theorem PySem.Challenge.cw_wavewires_k38_whole_worn_by_a_chain_holds : PySem.Challenge.rw_wavewires_k38_whole_worn_by_a_chain.Holds := by
  refine topT ?_
  k_fill
  refine VL.FQ (k := 8) (l := PySem.Challenge.rw_wavewires_k38_whole_worn_by_a_chain) rfl ⟨rfl, by decide, by decide⟩ rfl (fun w h Y => PySem.W.kIn_of Y) ?F
  case F =>
    intro w mg fa h KX G hmg
    refine' GN.Fk KX G hmg (VL.DefIn.mk ?a0 ?l0 ?c0 ?k0) (VL.DefIn.mk ?a1 ?l1 ?c1 ?k1) (VL.DefIn.mk ?a2 ?l2 ?c2 ?k2) (VL.DefIn.mk ?a3 ?l3 ?c3 ?k3) (VL.DefIn.mk ?a4 ?l4 ?c4 ?k4) (VL.DefIn.mk ?a5 ?l5 ?c5 ?k5) (VL.DefIn.mk ?a6 ?l6 ?c6 ?k6) (VL.DefIn.mk ?a7 ?l7 ?c7 ?k7) (VL.DefIn.mk ?a8 ?l8 ?c8 ?k8) (VL.DefIn.mk ?a9 ?l9 ?c9 ?k9) (VL.DefIn.mk ?a10 ?l10 ?c10 ?k10) (VL.DefIn.mk ?a11 ?l11 ?c11 ?k11) (VL.DefIn.mk ?a12 ?l12 ?c12 ?k12) (VL.DefIn.mk ?a13 ?l13 ?c13 ?k13) (VL.DefIn.mk ?a14 ?l14 ?c14 ?k14) (VL.DefIn.mk ?a15 ?l15 ?c15 ?k15) (VL.DefIn.mk ?a16 ?l16 ?c16 ?k16) (VL.DefIn.mk ?a17 ?l17 ?c17 ?k17) (VL.DefIn.mk ?a18 ?l18 ?c18 ?k18) (VL.DefIn.mk ?a19 ?l19 ?c19 ?k19) (VL.DefIn.mk ?a20 ?l20 ?c20 ?k20) (VL.DefIn.mk ?a21 ?l21 ?c21 ?k21) (VL.DefIn.mk ?a22 ?l22 ?c22 ?k22) (VL.DefIn.mk ?a23 ?l23 ?c23 ?k23) (VL.DefIn.mk ?a24 ?l24 ?c24 ?k24) (VL.DefIn.mk ?a25 ?l25 ?c25 ?k25) (VL.DefIn.mk ?a26 ?l26 ?c26 ?k26) (VL.DefIn.mk ?a27 ?l27 ?c27 ?k27) (VL.DefIn.mk ?a28 ?l28 ?c28 ?k28) (VL.DefIn.mk ?a29 ?l29 ?c29 ?k29) ?a30 ?l30 ?c30 ?k30 ?z_dict ?z_tuple ?z_sorted ?z_set ?z_any ?z_all ?z_sum ?z_len ?z_range ?z_list ?z_min ?z_isinstance ?z_bool ?xn_NoStep ?xe_NoStep ?xga_NoStep ?xgt_NoStep ?xcl_NoStep ?xmo_NoStep ?xbe_NoStep ?xs_NoStep_NoStep ?xl
    (case a0 => k_is)
    (case l0 => k_is)
    (case c0 => k_is)
    (case k0 => k_is)
    (case a1 => k_is)
    (case l1 => k_is)
    (case c1 => k_is)
    (case k1 => k_is)
    (case a2 => k_is)
    (case l2 => k_is)
    (case c2 => k_is)
    (case k2 => k_is)
    (case a3 => k_is)
    (case l3 => k_is)
    (case c3 => k_is)
    (case k3 => k_is)
    (case a4 => k_is)
    (case l4 => k_is)
    (case c4 => k_is)
    (case k4 => k_is)
    (case a5 => k_is)
    (case l5 => k_is)
    (case c5 => k_is)
    (case k5 => k_is)
    (case a6 => k_is)
    (case l6 => k_is)
    (case c6 => k_is)
    (case k6 => k_is)
    (case a7 => k_is)
    (case l7 => k_is)
    (case c7 => k_is)
    (case k7 => k_is)
    (case a8 => k_is)
    (case l8 => k_is)
    (case c8 => k_is)
    (case k8 => k_is)
    (case a9 => k_is)
    (case l9 => k_is)
    (case c9 => k_is)
    (case k9 => k_is)
    (case a10 => k_is)
    (case l10 => k_is)
    (case c10 => k_is)
    (case k10 => k_is)
    (case a11 => k_is)
    (case l11 => k_is)
    (case c11 => k_is)
    (case k11 => k_is)
    (case a12 => k_is)
    (case l12 => k_is)
    (case c12 => k_is)
    (case k12 => k_is)
    (case a13 => k_is)
    (case l13 => k_is)
    (case c13 => k_is)
    (case k13 => k_is)
    (case a14 => k_is)
    (case l14 => k_is)
    (case c14 => k_is)
    (case k14 => k_is)
    (case a15 => k_is)
    (case l15 => k_is)
    (case c15 => k_is)
    (case k15 => k_is)
    (case a16 => k_is)
    (case l16 => k_is)
    (case c16 => k_is)
    (case k16 => k_is)
    (case a17 => k_is)
    (case l17 => k_is)
    (case c17 => k_is)
    (case k17 => k_is)
    (case a18 => k_is)
    (case l18 => k_is)
    (case c18 => k_is)
    (case k18 => k_is)
    (case a19 => k_is)
    (case l19 => k_is)
    (case c19 => k_is)
    (case k19 => k_is)
    (case a20 => k_is)
    (case l20 => k_is)
    (case c20 => k_is)
    (case k20 => k_is)
    (case a21 => k_is)
    (case l21 => k_is)
    (case c21 => k_is)
    (case k21 => k_is)
    (case a22 => k_is)
    (case l22 => k_is)
    (case c22 => k_is)
    (case k22 => k_is)
    (case a23 => k_is)
    (case l23 => k_is)
    (case c23 => k_is)
    (case k23 => k_is)
    (case a24 => k_is)
    (case l24 => k_is)
    (case c24 => k_is)
    (case k24 => k_is)
    (case a25 => k_is)
    (case l25 => k_is)
    (case c25 => k_is)
    (case k25 => k_is)
    (case a26 => k_is)
    (case l26 => k_is)
    (case c26 => k_is)
    (case k26 => k_is)
    (case a27 => k_is)
    (case l27 => k_is)
    (case c27 => k_is)
    (case k27 => k_is)
    (case a28 => k_is)
    (case l28 => k_is)
    (case c28 => k_is)
    (case k28 => k_is)
    (case a29 => k_is)
    (case l29 => k_is)
    (case c29 => k_is)
    (case k29 => k_is)
    (case a30 => k_is)
    (case l30 => k_is)
    (case c30 => k_is)
    (case k30 => k_is)
    (case z_dict => k_is)
    (case z_tuple => k_is)
    (case z_sorted => k_is)
    (case z_set => k_is)
    (case z_any => k_is)
    (case z_all => k_is)
    (case z_sum => k_is)
    (case z_len => k_is)
    (case z_range => k_is)
    (case z_list => k_is)
    (case z_min => k_is)
    (case z_isinstance => k_is)
    (case z_bool => k_is)
    (case xn_NoStep => k_is)
    (case xe_NoStep => k_exc)
    (case xga_NoStep => k_is)
    (case xgt_NoStep => k_is)
    (case xcl_NoStep => k_is)
    (case xmo_NoStep => k_is)
    (case xbe_NoStep => k_is)
    (case xs_NoStep_NoStep => k_is)
    (case xl => first | rfl | kernel_rfl | decide +kernel)

end