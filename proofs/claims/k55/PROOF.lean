import PyProof.Rows.All
import Wide.All
import OpenK.AllK
import Wide.FinOn
import Lean
import PyProof.EqAt
import PyProof.EqKinds
import PyProof.TupleCall
import KE.KLam
import PySem.Challenge.RW_wavewires_k55_settled_alike
section TopS
set_option Elab.async false
set_option linter.all false
open PySem PySem.W PyProof.Rows
def viewQ : Program := view PySem.Challenge.rw_wavewires_k55_settled_alike.prog [1, 2, 4, 6, 7, 9, 10, 12, 13, 14, 15, 16, 17, 19, 20, 21, 22, 23, 24, 25, 26]
local macro_rules
  | `(tactic| o_head $H) => do
    let hw := Lean.mkIdent `hw
    let hc := Lean.mkIdent `hc
    `(tactic| refine holds_open (q := viewQ) (loose := []) (Xt := fun s => xlAt viewQ [] s && recOk (RowW.records (OpenRow.toRowW PySem.Challenge.rw_wavewires_k55_settled_alike.row)) s) (XP := XL viewQ []) (Yf := Hook.obs $H) (Ya := Hook.val $H) (YP := Hook.says $H) (N := 6000) (fun w => by (unfold openEnds fencedOpening topFrom; rw [Fast.te10274390034422433532, Fast.te14082659384304107361, Fast.te1435165496053646825, Fast.te14289696077712309145, Fast.te14364793385576792824, Fast.te4187177175401517315, Fast.te5923862056798008813]; kernel_rfl)) (Hook.of $H) (Hook.keeps $H) (fun s e => xl_of s (Bool.and_eq_true_iff.mp e).1) XL.keeps (by rfl) (by rfl) (by rfl) (fun s e => recFacts_of (Bool.and_eq_true_iff.mp e).2) (by rfl) (by first | assumption | decide +kernel) (by decide +kernel) ⟨rfl, rfl, rfl, rfl, rfl, by decide +kernel⟩ ?$hw ?$hc)
set_option maxRecDepth 1000000 in
set_option maxHeartbeats 0 in
open_top topT for PySem.Challenge.rw_wavewires_k55_settled_alike
end TopS
noncomputable section
set_option Elab.async false
set_option linter.all false
set_option maxRecDepth 100000
namespace L2
open PySem PySem.Spec PyProof.Rows
abbrev ar:=Sum Int Str
noncomputable def jB:ar->Value->Bool
 |.inl k,v=>Value.isInt k v
 |.inr x,v=>Value.isStrOf x v
noncomputable def HG(w:World):ar->Int
 |.inl k=>hashInt k
 |.inr x=>hashStr w x
theorem aW:∀{k:ar} {v:Value},jB k v=true->(∃i t,k=Sum.inl i/\v=Value.int i t)\/(∃x t,k=Sum.inr x/\v=Value.str x t)
 |.inl i,v,h=>by
  obtain⟨t,e⟩:=Value.isInt_shape (k:=i) (v:=v) h;exact .inl ⟨i,t,rfl,e⟩
 |.inr x,v,h=>by
  obtain⟨t,e⟩:=Value.isStrOf_shape (x:=x) (v:=v) h;exact .inr ⟨x,t,rfl,e⟩
theorem vX(i:Int)(t:Tok):jB (.inl i) (.int i t)=true:=by simp[jB,Value.isInt]
theorem vW(x:Str)(t:Tok):jB (.inr x) (.str x t)=true:=by simp[jB,Value.isStrOf]
theorem Dg(a b:Int):decide ((Sum.inl a:ar)=Sum.inl b)=(a==b):=by
 by_cases e:a=b
 .subst e;simp
 .have h:¬(Sum.inl a:ar)=Sum.inl b:=λq=>e (Sum.inl.inj q)
  rw[decide_eq_false h];exact(beq_eq_false_iff_ne.mpr e).symm
theorem Dd(a b:Str):decide ((Sum.inr a:ar)=Sum.inr b)=decide (a=b):=by
 by_cases e:a=b
 .subst e;simp
 .have h:¬(Sum.inr a:ar)=Sum.inr b:=λq=>e (Sum.inr.inj q)
  rw[decide_eq_false h,decide_eq_false e]
theorem Df(a:Int)(b:Str):decide ((Sum.inl a:ar)=Sum.inr b)=false:=decide_eq_false (λq=>nomatch q)
theorem De(a:Str)(b:Int):decide ((Sum.inr a:ar)=Sum.inl b)=false:=decide_eq_false (λq=>nomatch q)
noncomputable def aF(prog:Program)(w:World):PySem.KeyKind prog w ar where
 is:=jB
 hash:=HG w
 inj:=λv a b ha hb=>by
  rcases aW ha with⟨i,t,rfl,rfl⟩|⟨x,t,rfl,rfl⟩
  .rcases aW hb with⟨j,u,rfl,e⟩|⟨y,u,rfl,e⟩
   .injection e with e1 _;rw[e1]
   .exact nomatch e
  .rcases aW hb with⟨j,u,rfl,e⟩|⟨y,u,rfl,e⟩
   .exact nomatch e
   .injection e with e1 _;rw[e1]
 byValue:=λk v h=>by
  rcases aW h with⟨i,t,rfl,rfl⟩|⟨x,t,rfl,rfl⟩<;>rfl
 pyHash:=λhv h=>by
  rcases aW hv with⟨i,t,rfl,rfl⟩|⟨x,t,rfl,rfl⟩
  .exact wpAny_pyHash_int h
  .exact wpAny_pyHash_str h
 eqBool:=λhu hv h=>by
  rcases aW hu with⟨i,t,rfl,rfl⟩|⟨x,t,rfl,rfl⟩
  .rcases aW hv with⟨j,u,rfl,rfl⟩|⟨y,u,rfl,rfl⟩
   .rw[Dg]at h;exact wpAny_eqBool_int h
   .rw[Df]at h;exact SeqAt.EqAt.int_str i t y u _ _ _ _ h
  .rcases aW hv with⟨j,u,rfl,rfl⟩|⟨y,u,rfl,rfl⟩
   .rw[De]at h;exact SeqAt.EqAt.str_int x t j u _ _ _ _ h
   .rw[Dd]at h;exact wpAny_eqBool_str h
 «strs»:=λk x t v h=>by
  rcases aW h with⟨i,u,rfl,e⟩|⟨y,u,rfl,e⟩
  .exact nomatch e
  .injection e with e1 _
   subst e1;cases v<;>rfl
theorem qe(prog:Program)(w:World)(i:Int)(t:Tok):(aF prog w).is (.inl i) (.int i t)=true:=vX i t
theorem qd(prog:Program)(w:World)(x:Str)(t:Tok):(aF prog w).is (.inr x) (.str x t)=true:=vW x t
inductive V where
 |non|bl (b:Bool)|int (i:Int)|str (x:Str)|byt (b:Array UInt8)|flt (b:UInt64)|ref (a:Addr)|ty (n:String)
 deriving DecidableEq
def RelV:V->Value->Prop
 |.non,u=>u=Value.none
 |.bl b,u=>u=Value.bool b
 |.int i,u=>∃t,u=Value.int i t
 |.str x,u=>∃t,u=Value.str x t
 |.byt b,u=>∃t,u=Value.bytes b t
 |.flt b,u=>∃t,u=Value.float b t
 |.ref a,u=>u=Value.ref a
 |.ty n,u=>u=Value.type n
abbrev Vals:List V->List Value->Prop:=Paired RelV
theorem Vals.length{xs:List V}{us:List Value}(r:Vals xs us):xs.length=us.length:=Paired.length r
theorem Vals.get:∀{xs:List V} {us:List Value} {i:Nat} {x:V},Vals xs us->xs[i]? = some x->∃u,us[i]? = some u/\RelV x u
 |_,_,_,_,.nil,e=>by simp at e
 |_,_,0,_,.cons r _,e=>by simp at e;subst e;exact⟨_,rfl,r⟩
 |_,_,i+1,x,.cons _ t,e=>by
  obtain⟨u,h1,h2⟩:=Vals.get (i:=i) (x:=x) t (by simpa using e);exact⟨u,by simpa using h1,h2⟩
theorem Vals.set{x:V}{u:Value}(r:RelV x u):∀{xs:List V} {us:List Value} (i:Nat),Vals xs us->Vals (xs.set i x) (us.set i u)
 |_,_,_,.nil=>.nil
 |_,_,0,.cons _ t=>.cons r t
 |_,_,i+1,.cons q t=>.cons q (Vals.set r i t)
theorem Vals.append:∀{xs ys:List V} {us ws:List Value},Vals xs us->Vals ys ws->Vals (xs++ys) (us++ws)
 |_,_,_,_,.nil,s=>s
 |_,_,_,_,.cons r t,s=>.cons r (Vals.append t s)
theorem Vals.take:∀{xs:List V} {us:List Value} (n:Nat),Vals xs us->Vals (xs.take n) (us.take n)
 |_,_,0,_=>.nil
 |_,_,_+1,.nil=>.nil
 |_,_,n+1,.cons r t=>.cons r (Vals.take n t)
theorem Vals.drop:∀{xs:List V} {us:List Value} (n:Nat),Vals xs us->Vals (xs.drop n) (us.drop n)
 |_,_,0,r=>r
 |_,_,_+1,.nil=>.nil
 |_,_,n+1,.cons _ t=>Vals.drop n t
def RelO:Option V->Option Value->Prop
 |some v,some u=>RelV v u
 |none,none=>True
 |_,_=>False
def KV{κ:Type}:List (κ × V)->List (κ × Value)->Prop:=Paired λ(p:κ × V) (q:κ × Value)=>p.1=q.1/\RelV p.2 q.2
noncomputable def kV:ar->V
 |.inl i=>.int i
 |.inr x=>.str x
inductive HO where
 |lst (xs:List V)
 |tup (xs:List V)
 |dK (kvs:List (ar×V))|dT (kvs:List (List ar×V))
 |set (S:Int->Bool) (n:Nat)
 |ins (C dx:Addr) (fs:List (Str×V))
 |own (x:Addr)
 |xd (fs:List (Str×V))
 |met (f x:Addr)
 |rng (lo hi:Int)
 |frz (o:Obj) (u:HO)
 |tbl (ps:Array Value)
 |cod (c:Addr)
 |ext (φ:Heap->Prop)
abbrev Hp:=Addr->Option HO
noncomputable def upd(H:Hp)(a:Addr)(o:HO):Hp:=λb=>if b=a then some o else H b
theorem aC{H:Hp}{a:Addr}{o:HO}:upd H a o a=some o:=by unfold upd;rw[if_pos rfl]
theorem az{H:Hp}{a b:Addr}{o:HO}(h:b≠a):upd H a o b=H b:=by unfold upd;rw[if_neg h]
theorem Fs{H:Hp}{a b:Addr}{o u:HO}(h:H a=some o)(h':H b=some u)(d:o≠u):a≠b:=by
 intro e;subst e;rw[h]at h';exact d (Option.some.inj h')
theorem aL{H:Hp}{a b:Addr}{o:HO}(h:H a=some o)(h':H b=none):a≠b:=by
 intro e;subst e;rw[h]at h';cases h'
section
variable(P:Program)(w:World)
def NoDi(h:Heap)(a:Addr):Prop:=∃o,h.get? a=some o/\o.dict=none
theorem NoDi.new(h:Heap)(o:Obj)(e:o.dict=none:=by rfl)(f:o.isFreed=false:=by rfl):NoDi (h.push o) h.objs.size:=⟨o,Heap.get?_push_size h f,e⟩
def ObjOk(H:Hp)(h:Heap)(a:Addr):HO->Prop
 |.lst xs=>xs.length<=sizeLine/\∃(its:List Value) (n:Nat),Vals xs its/\h.get? a=some {cls:=.type "list",data:=.seq its.toArray n}
 |.tup xs=>xs.length<=sizeLine/\∃its:List Value,Vals xs its/\IsTup h a its.toArray/\NoDi h a
 |.dK kvs=>kvs.length<=sizeLine/\(a==sysModules)=false/\∃vs,KV kvs vs/\h.DictOf (aF P w) a vs
 |.dT kvs=>kvs.length<=sizeLine/\(a==sysModules)=false/\∃xs:List (List ar×Addr×Value),
   Paired (λ(p:List ar×V) (q:List ar×Addr×Value)=>p.1=q.1/\H q.2.1=some (.tup (p.1.map kV))/\RelV p.2 q.2.2) kvs xs/\
   ∃o es ep,h.get? a=some o/\o.ExactDict/\o.data=.dict es ep/\es.toList=xs.map (entryOfKey (tupleKind (aF P w)))/\(xs.map (·.1)).Nodup
 |.set S n=>h.SetOf (intKind P w) a S n
 |.ins C dx fs=>H dx=some (.own a)/\fs.length<=1000/\dx≠a/\h.get? a=some (PySem.W.instObj C dx)/\
   ∃mA,h.Ns1 dx mA/\(∀f,RelO (fs.lookup f) (mA f))/\PySem.Within mA (fs.map (·.1))
 |.own _=>∃o,h.get? a=some o
 |.xd fs=>∃mA,h.Ns1 a mA/\∀f,RelO (fs.lookup f) (mA f)
 |.rng lo hi=>∃t u v,h.get? a=some {cls:=.type "range",data:=.fields #[.int lo t,.int hi u,.int 1 v]}
 |.frz o u=>h.get? a=some o/\ObjOk H h a u
 |.tbl _=>∃ps:Array Value,h.get? a=some {cls:=.none,data:=.fields ps}/\TriplesOk ps.toList/\∀pos cv,codeAmong pos ps.toList=some cv ->
   ∃(c:Addr) (oc:Obj) (u:HO) (vs:Array Value) (q:Str) (t:Tok),cv=.ref c/\H c=some (.frz oc u)/\oc.data=.fields vs/\vs[1]? = some (.str q t)
 |.cod c=>(∃o,h.get? a=some o)/\∃(oc:Obj) (u:HO) (vs:Array Value) (q:Str) (t:Tok),H c=some (.frz oc u)/\oc.data=.fields vs/\vs[1]? = some (.str q t)
 |.met f x=>h.get? a=some (PySem.W.methodObj (.ref f) (.ref x))
 |.ext φ=>φ h/\(∃o,h.get? a=some o)/\∀h1 h2:Heap,φ h1->(∀o,h1.get? a=some o->h2.get? a=some o)-> φ h2
def HOk(H:Hp)(h:Heap):Prop:=∀a o,H a=some o->ObjOk P w H h a o
end
section
variable{P:Program}{w:World}{H H':Hp}{h h':Heap}{a:Addr}{o:HO}
theorem ObjOk.lt(x:ObjOk P w H h a o):a<h.objs.size:=by
 cases o with
 |lst xs=>obtain⟨_,_,_,_,e⟩:=x;exact Heap.lt_size e
 |tup xs=>obtain⟨_,_,_,p⟩:=x;exact p.1.lt
 |dK kvs=>obtain⟨_,_,_,_,o,_,_,e,_⟩:=x;exact Heap.lt_size e
 |dT kvs=>obtain⟨_,_,_,_,o,_,_,e,_⟩:=x;exact Heap.lt_size e
 |set S n=>obtain⟨o,_,_,_,e,_⟩:=x;exact Heap.lt_size e
 |ins C dx fs=>obtain⟨_,_,_,e,_⟩:=x;exact Heap.lt_size e
 |own y=>obtain⟨_,e⟩:=x;exact Heap.lt_size e
 |xd fs=>obtain⟨_,⟨_,_,_,e,_⟩,_⟩:=x;exact Heap.lt_size e
 |rng lo hi=>obtain⟨_,_,_,e⟩:=x;exact Heap.lt_size e
 |frz ob u=>obtain⟨e,_⟩:=x;exact Heap.lt_size e
 |tbl ps=>obtain⟨_,e,_⟩:=x;exact Heap.lt_size e
 |cod c=>obtain⟨⟨_,e⟩,_⟩:=x;exact Heap.lt_size e
 |met f y=>exact Heap.lt_size (show h.get? a=some _ from x)
 |ext φ=>obtain⟨_,⟨_,e⟩,_⟩:=x;exact Heap.lt_size e
theorem Paired.mapP{α β:Type}{F G:α -> β -> Prop}:∀{l₁:List α} {l₂:List β},Paired F l₁ l₂ -> (∀a b,F a b->G a b)->Paired G l₁ l₂
 |_,_,.nil,_=>.nil
 |_,_,.cons r t,f=>.cons (f _ _ r) (Paired.mapP t f)
theorem ObjOk.stay(x:ObjOk P w H h a o)(k:∀b u,(b=a\/H b=some (.own a))->h.get? b=some u->h'.get? b=some u)
  (ho:∀b,H b=some (.own a)->H' b=some (.own a)) (ht:∀b xs,H b=some (.tup xs)->H' b=some (.tup xs)) (hf:∀b o u,H b=some (.frz o u)->H' b=some (.frz o u)):ObjOk P w H' h' a o:=by
 induction o with
 |lst xs=>obtain⟨z,its,n,r,e⟩:=x;exact⟨z,its,n,r,k _ _ (.inl rfl) e⟩
 |tup xs=>obtain⟨z,its,r,⟨ob,e,c⟩,od,e',c'⟩:=x;exact⟨z,its,r,⟨ob,k _ _ (.inl rfl) e,c⟩,od,k _ _ (.inl rfl) e',c'⟩
 |dK kvs=>obtain⟨z,y,vs,r,ob,es,ep,e,c⟩:=x;exact⟨z,y,vs,r,ob,es,ep,k _ _ (.inl rfl) e,c⟩
 |dT kvs=>
  obtain⟨z,y,xs,r,ob,es,ep,e,c⟩:=x;exact⟨z,y,xs,Paired.mapP r λp q z=>⟨z.1,ht _ _ z.2.1,z.2.2⟩,ob,es,ep,k _ _ (.inl rfl) e,c⟩
 |set S n=>obtain⟨ob,es,ep,t,e,c⟩:=x;exact⟨ob,es,ep,t,k _ _ (.inl rfl) e,c⟩
 |ins C dx fs=>
  obtain⟨d,z,ne,e,mA,⟨od,es,ep,e2,c⟩,r⟩:=x;exact⟨ho _ d,z,ne,k _ _ (.inl rfl) e,mA,⟨od,es,ep,k _ _ (.inr d) e2,c⟩,r⟩
 |own y=>obtain⟨ob,e⟩:=x;exact⟨ob,k _ _ (.inl rfl) e⟩
 |xd fs=>obtain⟨mA,⟨od,es,ep,e,c⟩,r⟩:=x;exact⟨mA,⟨od,es,ep,k _ _ (.inl rfl) e,c⟩,r⟩
 |rng lo hi=>obtain⟨t,u,v,e⟩:=x;exact⟨t,u,v,k _ _ (.inl rfl) e⟩
 |frz ob u ih=>obtain⟨e,q⟩:=x;exact⟨k _ _ (.inl rfl) e,ih q⟩
 |tbl ps=>
  obtain⟨ps,e,t,g⟩:=x;exact⟨ps,k a _ (.inl rfl) e,t,λpos cv q=>let ⟨c,oc,u,vs,q',t',e1,e2,r⟩:=g pos cv q; ⟨c,oc,u,vs,q',t',e1,hf _ _ _ e2,r⟩⟩
 |cod c=>
  obtain⟨⟨o,e⟩,oc,u,vs,q',t',e2,r⟩:=x;exact⟨⟨o,k a _ (.inl rfl) e⟩,oc,u,vs,q',t',hf _ _ _ e2,r⟩
 |met f y=>
  have e:h.get? a=some (PySem.W.methodObj (.ref f) (.ref y)):=x;show h'.get? a=some (PySem.W.methodObj (.ref f) (.ref y));exact k a _ (.inl rfl) e
 |ext φ=>obtain⟨p,⟨o,e⟩,st⟩:=x;exact⟨st _ _ p λo q=>k _ _ (.inl rfl) q,⟨o,k _ _ (.inl rfl) e⟩,st⟩
theorem HOk.lt(x:HOk P w H h)(e:H a=some o):a<h.objs.size:=(x a o e).lt
theorem HOk.fresh(x:HOk P w H h)(e:h.objs.size<=a):H a=none:=by
 cases q:H a with
 |none=>rfl
 |some u=>exact absurd (Nat.lt_of_lt_of_le (x.lt q) e) (Nat.lt_irrefl _)
theorem HOk.kept(x:HOk P w H h)(k:∀b u,h.get? b=some u->h'.get? b=some u):HOk P w H h':=λa o e=>
 (x a o e).stay (λb u _ q=>k b u q) (λ_ q=>q) (λ_ _ q=>q) λ_ _ _ q=>q
theorem HOk.laid(x:HOk P w H h)(k:∀b u,h.get? b=some u->h'.get? b=some u)(hp:h.objs.size<=a)(new:ObjOk P w (upd H a o) h' a o):HOk P w (upd H a o) h':=λb u e=>by
 have hn:=x.fresh hp;by_cases hb:b=a
 .subst hb;rw[aC]at e;cases e;exact new
 .rw[az hb]at e
  exact(x b u e).stay (λc v _ q=>k c v q) (λc q=>by rw[az (aL q hn)];exact q) (λc xs q=>by rw[az (aL q hn)];exact q) λc o xs q=>by rw[az (aL q hn)];exact q
end
def Rd(H:Hp)(a:Addr)(u:HO):Prop:=H a=some u\/∃o,H a=some (.frz o u)
theorem Rd.ok{P:Program}{w:World}{H:Hp}{h:Heap}{a:Addr}{u:HO}(r:Rd H a u)(x:HOk P w H h):ObjOk P w H h a u:=by
 rcases r with r|⟨o,r⟩
 .exact x a u r
 .obtain⟨_,q⟩:=x a _ r
  exact q
def Gp:Option HO->Prop
 |some (.lst _)=>True
 |some (.dK _)=>True
 |some (.dT _)=>True
 |some (.set _ _)=>True
 |some (.ins _ _ _)=>True
 |some (.ext _)=>True
 |_=>False
section
variable{P:Program}{w:World}{H:Hp}{h h':Heap}{x e:Addr}{o':HO}
theorem HOk.write(ok:HOk P w H h)(mu:Gp (H x))(he:e=x\/H e=some (.own x))(k:∀b u,b≠e->h.get? b=some u->h'.get? b=some u)(heo:∃u,h'.get? e=some u)
  (new:ObjOk P w (upd H x o') h' x o'):HOk P w (upd H x o') h':=λb u q=>by
 have nown:∀c y,H c=some (.own y)->c≠x:=λc y r z=>by subst z;rw[r]at mu;exact mu
 have ntup:∀c xs,H c=some (.tup xs)->c≠x:=λc xs r z=>by subst z;rw[r]at mu;exact mu
 have nfrz:∀c o xs,H c=some (.frz o xs)->c≠x:=λc o xs r z=>by subst z;rw[r]at mu;exact mu
 by_cases hb:b=x
 .subst hb;rw[aC]at q;cases q;exact new
 .rw[az hb]at q
  by_cases hbe:b=e
  .have q':H b=some (.own x):=by
    rcases he with z|z
    .exact absurd (hbe.trans z) hb
    .rw[hbe];exact z
   rw[q]at q';cases q';obtain⟨v,hv⟩:=heo;exact⟨v,by rw[hbe];exact hv⟩
  .refine(ok b u q).stay (λc v hc r=>k c v ?_ r) (λc r=>by rw[az (nown c b r)];exact r) (λc xs r=>by rw[az (ntup c xs r)];exact r) λc o xs r=>by rw[az (nfrz c o xs r)];exact r
   rcases hc with rfl|hc
   .exact hbe
   .rintro rfl
    rcases he with z|z
    .exact nown c b hc z
    .rw[hc]at z;cases z;exact hb rfl
end
structure Un (fs ex:List Addr) (H H':Hp) (h h':Heap):Prop where
 keep:∀b o,h.get? b=some o->H b=none->b∉fs->b∉ex->h'.get? b=some o
 slot:∀b o,h.get? b=some o->H b=none->b∈fs->b∉ex->∃sl,h'.get? b=some {o with slots:=sl}
 free:∀b o,h.get? b=some o->H b=none->b∉ex->H' b=none
 there:∀b o,h.get? b=some o->b∉ex->∃o',h'.get? b=some o'
 tups:∀b xs,H b=some (.tup xs)->H' b=some (.tup xs)
 frzs:∀b o u,H b=some (.frz o u)->H' b=some (.frz o u)
 tbls:∀b ps,H b=some (.tbl ps)->∃more,H' b=some (.tbl (ps++more))
section
variable{fs fs' ex ex':List Addr}{H H1 H2:Hp}{h h1 h2 h':Heap}{a x e:Addr}{o:HO}
theorem Un.any(u:Un fs ex H H1 h h1){b:Addr}{ob:Obj}(q:h.get? b=some ob)(n:H b=none)(hx:b∉ex):∃sl,h1.get? b=some {ob with slots:=sl}:=by
 by_cases hb:b∈fs
 .exact u.slot b ob q n hb hx
 .exact⟨ob.slots,u.keep b ob q n hb hx⟩
theorem Un.kept(k:∀b u,h.get? b=some u->h'.get? b=some u):Un fs ex H H h h':=
 ⟨λb ob q _ _ _=>k b ob q,λb ob q _ _ _=>⟨ob.slots,k b ob q⟩,λ_ _ _ n _=>n,λb ob q _=>⟨ob,k b ob q⟩,λ_ _ q=>q,λ_ _ _ q=>q,λ_ ps q=>⟨#[],by rw[q];simp⟩⟩
theorem Un.refl:Un fs ex H H h h:=Un.kept λ_ _ q=>q
theorem Un.laid(k:∀b u,h.get? b=some u->h'.get? b=some u)(hp:h.objs.size<=a)(hn:H a=none):Un fs ex H (upd H a o) h h' where
 keep:=λb u q _ _ _=>k b u q
 slot:=λb u q _ _ _=>⟨u.slots,k b u q⟩
 free:=λb u q n _=>by rw[az (Nat.ne_of_lt (Nat.lt_of_lt_of_le (Heap.lt_size q) hp))];exact n
 there:=λb u q _=>⟨u,k b u q⟩
 tups:=λb xs q=>by rw[az (aL q hn)];exact q
 frzs:=λb u xs q=>by rw[az (aL q hn)];exact q
 tbls:=λb ps q=>⟨#[],by rw[az (aL q hn),q];simp⟩
theorem Un.write(mu:Gp (H x))(he:e=x\/H e=some (.own x))(k:∀b u,b≠e->h.get? b=some u->h'.get? b=some u)(heo:∃u,h'.get? e=some u):Un fs ex H (upd H x o) h h':=by
 have hx:∀b,H b=none->b≠x:=λb n z=>by subst z;rw[n]at mu;exact mu
 have hb:∀b,H b=none->b≠e:=λb n z=>by
  subst z;rcases he with r|r
  .exact hx b n r
  .rw[n]at r;cases r
 have hm:∀b u,H b=some u->¬Gp (some u)->b≠x:=λb u q nm z=>by subst z;rw[q]at mu;exact nm mu
 refine⟨λb u q n _ _=>k b u (hb b n) q,λb u q n _ _=>⟨u.slots,k b u (hb b n) q⟩,λb u q n _=>by rw[az (hx b n)];exact n,λb u q _=>?_,
  λb xs q=>by rw[az (hm b _ q λz=>z)];exact q,λb u xs q=>by rw[az (hm b _ q λz=>z)];exact q,λb ps q=>⟨#[],by rw[az (hm b _ q λz=>z),q];simp⟩⟩
 by_cases hbe:b=e
 .subst hbe;exact heo
 .exact⟨u,k b u hbe q⟩
end
noncomputable def Gr(h:Heap)(H:Hp):List Addr:=(List.range h.objs.size).filter λa=>(H a).isSome
noncomputable def kS(h:Heap)(H:Hp):Heap:=PySem.W.hideAll h (Gr h H)
theorem wc(h:Heap)(H:Hp):(kS h H).objs.size=h.objs.size:=PySem.W.hideAll_size _ _
theorem yo{h:Heap}{H:Hp}{b:Addr}{o:Obj}(e:h.get? b=some o)(n:H b=none):(kS h H).get? b=some o:=
 PySem.W.hideAll_get _ e λhm=>by
  have q:(H b).isSome=true:=(List.mem_filter.mp hm).2;rw[n]at q;simp at q
theorem Ap{h:Heap}{H:Hp}{b:Addr}{o:Obj}(e:(kS h H).get? b=some o):h.get? b=some o/\H b=none:=by
 have e':h.get? b=some o:=PySem.W.of_hideAll (Gr h H) e;refine⟨e',?_⟩;cases q:H b with
 |none=>rfl
 |some x=>
  have hm:b∈Gr h H:=List.mem_filter.mpr ⟨List.mem_range.mpr (Heap.lt_size e'),by simp[q]⟩;have z:(kS h H).get? b=none:=PySem.W.hideAll_none (Gr h H) hm;rw[z]at e;cases e
noncomputable def Ba(g h:Heap)(L:Addr):List (Addr×Obj):=(List.range h.objs.size).filterMap λa=>if a=L\/(g.get? a).isSome=true then none else(h.get? a).map λo=>(a,o)
noncomputable def rest(g h:Heap)(L d:Addr):List (Addr×Obj):=(Ba g h L).filter λp=>decide (p.1≠d)
noncomputable def lamDefs:List Str:=["settled_sum","settled"]
theorem rm{K:PySem.W.Frag}{x:Str}{c P:Addr}(ht:PySem.W.tabIn K x=some (c,P)):∃o,K.lookup c=some o:=by
 unfold PySem.W.tabIn at ht;split at ht
 .split at ht
  .split at ht
   .split at ht
    .rename_i h
     split at ht
     .cases ht;exact⟨_,h⟩
     .cases ht
    .cases ht
   .cases ht
  .cases ht
 .cases ht
structure Mod (K:PySem.W.Frag) (mg:Str->Option Value) (base:Heap):Prop where
 kin:K.In base
 glob:base.Ns mainGlobals mg
 blt:∃mb,base.Ns builtinsNs mb/\∀x:Str,x≠"__name__" -> mb x=bootBuiltins x
 nolimit:base.NoLimit
 bmain:BMain base mg
 tabs:∀x∈lamDefs,∀c P,PySem.W.tabIn K x=some (c,P)->PySem.W.CodeHd base c P
def Be(K:PySem.W.Frag)(H:Hp):Prop:=∀x∈lamDefs,∀c P,PySem.W.tabIn K x=some (c,P)->∃ps,H P=some (.tbl ps)
structure Cx where
 prog:Program
 w:World
 K:PySem.W.Frag
 mg:Str->Option Value
 base:Heap
 A:Around
 N:List Str
 s₀:Shared
 H₀:Hp
 env:Env
 outer:List Env
 stack:List Env
 ex:List Addr
 fn:Str->Bool
 calm:Bool
 pn:List (Addr×Obj)
 xe:Value->Shared->Prop
noncomputable def uG(l:List Env):List Addr:=l.filterMap (·.frame)
abbrev Cx.fs(X:Cx):List Addr:=uG X.outer
def vg(sc:Scope)(x:Str):Prop:=sc.names.lookup x=some .local\/sc.names.lookup x=some .cell\/sc.names.lookup x=some .free
def qY(sc:Scope)(x:Str):Prop:=sc.names.lookup x=some .local\/sc.names.lookup x=some .cell
def Ih(env:Env)(h:Heap)(m:Str->Option Value)(x:Str)(u:Value):Prop:=
 (env.kindOf x=some .local/\m x=some u)\/((env.kindOf x=some .cell\/env.kindOf x=some .free)/\∃c,env.cells.lookup x=some c/\h.IsCell c (some u))
structure Cx.Ok (X:Cx):Prop where
 mod:Mod X.K X.mg X.base
 kind:X.env.scope.kind=.function
 glob:X.env.globals=mainGlobals
 blt:X.env.builtins=builtinsNs
 above:X.s₀.heap.objs.size<=X.env.locals
 inj:∀x y c,X.env.cells.lookup x=some c->X.env.cells.lookup y=some c->x=y
 has:∀x,(X.env.kindOf x=some .cell\/X.env.kindOf x=some .free)->∃c,X.env.cells.lookup x=some c
 cab:∀x c,X.fn x=true->X.env.cells.lookup x=some c->X.s₀.heap.objs.size<=c
 hd:X.calm=true->X.A.handled=none
 frames:X.A.frames=some X.stack
 stk:X.stack=X.outer\/(X.stack=X.env::X.outer/\X.env.frame=some X.env.locals)
 exf:∀b∈X.ex,b≠X.env.locals/\∀x c,X.env.cells.lookup x=some c->c≠b
 bs:∀b o,X.base.get? b=some o->X.s₀.heap.get? b=some o/\X.H₀ b=none
 bsz:X.base.objs.size<=X.s₀.heap.objs.size
 noex:∀b o,X.base.get? b=some o->b∉X.ex
 exfs:∀b∈X.ex,b∉X.fs
 funs:X.s₀.heap.FunFrames X.base X.outer
 frf:∀b∈X.fs,X.H₀ b=none
 tb:Be X.K X.H₀
structure Inv (X:Cx) (pins:List (Addr×Obj)) (σ:List (Option V)) (H:Hp) (s:Shared):Prop where
 ok:X.Ok
 os:s.os=X.s₀.os
 bare:AllBare s.gens
 base:Un X.fs X.ex X.H₀ H X.s₀.heap s.heap
 loc:∃m,s.heap.Ns X.env.locals m/\∀(i:Nat) (x:Str) (v:V),X.N[i]? = some x -> σ[i]? = some (some v)->vg X.env.scope x->∃u,RelV v u/\Ih X.env s.heap m x u
 cell:∀x c,X.env.cells.lookup x=some c->∃v,s.heap.IsCell c v
 free:H X.env.locals=none
 freeC:∀x c,X.env.cells.lookup x=some c->H c=none
 pin:∀p∈X.pn++pins,s.heap.get? p.1=some p.2/\H p.1=none/\p.1≠X.env.locals/\p.1∉X.fs/\∀v,p.2.data≠.cell v
 hok:HOk X.prog X.w H s.heap
 len:σ.length=X.N.length
section
variable{X:Cx}{pins:List (Addr×Obj)}{σ:List (Option V)}{H H':Hp}{s:Shared}{h':Heap}
theorem Cx.Ok.nofr(ok:X.Ok){b:Addr}{o:Obj}(e:X.base.get? b=some o):b∉X.fs:=λhb=>by
 have:=(ok.funs.mem hb).1;rw[e]at this;cases this
theorem Inv.bs(I:Inv X pins σ H s):∀b o,X.base.get? b=some o->s.heap.get? b=some o/\H b=none:=λb o e=>
 ⟨I.base.keep b o (I.ok.bs b o e).1 (I.ok.bs b o e).2 (I.ok.nofr e) (I.ok.noex b o e),I.base.free b o (I.ok.bs b o e).1 (I.ok.bs b o e).2 (I.ok.noex b o e)⟩
theorem Inv.bk(I:Inv X pins σ H s):∀b o,X.base.get? b=some o->s.heap.get? b=some o:=λb o e=>(I.bs b o e).1
theorem Inv.mod(I:Inv X pins σ H s):Mod X.K X.mg X.base:=I.ok.mod
theorem Inv.tb(I:Inv X pins σ H s):Be X.K H:=λx hx c P e=>by
 obtain⟨ps,h⟩:=I.ok.tb x hx c P e;obtain⟨m,h'⟩:=I.base.tbls P ps h;exact⟨_,h'⟩
theorem Inv.kIn(I:Inv X pins σ H s):X.K.In s.heap:=I.ok.mod.kin.keeps I.bk
theorem Inv.fr(I:Inv X pins σ H s):∃m,Fr X.base X.env.locals s.heap m:=
 let ⟨m,hn,_⟩:=I.loc
 ⟨m,hn,I.bk,Nat.le_trans I.ok.bsz I.ok.above⟩
theorem Inv.lt(I:Inv X pins σ H s):X.env.locals<s.heap.objs.size:=let ⟨_,hn,_⟩:=I.loc;hn.lt
theorem Inv.sz(I:Inv X pins σ H s):X.s₀.heap.objs.size<=s.heap.objs.size:=Nat.le_trans I.ok.above (Nat.le_of_lt I.lt)
theorem Inv.nofs(I:Inv X pins σ H s){a:Addr}(h:s.heap.objs.size<=a):a∉X.fs:=λhb=>by
 obtain⟨_,o,ho,_⟩:=I.ok.funs.mem hb;exact absurd (Nat.lt_of_lt_of_le (Heap.lt_size ho) (Nat.le_trans I.sz h)) (Nat.lt_irrefl _)
theorem Inv.cne(I:Inv X pins σ H s):∀x c,X.env.cells.lookup x=some c->c≠X.env.locals:=λx c e z=>by
 obtain⟨v,o,ho,hd⟩:=I.cell x c e;obtain⟨m,⟨o',es,ep,ho',hd',_⟩,_⟩:=I.loc;rw[z,ho']at ho;cases ho;rw[hd']at hd;cases hd
theorem Inv.funs(I:Inv X pins σ H s):s.heap.FunFrames X.base X.outer:=by
 have all:∀(l:List Env),(∀b∈uG l,b∈X.fs)->X.s₀.heap.FunFrames X.base l->s.heap.FunFrames X.base l:=by
  intro l
  induction l with
  |nil=>intro _ _;trivial
  |cons env r ih=>
   intro hs hl;obtain⟨hk,⟨L,o,hf,hn,ho,hd⟩,hr⟩:=hl;have hL:L∈X.fs:=hs L (by unfold uG;rw[List.filterMap_cons,hf];exact List.mem_cons_self);obtain⟨sl,e⟩:=I.base.slot L o ho (I.ok.frf L hL) hL λz=>I.ok.exfs L z hL
   exact⟨hk,⟨L,_,hf,hn,e,hd⟩,ih (λb hb=>hs b (by unfold uG;rw[List.filterMap_cons,hf];exact List.mem_cons_of_mem _ hb)) hr⟩
 exact all X.outer (λ_ hb=>hb) I.ok.funs
theorem Inv.stack(I:Inv X pins σ H s):s.heap.FunFrames X.base X.stack:=by
 rcases I.ok.stk with e|⟨e,hf⟩
 .rw[e];exact I.funs
 .rw[e]
  obtain⟨m,hn,_⟩:=I.loc;refine .cons (by rw[I.ok.kind];decide) hf hn ?_ I.funs;exact Heap.get?_none_of_le (Nat.le_trans I.ok.bsz I.ok.above)
theorem Inv.stkSub(I:Inv X pins σ H s):∀b∈uG X.stack,b∈X.env.locals::X.fs:=λb hb=>by
 rcases I.ok.stk with e|⟨e,hf⟩
 .rw[e]at hb;exact List.mem_cons_of_mem _ hb
 .rw[e]at hb
  unfold uG at hb;rw[List.filterMap_cons,hf]at hb;exact hb
theorem Inv.stkFree(I:Inv X pins σ H s):∀b∈uG X.stack,H b=none:=λb hb=>by
 rcases List.mem_cons.mp (I.stkSub b hb)with e|hb
 .rw[e];exact I.free
 .obtain⟨_,o,ho,_⟩:=I.ok.funs.mem hb
  exact I.base.free b o ho (I.ok.frf b hb) λz=>I.ok.exfs b z hb
theorem Inv.step{g':Array GenState}{t':Nat}{d':Drawn}{ch:List Addr}(I:Inv X pins σ H s)
  (hch:∀b∈ch,(b∈X.ex\/X.s₀.heap.objs.size<=b)/\b≠X.env.locals/\(∀x c,X.env.cells.lookup x=some c->c≠b)/\∀p∈X.pn++pins,p.1≠b)
  (keep:∀b o,b≠X.env.locals->b∉X.fs->b∉ch->s.heap.get? b=some o->H b=none->h'.get? b=some o)
  (slot:∀b o,b≠X.env.locals->b∈X.fs->b∉ch->s.heap.get? b=some o->H b=none->∃sl,h'.get? b=some {o with slots:=sl}) (free:∀b o,b∉ch->s.heap.get? b=some o->H b=none->H' b=none)
  (there:∀b o,b∉ch->s.heap.get? b=some o->∃o',h'.get? b=some o')
  (tups:∀b xs,H b=some (.tup xs)->H' b=some (.tup xs)) (frzs:∀b o u,H b=some (.frz o u)->H' b=some (.frz o u)) (tbls:∀b ps,H b=some (.tbl ps)->∃more,H' b=some (.tbl (ps++more)))
  (ns:∀m,s.heap.Ns X.env.locals m->h'.Ns X.env.locals m) (hok:HOk X.prog X.w H' h') (hg:AllBare g'):
  Inv X pins σ H' {s with heap:=h',gens:=g',drawn:=d',toks:=t'}:=by
 have neL:∀b o,X.s₀.heap.get? b=some o->b≠X.env.locals:=λb o e=>Nat.ne_of_lt (Nat.lt_of_lt_of_le (Heap.lt_size e) I.ok.above)
 have neC:∀b o,X.s₀.heap.get? b=some o->b∉X.ex->b∉ch:=λb o e hx hb=>by
  rcases (hch b hb).1 with z|z
  .exact hx z
  .exact absurd (Nat.lt_of_lt_of_le (Heap.lt_size e) z) (Nat.lt_irrefl _)
 have cellK:∀x c,X.env.cells.lookup x=some c->∀v,s.heap.IsCell c v->h'.IsCell c v:=λx c e v ⟨o,ho,hd⟩=>by
  have nch:c∉ch:=λz=>(hch c z).2.2.1 x c e rfl
  by_cases hc:c∈X.fs
  .obtain⟨sl,q⟩:=slot c o (I.cne x c e) hc nch ho (I.freeC x c e)
   exact⟨_,q,hd⟩
  .exact⟨o,keep c o (I.cne x c e) hc nch ho (I.freeC x c e),hd⟩
 refine⟨I.ok,I.os,hg,⟨λb o e n hb hx=>?_,λb o e n hb hx=>?_,λb o e n hx=>?_,λb o e hx=>?_,λb xs e=>tups b xs (I.base.tups b xs e),λb o xs e=>frzs b o xs (I.base.frzs b o xs e),λb ps e=>?_⟩,?_,λx c e=>?_,?_,λx c e=>?_,λp hp=>?_,hok,I.len⟩
 .exact keep b o (neL b o e) hb (neC b o e hx) (I.base.keep b o e n hb hx) (I.base.free b o e n hx)
 .obtain⟨sl,e1⟩:=I.base.slot b o e n hb hx
  obtain⟨sl',e2⟩:=slot b _ (neL b o e) hb (neC b o e hx) e1 (I.base.free b o e n hx);exact⟨sl',e2⟩
 .obtain⟨o',e1⟩:=I.base.there b o e hx
  exact free b o' (neC b o e hx) e1 (I.base.free b o e n hx)
 .obtain⟨o',e1⟩:=I.base.there b o e hx
  exact there b o' (neC b o e hx) e1
 .obtain⟨m1,e1⟩:=I.base.tbls b ps e
  obtain⟨m2,e2⟩:=tbls b _ e1;exact⟨m1++m2,by rw[e2,Array.append_assoc]⟩
 .obtain⟨m,hn,hl⟩:=I.loc
  refine⟨m,ns m hn,λi x v e1 e2 e3=>?_⟩
  obtain⟨u,r,l⟩:=hl i x v e1 e2 e3;refine⟨u,r,?_⟩;rcases l with l|⟨k,c,e,z⟩
  .exact .inl l
  .exact .inr ⟨k,c,e,cellK x c e _ z⟩
 .obtain⟨v,z⟩:=I.cell x c e
  exact⟨v,cellK x c e v z⟩
 .obtain⟨m,⟨o,_,_,ho,_⟩,_⟩:=I.loc
  exact free _ o (λz=>(hch _ z).2.1 rfl) ho I.free
 .obtain⟨v,o,ho,hd⟩:=I.cell x c e
  exact free c o (λz=>(hch c z).2.2.1 x c e rfl) ho (I.freeC x c e)
 .obtain⟨e,n,ne,nf,d⟩:=I.pin p hp
  have nch:p.1∉ch:=λz=>(hch p.1 z).2.2.2 p hp rfl
  exact⟨keep p.1 p.2 ne nf nch e n,free p.1 p.2 nch e n,ne,nf,d⟩
theorem Inv.un{t':Nat}(I:Inv X pins σ H s)(u:Un X.fs [] H H' s.heap h')(hok:HOk X.prog X.w H' h'):Inv X pins σ H' {s with heap:=h',toks:=t'}:=by
 obtain⟨m,⟨o,es,ep,ho,r⟩,_⟩:=id I.loc;obtain⟨sl,hL⟩:=u.any ho I.free (by simp);exact I.step (g':=s.gens) (d':=s.drawn) (ch:=[]) (λ_ z=>nomatch z) (λb o _ hb _ e n=>u.keep b o e n hb (by simp)) (λb o _ hb _ e n=>u.slot b o e n hb (by simp)) (λb o _ e n=>u.free b o e n (by simp)) (λb o _ e=>u.there b o e (by simp)) u.tups u.frzs u.tbls (λm' hm=>by
  obtain⟨o',es',ep',ho',r'⟩:=hm;rw[ho]at ho';cases ho';exact⟨_,es',ep',hL,r'⟩) hok I.bare
theorem Inv.call{g':Array GenState}{t':Nat}{d':Drawn}{ch:List Addr}(I:Inv X pins σ H s)(u:Un (uG X.stack) ch H H' s.heap h')(hok:HOk X.prog X.w H' h')(hg:AllBare g')
  (hch:∀b∈ch,(b∈X.ex\/X.s₀.heap.objs.size<=b)/\b≠X.env.locals/\(∀x c,X.env.cells.lookup x=some c->c≠b)/\∀p∈X.pn++pins,p.1≠b):
  Inv X pins σ H' {s with heap:=h',gens:=g',drawn:=d',toks:=t'}:=by
 obtain⟨m,⟨o,es,ep,ho,r⟩,_⟩:=id I.loc;obtain⟨sl,hL⟩:=u.any ho I.free λz=>(hch _ z).2.1 rfl
 exact I.step (ch:=ch) hch (λb o hL hb hc e n=>u.keep b o e n (λz=>(List.mem_cons.mp (I.stkSub b z)).elim hL hb) hc) (λb o _ _ hc e n=>u.any e n hc) (λb o hc e n=>u.free b o e n hc) (λb o hc e=>u.there b o e hc) u.tups u.frzs u.tbls (λm' hm=>by
  obtain⟨o',es',ep',ho',r'⟩:=hm;rw[ho]at ho';cases ho';exact⟨_,es',ep',hL,r'⟩) hok hg
theorem Inv.turned{t':Nat}{it:Addr}(I:Inv X pins σ H s)(k:∀b o,b≠it->s.heap.get? b=some o->h'.get? b=some o)(hn:H it=none)(hL:it≠X.env.locals)
  (h1:it∈X.ex\/X.s₀.heap.objs.size<=it) (h2:∀x c,X.env.cells.lookup x=some c->c≠it) (h3:∀p∈X.pn++pins,p.1≠it):Inv X pins σ H {s with heap:=h',toks:=t'}:=by
 have nit:∀b u,H b=some u->b≠it:=λb u e z=>by rw[z,hn]at e;cases e
 refine I.step (g':=s.gens) (d':=s.drawn) (ch:=[it]) (λb hb=>?_) (λb o _ _ hc e _=>k b o (λz=>hc (by simp[z])) e) (λb o _ _ hc e _=>⟨o.slots,k b o (λz=>hc (by simp[z])) e⟩) (λ_ _ _ _ n=>n)
  (λb o hc e=>⟨o,k b o (λz=>hc (by simp[z])) e⟩) (λ_ _ e=>e) (λ_ _ _ e=>e) (λb ps e=>⟨#[],by rw[e];simp⟩) (λm hm=>?_) (λb u e=>?_) I.bare
 .have e:b=it:=by simpa using hb
  subst e;exact⟨h1,hL,h2,h3⟩
 .obtain⟨o,es,ep,ho,r⟩:=hm
  exact⟨o,es,ep,k _ o (Ne.symm hL) ho,r⟩
 .refine(I.hok b u e).stay (λc v hc q=>k c v ?_ q) (λ_ q=>q) (λ_ _ q=>q) λ_ _ _ q=>q
  rcases hc with z|z
  .rw[z];exact nit b u e
  .exact nit c _ z
theorem Inv.tok(I:Inv X pins σ H s)(t:Nat):Inv X pins σ H {s with toks:=t}:=I.un (h':=s.heap) (t':=t) Un.refl I.hok
theorem Inv.kept{t':Nat}(I:Inv X pins σ H s)(k:∀b u,s.heap.get? b=some u->h'.get? b=some u):Inv X pins σ H {s with heap:=h',toks:=t'}:=I.un (Un.kept k) (I.hok.kept k)
theorem Inv.laid{a:Addr}{o:HO}{t':Nat}(I:Inv X pins σ H s)(k:∀b u,s.heap.get? b=some u->h'.get? b=some u)(hp:s.heap.objs.size<=a)(new:ObjOk X.prog X.w (upd H a o) h' a o):
  Inv X pins σ (upd H a o) {s with heap:=h',toks:=t'}:=I.un (Un.laid k hp (I.hok.fresh hp)) (I.hok.laid k hp new)
theorem Inv.write{x e:Addr}{o:HO}{t':Nat}(I:Inv X pins σ H s)(mu:Gp (H x))(he:e=x\/H e=some (.own x))(k:∀b u,b≠e->s.heap.get? b=some u->h'.get? b=some u)(heo:∃u,h'.get? e=some u)
  (new:ObjOk X.prog X.w (upd H x o) h' x o):Inv X pins σ (upd H x o) {s with heap:=h',toks:=t'}:=I.un (Un.write mu he k heo) (I.hok.write mu he k heo new)
theorem Inv.weak{σ':List (Option V)}(I:Inv X pins σ H s)(hl:σ'.length = σ.length)(w:∀(i:Nat) v,σ'[i]? = some (some v)-> σ[i]? = some (some v)):Inv X pins σ' H s:=
 ⟨I.ok,I.os,I.bare,I.base,let ⟨m,hn,hl'⟩:=I.loc; ⟨m,hn,λi x v e1 e2 e3=>hl' i x v e1 (w i v e2) e3⟩,I.cell,I.free,I.freeC,I.pin,I.hok,hl.trans I.len⟩
theorem Inv.pins_of{pins':List (Addr×Obj)}(I:Inv X pins σ H s)(h:∀p∈pins',s.heap.get? p.1=some p.2/\H p.1=none/\p.1≠X.env.locals/\p.1∉X.fs/\∀v,p.2.data≠.cell v):Inv X pins' σ H s:=
 ⟨I.ok,I.os,I.bare,I.base,I.loc,I.cell,I.free,I.freeC,λp hp=>(List.mem_append.mp hp).elim (λz=>I.pin p (List.mem_append_left _ z)) (h p),I.hok,I.len⟩
theorem p7{N:List Str}(hN:N.Nodup){i j:Nat}{x:Str}(a:N[i]? = some x)(b:N[j]? = some x):i=j:=by
 obtain⟨h1,e1⟩:=List.getElem?_eq_some_iff.mp a;obtain⟨h2,e2⟩:=List.getElem?_eq_some_iff.mp b;exact(List.getElem_inj hN).mp (e1.trans e2.symm)
theorem vn{M:Model}{A:Around}{E:Value->Shared->Prop}{i:Nat}{x:Str}{v:V}{u:Value}{Q:Unit->Shared->Prop}(I:Inv X pins σ H s)(hN:X.N.Nodup)(hi:X.N[i]? = some x)(hx:qY X.env.scope x)(r:RelV v u)
  (h:∀s',Inv X pins (σ.set i (some v)) H s'->(∃a,Heap.SameBut a s.heap s'.heap/\(a=X.env.locals\/X.env.cells.lookup x=some a))->Q () s') (hf:X.fn x=true\/X.env.scope.names.lookup x=some .local:=by first|exact .inl rfl|exact .inr rfl|assumption):wpAny M A (storeName X.env x u) Q E s:=by
 obtain⟨m,hn,hl⟩:=id I.loc;have hcls:(X.env.scope.kind == .class||(X.env.scope.kind == .module&&X.env.locals != X.env.globals))=false:=by rw[I.ok.kind];rfl
 have hiσ:i < σ.length:=by rw[I.len];exact(List.getElem?_eq_some_iff.mp hi).1
 have cne:=I.cne;have tracked:∀{a:Addr} {h':Heap},(∃o,s.heap.get? a=some o/\H a=none)->Heap.SameBut a s.heap h'->HOk X.prog X.w H h':=λ{a h'} ha hs b ob e=>by
  obtain⟨_,_,hfree⟩:=ha;refine(I.hok b ob e).stay (λc w' hc q=>(hs.2 c ?_).trans q) (λ_ q=>q) (λ_ _ q=>q) λ_ _ _ q=>q
  rintro rfl;rcases hc with rfl|hc
  .rw[hfree]at e;cases e
  .rw[hfree]at hc;cases hc
 rcases hx with hk|hk
 .refine wpAny_storeName_local hk hn (λh' hn' hs=>?_) hcls
  obtain⟨oL,_,_,hoL,_⟩:=id hn;refine h _ ⟨I.ok,I.os,I.bare,⟨λb o e n hb hx=>?_,λb o e n hb hx=>?_,I.base.free,λb o e hx=>?_,I.base.tups,I.base.frzs,I.base.tbls⟩,⟨_,hn',λj y v' e1 e2 e3=>?_⟩,λy c e=>?_,I.free,I.freeC,λp hp=>?_,tracked ⟨oL,hoL,I.free⟩ hs,by simpa using I.len⟩ ⟨_,hs,.inl rfl⟩
  .exact(hs.2 b (Nat.ne_of_lt (Nat.lt_of_lt_of_le (Heap.lt_size e) I.ok.above))).trans (I.base.keep b o e n hb hx)
  .obtain⟨sl,e1⟩:=I.base.slot b o e n hb hx
   exact⟨sl,(hs.2 b (Nat.ne_of_lt (Nat.lt_of_lt_of_le (Heap.lt_size e) I.ok.above))).trans e1⟩
  .obtain⟨o',e1⟩:=I.base.there b o e hx
   exact⟨o',(hs.2 b (Nat.ne_of_lt (Nat.lt_of_lt_of_le (Heap.lt_size e) I.ok.above))).trans e1⟩
  .by_cases hj:j=i
   .subst hj
    rw[hi]at e1;cases e1;rw[List.getElem?_set_self hiσ]at e2;cases e2;exact⟨u,r,.inl ⟨hk,by simp⟩⟩
   .rw[List.getElem?_set_ne (Ne.symm hj)]at e2
    obtain⟨u',r',q⟩:=hl j y v' e1 e2 e3;refine⟨u',r',?_⟩;rcases q with⟨k,e⟩|⟨k,c,e,z⟩
    .refine .inl ⟨k,?_⟩
     have:y≠x:=λe=>hj (p7 hN e1 (e ▸ hi))
     simp[this,e]
    .exact .inr ⟨k,c,e,z.sameBut hs (cne y c e)⟩
  .obtain⟨w',z⟩:=I.cell y c e
   exact⟨w',z.sameBut hs (cne y c e)⟩
  .obtain⟨e,n,ne,nf,d⟩:=I.pin p hp
   exact⟨(hs.2 p.1 ne).trans e,n,ne,nf,d⟩
 .have hfn:X.fn x=true:=by
   rcases hf with z|z
   .exact z
   .rw[z]at hk;cases hk
  obtain⟨c,hc⟩:=I.ok.has x (.inl hk);obtain⟨w',z⟩:=I.cell x c hc;refine wpAny_storeName_cell I.ok.kind hk hc z (λh' hc' hs=>?_);obtain⟨oc,hoc,hocd⟩:=id z;refine h {s with heap:=h'} ⟨I.ok,I.os,I.bare,⟨λb o e n hb hx=>?_,λb o e n hb hx=>?_,I.base.free,λb o e hx=>?_,I.base.tups,I.base.frzs,I.base.tbls⟩,⟨m,hn.sameBut hs (Ne.symm (cne x c hc)),λj y v' e1 e2 e3=>?_⟩,λy c' e=>?_,I.free,I.freeC,λp hp=>?_,tracked ⟨oc,hoc,I.freeC x c hc⟩ hs,by simpa using I.len⟩ ⟨c,hs,.inr hc⟩
  .exact(hs.2 b (Nat.ne_of_lt (Nat.lt_of_lt_of_le (Heap.lt_size e) (I.ok.cab x c hfn hc)))).trans (I.base.keep b o e n hb hx)
  .obtain⟨sl,e1⟩:=I.base.slot b o e n hb hx
   exact⟨sl,(hs.2 b (Nat.ne_of_lt (Nat.lt_of_lt_of_le (Heap.lt_size e) (I.ok.cab x c hfn hc)))).trans e1⟩
  .obtain⟨o',e1⟩:=I.base.there b o e hx
   exact⟨o',(hs.2 b (Nat.ne_of_lt (Nat.lt_of_lt_of_le (Heap.lt_size e) (I.ok.cab x c hfn hc)))).trans e1⟩
  .by_cases hj:j=i
   .subst hj
    rw[hi]at e1;cases e1;rw[List.getElem?_set_self hiσ]at e2;cases e2;exact⟨u,r,.inr ⟨.inl hk,c,hc,hc'⟩⟩
   .rw[List.getElem?_set_ne (Ne.symm hj)]at e2
    obtain⟨u',r',q⟩:=hl j y v' e1 e2 e3;refine⟨u',r',?_⟩;rcases q with q|⟨k,c',e,z'⟩
    .exact .inl q
    .refine .inr ⟨k,c',e,z'.sameBut hs ?_⟩
     rintro rfl;exact hj (p7 hN e1 (I.ok.inj _ _ _ e hc ▸ hi))
  .by_cases hcc:c'=c
   .subst hcc;exact⟨_,hc'⟩
   .obtain⟨w2,z2⟩:=I.cell y c' e
    exact⟨w2,z2.sameBut hs hcc⟩
  .obtain⟨e,n,ne,nf,d⟩:=I.pin p hp
   refine⟨(hs.2 p.1 ?_).trans e,n,ne,nf,d⟩;intro q;rw[q,hoc]at e;have q':oc=p.2:=Option.some.inj e;exact d w' (by rw[<-q'];exact hocd)
theorem pC{M:Model}{A:Around}{E:Value->Shared->Prop}{i:Nat}{x:Str}{v:V}{u:Value}{Q:Unit->Shared->Prop}(I:Inv X pins σ H s)(hN:X.N.Nodup)(hi:X.N[i]? = some x)(hx:qY X.env.scope x)(r:RelV v u)
  (h:∀s',Inv X pins (σ.set i (some v)) H s'->Q () s') (hf:X.fn x=true\/X.env.scope.names.lookup x=some .local:=by first|exact .inl rfl|exact .inr rfl|assumption):wpAny M A (storeName X.env x u) Q E s:=
 vn I hN hi hx r (λs' I' _=>h s' I') hf
theorem Inv.call'{s':Shared}{ch:List Addr}(I:Inv X pins σ H s)(ho:s'.os=s.os)(u:Un (uG X.stack) ch H H' s.heap s'.heap)(hok:HOk X.prog X.w H' s'.heap)(hg:AllBare s'.gens)
  (hch:∀b∈ch,(b∈X.ex\/X.s₀.heap.objs.size<=b)/\b≠X.env.locals/\(∀x c,X.env.cells.lookup x=some c->c≠b)/\∀p∈X.pn++pins,p.1≠b):Inv X pins σ H' s':=by
 obtain⟨h',g',d',t',o'⟩:=s';have e:o'=s.os:=ho;subst e;exact I.call (g':=g') (t':=t') (d':=d') u hok hg hch
end
abbrev XK:=Value->Option Addr->Hp->Prop
abbrev St:=List (Option V)
abbrev VK:=V->Hp->Prop
abbrev TE:=St->Hp->VK->Prop
abbrev TT:=St->Hp->(Bool->Hp->Prop)->Prop
abbrev TA:=St->Hp->(List V->Hp->Prop)->Prop
structure Ends where
 nx:St->Hp->Prop
 rt:VK
 bk:St->Hp->Prop:=λ_ _=>False
 ct:St->Hp->Prop:=λ_ _=>False
abbrev TS:=Ends->St->Hp->Prop
def EP(X:Cx)(pins:List (Addr×Obj))(σ:St)(Q:VK)(u:Value)(s':Shared):Prop:=∃v H',Inv X pins σ H' s'/\RelV v u/\Q v H'
def TP(X:Cx)(pins:List (Addr×Obj))(σ:St)(Q:Bool->Hp->Prop)(b:Bool)(s':Shared):Prop:=∃H',Inv X pins σ H' s'/\Q b H'
def AP(X:Cx)(pins:List (Addr×Obj))(σ:St)(Q:List V->Hp->Prop)(us:List Value)(s':Shared):Prop:=∃vs H',Inv X pins σ H' s'/\Vals vs us/\Q vs H'
def SP(X:Cx)(pins:List (Addr×Obj))(D:Ends)(f:Flow)(s':Shared):Prop:=
 match f with
 |.next=>∃ σ' H',Inv X pins σ' H' s'/\D.nx σ' H'
 |.brk=>∃ σ' H',Inv X pins σ' H' s'/\D.bk σ' H'
 |.cont=>∃ σ' H',Inv X pins σ' H' s'/\D.ct σ' H'
 |.ret u=>∃v σ' H',Inv X pins σ' H' s'/\RelV v u/\D.rt v H'
def PE(X:Cx)(e:Expr)(t:TE):Prop:=
 ∀(pins:List (Addr×Obj)) (s:Shared) (σ:St) (H:Hp) (Q:VK),Inv X pins σ H s->t σ H Q->wpAny (model X.prog X.w) X.A (eval e X.env) (EP X pins σ Q) X.xe s
def PT(X:Cx)(e:Expr)(t:TT):Prop:=
 ∀(pins:List (Addr×Obj)) (s:Shared) (σ:St) (H:Hp) (Q:Bool->Hp->Prop),Inv X pins σ H s->t σ H Q->wpAny (model X.prog X.w) X.A (isTrue e X.env (eval e X.env)) (TP X pins σ Q) X.xe s
def PW(X:Cx)(e:Expr)(t:TT):Prop:=
 ∀(whole:Sem Value) (pins:List (Addr×Obj)) (s:Shared) (σ:St) (H:Hp) (Q:Bool->Hp->Prop),Inv X pins σ H s->t σ H Q->wpAny (model X.prog X.w) X.A (isTrue e X.env whole) (TP X pins σ Q) X.xe s
theorem PW.pt{X:Cx}{e:Expr}{t:TT}(h:PW X e t):PT X e t:=h _
def PA(X:Cx)(es:List Expr)(t:TA):Prop:=
 ∀(pos:Pos) (pins:List (Addr×Obj)) (s:Shared) (σ:St) (H:Hp) (Q:List V->Hp->Prop),Inv X pins σ H s->t σ H Q->wpAny (model X.prog X.w) X.A (spliced (backTo pos (starEach es X.env))) (AP X pins σ Q) X.xe s
def PS(X:Cx)(st:Stmt)(t:TS):Prop:=
 ∀(pins:List (Addr×Obj)) (s:Shared) (σ:St) (H:Hp) (D:Ends),Inv X pins σ H s->t D σ H->wpAny (model X.prog X.w) X.A (exec st X.env) (SP X pins D) X.xe s
def PSs(X:Cx)(st:List Stmt)(t:TS):Prop:=
 ∀(pins:List (Addr×Obj)) (s:Shared) (σ:St) (H:Hp) (D:Ends),Inv X pins σ H s->t D σ H->wpAny (model X.prog X.w) X.A (execs st X.env) (SP X pins D) X.xe s
theorem bu{α:Type}{t:Sem α}{Q Q':α -> Shared->Prop}{M:Model}{A:Around}{E:Value->Shared->Prop}{s:Shared}(h:wpAny M A t Q E s)(hQ:∀a s,Q a s->Q' a s):wpAny M A t Q' E s:=wpAny_mono h hQ λ_ _ x=>x
section
variable{X:Cx}
def G5(i:Nat):TE:=λσ H Q=>∃v,σ[i]? = some (some v)/\Q v H
def tC(v:V):TE:=λ_ H Q=>Q v H
theorem cO{i:Nat}{x:Str}{pos:Pos}(hN:X.N[i]? = some x)(hv:vg X.env.scope x)(hd:(x==("__debug__":Str))=false:=by decide)(hcd:(x==("__classdict__":Str))=false:=by decide):PE X (.Name x pos) (G5 i):=by
 intro pins s σ H Q I h;obtain⟨v,e,h⟩:=h;obtain⟨m,hn,hl⟩:=I.loc;obtain⟨u,r,l⟩:=hl i x v hN e hv;have fin:EP X pins σ Q u s:=⟨v,H,I,r,h⟩;rcases l with⟨hk,hm⟩|⟨hk,c,hc,hcell⟩
 .exact wpAny_Name (wpAny_loadName_local I.ok.kind hk hn hm fin) hd
 .rcases hk with hk|hk
  .exact wpAny_Name (wpAny_loadName_cell I.ok.kind hk hc hcell fin) hd
  .exact wpAny_Name (wpAny_loadName_free I.ok.kind hk hc hcell fin hcd) hd
theorem CK{i j pos}:PE X (.Constant (.int i) j pos) (tC (.int i)):=λ_ _ _ H _ I h=>wpAny_Constant_int ⟨.int i,H,I.tok _,⟨_,rfl⟩,h⟩
theorem Fb{b j pos}:PE X (.Constant (.bool b) j pos) (tC (.bl b)):=λ_ _ _ H _ I h=>Constant_bool ⟨.bl b,H,I,rfl,h⟩
theorem CJ{j pos}:PE X (.Constant .none j pos) (tC .non):=λ_ _ _ H _ I h=>Constant_none ⟨.non,H,I,rfl,h⟩
def Gl(X:Cx)(x:Str):Prop:=X.env.kindOf x=some .globalImplicit
theorem AC{E:Value->Shared->Prop}{pins:List (Addr×Obj)}{s:Shared}{σ:St}{H:Hp}{x:Str}{u:Value}{pos:Pos}{Q:Value->Shared->Prop}(I:Inv X pins σ H s)(hg:Gl X x)(hm:X.mg x=some u)(h:Q u s)
  (hd:(x==("__debug__":Str))=false:=by decide):wpAny (model X.prog X.w) X.A (eval (.Name x pos) X.env) Q E s:=
 Calls.Name_function_global I.ok.kind hg (Calls.loadGlobal_global (by rw[I.ok.glob];exact I.mod.glob.keeps I.bk) hm h) hd
theorem gH{E:Value->Shared->Prop}{pins:List (Addr×Obj)}{s:Shared}{σ:St}{H:Hp}{x:Str}{u:Value}{pos:Pos}{Q:Value->Shared->Prop}(I:Inv X pins σ H s)(hg:Gl X x)(hm:X.mg x=none)(hv:bootBuiltins x=some u)(h:Q u s)
  (hn:x≠"__name__":=by decide) (hd:(x==("__debug__":Str))=false:=by decide):wpAny (model X.prog X.w) X.A (eval (.Name x pos) X.env) Q E s:=by
 obtain⟨mb,h1,h2⟩:=I.mod.blt;exact Calls.Name_function_global I.ok.kind hg (Calls.loadGlobal_builtin (by rw[I.ok.glob];exact I.mod.glob.keeps I.bk) hm (by rw[I.ok.blt];exact h1.keeps I.bk) ((h2 x hn).trans hv) h) hd
variable{a b:Expr}{ta tb:TE}{pos:Pos}
def tB(t:TE):TT:=λσ H Q=>t σ H λx H1=>∃c,x=.bl c/\Q c H1
theorem Cu{e:Expr}{t:TE}(h:PE X e t)(he:∀whole,isTrue e X.env whole=(do let v <-whole;standAt e.pos;holding [v] (truthy v)):=by intro _;rfl):PT X e (tB t):=by
 intro pins s σ H Q I hw;refine isTrue_plain (bu (h pins s σ H _ I hw) λv s1 ⟨x,H1,I1,r1,q1⟩=>?_) (he _)
 obtain⟨d,rfl,q⟩:=q1;cases r1;exact wpAny_truthy_bool ⟨H1,I1,q⟩
variable{tA tB':TT}{rest:List Expr}
def Hh(t u:TT):TT:=λσ H Q=>t σ H λc H1=>if c=true then u σ H1 Q else Q false H1
def Jb(t u:TT):TT:=λσ H Q=>t σ H λc H1=>if c=true then Q true H1 else u σ H1 Q
def Hb(t:TT):TT:=λσ H Q=>t σ H λc H1=>Q (!c) H1
theorem zX(ha:PT X a tA):PW X (.BoolOp .And [a] pos) tA:=by
 intro wh pins s σ H Q I h;refine isTrue_and (bu (ha pins s σ H Q I h) λc s1 e=>?_)
 cases c with
 |true=>exact isTrue_and_nil e
 |false=>exact e
theorem Cs(ha:PT X a tA):PW X (.BoolOp .Or [a] pos) tA:=by
 intro wh pins s σ H Q I h;refine isTrue_or (bu (ha pins s σ H Q I h) λc s1 e=>?_)
 cases c with
 |false=>exact isTrue_or_nil e
 |true=>exact e
theorem Ct(ha:PT X a tA)(hb:PW X (.BoolOp .And (b::rest) pos) tB'):PW X (.BoolOp .And (a::b::rest) pos) (Hh tA tB'):=by
 intro wh pins s σ H Q I h;refine isTrue_and (bu (ha pins s σ H _ I h) λc s1 ⟨H1,I1,q1⟩=>?_)
 cases c with
 |true=>exact hb wh pins s1 σ H1 Q I1 q1
 |false=>exact⟨H1,I1,q1⟩
theorem E5(ha:PT X a tA)(hb:PW X (.BoolOp .Or (b::rest) pos) tB'):PW X (.BoolOp .Or (a::b::rest) pos) (Jb tA tB'):=by
 intro wh pins s σ H Q I h;refine isTrue_or (bu (ha pins s σ H _ I h) λc s1 ⟨H1,I1,q1⟩=>?_)
 cases c with
 |true=>exact⟨H1,I1,q1⟩
 |false=>exact hb wh pins s1 σ H1 Q I1 q1
theorem Cv(ha:PT X a tA):PT X (.UnaryOp .Not a pos) (Hb tA):=by
 intro pins s σ H Q I h;exact isTrue_not (ha pins s σ H (λc H1=>Q (!c) H1) I h)
def Ha(ta tb:TE):TE:=λσ H Q=>ta σ H λx H1=>∃c,x=.bl c/\if c=true then Q (.bl true) H1 else tb σ H1 Q
theorem CI{op}{t:TE}(h:PE X a t):PE X (.BoolOp op [a] pos) t:=λpins s σ H Q I hw=>BoolOp_one (h pins s σ H Q I hw)
theorem E9(ha:PE X a ta)(hb:PE X (.BoolOp .Or (b::rest) pos) tb):PE X (.BoolOp .Or (a::b::rest) pos) (Ha ta tb):=by
 intro pins s σ H Q I h;refine BoolOp_or (bu (ha pins s σ H _ I h) λv s1 ⟨x,H1,I1,r1,q1⟩=>?_)
 obtain⟨c,rfl,q1⟩:=q1;cases r1;refine wpAny_truthy_bool ?_;cases c with
 |false=>exact hb pins s1 σ H1 Q I1 q1
 |true=>exact⟨.bl true,H1,I1,rfl,q1⟩
def Jc(t:TT)(ta tb:TE):TE:=λσ H Q=>t σ H λc H1=>if c=true then ta σ H1 Q else tb σ H1 Q
theorem xz{c:Expr}(hc:PT X c tA)(ha:PE X a ta)(hb:PE X b tb):PE X (.IfExp c a b pos) (Jc tA ta tb):=by
 intro pins s σ H Q I h;refine wpAny_IfExp (bu (hc pins s σ H _ I h) λd s1 ⟨H1,I1,q1⟩=>?_)
 cases d with
 |true=>exact ha pins s1 σ H1 Q I1 q1
 |false=>exact hb pins s1 σ H1 Q I1 q1
end
def SqL(K:PySem.W.Frag)(H:Hp)(a:Addr)(xs:List V):Prop:=
 Rd H a (.lst xs)\/
  ∃(o:Obj) (its:Array Value) (n:Nat),K.lookup a=some o/\o.cls=.type "list"/\ o.dict=none/\o.data=.seq its n/\its.size<=sizeLine/\Vals xs its.toList
def SqT(K:PySem.W.Frag)(H:Hp)(a:Addr)(xs:List V):Prop:=
 Rd H a (.tup xs)\/
  ∃(o:Obj) (its:Array Value) (n:Nat),K.lookup a=some o/\o.cls=.type "tuple"/\ o.data=.seq its n/\its.size<=sizeLine/\Vals xs its.toList/\o.dict=none
noncomputable def Id:Value->Option V
 |.none=>some .non
 |.bool b=>some (.bl b)
 |.int i _=>some (.int i)
 |.str x _=>some (.str x)
 |.bytes b _=>some (.byt b)
 |.float b _=>some (.flt b)
 |.ref a=>some (.ref a)
 |.type n=>some (.ty n)
 |_=>none
theorem RelV.abs{x:V}{u:Value}(r:RelV x u):Id u=some x:=by
 cases x with
 |non=>cases r;rfl
 |bl _=>cases r;rfl
 |int _=>obtain⟨t,rfl⟩:=r;rfl
 |str _=>obtain⟨t,rfl⟩:=r;rfl
 |byt _=>obtain⟨t,rfl⟩:=r;rfl
 |flt _=>obtain⟨t,rfl⟩:=r;rfl
 |ref _=>cases r;rfl
 |ty _=>cases r;rfl
theorem RelV.inj{x y:V}{u:Value}(r:RelV x u)(q:RelV y u):x=y:=Option.some.inj (r.abs.symm.trans q.abs)
theorem Vals.inj:∀{xs ys:List V} {us:List Value},Vals xs us->Vals ys us->xs=ys
 |_,_,_,.nil,.nil=>rfl
 |_,_,_,.cons r t,.cons r' t'=>by rw[r.inj r',Vals.inj t t']
section
variable{X:Cx}{pins:List (Addr×Obj)}{σ:St}{H:Hp}{s:Shared}{a:Addr}{xs ys:List V}
theorem SqL.of{K:PySem.W.Frag}(h:H a=some (.lst xs)):SqL K H a xs:=.inl (.inl h)
theorem SqT.of{K:PySem.W.Frag}(h:H a=some (.tup xs)):SqT K H a xs:=.inl (.inl h)
theorem Inv.list(I:Inv X pins σ H s)(h:SqL X.K H a xs):∃its:List Value,Vals xs its/\PlainL s.heap a its.toArray/\xs.length<=sizeLine:=by
 rcases h with h|⟨o,its,n,hk,hc,hd,hs,hz,r⟩
 .obtain⟨z,its,n,r,e⟩:=h.ok I.hok
  exact⟨its,r,⟨_,n,e,rfl,rfl,rfl⟩,z⟩
 .refine⟨its.toList,r,⟨o,n,I.kIn a o hk,hc,hd,by simpa using hs⟩,?_⟩
  have e:=r.length;simp only[Array.length_toList]at e
  lia
theorem Inv.tuple(I:Inv X pins σ H s)(h:SqT X.K H a xs):∃its:List Value,Vals xs its/\IsTup s.heap a its.toArray/\xs.length<=sizeLine:=by
 rcases h with h|⟨o,its,n,hk,hc,hs,hz,r,hd⟩
 .obtain⟨z,its,r,p⟩:=h.ok I.hok
  exact⟨its,r,p.1,z⟩
 .refine⟨its.toList,r,⟨o,I.kIn a o hk,hc,n,by simpa using hs⟩,?_⟩
  have e:=r.length;simp only[Array.length_toList]at e
  lia
theorem Inv.noDi(I:Inv X pins σ H s)(h:SqT X.K H a xs):NoDi s.heap a:=by
 rcases h with h|⟨o,its,n,hk,hc,hs,hz,r,hd⟩
 .obtain⟨z,its,r,p⟩:=h.ok I.hok
  exact p.2
 .exact⟨o,I.kIn a o hk,hd⟩
theorem Inv.list_inj(I:Inv X pins σ H s)(h:SqL X.K H a xs)(h':SqL X.K H a ys):xs=ys:=by
 obtain⟨its,r,⟨o,n,e,_,_,d⟩,_⟩:=I.list h;obtain⟨its',r',⟨o',n',e',_,_,d'⟩,_⟩:=I.list h';rw[e]at e';cases e';rw[d]at d';injection d' with d1 _
 have:its=its':=by simpa using congrArg Array.toList d1
 subst this;exact r.inj r'
theorem Inv.tuple_inj(I:Inv X pins σ H s)(h:SqT X.K H a xs)(h':SqT X.K H a ys):xs=ys:=by
 obtain⟨its,r,⟨o,e,_,n,d⟩,_⟩:=I.tuple h;obtain⟨its',r',⟨o',e',_,n',d'⟩,_⟩:=I.tuple h';rw[e]at e';cases e';rw[d]at d';injection d' with d1 _
 have:its=its':=by simpa using congrArg Array.toList d1
 subst this;exact r.inj r'
end
abbrev Cx.wish(X:Cx)(E:Value->Shared->Prop):Cx:={X with xe:=E}
abbrev Cx.nox(X:Cx):Cx:=X.wish λ_ _=>False
theorem Cx.Ok.wish{X:Cx}(ok:X.Ok)(E:Value->Shared->Prop):(X.wish E).Ok:=
 ⟨ok.mod,ok.kind,ok.glob,ok.blt,ok.above,ok.inj,ok.has,ok.cab,ok.hd,ok.frames,ok.stk,ok.exf,ok.bs,ok.bsz,ok.noex,ok.exfs,ok.funs,ok.frf,ok.tb⟩
theorem Cx.Ok.unwish{X:Cx}{E:Value->Shared->Prop}(ok:(X.wish E).Ok):X.Ok:=
 ⟨ok.mod,ok.kind,ok.glob,ok.blt,ok.above,ok.inj,ok.has,ok.cab,ok.hd,ok.frames,ok.stk,ok.exf,ok.bs,ok.bsz,ok.noex,ok.exfs,ok.funs,ok.frf,ok.tb⟩
section
variable{X:Cx}{pins:List (Addr×Obj)}{σ:St}{H:Hp}{s:Shared}{E:Value->Shared->Prop}
theorem Inv.wish(I:Inv X pins σ H s)(E:Value->Shared->Prop):Inv (X.wish E) pins σ H s:=⟨I.ok.wish E,I.os,I.bare,I.base,I.loc,I.cell,I.free,I.freeC,I.pin,I.hok,I.len⟩
theorem Inv.unwish(I:Inv (X.wish E) pins σ H s):Inv X pins σ H s:=⟨I.ok.unwish,I.os,I.bare,I.base,I.loc,I.cell,I.free,I.freeC,I.pin,I.hok,I.len⟩
theorem SP.unwish{D:Ends}{f:Flow}{s':Shared}(h:SP (X.wish E) pins D f s'):SP X pins D f s':=by
 cases f with
 |next=>obtain⟨σ',H',I,q⟩:=h;exact⟨σ',H',I.unwish,q⟩
 |brk=>obtain⟨σ',H',I,q⟩:=h;exact⟨σ',H',I.unwish,q⟩
 |cont=>obtain⟨σ',H',I,q⟩:=h;exact⟨σ',H',I.unwish,q⟩
 |ret u=>obtain⟨v,σ',H',I,r,q⟩:=h;exact⟨v,σ',H',I.unwish,r,q⟩
theorem PE.nox{e:Expr}{t:TE}(h:PE X.nox e t):PE X e t:=λpins s σ H Q I hw=>
 wpAny_mono (h pins s σ H Q (I.wish _) hw) (λ_ _ ⟨v,H',I',r,q⟩=>⟨v,H',I'.unwish,r,q⟩) λ_ _ z=>False.elim z
theorem PSs.nox{st:List Stmt}{t:TS}(h:PSs X.nox st t):PSs X st t:=λpins s σ H D I hw=>
 wpAny_mono (h pins s σ H D (I.wish _) hw) (λ_ _ q=>q.unwish) λ_ _ z=>False.elim z
end
section
variable{X:Cx}{st:Stmt}{rest:List Stmt}{t u:TS}{e:Expr}{te:TE}{pos:Pos}
def EH:TS:=λD σ H=>D.nx σ H
def G8(t u:TS):TS:=λD σ H=>t {D with nx:=u D} σ H
theorem tW:PSs X [] EH:=λ_ _ σ H _ I h=>wpAny_execs_nil ⟨σ,H,I,h⟩
theorem pP(h1:PS X st t)(h2:PSs X rest u):PSs X (st::rest) (G8 t u):=by
 intro pins s σ H D I h;refine wpAny_execs_cons (bu (h1 pins s σ H {D with nx:=u D} I h) λf s1 q=>?_)
 cases f with
 |next=>
  obtain⟨σ',H',I',q⟩:=q;exact h2 pins s1 σ' H' D I' q
 |ret v=>exact q
 |brk=>exact q
 |cont=>exact q
theorem tU(h1:PS X st t):PSs X [st] t:=by
 intro pins s σ H D I h;refine wpAny_execs_cons (bu (h1 pins s σ H D I h) λf s1 q=>?_)
 cases f with
 |next=>exact wpAny_execs_nil q
 |ret v=>exact q
 |brk=>exact q
 |cont=>exact q
theorem Inv.quiet{pins:List (Addr×Obj)}{σ:St}{H:Hp}{s:Shared}(I:Inv X pins σ H s):interactive X.env=false:=by simp[interactive,I.ok.kind]
def EI(te:TE):TS:=λD σ H=>te σ H λ_ H1=>D.nx σ H1
theorem tX(he:PE X e te)(hs:swapsWith e none pos.line X.env=pure false:=by rfl):PS X (.Expr e pos) (EI te):=by
 intro pins s σ H D I h;exact wpAny_Expr_any (bu (he pins s σ H _ I h) λv s1 ⟨x,H1,I1,r1,q1⟩=>⟨σ,H1,I1,q1⟩) I.quiet hs
def G9(te:TE):TS:=λD σ H=>te σ H D.rt
theorem xp(he:PE X e te):PS X (.Return (some e) pos) (G9 te):=by
 intro pins s σ H D I h;exact wpAny_Return_some (bu (he pins s σ H _ I h) λv s1 ⟨x,H1,I1,r1,q1⟩=>⟨x,σ,H1,I1,r1,q1⟩)
def He(c:TT)(t u:TS):TS:=λD σ H=>c σ H λb H1=>if b=true then t D σ H1 else u D σ H1
theorem Bu{c:Expr}{a b:List Stmt}{tc:TT}(hc:PT X c tc)(ha:PSs X a t)(hb:PSs X b u):PS X (.If c a b pos) (He tc t u):=by
 intro pins s σ H D I h;refine wpAny_If (bu (hc pins s σ H _ I h) λd s1 ⟨H1,I1,q1⟩=>?_)
 cases d with
 |true=>exact ha pins s1 σ H1 D I1 q1
 |false=>exact hb pins s1 σ H1 D I1 q1
end
abbrev TG:=V->St->Hp->(St->Hp->Prop)->Prop
abbrev Bf:=List V->St->Hp->(St->Hp->Prop)->Prop
def PG(X:Cx)(target:Expr)(t:TG):Prop:=
 ∀(pins:List (Addr×Obj)) (s:Shared) (σ:St) (H:Hp) (v:V) (u:Value) (Q:St->Hp->Prop),Inv X pins σ H s->RelV v u->t v σ H Q ->
  wpAny (model X.prog X.w) X.A (assign target X.env u) (λ_ s'=>∃ σ' H',Inv X pins σ' H' s'/\Q σ' H') X.xe s
def PGs(X:Cx)(ts:List Expr)(t:Bf):Prop:=
 ∀(pins:List (Addr×Obj)) (s:Shared) (σ:St) (H:Hp) (vs:List V) (us:List Value) (Q:St->Hp->Prop),Inv X pins σ H s->Vals vs us->t vs σ H Q ->
  wpAny (model X.prog X.w) X.A (assignInOrder ((assignEach ts X.env).map (·.2)) us) (λ_ s'=>∃ σ' H',Inv X pins σ' H' s'/\Q σ' H') X.xe s
abbrev DY:=V->V->V->Hp->(Hp->Prop)->Prop
def Go(X:Cx)(t:DY):Prop:=
 ∀(pins:List (Addr×Obj)) (s:Shared) (σ:St) (H:Hp) (o i v:V) (ov iv u:Value) (Q:Hp->Prop),Inv X pins σ H s->RelV o ov->RelV i iv->RelV v u->t o i v H Q ->
  wpAny (model X.prog X.w) X.A (setItem ov iv u) (λ_ s'=>∃H',Inv X pins σ H' s'/\Q H') X.xe s
section
variable{X:Cx}{pos:Pos}
def yB(i:Nat):TG:=λv σ H Q=>Q (σ.set i (some v)) H
theorem bw{i:Nat}{x:Str}(hN:X.N.Nodup)(hi:X.N[i]? = some x)(hx:qY X.env.scope x)(hf:X.fn x=true\/X.env.scope.names.lookup x=some .local:=by first|exact .inl rfl|exact .inr rfl|assumption):PG X (.Name x pos) (yB i):=by
 intro pins s σ H v u Q I r h;exact wpAny_assign_Name (pC I hN hi hx r (λs' I'=>⟨_,H,I',h⟩) hf)
noncomputable def HS:Bf:=λvs σ H Q=>vs=[]/\Q σ H
def FT(t:TG)(u:Bf):Bf:=λvs σ H Q=>∃v r,vs=v::r/\t v σ H λσ' H'=>u r σ' H' Q
theorem Ah:PGs X [] HS:=by
 intro pins s σ H vs us Q I r h;obtain⟨e,h⟩:=h;subst e;cases r;exact assignInOrder_nil ⟨σ,H,I,h⟩
theorem xw{e:Expr}{es:List Expr}{t:TG}{u:Bf}(h1:PG X e t)(h2:PGs X es u)
  (hs:(assignEach (e::es) X.env).map (·.2)=assign e X.env::(assignEach es X.env).map (·.2):=by rfl):PGs X (e::es) (FT t u):=by
 intro pins s σ H vs us Q I r h;obtain⟨v,vr,e1,h⟩:=h;subst e1;cases r with
 |cons r rr=>
  rw[hs];refine assignInOrder_cons (bu (h1 pins s σ H _ _ _ I r h) λ_ s1 ⟨σ1,H1,I1,q1⟩=>?_)
  exact h2 pins s1 σ1 H1 _ _ Q I1 rr q1
def HN(K:PySem.W.Frag)(n:Nat)(t:Bf):TG:=λv σ H Q=>∃a xs,v=.ref a/\SqT K H a xs/\xs.length=n/\t xs σ H Q
theorem CD{es:List Expr}{k:Nat}{t:Bf}{n:Nat}(hc:X.calm=true)(h:PGs X es t)
  (hn:(assignEach es X.env).length=n:=by rfl) (hst:(assignEach es X.env).findIdx? (·.1)=none:=by rfl):PG X (.Tuple es k pos) (HN X.K n t):=by
 intro pins s σ H v u Q I r hw;obtain⟨a,xs,e1,hq,hl,hw⟩:=hw;subst e1;cases r;obtain⟨its,rv,ht,hz⟩:=I.tuple hq;refine assign_Tuple_tuple (I.ok.hd hc) ht (by simp[hn,<-hl,rv.length]) hst λh' hx=>?_
 have I1:Inv X pins σ H {s with heap:=h'}:=I.kept (t':=s.toks) λb o e=>hx b o (Nat.ne_of_lt (Heap.lt_size e)) e
 exact h pins _ σ H xs _ Q I1 (by simpa using rv) hw
def HR(to ti:TE)(t:DY):TG:=λv σ H Q=>to σ H λo H1=>ti σ H1 λi H2=>t o i v H2 λH3=>Q σ H3
theorem CG{o i:Expr}{to ti:TE}{t:DY}(ho:PE X o to)(hi:PE X i ti)(hs:Go X t)
  (ha:∀v,assign (.Subscript o i pos) X.env v=(do
   let ov <-holding [v] (eval o X.env)
   let iv <-holding [v,ov] (eval i X.env)
   standAt pos
   holding [v,ov,iv] (setItem ov iv v)
   release [v,ov,iv] []):=by intro _;rfl):PG X (.Subscript o i pos) (HR to ti t):=by
 intro pins s σ H v u Q I r h;rw[ha];refine wpAny_bind (wpAny_holding (bu (ho pins s σ H _ I h) λov s1 ⟨x,H1,I1,r1,q1⟩=>?_))
 refine wpAny_bind (wpAny_holding (bu (hi pins s1 σ H1 _ I1 q1) λiv s2 ⟨y,H2,I2,r2,q2⟩=>?_))
 refine wpAny_bind (wpAny_standAt (wpAny_bind (wpAny_holding (bu (hs pins s2 σ H2 x y v ov iv u _ I2 r1 r2 r q2) λ_ s3 ⟨H3,I3,q3⟩=>?_))))
 exact wpAny_release ⟨σ,H3,I3,q3⟩
def EM(te:TE)(g:TG):TS:=λD σ H=>te σ H λx H1=>g x σ H1 D.nx
theorem Cy{tg e:Expr}{te:TE}{g:TG}(he:PE X e te)(hg:PG X tg g)(hs:swapsWithSole [tg] e pos.line X.env=pure false:=by rfl)(hw:swappedStores [tg] e X.env=pure none:=by rfl)
  (h1:(assignEach [tg] X.env).map (·.2)=[assign tg X.env]:=by rfl):PS X (.Assign [tg] e pos) (EM te g):=by
 intro pins s σ H D I h;refine wpAny_Assign_stores (bu (he pins s σ H _ I h) λv s1 ⟨x,H1,I1,r1,q1⟩=>?_) hs hw
 rw[h1];exact bu (hg pins s1 σ H1 x v _ I1 r1 q1) λ_ s2 q=>q
theorem gE{i:Nat}{x:Str}{e:Expr}{te:TE}{pos':Pos}(hN:X.N.Nodup)(hi:X.N[i]? = some x)(hx:qY X.env.scope x)(he:PE X e te)(hs:swapsWith e (some (.Name x pos')) pos.line X.env=pure false:=by rfl)(hf:X.fn x=true\/X.env.scope.names.lookup x=some .local:=by first|exact .inl rfl|exact .inr rfl|assumption):
  PS X (.Assign [.Name x pos'] e pos) (EM te (yB i)):=by
 intro pins s σ H D I h;refine wpAny_Assign_Name (bu (he pins s σ H _ I h) λv s1 ⟨y,H1,I1,r1,q1⟩=>?_) hs
 exact pC I1 hN hi hx r1 (λs2 I2=>⟨_,H1,I2,q1⟩) hf
end
structure It where
 go:Nat->Hp->Prop
 yld:Nat->Hp->V->Hp->Prop
 stop:Nat->Hp->Prop
def gW(X:Cx)(pins:List (Addr×Obj))(H:Hp)(b:Addr):Prop:=
 H b=none/\b≠X.env.locals/\b∉X.fs/\(b∈X.ex\/X.s₀.heap.objs.size<=b)/\(∀x c,X.env.cells.lookup x=some c->c≠b)/\∀p∈X.pn++pins,p.1≠b
theorem Inv.fpOk{X:Cx}{pins:List (Addr×Obj)}{σ:St}{H H':Hp}{s:Shared}{b:Addr}(I:Inv X pins σ H s)(hb:s.heap.objs.size<=b)(hn:H' b=none):gW X pins H' b:=by
 refine⟨hn,Nat.ne_of_gt (Nat.lt_of_lt_of_le I.lt hb),I.nofs hb,.inr (Nat.le_trans I.sz hb),λx c e z=>?_,λp hp z=>?_⟩
 .obtain⟨v,q⟩:=I.cell x c e
  exact absurd (Nat.lt_of_lt_of_le q.lt (by rw[z];exact hb)) (Nat.lt_irrefl _)
 .exact absurd (Nat.lt_of_lt_of_le (Heap.lt_size (I.pin p hp).1) (by rw[z];exact hb)) (Nat.lt_irrefl _)
structure TurnG (Cm:Cx->Prop) (P:Program) (w:World) (K:PySem.W.Frag) (tg:Expr) (J:It) (fp:List Addr) (it:Addr) (tn:Nat->Heap->Prop):Prop where
 mem:it∈fp
 obj:∀i h,tn i h->∀b∈fp,∃o,h.get? b=some o/\∀v,o.data≠.cell v
 keep:∀i h h',tn i h->(∀b∈fp,∀o,h.get? b=some o->h'.get? b=some o)->tn i h'
 item:∀(X:Cx),X.prog=P->X.w=w->X.K=K->Cm X->∀(i:Nat) (pins:List (Addr×Obj)) (s:Shared) (σ:St) (H:Hp) (E:Value->Shared->Prop),Inv X pins σ H s->(∀b∈fp,gW X pins H b)->tn i s.heap->J.go i H ->
  wpAny (model P w) X.A (pyNext (.ref it)) (λr s1=>∃u,r=some u/\
   wpAny (model P w) X.A (letOwnedTupleGo tg (.ref it) u) (λ_ s2=>∃x H',Inv X pins σ H' s2/\RelV x u/\J.yld i H x H'/\tn (i+1) s2.heap/\∀b∈fp,H' b=none) E s1) E s
 done:∀(X:Cx),X.prog=P->X.w=w->X.K=K->Cm X->∀(i:Nat) (pins:List (Addr×Obj)) (s:Shared) (σ:St) (H:Hp) (E:Value->Shared->Prop),Inv X pins σ H s->(∀b∈fp,gW X pins H b)->tn i s.heap->J.stop i H ->
  wpAny (model P w) X.A (pyNext (.ref it)) (λr s1=>r=none/\Inv X pins σ H s1) E s
 self:∀(A:Around) (i:Nat) (s:Shared) (Q:Value->Shared->Prop) (E:Value->Shared->Prop),tn i s.heap->Q (.ref it) s->wpAny (model P w) A (pyIter (.ref it)) Q E s
abbrev ze(P:Program)(w:World)(K:PySem.W.Frag)(tg:Expr)(J:It)(fp:List Addr)(it:Addr)(tn:Nat->Heap->Prop):Prop:=TurnG (λX=>X.calm=true) P w K tg J fp it tn
abbrev TI:=St->Hp->(It->Hp->Prop)->Prop
def IN(X:Cx)(pins:List (Addr×Obj))(σ:St)(tg:Expr)(R:It->Hp->Prop)(itv:Value)(s2:Shared):Prop:=
 ∃(it:Addr) (fp:List Addr) (tn:Nat->Heap->Prop) (J:It) (H':Hp),itv=.ref it/\Inv X pins σ H' s2/\ze X.prog X.w X.K tg J fp it tn/\tn 0 s2.heap/\(∀b∈fp,gW X pins H' b)/\R J H'
def PI(X:Cx)(tg iter:Expr)(wi:TI):Prop:=
 ∀(pins:List (Addr×Obj)) (s:Shared) (σ:St) (H:Hp) (R:It->Hp->Prop),Inv X pins σ H s->wi σ H R ->
  wpAny (model X.prog X.w) X.A (eval iter X.env) (λv s1=>wpAny (model X.prog X.w) X.A (pyIter v) (IN X pins σ tg R) X.xe s1) X.xe s
theorem yv{M:Model}{A:Around}{E:Value->Shared->Prop}{s:Shared}{tg:Expr}{it:Addr}{u:Value}{o:Obj}{n:String}{vs:Array Value}{Q:Unit->Shared->Prop}(ho:s.heap.get? it=some o)(hc:o.cls=.type n)(hd:o.data=.fields vs)
  (hn:["enumerate","zip","dict_itemiterator","dict_reverseitemiterator","odict_iterator","itertools.zip_longest","itertools.pairwise"].contains n=false) (hQ:Q () s):wpAny M A (letOwnedTupleGo tg (.ref it) u) Q E s:=by
 unfold letOwnedTupleGo;cases tg<;>first
  |exact wpAny_pure hQ
  | (cases u<;>first
    |exact wpAny_pure hQ
    | (refine wpAny_bind (wpAny_load ho ?_)
       rw[hc,hd];show wpAny M A (if(["enumerate","zip","dict_itemiterator","dict_reverseitemiterator","odict_iterator","itertools.zip_longest","itertools.pairwise"].contains n&&vs[0]? == some (rawInt _))=true then _ else _) Q E s;rw[if_neg (by intro h;rw[hn,Bool.false_and]at h;cases h)];exact wpAny_pure hQ))
noncomputable def IR(K:PySem.W.Frag)(a:Addr):It:=
 ⟨λi H=>∃xs x,SqL K H a xs/\xs[i]? = some x,λi H x H'=>H'=H/\∀xs,SqL K H a xs->xs[i]? = some x,λi H=>∃xs,SqL K H a xs/\xs.length<=i⟩
noncomputable def IQ(K:PySem.W.Frag)(a:Addr):It:=
 ⟨λi H=>∃xs x,SqT K H a xs/\xs[i]? = some x,λi H x H'=>H'=H/\∀xs,SqT K H a xs->xs[i]? = some x,λi H=>∃xs,SqT K H a xs/\xs.length<=i⟩
noncomputable def Ep(lo:Int)(n:Nat):It:=⟨λi _=>i<n,λi H x H'=>H'=H/\x=.int (lo+i),λi _=>n<=i⟩
theorem vm{P:Program}{w:World}{K:PySem.W.Frag}{tg:Expr}(a it:Addr):ze P w K tg (IR K a) [it] it (λi h=>h.IsListIter it a i) where
 mem:=by simp
 obj:=λi h st b hb=>by
  have e:b=it:=by simpa using hb
  subst e;obtain⟨o,e,c,d⟩:=st;exact⟨o,e,λv z=>by rw[d]at z;cases z⟩
 keep:=λi h h' st k=>st.at λo e=>k it (by simp) o e
 item:=by
  intro X hP hw hK hc i pins s σ H E I hf st hg;subst hP hw hK;obtain⟨xs,x,hq,hx⟩:=hg;obtain⟨its,rv,p,hz⟩:=I.list hq;obtain⟨u,hu,ru⟩:=rv.get hx;obtain⟨f0,f1,f2,f3,f4,f5⟩:=hf it (by simp);refine wpAny_pyNext_list_item st p.isList (x:=u) (by simpa using hu) λh' st' sb=>?_
  have I1:Inv X pins σ H {s with heap:=h'}:=I.turned (t':=s.toks) (λb o hb e=>(sb.2 b hb).trans e) f0 f1 f3 f4 f5
  obtain⟨o,e,c,d⟩:=id st';exact⟨u,rfl,yv (s:={s with heap:=h'}) e c d (by decide) ⟨x,H,I1,ru,⟨rfl,λys hy=>by rw[I.list_inj hy hq];exact hx⟩,st',λb hb=>(hf b hb).1⟩⟩
 done:=by
  intro X hP hw hK hc i pins s σ H E I hf st hg;subst hP hw hK;obtain⟨xs,hq,hx⟩:=hg;obtain⟨its,rv,p,hz⟩:=I.list hq;obtain⟨f0,f1,f2,f3,f4,f5⟩:=hf it (by simp);have hl:=rv.length;exact wpAny_pyNext_list_end (I.ok.hd hc) st p.isList (by simp;lia) λh' eb=>⟨rfl,I.turned (t':=s.toks) (λb o hb e=>eb b o hb e) f0 f1 f3 f4 f5⟩
 self:=λ_ _ _ _ _ st h=>wpAny_pyIter_listiter st h
theorem re{P:Program}{w:World}{K:PySem.W.Frag}{tg:Expr}(a it:Addr):ze P w K tg (IQ K a) [it] it (λi h=>h.IsTupleIter it a i) where
 mem:=by simp
 obj:=λi h st b hb=>by
  have e:b=it:=by simpa using hb
  subst e;obtain⟨o,e,c,d⟩:=st;exact⟨o,e,λv z=>by rw[d]at z;cases z⟩
 keep:=λi h h' st k=>st.at λo e=>k it (by simp) o e
 item:=by
  intro X hP hw hK hc i pins s σ H E I hf st hg;subst hP hw hK;obtain⟨xs,x,hq,hx⟩:=hg;obtain⟨its,rv,p,hz⟩:=I.tuple hq;obtain⟨u,hu,ru⟩:=rv.get hx;obtain⟨f0,f1,f2,f3,f4,f5⟩:=hf it (by simp);refine wpAny_pyNext_tuple_item st (show s.heap.IsTuple a its.toArray from p) (x:=u) (by simpa using hu) λh' st' sb=>?_
  have I1:Inv X pins σ H {s with heap:=h'}:=I.turned (t':=s.toks) (λb o hb e=>(sb.2 b hb).trans e) f0 f1 f3 f4 f5
  obtain⟨o,e,c,d⟩:=id st';exact⟨u,rfl,yv (s:={s with heap:=h'}) e c d (by decide) ⟨x,H,I1,ru,⟨rfl,λys hy=>by rw[I.tuple_inj hy hq];exact hx⟩,st',λb hb=>(hf b hb).1⟩⟩
 done:=by
  intro X hP hw hK hc i pins s σ H E I hf st hg;subst hP hw hK;obtain⟨xs,hq,hx⟩:=hg;obtain⟨its,rv,p,hz⟩:=I.tuple hq;obtain⟨f0,f1,f2,f3,f4,f5⟩:=hf it (by simp);have hl:=rv.length;exact wpAny_pyNext_tuple_end (I.ok.hd hc) st (show s.heap.IsTuple a its.toArray from p) (by simp;lia) λh' eb=>⟨rfl,I.turned (t':=s.toks) (λb o hb e=>eb b o hb e) f0 f1 f3 f4 f5⟩
 self:=λ_ _ _ _ _ st h=>wpAny_pyIter_tupleiter st h
theorem rf{P:Program}{w:World}{K:PySem.W.Frag}{tg:Expr}(it:Addr)(lo:Int)(n:Nat):ze P w K tg (Ep lo n) [it] it (λi h=>IsRangeIter h it (lo+(i:Nat)*1) ((n:Int)-(i:Nat)) 1) where
 mem:=by simp
 obj:=λi h st b hb=>by
  have e:b=it:=by simpa using hb
  subst e;exact⟨_,st,λv z=>by
   have z':Data.fields _=Data.cell v:=z;cases z'⟩
 keep:=λi h h' st k=>k it (by simp) _ st
 item:=by
  intro X hP hw hK hc i pins s σ H E I hf st hg;subst hP hw hK;obtain⟨f0,f1,f2,f3,f4,f5⟩:=hf it (by simp);have W:=Walks.range (prog:=X.prog) (w:=X.w) (I.ok.hd hc) it lo 1 n;refine W.item i s _ _ hg st λv h' tk hv st' kk=>?_
  obtain⟨t,rfl⟩:=hv;have I1:Inv X pins σ H {s with heap:=h',toks:=tk}:=I.turned (λb o hb e=>kk b o (by simpa using hb) e) f0 f1 f3 f4 f5
  refine⟨_,rfl,yv (s:={s with heap:=h',toks:=tk}) (n:="range_iterator") st' rfl rfl (by decide) ⟨.int (lo+i),H,I1,⟨t,?_⟩,⟨rfl,rfl⟩,st',λb hb=>(hf b hb).1⟩⟩
  rw[Int.mul_one]
 done:=by
  intro X hP hw hK hc i pins s σ H E I hf st hg;subst hP hw hK;obtain⟨f0,f1,f2,f3,f4,f5⟩:=hf it (by simp);exact wpAny_pyNext_range_end (I.ok.hd hc) st (by have:n<=i:=hg;lia) λh' eb=>⟨rfl,I.turned (t':=s.toks) (λb o hb e=>eb b o hb e) f0 f1 f3 f4 f5⟩
 self:=λ_ _ _ _ _ st h=>wpAny_pyIter_rangeiter st h
section
variable{X:Cx}{tg:Expr}
def FQ(K:PySem.W.Frag)(tl:TE):TI:=λσ H R=>tl σ H λx H1=>∃a,x=.ref a/\(∃xs,SqL K H1 a xs)/\R (IR K a) H1
def HK(K:PySem.W.Frag)(tl:TE):TI:=λσ H R=>tl σ H λx H1=>∃a,x=.ref a/\(∃xs,SqT K H1 a xs)/\R (IQ K a) H1
theorem Af{l:Expr}{tl:TE}(hl:PE X l tl):PI X tg l (FQ X.K tl):=by
 intro pins s σ H R I h;refine bu (hl pins s σ H _ I h) λv s1 ⟨x,H1,I1,r1,q1⟩=>?_
 obtain⟨a,e,⟨xs,hq⟩,q⟩:=q1;subst e;cases r1;obtain⟨its,rv,p,hz⟩:=I1.list hq;refine wpAny_pyIter_list p.isList ?_;refine⟨s1.heap.objs.size,[s1.heap.objs.size],_,_,H1,rfl,I1.kept (t':=s1.toks) λb o e=>Heap.get?_push_of_some _ e,vm a _,⟨_,Heap.get?_push_size _ rfl,rfl,rfl⟩,λb hb=>?_,q⟩
 have e:b=s1.heap.objs.size:=by simpa using hb
 subst e;exact I1.fpOk (Nat.le_refl _) (I1.hok.fresh (Nat.le_refl _))
theorem CC{l:Expr}{tl:TE}(hl:PE X l tl):PI X tg l (HK X.K tl):=by
 intro pins s σ H R I h;refine bu (hl pins s σ H _ I h) λv s1 ⟨x,H1,I1,r1,q1⟩=>?_
 obtain⟨a,e,⟨xs,hq⟩,q⟩:=q1;subst e;cases r1;obtain⟨its,rv,p,hz⟩:=I1.tuple hq;refine wpAny_pyIter_tuple (show s1.heap.IsTuple a its.toArray from p) ?_;refine⟨s1.heap.objs.size,[s1.heap.objs.size],_,_,H1,rfl,I1.kept (t':=s1.toks) λb o e=>Heap.get?_push_of_some _ e,re a _,⟨_,Heap.get?_push_size _ rfl,rfl,rfl⟩,λb hb=>?_,q⟩
 have e:b=s1.heap.objs.size:=by simpa using hb
 subst e;exact I1.fpOk (Nat.le_refl _) (I1.hok.fresh (Nat.le_refl _))
theorem xo{pins:List (Addr×Obj)}{σ:St}{H:Hp}{s:Shared}{R:It->Hp->Prop}{E:Value->Shared->Prop}{lo hi:Int}{t u v:Tok}{tk:Nat}(I:Inv X pins σ H s)(h1:-(2^62)<=lo)(h2:lo<2^62)(h3:-(2^62)<=hi)(h4:hi<2^62)
  (q:R (Ep lo (hi-lo).toNat) H):wpAny (model X.prog X.w) X.A (pyIter (.ref s.heap.objs.size)) (IN X pins σ tg R) E {s with heap:=s.heap.push {cls:=.type "range",data:=.fields #[.int lo t,.int hi u,.int 1 v]},toks:=tk}:=by
 refine wpAny_pyIter_range (IsRange.new ..) (small_one h1 h2 h3 h4) ?_;have I1:Inv X pins σ H {s with heap:=s.heap.push {cls:=.type "range",data:=.fields #[.int lo t,.int hi u,.int 1 v]},toks:=tk}:=I.kept λb o e=>Heap.get?_push_of_some _ e
 refine⟨(s.heap.push {cls:=.type "range",data:=.fields #[.int lo t,.int hi u,.int 1 v]}).objs.size,[(s.heap.push {cls:=.type "range",data:=.fields #[.int lo t,.int hi u,.int 1 v]}).objs.size],_,_,H,rfl,
  I1.kept (t':=tk) λb o e=>Heap.get?_push_of_some _ e,rf _ lo (hi-lo).toNat,?_,λb hb=>?_,q⟩
 .have e1:lo+((0:Nat):Int)*1=lo:=by simp
  have e2:(((hi-lo).toNat:Nat):Int)-((0:Nat):Int)=Builtin.Range.rangeSize lo hi 1:=by rw[rangeSize_one];split<;>lia
  show IsRangeIter _ _ (lo+((0:Nat):Int)*1) ((((hi-lo).toNat:Nat):Int)-((0:Nat):Int)) 1;rw[e1,e2];exact Heap.get?_push_size _ rfl
 .have e:b=(s.heap.push {cls:=.type "range",data:=.fields #[.int lo t,.int hi u,.int 1 v]}).objs.size:=by simpa using hb
  subst e;exact I1.fpOk (Nat.le_refl _) (I1.hok.fresh (Nat.le_refl _))
def FP(ta:TA):TI:=λσ H R=>ta σ H λvs H1=>∃j:Int,vs=[.int j]/\ -(2^62)<=j/\j<2^62/\R (Ep 0 j.toNat) H1
theorem vI{a:Expr}{ta:TA}{p pos:Pos}(hg:Gl X "range")(hm:X.mg "range" = none)(ha:PA X [a] ta)(hs:starEach [a] X.env=[(false,eval a X.env)]:=by rfl):PI X tg (.Call (.Name "range" p) [a] [] pos) (FP ta):=by
 intro pins s σ H R I h;refine Call_ (gH I hg hm boot_range (PyProof.Rows.callWith_type1 (bu (ha pos pins s σ H _ I h) λus s1 ⟨vs,H1,I1,r1,q1⟩=>?_) hs rfl))
 obtain⟨j,e,q1,q2,q⟩:=q1;subst e;cases r1 with
 |cons r rr=>
  cases rr;obtain⟨t,rfl⟩:=r;exact call_range_1 (xo I1 (by lia) (by lia) q1 q2 (by simpa using q))
def Hf(wi:TI)(g:TG)(tb:TS):TS:=λD σ H=>wi σ H λJ H1=>∃W:Nat->Nat->St->Hp->Prop,(∃m,W 0 m σ H1)/\∀i m σ H,W i m σ H ->
 (J.stop i H/\D.nx σ H)\/(J.go i H/\∃N:St->Hp->Prop,(∀ σ' H',N σ' H'->∃m',m'<m/\W (i+1) m' σ' H')/\∀x H',J.yld i H x H'->g x σ H' λσ2 H2=>tb {D with nx:=N,ct:=N,bk:=D.nx} σ2 H2)
noncomputable def nT(fp:List Addr)(h:Heap):List (Addr×Obj):=fp.filterMap λb=>(h.get? b).map λo=>(b,o)
theorem bR{fp:List Addr}{h:Heap}{b:Addr}{o:Obj}(hb:b∈fp)(e:h.get? b=some o):(b,o)∈nT fp h:=List.mem_filterMap.mpr ⟨b,hb,by rw[e];rfl⟩
theorem vM{fp:List Addr}{h:Heap}{p:Addr×Obj}(hp:p∈nT fp h):p.1∈fp/\h.get? p.1=some p.2:=by
 obtain⟨b,hb,e⟩:=List.mem_filterMap.mp hp;cases q:h.get? b with
 |none=>rw[q]at e;cases e
 |some o=>
  rw[q]at e;have e':(b,o)=p:=Option.some.inj e;subst e';exact⟨hb,q⟩
theorem Inv.pinned{pins:List (Addr×Obj)}{σ:St}{H:Hp}{s:Shared}{fp:List Addr}(I:Inv X pins σ H s)(hf:∀b∈fp,gW X pins H b)(ho:∀b∈fp,∃o,s.heap.get? b=some o/\∀v,o.data≠.cell v):Inv X (pins++nT fp s.heap) σ H s:=
 I.pins_of λp hp=>(List.mem_append.mp hp).elim (λz=>I.pin p (List.mem_append_right _ z)) λz=>by
  obtain⟨hb,e⟩:=vM z;obtain⟨f0,f1,f2,_⟩:=hf p.1 hb;obtain⟨o,e',d⟩:=ho p.1 hb;rw[e]at e';cases e';exact⟨e,f0,f1,f2,d⟩
theorem Inv.unpinned{pins pl:List (Addr×Obj)}{σ:St}{H:Hp}{s:Shared}(I:Inv X (pins++pl) σ H s):Inv X pins σ H s:=I.pins_of λp hp=>I.pin p (List.mem_append_right _ (List.mem_append_left _ hp))
theorem Cw{iter:Expr}{body:List Stmt}{wi:TI}{g:TG}{tb:TS}{pos:Pos}(hp:PassesOwn (model X.prog X.w) X.A X.env X.xe)(hc:X.calm=true)(hi:PI X tg iter wi)(hg:PG X tg g)(hb:PSs X body tb)
  (hs:∀x,foldedSetIterable iter X.env x=pure x:=by intro _;rfl):PS X (.For tg iter body [] pos) (Hf wi g tb):=by
 intro pins s σ H D I h;refine wpAny_For (bu (hi pins s σ H _ I h) λv s1 h1=>bu h1 λitv s2 h2=>?_) hs
 obtain⟨it,fp,tn,J,H2,e,I2,T,st2,f2,W,⟨m0,w0⟩,turn⟩:=h2;subst e;have stat:∀{H':Hp},(∀b∈fp,H' b=none)->∀b∈fp,gW X pins H' b:=λhn b hb=>⟨hn b hb,(f2 b hb).2⟩
 refine codeAny_forLoop_any (λn s'=>∃i σ' H',Inv X pins σ' H' s'/\tn i s'.heap/\(∀b∈fp,H' b=none)/\W i n σ' H') ?_ m0 ⟨0,σ,H2,I2,st2,λb hb=>(f2 b hb).1,w0⟩
 rintro n s3 ⟨i,σ3,H3,I3,st3,fr3,w3⟩;rcases turn i n σ3 H3 w3 with⟨stop,qn⟩|⟨go,N,hN,step⟩
 .refine wpAny_passesOwn hp (bu (T.done X rfl rfl rfl hc i pins s3 σ3 H3 X.xe I3 (stat fr3) st3 stop) λr s4 ⟨hr,I4⟩=>?_)
  subst hr;exact wpAny_execs_nil ⟨σ3,H3,I4,qn⟩
 .refine wpAny_passesOwn hp (bu (T.item X rfl rfl rfl hc i pins s3 σ3 H3 X.xe I3 (stat fr3) st3 go) λr s4 ⟨u,hr,h4⟩=>?_)
  subst hr;refine wpAny_passesOwn hp (bu h4 λ_ s5 ⟨x,H5,I5,r5,y5,st5,fr5⟩=>?_);have I5':=I5.pinned (stat fr5) (T.obj _ _ st5);refine wpAny_passesOwn hp (bu (hg _ s5 σ3 H5 x u _ I5' r5 (step x H5 y5)) λ_ s6 ⟨σ6,H6,I6,q6⟩=>?_)
  refine wpAny_passesOwn hp (bu (hb _ s6 σ6 H6 _ I6 q6) λf s7 q7=>?_)
  have again:∀{σ7:St} {H7:Hp},Inv X (pins++nT fp s5.heap) σ7 H7 s7->N σ7 H7->∃m,m<n/\∃i σ' H',Inv X pins σ' H' s7/\tn i s7.heap/\(∀b∈fp,H' b=none)/\W i m σ' H':=λ{σ7 H7} I7 n7=>by
   obtain⟨m',hm,w7⟩:=hN σ7 H7 n7;refine⟨m',hm,i+1,σ7,H7,I7.unpinned,T.keep _ _ _ st5 λb hb o e=>(I7.pin (b,o) (List.mem_append_right _ (List.mem_append_right _ (bR hb e)))).1,λb hb=>?_,w7⟩
   obtain⟨o,e,d⟩:=T.obj _ _ st5 b hb;exact(I7.pin (b,o) (List.mem_append_right _ (List.mem_append_right _ (bR hb e)))).2.1
  cases f with
  |next=>obtain⟨σ7,H7,I7,n7⟩:=q7;exact again I7 n7
  |cont=>obtain⟨σ7,H7,I7,n7⟩:=q7;exact again I7 n7
  |brk=>obtain⟨σ7,H7,I7,q7⟩:=q7;exact⟨σ7,H7,I7.unpinned,q7⟩
  |ret v=>obtain⟨x7,σ7,H7,I7,r7,q7⟩:=q7;exact⟨x7,σ7,H7,I7.unpinned,r7,q7⟩
end
abbrev R2:=V->V->Hp->VK->Prop
def OpR(X:Cx)(f:Value->Value->Sem Value)(r:R2):Prop:=
 ∀(pins:List (Addr×Obj)) (s:Shared) (σ:St) (H:Hp) (x y:V) (v u:Value) (Q:VK),Inv X pins σ H s->RelV x v->RelV y u->r x y H Q ->
  wpAny (model X.prog X.w) X.A (f v u) (EP X pins σ Q) X.xe s
def Gn(X:Cx)(f:Value->Sem Value)(r:V->Hp->VK->Prop):Prop:=
 ∀(pins:List (Addr×Obj)) (s:Shared) (σ:St) (H:Hp) (x:V) (v:Value) (Q:VK),Inv X pins σ H s->RelV x v->r x H Q ->
  wpAny (model X.prog X.w) X.A (f v) (EP X pins σ Q) X.xe s
def CallR(X:Cx)(f:Value)(r:List V->Hp->VK->Prop):Prop:=
 ∀(pins:List (Addr×Obj)) (s:Shared) (σ:St) (H:Hp) (xs:List V) (us:List Value) (Q:VK),Inv X pins σ H s->Vals xs us->r xs H Q ->
  wpAny (model X.prog X.w) X.A (call f us) (EP X pins σ Q) X.xe s
def EG(r:R2)(ta tb:TE):TE:=λσ H Q=>ta σ H λx H1=>tb σ H1 λy H2=>r x y H2 Q
def I0(r:V->Hp->VK->Prop)(ta:TE):TE:=λσ H Q=>ta σ H λx H1=>r x H1 Q
def rI(C:Int->Int->Prop)(g:Int->Int->V):R2:=λx y H Q=>∃i j,x=.int i/\y=.int j/\C i j/\Q (g i j) H
def zn(g:Int->Int->V):R2:=λx y H Q=>∃i j,x=.int i/\y=.int j/\Q (g i j) H
def rU(g:Int->V):V->Hp->VK->Prop:=λx H Q=>∃i,x=.int i/\Q (g i) H
section
variable{X:Cx}{a b c:Expr}{ta tb tc:TE}{pos:Pos}
theorem DK(ha:PE X a ta)(hb:PE X b tb){pins:List (Addr×Obj)}{s:Shared}{σ:St}{H:Hp}{R:V->V->Hp->Prop}(I:Inv X pins σ H s)
  (h:ta σ H λx H1=>tb σ H1 λy H2=>R x y H2) {Q:Value->Shared->Prop} {f:Value->Value->Sem Value}
  (hf:∀v u s2 x y H2,Inv X pins σ H2 s2->RelV x v->RelV y u->R x y H2->wpAny (model X.prog X.w) X.A (f v u) Q X.xe s2):
  wpAny (model X.prog X.w) X.A (eval a X.env) (λv s₁=>wpAny (model X.prog X.w) X.A (eval b X.env) (λu s₂=>wpAny (model X.prog X.w) X.A (f v u) Q X.xe s₂) X.xe s₁) X.xe s:=by
 refine bu (ha pins s σ H _ I h) λv s1 ⟨x,H1,I1,r1,q1⟩=>?_
 refine bu (hb pins s1 σ H1 _ I1 q1) λu s2 ⟨y,H2,I2,r2,q2⟩=>?_
 exact hf v u s2 x y H2 I2 r1 r2 q2
theorem Fa{op:Operator}{r:R2}(ho:OpR X (binaryOp op) r)(ha:PE X a ta)(hb:PE X b tb):PE X (.BinOp a op b pos) (EG r ta tb):=by
 intro pins s σ H Q I h;exact wpAny_BinOp (DK ha hb I h λv u s2 x y H2 I2 rx ry q=>ho pins s2 σ H2 x y v u Q I2 rx ry q)
theorem E8{op:UnaryOp}{r:V->Hp->VK->Prop}(ho:Gn X (unaryOp op) r)(ha:PE X a ta):PE X (.UnaryOp op a pos) (I0 r ta):=by
 intro pins s σ H Q I h;exact UnaryOp_ (bu (ha pins s σ H _ I h) λv s1 ⟨x,H1,I1,r1,q1⟩=>ho pins s1 σ H1 x v Q I1 r1 q1)
theorem Fi{f:Value->Value->Sem Value}{C:Int->Int->Prop}{g:Int->Int->Int}
  (rule:∀(i j:Int) (t u:Tok) (s:Shared) (Q:Value->Shared->Prop) (E:Value->Shared->Prop),C i j->Q (.int (g i j) s.toks) {s with toks:=s.toks+1}->wpAny (model X.prog X.w) X.A (f (.int i t) (.int j u)) Q E s):
  OpR X f (rI C λi j=>.int (g i j)):=by
 intro pins s σ H x y v u Q I rx ry h;obtain⟨i,j,rfl,rfl,hc,q⟩:=h;obtain⟨t,rfl⟩:=rx;obtain⟨t',rfl⟩:=ry;exact rule i j t t' s _ _ hc ⟨.int (g i j),H,I.tok _,⟨_,rfl⟩,q⟩
theorem xF{f:Value->Value->Sem Value}{g:Int->Int->Int}
  (rule:∀(i j:Int) (t u:Tok) (s:Shared) (Q:Value->Shared->Prop) (E:Value->Shared->Prop),Q (.int (g i j) s.toks) {s with toks:=s.toks+1}->wpAny (model X.prog X.w) X.A (f (.int i t) (.int j u)) Q E s):
  OpR X f (zn λi j=>.int (g i j)):=by
 intro pins s σ H x y v u Q I rx ry h;obtain⟨i,j,rfl,rfl,q⟩:=h;obtain⟨t,rfl⟩:=rx;obtain⟨t',rfl⟩:=ry;exact rule i j t t' s _ _ ⟨.int (g i j),H,I.tok _,⟨_,rfl⟩,q⟩
theorem Hx{f:Value->Value->Sem Value}{g:Int->Int->Bool}
  (rule:∀(i j:Int) (t u:Tok) (s:Shared) (Q:Value->Shared->Prop) (E:Value->Shared->Prop),Q (.bool (g i j)) s->wpAny (model X.prog X.w) X.A (f (.int i t) (.int j u)) Q E s):
  OpR X f (zn λi j=>.bl (g i j)):=by
 intro pins s σ H x y v u Q I rx ry h;obtain⟨i,j,rfl,rfl,q⟩:=h;obtain⟨t,rfl⟩:=rx;obtain⟨t',rfl⟩:=ry;exact rule i j t t' s _ _ ⟨.bl (g i j),H,I,rfl,q⟩
def Il(i j:Int):Prop:=0<j/\j<1073741824
theorem q9(k:Nat):(0:Int)<=2^k:=by
 rw[two_pow_cast];exact Int.natCast_nonneg _
theorem CY:OpR X (binaryOp .Add) (zn λi j=>.int (i+j)):=xF λ_ _ _ _ _ _ _ q=>add_int q
theorem CS:OpR X (binaryOp .Sub) (zn λi j=>.int (i-j)):=xF λ_ _ _ _ _ _ _ q=>sub_int q
theorem An:OpR X (binaryOp .FloorDiv) (rI Il λi j=>.int (i/j)):=Fi λi j _ _ _ _ _ hc q=>by
 have h1:(0:Int)<j:=hc.1;have h2:j<1073741824:=hc.2;exact floordiv_int (by lia) (by rw[Int.fdiv_eq_ediv_of_nonneg i (by lia)];exact q) (.inl (PyProof.noPylong_small (by lia)))
theorem CU:OpR X (binaryOp .Mod) (rI (λ_ j=>0<j) λi j=>.int (i%j)):=Fi λi j _ _ _ _ _ hc q=>by
 have h1:(0:Int)<j:=hc;exact mod_int' (by lia) (by rw[Int.fmod_eq_emod_of_nonneg i (by lia)];exact q)
theorem CT:OpR X (binaryOp .RShift) (rI (λ_ j=>0<=j) λi j=>.int (i/2^j.toNat)):=Fi λi j _ _ _ _ _ hc q=>
 rshift_int hc (by rw[Int.fdiv_eq_ediv_of_nonneg i (q9 _)];exact q)
theorem CW:OpR X (binaryOp .BitAnd) (zn λi j=>.int (Builtin.bitAnd i j)):=xF λ_ _ _ _ _ _ _ q=>and_int q
theorem Fe:OpR X (binaryOp .BitOr) (zn λi j=>.int (Builtin.bitOr i j)):=xF λ_ _ _ _ _ _ _ q=>or_int q
theorem CQ:OpR X (binaryOp .BitXor) (zn λi j=>.int (Builtin.bitXor i j)):=xF λ_ _ _ _ _ _ _ q=>xor_int q
theorem IU{f:Value->Sem Value}{g:Int->Int}
  (rule:∀(i:Int) (t:Tok) (s:Shared) (Q:Value->Shared->Prop) (E:Value->Shared->Prop),Q (.int (g i) s.toks) {s with toks:=s.toks+1}->wpAny (model X.prog X.w) X.A (f (.int i t)) Q E s):
  Gn X f (rU λi=>.int (g i)):=by
 intro pins s σ H x v Q I rx h;obtain⟨i,rfl,q⟩:=h;obtain⟨t,rfl⟩:=rx;exact rule i t s _ _ ⟨.int (g i),H,I.tok _,⟨_,rfl⟩,q⟩
theorem B2:Gn X (unaryOp .USub) (rU λi=>.int (-i)):=IU λ_ _ _ _ _ q=>neg_int q
end
section
variable{X:Cx}{a b c:Expr}{ta tb tc:TE}{pos:Pos}
theorem Dr{pins:List (Addr×Obj)}{σ:St}{H:Hp}{s:Shared}{Q:VK}{k k':Bool}(I:Inv X pins σ H s)(q:Q (.bl k) H)(e:k=k'):EP X pins σ Q (.bool k') s:=by
 subst e;exact⟨.bl k,H,I,rfl,q⟩
theorem Fh:OpR X (compareOp .Gt) (zn λi j=>.bl (decide (j<i))):=Hx λ_ _ _ _ _ _ _ q=>gt_int q
theorem CV:OpR X (compareOp .Is) (λx y H Q=>y=.non/\Q (.bl (decide (x=.non))) H):=by
 intro pins s σ H x y v u Q I rx ry h;obtain⟨rfl,q⟩:=h;cases ry;refine is_none_gen (Dr I q ?_);cases x<;>first
  | (cases rx;rfl)
  | (obtain⟨t,rfl⟩:=rx;rfl)
theorem aO(b:Expr){op:CmpOp}(h:op≠.In:=by decide)(h2:op≠.NotIn:=by decide):behindInMarks op b=false:=by
 have e1:(op==CmpOp.In)=false:=by cases op<;>first|rfl|exact absurd rfl h
 have e2:(op==CmpOp.NotIn)=false:=by cases op<;>first|rfl|exact absurd rfl h2
 cases b<;>simp[behindInMarks,e1,e2]
theorem Am{op:CmpOp}{r:R2}(ho:OpR X (compareOp op) r)(ha:PE X a ta)(hb:PE X b tb)(hm:behindInMarks op b=false):PE X (.Compare a [op] [b] pos) (EG r ta tb):=by
 intro pins s σ H Q I h;exact wpAny_Compare1 (DK ha hb I h λv u s2 x y H2 I2 rx ry q=>ho pins s2 σ H2 x y v u Q I2 rx ry q) hm
def ED(t:TE):TT:=λσ H Q=>t σ H λx H'=>∃k,x=.bl k/\Q k H'
theorem zZ{op:CmpOp}{r:R2}(ho:OpR X (compareOp op) r)(ha:PE X a ta)(hb:PE X b tb)(hm:behindInMarks op b=false):PT X (.Compare a [op] [b] pos) (ED (EG r ta tb)):=by
 intro pins s σ H Q I h;refine wpAny_isTrue_Compare1 (bu (ha pins s σ H _ I h) λv s1 ⟨x,H1,I1,r1,q1⟩=>bu (hb pins s1 σ H1 _ I1 q1) λu s2 ⟨y,H2,I2,r2,q2⟩=>
  bu (ho pins s2 σ H2 x y v u _ I2 r1 r2 q2) λc s3 ⟨z,H3,I3,r3,k,e,q3⟩=>?_) hm
 subst e;cases r3;exact wpAny_truthy_bool ⟨H3,I3,q3⟩
theorem om:(sizeLine:Nat)<2^63:=by rw[sizeLine_eq];decide
theorem rS:OpR X (binaryOp .Add) (λx y H Q=>∃i j,x=.str i/\y=.str j/\i.length+j.length<=sizeLine/\Q (.str (i++j)) H):=by
 intro pins s σ H x y v u Q I rx ry h;obtain⟨i,j,rfl,rfl,hz,q⟩:=h;obtain⟨t,rfl⟩:=rx;obtain⟨t',rfl⟩:=ry;exact add_str (λt' tk=>⟨.str (i++j),H,I.tok _,⟨_,rfl⟩,q⟩) hz
theorem jv{x:V}{us:List Value}(r:Vals [x] us):∃u,us=[u]/\RelV x u:=by
 cases r with
 |cons r1 r2=>cases r2;exact⟨_,rfl,r1⟩
theorem Ey{x y:V}{us:List Value}(r:Vals [x,y] us):∃u w',us=[u,w']/\RelV x u/\RelV y w':=by
 cases r with
 |cons r1 r2=>
  cases r2 with
  |cons r3 r4=>cases r4;exact⟨_,_,rfl,r1,r3⟩
def Ii(K:PySem.W.Frag)(x:V)(H:Hp)(n:Nat):Prop:=
 match x with
 |.str y=>y.length<=sizeLine/\n=y.length
 |.byt y=>y.size<=sizeLine/\n=y.size
 |.ref p=>(∃xs,SqL K H p xs/\n=xs.length)\/∃xs,SqT K H p xs/\n=xs.length
 |_=>False
theorem qQ:CallR X (.builtin "len") (λxs H Q=>∃x n,xs=[x]/\Ii X.K x H n/\Q (.int n) H):=by
 intro pins s σ H xs us Q I r h;obtain⟨x,n,rfl,e,q⟩:=h;obtain⟨u,rfl,rx⟩:=jv r;have hl:=om;have hs:sizeLine=16777216:=sizeLine_eq;cases x with
 |str y=>
  obtain⟨t,rfl⟩:=rx;obtain⟨hy,e'⟩:y.length<=sizeLine/\n=y.length:=e;subst e';exact len_str (by lia) ⟨.int _,H,I.tok _,⟨_,rfl⟩,q⟩
 |byt y=>
  obtain⟨t,rfl⟩:=rx;obtain⟨hy,e'⟩:y.size<=sizeLine/\n=y.size:=e;subst e';exact PySem.W.len_bytes (by lia) ⟨.int _,H,I.tok _,⟨_,rfl⟩,q⟩
 |ref p=>
  cases rx;have e':(∃xs,SqL X.K H p xs/\n=xs.length)\/∃xs,SqT X.K H p xs/\n=xs.length:=e;rcases e' with⟨xs,hx,e'⟩|⟨xs,hx,e'⟩
  .subst e'
   obtain⟨its,r',pl,hz⟩:=I.list hx;have hlen:=r'.length;exact Calls.call_len_list pl.isList (by simp only[List.size_toArray];lia) ⟨.int xs.length,H,I.tok _,⟨_,by simp only[List.size_toArray];rw[hlen]⟩,q⟩
  .subst e'
   obtain⟨its,r',pl,hz⟩:=I.tuple hx;have hlen:=r'.length;exact len_tuple pl (by simp only[List.size_toArray];lia) ⟨.int xs.length,H,I.tok _,⟨_,by simp only[List.size_toArray];rw[hlen]⟩,q⟩
 |_=>exact(show False from e).elim
end
theorem RelO.some_of{v:V}{o:Option Value}(r:RelO (some v) o):∃u,o=some u/\RelV v u:=by
 cases o with
 |none=>exact(show False from r).elim
 |some u=>exact⟨u,rfl,r⟩
structure Room (k:Nat) (A:Around):Prop where
 hd:A.handled=none
 dp:A.depth+3*k+5<recursionLimit
 un:A.units+16*k+200<cLine
theorem Room.mono{j k:Nat}{A:Around}(r:Room k A)(h:j<=k):Room j A:=⟨r.hd,by have:=r.dp;lia,by have:=r.un;lia⟩
theorem Room.deeper{k:Nat}{A:Around}(r:Room (k+1) A)(env:Env):Room k (A.deeper env):=
 ⟨r.hd,by have:=r.dp;show A.depth+1+3*k+5<_;lia,by have:=r.un;show A.units+3+16*k+200<_;lia⟩
theorem Room.depth{k:Nat}{A:Around}(r:Room k A):A.depth<recursionLimit:=by have:=r.dp;lia
theorem Room.units{k:Nat}{A:Around}(r:Room k A):A.units+64<cLine:=by have:=r.un;lia
def Hc:TA:=λ_ H Q=>Q [] H
def EK(ta:TE)(tr:TA):TA:=λσ H Q=>ta σ H λx H1=>tr σ H1 λxs H2=>Q (x::xs) H2
section
variable{X:Cx}{e:Expr}{es:List Expr}{te:TE}{t:TA}{pos:Pos}
theorem fG:PA X [] Hc:=λ_ _ _ _ H Q I h=>Calls.spliced_nil ⟨[],H,I,.nil,h⟩
theorem cV(ha:PE X e te)(hr:PA X es t)(hs:starEach (e::es) X.env=(false,eval e X.env)::starEach es X.env:=by rfl):PA X (e::es) (EK te t):=by
 intro pos pins s σ H Q I h;rw[hs];show wpAny _ _ (spliced ((false,eval e X.env)::backTo pos (starEach es X.env))) _ _ s;refine Calls.spliced_cons (bu (ha pins s σ H _ I h) λu s1 ⟨x,H1,I1,r1,q1⟩=>?_)
 exact bu (hr pos pins s1 σ H1 _ I1 q1) λus s2 ⟨xs,H2,I2,r2,q2⟩=>⟨x::xs,H2,I2,.cons r1 r2,q2⟩
def G7(t:TA):TE:=λσ H Q=>t σ H λxs H1=>xs.length<=sizeLine/\∀p,H1 p=none->Q (.ref p) (upd H1 p (.tup xs))
def Hd(t:TA):TE:=λσ H Q=>t σ H λxs H1=>xs.length<=sizeLine/\∀p,H1 p=none->Q (.ref p) (upd H1 p (.lst xs))
theorem CH{x1}(h:PA X es t):PE X (.Tuple es x1 pos) (G7 t):=by
 intro pins s σ H Q I hq;refine wpAny_Tuple_spliced (bu (h pos pins s σ H _ I hq) λus s1 ⟨xs,H1,I1,r,z,q⟩=>⟨by rw[<-r.length];exact z,?_⟩)
 have hf:H1 s1.heap.objs.size=none:=I1.hok.fresh (Nat.le_refl _);refine⟨.ref s1.heap.objs.size,upd H1 s1.heap.objs.size (.tup xs),I1.laid (t':=s1.toks) (λb u e=>Heap.get?_push_of_some _ e) (Nat.le_refl _) ?_,rfl,q _ hf⟩;exact⟨z,us,r,⟨_,Heap.get?_push_size _ rfl,rfl,_,rfl⟩,NoDi.new _ _⟩
theorem xy(h:PA X es t):PE X (.List es pos) (Hd t):=by
 intro pins s σ H Q I hq;refine wpAny_List_spliced (bu (h pos pins s σ H _ I hq) λus s1 ⟨xs,H1,I1,r,z,q⟩=>⟨by rw[<-r.length];exact z,?_⟩)
 have hf:H1 s1.heap.objs.size=none:=I1.hok.fresh (Nat.le_refl _);refine⟨.ref s1.heap.objs.size,upd H1 s1.heap.objs.size (.lst xs),I1.laid (t':=s1.toks) (λb u e=>Heap.get?_push_of_some _ e) (Nat.le_refl _) ?_,rfl,q _ hf⟩;exact⟨z,us,0,r,Heap.get?_push_size _ rfl⟩
end
abbrev Sp:=List V->Hp->VK->XK->Prop
abbrev vi:=List Env->Hp->Shared->XK->Value->Shared->Prop
structure Env0 (P:Program) (w:World) (K:PySem.W.Frag) (mg:Str->Option Value) (base:Heap) (A:Around) (outer:List Env) (s:Shared) (H:Hp):Prop where
 frames:A.frames=some outer
 mod:Mod K mg base
 bs:∀b o,base.get? b=some o->s.heap.get? b=some o/\H b=none
 bsz:base.objs.size<=s.heap.objs.size
 funs:s.heap.FunFrames base outer
 frf:∀b∈uG outer,H b=none
 hok:HOk P w H s.heap
 bare:AllBare s.gens
 tb:Be K H
def CE(outer:List Env)(P:Program)(w:World)(H:Hp)(s:Shared)(Q:VK)(u:Value)(s':Shared):Prop:=
 ∃v H',s'.os=s.os/\AllBare s'.gens/\Un (uG outer) [] H H' s.heap s'.heap/\HOk P w H' s'.heap/\RelV v u/\Q v H'
def CR(CX:vi)(outer:List Env)(P:Program)(w:World)(H:Hp)(s:Shared)(Q:VK)(E:XK)(r:Result)(s':Shared):Prop:=
 match r with
 |.ok (.ret u)=>CE outer P w H s Q u s'
 |.ok _=>False
 |.error e=>CX outer H s E e s'
structure FnOk (P:Program) (w:World) (K:PySem.W.Frag) (mg:Str->Option Value) (base:Heap) (CX:vi) (k:Nat) (f:Addr) (fd:FuncData) (ps:List Str) (sp:Sp):Prop where
 len:∀vs H Q E,sp vs H Q E->vs.length=ps.length
 run:∀(A:Around) (outer:List Env) (s:Shared) (H:Hp) (args:Args) (us:List Value) (vs:List V) (Q:VK) (E:XK),Room k A->Env0 P w K mg base A outer s H->BindsTo s fd args (ps.zip us)->Vals vs us->sp vs H Q E ->
  codeAny (model P w) A (.call (.ref f) args) (CR CX outer P w H s Q E) s
theorem FnOk.imp{P:Program}{w:World}{K:PySem.W.Frag}{mg:Str->Option Value}{base:Heap}{CX:vi}{k:Nat}{f:Addr}{fd:FuncData}{ps:List Str}{sp sp':Sp}(F:FnOk P w K mg base CX k f fd ps sp)
  (h:∀vs H Q E,sp' vs H Q E->sp vs H Q E):FnOk P w K mg base CX k f fd ps sp':=
 ⟨λvs H Q E q=>F.len vs H Q E (h _ _ _ _ q),λA outer s H args us vs Q E hr he hb hv hs=>F.run A outer s H args us vs Q E hr he hb hv (h _ _ _ _ hs)⟩
section
variable{X:Cx}{pins:List (Addr×Obj)}{σ:St}{H:Hp}{s s':Shared}
theorem Inv.env0(I:Inv X pins σ H s):Env0 X.prog X.w X.K X.mg X.base X.A X.stack s H:=
 ⟨I.ok.frames,I.ok.mod,I.bs,Nat.le_trans I.ok.bsz I.sz,I.stack,I.stkFree,I.hok,I.bare,I.tb⟩
theorem Inv.after{Q:VK}{u:Value}(I:Inv X pins σ H s)(h:CE X.stack X.prog X.w H s Q u s'):EP X pins σ Q u s':=by
 obtain⟨v,H',os,bare,un,hok,r,q⟩:=h;obtain⟨hh,g,d,t,os'⟩:=s';obtain rfl:os'=s.os:=os;exact⟨v,H',I.call (h':=hh) (g':=g) (d':=d) (t':=t) (ch:=[]) un hok bare (λb z=>absurd z (by simp)),r,q⟩
end
def EL(sp:Sp)(dvs:List V)(E:XK)(t:TA):TE:=λσ H Q=>t σ H λvs H1=>sp (vs++dvs) H1 Q E
def Binds(K:PySem.W.Frag)(fd:FuncData)(ps:List Str)(ds:List Value):Prop:=
 ∀(s:Shared) (us:List Value),K.In s.heap->(us++ds).length=ps.length->BindsTo s fd ⟨us,[]⟩ (ps.zip (us++ds))
theorem Binds.all{K:PySem.W.Frag}{fd:FuncData}{ps:List Str}(h:∀us:List Value,us.length=ps.length->bindArgs fd ⟨us,[]⟩=pure (ps.zip us)):Binds K fd ps []:=λs us _ hl=>by
 rw[List.append_nil]at hl ⊢;exact .of_eq (h us hl)
def o5(CX:vi)(X:Cx)(E:XK):Prop:=∀(pins:List (Addr×Obj)) (σ:St) (H:Hp) (s:Shared) (e:Value) (s':Shared),Inv X pins σ H s->CX X.stack H s E e s'->X.xe e s'
section
variable{X:Cx}{CX:vi}{k:Nat}{f C:Addr}{fd:FuncData}{ps:List Str}{sp:Sp}{dvs:List V}{ds:List Value}{E:XK}{x m:Str}{p pos apos:Pos}{e o:Expr}{es:List Expr}{ta:TE}{t:TA}
theorem xn{pins:List (Addr×Obj)}{σ:St}{H:Hp}{s:Shared}{Q:VK}{us:List Value}{vs:List V}(F:FnOk X.prog X.w X.K X.mg X.base CX k f fd ps sp)(hr:Room k X.A)(hb:Binds X.K fd ps ds)(hd:Vals dvs ds)(hx:o5 CX X E)
  (I:Inv X pins σ H s) (r:Vals vs us) (h:sp (vs++dvs) H Q E):wpAny (model X.prog X.w) X.A (call (.ref f) us) (EP X pins σ Q) X.xe s:=by
 have r2:Vals (vs++dvs) (us++ds):=r.append hd;have hl:(us++ds).length=ps.length:=by rw[<-r2.length];exact F.len _ _ _ _ h
 refine wpAny_call (codeAny_mono (F.run X.A X.stack s H ⟨us,[]⟩ (us++ds) (vs++dvs) Q E hr I.env0 (hb s us I.kIn hl) r2 h) λr s' hq=>?_)
 cases r with
 |error e=>exact hx pins σ H s e s' I hq
 |ok fl=>
  cases fl with
  |ret u=>exact I.after hq
  |next=>exact False.elim hq
  |brk=>exact False.elim hq
  |cont=>exact False.elim hq
theorem ua(F:FnOk X.prog X.w X.K X.mg X.base CX k f fd ps sp)(hr:Room k X.A)(hg:Gl X x)(hm:X.mg x=some (.ref f))(hk:PySem.W.keepIn X.K (.ref f)=true)(hb:Binds X.K fd ps ds)(hd:Vals dvs ds)(hx:o5 CX X E)
  (ha:PA X (e::es) t) (hdb:(x==("__debug__":Str))=false:=by decide) (he:starEach (e::es) X.env=(false,eval e X.env)::starEach es X.env:=by rfl) (hpl:(backTo pos (starEach es X.env)).any (·.1)=false:=by rfl):
  PE X (.Call (.Name x p) (e::es) [] pos) (EL sp dvs E t):=by
 intro pins s σ H Q I h;refine wpAny_Call_Name_kw (AC I hg hm ?_ hdb);refine PySem.W.callWith_K (h₀:=X.base) I.ok.mod.kin hk (bu (ha pos pins s σ H _ I h) λus s1 ⟨vs,H1,I1,r,q⟩=>⟨I1.kIn,?_⟩) he hpl
 exact xn F hr hb hd hx I1 r q
end
structure FnScope (N P:List Str) (sc:Scope):Prop where
 kind:sc.kind=.function
 co:sc.isCoroutine=false
 gen:sc.isGenerator=false
 nd:N.Nodup
 pre:N.take P.length=P
 par:∀x∈P,sc.names.lookup x=some .local\/sc.names.lookup x=some .cell
 nofree:∀y∈sc.names,y.2≠.free
theorem nh{kindOf:Str->Option NameKind}{x:Str}:∀{binds:List (Str×Value)} {m:Str->Option Value},(∀v,(x,v)∉binds)->bindL kindOf binds m x=m x
 |[],_,_=>rfl
 | (n,v)::r,m,h=>by
  unfold bindL;rw[nh λw hw=>h w (List.mem_cons_of_mem _ hw)]
  split
  .have:x≠n:=by rintro rfl;exact h v List.mem_cons_self
   simp[this]
  .rfl
theorem nj{kindOf:Str->Option NameKind}{x:Str}:∀{binds:List (Str×Value)} {m:Str->Option Value},(∀v,(x,v)∉binds)->bindC kindOf binds m x=m x
 |[],_,_=>rfl
 | (n,v)::r,m,h=>by
  unfold bindC;rw[nj λw hw=>h w (List.mem_cons_of_mem _ hw)]
  split
  .rfl
  .have:x≠n:=by rintro rfl;exact h v List.mem_cons_self
   simp[this]
theorem ni{kindOf:Str->Option NameKind}{x:Str}{v:Value}:∀{P:List Str} {vs:List Value} {i:Nat} {m:Str->Option Value},P.Nodup->P[i]? = some x->vs[i]? = some v->kindOf x=some .local ->
  bindL kindOf (P.zip vs) m x=some v
 |[],_,_,_,_,h,_,_=>by simp at h
 |_::_,[],_,_,_,_,h,_=>by simp at h
 |p::P,w::vs,0,m,nd,h1,h2,hk=>by
  simp at h1 h2;subst h1;subst h2;show bindL kindOf ((p,w)::P.zip vs) m p=_;unfold bindL;rw[nh λv hv=>(List.nodup_cons.mp nd).1 (List.of_mem_zip hv).1,if_pos hk]
  simp
 |p::P,w::vs,i+1,m,nd,h1,h2,hk=>by
  show bindL kindOf ((p,w)::P.zip vs) m x=_;unfold bindL;exact ni (i:=i) (List.nodup_cons.mp nd).2 (by simpa using h1) (by simpa using h2) hk
theorem nq{kindOf:Str->Option NameKind}{x:Str}{v:Value}:∀{P:List Str} {vs:List Value} {i:Nat} {m:Str->Option Value},P.Nodup->P[i]? = some x->vs[i]? = some v->kindOf x≠some .local ->
  bindC kindOf (P.zip vs) m x=some v
 |[],_,_,_,_,h,_,_=>by simp at h
 |_::_,[],_,_,_,_,h,_=>by simp at h
 |p::P,w::vs,0,m,nd,h1,h2,hk=>by
  simp at h1 h2;subst h1;subst h2;show bindC kindOf ((p,w)::P.zip vs) m p=_;unfold bindC;rw[nj λv hv=>(List.nodup_cons.mp nd).1 (List.of_mem_zip hv).1,if_neg hk]
  simp
 |p::P,w::vs,i+1,m,nd,h1,h2,hk=>by
  show bindC kindOf ((p,w)::P.zip vs) m x=_;unfold bindC;exact nq (i:=i) (List.nodup_cons.mp nd).2 (by simpa using h1) (by simpa using h2) hk
noncomputable def dj(N:List Str)(vs:List V):St:=vs.map some++List.replicate (N.length-vs.length) none
noncomputable def lq(CX:vi)(P:Program)(w:World)(K:PySem.W.Frag)(mg:Str->Option Value)(base:Heap)(N:List Str)(qual:Str)(scope:Scope)(f:Addr)(cd:Value)(A:Around)(outer:List Env)(s:Shared)(H:Hp)(E:XK):Cx where
 prog:=P
 w:=w
 K:=K
 mg:=mg
 base:=base
 A:=A.deeper (envOfC qual scope s.heap.objs.size f cd)
 N:=N
 s₀:=s
 H₀:=H
 env:=envOfC qual scope s.heap.objs.size f cd
 outer:=outer
 stack:=envOfC qual scope s.heap.objs.size f cd::outer
 ex:=[]
 calm:=true
 fn:=λ_=>true
 pn:=[]
 xe:=λe s'=>wpAny (model P w) (A.deeper (envOfC qual scope s.heap.objs.size f cd)) (leaving (envOfC qual scope s.heap.objs.size f cd) e) (λ_ s''=>CX outer H s E e s'') (λe' s''=>CX outer H s E e' s'') s'
theorem qP{sc:Scope}{n:Nat}{x:Str}(h:sc.names.lookup x=some .cell):∃c,(cellsFrom n sc.names []).lookup x=some c:=by
 have q:=PySem.W.cellsFrom_some sc.names n [] (.inl h);exact Option.isSome_iff_exists.mp q
theorem mQ{CX:vi}{P:Program}{w:World}{K:PySem.W.Frag}{mg:Str->Option Value}{base:Heap}{N ps:List Str}{qual:Str}{scope:Scope}{f:Addr}{cd:Value}{A:Around}{outer:List Env}{s s1:Shared}{H:Hp}{E:XK}{us:List Value}{vs:List V}
  (S:FnScope N ps scope) (hd:A.handled=none) (e0:Env0 P w K mg base A outer s H) (hl:vs.length=ps.length) (r:Vals vs us)
  (x:InCallC s s.heap.objs.size (bindL (envOfC qual scope s.heap.objs.size f cd).kindOf (ps.zip us) λ_=>none) (cellsFrom (s.heap.objs.size+1) scope.names []) (bindC (envOfC qual scope s.heap.objs.size f cd).kindOf (ps.zip us) λ_=>none) s1):
  Inv (lq CX P w K mg base N qual scope f cd A outer s H E) [] (dj N vs) H s1:=by
 have hpl:ps.length<=N.length:=by have:=congrArg List.length S.pre;rw[List.length_take]at this;lia
 obtain⟨h1,tk,rfl,hk⟩:=x.done;have noA:∀b:Addr,b∉(lq CX P w K mg base N qual scope f cd A outer s H E).ex:=λb z=>absurd (show b∈([]:List Addr)from z) (by simp)
 refine⟨⟨e0.mod,S.kind,rfl,rfl,Nat.le_refl _,λy z c h1 h2=>?_,λy hy=>?_,λy c _ h=>?_,λ_=>hd,Around.frames_deeper e0.frames,.inr ⟨rfl,rfl⟩,λb z=>absurd z (noA b),e0.bs,e0.bsz,λb _ _=>noA b,λb z=>absurd z (noA b),e0.funs,e0.frf,e0.tb⟩,
  rfl,e0.bare,Un.kept hk,⟨_,x.toInCall.ns,λi y v h1 h2 h3=>?_⟩,λy c h=>⟨_,x.cell y c h⟩,e0.hok.fresh (Nat.le_refl _),λy c h=>?_,λp hp=>absurd (show p∈([]:List (Addr×Obj))from hp) (by simp),e0.hok.kept hk,?_⟩
 .exact name_of_addr x.apart (PySem.mem_of_lookup h1) (PySem.mem_of_lookup h2)
 .have hy:scope.names.lookup y=some .cell\/scope.names.lookup y=some .free:=hy
  rcases hy with hy|hy
  .exact qP hy
  .exact absurd rfl (S.nofree _ (PySem.mem_of_lookup hy))
 .exact Nat.le_of_lt (x.above y c (PySem.mem_of_lookup h))
 .have hi:i<vs.length:=by
   unfold dj at h2;by_cases hi:i<vs.length
   .exact hi
   .rw[List.getElem?_append_right (by simpa using hi)]at h2
    rw[List.getElem?_replicate]at h2;split at h2<;>cases h2
  have ha:vs[i]? = some v:=by
   unfold dj at h2;rw[List.getElem?_append_left (by simpa using hi),List.getElem?_map]at h2;cases e:vs[i]? with
   |none=>rw[e]at h2;cases h2
   |some a=>rw[e]at h2;cases h2;rfl
  obtain⟨u,hu,rv⟩:=r.get ha;have hp:ps[i]? = some y:=by
   rw[<-S.pre,List.getElem?_take_of_lt (by lia)];exact h1
  have ndP:ps.Nodup:=by rw[<-S.pre];exact S.nd.sublist (List.take_sublist _ _)
  refine⟨u,rv,?_⟩;rcases S.par y (List.mem_of_getElem? hp)with k|k
  .exact .inl ⟨k,ni ndP hp hu k⟩
  .obtain⟨c,e⟩:=qP (n:=s.heap.objs.size+1) k
   refine .inr ⟨.inl k,c,e,?_⟩;have q:=x.cell y c e;rw[nq ndP hp hu (by show scope.names.lookup y≠_;rw[k];decide)]at q;exact q
 .exact e0.hok.fresh (Nat.le_of_lt (x.above y c (PySem.mem_of_lookup h)))
 .unfold dj
  show _=N.length;rw[List.length_append,List.length_map,List.length_replicate]
  lia
theorem yF{CX:vi}{P:Program}{w:World}{K:PySem.W.Frag}{mg:Str->Option Value}{base:Heap}{k:Nat}{f:Addr}{name qual:Str}{params:Arguments}{body:List Stmt}{scope:Scope}{dV kV doc pm cdv ct oc:Value}{an od:Option Addr}
  {osl:Array (Option Value)} {N ps:List Str} {sp:Sp} (lk:K.lookup f=some ⟨oc,od,.func (PySem.W.fnOf name qual params body scope dV kV doc pm an cdv ct),osl⟩) (hcd:PySem.W.codeIn K cdv qual=true) (S:FnScope N ps scope)
  (len:∀vs H Q E,sp vs H Q E->vs.length=ps.length)
  (hbody:∀(A:Around) (outer:List Env) (s:Shared) (H:Hp) (vs:List V) (Q:VK) (E:XK),Room k (A.deeper (envOfC qual scope s.heap.objs.size f cdv))->sp vs H Q E ->
   ∃t,PSs (lq CX P w K mg base N qual scope f cdv A outer s H E) body t/\t {nx:=λ_ H'=>Q .non H',rt:=Q} (dj N vs) H):
  FnOk P w K mg base CX (k+1) f (PySem.W.fnOf name qual params body scope dV kV doc pm an cdv ct) ps sp:=by
 refine⟨len,λA outer s H args us vs Q E hr e0 hb r hsp=>?_⟩
 have hl:=len _ _ _ _ hsp;have KX:K.In s.heap:=e0.mod.kin.keeps λb o e=>(e0.bs b o e).1
 have lim:s.heap.NoLimit:=e0.mod.nolimit.keeps λb o e=>(e0.bs b o e).1
 have hkind:∀y∈ps.zip us,scope.names.lookup y.1=some .local\/(scope.names.lookup y.1=some .cell/\((cellsFrom (s.heap.objs.size+1) scope.names []).lookup y.1).isSome=true):=λ⟨n,v⟩ hy=>by
  rcases S.par n (List.of_mem_zip hy).1 with q|q
  .exact .inl q
  .exact .inr ⟨q,PySem.W.cellsFrom_some _ _ _ (.inl q)⟩
 refine codeAny_call_function hr.depth (KX _ _ lk) rfl S.co S.gen rfl (PySem.W.codeRec_of KX hcd) (hb _ _ _ _ ?_);refine wpAny_newFunctionEnv_cells S.kind hkind λenv he s1 x=>?_
 subst he;refine⟨lim.keeps x.toInCall.keep,codeAny_func ?_⟩;obtain⟨t,ht,hq⟩:=hbody A outer s H vs Q E (hr.deeper _) hsp;have I:Inv (lq CX P w K mg base N qual scope f cdv A outer s H E) [] (dj N vs) H s1:=mQ S hr.hd e0 hl r x;refine wpAny_mono (ht [] s1 (dj N vs) H _ I hq) (λfl s' hs=>?_) λe s' hs=>hs
 have fin:∀{σ':St} {H':Hp} {v:V} {u:Value},Inv (lq CX P w K mg base N qual scope f cdv A outer s H E) [] σ' H' s'->RelV v u->Q v H'->CE outer P w H s Q u s':=
  λ{σ' H' v u} J rv q=>⟨v,H',J.os,J.bare,J.base,J.hok,rv,q⟩
 cases fl with
 |ret u=>
  obtain⟨v,σ',H',J,rv,q⟩:=hs;exact fin J rv q
 |next=>
  obtain⟨σ',H',J,q⟩:=hs;exact fin (v:=V.non) (u:=Value.none) J rfl q
 |brk=>
  obtain⟨_,_,_,q⟩:=hs;exact False.elim q
 |cont=>
  obtain⟨_,_,_,q⟩:=hs;exact False.elim q
section
variable{X:Cx}{x:Str}{p pos:Pos}{e:Expr}{es:List Expr}{t:TA}{id T:String}{r:List V->Hp->VK->Prop}
def Iz(r:List V->Hp->VK->Prop)(t:TA):TE:=λσ H Q=>t σ H λvs H1=>r vs H1 Q
theorem ku(hc:CallR X (.builtin id) r)(hg:Gl X x)(hm:X.mg x=none)(hv:bootBuiltins x=some (.builtin id))(ha:PA X (e::es) t)(hn:x≠"__name__":=by decide)(hdb:(x==("__debug__":Str))=false:=by decide)
  (he:starEach (e::es) X.env=(false,eval e X.env)::starEach es X.env:=by rfl) (hpl:(backTo pos (starEach es X.env)).any (·.1)=false:=by rfl):PE X (.Call (.Name x p) (e::es) [] pos) (Iz r t):=by
 intro pins s σ H Q I h;refine wpAny_Call_Name_kw (gH I hg hm hv ?_ hn hdb);exact PyProof.Rows.callWith_builtin1 (bu (ha pos pins s σ H _ I h) λus s1 ⟨vs,H1,I1,r1,q1⟩=>hc pins s1 σ H1 vs us Q I1 r1 q1) he hpl
theorem i7(hc:CallR X (.type T) r)(hg:Gl X x)(hm:X.mg x=none)(hv:bootBuiltins x=some (.type T))(ha:PA X (e::es) t)(hn:x≠"__name__":=by decide)(hdb:(x==("__debug__":Str))=false:=by decide)
  (he:starEach (e::es) X.env=(false,eval e X.env)::starEach es X.env:=by rfl) (hpl:(backTo pos (starEach es X.env)).any (·.1)=false:=by rfl):PE X (.Call (.Name x p) (e::es) [] pos) (Iz r t):=by
 intro pins s σ H Q I h;refine wpAny_Call_Name_kw (gH I hg hm hv ?_ hn hdb);exact PyProof.Rows.callWith_type1 (bu (ha pos pins s σ H _ I h) λus s1 ⟨vs,H1,I1,r1,q1⟩=>hc pins s1 σ H1 vs us Q I1 r1 q1) he hpl
end
end L2
namespace HT
open PySem PyProof.Rows
section
variable{prog:Program}{w:World}{A:Around}{E:Value->Shared->Prop}{s:Shared}
theorem AY{t b:Addr}{vs ws:List Value}{Q:Value->Shared->Prop}(ht:IsTup s.heap t vs.toArray)(hb:IsTup s.heap b ws.toArray)(hv:vs≠[])
  (h1:ws=[]->Q (.ref t) s) (h2:ws≠[]->Q (.ref s.heap.objs.size) {s with heap:=s.heap.push {cls:=.type "tuple",data:=.seq (vs++ws).toArray}})
  (hsz:vs.length+ws.length<=sizeLine):wpAny (model prog w) A (binaryOp .Add (.ref t) (.ref b)) Q E s:=by
 obtain⟨⟨cls,dd,data,sl⟩,ho,hc,n,hd⟩:=id ht;obtain⟨⟨cls2,dd2,data2,sl2⟩,ho2,hc2,n2,hd2⟩:=id hb;simp only at hc hd hc2 hd2;subst hc hd hc2 hd2;have e:vs.toArray++ws.toArray=(vs++ws).toArray:=by simp
 by_cases hw:ws=[]
 .exact concat_meets ⟨_,ho,rfl⟩ ⟨_,ho2,rfl⟩ noFill_tuple_add seq_tuple_add PySem.F.slot_tuple_add PySem.F.entry_tuple_add (PySem.F.args_tuple_add_2 _ _)
   (tuple_addW1 t b vs.toArray ws.toArray n n2 dd dd2 sl sl2 (by simpa using hv) (by simp[hw])) ⟨ho,ho2,h1 hw⟩
 .refine concat_meets ⟨_,ho,rfl⟩ ⟨_,ho2,rfl⟩ noFill_tuple_add seq_tuple_add PySem.F.slot_tuple_add PySem.F.entry_tuple_add (PySem.F.args_tuple_add_2 _ _)
   (tuple_addW2 t b vs.toArray ws.toArray n n2 dd dd2 sl sl2 (by simpa using hv) (by simpa using hw) (by rw[List.size_toArray,List.size_toArray];exact hsz)) ⟨ho,ho2,?_⟩
  rw[e];exact h2 hw
noncomputable def sIx(n d:Nat):Option Int->Nat
 |none=>d
 |some v=>if v<0 then(v+(n:Int)).toNat else min v.toNat n
theorem Cg(n d:Nat)(hd:d<=n)(o:Option Int):sIx n d o<=n:=by
 cases o with
 |none=>exact hd
 |some v=>
  show(if v<0 then(v+(n:Int)).toNat else min v.toNat n)<=n;by_cases hv:v<0
  .rw[if_pos hv];lia
  .rw[if_neg hv];exact Nat.min_le_right _ _
theorem u6(v:Int)(n d:Nat):(if v<0 then max (v+(n:Int)) 0 else min v (n:Int))=((sIx n d (some v):Nat):Int):=by
 show(if v<0 then max (v+(n:Int)) 0 else min v (n:Int))=(((if v<0 then(v+(n:Int)).toNat else min v.toNat n):Nat):Int);by_cases hv:v<0
 .simp only[if_pos hv];lia
 .simp only[if_neg hv];lia
theorem sX(lo hi:Option Int)(n:Nat):Builtin.Slice.sliceAdjust lo hi 1 (n:Int)=(((sIx n 0 lo:Nat):Int),((sIx n n hi:Nat):Int)):=by
 have h1:¬((1:Int)<0):=by lia
 unfold Builtin.Slice.sliceAdjust;simp only[h1,if_false];refine Prod.ext ?_ ?_
 .cases lo with
  |none=>rfl
  |some v=>exact u6 v n 0
 .cases hi with
  |none=>rfl
  |some v=>exact u6 v n n
theorem rQ(i j:Nat):Builtin.Slice.slicePlaces (i:Int) (j:Int) 1=j-i:=by
 unfold Builtin.Slice.slicePlaces;have h1:(1:Int)>0:=by lia
 simp only[h1,if_true,Int.ediv_one];split<;>lia
theorem kg{v:Value}{o:Option Int}{Q:Option Int->Shared->Prop}(p:IsPart v o)(h:Q o s):wpAny (model prog w) A (Builtin.Slice.slicePartIndex v) Q E s:=by
 cases p with
 |none=>exact slicePart_none h
 |int i t=>exact slicePart_int h
theorem d7{sl:Addr}{vl vu:Value}{lo hi:Option Int}{n:Nat}{Q:Int×Int×Nat->Shared->Prop}(hs:s.heap.IsSliceOf sl vl vu .none)(pl:IsPart vl lo)(pu:IsPart vu hi)
  (h:Q (((sIx n 0 lo:Nat):Int),1,sIx n n hi-sIx n 0 lo) s):wpAny (model prog w) A (Builtin.Slice.sliceApplied (.ref sl) (pure (n:Int))) Q E s:=by
 obtain⟨os,hos,hcs,hds⟩:=id hs;unfold Builtin.Slice.sliceApplied Builtin.Slice.sliceFields;refine wpAny_bind (wpAny_bind (wpAny_field hos hds (x:=vl) rfl (wpAny_bind (wpAny_field hos hds (x:=vu) rfl (wpAny_bind (wpAny_field hos hds (x:=.none) rfl (wpAny_pure ?_)))))));refine wpAny_bind (slicePart_none ?_);show wpAny _ _ (if((1:Int)==0)=true then _ else _) _ _ s;rw[if_neg (by decide)];refine wpAny_bind (kg pl (wpAny_bind (kg pu (wpAny_bind (wpAny_pure ?_)))));show wpAny _ _ (match Builtin.Slice.sliceAdjust lo hi 1 (n:Int)with|(lo,hi)=>pure (lo,(1:Int),Builtin.Slice.slicePlaces lo hi 1)) _ _ s
 rw[sX lo hi n];show wpAny _ _ (pure (((sIx n 0 lo:Nat):Int),(1:Int),Builtin.Slice.slicePlaces ((sIx n 0 lo:Nat):Int) ((sIx n n hi:Nat):Int) 1)) _ _ s;rw[rQ];exact wpAny_pure h
theorem xu(xs:Array Value)(i k:Nat):((List.range k).filterMap λ(m:Nat)=>xs[((i:Int)+(m:Int)*1).toNat]?).toArray=((xs.toList.drop i).take k).toArray:=by
 have e:(λ(m:Nat)=>xs[((i:Int)+(m:Int)*1).toNat]?)=λm=>xs[i+m]?:=by
  funext m;have:((i:Int)+(m:Int)*1).toNat=i+m:=by lia
  rw[this]
 rw[e];have:=pick_run xs i k;rw[List.filterMap_map]at this;have e2:((λx=>xs[x]?) ∘ λx=>i+x)=λm=>xs[i+m]?:=rfl
 rw[e2]at this;rw[this]
theorem iL{t sl:Addr}{items:Array Value}{vl vu:Value}{lo hi:Option Int}{Q:Value->Shared->Prop}(ht:IsTup s.heap t items)(hs:s.heap.IsSliceOf sl vl vu .none)(pl:IsPart vl lo)(pu:IsPart vu hi)
  (hw:¬(sIx items.size 0 lo=0/\sIx items.size items.size hi=items.size))
  (h:Q (.ref s.heap.objs.size) {s with heap:=s.heap.push {cls:=.type "tuple",data:=.seq ((items.toList.drop (sIx items.size 0 lo)).take (sIx items.size items.size hi-sIx items.size 0 lo)).toArray}})
  (hsz:items.size<=sizeLine):wpAny (model prog w) A (getItem (.ref t) (.ref sl)) Q E s:=by
 have htake:sizeOk (.seq ((items.toList.drop (sIx items.size 0 lo)).take (sIx items.size items.size hi-sIx items.size 0 lo)).toArray):=by
  show((items.toList.drop (sIx items.size 0 lo)).take (sIx items.size items.size hi-sIx items.size 0 lo)).toArray.size<=sizeLine;rw[List.size_toArray,List.length_take,List.length_drop,Array.length_toList]
  lia
 have hj:sIx items.size items.size hi<=items.size:=Cg _ _ (Nat.le_refl _) hi;obtain⟨os,hos,hcs,hds⟩:=id hs;have hTs:s.TypeIs (.ref sl) "slice":=⟨os,hos,hcs⟩;unfold getItem
 try with_reducible refine wpAny_holding ?_
 first|refine wpAny_bind (wpAny_pure ?_)|skip
 refine wpAny_bind (wpAny_sequenceKey ht.typeIs (by decide) ?_);refine wpAny_bind (wpAny_callSpecial?_slot (name:=Str.ofString "__getitem__") ht.typeIs PyProof.Rows.slot_tuple_getitem
  (wpAny_call_entry PyProof.Rows.slot_tuple_getitem ht.typeIs entry_tuple_getitem ?_ (args_tuple_getitem _ _)))
 show wpAny _ _ (Builtin.Tuple.tupleItemsOf (.ref t) >>= _) _ _ s;refine wpAny_bind (tupleItemsOf_ ht ?_);refine wpAny_bind (wpAny_typeOf hTs ?_);rw[if_pos (by decide)];refine wpAny_bind (d7 hs pl pu ?_);have hno:¬((((sIx items.size 0 lo:Nat):Int)==0&&(1:Int)==1&&(sIx items.size items.size hi-sIx items.size 0 lo)==items.size)=true):=by
  intro q;rw[Bool.and_eq_true,Bool.and_eq_true]at q;have q1:((sIx items.size 0 lo:Nat):Int)=0:=eq_of_beq q.1.1;have q2:sIx items.size items.size hi-sIx items.size 0 lo=items.size:=eq_of_beq q.2;exact hw ⟨by lia,by lia⟩
 show wpAny _ _ (if(((sIx items.size 0 lo:Nat):Int)==0&&(1:Int)==1&&(sIx items.size items.size hi-sIx items.size 0 lo)==items.size)=true then _ else _) _ _ s;rw[if_neg hno,xu]
 first
  |exact wpAny_bind (m:=Builtin.Tuple.tupleExact _) (wpAny_newObj_type (wpAny_pure ⟨_,rfl,wpAny_pure h⟩) htake)
  |exact wpAny_bind (m:=Builtin.Tuple.tupleExact _) (wpAny_newObj_type (wpAny_bind (wpAny_pure (wpAny_pure ⟨_,rfl,wpAny_pure h⟩))) htake)
  |exact wpAny_bind (wpAny_bind (m:=Builtin.Tuple.tupleExact _) (wpAny_newObj_type (wpAny_pure (wpAny_pure ⟨_,rfl,wpAny_pure h⟩)) htake))
  |exact wpAny_bind (wpAny_bind (m:=Builtin.Tuple.tupleExact _) (wpAny_newObj_type (wpAny_pure ⟨_,rfl,wpAny_pure h⟩) htake))
end
end HT
namespace L2
open PySem PySem.Spec PyProof.Rows
abbrev TO:=St->Hp->(Option Int->Hp->Prop)->Prop
def PO(X:Cx)(e:Option Expr)(t:TO):Prop:=
 ∀(pins:List (Addr×Obj)) (s:Shared) (σ:St) (H:Hp) (Q:Option Int->Hp->Prop),Inv X pins σ H s->t σ H Q ->
  wpAny (model X.prog X.w) X.A (evalPart e X.env) (λu s'=>∃o H',Inv X pins σ H' s'/\IsPart u o/\Q o H') X.xe s
noncomputable def zD:TO:=λ_ H Q=>Q none H
def EF(t:TE):TO:=λσ H Q=>t σ H λx H1=>∃i,x=.int i/\Q (some i) H1
section
variable{X:Cx}{e:Expr}{te:TE}{lo hi:Option Expr}{tl th:TO}{pos p2:Pos}
theorem Ae:PO X none zD:=by
 intro pins s σ H Q I h;rw[evalPart_none];exact wpAny_pure ⟨none,H,I,.none,h⟩
theorem Ad(h:PE X e te):PO X (some e) (EF te):=by
 intro pins s σ H Q I hw;rw[evalPart_some];refine bu (h pins s σ H _ I hw) λu s1 ⟨x,H1,I1,r1,q1⟩=>?_
 obtain⟨i,rfl,q⟩:=q1;obtain⟨t,rfl⟩:=r1;exact⟨some i,H1,I1,.int i t,q⟩
def SlR(X:Cx)(r:V->Option Int->Option Int->Hp->VK->Prop):Prop:=
 ∀(pins:List (Addr×Obj)) (s:Shared) (σ:St) (H:Hp) (x:V) (v vl vu:Value) (lo hi:Option Int) (sl:Addr) (Q:VK),Inv X pins σ H s->RelV x v->s.heap.IsSliceOf sl vl vu .none->IsPart vl lo->IsPart vu hi->r x lo hi H Q ->
  ∃T id,typeLookup (.type T) "__getitem__" = pure (some (.builtin id))/\s.TypeIs v T/\wpAny (model X.prog X.w) X.A (getItem v (.ref sl)) (EP X pins σ Q) X.xe s
theorem SlR.or{r r':V->Option Int->Option Int->Hp->VK->Prop}(h:SlR X r)(h':SlR X r'):SlR X (λx lo hi H Q=>r x lo hi H Q\/r' x lo hi H Q):=by
 intro pins s σ H x v vl vu lo hi sl Q I rx hs pl pu q;rcases q with q|q
 .exact h pins s σ H x v vl vu lo hi sl Q I rx hs pl pu q
 .exact h' pins s σ H x v vl vu lo hi sl Q I rx hs pl pu q
def Ja(r:V->Option Int->Option Int->Hp->VK->Prop)(te:TE)(tl th:TO):TE:=λσ H Q=>te σ H λx H1=>tl σ H1 λl H2=>th σ H2 λu H3=>r x l u H3 Q
theorem xx{r:V->Option Int->Option Int->Hp->VK->Prop}(hr:SlR X r)(he:PE X e te)(hl:PO X lo tl)(hu:PO X hi th):PE X (.Subscript e (.Slice lo hi none p2) pos) (Ja r te tl th):=by
 intro pins s σ H Q I h;refine Subscript_ (bu (he pins s σ H _ I h) λv s1 ⟨x,H1,I1,r1,q1⟩=>?_)
 refine wpAny_Slice (bu (hl pins s1 σ H1 _ I1 q1) λvl s2 ⟨l,H2,I2,pl,q2⟩=>bu (hu pins s2 σ H2 _ I2 q2) λvu s3 ⟨u,H3,I3,pu,q3⟩=>?_)
 rw[evalPart_none];refine wpAny_pure ?_;have I4:Inv X pins σ H3 {s3 with heap:=s3.heap.push {cls:=.type "slice",data:=.fields #[vl,vu,.none]}}:=I3.kept (t':=s3.toks) λb ob q=>Heap.get?_push_of_some _ q
 obtain⟨T,id,hT,ht,hg⟩:=hr pins {s3 with heap:=s3.heap.push {cls:=.type "slice",data:=.fields #[vl,vu,.none]}} σ H3 x v vl vu l u s3.heap.objs.size Q I4 r1 (Heap.IsSliceOf.new ..) pl pu q3;show wpAny (model X.prog X.w) X.A (subscriptTail e (.Slice lo hi none p2) v (.ref s3.heap.objs.size)) (EP X pins σ Q) X.xe {s3 with heap:=s3.heap.push {cls:=.type "slice",data:=.fields #[vl,vu,.none]}};exact tail_any (ops:=[.ref s3.heap.objs.size,v]) ht hT hg (by with_unfolding_all rfl)
noncomputable def lX(xs:List V)(lo hi:Option Int):List V:=(xs.drop (HT.sIx xs.length 0 lo)).take (HT.sIx xs.length xs.length hi-HT.sIx xs.length 0 lo)
theorem jG(xs:List V)(lo hi:Option Int):(lX xs lo hi).length<=xs.length:=by
 unfold lX;rw[List.length_take,List.length_drop]
 lia
def Hr(K:PySem.W.Frag):V->Option Int->Option Int->Hp->VK->Prop:=λx lo hi H Q=>∃a xs,x=.ref a/\SqT K H a xs/\
 ¬(HT.sIx xs.length 0 lo=0/\HT.sIx xs.length xs.length hi=xs.length)/\∀p,H p=none->Q (.ref p) (upd H p (.tup (lX xs lo hi)))
theorem sl_tup:SlR X (Hr X.K):=by
 intro pins s σ H x v vl vu lo hi sl Q I rx hs pl pu h;obtain⟨a,xs,rfl,hx,hw,q⟩:=h;cases rx;obtain⟨its,r,ht,hz⟩:=I.tuple hx;have hlen:its.toArray.size=xs.length:=by rw[List.size_toArray];exact r.length.symm
 refine⟨"tuple",_,PyProof.Rows.slot_tuple_getitem.lookup,ht.typeIs,?_⟩;refine HT.iL ht hs pl pu (by rw[hlen];exact hw) ?_ (by rw[hlen];exact hz);rw[hlen];refine⟨.ref s.heap.objs.size,_,I.laid (t':=s.toks) (o:=.tup (lX xs lo hi)) (λb ob q=>Heap.get?_push_of_some _ q) (Nat.le_refl _) ?_,rfl,q _ (I.hok.fresh (Nat.le_refl _))⟩;exact⟨Nat.le_trans (jG xs lo hi) hz,_,(r.drop (HT.sIx xs.length 0 lo)).take (HT.sIx xs.length xs.length hi-HT.sIx xs.length 0 lo),IsTup.new _ _,NoDi.new _ _⟩
def E4(K:PySem.W.Frag):R2:=λx y H Q=>∃a b xs ys,x=.ref a/\y=.ref b/\SqT K H a xs/\SqT K H b ys/\xs≠[]/\xs.length+ys.length<=sizeLine/\
 (ys=[]->Q (.ref a) H)/\(ys≠[]->∀p,H p=none->Q (.ref p) (upd H p (.tup (xs++ys))))
theorem Vals.nil_iff{xs:List V}{us:List Value}(r:Vals xs us):us=[]↔xs=[]:=by
 cases r with
 |nil=>simp
 |cons _ _=>simp
theorem Ao:OpR X (binaryOp .Add) (E4 X.K):=by
 intro pins s σ H x y v u Q I rx ry h;obtain⟨a,b,xs,ys,rfl,rfl,ha,hb,hx,hz,q1,q2⟩:=h;cases rx;cases ry;obtain⟨its,r1,p1,_⟩:=I.tuple ha;obtain⟨its2,r2,p2,_⟩:=I.tuple hb;refine HT.AY p1 p2 (λz=>hx (r1.nil_iff.mp z)) (λz=>⟨.ref a,H,I,rfl,q1 (r2.nil_iff.mp z)⟩) (λz=>?_) (by rw[<-r1.length,<-r2.length];exact hz)
 refine⟨.ref s.heap.objs.size,_,I.laid (t':=s.toks) (o:=.tup (xs++ys)) (λb ob q=>Heap.get?_push_of_some _ q) (Nat.le_refl _) ?_,rfl,q2 (λw=>z (r2.nil_iff.mpr w)) _ (I.hok.fresh (Nat.le_refl _))⟩
 exact⟨by rw[List.length_append];exact hz,_,r1.append r2,IsTup.new _ _,NoDi.new _ _⟩
end
noncomputable def wC(n:Nat)(i:Int):Option Nat:=if 0<=i then(if i<n then some i.toNat else none)else if -(n:Int)<=i then some (i+n).toNat else none
noncomputable def lN{α:Type}(xs:List α)(i:Int):Option α:=(wC xs.length i).bind λj=>xs[j]?
theorem uu{n:Nat}{i:Int}{j:Nat}(h:wC n i=some j):seqIndex? i n=some j/\j<n/\ -(n:Int)<=i/\i<n:=by
 unfold wC at h;by_cases h0:0<=i
 .rw[if_pos h0]at h
  by_cases h1:i<n
  .rw[if_pos h1]at h
   have e:i.toNat=j:=Option.some.inj h;exact⟨by rw[seqIndex_of h0 h1,e],by lia,by lia,h1⟩
  .rw[if_neg h1]at h;cases h
 .rw[if_neg h0]at h
  by_cases h1:-(n:Int)<=i
  .rw[if_pos h1]at h
   have e:(i+n).toNat=j:=Option.some.inj h;exact⟨by rw[seqIndex_neg (by lia) h1,e],by lia,h1,by lia⟩
  .rw[if_neg h1]at h;cases h
theorem vd{α:Type}{xs:List α}{i:Int}{v:α}(h:lN xs i=some v):∃j,seqIndex? i xs.length=some j/\xs[j]? = some v/\j<xs.length/\ -(xs.length:Int)<=i/\i<xs.length:=by
 unfold lN at h;cases e:wC xs.length i with
 |none=>rw[e]at h;cases h
 |some j=>
  rw[e]at h;obtain⟨h1,h2,h3,h4⟩:=uu e;exact⟨j,h1,h,h2,h3,h4⟩
def oZ(b:Expr):Prop:=∀o i,subscripted b false o i=operate [o,i] (getItem o i)
def IxR(X:Cx)(r:R2):Prop:=
 ∀(value slice:Expr) (pins:List (Addr×Obj)) (s:Shared) (σ:St) (H:Hp) (x y:V) (v u:Value) (Q:VK),Inv X pins σ H s->RelV x v->RelV y u->r x y H Q ->
  subscripted slice false v u=operate [v,u] (getItem v u)->wpAny (model X.prog X.w) X.A (subscriptTail value slice v u) (EP X pins σ Q) X.xe s
def Ig(X:Cx)(id:String)(r:V->List V->Hp->VK->Prop):Prop:=
 ∀(pins:List (Addr×Obj)) (s:Shared) (σ:St) (H:Hp) (x:V) (xs:List V) (v:Value) (us:List Value) (Q:VK),Inv X pins σ H s->RelV x v->Vals xs us->r x xs H Q ->
  wpAny (model X.prog X.w) X.A (call (.builtin id) (v::us)) (EP X pins σ Q) X.xe s
section
variable{X:Cx}{a b:Expr}{ta tb:TE}{pos:Pos}
theorem IxR.or{r r':R2}(h:IxR X r)(h':IxR X r'):IxR X (λx y H Q=>r x y H Q\/r' x y H Q):=by
 intro value slice pins s σ H x y v u Q I rx ry q hs;rcases q with q|q
 .exact h value slice pins s σ H x y v u Q I rx ry q hs
 .exact h' value slice pins s σ H x y v u Q I rx ry q hs
theorem Bx{r:R2}(hr:IxR X r)(ha:PE X a ta)(hb:PE X b tb)(hs:oZ b):PE X (.Subscript a b pos) (EG r ta tb):=by
 intro pins s σ H Q I h;exact Subscript_ (DK ha hb I h λv u s2 x y H2 I2 rx ry q=>hr a b pins s2 σ H2 x y v u Q I2 rx ry q (hs _ _))
def Hv(K:PySem.W.Frag):R2:=λx y H Q=>∃p xs i v,x=.ref p/\y=.int i/\SqL K H p xs/\lN xs i=some v/\Q v H
def Hu(K:PySem.W.Frag):R2:=λx y H Q=>∃p xs i v,x=.ref p/\y=.int i/\SqT K H p xs/\lN xs i=some v/\Q v H
theorem ix_list:IxR X (Hv X.K):=by
 intro value slice pins s σ H x y v u Q I rx ry h hs;obtain⟨p,xs,i,z,rfl,rfl,hq,he,q⟩:=h;cases rx;obtain⟨t,rfl⟩:=ry;obtain⟨its,r,pl,hz⟩:=I.list hq;obtain⟨j,h1,h2,h3,h4,h5⟩:=vd he;obtain⟨w,ew,rw'⟩:=r.get h2;have hl:=r.length;have hn:=om;have fin:EP X pins σ Q w s:=⟨z,H,I,rw',q⟩;by_cases h0:0<=i
 .have hj:i.toNat=j:=by
   rw[seqIndex_of h0 h5]at h1;exact Option.some.inj h1
  exact item_listR pl.isList h0 (by lia) (by rw[hj];simpa using ew) fin hs
 .have hj:(i+(its.toArray.size:Int)).toNat=j:=by
   rw[seqIndex_neg (by lia) h4]at h1;rw[List.size_toArray,<-hl];exact Option.some.inj h1
  exact subscriptTail_builtinR (x:=w) pl.isList.typeIs slot_list_getitem.lookup
   (wpAny_getItem_list_neg (Q:=λr s'=>r=w/\EP X pins σ Q r s') pl.isList (by lia) (by rw[List.size_toArray]<;>lia) (by lia) (by rw[hj];simpa using ew) ⟨rfl,fin⟩) hs
theorem Dh:IxR X (Hu X.K):=by
 intro value slice pins s σ H x y v u Q I rx ry h hs;obtain⟨p,xs,i,z,rfl,rfl,hq,he,q⟩:=h;cases rx;obtain⟨t,rfl⟩:=ry;obtain⟨its,r,pl,hz⟩:=I.tuple hq;obtain⟨j,h1,h2,h3,h4,h5⟩:=vd he;obtain⟨w,ew,rw'⟩:=r.get h2;have hl:=r.length;have hn:=om;have fin:EP X pins σ Q w s:=⟨z,H,I,rw',q⟩;exact subscriptTail_builtinR (x:=w) pl.typeIs slot_tuple_getitem.lookup
  (getItem_tuple (j:=j) (Q:=λr s'=>r=w/\EP X pins σ Q r s') pl (by lia) (by lia) (by rw[List.size_toArray,<-hl];exact h1) (by simpa using ew) ⟨rfl,fin⟩) hs
theorem r6(its:List Value)(n j:Nat)(u:Value):Obj.mapSeq (·.setIfInBounds j u) {cls:=.type "list",data:=.seq its.toArray n}={cls:=.type "list",data:=.seq (its.set j u).toArray n}:=by
 simp[Obj.mapSeq]
theorem Inv.lst{pins:List (Addr×Obj)}{σ:St}{H:Hp}{s:Shared}{p:Addr}{xs:List V}(I:Inv X pins σ H s)(h:H p=some (.lst xs)):
  ∃(its:List Value) (n:Nat),Vals xs its/\s.heap.get? p=some {cls:=.type "list",data:=.seq its.toArray n}/\xs.length<=sizeLine:=by
 obtain⟨z,its,n,r,e⟩:=I.hok p _ h;exact⟨its,n,r,e,z⟩
theorem Inv.lstUpd{pins:List (Addr×Obj)}{σ:St}{H:Hp}{s:Shared}{p:Addr}{xs ys:List V}{its its':List Value}{n n':Nat}{f:Obj->Obj}(I:Inv X pins σ H s)(h:H p=some (.lst xs))
  (ho:s.heap.get? p=some {cls:=.type "list",data:=.seq its.toArray n}) (hf:f {cls:=.type "list",data:=.seq its.toArray n}={cls:=.type "list",data:=.seq its'.toArray n'}) (r:Vals ys its') (hz:ys.length<=sizeLine) (t:Nat):
  Inv X pins σ (upd H p (.lst ys)) {s with heap:=s.heap.update p f,toks:=t}:=by
 have e:(s.heap.update p f).get? p=some {cls:=.type "list",data:=.seq its'.toArray n'}:=by
  rw[Heap.get?_update_self f ho (by rw[hf]<;>rfl),hf]
 refine I.write (x:=p) (e:=p) (by rw[h];trivial) (.inl rfl) (λb u hb q=>(Heap.get?_update_other _ _ (Ne.symm hb)).trans q) ⟨_,e⟩ ?_
 exact⟨hz,its',n',r,e⟩
def E2:V->V->V->Hp->(Hp->Prop)->Prop:=λo i v H Q=>∃p xs k j,o=.ref p/\i=.int k/\H p=some (.lst xs)/\wC xs.length k=some j/\Q (upd H p (.lst (xs.set j v)))
theorem xi:Go X E2:=by
 intro pins s σ H o i v ov iv u Q I ro ri rv h;obtain⟨p,xs,k,j,rfl,rfl,hp,hj,q⟩:=h;cases ro;obtain⟨t,rfl⟩:=ri;obtain⟨its,n,r,ho,hz⟩:=I.lst hp;obtain⟨h1,h2,h3,h4⟩:=uu hj;have hl:=r.length;have hn:=om;have I':Inv X pins σ (upd H p (.lst (xs.set j v))) {s with heap:=s.heap.update p (Obj.mapSeq (·.setIfInBounds j u))}:=
  I.lstUpd hp ho (r6 its n j u) (r.set rv j) (by rw[List.length_set];exact hz) s.toks
 by_cases h0:0<=k
 .have hk:k.toNat=j:=by
   rw[seqIndex_of h0 h4]at h1;exact Option.some.inj h1
  exact PySem.W.ki_setAt ho h0 (by lia) (by rw[List.size_toArray,<-hl];exact h4) (by rw[hk];exact⟨_,I',q⟩)
 .have hk:(k+(its.toArray.size:Int)).toNat=j:=by
   rw[seqIndex_neg (by lia) h3]at h1;rw[List.size_toArray,<-hl];exact Option.some.inj h1
  exact PySem.W.ki_setBack ho (by lia) (by rw[List.size_toArray,<-hl];exact h3) (by lia) (by rw[hk];exact⟨_,I',q⟩)
theorem nJ(lo hi:Option Int)(n:Nat):(sliceBounds lo hi none n).1=((HT.sIx n 0 lo:Nat):Int)/\(sliceBounds lo hi none n).2.1=((HT.sIx n n hi:Nat):Int)/\(sliceBounds lo hi none n).2.2=1:=by
 refine⟨?_,?_,rfl⟩
 .cases lo with
  |none=>simp[sliceBounds,HT.sIx]
  |some i=>
   simp only[sliceBounds,HT.sIx,Option.getD_none,show(1:Int)>0 by decide,if_true];by_cases h:i<0
   .simp only[h,if_true]<;>lia
   .simp only[h,if_false]<;>lia
 .cases hi with
  |none=>simp[sliceBounds,HT.sIx]
  |some i=>
   simp only[sliceBounds,HT.sIx,Option.getD_none,show(1:Int)>0 by decide,if_true];by_cases h:i<0
   .simp only[h,if_true]<;>lia
   .simp only[h,if_false]<;>lia
theorem lQ(its:List Value)(lo hi:Option Int):slicePick its.toArray lo hi none=((its.drop (HT.sIx its.length 0 lo)).take (HT.sIx its.length its.length hi-HT.sIx its.length 0 lo)).toArray:=by
 obtain⟨h1,h2,h3⟩:=nJ lo hi its.toArray.size;unfold slicePick;rw[h1,h2,h3];simp only[sliceRange_one,pick_run,List.size_toArray]<;>rfl
def Ht(K:PySem.W.Frag):V->Option Int->Option Int->Hp->VK->Prop:=λx lo hi H Q=>∃a xs,x=.ref a/\SqL K H a xs/\∀p,H p=none->Q (.ref p) (upd H p (.lst (lX xs lo hi)))
theorem sl_list:SlR X (Ht X.K):=by
 intro pins s σ H x v vl vu lo hi sl Q I rx hs pl pu h;obtain⟨a,xs,rfl,hx,q⟩:=h;cases rx;obtain⟨its,r,ht,hz⟩:=I.list hx;have hlen:=r.length;refine⟨"list",_,slot_list_getitem.lookup,ht.isList.typeIs,?_⟩;refine wpAny_getItem_list_slice ht.isList hs pl pu .none (by simp) ?_ (by rw[List.size_toArray]<;>lia);rw[lQ,<-hlen];refine⟨.ref s.heap.objs.size,_,I.laid (t':=s.toks) (o:=.lst (lX xs lo hi)) (λb ob q=>Heap.get?_push_of_some _ q) (Nat.le_refl _) ?_,rfl,q _ (I.hok.fresh (Nat.le_refl _))⟩;exact⟨Nat.le_trans (jG xs lo hi) hz,_,0,(r.drop (HT.sIx xs.length 0 lo)).take (HT.sIx xs.length xs.length hi-HT.sIx xs.length 0 lo),Heap.get?_push_size _ rfl⟩
noncomputable def fQ:V->Bool
 |.non=>true
 |.bl _=>true
 |.int _=>true
 |.str _=>true
 |_=>false
noncomputable def zu:V->V->Bool
 |.non,.non=>true
 |.bl a,.bl b=>a==b
 |.bl a,.int b=>(if a then 1 else 0)==b
 |.int a,.bl b=>a==(if b then 1 else 0)
 |.int a,.int b=>a==b
 |.str a,.str b=>a==b
 |_,_=>false
theorem DB{A:Around}{s:Shared}{y x:V}{u v:Value}(ry:RelV y u)(rx:RelV x v)(fy:fQ y=true)(fx:fQ x=true):SeqAt.EqAt A s u v (zu y x):=by
 cases y with
 |non=>
  cases ry;cases x with
  |non=>cases rx;exact SeqAt.EqAt.same _
  |bl b=>cases rx;exact SeqAt.EqAt.none_bool b
  |int b=>obtain⟨t,rfl⟩:=rx;exact SeqAt.EqAt.none_int b t
  |str b=>obtain⟨t,rfl⟩:=rx;exact SeqAt.EqAt.none_str b t
  |_=>exact absurd (show false=true from fx) Bool.false_ne_true
 |bl a=>
  cases ry;cases x with
  |non=>cases rx;exact SeqAt.EqAt.bool_none a
  |bl b=>cases rx;exact SeqAt.EqAt.bool_bool a b
  |int b=>obtain⟨t,rfl⟩:=rx;exact SeqAt.EqAt.bool_int a b t
  |str b=>obtain⟨t,rfl⟩:=rx;exact SeqAt.EqAt.bool_str a b t
  |_=>exact absurd (show false=true from fx) Bool.false_ne_true
 |int a=>
  obtain⟨t',rfl⟩:=ry;cases x with
  |non=>cases rx;exact SeqAt.EqAt.int_none a t'
  |bl b=>cases rx;exact SeqAt.EqAt.int_bool a t' b
  |int b=>obtain⟨t,rfl⟩:=rx;exact SeqAt.EqAt.int_int a t' b t
  |str b=>obtain⟨t,rfl⟩:=rx;exact SeqAt.EqAt.int_str a t' b t
  |_=>exact absurd (show false=true from fx) Bool.false_ne_true
 |str a=>
  obtain⟨t',rfl⟩:=ry;cases x with
  |non=>cases rx;exact SeqAt.EqAt.str_none a t'
  |bl b=>cases rx;exact SeqAt.EqAt.str_bool a t' b
  |int b=>obtain⟨t,rfl⟩:=rx;exact SeqAt.EqAt.str_int a t' b t
  |str b=>obtain⟨t,rfl⟩:=rx;exact SeqAt.EqAt.str_str a t' b t
  |_=>exact absurd (show false=true from fx) Bool.false_ne_true
 |_=>exact absurd (show false=true from fy) Bool.false_ne_true
noncomputable def sF(x:V)(u:Value):Bool:=match u with
 |.none=>zu .non x
 |.bool b=>zu (.bl b) x
 |.int i _=>zu (.int i) x
 |.str z _=>zu (.str z) x
 |_=>false
theorem yM{x y:V}{u:Value}(r:RelV y u)(f:fQ y=true):sF x u=zu y x:=by
 cases y with
 |non=>cases r;rfl
 |bl b=>cases r;rfl
 |int i=>obtain⟨t,rfl⟩:=r;rfl
 |str z=>obtain⟨t,rfl⟩:=r;rfl
 |_=>exact absurd (show false=true from f) Bool.false_ne_true
theorem iW{x:V}:∀{xs:List V} {us:List Value},Vals xs us->xs.all fQ=true->us.any (sF x)=xs.any λy=>zu y x
 |_,_,.nil,_=>rfl
 |y::xs,u::us,.cons r t,f=>by
  rw[List.all_cons,Bool.and_eq_true]at f;rw[List.any_cons,List.any_cons,yM r f.1,iW t f.2]
theorem fK{A:Around}{s:Shared}{x:V}{v:Value}(rx:RelV x v)(fx:fQ x=true):∀{xs:List V} {us:List Value},Vals xs us->xs.all fQ=true->∀u∈us,SeqAt.EqAt A s u v (sF x u)
 |_,_,.nil,_=>λu hu=>by cases hu
 |y::xs,u::us,.cons r t,f=>λu' hu=>by
  rw[List.all_cons,Bool.and_eq_true]at f;rcases List.mem_cons.mp hu with rfl|hu
  .rw[yM r f.1];exact DB r rx f.1 fx
  .exact fK rx fx t f.2 u' hu
noncomputable def GK(x:V)(xs:List V):Bool:=xs.any λy=>zu y x
def GB(K:PySem.W.Frag)(neg:Bool):R2:=λx y H Q=>∃p xs,y=.ref p/\(SqL K H p xs\/SqT K H p xs)/\fQ x=true/\xs.all fQ=true/\Q (.bl (if neg then !GK x xs else GK x xs)) H
theorem vK:OpR X (compareOp .In) (GB X.K false):=by
 intro pins s σ H x y v u Q I rx ry h;obtain⟨p,xs,rfl,hq,fx,fs,q⟩:=h;cases ry;rcases hq with hq|hq
 .obtain⟨its,r,pl,hz⟩:=I.list hq
  refine SeqAt.in_listAt (sF x) pl.isList (λw hw=>fK rx fx r fs w (by simpa using hw)) ⟨.bl _,H,I,rfl,?_⟩
  rw[show its.toArray.any (sF x)=its.any (sF x) by simp,iW r fs];exact q
 .obtain⟨its,r,pl,hz⟩:=I.tuple hq
  refine SeqAt.in_tupleAt (sF x) pl (λw hw=>fK rx fx r fs w (by simpa using hw)) ⟨.bl _,H,I,rfl,?_⟩
  rw[show its.toArray.any (sF x)=its.any (sF x) by simp,iW r fs];exact q
theorem nV:OpR X (compareOp .NotIn) (GB X.K true):=by
 intro pins s σ H x y v u Q I rx ry h;obtain⟨p,xs,rfl,hq,fx,fs,q⟩:=h;cases ry;rcases hq with hq|hq
 .obtain⟨its,r,pl,hz⟩:=I.list hq
  refine SeqAt.notIn_listAt (sF x) pl.isList (λw hw=>fK rx fx r fs w (by simpa using hw)) ⟨.bl _,H,I,rfl,?_⟩
  rw[show its.toArray.any (sF x)=its.any (sF x) by simp,iW r fs];exact q
 .obtain⟨its,r,pl,hz⟩:=I.tuple hq
  refine SeqAt.notIn_tupleAt (sF x) pl (λw hw=>fK rx fx r fs w (by simpa using hw)) ⟨.bl _,H,I,rfl,?_⟩
  rw[show its.toArray.any (sF x)=its.any (sF x) by simp,iW r fs];exact q
theorem oQ:CallR X (.type "list") (λxs H Q=>∃p ys,xs=[.ref p]/\(SqL X.K H p ys\/SqT X.K H p ys)/\∀l,H l=none->Q (.ref l) (upd H l (.lst ys))):=by
 intro pins s σ H xs us Q I r h;obtain⟨p,ys,rfl,hq,q⟩:=h;obtain⟨u,rfl,rx⟩:=jv r;cases rx;have fin:∀(its:List Value),Vals ys its->ys.length<=sizeLine->∀(h':Heap) (c':Nat),(∀b o',s.heap.get? b=some o'->h'.get? b=some o')->
   h'.get? s.heap.objs.size=some {cls:=.type "list",dict:=none,data:=.seq its.toArray c',slots:=#[]}->EP X pins σ Q (.ref s.heap.objs.size) {s with heap:=h'}:=λits r' hz h' c' kp e=>
  ⟨.ref s.heap.objs.size,_,I.laid (t':=s.toks) kp (Nat.le_refl _) (show ObjOk X.prog X.w _ h' _ (.lst ys)from ⟨hz,its,c',r',e⟩),rfl,q _ (I.hok.fresh (Nat.le_refl _))⟩
 rcases hq with hq|hq
 .obtain⟨its,r',pl,hz⟩:=I.list hq
  have hlen:=r'.length;obtain⟨o,ho,hc,n,hd⟩:=pl.isList;exact call_list_seq p (.inl rfl) ho hc hd (λh' c' kp e=>fin its r' hz h' c' kp e) (by simp only[List.size_toArray]<;>lia)
 .obtain⟨its,r',pl,hz⟩:=I.tuple hq
  have hlen:=r'.length;obtain⟨o,ho,hc,n,hd⟩:=pl;exact call_list_seq p (.inr rfl) ho hc hd (λh' c' kp e=>fin its r' hz h' c' kp e) (by simp only[List.size_toArray]<;>lia)
theorem ma:CallR X (.type "tuple") (λxs H Q=>∃p ys,xs=[.ref p]/\((SqL X.K H p ys/\∀l,H l=none->Q (.ref l) (upd H l (.tup ys)))\/(SqT X.K H p ys/\Q (.ref p) H))):=by
 intro pins s σ H xs us Q I r h;obtain⟨p,ys,rfl,h⟩:=h;obtain⟨u,rfl,rx⟩:=jv r;cases rx;rcases h with⟨hq,q⟩|⟨hq,q⟩
 .obtain⟨its,r',pl,hz⟩:=I.list hq
  have hlen:=r'.length;refine call_tuple_list pl.isList (λh' kp=>?_) (by simp only[List.size_toArray]<;>lia);have I1:Inv X pins σ H {s with heap:=h'}:=I.kept (t':=s.toks) kp;have I2:Inv X pins σ (upd H h'.objs.size (.tup ys)) {s with heap:=h'.push {cls:=.type "tuple",data:=.seq its.toArray}}:=
   I1.laid (t':=s.toks) (λb o e=>Heap.get?_push_of_some _ e) (Nat.le_refl _) (show ObjOk X.prog X.w _ _ _ (.tup ys)from ⟨hz,its,r',IsTup.new _ _,NoDi.new _ _⟩)
  exact⟨.ref h'.objs.size,_,I2,rfl,q _ (I1.hok.fresh (Nat.le_refl _))⟩
 .obtain⟨its,r',pl,hz⟩:=I.tuple hq
  exact call_tuple_same pl ⟨.ref p,H,I,rfl,q⟩
def GZ(K:PySem.W.Frag)(T:String)(x:V)(H:Hp):Prop:=match x with
 |.str _=>T = "str"
 |.int _=>T = "int"
 |.ref p=>(T = "list"/\ ∃xs,SqL K H p xs)\/(T = "tuple"/\ ∃o,K.lookup p=some o/\o.cls=.type "tuple"/\ o.dict=none)\/
   (T = "dict"/\ ((∃kvs,H p=some (.dK kvs))\/∃kvs,H p=some (.dT kvs)))\/(T = "set"/\ ∃S n,H p=some (.set S n))
 |_=>False
theorem wG{pins:List (Addr×Obj)}{σ:St}{H:Hp}{s:Shared}{T:String}{x:V}{v:Value}(I:Inv X pins σ H s)(r:RelV x v)(ty:GZ X.K T x H):
  s.TypeIs v T/\∀a,v=.ref a->∃ob,s.heap.get? a=some ob/\ob.dict=none:=by
 cases x with
 |str z=>
  obtain⟨t,rfl⟩:=r;cases(show T = "str" from ty);exact⟨typeIs_str s z t,λ_ e=>nomatch e⟩
 |int i=>
  obtain⟨t,rfl⟩:=r;cases(show T = "int" from ty);exact⟨typeIs_int s i t,λ_ e=>nomatch e⟩
 |ref p=>
  cases r;rcases ty with⟨rfl,xs,hq⟩|⟨rfl,o,hk,hc,hd⟩|⟨rfl,hk⟩|⟨rfl,S,n,hk⟩
  .obtain⟨its,_,pl,_⟩:=I.list hq
   refine⟨pl.isList.typeIs,λa e=>?_⟩
   cases e;obtain⟨o,n,e,c,hd,_⟩:=pl;exact⟨o,e,hd⟩
  .refine⟨⟨o,I.kIn p o hk,hc⟩,λa e=>?_⟩
   cases e;exact⟨o,I.kIn _ o hk,hd⟩
  .have z:∃o,s.heap.get? p=some o/\o.ExactDict:=by
    rcases hk with⟨kvs,hk⟩|⟨kvs,hk⟩
    .obtain⟨_,_,_,_,o,_,_,e,ex,_⟩:=I.hok p _ hk
     exact⟨o,e,ex⟩
    .obtain⟨_,_,_,_,o,_,_,e,ex,_⟩:=I.hok p _ hk
     exact⟨o,e,ex⟩
   obtain⟨o,e,ex⟩:=z;refine⟨⟨o,e,ex.1⟩,λa e2=>?_⟩
   cases e2;exact⟨o,e,ex.2.1⟩
  .obtain⟨o,_,_,_,e,ex,_⟩:=I.hok p _ hk
   refine⟨⟨o,e,ex.1⟩,λa e2=>?_⟩
   cases e2;exact⟨o,e,ex.2.1⟩
 |_=>exact False.elim ty
def Hg(K:PySem.W.Frag)(T:String)(r:V->List V->Hp->VK->Prop)(to:TE):TE:=λσ H Q=>to σ H λx H1=>GZ K T x H1/\r x [] H1 Q
def Jd(K:PySem.W.Frag)(T:String)(r:V->List V->Hp->VK->Prop)(to:TE)(t:TA):TE:=λσ H Q=>to σ H λx H1=>GZ K T x H1/\t σ H1 λxs H2=>r x xs H2 Q
variable{o e:Expr}{es:List Expr}{to:TE}{t:TA}{name:Str}{apos cpos:Pos}{T id:String}{r:V->List V->Hp->VK->Prop}
theorem CL(pa:PlainAttrs T)(slot:Slot T name id)(hty:typeOf (.builtin id)=pure (.type "method_descriptor"))(hm:Ig X id r)(ho:PE X o to)
  (hbase:attributeBase o name X.env (eval o X.env)=eval o X.env:=by rfl) (hline:(apos.endLine==cpos.line)=true:=by rfl):PE X (.Call (.Attribute o name apos) [] [] cpos) (Hg X.K T r to):=by
 intro pins s σ H Q I h;refine wpAny_Call_method0_late hbase hline (bu (ho pins s σ H _ I h) λv s1 ⟨x,H1,I1,r1,ty,q1⟩=>?_)
 obtain⟨h1,h2⟩:=wG I1 r1 ty;exact⟨T,id,pa,slot,hty,h1,h2,Calls.callWith_builtin rfl (PySem.evalArgs_none (hm pins s1 σ H1 x [] v [] Q I1 r1 .nil q1))⟩
theorem By(pa:PlainAttrs T)(slot:Slot T name id)(hty:typeOf (.builtin id)=pure (.type "method_descriptor"))(hm:Ig X id r)(ho:PE X o to)(ha:PA X (e::es) t)
  (hbase:attributeBase o name X.env (eval o X.env)=eval o X.env:=by rfl)
  (hfew:((backTo cpos (starEach (e::es) X.env)).all (λx=>!x.1)&&(backToKw cpos (keywordEach [] X.env)).all (λx=>x.1.isSome)
   && decide ((e::es).length+([]:List Keyword).length+(if([]:List Keyword).isEmpty then 0 else 1)<30))=true:=by rfl)
  (hline:(apos.endLine==cpos.line)=true:=by rfl) (hs:starEach (e::es) X.env=(false,eval e X.env)::starEach es X.env:=by rfl) (hplain:(backTo cpos (starEach es X.env)).any (·.1)=false:=by rfl):
  PE X (.Call (.Attribute o name apos) (e::es) [] cpos) (Jd X.K T r to t):=by
 intro pins s σ H Q I h;refine wpAny_Call_method_late hbase hfew hline rfl (bu (ho pins s σ H _ I h) λv s1 ⟨x,H1,I1,r1,ty,q1⟩=>?_)
 obtain⟨h1,h2⟩:=wG I1 r1 ty;refine⟨T,id,pa,slot,hty,h1,h2,?_⟩;have hA:=ha cpos pins s1 σ H1 _ I1 q1;rw[hs]at hA ⊢;refine Calls.callWith_builtin (by show(false||(backTo cpos (starEach es X.env)).any (·.1))=false;rw[hplain]<;>rfl) (Calls.evalArgs_plain ?_);exact bu hA λus s2 ⟨vs,H2,I2,r2,q2⟩=>hm pins s2 σ H2 x vs v us Q I2 r1 r2 q2
end
def IP(X:Cx)(id:String)(r:V->List V->Hp->VK->Prop):Prop:=
 ∀(pins:List (Addr×Obj)) (s:Shared) (σ:St) (H:Hp) (x:V) (xs:List V) (v:Value) (us:List Value) (Q:VK),Inv X pins σ H s->RelV x v->Vals xs us->r x xs H Q ->
  wpAny (model X.prog X.w) X.A (call (.builtin id) (v::us)) (EP X pins σ Q) X.xe s
theorem Vals.one:∀{x:V} {us:List Value},Vals [x] us->∃u,us=[u]/\RelV x u
 |_,_,h=>by
  cases h with
  |cons r t=>
   cases t;exact⟨_,rfl,r⟩
theorem Vals.rep{xs:List V}{us:List Value}(h:Vals xs us):∀k:Nat,Vals (List.replicate k xs).flatten (List.replicate k us).flatten
 | 0=>.nil
 |k+1=>by
  rw[List.replicate_succ,List.replicate_succ,List.flatten_cons,List.flatten_cons];exact Vals.append h (Vals.rep h k)
section
variable{X:Cx}{pins:List (Addr×Obj)}{σ:St}{H:Hp}{s:Shared}{l b:Addr}{xs ys zs:List V}
theorem Inv.lset{its its':List Value}{n:Nat}{f:Array Value->Array Value}{t':Nat}(I:Inv X pins σ H s)(hH:H l=some (.lst xs))
  (e:s.heap.get? l=some {cls:=.type "list",data:=.seq its.toArray n}) (hf:f its.toArray=its'.toArray) (hv:Vals ys its') (hz:ys.length<=sizeLine):
  Inv X pins σ (upd H l (.lst ys)) {s with heap:=s.heap.update l (Obj.mapSeq f),toks:=t'}:=by
 have q:=PySem.IsL.update e f;rw[hf]at q;refine I.write (x:=l) (e:=l) (by rw[hH];exact trivial) (.inl rfl) (λb' u hb hu=>(Heap.get?_update_other s.heap (Obj.mapSeq f) (Ne.symm hb)).trans hu) ⟨_,q⟩ ?_
 exact⟨hz,its',_,hv,q⟩
theorem Inv.lnew{its:List Value}{t':Nat}(I:Inv X pins σ H s)(hv:Vals ys its)(hz:ys.length<=sizeLine):
  Inv X pins σ (upd H s.heap.objs.size (.lst ys)) {s with heap:=s.heap.push {cls:=.type "list",data:=.seq its.toArray},toks:=t'}:=
 I.laid (λ_ _ q=>Heap.get?_push_of_some _ q) (Nat.le_refl _) ⟨hz,its,0,hv,Heap.get?_push_size _ rfl⟩
theorem Inv.fresh(I:Inv X pins σ H s):H s.heap.objs.size=none:=I.hok.fresh (Nat.le_refl _)
theorem Inv.lstM(I:Inv X pins σ H s)(hH:H l=some (.lst xs)):xs.length<=sizeLine/\∃(its:List Value) (n:Nat),Vals xs its/\xs.length=its.length/\s.heap.get? l=some {cls:=.type "list",data:=.seq its.toArray n}:=by
 obtain⟨z,its,n,r,e⟩:=I.hok l _ hH;exact⟨z,its,n,r,r.length,e⟩
theorem xQ{n:Nat}(h:n<=sizeLine):Builtin.List.listTooLong n=false:=by
 unfold Builtin.List.listTooLong;exact decide_eq_false (by lia)
end
section
variable{X:Cx}
def zW:V->List V->Hp->VK->Prop:=λx vs H Q=>∃l xs y,x=.ref l/\vs=[y]/\H l=some (.lst xs)/\xs.length<sizeLine/\Q .non (upd H l (.lst (xs++[y])))
theorem vN:IP X "list.append" zW:=by
 intro pins s σ H x vs v us Q I rx rv h;obtain⟨l,xs,y,rfl,rfl,hH,hz,q⟩:=h;cases rx;obtain⟨u,rfl,ru⟩:=rv.one;obtain⟨z,its,n,r,hl,e⟩:=I.lstM hH;refine call_meets F.slot_list_append ⟨_,e,rfl⟩ F.entry_list_append (F.args_list_append_2 _ _) (PySem.list_append l its.toArray n u (by rw[List.size_toArray];lia)) ⟨e,?_⟩;refine⟨.non,_,I.lset (its':=its++[u]) hH e (by simp) (r.append (.cons ru .nil)) ?_,rfl,q⟩;rw[List.length_append,List.length_singleton]
 lia
end
end L2
namespace Att
open PySem PySem.W PySem.Calls PyProof.Rows
theorem jO{P:Params}{h:Heap}:∀(ns:List Int) (vs:List Value),WellAll P h vs (ns.map WData.int)->IntsAre vs ns:=by
 intro ns
 induction ns with
 |nil=>
  intro vs w;rw[List.map_nil]at w;cases w;exact .nil
 |cons n ns ih=>
  intro vs w;rw[List.map_cons]at w;cases w with
  |cons a b=>
   cases a;exact .cons _ _ (ih _ b)
theorem vz{l:OpenLaw}{n:Nat}(hn:l.most=some n){P:Params}{h:Heap}{args:List WData}{vals:List Value}
  (hpre:l.row.toRowW.claim.pre args=true) (hwl:WellAll P h vals args):
  ∃a vs ns,vals=[Value.ref a]/\args=[WData.list (ns.map WData.int)]/\h.get? a=some {cls:=.type "list",data:=.seq vs.toArray}/\IntsAre vs ns/\ns.length<=n:=by
 have hsh:WShape.hasAll [] args [.list .int]=true:=(pre_splitW hpre).1;have hc:l.pre.holds [] {args:=args}=true:=(pre_splitW hpre).2;obtain⟨d,r,rfl,h1,h2⟩:=hasAllW_cons hsh;obtain rfl:=hasAllW_nil h2;obtain⟨xs,rfl,h3⟩:=hasW_list h1;obtain⟨ns,rfl⟩:=items_int h3;have hlen:ns.length<=n:=by
  unfold OpenLaw.pre at hc;have h4:(WTm.not (.lt (.lit (.int (n:Int))) (.len (.arg 0)))).holds [] {args:=[.list (ns.map .int)]}=true:=by
   have h4:=(holds_andW hc).1;rw[hn]at h4;exact h4
  have h5:=condW_of h4 (w_not (w_lt w_lit (w_len_list (w_arg rfl))));rw[List.length_map]at h5;refine Nat.le_of_not_lt λq=>?_
  have q':(n:Int)<((ns.length:Nat):Int):=by lia
  first
   | (rw[decide_eq_true q']at h5;exact absurd h5 (by decide))
   | (simp at h5;lia)
 cases hwl with
 |cons w1 w2=>
  cases w2;cases w1 with
  |list ho hall=>exact⟨_,_,ns,rfl,rfl,ho,jO ns _ hall,hlen⟩
theorem vF(l:OpenLaw)(args:List WData):l.row.toRowW.claim.post args (.bool true) args=true:=
 postW_of (r:=l.row.toRowW) (X:=(true==true))
  (show WShape.has [] (.bool true) .bool=true by first|rfl|decide|simp[WShape.has,WShape.arms,WShape.armsAll])
  (show(WTm.eq .res (.lit (.bool true))).value [] {args:=args,res:=some (.bool true),after:=args}=some (.bool (true==true))from w_eq_bool (w_res rfl) w_lit) rfl
theorem qU{l:OpenLaw}{n:Nat}{q:Program}{loose:List Str}{XP:(Str->Option Value)->Heap->Prop}{YP:World->Heap->Prop}{d:DefRec}
  (hn:l.most=some n) (hdf:d.params.defaults=[])
  (call:∀(w:World) (s₀ s₁:Shared) (mg mb:Str->Option Value) (fa:Addr) (o:Obj) (pm cd doc:Value) (a:Addr) (vs:List Value) (ns:List Int),
   Ground q loose [] XP w s₀ mg mb s₁.heap->YP w s₁.heap ->
   s₁.heap.get? fa=some o->o.data=.func (docDef d.name d.params d.body d.scope pm cd doc)->s₁.heap.CodeRec cd d.name->mg d.name=some (.ref fa)->
   s₁.heap.get? a=some {cls:=.type "list",data:=.seq vs.toArray}->IntsAre vs ns->ns.length<=n->s₁.gens = #[] ->
   codeAny (model l.prog w) callerA (.call (.ref fa) ⟨[.ref a],[]⟩) (λr s'=>r=.ok (.ret (.bool true))/\OldK s₁.heap s'.heap/\s'.os=s₁.os/\AllBare s'.gens) s₁):
  WalkO q loose XP YP l.row.toRowW d [] (λf vs=>PySem.call f vs):=by
 intro w s₀ s₁ mg mb G Y fa o pm cd doc dV kV ho hd hcd hD hmg hg args vals as hpre hlay hrd hwl hlo;obtain rfl:dV=.none:=Dflts.none hD hdf;obtain rfl:kV=.none:=Dflts.noKw hD;obtain⟨a,vs,ns,rfl,rfl,hobj,hints,hlen⟩:=vz hn hpre hwl;refine enter_call (codeAny_mono (call w s₀ s₁ mg mb fa o pm cd doc a vs ns G Y ho (fd_plain hd) hcd hmg hobj hints hlen hg) λr s' hq=>?_)
 obtain⟨rfl,h2,h3,h4⟩:=hq;exact⟨.inl ⟨.bool true,.bool true,[],rfl,λ_=>rfl,.bool true,vF l _,λ_=>⟨List.Pairwise.nil,λ_ hm=>(nomatch hm)⟩⟩,h2,h3,h4⟩
section
variable{prog:Program}{w:World}{A:Around}{E:Value->Shared->Prop}{s:Shared}{K:Frag}
noncomputable def HE(h:Heap)(L d:Addr):List (Addr×Obj):=(List.range h.objs.size).filterMap λa=>if a=L\/a=d then none else(h.get? a).map λo=>(a,o)
end
end Att
namespace L2
open PySem PySem.Spec PyProof.Rows
theorem ci:∀{vs:List Value} {ns:List Int},IntsAre vs ns->Vals (ns.map V.int) vs
 |_,_,.nil=>.nil
 |_,_,.cons n t h=>.cons ⟨t,rfl⟩ (ci h)
def DZ(H:Hp):Prop:=∀b,H b=none\/(∃o xs,H b=some (.frz o (.lst xs)))\/∃ps,H b=some (.tbl ps)
noncomputable def cj(K:PySem.W.Frag):List Addr:=lamDefs.filterMap λx=>(PySem.W.tabIn K x).map (·.2)
theorem mm{K:PySem.W.Frag}{x:Str}{c P:Addr}(hx:x∈lamDefs)(e:PySem.W.tabIn K x=some (c,P)):P∈cj K:=List.mem_filterMap.mpr ⟨x,hx,by rw[e];rfl⟩
theorem ye{P:Program}{w:World}{K:PySem.W.Frag}{mg mb:Str->Option Value}{CX:vi}{k:Nat}{fa a:Addr}{fd:FuncData}{x:Str}{sp:Sp}{s₁:Shared}{vs:List Value}{ns:List Int}
  (KX:K.In s₁.heap) (hns:s₁.heap.Ns mainGlobals mg) (hb:s₁.heap.Ns builtinsNs mb) (hbb:∀x:Str,x≠"__name__" -> mb x=bootBuiltins x) (hlim:s₁.heap.NoLimit) (hbm:BMain s₁.heap mg) (hTk:∀P∈cj K,s₁.heap.get? P=some (PySem.W.tabObj #[])/\isCodeTable s₁.heap P) (hTn:∀P∈cj K,K.lookup P=none) (hTc:∀x∈lamDefs,∀c P,PySem.W.tabIn K x=some (c,P)->PySem.W.CodeHd s₁.heap c P) (hg:s₁.gens = #[])
  (ha:s₁.heap.get? a=some {cls:=.type "list",data:=.seq vs.toArray}) (hi:IntsAre vs ns) (hl:ns.length<=sizeLine) (hr:Room k callerA)
  (F:∀base:Heap,K.In base->base.Ns mainGlobals mg->FnOk P w K mg base CX k fa fd [x] sp) (hbind:∀(s:Shared) (u:Value),BindsTo s fd ⟨[u],[]⟩ [(x,u)])
  (hsp:∀H:Hp,DZ H->SqL K H a (ns.map V.int)->sp [.ref a] H (λv _=>v=.bl true) λ_ _ _=>False)
  (hCX:∀H e s',CX [] H s₁ (λ_ _ _=>False) e s'->False):
  codeAny (model P w) callerA (.call (.ref fa) ⟨[.ref a],[]⟩) (λr s'=>r=.ok (.ret (.bool true))/\OldK s₁.heap s'.heap/\s'.os=s₁.os/\AllBare s'.gens) s₁:=by
 have rv:=ci hi;have lenV:=hi.length;have core:∀H:Hp,DZ H->SqL K H a (ns.map V.int)->HOk P w H s₁.heap->(∀b,H b≠none->b=a\/b∈cj K)->(∀b,H b≠none->K.lookup b=none)->Be K H ->
   codeAny (model P w) callerA (.call (.ref fa) ⟨[.ref a],[]⟩) (λr s'=>r=.ok (.ret (.bool true))/\OldK s₁.heap s'.heap/\s'.os=s₁.os/\AllBare s'.gens) s₁:=by
  intro H hO hS hok hA hK hTB;have base_of:∀{b:Addr} {o:Obj},s₁.heap.get? b=some o->H b=none->(kS s₁.heap H).get? b=some o:=λe n=>yo e n
  have noA:∀{b:Addr} {o:Obj} {es:Array DictEntry} {ep:Nat},s₁.heap.get? b=some o->o.data=.dict es ep->H b=none:=λ{b o es ep} e d=>by
   cases q:H b with
   |none=>rfl
   |some u=>
    rcases hA b (by rw[q];simp)with e' | e'
    .subst e'
     rw[ha]at e;cases e;have d':Data.seq vs.toArray _=Data.dict es ep:=d;cases d'
    .rw[(hTk b e').1]at e;cases e;cases d
  have nsK:∀{b:Addr} {m:Str->Option Value},s₁.heap.Ns b m->(kS s₁.heap H).Ns b m:=λ{b m} ⟨o,es,ep,e,d,r⟩=>⟨o,es,ep,base_of e (noA e d),d,r⟩
  have hKb:K.In (kS s₁.heap H):=λb o e=>base_of (KX b o e) (by
   cases q:H b with
   |none=>rfl
   |some u=>
    rw[hK b (by rw[q];simp)]at e;cases e)
  have hbm':BMain (kS s₁.heap H) mg:=by
   obtain⟨bm,ob,b1,b2,b3,b4,b5,b6⟩:=hbm;refine⟨bm,ob,b1,b2,base_of b3 ?_,b4,b5,b6⟩;cases q:H bm with
   |none=>rfl
   |some u=>
    rcases hA bm (by rw[q];simp)with e' | e'
    .subst e'
     rw[ha]at b3;cases b3;exact absurd (Value.type.inj b4) (by decide)
    .rw[(hTk bm e').1]at b3;cases b3;cases b4
  have hTc':∀x∈lamDefs,∀c P,PySem.W.tabIn K x=some (c,P)->PySem.W.CodeHd (kS s₁.heap H) c P:=λx hx c P e=>by
   obtain⟨o,vs,file,tf,flags,tg,inF,text,tt,e1,r⟩:=hTc x hx c P e;refine⟨o,vs,file,tf,flags,tg,inF,text,tt,base_of e1 ?_,r⟩;cases q:H c with
   |none=>rfl
   |some u=>
    obtain⟨o',h'⟩:=rm e;rw[hK c (by rw[q];simp)]at h';cases h'
  have hM:Mod K mg (kS s₁.heap H):=⟨hKb,nsK hns,⟨mb,nsK hb,hbb⟩,(let ⟨mc,h1,h2⟩:=hlim; ⟨mc,nsK h1,h2⟩),hbm',hTc'⟩;have e0:Env0 P w K mg (kS s₁.heap H) callerA [] s₁ H:=⟨rfl,hM,λb o e=>Ap e,Nat.le_of_eq (wc _ _),trivial,λb hb=>absurd (show b∈([]:List Addr)from hb) (by simp),hok,.of_eq hg,hTB⟩
  refine codeAny_mono ((F _ hKb (nsK hns)).run callerA [] s₁ H ⟨[.ref a],[]⟩ [.ref a] [.ref a] _ _ hr e0 (hbind s₁ (.ref a)) (.cons rfl .nil) (hsp H hO hS)) λr s' h=>?_
  cases r with
  |error e=>exact(hCX H e s' h).elim
  |ok fl=>
   cases fl with
   |next=>exact False.elim h
   |brk=>exact False.elim h
   |cont=>exact False.elim h
   |ret u=>
    obtain⟨v,H',os,bare,un,hok',r',q⟩:=h;have q':v=.bl true:=q;subst q';obtain rfl:u=Value.bool true:=r';have all:∀b o,s₁.heap.get? b=some o->s'.heap.get? b=some o\/(b∈cj K/\∃ps,s'.heap.get? b=some (PySem.W.tabObj ps)):=λb o e=>by
     cases q:H b with
     |none=>exact .inl (un.keep b o e q (by intro z;exact absurd (show b∈([]:List Addr)from z) (by simp)) (by simp))
     |some u=>
      rcases hO b with z|⟨ob,xs,z⟩|⟨ps,z⟩
      .rw[q]at z;cases z
      .have z2:=un.frzs b ob _ z
       obtain⟨e1,_⟩:=hok b _ z;obtain⟨e2,_⟩:=hok' b _ z2;rw[e]at e1;cases e1;exact .inl e2
      .obtain⟨m,z2⟩:=un.tbls b ps z
       obtain⟨ps',e2,_⟩:=hok' b _ z2;rcases hA b (by rw[q];simp)with e' | e'
       .obtain⟨ps0,e0',_⟩:=hok b _ z
        subst e';rw[ha]at e0';cases e0'
       .exact .inr ⟨e',ps',e2⟩
    refine⟨rfl,⟨λb o e=>?_,λb o e=>?_⟩,os,bare⟩
    .rcases all b o e with z|⟨hb,ps,z⟩
     .exact .inl z
     .obtain⟨g1,g2⟩:=hTk b hb
      rw[e]at g1;cases g1;exact .inr (.inl ⟨g2,rfl,#[],ps,rfl,by rw[Array.empty_append];exact z⟩)
    .rcases all b o e with z|⟨hb,ps,z⟩
     .exact⟨_,z⟩
     .exact⟨_,z⟩
 cases hk:K.lookup a with
 |some o=>
  have e:=KX a o hk;rw[ha]at e;cases e;refine core (λb=>if b∈cj K then some (.tbl #[])else none) (λb=>?_) (.inr ⟨_,vs.toArray,_,hk,rfl,rfl,rfl,by rw[List.size_toArray,lenV];exact hl,by simpa using rv⟩) (λb u z=>?_) (λb z=>?_) (λb z=>?_) λx hx c P e=>⟨#[],if_pos (mm hx e)⟩
  .by_cases hb:b∈cj K
   .exact .inr (.inr ⟨_,if_pos hb⟩)
   .exact .inl (if_neg hb)
  .by_cases hb:b∈cj K
   .have z':=(if_pos hb).symm.trans z
    cases z';exact⟨#[],(hTk b hb).1,trivial,λpos cv q=>nomatch q⟩
   .have z':=(if_neg hb).symm.trans z
    cases z'
  .by_cases hb:b∈cj K
   .exact .inr hb
   .exact absurd (if_neg hb) z
  .by_cases hb:b∈cj K
   .exact hTn b hb
   .exact absurd (if_neg hb) z
 |none=>
  have hat:a∉cj K:=λhb=>by
   have:=(hTk a hb).1;rw[ha]at this;cases this
  refine core (λb=>if b=a then some (.frz {cls:=.type "list",data:=.seq vs.toArray} (.lst (ns.map V.int)))else if b∈cj K then some (.tbl #[])else none) (λb=>?_) (.inl (.inr ⟨{cls:=.type "list",data:=.seq vs.toArray},if_pos rfl⟩)) (λb u z=>?_) (λb z=>?_) (λb z=>?_) λx hx c P e=>⟨#[],?_⟩
  .by_cases hb:b=a
   .exact .inr (.inl ⟨_,_,if_pos hb⟩)
   .by_cases hc:b∈cj K
    .exact .inr (.inr ⟨_,(if_neg hb).trans (if_pos hc)⟩)
    .exact .inl ((if_neg hb).trans (if_neg hc))
  .by_cases hb:b=a
   .have z':=(if_pos hb).symm.trans z
    cases z';subst hb;exact⟨ha,by rw[List.length_map];exact hl,vs,_,rv,ha⟩
   .have z':=(if_neg hb).symm.trans z
    by_cases hc:b∈cj K
    .have z':=(if_pos hc).symm.trans z'
     cases z';exact⟨#[],(hTk b hc).1,trivial,λpos cv q=>nomatch q⟩
    .have z':=(if_neg hc).symm.trans z'
     cases z'
  .by_cases hb:b=a
   .exact .inl hb
   .by_cases hc:b∈cj K
    .exact .inr hc
    .exact absurd ((if_neg hb).trans (if_neg hc)) z
  .by_cases hb:b=a
   .subst hb;exact hk
   .by_cases hc:b∈cj K
    .exact hTn b hc
    .exact absurd ((if_neg hb).trans (if_neg hc)) z
  .have hP:=mm hx e
   have hb:P≠a:=λz=>hat (z ▸ hP)
   exact(if_neg hb).trans (if_pos hP)
abbrev Jv{K:PySem.W.Frag}{h:Heap}(_:K.In h):PySem.W.Frag:=K
theorem zA{l:PySem.W.OpenLaw}{n k:Nat}{q:Program}{loose:List Str}{XP:(Str->Option Value)->Heap->Prop}{YP:World->Heap->Prop}{d:DefRec}{K:Params->PySem.W.Frag}{CX:World->vi}{sp:World->Sp}{x:Str}
  (hn:l.most=some n) (hn2:n<=sizeLine) (hdf:d.params.defaults=[]) (hr:Room k callerA)
  (hY:∀(w:World) (h:Heap),YP w h->(K w.params).In h)
  (F:∀(w:World) (mg:Str->Option Value) (fa:Addr) (h:Heap),(K w.params).In h->h.Ns mainGlobals mg->mg d.name=some (.ref fa)->
   ∃fd:FuncData,(∀(s:Shared) (u:Value),BindsTo s fd ⟨[u],[]⟩ [(x,u)])/\
    ∀base:Heap,(K w.params).In base->base.Ns mainGlobals mg->FnOk l.prog w (K w.params) mg base (CX w) k fa fd [x] (sp w))
  (hsp:∀(w:World) (H:Hp) (a:Addr) (ns:List Int),ns.length<=n->DZ H->SqL (K w.params) H a (ns.map V.int)->sp w [.ref a] H (λv _=>v=.bl true) λ_ _ _=>False)
  (hCX:∀(w:World) (H:Hp) (s:Shared) (e:Value) (s':Shared),CX w [] H s (λ_ _ _=>False) e s'->False)
  (hTd:∀(w:World),∀x∈lamDefs,PySem.W.tabIn (K w.params) x=none\/∃d',(recsOf q).find? (λe=>e.name==x)=some d') (hTn:∀(w:World),∀P∈cj (K w.params),(K w.params).lookup P=none):
  PySem.W.WalkO q loose XP YP l.row.toRowW d [] (λf vs=>PySem.call f vs):=by
 refine Att.qU hn hdf λw s₀ s₁ mg mb fa o pm cd doc a vs ns G Y ho hd hcd hmg hobj hints hlen hg=>?_
 have KX:=hY w _ Y;obtain⟨fd,hb,hF⟩:=F w mg fa _ KX G.T.g hmg;have hTk:∀P∈cj (K w.params),s₁.heap.get? P=some (PySem.W.tabObj #[])/\isCodeTable s₁.heap P:=λP hP=>by
  obtain⟨x,hx,e⟩:=List.mem_filterMap.mp hP;rcases hTd w x hx with z|⟨d',z⟩
  .rw[z]at e;cases e
  .cases e2:PySem.W.tabIn (K w.params) x with
   |none=>rw[e2]at e;cases e
   |some cp=>
    rw[e2]at e;cases e;obtain⟨g1,g2⟩:=PySem.W.tab_of G.T KX z e2;exact⟨g2,(g1.tab g2).isCodeTable⟩
 have hTc:∀x∈lamDefs,∀c P,PySem.W.tabIn (K w.params) x=some (c,P)->PySem.W.CodeHd s₁.heap c P:=λx hx c P e=>by
  rcases hTd w x hx with z|⟨d',z⟩
  .rw[z]at e;cases e
  .exact(PySem.W.tab_of G.T KX z e).1
 exact ye KX G.T.g G.T.b G.T.builtins G.T.nolimit G.T.bmain hTk (hTn w) hTc hg hobj hints (Nat.le_trans hlen hn2) hr hF hb (λH hO hS=>hsp w H a ns hlen hO hS) λH e s'=>hCX w H s₁ e s'
noncomputable def dU(s:Stmt):Arguments:=match s with
 |.FunctionDef _ a _ _ _ _ _ _ _ _=>a
 |_=>{posonlyargs:=[],args:=[],vararg:=none,kwonlyargs:=[],kw_defaults:=[],kwarg:=none,defaults:=[]}
noncomputable def ca(s:Stmt):List Stmt:=match s with
 |.FunctionDef _ _ b _ _ _ _ _ _ _=>b
 |_=>[]
noncomputable def ap(s:Stmt):Scope:=match s with
 |.FunctionDef _ _ _ _ _ _ sc _ _ _=>sc
 |_=>{kind:=.function,names:=[],isGenerator:=false,isCoroutine:=false}
abbrev dM:vi:=λ_ _ _ _ _ _=>False
abbrev E0:XK:=λ_ _ _=>False
theorem ub{X:Cx}:o5 dM X E0:=λ_ _ _ _ _ _ _ h=>h.elim
def Same(H H':Hp):Prop:=∀b o,H b=some o->H' b=some o
theorem Same.refl(H:Hp):Same H H:=λ_ _ h=>h
theorem Same.trans{H H1 H2:Hp}(a:Same H H1)(b:Same H1 H2):Same H H2:=λc o h=>b c o (a c o h)
end L2
set_option maxHeartbeats 4000000
namespace VL
open PySem L2
abbrev D:=PyData
inductive Oc where
 |l (ds:List D)|d (es:List (ar×D))
inductive Sl where
 |un|fz (d:D)|own (c:Oc)|fr (ds:List D)
abbrev Sl.ow(ds:List D):Sl:=.own (.l ds)
abbrev Sl.od(es:List (ar×D)):Sl:=.own (.d es)
noncomputable def ut:ar->D
 |.inl i=>.int i
 |.inr x=>.str x
noncomputable def HJ(n:Str)(ds:List (Str×D)):List (D×D):=(.str "ins",.str n)::ds.map λq=>(.str q.1,q.2)
noncomputable def cG(es:List (ar×Int)):List (D×D):=es.map λp=>(ut p.1,.int p.2)
abbrev Dv:=List Sl
inductive Fl where
 |nx|bk|ct|rt (d:D)
abbrev Sf:=Dv->Option (Fl×Dv)
@[simp] noncomputable def o2(f1 f2:Dv->Option D)(g:D->D->Option D):Dv->Option D:=λδ=>(f1 δ).bind λx=>(f2 δ).bind λy=>g x y
@[simp] noncomputable def o1(f:Dv->Option D)(g:D->Option D):Dv->Option D:=λδ=>(f δ).bind g
@[simp] noncomputable def os(f:Dv->Option (List D))(g:List D->Option D):Dv->Option D:=λδ=>(f δ).bind g
noncomputable def asB:D->Option Bool
 |.bool b=>some b
 |_=>none
@[simp] theorem Gh(b:Bool):asB (.bool b)=some b:=rfl
@[simp] noncomputable def ob(f:Dv->Option D):Dv->Option Bool:=λδ=>(f δ).bind asB
@[simp] noncomputable def oa(t u:Dv->Option Bool):Dv->Option Bool:=λδ=>(t δ).bind λb=>if b=true then u δ else some false
@[simp] noncomputable def Ei(t u:Dv->Option Bool):Dv->Option Bool:=λδ=>(t δ).bind λb=>if b=true then some true else u δ
@[simp] noncomputable def Ar(t:Dv->Option Bool):Dv->Option Bool:=λδ=>(t δ).map (!·)
@[simp] noncomputable def IG(f1 f2:Dv->Option D):Dv->Option D:=λδ=>(f1 δ).bind λx=>(asB x).bind λb=>if b=true then f2 δ else some (.bool false)
@[simp] noncomputable def Aq(f1 f2:Dv->Option D):Dv->Option D:=λδ=>(f1 δ).bind λx=>(asB x).bind λb=>if b=true then some (.bool true)else f2 δ
@[simp] noncomputable def Fp(d:D):Option D:=(asB d).map λb=>.bool (!b)
@[simp] noncomputable def GE(t:Dv->Option Bool)(f1 f2:Dv->Option D):Dv->Option D:=λδ=>(t δ).bind λb=>if b=true then f1 δ else f2 δ
noncomputable def Bp:Option Sl->Option D
 |some (.fz d)=>some d
 |some (.fr ds)=>some (.list ds)
 |_=>none
@[simp] theorem Hj(ds:List D):Bp (some (.fr ds))=some (.list ds):=rfl
@[simp] theorem w9(d:D):Bp (some (.fz d))=some d:=rfl
@[simp] noncomputable def oV(i:Nat):Dv->Option D:=λδ=>Bp δ[i]?
@[simp] noncomputable def oC(d:D):Dv->Option D:=λ_=>some d
@[simp] noncomputable def ak:Dv->Option (List D):=λ_=>some []
@[simp] noncomputable def ac(f:Dv->Option D)(fs:Dv->Option (List D)):Dv->Option (List D):=λδ=>(f δ).bind λx=>(fs δ).bind λxs=>some (x::xs)
noncomputable def aU(ds:List D):Option D:=if ds.length<=sizeLine then some (.tuple ds)else none
noncomputable def r8(ds:List D):Option D:=if ds.length<=sizeLine then some (.list ds)else none
theorem jX{ds:List D}(h:ds.length<=16777216):aU ds=some (.tuple ds):=if_pos h
@[simp] theorem Iv:aU []=some (.tuple []):=rfl
@[simp] theorem Iu(a:D):aU [a]=some (.tuple [a]):=jX (by simp)
@[simp] theorem Ir(a b:D):aU [a,b]=some (.tuple [a,b]):=jX (by simp)
@[simp] theorem Iq(a b c:D):aU [a,b,c]=some (.tuple [a,b,c]):=jX (by simp)
@[simp] theorem IH:r8 []=some (.list []):=rfl
instance (i j:Int):Decidable (IntMulOk i j):=by unfold IntMulOk;infer_instance
noncomputable def iI(g:Int->Int->Int):D->D->Option D
 |.int i,.int j=>some (.int (g i j))
 |_,_=>none
noncomputable def iC(C:Int->Int->Bool)(g:Int->Int->Int):D->D->Option D
 |.int i,.int j=>if C i j=true then some (.int (g i j))else none
 |_,_=>none
noncomputable def iB(g:Int->Int->Bool):D->D->Option D
 |.int i,.int j=>some (.bool (g i j))
 |_,_=>none
@[simp] theorem HL(g:Int->Int->Int)(i j:Int):iI g (.int i) (.int j)=some (.int (g i j)):=rfl
@[simp] theorem HM(g:Int->Int->Bool)(i j:Int):iB g (.int i) (.int j)=some (.bool (g i j)):=rfl
theorem kR{C:Int->Int->Bool}{g:Int->Int->Int}{i j:Int}(h:C i j=true):iC C g (.int i) (.int j)=some (.int (g i j)):=if_pos h
noncomputable def Ia(i j:Int):Bool:=decide (IntMulOk i j)
noncomputable def Ic(i j:Int):Bool:=decide (0<j/\j<1073741824)
noncomputable def Ib(i j:Int):Bool:=decide (0<j)
noncomputable def H9(i j:Int):Bool:=decide (0<=j/\(Builtin.Int.intBits i:Int)+j<=2^27)
noncomputable def H0(i j:Int):Bool:=decide (0<=j)
abbrev px:=iI λi j=>i-j
abbrev kB:=iC Ia λi j=>i*j
abbrev bh:=iC Ic λi j=>i/j
abbrev aM:=iC Ib λi j=>i%j
abbrev dN:=iC H9 λi j=>i*2^j.toNat
abbrev zQ:=iC H0 λi j=>i/2^j.toNat
abbrev DN:=iI Builtin.bitAnd
abbrev IE:=iI Builtin.bitOr
abbrev d6:=iI Builtin.bitXor
abbrev j2:=iB λi j=>decide (j<i)
@[simp] theorem qc{i j:Int}(h:IntMulOk i j):kB (.int i) (.int j)=some (.int (i*j)):=kR (decide_eq_true h)
@[simp] theorem F8{i j:Int}(h:0<j)(h2:j<1073741824):bh (.int i) (.int j)=some (.int (i/j)):=kR (decide_eq_true ⟨h,h2⟩)
@[simp] theorem bQ{i j:Int}(h:0<j):aM (.int i) (.int j)=some (.int (i%j)):=kR (decide_eq_true h)
theorem xg{i j:Int}(h:0<=j)(h2:(Builtin.Int.intBits i:Int)+j<=2^27):dN (.int i) (.int j)=some (.int (i*2^j.toNat)):=kR (decide_eq_true ⟨h,h2⟩)
@[simp] theorem xc{i j:Int}(h:0<=j):zQ (.int i) (.int j)=some (.int (i/2^j.toNat)):=kR (decide_eq_true h)
noncomputable def negD:D->Option D
 |.int i=>some (.int (-i))
 |_=>none
@[simp] theorem Fq(i:Int):negD (.int i)=some (.int (-i)):=rfl
noncomputable def bL:D->D->Option D
 |.int i,.int j=>some (.int (i+j))
 |.str x,.str y=>if x.length+y.length<=sizeLine then some (.str (x++y))else none
 |.list xs,.list ys=>if xs.length+ys.length<=sizeLine then some (.list (xs++ys))else none
 |.tuple xs,.tuple ys=>if xs.length+ys.length<=sizeLine then some (.tuple (xs++ys))else none
 |_,_=>none
@[simp] theorem Gm(i j:Int):bL (.int i) (.int j)=some (.int (i+j)):=rfl
noncomputable def xf(d:D):Bool:=PySem.SeqAt.shaped d
noncomputable def o8:D->D->Option D:=λa b=>if xf a=true/\xf b=true then some (.bool (PyData.eqv a b))else none
noncomputable def neD:D->D->Option D:=λa b=>if xf a=true/\xf b=true then some (.bool (!PyData.eqv a b))else none
@[simp] theorem GS(i j:Int):o8 (.int i) (.int j)=some (.bool (i==j)):=rfl
@[simp] theorem GF(i j:Int):neD (.int i) (.int j)=some (.bool (!(i==j))):=rfl
@[simp] theorem F5(i j:Bool):o8 (.bool i) (.bool j)=some (.bool (i==j)):=rfl
@[simp] theorem Ft(i j:Bool):neD (.bool i) (.bool j)=some (.bool (!(i==j))):=rfl
noncomputable def Dm(d:D):Bool:=match d with
 |.none=>true
 |_=>false
noncomputable def isD:D->D->Option D:=λa b=>match b with
 |.none=>some (.bool (Dm a))
 |_=>none
noncomputable def FH:D->D->Option D:=λa b=>match b with
 |.none=>some (.bool (!Dm a))
 |_=>none
@[simp] theorem FL(a:D):isD a .none=some (.bool (Dm a)):=rfl
@[simp] theorem Dk(a:D):FH a .none=some (.bool (!Dm a)):=rfl
@[simp] theorem FJ:Dm .none=true:=rfl
@[simp] theorem GJ(i:Int):Dm (.int i)=false:=rfl
noncomputable def aD:D->D->Option D
 |.list xs,.int i=>lN xs i
 |.tuple xs,.int i=>lN xs i
 |_,_=>none
@[simp] theorem FE(xs:List D)(i:Int):aD (.list xs) (.int i)=lN xs i:=rfl
@[simp] theorem Ek(xs:List D)(i:Int):aD (.tuple xs) (.int i)=lN xs i:=rfl
theorem sW{α:Type}{xs:List α}{i:Int}{j:Nat}{v:α}(hi:i=j)(h:xs[j]? = some v):lN xs i=some v:=by
 have hl:j<xs.length:=(List.getElem?_eq_some_iff.mp h).1;subst hi;unfold lN wC;rw[if_pos (by lia),if_pos (by lia)];simpa using h
@[simp] theorem Ju{α:Type}(a:α)(r:List α):lN (a::r) 0=some a:=sW (j:=0) rfl rfl
@[simp] theorem Jt{α:Type}(a b:α)(r:List α):lN (a::b::r) 1=some b:=sW (j:=1) rfl rfl
noncomputable def cw:List D->Option D
 |[.list xs]=>some (.int xs.length)
 |[.tuple xs]=>some (.int xs.length)
 |_=>none
@[simp] theorem Ej(xs:List D):cw [.list xs]=some (.int xs.length):=rfl
@[simp] theorem C8(xs:List D):cw [.tuple xs]=some (.int xs.length):=rfl
noncomputable def HA:List D->Option D
 |[.int i,.int j]=>some (.int (if j<i then j else i))
 |_=>none
noncomputable def HB:List D->Option D
 |[.int i,.int j]=>some (.int (if j>i then j else i))
 |_=>none
@[simp] theorem Fx(i j:Int):HA [.int i,.int j]=some (.int (if j<i then j else i)):=rfl
@[simp] theorem Fy(i j:Int):HB [.int i,.int j]=some (.int (if j>i then j else i)):=rfl
noncomputable def FO:List D->Option D
 |[.int i]=>some (.int i)
 |[.bool b]=>some (.int (if b then 1 else 0))
 |_=>none
@[simp] theorem FN(i:Int):FO [.int i]=some (.int i):=rfl
@[simp] theorem En(b:Bool):FO [.bool b]=some (.int (if b then 1 else 0)):=rfl
noncomputable def BF:List D->Option D
 |[.list xs]=>some (.list xs)
 |[.tuple xs]=>some (.list xs)
 |_=>none
@[simp] theorem C7(xs:List D):BF [.list xs]=some (.list xs):=rfl
@[simp] theorem BE(xs:List D):BF [.tuple xs]=some (.list xs):=rfl
noncomputable def bi:List D->Option D
 |[.list xs]=>some (.tuple xs)
 |[.tuple xs]=>some (.tuple xs)
 |_=>none
@[simp] theorem Bk(xs:List D):bi [.list xs]=some (.tuple xs):=rfl
@[simp] theorem zB(xs:List D):bi [.tuple xs]=some (.tuple xs):=rfl
noncomputable def nc:D->Option D
 |.int i=>some (.int (Builtin.Int.intBits i))
 |_=>none
@[simp] theorem wu(i:Int):nc (.int i)=some (.int (Builtin.Int.intBits i)):=rfl
noncomputable def IW:D->String
 |.none=>"NoneType"
 |.bool _=>"bool"
 |.int _=>"int"
 |.str _=>"str"
 |.list _=>"list"
 |.tuple _=>"tuple"
 |.dict _=>"dict"
noncomputable def HH(t T:String):Bool:=t==T||(t == "bool" && T == "int")
noncomputable def FK:D->Bool
 |.dict _=>true
 |_=>false
noncomputable def vZ(T:String)(d:D):Option D:=if FK d=true then none else if T = "int"\/ T = "bool"\/ T = "str"\/ T = "list"\/ T = "tuple" then some (.bool (HH (IW d) T))else none
@[simp] theorem BJ(i:Int):vZ "int" (.int i)=some (.bool true):=rfl
@[simp] theorem AJ(i:Int):vZ "bool" (.int i)=some (.bool false):=rfl
@[simp] theorem AI(i:Bool):vZ "int" (.bool i)=some (.bool true):=rfl
@[simp] theorem zr(i:Bool):vZ "bool" (.bool i)=some (.bool true):=rfl
@[simp] theorem wD(xs:List D):vZ "tuple" (.tuple xs)=some (.bool true):=rfl
@[simp] theorem zq(xs:List D):vZ "list" (.list xs)=some (.bool true):=rfl
@[simp] noncomputable def bA(f:Dv->Option D):Sf:=λδ=>(f δ).bind λd=>some (.rt d,δ)
@[simp] noncomputable def aE(i:Nat)(f:Dv->Option D):Sf:=λδ=>(f δ).bind λd=>some (.nx,δ.set i (.fz d))
@[simp] noncomputable def IB(f:Dv->Option D):Sf:=λδ=>(f δ).bind λ_=>some (.nx,δ)
@[simp] noncomputable def kj:Sf:=λδ=>some (.nx,δ)
@[simp] noncomputable def Jq:Sf:=λδ=>some (.bk,δ)
@[simp] noncomputable def Jp:Sf:=λδ=>some (.ct,δ)
@[simp] noncomputable def aB(s t:Sf):Sf:=λδ=>(s δ).bind λr=>match r with
 | (.nx,δ')=>t δ'
 |r=>some r
@[simp] noncomputable def fm(t:Dv->Option Bool)(u w:Sf):Sf:=λδ=>(t δ).bind λc=>if c=true then u δ else w δ
noncomputable def qC(i:Nat)(δ:Dv):Dv:=match δ[i]? with
 |some (.own (.l ds))=>δ.set i (.fz (.list ds))
 |_=>δ
@[simp] noncomputable def gN(i:Nat):D->Dv->Option Dv:=λd δ=>some (δ.set i (.fz d))
noncomputable def loop(g:D->Dv->Option Dv)(b:Sf):List D->Sf
 |[],δ=>some (.nx,δ)
 |d::ds,δ=>(g d δ).bind λδ1=>(b δ1).bind λr=>match r with
  | (.nx,δ2)=>loop g b ds δ2
  | (.ct,δ2)=>loop g b ds δ2
  | (.bk,δ2)=>some (.nx,δ2)
  | (.rt x,δ2)=>some (.rt x,δ2)
@[simp] theorem Fz(g:D->Dv->Option Dv)(b:Sf)(δ:Dv):loop g b [] δ = some (.nx,δ):=rfl
@[simp] noncomputable def df(f:Dv->Option (List D))(g:D->Dv->Option Dv)(b:Sf):Sf:=λδ=>(f δ).bind λds=>loop g b ds δ
noncomputable def vC(lo:Int)(n:Nat):List D:=(List.range n).map λk=>.int (lo+(k:Nat))
noncomputable def fg:List D->Option (List D)
 |[.int j]=>if j<2^62/\ -(2^62)<=j then some (vC 0 j.toNat)else none
 |_=>none
theorem vD{j:Int}(h:j<4611686018427387904)(h2:-4611686018427387904<=j):fg [.int j]=some (vC 0 j.toNat):=if_pos ⟨h,h2⟩
@[simp] noncomputable def oL(fs:Dv->Option (List D))(g:List D->Option (List D)):Dv->Option (List D):=λδ=>(fs δ).bind g
noncomputable def aY:D->Option (List D)
 |.list xs=>some xs
 |.tuple xs=>some xs
 |_=>none
@[simp] theorem El(xs:List D):aY (.list xs)=some xs:=rfl
@[simp] theorem Dj(xs:List D):aY (.tuple xs)=some xs:=rfl
noncomputable def xU:D->Option (List D)
 |.list xs=>some xs
 |_=>none
noncomputable def G1:D->Option (List D)
 |.tuple xs=>some xs
 |_=>none
@[simp] noncomputable def oI(f:Dv->Option D)(g:D->Option (List D)):Dv->Option (List D):=λδ=>(f δ).bind g
@[simp] noncomputable def zp:Dv->Option (Option Int):=λ_=>some none
noncomputable def asI:D->Option (Option Int)
 |.int i=>some (some i)
 |_=>none
@[simp] theorem GU(i:Int):asI (.int i)=some (some i):=rfl
@[simp] noncomputable def oP(f:Dv->Option D):Dv->Option (Option Int):=λδ=>(f δ).bind asI
noncomputable def lY(xs:List D)(lo hi:Option Int):List D:=(xs.drop (HT.sIx xs.length 0 lo)).take (HT.sIx xs.length xs.length hi-HT.sIx xs.length 0 lo)
noncomputable def Bq:D->Option Int->Option Int->Option D
 |.list xs,lo,hi=>some (.list (lY xs lo hi))
 |.tuple xs,lo,hi=>some (.tuple (lY xs lo hi))
 |_,_,_=>none
@[simp] noncomputable def zo(f:Dv->Option D)(l u:Dv->Option (Option Int)):Dv->Option D:=λδ=>(f δ).bind λx=>(l δ).bind λi=>(u δ).bind λj=>Bq x i j
noncomputable def aV(N:List Str)(as:List D):Dv:=as.map .fz++List.replicate (N.length-as.length) .un
noncomputable def cc(N:List Str)(n:Nat)(b:Sf):List D->Option D:=λas=>if as.length=n then(b (aV N as)).bind λr=>match r with
  | (.rt d,_)=>some d
  | (.nx,_)=>some .none
  |_=>none
 else none
end VL
namespace VL
open PySem PySem.Spec PyProof.Rows L2
abbrev Fg:=PySem.W.Frag
abbrev St:=L2.St
noncomputable def HY(a C:Addr):HO:=.ext λh=>∃o,h.get? a=some o/\o.cls=.ref C/\∃vs,o.data=.fields vs/\vs[2]? = some .none
theorem Rd.same{H H':Hp}{a:Addr}{u:HO}(h:Rd H a u)(s:Same H H'):Rd H' a u:=by
 rcases h with h|⟨o,h⟩
 .exact .inl (s _ _ h)
 .exact .inr ⟨o,s _ _ h⟩
inductive FI (K:Fg) (Z:Hp):V->D->Prop
 |int (i:Int):FI K Z (.int i) (.int i)
 |pair {b:Addr} {i j:Int}:SqT K Z b [.int i,.int j]->FI K Z (.ref b) (.tuple [.int i,.int j])
inductive FF (K:Fg) (Z:Hp):V->D->Prop
 |int (i:Int):FF K Z (.int i) (.int i)
 |lst {b:Addr} {xs:List V} {ds:List D}:Z b=some (.lst xs)->Paired (FI K Z) xs ds->FF K Z (.ref b) (.list ds)
inductive LamIs:Str->Arguments->Expr->Scope->Prop
 |id {p q:Pos} {m:List (Str×Const)}:LamIs "<lambda> id" {posonlyargs:=[],args:=[{arg:="tie",annotation:=none,pos:=p}],vararg:=none,kwonlyargs:=[],kw_defaults:=[],kwarg:=none,defaults:=[]} (.Name "tie" q)
   {kind:=.function,names:=[("tie",.local)],isGenerator:=false,isCoroutine:=false,more:=m}
 |xor {p p' q q' r:Pos} {m:List (Str×Const)}:LamIs "<lambda> xor" {posonlyargs:=[],args:=[{arg:="tie",annotation:=none,pos:=p},{arg:="other",annotation:=none,pos:=p'}],vararg:=none,kwonlyargs:=[],kw_defaults:=[],kwarg:=none,defaults:=[]}
   (.BinOp (.Name "tie" q) .BitXor (.Name "other" q') r) {kind:=.function,names:=[("tie",.local),("other",.local)],isGenerator:=false,isCoroutine:=false,more:=m}
def zj(n:Str)(ob:Obj)(c:Addr):Prop:=∃(qual:Str) (params:Arguments) (body:Expr) (scope:Scope) (pm ctv:Value),ob=PySem.W.kla_obj "<lambda>" qual params body scope [] pm c ctv/\LamIs n params body scope
inductive Opq (K:Fg) (Z:Hp) (a:Addr):List (D×D)->Prop
 |lam {n:Str} {ob:Obj} {c:Addr}:PySem.W.nsIn K mainGlobals n=some none->zj n ob c->Z a=some (.frz ob (.cod c))->Opq K Z a [(.str "fn",.str n)]
 |exc {n:Str} {C:Addr}:PySem.W.nsIn K mainGlobals n=some (some (.ref C))->Rd Z a (HY a C)->Opq K Z a [(.str "exc",.str n)]
 |fn {n:Str}:PySem.W.nsIn K mainGlobals n=some (some (.ref a))->Opq K Z a [(.str "fn",.str n)]
 |ins {n:Str} {C dx:Addr} {fs:List (Str×V)} {ds:List (Str×D)}:PySem.W.nsIn K mainGlobals n=some (some (.ref C))->Z a=some (.ins C dx fs)->Paired (λ(p:Str×V) (q:Str×D)=>p.1=q.1/\FF K Z p.2 q.2) fs ds->Opq K Z a (HJ n ds)
 |dct {kvs:List (D×D)} {es:List (ar×Int)}:kvs=cG es->Z a=some (.dK (es.map λp=>(p.1,V.int p.2)))->Opq K Z a kvs
theorem uS{es:List (ar×Int)}{a:D}{x:Str}{r:List (D×D)}(h:(a,PyData.str x)::r=cG es):False:=by
 cases es with
 |nil=>cases h
 |cons e es=>simp[cG]at h
theorem SqT.same{K:Fg}{H H':Hp}{a:Addr}{xs:List V}(h:SqT K H a xs)(s:Same H H'):SqT K H' a xs:=by
 rcases h with h|h
 .exact .inl (Rd.same h s)
 .exact .inr h
theorem FI.same{K:Fg}{Z Z':Hp}(s:Same Z Z'){v:V}{d:D}(h:FI K Z v d):FI K Z' v d:=by
 cases h with
 |int i=>exact .int i
 |pair q=>exact .pair (SqT.same q s)
theorem FF.same{K:Fg}{Z Z':Hp}(s:Same Z Z'){v:V}{d:D}(h:FF K Z v d):FF K Z' v d:=by
 cases h with
 |int i=>exact .int i
 |lst q r=>exact .lst (s _ _ q) (Paired.mapP r λ_ _=>FI.same s)
theorem Opq.same{K:Fg}{Z Z':Hp}{a:Addr}{kvs:List (D×D)}(s:Same Z Z')(h:Opq K Z a kvs):Opq K Z' a kvs:=by
 cases h with
 |lam h1 h2 h3=>exact .lam h1 h2 (s _ _ h3)
 |exc h1 h2=>exact .exc h1 (Rd.same h2 s)
 |fn h1=>exact .fn h1
 |ins h1 h2 h3=>exact .ins h1 (s _ _ h2) (Paired.mapP h3 λ_ _ q=>⟨q.1,q.2.same s⟩)
 |dct h1 h2=>exact .dct h1 (s _ _ h2)
mutual
inductive Rep (K:Fg) (Z:Hp):V->D->Prop
 |non:Rep K Z .non .none
 |bl (b:Bool):Rep K Z (.bl b) (.bool b)
 |int (i:Int):Rep K Z (.int i) (.int i)
 |str (x:Str):Rep K Z (.str x) (.str x)
 |tup {a:Addr} {xs:List V} {ds:List D}:SqT K Z a xs->Reps K Z xs ds->Rep K Z (.ref a) (.tuple ds)
 |lst {a:Addr} {xs:List V} {ds:List D}:SqL K Z a xs->Reps K Z xs ds->Rep K Z (.ref a) (.list ds)
 |opq {a:Addr} {kvs:List (D×D)}:Opq K Z a kvs->Rep K Z (.ref a) (.dict kvs)
 |gdc {a:Addr} {kvs:List (ar×V)} {es:List (ar×D)} {l:List (D×D)}:Z a=some (.dK kvs)->es.map (·.1)=kvs.map (·.1)->Reps K Z (kvs.map (·.2)) (es.map (·.2))->l=es.map (λp=>(ut p.1,p.2))->Rep K Z (.ref a) (.dict ((.none,.none)::l))
inductive Reps (K:Fg) (Z:Hp):List V->List D->Prop
 |nil:Reps K Z [] []
 |cons {v:V} {d:D} {vs:List V} {ds:List D}:Rep K Z v d->Reps K Z vs ds->Reps K Z (v::vs) (d::ds)
end
theorem SqL.same{K:Fg}{H H':Hp}{a:Addr}{xs:List V}(h:SqL K H a xs)(s:Same H H'):SqL K H' a xs:=by
 rcases h with h|h
 .exact .inl (Rd.same h s)
 .exact .inr h
mutual
theorem Rep.same{K:Fg}{Z Z':Hp}(s:Same Z Z'):∀{v:V} {d:D},Rep K Z v d->Rep K Z' v d
 |_,_,.non=>.non
 |_,_,.bl b=>.bl b
 |_,_,.int i=>.int i
 |_,_,.str x=>.str x
 |_,_,.tup h r=>.tup (SqT.same h s) (Reps.same s r)
 |_,_,.lst h r=>.lst (SqL.same h s) (Reps.same s r)
 |_,_,.opq h=>.opq (Opq.same s h)
 |_,_,.gdc h k r e=>.gdc (s _ _ h) k (Reps.same s r) e
theorem Reps.same{K:Fg}{Z Z':Hp}(s:Same Z Z'):∀{vs:List V} {ds:List D},Reps K Z vs ds->Reps K Z' vs ds
 |_,_,.nil=>.nil
 |_,_,.cons h r=>.cons (Rep.same s h) (Reps.same s r)
end
theorem Reps.length{K:Fg}{Z:Hp}:∀{vs:List V} {ds:List D},Reps K Z vs ds->vs.length=ds.length
 |_,_,.nil=>rfl
 |_,_,.cons _ r=>congrArg (· + 1) (Reps.length r)
theorem Reps.get{K:Fg}{Z:Hp}:∀{vs:List V} {ds:List D} {i:Nat} {d:D},Reps K Z vs ds->ds[i]? = some d->∃v,vs[i]? = some v/\Rep K Z v d
 |_,_,_,_,.nil,e=>by simp at e
 |_,_,0,_,.cons r _,e=>by simp at e;subst e;exact⟨_,rfl,r⟩
 |_,_,i+1,d,.cons _ t,e=>by
  obtain⟨u,h1,h2⟩:=Reps.get (i:=i) (d:=d) t (by simpa using e);exact⟨u,by simpa using h1,h2⟩
theorem Reps.getV{K:Fg}{Z:Hp}:∀{vs:List V} {ds:List D} {i:Nat} {v:V},Reps K Z vs ds->vs[i]? = some v->∃d,ds[i]? = some d/\Rep K Z v d
 |_,_,_,_,.nil,e=>by simp at e
 |_,_,0,_,.cons r _,e=>by simp at e;subst e;exact⟨_,rfl,r⟩
 |_,_,i+1,v,.cons _ t,e=>by
  obtain⟨u,h1,h2⟩:=Reps.getV (i:=i) (v:=v) t (by simpa using e);exact⟨u,by simpa using h1,h2⟩
theorem Reps.set{K:Fg}{Z:Hp}{x:V}{u:D}(r:Rep K Z x u):∀{xs:List V} {us:List D} (i:Nat),Reps K Z xs us->Reps K Z (xs.set i x) (us.set i u)
 |_,_,_,.nil=>.nil
 |_,_,0,.cons _ t=>.cons r t
 |_,_,i+1,.cons q t=>.cons q (Reps.set r i t)
theorem Reps.append{K:Fg}{Z:Hp}:∀{xs ys:List V} {us ws:List D},Reps K Z xs us->Reps K Z ys ws->Reps K Z (xs++ys) (us++ws)
 |_,_,_,_,.nil,s=>s
 |_,_,_,_,.cons r t,s=>.cons r (Reps.append t s)
theorem Reps.take{K:Fg}{Z:Hp}:∀{xs:List V} {us:List D} (n:Nat),Reps K Z xs us->Reps K Z (xs.take n) (us.take n)
 |_,_,0,_=>.nil
 |_,_,_+1,.nil=>.nil
 |_,_,n+1,.cons r t=>.cons r (Reps.take n t)
theorem Reps.drop{K:Fg}{Z:Hp}:∀{xs:List V} {us:List D} (n:Nat),Reps K Z xs us->Reps K Z (xs.drop n) (us.drop n)
 |_,_,0,r=>r
 |_,_,_+1,.nil=>.nil
 |_,_,n+1,.cons _ t=>Reps.drop n t
theorem Rep.int_eq{K:Fg}{Z:Hp}{v:V}{i:Int}(h:Rep K Z v (.int i)):v=.int i:=by cases h;rfl
theorem Rep.bl_eq{K:Fg}{Z:Hp}{v:V}{b:Bool}(h:Rep K Z v (.bool b)):v=.bl b:=by cases h;rfl
theorem Reps.ints{K:Fg}{Z:Hp}:∀ns:List Int,Reps K Z (ns.map V.int) (ns.map PyData.int)
 |[]=>.nil
 |n::r=>.cons (.int n) (Reps.ints r)
mutual
theorem Rep.reads{X:Cx}{pins:List (Addr×Obj)}{σ:St}{H Z:Hp}{s:Shared}(I:Inv X pins σ H s)(zh:Same Z H):∀{v:V} {d:D} {u:Value},Rep X.K Z v d->RelV v u->d.canLay0=true->∃as,Reads s.heap u d as
 |_,_,u,.non,r,_=>by cases(show u=Value.none from r);exact⟨_,.none⟩
 |_,_,u,.bl b,r,_=>by cases(show u=Value.bool b from r);exact⟨_,.bool b⟩
 |_,_,u,.int i,r,_=>by obtain⟨t,rfl⟩:=(show ∃t,u=Value.int i t from r);exact⟨_,.int i t⟩
 |_,_,u,.str x,r,_=>by obtain⟨t,rfl⟩:=(show ∃t,u=Value.str x t from r);exact⟨_,.str x t⟩
 |_,_,u,.tup (a:=a) h q,r,hc=>by
  cases(show u=Value.ref a from r);obtain⟨its,rv,ht,_⟩:=I.tuple (SqT.same h zh);obtain⟨as,ra⟩:=Reps.reads I zh q rv hc;obtain⟨o,e,c,n,dd⟩:=ht;exact⟨_,reads_tuple_at e c dd (by simpa using ra)⟩
 |_,_,u,.lst (a:=a) h q,r,hc=>by
  cases(show u=Value.ref a from r);obtain⟨its,rv,ht,_⟩:=I.list (SqL.same h zh);obtain⟨as,ra⟩:=Reps.reads I zh q rv hc;obtain⟨o,n,e,c,_,dd⟩:=ht;exact⟨_,reads_list_at e c dd (by simpa using ra)⟩
 |_,_,u,.opq h,r,hc=>by cases hc
 |_,_,u,.gdc h k q e,r,hc=>by cases hc
theorem Reps.reads{X:Cx}{pins:List (Addr×Obj)}{σ:St}{H Z:Hp}{s:Shared}(I:Inv X pins σ H s)(zh:Same Z H):∀{vs:List V} {ds:List D} {us:List Value},Reps X.K Z vs ds->Vals vs us->PyData.canLayAll0 ds=true->∃as,ReadsAll s.heap us ds as
 |_,_,_,.nil,.nil,_=>⟨_,.nil⟩
 |_,_,_,.cons h q,.cons r t,hc=>by
  have hc':=Bool.and_eq_true_iff.mp hc;obtain⟨as,ha⟩:=Rep.reads I zh h r hc'.1;obtain⟨bs,hb⟩:=Reps.reads I zh q t hc'.2;exact⟨_,.cons ha hb⟩
end
noncomputable def Au:HO->Bool
 |.frz _ (.lst _)=>false
 |_=>true
def NoF(Z Z':Hp):Prop:=∀b o xs,Z' b=some (.frz o (.lst xs))->Z b=some (.frz o (.lst xs))
theorem NoF.refl(Z:Hp):NoF Z Z:=λ_ _ _ e=>e
theorem NoF.trans{Z Z1 Z2:Hp}(a:NoF Z Z1)(b:NoF Z1 Z2):NoF Z Z2:=λc o xs e=>a c o xs (b c o xs e)
theorem NoF.upd{Z Z':Hp}(a:NoF Z Z')(p:Addr){u:HO}(hu:Au u=true:=by rfl):NoF Z (upd Z' p u):=λb o xs e=>by
 by_cases hb:b=p
 .subst hb
  rw[aC]at e;cases e;cases hu
 .rw[az hb]at e
  exact a b o xs e
structure New (Z H Z' H':Hp):Prop where
 z:Same Z Z'
 h:Same H H'
 zh:Same Z' H'
 o:∀b,H b≠none->Z' b=Z b
 nf:NoF Z Z'
theorem New.refl{Z H:Hp}(zh:Same Z H):New Z H Z H:=⟨Same.refl _,Same.refl _,zh,λ_ _=>rfl,NoF.refl _⟩
theorem New.trans{Z H Z1 H1 Z2 H2:Hp}(a:New Z H Z1 H1)(b:New Z1 H1 Z2 H2):New Z H Z2 H2:=
 ⟨a.z.trans b.z,a.h.trans b.h,b.zh,λc hc=>by
  have:H1 c≠none:=by
   cases e:H c with
   |none=>exact absurd e hc
   |some o=>rw[a.h c o e];intro z;cases z
  rw[b.o c this,a.o c hc],a.nf.trans b.nf⟩
theorem cA{H:Hp}{p:Addr}{o:HO}(h:H p=none):Same H (upd H p o):=λb u e=>by
 rw[az (aL e h)];exact e
theorem ox{Z H:Hp}(zh:Same Z H){p:Addr}(h:H p=none):Z p=none:=by
 cases e:Z p with
 |none=>rfl
 |some o=>rw[zh p o e]at h;cases h
theorem New.add{Z H:Hp}(zh:Same Z H){p:Addr}(hp:H p=none)(o:HO)(hf:Au o=true:=by rfl):New Z H (upd Z p o) (upd H p o) where
 nf:=(NoF.refl Z).upd p hf
 z:=cA (ox zh hp)
 h:=cA hp
 zh:=λb u e=>by
  by_cases hb:b=p
  .subst hb;rw[aC]at e ⊢;exact e
  .rw[az hb]at e ⊢;exact zh b u e
 o:=λb hb=>by
  have:b≠p:=λz=>hb (z ▸ hp)
  rw[az this]
def gj(K:Fg)(Z:Hp)(kvs:List (ar×V))(es:List (ar×D)):Prop:=es.map (·.1)=kvs.map (·.1)/\Reps K Z (kvs.map (·.2)) (es.map (·.2))
inductive OwR (K:Fg) (Z:Hp):HO->Oc->Prop
 |lst {xs:List V} {ds:List D}:Reps K Z xs ds->OwR K Z (.lst xs) (.l ds)
 |dct {kvs:List (ar×V)} {es:List (ar×D)}:gj K Z kvs es->OwR K Z (.dK kvs) (.d es)
theorem OwR.same{K:Fg}{Z Z':Hp}{o:HO}{c:Oc}(h:OwR K Z o c)(s:Same Z Z'):OwR K Z' o c:=by
 cases h with
 |lst r=>exact .lst (r.same s)
 |dct r=>exact .dct ⟨r.1,r.2.same s⟩
def FrOk(K:Fg)(H₀ Z₀ Z:Hp)(δ:Dv)(σ:St):Prop:=∀(i:Nat) ds,δ[i]? = some (.fr ds)->∃a xs,σ[i]? = some (some (.ref a))/\H₀ a=none/\Z₀ a=none/\Z a=some (.lst xs)/\Reps K Z xs ds
theorem FrOk.same{K:Fg}{H₀ Z₀ Z Z':Hp}{δ:Dv}{σ:St}(h:FrOk K H₀ Z₀ Z δ σ)(s:Same Z Z'):FrOk K H₀ Z₀ Z' δ σ:=λi ds e=>
 let ⟨a,xs,h1,h2,h3,h4,h5⟩:=h i ds e; ⟨a,xs,h1,h2,h3,s _ _ h4,h5.same s⟩
theorem FrOk.put{K:Fg}{H₀ Z₀ Z:Hp}{δ:Dv}{σ σ':St}(h:FrOk K H₀ Z₀ Z δ σ){i:Nat}{x:Sl}(hx:∀ds,x≠Sl.fr ds)(hs:∀j:Nat,i≠j -> σ'[j]? = σ[j]?):FrOk K H₀ Z₀ Z (δ.set i x) σ':=λj ds e=>by
 by_cases hj:i=j
 .subst hj
  have hl:i < δ.length:=by have:=(List.getElem?_eq_some_iff.mp e).1;simpa using this
  rw[List.getElem?_set_self hl]at e;exact absurd (Option.some.inj e) (hx ds)
 .rw[List.getElem?_set_ne hj]at e
  obtain⟨a,xs,h1,r⟩:=h j ds e;exact⟨a,xs,by rw[hs j hj];exact h1,r⟩
structure Hold (K:Fg) (H₀ Z₀ Z:Hp) (δ:Dv) (σ:St) (H:Hp):Prop where
 zh:Same Z H
 h0:Same H₀ H
 z0:Same Z₀ Z
 zb:∀b,H₀ b≠none->Z b=Z₀ b
 len:δ.length = σ.length
 fz:∀(i:Nat) d,δ[i]? = some (.fz d)->∃v,σ[i]? = some (some v)/\Rep K Z v d
 own:∀(i:Nat) c,δ[i]? = some (.own c)->∃a o,σ[i]? = some (some (.ref a))/\H₀ a=none/\Z a=none/\H a=some o/\OwR K Z o c
 dja:∀(i j:Nat) c c' a,i≠j -> δ[i]? = some (.own c)-> δ[j]? = some (.own c')-> σ[i]? = some (some (.ref a))-> σ[j]?≠some (some (V.ref a))
 fr:FrOk K H₀ Z₀ Z δ σ
 nf:NoF Z₀ Z
section
variable{K:Fg}{H₀ Z₀ Z Z' H H':Hp}{δ:Dv}{σ:St}
theorem Hold.ow(h:Hold K H₀ Z₀ Z δ σ H)(i:Nat)(ds:List D)(e:δ[i]? = some (.ow ds)):∃a xs,σ[i]? = some (some (.ref a))/\H₀ a=none/\Z a=none/\H a=some (.lst xs)/\Reps K Z xs ds:=by
 obtain⟨a,o,h1,h2,h3,h4,h5⟩:=h.own i _ e;cases h5 with
 |lst r=>exact⟨a,_,h1,h2,h3,h4,r⟩
theorem Hold.od(h:Hold K H₀ Z₀ Z δ σ H)(i:Nat)(es:List (ar×D))(e:δ[i]? = some (.od es)):∃a kvs,σ[i]? = some (some (.ref a))/\H₀ a=none/\Z a=none/\H a=some (.dK kvs)/\gj K Z kvs es:=by
 obtain⟨a,o,h1,h2,h3,h4,h5⟩:=h.own i _ e;cases h5 with
 |dct r=>exact⟨a,_,h1,h2,h3,h4,r⟩
theorem Hold.new(h:Hold K H₀ Z₀ Z δ σ H)(n:New Z H Z' H'):Hold K H₀ Z₀ Z' δ σ H' where
 zh:=n.zh
 h0:=h.h0.trans n.h
 z0:=h.z0.trans n.z
 zb:=λb hb=>by
  have:H b≠none:=by
   cases e:H₀ b with
   |none=>exact absurd e hb
   |some o=>rw[h.h0 b o e];intro z;cases z
  rw[n.o b this,h.zb b hb]
 len:=h.len
 fz:=λi d e=>let ⟨v,a,r⟩:=h.fz i d e; ⟨v,a,r.same n.z⟩
 own:=λi ds e=>by
  obtain⟨a,xs,h1,h2,h3,h4,h5⟩:=h.own i ds e;exact⟨a,xs,h1,h2,by rw[n.o a (by rw[h4];intro z;cases z)];exact h3,n.h a _ h4,h5.same n.z⟩
 dja:=h.dja
 fr:=h.fr.same n.z
 nf:=h.nf.trans n.nf
theorem Hold.set(h:Hold K H₀ Z₀ Z δ σ H){i:Nat}{v:V}{d:D}(r:Rep K Z v d):Hold K H₀ Z₀ Z (δ.set i (.fz d)) (σ.set i (some v)) H where
 zh:=h.zh
 h0:=h.h0
 z0:=h.z0
 zb:=h.zb
 len:=by simp[h.len]
 fz:=λj e q=>by
  by_cases hj:i=j
  .subst hj
   have hl:i < δ.length:=by
    have:=(List.getElem?_eq_some_iff.mp q).1;simpa using this
   rw[List.getElem?_set_self hl]at q;cases q;exact⟨v,List.getElem?_set_self (by rw[<-h.len];exact hl),r⟩
  .rw[List.getElem?_set_ne hj]at q
   obtain⟨u,a,b⟩:=h.fz j e q;exact⟨u,by rw[List.getElem?_set_ne hj];exact a,b⟩
 own:=λj es q=>by
  by_cases hj:i=j
  .subst hj
   have hl:i < δ.length:=by
    have:=(List.getElem?_eq_some_iff.mp q).1;simpa using this
   rw[List.getElem?_set_self hl]at q;cases q
  .rw[List.getElem?_set_ne hj]at q ⊢
   exact h.own j es q
 dja:=λj k ds es a hjk q1 q2=>by
  by_cases hj:i=j
  .subst hj
   have hl:i < δ.length:=by
    have:=(List.getElem?_eq_some_iff.mp q1).1;simpa using this
   rw[List.getElem?_set_self hl]at q1;cases q1
  .by_cases hk:i=k
   .subst hk
    have hl:i < δ.length:=by
     have:=(List.getElem?_eq_some_iff.mp q2).1;simpa using this
    rw[List.getElem?_set_self hl]at q2;cases q2
   .rw[List.getElem?_set_ne hj]at q1
    rw[List.getElem?_set_ne hk]at q2;rw[List.getElem?_set_ne hj,List.getElem?_set_ne hk];exact h.dja j k ds es a hjk q1 q2
 fr:=h.fr.put (λ_ z=>nomatch z) λ_ hj=>List.getElem?_set_ne hj
 nf:=h.nf
theorem Hold.setW(h:Hold K H₀ Z₀ Z δ σ H){i:Nat}{p:Addr}{o:HO}{c:Oc}(hp:H p=none)(r:OwR K Z o c):Hold K H₀ Z₀ Z (δ.set i (.own c)) (σ.set i (some (.ref p))) (upd H p o) where
 zh:=h.zh.trans (cA hp)
 h0:=h.h0.trans (cA hp)
 z0:=h.z0
 zb:=h.zb
 len:=by simp[h.len]
 fz:=λj e q=>by
  by_cases hj:i=j
  .subst hj
   have hl:i < δ.length:=by
    have:=(List.getElem?_eq_some_iff.mp q).1;simpa using this
   rw[List.getElem?_set_self hl]at q;cases q
  .rw[List.getElem?_set_ne hj]at q
   obtain⟨u,a,b⟩:=h.fz j e q;exact⟨u,by rw[List.getElem?_set_ne hj];exact a,b⟩
 own:=λj es q=>by
  by_cases hj:i=j
  .subst hj
   have hl:i < δ.length:=by
    have:=(List.getElem?_eq_some_iff.mp q).1;simpa using this
   rw[List.getElem?_set_self hl]at q;cases q;exact⟨p,o,List.getElem?_set_self (by rw[<-h.len];exact hl),ox h.h0 hp,ox h.zh hp,aC,r⟩
  .rw[List.getElem?_set_ne hj]at q ⊢
   obtain⟨a,ys,h1,h2,h3,h4,h5⟩:=h.own j es q;exact⟨a,ys,h1,h2,h3,by rw[az (aL h4 hp)];exact h4,h5⟩
 dja:=λj k ds es a hjk q1 q2=>by
  have old:∀{m:Nat} {fs:Oc},δ[m]? = some (.own fs)-> σ[m]?≠some (some (V.ref p)):=λ{m fs} q z=>by
   obtain⟨b,ys,h1,h2,h3,h4,h5⟩:=h.own m fs q;rw[h1]at z;cases z;rw[hp]at h4;cases h4
  have hl:∀{m:Nat} {x:Sl},(δ.set i x)[m]?≠none->m < σ.length:=λ{m x} q=>by
   have:m<(δ.set i x).length:=by
    rcases Nat.lt_or_ge m (δ.set i x).length with g|g
    .exact g
    .exact absurd (List.getElem?_eq_none_iff.mpr g) q
   rw[<-h.len];simpa using this
  by_cases hj:i=j
  .subst hj
   have h1:i < σ.length:=hl (by rw[q1];intro z;cases z);rw[List.getElem?_set_self h1];intro e;cases e;rw[List.getElem?_set_ne hjk]at q2 ⊢;exact old q2
  .rw[List.getElem?_set_ne hj]at q1 ⊢
   by_cases hk:i=k
   .subst hk
    have h1:i < σ.length:=hl (by rw[q2];intro z;cases z);intro e z;rw[List.getElem?_set_self h1]at z;cases z;exact old q1 e
   .rw[List.getElem?_set_ne hk]at q2 ⊢
    exact h.dja j k ds es a hjk q1 q2
 fr:=h.fr.put (λ_ z=>nomatch z) λ_ hj=>List.getElem?_set_ne hj
 nf:=h.nf
theorem Hold.setO(h:Hold K H₀ Z₀ Z δ σ H){i:Nat}{p:Addr}{xs:List V}{ds:List D}(hp:H p=none)(r:Reps K Z xs ds):Hold K H₀ Z₀ Z (δ.set i (.ow ds)) (σ.set i (some (.ref p))) (upd H p (.lst xs)):=h.setW hp (.lst r)
theorem Hold.chgW(h:Hold K H₀ Z₀ Z δ σ H){i:Nat}{p:Addr}{o:HO}{ds es:Oc}(e:δ[i]? = some (.own ds))(ep:σ[i]? = some (some (.ref p)))(r:OwR K Z o es):Hold K H₀ Z₀ Z (δ.set i (.own es)) σ (upd H p o):=by
 obtain⟨a,zs,h1,h2,h3,h4,h5⟩:=h.own i ds e;rw[ep]at h1;cases h1;have hl:i < δ.length:=(List.getElem?_eq_some_iff.mp e).1;refine⟨λb o' q=>?_,λb o' q=>?_,h.z0,h.zb,by simp[h.len],λj d q=>?_,λj d q=>?_,λj k d1 d2 a hjk q1 q2=>?_,h.fr.put (λ_ z=>nomatch z) λ_ _=>rfl,h.nf⟩
 .rw[az (aL q h3)];exact h.zh b o' q
 .rw[az (aL q h2)];exact h.h0 b o' q
 .by_cases hj:i=j
  .subst hj
   rw[List.getElem?_set_self hl]at q;cases q
  .rw[List.getElem?_set_ne hj]at q
   exact h.fz j d q
 .by_cases hj:i=j
  .subst hj
   rw[List.getElem?_set_self hl]at q;cases q;exact⟨p,o,ep,h2,h3,aC,r⟩
  .rw[List.getElem?_set_ne hj]at q
   obtain⟨b,ws,g1,g2,g3,g4,g5⟩:=h.own j d q;refine⟨b,ws,g1,g2,g3,?_,g5⟩;have:b≠p:=λz=>by subst z;exact h.dja i j ds d b hj e q ep g1
   rw[az this];exact g4
 .have f:∀{m:Nat} {dm:Oc},(δ.set i (.own es))[m]? = some (.own dm)->∃dm',δ[m]? = some (.own dm'):=λ{m dm} q=>by
   by_cases hm:i=m
   .subst hm;exact⟨ds,e⟩
   .rw[List.getElem?_set_ne hm]at q;exact⟨dm,q⟩
  obtain⟨e1,g1⟩:=f q1;obtain⟨e2,g2⟩:=f q2;exact h.dja j k e1 e2 a hjk g1 g2
theorem Hold.chg(h:Hold K H₀ Z₀ Z δ σ H){i:Nat}{p:Addr}{xs ys:List V}{ds es:List D}(e:δ[i]? = some (.ow ds))(ep:σ[i]? = some (some (.ref p)))(r:Reps K Z ys es):Hold K H₀ Z₀ Z (δ.set i (.ow es)) σ (upd H p (.lst ys)):=h.chgW e ep (.lst r)
theorem Hold.frz(h:Hold K H₀ Z₀ Z δ σ H){i:Nat}{ds:List D}(e:δ[i]? = some (.ow ds)):∃Z',Same Z Z'/\Hold K H₀ Z₀ Z' (δ.set i (.fz (.list ds))) σ H:=by
 obtain⟨a,xs,h1,h2,h3,h4,h5⟩:=h.ow i ds e;have hl:i < δ.length:=(List.getElem?_eq_some_iff.mp e).1;have sz:Same Z (upd Z a (.lst xs)):=cA h3;refine⟨upd Z a (.lst xs),sz,λb o q=>?_,h.h0,h.z0.trans sz,λb hb=>?_,by simp[h.len],λj d q=>?_,λj d q=>?_,λj k d1 d2 b hjk q1 q2=>?_,(h.fr.same sz).put (λ_ z=>nomatch z) λ_ _=>rfl,h.nf.upd a⟩
 .by_cases hb:b=a
  .subst hb;rw[aC]at q;cases q;exact h4
  .rw[az hb]at q;exact h.zh b o q
 .rw[az (λz=>hb (by rw[z];exact h2))];exact h.zb b hb
 .by_cases hj:i=j
  .subst hj
   rw[List.getElem?_set_self hl]at q;cases q;exact⟨.ref a,h1,.lst (SqL.of aC) (h5.same sz)⟩
  .rw[List.getElem?_set_ne hj]at q
   obtain⟨v,g1,g2⟩:=h.fz j d q;exact⟨v,g1,g2.same sz⟩
 .by_cases hj:i=j
  .subst hj
   rw[List.getElem?_set_self hl]at q;cases q
  .rw[List.getElem?_set_ne hj]at q
   obtain⟨b,ws,g1,g2,g3,g4,g5⟩:=h.own j d q;have:b≠a:=λz=>by subst z;exact h.dja i j _ d b hj e q h1 g1
   exact⟨b,ws,g1,g2,by rw[az this];exact g3,g4,g5.same sz⟩
 .by_cases hj:i=j
  .subst hj
   rw[List.getElem?_set_self hl]at q1;cases q1
  .by_cases hk:i=k
   .subst hk
    rw[List.getElem?_set_self hl]at q2;cases q2
   .rw[List.getElem?_set_ne hj]at q1
    rw[List.getElem?_set_ne hk]at q2;exact h.dja j k d1 d2 b hjk q1 q2
end
def tV(K:Fg)(f:Dv->Option D):TE:=λσ H Q=>∃H₀ Z₀ Z δ d,Hold K H₀ Z₀ Z δ σ H/\f δ = some d/\∀v Z' H',Hold K H₀ Z₀ Z' δ σ H'->Same Z Z'->Rep K Z' v d->Q v H'
def Ed(K:Fg)(f:Dv->Option Bool):TT:=λσ H Q=>∃H₀ Z₀ Z δ b,Hold K H₀ Z₀ Z δ σ H/\f δ = some b/\∀Z' H',Hold K H₀ Z₀ Z' δ σ H'->Same Z Z'->Q b H'
def Iy(K:Fg)(f:Dv->Option (List D)):TA:=λσ H Q=>∃H₀ Z₀ Z δ ds,Hold K H₀ Z₀ Z δ σ H/\f δ = some ds/\∀vs Z' H',Hold K H₀ Z₀ Z' δ σ H'->Same Z Z'->Reps K Z' vs ds->Q vs H'
def Fl.to(K:Fg)(Z:Hp)(D:Ends)(σ:St)(H:Hp):Fl->Prop
 |.nx=>D.nx σ H
 |.bk=>D.bk σ H
 |.ct=>D.ct σ H
 |.rt d=>∀v,Rep K Z v d->D.rt v H
def Bo(K:Fg)(f:Dv->Option (Fl×Dv)):TS:=λD σ H=>∃H₀ Z₀ Z δ r,Hold K H₀ Z₀ Z δ σ H/\f δ = some r/\∀ σ' H' Z',Hold K H₀ Z₀ Z' r.2 σ' H'->Same Z Z'->r.1.to K Z' D σ' H'
def EV(X:Cx)(e:Expr)(f:Dv->Option D):Prop:=PE X e (tV X.K f)
def TV(X:Cx)(e:Expr)(f:Dv->Option Bool):Prop:=PT X e (Ed X.K f)
def AV(X:Cx)(es:List Expr)(f:Dv->Option (List D)):Prop:=PA X es (Iy X.K f)
def SV(X:Cx)(st:Stmt)(f:Dv->Option (Fl×Dv)):Prop:=PS X st (Bo X.K f)
def BV(X:Cx)(st:List Stmt)(f:Dv->Option (Fl×Dv)):Prop:=PSs X st (Bo X.K f)
theorem PE.imp{X:Cx}{e:Expr}{t t':TE}(h:PE X e t)(i:∀ σ H Q,t' σ H Q->t σ H Q):PE X e t':=λpins s σ H Q I hw=>h pins s σ H Q I (i _ _ _ hw)
theorem PT.imp{X:Cx}{e:Expr}{t t':TT}(h:PT X e t)(i:∀ σ H Q,t' σ H Q->t σ H Q):PT X e t':=λpins s σ H Q I hw=>h pins s σ H Q I (i _ _ _ hw)
theorem PA.imp{X:Cx}{es:List Expr}{t t':TA}(h:PA X es t)(i:∀ σ H Q,t' σ H Q->t σ H Q):PA X es t':=λpos pins s σ H Q I hw=>h pos pins s σ H Q I (i _ _ _ hw)
theorem PS.imp{X:Cx}{st:Stmt}{t t':TS}(h:PS X st t)(i:∀D σ H,t' D σ H->t D σ H):PS X st t':=λpins s σ H D I hw=>h pins s σ H D I (i _ _ _ hw)
theorem PSs.imp{X:Cx}{st:List Stmt}{t t':TS}(h:PSs X st t)(i:∀D σ H,t' D σ H->t D σ H):PSs X st t':=λpins s σ H D I hw=>h pins s σ H D I (i _ _ _ hw)
theorem OpR.imp{X:Cx}{f:Value->Value->Sem Value}{r r':R2}(h:OpR X f r)(i:∀x y H Q,r' x y H Q->r x y H Q):OpR X f r':=λpins s σ H x y v u Q I rx ry q=>h pins s σ H x y v u Q I rx ry (i _ _ _ _ q)
theorem CallR.imp{X:Cx}{f:Value}{r r':List V->Hp->VK->Prop}(h:CallR X f r)(i:∀xs H Q,r' xs H Q->r xs H Q):CallR X f r':=λpins s σ H xs us Q I rx q=>h pins s σ H xs us Q I rx (i _ _ _ q)
def rD(K:Fg)(g:D->D->Option D):R2:=λx y H Q=>∃Z a b d,Same Z H/\Rep K Z x a/\Rep K Z y b/\g a b=some d/\∀v Z' H',New Z H Z' H'->Rep K Z' v d->Q v H'
def ID(K:Fg)(g:D->Option D):V->Hp->VK->Prop:=λx H Q=>∃Z a d,Same Z H/\Rep K Z x a/\g a=some d/\∀v Z' H',New Z H Z' H'->Rep K Z' v d->Q v H'
def Cr(K:Fg)(g:List D->Option D):List V->Hp->VK->Prop:=λxs H Q=>∃Z as d,Same Z H/\Reps K Z xs as/\g as=some d/\∀v Z' H',New Z H Z' H'->Rep K Z' v d->Q v H'
def h7(K:Fg)(g:List D->Option D):Sp:=λvs H Q _=>Cr K g vs H Q
section
variable{X:Cx}{a b c e:Expr}{es:List Expr}{pos p:Pos}{f f1 f2 f3:Dv->Option D}{fs:Dv->Option (List D)}{ft fu:Dv->Option Bool}
theorem bind_some{α β:Type}{o:Option α}{k:α -> Option β}{r:β}(h:o.bind k=some r):∃a,o=some a/\k a=some r:=by
 cases o with
 |none=>cases h
 |some a=>exact⟨a,rfl,h⟩
theorem two{K:Fg}{g:D->D->Option D}{σ:St}{H:Hp}{Q:VK}{r:R2}(hr:∀x y H Q,rD K g x y H Q->r x y H Q)(h:tV K (o2 f1 f2 g) σ H Q):EG r (tV K f1) (tV K f2) σ H Q:=by
 obtain⟨H₀,Z₀,Z,δ,d,hh,e,k⟩:=h;obtain⟨x,e1,e⟩:=bind_some e;obtain⟨y,e2,e⟩:=bind_some e;refine⟨H₀,Z₀,Z,δ,x,hh,e1,λv Z1 H1 hh1 s1 r1=>⟨H₀,Z₀,Z1,δ,y,hh1,e2,λu Z2 H2 hh2 s2 r2=>hr _ _ _ _ ⟨Z2,x,y,d,hh2.zh,r1.same s2,r2,e,λw Z3 H3 n r3=>?_⟩⟩⟩
 exact k w Z3 H3 (hh2.new n) ((s1.trans s2).trans n.z) r3
theorem aq{op:Operator}{g:D->D->Option D}(ho:OpR X (binaryOp op) (rD X.K g))(ha:EV X a f1)(hb:EV X b f2):EV X (.BinOp a op b pos) (o2 f1 f2 g):=
 PE.imp (Fa ho ha hb) λ_ _ _ h=>two (λ_ _ _ _ q=>q) h
theorem uO{op:UnaryOp}{g:D->Option D}(ho:Gn X (unaryOp op) (ID X.K g))(ha:EV X a f):EV X (.UnaryOp op a pos) (o1 f g):=
 PE.imp (E8 ho ha) λσ H Q h=>by
  obtain⟨H₀,Z₀,Z,δ,d,hh,e,k⟩:=h;obtain⟨x,e1,e⟩:=bind_some e;exact⟨H₀,Z₀,Z,δ,x,hh,e1,λv Z1 H1 hh1 s1 r1=>⟨Z1,x,d,hh1.zh,r1,e,λw Z3 H3 n r3=>k w Z3 H3 (hh1.new n) (s1.trans n.z) r3⟩⟩
theorem oE{op:CmpOp}{g:D->D->Option D}(ho:OpR X (compareOp op) (rD X.K g))(ha:EV X a f1)(hb:EV X b f2)(hm:behindInMarks op b=false):EV X (.Compare a [op] [b] pos) (o2 f1 f2 g):=
 PE.imp (Am ho ha hb hm) λ_ _ _ h=>two (λ_ _ _ _ q=>q) h
theorem yY{d:D}{b:Bool}(h:asB d=some b):d=.bool b:=by
 cases d<;>simp[asB]at h;subst h;rfl
theorem Iw{K:Fg}{σ:St}{H:Hp}{Q:Bool->Hp->Prop}(h:Ed K (ob f) σ H Q):tV K f σ H λx H1=>∃c,x=.bl c/\Q c H1:=by
 obtain⟨H₀,Z₀,Z,δ,d,hh,e,k⟩:=h;obtain⟨x,e1,e⟩:=bind_some e;have:=yY e;subst this;exact⟨H₀,Z₀,Z,δ,_,hh,e1,λv Z1 H1 hh1 s1 r1=>⟨_,r1.bl_eq,k Z1 H1 hh1 s1⟩⟩
theorem aQ{op:CmpOp}{g:D->D->Option D}(ho:OpR X (compareOp op) (rD X.K g))(ha:EV X a f1)(hb:EV X b f2)(hm:behindInMarks op b=false):TV X (.Compare a [op] [b] pos) (ob (o2 f1 f2 g)):=
 PT.imp (zZ ho ha hb hm) λσ H Q h=>by
  have h':=Iw h;exact two (f1:=f1) (f2:=f2) (g:=g) (λ_ _ _ _ q=>q) h'
theorem gB(ha:EV X a f)(he:∀whole,isTrue a X.env whole=(do let v <-whole;standAt a.pos;holding [v] (truthy v)):=by intro _;rfl):TV X a (ob f):=
 PT.imp (Cu ha he) λ_ _ _ h=>Iw h
def WV(X:Cx)(e:Expr)(f:Dv->Option Bool):Prop:=PW X e (Ed X.K f)
theorem PW.imp{X:Cx}{e:Expr}{t t':TT}(h:PW X e t)(i:∀ σ H Q,t' σ H Q->t σ H Q):PW X e t':=λwhole pins s σ H Q I hw=>h whole pins s σ H Q I (i _ _ _ hw)
theorem sY(ha:TV X a ft):WV X (.BoolOp .And [a] pos) ft:=zX ha
theorem BT(ha:TV X a ft):WV X (.BoolOp .Or [a] pos) ft:=Cs ha
theorem qZ{rest:List Expr}(ha:TV X a ft)(hb:WV X (.BoolOp .And (b::rest) pos) fu):WV X (.BoolOp .And (a::b::rest) pos) (oa ft fu):=
 PW.imp (Ct ha hb) λσ H Q h=>by
  obtain⟨H₀,Z₀,Z,δ,d,hh,e,k⟩:=h;obtain⟨x,e1,e⟩:=bind_some e;refine⟨H₀,Z₀,Z,δ,x,hh,e1,λZ1 H1 hh1 s1=>?_⟩
  cases x with
  |true=>exact⟨H₀,Z₀,Z1,δ,d,hh1,e,λZ2 H2 hh2 s2=>k Z2 H2 hh2 (s1.trans s2)⟩
  |false=>cases e;exact k Z1 H1 hh1 s1
theorem Eu{rest:List Expr}(ha:TV X a ft)(hb:WV X (.BoolOp .Or (b::rest) pos) fu):WV X (.BoolOp .Or (a::b::rest) pos) (Ei ft fu):=
 PW.imp (E5 ha hb) λσ H Q h=>by
  obtain⟨H₀,Z₀,Z,δ,d,hh,e,k⟩:=h;obtain⟨x,e1,e⟩:=bind_some e;refine⟨H₀,Z₀,Z,δ,x,hh,e1,λZ1 H1 hh1 s1=>?_⟩
  cases x with
  |true=>cases e;exact k Z1 H1 hh1 s1
  |false=>exact⟨H₀,Z₀,Z1,δ,d,hh1,e,λZ2 H2 hh2 s2=>k Z2 H2 hh2 (s1.trans s2)⟩
theorem WV.tv(h:WV X a ft):TV X a ft:=PW.pt h
theorem B5(ha:TV X a ft):TV X (.UnaryOp .Not a pos) (Ar ft):=
 PT.imp (Cv ha) λσ H Q h=>by
  obtain⟨H₀,Z₀,Z,δ,d,hh,e,k⟩:=h;cases e1:ft δ with
  |none=>unfold Ar at e;rw[e1]at e;cases e
  |some x=>
   unfold Ar at e;rw[e1]at e;cases e;exact⟨H₀,Z₀,Z,δ,x,hh,e1,λZ1 H1 hh1 s1=>k Z1 H1 hh1 s1⟩
theorem Dw{op}(h:EV X a f):EV X (.BoolOp op [a] pos) f:=CI h
theorem F4{rest:List Expr}(ha:EV X a f1)(hb:EV X (.BoolOp .Or (b::rest) pos) f2):EV X (.BoolOp .Or (a::b::rest) pos) (Aq f1 f2):=
 PE.imp (E9 ha hb) λσ H Q h=>by
  obtain⟨H₀,Z₀,Z,δ,d,hh,e,k⟩:=h;obtain⟨x,e1,e⟩:=bind_some e;obtain⟨c,e2,e⟩:=bind_some e;have:=yY e2;subst this;refine⟨H₀,Z₀,Z,δ,_,hh,e1,λv Z1 H1 hh1 s1 r1=>⟨c,r1.bl_eq,?_⟩⟩
  cases c with
  |true=>cases e;exact k _ Z1 H1 hh1 s1 (.bl true)
  |false=>exact⟨H₀,Z₀,Z1,δ,d,hh1,e,λv Z2 H2 hh2 s2 r2=>k v Z2 H2 hh2 (s1.trans s2) r2⟩
theorem Dy(hc:TV X c ft)(ha:EV X a f1)(hb:EV X b f2):EV X (.IfExp c a b pos) (GE ft f1 f2):=
 PE.imp (xz hc ha hb) λσ H Q h=>by
  obtain⟨H₀,Z₀,Z,δ,d,hh,e,k⟩:=h;obtain⟨x,e1,e⟩:=bind_some e;refine⟨H₀,Z₀,Z,δ,x,hh,e1,λZ1 H1 hh1 s1=>?_⟩
  cases x with
  |true=>exact⟨H₀,Z₀,Z1,δ,d,hh1,e,λv Z2 H2 hh2 s2 r2=>k v Z2 H2 hh2 (s1.trans s2) r2⟩
  |false=>exact⟨H₀,Z₀,Z1,δ,d,hh1,e,λv Z2 H2 hh2 s2 r2=>k v Z2 H2 hh2 (s1.trans s2) r2⟩
theorem Hold.read{K:Fg}{H₀ Z₀ Z H:Hp}{δ:Dv}{σ:St}(hh:Hold K H₀ Z₀ Z δ σ H){i:Nat}{d:D}(h:oV i δ = some d):∃v,σ[i]? = some (some v)/\Rep K Z v d:=by
 unfold oV at h;cases q:δ[i]? with
 |none=>rw[q]at h;cases h
 |some x=>
  rw[q]at h;cases x with
  |fz e=>cases h;exact hh.fz i _ q
  |un=>cases h
  |own _=>cases h
  |fr ds=>
   cases h;obtain⟨a,xs,h1,_,_,h4,h5⟩:=hh.fr i ds q;exact⟨.ref a,h1,.lst (SqL.of h4) h5⟩
theorem aa(i:Nat){x:Str}(hN:X.N[i]? = some x:=by rfl)(hv:vg X.env.scope x:=by first|exact Or.inl rfl|exact Or.inr (Or.inl rfl)|exact Or.inr (Or.inr rfl))(hd:(x==("__debug__":Str))=false:=by decide)(hcd:(x==("__classdict__":Str))=false:=by decide):
  EV X (.Name x pos) (oV i):=
 PE.imp (cO hN hv hd hcd) λσ H Q h=>by
  obtain⟨H₀,Z₀,Z,δ,d,hh,e,k⟩:=h;obtain⟨v,q,r⟩:=hh.read e;exact⟨v,q,k v Z H hh (Same.refl _) r⟩
theorem DA{d:D}{v:V}(h:PE X e (tC v))(r:∀Z,Rep X.K Z v d):EV X e (oC d):=
 PE.imp h λσ H Q h=>by
  obtain⟨H₀,Z₀,Z,δ,d',hh,e,k⟩:=h;cases e;exact k v Z H hh (Same.refl _) (r Z)
theorem af{i j}:EV X (.Constant (.int i) j pos) (oC (.int i)):=DA CK λ_=>.int i
theorem BO{i j}:EV X (.Constant (.bool i) j pos) (oC (.bool i)):=DA Fb λ_=>.bl i
theorem oD{j}:EV X (.Constant .none j pos) (oC .none):=DA CJ λ_=>.non
theorem ag:AV X [] ak:=
 PA.imp fG λσ H Q h=>by
  obtain⟨H₀,Z₀,Z,δ,d,hh,e,k⟩:=h;cases e;exact k [] Z H hh (Same.refl _) .nil
theorem ab(ha:EV X e f)(hr:AV X es fs)(hs:starEach (e::es) X.env=(false,eval e X.env)::starEach es X.env:=by rfl):AV X (e::es) (ac f fs):=
 PA.imp (cV ha hr hs) λσ H Q h=>by
  obtain⟨H₀,Z₀,Z,δ,d,hh,e,k⟩:=h;obtain⟨x,e1,e⟩:=bind_some e;obtain⟨xs,e2,e⟩:=bind_some e;cases e;exact⟨H₀,Z₀,Z,δ,x,hh,e1,λv Z1 H1 hh1 s1 r1=>⟨H₀,Z₀,Z1,δ,xs,hh1,e2,λvs Z2 H2 hh2 s2 r2=>k _ Z2 H2 hh2 (s1.trans s2) (.cons (r1.same s2) r2)⟩⟩
theorem aT{x1}(h:AV X es fs):EV X (.Tuple es x1 pos) (os fs aU):=
 PE.imp (CH h) λσ H Q h=>by
  obtain⟨H₀,Z₀,Z,δ,d,hh,e,k⟩:=h;obtain⟨xs,e1,e⟩:=bind_some e;refine⟨H₀,Z₀,Z,δ,xs,hh,e1,λvs Z1 H1 hh1 s1 r1=>?_⟩
  by_cases hl:xs.length<=sizeLine
  .rw[aU,if_pos hl]at e
   cases e;refine⟨by rw[r1.length];exact hl,λp hp=>?_⟩
   have n:=New.add hh1.zh hp (.tup vs);exact k _ _ _ (hh1.new n) (s1.trans n.z) (.tup (SqT.of aC) (r1.same n.z))
  .rw[aU,if_neg hl]at e;cases e
theorem Dx(h:AV X es fs):EV X (.List es pos) (os fs r8):=
 PE.imp (xy h) λσ H Q h=>by
  obtain⟨H₀,Z₀,Z,δ,d,hh,e,k⟩:=h;obtain⟨xs,e1,e⟩:=bind_some e;refine⟨H₀,Z₀,Z,δ,xs,hh,e1,λvs Z1 H1 hh1 s1 r1=>?_⟩
  by_cases hl:xs.length<=sizeLine
  .rw[r8,if_pos hl]at e
   cases e;refine⟨by rw[r1.length];exact hl,λp hp=>?_⟩
   have n:=New.add hh1.zh hp (.lst vs);exact k _ _ _ (hh1.new n) (s1.trans n.z) (.lst (SqL.of aC) (r1.same n.z))
  .rw[r8,if_neg hl]at e;cases e
theorem args{K:Fg}{g:List D->Option D}{σ:St}{H:Hp}{Q:VK}(h:tV K (os fs g) σ H Q):Iy K fs σ H λvs H1=>Cr K g vs H1 Q:=by
 obtain⟨H₀,Z₀,Z,δ,d,hh,e,k⟩:=h;obtain⟨xs,e1,e⟩:=bind_some e;exact⟨H₀,Z₀,Z,δ,xs,hh,e1,λvs Z1 H1 hh1 s1 r1=>⟨Z1,xs,d,hh1.zh,r1,e,λw Z3 H3 n r3=>k w Z3 H3 (hh1.new n) (s1.trans n.z) r3⟩⟩
theorem b9{x:Str}{id:String}{g:List D->Option D}(hc:CallR X (.builtin id) (Cr X.K g))(hg:Gl X x)(hm:X.mg x=none)(hv:bootBuiltins x=some (.builtin id))(ha:AV X (e::es) fs)(hn:x≠"__name__":=by decide)(hdb:(x==("__debug__":Str))=false:=by decide)
  (he:starEach (e::es) X.env=(false,eval e X.env)::starEach es X.env:=by rfl) (hpl:(backTo pos (starEach es X.env)).any (·.1)=false:=by rfl):EV X (.Call (.Name x p) (e::es) [] pos) (os fs g):=
 PE.imp (ku hc hg hm hv ha hn hdb he hpl) λ_ _ _ h=>args h
theorem bW{x:Str}{id:String}{g:List D->Option D}(hc:CallR X (.type id) (Cr X.K g))(hg:Gl X x)(hm:X.mg x=none)(hv:bootBuiltins x=some (.type id))(ha:AV X (e::es) fs)(hn:x≠"__name__":=by decide)(hdb:(x==("__debug__":Str))=false:=by decide)
  (he:starEach (e::es) X.env=(false,eval e X.env)::starEach es X.env:=by rfl) (hpl:(backTo pos (starEach es X.env)).any (·.1)=false:=by rfl):EV X (.Call (.Name x p) (e::es) [] pos) (os fs g):=
 PE.imp (i7 hc hg hm hv ha hn hdb he hpl) λ_ _ _ h=>args h
theorem AR{k:Nat}{fa:Addr}{fd:FuncData}{ps:List Str}{x:Str}{g:List D->Option D}{dd:List D}{dv:List V}{ds:List Value}(F:FnOk X.prog X.w X.K X.mg X.base dM k fa fd ps (h7 X.K g))(hr:Room k X.A)(hg:Gl X x)(hm:X.mg x=some (.ref fa))(hk:PySem.W.keepIn X.K (.ref fa)=true)
  (hb:Binds X.K fd ps ds) (hd:Vals dv ds) (hdd:∀Z,Reps X.K Z dv dd) (hx:o5 dM X E0) (ha:AV X (e::es) fs) (hdb:(x==("__debug__":Str))=false:=by decide) (he:starEach (e::es) X.env=(false,eval e X.env)::starEach es X.env:=by rfl) (hpl:(backTo pos (starEach es X.env)).any (·.1)=false:=by rfl):
  EV X (.Call (.Name x p) (e::es) [] pos) (os fs λas=>g (as++dd)):=
 PE.imp (ua F hr hg hm hk hb hd hx ha hdb he hpl) λσ H Q h=>by
  obtain⟨H₀,Z₀,Z,δ,xs,hh,e1,q⟩:=args h;refine⟨H₀,Z₀,Z,δ,xs,hh,e1,λvs Z1 H1 hh1 s1 r1=>?_⟩
  obtain⟨Z2,as,d,zh,ra,eg,kk⟩:=q vs Z1 H1 hh1 s1 r1;exact⟨Z2,as++dd,d,zh,ra.append (hdd Z2),eg,kk⟩
theorem IxR.imp{r r':R2}(h:IxR X r)(i:∀x y H Q,r' x y H Q->r x y H Q):IxR X r':=λvalue slice pins s σ H x y v u Q I rx ry q hs=>h value slice pins s σ H x y v u Q I rx ry (i _ _ _ _ q) hs
theorem aw{g:D->D->Option D}(ho:IxR X (rD X.K g))(ha:EV X a f1)(hb:EV X b f2)(hs:oZ b):EV X (.Subscript a b pos) (o2 f1 f2 g):=
 PE.imp (Bx ho ha hb hs) λ_ _ _ h=>two (λ_ _ _ _ q=>q) h
end
section
variable{X:Cx}{a b c e tg:Expr}{es:List Expr}{pos p:Pos}{f f1 f2 f3:Dv->Option D}{fs:Dv->Option (List D)}{ft fu:Dv->Option Bool}{st:Stmt}{sts body:List Stmt}{s1 s2:Dv->Option (Fl×Dv)}
theorem uh{F:Value->Value->Sem Value}{g:Int->Int->Int}(h:OpR X F (zn λi j=>.int (g i j))):OpR X F (rD X.K (iI g)):=
 OpR.imp h λx y H Q q=>by
  obtain⟨Z,a,b,d,zh,ra,rb,e,k⟩:=q;cases ra<;>cases rb<;>simp[iI]at e;subst e;exact⟨_,_,rfl,rfl,k _ Z H (New.refl zh) (.int _)⟩
theorem Ff{F:Value->Value->Sem Value}{g:Int->Int->Bool}(h:OpR X F (zn λi j=>.bl (g i j))):OpR X F (rD X.K (iB g)):=
 OpR.imp h λx y H Q q=>by
  obtain⟨Z,a,b,d,zh,ra,rb,e,k⟩:=q;cases ra<;>cases rb<;>simp[iB]at e;subst e;exact⟨_,_,rfl,rfl,k _ Z H (New.refl zh) (.bl _)⟩
theorem pW{F:Value->Value->Sem Value}{P:Int->Int->Prop}{C:Int->Int->Bool}{g:Int->Int->Int}(h:OpR X F (rI P λi j=>.int (g i j)))(hc:∀i j,C i j=true->P i j):OpR X F (rD X.K (iC C g)):=
 OpR.imp h λx y H Q q=>by
  obtain⟨Z,a,b,d,zh,ra,rb,e,k⟩:=q;cases ra with
  |int i=>
   cases rb with
   |int j=>
    by_cases hh:C i j=true
    .simp only[iC,if_pos hh]at e
     cases e;exact⟨_,_,rfl,rfl,hc _ _ hh,k _ Z H (New.refl zh) (.int _)⟩
    .simp only[iC,if_neg hh]at e
     cases e
   |_=>simp[iC]at e
  |_=>simp[iC]at e
theorem qB:OpR X (binaryOp .Sub) (rD X.K px):=uh CS
theorem sG:OpR X (binaryOp .Mult) (rD X.K kB):=pW (P:=λi j=>IntMulOk i j) (Fi λ_ _ _ _ _ _ _ hc q=>mul_int q hc) λi j h=>of_decide_eq_true h
theorem dI:OpR X (binaryOp .FloorDiv) (rD X.K bh):=pW An λi j h=>(of_decide_eq_true h:0<j/\j<1073741824)
theorem bp:OpR X (binaryOp .Mod) (rD X.K aM):=pW CU λi j h=>of_decide_eq_true h
theorem uU:OpR X (binaryOp .LShift) (rD X.K dN):=pW (P:=λi j=>0<=j/\(Builtin.Int.intBits i:Int)+j<=2^27) (Fi λ_ _ _ _ _ _ _ hc q=>lshift_int hc.1 hc.2 q) λi j h=>of_decide_eq_true h
theorem F9:OpR X (binaryOp .RShift) (rD X.K zQ):=pW CT λi j h=>of_decide_eq_true h
theorem BP:OpR X (binaryOp .BitAnd) (rD X.K DN):=uh CW
theorem HZ:OpR X (binaryOp .BitOr) (rD X.K IE):=uh Fe
theorem ld:OpR X (binaryOp .BitXor) (rD X.K d6):=uh CQ
theorem lh:OpR X (compareOp .Gt) (rD X.K j2):=Ff Fh
theorem uV:Gn X (unaryOp .USub) (ID X.K negD):=by
 intro pins s σ H x v Q I rx q;obtain⟨Z,a,d,zh,ra,e,k⟩:=q;cases ra<;>simp[negD]at e;subst e;exact B2 pins s σ H _ v Q I rx ⟨_,rfl,k _ Z H (New.refl zh) (.int _)⟩
theorem Rep.str_eq{K:Fg}{Z:Hp}{v:V}{x:Str}(h:Rep K Z v (.str x)):v=.str x:=by cases h;rfl
theorem Rep.tup_ex{K:Fg}{Z:Hp}{v:V}{ds:List D}(h:Rep K Z v (.tuple ds)):∃a xs,v=.ref a/\SqT K Z a xs/\Reps K Z xs ds:=by
 cases h with
 |tup p q=>exact⟨_,_,rfl,p,q⟩
theorem Rep.lst_ex{K:Fg}{Z:Hp}{v:V}{ds:List D}(h:Rep K Z v (.list ds)):∃a xs,v=.ref a/\SqL K Z a xs/\Reps K Z xs ds:=by
 cases h with
 |lst p q=>exact⟨_,_,rfl,p,q⟩
theorem bT{p:Prop}[Decidable p]{α:Type}{x y:α}(h:(if p then some x else none)=some y):p/\x=y:=by
 by_cases q:p
 .rw[if_pos q]at h;exact⟨q,Option.some.inj h⟩
 .rw[if_neg q]at h;cases h
theorem DT{a b d:D}(h:bL a b=some d):(∃i,a=.int i)\/(∃x,a=.str x)\/(∃xs,a=.list xs)\/∃xs,a=.tuple xs:=by
 cases a with
 |int i=>exact .inl ⟨_,rfl⟩
 |str i=>exact .inr (.inl ⟨_,rfl⟩)
 |list i=>exact .inr (.inr (.inl ⟨_,rfl⟩))
 |tuple i=>exact .inr (.inr (.inr ⟨_,rfl⟩))
 |_=>cases h
theorem DU{i:Int}{b d:D}(h:bL (.int i) b=some d):∃j,b=.int j/\d=.int (i+j):=by
 cases b with
 |int j=>exact⟨j,rfl,(Option.some.inj h).symm⟩
 |_=>cases h
theorem DR{i:Str}{b d:D}(h:bL (.str i) b=some d):∃j,b=.str j/\i.length+j.length<=sizeLine/\d=.str (i++j):=by
 cases b with
 |str j=>obtain⟨p,q⟩:=bT h;exact⟨j,rfl,p,q.symm⟩
 |_=>cases h
theorem DS{i:List D}{b d:D}(h:bL (.list i) b=some d):∃j,b=.list j/\i.length+j.length<=sizeLine/\d=.list (i++j):=by
 cases b with
 |list j=>obtain⟨p,q⟩:=bT h;exact⟨j,rfl,p,q.symm⟩
 |_=>cases h
theorem DQ{i:List D}{b d:D}(h:bL (.tuple i) b=some d):∃j,b=.tuple j/\i.length+j.length<=sizeLine/\d=.tuple (i++j):=by
 cases b with
 |tuple j=>obtain⟨p,q⟩:=bT h;exact⟨j,rfl,p,q.symm⟩
 |_=>cases h
theorem cK:OpR X (binaryOp .Add) (rD X.K bL):=by
 intro pins s σ H x y v u Q I rx ry q;obtain⟨Z,a,b,d,zh,ra,rb,e,k⟩:=q;rcases DT e with⟨i,rfl⟩|⟨i,rfl⟩|⟨ds,rfl⟩|⟨ds,rfl⟩
 .obtain⟨j,rfl,rfl⟩:=DU e
  cases ra.int_eq;cases rb.int_eq;exact CY pins s σ H _ _ v u Q I rx ry ⟨_,_,rfl,rfl,k _ Z H (New.refl zh) (.int _)⟩
 .obtain⟨j,rfl,hl,rfl⟩:=DR e
  cases ra.str_eq;cases rb.str_eq;exact rS pins s σ H _ _ v u Q I rx ry ⟨_,_,rfl,rfl,hl,k _ Z H (New.refl zh) (.str _)⟩
 .obtain⟨es,rfl,hl,rfl⟩:=DS e
  obtain⟨a,xs,rfl,h1,q1⟩:=ra.lst_ex;obtain⟨b,ys,rfl,h2,q2⟩:=rb.lst_ex;cases rx;cases ry;obtain⟨its,r1,p1,z1⟩:=I.list (SqL.same h1 zh);obtain⟨its2,r2,p2,z2⟩:=I.list (SqL.same h2 zh);obtain⟨⟨cls,dd,data,sl⟩,n1,ho,hc,hdd,hd⟩:=p1;obtain⟨⟨cls2,dd2,data2,sl2⟩,n2,ho2,hc2,hdd2,hd2⟩:=p2;simp only at hc hd hc2 hd2;subst hc hd hc2 hd2;have hl1:=r1.length;have hl2:=r2.length;have ql1:=q1.length;have ql2:=q2.length;refine concat_meets ⟨_,ho,rfl⟩ ⟨_,ho2,rfl⟩ noFill_list_add seq_list_add PySem.F.slot_list_add PySem.F.entry_list_add (PySem.F.args_list_add_2 _ _) (list_addW a b its.toArray its2.toArray n1 n2 dd dd2 sl sl2 (by simp;lia)) ⟨ho,ho2,?_⟩;have ea:its.toArray++its2.toArray=(its++its2).toArray:=by simp
  rw[ea];have n:=New.add zh I.fresh (.lst (xs++ys));exact⟨.ref _,_,I.lnew (t':=s.toks) (r1.append r2) (by rw[List.length_append];lia),rfl,k _ _ _ n (.lst (SqL.of aC) ((q1.append q2).same n.z))⟩
 .obtain⟨es,rfl,hl,rfl⟩:=DQ e
  obtain⟨a,xs,rfl,h1,q1⟩:=ra.tup_ex;obtain⟨b,ys,rfl,h2,q2⟩:=rb.tup_ex;by_cases h0:ds.length=0
  .have hd0:ds=[]:=List.eq_nil_of_length_eq_zero h0
   subst hd0;cases q1;cases rx;cases ry;obtain⟨its,r1,p1,z1⟩:=I.tuple (SqT.same h1 zh);obtain⟨its2,r2,p2,z2⟩:=I.tuple (SqT.same h2 zh);cases r1;obtain⟨⟨cls,dd,data,sl⟩,ho,hc,n,hd⟩:=id p1;obtain⟨⟨cls2,dd2,data2,sl2⟩,ho2,hc2,n2,hd2⟩:=id p2;simp only at hc hd hc2 hd2;subst hc hd hc2 hd2;exact concat_meets ⟨_,ho,rfl⟩ ⟨_,ho2,rfl⟩ noFill_tuple_add seq_tuple_add PySem.F.slot_tuple_add PySem.F.entry_tuple_add (PySem.F.args_tuple_add_2 _ _)
    (tuple_addW0 a b _ its2.toArray n n2 dd dd2 sl sl2 (by simp)) ⟨ho,ho2,⟨.ref b,H,I,rfl,k _ Z H (New.refl zh) (.tup h2 q2)⟩⟩
  refine Ao pins s σ H _ _ v u Q I rx ry ⟨a,b,xs,ys,rfl,rfl,SqT.same h1 zh,SqT.same h2 zh,λz=>h0 (by rw[<-q1.length,z];rfl),by rw[q1.length,q2.length];exact hl,λz=>?_,λz p hp=>?_⟩
  .subst z
   cases q2;rw[List.append_nil]at k;exact k _ Z H (New.refl zh) (.tup h1 q1)
  .have n:=New.add zh hp (.tup (xs++ys))
   exact k _ _ _ n (.tup (SqT.of aC) ((q1.append q2).same n.z))
theorem jY{d:D}(h:xf d=true):d.canLay0=true:=(Bool.and_eq_true_iff.mp h).1
theorem sH(hu:X.A.units+64<cLine):OpR X (compareOp .Eq) (rD X.K o8):=by
 intro pins s σ H x y v u Q I rx ry q;obtain⟨Z,a,b,d,zh,ra,rb,e,k⟩:=q;by_cases hs:xf a=true/\xf b=true
 .rw[o8,if_pos hs]at e
  cases e;obtain⟨as,r1⟩:=ra.reads I zh rx (jY hs.1);obtain⟨bs,r2⟩:=rb.reads I zh ry (jY hs.2);exact eq_dataH r1 r2 hs.1 hs.2 hu ⟨.bl _,H,I,rfl,k _ Z H (New.refl zh) (.bl _)⟩
 .rw[o8,if_neg hs]at e;cases e
theorem lW(hu:X.A.units+64<cLine):OpR X (compareOp .NotEq) (rD X.K neD):=by
 intro pins s σ H x y v u Q I rx ry q;obtain⟨Z,a,b,d,zh,ra,rb,e,k⟩:=q;by_cases hs:xf a=true/\xf b=true
 .rw[neD,if_pos hs]at e
  cases e;obtain⟨as,r1⟩:=ra.reads I zh rx (jY hs.1);obtain⟨bs,r2⟩:=rb.reads I zh ry (jY hs.2);exact ne_dataH r1 r2 hs.1 hs.2 hu ⟨.bl _,H,I,rfl,k _ Z H (New.refl zh) (.bl _)⟩
 .rw[neD,if_neg hs]at e;cases e
theorem Dl{K:Fg}{Z:Hp}{v:V}{d:D}(r:Rep K Z v d):decide (v=.non)=Dm d:=by cases r<;>rfl
theorem Ga:OpR X (compareOp .Is) (rD X.K isD):=
 OpR.imp CV λx y H Q q=>by
  obtain⟨Z,a,b,d,zh,ra,rb,e,k⟩:=q;cases rb<;>simp[isD]at e;subst e;exact⟨rfl,by rw[Dl ra];exact k _ Z H (New.refl zh) (.bl _)⟩
theorem Reps.at{K:Fg}{Z:Hp}{vs:List V}{ds:List D}{i:Int}{d:D}(r:Reps K Z vs ds)(h:lN ds i=some d):∃v,lN vs i=some v/\Rep K Z v d:=by
 unfold lN at h ⊢;rw[r.length];obtain⟨j,e,h⟩:=bind_some h;obtain⟨v,q,rr⟩:=r.get h;exact⟨v,by rw[e];exact q,rr⟩
theorem FG{a b d:D}(h:aD a b=some d):(∃xs,a=.list xs)\/∃xs,a=.tuple xs:=by
 cases a with
 |list i=>exact .inl ⟨_,rfl⟩
 |tuple i=>exact .inr ⟨_,rfl⟩
 |_=>cases h
theorem BI{xs:List D}{b d:D}(h:aD (.list xs) b=some d):∃i,b=.int i/\lN xs i=some d:=by
 cases b with
 |int i=>exact⟨i,rfl,h⟩
 |_=>cases h
theorem aI:IxR X (rD X.K aD):=
 IxR.imp (ix_list.or Dh) λx y H Q q=>by
  obtain⟨Z,a,b,d,zh,ra,rb,e,k⟩:=q;rcases FG e with⟨xs,rfl⟩|⟨xs,rfl⟩
  .obtain⟨i,rfl,e⟩:=BI e
   obtain⟨a,vs,rfl,h1,q1⟩:=ra.lst_ex;cases rb.int_eq;obtain⟨v,ev,rv⟩:=q1.at e;exact .inl ⟨_,_,_,v,rfl,rfl,SqL.same h1 zh,ev,k v Z H (New.refl zh) rv⟩
  .obtain⟨i,rfl,e⟩:=BI (xs:=xs) (b:=b) (by cases b<;>exact e)
   obtain⟨a,vs,rfl,h1,q1⟩:=ra.tup_ex;cases rb.int_eq;obtain⟨v,ev,rv⟩:=q1.at e;exact .inr ⟨_,_,_,v,rfl,rfl,SqT.same h1 zh,ev,k v Z H (New.refl zh) rv⟩
theorem iR:CallR X (.builtin "len") (Cr X.K cw):=
 CallR.imp qQ λxs H Q q=>by
  obtain⟨Z,as,d,zh,ra,e,k⟩:=q;cases ra with
  |nil=>cases e
  |cons r1 r2=>
   cases r2 with
   |cons _ _=>cases r1<;>cases e
   |nil=>
    cases r1 with
    |lst h1 q1=>cases e;exact⟨_,_,rfl,.inl ⟨_,SqL.same h1 zh,rfl⟩,k _ Z H (New.refl zh) (by rw[q1.length];exact .int _)⟩
    |tup h1 q1=>cases e;exact⟨_,_,rfl,.inr ⟨_,SqT.same h1 zh,rfl⟩,k _ Z H (New.refl zh) (by rw[q1.length];exact .int _)⟩
    |_=>cases e
theorem dw:CallR X (.type "tuple") (Cr X.K bi):=
 CallR.imp ma λxs H Q q=>by
  obtain⟨Z,as,d,zh,ra,e,k⟩:=q;cases ra with
  |nil=>cases e
  |cons r1 r2=>
   cases r2 with
   |cons _ _=>cases r1<;>cases e
   |nil=>
    cases r1 with
    |lst h1 q1=>cases e;exact⟨_,_,rfl,.inl ⟨SqL.same h1 zh,λl hl=>let n:=New.add zh hl (.tup _);k _ _ _ n (.tup (SqT.of aC) (q1.same n.z))⟩⟩
    |tup h1 q1=>cases e;exact⟨_,_,rfl,.inr ⟨SqT.same h1 zh,k _ Z H (New.refl zh) (.tup h1 q1)⟩⟩
    |_=>cases e
theorem Ax:Ig X "int.bit_length" (λx xs H Q=>∃i,x=.int i/\xs=[]/\Q (.int (Builtin.Int.intBits i)) H):=by
 intro pins s σ H x xs v us Q I rx rs q;obtain⟨i,rfl,rfl,q⟩:=q;obtain⟨t,rfl⟩:=rx;cases rs;exact call_int_bit_length ⟨.int _,H,I.tok _,⟨_,rfl⟩,q⟩
theorem uP{apos:Pos}(ha:EV X a f)(hbase:attributeBase a "bit_length" X.env (eval a X.env)=eval a X.env:=by rfl)(hline:(apos.endLine==pos.line)=true:=by rfl):EV X (.Call (.Attribute a "bit_length" apos) [] [] pos) (o1 f nc):=
 PE.imp (CL PySem.F.plainAttrs_int PySem.F.slot_int_bit_length PySem.F.type_int_bit_length Ax ha hbase hline) λσ H Q h=>by
  obtain⟨H₀,Z₀,Z,δ,d,hh,e,k⟩:=h;obtain⟨x,e1,e⟩:=bind_some e;refine⟨H₀,Z₀,Z,δ,x,hh,e1,λv Z1 H1 hh1 s1 r1=>?_⟩
  cases r1<;>simp[nc]at e;subst e;exact⟨rfl,_,rfl,rfl,k _ Z1 H1 hh1 s1 (.int _)⟩
end
section
variable{X:Cx}{a b c e tg iter:Expr}{es:List Expr}{pos p:Pos}{f f1 f2 f3:Dv->Option D}{fs:Dv->Option (List D)}{ft fu:Dv->Option Bool}{st:Stmt}{sts body orelse:List Stmt}{s1 s2 s3:Sf}
theorem bq(he:EV X e f):SV X (.Return (some e) pos) (bA f):=
 PS.imp (xp he) λD σ H h=>by
  obtain⟨H₀,Z₀,Z,δ,r,hh,e,k⟩:=h;obtain⟨x,e1,e⟩:=bind_some e;cases e;exact⟨H₀,Z₀,Z,δ,x,hh,e1,λv Z1 H1 hh1 s1 r1=>k σ H1 Z1 hh1 s1 v r1⟩
theorem aG(i:Nat){x:Str}{pos':Pos}(hN:X.N.Nodup)(he:EV X e f)(hi:X.N[i]? = some x:=by rfl)(hx:qY X.env.scope x:=by first|exact Or.inl rfl|exact Or.inr rfl)(hs:swapsWith e (some (.Name x pos')) pos.line X.env=pure false:=by rfl)
  (hf:X.fn x=true\/X.env.scope.names.lookup x=some .local:=by first|exact .inl rfl|exact .inr rfl|assumption):SV X (.Assign [.Name x pos'] e pos) (aE i f):=
 PS.imp (gE hN hi hx he hs hf) λD σ H h=>by
  obtain⟨H₀,Z₀,Z,δ,r,hh,e,k⟩:=h;obtain⟨x,e1,e⟩:=bind_some e;cases e;exact⟨H₀,Z₀,Z,δ,x,hh,e1,λv Z1 H1 hh1 s1 r1=>k _ H1 Z1 (hh1.set r1) s1⟩
theorem Fn{D:Ends}{σ:St}{H:Hp}{K:Fg}(h:Bo K kj D σ H):D.nx σ H:=by
 obtain⟨H₀,Z₀,Z,δ,r,hh,e,k⟩:=h;cases e;exact k σ H Z hh (Same.refl _)
theorem cH:BV X [] kj:=PSs.imp tW λD σ H h=>Fn h
theorem ah(h1:SV X st s1)(h2:BV X sts s2):BV X (st::sts) (aB s1 s2):=
 PSs.imp (pP h1 h2) λD σ H h=>by
  obtain⟨H₀,Z₀,Z,δ,r,hh,e,k⟩:=h;obtain⟨⟨fl,δ'⟩,e1,e⟩:=bind_some e;refine⟨H₀,Z₀,Z,δ,(fl,δ'),hh,e1,λσ' H' Z' hh' s'=>?_⟩
  cases fl with
  |nx=>exact⟨H₀,Z₀,Z',δ',r,hh',e,λσ2 H2 Z2 hh2 s2=>by
    have:=k σ2 H2 Z2 hh2 (s'.trans s2);obtain⟨fl,δ2⟩:=r;cases fl<;>exact this⟩
  |bk=>cases e;exact k σ' H' Z' hh' s'
  |ct=>cases e;exact k σ' H' Z' hh' s'
  |rt d=>cases e;exact k σ' H' Z' hh' s'
theorem aA(h1:SV X st s1):BV X [st] s1:=tU h1
theorem cY(hc:TV X c ft)(ha:BV X body s1)(hb:BV X orelse s2):SV X (.If c body orelse pos) (fm ft s1 s2):=
 PS.imp (Bu hc ha hb) λD σ H h=>by
  obtain⟨H₀,Z₀,Z,δ,r,hh,e,k⟩:=h;obtain⟨x,e1,e⟩:=bind_some e;refine⟨H₀,Z₀,Z,δ,x,hh,e1,λZ1 H1 hh1 t1=>?_⟩
  cases x with
  |true=>exact⟨H₀,Z₀,Z1,δ,r,hh1,e,λσ2 H2 Z2 hh2 t2=>k σ2 H2 Z2 hh2 (t1.trans t2)⟩
  |false=>exact⟨H₀,Z₀,Z1,δ,r,hh1,e,λσ2 H2 Z2 hh2 t2=>k σ2 H2 Z2 hh2 (t1.trans t2)⟩
theorem FU{K:Fg}(i:Nat){D:Ends}{σ:St}{H:Hp}(h:Bo K (λδ=>s1 (qC i δ)) D σ H):Bo K s1 D σ H:=by
 obtain⟨H₀,Z₀,Z,δ,r,hh,e,k⟩:=h;have e:s1 (qC i δ)=some r:=e;unfold qC at e;split at e
 .rename_i ds q
  obtain⟨Z1,t1,hh1⟩:=hh.frz q;exact⟨H₀,Z₀,Z1,_,r,hh1,e,λσ2 H2 Z2 hh2 t2=>k σ2 H2 Z2 hh2 (t1.trans t2)⟩
 .exact⟨H₀,Z₀,Z,_,r,hh,e,k⟩
theorem mn(i:Nat)(h:SV X st s1):SV X st (λδ=>s1 (qC i δ)):=PS.imp h λD σ H q=>FU i q
def IZ(K:Fg)(g:D->Dv->Option Dv):TG:=λv σ H Q=>∃H₀ Z₀ Z δ d δ',Hold K H₀ Z₀ Z δ σ H/\Rep K Z v d/\g d δ = some δ'/\∀ σ' H' Z',Hold K H₀ Z₀ Z' δ' σ' H'->Same Z Z'->Q σ' H'
def GV(X:Cx)(tg:Expr)(g:D->Dv->Option Dv):Prop:=PG X tg (IZ X.K g)
theorem PG.imp{t t':TG}(h:PG X tg t)(i:∀v σ H Q,t' v σ H Q->t v σ H Q):PG X tg t':=λpins s σ H x v Q I r q=>h pins s σ H x v Q I r (i _ _ _ _ q)
theorem bG(i:Nat){x:Str}(hN:X.N.Nodup)(hi:X.N[i]? = some x:=by rfl)(hx:qY X.env.scope x:=by first|exact Or.inl rfl|exact Or.inr rfl)
  (hf:X.fn x=true\/X.env.scope.names.lookup x=some .local:=by first|exact .inl rfl|exact .inr rfl|assumption):GV X (.Name x pos) (gN i):=
 PG.imp (bw hN hi hx hf) λv σ H Q h=>by
  obtain⟨H₀,Z₀,Z,δ,d,δ',hh,r,e,k⟩:=h;cases e;exact k _ H Z (hh.set r) (Same.refl _)
structure ItOk (K:Fg) (Z:Hp) (J:It) (ds:List D):Prop where
 go:∀(i:Nat) (H:Hp),Same Z H->i<ds.length->J.go i H
 yld:∀(i:Nat) (H:Hp) x H' d,Same Z H->ds[i]? = some d->J.yld i H x H'->H'=H/\Rep K Z x d
 stop:∀(i:Nat) (H:Hp),Same Z H->ds.length<=i->J.stop i H
def Gv(K:Fg)(f:Dv->Option (List D)):TI:=λσ H R=>∃H₀ Z₀ Z δ ds,Hold K H₀ Z₀ Z δ σ H/\f δ = some ds/\∀J Z' H',Hold K H₀ Z₀ Z' δ σ H'->Same Z Z'->ItOk K Z' J ds->R J H'
def IV(X:Cx)(tg iter:Expr)(f:Dv->Option (List D)):Prop:=PI X tg iter (Gv X.K f)
theorem PI.imp{t t':TI}(h:PI X tg iter t)(i:∀ σ H R,t' σ H R->t σ H R):PI X tg iter t':=λpins s σ H R I q=>h pins s σ H R I (i _ _ _ q)
theorem cM{g:D->Dv->Option Dv}(hp:PassesOwn (model X.prog X.w) X.A X.env X.xe)(hc:X.calm=true)(hi:IV X tg iter fs)(hg:GV X tg g)(hb:BV X body s1)
  (hs:∀x,foldedSetIterable iter X.env x=pure x:=by intro _;rfl):SV X (.For tg iter body [] pos) (df fs g s1):=
 PS.imp (Cw hp hc hi hg hb hs) λD σ H h=>by
  obtain⟨H₀,Z₀,Z,δ,r,hh,e,k⟩:=h;obtain⟨ds,e1,e⟩:=bind_some e;refine⟨H₀,Z₀,Z,δ,ds,hh,e1,λJ Z1 H1 hh1 t1 ok=>?_⟩
  refine⟨λi m σ H=>m=ds.length-i/\i<=ds.length/\∃Zc δc,Hold X.K H₀ Z₀ Zc δc σ H/\Same Z1 Zc/\loop g s1 (ds.drop i) δc=some r,⟨ds.length,by simp,Nat.zero_le _,Z1,δ,hh1,Same.refl _,e⟩,?_⟩
  rintro i m σ2 H2 ⟨rfl,hi2,Zc,δc,hhc,tc,ec⟩;have zh:Same Z1 H2:=tc.trans hhc.zh;by_cases hlt:i<ds.length
  .refine .inr ⟨ok.go i H2 zh hlt,λσ3 H3=>∃Zc δc,Hold X.K H₀ Z₀ Zc δc σ3 H3/\Same Z1 Zc/\loop g s1 (ds.drop (i+1)) δc=some r,λσ3 H3 q=>⟨ds.length-(i+1),by lia,rfl,hlt,q⟩,λx H3 y=>?_⟩
   have ed:ds[i]? = some ds[i]:=by simp[hlt]
   obtain⟨rfl,rx⟩:=ok.yld i H2 x H3 _ zh ed y;rw[List.drop_eq_getElem_cons hlt]at ec;obtain⟨δ1,g1,ec⟩:=bind_some ec;obtain⟨⟨fl,δ2⟩,g2,ec⟩:=bind_some ec;refine⟨H₀,Z₀,Zc,δc,_,δ1,hhc,rx.same tc,g1,λσ4 H4 Z4 hh4 t4=>⟨H₀,Z₀,Z4,δ1,(fl,δ2),hh4,g2,λσ5 H5 Z5 hh5 t5=>?_⟩⟩
   cases fl with
   |nx=>exact⟨Z5,δ2,hh5,(tc.trans t4).trans t5,ec⟩
   |ct=>exact⟨Z5,δ2,hh5,(tc.trans t4).trans t5,ec⟩
   |bk=>cases ec;exact k σ5 H5 Z5 hh5 (((t1.trans tc).trans t4).trans t5)
   |rt d=>cases ec;exact k σ5 H5 Z5 hh5 (((t1.trans tc).trans t4).trans t5)
  .have e2:ds.drop i=[]:=List.drop_eq_nil_iff.mpr (by lia)
   rw[e2]at ec;cases ec;exact .inl ⟨ok.stop i H2 zh (by lia),k σ2 H2 Zc hhc (t1.trans tc)⟩
theorem yj{K:Fg}{Z:Hp}{lo:Int}{n:Nat}:ItOk K Z (Ep lo n) (vC lo n) where
 go:=λi H _ h=>by simpa[vC,Ep]using h
 yld:=λi H x H' d _ e y=>by
  obtain⟨rfl,rfl⟩:=y;refine⟨rfl,?_⟩;unfold vC at e;rw[List.getElem?_map]at e;cases q:(List.range n)[i]? with
  |none=>rw[q]at e;cases e
  |some k=>
   rw[q]at e;cases e;have:k=i:=by
    obtain⟨h,h2⟩:=List.getElem?_eq_some_iff.mp q;simpa using h2.symm
   subst this;exact .int _
 stop:=λi H _ h=>by simpa[vC,Ep]using h
theorem jc(hg:Gl X "range")(hm:X.mg "range" = none)(ha:AV X [a] fs)(hs:starEach [a] X.env=[(false,eval a X.env)]:=by rfl):IV X tg (.Call (.Name "range" p) [a] [] pos) (oL fs fg):=
 PI.imp (vI hg hm ha hs) λσ H R h=>by
  obtain⟨H₀,Z₀,Z,δ,ds,hh,e,k⟩:=h;obtain⟨as,e1,e⟩:=bind_some e;refine⟨H₀,Z₀,Z,δ,as,hh,e1,λvs Z1 H1 hh1 t1 r1=>?_⟩
  unfold fg at e;split at e
  .rename_i j
   split at e
   .rename_i hj
    cases e;cases r1 with
    |cons q1 q2=>
     cases q2;exact⟨j,by rw[q1.int_eq],hj.2,hj.1,k _ Z1 H1 hh1 t1 yj⟩
   .cases e
  .cases e
theorem AH(ha:EV X a f):IV X tg a (oI f xU):=
 PI.imp (Af ha) λσ H R h=>by
  obtain⟨H₀,Z₀,Z,δ,ds,hh,e,k⟩:=h;obtain⟨y,e1,e⟩:=bind_some e;refine⟨H₀,Z₀,Z,δ,y,hh,e1,λv Z1 H1 hh1 t1 r1=>?_⟩
  cases r1 with
  | @lst l xs ds' h1 q1=>
   cases e;refine⟨l,rfl,⟨xs,SqL.same h1 hh1.zh⟩,k _ Z1 H1 hh1 t1 ⟨λi H2 z hi=>?_,λi H2 x H3 d z ed y=>?_,λi H2 z hi=>⟨xs,SqL.same h1 z,by rw[q1.length];exact hi⟩⟩⟩
   .have hi':i<xs.length:=by rw[q1.length];exact hi
    exact⟨xs,xs[i],SqL.same h1 z,by simp[hi']⟩
   .obtain⟨rfl,y⟩:=y
    obtain⟨v,ev,rv⟩:=q1.get ed;have:=y xs (SqL.same h1 z);rw[ev]at this;cases this;exact⟨rfl,rv⟩
  |_=>cases e
theorem Di(ha:EV X a f):IV X tg a (oI f G1):=
 PI.imp (CC ha) λσ H R h=>by
  obtain⟨H₀,Z₀,Z,δ,ds,hh,e,k⟩:=h;obtain⟨y,e1,e⟩:=bind_some e;refine⟨H₀,Z₀,Z,δ,y,hh,e1,λv Z1 H1 hh1 t1 r1=>?_⟩
  cases r1 with
  | @tup l xs ds' h1 q1=>
   cases e;refine⟨l,rfl,⟨xs,SqT.same h1 hh1.zh⟩,k _ Z1 H1 hh1 t1 ⟨λi H2 z hi=>?_,λi H2 x H3 d z ed y=>?_,λi H2 z hi=>⟨xs,SqT.same h1 z,by rw[q1.length];exact hi⟩⟩⟩
   .have hi':i<xs.length:=by rw[q1.length];exact hi
    exact⟨xs,xs[i],SqT.same h1 z,by simp[hi']⟩
   .obtain⟨rfl,y⟩:=y
    obtain⟨v,ev,rv⟩:=q1.get ed;have:=y xs (SqT.same h1 z);rw[ev]at this;cases this;exact⟨rfl,rv⟩
  |_=>cases e
end
section
variable{X:Cx}{e:Expr}{lo hi:Option Expr}{p2 pos:Pos}{f:Dv->Option D}
noncomputable def IY(K:Fg)(f:Dv->Option (Option Int)):TO:=λσ H Q=>∃H₀ Z₀ Z δ d,Hold K H₀ Z₀ Z δ σ H/\f δ = some d/\∀Z' H',Hold K H₀ Z₀ Z' δ σ H'->Same Z Z'->Q d H'
def OV(X:Cx)(e:Option Expr)(f:Dv->Option (Option Int)):Prop:=PO X e (IY X.K f)
theorem PO.imp{eo:Option Expr}{t t':TO}(h:PO X eo t)(i:∀ σ H Q,t' σ H Q->t σ H Q):PO X eo t':=λpins s σ H Q I q=>h pins s σ H Q I (i _ _ _ q)
theorem ip:OV X none zp:=PO.imp Ae λσ H Q h=>by
 obtain⟨H₀,Z₀,Z,δ,d,hh,e,k⟩:=h;cases e;exact k Z H hh (Same.refl _)
theorem io(h:EV X e f):OV X (some e) (oP f):=PO.imp (Ad h) λσ H Q h=>by
 obtain⟨H₀,Z₀,Z,δ,d,hh,e,k⟩:=h;obtain⟨x,e1,e⟩:=bind_some e;refine⟨H₀,Z₀,Z,δ,x,hh,e1,λv Z1 H1 hh1 t1 r1=>?_⟩
 cases r1<;>simp[asI]at e;subst e;exact⟨_,rfl,k Z1 H1 hh1 t1⟩
theorem Reps.cut{K:Fg}{Z:Hp}{vs:List V}{ds:List D}(r:Reps K Z vs ds)(lo hi:Option Int):Reps K Z (lX vs lo hi) (lY ds lo hi):=by
 unfold lX lY;rw[r.length];exact(r.drop _).take _
theorem sJ{ds:List D}{lo hi:Option Int}(h1:HT.sIx ds.length 0 lo=0)(h2:HT.sIx ds.length ds.length hi=ds.length):lY ds lo hi=ds:=by
 unfold lY;rw[h1,h2];simp
section
variable{prog:Program}{w:World}{A:Around}{E:Value->Shared->Prop}{s:Shared}
theorem nC{t sl:Addr}{items:Array Value}{vl vu:Value}{lo hi:Option Int}{Q:Value->Shared->Prop}(ht:IsTup s.heap t items)(hs:s.heap.IsSliceOf sl vl vu .none)(pl:IsPart vl lo)(pu:IsPart vu hi)
  (h1:HT.sIx items.size 0 lo=0) (h2:HT.sIx items.size items.size hi=items.size) (h:Q (.ref t) s):wpAny (model prog w) A (getItem (.ref t) (.ref sl)) Q E s:=by
 obtain⟨osl,hos,hcs,hds⟩:=id hs;have ty:s.TypeIs (.ref sl) "slice":=⟨osl,hos,hcs⟩;unfold getItem
 try with_reducible refine wpAny_holding ?_
 first|refine wpAny_bind (wpAny_pure ?_)|skip
 refine wpAny_bind (wpAny_sequenceKey ht.typeIs (by decide) ?_);refine wpAny_bind (wpAny_callSpecial?_slot (name:=Str.ofString "__getitem__") ht.typeIs PyProof.Rows.slot_tuple_getitem
  (wpAny_call_entry PyProof.Rows.slot_tuple_getitem ht.typeIs PyProof.Rows.entry_tuple_getitem ?_ (PyProof.Rows.args_tuple_getitem _ _)))
 show wpAny _ _ (Builtin.Tuple.tupleItemsOf (.ref t) >>= _) _ _ s;refine wpAny_bind (tupleItemsOf_ ht ?_);refine wpAny_bind (wpAny_typeOf ty ?_);rw[if_pos (by decide)];refine wpAny_bind (HT.d7 hs pl pu ?_);have yes:(((((HT.sIx items.size 0 lo:Nat):Int)==0)&&((1:Int)==1))&&((HT.sIx items.size items.size hi-HT.sIx items.size 0 lo)==items.size))=true:=by
  rw[h1,h2];simp
 show wpAny _ _ (if(((((HT.sIx items.size 0 lo:Nat):Int)==0)&&((1:Int)==1))&&((HT.sIx items.size items.size hi-HT.sIx items.size 0 lo)==items.size))=true then _ else _) _ _ s;rw[if_pos yes];unfold Builtin.Tuple.tupleIsExact;refine wpAny_bind (wpAny_bind (wpAny_typeOf ht.typeIs (wpAny_pure ?_)));rw[if_pos (by decide)];exact wpAny_bind (wpAny_rule (wpAny_pure ⟨_,rfl,wpAny_pure h⟩))
end
def Hq(K:PySem.W.Frag):V->Option Int->Option Int->Hp->VK->Prop:=λx lo hi H Q=>∃a xs,x=.ref a/\SqT K H a xs/\HT.sIx xs.length 0 lo=0/\HT.sIx xs.length xs.length hi=xs.length/\Q (.ref a) H
theorem zO:SlR X (Hq X.K):=by
 intro pins s σ H x v vl vu lo hi sl Q I rx hs pl pu h;obtain⟨a,xs,rfl,hx,w1,w2,q⟩:=h;cases rx;obtain⟨its,r,ht,hz⟩:=I.tuple hx;have hlen:its.toArray.size=xs.length:=by rw[List.size_toArray];exact r.length.symm
 refine⟨"tuple",_,PyProof.Rows.slot_tuple_getitem.lookup,ht.typeIs,?_⟩;exact nC ht hs pl pu (by rw[hlen];exact w1) (by rw[hlen];exact w2) ⟨.ref a,H,I,rfl,q⟩
theorem fR{fl fu:Dv->Option (Option Int)}(he:EV X e f)(hl:OV X lo fl)(hu:OV X hi fu):EV X (.Subscript e (.Slice lo hi none p2) pos) (zo f fl fu):=
 PE.imp (xx (sl_list.or (sl_tup.or zO)) he hl hu) λσ H Q h=>by
  obtain⟨H₀,Z₀,Z,δ,d,hh,e,k⟩:=h;obtain⟨x,e1,e⟩:=bind_some e;obtain⟨i,e2,e⟩:=bind_some e;obtain⟨j,e3,e⟩:=bind_some e;refine⟨H₀,Z₀,Z,δ,x,hh,e1,λv Z1 H1 hh1 t1 r1=>⟨H₀,Z₀,Z1,δ,i,hh1,e2,λZ2 H2 hh2 t2=>⟨H₀,Z₀,Z2,δ,j,hh2,e3,λZ3 H3 hh3 t3=>?_⟩⟩⟩
  have r3:=(r1.same t2).same t3;have tt:=(t1.trans t2).trans t3;cases r3 with
  | @lst a xs ds h1 q1=>
   cases e;refine .inl ⟨_,_,rfl,SqL.same h1 hh3.zh,λp hp=>?_⟩
   have n:=New.add hh3.zh hp (.lst (lX xs i j));exact k _ _ _ (hh3.new n) (tt.trans n.z) (.lst (SqL.of aC) ((q1.cut i j).same n.z))
  | @tup a xs ds h1 q1=>
   simp only[Bq]at e;cases e;by_cases hw:HT.sIx ds.length 0 i=0/\HT.sIx ds.length ds.length j=ds.length
   .refine .inr (.inr ⟨_,_,rfl,SqT.same h1 hh3.zh,by rw[q1.length];exact hw.1,by rw[q1.length];exact hw.2,?_⟩)
    refine k _ _ _ hh3 tt ?_;rw[sJ hw.1 hw.2];exact .tup h1 q1
   .refine .inr (.inl ⟨_,_,rfl,SqT.same h1 hh3.zh,by rw[q1.length];exact hw,λp hp=>?_⟩)
    have n:=New.add hh3.zh hp (.tup (lX xs i j));exact k _ _ _ (hh3.new n) (tt.trans n.z) (.tup (SqT.of aC) ((q1.cut i j).same n.z))
  |_=>cases e
end
structure FunV (K:PySem.W.Frag) (x qual:Str) (st:Stmt) (f:Addr) (fd:FuncData) (dV:Value):Prop where
 ex:∃(oc:Value) (od:Option Addr) (kV doc pm:Value) (an:Option Addr) (cdv ct:Value) (osl:Array (Option Value)),
  fd=PySem.W.fnOf x qual (dU st) (ca st) (ap st) dV kV doc pm an cdv ct/\K.lookup f=some ⟨oc,od,.func fd,osl⟩/\PySem.W.codeIn K cdv qual=true
 kp:PySem.W.keepIn K (.ref f)=true
section
variable{P:Program}{w:World}{K:PySem.W.Frag}{mg:Str->Option Value}{base:Heap}
theorem vo{N:List Str}{vs:List V}{as:List D}{Z:Hp}(r:Reps K Z vs as):∀(i:Nat) d,(aV N as)[i]? = some (.fz d)->∃v,(dj N vs)[i]? = some (some v)/\Rep K Z v d:=by
 intro i d e;unfold aV at e;unfold L2.dj;by_cases hi:i<as.length
 .rw[List.getElem?_append_left (by simpa using hi),List.getElem?_map]at e
  cases q:as[i]? with
  |none=>rw[q]at e;cases e
  |some d'=>
   rw[q]at e;cases e;obtain⟨v,ev,rv⟩:=r.get q;exact⟨v,by rw[List.getElem?_append_left (by simpa[r.length]using hi),List.getElem?_map,ev];rfl,rv⟩
 .rw[List.getElem?_append_right (by simpa using hi),List.getElem?_replicate]at e
  split at e<;>cases e
theorem mq{N:List Str}{as:List D}:∀(i:Nat) ds,(aV N as)[i]?≠some (.own ds):=by
 intro i ds e;unfold aV at e;by_cases hi:i<as.length
 .rw[List.getElem?_append_left (by simpa using hi),List.getElem?_map]at e
  cases q:as[i]? with
  |none=>rw[q]at e;cases e
  |some d'=>rw[q]at e;cases e
 .rw[List.getElem?_append_right (by simpa using hi),List.getElem?_replicate]at e
  split at e<;>cases e
theorem wS{N:List Str}{as:List D}:∀(i:Nat) ds,(aV N as)[i]?≠some (.fr ds):=by
 intro i ds e;unfold aV at e;by_cases hi:i<as.length
 .rw[List.getElem?_append_left (by simpa using hi),List.getElem?_map]at e
  cases q:as[i]? with
  |none=>rw[q]at e;cases e
  |some d'=>rw[q]at e;cases e
 .rw[List.getElem?_append_right (by simpa using hi),List.getElem?_replicate]at e
  split at e<;>cases e
theorem eU{N:List Str}{vs:List V}{as:List D}{Z H:Hp}(zh:Same Z H)(r:Reps K Z vs as):Hold K H Z Z (aV N as) (dj N vs) H:=
 ⟨zh,Same.refl _,Same.refl _,λ_ _=>rfl,by simp[aV,L2.dj,r.length],vo r,λi ds e=>absurd e (mq i ds),λi j ds es a _ e=>absurd e (mq i ds),λi ds e=>absurd e (wS i ds),NoF.refl _⟩
theorem HX{x qual:Str}{st:Stmt}{f:Addr}{fd:FuncData}{dV:Value}{N ps:List Str}{k:Nat}{g:List D->Option D}{b:Sf}(F:FunV K x qual st f fd dV)(S:FnScope N ps (ap st))(len:∀as d,g as=some d->as.length=ps.length)
  (hb:∀(cdv:Value) (A:Around) (outer:List Env) (s:Shared) (H:Hp) (E:XK),Room k (A.deeper (envOfC qual (ap st) s.heap.objs.size f cdv))->BV (lq dM P w K mg base N qual (ap st) f cdv A outer s H E).nox (ca st) b)
  (hg:∀as d,g as=some d->∃ δ',b (aV N as)=some (.rt d,δ')\/(d=.none/\b (aV N as)=some (.nx,δ'))):FnOk P w K mg base dM (k+1) f fd ps (h7 K g):=by
 obtain⟨oc,od,kV,doc,pm,an,cdv,ct,osl,rfl,lk,hcd⟩:=F.ex;refine yF lk hcd S (λvs H Q E h=>?_) λA outer s H vs Q E hr hsp=>?_
 .obtain⟨Z,as,d,zh,r,e,_⟩:=h
  rw[r.length];exact len as d e
 .refine⟨_,PSs.nox (hb cdv A outer s H E hr),?_⟩
  obtain⟨Z,as,d,zh,r,e,kk⟩:=hsp;have hh:=eU (N:=N) zh r;have fin:∀{σ':St} {H' Z':Hp} {δ':Dv},Hold K H Z Z' δ' σ' H'->Same Z Z'->New Z H Z' H':=λh' z'=>⟨z',h'.h0,h'.zh,h'.zb,h'.nf⟩
  obtain⟨δ',e2|⟨rfl,e2⟩⟩:=hg as d e
  .exact⟨H,Z,Z,_,_,hh,e2,λσ' H' Z' h' z' v rv=>kk v Z' H' (fin h' z') rv⟩
  .exact⟨H,Z,Z,_,_,hh,e2,λσ' H' Z' h' z'=>kk _ Z' H' (fin h' z') .non⟩
theorem FunV.binds{x qual:Str}{st:Stmt}{f:Addr}{fd:FuncData}{ps:List Str}(F:FunV K x qual st f fd .none)
  (h:∀(kV doc pm:Value) (an:Option Addr) (cdv ct:Value) (us:List Value),us.length=ps.length->bindArgs (PySem.W.fnOf x qual (dU st) (ca st) (ap st) .none kV doc pm an cdv ct) ⟨us,[]⟩=pure (ps.zip us)):Binds K fd ps []:=by
 obtain⟨oc,od,kV,doc,pm,an,cdv,ct,osl,rfl,lk,hcd⟩:=F.ex;exact .all (h kV doc pm an cdv ct)
theorem uF{x qual:Str}{st:Stmt}{f:Addr}{dV oc:Value}{od an:Option Addr}{osl:Array (Option Value)}{kV doc pm cdv ct:Value}(l:K.lookup f=some ⟨oc,od,.func (PySem.W.fnOf x qual (dU st) (ca st) (ap st) dV kV doc pm an cdv ct),osl⟩)
  (c:PySem.W.codeIn K cdv qual=true) (k:PySem.W.keepIn K (.ref f)=true):FunV K x qual st f (PySem.W.fnOf x qual (dU st) (ca st) (ap st) dV kV doc pm an cdv ct) dV:=⟨⟨oc,od,kV,doc,pm,an,cdv,ct,osl,rfl,l,c⟩,k⟩
def pF(K:PySem.W.Frag):Sp:=λvs H Q _=>∃(a:Addr) (ns:List Int),vs=[.ref a]/\SqL K H a (ns.map V.int)/\ns.length<=63/\∀H',Q (.bl true) H'
theorem FC{g:List D->Option D}{k:Nat}{f:Addr}{fd:FuncData}(F:FnOk P w K mg base dM k f fd ["script"] (h7 K g))(hg:∀ns:List Int,ns.length<=63->g [.list (ns.map .int)]=some (.bool true)):FnOk P w K mg base dM k f fd ["script"] (pF K):=
 F.imp λvs H Q E h=>by
  obtain⟨a,ns,rfl,hS,hl,q⟩:=h;exact⟨H,[.list (ns.map .int)],.bool true,Same.refl _,.cons (.lst hS (Reps.ints ns)) .nil,hg ns hl,λv Z' H' _ r=>by cases r;exact q H'⟩
end
theorem Ev{k:Nat}{l:PySem.W.OpenLaw}{q:Program}{loose:List Str}{XP:(Str->Option Value)->Heap->Prop}{YP:World->Heap->Prop}{d:DefRec}{K:Params->PySem.W.Frag}(hn:l.most=some 63)(hr:Room k callerA)(hdf:d.params.defaults=[])
  (hY:∀(w:World) (h:Heap),YP w h->(K w.params).In h)
  (F:∀(w:World) (mg:Str->Option Value) (fa:Addr) (h:Heap),(K w.params).In h->h.Ns mainGlobals mg->mg d.name=some (.ref fa)->
   ∃fd:FuncData,(∀(s:Shared) (u:Value),BindsTo s fd ⟨[u],[]⟩ [("script",u)])/\∀base:Heap,(K w.params).In base->base.Ns mainGlobals mg->FnOk l.prog w (K w.params) mg base dM k fa fd ["script"] (pF (K w.params)))
  (hTd:∀(w:World),∀x∈lamDefs,PySem.W.tabIn (K w.params) x=none\/∃d',(recsOf q).find? (λe=>e.name==x)=some d') (hTn:∀(w:World),∀P∈cj (K w.params),(K w.params).lookup P=none):
  PySem.W.WalkO q loose XP YP l.row.toRowW d [] (λf vs=>PySem.call f vs):=
 L2.zA (n:=63) (k:=k) (x:="script") (CX:=λ_=>dM) (sp:=λw=>pF (K w.params)) hn (by decide) hdf hr hY F (λ_ _ a ns hl _ hS=>⟨a,ns,rfl,hS,hl,λ_=>rfl⟩) (λ_ _ _ _ _ z=>z) hTd hTn
section
variable{P:Program}{w:World}{K:PySem.W.Frag}{mg:Str->Option Value}{base:Heap}
theorem gM{x qual:Str}{st:Stmt}{f:Addr}{fd:FuncData}{dV:Value}{N ps:List Str}{k:Nat}{b:Sf}(F:FunV K x qual st f fd dV)(S:FnScope N ps (ap st))
  (hb:∀(cdv:Value) (A:Around) (outer:List Env) (s:Shared) (H:Hp) (E:XK),Room k (A.deeper (envOfC qual (ap st) s.heap.objs.size f cdv))->BV (lq dM P w K mg base N qual (ap st) f cdv A outer s H E).nox (ca st) b):
  FnOk P w K mg base dM (k+1) f fd ps (h7 K (cc N ps.length b)):=by
 refine HX F S (λas d h=>?_) hb λas d h=>?_
 .unfold cc at h
  split at h
  .assumption
  .cases h
 .unfold cc at h
  split at h
  .obtain⟨⟨fl,δ'⟩,e,h⟩:=bind_some h
   cases fl with
   |nx=>cases h;exact⟨δ',.inr ⟨rfl,e⟩⟩
   |rt d=>cases h;exact⟨δ',.inl e⟩
   |bk=>cases h
   |ct=>cases h
  .cases h
structure Cal (P:Program) (w:World) (K:PySem.W.Frag) (mg:Str->Option Value) (base:Heap) (x:Str) (k:Nat) (g:List D->Option D) (dd:List D):Prop where
 ex:∃(fa:Addr) (fd:FuncData) (ps:List Str) (ds:List Value) (dv:List V),FnOk P w K mg base dM k fa fd ps (h7 K g)/\mg x=some (.ref fa)/\PySem.W.keepIn K (.ref fa)=true/\Binds K fd ps ds/\Vals dv ds/\∀Z,Reps K Z dv dd
theorem Cal.mk0{x:Str}{k:Nat}{g:List D->Option D}{fa:Addr}{fd:FuncData}{ps:List Str}(F:FnOk P w K mg base dM k fa fd ps (h7 K g))(hm:mg x=some (.ref fa))(hk:PySem.W.keepIn K (.ref fa)=true)(hb:Binds K fd ps []):Cal P w K mg base x k g []:=
 ⟨⟨fa,fd,ps,[],[],F,hm,hk,hb,.nil,λ_=>.nil⟩⟩
end
section
variable{X:Cx}{e:Expr}{es:List Expr}{p pos:Pos}{fs:Dv->Option (List D)}
theorem Dz{k:Nat}{x:Str}{g:List D->Option D}{dd:List D}(C:Cal X.prog X.w X.K X.mg X.base x k g dd)(hr:Room k X.A)(hg:Gl X x)(ha:AV X (e::es) fs)(hdb:(x==("__debug__":Str))=false:=by decide)(he:starEach (e::es) X.env=(false,eval e X.env)::starEach es X.env:=by rfl)
  (hpl:(backTo pos (starEach es X.env)).any (·.1)=false:=by rfl):EV X (.Call (.Name x p) (e::es) [] pos) (os fs λas=>g (as++dd)):=by
 obtain⟨fa,fd,ps,ds,dv,F,hm,hk,hb,hd,hdd⟩:=C.ex;exact AR F hr hg hm hk hb hd hdd ub ha hdb he hpl
variable{tg a:Expr}{f:Dv->Option D}
theorem bf(ha:EV X a f):IV X tg a (oI f aY):=by
 intro pins s σ H R I h;obtain⟨H₀,Z₀,Z,δ,ds,hh,e,k⟩:=h;obtain⟨y,e1,e⟩:=bind_some e;cases y with
 |list xs=>exact AH ha pins s σ H R I ⟨H₀,Z₀,Z,δ,ds,hh,by unfold oI;rw[e1];exact e,k⟩
 |tuple xs=>exact Di ha pins s σ H R I ⟨H₀,Z₀,Z,δ,ds,hh,by unfold oI;rw[e1];exact e,k⟩
 |_=>cases e
end
noncomputable def gQ(env:Env):List (Str×NameKind)->List (Str×Addr)->List (Str×Addr)
 |[],cs=>cs
 | (n,k)::r,cs=>if k == .free then gQ env r ((n,(env.cells.lookup n).getD 0)::cs)else gQ env r cs
theorem kZ{env:Env}:∀(l:List (Str×NameKind)) (cs:List (Str×Addr)),(∀y∈l,y.2=.free->∃c,env.cells.lookup y.1=some c)->
  (forIn l cs λ(x:Str×NameKind) (r:List (Str×Addr))=>(if(x.2==NameKind.free)=true then do let c <-cellOf env x.1;pure (ForInStep.yield ((x.1,c)::r))else pure (ForInStep.yield r):Sem (ForInStep (List (Str×Addr)))))=pure (gQ env l cs)
 |[],cs,_=>rfl
 | (n,k)::r,cs,h=>by
  have ih:=λcs'=>kZ r cs' λy hy=>h y (List.mem_cons_of_mem _ hy)
  rw[List.forIn_cons];cases hk:k==NameKind.free with
  |true=>
   have hk':k=.free:=by simpa using hk
   obtain⟨c,ec⟩:=h (n,k) List.mem_cons_self hk';have e1:cellOf env n=pure c:=by unfold cellOf;rw[ec]
   simp only[hk,if_true,e1,pure_bind,gQ,ec,Option.getD_some];exact ih _
  |false=>
   simp only[hk,Bool.false_eq_true,if_false,pure_bind,gQ];exact ih _
theorem cW{scope:Scope}{env:Env}(h:∀y∈scope.names,y.2=.free->∃c,env.cells.lookup y.1=some c):closureFor scope env=pure (gQ env scope.names []):=by
 simp only[closureFor];have:=kZ (env:=env) scope.names [] h
 first
  | (rw[this];rfl)
  | (simp only[this];rfl)
  | (unfold closureFor;simp_all)
theorem bc{env:Env}:∀(l:List (Str×NameKind)) (cs:List (Str×Addr)) (y:Str) (c:Addr),(∀z∈l,z.2=.free->∃c,env.cells.lookup z.1=some c)->(gQ env l cs).lookup y=some c->cs.lookup y=some c\/env.cells.lookup y=some c
 |[],cs,y,c,_,e=>.inl e
 | (n,k)::r,cs,y,c,h,e=>by
  unfold gQ at e;have hr:=λz hz=>h z (List.mem_cons_of_mem _ hz)
  split at e
  .rename_i hk
   rcases bc r _ y c hr e with q|q
   .rw[List.lookup_cons]at q
    cases hy:y==n with
    |true=>
     have hy':y=n:=by simpa using hy
     subst hy';rw[hy]at q;obtain⟨c',ec⟩:=h (y,k) List.mem_cons_self (by simpa using hk);simp only[ec,Option.getD_some]at q;cases q;exact .inr ec
    |false=>rw[hy]at q;exact .inl q
   .exact .inr q
  .exact bc r cs y c hr e
theorem iQ{env:Env}:∀(l:List (Str×NameKind)) (cs:List (Str×Addr)) (y:Str),((y,NameKind.free)∈l\/(cs.lookup y).isSome=true)->((gQ env l cs).lookup y).isSome=true
 |[],cs,y,h=>by
  rcases h with h|h
  .cases h
  .exact h
 | (n,k)::r,cs,y,h=>by
  unfold gQ;split
  .rename_i hk
   refine iQ r _ y ?_;rcases h with h|h
   .rcases List.mem_cons.mp h with e|e
    .cases e;exact .inr (by simp[List.lookup_cons])
    .exact .inl e
   .refine .inr ?_
    rw[List.lookup_cons];cases hy:y==n with
    |true=>rfl
    |false=>exact h
  .rename_i hk
   refine iQ r cs y ?_;rcases h with h|h
   .rcases List.mem_cons.mp h with e|e
    .cases e;exact absurd rfl hk
    .exact .inl e
   .exact .inr h
theorem dB{env:Env}{y:Str}:∀(l:List (Str×NameKind)),(∀z∈l,z.2≠.cell)->
  (((l.map λ(n,k)=>if(k==NameKind.free&&env.scope.kind == .function&&env.kindOf n==some .cell)then(n,NameKind.cell)else(n,k)).lookup y=some .cell\/(l.map λ(n,k)=>if(k==NameKind.free&&env.scope.kind == .function&&env.kindOf n==some .cell)then(n,NameKind.cell)else(n,k)).lookup y=some .free)↔l.lookup y=some .free)
 |[],_=>by simp
 | (n,k)::r,h=>by
  have ih:=dB (env:=env) (y:=y) r λz hz=>h z (List.mem_cons_of_mem _ hz)
  have hk:k≠.cell:=h (n,k) List.mem_cons_self;rw[List.map_cons];cases hy:y==n with
  |true=>
   by_cases hc:(k==NameKind.free&&env.scope.kind == .function&&env.kindOf n==some .cell)=true
   .have hf:k=.free:=by
     simp only[Bool.and_eq_true]at hc;simpa using hc.1.1
    simp only[if_pos hc,List.lookup_cons,hy];simp[hf]
   .simp only[if_neg hc,List.lookup_cons,hy]
    simp[hk]
  |false=>
   by_cases hc:(k==NameKind.free&&env.scope.kind == .function&&env.kindOf n==some .cell)=true
   .simp only[if_pos hc,List.lookup_cons,hy];exact ih
   .simp only[if_neg hc,List.lookup_cons,hy];exact ih
noncomputable def cb(X:Cx)(scope:Scope)(N:List Str)(C:Addr)(s₀:Shared)(H₀:Hp)(ex:List Addr):Cx:=
 {X with N:=N,s₀:=s₀,H₀:=H₀,env:=compEnvC scope (gQ X.env scope.names []) C X.env,outer:=X.stack,stack:=X.stack,ex:=ex,fn:=λ_=>false,pn:=[],xe:=λ_ _=>False}
structure BlkOk (on:List (Str×NameKind)) (ON:List Str) (scope:Scope) (vars:List Str) (caps:List (Nat×Str)):Prop where
 kind:scope.kind=.function
 cell:∀y∈scope.names,y.2≠.cell
 names:∀y∈scope.names,y.2=.local->scope.names.lookup y.1=some .local
 free:∀y∈scope.names,y.2=.free->on.lookup y.1=some .cell\/on.lookup y.1=some .free
 cap:∀p∈caps,ON[p.1]? = some p.2/\scope.names.lookup p.2=some .free
section
variable{X:Cx}{pins:List (Addr×Obj)}{σ:St}{H H':Hp}{s s':Shared}{scope:Scope}{vars:List Str}{caps:List (Nat×Str)}{fp:List Addr}{C:Addr}
noncomputable def dP(σ:St)(caps:List (Nat×Str)):St:=caps.map λp=>(σ[p.1]?).getD none
theorem BlkOk.cells(B:BlkOk X.env.scope.names X.N scope vars caps)(I:Inv X pins σ H s):∀y∈scope.names,y.2=.free->∃c,X.env.cells.lookup y.1=some c:=λy hy e=>I.ok.has y.1 (B.free y hy e)
theorem sS(B:BlkOk X.env.scope.names X.N scope vars caps)(I:Inv X pins σ H s)(hf:∀b∈fp,gW X pins H b)(hlt:∀b∈fp,b<s.heap.objs.size)(hC:s.heap.objs.size<=C):(cb X scope (vars++caps.map (·.2)) C s H fp).Ok where
 mod:=I.ok.mod
 kind:=B.kind
 glob:=I.ok.glob
 blt:=I.ok.blt
 above:=hC
 inj:=λx y c e1 e2=>by
  rcases bc _ _ _ _ (B.cells I) e1 with q1|q1
  .cases q1
  .rcases bc _ _ _ _ (B.cells I) e2 with q2|q2
   .cases q2
   .exact I.ok.inj x y c q1 q2
 has:=λx e=>by
  have:scope.names.lookup x=some .free:=(dB scope.names B.cell).mp e;have:=iQ (env:=X.env) scope.names [] x (.inl (PySem.mem_of_lookup this));exact Option.isSome_iff_exists.mp this
 cab:=λx c e=>nomatch e
 hd:=I.ok.hd
 frames:=I.ok.frames
 stk:=.inl rfl
 exf:=λb hb=>⟨Nat.ne_of_lt (Nat.lt_of_lt_of_le (hlt b hb) hC),λx c e=>by
  rcases bc _ _ _ _ (B.cells I) e with q|q
  .cases q
  .exact(hf b hb).2.2.2.2.1 x c q⟩
 tb:=I.tb
 bs:=I.bs
 bsz:=Nat.le_trans I.ok.bsz I.sz
 noex:=λb o e hb=>by
  rcases (hf b hb).2.2.2.1 with z|z
  .exact I.ok.noex b o e z
  .exact absurd (Nat.lt_of_lt_of_le (Heap.lt_size e) (Nat.le_trans I.ok.bsz z)) (Nat.lt_irrefl _)
 exfs:=λb hb z=>by
  rcases List.mem_cons.mp (I.stkSub b z)with q|q
  .exact(hf b hb).2.1 q
  .exact(hf b hb).2.2.1 q
 funs:=I.stack
 frf:=I.stkFree
theorem u9(B:BlkOk X.env.scope.names X.N scope vars caps)(I:Inv X pins σ H s)(hf:∀b∈fp,gW X pins H b)(hlt:∀b∈fp,b<s.heap.objs.size)(hC:s.heap.objs.size<=C){h₁:Heap}{m:Str->Option Value}{tk:Nat}(hns:h₁.Ns C m)(old:∀b o,s.heap.get? b=some o->h₁.get? b=some o):
  Inv (cb X scope (vars++caps.map (·.2)) C s H fp) [] (vars.map (λ_=>none)++dP σ caps) H {s with heap:=h₁,toks:=tk}:=by
 refine⟨sS B I hf hlt hC,rfl,I.bare,Un.kept old,⟨m,hns,λi x v e1 e2 e3=>?_⟩,λx c e=>?_,I.hok.fresh hC,λx c e=>?_,λp hp=>absurd (show p∈([]:List (Addr×Obj))from hp) (by simp),I.hok.kept old,?_⟩
 .have e1:(vars++caps.map (·.2))[i]? = some x:=e1
  by_cases hi:i<vars.length
  .rw[List.getElem?_append_left (by simpa using hi),List.getElem?_map]at e2
   cases q:vars[i]?<;>rw[q]at e2<;>cases e2
  .rw[List.getElem?_append_right (by simpa using hi)]at e1 e2
   simp only[List.length_map]at e2;unfold dP at e2;rw[List.getElem?_map]at e1 e2;cases q:caps[i-vars.length]? with
   |none=>rw[q]at e1;cases e1
   |some p=>
    rw[q]at e1 e2;cases e1;have hp:=List.mem_of_getElem? q;obtain⟨g1,g2⟩:=B.cap p hp;have gf:X.env.scope.names.lookup p.2=some .cell\/X.env.scope.names.lookup p.2=some .free:=B.free (p.2,.free) (PySem.mem_of_lookup g2) rfl;have ev:σ[p.1]? = some (some v):=by
     have e2:(σ[p.1]?).getD none=some v:=Option.some.inj e2;cases z:σ[p.1]? with
     |none=>rw[z]at e2;cases e2
     |some w=>rw[z]at e2;rw[show w=some v from e2]
    obtain⟨m',_,hl⟩:=I.loc;obtain⟨u,r,l⟩:=hl p.1 p.2 v g1 ev (gf.elim (λz=>.inr (.inl z)) λz=>.inr (.inr z))
    refine⟨u,r,.inr ⟨?_,?_⟩⟩
    .exact(dB scope.names B.cell).mpr g2
    .rcases l with⟨z,_⟩|⟨_,c,ec,hc⟩
     .have z:X.env.scope.names.lookup p.2=some .local:=z
      rcases gf with w|w<;>rw[z]at w<;>cases w
     .obtain⟨c',q'⟩:=Option.isSome_iff_exists.mp (iQ (env:=X.env) scope.names [] p.2 (.inl (PySem.mem_of_lookup g2)))
      rcases bc _ _ _ _ (B.cells I) q' with w|w
      .cases w
      .rw[ec]at w
       cases w;obtain⟨o,ho,hd⟩:=hc;exact⟨c,q',o,old c o ho,hd⟩
 .rcases bc _ _ _ _ (B.cells I) e with q|q
  .cases q
  .obtain⟨v,o,ho,hd⟩:=I.cell x c q
   exact⟨v,o,old c o ho,hd⟩
 .rcases bc _ _ _ _ (B.cells I) e with q|q
  .cases q
  .exact I.freeC x c q
 .simp[cb,dP]
theorem u8(I:Inv X pins σ H s)(hf:∀b∈fp,gW X pins H b){D:Addr}{s':Shared}{σ':St}{N:List Str}{ys:List V}{its:List Value}(hC:s.heap.objs.size<=C)(hD:s.heap.objs.size<=D)(hDC:D≠C)
  (J:Inv (cb X scope N C s H fp) [] σ' H' s') (hD':H' D=none) (hp:s'.heap.PlainList D its.toArray) (hv:Vals ys its) (hz:ys.length<=sizeLine) {h':Heap} (hs:Heap.SameBut C s'.heap h'):
  Inv X pins σ (upd H' D (.lst ys)) {s' with heap:=h'}:=by
 have U:Un (uG X.stack) fp H H' s.heap s'.heap:=J.base;have neC:∀b o,s.heap.get? b=some o->b≠C:=λb o e=>Nat.ne_of_lt (Nat.lt_of_lt_of_le (Heap.lt_size e) hC)
 have neD:∀b o,s.heap.get? b=some o->b≠D:=λb o e=>Nat.ne_of_lt (Nat.lt_of_lt_of_le (Heap.lt_size e) hD)
 have mv:∀b o,b≠C->s'.heap.get? b=some o->h'.get? b=some o:=λb o hb e=>hs.extBut b o hb e
 have tD:∀b o,H' b=some o->(upd H' D (.lst ys)) b=some o:=λb o e=>by rw[az (aL e hD')];exact e
 refine I.call' (s':={s' with heap:=h'}) (ch:=fp) J.os ⟨λb o e n h1 h2=>mv b o (neC b o e) (U.keep b o e n h1 h2),λb o e n h1 h2=>?_,λb o e n h2=>?_,λb o e h2=>?_,λb xs e=>tD _ _ (U.tups b xs e),λb o xs e=>tD _ _ (U.frzs b o xs e),λb ps e=>?_⟩ (λb o e=>?_) J.bare
  (λb hb=>⟨(hf b hb).2.2.2.1,(hf b hb).2.1,(hf b hb).2.2.2.2.1,(hf b hb).2.2.2.2.2⟩)
 .obtain⟨sl,q⟩:=U.slot b o e n h1 h2
  exact⟨sl,mv b _ (neC b o e) q⟩
 .rw[az (neD b o e)];exact U.free b o e n h2
 .obtain⟨o',q⟩:=U.there b o e h2
  exact⟨o',mv b _ (neC b o e) q⟩
 .obtain⟨more,q⟩:=U.tbls b ps e
  exact⟨more,tD _ _ q⟩
 .by_cases hb:b=D
  .subst hb
   rw[aC]at e;cases e;obtain⟨n,q⟩:=hp;exact⟨hz,its,n,hv,mv _ _ hDC q⟩
  .rw[az hb]at e
   refine(J.hok b o e).stay (λc v hc q=>mv c v ?_ q) (λc q=>tD _ _ q) (λc xs q=>tD _ _ q) λc o xs q=>tD _ _ q
   intro z;have fc:H' C=none:=J.free;rcases hc with w|w
   .rw[<-w,z,fc]at e;cases e
   .rw[z,fc]at w;cases w
theorem qF(elt target iter:Expr)(scope:Scope)(pos:Pos)(it acc:Value)(env:Env):
  compTurn (.ListComp elt [⟨target,iter,[],0⟩] scope pos) 0 it acc env=(standAt iter.pos >>= λ_=>pyNext it >>= λr=>match r with
   |none=>pure (.done .next)
   |some v=>letOwnedTupleGo target it v >>= λ_=>assign target env v >>= λ_=>
    (eval elt env >>= λx=>call (.builtin "list.append") [acc,x] >>= λ_=>pure ()) >>= λ_=>
     again (.compLoop (.ListComp elt [⟨target,iter,[],0⟩] scope pos) 0 it acc env)):=by rfl
def vh(σ σ':St):Prop:=σ.length = σ'.length/\∀(i:Nat) v,σ[i]? = some (some v)-> σ'[i]? = some (some v)
def tu(wi:TI)(g:TG)(te:TE)(vars:List Str)(caps:List (Nat×Str)):TE:=λσ H Q=>wi σ H λJ H1=>∃W:Nat->Nat->List V->Hp->Prop,(∃m,W 0 m [] H1)/\∀i m ys H,W i m ys H ->
 (J.stop i H/\ys.length<=sizeLine/\∀p,H p=none->Q (.ref p) (upd H p (.lst ys)))\/
 (J.go i H/\ys.length<sizeLine/\∀x H',J.yld i H x H'->g x (vars.map (λ_=>none)++dP σ caps) H' λσ2 H2=>vh (vars.map (λ_=>none)++dP σ caps) σ2/\te σ2 H2 λy H3=>∃m',m'<m/\W (i+1) m' (ys++[y]) H3)
theorem jR{prog:Program}{w:World}{A:Around}{R:Result->Shared->Prop}{s:Shared}{elt target iter:Expr}{scope:Scope}{pos:Pos}{it acc:Value}{env:Env}(I:Nat->Shared->Prop)
  (turn:∀n s,I n s->wpAny (model prog w) A (pyNext it) (λr s₁=>match r with
   |none=>R (.ok .next) s₁
   |some v=>wpAny (model prog w) A (letOwnedTupleGo target it v) (λ_ s₁=>wpAny (model prog w) A (assign target env v) (λ_ s₂=>wpAny (model prog w) A (eval elt env) (λx s₃=>
     wpAny (model prog w) A (call (.builtin "list.append") [acc,x]) (λ_ s₄=>∃m,m<n/\I m s₄) (λ_ _=>False) s₃) (λ_ _=>False) s₂) (λ_ _=>False) s₁) (λ_ _=>False) s₁) (λ_ _=>False) s)
  (n:Nat) (h:I n s):codeAny (model prog w) A (.compLoop (.ListComp elt [⟨target,iter,[],0⟩] scope pos) 0 it acc env) R s:=by
 refine codeAny_loop rfl I (λn s hI=>?_) n h;show wpAny _ _ ((compTurn (.ListComp elt [⟨target,iter,[],0⟩] scope pos) 0 it acc env).onRaise (λx=>do noteFrame x env;theTreesLotGoes x)) _ _ s;refine wpAny_noted ?_;rw[qF];refine wpAny_bind (wpAny_standAt (wpAny_bind (wpAny_mono (turn n s hI) (λr s₁ h₁=>?_) λ_ _ h'=>h'.elim)))
 cases r with
 |none=>exact wpAny_pure h₁
 |some v=>
  refine wpAny_bind (wpAny_mono h₁ (λ_ s₁ h₁=>?_) λ_ _ h'=>h'.elim)
  exact wpAny_bind (wpAny_mono h₁ (λ_ s₂ h₂=>wpAny_bind (wpAny_bind (wpAny_mono h₂ (λx s₃ h₃=>wpAny_bind (wpAny_mono h₃
   (λ_ s₄ h₄=>wpAny_pure (wpAny_pure ⟨rfl,h₄⟩)) λ_ _ h'=>h'.elim)) λ_ _ h'=>h'.elim))) λ_ _ h'=>h'.elim)
end
section
variable{X:Cx}{scope:Scope}{vars:List Str}{caps:List (Nat×Str)}{elt tg iter:Expr}{pos:Pos}{wi:TI}{g:TG}{te:TE}
theorem ls(B:BlkOk X.env.scope.names X.N scope vars caps)(hc:X.calm=true)
  (hg:∀C s₀ H₀ ex,PG (cb X scope (vars++caps.map (·.2)) C s₀ H₀ ex) tg g) (he:∀C s₀ H₀ ex,PE (cb X scope (vars++caps.map (·.2)) C s₀ H₀ ex) elt te)
  {pins:List (Addr×Obj)} {σ:St} {H2:Hp} {s2:Shared} {Q:VK} {it:Addr} {fp:List Addr} {tn:Nat->Heap->Prop} {J:It} (I2:Inv X pins σ H2 s2) (T:ze X.prog X.w X.K tg J fp it tn) (st2:tn 0 s2.heap) (f2:∀b∈fp,gW X pins H2 b)
  {W:Nat->Nat->List V->Hp->Prop} {m0:Nat} (w0:W 0 m0 [] H2) (turn:∀i m ys H,W i m ys H ->
   (J.stop i H/\ys.length<=sizeLine/\∀p,H p=none->Q (.ref p) (upd H p (.lst ys)))\/
   (J.go i H/\ys.length<sizeLine/\∀x H',J.yld i H x H'->g x (vars.map (λ_=>none)++dP σ caps) H' λσ2 H2=>vh (vars.map (λ_=>none)++dP σ caps) σ2/\te σ2 H2 λy H3=>∃m',m'<m/\W (i+1) m' (ys++[y]) H3))
  {RR:Value->Addr->Result->Shared->Prop} {E:Value->Shared->Prop}
  (hRR:∀D C s' m,s'.heap.Ns C m->D≠C->s2.heap.objs.size<=D->s2.heap.objs.size<=C->∀H',H' C=none->(∀h',Heap.SameBut C s'.heap h'->Inv X pins σ H' {s' with heap:=h'})->Q (.ref D) H'->RR (.ref D) C (.ok .next) s'):
  wpAny (model X.prog X.w) X.A (newList []) (λacc s₃=>wpAny (model X.prog X.w) X.A (newFunctionEnv scope X.env.globals (gQ X.env scope.names []) [] X.env.qual none .none (some X.env)) (λcenv s₄=>
   codeAny (model X.prog X.w) X.A (.compStart (.ListComp elt [⟨tg,iter,[],0⟩] scope pos) 0 (.ref it) acc {cenv with scope:=relabel scope X.env}) (RR acc cenv.locals) s₄) E s₃) E s2:=by
 refine wpAny_newObj_type (wpAny_newFunctionEnv B.cell (by intro y hy;simp at hy) (λh₁ hns₁ hsb₁=>?_) B.kind);dsimp only at hns₁ hsb₁ ⊢;generalize hP:s2.heap.push {cls:=.type "list",dict:=none,data:=.seq ([]:List Value).toArray}=HP at hns₁ hsb₁ ⊢;have hCs:HP.objs.size=s2.heap.objs.size+1:=by rw[<-hP,Heap.size_push]
 have hDC:s2.heap.objs.size≠HP.objs.size:=by rw[hCs];exact Nat.ne_of_lt (Nat.lt_succ_self _)
 have hCle:s2.heap.objs.size<=HP.objs.size:=by rw[hCs];exact Nat.le_succ _
 have old:∀b o,s2.heap.get? b=some o->h₁.get? b=some o:=λb o e=>hsb₁.extBut b o (Nat.ne_of_lt (Nat.lt_of_lt_of_le (Heap.lt_size e) hCle)) (Heap.get?_push_of_some _ (hP ▸ Heap.get?_push_of_some _ e))
 have hacc:h₁.PlainList s2.heap.objs.size #[]:=⟨_,hsb₁.extBut _ _ hDC (Heap.get?_push_of_some _ (hP ▸ Heap.get?_push_size _ rfl))⟩;have flt:∀b∈fp,b<s2.heap.objs.size:=λb hb=>by
  obtain⟨o,e,_⟩:=T.obj _ _ st2 b hb;exact Heap.lt_size e
 have st1:tn 0 h₁:=T.keep _ _ _ st2 λb _ o e=>old b o e
 have loop:∀s3:Shared,s3={s2 with heap:=h₁,toks:=s2.toks+([]:List (Str×Value)).length} ->
   codeAny (model X.prog X.w) X.A (.compLoop (.ListComp elt [⟨tg,iter,[],0⟩] scope pos) 0 (.ref it) (.ref s2.heap.objs.size) (compEnvC scope (gQ X.env scope.names []) HP.objs.size X.env))
    (RR (.ref s2.heap.objs.size) HP.objs.size) s3:=by
  rintro s3 rfl;have X':=cb X scope (vars++caps.map (·.2)) HP.objs.size s2 H2 fp;have fpo:∀{H':Hp},(∀b∈fp,H' b=none)->∀b∈fp,gW (cb X scope (vars++caps.map (·.2)) HP.objs.size s2 H2 fp) [] H' b:=λhn b hb=>by
   have ok:=sS B I2 f2 flt hCle;exact⟨hn b hb,(ok.exf b hb).1,ok.exfs b hb,.inl hb,(ok.exf b hb).2,λp hp=>absurd (show p∈([]:List (Addr×Obj))from hp) (by simp)⟩
  refine jR (λn s=>∃i ys H its,Inv (cb X scope (vars++caps.map (·.2)) HP.objs.size s2 H2 fp) [] (vars.map (λ_=>none)++dP σ caps) H s/\tn i s.heap/\(∀b∈fp,H b=none)/\s.heap.PlainList s2.heap.objs.size (List.toArray its)/\H s2.heap.objs.size=none/\Vals ys its/\W i n ys H) ?_ m0
   ⟨0,[],H2,[],u9 B I2 f2 flt hCle hns₁ old,st1,λb hb=>(f2 b hb).1,hacc,I2.hok.fresh (Nat.le_refl _),.nil,w0⟩
  rintro n s4 ⟨i,ys,H4,its,I4,st4,fr4,pl4,nD4,v4,w4⟩;obtain⟨nn,eD⟩:=id pl4;have DnL:s2.heap.objs.size≠(cb X scope (vars++caps.map (·.2)) HP.objs.size s2 H2 fp).env.locals:=hDC;have Dfs:s2.heap.objs.size∉(cb X scope (vars++caps.map (·.2)) HP.objs.size s2 H2 fp).fs:=λz=>by
   rcases List.mem_cons.mp (I2.stkSub _ z)with q|q
   .have:=I2.lt;rw[<-q]at this;exact Nat.lt_irrefl _ this
   .exact I2.nofs (Nat.le_refl _) q
  have Dfp:∀b∈fp,s2.heap.objs.size≠b:=λb hb z=>by have:=flt b hb;rw[<-z]at this;exact Nat.lt_irrefl _ this
  have DnC:∀x c,(cb X scope (vars++caps.map (·.2)) HP.objs.size s2 H2 fp).env.cells.lookup x=some c->c≠s2.heap.objs.size:=λx c e z=>by
   rcases bc _ _ _ _ (B.cells I2) e with q|q
   .cases q
   .obtain⟨v,o,ho,_⟩:=I2.cell x c q
    have:=Heap.lt_size ho;rw[z]at this;exact Nat.lt_irrefl _ this
  have pinD:∀{σ':St} {H':Hp} {s':Shared},Inv (cb X scope (vars++caps.map (·.2)) HP.objs.size s2 H2 fp) [(s2.heap.objs.size,{cls:=.type "list",data:=.seq its.toArray nn})] σ' H' s'->s'.heap.PlainList s2.heap.objs.size its.toArray/\H' s2.heap.objs.size=none:=λ{σ' H' s'} I'=>by
   obtain⟨q1,q2,_⟩:=I'.pin (s2.heap.objs.size,{cls:=.type "list",data:=.seq its.toArray nn}) (by simp[cb]);exact⟨⟨nn,q1⟩,q2⟩
  have I4p:Inv (cb X scope (vars++caps.map (·.2)) HP.objs.size s2 H2 fp) [(s2.heap.objs.size,{cls:=.type "list",data:=.seq its.toArray nn})] (vars.map (λ_=>none)++dP σ caps) H4 s4:=
   I4.pins_of λp hp=>by
    have e:p=(s2.heap.objs.size,{cls:=.type "list",data:=.seq its.toArray nn}):=by simpa[cb]using hp
    subst e;exact⟨eD,nD4,DnL,Dfs,λv z=>by cases z⟩
  have fpo':∀{H':Hp},(∀b∈fp,H' b=none)->∀b∈fp,gW (cb X scope (vars++caps.map (·.2)) HP.objs.size s2 H2 fp) [(s2.heap.objs.size,{cls:=.type "list",data:=.seq its.toArray nn})] H' b:=λhn b hb=>by
   obtain⟨q1,q2,q3,q4,q5,_⟩:=fpo hn b hb;exact⟨q1,q2,q3,q4,q5,λp hp=>by
    have e:p=(s2.heap.objs.size,{cls:=.type "list",data:=.seq its.toArray nn}):=by simpa[cb]using hp
    subst e;exact Dfp b hb⟩
  have unp:∀{pl:List (Addr×Obj)} {σ':St} {H':Hp} {s':Shared},Inv (cb X scope (vars++caps.map (·.2)) HP.objs.size s2 H2 fp) pl σ' H' s'->Inv (cb X scope (vars++caps.map (·.2)) HP.objs.size s2 H2 fp) [] σ' H' s':=λ{pl σ' H' s'} I'=>
   I'.pins_of λp hp=>absurd (show p∈([]:List (Addr×Obj))from hp) (by simp)
  rcases turn i n ys H4 w4 with⟨stop,hz,qn⟩|⟨go,hz,step⟩
  .refine bu (T.done (cb X scope (vars++caps.map (·.2)) HP.objs.size s2 H2 fp) rfl rfl rfl hc i _ s4 _ H4 _ I4p (fpo' fr4) st4 stop) λr s5 ⟨hr,I5⟩=>?_
   subst hr;obtain⟨p5,n5⟩:=pinD I5;obtain⟨m5,ns5,_⟩:=I5.loc;refine hRR _ _ s5 m5 ns5 hDC (Nat.le_refl _) hCle _ ?_ (λh' hs'=>u8 I2 f2 hCle (Nat.le_refl _) hDC (unp I5) n5 p5 v4 hz hs') (qn _ n5)
   rw[az hDC.symm];exact I5.free
  .refine bu (T.item (cb X scope (vars++caps.map (·.2)) HP.objs.size s2 H2 fp) rfl rfl rfl hc i _ s4 _ H4 _ I4p (fpo' fr4) st4 go) λr s5 ⟨u,hr,h5⟩=>?_
   subst hr;refine bu h5 λ_ s6 ⟨x,H6,I6,rx,yx,st6,fr6⟩=>?_
   have I6p:=I6.pinned (fpo' fr6) (T.obj _ _ st6);refine bu (hg _ _ _ _ _ s6 _ H6 x u _ I6p rx (step x H6 yx)) λ_ s7 ⟨σ7,H7,I7,kp,q7⟩=>?_
   refine bu (he _ _ _ _ _ s7 σ7 H7 _ I7 q7) λv s8 ⟨y,H8,I8,ry,m',hm,w8⟩=>?_
   obtain⟨p8,n8⟩:=pinD I8.unpinned;have st8:tn (i+1) s8.heap:=T.keep _ _ _ st6 λb hb o e=>(I8.pin (b,o) (List.mem_append_right _ (List.mem_append_right _ (bR hb e)))).1
   have fr8:∀b∈fp,H8 b=none:=λb hb=>by
    obtain⟨o,e,d⟩:=T.obj _ _ st6 b hb;exact(I8.pin (b,o) (List.mem_append_right _ (List.mem_append_right _ (bR hb e)))).2.1
   have hl:=v4.length;refine wpAny_list_append_plain p8 (λh9 p9 sb9=>⟨m',hm,i+1,ys++[y],H8,its++[v],?_,?_,fr8,by simpa using p9,n8,v4.append (.cons ry .nil),w8⟩) (by simp;lia)
   .have I9:Inv (cb X scope (vars++caps.map (·.2)) HP.objs.size s2 H2 fp) [] σ7 H8 {s8 with heap:=h9,toks:=s8.toks}:=
     (unp I8).turned (it:=s2.heap.objs.size) (λb o hb e=>sb9.extBut b o hb e) n8 DnL (.inr (Nat.le_refl _)) DnC λp hp=>absurd (show p∈([]:List (Addr×Obj))from hp) (by simp)
    exact I9.weak kp.1 kp.2
   .exact T.keep _ _ _ st8 λb hb o e=>sb9.extBut b o (Dfp b hb).symm e
 exact codeAny_compStart_list (loop _ rfl) (T.self _ 0 _ _ _ st1 (loop _ rfl))
theorem Ak(B:BlkOk X.env.scope.names X.N scope vars caps)(hc:X.calm=true)(hi:PI X tg iter wi)
  (hg:∀C s₀ H₀ ex,PG (cb X scope (vars++caps.map (·.2)) C s₀ H₀ ex) tg g) (he:∀C s₀ H₀ ex,PE (cb X scope (vars++caps.map (·.2)) C s₀ H₀ ex) elt te) (hs:∀x,foldedSetIterable iter X.env x=pure x:=by intro _;rfl):
  PE X (.ListComp elt [⟨tg,iter,[],0⟩] scope pos) (tu wi g te vars caps):=by
 intro pins s σ H Q I h;rw[eval_ListComp];refine wpAny_comprehension_free (use:=none) rfl hs (cW (B.cells I)) B.kind B.names ?_;show wpAny _ _ (eval iter X.env) _ _ s;refine bu (hi pins s σ H _ I h) λv s1 h1=>bu h1 λitv s2 h2=>?_
 obtain⟨it,fp,tn,J,H2,e,I2,T,st2,f2,W,⟨m0,w0⟩,turn⟩:=h2;subst e;exact ls B hc hg he I2 T st2 f2 w0 turn (RR:=λacc C=>compPost (model X.prog X.w) X.A X.xe none (EP X pins σ Q) acc C) λD C s' m ns _ _ _ H' _ k q=>⟨m,ns,λh' hs'=>⟨.ref D,H',k h' hs',rfl,q⟩⟩
theorem Aa{i:Nat}{y:Str}{py spos:Pos}(B:BlkOk X.env.scope.names X.N scope vars caps)(hc:X.calm=true)(hi:PI X tg iter wi)
  (hg:∀C s₀ H₀ ex,PG (cb X scope (vars++caps.map (·.2)) C s₀ H₀ ex) tg g) (he:∀C s₀ H₀ ex,PE (cb X scope (vars++caps.map (·.2)) C s₀ H₀ ex) elt te)
  (hN:X.N.Nodup) (hy:X.N[i]? = some y) (hx:qY X.env.scope y) (hsw:swapsWith (.ListComp elt [⟨tg,iter,[],0⟩] scope pos) (some (.Name y py)) spos.line X.env=pure true)
  (hf:X.fn y=true\/X.env.scope.names.lookup y=some .local) (hs:∀x,foldedSetIterable iter X.env x=pure x:=by intro _;rfl):
  PS X (.Assign [.Name y py] (.ListComp elt [⟨tg,iter,[],0⟩] scope pos) spos) (λD σ H=>tu wi g te vars caps σ H λv H1=>D.nx (σ.set i (some v)) H1):=by
 intro pins s σ H DE I h;rw[exec_Assign_Name_used _ _ _ _ hsw];refine wpAny_bind (wpAny_standAt (wpAny_bind ?_));show wpAny _ X.A (do let _ <-comprehension (.ListComp elt [⟨tg,iter,[],0⟩] scope pos) scope X.env _ (newList []) false (eval iter X.env) (some (assign (.Name y py) X.env))) _ _ s;refine wpAny_bind (wpAny_mono (wpAny_comprehension_free (use:=some (assign (.Name y py) X.env)) (Q:=λ_ s'=>SP X pins DE .next s') rfl hs (cW (B.cells I)) B.kind B.names
  (bu (hi pins s σ H _ I h) λv s1 h1=>bu h1 λitv s2 h2=>?_)) (λ_ s' hq=>wpAny_pure (wpAny_pure hq)) λ_ _ e=>e)
 obtain⟨it,fp,tn,J,H2,e,I2,T,st2,f2,W,⟨m0,w0⟩,turn⟩:=h2;subst e;refine ls (Q:=λv H1=>DE.nx (σ.set i (some v)) H1) B hc hg he I2 T st2 f2 w0 turn (RR:=λacc C=>compPost (model X.prog X.w) X.A X.xe (some (assign (.Name y py) X.env)) (λ_ s'=>SP X pins DE .next s') acc C) ?_
 intro D C s' m ns hDC hD hC H' hHC k q;obtain⟨oC,es,ep,eC,dC,rC⟩:=ns;have I':Inv X pins σ H' s':=k s'.heap (Heap.SameBut.refl ..);have nL:C≠X.env.locals:=λz=>by have:=I2.lt;rw[<-z]at this;exact absurd (Nat.lt_of_lt_of_le this hC) (Nat.lt_irrefl _)
 have nF:C∉X.fs:=I2.nofs hC;have nCell:∀x c,X.env.cells.lookup x=some c->c≠C:=λx c e z=>by
  obtain⟨v,o,ho,_⟩:=I2.cell x c e;have:=Heap.lt_size ho;rw[z]at this;exact absurd (Nat.lt_of_lt_of_le this hC) (Nat.lt_irrefl _)
 have nPin:∀p∈X.pn++pins,p.1≠C:=λp hp z=>by
  have:=Heap.lt_size (I2.pin p hp).1;rw[z]at this;exact absurd (Nat.lt_of_lt_of_le this hC) (Nat.lt_irrefl _)
 have Ip:Inv X (pins++[(C,oC)]) σ H' s':=I'.pins_of λp hp=>by
  rcases List.mem_append.mp hp with z|z
  .exact I'.pin p (List.mem_append_right _ z)
  .have e:p=(C,oC):=by simpa using z
   subst e;exact⟨eC,hHC,nL,nF,λv z=>by rw[dC]at z;cases z⟩
 refine bu (bw (pos:=py) hN hy hx hf _ s' σ H' (.ref D) (.ref D) (λσ' H''=>σ' = σ.set i (some (.ref D))/\H''=H'/\DE.nx σ' H'') Ip rfl ⟨rfl,rfl,q⟩) λ_ s'' ⟨σ'',H'',I'',e1,e2,q''⟩=>?_
 subst e1 e2;have eC'':s''.heap.get? C=some oC:=(I''.pin (C,oC) (List.mem_append_right _ (List.mem_append_right _ (by simp)))).1;refine⟨m,⟨oC,es,ep,eC'',dC,rC⟩,λh' hs'=>⟨_,H'',?_,q''⟩⟩
 exact I''.unpinned.turned (t':=s''.toks) (it:=C) (λb o hb e=>hs'.extBut b o hb e) hHC nL (.inr (Nat.le_trans I2.sz hC)) nCell nPin
end
noncomputable def ES:Option Sl->Sl
 |some (.fz d)=>.fz d
 |_=>.un
@[simp] theorem Hm(d:D):ES (some (.fz d))=.fz d:=rfl
noncomputable def bV(δ:Dv)(caps:List (Nat×Str)):Dv:=caps.map λp=>ES δ[p.1]?
noncomputable def vP(f:D->Option D):List D->Option (List D)
 |[]=>some []
 |d::ds=>(f d).bind λe=>(vP f ds).bind λes=>some (e::es)
noncomputable def jA(fi:Dv->Option (List D))(caps:List (Nat×Str))(bv:D->Option (List D))(fe:Dv->Option D):Dv->Option D:=λδ=>(fi δ).bind λds=>if ds.length<=sizeLine then(vP (λd=>(bv d).bind λvs=>fe (vs.map .fz++bV δ caps)) ds).bind λes=>some (.list es)else none
noncomputable def qR:D->Option (List D):=λd=>some [d]
theorem fL{f:D->Option D}:∀{ds es:List D},vP f ds=some es->es.length=ds.length
 |[],es,h=>by cases h;rfl
 |d::ds,es,h=>by
  obtain⟨e,_,h⟩:=bind_some h;obtain⟨es',h2,h⟩:=bind_some h;cases h;exact congrArg (· + 1) (fL h2)
theorem kE{f:D->Option D}:∀{ds es:List D} {i:Nat} {d:D},vP f ds=some es->ds[i]? = some d->∃e,f d=some e/\es[i]? = some e
 |[],es,i,d,h,q=>by simp at q
 |d::ds,es,i,d',h,q=>by
  obtain⟨e,h1,h⟩:=bind_some h;obtain⟨es',h2,h⟩:=bind_some h;cases h;cases i with
  |zero=>simp at q;subst q;exact⟨e,h1,rfl⟩
  |succ i=>simp at q;obtain⟨e',g1,g2⟩:=kE (i:=i) h2 q;exact⟨e',g1,by simpa using g2⟩
def qV(K:Fg)(g:TG)(n:Nat)(bv:D->Option (List D)):Prop:=∀(x:V) (Z:Hp) (d:D) (vs:List D) (σc:St) (H:Hp) (R:St->Hp->Prop),Rep K Z x d->Same Z H->bv d=some vs->(∀us,Reps K Z us vs->us.length=n->R (us.map some ++ σc) H)->g x (List.replicate n none ++ σc) H R
theorem cL{K:Fg}:qV K (yB 0) 1 qR:=λx Z d vs σc H R r zh e k=>by
 cases e;exact k [x] (.cons r .nil) rfl
section
variable{X:Cx}{scope:Scope}{vars:List Str}{caps:List (Nat×Str)}{elt tg iter:Expr}{pos:Pos}{g:TG}{fi:Dv->Option (List D)}{fe:Dv->Option D}{bv:D->Option (List D)}
theorem yV{σ:St}{δ:Dv}{K:Fg}{H₀ Z₀ Z H:Hp}(hh:Hold K H₀ Z₀ Z δ σ H):∀(j:Nat) d,(bV δ caps)[j]? = some (.fz d)->∃v,(dP σ caps)[j]? = some (some v)/\Rep K Z v d:=λj d e=>by
 unfold bV at e;unfold dP;rw[List.getElem?_map]at e ⊢;cases q:caps[j]? with
 |none=>rw[q]at e;cases e
 |some p=>
  rw[q]at e;have e:ES δ[p.1]? = .fz d:=Option.some.inj e;cases z:δ[p.1]? with
  |none=>rw[z]at e;cases e
  |some sl=>
   rw[z]at e;cases sl with
   |fz d'=>
    cases e;obtain⟨v,g1,g2⟩:=hh.fz p.1 _ z;exact⟨v,by show some ((σ[p.1]?).getD none)=_;rw[g1];rfl,g2⟩
   |un=>cases e
   |own _=>cases e
   |fr _=>cases e
theorem AZ{δ:Dv}:∀(j:Nat) ds,(bV δ caps)[j]?≠some (.own ds):=λj ds e=>by
 unfold bV at e;rw[List.getElem?_map]at e;cases q:caps[j]? with
 |none=>rw[q]at e;cases e
 |some p=>
  rw[q]at e;have e:ES δ[p.1]? = .own ds:=Option.some.inj e;cases z:δ[p.1]? with
  |none=>rw[z]at e;cases e
  |some sl=>rw[z]at e;cases sl<;>cases e
theorem A5{δ:Dv}:∀(j:Nat) ds,(bV δ caps)[j]?≠some (.fr ds):=λj ds e=>by
 unfold bV at e;rw[List.getElem?_map]at e;cases q:caps[j]? with
 |none=>rw[q]at e;cases e
 |some p=>
  rw[q]at e;have e:ES δ[p.1]? = .fr ds:=Option.some.inj e;cases z:δ[p.1]? with
  |none=>rw[z]at e;cases e
  |some sl=>rw[z]at e;cases sl<;>cases e
theorem lA{σ:St}{δ:Dv}{K:Fg}{H₀ Z₀ Z H:Hp}(hh:Hold K H₀ Z₀ Z δ σ H){us:List V}{vs:List D}(r:Reps K Z us vs):Hold K H Z Z (vs.map .fz++bV δ caps) (us.map some++dP σ caps) H:=by
 have hl:=r.length;refine⟨hh.zh,Same.refl _,Same.refl _,λ_ _=>rfl,by simp[bV,dP,hl],λi d e=>?_,λi ds e=>?_,λi j ds es a _ e=>?_,λi ds e=>?_,NoF.refl _⟩
 .by_cases hi:i<vs.length
  .rw[List.getElem?_append_left (by simpa using hi),List.getElem?_map]at e
   cases q:vs[i]? with
   |none=>rw[q]at e;cases e
   |some d'=>
    rw[q]at e;cases e;obtain⟨v,g1,g2⟩:=r.get q;exact⟨v,by rw[List.getElem?_append_left (by simpa[hl]using hi),List.getElem?_map,g1];rfl,g2⟩
  .rw[List.getElem?_append_right (by simpa using hi)]at e
   obtain⟨v,g1,g2⟩:=yV hh _ d e;refine⟨v,?_,g2⟩;rw[List.getElem?_append_right (by simpa[hl]using hi)];simp only[List.length_map]at g1 ⊢;rw[hl];exact g1
 all_goals
  exfalso;by_cases hi:i<vs.length
  .rw[List.getElem?_append_left (by simpa using hi),List.getElem?_map]at e
   cases q:vs[i]?<;>rw[q]at e<;>cases e
  .rw[List.getElem?_append_right (by simpa using hi)]at e
   first|exact AZ _ _ e|exact A5 _ _ e
theorem wq(tk:qV X.K g vars.length bv){σ:St}{H:Hp}{Q:VK}(h:tV X.K (jA fi caps bv fe) σ H Q):tu (Gv X.K fi) g (tV X.K fe) vars caps σ H Q:=by
 obtain⟨H₀,Z₀,Z,δ,d,hh,e,k⟩:=h;obtain⟨ds,e1,e⟩:=bind_some e;by_cases hz:ds.length<=sizeLine
 .rw[if_pos hz]at e
  obtain⟨es,e2,e⟩:=bind_some e;cases e;have le:=fL e2;have hv:vars.map (λ_=>(none:Option V))=List.replicate vars.length none:=by rw[List.map_const']
  refine⟨H₀,Z₀,Z,δ,ds,hh,e1,λJ Z1 H1 hh1 t1 ok=>?_⟩
  refine⟨λi m ys H=>m=ds.length-i/\i<=ds.length/\∃Zc,Hold X.K H₀ Z₀ Zc δ σ H/\Same Z1 Zc/\Reps X.K Zc ys (es.take i),⟨ds.length,by simp,Nat.zero_le _,Z1,hh1,Same.refl _,by simpa using .nil⟩,?_⟩
  rintro i m ys H2 ⟨rfl,hi2,Zc,hhc,tc,rc⟩;have zh:Same Z1 H2:=tc.trans hhc.zh;have ly:=rc.length;rw[List.length_take]at ly;by_cases hlt:i<ds.length
  .refine .inr ⟨ok.go i H2 zh hlt,by lia,λx H3 y=>?_⟩
   have ed:ds[i]? = some ds[i]:=by simp[hlt]
   obtain⟨rfl,rx⟩:=ok.yld i H2 x H3 _ zh ed y;obtain⟨ei,f1,f2⟩:=kE e2 ed;obtain⟨vs,f3,f1⟩:=bind_some f1;rw[hv];refine tk x Zc ds[i] vs (dP σ caps) H3 _ (rx.same tc) hhc.zh f3 λus ru hn=>⟨⟨by simp[hn],λj v q=>?_⟩,?_⟩
   .by_cases hj:j<vars.length
    .rw[List.getElem?_append_left (by simpa using hj),List.getElem?_replicate]at q
     split at q<;>cases q
    .rw[List.getElem?_append_right (by simpa using hj)]at q
     rw[List.getElem?_append_right (by simpa[hn]using hj)];simpa[hn]using q
   .refine⟨H3,Zc,Zc,_,ei,lA hhc ru,f1,λv Z4 H4 h4 t4 r4=>⟨ds.length-(i+1),by lia,rfl,hlt,Z4,hhc.new ⟨t4,h4.h0,h4.zh,h4.zb,h4.nf⟩,tc.trans t4,?_⟩⟩
    have:es.take (i+1)=es.take i++[ei]:=by
     rw[List.take_add_one,f2];rfl
    rw[this];exact(rc.same t4).append (.cons r4 .nil)
  .have hie:i=ds.length:=by lia
   subst hie;refine .inl ⟨ok.stop _ H2 zh (Nat.le_refl _),by lia,λp hp=>?_⟩
   rw[<-le,List.take_length]at rc;have n:=New.add hhc.zh hp (.lst ys);exact k _ _ _ (hhc.new n) ((t1.trans tc).trans n.z) (.lst (SqL.of aC) (rc.same n.z))
 .rw[if_neg hz]at e;cases e
theorem AQ(B:BlkOk X.env.scope.names X.N scope vars caps)(hc:X.calm=true)(hi:IV X tg iter fi)(tk:qV X.K g vars.length bv)
  (hg:∀C s₀ H₀ ex,PG (cb X scope (vars++caps.map (·.2)) C s₀ H₀ ex) tg g) (he:∀C s₀ H₀ ex,EV (cb X scope (vars++caps.map (·.2)) C s₀ H₀ ex) elt fe) (hs:∀x,foldedSetIterable iter X.env x=pure x:=by intro _;rfl):
  EV X (.ListComp elt [⟨tg,iter,[],0⟩] scope pos) (jA fi caps bv fe):=
 PE.imp (Ak (te:=tV X.K fe) B hc hi hg he hs) λ_ _ _ h=>wq tk h
end
section
variable{X:Cx}{e:Expr}{es:List Expr}{p pos:Pos}{fs:Dv->Option (List D)}
theorem aH{k:Nat}{x:Str}{g:List D->Option D}(C:Cal X.prog X.w X.K X.mg X.base x k g [])(hr:Room k X.A)(hg:Gl X x)(ha:AV X (e::es) fs)(hdb:(x==("__debug__":Str))=false:=by decide)(he:starEach (e::es) X.env=(false,eval e X.env)::starEach es X.env:=by rfl)
  (hpl:(backTo pos (starEach es X.env)).any (·.1)=false:=by rfl):EV X (.Call (.Name x p) (e::es) [] pos) (os fs g):=by
 have h:=Dz C hr hg ha hdb he hpl (p:=p) (pos:=pos);have e:(λas=>g (as++[]))=g:=by funext as;rw[List.append_nil]
 rw[e]at h;exact h
end
noncomputable def wA:Option Sl->Option (List D)
 |some (.own (.l ds))=>some ds
 |_=>none
@[simp] theorem Hk(ds:List D):wA (some (.ow ds))=some ds:=rfl
theorem nK{o:Option Sl}{ds:List D}(h:wA o=some ds):o=some (.ow ds):=by
 cases o with
 |none=>cases h
 |some x=>
  cases x with
  |own c=>
   cases c with
   |l es=>cases h;rfl
   |d es=>cases h
  |un=>cases h
  |fz d=>cases h
  |fr _=>cases h
@[simp] noncomputable def vB(i:Nat)(fs:Dv->Option (List D)):Sf:=λδ=>(fs δ).bind λds=>if ds.length<=sizeLine then some (.nx,δ.set i (.ow ds))else none
@[simp] noncomputable def rX(i:Nat)(f:Dv->Option D):Dv->Option D:=λδ=>(wA δ[i]?).bind λds=>(f δ).bind λk=>aD (.list ds) k
@[simp] noncomputable def iw(i:Nat):Dv->Option D:=λδ=>(wA δ[i]?).bind λds=>some (.int ds.length)
noncomputable def zY(ds:List D)(k v:D):Option (List D):=match k with
 |.int j=>(wC ds.length j).map λn=>ds.set n v
 |_=>none
@[simp] theorem pN(ds:List D)(j:Int)(v:D):zY ds (.int j) v=(wC ds.length j).map λn=>ds.set n v:=rfl
@[simp] noncomputable def Cf(i:Nat)(fk fv:Dv->Option D):Sf:=λδ=>(fv δ).bind λv=>(fk δ).bind λk=>(wA δ[i]?).bind λds=>(zY ds k v).bind λds'=>some (.nx,δ.set i (.ow ds'))
@[simp] noncomputable def xm(i:Nat)(f:Dv->Option D):Sf:=λδ=>(f δ).bind λv=>(wA δ[i]?).bind λds=>if ds.length<sizeLine then some (.nx,δ.set i (.ow (ds++[v])))else none
section
variable{X:Cx}{e b:Expr}{es:List Expr}{p pos tpos apos:Pos}{fs:Dv->Option (List D)}{f fk fv:Dv->Option D}
theorem nG(i:Nat){x:Str}{pos':Pos}(hN:X.N.Nodup)(ha:AV X es fs)(hi:X.N[i]? = some x:=by rfl)(hx:qY X.env.scope x:=by first|exact Or.inl rfl|exact Or.inr rfl)(hs:swapsWith (.List es p) (some (.Name x pos')) pos.line X.env=pure false:=by rfl)
  (hf:X.fn x=true\/X.env.scope.names.lookup x=some .local:=by first|exact .inl rfl|exact .inr rfl|assumption):SV X (.Assign [.Name x pos'] (.List es p) pos) (vB i fs):=
 PS.imp (gE hN hi hx (xy ha) hs hf) λD σ H h=>by
  obtain⟨H₀,Z₀,Z,δ,r,hh,e,k⟩:=h;obtain⟨ds,e1,e⟩:=bind_some e;by_cases hl:ds.length<=sizeLine
  .rw[if_pos hl]at e
   cases e;exact⟨H₀,Z₀,Z,δ,ds,hh,e1,λvs Z1 H1 hh1 t1 r1=>⟨by rw[r1.length];exact hl,λp hp=>k _ _ Z1 (hh1.setO hp r1) t1⟩⟩
  .rw[if_neg hl]at e;cases e
theorem im{K:Fg}{H₀ Z₀ Z:Hp}{δ:Dv}{σ:St}{H:Hp}(hh:Hold K H₀ Z₀ Z δ σ H){i:Nat}{ds:List D}(h:wA δ[i]? = some ds):∃a xs,σ[i]? = some (some (V.ref a))/\H a=some (.lst xs)/\Reps K Z xs ds:=by
 obtain⟨a,xs,h1,_,_,h4,h5⟩:=hh.ow i ds (nK h);exact⟨a,xs,h1,h4,h5⟩
theorem yL(i:Nat){x:Str}(hb:EV X b f)(hs:oZ b)(hN:X.N[i]? = some x:=by rfl)(hv:vg X.env.scope x:=by first|exact Or.inl rfl|exact Or.inr (Or.inl rfl)|exact Or.inr (Or.inr rfl))(hd:(x==("__debug__":Str))=false:=by decide)(hcd:(x==("__classdict__":Str))=false:=by decide):
  EV X (.Subscript (.Name x p) b pos) (rX i f):=
 PE.imp (Bx ix_list (cO hN hv hd hcd) hb hs) λσ H Q h=>by
  obtain⟨H₀,Z₀,Z,δ,d,hh,e,k⟩:=h;obtain⟨ds,e1,e⟩:=bind_some e;obtain⟨y,e2,e⟩:=bind_some e;obtain⟨a,xs,h1,h4,h5⟩:=im hh e1;refine⟨_,h1,H₀,Z₀,Z,δ,y,hh,e2,λv Z1 H1 hh1 t1 r1=>?_⟩
  obtain⟨a',xs',g1,g4,g5⟩:=im hh1 e1;rw[h1]at g1;cases g1;cases r1 with
  |int j=>
   obtain⟨w,ew,rw'⟩:=g5.at e;exact⟨_,_,_,w,rfl,rfl,SqL.of g4,ew,k w Z1 H1 hh1 t1 rw'⟩
  |_=>cases e
theorem iM(i:Nat){x:Str}{p2:Pos}(hg:Gl X "len")(hm:X.mg "len" = none)(hN:X.N[i]? = some x:=by rfl)(hv:vg X.env.scope x:=by first|exact Or.inl rfl|exact Or.inr (Or.inl rfl)|exact Or.inr (Or.inr rfl))(hd:(x==("__debug__":Str))=false:=by decide)(hcd:(x==("__classdict__":Str))=false:=by decide)
  (he:starEach [.Name x p2] X.env=(false,eval (.Name x p2) X.env)::starEach [] X.env:=by rfl) (hpl:(backTo pos (starEach [] X.env)).any (·.1)=false:=by rfl):EV X (.Call (.Name "len" p) [.Name x p2] [] pos) (iw i):=
 PE.imp (ku qQ hg hm PySem.boot_len (cV (cO hN hv hd hcd) fG he) (by decide) (by decide) he hpl) λσ H Q h=>by
  obtain⟨H₀,Z₀,Z,δ,d,hh,e,k⟩:=h;obtain⟨ds,e1,e⟩:=bind_some e;cases e;obtain⟨a,xs,h1,h4,h5⟩:=im hh e1;exact⟨_,h1,_,_,rfl,.inl ⟨xs,SqL.of h4,rfl⟩,k _ Z H hh (Same.refl _) (by rw[h5.length];exact .int _)⟩
theorem B9(i:Nat){x:Str}(hb:EV X b fk)(hv':EV X e fv)(hN:X.N[i]? = some x:=by rfl)(hv:vg X.env.scope x:=by first|exact Or.inl rfl|exact Or.inr (Or.inl rfl)|exact Or.inr (Or.inr rfl))(hd:(x==("__debug__":Str))=false:=by decide)(hcd:(x==("__classdict__":Str))=false:=by decide)
  (hs:swapsWithSole [.Subscript (.Name x p) b tpos] e pos.line X.env=pure false:=by rfl) (hw:swappedStores [.Subscript (.Name x p) b tpos] e X.env=pure none:=by rfl)
  (ha:∀v,assign (.Subscript (.Name x p) b tpos) X.env v=(do
   let ov <-holding [v] (eval (.Name x p) X.env)
   let iv <-holding [v,ov] (eval b X.env)
   standAt tpos
   holding [v,ov,iv] (setItem ov iv v)
   release [v,ov,iv] []):=by intro _;rfl):SV X (.Assign [.Subscript (.Name x p) b tpos] e pos) (Cf i fk fv):=
 PS.imp (Cy hv' (CG (cO hN hv hd hcd) hb xi ha) hs hw) λD σ H h=>by
  obtain⟨H₀,Z₀,Z,δ,r,hh,e,k⟩:=h;obtain⟨v,e1,e⟩:=bind_some e;obtain⟨y,e2,e⟩:=bind_some e;obtain⟨ds,e3,e⟩:=bind_some e;obtain⟨ds',e4,e⟩:=bind_some e;cases e;refine⟨H₀,Z₀,Z,δ,v,hh,e1,λw Z1 H1 hh1 t1 r1=>?_⟩
  obtain⟨a,xs,h1,h4,h5⟩:=im hh1 e3;refine⟨_,h1,H₀,Z₀,Z1,δ,y,hh1,e2,λu Z2 H2 hh2 t2 r2=>?_⟩
  obtain⟨a',xs',g1,g4,g5⟩:=im hh2 e3;rw[h1]at g1;cases g1;cases r2 with
  |int j=>
   rw[pN]at e4;cases q:wC ds.length j with
   |none=>rw[q]at e4;cases e4
   |some n=>
    rw[q]at e4;cases e4;refine⟨a,xs',j,n,rfl,rfl,g4,by rw[g5.length];exact q,?_⟩;exact k σ _ Z2 (hh2.chg (xs:=xs') (nK e3) h1 (g5.set (r1.same t2) n)) (t1.trans t2)
  |_=>cases e4
theorem rq(i:Nat){x:Str}{cpos:Pos}(hv':EV X e f)(hN:X.N[i]? = some x:=by rfl)(hv:vg X.env.scope x:=by first|exact Or.inl rfl|exact Or.inr (Or.inl rfl)|exact Or.inr (Or.inr rfl))(hd:(x==("__debug__":Str))=false:=by decide)(hcd:(x==("__classdict__":Str))=false:=by decide)
  (hbase:attributeBase (.Name x p) "append" X.env (eval (.Name x p) X.env)=eval (.Name x p) X.env:=by rfl)
  (hfew:((backTo cpos (starEach [e] X.env)).all (λx=>!x.1)&&(backToKw cpos (keywordEach [] X.env)).all (λx=>x.1.isSome)
   && decide ([e].length+([]:List Keyword).length+(if([]:List Keyword).isEmpty then 0 else 1)<30))=true:=by rfl)
  (hline:(apos.endLine==cpos.line)=true:=by rfl) (hs:starEach [e] X.env=(false,eval e X.env)::starEach [] X.env:=by rfl) (hplain:(backTo cpos (starEach [] X.env)).any (·.1)=false:=by rfl)
  (hsw:swapsWith (.Call (.Attribute (.Name x p) "append" apos) [e] [] cpos) none pos.line X.env=pure false:=by rfl):SV X (.Expr (.Call (.Attribute (.Name x p) "append" apos) [e] [] cpos) pos) (xm i f):=
 PS.imp (tX (By PySem.F.plainAttrs_list PySem.F.slot_list_append PySem.F.type_list_append vN (cO hN hv hd hcd) (cV hv' fG hs) hbase hfew hline hs hplain) hsw) λD σ H h=>by
  obtain⟨H₀,Z₀,Z,δ,r,hh,e,k⟩:=h;obtain⟨v,e1,e⟩:=bind_some e;obtain⟨ds,e2,e⟩:=bind_some e;by_cases hl:ds.length<sizeLine
  .rw[if_pos hl]at e
   cases e;obtain⟨a,xs,h1,h4,h5⟩:=im hh e2;refine⟨_,h1,.inl ⟨rfl,xs,SqL.of h4⟩,H₀,Z₀,Z,δ,v,hh,e1,λw Z1 H1 hh1 t1 r1=>?_⟩
   obtain⟨a',xs',g1,g4,g5⟩:=im hh1 e2;rw[h1]at g1;cases g1;exact⟨a,xs',w,rfl,rfl,g4,by rw[g5.length];exact hl,k σ _ Z1 (hh1.chg (xs:=xs') (nK e2) h1 (g5.append (.cons r1 .nil))) t1⟩
  .rw[if_neg hl]at e;cases e
end
section
def rn(wi:TI)(g:TG)(tt:TT)(te:TE)(vars:List Str)(caps:List (Nat×Str)):TE:=λσ H Q=>wi σ H λJ H1=>∃W:Nat->Nat->List V->Hp->Prop,(∃m,W 0 m [] H1)/\∀i m ys H,W i m ys H ->
 (J.stop i H/\ys.length<=sizeLine/\∀p,H p=none->Q (.ref p) (upd H p (.lst ys)))\/
 (J.go i H/\ys.length<sizeLine/\∀x H',J.yld i H x H'->g x (vars.map (λ_=>none)++dP σ caps) H' λσ2 H2=>vh (vars.map (λ_=>none)++dP σ caps) σ2/\tt σ2 H2 λb H3=>if b=true then te σ2 H3 λy H4=>∃m',m'<m/\W (i+1) m' (ys++[y]) H4 else ∃m',m'<m/\W (i+1) m' ys H3)
theorem jm{prog:Program}{w:World}{A:Around}{R:Result->Shared->Prop}{s:Shared}{elt target iter cnd:Expr}{scope:Scope}{pos:Pos}{it acc:Value}{env:Env}(I:Nat->Shared->Prop)
  (turn:∀n s,I n s->wpAny (model prog w) A (pyNext it) (λr s₁=>match r with
   |none=>R (.ok .next) s₁
   |some v=>wpAny (model prog w) A (letOwnedTupleGo target it v) (λ_ s₁=>wpAny (model prog w) A (assign target env v) (λ_ s₂=>wpAny (model prog w) A (isTrue cnd env (eval cnd env)) (λok s₂=>if ok=true then wpAny (model prog w) A (eval elt env) (λx s₃=>
     wpAny (model prog w) A (call (.builtin "list.append") [acc,x]) (λ_ s₄=>∃m,m<n/\I m s₄) (λ_ _=>False) s₃) (λ_ _=>False) s₂ else ∃m,m<n/\I m s₂) (λ_ _=>False) s₂) (λ_ _=>False) s₁) (λ_ _=>False) s₁) (λ_ _=>False) s)
  (n:Nat) (h:I n s):codeAny (model prog w) A (.compLoop (.ListComp elt [⟨target,iter,[cnd],0⟩] scope pos) 0 it acc env) R s:=by
 refine codeAny_loop rfl I (λn s hI=>?_) n h;show wpAny _ _ ((compTurn (.ListComp elt [⟨target,iter,[cnd],0⟩] scope pos) 0 it acc env).onRaise (λx=>do noteFrame x env;theTreesLotGoes x)) _ _ s;refine wpAny_noted ?_;rw[compTurn_list];refine wpAny_bind (wpAny_standAt (wpAny_bind (wpAny_mono (turn n s hI) (λr s₁ h₁=>?_) λ_ _ h'=>h'.elim)))
 cases r with
 |none=>exact wpAny_pure h₁
 |some v=>
  refine wpAny_bind (wpAny_mono h₁ (λ_ s₁ h₁=>?_) λ_ _ h'=>h'.elim)
  refine wpAny_bind (wpAny_mono h₁ (λ_ s₂ h₂=>?_) λ_ _ h'=>h'.elim)
  refine wpAny_bind (wpAny_tests_one (wpAny_mono h₂ (λokb s₃ h₃=>?_) λ_ _ h'=>h'.elim))
  cases okb with
  |false=>exact wpAny_pure ⟨rfl,h₃⟩
  |true=>exact wpAny_bind (wpAny_bind (wpAny_mono h₃ (λx s₄ h₄=>wpAny_bind (wpAny_mono h₄ (λ_ s₅ h₅=>wpAny_pure (wpAny_pure ⟨rfl,h₅⟩)) λ_ _ h'=>h'.elim)) λ_ _ h'=>h'.elim))
end
section
variable{X:Cx}{scope:Scope}{vars:List Str}{caps:List (Nat×Str)}{elt tg iter cnd:Expr}{pos:Pos}{wi:TI}{g:TG}{tt:TT}{te:TE}
theorem jH{Cm:Cx->Prop}(B:BlkOk X.env.scope.names X.N scope vars caps)
  (hg:∀C s₀ H₀ ex,PG (cb X scope (vars++caps.map (·.2)) C s₀ H₀ ex) tg g) (hb:∀C s₀ H₀ ex,PT (cb X scope (vars++caps.map (·.2)) C s₀ H₀ ex) cnd tt) (he:∀C s₀ H₀ ex,PE (cb X scope (vars++caps.map (·.2)) C s₀ H₀ ex) elt te)
  {pins:List (Addr×Obj)} {σ:St} {H2:Hp} {s2:Shared} {Q:VK} {it:Addr} {fp:List Addr} {tn:Nat->Heap->Prop} {J:It} (I2:Inv X pins σ H2 s2) (T:TurnG Cm X.prog X.w X.K tg J fp it tn) (st2:tn 0 s2.heap) (f2:∀b∈fp,gW X pins H2 b) (hc:∀C,Cm (cb X scope (vars++caps.map (·.2)) C s2 H2 fp))
  {W:Nat->Nat->List V->Hp->Prop} {m0:Nat} (w0:W 0 m0 [] H2) (turn:∀i m ys H,W i m ys H ->
   (J.stop i H/\ys.length<=sizeLine/\∀p,H p=none->Q (.ref p) (upd H p (.lst ys)))\/
   (J.go i H/\ys.length<sizeLine/\∀x H',J.yld i H x H'->g x (vars.map (λ_=>none)++dP σ caps) H' λσ2 H2=>vh (vars.map (λ_=>none)++dP σ caps) σ2/\tt σ2 H2 λb H3=>if b=true then te σ2 H3 λy H4=>∃m',m'<m/\W (i+1) m' (ys++[y]) H4 else ∃m',m'<m/\W (i+1) m' ys H3))
  {RR:Value->Addr->Result->Shared->Prop} {E:Value->Shared->Prop}
  (hRR:∀D C s' m,s'.heap.Ns C m->D≠C->s2.heap.objs.size<=D->s2.heap.objs.size<=C->∀H',H' C=none->(∀h',Heap.SameBut C s'.heap h'->Inv X pins σ H' {s' with heap:=h'})->Q (.ref D) H'->RR (.ref D) C (.ok .next) s'):
  wpAny (model X.prog X.w) X.A (newList []) (λacc s₃=>wpAny (model X.prog X.w) X.A (newFunctionEnv scope X.env.globals (gQ X.env scope.names []) [] X.env.qual none .none (some X.env)) (λcenv s₄=>
   codeAny (model X.prog X.w) X.A (.compStart (.ListComp elt [⟨tg,iter,[cnd],0⟩] scope pos) 0 (.ref it) acc {cenv with scope:=relabel scope X.env}) (RR acc cenv.locals) s₄) E s₃) E s2:=by
 refine wpAny_newObj_type (wpAny_newFunctionEnv B.cell (by intro y hy;simp at hy) (λh₁ hns₁ hsb₁=>?_) B.kind);dsimp only at hns₁ hsb₁ ⊢;generalize hP:s2.heap.push {cls:=.type "list",dict:=none,data:=.seq ([]:List Value).toArray}=HP at hns₁ hsb₁ ⊢;have hCs:HP.objs.size=s2.heap.objs.size+1:=by rw[<-hP,Heap.size_push]
 have hDC:s2.heap.objs.size≠HP.objs.size:=by rw[hCs];exact Nat.ne_of_lt (Nat.lt_succ_self _)
 have hCle:s2.heap.objs.size<=HP.objs.size:=by rw[hCs];exact Nat.le_succ _
 have old:∀b o,s2.heap.get? b=some o->h₁.get? b=some o:=λb o e=>hsb₁.extBut b o (Nat.ne_of_lt (Nat.lt_of_lt_of_le (Heap.lt_size e) hCle)) (Heap.get?_push_of_some _ (hP ▸ Heap.get?_push_of_some _ e))
 have hacc:h₁.PlainList s2.heap.objs.size #[]:=⟨_,hsb₁.extBut _ _ hDC (Heap.get?_push_of_some _ (hP ▸ Heap.get?_push_size _ rfl))⟩;have flt:∀b∈fp,b<s2.heap.objs.size:=λb hb=>by
  obtain⟨o,e,_⟩:=T.obj _ _ st2 b hb;exact Heap.lt_size e
 have st1:tn 0 h₁:=T.keep _ _ _ st2 λb _ o e=>old b o e
 have loop:∀s3:Shared,s3={s2 with heap:=h₁,toks:=s2.toks+([]:List (Str×Value)).length} ->
   codeAny (model X.prog X.w) X.A (.compLoop (.ListComp elt [⟨tg,iter,[cnd],0⟩] scope pos) 0 (.ref it) (.ref s2.heap.objs.size) (compEnvC scope (gQ X.env scope.names []) HP.objs.size X.env))
    (RR (.ref s2.heap.objs.size) HP.objs.size) s3:=by
  rintro s3 rfl;have X':=cb X scope (vars++caps.map (·.2)) HP.objs.size s2 H2 fp;have fpo:∀{H':Hp},(∀b∈fp,H' b=none)->∀b∈fp,gW (cb X scope (vars++caps.map (·.2)) HP.objs.size s2 H2 fp) [] H' b:=λhn b hb=>by
   have ok:=sS B I2 f2 flt hCle;exact⟨hn b hb,(ok.exf b hb).1,ok.exfs b hb,.inl hb,(ok.exf b hb).2,λp hp=>absurd (show p∈([]:List (Addr×Obj))from hp) (by simp)⟩
  refine jm (λn s=>∃i ys H its,Inv (cb X scope (vars++caps.map (·.2)) HP.objs.size s2 H2 fp) [] (vars.map (λ_=>none)++dP σ caps) H s/\tn i s.heap/\(∀b∈fp,H b=none)/\s.heap.PlainList s2.heap.objs.size (List.toArray its)/\H s2.heap.objs.size=none/\Vals ys its/\W i n ys H) ?_ m0
   ⟨0,[],H2,[],u9 B I2 f2 flt hCle hns₁ old,st1,λb hb=>(f2 b hb).1,hacc,I2.hok.fresh (Nat.le_refl _),.nil,w0⟩
  rintro n s4 ⟨i,ys,H4,its,I4,st4,fr4,pl4,nD4,v4,w4⟩;obtain⟨nn,eD⟩:=id pl4;have DnL:s2.heap.objs.size≠(cb X scope (vars++caps.map (·.2)) HP.objs.size s2 H2 fp).env.locals:=hDC;have Dfs:s2.heap.objs.size∉(cb X scope (vars++caps.map (·.2)) HP.objs.size s2 H2 fp).fs:=λz=>by
   rcases List.mem_cons.mp (I2.stkSub _ z)with q|q
   .have:=I2.lt;rw[<-q]at this;exact Nat.lt_irrefl _ this
   .exact I2.nofs (Nat.le_refl _) q
  have Dfp:∀b∈fp,s2.heap.objs.size≠b:=λb hb z=>by have:=flt b hb;rw[<-z]at this;exact Nat.lt_irrefl _ this
  have DnC:∀x c,(cb X scope (vars++caps.map (·.2)) HP.objs.size s2 H2 fp).env.cells.lookup x=some c->c≠s2.heap.objs.size:=λx c e z=>by
   rcases bc _ _ _ _ (B.cells I2) e with q|q
   .cases q
   .obtain⟨v,o,ho,_⟩:=I2.cell x c q
    have:=Heap.lt_size ho;rw[z]at this;exact Nat.lt_irrefl _ this
  have pinD:∀{σ':St} {H':Hp} {s':Shared},Inv (cb X scope (vars++caps.map (·.2)) HP.objs.size s2 H2 fp) [(s2.heap.objs.size,{cls:=.type "list",data:=.seq its.toArray nn})] σ' H' s'->s'.heap.PlainList s2.heap.objs.size its.toArray/\H' s2.heap.objs.size=none:=λ{σ' H' s'} I'=>by
   obtain⟨q1,q2,_⟩:=I'.pin (s2.heap.objs.size,{cls:=.type "list",data:=.seq its.toArray nn}) (by simp[cb]);exact⟨⟨nn,q1⟩,q2⟩
  have I4p:Inv (cb X scope (vars++caps.map (·.2)) HP.objs.size s2 H2 fp) [(s2.heap.objs.size,{cls:=.type "list",data:=.seq its.toArray nn})] (vars.map (λ_=>none)++dP σ caps) H4 s4:=
   I4.pins_of λp hp=>by
    have e:p=(s2.heap.objs.size,{cls:=.type "list",data:=.seq its.toArray nn}):=by simpa[cb]using hp
    subst e;exact⟨eD,nD4,DnL,Dfs,λv z=>by cases z⟩
  have fpo':∀{H':Hp},(∀b∈fp,H' b=none)->∀b∈fp,gW (cb X scope (vars++caps.map (·.2)) HP.objs.size s2 H2 fp) [(s2.heap.objs.size,{cls:=.type "list",data:=.seq its.toArray nn})] H' b:=λhn b hb=>by
   obtain⟨q1,q2,q3,q4,q5,_⟩:=fpo hn b hb;exact⟨q1,q2,q3,q4,q5,λp hp=>by
    have e:p=(s2.heap.objs.size,{cls:=.type "list",data:=.seq its.toArray nn}):=by simpa[cb]using hp
    subst e;exact Dfp b hb⟩
  have unp:∀{pl:List (Addr×Obj)} {σ':St} {H':Hp} {s':Shared},Inv (cb X scope (vars++caps.map (·.2)) HP.objs.size s2 H2 fp) pl σ' H' s'->Inv (cb X scope (vars++caps.map (·.2)) HP.objs.size s2 H2 fp) [] σ' H' s':=λ{pl σ' H' s'} I'=>
   I'.pins_of λp hp=>absurd (show p∈([]:List (Addr×Obj))from hp) (by simp)
  rcases turn i n ys H4 w4 with⟨stop,hz,qn⟩|⟨go,hz,step⟩
  .refine bu (T.done (cb X scope (vars++caps.map (·.2)) HP.objs.size s2 H2 fp) rfl rfl rfl (hc _) i _ s4 _ H4 _ I4p (fpo' fr4) st4 stop) λr s5 ⟨hr,I5⟩=>?_
   subst hr;obtain⟨p5,n5⟩:=pinD I5;obtain⟨m5,ns5,_⟩:=I5.loc;refine hRR _ _ s5 m5 ns5 hDC (Nat.le_refl _) hCle _ ?_ (λh' hs'=>u8 I2 f2 hCle (Nat.le_refl _) hDC (unp I5) n5 p5 v4 hz hs') (qn _ n5)
   rw[az hDC.symm];exact I5.free
  .refine bu (T.item (cb X scope (vars++caps.map (·.2)) HP.objs.size s2 H2 fp) rfl rfl rfl (hc _) i _ s4 _ H4 _ I4p (fpo' fr4) st4 go) λr s5 ⟨u,hr,h5⟩=>?_
   subst hr;refine bu h5 λ_ s6 ⟨x,H6,I6,rx,yx,st6,fr6⟩=>?_
   have I6p:=I6.pinned (fpo' fr6) (T.obj _ _ st6);refine bu (hg _ _ _ _ _ s6 _ H6 x u _ I6p rx (step x H6 yx)) λ_ s7 ⟨σ7,H7,I7,kp,q7⟩=>?_
   refine bu (hb _ _ _ _ _ s7 σ7 H7 _ I7 q7) λokb s7' q7'=>?_
   obtain⟨H7',I7',q7'⟩:=q7';cases okb with
   |false=>
    obtain⟨m',hm,w8⟩:=q7';rw[if_neg (by decide)];obtain⟨p8,n8⟩:=pinD I7'.unpinned;have st8:tn (i+1) s7'.heap:=T.keep _ _ _ st6 λb hb o e=>(I7'.pin (b,o) (List.mem_append_right _ (List.mem_append_right _ (bR hb e)))).1
    have fr8:∀b∈fp,H7' b=none:=λb hb=>by
     obtain⟨o,e,d⟩:=T.obj _ _ st6 b hb;exact(I7'.pin (b,o) (List.mem_append_right _ (List.mem_append_right _ (bR hb e)))).2.1
    exact⟨m',hm,i+1,ys,H7',its,(unp I7').weak kp.1 kp.2,st8,fr8,p8,n8,v4,w8⟩
   |true=>
   rw[if_pos rfl];rw[if_pos rfl]at q7';refine bu (he _ _ _ _ _ s7' σ7 H7' _ I7' q7') λv s8 ⟨y,H8,I8,ry,m',hm,w8⟩=>?_
   obtain⟨p8,n8⟩:=pinD I8.unpinned;have st8:tn (i+1) s8.heap:=T.keep _ _ _ st6 λb hb o e=>(I8.pin (b,o) (List.mem_append_right _ (List.mem_append_right _ (bR hb e)))).1
   have fr8:∀b∈fp,H8 b=none:=λb hb=>by
    obtain⟨o,e,d⟩:=T.obj _ _ st6 b hb;exact(I8.pin (b,o) (List.mem_append_right _ (List.mem_append_right _ (bR hb e)))).2.1
   have hl:=v4.length;refine wpAny_list_append_plain p8 (λh9 p9 sb9=>⟨m',hm,i+1,ys++[y],H8,its++[v],?_,?_,fr8,by simpa using p9,n8,v4.append (.cons ry .nil),w8⟩) (by simp;lia)
   .have I9:Inv (cb X scope (vars++caps.map (·.2)) HP.objs.size s2 H2 fp) [] σ7 H8 {s8 with heap:=h9,toks:=s8.toks}:=
     (unp I8).turned (it:=s2.heap.objs.size) (λb o hb e=>sb9.extBut b o hb e) n8 DnL (.inr (Nat.le_refl _)) DnC λp hp=>absurd (show p∈([]:List (Addr×Obj))from hp) (by simp)
    exact I9.weak kp.1 kp.2
   .exact T.keep _ _ _ st8 λb hb o e=>sb9.extBut b o (Dfp b hb).symm e
 exact codeAny_compStart_list (loop _ rfl) (T.self _ 0 _ _ _ st1 (loop _ rfl))
theorem xC(B:BlkOk X.env.scope.names X.N scope vars caps)(hc:X.calm=true)(hi:PI X tg iter wi)
  (hg:∀C s₀ H₀ ex,PG (cb X scope (vars++caps.map (·.2)) C s₀ H₀ ex) tg g) (hb:∀C s₀ H₀ ex,PT (cb X scope (vars++caps.map (·.2)) C s₀ H₀ ex) cnd tt) (he:∀C s₀ H₀ ex,PE (cb X scope (vars++caps.map (·.2)) C s₀ H₀ ex) elt te) (hs:∀x,foldedSetIterable iter X.env x=pure x:=by intro _;rfl):
  PE X (.ListComp elt [⟨tg,iter,[cnd],0⟩] scope pos) (rn wi g tt te vars caps):=by
 intro pins s σ H Q I h;rw[eval_ListComp];refine wpAny_comprehension_free (use:=none) rfl hs (cW (B.cells I)) B.kind B.names ?_;show wpAny _ _ (eval iter X.env) _ _ s;refine bu (hi pins s σ H _ I h) λv s1 h1=>bu h1 λitv s2 h2=>?_
 obtain⟨it,fp,tn,J,H2,e,I2,T,st2,f2,W,⟨m0,w0⟩,turn⟩:=h2;subst e;exact jH (Cm:=λX=>X.calm=true) B hg hb he I2 T st2 f2 (λ_=>hc) w0 turn (RR:=λacc C=>compPost (model X.prog X.w) X.A X.xe none (EP X pins σ Q) acc C) λD C s' m ns _ _ _ H' _ k q=>⟨m,ns,λh' hs'=>⟨.ref D,H',k h' hs',rfl,q⟩⟩
theorem xq{i:Nat}{y:Str}{py spos:Pos}(B:BlkOk X.env.scope.names X.N scope vars caps)(hc:X.calm=true)(hi:PI X tg iter wi)
  (hg:∀C s₀ H₀ ex,PG (cb X scope (vars++caps.map (·.2)) C s₀ H₀ ex) tg g) (hb:∀C s₀ H₀ ex,PT (cb X scope (vars++caps.map (·.2)) C s₀ H₀ ex) cnd tt) (he:∀C s₀ H₀ ex,PE (cb X scope (vars++caps.map (·.2)) C s₀ H₀ ex) elt te)
  (hN:X.N.Nodup) (hy:X.N[i]? = some y) (hx:qY X.env.scope y) (hsw:swapsWith (.ListComp elt [⟨tg,iter,[cnd],0⟩] scope pos) (some (.Name y py)) spos.line X.env=pure true)
  (hf:X.fn y=true\/X.env.scope.names.lookup y=some .local) (hs:∀x,foldedSetIterable iter X.env x=pure x:=by intro _;rfl):
  PS X (.Assign [.Name y py] (.ListComp elt [⟨tg,iter,[cnd],0⟩] scope pos) spos) (λD σ H=>rn wi g tt te vars caps σ H λv H1=>D.nx (σ.set i (some v)) H1):=by
 intro pins s σ H DE I h;rw[exec_Assign_Name_used _ _ _ _ hsw];refine wpAny_bind (wpAny_standAt (wpAny_bind ?_));show wpAny _ X.A (do let _ <-comprehension (.ListComp elt [⟨tg,iter,[cnd],0⟩] scope pos) scope X.env _ (newList []) false (eval iter X.env) (some (assign (.Name y py) X.env))) _ _ s;refine wpAny_bind (wpAny_mono (wpAny_comprehension_free (use:=some (assign (.Name y py) X.env)) (Q:=λ_ s'=>SP X pins DE .next s') rfl hs (cW (B.cells I)) B.kind B.names
  (bu (hi pins s σ H _ I h) λv s1 h1=>bu h1 λitv s2 h2=>?_)) (λ_ s' hq=>wpAny_pure (wpAny_pure hq)) λ_ _ e=>e)
 obtain⟨it,fp,tn,J,H2,e,I2,T,st2,f2,W,⟨m0,w0⟩,turn⟩:=h2;subst e;refine jH (Cm:=λX=>X.calm=true) (Q:=λv H1=>DE.nx (σ.set i (some v)) H1) B hg hb he I2 T st2 f2 (λ_=>hc) w0 turn (RR:=λacc C=>compPost (model X.prog X.w) X.A X.xe (some (assign (.Name y py) X.env)) (λ_ s'=>SP X pins DE .next s') acc C) ?_
 intro D C s' m ns hDC hD hC H' hHC k q;obtain⟨oC,es,ep,eC,dC,rC⟩:=ns;have I':Inv X pins σ H' s':=k s'.heap (Heap.SameBut.refl ..);have nL:C≠X.env.locals:=λz=>by have:=I2.lt;rw[<-z]at this;exact absurd (Nat.lt_of_lt_of_le this hC) (Nat.lt_irrefl _)
 have nF:C∉X.fs:=I2.nofs hC;have nCell:∀x c,X.env.cells.lookup x=some c->c≠C:=λx c e z=>by
  obtain⟨v,o,ho,_⟩:=I2.cell x c e;have:=Heap.lt_size ho;rw[z]at this;exact absurd (Nat.lt_of_lt_of_le this hC) (Nat.lt_irrefl _)
 have nPin:∀p∈X.pn++pins,p.1≠C:=λp hp z=>by
  have:=Heap.lt_size (I2.pin p hp).1;rw[z]at this;exact absurd (Nat.lt_of_lt_of_le this hC) (Nat.lt_irrefl _)
 have Ip:Inv X (pins++[(C,oC)]) σ H' s':=I'.pins_of λp hp=>by
  rcases List.mem_append.mp hp with z|z
  .exact I'.pin p (List.mem_append_right _ z)
  .have e:p=(C,oC):=by simpa using z
   subst e;exact⟨eC,hHC,nL,nF,λv z=>by rw[dC]at z;cases z⟩
 refine bu (bw (pos:=py) hN hy hx hf _ s' σ H' (.ref D) (.ref D) (λσ' H''=>σ' = σ.set i (some (.ref D))/\H''=H'/\DE.nx σ' H'') Ip rfl ⟨rfl,rfl,q⟩) λ_ s'' ⟨σ'',H'',I'',e1,e2,q''⟩=>?_
 subst e1 e2;have eC'':s''.heap.get? C=some oC:=(I''.pin (C,oC) (List.mem_append_right _ (List.mem_append_right _ (by simp)))).1;refine⟨m,⟨oC,es,ep,eC'',dC,rC⟩,λh' hs'=>⟨_,H'',?_,q''⟩⟩
 exact I''.unpinned.turned (t':=s''.toks) (it:=C) (λb o hb e=>hs'.extBut b o hb e) hHC nL (.inr (Nat.le_trans I2.sz hC)) nCell nPin
end
noncomputable def eW(t:D->Option Bool)(f:D->Option D):List D->Option (List D)
 |[]=>some []
 |d::ds=>(t d).bind λb=>if b=true then(f d).bind λe=>(eW t f ds).bind λes=>some (e::es)else eW t f ds
@[simp] theorem F1{t:D->Option Bool}{f:D->Option D}:eW t f []=some []:=rfl
noncomputable def bP(fi:Dv->Option (List D))(caps:List (Nat×Str))(bv:D->Option (List D))(ft:Dv->Option Bool)(fe:Dv->Option D):Dv->Option D:=λδ=>(fi δ).bind λds=>if ds.length<=sizeLine then(eW (λd=>(bv d).bind λvs=>ft (vs.map .fz++bV δ caps)) (λd=>(bv d).bind λvs=>fe (vs.map .fz++bV δ caps)) ds).bind λes=>some (.list es)else none
theorem jk{t:D->Option Bool}{f:D->Option D}:∀{ds es:List D} {i:Nat} {d:D},eW t f ds=some es->ds[i]? = some d->∃xs,eW t f (ds.take i)=some xs/\∃b,t d=some b/\(b=false->eW t f (ds.take (i+1))=some xs)/\(b=true->∃e,f d=some e/\eW t f (ds.take (i+1))=some (xs++[e]))
 |[],es,i,d,h,q=>by simp at q
 |d::ds,es,i,d',h,q=>by
  obtain⟨b,h1,h⟩:=bind_some h;cases i with
  |zero=>
   simp at q;subst q;refine⟨[],rfl,b,h1,λhb=>?_,λhb=>?_⟩
   .subst hb;simp[eW,h1]
   .subst hb
    rw[if_pos rfl]at h;obtain⟨e,h2,h⟩:=bind_some h;exact⟨e,h2,by simp[eW,h1,h2]⟩
  |succ i=>
   simp at q;cases b with
   |false=>
    rw[if_neg (by decide)]at h;obtain⟨xs,g1,b',g2,g3,g4⟩:=jk (i:=i) h q;refine⟨xs,by simp[eW,h1,g1],b',g2,λhb=>by simpa[eW,h1]using g3 hb,λhb=>?_⟩
    obtain⟨e,k1,k2⟩:=g4 hb;exact⟨e,k1,by simpa[eW,h1]using k2⟩
   |true=>
    rw[if_pos rfl]at h;obtain⟨e0,h2,h⟩:=bind_some h;obtain⟨es',h3,h⟩:=bind_some h;obtain⟨xs,g1,b',g2,g3,g4⟩:=jk (i:=i) h3 q;refine⟨e0::xs,by simp[eW,h1,h2,g1],b',g2,λhb=>by simp[eW,h1,h2,g3 hb],λhb=>?_⟩
    obtain⟨e,k1,k2⟩:=g4 hb;exact⟨e,k1,by simp[eW,h1,h2,k2]⟩
theorem oz{t:D->Option Bool}{f:D->Option D}:∀{ds es:List D},eW t f ds=some es->es.length<=ds.length
 |[],es,h=>by cases h;exact Nat.le_refl _
 |d::ds,es,h=>by
  obtain⟨b,h1,h⟩:=bind_some h;cases b with
  |false=>rw[if_neg (by decide)]at h;exact Nat.le_succ_of_le (oz h)
  |true=>
   rw[if_pos rfl]at h;obtain⟨e0,h2,h⟩:=bind_some h;obtain⟨es',h3,h⟩:=bind_some h;cases h;exact Nat.succ_le_succ (oz h3)
section
variable{X:Cx}{scope:Scope}{vars:List Str}{caps:List (Nat×Str)}{elt tg iter cnd:Expr}{pos:Pos}{g:TG}{fi:Dv->Option (List D)}{ft:Dv->Option Bool}{fe:Dv->Option D}{bv:D->Option (List D)}
theorem lr(tk:qV X.K g vars.length bv){σ:St}{H:Hp}{Q:VK}(h:tV X.K (bP fi caps bv ft fe) σ H Q):rn (Gv X.K fi) g (Ed X.K ft) (tV X.K fe) vars caps σ H Q:=by
 obtain⟨H₀,Z₀,Z,δ,d,hh,e,k⟩:=h;obtain⟨ds,e1,e⟩:=bind_some e;by_cases hz:ds.length<=sizeLine
 .rw[if_pos hz]at e
  obtain⟨es,e2,e⟩:=bind_some e;cases e;have hv:vars.map (λ_=>(none:Option V))=List.replicate vars.length none:=by rw[List.map_const']
  refine⟨H₀,Z₀,Z,δ,ds,hh,e1,λJ Z1 H1 hh1 t1 ok=>?_⟩
  refine⟨λi m ys H=>m=ds.length-i/\i<=ds.length/\∃Zc xs,Hold X.K H₀ Z₀ Zc δ σ H/\Same Z1 Zc/\eW (λd=>(bv d).bind λvs=>ft (vs.map .fz++bV δ caps)) (λd=>(bv d).bind λvs=>fe (vs.map .fz++bV δ caps)) (ds.take i)=some xs/\Reps X.K Zc ys xs,⟨ds.length,by simp,Nat.zero_le _,Z1,[],hh1,Same.refl _,rfl,.nil⟩,?_⟩
  rintro i m ys H2 ⟨rfl,hi2,Zc,xs,hhc,tc,fx,rc⟩;have zh:Same Z1 H2:=tc.trans hhc.zh;have ly:=rc.length;have lx:=oz fx;rw[List.length_take]at lx;by_cases hlt:i<ds.length
  .refine .inr ⟨ok.go i H2 zh hlt,by lia,λx H3 y=>?_⟩
   have ed:ds[i]? = some ds[i]:=by simp[hlt]
   obtain⟨rfl,rx⟩:=ok.yld i H2 x H3 _ zh ed y;obtain⟨xs',f0,b,fb,ff,ftr⟩:=jk e2 ed;rw[fx]at f0;cases f0;obtain⟨vs,f3,f1⟩:=bind_some fb;rw[hv];refine tk x Zc ds[i] vs (dP σ caps) H3 _ (rx.same tc) hhc.zh f3 λus ru hn=>⟨⟨by simp[hn],λj v q=>?_⟩,?_⟩
   .by_cases hj:j<vars.length
    .rw[List.getElem?_append_left (by simpa using hj),List.getElem?_replicate]at q
     split at q<;>cases q
    .rw[List.getElem?_append_right (by simpa using hj)]at q
     rw[List.getElem?_append_right (by simpa[hn]using hj)];simpa[hn]using q
   .refine⟨H3,Zc,Zc,_,b,lA hhc ru,f1,λZ3 H3' h3 t3=>?_⟩
    have hh3:=hhc.new ⟨t3,h3.h0,h3.zh,h3.zb,h3.nf⟩;cases b with
    |false=>
     dsimp only;rw[if_neg (by decide)];exact⟨ds.length-(i+1),by lia,rfl,hlt,Z3,xs,hh3,tc.trans t3,ff rfl,rc.same t3⟩
    |true=>
     dsimp only;rw[if_pos rfl];obtain⟨ei,f2,f4⟩:=ftr rfl;rw[f3]at f2;refine⟨H3,Zc,Z3,_,ei,h3,f2,λv Z4 H4 h4 t4 r4=>⟨ds.length-(i+1),by lia,rfl,hlt,Z4,xs++[ei],?_,(tc.trans t3).trans t4,f4,((rc.same t3).same t4).append (.cons r4 .nil)⟩⟩
     exact hhc.new ⟨t3.trans t4,h4.h0,h4.zh,h4.zb,h4.nf⟩
  .have hie:i=ds.length:=by lia
   subst hie;refine .inl ⟨ok.stop _ H2 zh (Nat.le_refl _),by lia,λp hp=>?_⟩
   rw[List.take_length,e2]at fx;cases fx;have n:=New.add hhc.zh hp (.lst ys);exact k _ _ _ (hhc.new n) ((t1.trans tc).trans n.z) (.lst (SqL.of aC) (rc.same n.z))
 .rw[if_neg hz]at e;cases e
theorem dc(B:BlkOk X.env.scope.names X.N scope vars caps)(hc:X.calm=true)(hi:IV X tg iter fi)(tk:qV X.K g vars.length bv)
  (hg:∀C s₀ H₀ ex,PG (cb X scope (vars++caps.map (·.2)) C s₀ H₀ ex) tg g) (hb:∀C s₀ H₀ ex,TV (cb X scope (vars++caps.map (·.2)) C s₀ H₀ ex) cnd ft) (he:∀C s₀ H₀ ex,EV (cb X scope (vars++caps.map (·.2)) C s₀ H₀ ex) elt fe) (hs:∀x,foldedSetIterable iter X.env x=pure x:=by intro _;rfl):
  EV X (.ListComp elt [⟨tg,iter,[cnd],0⟩] scope pos) (bP fi caps bv ft fe):=
 PE.imp (xC (tt:=Ed X.K ft) (te:=tV X.K fe) B hc hi hg hb he hs) λ_ _ _ h=>lr tk h
theorem kc(i:Nat){y:Str}{py spos:Pos}(hN:X.N.Nodup)(B:BlkOk X.env.scope.names X.N scope vars caps)(hc:X.calm=true)(hi:IV X tg iter fi)(tk:qV X.K g vars.length bv)
  (hg:∀C s₀ H₀ ex,PG (cb X scope (vars++caps.map (·.2)) C s₀ H₀ ex) tg g) (hb:∀C s₀ H₀ ex,TV (cb X scope (vars++caps.map (·.2)) C s₀ H₀ ex) cnd ft) (he:∀C s₀ H₀ ex,EV (cb X scope (vars++caps.map (·.2)) C s₀ H₀ ex) elt fe)
  (hy:X.N[i]? = some y:=by rfl) (hx:qY X.env.scope y:=by first|exact Or.inl rfl|exact Or.inr rfl) (hsw:swapsWith (.ListComp elt [⟨tg,iter,[cnd],0⟩] scope pos) (some (.Name y py)) spos.line X.env=pure true:=by rfl)
  (hf:X.fn y=true\/X.env.scope.names.lookup y=some .local:=by first|exact .inl rfl|exact .inr rfl|assumption) (hs:∀x,foldedSetIterable iter X.env x=pure x:=by intro _;rfl):
  SV X (.Assign [.Name y py] (.ListComp elt [⟨tg,iter,[cnd],0⟩] scope pos) spos) (aE i (bP fi caps bv ft fe)):=
 PS.imp (xq (tt:=Ed X.K ft) (te:=tV X.K fe) B hc hi hg hb he hN hy hx hsw hf hs) λD σ H h=>by
  obtain⟨H₀,Z₀,Z,δ,r,hh,e,k⟩:=h;obtain⟨x,e1,e⟩:=bind_some e;cases e;exact lr tk ⟨H₀,Z₀,Z,δ,x,hh,e1,λv Z1 H1 hh1 s1 r1=>k _ H1 Z1 (hh1.set r1) s1⟩
end
noncomputable def wg:D->Bool
 |.none=>true
 |.bool _=>true
 |.int _=>true
 |.str _=>true
 |_=>false
noncomputable def Dn(x:D)(ds:List D):Bool:=ds.any λy=>PyData.eqv y x
noncomputable def wE(neg:Bool):D->D->Option D:=λa b=>(aY b).bind λds=>if wg a=true/\ds.all wg=true then some (.bool (if neg=true then !Dn a ds else Dn a ds))else none
theorem Rep.flat{K:Fg}{Z:Hp}{v:V}{d:D}(r:Rep K Z v d):fQ v=wg d:=by cases r<;>rfl
theorem Rep.eqF{K:Fg}{Z:Hp}{v u:V}{d e:D}(r:Rep K Z v d)(q:Rep K Z u e)(h1:wg d=true)(h2:wg e=true):zu v u=PyData.eqv d e:=by
 cases r<;>first|(cases q<;>first|rfl|cases h2)|cases h1
theorem Reps.allF{K:Fg}{Z:Hp}:∀{vs:List V} {ds:List D},Reps K Z vs ds->vs.all fQ=ds.all wg
 |_,_,.nil=>rfl
 |_,_,.cons r t=>by rw[List.all_cons,List.all_cons,r.flat,t.allF]
theorem Reps.inF{K:Fg}{Z:Hp}{x:V}{a:D}(q:Rep K Z x a)(h:wg a=true):∀{vs:List V} {ds:List D},Reps K Z vs ds->ds.all wg=true->GK x vs=Dn a ds
 |_,_,.nil,_=>rfl
 |_,_,.cons r t,f=>by
  rw[List.all_cons,Bool.and_eq_true]at f;show(zu _ x||GK x _)=(PyData.eqv _ a||Dn a _);rw[r.eqF q f.1 h,t.inF q h f.2]
theorem uz{K:Fg}{neg:Bool}{x y:V}{H:Hp}{Q:VK}(h:rD K (wE neg) x y H Q):GB K neg x y H Q:=by
 obtain⟨Z,a,b,d,zh,ra,rb,e,k⟩:=h;obtain⟨ds,e1,e⟩:=bind_some e;by_cases c:wg a=true/\ds.all wg=true
 .rw[if_pos c]at e
  cases e;have go:∀(xs:List V),Reps K Z xs ds->(∃p,y=.ref p/\(SqL K H p xs\/SqT K H p xs))->GB K neg x y H Q:=λxs r ⟨p,ey,hq⟩=>by
   refine⟨p,xs,ey,hq,by rw[ra.flat];exact c.1,by rw[r.allF];exact c.2,?_⟩;have:=r.inF ra c.1 c.2;rw[this];exact k _ Z H (New.refl zh) (.bl _)
  cases rb with
  |lst h q=>cases e1;exact go _ q ⟨_,rfl,.inl (SqL.same h zh)⟩
  |tup h q=>cases e1;exact go _ q ⟨_,rfl,.inr (SqT.same h zh)⟩
  |_=>cases e1
 .rw[if_neg c]at e;cases e
theorem Gb{X:Cx}:OpR X (compareOp .In) (rD X.K (wE false)):=OpR.imp vK λ_ _ _ _ h=>uz h
theorem AW{X:Cx}:OpR X (compareOp .NotIn) (rD X.K (wE true)):=OpR.imp nV λ_ _ _ _ h=>uz h
noncomputable def gT:List (D->Dv->Option Dv)->List D->Dv->Option Dv
 |[],[],δ=>some δ
 |g::gs,d::ds,δ=>(g d δ).bind λδ1=>gT gs ds δ1
 |_,_,_=>none
noncomputable def zt(gs:List (D->Dv->Option Dv)):D->Dv->Option Dv
 |.tuple ds,δ=>gT gs ds δ
 |_,_=>none
@[simp] theorem HQ(δ:Dv):gT [] [] δ = some δ:=rfl
@[simp] theorem GR(g:D->Dv->Option Dv)(gs:List (D->Dv->Option Dv))(d:D)(ds:List D)(δ:Dv):gT (g::gs) (d::ds) δ = (g d δ).bind λδ1=>gT gs ds δ1:=rfl
@[simp] theorem GQ(gs:List (D->Dv->Option Dv))(ds:List D)(δ:Dv):zt gs (.tuple ds) δ = gT gs ds δ:=rfl
theorem yA:∀{gs:List (D->Dv->Option Dv)} {ds:List D} {δ δ':Dv},gT gs ds δ = some δ'->ds.length=gs.length
 |[],[],_,_,_=>rfl
 |[],_::_,_,_,h=>by cases h
 |_::_,[],_,_,h=>by cases h
 |g::gs,d::ds,δ,δ',h=>by
  obtain⟨δ1,_,h⟩:=bind_some h;exact congrArg (· + 1) (yA h)
noncomputable def G6(K:Fg)(gs:List (D->Dv->Option Dv)):Bf:=λvs σ H Q=>∃H₀ Z₀ Z δ ds δ',Hold K H₀ Z₀ Z δ σ H/\Reps K Z vs ds/\gT gs ds δ = some δ'/\∀ σ' H' Z',Hold K H₀ Z₀ Z' δ' σ' H'->Same Z Z'->Q σ' H'
def GW(X:Cx)(es:List Expr)(gs:List (D->Dv->Option Dv)):Prop:=PGs X es (G6 X.K gs)
section
variable{X:Cx}{pos:Pos}{e:Expr}{es:List Expr}{g:D->Dv->Option Dv}{gs:List (D->Dv->Option Dv)}
theorem PGs.imp{t t':Bf}(h:PGs X es t)(i:∀v σ H Q,t' v σ H Q->t v σ H Q):PGs X es t':=λpins s σ H x v Q I r q=>h pins s σ H x v Q I r (i _ _ _ _ q)
theorem uA:GW X [] []:=PGs.imp Ah λvs σ H Q h=>by
 obtain⟨H₀,Z₀,Z,δ,ds,δ',hh,r,e,k⟩:=h;cases r with
 |nil=>cases e;exact⟨rfl,k σ H Z hh (Same.refl _)⟩
 |cons _ _=>cases e
theorem iK(h1:GV X e g)(h2:GW X es gs)(hs:(assignEach (e::es) X.env).map (·.2)=assign e X.env::(assignEach es X.env).map (·.2):=by rfl):GW X (e::es) (g::gs):=
 PGs.imp (xw h1 h2 hs) λvs σ H Q h=>by
  obtain⟨H₀,Z₀,Z,δ,ds,δ',hh,r,e,k⟩:=h;cases r with
  |nil=>cases e
  |cons r t=>
   obtain⟨δ1,e1,e⟩:=bind_some e;exact⟨_,_,rfl,H₀,Z₀,Z,δ,_,δ1,hh,r,e1,λσ1 H1 Z1 hh1 s1=>⟨H₀,Z₀,Z1,δ1,_,δ',hh1,t.same s1,e,λσ2 H2 Z2 hh2 s2=>k σ2 H2 Z2 hh2 (s1.trans s2)⟩⟩
theorem yu{k:Nat}(hc:X.calm=true)(h:GW X es gs)(hn:(assignEach es X.env).length=gs.length:=by rfl)(hst:(assignEach es X.env).findIdx? (·.1)=none:=by rfl):GV X (.Tuple es k pos) (zt gs):=
 PG.imp (CD hc h hn hst) λv σ H Q h=>by
  obtain⟨H₀,Z₀,Z,δ,d,δ',hh,r,e,k⟩:=h;cases r with
  |tup q t=>
   have el:_=gs.length:=yA (gs:=gs) e;exact⟨_,_,rfl,SqT.same q hh.zh,by rw[t.length];exact el,H₀,Z₀,Z,δ,_,δ',hh,t,e,k⟩
  |_=>cases e
end
theorem bJ{g:D->Dv->Option Dv}{b:Sf}{d:D}{ds:List D}{δ δ1 δ2:Dv}(h1:g d δ = some δ1)(h2:b δ1=some (.nx,δ2)):loop g b (d::ds) δ = loop g b ds δ2:=by
 show((g d δ).bind λδ1=>_)=_
 rw[h1,Option.bind_some,h2];rfl
def tO(K:Fg)(f:Dv->Option (List D)):TE:=λσ H Q=>∃H₀ Z₀ Z δ ds,Hold K H₀ Z₀ Z δ σ H/\f δ = some ds/\∀p vs Z' H',Hold K H₀ Z₀ Z' δ σ H'->Same Z Z'->H' p=none->Reps K Z' vs ds->Q (.ref p) (upd H' p (.lst vs))
def EO(X:Cx)(e:Expr)(f:Dv->Option (List D)):Prop:=PE X e (tO X.K f)
noncomputable def GD(f:Dv->Option D):Dv->Option (List D):=λδ=>(f δ).bind xU
@[simp] noncomputable def mD(i:Nat)(f:Dv->Option (List D)):Sf:=λδ=>(f δ).bind λds=>some (.nx,δ.set i (.ow ds))
section
variable{X:Cx}{e:Expr}{es:List Expr}{p pos:Pos}{f:Dv->Option (List D)}{fs:Dv->Option (List D)}
theorem pV{K:Fg}{D:Ends}{i:Nat}{σ:St}{H:Hp}(h:Bo K (mD i f) D σ H):tO K f σ H λv H1=>D.nx (σ.set i (some v)) H1:=by
 obtain⟨H₀,Z₀,Z,δ,r,hh,e,k⟩:=h;obtain⟨ds,e1,e⟩:=bind_some e;cases e;exact⟨H₀,Z₀,Z,δ,ds,hh,e1,λp vs Z1 H1 hh1 t1 hp r1=>k _ _ Z1 (hh1.setO hp r1) t1⟩
theorem zH(i:Nat){x:Str}{pos':Pos}(hN:X.N.Nodup)(ha:EO X e f)(hi:X.N[i]? = some x:=by rfl)(hx:qY X.env.scope x:=by first|exact Or.inl rfl|exact Or.inr rfl)(hs:swapsWith e (some (.Name x pos')) pos.line X.env=pure false:=by rfl)
  (hf:X.fn x=true\/X.env.scope.names.lookup x=some .local:=by first|exact .inl rfl|exact .inr rfl|assumption):SV X (.Assign [.Name x pos'] e pos) (mD i f):=
 PS.imp (gE hN hi hx ha hs hf) λD σ H h=>pV h
noncomputable def IF(fs:Dv->Option (List D)):Dv->Option (List D):=λδ=>(fs δ).bind λas=>match as with
 |[d]=>aY d
 |_=>none
theorem AS(hg:Gl X "list")(hm:X.mg "list" = none)(ha:AV X (e::es) fs)(he:starEach (e::es) X.env=(false,eval e X.env)::starEach es X.env:=by rfl)(hpl:(backTo pos (starEach es X.env)).any (·.1)=false:=by rfl):EO X (.Call (.Name "list" p) (e::es) [] pos) (IF fs):=
 PE.imp (i7 oQ hg hm (by decide+kernel) ha (by decide) (by decide) he hpl) λσ H Q h=>by
  obtain⟨H₀,Z₀,Z,δ,ds,hh,e,k⟩:=h;obtain⟨as,e1,e⟩:=bind_some e;refine⟨H₀,Z₀,Z,δ,as,hh,e1,λvs Z1 H1 hh1 t1 r1=>?_⟩
  cases r1 with
  |nil=>cases e
  |cons r1 r2=>
   cases r2 with
   |cons _ _=>cases e
   |nil=>
    cases r1 with
    |lst h1 q1=>cases e;exact⟨_,_,rfl,.inl (SqL.same h1 hh1.zh),λl hl=>k l _ Z1 H1 hh1 t1 hl q1⟩
    |tup h1 q1=>cases e;exact⟨_,_,rfl,.inr (SqT.same h1 hh1.zh),λl hl=>k l _ Z1 H1 hh1 t1 hl q1⟩
    |_=>cases e
end
section
variable{X:Cx}{scope:Scope}{vars:List Str}{caps:List (Nat×Str)}{elt tg iter cnd:Expr}{pos:Pos}{g:TG}{fi:Dv->Option (List D)}{ft:Dv->Option Bool}{fe:Dv->Option D}{bv:D->Option (List D)}
theorem sK(tk:qV X.K g vars.length bv){σ:St}{H:Hp}{Q:VK}(h:tO X.K (GD (jA fi caps bv fe)) σ H Q):tu (Gv X.K fi) g (tV X.K fe) vars caps σ H Q:=by
 obtain⟨H₀,Z₀,Z,δ,d0,hh,e0,k⟩:=h;obtain⟨d,e,e0⟩:=bind_some e0;obtain⟨ds,e1,e⟩:=bind_some e;by_cases hz:ds.length<=sizeLine
 .rw[if_pos hz]at e
  obtain⟨es,e2,e⟩:=bind_some e;cases e;obtain rfl:es=d0:=Option.some.inj e0;have le:=fL e2;have hv:vars.map (λ_=>(none:Option V))=List.replicate vars.length none:=by rw[List.map_const']
  refine⟨H₀,Z₀,Z,δ,ds,hh,e1,λJ Z1 H1 hh1 t1 ok=>?_⟩
  refine⟨λi m ys H=>m=ds.length-i/\i<=ds.length/\∃Zc,Hold X.K H₀ Z₀ Zc δ σ H/\Same Z1 Zc/\Reps X.K Zc ys (es.take i),⟨ds.length,by simp,Nat.zero_le _,Z1,hh1,Same.refl _,by simpa using .nil⟩,?_⟩
  rintro i m ys H2 ⟨rfl,hi2,Zc,hhc,tc,rc⟩;have zh:Same Z1 H2:=tc.trans hhc.zh;have ly:=rc.length;rw[List.length_take]at ly;by_cases hlt:i<ds.length
  .refine .inr ⟨ok.go i H2 zh hlt,by lia,λx H3 y=>?_⟩
   have ed:ds[i]? = some ds[i]:=by simp[hlt]
   obtain⟨rfl,rx⟩:=ok.yld i H2 x H3 _ zh ed y;obtain⟨ei,f1,f2⟩:=kE e2 ed;obtain⟨vs,f3,f1⟩:=bind_some f1;rw[hv];refine tk x Zc ds[i] vs (dP σ caps) H3 _ (rx.same tc) hhc.zh f3 λus ru hn=>⟨⟨by simp[hn],λj v q=>?_⟩,?_⟩
   .by_cases hj:j<vars.length
    .rw[List.getElem?_append_left (by simpa using hj),List.getElem?_replicate]at q
     split at q<;>cases q
    .rw[List.getElem?_append_right (by simpa using hj)]at q
     rw[List.getElem?_append_right (by simpa[hn]using hj)];simpa[hn]using q
   .refine⟨H3,Zc,Zc,_,ei,lA hhc ru,f1,λv Z4 H4 h4 t4 r4=>⟨ds.length-(i+1),by lia,rfl,hlt,Z4,hhc.new ⟨t4,h4.h0,h4.zh,h4.zb,h4.nf⟩,tc.trans t4,?_⟩⟩
    have:es.take (i+1)=es.take i++[ei]:=by
     rw[List.take_add_one,f2];rfl
    rw[this];exact(rc.same t4).append (.cons r4 .nil)
  .have hie:i=ds.length:=by lia
   subst hie;refine .inl ⟨ok.stop _ H2 zh (Nat.le_refl _),by lia,λp hp=>?_⟩
   rw[<-le,List.take_length]at rc;exact k p ys Zc _ hhc (t1.trans tc) hp rc
 .rw[if_neg hz]at e;cases e
theorem wQ(i:Nat){y:Str}{py spos:Pos}(hN:X.N.Nodup)(B:BlkOk X.env.scope.names X.N scope vars caps)(hc:X.calm=true)(hi:IV X tg iter fi)(tk:qV X.K g vars.length bv)
  (hg:∀C s₀ H₀ ex,PG (cb X scope (vars++caps.map (·.2)) C s₀ H₀ ex) tg g) (he:∀C s₀ H₀ ex,EV (cb X scope (vars++caps.map (·.2)) C s₀ H₀ ex) elt fe)
  (hy:X.N[i]? = some y:=by rfl) (hx:qY X.env.scope y:=by first|exact Or.inl rfl|exact Or.inr rfl) (hsw:swapsWith (.ListComp elt [⟨tg,iter,[],0⟩] scope pos) (some (.Name y py)) spos.line X.env=pure true:=by rfl)
  (hf:X.fn y=true\/X.env.scope.names.lookup y=some .local:=by first|exact .inl rfl|exact .inr rfl|assumption) (hs:∀x,foldedSetIterable iter X.env x=pure x:=by intro _;rfl):
  SV X (.Assign [.Name y py] (.ListComp elt [⟨tg,iter,[],0⟩] scope pos) spos) (mD i (GD (jA fi caps bv fe))):=
 PS.imp (Aa (te:=tV X.K fe) B hc hi hg he hN hy hx hsw hf hs) λD σ H h=>sK tk (pV h)
end
noncomputable def vy(t:Sf):Fl×Dv->Option (Fl×Dv)
 | (.nx,δ)=>t δ
 |r=>some r
@[simp] theorem Gy(t:Sf)(δ:Dv):vy t (.nx,δ)=t δ:=rfl
@[simp] theorem Gx(t:Sf)(d:D)(δ:Dv):vy t (.rt d,δ)=some (.rt d,δ):=rfl
@[simp] theorem GA(t:Sf)(δ:Dv):vy t (.bk,δ)=some (.bk,δ):=rfl
@[simp] theorem Gz(t:Sf)(δ:Dv):vy t (.ct,δ)=some (.ct,δ):=rfl
noncomputable def GM(u w:Sf)(δ:Dv):Bool->Option (Fl×Dv)
 |true=>u δ
 |false=>w δ
@[simp] theorem IJ(u w:Sf)(δ:Dv):GM u w δ true=u δ:=rfl
@[simp] theorem IK(u w:Sf)(δ:Dv):GM u w δ false=w δ:=rfl
theorem nN(s t:Sf)(δ:Dv):aB s t δ = (s δ).bind (vy t):=by
 unfold aB vy;congr 1
theorem tN(t:Dv->Option Bool)(u w:Sf)(δ:Dv):fm t u w δ = (t δ).bind (GM u w δ):=by
 unfold fm;congr 1;funext c;cases c<;>rfl
noncomputable def iH:List D->Option (List Int)
 |[]=>some []
 |.int b::r=>(iH r).map (b :: ·)
 |_=>none
noncomputable def zJ:List D->Option D
 |[.list xs]=>(iH xs).map λbs=>.int bs.sum
 |_=>none
theorem mS{α:Type}(f:α -> Int):∀xs:List α,iH (xs.map λa=>.int (f a))=some (xs.map f)
 |[]=>rfl
 |a::r=>by simp[iH,mS f r]
theorem wR{α:Type}(f:α -> Int)(xs:List α):zJ [.list (xs.map λa=>.int (f a))]=some (.int (xs.map f).sum):=by
 simp[zJ,mS]
noncomputable def EZ:D->Option D
 |.list xs=>some (.list xs.reverse)
 |_=>none
@[simp] theorem Ck(xs:List D):EZ (.list xs)=some (.list xs.reverse):=rfl
noncomputable def E1:D->Option (List D)
 |.list xs=>some xs.reverse
 |.tuple xs=>some xs.reverse
 |_=>none
@[simp] theorem Eh(xs:List D):E1 (.list xs)=some xs.reverse:=rfl
@[simp] theorem Cl(xs:List D):E1 (.tuple xs)=some xs.reverse:=rfl
@[simp] noncomputable def IA:Sf:=λ_=>none
@[simp] noncomputable def Jh(i:Nat)(f:Dv->Option D):Sf:=λδ=>(f δ).bind λv=>(aY v).bind λes=>(wA δ[i]?).bind λds=>if ds.length+es.length<=sizeLine then some (.nx,δ.set i (.ow (ds++es)))else none
section
variable{X:Cx}{e:Expr}{es:List Expr}{p pos tpos apos:Pos}{f:Dv->Option D}{st:Stmt}
theorem qp{K:Fg}{Z:Hp}:∀{xs:List V} {ds:List D} {bs:List Int} {its:List Value},Reps K Z xs ds->Vals xs its->iH ds=some bs->IntsAre its bs
 |_,_,bs,_,.nil,.nil,h=>by cases h;exact .nil
 |_,_,bs,_,.cons r t,.cons q u,h=>by
  cases r with
  |int b=>
   unfold iH at h;cases g:iH _ with
   |none=>rw[g]at h;cases h
   |some cs=>
    rw[g]at h;cases h;obtain⟨tk,rfl⟩:=q;exact .cons _ _ (qp t u g)
  |_=>cases h
theorem Ge(hc:X.calm=true):CallR X (.builtin "sum") (Cr X.K zJ):=by
 intro pins s σ H xs us Q I rs q;obtain⟨Z,as,d,zh,ra,e,k⟩:=q;cases ra with
 |nil=>cases e
 |cons r1 r2=>
  cases r2 with
  |cons _ _=>cases r1<;>cases e
  |nil=>
   cases r1 with
   | @lst l ys ds h1 q1=>
    have e:(iH ds).map (λbs=>PyData.int bs.sum)=some d:=e;cases g:iH ds with
    |none=>rw[g]at e;cases e
    |some bs=>
     rw[g]at e;cases e;obtain⟨u,rfl,ru⟩:=jv rs;cases ru;obtain⟨its,rv,pl,hz⟩:=I.list (SqL.same h1 zh);have hi:=qp q1 rv g;obtain⟨zs,hx⟩:=hi.allInts.items;have hl':s.heap.IsList l (intItems zs):=hx ▸ pl.isList;refine sum_intListG (I.ok.hd hc) hl' λh' tk t' hk=>?_
     have e1:bs=zs.toList.map (·.1):=by
      rw[<-nums_intItems,<-hx];exact(show numsOf its.toArray.toList=bs from hi.numsOf).symm
     have e2:preSum (numAt zs) zs.size=bs.sum:=by
      rw[preSum_eq,List.take_of_length_le (by simp),e1]
     rw[e2];exact⟨.int _,H,I.kept (t':=tk) hk,⟨t',rfl⟩,k _ Z H (New.refl zh) (.int _)⟩
   |_=>cases e
theorem EN{st:Stmt}:SV X st IA:=λpins s σ H D I h=>by
 obtain⟨_,_,_,_,_,_,e,_⟩:=h;cases e
end
noncomputable def Ho:D->Option (List D)
 |.tuple xs=>some xs.reverse
 |_=>none
@[simp] theorem Cj(xs:List D):Ho (.tuple xs)=some xs.reverse:=rfl
def F2(h:Heap)(e:Addr):Prop:=∃oe vs,h.get? e=some oe/\oe.data=.fields vs/\vs[2]? = some .none
def Ik(base:Heap)(l:List Env)(e:Addr)(cls a0:Value)(h:Heap):Prop:=Heap.FlyingW base l e cls a0 h/\F2 h e
noncomputable def BN(n:Str):D:=.dict [(.str "fn",.str n)]
abbrev Xf:=Dv->Option (Str×Dv)
@[simp] noncomputable def Jn:Xf:=λ_=>none
@[simp] noncomputable def GY(n:Str)(f:Dv->Option D):Xf:=λδ=>(f δ).bind λ_=>some (n,δ)
@[simp] noncomputable def xE(f:Dv->Option Str):Xf:=λδ=>(f δ).bind λn=>some (n,δ)
@[simp] noncomputable def Jo(t:Dv->Option Bool)(u w:Xf):Xf:=λδ=>(t δ).bind λc=>if c=true then u δ else w δ
@[simp] noncomputable def GX(s:Sf)(u:Xf):Xf:=λδ=>(s δ).bind λr=>match r with
 | (.nx,δ')=>u δ'
 |_=>none
@[simp] noncomputable def Io(u1:Xf)(s:Sf)(u:Xf):Xf:=λδ=>match u1 δ with
 |some r=>some r
 |none=>GX s u δ
@[simp] noncomputable def Jr(fs:Dv->Option (List D))(g:List D->Option Str):Dv->Option Str:=λδ=>(fs δ).bind g
structure Thrown (P:Program) (w:World) (outer:List Env) (H:Hp) (s:Shared) (x C:Addr) (H':Hp) (s':Shared):Prop where
 os:s'.os=s.os
 bare:AllBare s'.gens
 un:Un (uG outer) [] H H' s.heap s'.heap
 hok:HOk P w H' s'.heap
 sm:Same H H'
 is:H' x=some (HY x C)
 fly:∃B t,Ik B outer x (.ref C) t s'.heap/\(∀b o,H' b=some o->b≠x->∃ob,B.get? b=some ob)/\(∀b o,s.heap.get? b=some o->H b=none->b∉uG outer->B.get? b=some o)
inductive Flung (m:Bool) (X:Cx) (n:Str) (Z H:Hp) (s:Shared) (e:Value) (s':Shared):Prop
 |made {x C:Addr} {vs:List Value}:m=true->PySem.W.nsIn X.K mainGlobals n=some (some (.ref C))->e=.ref x->s'={s with heap:=s'.heap}->Heap.MadeExcOf s.heap s'.heap x (.ref C) vs->Flung m X n Z H s e s'
 |thrown {x C:Addr} {H' Z':Hp}:PySem.W.nsIn X.K mainGlobals n=some (some (.ref C))->e=.ref x->Thrown X.prog X.w X.stack H s x C H' s'->New Z H Z' H'->Z' x=some (HY x C)->H x=none->Flung m X n Z H s e s'
def IX(m:Bool)(X:Cx)(f:Xf):TS:=λ_ σ H=>∃H₀ Z₀ Z δ r,Hold X.K H₀ Z₀ Z δ σ H/\f δ = some r/\∀pins σ' H' Z' s e s',Hold X.K H₀ Z₀ Z' r.2 σ' H'->Same Z Z'->Inv X pins σ' H' s->Flung m X r.1 Z' H' s e s'->X.xe e s'
def SX(m:Bool)(X:Cx)(st:Stmt)(f:Xf):Prop:=PS X st (IX m X f)
noncomputable def v5:Sl->Bool
 |.own _=>true
 |_=>false
@[simp] theorem GI(d:D):v5 (.fz d)=false:=rfl
@[simp] theorem GH:v5 .un=false:=rfl
noncomputable def zM:Nat->Dv->Bool
 |_,[]=>true
 | 0,_::r=>r.all λs=>!v5 s
 |n+1,s::r=>!v5 s&&zM n r
@[simp] theorem Ee(s:Sl)(r:Dv):zM 0 (s::r)=r.all λs=>!v5 s:=rfl
@[simp] theorem Ef(n:Nat)(s:Sl)(r:Dv):zM (n+1) (s::r)=(!v5 s&&zM n r):=rfl
@[simp] noncomputable def Im(f:Dv->Option D)(u:Dv->Option Str):Dv->Option Str:=λδ=>(f δ).bind λ_=>u δ
noncomputable def la:D->Option Str
 |.dict [(.str k,.str n)]=>if k = "fn" then some n else none
 |_=>none
theorem mW(n:Str):la (BN n)=some n:=by simp[la,BN]
noncomputable def bj(i:Nat)(fs:Dv->Option (List D))(tbl:List (Str×(List D->Option D))):Dv->Option D:=λδ=>(oV i δ).bind λd=>(la d).bind λn=>(tbl.lookup n).bind λg=>(fs δ).bind g
@[simp] noncomputable def xk(i:Nat)(f:Dv->Option D):Sf:=λδ=>(f δ).bind λv=>(xU v).bind λes=>(wA δ[i]?).bind λds=>if ds.length+es.length<=sizeLine then some (.nx,δ.set i (.ow (ds++es)))else none
theorem wf{d:D}{n:Str}(h:la d=some n):d=BN n:=by
 unfold la at h;split at h
 .split at h
  .rename_i hk;subst hk;cases h;rfl
  .cases h
 .cases h
structure CalF (P:Program) (w:World) (K:PySem.W.Frag) (mg:Str->Option Value) (base:Heap) (x:Str) (k:Nat) (g:List D->Option D):Prop where
 ex:∃(fa:Addr) (fd:FuncData) (ps:List Str),FnOk P w K mg base dM k fa fd ps (h7 K g)/\PySem.W.nsIn K mainGlobals x=some (some (.ref fa))/\mg x=some (.ref fa)/\PySem.W.keepIn K (.ref fa)=true/\Binds K fd ps []
theorem sD(l:Addr)(items:Array Value)(n:Nat)(b:Addr)(items2:Array Value)(n2:Nat)(sl:Array (Option Value))(hc0:¬(!items.isEmpty&&Builtin.List.listTooLong (items.size+items2.size))=true)(hc1:items.size<=sizeLine)(hs2:items.size+items2.size<=sizeLine+1):
  Meets (Builtin.«list.extend» ⟨[.ref l,.ref b],[]⟩) (λ_ R s=>s.heap.get? l=some {cls:=.type "list",dict:=none,data:=.seq items n,slots:=#[]}/\s.heap.get? b=some {cls:=.type "list",dict:=none,data:=.seq items2 n2,slots:=sl}/\R (.ok (.ret Value.none)) {s with heap:=s.heap.update l (Obj.mapSeq λx=>x++items2),toks:=s.toks}):=
 .of_wp λprog w A R s h=>by
  obtain⟨hp,g,d,tk,os⟩:=s;obtain⟨hl,hb,h⟩:=h;have f1:=AutoSeq1.idx_int;have f2:=AutoSeq1.sub_tuple_tuple;have f3:=AutoSeq1.sub_list_list;have f4:=AutoSeq1.sub_tuple_list;have f5:=AutoSeq1.sub_list_tuple;have hz':(items++items2).size<=sizeLine+1:=by rw[Array.size_append];exact hs2
  wp_walk using (wpAny_updateSeq hl rfl (hz:=hc1) (_hz':=hz')),AutoSeq1.wpAny_loadPart' hl,AutoSeq1.wpAny_loadPart' hb;exact⟨_,rfl,h⟩
def E3(K:Fg):V->List V->Hp->VK->Prop:=λx vs H Q=>∃l b xs zs,x=.ref l/\vs=[.ref b]/\H l=some (.lst xs)/\SqL K H b zs/\xs.length+zs.length<=sizeLine/\Q .non (upd H l (.lst (xs++zs)))
section
variable{X:Cx}
theorem Aw:IP X "list.extend" (E3 X.K):=by
 intro pins s σ H x vs v us Q I rx rv h;obtain⟨l,b,xs,zs,rfl,rfl,hH,hB,hz,q⟩:=h;cases rx;obtain⟨u,rfl,ru⟩:=rv.one;cases ru;obtain⟨z,its,n,r,hl,e⟩:=I.lstM hH;obtain⟨its2,r2,⟨o2,n2,e2,hc,hd,hs⟩,z2⟩:=I.list hB;have hl2:=r2.length;obtain⟨c2,d2,dt2,sl2⟩:=o2;dsimp only at hc hd hs;subst hc hd hs;have hsz:its.toArray.size+its2.toArray.size<=sizeLine:=by rw[List.size_toArray,List.size_toArray];lia
 have hlong:¬(!its.toArray.isEmpty&&Builtin.List.listTooLong (its.toArray.size+its2.toArray.size))=true:=by
  rw[xQ hsz,Bool.and_false];exact Bool.false_ne_true
 refine call_meets F.slot_list_extend ⟨_,e,rfl⟩ F.entry_list_extend (F.args_list_extend_2 _ _)
  (sD l its.toArray n b its2.toArray n2 sl2 hlong (by rw[List.size_toArray];lia) (by lia)) ⟨e,e2,?_⟩
 refine⟨.non,_,I.lset (its':=its++its2) hH e (by simp) (r.append r2) ?_,rfl,q⟩;rw[List.length_append]
 lia
end
section
variable{X:Cx}{e:Expr}{f:Dv->Option D}{p pos apos:Pos}
theorem tw(i:Nat){x:Str}{cpos:Pos}(hv':EV X e f)(hN:X.N[i]? = some x:=by rfl)(hv:vg X.env.scope x:=by first|exact Or.inl rfl|exact Or.inr (Or.inl rfl)|exact Or.inr (Or.inr rfl))(hd:(x==("__debug__":Str))=false:=by decide)(hcd:(x==("__classdict__":Str))=false:=by decide)
  (hbase:attributeBase (.Name x p) "extend" X.env (eval (.Name x p) X.env)=eval (.Name x p) X.env:=by rfl)
  (hfew:((backTo cpos (starEach [e] X.env)).all (λx=>!x.1)&&(backToKw cpos (keywordEach [] X.env)).all (λx=>x.1.isSome)
   && decide ([e].length+([]:List Keyword).length+(if([]:List Keyword).isEmpty then 0 else 1)<30))=true:=by rfl)
  (hline:(apos.endLine==cpos.line)=true:=by rfl) (hs:starEach [e] X.env=(false,eval e X.env)::starEach [] X.env:=by rfl) (hplain:(backTo cpos (starEach [] X.env)).any (·.1)=false:=by rfl)
  (hsw:swapsWith (.Call (.Attribute (.Name x p) "extend" apos) [e] [] cpos) none pos.line X.env=pure false:=by rfl):SV X (.Expr (.Call (.Attribute (.Name x p) "extend" apos) [e] [] cpos) pos) (xk i f):=
 PS.imp (tX (By PySem.F.plainAttrs_list PySem.F.slot_list_extend PySem.F.type_list_extend Aw (cO hN hv hd hcd) (cV hv' fG hs) hbase hfew hline hs hplain) hsw) λD σ H h=>by
  obtain⟨H₀,Z₀,Z,δ,r,hh,e,k⟩:=h;obtain⟨v,e1,e⟩:=bind_some e;obtain⟨es,e3,e⟩:=bind_some e;obtain⟨ds,e2,e⟩:=bind_some e;by_cases hl:ds.length+es.length<=sizeLine
  .rw[if_pos hl]at e
   cases e;cases v with
   |list es'=>
    cases e3;obtain⟨a,xs,h1,h4,h5⟩:=im hh e2;refine⟨_,h1,.inl ⟨rfl,xs,SqL.of h4⟩,H₀,Z₀,Z,δ,_,hh,e1,λw Z1 H1 hh1 t1 r1=>?_⟩
    obtain⟨a',xs',g1,g4,g5⟩:=im hh1 e2;rw[h1]at g1;cases g1;cases r1 with
    |lst q1 q2=>
     exact⟨a,_,xs',_,rfl,rfl,g4,SqL.same q1 hh1.zh,by rw[g5.length,q2.length];exact hl,k σ _ Z1 (hh1.chg (xs:=xs') (nK e2) h1 (g5.append q2)) t1⟩
   |_=>cases e3
  .rw[if_neg hl]at e;cases e
end
theorem lZ{pos:Pos}{cv:Value}(l r:List Value)(ht:TriplesOk l)(h:codeAmong pos (l++r)=some cv):codeAmong pos l=some cv\/codeAmong pos r=some cv:=by
 fun_induction TriplesOk l with
 |case1=>exact .inr h
 |case2 a t b u c rest ih=>
  rw[List.cons_append,List.cons_append,List.cons_append]at h;unfold codeAmong at h;split at h
  .rename_i hc
   left;unfold codeAmong;rw[if_pos hc];exact h
  .rename_i hc
   rcases ih ht h with z|z
   .left
    unfold codeAmong;rw[if_neg hc];exact z
   .exact .inr z
 |case3=>exact ht.elim
section
variable{X:Cx}{params:Arguments}{body:Expr}{scope:Scope}{pos:Pos}
theorem Inv.bat{pins:List (Addr×Obj)}{σ:St}{H:Hp}{s:Shared}{P:Addr}(I:Inv X pins σ H s)(hP:H P≠none):s.heap.BuiltinsAt X.mg P:=by
 obtain⟨bm,ob,b1,b2,b3,b4,b5,b6⟩:=I.ok.mod.bmain;have hbP:bm≠P:=λq=>hP (by rw[<-q];exact(I.bs bm ob b3).2)
 have hbG:bm≠mainGlobals:=λq=>by
  obtain⟨o,es,ep,e,hd,_⟩:=I.ok.mod.glob;rw[q,e]at b3;cases b3;rw[hd]at b6;cases b6
 exact⟨bm,ob,b1,b2,hbG,hbP,I.bk _ _ b3,b4,b5,b6⟩
theorem Inv.gl{pins:List (Addr×Obj)}{σ:St}{H:Hp}{s:Shared}(I:Inv X pins σ H s):s.heap.Ns mainGlobals X.mg:=by
 obtain⟨o,es,ep,e,r⟩:=I.ok.mod.glob;exact⟨o,es,ep,I.bk _ _ e,r⟩
abbrev qm(X:Cx)(params:Arguments)(body:Expr)(scope:Scope)(c':Addr)(ctv:Value):Obj:=PySem.W.kla_obj "<lambda>" (X.env.qual ++ "<lambda>") params body scope [] ((X.mg "__name__").getD .none) c' ctv
theorem yK{n x:Str}{c P:Addr}(hL:LamIs n params body scope)(hns:PySem.W.nsIn X.K mainGlobals n=some none)(hx:x∈lamDefs)(ht:PySem.W.tabIn X.K x=some (c,P))(hcode:X.env.code=.ref c)
  (hcl:closureFor scope X.env=pure []:=by rfl) (hdef:defaultsOf params X.env=([],[]):=by rfl):EV X (.Lambda params body scope pos) (oC (BN n)):=by
 intro pins s σ H Q I h;obtain⟨H₀,Z₀,Z,δ,d,hh,e,k⟩:=h;cases e;refine PySem.W.kla_eval hdef ?_;obtain⟨ps0,hP⟩:=I.tb x hx c P ht;obtain⟨ps,gP,tr,good⟩:=I.hok P _ hP;have hPn:H P≠none:=by rw[hP];simp
 have C:PySem.W.CodeHd s.heap c P:=(I.ok.mod.tabs x hx c P ht).keeps I.bk;have hgP:mainGlobals≠P:=λq=>by
  obtain⟨o,es,ep,e,r⟩:=I.ok.mod.glob;exact hPn (by rw[<-q];exact(I.bs _ _ e).2)
 have hLP:X.env.locals≠P:=λq=>hPn (by rw[<-q];exact I.free)
 cases hf:codeAmong pos ps.toList with
 |some cv=>
  obtain⟨c',oc,u,vs,q,t,rfl,hc,hd,hv⟩:=good pos cv hf;refine PySem.W.kla_makeFunctionHit (mg:=X.mg) hcl I.ok.glob (Inv.gl I) hcode C gP tr hf (Inv.bat I hPn) λctv h' tk hk hsz=>?_
  have hsz':s.heap.objs.size<=h'.objs.size:=hsz;have hfr:H h'.objs.size=none:=I.hok.fresh hsz';have hkk:∀b u,s.heap.get? b=some u->(h'.push (qm X params body scope c' ctv)).get? b=some u:=λb u e=>Heap.get?_push_of_some _ (hk b u e)
  refine⟨.ref h'.objs.size,_,I.laid (o:=.frz (qm X params body scope c' ctv) (.cod c')) hkk hsz' ?_,rfl,?_⟩
  .refine⟨Heap.get?_push_size _ rfl,⟨_,Heap.get?_push_size _ rfl⟩,oc,u,vs,q,t,?_,hd,hv⟩
   rw[az (λz=>by rw[z,hfr]at hc;cases hc)];exact hc
  .have nw:=New.add hh.zh hfr (.frz (qm X params body scope c' ctv) (.cod c'))
   exact k _ _ _ (hh.new nw) nw.z (.opq (.lam hns ⟨_,params,body,scope,_,_,rfl,hL⟩ aC))
 |none=>
  refine PySem.W.kla_makeFunction (mg:=X.mg) hcl I.ok.glob (Inv.gl I) hcode C gP tr hf hgP (Inv.bat I hPn) λc' ctv h' tk hx' hge hlt hrec htb=>?_
  obtain⟨c2,oc,vs,t,e2,hoc,hd,hv⟩:=hrec;cases e2;have cP:c'≠P:=λz=>by
   rw[z]at hge;exact absurd (Nat.lt_of_lt_of_le (Heap.lt_size gP) hge) (Nat.lt_irrefl _)
  have hcn:H c'=none:=I.hok.fresh hge;have hsz':s.heap.objs.size<=h'.objs.size:=Nat.le_trans hge (Nat.le_of_lt hlt);have hfn:H h'.objs.size=none:=I.hok.fresh hsz';have hfc:h'.objs.size≠c':=Nat.ne_of_gt hlt;have keep:∀b o,b≠P->s.heap.get? b=some o->(h'.push (qm X params body scope c' ctv)).get? b=some o:=λb o hb e=>Heap.get?_push_of_some _ (hx' b o hb e)
  have nP:∀b,H b=none->b≠P:=λb hb z=>hPn (by rw[<-z];exact hb)
  have low:∀b o,s.heap.get? b=some o->b≠c'/\b≠h'.objs.size:=λb o e=>⟨Nat.ne_of_lt (Nat.lt_of_lt_of_le (Heap.lt_size e) hge),Nat.ne_of_lt (Nat.lt_of_lt_of_le (Heap.lt_size e) hsz')⟩
  have up:∀b o,H b=some o->upd (upd H c' (.frz oc (.own 0))) h'.objs.size (.frz (qm X params body scope c' ctv) (.cod c')) b=some o:=λb o e=>by
   rw[az (aL e hfn),az (aL e hcn)];exact e
  have gc:upd (upd H c' (.frz oc (.own 0))) h'.objs.size (.frz (qm X params body scope c' ctv) (.cod c')) c'=some (.frz oc (.own 0)):=by
   rw[az (Ne.symm hfc),aC]
  refine⟨.ref h'.objs.size,upd (upd H c' (.frz oc (.own 0))) h'.objs.size (.frz (qm X params body scope c' ctv) (.cod c')),I.step (g':=s.gens) (d':=s.drawn) (ch:=[]) (λ_ z=>nomatch z) (λb o _ _ _ e n=>keep b o (nP b n) e) (λb o _ _ _ e n=>⟨o.slots,keep b o (nP b n) e⟩)
   (λb o _ e n=>?_) (λb o _ e=>?_) (λb xs e=>up b _ e) (λb o u e=>up b _ e) (λb ps e=>⟨#[],by rw[Array.append_empty];exact up b _ e⟩) (λm hm=>?_) (λb o e=>?_) I.bare,rfl,?_⟩
  .rw[az (low b o e).2,az (low b o e).1];exact n
  .by_cases hb:b=P
   .subst hb;exact⟨_,Heap.get?_push_of_some _ htb⟩
   .exact⟨o,keep b o hb e⟩
  .obtain⟨o,es,ep,e,r⟩:=hm
   exact⟨o,es,ep,keep _ o hLP e,r⟩
  .by_cases hbf:b=h'.objs.size
   .subst hbf
    rw[aC]at e;cases e;exact⟨Heap.get?_push_size _ rfl,⟨_,Heap.get?_push_size _ rfl⟩,oc,_,vs,_,t,gc,hd,hv⟩
   .by_cases hbc:b=c'
    .subst hbc
     rw[gc]at e;cases e;exact⟨Heap.get?_push_of_some _ hoc,⟨_,Heap.get?_push_of_some _ hoc⟩⟩
    .have e':=e
     rw[az hbf,az hbc]at e';by_cases hb:b=P
     .subst hb
      rw[hP]at e';cases e';refine⟨_,Heap.get?_push_of_some _ htb,by rw[Array.toList_append];exact TriplesOk_snoc _ _ _ _ tr,λpos' cv q=>?_⟩
      rw[Array.toList_append]at q;rcases lZ _ _ tr q with z|z
      .obtain⟨c1,oc1,u1,vs1,q1,t1,g1,g2,g3⟩:=good pos' cv z
       exact⟨c1,oc1,u1,vs1,q1,t1,g1,up _ _ g2,g3⟩
      .have z':cv=.ref c':=by
        have z:codeAmong pos' [rawInt pos.line,rawInt pos.col,.ref c']=some cv:=z;unfold rawInt at z;unfold codeAmong at z;split at z
        .exact(Option.some.inj z).symm
        .cases z
       exact⟨c',oc,_,vs,_,t,z',gc,hd,hv⟩
     .refine(I.hok b o e').stay (λb2 u hb2 q=>keep b2 u ?_ q) (λb2 q=>up b2 _ q) (λb2 xs q=>up b2 _ q) λb2 o2 u2 q=>up b2 _ q
      rcases hb2 with z|z
      .rw[z];exact hb
      .intro y;rw[y,hP]at z;cases z
  .have nw1:New Z H Z (upd H c' (.frz oc (.own 0))):=⟨Same.refl _,cA hcn,hh.zh.trans (cA hcn),λ_ _=>rfl,NoF.refl _⟩
   have nw2:=New.add nw1.zh (show upd H c' (.frz oc (.own 0)) h'.objs.size=none by rw[az hfc];exact hfn) (.frz (qm X params body scope c' ctv) (.cod c'));exact k _ _ _ (hh.new (nw1.trans nw2)) nw2.z (.opq (.lam hns ⟨_,params,body,scope,_,_,rfl,hL⟩ aC))
end
section
variable{prog:Program}{w:World}{A:Around}{R:Result->Shared->Prop}{s:Shared}
theorem Gd{a:Addr}{args:Args}{o:Obj}{fd:FuncData}{body:Expr}{c:Addr}{oc:Obj}{vs:Array Value}{q:Str}{tq:Tok}(hroom:A.depth<recursionLimit)(ho:s.heap.get? a=some o)
  (hd':o.data=.func fd) (hco:fd.scope.isCoroutine=false) (hgen:fd.scope.isGenerator=false) (hbody:fd.body=.expr body) (hc:fd.code=.ref c) (hoc:s.heap.get? c=some oc) (hdc:oc.data=.fields vs) (hq:vs[1]? = some (.str q tq))
  (h:wpAny (model prog w) A.in1 (bindArgs fd args) (λbinds s₁=>
   wpAny (model prog w) A.in1 (newFunctionEnv fd.scope fd.globals fd.closure binds (q ++ ".<locals>.") (some a) fd.code none fd.builtins)
    (λenv s₂=>s₂.heap.NoLimit/\codeAny (model prog w) A (.expr body env) R s₂) (λe s'=>R (.error e) s') s₁) (λe s'=>R (.error e) s') s):
  codeAny (model prog w) A (.call (.ref a) args) R s:=by
 refine codeAny_of_tree ?_;show wpAny _ A.in1 (callAny (.ref a) args) _ _ s;simp only[callAny];refine wpAny_bind (wpAny_load ho ?_);simp only[hd',callFunction,hco,hgen,hbody,hc];rw[hc]at h;refine wpAny_bind (m:=field (.ref c) 1) (wpAny_field hoc hdc hq (wpAny_bind (wpAny_pure ?_)));exact wpAny_bind (wpAny_mono h (λbinds s₁ h₁=>wpAny_bind (wpAny_mono h₁ (λenv s₂ h₂=>wpAny_bind (wpAny_enterFrame h₂.1 hroom
  (wpAny_pure (And.intro rfl h₂.2)))) λ_ _ h'=>h')) λ_ _ h'=>h')
end
section
variable{P:Program}{w:World}{K:PySem.W.Frag}{mg:Str->Option Value}{base:Heap}
structure LamC (P:Program) (w:World) (K:PySem.W.Frag) (mg:Str->Option Value) (base:Heap) (n:Str) (k:Nat) (g:List D->Option D):Prop where
 ns:PySem.W.nsIn K mainGlobals n=some none
 run:∀(A:Around) (outer:List Env) (s:Shared) (H Z:Hp) (f c:Addr) (ob:Obj) (us:List Value) (vs:List V) (as:List D) (d:D) (Q:VK) (E:XK),Room k A->Env0 P w K mg base A outer s H->Same Z H->zj n ob c->Z f=some (.frz ob (.cod c))->Vals vs us->Reps K Z vs as->g as=some d ->
  (∀v Z' H',New Z H Z' H'->Rep K Z' v d->Q v H')->codeAny (model P w) A (.call (.ref f) ⟨us,[]⟩) (CR dM outer P w H s Q E) s
theorem uo{k:Nat}{N ps:List Str}{params:Arguments}{body:Expr}{scope:Scope}{g:List D->Option D}{fb:Dv->Option D}(S:FnScope N ps scope)
  (hbind:∀(qual:Str) (pm cdv ctv:Value) (us:List Value),us.length=ps.length->bindArgs (PySem.W.kla_fn "<lambda>" qual params body scope [] pm cdv ctv) ⟨us,[]⟩=pure (ps.zip us))
  (hb:∀(q:Str) (f:Addr) (cdv:Value) (A:Around) (outer:List Env) (s:Shared) (H:Hp) (E:XK),Room k (A.deeper (envOfC q scope s.heap.objs.size f cdv))->EV (lq dM P w K mg base N q scope f cdv A outer s H E).nox body fb)
  (hg:∀as d,g as=some d->as.length=ps.length/\fb (aV N as)=some d)
  {A:Around} {outer:List Env} {s:Shared} {H Z:Hp} {f c:Addr} {qual:Str} {pm ctv:Value} {us:List Value} {vs:List V} {as:List D} {d:D} {Q:VK} {E:XK}
  (hr:Room (k+1) A) (e0:Env0 P w K mg base A outer s H) (zh:Same Z H) (hf:Z f=some (.frz (PySem.W.kla_obj "<lambda>" qual params body scope [] pm c ctv) (.cod c))) (r:Vals vs us) (rr:Reps K Z vs as) (e:g as=some d)
  (kk:∀v Z' H',New Z H Z' H'->Rep K Z' v d->Q v H'):codeAny (model P w) A (.call (.ref f) ⟨us,[]⟩) (CR dM outer P w H s Q E) s:=by
 obtain⟨hl,eb⟩:=hg as d e;obtain⟨ho,_,oc,u,vs',q,t,hc,hd,hv⟩:=e0.hok f _ (zh _ _ hf);obtain⟨hoc,_⟩:=e0.hok c _ hc;have hlv:vs.length=ps.length:=by rw[rr.length];exact hl
 have hlu:us.length=ps.length:=by rw[<-r.length];exact hlv
 have lim:s.heap.NoLimit:=e0.mod.nolimit.keeps λb o e=>(e0.bs b o e).1
 have hkind:∀y∈ps.zip us,scope.names.lookup y.1=some .local\/(scope.names.lookup y.1=some .cell/\((cellsFrom (s.heap.objs.size+1) scope.names []).lookup y.1).isSome=true):=λ⟨n,v⟩ hy=>by
  rcases S.par n (List.of_mem_zip hy).1 with q|q
  .exact .inl q
  .exact .inr ⟨q,PySem.W.cellsFrom_some _ _ _ (.inl q)⟩
 refine Gd hr.depth ho rfl S.co S.gen rfl rfl hoc hd hv ?_;rw[hbind _ _ _ _ _ hlu];refine wpAny_pure ?_;refine wpAny_newFunctionEnv_cells S.kind hkind λenv he s1 x=>?_
 subst he;refine⟨lim.keeps x.toInCall.keep,PySem.W.kla_codeExpr ?_⟩;have I:Inv (lq dM P w K mg base N q scope f (.ref c) A outer s H E) [] (L2.dj N vs) H s1:=mQ S hr.hd e0 hlv r x;refine wpAny_mono ((PE.nox (hb q f (.ref c) A outer s H E (hr.deeper _))) [] s1 _ H Q I ⟨H,Z,Z,_,d,eU zh rr,eb,λv Z' H' h' z' rv=>kk v Z' H' ⟨z',h'.h0,h'.zh,h'.zb,h'.nf⟩ rv⟩) (λu s' hs=>?_) λe s' hs=>hs
 obtain⟨v,H',J,rv,q⟩:=hs;exact⟨v,H',J.os,J.bare,J.base,J.hok,rv,q⟩
end
section
variable{X:Cx}{e:Expr}{es:List Expr}{p pos:Pos}{fs:Dv->Option (List D)}
theorem dH(i:Nat){x:Str}{k:Nat}{tbl:List (Str×(List D->Option D))}(hT:∀n g,tbl.lookup n=some g->(∃j,j<=k/\CalF X.prog X.w X.K X.mg X.base n j g)\/∃j,j<=k/\LamC X.prog X.w X.K X.mg X.base n j g)(hr:Room k X.A)(ha:AV X (e::es) fs)(hN:X.N[i]? = some x:=by rfl)(hv:vg X.env.scope x:=by first|exact Or.inl rfl|exact Or.inr (Or.inl rfl)|exact Or.inr (Or.inr rfl))(hdb:(x==("__debug__":Str))=false:=by decide)(hcd:(x==("__classdict__":Str))=false:=by decide)
  (he:starEach (e::es) X.env=(false,eval e X.env)::starEach es X.env:=by rfl) (hpl:(backTo pos (starEach es X.env)).any (·.1)=false:=by rfl):EV X (.Call (.Name x p) (e::es) [] pos) (bj i fs tbl):=by
 intro pins s σ H Q I h;obtain⟨H₀,Z₀,Z,δ,d,hh,e0,kk⟩:=h;unfold bj at e0;obtain⟨c,e1,e0⟩:=bind_some e0;obtain⟨n,e2,e4⟩:=bind_some e0;obtain⟨g,e3,e5⟩:=bind_some e4;have:=wf e2;subst this;obtain⟨v,hσ,rv⟩:=hh.read e1;rcases hT n g e3 with⟨j,hj,CF⟩|⟨j,hj,LC⟩
 .obtain⟨fa,fd,ps,F,hns,hm,hk,hb⟩:=CF.ex
  have hva:v=.ref fa:=by
   cases rv with
   |opq o=>
    cases o with
    |fn h1=>rw[hns]at h1;cases h1;rfl
    |lam h1=>rw[hns]at h1;cases h1
    |dct h1 _=>exact absurd h1 λz=>uS z
  subst hva;refine wpAny_Call_Name_kw (bu (cO hN hv hdb hcd pins s σ H (λv' H'=>v'=.ref fa/\H'=H) I ⟨_,hσ,rfl,rfl⟩) λu s1 hq=>?_)
  obtain⟨v',H',I1,r1,hv',hH'⟩:=hq;subst hv';subst hH';cases(show u=Value.ref fa from r1);have ht:tV X.K (os fs g) σ H' Q:=⟨H₀,Z₀,Z,δ,d,hh,e5,kk⟩;obtain⟨H₀',Z₀',Z',δ',xs,hh',ea,q⟩:=args ht;refine PySem.W.callWith_K (h₀:=X.base) I1.ok.mod.kin hk (bu (ha pos pins s1 σ H' (λvs H1=>h7 X.K g (vs++[]) H1 Q E0) I1 ⟨H₀',Z₀',Z',δ',xs,hh',ea,λvs Z1 H1 hh1 t1 r1=>?_⟩) λus s2 ⟨vs,H1,I2,r,q2⟩=>⟨I2.kIn,xn F (hr.mono hj) hb .nil ub I2 r q2⟩) he hpl
  show h7 X.K g (vs++[]) H1 Q E0;rw[List.append_nil];exact q vs Z1 H1 hh1 t1 r1
 .obtain⟨xs,ea,eg⟩:=bind_some e5
  have hva:∃(a:Addr) (ob:Obj) (c:Addr),v=.ref a/\zj n ob c/\Z a=some (.frz ob (.cod c)):=by
   cases rv with
   |opq o=>
    cases o with
    |fn h1=>rw[LC.ns]at h1;cases h1
    |lam h1 h2 h3=>exact⟨_,_,_,rfl,h2,h3⟩
    |dct h1 _=>exact absurd h1 λz=>uS z
  obtain⟨fa,ob,c,rfl,hL,hZ⟩:=hva;refine wpAny_Call_Name_kw (bu (cO hN hv hdb hcd pins s σ H (λv' H'=>v'=.ref fa/\H'=H) I ⟨_,hσ,rfl,rfl⟩) λu s1 hq=>?_)
  obtain⟨v',H',I1,r1,hv',hH'⟩:=hq;subst hv';subst hH';cases(show u=Value.ref fa from r1);have fnAt:∀{s2:Shared} {H2:Hp},HOk X.prog X.w H2 s2.heap->H2 fa=some (.frz ob (.cod c))->PySem.W.FnAt fa s2.heap:=λ{s2 H2} hk hf=>by
   obtain⟨qual,params,body,scope,pm,ctv,rfl,_⟩:=hL;exact⟨_,_,_,_,(hk fa _ hf).1⟩
  refine PySem.W.callWith_F (first:=[]) (fnAt I1.hok (hh.zh _ _ hZ)) (bu (ha pos pins s1 σ H' (λvs H1=>∃Z1,Same Z1 H1/\Z1 fa=some (.frz ob (.cod c))/\Reps X.K Z1 vs xs/\∀v Z' H'',New Z1 H1 Z' H''->Rep X.K Z' v d->Q v H'') I1
   ⟨H₀,Z₀,Z,δ,xs,hh,ea,λvs Z1 H1 hh1 t1 r1=>⟨Z1,hh1.zh,t1 _ _ hZ,r1,λv Z' H'' nw rv=>kk v Z' H'' (hh1.new nw) (t1.trans nw.z) rv⟩⟩) λus s2 ⟨vs,H1,I2,r,Z1,z1,z2,z3,z4⟩=>⟨fnAt I2.hok (z1 _ _ z2),?_⟩) he hpl
  rw[List.nil_append];refine wpAny_call (codeAny_mono (LC.run X.A X.stack s2 H1 Z1 fa c ob us vs xs d Q E0 (hr.mono hj) I2.env0 z1 hL z2 r z3 eg z4) λr s' hq=>?_)
  cases r with
  |error e=>exact(ub (X:=X) pins σ H1 s2 e s' I2 hq)
  |ok fl=>
   cases fl with
   |ret u=>exact I2.after hq
   |next=>exact False.elim hq
   |brk=>exact False.elim hq
   |cont=>exact False.elim hq
end
noncomputable def qq:List D->Option D
 |[d]=>some d
 |_=>none
noncomputable def ou:List D->Option D
 |[a,b]=>d6 a b
 |_=>none
section
variable{P:Program}{w:World}{K:PySem.W.Frag}{mg:Str->Option Value}{base:Heap}
theorem AE(hns:PySem.W.nsIn K mainGlobals "<lambda> id" = some none):LamC P w K mg base "<lambda> id" 1 qq where
 ns:=hns
 run:=by
  intro A outer s H Z f c ob us vs as d Q E hr e0 zh hL hZ r rr e kk;obtain⟨qual,params,body,scope,pm,ctv,rfl,hl⟩:=hL;generalize hn:("<lambda> id":Str)=n at hl;cases hl with
  |id=>
   refine uo (k:=0) (N:=["tie"]) (ps:=["tie"]) (fb:=oV 0) ⟨rfl,rfl,rfl,by decide,rfl,λx hx=>.inl (by cases hx with|head=>rfl|tail _ h=>cases h),λy hy=>by cases hy with|head=>(intro z;cases z)|tail _ h=>cases h⟩ (λqual pm cdv ctv us hu=>?_) (λq f cdv A outer s H E hr=>aa 0) (λas d e=>?_) hr e0 zh hZ r rr e kk
   .match us,hu with
    |[u],_=>rfl
   .match as,e with
    |[a],e=>cases e;exact⟨rfl,rfl⟩
  |xor=>exact absurd hn (by decide)
theorem yg(hns:PySem.W.nsIn K mainGlobals "<lambda> xor" = some none):LamC P w K mg base "<lambda> xor" 1 ou where
 ns:=hns
 run:=by
  intro A outer s H Z f c ob us vs as d Q E hr e0 zh hL hZ r rr e kk;obtain⟨qual,params,body,scope,pm,ctv,rfl,hl⟩:=hL;generalize hn:("<lambda> xor":Str)=n at hl;cases hl with
  |id=>exact absurd hn (by decide)
  |xor=>
   refine uo (k:=0) (N:=["tie","other"]) (ps:=["tie","other"]) (fb:=o2 (oV 0) (oV 1) d6) ⟨rfl,rfl,rfl,by decide,rfl,λx hx=>.inl (by cases hx with|head=>rfl|tail _ h=>(cases h with|head=>rfl|tail _ h=>cases h)),λy hy=>by cases hy with|head=>(intro z;cases z)|tail _ h=>(cases h with|head=>(intro z;cases z)|tail _ h=>cases h)⟩ (λqual pm cdv ctv us hu=>?_) (λq f cdv A outer s H E hr=>aq ld (aa 0) (aa 1)) (λas d e=>?_) hr e0 zh hZ r rr e kk
   .match us,hu with
    |[u,v],_=>rfl
   .match as,e with
    |[a,b],e=>exact⟨rfl,e⟩
theorem eV{k j:Nat}{c:Str}{gc:List D->Option D}{tbl:List (Str×(List D->Option D))}(hj:j<=k)(V:LamC P w K mg base c j gc)
  (h:∀n g,tbl.lookup n=some g->(∃j,j<=k/\CalF P w K mg base n j g)\/∃j,j<=k/\LamC P w K mg base n j g):∀n g,((c,gc)::tbl).lookup n=some g->(∃j,j<=k/\CalF P w K mg base n j g)\/∃j,j<=k/\LamC P w K mg base n j g:=λn g e=>by
 rw[List.lookup_cons]at e;split at e
 .rename_i hn
  cases e;have:n=c:=by simpa using hn
  subst this;exact .inr ⟨j,hj,V⟩
 .exact h n g e
theorem gL{k:Nat}:∀n g,([]:List (Str×(List D->Option D))).lookup n=some g->(∃j,j<=k/\CalF P w K mg base n j g)\/∃j,j<=k/\LamC P w K mg base n j g:=λ_ _ h=>by cases h
end
theorem vR{α:Type}:∀{us:List α},us.length=1->∃a,us=[a]
 |[a],_=>⟨a,rfl⟩
theorem yc{α:Type}{us:List α}(h:us.length=2):∃a b,us=[a,b]:=by
 cases us with
 |nil=>cases h
 |cons a r=>
  obtain⟨b,rfl⟩:=vR (Nat.succ.inj h);exact⟨a,b,rfl⟩
theorem vQ{α:Type}{us:List α}(h:us.length=3):∃a b c,us=[a,b,c]:=by
 cases us with
 |nil=>cases h
 |cons a r=>
  obtain⟨b,c,rfl⟩:=yc (Nat.succ.inj h);exact⟨a,b,c,rfl⟩
theorem FB{α:Type}{us:List α}(h:us.length=4):∃a b c d,us=[a,b,c,d]:=by
 cases us with
 |nil=>cases h
 |cons a r=>
  obtain⟨b,c,d,rfl⟩:=vQ (Nat.succ.inj h);exact⟨a,b,c,d,rfl⟩
def DefIn(K:PySem.W.Frag)(x y:Str)(st:Stmt):Prop:=∃f fd,PySem.W.nsIn K mainGlobals x=some (some (.ref f))/\FunV K y y st f fd .none/\PySem.W.keepIn K (.ref f)=true
def bb(x:Str)(st:Stmt)(ps:List Str):Prop:=∀(kV doc pm:Value) (an:Option Addr) (cdv ct:Value) (us:List Value),us.length=ps.length->bindArgs (PySem.W.fnOf x x (dU st) (ca st) (ap st) .none kV doc pm an cdv ct) ⟨us,[]⟩=pure (ps.zip us)
section
variable{P:Program}{w:World}{K:PySem.W.Frag}{mg:Str->Option Value}{base h:Heap}{x y:Str}{st:Stmt}{k:Nat}{ps:List Str}
theorem DefIn.mk{f:Addr}{oc:Value}{od an:Option Addr}{osl:Array (Option Value)}{kV doc pm cdv ct:Value}(a:PySem.W.nsIn K mainGlobals x=some (some (.ref f)))(l:K.lookup f=some ⟨oc,od,.func (PySem.W.fnOf y y (dU st) (ca st) (ap st) .none kV doc pm an cdv ct),osl⟩)
  (c:PySem.W.codeIn K cdv y=true) (k:PySem.W.keepIn K (.ref f)=true):DefIn K x y st:=⟨_,_,a,uF l c k,k⟩
variable(D:DefIn K x y st)(X:K.In h)(G:h.Ns mainGlobals mg)(b:bb y st ps)
include D X G
include b
theorem DefIn.cal{g:List VL.D->Option VL.D}(ok:∀f fd,FunV K y y st f fd .none->FnOk P w K mg base dM k f fd ps (h7 K g)):Cal P w K mg base x k g []:=by
 obtain⟨f,fd,a,F,hk⟩:=D;exact Cal.mk0 (ok f fd F) (PySem.W.mg_of X G a) hk (F.binds b)
end
section
variable{P:Program}{w:World}{K:PySem.W.Frag}{mg:Str->Option Value}{base:Heap}
theorem qH{x:Str}{f c t:Addr}{fd:FuncData}{oc:Value}{od:Option Addr}{osl:Array (Option Value)}(hns:PySem.W.nsIn K mainGlobals x=some (some (.ref f)))(lk:K.lookup f=some ⟨oc,od,.func fd,osl⟩)(ht:PySem.W.tabIn K x=some (c,t)):fd.code=.ref c:=by
 unfold PySem.W.tabIn at ht;rw[hns]at ht;dsimp only at ht;rw[lk]at ht;dsimp only at ht;split at ht
 .rename_i c' hc
  split at ht
  .split at ht
   .cases ht;exact hc
   .cases ht
  .cases ht
 .cases ht
theorem FZ{x qual:Str}{st:Stmt}{f c t:Addr}{fd:FuncData}{dV:Value}{N ps:List Str}{k:Nat}{b:Sf}(hns:PySem.W.nsIn K mainGlobals x=some (some (.ref f)))(ht:PySem.W.tabIn K x=some (c,t))(F:FunV K x qual st f fd dV)(S:FnScope N ps (ap st))
  (hb:∀(A:Around) (outer:List Env) (s:Shared) (H:Hp) (E:XK),Room k (A.deeper (envOfC qual (ap st) s.heap.objs.size f (.ref c)))->BV (lq dM P w K mg base N qual (ap st) f (.ref c) A outer s H E).nox (ca st) b):
  FnOk P w K mg base dM (k+1) f fd ps (h7 K (cc N ps.length b)):=by
 obtain⟨oc,od,kV,doc,pm,an,cdv,ct,osl,rfl,lk,hcd⟩:=F.ex;have hc:cdv=.ref c:=qH hns lk ht;subst hc;refine yF lk hcd S (λvs H Q E h=>?_) λA outer s H vs Q E hr hsp=>?_
 .obtain⟨Z,as,d,zh,r,e,_⟩:=h
  rw[r.length];unfold cc at e;split at e
  .assumption
  .cases e
 .refine⟨_,PSs.nox (hb A outer s H E hr),?_⟩
  obtain⟨Z,as,d,zh,r,e,kk⟩:=hsp;have hh:=eU (N:=N) zh r;have fin:∀{σ':St} {H' Z':Hp} {δ':Dv},Hold K H Z Z' δ' σ' H'->Same Z Z'->New Z H Z' H':=λh' z'=>⟨z',h'.h0,h'.zh,h'.zb,h'.nf⟩
  unfold cc at e;split at e
  .obtain⟨⟨fl,δ'⟩,e2,h⟩:=bind_some e
   cases fl with
   |nx=>cases h;exact⟨H,Z,Z,_,_,hh,e2,λσ' H' Z' h' z'=>kk _ Z' H' (fin h' z') .non⟩
   |rt d=>cases h;exact⟨H,Z,Z,_,_,hh,e2,λσ' H' Z' h' z' v rv=>kk v Z' H' (fin h' z') rv⟩
   |bk=>cases h
   |ct=>cases h
  .cases e
end
section
variable{P:Program}{w:World}{K:PySem.W.Frag}{mg:Str->Option Value}{base h:Heap}{x y:Str}{st:Stmt}{k:Nat}{ps:List Str}
theorem DefIn.calL(D:DefIn K x y st)(X:K.In h)(G:h.Ns mainGlobals mg)(b:bb y st ps){g:List VL.D->Option VL.D}(ok:∀f fd,PySem.W.nsIn K mainGlobals x=some (some (.ref f))->FunV K y y st f fd .none->FnOk P w K mg base dM k f fd ps (h7 K g)):Cal P w K mg base x k g []:=by
 obtain⟨f,fd,a,F,hk⟩:=D;exact Cal.mk0 (ok f fd a F) (PySem.W.mg_of X G a) hk (F.binds b)
end
theorem BW{k:Nat}{l:PySem.W.OpenLaw}{q:Program}{loose:List Str}{XP:(Str->Option Value)->Heap->Prop}{YP:World->Heap->Prop}{d:DefRec}{K:Params->PySem.W.Frag}(hn:l.most=some 63)(hr:Room k callerA)(hdf:d.params.defaults=[])
  (hY:∀(w:World) (h:Heap),YP w h->(K w.params).In h)
  (F:∀(w:World) (mg:Str->Option Value) (fa:Addr) (h:Heap),(K w.params).In h->h.Ns mainGlobals mg->mg d.name=some (.ref fa)->
   ∃fd:FuncData,(∀(s:Shared) (u:Value),BindsTo s fd ⟨[u],[]⟩ [("script",u)])/\∀base:Heap,(K w.params).In base->base.Ns mainGlobals mg->FnOk l.prog w (K w.params) mg base dM k fa fd ["script"] (pF (K w.params)))
  (hTd:∀(w:World),(lamDefs.all λx=>(PySem.W.tabIn (K w.params) x).isNone||((recsOf q).find? (λe=>e.name==x)).isSome)=true) (hTn:∀(w:World),((cj (K w.params)).all λP=>((K w.params).lookup P).isNone)=true):
  PySem.W.WalkO q loose XP YP l.row.toRowW d [] (λf vs=>PySem.call f vs):=
 Ev hn hr hdf hY F (λw x hx=>by
  have:=List.all_eq_true.mp (hTd w) x hx;rcases Bool.or_eq_true_iff.mp this with z|z
  .exact .inl (Option.isNone_iff_eq_none.mp z)
  .exact .inr (Option.isSome_iff_exists.mp z)) λw P hP=>Option.isNone_iff_eq_none.mp (List.all_eq_true.mp (hTn w) P hP)
end VL
namespace VL
open PySem PySem.Spec PyProof.Rows L2
open AutoSeq1 (wpAny_loadPart')
end VL
namespace VL
open PySem PySem.Spec PyProof.Rows L2
noncomputable def Jj(z:Bool):D->D->Option D
 |.bool a,.bool b=>some (.bool (z != (a==b)))
 |_,_=>none
@[simp] theorem FM(z a b:Bool):Jj z (.bool a) (.bool b)=some (.bool (z != (a==b))):=rfl
end VL
namespace L2
open PySem PySem.Spec PyProof.Rows
section
variable{κ:Type}[DecidableEq κ]
noncomputable def gZ(kvs:List (κ × V))(k:κ):Option V:=(kvs.find? λkv=>decide (kv.1=k)).map (·.2)
noncomputable def eL(kvs:List (κ × V))(k:κ)(v:V):List (κ × V):=
 if(kvs.any λkv=>decide (kv.1=k))=true then kvs.map (λkv=>if kv.1=k then(kv.1,v)else kv)else kvs++[(k,v)]
theorem fA{p:κ × V}{r:List (κ × V)}{k:κ}(e:p.1=k):gZ (p::r) k=some p.2:=by simp[gZ,List.find?_cons,e]
theorem fB{p:κ × V}{r:List (κ × V)}{k:κ}(e:¬p.1=k):gZ (p::r) k=gZ r k:=by simp[gZ,List.find?_cons,e]
theorem ph(k:κ):∀kvs:List (κ × V),(kvs.any λkv=>decide (kv.1=k))=(gZ kvs k).isSome
 |[]=>rfl
 |p::r=>by
  rw[List.any_cons];by_cases e:p.1=k
  .simp only[fA e,decide_eq_true e,Bool.true_or,Option.isSome_some]
  .rw[fB e,decide_eq_false e,Bool.false_or];exact ph k r
theorem fN(kvs:List (κ × V))(k:κ)(v:V):(eL kvs k v).length<=kvs.length+1:=by
 unfold eL;split
 .rw[List.length_map];lia
 .rw[List.length_append,List.length_cons,List.length_nil];lia
theorem RelO.isSome_eq{o:Option V}{u:Option Value}(r:RelO o u):o.isSome=u.isSome:=by
 cases o with
 |none=>cases u with
  |none=>rfl
  |some _=>exact(show False from r).elim
 |some _=>cases u with
  |none=>exact(show False from r).elim
  |some _=>rfl
theorem RelO.getD{o:Option V}{u:Option Value}{d:V}{d':Value}(r:RelO o u)(rd:RelV d d'):RelV (o.getD d) (u.getD d'):=by
 cases o with
 |none=>cases u with
  |none=>exact rd
  |some _=>exact(show False from r).elim
 |some _=>cases u with
  |none=>exact(show False from r).elim
  |some _=>exact r
theorem KV.val{kvs:List (κ × V)}{vs:List (κ × Value)}(r:KV kvs vs)(k:κ):RelO (gZ kvs k) (valueAt vs k):=by
 unfold KV at r
 induction r with
 |nil=>exact True.intro
 | @cons p q ps qs h t ih=>
  obtain⟨h1,h2⟩:=h;by_cases e:p.1=k
  .have e':q.1=k:=h1.symm.trans e
   have b:valueAt (q::qs) k=some q.2:=by simp[valueAt,List.find?_cons,e']
   rw[fA e,b];exact h2
  .have e':¬q.1=k:=λz=>e (h1.trans z)
   have b:valueAt (q::qs) k=valueAt qs k:=by simp[valueAt,List.find?_cons,e']
   rw[fB e,b];exact ih
theorem KV.any{kvs:List (κ × V)}{vs:List (κ × Value)}(r:KV kvs vs)(k:κ):(kvs.any λkv=>decide (kv.1=k))=vs.any λkv=>decide (kv.1=k):=by
 unfold KV at r
 induction r with
 |nil=>rfl
 |cons h t ih=>rw[List.any_cons,List.any_cons,ih,h.1]
theorem KV.repl{kvs:List (κ × V)}{vs:List (κ × Value)}(r:KV kvs vs)(k:κ){y:V}{u:Value}(ry:RelV y u):
  KV (kvs.map λkv=>if kv.1=k then(kv.1,y)else kv) (vs.map λkv=>if kv.1=k then(kv.1,u)else kv):=by
 unfold KV at r ⊢
 induction r with
 |nil=>exact .nil
 | @cons p q ps qs h t ih=>
  rw[List.map_cons,List.map_cons];refine .cons ?_ ih;obtain⟨h1,h2⟩:=h;by_cases e:p.1=k
  .rw[if_pos e,if_pos (h1.symm.trans e)];exact⟨h1,ry⟩
  .rw[if_neg e,if_neg (λz=>e (h1.trans z))];exact⟨h1,h2⟩
theorem KV.put{kvs:List (κ × V)}{vs:List (κ × Value)}(r:KV kvs vs)(k:κ){y:V}{u:Value}(ry:RelV y u):KV (eL kvs k y) (stored vs k u):=by
 unfold eL stored;rw[r.any k];by_cases e:(vs.any λkv=>decide (kv.1=k))=true
 .rw[if_pos e,if_pos e];exact r.repl k ry
 .rw[if_neg e,if_neg e];exact Paired.snoc r ⟨rfl,ry⟩
theorem KV.length{kvs:List (κ × V)}{vs:List (κ × Value)}(r:KV kvs vs):kvs.length=vs.length:=Paired.length r
end
theorem mO{P:Program}{w:World}{k:ar}{u:Value}(r:RelV (kV k) u):(aF P w).is k u=true:=by
 cases k with
 |inl i=>obtain⟨t,e⟩:=(show ∃t,u=Value.int i t from r);subst e;exact qe P w i t
 |inr x=>obtain⟨t,e⟩:=(show ∃t,u=Value.str x t from r);subst e;exact qd P w x t
theorem mP{P:Program}{w:World}:∀{ks:List ar} {us:List Value},Vals (ks.map kV) us->ItemsAre (aF P w) ks us
 |[],_,r=>by rw[List.map_nil]at r;cases r;exact .nil
 |k::ks,_,r=>by
  rw[List.map_cons]at r;cases r with
  |cons h t=>exact .cons (mO h) (mP t)
abbrev KT(H:Hp):List (List ar×V)->List (List ar×Addr×Value)->Prop:=Paired λp q=>p.1=q.1/\H q.2.1=some (.tup (p.1.map kV))/\RelV p.2 q.2.2
theorem KT.val{H:Hp}{kvs:List (List ar×V)}{xs:List (List ar×Addr×Value)}(r:KT H kvs xs)(k:List ar):RelO (gZ kvs k) ((atKey xs k).map (·.2)):=by
 induction r with
 |nil=>exact True.intro
 | @cons p q ps qs h t ih=>
  obtain⟨h1,_,h2⟩:=h;by_cases e:p.1=k
  .have e':q.1=k:=h1.symm.trans e
   have b:atKey (q::qs) k=some q.2:=by simp[atKey,List.find?_cons,e']
   rw[fA e,b];exact h2
  .have e':¬q.1=k:=λz=>e (h1.trans z)
   have b:atKey (q::qs) k=atKey qs k:=by simp[atKey,List.find?_cons,e']
   rw[fB e,b];exact ih
theorem KT.repl{H:Hp}{kvs:List (List ar×V)}{xs:List (List ar×Addr×Value)}(r:KT H kvs xs)(k:List ar){y:V}{u:Value}(ry:RelV y u):
  KT H (kvs.map λkv=>if kv.1=k then(kv.1,y)else kv) (xs.map (putAt k u)):=by
 induction r with
 |nil=>exact .nil
 | @cons p q ps qs h t ih=>
  rw[List.map_cons,List.map_cons];refine .cons ?_ ih;obtain⟨h1,h2,h3⟩:=h;unfold putAt;by_cases e:p.1=k
  .rw[if_pos e,if_pos (h1.symm.trans e)];exact⟨h1,h2,ry⟩
  .rw[if_neg e,if_neg (λz=>e (h1.trans z))];exact⟨h1,h2,h3⟩
theorem KT.put{H:Hp}{kvs:List (List ar×V)}{xs:List (List ar×Addr×Value)}(r:KT H kvs xs)(k:List ar){b:Addr}{y:V}{u:Value}(hb:H b=some (.tup (k.map kV)))(ry:RelV y u):
  KT H (eL kvs k y) (storedH xs k b u):=by
 have e:(kvs.any λkv=>decide (kv.1=k))=(atKey xs k).isSome:=by
  rw[ph,(r.val k).isSome_eq,Option.isSome_map]
 unfold eL storedH;rw[e];by_cases q:(atKey xs k).isSome=true
 .rw[if_pos q,if_pos q];exact r.repl k ry
 .rw[if_neg q,if_neg q];exact Paired.snoc r ⟨rfl,hb,ry⟩
theorem KT.keeps{H H':Hp}{kvs:List (List ar×V)}{xs:List (List ar×Addr×Value)}(r:KT H kvs xs)(ht:∀b ys,H b=some (.tup ys)->H' b=some (.tup ys)):KT H' kvs xs:=
 Paired.mapP r λ_ _ z=>⟨z.1,ht _ _ z.2.1,z.2.2⟩
section
variable{P:Program}{w:World}{H:Hp}{h:Heap}{a:Addr}
theorem Bs{u:HO}(ok:HOk P w H h)(e:Rd H a u):ObjOk P w H h a u:=e.ok ok
theorem jF{kvs:List (ar×V)}(ok:HOk P w H h)(e:Rd H a (.dK kvs)):kvs.length<=sizeLine/\(a==sysModules)=false/\∃vs,KV kvs vs/\h.DictOf (aF P w) a vs:=
 show ObjOk P w H h a (.dK kvs)from Bs ok e
theorem F7{kvs:List (ar×V)}(ok:HOk P w H h)(e:H a=some (.dK kvs)):kvs.length<=sizeLine/\(a==sysModules)=false/\∃vs,KV kvs vs/\h.DictOf (aF P w) a vs:=jF ok (.inl e)
theorem kL{ks:List ar}(ok:HOk P w H h)(e:H a=some (.tup (ks.map kV))):(tupleKind (aF P w)).is h ks a:=by
 obtain⟨_,its,r,⟨o,h1,h2,n,h3⟩,_⟩:=(show ObjOk P w H h a (.tup (ks.map kV))from ok a _ e);exact⟨o,its.toArray,n,h1,h2,h3,by simpa using mP r⟩
theorem mY{kvs:List (List ar×V)}(ok:HOk P w H h)(e:Rd H a (.dT kvs)):kvs.length<=sizeLine/\(a==sysModules)=false/\
  ∃xs,KT H kvs xs/\h.DictOfH (tupleKind (aF P w)) a xs:=by
 obtain⟨z,y,xs,r,o,es,ep,h1,h2,h3,h4,h5⟩:=(show ObjOk P w H h a (.dT kvs)from Bs ok e);refine⟨z,y,xs,r,o,es,ep,h1,h2,h3,h4,λx hx=>?_,h5⟩
 have all:∀{l:List (List ar×V)} {m:List (List ar×Addr×Value)},KT H l m->∀x∈m,(tupleKind (aF P w)).is h x.1 x.2.1:=by
  intro l m q
  induction q with
  |nil=>intro x hx;exact nomatch hx
  | @cons p q ps qs hq t ih=>
   intro x hx;rcases List.mem_cons.mp hx with e|hx
   .subst e
    exact kL ok (by rw[<-hq.1];exact hq.2.1)
   .exact ih x hx
 exact all r x hx
theorem F6{kvs:List (List ar×V)}(ok:HOk P w H h)(e:H a=some (.dT kvs)):kvs.length<=sizeLine/\(a==sysModules)=false/\
  ∃xs,KT H kvs xs/\h.DictOfH (tupleKind (aF P w)) a xs:=mY ok (.inl e)
end
def DGet(H:Hp)(a:Addr)(y:V)(r:Option V):Prop:=
 (∃kvs k,Rd H a (.dK kvs)/\y=kV k/\r=gZ kvs k)\/∃kvs k b,Rd H a (.dT kvs)/\y=.ref b/\H b=some (.tup (k.map kV))/\r=gZ kvs k
def DPut(H:Hp)(a:Addr)(y v:V)(H':Hp):Prop:=
 (∃kvs k,H a=some (.dK kvs)/\y=kV k/\kvs.length<sizeLine/\H'=upd H a (.dK (eL kvs k v)))\/
 ∃kvs k b,H a=some (.dT kvs)/\y=.ref b/\H b=some (.tup (k.map kV))/\kvs.length<sizeLine/\H'=upd H a (.dT (eL kvs k v))
theorem DGet.k{H:Hp}{a:Addr}{kvs:List (ar×V)}{k:ar}(e:H a=some (.dK kvs)):DGet H a (kV k) (gZ kvs k):=.inl ⟨kvs,k,.inl e,rfl,rfl⟩
theorem DPut.k{H:Hp}{a:Addr}{kvs:List (ar×V)}{k:ar}{v:V}(e:H a=some (.dK kvs))(hl:kvs.length<sizeLine):DPut H a (kV k) v (upd H a (.dK (eL kvs k v))):=.inl ⟨kvs,k,e,rfl,hl,rfl⟩
section
variable{X:Cx}{pins:List (Addr×Obj)}{σ:St}{H:Hp}{s:Shared}{a:Addr}{y v:V}{u r:Value}{o:Option V}{A:Around}{E:Value->Shared->Prop}
theorem Inv.big(I:Inv X pins σ H s):sysModules<s.heap.objs.size:=by
 have h:mainGlobals<s.heap.objs.size:=(I.mod.glob.keeps I.bk).lt;exact Nat.lt_trans (by decide) h
theorem wn{Q:Value->Shared->Prop}(hu:A.units+1<cLine)(I:Inv X pins σ H s)(g:DGet H a y (some v))(ry:RelV y u)(h:∀w' s',Inv X pins σ H s'->RelV v w'->Q w' s'):
  wpAny (model X.prog X.w) A (getItem (.ref a) u) Q E s:=by
 rcases g with⟨kvs,k,e,ey,l⟩|⟨kvs,k,b,e,ey,eb,l⟩
 .subst ey
  obtain⟨z,hd,vs,rel,dd⟩:=jF I.hok e;obtain⟨w',hw,rw'⟩:=RelO.some_of (v:=v) (o:=valueAt vs k) (by rw[l];exact rel.val k);exact wpAny_getItem_of (mO ry) dd.mapOf hw (h w' _ (I.tok _) rw')
 .subst ey
  cases(show u=Value.ref b from ry);obtain⟨z,hd,xs,rel,dd⟩:=mY I.hok e;obtain⟨w',hw,rw'⟩:=RelO.some_of (v:=v) (o:=(atKey xs k).map (·.2)) (by rw[l];exact rel.val k);obtain⟨p,hp,hp2⟩:=Option.map_eq_some_iff.mp hw;refine wpAny_getItem_heap (tupleKind_room_in1 hu) (kL I.hok eb) dd hp ?_;rw[hp2];exact h w' _ (I.tok _) rw'
theorem Gb{Q:Value->Shared->Prop}(hu:A.units+1<cLine)(I:Inv X pins σ H s)(g:DGet H a y o)(ry:RelV y u)(h:∀s',Inv X pins σ H s'->Q (.bool o.isSome) s'):
  wpAny (model X.prog X.w) A (compareOp .In u (.ref a)) Q E s:=by
 rcases g with⟨kvs,k,e,ey,l⟩|⟨kvs,k,b,e,ey,eb,l⟩
 .subst ey
  obtain⟨z,hd,vs,rel,dd⟩:=jF I.hok e;refine wpAny_in_of (mO ry) hd dd.mapOf ?_;rw[<-(rel.val k).isSome_eq,<-l];exact h _ (I.tok _)
 .subst ey
  cases(show u=Value.ref b from ry);obtain⟨z,hd,xs,rel,dd⟩:=mY I.hok e;refine wpAny_in_heap (tupleKind_room_in1 hu) (kL I.hok eb) hd dd ?_;have q:=(rel.val k).isSome_eq;rw[Option.isSome_map]at q;rw[<-q,<-l];exact h _ (I.tok _)
theorem uT{h':Heap}{t':Nat}{ob:HO}(I:Inv X pins σ H s)(mu:Gp (H a))(hs:Heap.SameBut a s.heap h')(he:∃q,h'.get? a=some q)(new:ObjOk X.prog X.w (upd H a ob) h' a ob):
  Inv X pins σ (upd H a ob) {s with heap:=h',toks:=t'}:=
 I.write (x:=a) (e:=a) mu (.inl rfl) (λb q hb z=>(hs.2 b hb).trans z) he new
theorem yN{P:Program}{w:World}{H':Hp}{h':Heap}{kvs:List (ar×V)}{vs:List (ar×Value)}(z:kvs.length<=sizeLine)(hd:(a==sysModules)=false)(rel:KV kvs vs)(dd:h'.DictOf (aF P w) a vs):
  ObjOk P w H' h' a (.dK kvs):=⟨z,hd,vs,rel,dd⟩
theorem wm{H':Hp}{Q:Unit->Shared->Prop}(hu:A.units+1<cLine)(I:Inv X pins σ H s)(g:DPut H a y v H')(ry:RelV y u)(rv:RelV v r)(h:∀s',Inv X pins σ H' s'->Q () s'):
  wpAny (model X.prog X.w) A (setItem (.ref a) u r) Q E s:=by
 rcases g with⟨kvs,k,e,ey,l,eH⟩|⟨kvs,k,b,e,ey,eb,l,eH⟩
 .subst ey eH
  obtain⟨z,hd,vs,rel,dd⟩:=F7 I.hok e;have hz:vs.length<=sizeLine:=by rw[<-rel.length];exact z
  have hl:(eL kvs k v).length<=sizeLine:=by have:=fN kvs k v;lia
  refine wpAny_setItem_pairs (hsz:=hz) (mO ry) dd λh' dd' hs=>h _ ?_
  have he:∃q,h'.get? a=some q:=let ⟨q,_,_,hq,_⟩:=dd'; ⟨q,hq⟩
  exact uT I (by rw[e];exact True.intro) hs he (yN hl hd (rel.put k rv) dd')
 .subst ey eH
  cases(show u=Value.ref b from ry);obtain⟨z,hd,xs,rel,dd⟩:=F6 I.hok e;have hz:xs.length<=sizeLine:=by rw[<-Paired.length rel];exact z
  have hl:(eL kvs k v).length<=sizeLine:=by have:=fN kvs k v;lia
  refine wpAny_setItem_heap (hsz:=hz) (tupleKind_room_in1 hu) (kL I.hok eb) dd λh' dd' hs=>h _ ?_
  obtain⟨q,es,ep,hq,h2,h3,h4,_,h5⟩:=dd';refine uT I (by rw[e];exact True.intro) hs ⟨q,hq⟩ ⟨hl,hd,_,(rel.put k eb rv).keeps λc ys ec=>?_,q,es,ep,hq,h2,h3,h4,h5⟩
  rw[az (Fs ec e (λz=>nomatch z))];exact ec
end
def Ea(i:Expr):Prop:=∀ov iv,subscripted i false ov iv=operate [ov,iv] (getItem ov iv)
theorem zK{prog:Program}{w:World}{A:Around}{E:Value->Shared->Prop}{s:Shared}{env:Env}{value slice:Expr}{pos:Pos}{T id:String}{Q:Value->Shared->Prop}
  (hl:typeLookup (.type T) "__getitem__" = pure (some (.builtin id))) (hs:Ea slice)
  (h:wpAny (model prog w) A (eval value env) (λo s₁=>wpAny (model prog w) A (eval slice env) (λi s₂=>s₂.TypeIs o T/\wpAny (model prog w) A (getItem o i) Q E s₂) E s₁) E s):
  wpAny (model prog w) A (eval (.Subscript value slice pos) env) Q E s:=by
 refine Subscript_ (wpAny_mono h (λo s₁ h₁=>wpAny_mono h₁ (λi s₂ h₂=>?_) λ_ _ x=>x) λ_ _ x=>x)
 obtain⟨hT,h₂⟩:=h₂;unfold subscriptTail;refine wpAny_bind ?_;rw[getitemInPython_of_ne hT.not_modules];refine wpAny_bind (wpAny_specialOf hT hl ?_);have fin:wpAny (model prog w) A (subscripted slice false o i) (λr s₃=>wpAny (model prog w) A (letTemporaryGo value o r >>= λ_=>pure r) Q E s₃) E s₂:=by
  rw[hs o i];exact wpAny_operating (wpAny_mono h₂ (λr s₃ h₃=>wpAny_bind (wpAny_letTemporaryGo (wpAny_pure h₃))) λ_ _ x=>x)
 first
  |exact wpAny_pure (wpAny_bind fin)
  |exact wpAny_bind (wpAny_pure (wpAny_bind fin))
  |exact wpAny_bind fin
theorem qz{X:Cx}{pins:List (Addr×Obj)}{σ:St}{H:Hp}{s:Shared}{a:Addr}{y:V}{o:Option V}(I:Inv X pins σ H s)(g:DGet H a y o):s.TypeIs (.ref a) "dict":=by
 rcases g with⟨kvs,k,e,_,_⟩|⟨kvs,k,b,e,_,_,_⟩
 .obtain⟨_,_,vs,_,dd⟩:=jF I.hok e
  exact dd.typeIs
 .obtain⟨_,_,xs,_,dd⟩:=mY I.hok e
  exact dd.typeIs
def EJ(td ty:TE):TE:=λσ H Q=>td σ H λx H1=>ty σ H1 λy H2=>∃a v,x=.ref a/\DGet H2 a y (some v)/\Q v H2
def EX(td ty tv:TE):TS:=λD σ H=>tv σ H λv H1=>td σ H1 λx H2=>ty σ H2 λy H3=>∃a H4,x=.ref a/\DPut H3 a y v H4/\D.nx σ H4
section
variable{X:Cx}{o i e value:Expr}{pos pos' tpos:Pos}{td ty tv:TE}
theorem Aj(hu:X.A.units+1<cLine)(ho:PE X o td)(hi:PE X i ty)(hs:Ea i):PE X (.Subscript o i pos) (EJ td ty):=by
 intro pins s σ H Q I h;refine zK PySem.F.slot_dict_getitem.lookup hs (bu (ho pins s σ H _ I h) λu s1 ⟨x,H1,I1,rx,q1⟩=>bu (hi pins s1 σ H1 _ I1 q1) λiv s2 ⟨y,H2,I2,ry,a,v,ex,g,q2⟩=>?_)
 subst ex;obtain rfl:u=Value.ref a:=rx;exact⟨qz I2 g,wn hu I2 g ry λw' s3 I3 rw'=>⟨v,H2,I3,rw',q2⟩⟩
theorem tY(hu:X.A.units+1<cLine)(ho:PE X o td)(hi:PE X i ty)(hv:PE X value tv)(hs:swapsWith value (some (.Subscript o i pos')) pos.line X.env=pure false):
  PS X (.Assign [.Subscript o i pos'] value pos) (EX td ty tv):=by
 intro pins s σ H D I h;refine wpAny_Assign_Subscript (bu (hv pins s σ H _ I h) λr s1 ⟨v,H1,I1,rv,q1⟩=>bu (ho pins s1 σ H1 _ I1 q1) λu s2 ⟨x,H2,I2,rx,q2⟩=>bu (hi pins s2 σ H2 _ I2 q2) λiv s3 ⟨y,H3,I3,ry,a,H4,ex,g,q3⟩=>?_) hs
 subst ex;obtain rfl:u=Value.ref a:=rx;exact wm hu I3 g ry rv λs4 I4=>⟨σ,H4,I4,q3⟩
end
theorem yO{P:Program}{w:World}{H:Hp}(h:Heap)(hb:sysModules<h.objs.size):ObjOk P w H (h.push {cls:=.type "dict",data:=.dict #[]}) h.objs.size (.dK []):=
 ⟨Nat.zero_le _,beq_eq_false_iff_ne.mpr (Ne.symm (Nat.ne_of_lt hb)),[],.nil,Heap.DictOf.new h⟩
def B7:TE:=λ_ H Q=>∀p,H p=none->Q (.ref p) (upd H p (.dK []))
section
variable{X:Cx}{pos:Pos}
theorem xA:PE X (.Dict [] [] pos) B7:=λpins s σ H Q I h=>
 wpAny_Dict_empty ⟨.ref s.heap.objs.size,_,I.laid (a:=s.heap.objs.size) (o:=.dK []) (t':=s.toks) (λ_ _ q=>Heap.get?_push_of_some _ q) (Nat.le_refl _) (yO s.heap I.big),rfl,h _ (I.hok.fresh (Nat.le_refl _))⟩
end
structure M2 (X:Cx) (o:Expr) (m:Str) (apos:Pos) (e f:Expr) (cpos:Pos):Prop where
 base:attributeBase o m X.env (eval o X.env)=eval o X.env
 few:((backTo cpos (starEach [e,f] X.env)).all (λx=>!x.1)&&(backToKw cpos (keywordEach [] X.env)).all (λx=>x.1.isSome)
  && decide (([e,f]:List Expr).length+([]:List Keyword).length+(if([]:List Keyword).isEmpty then 0 else 1)<30))=true
 line:(apos.endLine==cpos.line)=true
 trees:backTo cpos (starEach [e,f] X.env)=[(false,eval e X.env),(false,eval f X.env)]
def IS(H:Hp)(a:Addr):Prop:=(∃kvs,Rd H a (.dK kvs))\/∃kvs,Rd H a (.dT kvs)
theorem ym{X:Cx}{pins:List (Addr×Obj)}{σ:St}{H:Hp}{s:Shared}{a:Addr}(I:Inv X pins σ H s)(d:IS H a):
  s.TypeIs (.ref a) "dict"/\ (∀b,Value.ref a=.ref b->∃ob,s.heap.get? b=some ob/\ob.dict=none)/\(a==sysModules)=false:=by
 rcases d with⟨kvs,e⟩|⟨kvs,e⟩
 .obtain⟨_,hd,vs,_,dd⟩:=jF I.hok e
  refine⟨dd.typeIs,λb q=>?_,hd⟩
  cases q;obtain⟨ob,_,_,h1,h2,_⟩:=dd;exact⟨ob,h1,h2.2.1⟩
 .obtain⟨_,hd,xs,_,dd⟩:=mY I.hok e
  refine⟨dd.typeIs,λb q=>?_,hd⟩
  cases q;obtain⟨ob,_,_,h1,h2,_⟩:=dd;exact⟨ob,h1,h2.2.1⟩
section
variable{X:Cx}{pins:List (Addr×Obj)}{σ:St}{H:Hp}{s:Shared}{a:Addr}{y d:V}{u r:Value}{o:Option V}{A:Around}{E:Value->Shared->Prop}
theorem DF{Q:Value->Shared->Prop}(hu:A.units+1<cLine)(I:Inv X pins σ H s)(g:DGet H a y o)(ry:RelV y u)(rd:RelV d r)(h:∀w' s',Inv X pins σ H s'->RelV (o.getD d) w'->Q w' s'):
  wpAny (model X.prog X.w) A (call (.builtin "dict.get") [.ref a,u,r]) Q E s:=by
 rcases g with⟨kvs,k,e,ey,l⟩|⟨kvs,k,b,e,ey,eb,l⟩
 .subst ey
  obtain⟨z,hd,vs,rel,dd⟩:=jF I.hok e;refine call_meetsIn PySem.F.slot_dict_get dd.typeIs PySem.F.entry_dict_get (PySem.F.args_dict_get_3 _ _ _) (meets_dict_get_default (aF X.prog X.w) a (mO ry) hd r) ⟨_,dd.mapOf,h _ _ (I.tok _) ?_⟩;rw[l];exact(rel.val k).getD rd
 .subst ey
  cases(show u=Value.ref b from ry);obtain⟨z,hd,xs,rel,dd⟩:=mY I.hok e;refine call_meetsIn PySem.F.slot_dict_get dd.typeIs PySem.F.entry_dict_get (PySem.F.args_dict_get_3 _ _ _) (meetsH_dict_get_default (tupleKind (aF X.prog X.w)) a b hd r) ⟨tupleKind_room_in1 hu,k,xs,kL I.hok eb,dd,h _ _ (I.tok _) ?_⟩;rw[l];exact(rel.val k).getD rd
end
def B8(td ty tx:TE):TE:=λσ H Q=>td σ H λx H1=>∃a,x=.ref a/\IS H1 a/\ty σ H1 λy H2=>tx σ H2 λz H3=>∃o,DGet H3 a y o/\Q (o.getD z) H3
section
variable{X:Cx}{o e f:Expr}{apos cpos:Pos}{td ty tx:TE}
theorem xB(hu:X.A.units+1<cLine)(ho:PE X o td)(he:PE X e ty)(hf:PE X f tx)(m:M2 X o "get" apos e f cpos):PE X (.Call (.Attribute o "get" apos) [e,f] [] cpos) (B8 td ty tx):=by
 intro pins s σ H Q I h;refine wpAny_Call_method m.base m.few m.line PySem.F.plainAttrs_dict PySem.F.slot_dict_get PySem.F.type_dict_get (bu (ho pins s σ H _ I h) λu s1 ⟨x,H1,I1,rx,a,ex,d,q1⟩=>?_)
 subst ex;obtain rfl:u=Value.ref a:=rx;obtain⟨t1,t2,_⟩:=ym I1 d;refine⟨t1,t2,?_⟩;rw[m.trees];refine Calls.callWith_builtin rfl (Calls.evalArgs_plain (Calls.spliced_cons (bu (he pins s1 σ H1 _ I1 q1) λiv s2 ⟨y,H2,I2,ry,q2⟩=>
  Calls.spliced_cons (bu (hf pins s2 σ H2 _ I2 q2) λfv s3 ⟨z,H3,I3,rz,ov,g,q3⟩=>Calls.spliced_nil ?_))))
 exact DF hu I3 g ry rz λw' s4 I4 rw'=>⟨_,H3,I4,rw',q3⟩
end
end L2
namespace Att
open PySem PySem.W PySem.Calls PyProof.Rows
end Att
namespace L2
open PySem PySem.Spec PyProof.Rows
end L2
namespace VL
open PySem PySem.Spec PyProof.Rows L2
noncomputable def jb:D->Option ar
 |.int i=>some (.inl i)
 |.str x=>some (.inr x)
 |_=>none
@[simp] theorem FD(i:Int):jb (.int i)=some (.inl i):=rfl
noncomputable def zm:Option Sl->Option (List (ar×D))
 |some (.own (.d es))=>some es
 |_=>none
@[simp] theorem Hl(es:List (ar×D)):zm (some (.od es))=some es:=rfl
noncomputable def dO(es:List (ar×D))(k:ar):Option D:=(es.find? λp=>decide (p.1=k)).map (·.2)
noncomputable def il(es:List (ar×D))(k:ar)(d:D):List (ar×D):=if(es.any λp=>decide (p.1=k))=true then es.map (λp=>if p.1=k then(p.1,d)else p)else es++[(k,d)]
noncomputable def pJ(i:Nat):Sf:=λδ=>some (.nx,δ.set i (.od []))
noncomputable def gG(i:Nat)(fk fx:Dv->Option D):Dv->Option D:=λδ=>(zm δ[i]?).bind λes=>(fk δ).bind λk=>(fx δ).bind λy=>(jb k).bind λk=>some ((dO es k).getD y)
noncomputable def dg(i:Nat)(fk fv:Dv->Option D):Sf:=λδ=>(fv δ).bind λv=>(zm δ[i]?).bind λes=>(fk δ).bind λk=>(jb k).bind λk=>if es.length<sizeLine then some (.nx,δ.set i (.od (il es k v)))else none
theorem gC{o:Option Sl}{es:List (ar×D)}(h:zm o=some es):o=some (.od es):=by
 cases o with
 |none=>cases h
 |some x=>
  cases x with
  |own c=>
   cases c with
   |l ds=>cases h
   |d fs=>cases h;rfl
  |un=>cases h
  |fz d=>cases h
  |fr _=>cases h
theorem fO{K:Fg}{Z:Hp}{v:V}{d:D}{k:ar}(r:Rep K Z v d)(h:jb d=some k):v=kV k:=by
 cases d with
 |int i=>cases h;exact r.int_eq
 |str x=>cases h;exact r.str_eq
 |_=>cases h
theorem ej{K:Fg}{Z:Hp}{kvs:List (ar×V)}{es:List (ar×D)}(h:gj K Z kvs es):kvs.length=es.length:=by
 have:=congrArg List.length h.1;rw[List.length_map,List.length_map]at this;exact this.symm
theorem gb{K:Fg}{Z:Hp}{kv:ar×V}{kvs:List (ar×V)}{es:List (ar×D)}(h:gj K Z (kv::kvs) es):∃d fs,es=(kv.1,d)::fs/\Rep K Z kv.2 d/\gj K Z kvs fs:=by
 obtain⟨h1,h2⟩:=h;cases es with
 |nil=>cases h1
 |cons e fs=>
  obtain⟨k,d⟩:=e;rw[List.map_cons,List.map_cons,List.cons.injEq]at h1;cases h2 with
  |cons r q=>exact⟨d,fs,by rw[<-h1.1],r,h1.2,q⟩
theorem pL{K:Fg}{Z:Hp}(k:ar):∀{kvs:List (ar×V)} {es:List (ar×D)},gj K Z kvs es->(gZ kvs k=none/\dO es k=none)\/∃v d,gZ kvs k=some v/\dO es k=some d/\Rep K Z v d
 |[],es,h=>by
  have:es=[]:=List.length_eq_zero_iff.mp (ej h).symm;subst this;exact .inl ⟨rfl,rfl⟩
 |kv::kvs,es,h=>by
  obtain⟨d,fs,rfl,r,q⟩:=gb h;by_cases e:kv.1=k
  .exact .inr ⟨kv.2,d,fA e,by simp[dO,List.find?_cons,e],r⟩
  .rw[fB e]
   have:dO ((kv.1,d)::fs) k=dO fs k:=by simp[dO,List.find?_cons,e]
   rw[this];exact pL k q
theorem km{K:Fg}{Z:Hp}{kvs:List (ar×V)}{es:List (ar×D)}(h:gj K Z kvs es)(k:ar){v:V}{d:D}(r:Rep K Z v d):gj K Z (eL kvs k v) (il es k d):=by
 have any:∀{kvs:List (ar×V)} {es:List (ar×D)},gj K Z kvs es->(kvs.any λkv=>decide (kv.1=k))=es.any λp=>decide (p.1=k):=by
  intro kvs
  induction kvs with
  |nil=>
   intro es h;have:es=[]:=List.length_eq_zero_iff.mp (ej h).symm;subst this;rfl
  |cons kv kvs ih=>
   intro es h;obtain⟨d,fs,rfl,_,q⟩:=gb h;rw[List.any_cons,List.any_cons,ih q]
 unfold eL il;rw[any h];by_cases a:(es.any λp=>decide (p.1=k))=true
 .rw[if_pos a,if_pos a]
  clear a any;revert es
  induction kvs with
  |nil=>
   intro es h;have:es=[]:=List.length_eq_zero_iff.mp (ej h).symm;subst this;exact⟨rfl,.nil⟩
  |cons kv kvs ih=>
   intro es h;obtain⟨d',fs,rfl,r',q⟩:=gb h;obtain⟨i1,i2⟩:=ih q;by_cases e:kv.1=k
   .rw[List.map_cons,List.map_cons,if_pos e,if_pos e]
    exact⟨by rw[List.map_cons,List.map_cons,i1],.cons r i2⟩
   .rw[List.map_cons,List.map_cons,if_neg e,if_neg e]
    exact⟨by rw[List.map_cons,List.map_cons,i1],.cons r' i2⟩
 .rw[if_neg a,if_neg a]
  refine⟨by rw[List.map_append,List.map_append,h.1];rfl,?_⟩;rw[List.map_append,List.map_append];exact h.2.append (.cons r .nil)
theorem wy{n:Nat}(h:n+64<cLine):n+1<cLine:=by lia
section
variable{X:Cx}{e b c:Expr}{p pos tpos apos cpos:Pos}{f fk fv fx:Dv->Option D}
theorem nI(i:Nat){x:Str}{pos':Pos}(hN:X.N.Nodup)(hi:X.N[i]? = some x:=by rfl)(hx:qY X.env.scope x:=by first|exact Or.inl rfl|exact Or.inr rfl)(hs:swapsWith (.Dict [] [] p) (some (.Name x pos')) pos.line X.env=pure false:=by rfl)
  (hf:X.fn x=true\/X.env.scope.names.lookup x=some .local:=by first|exact .inl rfl|exact .inr rfl|assumption):SV X (.Assign [.Name x pos'] (.Dict [] [] p) pos) (pJ i):=
 PS.imp (gE hN hi hx xA hs hf) λD σ H h=>by
  obtain⟨H₀,Z₀,Z,δ,r,hh,e,k⟩:=h;cases e;exact λp hp=>k _ _ Z (hh.setW hp (.dct ⟨rfl,.nil⟩)) (Same.refl _)
theorem kA{K:Fg}{H₀ Z₀ Z:Hp}{δ:Dv}{σ:St}{H:Hp}(hh:Hold K H₀ Z₀ Z δ σ H){i:Nat}{es:List (ar×D)}(h:zm δ[i]? = some es):∃a kvs,σ[i]? = some (some (V.ref a))/\H a=some (.dK kvs)/\gj K Z kvs es:=by
 obtain⟨a,kvs,h1,_,_,h4,h5⟩:=hh.od i es (gC h);exact⟨a,kvs,h1,h4,h5⟩
theorem qx(i:Nat){x:Str}(hu:X.A.units+1<cLine)(hb:EV X b fk)(hc:EV X c fx)(m:M2 X (.Name x p) "get" apos b c cpos)(hN:X.N[i]? = some x:=by rfl)(hv:vg X.env.scope x:=by first|exact Or.inl rfl|exact Or.inr (Or.inl rfl)|exact Or.inr (Or.inr rfl))(hd:(x==("__debug__":Str))=false:=by decide)(hcd:(x==("__classdict__":Str))=false:=by decide):
  EV X (.Call (.Attribute (.Name x p) "get" apos) [b,c] [] cpos) (gG i fk fx):=
 PE.imp (xB hu (cO hN hv hd hcd) hb hc m) λσ H Q h=>by
  obtain⟨H₀,Z₀,Z,δ,d,hh,e,k⟩:=h;obtain⟨es,e1,e⟩:=bind_some e;obtain⟨y,e2,e⟩:=bind_some e;obtain⟨z,e3,e⟩:=bind_some e;obtain⟨ky,e4,e⟩:=bind_some e;cases e;obtain⟨a,kvs,h1,h4,h5⟩:=kA hh e1;refine⟨_,h1,a,rfl,.inl ⟨kvs,.inl h4⟩,H₀,Z₀,Z,δ,y,hh,e2,λv Z1 H1 hh1 t1 r1=>⟨H₀,Z₀,Z1,δ,z,hh1,e3,λu Z2 H2 hh2 t2 r2=>?_⟩⟩
  obtain⟨a',kvs',g1,g4,g5⟩:=kA hh2 e1;rw[h1]at g1;cases g1;obtain rfl:=fO r1 e4;rcases pL ky g5 with⟨q,q'⟩|⟨w,d',q1,q2,rw'⟩
  .refine⟨none,q ▸ DGet.k g4,k u Z2 H2 hh2 (t1.trans t2) ?_⟩
   rw[q'];exact r2
  .refine⟨some w,q1 ▸ DGet.k g4,k w Z2 H2 hh2 (t1.trans t2) ?_⟩
   rw[q2];exact rw'
theorem nH(i:Nat){x:Str}(hu:X.A.units+1<cLine)(hb:EV X b fk)(hv':EV X e fv)(hN:X.N[i]? = some x:=by rfl)(hv:vg X.env.scope x:=by first|exact Or.inl rfl|exact Or.inr (Or.inl rfl)|exact Or.inr (Or.inr rfl))(hd:(x==("__debug__":Str))=false:=by decide)(hcd:(x==("__classdict__":Str))=false:=by decide)
  (hs:swapsWith e (some (.Subscript (.Name x p) b tpos)) pos.line X.env=pure false:=by rfl):SV X (.Assign [.Subscript (.Name x p) b tpos] e pos) (dg i fk fv):=
 PS.imp (tY hu (cO hN hv hd hcd) hb hv' hs) λD σ H h=>by
  obtain⟨H₀,Z₀,Z,δ,r,hh,e,k⟩:=h;obtain⟨v,e1,e⟩:=bind_some e;obtain⟨es,e2,e⟩:=bind_some e;obtain⟨y,e3,e⟩:=bind_some e;obtain⟨ky,e4,e⟩:=bind_some e;obtain⟨hl,e5⟩:=bT e;cases e5;refine⟨H₀,Z₀,Z,δ,v,hh,e1,λw Z1 H1 hh1 t1 r1=>?_⟩
  obtain⟨a,kvs,h1,h4,h5⟩:=kA hh1 e2;refine⟨_,h1,H₀,Z₀,Z1,δ,y,hh1,e3,λu Z2 H2 hh2 t2 r2=>?_⟩
  obtain⟨a',kvs',g1,g4,g5⟩:=kA hh2 e2;rw[h1]at g1;cases g1;obtain rfl:=fO r2 e4;exact⟨a,_,rfl,DPut.k g4 (by rw[ej g5];exact hl),k σ _ Z2 (hh2.chgW (gC e2) h1 (.dct (km g5 ky (r1.same t2)))) (t1.trans t2)⟩
end
noncomputable def su(x:Int):List Int->List Int
 |[]=>[x]
 |y::r=>if x<=y then x::y::r else y::su x r
noncomputable def aR:List Int->List Int
 |[]=>[]
 |x::r=>su x (aR r)
theorem jh(x:Int):∀l:List Int,(su x l).Perm (x::l)
 |[]=>.refl _
 |y::r=>by
  unfold su;split
  .exact .refl _
  .exact((jh x r).cons y).trans (.swap x y r)
theorem cm:∀l:List Int,(aR l).Perm l
 |[]=>.refl _
 |x::r=>(jh x _).trans ((cm r).cons x)
theorem uy(x:Int):∀l:List Int,l.Pairwise (·<= ·)->(su x l).Pairwise (·<= ·)
 |[],_=>by simp[su]
 |y::r,h=>by
  obtain⟨h1,h2⟩:=List.pairwise_cons.mp h;unfold su;split
  .rename_i hx
   exact List.pairwise_cons.mpr ⟨λz hz=>by rcases List.mem_cons.mp hz with rfl|hz;exact hx;exact Int.le_trans hx (h1 z hz),h⟩
  .rename_i hx
   refine List.pairwise_cons.mpr ⟨λz hz=>?_,uy x r h2⟩
   rcases List.mem_cons.mp ((jh x r).mem_iff.mp hz)with rfl|hz
   .lia
   .exact h1 z hz
theorem jf:∀l:List Int,(aR l).Pairwise (·<= ·)
 |[]=>.nil
 |x::r=>uy x _ (jf r)
theorem kf:∀{a b:List Int},a.Perm b->a.Pairwise (·<= ·)->b.Pairwise (·<= ·)->a=b
 |[],b,p,_,_=>(List.nil_perm.mp p).symm
 |x::a,b,p,ha,hb=>by
  cases b with
  |nil=>exact absurd (List.perm_nil.mp p) (by simp)
  |cons y b=>
   obtain⟨ha1,ha2⟩:=List.pairwise_cons.mp ha;obtain⟨hb1,hb2⟩:=List.pairwise_cons.mp hb;have e:x=y:=by
    have h1:x∈y::b:=p.mem_iff.mp List.mem_cons_self;have h2:y∈x::a:=p.mem_iff.mpr List.mem_cons_self;rcases List.mem_cons.mp h1 with h1|h1
    .exact h1
    .rcases List.mem_cons.mp h2 with h2|h2
     .exact h2.symm
     .exact Int.le_antisymm (ha1 y h2) (hb1 x h1)
   subst e;rw[kf (List.perm_cons x |>.mp p) ha2 hb2]
theorem gg{a b:List Int}(p:a.Perm b)(h:a.Pairwise (·<= ·)):a=aR b:=kf (p.trans (cm b).symm) h (jf b)
noncomputable def HF:ar->Option Int
 |.inl i=>some i
 |.inr _=>none
noncomputable def mN:List (ar×D)->Option (List Int)
 |[]=>some []
 |p::r=>(HF p.1).bind λi=>(mN r).bind λl=>some (i::l)
theorem iG:∀{es:List (ar×D)} {l:List Int},mN es=some l->es.map (·.1)=l.map Sum.inl
 |[],_,h=>by cases h;rfl
 | (.inl i,d)::r,l,h=>by
  obtain⟨m,hm,e⟩:=bind_some h;cases hm;obtain⟨l',h',e⟩:=bind_some e;cases e;rw[List.map_cons,iG h'];rfl
 | (.inr x,d)::r,l,h=>by cases h
theorem uv{P:Program}{w:World}:∀{acc:List Value} {kvs:List (ar×Value)} {l:List Int},acc.length=kvs.length->(∀(j:Nat) (v:Value),acc[j]? = some v->∃k x,kvs[j]? = some (k,x)/\(aF P w).is k v=true)->kvs.map (·.1)=l.map Sum.inl->IntsAre acc l
 |[],kvs,l,h1,_,h3=>by
  have:kvs=[]:=List.length_eq_zero_iff.mp h1.symm;subst this;have:l=[]:=by simpa using h3.symm
  subst this;exact .nil
 |v::acc,kv::kvs,l,h1,h2,h3=>by
  cases l with
  |nil=>cases h3
  |cons i l=>
   rw[List.map_cons,List.map_cons,List.cons.injEq]at h3;obtain⟨k,x,e,hk⟩:=h2 0 v rfl;cases e;have hk':jB k v=true:=hk;have h3':k=Sum.inl i:=h3.1;subst h3';rcases aW hk' with⟨i',t,e1,rfl⟩|⟨y,t,e1,rfl⟩
   .cases e1
    exact .cons i t (uv (P:=P) (w:=w) (by simpa using h1) (λj v e=>h2 (j+1) v e) h3.2)
   .cases e1
theorem ci:∀{out:List Value} {l:List Int},IntsAre out l->Vals (l.map V.int) out
 |_,_,.nil=>.nil
 |_,_,.cons n t r=>.cons ⟨t,rfl⟩ (ci r)
theorem oo{κ:Type}:∀{kvs:List (κ × V)} {vs:List (κ × Value)},KV kvs vs->vs.map (·.1)=kvs.map (·.1)
 |_,_,.nil=>rfl
 |_,_,.cons r q=>by rw[List.map_cons,List.map_cons,oo q,r.1]
theorem aX{h:Heap}{a b:Addr}{f:Obj->Obj}{o:Obj}(hab:b≠a)(e:h.get? b=some o):(h.update a f).get? b=some o:=(Heap.get?_update_other _ _ (Ne.symm hab)).trans e
noncomputable def Er:List D->Option D
 |[.list a,.list b]=>some (.list (List.zipWith (λx y=>.tuple [x,y]) a b))
 |_=>none
@[simp] noncomputable def Js(fs:Dv->Option (List D))(g:List D->Option D):Dv->Option D:=λδ=>(fs δ).bind g
@[simp] theorem Gq(a b:List D):Er [.list a,.list b]=some (.list (List.zipWith (λx y=>.tuple [x,y]) a b)):=rfl
theorem v6{X:Cx}{pins:List (Addr×Obj)}{σ:St}{H H':Hp}{s:Shared}{h':Heap}{t':Nat}(I:Inv X pins σ H s)(k:∀b u,s.heap.get? b=some u->h'.get? b=some u)(ext:∀b,H b≠none->H' b=H b)
  (new:∀b o,H b=none->H' b=some o->s.heap.objs.size<=b/\ObjOk X.prog X.w H' h' b o):Inv X pins σ H' {s with heap:=h',toks:=t'}:=by
 have e':∀{b:Addr} {u:HO},H b=some u->H' b=some u:=λ{b u} q=>by rw[ext b (by rw[q];simp),q]
 refine I.un ⟨λb u q _ _ _=>k b u q,λb u q _ _ _=>⟨u.slots,k b u q⟩,λb u q n _=>?_,λb u q _=>⟨u,k b u q⟩,λb xs q=>e' q,λb u xs q=>e' q,λb ps q=>⟨#[],by rw[e' q];simp⟩⟩ λb u e=>?_
 .cases q':H' b with
  |none=>rfl
  |some o=>exact absurd (Heap.lt_size q) (Nat.not_lt.mpr (new b o n q').1)
 .by_cases n:H b=none
  .exact(new b u n e).2
  .cases q:H b with
   |none=>exact absurd q n
   |some u'=>
    have:=e' q;rw[e]at this;cases this;exact(I.hok b u q).stay (λc v _ q=>k c v q) (λc q=>e' q) (λc xs q=>e' q) λc o xs q=>e' q
noncomputable def vH:List Addr->List (List V)->Addr->Option HO
 |a::as,t::ts,b=>if b=a then some (.tup t)else vH as ts b
 |_,_,_=>none
theorem mE:∀{as:List Addr} {ts:List (List V)} {b:Addr} {o:HO},vH as ts b=some o->∃(j:Nat) (t:List V),as[j]? = some b/\ts[j]? = some t/\o=.tup t
 |[],_,_,_,h=>by cases h
 |_::_,[],_,_,h=>by cases h
 |a::as,t::ts,b,o,h=>by
  unfold vH at h;split at h
  .rename_i e
   cases h;exact⟨0,t,by rw[e];rfl,rfl,rfl⟩
  .obtain⟨j,t',h1,h2,h3⟩:=mE h
   exact⟨j+1,t',h1,h2,h3⟩
theorem pR:∀{as:List Addr} {ts:List (List V)} {j:Nat} {a:Addr} {t:List V},as.Pairwise (· < ·)->as[j]? = some a->ts[j]? = some t->vH as ts a=some (.tup t)
 |[],_,_,_,_,_,h,_=>by simp at h
 |_::_,[],_,_,_,_,_,h=>by simp at h
 |a::as,t::ts,0,_,_,_,h1,h2=>by cases h1;cases h2;exact if_pos rfl
 |a::as,t::ts,j+1,b,u,h,h1,h2=>by
  obtain⟨g1,g2⟩:=List.pairwise_cons.mp h;have hb:=g1 b (List.mem_of_getElem? (by simpa using h1));unfold vH;rw[if_neg (Nat.ne_of_gt hb)];exact pR g2 (by simpa using h1) (by simpa using h2)
section
variable{X:Cx}{e1 e2:Expr}{p p2 pos pos2:Pos}{ta:TA}{fs:Dv->Option (List D)}
noncomputable def Ec:Option HO->Option HO
 |some (.frz _ (.lst _))=>none
 |o=>o
theorem pj{o:Option HO}{u:HO}(h:Ec o=some u):o=some u/\Au u=true:=by
 unfold Ec at h;split at h
 .cases h
 .rename_i hn
  refine⟨h,?_⟩;unfold Au;split
  .exact absurd h (hn _ _)
  .rfl
theorem New.many{Z H H':Hp}(zh:Same Z H)(ext:∀b,H b≠none->H' b=H b):New Z H (λb=>if H b=none then Ec (H' b)else Z b) H' where
 z:=λb u e=>by
  have:H b=some u:=zh b u e;show(if H b=none then _ else _)=_;rw[if_neg (by rw[this];simp)];exact e
 h:=λb u e=>by rw[ext b (by rw[e];simp),e]
 zh:=λb u e=>by
  have e:(if H b=none then Ec (H' b)else Z b)=some u:=e;split at e
  .exact(pj e).1
  .rename_i n
   rw[ext b n];exact zh b u e
 o:=λb hb=>if_neg hb
 nf:=λb o xs e=>by
  have e:(if H b=none then Ec (H' b)else Z b)=_:=e;split at e
  .cases(pj e).2
  .exact e
end
noncomputable def mR:List (ar×D)->Option (List (ar×Int))
 |[]=>some []
 | (k,.int i)::r=>(mR r).bind λl=>some ((k,i)::l)
 |_=>none
noncomputable def iP(i:Nat)(δ:Dv):Dv:=match δ[i]? with
 |some (.own (.d es))=>match mR es with
  |some l=>δ.set i (.fz (.dict (cG l)))
  |none=>δ
 |_=>δ
noncomputable def jw:List (D×D)->Option (List (ar×Int))
 |[]=>some []
 | (k,.int i)::r=>(jb k).bind λk=>(jw r).bind λl=>some ((k,i)::l)
 |_=>none
theorem se(k:ar):jb (ut k)=some k:=by cases k<;>rfl
@[simp] theorem eG:∀es:List (ar×Int),jw (cG es)=some es
 |[]=>rfl
 | (k,i)::r=>by
  show(jb (ut k)).bind _=_;rw[se];show(jw (cG r)).bind _=_;rw[eG r];rfl
noncomputable def kX(es:List (ar×Int))(k:ar):Option Int:=(es.find? λp=>decide (p.1=k)).map (·.2)
noncomputable def gy:D->D->Option D
 |.dict kvs,k=>(jw kvs).bind λes=>(jb k).bind λk=>(kX es k).map .int
 |_,_=>none
theorem kN:∀{es:List (ar×D)} {l:List (ar×Int)},mR es=some l->es=l.map λp=>(p.1,PyData.int p.2)
 |[],_,h=>by cases h;rfl
 | (k,.int i)::r,l,h=>by
  obtain⟨m,hm,e⟩:=bind_some h;cases e;rw[kN hm];rfl
 | (k,.none)::r,l,h=>by cases h
 | (k,.bool _)::r,l,h=>by cases h
 | (k,.str _)::r,l,h=>by cases h
 | (k,.tuple _)::r,l,h=>by cases h
 | (k,.list _)::r,l,h=>by cases h
 | (k,.dict _)::r,l,h=>by cases h
theorem i4{K:Fg}{Z:Hp}:∀{kvs:List (ar×V)} {l:List (ar×Int)},gj K Z kvs (l.map λp=>(p.1,PyData.int p.2))->kvs=l.map λp=>(p.1,V.int p.2)
 |[],l,h=>by
  have:(l.map λp=>(p.1,PyData.int p.2))=[]:=List.length_eq_zero_iff.mp (ej h).symm
  rw[List.map_eq_nil_iff.mp this];rfl
 |kv::kvs,l,h=>by
  obtain⟨d,fs,e,r,q⟩:=gb h;cases l with
  |nil=>cases e
  |cons p l=>
   rw[List.map_cons,List.cons.injEq,Prod.mk.injEq]at e;obtain⟨⟨e1,e2⟩,e3⟩:=e;subst e2;subst e3;obtain⟨k,v⟩:=kv;have e1:p.1=k:=e1;have rv:v=V.int p.2:=r.int_eq;subst rv;rw[List.map_cons,<-i4 q,e1]
theorem wa{K:Fg}{H₀ Z₀ Z H:Hp}{δ:Dv}{σ:St}(h:Hold K H₀ Z₀ Z δ σ H){i:Nat}{l:List (ar×Int)}(e:δ[i]? = some (.od (l.map λp=>(p.1,PyData.int p.2)))):∃Z',Same Z Z'/\Hold K H₀ Z₀ Z' (δ.set i (.fz (.dict (cG l)))) σ H:=by
 obtain⟨a,kvs,h1,h2,h3,h4,h5⟩:=h.od i _ e;obtain rfl:=i4 h5;have hl:i < δ.length:=(List.getElem?_eq_some_iff.mp e).1;have sz:Same Z (upd Z a (.dK (l.map λp=>(p.1,V.int p.2)))):=cA h3
 refine⟨_,sz,λb o q=>?_,h.h0,h.z0.trans sz,λb hb=>?_,by simp[h.len],λj d q=>?_,λj d q=>?_,λj k d1 d2 b hjk q1 q2=>?_,(h.fr.same sz).put (λ_ z=>nomatch z) λ_ _=>rfl,h.nf.upd a⟩
 .by_cases hb:b=a
  .subst hb;rw[aC]at q;cases q;exact h4
  .rw[az hb]at q;exact h.zh b o q
 .rw[az (λz=>hb (by rw[z];exact h2))];exact h.zb b hb
 .by_cases hj:i=j
  .subst hj
   rw[List.getElem?_set_self hl]at q;cases q;exact⟨.ref a,h1,.opq (.dct rfl aC)⟩
  .rw[List.getElem?_set_ne hj]at q
   obtain⟨v,g1,g2⟩:=h.fz j d q;exact⟨v,g1,g2.same sz⟩
 .by_cases hj:i=j
  .subst hj
   rw[List.getElem?_set_self hl]at q;cases q
  .rw[List.getElem?_set_ne hj]at q
   obtain⟨b,ws,g1,g2,g3,g4,g5⟩:=h.own j d q;have:b≠a:=λz=>by subst z;exact h.dja i j _ d b hj e q h1 g1
   exact⟨b,ws,g1,g2,by rw[az this];exact g3,g4,g5.same sz⟩
 .by_cases hj:i=j
  .subst hj
   rw[List.getElem?_set_self hl]at q1;cases q1
  .by_cases hk:i=k
   .subst hk
    rw[List.getElem?_set_self hl]at q2;cases q2
   .rw[List.getElem?_set_ne hj]at q1
    rw[List.getElem?_set_ne hk]at q2;exact h.dja j k d1 d2 b hjk q1 q2
section
variable{X:Cx}{st:Stmt}{s1:Sf}{a b:Expr}{f fk:Dv->Option D}{p pos:Pos}
theorem Dp{K:Fg}(i:Nat){D:Ends}{σ:St}{H:Hp}(h:Bo K (λδ=>s1 (iP i δ)) D σ H):Bo K s1 D σ H:=by
 obtain⟨H₀,Z₀,Z,δ,r,hh,e,k⟩:=h;have e:s1 (iP i δ)=some r:=e;unfold iP at e;split at e
 .rename_i es q
  split at e
  .rename_i l ql
   rw[kN ql]at q;obtain⟨Z1,t1,hh1⟩:=wa hh q;exact⟨H₀,Z₀,Z1,_,r,hh1,e,λσ2 H2 Z2 hh2 t2=>k σ2 H2 Z2 hh2 (t1.trans t2)⟩
  .exact⟨H₀,Z₀,Z,_,r,hh,e,k⟩
 .exact⟨H₀,Z₀,Z,_,r,hh,e,k⟩
theorem rp(i:Nat)(h:SV X st s1):SV X st (λδ=>s1 (iP i δ)):=PS.imp h λD σ H q=>Dp i q
theorem yP{K:Fg}{Z:Hp}{v:V}{kvs:List (D×D)}{es:List (ar×Int)}(r:Rep K Z v (.dict kvs))(h:jw kvs=some es):∃a,v=.ref a/\Z a=some (.dK (es.map λp=>(p.1,V.int p.2))):=by
 cases r with
 | @opq a _ q=>
  cases q with
  |exc _ _=>cases h
  |fn _=>cases h
  |lam _ _ _=>cases h
  |ins _ _ _=>cases h
  |dct h1 h2=>
   subst h1;rw[eG]at h;cases h;exact⟨a,rfl,h2⟩
 |gdc _ _ _ _=>cases h
theorem mj(k:ar):∀es:List (ar×Int),gZ (es.map λp=>(p.1,V.int p.2)) k=(kX es k).map V.int
 |[]=>rfl
 | (k',i)::r=>by
  by_cases e:k'=k
  .rw[List.map_cons,fA e];simp[kX,List.find?_cons,e]
  .rw[List.map_cons,fB e,mj k r];simp[kX,List.find?_cons,e]
theorem er(hu:X.A.units+1<cLine)(ha:EV X a f)(hb:EV X b fk)(hsl:Ea b):EV X (.Subscript a b pos) (o2 f fk gy):=
 PE.imp (Aj hu ha hb hsl) λσ H Q h=>by
  obtain⟨H₀,Z₀,Z,δ,d,hh,e,k⟩:=h;obtain⟨x,e1,e⟩:=bind_some e;obtain⟨y,e2,e⟩:=bind_some e;cases x with
  |dict kvs=>
   obtain⟨es,e3,e⟩:=bind_some e;obtain⟨ky,e4,e⟩:=bind_some e;obtain⟨i,e5,e⟩:=Option.map_eq_some_iff.mp e;subst e;refine⟨H₀,Z₀,Z,δ,_,hh,e1,λv Z1 H1 hh1 t1 r1=>⟨H₀,Z₀,Z1,δ,y,hh1,e2,λu Z2 H2 hh2 t2 r2=>?_⟩⟩
   obtain⟨ad,rfl,g⟩:=yP r1 e3;obtain rfl:=fO r2 e4;exact⟨ad,V.int i,rfl,by have:=DGet.k (k:=ky) (hh2.zh _ _ (t2 _ _ g));rw[mj,e5]at this;exact this,k _ Z2 H2 hh2 (t1.trans t2) (.int i)⟩
  |_=>cases e
end
section
variable{cmp:Nat->Nat->(Bool->Shared->Prop)->Shared->Prop}{N:Nat}{key:Nat->Int}
noncomputable def ky(key:Nat->Int)(p:Array Nat)(i:Nat):Int:=key (p.getD i 0)
structure Pm (N:Nat) (p:Array Nat):Prop where
 perm:p.toList.Perm (List.range N)
theorem Pm.size{p:Array Nat}(h:Pm N p):p.size=N:=by
 have:=h.perm.length_eq;simpa using this
variable{s:Shared}(hinj:∀i j,i<N->j<N->key i=key j->i=j)(hc:∀i j,i<N->j<N->i≠j->∀C:Bool->Shared->Prop,C (decide (key i<key j)) s->cmp i j C s)
def Up(key:Nat->Int)(p:Array Nat)(m:Nat):Prop:=∀i j,i<j->j<m->ky key p i<ky key p j
end
noncomputable def sk(es:List (ar×D))(l:List Int):List D:=(aR l).map λk=>.tuple [.int k,(dO es (.inl k)).getD .none]
section
variable{X:Cx}{o:Expr}{p pos apos cpos:Pos}{td:TE}
theorem C5{ns:List Int}(h:ns.Nodup):∀i j,i<ns.length->j<ns.length->ns.getD i 0=ns.getD j 0->i=j:=λi j hi hj e=>by
 rw[List.getD_eq_getElem?_getD,List.getD_eq_getElem?_getD,List.getElem?_eq_getElem hi,List.getElem?_eq_getElem hj]at e;have pw:=List.pairwise_iff_getElem.mp h;rcases Nat.lt_trichotomy i j with q|q|q
 .exact absurd e (pw i j hi hj q)
 .exact q
 .exact absurd e.symm (pw j i hj hi q)
theorem sd{κ:Type}:∀(kvs:List (κ × V)) (vs:List (κ × Value)) (j:Nat) (k:κ) (u:Value),KV kvs vs->vs[j]? = some (k,u)->∃v,kvs[j]? = some (k,v)/\RelV v u
 |[],vs,j,k,u,h,e=>by cases h;simp at e
 |p::kvs,[],j,k,u,h,e=>by simp at e
 |p::kvs,r::vs,0,k,u,h,e=>by
  cases h with
  |cons a b=>
   have e:r=(k,u):=by simpa using e
   subst e;obtain⟨a1,a2⟩:=a;obtain⟨k',v⟩:=p;have a1:k'=k:=a1;subst a1;exact⟨v,rfl,a2⟩
 |p::kvs,r::vs,j+1,k,u,h,e=>by
  cases h with
  |cons a b=>
   obtain⟨v,h1,h2⟩:=sd kvs vs j k u b (by simpa using e);exact⟨v,by simpa using h1,h2⟩
theorem C4:∀{l:List Int},l.Nodup->(l.map (Sum.inl:Int->ar)).Nodup:=λ{l} h=>by
 show List.Pairwise _ _;rw[List.pairwise_map];exact List.Pairwise.imp (λhne z=>hne (by cases z;rfl)) h
theorem uB:∀{es:List (ar×D)} {i:Nat} {k:ar} {d:D},(es.map (·.1)).Nodup->es[i]? = some (k,d)->dO es k=some d
 |[],i,k,d,_,h=>by simp at h
 |e::es,0,k,d,nd,h=>by
  have h:e=(k,d):=by simpa using h
  subst h;simp[dO,List.find?_cons]
 |e::es,i+1,k,d,nd,h=>by
  have h:es[i]? = some (k,d):=by simpa using h
  rw[List.map_cons]at nd;obtain⟨n1,n2⟩:=List.nodup_cons.mp nd;have ne:¬e.1=k:=λz=>n1 (by rw[z];exact List.mem_map.mpr ⟨(k,d),List.mem_of_getElem? h,rfl⟩)
  have:=uB n2 h;unfold dO at this ⊢;rw[List.find?_cons,decide_eq_false ne];exact this
end
theorem og:typeLookup (.type "tuple") "keys" = pure none:=by rw[typeLookup_type,builtinLookup_eq_fast];kernel_rfl
theorem p6:typeLookup (.type "list") "keys" = pure none:=by rw[typeLookup_type,builtinLookup_eq_fast];kernel_rfl
section
variable{prog:Program}{w:World}{A:Around}{E:Value->Shared->Prop}{s:Shared}
theorem jN{a:Addr}{o:Obj}{xs:Array Value}{k:Nat}{Q:Option Value->Shared->Prop}(hx:s.heap.get? a=some o)(hc:o.cls=.type "tuple")(hdat:o.data=.seq xs k)(hd:o.dict=none)(hA:A.handled=none)
  (h:∀h' tk,(∀b o,s.heap.get? b=some o->h'.get? b=some o)->Q none {s with heap:=h',toks:=tk}):wpAny (model prog w) A (getAttr? (.ref a) "keys") Q E s:=by
 obtain⟨c,dct,dat,sl⟩:=o;simp only at hc hdat hd;subst hc hdat hd;obtain⟨hp,g,d,tk,os⟩:=s;have hT:∀tk',(⟨hp,g,d,tk',os⟩:Shared).TypeIs (.ref a) "tuple":=λ_=>⟨_,hx,rfl⟩
 have f1:=sub_AttributeError;have f3:=PySem.F.slot_tuple_getattribute.lookup;have f4:=PySem.F.slot_tuple_getattribute.bind (.ref a);have f5:=am_tuple_getattr_none;unfold getAttr? getAttrBy? getAttrBy
 repeat (any_goals (first|assumption|exact hT _|((with_reducible show wpAny _ _ (call (Value.builtin "tuple.__getattribute__") _ _) _ _ _);refine call_meets PySem.F.slot_tuple_getattribute (hT _) am_entry_tuple_getattribute (PySem.F.args_tuple_getattribute_2 _ _) (meets_getattribute_miss_tuple a xs k sl "keys" _ og (by decide+kernel) (by decide+kernel)) ⟨hx,hA,λh' tk' e hx'=>?_⟩)|wp_step))
 obtain⟨t',u',he⟩:=hx'.there;show wpAny _ _ (getattributeRaised _ _ _ _ _ _ _) _ _ _;unfold getattributeRaised
 repeat (any_goals (first|assumption|wp_step))
 exact h h' tk' hx'.of.keeps
theorem kJ{a:Addr}{o:Obj}{xs:Array Value}{k:Nat}{Q:Option Value->Shared->Prop}(hx:s.heap.get? a=some o)(hc:o.cls=.type "list")(hdat:o.data=.seq xs k)(hd:o.dict=none)(hA:A.handled=none)
  (h:∀h' tk,(∀b o,s.heap.get? b=some o->h'.get? b=some o)->Q none {s with heap:=h',toks:=tk}):wpAny (model prog w) A (getAttr? (.ref a) "keys") Q E s:=by
 obtain⟨c,dct,dat,sl⟩:=o;simp only at hc hdat hd;subst hc hdat hd;obtain⟨hp,g,d,tk,os⟩:=s;have hT:∀tk',(⟨hp,g,d,tk',os⟩:Shared).TypeIs (.ref a) "list":=λ_=>⟨_,hx,rfl⟩
 have f1:=sub_AttributeError;have f3:=PySem.F.slot_list_getattribute.lookup;have f4:=PySem.F.slot_list_getattribute.bind (.ref a);have f5:=am_list_getattr_none;unfold getAttr? getAttrBy? getAttrBy
 repeat (any_goals (first|assumption|exact hT _|((with_reducible show wpAny _ _ (call (Value.builtin "list.__getattribute__") _ _) _ _ _);refine call_meets PySem.F.slot_list_getattribute (hT _) am_entry_list_getattribute (PySem.F.args_list_getattribute_2 _ _) (meets_getattribute_miss_list a xs k sl "keys" _ p6 (by decide+kernel) (by decide+kernel)) ⟨hx,hA,λh' tk' e hx'=>?_⟩)|wp_step))
 obtain⟨t',u',he⟩:=hx'.there;show wpAny _ _ (getattributeRaised _ _ _ _ _ _ _) _ _ _;unfold getattributeRaised
 repeat (any_goals (first|assumption|wp_step))
 exact h h' tk' hx'.of.keeps
end
theorem fS:entryFor table "dict.update.loop" = some Builtin.«dict.update.loop»:=entryFor_of_tree (by kernel_rfl)
theorem bO:plainId "dict.update.loop" = true:=by decide+kernel
noncomputable def yZ(kvs:List (ar×Value))(ps:List (ar×Value)):List (ar×Value):=ps.foldl (λacc p=>stored acc p.1 p.2) kvs
theorem rB(kvs:List (ar×Value))(k:ar)(v:Value):(stored kvs k v).length<=kvs.length+1:=by
 unfold stored;split
 .rw[List.length_map];lia
 .simp
section
variable{prog:Program}{w:World}{A:Around}{R:Result->Shared->Prop}{I:Addr}{fp wr:List Addr}{G:Array GenState->Array GenState->Prop}{n:Nat}{P:Nat->Value->Prop}{St:Nat->Shared->Prop}
theorem pi(W:WalksS prog w A.in1 I fp wr G n P St)(S:Addr)(hSf:S∉fp)(res:Value)(ps:List (ar×Value))(hn:ps.length=n)(hz:n<=100000){h₁:Heap}
  (hP:∀i v,P i v->∃b key k u,v=.ref b/\b≠S/\b∉wr/\ps[i]? = some (k,u)/\(aF prog w).is k key=true/\IsTup h₁ b #[key,u]):
  ∀(m i:Nat) (s:Shared) (kvs:List (ar×Value)),n-i=m->i<=n->St i s->s.heap.DictOf (aF prog w) S kvs->kvs.length<=i->(∀b o,b≠S->b∉wr->h₁.get? b=some o->s.heap.get? b=some o)->
   (∀s',Moved (S::wr) G s s'->s'.heap.DictOf (aF prog w) S (yZ kvs (ps.drop i))->R (.ok (.ret res)) s')->
   codeAny (model prog w) A (.builtin "dict.update.loop" ⟨[.ref S,.ref I,rawInt i,res],[]⟩) R s:=by
 have hSw:S∉wr:=λh=>hSf (W.sub _ h)
 have hsub:∀b∈wr,b∈S::wr:=λb hb=>List.mem_cons_of_mem _ hb
 intro m
 induction m with
 |zero=>
  intro i s kvs hk hi hst hS hl hkp hR;have hin:i=n:=by lia
  subst hin;refine codeAny_builtin fS ?_;rw[Around.under_plainId bO _];show wpAny _ A.in1 (pyNext (.ref I) >>= _) _ _ s;refine wpAny_bind (W.done s _ _ hst λs' hm=>?_);show wpAny _ A.in1 (Builtin.Dict.addKeywords S [] >>= _) _ _ _;refine wpAny_bind (wpAny_pure (wpAny_pure (hR s' (hm.mono hsub) ?_)));rw[List.drop_of_length_le (by lia)];obtain⟨o,es,ep,ho,r⟩:=hS;exact⟨o,es,ep,hm.heap S _ hSw ho,r⟩
 |succ m ih=>
  intro i s kvs hk hi hst hS hl hkp hR;have hlt:i<n:=by lia
  refine codeAny_builtin fS ?_;rw[Around.under_plainId bO _];show wpAny _ A.in1 (pyNext (.ref I) >>= _) _ _ s;refine wpAny_bind (W.item i s _ _ hlt hst λv s' hv hst' hm=>?_);obtain⟨b,key,k,u,rfl,hbS,hbw,hpi,hkey,o,hb,hbc,nn,hbd⟩:=hP i v hv;have hb':=hm.heap b _ hbw (hkp b _ hbS hbw hb);have hS':s'.heap.DictOf (aF prog w) S kvs:=by
   obtain⟨o,es,ep,ho,r⟩:=hS;exact⟨o,es,ep,hm.heap S _ hSw ho,r⟩
  refine wpAny_bind (wpAny_holding ?_);refine wpAny_bind (wpAny_tryCatch ?_);unfold Builtin.Dict.pairItems;refine wpAny_bind (wpAny_typeOf (T:="tuple") ⟨o,hb',hbc⟩ ?_);rw[if_pos (by decide)];refine wpAny_bind (wpAny_seqItems hb' hbd (wpAny_pure ?_));show wpAny _ A.in1 (holding [key,u] (dictSet S key u)) _ _ _;refine wpAny_holding (wpAny_dictSet_pairs (hsz:=by rw[sizeLine_eq];lia) hkey hS' λh' hD hs=>?_)
  have hc:((i:Int)+1)=((i+1:Nat):Int):=by push_cast;rfl
  show wpAny _ A.in1 (again (.builtin "dict.update.loop" ⟨[.ref S,.ref I,rawInt ((i:Int)+1),res],[]⟩)) _ _ _;rw[hc];refine wpAny_pure ⟨plainId_quiet bO _,ih (i+1) _ (stored kvs k u) (by lia) hlt (W.frame _ s' _ _ hst' (Nat.le_succ _) λb hb o e=>hs.extBut b o (λz=>hSf (z ▸ hb)) e) hD (by have:=rB kvs k u;lia) (λb o h1 h2 e=>hs.extBut b o h1 (hm.heap b o h2 (hkp b o h1 h2 e))) λs'' hm'' hD''=>?_⟩
  refine hR s'' (Moved.trans W.gtrans ((hm.mono hsub).then_heap (Nat.le_succ _) λb o hb e=>hs.extBut b o (λz=>hb (by rw[z];exact List.mem_cons_self)) e) hm'') ?_
  have e:ps.drop i=(k,u)::ps.drop (i+1):=by
   obtain⟨hx,hy⟩:=List.getElem?_eq_some_iff.mp hpi;rw[List.drop_eq_getElem_cons hx,hy]
  rw[e];exact hD''
end
section
variable{prog:Program}{w:World}{A:Around}{E:Value->Shared->Prop}{s:Shared}
theorem jS{t:Addr}{items:Array Value}{ps:List (ar×Value)}{Q:Value->Shared->Prop}(ht:IsTup s.heap t items)(hnd:NoDi s.heap t)(hh:A.handled=none)(hn:ps.length=items.size)(hz:items.size<=100000)
  (hP:∀(i:Nat) (v:Value),items[i]? = some v->∃b key k u,v=.ref b/\ps[i]? = some (k,u)/\(aF prog w).is k key=true/\IsTup s.heap b #[key,u])
  (h:∀s':Shared,(∀b o,s.heap.get? b=some o->s'.heap.get? b=some o)->s'.gens=s.gens->s'.drawn=s.drawn->s'.os=s.os->s'.heap.DictOf (aF prog w) s.heap.objs.size (yZ [] ps)->Q (.ref s.heap.objs.size) s'):
  wpAny (model prog w) A (call (.type "dict") [.ref t]) Q E s:=by
 refine callType_codes (Q₁:=λobj s₁=>obj=.ref s.heap.objs.size/\s₁ = {s with heap:=s.heap.push {cls:=.type "dict",data:=.dict #[]}}) PySem.F.kt_called_dict (PySem.F.kt_typeCall_dict_1 _) PySem.F.entry_dict_init (kt_code_dict_new _ ⟨rfl,rfl⟩) ?_;rintro obj s₁ ⟨rfl,rfl⟩;have hnew:(s.heap.push {cls:=.type "dict",data:=.dict #[]}).DictOf (aF prog w) s.heap.objs.size []:=Heap.DictOf.new s.heap;refine⟨hnew.typeIs,PySem.F.args_dict_init_2 _ _,?_⟩;unfold Builtin.«dict.__init__»;refine wpAny_bind ?_;unfold Builtin.Dict.selfAndRest;refine wpAny_bind (wpAny_notOrdered_dict hnew.typeIs ?_);show wpAny _ _ (pure (s.heap.objs.size,[Value.ref t])) _ _ _;refine wpAny_pure ?_;show wpAny _ _ (Builtin.Dict.updateFrom "dict.__init__" s.heap.objs.size (.ref t) [] .none) _ _ _;unfold Builtin.Dict.updateFrom;obtain⟨o,ho,hc,n0,hd⟩:=ht;obtain⟨o',ho',hdn⟩:=hnd;rw[ho]at ho';cases ho';have ho1:=Heap.get?_push_of_some {cls:=.type "dict",data:=.dict #[]} ho;refine wpAny_bind (wpAny_typeOf (T:="tuple") ⟨o,ho1,hc⟩ ?_);rw[if_pos (by decide)];refine wpAny_bind (jN ho1 hc hd hdn hh λh' tk keep=>?_);rw[if_pos (show(none:Option Value).isNone=true from rfl)];refine wpAny_bind (wpAny_rule ?_);have ht1:h'.IsTuple t items:=⟨o,keep _ _ ho1,hc,n0,hd⟩;refine wpAny_bind (wpAny_pyIter_tuple ht1 ?_);have hD1:h'.DictOf (aF prog w) s.heap.objs.size []:=by
  obtain⟨o2,es,ep,e2,r2⟩:=hnew;exact⟨o2,es,ep,keep _ _ e2,r2⟩
 have old:∀{b:Addr} {o:Obj},s.heap.get? b=some o->h'.get? b=some o:=λ{b o} e=>keep _ _ (Heap.get?_push_of_some _ e)
 have lt0:∀{b:Addr} {o:Obj},s.heap.get? b=some o->b≠s.heap.objs.size:=λ{b o} e=>Nat.ne_of_lt (Heap.lt_size e)
 have lt1:∀{b:Addr} {o:Obj},h'.get? b=some o->b≠h'.objs.size:=λ{b o} e=>Nat.ne_of_lt (Heap.lt_size e)
 have hSI:s.heap.objs.size≠h'.objs.size:=by
  obtain⟨o2,es,ep,e2,r2⟩:=hD1;exact lt1 e2
 have W:=(Walks.tuple (prog:=prog) (w:=w) (A:=A.in1.in1) hh h'.objs.size t (lt1 (old ho)) items).toS;refine wpAny_pure ⟨plainId_quiet bO _,?_⟩;refine pi W s.heap.objs.size (by simp[hSI];exact λz=>lt0 ho z.symm) .none ps hn hz (h₁:=h'.push {cls:=.type "tuple_iterator",data:=.fields #[.ref t,.int 0 0]}) (λi v e=>?_) items.size 0 _ [] rfl (Nat.zero_le _) ⟨?_,?_⟩ ?_ (Nat.zero_le _) (λb o _ _ e=>e) λs' mv dd=>?_
 .obtain⟨b,key,k,u,rfl,h1,h2,o3,h3,h4⟩:=hP i v e
  exact⟨b,key,k,u,rfl,lt0 h3,by simp;exact lt1 (old h3),h1,h2,o3,Heap.get?_push_of_some _ (old h3),h4⟩
 .exact⟨_,Heap.get?_push_size _ rfl,rfl,rfl⟩
 .exact⟨o,Heap.get?_push_of_some _ (keep _ _ ho1),hc,n0,hd⟩
 .obtain⟨o2,es,ep,e2,r2⟩:=hD1
  exact⟨o2,es,ep,Heap.get?_push_of_some _ e2,r2⟩
 .refine⟨rfl,h s' (λb o e=>mv.heap b o (by simp;exact⟨lt0 e,lt1 (old e)⟩) (Heap.get?_push_of_some _ (old e))) mv.gens mv.drawn mv.os ?_⟩
  simpa using dd
theorem jn{t:Addr}{items:Array Value}{ps:List (ar×Value)}{Q:Value->Shared->Prop}(ht:PlainL s.heap t items)(hh:A.handled=none)(hn:ps.length=items.size)(hz:items.size<=100000)
  (hP:∀(i:Nat) (v:Value),items[i]? = some v->∃b key k u,v=.ref b/\ps[i]? = some (k,u)/\(aF prog w).is k key=true/\IsTup s.heap b #[key,u])
  (h:∀s':Shared,(∀b o,s.heap.get? b=some o->s'.heap.get? b=some o)->s'.gens=s.gens->s'.drawn=s.drawn->s'.os=s.os->s'.heap.DictOf (aF prog w) s.heap.objs.size (yZ [] ps)->Q (.ref s.heap.objs.size) s'):
  wpAny (model prog w) A (call (.type "dict") [.ref t]) Q E s:=by
 refine callType_codes (Q₁:=λobj s₁=>obj=.ref s.heap.objs.size/\s₁ = {s with heap:=s.heap.push {cls:=.type "dict",data:=.dict #[]}}) PySem.F.kt_called_dict (PySem.F.kt_typeCall_dict_1 _) PySem.F.entry_dict_init (kt_code_dict_new _ ⟨rfl,rfl⟩) ?_;rintro obj s₁ ⟨rfl,rfl⟩;have hnew:(s.heap.push {cls:=.type "dict",data:=.dict #[]}).DictOf (aF prog w) s.heap.objs.size []:=Heap.DictOf.new s.heap;refine⟨hnew.typeIs,PySem.F.args_dict_init_2 _ _,?_⟩;unfold Builtin.«dict.__init__»;refine wpAny_bind ?_;unfold Builtin.Dict.selfAndRest;refine wpAny_bind (wpAny_notOrdered_dict hnew.typeIs ?_);show wpAny _ _ (pure (s.heap.objs.size,[Value.ref t])) _ _ _;refine wpAny_pure ?_;show wpAny _ _ (Builtin.Dict.updateFrom "dict.__init__" s.heap.objs.size (.ref t) [] .none) _ _ _;unfold Builtin.Dict.updateFrom;obtain⟨o,n0,ho,hc,hdn,hd⟩:=ht;have ho1:=Heap.get?_push_of_some {cls:=.type "dict",data:=.dict #[]} ho;refine wpAny_bind (wpAny_typeOf (T:="list") ⟨o,ho1,hc⟩ ?_);rw[if_pos (by decide)];refine wpAny_bind (kJ ho1 hc hd hdn hh λh' tk keep=>?_);rw[if_pos (show(none:Option Value).isNone=true from rfl)];refine wpAny_bind (wpAny_rule ?_);have ht1:h'.IsList t items:=⟨o,keep _ _ ho1,hc,n0,hd⟩;refine wpAny_bind (wpAny_pyIter_list ht1 ?_);have hD1:h'.DictOf (aF prog w) s.heap.objs.size []:=by
  obtain⟨o2,es,ep,e2,r2⟩:=hnew;exact⟨o2,es,ep,keep _ _ e2,r2⟩
 have old:∀{b:Addr} {o:Obj},s.heap.get? b=some o->h'.get? b=some o:=λ{b o} e=>keep _ _ (Heap.get?_push_of_some _ e)
 have lt0:∀{b:Addr} {o:Obj},s.heap.get? b=some o->b≠s.heap.objs.size:=λ{b o} e=>Nat.ne_of_lt (Heap.lt_size e)
 have lt1:∀{b:Addr} {o:Obj},h'.get? b=some o->b≠h'.objs.size:=λ{b o} e=>Nat.ne_of_lt (Heap.lt_size e)
 have hSI:s.heap.objs.size≠h'.objs.size:=by
  obtain⟨o2,es,ep,e2,r2⟩:=hD1;exact lt1 e2
 have W:=(Walks.list (prog:=prog) (w:=w) (A:=A.in1.in1) hh h'.objs.size t (lt1 (old ho)) items).toS;refine wpAny_pure ⟨plainId_quiet bO _,?_⟩;refine pi W s.heap.objs.size (by simp[hSI];exact λz=>lt0 ho z.symm) .none ps hn hz (h₁:=h'.push {cls:=.type "list_iterator",data:=.fields #[.ref t,.int 0 0]}) (λi v e=>?_) items.size 0 _ [] rfl (Nat.zero_le _) ⟨?_,?_⟩ ?_ (Nat.zero_le _) (λb o _ _ e=>e) λs' mv dd=>?_
 .obtain⟨b,key,k,u,rfl,h1,h2,o3,h3,h4⟩:=hP i v e
  exact⟨b,key,k,u,rfl,lt0 h3,by simp;exact lt1 (old h3),h1,h2,o3,Heap.get?_push_of_some _ (old h3),h4⟩
 .exact⟨_,Heap.get?_push_size _ rfl,rfl,rfl⟩
 .exact⟨o,Heap.get?_push_of_some _ (keep _ _ ho1),hc,n0,hd⟩
 .obtain⟨o2,es,ep,e2,r2⟩:=hD1
  exact⟨o2,es,ep,Heap.get?_push_of_some _ e2,r2⟩
 .refine⟨rfl,h s' (λb o e=>mv.heap b o (by simp;exact⟨lt0 e,lt1 (old e)⟩) (Heap.get?_push_of_some _ (old e))) mv.gens mv.drawn mv.os ?_⟩
  simpa using dd
end
noncomputable def ud:D->Option (ar×D)
 |.tuple [k,v]=>(jb k).bind λk=>some (k,v)
 |_=>none
noncomputable def i8:List D->Option (List (ar×D))
 |[]=>some []
 |d::ds=>(ud d).bind λp=>(i8 ds).bind λps=>some (p::ps)
noncomputable def qA:D->Option (List (ar×D))
 |.tuple ds=>(i8 ds).bind λps=>if ds.length<=1000 then some (ps.foldl (λacc p=>il acc p.1 p.2) [])else none
 |.list ds=>(i8 ds).bind λps=>if ds.length<=1000 then some (ps.foldl (λacc p=>il acc p.1 p.2) [])else none
 |_=>none
noncomputable def rK(i:Nat)(f:Dv->Option D):Sf:=λδ=>(f δ).bind λd=>(qA d).bind λes=>some (.nx,δ.set i (.od es))
inductive PairsV (K:Fg) (H:Hp):List V->List (ar×V)->Prop
 |nil:PairsV K H [] []
 |cons {b:Addr} {k:ar} {v:V} {ts:List V} {ps:List (ar×V)}:SqT K H b [kV k,v]->PairsV K H ts ps->PairsV K H (.ref b::ts) ((k,v)::ps)
noncomputable def zc(ps:List (ar×V)):List (ar×V):=ps.foldl (λacc p=>eL acc p.1 p.2) []
theorem PairsV.vals{X:Cx}{pins:List (Addr×Obj)}{σ:St}{H:Hp}{s:Shared}(I:Inv X pins σ H s):∀{ts:List V} {ps:List (ar×V)} {us:List Value},PairsV X.K H ts ps->Vals ts us->∃qs:List (ar×Value),KV ps qs/\qs.length=us.length/\∀(i:Nat) (v:Value),us[i]? = some v->∃b key k u,v=.ref b/\qs[i]? = some (k,u)/\(aF X.prog X.w).is k key=true/\IsTup s.heap b #[key,u]
 |_,_,_,.nil,.nil=>⟨[],.nil,rfl,λi v e=>by simp at e⟩
 |_,_,_,.cons (b:=b) (k:=k) (v:=v) h r,.cons h1 r1=>by
  obtain⟨qs,g1,g2,g3⟩:=PairsV.vals I r r1;cases h1;obtain⟨its,rr,tp,_⟩:=I.tuple h;obtain⟨a1,a2,rfl,q1,q2⟩:=Ey rr;refine⟨(k,a2)::qs,.cons ⟨rfl,q2⟩ g1,by simp[g2],λi w e=>?_⟩
  cases i with
  |zero=>
   have e:Value.ref b=w:=by simpa using e
   subst e;exact⟨b,a1,k,a2,rfl,rfl,mO q1,tp⟩
  |succ i=>exact g3 i w (by simpa using e)
theorem Dc{ps:List (ar×V)}{qs:List (ar×Value)}(r:KV ps qs):∀{kvs:List (ar×V)} {vs:List (ar×Value)},KV kvs vs->KV (ps.foldl (λacc p=>eL acc p.1 p.2) kvs) (yZ vs qs):=by
 induction r with
 |nil=>intro kvs vs h;exact h
 |cons h r ih=>
  intro kvs vs g;obtain⟨h1,h2⟩:=h;refine ih ?_;dsimp only;rw[<-h1];exact g.put _ h2
theorem um:∀(ps:List (ar×V)) (kvs:List (ar×V)),(ps.foldl (λacc p=>eL acc p.1 p.2) kvs).length<=kvs.length+ps.length
 |[],kvs=>Nat.le_refl _
 |p::ps,kvs=>by
  have:=um ps (eL kvs p.1 p.2);have:=fN kvs p.1 p.2;show(ps.foldl _ (eL kvs p.1 p.2)).length<=_;rw[List.length_cons]
  lia
theorem PairsV.length{K:Fg}{H:Hp}{ts:List V}{ps:List (ar×V)}(h:PairsV K H ts ps):ps.length=ts.length:=by
 induction h with
 |nil=>rfl
 |cons _ _ ih=>simp[ih]
section
variable{X:Cx}
theorem sP(hc:X.calm=true):CallR X (.type "dict") (λxs H Q=>∃a ts ps,xs=[V.ref a]/\(SqT X.K H a ts\/SqL X.K H a ts)/\PairsV X.K H ts ps/\ts.length<=1000/\∀l,H l=none->Q (.ref l) (upd H l (.dK (zc ps)))):=by
 intro pins s σ H xs us Q I r h;obtain⟨a,ts,ps,rfl,ha,hp,hl,q⟩:=h;obtain⟨u,rfl,ru⟩:=jv r;cases ru;have fin:∀{its:List Value} (r1:Vals ts its) {qs:List (ar×Value)} (g1:KV ps qs) (s':Shared) (kp:∀b o,s.heap.get? b=some o->s'.heap.get? b=some o) (hg:s'.gens=s.gens) (hdr:s'.drawn=s.drawn) (hos:s'.os=s.os) (dd:s'.heap.DictOf (aF X.prog X.w) s.heap.objs.size (yZ [] qs)),∃v H',Inv X pins σ H' s'/\RelV v (.ref s.heap.objs.size)/\Q v H':=by
  intro its r1 qs g1 s' kp hg hdr hos dd;have hf:H s.heap.objs.size=none:=I.hok.fresh (Nat.le_refl _);refine⟨.ref s.heap.objs.size,upd H s.heap.objs.size (.dK (zc ps)),?_,rfl,q _ hf⟩;have big:=I.big;have L:=I.laid (h':=s'.heap) (a:=s.heap.objs.size) (o:=.dK (zc ps)) (t':=s'.toks) kp (Nat.le_refl _) (yN (by
    have:=um ps [];have:=hp.length;show(zc ps).length<=sizeLine;rw[sizeLine_eq];unfold zc;simp only[List.length_nil]at *
    lia) (by rw[beq_eq_false_iff_ne];exact λz=>Nat.lt_irrefl _ (z ▸ big)) (Dc g1 .nil) dd)
  obtain⟨hp',g',d',t',o'⟩:=s';obtain⟨hp0,g0,d0,t0,o0⟩:=s;simp only at hg hdr hos;subst hg hdr hos;exact L
 rcases ha with ha|ha
 .obtain⟨its,r1,tp,_⟩:=I.tuple ha
  obtain⟨qs,g1,g2,g3⟩:=hp.vals I r1;have hlen:=r1.length;have e1:its.toArray.size=its.length:=by simp
  exact jS tp (I.noDi ha) (I.ok.hd hc) (ps:=qs) (by rw[e1];exact g2) (by rw[e1];lia) (λi v e=>g3 i v (by simpa using e)) (fin r1 g1)
 .obtain⟨its,r1,tp,_⟩:=I.list ha
  obtain⟨qs,g1,g2,g3⟩:=hp.vals I r1;have hlen:=r1.length;have e1:its.toArray.size=its.length:=by simp
  exact jn tp (I.ok.hd hc) (ps:=qs) (by rw[e1];exact g2) (by rw[e1];lia) (λi v e=>g3 i v (by simpa using e)) (fin r1 g1)
theorem zV{K:Fg}{Z H:Hp}(zh:Same Z H){v:V}{d:D}{p:ar×D}(r:Rep K Z v d)(h:ud d=some p):∃b w,v=.ref b/\SqT K H b [kV p.1,w]/\Rep K Z w p.2:=by
 unfold ud at h;split at h
 rotate_left
 .cases h
 rename_i dk dv;obtain⟨k,e1,h⟩:=bind_some h;cases h;cases r with
 |tup sq rs=>
  cases rs with
  |cons r1 rs=>
   cases rs with
   |cons r2 rs=>
    cases rs;have:=fO r1 e1;subst this;exact⟨_,_,rfl,SqT.same sq zh,r2⟩
theorem ko{K:Fg}{Z H:Hp}(zh:Same Z H):∀{vs:List V} {ds:List D} {ps:List (ar×D)},Reps K Z vs ds->i8 ds=some ps->∃qs:List (ar×V),PairsV K H vs qs/\qs.map (·.1)=ps.map (·.1)/\Reps K Z (qs.map (·.2)) (ps.map (·.2))
 |_,_,_,.nil,h=>by cases h;exact⟨[],.nil,rfl,.nil⟩
 |_,_,_,.cons r rs,h=>by
  obtain⟨p,e1,h⟩:=bind_some h;obtain⟨ps,e2,h⟩:=bind_some h;cases h;obtain⟨b,w,rfl,g1,g2⟩:=zV zh r e1;obtain⟨qs,g3,g4,g5⟩:=ko zh rs e2;exact⟨(p.1,w)::qs,.cons g1 g3,by simp[g4],.cons g2 g5⟩
theorem kn{K:Fg}{Z:Hp}:∀{qs:List (ar×V)} {ps:List (ar×D)},qs.map (·.1)=ps.map (·.1)->Reps K Z (qs.map (·.2)) (ps.map (·.2))->∀{kvs:List (ar×V)} {es:List (ar×D)},gj K Z kvs es->gj K Z (qs.foldl (λacc p=>eL acc p.1 p.2) kvs) (ps.foldl (λacc p=>il acc p.1 p.2) es)
 |[],[],_,_,kvs,es,h=>h
 |[],_::_,e,_,_,_,_=>by simp at e
 |_::_,[],e,_,_,_,_=>by simp at e
 |q::qs,p::ps,e,r,kvs,es,h=>by
  simp only[List.map_cons,List.cons.injEq]at e;cases r with
  |cons r1 r2=>
   refine kn e.2 r2 ?_;dsimp only;rw[e.1];exact km h p.1 r1
theorem zI(i:Nat){x:Str}{e:Expr}{f:Dv->Option D}{p pos pos' cpos:Pos}(hN:X.N.Nodup)(hg:Gl X "dict")(hm:X.mg "dict" = none)(he':EV X e f)(hc:X.calm=true:=by rfl)(hi:X.N[i]? = some x:=by rfl)(hx:qY X.env.scope x:=by first|exact Or.inl rfl|exact Or.inr rfl)
  (he:starEach [e] X.env=(false,eval e X.env)::starEach [] X.env:=by rfl) (hpl:(backTo cpos (starEach [] X.env)).any (·.1)=false:=by rfl)
  (hs:swapsWith (.Call (.Name "dict" p) [e] [] cpos) (some (.Name x pos')) pos.line X.env=pure false:=by rfl)
  (hf:X.fn x=true\/X.env.scope.names.lookup x=some .local:=by first|exact .inl rfl|exact .inr rfl|assumption):SV X (.Assign [.Name x pos'] (.Call (.Name "dict" p) [e] [] cpos) pos) (rK i f):=
 PS.imp (gE hN hi hx (i7 (sP hc) hg hm (by decide+kernel) (cV he' fG he) (by decide) (by decide) he hpl) hs hf) λD σ H h=>by
  obtain⟨H₀,Z₀,Z,δ,r,hh,e,k⟩:=h;obtain⟨d,e1,e⟩:=bind_some e;obtain⟨es,e2,e⟩:=bind_some e;cases e;refine⟨H₀,Z₀,Z,δ,d,hh,e1,λv Z1 H1 hh1 t1 r1=>?_⟩
  unfold qA at e2;split at e2
  .rename_i ds
   obtain⟨ps,e3,e2⟩:=bind_some e2;obtain⟨hl,e2⟩:=bT e2;cases e2;cases r1 with
   |tup sq rs=>
    obtain⟨qs,g1,g2,g3⟩:=ko hh1.zh rs e3;refine⟨_,_,qs,rfl,.inl (SqT.same sq hh1.zh),g1,by rw[rs.length];exact hl,λl hl'=>?_⟩
    exact k _ _ Z1 (hh1.setW hl' (.dct (kn g2 g3 ⟨rfl,.nil⟩))) t1
  .rename_i ds
   obtain⟨ps,e3,e2⟩:=bind_some e2;obtain⟨hl,e2⟩:=bT e2;cases e2;cases r1 with
   |lst sq rs=>
    obtain⟨qs,g1,g2,g3⟩:=ko hh1.zh rs e3;refine⟨_,_,qs,rfl,.inr (SqL.same sq hh1.zh),g1,by rw[rs.length];exact hl,λl hl'=>?_⟩
    exact k _ _ Z1 (hh1.setW hl' (.dct (kn g2 g3 ⟨rfl,.nil⟩))) t1
  .cases e2
end
noncomputable def fM(a:Addr)(H:Hp):Hp:=λb=>if b=a then none else H b
theorem iD{a:Addr}{H:Hp}:fM a H a=none:=if_pos rfl
theorem dS{a b:Addr}{H:Hp}(h:b≠a):fM a H b=H b:=if_neg h
theorem qk{a:Addr}{H:Hp}:Same (fM a H) H:=λb o e=>by
 unfold fM at e;split at e
 .cases e
 .exact e
theorem ya{a:Addr}{H:Hp}{o:HO}(e:H a=some o):upd (fM a H) a o=H:=funext λb=>by
 by_cases hb:b=a
 .subst hb;rw[aC,e]
 .rw[az hb,dS hb]
theorem mM{a:Addr}{Z H:Hp}(z:Same Z H)(h:Z a=none):Same Z (fM a H):=λb o e=>by rw[dS (aL e h)];exact z b o e
section
variable{K:Fg}{H₀ Z₀ Z H:Hp}{δ:Dv}{σ:St}
theorem Hold.mod(h:Hold K H₀ Z₀ Z δ σ H){i:Nat}{a:Addr}{es es':List (ar×D)}{kvs':List (ar×V)}{Z' H':Hp}(q:δ[i]? = some (.od es))(h1:σ[i]? = some (some (.ref a)))(h2:H₀ a=none)(n:New Z (fM a H) Z' (fM a H'))(g4:H' a=some (.dK kvs'))(g5:gj K Z' kvs' es'):
  Hold K H₀ Z₀ Z' (δ.set i (.od es')) σ H':=by
 have hl:i < δ.length:=(List.getElem?_eq_some_iff.mp q).1;have up:∀{b:Addr} {o:HO},b≠a->H b=some o->H' b=some o:=λ{b o} hb e=>by
  have:=n.h b o (by rw[dS hb];exact e)
  rwa [dS hb]at this
 have za:Z' a=none:=by
  cases e:Z' a with
  |none=>rfl
  |some o=>have:=n.zh a o e;rw[iD]at this;cases this
 refine⟨n.zh.trans qk,λb o e=>up (aL e h2) (h.h0 b o e),h.z0.trans n.z,λb hb=>?_,by simp[h.len],λj d e=>?_,λj d e=>?_,λj k d1 d2 c hjk q1 q2=>?_,(h.fr.same n.z).put (λ_ z=>nomatch z) λ_ _=>rfl,h.nf.trans n.nf⟩
 .have hba:b≠a:=λz=>hb (by rw[z];exact h2)
  have:fM a H b≠none:=by
   rw[dS hba];cases e:H₀ b with
   |none=>exact absurd e hb
   |some o=>rw[h.h0 b o e];intro z;cases z
  rw[n.o b this,h.zb b hb]
 .by_cases hj:i=j
  .subst hj
   rw[List.getElem?_set_self hl]at e;cases e
  .rw[List.getElem?_set_ne hj]at e
   obtain⟨v,g1,g2⟩:=h.fz j d e;exact⟨v,g1,g2.same n.z⟩
 .by_cases hj:i=j
  .subst hj
   rw[List.getElem?_set_self hl]at e;cases e;exact⟨a,_,h1,h2,za,g4,.dct g5⟩
  .rw[List.getElem?_set_ne hj]at e
   obtain⟨c,o,f1,f2,f3,f4,f5⟩:=h.own j d e;have hc:c≠a:=λz=>by subst z;exact h.dja i j _ d c hj q e h1 f1
   exact⟨c,o,f1,f2,by rw[n.o c (by rw[dS hc,f4];intro z;cases z)];exact f3,up hc f4,f5.same n.z⟩
 .have f:∀{m:Nat} {dm:Oc},(δ.set i (.od es'))[m]? = some (.own dm)->∃dm',δ[m]? = some (.own dm'):=λ{m dm} z=>by
   by_cases hm:i=m
   .subst hm;exact⟨_,q⟩
   .rw[List.getElem?_set_ne hm]at z;exact⟨dm,z⟩
  obtain⟨e1,f1⟩:=f q1;obtain⟨e2,f2⟩:=f q2;exact h.dja j k e1 e2 c hjk f1 f2
end
noncomputable def t7:Sl->Sl
 |.own _=>.un
 |.fr _=>.un
 |s=>s
theorem CA{s:Sl}{d:D}(h:t7 s=.fz d):s=.fz d:=by cases s<;>first|exact h|cases h
theorem tZ{s:Sl}{c:Oc}(h:t7 s=.own c):False:=by cases s<;>cases h
theorem CB{s:Sl}{ds:List D}(h:t7 s=.fr ds):False:=by cases s<;>cases h
theorem Cz{δ:Dv}{j:Nat}{s:Sl}(h:(δ.map t7)[j]? = some s):∃t,δ[j]? = some t/\t7 t=s:=by
 rw[List.getElem?_map]at h;cases e:δ[j]? with
 |none=>rw[e]at h;cases h
 |some t=>rw[e]at h;exact⟨t,rfl,Option.some.inj h⟩
noncomputable def sI(i:Nat)(δ:Dv):Option Dv:=match δ[i]? with
 |some (.own (.l ds))=>some ((δ.map t7).set i (.fz (.list ds)))
 |_=>none
noncomputable def sr:List D->Option (List Int)
 |[]=>some []
 |.int i::r=>(sr r).bind λl=>some (i::l)
 |_::_=>none
noncomputable def bZ(ns:List Int)(x:Int):List Int:=if x∈ns then ns else ns++[x]
noncomputable def fE(l:List Int):List Int:=l.foldl bZ []
noncomputable def fC(d:D):Option D:=(aY d).bind λds=>(sr ds).bind λl=>if l.length<64 then some (.list ((aR (fE l)).map .int))else none
def UpA(xs:Array Nat):Prop:=∀i j (hi:i<xs.size) (hj:j<xs.size),i<j->xs[i]<xs[j]
theorem lF{xs:Array Nat}{j:Nat}(hu:UpA xs):∀(f lo hi:Nat),hi-lo<=f->lo<=hi->hi<=xs.size ->
  (∀i (h:i<xs.size),i<lo->xs[i]<j)->(∀i (h:i<xs.size),hi<=i->j<=xs[i])->
  SetTable.below.go xs j f lo hi<=xs.size/\(∀i (h:i<xs.size),i<SetTable.below.go xs j f lo hi->xs[i]<j)/\(∀i (h:i<xs.size),SetTable.below.go xs j f lo hi<=i->j<=xs[i])
 | 0,lo,hi,h1,h2,h3,a,b=>by
  have:lo=hi:=by lia
  subst this;exact⟨h3,a,b⟩
 |f+1,lo,hi,h1,h2,h3,a,b=>by
  unfold SetTable.below.go;by_cases h:lo<hi
  .rw[if_pos h]
   have hm:(lo+hi)/2<xs.size:=by lia
   have e:xs.getD ((lo+hi)/2) j=xs[(lo+hi)/2]:=by simp[Array.getD,hm]
   dsimp only;rw[e];by_cases h':xs[(lo+hi)/2]<j
   .rw[if_pos h']
    refine lF hu f _ hi (by lia) (by lia) h3 (λi hi' hl=>?_) b;by_cases e2:i=(lo+hi)/2
    .subst e2;exact h'
    .exact Nat.lt_trans (hu i _ hi' hm (by lia)) h'
   .rw[if_neg h']
    refine lF hu f lo _ (by lia) (by lia) (by lia) a λi hi' hl=>?_
    by_cases e2:i=(lo+hi)/2
    .subst e2;lia
    .have:=hu _ i hm hi' (by lia);lia
  .rw[if_neg h]
   have:lo=hi:=by lia
   subst this;exact⟨h3,a,b⟩
theorem lD{xs:Array Nat}(hu:UpA xs)(j:Nat):SetTable.below xs j<=xs.size/\(∀i (h:i<xs.size),i<SetTable.below xs j->xs[i]<j)/\(∀i (h:i<xs.size),SetTable.below xs j<=i->j<=xs[i]):=
 lF hu xs.size 0 xs.size (by lia) (by lia) (Nat.le_refl _) (λi _ h=>absurd h (by lia)) (λi h h'=>absurd h (by lia))
theorem ot{xs:Array Nat}{p x:Nat}(hp:p<=xs.size)(i:Nat):(SetTable.insertAt xs p x)[i]? = if i<p then xs[i]? else if i=p then some x else xs[i-1]?:=by
 rw[<-Array.getElem?_toList,SetTable.toList_insertAt];have hl:(xs.toList.take p).length=p:=by rw[List.length_take,Array.length_toList];lia
 by_cases h1:i<p
 .rw[if_pos h1,List.getElem?_append_left (by lia),List.getElem?_take_of_lt h1,Array.getElem?_toList]
 .rw[if_neg h1,List.getElem?_append_right (by lia),hl]
  by_cases h2:i=p
  .subst h2
   rw[if_pos rfl,Nat.sub_self,List.getElem?_cons_zero]
  .rw[if_neg h2]
   obtain⟨k,rfl⟩:∃k,i=p+k+1:=⟨i-p-1,by lia⟩;rw[show p+k+1-p=k+1 by lia,List.getElem?_cons_succ,List.getElem?_drop,Array.getElem?_toList];rfl
theorem UpA.iff{xs:Array Nat}:UpA xs↔∀i j a b:Nat,i<j->xs[i]? = some a->xs[j]? = some b->a<b:=by
 constructor
 .intro h i j a b hij ha hb
  obtain⟨h1,rfl⟩:=Array.getElem?_eq_some_iff.mp ha;obtain⟨h2,rfl⟩:=Array.getElem?_eq_some_iff.mp hb;exact h i j h1 h2 hij
 .intro h i j hi hj hij
  exact h i j _ _ hij (Array.getElem?_eq_getElem hi) (Array.getElem?_eq_getElem hj)
theorem UpA.insert{xs:Array Nat}{j:Nat}(hu:UpA xs)(hn:xs[SetTable.below xs j]?≠some j):UpA (SetTable.insertAt xs (SetTable.below xs j) j):=by
 obtain⟨h1,h2,h3⟩:=lD hu j;have lo:∀i a,i<SetTable.below xs j->xs[i]? = some a->a<j:=λi a hi e=>by
  obtain⟨q,rfl⟩:=Array.getElem?_eq_some_iff.mp e;exact h2 i q hi
 have hi:∀i a,SetTable.below xs j<=i->xs[i]? = some a->j<a:=λi a hi e=>by
  obtain⟨q,rfl⟩:=Array.getElem?_eq_some_iff.mp e;have hb:SetTable.below xs j<xs.size:=by lia
  have e1:j<=xs[SetTable.below xs j]:=h3 _ hb (Nat.le_refl _);have e2:xs[SetTable.below xs j]≠j:=λz=>hn (by rw[Array.getElem?_eq_getElem hb,z])
  by_cases e3:i=SetTable.below xs j
  .subst e3;lia
  .have:=hu _ i hb q (by lia);lia
 rw[UpA.iff]at hu ⊢;intro i k a b hik ha hb;rw[ot h1]at ha hb;split at ha<;>split at hb
 .exact hu i k a b hik ha hb
 .split at hb
  .cases hb;exact lo i a ‹_› ha
  .exact Nat.lt_trans (lo i a ‹_› ha) (hi _ b (by lia) hb)
 .lia
 .split at ha<;>split at hb
  .lia
  .cases ha;exact hi _ b (by lia) hb
  .lia
  .exact hu (i-1) (k-1) a b (by lia) ha hb
theorem mz{t:SetTable}{j:Nat}(h:t.slot j=.empty\/t.slot j=.dummy):t.place[SetTable.below t.place j]?≠some j:=by
 intro e;unfold SetTable.slot at h;simp[e]at h
theorem kq{t:SetTable}{f:Nat->Int}{h:Int}:∀(n:Nat) (p:SetTable.Probe) (j:Nat) (d:Option Nat),(∀x,p.dummy=some x->t.slot x=.dummy)->SetTable.probe.go t f h n p=some (.empty j d)->t.slot j=.empty/\∀x,d=some x->t.slot x=.dummy
 | 0,p,j,d,hp,e=>by cases e
 |n+1,p,j,d,hp,e=>by
  unfold SetTable.probe.go at e;have adv:∀q:SetTable.Probe,(t.advance q).dummy=q.dummy:=λq=>by unfold SetTable.advance;split<;>rfl
  split at e
  .rename_i hs;cases e;exact⟨hs,hp⟩
  .rename_i hs
   refine kq n _ j d (λx hx=>?_) e;rw[adv]at hx;cases hx;exact hs
  .split at e
   .cases e
   .exact kq n _ j d (λx hx=>hp x (by rwa [adv]at hx)) e
theorem lT{t:SetTable}{h:Int}{j:Nat}{b:Bool}(e:t.freeSlot h=some (j,b)):t.place[SetTable.below t.place j]?≠some j:=by
 unfold SetTable.freeSlot at e;split at e
 .rename_i j' d hq
  cases e;have:=kq _ _ _ _ (λx hx=>by cases hx) hq;cases d with
  |none=>exact mz (.inl this.1)
  |some x=>exact mz (.inr (this.2 x rfl))
 .cases e
structure WkT (led:Bool) (t:SetTable):Prop where
 led:t.led=led
 up:t.plain=true->UpA t.place
theorem WkT.fresh(led:Bool):WkT led (.fresh 0 0 led):=⟨rfl,λ_ i j hi=>absurd hi (by simp[SetTable.fresh])⟩
theorem WkT.standIn{led:Bool}{t:SetTable}(h:WkT led t)(n:Nat):WkT led (t.standIn n):=⟨h.led,λe=>by cases e⟩
theorem WkT.orStandIn{led:Bool}{t:SetTable}(h:WkT led t)(n:Nat):WkT led (t.orStandIn n):=by
 unfold SetTable.orStandIn;split
 .exact h
 .exact h.standIn n
theorem WkT.put{led:Bool}{t:SetTable}(h:WkT led t){x:Int}{j:Nat}{b:Bool}(e:t.freeSlot x=some (j,b)):WkT led (t.put j).1:=⟨h.led,λq=>(h.up q).insert (lT e)⟩
theorem WkT.layNew{led:Bool}{t:SetTable}(h:WkT led t)(es:Array (Int×Value))(x:Int)(v:Value):WkT led (layNew t es x v).2.1:=by
 unfold PySem.layNew;split
 .rename_i e;exact(h.put e).orStandIn _
 .exact h.standIn _
theorem eK(f:Nat->Option Nat):∀(l:List Nat),l.Pairwise (· < ·)->((l.filterMap λj=>(f j).map (j,·)).map (·.1)).Pairwise (· < ·)
 |[],_=>.nil
 |a::l,h=>by
  obtain⟨h1,h2⟩:=List.pairwise_cons.mp h;rw[List.filterMap_cons];cases f a with
  |none=>exact eK f l h2
  |some b=>
   refine List.pairwise_cons.mpr ⟨λz hz=>?_,eK f l h2⟩
   obtain⟨q,hq,rfl⟩:=List.mem_map.mp hz;obtain⟨c,hc,e⟩:=List.mem_filterMap.mp hq;obtain⟨d,_,rfl⟩:=Option.map_eq_some_iff.mp e;exact h1 _ hc
theorem WkT.relay{led:Bool}{t:SetTable}(h:WkT led t)(es:Array (Int×Value))(n:Nat):WkT led (relayAll t es n).2.1:=by
 unfold relayAll;split
 .rename_i t' order e
  dsimp only;split
  .unfold SetTable.relaid SetTable.laid at e
   obtain⟨o,_,e⟩:=Option.bind_eq_some_iff.mp e;cases e;refine⟨h.led,λ_ i j hi hj hij=>?_⟩
   have:=eK (λj=>o.getD j none) (List.range (SetTable.sizeAbove n-1+1)) List.pairwise_lt_range;have:=List.pairwise_iff_getElem.mp this i j (by simpa using hi) (by simpa using hj) hij;simpa using this
  .exact h.standIn _
 .exact h.standIn _
theorem lE{xs:Array Nat}(hu:UpA xs){i:Nat}(hi:i<xs.size):SetTable.below xs (xs[i]+1)=i+1:=by
 obtain⟨h1,h2,h3⟩:=lD hu (xs[i]+1);have a:i<SetTable.below xs (xs[i]+1):=by
  refine Nat.lt_of_not_le λh=>?_
  have:=h3 i hi h;lia
 have b:¬(i+1<SetTable.below xs (xs[i]+1)):=λh=>by
  have q:=h2 (i+1) (by lia) h;have:=hu i (i+1) hi (by lia) (by lia);lia
 lia
theorem lC{xs:Array Nat}(hu:UpA xs):SetTable.below xs 0=0:=by
 obtain⟨h1,h2,h3⟩:=lD hu 0;refine Nat.eq_zero_of_not_pos λh=>?_
 have:=h2 0 (by lia) h;lia
noncomputable def j7:Value->Int
 |.int k _=>k
 |_=>0
def wx(e:Int×Value):Prop:=∃k t,e=(hashInt k,Value.int k t)
def SetJ(w:World)(h:Heap)(a:Addr)(ns:List Int):Prop:=∃es ep t,h.get? a=some {cls:=.type "set",dict:=none,data:=.set es ep t,slots:=#[]}/\(∀e∈es.toList,wx e)/\(es.toList.map λe=>j7 e.2).Perm ns/\ns.length<scanBound/\t.fits es.size=true/\WkT (!w.params.followText "set-order") t
theorem SetJ.at{w:World}{h h':Heap}{a:Addr}{ns:List Int}(x:SetJ w h a ns)(e:∀o,h.get? a=some o->h'.get? a=some o):SetJ w h' a ns:=
 let ⟨es,ep,t,ho,r⟩:=x
 ⟨es,ep,t,e _ ho,r⟩
theorem rJ(ns:List Int)(x:Int):(bZ ns x).length<=ns.length+1:=by
 unfold bZ;split
 .lia
 .simp
section
variable{prog:Program}{w:World}{A:Around}{E:Value->Shared->Prop}{s:Shared}
theorem kP{es:Array (Int×Value)}(h:∀e∈es.toList,wx e):ElemsOf (intKind prog w) es.toList:=λe he=>by
 obtain⟨k,t,rfl⟩:=h e he;exact⟨⟨k,intKind_is prog w k t,rfl⟩,rfl⟩
theorem v7{l:List (Int×Value)}(h:∀e∈l,wx e)(k:Int):(l.findIdx? λe=>(intKind prog w).is k e.2)=none↔k∉l.map λe=>j7 e.2:=by
 rw[List.findIdx?_eq_none_iff];constructor
 .intro q z
  obtain⟨e,he,rfl⟩:=List.mem_map.mp z;obtain⟨k',t,rfl⟩:=h e he;have:=q _ he;rw[show(j7 (hashInt k',Value.int k' t).2)=k' from rfl,show((hashInt k',Value.int k' t):Int×Value).2=Value.int k' t from rfl,intKind_is]at this;cases this
 .intro q e he
  obtain⟨k',t,rfl⟩:=h e he;have hne:k≠k':=λz=>q (List.mem_map.mpr ⟨_,he,z.symm⟩)
  cases hx:(intKind prog w).is k ((hashInt k',Value.int k' t):Int×Value).2 with
  |false=>rfl
  |true=>exact absurd ((intKind prog w).inj _ _ _ hx (intKind_is prog w k' t)) hne
theorem pH{h:Heap}{a:Addr}{es es':Array (Int×Value)}{ep:Nat}{t t':SetTable}{ns:List Int}(ho:h.get? a=some {cls:=.type "set",dict:=none,data:=.set es ep t,slots:=#[]})(h1:∀e∈es'.toList,wx e)(h2:(es'.toList.map λe=>j7 e.2).Perm ns)(h3:ns.length<scanBound)(h4:t'.fits es'.size=true)(h5:WkT (!w.params.followText "set-order") t'):
  (h.update a (Obj.putSet es' t')).get? a=some {cls:=.type "set",dict:=none,data:=.set es' (ep+1) t',slots:=#[]}/\SetJ w (h.update a (Obj.putSet es' t')) a ns:=by
 have g:=Heap.get?_update_self (Obj.putSet es' t') ho (by rw[putSet_of es' t' rfl];rfl);rw[putSet_of es' t' rfl]at g;exact⟨g,es',ep+1,t',g,h1,h2,h3,h4,h5⟩
theorem pS{l l':List (Int×Value)}(p:List.Perm l' l):(l'.map λe=>j7 e.2).Perm (l.map λe=>j7 e.2):=p.map _
theorem zS{a:Addr}{x:Int}{tk:Tok}{ns:List Int}{Q:Bool->Shared->Prop}(hS:SetJ w s.heap a ns)(hroom:ns.length+1<scanBound)
  (h:∀h' b,Heap.SameBut a s.heap h'->SetJ w h' a (bZ ns x)->Q b {s with heap:=h'}):wpAny (model prog w) A (setAddHashed a (.int x tk) (hashInt x)) Q E s:=by
 obtain⟨es,ep,t,ho,hel,hp,hb,hf,hw⟩:=hS;have hsz:es.size=ns.length:=by
  have:=hp.length_eq;rw[List.length_map,Array.length_toList]at this;exact this
 have fl:=v7 (prog:=prog) (w:=w) hel x;unfold setAddHashed setAddHashedIn;refine wpAny_holding (wpAny_bind (wpAny_setState_of ho rfl hf ?_));dsimp only;rw[byScan_of (knd:=intKind prog w) (x:=Value.int x tk) rfl (by lia) (kP hel)];simp only[↓reduceIte];unfold setAddByScan;refine wpAny_bind (wpAny_bind (wpAny_rule (wpAny_bind (wpAny_setScan_of (knd:=intKind prog w) (k:=x) (intKind_is prog w x tk) ho rfl hf (kP hel) ?_))));cases hr:es.toList.findIdx? λe=>(intKind prog w).is x e.2 with
 |some j=>
  have hin:x∈ns:=by
   refine hp.mem_iff.mp (Classical.byContradiction λz=>?_);rw[fl.mpr z]at hr;cases hr
  have e:bZ ns x=ns:=if_pos hin;rw[e]at h;dsimp only;exact wpAny_pure (wpAny_pure (h s.heap _ (Heap.SameBut.refl a s.heap) ⟨es,ep,t,ho,hel,hp,hb,hf,hw⟩))
 |none=>
  have hin:x∉ns:=λz=>fl.mp hr (hp.mem_iff.mpr z)
  have e:bZ ns x=ns++[x]:=if_neg hin;rw[e]at h;dsimp only;have gw:∀(b:Bool) {s1:Shared} {Q':Unit->Shared->Prop},Q' () s1->wpAny (model prog w) A (match b with
   |true=>rule "set.scan.the-table-gave-way"
   |false=>pure ()) Q' E s1:=λb s1 Q' hq=>by
   cases b
   .exact wpAny_pure hq
   .exact wpAny_rule hq
  have q1:=layNew_perm t es (hashInt x) (.int x tk);have q2:=layNew_fits t es (hashInt x) (.int x tk);have q3:=hw.layNew es (hashInt x) (.int x tk);generalize hL:PySem.layNew t es (hashInt x) (.int x tk)=L at q1 q2 q3;obtain⟨es1,t1,wd,gv⟩:=L;have hL':PySem.layNew t es ((intKind prog w).hash x) (.int x tk)=(es1,t1,wd,gv):=hL;dsimp only at q1 q2 q3;rw[Array.toList_push]at q1;have el1:∀e∈es1.toList,wx e:=λe he=>by
   rcases List.mem_append.mp (q1.mem_iff.mp he)with he|he
   .exact hel e he
   .rw[List.mem_singleton.mp he];exact⟨x,tk,rfl⟩
  have pm1:(es1.toList.map λe=>j7 e.2).Perm (ns++[x]):=(pS q1).trans (by
   rw[List.map_append];exact hp.append_right _)
  have ln1:(ns++[x]).length<scanBound:=by simpa using hroom
  have sz1:es1.size=(ns++[x]).length:=by
   have:=pm1.length_eq;rw[List.length_map,Array.length_toList]at this;exact this
  dsimp only;refine wpAny_bind (gw _ ?_);refine wpAny_ite_split (λ_=>?_) (λ_=>?_)<;>refine wpAny_bind (wpAny_of_eq (a:=true) rfl ?_)<;>simp only[↓reduceIte]
  all_goals
   obtain⟨g1,g2⟩:=pH (w:=w) ho el1 pm1 ln1 q2 q3;refine wpAny_bind (wpAny_storeSet_of ho rfl ?_ (fits_of_scanBound (by lia)));have sb:=Heap.SameBut.update s.heap a (Obj.putSet es1 t1);split
   .have r1:=relayAll_perm t1 es1 (SetTable.grown es1.size)
    have r2:=relayAll_fits t1 es1 (SetTable.grown es1.size);have r3:=q3.relay es1 (SetTable.grown es1.size);generalize relayAll t1 es1 (SetTable.grown es1.size)=Rl at r1 r2 r3;obtain⟨es2,t2,gv2⟩:=Rl;dsimp only at r1 r2 r3 ⊢;have el2:∀e∈es2.toList,wx e:=λe he=>el1 e (r1.mem_iff.mp he)
    have pm2:(es2.toList.map λe=>j7 e.2).Perm (ns++[x]):=(pS r1).trans pm1;have sz2:es2.size=(ns++[x]).length:=by
     have:=pm2.length_eq;rw[List.length_map,Array.length_toList]at this;exact this
    refine wpAny_bind (gw _ ?_);refine wpAny_bind (wpAny_storeSet_of g1 rfl ?_ (fits_of_scanBound (by lia)));exact wpAny_pure (wpAny_pure (h _ _ (sb.trans (Heap.SameBut.update _ a _)) (pH (w:=w) g1 el2 pm2 ln1 r2 r3).2))
   .exact wpAny_pure (wpAny_pure (h _ _ sb g2))
end
theorem ki:∀(l ns:List Int),(l.foldl bZ ns).length<=ns.length+l.length
 |[],ns=>by simp
 |x::l,ns=>by
  have h1:=ki l (bZ ns x);have h2:=rJ ns x;show(l.foldl bZ (bZ ns x)).length<=_;rw[List.length_cons]
  lia
theorem vw{ns:List Int}{i:Nat}{k:Int}(h:ns[i]? = some k):fE (ns.take (i+1))=bZ (fE (ns.take i)) k:=by
 unfold fE;rw[List.take_succ,h,List.foldl_append];rfl
abbrev aS(led:Bool):Obj:={cls:=.type "set",dict:=none,data:=.set #[] 0 (.fresh 0 0 led)}
theorem setJ_fresh{w:World}{h:Heap}:SetJ w (h.push (aS (!w.params.followText "set-order"))) h.objs.size []:=
 ⟨#[],0,_,Heap.get?_push_size _ rfl,λe he=>by simp at he,.refl _,by decide,rfl,WkT.fresh _⟩
section
variable{prog:Program}{w:World}{A:Around}{R:Result->Shared->Prop}{I:Addr}{fp wr:List Addr}{G:Array GenState->Array GenState->Prop}{n:Nat}{P:Nat->Value->Prop}{St:Nat->Shared->Prop}
theorem pG(W:WalksS prog w A.in1 I fp wr G n P St)(S:Addr)(hSf:S∉fp)(ns:List Int)(hn:ns.length=n)(hP:∀i v,P i v->∃k t,ns[i]? = some k/\v=.int k t)(hz:n+1<scanBound):
  ∀(k i:Nat) (s:Shared),n-i=k->i<=n->St i s->SetJ w s.heap S (fE (ns.take i))->(∀s',Moved (S::wr) G s s'->SetJ w s'.heap S (fE ns)->R (.ok (.ret .none)) s')->
   codeAny (model prog w) A (.builtin "set.update.loop" ⟨[.ref S,.ref I],[]⟩) R s:=by
 have nw:S∉wr:=λh=>hSf (W.sub _ h)
 have up:∀b∈wr,b∈S::wr:=λb hb=>List.mem_cons_of_mem _ hb
 intro k
 induction k with
 |zero=>
  intro i s hk hi hst hS hR;have e:i=n:=by lia
  subst e;refine codeAny_builtin F.entry_set_update_loop ?_;rw[Around.under_plainId F.plain_set_update_loop _];refine wpAny_bind (m:=pyNext (.ref I)) (W.done s _ _ hst λs' hm=>?_);rw[<-hn,List.take_length]at hS;exact wpAny_pure (hR s' (hm.mono up) (hS.at λo e=>hm.heap S o nw e))
 |succ k ih=>
  intro i s hk hi hst hS hR;have hlt:i<n:=by lia
  refine codeAny_builtin F.entry_set_update_loop ?_;rw[Around.under_plainId F.plain_set_update_loop _];refine wpAny_bind (m:=pyNext (.ref I)) (W.item i s _ _ hlt hst λv s' hPv hst' hm=>?_);obtain⟨x,t,hx,rfl⟩:=hP i v hPv;have hS':=hS.at λo e=>hm.heap S o nw e
  refine wpAny_bind (m:=holding [Value.int x t] (setAdd S (.int x t))) (wpAny_holding ?_);unfold setAdd;refine wpAny_holding (wpAny_bind ((intKind prog w).pyHash (k:=x) (intKind_is prog w x t) ?_));have ln:(fE (ns.take i)).length<=i:=by
   have:=ki (ns.take i) [];rw[List.length_take]at this;unfold fE;simp only[List.length_nil]at this
   lia
  refine zS (s:={s' with toks:=s'.toks+1}) hS' (by lia) λh' b hsb hS2=>?_
  rw[<-vw hx]at hS2;refine wpAny_pure ⟨plainId_quiet F.plain_set_update_loop _,ih (i+1) _ (by lia) hlt (W.frame _ s' _ _ hst' (Nat.le_succ _) λb hb o e=>?_) hS2 λs'' hm'' hS''=>?_⟩
  .rw[hsb.2 b (λz=>hSf (z ▸ hb))];exact e
  .refine hR s'' (Moved.trans W.gtrans ((hm.mono up).then_heap (Nat.le_succ _) λb o hb e=>?_) hm'') hS''
   rw[hsb.2 b (λz=>hb (z ▸ List.mem_cons_self))];exact e
end
section
variable{prog:Program}{w:World}{A:Around}{E:Value->Shared->Prop}{s:Shared}
theorem lw(a:Value){Q:Value->Shared->Prop}(h:Q (.ref s.heap.objs.size) {s with heap:=s.heap.push (aS (!w.params.followText "set-order"))}):
  codeAny (model prog w) A (.call (.builtin "set.__new__") ⟨[.type "set",a],[]⟩) (wants Q E) s:=by
 refine codeAny_of_tree ?_;refine wpAny_bind (m:=checkBuiltinCall "set.__new__" ⟨[.type "set",a],[]⟩) (wpAny_of_eq (F.newCall_set_1 a) (wpAny_pure ⟨plainId_quiet F.plain_set_new _,codeAny_builtin F.entry_set_new ?_⟩));rw[Around.under_plainId F.plain_set_new _];unfold Builtin.«set.__new__» Builtin.Frozenset.newClass;have f1:=sub_set_self;obtain⟨hp,g,d,tk,os⟩:=s;dsimp only
 wp_walk
 refine wpAny_askSetting (wpAny_pure ?_);dsimp only;simp only[newObj];exact wpAny_bind (wpAny_alloc (wpAny_pure (wpAny_pure h)))
theorem mf{v:Value}{Q:Value->Shared->Prop}
  (h:∀A':Around,A'.handled=A.handled->A'.units<=A.units+8->wpAny (model prog w) A' (Builtin.Frozenset.updateFrom "set.__init__" s.heap.objs.size v) (λ_ s2=>Q (.ref s.heap.objs.size) s2) E {s with heap:=s.heap.push (aS (!w.params.followText "set-order"))}):
  wpAny (model prog w) A (call (.type "set") [v]) Q E s:=by
 obtain⟨c,tl,hmro⟩:=F.called_set.mro;have hmade:=F.called_set.made;have hsub:=F.called_set.sub;refine wpAny_call (codeAny_of_tree ?_);show wpAny _ _ (callAny (.type "set") _) _ _ _;refine wpAny_pure ⟨Code.quiet_builtin _ (by decide+kernel),codeAny_builtin F.entry_type_call ?_⟩;rw[Around.under_plain (weight_type_call_type "set" [v] []) rfl];have h1:=F.called_set.notType;have h2:=F.called_set.canCreate;have hct:=F.typeCall_set_1 v
 repeat (any_goals (first|assumption|wp_step))
 refine codeAny_mono (lw v (E:=E) (Q:=λobj s1=>obj=.ref s.heap.objs.size/\s1={s with heap:=s.heap.push (aS (!w.params.followText "set-order"))}) ⟨rfl,rfl⟩) λr s1 hr=>?_
 cases r with
 |error e=>exact hr
 |ok fl=>
  cases fl with
  |ret obj=>
   obtain⟨rfl,rfl⟩:=hr;have hT:Shared.TypeIs {s with heap:=s.heap.push (aS (!w.params.followText "set-order"))} (.ref s.heap.objs.size) "set":=⟨_,Heap.get?_push_size _ rfl,rfl⟩;have hS:(s.heap.push (aS (!w.params.followText "set-order"))).get? s.heap.objs.size=some (aS (!w.params.followText "set-order")):=Heap.get?_push_size _ rfl;have hli:=F.called_set.init.lookup;have hbi:=F.called_set.init.bind (.ref s.heap.objs.size)
   repeat (any_goals (first|assumption|wp_step))
   refine codeAny_mono (codeAny_call_builtin (R:=wants (λr s2=>r=.none/\Q (.ref s.heap.objs.size) s2) E) F.called_set.init.plain F.entry_set_init (check_set_init_1 hT ?_)) λr2 s2 hr2=>?_
   .unfold Builtin.«set.__init__» noKeywords
    generalize hUF:Builtin.Frozenset.updateFrom=UF
    wp_walk
    subst hUF;refine wpAny_mono (h _ (by simp) (by simp)) (λ_ s2 q=>?_) λ_ _ e=>e
    exact wpAny_pure ⟨rfl,q⟩
   .cases r2 with
    |error e=>exact hr2
    |ok fl2=>
     cases fl2 with
     |ret r=>
      obtain⟨rfl,q⟩:=hr2
      repeat (any_goals (first|assumption|wp_step))
     |_=>exact hr2.elim
  |_=>exact hr.elim
theorem oO{v:Value}{Q:Value->Shared->Prop}
  (h:∀A':Around,A'.handled=A.handled->wpAny (model prog w) A' (Builtin.Frozenset.updateFrom "set.__init__" s.heap.objs.size v) (λ_ s2=>Q (.ref s.heap.objs.size) s2) E {s with heap:=s.heap.push (aS (!w.params.followText "set-order"))}):
  wpAny (model prog w) A (call (.type "set") [v]) Q E s:=mf λA' hA _=>h A' hA
end
theorem lO:isSubtype (.type "tuple") (.type "set")=pure false:=by rw[isSubtype_type];kernel_rfl
theorem gi:isSubtype (.type "tuple") (.type "frozenset")=pure false:=by rw[isSubtype_type];kernel_rfl
theorem sn{items:Array Value}{ns:List Int}(hi:IntsAre items.toList ns):ns.length=items.size/\∀(i:Nat) (v:Value),items[i]? = some v->∃k t,ns[i]? = some k/\v=Value.int k t:=by
 have hl:ns.length=items.size:=by
  have:=IntsAre.length hi;rw[Array.length_toList]at this
  lia
 refine⟨hl,λi v e=>?_⟩
 obtain⟨t,q⟩:=IntsAre.int_at hi i v (by rw[Array.getElem?_toList];exact e);have h:i<ns.length:=by
  have:=(Array.getElem?_eq_some_iff.mp e).1
  lia
 exact⟨ns[i],t,by simp[h],by rw[q,List.getD_eq_getElem?_getD];simp[h]⟩
section
variable{prog:Program}{w:World}{A:Around}{E:Value->Shared->Prop}{s:Shared}
theorem md{l:Addr}{items:Array Value}{ns:List Int}{Q:Value->Shared->Prop}(hh:A.handled=none)(hl:s.heap.IsList l items\/s.heap.IsTuple l items)(hi:IntsAre items.toList ns)(hb:items.size+1<scanBound)
  (h:∀(h':Heap) (tk:Nat),SetJ w h' s.heap.objs.size (fE ns)->(∀b o,s.heap.get? b=some o->h'.get? b=some o)->Q (.ref s.heap.objs.size) {s with heap:=h',toks:=tk}):wpAny (model prog w) A (call (.type "set") [.ref l]) Q E s:=by
 obtain⟨hn,hP⟩:=sn hi;refine oO λA' hA=>?_
 have hh':A'.handled=none:=hA.trans hh;have fin:∀(s':Shared) (I:Addr) (o:Obj),Moved [s.heap.objs.size,I] (λa b=>b=a) {s with heap:=(s.heap.push (aS (!w.params.followText "set-order"))).push o} s'->I=(s.heap.push (aS (!w.params.followText "set-order"))).objs.size->SetJ w s'.heap s.heap.objs.size (fE ns)->Q (.ref s.heap.objs.size) s':=λs' I o hm hI hS=>by
  obtain⟨h',g',d',tk',os'⟩:=s';have eg:g'=s.gens:=hm.gens;have ed:d'=s.drawn:=hm.drawn;have eo:os'=s.os:=hm.os;subst eg ed eo;refine h h' tk' hS λb o' e=>?_
  have lt:=Heap.lt_size e;refine hm.heap b o' ?_ (Heap.get?_push_of_some _ (Heap.get?_push_of_some _ e));rw[hI,Heap.size_push];simp only[List.mem_cons,List.not_mem_nil,or_false,not_or];exact⟨Nat.ne_of_lt lt,Nat.ne_of_lt (Nat.lt_succ_of_lt lt)⟩
 rcases hl with hl|hl
 .obtain⟨ol,hol,hcl,nl,hdl⟩:=hl
  obtain⟨ocls,odict,odata,oslots⟩:=ol;simp only at hcl hdl;subst hcl hdl;have lt:=Heap.lt_size hol;have hol':=Heap.get?_push_of_some (aS (!w.params.followText "set-order")) hol;have f1:=F.sub_list_set;have f2:=F.sub_list_frozenset;have f3:(Value.type "list" == Value.type "dict")=false:=by decide
  have hl1:(s.heap.push (aS (!w.params.followText "set-order"))).IsList l items:=⟨_,hol',rfl,nl,rfl⟩;unfold Builtin.Frozenset.updateFrom;generalize hPI:pyIter=PI
  wp_walk
  subst hPI;refine wpAny_pyIter_list hl1 ?_;refine wpAny_bind (wpAny_runValue ?_);have ne:l≠(s.heap.push (aS (!w.params.followText "set-order"))).objs.size:=by rw[Heap.size_push];exact Nat.ne_of_lt (Nat.lt_succ_of_lt lt)
  have nf:s.heap.objs.size∉[(s.heap.push (aS (!w.params.followText "set-order"))).objs.size,l]:=by
   rw[Heap.size_push];simp only[List.mem_cons,List.not_mem_nil,or_false,not_or];exact⟨Nat.ne_of_lt (Nat.lt_succ_self _),Nat.ne_of_gt lt⟩
  refine pG ((Walks.list (by simpa using hh') _ l ne items).toS) s.heap.objs.size nf ns hn hP hb items.size 0 _ (by lia) (Nat.zero_le _) ⟨⟨_,Heap.get?_push_size _ rfl,rfl,rfl⟩,hl1.push _⟩ (setJ_fresh.at λo e=>Heap.get?_push_of_some _ e) λs' hm hS=>?_
  exact wpAny_pure ((fin s' _ _ hm rfl hS))
 .obtain⟨ol,hol,hcl,nl,hdl⟩:=hl
  obtain⟨ocls,odict,odata,oslots⟩:=ol;simp only at hcl hdl;subst hcl hdl;have lt:=Heap.lt_size hol;have hol':=Heap.get?_push_of_some (aS (!w.params.followText "set-order")) hol;have f1:=lO;have f2:=gi;have f3:(Value.type "tuple" == Value.type "dict")=false:=by decide
  have hl1:(s.heap.push (aS (!w.params.followText "set-order"))).IsTuple l items:=⟨_,hol',rfl,nl,rfl⟩;unfold Builtin.Frozenset.updateFrom;generalize hPI:pyIter=PI
  wp_walk
  subst hPI;refine wpAny_pyIter_tuple hl1 ?_;refine wpAny_bind (wpAny_runValue ?_);have ne:l≠(s.heap.push (aS (!w.params.followText "set-order"))).objs.size:=by rw[Heap.size_push];exact Nat.ne_of_lt (Nat.lt_succ_of_lt lt)
  have nf:s.heap.objs.size∉[(s.heap.push (aS (!w.params.followText "set-order"))).objs.size,l]:=by
   rw[Heap.size_push];simp only[List.mem_cons,List.not_mem_nil,or_false,not_or];exact⟨Nat.ne_of_lt (Nat.lt_succ_self _),Nat.ne_of_gt lt⟩
  refine pG ((Walks.tuple (by simpa using hh') _ l ne items).toS) s.heap.objs.size nf ns hn hP hb items.size 0 _ (by lia) (Nat.zero_le _) ⟨⟨_,Heap.get?_push_size _ rfl,rfl,rfl⟩,hl1.push _⟩ (setJ_fresh.at λo e=>Heap.get?_push_of_some _ e) λs' hm hS=>?_
  exact wpAny_pure ((fin s' _ _ hm rfl hS))
end
theorem gO{α:Type}:∀(l:List α) (i:Nat) (x:α),l[i]? = some x->l.Perm (x::l.eraseIdx i)
 |a::l,0,x,h=>by
  have:a=x:=by simpa using h
  subst this;exact .refl _
 |a::l,i+1,x,h=>by
  have ih:=gO l i x (by simpa using h);rw[List.eraseIdx_cons_succ];exact(ih.cons a).trans (.swap x a _)
theorem t9{α:Type}(f:Nat->Nat):∀(n k:Nat) (l:List α) (out:Array α),l.length=n->(pickOrder.go f n k l out).toList.Perm (out.toList++l)
 | 0,k,l,out,h=>by
  have:l=[]:=List.length_eq_zero_iff.mp h;subst this;unfold pickOrder.go;simp
 |n+1,k,l,out,h=>by
  have hi:f k%l.length<l.length:=Nat.mod_lt _ (by lia);have hx:l[f k%l.length]? = some l[f k%l.length]:=by simp[hi]
  unfold pickOrder.go;rw[hx];have ih:=t9 f n (k+1) (l.eraseIdx (f k%l.length)) (out.push l[f k%l.length]) (by rw[List.length_eraseIdx,if_pos hi];lia);refine ih.trans ?_;rw[Array.toList_push,List.append_assoc];exact(gO l _ _ hx).symm.append_left _
theorem vG{α:Type}(f:Nat->Nat)(xs:Array α):(pickOrder f xs).toList.Perm xs.toList:=by
 have:=t9 f xs.size 0 xs.toList #[] (by simp);simpa[pickOrder]using this
theorem slot_si_next:Slot "set_iterator" "__next__" "set_iterator.__next__":=
 .of (owner:="set_iterator") (n:="__next__") (by rw[typeLookup_type,builtinLookup_eq_fast];kernel_rfl) (by decide+kernel) (by decide+kernel) (by decide+kernel)
  (by first|exact .inl (by decide+kernel)|exact .inr (by decide+kernel)) (by rw[isSubtype_type];kernel_rfl)
theorem lU:entryFor table "set_iterator.__next__" = some Builtin.«set_iterator.__next__»:=entryFor_of_tree (by kernel_rfl)
theorem pU:Manifest.owners.lookup (String.ofList ['r','o','t','a','r','e','t','i','_','t','e','s'].reverse)=some Manifest.sig_set_iterator:=by kernel_rfl
theorem oW(a:Value):argsOk "set_iterator.__next__" ⟨[a],[]⟩:=by
 unfold argsOk;rw[signature?_of (id:="set_iterator.__next__") (n:=['_','_','t','x','e','n','_','_']) (o:=['r','o','t','a','r','e','t','i','_','t','e','s']) (by kernel_rfl) pU];kernel_rfl
theorem jP:entryFor table "set.__iter__" = some Builtin.«frozenset.__iter__»:=
 entryFor_alias (id':="frozenset.__iter__") (by kernel_rfl) rfl (by decide+kernel) (by kernel_rfl)
section
variable{M:Model}{prog:Program}{w:World}{A:Around}{E:Value->Shared->Prop}{s:Shared}
theorem nA{src:Source}{n:Nat}{Q:Nat->Shared->Prop}(hn:n≠0)(h:∀k d,k<n->Q k {s with drawn:=d}):wpAny M A (choose src n) Q E s:=λΓ p hΓ=>by
 show Sem.wp M Γ (.choose src n .pure) _ _ p s;rw[Sem.wp_choose];exact⟨hn,h _ _ (Nat.mod_lt _ (Nat.pos_of_ne_zero hn))⟩
theorem mZ{α:Type}:∀(n:Nat) (xs:List α) (s:Shared) {Q:List α -> Shared->Prop},xs.length=n->(∀ys d,ys.Perm xs->Q ys {s with drawn:=d})->wpAny M A (drawOrder n xs) Q E s
 | 0,xs,s,Q,hn,h=>by
  have:xs=[]:=List.length_eq_zero_iff.mp hn;subst this;unfold drawOrder;exact wpAny_pure (h [] s.drawn (.refl _))
 |n+1,[],s,Q,hn,h=>by simp at hn
 |n+1,x::xs,s,Q,hn,h=>by
  unfold drawOrder;refine wpAny_bind (nA (by simp) λk d hk=>?_)
  have hx:(x::xs)[k]? = some ((x::xs)[k]):=by simp[hk]
  rw[hx];refine wpAny_bind (mZ n ((x::xs).eraseIdx k) _ (by rw[List.length_eraseIdx,if_pos hk];lia) λys d' p=>?_)
  exact wpAny_pure (h _ d' ((p.cons _).trans (gO _ _ _ hx).symm))
abbrev gD(es:Array (Int×Value))(ep:Nat)(t:SetTable):Obj:={cls:=.type "set",dict:=none,data:=.set es ep t,slots:=#[]}
noncomputable def kh(first:Value)(i:Int)(a:Addr)(n ep:Int):Obj:={cls:=.type "set_iterator",data:=.fields #[first,rawInt i,.ref a,rawInt n,rawInt ep]}
theorem gh{Q:Bool->Shared->Prop}(h:Q (w.params.followText "set-order") s):wpAny (model prog w) A setsByText Q E s:=by
 unfold setsByText;exact wpAny_bind (wpAny_askSetting (wpAny_pure h))
inductive Mode (w:World) (h:Heap) (a:Addr) (es:Array (Int×Value)) (ep:Nat) (t:SetTable) (vs:List Value):Nat->Value->Prop
 |text {i:Nat} {sl:Nat}:w.params.followText "set-order" = true->vs=(pickOrder (w.params.setOrder a ep) es).toList.map (·.2)->Mode w h a es ep t vs i (rawInt sl)
 |slots {i:Nat}:w.params.followText "set-order" = false->(!t.plain&&decide (es.size>1))=false->UpA t.place->vs=es.toList.map (·.2)->Mode w h a es ep t vs i (rawInt (if i=0 then 0 else t.place.getD (i-1) 0+1:Nat))
 |drawn {i:Nat} {tp:Addr} {o:Obj} {ps:List Nat} {k:Nat}:h.get? tp=some o->o.data=.seq (ps.map λp:Nat=>rawInt (p:Int)).toArray k->vs.length=ps.length->(∀(j p:Nat),ps[j]? = some p->∃e:Int×Value,es[p]? = some e/\vs[j]? = some e.2)->Mode w h a es ep t vs i (.ref tp)
def SWk(w:World)(h:Heap)(I a:Addr)(vs:List Value)(tp:Addr)(i:Nat):Prop:=∃es ep t first,h.get? a=some (gD es ep t)/\t.fits es.size=true/\WkT (!w.params.followText "set-order") t/\vs.length=es.size/\h.get? I=some (kh first i a es.size ep)/\(∀b,first=.ref b->b=tp)/\Mode w h a es ep t vs i first
theorem Mode.keep{h h':Heap}{a tp:Addr}{es:Array (Int×Value)}{ep:Nat}{t:SetTable}{vs:List Value}{i:Nat}{first:Value}(m:Mode w h a es ep t vs i first)(hf:∀b,first=.ref b->b=tp)(k:∀o,h.get? tp=some o->h'.get? tp=some o):Mode w h' a es ep t vs i first:=by
 cases m with
 |text e1 e2=>exact .text e1 e2
 |slots e1 e2 e3 e4=>exact .slots e1 e2 e3 e4
 |drawn e1 e2 e3 e4=>
  have:=hf _ rfl;subst this;exact .drawn (k _ e1) e2 e3 e4
theorem dz{I:Addr}{first:Value}{i n ep:Int}{a:Addr}(h:s.heap.get? I=some (kh first i a n ep)):s.TypeIs (.ref I) "set_iterator":=⟨_,h,rfl⟩
theorem tK{I a:Addr}{first:Value}{i n:Nat}{es:Array (Int×Value)}{ep:Nat}{t:SetTable}{Q:Option Value->Shared->Prop}(hI:s.heap.get? I=some (kh first i a n ep))(ha:s.heap.get? a=some (gD es ep t))(hf:t.fits es.size=true)(hn:es.size=n)
  (h:wpAny (model prog w) A.in1 (if let .int slot _:=first then do
     match <-setNext a slot.toNat i ep with
     |some (x,next)=>
      setField (.ref I) 0 (rawInt next)
      setField (.ref I) 1 (rawInt ((i:Int)+1))
      ret x
     |none=>setField (.ref I) 2 .none;raiseNew (<-newExc (.type "StopIteration") [])
    else do
     let some places <-seqItems? first|unsupported "internal:set_iterator"
     match places[i]? with
     |some (.int place _)=>
      let x <-setNextDrawn a place.toNat ep
      setField (.ref I) 1 (rawInt ((i:Int)+1))
      ret x
     |some _=>unsupported "internal:set_iterator"
     |none=>setField (.ref I) 0 (rawInt 0);setField (.ref I) 2 .none;raiseNew (<-newExc (.type "StopIteration") []))
   (λfin s'=>∃r,fin=.done (.ret r)/\Q (some r) s') (λe s'=>wpAny (model prog w) A (do if <-isInstance e (.type "StopIteration")then pure none else throw e) Q E s') s):wpAny (model prog w) A (pyNext (.ref I)) Q E s:=by
 unfold pyNext;refine wpAny_bind (wpAny_attempt (wpAny_callSpecial?_slot (name:=Str.ofString "__next__") (dz hI) slot_si_next (wpAny_call_entry slot_si_next (dz hI) lU ?_ (oW _))));unfold Builtin.«set_iterator.__next__»;refine wpAny_bind (wpAny_of_eq (a:=(Value.ref I,[])) rfl ?_)
 try dsimp only
 refine wpAny_bind (wpAny_fieldsOf hI rfl ?_);show wpAny _ _ (setEntries a >>= λq=>_) _ _ s;refine wpAny_bind (wpAny_setEntries_of ha rfl hf ?_);refine wpAny_ite_split (λz=>absurd z (by simp[hn])) (λ_=>?_)
 simp only[Int.toNat_natCast];exact wpAny_mono h (λfin s' q=>let ⟨r,e,q⟩:=q; ⟨r,e,wpAny_pure q⟩) λ_ _ e=>e
theorem nM{Q:Option Value->Shared->Prop}{P:PySem.Fin->Shared->Prop}(hh:A.handled=none)(h:∀h',(∀b o,s.heap.get? b=some o->h'.get? b=some o)->Q none {s with heap:=h'}):
  wpAny (model prog w) A.in1 (do
   let x <-newExc (.type "StopIteration") []
   raiseNew x) P (λe s'=>wpAny (model prog w) A (do if <-isInstance e (.type "StopIteration")then pure none else throw e) Q E s') s:=by
 refine wpAny_bind ?_;simp only[newExc,newTuple];refine wpAny_bind (wpAny_newObj_type ?_ (by size_fits));refine wpAny_bind (m:=firstArgMember _ _) (wpAny_of_eq (a:=Value.none) (by first|rfl|(simp only[firstArgMember];rfl)) ?_);refine wpAny_newObj_type ?_ (by size_fits);simp only[raiseNew];refine wpAny_bind (wpAny_handled ?_);rw[show A.in1.handled=none from hh];refine wpAny_bind (wpAny_pure (wpAny_throw ?_));refine wpAny_bind (wpAny_isInstance (T:="StopIteration") (b:=true) ⟨_,Heap.get?_push_size _ rfl,rfl⟩ isSubtype_stop ?_);exact wpAny_pure (h _ λb o e=>Heap.get?_push_of_some _ (Heap.get?_push_of_some _ e))
theorem be{h:Heap}{I b:Addr}{f:Obj->Obj}{o:Obj}(hb:b≠I)(e:h.get? b=some o):(h.update I f).get? b=some o:=(Heap.get?_update_other _ _ (Ne.symm hb)).trans e
theorem ig{a:Addr}{es:Array (Int×Value)}{ep:Nat}{t:SetTable}{sl i:Nat}{Q:Option (Value×Nat)->Shared->Prop}(ha:s.heap.get? a=some (gD es ep t))(hf:t.fits es.size=true)(hT:w.params.followText "set-order" = true)(h:Q (((pickOrder (w.params.setOrder a ep) es)[i]?).map λe=>(e.2,sl)) s):wpAny (model prog w) A (setNext a sl i ep) Q E s:=by
 unfold setNext;refine wpAny_bind (wpAny_setState_of ha rfl hf ?_);dsimp only;refine wpAny_bind (gh ?_);rw[hT,if_pos rfl];refine wpAny_ite_split (λz=>absurd z (by simp)) (λ_=>?_)
 unfold setWalk;refine wpAny_bind (wpAny_bind (wpAny_setState_of ha rfl hf ?_));dsimp only;refine wpAny_bind (gh ?_);rw[hT,if_pos rfl];refine wpAny_bind (wpAny_askSetting (wpAny_pure ?_));exact wpAny_pure h
theorem ii{a:Addr}{es:Array (Int×Value)}{ep:Nat}{t:SetTable}{sl i:Nat}{Q:Option (Value×Nat)->Shared->Prop}(ha:s.heap.get? a=some (gD es ep t))(hf:t.fits es.size=true)(hT:w.params.followText "set-order" = false)(hp:(!t.plain&&decide (es.size>1))=false)(hw:t.led=true)
  (h:Q (match es[SetTable.below t.place sl]?,t.place[SetTable.below t.place sl]? with
   |some (_,x),some j=>some (x,j+1)
   |_,_=>none) s):wpAny (model prog w) A (setNext a sl i ep) Q E s:=by
 unfold setNext;refine wpAny_bind (wpAny_setState_of ha rfl hf ?_);dsimp only;refine wpAny_bind (gh ?_);rw[hT,if_neg (by decide)];show wpAny _ _ (if(!t.plain&&decide (es.size>1))=true then _ else _) _ _ _;rw[hp,if_neg (by decide)];show wpAny _ _ ((if(!t.led && !es.isEmpty)=true then _ else _) >>= _) _ _ _;rw[hw];simp only[Bool.not_true,Bool.false_and,Bool.false_eq_true,if_false];exact wpAny_bind (wpAny_pure (wpAny_pure h))
end
section
variable{prog:Program}{w:World}{A:Around}{E:Value->Shared->Prop}{s:Shared}
theorem ji{t:SetTable}{n:Nat}(h:t.fits n=true):t.place.size=n:=by
 simp only[SetTable.fits,Bool.and_eq_true,beq_iff_eq]at h;exact h.1
theorem xa{h:Heap}{I a:Addr}{first x:Value}{i n ep:Int}(hI:h.get? I=some (kh first i a n ep))(j:Int):((h.update I (Obj.mapFields (·.setIfInBounds 0 x))).update I (Obj.mapFields (·.setIfInBounds 1 (rawInt j)))).get? I=some (kh x j a n ep):=by
 have h1:=Heap.get?_update_self (Obj.mapFields (·.setIfInBounds 0 x)) hI rfl;exact Heap.get?_update_self (Obj.mapFields (·.setIfInBounds 1 (rawInt j))) h1 rfl
theorem Cd{h:Heap}{I a:Addr}{first:Value}{i n ep:Int}(hI:h.get? I=some (kh first i a n ep))(j:Int):(h.update I (Obj.mapFields (·.setIfInBounds 1 (rawInt j)))).get? I=some (kh first j a n ep):=
 Heap.get?_update_self (Obj.mapFields (·.setIfInBounds 1 (rawInt j))) hI rfl
theorem zE{I a tp:Addr}{vs:List Value}{i:Nat}{v:Value}{Q:Option Value->Shared->Prop}(ha:a≠I)(ht:tp≠I)(hW:SWk w s.heap I a vs tp i)(hv:vs[i]? = some v)
  (hQ:∀h',SWk w h' I a vs tp (i+1)->(∀b o,b≠I->s.heap.get? b=some o->h'.get? b=some o)->Q (some v) {s with heap:=h'}):wpAny (model prog w) A (pyNext (.ref I)) Q E s:=by
 obtain⟨es,ep,t,first,e1,e2,e3,e4,e5,e6,e7⟩:=hW;have hi:i<vs.length:=(List.getElem?_eq_some_iff.mp hv).1;refine tK e5 e1 e2 rfl ?_;cases e7 with
 |text m1 m2=>
  rename_i sl;show wpAny _ _ (setNext a ((sl:Int)).toNat i ep >>= _) _ _ _;rw[Int.toNat_natCast];have hx:∃e,(pickOrder (w.params.setOrder a ep) es)[i]? = some e/\e.2=v:=by
   rw[m2,List.getElem?_map,Array.getElem?_toList]at hv;exact Option.map_eq_some_iff.mp hv
  obtain⟨e,q1,q2⟩:=hx;refine wpAny_bind (ig e1 e2 m1 ?_);rw[q1];dsimp only[Option.map];rw[q2];refine wpAny_bind (wpAny_setField e5 rfl (by simp) ?_);have g1:=Heap.get?_update_self (Obj.mapFields (·.setIfInBounds 0 (rawInt (sl:Int)))) e5 rfl;refine wpAny_bind (wpAny_setField g1 rfl (by simp) (wpAny_pure ⟨v,rfl,hQ _ ?_ λb o hb eo=>be hb (be hb eo)⟩))
  exact⟨es,ep,t,rawInt sl,be ha (be ha e1),e2,e3,e4,xa e5 _,λb z=>(by cases z),.text m1 m2⟩
 |slots m1 m2 m3 m4=>
  have hz:=ji e2;have hb:SetTable.below t.place (if i=0 then 0 else t.place.getD (i-1) 0+1)=i:=by
   by_cases z:i=0
   .subst z;rw[if_pos rfl,lC m3]
   .rw[if_neg z]
    have:i-1<t.place.size:=by lia
    have e:t.place.getD (i-1) 0=t.place[i-1]:=by simp[Array.getD,this]
    rw[e,lE m3 this]
    lia
  have hp:t.place[i]? = some (t.place.getD i 0):=by
   have:i<t.place.size:=by lia
   simp[Array.getD,this]
  obtain⟨e,q1,q2⟩:∃e,es[i]? = some e/\e.2=v:=by
   rw[m4,List.getElem?_map,Array.getElem?_toList]at hv;exact Option.map_eq_some_iff.mp hv
  obtain⟨eh,ev⟩:=e;have q2:ev=v:=q2;subst q2;show wpAny _ _ (setNext a (((if i=0 then 0 else t.place.getD (i-1) 0+1:Nat):Int)).toNat i ep >>= _) _ _ _;rw[Int.toNat_natCast];refine wpAny_bind (ii e1 e2 m1 m2 (by rw[e3.led,m1];rfl) ?_);rw[hb,q1,hp];dsimp only;refine wpAny_bind (wpAny_setField e5 rfl (by simp) ?_);have g1:=Heap.get?_update_self (Obj.mapFields (·.setIfInBounds 0 (rawInt ((t.place.getD i 0+1:Nat):Int)))) e5 rfl;refine wpAny_bind (wpAny_setField g1 rfl (by simp) (wpAny_pure ⟨ev,rfl,hQ _ ?_ λb o hb eo=>be hb (be hb eo)⟩))
  have m:Mode w ((s.heap.update I (Obj.mapFields (·.setIfInBounds 0 (rawInt ((t.place.getD i 0+1:Nat):Int))))).update I (Obj.mapFields (·.setIfInBounds 1 (rawInt ((i:Int)+1))))) a es ep t vs (i+1) (rawInt (if i+1=0 then 0 else t.place.getD (i+1-1) 0+1:Nat)):=.slots m1 m2 m3 m4;rw[if_neg (by lia),Nat.add_sub_cancel]at m;exact⟨es,ep,t,_,be ha (be ha e1),e2,e3,e4,xa e5 _,λb z=>(by cases z),m⟩
 |drawn m1 m2 m3 m4=>
  rename_i tq o ps k;have:=e6 _ rfl;subst this;have hj:i<ps.length:=by lia
  have hp:ps[i]? = some ps[i]:=by simp[hj]
  obtain⟨e,q1,q2⟩:=m4 i _ hp;rw[hv]at q2;have q2:v=e.2:=by simpa using q2
  show wpAny _ _ (seqItems? (.ref tq) >>= _) _ _ _;refine wpAny_bind (wpAny_seqItems m1 m2 ?_);dsimp only;have pl:(ps.map λp:Nat=>rawInt (p:Int)).toArray[i]? = some (rawInt (ps[i]:Int)):=by simp[hj]
  rw[pl];show wpAny _ _ (setNextDrawn a ((ps[i]:Int)).toNat ep >>= _) _ _ _;rw[Int.toNat_natCast];unfold setNextDrawn;refine wpAny_bind (wpAny_bind (wpAny_setState_of e1 rfl e2 ?_));dsimp only;refine wpAny_ite_split (λz=>absurd z (by simp)) (λ_=>?_)
  rw[q1];refine wpAny_pure ?_;rw[<-q2];refine wpAny_bind (wpAny_setField e5 rfl (by simp) (wpAny_pure ⟨v,rfl,hQ _ ?_ λb o hb eo=>be hb eo⟩));exact⟨es,ep,t,.ref tq,be ha e1,e2,e3,e4,Cd e5 _,e6,.drawn (be ht m1) m2 m3 m4⟩
theorem zF{I a tp:Addr}{vs:List Value}{Q:Option Value->Shared->Prop}(hh:A.handled=none)(hW:SWk w s.heap I a vs tp vs.length)
  (hQ:∀h',(∀b o,b≠I->s.heap.get? b=some o->h'.get? b=some o)->Q none {s with heap:=h'}):wpAny (model prog w) A (pyNext (.ref I)) Q E s:=by
 obtain⟨es,ep,t,first,e1,e2,e3,e4,e5,e6,e7⟩:=hW;refine tK e5 e1 e2 rfl ?_;cases e7 with
 |text m1 m2=>
  rename_i sl;show wpAny _ _ (setNext a ((sl:Int)).toNat vs.length ep >>= _) _ _ _;rw[Int.toNat_natCast];refine wpAny_bind (ig e1 e2 m1 ?_);have hx:(pickOrder (w.params.setOrder a ep) es)[vs.length]? = none:=by
   rw[<-Array.getElem?_toList,List.getElem?_eq_none_iff,m2,List.length_map];exact Nat.le_refl _
  rw[hx];dsimp only[Option.map];refine wpAny_bind (wpAny_setField e5 rfl (by simp) ?_);exact nM hh λh' kp=>hQ h' λb o hb eo=>kp b o (be hb eo)
 |slots m1 m2 m3 m4=>
  have hz:=ji e2;have hb:SetTable.below t.place (if vs.length=0 then 0 else t.place.getD (vs.length-1) 0+1)=vs.length:=by
   by_cases z:vs.length=0
   .rw[if_pos z,lC m3,z]
   .rw[if_neg z]
    have:vs.length-1<t.place.size:=by lia
    have e:t.place.getD (vs.length-1) 0=t.place[vs.length-1]:=by simp[Array.getD,this]
    rw[e,lE m3 this]
    lia
  show wpAny _ _ (setNext a (((if vs.length=0 then 0 else t.place.getD (vs.length-1) 0+1:Nat):Int)).toNat vs.length ep >>= _) _ _ _;rw[Int.toNat_natCast];refine wpAny_bind (ii e1 e2 m1 m2 (by rw[e3.led,m1];rfl) ?_);rw[hb];have hx:es[vs.length]? = none:=by rw[e4];simp
  rw[hx];dsimp only;refine wpAny_bind (wpAny_setField e5 rfl (by simp) ?_);exact nM hh λh' kp=>hQ h' λb o hb eo=>kp b o (be hb eo)
 |drawn m1 m2 m3 m4=>
  rename_i tq o ps k;show wpAny _ _ (seqItems? (.ref tq) >>= _) _ _ _;refine wpAny_bind (wpAny_seqItems m1 m2 ?_);dsimp only;have pl:(ps.map λp:Nat=>rawInt (p:Int)).toArray[vs.length]? = none:=by rw[m3];simp
  rw[pl];dsimp only;refine wpAny_bind (wpAny_setField e5 rfl (by simp) ?_);have g1:=Heap.get?_update_self (Obj.mapFields (·.setIfInBounds 0 (rawInt 0))) e5 rfl;refine wpAny_bind (wpAny_setField g1 rfl (by simp) ?_);exact nM hh λh' kp=>hQ h' λb o hb eo=>kp b o (be hb (be hb eo))
theorem SWk.frame{h h':Heap}{I a tp:Addr}{vs:List Value}{i:Nat}(x:SWk w h I a vs tp i)(k:∀b∈[I,a,tp],∀o,h.get? b=some o->h'.get? b=some o):SWk w h' I a vs tp i:=
 let ⟨es,ep,t,first,e1,e2,e3,e4,e5,e6,e7⟩:=x
 ⟨es,ep,t,first,k a (by simp) _ e1,e2,e3,e4,k I (by simp) _ e5,e6,e7.keep e6 (k tp (by simp))⟩
theorem lV:entryFor table "set_iterator.__iter__" = some Builtin.«dict_keyiterator.__iter__»:=
 entryFor_alias (id':="dict_keyiterator.__iter__") (by kernel_rfl) (by first|rfl|decide+kernel|(unfold String.splitOn;simp +decide [String.splitOnAux])) (by decide+kernel) (by kernel_rfl)
theorem ie:Slot "set_iterator" "__iter__" "set_iterator.__iter__":=
 .of (owner:="set_iterator") (n:="__iter__") (by rw[typeLookup_type,builtinLookup_eq_fast];kernel_rfl) (by decide+kernel) (by decide+kernel) (by decide+kernel)
  (by first|exact .inl (by decide+kernel)|exact .inr (by decide+kernel)) (by rw[isSubtype_type];kernel_rfl)
theorem oX(a:Value):argsOk "set_iterator.__iter__" ⟨[a],[]⟩:=by
 unfold argsOk;rw[signature?_of (id:="set_iterator.__iter__") (n:=['_','_','r','e','t','i','_','_']) (o:=['r','o','t','a','r','e','t','i','_','t','e','s']) (by kernel_rfl) pU];kernel_rfl
theorem wN(hh:A.handled=none){I a tp:Addr}(ha:a≠I)(ht:tp≠I)(vs:List Value):Walks prog w A I [I,a,tp] [I] vs.length (λi v=>vs[i]? = some v) (λi h=>SWk w h I a vs tp i) where
 sub:=λb hb=>by simp at hb;simp[hb]
 frame:=λ_ _ _ st hk=>st.frame hk
 item:=λi s Q E hi st hQ=>zE ha ht st (v:=vs[i]) (by simp[hi]) λh' x k=>hQ _ h' s.toks (by simp[hi]) x λb o hb e=>k b o (λz=>hb (by simp[z])) e
 done:=λs Q E st hQ=>zF hh st λh' k=>hQ h' s.toks λb o hb e=>k b o (λz=>hb (by simp[z])) e
 self:=λi s Q E st hQ=>by
  obtain⟨es,ep,t,first,e1,e2,e3,e4,e5,e6,e7⟩:=st;refine wpAny_pyIter_slot (dz e5) ie (wpAny_call_entry ie (dz e5) lV ?_ (oX _));exact wpAny_pure ⟨_,rfl,"set_iterator",_,dz e5,slot_si_next.lookup,hQ⟩
end
theorem rL(es:Array (Int×Value)):(List.range es.size).map (λp=>es.getD p (0,.none))=es.toList:=by
 apply List.ext_getElem?;intro i;rw[List.getElem?_map];by_cases h:i<es.size
 .rw[List.getElem?_range h]
  simp[Array.getD,h]
 .rw[List.getElem?_eq_none (by rw[List.length_range];lia),List.getElem?_eq_none (by rw[Array.length_toList];lia)]
  rfl
section
variable{prog:Program}{w:World}{A:Around}{E:Value->Shared->Prop}{s:Shared}
theorem vv{a:Addr}{es:Array (Int×Value)}{ep:Nat}{t:SetTable}{Q:Value->Shared->Prop}(ho:s.heap.get? a=some (gD es ep t))(hb:es.size<scanBound)(hf:t.fits es.size=true)(hw:WkT (!w.params.followText "set-order") t)
  (hQ:∀I tp h1 d vs,tp≠I->a≠I->(∀b o,s.heap.get? b=some o->h1.get? b=some o)->s.heap.objs.size<=I->I<h1.objs.size->(tp=a\/s.heap.objs.size<=tp)->SWk w h1 I a vs tp 0->vs.Perm (es.toList.map (·.2))->Q (.ref I) {s with heap:=h1,drawn:=d}):wpAny (model prog w) A (pyIter (.ref a)) Q E s:=by
 have hT:s.TypeIs (.ref a) "set":=⟨_,ho,rfl⟩;have lt:=Heap.lt_size ho;refine wpAny_pyIter_slot hT F.slot_set_iter (wpAny_call_entry F.slot_set_iter hT jP ?_ (F.args_set_iter_1 _));unfold Builtin.«frozenset.__iter__» Builtin.Frozenset.slot0;refine wpAny_bind (wpAny_bind (wpAny_of_eq (a:=(Value.ref a,[])) rfl ?_));unfold Builtin.Frozenset.addrOf Builtin.Frozenset.sizeOf;refine wpAny_pure ?_;refine wpAny_bind (wpAny_bind (wpAny_setEntries_of ho rfl hf (wpAny_pure ?_)));unfold setDrawn;refine wpAny_bind (wpAny_bind (wpAny_setState_of ho rfl hf ?_));dsimp only;refine wpAny_bind (gh (wpAny_pure ?_));have plain:∀vs:List Value,vs.Perm (es.toList.map (·.2))->vs.length=es.size->(∀h1:Heap,Mode w h1 a es ep t vs 0 (rawInt (0:Nat)))->wpAny (model prog w) A.in1 (do
   let ep <-setEpoch a
   let x <-newFields "set_iterator" [rawInt 0,rawInt 0,.ref a,rawInt es.size,rawInt ep]
   ret x) (λfin s'=>∃v,fin=.done (.ret v)/\∃T' r,s'.TypeIs v T'/\typeLookup (.type T') "__next__" = pure (some r)/\Q v s') E s:=λvs q1 q3 q4=>by
  refine wpAny_bind (wpAny_setEpoch_of ho rfl hf ?_);refine wpAny_bind (wpAny_newObj_type (wpAny_pure ⟨_,rfl,"set_iterator",_,⟨_,Heap.get?_push_size _ rfl,rfl⟩,slot_si_next.lookup,?_⟩));refine hQ s.heap.objs.size a _ s.drawn vs (Nat.ne_of_lt lt) (Nat.ne_of_lt lt) (λb o e=>Heap.get?_push_of_some _ e) (Nat.le_refl _) (by rw[Heap.size_push];exact Nat.lt_succ_self _) (.inl rfl) ⟨es,ep,t,rawInt (0:Nat),Heap.get?_push_of_some _ ho,hf,hw,q3,Heap.get?_push_size _ rfl,λb z=>(by cases z),q4 _⟩ q1
 cases hb1:w.params.followText "set-order" with
 |true=>
  simp only[Bool.not_true,Bool.false_and,Bool.false_eq_true,if_false];have pp:=vG (w.params.setOrder a ep) es;refine plain ((pickOrder (w.params.setOrder a ep) es).toList.map (·.2)) (pp.map _) (by rw[List.length_map,pp.length_eq,Array.length_toList]) λh1=>.text hb1 rfl
 |false=>
  by_cases hd:(!t.plain&&decide (es.size>1))=true
  .show wpAny _ _ (if(!false&&(!t.plain&&decide (es.size>1)))=true then _ else _) _ _ _
   rw[hd];simp only[Bool.not_false,Bool.and_self,if_true];refine wpAny_bind (mZ es.size (List.range es.size) s (List.length_range ..) λys d py=>?_)
   have hlen:ys.length=es.size:=by rw[py.length_eq,List.length_range]
   refine wpAny_bind (wpAny_newObj_type ?_ (by show(List.toArray _).size<=sizeLine;rw[List.size_toArray,List.length_map,hlen];exact fits_of_scanBound hb));have ho1:=Heap.get?_push_of_some {cls:=.type "tuple",data:=.seq (ys.map λi:Nat=>rawInt (i:Int)).toArray} ho
   refine wpAny_bind (wpAny_setEpoch_of ho1 rfl hf ?_);refine wpAny_bind (wpAny_newObj_type (wpAny_pure ⟨_,rfl,"set_iterator",_,⟨_,Heap.get?_push_size _ rfl,rfl⟩,slot_si_next.lookup,?_⟩));have pe:(ys.map λp=>es.getD p (0,.none)).Perm es.toList:=by
    have:=py.map λp=>es.getD p (0,.none)
    rwa [rL]at this
   refine hQ (s.heap.push {cls:=.type "tuple",data:=.seq (ys.map λi:Nat=>rawInt (i:Int)).toArray}).objs.size s.heap.objs.size _ d ((ys.map λp=>es.getD p (0,.none)).map (·.2)) ?_ ?_ (λb o e=>Heap.get?_push_of_some _ (Heap.get?_push_of_some _ e)) (by rw[Heap.size_push];exact Nat.le_succ _) (Heap.lt_size (Heap.get?_push_size _ rfl)) (.inr (Nat.le_refl _)) ⟨es,ep,t,.ref s.heap.objs.size,Heap.get?_push_of_some _ ho1,hf,hw,by simp[hlen],Heap.get?_push_size _ rfl,λb z=>by injection z with z;exact z.symm,?_⟩ (pe.map _)
   .rw[Heap.size_push];exact Nat.ne_of_lt (Nat.lt_succ_self _)
   .rw[Heap.size_push];exact Nat.ne_of_lt (Nat.lt_succ_of_lt lt)
   .refine .drawn (ps:=ys) (Heap.get?_push_of_some _ (Heap.get?_push_size _ rfl)) rfl (by simp) λj p hj=>?_
    have hpn:p<es.size:=List.mem_range.mp (py.mem_iff.mp (List.mem_of_getElem? hj));refine⟨es.getD p (0,.none),by simp[Array.getD,hpn],?_⟩;rw[List.getElem?_map,List.getElem?_map,hj];rfl
  .show wpAny _ _ (if(!false&&(!t.plain&&decide (es.size>1)))=true then _ else _) _ _ _
   have hd':(!t.plain&&decide (es.size>1))=false:=by simpa using hd
   rw[hd'];simp only[Bool.not_false,Bool.and_false,Bool.false_eq_true,if_false];have up:UpA t.place:=by
    cases hpl:t.plain with
    |true=>exact hw.up hpl
    |false=>
     rw[hpl]at hd';have h1:es.size<=1:=by simpa using hd'
     have h2:=ji hf;intro i j hi hj hij
     lia
   refine wpAny_bind (wpAny_pure ?_);refine plain (es.toList.map (·.2)) (.refl _) (by simp) λh1=>?_
   have:=Mode.slots (w:=w) (h:=h1) (a:=a) (ep:=ep) (i:=0) hb1 hd' up (es:=es) rfl;simpa using this
theorem yn{r:Addr}{Q:Bool->Shared->Prop}(hT:s.TypeIs (.ref r) "set")(h:Q false s):wpAny (model prog w) A (Builtin.List.listLengthHint (.ref r)) Q E s:=by
 unfold Builtin.List.listLengthHint;refine wpAny_bind (wpAny_specialOf hT PySem.F.slot_set_len.lookup ?_);generalize hid:("set.__len__":String)=id0
 wp_delta
 rw[show splitId id0=some ("set","__len__")from by subst hid;decide+kernel];subst hid;refine wpAny_bind (wpAny_isInstance (T:="set") (b:=true) hT (by rw[isSubtype_type];kernel_rfl) ?_);refine wpAny_ite_split (λz=>absurd z (by decide)) (λ_=>wpAny_ite_split (λ_=>?_) (λz=>absurd (by decide+kernel) z))
 exact wpAny_bind (wpAny_typeOf hT (wpAny_pure h))
end
section
variable{prog:Program}{w:World}{A:Around}{E:Value->Shared->Prop}{s:Shared}
theorem yl{vs:List Value}{acc:Array Value}(h:ItemsOf (λi v=>vs[i]? = some v) acc vs.length):acc.toList=vs:=by
 obtain⟨h1,h2⟩:=h;apply List.ext_getElem?;intro i;rw[Array.getElem?_toList];cases e:acc[i]? with
 |some v=>exact(h2 i v e).symm
 |none=>
  have:acc.size<=i:=by simpa using e
  rw[List.getElem?_eq_none (by lia)]
theorem oH{a:Addr}{es:Array (Int×Value)}{ep:Nat}{t:SetTable}{R:List Value->Shared->Prop}(hh:A.handled=none)(hS:s.heap.get? a=some (gD es ep t))(hsz:es.size<scanBound)(hf:t.fits es.size=true)(hw:WkT (!w.params.followText "set-order") t)
  (h:∀h' d tk vs,(∀b o,s.heap.get? b=some o->h'.get? b=some o)->vs.Perm (es.toList.map (·.2))->R vs {s with heap:=h',drawn:=d,toks:=tk}):wpAny (model prog w) A (collect (.ref a)) R E s:=by
 have lta:a<s.heap.objs.size:=Heap.lt_size hS;unfold collect;refine wpAny_bind (wpAny_runValue (codeAny_builtin entry_proto_collect' ?_));rw[Around.under_plainId PySem.F.plain_proto_collect _];refine wpAny_bind (m:=newList []) (wpAny_newObj_type ?_);refine wpAny_pure ⟨plainId_quiet PySem.F.plain_list_iadd _,codeAny_builtin entry_list_iadd' ?_⟩;rw[Around.under_plainId PySem.F.plain_list_iadd _];show wpAny _ A.in1 (Builtin.List.listExtendWith (.ref s.heap.objs.size) (.ref a) (.ref s.heap.objs.size)) _ _ _;unfold Builtin.List.listExtendWith;have kp1:∀b o,s.heap.get? b=some o->(s.heap.push {cls:=.type "list",data:=.seq ([]:List Value).toArray}).get? b=some o:=λb o e=>Heap.get?_push_of_some _ e
 have hS1:=kp1 a _ hS;have hL:(s.heap.push {cls:=.type "list",data:=.seq ([]:List Value).toArray}).get? s.heap.objs.size=some {cls:=.type "list",data:=.seq #[] 0}:=Heap.get?_push_size _ rfl;have hT:∀{s1:Shared},s1.heap.get? a=some (gD es ep t)->s1.TypeIs (.ref a) "set":=λq=>⟨_,q,rfl⟩
 refine wpAny_bind (wpAny_typeOf (T:="set") (hT hS1) ?_);have h1:Builtin.List.listSameRef (.ref s.heap.objs.size) (.ref a)=false:=by simp[Builtin.List.listSameRef];exact Nat.ne_of_gt lta
 have h2:(Value.type "set" == Value.type "list")=false:=by decide
 have h3:(Value.type "set" == Value.type "tuple")=false:=by decide
 simp only[h1,h2,h3,Bool.or_false,Bool.false_eq_true,if_false];refine wpAny_bind (vv hS1 hsz hf hw λI tp h1 d vs htp haI kp2 hI hI2 htp2 sw pm=>?_);have ltL:s.heap.objs.size<(s.heap.push {cls:=.type "list",data:=.seq ([]:List Value).toArray}).objs.size:=Heap.lt_size hL;have neI:s.heap.objs.size≠I:=λz=>by
  have q:s.heap.objs.size<I:=Nat.lt_of_lt_of_le ltL hI;rw[<-z]at q;exact Nat.lt_irrefl _ q
 have neT:s.heap.objs.size≠tp:=λz=>by
  rcases htp2 with q|q
  .rw[q]at z;exact absurd lta (by rw[z];exact Nat.lt_irrefl _)
  .rw[<-z]at q;exact absurd ltL (Nat.not_lt.mpr q)
 have hL1:=kp2 _ _ hL;refine wpAny_bind (wpAny_holding (yn (hT (s1:={s with heap:=h1,drawn:=d}) (kp2 a _ hS1)) ?_));have fin:∀(RR:Result->Shared->Prop) (hR:∀s',wpAny (model prog w) A (load s.heap.objs.size >>= λo=>match o.data with
   |.seq xs _=>pure xs.toList
   |_=>unsupported "internal:collect") R E s'->RR (.ok (.ret (.ref s.heap.objs.size))) s') (h2:Heap) (c:Nat),h2.get? s.heap.objs.size=some {cls:=.type "list",data:=.seq #[] c}->(∀b o,b≠s.heap.objs.size->h1.get? b=some o->h2.get? b=some o)->codeAny (model prog w) A (.builtin "list.extend.loop" ⟨[.ref s.heap.objs.size,.ref I,.ref s.heap.objs.size],[]⟩) RR {s with heap:=h2,drawn:=d}:=λRR hR h2 c e2 k2=>by
  have W:=(wN (prog:=prog) (w:=w) (A:=A.in1) hh haI htp vs).toS;have vl:vs.length=es.size:=by rw[pm.length_eq,List.length_map,Array.length_toList]
  refine codeAny_extend_loopS W (by rw[vl];exact fits_of_scanBound hsz) s.heap.objs.size (by simp only[List.mem_cons,List.not_mem_nil,or_false,not_or];exact⟨neI,Nat.ne_of_gt lta,neT⟩) (.ref s.heap.objs.size) vs.length 0 _ #[] c rfl (Nat.zero_le _) (sw.frame λb hb o e=>?_) e2 (ItemsOf.nil _) λs' acc c' hm hS' hacc=>?_
  .refine k2 b o (λz=>?_) e
   simp only[List.mem_cons,List.not_mem_nil,or_false]at hb;rcases hb with rfl|rfl|rfl
   .exact neI z.symm
   .exact Nat.ne_of_lt lta z
   .exact neT z.symm
  .refine hR s' (wpAny_bind (wpAny_load hS' (wpAny_pure ?_)))
   rw[yl hacc];obtain⟨h',g',d',tk',os'⟩:=s';have eg:g'=s.gens:=hm.gens;have ed:d'=d:=hm.drawn;have eo:os'=s.os:=hm.os;subst eg ed eo;refine h h' d' tk' vs (λb o e=>?_) pm;have lt:=Heap.lt_size e;refine hm.heap b o ?_ (k2 b o (Nat.ne_of_lt lt) (kp2 b o (kp1 b o e)));simp only[List.mem_cons,List.not_mem_nil,or_false,not_or];exact⟨Nat.ne_of_lt lt,λz=>by
    have q:b<I:=Nat.lt_trans lt (Nat.lt_of_lt_of_le ltL hI);rw[z]at q;exact Nat.lt_irrefl _ q⟩
 refine wpAny_ite_split (λ_=>?_) (λ_=>wpAny_pure ⟨plainId_quiet PySem.F.plain_extend_loop _,fin _ (λs' q=>q) h1 0 hL1 λb o _ e=>e⟩)
 refine wpAny_bind (wpAny_rule ?_);refine wpAny_bind ?_;show wpAny _ _ (updateSeq s.heap.objs.size (·.push .none) >>= λ_=>updateSeq s.heap.objs.size (·.pop)) _ _ _
 refine wpAny_bind (wpAny_updateSeq hL1 rfl ?_);have g2:=Heap.get?_update_self (Obj.mapSeq (·.push Value.none)) hL1 rfl;refine wpAny_updateSeq (hz:=by seq_fits) g2 rfl ?_;have g3:=Heap.get?_update_self (Obj.mapSeq (·.pop)) g2 rfl;exact wpAny_pure ⟨plainId_quiet PySem.F.plain_extend_loop _,fin _ (λs' q=>q) _ _ g3 λb o hb e=>aX hb (aX hb e)⟩
theorem iJ:∀(vs:List Value),(∀v∈vs,∃k t,v=Value.int k t)->IntsAre vs (vs.map j7)
 |[],_=>.nil
 |v::vs,h=>by
  obtain⟨k,t,rfl⟩:=h v List.mem_cons_self;exact .cons k t (iJ vs λu hu=>h u (List.mem_cons_of_mem _ hu))
theorem qG{a:Addr}{ns:List Int}{R:List Value->Shared->Prop}(hh:A.handled=none)(hS:SetJ w s.heap a ns)
  (h:∀h' d tk vs ms,(∀b o,s.heap.get? b=some o->h'.get? b=some o)->IntsAre vs ms->ms.Perm ns->R vs {s with heap:=h',drawn:=d,toks:=tk}):wpAny (model prog w) A (collect (.ref a)) R E s:=by
 obtain⟨es,ep,t,ho,hel,hp,hb,hf,hw⟩:=hS;have hsz:es.size=ns.length:=by
  have:=hp.length_eq;rw[List.length_map,Array.length_toList]at this;exact this
 refine oH hh ho (by lia) hf hw λh' d tk vs hk pm=>?_
 have iv:IntsAre vs (vs.map j7):=iJ vs λv hv=>by
  obtain⟨e,he,rfl⟩:=List.mem_map.mp (pm.mem_iff.mp hv);obtain⟨k,t,rfl⟩:=hel e he;exact⟨k,t,rfl⟩
 refine h h' d tk vs _ hk iv ?_;have:=pm.map j7;rw[List.map_map]at this;exact this.trans hp
end
section
variable{X:Cx}
theorem Inv.keptD{pins:List (Addr×Obj)}{σ:St}{H:Hp}{s:Shared}{h':Heap}{t':Nat}{d:Drawn}(I:Inv X pins σ H s)(k:∀b u,s.heap.get? b=some u->h'.get? b=some u):Inv X pins σ H {s with heap:=h',drawn:=d,toks:=t'}:=by
 obtain⟨a1,a2,a3,a4,a5,a6,a7,a8,a9,a10,a11⟩:=I.kept (t':=t') k;exact⟨a1,a2,a3,a4,a5,a6,a7,a8,a9,a10,a11⟩
theorem rE(hc:X.calm=true){pins:List (Addr×Obj)}{σ:St}{H:Hp}{s:Shared}{a:Addr}{ns:List Int}{Q:VK}(I:Inv X pins σ H s)(hS:SetJ X.w s.heap a ns)(h64:ns.length<64)(q:∀l,H l=none->Q (.ref l) (upd H l (.lst ((aR ns).map V.int)))):
  wpAny (model X.prog X.w) X.A (call (.builtin "sorted") [.ref a]) (EP X pins σ Q) X.xe s:=by
 refine Calls.call_function_entry kind_sorted plain_sorted entry_sorted (args_sorted1 _) ?_;unfold Builtin.«sorted»;refine wpAny_bind (m:=checkCount "sorted" 1 1 _) (wpAny_pure ?_);refine wpAny_bind (qG (I.ok.hd hc) hS λh' d tk acc ms hk' hI pm=>?_)
 have hln:acc.length=ns.length:=by rw[<-pm.length_eq];exact IntsAre.length hI
 refine wpAny_bind (wpAny_newList ?_ (by rw[hln,sizeLine_eq];lia));have hoL:(h'.push (seqObj "list" acc.toArray 0)).get? h'.objs.size=some (seqObj "list" acc.toArray 0):=Heap.get?_push_size _ rfl;refine wpAny_bind (wpAny_holding (wpAny_call_entry slot_list_sort ⟨_,hoL,rfl⟩ entry_list_sort (list_sort_tree hoL hI (by rw[hln];exact h64) λout ns' a1 a2 a3=>⟨_,rfl,?_⟩) (args_list_sort _)))
 refine wpAny_pure ⟨_,rfl,?_⟩;have e:=gg (a2.trans pm) a3;subst e;have I1:Inv X pins σ H {s with heap:=h',drawn:=d,toks:=tk}:=Inv.keptD I hk';have kp:∀b o,h'.get? b=some o->(sortedHeap (h'.push (seqObj "list" acc.toArray 0)) h'.objs.size acc out).get? b=some o:=λb o eo=>by
  have hb:b≠h'.objs.size:=Nat.ne_of_lt (Heap.lt_size eo);exact aX hb (Heap.get?_push_of_some _ (Heap.get?_push_of_some _ (aX hb (Heap.get?_push_of_some _ eo))))
 obtain⟨e1,ho1⟩:∃e1,((h'.push (seqObj "list" acc.toArray 0)).update h'.objs.size (Obj.mapSeq λ_=>#[])).get? h'.objs.size=some (seqObj "list" #[] e1):=⟨_,get?_update_seq hoL (λ_=>#[])⟩;have ho2:=Heap.get?_push_of_some (seqObj "list" #[] 0) (Heap.get?_push_of_some (seqObj "tuple" acc.toArray 0) ho1);have ho3:=get?_update_seq ho2 (λ_=>out);have L:=I1.laid (h':=sortedHeap (h'.push (seqObj "list" acc.toArray 0)) h'.objs.size acc out) (a:=h'.objs.size) (o:=.lst ((aR ns).map V.int)) (t':=tk) kp (Nat.le_refl _)
  (show ObjOk X.prog X.w _ _ _ (.lst ((aR ns).map V.int))from ⟨by rw[List.length_map,(cm ns).length_eq,sizeLine_eq];lia,out.toList,_,ci a1,by rw[Array.toArray_toList];exact ho3⟩)
 exact⟨.ref h'.objs.size,_,L,rfl,q _ (I1.hok.fresh (Nat.le_refl _))⟩
variable{e:Expr}{p p2 pos pos2:Pos}{te:TE}{f:Dv->Option D}
def EE(X:Cx)(te:TE):TE:=λσ H Q=>te σ H λv H1=>∃(a:Addr) (l:List Int),[v]=[V.ref a]/\(SqL X.K H1 a (l.map V.int)\/SqT X.K H1 a (l.map V.int))/\l.length<64/\∀b,H1 b=none->Q (.ref b) (upd H1 b (.lst ((aR (fE l)).map V.int)))
theorem eF:∀{l:List Int} {us:List Value},Vals (l.map V.int) us->IntsAre us l
 |[],[],.nil=>.nil
 |n::l,u::us,.cons h r=>by
  obtain⟨t,rfl⟩:=h;exact .cons n t (eF r)
theorem Ai(hc:X.calm=true)(hg:Gl X "sorted")(hm:X.mg "sorted" = none)(hg':Gl X "set")(hm':X.mg "set" = none)(ha:PE X e te)
  (he:starEach [.Call (.Name "set" p2) [e] [] pos2] X.env=(false,eval (.Call (.Name "set" p2) [e] [] pos2) X.env)::starEach [] X.env:=by rfl)
  (he2:starEach [e] X.env=(false,eval e X.env)::starEach [] X.env:=by rfl) (hpl:(backTo pos (starEach [] X.env)).any (·.1)=false:=by rfl) (hpl2:(backTo pos2 (starEach [] X.env)).any (·.1)=false:=by rfl):
  PE X (.Call (.Name "sorted" p) [.Call (.Name "set" p2) [e] [] pos2] [] pos) (EE X te):=by
 intro pins s σ H Q I h;refine wpAny_Call_Name_kw (gH I hg hm (u:=.builtin "sorted") (by decide+kernel) ?_ (by decide) (by decide));refine PyProof.Rows.callWith_builtin1 ?_ he hpl;rw[he];show wpAny _ _ (spliced ((false,eval _ X.env)::backTo pos (starEach [] X.env))) _ _ s;refine Calls.spliced_cons ?_;refine wpAny_Call_Name_kw (gH I hg' hm' (u:=.type "set") (by decide+kernel) ?_ (by decide) (by decide));refine PyProof.Rows.callWith_type1 (bu (cV ha fG he2 pos2 pins s σ H (λxs H1=>∃(a:Addr) (l:List Int),xs=[V.ref a]/\(SqL X.K H1 a (l.map V.int)\/SqT X.K H1 a (l.map V.int))/\l.length<64/\∀b,H1 b=none->Q (.ref b) (upd H1 b (.lst ((aR (fE l)).map V.int)))) I (by exact h)) λus s1 ⟨vs,H1,I1,r1,q1⟩=>?_) he2 hpl2
 obtain⟨a,l,e1,hsq,h64,q⟩:=q1;subst e1;obtain⟨u,rfl,rx⟩:=jv r1;cases rx;obtain⟨its,iv,hl,hz⟩:∃its:List Value,IntsAre its l/\(s1.heap.IsList a its.toArray\/s1.heap.IsTuple a its.toArray)/\its.length=l.length:=by
  rcases hsq with hsq|hsq
  .obtain⟨its,r,⟨o,n,e1,e2,e3,e4⟩,z⟩:=I1.list hsq
   exact⟨its,eF r,.inl ⟨o,e1,e2,n,e4⟩,by rw[<-r.length,List.length_map]⟩
  .obtain⟨its,r,⟨o,e1,e2,n,e3⟩,z⟩:=I1.tuple hsq
   exact⟨its,eF r,.inr ⟨o,e1,e2,n,e3⟩,by rw[<-r.length,List.length_map]⟩
 refine md (I1.ok.hd hc) hl (by simpa using iv) (by rw[List.size_toArray,hz];unfold scanBound;lia) λh' tk hS kp=>?_
 refine Calls.spliced_nil ?_;have sl:(fE l).length<=l.length:=by
  have:=ki l [];simpa[fE]using this
 exact rE hc (I1.kept kp) hS (by lia) λb hb=>q b hb
theorem fP{K:Fg}{Z:Hp}:∀{vs:List V} {ds:List D} {l:List Int},Reps K Z vs ds->sr ds=some l->vs=l.map V.int
 |_,_,_,.nil,h=>by cases h;rfl
 |_,.int i::ds,l,.cons r rs,h=>by
  obtain⟨l',e,h⟩:=bind_some h;cases h;rw[r.int_eq,fP rs e];rfl
 |_,.none::ds,l,.cons r rs,h=>by cases h
 |_,.bool _::ds,l,.cons r rs,h=>by cases h
 |_,.str _::ds,l,.cons r rs,h=>by cases h
 |_,.list _::ds,l,.cons r rs,h=>by cases h
 |_,.tuple _::ds,l,.cons r rs,h=>by cases h
 |_,.dict _::ds,l,.cons r rs,h=>by cases h
theorem AO(hg:Gl X "sorted")(hm:X.mg "sorted" = none)(hg':Gl X "set")(hm':X.mg "set" = none)(ha:EV X e f)(hc:X.calm=true:=by rfl)
  (he:starEach [.Call (.Name "set" p2) [e] [] pos2] X.env=(false,eval (.Call (.Name "set" p2) [e] [] pos2) X.env)::starEach [] X.env:=by rfl)
  (he2:starEach [e] X.env=(false,eval e X.env)::starEach [] X.env:=by rfl) (hpl:(backTo pos (starEach [] X.env)).any (·.1)=false:=by rfl) (hpl2:(backTo pos2 (starEach [] X.env)).any (·.1)=false:=by rfl):
  EV X (.Call (.Name "sorted" p) [.Call (.Name "set" p2) [e] [] pos2] [] pos) (o1 f fC):=
 PE.imp (Ai hc hg hm hg' hm' ha he he2 hpl hpl2) λσ H Q h=>by
  obtain⟨H₀,Z₀,Z,δ,d,hh,e,k⟩:=h;obtain⟨d1,e1,e⟩:=bind_some e;refine⟨H₀,Z₀,Z,δ,d1,hh,e1,λv Z1 H1 hh1 t1 r1=>?_⟩
  unfold fC at e;obtain⟨ds,e2,e⟩:=bind_some e;obtain⟨l,e3,e⟩:=bind_some e;obtain⟨h64,e⟩:=bT e;cases e;have key:∀b,H1 b=none->Q (.ref b) (upd H1 b (.lst ((aR (fE l)).map V.int))):=λb hb=>by
   have n:=New.add hh1.zh hb (.lst ((aR (fE l)).map V.int));exact k _ _ _ (hh1.new n) (t1.trans n.z) (.lst (SqL.of aC) (Reps.ints _))
  cases r1 with
  |lst sq rs=>
   cases e2;have:=fP rs e3;subst this;exact⟨_,l,rfl,.inl (SqL.same sq hh1.zh),h64,key⟩
  |tup sq rs=>
   cases e2;have:=fP rs e3;subst this;exact⟨_,l,rfl,.inr (SqT.same sq hh1.zh),h64,key⟩
  |_=>cases e2
end
noncomputable def ke(N:List Str)(d0:D)(es:List (ar×D))(as:List D):Dv:=(aV N (d0 :: .none::as)).set 1 (.od es)
noncomputable def nR(N:List Str)(n:Nat)(b:Sf):D->List (ar×D)->List D->Option (D×List (ar×D)):=λd0 es as=>if as.length+2=n then(b (ke N d0 es as)).bind λr=>match r with
  | (.rt d,δ)=>(zm δ[1]?).bind λes'=>some (d,es')
  |_=>none
 else none
noncomputable def e9(t i:Nat)(f0:Dv->Option D)(fs:Dv->Option (List D))(g:D->List (ar×D)->List D->Option (D×List (ar×D))):Sf:=λδ=>(f0 δ).bind λd0=>(zm δ[i]?).bind λes=>(fs δ).bind λas=>(g d0 es as).bind λr=>some (.nx,(δ.set i (.od r.2)).set t (.fz r.1))
def Gw(K:Fg)(g:D->List (ar×D)->List D->Option (D×List (ar×D))):Sp:=λvs H Q _=>∃Z a v0 ws kvs d0 es as r,vs=v0 :: .ref a::ws/\Same Z H/\Z a=none/\H a=some (.dK kvs)/\gj K Z kvs es/\Rep K Z v0 d0/\Reps K Z ws as/\g d0 es as=some r/\
 ∀v Z' H' kvs',New Z (fM a H) Z' (fM a H')->H' a=some (.dK kvs')->gj K Z' kvs' r.2->Rep K Z' v r.1->Q v H'
def Ix(K:Fg)(a:Addr)(f:Sf):TS:=λD σ H=>∃H₀ Z₀ Z δ r,Hold K H₀ Z₀ Z δ σ H/\ σ[1]? = some (some (.ref a))/\f δ = some r/\∀ σ' H' Z',Hold K H₀ Z₀ Z' r.2 σ' H' -> σ'[1]? = some (some (.ref a))->Same Z Z'->r.1.to K Z' D σ' H'
def Eo(X:Cx)(st:Stmt)(f:Sf):Prop:=∀a,PS X st (Ix X.K a f)
def Eb(X:Cx)(sts:List Stmt)(f:Sf):Prop:=∀a,PSs X sts (Ix X.K a f)
section
variable{X:Cx}{e b c:Expr}{st:Stmt}{sts body orelse:List Stmt}{s1 s2:Sf}{f fk fv:Dv->Option D}{ft:Dv->Option Bool}{p pos tpos:Pos}
theorem nE(i:Nat){x:Str}{pos':Pos}(hN:X.N.Nodup)(he:EV X e f)(h0:i≠1)(hi:X.N[i]? = some x:=by rfl)(hx:qY X.env.scope x:=by first|exact Or.inl rfl|exact Or.inr rfl)(hs:swapsWith e (some (.Name x pos')) pos.line X.env=pure false:=by rfl)
  (hf:X.fn x=true\/X.env.scope.names.lookup x=some .local:=by first|exact .inl rfl|exact .inr rfl|assumption):Eo X (.Assign [.Name x pos'] e pos) (aE i f):=λa=>
 PS.imp (gE hN hi hx he hs hf) λD σ H h=>by
  obtain⟨H₀,Z₀,Z,δ,r,hh,ha,e,k⟩:=h;obtain⟨x,e1,e⟩:=bind_some e;cases e;exact⟨H₀,Z₀,Z,δ,x,hh,e1,λv Z1 H1 hh1 s1 r1=>k _ H1 Z1 (hh1.set r1) (by rw[List.getElem?_set_ne h0];exact ha) s1⟩
theorem wP{x:Str}(hu:X.A.units+1<cLine)(hb:EV X b fk)(hv':EV X e fv)(hN:X.N[1]? = some x:=by rfl)(hv:vg X.env.scope x:=by first|exact Or.inl rfl|exact Or.inr (Or.inl rfl)|exact Or.inr (Or.inr rfl))(hd:(x==("__debug__":Str))=false:=by decide)(hcd:(x==("__classdict__":Str))=false:=by decide)
  (hs:swapsWith e (some (.Subscript (.Name x p) b tpos)) pos.line X.env=pure false:=by rfl):Eo X (.Assign [.Subscript (.Name x p) b tpos] e pos) (dg 1 fk fv):=λa0=>
 PS.imp (tY hu (cO hN hv hd hcd) hb hv' hs) λD σ H h=>by
  obtain⟨H₀,Z₀,Z,δ,r,hh,ha0,e,k⟩:=h;obtain⟨v,e1,e⟩:=bind_some e;obtain⟨es,e2,e⟩:=bind_some e;obtain⟨y,e3,e⟩:=bind_some e;obtain⟨ky,e4,e⟩:=bind_some e;obtain⟨hl,e5⟩:=bT e;cases e5;refine⟨H₀,Z₀,Z,δ,v,hh,e1,λw Z1 H1 hh1 t1 r1=>?_⟩
  obtain⟨a,kvs,h1,h4,h5⟩:=kA hh1 e2;refine⟨_,h1,H₀,Z₀,Z1,δ,y,hh1,e3,λu Z2 H2 hh2 t2 r2=>?_⟩
  obtain⟨a',kvs',g1,g4,g5⟩:=kA hh2 e2;rw[h1]at g1;cases g1;obtain rfl:=fO r2 e4;exact⟨a,_,rfl,DPut.k g4 (by rw[ej g5];exact hl),k σ _ Z2 (hh2.chgW (gC e2) h1 (.dct (km g5 ky (r1.same t2)))) ha0 (t1.trans t2)⟩
theorem u7:Eb X [] kj:=λa=>PSs.imp tW λD σ H h=>by
 obtain⟨H₀,Z₀,Z,δ,r,hh,ha,e,k⟩:=h;cases e;exact k σ H Z hh ha (Same.refl _)
theorem oR(h1:Eo X st s1):Eb X [st] s1:=λa=>tU (h1 a)
theorem iS(h1:Eo X st s1)(h2:Eb X sts s2):Eb X (st::sts) (aB s1 s2):=λa=>
 PSs.imp (pP (h1 a) (h2 a)) λD σ H h=>by
  obtain⟨H₀,Z₀,Z,δ,r,hh,ha,e,k⟩:=h;obtain⟨⟨fl,δ'⟩,e1,e⟩:=bind_some e;refine⟨H₀,Z₀,Z,δ,(fl,δ'),hh,ha,e1,λσ' H' Z' hh' ha' s'=>?_⟩
  cases fl with
  |nx=>exact⟨H₀,Z₀,Z',δ',r,hh',ha',e,λσ2 H2 Z2 hh2 ha2 s2=>by
    have:=k σ2 H2 Z2 hh2 ha2 (s'.trans s2);obtain⟨fl,δ2⟩:=r;cases fl<;>exact this⟩
  |bk=>cases e;exact k σ' H' Z' hh' ha' s'
  |ct=>cases e;exact k σ' H' Z' hh' ha' s'
  |rt d=>cases e;exact k σ' H' Z' hh' ha' s'
theorem wO(hc:TV X c ft)(ha:Eb X body s1)(hb:Eb X orelse s2):Eo X (.If c body orelse pos) (fm ft s1 s2):=λa=>
 PS.imp (Bu hc (ha a) (hb a)) λD σ H h=>by
  obtain⟨H₀,Z₀,Z,δ,r,hh,h0,e,k⟩:=h;obtain⟨x,e1,e⟩:=bind_some e;refine⟨H₀,Z₀,Z,δ,x,hh,e1,λZ1 H1 hh1 t1=>?_⟩
  cases x with
  |true=>exact⟨H₀,Z₀,Z1,δ,r,hh1,h0,e,λσ2 H2 Z2 hh2 h2 t2=>k σ2 H2 Z2 hh2 h2 (t1.trans t2)⟩
  |false=>exact⟨H₀,Z₀,Z1,δ,r,hh1,h0,e,λσ2 H2 Z2 hh2 h2 t2=>k σ2 H2 Z2 hh2 h2 (t1.trans t2)⟩
end
section
variable{X:Cx}{e:Expr}{f:Dv->Option D}{pos:Pos}
theorem zG(he:EV X e f):Eo X (.Return (some e) pos) (bA f):=λa=>
 PS.imp (xp he) λD σ H h=>by
  obtain⟨H₀,Z₀,Z,δ,r,hh,ha,e,k⟩:=h;obtain⟨x,e1,e⟩:=bind_some e;cases e;exact⟨H₀,Z₀,Z,δ,x,hh,e1,λv Z1 H1 hh1 s1 r1=>k σ H1 Z1 hh1 ha s1 v r1⟩
end
section
variable{P:Program}{w:World}{K:PySem.W.Frag}{mg:Str->Option Value}{base:Heap}
theorem FY{x qual:Str}{st:Stmt}{f:Addr}{fd:FuncData}{dV:Value}{N ps:List Str}{k:Nat}{b:Sf}(F:FunV K x qual st f fd dV)(S:FnScope N ps (ap st))
  (hb:∀(cdv:Value) (A:Around) (outer:List Env) (s:Shared) (H:Hp) (E:XK),Room k (A.deeper (envOfC qual (ap st) s.heap.objs.size f cdv))->Eb (lq dM P w K mg base N qual (ap st) f cdv A outer s H E).nox (ca st) b):
  FnOk P w K mg base dM (k+1) f fd ps (Gw K (nR N ps.length b)):=by
 obtain⟨oc,od,kV,doc,pm,an,cdv,ct,osl,rfl,lk,hcd⟩:=F.ex;have hlen:∀d0 es as r,nR N ps.length b d0 es as=some r->as.length+2=ps.length:=λd0 es as r h=>by
  unfold nR at h;split at h
  .assumption
  .cases h
 refine yF lk hcd S (λvs H Q E h=>?_) λA outer s H vs Q E hr hsp=>?_
 .obtain⟨Z,a,v0,ws,kvs,d0,es,as,r,rfl,zh,za,ha,r1,r0,r2,e,_⟩:=h
  have:=hlen d0 es as r e;have:=r2.length;simp only[List.length_cons]
  lia
 .obtain⟨Z,a,v0,ws,kvs,d0,es,as,r,rfl,zh,za,ha,r1,r0,r2,e,kk⟩:=hsp
  refine⟨_,PSs.nox (hb cdv A outer s H E hr a),?_⟩;have h1:=eU (K:=K) (N:=N) (H:=fM a H) (mM zh za) (.cons r0 (.cons (.non:Rep K Z .non .none) r2));have h2:=h1.setW (i:=1) (p:=a) iD (.dct r1);rw[ya ha]at h2;have es0:(dj N (v0 :: .non::ws)).set 1 (some (.ref a))=dj N (v0 :: .ref a::ws):=by simp[L2.dj]
  rw[es0]at h2;unfold nR at e;split at e
  rotate_left
  .cases e
  obtain⟨⟨fl,δ'⟩,e2,e⟩:=bind_some e;cases fl with
  |rt d=>
   obtain⟨es',e3,e⟩:=bind_some e;cases e;refine⟨fM a H,Z,Z,_,_,h2,by simp[L2.dj],e2,λσ' H' Z' h' a' s' v rv=>?_⟩
   obtain⟨a2,kvs',g1,g2,g3,g4,g5⟩:=h'.od 1 es' (gC e3);rw[a']at g1;cases g1;refine kk v Z' H' kvs' ⟨s',λb o q=>?_,mM h'.zh g3,h'.zb,h'.nf⟩ g4 g5 rv
   have hb':b≠a:=λz=>by rw[z,iD]at q;cases q
   rw[dS hb'];exact h'.h0 b o q
  |nx=>cases e
  |bk=>cases e
  |ct=>cases e
structure CalMV (P:Program) (w:World) (K:PySem.W.Frag) (mg:Str->Option Value) (base:Heap) (x:Str) (k:Nat) (g:D->List (ar×D)->List D->Option (D×List (ar×D))):Prop where
 ex:∃(fa:Addr) (fd:FuncData) (ps:List Str),FnOk P w K mg base dM k fa fd ps (Gw K g)/\mg x=some (.ref fa)/\PySem.W.keepIn K (.ref fa)=true/\Binds K fd ps []
end
section
variable{P:Program}{w:World}{K:PySem.W.Frag}{mg:Str->Option Value}{base h:Heap}{x y:Str}{st:Stmt}{k:Nat}{ps:List Str}
theorem DefIn.calMV(D:DefIn K x y st)(X:K.In h)(G:h.Ns mainGlobals mg)(b:bb y st ps){g:VL.D->List (ar×VL.D)->List VL.D->Option (VL.D×List (ar×VL.D))}(ok:∀f fd,FunV K y y st f fd .none->FnOk P w K mg base dM k f fd ps (Gw K g)):CalMV P w K mg base x k g:=by
 obtain⟨f,fd,a,F,hk⟩:=D;exact⟨⟨_,_,_,ok f fd F,PySem.W.mg_of X G a,hk,F.binds b⟩⟩
end
section
variable{X:Cx}{e0:Expr}{es:List Expr}{f0:Dv->Option D}{fs:Dv->Option (List D)}{p p2 pos cpos:Pos}
theorem hJ(t i:Nat){k:Nat}{y x fx:Str}{pos':Pos}{g:D->List (ar×D)->List D->Option (D×List (ar×D))}(C:CalMV X.prog X.w X.K X.mg X.base fx k g)(hr:Room k X.A)(hg:Gl X fx)(hti:t≠i)(hN:X.N.Nodup)(h0:EV X e0 f0)(ha:AV X es fs)(hi:X.N[i]? = some x:=by rfl)
  (hv:vg X.env.scope x:=by first|exact Or.inl rfl|exact Or.inr (Or.inl rfl)|exact Or.inr (Or.inr rfl)) (hd:(x==("__debug__":Str))=false:=by decide) (hcd:(x==("__classdict__":Str))=false:=by decide) (hdb:(fx==("__debug__":Str))=false:=by decide)
  (hy:X.N[t]? = some y:=by rfl) (hx:qY X.env.scope y:=by first|exact Or.inl rfl|exact Or.inr rfl)
  (he:starEach (e0 :: .Name x p2::es) X.env=(false,eval e0 X.env)::starEach (.Name x p2::es) X.env:=by rfl) (he2:starEach (.Name x p2::es) X.env=(false,eval (.Name x p2) X.env)::starEach es X.env:=by rfl) (hpl:(backTo cpos (starEach (.Name x p2::es) X.env)).any (·.1)=false:=by rfl)
  (hs:swapsWith (.Call (.Name fx p) (e0 :: .Name x p2::es) [] cpos) (some (.Name y pos')) pos.line X.env=pure false:=by rfl) (hf:X.fn y=true\/X.env.scope.names.lookup y=some .local:=by first|exact .inl rfl|exact .inr rfl|assumption):
  SV X (.Assign [.Name y pos'] (.Call (.Name fx p) (e0 :: .Name x p2::es) [] cpos) pos) (e9 t i f0 fs g):=by
 obtain⟨fa,fd,ps,F,hm,hk,hb⟩:=C.ex;refine PS.imp (gE hN hy hx (ua F hr hg hm hk hb .nil ub (cV h0 (cV (cO hi hv hd hcd) ha he2) he) hdb he hpl) hs hf) λD σ H h=>?_
 obtain⟨H₀,Z₀,Z,δ,r,hh,e,kk⟩:=h;obtain⟨d0,e0',e⟩:=bind_some e;obtain⟨es0,e1,e⟩:=bind_some e;obtain⟨as,e2,e⟩:=bind_some e;obtain⟨r',e3,e⟩:=bind_some e;cases e;obtain⟨a,kvs,h1,h2,h3,h4,h5⟩:=hh.od i es0 (gC e1);refine⟨H₀,Z₀,Z,δ,d0,hh,e0',λv0 Z1 H1 hh1 t1 r1=>⟨.ref a,h1,H₀,Z₀,Z1,δ,as,hh1,e2,λvs Z2 H2 hh2 t2 r2=>?_⟩⟩
 obtain⟨a',kvs1,g1,g2,g3,g4,g5⟩:=hh2.od i es0 (gC e1);rw[h1]at g1;cases g1;refine⟨Z2,a,v0,vs,kvs1,d0,es0,as,r',by simp,hh2.zh,g3,g4,g5,r1.same t2,r2,e3,λv Z' H' kvs' n f4 f5 f6=>?_⟩
 have m:=hh2.mod (gC e1) h1 g2 n f4 f5;exact kk _ H' Z' (m.set f6) ((t1.trans t2).trans n.z)
end
noncomputable def n9(i:Nat)(ft:Dv->Option Bool):Dv->Option Bool:=λδ=>(sI i δ).bind ft
theorem wH{X:Cx}{e:Expr}{ft:Dv->Option Bool}(i:Nat)(h:TV X e ft):TV X e (n9 i ft):=
 PT.imp h λσ H Q h=>by
  obtain⟨H₀,Z₀,Z,δ,b,hh,e,k⟩:=h;obtain⟨δ',e0,e⟩:=bind_some e;unfold sI at e0;split at e0
  rotate_left
  .cases e0
  rename_i ds q;cases e0;obtain⟨a,xs,h1,h2,h3,h4,h5⟩:=hh.ow i _ q;have hl:i<(δ.map t7).length:=by rw[List.length_map];exact(List.getElem?_eq_some_iff.mp q).1
  have sz:Same Z (upd Z a (.lst xs)):=cA h3;have at':∀{j:Nat} {s:Sl},((δ.map t7).set i (.fz (.list ds)))[j]? = some s->(i=j/\s=.fz (.list ds))\/(i≠j/\∃t,δ[j]? = some t/\t7 t=s):=λ{j s} z=>by
   by_cases hj:i=j
   .subst hj
    rw[List.getElem?_set_self hl]at z;exact .inl ⟨rfl,(Option.some.inj z).symm⟩
   .rw[List.getElem?_set_ne hj]at z
    exact .inr ⟨hj,Cz z⟩
  have hh1:Hold X.K H (upd Z a (.lst xs)) (upd Z a (.lst xs)) ((δ.map t7).set i (.fz (.list ds))) σ H:=by
   refine⟨λc o z=>?_,Same.refl _,Same.refl _,λ_ _=>rfl,by simp[hh.len],λj d z=>?_,λj d z=>?_,λj k d1 d2 c _ z=>?_,λj d z=>?_,NoF.refl _⟩
   .by_cases hc:c=a
    .subst hc;rw[aC]at z;cases z;exact h4
    .rw[az hc]at z;exact hh.zh c o z
   .rcases at' z with⟨hij,w⟩|⟨hj,t,z1,z2⟩
    .cases w
     subst hij;exact⟨.ref a,h1,.lst (SqL.of aC) (h5.same sz)⟩
    .rw[CA z2]at z1
     obtain⟨v,g1,g2⟩:=hh.fz j d z1;exact⟨v,g1,g2.same sz⟩
   .rcases at' z with⟨_,w⟩|⟨_,t,_,z2⟩
    .cases w
    .exact(tZ z2).elim
   .rcases at' z with⟨_,w⟩|⟨_,t,_,z2⟩
    .cases w
    .exact(tZ z2).elim
   .rcases at' z with⟨_,w⟩|⟨_,t,_,z2⟩
    .cases w
    .exact(CB z2).elim
  refine⟨H,_,_,_,b,hh1,e,λZ2 H2 hh2 t2=>?_⟩
  have oldZ:∀c,H c≠none->c≠a->fM a Z2 c=Z c:=λc hc ha=>by
   rw[dS ha,hh2.zb c hc,az ha]
  have zl:Same Z (fM a Z2):=λc o z=>by
   have ha:c≠a:=aL z h3;rw[oldZ c (by rw[hh.zh c o z];intro w;cases w) ha];exact z
  have z2l:Same (fM a Z2) Z2:=qk;refine k (fM a Z2) H2 ⟨z2l.trans hh2.zh,hh.h0.trans hh2.h0,hh.z0.trans zl,λc hc=>?_,hh.len,λj d z=>?_,λj d z=>?_,hh.dja,hh.fr.same zl,λc o xs z=>?_⟩ zl
  .have ha:c≠a:=λz=>hc (by rw[z];exact h2)
   rw[oldZ c (by
    cases e:H₀ c with
    |none=>exact absurd e hc
    |some o=>rw[hh.h0 c o e];intro w;cases w) ha]
   exact hh.zb c hc
  .obtain⟨v,g1,g2⟩:=hh.fz j d z
   exact⟨v,g1,g2.same zl⟩
  .obtain⟨c,o,g1,g2,g3,g4,g5⟩:=hh.own j d z
   refine⟨c,o,g1,g2,?_,hh2.h0 c o g4,g5.same zl⟩;by_cases ha:c=a
   .subst ha;exact iD
   .rw[oldZ c (by rw[g4];intro w;cases w) ha];exact g3
  .have hz:=z2l c _ z
   have ha:c≠a:=λw=>by rw[w,iD]at z;cases z
   have:=hh2.nf c o xs hz;rw[az ha]at this;exact hh.nf c o xs this
end VL
namespace VL
open PySem PySem.Spec PyProof.Rows
noncomputable def cF:Bool->Keyed->Array Keyed->Nat->Nat->Nat->StateT SortSt Sem (Option Nat):=sortPriv% PySem.Builtin.gallop
noncomputable def b7:Nat->StateT SortSt Sem Unit:=sortPriv% PySem.Builtin.setMinGallop
noncomputable def kC:Array Keyed->Array Keyed->StateT SortSt Sem (Array Keyed):=sortPriv% PySem.Builtin.mergeLo
noncomputable def kD:Array Keyed->Array Keyed->StateT SortSt Sem (Array Keyed):=sortPriv% PySem.Builtin.mergeHi
noncomputable def eX(left:Bool)(key:Keyed)(arr:Array Keyed)(base i:Nat):StateT SortSt Sem (Option Bool):=do
 let x <-elem' arr (base+i)
 if left then lt' x key else return (<-lt' key x).map (!·)
theorem sB(left:Bool)(key:Keyed)(arr:Array Keyed)(base n hint:Nat):cF left key arr base n hint=(do
 let mut lastofs:=0
 let mut ofs:=1
 let mut lo:=0
 let mut hi:=0
 let some right <-eX left key arr base hint|return none
 if right then
  let maxofs:=n-hint
  for _ in [0:n] do
   if ofs>=maxofs then break
   let some more <-eX left key arr base (hint+ofs)|return none
   if !more then break
   lastofs:=ofs
   ofs:=2*ofs+1
  lo:=hint+lastofs+1
  hi:=hint+min ofs maxofs
 else
  let maxofs:=hint+1
  for _ in [0:n] do
   if ofs>=maxofs then break
   let some found <-eX left key arr base (hint-ofs)|return none
   if found then break
   lastofs:=ofs
   ofs:=2*ofs+1
  lo:=hint+1-min ofs maxofs
  hi:=hint-lastofs
 for _ in [0:n] do
  if lo>=hi then break
  let m:=lo+(hi-lo)/2
  let some more <-eX left key arr base m|return none
  if more then lo:=m+1 else hi:=m
 return some hi):=rfl
section
variable{M:Model}{A:Around}{E:Value->Shared->Prop}{s:Shared}{st:SortSt}
theorem jE{left:Bool}{key:Keyed}{arr:Array Keyed}{base n:Nat}{B:Nat->Bool}{lo hi:Nat}{Q:Option (Option Nat)×Nat×Nat->SortSt->Prop}
  (hb:∀i,i<n->∀Q:Option Bool->SortSt->Prop,Q (some (B i)) st->wpS M A E s (eX left key arr base i) Q st) (mono:∀i j,i<=j->j<n->B j=true->B i=true)
  (h1:lo<=hi) (h2:hi<=n) (hlo:∀i,i<lo->B i=true) (hhi:∀i,hi<=i->i<n->B i=false)
  (h:∀r,r<=n->(∀i,i<r->B i=true)->(∀i,r<=i->i<n->B i=false)->Q (none,r,r) st):
  wpS M A E s (forIn [0:n] ((none,lo,hi):Option (Option Nat)×Nat×Nat) λ_ c=>do
   if c.2.1>=c.2.2 then pure (ForInStep.done (none,c.2.1,c.2.2))else do
    let x <-eX left key arr base (c.2.1+(c.2.2-c.2.1)/2)
    match x with
    |some more=>if more=true then pure (ForInStep.yield (none,c.2.1+(c.2.2-c.2.1)/2+1,c.2.2))else pure (ForInStep.yield (none,c.2.1,c.2.1+(c.2.2-c.2.1)/2))
    |_=>pure (ForInStep.done (some none,c.2.1,c.2.2))) Q st:=by
 refine wpS_forRange (I:=λt c st'=>st'=st/\∃lo hi,c=(none,lo,hi)/\lo<=hi/\hi<=n/\hi-lo<=n-t/\(∀i,i<lo->B i=true)/\(∀i,hi<=i->i<n->B i=false)) ?step ?fin ⟨rfl,lo,hi,rfl,h1,h2,by lia,hlo,hhi⟩
 case fin=>
  rintro c st' ⟨rfl,lo,hi,rfl,a1,a2,a3,a4,a5⟩;have:lo=hi:=by lia
  subst this;exact h lo a2 a4 a5
 case step=>
  rintro t c st' _ ht ⟨rfl,lo,hi,rfl,a1,a2,a3,a4,a5⟩;dsimp only;by_cases q:lo>=hi
  .rw[if_pos q]
   have:lo=hi:=by lia
   subst this;exact wpS_pure (h lo a2 a4 a5)
  .rw[if_neg q]
   refine wpS_bind (hb _ (by lia) _ ?_);dsimp only;cases e:B (lo+(hi-lo)/2)with
   |true=>
    simp only[if_true];refine wpS_pure ⟨rfl,_,_,rfl,by lia,a2,by lia,λi hi'=>mono i _ (by lia) (by lia) e,a5⟩
   |false=>
    simp only[Bool.false_eq_true,if_false];refine wpS_pure ⟨rfl,_,_,rfl,by lia,by lia,by lia,a4,λi h3 h4=>?_⟩
    cases e2:B i with
    |false=>rfl
    |true=>rw[mono _ i h3 h4 e2]at e;cases e
theorem q8{left:Bool}{key:Keyed}{arr:Array Keyed}{base n hint:Nat}{B:Nat->Bool}{Q:Option Nat->SortSt->Prop}(hh:hint<n)
  (hb:∀i,i<n->∀Q:Option Bool->SortSt->Prop,Q (some (B i)) st->wpS M A E s (eX left key arr base i) Q st) (mono:∀i j,i<=j->j<n->B j=true->B i=true)
  (h:∀r,r<=n->(∀i,i<r->B i=true)->(∀i,r<=i->i<n->B i=false)->Q (some r) st):
  wpS M A E s (cF left key arr base n hint) Q st:=by
 rw[sB];refine wpS_bind (hb hint hh _ ?_);dsimp only;cases e:B hint with
 |true=>
  simp only[if_true];refine wpS_bind (wpS_mono (wpS_forRange (I:=λt c st'=>st'=st/\∃last ofs,c=(none,last,ofs)/\last<ofs/\t+1<=ofs/\hint+last<n/\B (hint+last)=true)
   (Q:=λc st'=>st'=st/\∃last ofs,c=(none,last,ofs)/\last<ofs/\hint+last<n/\B (hint+last)=true/\(n-hint<=ofs\/B (hint+ofs)=false)) ?step ?fin ⟨rfl,0,1,rfl,by lia,by lia,by lia,by simpa using e⟩) ?post)
  case fin=>
   rintro c st' ⟨rfl,last,ofs,rfl,a1,a2,a3,a4⟩;exact⟨rfl,last,ofs,rfl,a1,a3,a4,.inl (by lia)⟩
  case step=>
   rintro t c st' _ ht ⟨rfl,last,ofs,rfl,a1,a2,a3,a4⟩;dsimp only;by_cases q:ofs>=n-hint
   .rw[if_pos q]
    exact wpS_pure ⟨rfl,last,ofs,rfl,a1,a3,a4,.inl q⟩
   .rw[if_neg q]
    refine wpS_bind (hb _ (by lia) _ ?_);dsimp only;cases e2:B (hint+ofs)with
    |false=>
     simp only[Bool.not_false,if_true];exact wpS_pure ⟨rfl,last,ofs,rfl,a1,a3,a4,.inr e2⟩
    |true=>
     simp only[Bool.not_true,Bool.false_eq_true,if_false];exact wpS_pure ⟨rfl,ofs,2*ofs+1,rfl,by lia,by lia,by lia,e2⟩
  case post=>
   rintro c st' ⟨rfl,last,ofs,rfl,a1,a3,a4,a5⟩;dsimp only;refine wpS_bind (jE (lo:=hint+last+1) (hi:=hint+min ofs (n-hint)) hb mono (by lia) (by lia) (λi hi=>mono i _ (by lia) a3 a4) (λi h3 h4=>?_) λr r1 r2 r3=>?_)
   .rcases a5 with a5|a5
    .lia
    .cases e2:B i with
     |false=>rfl
     |true=>rw[mono _ i (by lia) h4 e2]at a5;cases a5
   .exact wpS_pure (h r r1 r2 r3)
 |false=>
  simp only[Bool.false_eq_true,if_false];refine wpS_bind (wpS_mono (wpS_forRange (I:=λt c st'=>st'=st/\∃last ofs,c=(none,last,ofs)/\last<ofs/\t+1<=ofs/\last<=hint/\B (hint-last)=false)
   (Q:=λc st'=>st'=st/\∃last ofs,c=(none,last,ofs)/\last<ofs/\last<=hint/\B (hint-last)=false/\(hint+1<=ofs\/B (hint-ofs)=true)) ?step ?fin ⟨rfl,0,1,rfl,by lia,by lia,by lia,by simpa using e⟩) ?post)
  case fin=>
   rintro c st' ⟨rfl,last,ofs,rfl,a1,a2,a3,a4⟩;exact⟨rfl,last,ofs,rfl,a1,a3,a4,.inl (by lia)⟩
  case step=>
   rintro t c st' _ ht ⟨rfl,last,ofs,rfl,a1,a2,a3,a4⟩;dsimp only;by_cases q:ofs>=hint+1
   .rw[if_pos q]
    exact wpS_pure ⟨rfl,last,ofs,rfl,a1,a3,a4,.inl q⟩
   .rw[if_neg q]
    refine wpS_bind (hb _ (by lia) _ ?_);dsimp only;cases e2:B (hint-ofs)with
    |true=>
     simp only[if_true];exact wpS_pure ⟨rfl,last,ofs,rfl,a1,a3,a4,.inr e2⟩
    |false=>
     simp only[Bool.false_eq_true,if_false];exact wpS_pure ⟨rfl,ofs,2*ofs+1,rfl,by lia,by lia,by lia,e2⟩
  case post=>
   rintro c st' ⟨rfl,last,ofs,rfl,a1,a3,a4,a5⟩;dsimp only;refine wpS_bind (jE (lo:=hint+1-min ofs (hint+1)) (hi:=hint-last) hb mono (by lia) (by lia) (λi hi=>?_) (λi h3 h4=>?_) λr r1 r2 r3=>?_)
   .rcases a5 with a5|a5
    .lia
    .exact mono i _ (by lia) (by lia) a5
   .cases e2:B i with
    |false=>rfl
    |true=>rw[mono _ i (by lia) h4 e2]at a4;cases a4
   .exact wpS_pure (h r r1 r2 r3)
end
section
variable{κ:Keyed->Int}{all out l ra rb:List Keyed}{m:Keyed}
def Asc(κ:Keyed->Int)(l:List Keyed):Prop:=l.Pairwise λx y=>κ x<= κ y
theorem Asc.app(h1:Asc κ l)(h2:Asc κ ra)(h:∀x∈l,∀y∈ra,κ x<= κ y):Asc κ (l++ra):=List.pairwise_append.mpr ⟨h1,h2,h⟩
theorem Asc.left(h:Asc κ (l++ra)):Asc κ l:=(List.pairwise_append.mp h).1
theorem Asc.right(h:Asc κ (l++ra)):Asc κ ra:=(List.pairwise_append.mp h).2.1
theorem Asc.mid(h:Asc κ (l++ra)):∀x∈l,∀y∈ra,κ x<= κ y:=(List.pairwise_append.mp h).2.2
structure LI (κ:Keyed->Int) (all out ra rb:List Keyed):Prop where
 pm:(out++(ra++rb)).Perm all
 so:Asc κ out
 le:∀x∈out,∀y∈ra++rb,κ x<= κ y
 sa:Asc κ ra
 sb:Asc κ rb
theorem LI.mvA(h:LI κ all out (l++ra) rb)(q:∀x∈l,∀y∈rb,κ x<= κ y):LI κ all (out++l) ra rb where
 pm:=by
  have:=h.pm;simpa[List.append_assoc]using this
 so:=h.so.app h.sa.left λx hx y hy=>h.le x hx y (by simp[hy])
 le x hx y hy:=by
  rcases List.mem_append.mp hx with hx|hx
  .exact h.le x hx y (by simp at hy ⊢;rcases hy with hy|hy<;>simp[hy])
  .rcases List.mem_append.mp hy with hy|hy
   .exact h.sa.mid x hx y hy
   .exact q x hx y hy
 sa:=h.sa.right
 sb:=h.sb
theorem LI.swap(h:LI κ all out ra rb):LI κ all out rb ra where
 pm:=((List.Perm.refl out).append List.perm_append_comm).trans h.pm
 so:=h.so
 le x hx y hy:=h.le x hx y (by simp at hy ⊢;exact hy.symm)
 sa:=h.sb
 sb:=h.sa
theorem LI.mvB(h:LI κ all out ra (l++rb))(q:∀x∈l,∀y∈ra,κ x<= κ y):LI κ all (out++l) ra rb:=(h.swap.mvA q).swap
theorem LI.endA(h:LI κ all out ra []):(out++ra).Perm all/\Asc κ (out++ra):=⟨by simpa using h.pm,h.so.app h.sa λx hx y hy=>h.le x hx y (by simp[hy])⟩
theorem LI.endB(h:LI κ all out [] rb):(out++rb).Perm all/\Asc κ (out++rb):=h.swap.endA
theorem LI.last(h:LI κ all out [m] rb)(q:∀y∈rb,κ y<= κ m):(out++(rb++[m])).Perm all/\Asc κ (out++(rb++[m])):=
 ⟨h.swap.pm,h.so.app (h.sb.app (List.pairwise_singleton _ _) λx hx y hy=>by rw[List.mem_singleton.mp hy];exact q x hx) λx hx y hy=>h.le x hx y (by simp at hy ⊢;exact hy.symm)⟩
end
section
variable{M:Model}{A:Around}{E:Value->Shared->Prop}{s:Shared}{κ:Keyed->Int}{S:Keyed->Prop}{kd:SortKind}
def cu(M:Model)(A:Around)(E:Value->Shared->Prop)(s:Shared)(kd:SortKind)(κ:Keyed->Int)(S:Keyed->Prop):Prop:=
 ∀x y,S x->S y->∀(st:SortSt) (Q:Option Bool->SortSt->Prop),kindOf st=kd->Q (some (decide (κ x < κ y))) st->wpS M A E s (lt' x y) Q st
theorem aJ{arr:Array Keyed}{i:Nat}{x:Keyed}{st:SortSt}{Q:Keyed->SortSt->Prop}(h:arr[i]? = some x)(q:Q x st):wpS M A E s (elem' arr i) Q st:=by
 rw[elem'_eq,h];exact wpS_pure q
structure Stretch (κ:Keyed->Int) (S:Keyed->Prop) (arr:Array Keyed) (base n:Nat) (l:List Keyed):Prop where
 eq:(arr.toList.drop base).take n=l
 len:l.length=n
 all:∀x∈l,S x
 asc:Asc κ l
theorem Stretch.get{arr:Array Keyed}{base n:Nat}{l:List Keyed}(h:Stretch κ S arr base n l){i:Nat}(hi:i<l.length):arr[base+i]? = some l[i]:=by
 have e:((arr.toList.drop base).take n)[i]? = l[i]?:=by rw[h.eq]
 rw[List.getElem?_take_of_lt (by have:=h.len;lia),List.getElem?_drop,Array.getElem?_toList,List.getElem?_eq_getElem hi]at e;exact e
theorem zz(T:cu M A E s kd κ S){left:Bool}{key:Keyed}{arr:Array Keyed}{base i:Nat}{x:Keyed}{st:SortSt}{Q:Option Bool->SortSt->Prop}(hk:S key)(hx:arr[base+i]? = some x)(sx:S x)(ek:kindOf st=kd)
  (q:Q (some (if left=true then decide (κ x < κ key)else !decide (κ key < κ x))) st):wpS M A E s (eX left key arr base i) Q st:=by
 unfold eX;refine wpS_bind (aJ hx ?_);cases left with
 |true=>
  simp only[if_true]at q ⊢;exact T x key sx hk st _ ek q
 |false=>
  simp only[Bool.false_eq_true,if_false]at q ⊢;exact wpS_bind (T key x hk sx st _ ek (wpS_pure q))
theorem f9(T:cu M A E s kd κ S){left:Bool}{key:Keyed}{arr:Array Keyed}{base n hint:Nat}{l:List Keyed}{st:SortSt}{Q:Option Nat->SortSt->Prop}(hs:Stretch κ S arr base n l)(hk:S key)(ek:kindOf st=kd)(hh:hint<n)
  (h:∀l1 l2,l=l1++l2->(∀x∈l1,if left=true then κ x < κ key else κ x<= κ key)->(∀x∈l2,if left=true then κ key<= κ x else κ key < κ x)->Q (some l1.length) st):
  wpS M A E s (cF left key arr base n hint) Q st:=by
 have hl:=hs.len;refine q8 (B:=λi=>if left=true then decide (κ (l.getD i key) < κ key)else !decide (κ key < κ (l.getD i key))) hh (λi hi Q' q=>?_) (λi j hij hj e=>?_) λr hr r1 r2=>?_
 .have e:l.getD i key=l[i]:=by simp[hl,hi]
  rw[e]at q;exact zz T hk (hs.get (by lia)) (hs.all _ (List.getElem_mem _)) ek q
 .have e1:l.getD i key=l[i]'(by lia):=by simp[hl,show i<n by lia]
  have e2:l.getD j key=l[j]'(by lia):=by simp[hl,hj]
  have c:κ (l[i]'(by lia))<= κ (l[j]'(by lia)):=by
   rcases Nat.lt_or_ge i j with q|q
   .exact List.pairwise_iff_getElem.mp hs.asc i j (by lia) (by lia) q
   .have:i=j:=by lia
    subst this;exact Int.le_refl _
  rw[e1];rw[e2]at e;cases left with
  |true=>simp only[if_true,decide_eq_true_eq]at e ⊢;lia
  |false=>
   simp only[Bool.false_eq_true,if_false,Bool.not_eq_true',decide_eq_false_iff_not]at e ⊢
   lia
 .have:=h (l.take r) (l.drop r) (List.take_append_drop r l).symm (λx hx=>?_) (λx hx=>?_)
  .rw[List.length_take,hl,Nat.min_eq_left hr]at this;exact this
  .obtain⟨i,hi,rfl⟩:=List.mem_iff_getElem.mp hx
   rw[List.length_take]at hi;have q:=r1 i (by lia);have e:l.getD i key=l[i]'(by lia):=by simp[hl,show i<n by lia]
   rw[e]at q;rw[List.getElem_take];cases left with
   |true=>simpa using q
   |false=>simpa using q
  .obtain⟨i,hi,rfl⟩:=List.mem_iff_getElem.mp hx
   rw[List.length_drop]at hi;have q:=r2 (r+i) (by lia) (by lia);have e:l.getD (r+i) key=l[r+i]'(by lia):=by simp[hl,show r+i<n by lia]
   rw[e]at q;rw[List.getElem_drop];cases left with
   |true=>simpa using q
   |false=>simpa using q
end
theorem qf(a b:Array Keyed):kC a b=(do
 rule "list.sort.merge-lo"
 let mut out:Array Keyed:=#[<-elem' b 0]
 let mut ia:=0
 let mut ib:=1
 if ib==b.size then return out++a.extract ia a.size++b.extract ib b.size
 if ia+1==a.size then return out++b.extract ib b.size++a.extract ia a.size
 let mut minGallop:=gallopOf (<-get)
 for _ in [0:a.size+b.size] do
  let mut acount:=0
  let mut bcount:=0
  for _ in [0:a.size+b.size] do
   let some bWins <-lt' (<-elem' b ib) (<-elem' a ia)|return out++a.extract ia a.size++b.extract ib b.size
   if bWins then
    out:=out.push (<-elem' b ib);ib:=ib+1;bcount:=bcount+1;acount:=0
    if ib==b.size then return out++a.extract ia a.size++b.extract ib b.size
    if bcount>=minGallop then break
   else
    out:=out.push (<-elem' a ia);ia:=ia+1;acount:=acount+1;bcount:=0
    if ia+1==a.size then return out++b.extract ib b.size++a.extract ia a.size
    if acount>=minGallop then break
  rule "list.sort.gallop"
  minGallop:=minGallop+1
  for _ in [0:a.size+b.size] do
   if minGallop>1 then minGallop:=minGallop-1
   b7 minGallop
   let some k <-cF false (<-elem' b ib) a ia (a.size-ia) 0|return out++a.extract ia a.size++b.extract ib b.size
   acount:=k
   if k>0 then
    out:=out++a.extract ia (ia+k);ia:=ia+k
    if ia+1==a.size then return out++b.extract ib b.size++a.extract ia a.size
    if ia==a.size then return out++a.extract ia a.size++b.extract ib b.size
   out:=out.push (<-elem' b ib);ib:=ib+1
   if ib==b.size then return out++a.extract ia a.size++b.extract ib b.size
   let some k <-cF true (<-elem' a ia) b ib (b.size-ib) 0|return out++a.extract ia a.size++b.extract ib b.size
   bcount:=k
   if k>0 then
    out:=out++b.extract ib (ib+k);ib:=ib+k
    if ib==b.size then return out++a.extract ia a.size++b.extract ib b.size
   out:=out.push (<-elem' a ia);ia:=ia+1
   if ia+1==a.size then return out++b.extract ib b.size++a.extract ia a.size
   if acount<7&&bcount<7 then break
  minGallop:=minGallop+1
  b7 minGallop
 unsupported "internal:list.sort.merge-bound"):=rfl
section
variable{M:Model}{A:Around}{E:Value->Shared->Prop}{s:Shared}{κ:Keyed->Int}{S:Keyed->Prop}{kd:SortKind}
def SameBut(st st':SortSt):Prop:=kindOf st'=kindOf st/\arrOf st'=arrOf st/\pendingOf st'=pendingOf st/\failedOf st'=failedOf st
theorem SameBut.refl(st:SortSt):SameBut st st:=⟨rfl,rfl,rfl,rfl⟩
theorem gX{st0 st:SortSt}{g:Nat}{Q:Unit->SortSt->Prop}(sm:SameBut st0 st)(q:∀st',SameBut st0 st'->Q () st'):wpS M A E s (b7 g) Q st:=by
 show wpS M A E s (modify λx=>SortSt.mk' (kindOf x) (arrOf x) (pendingOf x) g (failedOf x)) Q st
 exact wpS_modify (q _ sm)
def MI(κ:Keyed->Int)(a b out:Array Keyed)(ia ib:Nat):Prop:=LI κ (a.toList++b.toList) out.toList (a.toList.drop ia) (b.toList.drop ib)
def gU(κ:Keyed->Int)(a b out:Array Keyed):Prop:=out.toList.Perm (a.toList++b.toList)/\Asc κ out.toList
variable{a b out:Array Keyed}{ia ib:Nat}
theorem iN{xs:Array Keyed}{i:Nat}{x:Keyed}(h:xs[i]? = some x):xs.toList.drop i=[x]++xs.toList.drop (i+1):=by
 rw[<-Array.getElem?_toList]at h;obtain⟨q,e⟩:=List.getElem?_eq_some_iff.mp h;rw[List.drop_eq_getElem_cons q,e];rfl
theorem cQ{xs:Array Keyed}{i:Nat}(h:i<xs.size):∃x,xs[i]? = some x:=⟨xs[i],Array.getElem?_eq_getElem h⟩
theorem iO{xs:Array Keyed}{i k:Nat}{l1 l2:List Keyed}(h:xs.toList.drop i=l1++l2)(hk:l1.length=k):(xs.extract i (i+k)).toList=l1/\xs.toList.drop (i+k)=l2:=by
 constructor
 .rw[Array.toList_extract,List.extract_eq_drop_take,h,show i+k-i=k by lia,<-hk,List.take_left]
 .rw[<-List.drop_drop,h,<-hk,List.drop_left]
theorem AM{xs:Array Keyed}(i:Nat):(xs.extract i xs.size).toList=xs.toList.drop i:=by
 rw[Array.toList_extract,List.extract_eq_drop_take,List.take_of_length_le (by simp)]
theorem MI.pushB(h:MI κ a b out ia ib){y:Keyed}(hy:b[ib]? = some y)(q:∀x∈a.toList.drop ia,κ y<= κ x):MI κ a b (out.push y) ia (ib+1):=by
 unfold MI at h ⊢;rw[iN hy]at h;rw[Array.toList_push];exact h.mvB λx hx z hz=>by rw[List.mem_singleton.mp hx];exact q z hz
theorem MI.pushA(h:MI κ a b out ia ib){y:Keyed}(hy:a[ia]? = some y)(q:∀x∈b.toList.drop ib,κ y<= κ x):MI κ a b (out.push y) (ia+1) ib:=by
 unfold MI at h ⊢;rw[iN hy]at h;rw[Array.toList_push];exact h.mvA λx hx z hz=>by rw[List.mem_singleton.mp hx];exact q z hz
theorem MI.appA(h:MI κ a b out ia ib){l1 l2:List Keyed}(e:a.toList.drop ia=l1++l2)(q:∀x∈l1,∀y∈b.toList.drop ib,κ x<= κ y):MI κ a b (out++a.extract ia (ia+l1.length)) (ia+l1.length) ib:=by
 obtain⟨e1,e2⟩:=iO e rfl;unfold MI at h ⊢;rw[Array.toList_append,e1,e2];rw[e]at h;exact h.mvA q
theorem MI.appB(h:MI κ a b out ia ib){l1 l2:List Keyed}(e:b.toList.drop ib=l1++l2)(q:∀x∈l1,∀y∈a.toList.drop ia,κ x<= κ y):MI κ a b (out++b.extract ib (ib+l1.length)) ia (ib+l1.length):=by
 obtain⟨e1,e2⟩:=iO e rfl;unfold MI at h ⊢;rw[Array.toList_append,e1,e2];rw[e]at h;exact h.mvB q
theorem MI.done(h:MI κ a b out ia ib)(e:ib=b.size\/ia=a.size):gU κ a b (out++a.extract ia a.size++b.extract ib b.size):=by
 unfold gU;unfold MI at h;rw[Array.toList_append,Array.toList_append,AM,AM];rcases e with e|e
 .have:b.toList.drop ib=[]:=by rw[e];exact List.drop_of_length_le (by simp)
  rw[this]at h ⊢;rw[List.append_nil];exact h.endA
 .have:a.toList.drop ia=[]:=by rw[e];exact List.drop_of_length_le (by simp)
  rw[this]at h ⊢;rw[List.append_nil];exact h.endB
theorem MI.last(h:MI κ a b out ia ib)(e:ia+1=a.size)(q:∀x,a[a.size-1]? = some x->∀y∈b.toList,κ y<= κ x):gU κ a b (out++b.extract ib b.size++a.extract ia a.size):=by
 unfold gU;obtain⟨x,hx⟩:=cQ (xs:=a) (i:=ia) (by lia);have hd:=iN hx;have:a.toList.drop (ia+1)=[]:=by rw[e];exact List.drop_of_length_le (by simp)
 rw[this,List.append_nil]at hd;unfold MI at h;rw[Array.toList_append,Array.toList_append,AM,AM,hd,List.append_assoc];rw[hd]at h;exact h.last λy hy=>q x (by rw[show a.size-1=ia by lia];exact hx) y (List.mem_of_mem_drop hy)
end
section
variable{M:Model}{A:Around}{E:Value->Shared->Prop}{s:Shared}{κ:Keyed->Int}{S:Keyed->Prop}{kd:SortKind}
variable{a b:Array Keyed}
theorem Asc.rest{xs:Array Keyed}(h:Asc κ xs.toList)(i:Nat):Asc κ (xs.toList.drop i):=List.Pairwise.drop h
theorem iV{xs:Array Keyed}(h:Asc κ xs.toList){i:Nat}{x:Keyed}(e:xs[i]? = some x):∀y∈xs.toList.drop i,κ x<= κ y:=λy hy=>by
 have q:=h.rest i;rw[iN e]at q hy;rcases List.mem_append.mp hy with hy|hy
 .rw[List.mem_singleton.mp hy];exact Int.le_refl _
 .exact q.mid x (List.mem_singleton.mpr rfl) y hy
theorem du{xs:Array Keyed}{i:Nat}{x:Keyed}(e:xs[i]? = some x):x∈xs.toList:=by
 rw[<-Array.getElem?_toList]at e;exact List.mem_of_getElem? e
theorem tE{xs:Array Keyed}(h:Asc κ xs.toList)(hS:∀x∈xs.toList,S x)(i:Nat):Stretch κ S xs i (xs.size-i) (xs.toList.drop i) where
 eq:=List.take_of_length_le (by simp)
 len:=by simp
 all x hx:=hS x (List.mem_of_mem_drop hx)
 asc:=h.rest i
def zf(κ:Keyed->Int)(a b:Array Keyed)(B:Nat)(ro:Option (Array Keyed))(out:Array Keyed)(ia ib:Nat):Prop:=
 (∃r,ro=some r/\gU κ a b r)\/(ro=none/\MI κ a b out ia ib/\ia+1<a.size/\ib<b.size/\(a.size-ia)+(b.size-ib)<=B)
abbrev Gs:Type:=Option (Array Keyed)×Array Keyed×Nat×Nat×Nat×Nat×Nat
def GsQ(κ:Keyed->Int)(a b:Array Keyed)(B:Nat)(st:SortSt)(r:ForInStep Gs)(st':SortSt):Prop:=SameBut st st'/\match r with
 |.done c=>zf κ a b B c.1 c.2.1 c.2.2.1 c.2.2.2.1
 |.yield c=>c.1=none/\zf κ a b B c.1 c.2.1 c.2.2.1 c.2.2.2.1
noncomputable def GG(a b out:Array Keyed)(ia ib g k k1:Nat):StateT SortSt Sem (ForInStep Gs):=do
 let x <-elem' a ia
 if(ia+1+1==a.size)=true then pure (.done (some (out.push x++b.extract ib b.size++a.extract (ia+1) a.size),out.push x,ia+1,ib,g,k,k1))
 else if(decide (k<7)&&decide (k1<7))=true then pure (.done (none,out.push x,ia+1,ib,g,k,k1))else pure (.yield (none,out.push x,ia+1,ib,g,k,k1))
noncomputable def II(a b out:Array Keyed)(ia ib g k n2:Nat):StateT SortSt Sem (ForInStep Gs):=do
 let y <-elem' b ib
 if(ib+1==b.size)=true then pure (.done (some (out.push y++a.extract ia a.size++b.extract (ib+1) b.size),out.push y,ia,ib+1,g,k,n2))
 else do
  let x <-elem' a ia
  let r <-cF true x b (ib+1) (b.size-(ib+1)) 0
  match r with
  |some k1=>
   if k1>0 then
    if(ib+1+k1==b.size)=true then pure (.done (some (out.push y++b.extract (ib+1) (ib+1+k1)++a.extract ia a.size++b.extract (ib+1+k1) b.size),out.push y++b.extract (ib+1) (ib+1+k1),ia,ib+1+k1,g,k,k1))
    else GG a b (out.push y++b.extract (ib+1) (ib+1+k1)) ia (ib+1+k1) g k k1
   else GG a b (out.push y) ia (ib+1) g k k1
  |_=>pure (.done (some (out.push y++a.extract ia a.size++b.extract (ib+1) b.size),out.push y,ia,ib+1,g,k,n2))
theorem xX{st st':SortSt}{out:Array Keyed}{ia ib g k k1 B:Nat}{x:Keyed}(m:MI κ a b out ia ib)(hx:a[ia]? = some x)(q:∀z∈b.toList.drop ib,κ x<= κ z)(hl:∀x,a[a.size-1]? = some x->∀y∈b.toList,κ y<= κ x)(p1:ia+1<a.size)(p2:ib<b.size)(p3:(a.size-ia)+(b.size-ib)<=B)(sm:SameBut st st'):
  wpS M A E s (GG a b out ia ib g k k1) (GsQ κ a b B st) st':=by
 unfold GG;refine wpS_bind (aJ hx ?_);have m':=m.pushA hx q;by_cases c:(ia+1+1==a.size)=true
 .rw[if_pos c]
  exact wpS_pure ⟨sm,.inl ⟨_,rfl,m'.last (by simpa using c) hl⟩⟩
 rw[if_neg c];have c:ia+1+1≠a.size:=by simpa using c
 have pt:zf κ a b B none (out.push x) (ia+1) ib:=.inr ⟨rfl,m',by lia,p2,by lia⟩;split
 .exact wpS_pure ⟨sm,pt⟩
 .exact wpS_pure ⟨sm,rfl,pt⟩
theorem xY(T:cu M A E s kd κ S){st st':SortSt}{out:Array Keyed}{ia ib g k n2 B:Nat}{y:Keyed}(sa:Asc κ a.toList)(sb:Asc κ b.toList)(Sa:∀x∈a.toList,S x)(Sb:∀x∈b.toList,S x)(m:MI κ a b out ia ib)(hy:b[ib]? = some y)(q:∀z∈a.toList.drop ia,κ y<= κ z)(hl:∀x,a[a.size-1]? = some x->∀y∈b.toList,κ y<= κ x)
  (p1:ia+1<a.size) (p2:ib<b.size) (p3:(a.size-ia)+(b.size-ib)<=B) (sm:SameBut st st') (ek:kindOf st=kd):wpS M A E s (II a b out ia ib g k n2) (GsQ κ a b B st) st':=by
 unfold II;refine wpS_bind (aJ hy ?_);have mB:=m.pushB hy q;by_cases c3:(ib+1==b.size)=true
 .rw[if_pos c3]
  exact wpS_pure ⟨sm,.inl ⟨_,rfl,mB.done (.inl (by simpa using c3))⟩⟩
 rw[if_neg c3];have c3:ib+1≠b.size:=by simpa using c3
 obtain⟨x,hx⟩:=cQ (xs:=a) (i:=ia) (by lia);refine wpS_bind (aJ hx ?_);refine wpS_bind (f9 T (tE sb Sb (ib+1)) (Sa x (du hx)) (sm.1.trans ek) (by lia) λk1 k2 ek2 f1 f2=>?_)
 simp only[if_true]at f1 f2;dsimp only;rcases Nat.eq_zero_or_pos k1.length with h1|h1
 .rw[if_neg (by lia)]
  have:k1=[]:=List.length_eq_zero_iff.mp h1;subst this;exact xX mB hx (λz hz=>f2 z (by rw[ek2,List.nil_append]at hz;exact hz)) hl p1 (by lia) (by lia) sm
 .rw[if_pos h1]
  have mC:=mB.appB ek2 λz hz u hu=>Int.le_trans (Int.le_of_lt (f1 z hz)) (iV sa hx u hu)
  have ln:k1.length+k2.length=b.size-(ib+1):=by
   have:=congrArg List.length ek2;rw[List.length_append,List.length_drop,Array.length_toList]at this;exact this.symm
  by_cases c4:(ib+1+k1.length==b.size)=true
  .rw[if_pos c4]
   exact wpS_pure ⟨sm,.inl ⟨_,rfl,mC.done (.inl (by simpa using c4))⟩⟩
  rw[if_neg c4];have c4:ib+1+k1.length≠b.size:=by simpa using c4
  exact xX mC hx (λz hz=>f2 z (by rw[(iO ek2 rfl).2]at hz;exact hz)) hl p1 (by lia) (by lia) sm
theorem GsQ.y{B:Nat}{st st':SortSt}{c:Gs}(h:GsQ κ a b B st (.yield c) st'):SameBut st st'/\∃out ia ib g x y,c=(none,out,ia,ib,g,x,y)/\MI κ a b out ia ib/\ia+1<a.size/\ib<b.size/\(a.size-ia)+(b.size-ib)<=B:=by
 obtain⟨sm,e,pt⟩:=h;obtain⟨ro,out,ia,ib,g,x,y⟩:=c;have e:ro=none:=e;subst e;rcases pt with⟨r,e,_⟩|⟨_,m,p1,p2,p3⟩
 .cases e
 .exact⟨sm,out,ia,ib,g,x,y,rfl,m,p1,p2,p3⟩
theorem pc(T:cu M A E s kd κ S){st:SortSt}{Q:Array Keyed->SortSt->Prop}(sa:Asc κ a.toList)(sb:Asc κ b.toList)(Sa:∀x∈a.toList,S x)(Sb:∀x∈b.toList,S x)(na:1<=a.size)(nb:1<=b.size)
  (h0:∀y,b[0]? = some y->∀x∈a.toList,κ y<= κ x) (hl:∀x,a[a.size-1]? = some x->∀y∈b.toList,κ y<= κ x) (ek:kindOf st=kd) (h:∀out st',gU κ a b out->SameBut st st'->Q out st'):wpS M A E s (kC a b) Q st:=by
 rw[qf];refine wpS_bind (wpS_lift (wpAny_rule ⟨rfl,?_⟩));obtain⟨y0,hy0⟩:=cQ (xs:=b) (i:=0) (by lia);refine wpS_bind (aJ hy0 ?_);dsimp only;have m0:MI κ a b #[] 0 0:=⟨by simp,List.Pairwise.nil,λx hx=>by simp at hx,sa,sb⟩
 have m1:MI κ a b #[y0] 0 1:=m0.pushB hy0 λx hx=>h0 y0 hy0 x hx
 by_cases c1:(1==b.size)=true
 .rw[if_pos c1]
  exact wpS_pure (h _ _ (m1.done (.inl (by simpa using c1))) (.refl _))
 rw[if_neg c1];have c1:1≠b.size:=by simpa using c1
 by_cases c2:(0+1==a.size)=true
 .rw[if_pos c2]
  exact wpS_pure (h _ _ (m1.last (by simpa using c2) hl) (.refl _))
 rw[if_neg c2];have c2:0+1≠a.size:=by simpa using c2
 refine wpS_bind (wpS_get ?_);refine wpS_bind (wpS_mono (wpS_forRange (I:=λt c st'=>SameBut st st'/\∃out ia ib g,c=(none,out,ia,ib,g)/\MI κ a b out ia ib/\ia+1<a.size/\ib<b.size/\(a.size-ia)+(b.size-ib)+t+1<=a.size+b.size)
  (Q:=λc st'=>SameBut st st'/\∃r,c.1=some r/\gU κ a b r) ?step ?fin ⟨.refl _,_,_,_,_,rfl,m1,by lia,by lia,by lia⟩) ?post)
 case fin=>
  rintro c st' ⟨sm,out,ia,ib,g,rfl,m,p1,p2,p3⟩
  lia
 case post=>
  rintro c st' ⟨sm,r,e,g⟩;rw[e];exact wpS_pure (h r st' g sm)
 case step=>
  rintro t c st1 _ ht ⟨sm1,out,ia,ib,g,rfl,m,p1,p2,p3⟩;dsimp only;refine wpS_bind (wpS_mono (wpS_forRange (I:=λu c st'=>SameBut st st'/\∃out ia ib x y,c=(none,out,ia,ib,x,y)/\MI κ a b out ia ib/\ia+1<a.size/\ib<b.size/\(a.size-ia)+(b.size-ib)+t+1+min u 1<=a.size+b.size)
   (Q:=λc st'=>SameBut st st'/\zf κ a b (a.size+b.size-t-2) c.1 c.2.1 c.2.2.1 c.2.2.2.1) ?step1 ?fin1 ⟨sm1,_,_,_,_,_,rfl,m,p1,p2,by lia⟩) ?post1)
  case fin1=>
   rintro c st' ⟨sm,out,ia,ib,x,y,rfl,m,p1,p2,p3⟩;exact⟨sm,.inr ⟨rfl,m,p1,p2,show a.size-ia+(b.size-ib)<=_ by lia⟩⟩
  case step1=>
   rintro u c st2 _ hu ⟨sm2,out,ia,ib,n1,n2,rfl,m,p1,p2,p3⟩;dsimp only;obtain⟨y,hy⟩:=cQ (xs:=b) (i:=ib) p2;obtain⟨x,hx⟩:=cQ (xs:=a) (i:=ia) (by lia);refine wpS_bind (aJ hy (wpS_bind (aJ hx (wpS_bind (T y x (Sb y (du hy)) (Sa x (du hx)) st2 _ (sm2.1.trans ek) ?_)))));dsimp only;by_cases q:κ y < κ x
   .simp only[q,decide_true,if_true]
    refine wpS_bind (aJ hy ?_);have m':=m.pushB hy λz hz=>Int.le_trans (Int.le_of_lt q) (iV sa hx z hz)
    by_cases c3:(ib+1==b.size)=true
    .rw[if_pos c3]
     exact wpS_pure ⟨sm2,.inl ⟨_,rfl,m'.done (.inl (by simpa using c3))⟩⟩
    rw[if_neg c3];have c3:ib+1≠b.size:=by simpa using c3
    split
    .exact wpS_pure ⟨sm2,.inr ⟨rfl,m',p1,show ib+1<b.size by lia,show a.size-ia+(b.size-(ib+1))<=_ by lia⟩⟩
    .exact wpS_pure ⟨sm2,_,_,_,_,_,rfl,m',p1,by lia,by lia⟩
   .simp only[q,decide_false,Bool.false_eq_true,if_false]
    refine wpS_bind (aJ hx ?_);have m':=m.pushA hx λz hz=>Int.le_trans (Int.not_lt.mp q) (iV sb hy z hz)
    by_cases c3:(ia+1+1==a.size)=true
    .rw[if_pos c3]
     exact wpS_pure ⟨sm2,.inl ⟨_,rfl,m'.last (by simpa using c3) hl⟩⟩
    rw[if_neg c3];have c3:ia+1+1≠a.size:=by simpa using c3
    split
    .exact wpS_pure ⟨sm2,.inr ⟨rfl,m',show ia+1+1<a.size by lia,p2,show a.size-(ia+1)+(b.size-ib)<=_ by lia⟩⟩
    .exact wpS_pure ⟨sm2,_,_,_,_,_,rfl,m',by lia,p2,by lia⟩
  case post1=>
   rintro⟨ro,out,ia,ib,n1,n2⟩ st2 ⟨sm2,pt⟩;rcases pt with⟨r,e,gd⟩|⟨e,m,p1,p2,p3⟩
   .have e:ro=some r:=e
    subst e;exact wpS_pure ⟨sm2,r,rfl,gd⟩
   have e:ro=none:=e;subst e;dsimp only at m p1 p2 p3 ⊢;refine wpS_bind (wpS_lift (wpAny_rule ⟨rfl,?_⟩));refine wpS_bind (wpS_mono (wpS_forRange (I:=λu c st'=>SameBut st st'/\∃out ia ib g x y,c=(none,out,ia,ib,g,x,y)/\MI κ a b out ia ib/\ia+1<a.size/\ib<b.size/\(a.size-ia)+(b.size-ib)<=a.size+b.size-t-2)
    (Q:=λc st'=>SameBut st st'/\zf κ a b (a.size+b.size-t-2) c.1 c.2.1 c.2.2.1 c.2.2.2.1) ?step2 ?fin2 ⟨sm2,_,_,_,_,_,_,rfl,m,p1,p2,p3⟩) ?post2)
   case fin2=>
    rintro c st' ⟨sm,out,ia,ib,g,x,y,rfl,m,p1,p2,p3⟩;exact⟨sm,.inr ⟨rfl,m,p1,p2,p3⟩⟩
   case post2=>
    rintro⟨ro,out,ia,ib,g,n1,n2⟩ st3 ⟨sm3,pt⟩;rcases pt with⟨r,e,gd⟩|⟨e,m,p1,p2,p3⟩
    .have e:ro=some r:=e
     subst e;exact wpS_pure ⟨sm3,r,rfl,gd⟩
    have e:ro=none:=e;subst e;dsimp only at m p1 p2 p3 ⊢;exact wpS_bind (gX sm3 λst4 sm4=>wpS_pure ⟨sm4,_,_,_,_,rfl,m,p1,p2,by lia⟩)
   case step2=>
    rintro u c st3 _ hu ⟨sm3,out,ia,ib,g,n1,n2,rfl,m,p1,p2,p3⟩;dsimp only;obtain⟨y,hy⟩:=cQ (xs:=b) (i:=ib) p2;have Sy:=Sb y (du hy);rcases Nat.lt_or_ge 1 g with hg|hg
    all_goals
     first
     |rw[if_pos hg]
     |rw[if_neg (Nat.not_lt.mpr hg)]
     refine wpS_bind (gX sm3 λst4 sm4=>?_);refine wpS_bind (aJ hy ?_);refine wpS_bind (f9 T (tE sa Sa ia) Sy (sm4.1.trans ek) (by lia) λl1 l2 el e1 e2=>?_)
     simp only[Bool.false_eq_true,if_false]at e1 e2;dsimp only;rcases Nat.eq_zero_or_pos l1.length with h1|h1
     .rw[if_neg (by lia)]
      have l1n:l1=[]:=List.length_eq_zero_iff.mp h1;subst l1n;refine wpS_mono (xY (B:=a.size+b.size-t-2) (out:=out) (ia:=ia) (ib:=ib) (k:=0) (n2:=n2) T sa sb Sa Sb m hy (λz hz=>Int.le_of_lt (e2 z (by rw[el,List.nil_append]at hz;exact hz))) hl p1 p2 p3 sm4 ek) λr st5 gq=>?_
      cases r with
      |done c=>exact gq
      |yield c=>exact gq.y
     .rw[if_pos h1]
      have mA:=m.appA el λx hx z hz=>Int.le_trans (e1 x hx) (iV sb hy z hz)
      have ln:l1.length+l2.length=a.size-ia:=by
       have:=congrArg List.length el;rw[List.length_append,List.length_drop,Array.length_toList]at this;exact this.symm
      by_cases c3:(ia+l1.length+1==a.size)=true
      .rw[if_pos c3]
       exact wpS_pure ⟨sm4,.inl ⟨_,rfl,mA.last (by simpa using c3) hl⟩⟩
      rw[if_neg c3];by_cases c4:(ia+l1.length==a.size)=true
      .rw[if_pos c4]
       exact wpS_pure ⟨sm4,.inl ⟨_,rfl,mA.done (.inr (by simpa using c4))⟩⟩
      rw[if_neg c4];have c3:ia+l1.length+1≠a.size:=by simpa using c3
      have c4:ia+l1.length≠a.size:=by simpa using c4
      refine wpS_mono (xY (B:=a.size+b.size-t-2) (out:=out++a.extract ia (ia+l1.length)) (ia:=ia+l1.length) (ib:=ib) (k:=l1.length) (n2:=n2) T sa sb Sa Sb mA hy (λz hz=>Int.le_of_lt (e2 z (by rw[(iO el rfl).2]at hz;exact hz))) hl (by lia) p2 (by lia) sm4 ek) λr st5 gq=>?_
      cases r with
      |done c=>exact gq
      |yield c=>exact gq.y
end
theorem qg(a b:Array Keyed):kD a b=(do
 rule "list.sort.merge-hi"
 let mut na:=a.size-1
 let mut nb:=b.size
 let mut out:Array Keyed:=#[<-elem' a na]
 if na==0 then return a.extract 0 na++b.extract 0 nb++out.reverse
 if nb==1 then return b.extract 0 nb++a.extract 0 na++out.reverse
 let mut minGallop:=gallopOf (<-get)
 for _ in [0:a.size+b.size] do
  let mut acount:=0
  let mut bcount:=0
  for _ in [0:a.size+b.size] do
   let some aWins <-lt' (<-elem' b (nb-1)) (<-elem' a (na-1))|return a.extract 0 na++b.extract 0 nb++out.reverse
   if aWins then
    na:=na-1;out:=out.push (<-elem' a na);acount:=acount+1;bcount:=0
    if na==0 then return a.extract 0 na++b.extract 0 nb++out.reverse
    if acount>=minGallop then break
   else
    nb:=nb-1;out:=out.push (<-elem' b nb);bcount:=bcount+1;acount:=0
    if nb==1 then return b.extract 0 nb++a.extract 0 na++out.reverse
    if bcount>=minGallop then break
  rule "list.sort.gallop"
  minGallop:=minGallop+1
  for _ in [0:a.size+b.size] do
   if minGallop>1 then minGallop:=minGallop-1
   b7 minGallop
   let some at_ <-cF false (<-elem' b (nb-1)) a 0 na (na-1)|return a.extract 0 na++b.extract 0 nb++out.reverse
   let k:=na-at_
   acount:=k
   if k>0 then
    out:=out++(a.extract at_ na).reverse;na:=at_
    if na==0 then return a.extract 0 na++b.extract 0 nb++out.reverse
   nb:=nb-1;out:=out.push (<-elem' b nb)
   if nb==1 then return b.extract 0 nb++a.extract 0 na++out.reverse
   let some at_ <-cF true (<-elem' a (na-1)) b 0 nb (nb-1)|return a.extract 0 na++b.extract 0 nb++out.reverse
   let k:=nb-at_
   bcount:=k
   if k>0 then
    out:=out++(b.extract at_ nb).reverse;nb:=at_
    if nb==1 then return b.extract 0 nb++a.extract 0 na++out.reverse
    if nb==0 then return a.extract 0 na++b.extract 0 nb++out.reverse
   na:=na-1;out:=out.push (<-elem' a na)
   if na==0 then return a.extract 0 na++b.extract 0 nb++out.reverse
   if acount<7&&bcount<7 then break
  minGallop:=minGallop+1
  b7 minGallop
 unsupported "internal:list.sort.merge-bound"):=rfl
section
variable{M:Model}{A:Around}{E:Value->Shared->Prop}{s:Shared}{κ:Keyed->Int}{S:Keyed->Prop}{kd:SortKind}
variable{a b out:Array Keyed}{na nb:Nat}
theorem asc_neg{l:List Keyed}:Asc (λx=>- κ x) l↔Asc κ l.reverse:=by
 unfold Asc;rw[List.pairwise_reverse];constructor
 .intro h;exact h.imp λ{x y} (q:- κ x<= - κ y)=>(by lia:κ y<= κ x)
 .intro h;exact h.imp λ{x y} (q:κ y<= κ x)=>(by lia:- κ x<= - κ y)
def HI(κ:Keyed->Int)(a b out:Array Keyed)(na nb:Nat):Prop:=LI (λx=>- κ x) (a.toList++b.toList) out.toList (a.toList.take na).reverse (b.toList.take nb).reverse
theorem g9{xs:Array Keyed}{i:Nat}{x:Keyed}(h:xs[i]? = some x):(xs.toList.take (i+1)).reverse=[x]++(xs.toList.take i).reverse:=by
 rw[<-Array.getElem?_toList]at h;rw[List.take_add_one,h];simp
theorem HI.pushB(h:HI κ a b out na (nb+1)){y:Keyed}(hy:b[nb]? = some y)(q:∀x∈a.toList.take na,κ x<= κ y):HI κ a b (out.push y) na nb:=by
 unfold HI at h ⊢;rw[g9 hy]at h;rw[Array.toList_push];exact h.mvB λx hx z hz=>by
  have:=q z (List.mem_reverse.mp hz);rw[List.mem_singleton.mp hx]
  lia
theorem HI.pushA(h:HI κ a b out (na+1) nb){y:Keyed}(hy:a[na]? = some y)(q:∀x∈b.toList.take nb,κ x<= κ y):HI κ a b (out.push y) na nb:=by
 unfold HI at h ⊢;rw[g9 hy]at h;rw[Array.toList_push];exact h.mvA λx hx z hz=>by
  have:=q z (List.mem_reverse.mp hz);rw[List.mem_singleton.mp hx]
  lia
theorem hE{xs:Array Keyed}{n:Nat}{l1 l2:List Keyed}(hn:n<=xs.size)(h:xs.toList.take n=l1++l2):(xs.extract l1.length n).reverse.toList=l2.reverse/\xs.toList.take l1.length=l1:=by
 have hl:l1.length+l2.length=n:=by
  have:=congrArg List.length h;rw[List.length_append,List.length_take,Array.length_toList]at this
  lia
 constructor
 .rw[Array.toList_reverse,Array.toList_extract,List.extract_eq_drop_take]
  congr 1;have:(xs.toList.take n).drop l1.length=l2:=by rw[h,List.drop_left]
  rw[<-this,List.drop_take]
 .have:(xs.toList.take n).take l1.length=l1:=by rw[h,List.take_left]
  rw[List.take_take,Nat.min_eq_left (by lia)]at this;exact this
theorem HI.appA(h:HI κ a b out na nb){l1 l2:List Keyed}(hn:na<=a.size)(e:a.toList.take na=l1++l2)(q:∀x∈l2,∀y∈b.toList.take nb,κ y<= κ x):HI κ a b (out++(a.extract l1.length na).reverse) l1.length nb:=by
 obtain⟨e1,e2⟩:=hE hn e;unfold HI at h ⊢;rw[Array.toList_append,e1,e2];rw[e,List.reverse_append]at h;exact h.mvA λx hx y hy=>by have:=q x (List.mem_reverse.mp hx) y (List.mem_reverse.mp hy);lia
theorem HI.appB(h:HI κ a b out na nb){l1 l2:List Keyed}(hn:nb<=b.size)(e:b.toList.take nb=l1++l2)(q:∀x∈l2,∀y∈a.toList.take na,κ y<= κ x):HI κ a b (out++(b.extract l1.length nb).reverse) na l1.length:=by
 obtain⟨e1,e2⟩:=hE hn e;unfold HI at h ⊢;rw[Array.toList_append,e1,e2];rw[e,List.reverse_append]at h;exact h.mvB λx hx y hy=>by have:=q x (List.mem_reverse.mp hx) y (List.mem_reverse.mp hy);lia
theorem yJ{xs:Array Keyed}(n:Nat):(xs.extract 0 n).toList=xs.toList.take n:=by
 rw[Array.toList_extract,List.extract_eq_drop_take,Nat.sub_zero,List.drop_zero]
theorem kW{l:List Keyed}{r:Array Keyed}(e:r.toList=l.reverse)(h:l.Perm (a.toList++b.toList)/\Asc (λx=>- κ x) l):gU κ a b r:=by
 unfold gU;rw[e];exact⟨(List.reverse_perm l).trans h.1,asc_neg.mp h.2⟩
theorem HI.done(h:HI κ a b out na nb)(e:na=0\/nb=0):gU κ a b (a.extract 0 na++b.extract 0 nb++out.reverse):=by
 unfold HI at h;rcases e with rfl|rfl
 .rw[List.take_zero,List.reverse_nil]at h
  exact kW (by simp[yJ]) h.endB
 .rw[List.take_zero,List.reverse_nil]at h
  exact kW (by simp[yJ]) h.endA
theorem HI.first(h:HI κ a b out na nb)(e:nb=1)(q:∀y,b[0]? = some y->∀x∈a.toList,κ y<= κ x)(hb:1<=b.size):gU κ a b (b.extract 0 nb++a.extract 0 na++out.reverse):=by
 subst e;obtain⟨y,hy⟩:=cQ (xs:=b) (i:=0) (by lia);unfold HI at h;have t:=g9 hy;rw[List.take_zero,List.reverse_nil,List.append_nil]at t;have t:(b.toList.take 1).reverse=[y]:=t;rw[t]at h;have t2:b.toList.take 1=[y]:=by rw[<-List.reverse_reverse (b.toList.take 1),t];rfl
 exact kW (by simp[yJ,t2]) (h.swap.last λx hx=>by have:=q y hy x (List.mem_of_mem_take (List.mem_reverse.mp hx));lia)
theorem iU{xs:Array Keyed}(h:Asc κ xs.toList){i:Nat}{x:Keyed}(e:xs[i]? = some x):∀y∈xs.toList.take (i+1),κ y<= κ x:=λy hy=>by
 have q:Asc κ (xs.toList.take (i+1)):=List.Pairwise.take h;have t:xs.toList.take (i+1)=xs.toList.take i++[x]:=by rw[<-List.reverse_reverse (xs.toList.take (i+1)),g9 e];simp
 rw[t]at q hy;rcases List.mem_append.mp hy with hy|hy
 .exact q.mid y hy x (List.mem_singleton.mpr rfl)
 .rw[List.mem_singleton.mp hy];exact Int.le_refl _
theorem pA{xs:Array Keyed}(h:Asc κ xs.toList)(hS:∀x∈xs.toList,S x){n:Nat}(hn:n<=xs.size):Stretch κ S xs 0 n (xs.toList.take n) where
 eq:=by rw[List.drop_zero]
 len:=by rw[List.length_take,Array.length_toList];lia
 all x hx:=hS x (List.mem_of_mem_take hx)
 asc:=List.Pairwise.take h
end
section
variable{M:Model}{A:Around}{E:Value->Shared->Prop}{s:Shared}{κ:Keyed->Int}{S:Keyed->Prop}{kd:SortKind}
variable{a b:Array Keyed}
abbrev Hs:Type:=Option (Array Keyed)×Nat×Nat×Array Keyed×Nat×Nat×Nat
def qW(κ:Keyed->Int)(a b:Array Keyed)(B:Nat)(ro:Option (Array Keyed))(na nb:Nat)(out:Array Keyed):Prop:=
 (∃r,ro=some r/\gU κ a b r)\/(ro=none/\HI κ a b out na nb/\1<=na/\2<=nb/\na<=a.size/\nb<=b.size/\na+nb<=B)
def HsQ(κ:Keyed->Int)(a b:Array Keyed)(B:Nat)(st:SortSt)(r:ForInStep Hs)(st':SortSt):Prop:=SameBut st st'/\match r with
 |.done c=>qW κ a b B c.1 c.2.1 c.2.2.1 c.2.2.2.1
 |.yield c=>c.1=none/\qW κ a b B c.1 c.2.1 c.2.2.1 c.2.2.2.1
noncomputable def GP(a b out:Array Keyed)(na nb g k k1:Nat):StateT SortSt Sem (ForInStep Hs):=do
 let x <-elem' a (na-1)
 if(na-1==0)=true then pure (.done (some (a.extract 0 (na-1)++b.extract 0 nb++(out.push x).reverse),na-1,nb,out.push x,g,k,k1))
 else if(decide (k<7)&&decide (k1<7))=true then pure (.done (none,na-1,nb,out.push x,g,k,k1))else pure (.yield (none,na-1,nb,out.push x,g,k,k1))
noncomputable def IL(a b out:Array Keyed)(na nb g k n2:Nat):StateT SortSt Sem (ForInStep Hs):=do
 let y <-elem' b (nb-1)
 if(nb-1==1)=true then pure (.done (some (b.extract 0 (nb-1)++a.extract 0 na++(out.push y).reverse),na,nb-1,out.push y,g,k,n2))
 else do
  let x <-elem' a (na-1)
  let r <-cF true x b 0 (nb-1) (nb-1-1)
  match r with
  |some k1=>
   if nb-1-k1>0 then
    if(k1==1)=true then pure (.done (some (b.extract 0 k1++a.extract 0 na++(out.push y++(b.extract k1 (nb-1)).reverse).reverse),na,k1,out.push y++(b.extract k1 (nb-1)).reverse,g,k,nb-1-k1))
    else if(k1==0)=true then pure (.done (some (a.extract 0 na++b.extract 0 k1++(out.push y++(b.extract k1 (nb-1)).reverse).reverse),na,k1,out.push y++(b.extract k1 (nb-1)).reverse,g,k,nb-1-k1))
    else GP a b (out.push y++(b.extract k1 (nb-1)).reverse) na k1 g k (nb-1-k1)
   else GP a b (out.push y) na (nb-1) g k (nb-1-k1)
  |_=>pure (.done (some (a.extract 0 na++b.extract 0 (nb-1)++(out.push y).reverse),na,nb-1,out.push y,g,k,n2))
theorem yp{st st':SortSt}{out:Array Keyed}{na nb g k k1 B:Nat}{x:Keyed}(m:HI κ a b out na nb)(hx:a[na-1]? = some x)(q:∀z∈b.toList.take nb,κ z<= κ x)(p1:1<=na)(p2:2<=nb)(p4:na<=a.size)(p5:nb<=b.size)(p3:na+nb<=B)(sm:SameBut st st'):
  wpS M A E s (GP a b out na nb g k k1) (HsQ κ a b B st) st':=by
 unfold GP;refine wpS_bind (aJ hx ?_);have m':HI κ a b (out.push x) (na-1) nb:=HI.pushA (by rw[show na-1+1=na by lia];exact m) hx q;by_cases c:(na-1==0)=true
 .rw[if_pos c]
  exact wpS_pure ⟨sm,.inl ⟨_,rfl,m'.done (.inl (by simpa using c))⟩⟩
 rw[if_neg c];have c:na-1≠0:=by simpa using c
 have pt:qW κ a b B none (na-1) nb (out.push x):=.inr ⟨rfl,m',by lia,p2,by lia,p5,by lia⟩;split
 .exact wpS_pure ⟨sm,pt⟩
 .exact wpS_pure ⟨sm,rfl,pt⟩
theorem yq(T:cu M A E s kd κ S){st st':SortSt}{out:Array Keyed}{na nb g k n2 B:Nat}{y:Keyed}(sa:Asc κ a.toList)(sb:Asc κ b.toList)(Sa:∀x∈a.toList,S x)(Sb:∀x∈b.toList,S x)(m:HI κ a b out na nb)(hy:b[nb-1]? = some y)(q:∀z∈a.toList.take na,κ z<= κ y)(h0:∀y,b[0]? = some y->∀x∈a.toList,κ y<= κ x)
  (p1:1<=na) (p2:2<=nb) (p4:na<=a.size) (p5:nb<=b.size) (p3:na+nb<=B) (sm:SameBut st st') (ek:kindOf st=kd):wpS M A E s (IL a b out na nb g k n2) (HsQ κ a b B st) st':=by
 unfold IL;refine wpS_bind (aJ hy ?_);have mB:HI κ a b (out.push y) na (nb-1):=HI.pushB (by rw[show nb-1+1=nb by lia];exact m) hy q;by_cases c3:(nb-1==1)=true
 .rw[if_pos c3]
  exact wpS_pure ⟨sm,.inl ⟨_,rfl,mB.first (by simpa using c3) h0 (by lia)⟩⟩
 rw[if_neg c3];have c3:nb-1≠1:=by simpa using c3
 obtain⟨x,hx⟩:=cQ (xs:=a) (i:=na-1) (by lia);refine wpS_bind (aJ hx ?_);have ax:∀u∈a.toList.take na,κ u<= κ x:=λu hu=>iU sa hx u (by rw[show na-1+1=na by lia];exact hu)
 refine wpS_bind (f9 T (pA sb Sb (n:=nb-1) (by lia)) (Sa x (du hx)) (sm.1.trans ek) (by lia) λk1 k2 ek2 f1 f2=>?_)
 simp only[if_true]at f1 f2;dsimp only;have ln:k1.length+k2.length=nb-1:=by
  have:=congrArg List.length ek2;rw[List.length_append,List.length_take,Array.length_toList]at this
  lia
 rcases Nat.eq_zero_or_pos (nb-1-k1.length)with h1|h1
 .rw[if_neg (by lia)]
  have:k2=[]:=List.length_eq_zero_iff.mp (by lia);subst this;exact yp mB hx (λz hz=>Int.le_of_lt (f1 z (by rw[ek2,List.append_nil]at hz;exact hz))) p1 (by lia) p4 (by lia) (by lia) sm
 .rw[if_pos h1]
  have mC:=mB.appB (by lia) ek2 λz hz u hu=>Int.le_trans (ax u hu) (f2 z hz)
  by_cases c4:(k1.length==1)=true
  .rw[if_pos c4]
   exact wpS_pure ⟨sm,.inl ⟨_,rfl,mC.first (by simpa using c4) h0 (by lia)⟩⟩
  rw[if_neg c4];by_cases c5:(k1.length==0)=true
  .rw[if_pos c5]
   exact wpS_pure ⟨sm,.inl ⟨_,rfl,mC.done (.inr (by simpa using c5))⟩⟩
  rw[if_neg c5];have c4:k1.length≠1:=by simpa using c4
  have c5:k1.length≠0:=by simpa using c5
  exact yp mC hx (λz hz=>Int.le_of_lt (f1 z (by rw[(hE (by lia) ek2).2]at hz;exact hz))) p1 (by lia) p4 (by lia) (by lia) sm
theorem HsQ.y{B:Nat}{st st':SortSt}{c:Hs}(h:HsQ κ a b B st (.yield c) st'):SameBut st st'/\∃na nb out g x y,c=(none,na,nb,out,g,x,y)/\HI κ a b out na nb/\1<=na/\2<=nb/\na<=a.size/\nb<=b.size/\na+nb<=B:=by
 obtain⟨sm,e,pt⟩:=h;obtain⟨ro,na,nb,out,g,x,y⟩:=c;have e:ro=none:=e;subst e;rcases pt with⟨r,e,_⟩|⟨_,m,p1,p2,p3⟩
 .cases e
 .exact⟨sm,na,nb,out,g,x,y,rfl,m,p1,p2,p3⟩
theorem pd(T:cu M A E s kd κ S){st:SortSt}{Q:Array Keyed->SortSt->Prop}(sa:Asc κ a.toList)(sb:Asc κ b.toList)(Sa:∀x∈a.toList,S x)(Sb:∀x∈b.toList,S x)(na:1<=a.size)(nb:1<=b.size)
  (h0:∀y,b[0]? = some y->∀x∈a.toList,κ y<= κ x) (hl:∀x,a[a.size-1]? = some x->∀y∈b.toList,κ y<= κ x) (ek:kindOf st=kd) (h:∀out st',gU κ a b out->SameBut st st'->Q out st'):wpS M A E s (kD a b) Q st:=by
 rw[qg];refine wpS_bind (wpS_lift (wpAny_rule ⟨rfl,?_⟩));obtain⟨x0,hx0⟩:=cQ (xs:=a) (i:=a.size-1) (by lia);refine wpS_bind (aJ hx0 ?_);dsimp only;have m0:HI κ a b #[] a.size b.size:=by
  have e1:a.toList.take a.size=a.toList:=List.take_of_length_le (by simp);have e2:b.toList.take b.size=b.toList:=List.take_of_length_le (by simp);unfold HI;rw[e1,e2];exact⟨by rw[List.nil_append];exact(List.reverse_perm _).append (List.reverse_perm _),List.Pairwise.nil,λx hx=>by simp at hx,asc_neg.mpr (by rw[List.reverse_reverse];exact sa),asc_neg.mpr (by rw[List.reverse_reverse];exact sb)⟩
 have m1:HI κ a b #[x0] (a.size-1) b.size:=HI.pushA (out:=#[]) (nb:=b.size) (na:=a.size-1) (by rw[show a.size-1+1=a.size by lia];exact m0) hx0 λz hz=>hl x0 hx0 z (List.mem_of_mem_take hz)
 by_cases c1:(a.size-1==0)=true
 .rw[if_pos c1]
  exact wpS_pure (h _ _ (m1.done (.inl (by simpa using c1))) (.refl _))
 rw[if_neg c1];have c1:a.size-1≠0:=by simpa using c1
 by_cases c2:(b.size==1)=true
 .rw[if_pos c2]
  exact wpS_pure (h _ _ (m1.first (by simpa using c2) h0 nb) (.refl _))
 rw[if_neg c2];have c2:b.size≠1:=by simpa using c2
 refine wpS_bind (wpS_get ?_);refine wpS_bind (wpS_mono (wpS_forRange (I:=λt c st'=>SameBut st st'/\∃na nb out g,c=(none,na,nb,out,g)/\HI κ a b out na nb/\1<=na/\2<=nb/\na<=a.size/\nb<=b.size/\na+nb+t+1<=a.size+b.size)
  (Q:=λc st'=>SameBut st st'/\∃r,c.1=some r/\gU κ a b r) ?step ?fin ⟨.refl _,_,_,_,_,rfl,m1,by lia,by lia,by lia,by lia,by lia⟩) ?post)
 case fin=>
  rintro c st' ⟨sm,na,nb,out,g,rfl,m,p1,p2,p4,p5,p3⟩
  lia
 case post=>
  rintro c st' ⟨sm,r,e,g⟩;rw[e];exact wpS_pure (h r st' g sm)
 case step=>
  rintro t c st1 _ ht ⟨sm1,na,nb,out,g,rfl,m,p1,p2,p4,p5,p3⟩;dsimp only;refine wpS_bind (wpS_mono (wpS_forRange (I:=λu c st'=>SameBut st st'/\∃na nb out x y,c=(none,na,nb,out,x,y)/\HI κ a b out na nb/\1<=na/\2<=nb/\na<=a.size/\nb<=b.size/\na+nb+t+1+min u 1<=a.size+b.size)
   (Q:=λc st'=>SameBut st st'/\qW κ a b (a.size+b.size-t-2) c.1 c.2.1 c.2.2.1 c.2.2.2.1) ?step1 ?fin1 ⟨sm1,_,_,_,_,_,rfl,m,p1,p2,p4,p5,by lia⟩) ?post1)
  case fin1=>
   rintro c st' ⟨sm,na,nb,out,x,y,rfl,m,p1,p2,p4,p5,p3⟩;exact⟨sm,.inr ⟨rfl,m,p1,p2,p4,p5,show na+nb<=_ by lia⟩⟩
  case step1=>
   rintro u c st2 _ hu ⟨sm2,na,nb,out,n1,n2,rfl,m,p1,p2,p4,p5,p3⟩;dsimp only;obtain⟨y,hy⟩:=cQ (xs:=b) (i:=nb-1) (by lia);obtain⟨x,hx⟩:=cQ (xs:=a) (i:=na-1) (by lia);have ax:∀u∈a.toList.take na,κ u<= κ x:=λu hu=>iU sa hx u (by rw[show na-1+1=na by lia];exact hu)
   have bx:∀u∈b.toList.take nb,κ u<= κ y:=λu hu=>iU sb hy u (by rw[show nb-1+1=nb by lia];exact hu)
   refine wpS_bind (aJ hy (wpS_bind (aJ hx (wpS_bind (T y x (Sb y (du hy)) (Sa x (du hx)) st2 _ (sm2.1.trans ek) ?_)))));dsimp only;by_cases q:κ y < κ x
   .simp only[q,decide_true,if_true]
    refine wpS_bind (aJ hx ?_);have m':HI κ a b (out.push x) (na-1) nb:=HI.pushA (by rw[show na-1+1=na by lia];exact m) hx λz hz=>Int.le_trans (bx z hz) (Int.le_of_lt q)
    by_cases c3:(na-1==0)=true
    .rw[if_pos c3]
     exact wpS_pure ⟨sm2,.inl ⟨_,rfl,m'.done (.inl (by simpa using c3))⟩⟩
    rw[if_neg c3];have c3:na-1≠0:=by simpa using c3
    split
    .exact wpS_pure ⟨sm2,.inr ⟨rfl,m',show 1<=na-1 by lia,p2,show na-1<=_ by lia,p5,show na-1+nb<=_ by lia⟩⟩
    .exact wpS_pure ⟨sm2,_,_,_,_,_,rfl,m',by lia,p2,by lia,p5,by lia⟩
   .simp only[q,decide_false,Bool.false_eq_true,if_false]
    refine wpS_bind (aJ hy ?_);have m':HI κ a b (out.push y) na (nb-1):=HI.pushB (by rw[show nb-1+1=nb by lia];exact m) hy λz hz=>Int.le_trans (ax z hz) (Int.not_lt.mp q)
    by_cases c3:(nb-1==1)=true
    .rw[if_pos c3]
     exact wpS_pure ⟨sm2,.inl ⟨_,rfl,m'.first (by simpa using c3) h0 (by lia)⟩⟩
    rw[if_neg c3];have c3:nb-1≠1:=by simpa using c3
    split
    .exact wpS_pure ⟨sm2,.inr ⟨rfl,m',p1,show 2<=nb-1 by lia,p4,show nb-1<=_ by lia,show na+(nb-1)<=_ by lia⟩⟩
    .exact wpS_pure ⟨sm2,_,_,_,_,_,rfl,m',p1,by lia,p4,by lia,by lia⟩
  case post1=>
   rintro⟨ro,na,nb,out,n1,n2⟩ st2 ⟨sm2,pt⟩;rcases pt with⟨r,e,gd⟩|⟨e,m,p1,p2,p4,p5,p3⟩
   .have e:ro=some r:=e
    subst e;exact wpS_pure ⟨sm2,r,rfl,gd⟩
   have e:ro=none:=e;subst e;dsimp only at m p1 p2 p3 p4 p5 ⊢;refine wpS_bind (wpS_lift (wpAny_rule ⟨rfl,?_⟩));refine wpS_bind (wpS_mono (wpS_forRange (I:=λu c st'=>SameBut st st'/\∃na nb out g x y,c=(none,na,nb,out,g,x,y)/\HI κ a b out na nb/\1<=na/\2<=nb/\na<=a.size/\nb<=b.size/\na+nb<=a.size+b.size-t-2)
    (Q:=λc st'=>SameBut st st'/\qW κ a b (a.size+b.size-t-2) c.1 c.2.1 c.2.2.1 c.2.2.2.1) ?step2 ?fin2 ⟨sm2,_,_,_,_,_,_,rfl,m,p1,p2,p4,p5,p3⟩) ?post2)
   case fin2=>
    rintro c st' ⟨sm,na,nb,out,g,x,y,rfl,m,p⟩;exact⟨sm,.inr ⟨rfl,m,p⟩⟩
   case post2=>
    rintro⟨ro,na,nb,out,g,n1,n2⟩ st3 ⟨sm3,pt⟩;rcases pt with⟨r,e,gd⟩|⟨e,m,p1,p2,p4,p5,p3⟩
    .have e:ro=some r:=e
     subst e;exact wpS_pure ⟨sm3,r,rfl,gd⟩
    have e:ro=none:=e;subst e;dsimp only at m p1 p2 p3 p4 p5 ⊢;exact wpS_bind (gX sm3 λst4 sm4=>wpS_pure ⟨sm4,_,_,_,_,rfl,m,p1,p2,p4,p5,by lia⟩)
   case step2=>
    rintro u c st3 _ hu ⟨sm3,na,nb,out,g,n1,n2,rfl,m,p1,p2,p4,p5,p3⟩;dsimp only;obtain⟨y,hy⟩:=cQ (xs:=b) (i:=nb-1) (by lia);have Sy:=Sb y (du hy);have bx:∀u∈b.toList.take nb,κ u<= κ y:=λu hu=>iU sb hy u (by rw[show nb-1+1=nb by lia];exact hu)
    rcases Nat.lt_or_ge 1 g with hg|hg
    all_goals
     first
     |rw[if_pos hg]
     |rw[if_neg (Nat.not_lt.mpr hg)]
     refine wpS_bind (gX sm3 λst4 sm4=>?_);refine wpS_bind (aJ hy ?_);refine wpS_bind (f9 T (pA sa Sa p4) Sy (sm4.1.trans ek) (by lia) λl1 l2 el e1 e2=>?_)
     simp only[Bool.false_eq_true,if_false]at e1 e2;dsimp only;have ln:l1.length+l2.length=na:=by
      have:=congrArg List.length el;rw[List.length_append,List.length_take,Array.length_toList]at this
      lia
     rcases Nat.eq_zero_or_pos (na-l1.length)with h1|h1
     .rw[if_neg (by lia)]
      have l2n:l2=[]:=List.length_eq_zero_iff.mp (by lia);subst l2n;refine wpS_mono (yq (B:=a.size+b.size-t-2) (out:=out) (na:=na) (nb:=nb) (k:=na-l1.length) (n2:=n2) T sa sb Sa Sb m hy (λz hz=>e1 z (by rw[el,List.append_nil]at hz;exact hz)) h0 p1 p2 p4 p5 p3 sm4 ek) λr st5 gq=>?_
      cases r with
      |done c=>exact gq
      |yield c=>exact gq.y
     .rw[if_pos h1]
      have mA:=m.appA p4 el λx hx z hz=>Int.le_trans (bx z hz) (Int.le_of_lt (e2 x hx))
      by_cases c3:(l1.length==0)=true
      .rw[if_pos c3]
       exact wpS_pure ⟨sm4,.inl ⟨_,rfl,mA.done (.inl (by simpa using c3))⟩⟩
      rw[if_neg c3];have c3:l1.length≠0:=by simpa using c3
      refine wpS_mono (yq (B:=a.size+b.size-t-2) (out:=out++(a.extract l1.length na).reverse) (na:=l1.length) (nb:=nb) (k:=na-l1.length) (n2:=n2) T sa sb Sa Sb mA hy (λz hz=>e1 z (by rw[(hE p4 el).2]at hz;exact hz)) h0 (by lia) p2 (by lia) p5 (by lia) sm4 ek) λr st5 gq=>?_
      cases r with
      |done c=>exact gq
      |yield c=>exact gq.y
end
theorem qh(i:Nat):mergeAt' i=(do
 let s <-get
 let (some (sa,na,power),some (sb,nb,_)):=((pendingOf s)[i]?,(pendingOf s)[i+1]?)|unsupported "internal:list.sort.pending"
 set (setPending s (((pendingOf s).setIfInBounds i (sa,na+nb,power)).eraseIdxIfInBounds (i+1)))
 let some k <-cF false (<-elem' (arrOf s) sb) (arrOf s) sa na 0|return false
 let (sa,na):=(sa+k,na-k)
 if na==0 then return true
 let some nb <-cF true (<-elem' (arrOf s) (sa+na-1)) (arrOf s) sb nb (nb-1)|return false
 if nb==0 then return true
 let x:=(arrOf s).extract sa sb
 let y:=(arrOf s).extract sb (sb+nb)
 let merged <-if na<=nb then kC x y else kD x y
 modify λs=>setArr s (merged.toList.zipIdx.foldl (λa (p,j)=>a.setIfInBounds (sa+j) p) (arrOf s))
 return (failedOf (<-get)).isNone):=rfl
section
variable{M:Model}{A:Around}{E:Value->Shared->Prop}{s:Shared}{κ:Keyed->Int}{S:Keyed->Prop}{kd:SortKind}
theorem zw{σ:Type}{x:σ}{Q:PUnit -> σ -> Prop}{st:σ}(h:Q ⟨⟩ x):wpS M A E s (set x:StateT σ Sem PUnit) Q st:=by
 unfold wpS;rw[StateT.run_set];exact wpAny_pure ⟨rfl,h⟩
theorem j4(o:Nat):∀(l:List Keyed) (k:Nat) (xs:Array Keyed),o+k+l.length<=xs.size->((l.zipIdx k).foldl (λ(a:Array Keyed) (q:Keyed×Nat)=>a.setIfInBounds (o+q.2) q.1) xs).toList=xs.toList.take (o+k)++l++xs.toList.drop (o+k+l.length)
 |[],k,xs,_=>by simp
 |x::l,k,xs,h=>by
  rw[List.length_cons]at h;rw[List.zipIdx_cons,List.foldl_cons,j4 o l (k+1) _ (by rw[Array.size_setIfInBounds];lia),Array.toList_setIfInBounds];have hk:o+k<xs.toList.length:=by rw[Array.length_toList];lia
  rw[show o+(k+1)=o+k+1 by lia,List.take_add_one,List.take_set_of_le (Nat.le_refl _),List.getElem?_set_self hk,List.drop_set_of_lt (by lia),List.length_cons,show o+k+1+l.length=o+k+(l.length+1) by lia];simp
theorem zv(T:cu M A E s kd κ S){st:SortSt}{L1 g1 g2 L2:List Keyed}{i pw pw2:Nat}{Q:Bool->SortSt->Prop}(ek:kindOf st=kd)(hf:failedOf st=none)(ha:(arrOf st).toList=L1++(g1++(g2++L2)))(a1:Asc κ g1)(a2:Asc κ g2)(n1:g1≠[])(n2:g2≠[])(hS:∀x∈g1++g2,S x)
  (p1:(pendingOf st)[i]? = some (L1.length,g1.length,pw)) (p2:(pendingOf st)[i+1]? = some (L1.length+g1.length,g2.length,pw2))
  (h:∀st' g,g.Perm (g1++g2)->Asc κ g->(arrOf st').toList=L1++(g++L2)->kindOf st'=kd->failedOf st'=none->pendingOf st'=((pendingOf st).setIfInBounds i (L1.length,g1.length+g2.length,pw)).eraseIdxIfInBounds (i+1)->Q true st'):
  wpS M A E s (mergeAt' i) Q st:=by
 rw[qh];refine wpS_bind (wpS_get ?_);rw[p1,p2];dsimp only;refine wpS_bind (zw ?_);have sz:(arrOf st).size=L1.length+(g1.length+(g2.length+L2.length)):=by
  have:=congrArg List.length ha;simpa using this
 have l1:1<=g1.length:=List.length_pos_iff.mpr n1;have l2:1<=g2.length:=List.length_pos_iff.mpr n2;have st1:Stretch κ S (arrOf st) L1.length g1.length g1:=⟨by rw[ha,List.drop_left,List.take_left],rfl,λx hx=>hS x (by simp[hx]),a1⟩
 have st2:Stretch κ S (arrOf st) (L1.length+g1.length) g2.length g2:=⟨by rw[ha,<-List.drop_drop,List.drop_left,List.drop_left,List.take_left],rfl,λx hx=>hS x (by simp[hx]),a2⟩
 have hb:=st2.get (i:=0) (by lia);rw[Nat.add_zero]at hb;have Sb0:S g2[0]:=st2.all _ (List.getElem_mem _);have b0:∀z∈g2,κ g2[0]<= κ z:=λz hz=>by
  obtain⟨j,hj,rfl⟩:=List.mem_iff_getElem.mp hz;rcases Nat.eq_zero_or_pos j with q|q
  .subst q;exact Int.le_refl _
  .exact List.pairwise_iff_getElem.mp a2 0 j (by lia) hj q
 have same:∀Z:SortSt,arrOf Z=arrOf st->kindOf Z=kindOf st->failedOf Z=failedOf st->pendingOf Z=((pendingOf st).setIfInBounds i (L1.length,g1.length+g2.length,pw)).eraseIdxIfInBounds (i+1)->(∀x∈g1,∀y∈g2,κ x<= κ y)->Q true Z:=λZ e1 e2 e3 e4 q=>
  h Z (g1++g2) (List.Perm.refl _) (a1.app a2 q) (by rw[e1,ha,List.append_assoc]) (e2.trans ek) (e3.trans hf) e4
 refine wpS_bind (aJ hb ?_);refine wpS_bind (f9 T st1 Sb0 ek (by lia) λu1 u2 eu e1 e2=>?_)
 simp only[Bool.false_eq_true,if_false]at e1 e2;dsimp only;have lu:u1.length+u2.length=g1.length:=by rw[eu,List.length_append]
 by_cases c1:(g1.length-u1.length==0)=true
 .rw[if_pos c1]
  have:u2=[]:=List.length_eq_zero_iff.mp (by have:g1.length-u1.length=0:=(by simpa using c1);lia);subst this;rw[List.append_nil]at eu;refine wpS_pure (same _ rfl rfl rfl rfl λx hx y hy=>Int.le_trans (e1 x (eu ▸ hx)) (b0 y hy))
 rw[if_neg c1];have c1:g1.length-u1.length≠0:=by simpa using c1
 have hlast:(arrOf st)[L1.length+u1.length+(g1.length-u1.length)-1]? = some g1[g1.length-1]:=by
  rw[show L1.length+u1.length+(g1.length-u1.length)-1=L1.length+(g1.length-1) by lia];exact st1.get (by lia)
 have gl:∀z∈g1,κ z<= κ g1[g1.length-1]:=λz hz=>by
  obtain⟨j,hj,rfl⟩:=List.mem_iff_getElem.mp hz;rcases Nat.lt_or_ge j (g1.length-1)with q|q
  .exact List.pairwise_iff_getElem.mp a1 j _ hj (by lia) q
  .have:j=g1.length-1:=by lia
   subst this;exact Int.le_refl _
 refine wpS_bind (aJ hlast ?_);refine wpS_bind (f9 T st2 (st1.all _ (List.getElem_mem _)) ek (by lia) λv1 v2 ev f1 f2=>?_)
 simp only[if_true]at f1 f2;dsimp only;by_cases c2:(v1.length==0)=true
 .rw[if_pos c2]
  have:v1=[]:=List.length_eq_zero_iff.mp (by simpa using c2);subst this;rw[List.nil_append]at ev;refine wpS_pure (same _ rfl rfl rfl rfl λx hx y hy=>Int.le_trans (gl x hx) (f2 y (ev ▸ hy)))
 rw[if_neg c2];have c2:v1.length≠0:=by simpa using c2
 have lv:v1.length+v2.length=g2.length:=by rw[ev,List.length_append]
 have ex:((arrOf st).extract (L1.length+u1.length) (L1.length+g1.length)).toList=u2:=by
  rw[Array.toList_extract,List.extract_eq_drop_take,ha,eu,<-List.drop_drop,List.drop_left,List.append_assoc,List.drop_left,List.length_append,show L1.length+(u1.length+u2.length)-(L1.length+u1.length)=u2.length by lia,List.take_left]
 have ey:((arrOf st).extract (L1.length+g1.length) (L1.length+g1.length+v1.length)).toList=v1:=by
  rw[Array.toList_extract,List.extract_eq_drop_take,ha,<-List.drop_drop,List.drop_left,List.drop_left,ev,List.append_assoc,show L1.length+g1.length+v1.length-(L1.length+g1.length)=v1.length by lia,List.take_left]
 have hm:∀(mg:Array Keyed) (st':SortSt),gU κ ((arrOf st).extract (L1.length+u1.length) (L1.length+g1.length)) ((arrOf st).extract (L1.length+g1.length) (L1.length+g1.length+v1.length)) mg->SameBut (setPending st (((pendingOf st).setIfInBounds i (L1.length,g1.length+g2.length,pw)).eraseIdxIfInBounds (i+1))) st' ->
   wpS M A E s (do
    modify λs=>setArr s (mg.toList.zipIdx.foldl (λ(a:Array Keyed) (q:Keyed×Nat)=>a.setIfInBounds (L1.length+u1.length+q.2) q.1) (arrOf s))
    return (failedOf (<-get)).isNone) Q st':=λmg st' gd sm=>by
  obtain⟨gp,ga⟩:=gd;rw[ex,ey]at gp;have ea:arrOf st'=arrOf st:=sm.2.1;have lm:mg.toList.length=u2.length+v1.length:=by rw[gp.length_eq,List.length_append]
  refine wpS_bind (wpS_modify (wpS_bind (wpS_get (wpS_pure ?_))));have fn:failedOf st'=none:=sm.2.2.2.trans hf;show Q (failedOf st').isNone _;rw[fn];refine h _ (u1++mg.toList++v2) ?_ ?_ ?_ (sm.1.trans ek) fn sm.2.2.1
  .rw[eu,ev]
   have:=((List.Perm.refl u1).append gp).append (List.Perm.refl v2);simpa[List.append_assoc]using this
  .have mem:∀z,z∈mg.toList->z∈u2\/z∈v1:=λz hz=>List.mem_append.mp (gp.mem_iff.mp hz)
   have au:=eu ▸ a1;have av:=ev ▸ a2;have v0:∀z∈v1,κ g2[0]<= κ z:=λz hz=>b0 z (by rw[ev];simp[hz])
   refine(au.left.app ga λx hx z hz=>?_).app av.right λx hx z hz=>?_
   .rcases mem z hz with q|q
    .exact au.mid x hx z q
    .exact Int.le_trans (e1 x hx) (v0 z q)
   .rcases List.mem_append.mp hx with q|q
    .exact Int.le_trans (gl x (by rw[eu];simp[q])) (f2 z hz)
    .rcases mem x q with q|q
     .exact Int.le_trans (gl x (by rw[eu];simp[q])) (f2 z hz)
     .exact av.mid x q z hz
  .show(mg.toList.zipIdx.foldl _ (arrOf st')).toList=_
   rw[ea,j4 (L1.length+u1.length) mg.toList 0 (arrOf st) (by rw[lm,sz];lia),Nat.add_zero,ha,eu,ev,lm];have t1:(L1++(u1++u2++(v1++v2++L2))).take (L1.length+u1.length)=L1++u1:=by
    rw[show L1++(u1++u2++(v1++v2++L2))=(L1++u1)++(u2++(v1++v2++L2)) by simp[List.append_assoc],<-List.length_append,List.take_left]
   have t2:(L1++(u1++u2++(v1++v2++L2))).drop (L1.length+u1.length+(u2.length+v1.length))=v2++L2:=by
    rw[show L1++(u1++u2++(v1++v2++L2))=(L1++u1++(u2++v1))++(v2++L2) by simp[List.append_assoc],<-List.length_append,<-List.length_append,<-List.length_append,List.drop_left]
   rw[t1,t2];simp[List.append_assoc]
 have ax:Asc κ ((arrOf st).extract (L1.length+u1.length) (L1.length+g1.length)).toList:=by rw[ex];exact(eu ▸ a1).right
 have ay:Asc κ ((arrOf st).extract (L1.length+g1.length) (L1.length+g1.length+v1.length)).toList:=by rw[ey];exact(ev ▸ a2).left
 have SX:∀x∈((arrOf st).extract (L1.length+u1.length) (L1.length+g1.length)).toList,S x:=by rw[ex];exact λx hx=>hS x (by rw[eu];simp[hx])
 have SY:∀x∈((arrOf st).extract (L1.length+g1.length) (L1.length+g1.length+v1.length)).toList,S x:=by rw[ey];exact λx hx=>hS x (by rw[ev];simp[hx])
 have nX:1<=((arrOf st).extract (L1.length+u1.length) (L1.length+g1.length)).size:=by rw[<-Array.length_toList,ex];lia
 have nY:1<=((arrOf st).extract (L1.length+g1.length) (L1.length+g1.length+v1.length)).size:=by rw[<-Array.length_toList,ey];lia
 have h0:∀y,((arrOf st).extract (L1.length+g1.length) (L1.length+g1.length+v1.length))[0]? = some y->∀x∈((arrOf st).extract (L1.length+u1.length) (L1.length+g1.length)).toList,κ y<= κ x:=λy hy x hx=>by
  rw[<-Array.getElem?_toList,ey]at hy;have:g2[0]? = some y:=by rw[ev,List.getElem?_append_left (by lia)];exact hy
  obtain⟨_,e⟩:=List.getElem?_eq_some_iff.mp this;rw[ex]at hx;rw[<-e];exact Int.le_of_lt (e2 x hx)
 have hl:∀x,((arrOf st).extract (L1.length+u1.length) (L1.length+g1.length))[((arrOf st).extract (L1.length+u1.length) (L1.length+g1.length)).size-1]? = some x->∀y∈((arrOf st).extract (L1.length+g1.length) (L1.length+g1.length+v1.length)).toList,κ y<= κ x:=λx hx y hy=>by
  rw[<-Array.length_toList,<-Array.getElem?_toList,ex]at hx;have:g1[g1.length-1]? = some x:=by
   rw[<-hx];have:g1.length-1=u1.length+(u2.length-1):=by lia
   rw[this]
   conv=>lhs;rw[eu]
   rw[List.getElem?_append_right (by lia),Nat.add_sub_cancel_left]
  obtain⟨_,e⟩:=List.getElem?_eq_some_iff.mp this;rw[ey]at hy;rw[<-e];exact Int.le_of_lt (f1 y hy)
 by_cases c3:g1.length-u1.length<=v1.length
 .rw[if_pos c3]
  exact wpS_bind (pc T ax ay SX SY nX nY h0 hl ek λmg st' gd sm=>hm mg st' gd sm)
 .rw[if_neg c3]
  exact wpS_bind (pd T ax ay SX SY nX nY h0 hl ek λmg st' gd sm=>hm mg st' gd sm)
end
noncomputable def KA(κ:Keyed->Int)(xs:Array Keyed)(i:Nat):Int:=match xs[i]? with
 |some p=>κ p
 |none=>0
def lK(κ:Keyed->Int)(xs:Array Keyed)(lo k:Nat):Prop:=∀i j,i<=j->j<k->KA κ xs (lo+i)<=KA κ xs (lo+j)
def ju(κ:Keyed->Int)(xs:Array Keyed)(lo k:Nat):Prop:=∀i j,i<=j->j<k->KA κ xs (lo+j)<=KA κ xs (lo+i)
section
variable{M:Model}{A:Around}{E:Value->Shared->Prop}{s:Shared}{κ:Keyed->Int}{S:Keyed->Prop}{kd:SortKind}
theorem f8{xs ys:Array Keyed}{i j:Nat}(h:xs[i]? = ys[j]?):KA κ xs i=KA κ ys j:=by unfold KA;rw[h]
theorem ny{xs:Array Keyed}{src d:Nat}(hs:src<xs.size)(hd:d<=src)(k:Nat):
  KA κ (bubble xs src d) k=if k=src-d then KA κ xs src else if src-d<k/\k<=src then KA κ xs (k-1)else KA κ xs k:=by
 have e:=getElem?_bubble hs d hd k;by_cases h1:k=src-d
 .rw[if_pos h1]at e ⊢;exact f8 e
 .rw[if_neg h1]at e ⊢
  by_cases h2:src-d<k/\k<=src
  .rw[if_pos h2]at e ⊢;exact f8 e
  .rw[if_neg h2]at e ⊢;exact f8 e
theorem jt{xs:Array Keyed}{i j:Nat}(hj:j<=xs.size)(k:Nat):KA κ (mirror xs i j ((j-i)/2)) k=if i<=k/\k<j then KA κ xs (i+j-1-k)else KA κ xs k:=by
 have e:=getElem?_mirror_all (i:=i) hj k;by_cases h1:i<=k/\k<j
 .rw[if_pos h1]at e ⊢;exact f8 e
 .rw[if_neg h1]at e ⊢;exact f8 e
theorem bI{xs:Array Keyed}{i j:Nat}(hj:j<=xs.size)(heq:∀k,i<=k->k<j->KA κ xs k=KA κ xs (j-1))(k:Nat):KA κ (mirror xs i j ((j-i)/2)) k=KA κ xs k:=by
 rw[jt hj];split
 .rw[heq _ (by lia) (by lia),heq k (by lia) (by lia)]
 .rfl
structure SB (S:Keyed->Prop) (kd:SortKind) (lo:Nat) (st0 st:SortSt):Prop where
 perm:(arrOf st).Perm (arrOf st0)
 pre:∀k,k<lo->(arrOf st)[k]? = (arrOf st0)[k]?
 kind:kindOf st=kd
 failed:failedOf st=none
 pend:pendingOf st=pendingOf st0
 gal:gallopOf st=gallopOf st0
 all:∀x∈(arrOf st0).toList,S x
theorem SB.size{lo:Nat}{st0 st:SortSt}(h:SB S kd lo st0 st):(arrOf st).size=(arrOf st0).size:=h.perm.size_eq
theorem SB.setArr{lo:Nat}{st0 st:SortSt}(h:SB S kd lo st0 st){xs:Array Keyed}(hp:xs.Perm (arrOf st))(hq:∀k,k<lo->xs[k]? = (arrOf st)[k]?):SB S kd lo st0 (setArr st xs):=
 ⟨hp.trans h.perm,λk hk=>(hq k hk).trans (h.pre k hk),h.kind,h.failed,h.pend,h.gal,h.all⟩
theorem SB.at{lo:Nat}{st0 st:SortSt}(h:SB S kd lo st0 st){i:Nat}(hi:i<(arrOf st0).size):∃x,(arrOf st)[i]? = some x/\S x/\ κ x=KA κ (arrOf st) i:=by
 obtain⟨x,hx⟩:=cQ (xs:=arrOf st) (i:=i) (by rw[h.size];exact hi);exact⟨x,hx,h.all x ((Array.perm_iff_toList_perm.mp h.perm).mem_iff.mp (du hx)),by unfold KA;rw[hx]⟩
theorem gY(T:cu M A E s kd κ S){lo:Nat}{st0 st:SortSt}{i j:Nat}{Q:Option Bool->SortSt->Prop}(hB:SB S kd lo st0 st)(hi:i<(arrOf st0).size)(hj:j<(arrOf st0).size)
  (h:Q (some (decide (KA κ (arrOf st) i<KA κ (arrOf st) j))) st):wpS M A E s (ltAt' i j) Q st:=by
 obtain⟨x,e1,s1,k1⟩:=hB.at (κ:=κ) hi;obtain⟨y,e2,s2,k2⟩:=hB.at (κ:=κ) hj;rw[ltAt'_eq];refine wpS_bind (wpS_get ?_);exact wpS_bind (aJ e1 (wpS_bind (aJ e2 (T x y s1 s2 st _ hB.kind (by rw[k1,k2];exact h)))))
theorem eS{xs:Array Keyed}{i j lo:Nat}(hj:j<=xs.size)(hi:lo<=i):∀k,k<lo->(mirror xs i j ((j-i)/2))[k]? = xs[k]?:=λk hk=>by
 rw[getElem?_mirror_all hj,if_neg (by lia)]
theorem sR{xs:Array Keyed}{src d lo:Nat}(hs:src<xs.size)(hd:d<=src)(hl:lo<=src-d):∀k,k<lo->(bubble xs src d)[k]? = xs[k]?:=λk hk=>by
 rw[getElem?_bubble hs d hd,if_neg (by lia),if_neg (by lia)]
theorem zy(T:cu M A E s kd κ S){lo:Nat}{st0 st:SortSt}{n ok:Nat}{Q:Bool->SortSt->Prop}(hn:lo+n<=(arrOf st0).size)(hok:ok<=n)(hB:SB S kd lo st0 st)(hs:lK κ (arrOf st) lo ok)
  (h:∀st',SB S kd lo st0 st'->lK κ (arrOf st') lo n->Q true st'):wpS M A E s (binarySort' lo n ok) Q st:=by
 rw[binarySort'_eq];refine wpS_bind (wpS_mono (wpS_forRange (I:=λk c st'=>c=(none,())/\SB S kd lo st0 st'/\lK κ (arrOf st') lo (min k n))
  (Q:=λc st'=>c=(none,())/\SB S kd lo st0 st'/\lK κ (arrOf st') lo n) ?step ?fin ?init) ?post)
 case post=>
  rintro c st' ⟨rfl,hB',hs'⟩;exact wpS_pure (h st' hB' hs')
 case init=>
  refine⟨rfl,hB,λi j hij hj=>?_⟩
  by_cases h1:ok=0
  .have:i=j:=by lia
   subst this;exact Int.le_refl _
  .exact hs i j hij (by lia)
 case fin=>
  rintro c st' ⟨hc,hB',hs'⟩;refine⟨hc,hB',?_⟩
  rwa [show min (max (max ok 1) n) n=n by lia]at hs'
 case step=>
  rintro k c st' hak hkn ⟨rfl,hB',hs'⟩;rw[show min k n=k by lia]at hs';have hk:lo+k<(arrOf st0).size:=by lia
  refine wpS_bind (wpS_mono (wpS_forRange (I:=λx c st''=>st''=st'/\∃l r,c=(none,l,r)/\l<=r/\r<=k/\r-l<=k-x/\
    (∀i,i<l->KA κ (arrOf st') (lo+i)<=KA κ (arrOf st') (lo+k))/\(∀i,r<=i->i<k->KA κ (arrOf st') (lo+k)<KA κ (arrOf st') (lo+i)))
   (Q:=λc st''=>st''=st'/\∃l r,c=(none,l,r)/\l<=k/\
    (∀i,i<l->KA κ (arrOf st') (lo+i)<=KA κ (arrOf st') (lo+k))/\(∀i,l<=i->i<k->KA κ (arrOf st') (lo+k)<KA κ (arrOf st') (lo+i))) ?istep ?ifin ?iinit) ?ipost)
  case iinit=>exact⟨rfl,0,k,rfl,by lia,by lia,by lia,λi hi=>by lia,λi h1 h2=>by lia⟩
  case ifin=>
   rintro c st'' ⟨rfl,l,r,rfl,hlr,hrk,hm,hlo,hhi⟩;have:l=r:=by lia
   subst this;exact⟨rfl,l,l,rfl,hrk,hlo,hhi⟩
  case istep=>
   rintro x c st'' _ hxk ⟨rfl,l,r,rfl,hlr,hrk,hm,hlo,hhi⟩;dsimp only;by_cases hge:l>=r
   .rw[if_pos hge]
    have:l=r:=by lia
    subst this;exact wpS_pure ⟨rfl,l,l,rfl,hrk,hlo,hhi⟩
   .rw[if_neg hge]
    refine wpS_bind (gY T hB' hk (by lia) ?_);by_cases hless:KA κ (arrOf st'') (lo+k)<KA κ (arrOf st'') (lo+(l+r)/2)
    .simp only[hless,decide_true,if_true]
     refine wpS_pure ⟨rfl,l,(l+r)/2,rfl,by lia,by lia,by lia,hlo,λi h1 h2=>?_⟩
     exact Int.lt_of_lt_of_le hless (hs' _ _ h1 h2)
    .simp only[hless,decide_false,Bool.false_eq_true,if_false]
     refine wpS_pure ⟨rfl,(l+r)/2+1,r,rfl,by lia,by lia,by lia,λi h1=>?_,hhi⟩
     exact Int.le_trans (hs' i ((l+r)/2) (by lia) (by lia)) (Int.not_lt.mp hless)
  case ipost=>
   rintro c st'' ⟨rfl,l,r,rfl,hlk,hlo,hhi⟩;show wpS _ _ _ _ (do moveDown' (lo+k) (lo+l);pure (ForInStep.yield (none,()))) _ _;rw[moveDown'_eq];have hks:lo+k<(arrOf st'').size:=by rw[hB'.size];exact hk
   refine wpS_bind (wpS_modify (wpS_pure ⟨rfl,hB'.setArr (bubble_perm _ _ _) (sR hks (by lia) (by lia)),?_⟩));rw[show min (k+1) n=k+1 by lia];intro i j hij hj;show KA κ (bubble (arrOf st'') (lo+k) (lo+k-(lo+l))) (lo+i)<=KA κ (bubble (arrOf st'') (lo+k) (lo+k-(lo+l))) (lo+j);rw[ny hks (by lia),ny hks (by lia),show lo+k-(lo+k-(lo+l))=lo+l by lia];have r1:∀i,l<i->lo+i-1=lo+(i-1):=λi hi=>by lia
   repeat' split
   all_goals first
    | (exfalso;lia)
    |exact Int.le_refl _
    |exact hlo _ (by lia)
    | (rw[r1 _ (by lia)];exact Int.le_of_lt (hhi _ (by lia) (by lia)))
    | (rw[r1 _ (by lia),r1 _ (by lia)];exact hs' _ _ (by lia) (by lia))
    | (rw[r1 _ (by lia)];exact hs' _ _ (by lia) (by lia))
    |exact hs' _ _ (by lia) (by lia)
end
noncomputable def ascL(lo a nrem:Nat):StateT SortSt Sem AscSt:=
 forIn [a:nrem] ((none,a):AscSt) λ_ c=>do
  let x <-ltAt' (lo+c.snd) (lo+c.snd-1)
  match x with
  |some smaller=>if smaller=true then pure (ForInStep.done (none,c.snd))else pure (ForInStep.yield (none,c.snd+1))
  |_=>pure (ForInStep.done (some none,c.snd))
noncomputable def j9(lo n nrem:Nat):StateT SortSt Sem (Option Nat):=do
 reverseSlice' lo (lo+n)
 let c <-ascL lo n nrem
 match c.fst with
 |some r=>pure r
 |none=>pure (some c.snd)
noncomputable def uR(lo n nrem:Nat):StateT SortSt Sem DescSt:=
 forIn [n:nrem] ((none,n,0):DescSt) λ_ c=>do
  let x <-ltAt' (lo+c.snd.fst) (lo+c.snd.fst-1)
  match x with
  |some smaller=>
   if smaller=true then
    if c.snd.snd>0 then do
     reverseSlice' (lo+c.snd.fst-(c.snd.snd+1)) (lo+c.snd.fst)
     pure (ForInStep.yield (none,c.snd.fst+1,0))
    else pure (ForInStep.yield (none,c.snd.fst+1,0))
   else do
    let x <-ltAt' (lo+c.snd.fst-1) (lo+c.snd.fst)
    match x with
    |some larger=>
     if larger=true then pure (ForInStep.done (none,c.snd.fst,c.snd.snd))
     else pure (ForInStep.yield (none,c.snd.fst+1,c.snd.snd+1))
    |_=>pure (ForInStep.done (some none,c.snd.fst,c.snd.snd))
  |_=>pure (ForInStep.done (some none,c.snd.fst,c.snd.snd))
noncomputable def ez(lo n nrem:Nat):StateT SortSt Sem (Option Nat):=do
 liftM (rule "list.sort.descending-run")
 let c <-uR lo (n+1) nrem
 match c.fst with
 |some r=>pure r
 |none=>
  if c.snd.snd>0 then do
   reverseSlice' (lo+c.snd.fst-(c.snd.snd+1)) (lo+c.snd.fst)
   j9 lo c.snd.fst nrem
  else j9 lo c.snd.fst nrem
theorem oG(lo nrem:Nat):countRun' lo nrem=(do
  let c <-ascL lo 1 nrem
  match c.fst with
  |some r=>pure r
  |none=>
   if(c.snd==nrem)=true then pure (some c.snd)
   else if c.snd>1 then do
    let x <-ltAt' lo (lo+c.snd-1)
    match x with
    |some rose=>if rose=true then pure (some c.snd)else do
      reverseSlice' lo (lo+c.snd)
      ez lo c.snd nrem
    |_=>pure none
   else ez lo c.snd nrem):=by
 rw[countRun'_eq];unfold ez j9 uR ascL;dsimp only;congr 1;funext c;obtain⟨r,n⟩:=c;cases r with
 |some r=>rfl
 |none=>
  dsimp only;split
  .rfl
  .split
   .congr 1
    funext x;cases x with
    |none=>rfl
    |some rose=>
     dsimp only;split
     .rfl
     .congr 1
      funext u0;congr 1;funext u1;congr 1;congr 1;funext c2;obtain⟨r2,n2,q2⟩:=c2;cases r2 with
      |some r2=>rfl
      |none=>
       dsimp only;split
       .congr 1
        funext u2;congr 1;funext u3;congr 1;funext c3;obtain⟨r3,n3⟩:=c3;cases r3<;>rfl
       .congr 1
        funext u3;congr 1;funext c3;obtain⟨r3,n3⟩:=c3;cases r3<;>rfl
   .congr 1
    funext u1;congr 1;congr 1;funext c2;obtain⟨r2,n2,q2⟩:=c2;cases r2 with
    |some r2=>rfl
    |none=>
     dsimp only;split
     .congr 1
      funext u2;congr 1;funext u3;congr 1;funext c3;obtain⟨r3,n3⟩:=c3;cases r3<;>rfl
     .congr 1
      funext u3;congr 1;funext c3;obtain⟨r3,n3⟩:=c3;cases r3<;>rfl
section
variable{M:Model}{A:Around}{E:Value->Shared->Prop}{s:Shared}{κ:Keyed->Int}{S:Keyed->Prop}{kd:SortKind}{lo:Nat}{st0 st:SortSt}
theorem jW{i j:Nat}{Q:Unit->SortSt->Prop}(h:Q () (setArr st (mirror (arrOf st) i j ((j-i)/2)))):wpS M A E s (reverseSlice' i j) Q st:=by
 rw[reverseSlice'_eq];exact wpS_modify h
theorem pf(T:cu M A E s kd κ S){a nrem:Nat}{Q:AscSt->SortSt->Prop}(hn:lo+nrem<=(arrOf st0).size)(ha:1<=a)(han:a<=nrem)(hB:SB S kd lo st0 st)(hs:lK κ (arrOf st) lo a)
  (h:∀n,a<=n->n<=nrem->lK κ (arrOf st) lo n->(n=nrem\/KA κ (arrOf st) (lo+n)<KA κ (arrOf st) (lo+n-1))->Q (none,n) st):wpS M A E s (ascL lo a nrem) Q st:=by
 unfold ascL;refine wpS_forRange (I:=λx c st'=>st'=st/\c=(none,x)/\lK κ (arrOf st) lo x) ?step ?fin ⟨rfl,rfl,hs⟩
 case fin=>
  rintro c st' ⟨rfl,rfl,hs'⟩;rw[show max a nrem=nrem by lia]at hs' ⊢;exact h nrem han (Nat.le_refl _) hs' (.inl rfl)
 case step=>
  rintro x c st' hax hxn ⟨rfl,rfl,hs'⟩;dsimp only;refine wpS_bind (gY T hB (by lia) (by lia) ?_);by_cases hless:KA κ (arrOf st') (lo+x)<KA κ (arrOf st') (lo+x-1)
  .simp only[hless,decide_true,if_true]
   exact wpS_pure (h x hax (by lia) hs' (.inr hless))
  .simp only[hless,decide_false,Bool.false_eq_true,if_false]
   refine wpS_pure ⟨rfl,rfl,λi j hij hj=>?_⟩
   by_cases hjx:j<x
   .exact hs' i j hij hjx
   .have hj':j=x:=by lia
    subst hj';by_cases hi':i=j
    .subst hi';exact Int.le_refl _
    .rw[show lo+j-1=lo+(j-1) by lia]at hless
     exact Int.le_trans (hs' i (j-1) (by lia) (by lia)) (Int.not_lt.mp hless)
theorem j5(T:cu M A E s kd κ S){n nrem:Nat}{Q:Option Nat->SortSt->Prop}(hn:lo+nrem<=(arrOf st0).size)(h1:1<=n)(hnn:n<=nrem)(hB:SB S kd lo st0 st)(hs:ju κ (arrOf st) lo n)
  (h:∀m st',SB S kd lo st0 st'->1<=m->m<=nrem->lK κ (arrOf st') lo m->Q (some m) st'):wpS M A E s (j9 lo n nrem) Q st:=by
 unfold j9;have hsz:lo+n<=(arrOf st).size:=by rw[hB.size];lia
 refine wpS_bind (jW ?_);have hB':SB S kd lo st0 (setArr st (mirror (arrOf st) lo (lo+n) ((lo+n-lo)/2))):=hB.setArr (mirror_perm _ _ _ _) (eS hsz (Nat.le_refl _));refine wpS_bind (pf T hn h1 hnn hB' ?_ λm hm1 hm2 hsm _=>wpS_pure (h m _ hB' (by lia) hm2 hsm))
 intro i j hij hj;show KA κ (mirror (arrOf st) lo (lo+n) ((lo+n-lo)/2)) (lo+i)<=KA κ (mirror (arrOf st) lo (lo+n) ((lo+n-lo)/2)) (lo+j);rw[jt hsz,jt hsz,if_pos (by lia),if_pos (by lia),show lo+(lo+n)-1-(lo+i)=lo+(n-1-i) by lia,show lo+(lo+n)-1-(lo+j)=lo+(n-1-j) by lia];exact hs _ _ (by lia) (by lia)
theorem vj(T:cu M A E s kd κ S){n nrem:Nat}{Q:DescSt->SortSt->Prop}(hn:lo+nrem<=(arrOf st0).size)(h1:1<=n)(hnn:n<=nrem)(hB:SB S kd lo st0 st)(hs:ju κ (arrOf st) lo n)
  (h:∀m neq st',SB S kd lo st0 st'->n<=m->m<=nrem->ju κ (arrOf st') lo m->neq+1<=m->(∀i,lo+m-(neq+1)<=i->i<lo+m->KA κ (arrOf st') i=KA κ (arrOf st') (lo+m-1))->Q (none,m,neq) st'):wpS M A E s (uR lo n nrem) Q st:=by
 unfold uR;refine wpS_forRange (I:=λx c st'=>∃neq,c=(none,x,neq)/\SB S kd lo st0 st'/\ju κ (arrOf st') lo x/\neq+1<=x/\
   (∀i,lo+x-(neq+1)<=i->i<lo+x->KA κ (arrOf st') i=KA κ (arrOf st') (lo+x-1))) ?step ?fin ⟨0,rfl,hB,hs,by lia,λi h1 h2=>by congr 1;lia⟩
 case fin=>
  rintro c st' ⟨neq,rfl,hB',hs',hq,he⟩;rw[show max n nrem=nrem by lia]at hs' hq he ⊢;exact h nrem neq st' hB' hnn (Nat.le_refl _) hs' hq he
 case step=>
  rintro x c st' hax hxn ⟨neq,rfl,hB',hs',hq,he⟩;dsimp only;have hsz:lo+x<=(arrOf st').size:=by rw[hB'.size];lia
  have e1:lo+x-1=lo+(x-1):=by lia
  refine wpS_bind (gY T hB' (by lia) (by lia) ?_);by_cases hless:KA κ (arrOf st') (lo+x)<KA κ (arrOf st') (lo+x-1)
  .simp only[hless,decide_true,if_true]
   have step1:∀xs:Array Keyed,(∀k,KA κ xs k=KA κ (arrOf st') k)->ju κ xs lo (x+1):=by
    intro xs hk i j hij hj;rw[hk,hk];by_cases hjx:j<x
    .exact hs' i j hij hjx
    .have hj':j=x:=by lia
     subst hj';by_cases hi':i=j
     .subst hi';exact Int.le_refl _
     .rw[e1]at hless
      exact Int.le_trans (Int.le_of_lt hless) (hs' i (j-1) (by lia) (by lia))
   by_cases hneq:neq>0
   .rw[if_pos hneq]
    refine wpS_bind (jW (wpS_pure ⟨0,rfl,hB'.setArr (mirror_perm _ _ _ _) (eS hsz (by lia)),step1 _ (bI hsz he),by lia,λi h1 h2=>by congr 1;lia⟩))
   .rw[if_neg hneq]
    exact wpS_pure ⟨0,rfl,hB',step1 _ (λ_=>rfl),by lia,λi h1 h2=>by congr 1;lia⟩
  .simp only[hless,decide_false,Bool.false_eq_true,if_false]
   refine wpS_bind (gY T hB' (by lia) (by lia) ?_);by_cases hlarger:KA κ (arrOf st') (lo+x-1)<KA κ (arrOf st') (lo+x)
   .simp only[hlarger,decide_true,if_true]
    exact wpS_pure (h x neq st' hB' hax (by lia) hs' hq he)
   .simp only[hlarger,decide_false,Bool.false_eq_true,if_false]
    have heqx:KA κ (arrOf st') (lo+x)=KA κ (arrOf st') (lo+x-1):=by lia
    refine wpS_pure ⟨neq+1,rfl,hB',λi j hij hj=>?_,by lia,λi h1 h2=>?_⟩
    .by_cases hjx:j<x
     .exact hs' i j hij hjx
     .have hj':j=x:=by lia
      subst hj';by_cases hi':i=j
      .subst hi';exact Int.le_refl _
      .rw[heqx,e1];exact hs' i (j-1) (by lia) (by lia)
    .rw[show lo+(x+1)-1=lo+x by lia]
     by_cases hix:i=lo+x
     .subst hix;rfl
     .rw[heqx];exact he i (by lia) (by lia)
theorem gk(T:cu M A E s kd κ S){n nrem:Nat}{Q:Option Nat->SortSt->Prop}(hn:lo+nrem<=(arrOf st0).size)(hnn:n+1<=nrem)(hB:SB S kd lo st0 st)(hs:ju κ (arrOf st) lo (n+1))
  (h:∀m st',SB S kd lo st0 st'->1<=m->m<=nrem->lK κ (arrOf st') lo m->Q (some m) st'):wpS M A E s (ez lo n nrem) Q st:=by
 unfold ez;refine wpS_bind (wpS_lift (wpAny_rule ⟨rfl,?_⟩));refine wpS_bind (vj T hn (by lia) hnn hB hs λm neq st' hB' hm1 hm2 hs' hq he=>?_)
 dsimp only;have hsz:lo+m<=(arrOf st').size:=by rw[hB'.size];lia
 by_cases hneq:neq>0
 .rw[if_pos hneq]
  refine wpS_bind (jW (j5 T hn (by lia) hm2 (hB'.setArr (mirror_perm _ _ _ _) (eS hsz (by lia))) ?_ h));intro i j hij hj;show KA κ (mirror (arrOf st') _ _ _) (lo+j)<=KA κ (mirror (arrOf st') _ _ _) (lo+i);rw[bI hsz he,bI hsz he];exact hs' i j hij hj
 .rw[if_neg hneq]
  exact j5 T hn (by lia) hm2 hB' hs' h
theorem zx(T:cu M A E s kd κ S){nrem:Nat}{Q:Option Nat->SortSt->Prop}(hn:lo+nrem<=(arrOf st0).size)(h1:1<=nrem)(hB:SB S kd lo st0 st)
  (h:∀m st',SB S kd lo st0 st'->1<=m->m<=nrem->lK κ (arrOf st') lo m->Q (some m) st'):wpS M A E s (countRun' lo nrem) Q st:=by
 rw[oG];refine wpS_bind (pf T hn (Nat.le_refl 1) h1 hB (λi j hij hj=>by rw[show i=j by lia];exact Int.le_refl _) λn hn1 hn2 hsn hor=>?_)
 dsimp only;by_cases hnn:n=nrem
 .rw[if_pos (by simpa using hnn)]
  exact wpS_pure (h n st hB hn1 hn2 hsn)
 .rw[if_neg (by simpa using hnn)]
  have hlt:KA κ (arrOf st) (lo+n)<KA κ (arrOf st) (lo+(n-1)):=by
   have:=hor.resolve_left hnn
   rwa [show lo+n-1=lo+(n-1) by lia]at this
  by_cases hgt:n>1
  .rw[if_pos hgt]
   refine wpS_bind (gY T hB (by lia) (by lia) ?_);by_cases hrose:KA κ (arrOf st) lo<KA κ (arrOf st) (lo+n-1)
   .simp only[hrose,decide_true,if_true]
    exact wpS_pure (h n st hB hn1 hn2 hsn)
   .simp only[hrose,decide_false,Bool.false_eq_true,if_false]
    have hsz:lo+n<=(arrOf st).size:=by rw[hB.size];lia
    have hall:∀k,k<n->KA κ (arrOf st) (lo+k)=KA κ (arrOf st) (lo+n-1):=by
     intro k hk;have a1:=hsn 0 k (by lia) hk;have a2:=hsn k (n-1) (by lia) (by lia);rw[Nat.add_zero]at a1;rw[show lo+n-1=lo+(n-1) by lia]at hrose ⊢
     lia
    have hall':∀k,lo<=k->k<lo+n->KA κ (arrOf st) k=KA κ (arrOf st) (lo+n-1):=λk k1 k2=>by
     have:=hall (k-lo) (by lia)
     rwa [show lo+(k-lo)=k by lia]at this
    refine wpS_bind (jW (gk T hn (by lia) (hB.setArr (mirror_perm _ _ _ _) (eS hsz (Nat.le_refl _))) ?_ h));intro i j hij hj;show KA κ (mirror (arrOf st) _ _ _) (lo+j)<=KA κ (mirror (arrOf st) _ _ _) (lo+i);rw[bI hsz hall',bI hsz hall'];by_cases hjn:j<n
    .rw[hall i (by lia),hall j hjn];exact Int.le_refl _
    .have hj':j=n:=by lia
     subst hj';by_cases hi':i=j
     .subst hi';exact Int.le_refl _
     .rw[hall i (by lia),show lo+j-1=lo+(j-1) by lia];exact Int.le_of_lt hlt
  .rw[if_neg hgt]
   have hn1':n=1:=by lia
   subst hn1';refine gk T hn (by lia) hB ?_ h;intro i j hij hj;by_cases hi':i=j
   .subst hi';exact Int.le_refl _
   .have hi0:i=0:=by lia
    have hj1:j=1:=by lia
    subst hi0;subst hj1;exact Int.le_of_lt hlt
end
noncomputable def i0:Nat->List (List Keyed)->List (Nat×Nat)
 |_,[]=>[]
 |o,g::gs=>(o,g.length)::i0 (o+g.length) gs
theorem g8:∀(A B:List (List Keyed)) (o:Nat),i0 o (A++B)=i0 o A++i0 (o+A.flatten.length) B
 |[],B,o=>by simp[i0]
 |g::A,B,o=>by
  rw[List.cons_append,i0,i0,g8 A B,List.flatten_cons,List.length_append,Nat.add_assoc];rfl
theorem j8:∀(A:List (List Keyed)) (o:Nat),(i0 o A).length=A.length
 |[],_=>rfl
 |g::A,o=>by rw[i0,List.length_cons,List.length_cons,j8 A]
section
variable{M:Model}{A:Around}{E:Value->Shared->Prop}{s:Shared}{κ:Keyed->Int}{S:Keyed->Prop}{kd:SortKind}{all:List Keyed}
structure RS (κ:Keyed->Int) (S:Keyed->Prop) (kd:SortKind) (all:List Keyed) (st:SortSt) (segs:List (List Keyed)) (rest:List Keyed):Prop where
 arr:(arrOf st).toList=segs.flatten++rest
 tl:(pendingOf st).toList.map (λe=>(e.1,e.2.1))=i0 0 segs
 asc:∀g∈segs,Asc κ g
 ne:∀g∈segs,g≠[]
 kind:kindOf st=kd
 failed:failedOf st=none
 perm:(arrOf st).toList.Perm all
 sall:∀x∈all,S x
theorem RS.size{st:SortSt}{segs:List (List Keyed)}{rest:List Keyed}(h:RS κ S kd all st segs rest):(pendingOf st).size=segs.length:=by
 have:=congrArg List.length h.tl;rw[List.length_map,Array.length_toList,j8]at this;exact this
theorem DG{α:Type}{l:List α}{i:Nat}(h:i+1<l.length):∃A x y B,l=A++x::y::B/\A.length=i:=
 ⟨l.take i,l[i],l[i+1],l.drop (i+2),by
  conv=>lhs;rw[<-List.take_append_drop i l]
  rw[List.drop_eq_getElem_cons (by lia),List.drop_eq_getElem_cons h],by rw[List.length_take];lia⟩
theorem j6(T:cu M A E s kd κ S){st:SortSt}{segs:List (List Keyed)}{rest:List Keyed}{i:Nat}{Q:Bool->SortSt->Prop}(h:RS κ S kd all st segs rest)(hi:i+1<segs.length)
  (q:∀st' segs',RS κ S kd all st' segs' rest->segs'.length+1=segs.length->segs'.flatten.length=segs.flatten.length->Q true st'):wpS M A E s (mergeAt' i) Q st:=by
 obtain⟨S1,g1,g2,S2,rfl,e⟩:=DG hi;have ha:(arrOf st).toList=S1.flatten++(g1++(g2++(S2.flatten++rest))):=by rw[h.arr];simp[List.append_assoc]
 have ht:=h.tl;rw[g8]at ht;simp only[i0,Nat.zero_add]at ht;obtain⟨P1,P2,ep,e1,e2⟩:=List.map_eq_append_iff.mp ht;obtain⟨⟨a1,a2,pw⟩,P3,rfl,f1,e3⟩:=List.map_eq_cons_iff.mp e2;obtain⟨⟨b1,b2,pw2⟩,P4,rfl,f2,e4⟩:=List.map_eq_cons_iff.mp e3;simp only[Prod.mk.injEq]at f1 f2;obtain⟨rfl,rfl⟩:=f1;obtain⟨rfl,rfl⟩:=f2;have lP:P1.length=i:=by
  have:=congrArg List.length e1;rw[List.length_map,j8]at this
  lia
 have p1:(pendingOf st)[i]? = some (S1.flatten.length,g1.length,pw):=by
  rw[<-Array.getElem?_toList,ep,List.getElem?_append_right (by lia),lP,Nat.sub_self];rfl
 have p2:(pendingOf st)[i+1]? = some (S1.flatten.length+g1.length,g2.length,pw2):=by
  rw[<-Array.getElem?_toList,ep,List.getElem?_append_right (by lia),lP,show i+1-i=1 by lia];rfl
 refine zv T h.kind h.failed ha (h.asc _ (by simp)) (h.asc _ (by simp)) (h.ne _ (by simp)) (h.ne _ (by simp)) (λx hx=>h.sall x (h.perm.mem_iff.mp (by rw[ha];simp at hx ⊢;rcases hx with hx|hx<;>simp[hx]))) p1 p2 λst' g gp ga ea ek ef epd=>?_
 have lg:g.length=g1.length+g2.length:=by rw[gp.length_eq,List.length_append]
 refine q st' (S1++g::S2) ⟨by rw[ea];simp[List.append_assoc],?_,λx hx=>?_,λx hx=>?_,ek,ef,?_,h.sall⟩ (by simp;lia) (by simp[lg];lia)
 .rw[epd,Array.toList_eraseIdxIfInBounds,Array.toList_setIfInBounds,ep,<-lP]
  have t1:(P1++(S1.flatten.length,g1.length,pw)::(S1.flatten.length+g1.length,g2.length,pw2)::P4).set P1.length (S1.flatten.length,g1.length+g2.length,pw)=P1++(S1.flatten.length,g1.length+g2.length,pw)::(S1.flatten.length+g1.length,g2.length,pw2)::P4:=by simp
  rw[t1];have t2:(P1++(S1.flatten.length,g1.length+g2.length,pw)::(S1.flatten.length+g1.length,g2.length,pw2)::P4).eraseIdx (P1.length+1)=P1++(S1.flatten.length,g1.length+g2.length,pw)::P4:=by
   rw[List.eraseIdx_append_of_length_le (by lia),show P1.length+1-P1.length=1 by lia];rfl
  rw[t2,List.map_append,e1,List.map_cons,e4,g8,i0,lg,Nat.zero_add,Nat.add_assoc]
 .rcases List.mem_append.mp hx with hx|hx
  .exact h.asc x (by simp[hx])
  .rcases List.mem_cons.mp hx with rfl|hx
   .exact ga
   .exact h.asc x (by simp[hx])
 .rcases List.mem_append.mp hx with hx|hx
  .exact h.ne x (by simp[hx])
  .rcases List.mem_cons.mp hx with rfl|hx
   .have:=h.ne g1 (by simp)
    intro z;subst z;have:=List.length_pos_iff.mpr this;simp at lg
    lia
   .exact h.ne x (by simp[hx])
 .have hp:=h.perm
  rw[ha]at hp;rw[ea];refine List.Perm.trans ((List.Perm.refl S1.flatten).append ?_) hp;rw[<-List.append_assoc g1];exact gp.append_right _
end
section
variable{M:Model}{A:Around}{E:Value->Shared->Prop}{s:Shared}{κ:Keyed->Int}{S:Keyed->Prop}{kd:SortKind}{all:List Keyed}
theorem tQ{st0 st:SortSt}{segs:List (List Keyed)}{rest:List Keyed}{n:Nat}(h:RS κ S kd all st0 segs rest)(hB:SB S kd segs.flatten.length st0 st)(hu:lK κ (arrOf st) segs.flatten.length n)(hn:segs.flatten.length+n<=(arrOf st0).size):
  ∃rest',RS κ S kd all st segs rest'/\Asc κ (rest'.take n)/\rest'.length=rest.length:=by
 have hp:(arrOf st).toList.Perm (arrOf st0).toList:=Array.perm_iff_toList_perm.mp hB.perm;have pre0:∀lo,(∀k,k<lo->(arrOf st)[k]? = (arrOf st0)[k]?)->(arrOf st).toList.take lo=(arrOf st0).toList.take lo:=λlo hq=>by
  apply List.ext_getElem?;intro k;by_cases hk:k<lo
  .rw[List.getElem?_take_of_lt hk,List.getElem?_take_of_lt hk,Array.getElem?_toList,Array.getElem?_toList]
   exact hq k hk
  .rw[List.getElem?_eq_none (by rw[List.length_take];lia),List.getElem?_eq_none (by rw[List.length_take];lia)]
 have pre:(arrOf st).toList.take segs.flatten.length=segs.flatten:=by rw[pre0 _ hB.pre,h.arr,List.take_left]
 have arr:(arrOf st).toList=segs.flatten++(arrOf st).toList.drop segs.flatten.length:=by
  conv=>lhs;rw[<-List.take_append_drop segs.flatten.length (arrOf st).toList,pre]
 have pm:=hp;rw[arr,h.arr]at pm;have pr:=(List.perm_append_left_iff _).mp pm;refine⟨_,⟨arr,by rw[hB.pend];exact h.tl,h.asc,h.ne,hB.kind,hB.failed,hp.trans h.perm,h.sall⟩,?_,pr.length_eq⟩;have get:∀i,i<n->((arrOf st).toList.drop segs.flatten.length)[i]? = (arrOf st)[segs.flatten.length+i]?:=λi _=>by rw[List.getElem?_drop,Array.getElem?_toList]
 refine List.pairwise_iff_getElem.mpr λi j hi hj hij=>?_
 rw[List.length_take]at hi hj;have:=hu i j (by lia) (by lia);unfold KA at this;rw[<-get i (by lia),<-get j (by lia),List.getElem?_eq_getElem (by lia),List.getElem?_eq_getElem (by lia)]at this;rw[List.getElem_take,List.getElem_take];exact this
theorem RS.push{st:SortSt}{segs:List (List Keyed)}{rest:List Keyed}{n pw:Nat}(h:RS κ S kd all st segs rest)(ha:Asc κ (rest.take n))(h1:1<=n)(hn:n<=rest.length):
  RS κ S kd all (setPending st ((pendingOf st).push (segs.flatten.length,n,pw))) (segs++[rest.take n]) (rest.drop n):=by
 have ln:(rest.take n).length=n:=by rw[List.length_take];lia
 refine⟨?_,?_,λg hg=>?_,λg hg=>?_,h.kind,h.failed,h.perm,h.sall⟩
 .rw[List.flatten_append,List.append_assoc]
  simp only[List.flatten_cons,List.flatten_nil,List.append_nil];rw[List.take_append_drop];exact h.arr
 .show((pendingOf st).push _).toList.map _=_
  rw[Array.toList_push,List.map_append,h.tl,g8];simp[i0,ln]
 .rcases List.mem_append.mp hg with hg|hg
  .exact h.asc g hg
  .rw[List.mem_singleton.mp hg];exact ha
 .rcases List.mem_append.mp hg with hg|hg
  .exact h.ne g hg
  .rw[List.mem_singleton.mp hg]
   intro z;rw[z]at ln;simp at ln
   lia
theorem RS.pow{st:SortSt}{segs:List (List Keyed)}{rest:List Keyed}{pw i:Nat}(h:RS κ S kd all st segs rest):RS κ S kd all (setPending st ((pendingOf st).modify i λx=>(x.1,x.2.1,pw))) segs rest:=by
 refine⟨h.arr,?_,h.asc,h.ne,h.kind,h.failed,h.perm,h.sall⟩;rw[<-h.tl];show((pendingOf st).modify i _).toList.map _=_;rw[Array.toList_modify];apply List.ext_getElem?;intro k;rw[List.getElem?_map,List.getElem?_map,List.getElem?_modify];cases(pendingOf st).toList[k]? with
 |none=>rfl
 |some x=>
  by_cases e:i=k
  .simp[e]
  .simp[e]
noncomputable def mL(size pw:Nat):StateT SortSt Sem (Option Unit×Unit):=
 forIn [0:size] ((none,()):Option Unit×Unit) λ_ _=>do
  let d <-get
  match if(pendingOf d).size>1 then(pendingOf d)[(pendingOf d).size-2]? else none with
  |some (_,_,older)=>
   if older<=pw then pure (ForInStep.done (none,()))
   else do
    let ok <-mergeAt' ((pendingOf d).size-2)
    if(!ok)=true then pure (ForInStep.done (some (),()))else pure (ForInStep.yield (none,()))
  |_=>pure (ForInStep.done (none,()))
theorem iy(T:cu M A E s kd κ S){st:SortSt}{segs:List (List Keyed)}{rest:List Keyed}{size pw:Nat}(r:RS κ S kd all st segs rest):
  wpS M A E s (mL size pw) (λc st'=>c=(none,())/\∃segs',RS κ S kd all st' segs' rest/\segs'.flatten.length=segs.flatten.length) st:=by
 unfold mL;refine wpS_forRange (I:=λ_ c st'=>c=(none,())/\∃segs',RS κ S kd all st' segs' rest/\segs'.flatten.length=segs.flatten.length) ?step (λ_ _ h=>h) ⟨rfl,segs,r,rfl⟩
 rintro t c st' _ _ ⟨rfl,segs',r',e'⟩;refine wpS_bind (wpS_get ?_);have hs:=r'.size;by_cases c1:(pendingOf st').size>1
 .rw[if_pos c1,Array.getElem?_eq_getElem (by lia)]
  dsimp only;split
  .exact wpS_pure ⟨rfl,segs',r',e'⟩
  .refine wpS_bind (j6 T r' (by lia) λst2 segs2 r2 _ e2=>?_)
   simp only[Bool.not_true,Bool.false_eq_true,if_false];exact wpS_pure ⟨rfl,segs2,r2,e2.trans e'⟩
 .rw[if_neg c1]
  exact wpS_pure ⟨rfl,segs',r',e'⟩
theorem j3{segs:List (List Keyed)}{rest:List Keyed}{n:Nat}{st2:SortSt}{segs2:List (List Keyed)}(r2:RS κ S kd all st2 segs2 rest)(ha:Asc κ (rest.take n))(h1:1<=n)(hn:n<=rest.length)(e2:segs2.flatten.length=segs.flatten.length):wpS M A E s (do
   modify λs=>setPending s ((pendingOf s).push (segs.flatten.length,n,0))
   pure (ForInStep.yield ((none:Option Unit),segs.flatten.length+n))) (λc st'=>∃segs' rest',c=.yield (none,segs'.flatten.length)/\RS κ S kd all st' segs' rest'/\segs'.flatten.length=segs.flatten.length+n) st2:=by
 have ln:(segs2++[rest.take n]).flatten.length=segs.flatten.length+n:=by
  rw[List.flatten_append,List.length_append,e2];simp
  lia
 refine wpS_bind (wpS_modify (wpS_pure ⟨segs2++[rest.take n],rest.drop n,by rw[ln],?_,ln⟩));rw[<-e2];exact r2.push ha h1 hn
theorem o9(T:cu M A E s kd κ S){st:SortSt}{Q:Unit->SortSt->Prop}(hk:kindOf st=kd)(hf:failedOf st=none)(hp:pendingOf st = #[])(hS:∀x∈(arrOf st).toList,S x)
  (h:∀st',(arrOf st').toList.Perm (arrOf st).toList->failedOf st'=none->Asc κ (arrOf st').toList->Q () st'):wpS M A E s sortRuns' Q st:=by
 rw[sortRuns'_eq];refine wpS_bind (wpS_get ?_);dsimp only;have r0:RS κ S kd (arrOf st).toList st [] (arrOf st).toList:=⟨rfl,by rw[hp];rfl,(λ_ z=>nomatch z),(λ_ z=>nomatch z),hk,hf,List.Perm.refl _,hS⟩;have sz:∀{st':SortSt} {segs:List (List Keyed)} {rest:List Keyed},RS κ S kd (arrOf st).toList st' segs rest->(arrOf st').size=(arrOf st).size:=λr=>by
  have:=r.perm.length_eq
  rwa [Array.length_toList,Array.length_toList]at this
 refine wpS_bind (wpS_mono (wpS_forRange (I:=λt c st'=>∃segs rest,c=(none,segs.flatten.length)/\RS κ S kd (arrOf st).toList st' segs rest/\t<=segs.flatten.length)
  (Q:=λc st'=>∃segs,c.1=none/\RS κ S kd (arrOf st).toList st' segs []) ?step ?fin ⟨[],_,rfl,r0,by simp⟩) ?post)
 case fin=>
  rintro c st' ⟨segs,rest,rfl,r,ht⟩;have l:=congrArg List.length r.arr;rw[List.length_append,Array.length_toList,sz r]at l;have:rest=[]:=List.length_eq_zero_iff.mp (by lia);subst this;exact⟨segs,rfl,r⟩
 case post=>
  rintro c st' ⟨segs,hc,r⟩;rw[hc];dsimp only;have nl:segs.length<=(arrOf st).size:=by
   have l:=congrArg List.length r.arr;rw[List.append_nil,Array.length_toList,sz r]at l;have:∀L:List (List Keyed),(∀g∈L,g≠[])->L.length<=L.flatten.length:=by
    intro L
    induction L with
    |nil=>intro _;simp
    |cons g L ih=>
     intro hg;have:=ih λx hx=>hg x (List.mem_cons_of_mem _ hx)
     have:=List.length_pos_iff.mpr (hg g List.mem_cons_self);rw[List.flatten_cons,List.length_append,List.length_cons]
     lia
   have:=this segs r.ne
   lia
  refine wpS_bind (wpS_mono (wpS_forRange (I:=λt c st'=>c=(none,())/\∃segs,RS κ S kd (arrOf st).toList st' segs []/\(segs.length<=1\/segs.length+t<=(arrOf st).size))
   (Q:=λc st'=>c=(none,())/\∃segs,RS κ S kd (arrOf st).toList st' segs []/\segs.length<=1) ?step2 ?fin2 ⟨rfl,segs,r,.inr nl⟩) ?post2)
  case fin2=>
   rintro c st2 ⟨rfl,segs,r,hq⟩;exact⟨rfl,segs,r,by lia⟩
  case post2=>
   rintro c st2 ⟨rfl,segs,r,hq⟩;refine wpS_pure (h st2 r.perm r.failed ?_);rw[r.arr,List.append_nil]
   match segs,hq with
   |[],_=>exact List.Pairwise.nil
   |[g],_=>simpa using r.asc g (by simp)
  case step2=>
   rintro t c st2 _ ht ⟨rfl,segs,r,hq⟩;refine wpS_bind (wpS_get ?_);have hs:=r.size;by_cases c1:(pendingOf st2).size<=1
   .rw[if_pos c1]
    exact wpS_pure ⟨rfl,segs,r,by lia⟩
   .rw[if_neg c1]
    have ix:∀(c:Prop) [Decidable c],(if c then(pendingOf st2).size-2-1 else(pendingOf st2).size-2)+1<segs.length:=λc _=>by split<;>lia
    refine wpS_bind (j6 T r (ix _) λst3 segs3 r3 e3 _=>?_)
    simp only[Bool.not_true,Bool.false_eq_true,if_false];exact wpS_pure ⟨rfl,segs3,r3,by lia⟩
 case step=>
  rintro t c st' _ ht ⟨segs,rest,rfl,r,hl⟩;dsimp only;have l:=congrArg List.length r.arr;rw[List.length_append,Array.length_toList,sz r]at l;by_cases c1:segs.flatten.length>=(arrOf st).size
  .rw[if_pos c1]
   have:rest=[]:=List.length_eq_zero_iff.mp (by lia);subst this;exact wpS_pure ⟨segs,rfl,r⟩
  rw[if_neg c1];have b0:SB S kd segs.flatten.length st' st':=⟨Array.Perm.refl _,λ_ _=>rfl,r.kind,r.failed,rfl,rfl,λx hx=>hS x (r.perm.mem_iff.mp hx)⟩
  refine wpS_bind (zx T (by rw[sz r];lia) (by lia) b0 λm st2 b2 m1 m2 u2=>?_)
  dsimp only;by_cases c2:m<minRun' (arrOf st).size (arrOf st).size 0
  .rw[if_pos c2]
   refine wpS_bind (wpS_lift (wpAny_rule ⟨rfl,?_⟩));refine wpS_bind (zy T (by rw[sz r];lia) (by lia) b2 u2 λst3 b3 u3=>?_)
   simp only[Bool.not_true,Bool.false_eq_true,if_false];obtain⟨rest',r3,a3,l3⟩:=tQ r b3 u3 (by rw[sz r];lia);refine wpS_mono (Q:=λc st'=>∃segs' rest',c=.yield (none,segs'.flatten.length)/\RS κ S kd (arrOf st).toList st' segs' rest'/\segs'.flatten.length=segs.flatten.length+(min ((arrOf st).size-segs.flatten.length) (minRun' (arrOf st).size (arrOf st).size 0))) ?_ ?_
   .refine wpS_bind (wpS_get ?_)
    cases e:(pendingOf st3).back? with
    |none=>exact j3 r3 a3 (by lia) (by lia) rfl
    |some x=>
     obtain⟨s1,n1,p1⟩:=x;dsimp only;refine wpS_bind (wpS_mono (iy (size:=(arrOf st).size) (pw:=power' (arrOf st).size (2*s1+n1) (2*s1+n1+n1+(min ((arrOf st).size-segs.flatten.length) (minRun' (arrOf st).size (arrOf st).size 0))) (arrOf st).size) T r3) ?_);rintro c st5 ⟨rfl,segs5,r5,e5⟩;dsimp only;exact wpS_bind (wpS_modify (j3 r5.pow a3 (by lia) (by lia) e5))
   .rintro c st4 ⟨segs',rest2,rfl,r4,e4⟩
    exact⟨segs',rest2,rfl,r4,by lia⟩
  .rw[if_neg c2]
   obtain⟨rest',r3,a3,l3⟩:=tQ r b2 u2 (by rw[sz r];lia);refine wpS_mono (Q:=λc st'=>∃segs' rest',c=.yield (none,segs'.flatten.length)/\RS κ S kd (arrOf st).toList st' segs' rest'/\segs'.flatten.length=segs.flatten.length+m) ?_ ?_
   .refine wpS_bind (wpS_get ?_)
    cases e:(pendingOf st2).back? with
    |none=>exact j3 r3 a3 m1 (by lia) rfl
    |some x=>
     obtain⟨s1,n1,p1⟩:=x;dsimp only;refine wpS_bind (wpS_mono (iy (size:=(arrOf st).size) (pw:=power' (arrOf st).size (2*s1+n1) (2*s1+n1+n1+m) (arrOf st).size) T r3) ?_);rintro c st5 ⟨rfl,segs5,r5,e5⟩;dsimp only;exact wpS_bind (wpS_modify (j3 r5.pow a3 m1 (by lia) e5))
   .rintro c st4 ⟨segs',rest2,rfl,r4,e4⟩
    exact⟨segs',rest2,rfl,r4,by lia⟩
end
end VL
namespace VL
open PySem PySem.Spec PyProof.Rows L2
section
variable{prog:Program}{w:World}{A:Around}{E:Value->Shared->Prop}{s:Shared}
theorem gx{a:Addr}{vs:List Value}{n:Nat}{P:PySem.Fin->Shared->Prop}{kd:SortKind}{κ:Keyed->Int}{S:Keyed->Prop}(ho:s.heap.get? a=some (seqObj "list" vs.toArray n))(PA:Heap->Prop)(x:PA s.heap)(keeps:∀h h':Heap,PA h->(∀b o,o.cls=.type "tuple" -> h.get? b=some o->h'.get? b=some o)->PA h')
  (kindw:2<=vs.length->∀s':Shared,PA s'.heap->∀Q:SortKind->Shared->Prop,Q kd s'->wpAny (model prog w) A (keyKind' vs.toArray) Q E s') (T:∀s':Shared,PA s'.heap->cu (model prog w) A E s' kd κ S) (hS:∀v∈vs,S (v,v)) (hz:vs.length<=sizeLine)
  (h:∀out:List Value,out.Perm vs->(out.Pairwise λx y=>κ (x,x)<= κ (y,y))->P (.done (.ret .none)) {s with heap:=sortedHeap s.heap a vs out.toArray}):
  wpAny (model prog w) A (Builtin.«list.sort» ⟨[.ref a],[]⟩) P E s:=by
 rw[list_sort_plain];have ha:a<s.heap.objs.size:=Heap.lt_size ho;refine wpAny_bind (listItems_at ho rfl ?_);refine wpAny_bind (listUpdate_at ho rfl ?_);obtain⟨e1,ho1⟩:∃e1,(s.heap.update a (Obj.mapSeq λ_=>#[])).get? a=some (seqObj "list" #[] e1):=⟨_,get?_update_seq ho (λ_=>#[])⟩;refine wpAny_bind (seqEpoch_at ho1 rfl ?_);refine wpAny_bind (wpAny_newTuple ?_);refine wpAny_bind (wpAny_newList ?_);refine wpAny_holding ?_;have ho6:(((s.heap.update a (Obj.mapSeq λ_=>#[])).push (seqObj "tuple" vs.toArray 0)).push (seqObj "list" #[] 0)).get? a=some (seqObj "list" #[] e1):=Heap.get?_push_of_some _ (Heap.get?_push_of_some _ ho1);have kp:∀b o,o.cls=.type "tuple" -> s.heap.get? b=some o->(((s.heap.update a (Obj.mapSeq λ_=>#[])).push (seqObj "tuple" vs.toArray 0)).push (seqObj "list" #[] 0)).get? b=some o:=λb o hc eo=>by
  have hb:b≠a:=λz=>by
   subst z;rw[ho]at eo;cases eo;exact absurd hc (by intro z;injection z with z;exact absurd z (by decide))
  exact Heap.get?_push_of_some _ (Heap.get?_push_of_some _ (aX hb eo))
 have x6:=keeps _ _ x kp;show wpAny (model prog w) A _ P E {s with heap:=((s.heap.update a (Obj.mapSeq λ_=>#[])).push (seqObj "tuple" vs.toArray 0)).push (seqObj "list" #[] 0)};dsimp only;have fin:∀st':SortSt,(arrOf st').toList.Perm (pairsOf vs).toList->failedOf st'=none->Asc κ (arrOf st').toList ->
   wpAny (model prog w) A (do
    let sorted:=(arrOf st').map (·.2)
    let touched:=(<-seqEpoch a) != e1
    Builtin.List.listUpdate (.ref a) λ_=>sorted
    if let some e:=failedOf st' then rule "list.sort.comparison-raised";throw e
    if touched then rule "list.sort.modified";raiseError "ValueError" "list modified during sort"
    ret .none) P E {s with heap:=((s.heap.update a (Obj.mapSeq λ_=>#[])).push (seqObj "tuple" vs.toArray 0)).push (seqObj "list" #[] 0)}:=λst' hp hf hs=>by
  have hm:∀p∈(arrOf st').toList,p=(p.2,p.2):=λp hq=>by
   have:=hp.mem_iff.mp hq;rw[pairsOf_toList]at this;exact Prod.ext (mem_zip_self this).1 rfl
  have e2:((arrOf st').map (·.2)).toList=(arrOf st').toList.map (·.2):=Array.toList_map;have pm:((arrOf st').toList.map (·.2)).Perm vs:=by
   have:=hp.map (·.2);rw[pairsOf_toList,List.map_snd_zip (Nat.le_refl _)]at this;exact this
  have hsz:((arrOf st').map (·.2)).size=vs.length:=by rw[<-Array.length_toList,e2,pm.length_eq]
  refine wpAny_bind (seqEpoch_at ho6 rfl ?_);refine wpAny_bind (listUpdate_at ho6 rfl ?_ (hsz2:=by rw[hsz];exact Nat.le_succ_of_le hz));rw[hf];simp only[bne_self_eq_false,Bool.false_eq_true,if_false];have ea:(arrOf st').map (·.2)=((arrOf st').toList.map (·.2)).toArray:=by rw[<-e2]
  refine wpAny_pure ?_;have hh:=h ((arrOf st').toList.map (·.2)) pm ?_
  .rw[<-ea]at hh
   exact hh
  .rw[List.pairwise_map]
   refine List.Pairwise.imp_of_mem ?_ hs;intro p q hp' hq' hle;rw[hm p hp',hm q hq']at hle;exact hle
 by_cases h2:vs.toArray.size<2
 .rw[if_pos h2,if_pos h2]
  refine wpAny_bind (wpAny_pure ?_);rw[StateT.run_pure];refine wpAny_bind (wpAny_pure ?_);refine fin (SortSt.mk' general' (vs.toArray.zip vs.toArray) #[] 7 none) (List.Perm.refl _) rfl ?_;show Asc κ (pairsOf vs).toList;rw[pairsOf_toList]
  match vs,h2 with
  |[],_=>exact List.Pairwise.nil
  |[v],_=>exact List.pairwise_singleton _ _
  |_::_::_,h2=>simp at h2;lia
 .rw[if_neg h2,if_neg h2]
  refine wpAny_bind (kindw (by simp at h2;lia) _ x6 _ ?_);refine wpAny_bind (wpAny_mono (o9 (T _ x6) (st:=SortSt.mk' kd (vs.toArray.zip vs.toArray) #[] 7 none)
   (Q:=λ_ st'=>(arrOf st').toList.Perm (pairsOf vs).toList/\failedOf st'=none/\Asc κ (arrOf st').toList) rfl rfl rfl (λp hp=>?_) λst' a1 a2 a3=>⟨a1,a2,a3⟩) ?_ λ_ _ e=>e)
  .have hp:p∈(pairsOf vs).toList:=hp
   rw[pairsOf_toList]at hp;obtain⟨q1,q2⟩:=mem_zip_self hp;have:p=(p.1,p.1):=Prod.ext rfl q1.symm;rw[this];exact hS _ q2
  .rintro⟨⟨⟩,st'⟩ s' ⟨rfl,hp,hf,hs⟩
   exact fin st' hp hf hs
theorem rj:cu (model prog w) A E s oneType' (λp=>numOf p.1) (λp=>∃n t,p.1=Value.int n t):=λx y hx hy st Q ek q=>by
 obtain⟨n,t,e1⟩:=hx;obtain⟨m,u,e2⟩:=hy;rw[lt'_eq];refine wpS_bind (wpS_get ?_);rw[ek,keyLt'_oneType,e1,e2];have q:Q (some (decide (numOf x.1<numOf y.1))) st:=q;rw[e1,e2]at q;exact wpS_bind (wpS_lift (wpAny_attempt (oneLt_int ⟨rfl,wpS_pure q⟩)))
theorem kH{a:Addr}{vs:List Value}{ns:List Int}{n:Nat}{P:PySem.Fin->Shared->Prop}(ho:s.heap.get? a=some (seqObj "list" vs.toArray n))(hI:IntsAre vs ns)(hz:vs.length<=sizeLine)
  (h:∀(out:Array Value) (ns':List Int),IntsAre out.toList ns'->ns'.Perm ns->ns'.Pairwise (·<= ·)->P (.done (.ret .none)) {s with heap:=sortedHeap s.heap a vs out}):
  wpAny (model prog w) A (Builtin.«list.sort» ⟨[.ref a],[]⟩) P E s:=by
 refine gx (kd:=oneType') (κ:=λp=>numOf p.1) (S:=λp=>∃n t,p.1=Value.int n t) ho (λ_=>True) trivial (λ_ _ _ _=>trivial) (λh2 s' _ Q q=>?_) (λ_ _=>rj) (λv hv=>hI.all v hv) hz λout pm hs=>?_
 .obtain⟨v₁,v₂,rest,rfl⟩:∃v₁ v₂ rest,vs=v₁ :: v₂ :: rest:=by
   match vs,h2 with
   |v₁ :: v₂ :: rest,_=>exact⟨v₁,v₂,rest,rfl⟩
  rw[keyKind_ints hI];exact wpAny_pure q
 .refine h out.toArray (out.map numOf) (intsAre_map out λv hv=>hI.all v (pm.mem_iff.mp hv)) ?_ ?_
  .have:=pm.map numOf
   rwa [hI.nums]at this
  .rw[List.pairwise_map];exact hs
end
noncomputable def fh:ar->ar->Bool
 |.inl a,.inl b=>decide (a<b)
 |.inr a,.inr b=>decide (a.cps.toList<b.cps.toList)
 |.inl _,.inr _=>true
 |.inr _,.inl _=>false
noncomputable def da:List ar->List ar->Bool
 |[],[]=>false
 |[],_::_=>true
 |_::_,[]=>false
 |a::r,b::t=>if a=b then da r t else fh a b
noncomputable def v9(x:List ar):List (List ar)->List (List ar)
 |[]=>[x]
 |y::r=>if da y x then y::v9 x r else x::y::r
noncomputable def je:List (List ar)->List (List ar)
 |[]=>[]
 |x::r=>v9 x (je r)
noncomputable def Em:ar->Bool
 |.inl _=>true
 |.inr _=>false
noncomputable def ml:List ar->Bool
 |.inr _::r=>r.all Em
 |_=>false
noncomputable def ww:List ar->Bool
 |.inl _::r=>r.all Em
 |_=>false
theorem str_eq{x y:Str}(h:x.cps.toList=y.cps.toList):x=y:=by
 cases x;cases y;simp only[Str.mk.injEq];exact Array.toList_inj.mp h
theorem vV(a:ar):fh a a=false:=by
 cases a with
 |inl a=>simp[fh]
 |inr a=>simp[fh,List.lt_irrefl]
theorem vU(a b:ar)(h:a≠b):fh a b=!fh b a:=by
 cases a with
 |inl a=>
  cases b with
  |inl b=>
   have:a≠b:=λz=>h (by rw[z])
   simp only[fh];rcases Int.lt_trichotomy a b with q|q|q
   .rw[decide_eq_true q,decide_eq_false (by lia)];rfl
   .exact absurd q this
   .rw[decide_eq_false (by lia),decide_eq_true q];rfl
  |inr b=>rfl
 |inr a=>
  cases b with
  |inl b=>rfl
  |inr b=>
   have:a.cps.toList≠b.cps.toList:=λz=>h (by rw[str_eq z])
   simp only[fh];by_cases q:a.cps.toList<b.cps.toList
   .rw[decide_eq_true q,decide_eq_false (List.lt_asymm q)];rfl
   .rw[decide_eq_false q]
    have q:=List.not_lt.mp q;rcases List.le_iff_lt_or_eq.mp q with q|q
    .rw[decide_eq_true q];rfl
    .exact absurd q.symm this
theorem yh{a b c:ar}(h1:fh a b=true)(h2:fh b c=true):fh a c=true:=by
 cases a<;>cases b<;>cases c<;>simp only[fh,decide_eq_true_eq,Bool.false_eq_true]at h1 h2 ⊢
 .lia
 .exact List.lt_trans h1 h2
theorem kI:∀a:List ar,da a a=false
 |[]=>rfl
 |x::r=>by simp[da,kI r]
theorem iz:∀(a b:List ar),a≠b->da a b=!da b a
 |[],[],h=>absurd rfl h
 |[],_::_,_=>rfl
 |_::_,[],_=>rfl
 |x::r,y::t,h=>by
  by_cases e:x=y
  .subst e
   simp only[da,if_true];exact iz r t λz=>h (by rw[z])
  .simp only[da]
   rw[if_neg e,if_neg (Ne.symm e)];exact vU x y e
theorem iA:∀{a b c:List ar},da a b=true->da b c=true->da a c=true
 |[],[],_,h,_=>by cases h
 |[],_::_,[],_,h=>by cases h
 |[],_::_,_::_,_,_=>rfl
 |_::_,[],_,h,_=>by cases h
 |_::_,_::_,[],_,h=>by cases h
 |x::r,y::t,z::u,h1,h2=>by
  simp only[da]at h1 h2 ⊢;by_cases e:x=y
  .subst e
   rw[if_pos rfl]at h1;by_cases e2:x=z
   .subst e2
    rw[if_pos rfl]at h2 ⊢;exact iA h1 h2
   .rw[if_neg e2]at h2 ⊢
    exact h2
  .rw[if_neg e]at h1
   by_cases e2:y=z
   .subst e2
    rw[if_neg e];exact h1
   .rw[if_neg e2]at h2
    have h3:=yh h1 h2;by_cases e3:x=z
    .subst e3
     rw[vV]at h3;cases h3
    .rw[if_neg e3];exact h3
def o6(a b:List ar):Prop:=da b a=false
theorem yd{a b:List ar}(h1:o6 a b)(h2:o6 b a):a=b:=by
 by_cases e:a=b
 .exact e
 .have:=iz a b e
  unfold o6 at h1 h2;rw[h1,h2]at this;cases this
theorem C9{a b c:List ar}(h1:o6 a b)(h2:o6 b c):o6 a c:=by
 unfold o6 at *;cases h:da c a with
 |false=>rfl
 |true=>
  by_cases e:b=c
  .subst e;rw[h]at h1;cases h1
  .have:=iz b c e
   rw[h2]at this;rw[iA (by simpa using this) h]at h1;cases h1
theorem jg(x:List ar):∀l,(v9 x l).Perm (x::l)
 |[]=>.refl _
 |y::r=>by
  unfold v9;split
  .exact((jg x r).cons y).trans (.swap x y r)
  .exact .refl _
theorem jC:∀l,(je l).Perm l
 |[]=>.refl _
 |x::r=>(jg x _).trans ((jC r).cons x)
theorem uw(x:List ar):∀l,l.Pairwise o6->(v9 x l).Pairwise o6
 |[],_=>List.pairwise_singleton _ _
 |y::r,h=>by
  unfold v9;obtain⟨h1,h2⟩:=List.pairwise_cons.mp h;split
  .rename_i q
   refine List.pairwise_cons.mpr ⟨λz hz=>?_,uw x r h2⟩
   rcases List.mem_cons.mp ((jg x r).mem_iff.mp hz)with rfl|hz
   .unfold o6
    cases e:da z y with
    |false=>rfl
    |true=>
     have:=iA q e;rw[kI]at this;cases this
   .exact h1 z hz
  .rename_i q
   have q:o6 x y:=by simpa[o6]using q
   refine List.pairwise_cons.mpr ⟨λz hz=>?_,h⟩
   rcases List.mem_cons.mp hz with rfl|hz
   .exact q
   .exact C9 q (h1 z hz)
theorem jd:∀l,(je l).Pairwise o6
 |[]=>.nil
 |x::r=>uw x _ (jd r)
theorem jx:∀{a b:List (List ar)},a.Perm b->a.Pairwise o6->b.Pairwise o6->a=b
 |[],b,p,_,_=>(List.nil_perm.mp p).symm
 |x::r,[],p,_,_=>absurd p.length_eq (by simp)
 |x::r,y::t,p,h1,h2=>by
  obtain⟨a1,a2⟩:=List.pairwise_cons.mp h1;obtain⟨b1,b2⟩:=List.pairwise_cons.mp h2;have e:x=y:=by
   rcases List.mem_cons.mp (p.mem_iff.mp (List.mem_cons_self (a:=x) (l:=r)))with e|e
   .exact e
   .rcases List.mem_cons.mp (p.mem_iff.mpr (List.mem_cons_self (a:=y) (l:=t)))with f|f
    .exact f.symm
    .exact yd (a1 y f) (b1 x e)
  subst e;rw[jx ((List.perm_cons x).mp p) a2 b2]
theorem vY{a b:List (List ar)}(p:a.Perm b)(h:a.Pairwise o6):a=je b:=jx (p.trans (jC b).symm) h (jd b)
section
variable{prog:Program}{w:World}{A:Around}{E:Value->Shared->Prop}{s:Shared}
def Ij:ar->Value->Prop
 |.inl i,v=>∃t,v=.int i t
 |.inr x,v=>∃t,v=.str x t
inductive KVals:List ar->List Value->Prop
 |nil:KVals [] []
 |cons {k v ks vs}:Ij k v->KVals ks vs->KVals (k::ks) (v::vs)
theorem KVals.one:∀{k k':List ar} {vs:List Value},KVals k vs->KVals k' vs->k=k'
 |_,_,_,.nil,.nil=>rfl
 |_,_,_,.cons (k:=a) h1 r1,.cons (k:=b) h2 r2=>by
  have e:=KVals.one r1 r2;subst e;cases a<;>cases b<;>obtain⟨t,rfl⟩:=h1<;>obtain⟨u,h2⟩:=h2<;>first|cases h2;rfl|cases h2
noncomputable def dW:List ar->List ar->Bool
 |a::r,b::t=>if a=b then dW r t else Em a==Em b
 |_,_=>true
theorem xZ{fin:Bool}{Q:Bool->Shared->Prop}:∀{k1 k2:List ar} {xs ys:List Value} {i:Nat},KVals k1 xs->KVals k2 ys->dW k1 k2=true->fin=decide (xs.length<ys.length)->Q (da k1 k2) s->PySem.W.KatLex prog w A true fin Q (xs.zip ys) i s
 |_,_,_,_,i,.nil,.nil,_,hf,q=>by
  subst hf;exact PySem.W.kat_nil q
 |_,_,_,_,i,.nil,.cons h r,_,hf,q=>by
  subst hf;exact PySem.W.kat_nil (by simpa[da]using q)
 |_,_,_,_,i,.cons h r,.nil,_,hf,q=>by
  subst hf;rw[List.zip_nil_right];exact PySem.W.kat_nil (by simpa[da]using q)
 |_,_,_,_,i,.cons (k:=a) (vs:=xs) h1 r1,.cons (k:=b) (vs:=ys) h2 r2,hc,hf,q=>by
  have hf:fin=decide (xs.length<ys.length):=by rw[hf];simp
  rw[List.zip_cons_cons];refine PySem.W.kat_cons ?_;simp only[da,dW]at q hc;by_cases e:a=b
  .subst e
   rw[if_pos rfl]at q hc;have go:=xZ (i:=i+1) r1 r2 hc hf q;cases a with
   |inl a=>
    obtain⟨t,rfl⟩:=h1;obtain⟨u,rfl⟩:=h2;refine SeqAt.EqAt.int_int a t a u _ _ _ _ ?_;rw[beq_self_eq_true];exact PySem.W.kat_yes go
   |inr a=>
    obtain⟨t,rfl⟩:=h1;obtain⟨u,rfl⟩:=h2;refine SeqAt.EqAt.str_str a t a u _ _ _ _ ?_;rw[beq_self_eq_true];exact PySem.W.kat_yes go
  .rw[if_neg e]at q hc
   cases a with
   |inl a=>
    cases b with
    |inr b=>cases hc
    |inl b=>
     obtain⟨t,rfl⟩:=h1;obtain⟨u,rfl⟩:=h2;refine SeqAt.EqAt.int_int a t b u _ _ _ _ ?_;rw[beq_eq_false_iff_ne.mpr λz=>e (by rw[z])]
     refine PySem.W.kat_no ?_;cases i with
     |zero=>exact oneLt_int q
     |succ i=>exact PySem.W.kat_one _ _ (lt_int q)
   |inr a=>
    cases b with
    |inl b=>cases hc
    |inr b=>
     obtain⟨t,rfl⟩:=h1;obtain⟨u,rfl⟩:=h2;refine SeqAt.EqAt.str_str a t b u _ _ _ _ ?_;rw[beq_eq_false_iff_ne.mpr λz=>e (by rw[z])]
     refine PySem.W.kat_no ?_;cases i with
     |zero=>exact oneLt_str q
     |succ i=>exact PySem.W.kat_one _ _ (lt_str q)
def KAt(h:Heap)(v:Value)(k:List ar):Prop:=∃b o xs n,v=.ref b/\h.get? b=some o/\o.cls=.type "tuple"/\ o.data=.seq xs n/\KVals k xs.toList
theorem KAt.one{h:Heap}{v:Value}{k k':List ar}(h1:KAt h v k)(h2:KAt h v k'):k=k':=by
 obtain⟨b,o,xs,n,rfl,e1,e2,e3,e4⟩:=h1;obtain⟨b',o',xs',n',q,f1,f2,f3,f4⟩:=h2;cases q;rw[e1]at f1;cases f1;rw[e3]at f3;cases f3;exact e4.one f4
theorem KAt.keeps{h h':Heap}{v:Value}{k:List ar}(x:KAt h v k)(kp:∀b o,o.cls=.type "tuple" -> h.get? b=some o->h'.get? b=some o):KAt h' v k:=by
 obtain⟨b,o,xs,n,rfl,e1,e2,e3,e4⟩:=x;exact⟨b,o,xs,n,rfl,kp b o e2 e1,e2,e3,e4⟩
theorem B6{x y:Value}{k1 k2:List ar}{Q:Bool->Shared->Prop}(h1:KAt s.heap x k1)(h2:KAt s.heap y k2)(hc:dW k1 k2=true)(q:Q (da k1 k2) s):wpAny (model prog w) A (keyLt' (tuples' true) x y) Q E s:=by
 obtain⟨b,o,xs,n,rfl,e1,e2,e3,e4⟩:=h1;obtain⟨b',o',xs',n',rfl,f1,f2,f3,f4⟩:=h2;exact PySem.W.kat_lt e1 e3 f1 f3 (xZ e4 f4 hc (by simp) q)
noncomputable def ij(ks:List (List ar))(k:List ar):Int:=((ks.filter λx=>da x k).length:Nat)
theorem jj{α:Type}{p q:α -> Bool}:∀(l:List α),(∀x∈l,p x=true->q x=true)->(l.filter p).length<=(l.filter q).length
 |[],_=>Nat.le_refl _
 |x::l,h=>by
  have ih:=jj l λy hy=>h y (List.mem_cons_of_mem _ hy)
  have hx:=h x List.mem_cons_self;rw[List.filter_cons,List.filter_cons];cases e:p x with
  |false=>
   rw[if_neg (by simp)];split
   .rw[List.length_cons];lia
   .exact ih
  |true=>
   rw[if_pos rfl,if_pos (hx e),List.length_cons,List.length_cons];lia
theorem mX{α:Type}{p q:α -> Bool}:∀(l:List α),(∀x∈l,p x=true->q x=true)->(∃x∈l,p x=false/\q x=true)->(l.filter p).length<(l.filter q).length
 |[],_,⟨x,hx,_⟩=>by cases hx
 |x::l,h,⟨y,hy,h1,h2⟩=>by
  have ih:=jj l λy hy=>h y (List.mem_cons_of_mem _ hy)
  have hx:=h x List.mem_cons_self;rw[List.filter_cons,List.filter_cons];rcases List.mem_cons.mp hy with rfl|hy
  .rw[if_neg (by rw[h1];simp),if_pos h2,List.length_cons];lia
  .have ih:=mX l (λy hy=>h y (List.mem_cons_of_mem _ hy)) ⟨y,hy,h1,h2⟩
   cases e:p x with
   |false=>
    rw[if_neg (by simp)];split
    .rw[List.length_cons];lia
    .exact ih
   |true=>
    rw[if_pos rfl,if_pos (hx e),List.length_cons,List.length_cons];lia
theorem pM{ks:List (List ar)}{x y:List ar}(hx:x∈ks):decide (ij ks x<ij ks y)=da x y:=by
 unfold ij;cases e:da x y with
 |true=>
  refine decide_eq_true ?_;exact Int.ofNat_lt.mpr (mX ks (λz _ hz=>iA hz e) ⟨x,hx,kI x,e⟩)
 |false=>
  refine decide_eq_false ?_;have:=jj (p:=λz=>da z y) (q:=λz=>da z x) ks λz _ hz=>by
   by_cases q:y=x
   .subst q;exact hz
   .have:=iz y x q
    rw[e]at this;exact iA hz this
  lia
open Classical in
noncomputable def o7(h:Heap)(v:Value):List ar:=if q:∃k,KAt h v k then q.choose else []
theorem gJ{h:Heap}{v:Value}{k:List ar}(x:KAt h v k):o7 h v=k:=by
 unfold o7;have q:∃k,KAt h v k:=⟨k,x⟩;rw[dif_pos q];exact q.choose_spec.one x
theorem rh{h0:Heap}{ks:List (List ar)}(hc:∀x∈ks,∀y∈ks,dW x y=true)(kp:∀b o,o.cls=.type "tuple" -> h0.get? b=some o->s.heap.get? b=some o):
  cu (model prog w) A E s (tuples' true) (λp=>ij ks (o7 h0 p.1)) (λp=>∃k∈ks,KAt h0 p.1 k):=λx y hx hy st Q ek q=>by
 obtain⟨k1,m1,a1⟩:=hx;obtain⟨k2,m2,a2⟩:=hy;have q:Q (some (decide (ij ks (o7 h0 x.1)<ij ks (o7 h0 y.1)))) st:=q;rw[gJ a1,gJ a2,pM m1]at q;rw[lt'_eq];refine wpS_bind (wpS_get ?_);rw[ek];exact wpS_bind (wpS_lift (wpAny_attempt (B6 (a1.keeps kp) (a2.keeps kp) (hc _ m1 _ m2) ⟨rfl,wpS_pure q⟩)))
theorem kM:∀{a b:List ar},a.all Em=true->b.all Em=true->dW a b=true
 |[],_,_,_=>by simp[dW]
 |_::_,[],_,_=>by simp[dW]
 |x::r,y::t,h1,h2=>by
  simp only[List.all_cons,Bool.and_eq_true]at h1 h2;simp only[dW];split
  .exact kM h1.2 h2.2
  .rw[h1.1,h2.1];rfl
theorem wL{a b:List ar}(h1:ml a=true)(h2:ml b=true):dW a b=true:=by
 match a,b,h1,h2 with
 |.inr x::r,.inr y::t,h1,h2=>
  simp only[dW];split
  .exact kM h1 h2
  .rfl
theorem A8{a b:List ar}(h1:ww a=true)(h2:ww b=true):dW a b=true:=by
 match a,b,h1,h2 with
 |.inl x::r,.inl y::t,h1,h2=>
  simp only[dW];split
  .exact kM h1 h2
  .rfl
inductive KAts (h:Heap):List Value->List (List ar)->Prop
 |nil:KAts h [] []
 |cons {v k vs ks}:KAt h v k->KAts h vs ks->KAts h (v::vs) (k::ks)
theorem KAts.keeps{h h':Heap}(kp:∀b o,o.cls=.type "tuple" -> h.get? b=some o->h'.get? b=some o):∀{vs:List Value} {ks:List (List ar)},KAts h vs ks->KAts h' vs ks
 |_,_,.nil=>.nil
 |_,_,.cons x r=>.cons (x.keeps kp) (KAts.keeps kp r)
theorem KAts.map{h:Heap}:∀{vs:List Value} {ks:List (List ar)},KAts h vs ks->vs.map (o7 h)=ks
 |_,_,.nil=>rfl
 |_,_,.cons x r=>by rw[List.map_cons,gJ x,KAts.map r]
theorem KAts.mem{h:Heap}:∀{vs:List Value} {ks:List (List ar)},KAts h vs ks->∀v∈vs,∃k∈ks,KAt h v k
 |_,_,.cons (k:=k) x r,v,hv=>by
  rcases List.mem_cons.mp hv with rfl|hv
  .exact⟨k,List.mem_cons_self,x⟩
  .obtain⟨k',m,y⟩:=KAts.mem r v hv
   exact⟨k',List.mem_cons_of_mem _ m,y⟩
theorem KAts.of_map{h:Heap}:∀{vs:List Value},(∀v∈vs,∃k,KAt h v k)->KAts h vs (vs.map (o7 h))
 |[],_=>.nil
 |v::vs,H=>by
  obtain⟨k,x⟩:=H v List.mem_cons_self;rw[List.map_cons,gJ x];exact .cons x (KAts.of_map λu hu=>H u (List.mem_cons_of_mem _ hu))
noncomputable def Bg:Bool->Value
 |true=>.type "str"
 |false=>.type "int"
theorem KAts.tups{h:Heap}{b:Bool}:∀{vs:List Value} {ks:List (List ar)},KAts h vs ks->(∀k∈ks,(if b then ml k else ww k)=true)->∃fs:List Value,fs.length=vs.length/\PySem.W.KatTups h vs fs/\∀v∈fs,∀M:Model,PySem.W.Looks M h (typeOf v) (Bg b)
 |_,_,.nil,_=>⟨[],rfl,trivial,λv h=>by cases h⟩
 |_,_,.cons (k:=k) x r,hk=>by
  obtain⟨fs,h1,h2,h3⟩:=KAts.tups r λk' m=>hk k' (List.mem_cons_of_mem _ m)
  obtain⟨a,o,xs,n,rfl,e1,e2,e3,e4⟩:=x;have hk:=hk k List.mem_cons_self;obtain⟨f,ef,lf⟩:∃f,xs[0]? = some f/\∀M:Model,PySem.W.Looks M h (typeOf f) (Bg b):=by
   cases b with
   |true=>
    match k,hk,e4 with
    |.inr y::t,_,e4=>
     generalize exs:xs.toList=l at e4;cases e4 with
     |cons hv hr=>
      obtain⟨u,rfl⟩:=hv;refine⟨_,by rw[<-Array.getElem?_toList,exs];rfl,λM=>PySem.W.Looks.of_pure rfl⟩
   |false=>
    match k,hk,e4 with
    |.inl y::t,_,e4=>
     generalize exs:xs.toList=l at e4;cases e4 with
     |cons hv hr=>
      obtain⟨u,rfl⟩:=hv;refine⟨_,by rw[<-Array.getElem?_toList,exs];rfl,λM=>PySem.W.Looks.of_pure rfl⟩
  refine⟨f::fs,by rw[List.length_cons,List.length_cons,h1],⟨⟨a,o,xs,n,rfl,e1,e2,e3,ef⟩,h2⟩,λv hv=>?_⟩
  rcases List.mem_cons.mp hv with rfl|hv
  .exact lf
  .exact h3 v hv
theorem vE{α β:Type}{f:α -> β}{R:β -> β -> Prop}{l:List α}(h:l.Pairwise λx y=>R (f x) (f y)):(l.map f).Pairwise R:=List.pairwise_map.mpr h
theorem kF{a:Addr}{vs:List Value}{ks:List (List ar)}{n:Nat}{P:PySem.Fin->Shared->Prop}(ho:s.heap.get? a=some (seqObj "list" vs.toArray n))(x:KAts s.heap vs ks)(hk:(ks.all ml||ks.all ww)=true)(hz:vs.length<=sizeLine)
  (h:∀out:List Value,out.Perm vs->KAts s.heap out (je ks)->P (.done (.ret .none)) {s with heap:=sortedHeap s.heap a vs out.toArray}):
  wpAny (model prog w) A (Builtin.«list.sort» ⟨[.ref a],[]⟩) P E s:=by
 have hc:∀x∈ks,∀y∈ks,dW x y=true:=λx hx y hy=>by
  rcases Bool.or_eq_true_iff.mp hk with q|q
  .exact wL (List.all_eq_true.mp q x hx) (List.all_eq_true.mp q y hy)
  .exact A8 (List.all_eq_true.mp q x hx) (List.all_eq_true.mp q y hy)
 obtain⟨b,hb⟩:∃b:Bool,∀k∈ks,(if b then ml k else ww k)=true:=by
  rcases Bool.or_eq_true_iff.mp hk with q|q
  .exact⟨true,λk m=>List.all_eq_true.mp q k m⟩
  .exact⟨false,λk m=>List.all_eq_true.mp q k m⟩
 refine gx (kd:=tuples' true) (κ:=λp=>ij ks (o7 s.heap p.1)) (S:=λp=>∃k∈ks,KAt s.heap p.1 k) ho (λh'=>∀(b:Addr) (o:Obj),o.cls=.type "tuple" -> s.heap.get? b=some o->h'.get? b=some o) (λ_ _ _ e=>e) (λh1 h2 (p:∀(b:Addr) (o:Obj),o.cls=.type "tuple" -> s.heap.get? b=some o->h1.get? b=some o) kp b o (ec:o.cls=.type "tuple") e=>kp b o ec (p b o ec e)) (λh2 s' kp Q q=>?_) (λs' kp=>rh hc kp) (λv hv=>x.mem v hv) hz λout pm hs=>?_
 .obtain⟨fs,f1,f2,f3⟩:=(x.keeps kp).tups hb
  refine PySem.W.kat_kind (T:=Bg b) f2 (by lia) (λv hv=>f3 v hv _) (by cases b<;>decide) ?_;have:(Bg b != Value.type "tuple")=true:=by cases b<;>decide
  rw[this];exact q
 .have H:∀v∈out,∃k,KAt s.heap v k:=λv hv=>by
   obtain⟨k,_,y⟩:=x.mem v (pm.mem_iff.mp hv);exact⟨k,y⟩
  have X:=KAts.of_map H;have pk:(out.map (o7 s.heap)).Perm ks:=by
   have:=pm.map (o7 s.heap)
   rwa [x.map]at this
  have e:out.map (o7 s.heap)=je ks:=by
   refine vY pk ?_;refine vE ?_;refine List.Pairwise.imp_of_mem ?_ hs;intro p q hp hq hle;have m:o7 s.heap q∈ks:=pk.mem_iff.mp (List.mem_map.mpr ⟨q,hq,rfl⟩);have:=pM (y:=o7 s.heap p) m;unfold o6;rw[<-this];have hle:ij ks (o7 s.heap p)<=ij ks (o7 s.heap q):=hle;exact decide_eq_false (by lia)
  rw[e]at X;exact h out pm X
end
@[simp] noncomputable def Jg(i:Nat)(fk fv:Dv->Option D):Sf:=λδ=>(fk δ).bind λdk=>(fv δ).bind λv=>(wA δ[i]?).bind λds=>match dk with
 |.int k=>if 0<=k/\k.toNat<=ds.length/\ds.length<sizeLine then some (.nx,δ.set i (.ow (ds.take k.toNat++v::ds.drop k.toNat)))else none
 |_=>none
section
variable{K:Fg}
noncomputable def fQ(ps:List (V×V)):List V:=ps.flatMap λp=>[p.1,p.2]
end
@[simp] noncomputable def Jf(i:Nat)(fk:Dv->Option D):Sf:=λδ=>(fk δ).bind λdk=>(wA δ[i]?).bind λds=>match dk with
 |.int k=>if 0<=k/\k.toNat<ds.length/\ds.length<sizeLine then some (.nx,δ.set i (.ow (ds.eraseIdx k.toNat)))else none
 |_=>none
@[simp] noncomputable def Je(i:Nat):Sf:=λδ=>(wA δ[i]?).bind λds=>if ds.length<sizeLine then some (.nx,δ.set i (.ow ds.reverse))else none
noncomputable def gn(d:D):Option D:=(aY d).bind λds=>(sr ds).bind λl=>if l.length<64 then some (.list ((aR l).map .int))else none
section
variable{X:Cx}{e:Expr}{p pos:Pos}{te:TE}{f:Dv->Option D}
theorem wU{pins:List (Addr×Obj)}{σ:St}{H:Hp}{s:Shared}{a:Addr}{ns:List Int}{Q:VK}(I:Inv X pins σ H s)(hs:SqL X.K H a (ns.map V.int)\/SqT X.K H a (ns.map V.int))(h64:ns.length<64)(q:∀l,H l=none->Q (.ref l) (upd H l (.lst ((aR ns).map V.int)))):
  wpAny (model X.prog X.w) X.A (call (.builtin "sorted") [.ref a]) (EP X pins σ Q) X.xe s:=by
 obtain⟨its,rv,T,o,n,hT,e1,e2,e3,hz⟩:∃(its:List Value),Vals (ns.map V.int) its/\∃(T:String) (o:Obj) (n:Nat),(T = "list"\/ T = "tuple")/\s.heap.get? a=some o/\o.cls=.type T/\o.data=.seq its.toArray n/\its.length<=sizeLine:=by
  rcases hs with hs|hs
  .obtain⟨its,r,⟨o,n,e1,e2,e3,e4⟩,z⟩:=I.list hs
   exact⟨its,r,"list",o,n,.inl rfl,e1,e2,e4,by rw[<-r.length];exact z⟩
  .obtain⟨its,r,⟨o,e1,e2,n,e3⟩,z⟩:=I.tuple hs
   exact⟨its,r,"tuple",o,n,.inr rfl,e1,e2,e3,by rw[<-r.length];exact z⟩
 have hI:=eF rv;have hln:its.length=ns.length:=(IntsAre.length hI);refine Calls.call_function_entry kind_sorted plain_sorted entry_sorted (args_sorted1 _) ?_;unfold Builtin.«sorted»;refine wpAny_bind (m:=checkCount "sorted" 1 1 _) (wpAny_pure ?_);refine wpAny_bind (wpAny_collect_seq a hT e1 e2 e3 (λh' hk'=>?_) (by simpa using hz));show wpAny _ _ (newList its >>= _) _ _ {s with heap:=h'};refine wpAny_bind (wpAny_newList ?_ hz);have hoL:(h'.push (seqObj "list" its.toArray 0)).get? h'.objs.size=some (seqObj "list" its.toArray 0):=Heap.get?_push_size _ rfl;have I1:Inv X pins σ H {s with heap:=h'}:=I.kept (t':=s.toks) hk';refine wpAny_bind (wpAny_holding (wpAny_call_entry slot_list_sort ⟨_,hoL,rfl⟩ entry_list_sort (list_sort_tree hoL hI (by rw[hln];exact h64) λout ns' a1 a2 a3=>⟨_,rfl,?_⟩) (args_list_sort _)))
 refine wpAny_pure ⟨_,rfl,?_⟩;have e:=gg a2 a3;subst e;have kp:∀b o,h'.get? b=some o->(sortedHeap (h'.push (seqObj "list" its.toArray 0)) h'.objs.size its out).get? b=some o:=λb o eo=>by
  have hb:b≠h'.objs.size:=Nat.ne_of_lt (Heap.lt_size eo);exact aX hb (Heap.get?_push_of_some _ (Heap.get?_push_of_some _ (aX hb (Heap.get?_push_of_some _ eo))))
 obtain⟨e1,ho1⟩:∃e1,((h'.push (seqObj "list" its.toArray 0)).update h'.objs.size (Obj.mapSeq λ_=>#[])).get? h'.objs.size=some (seqObj "list" #[] e1):=⟨_,get?_update_seq hoL (λ_=>#[])⟩;have ho2:=Heap.get?_push_of_some (seqObj "list" #[] 0) (Heap.get?_push_of_some (seqObj "tuple" its.toArray 0) ho1);have ho3:=get?_update_seq ho2 (λ_=>out);have L:=I1.laid (h':=sortedHeap (h'.push (seqObj "list" its.toArray 0)) h'.objs.size its out) (a:=h'.objs.size) (o:=.lst ((aR ns).map V.int)) (t':=s.toks) kp (Nat.le_refl _)
  (show ObjOk X.prog X.w _ _ _ (.lst ((aR ns).map V.int))from ⟨by rw[List.length_map,(cm ns).length_eq,sizeLine_eq];lia,out.toList,_,ci a1,by rw[Array.toArray_toList];exact ho3⟩)
 exact⟨.ref h'.objs.size,_,L,rfl,q _ (I1.hok.fresh (Nat.le_refl _))⟩
theorem qw(hg:Gl X "sorted")(hm:X.mg "sorted" = none)(ha:EV X e f)(he:starEach [e] X.env=(false,eval e X.env)::starEach [] X.env:=by rfl)(hpl:(backTo pos (starEach [] X.env)).any (·.1)=false:=by rfl):
  EV X (.Call (.Name "sorted" p) [e] [] pos) (o1 f gn):=by
 intro pins s σ H Q I h;refine wpAny_Call_Name_kw (gH I hg hm (u:=.builtin "sorted") (by decide+kernel) ?_ (by decide) (by decide));refine PyProof.Rows.callWith_builtin1 (bu (cV ha fG he pos pins s σ H (λxs H1=>∃(a:Addr) (l:List Int),xs=[V.ref a]/\(SqL X.K H1 a (l.map V.int)\/SqT X.K H1 a (l.map V.int))/\l.length<64/\∀b,H1 b=none->Q (.ref b) (upd H1 b (.lst ((aR l).map V.int)))) I ?_) λus s1 ⟨vs,H1,I1,r1,q1⟩=>?_) he hpl
 .obtain⟨H₀,Z₀,Z,δ,d,hh,e,k⟩:=h
  obtain⟨d1,e1,e⟩:=bind_some e;refine⟨H₀,Z₀,Z,δ,d1,hh,e1,λv Z1 H1 hh1 t1 r1=>?_⟩
  unfold gn at e;obtain⟨ds,e2,e⟩:=bind_some e;obtain⟨l,e3,e⟩:=bind_some e;obtain⟨h64,e⟩:=bT e;cases e;have key:∀b,H1 b=none->Q (.ref b) (upd H1 b (.lst ((aR l).map V.int))):=λb hb=>by
   have n:=New.add hh1.zh hb (.lst ((aR l).map V.int));exact k _ _ _ (hh1.new n) (t1.trans n.z) (.lst (SqL.of aC) (Reps.ints _))
  cases r1 with
  |lst sq rs=>
   cases e2;have:=fP rs e3;subst this;exact⟨_,l,rfl,.inl (SqL.same sq hh1.zh),h64,key⟩
  |tup sq rs=>
   cases e2;have:=fP rs e3;subst this;exact⟨_,l,rfl,.inr (SqT.same sq hh1.zh),h64,key⟩
  |_=>cases e2
 .obtain⟨a,l,e1,hsq,h64,q⟩:=q1
  subst e1;obtain⟨u,rfl,rx⟩:=jv r1;cases rx;exact wU I1 hsq h64 q
end
noncomputable def i3:D->Option D
 |.dict kvs=>(jw kvs).bind λes=>(mN (es.map λp=>(p.1,PyData.int p.2))).bind λl=>if l.length<=100000 then some (.list ((aR l).map .int))else none
 |_=>none
noncomputable def fH(i:Nat):Dv->Option D:=λδ=>(zm δ[i]?).bind λes=>(mN es).bind λl=>if l.length<=100000/\l.Nodup/\(mR es).isSome then some (.list (sk es l))else none
section
variable{prog:Program}{w:World}{A:Around}{E:Value->Shared->Prop}{s:Shared}
theorem vJ{α β:Type}{f:α -> β}{out l:List β}(h:out.Perm l):∀m:List α,l=m.map f->∃p:List α,p.Perm m/\out=p.map f:=by
 induction h with
 |nil=>intro m e;exact⟨[],by rw[List.map_eq_nil_iff.mp e.symm],rfl⟩
 |cons x h ih=>
  intro m e;cases m with
  |nil=>cases e
  |cons i m=>
   rw[List.map_cons,List.cons.injEq]at e;obtain⟨p,h1,h2⟩:=ih m e.2;exact⟨i::p,h1.cons i,by rw[List.map_cons,<-h2,e.1]⟩
 |swap x y l=>
  intro m e
  match m,e with
  |i::j::m,e=>
   rw[List.map_cons,List.map_cons,List.cons.injEq,List.cons.injEq]at e;exact⟨j::i::m,List.Perm.swap i j m,by rw[List.map_cons,List.map_cons,e.1,e.2.1,e.2.2]⟩
 |trans h1 h2 ih1 ih2=>
  intro m e;obtain⟨p2,a1,a2⟩:=ih2 m e;obtain⟨p1,b1,b2⟩:=ih1 p2 a2;exact⟨p1,b1.trans a1,b2⟩
theorem yy(vs:List Value):((List.range vs.length).map λi=>vs.getD i Value.none)=vs:=by
 apply List.ext_getElem?;intro j;by_cases hj:j<vs.length
 .rw[List.getElem?_map,List.getElem?_range hj,List.getElem?_eq_getElem hj]
  show some (vs.getD j Value.none)=_;rw[List.getD_eq_getElem?_getD,List.getElem?_eq_getElem hj];rfl
 .rw[List.getElem?_eq_none (by simp;lia),List.getElem?_eq_none (by lia)]
def zg(h:Heap)(key:Nat->Int)(vs:List Value):Prop:=∀(j:Nat) (v:Value),vs[j]? = some v->∃b t m t',v=.ref b/\h.get? b=some {cls:=.type "tuple",data:=.seq #[.int (key j) t,.int m t']}
theorem kG{a:Addr}{vs:List Value}{key:Nat->Int}{n:Nat}{P:PySem.Fin->Shared->Prop}(ho:s.heap.get? a=some (seqObj "list" vs.toArray n))(x:zg s.heap key vs)(hinj:∀i j,i<vs.length->j<vs.length->key i=key j->i=j)(hz:vs.length<=sizeLine)
  (h:∀p:Array Nat,Pm vs.length p->Up key p vs.length->P (.done (.ret .none)) {s with heap:=sortedHeap s.heap a vs (List.toArray (p.toList.map λi=>vs.getD i Value.none))}):
  wpAny (model prog w) A (Builtin.«list.sort» ⟨[.ref a],[]⟩) P E s:=by
 have at_:∀j,j<vs.length->∃m,KAt s.heap (vs.getD j Value.none) [.inl (key j),.inl m]:=λj hj=>by
  obtain⟨b,t,m,t',e1,e2⟩:=x j _ (List.getElem?_eq_getElem hj);refine⟨m,b,_,_,_,?_,e2,rfl,rfl,.cons ⟨t,rfl⟩ (.cons ⟨t',rfl⟩ .nil)⟩;rw[List.getD_eq_getElem?_getD,List.getElem?_eq_getElem hj];exact e1
 have mem_at:∀v∈vs,∃j,j<vs.length/\v=vs.getD j Value.none:=λv hv=>by
  obtain⟨j,hj,e⟩:=List.getElem_of_mem hv;exact⟨j,hj,by rw[List.getD_eq_getElem?_getD,List.getElem?_eq_getElem hj,<-e];rfl⟩
 have KA:=KAts.of_map (h:=s.heap) (vs:=vs) λv hv=>by
  obtain⟨j,hj,rfl⟩:=mem_at v hv;obtain⟨m,q⟩:=at_ j hj;exact⟨_,q⟩
 have ok:((vs.map (o7 s.heap)).all ml||(vs.map (o7 s.heap)).all ww)=true:=by
  rw[Bool.or_eq_true_iff];refine .inr (List.all_eq_true.mpr λk hk=>?_);obtain⟨v,hv,rfl⟩:=List.mem_map.mp hk;obtain⟨j,hj,rfl⟩:=mem_at v hv;obtain⟨m,q⟩:=at_ j hj;rw[gJ q];rfl
 refine kF ho KA ok hz λout pm ka=>?_
 obtain⟨p,hp,rfl⟩:=vJ (f:=λi=>vs.getD i Value.none) pm (List.range vs.length) (yy vs).symm;have:=h p.toArray ⟨by simpa using hp⟩ λi j hij hj=>?_
 .simpa using this
 .have pl:p.length=vs.length:=by simpa using hp.length_eq
  have em:=ka.map;have pw:=jd (vs.map (o7 s.heap));rw[<-em,List.map_map,List.pairwise_map,List.pairwise_iff_getElem]at pw;have le:=pw i j (by lia) (by lia) hij;have nd:p.Nodup:=hp.nodup_iff.mpr List.nodup_range;have li:p[i]'(by lia)<vs.length:=List.mem_range.mp (hp.mem_iff.mp (List.getElem_mem _));have lj:p[j]'(by lia)<vs.length:=List.mem_range.mp (hp.mem_iff.mp (List.getElem_mem _));have ne:p[i]'(by lia)≠p[j]'(by lia):=List.pairwise_iff_getElem.mp nd i j (by lia) (by lia) hij;obtain⟨m1,q1⟩:=at_ _ li;obtain⟨m2,q2⟩:=at_ _ lj;simp only[Function.comp_apply,gJ q1,gJ q2]at le;have g1:(p.toArray).getD i 0=p[i]'(by lia):=by simp[Array.getD,show i<p.length by lia]
  have g2:(p.toArray).getD j 0=p[j]'(by lia):=by simp[Array.getD,show j<p.length by lia]
  unfold ky;rw[g1,g2];have hk:key (p[i]'(by lia))≠key (p[j]'(by lia)):=λz=>ne (hinj _ _ li lj z)
  unfold o6 da at le;rw[if_neg (λz=>hk (Sum.inl.inj z).symm)]at le
  have le:decide (key (p[j]'(by lia))<key (p[i]'(by lia)))=false:=le;have:=of_decide_eq_false le
  lia
end
section
variable{X:Cx}{o a:Expr}{p pos apos cpos:Pos}{td:TE}{f:Dv->Option D}
theorem oN(hc:X.calm=true):CallR X (.builtin "sorted") (λxs H Q=>∃a kvs ns,xs=[V.ref a]/\H a=some (.dK kvs)/\kvs.map (·.1)=ns.map Sum.inl/\ns.length<=100000/\∀l,H l=none->Q (.ref l) (upd H l (.lst ((aR ns).map V.int)))):=by
 intro pins s σ H xs us Q I r h;obtain⟨a,kvs,ns,rfl,ha,hk,h64,q⟩:=h;obtain⟨u,rfl,ru⟩:=jv r;cases ru;obtain⟨z,hd,vs,rel,dd⟩:=jF I.hok (.inl ha);obtain⟨ep,dat⟩:=dd.dictAt;have hln:vs.length=ns.length:=by
  have:=congrArg List.length hk;simp only[List.length_map]at this;rw[<-rel.length,this]
 refine Calls.call_function_entry kind_sorted plain_sorted entry_sorted (args_sorted1 _) ?_;unfold Builtin.«sorted»;refine wpAny_bind (m:=checkCount "sorted" 1 1 _) (wpAny_pure ?_);refine wpAny_bind (PySem.W.kdu_collect (A:=X.A.in1) (PySem.W.kdl_dict (knd:=aF X.prog X.w) (kvs:=vs) (ep:=ep) hd) (I.ok.hd hc) dat (by rw[hln,sizeLine_eq];lia) λh' tk acc hk' hacc=>?_)
 have hal:acc.toList.length=vs.length:=by rw[Array.length_toList];exact hacc.1
 have hI:IntsAre acc.toList ns:=uv (P:=X.prog) (w:=X.w) hal (λj v e=>hacc.2 j v (by rw[<-Array.getElem?_toList];exact e)) (by rw[oo rel];exact hk)
 refine wpAny_bind (wpAny_newList ?_ (by rw[hal,hln,sizeLine_eq];lia));have hoL:(h'.push (seqObj "list" acc.toList.toArray 0)).get? h'.objs.size=some (seqObj "list" acc.toList.toArray 0):=Heap.get?_push_size _ rfl;refine wpAny_bind (wpAny_holding (wpAny_call_entry slot_list_sort ⟨_,hoL,rfl⟩ entry_list_sort (kH hoL hI (by rw[hal,hln,sizeLine_eq];lia) λout ns' a1 a2 a3=>⟨_,rfl,?_⟩) (args_list_sort _)))
 refine wpAny_pure ⟨_,rfl,?_⟩;have e:=gg a2 a3;subst e;have I1:Inv X pins σ H {s with heap:=h',toks:=tk}:=I.kept hk';have kp:∀b o,h'.get? b=some o->(sortedHeap (h'.push (seqObj "list" acc.toList.toArray 0)) h'.objs.size acc.toList out).get? b=some o:=λb o eo=>by
  have hb:b≠h'.objs.size:=Nat.ne_of_lt (Heap.lt_size eo);exact aX hb (Heap.get?_push_of_some _ (Heap.get?_push_of_some _ (aX hb (Heap.get?_push_of_some _ eo))))
 have hlen:out.toList.length=ns.length:=by rw[(ci a1).length.symm,List.length_map,a2.length_eq]
 obtain⟨e1,ho1⟩:∃e1,((h'.push (seqObj "list" acc.toList.toArray 0)).update h'.objs.size (Obj.mapSeq λ_=>#[])).get? h'.objs.size=some (seqObj "list" #[] e1):=⟨_,get?_update_seq hoL (λ_=>#[])⟩;have ho2:=Heap.get?_push_of_some (seqObj "list" #[] 0) (Heap.get?_push_of_some (seqObj "tuple" acc.toList.toArray 0) ho1);have ho3:=get?_update_seq ho2 (λ_=>out);have L:=I1.laid (h':=sortedHeap (h'.push (seqObj "list" acc.toList.toArray 0)) h'.objs.size acc.toList out) (a:=h'.objs.size) (o:=.lst ((aR ns).map V.int)) (t':=tk) kp (Nat.le_refl _)
  (show ObjOk X.prog X.w _ _ _ (.lst ((aR ns).map V.int))from ⟨by rw[List.length_map,(cm ns).length_eq,sizeLine_eq];lia,out.toList,_,ci a1,by rw[Array.toArray_toList];exact ho3⟩)
 exact⟨.ref h'.objs.size,_,L,rfl,q _ (I1.hok.fresh (Nat.le_refl _))⟩
theorem jl(hg:Gl X "sorted")(hm:X.mg "sorted" = none)(ha:EV X a f)(hc:X.calm=true:=by rfl)
  (he:starEach [a] X.env=(false,eval a X.env)::starEach [] X.env:=by rfl) (hpl:(backTo pos (starEach [] X.env)).any (·.1)=false:=by rfl):EV X (.Call (.Name "sorted" p) [a] [] pos) (o1 f i3):=
 PE.imp (ku (oN hc) hg hm (by decide+kernel) (cV ha fG he) (by decide) (by decide) he hpl) λσ H Q h=>by
  obtain⟨H₀,Z₀,Z,δ,d,hh,e,k⟩:=h;obtain⟨x,e1,e⟩:=bind_some e;cases x with
  |dict kvs=>
   obtain⟨es,e3,e⟩:=bind_some e;obtain⟨l,e4,e⟩:=bind_some e;obtain⟨h64,e⟩:=bT e;cases e;refine⟨H₀,Z₀,Z,δ,_,hh,e1,λv Z1 H1 hh1 t1 r1=>?_⟩
   obtain⟨ad,rfl,g⟩:=yP r1 e3;refine⟨ad,_,l,rfl,hh1.zh _ _ g,by have:=iG e4;rw[<-this];simp[List.map_map,Function.comp_def],h64,λl' hl=>?_⟩
   have n:=New.add hh1.zh hl (.lst ((aR l).map V.int));exact k _ _ _ (hh1.new n) (t1.trans n.z) (.lst (SqL.of aC) (Reps.ints _))
  |_=>cases e
def wM(td:TE):TE:=λσ H Q=>td σ H λx H1=>∃(a:Addr) (kvs:List (ar×V)) (ns ms:List Int),x=V.ref a/\H1 a=some (.dK kvs)/\kvs.map (·.1)=ns.map Sum.inl/\kvs.map (·.2)=ms.map V.int/\ns.length<=100000/\ns.Nodup/\
 ∀(H':Hp) (l:Addr) (as:List Addr) (q:Array Nat),(∀b,H1 b≠none->H' b=H1 b)->H1 l=none->Pm ns.length q->Up (λj=>ns.getD j 0) q ns.length->as.length=ns.length->H' l=some (.lst (q.toList.map λi=>V.ref (as.getD i 0)))->
  (∀(j:Nat) (b:Addr),as[j]? = some b->H1 b=none/\∃k v,ns[j]? = some k/\kvs[j]? = some (.inl k,v)/\H' b=some (.tup [.int k,v]))->Q (.ref l) H'
theorem rR(hc:X.calm=true)(hg:Gl X "sorted")(hm:X.mg "sorted" = none)(ho:PE X o td)
  (hbase:attributeBase o "items" X.env (eval o X.env)=eval o X.env:=by rfl) (hline:(apos.endLine==cpos.line)=true:=by rfl)
  (he:starEach [.Call (.Attribute o "items" apos) [] [] cpos] X.env=(false,eval (.Call (.Attribute o "items" apos) [] [] cpos) X.env)::starEach [] X.env:=by rfl) (hpl:(backTo pos (starEach [] X.env)).any (·.1)=false:=by rfl):
  PE X (.Call (.Name "sorted" p) [.Call (.Attribute o "items" apos) [] [] cpos] [] pos) (wM td):=by
 intro pins s σ H Q I h;refine wpAny_Call_Name_kw (gH I hg hm (u:=.builtin "sorted") (by decide+kernel) ?_ (by decide) (by decide));refine PyProof.Rows.callWith_builtin1 ?_ he hpl;rw[he];show wpAny _ _ (spliced ((false,eval _ X.env)::backTo pos (starEach [] X.env))) _ _ s;refine Calls.spliced_cons ?_;refine wpAny_Call_method0_late hbase hline (bu (ho pins s σ H _ I h) λv s1 ⟨x,H1,I1,r1,q1⟩=>?_)
 obtain⟨a,kvs,ns,ms,e1,ha,hk,hms,h64,nd,q⟩:=q1;subst e1;cases r1;obtain⟨t1,t2,_⟩:=ym I1 (.inl ⟨kvs,.inl ha⟩);obtain⟨z,hlo,vs,rel,dd⟩:=jF I1.hok (.inl ha);refine⟨"dict","dict.items",PySem.F.plainAttrs_dict,PySem.F.slot_dict_items,PySem.F.type_dict_items,t1,t2,Calls.callWith_builtin rfl (PySem.evalArgs_none ?_)⟩;refine call_meetsIn PySem.F.slot_dict_items dd.typeIs PySem.F.entry_dict_items (PySem.F.args_dict_items_1 _) (meets_dict_items (aF X.prog X.w) a hlo) ⟨⟨vs,dd⟩,?_⟩;refine Calls.spliced_nil ?_;have hln:vs.length=ns.length:=by
  have:=congrArg List.length hk;simp only[List.length_map]at this;rw[<-rel.length,this]
 have dd1:=dd.push {cls:=.type "dict_items",data:=.fields #[.ref a]};obtain⟨ep,dat⟩:=dd1.dictAt;refine Calls.call_function_entry kind_sorted plain_sorted entry_sorted (args_sorted1 _) ?_;unfold Builtin.«sorted»;refine wpAny_bind (m:=checkCount "sorted" 1 1 _) (wpAny_pure ?_);refine wpAny_bind (PySem.W.kdx_collect (A:=X.A.in1) (knd:=aF X.prog X.w) (kvs:=vs) (ep:=ep) (d:=a) (I1.ok.hd hc) ⟨_,Heap.get?_push_size _ rfl,rfl,rfl⟩ dat (by rw[hln,sizeLine_eq];lia) λh' tk as hk' hal hG=>?_)
 dsimp only at hk' hG ⊢;have hasn:as.length=ns.length:=by rw[hal,hln]
 have kv:vs.map (·.1)=ns.map Sum.inl:=by rw[oo rel];exact hk
 have at_:∀(j:Nat) (b:Addr),as[j]? = some b->∃k t u,ns[j]? = some k/\vs[j]? = some (.inl k,u)/\h'.get? b=some {cls:=.type "tuple",data:=.seq #[.int k t,u]}:=λj b eb=>by
  obtain⟨ky,k,u,e1,e2,e3⟩:=hG.pairs j b eb;have e4:(vs.map (·.1))[j]? = some k:=by rw[List.getElem?_map,e1];rfl
  rw[kv,List.getElem?_map]at e4;cases e5:ns[j]? with
  |none=>rw[e5]at e4;cases e4
  |some i=>
   rw[e5]at e4;have e4:Sum.inl i=k:=by simpa using e4
   subst e4;rcases aW (show jB (.inl i) ky=true from e2)with⟨i',t,q1,rfl⟩|⟨y,t,q1,rfl⟩
   .cases q1
    exact⟨i,t,u,rfl,e1,e3⟩
   .cases q1
 refine wpAny_bind (wpAny_newList ?_ (by rw[List.length_map,hasn,sizeLine_eq];lia));have hoL:(h'.push (seqObj "list" (as.map Value.ref).toArray 0)).get? h'.objs.size=some (seqObj "list" (as.map Value.ref).toArray 0):=Heap.get?_push_size _ rfl;have pa:zg (h'.push (seqObj "list" (as.map Value.ref).toArray 0)) (λj=>ns.getD j 0) (as.map Value.ref):=λj v ev=>by
  rw[List.getElem?_map]at ev;cases eb:as[j]? with
  |none=>rw[eb]at ev;cases ev
  |some b=>
   rw[eb]at ev;cases ev;obtain⟨k,t,u,e1,e2,e3⟩:=at_ j b eb;have ek:ns.getD j 0=k:=by rw[List.getD_eq_getElem?_getD,e1];rfl
   obtain⟨v,e4,e5⟩:=sd kvs vs j _ u rel e2;have e6:(kvs.map (·.2))[j]? = some v:=by rw[List.getElem?_map,e4];rfl
   rw[hms,List.getElem?_map]at e6;obtain⟨m,_,rfl⟩:=Option.map_eq_some_iff.mp e6;obtain⟨t',rfl⟩:=e5;refine⟨b,t,m,t',rfl,?_⟩;show _=some ({cls:=.type "tuple",data:=.seq #[.int (ns.getD j 0) t,.int m t']}:Obj);rw[ek];exact Heap.get?_push_of_some _ e3
 have hlv:(as.map Value.ref).length=ns.length:=by rw[List.length_map,hasn]
 refine wpAny_bind (wpAny_holding (wpAny_call_entry slot_list_sort ⟨_,hoL,rfl⟩ entry_list_sort (kG hoL pa (by rw[hlv];exact C5 nd) (by rw[hlv,sizeLine_eq];lia) λq' hp hu=>⟨_,rfl,?_⟩) (args_list_sort _)))
 refine wpAny_pure ⟨_,rfl,?_⟩;rw[hlv]at hp hu;generalize hout:List.toArray (q'.toList.map λi=>(as.map Value.ref).getD i Value.none)=out
 have I2:Inv X pins σ H1 {s1 with heap:=h',toks:=tk}:=I1.kept λb o eo=>hk' b o (Heap.get?_push_of_some _ eo)
 have kp:∀b o,h'.get? b=some o->(sortedHeap (h'.push (seqObj "list" (as.map Value.ref).toArray 0)) h'.objs.size (as.map Value.ref) out).get? b=some o:=λb o eo=>by
  have hb:b≠h'.objs.size:=Nat.ne_of_lt (Heap.lt_size eo);exact aX hb (Heap.get?_push_of_some _ (Heap.get?_push_of_some _ (aX hb (Heap.get?_push_of_some _ eo))))
 obtain⟨e1,ho1⟩:∃e1,((h'.push (seqObj "list" (as.map Value.ref).toArray 0)).update h'.objs.size (Obj.mapSeq λ_=>#[])).get? h'.objs.size=some (seqObj "list" #[] e1):=⟨_,get?_update_seq hoL (λ_=>#[])⟩;have ho2:=Heap.get?_push_of_some (seqObj "list" #[] 0) (Heap.get?_push_of_some (seqObj "tuple" (as.map Value.ref).toArray 0) ho1);have ho3:=get?_update_seq ho2 (λ_=>out);generalize hts:((List.range ns.length).map λj=>[V.int (ns.getD j 0),((kvs[j]?).map (·.2)).getD V.non])=ts
 have lo_:∀(j:Nat) (b:Addr),as[j]? = some b->s1.heap.objs.size<b:=λj b eb=>by
  have:=hG.above b (List.mem_of_getElem? eb);rw[Heap.size_push]at this;exact Nat.lt_of_lt_of_le (Nat.lt_succ_self _) (Nat.le_of_lt this)
 have fr:∀(j:Nat) (b:Addr),as[j]? = some b->H1 b=none/\b≠h'.objs.size/\s1.heap.objs.size<=b:=λj b eb=>by
  obtain⟨_,_,_,_,_,e3⟩:=at_ j b eb;exact⟨I1.hok.fresh (Nat.le_of_lt (lo_ j b eb)),Nat.ne_of_lt (Heap.lt_size e3),Nat.le_of_lt (lo_ j b eb)⟩
 have hD:H1 h'.objs.size=none:=I2.hok.fresh (Nat.le_refl _);have tsat:∀(j:Nat) (b:Addr),as[j]? = some b->∃k v u t,ns[j]? = some k/\kvs[j]? = some (.inl k,v)/\ts[j]? = some [V.int k,v]/\RelV v u/\h'.get? b=some {cls:=.type "tuple",data:=.seq #[.int k t,u]}:=λj b eb=>by
  obtain⟨k,t,u,e1,e2,e3⟩:=at_ j b eb;obtain⟨v,e4,e5⟩:=sd kvs vs j _ u rel e2;have hj:j<ns.length:=(List.getElem?_eq_some_iff.mp e1).1;refine⟨k,v,u,t,e1,e4,?_,e5,e3⟩;rw[<-hts,List.getElem?_map,List.getElem?_range hj];show some [V.int (ns.getD j 0),((kvs[j]?).map (·.2)).getD V.non]=_;rw[e4,List.getD_eq_getElem?_getD,e1];rfl
 have ext:∀b,H1 b≠none->(λb=>if H1 b≠none then H1 b else if b=h'.objs.size then some (HO.lst (q'.toList.map λi=>V.ref (as.getD i 0)))else vH as ts b) b=H1 b:=λb hb=>if_pos hb
 have le1:s1.heap.objs.size<=h'.objs.size:=by
  have v:=hk' s1.heap.objs.size _ (Heap.get?_push_size _ rfl);exact Nat.le_of_lt (Heap.lt_size v)
 have qlt:∀i∈q'.toList,i<ns.length:=λi hi=>List.mem_range.mp (hp.perm.mem_iff.mp hi)
 have gv:∀i,i<ns.length->(as.map Value.ref).getD i Value.none=Value.ref (as.getD i 0):=λi hi=>by
  rw[List.getD_eq_getElem?_getD,List.getElem?_map,List.getD_eq_getElem?_getD,List.getElem?_eq_getElem (by rw[hasn];exact hi)];rfl
 have L:=v6 (h':=sortedHeap (h'.push (seqObj "list" (as.map Value.ref).toArray 0)) h'.objs.size (as.map Value.ref) out) (t':=tk) I1 (λb o eo=>kp b o (hk' b o (Heap.get?_push_of_some _ eo))) ext λb o nb eb=>by
  simp only[nb,ne_eq,not_true,if_false]at eb;split at eb
  .rename_i ebs
   subst ebs;cases eb;refine⟨le1,show ObjOk X.prog X.w _ _ _ (.lst (q'.toList.map λi=>V.ref (as.getD i 0)))from ⟨by rw[List.length_map,Array.length_toList,hp.size,sizeLine_eq];lia,out.toList,_,?_,by rw[Array.toArray_toList];exact ho3⟩⟩
   rw[<-hout];show Vals _ (q'.toList.map λi=>(as.map Value.ref).getD i Value.none)
   have key:∀l:List Nat,(∀i∈l,i<ns.length)->Vals (l.map λi=>V.ref (as.getD i 0)) (l.map λi=>(as.map Value.ref).getD i Value.none):=λl=>by
    induction l with
    |nil=>intro _;exact .nil
    |cons x l ih=>
     intro hx;exact .cons (gv x (hx x List.mem_cons_self)) (ih λi hi=>hx i (List.mem_cons_of_mem _ hi))
   exact key _ qlt
  .obtain⟨j,t,h1',h2',rfl⟩:=mE eb
   obtain⟨_,_,g⟩:=fr j b h1';obtain⟨k,v,u,tt,_,_,e3,e4,e5⟩:=tsat j b h1';rw[e3]at h2';cases h2';exact⟨g,show ObjOk X.prog X.w _ _ _ (.tup [V.int k,v])from ⟨by rw[sizeLine_eq];show 2<=16777216;decide,[.int k tt,u],.cons ⟨tt,rfl⟩ (.cons e4 .nil),⟨_,kp b _ e5,rfl,_,rfl⟩,_,kp b _ e5,rfl⟩⟩
 refine⟨.ref h'.objs.size,_,L,rfl,q _ _ as q' ext hD hp hu hasn (by simp[hD]) λj b eb=>?_⟩
 obtain⟨g1,g2,g3⟩:=fr j b eb;obtain⟨k,v,u,tt,e1,e2,e3,_,_⟩:=tsat j b eb;exact⟨g1,k,v,e1,e2,by simp only[g1,ne_eq,not_true,if_false];rw[if_neg g2];exact pR hG.rise eb e3⟩
theorem sE(i:Nat){x:Str}{p3:Pos}(hg:Gl X "sorted")(hm:X.mg "sorted" = none)(hc:X.calm=true:=by rfl)(hN:X.N[i]? = some x:=by rfl)(hv:vg X.env.scope x:=by first|exact Or.inl rfl|exact Or.inr (Or.inl rfl)|exact Or.inr (Or.inr rfl))(hd:(x==("__debug__":Str))=false:=by decide)(hcd:(x==("__classdict__":Str))=false:=by decide)
  (hbase:attributeBase (.Name x p3) "items" X.env (eval (.Name x p3) X.env)=eval (.Name x p3) X.env:=by rfl) (hline:(apos.endLine==cpos.line)=true:=by rfl)
  (he:starEach [.Call (.Attribute (.Name x p3) "items" apos) [] [] cpos] X.env=(false,eval (.Call (.Attribute (.Name x p3) "items" apos) [] [] cpos) X.env)::starEach [] X.env:=by rfl) (hpl:(backTo pos (starEach [] X.env)).any (·.1)=false:=by rfl):
  EV X (.Call (.Name "sorted" p) [.Call (.Attribute (.Name x p3) "items" apos) [] [] cpos] [] pos) (fH i):=
 PE.imp (rR hc hg hm (cO hN hv hd hcd) hbase hline he hpl) λσ H Q h=>by
  obtain⟨H₀,Z₀,Z,δ,d,hh,e,k⟩:=h;obtain⟨es,e1,e⟩:=bind_some e;obtain⟨l,e2,e⟩:=bind_some e;obtain⟨⟨h64,nd,hi⟩,e⟩:=bT e;cases e;obtain⟨a,kvs,h1,h4,h5⟩:=kA hh e1;have hkl:kvs.map (·.1)=l.map Sum.inl:=by rw[<-h5.1];exact iG e2
  obtain⟨li,hli⟩:=Option.isSome_iff_exists.mp hi;have hms:kvs.map (·.2)=(li.map (·.2)).map V.int:=by
   have h6:=h5;rw[kN hli]at h6;rw[i4 h6,List.map_map,List.map_map];rfl
  refine⟨_,h1,a,kvs,l,_,rfl,h4,hkl,hms,h64,nd,λH' lo as q' ext hl hp hu hal hl' hpr=>?_⟩
  have n:=New.many (Z:=Z) (H':=H') hh.zh ext;refine k _ _ _ (hh.new n) n.z (.lst (SqL.of (by rw[if_pos hl,hl'];rfl)) ?_);have ei:aR l=q'.toList.map λi=>l.getD i 0:=by
   refine(gg ?_ ?_).symm
   .have:=hp.perm.map λi=>l.getD i 0
    have e:((List.range l.length).map λi=>l.getD i 0)=l:=by
     apply List.ext_getElem?;intro j;by_cases hj:j<l.length
     .rw[List.getElem?_map,List.getElem?_range hj,List.getElem?_eq_getElem hj]
      show some (l.getD j 0)=_;rw[List.getD_eq_getElem?_getD,List.getElem?_eq_getElem hj];rfl
     .rw[List.getElem?_eq_none (by simp;lia),List.getElem?_eq_none (by lia)]
    rw[e]at this;exact this
   .rw[List.pairwise_map,List.pairwise_iff_getElem]
    intro i j hi hj hij;have hz:=hp.size;have:=hu i j hij (by rw[Array.length_toList,hz]at hj;exact hj);unfold ky at this;have e1:q'.getD i 0=q'.toList[i]:=by simp[Array.getD,show i<q'.size by simpa using hi]
    have e2:q'.getD j 0=q'.toList[j]:=by simp[Array.getD,show j<q'.size by simpa using hj]
    rw[e1,e2]at this;exact Int.le_of_lt this
  unfold sk;rw[ei,List.map_map];have qlt:∀i∈q'.toList,i<l.length:=λi hi=>List.mem_range.mp (hp.perm.mem_iff.mp hi)
  have key:∀u:List Nat,(∀i∈u,i<l.length)->Reps X.K (λb=>if H b=none then Ec (H' b)else Z b) (u.map λi=>V.ref (as.getD i 0)) (u.map ((λk=>PyData.tuple [.int k,(dO es (.inl k)).getD .none]) ∘ λi=>l.getD i 0)):=λu=>by
   induction u with
   |nil=>intro _;exact .nil
   |cons i u ih=>
    intro hx;refine .cons ?_ (ih λj hj=>hx j (List.mem_cons_of_mem _ hj))
    have hi:=hx i List.mem_cons_self;have eb:as[i]? = some (as.getD i 0):=by rw[List.getD_eq_getElem?_getD,List.getElem?_eq_getElem (by rw[hal];exact hi)];rfl
    obtain⟨g1,k',v,g2,g3,g4⟩:=hpr i _ eb;have el:l.getD i 0=k':=by rw[List.getD_eq_getElem?_getD,g2];rfl
    have hkv:(kvs.map (·.2))[i]? = some v:=by rw[List.getElem?_map,g3];rfl
    obtain⟨d,q1,q2⟩:=h5.2.getV hkv;have hek:(es.map (·.1))[i]? = some (.inl k'):=by rw[h5.1,List.getElem?_map,g3];rfl
    have hes:es[i]? = some (.inl k',d):=by
     rw[List.getElem?_map]at q1 hek;cases e:es[i]? with
     |none=>rw[e]at q1;cases q1
     |some z=>
      rw[e]at q1 hek;obtain⟨z1,z2⟩:=z;have hek:z1=.inl k':=by simpa using hek
      have q1:z2=d:=by simpa using q1
      rw[hek,q1]
    have hgt:dO es (.inl k')=some d:=uB (by rw[iG e2];exact C4 nd) hes;show Rep _ _ _ (.tuple [.int (l.getD i 0),(dO es (.inl (l.getD i 0))).getD .none]);rw[el,hgt];exact .tup (SqT.of (by rw[if_pos g1,g4];rfl)) (.cons (.int k') (.cons (q2.same n.z) .nil))
  exact key _ qlt
end
noncomputable def lps(M:Nat):Nat->Nat×Nat->Nat×Nat
 | 0,x=>x
 |k+1,x=>lps M k (SetTable.leap M x.1 x.2)
theorem oj(M:Nat):∀(a b:Nat) (x:Nat×Nat),lps M (a+b) x=lps M b (lps M a x)
 | 0,b,x=>by rw[Nat.zero_add];rfl
 |a+1,b,x=>by rw[Nat.add_right_comm];exact oj M a b _
theorem xV(M:Nat):∀(k:Nat) (i q:Nat),(lps M k (i,q)).2=q/32^k
 | 0,i,q=>by simp[lps]
 |k+1,i,q=>by
  show(lps M k (SetTable.leap M i q)).2=_;have:SetTable.leap M i q=((SetTable.leap M i q).1,q/32):=rfl;rw[this,xV M k,Nat.div_div_eq_div_mul,Nat.pow_succ,Nat.mul_comm]
theorem xW(M:Nat):∀(k:Nat) (i q:Nat),i<M+1->(lps M k (i,q)).1<M+1
 | 0,i,q,h=>h
 |k+1,i,q,h=>xW M k _ _ (Nat.mod_lt _ (by lia))
noncomputable def fiv(k:Nat):Nat:=(5^k-1)/4
theorem lb(k:Nat):fiv (k+1)=5*fiv k+1:=by
 unfold fiv;have h1:5^k%4=1:=by
  induction k with
  |zero=>rfl
  |succ k ih=>rw[Nat.pow_succ];lia
 have h2:1<=5^k:=Nat.pow_pos (by decide);rw[Nat.pow_succ]
 lia
theorem BD(M:Nat):∀(k:Nat) (i:Nat),i<M+1->(lps M k (i,0)).1=(5^k*i+fiv k)%(M+1)
 | 0,i,h=>by rw[Nat.pow_zero,Nat.one_mul];show i=(i+0)%(M+1);rw[Nat.add_zero,Nat.mod_eq_of_lt h]
 |k+1,i,h=>by
  have e:lps M (k+1) (i,0)=lps M 1 (lps M k (i,0)):=oj M k 1 _;have q:=xV M k i 0;rw[Nat.zero_div]at q;have e2:lps M k (i,0)=((lps M k (i,0)).1,0):=Prod.ext rfl q;rw[e,e2,BD M k i h];show((5^k*i+fiv k)%(M+1)*5+1+0/32)%(M+1)=_;rw[lb,Nat.zero_div,Nat.add_zero,Nat.add_mod,Nat.mul_mod,Nat.mod_mod,<-Nat.mul_mod,<-Nat.add_mod];congr 1;rw[Nat.pow_succ];generalize 5^k=p;generalize fiv k=f;rw[Nat.add_mul,Nat.mul_right_comm,Nat.mul_comm f 5,Nat.add_assoc]
def Hy(M:Nat):Prop:=M=7\/M=31\/M=127
theorem Gk:∀j,j<8->∃s,s<8/\fiv s%8=j:=by decide+kernel
theorem DP:∀j,j<32->∃s,s<32/\fiv s%32=j:=by decide+kernel
theorem A9:∀j,j<128->∃s,s<128/\fiv s%128=j:=by decide+kernel
theorem Gj{M:Nat}(h:Hy M):(∀j,j<M+1->∃s,s<M+1/\fiv s%(M+1)=j)/\fiv (M+1)%(M+1)=0/\5^(M+1)%(M+1)=1:=by
 rcases h with rfl|rfl|rfl
 .exact⟨Gk,by decide+kernel,by decide+kernel⟩
 .exact⟨DP,by decide+kernel,by decide+kernel⟩
 .exact⟨A9,by decide+kernel,by decide+kernel⟩
theorem uL(a b:Nat):fiv (a+b)=5^b*fiv a+fiv b:=by
 induction b with
 |zero=>rw[Nat.pow_zero,Nat.one_mul];rfl
 |succ b ih=>
  rw[Nat.add_succ,lb,ih,lb,Nat.pow_succ];generalize 5^b=p;generalize fiv a=x;generalize fiv b=y;rw[Nat.mul_add,Nat.mul_comm p 5,Nat.mul_assoc,Nat.add_assoc]
theorem Cq{M:Nat}(h:Hy M){i j:Nat}(hi:i<M+1)(hj:j<M+1):∃s,s<M+1/\(lps M s (i,0)).1=j:=by
 obtain⟨a,b,c⟩:=Gj h;obtain⟨si,h1,h2⟩:=a i hi;obtain⟨sj,h3,h4⟩:=a j hj;have key:∀s,(lps M s (i,0)).1=fiv (si+s)%(M+1):=λs=>by
  rw[BD M s i hi,uL,<-h2,Nat.add_mod,Nat.mul_mod,Nat.mod_mod,<-Nat.mul_mod,<-Nat.add_mod]
 by_cases q:si<=sj
 .exact⟨sj-si,by lia,by rw[key,show si+(sj-si)=sj by lia,h4]⟩
 .refine⟨M+1+sj-si,by lia,?_⟩
  rw[key,show si+(M+1+sj-si)=(M+1)+sj by lia,uL,Nat.add_mod,Nat.mul_mod,b,Nat.mul_zero,Nat.zero_mod,Nat.zero_add,Nat.mod_mod,h4]
theorem A7(h:Int):SetTable.bits h<2^64:=by
 unfold SetTable.bits
 lia
theorem IC{M:Nat}(h:Hy M)(x:Int){j:Nat}(hj:j<M+1):∃k,k<SetTable.turns M/\(lps M k (SetTable.bits x%(M+1),SetTable.bits x)).1=j:=by
 have lt:SetTable.bits x%(M+1)<M+1:=Nat.mod_lt _ (by lia);have q:=xV M 13 (SetTable.bits x%(M+1)) (SetTable.bits x);have z:SetTable.bits x/32^13=0:=Nat.div_eq_of_lt (Nat.lt_of_lt_of_le (A7 x) (by decide));rw[z]at q;obtain⟨s,h1,h2⟩:=Cq h (xW M 13 _ (SetTable.bits x) lt) hj;refine⟨13+s,by unfold SetTable.turns;lia,?_⟩;rw[oj];generalize lps M 13 (SetTable.bits x%(M+1),SetTable.bits x)=y at q h2;obtain⟨y1,y2⟩:=y;dsimp only at q h2;subst q;exact h2
end VL
namespace MA
open PySem
noncomputable def G0(j most:Int):Int:=if j=0 then most else if(Builtin.Int.intBits (Builtin.bitAnd j (-j)):Int)-1<most then(Builtin.Int.intBits (Builtin.bitAnd j (-j)):Int)-1 else most
theorem va{a:Int}{m:Nat}(h:a.natAbs<2^m):Builtin.Int.intBits a<=m:=by
 unfold Builtin.Int.intBits;split
 .exact Nat.zero_le _
 .rename_i h0
  have h0:a≠0:=by simpa using h0
  have:a.natAbs.log2<m:=(Nat.log2_lt (by lia)).mpr h
  lia
structure Q4 where
 a:Int
 b:Int
 c:Int
 d:Int
namespace Q4
noncomputable def add(x y:Q4):Q4:=⟨x.a+y.a,x.b+y.b,x.c+y.c,x.d+y.d⟩
noncomputable def rt(x:Q4):Q4:=⟨x.b-x.d,x.a+x.c,x.b+x.d,x.c-x.a⟩
noncomputable def tn(x:Q4):Q4:=⟨-x.d,x.a,x.b,x.c⟩
noncomputable def rtn:Nat->Q4->Q4
 | 0,x=>x
 |n+1,x=>rtn n (rt x)
end Q4
noncomputable def Fo(x:Q4)(k:Int):Q4×Int:=
 let t:=(G0 (Builtin.bitOr (Builtin.bitOr (Builtin.bitOr x.a x.b) x.c) x.d) (k/2)).toNat
 let y:Q4:=⟨x.a/2^t,x.b/2^t,x.c/2^t,x.d/2^t⟩
 if k-2*t=0\/(y.a-y.c)%2=1\/(y.b-y.d)%2=1 then(y,k-2*t)else(⟨(y.b-y.d)/2,(y.a+y.c)/2,(y.b+y.d)/2,(y.c-y.a)/2⟩,k-2*t-1)
noncomputable def Bv(x:Q4)(c:Int)(y:Q4)(d:Int):Q4×Int:=Fo (Q4.add (Q4.rtn (max c d-c).toNat x) (Q4.rtn (max c d-d).toNat y)) (max c d)
noncomputable def Gu:Nat->Q4->Q4
 | 0,x=>x
 |n+1,x=>Q4.tn (Gu n x)
structure S2 where
 p:Int
 q:Int
namespace S2
end S2
abbrev Nu:=Q4×Nat
inductive Row where
 |swing (j:Nat)|turn (j:Nat) (e:Nat)|flip (j:Nat)|tie (i j:Nat)|sign (i j:Nat)|cross (i j:Nat)
noncomputable def Bw(u v:Nu):Nu:=((Bv u.1 u.2 v.1 v.2).1,(Bv u.1 u.2 v.1 v.2).2.toNat)
noncomputable def BL(u:Nu):Nu:=((Fo u.1 ((u.2+1:Nat):Int)).1,(Fo u.1 ((u.2+1:Nat):Int)).2.toNat)
noncomputable def wI(e:Nat)(u:Nu):Nu:=(Gu (e%8) u.1,u.2)
noncomputable def wt(n j:Nat):Nat:=2^(n-1-j)
noncomputable def bit(w p:Nat):Nat:=p/w%2
noncomputable def F0(w p:Nat):Nat:=if bit w p=0 then p+w else p-w
noncomputable def BM(n:Nat):Row->Nat->Nat
 |.flip j,p=>F0 (wt n j) p
 |.tie i j,p=>if bit (wt n i) p=0 then p else F0 (wt n j) p
 |.cross i j,p=>if bit (wt n i) p=bit (wt n j) p then p else F0 (wt n j) (F0 (wt n i) p)
 |_,p=>p
noncomputable def DC(n:Nat)(f:Nat->Nu):Row->Nat->Nu
 |.swing j,p=>if bit (wt n j) p=0 then BL (Bw (f p) (f (p+wt n j)))else BL (Bw (f (p-wt n j)) (wI 4 (f p)))
 |.turn j e,p=>wI (e*bit (wt n j) p) (f p)
 |.sign i j,p=>wI (4*bit (wt n i) p*bit (wt n j) p) (f p)
 |r,p=>f (BM n r p)
theorem lB(w p:Nat):bit w p<2:=Nat.mod_lt _ (by decide)
theorem Gg(a b:Nat):Builtin.bitAnd (a:Int) (b:Int)=((a &&& b:Nat):Int):=by
 unfold Builtin.bitAnd;simp
theorem vk{x y z:Nat}(h:x/2=y/2+z/2)(m:x%2=y%2+z%2):x=y+z:=by lia
theorem vO{u v w:Nat}{p q:Prop}(hu:u<2)(hv:v<2)(hw:w<2)(m1:u=1↔p\/q)(m2:v=1 ↔ ¬(p↔q))(m3:w=1↔p/\q):u=v+w:=by
 have z:∀{x:Nat},x<2->¬x=1->x=0:=λh k=>by lia
 by_cases a:p<;>by_cases b:q
 .rw[m1.mpr (.inl a),m3.mpr ⟨a,b⟩,z hv λe=>m2.mp e ⟨λ_=>b,λ_=>a⟩]
 .rw[m1.mpr (.inl a),m2.mpr λe=>b (e.mp a),z hw λe=>b (m3.mp e).2]
 .rw[m1.mpr (.inr b),m2.mpr λe=>a (e.mpr b),z hw λe=>a (m3.mp e).1]
 .rw[z hu λe=>(m1.mp e).elim a b,z hv λe=>m2.mp e ⟨λc=>absurd c a,λc=>absurd c b⟩,z hw λe=>a (m3.mp e).1]
theorem lJ:∀(k a b:Nat),a<2^k->b<2^k->(a ||| b)=(a ^^^ b)+(a &&& b)
 | 0,a,b,ha,hb=>by
  have:a=0:=by simpa using ha
  have:b=0:=by simpa using hb
  subst a;subst b;rfl
 |k+1,a,b,ha,hb=>by
  have ih:=lJ k (a/2) (b/2) (by rw[Nat.pow_succ]at ha;lia) (by rw[Nat.pow_succ]at hb;lia);have h1:=@Nat.or_div_two a b;have h2:=@Nat.xor_div_two a b;have h3:=@Nat.and_div_two a b;have m1:=@Nat.or_mod_two_eq_one a b;have m2:=@Nat.xor_mod_two_eq_one a b;have m3:=@Nat.and_mod_two_eq_one a b;rw[<-h1,<-h2,<-h3]at ih;exact vk ih (vO (Nat.mod_lt _ (by decide)) (Nat.mod_lt _ (by decide)) (Nat.mod_lt _ (by decide)) m1 m2 m3)
theorem IM(a b:Nat):Builtin.bitOr (a:Int) (b:Int)=((a ||| b:Nat):Int):=by
 have h1:¬(0:Int)<=Builtin.bitNot (a:Int):=by unfold Builtin.bitNot;lia
 have h2:¬(0:Int)<=Builtin.bitNot (b:Int):=by unfold Builtin.bitNot;lia
 have e1:(Builtin.bitNot (Builtin.bitNot (a:Int))).toNat=a:=by unfold Builtin.bitNot;lia
 have e2:(Builtin.bitNot (Builtin.bitNot (b:Int))).toNat=b:=by unfold Builtin.bitNot;lia
 unfold Builtin.bitOr Builtin.bitAnd;rw[decide_eq_false h1,decide_eq_false h2];dsimp only;rw[e1,e2];unfold Builtin.bitNot
 lia
theorem sQ(a b:Nat):Builtin.bitXor (a:Int) (b:Int)=((a ^^^ b:Nat):Int):=by
 unfold Builtin.bitXor;rw[IM,Gg];have h:∀n:Nat,n<2^n:=λn=>Nat.lt_two_pow_self
 have:=lJ (max a b) a b (Nat.lt_of_lt_of_le (h a) (Nat.pow_le_pow_right (by decide) (by lia))) (Nat.lt_of_lt_of_le (h b) (Nat.pow_le_pow_right (by decide) (by lia)))
 lia
noncomputable def qX(n:Nat):Nat:=if n=0 then 0 else n%2+qX (n/2)
termination_by n
decreasing_by lia
theorem fT:qX 0=0:=by unfold qX;simp
theorem fU(n:Nat):qX n=n%2+qX (n/2):=by
 by_cases h:n=0
 .subst h;simp[fT]
 .rw[qX,if_neg h]
theorem m7:∀(k a b:Nat),a<2^k->b<2^k->qX (a ^^^ b)%2=(qX a+qX b)%2
 | 0,a,b,ha,hb=>by
  have:a=0:=by simpa using ha
  have:b=0:=by simpa using hb
  subst a;subst b;simp[fT]
 |k+1,a,b,ha,hb=>by
  have ih:=m7 k (a/2) (b/2) (by rw[Nat.pow_succ]at ha;lia) (by rw[Nat.pow_succ]at hb;lia);have h2:=@Nat.xor_div_two a b;have m2:=@Nat.xor_mod_two_eq_one a b;rw[fU (a ^^^ b),fU a,fU b,h2]
  lia
theorem qj(a b:Nat):∃k,a<2^k/\b<2^k:=by
 have h:∀n:Nat,n<2^n:=λn=>Nat.lt_two_pow_self
 exact⟨max a b,Nat.lt_of_lt_of_le (h a) (Nat.pow_le_pow_right (by decide) (by lia)),Nat.lt_of_lt_of_le (h b) (Nat.pow_le_pow_right (by decide) (by lia))⟩
theorem AX(a b:Nat):qX (a ^^^ b)%2=(qX a+qX b)%2:=by
 obtain⟨k,h1,h2⟩:=qj a b;exact m7 k a b h1 h2
noncomputable def par(n:Nat):Nat:=qX n%2
theorem ce(n:Nat):par n<2:=Nat.mod_lt _ (by decide)
theorem jZ(a b:Nat):par (a ^^^ b)=(par a+par b)%2:=by
 unfold par;rw[AX];lia
theorem dD:par 0=0:=by unfold par;rw[fT]
structure Wd where
 x:Nat
 z:Nat
 s:Nat
noncomputable def BU(u v:Wd):Wd:=⟨u.x ^^^ v.x,u.z ^^^ v.z,(u.s+v.s+2*par (u.z &&& v.x))%4⟩
def Sh(k:Nat)(d:PyData):Prop:=d.canLay0=true/\d.depth<=k
theorem Sh.int(k:Nat)(i:Int):Sh k (.int i):=⟨by simp[PyData.canLay0],by simp[PyData.depth]⟩
theorem Sh.all{k:Nat}:∀(xs:List PyData),(∀x∈xs,Sh k x)->PyData.canLayAll0 xs=true/\PyData.depthAll xs<=k
 |[],_=>⟨by simp[PyData.canLayAll0],by simp[PyData.depthAll]⟩
 |x::xs,h=>by
  obtain⟨a,b⟩:=Sh.all xs λy hy=>h y (List.mem_cons_of_mem _ hy)
  obtain⟨c,d⟩:=h x List.mem_cons_self;refine⟨by simp[PyData.canLayAll0,a,c],?_⟩;simp only[PyData.depthAll]
  lia
theorem Sh.tuple{k:Nat}{xs:List PyData}(h:∀x∈xs,Sh k x):Sh (k+1) (.tuple xs):=by
 obtain⟨a,b⟩:=Sh.all xs h;exact⟨by simp[PyData.canLay0,a],by simp only[PyData.depth];lia⟩
mutual
theorem qy:∀d:PyData,d.canLay0=true->PyData.eqv d d=true
 |.none,_=>by simp[PyData.eqv]
 |.bool _,_=>by simp[PyData.eqv]
 |.int _,_=>by simp[PyData.eqv]
 |.str _,_=>by simp[PyData.eqv]
 |.list xs,h=>by
  simp only[PyData.eqv];exact eqvAll_self xs (by simpa[PyData.canLay0]using h)
 |.tuple xs,h=>by
  simp only[PyData.eqv];exact eqvAll_self xs (by simpa[PyData.canLay0]using h)
 |.dict _,h=>by simp[PyData.canLay0]at h
theorem eqvAll_self:∀xs:List PyData,PyData.canLayAll0 xs=true->PyData.eqvAll xs xs=true
 |[],_=>by simp[PyData.eqvAll]
 |x::xs,h=>by
  have h':x.canLay0=true/\PyData.canLayAll0 xs=true:=by simpa[PyData.canLayAll0]using h
  simp only[PyData.eqvAll,qy x h'.1,eqvAll_self xs h'.2,Bool.and_self]
end
noncomputable def val(M:Nat)(u:Nu):Q4:=Q4.rtn (M-u.2) u.1
end MA
namespace GN
open PySem L2 VL
noncomputable def top(i:Nat):Stmt:=PySem.Challenge.pw_wavewires_k55_settled_alike.main.body.getD i (.Pass ⟨0,0,0,0⟩)
abbrev cZ:Stmt:=top 4
abbrev fZ:List Str:=["turn","turns","pairs","by_set","pair","bitset","e"]
noncomputable def eR:Dv->Option D:=bP (oI (fH 3) aY) [] qR (ob (o2 (o2 (oV 0) (oC (.int 1)) aD) (oC (.int 0)) neD)) (oV 0)
noncomputable def bF:Sf:=aB (aE 5 (o2 (oV 4) (oC (.int 0)) aD)) (aB (aE 6 (o2 (oV 4) (oC (.int 1)) aD)) (aB (fm (ob (o2 (o2 (oV 5) (oC (.int 1)) DN) (oC (.int 1)) o8)) (aB (aE 0 (o2 (oV 0) (oV 6) bL)) (aB (aE 5 (o2 (oV 5) (oC (.int 1)) d6)) (aE 6 (o1 (oV 6) negD)))) (kj)) (fm (ob (o2 (oV 5) (oC (.int 0)) neD)) (dg 3 (oV 5) (o2 (o2 (gG 3 (oV 5) (oC (.int 0))) (oV 6) bL) (oC (.int 8)) aM)) (kj))))
noncomputable def fW:Sf:=aB (rK 3 (oV 1)) (aB (df (oI (oV 2) aY) (gN 4) (bF)) (bA (os (ac (o2 (oV 0) (oC (.int 8)) aM) (ac (os (ac (eR) (ak)) bi) (ak))) aU)))
noncomputable def bD:List D->Option D:=cc fZ 3 fW
abbrev tM:Stmt:=top 6
abbrev BR:List Str:=["bitset","bit"]
noncomputable def yX:Sf:=bA (o2 (o2 (o2 (oV 0) (oV 1) zQ) (oC (.int 1)) DN) (oC (.int 1)) o8)
noncomputable def cJ:List D->Option D:=cc BR 2 yX
abbrev cN:Stmt:=top 7
abbrev eA:List Str:=["one","bit","change","within","others","both"]
noncomputable def eO:Dv->Option D:=bP (oI (o2 (oV 0) (oC (.int 3)) aD) aY) [(1,"bit"),(2,"change")] qR (ob (os (ac (o2 (oV 0) (oC (.int 0)) aD) (ac (oV 1) (ak))) cJ)) (os (ac (o2 (o2 (oV 0) (oC (.int 0)) aD) (oV 2) d6) (ac (o2 (oV 0) (oC (.int 1)) aD) (ak))) aU)
noncomputable def eN:Dv->Option D:=bP (oI (o2 (oV 0) (oC (.int 3)) aD) aY) [(1,"bit")] qR (Ar (ob (os (ac (o2 (oV 0) (oC (.int 0)) aD) (ac (oV 1) (ak))) cJ))) (oV 0)
noncomputable def eM:Dv->Option D:=bP (oI (o2 (oV 0) (oC (.int 5)) aD) aY) [(1,"bit")] qR (ob (o2 (oV 0) (oV 1) neD)) (oV 0)
noncomputable def jo:Sf:=aB (aE 3 (eO)) (aB (aE 4 (eN)) (aB (aE 5 (os (ac (o2 (oV 0) (oC (.int 2)) aD) (ac (oV 4) (ac (oV 3) (ak)))) bD)) (bA (os (ac (o2 (oV 0) (oC (.int 0)) aD) (ac (o2 (oV 0) (oC (.int 1)) aD) (ac (o2 (oV 5) (oC (.int 0)) aD) (ac (o2 (oV 5) (oC (.int 1)) aD) (ac (o2 (oV 0) (oC (.int 4)) aD) (ac (os (ac (eM) (ak)) bi) (ak))))))) aU))))
noncomputable def cq:List D->Option D:=cc eA 3 jo
abbrev eJ:Stmt:=top 9
abbrev lM:List Str:=["bitset"]
noncomputable def gR:Sf:=bA (o2 (o1 (oV 0) nc) (oC (.int 1)) px)
noncomputable def br:List D->Option D:=cc lM 1 gR
abbrev d9:Stmt:=top 10
abbrev js:List Str:=["things","bits_in","product","told","thing","other","top"]
noncomputable def gF:Dv->Option D:=jA (oI (oV 3) aY) [(1,"bits_in"),(2,"product"),(4,"thing"),(6,"top")] qR (GE (ob (os (ac (bj 1 (ac (oV 0) (ak)) (("<lambda> id",qq)::[])) (ac (oV 4) (ak))) cJ)) (bj 2 (ac (oV 0) (ac (oV 3) (ak))) (("<lambda> xor",ou)::[])) (oV 0))
noncomputable def cg:Sf:=fm (ob (os (ac (bj 1 (ac (oV 4) (ak)) (("<lambda> id",qq)::[])) (ac (os (ac (bj 1 (ac (oV 5) (ak)) (("<lambda> id",qq)::[])) (ak)) br) (ak))) cJ)) (aE 4 (bj 2 (ac (oV 4) (ac (oV 5) (ak))) (("<lambda> xor",ou)::[]))) (kj)
noncomputable def dF:Sf:=aB (λδ=>(df (oI (oV 3) aY) (gN 5) (cg)) (qC 3 δ)) (fm (ob (o2 (bj 1 (ac (oV 4) (ak)) (("<lambda> id",qq)::[])) (oC (.int 0)) neD)) (aB (aE 6 (os (ac (bj 1 (ac (oV 4) (ak)) (("<lambda> id",qq)::[])) (ak)) br)) (aB (mD 3 (GD (gF))) (xm 3 (oV 4)))) (kj))
noncomputable def jq:Sf:=aB (vB 3 (ak)) (aB (df (oI (oV 0) aY) (gN 4) (dF)) (λδ=>(bA (oV 3)) (qC 3 δ)))
noncomputable def cr:List D->Option D:=cc js 3 jq
abbrev fF:Stmt:=top 12
abbrev lL:List Str:=["turns","bit"]
noncomputable def i9:Dv->Option D:=bP (oI (oV 0) aY) [(1,"bit")] qR (ob (os (ac (o2 (oV 0) (oC (.int 0)) aD) (ac (oV 1) (ak))) cJ)) (oV 0)
noncomputable def lH:Sf:=bA (i9)
noncomputable def b8:List D->Option D:=cc lL 2 lH
abbrev bN:Stmt:=top 13
abbrev dL:List Str:=["turns"]
noncomputable def dh:Dv->Option D:=jA (oI (oV 0) aY) [] qR (o2 (oV 0) (oC (.int 1)) aD)
noncomputable def dJ:Sf:=bA (os (ac (dh) (ak)) zJ)
noncomputable def aP:List D->Option D:=cc dL 1 dJ
abbrev dq:Stmt:=top 14
abbrev iX:List Str:=["turns","told","pair"]
noncomputable def bK:Sf:=fm (ob (o2 (o2 (o2 (oV 2) (oC (.int 1)) aD) (oC (.int 2)) aM) (oC (.int 1)) o8)) (aE 1 (o2 (oV 1) (o2 (oV 2) (oC (.int 0)) aD) d6)) (kj)
noncomputable def eY:Sf:=aB (aE 1 (oC (.int 0))) (aB (df (oI (oV 0) aY) (gN 2) (bK)) (bA (oV 1)))
noncomputable def bH:List D->Option D:=cc iX 1 eY
abbrev ck:Stmt:=top 15
abbrev dZ:List Str:=["bit","turns","bits","form","k","both","held"]
noncomputable def eP:Dv->Option D:=bP (oI (zo (oV 2) (oP (o2 (oV 4) (oC (.int 1)) bL)) (zp)) aY) [(0,"bit"),(2,"bits"),(4,"k"),(6,"held")] qR (ob (os (ac (oV 4) (ac (oV 0) (ak))) cJ)) (os (ac (os (ac (oV 1) (ac (o2 (oV 2) (oV 3) aD) (ac (oV 0) (ak)))) aU) (ac (oC (.int 4)) (ak))) aU)
noncomputable def cC:Dv->Option D:=bP (oI (oV 3) aY) [] qR (ob (o2 (o2 (oV 0) (oC (.int 1)) aD) (oC (.int 0)) neD)) (oV 0)
noncomputable def cD:Sf:=aB (aE 5 (os (ac (oV 1) (ac (o2 (oV 2) (oV 4) aD) (ak))) b8)) (aB (xm 3 (os (ac (os (ac (oV 0) (ac (o2 (oV 2) (oV 4) aD) (ak))) aU) (ac (o2 (o2 (o1 (oC (.int 2)) negD) (os (ac (oV 5) (ak)) aP) kB) (oC (.int 8)) aM) (ak))) aU)) (aB (aE 6 (os (ac (oV 5) (ak)) bH)) (xk 3 (eP))))
noncomputable def fV:Sf:=aB (vB 3 (ac (os (ac (os (ac (oV 0) (ak)) aU) (ac (o2 (os (ac (oV 1) (ak)) aP) (oC (.int 8)) aM) (ak))) aU) (ak))) (aB (df (oL (ac (os (ac (oV 2) (ak)) cw) (ak)) fg) (gN 4) (cD)) (λδ=>(bA (cC)) (qC 3 δ)))
noncomputable def bU:List D->Option D:=cc dZ 3 fV
abbrev d8:Stmt:=top 16
abbrev jr:List Str:=["turns","held","pair","bits","form","k"]
noncomputable def eQ:Dv->Option D:=bP (oL (ac (o1 (oV 1) nc) (ak)) fg) [(1,"held")] qR (ob (os (ac (oV 1) (ac (oV 0) (ak))) cJ)) (oV 0)
noncomputable def eT:Sf:=aE 1 (o2 (oV 1) (o2 (oV 2) (oC (.int 0)) aD) IE)
noncomputable def dE:Sf:=xk 4 (os (ac (o2 (oV 3) (oV 5) aD) (ac (os (ac (oV 0) (ac (o2 (oV 3) (oV 5) aD) (ak))) b8) (ac (zo (oV 3) (oP (o2 (oV 5) (oC (.int 1)) bL)) (zp)) (ak)))) bU)
noncomputable def jp:Sf:=aB (aE 1 (oC (.int 0))) (aB (df (oI (oV 0) aY) (gN 2) (eT)) (aB (aE 3 (eQ)) (aB (vB 4 (ak)) (aB (df (oL (ac (os (ac (oV 3) (ak)) cw) (ak)) fg) (gN 5) (dE)) (λδ=>(bA (os (ac (oV 4) (ak)) bi)) (qC 4 δ))))))
noncomputable def dy:List D->Option D:=cc jr 1 jp
abbrev cU:Stmt:=top 17
abbrev gz:List Str:=["one","ties","tie"]
noncomputable def bS:Sf:=aE 0 (os (ac (oV 0) (ac (os (ac (oV 2) (ak)) br) (ac (oV 2) (ak)))) cq)
noncomputable def cX:Sf:=aB (fm (ob (o2 (o2 (oV 0) (oC (.int 5)) aD) (os (ak) aU) neD)) (IA) (kj)) (aB (aE 1 (o1 (os (ac (o2 (oV 0) (oC (.int 4)) aD) (ac (oC (BN "<lambda> id")) (ac (oC (BN "<lambda> xor")) (ak)))) cr) gn)) (aB (fm (ob (o2 (oC (.int 1)) (oV 1) (wE false))) (bA (oC .none)) (kj)) (aB (df (oI (oV 1) aY) (gN 2) (bS)) (bA (os (ac (o2 (oV 0) (oC (.int 0)) aD) (ac (o2 (oV 0) (oC (.int 1)) aD) (ac (o2 (oV 0) (oC (.int 2)) aD) (ac (os (ac (o2 (oV 0) (oC (.int 3)) aD) (ak)) dy) (ac (os (ac (oV 1) (ak)) bi) (ak)))))) aU)))))
noncomputable def ao:List D->Option D:=cc gz 1 cX
abbrev dt:Stmt:=top 19
abbrev iY:List Str:=["turn","counts","bitset","e"]
noncomputable def bY:Sf:=aB (fm (ob (o2 (o2 (oV 2) (oC (.int 2)) aM) (oC (.int 1)) o8)) (aB (aE 0 (o2 (oV 0) (oV 3) bL)) (aB (aE 3 (o1 (oV 3) negD)) (aE 2 (o2 (oV 2) (oC (.int 1)) px)))) (kj)) (aB (fm (ob (o2 (oV 2) (oC (.int 0)) j2)) (dg 1 (oV 2) (o2 (o2 (gG 1 (oV 2) (oC (.int 0))) (oV 3) bL) (oC (.int 8)) aM)) (kj)) (bA (o2 (oV 0) (oC (.int 8)) aM)))
noncomputable def ai:D->List (ar×D)->List D->Option (D×List (ar×D)):=nR iY 4 bY
abbrev dA:Stmt:=top 20
abbrev eZ:List Str:=["cells","shape","halves","ones","size","turn","counts","ties","cell","bitset","turns"]
noncomputable def jz:Dv->Option D:=bP (oI (o1 (oV 6) i3) aY) [(6,"counts")] qR (ob (o2 (o2 (oV 1) (oV 0) gy) (oC (.int 0)) j2)) (os (ac (oV 0) (ac (o2 (oV 1) (oV 0) gy) (ak))) aU)
noncomputable def bC:Sf:=aB (aE 9 (o2 (o2 (oV 8) (oC (.int 3)) bh) (o2 (oC (.int 1)) (oV 4) dN) aM)) (fm (Ei (ob (o2 (o2 (oV 8) (oC (.int 3)) aM) (oC (.int 0)) j2)) (ob (o2 (iw 7) (oV 3) o8))) (e9 5 6 (oV 5) (ac (oV 9) (ac (o2 (o2 (oV 8) (oC (.int 96)) bh) (oC (.int 8)) aM) (ak))) ai) (fm (n9 7 (oa (ob (o2 (oV 9) (oC (.int 0)) j2)) (ob (o2 (oV 9) (oV 7) (wE true))))) (xm 7 (oV 9)) (kj)))
noncomputable def gS:Sf:=aB (aE 4 (o2 (o2 (o2 (oC (.int 2)) (o2 (oV 1) (oC (.int 0)) aD) kB) (o2 (oV 1) (oC (.int 1)) aD) bL) (oC (.int 1)) bL)) (aB (aE 5 (oC (.int 0))) (aB (pJ 6) (aB (vB 7 (ak)) (aB (df (oI (oV 0) aY) (gN 8) (bC)) (aB (λδ=>(aE 10 (os (ac (jz) (ak)) bi)) (iP 6 δ)) (λδ=>(bA (os (ac (oV 1) (ac (oV 2) (ac (oV 5) (ac (oV 10) (ac (os (ac (o1 (oV 7) gn) (ak)) bi) (ac (os (ak) aU) (ak))))))) aU)) (qC 7 δ)))))))
noncomputable def dG:List D->Option D:=cc eZ 4 gS
abbrev dQ:Stmt:=top 23
abbrev jI:List Str:=["ties","cell","made","at","other"]
noncomputable def dX:Sf:=aB (mD 2 (IF (ac (oV 0) (ak)))) (aB (fm (ob (o2 (iw 2) (oC (.int 1)) j2)) (aB (aE 3 (o2 (oV 1) (iw 2) aM)) (aB (aE 4 (o2 (o2 (o2 (oV 3) (oC (.int 1)) bL) (o2 (o2 (oV 1) (oC (.int 4)) bh) (o2 (iw 2) (oC (.int 1)) px) aM) bL) (iw 2) aM)) (Cf 2 (oV 3) (o2 (rX 2 (oV 3)) (rX 2 (oV 4)) d6)))) (kj)) (λδ=>(bA (os (ac (o1 (oV 2) fC) (ak)) bi)) (qC 2 δ)))
noncomputable def bE:List D->Option D:=cc jI 2 dX
abbrev bz:Stmt:=top 24
abbrev cS:List Str:=["one","cell","size","counts","turn","bitset","e","pair","tie","first","second","turns"]
noncomputable def dR:Dv->Option D:=bP (oI (o1 (oV 3) i3) aY) [(3,"counts")] qR (ob (o2 (o2 (oV 1) (oV 0) gy) (oC (.int 0)) j2)) (os (ac (oV 0) (ac (o2 (oV 1) (oV 0) gy) (ak))) aU)
noncomputable def bn:Sf:=dg 3 (oV 5) (oV 6)
noncomputable def bM:Sf:=e9 4 3 (oV 4) (ac (oV 5) (ac (oC (.int 4)) (ak))) ai
noncomputable def cR:Sf:=aB (pJ 3) (aB (aE 4 (o2 (oV 0) (oC (.int 2)) aD)) (aB (df (oI (o2 (oV 0) (oC (.int 3)) aD) aY) (zt [gN 5,gN 6]) (bn)) (aB (fm (oa (ob (o2 (o2 (oV 1) (oC (.int 2)) aM) (oC (.int 0)) o8)) (oa (ob (o2 (os (ac (o2 (oV 0) (oC (.int 4)) aD) (ak)) cw) (oC (.int 0)) j2)) (ob (o2 (os (ac (o2 (oV 0) (oC (.int 3)) aD) (ak)) cw) (oC (.int 0)) j2)))) (aB (aE 7 (o2 (o2 (oV 0) (oC (.int 3)) aD) (o2 (o2 (oV 1) (oC (.int 2)) bh) (os (ac (o2 (oV 0) (oC (.int 3)) aD) (ak)) cw) aM) aD)) (aB (aE 8 (o2 (o2 (oV 0) (oC (.int 4)) aD) (o2 (o2 (oV 1) (oC (.int 26)) bh) (os (ac (o2 (oV 0) (oC (.int 4)) aD) (ak)) cw) aM) aD)) (aB (e9 4 3 (oV 4) (ac (o2 (oV 7) (oC (.int 0)) aD) (ac (o1 (o2 (oV 7) (oC (.int 1)) aD) negD) (ak))) ai) (e9 4 3 (oV 4) (ac (o2 (o2 (oV 7) (oC (.int 0)) aD) (oV 8) d6) (ac (o2 (oV 7) (oC (.int 1)) aD) (ak))) ai)))) (aB (aE 9 (o2 (o2 (oV 1) (oC (.int 2)) bh) (o2 (oC (.int 1)) (oV 2) dN) aM)) (aB (aE 10 (o2 (o2 (oV 1) (oC (.int 514)) bh) (o2 (oC (.int 1)) (oV 2) dN) aM)) (df (oI (os (ac (oV 9) (ac (oV 10) (ac (o2 (oV 9) (oV 10) d6) (ak)))) r8) aY) (gN 5) (bM))))) (aB (λδ=>(aE 11 (os (ac (dR) (ak)) bi)) (iP 3 δ)) (bA (os (ac (o2 (oV 0) (oC (.int 0)) aD) (ac (o2 (oV 0) (oC (.int 1)) aD) (ac (oV 4) (ac (oV 11) (ac (o2 (oV 0) (oC (.int 4)) aD) (ac (os (ak) aU) (ak))))))) aU))))))
noncomputable def bd:List D->Option D:=cc cS 3 cR
abbrev cB:Stmt:=top 25
abbrev f7:List Str:=["told","e"]
noncomputable def fY:Sf:=aB (fm (ob (o2 (oV 0) (oC .none) isD)) (bA (oC .none)) (kj)) (bA (os (ac (o2 (oV 0) (oC (.int 0)) aD) (ac (o2 (oV 0) (oC (.int 1)) aD) (ac (o2 (o2 (o2 (oV 0) (oC (.int 2)) aD) (oV 1) bL) (oC (.int 8)) aM) (ac (o2 (oV 0) (oC (.int 3)) aD) (ac (o2 (oV 0) (oC (.int 4)) aD) (ak)))))) aU))
noncomputable def aK:List D->Option D:=cc f7 2 fY
abbrev gr:Stmt:=top 26
abbrev zi:List Str:=["script","first","shape","size","cut","one","other","cell","told","e","turned_more","counts","bitset","old","turn","turns"]
noncomputable def nU:Dv->Option D:=bP (oI (o1 (oV 11) i3) aY) [(11,"counts")] qR (ob (o2 (o2 (oV 1) (oV 0) gy) (oC (.int 0)) j2)) (os (ac (oV 0) (ac (o2 (oV 1) (oV 0) gy) (ak))) aU)
noncomputable def gI:Sf:=fm (ob (o2 (o2 (oV 7) (oC (.int 3)) aM) (oC (.int 0)) o8)) (aE 6 (os (ac (oV 2) (ac (o2 (oV 5) (oC (.int 1)) aD) (ac (o2 (oV 6) (oC (.int 2)) aD) (ac (o2 (oV 6) (oC (.int 3)) aD) (ac (os (ac (o2 (oV 6) (oC (.int 4)) aD) (ac (o2 (oV 7) (oC (.int 3)) bh) (ak))) bE) (ac (os (ak) aU) (ak))))))) aU)) (aE 6 (os (ac (oV 6) (ac (o2 (oV 7) (oC (.int 3)) bh) (ac (oV 3) (ak)))) bd))
noncomputable def ja:Sf:=dg 11 (oV 12) (oV 13)
noncomputable def yW:Sf:=aB (aE 1 (oC (.int 0))) (aB (fm (ob (o2 (os (ac (oV 0) (ak)) cw) (oC (.int 0)) j2)) (aE 1 (o2 (oV 0) (oC (.int 0)) aD)) (kj)) (aB (aE 2 (os (ac (o2 (oC (.int 1)) (o2 (oV 1) (oC (.int 3)) aM) bL) (ac (o2 (o2 (oV 1) (oC (.int 3)) bh) (oC (.int 4)) aM) (ak))) aU)) (aB (aE 3 (o2 (o2 (o2 (oC (.int 2)) (o2 (oV 2) (oC (.int 0)) aD) kB) (o2 (oV 2) (oC (.int 1)) aD) bL) (oC (.int 1)) bL)) (aB (aE 4 (o2 (o2 (oV 1) (oC (.int 12)) bh) (o2 (os (ac (oV 0) (ak)) cw) (oC (.int 1)) bL) aM)) (aB (aE 5 (os (ac (zo (zo (oV 0) (zp) (oP (oV 4))) (zp) (oP (oC (.int 40)))) (ac (oV 2) (ac (o2 (o2 (o2 (oV 1) (oC (.int 5)) bh) (oC (.int 61)) aM) (oC (.int 30)) px) (ac (o2 (o2 (oV 1) (oC (.int 7)) bh) (oC (.int 5)) aM) (ak))))) dG)) (aB (aE 6 (oV 5)) (aB (df (oI (zo (oV 0) (oP (oV 4)) (zp)) aY) (gN 7) (gI)) (aB (aE 8 (os (ac (oV 5) (ak)) ao)) (aB (fm (ob (o2 (os (ac (oV 6) (ak)) ao) (oV 8) neD)) (bA (oC (.bool false))) (kj)) (aB (aE 9 (o2 (oC (.int 1)) (o2 (o2 (oV 1) (oC (.int 11)) bh) (oC (.int 7)) aM) bL)) (aB (aE 10 (os (ac (oV 2) (ac (o2 (oV 5) (oC (.int 1)) aD) (ac (o2 (o2 (o2 (oV 6) (oC (.int 2)) aD) (oV 9) bL) (oC (.int 8)) aM) (ac (o2 (oV 6) (oC (.int 3)) aD) (ac (o2 (oV 6) (oC (.int 4)) aD) (ac (os (ak) aU) (ak))))))) aU)) (aB (fm (ob (o2 (os (ac (oV 10) (ak)) ao) (os (ac (oV 8) (ac (oV 9) (ak))) aK) neD)) (bA (oC (.bool false))) (kj)) (aB (fm (ob (o2 (os (ac (o2 (oV 5) (oC (.int 4)) aD) (ak)) cw) (oC (.int 0)) j2)) (bA (Aq (o2 (oV 8) (oC .none) isD) (o2 (os (ac (oV 10) (ak)) ao) (oV 8) neD))) (kj)) (aB (pJ 11) (aB (df (oI (o2 (oV 5) (oC (.int 3)) aD) aY) (zt [gN 12,gN 13]) (ja)) (aB (e9 14 11 (o2 (oV 5) (oC (.int 2)) aD) (ac (o2 (oC (.int 1)) (o2 (oC (.int 1)) (o2 (o2 (oV 1) (oC (.int 13)) bh) (o2 (oV 3) (oC (.int 1)) px) aM) bL) dN) (ac (oV 9) (ak))) ai) (aB (λδ=>(aE 15 (os (ac (nU) (ak)) bi)) (iP 11 δ)) (bA (o2 (os (ac (os (ac (oV 2) (ac (o2 (oV 5) (oC (.int 1)) aD) (ac (oV 14) (ac (oV 15) (ac (os (ak) aU) (ac (os (ak) aU) (ak))))))) aU) (ak)) ao) (oV 8) neD)))))))))))))))))))
noncomputable def yz:List D->Option D:=cc zi 1 yW
open MA (Nu Row wt bit F0 BM DC Wd par BU)
theorem aN{s t:Sf}{δ δ':Dv}(h:s δ = some (.nx,δ')):aB s t δ = t δ':=by simp only[aB,h,Option.bind_some]
theorem C1{s t:Sf}{δ δ':Dv}{d:D}(h:s δ = some (.rt d,δ')):aB s t δ = some (.rt d,δ'):=by simp only[aB,h,Option.bind_some]
theorem lS{N:List Str}{n:Nat}{b:Sf}{as:List D}{d:D}{δ':Dv}(hl:as.length=n)(h:b (aV N as)=some (.rt d,δ')):cc N n b as=some d:=by unfold cc;rw[if_pos hl,h];rfl
theorem Fk{f g:Dv->Option Bool}{δ:Dv}(h:f δ = some true):Ei f g δ = some true:=by unfold Ei;rw[h];rfl
theorem Bz{f g:Dv->Option Bool}{δ:Dv}(h:f δ = some false):Ei f g δ = g δ:=by unfold Ei;rw[h];rfl
theorem gu{t:Dv->Option Bool}{u w:Sf}{δ:Dv}(h:t δ = some true):fm t u w δ = u δ:=by unfold fm;rw[h];rfl
theorem ee{t:Dv->Option Bool}{u w:Sf}{δ:Dv}(h:t δ = some false):fm t u w δ = w δ:=by unfold fm;rw[h];rfl
theorem Gi(a:Nat):Builtin.bitAnd (a:Int) 1=((a%2:Nat):Int):=by
 have:=MA.Gg a 1;rw[show((1:Nat):Int)=1 from rfl]at this;rw[this,Nat.and_one_is_mod]
theorem zP(a h:Nat):zQ (.int (a:Int)) (.int (h:Int))=some (.int ((a/2^h:Nat):Int)):=by
 rw[xc (by lia),Int.toNat_natCast];congr 2
theorem zR{a:Nat}(k:Nat)(ha:a<2^100000)(hk:k<=100000):dN (.int (a:Int)) (.int (k:Int))=some (.int ((a*2^k:Nat):Int)):=by
 have hb:(a:Int).natAbs<2^100000:=by rw[Int.natAbs_natCast];exact ha
 have:=MA.va hb;rw[xg (by lia) (by lia),Int.toNat_natCast];congr 2
theorem vq{a:Nat}(h:a<2^64):a<2^100000:=Nat.lt_of_lt_of_le h (Nat.pow_le_pow_right (by decide) (by decide))
noncomputable def ae(hs:List Nat):List D:=hs.map λh=>.int ((h:Nat):Int)
theorem ba(hs:List Nat):(ae hs).length=hs.length:=by simp[ae]
theorem xS(hs:List Nat){k:Nat}(h:k<hs.length):lN (ae hs) (k:Int)=some (.int (hs.getD k 0:Nat)):=by
 refine sW rfl ?_;unfold ae;rw[List.getElem?_map,List.getD_eq_getElem?_getD,List.getElem?_eq_getElem h];rfl
theorem Ci{n:Nat}(hn:n<=16777216):fg [.int (n:Int)]=some ((List.range n).map λk:Nat=>PyData.int (0+(k:Int))):=vD (j:=(n:Int)) (by lia) (by lia)
theorem xN{fs:Dv->Option (List D)}{g:List D->Option (List D)}{δ:Dv}{ds r:List D}(h:fs δ = some ds)(h2:g ds=some r):oL fs g δ = some r:=by unfold oL;rw[h];exact h2
noncomputable def pQ(p:Nat×Int):D:=.tuple [.int p.1,.int p.2]
theorem sg{n q:Nat}(h:q<n):wC n (q:Int)=some q:=by
 unfold wC;rw[if_pos (by lia),if_pos (by lia)];simp
theorem Az(a:Nat){k:Nat}(hk:0<k):aM (.int (a:Int)) (.int (k:Int))=some (.int ((a%k:Nat):Int)):=by
 rw[bQ (by lia)];congr 2
theorem xT(a:Nat):aM (.int (a:Int)) (.int 2)=some (.int ((a%2:Nat):Int)):=Az a (k:=2) (by decide)
theorem kr{k:Nat}(hk:k<=100000):dN (.int 1) (.int (k:Int))=some (.int ((2^k:Nat):Int)):=by
 have:=zR (a:=1) k (vq (by decide)) hk;rw[Nat.one_mul]at this;exact this
theorem mK(a b:List Nat):ae (a++b)=ae a++ae b:=by simp[ae]
noncomputable def oneD(w l:Nat)(hv:Int)(c:Nat)(ps:List (Nat×Int))(ts hs:List Nat):D:=.tuple [.tuple [.int w,.int l],.int hv,.int c,.tuple (ps.map pQ),.tuple (ae ts),.tuple (ae hs)]
theorem xG(w l:Nat)(hv:Int)(c:Nat)(ps:List (Nat×Int))(ts hs:List Nat):aD (oneD w l hv c ps ts hs) (.int 0)=some (.tuple [.int w,.int l]):=rfl
theorem mH(w l:Nat)(hv:Int)(c:Nat)(ps:List (Nat×Int))(ts hs:List Nat):aD (oneD w l hv c ps ts hs) (.int 1)=some (.int hv):=rfl
theorem mG(w l:Nat)(hv:Int)(c:Nat)(ps:List (Nat×Int))(ts hs:List Nat):aD (oneD w l hv c ps ts hs) (.int 2)=some (.int c):=rfl
theorem kw(w l:Nat)(hv:Int)(c:Nat)(ps:List (Nat×Int))(ts hs:List Nat):aD (oneD w l hv c ps ts hs) (.int 3)=some (.tuple (ps.map pQ)):=rfl
theorem mF(w l:Nat)(hv:Int)(c:Nat)(ps:List (Nat×Int))(ts hs:List Nat):aD (oneD w l hv c ps ts hs) (.int 4)=some (.tuple (ae ts)):=rfl
theorem Fw(w:Nat):kB (.int 2) (.int (w:Int))=some (.int (2*(w:Int))):=qc (.of_left (by decide))
theorem qi{α:Type}{f:D->Option D}{h k:α -> D}:∀(xs:List α),(∀x∈xs,f (h x)=some (k x))->vP f (xs.map h)=some (xs.map k)
 |[],_=>rfl
 |x::xs,H=>by
  show((f (h x)).bind λy=>_)=_
  rw[H x List.mem_cons_self];show((vP f (xs.map h)).bind λys=>_)=_
  rw[qi xs λy hy=>H y (List.mem_cons_of_mem _ hy)]
  rfl
theorem qu{α:Type}{t:D->Option Bool}{f:D->Option D}{h k:α -> D}{b:α -> Bool}:∀(xs:List α),(∀x∈xs,t (h x)=some (b x))->(∀x∈xs,b x=true->f (h x)=some (k x))->eW t f (xs.map h)=some ((xs.filter b).map k)
 |[],_,_=>rfl
 |x::xs,H,G=>by
  have ih:=qu (k:=k) xs (λy hy=>H y (List.mem_cons_of_mem _ hy)) (λy hy=>G y (List.mem_cons_of_mem _ hy))
  show((t (h x)).bind λc=>_)=_
  rw[H x List.mem_cons_self,Option.bind_some];cases e:b x with
  |false=>simp[e,ih]
  |true=>simp[e,ih,G x List.mem_cons_self e]
theorem qE{α:Type}{fi:Dv->Option (List D)}{caps:List (Nat×Str)}{fe:Dv->Option D}{δ:Dv}{h k:α -> D}{xs:List α}(e:fi δ = some (xs.map h))(hl:xs.length<=16777216)(H:∀x∈xs,fe (.fz (h x)::bV δ caps)=some (k x)):jA fi caps qR fe δ = some (.list (xs.map k)):=by
 unfold jA;rw[e,Option.bind_some,if_pos (by rw[List.length_map];exact hl),qi xs (k:=k) λx hx=>by
  show fe _=_;exact H x hx]
 rfl
theorem bX{α:Type}{fi:Dv->Option (List D)}{caps:List (Nat×Str)}{ft:Dv->Option Bool}{fe:Dv->Option D}{δ:Dv}{h k:α -> D}{b:α -> Bool}{xs:List α}(e:fi δ = some (xs.map h))(hl:xs.length<=16777216)(H:∀x∈xs,ft (.fz (h x)::bV δ caps)=some (b x))(G:∀x∈xs,b x=true->fe (.fz (h x)::bV δ caps)=some (k x)):bP fi caps qR ft fe δ = some (.list ((xs.filter b).map k)):=by
 unfold bP;rw[e,Option.bind_some,if_pos (by rw[List.length_map];exact hl),qu xs (b:=b) (k:=k) (λx hx=>by
  show ft _=_;exact H x hx) (λx hx hb=>by
  show fe _=_;exact G x hx hb)]
 rfl
@[simp] theorem GL(u w:Sf)(δ:Dv)(a b:Int):GM u w δ (!(a==b))=if a=b then w δ else u δ:=by
 by_cases h:a=b
 .subst h;simp
 .have:(a==b)=false:=by simpa using h
  rw[this,if_neg h];rfl
abbrev As:=List (Nat×Nat)
noncomputable def vl(A:As)(k:Nat):Nat:=((A.find? λp=>decide (p.1=k)).map (·.2)).getD 0
noncomputable def jy(A:As)(k v:Nat):As:=if(A.any λp=>decide (p.1=k))=true then A.map (λp=>if p.1=k then(p.1,v)else p)else A++[(k,v)]
noncomputable def bg(A:As):List (ar×D):=A.map λp=>(.inl (p.1:Int),.int (p.2:Int))
noncomputable def aj(A:As):List Nat:=A.map (·.1)
theorem kQ(a b:Nat):((Sum.inl (a:Int):ar)=.inl (b:Int))↔a=b:=by
 constructor
 .intro h;exact Int.ofNat.inj (Sum.inl.inj h)
 .intro h;rw[h]
theorem uC(A:As)(k:Nat):dO (bg A) (.inl (k:Int))=(A.find? λp=>decide (p.1=k)).map λp=>.int (p.2:Int):=by
 induction A with
 |nil=>rfl
 |cons p A ih=>
  unfold dO bg at *;rw[List.map_cons,List.find?_cons,List.find?_cons];by_cases h:p.1=k
  .have:((Sum.inl (p.1:Int):ar)=.inl (k:Int)):=(kQ _ _).mpr h
   simp[h]
  .have:¬((Sum.inl (p.1:Int):ar)=.inl (k:Int)):=λz=>h ((kQ _ _).mp z)
   simp only[this,h,decide_false];exact ih
theorem sA(A:As)(k:Nat):(dO (bg A) (.inl (k:Int))).getD (.int 0)=.int (vl A k:Int):=by
 rw[uC];unfold vl;cases A.find? λp=>decide (p.1=k)with
 |none=>rfl
 |some p=>rfl
theorem DM(A:As)(k:Nat):((bg A).any λp=>decide (p.1=.inl (k:Int)))=A.any λp=>decide (p.1=k):=by
 unfold bg;rw[List.any_map];congr 1;funext p;simp only[Function.comp,decide_eq_decide];exact kQ _ _
theorem ik(A:As)(k v:Nat):il (bg A) (.inl (k:Int)) (.int (v:Int))=bg (jy A k v):=by
 unfold il jy;rw[DM];split
 .unfold bg
  rw[List.map_map,List.map_map];apply List.map_congr_left;intro p _;show(if(Sum.inl (p.1:Int):ar)=.inl (k:Int)then _ else _)=_;by_cases h:p.1=k
  .rw[if_pos ((kQ _ _).mpr h)]
   simp[h]
  .rw[if_neg (λz=>h ((kQ _ _).mp z))]
   simp[h]
 .unfold bg
  rw[List.map_append];rfl
theorem dY(A:As)(k:Nat):(A.any λp=>decide (p.1=k))=true↔k∈aj A:=by
 simp[aj,List.any_eq_true]
theorem cy(p:Nat×Nat)(A:As)(k:Nat):vl (p::A) k=if p.1=k then p.2 else vl A k:=by
 unfold vl;rw[List.find?_cons];by_cases h:p.1=k<;>simp[h]
theorem gm{A:As}{k:Nat}(h:k∉aj A):vl A k=0:=by
 unfold vl;have:(A.find? λp=>decide (p.1=k))=none:=by
  rw[List.find?_eq_none];intro p hp;simp only[decide_eq_true_eq];exact λz=>h (List.mem_map.mpr ⟨p,hp,z⟩)
 rw[this];rfl
theorem B1(A:As)(k v j:Nat)(h:k∉aj A):vl (A++[(k,v)]) j=if j=k then v else vl A j:=by
 induction A with
 |nil=>
  rw[List.nil_append,cy];by_cases e:k=j
  .rw[if_pos e,if_pos e.symm]
  .rw[if_neg e,if_neg (Ne.symm e)]
 |cons p A ih=>
  have h1:k≠p.1:=λz=>h (by rw[z];exact List.mem_cons_self)
  have h2:k∉aj A:=λz=>h (List.mem_cons_of_mem _ z)
  rw[List.cons_append,cy,cy,ih h2];by_cases e:p.1=j
  .rw[if_pos e,if_pos e,if_neg (λz=>h1 (by rw[e];exact z.symm))]
  .rw[if_neg e,if_neg e]
theorem B0(A:As)(k v j:Nat)(h:k∈aj A):vl (A.map λp=>if p.1=k then(p.1,v)else p) j=if j=k then v else vl A j:=by
 induction A with
 |nil=>cases h
 |cons p A ih=>
  rw[List.map_cons,cy,cy];by_cases hp:p.1=k
  .rw[if_pos hp]
   show(if p.1=j then v else _)=_;by_cases e:p.1=j
   .rw[if_pos e,if_pos (by rw[<-e];exact hp)]
   .rw[if_neg e,if_neg e]
    by_cases hk:k∈aj A
    .exact ih hk
    .rw[if_neg (λz=>e (by rw[hp];exact z.symm))]
     congr 1;have:∀B:As,k∉aj B->(B.map λp=>if p.1=k then(p.1,v)else p)=B:=λB=>by
      induction B with
      |nil=>intro _;rfl
      |cons q B ihB=>
       intro hB;rw[List.map_cons,ihB (λz=>hB (List.mem_cons_of_mem _ z)),if_neg (λz=>hB (by rw[<-z];exact List.mem_cons_self))]
     exact this A hk
  .rw[if_neg hp]
   have hk:k∈aj A:=by
    rcases List.mem_cons.mp h with z|z
    .exact absurd z.symm hp
    .exact z
   rw[ih hk];by_cases e:p.1=j
   .rw[if_pos e,if_pos e,if_neg (λz=>hp (by rw[e];exact z))]
   .rw[if_neg e,if_neg e]
theorem gA(A:As)(k v j:Nat):vl (jy A k v) j=if j=k then v else vl A j:=by
 unfold jy;by_cases h:(A.any λp=>decide (p.1=k))=true
 .rw[if_pos h];exact B0 A k v j ((dY A k).mp h)
 .rw[if_neg h];exact B1 A k v j λz=>h ((dY A k).mpr z)
theorem iE(A:As)(k v:Nat):aj (jy A k v)=if k∈aj A then aj A else aj A++[k]:=by
 unfold jy;by_cases h:k∈aj A
 .rw[if_pos ((dY A k).mpr h),if_pos h]
  unfold aj;rw[List.map_map];apply List.map_congr_left;intro p _;simp only[Function.comp];split<;>rfl
 .rw[if_neg (λz=>h ((dY A k).mp z)),if_neg h]
  unfold aj;rw[List.map_append];rfl
theorem rY{A:As}(h:(aj A).Nodup)(k v:Nat):(aj (jy A k v)).Nodup:=by
 rw[iE];split
 .exact h
 .rename_i hk
  rw[List.nodup_append];exact⟨h,by simp,λa ha b hb=>by simp at hb;subst hb;exact λz=>hk (by rw[<-z];exact ha)⟩
theorem eE{A:As}(nd:(aj A).Nodup){p:Nat×Nat}(h:p∈A):vl A p.1=p.2:=by
 induction A with
 |nil=>cases h
 |cons q A ih=>
  rw[cy];have nd':=List.nodup_cons.mp (show(q.1::aj A).Nodup from nd);rcases List.mem_cons.mp h with rfl|h
  .rw[if_pos rfl]
  .rw[if_neg (λz=>nd'.1 (by rw[z];exact List.mem_map.mpr ⟨p,h,rfl⟩))]
   exact ih nd'.2 h
theorem kl:∀{a b:List Nat},a.Pairwise (· < ·)->b.Pairwise (· < ·)->(∀k,k∈a↔k∈b)->a=b
 |[],b,_,_,h=>by
  cases b with
  |nil=>rfl
  |cons y b=>exact absurd ((h y).mpr List.mem_cons_self) (by simp)
 |x::a,b,ha,hb,h=>by
  cases b with
  |nil=>exact absurd ((h x).mp List.mem_cons_self) (by simp)
  |cons y b=>
   obtain⟨a1,a2⟩:=List.pairwise_cons.mp ha;obtain⟨b1,b2⟩:=List.pairwise_cons.mp hb;have e:x=y:=by
    rcases List.mem_cons.mp ((h x).mp List.mem_cons_self)with z|z
    .exact z
    .rcases List.mem_cons.mp ((h y).mpr List.mem_cons_self)with w|w
     .exact w.symm
     .have:=b1 x z
      have:=a1 y w
      lia
   subst e;rw[kl a2 b2 λk=>?_]
   constructor
   .intro z
    rcases List.mem_cons.mp ((h k).mp (List.mem_cons_of_mem _ z))with w|w
    .have:=a1 k z;lia
    .exact w
   .intro z
    rcases List.mem_cons.mp ((h k).mpr (List.mem_cons_of_mem _ z))with w|w
    .have:=b1 k z;lia
    .exact w
noncomputable def cI(k:Nat):Int:=(k:Int)
noncomputable def pD(p:Nat×Nat):D:=.tuple [.int (p.1:Int),.int (p.2:Int)]
theorem pT:∀S:As,i8 (S.map pD)=some (bg S)
 |[]=>rfl
 |p::S=>by
  show(ud (pD p)).bind _=_;show(some ((Sum.inl (p.1:Int):ar),PyData.int (p.2:Int))).bind _=_;rw[Option.bind_some,pT S];rfl
theorem uI:∀(S A:As),(aj (A++S)).Nodup->(bg S).foldl (λacc p=>il acc p.1 p.2) (bg A)=bg (A++S)
 |[],A,_=>by rw[List.append_nil];rfl
 |p::S,A,h=>by
  show(bg S).foldl _ (il (bg A) (.inl (p.1:Int)) (.int (p.2:Int)))=_;have hn:p.1∉aj A:=λz=>by
   unfold aj at h z;rw[List.map_append,List.nodup_append]at h;exact h.2.2 p.1 z p.1 (by simp) rfl
  rw[ik,show jy A p.1 p.2=A++[p]from if_neg (λz=>hn ((dY A p.1).mp z)),uI S (A++[p]) (by rw[List.append_assoc];exact h),List.append_assoc]
  rfl
theorem kK:∀A:As,mN (bg A)=some ((aj A).map cI)
 |[]=>rfl
 |p::A=>by
  show(mN (bg A)).bind _=_;rw[kK A];rfl
theorem hV(ks:List Nat)(nd:ks.Nodup):∃rs:List Nat,aR (ks.map cI)=rs.map (cI)/\rs.Perm ks/\rs.Pairwise (· < ·):=by
 have pm:=cm (ks.map cI);have pw:=jf (ks.map cI);obtain⟨l,hl⟩:∃l,aR (ks.map cI)=l:=⟨_,rfl⟩;rw[hl]at pm pw ⊢;have e:l=(l.map Int.toNat).map cI:=by
  rw[List.map_map];have:∀x∈l,((cI) ∘ Int.toNat) x=x:=λx hx=>by
   obtain⟨k,_,rfl⟩:=List.mem_map.mp (pm.mem_iff.mp hx);simp[cI]
  rw[List.map_congr_left this,List.map_id']
 have p2:(l.map Int.toNat).Perm ks:=by
  have:=pm.map Int.toNat;rw[List.map_map]at this;have e2:ks.map (Int.toNat ∘ cI)=ks:=by
   have:∀x∈ks,(Int.toNat ∘ cI) x=x:=λx _=>by simp[cI]
   rw[List.map_congr_left this,List.map_id']
  rw[e2]at this;exact this
 refine⟨l.map Int.toNat,e,p2,?_⟩;have nd2:(l.map Int.toNat).Nodup:=p2.nodup_iff.mpr nd;rw[e,List.pairwise_map]at pw;rw[List.nodup_iff_pairwise_ne]at nd2;exact(pw.and nd2).imp λ{a b} h=>by
  have h1:(a:Int)<=(b:Int):=h.1;have h2:=h.2
  lia
theorem yw{A:As}{k:Nat}(h:k∈aj A):dO (bg A) (.inl (k:Int))=some (.int (vl A k:Int)):=by
 rw[uC];unfold vl;cases e:A.find? λp=>decide (p.1=k)with
 |none=>
  obtain⟨p,hp,rfl⟩:=List.mem_map.mp h;have:=List.find?_eq_none.mp e p hp;simp at this
 |some p=>rfl
noncomputable def lI(A:As):List (ar×Int):=A.map λp=>(.inl (p.1:Int),(p.2:Int))
theorem oq:∀A:As,mR (bg A)=some (lI A)
 |[]=>rfl
 |p::A=>by
  show(mR (bg A)).bind _=_;rw[oq A];rfl
theorem yk(A:As)(nd:(aj A).Nodup)(hl:A.length<=900):∃rs:List Nat,rs.Perm (aj A)/\rs.Pairwise (· < ·)/\∀(δ:Dv) (i:Nat),zm δ[i]? = some (bg A)->fH i δ = some (.list (rs.map λk=>pD (k,vl A k))):=by
 obtain⟨rs,e,p,pw⟩:=hV (aj A) nd;refine⟨rs,p,pw,λδ i h=>?_⟩
 unfold fH;rw[h,Option.bind_some,kK,Option.bind_some,if_pos ⟨by rw[List.length_map];unfold aj;rw[List.length_map];lia,by
  rw[List.nodup_iff_pairwise_ne,List.pairwise_map];rw[List.nodup_iff_pairwise_ne]at nd;exact nd.imp λ{a b} h=>by unfold cI;lia,by rw[oq];rfl⟩]
 unfold sk;rw[e,List.map_map];congr 2;apply List.map_congr_left;intro k hk;have hk:=p.mem_iff.mp hk;show PyData.tuple [.int (k:Int),(dO (bg A) (.inl (k:Int))).getD .none]=_;rw[yw hk];rfl
theorem Ie(b1 e1 G:Int)(es:List (ar×D))(z0 z1 z2 z4:Sl)(hG:(dO es (.inl b1)).getD (.int 0)=.int G)(hl:es.length<sizeLine):(if b1=0 then some (Fl.nx,[z0,z1,z2,.od es,z4,.fz (.int b1),.fz (.int e1)])else dg 3 (oV 5) (o2 (o2 (gG 3 (oV 5) (oC (.int 0))) (oV 6) bL) (oC (.int 8)) aM) [z0,z1,z2,.od es,z4,.fz (.int b1),.fz (.int e1)])=some (.nx,[z0,z1,z2,.od (if b1=0 then es else il es (.inl b1) (.int ((G+e1)%8))),z4,.fz (.int b1),.fz (.int e1)]):=by
 by_cases h:b1=0
 .rw[if_pos h,if_pos h]
 .rw[if_neg h,if_neg h]
  simp[dg,gG,hG,hl]
theorem Bd(t b e a b1 e1 t1 G:Int)(es:List (ar×D))(P:D)(z1 z2 z5 z6:Sl)(p0:aD P (.int 0)=some (.int b))(p1:aD P (.int 1)=some (.int e))(ha:Builtin.bitAnd b 1=a)(hb1:(if a=1 then Builtin.bitXor b 1 else b)=b1)(he1:(if a=1 then -e else e)=e1)(ht1:(if a=1 then t+e else t)=t1)(hG:(dO es (.inl b1)).getD (.int 0)=.int G)(hl:es.length<sizeLine):bF [.fz (.int t),z1,z2,.od es,.fz P,z5,z6]=some (.nx,[.fz (.int t1),z1,z2,.od (if b1=0 then es else il es (.inl b1) (.int ((G+e1)%8))),.fz P,.fz (.int b1),.fz (.int e1)]):=by
 have q:=Ie b1 e1 G es (.fz (.int t1)) z1 z2 (.fz P) hG hl;by_cases h:a=1
 .rw[if_pos h]at hb1 he1 ht1
  subst h hb1 he1 ht1;simp[-aB,-fm,nN,tN,bF,p0,p1,ha];exact q
 .rw[if_neg h]at hb1 he1 ht1
  subst hb1 he1 ht1;have n:o8 (.int a) (.int 1)=some (.bool false):=by simp[h]
  simp[-aB,-fm,nN,tN,bF,p0,p1,ha,n];exact q
noncomputable def BB(A:As)(rs:List Nat):As:=(rs.filter λk=>decide (vl A k≠0)).map λk=>(k,vl A k)
theorem Fd(A:As)(nd:(aj A).Nodup)(hl:A.length<=900):∃rs:List Nat,rs.Perm (aj A)/\rs.Pairwise (· < ·)/\∀z0 z1 z2 z4 z5 z6,eR [z0,z1,z2,.od (bg A),z4,z5,z6]=some (.list ((BB A rs).map pD)):=by
 obtain⟨rs,p,pw,it⟩:=yk A nd hl;refine⟨rs,p,pw,λz0 z1 z2 z4 z5 z6=>?_⟩
 have hln:rs.length<=1000:=by rw[p.length_eq];unfold aj;rw[List.length_map];lia
 have:=bX (fi:=oI (fH 3) aY) (caps:=[]) (ft:=ob (o2 (o2 (oV 0) (oC (.int 1)) aD) (oC (.int 0)) neD)) (fe:=oV 0) (δ:=[z0,z1,z2,.od (bg A),z4,z5,z6]) (h:=λk=>pD (k,vl A k)) (k:=λk=>pD (k,vl A k)) (b:=λk=>decide (vl A k≠0)) (xs:=rs) (by
  have:=it [z0,z1,z2,.od (bg A),z4,z5,z6] 3 rfl;simp[this]) (by lia) (λk _=>by
  have b1:aD (pD (k,vl A k)) (.int 1)=some (.int (vl A k:Int)):=rfl;have e:neD (.int (vl A k:Int)) (.int 0)=some (.bool (decide (vl A k≠0))):=by
   by_cases h:vl A k=0
   .rw[h];rfl
   .have:¬((vl A k:Int)=0):=by lia
    simp[h,this]
  simp only[bV,List.map_nil,List.append_nil];show(((aD (pD (k,vl A k)) (.int 1)).bind λx=>neD x (.int 0)).bind asB)=_
  rw[b1,Option.bind_some,e];rfl) (λk _ _=>by simp[bV])
 have e:(BB A rs).map pD=(rs.filter λk=>decide (vl A k≠0)).map λk=>pD (k,vl A k):=by unfold BB;rw[List.map_map];rfl
 rw[e];exact this
theorem BG(A:As):(lI A).map (λp=>(p.1,PyData.int p.2))=bg A:=by
 unfold lI bg;rw[List.map_map];rfl
theorem AK{A:As}{k:Nat}(h:k∈aj A):kX (lI A) (.inl (k:Int))=some (vl A k:Int):=by
 have g:=yw h;rw[<-BG]at g;unfold dO at g;unfold kX;rw[List.find?_map]at g;have e:((λp:ar×D=>decide (p.1=Sum.inl (k:Int))) ∘ λp:ar×Int=>(p.1,PyData.int p.2))=λp=>decide (p.1=Sum.inl (k:Int)):=rfl
 rw[e]at g;cases q:(lI A).find? λp=>decide (p.1=Sum.inl (k:Int))with
 |none=>rw[q]at g;cases g
 |some p=>
  rw[q]at g;have g:PyData.int p.2=PyData.int (vl A k:Int):=Option.some.inj g;show some p.2=_;rw[PyData.int.inj g]
noncomputable def kt(A:As)(rs:List Nat):As:=(rs.filter λk=>decide (0<k/\0<vl A k)).map λk=>(k,vl A k)
theorem Es(b:Nat)(h:b%2=1):b ^^^ 1=b-1:=by
 have h1:(b ^^^ 1)/2=b/2:=by rw[Nat.xor_div_two,show 1/2=0 from rfl,Nat.xor_zero]
 have h2:¬(b ^^^ 1)%2=1:=λz=>by
  rw[Nat.xor_mod_two_eq_one]at z;exact z ⟨λ_=>rfl,λ_=>h⟩
 lia
theorem Gf(b:Nat)(h:b%2=1):Builtin.bitXor (b:Int) 1=((b-1:Nat):Int):=by
 have:=MA.sQ b 1;rw[Es b h]at this;exact this
noncomputable def nv(x:Nat)(e:Int):Nat:=(((x:Int)+e)%8).toNat
theorem mI(x:Nat)(e:Int):((nv x e:Nat):Int)=((x:Int)+e)%8:=by unfold nv;lia
theorem xO(x:Nat)(e:Int):nv x e<8:=by unfold nv;lia
structure OkA (A:As):Prop where
 nd:(aj A).Nodup
 z:0∈aj A
 lt:∀k,vl A k<8
noncomputable def hb(b:Nat):Nat:=b-b%2
noncomputable def he(b:Nat)(e:Int):Int:=if b%2=1 then -e else e
noncomputable def wB(A:As)(b:Nat)(e:Int):As:=if b%2=1 then jy A 0 (nv (vl A 0) e)else A
noncomputable def vT(A:As)(b:Nat)(e:Int):As:=if 0<hb b then jy (wB A b e) (hb b) (nv (vl (wB A b e) (hb b)) (he b e))else wB A b e
theorem xI{A:As}(h:OkA A)(k v:Nat)(hv:v<8):OkA (jy A k v):=by
 refine⟨rY h.nd k v,?_,λj=>?_⟩
 .rw[iE]
  split
  .exact h.z
  .exact List.mem_append_left _ h.z
 .rw[gA]
  split
  .exact hv
  .exact h.lt j
theorem Hz{A:As}(h:OkA A)(b:Nat)(e:Int):OkA (wB A b e):=by
 unfold wB;split
 .exact xI h _ _ (xO _ _)
 .exact h
theorem GC{A:As}(h:OkA A)(b:Nat)(e:Int):OkA (vT A b e):=by
 unfold vT;split
 .exact xI (Hz h b e) _ _ (xO _ _)
 .exact Hz h b e
theorem AB(A:As)(k v:Nat):(jy A k v).length<=A.length+1:=by
 unfold jy;split
 .rw[List.length_map];lia
 .simp
theorem FR{b:Nat}(h:0<hb b):0≠hb b:=by lia
theorem Ew(A:As)(b:Nat)(e:Int)(k:Nat)(hk:0<k):vl (wB A b e) k=vl A k:=by
 unfold wB;split
 .rw[gA,if_neg (by lia)]
 .rfl
theorem Bh(A:As)(b:Nat)(e:Int):vl (vT A b e) 0=if b%2=1 then nv (vl A 0) e else vl A 0:=by
 have q:vl (wB A b e) 0=if b%2=1 then nv (vl A 0) e else vl A 0:=by
  unfold wB;split
  .rw[gA,if_pos rfl]
  .rfl
 unfold vT;split
 .rename_i h
  rw[gA,if_neg (FR h),q]
 .exact q
theorem IT(A:As)(b:Nat)(e:Int)(k:Nat)(hk:0<k):vl (vT A b e) k=if k=hb b then nv (vl A k) (he b e)else vl A k:=by
 unfold vT;split
 .rename_i h
  rw[gA,Ew A b e _ h,Ew A b e _ hk];split
  .rename_i z;rw[z]
  .rfl
 .rename_i h
  rw[if_neg (by lia),Ew A b e _ hk]
theorem iF(A:As)(rs:List Nat):aj (kt A rs)=rs.filter λk=>decide (0<k/\0<vl A k):=by
 unfold aj kt;rw[List.map_map];exact List.map_id' _
theorem C3{A:As}(h:OkA A){rs:List Nat}(p:rs.Perm (aj A)):(aj (kt A rs)).Nodup:=by
 rw[iF];exact List.Nodup.sublist List.filter_sublist (p.nodup_iff.mpr h.nd)
theorem rZ{A:As}{k:Nat}(h:vl A k≠0):k∈aj A:=Classical.byContradiction λz=>h (gm z)
theorem BX{A:As}(h:OkA A){rs:List Nat}(p:rs.Perm (aj A))(k:Nat):vl (kt A rs) k=if 0<k then vl A k else 0:=by
 by_cases hk:k∈aj (kt A rs)
 .have hk':=hk
  rw[iF,List.mem_filter]at hk';obtain⟨h1,h2⟩:=hk';have h2:0<k/\0<vl A k:=by simpa using h2
  rw[if_pos h2.1];exact eE (C3 h p) (p:=(k,vl A k)) (List.mem_map.mpr ⟨k,List.mem_filter.mpr ⟨h1,by simpa using h2⟩,rfl⟩)
 .rw[gm hk]
  by_cases h0:0<k
  .rw[if_pos h0]
   refine Classical.byContradiction λz=>hk ?_
   rw[iF,List.mem_filter];exact⟨p.mem_iff.mpr (rZ (Ne.symm z)),by simp[h0];lia⟩
  .rw[if_neg h0]
noncomputable def pB(S:As)(b:Nat)(e:Int):As:=if hb b=0 then S else jy S (hb b) (nv (vl S (hb b)) (he b e))
noncomputable def fj:Nat:=2^1100
noncomputable def nu(ts:List Nat)(k:Nat):List Nat:=if k∈ts then ts else ts++[k]
theorem qb(rs:List Nat):(rs.map cI).map PyData.int=ae rs:=by
 unfold ae cI;rw[List.map_map];rfl
noncomputable def upI(A:As):List (Nat×Int):=A.map λp=>(p.1,(p.2:Int))
theorem g6(A:As):(upI A).map pQ=A.map pD:=by
 unfold upI;rw[List.map_map];rfl
structure Sm (w l:Nat) (hv:Int) (c:Nat) (ps:As) (ts hs:List Nat) (n m:Nat):Prop where
 w1:1<=w
 w3:w<=3
 l2:l<=3
 v1:-1000<=hv
 v2:hv<=1000
 c8:c<8
 pk:(aj ps).Pairwise (· < ·)
 pe:∀p∈ps,2<=p.1/\p.1%2=0/\p.1<fj/\1<=p.2/\p.2<=7
 pl:ps.length<=m
 tk:ts.Pairwise (· < ·)
 te:∀t∈ts,0<t/\t<fj
 tl:ts.length<=m
 hl:hs.length<=n
 pw:hs.Pairwise (· < ·)
 hb:∀h∈hs,2*w+1+l<=h/\h<900
noncomputable def mr(S:As):List (Nat×Int)->As
 |[]=>S
 |q::Q=>mr (pB S q.1 q.2) Q
noncomputable def tv:List (Nat×Int)->Int
 |[]=>0
 |q::Q=>(if q.1%2=1 then q.2 else 0)+tv Q
noncomputable def kv(k:Nat):List (Nat×Int)->Int
 |[]=>0
 |q::Q=>(if hb q.1=k then he q.1 q.2 else 0)+kv k Q
theorem BY(S:As)(b:Nat)(e:Int){k:Nat}(hk:0<k):vl (pB S b e) k=if hb b=k then nv (vl S k) (he b e)else vl S k:=by
 unfold pB;by_cases z:hb b=0
 .rw[if_pos z,if_neg (by lia)]
 .rw[if_neg z,gA]
  by_cases y:hb b=k
  .rw[if_pos y,if_pos y.symm,y]
  .rw[if_neg y,if_neg (λq=>y q.symm)]
theorem wF{k:Nat}(hk:0<k):∀(Q:List (Nat×Int)) (S:As),vl S k<8->(vl (mr S Q) k:Int)=((vl S k:Int)+kv k Q)%8
 |[],S,h=>by
  show(vl S k:Int)=(_+0)%8
  lia
 |q::Q,S,h=>by
  have ih:=wF hk Q (pB S q.1 q.2);have e:=BY S q.1 q.2 hk;show(vl (mr (pB S q.1 q.2) Q) k:Int)=((vl S k:Int)+((if hb q.1=k then he q.1 q.2 else 0)+kv k Q))%8;by_cases y:hb q.1=k
  .rw[if_pos y]at e ⊢
   have h2:=xO (vl S k) (he q.1 q.2);have h3:=mI (vl S k) (he q.1 q.2);rw[ih (by lia),e,h3]
   lia
  .rw[if_neg y]at e ⊢
   rw[ih (by lia),e]
   lia
theorem Fu{S:As}(h:(aj S).Nodup)(b:Nat)(e:Int):(aj (pB S b e)).Nodup:=by
 unfold pB;split
 .exact h
 .exact rY h _ _
theorem yb(S:As)(b:Nat)(e:Int):(pB S b e).length<=S.length+1:=by
 unfold pB;split
 .lia
 .exact AB S _ _
theorem xR:∀(Q:List (Nat×Int)) {S:As},(aj S).Nodup->(aj (mr S Q)).Nodup
 |[],_,h=>h
 |q::Q,_,h=>xR Q (Fu h q.1 q.2)
theorem ul:∀(Q:List (Nat×Int)) (S:As),(mr S Q).length<=S.length+Q.length
 |[],S=>Nat.le_refl _
 |q::Q,S=>by
  have:=ul Q (pB S q.1 q.2);have:=yb S q.1 q.2;show(mr (pB S q.1 q.2) Q).length<=_;rw[List.length_cons]
  lia
theorem DW(t:Int)(S:As)(b:Nat)(e:Int)(z1 z2 z5 z6:Sl)(hl:S.length<1000):∃y5 y6,bF [.fz (.int t),z1,z2,.od (bg S),.fz (pQ (b,e)),z5,z6]=some (.nx,[.fz (.int (t+if b%2=1 then e else 0)),z1,z2,.od (bg (pB S b e)),.fz (pQ (b,e)),y5,y6]):=by
 have e2:(if((b%2:Nat):Int)=1 then Builtin.bitXor (b:Int) 1 else b)=((hb b:Nat):Int):=by
  unfold hb;by_cases o:b%2=1
  .rw[if_pos (by lia),Gf b o,o]
  .rw[if_neg (by lia)];lia
 have e3:(if((b%2:Nat):Int)=1 then -e else e)=he b e:=by
  unfold he;by_cases o:b%2=1
  .rw[if_pos o,if_pos (by lia)]
  .rw[if_neg o,if_neg (by lia)]
 have e4:(if((hb b:Nat):Int)=0 then bg S else il (bg S) (.inl (hb b:Nat)) (.int (((vl S (hb b):Nat)+he b e)%8)))=bg (pB S b e):=by
  unfold pB;by_cases o:hb b=0
  .rw[if_pos o,if_pos (by lia)]
  .rw[if_neg o,if_neg (by lia),<-mI]
   exact ik _ _ _
 have e5:(if((b%2:Nat):Int)=1 then t+e else t)=t+if b%2=1 then e else 0:=by
  by_cases o:b%2=1
  .rw[if_pos o,if_pos (by lia)]
  .rw[if_neg o,if_neg (by lia)];lia
 have sz:sizeLine>=1001:=by decide
 have st:=Bd t b e ((b%2:Nat):Int) (hb b:Nat) (he b e) _ (vl S (hb b):Nat) (bg S) (pQ (b,e)) z1 z2 z5 z6 rfl rfl (Gi b) e2 e3 e5 (sA _ _) (by unfold bg;rw[List.length_map];lia);rw[e4]at st;exact⟨_,_,st⟩
theorem vf(z1 z2:Sl):∀(Q:List (Nat×Int)) (t:Int) (S:As) (z4 z5 z6:Sl),S.length+Q.length<1000->∃y4 y5 y6,loop (gN 4) bF (Q.map pQ) [.fz (.int t),z1,z2,.od (bg S),z4,z5,z6]=some (.nx,[.fz (.int (t+tv Q)),z1,z2,.od (bg (mr S Q)),y4,y5,y6])
 |[],t,S,z4,z5,z6,_=>⟨z4,z5,z6,by
  show some (Fl.nx,[Sl.fz (.int t),z1,z2,.od (bg S),z4,z5,z6])=some (.nx,[.fz (.int (t+0)),z1,z2,.od (bg S),z4,z5,z6]);rw[Int.add_zero]⟩
 |q::Q,t,S,z4,z5,z6,h=>by
  rw[List.length_cons]at h;obtain⟨w5,w6,e1⟩:=DW t S q.1 q.2 z1 z2 z5 z6 (by lia);have hl:=yb S q.1 q.2;obtain⟨y4,y5,y6,e2⟩:=vf z1 z2 Q (t+if q.1%2=1 then q.2 else 0) (pB S q.1 q.2) (.fz (pQ q)) w5 w6 (by lia);refine⟨y4,y5,y6,?_⟩;rw[List.map_cons,bJ (δ1:=[.fz (.int t),z1,z2,.od (bg S),.fz (pQ q),z5,z6]) (by simp) e1,e2,Int.add_assoc];rfl
structure RR (R:As) (f:Nat->Int):Prop where
 pk:(aj R).Pairwise (· < ·)
 val:∀k,0<k->(vl R k:Int)=f k%8
 nz:∀p∈R,0<p.1/\p.2≠0
theorem fJ{l:List Nat}(h:l.Pairwise (· < ·)):l.Nodup:=by
 rw[List.nodup_iff_pairwise_ne];exact h.imp λ{a b} q=>by lia
theorem RR.keys{R:As}{f:Nat->Int}(h:RR R f)(k:Nat):k∈aj R↔0<k/\f k%8≠0:=by
 constructor
 .intro hk
  obtain⟨p,hp,rfl⟩:=List.mem_map.mp hk;have h1:=h.nz p hp;have h2:=h.val p.1 h1.1;rw[eE (fJ h.pk) hp]at h2;exact⟨h1.1,by lia⟩
 .intro ⟨h0,hk⟩
  have h2:=h.val k h0;exact rZ (by lia)
theorem ve:∀{R:As},(aj R).Nodup->R=(aj R).map λk=>(k,vl R k):=λ{R} nd=>by
 unfold aj;rw[List.map_map];refine(List.map_id R).symm.trans (List.map_congr_left λp hp=>?_);show p=(p.1,vl R p.1);rw[eE nd hp]
theorem RR.one{R R':As}{f g:Nat->Int}(h:RR R f)(h':RR R' g)(e:∀k,0<k->f k%8=g k%8):R=R':=by
 have k1:aj R=aj R':=kl h.pk h'.pk λk=>by
  rw[h.keys,h'.keys];constructor
  .intro ⟨a,b⟩;exact⟨a,by rw[<-e k a];exact b⟩
  .intro ⟨a,b⟩;exact⟨a,by rw[e k a];exact b⟩
 rw[ve (fJ h.pk),ve (fJ h'.pk),k1];refine List.map_congr_left λk hk=>?_
 have h0:0<k:=((h'.keys k).mp hk).1;have h1:=h.val k h0;have h2:=h'.val k h0;have:=e k h0;congr 1
 lia
theorem AU(S:As)(h:(aj S).Nodup)(hl:S.length<=1000):qA (.list (S.map pD))=some (bg S):=by
 show(i8 (S.map pD)).bind _=_;rw[pT,Option.bind_some,List.length_map,if_pos hl];exact congrArg some (uI S [] h)
theorem DX(t t':Int)(T:D)(Q L:List D)(es es':List (ar×D))(y4 y5 y6:Sl)(hT:qA T=some es)(lp:loop (gN 4) bF Q [.fz (.int t),.fz T,.fz (.list Q),.od es,.un,.un,.un]=some (.nx,[.fz (.int t'),.fz T,.fz (.list Q),.od es',y4,y5,y6]))(p:eR [.fz (.int t'),.fz T,.fz (.list Q),.od es',y4,y5,y6]=some (.list L)):bD [.int t,T,.list Q]=some (.tuple [.int (t' % 8),.tuple L]):=by
 simp[-aB,-fm,nN,tN,bD,cc,fW,aV,rK,hT,lp,p]
theorem zk:∀(Q:List (Nat×Int)) {S:As},0∉aj S->0∉aj (mr S Q)
 |[],_,h=>h
 |q::Q,S,h=>zk Q (by
  unfold pB;split
  .exact h
  .rename_i z
   rw[iE];split
   .exact h
   .intro y
    rcases List.mem_append.mp y with y|y
    .exact h y
    .exact z (List.mem_singleton.mp y).symm)
theorem oY(t:Int)(S:As)(hk:(aj S).Nodup)(h8:∀k,vl S k<8)(Q:List (Nat×Int))(hl:S.length+Q.length<=900)(h0:0∉aj S):∃R:As,RR R (λk=>(vl S k:Int)+kv k Q)/\R.length<=S.length+Q.length/\∀T,qA T=some (bg S)->bD [.int t,T,.list (Q.map pQ)]=some (.tuple [.int ((t+tv Q)%8),.tuple (R.map pD)]):=by
 have nd:=xR Q hk;have ln:=ul Q S;obtain⟨rs,p,pw,hp⟩:=Fd (mr S Q) nd (by lia);refine⟨BB (mr S Q) rs,⟨?_,λk h=>?_,λq hq=>?_⟩,?_,λT hT=>?_⟩
 .unfold BB aj
  rw[List.map_map];have:(rs.filter λk=>decide (vl (mr S Q) k≠0)).map ((λp:Nat×Nat=>p.1) ∘ λk=>(k,vl (mr S Q) k))=rs.filter λk=>decide (vl (mr S Q) k≠0):=List.map_id' _
  rw[this];exact pw.sublist List.filter_sublist
 .rw[<-wF h Q S (h8 k)]
  congr 1;by_cases z:vl (mr S Q) k=0
  .rw[z]
   refine gm λhq=>?_
   obtain⟨r,hr,rfl⟩:=List.mem_map.mp hq;obtain⟨j,hj,rfl⟩:=List.mem_map.mp hr;have:=(List.mem_filter.mp hj).2;simp at this;exact this z
  .have nd2:(aj (BB (mr S Q) rs)).Nodup:=by
    unfold BB aj;rw[List.map_map];have:(rs.filter λk=>decide (vl (mr S Q) k≠0)).map ((λp:Nat×Nat=>p.1) ∘ λk=>(k,vl (mr S Q) k))=rs.filter λk=>decide (vl (mr S Q) k≠0):=List.map_id' _
    rw[this];exact List.Nodup.sublist List.filter_sublist (p.nodup_iff.mpr nd)
   exact eE nd2 (p:=(k,vl (mr S Q) k)) (List.mem_map.mpr ⟨k,List.mem_filter.mpr ⟨p.mem_iff.mpr (rZ z),by simpa using z⟩,rfl⟩)
 .obtain⟨j,hj,rfl⟩:=List.mem_map.mp hq
  have:=List.mem_filter.mp hj;refine⟨?_,by simpa using this.2⟩;refine Nat.pos_of_ne_zero λz=>?_
  subst z;exact zk Q h0 (p.mem_iff.mp this.1)
 .unfold BB
  rw[List.length_map];have:=List.length_filter_le (λk=>decide (vl (mr S Q) k≠0)) rs
  have h2:=p.length_eq;unfold aj at h2;rw[List.length_map]at h2
  lia
 .obtain⟨y4,y5,y6,lp⟩:=vf (.fz T) (.fz (.list (Q.map pQ))) Q t S .un .un .un (by lia)
  exact DX _ _ _ _ _ _ _ _ _ _ hT lp (hp _ _ _ _ _ _)
noncomputable def wz(A:As):List (Nat×Int)->As
 |[]=>A
 |q::Q=>wz (vT A q.1 q.2) Q
theorem xH:∀(Q:List (Nat×Int)) {A:As},OkA A->OkA (wz A Q)
 |[],_,h=>h
 |q::Q,_,h=>xH Q (GC h q.1 q.2)
theorem s0:∀(Q:List (Nat×Int)) {A:As},OkA A->(vl (wz A Q) 0:Int)=((vl A 0:Int)+tv Q)%8
 |[],A,h=>by
  have:=h.lt 0;show(vl A 0:Int)=(_+0)%8
  lia
 |q::Q,A,h=>by
  have ih:=s0 Q (GC h q.1 q.2);have e:=Bh A q.1 q.2;show(vl (wz (vT A q.1 q.2) Q) 0:Int)=((vl A 0:Int)+((if q.1%2=1 then q.2 else 0)+tv Q))%8;rw[ih,e];by_cases o:q.1%2=1
  .rw[if_pos o,if_pos o,mI];lia
  .rw[if_neg o,if_neg o];lia
theorem sZ{k:Nat}(hk:0<k):∀(Q:List (Nat×Int)) {A:As},OkA A->(vl (wz A Q) k:Int)=((vl A k:Int)+kv k Q)%8
 |[],A,h=>by
  have:=h.lt k;show(vl A k:Int)=(_+0)%8
  lia
 |q::Q,A,h=>by
  have ih:=sZ hk Q (GC h q.1 q.2);have e:=IT A q.1 q.2 k hk;show(vl (wz (vT A q.1 q.2) Q) k:Int)=((vl A k:Int)+((if hb q.1=k then he q.1 q.2 else 0)+kv k Q))%8;rw[ih,e];by_cases o:hb q.1=k
  .rw[if_pos o,if_pos o.symm,mI];lia
  .rw[if_neg o,if_neg (λz=>o z.symm)];lia
theorem Ch{A:As}(h:OkA A){rs:List Nat}(p:rs.Perm (aj A))(pw:rs.Pairwise (· < ·)){f:Nat->Int}(hf:∀k,0<k->(vl A k:Int)=f k%8):RR (kt A rs) f where
 pk:=by
  rw[iF];exact pw.sublist List.filter_sublist
 val:=λk hk=>by
  rw[BX h p,if_pos hk];exact hf k hk
 nz:=λq hq=>by
  obtain⟨k,hk,rfl⟩:=List.mem_map.mp hq;have:=(List.mem_filter.mp hk).2;have:0<k/\0<vl A k:=by simpa using this
  exact⟨this.1,by lia⟩
theorem nW{c:Nat}(h:c<8):OkA [(0,c)] where
 nd:=by simp[aj]
 z:=by simp[aj]
 lt:=λk=>by
  rw[cy];split
  .exact h
  .rw[gm (by simp[aj])];lia
theorem BZ(c:Nat){k:Nat}(hk:0<k):vl [(0,c)] k=0:=by
 rw[cy,if_neg (by show ¬ 0=k;lia),gm (by simp[aj])]
theorem s9(c:Nat):vl [(0,c)] 0=c:=by rw[cy,if_pos rfl]
noncomputable def GT(xs:List Nat):List Nat:=xs.foldl nu []
theorem DV{ts:List Nat}(h:ts.Nodup)(k:Nat):(nu ts k).Nodup:=by
 unfold nu;split
 .exact h
 .rename_i z
  rw[List.nodup_append];exact⟨h,by simp,λa ha b hb=>by rw[List.mem_singleton.mp hb];exact λq=>z (q ▸ ha)⟩
theorem Bb(ts:List Nat)(k a:Nat):a∈nu ts k↔a∈ts\/a=k:=by
 unfold nu;split
 .rename_i z
  exact⟨.inl,λh=>h.elim id λe=>e ▸ z⟩
 .simp
theorem uH:∀(xs:List Nat) {ts:List Nat},ts.Nodup->(xs.foldl nu ts).Nodup
 |[],_,h=>h
 |x::xs,_,h=>uH xs (DV h x)
theorem qr:∀(xs ts:List Nat) (a:Nat),a∈xs.foldl nu ts↔a∈ts\/a∈xs
 |[],ts,a=>by simp
 |x::xs,ts,a=>by
  show a∈xs.foldl nu (nu ts x)↔_;rw[qr xs,Bb,List.mem_cons,or_assoc]
theorem Bc(ts:List Nat)(k:Nat):(nu ts k).length<=ts.length+1:=by
 unfold nu;split
 .lia
 .simp
theorem qt:∀(xs ts:List Nat),(xs.foldl nu ts).length<=ts.length+xs.length
 |[],ts=>by simp
 |x::xs,ts=>by
  have:=qt xs (nu ts x);have:=Bc ts x;show(xs.foldl nu (nu ts x)).length<=_;rw[List.length_cons]
  lia
theorem vx(ts:List Nat)(k:Nat):bZ (ts.map cI) (cI k)=(nu ts k).map cI:=by
 have e:cI k∈ts.map cI↔k∈ts:=by
  rw[List.mem_map];exact⟨λ⟨a,ha,q⟩=>(show a=k by unfold cI at q;lia) ▸ ha,λh=>⟨k,h,rfl⟩⟩
 unfold bZ nu;by_cases h:k∈ts
 .rw[if_pos h,if_pos (e.mpr h)]
 .rw[if_neg h,if_neg (λz=>h (e.mp z)),List.map_append]
  rfl
theorem tL:∀(xs ts:List Nat),(xs.map cI).foldl bZ (ts.map cI)=(xs.foldl nu ts).map cI
 |[],_=>rfl
 |x::xs,ts=>by
  show(xs.map cI).foldl bZ (bZ (ts.map cI) (cI x))=(xs.foldl nu (nu ts x)).map cI;rw[vx,tL]
theorem kO:∀xs:List Nat,sr (ae xs)=some (xs.map cI)
 |[]=>rfl
 |x::xs=>by
  show(sr (ae xs)).bind _=_;rw[kO xs];rfl
theorem pE(xs:List Nat)(hl:xs.length<64):∃rs:List Nat,rs.Pairwise (· < ·)/\(∀t,t∈rs↔t∈xs)/\rs.length<=xs.length/\fC (.list (ae xs))=some (.list (ae rs))/\fC (.tuple (ae xs))=some (.list (ae rs)):=by
 obtain⟨rs,e,p,pw⟩:=hV (GT xs) (uH xs .nil);have s:fE (xs.map cI)=(GT xs).map cI:=tL xs [];have ln:=qt xs [];have key:∀d,aY d=some (ae xs)->fC d=some (.list (ae rs)):=λd h=>by
  unfold fC;rw[h,Option.bind_some,kO,Option.bind_some,if_pos (by rw[List.length_map];exact hl),s,e,qb]
 refine⟨rs,pw,λt=>?_,by rw[p.length_eq];simpa[GT]using ln,key _ rfl,key _ rfl⟩
 rw[p.mem_iff,GT,qr];simp
theorem oh(rs:List Nat)(f:Nat->Bool):ae (rs.filter f)=(rs.filter f).map λk:Nat=>PyData.int (k:Int):=rfl
structure TT (ss:List Nat) (xs:List Nat):Prop where
 pw:ss.Pairwise (· < ·)
 mem:∀t,t∈ss↔t∈xs/\0<t
noncomputable def hasB(b k:Nat):Bool:=decide (b/2^k%2=1)
theorem Do(b k:Nat):(((b/2^k%2:Nat):Int)==1)=hasB b k:=by
 unfold hasB;rcases Nat.mod_two_eq_zero_or_one (b/2^k)with h|h<;>rw[h]<;>rfl
noncomputable def jV(ps:As)(bit ch:Nat):List (Nat×Int):=(ps.filter λp=>hasB p.1 bit).map λp=>(p.1 ^^^ ch,(p.2:Int))
noncomputable def iZ(ps:As)(bit:Nat):As:=ps.filter λp=>!hasB p.1 bit
noncomputable def GO(hs:List Nat)(bit:Nat):List Nat:=hs.filter λh=>decide (h≠bit)
theorem t6(a b c d e f:D):aU [a,b,c,d,e,f]=some (.tuple [a,b,c,d,e,f]):=jX (by simp)
section
variable(w l:Nat)(hv:Int)(c:Nat)(ps:As)(ts hs:List Nat)
theorem o3:(oI (o2 (oV 0) (oC (.int 3)) aD) aY) (.fz (oneD w l hv c (upI ps) ts hs)::r)=some (ps.map pD):=by
 have:aD (oneD w l hv c (upI ps) ts hs) (.int 3)=some (.tuple (ps.map pD)):=by rw[kw,g6]
 show(aD (oneD w l hv c (upI ps) ts hs) (.int 3)).bind aY=_;rw[this];rfl
theorem C2(h bit:Nat):neD (.int (h:Int)) (.int (bit:Int))=some (.bool (decide (h≠bit))):=by
 by_cases e:h=bit
 .subst e;simp
 .have:¬((h:Int)=(bit:Int)):=by lia
  simp[e,this]
end
theorem BH{k:Nat}(hk:0<k):∀{S:As},(aj S).Nodup->(∀p∈S,p.1%2=0)->kv k (upI S)=(vl S k:Int)
 |[],_,_=>by rw[gm (by simp[aj])];rfl
 |p::S,nd,h=>by
  have h1:=h p List.mem_cons_self;have nd':(aj S).Nodup:=(List.nodup_cons.mp nd).2;have ih:=BH hk nd' λq hq=>h q (List.mem_cons_of_mem _ hq)
  have e1:hb p.1=p.1:=by unfold hb;lia
  have e2:he p.1 (p.2:Int)=(p.2:Int):=by unfold he;rw[if_neg (by lia)]
  show(if hb p.1=k then he p.1 (p.2:Int)else 0)+kv k (upI S)=_;rw[ih,e1,e2,cy];by_cases q:p.1=k
  .rw[if_pos q,if_pos q]
   have:vl S k=0:=gm (q ▸ (List.nodup_cons.mp nd).1)
   lia
  .rw[if_neg q,if_neg q];lia
theorem Bj:∀{S:As},(∀p∈S,p.1%2=0)->tv (upI S)=0
 |[],_=>rfl
 |p::S,h=>by
  have h1:=h p List.mem_cons_self;show(if p.1%2=1 then(p.2:Int)else 0)+tv (upI S)=0;rw[Bj λq hq=>h q (List.mem_cons_of_mem _ hq),if_neg (by lia)]
  rfl
noncomputable def xb(bit ch:Nat)(p:Nat×Nat):Nat×Int:=(if hasB p.1 bit then p.1 ^^^ ch else p.1,(p.2:Int))
theorem ur(bit ch k:Nat):∀ps:As,kv k (ps.map (xb bit ch))=kv k (upI (iZ ps bit))+kv k (jV ps bit ch)
 |[]=>rfl
 |p::ps=>by
  have ih:=ur bit ch k ps;show(if hb (xb bit ch p).1=k then he (xb bit ch p).1 (xb bit ch p).2 else 0)+kv k (ps.map (xb bit ch))=_;rw[ih];cases h:hasB p.1 bit with
  |true=>
   have e1:iZ (p::ps) bit=iZ ps bit:=by unfold iZ;rw[List.filter_cons_of_neg (by simp[h])]
   have e2:jV (p::ps) bit ch=(p.1 ^^^ ch,(p.2:Int))::jV ps bit ch:=by unfold jV;rw[List.filter_cons_of_pos (by simp[h])];rfl
   have e3:xb bit ch p=(p.1 ^^^ ch,(p.2:Int)):=by unfold xb;rw[h];rfl
   rw[e1,e2,e3];show(if hb (p.1 ^^^ ch)=k then he (p.1 ^^^ ch) (p.2:Int)else 0)+_=_+((if hb (p.1 ^^^ ch)=k then he (p.1 ^^^ ch) (p.2:Int)else 0)+kv k (jV ps bit ch))
   lia
  |false=>
   have e1:iZ (p::ps) bit=p::iZ ps bit:=by unfold iZ;rw[List.filter_cons_of_pos (by simp[h])]
   have e2:jV (p::ps) bit ch=jV ps bit ch:=by unfold jV;rw[List.filter_cons_of_neg (by simp[h])]
   have e3:xb bit ch p=(p.1,(p.2:Int)):=by unfold xb;rw[h];rfl
   rw[e1,e2,e3];show(if hb p.1=k then he p.1 (p.2:Int)else 0)+_=((if hb p.1=k then he p.1 (p.2:Int)else 0)+kv k (upI (iZ ps bit)))+_
   lia
theorem tj(bit ch:Nat):∀ps:As,tv (ps.map (xb bit ch))=tv (upI (iZ ps bit))+tv (jV ps bit ch)
 |[]=>rfl
 |p::ps=>by
  have ih:=tj bit ch ps;show(if(xb bit ch p).1%2=1 then(xb bit ch p).2 else 0)+tv (ps.map (xb bit ch))=_;rw[ih];cases h:hasB p.1 bit with
  |true=>
   have e1:iZ (p::ps) bit=iZ ps bit:=by unfold iZ;rw[List.filter_cons_of_neg (by simp[h])]
   have e2:jV (p::ps) bit ch=(p.1 ^^^ ch,(p.2:Int))::jV ps bit ch:=by unfold jV;rw[List.filter_cons_of_pos (by simp[h])];rfl
   have e3:xb bit ch p=(p.1 ^^^ ch,(p.2:Int)):=by unfold xb;rw[h];rfl
   rw[e1,e2,e3];show _=_+((if(p.1 ^^^ ch)%2=1 then(p.2:Int)else 0)+tv (jV ps bit ch))
   lia
  |false=>
   have e1:iZ (p::ps) bit=p::iZ ps bit:=by unfold iZ;rw[List.filter_cons_of_pos (by simp[h])]
   have e2:jV (p::ps) bit ch=jV ps bit ch:=by unfold jV;rw[List.filter_cons_of_neg (by simp[h])]
   have e3:xb bit ch p=(p.1,(p.2:Int)):=by unfold xb;rw[h];rfl
   rw[e1,e2,e3];show _=((if p.1%2=1 then(p.2:Int)else 0)+tv (upI (iZ ps bit)))+_
   lia
theorem BS{a b:Nat}(ha:a<fj)(hb:b<fj):a ^^^ b<fj:=Nat.xor_lt_two_pow (n:=1100) ha hb
theorem yH(ps:As)(bit:Nat):(ps.filter λp=>!hasB p.1 bit).length+(ps.filter λp=>hasB p.1 bit).length=ps.length:=by
 induction ps with
 |nil=>rfl
 |cons p ps ih=>
  cases h:hasB p.1 bit with
  |true=>rw[List.filter_cons_of_neg (by simp[h]),List.filter_cons_of_pos (by simp[h]),List.length_cons,List.length_cons];lia
  |false=>rw[List.filter_cons_of_pos (by simp[h]),List.filter_cons_of_neg (by simp[h]),List.length_cons,List.length_cons];lia
theorem Av{d:D}{k:Nat}(h:MA.Sh k d)(hk:k<=64):neD d d=some (.bool false):=by
 have hs:xf d=true:=by
  show(d.canLay0&&decide (d.depth<=64))=true;rw[h.1,decide_eq_true (Nat.le_trans h.2 hk)];rfl
 unfold neD;rw[if_pos ⟨hs,hs⟩,MA.qy d h.1];rfl
theorem oF(ns:List Int)(lo hi:Option Int):∃ms:List Int,ms.length<=ns.length/\Bq (.list (ns.map .int)) lo hi=some (.list (ms.map .int)):=by
 refine⟨(ns.drop (HT.sIx ns.length 0 lo)).take (HT.sIx ns.length ns.length hi-HT.sIx ns.length 0 lo),?_,?_⟩
 .rw[List.length_take,List.length_drop];lia
 .show some (PyData.list (lY _ _ _))=_
  unfold lY;rw[List.length_map,<-List.map_drop,<-List.map_take]
theorem Fc(bits:Nat)(h:bits%2=1):par (1 &&& bits)=1:=by
 rw[Nat.and_comm,Nat.and_one_is_mod,h];unfold par;rw[MA.fU,MA.fT]
theorem uc(bits b:Nat)(hb:bits%2=1)(h:b%2=1):par (b &&& bits)=1-par ((b-1) &&& bits):=by
 have e:b=(b-1) ^^^ 1:=by rw[<-Es b h,Nat.xor_assoc,Nat.xor_self,Nat.xor_zero]
 have:=MA.jZ ((b-1) &&& bits) (1 &&& bits);rw[<-Nat.and_xor_distrib_right,<-e,Fc bits hb]at this;have l:=MA.ce ((b-1) &&& bits)
 lia
noncomputable def sm(w:Nat->Nat):As->Nat
 |[]=>0
 |p::A=>p.2*w p.1+sm w A
theorem wY(w:Nat->Nat):∀A B:As,sm w (A++B)=sm w A+sm w B
 |[],B=>by simp[sm]
 |p::A,B=>by show _+sm w (A++B)=_;rw[wY w A B];unfold sm;cases A<;>simp[sm,Nat.add_assoc]
theorem wX(w:Nat->Nat)(k v:Nat):∀A:As,(aj A).Nodup->k∈aj A->sm w (A.map λp=>if p.1=k then(p.1,v)else p)+vl A k*w k=sm w A+v*w k
 |[],_,h=>by cases h
 |p::A,nd,h=>by
  have nd':=List.nodup_cons.mp (show(p.1::aj A).Nodup from nd);rw[List.map_cons,cy];by_cases hp:p.1=k
  .rw[if_pos hp,if_pos hp]
   have:(A.map λp=>if p.1=k then(p.1,v)else p)=A:=by
    have e:∀q∈A,(λp:Nat×Nat=>if p.1=k then(p.1,v)else p) q=q:=λq hq=>if_neg λz=>nd'.1 (by rw[hp,<-z];exact List.mem_map.mpr ⟨q,hq,rfl⟩)
    rw[List.map_congr_left e,List.map_id']
   rw[this];show v*w p.1+sm w A+p.2*w k=p.2*w p.1+sm w A+v*w k;rw[hp]
   lia
  .rw[if_neg hp,if_neg hp]
   have hk:k∈aj A:=by
    rcases List.mem_cons.mp h with z|z
    .exact absurd z.symm hp
    .exact z
   have:=wX w k v A nd'.2 hk;show p.2*w p.1+sm w (A.map λp=>if p.1=k then(p.1,v)else p)+vl A k*w k=p.2*w p.1+sm w A+v*w k
   lia
theorem rF(w:Nat->Nat)(A:As)(k v:Nat)(nd:(aj A).Nodup):sm w (jy A k v)+vl A k*w k=sm w A+v*w k:=by
 unfold jy;by_cases h:(A.any λp=>decide (p.1=k))=true
 .rw[if_pos h]
  exact wX w k v A nd ((dY A k).mp h)
 .rw[if_neg h,wY,gm (λz=>h ((dY A k).mpr z))]
  simp[sm]
theorem tJ(w:Nat->Nat)(A:As)(nd:(aj A).Nodup):sm w A=((aj A).map λk=>vl A k*w k).sum:=by
 have e:(aj A).map (λk=>vl A k*w k)=A.map λp=>p.2*w p.1:=by
  unfold aj;rw[List.map_map];exact List.map_congr_left λp hp=>by show vl A p.1*w p.1=_;rw[eE nd hp]
 rw[e];clear e nd
 induction A with
 |nil=>rfl
 |cons p A ih=>rw[List.map_cons,List.sum_cons,<-ih];rfl
theorem pq{a b:List Nat}(h:a.Perm b):a.sum=b.sum:=by
 induction h with
 |nil=>rfl
 |cons x _ ih=>rw[List.sum_cons,List.sum_cons,ih]
 |swap x y l=>simp only[List.sum_cons];lia
 |trans _ _ i1 i2=>exact i1.trans i2
theorem wW(w:Nat->Nat)(h0:w 0=0)(A:As):∀rs:List Nat,sm w (kt A rs)=(rs.map λk=>vl A k*w k).sum
 |[]=>rfl
 |k::rs=>by
  have ih:=wW w h0 A rs;unfold kt at ih ⊢;rw[List.map_cons,List.sum_cons,List.filter_cons];by_cases h:0<k/\0<vl A k
  .rw[if_pos (by simpa using h),List.map_cons]
   show vl A k*w k+sm w _=_;rw[ih]
  .rw[if_neg (by simpa using h),ih]
   have:vl A k*w k=0:=by
    rcases Nat.eq_zero_or_pos k with z|z
    .rw[z,h0,Nat.mul_zero]
    .have:vl A k=0:=by
      rcases Nat.eq_zero_or_pos (vl A k)with y|y
      .exact y
      .exact absurd ⟨z,y⟩ h
     rw[this,Nat.zero_mul]
   lia
theorem Cc(w:Nat->Nat)(h0:w 0=0)(A:As)(rs:List Nat)(nd:(aj A).Nodup)(p:rs.Perm (aj A)):sm w (kt A rs)=sm w A:=by
 rw[wW w h0,tJ w A nd];exact pq (p.map _)
theorem gK(b k:Nat):cJ [.int b,.int k]=some (.bool (hasB b k)):=by
 have s:=zP b k;have o:=Gi (b/2^k);have h:=Do b k;generalize b/2^k%2=z at *;generalize b/2^k=y at *;simp[cJ,cc,yX,aV,s,o,h]
section
variable(w l:Nat)(hv:Int)(c:Nat)(ps:As)(ts hs:List Nat)
theorem EW(bit ch:Nat)(hp:ps.length<=1000)(x3 x4 x5:Sl):eO [.fz (oneD w l hv c (upI ps) ts hs),.fz (.int (bit:Int)),.fz (.int (ch:Int)),x3,x4,x5]=some (.list ((jV ps bit ch).map pQ)):=by
 unfold eO jV;rw[List.map_map];refine bX (xs:=ps) (h:=pD) (o3 w l hv c ps ts hs) (by lia) (λp _=>?_) λp _ _=>?_
 .have h:=gK p.1 bit
  generalize hasB p.1 bit=z at *;simp[bV,pD,h]
 .have x:=MA.sQ p.1 ch
  simp[bV,pD,pQ,x]
theorem EU(bit:Nat)(hp:ps.length<=1000)(x2 x3 x4 x5:Sl):eN [.fz (oneD w l hv c (upI ps) ts hs),.fz (.int (bit:Int)),x2,x3,x4,x5]=some (.list ((iZ ps bit).map pD)):=by
 unfold eN iZ;refine bX (xs:=ps) (h:=pD) (o3 w l hv c ps ts hs) (by lia) (λp _=>?_) λp _ _=>?_
 .have h:=gK p.1 bit
  generalize hasB p.1 bit=z at *;simp[bV,pD,h]
 .simp[bV]
theorem ET(bit:Nat)(hh:hs.length<=1000)(x2 x3 x4 x5:Sl):eM [.fz (oneD w l hv c (upI ps) ts hs),.fz (.int (bit:Int)),x2,x3,x4,x5]=some (.list (ae (GO hs bit))):=by
 unfold eM GO;rw[oh];refine bX (xs:=hs) (h:=λh:Nat=>PyData.int (h:Int)) (by
  have:(oI (o2 (oV 0) (oC (.int 5)) aD) aY) [.fz (oneD w l hv c (upI ps) ts hs),.fz (.int (bit:Int)),x2,x3,x4,x5]=some (ae hs):=rfl;exact this) (by lia) (λp _=>?_) λp _ _=>?_
 .have h:=C2 p bit
  generalize decide (p≠bit)=z at *;simp only[bV];show(((Bp (some (Sl.fz (.int (p:Int))))).bind λx=>(Bp (some (Sl.fz (.int (bit:Int))))).bind λy=>neD x y).bind asB)=_
  rw[w9,w9,Option.bind_some,Option.bind_some,h];rfl
 .simp[bV]
theorem Hn(O W S H R A4 A0 A1:D)(bit ch t c':Int)(p1:∀x3 x4 x5,eO [.fz O,.fz (.int bit),.fz (.int ch),x3,x4,x5]=some W)(p2:∀x3 x4 x5,eN [.fz O,.fz (.int bit),.fz (.int ch),x3,x4,x5]=some S)(hp:∀x3 x4 x5,eM [.fz O,.fz (.int bit),.fz (.int ch),x3,x4,x5]=some H)(o0:aD O (.int 0)=some A0)(o1:aD O (.int 1)=some A1)(o2:aD O (.int 2)=some (.int c'))(o4:aD O (.int 4)=some A4)(g:bD [.int c',S,W]=some (.tuple [.int t,R]))(HT:D)(hH:bi [H]=some HT):cq [O,.int bit,.int ch]=some (.tuple [A0,A1,.int t,R,A4,HT]):=by
 simp[cq,cc,jo,aV,p1,p2,hp,o0,o1,o2,o4,g,hH,t6]
end
theorem rG{w l:Nat}{hv:Int}{c:Nat}{ps:As}{ts hs:List Nat}{n m:Nat}(S:Sm w l hv c ps ts hs n m)(hm:m<=400)(hn:n<=100)(bit ch:Nat):∃(T:Nat) (R:As),(T:Int)=((c:Int)+tv (ps.map (xb bit ch)))%8/\RR R (λk=>kv k (ps.map (xb bit ch)))/\R.length<=ps.length/\cq [oneD w l hv c (upI ps) ts hs,.int (bit:Int),.int (ch:Int)]=some (oneD w l hv T (upI R) ts (GO hs bit)):=by
 have nd:=fJ S.pk;have pl:=S.pl;have hl:=S.hl;have ndo:(aj (iZ ps bit)).Nodup:=List.Nodup.sublist (List.filter_sublist.map _) nd;have ev:∀p∈iZ ps bit,p.1%2=0:=λp hp=>(S.pe p (List.mem_filter.mp hp).1).2.1
 have ln:(iZ ps bit).length+(jV ps bit ch).length=ps.length:=by
  unfold iZ jV;rw[List.length_map];exact yH ps bit
 have v8:∀k,vl (iZ ps bit) k<8:=λk=>by
  by_cases h:k∈aj (iZ ps bit)
  .obtain⟨p,hp,rfl⟩:=List.mem_map.mp h
   rw[eE ndo hp];have:=S.pe p (List.mem_filter.mp hp).1
   lia
  .rw[gm h];lia
 have n0:0∉aj (iZ ps bit):=λh=>by
  obtain⟨p,hp,e⟩:=List.mem_map.mp h;have:=S.pe p (List.mem_filter.mp hp).1
  lia
 obtain⟨R,h1,h2,h3⟩:=oY c (iZ ps bit) ndo v8 (jV ps bit ch) (by lia) n0;have h3:=h3 (.list ((iZ ps bit).map pD)) (AU _ ndo (by lia));have et:tv (ps.map (xb bit ch))=tv (jV ps bit ch):=by rw[tj,Bj ev];lia
 have x:=Hn (oneD w l hv c (upI ps) ts hs) (.list ((jV ps bit ch).map pQ)) (.list ((iZ ps bit).map pD)) (.list (ae (GO hs bit))) (.tuple (R.map pD)) (.tuple (ae ts)) (.tuple [.int w,.int l]) (.int hv) bit ch _ c (λx3 x4 x5=>EW w l hv c ps ts hs bit ch (by lia) x3 x4 x5) (λx3 x4 x5=>EU w l hv c ps ts hs bit (by lia) _ x3 x4 x5) (λx3 x4 x5=>ET w l hv c ps ts hs bit (by lia) _ x3 x4 x5) (xG ..) (mH ..) (mG ..) (mF ..) h3 _ rfl
 refine⟨(((c:Int)+tv (jV ps bit ch))%8).toNat,R,by rw[et];lia,⟨h1.pk,λk hk=>?_,h1.nz⟩,by lia,?_⟩
 .rw[h1.val k hk,ur,BH hk ndo ev]
 .rw[x]
  unfold oneD;rw[g6,Int.toNat_of_nonneg (by lia)]
noncomputable def fa(ps:List (Nat×Int))(ts:List Nat)(k:Nat):Bool:=if(ts.any λt=>hasB t k)=true then false else(ps.filter λp=>hasB p.1 k).all λp=>p.2%2==0
noncomputable def hav(T:As)(b:Nat):As:=T.filter λp=>hasB p.1 b
noncomputable def sumE:As->Int
 |[]=>0
 |p::T=>(p.2:Int)+sumE T
noncomputable def oddH(T:As):Nat:=T.foldl (λt p=>if p.2%2=1 then t ^^^ p.1 else t) 0
abbrev Fm:=List (List Nat×Int)
noncomputable def f2(b:Nat)(T:As):List Nat->Fm
 |[]=>[]
 |c::C=>(([b,c],-2*sumE (hav T c)%8)::(C.filter λd=>hasB (oddH (hav T c)) d).map λd=>([b,c,d],4))++f2 b T C
noncomputable def fw(b:Nat)(T:As)(B:List Nat):Fm:=(([b],sumE T%8)::f2 b T B).filter λp=>decide (p.2≠0)
noncomputable def fo(T:As):List Nat->Fm
 |[]=>[]
 |b::B=>fw b (hav T b) B++fo T B
noncomputable def cx(σ:Nat->Bool):Fm->Int
 |[]=>0
 |p::F=>(if p.1.all σ = true then p.2 else 0)+cx σ F
theorem kY(σ:Nat->Bool):∀F G:Fm,cx σ (F++G)=cx σ F+cx σ G
 |[],G=>by show cx σ G=0+cx σ G;lia
 |p::F,G=>by
  have:=kY σ F G;show _+cx σ (F++G)=_+cx σ F+cx σ G
  lia
theorem uE(σ:Nat->Bool):∀F:Fm,cx σ (F.filter λp=>decide (p.2≠0))=cx σ F
 |[]=>rfl
 |p::F=>by
  have ih:=uE σ F;rw[List.filter_cons];by_cases h:p.2≠0
  .rw[if_pos (by simpa using h)]
   show _+_=_+_;rw[ih]
  .rw[if_neg (by simpa using h),ih]
   have:p.2=0:=by lia
   show cx σ F=(if p.1.all σ = true then p.2 else 0)+cx σ F;rw[this];split<;>lia
noncomputable def s1(σ:Nat->Bool)(T:As):List Nat->Int
 |[]=>0
 |c::C=>(if σ c=true then sumE (hav T c)else 0)+s1 σ T C
noncomputable def s2(σ:Nat->Bool)(T:As):List Nat->Int
 |[]=>0
 |c::C=>(if σ c=true then s1 σ (hav T c) C else 0)+s2 σ T C
noncomputable def s3(σ:Nat->Bool)(T:As):List Nat->Int
 |[]=>0
 |c::C=>(if σ c=true then s2 σ (hav T c) C else 0)+s3 σ T C
theorem bo(a b k:Nat):hasB (a ^^^ b) k=(hasB a k != hasB b k):=by
 have e:∀x,hasB x k=x.testBit k:=λx=>by
  rw[Nat.testBit_eq_decide_div_mod_eq];rfl
 rw[e,e,e,Nat.testBit_xor]
theorem xM(d:Nat):∀(T:As) (t:Nat),hasB (T.foldl (λt p=>if p.2%2=1 then t ^^^ p.1 else t) t) d=(hasB t d != decide (sumE (hav T d)%2=1))
 |[],t=>by show hasB t d=(hasB t d != decide ((0:Int)%2=1));cases hasB t d<;>rfl
 |p::T,t=>by
  show hasB (T.foldl _ (if p.2%2=1 then t ^^^ p.1 else t)) d=_;rw[xM d T];have e:hav (p::T) d=if hasB p.1 d=true then p::hav T d else hav T d:=by unfold hav;rw[List.filter_cons]
  rw[e];by_cases o:p.2%2=1
  .rw[if_pos o,bo]
   cases h:hasB p.1 d with
   |true=>
    rw[if_pos rfl];have:decide (sumE (p::hav T d)%2=1)=!decide (sumE (hav T d)%2=1):=by
     show decide (((p.2:Int)+sumE (hav T d))%2=1)=_;by_cases q:sumE (hav T d)%2=1
     .rw[decide_eq_true q,decide_eq_false (by lia)];rfl
     .rw[decide_eq_false q,decide_eq_true (by lia)];rfl
    rw[this];cases hasB t d<;>cases decide (sumE (hav T d)%2=1)<;>rfl
   |false=>
    rw[if_neg (by decide)];cases hasB t d<;>cases decide (sumE (hav T d)%2=1)<;>rfl
  .rw[if_neg o]
   cases h:hasB p.1 d with
   |true=>
    rw[if_pos rfl];have:decide (sumE (p::hav T d)%2=1)=decide (sumE (hav T d)%2=1):=by
     show decide (((p.2:Int)+sumE (hav T d))%2=1)=_;by_cases q:sumE (hav T d)%2=1
     .rw[decide_eq_true q,decide_eq_true (by lia)]
     .rw[decide_eq_false q,decide_eq_false (by lia)]
    rw[this]
   |false=>rw[if_neg (by decide)]
theorem j0(T:As)(d:Nat):hasB (oddH T) d=decide (sumE (hav T d)%2=1):=by
 unfold oddH;rw[xM];have:hasB 0 d=false:=by unfold hasB;rw[Nat.zero_div];rfl
 rw[this];cases decide (sumE (hav T d)%2=1)<;>rfl
theorem Bn(σ:Nat->Bool)(b c:Nat)(U:As)(hb:σ b=true)(hc:σ c=true):∀C:List Nat,∃k,cx σ ((C.filter λd=>hasB (oddH U) d).map λd=>([b,c,d],4))=4*s1 σ U C+8*k
 |[]=>⟨0,rfl⟩
 |d::C=>by
  obtain⟨k,ih⟩:=Bn σ b c U hb hc C;have h:=j0 U d;have es:s1 σ U (d::C)=(if σ d=true then sumE (hav U d)else 0)+s1 σ U C:=rfl;rw[List.filter_cons,es];by_cases q:sumE (hav U d)%2=1
  .rw[decide_eq_true q]at h
   rw[if_pos h];have e:cx σ (((d::C.filter λd=>hasB (oddH U) d).map λd=>(([b,c,d],4):List Nat×Int)))=(if [b,c,d].all σ = true then 4 else 0)+cx σ ((C.filter λd=>hasB (oddH U) d).map λd=>([b,c,d],4)):=rfl
   rw[e,ih];by_cases z:σ d=true
   .rw[if_pos z,if_pos (by simp[hb,hc,z])]
    exact⟨k+(1-sumE (hav U d))/2,by lia⟩
   .rw[if_neg z,if_neg (by simp[z])]
    exact⟨k,by lia⟩
  .rw[decide_eq_false q]at h
   rw[if_neg (by rw[h];decide),ih];by_cases z:σ d=true
   .rw[if_pos z]
    exact⟨k-sumE (hav U d)/2,by lia⟩
   .rw[if_neg z]
    exact⟨k,by lia⟩
theorem rg(σ:Nat->Bool)(b c:Nat)(h:¬(σ b=true/\ σ c=true)):∀C:List Nat,cx σ (C.map λd=>([b,c,d],4))=0
 |[]=>rfl
 |d::C=>by
  have ih:=rg σ b c h C;show(if [b,c,d].all σ = true then(4:Int)else 0)+cx σ (C.map λd=>([b,c,d],4))=0
  rw[ih,if_neg (by
   intro z;simp only[List.all_cons,List.all_nil,Bool.and_true,Bool.and_eq_true]at z;exact h ⟨z.1,z.2.1⟩)]
  rfl
theorem yI(σ:Nat->Bool)(b:Nat)(U:As):∀C:List Nat,∃k,cx σ (f2 b U C)=(if σ b=true then -2*s1 σ U C+4*s2 σ U C else 0)+8*k
 |[]=>⟨0,by show(0:Int)=(if σ b=true then -2*0+4*0 else 0)+8*0;split<;>lia⟩
 |c::C=>by
  obtain⟨k,ih⟩:=yI σ b U C;have e1:s1 σ U (c::C)=(if σ c=true then sumE (hav U c)else 0)+s1 σ U C:=rfl;have e2:s2 σ U (c::C)=(if σ c=true then s1 σ (hav U c) C else 0)+s2 σ U C:=rfl;have e:cx σ (f2 b U (c::C))=(if [b,c].all σ = true then -2*sumE (hav U c)%8 else 0)+cx σ ((C.filter λd=>hasB (oddH (hav U c)) d).map λd=>([b,c,d],4))+cx σ (f2 b U C):=by
   show cx σ (_++_)=_;rw[kY];rfl
  rw[e,ih,e1,e2];by_cases hb:σ b=true
  .by_cases hc:σ c=true
   .obtain⟨m,t⟩:=Bn σ b c (hav U c) hb hc C
    rw[t,if_pos hb,if_pos hb,if_pos hc,if_pos hc,if_pos (by simp[hb,hc])];exact⟨k+m-(-2*sumE (hav U c))/8,by lia⟩
   .rw[rg σ b c (λz=>hc z.2),if_pos hb,if_pos hb,if_neg hc,if_neg hc,if_neg (by simp[hc])]
    exact⟨k,by lia⟩
  .rw[rg σ b c (λz=>hb z.1),if_neg hb,if_neg hb,if_neg (by simp[hb])]
   exact⟨k,by lia⟩
theorem yD(σ:Nat->Bool)(T:As):∀B:List Nat,∃k,cx σ (fo T B)=s1 σ T B-2*s2 σ T B+4*s3 σ T B+8*k
 |[]=>⟨0,rfl⟩
 |b::B=>by
  obtain⟨k,ih⟩:=yD σ T B;obtain⟨m,f⟩:=yI σ b (hav T b) B;have e1:s1 σ T (b::B)=(if σ b=true then sumE (hav T b)else 0)+s1 σ T B:=rfl;have e2:s2 σ T (b::B)=(if σ b=true then s1 σ (hav T b) B else 0)+s2 σ T B:=rfl;have e3:s3 σ T (b::B)=(if σ b=true then s2 σ (hav T b) B else 0)+s3 σ T B:=rfl;have e:cx σ (fo T (b::B))=(if [b].all σ = true then sumE (hav T b)%8 else 0)+cx σ (f2 b (hav T b) B)+cx σ (fo T B):=by
   show cx σ (fw b (hav T b) B++fo T B)=_;rw[kY];unfold fw;rw[uE];rfl
  rw[e,f,ih,e1,e2,e3];by_cases hb:σ b=true
  .rw[if_pos hb,if_pos hb,if_pos hb,if_pos hb,if_pos (by simp[hb])]
   exact⟨k+m-sumE (hav T b)/8,by lia⟩
  .rw[if_neg hb,if_neg hb,if_neg hb,if_neg hb,if_neg (by simp[hb])]
   exact⟨k+m,by lia⟩
theorem kT(p:Nat×Nat)(T:As)(b:Nat):hav (p::T) b=if hasB p.1 b=true then p::hav T b else hav T b:=by unfold hav;rw[List.filter_cons]
noncomputable def n1(σ:Nat->Bool)(S:Nat):List Nat->Int
 |[]=>0
 |c::C=>(if hasB S c=true/\ σ c=true then 1 else 0)+n1 σ S C
noncomputable def n2(σ:Nat->Bool)(S:Nat):List Nat->Int
 |[]=>0
 |c::C=>(if hasB S c=true/\ σ c=true then n1 σ S C else 0)+n2 σ S C
noncomputable def n3(σ:Nat->Bool)(S:Nat):List Nat->Int
 |[]=>0
 |c::C=>(if hasB S c=true/\ σ c=true then n2 σ S C else 0)+n3 σ S C
theorem nQ(σ:Nat->Bool)(p:Nat×Nat)(T:As):∀C,s1 σ (p::T) C=(p.2:Int)*n1 σ p.1 C+s1 σ T C
 |[]=>by show(0:Int)=(p.2:Int)*0+0;lia
 |c::C=>by
  have ih:=nQ σ p T C;show(if σ c=true then sumE (hav (p::T) c)else 0)+s1 σ (p::T) C=(p.2:Int)*((if hasB p.1 c=true/\ σ c=true then 1 else 0)+n1 σ p.1 C)+((if σ c=true then sumE (hav T c)else 0)+s1 σ T C);rw[ih,kT,Int.mul_add];by_cases hc:σ c=true<;>by_cases hs:hasB p.1 c=true<;>simp only[hc,hs,if_true,if_false,and_self,and_true,true_and,and_false,false_and,Int.mul_one,Int.mul_zero,Bool.false_eq_true,sumE]<;>lia
theorem nO(σ:Nat->Bool)(p:Nat×Nat)(T:As):∀C,s2 σ (p::T) C=(p.2:Int)*n2 σ p.1 C+s2 σ T C
 |[]=>by show(0:Int)=(p.2:Int)*0+0;lia
 |c::C=>by
  have ih:=nO σ p T C;have h1:=nQ σ p (hav T c) C;show(if σ c=true then s1 σ (hav (p::T) c) C else 0)+s2 σ (p::T) C=(p.2:Int)*((if hasB p.1 c=true/\ σ c=true then n1 σ p.1 C else 0)+n2 σ p.1 C)+((if σ c=true then s1 σ (hav T c) C else 0)+s2 σ T C);rw[ih,kT,Int.mul_add];by_cases hc:σ c=true<;>by_cases hs:hasB p.1 c=true<;>simp only[hc,hs,if_true,if_false,and_self,and_true,true_and,and_false,false_and,Int.mul_zero,Bool.false_eq_true,h1]<;>lia
theorem tP(σ:Nat->Bool)(p:Nat×Nat)(T:As):∀C,s3 σ (p::T) C=(p.2:Int)*n3 σ p.1 C+s3 σ T C
 |[]=>by show(0:Int)=(p.2:Int)*0+0;lia
 |c::C=>by
  have ih:=tP σ p T C;have h1:=nO σ p (hav T c) C;show(if σ c=true then s2 σ (hav (p::T) c) C else 0)+s3 σ (p::T) C=(p.2:Int)*((if hasB p.1 c=true/\ σ c=true then n2 σ p.1 C else 0)+n3 σ p.1 C)+((if σ c=true then s2 σ (hav T c) C else 0)+s3 σ T C);rw[ih,kT,Int.mul_add];by_cases hc:σ c=true<;>by_cases hs:hasB p.1 c=true<;>simp only[hc,hs,if_true,if_false,and_self,and_true,true_and,and_false,false_and,Int.mul_zero,Bool.false_eq_true,h1]<;>lia
theorem BC(σ:Nat->Bool)(S:Nat):∀C,0<=n1 σ S C/\(∃k,n1 σ S C-2*n2 σ S C=n1 σ S C%2+4*k)/\∃k,n1 σ S C-2*n2 σ S C+4*n3 σ S C=n1 σ S C%2+8*k
 |[]=>⟨Int.le_refl _,⟨0,rfl⟩,⟨0,rfl⟩⟩
 |c::C=>by
  obtain⟨h0,⟨k,h1⟩,⟨m,h2⟩⟩:=BC σ S C;have e1:n1 σ S (c::C)=(if hasB S c=true/\ σ c=true then 1 else 0)+n1 σ S C:=rfl;have e2:n2 σ S (c::C)=(if hasB S c=true/\ σ c=true then n1 σ S C else 0)+n2 σ S C:=rfl;have e3:n3 σ S (c::C)=(if hasB S c=true/\ σ c=true then n2 σ S C else 0)+n3 σ S C:=rfl;rw[e1,e2,e3];by_cases q:hasB S c=true/\ σ c=true
  .rw[if_pos q,if_pos q,if_pos q]
   generalize n1 σ S C=a at *;generalize n2 σ S C=b at *;generalize n3 σ S C=d at *;refine⟨by lia,⟨k+(1-2*a+a%2-(1+a)%2)/4,by lia⟩,⟨(1+a-2*(a+b)+4*(b+d)-(1+a)%2)/8,by lia⟩⟩
  .rw[if_neg q,if_neg q,if_neg q]
   exact⟨by lia,⟨k,by lia⟩,⟨m,by lia⟩⟩
noncomputable def Eg(σ:Nat->Bool)(B:List Nat):As->Int
 |[]=>0
 |p::T=>(p.2:Int)*(n1 σ p.1 B%2)+Eg σ B T
theorem Br(σ:Nat->Bool)(B:List Nat):∀T:As,∃k,s1 σ T B-2*s2 σ T B+4*s3 σ T B=Eg σ B T+8*k
 |[]=>by
  have z1:∀C,s1 σ [] C=0:=λC=>by
   induction C with
   |nil=>rfl
   |cons c C ih=>show(if σ c=true then(0:Int)else 0)+s1 σ [] C=0;rw[ih];split<;>rfl
  have z2:∀C,s2 σ [] C=0:=λC=>by
   induction C with
   |nil=>rfl
   |cons c C ih=>show(if σ c=true then s1 σ [] C else 0)+s2 σ [] C=0;rw[ih,z1];split<;>rfl
  have z3:∀C,s3 σ [] C=0:=λC=>by
   induction C with
   |nil=>rfl
   |cons c C ih=>show(if σ c=true then s2 σ [] C else 0)+s3 σ [] C=0;rw[ih,z2];split<;>rfl
  exact⟨0,by rw[z1,z2,z3];rfl⟩
 |p::T=>by
  obtain⟨k,ih⟩:=Br σ B T;obtain⟨_,_,m,h⟩:=BC σ p.1 B;refine⟨k+(p.2:Int)*m,?_⟩;rw[nQ,nO,tP];show _=(p.2:Int)*(n1 σ p.1 B%2)+Eg σ B T+8*(k+(p.2:Int)*m);have h':(p.2:Int)*n1 σ p.1 B-2*((p.2:Int)*n2 σ p.1 B)+4*((p.2:Int)*n3 σ p.1 B)=(p.2:Int)*(n1 σ p.1 B%2)+8*((p.2:Int)*m):=by
   have:=congrArg (λx=>(p.2:Int)*x) h
   simp only[Int.mul_add,Int.mul_sub]at this;rw[Int.mul_left_comm (p.2:Int) 2,Int.mul_left_comm (p.2:Int) 4,Int.mul_left_comm (p.2:Int) 8]at this;exact this
  lia
theorem Dq(σ:Nat->Bool)(T:As)(B:List Nat):cx σ (fo T B)%8=Eg σ B T%8:=by
 obtain⟨k,h⟩:=yD σ T B;obtain⟨m,g⟩:=Br σ B T
 lia
noncomputable def FA:List Nat->List Nat->Bool
 |[],[]=>false
 |[],_::_=>true
 |_::_,[]=>false
 |a::r,b::t=>if a=b then FA r t else decide (a<b)
def Up(F:Fm):Prop:=F.Pairwise λp q=>FA p.1 q.1=true
noncomputable def Bm:Nat->Nat
 | 0=>0
 |n+1=>1+n+Bm n
noncomputable def EC:Nat->Nat
 | 0=>0
 |n+1=>1+Bm n+EC n
theorem oB(b:Nat)(U:As):∀C:List Nat,(f2 b U C).length<=Bm C.length
 |[]=>Nat.le_refl _
 |c::C=>by
  have ih:=oB b U C;have:=List.length_filter_le (λd=>hasB (oddH (hav U c)) d) C
  show((_::_)++f2 b U C).length<=1+C.length+Bm C.length;rw[List.length_append,List.length_cons,List.length_map]
  lia
theorem sC(T:As):∀B:List Nat,(fo T B).length<=EC B.length
 |[]=>Nat.le_refl _
 |b::B=>by
  have ih:=sC T B;have h1:=oB b (hav T b) B;have h2:=List.length_filter_le (λp:List Nat×Int=>decide (p.2≠0)) (([b],sumE (hav T b)%8)::f2 b (hav T b) B)
  rw[List.length_cons]at h2;show(fw b (hav T b) B++fo T B).length<=1+Bm B.length+EC B.length;rw[List.length_append];unfold fw
  lia
theorem EB{n:Nat}(h:n<=10):EC n<=200:=by
 have:∀m,m<=10->EC m<=200:=by decide
 exact this n h
noncomputable def d5(F:Fm):List D:=F.map λp=>.tuple [.tuple (ae p.1),.int p.2]
theorem FS(T:As)(b:Nat)(hl:T.length<=1000)(X:D)(hX:aY X=some (T.map pD)):i9 [.fz X,.fz (.int (b:Int))]=some (.list ((hav T b).map pD)):=by
 unfold i9 hav;refine bX (xs:=T) (h:=pD) (by simp[hX]) (by lia) (λp _=>?_) λp _ _=>?_
 .have h:=gK p.1 b
  generalize hasB p.1 b=z at *;simp[bV,pD,h]
 .simp[bV]
theorem mT(T:As)(b:Nat)(hl:T.length<=1000)(X:D)(hX:aY X=some (T.map pD)):b8 [X,.int (b:Int)]=some (.list ((hav T b).map pD)):=by
 have:=FS T b hl X hX;simp[b8,cc,lH,aV,this]
theorem pv:∀T:As,(T.map λp=>(p.2:Int)).sum=sumE T
 |[]=>rfl
 |p::T=>by rw[List.map_cons,List.sum_cons,pv T];rfl
theorem EQ(T:As)(hl:T.length<=1000):dh [.fz (.list (T.map pD))]=some (.list (T.map λp=>.int (p.2:Int))):=by
 unfold dh;exact qE (xs:=T) (h:=pD) (by simp) (by lia) λp _=>by simp[bV,pD]
theorem tz(T:As)(hl:T.length<=1000):aP [.list (T.map pD)]=some (.int (sumE T)):=by
 have h1:=EQ T hl;have h2:=wR (λp:Nat×Nat=>(p.2:Int)) T
 rw[pv]at h2;simp[aP,cc,dJ,aV,h1,h2]
theorem xK(X:D)(t:Nat)(p:Nat×Nat):bK [.fz X,.fz (.int (t:Int)),.fz (pD p)]=some (.nx,[.fz X,.fz (.int ((if p.2%2=1 then t ^^^ p.1 else t:Nat):Int)),.fz (pD p)]):=by
 have x:=MA.sQ t p.1;have m:=xT p.2;by_cases o:p.2%2=1
 .rw[o]at m
  rw[if_pos o];simp[bK,pD,m,x]
 .have o':p.2%2=0:=by lia
  rw[o']at m;rw[if_neg o];simp[bK,pD,m]
theorem pZ(X:D):∀(T:As) (t:Nat) (y:Sl),∃z,loop (gN 2) bK (T.map pD) [.fz X,.fz (.int (t:Int)),y]=some (.nx,[.fz X,.fz (.int ((T.foldl (λt p=>if p.2%2=1 then t ^^^ p.1 else t) t:Nat):Int)),z])
 |[],t,y=>⟨y,rfl⟩
 |p::T,t,y=>by
  obtain⟨z,e⟩:=pZ X T (if p.2%2=1 then t ^^^ p.1 else t) (.fz (pD p));refine⟨z,?_⟩;rw[List.map_cons,bJ (δ1:=[.fz X,.fz (.int (t:Int)),.fz (pD p)]) (by rfl) (xK X t p)];exact e
theorem xJ(T:As):bH [.list (T.map pD)]=some (.int (oddH T:Int)):=by
 obtain⟨z,e⟩:=pZ (.list (T.map pD)) T 0 .un;have e:loop (gN 2) bK (T.map pD) [.fz (.list (T.map pD)),.fz (.int 0),.un]=some (.nx,[.fz (.list (T.map pD)),.fz (.int (oddH T:Int)),z]):=e;simp[bH,cc,eY,aV,e]
theorem qD(pre:List Nat)(c:Nat)(C:List Nat)(k:Int)(hk:(pre.length:Int)+1=k):Bq (.list (ae (pre++c::C))) (some k) none=some (.list (ae C)):=by
 subst hk;show some (PyData.list (lY _ _ _))=_;unfold lY;have ln:(ae (pre++c::C)).length=pre.length+1+C.length:=by rw[ba,List.length_append,List.length_cons];lia
 have h1:HT.sIx (ae (pre++c::C)).length 0 (some ((pre.length:Int)+1))=pre.length+1:=by
  rw[ln];simp[HT.sIx]
  lia
 have h2:HT.sIx (ae (pre++c::C)).length (ae (pre++c::C)).length none=pre.length+1+C.length:=by rw[ln];rfl
 rw[h1,h2];have:(ae (pre++c::C)).drop (pre.length+1)=ae C:=by
  unfold ae;rw[List.map_append,List.map_cons,List.drop_append,List.length_map,List.drop_of_length_le (by rw[List.length_map];lia),Nat.add_sub_cancel_left];rfl
 rw[this,List.take_of_length_le (by rw[ba];lia)]
theorem vc(pre:List Nat)(c:Nat)(C:List Nat):aD (.list (ae (pre++c::C))) (.int (pre.length:Int))=some (.int (c:Int)):=by
 show lN _ _=_;rw[xS _ (by rw[List.length_append,List.length_cons];lia),List.getD_eq_getElem?_getD,List.getElem?_append_right (Nat.le_refl _),Nat.sub_self];rfl
theorem C6(x:Int):kB (.int (-2)) (.int x)=some (.int (-2*x)):=qc (.of_left (by decide))
theorem HU(b c:Nat)(U:D)(B C:List Nat)(V:As)(acc:List D)(k k1:Int)(H:Nat)(y5 y6:Sl)(hk:k+1=k1)(hx:aD (.list (ae B)) (.int k)=some (.int (c:Int)))(hs:Bq (.list (ae B)) (some k1) none=some (.list (ae C)))(h1:b8 [U,.int (c:Int)]=some (.list (V.map pD)))(h2:aP [.list (V.map pD)]=some (.int (sumE V)))(h3:bH [.list (V.map pD)]=some (.int (H:Int)))(hl:acc.length+1+C.length<=1000)(hC:C.length<=1000):cD [.fz (.int (b:Int)),.fz U,.fz (.list (ae B)),.ow acc,.fz (.int k),y5,y6]=some (.nx,[.fz (.int (b:Int)),.fz U,.fz (.list (ae B)),.ow (acc++d5 (([b,c],-2*sumE V%8)::(C.filter λd=>hasB H d).map λd=>([b,c,d],4))),.fz (.int k),.fz (.list (V.map pD)),.fz (.int (H:Int))]):=by
 have p:eP [.fz (.int (b:Int)),.fz U,.fz (.list (ae B)),.ow (acc++[.tuple [.tuple [.int (b:Int),.int (c:Int)],.int (-2*sumE V%8)]]),.fz (.int k),.fz (.list (V.map pD)),.fz (.int (H:Int))]=some (.list ((C.filter λd=>hasB H d).map λd:Nat=>.tuple [.tuple [.int (b:Int),.int (c:Int),.int (d:Int)],.int 4])):=by
  unfold eP;refine bX (xs:=C) (h:=λd:Nat=>PyData.int (d:Int)) (by simp[hk,hs];rfl) (by lia) (λd _=>?_) λd _ _=>?_
  .have h:=gK H d
   generalize hasB H d=z at *;simp[bV,h]
  .simp[bV,hx]
 have ng:negD (.int 2)=some (.int (-2)):=rfl;have m:=C6 (sumE V);have a1:acc.length<sizeLine:=by rw[sizeLine_eq];lia
 have a2:acc.length+1+(C.filter λd=>hasB H d).length<=sizeLine:=by
  have:=List.length_filter_le (λd=>hasB H d) C;rw[sizeLine_eq];lia
 have ef:acc++d5 (([b,c],-2*sumE V%8)::(C.filter λd=>hasB H d).map λd=>([b,c,d],4))=acc++[.tuple [.tuple [.int (b:Int),.int (c:Int)],.int (-2*sumE V%8)]]++((C.filter λd=>hasB H d).map λd:Nat=>.tuple [.tuple [.int (b:Int),.int (c:Int),.int (d:Int)],.int 4]):=by
  unfold d5;rw[List.map_cons,List.map_map,List.append_assoc];rfl
 rw[ef];simp[cD,hx,h1,h2,h3,ng,m,a1,p,xU,a2]
theorem uD(b:Nat)(T:As)(hl:T.length<=1000)(U:D)(hU:aY U=some (T.map pD))(B:List Nat)(hB:B.length<=20):∀(C pre:List Nat) (acc:List D) (y4 y5 y6:Sl),B=pre++C->acc.length+C.length*30<=900->∃z4 z5 z6,loop (gN 4) cD ((List.range' pre.length C.length).map λk:Nat=>PyData.int (0+(k:Int))) [.fz (.int (b:Int)),.fz U,.fz (.list (ae B)),.ow acc,y4,y5,y6]=some (.nx,[.fz (.int (b:Int)),.fz U,.fz (.list (ae B)),.ow (acc++d5 (f2 b T C)),z4,z5,z6])
 |[],pre,acc,y4,y5,y6,_,_=>⟨y4,y5,y6,by rw[show d5 (f2 b T [])=[]from rfl,List.append_nil];rfl⟩
 |c::C,pre,acc,y4,y5,y6,e,ha=>by
  have hlen:C.length<=20:=by
   have:=congrArg List.length e;rw[List.length_append,List.length_cons]at this
   lia
  rw[List.length_cons]at ha;have hv:(hav T c).length<=1000:=by
   have:=List.length_filter_le (λp:Nat×Nat=>hasB p.1 c) T;unfold hav
   lia
  have st:=HU b c U B C (hav T c) acc (pre.length:Int) ((pre.length:Int)+1) (oddH (hav T c)) y5 y6 rfl (by rw[e];exact vc pre c C) (by rw[e];exact qD pre c C _ rfl) (mT T c hl U hU) (tz _ hv) (xJ _) (by lia) (by lia);have fl:=List.length_filter_le (λd=>hasB (oddH (hav T c)) d) C
  obtain⟨z4,z5,z6,h⟩:=uD b T hl U hU B hB C (pre++[c]) (acc++d5 (([b,c],-2*sumE (hav T c)%8)::(C.filter λd=>hasB (oddH (hav T c)) d).map λd=>([b,c,d],4))) (.fz (.int (pre.length:Int))) _ _ (by rw[e,List.append_assoc];rfl) (by
   unfold d5;rw[List.length_append,List.length_map,List.length_cons,List.length_map]
   lia)
  refine⟨z4,z5,z6,?_⟩;have z:PyData.int (0+((pre.length:Nat):Int))=PyData.int (pre.length:Int):=by rw[Int.zero_add]
  rw[List.length_cons,List.range'_succ,List.map_cons,z,bJ (δ1:=[.fz (.int (b:Int)),.fz U,.fz (.list (ae B)),.ow acc,.fz (.int (pre.length:Int)),y5,y6]) (by rfl) st];rw[List.length_append]at h;refine h.trans ?_;have:d5 (f2 b T (c::C))=d5 (([b,c],-2*sumE (hav T c)%8)::(C.filter λd=>hasB (oddH (hav T c)) d).map λd=>([b,c,d],4))++d5 (f2 b T C):=by
   show d5 (_++_)=_;unfold d5;rw[List.map_append]
  rw[this,List.append_assoc]
theorem FW(x0 x1 x2:D)(F:Fm)(hl:F.length<=1000)(z4 z5 z6:Sl):cC [.fz x0,.fz x1,.fz x2,.fz (.list (d5 F)),z4,z5,z6]=some (.list (d5 (F.filter λp=>decide (p.2≠0)))):=by
 unfold cC d5;refine bX (xs:=F) (h:=λp:List Nat×Int=>PyData.tuple [.tuple (ae p.1),.int p.2]) (by simp) (by lia) (λp _=>?_) λp _ _=>by simp[bV]
 by_cases h:p.2=0
 .simp[bV,h]
 .simp[bV,h]
theorem FV(b:Nat)(U R:D)(B:List Nat)(s n:Int)(ln:((ae B).length:Int)=n)(F:Fm)(L:List D)(z4 z5 z6:Sl)(h1:aP [U]=some (.int s))(r:fg [.int n]=some L)(lp:loop (gN 4) cD L [.fz (.int (b:Int)),.fz U,.fz (.list (ae B)),.ow [.tuple [.tuple [.int (b:Int)],.int (s%8)]],.un,.un,.un]=some (.nx,[.fz (.int (b:Int)),.fz U,.fz (.list (ae B)),.ow (d5 F),z4,z5,z6]))(p:cC [.fz (.int (b:Int)),.fz U,.fz (.list (ae B)),.fz (.list (d5 F)),z4,z5,z6]=some R):bU [.int (b:Int),U,.list (ae B)]=some R:=by
 refine lS rfl (δ':=[.fz (.int (b:Int)),.fz U,.fz (.list (ae B)),.fz (.list (d5 F)),z4,z5,z6]) ?_;unfold fV;have o:1<=sizeLine:=by rw[sizeLine_eq];decide
 rw[aN (δ':=[.fz (.int (b:Int)),.fz U,.fz (.list (ae B)),.ow [.tuple [.tuple [.int (b:Int)],.int (s%8)]],.un,.un,.un]) (by
  show vB 3 _ [.fz (.int (b:Int)),.fz U,.fz (.list (ae B)),.un,.un,.un,.un]=_;simp[h1,o])]
 have hf:(oL (ac (VL.os (ac (oV 2) (ak)) cw) (ak)) fg) [.fz (.int (b:Int)),.fz U,.fz (.list (ae B)),.ow [.tuple [.tuple [.int (b:Int)],.int (s%8)]],.un,.un,.un]=some L:=xN (ds:=[.int n]) (by simp[ln]) r;rw[aN (δ':=[.fz (.int (b:Int)),.fz U,.fz (.list (ae B)),.ow (d5 F),z4,z5,z6]) (by
  show(_:Option (List D)).bind _=_;rw[hf];exact lp)]
 show(cC [.fz (.int (b:Int)),.fz U,.fz (.list (ae B)),.fz (.list (d5 F)),z4,z5,z6]).bind _=_;rw[p];rfl
theorem yC(b:Nat)(T:As)(hl:T.length<=1000)(B:List Nat)(hB:B.length<=20):bU [.int (b:Int),.list (T.map pD),.list (ae B)]=some (.list (d5 (fw b T B))):=by
 obtain⟨z4,z5,z6,h⟩:=uD b T hl (.list (T.map pD)) rfl B hB B [] [.tuple [.tuple [.int (b:Int)],.int (sumE T%8)]] .un .un .un rfl (by show 1+_<=_;lia);have lf:=oB b T B;have tb:Bm B.length<=300:=by
  have:∀m,m<=20->Bm m<=300:=by decide
  exact this _ hB
 exact FV b _ _ B (sumE T) (B.length:Int) (by rw[ba]) (([b],sumE T%8)::f2 b T B) _ z4 z5 z6 (tz T hl) (by rw[Ci (by lia),List.range_eq_range'];rfl) h (FW _ _ _ _ (by rw[List.length_cons];lia) _ _ _)
noncomputable def orH(T:As):Nat:=T.foldl (λt p=>t ||| p.1) 0
theorem cE(x k:Nat):hasB x k=x.testBit k:=by rw[Nat.testBit_eq_decide_div_mod_eq];rfl
theorem ug(X:D)(y3 y4 y5:Sl):∀(T:As) (t:Nat) (y:Sl),∃z,loop (gN 2) eT (T.map pD) [.fz X,.fz (.int (t:Int)),y,y3,y4,y5]=some (.nx,[.fz X,.fz (.int ((T.foldl (λt p=>t ||| p.1) t:Nat):Int)),z,y3,y4,y5])
 |[],t,y=>⟨y,rfl⟩
 |p::T,t,y=>by
  obtain⟨z,e⟩:=ug X y3 y4 y5 T (t ||| p.1) (.fz (pD p));refine⟨z,?_⟩;have o:=MA.IM t p.1;rw[List.map_cons,bJ (δ1:=[.fz X,.fz (.int (t:Int)),.fz (pD p),y3,y4,y5]) (δ2:=[.fz X,.fz (.int ((t ||| p.1:Nat):Int)),.fz (pD p),y3,y4,y5]) (by rfl) (by simp[eT,pD,o])];exact e
theorem xD(k:Nat):∀(T:As) (t:Nat),hasB (T.foldl (λt p=>t ||| p.1) t) k=true↔hasB t k=true\/∃p∈T,hasB p.1 k=true
 |[],t=>by simp
 |p::T,t=>by
  show hasB (T.foldl _ (t ||| p.1)) k=true↔_;rw[xD k T,cE,Nat.testBit_or,<-cE,<-cE,Bool.or_eq_true];constructor
  .rintro ((a|a)|⟨q,hq,a⟩)
   .exact .inl a
   .exact .inr ⟨p,List.mem_cons_self,a⟩
   .exact .inr ⟨q,List.mem_cons_of_mem _ hq,a⟩
  .rintro (a|⟨q,hq,a⟩)
   .exact .inl (.inl a)
   .rcases List.mem_cons.mp hq with rfl|z
    .exact .inl (.inr a)
    .exact .inr ⟨q,z,a⟩
noncomputable def bts(h:Nat):List Nat:=(List.range (Builtin.Int.intBits (h:Int))).filter λk=>hasB h k
theorem uj(h:Nat):h<2^Builtin.Int.intBits (h:Int):=by
 unfold Builtin.Int.intBits;split
 .rename_i z
  have:h=0:=by simpa using z
  lia
 .rw[Int.natAbs_natCast]
  exact Nat.lt_log2_self
theorem yt{h k n:Nat}(hn:h<2^n)(hk:hasB h k=true):k<n:=by
 refine Nat.lt_of_not_le λq=>?_
 have:h/2^k=0:=Nat.div_eq_of_lt (Nat.lt_of_lt_of_le hn (Nat.pow_le_pow_right (by decide) q));unfold hasB at hk;rw[this]at hk;cases hk
theorem A6(h k:Nat):k∈bts h↔hasB h k=true:=by
 unfold bts;rw[List.mem_filter,List.mem_range];exact⟨λq=>q.2,λq=>⟨yt (uj h) q,q⟩⟩
theorem DI(h:Nat):(bts h).Pairwise (· < ·):=List.pairwise_lt_range.sublist List.filter_sublist
theorem DJ(X:D)(h N:Nat)(n:Int)(z2:Sl)(hN:N<=1000)(hb:nc (.int (h:Int))=some (.int n))(r:fg [.int n]=some ((List.range N).map λk:Nat=>PyData.int (0+(k:Int)))):eQ [.fz X,.fz (.int (h:Int)),z2,.un,.un,.un]=some (.list (ae ((List.range N).filter λk=>hasB h k))):=by
 unfold eQ ae;have hb':(Builtin.Int.intBits (h:Int):Int)=n:=by
  have:=hb;rw[wu]at this;injection this with this
  injection this
 refine bX (xs:=List.range N) (h:=λk:Nat=>PyData.int (0+(k:Int))) (xN (ds:=[.int n]) (by simp[hb']) r) (by rw[List.length_range];lia) (λk _=>?_) λk _ _=>by simp[bV]
 have q:=gK h k;generalize hasB h k=z at *;simp[bV,q]
theorem HW(X:D)(c:Nat)(U V:D)(B:List Nat)(acc L:List D)(k k1:Int)(h:D)(z2:Sl)(hk:k+1=k1)(hx:aD (.list (ae B)) (.int k)=some (.int (c:Int)))(h1:b8 [X,.int (c:Int)]=some U)(hs:Bq (.list (ae B)) (some k1) none=some V)(h2:bU [.int (c:Int),U,V]=some (.list L))(hl:acc.length+L.length<=1000):dE [.fz X,.fz h,z2,.fz (.list (ae B)),.ow acc,.fz (.int k)]=some (.nx,[.fz X,.fz h,z2,.fz (.list (ae B)),.ow (acc++L),.fz (.int k)]):=by
 have a2:acc.length+L.length<=sizeLine:=by rw[sizeLine_eq];lia
 simp[dE,hk,hx,h1,hs,h2,xU,a2]
theorem uJ(T:As)(hl:T.length<=1000)(X:D)(hX:aY X=some (T.map pD))(h:D)(z2:Sl)(B:List Nat)(hB:B.length<=10):∀(C pre:List Nat) (acc:List D) (y5:Sl),B=pre++C->acc.length+C.length*60<=900->∃z5,loop (gN 5) dE ((List.range' pre.length C.length).map λk:Nat=>PyData.int (0+(k:Int))) [.fz X,.fz h,z2,.fz (.list (ae B)),.ow acc,y5]=some (.nx,[.fz X,.fz h,z2,.fz (.list (ae B)),.ow (acc++d5 (fo T C)),z5])
 |[],pre,acc,y5,_,_=>⟨y5,by rw[show d5 (fo T [])=[]from rfl,List.append_nil];rfl⟩
 |c::C,pre,acc,y5,e,ha=>by
  have hlen:C.length<=9:=by
   have:=congrArg List.length e;rw[List.length_append,List.length_cons]at this
   lia
  rw[List.length_cons]at ha;have hv:(hav T c).length<=1000:=by
   have:=List.length_filter_le (λp:Nat×Nat=>hasB p.1 c) T;unfold hav
   lia
  have lf:(d5 (fw c (hav T c) C)).length<=60:=by
   have h1:=oB c (hav T c) C;have h2:=List.length_filter_le (λp:List Nat×Int=>decide (p.2≠0)) (([c],sumE (hav T c)%8)::f2 c (hav T c) C)
   rw[List.length_cons]at h2;have:∀m,m<=9->Bm m<=50:=by decide
   have:=this _ hlen;unfold d5 fw;rw[List.length_map]
   lia
  have st:=HW X c _ _ B acc _ (pre.length:Int) ((pre.length:Int)+1) h z2 rfl (by rw[e];exact vc pre c C) (mT T c hl X hX) (by rw[e];exact qD pre c C _ rfl) (yC c _ hv C (by lia)) (by lia);obtain⟨z5,q⟩:=uJ T hl X hX h z2 B hB C (pre++[c]) (acc++d5 (fw c (hav T c) C)) (.fz (.int (pre.length:Int))) (by rw[e,List.append_assoc];rfl) (by rw[List.length_append];lia);refine⟨z5,?_⟩;have z:PyData.int (0+((pre.length:Nat):Int))=PyData.int (pre.length:Int):=by rw[Int.zero_add]
  rw[List.length_cons,List.range'_succ,List.map_cons,z,bJ (δ1:=[.fz X,.fz h,z2,.fz (.list (ae B)),.ow acc,.fz (.int (pre.length:Int))]) (by rfl) st];rw[List.length_append]at q;refine q.trans ?_;have:d5 (fo T (c::C))=d5 (fw c (hav T c) C)++d5 (fo T C):=by
   show d5 (_++_)=_;unfold d5;rw[List.map_append]
  rw[this,List.append_assoc]
theorem FX(X:D)(PL L:List D)(B:List Nat)(F:List D)(h n:Int)(z2 z5:Sl)(hX:aY X=some PL)(lp:loop (gN 2) eT PL [.fz X,.fz (.int 0),.un,.un,.un,.un]=some (.nx,[.fz X,.fz (.int h),z2,.un,.un,.un]))(p:eQ [.fz X,.fz (.int h),z2,.un,.un,.un]=some (.list (ae B)))(ln:((ae B).length:Int)=n)(r:fg [.int n]=some L)(lp2:loop (gN 5) dE L [.fz X,.fz (.int h),z2,.fz (.list (ae B)),.ow [],.un]=some (.nx,[.fz X,.fz (.int h),z2,.fz (.list (ae B)),.ow F,z5]))(hF:F.length<=sizeLine):dy [X]=some (.tuple F):=by
 refine lS rfl (δ':=[.fz X,.fz (.int h),z2,.fz (.list (ae B)),.fz (.list F),z5]) ?_;unfold jp;rw[aN (δ':=[.fz X,.fz (.int 0),.un,.un,.un,.un]) (by rfl),aN (δ':=[.fz X,.fz (.int h),z2,.un,.un,.un]) (by
  show(_:Option (List D)).bind _=_;rw[show(oI (oV 0) aY) [.fz X,.fz (.int 0),.un,.un,.un,.un]=some PL from hX];exact lp),aN (δ':=[.fz X,.fz (.int h),z2,.fz (.list (ae B)),.un,.un]) (by
  show(_:Option D).bind _=_;rw[p];rfl),aN (δ':=[.fz X,.fz (.int h),z2,.fz (.list (ae B)),.ow [],.un]) (by simp)]
 have hf:(oL (ac (VL.os (ac (oV 3) (ak)) cw) (ak)) fg) [.fz X,.fz (.int h),z2,.fz (.list (ae B)),.ow [],.un]=some L:=xN (ds:=[.int n]) (by simp[ln]) r;rw[aN (δ':=[.fz X,.fz (.int h),z2,.fz (.list (ae B)),.ow F,z5]) (by
  show(_:Option (List D)).bind _=_;rw[hf];exact lp2)]
 show(bA (VL.os (ac (oV 4) (ak)) bi)) [.fz X,.fz (.int h),z2,.fz (.list (ae B)),.fz (.list F),z5]=_;simp[hF]
theorem AL(T:As)(hl:T.length<=900)(hb:(bts (orH T)).length<=10)(hs:orH T<2^900):dy [.tuple (T.map pD)]=some (.tuple (d5 (fo T (bts (orH T))))):=by
 obtain⟨z2,lp⟩:=ug (.tuple (T.map pD)) .un .un .un T 0 .un;obtain⟨z5,lp2⟩:=uJ T (by lia) (.tuple (T.map pD)) rfl (.int (orH T:Int)) z2 (bts (orH T)) hb (bts (orH T)) [] [] .un rfl (by show 0+_<=_;lia);have hN:Builtin.Int.intBits (orH T:Int)<=900:=MA.va (by rw[Int.natAbs_natCast];exact hs);have lf:=sC T (bts (orH T));have t5:=EB hb;exact FX _ (T.map pD) _ (bts (orH T)) _ (orH T:Int) ((bts (orH T)).length:Int) z2 z5 rfl lp (DJ _ (orH T) (Builtin.Int.intBits (orH T:Int)) _ z2 (by lia) rfl (Ci (by lia))) (by rw[ba]) (by rw[Ci (by lia),List.range_eq_range'];rfl) lp2 (by unfold d5;rw[List.length_map,sizeLine_eq];lia)
theorem BK(hs:List Nat)(b:Nat):wE false (.int (b:Int)) (.list (ae hs))=some (.bool (decide (b∈hs))):=by
 have f:(ae hs).all wg=true:=by
  rw[List.all_eq_true];intro d hd;obtain⟨h,_,rfl⟩:=List.mem_map.mp hd;rfl
 show(if wg (.int (b:Int))=true/\(ae hs).all wg=true then some (PyData.bool (if false=true then !Dn (.int (b:Int)) (ae hs)else Dn (.int (b:Int)) (ae hs)))else none)=_;rw[if_pos ⟨rfl,f⟩,if_neg (by decide)];congr 2;unfold Dn ae;rw[List.any_map];by_cases h:b∈hs
 .rw[decide_eq_true h]
  exact List.any_eq_true.mpr ⟨b,h,by simp[PyData.eqv]⟩
 .rw[decide_eq_false h]
  refine List.any_eq_false.mpr λx hx=>?_
  simp only[Function.comp_def,PyData.eqv];intro z;have:(b:Int)=(x:Int)\/(x:Int)=(b:Int):=by first|exact .inl (by simpa using z)|exact .inr (by simpa using z)
  exact h (by rw[show b=x by lia];exact hx)
theorem Fv(σ:Nat->Bool)(S:Nat):∀l:List Nat,n1 σ S l=((l.filter λx=>hasB S x && σ x).length:Int)
 |[]=>rfl
 |x::l=>by
  have ih:=Fv σ S l;rw[List.filter_cons];show(if hasB S x=true/\ σ x=true then 1 else 0)+n1 σ S l=_;by_cases h:hasB S x=true/\ σ x=true
  .rw[if_pos h,if_pos (by rw[h.1,h.2];rfl),List.length_cons,ih];lia
  .rw[if_neg h,if_neg (by simpa using h),ih];lia
noncomputable def op:Nat->List (Nat×Int)->Nat
 |x,[]=>x
 |x,q::Q=>op (if q.2=2\/q.2=6 then x ^^^ q.1 else x) Q
noncomputable def tot:List (Nat×Int)->Int
 |[]=>0
 |q::Q=>q.2+tot Q
noncomputable def Ez(x:MA.Q4)(k:Int):D:=.tuple [.int x.a,.int x.b,.int x.c,.int x.d,.int k]
noncomputable def pop:Nat->Nat
 | 0=>0
 |n+1=>(n+1)%2+pop ((n+1)/2)
theorem xt(n:Nat):pop n=n%2+pop (n/2):=by
 cases n with
 |zero=>simp[pop]
 |succ n=>rw[pop]
theorem vS(a b:Nat):(a &&& b)/2=a/2 &&& b/2:=by
 apply Nat.eq_of_testBit_eq;intro i;rw[Nat.testBit_and,<-Nat.testBit_add_one,<-Nat.testBit_add_one,<-Nat.testBit_add_one,Nat.testBit_and]
theorem yf(a b:Nat):(a &&& b)%2=a%2*(b%2):=by
 have h:=Nat.testBit_and a b 0;simp only[Nat.testBit_zero]at h;have ha:a%2=0\/a%2=1:=by lia
 have hb:b%2=0\/b%2=1:=by lia
 have hc:(a &&& b)%2=0\/(a &&& b)%2=1:=by lia
 rcases ha with ha|ha<;>rcases hb with hb|hb<;>rcases hc with hc|hc<;>simp[ha,hb,hc]at h ⊢
noncomputable def jQ(a b:Nat):Nat:=pop (a &&& b)
theorem m6(a b:Nat):jQ a b=a%2*(b%2)+jQ (a/2) (b/2):=by
 unfold jQ;rw[xt,yf,vS]
theorem wk(a b:Nat):jQ a b=jQ b a:=by unfold jQ;rw[Nat.and_comm]
theorem wj(a:Nat):jQ a 0=0:=by unfold jQ;simp[pop]
noncomputable def tb(w b e:Nat):Nat->Nat
 | 0=>1
 |j+1=>tb w b e j+b/2^(w-1-j)%2*2^(1+j)+e/2^(w-1-j)%2*2^(1+w+j)
noncomputable def tm(w:Nat)(ms:List Nat)(T:Nat):Nat->Nat
 | 0=>T
 |m+1=>tm w ms T m+ms.getD m 0*2^(1+2*w+m)
noncomputable def Fj:MA.Q4:=⟨1,0,0,0⟩
noncomputable def acc(t B:Nat->Int):Nat->MA.Q4
 | 0=>⟨0,0,0,0⟩
 |k+1=>if B k=0 then MA.Q4.add (acc t B k) (MA.Gu (t k%8).toNat Fj)else acc t B k
noncomputable def res(y:MA.Q4)(hv:Int):D:=if hv<0 then Ez (MA.Q4.rtn (-hv).toNat y) 0 else Ez (MA.Fo y hv).1 (MA.Fo y hv).2
theorem Ac:∀n:Nat,pop n=MA.qX n:=λn=>by
 induction n using Nat.strongRecOn with
 |_ n ih=>
  rw[xt,MA.qX];by_cases h:n=0
  .subst h;simp[pop]
  .rw[if_neg h,ih (n/2) (by lia)]
theorem AT(a b:Nat):jQ a b%2=par (a &&& b):=by unfold jQ par;rw[Ac]
theorem uQ:∀(h b:Nat),jQ (2^h) b=b/2^h%2
 | 0,b=>by
  rw[m6];have:jQ (2^0/2) (b/2)=0:=by rw[show 2^0/2=0 from rfl,wk,wj]
  rw[this];simp
 |h+1,b=>by
  rw[m6,Nat.pow_succ,Nat.mul_mod_left,Nat.mul_div_cancel _ (by decide),uQ h (b/2),Nat.mul_comm (2^h) 2,<-Nat.div_div_eq_div_mul]
  lia
noncomputable def q0:MA.Q4:=⟨0,0,0,0⟩
theorem zN(bits:Nat)(hbits:bits%2=1){A:As}(h:OkA A)(b:Nat)(e tot:Int)(hi:((vl A 0:Nat)+((sm (λk=>par (k &&& bits)) A:Nat):Int)-tot)%8=0):
  (((vl (vT A b e) 0:Nat):Int)+((sm (λk=>par (k &&& bits)) (vT A b e):Nat):Int)-(tot+e*((par (b &&& bits):Nat):Int)))%8=0:=by
 obtain⟨w,hw⟩:∃w:Nat->Nat,(λk=>par (k &&& bits))=w:=⟨_,rfl⟩
 have w0:w 0=0:=by rw[<-hw];show par (0 &&& bits)=0;rw[Nat.zero_and,MA.dD]
 have wb:par (b &&& bits)=w b:=by rw[<-hw]
 have wl:∀k,w k<2:=λk=>by rw[<-hw];exact MA.ce _
 have wo:b%2=1->w b=1-w (hb b):=λo=>by
  rw[<-hw];show par (b &&& bits)=1-par (hb b &&& bits);unfold hb;rw[o];exact uc bits b hbits o
 rw[wb];rw[hw]at hi ⊢;have s1:sm w (wB A b e)=sm w A:=by
  unfold wB;split
  .have:=rF w A 0 (nv (vl A 0) e) h.nd
   rw[w0]at this
   lia
  .rfl
 have s2:((sm w (vT A b e):Nat):Int)=(sm w A:Nat)+((nv (vl A (hb b)) (he b e):Nat)-(vl A (hb b):Nat):Int)*(w (hb b):Nat):=by
  unfold vT;by_cases z:0<hb b
  .rw[if_pos z,Ew A b e _ z]
   have:=rF w (wB A b e) (hb b) (nv (vl A (hb b)) (he b e)) (Hz h b e).nd;rw[Ew A b e _ z,s1]at this;have t:=congrArg (λx:Nat=>(x:Int)) this
   simp only[Int.natCast_add,Int.natCast_mul]at t;rw[Int.sub_mul]
   lia
  .rw[if_neg z,s1,show hb b=0 by lia,w0]
   simp
 rw[s2,Bh];have n1:=mI (vl A (hb b)) (he b e);have n0:=mI (vl A 0) e;by_cases o:b%2=1
 .rw[if_pos o,wo o]
  unfold he at n1 ⊢;rw[if_pos o]at n1 ⊢;have:=wl (hb b);rcases (show w (hb b)=0\/w (hb b)=1 by lia)with y|y
  .rw[y];simp only[Nat.sub_zero,Int.natCast_zero,Int.natCast_one,Int.mul_zero,Int.mul_one,Int.add_zero];lia
  .rw[y];simp only[Nat.sub_self,Int.natCast_zero,Int.natCast_one,Int.mul_zero,Int.mul_one,Int.add_zero];lia
 .rw[if_neg o]
  have eb:hb b=b:=by unfold hb;lia
  unfold he at n1 ⊢;rw[if_neg o]at n1 ⊢;rw[eb]at n1 ⊢;have:=wl b;rcases (show w b=0\/w b=1 by lia)with y|y
  .rw[y];simp only[Int.natCast_zero,Int.natCast_one,Int.mul_zero,Int.mul_one,Int.add_zero];lia
  .rw[y];simp only[Int.natCast_zero,Int.natCast_one,Int.mul_zero,Int.mul_one,Int.add_zero];lia
noncomputable def aZ(b:Nat):List (Nat×Int)->Int
 |[]=>0
 |q::Q=>q.2*((par (q.1 &&& b):Nat):Int)+aZ b Q
noncomputable def Ji(b:Nat)(ts:List Nat):Bool:=ts.all λt=>par (t &&& b)==0
noncomputable def FF(c:Int)(ps:List (Nat×Int))(ts:List Nat)(b:Nat):MA.Q4:=if Ji b ts=true then MA.Gu ((c+aZ b ps)%8).toNat Fj else q0
theorem ic(b:Nat):∀R:As,((sm (λk=>par (k &&& b)) R:Nat):Int)=aZ b (upI R)
 |[]=>rfl
 |p::R=>by
  show((p.2*par (p.1 &&& b)+sm (λk=>par (k &&& b)) R:Nat):Int)=(p.2:Int)*((par (p.1 &&& b):Nat):Int)+aZ b (upI R)
  rw[<-ic b R]
  lia
theorem wZ(b:Nat)(hb:b%2=1):∀(Q:List (Nat×Int)) {A:As} (tot:Int),OkA A->(((vl A 0:Nat):Int)+((sm (λk=>par (k &&& b)) A:Nat):Int)-tot)%8=0->(((vl (wz A Q) 0:Nat):Int)+((sm (λk=>par (k &&& b)) (wz A Q):Nat):Int)-(tot+aZ b Q))%8=0
 |[],A,tot,h,hi=>by
  show(_+_-(tot+0))%8=0;rw[Int.add_zero];exact hi
 |q::Q,A,tot,h,hi=>by
  have:=wZ b hb Q _ (GC h q.1 q.2) (zN b hb h q.1 q.2 tot hi);show(_+_-(tot+(q.2*((par (q.1 &&& b):Nat):Int)+aZ b Q)))%8=0;rw[<-Int.add_assoc];exact this
theorem xv{R:As}{Q:List (Nat×Int)}(h:RR R λk=>kv k Q){c T:Int}(hT:T%8=(c+tv Q)%8)(b:Nat)(hb:b%2=1):(T+aZ b (upI R))%8=(c+aZ b Q)%8:=by
 obtain⟨c0,hc0,hlt⟩:∃c0:Nat,(c0:Int)=c%8/\c0<8:=⟨(c%8).toNat,by lia,by lia⟩;have ok:=xH Q (nW hlt);have s:=wZ b hb Q (A:=[(0,c0)]) c0 (nW hlt) (by
  rw[s9];have:sm (λk=>par (k &&& b)) [(0,c0)]=0:=by
   show c0*par (0 &&& b)+0=0;rw[Nat.zero_and,MA.dD,Nat.mul_zero]
  rw[this]
  lia)
 have v0:=s0 Q (nW hlt);rw[s9]at v0;obtain⟨rs,_,p,pw⟩:=hV (aj (wz [(0,c0)] Q)) ok.nd;have rr:RR (kt (wz [(0,c0)] Q) rs) λk=>kv k Q:=Ch ok p pw λk hk=>by
  rw[sZ hk _ (nW hlt),BZ c0 hk];show((0:Nat)+_:Int)%8=_;rw[show((0:Nat):Int)=0 from rfl,Int.zero_add]
 have e:R=kt (wz [(0,c0)] Q) rs:=h.one rr λk _=>rfl
 have f:=Cc (λk=>par (k &&& b)) (by show par (0 &&& b)=0;rw[Nat.zero_and,MA.dD]) (wz [(0,c0)] Q) rs ok.nd p
 rw[<-e]at f;have g:=ic b R;rw[f]at g;rw[<-g]
 lia
theorem r9{k:Nat}:∀{Q:List (Nat×Int)},kv k Q≠0->∃q∈Q,hb q.1=k
 |[],h=>absurd rfl h
 |q::Q,h=>by
  by_cases e:hb q.1=k
  .exact⟨q,List.mem_cons_self,e⟩
  .have h:(if hb q.1=k then he q.1 q.2 else 0)+kv k Q≠0:=h
   rw[if_neg e,Int.zero_add]at h;obtain⟨r,hr,e⟩:=r9 h;exact⟨r,List.mem_cons_of_mem _ hr,e⟩
theorem EY{R:As}{Q:List (Nat×Int)}(h:RR R λk=>kv k Q)(hQ:∀q∈Q,q.1<fj):∀p∈R,2<=p.1/\p.1%2=0/\p.1<fj/\1<=p.2/\p.2<=7:=λp hp=>by
 have h1:=h.nz p hp;have h2:=h.val p.1 h1.1;rw[eE (fJ h.pk) hp]at h2;have h2:(p.2:Int)=kv p.1 Q%8:=h2;obtain⟨q,hq,e⟩:=r9 (k:=p.1) (Q:=Q) (by lia);have:=hQ q hq;unfold hb at e
 lia
theorem Et{ps:As}{bit ch:Nat}(hp:∀p∈ps,p.1<fj)(hc:ch<fj):∀q∈ps.map (xb bit ch),q.1<fj:=λq hq=>by
 obtain⟨p,hp',rfl⟩:=List.mem_map.mp hq;unfold xb;split
 .exact BS (hp p hp') hc
 .exact hp p hp'
theorem CP(a b c:Nat):par ((a ^^^ b) &&& c)=(par (a &&& c)+par (b &&& c))%2:=by rw[Nat.and_xor_distrib_right,MA.jZ]
theorem Hw(a b c:Nat):par (a &&& (b ^^^ c))=(par (a &&& b)+par (a &&& c))%2:=by rw[Nat.and_xor_distrib_left,MA.jZ]
noncomputable def tp(n:Nat):Nat:=Nat.log2 n
theorem cz{n:Nat}(h:n≠0):hasB n (tp n)=true:=by
 rw[cE];unfold tp;exact Nat.testBit_log2 h
theorem g7{n k:Nat}(h:tp n<k):hasB n k=false:=by
 rw[cE];exact Nat.testBit_lt_two_pow (Nat.lt_of_lt_of_le (Nat.lt_log2_self) (Nat.pow_le_pow_right (by decide) h))
theorem EA{n k:Nat}(h:hasB n k=true)(g:∀j,k<j->hasB n j=false):tp n=k:=by
 have hn:n≠0:=λz=>by subst z;rw[cE,Nat.zero_testBit]at h;cases h
 rcases Nat.lt_trichotomy (tp n) k with z|z|z
 .rw[g7 z]at h;cases h
 .exact z
 .have:=cz hn
  rw[g _ z]at this;cases this
noncomputable def clr1(told:List Nat)(t:Nat):Nat:=told.foldl (λt o=>if hasB t (tp o)then t ^^^ o else t) t
noncomputable def de(told:List Nat)(a:Nat):List Nat:=if clr1 told a=0 then told else(told.map λo=>if hasB o (tp (clr1 told a))then o ^^^ clr1 told a else o)++[clr1 told a]
noncomputable def sN(l:List Nat):List Nat:=l.foldl de []
structure Red (l:List Nat):Prop where
 nz:∀a∈l,a≠0
 pw:l.Pairwise λa b=>hasB a (tp b)=false/\hasB b (tp a)=false
theorem bB(o:Nat)(l:List Nat)(t:Nat):clr1 (o::l) t=clr1 l (if hasB t (tp o)then t ^^^ o else t):=rfl
theorem sM{k:Nat}:∀(l:List Nat) (t:Nat),(∀o∈l,hasB o k=false)->hasB (clr1 l t) k=hasB t k
 |[],_,_=>rfl
 |o::l,t,h=>by
  rw[bB,sM l _ λa ha=>h a (.tail _ ha)]
  split
  .rw[bo,h o (.head _)];simp
  .rfl
theorem u5:∀(l:List Nat) (t:Nat),(∀a∈l,a≠0)->(l.Pairwise λa b=>hasB a (tp b)=false/\hasB b (tp a)=false)->∀o∈l,hasB (clr1 l t) (tp o)=false
 |[],_,_,_,_,h=>by cases h
 |a::l,t,nz,pw,o,ho=>by
  rw[bB];have pw':=List.pairwise_cons.mp pw;rcases List.mem_cons.mp ho with rfl|ho
  .rw[sM l _ λb hb=>(pw'.1 b hb).2]
   split
   .rename_i h
    rw[bo,h,cz (nz _ (.head _))];rfl
   .rename_i h
    exact Bool.eq_false_iff.mpr h
  .exact u5 l _ (λb hb=>nz b (.tail _ hb)) pw'.2 o ho
noncomputable def vb(x a:Nat):Bool:=par (a &&& x)==1
theorem nB(x a b:Nat):vb x (a ^^^ b)=(vb x a != vb x b):=by
 unfold vb;rw[Nat.and_xor_distrib_right,MA.jZ];have h1:=MA.ce (a &&& x);have h2:=MA.ce (b &&& x);rcases (by lia:par (a &&& x)=0\/par (a &&& x)=1)with e1|e1<;>rcases (by lia:par (b &&& x)=0\/par (b &&& x)=1)with e2|e2<;>rw[e1,e2]<;>rfl
theorem oM(x:Nat):∀(l:List Nat) (t:Nat),(∀o∈l,vb x o=false)->vb x (clr1 l t)=vb x t
 |[],_,_=>rfl
 |o::l,t,h=>by
  rw[bB,oM x l _ λa ha=>h a (.tail _ ha)]
  split
  .rw[nB,h o (.head _)];simp
  .rfl
theorem DH(x:Nat)(l:List Nat)(a:Nat):(∀o∈de l a,vb x o=false)↔(∀o∈l,vb x o=false)/\vb x a=false:=by
 unfold de;split
 .rename_i h
  constructor
  .intro g
   refine⟨g,?_⟩;rw[<-oM x l a g,h];unfold vb;rw[Nat.zero_and,MA.dD];rfl
  .exact λg=>g.1
 .constructor
  .intro g
   have gt:vb x (clr1 l a)=false:=g _ (List.mem_append_right _ (.head _));have gl:∀o∈l,vb x o=false:=λo ho=>by
    have:=g _ (List.mem_append_left _ (List.mem_map_of_mem ho));split at this
    .rw[nB,gt]at this
     simpa using this
    .exact this
   exact⟨gl,by rw[<-oM x l a gl];exact gt⟩
  .rintro⟨gl,ga⟩ o ho
   have gt:vb x (clr1 l a)=false:=by rw[oM x l a gl];exact ga
   rcases List.mem_append.mp ho with ho|ho
   .obtain⟨o',h',rfl⟩:=List.mem_map.mp ho
    split
    .rw[nB,gl o' h',gt];rfl
    .exact gl o' h'
   .rcases List.mem_singleton.mp ho with rfl
    exact gt
theorem qJ{l:List Nat}(h:Red l)(a:Nat):Red (de l a):=by
 unfold de;split
 .exact h
 .rename_i ht
  generalize hT:clr1 l a=t at ht ⊢;have no:∀o∈l,hasB t (tp o)=false:=hT ▸ u5 l a h.nz h.pw;have hh:=cz ht;have tpS:∀o∈l,tp (if hasB o (tp t)then o ^^^ t else o)=tp o:=λo ho=>by
   split
   .rename_i hs
    refine EA (by rw[bo,cz (h.nz o ho),no o ho];rfl) λj hj=>?_
    have lt:tp t<tp o:=by
     rcases Nat.lt_trichotomy (tp t) (tp o)with z|z|z
     .exact z
     .have:=no o ho;rw[<-z,hh]at this;cases this
     .rw[g7 z]at hs;cases hs
    rw[bo,g7 hj,g7 (Nat.lt_trans lt hj)];rfl
   .rfl
  have bitS:∀o∈l,∀k,hasB t k=false->hasB (if hasB o (tp t)then o ^^^ t else o) k=hasB o k:=λo ho k hk=>by
   split
   .rw[bo,hk];simp
   .rfl
  have topS:∀o∈l,hasB (if hasB o (tp t)then o ^^^ t else o) (tp t)=false:=λo ho=>by
   split
   .rename_i hs;rw[bo,hs,hh];rfl
   .rename_i hs;exact Bool.eq_false_iff.mpr hs
  refine⟨λb hb=>?_,List.pairwise_append.mpr ⟨List.pairwise_map.mpr (h.pw.imp_of_mem λ{a b} ha hb q=>⟨?_,?_⟩),List.pairwise_singleton _ _,λb hb c hc=>?_⟩⟩
  .rcases List.mem_append.mp hb with hb|hb
   .obtain⟨o,ho,rfl⟩:=List.mem_map.mp hb
    intro z;have:=bitS o ho (tp o) (no o ho);rw[z,cz (h.nz o ho),cE,Nat.zero_testBit]at this;cases this
   .rcases List.mem_singleton.mp hb with rfl
    exact ht
  .rw[tpS b hb,bitS a ha _ (no b hb)];exact q.1
  .rw[tpS a ha,bitS b hb _ (no a ha)];exact q.2
  .obtain⟨o,ho,rfl⟩:=List.mem_map.mp hb
   rcases List.mem_singleton.mp hc with rfl
   exact⟨topS o ho,by rw[tpS o ho];exact no o ho⟩
theorem sL(x:Nat):∀(ts l:List Nat),Red l->Red (ts.foldl de l)/\((∀o∈ts.foldl de l,vb x o=false)↔(∀o∈l,vb x o=false)/\∀a∈ts,vb x a=false)
 |[],l,h=>⟨h,by simp⟩
 |a::ts,l,h=>by
  have g:=sL x ts (de l a) (qJ h a);refine⟨g.1,g.2.trans ?_⟩;rw[DH];constructor
  .rintro⟨⟨g1,g2⟩,g3⟩
   exact⟨g1,λb hb=>by rcases List.mem_cons.mp hb with rfl|hb;exact g2;exact g3 b hb⟩
  .rintro⟨g1,g2⟩
   exact⟨⟨g1,g2 a (.head _)⟩,λb hb=>g2 b (.tail _ hb)⟩
theorem oJ(ts:List Nat):Red (sN ts):=(sL 0 ts [] ⟨(λ_ h=>nomatch h),.nil⟩).1
theorem BQ(x:Nat)(ts:List Nat):(∀o∈sN ts,vb x o=false)↔∀a∈ts,vb x a=false:=by
 have:=(sL x ts [] ⟨(λ_ h=>nomatch h),.nil⟩).2;refine this.trans ⟨λh=>h.2,λh=>⟨(λ_ z=>nomatch z),h⟩⟩
abbrev fI:D:=BN "<lambda> id"
abbrev fX:D:=BN "<lambda> xor"
theorem uW{δ:Dv}{i:Nat}{fs:Dv->Option (List D)}{d:D}(h:Bp δ[i]? = some fI)(hf:fs δ = some [d]):bj i fs (("<lambda> id",qq)::[]) δ = some d:=by
 unfold bj oV;rw[h];simp only[Option.bind_some,mW,hf,List.lookup_cons,beq_self_eq_true];rfl
theorem yQ{δ:Dv}{i:Nat}{fs:Dv->Option (List D)}{a b:Nat}(h:Bp δ[i]? = some fX)(hf:fs δ = some [.int (a:Int),.int (b:Int)]):bj i fs (("<lambda> xor",ou)::[]) δ = some (.int ((a ^^^ b:Nat):Int)):=by
 unfold bj oV;rw[h];simp only[Option.bind_some,mW,hf,List.lookup_cons,beq_self_eq_true];show d6 (.int (a:Int)) (.int (b:Int))=_;have:=MA.sQ a b;show some (PyData.int (Builtin.bitXor (a:Int) (b:Int)))=_;rw[this]
theorem kU{o:Nat}(h:o≠0):br [.int (o:Int)]=some (.int ((tp o:Nat):Int)):=by
 have e:((Builtin.Int.intBits (o:Int):Nat):Int)-1=(tp o:Int):=by
  unfold Builtin.Int.intBits tp;rw[if_neg (by simpa using h),Int.natAbs_natCast]
  lia
 simp[br,cc,gR,aV,e]
theorem Jm(X T:Sl)(t o:Nat)(y:Sl)(ho:o≠0):cg [X,.fz fI,.fz fX,T,.fz (.int (t:Int)),.fz (.int (o:Int)),y]=some (.nx,[X,.fz fI,.fz fX,T,.fz (.int ((if hasB t (tp o)then t ^^^ o else t:Nat):Int)),.fz (.int (o:Int)),y]):=by
 have hb:(ob (VL.os (ac (bj 1 (ac (oV 4) (ak)) (("<lambda> id",qq)::[])) (ac (VL.os (ac (bj 1 (ac (oV 5) (ak)) (("<lambda> id",qq)::[])) (ak)) br) (ak))) cJ)) [X,.fz fI,.fz fX,T,.fz (.int (t:Int)),.fz (.int (o:Int)),y]=some (hasB t (tp o)):=by
  have e1:bj 1 (ac (oV 4) (ak)) (("<lambda> id",qq)::[]) [X,.fz fI,.fz fX,T,.fz (.int (t:Int)),.fz (.int (o:Int)),y]=some (.int (t:Int)):=uW rfl rfl;have e2:bj 1 (ac (oV 5) (ak)) (("<lambda> id",qq)::[]) [X,.fz fI,.fz fX,T,.fz (.int (t:Int)),.fz (.int (o:Int)),y]=some (.int (o:Int)):=uW rfl rfl;simp only[ob,VL.os,ac,ak,e1,e2,Option.bind_some,kU ho,gK];rfl
 cases h:hasB t (tp o)with
 |true=>
  rw[h]at hb;unfold cg;rw[gu hb];have e3:bj 2 (ac (oV 4) (ac (oV 5) (ak))) (("<lambda> xor",ou)::[]) [X,.fz fI,.fz fX,T,.fz (.int (t:Int)),.fz (.int (o:Int)),y]=some (.int ((t ^^^ o:Nat):Int)):=yQ rfl rfl;unfold aE;rw[e3];rfl
 |false=>
  rw[h]at hb;unfold cg;rw[ee hb];rfl
theorem qO(X T:Sl)(y:Sl):∀(l:List Nat) (t:Nat) (z:Sl),(∀o∈l,o≠0)->∃z',loop (gN 5) cg (ae l) [X,.fz fI,.fz fX,T,.fz (.int (t:Int)),z,y]=some (.nx,[X,.fz fI,.fz fX,T,.fz (.int ((clr1 l t:Nat):Int)),z',y])
 |[],t,z,_=>⟨z,rfl⟩
 |o::l,t,z,h=>by
  obtain⟨z',e⟩:=qO X T y l (if hasB t (tp o)then t ^^^ o else t) (.fz (.int (o:Int))) λa ha=>h a (.tail _ ha)
  refine⟨z',?_⟩;have s:=Jm X T t o y (h o (.head _));show((gN 5 (.int (o:Int)) [X,.fz fI,.fz fX,T,.fz (.int (t:Int)),z,y]).bind λδ1=>(cg δ1).bind _)=_
  simp only[gN,Option.bind_some,List.set_cons_succ,List.set_cons_zero];rw[s];exact e
theorem Jk(X z5:Sl)(told:List Nat)(t top:Nat)(hl:told.length<=1000):gF [X,.fz fI,.fz fX,.fz (.list (ae told)),.fz (.int (t:Int)),z5,.fz (.int (top:Int))]=some (.list (ae (told.map λo=>if hasB o top then o ^^^ t else o))):=by
 have e:ae (told.map λo=>if hasB o top then o ^^^ t else o)=told.map λo=>PyData.int ((if hasB o top then o ^^^ t else o:Nat):Int):=by unfold ae;rw[List.map_map];rfl
 rw[e];unfold gF;refine qE (h:=λo:Nat=>PyData.int (o:Int)) (xs:=told) rfl (by lia) λo _=>?_
 show GE _ _ _ [.fz (.int (o:Int)),.fz fI,.fz fX,.fz (.int (t:Int)),.fz (.int (top:Int))]=_;have e1:bj 1 (ac (oV 0) (ak)) (("<lambda> id",qq)::[]) [.fz (.int (o:Int)),.fz fI,.fz fX,.fz (.int (t:Int)),.fz (.int (top:Int))]=some (.int (o:Int)):=uW rfl rfl;have e3:bj 2 (ac (oV 0) (ac (oV 3) (ak))) (("<lambda> xor",ou)::[]) [.fz (.int (o:Int)),.fz fI,.fz fX,.fz (.int (t:Int)),.fz (.int (top:Int))]=some (.int ((o ^^^ t:Nat):Int)):=yQ rfl rfl;have e2:oV 4 [.fz (.int (o:Int)),.fz fI,.fz fX,.fz (.int (t:Int)),.fz (.int (top:Int))]=some (.int (top:Int)):=rfl;have e0:oV 0 [.fz (.int (o:Int)),.fz fI,.fz fX,.fz (.int (t:Int)),.fz (.int (top:Int))]=some (.int (o:Int)):=rfl;have hb:ob (VL.os (ac (bj 1 (ac (oV 0) (ak)) (("<lambda> id",qq)::[])) (ac (oV 4) (ak))) cJ) [.fz (.int (o:Int)),.fz fI,.fz fX,.fz (.int (t:Int)),.fz (.int (top:Int))]=some (hasB o top):=by
  simp only[ob,VL.os,ac,ak,e1,e2,Option.bind_some,gK];rfl
 unfold GE;rw[hb];cases h:hasB o top with
 |true=>exact e3
 |false=>exact e0
def TS(S:Sl)(told:List Nat):Prop:=S=.ow (ae told)\/S=.fz (.list (ae told))
theorem Jl(X S:Sl)(told:List Nat)(a:Nat)(z5 z6:Sl)(hS:TS S told)(nz:∀o∈told,o≠0)(hl:told.length<=1000):∃S' y5 y6,TS S' (de told a)/\dF [X,.fz fI,.fz fX,S,.fz (.int (a:Int)),z5,z6]=some (.nx,[X,.fz fI,.fz fX,S',.fz (.int ((clr1 told a:Nat):Int)),y5,y6]):=by
 have hd:qC 3 [X,.fz fI,.fz fX,S,.fz (.int (a:Int)),z5,z6]=[X,.fz fI,.fz fX,.fz (.list (ae told)),.fz (.int (a:Int)),z5,z6]:=by rcases hS with rfl|rfl<;>rfl
 obtain⟨z',e⟩:=qO X (.fz (.list (ae told))) z6 told a z5 nz;have e1:(λδ=>(df (oI (oV 3) aY) (gN 5) (cg)) (qC 3 δ)) [X,.fz fI,.fz fX,S,.fz (.int (a:Int)),z5,z6]=some (.nx,[X,.fz fI,.fz fX,.fz (.list (ae told)),.fz (.int ((clr1 told a:Nat):Int)),z',z6]):=by
  show df _ _ _ (qC 3 _)=_;rw[hd];unfold df;rw[show(oI (oV 3) aY) [X,.fz fI,.fz fX,.fz (.list (ae told)),.fz (.int (a:Int)),z5,z6]=some (ae told)from rfl];exact e
 have c1:bj 1 (ac (oV 4) (ak)) (("<lambda> id",qq)::[]) [X,.fz fI,.fz fX,.fz (.list (ae told)),.fz (.int ((clr1 told a:Nat):Int)),z',z6]=some (.int ((clr1 told a:Nat):Int)):=uW rfl rfl;unfold dF;by_cases ht:clr1 told a=0
 .refine⟨.fz (.list (ae told)),z',z6,.inr (by unfold de;rw[if_pos ht]),(aN e1).trans ((ee ?_).trans rfl)⟩
  simp only[ob,o2,c1,ht,oC,Option.bind_some];rfl
 .refine⟨.ow (ae (de told a)),z',.fz (.int ((tp (clr1 told a):Nat):Int)),?_,(aN e1).trans ((gu ?_).trans ((aN (δ':=[X,.fz fI,.fz fX,.fz (.list (ae told)),.fz (.int ((clr1 told a:Nat):Int)),z',.fz (.int ((tp (clr1 told a):Nat):Int))]) ?_).trans ((aN (δ':=[X,.fz fI,.fz fX,.ow (ae (told.map λo=>if hasB o (tp (clr1 told a))then o ^^^ clr1 told a else o)),.fz (.int ((clr1 told a:Nat):Int)),z',.fz (.int ((tp (clr1 told a):Nat):Int))]) ?_).trans ?_)))⟩
  .exact .inl rfl
  .simp only[ob,o2,c1,oC,Option.bind_some]
   have:(((clr1 told a:Nat):Int)==0)=false:=by simpa using ht
   simp[ht]
  .unfold aE VL.os
   simp only[ac,ak,c1,Option.bind_some,kU ht];rfl
  .unfold mD GD
   rw[Jk X z' told (clr1 told a) (tp (clr1 told a)) hl];rfl
  .unfold de
   rw[if_neg ht,mK];have hl':(ae (told.map λo=>if hasB o (tp (clr1 told a))then o ^^^ clr1 told a else o)).length<sizeLine:=by rw[ba,List.length_map];unfold sizeLine;lia
   simp[xm,hl'];rfl
theorem qK(l:List Nat)(a:Nat):(de l a).length<=l.length+1:=by
 unfold de;split
 .lia
 .simp
theorem qN(X:Sl):∀(ts told:List Nat) (S z4 z5 z6:Sl),TS S told->Red told->told.length+ts.length<=1000->∃S' y4 y5 y6,TS S' (ts.foldl de told)/\loop (gN 4) dF (ae ts) [X,.fz fI,.fz fX,S,z4,z5,z6]=some (.nx,[X,.fz fI,.fz fX,S',y4,y5,y6])
 |[],told,S,z4,z5,z6,hS,_,_=>⟨S,z4,z5,z6,hS,rfl⟩
 |a::ts,told,S,z4,z5,z6,hS,hr,hl=>by
  rw[List.length_cons]at hl;obtain⟨S1,y5,y6,h1,e1⟩:=Jl X S told a z5 z6 hS hr.nz (by lia);obtain⟨S2,w4,w5,w6,h2,e2⟩:=qN X ts (de told a) S1 (.fz (.int ((clr1 told a:Nat):Int))) y5 y6 h1 (qJ hr a) (by have:=qK told a;lia);refine⟨S2,w4,w5,w6,h2,?_⟩;show((gN 4 (.int (a:Int)) [X,.fz fI,.fz fX,S,z4,z5,z6]).bind λδ1=>(dF δ1).bind _)=_
  simp only[gN,Option.bind_some,List.set_cons_succ,List.set_cons_zero];rw[e1];exact e2
theorem sO(ts:List Nat)(hl:ts.length<=1000):cr [.tuple (ae ts),fI,fX]=some (.list (ae (sN ts))):=by
 obtain⟨S,y4,y5,y6,hS,e⟩:=qN (.fz (.tuple (ae ts))) ts [] (.ow []) .un .un .un (.inl rfl) ⟨(λ_ h=>nomatch h),.nil⟩ (by simpa using hl);have hd:qC 3 [.fz (.tuple (ae ts)),.fz fI,.fz fX,S,y4,y5,y6]=[.fz (.tuple (ae ts)),.fz fI,.fz fX,.fz (.list (ae (sN ts))),y4,y5,y6]:=by rcases hS with rfl|rfl<;>rfl
 refine lS rfl (δ':=[.fz (.tuple (ae ts)),.fz fI,.fz fX,.fz (.list (ae (sN ts))),y4,y5,y6]) ?_;unfold jq;refine(aN (δ':=[.fz (.tuple (ae ts)),.fz fI,.fz fX,.ow [],.un,.un,.un]) rfl).trans ((aN (δ':=[.fz (.tuple (ae ts)),.fz fI,.fz fX,S,y4,y5,y6]) ?_).trans ?_)
 .unfold df
  rw[show(oI (oV 0) aY) [.fz (.tuple (ae ts)),.fz fI,.fz fX,.ow [],.un,.un,.un]=some (ae ts)from rfl];exact e
 .show(bA (oV 3)) (qC 3 _)=_
  rw[hd];rfl
theorem yr(a:Nat){k:Nat}(hk:1<=k):hasB (hb a) k=hasB a k:=by
 obtain⟨j,rfl⟩:∃j,k=j+1:=⟨k-1,by lia⟩;unfold hasB hb;have e:(a-a%2)/2^(j+1)=a/2^(j+1):=by
  rw[Nat.pow_succ,Nat.mul_comm,<-Nat.div_div_eq_div_mul,<-Nat.div_div_eq_div_mul,show(a-a%2)/2=a/2 by lia]
 rw[e]
theorem tS{x:Nat}(bit ch:Nat)(h:vb x ch=false):∀ps:As,aZ x (ps.map (xb bit ch))=aZ x (upI ps)
 |[]=>rfl
 |p::ps=>by
  show(xb bit ch p).2*((par ((xb bit ch p).1 &&& x):Nat):Int)+aZ x (ps.map (xb bit ch))=(p.2:Int)*((par (p.1 &&& x):Nat):Int)+aZ x (upI ps);rw[tS bit ch h ps];unfold xb;dsimp only;split
  .have h0:par (ch &&& x)=0:=by
    have:=MA.ce (ch &&& x);unfold vb at h;have:¬par (ch &&& x)=1:=by simpa using h
    lia
   have:=MA.ce (p.1 &&& x);rw[CP,h0,Nat.add_zero,Nat.mod_eq_of_lt this]
  .rfl
structure Stp (w l:Nat) (hv:Int) (ts:List Nat) (n m:Nat) (c:Nat) (ps:As) (T:Nat) (R:As) (tie:Nat):Prop where
 sm:Sm w l hv T R ts [] n m
 val:∀x,x%2=1->vb x tie=false->((T:Int)+aZ x (upI R))%8=((c:Int)+aZ x (upI ps))%8
 out:1<=tp tie->∀p∈R,hasB p.1 (tp tie)=false
 kp:∀k,1<=k->(∀p∈ps,hasB p.1 k=false)->hasB tie k=false->∀p∈R,hasB p.1 k=false
 len:R.length<=ps.length
theorem zL{w l:Nat}{hv:Int}{c:Nat}{ps:As}{ts:List Nat}{n m:Nat}(S:Sm w l hv c ps ts [] n m)(hm:m<=400)(hn:n<=100)(tie:Nat)(h0:tie≠0)(ht:tie<fj)(y1:Sl):
  ∃T R,Stp w l hv ts n m c ps T R tie/\bS [.fz (oneD w l hv c (upI ps) ts []),y1,.fz (.int (tie:Int))]=some (.nx,[.fz (oneD w l hv T (upI R) ts []),y1,.fz (.int (tie:Int))]):=by
 obtain⟨T,R,hT,rr,hl,e⟩:=rG S hm hn (tp tie) tie;have src:∀p∈R,∃p0∈ps,p.1=hb (xb (tp tie) tie p0).1:=λp hp=>by
  have h1:=rr.nz p hp;have h2:=rr.val p.1 h1.1;rw[eE (fJ rr.pk) hp]at h2;have h2:(p.2:Int)=kv p.1 (ps.map (xb (tp tie) tie))%8:=h2;obtain⟨q,hq,e⟩:=r9 (k:=p.1) (Q:=ps.map (xb (tp tie) tie)) (by lia);obtain⟨p0,hp0,rfl⟩:=List.mem_map.mp hq;exact⟨p0,hp0,e.symm⟩
 have pe:=EY rr (Et (λp hp=>(S.pe p hp).2.2.1) ht)
 refine⟨T,R,⟨⟨S.w1,S.w3,S.l2,S.v1,S.v2,by lia,rr.pk,pe,Nat.le_trans hl S.pl,S.tk,S.te,S.tl,S.hl,S.pw,S.hb⟩,λx hx hv'=>?_,λh1 p hp=>?_,λk hk hps htk p hp=>?_,hl⟩,?_⟩
 .rw[xv rr (c:=c) (by lia) x hx,tS _ _ hv']
 .obtain⟨p0,_,e0⟩:=src p hp
  rw[e0,yr _ h1];unfold xb;dsimp only;split
  .rename_i hs
   rw[bo,hs,cz h0];rfl
  .rename_i hs
   exact Bool.eq_false_iff.mpr hs
 .obtain⟨p0,hp0,e0⟩:=src p hp
  rw[e0,yr _ hk];unfold xb;dsimp only;split
  .rw[bo,hps p0 hp0,htk];rfl
  .exact hps p0 hp0
 .have e':cq [oneD w l hv c (upI ps) ts [],.int ((tp tie:Nat):Int),.int (tie:Int)]=some (oneD w l hv T (upI R) ts []):=e
  have g:=kU h0;generalize oneD w l hv c (upI ps) ts []=O at e' ⊢;generalize oneD w l hv T (upI R) ts []=O' at e' ⊢;simp[bS,g,e']
theorem tF{w l:Nat}{hv:Int}{ts:List Nat}{n m:Nat}(hm:m<=400)(hn:n<=100)(y1:Sl):∀(rs:List Nat) (c:Nat) (ps:As) (y2:Sl),Sm w l hv c ps ts [] n m->(∀t∈rs,t≠0/\t<fj/\1<=tp t)->(rs.Pairwise λa b=>hasB a (tp b)=false/\hasB b (tp a)=false)->
  ∃T R y2',Sm w l hv T R ts [] n m/\(∀x,x%2=1->(∀t∈rs,vb x t=false)->((T:Int)+aZ x (upI R))%8=((c:Int)+aZ x (upI ps))%8)/\(∀t∈rs,∀p∈R,hasB p.1 (tp t)=false)/\
   (∀k,1<=k->(∀p∈ps,hasB p.1 k=false)->(∀t∈rs,hasB t k=false)->∀p∈R,hasB p.1 k=false)/\R.length<=ps.length/\
   loop (gN 2) bS (ae rs) [.fz (oneD w l hv c (upI ps) ts []),y1,y2]=some (.nx,[.fz (oneD w l hv T (upI R) ts []),y1,y2'])
 |[],c,ps,y2,S,_,_=>⟨c,ps,y2,S,(λ_ _ _=>rfl),(λ_ h=>nomatch h),(λ_ _ h _=>h),Nat.le_refl _,rfl⟩
 |t::rs,c,ps,y2,S,hr,pw=>by
  obtain⟨h0,hB,h1⟩:=hr t (.head _);have pw':=List.pairwise_cons.mp pw;obtain⟨T,R,P,e⟩:=zL S hm hn t h0 hB y1;obtain⟨T2,R2,y2',S2,v2,o2',k2,l2,e2⟩:=tF hm hn y1 rs T R (.fz (.int (t:Int))) P.sm (λa ha=>hr a (.tail _ ha)) pw'.2
  refine⟨T2,R2,y2',S2,λx hx hv'=>?_,λa ha=>?_,λk hk hp ht=>?_,Nat.le_trans l2 P.len,?_⟩
  .rw[v2 x hx λa ha=>hv' a (.tail _ ha),P.val x hx (hv' t (.head _))]
  .rcases List.mem_cons.mp ha with rfl|ha
   .exact k2 _ h1 (P.out h1) λb hb=>(pw'.1 b hb).2
   .exact o2' a ha
  .exact k2 k hk (P.kp k hk hp (ht t (.head _))) λa ha=>ht a (.tail _ ha)
  .show((gN 2 (.int (t:Int)) [.fz (oneD w l hv c (upI ps) ts []),y1,y2]).bind λδ1=>(bS δ1).bind _)=_
   simp only[gN,Option.bind_some,List.set_cons_succ,List.set_cons_zero];rw[e];exact e2
theorem yU{k:Nat}:∀(l:List Nat) (t:Nat),(∀o∈l,hasB o k=false)->hasB t k=false->hasB (clr1 l t) k=false:=λl t h ht=>by rw[sM l t h,ht]
theorem yT{k:Nat}{l:List Nat}{a:Nat}(h:∀o∈l,hasB o k=false)(ha:hasB a k=false):∀o∈de l a,hasB o k=false:=λo ho=>by
 have hc:=yU l a h ha;unfold de at ho;split at ho
 .exact h o ho
 .rcases List.mem_append.mp ho with ho|ho
  .obtain⟨b,hb,rfl⟩:=List.mem_map.mp ho
   split
   .rw[bo,h b hb,hc];rfl
   .exact h b hb
  .rcases List.mem_singleton.mp ho with rfl
   exact hc
theorem uY{k:Nat}:∀(ts l:List Nat),(∀o∈l,hasB o k=false)->(∀t∈ts,hasB t k=false)->∀o∈ts.foldl de l,hasB o k=false
 |[],_,h,_=>h
 |a::ts,l,h,ht=>uY ts (de l a) (yT h (ht a (.head _))) λt h'=>ht t (.tail _ h')
theorem oK:∀(ts l:List Nat),(ts.foldl de l).length<=l.length+ts.length
 |[],l=>by simp
 |a::ts,l=>by
  have:=oK ts (de l a);have:=qK l a;rw[List.foldl_cons,List.length_cons]
  lia
theorem Cp{l:List Nat}(h:Red l):l.Nodup:=by
 rw[List.nodup_iff_pairwise_ne];refine h.pw.imp_of_mem λ{a b} ha hb q z=>?_
 subst z;rw[cz (h.nz a ha)]at q;cases q.1
theorem oi{n N:Nat}(h:∀k,N<=k->hasB n k=false):n<2^N:=by
 refine Nat.lt_of_not_le λz=>?_
 have hn:n≠0:=by have:=Nat.two_pow_pos N;lia
 have:N<=tp n:=by unfold tp;exact(Nat.le_log2 hn).mpr z
 have:=h _ this;rw[cz hn]at this;cases this
theorem lB{n N k:Nat}(h:n<2^N)(hk:N<=k):hasB n k=false:=by
 cases e:hasB n k with
 |false=>rfl
 |true=>have:=yt h e;lia
theorem mx{l:List Nat}(h:l.Nodup)(h64:l.length<64):∃rs:List Nat,rs.Perm l/\rs.Pairwise (· < ·)/\gn (.list (ae l))=some (.list (ae rs)):=by
 obtain⟨rs,e,p,pw⟩:=hV l h;refine⟨rs,p,pw,?_⟩;have e1:sr (ae l)=some (l.map cI):=kO l;have e2:(rs.map cI).map PyData.int=ae rs:=qb rs;have h0:aY (.list (ae l))=some (ae l):=rfl;simp only[gn,h0,Option.bind_some,e1,e,e2,List.length_map,if_pos h64]
theorem uf{n:Nat}:∀(T:As) (t:Nat),t<2^n->(∀p∈T,p.1<2^n)->T.foldl (λt p=>t ||| p.1) t<2^n
 |[],t,h,_=>h
 |p::T,t,h,hp=>uf T (t ||| p.1) (Nat.or_lt_two_pow h (hp p List.mem_cons_self)) λq hq=>hp q (List.mem_cons_of_mem _ hq)
structure Stl (w l:Nat) (hv:Int) (c:Nat) (ps:As) (ts:List Nat) (m N:Nat) (rs:List Nat) (T:Nat) (R:As):Prop where
 pm:rs.Perm (sN ts)
 up:rs.Pairwise (· < ·)
 sm:Sm w l hv T R ts [] 0 m
 val:∀x,x%2=1->(∀t∈rs,vb x t=false)->((T:Int)+aZ x (upI R))%8=((c:Int)+aZ x (upI ps))%8
 out:∀t∈rs,∀p∈R,hasB p.1 (tp t)=false
 lt:∀p∈R,p.1<2^N
theorem eI{w l:Nat}{hv:Int}{c:Nat}{ps:As}{ts:List Nat}{m N:Nat}(S:Sm w l hv c ps ts [] 0 m)(hm:m<=400)(N1:1<=N)(N5:N<=10)(hp:∀p∈ps,p.1<2^N)(ht:∀t∈ts,t<2^N)(t64:ts.length<64):
  (1∈sN ts/\ao [oneD w l hv c (upI ps) ts []]=some .none)\/
  (1∉sN ts/\∃rs T R,Stl w l hv c ps ts m N rs T R/\ao [oneD w l hv c (upI ps) ts []]=some (.tuple [.tuple [.int w,.int l],.int hv,.int T,.tuple (d5 (fo R (bts (orH R)))),.tuple (ae rs)])):=by
 have red:=oJ ts;have tl:=S.tl;have lc:(sN ts).length<=ts.length:=by have:=oK ts [];simpa[sN]using this
 obtain⟨rs,pm,up,es⟩:=mx (Cp red) (by lia);have ec:=sO ts (by lia);have e5:(ob (o2 (o2 (oV 0) (oC (.int 5)) aD) (VL.os (ak) aU) neD)) [.fz (oneD w l hv c (upI ps) ts []),.un,.un]=some false:=rfl;have e1:aE 1 (o1 (VL.os (ac (o2 (oV 0) (oC (.int 4)) aD) (ac (oC fI) (ac (oC fX) (ak)))) cr) gn) [.fz (oneD w l hv c (upI ps) ts []),.un,.un]=some (.nx,[.fz (oneD w l hv c (upI ps) ts []),.fz (.list (ae rs)),.un]):=by
  have:(o1 (VL.os (ac (o2 (oV 0) (oC (.int 4)) aD) (ac (oC fI) (ac (oC fX) (ak)))) cr) gn) [.fz (oneD w l hv c (upI ps) ts []),.un,.un]=some (.list (ae rs)):=by
   show(cr [.tuple (ae ts),fI,fX]).bind gn=_;rw[ec];exact es
  unfold aE;rw[this];rfl
 have e2:(ob (o2 (oC (.int 1)) (oV 1) (wE false))) [.fz (oneD w l hv c (upI ps) ts []),.fz (.list (ae rs)),.un]=some (decide (1∈rs)):=by
  show(wE false (.int ((1:Nat):Int)) (.list (ae rs))).bind asB=_;rw[BK];rfl
 by_cases h1:1∈rs
 .refine .inl ⟨pm.mem_iff.mp h1,lS rfl (δ':=[.fz (oneD w l hv c (upI ps) ts []),.fz (.list (ae rs)),.un]) ?_⟩
  unfold cX;refine(aN (δ':=[.fz (oneD w l hv c (upI ps) ts []),.un,.un]) (ee e5)).trans ((aN e1).trans (C1 ((gu ?_).trans rfl)));rw[e2,decide_eq_true h1]
 .refine .inr ⟨λz=>h1 (pm.mem_iff.mpr z),?_⟩
  have tb:∀t∈rs,∀k,N<=k->hasB t k=false:=λt h k hk=>uY ts [] (λ_ z=>nomatch z) (λa ha=>lB (ht a ha) hk) t (pm.mem_iff.mp h)
  have big:(2:Nat)^N<=fj:=Nat.pow_le_pow_right (by decide) (by lia);have hr:∀t∈rs,t≠0/\t<fj/\1<=tp t:=λt h=>by
   have n0:=red.nz t (pm.mem_iff.mp h);refine⟨n0,Nat.lt_of_lt_of_le (oi (tb t h)) big,?_⟩;refine Nat.pos_of_ne_zero λz=>?_
   have:t=1:=by
    have h2:t<2^1:=oi λk hk=>g7 (by lia)
    lia
   exact h1 (this ▸ h)
  have pw:rs.Pairwise λa b=>hasB a (tp b)=false/\hasB b (tp a)=false:=(pm.pairwise_iff λ{a b} q=>⟨q.2,q.1⟩).mpr red.pw
  obtain⟨T,R,y2,S2,v2,o2',k2,l2,e3⟩:=tF hm (by decide) (.fz (.list (ae rs))) rs c ps .un S hr pw;have rl:∀p∈R,p.1<2^N:=λp hp'=>oi λk hk=>k2 k (by lia) (λp hp'=>lB (hp p hp') hk) (λt h=>tb t h k hk) p hp'
  have ol:orH R<2^N:=uf R 0 (Nat.two_pow_pos N) rl;have bl:(bts (orH R)).length<=10:=by
   have h1:(bts (orH R)).length<=Builtin.Int.intBits (orH R:Int):=by
    unfold bts;exact Nat.le_trans (List.length_filter_le _ _) (by rw[List.length_range];exact Nat.le_refl _)
   have h2:Builtin.Int.intBits (orH R:Int)<=N:=by
    unfold Builtin.Int.intBits;split
    .lia
    .rename_i z
     rw[Int.natAbs_natCast];have n0:orH R≠0:=by simpa using z
     exact(Nat.log2_lt n0).mpr ol
   lia
  have fe:=AL R (by have:=S2.pl;lia) bl (Nat.lt_of_lt_of_le ol (Nat.pow_le_pow_right (by decide) (by lia)));refine⟨rs,T,R,⟨pm,up,S2,v2,o2',rl⟩,lS rfl (δ':=[.fz (oneD w l hv T (upI R) ts []),.fz (.list (ae rs)),y2]) ?_⟩;unfold cX;refine(aN (δ':=[.fz (oneD w l hv c (upI ps) ts []),.un,.un]) (ee e5)).trans ((aN e1).trans ((aN (δ':=[.fz (oneD w l hv c (upI ps) ts []),.fz (.list (ae rs)),.un]) ((ee ?_).trans rfl)).trans ((aN (δ':=[.fz (oneD w l hv T (upI R) ts []),.fz (.list (ae rs)),y2]) ?_).trans ?_)))
  .rw[e2,decide_eq_false h1]
  .unfold df
   rw[show(oI (oV 1) aY) [.fz (oneD w l hv c (upI ps) ts []),.fz (.list (ae rs)),.un]=some (ae rs)from rfl];exact e3
  .have o3:aD (oneD w l hv T (upI R) ts []) (.int 3)=some (.tuple (R.map pD)):=by rw[kw,g6]
   have tq:bi [.list (ae rs)]=some (.tuple (ae rs)):=rfl;simp[bA,xG,mH,mG,o3,fe,tq,aU,sizeLine]
inductive Sp (l:List Nat):Nat->Prop
 |zero:Sp l 0
 |add {a b:Nat}:a∈l->Sp l b->Sp l (a ^^^ b)
theorem Sp.one{l:List Nat}{a:Nat}(h:a∈l):Sp l a:=by
 have:=Sp.add h Sp.zero
 rwa [Nat.xor_zero]at this
theorem Sp.xor{l:List Nat}{a b:Nat}(ha:Sp l a)(hb:Sp l b):Sp l (a ^^^ b):=by
 induction ha with
 |zero=>rw[Nat.zero_xor];exact hb
 |add h _ ih=>rw[Nat.xor_assoc];exact .add h ih
theorem Sp.sub{l l':List Nat}(h:∀a∈l,Sp l' a){a:Nat}(ha:Sp l a):Sp l' a:=by
 induction ha with
 |zero=>exact .zero
 |add g _ ih=>exact(h _ g).xor ih
theorem eB(a b:Nat):a ^^^ b ^^^ b=a:=by rw[Nat.xor_assoc,Nat.xor_self,Nat.xor_zero]
theorem u4(l:List Nat):∀(told:List Nat) (t:Nat),(∀o∈told,Sp l o)->∃s,Sp l s/\clr1 told t=t ^^^ s
 |[],t,_=>⟨0,.zero,(Nat.xor_zero t).symm⟩
 |o::told,t,h=>by
  rw[bB];obtain⟨s,hs,e⟩:=u4 l told (if hasB t (tp o)then t ^^^ o else t) λa ha=>h a (.tail _ ha)
  split at e
  .rename_i q
   exact⟨o ^^^ s,(h o (.head _)).xor hs,by rw[if_pos q,e,Nat.xor_assoc]⟩
  .rename_i q
   exact⟨s,hs,by rw[if_neg q,e]⟩
theorem uZ(l:List Nat)(a b:Nat):Sp (de l a) b↔Sp (a::l) b:=by
 obtain⟨s,hs,e⟩:=u4 l l a λo ho=>.one ho
 have up:∀{c},Sp l c->Sp (a::l) c:=λh=>h.sub λo ho=>.one (.tail _ ho)
 have ht:Sp (a::l) (clr1 l a):=by rw[e];exact(Sp.one (.head _)).xor (up hs)
 unfold de;split
 .rename_i z
  refine⟨up,λh=>h.sub λo ho=>?_⟩
  rcases List.mem_cons.mp ho with rfl|ho
  .have:o=s:=by
    have q:=e.symm.trans z;have:=eB o s;rw[q,Nat.zero_xor]at this;exact this.symm
   rw[this];exact hs
  .exact .one ho
 .generalize clr1 l a=t at *
  constructor
  .intro h
   refine h.sub λo ho=>?_
   rcases List.mem_append.mp ho with ho|ho
   .obtain⟨o',h',rfl⟩:=List.mem_map.mp ho
    split
    .exact(Sp.one (.tail _ h')).xor ht
    .exact .one (.tail _ h')
   .rw[List.mem_singleton.mp ho];exact ht
  .intro h
   have t':Sp (l.map (λo=>if hasB o (tp t)then o ^^^ t else o)++[t]) t:=.one (List.mem_append_right _ (.head _))
   have l':∀o∈l,Sp (l.map (λo=>if hasB o (tp t)then o ^^^ t else o)++[t]) o:=λo ho=>by
    have q:Sp (l.map (λo=>if hasB o (tp t)then o ^^^ t else o)++[t]) (if hasB o (tp t)then o ^^^ t else o):=.one (List.mem_append_left _ (List.mem_map_of_mem ho))
    split at q
    .have:=q.xor t'
     rwa [eB]at this
    .exact q
   refine h.sub λo ho=>?_
   rcases List.mem_cons.mp ho with z|ho
   .have q:=t'.xor (hs.sub l')
    have y:t ^^^ s=o:=by rw[e,eB];exact z.symm
    rwa [y]at q
   .exact l' o ho
theorem yS:∀(ts l:List Nat) (b:Nat),Sp (ts.foldl de l) b↔Sp (ts++l) b
 |[],l,b=>Iff.rfl
 |t::ts,l,b=>by
  rw[List.foldl_cons,yS ts];constructor
  .intro h
   refine h.sub λo ho=>?_
   rcases List.mem_append.mp ho with ho|ho
   .exact .one (List.mem_append_left _ (.tail _ ho))
   .refine((uZ l t o).mp (.one ho)).sub λc hc=>.one ?_
    rcases List.mem_cons.mp hc with rfl|hc
    .exact List.mem_append_left _ (.head _)
    .exact List.mem_append_right _ hc
  .intro h
   have inl:∀c,Sp (t::l) c->Sp (ts++de l t) c:=λc hc=>((uZ l t c).mpr hc).sub λo ho=>.one (List.mem_append_right _ ho)
   refine h.sub λo ho=>?_
   rcases List.mem_append.mp ho with ho|ho
   .rcases List.mem_cons.mp ho with rfl|ho
    .exact inl _ (.one (.head _))
    .exact .one (List.mem_append_left _ ho)
   .exact inl _ (.one (.tail _ ho))
theorem qI(ts:List Nat)(b:Nat):Sp (sN ts) b↔Sp ts b:=by
 have:=yS ts [] b
 rwa [List.append_nil]at this
theorem mU(k:Nat):hasB 0 k=false:=by rw[cE,Nat.zero_testBit]
theorem qM:∀(l:List Nat) (a b:Nat),clr1 l (a ^^^ b)=clr1 l a ^^^ clr1 l b
 |[],_,_=>rfl
 |o::l,a,b=>by
  rw[bB,bB,bB,<-qM l];congr 1;rw[bo];cases h1:hasB a (tp o)<;>cases h2:hasB b (tp o)<;>simp
  .rw[Nat.xor_assoc]
  .rw[Nat.xor_assoc,Nat.xor_assoc,Nat.xor_comm o b]
  .rw[Nat.xor_assoc,<-Nat.xor_assoc o b o,Nat.xor_comm o b,eB]
theorem m8(l:List Nat):clr1 l 0=0:=by
 induction l with
 |nil=>rfl
 |cons o l ih=>rw[bB,mU];exact ih
theorem m9:∀(l:List Nat) (t:Nat),(∀o∈l,hasB t (tp o)=false)->clr1 l t=t
 |[],_,_=>rfl
 |o::l,t,h=>by
  rw[bB,h o (.head _)];exact m9 l t λa ha=>h a (.tail _ ha)
theorem qL:∀(l:List Nat),(∀a∈l,a≠0)->(l.Pairwise λa b=>hasB a (tp b)=false/\hasB b (tp a)=false)->∀o∈l,clr1 l o=0
 |[],_,_,_,h=>nomatch h
 |a::l,nz,pw,o,ho=>by
  have pw':=List.pairwise_cons.mp pw;rw[bB];rcases List.mem_cons.mp ho with rfl|ho
  .rw[cz (nz _ (.head _)),if_pos rfl,Nat.xor_self,m8]
  .rw[(pw'.1 o ho).2]
   exact qL l (λb hb=>nz b (.tail _ hb)) pw'.2 o ho
theorem tH{R:List Nat}(r:Red R){s:Nat}(h:Sp R s):clr1 R s=0:=by
 induction h with
 |zero=>exact m8 R
 |add g _ ih=>rw[qM,ih,qL R r.nz r.pw _ g];rfl
theorem vp{R:List Nat}(r:Red R){s:Nat}(h:Sp R s)(g:∀o∈R,hasB s (tp o)=false):s=0:=by
 rw[<-m9 R s g];exact tH r h
theorem lz{k:Nat}:∀(l:List Nat) (t:Nat),hasB t k=true->(∀j,k<j->hasB t j=false)->(∀o∈l,o≠0/\tp o≠k)->hasB (clr1 l t) k=true
 |[],t,h,_,_=>h
 |o::l,t,h,g,q=>by
  rw[bB];have qo:=q o (.head _);split
  .rename_i z
   have lt:tp o<k:=by
    rcases Nat.lt_trichotomy (tp o) k with y|y|y
    .exact y
    .exact absurd y qo.2
    .rw[g _ y]at z;cases z
   refine lz l _ (by rw[bo,h,g7 lt];rfl) (λj hj=>?_) λa ha=>q a (.tail _ ha)
   rw[bo,g j hj,g7 (Nat.lt_trans lt hj)];rfl
  .exact lz l t h g λa ha=>q a (.tail _ ha)
theorem tG{R:List Nat}(r:Red R){s:Nat}(h:Sp R s)(h0:s≠0):∃o∈R,tp o=tp s:=by
 rcases Classical.em (∃o∈R,tp o=tp s)with q|q
 .exact q
 .have:=lz R s (cz h0) (λj hj=>g7 hj) λo ho=>⟨r.nz o ho,λz=>q ⟨o,ho,z⟩⟩
  rw[tH r h,mU]at this;cases this
theorem nS{R R':List Nat}(r:Red R)(r':Red R')(h:∀a,Sp R a↔Sp R' a){a:Nat}(ha:a∈R):a∈R':=by
 obtain⟨b,hb,e⟩:=tG r' ((h a).mp (.one ha)) (r.nz a ha);have s:Sp R (a ^^^ b):=(Sp.one ha).xor ((h b).mpr (.one hb));have sym:∀{l:List Nat},Red l->∀{x y},x∈l->y∈l->x≠y->hasB x (tp y)=false:=λ{l} rl {x y} hx hy ne=>by
  have hp:=rl.pw;clear s e hb ha
  induction l with
  |nil=>cases hx
  |cons z l ih=>
   have pw':=List.pairwise_cons.mp hp;rcases List.mem_cons.mp hx with e1|hx'<;>rcases List.mem_cons.mp hy with e2|hy'
   .exact absurd (e1.trans e2.symm) ne
   .rw[e1];exact(pw'.1 y hy').1
   .rw[e2];exact(pw'.1 x hx').2
   .exact ih ⟨λq hq=>rl.nz q (.tail _ hq),pw'.2⟩ hx' hy' pw'.2
 have z:=vp r s λo ho=>by
  rw[bo];by_cases q:o=a
  .subst q
   rw[cz (r.nz o ho),<-e,cz (r'.nz b hb)];rfl
  .rw[sym r ha ho (Ne.symm q)]
   obtain⟨c,hc,e2⟩:=tG r' ((h o).mp (.one ho)) (r.nz o ho);have ne:c≠b:=λy=>by
    subst y;have:=sym r ha ho (Ne.symm q);rw[<-e2,e,cz (r.nz a ha)]at this;cases this
   rw[<-e2,sym r' hb hc (Ne.symm ne)];rfl
 have:a=b:=by
  have y:=eB a b;rw[z,Nat.zero_xor]at y;exact y.symm
 rw[this];exact hb
theorem zU{R R' rs rs':List Nat}(r:Red R)(r':Red R')(h:∀a,Sp R a↔Sp R' a)(p:rs.Perm R)(p':rs'.Perm R')(u:rs.Pairwise (· < ·))(u':rs'.Pairwise (· < ·)):rs=rs':=
 kl u u' λk=>⟨λz=>p'.mem_iff.mpr (nS r r' h (p.mem_iff.mp z)),λz=>p.mem_iff.mpr (nS r' r (λa=>(h a).symm) (p'.mem_iff.mp z))⟩
theorem CN(s h:Nat):par (s &&& 2^h)=if hasB s h then 1 else 0:=by
 rw[Nat.and_comm,<-AT,uQ];unfold hasB;rcases Nat.mod_two_eq_zero_or_one (s/2^h)with e|e<;>simp[e]
theorem dn(x s h:Nat):vb (x ^^^ 2^h) s=(vb x s != hasB s h):=by
 unfold vb;rw[Hw,CN];have:=MA.ce (s &&& x);rcases (by lia:par (s &&& x)=0\/par (s &&& x)=1)with e|e<;>cases hasB s h<;>rw[e]<;>rfl
theorem db{x h:Nat}(hx:x%2=1)(hh:1<=h):(x ^^^ 2^h)%2=1:=by
 have q:=Nat.xor_mod_two_pow (a:=x) (b:=2^h) (n:=1);rw[Nat.pow_one]at q;obtain⟨j,hj⟩:∃j,h=j+1:=⟨h-1,by lia⟩;have e2:2^h%2=0:=by rw[hj,Nat.pow_succ];lia
 rw[q,hx,e2];rfl
theorem Ex(x s:Nat):((par (s &&& x):Nat):Int)=if vb x s then 1 else 0:=by
 unfold vb;have:=MA.ce (s &&& x);rcases (by lia:par (s &&& x)=0\/par (s &&& x)=1)with e|e<;>rw[e]<;>rfl
theorem pg{s:Nat}(h:s%2=0):vb 1 s=false:=by
 unfold vb;rw[Nat.and_one_is_mod,h,MA.dD];rfl
theorem i6(x:Nat)(p:Nat×Nat)(T:As):aZ x (upI (p::T))=(if vb x p.1 then(p.2:Int)else 0)+aZ x (upI T):=by
 show(p.2:Int)*((par (p.1 &&& x):Nat):Int)+aZ x (upI T)=_;rw[Ex];split<;>lia
theorem jD(p:Nat×Nat)(T:As)(b:Nat):hav (p::T) b=if hasB p.1 b then p::hav T b else hav T b:=by
 unfold hav;rw[List.filter_cons]
theorem rA(p:Nat×Nat)(T:As):sumE (p::T)=(p.2:Int)+sumE T:=rfl
theorem rP:∀T:As,(∀p∈T,p.1%2=0)->aZ 1 (upI T)=0
 |[],_=>rfl
 |p::T,h=>by rw[i6,pg (h p (.head _)),rP T λq hq=>h q (.tail _ hq)];rfl
theorem rO(b:Nat):∀T:As,(∀p∈T,p.1%2=0)->aZ (1 ^^^ 2^b) (upI T)=sumE (hav T b)
 |[],_=>rfl
 |p::T,h=>by
  rw[i6,dn,pg (h p (.head _)),rO b T λq hq=>h q (.tail _ hq),jD]
  cases hasB p.1 b<;>simp[rA]
theorem rN(b c:Nat):∀T:As,(∀p∈T,p.1%2=0)->aZ (1 ^^^ 2^b ^^^ 2^c) (upI T)=sumE (hav T b)+sumE (hav T c)-2*sumE (hav (hav T b) c)
 |[],_=>rfl
 |p::T,h=>by
  rw[i6,dn,dn,pg (h p (.head _)),rN b c T λq hq=>h q (.tail _ hq),jD,jD]
  cases e1:hasB p.1 b<;>cases e2:hasB p.1 c<;>simp[rA,jD,e2]<;>lia
theorem rM(b c d:Nat):∀T:As,(∀p∈T,p.1%2=0)->aZ (1 ^^^ 2^b ^^^ 2^c ^^^ 2^d) (upI T)=sumE (hav T b)+sumE (hav T c)+sumE (hav T d)-2*sumE (hav (hav T b) c)-2*sumE (hav (hav T b) d)-2*sumE (hav (hav T c) d)+4*sumE (hav (hav (hav T b) c) d)
 |[],_=>rfl
 |p::T,h=>by
  rw[i6,dn,dn,dn,pg (h p (.head _)),rM b c d T λq hq=>h q (.tail _ hq),jD p T b,jD p T c,jD p T d]
  cases e1:hasB p.1 b<;>cases e2:hasB p.1 c<;>cases e3:hasB p.1 d<;>simp[rA,jD,e2,e3]<;>lia
theorem uM{U U':As}(b:Nat):∀C:List Nat,(∀c∈C,-2*sumE (hav U c)%8 = -2*sumE (hav U' c)%8)->(∀c∈C,∀d∈C,hasB (oddH (hav U c)) d=hasB (oddH (hav U' c)) d)->f2 b U C=f2 b U' C
 |[],_,_=>rfl
 |c::C,h1,h2=>by
  unfold f2;rw[uM b C (λx hx=>h1 x (.tail _ hx)) λx hx y hy=>h2 x (.tail _ hx) y (.tail _ hy),h1 c (.head _),List.filter_congr λd hd=>h2 c (.head _) d (.tail _ hd)]
theorem uK{T T':As}:∀B:List Nat,(∀b∈B,sumE (hav T b)%8=sumE (hav T' b)%8)->(∀b∈B,∀c∈B,-2*sumE (hav (hav T b) c)%8 = -2*sumE (hav (hav T' b) c)%8)->(∀b∈B,∀c∈B,∀d∈B,hasB (oddH (hav (hav T b) c)) d=hasB (oddH (hav (hav T' b) c)) d)->fo T B=fo T' B
 |[],_,_,_=>rfl
 |b::B,h1,h2,h3=>by
  unfold fo fw;rw[uK B (λx hx=>h1 x (.tail _ hx)) (λx hx y hy=>h2 x (.tail _ hx) y (.tail _ hy)) λx hx y hy z hz=>h3 x (.tail _ hx) y (.tail _ hy) z (.tail _ hz),
   uM b B (λc hc=>h2 b (.head _) c (.tail _ hc)) λc hc d hd=>h3 b (.head _) c (.tail _ hc) d (.tail _ hd),h1 b (.head _)]
theorem sy{T:As}{b:Nat}(h:∀p∈T,hasB p.1 b=false):hav T b=[]:=List.filter_eq_nil_iff.mpr λp hp=>by rw[h p hp];simp
theorem xL{T:As}{d:Nat}(h:∀p∈T,hasB p.1 d=false):hasB (oddH T) d=false:=by rw[j0,sy h];rfl
theorem oA{U:As}(P:Nat->Bool)(b:Nat):∀C:List Nat,(∀c∈C,P c=false->∀p∈U,hasB p.1 c=false)->(f2 b U C).filter (λp=>decide (p.2≠0))=(f2 b U (C.filter P)).filter λp=>decide (p.2≠0)
 |[],_=>rfl
 |c::C,h=>by
  have ih:=oA P b C λx hx=>h x (.tail _ hx)
  cases e:P c with
  |true=>
   rw[List.filter_cons,if_pos e];unfold f2;have:(C.filter P).filter (λd=>hasB (oddH (hav U c)) d)=C.filter λd=>hasB (oddH (hav U c)) d:=by
    rw[List.filter_filter];refine List.filter_congr λd hd=>?_
    cases q:P d with
    |true=>simp
    |false=>rw[xL (T:=hav U c) λp hp=>h d (.tail _ hd) q p (List.mem_filter.mp hp).1];rfl
   rw[this,List.filter_append,List.filter_append,ih]
  |false=>
   rw[List.filter_cons,if_neg (by rw[e];simp),<-ih];have z:=sy λp hp=>h c (.head _) e p hp
   have:f2 b U (c::C)=([b,c],0)::f2 b U C:=by
    conv=>lhs;unfold f2
    rw[z];have:(C.filter λd=>hasB (oddH []) d)=[]:=List.filter_eq_nil_iff.mpr λd _=>by rw[xL (T:=[]) λ_ h=>nomatch h];simp
    rw[this];rfl
   rw[this,List.filter_cons,if_neg (by simp)]
theorem oy{T:As}(P:Nat->Bool):∀B:List Nat,(∀c∈B,P c=false->∀p∈T,hasB p.1 c=false)->fo T B=fo T (B.filter P)
 |[],_=>rfl
 |b::B,h=>by
  have ih:=oy P B λx hx=>h x (.tail _ hx)
  have f2r:=oA (U:=hav T b) P b B λc hc q p hp=>h c (.tail _ hc) q p (List.mem_filter.mp hp).1
  cases e:P b with
  |true=>
   rw[List.filter_cons,if_pos e];unfold fo fw;rw[<-ih,List.filter_cons,List.filter_cons,f2r]
  |false=>
   rw[List.filter_cons,if_neg (by rw[e];simp),<-ih];have z:=sy λp hp=>h b (.head _) e p hp
   have y:(f2 b [] B).filter (λp=>decide (p.2≠0))=[]:=by
    have q:=oA (U:=[]) (λ_=>false) b B λ_ _ _ _ h=>nomatch h
    have n:(B.filter λ_=>false)=[]:=List.filter_eq_nil_iff.mpr λ_ _=>by simp
    rw[q,n];rfl
   show fw b (hav T b) B++fo T B=fo T B;rw[z];unfold fw;rw[List.filter_cons,if_neg (by simp[sumE]),y];rfl
theorem pK{P:Nat->Bool}{k:Nat}(h:∀j,k<=j->P j=false):∀m:Nat,(List.range (k+m)).filter P=(List.range k).filter P
 | 0=>rfl
 |m+1=>by
  rw[<-Nat.add_assoc,List.range_succ,List.filter_append,pK h m,List.filter_cons,if_neg (by rw[h _ (Nat.le_add_right _ _)];simp)];simp
theorem ue:∀(T:As) (t k:Nat),hasB (T.foldl (λt p=>t ||| p.1) t) k=(hasB t k||T.any λp=>hasB p.1 k)
 |[],t,k=>by simp
 |p::T,t,k=>by
  rw[List.foldl_cons,ue T,List.any_cons,cE,cE,cE,Nat.testBit_or,Bool.or_assoc]
theorem yE{T:As}{N:Nat}(hT:∀p∈T,p.1<2^N)(he:∀p∈T,p.1%2=0):fo T (bts (orH T))=fo T ((List.range N).filter λk=>decide (1<=k)):=by
 have ol:orH T<2^N:=uf T 0 (Nat.two_pow_pos N) hT;have e0:∀p∈T,hasB p.1 0=false:=λp hp=>by unfold hasB;have:=he p hp;simp;lia
 have no:∀k,hasB (orH T) k=false->∀p∈T,hasB p.1 k=false:=λk hk p hp=>by
  unfold orH at hk;rw[ue,Bool.or_eq_false_iff]at hk;exact List.any_eq_false.mp hk.2 p hp |> Bool.eq_false_iff.mpr
 have h2:Builtin.Int.intBits (orH T:Int)<=N:=by
  unfold Builtin.Int.intBits;split
  .lia
  .rename_i z
   rw[Int.natAbs_natCast];have n0:orH T≠0:=by simpa using z
   exact(Nat.log2_lt n0).mpr ol
 rw[<-oy (T:=T) (λk=>decide (1<=k)) (List.range N) λc _ q p hp=>by
   have:c=0:=by simpa using q
   rw[this];exact e0 p hp,
  oy (T:=T) (λk=>hasB (orH T) k) (List.range N) λc _ q=>no c q]
 unfold bts;obtain⟨m,hm⟩:∃m,N=Builtin.Int.intBits (orH T:Int)+m:=⟨N-Builtin.Int.intBits (orH T:Int),by lia⟩;rw[hm,pK (λj hj=>lB (uj (orH T)) hj) m]
theorem Gc{N:Nat}{T T':Nat}{R R':As}{e:Int}(hT:T'<8)(hR:∀p∈R,p.1<2^N)(hR':∀p∈R',p.1<2^N)(ev:∀p∈R,p.1%2=0)(ev':∀p∈R',p.1%2=0)
  (h:∀x,x%2=1->((T:Int)+e+aZ x (upI R))%8=((T':Int)+aZ x (upI R'))%8):(T':Int)=((T:Int)+e)%8/\fo R (bts (orH R))=fo R' (bts (orH R')):=by
 have h0:=h 1 rfl;rw[rP R ev,rP R' ev']at h0;have hb:∀b,1<=b->sumE (hav R b)%8=sumE (hav R' b)%8:=λb b1=>by
  have q:=h (1 ^^^ 2^b) (db rfl b1);rw[rO b R ev,rO b R' ev']at q
  lia
 have hc:∀b,1<=b->∀c,1<=c -> -2*sumE (hav (hav R b) c)%8 = -2*sumE (hav (hav R' b) c)%8:=λb b1 c c1=>by
  have q:=h (1 ^^^ 2^b ^^^ 2^c) (db (db rfl b1) c1);rw[rN b c R ev,rN b c R' ev']at q;have q1:=hb b b1;have q2:=hb c c1
  lia
 have hd:∀b,1<=b->∀c,1<=c->∀d,1<=d->hasB (oddH (hav (hav R b) c)) d=hasB (oddH (hav (hav R' b) c)) d:=λb b1 c c1 d d1=>by
  have q:=h (1 ^^^ 2^b ^^^ 2^c ^^^ 2^d) (db (db (db rfl b1) c1) d1);rw[rM b c d R ev,rM b c d R' ev']at q;have q1:=hb b b1;have q2:=hb c c1;have q3:=hb d d1;have r1:=hc b b1 c c1;have r2:=hc b b1 d d1;have r3:=hc c c1 d d1;rw[j0,j0];refine decide_eq_decide.mpr ?_
  lia
 refine⟨by lia,?_⟩;rw[yE hR ev,yE hR' ev'];have m:∀{b},b∈(List.range N).filter (λk=>decide (1<=k))->1<=b:=λhb=>by simpa using (List.mem_filter.mp hb).2
 exact uK _ (λb hb'=>hb b (m hb')) (λb hb' c hc'=>hc b (m hb') c (m hc')) λb hb' c hc' d hd'=>hd b (m hb') c (m hc') d (m hd')
theorem ER:∀(rs:List Nat) (x:Nat),x%2=1->(∀t∈rs,t≠0/\1<=tp t)->(rs.Pairwise λa b=>hasB a (tp b)=false/\hasB b (tp a)=false)->∃y,y%2=1/\(∀t∈rs,vb y t=false)/\∀s,(∀t∈rs,hasB s (tp t)=false)->vb y s=vb x s
 |[],x,hx,_,_=>⟨x,hx,λ_ h=>(nomatch h),λ_ _=>rfl⟩
 |t::rs,x,hx,h,pw=>by
  have pw':=List.pairwise_cons.mp pw;obtain⟨y,h1,h3,h4⟩:=ER rs x hx (λa ha=>h a (.tail _ ha)) pw'.2
  obtain⟨t0,t1⟩:=h t (.head _);cases e:vb y t with
  |false=>exact⟨y,h1,λa ha=>by rcases List.mem_cons.mp ha with rfl|ha;exact e;exact h3 a ha,λs hs=>h4 s λa ha=>hs a (.tail _ ha)⟩
  |true=>
   refine⟨y ^^^ 2^tp t,db h1 t1,λa ha=>?_,λs hs=>?_⟩
   .rw[dn]
    rcases List.mem_cons.mp ha with rfl|ha
    .rw[e,cz t0];rfl
    .rw[h3 a ha,(pw'.1 a ha).2];rfl
   .rw[dn,hs t (.head _),h4 s λa ha=>hs a (.tail _ ha)]
    cases vb x s<;>rfl
theorem i5{x y:Nat}:∀R:As,(∀p∈R,vb y p.1=vb x p.1)->aZ y (upI R)=aZ x (upI R)
 |[],_=>rfl
 |p::R,h=>by rw[i6,i6,h p (.head _),i5 R λq hq=>h q (.tail _ hq)]
abbrev tolD(w l:Nat)(hv:Int)(T:Nat)(F:Fm)(rs:List Nat):D:=.tuple [.tuple [.int w,.int l],.int hv,.int T,.tuple (d5 F),.tuple (ae rs)]
theorem zT{rs R:List Nat}(r:Red R)(p:rs.Perm R):rs.Pairwise λa b=>hasB a (tp b)=false/\hasB b (tp a)=false:=(p.pairwise_iff λ{a b} q=>⟨q.2,q.1⟩).mpr r.pw
theorem Co{R:List Nat}(r:Red R)(h1:1∉R):∀t∈R,t≠0/\1<=tp t:=λt h=>by
 refine⟨r.nz t h,Nat.pos_of_ne_zero λz=>?_⟩
 have:t=1:=by
  have h2:t<2^1:=oi λk hk=>g7 (by lia)
  have:=r.nz t h
  lia
 exact h1 (this ▸ h)
structure Bt (w l:Nat) (hv:Int) (N:Nat) (c:Nat) (ps:As) (ts:List Nat):Prop where
 S:Sm w l hv c ps ts [] 0 400
 hp:∀p∈ps,p.1<2^N
 ht:∀t∈ts,t<2^N
 t64:ts.length<64
theorem fD{w l:Nat}{hv:Int}{N:Nat}(N1:1<=N)(N5:N<=10){c c':Nat}{ps ps':As}{ts ts':List Nat}(e:Int)(A:Bt w l hv N c ps ts)(B:Bt w l hv N c' ps' ts')(sp:∀a,Sp ts a↔Sp ts' a)
  (h:∀x,x%2=1->(∀t∈ts,vb x t=false)->((c:Int)+e+aZ x (upI ps))%8=((c':Int)+aZ x (upI ps'))%8):
  (ao [oneD w l hv c (upI ps) ts []]=some .none/\ao [oneD w l hv c' (upI ps') ts' []]=some .none)\/
  ∃(T T':Nat) (R:As) (rs:List Nat),T<8/\(T':Int)=((T:Int)+e)%8/\ao [oneD w l hv c (upI ps) ts []]=some (tolD w l hv T (fo R (bts (orH R))) rs)/\ao [oneD w l hv c' (upI ps') ts' []]=some (tolD w l hv T' (fo R (bts (orH R))) rs)/\
   (∀x,x%2=1->(∀t∈ts,vb x t=false)->((T:Int)+aZ x (upI R))%8=((c:Int)+aZ x (upI ps))%8)/\rs.length<=64/\(fo R (bts (orH R))).length<=300:=by
 have sp':∀a,Sp (sN ts) a↔Sp (sN ts') a:=λa=>(qI ts a).trans ((sp a).trans (qI ts' a).symm)
 have r1:=oJ ts;have r2:=oJ ts';rcases eI A.S (Nat.le_refl _) N1 N5 A.hp A.ht A.t64 with⟨a1,e1⟩|⟨a1,rs,T,R,st,e1⟩
 .rcases eI B.S (Nat.le_refl _) N1 N5 B.hp B.ht B.t64 with⟨b1,e2⟩|⟨b1,_⟩
  .exact .inl ⟨e1,e2⟩
  .exact absurd (nS r1 r2 sp' a1) b1
 .rcases eI B.S (Nat.le_refl _) N1 N5 B.hp B.ht B.t64 with⟨b1,_⟩|⟨b1,rs',T',R',st',e2⟩
  .exact absurd (nS r2 r1 (λa=>(sp' a).symm) b1) a1
  .have ers:rs=rs':=zU r1 r2 sp' st.pm st'.pm st.up st'.up
   subst ers;have tpr:∀t∈rs,t≠0/\1<=tp t:=λt ht=>Co r1 a1 t (st.pm.mem_iff.mp ht)
   have sv:∀x,(∀t∈rs,vb x t=false)->∀t∈ts,vb x t=false:=λx hx=>(BQ x ts).mp λo ho=>hx o (st.pm.mem_iff.mpr ho)
   have key:=Gc (N:=N) (T:=T) (T':=T') (R:=R) (R':=R') (e:=e) st'.sm.c8 st.lt st'.lt (λp hp=>(st.sm.pe p hp).2.1) (λp hp=>(st'.sm.pe p hp).2.1) λx hx=>by
    obtain⟨y,y1,y2,y3⟩:=ER rs x hx tpr (zT r1 st.pm);have q1:aZ y (upI R)=aZ x (upI R):=i5 R λp hp=>y3 p.1 λt ht=>st.out t ht p hp
    have q2:aZ y (upI R')=aZ x (upI R'):=i5 R' λp hp=>y3 p.1 λt ht=>st'.out t ht p hp
    have v1:=st.val y y1 y2;have v2:=st'.val y y1 y2;have v3:=h y y1 (sv y y2);rw[q1]at v1;rw[q2]at v2
    lia
   have ln:rs.length<=64:=by
    rw[st.pm.length_eq];have:=oK ts [];have q:(sN ts).length<=ts.length:=by simpa[sN]using this
    have:=A.t64
    lia
   have fl:(fo R (bts (orH R))).length<=300:=by
    have h1:=sC R (bts (orH R));have h2:(bts (orH R)).length<=10:=by
     have ol:orH R<2^N:=uf R 0 (Nat.two_pow_pos N) st.lt;have h1:(bts (orH R)).length<=Builtin.Int.intBits (orH R:Int):=by
      unfold bts;exact Nat.le_trans (List.length_filter_le _ _) (by rw[List.length_range];exact Nat.le_refl _)
     have h2:Builtin.Int.intBits (orH R:Int)<=N:=by
      unfold Builtin.Int.intBits;split
      .lia
      .rename_i z
       rw[Int.natAbs_natCast];have n0:orH R≠0:=by simpa using z
       exact(Nat.log2_lt n0).mpr ol
     lia
    have:=EB h2
    lia
   refine .inr ⟨T,T',R,rs,st.sm.c8,key.1,e1,?_,λx hx hs=>st.val x hx λt ht=>?_,ln,fl⟩
   .rw[key.2];exact e2
   .exact(BQ x ts).mpr hs t (st.pm.mem_iff.mp ht)
structure Ag (N:Nat) (A:As) (n:Nat):Prop where
 nd:(aj A).Nodup
 ln:A.length<=n
 ks:∀k∈aj A,2<=k/\k%2=0/\k<2^N
 v8:∀k,vl A k<8
theorem Ag.put{N:Nat}{A:As}{n:Nat}(a:Ag N A n){s v:Nat}(g:2<=s/\s%2=0/\s<2^N)(hv:v<8):Ag N (jy A s v) (n+1):=by
 have kp:=iE A s v;have ln:(aj (jy A s v)).length<=n+1:=by
  have h0:=a.ln;rw[kp];split
  .unfold aj;rw[List.length_map];lia
  .unfold aj;rw[List.length_append,List.length_map];simp;lia
 refine⟨rY a.nd s v,by unfold aj at ln;rwa [List.length_map]at ln,λk hk=>?_,λk=>?_⟩
 .rw[kp]at hk
  split at hk
  .exact a.ks k hk
  .rcases List.mem_append.mp hk with hk|hk
   .exact a.ks k hk
   .rcases List.mem_singleton.mp hk with rfl
    exact g
 .rw[gA]
  split
  .exact hv
  .exact a.v8 k
theorem tI(x:Nat)(A:As)(k:Nat)(y:Int)(nd:(aj A).Nodup)(v:Nat)(hv:(v:Int)=((vl A k:Int)+y)%8):(((sm (λk=>par (k &&& x)) (jy A k v):Nat):Int)-(((sm (λk=>par (k &&& x)) A:Nat):Int)+y*((par (k &&& x):Nat):Int)))%8=0:=by
 have q:=rF (λk=>par (k &&& x)) A k v nd
 have h:=MA.ce (k &&& x);rcases (by lia:par (k &&& x)=0\/par (k &&& x)=1)with e|e<;>rw[e]at q ⊢<;>lia
theorem nr(t:Nat)(A:As)(B:Nat)(e:Int)(hl:A.length<=1000)(ht:t<8):∃(t':Nat) (A':As),t'<8/\(A'=A\/∃v:Nat,v<8/\2<=hb B/\A'=jy A (hb B) v)/\ai (.int (t:Int)) (bg A) [.int (B:Int),.int e]=some (.int (t':Int),bg A')/\
  ((aj A).Nodup->∀x,x%2=1->(((t':Int)+((sm (λk=>par (k &&& x)) A':Nat):Int))-((t:Int)+((sm (λk=>par (k &&& x)) A:Nat):Int)+e*((par (B &&& x):Nat):Int)))%8=0):=by
 have esl:(bg A).length<sizeLine:=by unfold bg;rw[List.length_map,sizeLine_eq];lia
 have key:∀(k:Nat) (x:Int),il (bg A) (.inl (k:Int)) (.int (((vl A k:Int)+x)%8))=bg (jy A k (((vl A k:Int)+x)%8).toNat):=λk x=>by
  rw[<-ik];congr 2
  lia
 rcases Nat.mod_two_eq_zero_or_one B with q|q
 .by_cases z:B=0
  .subst z
   refine⟨t,A,ht,.inl rfl,?_,λ_ x _=>?_⟩
   .have tm:(t:Int)%8=t:=by lia
    simp[ai,nR,bY,ke,aV,tm]
   .rw[Nat.zero_and,MA.dD];lia
  .refine⟨t,jy A B (((vl A B:Int)+e)%8).toNat,ht,.inr ⟨(((vl A B:Int)+e)%8).toNat,by lia,by unfold hb;lia,by unfold hb;rw[q,Nat.sub_zero]⟩,?_,λnd x _=>?_⟩
   .have tm:(t:Int)%8=t:=by lia
    have z':0<B:=by lia
    have g:=sA A B;have q':((B:Int)%2)=0:=by lia
    have pu:=key B e;simp[ai,nR,bY,ke,aV,tm,q',z',gG,dg,g,esl,pu,jb]
   .have:=tI x A B e nd _ (show(((((vl A B:Int)+e)%8).toNat:Nat):Int)=_ by lia)
    lia
 .have q':((B:Int)%2)=1:=by lia
  obtain⟨t',e1⟩:∃t':Nat,(t':Int)=((t:Int)+e)%8:=⟨(((t:Int)+e)%8).toNat,by lia⟩;obtain⟨C,rfl⟩:∃C,B=C+1:=⟨B-1,by lia⟩;have hc:((C+1:Nat):Int)-1=(C:Int):=by lia
  by_cases z:C=0
  .subst z
   refine⟨t',A,by lia,.inl rfl,?_,λ_ x hx=>?_⟩
   .have e1':=e1.symm
    simp[ai,nR,bY,ke,aV,e1']
   .rw[Nat.zero_add,Fc x hx];lia
  .have g:=sA A C
   have pu:=key C (-(e:Int));refine⟨t',jy A C (((vl A C:Int) + -(e:Int))%8).toNat,by lia,.inr ⟨(((vl A C:Int) + -(e:Int))%8).toNat,by lia,by unfold hb;lia,by unfold hb;rw[q];rfl⟩,?_,λnd x hx=>?_⟩
   .have z':0<C:=by lia
    have e1':=e1.symm;generalize hB:((C+1:Nat):Int)=Bi at q' hc ⊢;simp[ai,nR,bY,ke,aV,e1',q',hc,z',gG,dg,g,esl,pu,jb,negD]
   .have p:=tI x A C (-e) nd _ (show(((((vl A C:Int) + -e)%8).toNat:Nat):Int)=_ by lia)
    have o:=uc x (C+1) hx q;rw[Nat.add_sub_cancel]at o;have l:=MA.ce (C &&& x);rw[o];rcases (by lia:par (C &&& x)=0\/par (C &&& x)=1)with y|y<;>rw[y]at p ⊢<;>lia
theorem zd(t:Nat)(A:As)(B e:Nat)(hl:A.length<=1000)(ht:t<8)(h8:e<8):∃(t':Nat) (A':As),t'<8/\(A'=A\/∃v:Nat,v<8/\2<=hb B/\A'=jy A (hb B) v)/\ai (.int (t:Int)) (bg A) [.int (B:Int),.int (e:Int)]=some (.int (t':Int),bg A'):=by
 obtain⟨t',A',h1,h2,h3,_⟩:=nr t A B e hl ht;exact⟨t',A',h1,h2,h3⟩
structure Tg (N:Nat) (ts:List Nat) (n:Nat):Prop where
 nd:ts.Nodup
 ln:ts.length<=n
 ok:∀t∈ts,0<t/\t<2^N
theorem HD(C SH HV:Sl)(ones Ni t cell B p e q3:Int)(es es':List (ar×D))(ts:List D)(t':Int)(y9 y10:Sl)(b1 b2:Bool)
  (hp:dN (.int 1) (.int Ni)=some (.int p)) (hd:bh (.int cell) (.int 3)=some (.int q3)) (hB:aM (.int q3) (.int p)=some (.int B))
  (c1:(ob (o2 (o2 (oV 8) (oC (.int 3)) aM) (oC (.int 0)) j2)) [C,SH,HV,.fz (.int ones),.fz (.int Ni),.fz (.int t),.od es,.ow ts,.fz (.int cell),.fz (.int B),y10]=some b1)
  (c2:(ob (o2 (iw 7) (oV 3) o8)) [C,SH,HV,.fz (.int ones),.fz (.int Ni),.fz (.int t),.od es,.ow ts,.fz (.int cell),.fz (.int B),y10]=some b2)
  (hb:(b1||b2)=true) (he:(o2 (o2 (oV 8) (oC (.int 96)) bh) (oC (.int 8)) aM) [C,SH,HV,.fz (.int ones),.fz (.int Ni),.fz (.int t),.od es,.ow ts,.fz (.int cell),.fz (.int B),y10]=some (.int e)) (ha:ai (.int t) es [.int B,.int e]=some (.int t',es')):
  bC [C,SH,HV,.fz (.int ones),.fz (.int Ni),.fz (.int t),.od es,.ow ts,.fz (.int cell),y9,y10]=some (.nx,[C,SH,HV,.fz (.int ones),.fz (.int Ni),.fz (.int t'),.od es',.ow ts,.fz (.int cell),.fz (.int B),y10]):=by
 unfold bC;refine(aN (δ':=[C,SH,HV,.fz (.int ones),.fz (.int Ni),.fz (.int t),.od es,.ow ts,.fz (.int cell),.fz (.int B),y10]) ?_).trans ((gu ?_).trans ?_)
 .simp only[aE,o2,oV,oC]
  show(Option.bind (Option.bind (bh (.int cell) (.int 3)) λx=>Option.bind (dN (.int 1) (.int Ni)) λy=>aM x y) _)=_
  rw[hd,hp];show(Option.bind (aM (.int q3) (.int p)) _)=_;rw[hB];rfl
 .cases b1 with
  |true=>exact Fk c1
  |false=>
   rw[Bz c1,c2];simpa using hb
 .unfold e9
  simp only[ac,ak,he,oV,Option.bind_some];show(Option.bind (ai (.int t) es [.int B,.int e]) _)=_;rw[ha];rfl
theorem HC(C SH HV:Sl)(ones Ni t cell p q3:Int)(B:Nat)(es:List (ar×D))(ts:List Nat)(y9 y10:Sl)(hl:ts.length<=1000)
  (hp:dN (.int 1) (.int Ni)=some (.int p)) (hd:bh (.int cell) (.int 3)=some (.int q3)) (hB:aM (.int q3) (.int p)=some (.int (B:Int)))
  (c1:(ob (o2 (o2 (oV 8) (oC (.int 3)) aM) (oC (.int 0)) j2)) [C,SH,HV,.fz (.int ones),.fz (.int Ni),.fz (.int t),.od es,.ow (ae ts),.fz (.int cell),.fz (.int (B:Int)),y10]=some false)
  (c2:(ob (o2 (iw 7) (oV 3) o8)) [C,SH,HV,.fz (.int ones),.fz (.int Ni),.fz (.int t),.od es,.ow (ae ts),.fz (.int cell),.fz (.int (B:Int)),y10]=some false):
  bC [C,SH,HV,.fz (.int ones),.fz (.int Ni),.fz (.int t),.od es,.ow (ae ts),.fz (.int cell),y9,y10]=some (.nx,[C,SH,HV,.fz (.int ones),.fz (.int Ni),.fz (.int t),.od es,.ow (ae (if 0<B/\B∉ts then ts++[B]else ts)),.fz (.int cell),.fz (.int (B:Int)),y10]):=by
 unfold bC;refine(aN (δ':=[C,SH,HV,.fz (.int ones),.fz (.int Ni),.fz (.int t),.od es,.ow (ae ts),.fz (.int cell),.fz (.int (B:Int)),y10]) ?_).trans ((ee ?_).trans ?_)
 .simp only[aE,o2,oV,oC]
  show(Option.bind (Option.bind (bh (.int cell) (.int 3)) λx=>Option.bind (dN (.int 1) (.int Ni)) λy=>aM x y) _)=_
  rw[hd,hp];show(Option.bind (aM (.int q3) (.int p)) _)=_;rw[hB];rfl
 .rw[Bz c1,c2]
 .have ht:n9 7 (oa (ob (o2 (oV 9) (oC (.int 0)) j2)) (ob (o2 (oV 9) (oV 7) (wE true)))) [C,SH,HV,.fz (.int ones),.fz (.int Ni),.fz (.int t),.od es,.ow (ae ts),.fz (.int cell),.fz (.int (B:Int)),y10]=some (decide (0<B/\B∉ts)):=by
   have i:=BK ts B;have i':wE true (.int (B:Int)) (.list (ae ts))=some (.bool (!decide (B∈ts))):=by
    have:wE true (.int (B:Int)) (.list (ae ts))=(wE false (.int (B:Int)) (.list (ae ts))).bind Fp:=by
     show(if _ then some (.bool (if true=true then _ else _))else none)=Option.bind (if _ then some (.bool (if false=true then _ else _))else none) Fp;split<;>rfl
    rw[this,i];rfl
   have hd:sI 7 [C,SH,HV,.fz (.int ones),.fz (.int Ni),.fz (.int t),.od es,.ow (ae ts),.fz (.int cell),.fz (.int (B:Int)),y10]=some [t7 C,t7 SH,t7 HV,.fz (.int ones),.fz (.int Ni),.fz (.int t),.un,.fz (.list (ae ts)),.fz (.int cell),.fz (.int (B:Int)),t7 y10]:=rfl;unfold n9;rw[hd,Option.bind_some];by_cases h0:0<B
   .by_cases h1:B∈ts<;>simp[h0,h1,i']
   .simp[h0]
  by_cases h:0<B/\B∉ts
  .rw[if_pos h]
   refine(gu (by rw[ht,decide_eq_true h])).trans ?_;have hl':(ae ts).length<sizeLine:=by rw[ba,sizeLine_eq];lia
   rw[mK];simp[hl'];rfl
  .rw[if_neg h]
   exact(ee (by rw[ht,decide_eq_false h])).trans rfl
theorem Ag.more{N:Nat}{A:As}{n:Nat}(a:Ag N A n):Ag N A (n+1):=⟨a.nd,by have:=a.ln;lia,a.ks,a.v8⟩
theorem Tg.more{N:Nat}{ts:List Nat}{n:Nat}(a:Tg N ts n):Tg N ts (n+1):=⟨a.nd,by have:=a.ln;lia,a.ok⟩
theorem AA(C SH HV:Sl)(ones:Int){N n:Nat}(hN:N<=10)(t:Nat)(A:As)(ts:List Nat)(cell:Int)(y9 y10:Sl)(ht:t<8)(a:Ag N A n)(g:Tg N ts n)(hn:n<=500):
  ∃(t':Nat) (A':As) (ts':List Nat) (y9':Sl),t'<8/\Ag N A' (n+1)/\Tg N ts' (n+1)/\bC [C,SH,HV,.fz (.int ones),.fz (.int (N:Int)),.fz (.int (t:Int)),.od (bg A),.ow (ae ts),.fz (.int cell),y9,y10]=some (.nx,[C,SH,HV,.fz (.int ones),.fz (.int (N:Int)),.fz (.int (t':Int)),.od (bg A'),.ow (ae ts'),.fz (.int cell),y9',y10]):=by
 have pos:0<2^N:=Nat.two_pow_pos N;obtain⟨B,hB⟩:∃B:Nat,(B:Int)=cell/3%((2^N:Nat):Int):=⟨(cell/3%((2^N:Nat):Int)).toNat,Int.toNat_of_nonneg (Int.emod_nonneg _ (by lia))⟩;have Bl:B<2^N:=by
  have:=Int.emod_lt_of_pos (cell/3) (show(0:Int)<((2^N:Nat):Int) by lia)
  lia
 obtain⟨e,he⟩:∃e:Nat,(e:Int)=cell/96%8:=⟨(cell/96%8).toNat,by lia⟩;have hp:=kr (k:=N) (by lia);have hd:bh (.int cell) (.int 3)=some (.int (cell/3)):=by simp[bh]
 have hm:aM (.int (cell/3)) (.int ((2^N:Nat):Int))=some (.int (B:Int)):=by
  rw[bQ (by lia),hB]
 have c1:(ob (o2 (o2 (oV 8) (oC (.int 3)) aM) (oC (.int 0)) j2)) [C,SH,HV,.fz (.int ones),.fz (.int (N:Int)),.fz (.int (t:Int)),.od (bg A),.ow (ae ts),.fz (.int cell),.fz (.int (B:Int)),y10]=some (decide (0<cell%3)):=by simp
 have c2:(ob (o2 (iw 7) (oV 3) o8)) [C,SH,HV,.fz (.int ones),.fz (.int (N:Int)),.fz (.int (t:Int)),.od (bg A),.ow (ae ts),.fz (.int cell),.fz (.int (B:Int)),y10]=some (((ts.length:Int)==ones)):=by simp[ba]
 by_cases h:(decide (0<cell%3)||((ts.length:Int)==ones))=true
 .obtain⟨t',A',h1,h2,h3⟩:=zd t A B e (by have:=a.ln;lia) ht (by lia)
  refine⟨t',A',ts,.fz (.int (B:Int)),h1,?_,g.more,HD C SH HV ones N t cell B _ e (cell/3) (bg A) (bg A') (ae ts) t' y9 y10 _ _ hp hd hm c1 c2 h ?_ h3⟩
  .rcases h2 with rfl|⟨v,hv,h2,rfl⟩
   .exact a.more
   .exact a.put ⟨h2,by unfold hb;lia,by unfold hb;lia⟩ hv
  .have he':=he.symm
   simp[he']
 .have h':decide (0<cell%3)=false/\((ts.length:Int)==ones)=false:=by
   cases q1:decide (0<cell%3)<;>cases q2:((ts.length:Int)==ones)<;>simp_all
  refine⟨t,A,_,.fz (.int (B:Int)),ht,a.more,?_,HC C SH HV ones N t cell _ (cell/3) B (bg A) ts y9 y10 (by have:=g.ln;lia) hp hd hm (c1.trans (by rw[h'.1])) (c2.trans (by rw[h'.2]))⟩;split
  .rename_i q
   refine⟨List.nodup_append.mpr ⟨g.nd,by simp,λx hx y hy=>?_⟩,by have:=g.ln;simp;lia,λx hx=>?_⟩
   .rcases List.mem_singleton.mp hy with rfl
    exact λz=>q.2 (z ▸ hx)
   .rcases List.mem_append.mp hx with hx|hx
    .exact g.ok x hx
    .rcases List.mem_singleton.mp hx with rfl
     exact⟨q.1,Bl⟩
  .exact g.more
theorem uk(C SH HV:Sl)(ones:Int){N:Nat}(hN:N<=10)(y10:Sl):∀(cs:List Int) (n t:Nat) (A:As) (ts:List Nat) (y8 y9:Sl),t<8->Ag N A n->Tg N ts n->n+cs.length<=500 ->
  ∃(t':Nat) (A':As) (ts':List Nat) (y8' y9':Sl),t'<8/\Ag N A' (n+cs.length)/\Tg N ts' (n+cs.length)/\loop (gN 8) bC (cs.map .int) [C,SH,HV,.fz (.int ones),.fz (.int (N:Int)),.fz (.int (t:Int)),.od (bg A),.ow (ae ts),y8,y9,y10]=some (.nx,[C,SH,HV,.fz (.int ones),.fz (.int (N:Int)),.fz (.int (t':Int)),.od (bg A'),.ow (ae ts'),y8',y9',y10])
 |[],n,t,A,ts,y8,y9,h1,h2,h3,_=>⟨t,A,ts,y8,y9,h1,h2,h3,rfl⟩
 |c::cs,n,t,A,ts,y8,y9,h1,h2,h3,hl=>by
  rw[List.length_cons]at hl;obtain⟨t1,A1,ts1,y1,g1,g2,g3,e1⟩:=AA C SH HV ones hN t A ts c y9 y10 h1 h2 h3 (by lia);obtain⟨t2,A2,ts2,y8',y2,k1,k2,k3,e2⟩:=uk C SH HV ones hN y10 cs (n+1) t1 A1 ts1 (.fz (.int c)) y1 g1 g2 g3 (by lia);have en:n+1+cs.length=n+(c::cs).length:=by rw[List.length_cons];lia
  refine⟨t2,A2,ts2,y8',y2,k1,en ▸ k2,en ▸ k3,?_⟩;show((gN 8 (.int c) [C,SH,HV,.fz (.int ones),.fz (.int (N:Int)),.fz (.int (t:Int)),.od (bg A),.ow (ae ts),y8,y9,y10]).bind λδ1=>(bC δ1).bind _)=_
  simp only[gN,Option.bind_some,List.set_cons_succ,List.set_cons_zero];rw[e1];exact e2
noncomputable def fq(A:As)(rs:List Nat):As:=(rs.filter λk=>decide (0<vl A k)).map λk=>(k,vl A k)
theorem yR(A:As)(nd:(aj A).Nodup)(hl:A.length<=900):∃rs:List Nat,rs.Perm (aj A)/\rs.Pairwise (· < ·)/\∀(i:Nat) (δ:Dv),Bp δ[i]? = some (.dict (cG (lI A)))->bV δ [(i,"counts")]=[.fz (.dict (cG (lI A)))] ->
  bP (oI (o1 (oV i) i3) aY) [(i,"counts")] qR (ob (o2 (o2 (oV 1) (oV 0) gy) (oC (.int 0)) j2)) (VL.os (ac (oV 0) (ac (o2 (oV 1) (oV 0) gy) (ak))) aU) δ = some (.list ((fq A rs).map pD)):=by
 obtain⟨rs,e,p,pw⟩:=hV (aj A) nd;refine⟨rs,p,pw,λi δ h1 h2=>?_⟩
 have hln:rs.length<=900:=by rw[p.length_eq];unfold aj;rw[List.length_map];exact hl
 have so:i3 (.dict (cG (lI A)))=some (.list (rs.map λk:Nat=>PyData.int (k:Int))):=by
  show(jw (cG (lI A))).bind _=_;rw[eG,Option.bind_some,BG,kK,Option.bind_some,if_pos (by rw[List.length_map];unfold aj;rw[List.length_map];lia),e,List.map_map];rfl
 have gf:∀k∈rs,gy (.dict (cG (lI A))) (.int (k:Int))=some (.int (vl A k:Int)):=λk hk=>by
  show(jw (cG (lI A))).bind _=_;rw[eG,Option.bind_some];show(kX (lI A) (.inl (k:Int))).map PyData.int=_;rw[AK (p.mem_iff.mp hk)];rfl
 have e2:(fq A rs).map pD=(rs.filter λk=>decide (0<vl A k)).map λk=>pD (k,vl A k):=by unfold fq;rw[List.map_map];rfl
 rw[e2];refine bX (xs:=rs) (h:=λk:Nat=>PyData.int (k:Int)) ?_ (by lia) (λk hk=>?_) λk hk _=>?_
 .simp[h1,so]
 .have g:=gf k hk
  rw[h2];by_cases h2:0<vl A k
  .simp[g,h2]
  .simp[g,h2]
 .have g:=gf k hk
  rw[h2];simp[g,pD]
theorem wV(w:Nat->Nat)(A:As):∀rs:List Nat,sm w (fq A rs)=(rs.map λk=>vl A k*w k).sum
 |[]=>rfl
 |k::rs=>by
  have ih:=wV w A rs;unfold fq at ih ⊢;rw[List.filter_cons,List.map_cons,List.sum_cons];by_cases h:0<vl A k
  .rw[if_pos (by simpa using h),List.map_cons]
   show vl A k*w k+sm w _=_;rw[ih]
  .rw[if_neg (by simpa using h),ih]
   have:vl A k=0:=by lia
   rw[this];simp
theorem Ab(x:Nat)(A:As)(rs:List Nat)(nd:(aj A).Nodup)(p:rs.Perm (aj A)):aZ x (upI (fq A rs))=((sm (λk=>par (k &&& x)) A:Nat):Int):=by
 rw[<-ic,wV,tJ _ _ nd,pq (p.map λk=>vl A k*par (k &&& x))]
theorem xr{N:Nat}{A:As}{n:Nat}(a:Ag N A n)(hN:N<=10){rs:List Nat}(p:rs.Perm (aj A))(pw:rs.Pairwise (· < ·)):(aj (fq A rs)).Pairwise (· < ·)/\(∀q∈fq A rs,2<=q.1/\q.1%2=0/\q.1<fj/\1<=q.2/\q.2<=7)/\(fq A rs).length<=n/\∀q∈fq A rs,q.1<2^N:=by
 have big:(2:Nat)^N<=fj:=Nat.pow_le_pow_right (by decide) (by lia);have rk:∀q∈fq A rs,q.1∈aj A/\0<vl A q.1/\q.2=vl A q.1:=λq hq=>by
  obtain⟨k,hk,rfl⟩:=List.mem_map.mp hq;have:=List.mem_filter.mp hk;exact⟨p.mem_iff.mp this.1,by simpa using this.2,rfl⟩
 refine⟨?_,λq hq=>?_,?_,λq hq=>(a.ks _ (rk q hq).1).2.2⟩
 .have:aj (fq A rs)=rs.filter λk=>decide (0<vl A k):=by
   unfold aj fq;rw[List.map_map];exact List.map_id' _
  rw[this];exact pw.sublist List.filter_sublist
 .obtain⟨g1,g2,g3⟩:=rk q hq
  have k:=a.ks _ g1;have v:=a.v8 q.1;exact⟨k.1,k.2.1,Nat.lt_of_lt_of_le k.2.2 big,by lia,by lia⟩
 .unfold fq
  rw[List.length_map];refine Nat.le_trans (List.length_filter_le _ _) ?_;rw[p.length_eq];unfold aj;rw[List.length_map];exact a.ln
theorem DD(A:As){i:Nat}{δ δ':Dv}(h:δ[i]? = some (.od (bg A)))(h':δ.set i (.fz (.dict (cG (lI A)))) = δ'):iP i δ = δ':=by
 have q:=oq A;unfold iP;rw[h];simp only[q];exact h'
theorem Ca(cs:List Int)(hc:cs.length<=63)(w l:Nat)(w1:1<=w)(w3:w<=3)(l2:l<=3)(hv ones:Int)(v1:-1000<=hv)(v2:hv<=1000):
  ∃(c:Nat) (ps:As) (ts:List Nat),Bt w l hv (2*w+l+1) c ps ts/\ps.length<=cs.length/\dG [.list (cs.map .int),.tuple [.int w,.int l],.int hv,.int ones]=some (oneD w l hv c (upI ps) ts []):=by
 have hN:2*w+l+1<=10:=by lia
 obtain⟨t,A,ts,y8,y9,h1,h2,h3,e⟩:=uk (.fz (.list (cs.map .int))) (.fz (.tuple [.int w,.int l])) (.fz (.int hv)) ones hN .un cs 0 0 [] [] .un .un (by decide) ⟨.nil,Nat.le_refl _,(λ_ h=>nomatch h),λk=>by simp[vl]⟩ ⟨.nil,Nat.le_refl _,λ_ h=>nomatch h⟩ (by lia)
 rw[Nat.zero_add]at h2 h3;have al:=h2.ln;have tl:=h3.ln;obtain⟨rs,p,pw,ep⟩:=yR A h2.nd (by lia);have ep:=ep 6 [.fz (.list (cs.map .int)),.fz (.tuple [.int w,.int l]),.fz (.int hv),.fz (.int ones),.fz (.int ((2*w+l+1:Nat):Int)),.fz (.int (t:Int)),.fz (.dict (cG (lI A))),.ow (ae ts),y8,y9,.un] rfl rfl;obtain⟨ss,p2,pw2,es⟩:=mx h3.nd (by lia);have big:(2:Nat)^(2*w+l+1)<=fj:=Nat.pow_le_pow_right (by decide) (by lia);obtain⟨k1,k2,k3,k4⟩:=xr h2 hN p pw;have sl:ss.length<64:=by rw[p2.length_eq];lia
 refine⟨t,fq A rs,ss,⟨⟨w1,w3,l2,v1,v2,h1,k1,k2,by lia,pw2,λx hx=>?_,by lia,Nat.le_refl _,.nil,λ_ h=>nomatch h⟩,k4,λx hx=>(h3.ok x (p2.mem_iff.mp hx)).2,sl⟩,by lia,?_⟩
 .have:=h3.ok x (p2.mem_iff.mp hx)
  exact⟨this.1,Nat.lt_of_lt_of_le this.2 big⟩
 .have hd:=DD A (i:=6) (δ:=[.fz (.list (cs.map .int)),.fz (.tuple [.int w,.int l]),.fz (.int hv),.fz (.int ones),.fz (.int ((2*w+l+1:Nat):Int)),.fz (.int (t:Int)),.od (bg A),.ow (ae ts),y8,y9,.un]) (δ':=[.fz (.list (cs.map .int)),.fz (.tuple [.int w,.int l]),.fz (.int hv),.fz (.int ones),.fz (.int ((2*w+l+1:Nat):Int)),.fz (.int (t:Int)),.fz (.dict (cG (lI A))),.ow (ae ts),y8,y9,.un]) rfl rfl
  have mw:=Fw w;have sz:2*(w:Int)+(l:Int)+1=((2*w+l+1:Nat):Int):=by lia
  have pz:((fq A rs).map pD).length<=sizeLine:=by rw[List.length_map,sizeLine_eq];lia
  refine lS rfl (δ':=[.fz (.list (cs.map .int)),.fz (.tuple [.int w,.int l]),.fz (.int hv),.fz (.int ones),.fz (.int ((2*w+l+1:Nat):Int)),.fz (.int (t:Int)),.fz (.dict (cG (lI A))),.fz (.list (ae ts)),y8,y9,.fz (.tuple ((fq A rs).map pD))]) ?_;unfold gS;refine(aN (δ':=[.fz (.list (cs.map .int)),.fz (.tuple [.int w,.int l]),.fz (.int hv),.fz (.int ones),.fz (.int ((2*w+l+1:Nat):Int)),.un,.un,.un,.un,.un,.un]) ?_).trans ((aN (δ':=[.fz (.list (cs.map .int)),.fz (.tuple [.int w,.int l]),.fz (.int hv),.fz (.int ones),.fz (.int ((2*w+l+1:Nat):Int)),.fz (.int ((0:Nat):Int)),.un,.un,.un,.un,.un]) rfl).trans ((aN (δ':=[.fz (.list (cs.map .int)),.fz (.tuple [.int w,.int l]),.fz (.int hv),.fz (.int ones),.fz (.int ((2*w+l+1:Nat):Int)),.fz (.int ((0:Nat):Int)),.od [],.un,.un,.un,.un]) rfl).trans ((aN (δ':=[.fz (.list (cs.map .int)),.fz (.tuple [.int w,.int l]),.fz (.int hv),.fz (.int ones),.fz (.int ((2*w+l+1:Nat):Int)),.fz (.int ((0:Nat):Int)),.od [],.ow [],.un,.un,.un]) rfl).trans ((aN e).trans ((aN (δ':=[.fz (.list (cs.map .int)),.fz (.tuple [.int w,.int l]),.fz (.int hv),.fz (.int ones),.fz (.int ((2*w+l+1:Nat):Int)),.fz (.int (t:Int)),.fz (.dict (cG (lI A))),.ow (ae ts),y8,y9,.fz (.tuple ((fq A rs).map pD))]) ?_).trans ?_)))))
  .have e4:(o2 (o2 (o2 (oC (.int 2)) (o2 (oV 1) (oC (.int 0)) aD) kB) (o2 (oV 1) (oC (.int 1)) aD) bL) (oC (.int 1)) bL) (aV eZ [.list (cs.map .int),.tuple [.int w,.int l],.int hv,.int ones])=some (.int ((2*w+l+1:Nat):Int)):=by
    show(((kB (.int 2) (.int (w:Int))).bind λx=>bL x (.int (l:Int))).bind λx=>bL x (.int 1))=_
    rw[mw,<-sz];rfl
   unfold aE;rw[e4];rfl
  .show aE 10 _ (iP 6 _)=_
   rw[hd];unfold jz;simp only[aE,VL.os,ac,ak]at ep ⊢;rw[ep];simp only[Option.bind_some];rfl
  .show bA _ (qC 7 _)=_
   rw[show qC 7 [.fz (.list (cs.map .int)),.fz (.tuple [.int w,.int l]),.fz (.int hv),.fz (.int ones),.fz (.int ((2*w+l+1:Nat):Int)),.fz (.int (t:Int)),.fz (.dict (cG (lI A))),.ow (ae ts),y8,y9,.fz (.tuple ((fq A rs).map pD))]=[.fz (.list (cs.map .int)),.fz (.tuple [.int w,.int l]),.fz (.int hv),.fz (.int ones),.fz (.int ((2*w+l+1:Nat):Int)),.fz (.int (t:Int)),.fz (.dict (cG (lI A))),.fz (.list (ae ts)),y8,y9,.fz (.tuple ((fq A rs).map pD))]from rfl];have tq:bi [.list (ae ss)]=some (.tuple (ae ss)):=rfl;have up:(upI (fq A rs)).map pQ=(fq A rs).map pD:=g6 _;unfold oneD;rw[up];have es':(o1 (oV 7) gn) [.fz (.list (cs.map .int)),.fz (.tuple [.int w,.int l]),.fz (.int hv),.fz (.int ones),.fz (.int ((2*w+l+1:Nat):Int)),.fz (.int (t:Int)),.fz (.dict (cG (lI A))),.fz (.list (ae ts)),y8,y9,.fz (.tuple ((fq A rs).map pD))]=some (.list (ae ss)):=es;unfold bA VL.os;simp only[ac,ak,es',Option.bind_some,tq];rfl
theorem j1{δ:Dv}{i j:Nat}{f0:Dv->Option D}{fs:Dv->Option (List D)}{t t' B e:Int}{es es':List (ar×D)}(h0:f0 δ = some (.int t))(h3:zm δ[i]? = some es)(hf:fs δ = some [.int B,.int e])(g:ai (.int t) es [.int B,.int e]=some (.int t',es')):
  e9 j i f0 fs ai δ = some (.nx,(δ.set i (.od es')).set j (.fz (.int t'))):=by
 unfold e9;rw[h0,Option.bind_some,h3,Option.bind_some,hf,Option.bind_some,g,Option.bind_some]
theorem tR{A:As}{k v:Nat}(h:k∉aj A):jy A k v=A++[(k,v)]:=by
 unfold jy;rw[if_neg λz=>h ((dY A k).mp z)]
theorem uN(O C Z T y7 y8 y9 y10 y11:Sl):∀(S A:As) (y5 y6:Sl),(aj (A++S)).Nodup->(A++S).length<=1000->∃z5 z6,loop (zt [gN 5,gN 6]) bn (S.map pD) [O,C,Z,.od (bg A),T,y5,y6,y7,y8,y9,y10,y11]=some (.nx,[O,C,Z,.od (bg (A++S)),T,z5,z6,y7,y8,y9,y10,y11])
 |[],A,y5,y6,_,_=>⟨y5,y6,by rw[List.append_nil];rfl⟩
 |p::S,A,y5,y6,nd,hl=>by
  have e1:A++p::S=(A++[p])++S:=by rw[List.append_assoc];rfl
  obtain⟨z5,z6,h⟩:=uN O C Z T y7 y8 y9 y10 y11 S (A++[p]) (.fz (.int (p.1:Int))) (.fz (.int (p.2:Int))) (by rw[<-e1];exact nd) (by rw[<-e1];exact hl);refine⟨z5,z6,?_⟩;rw[e1,<-h];have nk:p.1∉aj A:=λz=>by
   unfold aj at nd z;rw[List.map_append,List.map_cons]at nd;exact(List.nodup_append.mp nd).2.2 _ z _ (.head _) rfl
  have al:(bg A).length<sizeLine:=by
   rw[List.length_append,List.length_cons]at hl;unfold bg;rw[List.length_map,sizeLine_eq];lia
  have pu:=ik A p.1 p.2;rw[tR nk]at pu;show((zt [gN 5,gN 6] (pD p) [O,C,Z,.od (bg A),T,y5,y6,y7,y8,y9,y10,y11]).bind λδ1=>(bn δ1).bind _)=_
  have g:zt [gN 5,gN 6] (pD p) [O,C,Z,.od (bg A),T,y5,y6,y7,y8,y9,y10,y11]=some [O,C,Z,.od (bg A),T,.fz (.int (p.1:Int)),.fz (.int (p.2:Int)),y7,y8,y9,y10,y11]:=rfl;have b:bn [O,C,Z,.od (bg A),T,.fz (.int (p.1:Int)),.fz (.int (p.2:Int)),y7,y8,y9,y10,y11]=some (.nx,[O,C,Z,.od (bg (A++[p])),T,.fz (.int (p.1:Int)),.fz (.int (p.2:Int)),y7,y8,y9,y10,y11]):=by
   simp[bn,dg,jb,al,pu]
  rw[g,Option.bind_some,b];rfl
abbrev cv(x t:Nat)(A:As):Int:=(t:Int)+((sm (λk=>par (k &&& x)) A:Nat):Int)
structure Cn (N:Nat) (t:Nat) (A:As) (n:Nat):Prop where
 t8:t<8
 a:Ag N A n
theorem Cn.add{N t n:Nat}{A:As}(h:Cn N t A n)(hn:n<=900){B:Nat}(hB:B<2^N)(e:Int):∃(t':Nat) (A':As),Cn N t' A' (n+1)/\ai (.int (t:Int)) (bg A) [.int (B:Int),.int e]=some (.int (t':Int),bg A')/\∀x,x%2=1->(cv x t' A'-(cv x t A+e*((par (B &&& x):Nat):Int)))%8=0:=by
 obtain⟨t',A',h1,h2,h3,h4⟩:=nr t A B e (by have:=h.a.ln;lia) h.t8;refine⟨t',A',⟨h1,?_⟩,h3,λx hx=>?_⟩
 .rcases h2 with rfl|⟨v,hv,h2,rfl⟩
  .exact h.a.more
  .exact h.a.put ⟨h2,by unfold hb;lia,by unfold hb;lia⟩ hv
 .have:=h4 h.a.nd x hx
  unfold cv
  lia
theorem Bt.cn{w l:Nat}{hv:Int}{N c:Nat}{ps:As}{ts:List Nat}(A:Bt w l hv N c ps ts):Cn N c ps ps.length:=by
 have nd:=fJ A.S.pk;refine⟨A.S.c8,nd,Nat.le_refl _,λk hk=>?_,λk=>?_⟩
 .obtain⟨p,hp,rfl⟩:=List.mem_map.mp hk
  have:=A.S.pe p hp;exact⟨this.1,this.2.1,A.hp p hp⟩
 .by_cases h:k∈aj ps
  .obtain⟨p,hp,rfl⟩:=List.mem_map.mp h
   rw[eE nd hp];have:=A.S.pe p hp
   lia
  .rw[gm h];lia
theorem Cn.bt{w l:Nat}{hv:Int}{N c t n:Nat}{ps A:As}{ts:List Nat}(B:Bt w l hv N c ps ts)(hN:N<=10)(h:Cn N t A n)(hn:n<=400){rs:List Nat}(p:rs.Perm (aj A))(pw:rs.Pairwise (· < ·)):Bt w l hv N t (fq A rs) ts/\(fq A rs).length<=n/\∀x,(t:Int)+aZ x (upI (fq A rs))=cv x t A:=by
 obtain⟨k1,k2,k3,k4⟩:=xr h.a hN p pw;refine⟨⟨⟨B.S.w1,B.S.w3,B.S.l2,B.S.v1,B.S.v2,h.t8,k1,k2,by lia,B.S.tk,B.S.te,B.S.tl,B.S.hl,B.S.pw,B.S.hb⟩,k4,B.ht,B.t64⟩,k3,λx=>?_⟩
 unfold cv;rw[Ab x A rs h.a.nd p]
theorem sf{α:Type}{f:α -> D}{xs:List α}{k:Nat}(h:k<xs.length):aD (.tuple (xs.map f)) (.int (k:Int))=some (f xs[k]):=by
 have hk:k<(xs.map f).length:=by rw[List.length_map];exact h
 show lN (xs.map f) (k:Int)=_;unfold lN;rw[sg hk];simp[h]
noncomputable def qv:Sf:=fm (oa (ob (o2 (o2 (oV 1) (oC (.int 2)) aM) (oC (.int 0)) o8)) (oa (ob (o2 (VL.os (ac (o2 (oV 0) (oC (.int 4)) aD) (ak)) cw) (oC (.int 0)) j2)) (ob (o2 (VL.os (ac (o2 (oV 0) (oC (.int 3)) aD) (ak)) cw) (oC (.int 0)) j2)))) (aB (aE 7 (o2 (o2 (oV 0) (oC (.int 3)) aD) (o2 (o2 (oV 1) (oC (.int 2)) bh) (VL.os (ac (o2 (oV 0) (oC (.int 3)) aD) (ak)) cw) aM) aD)) (aB (aE 8 (o2 (o2 (oV 0) (oC (.int 4)) aD) (o2 (o2 (oV 1) (oC (.int 26)) bh) (VL.os (ac (o2 (oV 0) (oC (.int 4)) aD) (ak)) cw) aM) aD)) (aB (e9 4 3 (oV 4) (ac (o2 (oV 7) (oC (.int 0)) aD) (ac (o1 (o2 (oV 7) (oC (.int 1)) aD) negD) (ak))) ai) (e9 4 3 (oV 4) (ac (o2 (o2 (oV 7) (oC (.int 0)) aD) (oV 8) d6) (ac (o2 (oV 7) (oC (.int 1)) aD) (ak))) ai)))) (aB (aE 9 (o2 (o2 (oV 1) (oC (.int 2)) bh) (o2 (oC (.int 1)) (oV 2) dN) aM)) (aB (aE 10 (o2 (o2 (oV 1) (oC (.int 514)) bh) (o2 (oC (.int 1)) (oV 2) dN) aM)) (df (oI (VL.os (ac (oV 9) (ac (oV 10) (ac (o2 (oV 9) (oV 10) d6) (ak)))) r8) aY) (gN 5) (bM))))
theorem Du(O:D)(cell Ni:Int)(PL TL:List D)(es es1 es2:List (ar×D))(t t1 t2 p e tie pt:Int)(y5 y6 y7 y8 y9 y10 y11:Sl)
  (o3:aD O (.int 3)=some (.tuple PL)) (o4:aD O (.int 4)=some (.tuple TL)) (c2:cell%2=0) (lp:0<PL.length) (lt:0<TL.length)
  (iq:aD (.tuple PL) (.int (cell/2%(PL.length:Int)))=some (.tuple [.int p,.int e])) (ir:aD (.tuple TL) (.int (cell/26%(TL.length:Int)))=some (.int tie)) (hx:d6 (.int p) (.int tie)=some (.int pt))
  (g1:ai (.int t) es [.int p,.int (-e)]=some (.int t1,es1)) (g2:ai (.int t1) es1 [.int pt,.int e]=some (.int t2,es2)):
  qv [.fz O,.fz (.int cell),.fz (.int Ni),.od es,.fz (.int t),y5,y6,y7,y8,y9,y10,y11]=some (.nx,[.fz O,.fz (.int cell),.fz (.int Ni),.od es2,.fz (.int t2),y5,y6,.fz (.tuple [.int p,.int e]),.fz (.int tie),y9,y10,y11]):=by
 unfold qv;have lp':0<(PL.length:Int):=by lia
 have lt':0<(TL.length:Int):=by lia
 have m1:=bQ (i:=cell/2) (j:=(PL.length:Int)) lp';have m2:=bQ (i:=cell/26) (j:=(TL.length:Int)) lt';have d1:bh (.int cell) (.int 2)=some (.int (cell/2)):=by simp[bh]
 have d2:bh (.int cell) (.int 26)=some (.int (cell/26)):=by simp[bh]
 refine(gu ?_).trans ((aN (δ':=[.fz O,.fz (.int cell),.fz (.int Ni),.od es,.fz (.int t),y5,y6,.fz (.tuple [.int p,.int e]),y8,y9,y10,y11]) ?_).trans ((aN (δ':=[.fz O,.fz (.int cell),.fz (.int Ni),.od es,.fz (.int t),y5,y6,.fz (.tuple [.int p,.int e]),.fz (.int tie),y9,y10,y11]) ?_).trans ((aN (δ':=[.fz O,.fz (.int cell),.fz (.int Ni),.od es1,.fz (.int t1),y5,y6,.fz (.tuple [.int p,.int e]),.fz (.int tie),y9,y10,y11]) ?_).trans ?_)))
 .simp[o3,o4,c2,lp,lt]
 .have:(o2 (o2 (oV 0) (oC (.int 3)) aD) (o2 (o2 (oV 1) (oC (.int 2)) bh) (VL.os (ac (o2 (oV 0) (oC (.int 3)) aD) (ak)) cw) aM) aD) [.fz O,.fz (.int cell),.fz (.int Ni),.od es,.fz (.int t),y5,y6,y7,y8,y9,y10,y11]=some (.tuple [.int p,.int e]):=by
   show(aD O (.int 3)).bind (λx=>((bh (.int cell) (.int 2)).bind λa=>((((aD O (.int 3)).bind λz=>some [z])).bind cw).bind λb=>aM a b).bind λy=>aD x y)=_
   rw[o3,d1];show(aM (.int (cell/2)) (.int (PL.length:Int))).bind (λy=>aD (.tuple PL) y)=_
   rw[m1];exact iq
  unfold aE;rw[this];rfl
 .have:(o2 (o2 (oV 0) (oC (.int 4)) aD) (o2 (o2 (oV 1) (oC (.int 26)) bh) (VL.os (ac (o2 (oV 0) (oC (.int 4)) aD) (ak)) cw) aM) aD) [.fz O,.fz (.int cell),.fz (.int Ni),.od es,.fz (.int t),y5,y6,.fz (.tuple [.int p,.int e]),y8,y9,y10,y11]=some (.int tie):=by
   show(aD O (.int 4)).bind (λx=>((bh (.int cell) (.int 26)).bind λa=>((((aD O (.int 4)).bind λz=>some [z])).bind cw).bind λb=>aM a b).bind λy=>aD x y)=_
   rw[o4,d2];show(aM (.int (cell/26)) (.int (TL.length:Int))).bind (λy=>aD (.tuple TL) y)=_
   rw[m2];exact ir
  unfold aE;rw[this];rfl
 .exact j1 (i:=3) (j:=4) rfl rfl rfl g1
 .refine j1 (i:=3) (j:=4) (B:=pt) rfl rfl ?_ g2
  show(d6 (.int p) (.int tie)).bind _=_;rw[hx];rfl
theorem Dt(O:D)(cell Ni:Int)(es es1 es2 es3:List (ar×D))(t t1 t2 t3 P f s fs:Int)(y5 y6 y7 y8 y9 y10 y11:Sl)(cf:(oa (ob (o2 (o2 (oV 1) (oC (.int 2)) aM) (oC (.int 0)) o8)) (oa (ob (o2 (VL.os (ac (o2 (oV 0) (oC (.int 4)) aD) (ak)) cw) (oC (.int 0)) j2)) (ob (o2 (VL.os (ac (o2 (oV 0) (oC (.int 3)) aD) (ak)) cw) (oC (.int 0)) j2)))) [.fz O,.fz (.int cell),.fz (.int Ni),.od es,.fz (.int t),y5,y6,y7,y8,y9,y10,y11]=some false)
  (hp:dN (.int 1) (.int Ni)=some (.int P)) (p0:0<P) (hf:cell/2%P=f) (hs:cell/514%P=s) (hx:d6 (.int f) (.int s)=some (.int fs))
  (g1:ai (.int t) es [.int f,.int 4]=some (.int t1,es1)) (g2:ai (.int t1) es1 [.int s,.int 4]=some (.int t2,es2)) (g3:ai (.int t2) es2 [.int fs,.int 4]=some (.int t3,es3)):
  qv [.fz O,.fz (.int cell),.fz (.int Ni),.od es,.fz (.int t),y5,y6,y7,y8,y9,y10,y11]=some (.nx,[.fz O,.fz (.int cell),.fz (.int Ni),.od es3,.fz (.int t3),.fz (.int fs),y6,y7,y8,.fz (.int f),.fz (.int s),y11]):=by
 unfold qv;have m1:=bQ (i:=cell/2) (j:=P) p0;have m2:=bQ (i:=cell/514) (j:=P) p0;have d1:bh (.int cell) (.int 2)=some (.int (cell/2)):=by simp[bh]
 have d2:bh (.int cell) (.int 514)=some (.int (cell/514)):=by simp[bh]
 refine(ee cf).trans ((aN (δ':=[.fz O,.fz (.int cell),.fz (.int Ni),.od es,.fz (.int t),y5,y6,y7,y8,.fz (.int f),y10,y11]) ?_).trans ((aN (δ':=[.fz O,.fz (.int cell),.fz (.int Ni),.od es,.fz (.int t),y5,y6,y7,y8,.fz (.int f),.fz (.int s),y11]) ?_).trans ?_))
 .have:(o2 (o2 (oV 1) (oC (.int 2)) bh) (o2 (oC (.int 1)) (oV 2) dN) aM) [.fz O,.fz (.int cell),.fz (.int Ni),.od es,.fz (.int t),y5,y6,y7,y8,y9,y10,y11]=some (.int f):=by
   show(bh (.int cell) (.int 2)).bind (λa=>(dN (.int 1) (.int Ni)).bind λb=>aM a b)=_
   rw[d1,hp];show aM (.int (cell/2)) (.int P)=_;rw[m1,hf]
  unfold aE;rw[this];rfl
 .have:(o2 (o2 (oV 1) (oC (.int 514)) bh) (o2 (oC (.int 1)) (oV 2) dN) aM) [.fz O,.fz (.int cell),.fz (.int Ni),.od es,.fz (.int t),y5,y6,y7,y8,.fz (.int f),y10,y11]=some (.int s):=by
   show(bh (.int cell) (.int 514)).bind (λa=>(dN (.int 1) (.int Ni)).bind λb=>aM a b)=_
   rw[d2,hp];show aM (.int (cell/514)) (.int P)=_;rw[m2,hs]
  unfold aE;rw[this];rfl
 .have li:(oI (VL.os (ac (oV 9) (ac (oV 10) (ac (o2 (oV 9) (oV 10) d6) (ak)))) r8) aY) [.fz O,.fz (.int cell),.fz (.int Ni),.od es,.fz (.int t),y5,y6,y7,y8,.fz (.int f),.fz (.int s),y11]=some [.int f,.int s,.int fs]:=by
   have q:(ac (oV 9) (ac (oV 10) (ac (o2 (oV 9) (oV 10) d6) (ak)))) [.fz O,.fz (.int cell),.fz (.int Ni),.od es,.fz (.int t),y5,y6,y7,y8,.fz (.int f),.fz (.int s),y11]=some [.int f,.int s,.int fs]:=by
    show(some (PyData.int f)).bind (λx=>((some (PyData.int s)).bind λy=>(((d6 (.int f) (.int s)).bind λz=>(some ([]:List D)).bind λr=>some (z::r)).bind λr=>some (y::r))).bind λr=>some (x::r))=_
    rw[hx];rfl
   unfold oI VL.os;rw[q];rfl
  unfold df;rw[li];show loop (gN 5) bM [.int f,.int s,.int fs] _=_;have st:∀(es es':List (ar×D)) (t t' b:Int) (y5:Sl),ai (.int t) es [.int b,.int 4]=some (.int t',es')->bM [.fz O,.fz (.int cell),.fz (.int Ni),.od es,.fz (.int t),.fz (.int b),y6,y7,y8,.fz (.int f),.fz (.int s),y11]=some (.nx,[.fz O,.fz (.int cell),.fz (.int Ni),.od es',.fz (.int t'),.fz (.int b),y6,y7,y8,.fz (.int f),.fz (.int s),y11]):=λes es' t t' b y5 g=>j1 (i:=3) (j:=4) (B:=b) rfl rfl rfl g
  rw[bJ (δ1:=[.fz O,.fz (.int cell),.fz (.int Ni),.od es,.fz (.int t),.fz (.int f),y6,y7,y8,.fz (.int f),.fz (.int s),y11]) (by rfl) (st _ _ _ _ _ y5 g1),bJ (δ1:=[.fz O,.fz (.int cell),.fz (.int Ni),.od es1,.fz (.int t1),.fz (.int s),y6,y7,y8,.fz (.int f),.fz (.int s),y11]) (by rfl) (st _ _ _ _ _ y5 g2),bJ (δ1:=[.fz O,.fz (.int cell),.fz (.int Ni),.od es2,.fz (.int t2),.fz (.int fs),y6,y7,y8,.fz (.int f),.fz (.int s),y11]) (by rfl) (st _ _ _ _ _ y5 g3)];rfl
theorem CM{x t:Nat}(h:vb x t=false)(s:Nat):par ((s ^^^ t) &&& x)=par (s &&& x):=by
 have h0:par (t &&& x)=0:=by
  have:=MA.ce (t &&& x);unfold vb at h;have:¬par (t &&& x)=1:=by simpa using h
  lia
 have:=MA.ce (s &&& x);rw[CP,h0,Nat.add_zero,Nat.mod_eq_of_lt this]
theorem F3{w l:Nat}{hv:Int}{N c:Nat}{ps:As}{ts:List Nat}(hN:N<=10)(A:Bt w l hv N c ps ts)(hl:ps.length<=300)(cell:Int)(y5 y6:Sl):
  ∃(t:Nat) (D:As) (z5 z6 z7 z8 z9 z10:Sl),Cn N t D (ps.length+3)/\(∀x,x%2=1->(∀t∈ts,vb x t=false)->(cv x t D-cv x c ps)%8=0)/\
   qv [.fz (oneD w l hv c (upI ps) ts []),.fz (.int cell),.fz (.int (N:Int)),.od (bg ps),.fz (.int (c:Int)),y5,y6,.un,.un,.un,.un,.un]=some (.nx,[.fz (oneD w l hv c (upI ps) ts []),.fz (.int cell),.fz (.int (N:Int)),.od (bg D),.fz (.int (t:Int)),z5,z6,z7,z8,z9,z10,.un]):=by
 have o3:aD (oneD w l hv c (upI ps) ts []) (.int 3)=some (.tuple (ps.map pD)):=by rw[kw,g6]
 have o4:=mF w l hv c (upI ps) ts [];have cn:=A.cn;by_cases h:cell%2=0/\0<ts.length/\0<ps.length
 .obtain⟨h2,ht,hp⟩:=h
  obtain⟨q,hq⟩:∃q:Nat,(q:Int)=cell/2%(ps.length:Int):=⟨(cell/2%(ps.length:Int)).toNat,Int.toNat_of_nonneg (Int.emod_nonneg _ (by lia))⟩;have ql:q<ps.length:=by
   have:=Int.emod_lt_of_pos (cell/2) (show(0:Int)<(ps.length:Int) by lia)
   lia
  obtain⟨r,hr⟩:∃r:Nat,(r:Int)=cell/26%(ts.length:Int):=⟨(cell/26%(ts.length:Int)).toNat,Int.toNat_of_nonneg (Int.emod_nonneg _ (by lia))⟩;have rl:r<ts.length:=by
   have:=Int.emod_lt_of_pos (cell/26) (show(0:Int)<(ts.length:Int) by lia)
   lia
  have pm:ps[q]∈ps:=List.getElem_mem ql;have tm:ts[r]∈ts:=List.getElem_mem rl;obtain⟨t1,A1,c1,g1,v1⟩:=cn.add (by lia) (A.hp _ pm) (-((ps[q].2:Nat):Int));obtain⟨t2,A2,c2,g2,v2⟩:=c1.add (by lia) (Nat.xor_lt_two_pow (A.hp _ pm) (A.ht _ tm)) ((ps[q].2:Nat):Int);refine⟨t2,A2,_,_,_,_,_,_,⟨c2.t8,c2.a.more⟩,λx hx hs=>?_,Du _ cell N (ps.map pD) (ae ts) (bg ps) (bg A1) (bg A2) c t1 t2 ps[q].1 ps[q].2 ts[r] ((ps[q].1 ^^^ ts[r]:Nat):Int) _ _ _ _ _ _ _ o3 o4 h2 (by rw[List.length_map];exact hp) (by rw[ba];exact ht) ?_ ?_ ?_ g1 g2⟩
  .have a1:=v1 x hx
   have a2:=v2 x hx;rw[CM (hs _ tm)]at a2;have l:=MA.ce (ps[q].1 &&& x);rcases (by lia:par (ps[q].1 &&& x)=0\/par (ps[q].1 &&& x)=1)with e|e<;>rw[e]at a1 a2<;>lia
  .rw[List.length_map,<-hq]
   exact sf ql
  .rw[ba,<-hr]
   exact sf rl
  .show some (PyData.int (Builtin.bitXor _ _))=_
   rw[MA.sQ]
 .have P0:0<2^N:=Nat.two_pow_pos N
  have fr:∀z:Int,∃f:Nat,(f:Int)=z%((2^N:Nat):Int)/\f<2^N:=λz=>by
   have h1:=Int.emod_nonneg z (show((2^N:Nat):Int)≠0 by lia);have h2:=Int.emod_lt_of_pos z (show(0:Int)<((2^N:Nat):Int) by lia);exact⟨(z%((2^N:Nat):Int)).toNat,Int.toNat_of_nonneg h1,by lia⟩
  obtain⟨f,hf,fl⟩:=fr (cell/2);obtain⟨s,hs,sl⟩:=fr (cell/514);obtain⟨t1,A1,c1,g1,v1⟩:=cn.add (by lia) fl 4;obtain⟨t2,A2,c2,g2,v2⟩:=c1.add (by lia) sl 4;obtain⟨t3,A3,c3,g3,v3⟩:=c2.add (by lia) (Nat.xor_lt_two_pow fl sl) 4;have hpw:=kr (k:=N) (by lia);refine⟨t3,A3,_,_,_,_,_,_,c3,λx hx _=>?_,Dt _ cell N (bg ps) (bg A1) (bg A2) (bg A3) c t1 t2 t3 ((2^N:Nat):Int) f s ((f ^^^ s:Nat):Int) _ _ _ _ _ _ _ ?_ hpw (by lia) hf.symm hs.symm ?_ g1 g2 g3⟩
  .have a1:=v1 x hx
   have a2:=v2 x hx;have a3:=v3 x hx;rw[CP]at a3;have l1:=MA.ce (f &&& x);have l2:=MA.ce (s &&& x);rcases (by lia:par (f &&& x)=0\/par (f &&& x)=1)with e|e<;>rcases (by lia:par (s &&& x)=0\/par (s &&& x)=1)with e' | e'<;>rw[e]at a1 a3<;>rw[e']at a2 a3<;>simp only[Nat.add_zero,Nat.zero_add,Nat.zero_mod,Nat.reduceMod,Nat.reduceAdd]at a3<;>lia
  .by_cases h1:cell%2=0
   .by_cases h2:0<ts.length
    .have h3:¬ 0<ps.length:=λz=>h ⟨h1,h2,z⟩
     simp[o3,o4,h1,h2,h3,ba]
    .simp[o4,h1,h2,ba]
   .simp[h1]
  .show some (PyData.int (Builtin.bitXor _ _))=_
   rw[MA.sQ]
theorem Ds(O S0 H TT:D)(cell N t:Int)(L:List D)(y3 z5 z6 z7 z8 z9 z10:Sl)(o0:aD O (.int 0)=some S0)(o1:aD O (.int 1)=some H)(o4:aD O (.int 4)=some TT):
  (bA (VL.os (ac (o2 (oV 0) (oC (.int 0)) aD) (ac (o2 (oV 0) (oC (.int 1)) aD) (ac (oV 4) (ac (oV 11) (ac (o2 (oV 0) (oC (.int 4)) aD) (ac (VL.os (ak) aU) (ak))))))) aU)) [.fz O,.fz (.int cell),.fz (.int N),y3,.fz (.int t),z5,z6,z7,z8,z9,z10,.fz (.tuple L)]=some (.rt (.tuple [S0,H,.int t,.tuple L,TT,.tuple []]),[.fz O,.fz (.int cell),.fz (.int N),y3,.fz (.int t),z5,z6,z7,z8,z9,z10,.fz (.tuple L)]):=by
 simp[bA,o0,o1,o4,aU,sizeLine]
theorem AN{w l:Nat}{hv:Int}{N c:Nat}{ps:As}{ts:List Nat}(hN:N<=10)(A:Bt w l hv N c ps ts)(hl:ps.length<=300)(cell:Int):
  ∃(c':Nat) (ps':As),Bt w l hv N c' ps' ts/\ps'.length<=ps.length+3/\(∀x,x%2=1->(∀t∈ts,vb x t=false)->((c':Int)+aZ x (upI ps'))%8=((c:Int)+aZ x (upI ps))%8)/\
   bd [oneD w l hv c (upI ps) ts [],.int cell,.int (N:Int)]=some (oneD w l hv c' (upI ps') ts []):=by
 have o3:aD (oneD w l hv c (upI ps) ts []) (.int 3)=some (.tuple (ps.map pD)):=by rw[kw,g6]
 have o2':=mG w l hv c (upI ps) ts [];have o0:=xG w l hv c (upI ps) ts [];have o1':=mH w l hv c (upI ps) ts [];have o4:=mF w l hv c (upI ps) ts [];obtain⟨y5,y6,ef⟩:=uN (.fz (oneD w l hv c (upI ps) ts [])) (.fz (.int cell)) (.fz (.int (N:Int))) (.fz (.int (c:Int))) .un .un .un .un .un ps [] .un .un (fJ A.S.pk) (by rw[List.nil_append];lia);rw[List.nil_append]at ef;obtain⟨t,D,z5,z6,z7,z8,z9,z10,cn,val,eb⟩:=F3 hN A hl cell y5 y6;have dl:=cn.a.ln;obtain⟨rs,p,pw,ep⟩:=yR D cn.a.nd (by lia);have ep:=ep 3 [.fz (oneD w l hv c (upI ps) ts []),.fz (.int cell),.fz (.int (N:Int)),.fz (.dict (cG (lI D))),.fz (.int (t:Int)),z5,z6,z7,z8,z9,z10,.un] rfl rfl;obtain⟨B,bl,bv⟩:=cn.bt A hN (by lia) p pw;refine⟨t,fq D rs,B,bl,λx hx hs=>?_,?_⟩
 .have q:=val x hx hs
  have r1:=bv x;have r2:cv x c ps=(c:Int)+aZ x (upI ps):=by unfold cv;rw[ic]
  lia
 .have hd:=DD D (i:=3) (δ:=[.fz (oneD w l hv c (upI ps) ts []),.fz (.int cell),.fz (.int (N:Int)),.od (bg D),.fz (.int (t:Int)),z5,z6,z7,z8,z9,z10,.un]) (δ':=[.fz (oneD w l hv c (upI ps) ts []),.fz (.int cell),.fz (.int (N:Int)),.fz (.dict (cG (lI D))),.fz (.int (t:Int)),z5,z6,z7,z8,z9,z10,.un]) rfl rfl
  have pz:((fq D rs).map pD).length<=sizeLine:=by rw[List.length_map,sizeLine_eq];lia
  refine lS rfl (δ':=[.fz (oneD w l hv c (upI ps) ts []),.fz (.int cell),.fz (.int (N:Int)),.fz (.dict (cG (lI D))),.fz (.int (t:Int)),z5,z6,z7,z8,z9,z10,.fz (.tuple ((fq D rs).map pD))]) ?_;unfold cR;refine(aN (δ':=[.fz (oneD w l hv c (upI ps) ts []),.fz (.int cell),.fz (.int (N:Int)),.od [],.un,.un,.un,.un,.un,.un,.un,.un]) rfl).trans ((aN (δ':=[.fz (oneD w l hv c (upI ps) ts []),.fz (.int cell),.fz (.int (N:Int)),.od (bg []),.fz (.int (c:Int)),.un,.un,.un,.un,.un,.un,.un]) ?_).trans ((aN (δ':=[.fz (oneD w l hv c (upI ps) ts []),.fz (.int cell),.fz (.int (N:Int)),.od (bg ps),.fz (.int (c:Int)),y5,y6,.un,.un,.un,.un,.un]) ?_).trans ((aN eb).trans ((aN (δ':=[.fz (oneD w l hv c (upI ps) ts []),.fz (.int cell),.fz (.int (N:Int)),.fz (.dict (cG (lI D))),.fz (.int (t:Int)),z5,z6,z7,z8,z9,z10,.fz (.tuple ((fq D rs).map pD))]) ?_).trans ?_))))
  .have:(o2 (oV 0) (oC (.int 2)) aD) [.fz (oneD w l hv c (upI ps) ts []),.fz (.int cell),.fz (.int (N:Int)),.od [],.un,.un,.un,.un,.un,.un,.un,.un]=some (.int (c:Int)):=o2'
   unfold aE;rw[this];rfl
  .have:(oI (o2 (oV 0) (oC (.int 3)) aD) aY) [.fz (oneD w l hv c (upI ps) ts []),.fz (.int cell),.fz (.int (N:Int)),.od (bg []),.fz (.int (c:Int)),.un,.un,.un,.un,.un,.un,.un]=some (ps.map pD):=by
    unfold oI;rw[show(o2 (oV 0) (oC (.int 3)) aD) [.fz (oneD w l hv c (upI ps) ts []),.fz (.int cell),.fz (.int (N:Int)),.od (bg []),.fz (.int (c:Int)),.un,.un,.un,.un,.un,.un,.un]=some (.tuple (ps.map pD))from o3];rfl
   unfold df;rw[this];exact ef
  .show aE 11 _ (iP 3 _)=_
   rw[hd];unfold dR;simp only[aE,VL.os,ac,ak]at ep ⊢;rw[ep];simp only[Option.bind_some];rfl
  .have up:(upI (fq D rs)).map pQ=(fq D rs).map pD:=g6 _
   have r:=Ds (oneD w l hv c (upI ps) ts []) _ _ _ cell N t ((fq D rs).map pD) (.fz (.dict (cG (lI D)))) z5 z6 z7 z8 z9 z10 o0 o1' o4;rw[<-up]at r ⊢;exact r
theorem yi{α:Type}{f:α -> D}{xs:List α}{k:Nat}(h:k<xs.length):aD (.list (xs.map f)) (.int (k:Int))=some (f xs[k]):=sf h
theorem xh(ts:List Nat)(k v:Nat):(ae ts).set k (.int ((v:Nat):Int))=ae (ts.set k v):=by unfold ae;rw[List.map_set]
theorem G4(ts:List Nat)(cell:Int)(a o v:Nat)(rs:List Nat)(ha:a<ts.length)(ho:o<ts.length)(l2:1<ts.length)(ea:cell%(ts.length:Int)=(a:Int))(eo:((a:Int)+1+cell/4%((ts.length:Int)-1))%(ts.length:Int)=(o:Int))(hv:ts[a] ^^^ ts[o]=v)
  (hs:fC (.list (ae (ts.set a v)))=some (.list (ae rs))):bE [.tuple (ae ts),.int cell]=some (.tuple (ae rs)):=by
 have ln:=ba ts;have i1:aD (.list (ae ts)) (.int (a:Int))=some (.int ((ts[a]:Nat):Int)):=yi ha;have i2:aD (.list (ae ts)) (.int (o:Int))=some (.int ((ts[o]:Nat):Int)):=yi ho;have x:d6 (.int ((ts[a]:Nat):Int)) (.int ((ts[o]:Nat):Int))=some (.int (v:Int)):=by
  show some (PyData.int (Builtin.bitXor _ _))=_;rw[MA.sQ,hv]
 have p0:(0:Int)<(ts.length:Int):=by lia
 have p1:(0:Int)<(ts.length:Int)-1:=by lia
 have m1:=bQ (i:=cell) p0;have m2:=bQ (i:=cell/4) p1;have m3:=bQ (i:=(a:Int)+1+cell/4%((ts.length:Int)-1)) p0;have tq:bi [.list (ae rs)]=some (.tuple (ae rs)):=rfl;refine lS rfl (δ':=[.fz (.tuple (ae ts)),.fz (.int cell),.fz (.list (ae (ts.set a v))),.fz (.int (a:Int)),.fz (.int (o:Int))]) ?_;unfold dX;refine(aN (δ':=[.fz (.tuple (ae ts)),.fz (.int cell),.ow (ae ts),.un,.un]) rfl).trans ((aN (δ':=[.fz (.tuple (ae ts)),.fz (.int cell),.ow (ae (ts.set a v)),.fz (.int (a:Int)),.fz (.int (o:Int))]) ((gu ?_).trans ((aN (δ':=[.fz (.tuple (ae ts)),.fz (.int cell),.ow (ae ts),.fz (.int (a:Int)),.un]) ?_).trans ((aN (δ':=[.fz (.tuple (ae ts)),.fz (.int cell),.ow (ae ts),.fz (.int (a:Int)),.fz (.int (o:Int))]) ?_).trans ?_)))).trans ?_)
 .have:(1:Int)<(ts.length:Int):=by lia
  simp[ln,this]
 .simp[ln,m1,ea,aE]
 .simp[ln,m2,m3,eo,aE]
 .have q1:(rX 2 (oV 3)) [.fz (.tuple (ae ts)),.fz (.int cell),.ow (ae ts),.fz (.int (a:Int)),.fz (.int (o:Int))]=some (.int ((ts[a]:Nat):Int)):=i1
  have q2:(rX 2 (oV 4)) [.fz (.tuple (ae ts)),.fz (.int cell),.ow (ae ts),.fz (.int (a:Int)),.fz (.int (o:Int))]=some (.int ((ts[o]:Nat):Int)):=i2;have q3:(o2 (rX 2 (oV 3)) (rX 2 (oV 4)) d6) [.fz (.tuple (ae ts)),.fz (.int cell),.ow (ae ts),.fz (.int (a:Int)),.fz (.int (o:Int))]=some (.int (v:Int)):=by
   unfold o2;rw[q1,q2];exact x
  have q4:zY (ae ts) (.int (a:Int)) (.int (v:Int))=some (ae (ts.set a v)):=by
   rw[pN,sg (by rw[ln];exact ha),Option.map_some,xh]
  unfold Cf;rw[q3];show(zY (ae ts) (.int (a:Int)) (.int (v:Int))).bind _=_;rw[q4];rfl
 .show(bA (VL.os (ac (o1 (oV 2) fC) (ak)) bi)) [.fz (.tuple (ae ts)),.fz (.int cell),.fz (.list (ae (ts.set a v))),.fz (.int (a:Int)),.fz (.int (o:Int))]=_
  simp[bA,hs,tq]
theorem G3(ts:List Nat)(cell:Int)(rs:List Nat)(l2:¬ 1<ts.length)(hs:fC (.list (ae ts))=some (.list (ae rs))):bE [.tuple (ae ts),.int cell]=some (.tuple (ae rs)):=by
 have ln:=ba ts;have tq:bi [.list (ae rs)]=some (.tuple (ae rs)):=rfl;refine lS rfl (δ':=[.fz (.tuple (ae ts)),.fz (.int cell),.fz (.list (ae ts)),.un,.un]) ?_;unfold dX;refine(aN (δ':=[.fz (.tuple (ae ts)),.fz (.int cell),.ow (ae ts),.un,.un]) rfl).trans ((aN (δ':=[.fz (.tuple (ae ts)),.fz (.int cell),.ow (ae ts),.un,.un]) ((ee ?_).trans rfl)).trans ?_)
 .have:¬(1:Int)<(ts.length:Int):=by lia
  simp[ln,this]
 .show(bA (VL.os (ac (o1 (oV 2) fC) (ak)) bi)) [.fz (.tuple (ae ts)),.fz (.int cell),.fz (.list (ae ts)),.un,.un]=_
  simp[bA,hs,tq]
theorem wT{l l':List Nat}(h:∀t,t∈l↔t∈l')(a:Nat):Sp l a↔Sp l' a:=⟨λq=>q.sub λo ho=>.one ((h o).mp ho),λq=>q.sub λo ho=>.one ((h o).mpr ho)⟩
theorem Cb{ts:List Nat}{a o:Nat}(ha:a<ts.length)(ho:o<ts.length)(ne:a≠o)(b:Nat):Sp (ts.set a (ts[a] ^^^ ts[o])) b↔Sp ts b:=by
 have mo:ts[o]∈ts.set a (ts[a] ^^^ ts[o]):=List.mem_iff_getElem?.mpr ⟨o,by rw[List.getElem?_set_ne ne,List.getElem?_eq_getElem ho]⟩;constructor
 .intro h
  refine h.sub λc hc=>?_
  rcases List.mem_or_eq_of_mem_set hc with q|q
  .exact .one q
  .rw[q];exact(Sp.one (List.getElem_mem ha)).xor (.one (List.getElem_mem ho))
 .intro h
  refine h.sub λc hc=>?_
  obtain⟨i,hi,rfl⟩:=List.mem_iff_getElem.mp hc;by_cases q:i=a
  .subst q
   have m:ts[i] ^^^ ts[o]∈ts.set i (ts[i] ^^^ ts[o]):=List.mem_iff_getElem?.mpr ⟨i,by rw[List.getElem?_set_self hi]⟩;have:=(Sp.one m).xor (.one mo)
   rwa [eB]at this
  .exact .one (List.mem_iff_getElem?.mpr ⟨i,by rw[List.getElem?_set_ne (Ne.symm q),List.getElem?_eq_getElem hi]⟩)
theorem zC{w l:Nat}{hv:Int}{N c:Nat}{ps:As}{ts:List Nat}(hN:N<=10)(A:Bt w l hv N c ps ts)(cell:Int):∃rs:List Nat,Bt w l hv N c ps rs/\(∀a,Sp rs a↔Sp ts a)/\bE [.tuple (ae ts),.int cell]=some (.tuple (ae rs)):=by
 have big:(2:Nat)^N<=fj:=Nat.pow_le_pow_right (by decide) (by lia);have t64:=A.t64;have mk:∀{xs rs:List Nat},rs.Pairwise (· < ·)->(∀t,t∈rs↔t∈xs)->rs.length<=xs.length->xs.length=ts.length->(∀t∈xs,0<t/\t<2^N)->Bt w l hv N c ps rs:=λ{xs rs} pw m ln e ok=>
  ⟨⟨A.S.w1,A.S.w3,A.S.l2,A.S.v1,A.S.v2,A.S.c8,A.S.pk,A.S.pe,A.S.pl,pw,λt ht=>⟨(ok t ((m t).mp ht)).1,Nat.lt_of_lt_of_le (ok t ((m t).mp ht)).2 big⟩,by lia,A.S.hl,A.S.pw,A.S.hb⟩,A.hp,λt ht=>(ok t ((m t).mp ht)).2,by lia⟩
 have ok0:∀t∈ts,0<t/\t<2^N:=λt ht=>⟨(A.S.te t ht).1,A.ht t ht⟩
 by_cases h:1<ts.length
 .obtain⟨a,ea⟩:∃a:Nat,(a:Int)=cell%(ts.length:Int):=⟨(cell%(ts.length:Int)).toNat,Int.toNat_of_nonneg (Int.emod_nonneg _ (by lia))⟩
  have al:a<ts.length:=by
   have:=Int.emod_lt_of_pos cell (show(0:Int)<(ts.length:Int) by lia)
   lia
  obtain⟨d,ed⟩:∃d:Nat,(d:Int)=cell/4%((ts.length:Int)-1):=⟨(cell/4%((ts.length:Int)-1)).toNat,Int.toNat_of_nonneg (Int.emod_nonneg _ (by lia))⟩;have dl:d<ts.length-1:=by
   have:=Int.emod_lt_of_pos (cell/4) (show(0:Int)<(ts.length:Int)-1 by lia)
   lia
  have eo:((a:Int)+1+cell/4%((ts.length:Int)-1))%(ts.length:Int)=(((a+1+d)%ts.length:Nat):Int):=by
   rw[<-ed,Int.natCast_emod];rfl
  have ol:(a+1+d)%ts.length<ts.length:=Nat.mod_lt _ (by lia);have ne:a≠(a+1+d)%ts.length:=by
   by_cases q:a+1+d<ts.length
   .rw[Nat.mod_eq_of_lt q];lia
   .rw[Nat.mod_eq_sub_mod (by lia),Nat.mod_eq_of_lt (by lia)];lia
  generalize (a+1+d)%ts.length=o at eo ol ne;have xl:(ts.set a (ts[a] ^^^ ts[o])).length=ts.length:=List.length_set;obtain⟨rs,pw,m,ln,es,_⟩:=pE (ts.set a (ts[a] ^^^ ts[o])) (by lia);have dif:ts[a]≠ts[o]:=λz=>ne ((List.getElem_inj (fJ A.S.tk)).mp z)
  refine⟨rs,mk pw m ln xl λt ht=>?_,λb=>(wT m b).trans (Cb al ol ne b),G4 ts cell a o _ rs al ol h ea.symm eo rfl es⟩
  rcases List.mem_or_eq_of_mem_set ht with q|q
  .exact ok0 t q
  .rw[q]
   refine⟨Nat.pos_of_ne_zero λz=>dif ?_,Nat.xor_lt_two_pow (A.ht _ (List.getElem_mem al)) (A.ht _ (List.getElem_mem ol))⟩
   have y:=eB ts[a] ts[o];rw[z,Nat.zero_xor]at y;exact y.symm
 .obtain⟨rs,pw,m,ln,es,_⟩:=pE ts t64
  exact⟨rs,mk pw m ln rfl ok0,wT m,G3 ts cell rs h es⟩
theorem Hi{ts:List Nat}{x:Nat}(h:∀t∈ts,vb x t=false){a:Nat}(s:Sp ts a):vb x a=false:=by
 induction s with
 |zero=>unfold vb;rw[Nat.zero_and,MA.dD];rfl
 |add g _ ih=>rw[nB,h _ g,ih];rfl
structure Al (w l:Nat) (hv:Int) (N c:Nat) (ps:As) (ts:List Nat) (c':Nat) (ps':As) (ts':List Nat) (n:Nat):Prop where
 B:Bt w l hv N c' ps' ts'
 ln:ps'.length<=n
 sp:∀a,Sp ts a↔Sp ts' a
 val:∀x,x%2=1->(∀t∈ts,vb x t=false)->((c':Int)+aZ x (upI ps'))%8=((c:Int)+aZ x (upI ps))%8
theorem AF(S0 F CUT y8 y9 y10 y11 y12 y13 y14 y15:Sl)(SH ONE O H T P TS R:D)(N cell:Int)(h3:cell%3=0)(o1':aD ONE (.int 1)=some H)(o2':aD O (.int 2)=some T)(o3:aD O (.int 3)=some P)(o4:aD O (.int 4)=some TS)(g:bE [TS,.int (cell/3)]=some R):
  gI [S0,F,.fz SH,.fz (.int N),CUT,.fz ONE,.fz O,.fz (.int cell),y8,y9,y10,y11,y12,y13,y14,y15]=some (.nx,[S0,F,.fz SH,.fz (.int N),CUT,.fz ONE,.fz (.tuple [SH,H,T,P,R,.tuple []]),.fz (.int cell),y8,y9,y10,y11,y12,y13,y14,y15]):=by
 unfold gI;refine(gu (by simp[h3])).trans ?_;simp[aE,o1',o2',o3,o4,g,aU,sizeLine]
theorem AG(S0 F SH CUT ONE y8 y9 y10 y11 y12 y13 y14 y15:Sl)(O R:D)(N cell:Int)(h3:¬cell%3=0)(g:bd [O,.int (cell/3),.int N]=some R):
  gI [S0,F,SH,.fz (.int N),CUT,ONE,.fz O,.fz (.int cell),y8,y9,y10,y11,y12,y13,y14,y15]=some (.nx,[S0,F,SH,.fz (.int N),CUT,ONE,.fz R,.fz (.int cell),y8,y9,y10,y11,y12,y13,y14,y15]):=by
 unfold gI;refine(ee (by simp[h3])).trans ?_;simp[aE,g]
theorem ui{w l:Nat}{hv:Int}{N c:Nat}{ps:As}{ts:List Nat}(hN:N<=10)(S0 F CUT y8 y9 y10 y11 y12 y13 y14 y15:Sl):∀(cs:List Int) (n c':Nat) (ps':As) (ts':List Nat) (y7:Sl),Al w l hv N c ps ts c' ps' ts' n->n+3*cs.length<=300 ->
  ∃(c2:Nat) (ps2:As) (ts2:List Nat) (z7:Sl),Al w l hv N c ps ts c2 ps2 ts2 300/\loop (gN 7) gI (cs.map .int) [S0,F,.fz (.tuple [.int w,.int l]),.fz (.int (N:Int)),CUT,.fz (oneD w l hv c (upI ps) ts []),.fz (oneD w l hv c' (upI ps') ts' []),y7,y8,y9,y10,y11,y12,y13,y14,y15] =
   some (.nx,[S0,F,.fz (.tuple [.int w,.int l]),.fz (.int (N:Int)),CUT,.fz (oneD w l hv c (upI ps) ts []),.fz (oneD w l hv c2 (upI ps2) ts2 []),z7,y8,y9,y10,y11,y12,y13,y14,y15])
 |[],n,c',ps',ts',y7,a,hn=>⟨c',ps',ts',y7,⟨a.B,by have:=a.ln;lia,a.sp,a.val⟩,rfl⟩
 |cell::cs,n,c',ps',ts',y7,a,hn=>by
  rw[List.length_cons]at hn;have st:∃(c2:Nat) (ps2:As) (ts2:List Nat),Al w l hv N c ps ts c2 ps2 ts2 (n+3)/\gI [S0,F,.fz (.tuple [.int w,.int l]),.fz (.int (N:Int)),CUT,.fz (oneD w l hv c (upI ps) ts []),.fz (oneD w l hv c' (upI ps') ts' []),.fz (.int cell),y8,y9,y10,y11,y12,y13,y14,y15]=some (.nx,[S0,F,.fz (.tuple [.int w,.int l]),.fz (.int (N:Int)),CUT,.fz (oneD w l hv c (upI ps) ts []),.fz (oneD w l hv c2 (upI ps2) ts2 []),.fz (.int cell),y8,y9,y10,y11,y12,y13,y14,y15]):=by
   have ln:=a.ln;by_cases h3:cell%3=0
   .obtain⟨rs,b,sp,g⟩:=zC hN a.B (cell/3)
    refine⟨c',ps',rs,⟨b,by lia,λz=>(a.sp z).trans (sp z).symm,a.val⟩,?_⟩
    exact AF S0 F CUT y8 y9 y10 y11 y12 y13 y14 y15 _ _ _ _ _ _ _ _ N cell h3 (mH w l hv c (upI ps) ts []) (mG w l hv c' (upI ps') ts' []) (kw w l hv c' (upI ps') ts' []) (mF w l hv c' (upI ps') ts' []) g
   .obtain⟨c2,ps2,b,bl,v,g⟩:=AN hN a.B (by lia) (cell/3)
    refine⟨c2,ps2,ts',⟨b,by lia,a.sp,λx hx hs=>?_⟩,AG S0 F _ CUT _ y8 y9 y10 y11 y12 y13 y14 y15 _ _ N cell h3 g⟩
    rw[v x hx λt ht=>Hi hs ((a.sp t).mpr (.one ht)),a.val x hx hs]
  obtain⟨c2,ps2,ts2,a2,e2⟩:=st;obtain⟨c3,ps3,ts3,z7,a3,e3⟩:=ui hN S0 F CUT y8 y9 y10 y11 y12 y13 y14 y15 cs (n+3) c2 ps2 ts2 (.fz (.int cell)) a2 (by lia);refine⟨c3,ps3,ts3,z7,a3,?_⟩;rw[List.map_cons,bJ (δ1:=[S0,F,.fz (.tuple [.int w,.int l]),.fz (.int (N:Int)),CUT,.fz (oneD w l hv c (upI ps) ts []),.fz (oneD w l hv c' (upI ps') ts' []),.fz (.int cell),y8,y9,y10,y11,y12,y13,y14,y15]) (by rfl) e2];exact e3
theorem uq(x0 x1 x2 x3 x4 x5 x6 x7 x8 x9 x10 x14 x15:Sl):∀(S A:As) (y5 y6:Sl),(aj (A++S)).Nodup->(A++S).length<=1000->∃z5 z6,loop (zt [gN 12,gN 13]) ja (S.map pD) [x0,x1,x2,x3,x4,x5,x6,x7,x8,x9,x10,.od (bg A),y5,y6,x14,x15]=some (.nx,[x0,x1,x2,x3,x4,x5,x6,x7,x8,x9,x10,.od (bg (A++S)),z5,z6,x14,x15])
 |[],A,y5,y6,_,_=>⟨y5,y6,by rw[List.append_nil];rfl⟩
 |p::S,A,y5,y6,nd,hl=>by
  have e1:A++p::S=(A++[p])++S:=by rw[List.append_assoc];rfl
  obtain⟨z5,z6,h⟩:=uq x0 x1 x2 x3 x4 x5 x6 x7 x8 x9 x10 x14 x15 S (A++[p]) (.fz (.int (p.1:Int))) (.fz (.int (p.2:Int))) (by rw[<-e1];exact nd) (by rw[<-e1];exact hl);refine⟨z5,z6,?_⟩;rw[e1,<-h];have nk:p.1∉aj A:=λz=>by
   unfold aj at nd z;rw[List.map_append,List.map_cons]at nd;exact(List.nodup_append.mp nd).2.2 _ z _ (.head _) rfl
  have al:(bg A).length<sizeLine:=by
   rw[List.length_append,List.length_cons]at hl;unfold bg;rw[List.length_map,sizeLine_eq];lia
  have pu:=ik A p.1 p.2;rw[tR nk]at pu;have b:ja [x0,x1,x2,x3,x4,x5,x6,x7,x8,x9,x10,.od (bg A),.fz (.int (p.1:Int)),.fz (.int (p.2:Int)),x14,x15]=some (.nx,[x0,x1,x2,x3,x4,x5,x6,x7,x8,x9,x10,.od (bg (A++[p])),.fz (.int (p.1:Int)),.fz (.int (p.2:Int)),x14,x15]):=by
   simp[ja,dg,jb,al,pu]
  rw[List.map_cons,bJ (δ1:=[x0,x1,x2,x3,x4,x5,x6,x7,x8,x9,x10,.od (bg A),.fz (.int (p.1:Int)),.fz (.int (p.2:Int)),x14,x15]) (by rfl) b]
theorem uX:∀(N n:Nat),n<2^N->MA.qX n=((List.range N).filter λk=>hasB n k).length
 | 0,n,h=>by
  have:n=0:=by lia
  subst this;rw[MA.fT];rfl
 |N+1,n,h=>by
  rw[MA.fU,uX N (n/2) (by lia),List.range_succ_eq_map,List.filter_cons,List.filter_map];have e:((λk=>hasB n k) ∘ Nat.succ)=λk=>hasB (n/2) k:=funext λk=>by
   show hasB n (k+1)=hasB (n/2) k;unfold hasB;rw[Nat.pow_succ,Nat.mul_comm,<-Nat.div_div_eq_div_mul]
  have e0:hasB n 0=decide (n%2=1):=by unfold hasB;rw[Nat.pow_zero,Nat.div_one]
  rw[e];split
  .rename_i q
   rw[e0]at q;have:=of_decide_eq_true q;rw[List.length_cons,List.length_map]
   lia
  .rename_i q
   rw[e0]at q;have:¬n%2=1:=λz=>q (decide_eq_true z)
   rw[List.length_map]
   lia
theorem CO{S b:Nat}{B:List Nat}(nd:B.Nodup)(h:∀x,hasB S x=true->x∈B):((par (S &&& b):Nat):Int)=n1 (λx=>hasB b x) S B%2:=by
 rw[Fv];have hb:∀x,hasB (S &&& b) x=(hasB S x&&hasB b x):=λx=>by rw[cE,cE,cE,Nat.testBit_and]
 have e:(B.filter λx=>hasB S x&&hasB b x).length=((List.range (S &&& b)).filter λk=>hasB (S &&& b) k).length:=by
  refine List.Perm.length_eq ((List.perm_ext_iff_of_nodup (nd.sublist List.filter_sublist) (List.nodup_range.sublist List.filter_sublist)).mpr λx=>?_)
  rw[List.mem_filter,List.mem_filter,<-hb,List.mem_range];constructor
  .rintro⟨_,q⟩
   refine⟨?_,q⟩;have:2^x<=S &&& b:=by
    refine Nat.le_of_not_lt λz=>?_
    rw[lB z (Nat.le_refl _)]at q;cases q
   exact Nat.lt_of_lt_of_le Nat.lt_two_pow_self this
  .rintro⟨_,q⟩
   refine⟨h x ?_,q⟩;rw[hb]at q;exact(Bool.and_eq_true_iff.mp q).1
 rw[e,<-uX (S &&& b) (S &&& b) Nat.lt_two_pow_self];unfold MA.par
 lia
theorem pO(b:Nat){B:List Nat}(nd:B.Nodup):∀R:As,(∀p∈R,∀x,hasB p.1 x=true->x∈B)->aZ b (upI R)=Eg (λx=>hasB b x) B R
 |[],_=>rfl
 |p::R,h=>by
  show(p.2:Int)*((par (p.1 &&& b):Nat):Int)+aZ b (upI R)=(p.2:Int)*(n1 (λx=>hasB b x) p.1 B%2)+Eg (λx=>hasB b x) B R;rw[pO b nd R λq hq=>h q (.tail _ hq),CO nd (h p (.head _))]
theorem mV(b:Nat)(R:As):cx (λx=>hasB b x) (fo R (bts (orH R)))%8=aZ b (upI R)%8:=by
 rw[Dq,pO b (fJ (DI _)) R λp hp x hx=>(A6 _ _).mpr ((xD x R 0).mpr (.inr ⟨p,hp,hx⟩))]
 rfl
theorem qa:∀{a b:List Nat},PyData.eqvAll (ae a) (ae b)=true->a=b
 |[],[],_=>rfl
 |[],_::_,h=>by simp[ae,PyData.eqvAll]at h
 |_::_,[],h=>by simp[ae,PyData.eqvAll]at h
 |x::a,y::b,h=>by
  have h:(PyData.eqv (.int ((x:Nat):Int)) (.int ((y:Nat):Int))&&PyData.eqvAll (ae a) (ae b))=true:=by
   rw[<-h];simp only[ae,List.map_cons,PyData.eqvAll]
  rw[Bool.and_eq_true]at h;have e:x=y:=by
   have:=h.1;simp[PyData.eqv]at this
   lia
  rw[e,qa h.2]
theorem yG:∀{F G:Fm},PyData.eqvAll (d5 F) (d5 G)=true->F=G
 |[],[],_=>rfl
 |[],_::_,h=>by simp[d5,PyData.eqvAll]at h
 |_::_,[],h=>by simp[d5,PyData.eqvAll]at h
 |p::F,q::G,h=>by
  have h:(PyData.eqv (.tuple [.tuple (ae p.1),.int p.2]) (.tuple [.tuple (ae q.1),.int q.2])&&PyData.eqvAll (d5 F) (d5 G))=true:=by
   rw[<-h];simp only[d5,List.map_cons,PyData.eqvAll]
  rw[Bool.and_eq_true]at h;have e:=h.1;simp only[PyData.eqv,PyData.eqvAll,Bool.and_true,Bool.and_eq_true,beq_iff_eq]at e;have e1:=qa e.1;rw[yG h.2,show p=q from Prod.ext e1 e.2]
theorem wJ(w l:Nat)(hv:Int)(T:Nat)(F:Fm)(rs:List Nat):MA.Sh 5 (tolD w l hv T F rs):=by
 refine MA.Sh.tuple λx hx=>?_
 have ns:∀(k:Nat) (l:List Nat),∀x∈ae l,MA.Sh k x:=λk l x hx=>by
  obtain⟨h,_,rfl⟩:=List.mem_map.mp hx;exact MA.Sh.int _ _
 simp only[List.mem_cons,List.not_mem_nil,or_false]at hx;rcases hx with rfl|rfl|rfl|rfl|rfl
 .refine MA.Sh.tuple λx hx=>?_
  simp only[List.mem_cons,List.not_mem_nil,or_false]at hx;rcases hx with rfl|rfl<;>exact MA.Sh.int _ _
 .exact MA.Sh.int _ _
 .exact MA.Sh.int _ _
 .refine MA.Sh.tuple λx hx=>?_
  obtain⟨p,_,rfl⟩:=List.mem_map.mp hx;refine MA.Sh.tuple λx hx=>?_
  simp only[List.mem_cons,List.not_mem_nil,or_false]at hx;rcases hx with rfl|rfl
  .exact MA.Sh.tuple (ns _ _)
  .exact MA.Sh.int _ _
 .exact MA.Sh.tuple (ns _ _)
theorem nD(w l:Nat)(hv:Int)(T:Nat)(F:Fm)(rs:List Nat):xf (tolD w l hv T F rs)=true:=by
 have h:=wJ w l hv T F rs;show(PyData.canLay0 _&&decide (PyData.depth _<=64))=true;rw[h.1,decide_eq_true (Nat.le_trans h.2 (by decide))];rfl
theorem wK{w l:Nat}{hv:Int}{T T':Nat}{F F':Fm}{rs rs':List Nat}(h:¬(T=T'/\F=F')):neD (tolD w l hv T F rs) (tolD w l hv T' F' rs')=some (.bool true):=by
 unfold neD;rw[if_pos ⟨nD ..,nD ..⟩];cases e:PyData.eqv (tolD w l hv T F rs) (tolD w l hv T' F' rs')with
 |false=>rfl
 |true=>
  refine absurd ?_ h;simp only[PyData.eqv,PyData.eqvAll,Bool.and_true,Bool.and_eq_true,beq_iff_eq]at e;exact⟨by lia,yG e.2.2.2.1⟩
theorem po(w l:Nat)(hv:Int)(T:Nat)(F:Fm)(rs:List Nat):neD (tolD w l hv T F rs) (tolD w l hv T F rs)=some (.bool false):=Av (wJ ..) (by decide)
theorem mJ:neD .none .none=some (.bool false):=rfl
theorem rH(e:Int):aK [.none,.int e]=some .none:=by rfl
theorem vt(w l:Nat)(hv:Int)(T T':Nat)(F:Fm)(rs:List Nat)(e:Int)(h:(T':Int)=((T:Int)+e)%8):aK [tolD w l hv T F rs,.int e]=some (tolD w l hv T' F rs):=by
 have x:∀(A0 A1 A3 A4:D) (t:Int),aK [.tuple [A0,A1,.int t,A3,A4],.int e]=some (.tuple [A0,A1,.int ((t+e)%8),A3,A4]):=λA0 A1 A3 A4 t=>by
  rfl
 rw[x,<-h]
theorem xj{w l:Nat}{hv:Int}{N:Nat}(N1:1<=N)(N5:N<=10){c c' n:Nat}{ps ps':As}{ts ts':List Nat}(A:Bt w l hv N c ps ts)(B:Al w l hv N c ps ts c' ps' ts' n):
  ∃d,ao [oneD w l hv c (upI ps) ts []]=some d/\ao [oneD w l hv c' (upI ps') ts' []]=some d/\neD d d=some (.bool false):=by
 rcases fD N1 N5 0 A B.B B.sp λx hx hs=>by have:=B.val x hx hs;lia with⟨a,b⟩|⟨T,T',R,rs,t8,e,a,b,_⟩
 .exact⟨_,a,b,mJ⟩
 .have:T'=T:=by lia
  subst this;exact⟨_,a,b,po ..⟩
theorem xP{w l:Nat}{hv:Int}{N:Nat}(N1:1<=N)(N5:N<=10){c:Nat}{ps:As}(A:Bt w l hv N c ps []):ao [oneD w l hv c (upI ps) [] []]≠some .none:=λz=>by
 rcases eI A.S (Nat.le_refl _) N1 N5 A.hp A.ht A.t64 with⟨a1,_⟩|⟨_,rs,T,R,_,e⟩
 .cases a1
 .rw[z]at e;cases e
theorem At(w l:Nat)(hv:Int)(T:Nat)(F:Fm)(rs:List Nat):neD .none (tolD w l hv T F rs)=some (.bool true):=by
 unfold neD;rw[if_pos ⟨rfl,nD ..⟩];rfl
theorem Ay{w l:Nat}{hv:Int}{N:Nat}(N1:1<=N)(N5:N<=10){c c' k T:Nat}{ps ps' R:As}{rs:List Nat}{e:Int}(A:Bt w l hv N c' ps' [])(k1:1<=k)(e1:1<=e)(e7:e<=7)
  (v:∀x,x%2=1->((T:Int)+aZ x (upI R))%8=((c:Int)+aZ x (upI ps))%8) (h:∀x,x%2=1->(((c':Int)+aZ x (upI ps'))-((c:Int)+aZ x (upI ps)+e*((par (2^k &&& x):Nat):Int)))%8=0):
  ∃d,ao [oneD w l hv c' (upI ps') [] []]=some d/\neD d (tolD w l hv T (fo R (bts (orH R))) rs)=some (.bool true):=by
 rcases fD N1 N5 0 A A (λ_=>Iff.rfl) λx _ _=>by rw[Int.add_zero]with⟨a,b⟩|⟨T',_,R',rs',_,_,a,_,v',_⟩
 .exact⟨_,a,At ..⟩
 .refine⟨_,a,wK λ⟨q1,q2⟩=>?_⟩
  have hx:=db (x:=1) rfl k1;have p1:=mV (1 ^^^ 2^k) R;have p2:=mV (1 ^^^ 2^k) R';rw[q2]at p2;have w1:=v _ hx;have w2:=v' _ hx λ_ h=>nomatch h
  have w3:=h _ hx;have pb:par (2^k &&& (1 ^^^ 2^k))=1:=by
   have ev:2^k%2=0:=by
    obtain⟨j,rfl⟩:∃j,k=j+1:=⟨k-1,by lia⟩;rw[Nat.pow_succ];lia
   have hb:hasB (2^k) k=true:=by unfold hasB;rw[Nat.div_self (Nat.two_pow_pos k)];rfl
   have q:=Ex (1 ^^^ 2^k) (2^k);rw[dn,pg ev,hb]at q;have q:((par (2^k &&& (1 ^^^ 2^k)):Nat):Int)=1:=q
   lia
  rw[pb]at w3
  lia
noncomputable def Db:Sf:=aB (pJ 11) (aB (df (oI (o2 (oV 5) (oC (.int 3)) aD) aY) (zt [gN 12,gN 13]) (ja)) (aB (e9 14 11 (o2 (oV 5) (oC (.int 2)) aD) (ac (o2 (oC (.int 1)) (o2 (oC (.int 1)) (o2 (o2 (oV 1) (oC (.int 13)) bh) (o2 (oV 3) (oC (.int 1)) px) aM) bL) dN) (ac (oV 9) (ak))) ai) (aB (λδ=>(aE 15 (VL.os (ac (nU) (ak)) bi)) (iP 11 δ)) (bA (o2 (VL.os (ac (VL.os (ac (oV 2) (ac (o2 (oV 5) (oC (.int 1)) aD) (ac (oV 14) (ac (oV 15) (ac (VL.os (ak) aU) (ac (VL.os (ak) aU) (ak))))))) aU) (ak)) ao) (oV 8) neD)))))
noncomputable def AD:Sf:=aB (fm (ob (o2 (VL.os (ac (oV 10) (ak)) ao) (VL.os (ac (oV 8) (ac (oV 9) (ak))) aK) neD)) (bA (oC (.bool false))) (kj)) (aB (fm (ob (o2 (VL.os (ac (o2 (oV 5) (oC (.int 4)) aD) (ak)) cw) (oC (.int 0)) j2)) (bA (Aq (o2 (oV 8) (oC .none) isD) (o2 (VL.os (ac (oV 10) (ak)) ao) (oV 8) neD))) (kj)) Db)
theorem BA{f1 f2:Dv->Option D}{g:D->D->Option D}{δ:Dv}{a b:D}(h1:f1 δ = some a)(h2:f2 δ = some b):o2 f1 f2 g δ = g a b:=by unfold o2;rw[h1,h2];rfl
theorem Da(x0 x4 x6 x7 x10 x11:Sl)(SH O d d4 H P4:D)(PL:List D)(f N e c kk p2 t4:Int)(es es4:List (ar×D))(z12 z13:Sl)(δ1:Dv)(o1:aD O (.int 1)=some H)(o2':aD O (.int 2)=some (.int c))(o3:aD O (.int 3)=some (.tuple PL))
  (fill:loop (zt [gN 12,gN 13]) ja PL [x0,.fz (.int f),.fz SH,.fz (.int N),x4,.fz O,x6,x7,.fz d,.fz (.int e),x10,.od [],.un,.un,.un,.un]=some (.nx,[x0,.fz (.int f),.fz SH,.fz (.int N),x4,.fz O,x6,x7,.fz d,.fz (.int e),x10,.od es,z12,z13,.un,.un]))
  (n1:0<N-1) (hk:1+f/13%(N-1)=kk) (hp:dN (.int 1) (.int kk)=some (.int p2)) (g:ai (.int c) es [.int p2,.int e]=some (.int t4,es4))
  (hd:iP 11 [x0,.fz (.int f),.fz SH,.fz (.int N),x4,.fz O,x6,x7,.fz d,.fz (.int e),x10,.od es4,z12,z13,.fz (.int t4),.un] = δ1)
  (hs:aE 15 (VL.os (ac (nU) (ak)) bi) δ1=some (.nx,[x0,.fz (.int f),.fz SH,.fz (.int N),x4,.fz O,x6,x7,.fz d,.fz (.int e),x10,x11,z12,z13,.fz (.int t4),.fz P4]))
  (g4:ao [.tuple [SH,H,.int t4,P4,.tuple [],.tuple []]]=some d4) (ne:neD d4 d=some (.bool true)):
  Db [x0,.fz (.int f),.fz SH,.fz (.int N),x4,.fz O,x6,x7,.fz d,.fz (.int e),x10,.un,.un,.un,.un,.un]=some (.rt (.bool true),[x0,.fz (.int f),.fz SH,.fz (.int N),x4,.fz O,x6,x7,.fz d,.fz (.int e),x10,x11,z12,z13,.fz (.int t4),.fz P4]):=by
 have m:=bQ (i:=f/13) n1;unfold Db;refine(aN (δ':=[x0,.fz (.int f),.fz SH,.fz (.int N),x4,.fz O,x6,x7,.fz d,.fz (.int e),x10,.od [],.un,.un,.un,.un]) rfl).trans ((aN (δ':=[x0,.fz (.int f),.fz SH,.fz (.int N),x4,.fz O,x6,x7,.fz d,.fz (.int e),x10,.od es,z12,z13,.un,.un]) ?_).trans ((aN (δ':=[x0,.fz (.int f),.fz SH,.fz (.int N),x4,.fz O,x6,x7,.fz d,.fz (.int e),x10,.od es4,z12,z13,.fz (.int t4),.un]) ?_).trans ((aN (δ':=[x0,.fz (.int f),.fz SH,.fz (.int N),x4,.fz O,x6,x7,.fz d,.fz (.int e),x10,x11,z12,z13,.fz (.int t4),.fz P4]) ?_).trans ?_)))
 .unfold df oI
  rw[show(o2 (oV 5) (oC (.int 3)) aD) [x0,.fz (.int f),.fz SH,.fz (.int N),x4,.fz O,x6,x7,.fz d,.fz (.int e),x10,.od [],.un,.un,.un,.un]=some (.tuple PL)from o3];exact fill
 .refine j1 (i:=11) (j:=14) (B:=p2) (e:=e) o2' rfl ?_ g
  have q:(o2 (oC (.int 1)) (o2 (oC (.int 1)) (o2 (o2 (oV 1) (oC (.int 13)) bh) (o2 (oV 3) (oC (.int 1)) px) aM) bL) dN) [x0,.fz (.int f),.fz SH,.fz (.int N),x4,.fz O,x6,x7,.fz d,.fz (.int e),x10,.od es,z12,z13,.un,.un]=some (.int p2):=by
   simp[m,hk,hp]
  simp only[ac,q,Option.bind_some];rfl
 .show aE 15 _ (iP 11 _)=_
  rw[hd];exact hs
 .have q:(VL.os (ac (VL.os (ac (oV 2) (ac (o2 (oV 5) (oC (.int 1)) aD) (ac (oV 14) (ac (oV 15) (ac (VL.os (ak) aU) (ac (VL.os (ak) aU) (ak))))))) aU) (ak)) ao) [x0,.fz (.int f),.fz SH,.fz (.int N),x4,.fz O,x6,x7,.fz d,.fz (.int e),x10,x11,z12,z13,.fz (.int t4),.fz P4]=some d4:=by
   simp[o1,aU,sizeLine,g4]
  unfold bA;rw[BA q (b:=d) rfl,ne];rfl
theorem G2(x0 x1 x3 x4 x7 x8:Sl)(SH O1 O2 H P TS:D)(c2 e c3:Int)(h:(c2+e)%8=c3)(a1:aD O1 (.int 1)=some H)(a2:aD O2 (.int 2)=some (.int c2))(a3:aD O2 (.int 3)=some P)(a4:aD O2 (.int 4)=some TS):
  aE 10 (VL.os (ac (oV 2) (ac (o2 (oV 5) (oC (.int 1)) aD) (ac (o2 (o2 (o2 (oV 6) (oC (.int 2)) aD) (oV 9) bL) (oC (.int 8)) aM) (ac (o2 (oV 6) (oC (.int 3)) aD) (ac (o2 (oV 6) (oC (.int 4)) aD) (ac (VL.os (ak) aU) (ak))))))) aU) [x0,x1,.fz SH,x3,x4,.fz O1,.fz O2,x7,x8,.fz (.int e),.un,.un,.un,.un,.un,.un]=some (.nx,[x0,x1,.fz SH,x3,x4,.fz O1,.fz O2,x7,x8,.fz (.int e),.fz (.tuple [SH,H,.int c3,P,TS,.tuple []]),.un,.un,.un,.un,.un]):=by
 simp[aE,a1,a2,a3,a4,h,aU,sizeLine]
theorem law_true(ns:List Int)(hl:ns.length<=63):yz [.list (ns.map .int)]=some (.bool true):=by
 obtain⟨f,hf⟩:∃f:Int,(fm (ob (o2 (VL.os (ac (oV 0) (ak)) cw) (oC (.int 0)) j2)) (aE 1 (o2 (oV 0) (oC (.int 0)) aD)) (kj)) [.fz (.list (ns.map .int)),.fz (.int 0),.un,.un,.un,.un,.un,.un,.un,.un,.un,.un,.un,.un,.un,.un]=some (.nx,[.fz (.list (ns.map .int)),.fz (.int f),.un,.un,.un,.un,.un,.un,.un,.un,.un,.un,.un,.un,.un,.un]):=by
  cases ns with
  |nil=>exact⟨0,by rfl⟩
  |cons a l=>
   refine⟨a,?_⟩;have ln:cw [.list ((a::l).map PyData.int)]=some (.int ((l.length:Int)+1)):=by simp
   have g:(0:Int)<(l.length:Int)+1:=by lia
   have i:aD (.list ((a::l).map PyData.int)) (.int 0)=some (.int a):=by
    show lN (.int a::l.map PyData.int) 0=_;unfold lN;rw[show wC (PyData.int a::l.map PyData.int).length 0=some 0 from sg (n:=(PyData.int a::l.map PyData.int).length) (q:=0) (by simp)];rfl
   generalize PyData.list ((a::l).map PyData.int)=S at *;generalize (l.length:Int)+1=n at *;simp[-aB,-fm,nN,tN,ln,g,i]
 obtain⟨w,hw⟩:∃w:Nat,(w:Int)=1+f%3:=⟨(1+f%3).toNat,by lia⟩;obtain⟨l,hl'⟩:∃l:Nat,(l:Int)=f/3%4:=⟨(f/3%4).toNat,by lia⟩;obtain⟨k,hk⟩:∃k:Int,k=f/12%((ns.length:Int)+1):=⟨_,rfl⟩;have N1:1<=2*w+l+1:=by lia
 have N5:2*w+l+1<=10:=by lia
 obtain⟨ms,m1,s1⟩:=oF ns none (some k);obtain⟨cs,m2,s2⟩:=oF ms none (some 40);obtain⟨ds,m3,s3⟩:=oF ns (some k) none;have ll:cw [.list (ns.map PyData.int)]=some (.int (ns.length:Int)):=by simp
 generalize hS:PyData.list (ns.map PyData.int)=S at *;obtain⟨c,ps,ts,A,pl,e6⟩:=Ca cs (by lia) w l (by lia) (by lia) (by lia) (f/5%61-30) (f/7%5) (by lia) (by lia);generalize hhv:f/5%61-30=hv at A e6;obtain⟨c2,ps2,ts2,z7,al,e8⟩:=ui N5 (.fz S) (.fz (.int f)) (.fz (.int k)) .un .un .un .un .un .un .un .un ds ps.length c ps ts .un ⟨A,Nat.le_refl _,λ_=>Iff.rfl,λ_ _ _=>rfl⟩ (by lia)
 obtain⟨d,g1,g2,dd⟩:=xj N1 N5 A al;obtain⟨e,he⟩:∃e:Int,e=1+f/11%7:=⟨_,rfl⟩;obtain⟨c3,hc3⟩:∃c3:Nat,(c3:Int)=((c2:Int)+e)%8:=⟨(((c2:Int)+e)%8).toNat,by lia⟩;have B3:Bt w l hv (2*w+l+1) c3 ps2 ts2:=⟨⟨al.B.S.w1,al.B.S.w3,al.B.S.l2,al.B.S.v1,al.B.S.v2,by lia,al.B.S.pk,al.B.S.pe,al.B.S.pl,al.B.S.tk,al.B.S.te,al.B.S.tl,al.B.S.hl,al.B.S.pw,al.B.S.hb⟩,al.B.hp,al.B.ht,al.B.t64⟩;have two:=fD N1 N5 e A B3 al.sp λx hx hs=>by have:=al.val x hx hs;lia
 have mw:=Fw w;have sz:2*(w:Int)+(l:Int)+1=((2*w+l+1:Nat):Int):=by lia
 generalize hN:2*w+l+1=N at *;have o3:aD (oneD w l hv c (upI ps) ts []) (.int 3)=some (.tuple (ps.map pD)):=by rw[kw,g6]
 have ht:∃ δf,AD [.fz S,.fz (.int f),.fz (.tuple [.int w,.int l]),.fz (.int (N:Int)),.fz (.int k),.fz (oneD w l hv c (upI ps) ts []),.fz (oneD w l hv c2 (upI ps2) ts2 []),z7,.fz d,.fz (.int e),.fz (oneD w l hv c3 (upI ps2) ts2 []),.un,.un,.un,.un,.un]=some (.rt (.bool true),δf):=by
  have e17:1<=e/\e<=7:=by lia
  have o4:=mF w l hv c (upI ps) ts [];have st1:∀(d d3 sh:D),ao [oneD w l hv c3 (upI ps2) ts2 []]=some d3->aK [d,.int e]=some sh->neD d3 sh=some (.bool false)->(fm (ob (o2 (VL.os (ac (oV 10) (ak)) ao) (VL.os (ac (oV 8) (ac (oV 9) (ak))) aK) neD)) (bA (oC (.bool false))) (kj)) [.fz S,.fz (.int f),.fz (.tuple [.int w,.int l]),.fz (.int (N:Int)),.fz (.int k),.fz (oneD w l hv c (upI ps) ts []),.fz (oneD w l hv c2 (upI ps2) ts2 []),z7,.fz d,.fz (.int e),.fz (oneD w l hv c3 (upI ps2) ts2 []),.un,.un,.un,.un,.un]=some (.nx,[.fz S,.fz (.int f),.fz (.tuple [.int w,.int l]),.fz (.int (N:Int)),.fz (.int k),.fz (oneD w l hv c (upI ps) ts []),.fz (oneD w l hv c2 (upI ps2) ts2 []),z7,.fz d,.fz (.int e),.fz (oneD w l hv c3 (upI ps2) ts2 []),.un,.un,.un,.un,.un]):=λd d3 sh q1 q2 q3=>by
   refine(ee ?_).trans rfl;unfold ob o2;rw[show(VL.os (ac (oV 10) (ak)) ao) [.fz S,.fz (.int f),.fz (.tuple [.int w,.int l]),.fz (.int (N:Int)),.fz (.int k),.fz (oneD w l hv c (upI ps) ts []),.fz (oneD w l hv c2 (upI ps2) ts2 []),z7,.fz d,.fz (.int e),.fz (oneD w l hv c3 (upI ps2) ts2 []),.un,.un,.un,.un,.un]=some d3 from q1,show(VL.os (ac (oV 8) (ac (oV 9) (ak))) aK) [.fz S,.fz (.int f),.fz (.tuple [.int w,.int l]),.fz (.int (N:Int)),.fz (.int k),.fz (oneD w l hv c (upI ps) ts []),.fz (oneD w l hv c2 (upI ps2) ts2 []),z7,.fz d,.fz (.int e),.fz (oneD w l hv c3 (upI ps2) ts2 []),.un,.un,.un,.un,.un]=some sh from q2];show(neD d3 sh).bind asB=_;rw[q3];rfl
  have ln:∀d:D,(ob (o2 (VL.os (ac (o2 (oV 5) (oC (.int 4)) aD) (ak)) cw) (oC (.int 0)) j2)) [.fz S,.fz (.int f),.fz (.tuple [.int w,.int l]),.fz (.int (N:Int)),.fz (.int k),.fz (oneD w l hv c (upI ps) ts []),.fz (oneD w l hv c2 (upI ps2) ts2 []),z7,.fz d,.fz (.int e),.fz (oneD w l hv c3 (upI ps2) ts2 []),.un,.un,.un,.un,.un]=some (decide (0<ts.length)):=λd=>by
   have:(VL.os (ac (o2 (oV 5) (oC (.int 4)) aD) (ak)) cw) [.fz S,.fz (.int f),.fz (.tuple [.int w,.int l]),.fz (.int (N:Int)),.fz (.int k),.fz (oneD w l hv c (upI ps) ts []),.fz (oneD w l hv c2 (upI ps2) ts2 []),z7,.fz d,.fz (.int e),.fz (oneD w l hv c3 (upI ps2) ts2 []),.un,.un,.un,.un,.un]=some (.int (ts.length:Int)):=by
    unfold VL.os;simp only[ac,show(o2 (oV 5) (oC (.int 4)) aD) [.fz S,.fz (.int f),.fz (.tuple [.int w,.int l]),.fz (.int (N:Int)),.fz (.int k),.fz (oneD w l hv c (upI ps) ts []),.fz (oneD w l hv c2 (upI ps2) ts2 []),z7,.fz d,.fz (.int e),.fz (oneD w l hv c3 (upI ps2) ts2 []),.un,.un,.un,.un,.un]=some (.tuple (ae ts))from o4,Option.bind_some,ak];show some (PyData.int ((ae ts).length:Int))=_;rw[ba]
   unfold ob;rw[BA this (b:=.int 0) rfl];show some (decide ((ts.length:Int)>0))=_;congr 1;refine decide_eq_decide.mpr ?_
   lia
  rcases two with⟨q1,q2⟩|⟨T,T',R,rs,t8,hT,q1,q2,v,_⟩
  .have:d=.none:=by rw[q1]at g1;exact(Option.some.inj g1).symm
   subst this;by_cases tl:0<ts.length
   .unfold AD
    refine⟨_,(aN (st1 _ _ _ q2 (rH e) mJ)).trans (C1 ((gu (by rw[ln,decide_eq_true tl])).trans rfl))⟩
   .have:ts=[]:=List.length_eq_zero_iff.mp (by lia)
    subst this;exact absurd q1 (xP N1 N5 A)
  .have:d=tolD w l hv T (fo R (bts (orH R))) rs:=by rw[q1]at g1;exact(Option.some.inj g1).symm
   subst this;have s1':=st1 _ _ _ q2 (vt w l hv T T' _ rs e hT) (po ..);by_cases tl:0<ts.length
   .have nt:neD (tolD w l hv T' (fo R (bts (orH R))) rs) (tolD w l hv T (fo R (bts (orH R))) rs)=some (.bool true):=wK λz=>by
     have:=z.1
     lia
    have di:isD (tolD w l hv T (fo R (bts (orH R))) rs) .none=some (.bool false):=rfl;generalize tolD w l hv T (fo R (bts (orH R))) rs=d at *;unfold AD;refine⟨[.fz S,.fz (.int f),.fz (.tuple [.int w,.int l]),.fz (.int (N:Int)),.fz (.int k),.fz (oneD w l hv c (upI ps) ts []),.fz (oneD w l hv c2 (upI ps2) ts2 []),z7,.fz d,.fz (.int e),.fz (oneD w l hv c3 (upI ps2) ts2 []),.un,.un,.un,.un,.un],(aN s1').trans (C1 ((gu (by rw[ln,decide_eq_true tl])).trans ?_))⟩;have r2:(o2 (VL.os (ac (oV 10) (ak)) ao) (oV 8) neD) [.fz S,.fz (.int f),.fz (.tuple [.int w,.int l]),.fz (.int (N:Int)),.fz (.int k),.fz (oneD w l hv c (upI ps) ts []),.fz (oneD w l hv c2 (upI ps2) ts2 []),z7,.fz d,.fz (.int e),.fz (oneD w l hv c3 (upI ps2) ts2 []),.un,.un,.un,.un,.un]=some (.bool true):=by
     unfold o2;rw[show(VL.os (ac (oV 10) (ak)) ao) [.fz S,.fz (.int f),.fz (.tuple [.int w,.int l]),.fz (.int (N:Int)),.fz (.int k),.fz (oneD w l hv c (upI ps) ts []),.fz (oneD w l hv c2 (upI ps2) ts2 []),z7,.fz d,.fz (.int e),.fz (oneD w l hv c3 (upI ps2) ts2 []),.un,.un,.un,.un,.un]=some (tolD w l hv T' (fo R (bts (orH R))) rs)from q2];exact nt
    have r1:(o2 (oV 8) (oC .none) isD) [.fz S,.fz (.int f),.fz (.tuple [.int w,.int l]),.fz (.int (N:Int)),.fz (.int k),.fz (oneD w l hv c (upI ps) ts []),.fz (oneD w l hv c2 (upI ps2) ts2 []),z7,.fz d,.fz (.int e),.fz (oneD w l hv c3 (upI ps2) ts2 []),.un,.un,.un,.un,.un]=some (.bool false):=di;unfold bA Aq;rw[r1,r2];rfl
   .have:ts=[]:=List.length_eq_zero_iff.mp (by lia)
    subst this;obtain⟨kk,hkk⟩:∃kk:Nat,(kk:Int)=1+f/13%((N:Int)-1):=⟨(1+f/13%((N:Int)-1)).toNat,by
     have:=Int.emod_nonneg (f/13) (show(N:Int)-1≠0 by lia)
     lia⟩
    have kb:1<=kk/\kk<N:=by
     have h1:=Int.emod_nonneg (f/13) (show(N:Int)-1≠0 by lia);have h2:=Int.emod_lt_of_pos (f/13) (show(0:Int)<(N:Int)-1 by lia)
     lia
    obtain⟨t4,A4,cn,g4,v4⟩:=A.cn.add (by have:=A.S.pl;lia) (Nat.pow_lt_pow_right (by decide) kb.2:2^kk<2^N) e;have pl4:=A.S.pl;have cl:=cn.a.ln;obtain⟨rs4,p4,pw4,ep⟩:=yR A4 cn.a.nd (by lia);obtain⟨B4,bl4,bv4⟩:=cn.bt A N5 (by lia) p4 pw4;obtain⟨d4,gd4,nd4⟩:=Ay (rs:=rs) N1 N5 B4 kb.1 e17.1 e17.2 (λx hx=>v x hx λ_ h=>nomatch h) λx hx=>by
     have r1:=v4 x hx;have r2:=bv4 x;have r3:cv x c ps=(c:Int)+aZ x (upI ps):=by unfold cv;rw[ic]
     rw[r2,<-r3];exact r1
    obtain⟨z12,z13,fill⟩:=uq (.fz S) (.fz (.int f)) (.fz (.tuple [.int w,.int l])) (.fz (.int (N:Int))) (.fz (.int k)) (.fz (oneD w l hv c (upI ps) [] [])) (.fz (oneD w l hv c2 (upI ps2) ts2 [])) z7 (.fz (tolD w l hv T (fo R (bts (orH R))) rs)) (.fz (.int e)) (.fz (oneD w l hv c3 (upI ps2) ts2 [])) .un .un ps [] .un .un (fJ A.S.pk) (by rw[List.nil_append];lia);rw[List.nil_append]at fill;have up:(upI (fq A4 rs4)).map pQ=(fq A4 rs4).map pD:=g6 _;have ux:=Da (.fz S) (.fz (.int k)) (.fz (oneD w l hv c2 (upI ps2) ts2 [])) z7 (.fz (oneD w l hv c3 (upI ps2) ts2 [])) (.fz (.dict (cG (lI A4)))) (.tuple [.int w,.int l]) (oneD w l hv c (upI ps) [] []) (tolD w l hv T (fo R (bts (orH R))) rs) d4 (.int hv) (.tuple ((fq A4 rs4).map pD)) (ps.map pD) f N e c kk ((2^kk:Nat):Int) t4 (bg ps) (bg A4) z12 z13 _
     (mH ..) (mG ..) o3 fill (by lia) hkk.symm (kr (k:=kk) (by lia)) g4 (DD A4 (i:=11) rfl rfl) ?_ ?_ nd4
    .unfold AD
     exact⟨_,(aN s1').trans ((aN ((ee (by rw[ln,decide_eq_false tl])).trans rfl)).trans ux)⟩
    .have ep:=ep 11 [.fz S,.fz (.int f),.fz (.tuple [.int w,.int l]),.fz (.int (N:Int)),.fz (.int k),.fz (oneD w l hv c (upI ps) [] []),.fz (oneD w l hv c2 (upI ps2) ts2 []),z7,.fz (tolD w l hv T (fo R (bts (orH R))) rs),.fz (.int e),.fz (oneD w l hv c3 (upI ps2) ts2 []),.fz (.dict (cG (lI A4))),z12,z13,.fz (.int (t4:Int)),.un] rfl rfl
     show aE 15 _ [.fz S,.fz (.int f),.fz (.tuple [.int w,.int l]),.fz (.int (N:Int)),.fz (.int k),.fz (oneD w l hv c (upI ps) [] []),.fz (oneD w l hv c2 (upI ps2) ts2 []),z7,.fz (tolD w l hv T (fo R (bts (orH R))) rs),.fz (.int e),.fz (oneD w l hv c3 (upI ps2) ts2 []),.fz (.dict (cG (lI A4))),z12,z13,.fz (.int (t4:Int)),.un]=_;unfold nU;simp only[aE,VL.os,ac,ak]at ep ⊢;rw[ep];simp only[Option.bind_some];rfl
    .rw[<-up]
     exact gd4
 obtain⟨δf,ht⟩:=ht;refine lS rfl (δ':=δf) ?_;unfold yW;refine(aN (δ':=[.fz S,.fz (.int 0),.un,.un,.un,.un,.un,.un,.un,.un,.un,.un,.un,.un,.un,.un]) rfl).trans ((aN hf).trans ((aN (δ':=[.fz S,.fz (.int f),.fz (.tuple [.int w,.int l]),.un,.un,.un,.un,.un,.un,.un,.un,.un,.un,.un,.un,.un]) ?_).trans ((aN (δ':=[.fz S,.fz (.int f),.fz (.tuple [.int w,.int l]),.fz (.int (N:Int)),.un,.un,.un,.un,.un,.un,.un,.un,.un,.un,.un,.un]) ?_).trans ((aN (δ':=[.fz S,.fz (.int f),.fz (.tuple [.int w,.int l]),.fz (.int (N:Int)),.fz (.int k),.un,.un,.un,.un,.un,.un,.un,.un,.un,.un,.un]) ?_).trans ((aN (δ':=[.fz S,.fz (.int f),.fz (.tuple [.int w,.int l]),.fz (.int (N:Int)),.fz (.int k),.fz (oneD w l hv c (upI ps) ts []),.un,.un,.un,.un,.un,.un,.un,.un,.un,.un]) ?_).trans ((aN (δ':=[.fz S,.fz (.int f),.fz (.tuple [.int w,.int l]),.fz (.int (N:Int)),.fz (.int k),.fz (oneD w l hv c (upI ps) ts []),.fz (oneD w l hv c (upI ps) ts []),.un,.un,.un,.un,.un,.un,.un,.un,.un]) rfl).trans ((aN (δ':=[.fz S,.fz (.int f),.fz (.tuple [.int w,.int l]),.fz (.int (N:Int)),.fz (.int k),.fz (oneD w l hv c (upI ps) ts []),.fz (oneD w l hv c2 (upI ps2) ts2 []),z7,.un,.un,.un,.un,.un,.un,.un,.un]) ?_).trans ((aN (δ':=[.fz S,.fz (.int f),.fz (.tuple [.int w,.int l]),.fz (.int (N:Int)),.fz (.int k),.fz (oneD w l hv c (upI ps) ts []),.fz (oneD w l hv c2 (upI ps2) ts2 []),z7,.fz d,.un,.un,.un,.un,.un,.un,.un]) ?_).trans ((aN (δ':=[.fz S,.fz (.int f),.fz (.tuple [.int w,.int l]),.fz (.int (N:Int)),.fz (.int k),.fz (oneD w l hv c (upI ps) ts []),.fz (oneD w l hv c2 (upI ps2) ts2 []),z7,.fz d,.un,.un,.un,.un,.un,.un,.un]) ?_).trans ((aN (δ':=[.fz S,.fz (.int f),.fz (.tuple [.int w,.int l]),.fz (.int (N:Int)),.fz (.int k),.fz (oneD w l hv c (upI ps) ts []),.fz (oneD w l hv c2 (upI ps2) ts2 []),z7,.fz d,.fz (.int e),.un,.un,.un,.un,.un,.un]) ?_).trans ((aN (δ':=[.fz S,.fz (.int f),.fz (.tuple [.int w,.int l]),.fz (.int (N:Int)),.fz (.int k),.fz (oneD w l hv c (upI ps) ts []),.fz (oneD w l hv c2 (upI ps2) ts2 []),z7,.fz d,.fz (.int e),.fz (oneD w l hv c3 (upI ps2) ts2 []),.un,.un,.un,.un,.un]) ?_).trans ht)))))))))))
 .have h1:1+f%3=(w:Int):=hw.symm
  have h2:f/3%4=(l:Int):=hl'.symm;simp[aE,h1,h2,aU,sizeLine]
 .have:(o2 (o2 (o2 (oC (.int 2)) (o2 (oV 2) (oC (.int 0)) aD) kB) (o2 (oV 2) (oC (.int 1)) aD) bL) (oC (.int 1)) bL) [.fz S,.fz (.int f),.fz (.tuple [.int w,.int l]),.un,.un,.un,.un,.un,.un,.un,.un,.un,.un,.un,.un,.un]=some (.int (N:Int)):=by
   show(((kB (.int 2) (.int (w:Int))).bind λx=>bL x (.int (l:Int))).bind λx=>bL x (.int 1))=_
   rw[mw,<-sz];rfl
  unfold aE;rw[this];rfl
 .have m:=bQ (i:=f/12) (j:=(ns.length:Int)+1) (by lia)
  simp[aE,ll,m,<-hk]
 .have h1:(zo (zo (oV 0) (zp) (oP (oV 4))) (zp) (oP (oC (.int 40)))) [.fz S,.fz (.int f),.fz (.tuple [.int w,.int l]),.fz (.int (N:Int)),.fz (.int k),.un,.un,.un,.un,.un,.un,.un,.un,.un,.un,.un]=some (.list (cs.map .int)):=by
   show(Bq S none (some k)).bind (λx=>Bq x none (some 40))=_
   rw[s1];exact s2
  generalize PyData.list (cs.map PyData.int)=C at h1 e6;have h2:f/5%61-30=hv:=hhv;unfold aE VL.os;simp only[ac,h1,Option.bind_some];simp[h2,e6]
 .have:(oI (zo (oV 0) (oP (oV 4)) (zp)) aY) [.fz S,.fz (.int f),.fz (.tuple [.int w,.int l]),.fz (.int (N:Int)),.fz (.int k),.fz (oneD w l hv c (upI ps) ts []),.fz (oneD w l hv c (upI ps) ts []),.un,.un,.un,.un,.un,.un,.un,.un,.un]=some (ds.map .int):=by
   unfold oI;rw[show(zo (oV 0) (oP (oV 4)) (zp)) [.fz S,.fz (.int f),.fz (.tuple [.int w,.int l]),.fz (.int (N:Int)),.fz (.int k),.fz (oneD w l hv c (upI ps) ts []),.fz (oneD w l hv c (upI ps) ts []),.un,.un,.un,.un,.un,.un,.un,.un,.un]=some (.list (ds.map .int))from s3];rfl
  unfold df;rw[this];exact e8
 .unfold aE
  rw[show(VL.os (ac (oV 5) (ak)) ao) [.fz S,.fz (.int f),.fz (.tuple [.int w,.int l]),.fz (.int (N:Int)),.fz (.int k),.fz (oneD w l hv c (upI ps) ts []),.fz (oneD w l hv c2 (upI ps2) ts2 []),z7,.un,.un,.un,.un,.un,.un,.un,.un]=some d from g1];rfl
 .refine(ee ?_).trans rfl
  unfold ob o2;rw[show(VL.os (ac (oV 6) (ak)) ao) [.fz S,.fz (.int f),.fz (.tuple [.int w,.int l]),.fz (.int (N:Int)),.fz (.int k),.fz (oneD w l hv c (upI ps) ts []),.fz (oneD w l hv c2 (upI ps2) ts2 []),z7,.fz d,.un,.un,.un,.un,.un,.un,.un]=some d from g2];show(neD d d).bind asB=_;rw[dd];rfl
 .generalize oneD w l hv c (upI ps) ts []=O1
  generalize oneD w l hv c2 (upI ps2) ts2 []=O2;simp[aE,<-he]
 .have a1:=mH w l hv c (upI ps) ts []
  have a2:=mG w l hv c2 (upI ps2) ts2 [];have a3:=kw w l hv c2 (upI ps2) ts2 [];have a4:=mF w l hv c2 (upI ps2) ts2 [];have t:=G2 (.fz S) (.fz (.int f)) (.fz (.int (N:Int))) (.fz (.int k)) z7 (.fz d) (.tuple [.int w,.int l]) (oneD w l hv c (upI ps) ts []) (oneD w l hv c2 (upI ps2) ts2 []) _ _ _ c2 e c3 hc3.symm a1 a2 a3 a4;exact t
end GN
namespace GN
open PySem PySem.Spec PyProof.Rows L2 VL
structure Txt (mg:Str->Option Value):Prop where
 dict:mg "dict" = none
 tuple:mg "tuple" = none
 sorted:mg "sorted" = none
 sum:mg "sum" = none
 range:mg "range" = none
 len:mg "len" = none
 list:mg "list" = none
 set_:mg "set" = none
section
variable{P:Program}{w:World}{K:PySem.W.Frag}{mg:Str->Option Value}{base:Heap}
theorem aab:FnScope fZ ["turn","turns","pairs"] (ap cZ):=⟨rfl,rfl,rfl,by decide+kernel,rfl,by decide+kernel,by decide+kernel⟩
theorem n4{f:Addr}{fd:FuncData}{dV:Value}(F:FunV K "all_added" "all_added" cZ f fd dV)(T:Txt mg):FnOk P w K mg base dM 1 f fd ["turn","turns","pairs"] (h7 K bD):=
 gM (k:=0) (b:=fW) F aab λcdv A outer s H E hr=>(ah (zI 3 aab.nd rfl T.dict (aa 1)) (ah (cM PassesOwn.never rfl (bf (aa 2)) (bG 4 aab.nd) (ah (aG 5 aab.nd (aw aI (aa 4) af (λ_ _=>rfl))) (ah (aG 6 aab.nd (aw aI (aa 4) af (λ_ _=>rfl))) (ah (cY (aQ (sH hr.units) (aq BP (aa 5) af) af (aO _)) (ah (aG 0 aab.nd (aq cK (aa 0) (aa 6))) (ah (aG 5 aab.nd (aq ld (aa 5) af)) (aA (aG 6 aab.nd (uO uV (aa 6)))))) cH) (aA (cY (aQ (lW hr.units) (aa 5) af (aO _)) (aA (nH 3 (wy hr.units) (aa 5) (aq bp (aq cK (qx 3 (wy hr.units) (aa 5) af ⟨rfl,rfl,rfl,rfl⟩) (aa 6)) af))) cH)))))) (aA (bq (aT (ab (aq bp (aa 0) af) (ab (bW dw rfl T.tuple (by decide+kernel) (ab (dc (vars:=["pair"]) (caps:=[]) (by change BlkOk (ap cZ).names fZ _ _ _;exact⟨rfl,by decide+kernel,by decide+kernel,by decide+kernel,by decide+kernel⟩) rfl (bf (sE 3 rfl T.sorted)) cL (λ_ _ _ _=>bw (i:=0) (show(["pair"]:List Str).Nodup by decide+kernel) rfl (Or.inl rfl) (.inr rfl)) (λ_ _ _ _=>(aQ (lW hr.units) (aw aI (aa 0) af (λ_ _=>rfl)) af (aO _))) (λ_ _ _ _=>(aa 0))) ag)) ag)))))))
theorem Ce:FnScope BR ["bitset","bit"] (ap tM):=⟨rfl,rfl,rfl,by decide+kernel,rfl,by decide+kernel,by decide+kernel⟩
theorem C0{f:Addr}{fd:FuncData}{dV:Value}(F:FunV K "has" "has" tM f fd dV)(T:Txt mg):FnOk P w K mg base dM 1 f fd ["bitset","bit"] (h7 K cJ):=
 gM (k:=0) (b:=yX) F Ce λcdv A outer s H E hr=>(aA (bq (oE (sH hr.units) (aq BP (aq F9 (aa 0) (aa 1)) af) af (aO _))))
theorem aat:FnScope eA ["one","bit","change"] (ap cN):=⟨rfl,rfl,rfl,by decide+kernel,rfl,by decide+kernel,by decide+kernel⟩
theorem rT{f:Addr}{fd:FuncData}{dV:Value}(F:FunV K "shorter" "shorter" cN f fd dV)(T:Txt mg)(aav:Cal P w K mg base "all_added" 1 bD [])(aar:Cal P w K mg base "has" 1 cJ []):FnOk P w K mg base dM 2 f fd ["one","bit","change"] (h7 K cq):=
 gM (k:=1) (b:=jo) F aat λcdv A outer s H E hr=>(ah (kc 3 aat.nd (vars:=["pair"]) (caps:=[(1,"bit"),(2,"change")]) (by change BlkOk (ap cN).names eA _ _ _;exact⟨rfl,by decide+kernel,by decide+kernel,by decide+kernel,by decide+kernel⟩) rfl (bf (aw aI (aa 0) af (λ_ _=>rfl))) cL (λ_ _ _ _=>bw (i:=0) (show(["pair","bit","change"]:List Str).Nodup by decide+kernel) rfl (Or.inl rfl) (.inr rfl)) (λ_ _ _ _=>(gB (aH aar (hr.mono (by decide)) rfl (ab (aw aI (aa 0) af (λ_ _=>rfl)) (ab (aa 1) ag))))) (λ_ _ _ _=>(aT (ab (aq ld (aw aI (aa 0) af (λ_ _=>rfl)) (aa 2)) (ab (aw aI (aa 0) af (λ_ _=>rfl)) ag))))) (ah (kc 4 aat.nd (vars:=["pair"]) (caps:=[(1,"bit")]) (by change BlkOk (ap cN).names eA _ _ _;exact⟨rfl,by decide+kernel,by decide+kernel,by decide+kernel,by decide+kernel⟩) rfl (bf (aw aI (aa 0) af (λ_ _=>rfl))) cL (λ_ _ _ _=>bw (i:=0) (show(["pair","bit"]:List Str).Nodup by decide+kernel) rfl (Or.inl rfl) (.inr rfl)) (λ_ _ _ _=>(B5 (gB (aH aar (hr.mono (by decide)) rfl (ab (aw aI (aa 0) af (λ_ _=>rfl)) (ab (aa 1) ag)))))) (λ_ _ _ _=>(aa 0))) (ah (aG 5 aat.nd (aH aav (hr.mono (by decide)) rfl (ab (aw aI (aa 0) af (λ_ _=>rfl)) (ab (aa 4) (ab (aa 3) ag))))) (aA (bq (aT (ab (aw aI (aa 0) af (λ_ _=>rfl)) (ab (aw aI (aa 0) af (λ_ _=>rfl)) (ab (aw aI (aa 5) af (λ_ _=>rfl)) (ab (aw aI (aa 5) af (λ_ _=>rfl)) (ab (aw aI (aa 0) af (λ_ _=>rfl)) (ab (bW dw rfl T.tuple (by decide+kernel) (ab (dc (vars:=["other"]) (caps:=[(1,"bit")]) (by change BlkOk (ap cN).names eA _ _ _;exact⟨rfl,by decide+kernel,by decide+kernel,by decide+kernel,by decide+kernel⟩) rfl (bf (aw aI (aa 0) af (λ_ _=>rfl))) cL (λ_ _ _ _=>bw (i:=0) (show(["other","bit"]:List Str).Nodup by decide+kernel) rfl (Or.inl rfl) (.inr rfl)) (λ_ _ _ _=>(aQ (lW hr.units) (aa 0) (aa 1) (aO _))) (λ_ _ _ _=>(aa 0))) ag)) ag))))))))))))
theorem pI:FnScope lM ["bitset"] (ap eJ):=⟨rfl,rfl,rfl,by decide+kernel,rfl,by decide+kernel,by decide+kernel⟩
theorem pX{f:Addr}{fd:FuncData}{dV:Value}(F:FunV K "greatest" "greatest" eJ f fd dV)(T:Txt mg):FnOk P w K mg base dM 1 f fd ["bitset"] (h7 K br):=
 gM (k:=0) (b:=gR) F pI λcdv A outer s H E hr=>(aA (bq (aq qB (uP (aa 0)) af)))
theorem aaf:FnScope js ["things","bits_in","product"] (ap d9):=⟨rfl,rfl,rfl,by decide+kernel,rfl,by decide+kernel,by decide+kernel⟩
theorem rW{f:Addr}{fd:FuncData}{dV:Value}(F:FunV K "cleared" "cleared" d9 f fd dV)(T:Txt mg)(aar:Cal P w K mg base "has" 1 cJ [])(aag:Cal P w K mg base "greatest" 1 br [])(G_id:LamC P w K mg base "<lambda> id" 1 qq)(G_xor:LamC P w K mg base "<lambda> xor" 1 ou):FnOk P w K mg base dM 2 f fd ["things","bits_in","product"] (h7 K cr):=
 gM (k:=1) (b:=jq) F aaf λcdv A outer s H E hr=>(ah (nG 3 aaf.nd ag) (ah (cM PassesOwn.never rfl (bf (aa 0)) (bG 4 aaf.nd) (ah (mn 3 (cM PassesOwn.never rfl (bf (aa 3)) (bG 5 aaf.nd) (aA (cY (gB (aH aar (hr.mono (by decide)) rfl (ab (dH 1 (k:=1) (eV (by decide) G_id gL) (hr.mono (by decide)) (ab (aa 4) ag)) (ab (aH aag (hr.mono (by decide)) rfl (ab (dH 1 (k:=1) (eV (by decide) G_id gL) (hr.mono (by decide)) (ab (aa 5) ag)) ag)) ag)))) (aA (aG 4 aaf.nd (dH 2 (k:=1) (eV (by decide) G_xor gL) (hr.mono (by decide)) (ab (aa 4) (ab (aa 5) ag))))) cH)))) (aA (cY (aQ (lW hr.units) (dH 1 (k:=1) (eV (by decide) G_id gL) (hr.mono (by decide)) (ab (aa 4) ag)) af (aO _)) (ah (aG 6 aaf.nd (aH aag (hr.mono (by decide)) rfl (ab (dH 1 (k:=1) (eV (by decide) G_id gL) (hr.mono (by decide)) (ab (aa 4) ag)) ag))) (ah (wQ 3 aaf.nd (vars:=["other"]) (caps:=[(1,"bits_in"),(2,"product"),(4,"thing"),(6,"top")]) (by change BlkOk (ap d9).names js _ _ _;exact⟨rfl,by decide+kernel,by decide+kernel,by decide+kernel,by decide+kernel⟩) rfl (bf (aa 3)) cL (λ_ _ _ _=>bw (i:=0) (show(["other","bits_in","product","thing","top"]:List Str).Nodup by decide+kernel) rfl (Or.inl rfl) (.inr rfl)) (λ_ _ _ _=>(Dy (gB (aH aar (hr.mono (by decide)) rfl (ab (dH 1 (k:=1) (eV (by decide) G_id gL) (hr.mono (by decide)) (ab (aa 0) ag)) (ab (aa 4) ag)))) (dH 2 (k:=1) (eV (by decide) G_xor gL) (hr.mono (by decide)) (ab (aa 0) (ab (aa 3) ag))) (aa 0)))) (aA (rq 3 (aa 4))))) cH)))) (aA (mn 3 (bq (aa 3))))))
theorem vA:FnScope lL ["turns","bit"] (ap fF):=⟨rfl,rfl,rfl,by decide+kernel,rfl,by decide+kernel,by decide+kernel⟩
theorem vL{f:Addr}{fd:FuncData}{dV:Value}(F:FunV K "having" "having" fF f fd dV)(T:Txt mg)(aar:Cal P w K mg base "has" 1 cJ []):FnOk P w K mg base dM 2 f fd ["turns","bit"] (h7 K b8):=
 gM (k:=1) (b:=lH) F vA λcdv A outer s H E hr=>(aA (bq (dc (vars:=["pair"]) (caps:=[(1,"bit")]) (by change BlkOk (ap fF).names lL _ _ _;exact⟨rfl,by decide+kernel,by decide+kernel,by decide+kernel,by decide+kernel⟩) rfl (bf (aa 0)) cL (λ_ _ _ _=>bw (i:=0) (show(["pair","bit"]:List Str).Nodup by decide+kernel) rfl (Or.inl rfl) (.inr rfl)) (λ_ _ _ _=>(gB (aH aar (hr.mono (by decide)) rfl (ab (aw aI (aa 0) af (λ_ _=>rfl)) (ab (aa 1) ag))))) (λ_ _ _ _=>(aa 0)))))
theorem jJ:FnScope dL ["turns"] (ap bN):=⟨rfl,rfl,rfl,by decide+kernel,rfl,by decide+kernel,by decide+kernel⟩
theorem jL{f:Addr}{fd:FuncData}{dV:Value}(F:FunV K "sum_of_turns" "sum_of_turns" bN f fd dV)(T:Txt mg):FnOk P w K mg base dM 1 f fd ["turns"] (h7 K aP):=
 gM (k:=0) (b:=dJ) F jJ λcdv A outer s H E hr=>(aA (bq (b9 (Ge rfl) rfl T.sum (by decide+kernel) (ab (AQ (vars:=["pair"]) (caps:=[]) (by change BlkOk (ap bN).names dL _ _ _;exact⟨rfl,by decide+kernel,by decide+kernel,by decide+kernel,by decide+kernel⟩) rfl (bf (aa 0)) cL (λ_ _ _ _=>bw (i:=0) (show(["pair"]:List Str).Nodup by decide+kernel) rfl (Or.inl rfl) (.inr rfl)) (λ_ _ _ _=>(aw aI (aa 0) af (λ_ _=>rfl)))) ag))))
theorem aam:FnScope iX ["turns"] (ap dq):=⟨rfl,rfl,rfl,by decide+kernel,rfl,by decide+kernel,by decide+kernel⟩
theorem lR{f:Addr}{fd:FuncData}{dV:Value}(F:FunV K "oddly_held" "oddly_held" dq f fd dV)(T:Txt mg):FnOk P w K mg base dM 1 f fd ["turns"] (h7 K bH):=
 gM (k:=0) (b:=eY) F aam λcdv A outer s H E hr=>(ah (aG 1 aam.nd af) (ah (cM PassesOwn.never rfl (bf (aa 0)) (bG 2 aam.nd) (aA (cY (aQ (sH hr.units) (aq bp (aw aI (aa 2) af (λ_ _=>rfl)) af) af (aO _)) (aA (aG 1 aam.nd (aq ld (aa 1) (aw aI (aa 2) af (λ_ _=>rfl))))) cH))) (aA (bq (aa 1)))))
theorem aak:FnScope dZ ["bit","turns","bits"] (ap ck):=⟨rfl,rfl,rfl,by decide+kernel,rfl,by decide+kernel,by decide+kernel⟩
theorem nZ{f:Addr}{fd:FuncData}{dV:Value}(F:FunV K "form_with" "form_with" ck f fd dV)(T:Txt mg)(aau:Cal P w K mg base "having" 2 b8 [])(aas:Cal P w K mg base "oddly_held" 1 bH [])(aai:Cal P w K mg base "sum_of_turns" 1 aP [])(aar:Cal P w K mg base "has" 1 cJ []):FnOk P w K mg base dM 3 f fd ["bit","turns","bits"] (h7 K bU):=
 gM (k:=2) (b:=fV) F aak λcdv A outer s H E hr=>(ah (nG 3 aak.nd (ab (aT (ab (aT (ab (aa 0) ag)) (ab (aq bp (aH aai (hr.mono (by decide)) rfl (ab (aa 1) ag)) af) ag))) ag)) (ah (cM PassesOwn.never rfl (jc rfl T.range (ab (b9 iR rfl T.len (by decide+kernel) (ab (aa 2) ag)) ag)) (bG 4 aak.nd) (ah (aG 5 aak.nd (aH aau (hr.mono (by decide)) rfl (ab (aa 1) (ab (aw aI (aa 2) (aa 4) (λ_ _=>rfl)) ag)))) (ah (rq 3 (aT (ab (aT (ab (aa 0) (ab (aw aI (aa 2) (aa 4) (λ_ _=>rfl)) ag))) (ab (aq bp (aq sG (uO uV af) (aH aai (hr.mono (by decide)) rfl (ab (aa 5) ag))) af) ag)))) (ah (aG 6 aak.nd (aH aas (hr.mono (by decide)) rfl (ab (aa 5) ag))) (aA (tw 3 (dc (vars:=["third"]) (caps:=[(0,"bit"),(2,"bits"),(4,"k"),(6,"held")]) (by change BlkOk (ap ck).names dZ _ _ _;exact⟨rfl,by decide+kernel,by decide+kernel,by decide+kernel,by decide+kernel⟩) rfl (bf (fR (aa 2) (io (aq cK (aa 4) af)) ip)) cL (λ_ _ _ _=>bw (i:=0) (show(["third","bit","bits","k","held"]:List Str).Nodup by decide+kernel) rfl (Or.inl rfl) (.inr rfl)) (λ_ _ _ _=>(gB (aH aar (hr.mono (by decide)) rfl (ab (aa 4) (ab (aa 0) ag))))) (λ_ _ _ _=>(aT (ab (aT (ab (aa 1) (ab (aw aI (aa 2) (aa 3) (λ_ _=>rfl)) (ab (aa 0) ag)))) (ab af ag))))))))))) (aA (mn 3 (bq (dc (vars:=["pair"]) (caps:=[]) (by change BlkOk (ap ck).names dZ _ _ _;exact⟨rfl,by decide+kernel,by decide+kernel,by decide+kernel,by decide+kernel⟩) rfl (bf (aa 3)) cL (λ_ _ _ _=>bw (i:=0) (show(["pair"]:List Str).Nodup by decide+kernel) rfl (Or.inl rfl) (.inr rfl)) (λ_ _ _ _=>(aQ (lW hr.units) (aw aI (aa 0) af (λ_ _=>rfl)) af (aO _))) (λ_ _ _ _=>(aa 0))))))))
theorem aah:FnScope jr ["turns"] (ap d8):=⟨rfl,rfl,rfl,by decide+kernel,rfl,by decide+kernel,by decide+kernel⟩
theorem rV{f:Addr}{fd:FuncData}{dV:Value}(F:FunV K "form_of" "form_of" d8 f fd dV)(T:Txt mg)(aar:Cal P w K mg base "has" 1 cJ [])(aaw:Cal P w K mg base "form_with" 3 bU [])(aau:Cal P w K mg base "having" 2 b8 []):FnOk P w K mg base dM 4 f fd ["turns"] (h7 K dy):=
 gM (k:=3) (b:=jp) F aah λcdv A outer s H E hr=>(ah (aG 1 aah.nd af) (ah (cM PassesOwn.never rfl (bf (aa 0)) (bG 2 aah.nd) (aA (aG 1 aah.nd (aq HZ (aa 1) (aw aI (aa 2) af (λ_ _=>rfl)))))) (ah (kc 3 aah.nd (vars:=["bit"]) (caps:=[(1,"held")]) (by change BlkOk (ap d8).names jr _ _ _;exact⟨rfl,by decide+kernel,by decide+kernel,by decide+kernel,by decide+kernel⟩) rfl (jc rfl T.range (ab (uP (aa 1)) ag)) cL (λ_ _ _ _=>bw (i:=0) (show(["bit","held"]:List Str).Nodup by decide+kernel) rfl (Or.inl rfl) (.inr rfl)) (λ_ _ _ _=>(gB (aH aar (hr.mono (by decide)) rfl (ab (aa 1) (ab (aa 0) ag))))) (λ_ _ _ _=>(aa 0))) (ah (nG 4 aah.nd ag) (ah (cM PassesOwn.never rfl (jc rfl T.range (ab (b9 iR rfl T.len (by decide+kernel) (ab (aa 3) ag)) ag)) (bG 5 aah.nd) (aA (tw 4 (aH aaw (hr.mono (by decide)) rfl (ab (aw aI (aa 3) (aa 5) (λ_ _=>rfl)) (ab (aH aau (hr.mono (by decide)) rfl (ab (aa 0) (ab (aw aI (aa 3) (aa 5) (λ_ _=>rfl)) ag))) (ab (fR (aa 3) (io (aq cK (aa 5) af)) ip) ag))))))) (aA (mn 4 (bq (bW dw rfl T.tuple (by decide+kernel) (ab (aa 4) ag))))))))))
theorem aaj:FnScope gz ["one"] (ap cU):=⟨rfl,rfl,rfl,by decide+kernel,rfl,by decide+kernel,by decide+kernel⟩
theorem kz{f:Addr}{fd:FuncData}{dV:Value}(F:FunV K "settled_sum" "settled_sum" cU f fd dV)(T:Txt mg){cT tT:Addr}(hns:PySem.W.nsIn K mainGlobals "settled_sum" = some (some (.ref f)))(hT:PySem.W.tabIn K "settled_sum" = some (cT,tT))(aaz:Cal P w K mg base "cleared" 2 cr [])(aaA:Cal P w K mg base "shorter" 2 cq [])(aaB:Cal P w K mg base "form_of" 4 dy [])(aag:Cal P w K mg base "greatest" 1 br [])(G_xor:LamC P w K mg base "<lambda> xor" 1 ou)(G_id:LamC P w K mg base "<lambda> id" 1 qq):FnOk P w K mg base dM 5 f fd ["one"] (h7 K ao):=
 FZ (k:=4) (b:=cX) hns hT F aaj λA outer s H E hr=>(ah (cY (aQ (lW hr.units) (aw aI (aa 0) af (λ_ _=>rfl)) (aT ag) (aO _)) (aA EN) cH) (ah (aG 1 aaj.nd (qw rfl T.sorted (aH aaz (hr.mono (by decide)) rfl (ab (aw aI (aa 0) af (λ_ _=>rfl)) (ab (yK .id G_id.ns (by decide) hT rfl) (ab (yK .xor G_xor.ns (by decide) hT rfl) ag)))))) (ah (cY (aQ Gb af (aa 1) (by with_unfolding_all rfl)) (aA (bq oD)) cH) (ah (cM PassesOwn.never rfl (bf (aa 1)) (bG 2 aaj.nd) (aA (aG 0 aaj.nd (aH aaA (hr.mono (by decide)) rfl (ab (aa 0) (ab (aH aag (hr.mono (by decide)) rfl (ab (aa 2) ag)) (ab (aa 2) ag))))))) (aA (bq (aT (ab (aw aI (aa 0) af (λ_ _=>rfl)) (ab (aw aI (aa 0) af (λ_ _=>rfl)) (ab (aw aI (aa 0) af (λ_ _=>rfl)) (ab (aH aaB (hr.mono (by decide)) rfl (ab (aw aI (aa 0) af (λ_ _=>rfl)) ag)) (ab (bW dw rfl T.tuple (by decide+kernel) (ab (aa 1) ag)) ag))))))))))))
theorem aan:FnScope iY ["turn","counts","bitset","e"] (ap dt):=⟨rfl,rfl,rfl,by decide+kernel,rfl,by decide+kernel,by decide+kernel⟩
theorem kx{f:Addr}{fd:FuncData}{dV:Value}(F:FunV K "_law_added" "_law_added" dt f fd dV)(T:Txt mg):FnOk P w K mg base dM 1 f fd ["turn","counts","bitset","e"] (Gw K ai):=
 FY (k:=0) (b:=bY) F aan λcdv A outer s H E hr=>(iS (wO (aQ (sH hr.units) (aq bp (aa 2) af) af (aO _)) (iS (nE 0 aan.nd (aq cK (aa 0) (aa 3)) (by decide)) (iS (nE 3 aan.nd (uO uV (aa 3)) (by decide)) (oR (nE 2 aan.nd (aq qB (aa 2) af) (by decide))))) u7) (iS (wO (aQ lh (aa 2) af (aO _)) (oR (wP (wy hr.units) (aa 2) (aq bp (aq cK (qx 1 (wy hr.units) (aa 2) af ⟨rfl,rfl,rfl,rfl⟩) (aa 3)) af))) u7) (oR (zG (aq bp (aa 0) af)))))
theorem aac:FnScope eZ ["cells","shape","halves","ones"] (ap dA):=⟨rfl,rfl,rfl,by decide+kernel,rfl,by decide+kernel,by decide+kernel⟩
theorem pY{f:Addr}{fd:FuncData}{dV:Value}(F:FunV K "_law_sum" "_law_sum" dA f fd dV)(T:Txt mg)(B__law_added:CalMV P w K mg base "_law_added" 1 ai):FnOk P w K mg base dM 2 f fd ["cells","shape","halves","ones"] (h7 K dG):=
 gM (k:=1) (b:=gS) F aac λcdv A outer s H E hr=>(ah (aG 4 aac.nd (aq cK (aq cK (aq sG af (aw aI (aa 1) af (λ_ _=>rfl))) (aw aI (aa 1) af (λ_ _=>rfl))) af)) (ah (aG 5 aac.nd af) (ah (nI 6 aac.nd) (ah (nG 7 aac.nd ag) (ah (cM PassesOwn.never rfl (bf (aa 0)) (bG 8 aac.nd) (ah (aG 9 aac.nd (aq bp (aq dI (aa 8) af) (aq uU af (aa 4)))) (aA (cY (WV.tv (Eu (aQ lh (aq bp (aa 8) af) af (aO _)) (BT (aQ (sH hr.units) (iM 7 rfl T.len) (aa 3) (aO _))))) (aA (hJ 5 6 B__law_added (hr.mono (by decide)) rfl (by decide) aac.nd (aa 5) (ab (aa 9) (ab (aq bp (aq dI (aa 8) af) af) ag)))) (aA (cY (wH 7 (WV.tv (qZ (aQ lh (aa 9) af (aO _)) (sY (aQ AW (aa 9) (aa 7) (by with_unfolding_all rfl)))))) (aA (rq 7 (aa 9))) cH)))))) (ah (rp 6 (aG 10 aac.nd (bW dw rfl T.tuple (by decide+kernel) (ab (dc (vars:=["bitset"]) (caps:=[(6,"counts")]) (by change BlkOk (ap dA).names eZ _ _ _;exact⟨rfl,by decide+kernel,by decide+kernel,by decide+kernel,by decide+kernel⟩) rfl (bf (jl rfl T.sorted (aa 6))) cL (λ_ _ _ _=>bw (i:=0) (show(["bitset","counts"]:List Str).Nodup by decide+kernel) rfl (Or.inl rfl) (.inr rfl)) (λ_ _ _ _=>(aQ lh (er (wy hr.units) (aa 1) (aa 0) (λ_ _=>rfl)) af (aO _))) (λ_ _ _ _=>(aT (ab (aa 0) (ab (er (wy hr.units) (aa 1) (aa 0) (λ_ _=>rfl)) ag))))) ag)))) (aA (mn 7 (bq (aT (ab (aa 1) (ab (aa 2) (ab (aa 5) (ab (aa 10) (ab (bW dw rfl T.tuple (by decide+kernel) (ab (qw rfl T.sorted (aa 7)) ag)) (ab (aT ag) ag))))))))))))))))
theorem aao:FnScope jI ["ties","cell"] (ap dQ):=⟨rfl,rfl,rfl,by decide+kernel,rfl,by decide+kernel,by decide+kernel⟩
theorem n6{f:Addr}{fd:FuncData}{dV:Value}(F:FunV K "_law_tied" "_law_tied" dQ f fd dV)(T:Txt mg):FnOk P w K mg base dM 1 f fd ["ties","cell"] (h7 K bE):=
 gM (k:=0) (b:=dX) F aao λcdv A outer s H E hr=>(ah (zH 2 aao.nd (AS rfl T.list (ab (aa 0) ag))) (ah (cY (aQ lh (iM 2 rfl T.len) af (aO _)) (ah (aG 3 aao.nd (aq bp (aa 1) (iM 2 rfl T.len))) (ah (aG 4 aao.nd (aq bp (aq cK (aq cK (aa 3) af) (aq bp (aq dI (aa 1) af) (aq qB (iM 2 rfl T.len) af))) (iM 2 rfl T.len))) (aA (B9 2 (aa 3) (aq ld (yL 2 (aa 3) (λ_ _=>rfl)) (yL 2 (aa 4) (λ_ _=>rfl))))))) cH) (aA (mn 2 (bq (bW dw rfl T.tuple (by decide+kernel) (ab (AO rfl T.sorted rfl T.set_ (aa 2)) ag)))))))
theorem aaa:FnScope cS ["one","cell","size"] (ap bz):=⟨rfl,rfl,rfl,by decide+kernel,rfl,by decide+kernel,by decide+kernel⟩
theorem iu{f:Addr}{fd:FuncData}{dV:Value}(F:FunV K "_law_exchanged" "_law_exchanged" bz f fd dV)(T:Txt mg)(B__law_added:CalMV P w K mg base "_law_added" 1 ai):FnOk P w K mg base dM 2 f fd ["one","cell","size"] (h7 K bd):=
 gM (k:=1) (b:=cR) F aaa λcdv A outer s H E hr=>(ah (nI 3 aaa.nd) (ah (aG 4 aaa.nd (aw aI (aa 0) af (λ_ _=>rfl))) (ah (cM PassesOwn.never rfl (bf (aw aI (aa 0) af (λ_ _=>rfl))) (yu rfl (iK (bG 5 aaa.nd) (iK (bG 6 aaa.nd) uA))) (aA (nH 3 (wy hr.units) (aa 5) (aa 6)))) (ah (cY (WV.tv (qZ (aQ (sH hr.units) (aq bp (aa 1) af) af (aO _)) (qZ (aQ lh (b9 iR rfl T.len (by decide+kernel) (ab (aw aI (aa 0) af (λ_ _=>rfl)) ag)) af (aO _)) (sY (aQ lh (b9 iR rfl T.len (by decide+kernel) (ab (aw aI (aa 0) af (λ_ _=>rfl)) ag)) af (aO _)))))) (ah (aG 7 aaa.nd (aw aI (aw aI (aa 0) af (λ_ _=>rfl)) (aq bp (aq dI (aa 1) af) (b9 iR rfl T.len (by decide+kernel) (ab (aw aI (aa 0) af (λ_ _=>rfl)) ag))) (λ_ _=>rfl))) (ah (aG 8 aaa.nd (aw aI (aw aI (aa 0) af (λ_ _=>rfl)) (aq bp (aq dI (aa 1) af) (b9 iR rfl T.len (by decide+kernel) (ab (aw aI (aa 0) af (λ_ _=>rfl)) ag))) (λ_ _=>rfl))) (ah (hJ 4 3 B__law_added (hr.mono (by decide)) rfl (by decide) aaa.nd (aa 4) (ab (aw aI (aa 7) af (λ_ _=>rfl)) (ab (uO uV (aw aI (aa 7) af (λ_ _=>rfl))) ag))) (aA (hJ 4 3 B__law_added (hr.mono (by decide)) rfl (by decide) aaa.nd (aa 4) (ab (aq ld (aw aI (aa 7) af (λ_ _=>rfl)) (aa 8)) (ab (aw aI (aa 7) af (λ_ _=>rfl)) ag))))))) (ah (aG 9 aaa.nd (aq bp (aq dI (aa 1) af) (aq uU af (aa 2)))) (ah (aG 10 aaa.nd (aq bp (aq dI (aa 1) af) (aq uU af (aa 2)))) (aA (cM PassesOwn.never rfl (bf (Dx (ab (aa 9) (ab (aa 10) (ab (aq ld (aa 9) (aa 10)) ag))))) (bG 5 aaa.nd) (aA (hJ 4 3 B__law_added (hr.mono (by decide)) rfl (by decide) aaa.nd (aa 4) (ab (aa 5) (ab af ag))))))))) (ah (rp 3 (aG 11 aaa.nd (bW dw rfl T.tuple (by decide+kernel) (ab (dc (vars:=["bitset"]) (caps:=[(3,"counts")]) (by change BlkOk (ap bz).names cS _ _ _;exact⟨rfl,by decide+kernel,by decide+kernel,by decide+kernel,by decide+kernel⟩) rfl (bf (jl rfl T.sorted (aa 3))) cL (λ_ _ _ _=>bw (i:=0) (show(["bitset","counts"]:List Str).Nodup by decide+kernel) rfl (Or.inl rfl) (.inr rfl)) (λ_ _ _ _=>(aQ lh (er (wy hr.units) (aa 1) (aa 0) (λ_ _=>rfl)) af (aO _))) (λ_ _ _ _=>(aT (ab (aa 0) (ab (er (wy hr.units) (aa 1) (aa 0) (λ_ _=>rfl)) ag))))) ag)))) (aA (bq (aT (ab (aw aI (aa 0) af (λ_ _=>rfl)) (ab (aw aI (aa 0) af (λ_ _=>rfl)) (ab (aa 4) (ab (aa 11) (ab (aw aI (aa 0) af (λ_ _=>rfl)) (ab (aT ag) ag))))))))))))))
theorem jK:FnScope f7 ["told","e"] (ap cB):=⟨rfl,rfl,rfl,by decide+kernel,rfl,by decide+kernel,by decide+kernel⟩
theorem jM{f:Addr}{fd:FuncData}{dV:Value}(F:FunV K "_law_shifted" "_law_shifted" cB f fd dV)(T:Txt mg):FnOk P w K mg base dM 1 f fd ["told","e"] (h7 K aK):=
 gM (k:=0) (b:=fY) F jK λcdv A outer s H E hr=>(ah (cY (aQ Ga (aa 0) oD (aO _)) (aA (bq oD)) cH) (aA (bq (aT (ab (aw aI (aa 0) af (λ_ _=>rfl)) (ab (aw aI (aa 0) af (λ_ _=>rfl)) (ab (aq bp (aq cK (aw aI (aa 0) af (λ_ _=>rfl)) (aa 1)) af) (ab (aw aI (aa 0) af (λ_ _=>rfl)) (ab (aw aI (aa 0) af (λ_ _=>rfl)) ag)))))))))
theorem aae:FnScope zi ["script"] (ap gr):=⟨rfl,rfl,rfl,by decide+kernel,rfl,by decide+kernel,by decide+kernel⟩
theorem CZ{f:Addr}{fd:FuncData}{dV:Value}(F:FunV K "law" "law" gr f fd dV)(T:Txt mg)(aay:Cal P w K mg base "_law_sum" 2 dG [])(aad:Cal P w K mg base "settled_sum" 5 ao [])(aap:Cal P w K mg base "_law_shifted" 1 aK [])(aal:Cal P w K mg base "_law_exchanged" 2 bd [])(aax:Cal P w K mg base "_law_tied" 1 bE [])(B__law_added:CalMV P w K mg base "_law_added" 1 ai):FnOk P w K mg base dM 6 f fd ["script"] (h7 K yz):=
 gM (k:=5) (b:=yW) F aae λcdv A outer s H E hr=>(ah (aG 1 aae.nd af) (ah (cY (aQ lh (b9 iR rfl T.len (by decide+kernel) (ab (aa 0) ag)) af (aO _)) (aA (aG 1 aae.nd (aw aI (aa 0) af (λ_ _=>rfl)))) cH) (ah (aG 2 aae.nd (aT (ab (aq cK af (aq bp (aa 1) af)) (ab (aq bp (aq dI (aa 1) af) af) ag)))) (ah (aG 3 aae.nd (aq cK (aq cK (aq sG af (aw aI (aa 2) af (λ_ _=>rfl))) (aw aI (aa 2) af (λ_ _=>rfl))) af)) (ah (aG 4 aae.nd (aq bp (aq dI (aa 1) af) (aq cK (b9 iR rfl T.len (by decide+kernel) (ab (aa 0) ag)) af))) (ah (aG 5 aae.nd (aH aay (hr.mono (by decide)) rfl (ab (fR (fR (aa 0) ip (io (aa 4))) ip (io af)) (ab (aa 2) (ab (aq qB (aq bp (aq dI (aa 1) af) af) af) (ab (aq bp (aq dI (aa 1) af) af) ag)))))) (ah (aG 6 aae.nd (aa 5)) (ah (cM PassesOwn.never rfl (bf (fR (aa 0) (io (aa 4)) ip)) (bG 7 aae.nd) (aA (cY (aQ (sH hr.units) (aq bp (aa 7) af) af (aO _)) (aA (aG 6 aae.nd (aT (ab (aa 2) (ab (aw aI (aa 5) af (λ_ _=>rfl)) (ab (aw aI (aa 6) af (λ_ _=>rfl)) (ab (aw aI (aa 6) af (λ_ _=>rfl)) (ab (aH aax (hr.mono (by decide)) rfl (ab (aw aI (aa 6) af (λ_ _=>rfl)) (ab (aq dI (aa 7) af) ag))) (ab (aT ag) ag))))))))) (aA (aG 6 aae.nd (aH aal (hr.mono (by decide)) rfl (ab (aa 6) (ab (aq dI (aa 7) af) (ab (aa 3) ag))))))))) (ah (aG 8 aae.nd (aH aad (hr.mono (by decide)) rfl (ab (aa 5) ag))) (ah (cY (aQ (lW hr.units) (aH aad (hr.mono (by decide)) rfl (ab (aa 6) ag)) (aa 8) (aO _)) (aA (bq BO)) cH) (ah (aG 9 aae.nd (aq cK af (aq bp (aq dI (aa 1) af) af))) (ah (aG 10 aae.nd (aT (ab (aa 2) (ab (aw aI (aa 5) af (λ_ _=>rfl)) (ab (aq bp (aq cK (aw aI (aa 6) af (λ_ _=>rfl)) (aa 9)) af) (ab (aw aI (aa 6) af (λ_ _=>rfl)) (ab (aw aI (aa 6) af (λ_ _=>rfl)) (ab (aT ag) ag)))))))) (ah (cY (aQ (lW hr.units) (aH aad (hr.mono (by decide)) rfl (ab (aa 10) ag)) (aH aap (hr.mono (by decide)) rfl (ab (aa 8) (ab (aa 9) ag))) (aO _)) (aA (bq BO)) cH) (ah (cY (aQ lh (b9 iR rfl T.len (by decide+kernel) (ab (aw aI (aa 5) af (λ_ _=>rfl)) ag)) af (aO _)) (aA (bq (F4 (oE Ga (aa 8) oD (aO _)) (Dw (oE (lW hr.units) (aH aad (hr.mono (by decide)) rfl (ab (aa 10) ag)) (aa 8) (aO _)))))) cH) (ah (nI 11 aae.nd) (ah (cM PassesOwn.never rfl (bf (aw aI (aa 5) af (λ_ _=>rfl))) (yu rfl (iK (bG 12 aae.nd) (iK (bG 13 aae.nd) uA))) (aA (nH 11 (wy hr.units) (aa 12) (aa 13)))) (ah (hJ 14 11 B__law_added (hr.mono (by decide)) rfl (by decide) aae.nd (aw aI (aa 5) af (λ_ _=>rfl)) (ab (aq uU af (aq cK af (aq bp (aq dI (aa 1) af) (aq qB (aa 3) af)))) (ab (aa 9) ag))) (ah (rp 11 (aG 15 aae.nd (bW dw rfl T.tuple (by decide+kernel) (ab (dc (vars:=["bitset"]) (caps:=[(11,"counts")]) (by change BlkOk (ap gr).names zi _ _ _;exact⟨rfl,by decide+kernel,by decide+kernel,by decide+kernel,by decide+kernel⟩) rfl (bf (jl rfl T.sorted (aa 11))) cL (λ_ _ _ _=>bw (i:=0) (show(["bitset","counts"]:List Str).Nodup by decide+kernel) rfl (Or.inl rfl) (.inr rfl)) (λ_ _ _ _=>(aQ lh (er (wy hr.units) (aa 1) (aa 0) (λ_ _=>rfl)) af (aO _))) (λ_ _ _ _=>(aT (ab (aa 0) (ab (er (wy hr.units) (aa 1) (aa 0) (λ_ _=>rfl)) ag))))) ag)))) (aA (bq (oE (lW hr.units) (aH aad (hr.mono (by decide)) rfl (ab (aT (ab (aa 2) (ab (aw aI (aa 5) af (λ_ _=>rfl)) (ab (aa 14) (ab (aa 15) (ab (aT ag) (ab (aT ag) ag))))))) ag)) (aa 8) (aO _))))))))))))))))))))))
end
theorem oT:bb "all_added" cZ ["turn","turns","pairs"]:=λ_ _ _ _ _ _ us hl=>by obtain⟨_,_,_,rfl⟩:=vQ hl;exact rfl
theorem DL:bb "has" tM ["bitset","bit"]:=λ_ _ _ _ _ _ us hl=>by obtain⟨_,_,rfl⟩:=yc hl;exact rfl
theorem sT:bb "shorter" cN ["one","bit","change"]:=λ_ _ _ _ _ _ us hl=>by obtain⟨_,_,_,rfl⟩:=vQ hl;exact rfl
theorem qS:bb "greatest" eJ ["bitset"]:=λ_ _ _ _ _ _ us hl=>by obtain⟨_,rfl⟩:=vR hl;exact rfl
theorem sV:bb "cleared" d9 ["things","bits_in","product"]:=λ_ _ _ _ _ _ us hl=>by obtain⟨_,_,_,rfl⟩:=vQ hl;exact rfl
theorem wv:bb "having" fF ["turns","bit"]:=λ_ _ _ _ _ _ us hl=>by obtain⟨_,_,rfl⟩:=yc hl;exact rfl
theorem jT:bb "sum_of_turns" bN ["turns"]:=λ_ _ _ _ _ _ us hl=>by obtain⟨_,rfl⟩:=vR hl;exact rfl
theorem mh:bb "oddly_held" dq ["turns"]:=λ_ _ _ _ _ _ us hl=>by obtain⟨_,rfl⟩:=vR hl;exact rfl
theorem oS:bb "form_with" ck ["bit","turns","bits"]:=λ_ _ _ _ _ _ us hl=>by obtain⟨_,_,_,rfl⟩:=vQ hl;exact rfl
theorem sU:bb "form_of" d8 ["turns"]:=λ_ _ _ _ _ _ us hl=>by obtain⟨_,rfl⟩:=vR hl;exact rfl
theorem lG:bb "settled_sum" cU ["one"]:=λ_ _ _ _ _ _ us hl=>by obtain⟨_,rfl⟩:=vR hl;exact rfl
theorem mi:bb "_law_added" dt ["turn","counts","bitset","e"]:=λ_ _ _ _ _ _ us hl=>by obtain⟨_,_,_,_,rfl⟩:=FB hl;exact rfl
theorem qT:bb "_law_sum" dA ["cells","shape","halves","ones"]:=λ_ _ _ _ _ _ us hl=>by obtain⟨_,_,_,_,rfl⟩:=FB hl;exact rfl
theorem oU:bb "_law_tied" dQ ["ties","cell"]:=λ_ _ _ _ _ _ us hl=>by obtain⟨_,_,rfl⟩:=yc hl;exact rfl
theorem iT:bb "_law_exchanged" bz ["one","cell","size"]:=λ_ _ _ _ _ _ us hl=>by obtain⟨_,_,_,rfl⟩:=vQ hl;exact rfl
theorem jU:bb "_law_shifted" cB ["told","e"]:=λ_ _ _ _ _ _ us hl=>by obtain⟨_,_,rfl⟩:=yc hl;exact rfl
theorem DO{l:PySem.W.OpenLaw}{w:World}{K:PySem.W.Frag}{h:Heap}{mg:Str->Option Value}{fa f16:Addr}{od16 an16:Option Addr}{sl16:Array (Option Value)}{oc16 kV16 dc16 pm16 cd16 ct16:Value}(X:K.In h)(G:h.Ns mainGlobals mg)(hfa:mg "law" = some (.ref fa))
  (D0:DefIn K "all_added" "all_added" cZ)
  (D1:DefIn K "has" "has" tM)
  (D2:DefIn K "shorter" "shorter" cN)
  (D3:DefIn K "greatest" "greatest" eJ)
  (D4:DefIn K "cleared" "cleared" d9)
  (D5:DefIn K "having" "having" fF)
  (D6:DefIn K "sum_of_turns" "sum_of_turns" bN)
  (D7:DefIn K "oddly_held" "oddly_held" dq)
  (D8:DefIn K "form_with" "form_with" ck)
  (D9:DefIn K "form_of" "form_of" d8)
  (D10:DefIn K "settled_sum" "settled_sum" cU)
  (D11:DefIn K "_law_added" "_law_added" dt)
  (D12:DefIn K "_law_sum" "_law_sum" dA)
  (D13:DefIn K "_law_tied" "_law_tied" dQ)
  (D14:DefIn K "_law_exchanged" "_law_exchanged" bz)
  (D15:DefIn K "_law_shifted" "_law_shifted" cB)
  (a16:PySem.W.nsIn K mainGlobals "law" = some (some (.ref f16))) (l16:K.lookup f16=some ⟨oc16,od16,.func (PySem.W.fnOf "law" "law" (dU gr) (ca gr) (ap gr) .none kV16 dc16 pm16 an16 cd16 ct16),sl16⟩) (c16:PySem.W.codeIn K cd16 "law" = true) (k16:PySem.W.keepIn K (.ref f16)=true)
  (z_dict:PySem.W.nsIn K mainGlobals "dict" = some none)
  (z_tuple:PySem.W.nsIn K mainGlobals "tuple" = some none)
  (z_sorted:PySem.W.nsIn K mainGlobals "sorted" = some none)
  (z_sum:PySem.W.nsIn K mainGlobals "sum" = some none)
  (z_range:PySem.W.nsIn K mainGlobals "range" = some none)
  (z_len:PySem.W.nsIn K mainGlobals "len" = some none)
  (z_list:PySem.W.nsIn K mainGlobals "list" = some none)
  (z_set:PySem.W.nsIn K mainGlobals "set" = some none)
  (zG_id:PySem.W.nsIn K mainGlobals "<lambda> id" = some none)
  (zG_xor:PySem.W.nsIn K mainGlobals "<lambda> xor" = some none)
  (aaq:(PySem.W.tabIn K "settled_sum").isSome=true)
   :∃fd:FuncData,(∀(s:Shared) (v:Value),BindsTo s fd ⟨[v],[]⟩ [("script",v)])/\∀base:Heap,K.In base->base.Ns mainGlobals mg->FnOk l.prog w K mg base dM 6 fa fd ["script"] (pF K):=by
 have e:=hfa.symm.trans (PySem.W.mg_of X G a16);cases e;have T:Txt mg:=⟨PySem.W.mg_none_of X G z_dict,PySem.W.mg_none_of X G z_tuple,PySem.W.mg_none_of X G z_sorted,PySem.W.mg_none_of X G z_sum,PySem.W.mg_none_of X G z_range,PySem.W.mg_none_of X G z_len,PySem.W.mg_none_of X G z_list,PySem.W.mg_none_of X G z_set⟩;have F16:=uF (st:=gr) l16 c16 k16;refine⟨PySem.W.fnOf "law" "law" (dU gr) (ca gr) (ap gr) .none kV16 dc16 pm16 an16 cd16 ct16,λs v=>.of_eq rfl,λbase _ _=>?_⟩
 have G_id:LamC l.prog w K mg base "<lambda> id" 1 qq:=AE zG_id;have G_xor:LamC l.prog w K mg base "<lambda> xor" 1 ou:=yg zG_xor;obtain⟨⟨cT_settled_sum,tT_settled_sum⟩,hT_settled_sum⟩:=Option.isSome_iff_exists.mp aaq;have aav:Cal l.prog w K mg base "all_added" 1 bD []:=D0.cal X G oT λ_ _ F=>n4 F T
 have aar:Cal l.prog w K mg base "has" 1 cJ []:=D1.cal X G DL λ_ _ F=>C0 F T
 have aaA:Cal l.prog w K mg base "shorter" 2 cq []:=D2.cal X G sT λ_ _ F=>rT F T aav aar
 have aag:Cal l.prog w K mg base "greatest" 1 br []:=D3.cal X G qS λ_ _ F=>pX F T
 have aaz:Cal l.prog w K mg base "cleared" 2 cr []:=D4.cal X G sV λ_ _ F=>rW F T aar aag G_id G_xor
 have aau:Cal l.prog w K mg base "having" 2 b8 []:=D5.cal X G wv λ_ _ F=>vL F T aar
 have aai:Cal l.prog w K mg base "sum_of_turns" 1 aP []:=D6.cal X G jT λ_ _ F=>jL F T
 have aas:Cal l.prog w K mg base "oddly_held" 1 bH []:=D7.cal X G mh λ_ _ F=>lR F T
 have aaw:Cal l.prog w K mg base "form_with" 3 bU []:=D8.cal X G oS λ_ _ F=>nZ F T aau aas aai aar
 have aaB:Cal l.prog w K mg base "form_of" 4 dy []:=D9.cal X G sU λ_ _ F=>rV F T aar aaw aau
 have aad:Cal l.prog w K mg base "settled_sum" 5 ao []:=D10.calL X G lG λ_ _ a F=>kz F T a hT_settled_sum aaz aaA aaB aag G_xor G_id
 have B__law_added:CalMV l.prog w K mg base "_law_added" 1 ai:=D11.calMV X G mi λ_ _ F=>kx F T
 have aay:Cal l.prog w K mg base "_law_sum" 2 dG []:=D12.cal X G qT λ_ _ F=>pY F T B__law_added
 have aax:Cal l.prog w K mg base "_law_tied" 1 bE []:=D13.cal X G oU λ_ _ F=>n6 F T
 have aal:Cal l.prog w K mg base "_law_exchanged" 2 bd []:=D14.cal X G iT λ_ _ F=>iu F T B__law_added
 have aap:Cal l.prog w K mg base "_law_shifted" 1 aK []:=D15.cal X G jU λ_ _ F=>jM F T
 have O16:FnOk l.prog w K mg base dM 6 _ _ _ (h7 K yz):=CZ F16 T aay aad aap aal aax B__law_added;exact FC O16 λns hl=>law_true ns hl
end GN
open PySem PySem.W PyProof.Rows
set_option maxRecDepth 1000000 in
set_option maxHeartbeats 0 in
theorem PySem.Challenge.cw_wavewires_k55_settled_alike_holds : PySem.Challenge.rw_wavewires_k55_settled_alike.Holds := by
  refine topT ?_
  k_fill
  refine VL.BW (k := 6) (l := PySem.Challenge.rw_wavewires_k55_settled_alike) rfl ⟨rfl, by decide, by decide⟩ rfl (fun w h Y => PySem.W.km_in_of Y) ?F (fun w => by kernel_rfl) (fun w => by kernel_rfl)
  case F =>
    intro w mg fa h KX G hmg
    refine' GN.DO KX G hmg (VL.DefIn.mk ?a0 ?l0 ?c0 ?k0) (VL.DefIn.mk ?a1 ?l1 ?c1 ?k1) (VL.DefIn.mk ?a2 ?l2 ?c2 ?k2) (VL.DefIn.mk ?a3 ?l3 ?c3 ?k3) (VL.DefIn.mk ?a4 ?l4 ?c4 ?k4) (VL.DefIn.mk ?a5 ?l5 ?c5 ?k5) (VL.DefIn.mk ?a6 ?l6 ?c6 ?k6) (VL.DefIn.mk ?a7 ?l7 ?c7 ?k7) (VL.DefIn.mk ?a8 ?l8 ?c8 ?k8) (VL.DefIn.mk ?a9 ?l9 ?c9 ?k9) (VL.DefIn.mk ?a10 ?l10 ?c10 ?k10) (VL.DefIn.mk ?a11 ?l11 ?c11 ?k11) (VL.DefIn.mk ?a12 ?l12 ?c12 ?k12) (VL.DefIn.mk ?a13 ?l13 ?c13 ?k13) (VL.DefIn.mk ?a14 ?l14 ?c14 ?k14) (VL.DefIn.mk ?a15 ?l15 ?c15 ?k15) ?a16 ?l16 ?c16 ?k16 ?z_dict ?z_tuple ?z_sorted ?z_sum ?z_range ?z_len ?z_list ?z_set ?zG_id ?zG_xor ?aaq
    (case a0 => k_is)
    (case l0 => k_is)
    (case c0 => k_is)
    (case k0 => k_is)
    (case a1 => k_is)
    (case l1 => k_is)
    (case c1 => k_is)
    (case k1 => k_is)
    (case a2 => k_is)
    (case l2 => k_is)
    (case c2 => k_is)
    (case k2 => k_is)
    (case a3 => k_is)
    (case l3 => k_is)
    (case c3 => k_is)
    (case k3 => k_is)
    (case a4 => k_is)
    (case l4 => k_is)
    (case c4 => k_is)
    (case k4 => k_is)
    (case a5 => k_is)
    (case l5 => k_is)
    (case c5 => k_is)
    (case k5 => k_is)
    (case a6 => k_is)
    (case l6 => k_is)
    (case c6 => k_is)
    (case k6 => k_is)
    (case a7 => k_is)
    (case l7 => k_is)
    (case c7 => k_is)
    (case k7 => k_is)
    (case a8 => k_is)
    (case l8 => k_is)
    (case c8 => k_is)
    (case k8 => k_is)
    (case a9 => k_is)
    (case l9 => k_is)
    (case c9 => k_is)
    (case k9 => k_is)
    (case a10 => k_is)
    (case l10 => k_is)
    (case c10 => k_is)
    (case k10 => k_is)
    (case a11 => k_is)
    (case l11 => k_is)
    (case c11 => k_is)
    (case k11 => k_is)
    (case a12 => k_is)
    (case l12 => k_is)
    (case c12 => k_is)
    (case k12 => k_is)
    (case a13 => k_is)
    (case l13 => k_is)
    (case c13 => k_is)
    (case k13 => k_is)
    (case a14 => k_is)
    (case l14 => k_is)
    (case c14 => k_is)
    (case k14 => k_is)
    (case a15 => k_is)
    (case l15 => k_is)
    (case c15 => k_is)
    (case k15 => k_is)
    (case a16 => k_is)
    (case l16 => k_is)
    (case c16 => k_is)
    (case k16 => k_is)
    (case z_dict => k_is)
    (case z_tuple => k_is)
    (case z_sorted => k_is)
    (case z_sum => k_is)
    (case z_range => k_is)
    (case z_len => k_is)
    (case z_list => k_is)
    (case z_set => k_is)
    (case zG_id => k_is)
    (case zG_xor => k_is)
    (case aaq => kernel_rfl)

end