import PyProof.Rows.All
import Wide.All
import OpenK.AllK
import Wide.FinOn
import Lean
import PyProof.EqAt
import PyProof.EqKinds
import PyProof.TupleCall
import KE.KLam
import PySem.Challenge.RW_wavewires_k54_sums_settled
section TopS
set_option Elab.async false
set_option linter.all false
open PySem PySem.W PyProof.Rows
def viewQ : Program := view PySem.Challenge.rw_wavewires_k54_sums_settled.prog [1, 2, 3, 4, 5, 6, 8, 10, 11, 13, 14, 16, 17, 18, 19, 20, 21, 23, 24, 25, 26, 27, 28, 29, 30, 31, 32, 33]
local macro_rules
  | `(tactic| o_head $H) => do
    let hw := Lean.mkIdent `hw
    let hc := Lean.mkIdent `hc
    `(tactic| refine holds_open (q := viewQ) (loose := []) (Xt := fun s => xlAt viewQ [] s && recOk (RowW.records (OpenRow.toRowW PySem.Challenge.rw_wavewires_k54_sums_settled.row)) s) (XP := XL viewQ []) (Yf := Hook.obs $H) (Ya := Hook.val $H) (YP := Hook.says $H) (N := 6000) (fun w => by (unfold openEnds fencedOpening topFrom; rw [Fast.te10274390034422433532, Fast.te14082659384304107361, Fast.te1435165496053646825, Fast.te14289696077712309145, Fast.te14364793385576792824, Fast.te4187177175401517315, Fast.te5923862056798008813]; kernel_rfl)) (Hook.of $H) (Hook.keeps $H) (fun s e => xl_of s (Bool.and_eq_true_iff.mp e).1) XL.keeps (by rfl) (by rfl) (by rfl) (fun s e => recFacts_of (Bool.and_eq_true_iff.mp e).2) (by rfl) (by first | assumption | decide +kernel) (by decide +kernel) ⟨rfl, rfl, rfl, rfl, rfl, by decide +kernel⟩ ?$hw ?$hc)
set_option maxRecDepth 1000000 in
set_option maxHeartbeats 0 in
open_top topT for PySem.Challenge.rw_wavewires_k54_sums_settled
end TopS
noncomputable section
set_option Elab.async false
set_option linter.all false
set_option maxRecDepth 100000
namespace L2
open PySem PySem.Spec PyProof.Rows
open PySem.W (findIn instObj kia_one kitx_dict kitx_list lookIn methodObj plainGet tabIn)
open List (mem_append_right size_toArray)
open Nat (le_refl le_trans lt_irrefl lt_of_lt_of_le ne_of_lt)
open PySem.Heap (get?_push_of_some get?_push_size lt_size)
abbrev aw:=Sum Int Str
def kz:aw->Value->Bool
 |.inl k,v=>Value.isInt k v
 |.inr x,v=>Value.isStrOf x v
def Kd(w:World):aw->Int
 |.inl k=>hashInt k
 |.inr x=>hashStr w x
theorem ba:∀{k:aw} {v:Value},kz k v=true->(∃i t,k=Sum.inl i/\v=Value.int i t)\/(∃x t,k=Sum.inr x/\v=Value.str x t)
 |.inl i,v,h=>by
  obtain⟨t,e⟩:=Value.isInt_shape (k:=i) (v:=v) h;exact .inl ⟨i,t,rfl,e⟩
 |.inr x,v,h=>by
  obtain⟨t,e⟩:=Value.isStrOf_shape (x:=x) (v:=v) h;exact .inr ⟨x,t,rfl,e⟩
theorem xA(i:Int)(t:Tok):kz (.inl i) (.int i t)=true:=by simp[kz,Value.isInt]
theorem xz(x:Str)(t:Tok):kz (.inr x) (.str x t)=true:=by simp[kz,Value.isStrOf]
theorem FM(a b:Int):decide ((Sum.inl a:aw)=Sum.inl b)=(a==b):=by
 by_cases e:a=b
 .subst e;simp
 .have h:¬(Sum.inl a:aw)=Sum.inl b:=λq=>e (Sum.inl.inj q)
  rw[decide_eq_false h];exact(beq_eq_false_iff_ne.mpr e).symm
theorem FH(a b:Str):decide ((Sum.inr a:aw)=Sum.inr b)=decide (a=b):=by
 by_cases e:a=b
 .subst e;simp
 .have h:¬(Sum.inr a:aw)=Sum.inr b:=λq=>e (Sum.inr.inj q)
  rw[decide_eq_false h,decide_eq_false e]
theorem FK(a:Int)(b:Str):decide ((Sum.inl a:aw)=Sum.inr b)=false:=decide_eq_false (λq=>nomatch q)
theorem FJ(a:Str)(b:Int):decide ((Sum.inr a:aw)=Sum.inl b)=false:=decide_eq_false (λq=>nomatch q)
def aF(prog:Program)(w:World):PySem.KeyKind prog w aw where
 is:=kz
 hash:=Kd w
 inj:=λv a b ha hb=>by
  rcases ba ha with⟨i,t,rfl,rfl⟩|⟨x,t,rfl,rfl⟩
  .rcases ba hb with⟨j,u,rfl,e⟩|⟨y,u,rfl,e⟩
   .injection e with e1 _;rw[e1]
   .exact nomatch e
  .rcases ba hb with⟨j,u,rfl,e⟩|⟨y,u,rfl,e⟩
   .exact nomatch e
   .injection e with e1 _;rw[e1]
 byValue:=λk v h=>by
  rcases ba h with⟨i,t,rfl,rfl⟩|⟨x,t,rfl,rfl⟩<;>rfl
 pyHash:=λhv h=>by
  rcases ba hv with⟨i,t,rfl,rfl⟩|⟨x,t,rfl,rfl⟩
  .exact wpAny_pyHash_int h
  .exact wpAny_pyHash_str h
 eqBool:=λhu hv h=>by
  rcases ba hu with⟨i,t,rfl,rfl⟩|⟨x,t,rfl,rfl⟩
  .rcases ba hv with⟨j,u,rfl,rfl⟩|⟨y,u,rfl,rfl⟩
   .rw[FM]at h;exact wpAny_eqBool_int h
   .rw[FK]at h;exact SeqAt.EqAt.int_str i t y u _ _ _ _ h
  .rcases ba hv with⟨j,u,rfl,rfl⟩|⟨y,u,rfl,rfl⟩
   .rw[FJ]at h;exact SeqAt.EqAt.str_int x t j u _ _ _ _ h
   .rw[FH]at h;exact wpAny_eqBool_str h
 «strs»:=λk x t v h=>by
  rcases ba h with⟨i,u,rfl,e⟩|⟨y,u,rfl,e⟩
  .exact nomatch e
  .injection e with e1 _
   subst e1;cases v<;>rfl
theorem rK(prog:Program)(w:World)(i:Int)(t:Tok):(aF prog w).is (.inl i) (.int i t)=true:=xA i t
theorem rJ(prog:Program)(w:World)(x:Str)(t:Tok):(aF prog w).is (.inr x) (.str x t)=true:=xz x t
inductive V where
 |non|bl (b:Bool)|int (i:Int)|str (x:Str)|byt (b:Array UInt8)|flt (b:UInt64)|ref (a:Addr)|ty (n:String)
 deriving DecidableEq
def RelV:V->Value->Prop
 |.non,u=>u=Value.none
 |.bl b,u=>u=Value.bool b
 |.int i,u=>∃t,u=Value.int i t
 |.str x,u=>∃t,u=Value.str x t
 |.byt b,u=>∃t,u=Value.bytes b t
 |.flt b,u=>∃t,u=Value.float b t
 |.ref a,u=>u=Value.ref a
 |.ty n,u=>u=Value.type n
abbrev Vals:List V->List Value->Prop:=Paired RelV
theorem Vals.length{xs:List V}{us:List Value}(r:Vals xs us):xs.length=us.length:=Paired.length r
theorem Vals.get:∀{xs:List V} {us:List Value} {i:Nat} {x:V},Vals xs us->xs[i]? = some x->∃u,us[i]? = some u/\RelV x u
 |_,_,_,_,.nil,e=>by simp at e
 |_,_,0,_,.cons r _,e=>by simp at e;subst e;exact⟨_,rfl,r⟩
 |_,_,i+1,x,.cons _ t,e=>by
  obtain⟨u,h1,h2⟩:=Vals.get (i:=i) (x:=x) t (by simpa using e);exact⟨u,by simpa using h1,h2⟩
theorem Vals.append:∀{xs ys:List V} {us ws:List Value},Vals xs us->Vals ys ws->Vals (xs++ys) (us++ws)
 |_,_,_,_,.nil,s=>s
 |_,_,_,_,.cons r t,s=>.cons r (Vals.append t s)
theorem Vals.take:∀{xs:List V} {us:List Value} (n:Nat),Vals xs us->Vals (xs.take n) (us.take n)
 |_,_,0,_=>.nil
 |_,_,_+1,.nil=>.nil
 |_,_,n+1,.cons r t=>.cons r (Vals.take n t)
theorem Vals.drop:∀{xs:List V} {us:List Value} (n:Nat),Vals xs us->Vals (xs.drop n) (us.drop n)
 |_,_,0,r=>r
 |_,_,_+1,.nil=>.nil
 |_,_,n+1,.cons _ t=>Vals.drop n t
def RelO:Option V->Option Value->Prop
 |some v,some u=>RelV v u
 |none,none=>True
 |_,_=>False
def KV{κ:Type}:List (κ × V)->List (κ × Value)->Prop:=Paired λ(p:κ × V) (q:κ × Value)=>p.1=q.1/\RelV p.2 q.2
def kV:aw->V
 |.inl i=>.int i
 |.inr x=>.str x
inductive HO where
 |lst (xs:List V)
 |tup (xs:List V)
 |dK (kvs:List (aw×V))|dT (kvs:List (List aw×V))
 |set (S:Int->Bool) (n:Nat)
 |ins (C dx:Addr) (fs:List (Str×V))
 |own (x:Addr)
 |xd (fs:List (Str×V))
 |met (f x:Addr)
 |rng (lo hi:Int)
 |frz (o:Obj) (u:HO)
 |tbl (ps:Array Value)
 |cod (c:Addr)
 |ext (φ:Heap->Prop)
abbrev Hp:=Addr->Option HO
def upd(H:Hp)(a:Addr)(o:HO):Hp:=λb=>if b=a then some o else H b
theorem av{H:Hp}{a:Addr}{o:HO}:upd H a o a=some o:=by unfold upd;rw[if_pos rfl]
theorem aq{H:Hp}{a b:Addr}{o:HO}(h:b≠a):upd H a o b=H b:=by unfold upd;rw[if_neg h]
theorem HH{H:Hp}{a b:Addr}{o u:HO}(h:H a=some o)(h':H b=some u)(d:o≠u):a≠b:=by
 intro e;subst e;rw[h]at h';exact d (Option.some.inj h')
theorem az{H:Hp}{a b:Addr}{o:HO}(h:H a=some o)(h':H b=none):a≠b:=by
 intro e;subst e;rw[h]at h';cases h'
section
variable(P:Program)(w:World)
def NoDi(h:Heap)(a:Addr):Prop:=∃o,h.get? a=some o/\o.dict=none
theorem NoDi.new(h:Heap)(o:Obj)(e:o.dict=none:=by rfl)(f:o.isFreed=false:=by rfl):NoDi (h.push o) h.objs.size:=⟨o,get?_push_size h f,e⟩
def ObjOk(H:Hp)(h:Heap)(a:Addr):HO->Prop
 |.lst xs=>xs.length<=sizeLine/\∃(its:List Value) (n:Nat),Vals xs its/\h.get? a=some {cls:=.type "list",data:=.seq its.toArray n}
 |.tup xs=>xs.length<=sizeLine/\∃its:List Value,Vals xs its/\IsTup h a its.toArray/\NoDi h a
 |.dK kvs=>kvs.length<=sizeLine/\(a==sysModules)=false/\∃vs,KV kvs vs/\h.DictOf (aF P w) a vs
 |.dT kvs=>kvs.length<=sizeLine/\(a==sysModules)=false/\∃xs:List (List aw×Addr×Value),
   Paired (λ(p:List aw×V) (q:List aw×Addr×Value)=>p.1=q.1/\H q.2.1=some (.tup (p.1.map kV))/\RelV p.2 q.2.2) kvs xs/\
   ∃o es ep,h.get? a=some o/\o.ExactDict/\o.data=.dict es ep/\es.toList=xs.map (entryOfKey (tupleKind (aF P w)))/\(xs.map (·.1)).Nodup
 |.set S n=>h.SetOf (intKind P w) a S n
 |.ins C dx fs=>H dx=some (.own a)/\fs.length<=1000/\dx≠a/\h.get? a=some (instObj C dx)/\
   ∃mA,h.Ns1 dx mA/\(∀f,RelO (fs.lookup f) (mA f))/\PySem.Within mA (fs.map (·.1))
 |.own _=>∃o,h.get? a=some o
 |.xd fs=>∃mA,h.Ns1 a mA/\∀f,RelO (fs.lookup f) (mA f)
 |.rng lo hi=>∃t u v,h.get? a=some {cls:=.type "range",data:=.fields #[.int lo t,.int hi u,.int 1 v]}
 |.frz o u=>h.get? a=some o/\ObjOk H h a u
 |.tbl _=>∃ps:Array Value,h.get? a=some {cls:=.none,data:=.fields ps}/\TriplesOk ps.toList/\∀pos cv,codeAmong pos ps.toList=some cv ->
   ∃(c:Addr) (oc:Obj) (u:HO) (vs:Array Value) (q:Str) (t:Tok),cv=.ref c/\H c=some (.frz oc u)/\oc.data=.fields vs/\vs[1]? = some (.str q t)
 |.cod c=>(∃o,h.get? a=some o)/\∃(oc:Obj) (u:HO) (vs:Array Value) (q:Str) (t:Tok),H c=some (.frz oc u)/\oc.data=.fields vs/\vs[1]? = some (.str q t)
 |.met f x=>h.get? a=some (methodObj (.ref f) (.ref x))
 |.ext φ=>φ h/\(∃o,h.get? a=some o)/\∀h1 h2:Heap,φ h1->(∀o,h1.get? a=some o->h2.get? a=some o)-> φ h2
def HOk(H:Hp)(h:Heap):Prop:=∀a o,H a=some o->ObjOk P w H h a o
end
section
variable{P:Program}{w:World}{H H':Hp}{h h':Heap}{a:Addr}{o:HO}
theorem ObjOk.lt(x:ObjOk P w H h a o):a<h.objs.size:=by
 cases o with
 |lst xs=>obtain⟨_,_,_,_,e⟩:=x;exact lt_size e
 |tup xs=>obtain⟨_,_,_,p⟩:=x;exact p.1.lt
 |dK kvs=>obtain⟨_,_,_,_,o,_,_,e,_⟩:=x;exact lt_size e
 |dT kvs=>obtain⟨_,_,_,_,o,_,_,e,_⟩:=x;exact lt_size e
 |set S n=>obtain⟨o,_,_,_,e,_⟩:=x;exact lt_size e
 |ins C dx fs=>obtain⟨_,_,_,e,_⟩:=x;exact lt_size e
 |own y=>obtain⟨_,e⟩:=x;exact lt_size e
 |xd fs=>obtain⟨_,⟨_,_,_,e,_⟩,_⟩:=x;exact lt_size e
 |rng lo hi=>obtain⟨_,_,_,e⟩:=x;exact lt_size e
 |frz ob u=>obtain⟨e,_⟩:=x;exact lt_size e
 |tbl ps=>obtain⟨_,e,_⟩:=x;exact lt_size e
 |cod c=>obtain⟨⟨_,e⟩,_⟩:=x;exact lt_size e
 |met f y=>exact lt_size (show h.get? a=some _ from x)
 |ext φ=>obtain⟨_,⟨_,e⟩,_⟩:=x;exact lt_size e
theorem Paired.mapP{α β:Type}{F G:α -> β -> Prop}:∀{l₁:List α} {l₂:List β},Paired F l₁ l₂ -> (∀a b,F a b->G a b)->Paired G l₁ l₂
 |_,_,.nil,_=>.nil
 |_,_,.cons r t,f=>.cons (f _ _ r) (Paired.mapP t f)
theorem ObjOk.stay(x:ObjOk P w H h a o)(k:∀b u,(b=a\/H b=some (.own a))->h.get? b=some u->h'.get? b=some u)
  (ho:∀b,H b=some (.own a)->H' b=some (.own a)) (ht:∀b xs,H b=some (.tup xs)->H' b=some (.tup xs)) (hf:∀b o u,H b=some (.frz o u)->H' b=some (.frz o u)):ObjOk P w H' h' a o:=by
 induction o with
 |lst xs=>obtain⟨z,its,n,r,e⟩:=x;exact⟨z,its,n,r,k _ _ (.inl rfl) e⟩
 |tup xs=>obtain⟨z,its,r,⟨ob,e,c⟩,od,e',c'⟩:=x;exact⟨z,its,r,⟨ob,k _ _ (.inl rfl) e,c⟩,od,k _ _ (.inl rfl) e',c'⟩
 |dK kvs=>obtain⟨z,y,vs,r,ob,es,ep,e,c⟩:=x;exact⟨z,y,vs,r,ob,es,ep,k _ _ (.inl rfl) e,c⟩
 |dT kvs=>
  obtain⟨z,y,xs,r,ob,es,ep,e,c⟩:=x;exact⟨z,y,xs,Paired.mapP r λp q z=>⟨z.1,ht _ _ z.2.1,z.2.2⟩,ob,es,ep,k _ _ (.inl rfl) e,c⟩
 |set S n=>obtain⟨ob,es,ep,t,e,c⟩:=x;exact⟨ob,es,ep,t,k _ _ (.inl rfl) e,c⟩
 |ins C dx fs=>
  obtain⟨d,z,ne,e,mA,⟨od,es,ep,e2,c⟩,r⟩:=x;exact⟨ho _ d,z,ne,k _ _ (.inl rfl) e,mA,⟨od,es,ep,k _ _ (.inr d) e2,c⟩,r⟩
 |own y=>obtain⟨ob,e⟩:=x;exact⟨ob,k _ _ (.inl rfl) e⟩
 |xd fs=>obtain⟨mA,⟨od,es,ep,e,c⟩,r⟩:=x;exact⟨mA,⟨od,es,ep,k _ _ (.inl rfl) e,c⟩,r⟩
 |rng lo hi=>obtain⟨t,u,v,e⟩:=x;exact⟨t,u,v,k _ _ (.inl rfl) e⟩
 |frz ob u ih=>obtain⟨e,q⟩:=x;exact⟨k _ _ (.inl rfl) e,ih q⟩
 |tbl ps=>
  obtain⟨ps,e,t,g⟩:=x;exact⟨ps,k a _ (.inl rfl) e,t,λpos cv q=>let ⟨c,oc,u,vs,q',t',e1,e2,r⟩:=g pos cv q; ⟨c,oc,u,vs,q',t',e1,hf _ _ _ e2,r⟩⟩
 |cod c=>
  obtain⟨⟨o,e⟩,oc,u,vs,q',t',e2,r⟩:=x;exact⟨⟨o,k a _ (.inl rfl) e⟩,oc,u,vs,q',t',hf _ _ _ e2,r⟩
 |met f y=>
  have e:h.get? a=some (methodObj (.ref f) (.ref y)):=x;show h'.get? a=some (methodObj (.ref f) (.ref y));exact k a _ (.inl rfl) e
 |ext φ=>obtain⟨p,⟨o,e⟩,st⟩:=x;exact⟨st _ _ p λo q=>k _ _ (.inl rfl) q,⟨o,k _ _ (.inl rfl) e⟩,st⟩
theorem HOk.lt(x:HOk P w H h)(e:H a=some o):a<h.objs.size:=(x a o e).lt
theorem HOk.fresh(x:HOk P w H h)(e:h.objs.size<=a):H a=none:=by
 cases q:H a with
 |none=>rfl
 |some u=>exact absurd (lt_of_lt_of_le (x.lt q) e) (lt_irrefl _)
theorem HOk.kept(x:HOk P w H h)(k:∀b u,h.get? b=some u->h'.get? b=some u):HOk P w H h':=λa o e=>
 (x a o e).stay (λb u _ q=>k b u q) (λ_ q=>q) (λ_ _ q=>q) λ_ _ _ q=>q
theorem HOk.laid(x:HOk P w H h)(k:∀b u,h.get? b=some u->h'.get? b=some u)(hp:h.objs.size<=a)(new:ObjOk P w (upd H a o) h' a o):HOk P w (upd H a o) h':=λb u e=>by
 have hn:=x.fresh hp;by_cases hb:b=a
 .subst hb;rw[av]at e;cases e;exact new
 .rw[aq hb]at e
  exact(x b u e).stay (λc v _ q=>k c v q) (λc q=>by rw[aq (az q hn)];exact q) (λc xs q=>by rw[aq (az q hn)];exact q) λc o xs q=>by rw[aq (az q hn)];exact q
end
def Rd(H:Hp)(a:Addr)(u:HO):Prop:=H a=some u\/∃o,H a=some (.frz o u)
theorem Rd.ok{P:Program}{w:World}{H:Hp}{h:Heap}{a:Addr}{u:HO}(r:Rd H a u)(x:HOk P w H h):ObjOk P w H h a u:=by
 rcases r with r|⟨o,r⟩
 .exact x a u r
 .obtain⟨_,q⟩:=x a _ r
  exact q
def IS:Option HO->Prop
 |some (.lst _)=>True
 |some (.dK _)=>True
 |some (.dT _)=>True
 |some (.set _ _)=>True
 |some (.ins _ _ _)=>True
 |some (.ext _)=>True
 |_=>False
section
variable{P:Program}{w:World}{H:Hp}{h h':Heap}{x e:Addr}{o':HO}
theorem HOk.write(ok:HOk P w H h)(mu:IS (H x))(he:e=x\/H e=some (.own x))(k:∀b u,b≠e->h.get? b=some u->h'.get? b=some u)(heo:∃u,h'.get? e=some u)
  (new:ObjOk P w (upd H x o') h' x o'):HOk P w (upd H x o') h':=λb u q=>by
 have nown:∀c y,H c=some (.own y)->c≠x:=λc y r z=>by subst z;rw[r]at mu;exact mu
 have ntup:∀c xs,H c=some (.tup xs)->c≠x:=λc xs r z=>by subst z;rw[r]at mu;exact mu
 have nfrz:∀c o xs,H c=some (.frz o xs)->c≠x:=λc o xs r z=>by subst z;rw[r]at mu;exact mu
 by_cases hb:b=x
 .subst hb;rw[av]at q;cases q;exact new
 .rw[aq hb]at q
  by_cases hbe:b=e
  .have q':H b=some (.own x):=by
    rcases he with z|z
    .exact absurd (hbe.trans z) hb
    .rw[hbe];exact z
   rw[q]at q';cases q';obtain⟨v,hv⟩:=heo;exact⟨v,by rw[hbe];exact hv⟩
  .refine(ok b u q).stay (λc v hc r=>k c v ?_ r) (λc r=>by rw[aq (nown c b r)];exact r) (λc xs r=>by rw[aq (ntup c xs r)];exact r) λc o xs r=>by rw[aq (nfrz c o xs r)];exact r
   rcases hc with rfl|hc
   .exact hbe
   .rintro rfl
    rcases he with z|z
    .exact nown c b hc z
    .rw[hc]at z;cases z;exact hb rfl
end
structure Un (fs ex:List Addr) (H H':Hp) (h h':Heap):Prop where
 keep:∀b o,h.get? b=some o->H b=none->b∉fs->b∉ex->h'.get? b=some o
 slot:∀b o,h.get? b=some o->H b=none->b∈fs->b∉ex->∃sl,h'.get? b=some {o with slots:=sl}
 free:∀b o,h.get? b=some o->H b=none->b∉ex->H' b=none
 there:∀b o,h.get? b=some o->b∉ex->∃o',h'.get? b=some o'
 tups:∀b xs,H b=some (.tup xs)->H' b=some (.tup xs)
 frzs:∀b o u,H b=some (.frz o u)->H' b=some (.frz o u)
 tbls:∀b ps,H b=some (.tbl ps)->∃more,H' b=some (.tbl (ps++more))
section
variable{fs fs' ex ex':List Addr}{H H1 H2:Hp}{h h1 h2 h':Heap}{a x e:Addr}{o:HO}
theorem Un.any(u:Un fs ex H H1 h h1){b:Addr}{ob:Obj}(q:h.get? b=some ob)(n:H b=none)(hx:b∉ex):∃sl,h1.get? b=some {ob with slots:=sl}:=by
 by_cases hb:b∈fs
 .exact u.slot b ob q n hb hx
 .exact⟨ob.slots,u.keep b ob q n hb hx⟩
theorem Un.kept(k:∀b u,h.get? b=some u->h'.get? b=some u):Un fs ex H H h h':=
 ⟨λb ob q _ _ _=>k b ob q,λb ob q _ _ _=>⟨ob.slots,k b ob q⟩,λ_ _ _ n _=>n,λb ob q _=>⟨ob,k b ob q⟩,λ_ _ q=>q,λ_ _ _ q=>q,λ_ ps q=>⟨#[],by rw[q];simp⟩⟩
theorem Un.refl:Un fs ex H H h h:=Un.kept λ_ _ q=>q
theorem Un.laid(k:∀b u,h.get? b=some u->h'.get? b=some u)(hp:h.objs.size<=a)(hn:H a=none):Un fs ex H (upd H a o) h h' where
 keep:=λb u q _ _ _=>k b u q
 slot:=λb u q _ _ _=>⟨u.slots,k b u q⟩
 free:=λb u q n _=>by rw[aq (ne_of_lt (lt_of_lt_of_le (lt_size q) hp))];exact n
 there:=λb u q _=>⟨u,k b u q⟩
 tups:=λb xs q=>by rw[aq (az q hn)];exact q
 frzs:=λb u xs q=>by rw[aq (az q hn)];exact q
 tbls:=λb ps q=>⟨#[],by rw[aq (az q hn),q];simp⟩
theorem Un.write(mu:IS (H x))(he:e=x\/H e=some (.own x))(k:∀b u,b≠e->h.get? b=some u->h'.get? b=some u)(heo:∃u,h'.get? e=some u):Un fs ex H (upd H x o) h h':=by
 have hx:∀b,H b=none->b≠x:=λb n z=>by subst z;rw[n]at mu;exact mu
 have hb:∀b,H b=none->b≠e:=λb n z=>by
  subst z;rcases he with r|r
  .exact hx b n r
  .rw[n]at r;cases r
 have hm:∀b u,H b=some u->¬IS (some u)->b≠x:=λb u q nm z=>by subst z;rw[q]at mu;exact nm mu
 refine⟨λb u q n _ _=>k b u (hb b n) q,λb u q n _ _=>⟨u.slots,k b u (hb b n) q⟩,λb u q n _=>by rw[aq (hx b n)];exact n,λb u q _=>?_,
  λb xs q=>by rw[aq (hm b _ q λz=>z)];exact q,λb u xs q=>by rw[aq (hm b _ q λz=>z)];exact q,λb ps q=>⟨#[],by rw[aq (hm b _ q λz=>z),q];simp⟩⟩
 by_cases hbe:b=e
 .subst hbe;exact heo
 .exact⟨u,k b u hbe q⟩
end
def trk(h:Heap)(H:Hp):List Addr:=(List.range h.objs.size).filter λa=>(H a).isSome
def mm(h:Heap)(H:Hp):Heap:=PySem.W.hideAll h (trk h H)
theorem xJ(h:Heap)(H:Hp):(mm h H).objs.size=h.objs.size:=PySem.W.hideAll_size _ _
theorem Aw{h:Heap}{H:Hp}{b:Addr}{o:Obj}(e:h.get? b=some o)(n:H b=none):(mm h H).get? b=some o:=
 PySem.W.hideAll_get _ e λhm=>by
  have q:(H b).isSome=true:=(List.mem_filter.mp hm).2;rw[n]at q;simp at q
theorem Cu{h:Heap}{H:Hp}{b:Addr}{o:Obj}(e:(mm h H).get? b=some o):h.get? b=some o/\H b=none:=by
 have e':h.get? b=some o:=PySem.W.of_hideAll (trk h H) e;refine⟨e',?_⟩;cases q:H b with
 |none=>rfl
 |some x=>
  have hm:b∈trk h H:=List.mem_filter.mpr ⟨List.mem_range.mpr (lt_size e'),by simp[q]⟩;have z:(mm h H).get? b=none:=PySem.W.hideAll_none (trk h H) hm;rw[z]at e;cases e
def Dj(g h:Heap)(L:Addr):List (Addr×Obj):=(List.range h.objs.size).filterMap λa=>if a=L\/(g.get? a).isSome=true then none else(h.get? a).map λo=>(a,o)
def rest(g h:Heap)(L d:Addr):List (Addr×Obj):=(Dj g h L).filter λp=>decide (p.1≠d)
def lamDefs:List Str:=["settled_sum","settled"]
theorem tu{K:PySem.W.Frag}{x:Str}{c P:Addr}(ht:tabIn K x=some (c,P)):∃o,K.lookup c=some o:=by
 unfold tabIn at ht;split at ht
 .split at ht
  .split at ht
   .split at ht
    .rename_i h
     split at ht
     .cases ht;exact⟨_,h⟩
     .cases ht
    .cases ht
   .cases ht
  .cases ht
 .cases ht
structure Mod (K:PySem.W.Frag) (mg:Str->Option Value) (base:Heap):Prop where
 kin:K.In base
 glob:base.Ns mainGlobals mg
 blt:∃mb,base.Ns builtinsNs mb/\∀x:Str,x≠"__name__" -> mb x=bootBuiltins x
 nolimit:base.NoLimit
 bmain:BMain base mg
 tabs:∀x∈lamDefs,∀c P,tabIn K x=some (c,P)->PySem.W.CodeHd base c P
def Dl(K:PySem.W.Frag)(H:Hp):Prop:=∀x∈lamDefs,∀c P,tabIn K x=some (c,P)->∃ps,H P=some (.tbl ps)
structure Cx where
 prog:Program
 w:World
 K:PySem.W.Frag
 mg:Str->Option Value
 base:Heap
 A:Around
 N:List Str
 s₀:Shared
 H₀:Hp
 env:Env
 outer:List Env
 stack:List Env
 ex:List Addr
 fn:Str->Bool
 calm:Bool
 pn:List (Addr×Obj)
 xe:Value->Shared->Prop
def g9(l:List Env):List Addr:=l.filterMap (·.frame)
abbrev Cx.fs(X:Cx):List Addr:=g9 X.outer
def yk(sc:Scope)(x:Str):Prop:=sc.names.lookup x=some .local\/sc.names.lookup x=some .cell\/sc.names.lookup x=some .free
def sU(sc:Scope)(x:Str):Prop:=sc.names.lookup x=some .local\/sc.names.lookup x=some .cell
def KK(env:Env)(h:Heap)(m:Str->Option Value)(x:Str)(u:Value):Prop:=
 (env.kindOf x=some .local/\m x=some u)\/((env.kindOf x=some .cell\/env.kindOf x=some .free)/\∃c,env.cells.lookup x=some c/\h.IsCell c (some u))
structure Cx.Ok (X:Cx):Prop where
 mod:Mod X.K X.mg X.base
 kind:X.env.scope.kind=.function
 glob:X.env.globals=mainGlobals
 blt:X.env.builtins=builtinsNs
 above:X.s₀.heap.objs.size<=X.env.locals
 inj:∀x y c,X.env.cells.lookup x=some c->X.env.cells.lookup y=some c->x=y
 has:∀x,(X.env.kindOf x=some .cell\/X.env.kindOf x=some .free)->∃c,X.env.cells.lookup x=some c
 cab:∀x c,X.fn x=true->X.env.cells.lookup x=some c->X.s₀.heap.objs.size<=c
 hd:X.calm=true->X.A.handled=none
 frames:X.A.frames=some X.stack
 stk:X.stack=X.outer\/(X.stack=X.env::X.outer/\X.env.frame=some X.env.locals)
 exf:∀b∈X.ex,b≠X.env.locals/\∀x c,X.env.cells.lookup x=some c->c≠b
 bs:∀b o,X.base.get? b=some o->X.s₀.heap.get? b=some o/\X.H₀ b=none
 bsz:X.base.objs.size<=X.s₀.heap.objs.size
 noex:∀b o,X.base.get? b=some o->b∉X.ex
 exfs:∀b∈X.ex,b∉X.fs
 funs:X.s₀.heap.FunFrames X.base X.outer
 frf:∀b∈X.fs,X.H₀ b=none
 tb:Dl X.K X.H₀
structure Inv (X:Cx) (pins:List (Addr×Obj)) (σ:List (Option V)) (H:Hp) (s:Shared):Prop where
 ok:X.Ok
 os:s.os=X.s₀.os
 bare:AllBare s.gens
 base:Un X.fs X.ex X.H₀ H X.s₀.heap s.heap
 loc:∃m,s.heap.Ns X.env.locals m/\∀(i:Nat) (x:Str) (v:V),X.N[i]? = some x -> σ[i]? = some (some v)->yk X.env.scope x->∃u,RelV v u/\KK X.env s.heap m x u
 cell:∀x c,X.env.cells.lookup x=some c->∃v,s.heap.IsCell c v
 free:H X.env.locals=none
 freeC:∀x c,X.env.cells.lookup x=some c->H c=none
 pin:∀p∈X.pn++pins,s.heap.get? p.1=some p.2/\H p.1=none/\p.1≠X.env.locals/\p.1∉X.fs/\∀v,p.2.data≠.cell v
 hok:HOk X.prog X.w H s.heap
 len:σ.length=X.N.length
section
variable{X:Cx}{pins:List (Addr×Obj)}{σ:List (Option V)}{H H':Hp}{s:Shared}{h':Heap}
theorem Cx.Ok.nofr(ok:X.Ok){b:Addr}{o:Obj}(e:X.base.get? b=some o):b∉X.fs:=λhb=>by
 have:=(ok.funs.mem hb).1;rw[e]at this;cases this
theorem Inv.bs(I:Inv X pins σ H s):∀b o,X.base.get? b=some o->s.heap.get? b=some o/\H b=none:=λb o e=>
 ⟨I.base.keep b o (I.ok.bs b o e).1 (I.ok.bs b o e).2 (I.ok.nofr e) (I.ok.noex b o e),I.base.free b o (I.ok.bs b o e).1 (I.ok.bs b o e).2 (I.ok.noex b o e)⟩
theorem Inv.bk(I:Inv X pins σ H s):∀b o,X.base.get? b=some o->s.heap.get? b=some o:=λb o e=>(I.bs b o e).1
theorem Inv.mod(I:Inv X pins σ H s):Mod X.K X.mg X.base:=I.ok.mod
theorem Inv.tb(I:Inv X pins σ H s):Dl X.K H:=λx hx c P e=>by
 obtain⟨ps,h⟩:=I.ok.tb x hx c P e;obtain⟨m,h'⟩:=I.base.tbls P ps h;exact⟨_,h'⟩
theorem Inv.kIn(I:Inv X pins σ H s):X.K.In s.heap:=I.ok.mod.kin.keeps I.bk
theorem Inv.fr(I:Inv X pins σ H s):∃m,Fr X.base X.env.locals s.heap m:=
 let ⟨m,hn,_⟩:=I.loc
 ⟨m,hn,I.bk,le_trans I.ok.bsz I.ok.above⟩
theorem Inv.lt(I:Inv X pins σ H s):X.env.locals<s.heap.objs.size:=let ⟨_,hn,_⟩:=I.loc;hn.lt
theorem Inv.sz(I:Inv X pins σ H s):X.s₀.heap.objs.size<=s.heap.objs.size:=le_trans I.ok.above (Nat.le_of_lt I.lt)
theorem Inv.nofs(I:Inv X pins σ H s){a:Addr}(h:s.heap.objs.size<=a):a∉X.fs:=λhb=>by
 obtain⟨_,o,ho,_⟩:=I.ok.funs.mem hb;exact absurd (lt_of_lt_of_le (lt_size ho) (le_trans I.sz h)) (lt_irrefl _)
theorem Inv.cne(I:Inv X pins σ H s):∀x c,X.env.cells.lookup x=some c->c≠X.env.locals:=λx c e z=>by
 obtain⟨v,o,ho,hd⟩:=I.cell x c e;obtain⟨m,⟨o',es,ep,ho',hd',_⟩,_⟩:=I.loc;rw[z,ho']at ho;cases ho;rw[hd']at hd;cases hd
theorem Inv.funs(I:Inv X pins σ H s):s.heap.FunFrames X.base X.outer:=by
 have all:∀(l:List Env),(∀b∈g9 l,b∈X.fs)->X.s₀.heap.FunFrames X.base l->s.heap.FunFrames X.base l:=by
  intro l
  induction l with
  |nil=>intro _ _;trivial
  |cons env r ih=>
   intro hs hl;obtain⟨hk,⟨L,o,hf,hn,ho,hd⟩,hr⟩:=hl;have hL:L∈X.fs:=hs L (by unfold g9;rw[List.filterMap_cons,hf];exact List.mem_cons_self);obtain⟨sl,e⟩:=I.base.slot L o ho (I.ok.frf L hL) hL λz=>I.ok.exfs L z hL
   exact⟨hk,⟨L,_,hf,hn,e,hd⟩,ih (λb hb=>hs b (by unfold g9;rw[List.filterMap_cons,hf];exact List.mem_cons_of_mem _ hb)) hr⟩
 exact all X.outer (λ_ hb=>hb) I.ok.funs
theorem Inv.stack(I:Inv X pins σ H s):s.heap.FunFrames X.base X.stack:=by
 rcases I.ok.stk with e|⟨e,hf⟩
 .rw[e];exact I.funs
 .rw[e]
  obtain⟨m,hn,_⟩:=I.loc;refine .cons (by rw[I.ok.kind];decide) hf hn ?_ I.funs;exact Heap.get?_none_of_le (le_trans I.ok.bsz I.ok.above)
theorem Inv.stkSub(I:Inv X pins σ H s):∀b∈g9 X.stack,b∈X.env.locals::X.fs:=λb hb=>by
 rcases I.ok.stk with e|⟨e,hf⟩
 .rw[e]at hb;exact List.mem_cons_of_mem _ hb
 .rw[e]at hb
  unfold g9 at hb;rw[List.filterMap_cons,hf]at hb;exact hb
theorem Inv.stkFree(I:Inv X pins σ H s):∀b∈g9 X.stack,H b=none:=λb hb=>by
 rcases List.mem_cons.mp (I.stkSub b hb)with e|hb
 .rw[e];exact I.free
 .obtain⟨_,o,ho,_⟩:=I.ok.funs.mem hb
  exact I.base.free b o ho (I.ok.frf b hb) λz=>I.ok.exfs b z hb
theorem Inv.step{g':Array GenState}{t':Nat}{d':Drawn}{ch:List Addr}(I:Inv X pins σ H s)
  (hch:∀b∈ch,(b∈X.ex\/X.s₀.heap.objs.size<=b)/\b≠X.env.locals/\(∀x c,X.env.cells.lookup x=some c->c≠b)/\∀p∈X.pn++pins,p.1≠b)
  (keep:∀b o,b≠X.env.locals->b∉X.fs->b∉ch->s.heap.get? b=some o->H b=none->h'.get? b=some o)
  (slot:∀b o,b≠X.env.locals->b∈X.fs->b∉ch->s.heap.get? b=some o->H b=none->∃sl,h'.get? b=some {o with slots:=sl}) (free:∀b o,b∉ch->s.heap.get? b=some o->H b=none->H' b=none)
  (there:∀b o,b∉ch->s.heap.get? b=some o->∃o',h'.get? b=some o')
  (tups:∀b xs,H b=some (.tup xs)->H' b=some (.tup xs)) (frzs:∀b o u,H b=some (.frz o u)->H' b=some (.frz o u)) (tbls:∀b ps,H b=some (.tbl ps)->∃more,H' b=some (.tbl (ps++more)))
  (ns:∀m,s.heap.Ns X.env.locals m->h'.Ns X.env.locals m) (hok:HOk X.prog X.w H' h') (hg:AllBare g'):
  Inv X pins σ H' {s with heap:=h',gens:=g',drawn:=d',toks:=t'}:=by
 have neL:∀b o,X.s₀.heap.get? b=some o->b≠X.env.locals:=λb o e=>ne_of_lt (lt_of_lt_of_le (lt_size e) I.ok.above)
 have neC:∀b o,X.s₀.heap.get? b=some o->b∉X.ex->b∉ch:=λb o e hx hb=>by
  rcases (hch b hb).1 with z|z
  .exact hx z
  .exact absurd (lt_of_lt_of_le (lt_size e) z) (lt_irrefl _)
 have cellK:∀x c,X.env.cells.lookup x=some c->∀v,s.heap.IsCell c v->h'.IsCell c v:=λx c e v ⟨o,ho,hd⟩=>by
  have nch:c∉ch:=λz=>(hch c z).2.2.1 x c e rfl
  by_cases hc:c∈X.fs
  .obtain⟨sl,q⟩:=slot c o (I.cne x c e) hc nch ho (I.freeC x c e)
   exact⟨_,q,hd⟩
  .exact⟨o,keep c o (I.cne x c e) hc nch ho (I.freeC x c e),hd⟩
 refine⟨I.ok,I.os,hg,⟨λb o e n hb hx=>?_,λb o e n hb hx=>?_,λb o e n hx=>?_,λb o e hx=>?_,λb xs e=>tups b xs (I.base.tups b xs e),λb o xs e=>frzs b o xs (I.base.frzs b o xs e),λb ps e=>?_⟩,?_,λx c e=>?_,?_,λx c e=>?_,λp hp=>?_,hok,I.len⟩
 .exact keep b o (neL b o e) hb (neC b o e hx) (I.base.keep b o e n hb hx) (I.base.free b o e n hx)
 .obtain⟨sl,e1⟩:=I.base.slot b o e n hb hx
  obtain⟨sl',e2⟩:=slot b _ (neL b o e) hb (neC b o e hx) e1 (I.base.free b o e n hx);exact⟨sl',e2⟩
 .obtain⟨o',e1⟩:=I.base.there b o e hx
  exact free b o' (neC b o e hx) e1 (I.base.free b o e n hx)
 .obtain⟨o',e1⟩:=I.base.there b o e hx
  exact there b o' (neC b o e hx) e1
 .obtain⟨m1,e1⟩:=I.base.tbls b ps e
  obtain⟨m2,e2⟩:=tbls b _ e1;exact⟨m1++m2,by rw[e2,Array.append_assoc]⟩
 .obtain⟨m,hn,hl⟩:=I.loc
  refine⟨m,ns m hn,λi x v e1 e2 e3=>?_⟩
  obtain⟨u,r,l⟩:=hl i x v e1 e2 e3;refine⟨u,r,?_⟩;rcases l with l|⟨k,c,e,z⟩
  .exact .inl l
  .exact .inr ⟨k,c,e,cellK x c e _ z⟩
 .obtain⟨v,z⟩:=I.cell x c e
  exact⟨v,cellK x c e v z⟩
 .obtain⟨m,⟨o,_,_,ho,_⟩,_⟩:=I.loc
  exact free _ o (λz=>(hch _ z).2.1 rfl) ho I.free
 .obtain⟨v,o,ho,hd⟩:=I.cell x c e
  exact free c o (λz=>(hch c z).2.2.1 x c e rfl) ho (I.freeC x c e)
 .obtain⟨e,n,ne,nf,d⟩:=I.pin p hp
  have nch:p.1∉ch:=λz=>(hch p.1 z).2.2.2 p hp rfl
  exact⟨keep p.1 p.2 ne nf nch e n,free p.1 p.2 nch e n,ne,nf,d⟩
theorem Inv.un{t':Nat}(I:Inv X pins σ H s)(u:Un X.fs [] H H' s.heap h')(hok:HOk X.prog X.w H' h'):Inv X pins σ H' {s with heap:=h',toks:=t'}:=by
 obtain⟨m,⟨o,es,ep,ho,r⟩,_⟩:=id I.loc;obtain⟨sl,hL⟩:=u.any ho I.free (by simp);exact I.step (g':=s.gens) (d':=s.drawn) (ch:=[]) (λ_ z=>nomatch z) (λb o _ hb _ e n=>u.keep b o e n hb (by simp)) (λb o _ hb _ e n=>u.slot b o e n hb (by simp)) (λb o _ e n=>u.free b o e n (by simp)) (λb o _ e=>u.there b o e (by simp)) u.tups u.frzs u.tbls (λm' hm=>by
  obtain⟨o',es',ep',ho',r'⟩:=hm;rw[ho]at ho';cases ho';exact⟨_,es',ep',hL,r'⟩) hok I.bare
theorem Inv.call{g':Array GenState}{t':Nat}{d':Drawn}{ch:List Addr}(I:Inv X pins σ H s)(u:Un (g9 X.stack) ch H H' s.heap h')(hok:HOk X.prog X.w H' h')(hg:AllBare g')
  (hch:∀b∈ch,(b∈X.ex\/X.s₀.heap.objs.size<=b)/\b≠X.env.locals/\(∀x c,X.env.cells.lookup x=some c->c≠b)/\∀p∈X.pn++pins,p.1≠b):
  Inv X pins σ H' {s with heap:=h',gens:=g',drawn:=d',toks:=t'}:=by
 obtain⟨m,⟨o,es,ep,ho,r⟩,_⟩:=id I.loc;obtain⟨sl,hL⟩:=u.any ho I.free λz=>(hch _ z).2.1 rfl
 exact I.step (ch:=ch) hch (λb o hL hb hc e n=>u.keep b o e n (λz=>(List.mem_cons.mp (I.stkSub b z)).elim hL hb) hc) (λb o _ _ hc e n=>u.any e n hc) (λb o hc e n=>u.free b o e n hc) (λb o hc e=>u.there b o e hc) u.tups u.frzs u.tbls (λm' hm=>by
  obtain⟨o',es',ep',ho',r'⟩:=hm;rw[ho]at ho';cases ho';exact⟨_,es',ep',hL,r'⟩) hok hg
theorem Inv.turned{t':Nat}{it:Addr}(I:Inv X pins σ H s)(k:∀b o,b≠it->s.heap.get? b=some o->h'.get? b=some o)(hn:H it=none)(hL:it≠X.env.locals)
  (h1:it∈X.ex\/X.s₀.heap.objs.size<=it) (h2:∀x c,X.env.cells.lookup x=some c->c≠it) (h3:∀p∈X.pn++pins,p.1≠it):Inv X pins σ H {s with heap:=h',toks:=t'}:=by
 have nit:∀b u,H b=some u->b≠it:=λb u e z=>by rw[z,hn]at e;cases e
 refine I.step (g':=s.gens) (d':=s.drawn) (ch:=[it]) (λb hb=>?_) (λb o _ _ hc e _=>k b o (λz=>hc (by simp[z])) e) (λb o _ _ hc e _=>⟨o.slots,k b o (λz=>hc (by simp[z])) e⟩) (λ_ _ _ _ n=>n)
  (λb o hc e=>⟨o,k b o (λz=>hc (by simp[z])) e⟩) (λ_ _ e=>e) (λ_ _ _ e=>e) (λb ps e=>⟨#[],by rw[e];simp⟩) (λm hm=>?_) (λb u e=>?_) I.bare
 .have e:b=it:=by simpa using hb
  subst e;exact⟨h1,hL,h2,h3⟩
 .obtain⟨o,es,ep,ho,r⟩:=hm
  exact⟨o,es,ep,k _ o (Ne.symm hL) ho,r⟩
 .refine(I.hok b u e).stay (λc v hc q=>k c v ?_ q) (λ_ q=>q) (λ_ _ q=>q) λ_ _ _ q=>q
  rcases hc with z|z
  .rw[z];exact nit b u e
  .exact nit c _ z
theorem Inv.tok(I:Inv X pins σ H s)(t:Nat):Inv X pins σ H {s with toks:=t}:=I.un (h':=s.heap) (t':=t) Un.refl I.hok
theorem Inv.kept{t':Nat}(I:Inv X pins σ H s)(k:∀b u,s.heap.get? b=some u->h'.get? b=some u):Inv X pins σ H {s with heap:=h',toks:=t'}:=I.un (Un.kept k) (I.hok.kept k)
theorem Inv.laid{a:Addr}{o:HO}{t':Nat}(I:Inv X pins σ H s)(k:∀b u,s.heap.get? b=some u->h'.get? b=some u)(hp:s.heap.objs.size<=a)(new:ObjOk X.prog X.w (upd H a o) h' a o):
  Inv X pins σ (upd H a o) {s with heap:=h',toks:=t'}:=I.un (Un.laid k hp (I.hok.fresh hp)) (I.hok.laid k hp new)
theorem Inv.write{x e:Addr}{o:HO}{t':Nat}(I:Inv X pins σ H s)(mu:IS (H x))(he:e=x\/H e=some (.own x))(k:∀b u,b≠e->s.heap.get? b=some u->h'.get? b=some u)(heo:∃u,h'.get? e=some u)
  (new:ObjOk X.prog X.w (upd H x o) h' x o):Inv X pins σ (upd H x o) {s with heap:=h',toks:=t'}:=I.un (Un.write mu he k heo) (I.hok.write mu he k heo new)
theorem Inv.weak{σ':List (Option V)}(I:Inv X pins σ H s)(hl:σ'.length = σ.length)(w:∀(i:Nat) v,σ'[i]? = some (some v)-> σ[i]? = some (some v)):Inv X pins σ' H s:=
 ⟨I.ok,I.os,I.bare,I.base,let ⟨m,hn,hl'⟩:=I.loc; ⟨m,hn,λi x v e1 e2 e3=>hl' i x v e1 (w i v e2) e3⟩,I.cell,I.free,I.freeC,I.pin,I.hok,hl.trans I.len⟩
theorem Inv.pins_of{pins':List (Addr×Obj)}(I:Inv X pins σ H s)(h:∀p∈pins',s.heap.get? p.1=some p.2/\H p.1=none/\p.1≠X.env.locals/\p.1∉X.fs/\∀v,p.2.data≠.cell v):Inv X pins' σ H s:=
 ⟨I.ok,I.os,I.bare,I.base,I.loc,I.cell,I.free,I.freeC,λp hp=>(List.mem_append.mp hp).elim (λz=>I.pin p (List.mem_append_left _ z)) (h p),I.hok,I.len⟩
theorem lQ{N:List Str}(hN:N.Nodup){i j:Nat}{x:Str}(a:N[i]? = some x)(b:N[j]? = some x):i=j:=by
 obtain⟨h1,e1⟩:=List.getElem?_eq_some_iff.mp a;obtain⟨h2,e2⟩:=List.getElem?_eq_some_iff.mp b;exact(List.getElem_inj hN).mp (e1.trans e2.symm)
theorem wK{M:Model}{A:Around}{E:Value->Shared->Prop}{i:Nat}{x:Str}{v:V}{u:Value}{Q:Unit->Shared->Prop}(I:Inv X pins σ H s)(hN:X.N.Nodup)(hi:X.N[i]? = some x)(hx:sU X.env.scope x)(r:RelV v u)
  (h:∀s',Inv X pins (σ.set i (some v)) H s'->(∃a,Heap.SameBut a s.heap s'.heap/\(a=X.env.locals\/X.env.cells.lookup x=some a))->Q () s') (hf:X.fn x=true\/X.env.scope.names.lookup x=some .local:=by first|exact .inl rfl|exact .inr rfl|assumption):wpAny M A (storeName X.env x u) Q E s:=by
 obtain⟨m,hn,hl⟩:=id I.loc;have hcls:(X.env.scope.kind == .class||(X.env.scope.kind == .module&&X.env.locals != X.env.globals))=false:=by rw[I.ok.kind];rfl
 have hiσ:i < σ.length:=by rw[I.len];exact(List.getElem?_eq_some_iff.mp hi).1
 have cne:=I.cne;have tracked:∀{a:Addr} {h':Heap},(∃o,s.heap.get? a=some o/\H a=none)->Heap.SameBut a s.heap h'->HOk X.prog X.w H h':=λ{a h'} ha hs b ob e=>by
  obtain⟨_,_,hfree⟩:=ha;refine(I.hok b ob e).stay (λc w' hc q=>(hs.2 c ?_).trans q) (λ_ q=>q) (λ_ _ q=>q) λ_ _ _ q=>q
  rintro rfl;rcases hc with rfl|hc
  .rw[hfree]at e;cases e
  .rw[hfree]at hc;cases hc
 rcases hx with hk|hk
 .refine wpAny_storeName_local hk hn (λh' hn' hs=>?_) hcls
  obtain⟨oL,_,_,hoL,_⟩:=id hn;refine h _ ⟨I.ok,I.os,I.bare,⟨λb o e n hb hx=>?_,λb o e n hb hx=>?_,I.base.free,λb o e hx=>?_,I.base.tups,I.base.frzs,I.base.tbls⟩,⟨_,hn',λj y v' e1 e2 e3=>?_⟩,λy c e=>?_,I.free,I.freeC,λp hp=>?_,tracked ⟨oL,hoL,I.free⟩ hs,by simpa using I.len⟩ ⟨_,hs,.inl rfl⟩
  .exact(hs.2 b (ne_of_lt (lt_of_lt_of_le (lt_size e) I.ok.above))).trans (I.base.keep b o e n hb hx)
  .obtain⟨sl,e1⟩:=I.base.slot b o e n hb hx
   exact⟨sl,(hs.2 b (ne_of_lt (lt_of_lt_of_le (lt_size e) I.ok.above))).trans e1⟩
  .obtain⟨o',e1⟩:=I.base.there b o e hx
   exact⟨o',(hs.2 b (ne_of_lt (lt_of_lt_of_le (lt_size e) I.ok.above))).trans e1⟩
  .by_cases hj:j=i
   .subst hj
    rw[hi]at e1;cases e1;rw[List.getElem?_set_self hiσ]at e2;cases e2;exact⟨u,r,.inl ⟨hk,by simp⟩⟩
   .rw[List.getElem?_set_ne (Ne.symm hj)]at e2
    obtain⟨u',r',q⟩:=hl j y v' e1 e2 e3;refine⟨u',r',?_⟩;rcases q with⟨k,e⟩|⟨k,c,e,z⟩
    .refine .inl ⟨k,?_⟩
     have:y≠x:=λe=>hj (lQ hN e1 (e ▸ hi))
     simp[this,e]
    .exact .inr ⟨k,c,e,z.sameBut hs (cne y c e)⟩
  .obtain⟨w',z⟩:=I.cell y c e
   exact⟨w',z.sameBut hs (cne y c e)⟩
  .obtain⟨e,n,ne,nf,d⟩:=I.pin p hp
   exact⟨(hs.2 p.1 ne).trans e,n,ne,nf,d⟩
 .have hfn:X.fn x=true:=by
   rcases hf with z|z
   .exact z
   .rw[z]at hk;cases hk
  obtain⟨c,hc⟩:=I.ok.has x (.inl hk);obtain⟨w',z⟩:=I.cell x c hc;refine wpAny_storeName_cell I.ok.kind hk hc z (λh' hc' hs=>?_);obtain⟨oc,hoc,hocd⟩:=id z;refine h {s with heap:=h'} ⟨I.ok,I.os,I.bare,⟨λb o e n hb hx=>?_,λb o e n hb hx=>?_,I.base.free,λb o e hx=>?_,I.base.tups,I.base.frzs,I.base.tbls⟩,⟨m,hn.sameBut hs (Ne.symm (cne x c hc)),λj y v' e1 e2 e3=>?_⟩,λy c' e=>?_,I.free,I.freeC,λp hp=>?_,tracked ⟨oc,hoc,I.freeC x c hc⟩ hs,by simpa using I.len⟩ ⟨c,hs,.inr hc⟩
  .exact(hs.2 b (ne_of_lt (lt_of_lt_of_le (lt_size e) (I.ok.cab x c hfn hc)))).trans (I.base.keep b o e n hb hx)
  .obtain⟨sl,e1⟩:=I.base.slot b o e n hb hx
   exact⟨sl,(hs.2 b (ne_of_lt (lt_of_lt_of_le (lt_size e) (I.ok.cab x c hfn hc)))).trans e1⟩
  .obtain⟨o',e1⟩:=I.base.there b o e hx
   exact⟨o',(hs.2 b (ne_of_lt (lt_of_lt_of_le (lt_size e) (I.ok.cab x c hfn hc)))).trans e1⟩
  .by_cases hj:j=i
   .subst hj
    rw[hi]at e1;cases e1;rw[List.getElem?_set_self hiσ]at e2;cases e2;exact⟨u,r,.inr ⟨.inl hk,c,hc,hc'⟩⟩
   .rw[List.getElem?_set_ne (Ne.symm hj)]at e2
    obtain⟨u',r',q⟩:=hl j y v' e1 e2 e3;refine⟨u',r',?_⟩;rcases q with q|⟨k,c',e,z'⟩
    .exact .inl q
    .refine .inr ⟨k,c',e,z'.sameBut hs ?_⟩
     rintro rfl;exact hj (lQ hN e1 (I.ok.inj _ _ _ e hc ▸ hi))
  .by_cases hcc:c'=c
   .subst hcc;exact⟨_,hc'⟩
   .obtain⟨w2,z2⟩:=I.cell y c' e
    exact⟨w2,z2.sameBut hs hcc⟩
  .obtain⟨e,n,ne,nf,d⟩:=I.pin p hp
   refine⟨(hs.2 p.1 ?_).trans e,n,ne,nf,d⟩;intro q;rw[q,hoc]at e;have q':oc=p.2:=Option.some.inj e;exact d w' (by rw[<-q'];exact hocd)
theorem je{M:Model}{A:Around}{E:Value->Shared->Prop}{i:Nat}{x:Str}{v:V}{u:Value}{Q:Unit->Shared->Prop}(I:Inv X pins σ H s)(hN:X.N.Nodup)(hi:X.N[i]? = some x)(hx:sU X.env.scope x)(r:RelV v u)
  (h:∀s',Inv X pins (σ.set i (some v)) H s'->Q () s') (hf:X.fn x=true\/X.env.scope.names.lookup x=some .local:=by first|exact .inl rfl|exact .inr rfl|assumption):wpAny M A (storeName X.env x u) Q E s:=
 wK I hN hi hx r (λs' I' _=>h s' I') hf
theorem Inv.call'{s':Shared}{ch:List Addr}(I:Inv X pins σ H s)(ho:s'.os=s.os)(u:Un (g9 X.stack) ch H H' s.heap s'.heap)(hok:HOk X.prog X.w H' s'.heap)(hg:AllBare s'.gens)
  (hch:∀b∈ch,(b∈X.ex\/X.s₀.heap.objs.size<=b)/\b≠X.env.locals/\(∀x c,X.env.cells.lookup x=some c->c≠b)/\∀p∈X.pn++pins,p.1≠b):Inv X pins σ H' s':=by
 obtain⟨h',g',d',t',o'⟩:=s';have e:o'=s.os:=ho;subst e;exact I.call (g':=g') (t':=t') (d':=d') u hok hg hch
end
abbrev XK:=Value->Option Addr->Hp->Prop
abbrev St:=List (Option V)
abbrev VK:=V->Hp->Prop
abbrev TE:=St->Hp->VK->Prop
abbrev TT:=St->Hp->(Bool->Hp->Prop)->Prop
abbrev TA:=St->Hp->(List V->Hp->Prop)->Prop
structure Ends where
 nx:St->Hp->Prop
 rt:VK
 bk:St->Hp->Prop:=λ_ _=>False
 ct:St->Hp->Prop:=λ_ _=>False
abbrev TS:=Ends->St->Hp->Prop
def EP(X:Cx)(pins:List (Addr×Obj))(σ:St)(Q:VK)(u:Value)(s':Shared):Prop:=∃v H',Inv X pins σ H' s'/\RelV v u/\Q v H'
def TP(X:Cx)(pins:List (Addr×Obj))(σ:St)(Q:Bool->Hp->Prop)(b:Bool)(s':Shared):Prop:=∃H',Inv X pins σ H' s'/\Q b H'
def AP(X:Cx)(pins:List (Addr×Obj))(σ:St)(Q:List V->Hp->Prop)(us:List Value)(s':Shared):Prop:=∃vs H',Inv X pins σ H' s'/\Vals vs us/\Q vs H'
def SP(X:Cx)(pins:List (Addr×Obj))(D:Ends)(f:Flow)(s':Shared):Prop:=
 match f with
 |.next=>∃ σ' H',Inv X pins σ' H' s'/\D.nx σ' H'
 |.brk=>∃ σ' H',Inv X pins σ' H' s'/\D.bk σ' H'
 |.cont=>∃ σ' H',Inv X pins σ' H' s'/\D.ct σ' H'
 |.ret u=>∃v σ' H',Inv X pins σ' H' s'/\RelV v u/\D.rt v H'
def PE(X:Cx)(e:Expr)(t:TE):Prop:=
 ∀(pins:List (Addr×Obj)) (s:Shared) (σ:St) (H:Hp) (Q:VK),Inv X pins σ H s->t σ H Q->wpAny (model X.prog X.w) X.A (eval e X.env) (EP X pins σ Q) X.xe s
def PT(X:Cx)(e:Expr)(t:TT):Prop:=
 ∀(pins:List (Addr×Obj)) (s:Shared) (σ:St) (H:Hp) (Q:Bool->Hp->Prop),Inv X pins σ H s->t σ H Q->wpAny (model X.prog X.w) X.A (isTrue e X.env (eval e X.env)) (TP X pins σ Q) X.xe s
def PW(X:Cx)(e:Expr)(t:TT):Prop:=
 ∀(whole:Sem Value) (pins:List (Addr×Obj)) (s:Shared) (σ:St) (H:Hp) (Q:Bool->Hp->Prop),Inv X pins σ H s->t σ H Q->wpAny (model X.prog X.w) X.A (isTrue e X.env whole) (TP X pins σ Q) X.xe s
theorem PW.pt{X:Cx}{e:Expr}{t:TT}(h:PW X e t):PT X e t:=h _
def PA(X:Cx)(es:List Expr)(t:TA):Prop:=
 ∀(pos:Pos) (pins:List (Addr×Obj)) (s:Shared) (σ:St) (H:Hp) (Q:List V->Hp->Prop),Inv X pins σ H s->t σ H Q->wpAny (model X.prog X.w) X.A (spliced (backTo pos (starEach es X.env))) (AP X pins σ Q) X.xe s
def PS(X:Cx)(st:Stmt)(t:TS):Prop:=
 ∀(pins:List (Addr×Obj)) (s:Shared) (σ:St) (H:Hp) (D:Ends),Inv X pins σ H s->t D σ H->wpAny (model X.prog X.w) X.A (exec st X.env) (SP X pins D) X.xe s
def PSs(X:Cx)(st:List Stmt)(t:TS):Prop:=
 ∀(pins:List (Addr×Obj)) (s:Shared) (σ:St) (H:Hp) (D:Ends),Inv X pins σ H s->t D σ H->wpAny (model X.prog X.w) X.A (execs st X.env) (SP X pins D) X.xe s
theorem bB{α:Type}{t:Sem α}{Q Q':α -> Shared->Prop}{M:Model}{A:Around}{E:Value->Shared->Prop}{s:Shared}(h:wpAny M A t Q E s)(hQ:∀a s,Q a s->Q' a s):wpAny M A t Q' E s:=wpAny_mono h hQ λ_ _ x=>x
section
variable{X:Cx}
def JA(i:Nat):TE:=λσ H Q=>∃v,σ[i]? = some (some v)/\Q v H
def tC(v:V):TE:=λ_ H Q=>Q v H
theorem d8{i:Nat}{x:Str}{pos:Pos}(hN:X.N[i]? = some x)(hv:yk X.env.scope x)(hd:(x==("__debug__":Str))=false:=by decide)(hcd:(x==("__classdict__":Str))=false:=by decide):PE X (.Name x pos) (JA i):=by
 intro pins s σ H Q I h;obtain⟨v,e,h⟩:=h;obtain⟨m,hn,hl⟩:=I.loc;obtain⟨u,r,l⟩:=hl i x v hN e hv;have fin:EP X pins σ Q u s:=⟨v,H,I,r,h⟩;rcases l with⟨hk,hm⟩|⟨hk,c,hc,hcell⟩
 .exact wpAny_Name (wpAny_loadName_local I.ok.kind hk hn hm fin) hd
 .rcases hk with hk|hk
  .exact wpAny_Name (wpAny_loadName_cell I.ok.kind hk hc hcell fin) hd
  .exact wpAny_Name (wpAny_loadName_free I.ok.kind hk hc hcell fin hcd) hd
theorem E9{i j pos}:PE X (.Constant (.int i) j pos) (tC (.int i)):=λ_ _ _ H _ I h=>wpAny_Constant_int ⟨.int i,H,I.tok _,⟨_,rfl⟩,h⟩
theorem Hv{b j pos}:PE X (.Constant (.bool b) j pos) (tC (.bl b)):=λ_ _ _ H _ I h=>Constant_bool ⟨.bl b,H,I,rfl,h⟩
theorem E8{j pos}:PE X (.Constant .none j pos) (tC .non):=λ_ _ _ H _ I h=>Constant_none ⟨.non,H,I,rfl,h⟩
theorem E3{x j pos}:PE X (.Constant (.str x) j pos) (tC (.str x)):=λ_ _ _ H _ I h=>Calls.Constant_str ⟨.str x,H,I.tok _,⟨_,rfl⟩,h⟩
def Gl(X:Cx)(x:Str):Prop:=X.env.kindOf x=some .globalImplicit
theorem ju{E:Value->Shared->Prop}{pins:List (Addr×Obj)}{s:Shared}{σ:St}{H:Hp}{x:Str}{u:Value}{pos:Pos}{Q:Value->Shared->Prop}(I:Inv X pins σ H s)(hg:Gl X x)(hm:X.mg x=some u)(h:Q u s)
  (hd:(x==("__debug__":Str))=false:=by decide):wpAny (model X.prog X.w) X.A (eval (.Name x pos) X.env) Q E s:=
 Calls.Name_function_global I.ok.kind hg (Calls.loadGlobal_global (by rw[I.ok.glob];exact I.mod.glob.keeps I.bk) hm h) hd
theorem d9{E:Value->Shared->Prop}{pins:List (Addr×Obj)}{s:Shared}{σ:St}{H:Hp}{x:Str}{u:Value}{pos:Pos}{Q:Value->Shared->Prop}(I:Inv X pins σ H s)(hg:Gl X x)(hm:X.mg x=none)(hv:bootBuiltins x=some u)(h:Q u s)
  (hn:x≠"__name__":=by decide) (hd:(x==("__debug__":Str))=false:=by decide):wpAny (model X.prog X.w) X.A (eval (.Name x pos) X.env) Q E s:=by
 obtain⟨mb,h1,h2⟩:=I.mod.blt;exact Calls.Name_function_global I.ok.kind hg (Calls.loadGlobal_builtin (by rw[I.ok.glob];exact I.mod.glob.keeps I.bk) hm (by rw[I.ok.blt];exact h1.keeps I.bk) ((h2 x hn).trans hv) h) hd
theorem Ck{x:Str}{v:V}{u:Value}{pos:Pos}(hg:Gl X x)(hm:X.mg x=some u)(r:RelV v u)(hd:(x==("__debug__":Str))=false:=by decide):PE X (.Name x pos) (tC v):=
 λ_ _ _ H _ I h=>ju I hg hm ⟨v,H,I,r,h⟩ hd
theorem vg{x:Str}{v:V}{u:Value}{pos:Pos}(hg:Gl X x)(hm:X.mg x=none)(hv:bootBuiltins x=some u)(r:RelV v u)(hn:x≠"__name__":=by decide)(hd:(x==("__debug__":Str))=false:=by decide):PE X (.Name x pos) (tC v):=
 λ_ _ _ H _ I h=>d9 I hg hm hv ⟨v,H,I,r,h⟩ hn hd
variable{a b:Expr}{ta tb:TE}{pos:Pos}
def tB(t:TE):TT:=λσ H Q=>t σ H λx H1=>∃c,x=.bl c/\Q c H1
theorem ER{e:Expr}{t:TE}(h:PE X e t)(he:∀whole,isTrue e X.env whole=(do let v <-whole;standAt e.pos;holding [v] (truthy v)):=by intro _;rfl):PT X e (tB t):=by
 intro pins s σ H Q I hw;refine isTrue_plain (bB (h pins s σ H _ I hw) λv s1 ⟨x,H1,I1,r1,q1⟩=>?_) (he _)
 obtain⟨d,rfl,q⟩:=q1;cases r1;exact wpAny_truthy_bool ⟨H1,I1,q⟩
variable{tA tB':TT}{rest:List Expr}
def JM(t u:TT):TT:=λσ H Q=>t σ H λc H1=>if c=true then u σ H1 Q else Q false H1
def Lo(t u:TT):TT:=λσ H Q=>t σ H λc H1=>if c=true then Q true H1 else u σ H1 Q
def JF(t:TT):TT:=λσ H Q=>t σ H λc H1=>Q (!c) H1
theorem Cb(ha:PT X a tA):PW X (.BoolOp .And [a] pos) tA:=by
 intro wh pins s σ H Q I h;refine isTrue_and (bB (ha pins s σ H Q I h) λc s1 e=>?_)
 cases c with
 |true=>exact isTrue_and_nil e
 |false=>exact e
theorem EN(ha:PT X a tA):PW X (.BoolOp .Or [a] pos) tA:=by
 intro wh pins s σ H Q I h;refine isTrue_or (bB (ha pins s σ H Q I h) λc s1 e=>?_)
 cases c with
 |false=>exact isTrue_or_nil e
 |true=>exact e
theorem EO(ha:PT X a tA)(hb:PW X (.BoolOp .And (b::rest) pos) tB'):PW X (.BoolOp .And (a::b::rest) pos) (JM tA tB'):=by
 intro wh pins s σ H Q I h;refine isTrue_and (bB (ha pins s σ H _ I h) λc s1 ⟨H1,I1,q1⟩=>?_)
 cases c with
 |true=>exact hb wh pins s1 σ H1 Q I1 q1
 |false=>exact⟨H1,I1,q1⟩
theorem Hn(ha:PT X a tA)(hb:PW X (.BoolOp .Or (b::rest) pos) tB'):PW X (.BoolOp .Or (a::b::rest) pos) (Lo tA tB'):=by
 intro wh pins s σ H Q I h;refine isTrue_or (bB (ha pins s σ H _ I h) λc s1 ⟨H1,I1,q1⟩=>?_)
 cases c with
 |true=>exact⟨H1,I1,q1⟩
 |false=>exact hb wh pins s1 σ H1 Q I1 q1
theorem ES(ha:PT X a tA):PT X (.UnaryOp .Not a pos) (JF tA):=by
 intro pins s σ H Q I h;exact isTrue_not (ha pins s σ H (λc H1=>Q (!c) H1) I h)
def G7(ta tb:TE):TE:=λσ H Q=>ta σ H λx H1=>∃c,x=.bl c/\if c=true then tb σ H1 Q else Q (.bl false) H1
def G1(ta:TE):TE:=λσ H Q=>ta σ H λx H1=>∃c,x=.bl c/\Q (.bl (!c)) H1
theorem E4{op}{t:TE}(h:PE X a t):PE X (.BoolOp op [a] pos) t:=λpins s σ H Q I hw=>BoolOp_one (h pins s σ H Q I hw)
theorem Fb(ha:PE X a ta)(hb:PE X (.BoolOp .And (b::rest) pos) tb):PE X (.BoolOp .And (a::b::rest) pos) (G7 ta tb):=by
 intro pins s σ H Q I h;refine BoolOp_and (bB (ha pins s σ H _ I h) λv s1 ⟨x,H1,I1,r1,q1⟩=>?_)
 obtain⟨c,rfl,q1⟩:=q1;cases r1;refine wpAny_truthy_bool ?_;cases c with
 |true=>exact hb pins s1 σ H1 Q I1 q1
 |false=>exact⟨.bl false,H1,I1,rfl,q1⟩
theorem E5(ha:PE X a ta):PE X (.UnaryOp .Not a pos) (G1 ta):=by
 intro pins s σ H Q I h;refine UnaryOp_ (bB (ha pins s σ H _ I h) λv s1 ⟨x,H1,I1,r1,q1⟩=>?_)
 obtain⟨c,rfl,q1⟩:=q1;cases r1;exact not_of (wpAny_truthy_bool ⟨.bl (!c),H1,I1,rfl,q1⟩)
def Lp(t:TT)(ta tb:TE):TE:=λσ H Q=>t σ H λc H1=>if c=true then ta σ H1 Q else tb σ H1 Q
theorem zv{c:Expr}(hc:PT X c tA)(ha:PE X a ta)(hb:PE X b tb):PE X (.IfExp c a b pos) (Lp tA ta tb):=by
 intro pins s σ H Q I h;refine wpAny_IfExp (bB (hc pins s σ H _ I h) λd s1 ⟨H1,I1,q1⟩=>?_)
 cases d with
 |true=>exact ha pins s1 σ H1 Q I1 q1
 |false=>exact hb pins s1 σ H1 Q I1 q1
end
def SqL(K:PySem.W.Frag)(H:Hp)(a:Addr)(xs:List V):Prop:=
 Rd H a (.lst xs)\/
  ∃(o:Obj) (its:Array Value) (n:Nat),K.lookup a=some o/\o.cls=.type "list"/\ o.dict=none/\o.data=.seq its n/\its.size<=sizeLine/\Vals xs its.toList
def SqT(K:PySem.W.Frag)(H:Hp)(a:Addr)(xs:List V):Prop:=
 Rd H a (.tup xs)\/
  ∃(o:Obj) (its:Array Value) (n:Nat),K.lookup a=some o/\o.cls=.type "tuple"/\ o.data=.seq its n/\its.size<=sizeLine/\Vals xs its.toList/\o.dict=none
def KG:Value->Option V
 |.none=>some .non
 |.bool b=>some (.bl b)
 |.int i _=>some (.int i)
 |.str x _=>some (.str x)
 |.bytes b _=>some (.byt b)
 |.float b _=>some (.flt b)
 |.ref a=>some (.ref a)
 |.type n=>some (.ty n)
 |_=>none
theorem RelV.abs{x:V}{u:Value}(r:RelV x u):KG u=some x:=by
 cases x with
 |non=>cases r;rfl
 |bl _=>cases r;rfl
 |int _=>obtain⟨t,rfl⟩:=r;rfl
 |str _=>obtain⟨t,rfl⟩:=r;rfl
 |byt _=>obtain⟨t,rfl⟩:=r;rfl
 |flt _=>obtain⟨t,rfl⟩:=r;rfl
 |ref _=>cases r;rfl
 |ty _=>cases r;rfl
theorem RelV.inj{x y:V}{u:Value}(r:RelV x u)(q:RelV y u):x=y:=Option.some.inj (r.abs.symm.trans q.abs)
theorem Vals.inj:∀{xs ys:List V} {us:List Value},Vals xs us->Vals ys us->xs=ys
 |_,_,_,.nil,.nil=>rfl
 |_,_,_,.cons r t,.cons r' t'=>by rw[r.inj r',Vals.inj t t']
section
variable{X:Cx}{pins:List (Addr×Obj)}{σ:St}{H:Hp}{s:Shared}{a:Addr}{xs ys:List V}
theorem SqL.of{K:PySem.W.Frag}(h:H a=some (.lst xs)):SqL K H a xs:=.inl (.inl h)
theorem SqT.of{K:PySem.W.Frag}(h:H a=some (.tup xs)):SqT K H a xs:=.inl (.inl h)
theorem Inv.list(I:Inv X pins σ H s)(h:SqL X.K H a xs):∃its:List Value,Vals xs its/\PlainL s.heap a its.toArray/\xs.length<=sizeLine:=by
 rcases h with h|⟨o,its,n,hk,hc,hd,hs,hz,r⟩
 .obtain⟨z,its,n,r,e⟩:=h.ok I.hok
  exact⟨its,r,⟨_,n,e,rfl,rfl,rfl⟩,z⟩
 .refine⟨its.toList,r,⟨o,n,I.kIn a o hk,hc,hd,by simpa using hs⟩,?_⟩
  have e:=r.length;simp only[Array.length_toList]at e
  lia
theorem Inv.tuple(I:Inv X pins σ H s)(h:SqT X.K H a xs):∃its:List Value,Vals xs its/\IsTup s.heap a its.toArray/\xs.length<=sizeLine:=by
 rcases h with h|⟨o,its,n,hk,hc,hs,hz,r,hd⟩
 .obtain⟨z,its,r,p⟩:=h.ok I.hok
  exact⟨its,r,p.1,z⟩
 .refine⟨its.toList,r,⟨o,I.kIn a o hk,hc,n,by simpa using hs⟩,?_⟩
  have e:=r.length;simp only[Array.length_toList]at e
  lia
theorem Inv.noDi(I:Inv X pins σ H s)(h:SqT X.K H a xs):NoDi s.heap a:=by
 rcases h with h|⟨o,its,n,hk,hc,hs,hz,r,hd⟩
 .obtain⟨z,its,r,p⟩:=h.ok I.hok
  exact p.2
 .exact⟨o,I.kIn a o hk,hd⟩
theorem Inv.list_inj(I:Inv X pins σ H s)(h:SqL X.K H a xs)(h':SqL X.K H a ys):xs=ys:=by
 obtain⟨its,r,⟨o,n,e,_,_,d⟩,_⟩:=I.list h;obtain⟨its',r',⟨o',n',e',_,_,d'⟩,_⟩:=I.list h';rw[e]at e';cases e';rw[d]at d';injection d' with d1 _
 have:its=its':=by simpa using congrArg Array.toList d1
 subst this;exact r.inj r'
theorem Inv.tuple_inj(I:Inv X pins σ H s)(h:SqT X.K H a xs)(h':SqT X.K H a ys):xs=ys:=by
 obtain⟨its,r,⟨o,e,_,n,d⟩,_⟩:=I.tuple h;obtain⟨its',r',⟨o',e',_,n',d'⟩,_⟩:=I.tuple h';rw[e]at e';cases e';rw[d]at d';injection d' with d1 _
 have:its=its':=by simpa using congrArg Array.toList d1
 subst this;exact r.inj r'
end
abbrev Cx.wish(X:Cx)(E:Value->Shared->Prop):Cx:={X with xe:=E}
abbrev Cx.nox(X:Cx):Cx:=X.wish λ_ _=>False
theorem Cx.Ok.wish{X:Cx}(ok:X.Ok)(E:Value->Shared->Prop):(X.wish E).Ok:=
 ⟨ok.mod,ok.kind,ok.glob,ok.blt,ok.above,ok.inj,ok.has,ok.cab,ok.hd,ok.frames,ok.stk,ok.exf,ok.bs,ok.bsz,ok.noex,ok.exfs,ok.funs,ok.frf,ok.tb⟩
theorem Cx.Ok.unwish{X:Cx}{E:Value->Shared->Prop}(ok:(X.wish E).Ok):X.Ok:=
 ⟨ok.mod,ok.kind,ok.glob,ok.blt,ok.above,ok.inj,ok.has,ok.cab,ok.hd,ok.frames,ok.stk,ok.exf,ok.bs,ok.bsz,ok.noex,ok.exfs,ok.funs,ok.frf,ok.tb⟩
section
variable{X:Cx}{pins:List (Addr×Obj)}{σ:St}{H:Hp}{s:Shared}{E:Value->Shared->Prop}
theorem Inv.wish(I:Inv X pins σ H s)(E:Value->Shared->Prop):Inv (X.wish E) pins σ H s:=⟨I.ok.wish E,I.os,I.bare,I.base,I.loc,I.cell,I.free,I.freeC,I.pin,I.hok,I.len⟩
theorem Inv.unwish(I:Inv (X.wish E) pins σ H s):Inv X pins σ H s:=⟨I.ok.unwish,I.os,I.bare,I.base,I.loc,I.cell,I.free,I.freeC,I.pin,I.hok,I.len⟩
theorem SP.unwish{D:Ends}{f:Flow}{s':Shared}(h:SP (X.wish E) pins D f s'):SP X pins D f s':=by
 cases f with
 |next=>obtain⟨σ',H',I,q⟩:=h;exact⟨σ',H',I.unwish,q⟩
 |brk=>obtain⟨σ',H',I,q⟩:=h;exact⟨σ',H',I.unwish,q⟩
 |cont=>obtain⟨σ',H',I,q⟩:=h;exact⟨σ',H',I.unwish,q⟩
 |ret u=>obtain⟨v,σ',H',I,r,q⟩:=h;exact⟨v,σ',H',I.unwish,r,q⟩
theorem PE.nox{e:Expr}{t:TE}(h:PE X.nox e t):PE X e t:=λpins s σ H Q I hw=>
 wpAny_mono (h pins s σ H Q (I.wish _) hw) (λ_ _ ⟨v,H',I',r,q⟩=>⟨v,H',I'.unwish,r,q⟩) λ_ _ z=>False.elim z
theorem PT.nox{e:Expr}{t:TT}(h:PT X.nox e t):PT X e t:=λpins s σ H Q I hw=>
 wpAny_mono (h pins s σ H Q (I.wish _) hw) (λ_ _ ⟨H',I',q⟩=>⟨H',I'.unwish,q⟩) λ_ _ z=>False.elim z
theorem PSs.nox{st:List Stmt}{t:TS}(h:PSs X.nox st t):PSs X st t:=λpins s σ H D I hw=>
 wpAny_mono (h pins s σ H D (I.wish _) hw) (λ_ _ q=>q.unwish) λ_ _ z=>False.elim z
end
section
variable{X:Cx}{st:Stmt}{rest:List Stmt}{t u:TS}{e:Expr}{te:TE}{pos:Pos}
def G2:TS:=λD σ H=>D.nx σ H
def JD(t u:TS):TS:=λD σ H=>t {D with nx:=u D} σ H
theorem u8:PSs X [] G2:=λ_ _ σ H _ I h=>wpAny_execs_nil ⟨σ,H,I,h⟩
theorem lH(h1:PS X st t)(h2:PSs X rest u):PSs X (st::rest) (JD t u):=by
 intro pins s σ H D I h;refine wpAny_execs_cons (bB (h1 pins s σ H {D with nx:=u D} I h) λf s1 q=>?_)
 cases f with
 |next=>
  obtain⟨σ',H',I',q⟩:=q;exact h2 pins s1 σ' H' D I' q
 |ret v=>exact q
 |brk=>exact q
 |cont=>exact q
theorem u7(h1:PS X st t):PSs X [st] t:=by
 intro pins s σ H D I h;refine wpAny_execs_cons (bB (h1 pins s σ H D I h) λf s1 q=>?_)
 cases f with
 |next=>exact wpAny_execs_nil q
 |ret v=>exact q
 |brk=>exact q
 |cont=>exact q
theorem Inv.quiet{pins:List (Addr×Obj)}{σ:St}{H:Hp}{s:Shared}(I:Inv X pins σ H s):interactive X.env=false:=by simp[interactive,I.ok.kind]
def G3(te:TE):TS:=λD σ H=>te σ H λ_ H1=>D.nx σ H1
theorem la(he:PE X e te)(hs:swapsWith e none pos.line X.env=pure false:=by rfl):PS X (.Expr e pos) (G3 te):=by
 intro pins s σ H D I h;exact wpAny_Expr_any (bB (he pins s σ H _ I h) λv s1 ⟨x,H1,I1,r1,q1⟩=>⟨σ,H1,I1,q1⟩) I.quiet hs
def JE(te:TE):TS:=λD σ H=>te σ H D.rt
theorem zg(he:PE X e te):PS X (.Return (some e) pos) (JE te):=by
 intro pins s σ H D I h;exact wpAny_Return_some (bB (he pins s σ H _ I h) λv s1 ⟨x,H1,I1,r1,q1⟩=>⟨x,σ,H1,I1,r1,q1⟩)
def JI(c:TT)(t u:TS):TS:=λD σ H=>c σ H λb H1=>if b=true then t D σ H1 else u D σ H1
theorem zi{c:Expr}{a b:List Stmt}{tc:TT}(hc:PT X c tc)(ha:PSs X a t)(hb:PSs X b u):PS X (.If c a b pos) (JI tc t u):=by
 intro pins s σ H D I h;refine wpAny_If (bB (hc pins s σ H _ I h) λd s1 ⟨H1,I1,q1⟩=>?_)
 cases d with
 |true=>exact ha pins s1 σ H1 D I1 q1
 |false=>exact hb pins s1 σ H1 D I1 q1
end
abbrev TG:=V->St->Hp->(St->Hp->Prop)->Prop
abbrev Dm:=List V->St->Hp->(St->Hp->Prop)->Prop
def PG(X:Cx)(target:Expr)(t:TG):Prop:=
 ∀(pins:List (Addr×Obj)) (s:Shared) (σ:St) (H:Hp) (v:V) (u:Value) (Q:St->Hp->Prop),Inv X pins σ H s->RelV v u->t v σ H Q ->
  wpAny (model X.prog X.w) X.A (assign target X.env u) (λ_ s'=>∃ σ' H',Inv X pins σ' H' s'/\Q σ' H') X.xe s
def PGs(X:Cx)(ts:List Expr)(t:Dm):Prop:=
 ∀(pins:List (Addr×Obj)) (s:Shared) (σ:St) (H:Hp) (vs:List V) (us:List Value) (Q:St->Hp->Prop),Inv X pins σ H s->Vals vs us->t vs σ H Q ->
  wpAny (model X.prog X.w) X.A (assignInOrder ((assignEach ts X.env).map (·.2)) us) (λ_ s'=>∃ σ' H',Inv X pins σ' H' s'/\Q σ' H') X.xe s
section
variable{X:Cx}{pos:Pos}
def AD(i:Nat):TG:=λv σ H Q=>Q (σ.set i (some v)) H
theorem aW{i:Nat}{x:Str}(hN:X.N.Nodup)(hi:X.N[i]? = some x)(hx:sU X.env.scope x)(hf:X.fn x=true\/X.env.scope.names.lookup x=some .local:=by first|exact .inl rfl|exact .inr rfl|assumption):PG X (.Name x pos) (AD i):=by
 intro pins s σ H v u Q I r h;exact wpAny_assign_Name (je I hN hi hx r (λs' I'=>⟨_,H,I',h⟩) hf)
def Kr:Dm:=λvs σ H Q=>vs=[]/\Q σ H
def Im(t:TG)(u:Dm):Dm:=λvs σ H Q=>∃v r,vs=v::r/\t v σ H λσ' H'=>u r σ' H' Q
theorem Ci:PGs X [] Kr:=by
 intro pins s σ H vs us Q I r h;obtain⟨e,h⟩:=h;subst e;cases r;exact assignInOrder_nil ⟨σ,H,I,h⟩
theorem zq{e:Expr}{es:List Expr}{t:TG}{u:Dm}(h1:PG X e t)(h2:PGs X es u)
  (hs:(assignEach (e::es) X.env).map (·.2)=assign e X.env::(assignEach es X.env).map (·.2):=by rfl):PGs X (e::es) (Im t u):=by
 intro pins s σ H vs us Q I r h;obtain⟨v,vr,e1,h⟩:=h;subst e1;cases r with
 |cons r rr=>
  rw[hs];refine assignInOrder_cons (bB (h1 pins s σ H _ _ _ I r h) λ_ s1 ⟨σ1,H1,I1,q1⟩=>?_)
  exact h2 pins s1 σ1 H1 _ _ Q I1 rr q1
def Kp(K:PySem.W.Frag)(n:Nat)(t:Dm):TG:=λv σ H Q=>∃a xs,v=.ref a/\SqT K H a xs/\xs.length=n/\t xs σ H Q
theorem E1{es:List Expr}{k:Nat}{t:Dm}{n:Nat}(hc:X.calm=true)(h:PGs X es t)
  (hn:(assignEach es X.env).length=n:=by rfl) (hst:(assignEach es X.env).findIdx? (·.1)=none:=by rfl):PG X (.Tuple es k pos) (Kp X.K n t):=by
 intro pins s σ H v u Q I r hw;obtain⟨a,xs,e1,hq,hl,hw⟩:=hw;subst e1;cases r;obtain⟨its,rv,ht,hz⟩:=I.tuple hq;refine assign_Tuple_tuple (I.ok.hd hc) ht (by simp[hn,<-hl,rv.length]) hst λh' hx=>?_
 have I1:Inv X pins σ H {s with heap:=h'}:=I.kept (t':=s.toks) λb o e=>hx b o (ne_of_lt (lt_size e)) e
 exact h pins _ σ H xs _ Q I1 (by simpa using rv) hw
def JL(te:TE)(g:TG):TS:=λD σ H=>te σ H λx H1=>g x σ H1 D.nx
theorem jT{i:Nat}{x:Str}{e:Expr}{te:TE}{pos':Pos}(hN:X.N.Nodup)(hi:X.N[i]? = some x)(hx:sU X.env.scope x)(he:PE X e te)(hs:swapsWith e (some (.Name x pos')) pos.line X.env=pure false:=by rfl)(hf:X.fn x=true\/X.env.scope.names.lookup x=some .local:=by first|exact .inl rfl|exact .inr rfl|assumption):
  PS X (.Assign [.Name x pos'] e pos) (JL te (AD i)):=by
 intro pins s σ H D I h;refine wpAny_Assign_Name (bB (he pins s σ H _ I h) λv s1 ⟨y,H1,I1,r1,q1⟩=>?_) hs
 exact je I1 hN hi hx r1 (λs2 I2=>⟨_,H1,I2,q1⟩) hf
end
section
variable{X:Cx}{pos:Pos}
def Es(c:TT)(tb:TS):TS:=λD σ H=>∃W:Nat->St->Hp->Prop,(∃m,W m σ H)/\∀m σ H,W m σ H ->
 c σ H λb H1=>if b=true then ∃N:St->Hp->Prop,(∀ σ' H',N σ' H'->∃m',m'<m/\W m' σ' H')/\tb {D with nx:=N,ct:=N,bk:=D.nx} σ H1 else D.nx σ H1
theorem zf{c:Expr}{body:List Stmt}{tc:TT}{tb:TS}(hp:PassesOwn (model X.prog X.w) X.A X.env X.xe)(hc:PT X c tc)(hb:PSs X body tb):PS X (.While c body [] pos) (Es tc tb):=by
 intro pins s σ H D I h;obtain⟨W,⟨m0,w0⟩,turn⟩:=h;refine wpAny_While (codeAny_whileLoop (λn s'=>∃ σ' H',Inv X pins σ' H' s'/\W n σ' H') ?_ m0 ⟨σ,H,I,w0⟩);rintro n s1 ⟨σ1,H1,I1,w1⟩;refine wpAny_passesOwn hp (bB (hc pins s1 σ1 H1 _ I1 (turn n σ1 H1 w1)) λb s2 ⟨H2,I2,q2⟩=>?_)
 cases b with
 |true=>
  obtain⟨N,hN,q2⟩:=q2;rw[if_pos rfl];refine wpAny_passesOwn hp (bB (hb pins s2 σ1 H2 _ I2 q2) λf s3 q3=>?_)
  cases f with
  |next=>
   obtain⟨σ3,H3,I3,n3⟩:=q3;obtain⟨m',hm,w3⟩:=hN σ3 H3 n3;exact⟨m',hm,σ3,H3,I3,w3⟩
  |cont=>
   obtain⟨σ3,H3,I3,n3⟩:=q3;obtain⟨m',hm,w3⟩:=hN σ3 H3 n3;exact⟨m',hm,σ3,H3,I3,w3⟩
  |brk=>exact q3
  |ret v=>exact q3
 |false=>
  rw[if_neg Bool.false_ne_true];exact wpAny_execs_nil ⟨σ1,H2,I2,q2⟩
end
structure It where
 go:Nat->Hp->Prop
 yld:Nat->Hp->V->Hp->Prop
 stop:Nat->Hp->Prop
def i9(X:Cx)(pins:List (Addr×Obj))(H:Hp)(b:Addr):Prop:=
 H b=none/\b≠X.env.locals/\b∉X.fs/\(b∈X.ex\/X.s₀.heap.objs.size<=b)/\(∀x c,X.env.cells.lookup x=some c->c≠b)/\∀p∈X.pn++pins,p.1≠b
theorem Inv.fpOk{X:Cx}{pins:List (Addr×Obj)}{σ:St}{H H':Hp}{s:Shared}{b:Addr}(I:Inv X pins σ H s)(hb:s.heap.objs.size<=b)(hn:H' b=none):i9 X pins H' b:=by
 refine⟨hn,Nat.ne_of_gt (lt_of_lt_of_le I.lt hb),I.nofs hb,.inr (le_trans I.sz hb),λx c e z=>?_,λp hp z=>?_⟩
 .obtain⟨v,q⟩:=I.cell x c e
  exact absurd (lt_of_lt_of_le q.lt (by rw[z];exact hb)) (lt_irrefl _)
 .exact absurd (lt_of_lt_of_le (lt_size (I.pin p hp).1) (by rw[z];exact hb)) (lt_irrefl _)
structure TurnG (Cm:Cx->Prop) (P:Program) (w:World) (K:PySem.W.Frag) (tg:Expr) (J:It) (fp:List Addr) (it:Addr) (tn:Nat->Heap->Prop):Prop where
 mem:it∈fp
 obj:∀i h,tn i h->∀b∈fp,∃o,h.get? b=some o/\∀v,o.data≠.cell v
 keep:∀i h h',tn i h->(∀b∈fp,∀o,h.get? b=some o->h'.get? b=some o)->tn i h'
 item:∀(X:Cx),X.prog=P->X.w=w->X.K=K->Cm X->∀(i:Nat) (pins:List (Addr×Obj)) (s:Shared) (σ:St) (H:Hp) (E:Value->Shared->Prop),Inv X pins σ H s->(∀b∈fp,i9 X pins H b)->tn i s.heap->J.go i H ->
  wpAny (model P w) X.A (pyNext (.ref it)) (λr s1=>∃u,r=some u/\
   wpAny (model P w) X.A (letOwnedTupleGo tg (.ref it) u) (λ_ s2=>∃x H',Inv X pins σ H' s2/\RelV x u/\J.yld i H x H'/\tn (i+1) s2.heap/\∀b∈fp,H' b=none) E s1) E s
 done:∀(X:Cx),X.prog=P->X.w=w->X.K=K->Cm X->∀(i:Nat) (pins:List (Addr×Obj)) (s:Shared) (σ:St) (H:Hp) (E:Value->Shared->Prop),Inv X pins σ H s->(∀b∈fp,i9 X pins H b)->tn i s.heap->J.stop i H ->
  wpAny (model P w) X.A (pyNext (.ref it)) (λr s1=>r=none/\Inv X pins σ H s1) E s
 self:∀(A:Around) (i:Nat) (s:Shared) (Q:Value->Shared->Prop) (E:Value->Shared->Prop),tn i s.heap->Q (.ref it) s->wpAny (model P w) A (pyIter (.ref it)) Q E s
abbrev yb(P:Program)(w:World)(K:PySem.W.Frag)(tg:Expr)(J:It)(fp:List Addr)(it:Addr)(tn:Nat->Heap->Prop):Prop:=TurnG (λX=>X.calm=true) P w K tg J fp it tn
abbrev TI:=St->Hp->(It->Hp->Prop)->Prop
def KI(X:Cx)(pins:List (Addr×Obj))(σ:St)(tg:Expr)(R:It->Hp->Prop)(itv:Value)(s2:Shared):Prop:=
 ∃(it:Addr) (fp:List Addr) (tn:Nat->Heap->Prop) (J:It) (H':Hp),itv=.ref it/\Inv X pins σ H' s2/\yb X.prog X.w X.K tg J fp it tn/\tn 0 s2.heap/\(∀b∈fp,i9 X pins H' b)/\R J H'
def PI(X:Cx)(tg iter:Expr)(wi:TI):Prop:=
 ∀(pins:List (Addr×Obj)) (s:Shared) (σ:St) (H:Hp) (R:It->Hp->Prop),Inv X pins σ H s->wi σ H R ->
  wpAny (model X.prog X.w) X.A (eval iter X.env) (λv s1=>wpAny (model X.prog X.w) X.A (pyIter v) (KI X pins σ tg R) X.xe s1) X.xe s
theorem vN{M:Model}{A:Around}{E:Value->Shared->Prop}{s:Shared}{tg:Expr}{it:Addr}{u:Value}{o:Obj}{n:String}{vs:Array Value}{Q:Unit->Shared->Prop}(ho:s.heap.get? it=some o)(hc:o.cls=.type n)(hd:o.data=.fields vs)
  (hn:["enumerate","zip","dict_itemiterator","dict_reverseitemiterator","odict_iterator","itertools.zip_longest","itertools.pairwise"].contains n=false) (hQ:Q () s):wpAny M A (letOwnedTupleGo tg (.ref it) u) Q E s:=by
 unfold letOwnedTupleGo;cases tg<;>first
  |exact wpAny_pure hQ
  | (cases u<;>first
    |exact wpAny_pure hQ
    | (refine wpAny_bind (wpAny_load ho ?_)
       rw[hc,hd];show wpAny M A (if(["enumerate","zip","dict_itemiterator","dict_reverseitemiterator","odict_iterator","itertools.zip_longest","itertools.pairwise"].contains n&&vs[0]? == some (rawInt _))=true then _ else _) Q E s;rw[if_neg (by intro h;rw[hn,Bool.false_and]at h;cases h)];exact wpAny_pure hQ))
def Le(K:PySem.W.Frag)(a:Addr):It:=
 ⟨λi H=>∃xs x,SqL K H a xs/\xs[i]? = some x,λi H x H'=>H'=H/\∀xs,SqL K H a xs->xs[i]? = some x,λi H=>∃xs,SqL K H a xs/\xs.length<=i⟩
def Ld(K:PySem.W.Frag)(a:Addr):It:=
 ⟨λi H=>∃xs x,SqT K H a xs/\xs[i]? = some x,λi H x H'=>H'=H/\∀xs,SqT K H a xs->xs[i]? = some x,λi H=>∃xs,SqT K H a xs/\xs.length<=i⟩
def GM(lo:Int)(n:Nat):It:=⟨λi _=>i<n,λi H x H'=>H'=H/\x=.int (lo+i),λi _=>n<=i⟩
theorem wJ{P:Program}{w:World}{K:PySem.W.Frag}{tg:Expr}(a it:Addr):yb P w K tg (Le K a) [it] it (λi h=>h.IsListIter it a i) where
 mem:=by simp
 obj:=λi h st b hb=>by
  have e:b=it:=by simpa using hb
  subst e;obtain⟨o,e,c,d⟩:=st;exact⟨o,e,λv z=>by rw[d]at z;cases z⟩
 keep:=λi h h' st k=>st.at λo e=>k it (by simp) o e
 item:=by
  intro X hP hw hK hc i pins s σ H E I hf st hg;subst hP hw hK;obtain⟨xs,x,hq,hx⟩:=hg;obtain⟨its,rv,p,hz⟩:=I.list hq;obtain⟨u,hu,ru⟩:=rv.get hx;obtain⟨f0,f1,f2,f3,f4,f5⟩:=hf it (by simp);refine wpAny_pyNext_list_item st p.isList (x:=u) (by simpa using hu) λh' st' sb=>?_
  have I1:Inv X pins σ H {s with heap:=h'}:=I.turned (t':=s.toks) (λb o hb e=>(sb.2 b hb).trans e) f0 f1 f3 f4 f5
  obtain⟨o,e,c,d⟩:=id st';exact⟨u,rfl,vN (s:={s with heap:=h'}) e c d (by decide) ⟨x,H,I1,ru,⟨rfl,λys hy=>by rw[I.list_inj hy hq];exact hx⟩,st',λb hb=>(hf b hb).1⟩⟩
 done:=by
  intro X hP hw hK hc i pins s σ H E I hf st hg;subst hP hw hK;obtain⟨xs,hq,hx⟩:=hg;obtain⟨its,rv,p,hz⟩:=I.list hq;obtain⟨f0,f1,f2,f3,f4,f5⟩:=hf it (by simp);have hl:=rv.length;exact wpAny_pyNext_list_end (I.ok.hd hc) st p.isList (by simp;lia) λh' eb=>⟨rfl,I.turned (t':=s.toks) (λb o hb e=>eb b o hb e) f0 f1 f3 f4 f5⟩
 self:=λ_ _ _ _ _ st h=>wpAny_pyIter_listiter st h
theorem s0{P:Program}{w:World}{K:PySem.W.Frag}{tg:Expr}(a it:Addr):yb P w K tg (Ld K a) [it] it (λi h=>h.IsTupleIter it a i) where
 mem:=by simp
 obj:=λi h st b hb=>by
  have e:b=it:=by simpa using hb
  subst e;obtain⟨o,e,c,d⟩:=st;exact⟨o,e,λv z=>by rw[d]at z;cases z⟩
 keep:=λi h h' st k=>st.at λo e=>k it (by simp) o e
 item:=by
  intro X hP hw hK hc i pins s σ H E I hf st hg;subst hP hw hK;obtain⟨xs,x,hq,hx⟩:=hg;obtain⟨its,rv,p,hz⟩:=I.tuple hq;obtain⟨u,hu,ru⟩:=rv.get hx;obtain⟨f0,f1,f2,f3,f4,f5⟩:=hf it (by simp);refine wpAny_pyNext_tuple_item st (show s.heap.IsTuple a its.toArray from p) (x:=u) (by simpa using hu) λh' st' sb=>?_
  have I1:Inv X pins σ H {s with heap:=h'}:=I.turned (t':=s.toks) (λb o hb e=>(sb.2 b hb).trans e) f0 f1 f3 f4 f5
  obtain⟨o,e,c,d⟩:=id st';exact⟨u,rfl,vN (s:={s with heap:=h'}) e c d (by decide) ⟨x,H,I1,ru,⟨rfl,λys hy=>by rw[I.tuple_inj hy hq];exact hx⟩,st',λb hb=>(hf b hb).1⟩⟩
 done:=by
  intro X hP hw hK hc i pins s σ H E I hf st hg;subst hP hw hK;obtain⟨xs,hq,hx⟩:=hg;obtain⟨its,rv,p,hz⟩:=I.tuple hq;obtain⟨f0,f1,f2,f3,f4,f5⟩:=hf it (by simp);have hl:=rv.length;exact wpAny_pyNext_tuple_end (I.ok.hd hc) st (show s.heap.IsTuple a its.toArray from p) (by simp;lia) λh' eb=>⟨rfl,I.turned (t':=s.toks) (λb o hb e=>eb b o hb e) f0 f1 f3 f4 f5⟩
 self:=λ_ _ _ _ _ st h=>wpAny_pyIter_tupleiter st h
theorem ti{P:Program}{w:World}{K:PySem.W.Frag}{tg:Expr}(it:Addr)(lo:Int)(n:Nat):yb P w K tg (GM lo n) [it] it (λi h=>IsRangeIter h it (lo+(i:Nat)*1) ((n:Int)-(i:Nat)) 1) where
 mem:=by simp
 obj:=λi h st b hb=>by
  have e:b=it:=by simpa using hb
  subst e;exact⟨_,st,λv z=>by
   have z':Data.fields _=Data.cell v:=z;cases z'⟩
 keep:=λi h h' st k=>k it (by simp) _ st
 item:=by
  intro X hP hw hK hc i pins s σ H E I hf st hg;subst hP hw hK;obtain⟨f0,f1,f2,f3,f4,f5⟩:=hf it (by simp);have W:=Walks.range (prog:=X.prog) (w:=X.w) (I.ok.hd hc) it lo 1 n;refine W.item i s _ _ hg st λv h' tk hv st' kk=>?_
  obtain⟨t,rfl⟩:=hv;have I1:Inv X pins σ H {s with heap:=h',toks:=tk}:=I.turned (λb o hb e=>kk b o (by simpa using hb) e) f0 f1 f3 f4 f5
  refine⟨_,rfl,vN (s:={s with heap:=h',toks:=tk}) (n:="range_iterator") st' rfl rfl (by decide) ⟨.int (lo+i),H,I1,⟨t,?_⟩,⟨rfl,rfl⟩,st',λb hb=>(hf b hb).1⟩⟩
  rw[Int.mul_one]
 done:=by
  intro X hP hw hK hc i pins s σ H E I hf st hg;subst hP hw hK;obtain⟨f0,f1,f2,f3,f4,f5⟩:=hf it (by simp);exact wpAny_pyNext_range_end (I.ok.hd hc) st (by have:n<=i:=hg;lia) λh' eb=>⟨rfl,I.turned (t':=s.toks) (λb o hb e=>eb b o hb e) f0 f1 f3 f4 f5⟩
 self:=λ_ _ _ _ _ st h=>wpAny_pyIter_rangeiter st h
section
variable{X:Cx}{tg:Expr}
def Ij(K:PySem.W.Frag)(tl:TE):TI:=λσ H R=>tl σ H λx H1=>∃a,x=.ref a/\(∃xs,SqL K H1 a xs)/\R (Le K a) H1
def Kl(K:PySem.W.Frag)(tl:TE):TI:=λσ H R=>tl σ H λx H1=>∃a,x=.ref a/\(∃xs,SqT K H1 a xs)/\R (Ld K a) H1
theorem Ch{l:Expr}{tl:TE}(hl:PE X l tl):PI X tg l (Ij X.K tl):=by
 intro pins s σ H R I h;refine bB (hl pins s σ H _ I h) λv s1 ⟨x,H1,I1,r1,q1⟩=>?_
 obtain⟨a,e,⟨xs,hq⟩,q⟩:=q1;subst e;cases r1;obtain⟨its,rv,p,hz⟩:=I1.list hq;refine wpAny_pyIter_list p.isList ?_;refine⟨s1.heap.objs.size,[s1.heap.objs.size],_,_,H1,rfl,I1.kept (t':=s1.toks) λb o e=>get?_push_of_some _ e,wJ a _,⟨_,get?_push_size _ rfl,rfl,rfl⟩,λb hb=>?_,q⟩
 have e:b=s1.heap.objs.size:=by simpa using hb
 subst e;exact I1.fpOk (le_refl _) (I1.hok.fresh (le_refl _))
theorem EZ{l:Expr}{tl:TE}(hl:PE X l tl):PI X tg l (Kl X.K tl):=by
 intro pins s σ H R I h;refine bB (hl pins s σ H _ I h) λv s1 ⟨x,H1,I1,r1,q1⟩=>?_
 obtain⟨a,e,⟨xs,hq⟩,q⟩:=q1;subst e;cases r1;obtain⟨its,rv,p,hz⟩:=I1.tuple hq;refine wpAny_pyIter_tuple (show s1.heap.IsTuple a its.toArray from p) ?_;refine⟨s1.heap.objs.size,[s1.heap.objs.size],_,_,H1,rfl,I1.kept (t':=s1.toks) λb o e=>get?_push_of_some _ e,s0 a _,⟨_,get?_push_size _ rfl,rfl,rfl⟩,λb hb=>?_,q⟩
 have e:b=s1.heap.objs.size:=by simpa using hb
 subst e;exact I1.fpOk (le_refl _) (I1.hok.fresh (le_refl _))
theorem zd{pins:List (Addr×Obj)}{σ:St}{H:Hp}{s:Shared}{R:It->Hp->Prop}{E:Value->Shared->Prop}{lo hi:Int}{t u v:Tok}{tk:Nat}(I:Inv X pins σ H s)(h1:-(2^62)<=lo)(h2:lo<2^62)(h3:-(2^62)<=hi)(h4:hi<2^62)
  (q:R (GM lo (hi-lo).toNat) H):wpAny (model X.prog X.w) X.A (pyIter (.ref s.heap.objs.size)) (KI X pins σ tg R) E {s with heap:=s.heap.push {cls:=.type "range",data:=.fields #[.int lo t,.int hi u,.int 1 v]},toks:=tk}:=by
 refine wpAny_pyIter_range (IsRange.new ..) (small_one h1 h2 h3 h4) ?_;have I1:Inv X pins σ H {s with heap:=s.heap.push {cls:=.type "range",data:=.fields #[.int lo t,.int hi u,.int 1 v]},toks:=tk}:=I.kept λb o e=>get?_push_of_some _ e
 refine⟨(s.heap.push {cls:=.type "range",data:=.fields #[.int lo t,.int hi u,.int 1 v]}).objs.size,[(s.heap.push {cls:=.type "range",data:=.fields #[.int lo t,.int hi u,.int 1 v]}).objs.size],_,_,H,rfl,
  I1.kept (t':=tk) λb o e=>get?_push_of_some _ e,ti _ lo (hi-lo).toNat,?_,λb hb=>?_,q⟩
 .have e1:lo+((0:Nat):Int)*1=lo:=by simp
  have e2:(((hi-lo).toNat:Nat):Int)-((0:Nat):Int)=Builtin.Range.rangeSize lo hi 1:=by rw[rangeSize_one];split<;>lia
  show IsRangeIter _ _ (lo+((0:Nat):Int)*1) ((((hi-lo).toNat:Nat):Int)-((0:Nat):Int)) 1;rw[e1,e2];exact get?_push_size _ rfl
 .have e:b=(s.heap.push {cls:=.type "range",data:=.fields #[.int lo t,.int hi u,.int 1 v]}).objs.size:=by simpa using hb
  subst e;exact I1.fpOk (le_refl _) (I1.hok.fresh (le_refl _))
def Ii(ta:TA):TI:=λσ H R=>ta σ H λvs H1=>∃j:Int,vs=[.int j]/\ -(2^62)<=j/\j<2^62/\R (GM 0 j.toNat) H1
theorem xg{a:Expr}{ta:TA}{p pos:Pos}(hg:Gl X "range")(hm:X.mg "range" = none)(ha:PA X [a] ta)(hs:starEach [a] X.env=[(false,eval a X.env)]:=by rfl):PI X tg (.Call (.Name "range" p) [a] [] pos) (Ii ta):=by
 intro pins s σ H R I h;refine Call_ (d9 I hg hm boot_range (PyProof.Rows.callWith_type1 (bB (ha pos pins s σ H _ I h) λus s1 ⟨vs,H1,I1,r1,q1⟩=>?_) hs rfl))
 obtain⟨j,e,q1,q2,q⟩:=q1;subst e;cases r1 with
 |cons r rr=>
  cases rr;obtain⟨t,rfl⟩:=r;exact call_range_1 (zd I1 (by lia) (by lia) q1 q2 (by simpa using q))
def JJ(wi:TI)(g:TG)(tb:TS):TS:=λD σ H=>wi σ H λJ H1=>∃W:Nat->Nat->St->Hp->Prop,(∃m,W 0 m σ H1)/\∀i m σ H,W i m σ H ->
 (J.stop i H/\D.nx σ H)\/(J.go i H/\∃N:St->Hp->Prop,(∀ σ' H',N σ' H'->∃m',m'<m/\W (i+1) m' σ' H')/\∀x H',J.yld i H x H'->g x σ H' λσ2 H2=>tb {D with nx:=N,ct:=N,bk:=D.nx} σ2 H2)
def pG(fp:List Addr)(h:Heap):List (Addr×Obj):=fp.filterMap λb=>(h.get? b).map λo=>(b,o)
theorem b0{fp:List Addr}{h:Heap}{b:Addr}{o:Obj}(hb:b∈fp)(e:h.get? b=some o):(b,o)∈pG fp h:=List.mem_filterMap.mpr ⟨b,hb,by rw[e];rfl⟩
theorem xl{fp:List Addr}{h:Heap}{p:Addr×Obj}(hp:p∈pG fp h):p.1∈fp/\h.get? p.1=some p.2:=by
 obtain⟨b,hb,e⟩:=List.mem_filterMap.mp hp;cases q:h.get? b with
 |none=>rw[q]at e;cases e
 |some o=>
  rw[q]at e;have e':(b,o)=p:=Option.some.inj e;subst e';exact⟨hb,q⟩
theorem Inv.pinned{pins:List (Addr×Obj)}{σ:St}{H:Hp}{s:Shared}{fp:List Addr}(I:Inv X pins σ H s)(hf:∀b∈fp,i9 X pins H b)(ho:∀b∈fp,∃o,s.heap.get? b=some o/\∀v,o.data≠.cell v):Inv X (pins++pG fp s.heap) σ H s:=
 I.pins_of λp hp=>(List.mem_append.mp hp).elim (λz=>I.pin p (mem_append_right _ z)) λz=>by
  obtain⟨hb,e⟩:=xl z;obtain⟨f0,f1,f2,_⟩:=hf p.1 hb;obtain⟨o,e',d⟩:=ho p.1 hb;rw[e]at e';cases e';exact⟨e,f0,f1,f2,d⟩
theorem Inv.unpinned{pins pl:List (Addr×Obj)}{σ:St}{H:Hp}{s:Shared}(I:Inv X (pins++pl) σ H s):Inv X pins σ H s:=I.pins_of λp hp=>I.pin p (mem_append_right _ (List.mem_append_left _ hp))
theorem ET{iter:Expr}{body:List Stmt}{wi:TI}{g:TG}{tb:TS}{pos:Pos}(hp:PassesOwn (model X.prog X.w) X.A X.env X.xe)(hc:X.calm=true)(hi:PI X tg iter wi)(hg:PG X tg g)(hb:PSs X body tb)
  (hs:∀x,foldedSetIterable iter X.env x=pure x:=by intro _;rfl):PS X (.For tg iter body [] pos) (JJ wi g tb):=by
 intro pins s σ H D I h;refine wpAny_For (bB (hi pins s σ H _ I h) λv s1 h1=>bB h1 λitv s2 h2=>?_) hs
 obtain⟨it,fp,tn,J,H2,e,I2,T,st2,f2,W,⟨m0,w0⟩,turn⟩:=h2;subst e;have stat:∀{H':Hp},(∀b∈fp,H' b=none)->∀b∈fp,i9 X pins H' b:=λhn b hb=>⟨hn b hb,(f2 b hb).2⟩
 refine codeAny_forLoop_any (λn s'=>∃i σ' H',Inv X pins σ' H' s'/\tn i s'.heap/\(∀b∈fp,H' b=none)/\W i n σ' H') ?_ m0 ⟨0,σ,H2,I2,st2,λb hb=>(f2 b hb).1,w0⟩
 rintro n s3 ⟨i,σ3,H3,I3,st3,fr3,w3⟩;rcases turn i n σ3 H3 w3 with⟨stop,qn⟩|⟨go,N,hN,step⟩
 .refine wpAny_passesOwn hp (bB (T.done X rfl rfl rfl hc i pins s3 σ3 H3 X.xe I3 (stat fr3) st3 stop) λr s4 ⟨hr,I4⟩=>?_)
  subst hr;exact wpAny_execs_nil ⟨σ3,H3,I4,qn⟩
 .refine wpAny_passesOwn hp (bB (T.item X rfl rfl rfl hc i pins s3 σ3 H3 X.xe I3 (stat fr3) st3 go) λr s4 ⟨u,hr,h4⟩=>?_)
  subst hr;refine wpAny_passesOwn hp (bB h4 λ_ s5 ⟨x,H5,I5,r5,y5,st5,fr5⟩=>?_);have I5':=I5.pinned (stat fr5) (T.obj _ _ st5);refine wpAny_passesOwn hp (bB (hg _ s5 σ3 H5 x u _ I5' r5 (step x H5 y5)) λ_ s6 ⟨σ6,H6,I6,q6⟩=>?_)
  refine wpAny_passesOwn hp (bB (hb _ s6 σ6 H6 _ I6 q6) λf s7 q7=>?_)
  have again:∀{σ7:St} {H7:Hp},Inv X (pins++pG fp s5.heap) σ7 H7 s7->N σ7 H7->∃m,m<n/\∃i σ' H',Inv X pins σ' H' s7/\tn i s7.heap/\(∀b∈fp,H' b=none)/\W i m σ' H':=λ{σ7 H7} I7 n7=>by
   obtain⟨m',hm,w7⟩:=hN σ7 H7 n7;refine⟨m',hm,i+1,σ7,H7,I7.unpinned,T.keep _ _ _ st5 λb hb o e=>(I7.pin (b,o) (mem_append_right _ (mem_append_right _ (b0 hb e)))).1,λb hb=>?_,w7⟩
   obtain⟨o,e,d⟩:=T.obj _ _ st5 b hb;exact(I7.pin (b,o) (mem_append_right _ (mem_append_right _ (b0 hb e)))).2.1
  cases f with
  |next=>obtain⟨σ7,H7,I7,n7⟩:=q7;exact again I7 n7
  |cont=>obtain⟨σ7,H7,I7,n7⟩:=q7;exact again I7 n7
  |brk=>obtain⟨σ7,H7,I7,q7⟩:=q7;exact⟨σ7,H7,I7.unpinned,q7⟩
  |ret v=>obtain⟨x7,σ7,H7,I7,r7,q7⟩:=q7;exact⟨x7,σ7,H7,I7.unpinned,r7,q7⟩
end
abbrev R2:=V->V->Hp->VK->Prop
def OpR(X:Cx)(f:Value->Value->Sem Value)(r:R2):Prop:=
 ∀(pins:List (Addr×Obj)) (s:Shared) (σ:St) (H:Hp) (x y:V) (v u:Value) (Q:VK),Inv X pins σ H s->RelV x v->RelV y u->r x y H Q ->
  wpAny (model X.prog X.w) X.A (f v u) (EP X pins σ Q) X.xe s
def IR(X:Cx)(f:Value->Sem Value)(r:V->Hp->VK->Prop):Prop:=
 ∀(pins:List (Addr×Obj)) (s:Shared) (σ:St) (H:Hp) (x:V) (v:Value) (Q:VK),Inv X pins σ H s->RelV x v->r x H Q ->
  wpAny (model X.prog X.w) X.A (f v) (EP X pins σ Q) X.xe s
def CallR(X:Cx)(f:Value)(r:List V->Hp->VK->Prop):Prop:=
 ∀(pins:List (Addr×Obj)) (s:Shared) (σ:St) (H:Hp) (xs:List V) (us:List Value) (Q:VK),Inv X pins σ H s->Vals xs us->r xs H Q ->
  wpAny (model X.prog X.w) X.A (call f us) (EP X pins σ Q) X.xe s
def G0(r:R2)(ta tb:TE):TE:=λσ H Q=>ta σ H λx H1=>tb σ H1 λy H2=>r x y H2 Q
def Ll(r:V->Hp->VK->Prop)(ta:TE):TE:=λσ H Q=>ta σ H λx H1=>r x H1 Q
def rI(C:Int->Int->Prop)(g:Int->Int->V):R2:=λx y H Q=>∃i j,x=.int i/\y=.int j/\C i j/\Q (g i j) H
def yh(g:Int->Int->V):R2:=λx y H Q=>∃i j,x=.int i/\y=.int j/\Q (g i j) H
def rU(g:Int->V):V->Hp->VK->Prop:=λx H Q=>∃i,x=.int i/\Q (g i) H
section
variable{X:Cx}{a b c:Expr}{ta tb tc:TE}{pos:Pos}
theorem Ge(ha:PE X a ta)(hb:PE X b tb){pins:List (Addr×Obj)}{s:Shared}{σ:St}{H:Hp}{R:V->V->Hp->Prop}(I:Inv X pins σ H s)
  (h:ta σ H λx H1=>tb σ H1 λy H2=>R x y H2) {Q:Value->Shared->Prop} {f:Value->Value->Sem Value}
  (hf:∀v u s2 x y H2,Inv X pins σ H2 s2->RelV x v->RelV y u->R x y H2->wpAny (model X.prog X.w) X.A (f v u) Q X.xe s2):
  wpAny (model X.prog X.w) X.A (eval a X.env) (λv s₁=>wpAny (model X.prog X.w) X.A (eval b X.env) (λu s₂=>wpAny (model X.prog X.w) X.A (f v u) Q X.xe s₂) X.xe s₁) X.xe s:=by
 refine bB (ha pins s σ H _ I h) λv s1 ⟨x,H1,I1,r1,q1⟩=>?_
 refine bB (hb pins s1 σ H1 _ I1 q1) λu s2 ⟨y,H2,I2,r2,q2⟩=>?_
 exact hf v u s2 x y H2 I2 r1 r2 q2
theorem Ht{op:Operator}{r:R2}(ho:OpR X (binaryOp op) r)(ha:PE X a ta)(hb:PE X b tb):PE X (.BinOp a op b pos) (G0 r ta tb):=by
 intro pins s σ H Q I h;exact wpAny_BinOp (Ge ha hb I h λv u s2 x y H2 I2 rx ry q=>ho pins s2 σ H2 x y v u Q I2 rx ry q)
theorem Hs{op:UnaryOp}{r:V->Hp->VK->Prop}(ho:IR X (unaryOp op) r)(ha:PE X a ta):PE X (.UnaryOp op a pos) (Ll r ta):=by
 intro pins s σ H Q I h;exact UnaryOp_ (bB (ha pins s σ H _ I h) λv s1 ⟨x,H1,I1,r1,q1⟩=>ho pins s1 σ H1 x v Q I1 r1 q1)
theorem HB{f:Value->Value->Sem Value}{C:Int->Int->Prop}{g:Int->Int->Int}
  (rule:∀(i j:Int) (t u:Tok) (s:Shared) (Q:Value->Shared->Prop) (E:Value->Shared->Prop),C i j->Q (.int (g i j) s.toks) {s with toks:=s.toks+1}->wpAny (model X.prog X.w) X.A (f (.int i t) (.int j u)) Q E s):
  OpR X f (rI C λi j=>.int (g i j)):=by
 intro pins s σ H x y v u Q I rx ry h;obtain⟨i,j,rfl,rfl,hc,q⟩:=h;obtain⟨t,rfl⟩:=rx;obtain⟨t',rfl⟩:=ry;exact rule i j t t' s _ _ hc ⟨.int (g i j),H,I.tok _,⟨_,rfl⟩,q⟩
theorem zD{f:Value->Value->Sem Value}{g:Int->Int->Int}
  (rule:∀(i j:Int) (t u:Tok) (s:Shared) (Q:Value->Shared->Prop) (E:Value->Shared->Prop),Q (.int (g i j) s.toks) {s with toks:=s.toks+1}->wpAny (model X.prog X.w) X.A (f (.int i t) (.int j u)) Q E s):
  OpR X f (yh λi j=>.int (g i j)):=by
 intro pins s σ H x y v u Q I rx ry h;obtain⟨i,j,rfl,rfl,q⟩:=h;obtain⟨t,rfl⟩:=rx;obtain⟨t',rfl⟩:=ry;exact rule i j t t' s _ _ ⟨.int (g i j),H,I.tok _,⟨_,rfl⟩,q⟩
theorem Fo{f:Value->Value->Sem Value}{g:Int->Int->Bool}
  (rule:∀(i j:Int) (t u:Tok) (s:Shared) (Q:Value->Shared->Prop) (E:Value->Shared->Prop),Q (.bool (g i j)) s->wpAny (model X.prog X.w) X.A (f (.int i t) (.int j u)) Q E s):
  OpR X f (yh λi j=>.bl (g i j)):=by
 intro pins s σ H x y v u Q I rx ry h;obtain⟨i,j,rfl,rfl,q⟩:=h;obtain⟨t,rfl⟩:=rx;obtain⟨t',rfl⟩:=ry;exact rule i j t t' s _ _ ⟨.bl (g i j),H,I,rfl,q⟩
def KN(i j:Int):Prop:=0<j/\j<1073741824
theorem sZ(k:Nat):(0:Int)<=2^k:=by
 rw[two_pow_cast];exact Int.natCast_nonneg _
theorem Fn:OpR X (binaryOp .Add) (yh λi j=>.int (i+j)):=zD λ_ _ _ _ _ _ _ q=>add_int q
theorem Ff:OpR X (binaryOp .Sub) (yh λi j=>.int (i-j)):=zD λ_ _ _ _ _ _ _ q=>sub_int q
theorem Cr:OpR X (binaryOp .FloorDiv) (rI KN λi j=>.int (i/j)):=HB λi j _ _ _ _ _ hc q=>by
 have h1:(0:Int)<j:=hc.1;have h2:j<1073741824:=hc.2;exact floordiv_int (by lia) (by rw[Int.fdiv_eq_ediv_of_nonneg i (by lia)];exact q) (.inl (PyProof.noPylong_small (by lia)))
theorem Fi:OpR X (binaryOp .Mod) (rI (λ_ j=>0<j) λi j=>.int (i%j)):=HB λi j _ _ _ _ _ hc q=>by
 have h1:(0:Int)<j:=hc;exact mod_int' (by lia) (by rw[Int.fmod_eq_emod_of_nonneg i (by lia)];exact q)
theorem Fh:OpR X (binaryOp .RShift) (rI (λ_ j=>0<=j) λi j=>.int (i/2^j.toNat)):=HB λi j _ _ _ _ _ hc q=>
 rshift_int hc (by rw[Int.fdiv_eq_ediv_of_nonneg i (sZ _)];exact q)
theorem Fk:OpR X (binaryOp .BitAnd) (yh λi j=>.int (Builtin.bitAnd i j)):=zD λ_ _ _ _ _ _ _ q=>and_int q
theorem Hx:OpR X (binaryOp .BitOr) (yh λi j=>.int (Builtin.bitOr i j)):=zD λ_ _ _ _ _ _ _ q=>or_int q
theorem Fe:OpR X (binaryOp .BitXor) (yh λi j=>.int (Builtin.bitXor i j)):=zD λ_ _ _ _ _ _ _ q=>xor_int q
theorem Li{f:Value->Sem Value}{g:Int->Int}
  (rule:∀(i:Int) (t:Tok) (s:Shared) (Q:Value->Shared->Prop) (E:Value->Shared->Prop),Q (.int (g i) s.toks) {s with toks:=s.toks+1}->wpAny (model X.prog X.w) X.A (f (.int i t)) Q E s):
  IR X f (rU λi=>.int (g i)):=by
 intro pins s σ H x v Q I rx h;obtain⟨i,rfl,q⟩:=h;obtain⟨t,rfl⟩:=rx;exact rule i t s _ _ ⟨.int (g i),H,I.tok _,⟨_,rfl⟩,q⟩
theorem Eo:IR X (unaryOp .USub) (rU λi=>.int (-i)):=Li λ_ _ _ _ _ q=>neg_int q
end
section
variable{X:Cx}{a b c:Expr}{ta tb tc:TE}{pos:Pos}
theorem AJ{pins:List (Addr×Obj)}{σ:St}{H:Hp}{s:Shared}{Q:VK}{k k':Bool}(I:Inv X pins σ H s)(q:Q (.bl k) H)(e:k=k'):EP X pins σ Q (.bool k') s:=by
 subst e;exact⟨.bl k,H,I,rfl,q⟩
theorem Hy:OpR X (compareOp .Lt) (yh λi j=>.bl (decide (i<j))):=Fo λ_ _ _ _ _ _ _ q=>lt_int q
theorem Hz:OpR X (compareOp .LtE) (yh λi j=>.bl (decide (i<=j))):=Fo λ_ _ _ _ _ _ _ q=>le_int q
theorem HA:OpR X (compareOp .Gt) (yh λi j=>.bl (decide (j<i))):=Fo λ_ _ _ _ _ _ _ q=>gt_int q
theorem Fj:OpR X (compareOp .Is) (λx y H Q=>y=.non/\Q (.bl (decide (x=.non))) H):=by
 intro pins s σ H x y v u Q I rx ry h;obtain⟨rfl,q⟩:=h;cases ry;refine is_none_gen (AJ I q ?_);cases x<;>first
  | (cases rx;rfl)
  | (obtain⟨t,rfl⟩:=rx;rfl)
theorem Cq:OpR X (compareOp .IsNot) (λx y H Q=>y=.non/\Q (.bl (!decide (x=.non))) H):=by
 intro pins s σ H x y v u Q I rx ry h;obtain⟨rfl,q⟩:=h;cases ry;refine isnot_none_gen (AJ I q ?_);cases x<;>first
  | (cases rx;rfl)
  | (obtain⟨t,rfl⟩:=rx;rfl)
theorem aC(b:Expr){op:CmpOp}(h:op≠.In:=by decide)(h2:op≠.NotIn:=by decide):behindInMarks op b=false:=by
 have e1:(op==CmpOp.In)=false:=by cases op<;>first|rfl|exact absurd rfl h
 have e2:(op==CmpOp.NotIn)=false:=by cases op<;>first|rfl|exact absurd rfl h2
 cases b<;>simp[behindInMarks,e1,e2]
theorem Co{op:CmpOp}{r:R2}(ho:OpR X (compareOp op) r)(ha:PE X a ta)(hb:PE X b tb)(hm:behindInMarks op b=false):PE X (.Compare a [op] [b] pos) (G0 r ta tb):=by
 intro pins s σ H Q I h;exact wpAny_Compare1 (Ge ha hb I h λv u s2 x y H2 I2 rx ry q=>ho pins s2 σ H2 x y v u Q I2 rx ry q) hm
def GX(t:TE):TT:=λσ H Q=>t σ H λx H'=>∃k,x=.bl k/\Q k H'
theorem Cc{op:CmpOp}{r:R2}(ho:OpR X (compareOp op) r)(ha:PE X a ta)(hb:PE X b tb)(hm:behindInMarks op b=false):PT X (.Compare a [op] [b] pos) (GX (G0 r ta tb)):=by
 intro pins s σ H Q I h;refine wpAny_isTrue_Compare1 (bB (ha pins s σ H _ I h) λv s1 ⟨x,H1,I1,r1,q1⟩=>bB (hb pins s1 σ H1 _ I1 q1) λu s2 ⟨y,H2,I2,r2,q2⟩=>
  bB (ho pins s2 σ H2 x y v u _ I2 r1 r2 q2) λc s3 ⟨z,H3,I3,r3,k,e,q3⟩=>?_) hm
 subst e;cases r3;exact wpAny_truthy_bool ⟨H3,I3,q3⟩
theorem ub:(sizeLine:Nat)<2^63:=by rw[sizeLine_eq];decide
theorem tX:OpR X (binaryOp .Add) (λx y H Q=>∃i j,x=.str i/\y=.str j/\i.length+j.length<=sizeLine/\Q (.str (i++j)) H):=by
 intro pins s σ H x y v u Q I rx ry h;obtain⟨i,j,rfl,rfl,hz,q⟩:=h;obtain⟨t,rfl⟩:=rx;obtain⟨t',rfl⟩:=ry;exact add_str (λt' tk=>⟨.str (i++j),H,I.tok _,⟨_,rfl⟩,q⟩) hz
theorem jb{x:V}{us:List Value}(r:Vals [x] us):∃u,us=[u]/\RelV x u:=by
 cases r with
 |cons r1 r2=>cases r2;exact⟨_,rfl,r1⟩
theorem uR{x y:V}{us:List Value}(r:Vals [x,y] us):∃u w',us=[u,w']/\RelV x u/\RelV y w':=by
 cases r with
 |cons r1 r2=>
  cases r2 with
  |cons r3 r4=>cases r4;exact⟨_,_,rfl,r1,r3⟩
def KL(K:PySem.W.Frag)(x:V)(H:Hp)(n:Nat):Prop:=
 match x with
 |.str y=>y.length<=sizeLine/\n=y.length
 |.byt y=>y.size<=sizeLine/\n=y.size
 |.ref p=>(∃xs,SqL K H p xs/\n=xs.length)\/∃xs,SqT K H p xs/\n=xs.length
 |_=>False
theorem sN:CallR X (.builtin "len") (λxs H Q=>∃x n,xs=[x]/\KL X.K x H n/\Q (.int n) H):=by
 intro pins s σ H xs us Q I r h;obtain⟨x,n,rfl,e,q⟩:=h;obtain⟨u,rfl,rx⟩:=jb r;have hl:=ub;have hs:sizeLine=16777216:=sizeLine_eq;cases x with
 |str y=>
  obtain⟨t,rfl⟩:=rx;obtain⟨hy,e'⟩:y.length<=sizeLine/\n=y.length:=e;subst e';exact len_str (by lia) ⟨.int _,H,I.tok _,⟨_,rfl⟩,q⟩
 |byt y=>
  obtain⟨t,rfl⟩:=rx;obtain⟨hy,e'⟩:y.size<=sizeLine/\n=y.size:=e;subst e';exact PySem.W.len_bytes (by lia) ⟨.int _,H,I.tok _,⟨_,rfl⟩,q⟩
 |ref p=>
  cases rx;have e':(∃xs,SqL X.K H p xs/\n=xs.length)\/∃xs,SqT X.K H p xs/\n=xs.length:=e;rcases e' with⟨xs,hx,e'⟩|⟨xs,hx,e'⟩
  .subst e'
   obtain⟨its,r',pl,hz⟩:=I.list hx;have hlen:=r'.length;exact Calls.call_len_list pl.isList (by simp only[size_toArray];lia) ⟨.int xs.length,H,I.tok _,⟨_,by simp only[size_toArray];rw[hlen]⟩,q⟩
  .subst e'
   obtain⟨its,r',pl,hz⟩:=I.tuple hx;have hlen:=r'.length;exact len_tuple pl (by simp only[size_toArray];lia) ⟨.int xs.length,H,I.tok _,⟨_,by simp only[size_toArray];rw[hlen]⟩,q⟩
 |_=>exact(show False from e).elim
end
structure ObjM (h:Heap) (x dx C:Addr) (mA:Str->Option Value):Prop where
 obj:h.get? x=some (instObj C dx)
 ns:h.Ns1 dx mA
 ne:dx≠x
theorem xq{h:Heap}{dx:Addr}{mA:Str->Option Value}(n:h.Ns1 dx mA):∃od,h.get? dx=some od/\∀name,lookIn name od=some (mA name):=by
 obtain⟨o,es,ep,ho,hd,hk,_,hm⟩:=n;refine⟨o,ho,λname=>?_⟩
 have e:=hm name;unfold nsFind findBy at e;rw[<-Array.find?_toList]at e;unfold lookIn;rw[hd];dsimp only;split
 .rename_i y q
  rw[q]at e;exact congrArg some e
 .rename_i q
  rw[q]at e;have a:es.toList.any (·.refKey)=false:=by
   rw[List.any_eq_false];intro y hy;obtain⟨z,t,hkey⟩:=hk y (Array.mem_toList_iff.mp hy);simp[DictEntry.refKey,hkey]
  have a':¬es.toList.any (·.refKey)=true:=by rw[a];exact Bool.false_ne_true
  rw[if_neg a'];exact congrArg some e
theorem ObjM.look{h:Heap}{x dx C:Addr}{mA:Str->Option Value}(I:ObjM h x dx C mA):∃od,PySem.W.InstAt h x (instObj C dx) C (some od)/\∀name,lookIn name od=some (mA name):=
 let ⟨od,ho,hl⟩:=xq I.ns
 ⟨od,⟨I.obj,rfl,rfl,ho⟩,hl⟩
theorem RelO.some_of{v:V}{o:Option Value}(r:RelO (some v) o):∃u,o=some u/\RelV v u:=by
 cases o with
 |none=>exact(show False from r).elim
 |some u=>exact⟨u,rfl,r⟩
section
variable{P:Program}{w:World}{H H':Hp}{h h':Heap}{a C dx:Addr}{fs fs':List (Str×V)}
theorem iu(hok:HOk P w H h)(e:H a=some (.ins C dx fs)):∃mA,ObjM h a dx C mA/\(∀f,RelO (fs.lookup f) (mA f))/\PySem.Within mA (fs.map (·.1))/\fs.length<=1000/\H dx=some (.own a):=by
 obtain⟨d,z,ne,ob,mA,n,r,q⟩:=(show ObjOk P w H h a (.ins C dx fs)from hok a _ e);exact⟨mA,⟨ob,n,ne⟩,r,q,z,d⟩
end
structure Cls (K:PySem.W.Frag) (C:Addr):Prop where
 pg:plainGet K C Str.empty=true
 hd:PySem.W.hasDictIn K C=true
 po:PySem.W.plainOver K C=true
 sa:findIn K (.ref C) "__setattr__" = some (some (.builtin "object.__setattr__"))
theorem Cls.get{K:PySem.W.Frag}{C:Addr}(c:Cls K C)(f:Str):plainGet K C f=true:=c.pg
section
variable{X:Cx}{pins:List (Addr×Obj)}{σ:St}{H:Hp}{s:Shared}{A:Around}{E:Value->Shared->Prop}{Q:Value->Shared->Prop}{c:Value}{b:Bool}
inductive TyOf (K:PySem.W.Frag) (H:Hp):V->Value->Prop where
 |non:TyOf K H .non (.type "NoneType")
 |bl (x:Bool):TyOf K H (.bl x) (.type "bool")
 |int (i:Int):TyOf K H (.int i) (.type "int")
 |str (x:Str):TyOf K H (.str x) (.type "str")
 |flt (x:UInt64):TyOf K H (.flt x) (.type "float")
 |lst {a:Addr} {xs:List V} (e:H a=some (.lst xs)):TyOf K H (.ref a) (.type "list")
 |frz {a:Addr} {o:Obj} {xs:List V} (e:H a=some (.frz o (.lst xs))):TyOf K H (.ref a) (.type "list")
 |tup {a:Addr} {xs:List V} (e:H a=some (.tup xs)):TyOf K H (.ref a) (.type "tuple")
 |dK {a:Addr} {kvs:List (aw×V)} (e:H a=some (.dK kvs)):TyOf K H (.ref a) (.type "dict")
 |dT {a:Addr} {kvs:List (List aw×V)} (e:H a=some (.dT kvs)):TyOf K H (.ref a) (.type "dict")
 |ins {a C dx:Addr} {fs:List (Str×V)} (e:H a=some (.ins C dx fs)) (cl:Cls K C) (ha:findIn K (.ref C) "__class__" = some (some (.builtin "object.__class__")))
   (hn:PySem.W.specialIn K (.builtin "object.__class__") "__get__" = some (some (.builtin "getset_descriptor.__get__"))) (htk:PySem.W.takesIn K (.builtin "object.__class__")=some true)
   (hm:PySem.W.mroIn K C (.type "object")=some true):TyOf K H (.ref a) (.ref C)
theorem ir{x:V}{u t:Value}(I:Inv X pins σ H s)(rx:RelV x u)(ty:TyOf X.K H x t)(e:PySem.W.kitOne X.K t c=some b)(h:∀tk,Q (.bool b) {s with toks:=tk}):
  wpAny (model X.prog X.w) A (call (.builtin "isinstance") [u,c]) Q E s:=by
 cases ty with
 |non=>cases(show u=Value.none from rx);exact kia_one PySem.W.kitx_none I.kIn True.intro e (λz=>nomatch z) h
 |bl y=>cases(show u=Value.bool y from rx);exact kia_one PySem.W.kitx_bool I.kIn True.intro e (λz=>nomatch z) h
 |int i=>obtain⟨t,q⟩:=(show ∃t,u=Value.int i t from rx);cases q;exact kia_one PySem.W.kitx_int I.kIn True.intro e (λz=>nomatch z) h
 |str y=>obtain⟨t,q⟩:=(show ∃t,u=Value.str y t from rx);cases q;exact kia_one PySem.W.kitx_str I.kIn True.intro e (λz=>nomatch z) h
 |flt y=>obtain⟨t,q⟩:=(show ∃t,u=Value.float y t from rx);cases q;exact kia_one PySem.W.kitx_float I.kIn True.intro e (λz=>nomatch z) h
 | @lst a xs ea=>
  cases(show u=Value.ref a from rx);obtain⟨_,_,n,_,h1⟩:=(show ObjOk X.prog X.w H s.heap a (.lst xs)from I.hok a _ ea);exact kia_one kitx_list I.kIn ⟨_,h1,rfl⟩ e (λz=>nomatch z) h
 | @frz a ob xs ea=>
  cases(show u=Value.ref a from rx);obtain⟨_,_,_,n,_,h1⟩:=(show ObjOk X.prog X.w H s.heap a (.frz ob (.lst xs))from I.hok a _ ea);exact kia_one kitx_list I.kIn ⟨_,h1,rfl⟩ e (λz=>nomatch z) h
 | @tup a xs ea=>
  cases(show u=Value.ref a from rx);obtain⟨_,_,_,p⟩:=(show ObjOk X.prog X.w H s.heap a (.tup xs)from I.hok a _ ea);obtain⟨o,h1,h2,_⟩:=p.1;exact kia_one PySem.W.kitx_tuple I.kIn ⟨o,h1,h2⟩ e (λz=>nomatch z) h
 | @dK a kvs ea=>
  cases(show u=Value.ref a from rx);obtain⟨_,_,vs,_,p⟩:=(show ObjOk X.prog X.w H s.heap a (.dK kvs)from I.hok a _ ea);obtain⟨o,es,ep,h1,h2,_⟩:=p;exact kia_one kitx_dict I.kIn ⟨o,h1,h2.1⟩ e (λz=>nomatch z) h
 | @dT a kvs ea=>
  cases(show u=Value.ref a from rx);obtain⟨_,_,xs,_,o,es,ep,h1,h2,_⟩:=(show ObjOk X.prog X.w H s.heap a (.dT kvs)from I.hok a _ ea);exact kia_one kitx_dict I.kIn ⟨o,h1,h2.1⟩ e (λz=>nomatch z) h
 | @ins a C dx fs ea cl ha hn htk hm=>
  cases(show u=Value.ref a from rx);obtain⟨mA,O,_⟩:=iu I.hok ea;obtain⟨od,J,_⟩:=O.look;exact kia_one (PySem.W.kitx_own (cl.get _) cl.hd ha hn htk hm) I.kIn J e (λz=>nomatch z) h
end
structure Room (k:Nat) (A:Around):Prop where
 hd:A.handled=none
 dp:A.depth+3*k+5<recursionLimit
 un:A.units+16*k+200<cLine
theorem Room.mono{j k:Nat}{A:Around}(r:Room k A)(h:j<=k):Room j A:=⟨r.hd,by have:=r.dp;lia,by have:=r.un;lia⟩
theorem Room.deeper{k:Nat}{A:Around}(r:Room (k+1) A)(env:Env):Room k (A.deeper env):=
 ⟨r.hd,by have:=r.dp;show A.depth+1+3*k+5<_;lia,by have:=r.un;show A.units+3+16*k+200<_;lia⟩
theorem Room.depth{k:Nat}{A:Around}(r:Room k A):A.depth<recursionLimit:=by have:=r.dp;lia
theorem Room.units{k:Nat}{A:Around}(r:Room k A):A.units+64<cLine:=by have:=r.un;lia
def JG:TA:=λ_ H Q=>Q [] H
def G5(ta:TE)(tr:TA):TA:=λσ H Q=>ta σ H λx H1=>tr σ H1 λxs H2=>Q (x::xs) H2
section
variable{X:Cx}{e:Expr}{es:List Expr}{te:TE}{t:TA}{pos:Pos}
theorem dl:PA X [] JG:=λ_ _ _ _ H Q I h=>Calls.spliced_nil ⟨[],H,I,.nil,h⟩
theorem bq(ha:PE X e te)(hr:PA X es t)(hs:starEach (e::es) X.env=(false,eval e X.env)::starEach es X.env:=by rfl):PA X (e::es) (G5 te t):=by
 intro pos pins s σ H Q I h;rw[hs];show wpAny _ _ (spliced ((false,eval e X.env)::backTo pos (starEach es X.env))) _ _ s;refine Calls.spliced_cons (bB (ha pins s σ H _ I h) λu s1 ⟨x,H1,I1,r1,q1⟩=>?_)
 exact bB (hr pos pins s1 σ H1 _ I1 q1) λus s2 ⟨xs,H2,I2,r2,q2⟩=>⟨x::xs,H2,I2,.cons r1 r2,q2⟩
def JC(t:TA):TE:=λσ H Q=>t σ H λxs H1=>xs.length<=sizeLine/\∀p,H1 p=none->Q (.ref p) (upd H1 p (.tup xs))
def JH(t:TA):TE:=λσ H Q=>t σ H λxs H1=>xs.length<=sizeLine/\∀p,H1 p=none->Q (.ref p) (upd H1 p (.lst xs))
theorem E2{x1}(h:PA X es t):PE X (.Tuple es x1 pos) (JC t):=by
 intro pins s σ H Q I hq;refine wpAny_Tuple_spliced (bB (h pos pins s σ H _ I hq) λus s1 ⟨xs,H1,I1,r,z,q⟩=>⟨by rw[<-r.length];exact z,?_⟩)
 have hf:H1 s1.heap.objs.size=none:=I1.hok.fresh (le_refl _);refine⟨.ref s1.heap.objs.size,upd H1 s1.heap.objs.size (.tup xs),I1.laid (t':=s1.toks) (λb u e=>get?_push_of_some _ e) (le_refl _) ?_,rfl,q _ hf⟩;exact⟨z,us,r,⟨_,get?_push_size _ rfl,rfl,_,rfl⟩,NoDi.new _ _⟩
theorem zu(h:PA X es t):PE X (.List es pos) (JH t):=by
 intro pins s σ H Q I hq;refine wpAny_List_spliced (bB (h pos pins s σ H _ I hq) λus s1 ⟨xs,H1,I1,r,z,q⟩=>⟨by rw[<-r.length];exact z,?_⟩)
 have hf:H1 s1.heap.objs.size=none:=I1.hok.fresh (le_refl _);refine⟨.ref s1.heap.objs.size,upd H1 s1.heap.objs.size (.lst xs),I1.laid (t':=s1.toks) (λb u e=>get?_push_of_some _ e) (le_refl _) ?_,rfl,q _ hf⟩;exact⟨z,us,0,r,get?_push_size _ rfl⟩
end
abbrev Sp:=List V->Hp->VK->XK->Prop
abbrev uN:=List Env->Hp->Shared->XK->Value->Shared->Prop
structure Env0 (P:Program) (w:World) (K:PySem.W.Frag) (mg:Str->Option Value) (base:Heap) (A:Around) (outer:List Env) (s:Shared) (H:Hp):Prop where
 frames:A.frames=some outer
 mod:Mod K mg base
 bs:∀b o,base.get? b=some o->s.heap.get? b=some o/\H b=none
 bsz:base.objs.size<=s.heap.objs.size
 funs:s.heap.FunFrames base outer
 frf:∀b∈g9 outer,H b=none
 hok:HOk P w H s.heap
 bare:AllBare s.gens
 tb:Dl K H
def CE(outer:List Env)(P:Program)(w:World)(H:Hp)(s:Shared)(Q:VK)(u:Value)(s':Shared):Prop:=
 ∃v H',s'.os=s.os/\AllBare s'.gens/\Un (g9 outer) [] H H' s.heap s'.heap/\HOk P w H' s'.heap/\RelV v u/\Q v H'
def CR(CX:uN)(outer:List Env)(P:Program)(w:World)(H:Hp)(s:Shared)(Q:VK)(E:XK)(r:Result)(s':Shared):Prop:=
 match r with
 |.ok (.ret u)=>CE outer P w H s Q u s'
 |.ok _=>False
 |.error e=>CX outer H s E e s'
structure FnOk (P:Program) (w:World) (K:PySem.W.Frag) (mg:Str->Option Value) (base:Heap) (CX:uN) (k:Nat) (f:Addr) (fd:FuncData) (ps:List Str) (sp:Sp):Prop where
 len:∀vs H Q E,sp vs H Q E->vs.length=ps.length
 run:∀(A:Around) (outer:List Env) (s:Shared) (H:Hp) (args:Args) (us:List Value) (vs:List V) (Q:VK) (E:XK),Room k A->Env0 P w K mg base A outer s H->BindsTo s fd args (ps.zip us)->Vals vs us->sp vs H Q E ->
  codeAny (model P w) A (.call (.ref f) args) (CR CX outer P w H s Q E) s
theorem FnOk.imp{P:Program}{w:World}{K:PySem.W.Frag}{mg:Str->Option Value}{base:Heap}{CX:uN}{k:Nat}{f:Addr}{fd:FuncData}{ps:List Str}{sp sp':Sp}(F:FnOk P w K mg base CX k f fd ps sp)
  (h:∀vs H Q E,sp' vs H Q E->sp vs H Q E):FnOk P w K mg base CX k f fd ps sp':=
 ⟨λvs H Q E q=>F.len vs H Q E (h _ _ _ _ q),λA outer s H args us vs Q E hr he hb hv hs=>F.run A outer s H args us vs Q E hr he hb hv (h _ _ _ _ hs)⟩
section
variable{X:Cx}{pins:List (Addr×Obj)}{σ:St}{H:Hp}{s s':Shared}
theorem Inv.env0(I:Inv X pins σ H s):Env0 X.prog X.w X.K X.mg X.base X.A X.stack s H:=
 ⟨I.ok.frames,I.ok.mod,I.bs,le_trans I.ok.bsz I.sz,I.stack,I.stkFree,I.hok,I.bare,I.tb⟩
theorem Inv.after{Q:VK}{u:Value}(I:Inv X pins σ H s)(h:CE X.stack X.prog X.w H s Q u s'):EP X pins σ Q u s':=by
 obtain⟨v,H',os,bare,un,hok,r,q⟩:=h;obtain⟨hh,g,d,t,os'⟩:=s';obtain rfl:os'=s.os:=os;exact⟨v,H',I.call (h':=hh) (g':=g) (d':=d) (t':=t) (ch:=[]) un hok bare (λb z=>absurd z (by simp)),r,q⟩
end
def G6(sp:Sp)(dvs:List V)(E:XK)(t:TA):TE:=λσ H Q=>t σ H λvs H1=>sp (vs++dvs) H1 Q E
def Binds(K:PySem.W.Frag)(fd:FuncData)(ps:List Str)(ds:List Value):Prop:=
 ∀(s:Shared) (us:List Value),K.In s.heap->(us++ds).length=ps.length->BindsTo s fd ⟨us,[]⟩ (ps.zip (us++ds))
theorem Binds.all{K:PySem.W.Frag}{fd:FuncData}{ps:List Str}(h:∀us:List Value,us.length=ps.length->bindArgs fd ⟨us,[]⟩=pure (ps.zip us)):Binds K fd ps []:=λs us _ hl=>by
 rw[List.append_nil]at hl ⊢;exact .of_eq (h us hl)
def qA(CX:uN)(X:Cx)(E:XK):Prop:=∀(pins:List (Addr×Obj)) (σ:St) (H:Hp) (s:Shared) (e:Value) (s':Shared),Inv X pins σ H s->CX X.stack H s E e s'->X.xe e s'
section
variable{X:Cx}{CX:uN}{k:Nat}{f C:Addr}{fd:FuncData}{ps:List Str}{sp:Sp}{dvs:List V}{ds:List Value}{E:XK}{x m:Str}{p pos apos:Pos}{e o:Expr}{es:List Expr}{ta:TE}{t:TA}
theorem yW{pins:List (Addr×Obj)}{σ:St}{H:Hp}{s:Shared}{Q:VK}{us:List Value}{vs:List V}(F:FnOk X.prog X.w X.K X.mg X.base CX k f fd ps sp)(hr:Room k X.A)(hb:Binds X.K fd ps ds)(hd:Vals dvs ds)(hx:qA CX X E)
  (I:Inv X pins σ H s) (r:Vals vs us) (h:sp (vs++dvs) H Q E):wpAny (model X.prog X.w) X.A (call (.ref f) us) (EP X pins σ Q) X.xe s:=by
 have r2:Vals (vs++dvs) (us++ds):=r.append hd;have hl:(us++ds).length=ps.length:=by rw[<-r2.length];exact F.len _ _ _ _ h
 refine wpAny_call (codeAny_mono (F.run X.A X.stack s H ⟨us,[]⟩ (us++ds) (vs++dvs) Q E hr I.env0 (hb s us I.kIn hl) r2 h) λr s' hq=>?_)
 cases r with
 |error e=>exact hx pins σ H s e s' I hq
 |ok fl=>
  cases fl with
  |ret u=>exact I.after hq
  |next=>exact False.elim hq
  |brk=>exact False.elim hq
  |cont=>exact False.elim hq
theorem vf(F:FnOk X.prog X.w X.K X.mg X.base CX k f fd ps sp)(hr:Room k X.A)(hg:Gl X x)(hm:X.mg x=some (.ref f))(hk:PySem.W.keepIn X.K (.ref f)=true)(hb:Binds X.K fd ps ds)(hd:Vals dvs ds)(hx:qA CX X E)
  (ha:PA X (e::es) t) (hdb:(x==("__debug__":Str))=false:=by decide) (he:starEach (e::es) X.env=(false,eval e X.env)::starEach es X.env:=by rfl) (hpl:(backTo pos (starEach es X.env)).any (·.1)=false:=by rfl):
  PE X (.Call (.Name x p) (e::es) [] pos) (G6 sp dvs E t):=by
 intro pins s σ H Q I h;refine wpAny_Call_Name_kw (ju I hg hm ?_ hdb);refine PySem.W.callWith_K (h₀:=X.base) I.ok.mod.kin hk (bB (ha pos pins s σ H _ I h) λus s1 ⟨vs,H1,I1,r,q⟩=>⟨I1.kIn,?_⟩) he hpl
 exact yW F hr hb hd hx I1 r q
end
structure FnScope (N P:List Str) (sc:Scope):Prop where
 kind:sc.kind=.function
 co:sc.isCoroutine=false
 gen:sc.isGenerator=false
 nd:N.Nodup
 pre:N.take P.length=P
 par:∀x∈P,sc.names.lookup x=some .local\/sc.names.lookup x=some .cell
 nofree:∀y∈sc.names,y.2≠.free
theorem o7{kindOf:Str->Option NameKind}{x:Str}:∀{binds:List (Str×Value)} {m:Str->Option Value},(∀v,(x,v)∉binds)->bindL kindOf binds m x=m x
 |[],_,_=>rfl
 | (n,v)::r,m,h=>by
  unfold bindL;rw[o7 λw hw=>h w (List.mem_cons_of_mem _ hw)]
  split
  .have:x≠n:=by rintro rfl;exact h v List.mem_cons_self
   simp[this]
  .rfl
theorem o9{kindOf:Str->Option NameKind}{x:Str}:∀{binds:List (Str×Value)} {m:Str->Option Value},(∀v,(x,v)∉binds)->bindC kindOf binds m x=m x
 |[],_,_=>rfl
 | (n,v)::r,m,h=>by
  unfold bindC;rw[o9 λw hw=>h w (List.mem_cons_of_mem _ hw)]
  split
  .rfl
  .have:x≠n:=by rintro rfl;exact h v List.mem_cons_self
   simp[this]
theorem o8{kindOf:Str->Option NameKind}{x:Str}{v:Value}:∀{P:List Str} {vs:List Value} {i:Nat} {m:Str->Option Value},P.Nodup->P[i]? = some x->vs[i]? = some v->kindOf x=some .local ->
  bindL kindOf (P.zip vs) m x=some v
 |[],_,_,_,_,h,_,_=>by simp at h
 |_::_,[],_,_,_,_,h,_=>by simp at h
 |p::P,w::vs,0,m,nd,h1,h2,hk=>by
  simp at h1 h2;subst h1;subst h2;show bindL kindOf ((p,w)::P.zip vs) m p=_;unfold bindL;rw[o7 λv hv=>(List.nodup_cons.mp nd).1 (List.of_mem_zip hv).1,if_pos hk]
  simp
 |p::P,w::vs,i+1,m,nd,h1,h2,hk=>by
  show bindL kindOf ((p,w)::P.zip vs) m x=_;unfold bindL;exact o8 (i:=i) (List.nodup_cons.mp nd).2 (by simpa using h1) (by simpa using h2) hk
theorem pb{kindOf:Str->Option NameKind}{x:Str}{v:Value}:∀{P:List Str} {vs:List Value} {i:Nat} {m:Str->Option Value},P.Nodup->P[i]? = some x->vs[i]? = some v->kindOf x≠some .local ->
  bindC kindOf (P.zip vs) m x=some v
 |[],_,_,_,_,h,_,_=>by simp at h
 |_::_,[],_,_,_,_,h,_=>by simp at h
 |p::P,w::vs,0,m,nd,h1,h2,hk=>by
  simp at h1 h2;subst h1;subst h2;show bindC kindOf ((p,w)::P.zip vs) m p=_;unfold bindC;rw[o9 λv hv=>(List.nodup_cons.mp nd).1 (List.of_mem_zip hv).1,if_neg hk]
  simp
 |p::P,w::vs,i+1,m,nd,h1,h2,hk=>by
  show bindC kindOf ((p,w)::P.zip vs) m x=_;unfold bindC;exact pb (i:=i) (List.nodup_cons.mp nd).2 (by simpa using h1) (by simpa using h2) hk
def dL(N:List Str)(vs:List V):St:=vs.map some++List.replicate (N.length-vs.length) none
def dS(CX:uN)(P:Program)(w:World)(K:PySem.W.Frag)(mg:Str->Option Value)(base:Heap)(N:List Str)(qual:Str)(scope:Scope)(f:Addr)(cd:Value)(A:Around)(outer:List Env)(s:Shared)(H:Hp)(E:XK):Cx where
 prog:=P
 w:=w
 K:=K
 mg:=mg
 base:=base
 A:=A.deeper (envOfC qual scope s.heap.objs.size f cd)
 N:=N
 s₀:=s
 H₀:=H
 env:=envOfC qual scope s.heap.objs.size f cd
 outer:=outer
 stack:=envOfC qual scope s.heap.objs.size f cd::outer
 ex:=[]
 calm:=true
 fn:=λ_=>true
 pn:=[]
 xe:=λe s'=>wpAny (model P w) (A.deeper (envOfC qual scope s.heap.objs.size f cd)) (leaving (envOfC qual scope s.heap.objs.size f cd) e) (λ_ s''=>CX outer H s E e s'') (λe' s''=>CX outer H s E e' s'') s'
theorem sM{sc:Scope}{n:Nat}{x:Str}(h:sc.names.lookup x=some .cell):∃c,(cellsFrom n sc.names []).lookup x=some c:=by
 have q:=PySem.W.cellsFrom_some sc.names n [] (.inl h);exact Option.isSome_iff_exists.mp q
theorem oM{CX:uN}{P:Program}{w:World}{K:PySem.W.Frag}{mg:Str->Option Value}{base:Heap}{N ps:List Str}{qual:Str}{scope:Scope}{f:Addr}{cd:Value}{A:Around}{outer:List Env}{s s1:Shared}{H:Hp}{E:XK}{us:List Value}{vs:List V}
  (S:FnScope N ps scope) (hd:A.handled=none) (e0:Env0 P w K mg base A outer s H) (hl:vs.length=ps.length) (r:Vals vs us)
  (x:InCallC s s.heap.objs.size (bindL (envOfC qual scope s.heap.objs.size f cd).kindOf (ps.zip us) λ_=>none) (cellsFrom (s.heap.objs.size+1) scope.names []) (bindC (envOfC qual scope s.heap.objs.size f cd).kindOf (ps.zip us) λ_=>none) s1):
  Inv (dS CX P w K mg base N qual scope f cd A outer s H E) [] (dL N vs) H s1:=by
 have hpl:ps.length<=N.length:=by have:=congrArg List.length S.pre;rw[List.length_take]at this;lia
 obtain⟨h1,tk,rfl,hk⟩:=x.done;have noA:∀b:Addr,b∉(dS CX P w K mg base N qual scope f cd A outer s H E).ex:=λb z=>absurd (show b∈([]:List Addr)from z) (by simp)
 refine⟨⟨e0.mod,S.kind,rfl,rfl,le_refl _,λy z c h1 h2=>?_,λy hy=>?_,λy c _ h=>?_,λ_=>hd,Around.frames_deeper e0.frames,.inr ⟨rfl,rfl⟩,λb z=>absurd z (noA b),e0.bs,e0.bsz,λb _ _=>noA b,λb z=>absurd z (noA b),e0.funs,e0.frf,e0.tb⟩,
  rfl,e0.bare,Un.kept hk,⟨_,x.toInCall.ns,λi y v h1 h2 h3=>?_⟩,λy c h=>⟨_,x.cell y c h⟩,e0.hok.fresh (le_refl _),λy c h=>?_,λp hp=>absurd (show p∈([]:List (Addr×Obj))from hp) (by simp),e0.hok.kept hk,?_⟩
 .exact name_of_addr x.apart (PySem.mem_of_lookup h1) (PySem.mem_of_lookup h2)
 .have hy:scope.names.lookup y=some .cell\/scope.names.lookup y=some .free:=hy
  rcases hy with hy|hy
  .exact sM hy
  .exact absurd rfl (S.nofree _ (PySem.mem_of_lookup hy))
 .exact Nat.le_of_lt (x.above y c (PySem.mem_of_lookup h))
 .have hi:i<vs.length:=by
   unfold dL at h2;by_cases hi:i<vs.length
   .exact hi
   .rw[List.getElem?_append_right (by simpa using hi)]at h2
    rw[List.getElem?_replicate]at h2;split at h2<;>cases h2
  have ha:vs[i]? = some v:=by
   unfold dL at h2;rw[List.getElem?_append_left (by simpa using hi),List.getElem?_map]at h2;cases e:vs[i]? with
   |none=>rw[e]at h2;cases h2
   |some a=>rw[e]at h2;cases h2;rfl
  obtain⟨u,hu,rv⟩:=r.get ha;have hp:ps[i]? = some y:=by
   rw[<-S.pre,List.getElem?_take_of_lt (by lia)];exact h1
  have ndP:ps.Nodup:=by rw[<-S.pre];exact S.nd.sublist (List.take_sublist _ _)
  refine⟨u,rv,?_⟩;rcases S.par y (List.mem_of_getElem? hp)with k|k
  .exact .inl ⟨k,o8 ndP hp hu k⟩
  .obtain⟨c,e⟩:=sM (n:=s.heap.objs.size+1) k
   refine .inr ⟨.inl k,c,e,?_⟩;have q:=x.cell y c e;rw[pb ndP hp hu (by show scope.names.lookup y≠_;rw[k];decide)]at q;exact q
 .exact e0.hok.fresh (Nat.le_of_lt (x.above y c (PySem.mem_of_lookup h)))
 .unfold dL
  show _=N.length;rw[List.length_append,List.length_map,List.length_replicate]
  lia
theorem vZ{CX:uN}{P:Program}{w:World}{K:PySem.W.Frag}{mg:Str->Option Value}{base:Heap}{k:Nat}{f:Addr}{name qual:Str}{params:Arguments}{body:List Stmt}{scope:Scope}{dV kV doc pm cdv ct oc:Value}{an od:Option Addr}
  {osl:Array (Option Value)} {N ps:List Str} {sp:Sp} (lk:K.lookup f=some ⟨oc,od,.func (PySem.W.fnOf name qual params body scope dV kV doc pm an cdv ct),osl⟩) (hcd:PySem.W.codeIn K cdv qual=true) (S:FnScope N ps scope)
  (len:∀vs H Q E,sp vs H Q E->vs.length=ps.length)
  (hbody:∀(A:Around) (outer:List Env) (s:Shared) (H:Hp) (vs:List V) (Q:VK) (E:XK),Room k (A.deeper (envOfC qual scope s.heap.objs.size f cdv))->sp vs H Q E ->
   ∃t,PSs (dS CX P w K mg base N qual scope f cdv A outer s H E) body t/\t {nx:=λ_ H'=>Q .non H',rt:=Q} (dL N vs) H):
  FnOk P w K mg base CX (k+1) f (PySem.W.fnOf name qual params body scope dV kV doc pm an cdv ct) ps sp:=by
 refine⟨len,λA outer s H args us vs Q E hr e0 hb r hsp=>?_⟩
 have hl:=len _ _ _ _ hsp;have KX:K.In s.heap:=e0.mod.kin.keeps λb o e=>(e0.bs b o e).1
 have lim:s.heap.NoLimit:=e0.mod.nolimit.keeps λb o e=>(e0.bs b o e).1
 have hkind:∀y∈ps.zip us,scope.names.lookup y.1=some .local\/(scope.names.lookup y.1=some .cell/\((cellsFrom (s.heap.objs.size+1) scope.names []).lookup y.1).isSome=true):=λ⟨n,v⟩ hy=>by
  rcases S.par n (List.of_mem_zip hy).1 with q|q
  .exact .inl q
  .exact .inr ⟨q,PySem.W.cellsFrom_some _ _ _ (.inl q)⟩
 refine codeAny_call_function hr.depth (KX _ _ lk) rfl S.co S.gen rfl (PySem.W.codeRec_of KX hcd) (hb _ _ _ _ ?_);refine wpAny_newFunctionEnv_cells S.kind hkind λenv he s1 x=>?_
 subst he;refine⟨lim.keeps x.toInCall.keep,codeAny_func ?_⟩;obtain⟨t,ht,hq⟩:=hbody A outer s H vs Q E (hr.deeper _) hsp;have I:Inv (dS CX P w K mg base N qual scope f cdv A outer s H E) [] (dL N vs) H s1:=oM S hr.hd e0 hl r x;refine wpAny_mono (ht [] s1 (dL N vs) H _ I hq) (λfl s' hs=>?_) λe s' hs=>hs
 have fin:∀{σ':St} {H':Hp} {v:V} {u:Value},Inv (dS CX P w K mg base N qual scope f cdv A outer s H E) [] σ' H' s'->RelV v u->Q v H'->CE outer P w H s Q u s':=
  λ{σ' H' v u} J rv q=>⟨v,H',J.os,J.bare,J.base,J.hok,rv,q⟩
 cases fl with
 |ret u=>
  obtain⟨v,σ',H',J,rv,q⟩:=hs;exact fin J rv q
 |next=>
  obtain⟨σ',H',J,q⟩:=hs;exact fin (v:=V.non) (u:=Value.none) J rfl q
 |brk=>
  obtain⟨_,_,_,q⟩:=hs;exact False.elim q
 |cont=>
  obtain⟨_,_,_,q⟩:=hs;exact False.elim q
section
variable{X:Cx}{x:Str}{p pos:Pos}{e:Expr}{es:List Expr}{t:TA}{id T:String}{r:List V->Hp->VK->Prop}
def K2(r:List V->Hp->VK->Prop)(t:TA):TE:=λσ H Q=>t σ H λvs H1=>r vs H1 Q
theorem fB(hc:CallR X (.builtin id) r)(hg:Gl X x)(hm:X.mg x=none)(hv:bootBuiltins x=some (.builtin id))(ha:PA X (e::es) t)(hn:x≠"__name__":=by decide)(hdb:(x==("__debug__":Str))=false:=by decide)
  (he:starEach (e::es) X.env=(false,eval e X.env)::starEach es X.env:=by rfl) (hpl:(backTo pos (starEach es X.env)).any (·.1)=false:=by rfl):PE X (.Call (.Name x p) (e::es) [] pos) (K2 r t):=by
 intro pins s σ H Q I h;refine wpAny_Call_Name_kw (d9 I hg hm hv ?_ hn hdb);exact PyProof.Rows.callWith_builtin1 (bB (ha pos pins s σ H _ I h) λus s1 ⟨vs,H1,I1,r1,q1⟩=>hc pins s1 σ H1 vs us Q I1 r1 q1) he hpl
theorem ou(hc:CallR X (.type T) r)(hg:Gl X x)(hm:X.mg x=none)(hv:bootBuiltins x=some (.type T))(ha:PA X (e::es) t)(hn:x≠"__name__":=by decide)(hdb:(x==("__debug__":Str))=false:=by decide)
  (he:starEach (e::es) X.env=(false,eval e X.env)::starEach es X.env:=by rfl) (hpl:(backTo pos (starEach es X.env)).any (·.1)=false:=by rfl):PE X (.Call (.Name x p) (e::es) [] pos) (K2 r t):=by
 intro pins s σ H Q I h;refine wpAny_Call_Name_kw (d9 I hg hm hv ?_ hn hdb);exact PyProof.Rows.callWith_type1 (bB (ha pos pins s σ H _ I h) λus s1 ⟨vs,H1,I1,r1,q1⟩=>hc pins s1 σ H1 vs us Q I1 r1 q1) he hpl
end
end L2
namespace HT
open PySem PyProof.Rows
section
variable{prog:Program}{w:World}{A:Around}{E:Value->Shared->Prop}{s:Shared}
theorem Db{t b:Addr}{vs ws:List Value}{Q:Value->Shared->Prop}(ht:IsTup s.heap t vs.toArray)(hb:IsTup s.heap b ws.toArray)(hv:vs≠[])
  (h1:ws=[]->Q (.ref t) s) (h2:ws≠[]->Q (.ref s.heap.objs.size) {s with heap:=s.heap.push {cls:=.type "tuple",data:=.seq (vs++ws).toArray}})
  (hsz:vs.length+ws.length<=sizeLine):wpAny (model prog w) A (binaryOp .Add (.ref t) (.ref b)) Q E s:=by
 obtain⟨⟨cls,dd,data,sl⟩,ho,hc,n,hd⟩:=id ht;obtain⟨⟨cls2,dd2,data2,sl2⟩,ho2,hc2,n2,hd2⟩:=id hb;simp only at hc hd hc2 hd2;subst hc hd hc2 hd2;have e:vs.toArray++ws.toArray=(vs++ws).toArray:=by simp
 by_cases hw:ws=[]
 .exact concat_meets ⟨_,ho,rfl⟩ ⟨_,ho2,rfl⟩ noFill_tuple_add seq_tuple_add PySem.F.slot_tuple_add PySem.F.entry_tuple_add (PySem.F.args_tuple_add_2 _ _)
   (tuple_addW1 t b vs.toArray ws.toArray n n2 dd dd2 sl sl2 (by simpa using hv) (by simp[hw])) ⟨ho,ho2,h1 hw⟩
 .refine concat_meets ⟨_,ho,rfl⟩ ⟨_,ho2,rfl⟩ noFill_tuple_add seq_tuple_add PySem.F.slot_tuple_add PySem.F.entry_tuple_add (PySem.F.args_tuple_add_2 _ _)
   (tuple_addW2 t b vs.toArray ws.toArray n n2 dd dd2 sl sl2 (by simpa using hv) (by simpa using hw) (by rw[List.size_toArray,List.size_toArray];exact hsz)) ⟨ho,ho2,?_⟩
  rw[e];exact h2 hw
def sIx(n d:Nat):Option Int->Nat
 |none=>d
 |some v=>if v<0 then(v+(n:Int)).toNat else min v.toNat n
theorem ED(n d:Nat)(hd:d<=n)(o:Option Int):sIx n d o<=n:=by
 cases o with
 |none=>exact hd
 |some v=>
  show(if v<0 then(v+(n:Int)).toNat else min v.toNat n)<=n;by_cases hv:v<0
  .rw[if_pos hv];lia
  .rw[if_neg hv];exact Nat.min_le_right _ _
theorem ww(v:Int)(n d:Nat):(if v<0 then max (v+(n:Int)) 0 else min v (n:Int))=((sIx n d (some v):Nat):Int):=by
 show(if v<0 then max (v+(n:Int)) 0 else min v (n:Int))=(((if v<0 then(v+(n:Int)).toNat else min v.toNat n):Nat):Int);by_cases hv:v<0
 .simp only[if_pos hv];lia
 .simp only[if_neg hv];lia
theorem uM(lo hi:Option Int)(n:Nat):Builtin.Slice.sliceAdjust lo hi 1 (n:Int)=(((sIx n 0 lo:Nat):Int),((sIx n n hi:Nat):Int)):=by
 have h1:¬((1:Int)<0):=by lia
 unfold Builtin.Slice.sliceAdjust;simp only[h1,if_false];refine Prod.ext ?_ ?_
 .cases lo with
  |none=>rfl
  |some v=>exact ww v n 0
 .cases hi with
  |none=>rfl
  |some v=>exact ww v n n
theorem tU(i j:Nat):Builtin.Slice.slicePlaces (i:Int) (j:Int) 1=j-i:=by
 unfold Builtin.Slice.slicePlaces;have h1:(1:Int)>0:=by lia
 simp only[h1,if_true,Int.ediv_one];split<;>lia
theorem lB{v:Value}{o:Option Int}{Q:Option Int->Shared->Prop}(p:IsPart v o)(h:Q o s):wpAny (model prog w) A (Builtin.Slice.slicePartIndex v) Q E s:=by
 cases p with
 |none=>exact slicePart_none h
 |int i t=>exact slicePart_int h
theorem fh{sl:Addr}{vl vu:Value}{lo hi:Option Int}{n:Nat}{Q:Int×Int×Nat->Shared->Prop}(hs:s.heap.IsSliceOf sl vl vu .none)(pl:IsPart vl lo)(pu:IsPart vu hi)
  (h:Q (((sIx n 0 lo:Nat):Int),1,sIx n n hi-sIx n 0 lo) s):wpAny (model prog w) A (Builtin.Slice.sliceApplied (.ref sl) (pure (n:Int))) Q E s:=by
 obtain⟨os,hos,hcs,hds⟩:=id hs;unfold Builtin.Slice.sliceApplied Builtin.Slice.sliceFields;refine wpAny_bind (wpAny_bind (wpAny_field hos hds (x:=vl) rfl (wpAny_bind (wpAny_field hos hds (x:=vu) rfl (wpAny_bind (wpAny_field hos hds (x:=.none) rfl (wpAny_pure ?_)))))));refine wpAny_bind (slicePart_none ?_);show wpAny _ _ (if((1:Int)==0)=true then _ else _) _ _ s;rw[if_neg (by decide)];refine wpAny_bind (lB pl (wpAny_bind (lB pu (wpAny_bind (wpAny_pure ?_)))));show wpAny _ _ (match Builtin.Slice.sliceAdjust lo hi 1 (n:Int)with|(lo,hi)=>pure (lo,(1:Int),Builtin.Slice.slicePlaces lo hi 1)) _ _ s
 rw[uM lo hi n];show wpAny _ _ (pure (((sIx n 0 lo:Nat):Int),(1:Int),Builtin.Slice.slicePlaces ((sIx n 0 lo:Nat):Int) ((sIx n n hi:Nat):Int) 1)) _ _ s;rw[tU];exact wpAny_pure h
theorem zo(xs:Array Value)(i k:Nat):((List.range k).filterMap λ(m:Nat)=>xs[((i:Int)+(m:Int)*1).toNat]?).toArray=((xs.toList.drop i).take k).toArray:=by
 have e:(λ(m:Nat)=>xs[((i:Int)+(m:Int)*1).toNat]?)=λm=>xs[i+m]?:=by
  funext m;have:((i:Int)+(m:Int)*1).toNat=i+m:=by lia
  rw[this]
 rw[e];have:=pick_run xs i k;rw[List.filterMap_map]at this;have e2:((λx=>xs[x]?) ∘ λx=>i+x)=λm=>xs[i+m]?:=rfl
 rw[e2]at this;rw[this]
theorem jC{t sl:Addr}{items:Array Value}{vl vu:Value}{lo hi:Option Int}{Q:Value->Shared->Prop}(ht:IsTup s.heap t items)(hs:s.heap.IsSliceOf sl vl vu .none)(pl:IsPart vl lo)(pu:IsPart vu hi)
  (hw:¬(sIx items.size 0 lo=0/\sIx items.size items.size hi=items.size))
  (h:Q (.ref s.heap.objs.size) {s with heap:=s.heap.push {cls:=.type "tuple",data:=.seq ((items.toList.drop (sIx items.size 0 lo)).take (sIx items.size items.size hi-sIx items.size 0 lo)).toArray}})
  (hsz:items.size<=sizeLine):wpAny (model prog w) A (getItem (.ref t) (.ref sl)) Q E s:=by
 have htake:sizeOk (.seq ((items.toList.drop (sIx items.size 0 lo)).take (sIx items.size items.size hi-sIx items.size 0 lo)).toArray):=by
  show((items.toList.drop (sIx items.size 0 lo)).take (sIx items.size items.size hi-sIx items.size 0 lo)).toArray.size<=sizeLine;rw[List.size_toArray,List.length_take,List.length_drop,Array.length_toList]
  lia
 have hj:sIx items.size items.size hi<=items.size:=ED _ _ (Nat.le_refl _) hi;obtain⟨os,hos,hcs,hds⟩:=id hs;have hTs:s.TypeIs (.ref sl) "slice":=⟨os,hos,hcs⟩;unfold getItem
 try with_reducible refine wpAny_holding ?_
 first|refine wpAny_bind (wpAny_pure ?_)|skip
 refine wpAny_bind (wpAny_sequenceKey ht.typeIs (by decide) ?_);refine wpAny_bind (wpAny_callSpecial?_slot (name:=Str.ofString "__getitem__") ht.typeIs PyProof.Rows.slot_tuple_getitem
  (wpAny_call_entry PyProof.Rows.slot_tuple_getitem ht.typeIs entry_tuple_getitem ?_ (args_tuple_getitem _ _)))
 show wpAny _ _ (Builtin.Tuple.tupleItemsOf (.ref t) >>= _) _ _ s;refine wpAny_bind (tupleItemsOf_ ht ?_);refine wpAny_bind (wpAny_typeOf hTs ?_);rw[if_pos (by decide)];refine wpAny_bind (fh hs pl pu ?_);have hno:¬((((sIx items.size 0 lo:Nat):Int)==0&&(1:Int)==1&&(sIx items.size items.size hi-sIx items.size 0 lo)==items.size)=true):=by
  intro q;rw[Bool.and_eq_true,Bool.and_eq_true]at q;have q1:((sIx items.size 0 lo:Nat):Int)=0:=eq_of_beq q.1.1;have q2:sIx items.size items.size hi-sIx items.size 0 lo=items.size:=eq_of_beq q.2;exact hw ⟨by lia,by lia⟩
 show wpAny _ _ (if(((sIx items.size 0 lo:Nat):Int)==0&&(1:Int)==1&&(sIx items.size items.size hi-sIx items.size 0 lo)==items.size)=true then _ else _) _ _ s;rw[if_neg hno,zo]
 first
  |exact wpAny_bind (m:=Builtin.Tuple.tupleExact _) (wpAny_newObj_type (wpAny_pure ⟨_,rfl,wpAny_pure h⟩) htake)
  |exact wpAny_bind (m:=Builtin.Tuple.tupleExact _) (wpAny_newObj_type (wpAny_bind (wpAny_pure (wpAny_pure ⟨_,rfl,wpAny_pure h⟩))) htake)
  |exact wpAny_bind (wpAny_bind (m:=Builtin.Tuple.tupleExact _) (wpAny_newObj_type (wpAny_pure (wpAny_pure ⟨_,rfl,wpAny_pure h⟩)) htake))
  |exact wpAny_bind (wpAny_bind (m:=Builtin.Tuple.tupleExact _) (wpAny_newObj_type (wpAny_pure ⟨_,rfl,wpAny_pure h⟩) htake))
end
end HT
namespace L2
open PySem PySem.Spec PyProof.Rows
open List (size_toArray)
open Nat (le_refl)
open PySem.Heap (get?_push_of_some)
abbrev TO:=St->Hp->(Option Int->Hp->Prop)->Prop
def PO(X:Cx)(e:Option Expr)(t:TO):Prop:=
 ∀(pins:List (Addr×Obj)) (s:Shared) (σ:St) (H:Hp) (Q:Option Int->Hp->Prop),Inv X pins σ H s->t σ H Q ->
  wpAny (model X.prog X.w) X.A (evalPart e X.env) (λu s'=>∃o H',Inv X pins σ H' s'/\IsPart u o/\Q o H') X.xe s
def BE:TO:=λ_ H Q=>Q none H
def GZ(t:TE):TO:=λσ H Q=>t σ H λx H1=>∃i,x=.int i/\Q (some i) H1
section
variable{X:Cx}{e:Expr}{te:TE}{lo hi:Option Expr}{tl th:TO}{pos p2:Pos}
theorem Cf:PO X none BE:=by
 intro pins s σ H Q I h;rw[evalPart_none];exact wpAny_pure ⟨none,H,I,.none,h⟩
theorem Ce(h:PE X e te):PO X (some e) (GZ te):=by
 intro pins s σ H Q I hw;rw[evalPart_some];refine bB (h pins s σ H _ I hw) λu s1 ⟨x,H1,I1,r1,q1⟩=>?_
 obtain⟨i,rfl,q⟩:=q1;obtain⟨t,rfl⟩:=r1;exact⟨some i,H1,I1,.int i t,q⟩
def SlR(X:Cx)(r:V->Option Int->Option Int->Hp->VK->Prop):Prop:=
 ∀(pins:List (Addr×Obj)) (s:Shared) (σ:St) (H:Hp) (x:V) (v vl vu:Value) (lo hi:Option Int) (sl:Addr) (Q:VK),Inv X pins σ H s->RelV x v->s.heap.IsSliceOf sl vl vu .none->IsPart vl lo->IsPart vu hi->r x lo hi H Q ->
  ∃T id,typeLookup (.type T) "__getitem__" = pure (some (.builtin id))/\s.TypeIs v T/\wpAny (model X.prog X.w) X.A (getItem v (.ref sl)) (EP X pins σ Q) X.xe s
theorem SlR.or{r r':V->Option Int->Option Int->Hp->VK->Prop}(h:SlR X r)(h':SlR X r'):SlR X (λx lo hi H Q=>r x lo hi H Q\/r' x lo hi H Q):=by
 intro pins s σ H x v vl vu lo hi sl Q I rx hs pl pu q;rcases q with q|q
 .exact h pins s σ H x v vl vu lo hi sl Q I rx hs pl pu q
 .exact h' pins s σ H x v vl vu lo hi sl Q I rx hs pl pu q
def Ln(r:V->Option Int->Option Int->Hp->VK->Prop)(te:TE)(tl th:TO):TE:=λσ H Q=>te σ H λx H1=>tl σ H1 λl H2=>th σ H2 λu H3=>r x l u H3 Q
theorem zt{r:V->Option Int->Option Int->Hp->VK->Prop}(hr:SlR X r)(he:PE X e te)(hl:PO X lo tl)(hu:PO X hi th):PE X (.Subscript e (.Slice lo hi none p2) pos) (Ln r te tl th):=by
 intro pins s σ H Q I h;refine Subscript_ (bB (he pins s σ H _ I h) λv s1 ⟨x,H1,I1,r1,q1⟩=>?_)
 refine wpAny_Slice (bB (hl pins s1 σ H1 _ I1 q1) λvl s2 ⟨l,H2,I2,pl,q2⟩=>bB (hu pins s2 σ H2 _ I2 q2) λvu s3 ⟨u,H3,I3,pu,q3⟩=>?_)
 rw[evalPart_none];refine wpAny_pure ?_;have I4:Inv X pins σ H3 {s3 with heap:=s3.heap.push {cls:=.type "slice",data:=.fields #[vl,vu,.none]}}:=I3.kept (t':=s3.toks) λb ob q=>get?_push_of_some _ q
 obtain⟨T,id,hT,ht,hg⟩:=hr pins {s3 with heap:=s3.heap.push {cls:=.type "slice",data:=.fields #[vl,vu,.none]}} σ H3 x v vl vu l u s3.heap.objs.size Q I4 r1 (Heap.IsSliceOf.new ..) pl pu q3;show wpAny (model X.prog X.w) X.A (subscriptTail e (.Slice lo hi none p2) v (.ref s3.heap.objs.size)) (EP X pins σ Q) X.xe {s3 with heap:=s3.heap.push {cls:=.type "slice",data:=.fields #[vl,vu,.none]}};exact tail_any (ops:=[.ref s3.heap.objs.size,v]) ht hT hg (by with_unfolding_all rfl)
def nG(xs:List V)(lo hi:Option Int):List V:=(xs.drop (HT.sIx xs.length 0 lo)).take (HT.sIx xs.length xs.length hi-HT.sIx xs.length 0 lo)
theorem kB(xs:List V)(lo hi:Option Int):(nG xs lo hi).length<=xs.length:=by
 unfold nG;rw[List.length_take,List.length_drop]
 lia
def JV(K:PySem.W.Frag):V->Option Int->Option Int->Hp->VK->Prop:=λx lo hi H Q=>∃a xs,x=.ref a/\SqT K H a xs/\
 ¬(HT.sIx xs.length 0 lo=0/\HT.sIx xs.length xs.length hi=xs.length)/\∀p,H p=none->Q (.ref p) (upd H p (.tup (nG xs lo hi)))
theorem sl_tup:SlR X (JV X.K):=by
 intro pins s σ H x v vl vu lo hi sl Q I rx hs pl pu h;obtain⟨a,xs,rfl,hx,hw,q⟩:=h;cases rx;obtain⟨its,r,ht,hz⟩:=I.tuple hx;have hlen:its.toArray.size=xs.length:=by rw[size_toArray];exact r.length.symm
 refine⟨"tuple",_,PyProof.Rows.slot_tuple_getitem.lookup,ht.typeIs,?_⟩;refine HT.jC ht hs pl pu (by rw[hlen];exact hw) ?_ (by rw[hlen];exact hz);rw[hlen];refine⟨.ref s.heap.objs.size,_,I.laid (t':=s.toks) (o:=.tup (nG xs lo hi)) (λb ob q=>get?_push_of_some _ q) (le_refl _) ?_,rfl,q _ (I.hok.fresh (le_refl _))⟩;exact⟨Nat.le_trans (kB xs lo hi) hz,_,(r.drop (HT.sIx xs.length 0 lo)).take (HT.sIx xs.length xs.length hi-HT.sIx xs.length 0 lo),IsTup.new _ _,NoDi.new _ _⟩
def Hm(K:PySem.W.Frag):R2:=λx y H Q=>∃a b xs ys,x=.ref a/\y=.ref b/\SqT K H a xs/\SqT K H b ys/\xs≠[]/\xs.length+ys.length<=sizeLine/\
 (ys=[]->Q (.ref a) H)/\(ys≠[]->∀p,H p=none->Q (.ref p) (upd H p (.tup (xs++ys))))
theorem Vals.nil_iff{xs:List V}{us:List Value}(r:Vals xs us):us=[]↔xs=[]:=by
 cases r with
 |nil=>simp
 |cons _ _=>simp
theorem Cs:OpR X (binaryOp .Add) (Hm X.K):=by
 intro pins s σ H x y v u Q I rx ry h;obtain⟨a,b,xs,ys,rfl,rfl,ha,hb,hx,hz,q1,q2⟩:=h;cases rx;cases ry;obtain⟨its,r1,p1,_⟩:=I.tuple ha;obtain⟨its2,r2,p2,_⟩:=I.tuple hb;refine HT.Db p1 p2 (λz=>hx (r1.nil_iff.mp z)) (λz=>⟨.ref a,H,I,rfl,q1 (r2.nil_iff.mp z)⟩) (λz=>?_) (by rw[<-r1.length,<-r2.length];exact hz)
 refine⟨.ref s.heap.objs.size,_,I.laid (t':=s.toks) (o:=.tup (xs++ys)) (λb ob q=>get?_push_of_some _ q) (le_refl _) ?_,rfl,q2 (λw=>z (r2.nil_iff.mpr w)) _ (I.hok.fresh (le_refl _))⟩
 exact⟨by rw[List.length_append];exact hz,_,r1.append r2,IsTup.new _ _,NoDi.new _ _⟩
end
def Br(n:Nat)(i:Int):Option Nat:=if 0<=i then(if i<n then some i.toNat else none)else if -(n:Int)<=i then some (i+n).toNat else none
def lq{α:Type}(xs:List α)(i:Int):Option α:=(Br xs.length i).bind λj=>xs[j]?
theorem CM{n:Nat}{i:Int}{j:Nat}(h:Br n i=some j):seqIndex? i n=some j/\j<n/\ -(n:Int)<=i/\i<n:=by
 unfold Br at h;by_cases h0:0<=i
 .rw[if_pos h0]at h
  by_cases h1:i<n
  .rw[if_pos h1]at h
   have e:i.toNat=j:=Option.some.inj h;exact⟨by rw[seqIndex_of h0 h1,e],by lia,by lia,h1⟩
  .rw[if_neg h1]at h;cases h
 .rw[if_neg h0]at h
  by_cases h1:-(n:Int)<=i
  .rw[if_pos h1]at h
   have e:(i+n).toNat=j:=Option.some.inj h;exact⟨by rw[seqIndex_neg (by lia) h1,e],by lia,h1,by lia⟩
  .rw[if_neg h1]at h;cases h
theorem wD{α:Type}{xs:List α}{i:Int}{v:α}(h:lq xs i=some v):∃j,seqIndex? i xs.length=some j/\xs[j]? = some v/\j<xs.length/\ -(xs.length:Int)<=i/\i<xs.length:=by
 unfold lq at h;cases e:Br xs.length i with
 |none=>rw[e]at h;cases h
 |some j=>
  rw[e]at h;obtain⟨h1,h2,h3,h4⟩:=CM e;exact⟨j,h1,h,h2,h3,h4⟩
def wG(b:Expr):Prop:=∀o i,subscripted b false o i=operate [o,i] (getItem o i)
def IxR(X:Cx)(r:R2):Prop:=
 ∀(value slice:Expr) (pins:List (Addr×Obj)) (s:Shared) (σ:St) (H:Hp) (x y:V) (v u:Value) (Q:VK),Inv X pins σ H s->RelV x v->RelV y u->r x y H Q ->
  subscripted slice false v u=operate [v,u] (getItem v u)->wpAny (model X.prog X.w) X.A (subscriptTail value slice v u) (EP X pins σ Q) X.xe s
def KJ(X:Cx)(id:String)(r:V->List V->Hp->VK->Prop):Prop:=
 ∀(pins:List (Addr×Obj)) (s:Shared) (σ:St) (H:Hp) (x:V) (xs:List V) (v:Value) (us:List Value) (Q:VK),Inv X pins σ H s->RelV x v->Vals xs us->r x xs H Q ->
  wpAny (model X.prog X.w) X.A (call (.builtin id) (v::us)) (EP X pins σ Q) X.xe s
section
variable{X:Cx}{a b:Expr}{ta tb:TE}{pos:Pos}
theorem IxR.or{r r':R2}(h:IxR X r)(h':IxR X r'):IxR X (λx y H Q=>r x y H Q\/r' x y H Q):=by
 intro value slice pins s σ H x y v u Q I rx ry q hs;rcases q with q|q
 .exact h value slice pins s σ H x y v u Q I rx ry q hs
 .exact h' value slice pins s σ H x y v u Q I rx ry q hs
theorem Hu{r:R2}(hr:IxR X r)(ha:PE X a ta)(hb:PE X b tb)(hs:wG b):PE X (.Subscript a b pos) (G0 r ta tb):=by
 intro pins s σ H Q I h;exact Subscript_ (Ge ha hb I h λv u s2 x y H2 I2 rx ry q=>hr a b pins s2 σ H2 x y v u Q I2 rx ry q (hs _ _))
def JY(K:PySem.W.Frag):R2:=λx y H Q=>∃p xs i v,x=.ref p/\y=.int i/\SqL K H p xs/\lq xs i=some v/\Q v H
def JX(K:PySem.W.Frag):R2:=λx y H Q=>∃p xs i v,x=.ref p/\y=.int i/\SqT K H p xs/\lq xs i=some v/\Q v H
theorem ix_list:IxR X (JY X.K):=by
 intro value slice pins s σ H x y v u Q I rx ry h hs;obtain⟨p,xs,i,z,rfl,rfl,hq,he,q⟩:=h;cases rx;obtain⟨t,rfl⟩:=ry;obtain⟨its,r,pl,hz⟩:=I.list hq;obtain⟨j,h1,h2,h3,h4,h5⟩:=wD he;obtain⟨w,ew,rw'⟩:=r.get h2;have hl:=r.length;have hn:=ub;have fin:EP X pins σ Q w s:=⟨z,H,I,rw',q⟩;by_cases h0:0<=i
 .have hj:i.toNat=j:=by
   rw[seqIndex_of h0 h5]at h1;exact Option.some.inj h1
  exact item_listR pl.isList h0 (by lia) (by rw[hj];simpa using ew) fin hs
 .have hj:(i+(its.toArray.size:Int)).toNat=j:=by
   rw[seqIndex_neg (by lia) h4]at h1;rw[size_toArray,<-hl];exact Option.some.inj h1
  exact subscriptTail_builtinR (x:=w) pl.isList.typeIs slot_list_getitem.lookup
   (wpAny_getItem_list_neg (Q:=λr s'=>r=w/\EP X pins σ Q r s') pl.isList (by lia) (by rw[size_toArray]<;>lia) (by lia) (by rw[hj];simpa using ew) ⟨rfl,fin⟩) hs
theorem FN:IxR X (JX X.K):=by
 intro value slice pins s σ H x y v u Q I rx ry h hs;obtain⟨p,xs,i,z,rfl,rfl,hq,he,q⟩:=h;cases rx;obtain⟨t,rfl⟩:=ry;obtain⟨its,r,pl,hz⟩:=I.tuple hq;obtain⟨j,h1,h2,h3,h4,h5⟩:=wD he;obtain⟨w,ew,rw'⟩:=r.get h2;have hl:=r.length;have hn:=ub;have fin:EP X pins σ Q w s:=⟨z,H,I,rw',q⟩;exact subscriptTail_builtinR (x:=w) pl.typeIs slot_tuple_getitem.lookup
  (getItem_tuple (j:=j) (Q:=λr s'=>r=w/\EP X pins σ Q r s') pl (by lia) (by lia) (by rw[size_toArray,<-hl];exact h1) (by simpa using ew) ⟨rfl,fin⟩) hs
theorem pj(lo hi:Option Int)(n:Nat):(sliceBounds lo hi none n).1=((HT.sIx n 0 lo:Nat):Int)/\(sliceBounds lo hi none n).2.1=((HT.sIx n n hi:Nat):Int)/\(sliceBounds lo hi none n).2.2=1:=by
 refine⟨?_,?_,rfl⟩
 .cases lo with
  |none=>simp[sliceBounds,HT.sIx]
  |some i=>
   simp only[sliceBounds,HT.sIx,Option.getD_none,show(1:Int)>0 by decide,if_true];by_cases h:i<0
   .simp only[h,if_true]<;>lia
   .simp only[h,if_false]<;>lia
 .cases hi with
  |none=>simp[sliceBounds,HT.sIx]
  |some i=>
   simp only[sliceBounds,HT.sIx,Option.getD_none,show(1:Int)>0 by decide,if_true];by_cases h:i<0
   .simp only[h,if_true]<;>lia
   .simp only[h,if_false]<;>lia
theorem m9(its:List Value)(lo hi:Option Int):slicePick its.toArray lo hi none=((its.drop (HT.sIx its.length 0 lo)).take (HT.sIx its.length its.length hi-HT.sIx its.length 0 lo)).toArray:=by
 obtain⟨h1,h2,h3⟩:=pj lo hi its.toArray.size;unfold slicePick;rw[h1,h2,h3];simp only[sliceRange_one,pick_run,size_toArray]<;>rfl
def JW(K:PySem.W.Frag):V->Option Int->Option Int->Hp->VK->Prop:=λx lo hi H Q=>∃a xs,x=.ref a/\SqL K H a xs/\∀p,H p=none->Q (.ref p) (upd H p (.lst (nG xs lo hi)))
theorem sl_list:SlR X (JW X.K):=by
 intro pins s σ H x v vl vu lo hi sl Q I rx hs pl pu h;obtain⟨a,xs,rfl,hx,q⟩:=h;cases rx;obtain⟨its,r,ht,hz⟩:=I.list hx;have hlen:=r.length;refine⟨"list",_,slot_list_getitem.lookup,ht.isList.typeIs,?_⟩;refine wpAny_getItem_list_slice ht.isList hs pl pu .none (by simp) ?_ (by rw[size_toArray]<;>lia);rw[m9,<-hlen];refine⟨.ref s.heap.objs.size,_,I.laid (t':=s.toks) (o:=.lst (nG xs lo hi)) (λb ob q=>get?_push_of_some _ q) (le_refl _) ?_,rfl,q _ (I.hok.fresh (le_refl _))⟩;exact⟨Nat.le_trans (kB xs lo hi) hz,_,0,(r.drop (HT.sIx xs.length 0 lo)).take (HT.sIx xs.length xs.length hi-HT.sIx xs.length 0 lo),Heap.get?_push_size _ rfl⟩
def hJ:V->Bool
 |.non=>true
 |.bl _=>true
 |.int _=>true
 |.str _=>true
 |_=>false
def Bv:V->V->Bool
 |.non,.non=>true
 |.bl a,.bl b=>a==b
 |.bl a,.int b=>(if a then 1 else 0)==b
 |.int a,.bl b=>a==(if b then 1 else 0)
 |.int a,.int b=>a==b
 |.str a,.str b=>a==b
 |_,_=>false
theorem F7{A:Around}{s:Shared}{y x:V}{u v:Value}(ry:RelV y u)(rx:RelV x v)(fy:hJ y=true)(fx:hJ x=true):SeqAt.EqAt A s u v (Bv y x):=by
 cases y with
 |non=>
  cases ry;cases x with
  |non=>cases rx;exact SeqAt.EqAt.same _
  |bl b=>cases rx;exact SeqAt.EqAt.none_bool b
  |int b=>obtain⟨t,rfl⟩:=rx;exact SeqAt.EqAt.none_int b t
  |str b=>obtain⟨t,rfl⟩:=rx;exact SeqAt.EqAt.none_str b t
  |_=>exact absurd (show false=true from fx) Bool.false_ne_true
 |bl a=>
  cases ry;cases x with
  |non=>cases rx;exact SeqAt.EqAt.bool_none a
  |bl b=>cases rx;exact SeqAt.EqAt.bool_bool a b
  |int b=>obtain⟨t,rfl⟩:=rx;exact SeqAt.EqAt.bool_int a b t
  |str b=>obtain⟨t,rfl⟩:=rx;exact SeqAt.EqAt.bool_str a b t
  |_=>exact absurd (show false=true from fx) Bool.false_ne_true
 |int a=>
  obtain⟨t',rfl⟩:=ry;cases x with
  |non=>cases rx;exact SeqAt.EqAt.int_none a t'
  |bl b=>cases rx;exact SeqAt.EqAt.int_bool a t' b
  |int b=>obtain⟨t,rfl⟩:=rx;exact SeqAt.EqAt.int_int a t' b t
  |str b=>obtain⟨t,rfl⟩:=rx;exact SeqAt.EqAt.int_str a t' b t
  |_=>exact absurd (show false=true from fx) Bool.false_ne_true
 |str a=>
  obtain⟨t',rfl⟩:=ry;cases x with
  |non=>cases rx;exact SeqAt.EqAt.str_none a t'
  |bl b=>cases rx;exact SeqAt.EqAt.str_bool a t' b
  |int b=>obtain⟨t,rfl⟩:=rx;exact SeqAt.EqAt.str_int a t' b t
  |str b=>obtain⟨t,rfl⟩:=rx;exact SeqAt.EqAt.str_str a t' b t
  |_=>exact absurd (show false=true from fx) Bool.false_ne_true
 |_=>exact absurd (show false=true from fy) Bool.false_ne_true
def uw(x:V)(u:Value):Bool:=match u with
 |.none=>Bv .non x
 |.bool b=>Bv (.bl b) x
 |.int i _=>Bv (.int i) x
 |.str z _=>Bv (.str z) x
 |_=>false
theorem AR{x y:V}{u:Value}(r:RelV y u)(f:hJ y=true):uw x u=Bv y x:=by
 cases y with
 |non=>cases r;rfl
 |bl b=>cases r;rfl
 |int i=>obtain⟨t,rfl⟩:=r;rfl
 |str z=>obtain⟨t,rfl⟩:=r;rfl
 |_=>exact absurd (show false=true from f) Bool.false_ne_true
theorem jK{x:V}:∀{xs:List V} {us:List Value},Vals xs us->xs.all hJ=true->us.any (uw x)=xs.any λy=>Bv y x
 |_,_,.nil,_=>rfl
 |y::xs,u::us,.cons r t,f=>by
  rw[List.all_cons,Bool.and_eq_true]at f;rw[List.any_cons,List.any_cons,AR r f.1,jK t f.2]
theorem gU{A:Around}{s:Shared}{x:V}{v:Value}(rx:RelV x v)(fx:hJ x=true):∀{xs:List V} {us:List Value},Vals xs us->xs.all hJ=true->∀u∈us,SeqAt.EqAt A s u v (uw x u)
 |_,_,.nil,_=>λu hu=>by cases hu
 |y::xs,u::us,.cons r t,f=>λu' hu=>by
  rw[List.all_cons,Bool.and_eq_true]at f;rcases List.mem_cons.mp hu with rfl|hu
  .rw[AR r f.1];exact F7 r rx f.1 fx
  .exact gU rx fx t f.2 u' hu
def Jm(x:V)(xs:List V):Bool:=xs.any λy=>Bv y x
def Jd(K:PySem.W.Frag)(neg:Bool):R2:=λx y H Q=>∃p xs,y=.ref p/\(SqL K H p xs\/SqT K H p xs)/\hJ x=true/\xs.all hJ=true/\Q (.bl (if neg then !Jm x xs else Jm x xs)) H
theorem xj:OpR X (compareOp .In) (Jd X.K false):=by
 intro pins s σ H x y v u Q I rx ry h;obtain⟨p,xs,rfl,hq,fx,fs,q⟩:=h;cases ry;rcases hq with hq|hq
 .obtain⟨its,r,pl,hz⟩:=I.list hq
  refine SeqAt.in_listAt (uw x) pl.isList (λw hw=>gU rx fx r fs w (by simpa using hw)) ⟨.bl _,H,I,rfl,?_⟩
  rw[show its.toArray.any (uw x)=its.any (uw x) by simp,jK r fs];exact q
 .obtain⟨its,r,pl,hz⟩:=I.tuple hq
  refine SeqAt.in_tupleAt (uw x) pl (λw hw=>gU rx fx r fs w (by simpa using hw)) ⟨.bl _,H,I,rfl,?_⟩
  rw[show its.toArray.any (uw x)=its.any (uw x) by simp,jK r fs];exact q
theorem pH:OpR X (compareOp .NotIn) (Jd X.K true):=by
 intro pins s σ H x y v u Q I rx ry h;obtain⟨p,xs,rfl,hq,fx,fs,q⟩:=h;cases ry;rcases hq with hq|hq
 .obtain⟨its,r,pl,hz⟩:=I.list hq
  refine SeqAt.notIn_listAt (uw x) pl.isList (λw hw=>gU rx fx r fs w (by simpa using hw)) ⟨.bl _,H,I,rfl,?_⟩
  rw[show its.toArray.any (uw x)=its.any (uw x) by simp,jK r fs];exact q
 .obtain⟨its,r,pl,hz⟩:=I.tuple hq
  refine SeqAt.notIn_tupleAt (uw x) pl (λw hw=>gU rx fx r fs w (by simpa using hw)) ⟨.bl _,H,I,rfl,?_⟩
  rw[show its.toArray.any (uw x)=its.any (uw x) by simp,jK r fs];exact q
theorem qk:CallR X (.type "list") (λxs H Q=>∃p ys,xs=[.ref p]/\(SqL X.K H p ys\/SqT X.K H p ys)/\∀l,H l=none->Q (.ref l) (upd H l (.lst ys))):=by
 intro pins s σ H xs us Q I r h;obtain⟨p,ys,rfl,hq,q⟩:=h;obtain⟨u,rfl,rx⟩:=jb r;cases rx;have fin:∀(its:List Value),Vals ys its->ys.length<=sizeLine->∀(h':Heap) (c':Nat),(∀b o',s.heap.get? b=some o'->h'.get? b=some o')->
   h'.get? s.heap.objs.size=some {cls:=.type "list",dict:=none,data:=.seq its.toArray c',slots:=#[]}->EP X pins σ Q (.ref s.heap.objs.size) {s with heap:=h'}:=λits r' hz h' c' kp e=>
  ⟨.ref s.heap.objs.size,_,I.laid (t':=s.toks) kp (le_refl _) (show ObjOk X.prog X.w _ h' _ (.lst ys)from ⟨hz,its,c',r',e⟩),rfl,q _ (I.hok.fresh (le_refl _))⟩
 rcases hq with hq|hq
 .obtain⟨its,r',pl,hz⟩:=I.list hq
  have hlen:=r'.length;obtain⟨o,ho,hc,n,hd⟩:=pl.isList;exact call_list_seq p (.inl rfl) ho hc hd (λh' c' kp e=>fin its r' hz h' c' kp e) (by simp only[size_toArray]<;>lia)
 .obtain⟨its,r',pl,hz⟩:=I.tuple hq
  have hlen:=r'.length;obtain⟨o,ho,hc,n,hd⟩:=pl;exact call_list_seq p (.inr rfl) ho hc hd (λh' c' kp e=>fin its r' hz h' c' kp e) (by simp only[size_toArray]<;>lia)
theorem nJ:CallR X (.type "tuple") (λxs H Q=>∃p ys,xs=[.ref p]/\((SqL X.K H p ys/\∀l,H l=none->Q (.ref l) (upd H l (.tup ys)))\/(SqT X.K H p ys/\Q (.ref p) H))):=by
 intro pins s σ H xs us Q I r h;obtain⟨p,ys,rfl,h⟩:=h;obtain⟨u,rfl,rx⟩:=jb r;cases rx;rcases h with⟨hq,q⟩|⟨hq,q⟩
 .obtain⟨its,r',pl,hz⟩:=I.list hq
  have hlen:=r'.length;refine call_tuple_list pl.isList (λh' kp=>?_) (by simp only[size_toArray]<;>lia);have I1:Inv X pins σ H {s with heap:=h'}:=I.kept (t':=s.toks) kp;have I2:Inv X pins σ (upd H h'.objs.size (.tup ys)) {s with heap:=h'.push {cls:=.type "tuple",data:=.seq its.toArray}}:=
   I1.laid (t':=s.toks) (λb o e=>get?_push_of_some _ e) (le_refl _) (show ObjOk X.prog X.w _ _ _ (.tup ys)from ⟨hz,its,r',IsTup.new _ _,NoDi.new _ _⟩)
  exact⟨.ref h'.objs.size,_,I2,rfl,q _ (I1.hok.fresh (le_refl _))⟩
 .obtain⟨its,r',pl,hz⟩:=I.tuple hq
  exact call_tuple_same pl ⟨.ref p,H,I,rfl,q⟩
def Jx(K:PySem.W.Frag)(T:String)(x:V)(H:Hp):Prop:=match x with
 |.str _=>T = "str"
 |.int _=>T = "int"
 |.ref p=>(T = "list"/\ ∃xs,SqL K H p xs)\/(T = "tuple"/\ ∃o,K.lookup p=some o/\o.cls=.type "tuple"/\ o.dict=none)\/
   (T = "dict"/\ ((∃kvs,H p=some (.dK kvs))\/∃kvs,H p=some (.dT kvs)))\/(T = "set"/\ ∃S n,H p=some (.set S n))
 |_=>False
theorem yn{pins:List (Addr×Obj)}{σ:St}{H:Hp}{s:Shared}{T:String}{x:V}{v:Value}(I:Inv X pins σ H s)(r:RelV x v)(ty:Jx X.K T x H):
  s.TypeIs v T/\∀a,v=.ref a->∃ob,s.heap.get? a=some ob/\ob.dict=none:=by
 cases x with
 |str z=>
  obtain⟨t,rfl⟩:=r;cases(show T = "str" from ty);exact⟨typeIs_str s z t,λ_ e=>nomatch e⟩
 |int i=>
  obtain⟨t,rfl⟩:=r;cases(show T = "int" from ty);exact⟨typeIs_int s i t,λ_ e=>nomatch e⟩
 |ref p=>
  cases r;rcases ty with⟨rfl,xs,hq⟩|⟨rfl,o,hk,hc,hd⟩|⟨rfl,hk⟩|⟨rfl,S,n,hk⟩
  .obtain⟨its,_,pl,_⟩:=I.list hq
   refine⟨pl.isList.typeIs,λa e=>?_⟩
   cases e;obtain⟨o,n,e,c,hd,_⟩:=pl;exact⟨o,e,hd⟩
  .refine⟨⟨o,I.kIn p o hk,hc⟩,λa e=>?_⟩
   cases e;exact⟨o,I.kIn _ o hk,hd⟩
  .have z:∃o,s.heap.get? p=some o/\o.ExactDict:=by
    rcases hk with⟨kvs,hk⟩|⟨kvs,hk⟩
    .obtain⟨_,_,_,_,o,_,_,e,ex,_⟩:=I.hok p _ hk
     exact⟨o,e,ex⟩
    .obtain⟨_,_,_,_,o,_,_,e,ex,_⟩:=I.hok p _ hk
     exact⟨o,e,ex⟩
   obtain⟨o,e,ex⟩:=z;refine⟨⟨o,e,ex.1⟩,λa e2=>?_⟩
   cases e2;exact⟨o,e,ex.2.1⟩
  .obtain⟨o,_,_,_,e,ex,_⟩:=I.hok p _ hk
   refine⟨⟨o,e,ex.1⟩,λa e2=>?_⟩
   cases e2;exact⟨o,e,ex.2.1⟩
 |_=>exact False.elim ty
def JK(K:PySem.W.Frag)(T:String)(r:V->List V->Hp->VK->Prop)(to:TE):TE:=λσ H Q=>to σ H λx H1=>Jx K T x H1/\r x [] H1 Q
def Lr(K:PySem.W.Frag)(T:String)(r:V->List V->Hp->VK->Prop)(to:TE)(t:TA):TE:=λσ H Q=>to σ H λx H1=>Jx K T x H1/\t σ H1 λxs H2=>r x xs H2 Q
variable{o e:Expr}{es:List Expr}{to:TE}{t:TA}{name:Str}{apos cpos:Pos}{T id:String}{r:V->List V->Hp->VK->Prop}
theorem Fa(pa:PlainAttrs T)(slot:Slot T name id)(hty:typeOf (.builtin id)=pure (.type "method_descriptor"))(hm:KJ X id r)(ho:PE X o to)
  (hbase:attributeBase o name X.env (eval o X.env)=eval o X.env:=by rfl) (hline:(apos.endLine==cpos.line)=true:=by rfl):PE X (.Call (.Attribute o name apos) [] [] cpos) (JK X.K T r to):=by
 intro pins s σ H Q I h;refine wpAny_Call_method0_late hbase hline (bB (ho pins s σ H _ I h) λv s1 ⟨x,H1,I1,r1,ty,q1⟩=>?_)
 obtain⟨h1,h2⟩:=yn I1 r1 ty;exact⟨T,id,pa,slot,hty,h1,h2,Calls.callWith_builtin rfl (PySem.evalArgs_none (hm pins s1 σ H1 x [] v [] Q I1 r1 .nil q1))⟩
theorem DG(pa:PlainAttrs T)(slot:Slot T name id)(hty:typeOf (.builtin id)=pure (.type "method_descriptor"))(hm:KJ X id r)(ho:PE X o to)(ha:PA X (e::es) t)
  (hbase:attributeBase o name X.env (eval o X.env)=eval o X.env:=by rfl)
  (hfew:((backTo cpos (starEach (e::es) X.env)).all (λx=>!x.1)&&(backToKw cpos (keywordEach [] X.env)).all (λx=>x.1.isSome)
   && decide ((e::es).length+([]:List Keyword).length+(if([]:List Keyword).isEmpty then 0 else 1)<30))=true:=by rfl)
  (hline:(apos.endLine==cpos.line)=true:=by rfl) (hs:starEach (e::es) X.env=(false,eval e X.env)::starEach es X.env:=by rfl) (hplain:(backTo cpos (starEach es X.env)).any (·.1)=false:=by rfl):
  PE X (.Call (.Attribute o name apos) (e::es) [] cpos) (Lr X.K T r to t):=by
 intro pins s σ H Q I h;refine wpAny_Call_method_late hbase hfew hline rfl (bB (ho pins s σ H _ I h) λv s1 ⟨x,H1,I1,r1,ty,q1⟩=>?_)
 obtain⟨h1,h2⟩:=yn I1 r1 ty;refine⟨T,id,pa,slot,hty,h1,h2,?_⟩;have hA:=ha cpos pins s1 σ H1 _ I1 q1;rw[hs]at hA ⊢;refine Calls.callWith_builtin (by show(false||(backTo cpos (starEach es X.env)).any (·.1))=false;rw[hplain]<;>rfl) (Calls.evalArgs_plain ?_);exact bB hA λus s2 ⟨vs,H2,I2,r2,q2⟩=>hm pins s2 σ H2 x vs v us Q I2 r1 r2 q2
end
def Lc(X:Cx)(id:String)(r:V->List V->Hp->VK->Prop):Prop:=
 ∀(pins:List (Addr×Obj)) (s:Shared) (σ:St) (H:Hp) (x:V) (xs:List V) (v:Value) (us:List Value) (Q:VK),Inv X pins σ H s->RelV x v->Vals xs us->r x xs H Q ->
  wpAny (model X.prog X.w) X.A (call (.builtin id) (v::us)) (EP X pins σ Q) X.xe s
theorem Vals.one:∀{x:V} {us:List Value},Vals [x] us->∃u,us=[u]/\RelV x u
 |_,_,h=>by
  cases h with
  |cons r t=>
   cases t;exact⟨_,rfl,r⟩
section
variable{X:Cx}{pins:List (Addr×Obj)}{σ:St}{H:Hp}{s:Shared}{l b:Addr}{xs ys zs:List V}
theorem Inv.lset{its its':List Value}{n:Nat}{f:Array Value->Array Value}{t':Nat}(I:Inv X pins σ H s)(hH:H l=some (.lst xs))
  (e:s.heap.get? l=some {cls:=.type "list",data:=.seq its.toArray n}) (hf:f its.toArray=its'.toArray) (hv:Vals ys its') (hz:ys.length<=sizeLine):
  Inv X pins σ (upd H l (.lst ys)) {s with heap:=s.heap.update l (Obj.mapSeq f),toks:=t'}:=by
 have q:=PySem.IsL.update e f;rw[hf]at q;refine I.write (x:=l) (e:=l) (by rw[hH];exact trivial) (.inl rfl) (λb' u hb hu=>(Heap.get?_update_other s.heap (Obj.mapSeq f) (Ne.symm hb)).trans hu) ⟨_,q⟩ ?_
 exact⟨hz,its',_,hv,q⟩
theorem Inv.lnew{its:List Value}{t':Nat}(I:Inv X pins σ H s)(hv:Vals ys its)(hz:ys.length<=sizeLine):
  Inv X pins σ (upd H s.heap.objs.size (.lst ys)) {s with heap:=s.heap.push {cls:=.type "list",data:=.seq its.toArray},toks:=t'}:=
 I.laid (λ_ _ q=>get?_push_of_some _ q) (le_refl _) ⟨hz,its,0,hv,Heap.get?_push_size _ rfl⟩
theorem Inv.fresh(I:Inv X pins σ H s):H s.heap.objs.size=none:=I.hok.fresh (le_refl _)
theorem Inv.lstM(I:Inv X pins σ H s)(hH:H l=some (.lst xs)):xs.length<=sizeLine/\∃(its:List Value) (n:Nat),Vals xs its/\xs.length=its.length/\s.heap.get? l=some {cls:=.type "list",data:=.seq its.toArray n}:=by
 obtain⟨z,its,n,r,e⟩:=I.hok l _ hH;exact⟨z,its,n,r,r.length,e⟩
theorem zO{n:Nat}(h:n<=sizeLine):Builtin.List.listTooLong n=false:=by
 unfold Builtin.List.listTooLong;exact decide_eq_false (by lia)
end
section
variable{X:Cx}
def Ca:V->List V->Hp->VK->Prop:=λx vs H Q=>∃l xs y,x=.ref l/\vs=[y]/\H l=some (.lst xs)/\xs.length<sizeLine/\Q .non (upd H l (.lst (xs++[y])))
theorem xn:Lc X "list.append" Ca:=by
 intro pins s σ H x vs v us Q I rx rv h;obtain⟨l,xs,y,rfl,rfl,hH,hz,q⟩:=h;cases rx;obtain⟨u,rfl,ru⟩:=rv.one;obtain⟨z,its,n,r,hl,e⟩:=I.lstM hH;refine call_meets F.slot_list_append ⟨_,e,rfl⟩ F.entry_list_append (F.args_list_append_2 _ _) (PySem.list_append l its.toArray n u (by rw[size_toArray];lia)) ⟨e,?_⟩;refine⟨.non,_,I.lset (its':=its++[u]) hH e (by simp) (r.append (.cons ru .nil)) ?_,rfl,q⟩;rw[List.length_append,List.length_singleton]
 lia
end
end L2
namespace Att
open PySem PySem.W PySem.Calls PyProof.Rows
theorem kN{P:Params}{h:Heap}:∀(ns:List Int) (vs:List Value),WellAll P h vs (ns.map WData.int)->IntsAre vs ns:=by
 intro ns
 induction ns with
 |nil=>
  intro vs w;rw[List.map_nil]at w;cases w;exact .nil
 |cons n ns ih=>
  intro vs w;rw[List.map_cons]at w;cases w with
  |cons a b=>
   cases a;exact .cons _ _ (ih _ b)
theorem wT{l:OpenLaw}{n:Nat}(hn:l.most=some n){P:Params}{h:Heap}{args:List WData}{vals:List Value}
  (hpre:l.row.toRowW.claim.pre args=true) (hwl:WellAll P h vals args):
  ∃a vs ns,vals=[Value.ref a]/\args=[WData.list (ns.map WData.int)]/\h.get? a=some {cls:=.type "list",data:=.seq vs.toArray}/\IntsAre vs ns/\ns.length<=n:=by
 have hsh:WShape.hasAll [] args [.list .int]=true:=(pre_splitW hpre).1;have hc:l.pre.holds [] {args:=args}=true:=(pre_splitW hpre).2;obtain⟨d,r,rfl,h1,h2⟩:=hasAllW_cons hsh;obtain rfl:=hasAllW_nil h2;obtain⟨xs,rfl,h3⟩:=hasW_list h1;obtain⟨ns,rfl⟩:=items_int h3;have hlen:ns.length<=n:=by
  unfold OpenLaw.pre at hc;have h4:(WTm.not (.lt (.lit (.int (n:Int))) (.len (.arg 0)))).holds [] {args:=[.list (ns.map .int)]}=true:=by
   have h4:=(holds_andW hc).1;rw[hn]at h4;exact h4
  have h5:=condW_of h4 (w_not (w_lt w_lit (w_len_list (w_arg rfl))));rw[List.length_map]at h5;refine Nat.le_of_not_lt λq=>?_
  have q':(n:Int)<((ns.length:Nat):Int):=by lia
  first
   | (rw[decide_eq_true q']at h5;exact absurd h5 (by decide))
   | (simp at h5;lia)
 cases hwl with
 |cons w1 w2=>
  cases w2;cases w1 with
  |list ho hall=>exact⟨_,_,ns,rfl,rfl,ho,kN ns _ hall,hlen⟩
theorem w9(l:OpenLaw)(args:List WData):l.row.toRowW.claim.post args (.bool true) args=true:=
 postW_of (r:=l.row.toRowW) (X:=(true==true))
  (show WShape.has [] (.bool true) .bool=true by first|rfl|decide|simp[WShape.has,WShape.arms,WShape.armsAll])
  (show(WTm.eq .res (.lit (.bool true))).value [] {args:=args,res:=some (.bool true),after:=args}=some (.bool (true==true))from w_eq_bool (w_res rfl) w_lit) rfl
theorem sR{l:OpenLaw}{n:Nat}{q:Program}{loose:List Str}{XP:(Str->Option Value)->Heap->Prop}{YP:World->Heap->Prop}{d:DefRec}
  (hn:l.most=some n) (hdf:d.params.defaults=[])
  (call:∀(w:World) (s₀ s₁:Shared) (mg mb:Str->Option Value) (fa:Addr) (o:Obj) (pm cd doc:Value) (a:Addr) (vs:List Value) (ns:List Int),
   Ground q loose [] XP w s₀ mg mb s₁.heap->YP w s₁.heap ->
   s₁.heap.get? fa=some o->o.data=.func (docDef d.name d.params d.body d.scope pm cd doc)->s₁.heap.CodeRec cd d.name->mg d.name=some (.ref fa)->
   s₁.heap.get? a=some {cls:=.type "list",data:=.seq vs.toArray}->IntsAre vs ns->ns.length<=n->s₁.gens = #[] ->
   codeAny (model l.prog w) callerA (.call (.ref fa) ⟨[.ref a],[]⟩) (λr s'=>r=.ok (.ret (.bool true))/\OldK s₁.heap s'.heap/\s'.os=s₁.os/\AllBare s'.gens) s₁):
  WalkO q loose XP YP l.row.toRowW d [] (λf vs=>PySem.call f vs):=by
 intro w s₀ s₁ mg mb G Y fa o pm cd doc dV kV ho hd hcd hD hmg hg args vals as hpre hlay hrd hwl hlo;obtain rfl:dV=.none:=Dflts.none hD hdf;obtain rfl:kV=.none:=Dflts.noKw hD;obtain⟨a,vs,ns,rfl,rfl,hobj,hints,hlen⟩:=wT hn hpre hwl;refine enter_call (codeAny_mono (call w s₀ s₁ mg mb fa o pm cd doc a vs ns G Y ho (fd_plain hd) hcd hmg hobj hints hlen hg) λr s' hq=>?_)
 obtain⟨rfl,h2,h3,h4⟩:=hq;exact⟨.inl ⟨.bool true,.bool true,[],rfl,λ_=>rfl,.bool true,w9 l _,λ_=>⟨List.Pairwise.nil,λ_ hm=>(nomatch hm)⟩⟩,h2,h3,h4⟩
section
variable{prog:Program}{w:World}{A:Around}{E:Value->Shared->Prop}{s:Shared}{K:Frag}
def Kb(h:Heap)(L d:Addr):List (Addr×Obj):=(List.range h.objs.size).filterMap λa=>if a=L\/a=d then none else(h.get? a).map λo=>(a,o)
end
end Att
namespace L2
open PySem PySem.Spec PyProof.Rows
open PySem.W (tabIn tabObj tab_of)
theorem cK:∀{vs:List Value} {ns:List Int},IntsAre vs ns->Vals (ns.map V.int) vs
 |_,_,.nil=>.nil
 |_,_,.cons n t h=>.cons ⟨t,rfl⟩ (cK h)
def Gv(H:Hp):Prop:=∀b,H b=none\/(∃o xs,H b=some (.frz o (.lst xs)))\/∃ps,H b=some (.tbl ps)
def cL(K:PySem.W.Frag):List Addr:=lamDefs.filterMap λx=>(tabIn K x).map (·.2)
theorem nY{K:PySem.W.Frag}{x:Str}{c P:Addr}(hx:x∈lamDefs)(e:tabIn K x=some (c,P)):P∈cL K:=List.mem_filterMap.mpr ⟨x,hx,by rw[e];rfl⟩
theorem Ac{P:Program}{w:World}{K:PySem.W.Frag}{mg mb:Str->Option Value}{CX:uN}{k:Nat}{fa a:Addr}{fd:FuncData}{x:Str}{sp:Sp}{s₁:Shared}{vs:List Value}{ns:List Int}
  (KX:K.In s₁.heap) (hns:s₁.heap.Ns mainGlobals mg) (hb:s₁.heap.Ns builtinsNs mb) (hbb:∀x:Str,x≠"__name__" -> mb x=bootBuiltins x) (hlim:s₁.heap.NoLimit) (hbm:BMain s₁.heap mg) (hTk:∀P∈cL K,s₁.heap.get? P=some (tabObj #[])/\isCodeTable s₁.heap P) (hTn:∀P∈cL K,K.lookup P=none) (hTc:∀x∈lamDefs,∀c P,tabIn K x=some (c,P)->PySem.W.CodeHd s₁.heap c P) (hg:s₁.gens = #[])
  (ha:s₁.heap.get? a=some {cls:=.type "list",data:=.seq vs.toArray}) (hi:IntsAre vs ns) (hl:ns.length<=sizeLine) (hr:Room k callerA)
  (F:∀base:Heap,K.In base->base.Ns mainGlobals mg->FnOk P w K mg base CX k fa fd [x] sp) (hbind:∀(s:Shared) (u:Value),BindsTo s fd ⟨[u],[]⟩ [(x,u)])
  (hsp:∀H:Hp,Gv H->SqL K H a (ns.map V.int)->sp [.ref a] H (λv _=>v=.bl true) λ_ _ _=>False)
  (hCX:∀H e s',CX [] H s₁ (λ_ _ _=>False) e s'->False):
  codeAny (model P w) callerA (.call (.ref fa) ⟨[.ref a],[]⟩) (λr s'=>r=.ok (.ret (.bool true))/\OldK s₁.heap s'.heap/\s'.os=s₁.os/\AllBare s'.gens) s₁:=by
 have rv:=cK hi;have lenV:=hi.length;have core:∀H:Hp,Gv H->SqL K H a (ns.map V.int)->HOk P w H s₁.heap->(∀b,H b≠none->b=a\/b∈cL K)->(∀b,H b≠none->K.lookup b=none)->Dl K H ->
   codeAny (model P w) callerA (.call (.ref fa) ⟨[.ref a],[]⟩) (λr s'=>r=.ok (.ret (.bool true))/\OldK s₁.heap s'.heap/\s'.os=s₁.os/\AllBare s'.gens) s₁:=by
  intro H hO hS hok hA hK hTB;have base_of:∀{b:Addr} {o:Obj},s₁.heap.get? b=some o->H b=none->(mm s₁.heap H).get? b=some o:=λe n=>Aw e n
  have noA:∀{b:Addr} {o:Obj} {es:Array DictEntry} {ep:Nat},s₁.heap.get? b=some o->o.data=.dict es ep->H b=none:=λ{b o es ep} e d=>by
   cases q:H b with
   |none=>rfl
   |some u=>
    rcases hA b (by rw[q];simp)with e' | e'
    .subst e'
     rw[ha]at e;cases e;have d':Data.seq vs.toArray _=Data.dict es ep:=d;cases d'
    .rw[(hTk b e').1]at e;cases e;cases d
  have nsK:∀{b:Addr} {m:Str->Option Value},s₁.heap.Ns b m->(mm s₁.heap H).Ns b m:=λ{b m} ⟨o,es,ep,e,d,r⟩=>⟨o,es,ep,base_of e (noA e d),d,r⟩
  have hKb:K.In (mm s₁.heap H):=λb o e=>base_of (KX b o e) (by
   cases q:H b with
   |none=>rfl
   |some u=>
    rw[hK b (by rw[q];simp)]at e;cases e)
  have hbm':BMain (mm s₁.heap H) mg:=by
   obtain⟨bm,ob,b1,b2,b3,b4,b5,b6⟩:=hbm;refine⟨bm,ob,b1,b2,base_of b3 ?_,b4,b5,b6⟩;cases q:H bm with
   |none=>rfl
   |some u=>
    rcases hA bm (by rw[q];simp)with e' | e'
    .subst e'
     rw[ha]at b3;cases b3;exact absurd (Value.type.inj b4) (by decide)
    .rw[(hTk bm e').1]at b3;cases b3;cases b4
  have hTc':∀x∈lamDefs,∀c P,tabIn K x=some (c,P)->PySem.W.CodeHd (mm s₁.heap H) c P:=λx hx c P e=>by
   obtain⟨o,vs,file,tf,flags,tg,inF,text,tt,e1,r⟩:=hTc x hx c P e;refine⟨o,vs,file,tf,flags,tg,inF,text,tt,base_of e1 ?_,r⟩;cases q:H c with
   |none=>rfl
   |some u=>
    obtain⟨o',h'⟩:=tu e;rw[hK c (by rw[q];simp)]at h';cases h'
  have hM:Mod K mg (mm s₁.heap H):=⟨hKb,nsK hns,⟨mb,nsK hb,hbb⟩,(let ⟨mc,h1,h2⟩:=hlim; ⟨mc,nsK h1,h2⟩),hbm',hTc'⟩;have e0:Env0 P w K mg (mm s₁.heap H) callerA [] s₁ H:=⟨rfl,hM,λb o e=>Cu e,Nat.le_of_eq (xJ _ _),trivial,λb hb=>absurd (show b∈([]:List Addr)from hb) (by simp),hok,.of_eq hg,hTB⟩
  refine codeAny_mono ((F _ hKb (nsK hns)).run callerA [] s₁ H ⟨[.ref a],[]⟩ [.ref a] [.ref a] _ _ hr e0 (hbind s₁ (.ref a)) (.cons rfl .nil) (hsp H hO hS)) λr s' h=>?_
  cases r with
  |error e=>exact(hCX H e s' h).elim
  |ok fl=>
   cases fl with
   |next=>exact False.elim h
   |brk=>exact False.elim h
   |cont=>exact False.elim h
   |ret u=>
    obtain⟨v,H',os,bare,un,hok',r',q⟩:=h;have q':v=.bl true:=q;subst q';obtain rfl:u=Value.bool true:=r';have all:∀b o,s₁.heap.get? b=some o->s'.heap.get? b=some o\/(b∈cL K/\∃ps,s'.heap.get? b=some (tabObj ps)):=λb o e=>by
     cases q:H b with
     |none=>exact .inl (un.keep b o e q (by intro z;exact absurd (show b∈([]:List Addr)from z) (by simp)) (by simp))
     |some u=>
      rcases hO b with z|⟨ob,xs,z⟩|⟨ps,z⟩
      .rw[q]at z;cases z
      .have z2:=un.frzs b ob _ z
       obtain⟨e1,_⟩:=hok b _ z;obtain⟨e2,_⟩:=hok' b _ z2;rw[e]at e1;cases e1;exact .inl e2
      .obtain⟨m,z2⟩:=un.tbls b ps z
       obtain⟨ps',e2,_⟩:=hok' b _ z2;rcases hA b (by rw[q];simp)with e' | e'
       .obtain⟨ps0,e0',_⟩:=hok b _ z
        subst e';rw[ha]at e0';cases e0'
       .exact .inr ⟨e',ps',e2⟩
    refine⟨rfl,⟨λb o e=>?_,λb o e=>?_⟩,os,bare⟩
    .rcases all b o e with z|⟨hb,ps,z⟩
     .exact .inl z
     .obtain⟨g1,g2⟩:=hTk b hb
      rw[e]at g1;cases g1;exact .inr (.inl ⟨g2,rfl,#[],ps,rfl,by rw[Array.empty_append];exact z⟩)
    .rcases all b o e with z|⟨hb,ps,z⟩
     .exact⟨_,z⟩
     .exact⟨_,z⟩
 cases hk:K.lookup a with
 |some o=>
  have e:=KX a o hk;rw[ha]at e;cases e;refine core (λb=>if b∈cL K then some (.tbl #[])else none) (λb=>?_) (.inr ⟨_,vs.toArray,_,hk,rfl,rfl,rfl,by rw[List.size_toArray,lenV];exact hl,by simpa using rv⟩) (λb u z=>?_) (λb z=>?_) (λb z=>?_) λx hx c P e=>⟨#[],if_pos (nY hx e)⟩
  .by_cases hb:b∈cL K
   .exact .inr (.inr ⟨_,if_pos hb⟩)
   .exact .inl (if_neg hb)
  .by_cases hb:b∈cL K
   .have z':=(if_pos hb).symm.trans z
    cases z';exact⟨#[],(hTk b hb).1,trivial,λpos cv q=>nomatch q⟩
   .have z':=(if_neg hb).symm.trans z
    cases z'
  .by_cases hb:b∈cL K
   .exact .inr hb
   .exact absurd (if_neg hb) z
  .by_cases hb:b∈cL K
   .exact hTn b hb
   .exact absurd (if_neg hb) z
 |none=>
  have hat:a∉cL K:=λhb=>by
   have:=(hTk a hb).1;rw[ha]at this;cases this
  refine core (λb=>if b=a then some (.frz {cls:=.type "list",data:=.seq vs.toArray} (.lst (ns.map V.int)))else if b∈cL K then some (.tbl #[])else none) (λb=>?_) (.inl (.inr ⟨{cls:=.type "list",data:=.seq vs.toArray},if_pos rfl⟩)) (λb u z=>?_) (λb z=>?_) (λb z=>?_) λx hx c P e=>⟨#[],?_⟩
  .by_cases hb:b=a
   .exact .inr (.inl ⟨_,_,if_pos hb⟩)
   .by_cases hc:b∈cL K
    .exact .inr (.inr ⟨_,(if_neg hb).trans (if_pos hc)⟩)
    .exact .inl ((if_neg hb).trans (if_neg hc))
  .by_cases hb:b=a
   .have z':=(if_pos hb).symm.trans z
    cases z';subst hb;exact⟨ha,by rw[List.length_map];exact hl,vs,_,rv,ha⟩
   .have z':=(if_neg hb).symm.trans z
    by_cases hc:b∈cL K
    .have z':=(if_pos hc).symm.trans z'
     cases z';exact⟨#[],(hTk b hc).1,trivial,λpos cv q=>nomatch q⟩
    .have z':=(if_neg hc).symm.trans z'
     cases z'
  .by_cases hb:b=a
   .exact .inl hb
   .by_cases hc:b∈cL K
    .exact .inr hc
    .exact absurd ((if_neg hb).trans (if_neg hc)) z
  .by_cases hb:b=a
   .subst hb;exact hk
   .by_cases hc:b∈cL K
    .exact hTn b hc
    .exact absurd ((if_neg hb).trans (if_neg hc)) z
  .have hP:=nY hx e
   have hb:P≠a:=λz=>hat (z ▸ hP)
   exact(if_neg hb).trans (if_pos hP)
abbrev LS{K:PySem.W.Frag}{h:Heap}(_:K.In h):PySem.W.Frag:=K
theorem Bx{l:PySem.W.OpenLaw}{n k:Nat}{q:Program}{loose:List Str}{XP:(Str->Option Value)->Heap->Prop}{YP:World->Heap->Prop}{d:DefRec}{K:Params->PySem.W.Frag}{CX:World->uN}{sp:World->Sp}{x:Str}
  (hn:l.most=some n) (hn2:n<=sizeLine) (hdf:d.params.defaults=[]) (hr:Room k callerA)
  (hY:∀(w:World) (h:Heap),YP w h->(K w.params).In h)
  (F:∀(w:World) (mg:Str->Option Value) (fa:Addr) (h:Heap),(K w.params).In h->h.Ns mainGlobals mg->mg d.name=some (.ref fa)->
   ∃fd:FuncData,(∀(s:Shared) (u:Value),BindsTo s fd ⟨[u],[]⟩ [(x,u)])/\
    ∀base:Heap,(K w.params).In base->base.Ns mainGlobals mg->FnOk l.prog w (K w.params) mg base (CX w) k fa fd [x] (sp w))
  (hsp:∀(w:World) (H:Hp) (a:Addr) (ns:List Int),ns.length<=n->Gv H->SqL (K w.params) H a (ns.map V.int)->sp w [.ref a] H (λv _=>v=.bl true) λ_ _ _=>False)
  (hCX:∀(w:World) (H:Hp) (s:Shared) (e:Value) (s':Shared),CX w [] H s (λ_ _ _=>False) e s'->False)
  (hTd:∀(w:World),∀x∈lamDefs,tabIn (K w.params) x=none\/∃d',(recsOf q).find? (λe=>e.name==x)=some d') (hTn:∀(w:World),∀P∈cL (K w.params),(K w.params).lookup P=none):
  PySem.W.WalkO q loose XP YP l.row.toRowW d [] (λf vs=>PySem.call f vs):=by
 refine Att.sR hn hdf λw s₀ s₁ mg mb fa o pm cd doc a vs ns G Y ho hd hcd hmg hobj hints hlen hg=>?_
 have KX:=hY w _ Y;obtain⟨fd,hb,hF⟩:=F w mg fa _ KX G.T.g hmg;have hTk:∀P∈cL (K w.params),s₁.heap.get? P=some (tabObj #[])/\isCodeTable s₁.heap P:=λP hP=>by
  obtain⟨x,hx,e⟩:=List.mem_filterMap.mp hP;rcases hTd w x hx with z|⟨d',z⟩
  .rw[z]at e;cases e
  .cases e2:tabIn (K w.params) x with
   |none=>rw[e2]at e;cases e
   |some cp=>
    rw[e2]at e;cases e;obtain⟨g1,g2⟩:=tab_of G.T KX z e2;exact⟨g2,(g1.tab g2).isCodeTable⟩
 have hTc:∀x∈lamDefs,∀c P,tabIn (K w.params) x=some (c,P)->PySem.W.CodeHd s₁.heap c P:=λx hx c P e=>by
  rcases hTd w x hx with z|⟨d',z⟩
  .rw[z]at e;cases e
  .exact(tab_of G.T KX z e).1
 exact Ac KX G.T.g G.T.b G.T.builtins G.T.nolimit G.T.bmain hTk (hTn w) hTc hg hobj hints (Nat.le_trans hlen hn2) hr hF hb (λH hO hS=>hsp w H a ns hlen hO hS) λH e s'=>hCX w H s₁ e s'
def eU(s:Stmt):Arguments:=match s with
 |.FunctionDef _ a _ _ _ _ _ _ _ _=>a
 |_=>{posonlyargs:=[],args:=[],vararg:=none,kwonlyargs:=[],kw_defaults:=[],kwarg:=none,defaults:=[]}
def ck(s:Stmt):List Stmt:=match s with
 |.FunctionDef _ _ b _ _ _ _ _ _ _=>b
 |_=>[]
def aj(s:Stmt):Scope:=match s with
 |.FunctionDef _ _ _ _ _ _ sc _ _ _=>sc
 |_=>{kind:=.function,names:=[],isGenerator:=false,isCoroutine:=false}
abbrev dH:uN:=λ_ _ _ _ _ _=>False
abbrev E0:XK:=λ_ _ _=>False
theorem vh{X:Cx}:qA dH X E0:=λ_ _ _ _ _ _ _ h=>h.elim
def Same(H H':Hp):Prop:=∀b o,H b=some o->H' b=some o
theorem Same.refl(H:Hp):Same H H:=λ_ _ h=>h
theorem Same.trans{H H1 H2:Hp}(a:Same H H1)(b:Same H1 H2):Same H H2:=λc o h=>b c o (a c o h)
end L2
set_option maxHeartbeats 4000000
namespace VL
open PySem L2
abbrev D:=PyData
inductive Oc where
 |l (ds:List D)|d (es:List (aw×D))
inductive Sl where
 |un|fz (d:D)|own (c:Oc)|fr (ds:List D)
abbrev Sl.ow(ds:List D):Sl:=.own (.l ds)
abbrev Sl.od(es:List (aw×D)):Sl:=.own (.d es)
def jy:aw->D
 |.inl i=>.int i
 |.inr x=>.str x
def Kk(n:Str)(ds:List (Str×D)):List (D×D):=(.str "ins",.str n)::ds.map λq=>(.str q.1,q.2)
def gE(es:List (aw×Int)):List (D×D):=es.map λp=>(jy p.1,.int p.2)
abbrev Dv:=List Sl
inductive Fl where
 |nx|bk|ct|rt (d:D)
abbrev Sf:=Dv->Option (Fl×Dv)
@[simp] def o2(f1 f2:Dv->Option D)(g:D->D->Option D):Dv->Option D:=λδ=>(f1 δ).bind λx=>(f2 δ).bind λy=>g x y
@[simp] def o1(f:Dv->Option D)(g:D->Option D):Dv->Option D:=λδ=>(f δ).bind g
@[simp] def os(f:Dv->Option (List D))(g:List D->Option D):Dv->Option D:=λδ=>(f δ).bind g
def asB:D->Option Bool
 |.bool b=>some b
 |_=>none
@[simp] theorem Bh(b:Bool):asB (.bool b)=some b:=rfl
@[simp] def ob(f:Dv->Option D):Dv->Option Bool:=λδ=>(f δ).bind asB
@[simp] def Fs(t u:Dv->Option Bool):Dv->Option Bool:=λδ=>(t δ).bind λb=>if b=true then u δ else some false
@[simp] def nr(t u:Dv->Option Bool):Dv->Option Bool:=λδ=>(t δ).bind λb=>if b=true then some true else u δ
@[simp] def gS(t:Dv->Option Bool):Dv->Option Bool:=λδ=>(t δ).map (!·)
@[simp] def oy(f1 f2:Dv->Option D):Dv->Option D:=λδ=>(f1 δ).bind λx=>(asB x).bind λb=>if b=true then f2 δ else some (.bool false)
@[simp] def LD(f1 f2:Dv->Option D):Dv->Option D:=λδ=>(f1 δ).bind λx=>(asB x).bind λb=>if b=true then some (.bool true)else f2 δ
@[simp] def xm(d:D):Option D:=(asB d).map λb=>.bool (!b)
@[simp] def Jh(t:Dv->Option Bool)(f1 f2:Dv->Option D):Dv->Option D:=λδ=>(t δ).bind λb=>if b=true then f1 δ else f2 δ
def Du:Option Sl->Option D
 |some (.fz d)=>some d
 |some (.fr ds)=>some (.list ds)
 |_=>none
@[simp] theorem JO(ds:List D):Du (some (.fr ds))=some (.list ds):=rfl
@[simp] theorem yN(d:D):Du (some (.fz d))=some d:=rfl
@[simp] def oV(i:Nat):Dv->Option D:=λδ=>Du δ[i]?
@[simp] def oC(d:D):Dv->Option D:=λ_=>some d
@[simp] def ap:Dv->Option (List D):=λ_=>some []
@[simp] def af(f:Dv->Option D)(fs:Dv->Option (List D)):Dv->Option (List D):=λδ=>(f δ).bind λx=>(fs δ).bind λxs=>some (x::xs)
def bM(ds:List D):Option D:=if ds.length<=sizeLine then some (.tuple ds)else none
def rN(ds:List D):Option D:=if ds.length<=sizeLine then some (.list ds)else none
theorem kX{ds:List D}(h:ds.length<=16777216):bM ds=some (.tuple ds):=if_pos h
@[simp] theorem KW:bM []=some (.tuple []):=rfl
@[simp] theorem KU(a:D):bM [a]=some (.tuple [a]):=kX (by simp)
@[simp] theorem KS(a b:D):bM [a,b]=some (.tuple [a,b]):=kX (by simp)
@[simp] theorem KR(a b c:D):bM [a,b,c]=some (.tuple [a,b,c]):=kX (by simp)
@[simp] theorem K7:rN []=some (.list []):=rfl
instance (i j:Int):Decidable (IntMulOk i j):=by unfold IntMulOk;infer_instance
def iI(g:Int->Int->Int):D->D->Option D
 |.int i,.int j=>some (.int (g i j))
 |_,_=>none
def iC(C:Int->Int->Bool)(g:Int->Int->Int):D->D->Option D
 |.int i,.int j=>if C i j=true then some (.int (g i j))else none
 |_,_=>none
def iB(g:Int->Int->Bool):D->D->Option D
 |.int i,.int j=>some (.bool (g i j))
 |_,_=>none
@[simp] theorem Km(g:Int->Int->Int)(i j:Int):iI g (.int i) (.int j)=some (.int (g i j)):=rfl
@[simp] theorem Kn(g:Int->Int->Bool)(i j:Int):iB g (.int i) (.int j)=some (.bool (g i j)):=rfl
theorem ml{C:Int->Int->Bool}{g:Int->Int->Int}{i j:Int}(h:C i j=true):iC C g (.int i) (.int j)=some (.int (g i j)):=if_pos h
def KB(i j:Int):Bool:=decide (IntMulOk i j)
def KD(i j:Int):Bool:=decide (0<j/\j<1073741824)
def KC(i j:Int):Bool:=decide (0<j)
def KA(i j:Int):Bool:=decide (0<=j/\(Builtin.Int.intBits i:Int)+j<=2^27)
def Kz(i j:Int):Bool:=decide (0<=j)
abbrev yC:=iI λi j=>i-j
abbrev gC:=iC KB λi j=>i*j
abbrev iz:=iC KD λi j=>i/j
abbrev bA:=iC KC λi j=>i%j
abbrev kF:=iC KA λi j=>i*2^j.toNat
abbrev tJ:=iC Kz λi j=>i/2^j.toNat
abbrev Dg:=iI Builtin.bitAnd
abbrev K6:=iI Builtin.bitOr
abbrev sV:=iI Builtin.bitXor
abbrev HN:=iB λi j=>decide (i<j)
abbrev K8:=iB λi j=>decide (i<=j)
abbrev um:=iB λi j=>decide (j<i)
@[simp] theorem lR{i j:Int}(h:IntMulOk i j):gC (.int i) (.int j)=some (.int (i*j)):=ml (decide_eq_true h)
@[simp] theorem IE{i j:Int}(h:0<j)(h2:j<1073741824):iz (.int i) (.int j)=some (.int (i/j)):=ml (decide_eq_true ⟨h,h2⟩)
@[simp] theorem rH{i j:Int}(h:0<j):bA (.int i) (.int j)=some (.int (i%j)):=ml (decide_eq_true h)
theorem yQ{i j:Int}(h:0<=j)(h2:(Builtin.Int.intBits i:Int)+j<=2^27):kF (.int i) (.int j)=some (.int (i*2^j.toNat)):=ml (decide_eq_true ⟨h,h2⟩)
@[simp] theorem yP{i j:Int}(h:0<=j):tJ (.int i) (.int j)=some (.int (i/2^j.toNat)):=ml (decide_eq_true h)
def negD:D->Option D
 |.int i=>some (.int (-i))
 |_=>none
@[simp] theorem HG(i:Int):negD (.int i)=some (.int (-i)):=rfl
def cG:D->D->Option D
 |.int i,.int j=>some (.int (i+j))
 |.str x,.str y=>if x.length+y.length<=sizeLine then some (.str (x++y))else none
 |.list xs,.list ys=>if xs.length+ys.length<=sizeLine then some (.list (xs++ys))else none
 |.tuple xs,.tuple ys=>if xs.length+ys.length<=sizeLine then some (.tuple (xs++ys))else none
 |_,_=>none
@[simp] theorem IQ(i j:Int):cG (.int i) (.int j)=some (.int (i+j)):=rfl
def shp(d:D):Bool:=PySem.SeqAt.shaped d
def iy:D->D->Option D:=λa b=>if shp a=true/\shp b=true then some (.bool (PyData.eqv a b))else none
def neD:D->D->Option D:=λa b=>if shp a=true/\shp b=true then some (.bool (!PyData.eqv a b))else none
@[simp] theorem C5(i j:Int):iy (.int i) (.int j)=some (.bool (i==j)):=rfl
@[simp] theorem Ji(i j:Int):neD (.int i) (.int j)=some (.bool (!(i==j))):=rfl
@[simp] theorem IB(i j:Bool):iy (.bool i) (.bool j)=some (.bool (i==j)):=rfl
@[simp] theorem HI(i j:Bool):neD (.bool i) (.bool j)=some (.bool (!(i==j))):=rfl
def DT(d:D):Bool:=match d with
 |.none=>true
 |_=>false
def isD:D->D->Option D:=λa b=>match b with
 |.none=>some (.bool (DT a))
 |_=>none
def r8:D->D->Option D:=λa b=>match b with
 |.none=>some (.bool (!DT a))
 |_=>none
@[simp] theorem H9(a:D):isD a .none=some (.bool (DT a)):=rfl
@[simp] theorem FR(a:D):r8 a .none=some (.bool (!DT a)):=rfl
@[simp] theorem H0:DT .none=true:=rfl
@[simp] theorem Jl(i:Int):DT (.int i)=false:=rfl
def aI:D->D->Option D
 |.list xs,.int i=>lq xs i
 |.tuple xs,.int i=>lq xs i
 |_,_=>none
@[simp] theorem HY(xs:List D)(i:Int):aI (.list xs) (.int i)=lq xs i:=rfl
@[simp] theorem GH(xs:List D)(i:Int):aI (.tuple xs) (.int i)=lq xs i:=rfl
theorem i8{α:Type}{xs:List α}{i:Int}{j:Nat}{v:α}(hi:i=j)(h:xs[j]? = some v):lq xs i=some v:=by
 have hl:j<xs.length:=(List.getElem?_eq_some_iff.mp h).1;subst hi;unfold lq Br;rw[if_pos (by lia),if_pos (by lia)];simpa using h
@[simp] theorem LR{α:Type}(a:α)(r:List α):lq (a::r) 0=some a:=i8 (j:=0) rfl rfl
@[simp] theorem LQ{α:Type}(a b:α)(r:List α):lq (a::b::r) 1=some b:=i8 (j:=1) rfl rfl
@[simp] theorem LP{α:Type}(a b c:α)(r:List α):lq (a::b::c::r) 2=some c:=i8 (j:=2) rfl rfl
@[simp] theorem LO{α:Type}(a b c d:α)(r:List α):lq (a::b::c::d::r) 3=some d:=i8 (j:=3) rfl rfl
@[simp] theorem LN{α:Type}(a b c d e:α)(r:List α):lq (a::b::c::d::e::r) 4=some e:=i8 (j:=4) rfl rfl
@[simp] theorem LM{α:Type}(a b c d e f:α)(r:List α):lq (a::b::c::d::e::f::r) 5=some f:=i8 (j:=5) rfl rfl
def eY:List D->Option D
 |[.list xs]=>some (.int xs.length)
 |[.tuple xs]=>some (.int xs.length)
 |_=>none
@[simp] theorem GG(xs:List D):eY [.list xs]=some (.int xs.length):=rfl
@[simp] theorem FB(xs:List D):eY [.tuple xs]=some (.int xs.length):=rfl
def J5:List D->Option D
 |[.int i,.int j]=>some (.int (if j<i then j else i))
 |_=>none
def J6:List D->Option D
 |[.int i,.int j]=>some (.int (if j>i then j else i))
 |_=>none
@[simp] theorem HL(i j:Int):J5 [.int i,.int j]=some (.int (if j<i then j else i)):=rfl
@[simp] theorem HM(i j:Int):J6 [.int i,.int j]=some (.int (if j>i then j else i)):=rfl
def Id:List D->Option D
 |[.int i]=>some (.int i)
 |[.bool b]=>some (.int (if b then 1 else 0))
 |_=>none
@[simp] theorem Ic(i:Int):Id [.int i]=some (.int i):=rfl
@[simp] theorem GJ(b:Bool):Id [.bool b]=some (.int (if b then 1 else 0)):=rfl
def jr:List D->Option D
 |[.list xs]=>some (.list xs)
 |[.tuple xs]=>some (.list xs)
 |_=>none
@[simp] theorem FA(xs:List D):jr [.list xs]=some (.list xs):=rfl
@[simp] theorem DN(xs:List D):jr [.tuple xs]=some (.list xs):=rfl
def di:List D->Option D
 |[.list xs]=>some (.tuple xs)
 |[.tuple xs]=>some (.tuple xs)
 |_=>none
@[simp] theorem Dq(xs:List D):di [.list xs]=some (.tuple xs):=rfl
@[simp] theorem BA(xs:List D):di [.tuple xs]=some (.tuple xs):=rfl
def mS:D->Option D
 |.int i=>some (.int (Builtin.Int.intBits i))
 |_=>none
@[simp] theorem xZ(i:Int):mS (.int i)=some (.int (Builtin.Int.intBits i)):=rfl
def tyN:D->String
 |.none=>"NoneType"
 |.bool _=>"bool"
 |.int _=>"int"
 |.str _=>"str"
 |.list _=>"list"
 |.tuple _=>"tuple"
 |.dict _=>"dict"
def FT(t T:String):Bool:=t==T||(t == "bool" && T == "int")
def vF:D->Bool
 |.dict _=>true
 |_=>false
def gg(T:String)(d:D):Option D:=if vF d=true then none else if T = "int"\/ T = "bool"\/ T = "str"\/ T = "list"\/ T = "tuple" then some (.bool (FT (tyN d) T))else none
@[simp] theorem DS(i:Int):gg "int" (.int i)=some (.bool true):=rfl
@[simp] theorem CS(i:Int):gg "bool" (.int i)=some (.bool false):=rfl
@[simp] theorem CQ(i:Bool):gg "int" (.bool i)=some (.bool true):=rfl
@[simp] theorem Bt(i:Bool):gg "bool" (.bool i)=some (.bool true):=rfl
@[simp] theorem yj(xs:List D):gg "tuple" (.tuple xs)=some (.bool true):=rfl
@[simp] theorem Bs(xs:List D):gg "list" (.list xs)=some (.bool true):=rfl
@[simp] def bi(f:Dv->Option D):Sf:=λδ=>(f δ).bind λd=>some (.rt d,δ)
@[simp] def aK(i:Nat)(f:Dv->Option D):Sf:=λδ=>(f δ).bind λd=>some (.nx,δ.set i (.fz d))
@[simp] def Dy(f:Dv->Option D):Sf:=λδ=>(f δ).bind λ_=>some (.nx,δ)
@[simp] def iP:Sf:=λδ=>some (.nx,δ)
@[simp] def LK:Sf:=λδ=>some (.bk,δ)
@[simp] def LJ:Sf:=λδ=>some (.ct,δ)
@[simp] def ay(s t:Sf):Sf:=λδ=>(s δ).bind λr=>match r with
 | (.nx,δ')=>t δ'
 |r=>some r
@[simp] def dX(t:Dv->Option Bool)(u w:Sf):Sf:=λδ=>(t δ).bind λc=>if c=true then u δ else w δ
def nE(i:Nat)(δ:Dv):Dv:=match δ[i]? with
 |some (.own (.l ds))=>δ.set i (.fz (.list ds))
 |_=>δ
@[simp] def gN(i:Nat):D->Dv->Option Dv:=λd δ=>some (δ.set i (.fz d))
def loop(g:D->Dv->Option Dv)(b:Sf):List D->Sf
 |[],δ=>some (.nx,δ)
 |d::ds,δ=>(g d δ).bind λδ1=>(b δ1).bind λr=>match r with
  | (.nx,δ2)=>loop g b ds δ2
  | (.ct,δ2)=>loop g b ds δ2
  | (.bk,δ2)=>some (.nx,δ2)
  | (.rt x,δ2)=>some (.rt x,δ2)
@[simp] theorem HQ(g:D->Dv->Option Dv)(b:Sf)(δ:Dv):loop g b [] δ = some (.nx,δ):=rfl
@[simp] def dF(f:Dv->Option (List D))(g:D->Dv->Option Dv)(b:Sf):Sf:=λδ=>(f δ).bind λds=>loop g b ds δ
def e8(t:Dv->Option Bool)(b:Sf):Nat->Sf
 | 0,_=>none
 |n+1,δ=>(t δ).bind λc=>if c=true then(b δ).bind λr=>match r with
   | (.nx,δ2)=>e8 t b n δ2
   | (.ct,δ2)=>e8 t b n δ2
   | (.bk,δ2)=>some (.nx,δ2)
   | (.rt x,δ2)=>some (.rt x,δ2)
  else some (.nx,δ)
def wV(lo:Int)(n:Nat):List D:=(List.range n).map λk=>.int (lo+(k:Nat))
def d6:List D->Option (List D)
 |[.int j]=>if j<2^62/\ -(2^62)<=j then some (wV 0 j.toNat)else none
 |_=>none
theorem wX{j:Int}(h:j<4611686018427387904)(h2:-4611686018427387904<=j):d6 [.int j]=some (wV 0 j.toNat):=if_pos ⟨h,h2⟩
@[simp] def oL(fs:Dv->Option (List D))(g:List D->Option (List D)):Dv->Option (List D):=λδ=>(fs δ).bind g
def aV:D->Option (List D)
 |.list xs=>some xs
 |.tuple xs=>some xs
 |_=>none
@[simp] theorem GI(xs:List D):aV (.list xs)=some xs:=rfl
@[simp] theorem FQ(xs:List D):aV (.tuple xs)=some xs:=rfl
def zT:D->Option (List D)
 |.list xs=>some xs
 |_=>none
def Jz:D->Option (List D)
 |.tuple xs=>some xs
 |_=>none
@[simp] def oI(f:Dv->Option D)(g:D->Option (List D)):Dv->Option (List D):=λδ=>(f δ).bind g
def rngN(lo hi st:Int):Nat:=if lo<hi then((hi-lo-1)/st+1).toNat else 0
def oj(lo st:Int)(n:Nat):List D:=(List.range n).map λk=>.int (lo+(k:Nat)*st)
def om:List D->Option (List D)
 |[.int i,.int j,.int k]=>if -(2^40)<=i/\i<2^40/\ -(2^40)<=j/\j<2^40/\0<k/\k<2^20 then some (oj i k (rngN i j k))else none
 |_=>none
theorem wW{i j k:Int}(h:-1099511627776<=i/\i<1099511627776/\ -1099511627776<=j/\j<1099511627776/\0<k/\k<1048576):om [.int i,.int j,.int k]=some (oj i k (rngN i j k)):=if_pos h
@[simp] def J4:Dv->Option (Option Int):=λ_=>some none
def asI:D->Option (Option Int)
 |.int i=>some (some i)
 |_=>none
@[simp] theorem Jt(i:Int):asI (.int i)=some (some i):=rfl
@[simp] def oP(f:Dv->Option D):Dv->Option (Option Int):=λδ=>(f δ).bind asI
def nH(xs:List D)(lo hi:Option Int):List D:=(xs.drop (HT.sIx xs.length 0 lo)).take (HT.sIx xs.length xs.length hi-HT.sIx xs.length 0 lo)
def EA:D->Option Int->Option Int->Option D
 |.list xs,lo,hi=>some (.list (nH xs lo hi))
 |.tuple xs,lo,hi=>some (.tuple (nH xs lo hi))
 |_,_,_=>none
@[simp] def Jf(f:Dv->Option D)(l u:Dv->Option (Option Int)):Dv->Option D:=λδ=>(f δ).bind λx=>(l δ).bind λi=>(u δ).bind λj=>EA x i j
def aJ(N:List Str)(as:List D):Dv:=as.map .fz++List.replicate (N.length-as.length) .un
def bC(N:List Str)(n:Nat)(b:Sf):List D->Option D:=λas=>if as.length=n then(b (aJ N as)).bind λr=>match r with
  | (.rt d,_)=>some d
  | (.nx,_)=>some .none
  |_=>none
 else none
end VL
namespace VL
open PySem PySem.Spec PyProof.Rows L2
open PySem.W (callWith_K codeIn excIn findIn hideAll keepIn kia_one kitOne kla_obj looks_findIn mg_of mroIn of_hideAll subIn tabIn)
open List (all_cons append_nil getElem?_append_left getElem?_append_right getElem?_map getElem?_replicate getElem?_set_ne getElem?_set_self lookup_cons mem_append_right size_toArray)
open Nat (le_refl le_trans lt_irrefl lt_of_lt_of_le ne_of_lt zero_le)
open PySem.Heap (get?_push_of_some get?_push_size get?_update_other lt_size)
abbrev Fg:=PySem.W.Frag
abbrev St:=L2.St
def mG(a C:Addr):HO:=.ext λh=>∃o,h.get? a=some o/\o.cls=.ref C/\∃vs,o.data=.fields vs/\vs[2]? = some .none
theorem Rd.same{H H':Hp}{a:Addr}{u:HO}(h:Rd H a u)(s:Same H H'):Rd H' a u:=by
 rcases h with h|⟨o,h⟩
 .exact .inl (s _ _ h)
 .exact .inr ⟨o,s _ _ h⟩
inductive FI (K:Fg) (Z:Hp):V->D->Prop
 |int (i:Int):FI K Z (.int i) (.int i)
 |pair {b:Addr} {i j:Int}:SqT K Z b [.int i,.int j]->FI K Z (.ref b) (.tuple [.int i,.int j])
inductive FF (K:Fg) (Z:Hp):V->D->Prop
 |int (i:Int):FF K Z (.int i) (.int i)
 |lst {b:Addr} {xs:List V} {ds:List D}:Z b=some (.lst xs)->Paired (FI K Z) xs ds->FF K Z (.ref b) (.list ds)
inductive LamIs:Str->Arguments->Expr->Scope->Prop
 |id {p q:Pos} {m:List (Str×Const)}:LamIs "<lambda> id" {posonlyargs:=[],args:=[{arg:="tie",annotation:=none,pos:=p}],vararg:=none,kwonlyargs:=[],kw_defaults:=[],kwarg:=none,defaults:=[]} (.Name "tie" q)
   {kind:=.function,names:=[("tie",.local)],isGenerator:=false,isCoroutine:=false,more:=m}
 |xor {p p' q q' r:Pos} {m:List (Str×Const)}:LamIs "<lambda> xor" {posonlyargs:=[],args:=[{arg:="tie",annotation:=none,pos:=p},{arg:="other",annotation:=none,pos:=p'}],vararg:=none,kwonlyargs:=[],kw_defaults:=[],kwarg:=none,defaults:=[]}
   (.BinOp (.Name "tie" q) .BitXor (.Name "other" q') r) {kind:=.function,names:=[("tie",.local),("other",.local)],isGenerator:=false,isCoroutine:=false,more:=m}
def Bp(n:Str)(ob:Obj)(c:Addr):Prop:=∃(qual:Str) (params:Arguments) (body:Expr) (scope:Scope) (pm ctv:Value),ob=kla_obj "<lambda>" qual params body scope [] pm c ctv/\LamIs n params body scope
inductive Opq (K:Fg) (Z:Hp) (a:Addr):List (D×D)->Prop
 |lam {n:Str} {ob:Obj} {c:Addr}:PySem.W.nsIn K mainGlobals n=some none->Bp n ob c->Z a=some (.frz ob (.cod c))->Opq K Z a [(.str "fn",.str n)]
 |exc {n:Str} {C:Addr}:PySem.W.nsIn K mainGlobals n=some (some (.ref C))->Rd Z a (mG a C)->Opq K Z a [(.str "exc",.str n)]
 |fn {n:Str}:PySem.W.nsIn K mainGlobals n=some (some (.ref a))->Opq K Z a [(.str "fn",.str n)]
 |ins {n:Str} {C dx:Addr} {fs:List (Str×V)} {ds:List (Str×D)}:PySem.W.nsIn K mainGlobals n=some (some (.ref C))->Z a=some (.ins C dx fs)->Paired (λ(p:Str×V) (q:Str×D)=>p.1=q.1/\FF K Z p.2 q.2) fs ds->Opq K Z a (Kk n ds)
 |dct {kvs:List (D×D)} {es:List (aw×Int)}:kvs=gE es->Z a=some (.dK (es.map λp=>(p.1,V.int p.2)))->Opq K Z a kvs
theorem qc{es:List (aw×Int)}{a:D}{x:Str}{r:List (D×D)}(h:(a,PyData.str x)::r=gE es):False:=by
 cases es with
 |nil=>cases h
 |cons e es=>simp[gE]at h
theorem SqT.same{K:Fg}{H H':Hp}{a:Addr}{xs:List V}(h:SqT K H a xs)(s:Same H H'):SqT K H' a xs:=by
 rcases h with h|h
 .exact .inl (Rd.same h s)
 .exact .inr h
theorem FI.same{K:Fg}{Z Z':Hp}(s:Same Z Z'){v:V}{d:D}(h:FI K Z v d):FI K Z' v d:=by
 cases h with
 |int i=>exact .int i
 |pair q=>exact .pair (SqT.same q s)
theorem FF.same{K:Fg}{Z Z':Hp}(s:Same Z Z'){v:V}{d:D}(h:FF K Z v d):FF K Z' v d:=by
 cases h with
 |int i=>exact .int i
 |lst q r=>exact .lst (s _ _ q) (Paired.mapP r λ_ _=>FI.same s)
theorem Opq.same{K:Fg}{Z Z':Hp}{a:Addr}{kvs:List (D×D)}(s:Same Z Z')(h:Opq K Z a kvs):Opq K Z' a kvs:=by
 cases h with
 |lam h1 h2 h3=>exact .lam h1 h2 (s _ _ h3)
 |exc h1 h2=>exact .exc h1 (Rd.same h2 s)
 |fn h1=>exact .fn h1
 |ins h1 h2 h3=>exact .ins h1 (s _ _ h2) (Paired.mapP h3 λ_ _ q=>⟨q.1,q.2.same s⟩)
 |dct h1 h2=>exact .dct h1 (s _ _ h2)
mutual
inductive Rep (K:Fg) (Z:Hp):V->D->Prop
 |non:Rep K Z .non .none
 |bl (b:Bool):Rep K Z (.bl b) (.bool b)
 |int (i:Int):Rep K Z (.int i) (.int i)
 |str (x:Str):Rep K Z (.str x) (.str x)
 |tup {a:Addr} {xs:List V} {ds:List D}:SqT K Z a xs->Reps K Z xs ds->Rep K Z (.ref a) (.tuple ds)
 |lst {a:Addr} {xs:List V} {ds:List D}:SqL K Z a xs->Reps K Z xs ds->Rep K Z (.ref a) (.list ds)
 |opq {a:Addr} {kvs:List (D×D)}:Opq K Z a kvs->Rep K Z (.ref a) (.dict kvs)
 |gdc {a:Addr} {kvs:List (aw×V)} {es:List (aw×D)} {l:List (D×D)}:Z a=some (.dK kvs)->es.map (·.1)=kvs.map (·.1)->Reps K Z (kvs.map (·.2)) (es.map (·.2))->l=es.map (λp=>(jy p.1,p.2))->Rep K Z (.ref a) (.dict ((.none,.none)::l))
inductive Reps (K:Fg) (Z:Hp):List V->List D->Prop
 |nil:Reps K Z [] []
 |cons {v:V} {d:D} {vs:List V} {ds:List D}:Rep K Z v d->Reps K Z vs ds->Reps K Z (v::vs) (d::ds)
end
theorem SqL.same{K:Fg}{H H':Hp}{a:Addr}{xs:List V}(h:SqL K H a xs)(s:Same H H'):SqL K H' a xs:=by
 rcases h with h|h
 .exact .inl (Rd.same h s)
 .exact .inr h
mutual
theorem Rep.same{K:Fg}{Z Z':Hp}(s:Same Z Z'):∀{v:V} {d:D},Rep K Z v d->Rep K Z' v d
 |_,_,.non=>.non
 |_,_,.bl b=>.bl b
 |_,_,.int i=>.int i
 |_,_,.str x=>.str x
 |_,_,.tup h r=>.tup (SqT.same h s) (Reps.same s r)
 |_,_,.lst h r=>.lst (SqL.same h s) (Reps.same s r)
 |_,_,.opq h=>.opq (Opq.same s h)
 |_,_,.gdc h k r e=>.gdc (s _ _ h) k (Reps.same s r) e
theorem Reps.same{K:Fg}{Z Z':Hp}(s:Same Z Z'):∀{vs:List V} {ds:List D},Reps K Z vs ds->Reps K Z' vs ds
 |_,_,.nil=>.nil
 |_,_,.cons h r=>.cons (Rep.same s h) (Reps.same s r)
end
theorem Reps.length{K:Fg}{Z:Hp}:∀{vs:List V} {ds:List D},Reps K Z vs ds->vs.length=ds.length
 |_,_,.nil=>rfl
 |_,_,.cons _ r=>congrArg (· + 1) (Reps.length r)
theorem Reps.get{K:Fg}{Z:Hp}:∀{vs:List V} {ds:List D} {i:Nat} {d:D},Reps K Z vs ds->ds[i]? = some d->∃v,vs[i]? = some v/\Rep K Z v d
 |_,_,_,_,.nil,e=>by simp at e
 |_,_,0,_,.cons r _,e=>by simp at e;subst e;exact⟨_,rfl,r⟩
 |_,_,i+1,d,.cons _ t,e=>by
  obtain⟨u,h1,h2⟩:=Reps.get (i:=i) (d:=d) t (by simpa using e);exact⟨u,by simpa using h1,h2⟩
theorem Reps.getV{K:Fg}{Z:Hp}:∀{vs:List V} {ds:List D} {i:Nat} {v:V},Reps K Z vs ds->vs[i]? = some v->∃d,ds[i]? = some d/\Rep K Z v d
 |_,_,_,_,.nil,e=>by simp at e
 |_,_,0,_,.cons r _,e=>by simp at e;subst e;exact⟨_,rfl,r⟩
 |_,_,i+1,v,.cons _ t,e=>by
  obtain⟨u,h1,h2⟩:=Reps.getV (i:=i) (v:=v) t (by simpa using e);exact⟨u,by simpa using h1,h2⟩
theorem Reps.append{K:Fg}{Z:Hp}:∀{xs ys:List V} {us ws:List D},Reps K Z xs us->Reps K Z ys ws->Reps K Z (xs++ys) (us++ws)
 |_,_,_,_,.nil,s=>s
 |_,_,_,_,.cons r t,s=>.cons r (Reps.append t s)
theorem Reps.take{K:Fg}{Z:Hp}:∀{xs:List V} {us:List D} (n:Nat),Reps K Z xs us->Reps K Z (xs.take n) (us.take n)
 |_,_,0,_=>.nil
 |_,_,_+1,.nil=>.nil
 |_,_,n+1,.cons r t=>.cons r (Reps.take n t)
theorem Reps.drop{K:Fg}{Z:Hp}:∀{xs:List V} {us:List D} (n:Nat),Reps K Z xs us->Reps K Z (xs.drop n) (us.drop n)
 |_,_,0,r=>r
 |_,_,_+1,.nil=>.nil
 |_,_,n+1,.cons _ t=>Reps.drop n t
theorem Rep.int_eq{K:Fg}{Z:Hp}{v:V}{i:Int}(h:Rep K Z v (.int i)):v=.int i:=by cases h;rfl
theorem Rep.bl_eq{K:Fg}{Z:Hp}{v:V}{b:Bool}(h:Rep K Z v (.bool b)):v=.bl b:=by cases h;rfl
theorem Reps.ints{K:Fg}{Z:Hp}:∀ns:List Int,Reps K Z (ns.map V.int) (ns.map PyData.int)
 |[]=>.nil
 |n::r=>.cons (.int n) (Reps.ints r)
mutual
theorem Rep.reads{X:Cx}{pins:List (Addr×Obj)}{σ:St}{H Z:Hp}{s:Shared}(I:Inv X pins σ H s)(zh:Same Z H):∀{v:V} {d:D} {u:Value},Rep X.K Z v d->RelV v u->d.canLay0=true->∃as,Reads s.heap u d as
 |_,_,u,.non,r,_=>by cases(show u=Value.none from r);exact⟨_,.none⟩
 |_,_,u,.bl b,r,_=>by cases(show u=Value.bool b from r);exact⟨_,.bool b⟩
 |_,_,u,.int i,r,_=>by obtain⟨t,rfl⟩:=(show ∃t,u=Value.int i t from r);exact⟨_,.int i t⟩
 |_,_,u,.str x,r,_=>by obtain⟨t,rfl⟩:=(show ∃t,u=Value.str x t from r);exact⟨_,.str x t⟩
 |_,_,u,.tup (a:=a) h q,r,hc=>by
  cases(show u=Value.ref a from r);obtain⟨its,rv,ht,_⟩:=I.tuple (SqT.same h zh);obtain⟨as,ra⟩:=Reps.reads I zh q rv hc;obtain⟨o,e,c,n,dd⟩:=ht;exact⟨_,reads_tuple_at e c dd (by simpa using ra)⟩
 |_,_,u,.lst (a:=a) h q,r,hc=>by
  cases(show u=Value.ref a from r);obtain⟨its,rv,ht,_⟩:=I.list (SqL.same h zh);obtain⟨as,ra⟩:=Reps.reads I zh q rv hc;obtain⟨o,n,e,c,_,dd⟩:=ht;exact⟨_,reads_list_at e c dd (by simpa using ra)⟩
 |_,_,u,.opq h,r,hc=>by cases hc
 |_,_,u,.gdc h k q e,r,hc=>by cases hc
theorem Reps.reads{X:Cx}{pins:List (Addr×Obj)}{σ:St}{H Z:Hp}{s:Shared}(I:Inv X pins σ H s)(zh:Same Z H):∀{vs:List V} {ds:List D} {us:List Value},Reps X.K Z vs ds->Vals vs us->PyData.canLayAll0 ds=true->∃as,ReadsAll s.heap us ds as
 |_,_,_,.nil,.nil,_=>⟨_,.nil⟩
 |_,_,_,.cons h q,.cons r t,hc=>by
  have hc':=Bool.and_eq_true_iff.mp hc;obtain⟨as,ha⟩:=Rep.reads I zh h r hc'.1;obtain⟨bs,hb⟩:=Reps.reads I zh q t hc'.2;exact⟨_,.cons ha hb⟩
end
def Cw:HO->Bool
 |.frz _ (.lst _)=>false
 |_=>true
def NoF(Z Z':Hp):Prop:=∀b o xs,Z' b=some (.frz o (.lst xs))->Z b=some (.frz o (.lst xs))
theorem NoF.refl(Z:Hp):NoF Z Z:=λ_ _ _ e=>e
theorem NoF.trans{Z Z1 Z2:Hp}(a:NoF Z Z1)(b:NoF Z1 Z2):NoF Z Z2:=λc o xs e=>a c o xs (b c o xs e)
theorem NoF.upd{Z Z':Hp}(a:NoF Z Z')(p:Addr){u:HO}(hu:Cw u=true:=by rfl):NoF Z (upd Z' p u):=λb o xs e=>by
 by_cases hb:b=p
 .subst hb
  rw[av]at e;cases e;cases hu
 .rw[aq hb]at e
  exact a b o xs e
structure New (Z H Z' H':Hp):Prop where
 z:Same Z Z'
 h:Same H H'
 zh:Same Z' H'
 o:∀b,H b≠none->Z' b=Z b
 nf:NoF Z Z'
theorem New.refl{Z H:Hp}(zh:Same Z H):New Z H Z H:=⟨Same.refl _,Same.refl _,zh,λ_ _=>rfl,NoF.refl _⟩
theorem New.trans{Z H Z1 H1 Z2 H2:Hp}(a:New Z H Z1 H1)(b:New Z1 H1 Z2 H2):New Z H Z2 H2:=
 ⟨a.z.trans b.z,a.h.trans b.h,b.zh,λc hc=>by
  have:H1 c≠none:=by
   cases e:H c with
   |none=>exact absurd e hc
   |some o=>rw[a.h c o e];intro z;cases z
  rw[b.o c this,a.o c hc],a.nf.trans b.nf⟩
theorem cy{H:Hp}{p:Addr}{o:HO}(h:H p=none):Same H (upd H p o):=λb u e=>by
 rw[aq (az e h)];exact e
theorem pY{Z H:Hp}(zh:Same Z H){p:Addr}(h:H p=none):Z p=none:=by
 cases e:Z p with
 |none=>rfl
 |some o=>rw[zh p o e]at h;cases h
theorem New.add{Z H:Hp}(zh:Same Z H){p:Addr}(hp:H p=none)(o:HO)(hf:Cw o=true:=by rfl):New Z H (upd Z p o) (upd H p o) where
 nf:=(NoF.refl Z).upd p hf
 z:=cy (pY zh hp)
 h:=cy hp
 zh:=λb u e=>by
  by_cases hb:b=p
  .subst hb;rw[av]at e ⊢;exact e
  .rw[aq hb]at e ⊢;exact zh b u e
 o:=λb hb=>by
  have:b≠p:=λz=>hb (z ▸ hp)
  rw[aq this]
def iA(K:Fg)(Z:Hp)(kvs:List (aw×V))(es:List (aw×D)):Prop:=es.map (·.1)=kvs.map (·.1)/\Reps K Z (kvs.map (·.2)) (es.map (·.2))
inductive OwR (K:Fg) (Z:Hp):HO->Oc->Prop
 |lst {xs:List V} {ds:List D}:Reps K Z xs ds->OwR K Z (.lst xs) (.l ds)
 |dct {kvs:List (aw×V)} {es:List (aw×D)}:iA K Z kvs es->OwR K Z (.dK kvs) (.d es)
theorem OwR.same{K:Fg}{Z Z':Hp}{o:HO}{c:Oc}(h:OwR K Z o c)(s:Same Z Z'):OwR K Z' o c:=by
 cases h with
 |lst r=>exact .lst (r.same s)
 |dct r=>exact .dct ⟨r.1,r.2.same s⟩
def FrOk(K:Fg)(H₀ Z₀ Z:Hp)(δ:Dv)(σ:St):Prop:=∀(i:Nat) ds,δ[i]? = some (.fr ds)->∃a xs,σ[i]? = some (some (.ref a))/\H₀ a=none/\Z₀ a=none/\Z a=some (.lst xs)/\Reps K Z xs ds
theorem FrOk.same{K:Fg}{H₀ Z₀ Z Z':Hp}{δ:Dv}{σ:St}(h:FrOk K H₀ Z₀ Z δ σ)(s:Same Z Z'):FrOk K H₀ Z₀ Z' δ σ:=λi ds e=>
 let ⟨a,xs,h1,h2,h3,h4,h5⟩:=h i ds e; ⟨a,xs,h1,h2,h3,s _ _ h4,h5.same s⟩
theorem FrOk.put{K:Fg}{H₀ Z₀ Z:Hp}{δ:Dv}{σ σ':St}(h:FrOk K H₀ Z₀ Z δ σ){i:Nat}{x:Sl}(hx:∀ds,x≠Sl.fr ds)(hs:∀j:Nat,i≠j -> σ'[j]? = σ[j]?):FrOk K H₀ Z₀ Z (δ.set i x) σ':=λj ds e=>by
 by_cases hj:i=j
 .subst hj
  have hl:i < δ.length:=by have:=(List.getElem?_eq_some_iff.mp e).1;simpa using this
  rw[getElem?_set_self hl]at e;exact absurd (Option.some.inj e) (hx ds)
 .rw[getElem?_set_ne hj]at e
  obtain⟨a,xs,h1,r⟩:=h j ds e;exact⟨a,xs,by rw[hs j hj];exact h1,r⟩
structure Hold (K:Fg) (H₀ Z₀ Z:Hp) (δ:Dv) (σ:St) (H:Hp):Prop where
 zh:Same Z H
 h0:Same H₀ H
 z0:Same Z₀ Z
 zb:∀b,H₀ b≠none->Z b=Z₀ b
 len:δ.length = σ.length
 fz:∀(i:Nat) d,δ[i]? = some (.fz d)->∃v,σ[i]? = some (some v)/\Rep K Z v d
 own:∀(i:Nat) c,δ[i]? = some (.own c)->∃a o,σ[i]? = some (some (.ref a))/\H₀ a=none/\Z a=none/\H a=some o/\OwR K Z o c
 dja:∀(i j:Nat) c c' a,i≠j -> δ[i]? = some (.own c)-> δ[j]? = some (.own c')-> σ[i]? = some (some (.ref a))-> σ[j]?≠some (some (V.ref a))
 fr:FrOk K H₀ Z₀ Z δ σ
 nf:NoF Z₀ Z
section
variable{K:Fg}{H₀ Z₀ Z Z' H H':Hp}{δ:Dv}{σ:St}
theorem Hold.ow(h:Hold K H₀ Z₀ Z δ σ H)(i:Nat)(ds:List D)(e:δ[i]? = some (.ow ds)):∃a xs,σ[i]? = some (some (.ref a))/\H₀ a=none/\Z a=none/\H a=some (.lst xs)/\Reps K Z xs ds:=by
 obtain⟨a,o,h1,h2,h3,h4,h5⟩:=h.own i _ e;cases h5 with
 |lst r=>exact⟨a,_,h1,h2,h3,h4,r⟩
theorem Hold.od(h:Hold K H₀ Z₀ Z δ σ H)(i:Nat)(es:List (aw×D))(e:δ[i]? = some (.od es)):∃a kvs,σ[i]? = some (some (.ref a))/\H₀ a=none/\Z a=none/\H a=some (.dK kvs)/\iA K Z kvs es:=by
 obtain⟨a,o,h1,h2,h3,h4,h5⟩:=h.own i _ e;cases h5 with
 |dct r=>exact⟨a,_,h1,h2,h3,h4,r⟩
theorem Hold.new(h:Hold K H₀ Z₀ Z δ σ H)(n:New Z H Z' H'):Hold K H₀ Z₀ Z' δ σ H' where
 zh:=n.zh
 h0:=h.h0.trans n.h
 z0:=h.z0.trans n.z
 zb:=λb hb=>by
  have:H b≠none:=by
   cases e:H₀ b with
   |none=>exact absurd e hb
   |some o=>rw[h.h0 b o e];intro z;cases z
  rw[n.o b this,h.zb b hb]
 len:=h.len
 fz:=λi d e=>let ⟨v,a,r⟩:=h.fz i d e; ⟨v,a,r.same n.z⟩
 own:=λi ds e=>by
  obtain⟨a,xs,h1,h2,h3,h4,h5⟩:=h.own i ds e;exact⟨a,xs,h1,h2,by rw[n.o a (by rw[h4];intro z;cases z)];exact h3,n.h a _ h4,h5.same n.z⟩
 dja:=h.dja
 fr:=h.fr.same n.z
 nf:=h.nf.trans n.nf
theorem Hold.set(h:Hold K H₀ Z₀ Z δ σ H){i:Nat}{v:V}{d:D}(r:Rep K Z v d):Hold K H₀ Z₀ Z (δ.set i (.fz d)) (σ.set i (some v)) H where
 zh:=h.zh
 h0:=h.h0
 z0:=h.z0
 zb:=h.zb
 len:=by simp[h.len]
 fz:=λj e q=>by
  by_cases hj:i=j
  .subst hj
   have hl:i < δ.length:=by
    have:=(List.getElem?_eq_some_iff.mp q).1;simpa using this
   rw[getElem?_set_self hl]at q;cases q;exact⟨v,getElem?_set_self (by rw[<-h.len];exact hl),r⟩
  .rw[getElem?_set_ne hj]at q
   obtain⟨u,a,b⟩:=h.fz j e q;exact⟨u,by rw[getElem?_set_ne hj];exact a,b⟩
 own:=λj es q=>by
  by_cases hj:i=j
  .subst hj
   have hl:i < δ.length:=by
    have:=(List.getElem?_eq_some_iff.mp q).1;simpa using this
   rw[getElem?_set_self hl]at q;cases q
  .rw[getElem?_set_ne hj]at q ⊢
   exact h.own j es q
 dja:=λj k ds es a hjk q1 q2=>by
  by_cases hj:i=j
  .subst hj
   have hl:i < δ.length:=by
    have:=(List.getElem?_eq_some_iff.mp q1).1;simpa using this
   rw[getElem?_set_self hl]at q1;cases q1
  .by_cases hk:i=k
   .subst hk
    have hl:i < δ.length:=by
     have:=(List.getElem?_eq_some_iff.mp q2).1;simpa using this
    rw[getElem?_set_self hl]at q2;cases q2
   .rw[getElem?_set_ne hj]at q1
    rw[getElem?_set_ne hk]at q2;rw[getElem?_set_ne hj,getElem?_set_ne hk];exact h.dja j k ds es a hjk q1 q2
 fr:=h.fr.put (λ_ z=>nomatch z) λ_ hj=>getElem?_set_ne hj
 nf:=h.nf
theorem Hold.setW(h:Hold K H₀ Z₀ Z δ σ H){i:Nat}{p:Addr}{o:HO}{c:Oc}(hp:H p=none)(r:OwR K Z o c):Hold K H₀ Z₀ Z (δ.set i (.own c)) (σ.set i (some (.ref p))) (upd H p o) where
 zh:=h.zh.trans (cy hp)
 h0:=h.h0.trans (cy hp)
 z0:=h.z0
 zb:=h.zb
 len:=by simp[h.len]
 fz:=λj e q=>by
  by_cases hj:i=j
  .subst hj
   have hl:i < δ.length:=by
    have:=(List.getElem?_eq_some_iff.mp q).1;simpa using this
   rw[getElem?_set_self hl]at q;cases q
  .rw[getElem?_set_ne hj]at q
   obtain⟨u,a,b⟩:=h.fz j e q;exact⟨u,by rw[getElem?_set_ne hj];exact a,b⟩
 own:=λj es q=>by
  by_cases hj:i=j
  .subst hj
   have hl:i < δ.length:=by
    have:=(List.getElem?_eq_some_iff.mp q).1;simpa using this
   rw[getElem?_set_self hl]at q;cases q;exact⟨p,o,getElem?_set_self (by rw[<-h.len];exact hl),pY h.h0 hp,pY h.zh hp,av,r⟩
  .rw[getElem?_set_ne hj]at q ⊢
   obtain⟨a,ys,h1,h2,h3,h4,h5⟩:=h.own j es q;exact⟨a,ys,h1,h2,h3,by rw[aq (az h4 hp)];exact h4,h5⟩
 dja:=λj k ds es a hjk q1 q2=>by
  have old:∀{m:Nat} {fs:Oc},δ[m]? = some (.own fs)-> σ[m]?≠some (some (V.ref p)):=λ{m fs} q z=>by
   obtain⟨b,ys,h1,h2,h3,h4,h5⟩:=h.own m fs q;rw[h1]at z;cases z;rw[hp]at h4;cases h4
  have hl:∀{m:Nat} {x:Sl},(δ.set i x)[m]?≠none->m < σ.length:=λ{m x} q=>by
   have:m<(δ.set i x).length:=by
    rcases Nat.lt_or_ge m (δ.set i x).length with g|g
    .exact g
    .exact absurd (List.getElem?_eq_none_iff.mpr g) q
   rw[<-h.len];simpa using this
  by_cases hj:i=j
  .subst hj
   have h1:i < σ.length:=hl (by rw[q1];intro z;cases z);rw[getElem?_set_self h1];intro e;cases e;rw[getElem?_set_ne hjk]at q2 ⊢;exact old q2
  .rw[getElem?_set_ne hj]at q1 ⊢
   by_cases hk:i=k
   .subst hk
    have h1:i < σ.length:=hl (by rw[q2];intro z;cases z);intro e z;rw[getElem?_set_self h1]at z;cases z;exact old q1 e
   .rw[getElem?_set_ne hk]at q2 ⊢
    exact h.dja j k ds es a hjk q1 q2
 fr:=h.fr.put (λ_ z=>nomatch z) λ_ hj=>getElem?_set_ne hj
 nf:=h.nf
theorem Hold.setO(h:Hold K H₀ Z₀ Z δ σ H){i:Nat}{p:Addr}{xs:List V}{ds:List D}(hp:H p=none)(r:Reps K Z xs ds):Hold K H₀ Z₀ Z (δ.set i (.ow ds)) (σ.set i (some (.ref p))) (upd H p (.lst xs)):=h.setW hp (.lst r)
theorem Hold.chgW(h:Hold K H₀ Z₀ Z δ σ H){i:Nat}{p:Addr}{o:HO}{ds es:Oc}(e:δ[i]? = some (.own ds))(ep:σ[i]? = some (some (.ref p)))(r:OwR K Z o es):Hold K H₀ Z₀ Z (δ.set i (.own es)) σ (upd H p o):=by
 obtain⟨a,zs,h1,h2,h3,h4,h5⟩:=h.own i ds e;rw[ep]at h1;cases h1;have hl:i < δ.length:=(List.getElem?_eq_some_iff.mp e).1;refine⟨λb o' q=>?_,λb o' q=>?_,h.z0,h.zb,by simp[h.len],λj d q=>?_,λj d q=>?_,λj k d1 d2 a hjk q1 q2=>?_,h.fr.put (λ_ z=>nomatch z) λ_ _=>rfl,h.nf⟩
 .rw[aq (az q h3)];exact h.zh b o' q
 .rw[aq (az q h2)];exact h.h0 b o' q
 .by_cases hj:i=j
  .subst hj
   rw[getElem?_set_self hl]at q;cases q
  .rw[getElem?_set_ne hj]at q
   exact h.fz j d q
 .by_cases hj:i=j
  .subst hj
   rw[getElem?_set_self hl]at q;cases q;exact⟨p,o,ep,h2,h3,av,r⟩
  .rw[getElem?_set_ne hj]at q
   obtain⟨b,ws,g1,g2,g3,g4,g5⟩:=h.own j d q;refine⟨b,ws,g1,g2,g3,?_,g5⟩;have:b≠p:=λz=>by subst z;exact h.dja i j ds d b hj e q ep g1
   rw[aq this];exact g4
 .have f:∀{m:Nat} {dm:Oc},(δ.set i (.own es))[m]? = some (.own dm)->∃dm',δ[m]? = some (.own dm'):=λ{m dm} q=>by
   by_cases hm:i=m
   .subst hm;exact⟨ds,e⟩
   .rw[getElem?_set_ne hm]at q;exact⟨dm,q⟩
  obtain⟨e1,g1⟩:=f q1;obtain⟨e2,g2⟩:=f q2;exact h.dja j k e1 e2 a hjk g1 g2
theorem Hold.chg(h:Hold K H₀ Z₀ Z δ σ H){i:Nat}{p:Addr}{xs ys:List V}{ds es:List D}(e:δ[i]? = some (.ow ds))(ep:σ[i]? = some (some (.ref p)))(r:Reps K Z ys es):Hold K H₀ Z₀ Z (δ.set i (.ow es)) σ (upd H p (.lst ys)):=h.chgW e ep (.lst r)
theorem Hold.frz(h:Hold K H₀ Z₀ Z δ σ H){i:Nat}{ds:List D}(e:δ[i]? = some (.ow ds)):∃Z',Same Z Z'/\Hold K H₀ Z₀ Z' (δ.set i (.fz (.list ds))) σ H:=by
 obtain⟨a,xs,h1,h2,h3,h4,h5⟩:=h.ow i ds e;have hl:i < δ.length:=(List.getElem?_eq_some_iff.mp e).1;have sz:Same Z (upd Z a (.lst xs)):=cy h3;refine⟨upd Z a (.lst xs),sz,λb o q=>?_,h.h0,h.z0.trans sz,λb hb=>?_,by simp[h.len],λj d q=>?_,λj d q=>?_,λj k d1 d2 b hjk q1 q2=>?_,(h.fr.same sz).put (λ_ z=>nomatch z) λ_ _=>rfl,h.nf.upd a⟩
 .by_cases hb:b=a
  .subst hb;rw[av]at q;cases q;exact h4
  .rw[aq hb]at q;exact h.zh b o q
 .rw[aq (λz=>hb (by rw[z];exact h2))];exact h.zb b hb
 .by_cases hj:i=j
  .subst hj
   rw[getElem?_set_self hl]at q;cases q;exact⟨.ref a,h1,.lst (SqL.of av) (h5.same sz)⟩
  .rw[getElem?_set_ne hj]at q
   obtain⟨v,g1,g2⟩:=h.fz j d q;exact⟨v,g1,g2.same sz⟩
 .by_cases hj:i=j
  .subst hj
   rw[getElem?_set_self hl]at q;cases q
  .rw[getElem?_set_ne hj]at q
   obtain⟨b,ws,g1,g2,g3,g4,g5⟩:=h.own j d q;have:b≠a:=λz=>by subst z;exact h.dja i j _ d b hj e q h1 g1
   exact⟨b,ws,g1,g2,by rw[aq this];exact g3,g4,g5.same sz⟩
 .by_cases hj:i=j
  .subst hj
   rw[getElem?_set_self hl]at q1;cases q1
  .by_cases hk:i=k
   .subst hk
    rw[getElem?_set_self hl]at q2;cases q2
   .rw[getElem?_set_ne hj]at q1
    rw[getElem?_set_ne hk]at q2;exact h.dja j k d1 d2 b hjk q1 q2
end
def tV(K:Fg)(f:Dv->Option D):TE:=λσ H Q=>∃H₀ Z₀ Z δ d,Hold K H₀ Z₀ Z δ σ H/\f δ = some d/\∀v Z' H',Hold K H₀ Z₀ Z' δ σ H'->Same Z Z'->Rep K Z' v d->Q v H'
def GB(K:Fg)(f:Dv->Option Bool):TT:=λσ H Q=>∃H₀ Z₀ Z δ b,Hold K H₀ Z₀ Z δ σ H/\f δ = some b/\∀Z' H',Hold K H₀ Z₀ Z' δ σ H'->Same Z Z'->Q b H'
def K1(K:Fg)(f:Dv->Option (List D)):TA:=λσ H Q=>∃H₀ Z₀ Z δ ds,Hold K H₀ Z₀ Z δ σ H/\f δ = some ds/\∀vs Z' H',Hold K H₀ Z₀ Z' δ σ H'->Same Z Z'->Reps K Z' vs ds->Q vs H'
def Fl.to(K:Fg)(Z:Hp)(D:Ends)(σ:St)(H:Hp):Fl->Prop
 |.nx=>D.nx σ H
 |.bk=>D.bk σ H
 |.ct=>D.ct σ H
 |.rt d=>∀v,Rep K Z v d->D.rt v H
def Dt(K:Fg)(f:Dv->Option (Fl×Dv)):TS:=λD σ H=>∃H₀ Z₀ Z δ r,Hold K H₀ Z₀ Z δ σ H/\f δ = some r/\∀ σ' H' Z',Hold K H₀ Z₀ Z' r.2 σ' H'->Same Z Z'->r.1.to K Z' D σ' H'
def EV(X:Cx)(e:Expr)(f:Dv->Option D):Prop:=PE X e (tV X.K f)
def TV(X:Cx)(e:Expr)(f:Dv->Option Bool):Prop:=PT X e (GB X.K f)
def AV(X:Cx)(es:List Expr)(f:Dv->Option (List D)):Prop:=PA X es (K1 X.K f)
def SV(X:Cx)(st:Stmt)(f:Dv->Option (Fl×Dv)):Prop:=PS X st (Dt X.K f)
def BV(X:Cx)(st:List Stmt)(f:Dv->Option (Fl×Dv)):Prop:=PSs X st (Dt X.K f)
theorem PE.imp{X:Cx}{e:Expr}{t t':TE}(h:PE X e t)(i:∀ σ H Q,t' σ H Q->t σ H Q):PE X e t':=λpins s σ H Q I hw=>h pins s σ H Q I (i _ _ _ hw)
theorem PT.imp{X:Cx}{e:Expr}{t t':TT}(h:PT X e t)(i:∀ σ H Q,t' σ H Q->t σ H Q):PT X e t':=λpins s σ H Q I hw=>h pins s σ H Q I (i _ _ _ hw)
theorem PA.imp{X:Cx}{es:List Expr}{t t':TA}(h:PA X es t)(i:∀ σ H Q,t' σ H Q->t σ H Q):PA X es t':=λpos pins s σ H Q I hw=>h pos pins s σ H Q I (i _ _ _ hw)
theorem PS.imp{X:Cx}{st:Stmt}{t t':TS}(h:PS X st t)(i:∀D σ H,t' D σ H->t D σ H):PS X st t':=λpins s σ H D I hw=>h pins s σ H D I (i _ _ _ hw)
theorem PSs.imp{X:Cx}{st:List Stmt}{t t':TS}(h:PSs X st t)(i:∀D σ H,t' D σ H->t D σ H):PSs X st t':=λpins s σ H D I hw=>h pins s σ H D I (i _ _ _ hw)
theorem OpR.imp{X:Cx}{f:Value->Value->Sem Value}{r r':R2}(h:OpR X f r)(i:∀x y H Q,r' x y H Q->r x y H Q):OpR X f r':=λpins s σ H x y v u Q I rx ry q=>h pins s σ H x y v u Q I rx ry (i _ _ _ _ q)
theorem CallR.imp{X:Cx}{f:Value}{r r':List V->Hp->VK->Prop}(h:CallR X f r)(i:∀xs H Q,r' xs H Q->r xs H Q):CallR X f r':=λpins s σ H xs us Q I rx q=>h pins s σ H xs us Q I rx (i _ _ _ q)
def rD(K:Fg)(g:D->D->Option D):R2:=λx y H Q=>∃Z a b d,Same Z H/\Rep K Z x a/\Rep K Z y b/\g a b=some d/\∀v Z' H',New Z H Z' H'->Rep K Z' v d->Q v H'
def K5(K:Fg)(g:D->Option D):V->Hp->VK->Prop:=λx H Q=>∃Z a d,Same Z H/\Rep K Z x a/\g a=some d/\∀v Z' H',New Z H Z' H'->Rep K Z' v d->Q v H'
def DC(K:Fg)(g:List D->Option D):List V->Hp->VK->Prop:=λxs H Q=>∃Z as d,Same Z H/\Reps K Z xs as/\g as=some d/\∀v Z' H',New Z H Z' H'->Rep K Z' v d->Q v H'
def io(K:Fg)(g:List D->Option D):Sp:=λvs H Q _=>DC K g vs H Q
section
variable{X:Cx}{a b c e:Expr}{es:List Expr}{pos p:Pos}{f f1 f2 f3:Dv->Option D}{fs:Dv->Option (List D)}{ft fu:Dv->Option Bool}
theorem bind_some{α β:Type}{o:Option α}{k:α -> Option β}{r:β}(h:o.bind k=some r):∃a,o=some a/\k a=some r:=by
 cases o with
 |none=>cases h
 |some a=>exact⟨a,rfl,h⟩
theorem IU{K:Fg}{g:D->D->Option D}{σ:St}{H:Hp}{Q:VK}{r:R2}(hr:∀x y H Q,rD K g x y H Q->r x y H Q)(h:tV K (o2 f1 f2 g) σ H Q):G0 r (tV K f1) (tV K f2) σ H Q:=by
 obtain⟨H₀,Z₀,Z,δ,d,hh,e,k⟩:=h;obtain⟨x,e1,e⟩:=bind_some e;obtain⟨y,e2,e⟩:=bind_some e;refine⟨H₀,Z₀,Z,δ,x,hh,e1,λv Z1 H1 hh1 s1 r1=>⟨H₀,Z₀,Z1,δ,y,hh1,e2,λu Z2 H2 hh2 s2 r2=>hr _ _ _ _ ⟨Z2,x,y,d,hh2.zh,r1.same s2,r2,e,λw Z3 H3 n r3=>?_⟩⟩⟩
 exact k w Z3 H3 (hh2.new n) ((s1.trans s2).trans n.z) r3
theorem ax{op:Operator}{g:D->D->Option D}(ho:OpR X (binaryOp op) (rD X.K g))(ha:EV X a f1)(hb:EV X b f2):EV X (.BinOp a op b pos) (o2 f1 f2 g):=
 PE.imp (Ht ho ha hb) λ_ _ _ h=>IU (λ_ _ _ _ q=>q) h
theorem AN{op:UnaryOp}{g:D->Option D}(ho:IR X (unaryOp op) (K5 X.K g))(ha:EV X a f):EV X (.UnaryOp op a pos) (o1 f g):=
 PE.imp (Hs ho ha) λσ H Q h=>by
  obtain⟨H₀,Z₀,Z,δ,d,hh,e,k⟩:=h;obtain⟨x,e1,e⟩:=bind_some e;exact⟨H₀,Z₀,Z,δ,x,hh,e1,λv Z1 H1 hh1 s1 r1=>⟨Z1,x,d,hh1.zh,r1,e,λw Z3 H3 n r3=>k w Z3 H3 (hh1.new n) (s1.trans n.z) r3⟩⟩
theorem iY{op:CmpOp}{g:D->D->Option D}(ho:OpR X (compareOp op) (rD X.K g))(ha:EV X a f1)(hb:EV X b f2)(hm:behindInMarks op b=false):EV X (.Compare a [op] [b] pos) (o2 f1 f2 g):=
 PE.imp (Co ho ha hb hm) λ_ _ _ h=>IU (λ_ _ _ _ q=>q) h
theorem uK{d:D}{b:Bool}(h:asB d=some b):d=.bool b:=by
 cases d<;>simp[asB]at h;subst h;rfl
theorem KY{K:Fg}{σ:St}{H:Hp}{Q:Bool->Hp->Prop}(h:GB K (ob f) σ H Q):tV K f σ H λx H1=>∃c,x=.bl c/\Q c H1:=by
 obtain⟨H₀,Z₀,Z,δ,d,hh,e,k⟩:=h;obtain⟨x,e1,e⟩:=bind_some e;have:=uK e;subst this;exact⟨H₀,Z₀,Z,δ,_,hh,e1,λv Z1 H1 hh1 s1 r1=>⟨_,r1.bl_eq,k Z1 H1 hh1 s1⟩⟩
theorem aE{op:CmpOp}{g:D->D->Option D}(ho:OpR X (compareOp op) (rD X.K g))(ha:EV X a f1)(hb:EV X b f2)(hm:behindInMarks op b=false):TV X (.Compare a [op] [b] pos) (ob (o2 f1 f2 g)):=
 PT.imp (Cc ho ha hb hm) λσ H Q h=>by
  have h':=KY h;exact IU (f1:=f1) (f2:=f2) (g:=g) (λ_ _ _ _ q=>q) h'
theorem bE(ha:EV X a f)(he:∀whole,isTrue a X.env whole=(do let v <-whole;standAt a.pos;holding [v] (truthy v)):=by intro _;rfl):TV X a (ob f):=
 PT.imp (ER ha he) λ_ _ _ h=>KY h
def WV(X:Cx)(e:Expr)(f:Dv->Option Bool):Prop:=PW X e (GB X.K f)
theorem PW.imp{X:Cx}{e:Expr}{t t':TT}(h:PW X e t)(i:∀ σ H Q,t' σ H Q->t σ H Q):PW X e t':=λwhole pins s σ H Q I hw=>h whole pins s σ H Q I (i _ _ _ hw)
theorem Bw(ha:TV X a ft):WV X (.BoolOp .And [a] pos) ft:=Cb ha
theorem gF(ha:TV X a ft):WV X (.BoolOp .Or [a] pos) ft:=EN ha
theorem Ef{rest:List Expr}(ha:TV X a ft)(hb:WV X (.BoolOp .And (b::rest) pos) fu):WV X (.BoolOp .And (a::b::rest) pos) (Fs ft fu):=
 PW.imp (EO ha hb) λσ H Q h=>by
  obtain⟨H₀,Z₀,Z,δ,d,hh,e,k⟩:=h;obtain⟨x,e1,e⟩:=bind_some e;refine⟨H₀,Z₀,Z,δ,x,hh,e1,λZ1 H1 hh1 s1=>?_⟩
  cases x with
  |true=>exact⟨H₀,Z₀,Z1,δ,d,hh1,e,λZ2 H2 hh2 s2=>k Z2 H2 hh2 (s1.trans s2)⟩
  |false=>cases e;exact k Z1 H1 hh1 s1
theorem dI{rest:List Expr}(ha:TV X a ft)(hb:WV X (.BoolOp .Or (b::rest) pos) fu):WV X (.BoolOp .Or (a::b::rest) pos) (nr ft fu):=
 PW.imp (Hn ha hb) λσ H Q h=>by
  obtain⟨H₀,Z₀,Z,δ,d,hh,e,k⟩:=h;obtain⟨x,e1,e⟩:=bind_some e;refine⟨H₀,Z₀,Z,δ,x,hh,e1,λZ1 H1 hh1 s1=>?_⟩
  cases x with
  |true=>cases e;exact k Z1 H1 hh1 s1
  |false=>exact⟨H₀,Z₀,Z1,δ,d,hh1,e,λZ2 H2 hh2 s2=>k Z2 H2 hh2 (s1.trans s2)⟩
theorem WV.tv(h:WV X a ft):TV X a ft:=PW.pt h
theorem cV(ha:TV X a ft):TV X (.UnaryOp .Not a pos) (gS ft):=
 PT.imp (ES ha) λσ H Q h=>by
  obtain⟨H₀,Z₀,Z,δ,d,hh,e,k⟩:=h;cases e1:ft δ with
  |none=>unfold gS at e;rw[e1]at e;cases e
  |some x=>
   unfold gS at e;rw[e1]at e;cases e;exact⟨H₀,Z₀,Z,δ,x,hh,e1,λZ1 H1 hh1 s1=>k Z1 H1 hh1 s1⟩
theorem uu{op}(h:EV X a f):EV X (.BoolOp op [a] pos) f:=E4 h
theorem mJ{rest:List Expr}(ha:EV X a f1)(hb:EV X (.BoolOp .And (b::rest) pos) f2):EV X (.BoolOp .And (a::b::rest) pos) (oy f1 f2):=
 PE.imp (Fb ha hb) λσ H Q h=>by
  obtain⟨H₀,Z₀,Z,δ,d,hh,e,k⟩:=h;obtain⟨x,e1,e⟩:=bind_some e;obtain⟨c,e2,e⟩:=bind_some e;have:=uK e2;subst this;refine⟨H₀,Z₀,Z,δ,_,hh,e1,λv Z1 H1 hh1 s1 r1=>⟨c,r1.bl_eq,?_⟩⟩
  cases c with
  |true=>exact⟨H₀,Z₀,Z1,δ,d,hh1,e,λv Z2 H2 hh2 s2 r2=>k v Z2 H2 hh2 (s1.trans s2) r2⟩
  |false=>cases e;exact k _ Z1 H1 hh1 s1 (.bl false)
theorem F4(ha:EV X a f):EV X (.UnaryOp .Not a pos) (o1 f xm):=
 PE.imp (E5 ha) λσ H Q h=>by
  obtain⟨H₀,Z₀,Z,δ,d,hh,e,k⟩:=h;obtain⟨x,e1,e⟩:=bind_some e;cases e2:asB x with
  |none=>unfold xm at e;rw[e2]at e;cases e
  |some c=>
   unfold xm at e;rw[e2]at e;cases e;have:=uK e2;subst this;exact⟨H₀,Z₀,Z,δ,_,hh,e1,λv Z1 H1 hh1 s1 r1=>⟨c,r1.bl_eq,k _ Z1 H1 hh1 s1 (.bl _)⟩⟩
theorem F5(hc:TV X c ft)(ha:EV X a f1)(hb:EV X b f2):EV X (.IfExp c a b pos) (Jh ft f1 f2):=
 PE.imp (zv hc ha hb) λσ H Q h=>by
  obtain⟨H₀,Z₀,Z,δ,d,hh,e,k⟩:=h;obtain⟨x,e1,e⟩:=bind_some e;refine⟨H₀,Z₀,Z,δ,x,hh,e1,λZ1 H1 hh1 s1=>?_⟩
  cases x with
  |true=>exact⟨H₀,Z₀,Z1,δ,d,hh1,e,λv Z2 H2 hh2 s2 r2=>k v Z2 H2 hh2 (s1.trans s2) r2⟩
  |false=>exact⟨H₀,Z₀,Z1,δ,d,hh1,e,λv Z2 H2 hh2 s2 r2=>k v Z2 H2 hh2 (s1.trans s2) r2⟩
theorem Hold.read{K:Fg}{H₀ Z₀ Z H:Hp}{δ:Dv}{σ:St}(hh:Hold K H₀ Z₀ Z δ σ H){i:Nat}{d:D}(h:oV i δ = some d):∃v,σ[i]? = some (some v)/\Rep K Z v d:=by
 unfold oV at h;cases q:δ[i]? with
 |none=>rw[q]at h;cases h
 |some x=>
  rw[q]at h;cases x with
  |fz e=>cases h;exact hh.fz i _ q
  |un=>cases h
  |own _=>cases h
  |fr ds=>
   cases h;obtain⟨a,xs,h1,_,_,h4,h5⟩:=hh.fr i ds q;exact⟨.ref a,h1,.lst (SqL.of h4) h5⟩
theorem aa(i:Nat){x:Str}(hN:X.N[i]? = some x:=by rfl)(hv:yk X.env.scope x:=by first|exact Or.inl rfl|exact Or.inr (Or.inl rfl)|exact Or.inr (Or.inr rfl))(hd:(x==("__debug__":Str))=false:=by decide)(hcd:(x==("__classdict__":Str))=false:=by decide):
  EV X (.Name x pos) (oV i):=
 PE.imp (d8 hN hv hd hcd) λσ H Q h=>by
  obtain⟨H₀,Z₀,Z,δ,d,hh,e,k⟩:=h;obtain⟨v,q,r⟩:=hh.read e;exact⟨v,q,k v Z H hh (Same.refl _) r⟩
theorem C4{d:D}{v:V}(h:PE X e (tC v))(r:∀Z,Rep X.K Z v d):EV X e (oC d):=
 PE.imp h λσ H Q h=>by
  obtain⟨H₀,Z₀,Z,δ,d',hh,e,k⟩:=h;cases e;exact k v Z H hh (Same.refl _) (r Z)
theorem ae{i j}:EV X (.Constant (.int i) j pos) (oC (.int i)):=C4 E9 λ_=>.int i
theorem eB{i j}:EV X (.Constant (.bool i) j pos) (oC (.bool i)):=C4 Hv λ_=>.bl i
theorem iW{j}:EV X (.Constant .none j pos) (oC .none):=C4 E8 λ_=>.non
theorem F3{i j}:EV X (.Constant (.str i) j pos) (oC (.str i)):=C4 E3 λ_=>.str i
theorem ah:AV X [] ap:=
 PA.imp dl λσ H Q h=>by
  obtain⟨H₀,Z₀,Z,δ,d,hh,e,k⟩:=h;cases e;exact k [] Z H hh (Same.refl _) .nil
theorem ac(ha:EV X e f)(hr:AV X es fs)(hs:starEach (e::es) X.env=(false,eval e X.env)::starEach es X.env:=by rfl):AV X (e::es) (af f fs):=
 PA.imp (bq ha hr hs) λσ H Q h=>by
  obtain⟨H₀,Z₀,Z,δ,d,hh,e,k⟩:=h;obtain⟨x,e1,e⟩:=bind_some e;obtain⟨xs,e2,e⟩:=bind_some e;cases e;exact⟨H₀,Z₀,Z,δ,x,hh,e1,λv Z1 H1 hh1 s1 r1=>⟨H₀,Z₀,Z1,δ,xs,hh1,e2,λvs Z2 H2 hh2 s2 r2=>k _ Z2 H2 hh2 (s1.trans s2) (.cons (r1.same s2) r2)⟩⟩
theorem bo{x1}(h:AV X es fs):EV X (.Tuple es x1 pos) (os fs bM):=
 PE.imp (E2 h) λσ H Q h=>by
  obtain⟨H₀,Z₀,Z,δ,d,hh,e,k⟩:=h;obtain⟨xs,e1,e⟩:=bind_some e;refine⟨H₀,Z₀,Z,δ,xs,hh,e1,λvs Z1 H1 hh1 s1 r1=>?_⟩
  by_cases hl:xs.length<=sizeLine
  .rw[bM,if_pos hl]at e
   cases e;refine⟨by rw[r1.length];exact hl,λp hp=>?_⟩
   have n:=New.add hh1.zh hp (.tup vs);exact k _ _ _ (hh1.new n) (s1.trans n.z) (.tup (SqT.of av) (r1.same n.z))
  .rw[bM,if_neg hl]at e;cases e
theorem uv(h:AV X es fs):EV X (.List es pos) (os fs rN):=
 PE.imp (zu h) λσ H Q h=>by
  obtain⟨H₀,Z₀,Z,δ,d,hh,e,k⟩:=h;obtain⟨xs,e1,e⟩:=bind_some e;refine⟨H₀,Z₀,Z,δ,xs,hh,e1,λvs Z1 H1 hh1 s1 r1=>?_⟩
  by_cases hl:xs.length<=sizeLine
  .rw[rN,if_pos hl]at e
   cases e;refine⟨by rw[r1.length];exact hl,λp hp=>?_⟩
   have n:=New.add hh1.zh hp (.lst vs);exact k _ _ _ (hh1.new n) (s1.trans n.z) (.lst (SqL.of av) (r1.same n.z))
  .rw[rN,if_neg hl]at e;cases e
theorem args{K:Fg}{g:List D->Option D}{σ:St}{H:Hp}{Q:VK}(h:tV K (os fs g) σ H Q):K1 K fs σ H λvs H1=>DC K g vs H1 Q:=by
 obtain⟨H₀,Z₀,Z,δ,d,hh,e,k⟩:=h;obtain⟨xs,e1,e⟩:=bind_some e;exact⟨H₀,Z₀,Z,δ,xs,hh,e1,λvs Z1 H1 hh1 s1 r1=>⟨Z1,xs,d,hh1.zh,r1,e,λw Z3 H3 n r3=>k w Z3 H3 (hh1.new n) (s1.trans n.z) r3⟩⟩
theorem bH{x:Str}{id:String}{g:List D->Option D}(hc:CallR X (.builtin id) (DC X.K g))(hg:Gl X x)(hm:X.mg x=none)(hv:bootBuiltins x=some (.builtin id))(ha:AV X (e::es) fs)(hn:x≠"__name__":=by decide)(hdb:(x==("__debug__":Str))=false:=by decide)
  (he:starEach (e::es) X.env=(false,eval e X.env)::starEach es X.env:=by rfl) (hpl:(backTo pos (starEach es X.env)).any (·.1)=false:=by rfl):EV X (.Call (.Name x p) (e::es) [] pos) (os fs g):=
 PE.imp (fB hc hg hm hv ha hn hdb he hpl) λ_ _ _ h=>args h
theorem cQ{x:Str}{id:String}{g:List D->Option D}(hc:CallR X (.type id) (DC X.K g))(hg:Gl X x)(hm:X.mg x=none)(hv:bootBuiltins x=some (.type id))(ha:AV X (e::es) fs)(hn:x≠"__name__":=by decide)(hdb:(x==("__debug__":Str))=false:=by decide)
  (he:starEach (e::es) X.env=(false,eval e X.env)::starEach es X.env:=by rfl) (hpl:(backTo pos (starEach es X.env)).any (·.1)=false:=by rfl):EV X (.Call (.Name x p) (e::es) [] pos) (os fs g):=
 PE.imp (ou hc hg hm hv ha hn hdb he hpl) λ_ _ _ h=>args h
theorem C3{k:Nat}{fa:Addr}{fd:FuncData}{ps:List Str}{x:Str}{g:List D->Option D}{dd:List D}{dv:List V}{ds:List Value}(F:FnOk X.prog X.w X.K X.mg X.base dH k fa fd ps (io X.K g))(hr:Room k X.A)(hg:Gl X x)(hm:X.mg x=some (.ref fa))(hk:keepIn X.K (.ref fa)=true)
  (hb:Binds X.K fd ps ds) (hd:Vals dv ds) (hdd:∀Z,Reps X.K Z dv dd) (hx:qA dH X E0) (ha:AV X (e::es) fs) (hdb:(x==("__debug__":Str))=false:=by decide) (he:starEach (e::es) X.env=(false,eval e X.env)::starEach es X.env:=by rfl) (hpl:(backTo pos (starEach es X.env)).any (·.1)=false:=by rfl):
  EV X (.Call (.Name x p) (e::es) [] pos) (os fs λas=>g (as++dd)):=
 PE.imp (vf F hr hg hm hk hb hd hx ha hdb he hpl) λσ H Q h=>by
  obtain⟨H₀,Z₀,Z,δ,xs,hh,e1,q⟩:=args h;refine⟨H₀,Z₀,Z,δ,xs,hh,e1,λvs Z1 H1 hh1 s1 r1=>?_⟩
  obtain⟨Z2,as,d,zh,ra,eg,kk⟩:=q vs Z1 H1 hh1 s1 r1;exact⟨Z2,as++dd,d,zh,ra.append (hdd Z2),eg,kk⟩
theorem IxR.imp{r r':R2}(h:IxR X r)(i:∀x y H Q,r' x y H Q->r x y H Q):IxR X r':=λvalue slice pins s σ H x y v u Q I rx ry q hs=>h value slice pins s σ H x y v u Q I rx ry (i _ _ _ _ q) hs
theorem au{g:D->D->Option D}(ho:IxR X (rD X.K g))(ha:EV X a f1)(hb:EV X b f2)(hs:wG b):EV X (.Subscript a b pos) (o2 f1 f2 g):=
 PE.imp (Hu ho ha hb hs) λ_ _ _ h=>IU (λ_ _ _ _ q=>q) h
end
section
variable{X:Cx}{a b c e tg:Expr}{es:List Expr}{pos p:Pos}{f f1 f2 f3:Dv->Option D}{fs:Dv->Option (List D)}{ft fu:Dv->Option Bool}{st:Stmt}{sts body:List Stmt}{s1 s2:Dv->Option (Fl×Dv)}
theorem vm{F:Value->Value->Sem Value}{g:Int->Int->Int}(h:OpR X F (yh λi j=>.int (g i j))):OpR X F (rD X.K (iI g)):=
 OpR.imp h λx y H Q q=>by
  obtain⟨Z,a,b,d,zh,ra,rb,e,k⟩:=q;cases ra<;>cases rb<;>simp[iI]at e;subst e;exact⟨_,_,rfl,rfl,k _ Z H (New.refl zh) (.int _)⟩
theorem zC{F:Value->Value->Sem Value}{g:Int->Int->Bool}(h:OpR X F (yh λi j=>.bl (g i j))):OpR X F (rD X.K (iB g)):=
 OpR.imp h λx y H Q q=>by
  obtain⟨Z,a,b,d,zh,ra,rb,e,k⟩:=q;cases ra<;>cases rb<;>simp[iB]at e;subst e;exact⟨_,_,rfl,rfl,k _ Z H (New.refl zh) (.bl _)⟩
theorem ro{F:Value->Value->Sem Value}{P:Int->Int->Prop}{C:Int->Int->Bool}{g:Int->Int->Int}(h:OpR X F (rI P λi j=>.int (g i j)))(hc:∀i j,C i j=true->P i j):OpR X F (rD X.K (iC C g)):=
 OpR.imp h λx y H Q q=>by
  obtain⟨Z,a,b,d,zh,ra,rb,e,k⟩:=q;cases ra with
  |int i=>
   cases rb with
   |int j=>
    by_cases hh:C i j=true
    .simp only[iC,if_pos hh]at e
     cases e;exact⟨_,_,rfl,rfl,hc _ _ hh,k _ Z H (New.refl zh) (.int _)⟩
    .simp only[iC,if_neg hh]at e
     cases e
   |_=>simp[iC]at e
  |_=>simp[iC]at e
theorem wj:OpR X (binaryOp .Sub) (rD X.K yC):=vm Ff
theorem i3:OpR X (binaryOp .Mult) (rD X.K gC):=ro (P:=λi j=>IntMulOk i j) (HB λ_ _ _ _ _ _ _ hc q=>mul_int q hc) λi j h=>of_decide_eq_true h
theorem sD:OpR X (binaryOp .FloorDiv) (rD X.K iz):=ro Cr λi j h=>(of_decide_eq_true h:0<j/\j<1073741824)
theorem cR:OpR X (binaryOp .Mod) (rD X.K bA):=ro Fi λi j h=>of_decide_eq_true h
theorem AX:OpR X (binaryOp .LShift) (rD X.K kF):=ro (P:=λi j=>0<=j/\(Builtin.Int.intBits i:Int)+j<=2^27) (HB λ_ _ _ _ _ _ _ hc q=>lshift_int hc.1 hc.2 q) λi j h=>of_decide_eq_true h
theorem AW:OpR X (binaryOp .RShift) (rD X.K tJ):=ro Fh λi j h=>of_decide_eq_true h
theorem A5:OpR X (binaryOp .BitAnd) (rD X.K Dg):=vm Fk
theorem Kw:OpR X (binaryOp .BitOr) (rD X.K K6):=vm Hx
theorem wf:OpR X (binaryOp .BitXor) (rD X.K sV):=vm Fe
theorem C8:OpR X (compareOp .Lt) (rD X.K HN):=zC Hy
theorem Kx:OpR X (compareOp .LtE) (rD X.K K8):=zC Hz
theorem qd:OpR X (compareOp .Gt) (rD X.K um):=zC HA
theorem AY:IR X (unaryOp .USub) (K5 X.K negD):=by
 intro pins s σ H x v Q I rx q;obtain⟨Z,a,d,zh,ra,e,k⟩:=q;cases ra<;>simp[negD]at e;subst e;exact Eo pins s σ H _ v Q I rx ⟨_,rfl,k _ Z H (New.refl zh) (.int _)⟩
theorem Rep.str_eq{K:Fg}{Z:Hp}{v:V}{x:Str}(h:Rep K Z v (.str x)):v=.str x:=by cases h;rfl
theorem Rep.tup_ex{K:Fg}{Z:Hp}{v:V}{ds:List D}(h:Rep K Z v (.tuple ds)):∃a xs,v=.ref a/\SqT K Z a xs/\Reps K Z xs ds:=by
 cases h with
 |tup p q=>exact⟨_,_,rfl,p,q⟩
theorem Rep.lst_ex{K:Fg}{Z:Hp}{v:V}{ds:List D}(h:Rep K Z v (.list ds)):∃a xs,v=.ref a/\SqL K Z a xs/\Reps K Z xs ds:=by
 cases h with
 |lst p q=>exact⟨_,_,rfl,p,q⟩
theorem bR{p:Prop}[Decidable p]{α:Type}{x y:α}(h:(if p then some x else none)=some y):p/\x=y:=by
 by_cases q:p
 .rw[if_pos q]at h;exact⟨q,Option.some.inj h⟩
 .rw[if_neg q]at h;cases h
theorem Gq{a b d:D}(h:cG a b=some d):(∃i,a=.int i)\/(∃x,a=.str x)\/(∃xs,a=.list xs)\/∃xs,a=.tuple xs:=by
 cases a with
 |int i=>exact .inl ⟨_,rfl⟩
 |str i=>exact .inr (.inl ⟨_,rfl⟩)
 |list i=>exact .inr (.inr (.inl ⟨_,rfl⟩))
 |tuple i=>exact .inr (.inr (.inr ⟨_,rfl⟩))
 |_=>cases h
theorem Gr{i:Int}{b d:D}(h:cG (.int i) b=some d):∃j,b=.int j/\d=.int (i+j):=by
 cases b with
 |int j=>exact⟨j,rfl,(Option.some.inj h).symm⟩
 |_=>cases h
theorem Gn{i:Str}{b d:D}(h:cG (.str i) b=some d):∃j,b=.str j/\i.length+j.length<=sizeLine/\d=.str (i++j):=by
 cases b with
 |str j=>obtain⟨p,q⟩:=bR h;exact⟨j,rfl,p,q.symm⟩
 |_=>cases h
theorem Go{i:List D}{b d:D}(h:cG (.list i) b=some d):∃j,b=.list j/\i.length+j.length<=sizeLine/\d=.list (i++j):=by
 cases b with
 |list j=>obtain⟨p,q⟩:=bR h;exact⟨j,rfl,p,q.symm⟩
 |_=>cases h
theorem Gm{i:List D}{b d:D}(h:cG (.tuple i) b=some d):∃j,b=.tuple j/\i.length+j.length<=sizeLine/\d=.tuple (i++j):=by
 cases b with
 |tuple j=>obtain⟨p,q⟩:=bR h;exact⟨j,rfl,p,q.symm⟩
 |_=>cases h
theorem dg:OpR X (binaryOp .Add) (rD X.K cG):=by
 intro pins s σ H x y v u Q I rx ry q;obtain⟨Z,a,b,d,zh,ra,rb,e,k⟩:=q;rcases Gq e with⟨i,rfl⟩|⟨i,rfl⟩|⟨ds,rfl⟩|⟨ds,rfl⟩
 .obtain⟨j,rfl,rfl⟩:=Gr e
  cases ra.int_eq;cases rb.int_eq;exact Fn pins s σ H _ _ v u Q I rx ry ⟨_,_,rfl,rfl,k _ Z H (New.refl zh) (.int _)⟩
 .obtain⟨j,rfl,hl,rfl⟩:=Gn e
  cases ra.str_eq;cases rb.str_eq;exact tX pins s σ H _ _ v u Q I rx ry ⟨_,_,rfl,rfl,hl,k _ Z H (New.refl zh) (.str _)⟩
 .obtain⟨es,rfl,hl,rfl⟩:=Go e
  obtain⟨a,xs,rfl,h1,q1⟩:=ra.lst_ex;obtain⟨b,ys,rfl,h2,q2⟩:=rb.lst_ex;cases rx;cases ry;obtain⟨its,r1,p1,z1⟩:=I.list (SqL.same h1 zh);obtain⟨its2,r2,p2,z2⟩:=I.list (SqL.same h2 zh);obtain⟨⟨cls,dd,data,sl⟩,n1,ho,hc,hdd,hd⟩:=p1;obtain⟨⟨cls2,dd2,data2,sl2⟩,n2,ho2,hc2,hdd2,hd2⟩:=p2;simp only at hc hd hc2 hd2;subst hc hd hc2 hd2;have hl1:=r1.length;have hl2:=r2.length;have ql1:=q1.length;have ql2:=q2.length;refine concat_meets ⟨_,ho,rfl⟩ ⟨_,ho2,rfl⟩ noFill_list_add seq_list_add PySem.F.slot_list_add PySem.F.entry_list_add (PySem.F.args_list_add_2 _ _) (list_addW a b its.toArray its2.toArray n1 n2 dd dd2 sl sl2 (by simp;lia)) ⟨ho,ho2,?_⟩;have ea:its.toArray++its2.toArray=(its++its2).toArray:=by simp
  rw[ea];have n:=New.add zh I.fresh (.lst (xs++ys));exact⟨.ref _,_,I.lnew (t':=s.toks) (r1.append r2) (by rw[List.length_append];lia),rfl,k _ _ _ n (.lst (SqL.of av) ((q1.append q2).same n.z))⟩
 .obtain⟨es,rfl,hl,rfl⟩:=Gm e
  obtain⟨a,xs,rfl,h1,q1⟩:=ra.tup_ex;obtain⟨b,ys,rfl,h2,q2⟩:=rb.tup_ex;by_cases h0:ds.length=0
  .have hd0:ds=[]:=List.eq_nil_of_length_eq_zero h0
   subst hd0;cases q1;cases rx;cases ry;obtain⟨its,r1,p1,z1⟩:=I.tuple (SqT.same h1 zh);obtain⟨its2,r2,p2,z2⟩:=I.tuple (SqT.same h2 zh);cases r1;obtain⟨⟨cls,dd,data,sl⟩,ho,hc,n,hd⟩:=id p1;obtain⟨⟨cls2,dd2,data2,sl2⟩,ho2,hc2,n2,hd2⟩:=id p2;simp only at hc hd hc2 hd2;subst hc hd hc2 hd2;exact concat_meets ⟨_,ho,rfl⟩ ⟨_,ho2,rfl⟩ noFill_tuple_add seq_tuple_add PySem.F.slot_tuple_add PySem.F.entry_tuple_add (PySem.F.args_tuple_add_2 _ _)
    (tuple_addW0 a b _ its2.toArray n n2 dd dd2 sl sl2 (by simp)) ⟨ho,ho2,⟨.ref b,H,I,rfl,k _ Z H (New.refl zh) (.tup h2 q2)⟩⟩
  refine Cs pins s σ H _ _ v u Q I rx ry ⟨a,b,xs,ys,rfl,rfl,SqT.same h1 zh,SqT.same h2 zh,λz=>h0 (by rw[<-q1.length,z];rfl),by rw[q1.length,q2.length];exact hl,λz=>?_,λz p hp=>?_⟩
  .subst z
   cases q2;rw[append_nil]at k;exact k _ Z H (New.refl zh) (.tup h1 q1)
  .have n:=New.add zh hp (.tup (xs++ys))
   exact k _ _ _ n (.tup (SqT.of av) ((q1.append q2).same n.z))
theorem kZ{d:D}(h:shp d=true):d.canLay0=true:=(Bool.and_eq_true_iff.mp h).1
theorem jG(hu:X.A.units+64<cLine):OpR X (compareOp .Eq) (rD X.K iy):=by
 intro pins s σ H x y v u Q I rx ry q;obtain⟨Z,a,b,d,zh,ra,rb,e,k⟩:=q;by_cases hs:shp a=true/\shp b=true
 .rw[iy,if_pos hs]at e
  cases e;obtain⟨as,r1⟩:=ra.reads I zh rx (kZ hs.1);obtain⟨bs,r2⟩:=rb.reads I zh ry (kZ hs.2);exact eq_dataH r1 r2 hs.1 hs.2 hu ⟨.bl _,H,I,rfl,k _ Z H (New.refl zh) (.bl _)⟩
 .rw[iy,if_neg hs]at e;cases e
theorem jF(hu:X.A.units+64<cLine):OpR X (compareOp .NotEq) (rD X.K neD):=by
 intro pins s σ H x y v u Q I rx ry q;obtain⟨Z,a,b,d,zh,ra,rb,e,k⟩:=q;by_cases hs:shp a=true/\shp b=true
 .rw[neD,if_pos hs]at e
  cases e;obtain⟨as,r1⟩:=ra.reads I zh rx (kZ hs.1);obtain⟨bs,r2⟩:=rb.reads I zh ry (kZ hs.2);exact ne_dataH r1 r2 hs.1 hs.2 hu ⟨.bl _,H,I,rfl,k _ Z H (New.refl zh) (.bl _)⟩
 .rw[neD,if_neg hs]at e;cases e
theorem Aq{K:Fg}{Z:Hp}{v:V}{d:D}(r:Rep K Z v d):decide (v=.non)=DT d:=by cases r<;>rfl
theorem Ky:OpR X (compareOp .Is) (rD X.K isD):=
 OpR.imp Fj λx y H Q q=>by
  obtain⟨Z,a,b,d,zh,ra,rb,e,k⟩:=q;cases rb<;>simp[isD]at e;subst e;exact⟨rfl,by rw[Aq ra];exact k _ Z H (New.refl zh) (.bl _)⟩
theorem AZ:OpR X (compareOp .IsNot) (rD X.K r8):=
 OpR.imp Cq λx y H Q q=>by
  obtain⟨Z,a,b,d,zh,ra,rb,e,k⟩:=q;cases rb<;>simp[r8]at e;subst e;exact⟨rfl,by rw[Aq ra];exact k _ Z H (New.refl zh) (.bl _)⟩
theorem Reps.at{K:Fg}{Z:Hp}{vs:List V}{ds:List D}{i:Int}{d:D}(r:Reps K Z vs ds)(h:lq ds i=some d):∃v,lq vs i=some v/\Rep K Z v d:=by
 unfold lq at h ⊢;rw[r.length];obtain⟨j,e,h⟩:=bind_some h;obtain⟨v,q,rr⟩:=r.get h;exact⟨v,by rw[e];exact q,rr⟩
theorem HZ{a b d:D}(h:aI a b=some d):(∃xs,a=.list xs)\/∃xs,a=.tuple xs:=by
 cases a with
 |list i=>exact .inl ⟨_,rfl⟩
 |tuple i=>exact .inr ⟨_,rfl⟩
 |_=>cases h
theorem DQ{xs:List D}{b d:D}(h:aI (.list xs) b=some d):∃i,b=.int i/\lq xs i=some d:=by
 cases b with
 |int i=>exact⟨i,rfl,h⟩
 |_=>cases h
theorem aD:IxR X (rD X.K aI):=
 IxR.imp (ix_list.or FN) λx y H Q q=>by
  obtain⟨Z,a,b,d,zh,ra,rb,e,k⟩:=q;rcases HZ e with⟨xs,rfl⟩|⟨xs,rfl⟩
  .obtain⟨i,rfl,e⟩:=DQ e
   obtain⟨a,vs,rfl,h1,q1⟩:=ra.lst_ex;cases rb.int_eq;obtain⟨v,ev,rv⟩:=q1.at e;exact .inl ⟨_,_,_,v,rfl,rfl,SqL.same h1 zh,ev,k v Z H (New.refl zh) rv⟩
  .obtain⟨i,rfl,e⟩:=DQ (xs:=xs) (b:=b) (by cases b<;>exact e)
   obtain⟨a,vs,rfl,h1,q1⟩:=ra.tup_ex;cases rb.int_eq;obtain⟨v,ev,rv⟩:=q1.at e;exact .inr ⟨_,_,_,v,rfl,rfl,SqT.same h1 zh,ev,k v Z H (New.refl zh) rv⟩
theorem gB:CallR X (.builtin "len") (DC X.K eY):=
 CallR.imp sN λxs H Q q=>by
  obtain⟨Z,as,d,zh,ra,e,k⟩:=q;cases ra with
  |nil=>cases e
  |cons r1 r2=>
   cases r2 with
   |cons _ _=>cases r1<;>cases e
   |nil=>
    cases r1 with
    |lst h1 q1=>cases e;exact⟨_,_,rfl,.inl ⟨_,SqL.same h1 zh,rfl⟩,k _ Z H (New.refl zh) (by rw[q1.length];exact .int _)⟩
    |tup h1 q1=>cases e;exact⟨_,_,rfl,.inr ⟨_,SqT.same h1 zh,rfl⟩,k _ Z H (New.refl zh) (by rw[q1.length];exact .int _)⟩
    |_=>cases e
theorem Bc:CallR X (.type "list") (DC X.K jr):=
 CallR.imp qk λxs H Q q=>by
  obtain⟨Z,as,d,zh,ra,e,k⟩:=q;cases ra with
  |nil=>cases e
  |cons r1 r2=>
   cases r2 with
   |cons _ _=>cases r1<;>cases e
   |nil=>
    cases r1 with
    |lst h1 q1=>cases e;exact⟨_,_,rfl,.inl (SqL.same h1 zh),λl hl=>let n:=New.add zh hl (.lst _);k _ _ _ n (.lst (SqL.of av) (q1.same n.z))⟩
    |tup h1 q1=>cases e;exact⟨_,_,rfl,.inr (SqT.same h1 zh),λl hl=>let n:=New.add zh hl (.lst _);k _ _ _ n (.lst (SqL.of av) (q1.same n.z))⟩
    |_=>cases e
theorem iw:CallR X (.type "tuple") (DC X.K di):=
 CallR.imp nJ λxs H Q q=>by
  obtain⟨Z,as,d,zh,ra,e,k⟩:=q;cases ra with
  |nil=>cases e
  |cons r1 r2=>
   cases r2 with
   |cons _ _=>cases r1<;>cases e
   |nil=>
    cases r1 with
    |lst h1 q1=>cases e;exact⟨_,_,rfl,.inl ⟨SqL.same h1 zh,λl hl=>let n:=New.add zh hl (.tup _);k _ _ _ n (.tup (SqT.of av) (q1.same n.z))⟩⟩
    |tup h1 q1=>cases e;exact⟨_,_,rfl,.inr ⟨SqT.same h1 zh,k _ Z H (New.refl zh) (.tup h1 q1)⟩⟩
    |_=>cases e
theorem CA:KJ X "int.bit_length" (λx xs H Q=>∃i,x=.int i/\xs=[]/\Q (.int (Builtin.Int.intBits i)) H):=by
 intro pins s σ H x xs v us Q I rx rs q;obtain⟨i,rfl,rfl,q⟩:=q;obtain⟨t,rfl⟩:=rx;cases rs;exact call_int_bit_length ⟨.int _,H,I.tok _,⟨_,rfl⟩,q⟩
theorem qb{apos:Pos}(ha:EV X a f)(hbase:attributeBase a "bit_length" X.env (eval a X.env)=eval a X.env:=by rfl)(hline:(apos.endLine==pos.line)=true:=by rfl):EV X (.Call (.Attribute a "bit_length" apos) [] [] pos) (o1 f mS):=
 PE.imp (Fa PySem.F.plainAttrs_int PySem.F.slot_int_bit_length PySem.F.type_int_bit_length CA ha hbase hline) λσ H Q h=>by
  obtain⟨H₀,Z₀,Z,δ,d,hh,e,k⟩:=h;obtain⟨x,e1,e⟩:=bind_some e;refine⟨H₀,Z₀,Z,δ,x,hh,e1,λv Z1 H1 hh1 s1 r1=>?_⟩
  cases r1<;>simp[mS]at e;subst e;exact⟨rfl,_,rfl,rfl,k _ Z1 H1 hh1 s1 (.int _)⟩
theorem FG(K:Fg){t T:String}(ht:t = "NoneType"\/ t = "bool"\/ t = "int"\/ t = "str"\/ t = "list"\/ t = "tuple")(hT:T = "int"\/ T = "bool"\/ T = "str"\/ T = "list"\/ T = "tuple"):kitOne K (.type t) (.type T)=some (FT t T):=by
 rcases ht with rfl|rfl|rfl|rfl|rfl|rfl<;>rcases hT with rfl|rfl|rfl|rfl|rfl<;>rfl
theorem Rep.ty{K:Fg}{Z H:Hp}{v:V}{d:D}(zh:Same Z H)(r:Rep K Z v d)(hD:¬vF d=true):(tyN d = "NoneType"\/ tyN d = "bool"\/ tyN d = "int"\/ tyN d = "str"\/ tyN d = "list"\/ tyN d = "tuple"):=by
 cases r<;>simp[tyN]
 .exact absurd rfl hD
 .exact absurd rfl hD
theorem FS{pins:List (Addr×Obj)}{σ:St}{H Z:Hp}{s:Shared}{x:V}{u:Value}{d:D}{T:String}{A:Around}{E:Value->Shared->Prop}{Q:Value->Shared->Prop}(I:Inv X pins σ H s)(zh:Same Z H)(rx:RelV x u)(r:Rep X.K Z x d)(hD:¬vF d=true)
  (hT:T = "int"\/ T = "bool"\/ T = "str"\/ T = "list"\/ T = "tuple") (h:∀tk,Q (.bool (FT (tyN d) T)) {s with toks:=tk}):wpAny (model X.prog X.w) A (call (.builtin "isinstance") [u,.type T]) Q E s:=by
 have ko:=FG X.K (Rep.ty zh r hD) hT;cases r with
 |non=>exact ir I rx (.non) ko h
 |bl b=>exact ir I rx (.bl b) ko h
 |int b=>exact ir I rx (.int b) ko h
 |str b=>exact ir I rx (.str b) ko h
 | @tup a xs ds h1 q1=>
  cases(show u=Value.ref a from rx);obtain⟨its,_,p,_⟩:=I.tuple (SqT.same h1 zh);obtain⟨o,h1,h2,_⟩:=p;exact kia_one PySem.W.kitx_tuple I.kIn ⟨o,h1,h2⟩ ko (λz=>nomatch z) h
 | @lst a xs ds h1 q1=>
  cases(show u=Value.ref a from rx);obtain⟨its,_,p,_⟩:=I.list (SqL.same h1 zh);obtain⟨o,n,h1,h2,_⟩:=p;exact kia_one PySem.W.kitx_list I.kIn ⟨o,h1,h2⟩ ko (λz=>nomatch z) h
 |opq h1=>exact absurd rfl hD
 |gdc _ _ _ _=>exact absurd rfl hD
theorem II(T:String):CallR X (.builtin "isinstance") (λxs H Q=>∃x Z d r,xs=[x,.ty T]/\Same Z H/\Rep X.K Z x d/\gg T d=some r/\∃b,r=.bool b/\Q (.bl b) H):=by
 intro pins s σ H xs us Q I rv h;obtain⟨x,Z,d,r,rfl,zh,rr,e,b,rfl,q⟩:=h;obtain⟨u,w',rfl,r1,r2⟩:=uR rv;cases(show w'=Value.type T from r2);by_cases hD:vF d=true
 .rw[gg,if_pos hD]at e;cases e
 by_cases hT:T = "int"\/ T = "bool"\/ T = "str"\/ T = "list"\/ T = "tuple"
 .rw[gg,if_neg hD,if_pos hT]at e
  cases e;exact FS I zh r1 rr hD hT λtk=>⟨.bl _,H,I.tok _,rfl,q⟩
 .rw[gg,if_neg hD,if_neg hT]at e;cases e
theorem iX{x:Str}{T:String}{p2:Pos}(hg:Gl X "isinstance")(hm:X.mg "isinstance" = none)(hgT:Gl X x)(hmT:X.mg x=none)(hvT:bootBuiltins x=some (.type T))(hnT:x≠"__name__")(hdT:(x==("__debug__":Str))=false)(ha:EV X a f)
  (he:starEach (a::[.Name x p2]) X.env=(false,eval a X.env)::starEach [.Name x p2] X.env:=by rfl) (he2:starEach ((.Name x p2)::[]) X.env=(false,eval (.Name x p2) X.env)::starEach [] X.env:=by rfl) (hpl:(backTo pos (starEach [.Name x p2] X.env)).any (·.1)=false:=by rfl):
  EV X (.Call (.Name "isinstance" p) [a,.Name x p2] [] pos) (o1 f (gg T)):=
 PE.imp (fB (II T) hg hm PyProof.Rows.boot_isinstance (bq ha (bq (vg (v:=.ty T) hgT hmT hvT rfl hnT hdT) dl he2) he) (by decide) (by decide) he hpl) λσ H Q h=>by
  obtain⟨H₀,Z₀,Z,δ,d,hh,e,k⟩:=h;obtain⟨y,e1,e⟩:=bind_some e;refine⟨H₀,Z₀,Z,δ,y,hh,e1,λv Z1 H1 hh1 s1 r1=>⟨v,Z1,y,d,rfl,hh1.zh,r1,e,?_⟩⟩
  have:∃b,d=.bool b:=by
   unfold gg at e;split at e
   .cases e
   .split at e
    .cases e;exact⟨_,rfl⟩
    .cases e
  obtain⟨b,rfl⟩:=this;exact⟨b,rfl,k _ Z1 H1 hh1 s1 (.bl b)⟩
end
section
variable{X:Cx}{a b c e tg iter:Expr}{es:List Expr}{pos p:Pos}{f f1 f2 f3:Dv->Option D}{fs:Dv->Option (List D)}{ft fu:Dv->Option Bool}{st:Stmt}{sts body orelse:List Stmt}{s1 s2 s3:Sf}
theorem aH(he:EV X e f):SV X (.Return (some e) pos) (bi f):=
 PS.imp (zg he) λD σ H h=>by
  obtain⟨H₀,Z₀,Z,δ,r,hh,e,k⟩:=h;obtain⟨x,e1,e⟩:=bind_some e;cases e;exact⟨H₀,Z₀,Z,δ,x,hh,e1,λv Z1 H1 hh1 s1 r1=>k σ H1 Z1 hh1 s1 v r1⟩
theorem aG(i:Nat){x:Str}{pos':Pos}(hN:X.N.Nodup)(he:EV X e f)(hi:X.N[i]? = some x:=by rfl)(hx:sU X.env.scope x:=by first|exact Or.inl rfl|exact Or.inr rfl)(hs:swapsWith e (some (.Name x pos')) pos.line X.env=pure false:=by rfl)
  (hf:X.fn x=true\/X.env.scope.names.lookup x=some .local:=by first|exact .inl rfl|exact .inr rfl|assumption):SV X (.Assign [.Name x pos'] e pos) (aK i f):=
 PS.imp (jT hN hi hx he hs hf) λD σ H h=>by
  obtain⟨H₀,Z₀,Z,δ,r,hh,e,k⟩:=h;obtain⟨x,e1,e⟩:=bind_some e;cases e;exact⟨H₀,Z₀,Z,δ,x,hh,e1,λv Z1 H1 hh1 s1 r1=>k _ H1 Z1 (hh1.set r1) s1⟩
theorem BL(he:EV X e f)(hs:swapsWith e none pos.line X.env=pure false:=by rfl):SV X (.Expr e pos) (Dy f):=
 PS.imp (la he hs) λD σ H h=>by
  obtain⟨H₀,Z₀,Z,δ,r,hh,e,k⟩:=h;obtain⟨x,e1,e⟩:=bind_some e;cases e;exact⟨H₀,Z₀,Z,δ,x,hh,e1,λv Z1 H1 hh1 s1 r1=>k σ H1 Z1 hh1 s1⟩
theorem HE{D:Ends}{σ:St}{H:Hp}{K:Fg}(h:Dt K iP D σ H):D.nx σ H:=by
 obtain⟨H₀,Z₀,Z,δ,r,hh,e,k⟩:=h;cases e;exact k σ H Z hh (Same.refl _)
theorem bd:BV X [] iP:=PSs.imp u8 λD σ H h=>HE h
theorem ai(h1:SV X st s1)(h2:BV X sts s2):BV X (st::sts) (ay s1 s2):=
 PSs.imp (lH h1 h2) λD σ H h=>by
  obtain⟨H₀,Z₀,Z,δ,r,hh,e,k⟩:=h;obtain⟨⟨fl,δ'⟩,e1,e⟩:=bind_some e;refine⟨H₀,Z₀,Z,δ,(fl,δ'),hh,e1,λσ' H' Z' hh' s'=>?_⟩
  cases fl with
  |nx=>exact⟨H₀,Z₀,Z',δ',r,hh',e,λσ2 H2 Z2 hh2 s2=>by
    have:=k σ2 H2 Z2 hh2 (s'.trans s2);obtain⟨fl,δ2⟩:=r;cases fl<;>exact this⟩
  |bk=>cases e;exact k σ' H' Z' hh' s'
  |ct=>cases e;exact k σ' H' Z' hh' s'
  |rt d=>cases e;exact k σ' H' Z' hh' s'
theorem ar(h1:SV X st s1):BV X [st] s1:=u7 h1
theorem bI(hc:TV X c ft)(ha:BV X body s1)(hb:BV X orelse s2):SV X (.If c body orelse pos) (dX ft s1 s2):=
 PS.imp (zi hc ha hb) λD σ H h=>by
  obtain⟨H₀,Z₀,Z,δ,r,hh,e,k⟩:=h;obtain⟨x,e1,e⟩:=bind_some e;refine⟨H₀,Z₀,Z,δ,x,hh,e1,λZ1 H1 hh1 t1=>?_⟩
  cases x with
  |true=>exact⟨H₀,Z₀,Z1,δ,r,hh1,e,λσ2 H2 Z2 hh2 t2=>k σ2 H2 Z2 hh2 (t1.trans t2)⟩
  |false=>exact⟨H₀,Z₀,Z1,δ,r,hh1,e,λσ2 H2 Z2 hh2 t2=>k σ2 H2 Z2 hh2 (t1.trans t2)⟩
theorem Io{K:Fg}(i:Nat){D:Ends}{σ:St}{H:Hp}(h:Dt K (λδ=>s1 (nE i δ)) D σ H):Dt K s1 D σ H:=by
 obtain⟨H₀,Z₀,Z,δ,r,hh,e,k⟩:=h;have e:s1 (nE i δ)=some r:=e;unfold nE at e;split at e
 .rename_i ds q
  obtain⟨Z1,t1,hh1⟩:=hh.frz q;exact⟨H₀,Z₀,Z1,_,r,hh1,e,λσ2 H2 Z2 hh2 t2=>k σ2 H2 Z2 hh2 (t1.trans t2)⟩
 .exact⟨H₀,Z₀,Z,_,r,hh,e,k⟩
theorem lr(i:Nat)(h:SV X st s1):SV X st (λδ=>s1 (nE i δ)):=PS.imp h λD σ H q=>Io i q
def Lk(K:Fg)(g:D->Dv->Option Dv):TG:=λv σ H Q=>∃H₀ Z₀ Z δ d δ',Hold K H₀ Z₀ Z δ σ H/\Rep K Z v d/\g d δ = some δ'/\∀ σ' H' Z',Hold K H₀ Z₀ Z' δ' σ' H'->Same Z Z'->Q σ' H'
def GV(X:Cx)(tg:Expr)(g:D->Dv->Option Dv):Prop:=PG X tg (Lk X.K g)
theorem PG.imp{t t':TG}(h:PG X tg t)(i:∀v σ H Q,t' v σ H Q->t v σ H Q):PG X tg t':=λpins s σ H x v Q I r q=>h pins s σ H x v Q I r (i _ _ _ _ q)
theorem br(i:Nat){x:Str}(hN:X.N.Nodup)(hi:X.N[i]? = some x:=by rfl)(hx:sU X.env.scope x:=by first|exact Or.inl rfl|exact Or.inr rfl)
  (hf:X.fn x=true\/X.env.scope.names.lookup x=some .local:=by first|exact .inl rfl|exact .inr rfl|assumption):GV X (.Name x pos) (gN i):=
 PG.imp (aW hN hi hx hf) λv σ H Q h=>by
  obtain⟨H₀,Z₀,Z,δ,d,δ',hh,r,e,k⟩:=h;cases e;exact k _ H Z (hh.set r) (Same.refl _)
structure ItOk (K:Fg) (Z:Hp) (J:It) (ds:List D):Prop where
 go:∀(i:Nat) (H:Hp),Same Z H->i<ds.length->J.go i H
 yld:∀(i:Nat) (H:Hp) x H' d,Same Z H->ds[i]? = some d->J.yld i H x H'->H'=H/\Rep K Z x d
 stop:∀(i:Nat) (H:Hp),Same Z H->ds.length<=i->J.stop i H
def IY(K:Fg)(f:Dv->Option (List D)):TI:=λσ H R=>∃H₀ Z₀ Z δ ds,Hold K H₀ Z₀ Z δ σ H/\f δ = some ds/\∀J Z' H',Hold K H₀ Z₀ Z' δ σ H'->Same Z Z'->ItOk K Z' J ds->R J H'
def IV(X:Cx)(tg iter:Expr)(f:Dv->Option (List D)):Prop:=PI X tg iter (IY X.K f)
theorem PI.imp{t t':TI}(h:PI X tg iter t)(i:∀ σ H R,t' σ H R->t σ H R):PI X tg iter t':=λpins s σ H R I q=>h pins s σ H R I (i _ _ _ q)
theorem cq{g:D->Dv->Option Dv}(hp:PassesOwn (model X.prog X.w) X.A X.env X.xe)(hc:X.calm=true)(hi:IV X tg iter fs)(hg:GV X tg g)(hb:BV X body s1)
  (hs:∀x,foldedSetIterable iter X.env x=pure x:=by intro _;rfl):SV X (.For tg iter body [] pos) (dF fs g s1):=
 PS.imp (ET hp hc hi hg hb hs) λD σ H h=>by
  obtain⟨H₀,Z₀,Z,δ,r,hh,e,k⟩:=h;obtain⟨ds,e1,e⟩:=bind_some e;refine⟨H₀,Z₀,Z,δ,ds,hh,e1,λJ Z1 H1 hh1 t1 ok=>?_⟩
  refine⟨λi m σ H=>m=ds.length-i/\i<=ds.length/\∃Zc δc,Hold X.K H₀ Z₀ Zc δc σ H/\Same Z1 Zc/\loop g s1 (ds.drop i) δc=some r,⟨ds.length,by simp,zero_le _,Z1,δ,hh1,Same.refl _,e⟩,?_⟩
  rintro i m σ2 H2 ⟨rfl,hi2,Zc,δc,hhc,tc,ec⟩;have zh:Same Z1 H2:=tc.trans hhc.zh;by_cases hlt:i<ds.length
  .refine .inr ⟨ok.go i H2 zh hlt,λσ3 H3=>∃Zc δc,Hold X.K H₀ Z₀ Zc δc σ3 H3/\Same Z1 Zc/\loop g s1 (ds.drop (i+1)) δc=some r,λσ3 H3 q=>⟨ds.length-(i+1),by lia,rfl,hlt,q⟩,λx H3 y=>?_⟩
   have ed:ds[i]? = some ds[i]:=by simp[hlt]
   obtain⟨rfl,rx⟩:=ok.yld i H2 x H3 _ zh ed y;rw[List.drop_eq_getElem_cons hlt]at ec;obtain⟨δ1,g1,ec⟩:=bind_some ec;obtain⟨⟨fl,δ2⟩,g2,ec⟩:=bind_some ec;refine⟨H₀,Z₀,Zc,δc,_,δ1,hhc,rx.same tc,g1,λσ4 H4 Z4 hh4 t4=>⟨H₀,Z₀,Z4,δ1,(fl,δ2),hh4,g2,λσ5 H5 Z5 hh5 t5=>?_⟩⟩
   cases fl with
   |nx=>exact⟨Z5,δ2,hh5,(tc.trans t4).trans t5,ec⟩
   |ct=>exact⟨Z5,δ2,hh5,(tc.trans t4).trans t5,ec⟩
   |bk=>cases ec;exact k σ5 H5 Z5 hh5 (((t1.trans tc).trans t4).trans t5)
   |rt d=>cases ec;exact k σ5 H5 Z5 hh5 (((t1.trans tc).trans t4).trans t5)
  .have e2:ds.drop i=[]:=List.drop_eq_nil_iff.mpr (by lia)
   rw[e2]at ec;cases ec;exact .inl ⟨ok.stop i H2 zh (by lia),k σ2 H2 Zc hhc (t1.trans tc)⟩
theorem yy(n:Dv->Nat)(hp:PassesOwn (model X.prog X.w) X.A X.env X.xe)(hc:TV X c ft)(hb:BV X body s1):SV X (.While c body [] pos) (λδ=>e8 ft s1 (n δ) δ):=
 PS.imp (zf hp hc hb) λD σ H h=>by
  obtain⟨H₀,Z₀,Z,δ,r,hh,e,k⟩:=h;refine⟨λm σ H=>∃Zc δc,Hold X.K H₀ Z₀ Zc δc σ H/\Same Z Zc/\e8 ft s1 m δc=some r,⟨n δ,Z,δ,hh,Same.refl _,e⟩,?_⟩
  rintro m σ2 H2 ⟨Zc,δc,hhc,tc,ec⟩;cases m with
  |zero=>cases ec
  |succ m=>
   obtain⟨cc,g1,ec⟩:=bind_some ec;refine⟨H₀,Z₀,Zc,δc,cc,hhc,g1,λZ3 H3 hh3 t3=>?_⟩
   cases cc with
   |false=>cases ec;exact k σ2 H3 Z3 hh3 (tc.trans t3)
   |true=>
    obtain⟨⟨fl,δ2⟩,g2,ec⟩:=bind_some ec;refine⟨λσ4 H4=>∃Zc δc,Hold X.K H₀ Z₀ Zc δc σ4 H4/\Same Z Zc/\e8 ft s1 m δc=some r,λσ4 H4 q=>⟨m,Nat.lt_succ_self m,q⟩,?_⟩
    refine⟨H₀,Z₀,Z3,δc,(fl,δ2),hh3,g2,λσ5 H5 Z5 hh5 t5=>?_⟩
    cases fl with
    |nx=>exact⟨Z5,δ2,hh5,(tc.trans t3).trans t5,ec⟩
    |ct=>exact⟨Z5,δ2,hh5,(tc.trans t3).trans t5,ec⟩
    |bk=>cases ec;exact k σ5 H5 Z5 hh5 ((tc.trans t3).trans t5)
    |rt d=>cases ec;exact k σ5 H5 Z5 hh5 ((tc.trans t3).trans t5)
theorem Al{K:Fg}{Z:Hp}{lo:Int}{n:Nat}:ItOk K Z (GM lo n) (wV lo n) where
 go:=λi H _ h=>by simpa[wV,GM]using h
 yld:=λi H x H' d _ e y=>by
  obtain⟨rfl,rfl⟩:=y;refine⟨rfl,?_⟩;unfold wV at e;rw[getElem?_map]at e;cases q:(List.range n)[i]? with
  |none=>rw[q]at e;cases e
  |some k=>
   rw[q]at e;cases e;have:k=i:=by
    obtain⟨h,h2⟩:=List.getElem?_eq_some_iff.mp q;simpa using h2.symm
   subst this;exact .int _
 stop:=λi H _ h=>by simpa[wV,GM]using h
theorem fH(hg:Gl X "range")(hm:X.mg "range" = none)(ha:AV X [a] fs)(hs:starEach [a] X.env=[(false,eval a X.env)]:=by rfl):IV X tg (.Call (.Name "range" p) [a] [] pos) (oL fs d6):=
 PI.imp (xg hg hm ha hs) λσ H R h=>by
  obtain⟨H₀,Z₀,Z,δ,ds,hh,e,k⟩:=h;obtain⟨as,e1,e⟩:=bind_some e;refine⟨H₀,Z₀,Z,δ,as,hh,e1,λvs Z1 H1 hh1 t1 r1=>?_⟩
  unfold d6 at e;split at e
  .rename_i j
   split at e
   .rename_i hj
    cases e;cases r1 with
    |cons q1 q2=>
     cases q2;exact⟨j,by rw[q1.int_eq],hj.2,hj.1,k _ Z1 H1 hh1 t1 Al⟩
   .cases e
  .cases e
theorem CN(ha:EV X a f):IV X tg a (oI f zT):=
 PI.imp (Ch ha) λσ H R h=>by
  obtain⟨H₀,Z₀,Z,δ,ds,hh,e,k⟩:=h;obtain⟨y,e1,e⟩:=bind_some e;refine⟨H₀,Z₀,Z,δ,y,hh,e1,λv Z1 H1 hh1 t1 r1=>?_⟩
  cases r1 with
  | @lst l xs ds' h1 q1=>
   cases e;refine⟨l,rfl,⟨xs,SqL.same h1 hh1.zh⟩,k _ Z1 H1 hh1 t1 ⟨λi H2 z hi=>?_,λi H2 x H3 d z ed y=>?_,λi H2 z hi=>⟨xs,SqL.same h1 z,by rw[q1.length];exact hi⟩⟩⟩
   .have hi':i<xs.length:=by rw[q1.length];exact hi
    exact⟨xs,xs[i],SqL.same h1 z,by simp[hi']⟩
   .obtain⟨rfl,y⟩:=y
    obtain⟨v,ev,rv⟩:=q1.get ed;have:=y xs (SqL.same h1 z);rw[ev]at this;cases this;exact⟨rfl,rv⟩
  |_=>cases e
theorem FP(ha:EV X a f):IV X tg a (oI f Jz):=
 PI.imp (EZ ha) λσ H R h=>by
  obtain⟨H₀,Z₀,Z,δ,ds,hh,e,k⟩:=h;obtain⟨y,e1,e⟩:=bind_some e;refine⟨H₀,Z₀,Z,δ,y,hh,e1,λv Z1 H1 hh1 t1 r1=>?_⟩
  cases r1 with
  | @tup l xs ds' h1 q1=>
   cases e;refine⟨l,rfl,⟨xs,SqT.same h1 hh1.zh⟩,k _ Z1 H1 hh1 t1 ⟨λi H2 z hi=>?_,λi H2 x H3 d z ed y=>?_,λi H2 z hi=>⟨xs,SqT.same h1 z,by rw[q1.length];exact hi⟩⟩⟩
   .have hi':i<xs.length:=by rw[q1.length];exact hi
    exact⟨xs,xs[i],SqT.same h1 z,by simp[hi']⟩
   .obtain⟨rfl,y⟩:=y
    obtain⟨v,ev,rv⟩:=q1.get ed;have:=y xs (SqT.same h1 z);rw[ev]at this;cases this;exact⟨rfl,rv⟩
  |_=>cases e
end
def yd(lo st:Int)(n:Nat):It:=⟨λi _=>i<n,λi H x H'=>H'=H/\x=.int (lo+i*st),λi _=>n<=i⟩
theorem qH{P:Program}{w:World}{K:PySem.W.Frag}{tg:Expr}(it:Addr)(lo st:Int)(n:Nat):yb P w K tg (yd lo st n) [it] it (λi h=>IsRangeIter h it (lo+(i:Nat)*st) ((n:Int)-(i:Nat)) st) where
 mem:=by simp
 obj:=λi h st b hb=>by
  have e:b=it:=by simpa using hb
  subst e;exact⟨_,st,λv z=>by
   have z':Data.fields _=Data.cell v:=z;cases z'⟩
 keep:=λi h h' st k=>k it (by simp) _ st
 item:=by
  intro X hP hw hK hc i pins s σ H E I hf st' hg;subst hP hw hK;obtain⟨f0,f1,f2,f3,f4,f5⟩:=hf it (by simp);have W:=Walks.range (prog:=X.prog) (w:=X.w) (I.ok.hd hc) it lo st n;refine W.item i s _ _ hg st' λv h' tk hv st'' kk=>?_
  obtain⟨t,rfl⟩:=hv;have I1:Inv X pins σ H {s with heap:=h',toks:=tk}:=I.turned (λb o hb e=>kk b o (by simpa using hb) e) f0 f1 f3 f4 f5
  exact⟨_,rfl,vN (s:={s with heap:=h',toks:=tk}) (n:="range_iterator") st'' rfl rfl (by decide) ⟨.int (lo+i*st),H,I1,⟨t,rfl⟩,⟨rfl,rfl⟩,st'',λb hb=>(hf b hb).1⟩⟩
 done:=by
  intro X hP hw hK hc i pins s σ H E I hf st' hg;subst hP hw hK;obtain⟨f0,f1,f2,f3,f4,f5⟩:=hf it (by simp);exact wpAny_pyNext_range_end (I.ok.hd hc) st' (by have:n<=i:=hg;lia) λh' eb=>⟨rfl,I.turned (t':=s.toks) (λb o hb e=>eb b o hb e) f0 f1 f3 f4 f5⟩
 self:=λ_ _ _ _ _ st h=>wpAny_pyIter_rangeiter st h
theorem tG{a b c:Int}(ha:-(2^40)<=a)(ha':a<2^40)(hb:-(2^40)<=b)(hb':b<2^40)(hc:0<c)(hc':c<2^20):Builtin.Range.small a b c=true:=by
 have h0:0<=(b-a-1)/c\/b-a-1<0:=by
  rcases Int.lt_or_le (b-a-1) 0 with h|h
  .exact .inr h
  .exact .inl (Int.ediv_nonneg h (by lia))
 have h1:0<=b-a-1->(b-a-1)/c<=b-a-1:=λh=>Int.ediv_le_self _ h
 have h2:0<=b-a-1->(b-a-1)/c*c<=b-a-1:=λh=>Int.ediv_mul_le _ (by lia)
 have hp:0<=(b-a-1)/c->0<=(b-a-1)/c*c:=λh=>Int.mul_nonneg h (by lia)
 unfold Builtin.Range.small Builtin.Range.rangeSize;simp only[Builtin.Range.rangeFitsLong,Bool.and_eq_true,Bool.or_eq_true,decide_eq_true_eq,beq_iff_eq,if_pos (show c>0 from hc)];split<;>lia
section
variable{X:Cx}{a b c tg:Expr}{ta:TA}{p pos:Pos}{fs:Dv->Option (List D)}
theorem wZ{pins:List (Addr×Obj)}{σ:St}{H:Hp}{s:Shared}{R:It->Hp->Prop}{E:Value->Shared->Prop}{lo hi st:Int}{t u v:Tok}{tk:Nat}(I:Inv X pins σ H s)(h1:-(2^40)<=lo)(h2:lo<2^40)(h3:-(2^40)<=hi)(h4:hi<2^40)(h5:0<st)(h6:st<2^20)
  (q:R (yd lo st (rngN lo hi st)) H):wpAny (model X.prog X.w) X.A (pyIter (.ref s.heap.objs.size)) (KI X pins σ tg R) E {s with heap:=s.heap.push {cls:=.type "range",data:=.fields #[.int lo t,.int hi u,.int st v]},toks:=tk}:=by
 refine wpAny_pyIter_range (IsRange.new ..) (tG h1 h2 h3 h4 h5 h6) ?_;have I1:Inv X pins σ H {s with heap:=s.heap.push {cls:=.type "range",data:=.fields #[.int lo t,.int hi u,.int st v]},toks:=tk}:=I.kept λb o e=>get?_push_of_some _ e
 refine⟨(s.heap.push {cls:=.type "range",data:=.fields #[.int lo t,.int hi u,.int st v]}).objs.size,[(s.heap.push {cls:=.type "range",data:=.fields #[.int lo t,.int hi u,.int st v]}).objs.size],_,_,H,rfl,
  I1.kept (t':=tk) λb o e=>get?_push_of_some _ e,qH _ lo st (rngN lo hi st),?_,λb hb=>?_,q⟩
 .have e1:lo+((0:Nat):Int)*st=lo:=by simp
  have e2:((rngN lo hi st:Nat):Int)-((0:Nat):Int)=Builtin.Range.rangeSize lo hi st:=by
   unfold rngN Builtin.Range.rangeSize;rw[if_pos (show st>0 from h5)];split
   .have:0<=(hi-lo-1)/st:=Int.ediv_nonneg (by lia) (by lia)
    lia
   .rfl
  show IsRangeIter _ _ (lo+((0:Nat):Int)*st) (((rngN lo hi st:Nat):Int)-((0:Nat):Int)) st;rw[e1,e2];exact get?_push_size _ rfl
 .have e:b=(s.heap.push {cls:=.type "range",data:=.fields #[.int lo t,.int hi u,.int st v]}).objs.size:=by simpa using hb
  subst e;exact I1.fpOk (le_refl _) (I1.hok.fresh (le_refl _))
def Ih(ta:TA):TI:=λσ H R=>ta σ H λvs H1=>∃i j k:Int,vs=[.int i,.int j,.int k]/\(-(2^40)<=i/\i<2^40/\ -(2^40)<=j/\j<2^40/\0<k/\k<2^20)/\R (yd i k (rngN i j k)) H1
theorem xf(hg:Gl X "range")(hm:X.mg "range" = none)(ha:PA X [a,b,c] ta)(hs:starEach [a,b,c] X.env=[(false,eval a X.env),(false,eval b X.env),(false,eval c X.env)]:=by rfl)(hs2:starEach [b,c] X.env=[(false,eval b X.env),(false,eval c X.env)]:=by rfl):
  PI X tg (.Call (.Name "range" p) [a,b,c] [] pos) (Ih ta):=by
 intro pins s σ H R I h;refine Call_ (d9 I hg hm boot_range (PyProof.Rows.callWith_type1 (bB (ha pos pins s σ H _ I h) λus s1 ⟨vs,H1,I1,r1,q1⟩=>?_) (by rw[hs,hs2]) (by rw[hs2];rfl)))
 obtain⟨i,j,k,e,⟨q1,q2,q3,q4,q5,q6⟩,q⟩:=q1;subst e;cases r1 with
 |cons r rr=>
  cases rr with
  |cons r' rr=>
   cases rr with
   |cons r'' rr=>
    cases rr;obtain⟨t,rfl⟩:=r;obtain⟨t',rfl⟩:=r';obtain⟨t'',rfl⟩:=r'';exact call_range_3 (by lia) (wZ I1 q1 q2 q3 q4 q5 q6 q) (.inl (PyProof.noPylong_small (by lia)))
theorem xC{K:Fg}{Z:Hp}{lo st:Int}{n:Nat}:ItOk K Z (yd lo st n) (oj lo st n) where
 go:=λi H _ h=>by simpa[oj,yd]using h
 yld:=λi H x H' d _ e y=>by
  obtain⟨rfl,rfl⟩:=y;refine⟨rfl,?_⟩;unfold oj at e;rw[getElem?_map]at e;cases q:(List.range n)[i]? with
  |none=>rw[q]at e;cases e
  |some k=>
   rw[q]at e;cases e;have:k=i:=by
    obtain⟨h,h2⟩:=List.getElem?_eq_some_iff.mp q;simpa using h2.symm
   subst this;exact .int _
 stop:=λi H _ h=>by simpa[oj,yd]using h
theorem xB(hg:Gl X "range")(hm:X.mg "range" = none)(ha:AV X [a,b,c] fs)(hs:starEach [a,b,c] X.env=[(false,eval a X.env),(false,eval b X.env),(false,eval c X.env)]:=by rfl)(hs2:starEach [b,c] X.env=[(false,eval b X.env),(false,eval c X.env)]:=by rfl):
  IV X tg (.Call (.Name "range" p) [a,b,c] [] pos) (oL fs om):=
 PI.imp (xf hg hm ha hs hs2) λσ H R h=>by
  obtain⟨H₀,Z₀,Z,δ,ds,hh,e,k⟩:=h;obtain⟨as,e1,e⟩:=bind_some e;refine⟨H₀,Z₀,Z,δ,as,hh,e1,λvs Z1 H1 hh1 t1 r1=>?_⟩
  unfold om at e;split at e
  .rename_i i j m
   split at e
   .rename_i hj
    cases e;cases r1 with
    |cons q1 q2=>
     cases q2 with
     |cons q2 q3=>
      cases q3 with
      |cons q3 q4=>
       cases q4;exact⟨i,j,m,by rw[q1.int_eq,q2.int_eq,q3.int_eq],hj,k _ Z1 H1 hh1 t1 xC⟩
   .cases e
  .cases e
end
section
variable{X:Cx}{e:Expr}{lo hi:Option Expr}{p2 pos:Pos}{f:Dv->Option D}
def Lj(K:Fg)(f:Dv->Option (Option Int)):TO:=λσ H Q=>∃H₀ Z₀ Z δ d,Hold K H₀ Z₀ Z δ σ H/\f δ = some d/\∀Z' H',Hold K H₀ Z₀ Z' δ σ H'->Same Z Z'->Q d H'
def OV(X:Cx)(e:Option Expr)(f:Dv->Option (Option Int)):Prop:=PO X e (Lj X.K f)
theorem PO.imp{eo:Option Expr}{t t':TO}(h:PO X eo t)(i:∀ σ H Q,t' σ H Q->t σ H Q):PO X eo t':=λpins s σ H Q I q=>h pins s σ H Q I (i _ _ _ q)
theorem vj:OV X none J4:=PO.imp Cf λσ H Q h=>by
 obtain⟨H₀,Z₀,Z,δ,d,hh,e,k⟩:=h;cases e;exact k Z H hh (Same.refl _)
theorem lg(h:EV X e f):OV X (some e) (oP f):=PO.imp (Ce h) λσ H Q h=>by
 obtain⟨H₀,Z₀,Z,δ,d,hh,e,k⟩:=h;obtain⟨x,e1,e⟩:=bind_some e;refine⟨H₀,Z₀,Z,δ,x,hh,e1,λv Z1 H1 hh1 t1 r1=>?_⟩
 cases r1<;>simp[asI]at e;subst e;exact⟨_,rfl,k Z1 H1 hh1 t1⟩
theorem Reps.cut{K:Fg}{Z:Hp}{vs:List V}{ds:List D}(r:Reps K Z vs ds)(lo hi:Option Int):Reps K Z (nG vs lo hi) (nH ds lo hi):=by
 unfold nG nH;rw[r.length];exact(r.drop _).take _
theorem uz{ds:List D}{lo hi:Option Int}(h1:HT.sIx ds.length 0 lo=0)(h2:HT.sIx ds.length ds.length hi=ds.length):nH ds lo hi=ds:=by
 unfold nH;rw[h1,h2];simp
section
variable{prog:Program}{w:World}{A:Around}{E:Value->Shared->Prop}{s:Shared}
theorem ph{t sl:Addr}{items:Array Value}{vl vu:Value}{lo hi:Option Int}{Q:Value->Shared->Prop}(ht:IsTup s.heap t items)(hs:s.heap.IsSliceOf sl vl vu .none)(pl:IsPart vl lo)(pu:IsPart vu hi)
  (h1:HT.sIx items.size 0 lo=0) (h2:HT.sIx items.size items.size hi=items.size) (h:Q (.ref t) s):wpAny (model prog w) A (getItem (.ref t) (.ref sl)) Q E s:=by
 obtain⟨osl,hos,hcs,hds⟩:=id hs;have ty:s.TypeIs (.ref sl) "slice":=⟨osl,hos,hcs⟩;unfold getItem
 try with_reducible refine wpAny_holding ?_
 first|refine wpAny_bind (wpAny_pure ?_)|skip
 refine wpAny_bind (wpAny_sequenceKey ht.typeIs (by decide) ?_);refine wpAny_bind (wpAny_callSpecial?_slot (name:=Str.ofString "__getitem__") ht.typeIs PyProof.Rows.slot_tuple_getitem
  (wpAny_call_entry PyProof.Rows.slot_tuple_getitem ht.typeIs PyProof.Rows.entry_tuple_getitem ?_ (PyProof.Rows.args_tuple_getitem _ _)))
 show wpAny _ _ (Builtin.Tuple.tupleItemsOf (.ref t) >>= _) _ _ s;refine wpAny_bind (tupleItemsOf_ ht ?_);refine wpAny_bind (wpAny_typeOf ty ?_);rw[if_pos (by decide)];refine wpAny_bind (HT.fh hs pl pu ?_);have yes:(((((HT.sIx items.size 0 lo:Nat):Int)==0)&&((1:Int)==1))&&((HT.sIx items.size items.size hi-HT.sIx items.size 0 lo)==items.size))=true:=by
  rw[h1,h2];simp
 show wpAny _ _ (if(((((HT.sIx items.size 0 lo:Nat):Int)==0)&&((1:Int)==1))&&((HT.sIx items.size items.size hi-HT.sIx items.size 0 lo)==items.size))=true then _ else _) _ _ s;rw[if_pos yes];unfold Builtin.Tuple.tupleIsExact;refine wpAny_bind (wpAny_bind (wpAny_typeOf ht.typeIs (wpAny_pure ?_)));rw[if_pos (by decide)];exact wpAny_bind (wpAny_rule (wpAny_pure ⟨_,rfl,wpAny_pure h⟩))
end
def JU(K:PySem.W.Frag):V->Option Int->Option Int->Hp->VK->Prop:=λx lo hi H Q=>∃a xs,x=.ref a/\SqT K H a xs/\HT.sIx xs.length 0 lo=0/\HT.sIx xs.length xs.length hi=xs.length/\Q (.ref a) H
theorem B1:SlR X (JU X.K):=by
 intro pins s σ H x v vl vu lo hi sl Q I rx hs pl pu h;obtain⟨a,xs,rfl,hx,w1,w2,q⟩:=h;cases rx;obtain⟨its,r,ht,hz⟩:=I.tuple hx;have hlen:its.toArray.size=xs.length:=by rw[size_toArray];exact r.length.symm
 refine⟨"tuple",_,PyProof.Rows.slot_tuple_getitem.lookup,ht.typeIs,?_⟩;exact ph ht hs pl pu (by rw[hlen];exact w1) (by rw[hlen];exact w2) ⟨.ref a,H,I,rfl,q⟩
theorem mH{fl fu:Dv->Option (Option Int)}(he:EV X e f)(hl:OV X lo fl)(hu:OV X hi fu):EV X (.Subscript e (.Slice lo hi none p2) pos) (Jf f fl fu):=
 PE.imp (zt (sl_list.or (sl_tup.or B1)) he hl hu) λσ H Q h=>by
  obtain⟨H₀,Z₀,Z,δ,d,hh,e,k⟩:=h;obtain⟨x,e1,e⟩:=bind_some e;obtain⟨i,e2,e⟩:=bind_some e;obtain⟨j,e3,e⟩:=bind_some e;refine⟨H₀,Z₀,Z,δ,x,hh,e1,λv Z1 H1 hh1 t1 r1=>⟨H₀,Z₀,Z1,δ,i,hh1,e2,λZ2 H2 hh2 t2=>⟨H₀,Z₀,Z2,δ,j,hh2,e3,λZ3 H3 hh3 t3=>?_⟩⟩⟩
  have r3:=(r1.same t2).same t3;have tt:=(t1.trans t2).trans t3;cases r3 with
  | @lst a xs ds h1 q1=>
   cases e;refine .inl ⟨_,_,rfl,SqL.same h1 hh3.zh,λp hp=>?_⟩
   have n:=New.add hh3.zh hp (.lst (nG xs i j));exact k _ _ _ (hh3.new n) (tt.trans n.z) (.lst (SqL.of av) ((q1.cut i j).same n.z))
  | @tup a xs ds h1 q1=>
   simp only[EA]at e;cases e;by_cases hw:HT.sIx ds.length 0 i=0/\HT.sIx ds.length ds.length j=ds.length
   .refine .inr (.inr ⟨_,_,rfl,SqT.same h1 hh3.zh,by rw[q1.length];exact hw.1,by rw[q1.length];exact hw.2,?_⟩)
    refine k _ _ _ hh3 tt ?_;rw[uz hw.1 hw.2];exact .tup h1 q1
   .refine .inr (.inl ⟨_,_,rfl,SqT.same h1 hh3.zh,by rw[q1.length];exact hw,λp hp=>?_⟩)
    have n:=New.add hh3.zh hp (.tup (nG xs i j));exact k _ _ _ (hh3.new n) (tt.trans n.z) (.tup (SqT.of av) ((q1.cut i j).same n.z))
  |_=>cases e
end
structure FunV (K:PySem.W.Frag) (x qual:Str) (st:Stmt) (f:Addr) (fd:FuncData) (dV:Value):Prop where
 ex:∃(oc:Value) (od:Option Addr) (kV doc pm:Value) (an:Option Addr) (cdv ct:Value) (osl:Array (Option Value)),
  fd=PySem.W.fnOf x qual (eU st) (ck st) (aj st) dV kV doc pm an cdv ct/\K.lookup f=some ⟨oc,od,.func fd,osl⟩/\codeIn K cdv qual=true
 kp:keepIn K (.ref f)=true
section
variable{P:Program}{w:World}{K:PySem.W.Frag}{mg:Str->Option Value}{base:Heap}
theorem wL{N:List Str}{vs:List V}{as:List D}{Z:Hp}(r:Reps K Z vs as):∀(i:Nat) d,(aJ N as)[i]? = some (.fz d)->∃v,(dL N vs)[i]? = some (some v)/\Rep K Z v d:=by
 intro i d e;unfold aJ at e;unfold L2.dL;by_cases hi:i<as.length
 .rw[getElem?_append_left (by simpa using hi),getElem?_map]at e
  cases q:as[i]? with
  |none=>rw[q]at e;cases e
  |some d'=>
   rw[q]at e;cases e;obtain⟨v,ev,rv⟩:=r.get q;exact⟨v,by rw[getElem?_append_left (by simpa[r.length]using hi),getElem?_map,ev];rfl,rv⟩
 .rw[getElem?_append_right (by simpa using hi),getElem?_replicate]at e
  split at e<;>cases e
theorem nZ{N:List Str}{as:List D}:∀(i:Nat) ds,(aJ N as)[i]?≠some (.own ds):=by
 intro i ds e;unfold aJ at e;by_cases hi:i<as.length
 .rw[getElem?_append_left (by simpa using hi),getElem?_map]at e
  cases q:as[i]? with
  |none=>rw[q]at e;cases e
  |some d'=>rw[q]at e;cases e
 .rw[getElem?_append_right (by simpa using hi),getElem?_replicate]at e
  split at e<;>cases e
theorem yD{N:List Str}{as:List D}:∀(i:Nat) ds,(aJ N as)[i]?≠some (.fr ds):=by
 intro i ds e;unfold aJ at e;by_cases hi:i<as.length
 .rw[getElem?_append_left (by simpa using hi),getElem?_map]at e
  cases q:as[i]? with
  |none=>rw[q]at e;cases e
  |some d'=>rw[q]at e;cases e
 .rw[getElem?_append_right (by simpa using hi),getElem?_replicate]at e
  split at e<;>cases e
theorem eu{N:List Str}{vs:List V}{as:List D}{Z H:Hp}(zh:Same Z H)(r:Reps K Z vs as):Hold K H Z Z (aJ N as) (dL N vs) H:=
 ⟨zh,Same.refl _,Same.refl _,λ_ _=>rfl,by simp[aJ,L2.dL,r.length],wL r,λi ds e=>absurd e (nZ i ds),λi j ds es a _ e=>absurd e (nZ i ds),λi ds e=>absurd e (yD i ds),NoF.refl _⟩
theorem Kv{x qual:Str}{st:Stmt}{f:Addr}{fd:FuncData}{dV:Value}{N ps:List Str}{k:Nat}{g:List D->Option D}{b:Sf}(F:FunV K x qual st f fd dV)(S:FnScope N ps (aj st))(len:∀as d,g as=some d->as.length=ps.length)
  (hb:∀(cdv:Value) (A:Around) (outer:List Env) (s:Shared) (H:Hp) (E:XK),Room k (A.deeper (envOfC qual (aj st) s.heap.objs.size f cdv))->BV (dS dH P w K mg base N qual (aj st) f cdv A outer s H E).nox (ck st) b)
  (hg:∀as d,g as=some d->∃ δ',b (aJ N as)=some (.rt d,δ')\/(d=.none/\b (aJ N as)=some (.nx,δ'))):FnOk P w K mg base dH (k+1) f fd ps (io K g):=by
 obtain⟨oc,od,kV,doc,pm,an,cdv,ct,osl,rfl,lk,hcd⟩:=F.ex;refine vZ lk hcd S (λvs H Q E h=>?_) λA outer s H vs Q E hr hsp=>?_
 .obtain⟨Z,as,d,zh,r,e,_⟩:=h
  rw[r.length];exact len as d e
 .refine⟨_,PSs.nox (hb cdv A outer s H E hr),?_⟩
  obtain⟨Z,as,d,zh,r,e,kk⟩:=hsp;have hh:=eu (N:=N) zh r;have fin:∀{σ':St} {H' Z':Hp} {δ':Dv},Hold K H Z Z' δ' σ' H'->Same Z Z'->New Z H Z' H':=λh' z'=>⟨z',h'.h0,h'.zh,h'.zb,h'.nf⟩
  obtain⟨δ',e2|⟨rfl,e2⟩⟩:=hg as d e
  .exact⟨H,Z,Z,_,_,hh,e2,λσ' H' Z' h' z' v rv=>kk v Z' H' (fin h' z') rv⟩
  .exact⟨H,Z,Z,_,_,hh,e2,λσ' H' Z' h' z'=>kk _ Z' H' (fin h' z') .non⟩
theorem FunV.binds{x qual:Str}{st:Stmt}{f:Addr}{fd:FuncData}{ps:List Str}(F:FunV K x qual st f fd .none)
  (h:∀(kV doc pm:Value) (an:Option Addr) (cdv ct:Value) (us:List Value),us.length=ps.length->bindArgs (PySem.W.fnOf x qual (eU st) (ck st) (aj st) .none kV doc pm an cdv ct) ⟨us,[]⟩=pure (ps.zip us)):Binds K fd ps []:=by
 obtain⟨oc,od,kV,doc,pm,an,cdv,ct,osl,rfl,lk,hcd⟩:=F.ex;exact .all (h kV doc pm an cdv ct)
theorem vU{x qual:Str}{st:Stmt}{f:Addr}{dV oc:Value}{od an:Option Addr}{osl:Array (Option Value)}{kV doc pm cdv ct:Value}(l:K.lookup f=some ⟨oc,od,.func (PySem.W.fnOf x qual (eU st) (ck st) (aj st) dV kV doc pm an cdv ct),osl⟩)
  (c:codeIn K cdv qual=true) (k:keepIn K (.ref f)=true):FunV K x qual st f (PySem.W.fnOf x qual (eU st) (ck st) (aj st) dV kV doc pm an cdv ct) dV:=⟨⟨oc,od,kV,doc,pm,an,cdv,ct,osl,rfl,l,c⟩,k⟩
def qL(K:PySem.W.Frag):Sp:=λvs H Q _=>∃(a:Addr) (ns:List Int),vs=[.ref a]/\SqL K H a (ns.map V.int)/\ns.length<=63/\∀H',Q (.bl true) H'
theorem HW{g:List D->Option D}{k:Nat}{f:Addr}{fd:FuncData}(F:FnOk P w K mg base dH k f fd ["script"] (io K g))(hg:∀ns:List Int,ns.length<=63->g [.list (ns.map .int)]=some (.bool true)):FnOk P w K mg base dH k f fd ["script"] (qL K):=
 F.imp λvs H Q E h=>by
  obtain⟨a,ns,rfl,hS,hl,q⟩:=h;exact⟨H,[.list (ns.map .int)],.bool true,Same.refl _,.cons (.lst hS (Reps.ints ns)) .nil,hg ns hl,λv Z' H' _ r=>by cases r;exact q H'⟩
end
theorem GR{k:Nat}{l:PySem.W.OpenLaw}{q:Program}{loose:List Str}{XP:(Str->Option Value)->Heap->Prop}{YP:World->Heap->Prop}{d:DefRec}{K:Params->PySem.W.Frag}(hn:l.most=some 63)(hr:Room k callerA)(hdf:d.params.defaults=[])
  (hY:∀(w:World) (h:Heap),YP w h->(K w.params).In h)
  (F:∀(w:World) (mg:Str->Option Value) (fa:Addr) (h:Heap),(K w.params).In h->h.Ns mainGlobals mg->mg d.name=some (.ref fa)->
   ∃fd:FuncData,(∀(s:Shared) (u:Value),BindsTo s fd ⟨[u],[]⟩ [("script",u)])/\∀base:Heap,(K w.params).In base->base.Ns mainGlobals mg->FnOk l.prog w (K w.params) mg base dH k fa fd ["script"] (qL (K w.params)))
  (hTd:∀(w:World),∀x∈lamDefs,tabIn (K w.params) x=none\/∃d',(recsOf q).find? (λe=>e.name==x)=some d') (hTn:∀(w:World),∀P∈cL (K w.params),(K w.params).lookup P=none):
  PySem.W.WalkO q loose XP YP l.row.toRowW d [] (λf vs=>PySem.call f vs):=
 L2.Bx (n:=63) (k:=k) (x:="script") (CX:=λ_=>dH) (sp:=λw=>qL (K w.params)) hn (by decide) hdf hr hY F (λ_ _ a ns hl _ hS=>⟨a,ns,rfl,hS,hl,λ_=>rfl⟩) (λ_ _ _ _ _ z=>z) hTd hTn
section
variable{P:Program}{w:World}{K:PySem.W.Frag}{mg:Str->Option Value}{base:Heap}
theorem fM{x qual:Str}{st:Stmt}{f:Addr}{fd:FuncData}{dV:Value}{N ps:List Str}{k:Nat}{b:Sf}(F:FunV K x qual st f fd dV)(S:FnScope N ps (aj st))
  (hb:∀(cdv:Value) (A:Around) (outer:List Env) (s:Shared) (H:Hp) (E:XK),Room k (A.deeper (envOfC qual (aj st) s.heap.objs.size f cdv))->BV (dS dH P w K mg base N qual (aj st) f cdv A outer s H E).nox (ck st) b):
  FnOk P w K mg base dH (k+1) f fd ps (io K (bC N ps.length b)):=by
 refine Kv F S (λas d h=>?_) hb λas d h=>?_
 .unfold bC at h
  split at h
  .assumption
  .cases h
 .unfold bC at h
  split at h
  .obtain⟨⟨fl,δ'⟩,e,h⟩:=bind_some h
   cases fl with
   |nx=>cases h;exact⟨δ',.inr ⟨rfl,e⟩⟩
   |rt d=>cases h;exact⟨δ',.inl e⟩
   |bk=>cases h
   |ct=>cases h
  .cases h
structure Cal (P:Program) (w:World) (K:PySem.W.Frag) (mg:Str->Option Value) (base:Heap) (x:Str) (k:Nat) (g:List D->Option D) (dd:List D):Prop where
 ex:∃(fa:Addr) (fd:FuncData) (ps:List Str) (ds:List Value) (dv:List V),FnOk P w K mg base dH k fa fd ps (io K g)/\mg x=some (.ref fa)/\keepIn K (.ref fa)=true/\Binds K fd ps ds/\Vals dv ds/\∀Z,Reps K Z dv dd
theorem Cal.mk0{x:Str}{k:Nat}{g:List D->Option D}{fa:Addr}{fd:FuncData}{ps:List Str}(F:FnOk P w K mg base dH k fa fd ps (io K g))(hm:mg x=some (.ref fa))(hk:keepIn K (.ref fa)=true)(hb:Binds K fd ps []):Cal P w K mg base x k g []:=
 ⟨⟨fa,fd,ps,[],[],F,hm,hk,hb,.nil,λ_=>.nil⟩⟩
end
section
variable{X:Cx}{e:Expr}{es:List Expr}{p pos:Pos}{fs:Dv->Option (List D)}
theorem F6{k:Nat}{x:Str}{g:List D->Option D}{dd:List D}(C:Cal X.prog X.w X.K X.mg X.base x k g dd)(hr:Room k X.A)(hg:Gl X x)(ha:AV X (e::es) fs)(hdb:(x==("__debug__":Str))=false:=by decide)(he:starEach (e::es) X.env=(false,eval e X.env)::starEach es X.env:=by rfl)
  (hpl:(backTo pos (starEach es X.env)).any (·.1)=false:=by rfl):EV X (.Call (.Name x p) (e::es) [] pos) (os fs λas=>g (as++dd)):=by
 obtain⟨fa,fd,ps,ds,dv,F,hm,hk,hb,hd,hdd⟩:=C.ex;exact C3 F hr hg hm hk hb hd hdd vh ha hdb he hpl
variable{tg a:Expr}{f:Dv->Option D}
theorem aU(ha:EV X a f):IV X tg a (oI f aV):=by
 intro pins s σ H R I h;obtain⟨H₀,Z₀,Z,δ,ds,hh,e,k⟩:=h;obtain⟨y,e1,e⟩:=bind_some e;cases y with
 |list xs=>exact CN ha pins s σ H R I ⟨H₀,Z₀,Z,δ,ds,hh,by unfold oI;rw[e1];exact e,k⟩
 |tuple xs=>exact FP ha pins s σ H R I ⟨H₀,Z₀,Z,δ,ds,hh,by unfold oI;rw[e1];exact e,k⟩
 |_=>cases e
end
def i4(env:Env):List (Str×NameKind)->List (Str×Addr)->List (Str×Addr)
 |[],cs=>cs
 | (n,k)::r,cs=>if k == .free then i4 env r ((n,(env.cells.lookup n).getD 0)::cs)else i4 env r cs
theorem mC{env:Env}:∀(l:List (Str×NameKind)) (cs:List (Str×Addr)),(∀y∈l,y.2=.free->∃c,env.cells.lookup y.1=some c)->
  (forIn l cs λ(x:Str×NameKind) (r:List (Str×Addr))=>(if(x.2==NameKind.free)=true then do let c <-cellOf env x.1;pure (ForInStep.yield ((x.1,c)::r))else pure (ForInStep.yield r):Sem (ForInStep (List (Str×Addr)))))=pure (i4 env l cs)
 |[],cs,_=>rfl
 | (n,k)::r,cs,h=>by
  have ih:=λcs'=>mC r cs' λy hy=>h y (List.mem_cons_of_mem _ hy)
  rw[List.forIn_cons];cases hk:k==NameKind.free with
  |true=>
   have hk':k=.free:=by simpa using hk
   obtain⟨c,ec⟩:=h (n,k) List.mem_cons_self hk';have e1:cellOf env n=pure c:=by unfold cellOf;rw[ec]
   simp only[hk,if_true,e1,pure_bind,i4,ec,Option.getD_some];exact ih _
  |false=>
   simp only[hk,Bool.false_eq_true,if_false,pure_bind,i4];exact ih _
theorem dz{scope:Scope}{env:Env}(h:∀y∈scope.names,y.2=.free->∃c,env.cells.lookup y.1=some c):closureFor scope env=pure (i4 env scope.names []):=by
 simp only[closureFor];have:=mC (env:=env) scope.names [] h
 first
  | (rw[this];rfl)
  | (simp only[this];rfl)
  | (unfold closureFor;simp_all)
theorem bg{env:Env}:∀(l:List (Str×NameKind)) (cs:List (Str×Addr)) (y:Str) (c:Addr),(∀z∈l,z.2=.free->∃c,env.cells.lookup z.1=some c)->(i4 env l cs).lookup y=some c->cs.lookup y=some c\/env.cells.lookup y=some c
 |[],cs,y,c,_,e=>.inl e
 | (n,k)::r,cs,y,c,h,e=>by
  unfold i4 at e;have hr:=λz hz=>h z (List.mem_cons_of_mem _ hz)
  split at e
  .rename_i hk
   rcases bg r _ y c hr e with q|q
   .rw[lookup_cons]at q
    cases hy:y==n with
    |true=>
     have hy':y=n:=by simpa using hy
     subst hy';rw[hy]at q;obtain⟨c',ec⟩:=h (y,k) List.mem_cons_self (by simpa using hk);simp only[ec,Option.getD_some]at q;cases q;exact .inr ec
    |false=>rw[hy]at q;exact .inl q
   .exact .inr q
  .exact bg r cs y c hr e
theorem jI{env:Env}:∀(l:List (Str×NameKind)) (cs:List (Str×Addr)) (y:Str),((y,NameKind.free)∈l\/(cs.lookup y).isSome=true)->((i4 env l cs).lookup y).isSome=true
 |[],cs,y,h=>by
  rcases h with h|h
  .cases h
  .exact h
 | (n,k)::r,cs,y,h=>by
  unfold i4;split
  .rename_i hk
   refine jI r _ y ?_;rcases h with h|h
   .rcases List.mem_cons.mp h with e|e
    .cases e;exact .inr (by simp[lookup_cons])
    .exact .inl e
   .refine .inr ?_
    rw[lookup_cons];cases hy:y==n with
    |true=>rfl
    |false=>exact h
  .rename_i hk
   refine jI r cs y ?_;rcases h with h|h
   .rcases List.mem_cons.mp h with e|e
    .cases e;exact absurd rfl hk
    .exact .inl e
   .exact .inr h
theorem d7{env:Env}{y:Str}:∀(l:List (Str×NameKind)),(∀z∈l,z.2≠.cell)->
  (((l.map λ(n,k)=>if(k==NameKind.free&&env.scope.kind == .function&&env.kindOf n==some .cell)then(n,NameKind.cell)else(n,k)).lookup y=some .cell\/(l.map λ(n,k)=>if(k==NameKind.free&&env.scope.kind == .function&&env.kindOf n==some .cell)then(n,NameKind.cell)else(n,k)).lookup y=some .free)↔l.lookup y=some .free)
 |[],_=>by simp
 | (n,k)::r,h=>by
  have ih:=d7 (env:=env) (y:=y) r λz hz=>h z (List.mem_cons_of_mem _ hz)
  have hk:k≠.cell:=h (n,k) List.mem_cons_self;rw[List.map_cons];cases hy:y==n with
  |true=>
   by_cases hc:(k==NameKind.free&&env.scope.kind == .function&&env.kindOf n==some .cell)=true
   .have hf:k=.free:=by
     simp only[Bool.and_eq_true]at hc;simpa using hc.1.1
    simp only[if_pos hc,lookup_cons,hy];simp[hf]
   .simp only[if_neg hc,lookup_cons,hy]
    simp[hk]
  |false=>
   by_cases hc:(k==NameKind.free&&env.scope.kind == .function&&env.kindOf n==some .cell)=true
   .simp only[if_pos hc,lookup_cons,hy];exact ih
   .simp only[if_neg hc,lookup_cons,hy];exact ih
def cw(X:Cx)(scope:Scope)(N:List Str)(C:Addr)(s₀:Shared)(H₀:Hp)(ex:List Addr):Cx:=
 {X with N:=N,s₀:=s₀,H₀:=H₀,env:=compEnvC scope (i4 X.env scope.names []) C X.env,outer:=X.stack,stack:=X.stack,ex:=ex,fn:=λ_=>false,pn:=[],xe:=λ_ _=>False}
structure BlkOk (on:List (Str×NameKind)) (ON:List Str) (scope:Scope) (vars:List Str) (caps:List (Nat×Str)):Prop where
 kind:scope.kind=.function
 cell:∀y∈scope.names,y.2≠.cell
 names:∀y∈scope.names,y.2=.local->scope.names.lookup y.1=some .local
 free:∀y∈scope.names,y.2=.free->on.lookup y.1=some .cell\/on.lookup y.1=some .free
 cap:∀p∈caps,ON[p.1]? = some p.2/\scope.names.lookup p.2=some .free
section
variable{X:Cx}{pins:List (Addr×Obj)}{σ:St}{H H':Hp}{s s':Shared}{scope:Scope}{vars:List Str}{caps:List (Nat×Str)}{fp:List Addr}{C:Addr}
def eN(σ:St)(caps:List (Nat×Str)):St:=caps.map λp=>(σ[p.1]?).getD none
theorem BlkOk.cells(B:BlkOk X.env.scope.names X.N scope vars caps)(I:Inv X pins σ H s):∀y∈scope.names,y.2=.free->∃c,X.env.cells.lookup y.1=some c:=λy hy e=>I.ok.has y.1 (B.free y hy e)
theorem uF(B:BlkOk X.env.scope.names X.N scope vars caps)(I:Inv X pins σ H s)(hf:∀b∈fp,i9 X pins H b)(hlt:∀b∈fp,b<s.heap.objs.size)(hC:s.heap.objs.size<=C):(cw X scope (vars++caps.map (·.2)) C s H fp).Ok where
 mod:=I.ok.mod
 kind:=B.kind
 glob:=I.ok.glob
 blt:=I.ok.blt
 above:=hC
 inj:=λx y c e1 e2=>by
  rcases bg _ _ _ _ (B.cells I) e1 with q1|q1
  .cases q1
  .rcases bg _ _ _ _ (B.cells I) e2 with q2|q2
   .cases q2
   .exact I.ok.inj x y c q1 q2
 has:=λx e=>by
  have:scope.names.lookup x=some .free:=(d7 scope.names B.cell).mp e;have:=jI (env:=X.env) scope.names [] x (.inl (PySem.mem_of_lookup this));exact Option.isSome_iff_exists.mp this
 cab:=λx c e=>nomatch e
 hd:=I.ok.hd
 frames:=I.ok.frames
 stk:=.inl rfl
 exf:=λb hb=>⟨ne_of_lt (lt_of_lt_of_le (hlt b hb) hC),λx c e=>by
  rcases bg _ _ _ _ (B.cells I) e with q|q
  .cases q
  .exact(hf b hb).2.2.2.2.1 x c q⟩
 tb:=I.tb
 bs:=I.bs
 bsz:=le_trans I.ok.bsz I.sz
 noex:=λb o e hb=>by
  rcases (hf b hb).2.2.2.1 with z|z
  .exact I.ok.noex b o e z
  .exact absurd (lt_of_lt_of_le (lt_size e) (le_trans I.ok.bsz z)) (lt_irrefl _)
 exfs:=λb hb z=>by
  rcases List.mem_cons.mp (I.stkSub b z)with q|q
  .exact(hf b hb).2.1 q
  .exact(hf b hb).2.2.1 q
 funs:=I.stack
 frf:=I.stkFree
theorem wA(B:BlkOk X.env.scope.names X.N scope vars caps)(I:Inv X pins σ H s)(hf:∀b∈fp,i9 X pins H b)(hlt:∀b∈fp,b<s.heap.objs.size)(hC:s.heap.objs.size<=C){h₁:Heap}{m:Str->Option Value}{tk:Nat}(hns:h₁.Ns C m)(old:∀b o,s.heap.get? b=some o->h₁.get? b=some o):
  Inv (cw X scope (vars++caps.map (·.2)) C s H fp) [] (vars.map (λ_=>none)++eN σ caps) H {s with heap:=h₁,toks:=tk}:=by
 refine⟨uF B I hf hlt hC,rfl,I.bare,Un.kept old,⟨m,hns,λi x v e1 e2 e3=>?_⟩,λx c e=>?_,I.hok.fresh hC,λx c e=>?_,λp hp=>absurd (show p∈([]:List (Addr×Obj))from hp) (by simp),I.hok.kept old,?_⟩
 .have e1:(vars++caps.map (·.2))[i]? = some x:=e1
  by_cases hi:i<vars.length
  .rw[getElem?_append_left (by simpa using hi),getElem?_map]at e2
   cases q:vars[i]?<;>rw[q]at e2<;>cases e2
  .rw[getElem?_append_right (by simpa using hi)]at e1 e2
   simp only[List.length_map]at e2;unfold eN at e2;rw[getElem?_map]at e1 e2;cases q:caps[i-vars.length]? with
   |none=>rw[q]at e1;cases e1
   |some p=>
    rw[q]at e1 e2;cases e1;have hp:=List.mem_of_getElem? q;obtain⟨g1,g2⟩:=B.cap p hp;have gf:X.env.scope.names.lookup p.2=some .cell\/X.env.scope.names.lookup p.2=some .free:=B.free (p.2,.free) (PySem.mem_of_lookup g2) rfl;have ev:σ[p.1]? = some (some v):=by
     have e2:(σ[p.1]?).getD none=some v:=Option.some.inj e2;cases z:σ[p.1]? with
     |none=>rw[z]at e2;cases e2
     |some w=>rw[z]at e2;rw[show w=some v from e2]
    obtain⟨m',_,hl⟩:=I.loc;obtain⟨u,r,l⟩:=hl p.1 p.2 v g1 ev (gf.elim (λz=>.inr (.inl z)) λz=>.inr (.inr z))
    refine⟨u,r,.inr ⟨?_,?_⟩⟩
    .exact(d7 scope.names B.cell).mpr g2
    .rcases l with⟨z,_⟩|⟨_,c,ec,hc⟩
     .have z:X.env.scope.names.lookup p.2=some .local:=z
      rcases gf with w|w<;>rw[z]at w<;>cases w
     .obtain⟨c',q'⟩:=Option.isSome_iff_exists.mp (jI (env:=X.env) scope.names [] p.2 (.inl (PySem.mem_of_lookup g2)))
      rcases bg _ _ _ _ (B.cells I) q' with w|w
      .cases w
      .rw[ec]at w
       cases w;obtain⟨o,ho,hd⟩:=hc;exact⟨c,q',o,old c o ho,hd⟩
 .rcases bg _ _ _ _ (B.cells I) e with q|q
  .cases q
  .obtain⟨v,o,ho,hd⟩:=I.cell x c q
   exact⟨v,o,old c o ho,hd⟩
 .rcases bg _ _ _ _ (B.cells I) e with q|q
  .cases q
  .exact I.freeC x c q
 .simp[cw,eN]
theorem wz(I:Inv X pins σ H s)(hf:∀b∈fp,i9 X pins H b){D:Addr}{s':Shared}{σ':St}{N:List Str}{ys:List V}{its:List Value}(hC:s.heap.objs.size<=C)(hD:s.heap.objs.size<=D)(hDC:D≠C)
  (J:Inv (cw X scope N C s H fp) [] σ' H' s') (hD':H' D=none) (hp:s'.heap.PlainList D its.toArray) (hv:Vals ys its) (hz:ys.length<=sizeLine) {h':Heap} (hs:Heap.SameBut C s'.heap h'):
  Inv X pins σ (upd H' D (.lst ys)) {s' with heap:=h'}:=by
 have U:Un (g9 X.stack) fp H H' s.heap s'.heap:=J.base;have neC:∀b o,s.heap.get? b=some o->b≠C:=λb o e=>ne_of_lt (lt_of_lt_of_le (lt_size e) hC)
 have neD:∀b o,s.heap.get? b=some o->b≠D:=λb o e=>ne_of_lt (lt_of_lt_of_le (lt_size e) hD)
 have mv:∀b o,b≠C->s'.heap.get? b=some o->h'.get? b=some o:=λb o hb e=>hs.extBut b o hb e
 have tD:∀b o,H' b=some o->(upd H' D (.lst ys)) b=some o:=λb o e=>by rw[aq (az e hD')];exact e
 refine I.call' (s':={s' with heap:=h'}) (ch:=fp) J.os ⟨λb o e n h1 h2=>mv b o (neC b o e) (U.keep b o e n h1 h2),λb o e n h1 h2=>?_,λb o e n h2=>?_,λb o e h2=>?_,λb xs e=>tD _ _ (U.tups b xs e),λb o xs e=>tD _ _ (U.frzs b o xs e),λb ps e=>?_⟩ (λb o e=>?_) J.bare
  (λb hb=>⟨(hf b hb).2.2.2.1,(hf b hb).2.1,(hf b hb).2.2.2.2.1,(hf b hb).2.2.2.2.2⟩)
 .obtain⟨sl,q⟩:=U.slot b o e n h1 h2
  exact⟨sl,mv b _ (neC b o e) q⟩
 .rw[aq (neD b o e)];exact U.free b o e n h2
 .obtain⟨o',q⟩:=U.there b o e h2
  exact⟨o',mv b _ (neC b o e) q⟩
 .obtain⟨more,q⟩:=U.tbls b ps e
  exact⟨more,tD _ _ q⟩
 .by_cases hb:b=D
  .subst hb
   rw[av]at e;cases e;obtain⟨n,q⟩:=hp;exact⟨hz,its,n,hv,mv _ _ hDC q⟩
  .rw[aq hb]at e
   refine(J.hok b o e).stay (λc v hc q=>mv c v ?_ q) (λc q=>tD _ _ q) (λc xs q=>tD _ _ q) λc o xs q=>tD _ _ q
   intro z;have fc:H' C=none:=J.free;rcases hc with w|w
   .rw[<-w,z,fc]at e;cases e
   .rw[z,fc]at w;cases w
theorem sF(elt target iter:Expr)(scope:Scope)(pos:Pos)(it acc:Value)(env:Env):
  compTurn (.ListComp elt [⟨target,iter,[],0⟩] scope pos) 0 it acc env=(standAt iter.pos >>= λ_=>pyNext it >>= λr=>match r with
   |none=>pure (.done .next)
   |some v=>letOwnedTupleGo target it v >>= λ_=>assign target env v >>= λ_=>
    (eval elt env >>= λx=>call (.builtin "list.append") [acc,x] >>= λ_=>pure ()) >>= λ_=>
     again (.compLoop (.ListComp elt [⟨target,iter,[],0⟩] scope pos) 0 it acc env)):=by rfl
def wH(σ σ':St):Prop:=σ.length = σ'.length/\∀(i:Nat) v,σ[i]? = some (some v)-> σ'[i]? = some (some v)
def uT(wi:TI)(g:TG)(te:TE)(vars:List Str)(caps:List (Nat×Str)):TE:=λσ H Q=>wi σ H λJ H1=>∃W:Nat->Nat->List V->Hp->Prop,(∃m,W 0 m [] H1)/\∀i m ys H,W i m ys H ->
 (J.stop i H/\ys.length<=sizeLine/\∀p,H p=none->Q (.ref p) (upd H p (.lst ys)))\/
 (J.go i H/\ys.length<sizeLine/\∀x H',J.yld i H x H'->g x (vars.map (λ_=>none)++eN σ caps) H' λσ2 H2=>wH (vars.map (λ_=>none)++eN σ caps) σ2/\te σ2 H2 λy H3=>∃m',m'<m/\W (i+1) m' (ys++[y]) H3)
theorem kQ{prog:Program}{w:World}{A:Around}{R:Result->Shared->Prop}{s:Shared}{elt target iter:Expr}{scope:Scope}{pos:Pos}{it acc:Value}{env:Env}(I:Nat->Shared->Prop)
  (turn:∀n s,I n s->wpAny (model prog w) A (pyNext it) (λr s₁=>match r with
   |none=>R (.ok .next) s₁
   |some v=>wpAny (model prog w) A (letOwnedTupleGo target it v) (λ_ s₁=>wpAny (model prog w) A (assign target env v) (λ_ s₂=>wpAny (model prog w) A (eval elt env) (λx s₃=>
     wpAny (model prog w) A (call (.builtin "list.append") [acc,x]) (λ_ s₄=>∃m,m<n/\I m s₄) (λ_ _=>False) s₃) (λ_ _=>False) s₂) (λ_ _=>False) s₁) (λ_ _=>False) s₁) (λ_ _=>False) s)
  (n:Nat) (h:I n s):codeAny (model prog w) A (.compLoop (.ListComp elt [⟨target,iter,[],0⟩] scope pos) 0 it acc env) R s:=by
 refine codeAny_loop rfl I (λn s hI=>?_) n h;show wpAny _ _ ((compTurn (.ListComp elt [⟨target,iter,[],0⟩] scope pos) 0 it acc env).onRaise (λx=>do noteFrame x env;theTreesLotGoes x)) _ _ s;refine wpAny_noted ?_;rw[sF];refine wpAny_bind (wpAny_standAt (wpAny_bind (wpAny_mono (turn n s hI) (λr s₁ h₁=>?_) λ_ _ h'=>h'.elim)))
 cases r with
 |none=>exact wpAny_pure h₁
 |some v=>
  refine wpAny_bind (wpAny_mono h₁ (λ_ s₁ h₁=>?_) λ_ _ h'=>h'.elim)
  exact wpAny_bind (wpAny_mono h₁ (λ_ s₂ h₂=>wpAny_bind (wpAny_bind (wpAny_mono h₂ (λx s₃ h₃=>wpAny_bind (wpAny_mono h₃
   (λ_ s₄ h₄=>wpAny_pure (wpAny_pure ⟨rfl,h₄⟩)) λ_ _ h'=>h'.elim)) λ_ _ h'=>h'.elim))) λ_ _ h'=>h'.elim)
end
section
variable{X:Cx}{scope:Scope}{vars:List Str}{caps:List (Nat×Str)}{elt tg iter:Expr}{pos:Pos}{wi:TI}{g:TG}{te:TE}
theorem mO(B:BlkOk X.env.scope.names X.N scope vars caps)(hc:X.calm=true)
  (hg:∀C s₀ H₀ ex,PG (cw X scope (vars++caps.map (·.2)) C s₀ H₀ ex) tg g) (he:∀C s₀ H₀ ex,PE (cw X scope (vars++caps.map (·.2)) C s₀ H₀ ex) elt te)
  {pins:List (Addr×Obj)} {σ:St} {H2:Hp} {s2:Shared} {Q:VK} {it:Addr} {fp:List Addr} {tn:Nat->Heap->Prop} {J:It} (I2:Inv X pins σ H2 s2) (T:yb X.prog X.w X.K tg J fp it tn) (st2:tn 0 s2.heap) (f2:∀b∈fp,i9 X pins H2 b)
  {W:Nat->Nat->List V->Hp->Prop} {m0:Nat} (w0:W 0 m0 [] H2) (turn:∀i m ys H,W i m ys H ->
   (J.stop i H/\ys.length<=sizeLine/\∀p,H p=none->Q (.ref p) (upd H p (.lst ys)))\/
   (J.go i H/\ys.length<sizeLine/\∀x H',J.yld i H x H'->g x (vars.map (λ_=>none)++eN σ caps) H' λσ2 H2=>wH (vars.map (λ_=>none)++eN σ caps) σ2/\te σ2 H2 λy H3=>∃m',m'<m/\W (i+1) m' (ys++[y]) H3))
  {RR:Value->Addr->Result->Shared->Prop} {E:Value->Shared->Prop}
  (hRR:∀D C s' m,s'.heap.Ns C m->D≠C->s2.heap.objs.size<=D->s2.heap.objs.size<=C->∀H',H' C=none->(∀h',Heap.SameBut C s'.heap h'->Inv X pins σ H' {s' with heap:=h'})->Q (.ref D) H'->RR (.ref D) C (.ok .next) s'):
  wpAny (model X.prog X.w) X.A (newList []) (λacc s₃=>wpAny (model X.prog X.w) X.A (newFunctionEnv scope X.env.globals (i4 X.env scope.names []) [] X.env.qual none .none (some X.env)) (λcenv s₄=>
   codeAny (model X.prog X.w) X.A (.compStart (.ListComp elt [⟨tg,iter,[],0⟩] scope pos) 0 (.ref it) acc {cenv with scope:=relabel scope X.env}) (RR acc cenv.locals) s₄) E s₃) E s2:=by
 refine wpAny_newObj_type (wpAny_newFunctionEnv B.cell (by intro y hy;simp at hy) (λh₁ hns₁ hsb₁=>?_) B.kind);dsimp only at hns₁ hsb₁ ⊢;generalize hP:s2.heap.push {cls:=.type "list",dict:=none,data:=.seq ([]:List Value).toArray}=HP at hns₁ hsb₁ ⊢;have hCs:HP.objs.size=s2.heap.objs.size+1:=by rw[<-hP,Heap.size_push]
 have hDC:s2.heap.objs.size≠HP.objs.size:=by rw[hCs];exact ne_of_lt (Nat.lt_succ_self _)
 have hCle:s2.heap.objs.size<=HP.objs.size:=by rw[hCs];exact Nat.le_succ _
 have old:∀b o,s2.heap.get? b=some o->h₁.get? b=some o:=λb o e=>hsb₁.extBut b o (ne_of_lt (lt_of_lt_of_le (lt_size e) hCle)) (get?_push_of_some _ (hP ▸ get?_push_of_some _ e))
 have hacc:h₁.PlainList s2.heap.objs.size #[]:=⟨_,hsb₁.extBut _ _ hDC (get?_push_of_some _ (hP ▸ get?_push_size _ rfl))⟩;have flt:∀b∈fp,b<s2.heap.objs.size:=λb hb=>by
  obtain⟨o,e,_⟩:=T.obj _ _ st2 b hb;exact lt_size e
 have st1:tn 0 h₁:=T.keep _ _ _ st2 λb _ o e=>old b o e
 have loop:∀s3:Shared,s3={s2 with heap:=h₁,toks:=s2.toks+([]:List (Str×Value)).length} ->
   codeAny (model X.prog X.w) X.A (.compLoop (.ListComp elt [⟨tg,iter,[],0⟩] scope pos) 0 (.ref it) (.ref s2.heap.objs.size) (compEnvC scope (i4 X.env scope.names []) HP.objs.size X.env))
    (RR (.ref s2.heap.objs.size) HP.objs.size) s3:=by
  rintro s3 rfl;have X':=cw X scope (vars++caps.map (·.2)) HP.objs.size s2 H2 fp;have fpo:∀{H':Hp},(∀b∈fp,H' b=none)->∀b∈fp,i9 (cw X scope (vars++caps.map (·.2)) HP.objs.size s2 H2 fp) [] H' b:=λhn b hb=>by
   have ok:=uF B I2 f2 flt hCle;exact⟨hn b hb,(ok.exf b hb).1,ok.exfs b hb,.inl hb,(ok.exf b hb).2,λp hp=>absurd (show p∈([]:List (Addr×Obj))from hp) (by simp)⟩
  refine kQ (λn s=>∃i ys H its,Inv (cw X scope (vars++caps.map (·.2)) HP.objs.size s2 H2 fp) [] (vars.map (λ_=>none)++eN σ caps) H s/\tn i s.heap/\(∀b∈fp,H b=none)/\s.heap.PlainList s2.heap.objs.size (List.toArray its)/\H s2.heap.objs.size=none/\Vals ys its/\W i n ys H) ?_ m0
   ⟨0,[],H2,[],wA B I2 f2 flt hCle hns₁ old,st1,λb hb=>(f2 b hb).1,hacc,I2.hok.fresh (le_refl _),.nil,w0⟩
  rintro n s4 ⟨i,ys,H4,its,I4,st4,fr4,pl4,nD4,v4,w4⟩;obtain⟨nn,eD⟩:=id pl4;have DnL:s2.heap.objs.size≠(cw X scope (vars++caps.map (·.2)) HP.objs.size s2 H2 fp).env.locals:=hDC;have Dfs:s2.heap.objs.size∉(cw X scope (vars++caps.map (·.2)) HP.objs.size s2 H2 fp).fs:=λz=>by
   rcases List.mem_cons.mp (I2.stkSub _ z)with q|q
   .have:=I2.lt;rw[<-q]at this;exact lt_irrefl _ this
   .exact I2.nofs (le_refl _) q
  have Dfp:∀b∈fp,s2.heap.objs.size≠b:=λb hb z=>by have:=flt b hb;rw[<-z]at this;exact lt_irrefl _ this
  have DnC:∀x c,(cw X scope (vars++caps.map (·.2)) HP.objs.size s2 H2 fp).env.cells.lookup x=some c->c≠s2.heap.objs.size:=λx c e z=>by
   rcases bg _ _ _ _ (B.cells I2) e with q|q
   .cases q
   .obtain⟨v,o,ho,_⟩:=I2.cell x c q
    have:=lt_size ho;rw[z]at this;exact lt_irrefl _ this
  have pinD:∀{σ':St} {H':Hp} {s':Shared},Inv (cw X scope (vars++caps.map (·.2)) HP.objs.size s2 H2 fp) [(s2.heap.objs.size,{cls:=.type "list",data:=.seq its.toArray nn})] σ' H' s'->s'.heap.PlainList s2.heap.objs.size its.toArray/\H' s2.heap.objs.size=none:=λ{σ' H' s'} I'=>by
   obtain⟨q1,q2,_⟩:=I'.pin (s2.heap.objs.size,{cls:=.type "list",data:=.seq its.toArray nn}) (by simp[cw]);exact⟨⟨nn,q1⟩,q2⟩
  have I4p:Inv (cw X scope (vars++caps.map (·.2)) HP.objs.size s2 H2 fp) [(s2.heap.objs.size,{cls:=.type "list",data:=.seq its.toArray nn})] (vars.map (λ_=>none)++eN σ caps) H4 s4:=
   I4.pins_of λp hp=>by
    have e:p=(s2.heap.objs.size,{cls:=.type "list",data:=.seq its.toArray nn}):=by simpa[cw]using hp
    subst e;exact⟨eD,nD4,DnL,Dfs,λv z=>by cases z⟩
  have fpo':∀{H':Hp},(∀b∈fp,H' b=none)->∀b∈fp,i9 (cw X scope (vars++caps.map (·.2)) HP.objs.size s2 H2 fp) [(s2.heap.objs.size,{cls:=.type "list",data:=.seq its.toArray nn})] H' b:=λhn b hb=>by
   obtain⟨q1,q2,q3,q4,q5,_⟩:=fpo hn b hb;exact⟨q1,q2,q3,q4,q5,λp hp=>by
    have e:p=(s2.heap.objs.size,{cls:=.type "list",data:=.seq its.toArray nn}):=by simpa[cw]using hp
    subst e;exact Dfp b hb⟩
  have unp:∀{pl:List (Addr×Obj)} {σ':St} {H':Hp} {s':Shared},Inv (cw X scope (vars++caps.map (·.2)) HP.objs.size s2 H2 fp) pl σ' H' s'->Inv (cw X scope (vars++caps.map (·.2)) HP.objs.size s2 H2 fp) [] σ' H' s':=λ{pl σ' H' s'} I'=>
   I'.pins_of λp hp=>absurd (show p∈([]:List (Addr×Obj))from hp) (by simp)
  rcases turn i n ys H4 w4 with⟨stop,hz,qn⟩|⟨go,hz,step⟩
  .refine bB (T.done (cw X scope (vars++caps.map (·.2)) HP.objs.size s2 H2 fp) rfl rfl rfl hc i _ s4 _ H4 _ I4p (fpo' fr4) st4 stop) λr s5 ⟨hr,I5⟩=>?_
   subst hr;obtain⟨p5,n5⟩:=pinD I5;obtain⟨m5,ns5,_⟩:=I5.loc;refine hRR _ _ s5 m5 ns5 hDC (le_refl _) hCle _ ?_ (λh' hs'=>wz I2 f2 hCle (le_refl _) hDC (unp I5) n5 p5 v4 hz hs') (qn _ n5)
   rw[aq hDC.symm];exact I5.free
  .refine bB (T.item (cw X scope (vars++caps.map (·.2)) HP.objs.size s2 H2 fp) rfl rfl rfl hc i _ s4 _ H4 _ I4p (fpo' fr4) st4 go) λr s5 ⟨u,hr,h5⟩=>?_
   subst hr;refine bB h5 λ_ s6 ⟨x,H6,I6,rx,yx,st6,fr6⟩=>?_
   have I6p:=I6.pinned (fpo' fr6) (T.obj _ _ st6);refine bB (hg _ _ _ _ _ s6 _ H6 x u _ I6p rx (step x H6 yx)) λ_ s7 ⟨σ7,H7,I7,kp,q7⟩=>?_
   refine bB (he _ _ _ _ _ s7 σ7 H7 _ I7 q7) λv s8 ⟨y,H8,I8,ry,m',hm,w8⟩=>?_
   obtain⟨p8,n8⟩:=pinD I8.unpinned;have st8:tn (i+1) s8.heap:=T.keep _ _ _ st6 λb hb o e=>(I8.pin (b,o) (mem_append_right _ (mem_append_right _ (b0 hb e)))).1
   have fr8:∀b∈fp,H8 b=none:=λb hb=>by
    obtain⟨o,e,d⟩:=T.obj _ _ st6 b hb;exact(I8.pin (b,o) (mem_append_right _ (mem_append_right _ (b0 hb e)))).2.1
   have hl:=v4.length;refine wpAny_list_append_plain p8 (λh9 p9 sb9=>⟨m',hm,i+1,ys++[y],H8,its++[v],?_,?_,fr8,by simpa using p9,n8,v4.append (.cons ry .nil),w8⟩) (by simp;lia)
   .have I9:Inv (cw X scope (vars++caps.map (·.2)) HP.objs.size s2 H2 fp) [] σ7 H8 {s8 with heap:=h9,toks:=s8.toks}:=
     (unp I8).turned (it:=s2.heap.objs.size) (λb o hb e=>sb9.extBut b o hb e) n8 DnL (.inr (le_refl _)) DnC λp hp=>absurd (show p∈([]:List (Addr×Obj))from hp) (by simp)
    exact I9.weak kp.1 kp.2
   .exact T.keep _ _ _ st8 λb hb o e=>sb9.extBut b o (Dfp b hb).symm e
 exact codeAny_compStart_list (loop _ rfl) (T.self _ 0 _ _ _ st1 (loop _ rfl))
theorem Cn(B:BlkOk X.env.scope.names X.N scope vars caps)(hc:X.calm=true)(hi:PI X tg iter wi)
  (hg:∀C s₀ H₀ ex,PG (cw X scope (vars++caps.map (·.2)) C s₀ H₀ ex) tg g) (he:∀C s₀ H₀ ex,PE (cw X scope (vars++caps.map (·.2)) C s₀ H₀ ex) elt te) (hs:∀x,foldedSetIterable iter X.env x=pure x:=by intro _;rfl):
  PE X (.ListComp elt [⟨tg,iter,[],0⟩] scope pos) (uT wi g te vars caps):=by
 intro pins s σ H Q I h;rw[eval_ListComp];refine wpAny_comprehension_free (use:=none) rfl hs (dz (B.cells I)) B.kind B.names ?_;show wpAny _ _ (eval iter X.env) _ _ s;refine bB (hi pins s σ H _ I h) λv s1 h1=>bB h1 λitv s2 h2=>?_
 obtain⟨it,fp,tn,J,H2,e,I2,T,st2,f2,W,⟨m0,w0⟩,turn⟩:=h2;subst e;exact mO B hc hg he I2 T st2 f2 w0 turn (RR:=λacc C=>compPost (model X.prog X.w) X.A X.xe none (EP X pins σ Q) acc C) λD C s' m ns _ _ _ H' _ k q=>⟨m,ns,λh' hs'=>⟨.ref D,H',k h' hs',rfl,q⟩⟩
theorem va{i:Nat}{y:Str}{py spos:Pos}(B:BlkOk X.env.scope.names X.N scope vars caps)(hc:X.calm=true)(hi:PI X tg iter wi)
  (hg:∀C s₀ H₀ ex,PG (cw X scope (vars++caps.map (·.2)) C s₀ H₀ ex) tg g) (he:∀C s₀ H₀ ex,PE (cw X scope (vars++caps.map (·.2)) C s₀ H₀ ex) elt te)
  (hN:X.N.Nodup) (hy:X.N[i]? = some y) (hx:sU X.env.scope y) (hsw:swapsWith (.ListComp elt [⟨tg,iter,[],0⟩] scope pos) (some (.Name y py)) spos.line X.env=pure true)
  (hf:X.fn y=true\/X.env.scope.names.lookup y=some .local) (hs:∀x,foldedSetIterable iter X.env x=pure x:=by intro _;rfl):
  PS X (.Assign [.Name y py] (.ListComp elt [⟨tg,iter,[],0⟩] scope pos) spos) (λD σ H=>uT wi g te vars caps σ H λv H1=>D.nx (σ.set i (some v)) H1):=by
 intro pins s σ H DE I h;rw[exec_Assign_Name_used _ _ _ _ hsw];refine wpAny_bind (wpAny_standAt (wpAny_bind ?_));show wpAny _ X.A (do let _ <-comprehension (.ListComp elt [⟨tg,iter,[],0⟩] scope pos) scope X.env _ (newList []) false (eval iter X.env) (some (assign (.Name y py) X.env))) _ _ s;refine wpAny_bind (wpAny_mono (wpAny_comprehension_free (use:=some (assign (.Name y py) X.env)) (Q:=λ_ s'=>SP X pins DE .next s') rfl hs (dz (B.cells I)) B.kind B.names
  (bB (hi pins s σ H _ I h) λv s1 h1=>bB h1 λitv s2 h2=>?_)) (λ_ s' hq=>wpAny_pure (wpAny_pure hq)) λ_ _ e=>e)
 obtain⟨it,fp,tn,J,H2,e,I2,T,st2,f2,W,⟨m0,w0⟩,turn⟩:=h2;subst e;refine mO (Q:=λv H1=>DE.nx (σ.set i (some v)) H1) B hc hg he I2 T st2 f2 w0 turn (RR:=λacc C=>compPost (model X.prog X.w) X.A X.xe (some (assign (.Name y py) X.env)) (λ_ s'=>SP X pins DE .next s') acc C) ?_
 intro D C s' m ns hDC hD hC H' hHC k q;obtain⟨oC,es,ep,eC,dC,rC⟩:=ns;have I':Inv X pins σ H' s':=k s'.heap (Heap.SameBut.refl ..);have nL:C≠X.env.locals:=λz=>by have:=I2.lt;rw[<-z]at this;exact absurd (lt_of_lt_of_le this hC) (lt_irrefl _)
 have nF:C∉X.fs:=I2.nofs hC;have nCell:∀x c,X.env.cells.lookup x=some c->c≠C:=λx c e z=>by
  obtain⟨v,o,ho,_⟩:=I2.cell x c e;have:=lt_size ho;rw[z]at this;exact absurd (lt_of_lt_of_le this hC) (lt_irrefl _)
 have nPin:∀p∈X.pn++pins,p.1≠C:=λp hp z=>by
  have:=lt_size (I2.pin p hp).1;rw[z]at this;exact absurd (lt_of_lt_of_le this hC) (lt_irrefl _)
 have Ip:Inv X (pins++[(C,oC)]) σ H' s':=I'.pins_of λp hp=>by
  rcases List.mem_append.mp hp with z|z
  .exact I'.pin p (mem_append_right _ z)
  .have e:p=(C,oC):=by simpa using z
   subst e;exact⟨eC,hHC,nL,nF,λv z=>by rw[dC]at z;cases z⟩
 refine bB (aW (pos:=py) hN hy hx hf _ s' σ H' (.ref D) (.ref D) (λσ' H''=>σ' = σ.set i (some (.ref D))/\H''=H'/\DE.nx σ' H'') Ip rfl ⟨rfl,rfl,q⟩) λ_ s'' ⟨σ'',H'',I'',e1,e2,q''⟩=>?_
 subst e1 e2;have eC'':s''.heap.get? C=some oC:=(I''.pin (C,oC) (mem_append_right _ (mem_append_right _ (by simp)))).1;refine⟨m,⟨oC,es,ep,eC'',dC,rC⟩,λh' hs'=>⟨_,H'',?_,q''⟩⟩
 exact I''.unpinned.turned (t':=s''.toks) (it:=C) (λb o hb e=>hs'.extBut b o hb e) hHC nL (.inr (le_trans I2.sz hC)) nCell nPin
end
def Hc:Option Sl->Sl
 |some (.fz d)=>.fz d
 |_=>.un
@[simp] theorem JR(d:D):Hc (some (.fz d))=.fz d:=rfl
def bp(δ:Dv)(caps:List (Nat×Str)):Dv:=caps.map λp=>Hc δ[p.1]?
def xp(f:D->Option D):List D->Option (List D)
 |[]=>some []
 |d::ds=>(f d).bind λe=>(xp f ds).bind λes=>some (e::es)
def gA(fi:Dv->Option (List D))(caps:List (Nat×Str))(bv:D->Option (List D))(fe:Dv->Option D):Dv->Option D:=λδ=>(fi δ).bind λds=>if ds.length<=sizeLine then(xp (λd=>(bv d).bind λvs=>fe (vs.map .fz++bp δ caps)) ds).bind λes=>some (.list es)else none
def mQ:D->Option (List D):=λd=>some [d]
theorem gW{f:D->Option D}:∀{ds es:List D},xp f ds=some es->es.length=ds.length
 |[],es,h=>by cases h;rfl
 |d::ds,es,h=>by
  obtain⟨e,_,h⟩:=bind_some h;obtain⟨es',h2,h⟩:=bind_some h;cases h;exact congrArg (· + 1) (gW h2)
theorem lT{f:D->Option D}:∀{ds es:List D} {i:Nat} {d:D},xp f ds=some es->ds[i]? = some d->∃e,f d=some e/\es[i]? = some e
 |[],es,i,d,h,q=>by simp at q
 |d::ds,es,i,d',h,q=>by
  obtain⟨e,h1,h⟩:=bind_some h;obtain⟨es',h2,h⟩:=bind_some h;cases h;cases i with
  |zero=>simp at q;subst q;exact⟨e,h1,rfl⟩
  |succ i=>simp at q;obtain⟨e',g1,g2⟩:=lT (i:=i) h2 q;exact⟨e',g1,by simpa using g2⟩
def qz(K:Fg)(g:TG)(n:Nat)(bv:D->Option (List D)):Prop:=∀(x:V) (Z:Hp) (d:D) (vs:List D) (σc:St) (H:Hp) (R:St->Hp->Prop),Rep K Z x d->Same Z H->bv d=some vs->(∀us,Reps K Z us vs->us.length=n->R (us.map some ++ σc) H)->g x (List.replicate n none ++ σc) H R
theorem bW{K:Fg}:qz K (AD 0) 1 mQ:=λx Z d vs σc H R r zh e k=>by
 cases e;exact k [x] (.cons r .nil) rfl
section
variable{X:Cx}{scope:Scope}{vars:List Str}{caps:List (Nat×Str)}{elt tg iter:Expr}{pos:Pos}{g:TG}{fi:Dv->Option (List D)}{fe:Dv->Option D}{bv:D->Option (List D)}
theorem Bb{σ:St}{δ:Dv}{K:Fg}{H₀ Z₀ Z H:Hp}(hh:Hold K H₀ Z₀ Z δ σ H):∀(j:Nat) d,(bp δ caps)[j]? = some (.fz d)->∃v,(eN σ caps)[j]? = some (some v)/\Rep K Z v d:=λj d e=>by
 unfold bp at e;unfold eN;rw[getElem?_map]at e ⊢;cases q:caps[j]? with
 |none=>rw[q]at e;cases e
 |some p=>
  rw[q]at e;have e:Hc δ[p.1]? = .fz d:=Option.some.inj e;cases z:δ[p.1]? with
  |none=>rw[z]at e;cases e
  |some sl=>
   rw[z]at e;cases sl with
   |fz d'=>
    cases e;obtain⟨v,g1,g2⟩:=hh.fz p.1 _ z;exact⟨v,by show some ((σ[p.1]?).getD none)=_;rw[g1];rfl,g2⟩
   |un=>cases e
   |own _=>cases e
   |fr _=>cases e
theorem Dc{δ:Dv}:∀(j:Nat) ds,(bp δ caps)[j]?≠some (.own ds):=λj ds e=>by
 unfold bp at e;rw[getElem?_map]at e;cases q:caps[j]? with
 |none=>rw[q]at e;cases e
 |some p=>
  rw[q]at e;have e:Hc δ[p.1]? = .own ds:=Option.some.inj e;cases z:δ[p.1]? with
  |none=>rw[z]at e;cases e
  |some sl=>rw[z]at e;cases sl<;>cases e
theorem Dd{δ:Dv}:∀(j:Nat) ds,(bp δ caps)[j]?≠some (.fr ds):=λj ds e=>by
 unfold bp at e;rw[getElem?_map]at e;cases q:caps[j]? with
 |none=>rw[q]at e;cases e
 |some p=>
  rw[q]at e;have e:Hc δ[p.1]? = .fr ds:=Option.some.inj e;cases z:δ[p.1]? with
  |none=>rw[z]at e;cases e
  |some sl=>rw[z]at e;cases sl<;>cases e
theorem mR{σ:St}{δ:Dv}{K:Fg}{H₀ Z₀ Z H:Hp}(hh:Hold K H₀ Z₀ Z δ σ H){us:List V}{vs:List D}(r:Reps K Z us vs):Hold K H Z Z (vs.map .fz++bp δ caps) (us.map some++eN σ caps) H:=by
 have hl:=r.length;refine⟨hh.zh,Same.refl _,Same.refl _,λ_ _=>rfl,by simp[bp,eN,hl],λi d e=>?_,λi ds e=>?_,λi j ds es a _ e=>?_,λi ds e=>?_,NoF.refl _⟩
 .by_cases hi:i<vs.length
  .rw[getElem?_append_left (by simpa using hi),getElem?_map]at e
   cases q:vs[i]? with
   |none=>rw[q]at e;cases e
   |some d'=>
    rw[q]at e;cases e;obtain⟨v,g1,g2⟩:=r.get q;exact⟨v,by rw[getElem?_append_left (by simpa[hl]using hi),getElem?_map,g1];rfl,g2⟩
  .rw[getElem?_append_right (by simpa using hi)]at e
   obtain⟨v,g1,g2⟩:=Bb hh _ d e;refine⟨v,?_,g2⟩;rw[getElem?_append_right (by simpa[hl]using hi)];simp only[List.length_map]at g1 ⊢;rw[hl];exact g1
 all_goals
  exfalso;by_cases hi:i<vs.length
  .rw[getElem?_append_left (by simpa using hi),getElem?_map]at e
   cases q:vs[i]?<;>rw[q]at e<;>cases e
  .rw[getElem?_append_right (by simpa using hi)]at e
   first|exact Dc _ _ e|exact Dd _ _ e
theorem o5(tk:qz X.K g vars.length bv){σ:St}{H:Hp}{Q:VK}(h:tV X.K (gA fi caps bv fe) σ H Q):uT (IY X.K fi) g (tV X.K fe) vars caps σ H Q:=by
 obtain⟨H₀,Z₀,Z,δ,d,hh,e,k⟩:=h;obtain⟨ds,e1,e⟩:=bind_some e;by_cases hz:ds.length<=sizeLine
 .rw[if_pos hz]at e
  obtain⟨es,e2,e⟩:=bind_some e;cases e;have le:=gW e2;have hv:vars.map (λ_=>(none:Option V))=List.replicate vars.length none:=by rw[List.map_const']
  refine⟨H₀,Z₀,Z,δ,ds,hh,e1,λJ Z1 H1 hh1 t1 ok=>?_⟩
  refine⟨λi m ys H=>m=ds.length-i/\i<=ds.length/\∃Zc,Hold X.K H₀ Z₀ Zc δ σ H/\Same Z1 Zc/\Reps X.K Zc ys (es.take i),⟨ds.length,by simp,zero_le _,Z1,hh1,Same.refl _,by simpa using .nil⟩,?_⟩
  rintro i m ys H2 ⟨rfl,hi2,Zc,hhc,tc,rc⟩;have zh:Same Z1 H2:=tc.trans hhc.zh;have ly:=rc.length;rw[List.length_take]at ly;by_cases hlt:i<ds.length
  .refine .inr ⟨ok.go i H2 zh hlt,by lia,λx H3 y=>?_⟩
   have ed:ds[i]? = some ds[i]:=by simp[hlt]
   obtain⟨rfl,rx⟩:=ok.yld i H2 x H3 _ zh ed y;obtain⟨ei,f1,f2⟩:=lT e2 ed;obtain⟨vs,f3,f1⟩:=bind_some f1;rw[hv];refine tk x Zc ds[i] vs (eN σ caps) H3 _ (rx.same tc) hhc.zh f3 λus ru hn=>⟨⟨by simp[hn],λj v q=>?_⟩,?_⟩
   .by_cases hj:j<vars.length
    .rw[getElem?_append_left (by simpa using hj),getElem?_replicate]at q
     split at q<;>cases q
    .rw[getElem?_append_right (by simpa using hj)]at q
     rw[getElem?_append_right (by simpa[hn]using hj)];simpa[hn]using q
   .refine⟨H3,Zc,Zc,_,ei,mR hhc ru,f1,λv Z4 H4 h4 t4 r4=>⟨ds.length-(i+1),by lia,rfl,hlt,Z4,hhc.new ⟨t4,h4.h0,h4.zh,h4.zb,h4.nf⟩,tc.trans t4,?_⟩⟩
    have:es.take (i+1)=es.take i++[ei]:=by
     rw[List.take_add_one,f2];rfl
    rw[this];exact(rc.same t4).append (.cons r4 .nil)
  .have hie:i=ds.length:=by lia
   subst hie;refine .inl ⟨ok.stop _ H2 zh (le_refl _),by lia,λp hp=>?_⟩
   rw[<-le,List.take_length]at rc;have n:=New.add hhc.zh hp (.lst ys);exact k _ _ _ (hhc.new n) ((t1.trans tc).trans n.z) (.lst (SqL.of av) (rc.same n.z))
 .rw[if_neg hz]at e;cases e
theorem v9(B:BlkOk X.env.scope.names X.N scope vars caps)(hc:X.calm=true)(hi:IV X tg iter fi)(tk:qz X.K g vars.length bv)
  (hg:∀C s₀ H₀ ex,PG (cw X scope (vars++caps.map (·.2)) C s₀ H₀ ex) tg g) (he:∀C s₀ H₀ ex,EV (cw X scope (vars++caps.map (·.2)) C s₀ H₀ ex) elt fe) (hs:∀x,foldedSetIterable iter X.env x=pure x:=by intro _;rfl):
  EV X (.ListComp elt [⟨tg,iter,[],0⟩] scope pos) (gA fi caps bv fe):=
 PE.imp (Cn (te:=tV X.K fe) B hc hi hg he hs) λ_ _ _ h=>o5 tk h
theorem BP(i:Nat){y:Str}{py spos:Pos}(hN:X.N.Nodup)(B:BlkOk X.env.scope.names X.N scope vars caps)(hc:X.calm=true)(hi:IV X tg iter fi)(tk:qz X.K g vars.length bv)
  (hg:∀C s₀ H₀ ex,PG (cw X scope (vars++caps.map (·.2)) C s₀ H₀ ex) tg g) (he:∀C s₀ H₀ ex,EV (cw X scope (vars++caps.map (·.2)) C s₀ H₀ ex) elt fe)
  (hy:X.N[i]? = some y:=by rfl) (hx:sU X.env.scope y:=by first|exact Or.inl rfl|exact Or.inr rfl) (hsw:swapsWith (.ListComp elt [⟨tg,iter,[],0⟩] scope pos) (some (.Name y py)) spos.line X.env=pure true:=by rfl)
  (hf:X.fn y=true\/X.env.scope.names.lookup y=some .local:=by first|exact .inl rfl|exact .inr rfl|assumption) (hs:∀x,foldedSetIterable iter X.env x=pure x:=by intro _;rfl):
  SV X (.Assign [.Name y py] (.ListComp elt [⟨tg,iter,[],0⟩] scope pos) spos) (aK i (gA fi caps bv fe)):=
 PS.imp (va (te:=tV X.K fe) B hc hi hg he hN hy hx hsw hf hs) λD σ H h=>by
  obtain⟨H₀,Z₀,Z,δ,r,hh,e,k⟩:=h;obtain⟨x,e1,e⟩:=bind_some e;cases e;exact o5 tk ⟨H₀,Z₀,Z,δ,x,hh,e1,λv Z1 H1 hh1 s1 r1=>k _ H1 Z1 (hh1.set r1) s1⟩
end
section
variable{X:Cx}{e:Expr}{es:List Expr}{p pos:Pos}{fs:Dv->Option (List D)}
theorem aB{k:Nat}{x:Str}{g:List D->Option D}(C:Cal X.prog X.w X.K X.mg X.base x k g [])(hr:Room k X.A)(hg:Gl X x)(ha:AV X (e::es) fs)(hdb:(x==("__debug__":Str))=false:=by decide)(he:starEach (e::es) X.env=(false,eval e X.env)::starEach es X.env:=by rfl)
  (hpl:(backTo pos (starEach es X.env)).any (·.1)=false:=by rfl):EV X (.Call (.Name x p) (e::es) [] pos) (os fs g):=by
 have h:=F6 C hr hg ha hdb he hpl (p:=p) (pos:=pos);have e:(λas=>g (as++[]))=g:=by funext as;rw[append_nil]
 rw[e]at h;exact h
end
def yg:Option Sl->Option (List D)
 |some (.own (.l ds))=>some ds
 |_=>none
@[simp] theorem JP(ds:List D):yg (some (.ow ds))=some ds:=rfl
theorem tI{o:Option Sl}{ds:List D}(h:yg o=some ds):o=some (.ow ds):=by
 cases o with
 |none=>cases h
 |some x=>
  cases x with
  |own c=>
   cases c with
   |l es=>cases h;rfl
   |d es=>cases h
  |un=>cases h
  |fz d=>cases h
  |fr _=>cases h
@[simp] def qU(i:Nat)(fs:Dv->Option (List D)):Sf:=λδ=>(fs δ).bind λds=>if ds.length<=sizeLine then some (.nx,δ.set i (.ow ds))else none
@[simp] def LE(i:Nat)(f:Dv->Option D):Dv->Option D:=λδ=>(yg δ[i]?).bind λds=>(f δ).bind λk=>aI (.list ds) k
@[simp] def rB(i:Nat):Dv->Option D:=λδ=>(yg δ[i]?).bind λds=>some (.int ds.length)
def Hq(ds:List D)(k v:D):Option (List D):=match k with
 |.int j=>(Br ds.length j).map λn=>ds.set n v
 |_=>none
@[simp] theorem Ho(ds:List D)(j:Int)(v:D):Hq ds (.int j) v=(Br ds.length j).map λn=>ds.set n v:=rfl
@[simp] def Lu(i:Nat)(fk fv:Dv->Option D):Sf:=λδ=>(fv δ).bind λv=>(fk δ).bind λk=>(yg δ[i]?).bind λds=>(Hq ds k v).bind λds'=>some (.nx,δ.set i (.ow ds'))
@[simp] def tQ(i:Nat)(f:Dv->Option D):Sf:=λδ=>(f δ).bind λv=>(yg δ[i]?).bind λds=>if ds.length<sizeLine then some (.nx,δ.set i (.ow (ds++[v])))else none
section
variable{X:Cx}{e b:Expr}{es:List Expr}{p pos tpos apos:Pos}{fs:Dv->Option (List D)}{f fk fv:Dv->Option D}
theorem jR(i:Nat){x:Str}{pos':Pos}(hN:X.N.Nodup)(ha:AV X es fs)(hi:X.N[i]? = some x:=by rfl)(hx:sU X.env.scope x:=by first|exact Or.inl rfl|exact Or.inr rfl)(hs:swapsWith (.List es p) (some (.Name x pos')) pos.line X.env=pure false:=by rfl)
  (hf:X.fn x=true\/X.env.scope.names.lookup x=some .local:=by first|exact .inl rfl|exact .inr rfl|assumption):SV X (.Assign [.Name x pos'] (.List es p) pos) (qU i fs):=
 PS.imp (jT hN hi hx (zu ha) hs hf) λD σ H h=>by
  obtain⟨H₀,Z₀,Z,δ,r,hh,e,k⟩:=h;obtain⟨ds,e1,e⟩:=bind_some e;by_cases hl:ds.length<=sizeLine
  .rw[if_pos hl]at e
   cases e;exact⟨H₀,Z₀,Z,δ,ds,hh,e1,λvs Z1 H1 hh1 t1 r1=>⟨by rw[r1.length];exact hl,λp hp=>k _ _ Z1 (hh1.setO hp r1) t1⟩⟩
  .rw[if_neg hl]at e;cases e
theorem rn{K:Fg}{H₀ Z₀ Z:Hp}{δ:Dv}{σ:St}{H:Hp}(hh:Hold K H₀ Z₀ Z δ σ H){i:Nat}{ds:List D}(h:yg δ[i]? = some ds):∃a xs,σ[i]? = some (some (V.ref a))/\H a=some (.lst xs)/\Reps K Z xs ds:=by
 obtain⟨a,xs,h1,_,_,h4,h5⟩:=hh.ow i ds (tI h);exact⟨a,xs,h1,h4,h5⟩
theorem C0(i:Nat){x:Str}{p2:Pos}(hg:Gl X "len")(hm:X.mg "len" = none)(hN:X.N[i]? = some x:=by rfl)(hv:yk X.env.scope x:=by first|exact Or.inl rfl|exact Or.inr (Or.inl rfl)|exact Or.inr (Or.inr rfl))(hd:(x==("__debug__":Str))=false:=by decide)(hcd:(x==("__classdict__":Str))=false:=by decide)
  (he:starEach [.Name x p2] X.env=(false,eval (.Name x p2) X.env)::starEach [] X.env:=by rfl) (hpl:(backTo pos (starEach [] X.env)).any (·.1)=false:=by rfl):EV X (.Call (.Name "len" p) [.Name x p2] [] pos) (rB i):=
 PE.imp (fB sN hg hm PySem.boot_len (bq (d8 hN hv hd hcd) dl he) (by decide) (by decide) he hpl) λσ H Q h=>by
  obtain⟨H₀,Z₀,Z,δ,d,hh,e,k⟩:=h;obtain⟨ds,e1,e⟩:=bind_some e;cases e;obtain⟨a,xs,h1,h4,h5⟩:=rn hh e1;exact⟨_,h1,_,_,rfl,.inl ⟨xs,SqL.of h4,rfl⟩,k _ Z H hh (Same.refl _) (by rw[h5.length];exact .int _)⟩
theorem lw(i:Nat){x:Str}{cpos:Pos}(hv':EV X e f)(hN:X.N[i]? = some x:=by rfl)(hv:yk X.env.scope x:=by first|exact Or.inl rfl|exact Or.inr (Or.inl rfl)|exact Or.inr (Or.inr rfl))(hd:(x==("__debug__":Str))=false:=by decide)(hcd:(x==("__classdict__":Str))=false:=by decide)
  (hbase:attributeBase (.Name x p) "append" X.env (eval (.Name x p) X.env)=eval (.Name x p) X.env:=by rfl)
  (hfew:((backTo cpos (starEach [e] X.env)).all (λx=>!x.1)&&(backToKw cpos (keywordEach [] X.env)).all (λx=>x.1.isSome)
   && decide ([e].length+([]:List Keyword).length+(if([]:List Keyword).isEmpty then 0 else 1)<30))=true:=by rfl)
  (hline:(apos.endLine==cpos.line)=true:=by rfl) (hs:starEach [e] X.env=(false,eval e X.env)::starEach [] X.env:=by rfl) (hplain:(backTo cpos (starEach [] X.env)).any (·.1)=false:=by rfl)
  (hsw:swapsWith (.Call (.Attribute (.Name x p) "append" apos) [e] [] cpos) none pos.line X.env=pure false:=by rfl):SV X (.Expr (.Call (.Attribute (.Name x p) "append" apos) [e] [] cpos) pos) (tQ i f):=
 PS.imp (la (DG PySem.F.plainAttrs_list PySem.F.slot_list_append PySem.F.type_list_append xn (d8 hN hv hd hcd) (bq hv' dl hs) hbase hfew hline hs hplain) hsw) λD σ H h=>by
  obtain⟨H₀,Z₀,Z,δ,r,hh,e,k⟩:=h;obtain⟨v,e1,e⟩:=bind_some e;obtain⟨ds,e2,e⟩:=bind_some e;by_cases hl:ds.length<sizeLine
  .rw[if_pos hl]at e
   cases e;obtain⟨a,xs,h1,h4,h5⟩:=rn hh e2;refine⟨_,h1,.inl ⟨rfl,xs,SqL.of h4⟩,H₀,Z₀,Z,δ,v,hh,e1,λw Z1 H1 hh1 t1 r1=>?_⟩
   obtain⟨a',xs',g1,g4,g5⟩:=rn hh1 e2;rw[h1]at g1;cases g1;exact⟨a,xs',w,rfl,rfl,g4,by rw[g5.length];exact hl,k σ _ Z1 (hh1.chg (xs:=xs') (tI e2) h1 (g5.append (.cons r1 .nil))) t1⟩
  .rw[if_neg hl]at e;cases e
end
section
def tw(wi:TI)(g:TG)(tt:TT)(te:TE)(vars:List Str)(caps:List (Nat×Str)):TE:=λσ H Q=>wi σ H λJ H1=>∃W:Nat->Nat->List V->Hp->Prop,(∃m,W 0 m [] H1)/\∀i m ys H,W i m ys H ->
 (J.stop i H/\ys.length<=sizeLine/\∀p,H p=none->Q (.ref p) (upd H p (.lst ys)))\/
 (J.go i H/\ys.length<sizeLine/\∀x H',J.yld i H x H'->g x (vars.map (λ_=>none)++eN σ caps) H' λσ2 H2=>wH (vars.map (λ_=>none)++eN σ caps) σ2/\tt σ2 H2 λb H3=>if b=true then te σ2 H3 λy H4=>∃m',m'<m/\W (i+1) m' (ys++[y]) H4 else ∃m',m'<m/\W (i+1) m' ys H3)
theorem ke{prog:Program}{w:World}{A:Around}{R:Result->Shared->Prop}{s:Shared}{elt target iter cnd:Expr}{scope:Scope}{pos:Pos}{it acc:Value}{env:Env}(I:Nat->Shared->Prop)
  (turn:∀n s,I n s->wpAny (model prog w) A (pyNext it) (λr s₁=>match r with
   |none=>R (.ok .next) s₁
   |some v=>wpAny (model prog w) A (letOwnedTupleGo target it v) (λ_ s₁=>wpAny (model prog w) A (assign target env v) (λ_ s₂=>wpAny (model prog w) A (isTrue cnd env (eval cnd env)) (λok s₂=>if ok=true then wpAny (model prog w) A (eval elt env) (λx s₃=>
     wpAny (model prog w) A (call (.builtin "list.append") [acc,x]) (λ_ s₄=>∃m,m<n/\I m s₄) (λ_ _=>False) s₃) (λ_ _=>False) s₂ else ∃m,m<n/\I m s₂) (λ_ _=>False) s₂) (λ_ _=>False) s₁) (λ_ _=>False) s₁) (λ_ _=>False) s)
  (n:Nat) (h:I n s):codeAny (model prog w) A (.compLoop (.ListComp elt [⟨target,iter,[cnd],0⟩] scope pos) 0 it acc env) R s:=by
 refine codeAny_loop rfl I (λn s hI=>?_) n h;show wpAny _ _ ((compTurn (.ListComp elt [⟨target,iter,[cnd],0⟩] scope pos) 0 it acc env).onRaise (λx=>do noteFrame x env;theTreesLotGoes x)) _ _ s;refine wpAny_noted ?_;rw[compTurn_list];refine wpAny_bind (wpAny_standAt (wpAny_bind (wpAny_mono (turn n s hI) (λr s₁ h₁=>?_) λ_ _ h'=>h'.elim)))
 cases r with
 |none=>exact wpAny_pure h₁
 |some v=>
  refine wpAny_bind (wpAny_mono h₁ (λ_ s₁ h₁=>?_) λ_ _ h'=>h'.elim)
  refine wpAny_bind (wpAny_mono h₁ (λ_ s₂ h₂=>?_) λ_ _ h'=>h'.elim)
  refine wpAny_bind (wpAny_tests_one (wpAny_mono h₂ (λokb s₃ h₃=>?_) λ_ _ h'=>h'.elim))
  cases okb with
  |false=>exact wpAny_pure ⟨rfl,h₃⟩
  |true=>exact wpAny_bind (wpAny_bind (wpAny_mono h₃ (λx s₄ h₄=>wpAny_bind (wpAny_mono h₄ (λ_ s₅ h₅=>wpAny_pure (wpAny_pure ⟨rfl,h₅⟩)) λ_ _ h'=>h'.elim)) λ_ _ h'=>h'.elim))
end
section
variable{X:Cx}{scope:Scope}{vars:List Str}{caps:List (Nat×Str)}{elt tg iter cnd:Expr}{pos:Pos}{wi:TI}{g:TG}{tt:TT}{te:TE}
theorem kC{Cm:Cx->Prop}(B:BlkOk X.env.scope.names X.N scope vars caps)
  (hg:∀C s₀ H₀ ex,PG (cw X scope (vars++caps.map (·.2)) C s₀ H₀ ex) tg g) (hb:∀C s₀ H₀ ex,PT (cw X scope (vars++caps.map (·.2)) C s₀ H₀ ex) cnd tt) (he:∀C s₀ H₀ ex,PE (cw X scope (vars++caps.map (·.2)) C s₀ H₀ ex) elt te)
  {pins:List (Addr×Obj)} {σ:St} {H2:Hp} {s2:Shared} {Q:VK} {it:Addr} {fp:List Addr} {tn:Nat->Heap->Prop} {J:It} (I2:Inv X pins σ H2 s2) (T:TurnG Cm X.prog X.w X.K tg J fp it tn) (st2:tn 0 s2.heap) (f2:∀b∈fp,i9 X pins H2 b) (hc:∀C,Cm (cw X scope (vars++caps.map (·.2)) C s2 H2 fp))
  {W:Nat->Nat->List V->Hp->Prop} {m0:Nat} (w0:W 0 m0 [] H2) (turn:∀i m ys H,W i m ys H ->
   (J.stop i H/\ys.length<=sizeLine/\∀p,H p=none->Q (.ref p) (upd H p (.lst ys)))\/
   (J.go i H/\ys.length<sizeLine/\∀x H',J.yld i H x H'->g x (vars.map (λ_=>none)++eN σ caps) H' λσ2 H2=>wH (vars.map (λ_=>none)++eN σ caps) σ2/\tt σ2 H2 λb H3=>if b=true then te σ2 H3 λy H4=>∃m',m'<m/\W (i+1) m' (ys++[y]) H4 else ∃m',m'<m/\W (i+1) m' ys H3))
  {RR:Value->Addr->Result->Shared->Prop} {E:Value->Shared->Prop}
  (hRR:∀D C s' m,s'.heap.Ns C m->D≠C->s2.heap.objs.size<=D->s2.heap.objs.size<=C->∀H',H' C=none->(∀h',Heap.SameBut C s'.heap h'->Inv X pins σ H' {s' with heap:=h'})->Q (.ref D) H'->RR (.ref D) C (.ok .next) s'):
  wpAny (model X.prog X.w) X.A (newList []) (λacc s₃=>wpAny (model X.prog X.w) X.A (newFunctionEnv scope X.env.globals (i4 X.env scope.names []) [] X.env.qual none .none (some X.env)) (λcenv s₄=>
   codeAny (model X.prog X.w) X.A (.compStart (.ListComp elt [⟨tg,iter,[cnd],0⟩] scope pos) 0 (.ref it) acc {cenv with scope:=relabel scope X.env}) (RR acc cenv.locals) s₄) E s₃) E s2:=by
 refine wpAny_newObj_type (wpAny_newFunctionEnv B.cell (by intro y hy;simp at hy) (λh₁ hns₁ hsb₁=>?_) B.kind);dsimp only at hns₁ hsb₁ ⊢;generalize hP:s2.heap.push {cls:=.type "list",dict:=none,data:=.seq ([]:List Value).toArray}=HP at hns₁ hsb₁ ⊢;have hCs:HP.objs.size=s2.heap.objs.size+1:=by rw[<-hP,Heap.size_push]
 have hDC:s2.heap.objs.size≠HP.objs.size:=by rw[hCs];exact ne_of_lt (Nat.lt_succ_self _)
 have hCle:s2.heap.objs.size<=HP.objs.size:=by rw[hCs];exact Nat.le_succ _
 have old:∀b o,s2.heap.get? b=some o->h₁.get? b=some o:=λb o e=>hsb₁.extBut b o (ne_of_lt (lt_of_lt_of_le (lt_size e) hCle)) (get?_push_of_some _ (hP ▸ get?_push_of_some _ e))
 have hacc:h₁.PlainList s2.heap.objs.size #[]:=⟨_,hsb₁.extBut _ _ hDC (get?_push_of_some _ (hP ▸ get?_push_size _ rfl))⟩;have flt:∀b∈fp,b<s2.heap.objs.size:=λb hb=>by
  obtain⟨o,e,_⟩:=T.obj _ _ st2 b hb;exact lt_size e
 have st1:tn 0 h₁:=T.keep _ _ _ st2 λb _ o e=>old b o e
 have loop:∀s3:Shared,s3={s2 with heap:=h₁,toks:=s2.toks+([]:List (Str×Value)).length} ->
   codeAny (model X.prog X.w) X.A (.compLoop (.ListComp elt [⟨tg,iter,[cnd],0⟩] scope pos) 0 (.ref it) (.ref s2.heap.objs.size) (compEnvC scope (i4 X.env scope.names []) HP.objs.size X.env))
    (RR (.ref s2.heap.objs.size) HP.objs.size) s3:=by
  rintro s3 rfl;have X':=cw X scope (vars++caps.map (·.2)) HP.objs.size s2 H2 fp;have fpo:∀{H':Hp},(∀b∈fp,H' b=none)->∀b∈fp,i9 (cw X scope (vars++caps.map (·.2)) HP.objs.size s2 H2 fp) [] H' b:=λhn b hb=>by
   have ok:=uF B I2 f2 flt hCle;exact⟨hn b hb,(ok.exf b hb).1,ok.exfs b hb,.inl hb,(ok.exf b hb).2,λp hp=>absurd (show p∈([]:List (Addr×Obj))from hp) (by simp)⟩
  refine ke (λn s=>∃i ys H its,Inv (cw X scope (vars++caps.map (·.2)) HP.objs.size s2 H2 fp) [] (vars.map (λ_=>none)++eN σ caps) H s/\tn i s.heap/\(∀b∈fp,H b=none)/\s.heap.PlainList s2.heap.objs.size (List.toArray its)/\H s2.heap.objs.size=none/\Vals ys its/\W i n ys H) ?_ m0
   ⟨0,[],H2,[],wA B I2 f2 flt hCle hns₁ old,st1,λb hb=>(f2 b hb).1,hacc,I2.hok.fresh (le_refl _),.nil,w0⟩
  rintro n s4 ⟨i,ys,H4,its,I4,st4,fr4,pl4,nD4,v4,w4⟩;obtain⟨nn,eD⟩:=id pl4;have DnL:s2.heap.objs.size≠(cw X scope (vars++caps.map (·.2)) HP.objs.size s2 H2 fp).env.locals:=hDC;have Dfs:s2.heap.objs.size∉(cw X scope (vars++caps.map (·.2)) HP.objs.size s2 H2 fp).fs:=λz=>by
   rcases List.mem_cons.mp (I2.stkSub _ z)with q|q
   .have:=I2.lt;rw[<-q]at this;exact lt_irrefl _ this
   .exact I2.nofs (le_refl _) q
  have Dfp:∀b∈fp,s2.heap.objs.size≠b:=λb hb z=>by have:=flt b hb;rw[<-z]at this;exact lt_irrefl _ this
  have DnC:∀x c,(cw X scope (vars++caps.map (·.2)) HP.objs.size s2 H2 fp).env.cells.lookup x=some c->c≠s2.heap.objs.size:=λx c e z=>by
   rcases bg _ _ _ _ (B.cells I2) e with q|q
   .cases q
   .obtain⟨v,o,ho,_⟩:=I2.cell x c q
    have:=lt_size ho;rw[z]at this;exact lt_irrefl _ this
  have pinD:∀{σ':St} {H':Hp} {s':Shared},Inv (cw X scope (vars++caps.map (·.2)) HP.objs.size s2 H2 fp) [(s2.heap.objs.size,{cls:=.type "list",data:=.seq its.toArray nn})] σ' H' s'->s'.heap.PlainList s2.heap.objs.size its.toArray/\H' s2.heap.objs.size=none:=λ{σ' H' s'} I'=>by
   obtain⟨q1,q2,_⟩:=I'.pin (s2.heap.objs.size,{cls:=.type "list",data:=.seq its.toArray nn}) (by simp[cw]);exact⟨⟨nn,q1⟩,q2⟩
  have I4p:Inv (cw X scope (vars++caps.map (·.2)) HP.objs.size s2 H2 fp) [(s2.heap.objs.size,{cls:=.type "list",data:=.seq its.toArray nn})] (vars.map (λ_=>none)++eN σ caps) H4 s4:=
   I4.pins_of λp hp=>by
    have e:p=(s2.heap.objs.size,{cls:=.type "list",data:=.seq its.toArray nn}):=by simpa[cw]using hp
    subst e;exact⟨eD,nD4,DnL,Dfs,λv z=>by cases z⟩
  have fpo':∀{H':Hp},(∀b∈fp,H' b=none)->∀b∈fp,i9 (cw X scope (vars++caps.map (·.2)) HP.objs.size s2 H2 fp) [(s2.heap.objs.size,{cls:=.type "list",data:=.seq its.toArray nn})] H' b:=λhn b hb=>by
   obtain⟨q1,q2,q3,q4,q5,_⟩:=fpo hn b hb;exact⟨q1,q2,q3,q4,q5,λp hp=>by
    have e:p=(s2.heap.objs.size,{cls:=.type "list",data:=.seq its.toArray nn}):=by simpa[cw]using hp
    subst e;exact Dfp b hb⟩
  have unp:∀{pl:List (Addr×Obj)} {σ':St} {H':Hp} {s':Shared},Inv (cw X scope (vars++caps.map (·.2)) HP.objs.size s2 H2 fp) pl σ' H' s'->Inv (cw X scope (vars++caps.map (·.2)) HP.objs.size s2 H2 fp) [] σ' H' s':=λ{pl σ' H' s'} I'=>
   I'.pins_of λp hp=>absurd (show p∈([]:List (Addr×Obj))from hp) (by simp)
  rcases turn i n ys H4 w4 with⟨stop,hz,qn⟩|⟨go,hz,step⟩
  .refine bB (T.done (cw X scope (vars++caps.map (·.2)) HP.objs.size s2 H2 fp) rfl rfl rfl (hc _) i _ s4 _ H4 _ I4p (fpo' fr4) st4 stop) λr s5 ⟨hr,I5⟩=>?_
   subst hr;obtain⟨p5,n5⟩:=pinD I5;obtain⟨m5,ns5,_⟩:=I5.loc;refine hRR _ _ s5 m5 ns5 hDC (le_refl _) hCle _ ?_ (λh' hs'=>wz I2 f2 hCle (le_refl _) hDC (unp I5) n5 p5 v4 hz hs') (qn _ n5)
   rw[aq hDC.symm];exact I5.free
  .refine bB (T.item (cw X scope (vars++caps.map (·.2)) HP.objs.size s2 H2 fp) rfl rfl rfl (hc _) i _ s4 _ H4 _ I4p (fpo' fr4) st4 go) λr s5 ⟨u,hr,h5⟩=>?_
   subst hr;refine bB h5 λ_ s6 ⟨x,H6,I6,rx,yx,st6,fr6⟩=>?_
   have I6p:=I6.pinned (fpo' fr6) (T.obj _ _ st6);refine bB (hg _ _ _ _ _ s6 _ H6 x u _ I6p rx (step x H6 yx)) λ_ s7 ⟨σ7,H7,I7,kp,q7⟩=>?_
   refine bB (hb _ _ _ _ _ s7 σ7 H7 _ I7 q7) λokb s7' q7'=>?_
   obtain⟨H7',I7',q7'⟩:=q7';cases okb with
   |false=>
    obtain⟨m',hm,w8⟩:=q7';rw[if_neg (by decide)];obtain⟨p8,n8⟩:=pinD I7'.unpinned;have st8:tn (i+1) s7'.heap:=T.keep _ _ _ st6 λb hb o e=>(I7'.pin (b,o) (mem_append_right _ (mem_append_right _ (b0 hb e)))).1
    have fr8:∀b∈fp,H7' b=none:=λb hb=>by
     obtain⟨o,e,d⟩:=T.obj _ _ st6 b hb;exact(I7'.pin (b,o) (mem_append_right _ (mem_append_right _ (b0 hb e)))).2.1
    exact⟨m',hm,i+1,ys,H7',its,(unp I7').weak kp.1 kp.2,st8,fr8,p8,n8,v4,w8⟩
   |true=>
   rw[if_pos rfl];rw[if_pos rfl]at q7';refine bB (he _ _ _ _ _ s7' σ7 H7' _ I7' q7') λv s8 ⟨y,H8,I8,ry,m',hm,w8⟩=>?_
   obtain⟨p8,n8⟩:=pinD I8.unpinned;have st8:tn (i+1) s8.heap:=T.keep _ _ _ st6 λb hb o e=>(I8.pin (b,o) (mem_append_right _ (mem_append_right _ (b0 hb e)))).1
   have fr8:∀b∈fp,H8 b=none:=λb hb=>by
    obtain⟨o,e,d⟩:=T.obj _ _ st6 b hb;exact(I8.pin (b,o) (mem_append_right _ (mem_append_right _ (b0 hb e)))).2.1
   have hl:=v4.length;refine wpAny_list_append_plain p8 (λh9 p9 sb9=>⟨m',hm,i+1,ys++[y],H8,its++[v],?_,?_,fr8,by simpa using p9,n8,v4.append (.cons ry .nil),w8⟩) (by simp;lia)
   .have I9:Inv (cw X scope (vars++caps.map (·.2)) HP.objs.size s2 H2 fp) [] σ7 H8 {s8 with heap:=h9,toks:=s8.toks}:=
     (unp I8).turned (it:=s2.heap.objs.size) (λb o hb e=>sb9.extBut b o hb e) n8 DnL (.inr (le_refl _)) DnC λp hp=>absurd (show p∈([]:List (Addr×Obj))from hp) (by simp)
    exact I9.weak kp.1 kp.2
   .exact T.keep _ _ _ st8 λb hb o e=>sb9.extBut b o (Dfp b hb).symm e
 exact codeAny_compStart_list (loop _ rfl) (T.self _ 0 _ _ _ st1 (loop _ rfl))
theorem zy(B:BlkOk X.env.scope.names X.N scope vars caps)(hc:X.calm=true)(hi:PI X tg iter wi)
  (hg:∀C s₀ H₀ ex,PG (cw X scope (vars++caps.map (·.2)) C s₀ H₀ ex) tg g) (hb:∀C s₀ H₀ ex,PT (cw X scope (vars++caps.map (·.2)) C s₀ H₀ ex) cnd tt) (he:∀C s₀ H₀ ex,PE (cw X scope (vars++caps.map (·.2)) C s₀ H₀ ex) elt te) (hs:∀x,foldedSetIterable iter X.env x=pure x:=by intro _;rfl):
  PE X (.ListComp elt [⟨tg,iter,[cnd],0⟩] scope pos) (tw wi g tt te vars caps):=by
 intro pins s σ H Q I h;rw[eval_ListComp];refine wpAny_comprehension_free (use:=none) rfl hs (dz (B.cells I)) B.kind B.names ?_;show wpAny _ _ (eval iter X.env) _ _ s;refine bB (hi pins s σ H _ I h) λv s1 h1=>bB h1 λitv s2 h2=>?_
 obtain⟨it,fp,tn,J,H2,e,I2,T,st2,f2,W,⟨m0,w0⟩,turn⟩:=h2;subst e;exact kC (Cm:=λX=>X.calm=true) B hg hb he I2 T st2 f2 (λ_=>hc) w0 turn (RR:=λacc C=>compPost (model X.prog X.w) X.A X.xe none (EP X pins σ Q) acc C) λD C s' m ns _ _ _ H' _ k q=>⟨m,ns,λh' hs'=>⟨.ref D,H',k h' hs',rfl,q⟩⟩
theorem zj{i:Nat}{y:Str}{py spos:Pos}(B:BlkOk X.env.scope.names X.N scope vars caps)(hc:X.calm=true)(hi:PI X tg iter wi)
  (hg:∀C s₀ H₀ ex,PG (cw X scope (vars++caps.map (·.2)) C s₀ H₀ ex) tg g) (hb:∀C s₀ H₀ ex,PT (cw X scope (vars++caps.map (·.2)) C s₀ H₀ ex) cnd tt) (he:∀C s₀ H₀ ex,PE (cw X scope (vars++caps.map (·.2)) C s₀ H₀ ex) elt te)
  (hN:X.N.Nodup) (hy:X.N[i]? = some y) (hx:sU X.env.scope y) (hsw:swapsWith (.ListComp elt [⟨tg,iter,[cnd],0⟩] scope pos) (some (.Name y py)) spos.line X.env=pure true)
  (hf:X.fn y=true\/X.env.scope.names.lookup y=some .local) (hs:∀x,foldedSetIterable iter X.env x=pure x:=by intro _;rfl):
  PS X (.Assign [.Name y py] (.ListComp elt [⟨tg,iter,[cnd],0⟩] scope pos) spos) (λD σ H=>tw wi g tt te vars caps σ H λv H1=>D.nx (σ.set i (some v)) H1):=by
 intro pins s σ H DE I h;rw[exec_Assign_Name_used _ _ _ _ hsw];refine wpAny_bind (wpAny_standAt (wpAny_bind ?_));show wpAny _ X.A (do let _ <-comprehension (.ListComp elt [⟨tg,iter,[cnd],0⟩] scope pos) scope X.env _ (newList []) false (eval iter X.env) (some (assign (.Name y py) X.env))) _ _ s;refine wpAny_bind (wpAny_mono (wpAny_comprehension_free (use:=some (assign (.Name y py) X.env)) (Q:=λ_ s'=>SP X pins DE .next s') rfl hs (dz (B.cells I)) B.kind B.names
  (bB (hi pins s σ H _ I h) λv s1 h1=>bB h1 λitv s2 h2=>?_)) (λ_ s' hq=>wpAny_pure (wpAny_pure hq)) λ_ _ e=>e)
 obtain⟨it,fp,tn,J,H2,e,I2,T,st2,f2,W,⟨m0,w0⟩,turn⟩:=h2;subst e;refine kC (Cm:=λX=>X.calm=true) (Q:=λv H1=>DE.nx (σ.set i (some v)) H1) B hg hb he I2 T st2 f2 (λ_=>hc) w0 turn (RR:=λacc C=>compPost (model X.prog X.w) X.A X.xe (some (assign (.Name y py) X.env)) (λ_ s'=>SP X pins DE .next s') acc C) ?_
 intro D C s' m ns hDC hD hC H' hHC k q;obtain⟨oC,es,ep,eC,dC,rC⟩:=ns;have I':Inv X pins σ H' s':=k s'.heap (Heap.SameBut.refl ..);have nL:C≠X.env.locals:=λz=>by have:=I2.lt;rw[<-z]at this;exact absurd (lt_of_lt_of_le this hC) (lt_irrefl _)
 have nF:C∉X.fs:=I2.nofs hC;have nCell:∀x c,X.env.cells.lookup x=some c->c≠C:=λx c e z=>by
  obtain⟨v,o,ho,_⟩:=I2.cell x c e;have:=lt_size ho;rw[z]at this;exact absurd (lt_of_lt_of_le this hC) (lt_irrefl _)
 have nPin:∀p∈X.pn++pins,p.1≠C:=λp hp z=>by
  have:=lt_size (I2.pin p hp).1;rw[z]at this;exact absurd (lt_of_lt_of_le this hC) (lt_irrefl _)
 have Ip:Inv X (pins++[(C,oC)]) σ H' s':=I'.pins_of λp hp=>by
  rcases List.mem_append.mp hp with z|z
  .exact I'.pin p (mem_append_right _ z)
  .have e:p=(C,oC):=by simpa using z
   subst e;exact⟨eC,hHC,nL,nF,λv z=>by rw[dC]at z;cases z⟩
 refine bB (aW (pos:=py) hN hy hx hf _ s' σ H' (.ref D) (.ref D) (λσ' H''=>σ' = σ.set i (some (.ref D))/\H''=H'/\DE.nx σ' H'') Ip rfl ⟨rfl,rfl,q⟩) λ_ s'' ⟨σ'',H'',I'',e1,e2,q''⟩=>?_
 subst e1 e2;have eC'':s''.heap.get? C=some oC:=(I''.pin (C,oC) (mem_append_right _ (mem_append_right _ (by simp)))).1;refine⟨m,⟨oC,es,ep,eC'',dC,rC⟩,λh' hs'=>⟨_,H'',?_,q''⟩⟩
 exact I''.unpinned.turned (t':=s''.toks) (it:=C) (λb o hb e=>hs'.extBut b o hb e) hHC nL (.inr (le_trans I2.sz hC)) nCell nPin
end
def gi(t:D->Option Bool)(f:D->Option D):List D->Option (List D)
 |[]=>some []
 |d::ds=>(t d).bind λb=>if b=true then(f d).bind λe=>(gi t f ds).bind λes=>some (e::es)else gi t f ds
@[simp] theorem IA{t:D->Option Bool}{f:D->Option D}:gi t f []=some []:=rfl
def bF(fi:Dv->Option (List D))(caps:List (Nat×Str))(bv:D->Option (List D))(ft:Dv->Option Bool)(fe:Dv->Option D):Dv->Option D:=λδ=>(fi δ).bind λds=>if ds.length<=sizeLine then(gi (λd=>(bv d).bind λvs=>ft (vs.map .fz++bp δ caps)) (λd=>(bv d).bind λvs=>fe (vs.map .fz++bp δ caps)) ds).bind λes=>some (.list es)else none
theorem kc{t:D->Option Bool}{f:D->Option D}:∀{ds es:List D} {i:Nat} {d:D},gi t f ds=some es->ds[i]? = some d->∃xs,gi t f (ds.take i)=some xs/\∃b,t d=some b/\(b=false->gi t f (ds.take (i+1))=some xs)/\(b=true->∃e,f d=some e/\gi t f (ds.take (i+1))=some (xs++[e]))
 |[],es,i,d,h,q=>by simp at q
 |d::ds,es,i,d',h,q=>by
  obtain⟨b,h1,h⟩:=bind_some h;cases i with
  |zero=>
   simp at q;subst q;refine⟨[],rfl,b,h1,λhb=>?_,λhb=>?_⟩
   .subst hb;simp[gi,h1]
   .subst hb
    rw[if_pos rfl]at h;obtain⟨e,h2,h⟩:=bind_some h;exact⟨e,h2,by simp[gi,h1,h2]⟩
  |succ i=>
   simp at q;cases b with
   |false=>
    rw[if_neg (by decide)]at h;obtain⟨xs,g1,b',g2,g3,g4⟩:=kc (i:=i) h q;refine⟨xs,by simp[gi,h1,g1],b',g2,λhb=>by simpa[gi,h1]using g3 hb,λhb=>?_⟩
    obtain⟨e,k1,k2⟩:=g4 hb;exact⟨e,k1,by simpa[gi,h1]using k2⟩
   |true=>
    rw[if_pos rfl]at h;obtain⟨e0,h2,h⟩:=bind_some h;obtain⟨es',h3,h⟩:=bind_some h;obtain⟨xs,g1,b',g2,g3,g4⟩:=kc (i:=i) h3 q;refine⟨e0::xs,by simp[gi,h1,h2,g1],b',g2,λhb=>by simp[gi,h1,h2,g3 hb],λhb=>?_⟩
    obtain⟨e,k1,k2⟩:=g4 hb;exact⟨e,k1,by simp[gi,h1,h2,k2]⟩
theorem p7{t:D->Option Bool}{f:D->Option D}:∀{ds es:List D},gi t f ds=some es->es.length<=ds.length
 |[],es,h=>by cases h;exact le_refl _
 |d::ds,es,h=>by
  obtain⟨b,h1,h⟩:=bind_some h;cases b with
  |false=>rw[if_neg (by decide)]at h;exact Nat.le_succ_of_le (p7 h)
  |true=>
   rw[if_pos rfl]at h;obtain⟨e0,h2,h⟩:=bind_some h;obtain⟨es',h3,h⟩:=bind_some h;cases h;exact Nat.succ_le_succ (p7 h3)
section
variable{X:Cx}{scope:Scope}{vars:List Str}{caps:List (Nat×Str)}{elt tg iter cnd:Expr}{pos:Pos}{g:TG}{fi:Dv->Option (List D)}{ft:Dv->Option Bool}{fe:Dv->Option D}{bv:D->Option (List D)}
theorem mL(tk:qz X.K g vars.length bv){σ:St}{H:Hp}{Q:VK}(h:tV X.K (bF fi caps bv ft fe) σ H Q):tw (IY X.K fi) g (GB X.K ft) (tV X.K fe) vars caps σ H Q:=by
 obtain⟨H₀,Z₀,Z,δ,d,hh,e,k⟩:=h;obtain⟨ds,e1,e⟩:=bind_some e;by_cases hz:ds.length<=sizeLine
 .rw[if_pos hz]at e
  obtain⟨es,e2,e⟩:=bind_some e;cases e;have hv:vars.map (λ_=>(none:Option V))=List.replicate vars.length none:=by rw[List.map_const']
  refine⟨H₀,Z₀,Z,δ,ds,hh,e1,λJ Z1 H1 hh1 t1 ok=>?_⟩
  refine⟨λi m ys H=>m=ds.length-i/\i<=ds.length/\∃Zc xs,Hold X.K H₀ Z₀ Zc δ σ H/\Same Z1 Zc/\gi (λd=>(bv d).bind λvs=>ft (vs.map .fz++bp δ caps)) (λd=>(bv d).bind λvs=>fe (vs.map .fz++bp δ caps)) (ds.take i)=some xs/\Reps X.K Zc ys xs,⟨ds.length,by simp,zero_le _,Z1,[],hh1,Same.refl _,rfl,.nil⟩,?_⟩
  rintro i m ys H2 ⟨rfl,hi2,Zc,xs,hhc,tc,fx,rc⟩;have zh:Same Z1 H2:=tc.trans hhc.zh;have ly:=rc.length;have lx:=p7 fx;rw[List.length_take]at lx;by_cases hlt:i<ds.length
  .refine .inr ⟨ok.go i H2 zh hlt,by lia,λx H3 y=>?_⟩
   have ed:ds[i]? = some ds[i]:=by simp[hlt]
   obtain⟨rfl,rx⟩:=ok.yld i H2 x H3 _ zh ed y;obtain⟨xs',f0,b,fb,ff,ftr⟩:=kc e2 ed;rw[fx]at f0;cases f0;obtain⟨vs,f3,f1⟩:=bind_some fb;rw[hv];refine tk x Zc ds[i] vs (eN σ caps) H3 _ (rx.same tc) hhc.zh f3 λus ru hn=>⟨⟨by simp[hn],λj v q=>?_⟩,?_⟩
   .by_cases hj:j<vars.length
    .rw[getElem?_append_left (by simpa using hj),getElem?_replicate]at q
     split at q<;>cases q
    .rw[getElem?_append_right (by simpa using hj)]at q
     rw[getElem?_append_right (by simpa[hn]using hj)];simpa[hn]using q
   .refine⟨H3,Zc,Zc,_,b,mR hhc ru,f1,λZ3 H3' h3 t3=>?_⟩
    have hh3:=hhc.new ⟨t3,h3.h0,h3.zh,h3.zb,h3.nf⟩;cases b with
    |false=>
     dsimp only;rw[if_neg (by decide)];exact⟨ds.length-(i+1),by lia,rfl,hlt,Z3,xs,hh3,tc.trans t3,ff rfl,rc.same t3⟩
    |true=>
     dsimp only;rw[if_pos rfl];obtain⟨ei,f2,f4⟩:=ftr rfl;rw[f3]at f2;refine⟨H3,Zc,Z3,_,ei,h3,f2,λv Z4 H4 h4 t4 r4=>⟨ds.length-(i+1),by lia,rfl,hlt,Z4,xs++[ei],?_,(tc.trans t3).trans t4,f4,((rc.same t3).same t4).append (.cons r4 .nil)⟩⟩
     exact hhc.new ⟨t3.trans t4,h4.h0,h4.zh,h4.zb,h4.nf⟩
  .have hie:i=ds.length:=by lia
   subst hie;refine .inl ⟨ok.stop _ H2 zh (le_refl _),by lia,λp hp=>?_⟩
   rw[List.take_length,e2]at fx;cases fx;have n:=New.add hhc.zh hp (.lst ys);exact k _ _ _ (hhc.new n) ((t1.trans tc).trans n.z) (.lst (SqL.of av) (rc.same n.z))
 .rw[if_neg hz]at e;cases e
theorem cb(B:BlkOk X.env.scope.names X.N scope vars caps)(hc:X.calm=true)(hi:IV X tg iter fi)(tk:qz X.K g vars.length bv)
  (hg:∀C s₀ H₀ ex,PG (cw X scope (vars++caps.map (·.2)) C s₀ H₀ ex) tg g) (hb:∀C s₀ H₀ ex,TV (cw X scope (vars++caps.map (·.2)) C s₀ H₀ ex) cnd ft) (he:∀C s₀ H₀ ex,EV (cw X scope (vars++caps.map (·.2)) C s₀ H₀ ex) elt fe) (hs:∀x,foldedSetIterable iter X.env x=pure x:=by intro _;rfl):
  EV X (.ListComp elt [⟨tg,iter,[cnd],0⟩] scope pos) (bF fi caps bv ft fe):=
 PE.imp (zy (tt:=GB X.K ft) (te:=tV X.K fe) B hc hi hg hb he hs) λ_ _ _ h=>mL tk h
theorem ls(i:Nat){y:Str}{py spos:Pos}(hN:X.N.Nodup)(B:BlkOk X.env.scope.names X.N scope vars caps)(hc:X.calm=true)(hi:IV X tg iter fi)(tk:qz X.K g vars.length bv)
  (hg:∀C s₀ H₀ ex,PG (cw X scope (vars++caps.map (·.2)) C s₀ H₀ ex) tg g) (hb:∀C s₀ H₀ ex,TV (cw X scope (vars++caps.map (·.2)) C s₀ H₀ ex) cnd ft) (he:∀C s₀ H₀ ex,EV (cw X scope (vars++caps.map (·.2)) C s₀ H₀ ex) elt fe)
  (hy:X.N[i]? = some y:=by rfl) (hx:sU X.env.scope y:=by first|exact Or.inl rfl|exact Or.inr rfl) (hsw:swapsWith (.ListComp elt [⟨tg,iter,[cnd],0⟩] scope pos) (some (.Name y py)) spos.line X.env=pure true:=by rfl)
  (hf:X.fn y=true\/X.env.scope.names.lookup y=some .local:=by first|exact .inl rfl|exact .inr rfl|assumption) (hs:∀x,foldedSetIterable iter X.env x=pure x:=by intro _;rfl):
  SV X (.Assign [.Name y py] (.ListComp elt [⟨tg,iter,[cnd],0⟩] scope pos) spos) (aK i (bF fi caps bv ft fe)):=
 PS.imp (zj (tt:=GB X.K ft) (te:=tV X.K fe) B hc hi hg hb he hN hy hx hsw hf hs) λD σ H h=>by
  obtain⟨H₀,Z₀,Z,δ,r,hh,e,k⟩:=h;obtain⟨x,e1,e⟩:=bind_some e;cases e;exact mL tk ⟨H₀,Z₀,Z,δ,x,hh,e1,λv Z1 H1 hh1 s1 r1=>k _ H1 Z1 (hh1.set r1) s1⟩
end
def xM:D->Bool
 |.none=>true
 |.bool _=>true
 |.int _=>true
 |.str _=>true
 |_=>false
def FX(x:D)(ds:List D):Bool:=ds.any λy=>PyData.eqv y x
def sg(neg:Bool):D->D->Option D:=λa b=>(aV b).bind λds=>if xM a=true/\ds.all xM=true then some (.bool (if neg=true then !FX a ds else FX a ds))else none
theorem Rep.flat{K:Fg}{Z:Hp}{v:V}{d:D}(r:Rep K Z v d):hJ v=xM d:=by cases r<;>rfl
theorem Rep.eqF{K:Fg}{Z:Hp}{v u:V}{d e:D}(r:Rep K Z v d)(q:Rep K Z u e)(h1:xM d=true)(h2:xM e=true):Bv v u=PyData.eqv d e:=by
 cases r<;>first|(cases q<;>first|rfl|cases h2)|cases h1
theorem Reps.allF{K:Fg}{Z:Hp}:∀{vs:List V} {ds:List D},Reps K Z vs ds->vs.all hJ=ds.all xM
 |_,_,.nil=>rfl
 |_,_,.cons r t=>by rw[all_cons,all_cons,r.flat,t.allF]
theorem Reps.inF{K:Fg}{Z:Hp}{x:V}{a:D}(q:Rep K Z x a)(h:xM a=true):∀{vs:List V} {ds:List D},Reps K Z vs ds->ds.all xM=true->Jm x vs=FX a ds
 |_,_,.nil,_=>rfl
 |_,_,.cons r t,f=>by
  rw[all_cons,Bool.and_eq_true]at f;show(Bv _ x||Jm x _)=(PyData.eqv _ a||FX a _);rw[r.eqF q f.1 h,t.inF q h f.2]
theorem vK{K:Fg}{neg:Bool}{x y:V}{H:Hp}{Q:VK}(h:rD K (sg neg) x y H Q):Jd K neg x y H Q:=by
 obtain⟨Z,a,b,d,zh,ra,rb,e,k⟩:=h;obtain⟨ds,e1,e⟩:=bind_some e;by_cases c:xM a=true/\ds.all xM=true
 .rw[if_pos c]at e
  cases e;have go:∀(xs:List V),Reps K Z xs ds->(∃p,y=.ref p/\(SqL K H p xs\/SqT K H p xs))->Jd K neg x y H Q:=λxs r ⟨p,ey,hq⟩=>by
   refine⟨p,xs,ey,hq,by rw[ra.flat];exact c.1,by rw[r.allF];exact c.2,?_⟩;have:=r.inF ra c.1 c.2;rw[this];exact k _ Z H (New.refl zh) (.bl _)
  cases rb with
  |lst h q=>cases e1;exact go _ q ⟨_,rfl,.inl (SqL.same h zh)⟩
  |tup h q=>cases e1;exact go _ q ⟨_,rfl,.inr (SqT.same h zh)⟩
  |_=>cases e1
 .rw[if_neg c]at e;cases e
theorem Ga{X:Cx}:OpR X (compareOp .In) (rD X.K (sg false)):=OpR.imp xj λ_ _ _ _ h=>vK h
theorem wk{X:Cx}:OpR X (compareOp .NotIn) (rD X.K (sg true)):=OpR.imp pH λ_ _ _ _ h=>vK h
def gT:List (D->Dv->Option Dv)->List D->Dv->Option Dv
 |[],[],δ=>some δ
 |g::gs,d::ds,δ=>(g d δ).bind λδ1=>gT gs ds δ1
 |_,_,_=>none
def Bu(gs:List (D->Dv->Option Dv)):D->Dv->Option Dv
 |.tuple ds,δ=>gT gs ds δ
 |_,_=>none
@[simp] theorem Kq(δ:Dv):gT [] [] δ = some δ:=rfl
@[simp] theorem Jr(g:D->Dv->Option Dv)(gs:List (D->Dv->Option Dv))(d:D)(ds:List D)(δ:Dv):gT (g::gs) (d::ds) δ = (g d δ).bind λδ1=>gT gs ds δ1:=rfl
@[simp] theorem Jq(gs:List (D->Dv->Option Dv))(ds:List D)(δ:Dv):Bu gs (.tuple ds) δ = gT gs ds δ:=rfl
theorem AC:∀{gs:List (D->Dv->Option Dv)} {ds:List D} {δ δ':Dv},gT gs ds δ = some δ'->ds.length=gs.length
 |[],[],_,_,_=>rfl
 |[],_::_,_,_,h=>by cases h
 |_::_,[],_,_,h=>by cases h
 |g::gs,d::ds,δ,δ',h=>by
  obtain⟨δ1,_,h⟩:=bind_some h;exact congrArg (· + 1) (AC h)
def JB(K:Fg)(gs:List (D->Dv->Option Dv)):Dm:=λvs σ H Q=>∃H₀ Z₀ Z δ ds δ',Hold K H₀ Z₀ Z δ σ H/\Reps K Z vs ds/\gT gs ds δ = some δ'/\∀ σ' H' Z',Hold K H₀ Z₀ Z' δ' σ' H'->Same Z Z'->Q σ' H'
def Ju(X:Cx)(es:List Expr)(gs:List (D->Dv->Option Dv)):Prop:=PGs X es (JB X.K gs)
section
variable{X:Cx}{pos:Pos}{e:Expr}{es:List Expr}{g:D->Dv->Option Dv}{gs:List (D->Dv->Option Dv)}
theorem PGs.imp{t t':Dm}(h:PGs X es t)(i:∀v σ H Q,t' v σ H Q->t v σ H Q):PGs X es t':=λpins s σ H x v Q I r q=>h pins s σ H x v Q I r (i _ _ _ _ q)
theorem vM:Ju X [] []:=PGs.imp Ci λvs σ H Q h=>by
 obtain⟨H₀,Z₀,Z,δ,ds,δ',hh,r,e,k⟩:=h;cases r with
 |nil=>cases e;exact⟨rfl,k σ H Z hh (Same.refl _)⟩
 |cons _ _=>cases e
theorem jB(h1:GV X e g)(h2:Ju X es gs)(hs:(assignEach (e::es) X.env).map (·.2)=assign e X.env::(assignEach es X.env).map (·.2):=by rfl):Ju X (e::es) (g::gs):=
 PGs.imp (zq h1 h2 hs) λvs σ H Q h=>by
  obtain⟨H₀,Z₀,Z,δ,ds,δ',hh,r,e,k⟩:=h;cases r with
  |nil=>cases e
  |cons r t=>
   obtain⟨δ1,e1,e⟩:=bind_some e;exact⟨_,_,rfl,H₀,Z₀,Z,δ,_,δ1,hh,r,e1,λσ1 H1 Z1 hh1 s1=>⟨H₀,Z₀,Z1,δ1,_,δ',hh1,t.same s1,e,λσ2 H2 Z2 hh2 s2=>k σ2 H2 Z2 hh2 (s1.trans s2)⟩⟩
theorem Az{k:Nat}(hc:X.calm=true)(h:Ju X es gs)(hn:(assignEach es X.env).length=gs.length:=by rfl)(hst:(assignEach es X.env).findIdx? (·.1)=none:=by rfl):GV X (.Tuple es k pos) (Bu gs):=
 PG.imp (E1 hc h hn hst) λv σ H Q h=>by
  obtain⟨H₀,Z₀,Z,δ,d,δ',hh,r,e,k⟩:=h;cases r with
  |tup q t=>
   have el:_=gs.length:=AC (gs:=gs) e;exact⟨_,_,rfl,SqT.same q hh.zh,by rw[t.length];exact el,H₀,Z₀,Z,δ,_,δ',hh,t,e,k⟩
  |_=>cases e
end
def wN:Nat:=1000000
theorem iK{t:Dv->Option Bool}{b:Sf}:∀{n m:Nat} {δ:Dv} {r:Fl×Dv},e8 t b n δ = some r->n<=m->e8 t b m δ = some r
 | 0,_,_,_,h,_=>by cases h
 |n+1,0,_,_,_,hm=>by lia
 |n+1,m+1,δ,r,h,hm=>by
  have hm:n<=m:=by lia
  obtain⟨c,h1,h⟩:=bind_some h;show((t δ).bind λc=>_)=_
  rw[h1,Option.bind_some];cases c with
  |false=>exact h
  |true=>
   rw[if_pos rfl]at h ⊢;obtain⟨⟨fl,δ2⟩,h2,h⟩:=bind_some h;rw[h2,Option.bind_some];cases fl with
   |nx=>exact iK h hm
   |ct=>exact iK h hm
   |bk=>exact h
   |rt d=>exact h
theorem sX{t:Dv->Option Bool}{b:Sf}{δ:Dv}(n:Nat)(h:t δ = some false):e8 t b (n+1) δ = some (.nx,δ):=by
 show((t δ).bind λc=>_)=_
 rw[h];rfl
theorem yl{t:Dv->Option Bool}{b:Sf}{δ δ2:Dv}{r:Fl×Dv}(n:Nat)(h:t δ = some true)(h2:b δ = some (.nx,δ2))(h3:e8 t b n δ2=some r):e8 t b (n+1) δ = some r:=by
 show((t δ).bind λc=>_)=_
 rw[h,Option.bind_some,if_pos rfl,h2,Option.bind_some];exact h3
theorem fC{g:D->Dv->Option Dv}{b:Sf}{d:D}{ds:List D}{δ δ1 δ2:Dv}(h1:g d δ = some δ1)(h2:b δ1=some (.nx,δ2)):loop g b (d::ds) δ = loop g b ds δ2:=by
 show((g d δ).bind λδ1=>_)=_
 rw[h1,Option.bind_some,h2];rfl
def tO(K:Fg)(f:Dv->Option (List D)):TE:=λσ H Q=>∃H₀ Z₀ Z δ ds,Hold K H₀ Z₀ Z δ σ H/\f δ = some ds/\∀p vs Z' H',Hold K H₀ Z₀ Z' δ σ H'->Same Z Z'->H' p=none->Reps K Z' vs ds->Q (.ref p) (upd H' p (.lst vs))
def Jg(f:Dv->Option D):Dv->Option (List D):=λδ=>(f δ).bind zT
@[simp] def u4(i:Nat)(f:Dv->Option (List D)):Sf:=λδ=>(f δ).bind λds=>some (.nx,δ.set i (.ow ds))
section
variable{X:Cx}{e:Expr}{es:List Expr}{p pos:Pos}{f:Dv->Option (List D)}{fs:Dv->Option (List D)}
theorem zA{K:Fg}{D:Ends}{i:Nat}{σ:St}{H:Hp}(h:Dt K (u4 i f) D σ H):tO K f σ H λv H1=>D.nx (σ.set i (some v)) H1:=by
 obtain⟨H₀,Z₀,Z,δ,r,hh,e,k⟩:=h;obtain⟨ds,e1,e⟩:=bind_some e;cases e;exact⟨H₀,Z₀,Z,δ,ds,hh,e1,λp vs Z1 H1 hh1 t1 hp r1=>k _ _ Z1 (hh1.setO hp r1) t1⟩
end
section
variable{X:Cx}{scope:Scope}{vars:List Str}{caps:List (Nat×Str)}{elt tg iter cnd:Expr}{pos:Pos}{g:TG}{fi:Dv->Option (List D)}{ft:Dv->Option Bool}{fe:Dv->Option D}{bv:D->Option (List D)}
theorem uA(tk:qz X.K g vars.length bv){σ:St}{H:Hp}{Q:VK}(h:tO X.K (Jg (gA fi caps bv fe)) σ H Q):uT (IY X.K fi) g (tV X.K fe) vars caps σ H Q:=by
 obtain⟨H₀,Z₀,Z,δ,d0,hh,e0,k⟩:=h;obtain⟨d,e,e0⟩:=bind_some e0;obtain⟨ds,e1,e⟩:=bind_some e;by_cases hz:ds.length<=sizeLine
 .rw[if_pos hz]at e
  obtain⟨es,e2,e⟩:=bind_some e;cases e;obtain rfl:es=d0:=Option.some.inj e0;have le:=gW e2;have hv:vars.map (λ_=>(none:Option V))=List.replicate vars.length none:=by rw[List.map_const']
  refine⟨H₀,Z₀,Z,δ,ds,hh,e1,λJ Z1 H1 hh1 t1 ok=>?_⟩
  refine⟨λi m ys H=>m=ds.length-i/\i<=ds.length/\∃Zc,Hold X.K H₀ Z₀ Zc δ σ H/\Same Z1 Zc/\Reps X.K Zc ys (es.take i),⟨ds.length,by simp,zero_le _,Z1,hh1,Same.refl _,by simpa using .nil⟩,?_⟩
  rintro i m ys H2 ⟨rfl,hi2,Zc,hhc,tc,rc⟩;have zh:Same Z1 H2:=tc.trans hhc.zh;have ly:=rc.length;rw[List.length_take]at ly;by_cases hlt:i<ds.length
  .refine .inr ⟨ok.go i H2 zh hlt,by lia,λx H3 y=>?_⟩
   have ed:ds[i]? = some ds[i]:=by simp[hlt]
   obtain⟨rfl,rx⟩:=ok.yld i H2 x H3 _ zh ed y;obtain⟨ei,f1,f2⟩:=lT e2 ed;obtain⟨vs,f3,f1⟩:=bind_some f1;rw[hv];refine tk x Zc ds[i] vs (eN σ caps) H3 _ (rx.same tc) hhc.zh f3 λus ru hn=>⟨⟨by simp[hn],λj v q=>?_⟩,?_⟩
   .by_cases hj:j<vars.length
    .rw[getElem?_append_left (by simpa using hj),getElem?_replicate]at q
     split at q<;>cases q
    .rw[getElem?_append_right (by simpa using hj)]at q
     rw[getElem?_append_right (by simpa[hn]using hj)];simpa[hn]using q
   .refine⟨H3,Zc,Zc,_,ei,mR hhc ru,f1,λv Z4 H4 h4 t4 r4=>⟨ds.length-(i+1),by lia,rfl,hlt,Z4,hhc.new ⟨t4,h4.h0,h4.zh,h4.zb,h4.nf⟩,tc.trans t4,?_⟩⟩
    have:es.take (i+1)=es.take i++[ei]:=by
     rw[List.take_add_one,f2];rfl
    rw[this];exact(rc.same t4).append (.cons r4 .nil)
  .have hie:i=ds.length:=by lia
   subst hie;refine .inl ⟨ok.stop _ H2 zh (le_refl _),by lia,λp hp=>?_⟩
   rw[<-le,List.take_length]at rc;exact k p ys Zc _ hhc (t1.trans tc) hp rc
 .rw[if_neg hz]at e;cases e
theorem yz(i:Nat){y:Str}{py spos:Pos}(hN:X.N.Nodup)(B:BlkOk X.env.scope.names X.N scope vars caps)(hc:X.calm=true)(hi:IV X tg iter fi)(tk:qz X.K g vars.length bv)
  (hg:∀C s₀ H₀ ex,PG (cw X scope (vars++caps.map (·.2)) C s₀ H₀ ex) tg g) (he:∀C s₀ H₀ ex,EV (cw X scope (vars++caps.map (·.2)) C s₀ H₀ ex) elt fe)
  (hy:X.N[i]? = some y:=by rfl) (hx:sU X.env.scope y:=by first|exact Or.inl rfl|exact Or.inr rfl) (hsw:swapsWith (.ListComp elt [⟨tg,iter,[],0⟩] scope pos) (some (.Name y py)) spos.line X.env=pure true:=by rfl)
  (hf:X.fn y=true\/X.env.scope.names.lookup y=some .local:=by first|exact .inl rfl|exact .inr rfl|assumption) (hs:∀x,foldedSetIterable iter X.env x=pure x:=by intro _;rfl):
  SV X (.Assign [.Name y py] (.ListComp elt [⟨tg,iter,[],0⟩] scope pos) spos) (u4 i (Jg (gA fi caps bv fe))):=
 PS.imp (va (te:=tV X.K fe) B hc hi hg he hN hy hx hsw hf hs) λD σ H h=>uA tk (zA h)
end
def wR(t:Sf):Fl×Dv->Option (Fl×Dv)
 | (.nx,δ)=>t δ
 |r=>some r
@[simp] theorem Ja(t:Sf)(δ:Dv):wR t (.nx,δ)=t δ:=rfl
@[simp] theorem I0(t:Sf)(d:D)(δ:Dv):wR t (.rt d,δ)=some (.rt d,δ):=rfl
@[simp] theorem Jc(t:Sf)(δ:Dv):wR t (.bk,δ)=some (.bk,δ):=rfl
@[simp] theorem Jb(t:Sf)(δ:Dv):wR t (.ct,δ)=some (.ct,δ):=rfl
def Jo(u w:Sf)(δ:Dv):Bool->Option (Fl×Dv)
 |true=>u δ
 |false=>w δ
@[simp] theorem K9(u w:Sf)(δ:Dv):Jo u w δ true=u δ:=rfl
@[simp] theorem La(u w:Sf)(δ:Dv):Jo u w δ false=w δ:=rfl
theorem d5(s t:Sf)(δ:Dv):ay s t δ = (s δ).bind (wR t):=by
 unfold ay wR;congr 1
theorem gL(t:Dv->Option Bool)(u w:Sf)(δ:Dv):dX t u w δ = (t δ).bind (Jo u w δ):=by
 unfold dX;congr 1;funext c;cases c<;>rfl
def jz:List D->Option (List Int)
 |[]=>some []
 |.int b::r=>(jz r).map (b :: ·)
 |_=>none
def BQ:List D->Option D
 |[.list xs]=>(jz xs).map λbs=>.int bs.sum
 |_=>none
theorem oO{α:Type}(f:α -> Int):∀xs:List α,jz (xs.map λa=>.int (f a))=some (xs.map f)
 |[]=>rfl
 |a::r=>by simp[jz,oO f r]
theorem yB{α:Type}(f:α -> Int)(xs:List α):BQ [.list (xs.map λa=>.int (f a))]=some (.int (xs.map f).sum):=by
 simp[BQ,oO]
def Hi:D->Option D
 |.list xs=>some (.list xs.reverse)
 |_=>none
@[simp] theorem EI(xs:List D):Hi (.list xs)=some (.list xs.reverse):=rfl
def Hj:D->Option (List D)
 |.list xs=>some xs.reverse
 |.tuple xs=>some xs.reverse
 |_=>none
@[simp] theorem GF(xs:List D):Hj (.list xs)=some xs.reverse:=rfl
@[simp] theorem EJ(xs:List D):Hj (.tuple xs)=some xs.reverse:=rfl
@[simp] def K4:Sf:=λ_=>none
@[simp] def Ly(i:Nat)(f:Dv->Option D):Sf:=λδ=>(f δ).bind λv=>(aV v).bind λes=>(yg δ[i]?).bind λds=>if ds.length+es.length<=sizeLine then some (.nx,δ.set i (.ow (ds++es)))else none
section
variable{X:Cx}{e:Expr}{es:List Expr}{p pos tpos apos:Pos}{f:Dv->Option D}{st:Stmt}
theorem r9{K:Fg}{Z:Hp}:∀{xs:List V} {ds:List D} {bs:List Int} {its:List Value},Reps K Z xs ds->Vals xs its->jz ds=some bs->IntsAre its bs
 |_,_,bs,_,.nil,.nil,h=>by cases h;exact .nil
 |_,_,bs,_,.cons r t,.cons q u,h=>by
  cases r with
  |int b=>
   unfold jz at h;cases g:jz _ with
   |none=>rw[g]at h;cases h
   |some cs=>
    rw[g]at h;cases h;obtain⟨tk,rfl⟩:=q;exact .cons _ _ (r9 t u g)
  |_=>cases h
theorem IH(hc:X.calm=true):CallR X (.builtin "sum") (DC X.K BQ):=by
 intro pins s σ H xs us Q I rs q;obtain⟨Z,as,d,zh,ra,e,k⟩:=q;cases ra with
 |nil=>cases e
 |cons r1 r2=>
  cases r2 with
  |cons _ _=>cases r1<;>cases e
  |nil=>
   cases r1 with
   | @lst l ys ds h1 q1=>
    have e:(jz ds).map (λbs=>PyData.int bs.sum)=some d:=e;cases g:jz ds with
    |none=>rw[g]at e;cases e
    |some bs=>
     rw[g]at e;cases e;obtain⟨u,rfl,ru⟩:=jb rs;cases ru;obtain⟨its,rv,pl,hz⟩:=I.list (SqL.same h1 zh);have hi:=r9 q1 rv g;obtain⟨zs,hx⟩:=hi.allInts.items;have hl':s.heap.IsList l (intItems zs):=hx ▸ pl.isList;refine sum_intListG (I.ok.hd hc) hl' λh' tk t' hk=>?_
     have e1:bs=zs.toList.map (·.1):=by
      rw[<-nums_intItems,<-hx];exact(show numsOf its.toArray.toList=bs from hi.numsOf).symm
     have e2:preSum (numAt zs) zs.size=bs.sum:=by
      rw[preSum_eq,List.take_of_length_le (by simp),e1]
     rw[e2];exact⟨.int _,H,I.kept (t':=tk) hk,⟨t',rfl⟩,k _ Z H (New.refl zh) (.int _)⟩
   |_=>cases e
theorem G9{st:Stmt}:SV X st K4:=λpins s σ H D I h=>by
 obtain⟨_,_,_,_,_,_,e,_⟩:=h;cases e
end
def JT:D->Option (List D)
 |.tuple xs=>some xs.reverse
 |_=>none
@[simp] theorem EH(xs:List D):JT (.tuple xs)=some xs.reverse:=rfl
def F2(h:Heap)(e:Addr):Prop:=∃oe vs,h.get? e=some oe/\oe.data=.fields vs/\vs[2]? = some .none
def FlyX(base:Heap)(l:List Env)(e:Addr)(cls a0:Value)(h:Heap):Prop:=Heap.FlyingW base l e cls a0 h/\F2 h e
def Ed(base:Heap)(l:List Env)(e:Addr)(cls a0:Value)(L:Addr)(h:Heap):Prop:=Heap.HeldW base l e cls a0 L h/\F2 h e
structure Put (l:List Env) (e T:Addr) (oe:Obj) (fl:Value) (h h':Heap):Prop where
 new:h.get? T=none
 ex:h'.get? e=some (oe.mapFields (·.setIfInBounds 1 (.ref T)))
 tb:∃oT ts,h'.get? T=some oT/\oT.data=.fields ts/\ts[3]? = some fl
 keep:∀b o,b≠e->b∉g9 l->h.get? b=some o->h'.get? b=some o
 slot:∀b o,b≠e->h.get? b=some o->∃sl,h'.get? b=some {o with slots:=sl}
section
variable{M:Model}{A:Around}{E:Value->Shared->Prop}{s:Shared}
theorem oq{base:Heap}{env:Env}{outer:List Env}{L e:Addr}{oe:Obj}{vs:Array Value}{head:Value}{nx:Bool}{Q:Unit->Shared->Prop}
  (hfr:A.frames=some (env::outer)) (hl:s.heap.FunFrames base (env::outer)) (hf:env.frame=some L) (he:s.heap.get? e=some oe) (hd:oe.data=.fields vs) (hsz:1<vs.size)
  (h:∀h' T,Put (env::outer) e T oe (rawInt L) s.heap h'->Q () {s with heap:=h'}):
  wpAny M A (do let a <-frameOf env;let pl <-entryPlaceOf L nx;let b <-EntryCells.newEntry head a .none (rawInt L) .none pl;setField (.ref e) 1 b) Q E s:=by
 have hene:e∉g9 (env::outer):=λhm=>by
  obtain⟨_,o,ho,hnf⟩:=hl.mem hm;rw[he]at ho;cases ho;exact hnf vs hd
 refine wpAny_bind (wpAny_frameOf_fun hfr hl hf λh₁ hs₁=>wpAny_bind (wpAny_entryPlaceOf λpl hpl=>?_))
 unfold EntryCells.newEntry newFields;refine wpAny_bind (wpAny_newObj_type ?_ (hpl.sizeOk5 _ _ _ _ _));have he₁:h₁.get? e=some oe:=(hs₁.2.1 e hene).trans he;have nT:s.heap.get? h₁.objs.size=none:=by
  cases q:s.heap.get? h₁.objs.size with
  |none=>rfl
  |some o=>
   obtain⟨sl,q2⟩:=hs₁.2.2 _ o q;exact absurd (lt_size q2) (lt_irrefl _)
 refine wpAny_setField (get?_push_of_some _ he₁) hd hsz (h _ h₁.objs.size ⟨nT,?_,?_,λb o hb hbf q=>?_,λb o hb q=>?_⟩)
 .exact Heap.get?_update_self _ (get?_push_of_some _ he₁) (Obj.isFreed_of_fields (Obj.data_mapFields hd _))
 .refine⟨_,_,(get?_update_other _ _ (ne_of_lt (lt_size he₁))).trans (get?_push_size h₁ rfl),rfl,?_⟩
  first|(simp;done)|(rcases hpl with rfl|⟨_,_,_,_,_,_,_,rfl⟩<;>simp)
 .rw[get?_update_other _ _ (Ne.symm hb)]
  exact get?_push_of_some _ ((hs₁.2.1 b hbf).trans q)
 .obtain⟨sl,q2⟩:=hs₁.2.2 b o q
  exact⟨sl,by rw[get?_update_other _ _ (Ne.symm hb)];exact get?_push_of_some _ q2⟩
theorem Put.flies{base h h':Heap}{l:List Env}{e T:Addr}{oe:Obj}{vs:Array Value}{fl a0:Value}(p:Put l e T oe fl h h')(hkb:base.StaysIn h)(hl:h.FunFrames base l)(hen:base.get? e=none)(he:h.get? e=some oe)(hd:oe.data=.fields vs)(h0:vs[0]? = some a0)(h2:vs[2]? = some .none):
  base.StaysIn h'/\h'.FunFrames base l/\h'.TracedAtW base e oe.cls a0 fl/\F2 h' e/\h.UpToSlots h':=by
 have hsz:2<vs.size:=(Array.getElem?_eq_some_iff.mp h2).1;have hd3:=Obj.data_mapFields hd (·.setIfInBounds 1 (Value.ref T));have hTe:T≠e:=λz=>by subst z;rw[p.new]at he;cases he
 obtain⟨oT,ts,q1,q2,q3⟩:=p.tb;have ne:∀b o,h.get? b=some o->(∀ws,o.data≠.fields ws)->b≠e:=λb o hb hnf z=>by subst z;rw[he]at hb;cases hb;exact hnf _ hd
 have nT:base.get? T=none:=by
  cases q:base.get? T with
  |none=>rfl
  |some o=>have:=hkb _ _ q;rw[p.new]at this;cases this
 refine⟨λb o hb=>p.keep b o (λz=>by subst z;rw[hen]at hb;cases hb) (λz=>?_) (hkb b o hb),hl.of_keeps λb o hb hnf=>?_,⟨_,_,T,oT,ts,p.ex,⟨Obj.cls_mapFields _ _,by rw[Array.getElem?_setIfInBounds_ne (by decide)];exact h0⟩,hd3,by rw[Array.getElem?_setIfInBounds_self,if_pos (by lia)],nT,hTe,q1,q2,q3⟩,⟨_,_,p.ex,hd3,by rw[Array.getElem?_setIfInBounds_ne (by decide)];exact h2⟩,λb o hb hnf=>p.slot b o (ne b o hb hnf) hb⟩
 .rw[(hl.mem z).1]at hb;cases hb
 .obtain⟨sl,q⟩:=p.slot b o (ne b o hb hnf) hb
  exact⟨_,q,rfl⟩
theorem oW{base:Heap}{l:List Env}{e:Addr}{cls a0 fl:Value}{Q:Unit->Shared->Prop}(hkb:base.StaysIn s.heap)(hl:s.heap.FunFrames base l)(ht:s.heap.TracedAtW base e cls a0 fl)(h2:F2 s.heap e)
  (h:∀h',base.StaysIn h'->h'.FunFrames base l->h'.TracedW base e cls a0->F2 h' e->s.heap.UpToSlots h'->Q () {s with heap:=h'}):wpAny M A (setFlight (.ref e) none) Q E s:=by
 obtain⟨oe,vs,T,oT,ts,he,hcls,hd,h1,hnT,hTe,hT,hdT,h3⟩:=ht;have hsz3:3<ts.size:=(Array.getElem?_eq_some_iff.mp h3).1;have other:∀b,b≠T->(s.heap.update T (Obj.mapFields (·.setIfInBounds 3 ((none:Option Addr).elim Value.none λf=>rawInt f)))).get? b=s.heap.get? b:=λb hb=>get?_update_other _ _ (Ne.symm hb)
 have noR:∀b o,s.heap.get? b=some o->(∀ws,o.data≠.fields ws)->b≠T:=λb o hb hnf q=>by
  subst q;rw[hT]at hb;cases hb;exact hnf _ hdT
 unfold setFlight;refine wpAny_bind (wpAny_field he hd h1 ?_);rw[if_pos (show(Value.ref T != Value.none)=true from by simp)];refine wpAny_setField hT hdT hsz3 (h _ (λb o hb=>(other b λq=>by subst q;rw[hnT]at hb;cases hb).trans (hkb b o hb)) (hl.of_keeps λb o hb hnf=>⟨o,(other b (noR b o hb hnf)).trans hb,rfl⟩) ?_ ?_ λb o hb hnf=>⟨o.slots,(other b (noR b o hb hnf)).trans hb⟩)
 .exact⟨oe,vs,T,_,_,(other e (Ne.symm hTe)).trans he,hcls,hd,h1,hnT,hTe,Heap.get?_update_self _ hT (Obj.isFreed_of_fields (Obj.data_mapFields hdT _)),Obj.data_mapFields hdT _,by simp[hsz3]⟩
 .obtain⟨o2,v2,q1,q2,q3⟩:=h2
  exact⟨o2,v2,(other e (Ne.symm hTe)).trans q1,q2,q3⟩
theorem vp{base:Heap}{env:Env}{outer:List Env}{L e:Addr}{cls a0:Value}{Q:Unit->Shared->Prop}(hfr:A.frames=some (env::outer))(hf:env.frame=some L)(hfl:FlyX base (env::outer) e cls a0 s.heap)
  (hQ:∀h',Ed base (env::outer) e cls a0 L h'->s.heap.UpToSlots h'->Q () {s with heap:=h'}):wpAny M A (noteFrame (.ref e) env) Q E s:=by
 obtain⟨⟨hkb,hen,hl,oe,vs,T,oT,ts,he,⟨hcls,h0⟩,hd,h1,hnT,hTe,hT,hdT,h3⟩,h2⟩:=hfl;subst hcls;have h2:vs[2]? = some .none:=by
  obtain⟨o2,v2,q1,q2,q3⟩:=h2;rw[he]at q1;cases q1;rw[hd]at q2;cases q2;exact q3
 have other:∀b,b≠T->(s.heap.update T (Obj.mapFields (·.setIfInBounds 3 Value.none))).get? b=s.heap.get? b:=λb hb=>get?_update_other _ _ (Ne.symm hb)
 have noR:∀b o,s.heap.get? b=some o->(∀ws,o.data≠.fields ws)->b≠T:=λb o hb hnf q=>by
  subst q;rw[hT]at hb;cases hb;exact hnf _ hdT
 unfold noteFrame;simp only[hf];refine wpAny_bind (wpAny_field he hd h1 ?_);rw[if_pos (show(Value.ref T != Value.none)=true from by simp)];refine wpAny_bind (wpAny_field hT hdT h3 ?_);rw[if_neg (show ¬((Value.none==rawInt L)=true)from by simp[rawInt])];refine wpAny_bind (wpAny_setField hT hdT (Array.getElem?_eq_some_iff.mp h3).1 ?_);have hl':(s.heap.update T (Obj.mapFields (·.setIfInBounds 3 Value.none))).FunFrames base (env::outer):=hl.of_keeps λb o hb hnf=>⟨o,(other b (noR b o hb hnf)).trans hb,rfl⟩
 have he':=(other e (Ne.symm hTe)).trans he;refine oq hfr hl' hf he' hd (Array.getElem?_eq_some_iff.mp h1).1 λh' T' p=>?_
 obtain⟨k1,k2,k3,k4,k5⟩:=p.flies (λb o hb=>(other b λq=>by subst q;rw[hnT]at hb;cases hb).trans (hkb b o hb)) hl' hen he' hd h0 h2
 exact hQ h' ⟨⟨k1,hen,k2,k3⟩,k4⟩ λb o hb hnf=>k5 b o ((other b (noR b o hb hnf)).trans hb) hnf
theorem pT{base:Heap}{l:List Env}{e L:Addr}{cls a0:Value}{Q:Unit->Shared->Prop}(hh:Ed base l e cls a0 L s.heap)
  (hQ:∀h',FlyX base l e cls a0 h'->s.heap.UpToSlots h'->Q () {s with heap:=h'}):wpAny M A (setFlight (.ref e) none) Q E s:=by
 obtain⟨⟨f1,f2,f3,f4⟩,f5⟩:=hh;exact oW f1 f3 f4 f5 λh' k1 k2 k3 k4 k5=>hQ h' ⟨⟨k1,f2,k2,k3⟩,k4⟩ k5
theorem nA{base:Heap}{l:List Env}{e:Addr}{cls a0:Value}{Q:Unit->Shared->Prop}(hh:FlyX base l e cls a0 s.heap)
  (hQ:∀h',FlyX base l e cls a0 h'->s.heap.UpToSlots h'->Q () {s with heap:=h'}):wpAny M A (setFlight (.ref e) none) Q E s:=by
 obtain⟨⟨f1,f2,f3,f4⟩,f5⟩:=hh;exact oW f1 f3 f4.at f5 λh' k1 k2 k3 k4 k5=>hQ h' ⟨⟨k1,f2,k2,k3⟩,k4⟩ k5
theorem FlyX.pop{base h:Heap}{env:Env}{l:List Env}{e:Addr}{cls a0:Value}(x:FlyX base (env::l) e cls a0 h):FlyX base l e cls a0 h:=
 let ⟨⟨k1,k2,⟨_,_,k3⟩,k4⟩,k5⟩:=x; ⟨⟨k1,k2,k3,k4⟩,k5⟩
theorem rQ{base:Heap}{env:Env}{outer:List Env}{L e:Addr}{cls a0:Value}{Q:Unit->Shared->Prop}(hfr:A.frames=some (env::outer))(hf:env.frame=some L)(hfl:FlyX base (env::outer) e cls a0 s.heap)
  (hQ:∀h',FlyX base outer e cls a0 h'->s.heap.UpToSlots h'->Q () {s with heap:=h'}):wpAny M A (leaving env (.ref e)) Q E s:=by
 unfold leaving;refine wpAny_bind (vp hfr hf hfl λh1 x1 u1=>?_);exact pT (s:={s with heap:=h1}) x1 λh2 x2 u2=>hQ h2 x2.pop (u1.trans u2)
theorem ny{base h:Heap}{env:Env}{outer:List Env}{L e:Addr}{cls:Value}{args:List Value}{Q:Unit->Shared->Prop}
  (hfr:A.frames=some (env::outer)) (hf:env.frame=some L) (hkb:base.StaysIn h) (hl:h.FunFrames base (env::outer)) (hx:Heap.MadeExcOf h s.heap e cls args)
  (hQ:∀h' t,FlyX base outer e cls (.ref t) h'->s.heap.UpToSlots h'->Q () {s with heap:=h'}):wpAny M A (leaving env (.ref e)) Q E s:=by
 obtain⟨t,he,htn,ht⟩:=hx.there;have fresh:∀b,h.get? b=none->base.get? b=none:=λb hb=>by
  cases hq:base.get? b with
  |none=>rfl
  |some o'=>have:=hkb b o' hq;rw[hb]at this;cases this
 have hl2:s.heap.FunFrames base (env::outer):=hl.of_keeps λb o hb _=>⟨o,hx.keeps b o hb,rfl⟩
 unfold leaving noteFrame;simp only[hf];refine wpAny_bind (wpAny_bind (wpAny_field he rfl (x:=.none) rfl ?_));rw[if_neg (by decide)];refine oq hfr hl2 hf he rfl (by simp) λh1 T p=>?_
 obtain⟨k1,k2,k3,k4,k5⟩:=p.flies (a0:=.ref t) (λb o hb=>hx.keeps b o (hkb b o hb)) hl2 (fresh e hx.new) he rfl rfl rfl
 exact pT (s:={s with heap:=h1}) (L:=L) ⟨⟨k1,fresh e hx.new,k2,k3⟩,k4⟩ λh2 x2 u2=>hQ h2 t x2.pop (k5.trans u2)
end
def xR(n:Str):D:=.dict [(.str "exc",.str n)]
def DX(n:Str):D:=.dict [(.str "fn",.str n)]
abbrev Xf:=Dv->Option (Str×Dv)
@[simp] def KP:Xf:=λ_=>none
@[simp] def sW(n:Str)(f:Dv->Option D):Xf:=λδ=>(f δ).bind λ_=>some (n,δ)
@[simp] def xE(f:Dv->Option Str):Xf:=λδ=>(f δ).bind λn=>some (n,δ)
@[simp] def Jw(t:Dv->Option Bool)(u w:Xf):Xf:=λδ=>(t δ).bind λc=>if c=true then u δ else w δ
@[simp] def Jv(s:Sf)(u:Xf):Xf:=λδ=>(s δ).bind λr=>match r with
 | (.nx,δ')=>u δ'
 |_=>none
@[simp] def KQ(u1:Xf)(s:Sf)(u:Xf):Xf:=λδ=>match u1 δ with
 |some r=>some r
 |none=>Jv s u δ
def yX(N:List Str)(m:Nat)(fx:Xf):List D->Option Str:=λas=>if as.length=m then(fx (aJ N as)).bind λr=>some r.1 else none
@[simp] def J2(fs:Dv->Option (List D))(g:List D->Option Str):Dv->Option Str:=λδ=>(fs δ).bind g
def yT(i:Nat)(ns:List Str)(b:Sf)(bx:Xf)(bs:Sf):Sf:=λδ=>match bx δ with
 |some (n,δ')=>if ns.contains n=true then(bs (δ'.set i (.fz (xR n)))).bind λr=>some (r.1,r.2.set i .un)else none
 |none=>b δ
def CO(t:List (Str×Bool))(n:Str):Option D:=(t.lookup n).map .bool
def gd(t:List (Str×Bool)):D->Option D
 |.dict [(.str k,.str n)]=>if k = "exc" then CO t n else none
 |_=>none
theorem CP(t:List (Str×Bool))(n:Str):gd t (xR n)=CO t n:=by simp[gd,xR]
theorem kx{P:Program}{w:World}{H:Hp}{h:Heap}{a:Addr}{o:HO}(x:ObjOk P w H h a o):∃ob,h.get? a=some ob:=by
 cases o with
 |lst xs=>obtain⟨_,_,_,_,e⟩:=x;exact⟨_,e⟩
 |tup xs=>obtain⟨_,_,_,⟨ob,e,_⟩,_⟩:=x;exact⟨_,e⟩
 |dK kvs=>obtain⟨_,_,_,_,o,_,_,e,_⟩:=x;exact⟨_,e⟩
 |dT kvs=>obtain⟨_,_,_,_,o,_,_,e,_⟩:=x;exact⟨_,e⟩
 |set S n=>obtain⟨o,_,_,_,e,_⟩:=x;exact⟨_,e⟩
 |ins C dx fs=>obtain⟨_,_,_,e,_⟩:=x;exact⟨_,e⟩
 |own y=>exact x
 |xd fs=>obtain⟨_,⟨_,_,_,e,_⟩,_⟩:=x;exact⟨_,e⟩
 |rng lo hi=>obtain⟨_,_,_,e⟩:=x;exact⟨_,e⟩
 |frz ob u=>exact⟨_,x.1⟩
 |tbl ps=>obtain⟨_,e,_⟩:=x;exact⟨_,e⟩
 |cod c=>exact x.1
 |met f y=>exact⟨_,x⟩
 |ext φ=>exact x.2.1
theorem AM{P:Program}{w:World}{H:Hp}{h:Heap}{x C:Addr}{o:Obj}(e:h.get? x=some o)(c:o.cls=.ref C)(f:F2 h x):ObjOk P w H h x (mG x C):=
 ⟨⟨o,e,c,by obtain⟨o',vs,q1,q2⟩:=f;rw[e]at q1;cases q1;exact⟨vs,q2⟩⟩,⟨o,e⟩,λh1 h2 ⟨o',e',c'⟩ k=>⟨o',k o' e',c'⟩⟩
theorem FlyX.there{base h:Heap}{l:List Env}{e:Addr}{cls a0:Value}(x:FlyX base l e cls a0 h):∃ob,h.get? e=some ob/\ob.cls=cls:=x.1.there
structure Thrown (P:Program) (w:World) (outer:List Env) (H:Hp) (s:Shared) (x C:Addr) (H':Hp) (s':Shared):Prop where
 os:s'.os=s.os
 bare:AllBare s'.gens
 un:Un (g9 outer) [] H H' s.heap s'.heap
 hok:HOk P w H' s'.heap
 sm:Same H H'
 is:H' x=some (mG x C)
 fly:∃B t,FlyX B outer x (.ref C) t s'.heap/\(∀b o,H' b=some o->b≠x->∃ob,B.get? b=some ob)/\(∀b o,s.heap.get? b=some o->H b=none->b∉g9 outer->B.get? b=some o)
def sS(P:Program)(w:World):uN:=λouter H s E e s'=>∃x C H',e=.ref x/\Thrown P w outer H s x C H' s'/\E (.ref C) (some x) H'
theorem vL{P:Program}{w:World}{H2:Hp}{B h2 h':Heap}{l l':List Env}{x C:Addr}{t t':Value}(ok:HOk P w H2 h2)(is:H2 x=some (mG x C))(k2:B.StaysIn h2)(fl':FlyX B l' x (.ref C) t' h')
  (hB:∀b o,H2 b=some o->b≠x->∃ob,B.get? b=some ob):HOk P w H2 h':=λb o e=>by
 by_cases hb:b=x
 .subst hb
  rw[is]at e;cases e;obtain⟨ob,h1,h2⟩:=fl'.there;exact AM h1 h2 fl'.2
 .refine(ok b o e).stay (λc u hc q=>?_) (λ_ q=>q) (λ_ _ q=>q) λ_ _ _ q=>q
  have:∃ob,B.get? c=some ob:=by
   rcases hc with rfl|hc
   .exact hB c o e hb
   .refine hB c _ hc λz=>?_
    subst z;rw[is]at hc;cases hc
  obtain⟨ob,hob⟩:=this;have:=k2 c ob hob;rw[q]at this;cases this;exact fl'.1.1 c _ hob
section
variable{P:Program}{w:World}{K:PySem.W.Frag}{mg:Str->Option Value}{base:Heap}{N:List Str}{qual:Str}{scope:Scope}{f:Addr}{cd:Value}{A:Around}{outer:List Env}{s:Shared}{H:Hp}{E:XK}{pins:List (Addr×Obj)}{σ:St}{H1 H2:Hp}{s1 s2:Shared}{x C:Addr}
theorem Aa(I:Inv (dS (sS P w) P w K mg base N qual scope f cd A outer s H E) pins σ H1 s1)(T:Thrown P w (dS (sS P w) P w K mg base N qual scope f cd A outer s H E).stack H1 s1 x C H2 s2)(hE:E (.ref C) (some x) H2)(h0:Same H H2):
  (dS (sS P w) P w K mg base N qual scope f cd A outer s H E).xe (.ref x) s2:=by
 obtain⟨B,t,fl,hB1,hB2⟩:=T.fly;have hfr:=I.ok.frames;have loc:∀b o,s.heap.get? b=some o->b∉g9 outer->b∉g9 (dS (sS P w) P w K mg base N qual scope f cd A outer s H E).stack:=λb o q hb z=>by
  rcases List.mem_cons.mp (I.stkSub b z)with e|e
  .exact absurd (lt_size q) (by rw[e];exact Nat.not_lt.mpr I.ok.above)
  .exact hb e
 have keep:∀b o,s.heap.get? b=some o->H b=none->b∉g9 outer->B.get? b=some o:=λb o q n hb=>
  hB2 b o (I.base.keep b o q n hb (λz=>nomatch z)) (I.base.free b o q n (λz=>nomatch z)) (loc b o q hb)
 refine rQ hfr rfl fl λh' fl' sm=>?_
 have slot:∀b o,s.heap.get? b=some o->H b=none->b∈g9 outer->∃sl,h'.get? b=some {o with slots:=sl}:=λb o q n hb=>by
  obtain⟨sl,e1⟩:=I.base.slot b o q n hb (λz=>nomatch z);have hb':b∈g9 (dS (sS P w) P w K mg base N qual scope f cd A outer s H E).stack:=by
   show b∈List.filterMap _ (_::outer);exact List.mem_filterMap.mpr (by obtain⟨env,he,hf⟩:=List.mem_filterMap.mp hb;exact⟨env,List.mem_cons_of_mem _ he,hf⟩)
  obtain⟨sl2,e2⟩:=T.un.slot b _ e1 (I.base.free b o q n (λz=>nomatch z)) hb' (λz=>nomatch z);obtain⟨_,o',ho',hd⟩:=I.ok.funs.mem hb;have ho2:s.heap.get? b=some o':=ho';rw[q]at ho2;cases ho2;obtain⟨sl3,e3⟩:=sm b _ e2 hd;exact⟨sl3,e3⟩
 refine⟨x,C,H2,rfl,⟨T.os.trans I.os,T.bare,⟨λb o q n hb _=>fl'.1.1 b o (keep b o q n hb),λb o q n hb _=>slot b o q n hb,λb o q n _=>?_,λb o q _=>?_,λb xs e=>T.un.tups b xs (I.base.tups b xs e),λb o u e=>T.un.frzs b o u (I.base.frzs b o u e),λb ps e=>?_⟩,vL (l:=[]) (t:=t) T.hok T.is fl.1.1 fl' hB1,h0,T.is,⟨B,t,fl',hB1,keep⟩⟩,hE⟩
 .obtain⟨o1,e1⟩:=I.base.there b o q (λz=>nomatch z)
  exact T.un.free b o1 e1 (I.base.free b o q n (λz=>nomatch z)) (λz=>nomatch z)
 .cases q2:H2 b with
  |some ho=>
   by_cases hb:b=x
   .subst hb;obtain⟨ob,e1,_⟩:=fl'.there;exact⟨ob,e1⟩
   .obtain⟨ob,e1⟩:=hB1 b ho q2 hb;exact⟨ob,fl'.1.1 b ob e1⟩
  |none=>
   have n:H b=none:=by
    cases e:H b with
    |none=>rfl
    |some z=>rw[h0 b z e]at q2;cases q2
   by_cases hb:b∈g9 outer
   .obtain⟨sl,e⟩:=slot b o q n hb;exact⟨_,e⟩
   .exact⟨o,fl'.1.1 b o (keep b o q n hb)⟩
 .obtain⟨m1,e1⟩:=I.base.tbls b ps e
  obtain⟨m2,e2⟩:=T.un.tbls b _ e1;exact⟨m1++m2,by rw[e2,Array.append_assoc]⟩
theorem ud{vs:List Value}(I:Inv (dS (sS P w) P w K mg base N qual scope f cd A outer s H E) pins σ H1 s1)(hs:s2={s1 with heap:=s2.heap})(hx:Heap.MadeExcOf s1.heap s2.heap x (.ref C) vs)(h0:Same H H1)(hE:H1 x=none->E (.ref C) (some x) (upd H1 x (mG x C))):
  (dS (sS P w) P w K mg base N qual scope f cd A outer s H E).xe (.ref x) s2:=by
 have hfr:=I.ok.frames;have n1:H1 x=none:=by
  cases e:H1 x with
  |none=>rfl
  |some o=>obtain⟨ob,h⟩:=kx (I.hok x o e);rw[hx.new]at h;cases h
 have loc:∀b o,s.heap.get? b=some o->b∉g9 outer->b∉g9 (dS (sS P w) P w K mg base N qual scope f cd A outer s H E).stack:=λb o q hb z=>by
  rcases List.mem_cons.mp (I.stkSub b z)with e|e
  .exact absurd (lt_size q) (by rw[e];exact Nat.not_lt.mpr I.ok.above)
  .exact hb e
 have hin:∀env∈(dS (sS P w) P w K mg base N qual scope f cd A outer s H E).stack,∀b,env.frame=some b->b∈g9 (dS (sS P w) P w K mg base N qual scope f cd A outer s H E).stack:=λenv he b hb=>List.mem_filterMap.mpr ⟨env,he,hb⟩
 have keep:∀b o,s.heap.get? b=some o->H b=none->b∉g9 outer->(hideAll s1.heap (g9 (dS (sS P w) P w K mg base N qual scope f cd A outer s H E).stack)).get? b=some o:=λb o q n hb=>
  PySem.W.hideAll_get _ (I.base.keep b o q n hb (λz=>nomatch z)) (loc b o q hb)
 have trk:∀b o,H1 b=some o->∃ob,(hideAll s1.heap (g9 (dS (sS P w) P w K mg base N qual scope f cd A outer s H E).stack)).get? b=some ob:=λb o e=>by
  obtain⟨ob,h⟩:=kx (I.hok b o e);refine⟨ob,PySem.W.hideAll_get _ h λz=>?_⟩
  rw[I.stkFree b z]at e;cases e
 refine ny hfr rfl (λb o q=>of_hideAll _ q) (PySem.W.funFrames_hide I.stack hin) hx λh' t fl sm=>?_
 have slot:∀b o,s.heap.get? b=some o->H b=none->b∈g9 outer->∃sl,h'.get? b=some {o with slots:=sl}:=λb o q n hb=>by
  obtain⟨sl,e1⟩:=I.base.slot b o q n hb (λz=>nomatch z);obtain⟨_,o',ho',hd⟩:=I.ok.funs.mem hb;have ho2:s.heap.get? b=some o':=ho';rw[q]at ho2;cases ho2;obtain⟨sl3,e3⟩:=sm b _ (hx.keeps b _ e1) hd;exact⟨sl3,e3⟩
 have ne:∀b o,s1.heap.get? b=some o->b≠x:=λb o q z=>by subst z;rw[hx.new]at q;cases q
 have os2:s2.os=s1.os:=by rw[hs]
 have g2:s2.gens=s1.gens:=by rw[hs]
 have hok2:HOk P w (upd H1 x (mG x C)) h':=λb o e=>by
  by_cases hb:b=x
  .subst hb;rw[av]at e;cases e;obtain⟨ob,q1,q2⟩:=fl.there;exact AM q1 q2 fl.2
  .rw[aq hb]at e
   refine(I.hok b o e).stay (λc u hc q=>?_) (λc q=>?_) (λc xs q=>?_) λc o xs q=>?_
   .have:∃ho,H1 c=some ho:=by rcases hc with rfl|hc;exact⟨_,e⟩;exact⟨_,hc⟩
    obtain⟨ho,hc⟩:=this;obtain⟨ob,hob⟩:=trk c ho hc;have:=of_hideAll _ hob;rw[q]at this;cases this;exact fl.1.1 c _ hob
   .rw[aq (az q n1)];exact q
   .rw[aq (az q n1)];exact q
   .rw[aq (az q n1)];exact q
 refine⟨x,C,upd H1 x (mG x C),rfl,⟨os2.trans I.os,by rw[show({s2 with heap:=h'}:Shared).gens=s1.gens from g2];exact I.bare,⟨λb o q n hb _=>fl.1.1 b o (keep b o q n hb),λb o q n hb _=>slot b o q n hb,λb o q n _=>?_,λb o q _=>?_,λb xs e=>?_,λb o u e=>?_,λb ps e=>?_⟩,hok2,h0.trans (cy n1),av,⟨_,_,fl,λb o e hb=>?_,keep⟩⟩,hE n1⟩
 .obtain⟨o1,e1⟩:=I.base.there b o q (λz=>nomatch z)
  rw[aq (ne b o1 e1)];exact I.base.free b o q n (λz=>nomatch z)
 .obtain⟨o1,e1⟩:=I.base.there b o q (λz=>nomatch z)
  cases q2:H1 b with
  |some ho=>obtain⟨ob,e⟩:=trk b ho q2;exact⟨ob,fl.1.1 b ob e⟩
  |none=>
   have n:H b=none:=by
    cases e:H b with
    |none=>rfl
    |some z=>rw[h0 b z e]at q2;cases q2
   by_cases hb:b∈g9 outer
   .obtain⟨sl,e⟩:=slot b o q n hb;exact⟨_,e⟩
   .exact⟨o,fl.1.1 b o (keep b o q n hb)⟩
 .have:=I.base.tups b xs e
  rw[aq (az this n1)];exact this
 .have:=I.base.frzs b o u e
  rw[aq (az this n1)];exact this
 .obtain⟨m1,e1⟩:=I.base.tbls b ps e
  exact⟨m1,by rw[aq (az e1 n1)];exact e1⟩
 .rw[aq hb]at e
  exact trk b o e
end
abbrev Bz:List Value:=[.type "ValueError",.type "Exception",.type "BaseException",.type "object"]
structure ExcC (K:Fg) (n:Str) (C:Addr):Prop where
 nm:PySem.W.nsIn K mainGlobals n=some (some (.ref C))
 ex:excIn K C Bz "ValueError.__new__" = true
 ga:findIn K (.ref C) "__getattribute__" = some (some (.builtin "BaseException.__getattribute__"))
 gt:findIn K (.ref C) "__getattr__" = some none
 cl:findIn K (.ref C) "__class__" = some (some (.builtin "object.__class__"))
 mo:mroIn K C (.type "object")=some true
 be:mroIn K C (.type "BaseException")=some true
theorem lj{K:Fg}{h:Heap}{C:Addr}{mB:List Value}{newId:String}(kin:K.In h)(q:excIn K C mB newId=true):
  ∃mr ns nm qn bs hd sn sub ab col dd a0 a1 a2 a3 a5 mN,h.get? C=some (excClassObj nm qn C ns bs mr hd sn sub ab col dd a0 a1 a2 a3 a5 newId)/\h.Ns ns mN/\mN "__init__" = none/\OwnTail h mB mr:=by
 unfold excIn at q;split at q
 .rename_i dct cda slo lk
  split at q
  .rename_i C2 mr a0 a1 a2 a3 nw a5 em es
   simp only[Bool.and_eq_true,beq_iff_eq,Bool.not_eq_true']at q;obtain⟨⟨⟨⟨⟨rfl,rfl⟩,nodel⟩,tl⟩,okn⟩,noini⟩:=q;obtain⟨nm,bs,mro,ns,qn,hd,sn,sub,ab,col,del⟩:=cda;dsimp only at em nodel okn noini;subst em nodel;have esl:slo = #[a0,a1,a2,a3,some (.builtin nw),a5]:=by
    obtain⟨ll⟩:=slo;simp only at es;rw[es]
   subst esl;exact⟨mr,ns,nm,qn,bs,hd,sn,sub,ab,col,dct,a0,a1,a2,a3,a5,_,kin _ _ lk,Heap.Ns.of_isNs (PySem.W.isNs_of_in kin okn),PySem.W.nsMap_none_of_in kin okn noini,PySem.W.tail_of_in kin tl⟩
  .cases q
 .cases q
section
variable{K:Fg}{n:Str}{C x:Addr}
theorem fE{M:Model}{h:Heap}{o:Obj}(e:h.get? x=some o)(c:o.cls=.ref C):PySem.W.Looks M h (typeOf (.ref x)) (.ref C):=c ▸ (PySem.W.Looks.ld e).andThen .now
variable{prog:Program}{w:World}{A:Around}{E:Value->Shared->Prop}
open Builtin Builtin.ObjectAttr Builtin.Getset_descriptor in
theorem CZ{R:Result->Shared->Prop}{tp:Value}{o:Obj}{s:Shared}(F:ExcC K n C)(kin:K.In s.heap)(e:s.heap.get? x=some o)(c:o.cls=.ref C)(h:R (.ok (.ret (.ref C))) s):
  codeAny (model prog w) A (.call (.builtin "getset_descriptor.__get__") ⟨[.builtin "object.__class__",.ref x,tp],[]⟩) R s:=by
 obtain⟨hh,g,dr,t,os⟩:=s;have L0:=fE (M:=model prog w) e c;have L1:=PySem.W.looks_mroIn (M:=model prog w) kin F.mo;refine codeAny_call_builtin PySem.W.KF.slot_gs.plain PySem.W.KF.entry_gs (PySem.W.KF.slot_gs.check _ _ _ _ _ _ _ _ PySem.W.KF.type_class (PySem.W.KF.args_gs _ _ _) ?_);unfold Builtin.«getset_descriptor.__get__» descrGet;rw[PySem.W.dga_obj];refine wpAny_bind (wpAny_pure ?_);unfold descrGetter descrCheckInstance descrNameAndClass isInstance;simp only[PySem.W.KF.owner_class]
 repeat lk
 refine⟨Code.quiet_builtin _ (by decide+kernel),codeAny_builtin PySem.W.KF.entry_class ?_⟩;unfold Builtin.«object.__class__» shownTypeOf
 repeat lk
 exact h
theorem xQ{M:Model}{o:Obj}{s:Shared}{nameV:Value}{Q:Unit->Shared->Prop}(F:ExcC K n C)(kin:K.In s.heap)(e:s.heap.get? x=some o)(c:o.cls=.ref C)(h:Q () s):
  wpAny M A (checkBuiltinCall "BaseException.__getattribute__" ⟨[.ref x,nameV],[]⟩) Q E s:=by
 obtain⟨hh,g,dr,t,os⟩:=s;have L0:=fE (M:=M) e c;have L1:=PySem.W.looks_mroIn (M:=M) kin F.be;have kd:builtinKind "BaseException.__getattribute__" = some .slot:=by decide+kernel
 have sp:splitId "BaseException.__getattribute__" = some ("BaseException","__getattribute__"):=by decide+kernel
 have ao:=PySem.F.args_bexc_ga (.ref x) nameV;simp only[checkBuiltinCall,kd,sp];refine wpAny_bind ?_;unfold isInstance;refine wpAny_bind (L0.at (L1.at ?_))
 repeat wp_step
 exact h
theorem xO{tk:Tok}{o:Obj}{s:Shared}{Q:Fin->Shared->Prop}(F:ExcC K n C)(kin:K.In s.heap)(e:s.heap.get? x=some o)(c:o.cls=.ref C)(h:Q (.done (.ret (.ref C))) s):
  wpAny (model prog w) A (Builtin.«object.__getattribute__» ⟨[.ref x,.str "__class__" tk],[]⟩) Q E s:=by
 obtain⟨hh,g,dr,t,os⟩:=s;have L0:=fE (M:=model prog w) e c;have L1:=looks_findIn (M:=model prog w) kin F.cl;have t5:(⟨hh,g,dr,t,os⟩:Shared).TypeIs (.builtin "object.__class__") "getset_descriptor":=PySem.F.typeOf_object_class;have f5:=PySem.F.typeOf_object_class;have f6:=PySem.F.slot_gs_get.lookup;have f7:=PySem.F.slot_gs_set.lookup
 repeat (any_goals (first|assumption|with_reducible refine L0.at ?_|with_reducible refine L1.at ?_|wp_step))
 refine CZ F kin e c ?_
 repeat (any_goals (first|assumption|wp_step))
end
section
variable{K:Fg}{n:Str}{C x:Addr}{prog:Program}{w:World}{A:Around}{E:Value->Shared->Prop}
theorem xP{o:Obj}{s:Shared}{Q:Option Value->Shared->Prop}(F:ExcC K n C)(kin:K.In s.heap)(e:s.heap.get? x=some o)(c:o.cls=.ref C)(h:Q (some (.ref C)) {s with toks:=s.toks+1}):
  wpAny (model prog w) A (getAttr? (.ref x) "__class__") Q E s:=by
 obtain⟨hh,g,dr,t,os⟩:=s;have L0:=fE (M:=model prog w) e c;have L1:=looks_findIn (M:=model prog w) kin F.ga;have L2:=looks_findIn (M:=model prog w) kin F.gt;have b3:=PySem.F.attr_ValueError.ga.bind (.ref x);have n2:(Value.builtin "BaseException.__getattribute__" == Value.builtin "object.__getattribute__")=false:=by decide+kernel
 have n1:(onTheHeap (Value.ref C)&&Value.builtin "BaseException.__getattribute__" == Value.builtin "object.__getattribute__")=false:=by rw[n2];rfl
 have go:∀{tk:Tok} {R:Result->Shared->Prop} {A':Around},R (.ok (.ret (.ref C))) ⟨hh,g,dr,t+1,os⟩->codeAny (model prog w) A' (.call (.builtin "BaseException.__getattribute__") ⟨[.ref x,.str "__class__" tk],[]⟩) R ⟨hh,g,dr,t+1,os⟩:=λ{tk R A'} q=>
  codeAny_call_builtin PySem.F.attr_ValueError.ga.plain PySem.F.entry_bexc_ga (xQ (s:=⟨hh,g,dr,t+1,os⟩) F kin e c (xO (s:=⟨hh,g,dr,t+1,os⟩) F kin e c q))
 unfold getAttr? getAttrBy? getAttrBy
 repeat (any_goals (first|assumption|with_reducible refine L0.at ?_|with_reducible refine L1.at ?_|with_reducible refine L2.at ?_|wp_step))
 refine go ?_
 repeat (any_goals (first|assumption|wp_step))
theorem pS{M:Model}{h:Heap}(F:ExcC K n C)(kin:K.In h):PySem.W.Looks M h (isType (.ref C)) true:=by
 obtain⟨_,_,_,_,_,_,_,_,_,_,_,_,_,_,_,_,_,hC,_⟩:=lj kin F.ex;intro A' Q' E' s' k q;unfold isType loadHead;exact wpAny_bind (wpAny_loadPart (k _ _ hC) (wpAny_pure q))
theorem Ai(F:ExcC K n C):PySem.W.KitX K (.ref x) (.ref C) (λh=>∃o,h.get? x=some o/\o.cls=.ref C) where
 ty:=λM h _ ⟨o,e,c⟩=>fE e c
 it:=λM h kin _=>pS F kin
 ne:=λh tp dd its m sl kin htp=>by
  obtain⟨_,_,_,_,_,_,_,_,_,_,_,_,_,_,_,_,_,hC,_⟩:=lj kin F.ex;refine Bool.eq_false_iff.mpr λq=>?_
  have z:C=tp:=Value.ref.inj (beq_iff_eq.mp q);subst z;rw[htp]at hC;have z2:=congrArg (λz:Option Obj=>z.map (·.cls)) hC
  simp[excClassObj]at z2
 ca:=λ{_ _ _ _ _ s} kin ⟨o,e,c⟩ k=>xP F kin e c k
end
inductive IsX (K:Fg) (D:Str):List (Str×Bool)->Prop
 |nil:IsX K D []
 |cons {n:Str} {b:Bool} {t:List (Str×Bool)} {C dC:Addr}:ExcC K n C->PySem.W.nsIn K mainGlobals D=some (some (.ref dC))->kitOne K (.ref C) (.ref dC)=some b->IsX K D t->IsX K D ((n,b)::t)
inductive IsT (K:Fg) (D:String):List (Str×Bool)->Prop
 |nil:IsT K D []
 |cons {n:Str} {b:Bool} {t:List (Str×Bool)} {C:Addr}:ExcC K n C->kitOne K (.ref C) (.type D)=some b->IsT K D t->IsT K D ((n,b)::t)
theorem fD{n m:Str}{b c:Bool}{t:List (Str×Bool)}(h:List.lookup m ((n,b)::t)=some c):(m=n/\c=b)\/List.lookup m t=some c:=by
 rw[lookup_cons]at h;split at h
 .rename_i q;cases h;exact .inl ⟨by simpa using q,rfl⟩
 .exact .inr h
theorem IsX.get{K:Fg}{D:Str}{t:List (Str×Bool)}(h:IsX K D t){n:Str}{b:Bool}(e:t.lookup n=some b):∃C dC,ExcC K n C/\PySem.W.nsIn K mainGlobals D=some (some (.ref dC))/\kitOne K (.ref C) (.ref dC)=some b:=by
 induction h with
 |nil=>cases e
 |cons h1 h2 h3 _ ih=>
  rcases fD e with⟨rfl,rfl⟩|e
  .exact⟨_,_,h1,h2,h3⟩
  .exact ih e
theorem IsT.get{K:Fg}{D:String}{t:List (Str×Bool)}(h:IsT K D t){n:Str}{b:Bool}(e:t.lookup n=some b):∃C,ExcC K n C/\kitOne K (.ref C) (.type D)=some b:=by
 induction h with
 |nil=>cases e
 |cons h1 h3 _ ih=>
  rcases fD e with⟨rfl,rfl⟩|e
  .exact⟨_,h1,h3⟩
  .exact ih e
theorem oJ{t:List (Str×Bool)}{d r:D}(h:gd t d=some r):∃n b,d=.dict [(.str "exc",.str n)]/\t.lookup n=some b/\r=.bool b:=by
 unfold gd at h;split at h
 .rename_i k n
  split at h
  .rename_i hk
   subst hk;unfold CO at h;cases e:List.lookup n t with
   |none=>rw[e]at h;cases h
   |some b=>rw[e]at h;cases h;exact⟨n,b,rfl,e,rfl⟩
  .cases h
 .cases h
section
variable{X:Cx}{a:Expr}{f:Dv->Option D}{p pos:Pos}
theorem r6{pins:List (Addr×Obj)}{σ:St}{H Z:Hp}{s:Shared}{x:Addr}{n:Str}{C:Addr}{c:Value}{b:Bool}{A:Around}{E:Value->Shared->Prop}{Q:Value->Shared->Prop}(I:Inv X pins σ H s)(zh:Same Z H)(r:Rep X.K Z (.ref x) (.dict [(.str "exc",.str n)]))(F:ExcC X.K n C)(ko:kitOne X.K (.ref C) c=some b)
  (h:∀tk,Q (.bool b) {s with toks:=tk}):wpAny (model X.prog X.w) A (call (.builtin "isinstance") [.ref x,c]) Q E s:=by
 cases r with
 |opq q=>
  cases q with
  | @exc _ C' h1 h2=>
   have:C'=C:=by have:=h1.symm.trans F.nm;simpa using this
   subst this;have q:ObjOk X.prog X.w H s.heap x (mG x C'):=by
    rcases h2 with h2|⟨ob,h2⟩
    .exact I.hok x _ (zh _ _ h2)
    .exact(I.hok x _ (zh _ _ h2)).2
   obtain⟨o,q1,q2,_⟩:=q.1;exact kia_one (Ai F) I.kIn ⟨o,q1,q2⟩ ko (λz=>nomatch z) h
  |dct h1 _=>exact absurd h1 λz=>qc z
theorem mI{x:Str}{t:List (Str×Bool)}{p2:Pos}(T:IsX X.K x t)(hg:Gl X "isinstance")(hm:X.mg "isinstance" = none)(hgT:Gl X x)(ha:EV X a f)(hdT:(x==("__debug__":Str))=false:=by decide)
  (he:starEach (a::[.Name x p2]) X.env=(false,eval a X.env)::starEach [.Name x p2] X.env:=by rfl) (he2:starEach ((.Name x p2)::[]) X.env=(false,eval (.Name x p2) X.env)::starEach [] X.env:=by rfl) (hpl:(backTo pos (starEach [.Name x p2] X.env)).any (·.1)=false:=by rfl):
  EV X (.Call (.Name "isinstance" p) [a,.Name x p2] [] pos) (o1 f (gd t)):=by
 intro pins s σ H Q I h;obtain⟨H₀,Z₀,Z,δ,d,hh,e,k⟩:=h;obtain⟨y,e1,e⟩:=bind_some e;obtain⟨n,b,rfl,e2,rfl⟩:=oJ e;obtain⟨C,dC,F,hD,ko⟩:=T.get e2;have hmT:=mg_of I.ok.mod.kin I.ok.mod.glob hD;have cr:CallR X (.builtin "isinstance") (λxs H Q=>∃z Z,xs=[z,.ref dC]/\Same Z H/\Rep X.K Z z (.dict [(.str "exc",.str n)])/\Q (.bl b) H):=by
  intro pins s σ H xs us Q I rv h;obtain⟨z,Z,rfl,zh,r,q⟩:=h;obtain⟨u,w',rfl,r1,r2⟩:=uR rv;cases(show w'=Value.ref dC from r2);cases r with
  | @opq a' _ q'=>
   cases(show u=Value.ref a' from r1);exact r6 I zh (.opq q') F ko λtk=>⟨.bl b,H,I.tok _,rfl,q⟩
 exact fB cr hg hm PyProof.Rows.boot_isinstance (bq ha (bq (Ck (v:=.ref dC) hgT hmT rfl hdT) dl he2) he) (by decide) (by decide) he hpl pins s σ H Q I
  ⟨H₀,Z₀,Z,δ,_,hh,e1,λv Z1 H1 hh1 s1 r1=>⟨v,Z1,rfl,hh1.zh,r1,k _ Z1 H1 hh1 s1 (.bl b)⟩⟩
theorem C1{x:Str}{D:String}{t:List (Str×Bool)}{p2:Pos}(T:IsT X.K D t)(hg:Gl X "isinstance")(hm:X.mg "isinstance" = none)(hgT:Gl X x)(hmT:X.mg x=none)(ha:EV X a f)(hvT:bootBuiltins x=some (.type D):=by decide+kernel)(hnT:x≠"__name__":=by decide)(hdT:(x==("__debug__":Str))=false:=by decide)
  (he:starEach (a::[.Name x p2]) X.env=(false,eval a X.env)::starEach [.Name x p2] X.env:=by rfl) (he2:starEach ((.Name x p2)::[]) X.env=(false,eval (.Name x p2) X.env)::starEach [] X.env:=by rfl) (hpl:(backTo pos (starEach [.Name x p2] X.env)).any (·.1)=false:=by rfl):
  EV X (.Call (.Name "isinstance" p) [a,.Name x p2] [] pos) (o1 f (gd t)):=by
 intro pins s σ H Q I h;obtain⟨H₀,Z₀,Z,δ,d,hh,e,k⟩:=h;obtain⟨y,e1,e⟩:=bind_some e;obtain⟨n,b,rfl,e2,rfl⟩:=oJ e;obtain⟨C,F,ko⟩:=T.get e2;have cr:CallR X (.builtin "isinstance") (λxs H Q=>∃z Z,xs=[z,.ty D]/\Same Z H/\Rep X.K Z z (.dict [(.str "exc",.str n)])/\Q (.bl b) H):=by
  intro pins s σ H xs us Q I rv h;obtain⟨z,Z,rfl,zh,r,q⟩:=h;obtain⟨u,w',rfl,r1,r2⟩:=uR rv;cases(show w'=Value.type D from r2);cases r with
  | @opq a' _ q'=>
   cases(show u=Value.ref a' from r1);exact r6 I zh (.opq q') F ko λtk=>⟨.bl b,H,I.tok _,rfl,q⟩
 exact fB cr hg hm PyProof.Rows.boot_isinstance (bq ha (bq (vg (v:=.ty D) hgT hmT hvT rfl hnT hdT) dl he2) he) (by decide) (by decide) he hpl pins s σ H Q I
  ⟨H₀,Z₀,Z,δ,_,hh,e1,λv Z1 H1 hh1 s1 r1=>⟨v,Z1,rfl,hh1.zh,r1,k _ Z1 H1 hh1 s1 (.bl b)⟩⟩
end
theorem jo{H H':Hp}{b:Addr}(s:Same H H')(h:H' b=none):H b=none:=by
 cases e:H b with
 |none=>rfl
 |some o=>rw[s b o e]at h;cases h
inductive Flung (m:Bool) (X:Cx) (n:Str) (Z H:Hp) (s:Shared) (e:Value) (s':Shared):Prop
 |made {x C:Addr} {vs:List Value}:m=true->PySem.W.nsIn X.K mainGlobals n=some (some (.ref C))->e=.ref x->s'={s with heap:=s'.heap}->Heap.MadeExcOf s.heap s'.heap x (.ref C) vs->Flung m X n Z H s e s'
 |thrown {x C:Addr} {H' Z':Hp}:PySem.W.nsIn X.K mainGlobals n=some (some (.ref C))->e=.ref x->Thrown X.prog X.w X.stack H s x C H' s'->New Z H Z' H'->Z' x=some (mG x C)->H x=none->Flung m X n Z H s e s'
def K0(m:Bool)(X:Cx)(f:Xf):TS:=λ_ σ H=>∃H₀ Z₀ Z δ r,Hold X.K H₀ Z₀ Z δ σ H/\f δ = some r/\∀pins σ' H' Z' s e s',Hold X.K H₀ Z₀ Z' r.2 σ' H'->Same Z Z'->Inv X pins σ' H' s->Flung m X r.1 Z' H' s e s'->X.xe e s'
def Lq(m:Bool)(X:Cx)(f:Dv->Option Str):TE:=λσ H _=>∃H₀ Z₀ Z δ n,Hold X.K H₀ Z₀ Z δ σ H/\f δ = some n/\∀pins σ' H' Z' s e s',Hold X.K H₀ Z₀ Z' δ σ' H'->Same Z Z'->Inv X pins σ' H' s->Flung m X n Z' H' s e s'->X.xe e s'
def SX(m:Bool)(X:Cx)(st:Stmt)(f:Xf):Prop:=PS X st (K0 m X f)
def BX(m:Bool)(X:Cx)(st:List Stmt)(f:Xf):Prop:=PSs X st (K0 m X f)
def EX(m:Bool)(X:Cx)(e:Expr)(f:Dv->Option Str):Prop:=PE X e (Lq m X f)
section
variable{m:Bool}{X:Cx}{e c:Expr}{es:List Expr}{f:Dv->Option D}{fs:Dv->Option (List D)}{ft:Dv->Option Bool}{fx:Dv->Option Str}{st:Stmt}{sts body orelse:List Stmt}{s1:Sf}{u u1 u2:Xf}{pos p:Pos}
theorem EV.lift(h:EV X.nox e f):EV X e f:=PE.nox h
theorem TV.lift(h:TV X.nox e ft):TV X e ft:=PT.nox h
theorem AV.lift(h:AV X.nox es fs):AV X es fs:=λpos pins s σ H Q I hw=>
 wpAny_mono (h pos pins s σ H Q (I.wish _) hw) (λ_ _ ⟨vs,H',I',r,q⟩=>⟨vs,H',I'.unwish,r,q⟩) λ_ _ z=>False.elim z
theorem IK:BX m X sts KP:=λ_ _ _ _ _ _ ⟨_,_,_,_,_,_,e,_⟩=>nomatch e
theorem BF(h:EX m X e fx)(hs:swapsWith e none pos.line X.env=pure false:=by rfl):SX m X (.Expr e pos) (xE fx):=
 PS.imp (la h hs) λD σ H q=>by
  obtain⟨H₀,Z₀,Z,δ,r,hh,e,k⟩:=q;obtain⟨n,e1,e⟩:=bind_some e;cases e;exact⟨H₀,Z₀,Z,δ,n,hh,e1,k⟩
theorem qm(h:SX m X st u):BX m X (st::sts) u:=
 PSs.imp (lH h (u:=λ_ _ _=>False) λ_ _ _ _ _ _ z=>z.elim) λD σ H q=>q
theorem G8(hc:TV X c ft)(ha:BX m X body u1)(hb:BX m X orelse u2):SX m X (.If c body orelse pos) (Jw ft u1 u2):=
 PS.imp (zi hc ha hb) λD σ H q=>by
  obtain⟨H₀,Z₀,Z,δ,r,hh,e,k⟩:=q;obtain⟨x,e1,e⟩:=bind_some e;refine⟨H₀,Z₀,Z,δ,x,hh,e1,λZ1 H1 hh1 t1=>?_⟩
  cases x with
  |true=>exact⟨H₀,Z₀,Z1,δ,r,hh1,e,λpins σ2 H2 Z2 s e s' hh2 t2 I fl=>k pins σ2 H2 Z2 s e s' hh2 (t1.trans t2) I fl⟩
  |false=>exact⟨H₀,Z₀,Z1,δ,r,hh1,e,λpins σ2 H2 Z2 s e s' hh2 t2 I fl=>k pins σ2 H2 Z2 s e s' hh2 (t1.trans t2) I fl⟩
structure ExcX (K:Fg) (n:Str):Prop where
 ex:∃C,ExcC K n C
theorem yt{x:Str}{np cpos:Pos}(O:ExcX X.K x)(hg:Gl X x)(hc:X.calm=true)(ha:EV X e f)(hdb:(x==("__debug__":Str))=false:=by decide)
  (he:starEach (e::[]) X.env=(false,eval e X.env)::starEach [] X.env:=by rfl) (hpl:(backTo cpos (starEach [] X.env)).any (·.1)=false:=by rfl):
  SX true X (.Raise (some (.Call (.Name x np) [e] [] cpos)) none pos) (sW x f):=by
 intro pins s σ H D I h;obtain⟨H₀,Z₀,Z,δ,r,hh,e0,k⟩:=h;obtain⟨d,e1,e0⟩:=bind_some e0;cases e0;obtain⟨C,F⟩:=O.ex;obtain⟨mr,ns,nm,qn,bs,hd,sn,sub,ab,col,dd,a0,a1,a2,a3,a5,mN,hC,hN,hni,TL⟩:=lj I.ok.mod.kin F.ex;have hm:=mg_of I.ok.mod.kin I.ok.mod.glob F.nm;refine wpAny_Raise_call_subU (C:=C) (nm:=nm) (q:=qn) (N:=ns) (bs:=bs) (bm:=mr) (hdct:=hd) (sn:=sn) (sub:=sub) (ab:=ab) (col:=col) (dd:=dd) (k0:=a0) (k1:=a1) (k2:=a2) (k3:=a3) (k5:=a5) (bmB:=Bz)
  PySem.F.excBase_ValueError (by decide+kernel) PySem.F.excBase_ValueError (mN:=mN) (TL.hasType (by decide+kernel)) (I.ok.hd hc) (by rw[he];show(false||(backTo cpos (starEach [] X.env)).any (·.1))=false;rw[hpl];rfl) hni (ju I hg hm ⟨rfl,?_⟩ hdb)
 rw[he];have one:wpAny (model X.prog X.w) X.A (spliced (backTo cpos (starEach (e::[]) X.env))) (AP X pins σ λvs H1=>vs.length=1/\∃Z1,Hold X.K H₀ Z₀ Z1 δ σ H1/\Same Z Z1) X.xe s:=
  (bq ha dl he) cpos pins s σ H _ I ⟨H₀,Z₀,Z,δ,d,hh,e1,λv Z1 H1 hh1 t1 r1=>⟨rfl,Z1,hh1,t1⟩⟩
 rw[he]at one;refine Calls.evalArgs_plain (wpAny_mono one (λus s2 z=>?_) λ_ _ y=>y)
 obtain⟨vs,H1,I1,rv,hl,Z1,hh1,t1⟩:=z;have lu:us.length=1:=by rw[<-rv.length];exact hl
 refine⟨rfl,by show us.length<=sizeLine;rw[lu];decide,I1.bk _ _ hC,hN.keeps I1.bk,TL.keeps I1.bk,λh' ex hmd=>?_⟩
 exact k pins σ H1 Z1 s2 _ _ hh1 t1 I1 (.made rfl F.nm rfl rfl hmd)
def Hb(K:Fg)(g:List D->Option Str):Sp:=λvs H _ E=>∃Z as n,Same Z H/\Reps K Z vs as/\g as=some n/\∀C x Z' H',PySem.W.nsIn K mainGlobals n=some (some (.ref C))->New Z H Z' H'->Z' x=some (mG x C)->H x=none->E (.ref C) (some x) H'
structure CalX (P:Program) (w:World) (K:PySem.W.Frag) (mg:Str->Option Value) (base:Heap) (x:Str) (k:Nat) (g:List D->Option Str) (dd:List D):Prop where
 ex:∃(fa:Addr) (fd:FuncData) (ps:List Str) (ds:List Value) (dv:List V),FnOk P w K mg base (sS P w) k fa fd ps (Hb K g)/\mg x=some (.ref fa)/\keepIn K (.ref fa)=true/\Binds K fd ps ds/\Vals dv ds/\∀Z,Reps K Z dv dd
theorem F1{k:Nat}{x:Str}{g:List D->Option Str}(Y:CalX X.prog X.w X.K X.mg X.base x k g [])(hr:Room k X.A)(hg:Gl X x)(ha:AV X (e::es) fs)(hdb:(x==("__debug__":Str))=false:=by decide)(he:starEach (e::es) X.env=(false,eval e X.env)::starEach es X.env:=by rfl)
  (hpl:(backTo pos (starEach es X.env)).any (·.1)=false:=by rfl):EX m X (.Call (.Name x p) (e::es) [] pos) (J2 fs g):=by
 obtain⟨fa,fd,ps,ds,dv,F,hm,hk,hb,hd,hdd⟩:=Y.ex;intro pins s σ H Q I h;obtain⟨H₀,Z₀,Z,δ,n,hh,e0,k⟩:=h;obtain⟨as,e1,e0⟩:=bind_some e0;refine wpAny_Call_Name_kw (ju I hg hm ?_ hdb);refine callWith_K (h₀:=X.base) I.ok.mod.kin hk (bB (ha pos pins s σ H (λvs H1=>∃Z1,Hold X.K H₀ Z₀ Z1 δ σ H1/\Same Z Z1/\Reps X.K Z1 vs as) I ⟨H₀,Z₀,Z,δ,as,hh,e1,λvs Z1 H1 hh1 t1 r1=>⟨Z1,hh1,t1,r1⟩⟩) λus s1 ⟨vs,H1,I1,r,Z1,hh1,t1,r1⟩=>⟨I1.kIn,?_⟩) he hpl
 have r2:Vals (vs++dv) (us++ds):=r.append hd;have sp:Hb X.K g (vs++dv) H1 Q (λc ox H2=>∃C xx Z2,c=.ref C/\ox=some xx/\PySem.W.nsIn X.K mainGlobals n=some (some (.ref C))/\New Z1 H1 Z2 H2/\Z2 xx=some (mG xx C)/\H1 xx=none):=⟨Z1,as++[],n,hh1.zh,r1.append (hdd Z1),by rw[append_nil];exact e0,λC xx Z2 H2 hC n2 h2 h3=>⟨C,xx,Z2,rfl,rfl,hC,n2,h2,h3⟩⟩
 have hl:(us++ds).length=ps.length:=by rw[<-r2.length];exact F.len _ _ _ _ sp
 refine wpAny_call (codeAny_mono (F.run X.A X.stack s1 H1 ⟨us,[]⟩ (us++ds) (vs++dv) Q _ hr I1.env0 (hb s1 us I1.kIn hl) r2 sp) λres s' hq=>?_)
 cases res with
 |error ee=>
  obtain⟨xx,C',H2,rfl,T,C,xx',Z2,hC',hx',hC,n2,h2,h3⟩:=hq;cases hx';cases hC';exact k pins σ H1 Z1 s1 _ s' hh1 t1 I1 (.thrown hC rfl T n2 h2 h3)
 |ok fl=>
  cases fl with
  |ret z=>exact I1.after hq
  |next=>exact False.elim hq
  |brk=>exact False.elim hq
  |cont=>exact False.elim hq
end
section
variable{P:Program}{w:World}{K:PySem.W.Frag}{mg:Str->Option Value}{base:Heap}
theorem Ku{x qual:Str}{st:Stmt}{f:Addr}{fd:FuncData}{dV:Value}{N ps:List Str}{k:Nat}{fx:Xf}(F:FunV K x qual st f fd dV)(S:FnScope N ps (aj st))
  (hb:∀(cdv:Value) (A:Around) (outer:List Env) (s:Shared) (H:Hp) (E:XK),Room k (A.deeper (envOfC qual (aj st) s.heap.objs.size f cdv))->BX true (dS (sS P w) P w K mg base N qual (aj st) f cdv A outer s H E) (ck st) fx):
  FnOk P w K mg base (sS P w) (k+1) f fd ps (Hb K (yX N ps.length fx)):=by
 obtain⟨oc,od,kV,doc,pm,an,cdv,ct,osl,rfl,lk,hcd⟩:=F.ex;have some_of:∀{as:List D} {n:Str},yX N ps.length fx as=some n->as.length=ps.length/\∃ δ',fx (aJ N as)=some (n,δ'):=λ{as n} h=>by
  unfold yX at h;split at h
  .rename_i hl
   obtain⟨⟨n',δ'⟩,e,h⟩:=bind_some h;cases h;exact⟨hl,δ',e⟩
  .cases h
 refine vZ lk hcd S (λvs H Q E h=>?_) λA outer s H vs Q E hr hsp=>?_
 .obtain⟨Z,as,n,zh,r,e,_⟩:=h
  rw[r.length];exact(some_of e).1
 .refine⟨_,hb cdv A outer s H E hr,?_⟩
  obtain⟨Z,as,n,zh,r,e,kk⟩:=hsp;obtain⟨_,δ',e2⟩:=some_of e;have hh:=eu (N:=N) zh r;refine⟨H,Z,Z,_,(n,δ'),hh,e2,λpins σ' H' Z' s1 ee s2 h' z' I fl=>?_⟩
  have nw:New Z H Z' H':=⟨z',h'.h0,h'.zh,h'.zb,h'.nf⟩;cases fl with
  | @made xx C' vs' _ hC' he hs hmd=>
   subst he;exact ud I hs hmd h'.h0 λhn=>kk C' xx (upd Z' xx (mG xx C')) _ hC' (nw.trans (New.add h'.zh hn _)) av (jo h'.h0 hn)
  | @thrown xx C' H2 Z2 hC' he T n2 hx hn=>
   subst he;exact Aa I T (kk C' xx Z2 H2 hC' (nw.trans n2) hx (jo h'.h0 hn)) (h'.h0.trans n2.h)
end
theorem xN{K:Fg}{n:Str}{M:Model}{A:Around}{E:Value->Shared->Prop}{s:Shared}{x C W:Addr}{o:Obj}{Q:Bool->Shared->Prop}(kin:K.In s.heap)(F:ExcC K n C)(FW:excIn K W Bz "ValueError.__new__" = true)(hs:subIn K (.ref C) (.ref W)=some true)
  (e:s.heap.get? x=some o) (c:o.cls=.ref C) (h:Q true s):wpAny M A (excMatches (.ref x) (.ref W)) Q E s:=by
 obtain⟨mr,ns,nm,qn,bs,hd,sn,sub,ab,col,dd,a0,a1,a2,a3,a5,mN,hW,hN,hni,TL⟩:=lj kin FW;obtain⟨hh,g,d,t,os⟩:=s;have cB:(Value.ref W::mr).contains (.type "BaseException")=true:=by rw[List.contains_cons,TL.hasType (b:=true) (by decide+kernel),Bool.or_true]
 have L:=PySem.W.looks_subIn (M:=M) kin hs;have L0:=fE (M:=M) e c;have nt:=tc_notTuple;unfold excMatches
 repeat (first|with_reducible refine L0.at ?_|with_reducible refine L.at ?_|with_reducible refine wpAny_loadPart_at hW ?_|(with_reducible refine wpAny_isSubtype_exc hW ?_;rw[cB])|wp_step)
 exact h
inductive HndL (K:Fg) (W:Addr):List Str->Prop
 |nil:HndL K W []
 |cons {n:Str} {t:List Str} {C:Addr}:ExcC K n C->subIn K (.ref C) (.ref W)=some true->HndL K W t->HndL K W (n::t)
theorem HndL.get{K:Fg}{W:Addr}{t:List Str}(h:HndL K W t){n:Str}(e:t.contains n=true):∃C,ExcC K n C/\subIn K (.ref C) (.ref W)=some true:=by
 induction h with
 |nil=>cases e
 |cons h1 h2 _ ih=>
  rw[List.contains_cons,Bool.or_eq_true]at e;rcases e with e|e
  .have:=eq_of_beq e;subst this;exact⟨_,h1,h2⟩
  .exact ih e
structure Hnd (K:Fg) (W:Str) (ns:List Str):Prop where
 ex:∃wC,PySem.W.nsIn K mainGlobals W=some (some (.ref wC))/\excIn K wC Bz "ValueError.__new__" = true/\HndL K wC ns
theorem Thrown.move{P:Program}{w:World}{l:List Env}{H H2:Hp}{s s2:Shared}{x C:Addr}(T:Thrown P w l H s x C H2 s2)(hf:∀b∈g9 l,∃o,s.heap.get? b=some o/\∀vs,o.data≠.fields vs)(hn:∀b∈g9 l,H b=none):
  ∃B t,FlyX B l x (.ref C) t s2.heap/\∀h' t',FlyX B l x (.ref C) t' h'->s2.heap.UpToSlots h'->Thrown P w l H s x C H2 {s2 with heap:=h'}:=by
 obtain⟨B,t,fl,hB1,hB2⟩:=T.fly;refine⟨B,t,fl,λh' t' fl' sm=>?_⟩
 have slot:∀b o,s.heap.get? b=some o->H b=none->b∈g9 l->∃sl,h'.get? b=some {o with slots:=sl}:=λb o q n hb=>by
  obtain⟨sl2,e2⟩:=T.un.slot b o q n hb (λz=>nomatch z);obtain⟨o',ho',hd⟩:=hf b hb;rw[q]at ho';cases ho';obtain⟨sl3,e3⟩:=sm b _ e2 hd;exact⟨sl3,e3⟩
 refine⟨T.os,T.bare,⟨λb o q n hb _=>fl'.1.1 b o (hB2 b o q n hb),λb o q n hb _=>slot b o q n hb,λb o q n z=>T.un.free b o q n z,λb o q _=>?_,T.un.tups,T.un.frzs,T.un.tbls⟩,vL (l:=[]) (t:=t) T.hok T.is fl.1.1 fl' hB1,T.sm,T.is,⟨B,t',fl',hB1,hB2⟩⟩
 cases q2:H2 b with
 |some ho=>
  by_cases hb:b=x
  .subst hb;obtain⟨ob,e1,_⟩:=fl'.there;exact⟨ob,e1⟩
  .obtain⟨ob,e1⟩:=hB1 b ho q2 hb;exact⟨ob,fl'.1.1 b ob e1⟩
 |none=>
  have n:H b=none:=by
   cases e:H b with
   |none=>rfl
   |some z=>rw[T.sm b z e]at q2;cases q2
  by_cases hb:b∈g9 l
  .obtain⟨sl,e⟩:=slot b o q n hb;exact⟨_,e⟩
  .exact⟨o,fl'.1.1 b o (hB2 b o q n hb)⟩
section
variable{X:Cx}{pins:List (Addr×Obj)}{σ:St}{H:Hp}{s:Shared}
theorem F9{M:Model}{A:Around}{E:Value->Shared->Prop}{i:Nat}{x:Str}{v:V}{Q:Unit->Shared->Prop}(I:Inv X pins σ H s)(hN:X.N.Nodup)(hi:X.N[i]? = some x)(hk:X.env.scope.names.lookup x=some .local)(hv:σ[i]? = some (some v))
  (h:∀s',Inv X pins (σ.set i none) H s'->Q () s'):wpAny M A (unbindName X.env x) Q E s:=by
 obtain⟨m,hn,hl⟩:=id I.loc;have hcls:(X.env.scope.kind == .class||(X.env.scope.kind == .module&&X.env.locals != X.env.globals))=false:=by rw[I.ok.kind];rfl
 have hiσ:i < σ.length:=by rw[I.len];exact(List.getElem?_eq_some_iff.mp hi).1
 have cne:=I.cne;obtain⟨u,rv,lk⟩:=hl i x v hi hv (.inl hk);have hmx:m x=some u:=by
  rcases lk with⟨_,q⟩|⟨q,_⟩
  .exact q
  .rcases q with q|q
   .rw[show X.env.kindOf x=some .local from hk]at q;cases q
   .rw[show X.env.kindOf x=some .local from hk]at q;cases q
 refine wpAny_unbindName_local hk hn hmx hcls λh' u' hn' hs=>?_
 obtain⟨oL,_,_,hoL,_⟩:=id hn;have tracked:HOk X.prog X.w H h':=λb ob e=>by
  refine(I.hok b ob e).stay (λc w' hc q=>(hs.2 c ?_).trans q) (λ_ q=>q) (λ_ _ q=>q) λ_ _ _ q=>q
  rintro rfl;rcases hc with z|hc
  .rw[<-z,I.free]at e;cases e
  .rw[I.free]at hc;cases hc
 refine h _ ⟨I.ok,I.os,I.bare,⟨λb o e n hb hx=>?_,λb o e n hb hx=>?_,I.base.free,λb o e hx=>?_,I.base.tups,I.base.frzs,I.base.tbls⟩,⟨_,hn',λj y v' e1 e2 e3=>?_⟩,λy c e=>?_,I.free,I.freeC,λp hp=>?_,tracked,by simpa using I.len⟩
 .exact(hs.2 b (ne_of_lt (lt_of_lt_of_le (lt_size e) I.ok.above))).trans (I.base.keep b o e n hb hx)
 .obtain⟨sl,e1⟩:=I.base.slot b o e n hb hx
  exact⟨sl,(hs.2 b (ne_of_lt (lt_of_lt_of_le (lt_size e) I.ok.above))).trans e1⟩
 .obtain⟨o',e1⟩:=I.base.there b o e hx
  exact⟨o',(hs.2 b (ne_of_lt (lt_of_lt_of_le (lt_size e) I.ok.above))).trans e1⟩
 .by_cases hj:j=i
  .subst hj
   rw[getElem?_set_self hiσ]at e2;cases e2
  .rw[getElem?_set_ne (Ne.symm hj)]at e2
   obtain⟨z',r',q⟩:=hl j y v' e1 e2 e3;refine⟨z',r',?_⟩;rcases q with⟨k,e⟩|⟨k,c,e,z⟩
   .refine .inl ⟨k,?_⟩
    have:y≠x:=λe=>hj (lQ hN e1 (e ▸ hi))
    simp[this,e]
   .exact .inr ⟨k,c,e,z.sameBut hs (cne y c e)⟩
 .obtain⟨w',z⟩:=I.cell y c e
  exact⟨w',z.sameBut hs (cne y c e)⟩
 .obtain⟨e,n,ne,nf,d⟩:=I.pin p hp
  exact⟨(hs.2 p.1 ne).trans e,n,ne,nf,d⟩
theorem pf{M:Model}{A:Around}{E:Value->Shared->Prop}{i:Nat}{x:Str}{pos:Pos}{Q:Unit->Shared->Prop}(I:Inv X pins σ H s)(hN:X.N.Nodup)(hi:X.N[i]? = some x)(hk:X.env.scope.names.lookup x=some .local)
  (h:∀s',Inv X pins (σ.set i none) H s'->Q () s'):wpAny M A (do bindName X.env x .none;unbindBehindTheSuite X.env x pos) Q E s:=by
 have hiσ:i < σ.length:=by rw[I.len];exact(List.getElem?_eq_some_iff.mp hi).1
 refine wpAny_bind (wpAny_bindName (je I hN hi (.inl hk) (v:=.non) (u:=.none) rfl (λs1 I1=>?_) (.inr hk)));unfold unbindBehindTheSuite;refine wpAny_onRaise ?_;refine F9 (v:=.non) I1 hN hi hk (getElem?_set_self hiσ) λs2 I2=>?_
 rw[List.set_set]at I2;exact h s2 I2
end
theorem Hold.unset{K:Fg}{H₀ Z₀ Z H:Hp}{δ:Dv}{σ:St}(h:Hold K H₀ Z₀ Z δ σ H)(i:Nat):Hold K H₀ Z₀ Z (δ.set i .un) (σ.set i none) H where
 zh:=h.zh
 h0:=h.h0
 z0:=h.z0
 zb:=h.zb
 len:=by simp[h.len]
 fz:=λj e q=>by
  by_cases hj:i=j
  .subst hj
   have hl:i < δ.length:=by have:=(List.getElem?_eq_some_iff.mp q).1;simpa using this
   rw[getElem?_set_self hl]at q;cases q
  .rw[getElem?_set_ne hj]at q
   obtain⟨u,a,b⟩:=h.fz j e q;exact⟨u,by rw[getElem?_set_ne hj];exact a,b⟩
 own:=λj es q=>by
  by_cases hj:i=j
  .subst hj
   have hl:i < δ.length:=by have:=(List.getElem?_eq_some_iff.mp q).1;simpa using this
   rw[getElem?_set_self hl]at q;cases q
  .rw[getElem?_set_ne hj]at q ⊢
   exact h.own j es q
 dja:=λj k ds es a hjk q1 q2=>by
  have f:∀{m:Nat} {ds:Oc},(δ.set i .un)[m]? = some (.own ds)->i≠m/\ δ[m]? = some (.own ds):=λ{m ds} q=>by
   by_cases hm:i=m
   .subst hm
    have hl:i < δ.length:=by have:=(List.getElem?_eq_some_iff.mp q).1;simpa using this
    rw[getElem?_set_self hl]at q;cases q
   .rw[getElem?_set_ne hm]at q;exact⟨hm,q⟩
  obtain⟨a1,b1⟩:=f q1;obtain⟨a2,b2⟩:=f q2;rw[getElem?_set_ne a1,getElem?_set_ne a2];exact h.dja j k ds es a hjk b1 b2
 fr:=h.fr.put (λ_ z=>nomatch z) λ_ hj=>getElem?_set_ne hj
 nf:=h.nf
abbrev Js(X:Cx)(pn:List (Addr×Obj))(E:Value->Shared->Prop):Cx:={X with pn:=pn,xe:=E}
abbrev GK(X:Cx)(x:Addr):Cx:={X with A:=X.A.mark (some (.ref x)),calm:=false,xe:=λ_ _=>False}
theorem Inv.toT{X:Cx}{pins:List (Addr×Obj)}{σ:St}{H:Hp}{s:Shared}(I:Inv X pins σ H s)(E:Value->Shared->Prop):Inv (Js X (X.pn++pins) E) [] σ H s:=
 ⟨⟨I.ok.mod,I.ok.kind,I.ok.glob,I.ok.blt,I.ok.above,I.ok.inj,I.ok.has,I.ok.cab,I.ok.hd,I.ok.frames,I.ok.stk,I.ok.exf,I.ok.bs,I.ok.bsz,I.ok.noex,I.ok.exfs,I.ok.funs,I.ok.frf,I.ok.tb⟩,I.os,I.bare,I.base,I.loc,I.cell,I.free,I.freeC,λp hp=>I.pin p (by simpa using hp),I.hok,I.len⟩
theorem Inv.ofT{X:Cx}{pins pins':List (Addr×Obj)}{σ:St}{H:Hp}{s:Shared}{E:Value->Shared->Prop}(I:Inv (Js X (X.pn++pins) E) pins' σ H s):Inv X pins σ H s:=
 ⟨⟨I.ok.mod,I.ok.kind,I.ok.glob,I.ok.blt,I.ok.above,I.ok.inj,I.ok.has,I.ok.cab,I.ok.hd,I.ok.frames,I.ok.stk,I.ok.exf,I.ok.bs,I.ok.bsz,I.ok.noex,I.ok.exfs,I.ok.funs,I.ok.frf,I.ok.tb⟩,I.os,I.bare,I.base,I.loc,I.cell,I.free,I.freeC,λp hp=>I.pin p (List.mem_append_left _ hp),I.hok,I.len⟩
theorem Inv.toH{X:Cx}{pins:List (Addr×Obj)}{σ:St}{H:Hp}{s:Shared}(I:Inv X pins σ H s)(x:Addr):Inv (GK X x) pins σ H s:=
 ⟨⟨I.ok.mod,I.ok.kind,I.ok.glob,I.ok.blt,I.ok.above,I.ok.inj,I.ok.has,I.ok.cab,(λz=>(nomatch z)),I.ok.frames,I.ok.stk,I.ok.exf,I.ok.bs,I.ok.bsz,I.ok.noex,I.ok.exfs,I.ok.funs,I.ok.frf,I.ok.tb⟩,I.os,I.bare,I.base,I.loc,I.cell,I.free,I.freeC,I.pin,I.hok,I.len⟩
theorem Inv.ofH{X:Cx}{pins:List (Addr×Obj)}{σ:St}{H:Hp}{s:Shared}{x:Addr}(hc:X.A.handled=none)(I:Inv (GK X x) pins σ H s):Inv X pins σ H s:=
 ⟨⟨I.ok.mod,I.ok.kind,I.ok.glob,I.ok.blt,I.ok.above,I.ok.inj,I.ok.has,I.ok.cab,λ_=>hc,I.ok.frames,I.ok.stk,I.ok.exf,I.ok.bs,I.ok.bsz,I.ok.noex,I.ok.exfs,I.ok.funs,I.ok.frf,I.ok.tb⟩,I.os,I.bare,I.base,I.loc,I.cell,I.free,I.freeC,I.pin,I.hok,I.len⟩
theorem Inv.still{X:Cx}{pins:List (Addr×Obj)}{σ:St}{H:Hp}{s:Shared}{x C:Addr}{ob:Obj}(I:Inv X pins σ H s)(hx:H x=some (mG x C))(ho:s.heap.get? x=some ob):Inv X pins σ (upd H x (.frz ob (mG x C))) s:=by
 have ne:∀{b:Addr},H b=none->b≠x:=λ{b} h z=>by subst z;rw[hx]at h;cases h
 have up:∀{b:Addr},H b=none->upd H x (.frz ob (mG x C)) b=none:=λ{b} h=>by rw[aq (ne h)];exact h
 refine⟨I.ok,I.os,I.bare,⟨I.base.keep,I.base.slot,λb o e n hb=>up (I.base.free b o e n hb),I.base.there,λb xs e=>?_,λb o u e=>?_,λb ps e=>?_⟩,I.loc,I.cell,up I.free,λy c e=>up (I.freeC y c e),λp hp=>?_,λb o e=>?_,I.len⟩
 .have q:=I.base.tups b xs e
  by_cases hb:b=x
  .subst hb;rw[hx]at q;cases q
  .rw[aq hb];exact q
 .have q:=I.base.frzs b o u e
  by_cases hb:b=x
  .subst hb;rw[hx]at q;cases q
  .rw[aq hb];exact q
 .obtain⟨m,q⟩:=I.base.tbls b ps e
  by_cases hb:b=x
  .subst hb;rw[hx]at q;cases q
  .exact⟨m,by rw[aq hb];exact q⟩
 .obtain⟨e,n,r⟩:=I.pin p hp
  exact⟨e,up n,r⟩
 .have st:∀{b':Addr} {o':HO},ObjOk X.prog X.w H s.heap b' o'->ObjOk X.prog X.w (upd H x (.frz ob (mG x C))) s.heap b' o':=λ{b' o'} q=>by
   refine q.stay (λ_ _ _ z=>z) (λc z=>?_) (λc xs z=>?_) λc o xs z=>?_
   .by_cases hc:c=x
    .subst hc;rw[hx]at z;cases z
    .rw[aq hc];exact z
   .by_cases hc:c=x
    .subst hc;rw[hx]at z;cases z
    .rw[aq hc];exact z
   .by_cases hc:c=x
    .subst hc;rw[hx]at z;cases z
    .rw[aq hc];exact z
  by_cases hb:b=x
  .subst hb
   rw[av]at e;cases e;exact⟨ho,st (I.hok b _ hx)⟩
  .rw[aq hb]at e
   exact st (I.hok b o e)
theorem New.still{Z H Z2 H2:Hp}{x C:Addr}{ob:Obj}(n:New Z H Z2 H2)(zh:Same Z H)(hz:Z2 x=some (mG x C))(hn:H x=none):New Z H (upd Z2 x (.frz ob (mG x C))) (upd H2 x (.frz ob (mG x C))) where
 z:=λb o e=>by rw[aq (az (zh b o e) hn)];exact n.z b o e
 h:=λb o e=>by rw[aq (az e hn)];exact n.h b o e
 zh:=λb o e=>by
  by_cases hb:b=x
  .subst hb;rw[av]at e ⊢;exact e
  .rw[aq hb]at e ⊢;exact n.zh b o e
 o:=λb hb=>by
  have:b≠x:=λz=>hb (by rw[z];exact hn)
  rw[aq this];exact n.o b hb
 nf:=n.nf.upd x
def Lm(K:Fg)(x:Addr)(ob:Obj)(C:Addr)(f:Sf):TS:=λD σ H=>∃H₀ Z₀ Z δ r,Hold K H₀ Z₀ Z δ σ H/\Z x=some (.frz ob (mG x C))/\f δ = some r/\∀ σ' H' Z',Hold K H₀ Z₀ Z' r.2 σ' H'->Same Z Z'->r.1.to K Z' D σ' H'
section
variable{X:Cx}{body suite:List Stmt}{b₀:Stmt}{b bs:Sf}{bx:Xf}{np hpos pos:Pos}
theorem BJ(i:Nat){n W:Str}{ns:List Str}(O:Hnd X.K W ns)(hgW:Gl X W)(hN:X.N.Nodup)(hi:X.N[i]? = some n)(hloc:X.env.scope.names.lookup n=some .local)(hcalm:X.calm=true)(hstk:X.stack=X.env::X.outer)
  (hb:BV X.nox body b) (hx:∀pn E',BX false (Js X pn E') body bx) (hs:∀x ob C,(∃vs,ob.data=.fields vs/\vs[2]? = some .none)->PSs (GK X x) (b₀ :: suite) (Lm X.K x ob C bs)) (hfrm:X.env.frame=some X.env.locals:=by rfl) (hdb:(W==("__debug__":Str))=false:=by decide):
  SV X (.Try body [.ExceptHandler (some (.Name W np)) (some n) (b₀ :: suite) hpos] [] [] pos) (yT i ns b bx bs):=by
 intro pins s σ H D I h;obtain⟨H₀,Z₀,Z,δ,r,hh,e,k⟩:=h;unfold yT at e;cases hbx:bx δ with
 |none=>
  rw[hbx]at e;refine wpAny_Try_except (wpAny_mono (hb pins s σ H D (I.wish _) ⟨H₀,Z₀,Z,δ,r,hh,e,k⟩) (λf s1 q=>?_) λ_ _ z=>False.elim z)
  have q:=q.unwish;cases f with
  |next=>exact wpAny_execs_nil q
  |brk=>exact q
  |cont=>exact q
  |ret u=>exact q
 |some pr=>
  obtain⟨nm,δ'⟩:=pr;rw[hbx]at e;dsimp only at e;split at e
  rotate_left
  .cases e
  rename_i hcn;obtain⟨⟨fl,δ2⟩,e2,e⟩:=bind_some e;cases e;obtain⟨wC,hW,FW,L⟩:=O.ex;obtain⟨C,F,hsub⟩:=L.get hcn;have hhd:=I.ok.hd hcalm;refine wpAny_Try_except (wpAny_mono (hx (X.pn++pins) _ [] s σ H ⟨λ_ _=>False,λ_ _=>False,λ_ _=>False,λ_ _=>False⟩ (Inv.toT I _) ⟨H₀,Z₀,Z,δ,(nm,δ'),hh,hbx,?_⟩) (λf s1 q=>?_) λ_ _ z=>z)
  rotate_left
  .cases f with
   |next=>obtain⟨_,_,_,q⟩:=q;exact q.elim
   |brk=>obtain⟨_,_,_,q⟩:=q;exact q.elim
   |cont=>obtain⟨_,_,_,q⟩:=q;exact q.elim
   |ret u=>obtain⟨_,_,_,_,_,q⟩:=q;exact q.elim
  intro pins' σ' H' Z' s1 e1 s2 hh' sm I1 fg;cases fg with
  |made hm _ _ _ _=>cases hm
  | @thrown x C' H2 Z2 hC' he T nw hx2 hxn=>
   subst he;have:C'=C:=by have:=hC'.symm.trans F.nm;simpa using this
   subst this;have I1:Inv X pins σ' H' s1:=Inv.ofT I1;have T:Thrown X.prog X.w X.stack H' s1 x C' H2 s2:=T;have ff:∀b∈g9 X.stack,∃o,s1.heap.get? b=some o/\∀vs,o.data≠.fields vs:=λb hb=>(I1.stack.mem hb).2
   obtain⟨B,t,fl0,mv⟩:=T.move ff I1.stkFree;have fl1:=fl0;rw[hstk]at fl1;refine vp (by rw[I1.ok.frames,hstk]) hfrm fl1 λh4 held4 sm4=>?_
   refine pT held4 λh5 fl5 sm5=>?_
   have fl5':=fl5;rw[<-hstk]at fl5';have T5:=mv h5 t fl5' (sm4.trans sm5);have I5:Inv X pins σ' H2 {s2 with heap:=h5}:=I1.call' T5.os T5.un T5.hok T5.bare (λ_ z=>nomatch z);have hmW:=mg_of I.ok.mod.kin I.ok.mod.glob hW;refine wpAny_handleBy_cons (codeAny_handlers_test (ju (X:=GK X x) (Inv.toH I5 x) hgW hmW ?_ hdb)) (by intro q;cases q);obtain⟨oe,hoe,hoec⟩:=fl5.there;refine xN I5.kIn F FW hsub hoe hoec (codeAny_handlers_suite_as ?_);refine nA fl5 λh6 fl6 sm6=>?_
   have fl6':=fl6;rw[<-hstk]at fl6';have T6:=mv h6 t fl6' ((sm4.trans sm5).trans sm6);have I6:Inv X pins σ' H2 {s2 with heap:=h6}:=I1.call' T6.os T6.un T6.hok T6.bare (λ_ z=>nomatch z);obtain⟨ob,hob,_,hF⟩:=(T6.hok x _ T6.is).1;have I6':Inv X pins σ' (upd H2 x (.frz ob (mG x C'))) {s2 with heap:=h6}:=Inv.still I6 T.is hob;refine je (X:=GK X x) (v:=.ref x) (u:=.ref x) (Inv.toH I6' x) hN hi (.inl hloc) rfl (λs7 I7=>?_) (.inr hloc);have nw':=nw.still (ob:=ob) hh'.zh hx2 hxn;have hh7:Hold X.K H₀ Z₀ (upd Z2 x (.frz ob (mG x C'))) (δ'.set i (.fz (xR nm))) (σ'.set i (some (.ref x))) (upd H2 x (.frz ob (mG x C'))):=(hh'.new nw').set (.opq (.exc hC' (.inr ⟨ob,av⟩)));refine wpAny_mono (hs x ob C' hF pins s7 _ _ ⟨λσ8 H8=>D.nx (σ8.set i none) H8,D.rt,λσ8 H8=>D.bk (σ8.set i none) H8,λσ8 H8=>D.ct (σ8.set i none) H8⟩ I7 ⟨H₀,Z₀,_,_,(fl,δ2),hh7,av,e2,λσ8 H8 Z8 hh8 t8=>?_⟩) (λf s8 q=>?_) λ_ _ z=>False.elim z
   .have:=k (σ8.set i none) H8 Z8 (hh8.unset i) ((sm.trans nw'.z).trans t8)
    cases fl<;>exact this
   .cases f with
    |next=>
     obtain⟨σ8,H8,I8,q⟩:=q;exact pf (Inv.ofH hhd I8) hN hi hloc λs9 I9=>⟨_,H8,I9,q⟩
    |brk=>
     obtain⟨σ8,H8,I8,q⟩:=q;exact pf (Inv.ofH hhd I8) hN hi hloc λs9 I9=>⟨_,H8,I9,q⟩
    |cont=>
     obtain⟨σ8,H8,I8,q⟩:=q;exact pf (Inv.ofH hhd I8) hN hi hloc λs9 I9=>⟨_,H8,I9,q⟩
    |ret u=>
     obtain⟨v,σ8,H8,I8,rv,q⟩:=q;exact pf (Inv.ofH hhd I8) hN hi hloc λs9 I9=>⟨v,_,H8,I9,rv,q⟩
theorem Ew(i:Nat){n W:Str}{ns:List Str}(O:Hnd X.K W ns)(hgW:Gl X W)(hN:X.N.Nodup)(hi:X.N[i]? = some n)(hloc:X.env.scope.names.lookup n=some .local)(hcalm:X.calm=true)(hstk:X.stack=X.env::X.outer)
  (hb:BV X.nox body b) (hx:∀pn E',BX false (Js X pn E') body bx) (hs:∀x,BV (GK X x) (b₀ :: suite) bs) (hfrm:X.env.frame=some X.env.locals:=by rfl) (hdb:(W==("__debug__":Str))=false:=by decide):
  SV X (.Try body [.ExceptHandler (some (.Name W np)) (some n) (b₀ :: suite) hpos] [] [] pos) (yT i ns b bx bs):=
 BJ i O hgW hN hi hloc hcalm hstk hb hx (λx _ _ _=>PSs.imp (hs x) λD σ H h=>by
  obtain⟨H₀,Z₀,Z,δ,r,hh,_,e,k⟩:=h;exact⟨H₀,Z₀,Z,δ,r,hh,e,k⟩) hfrm hdb
end
def xD:Sl->Bool
 |.own _=>true
 |_=>false
@[simp] theorem Jk(d:D):xD (.fz d)=false:=rfl
@[simp] theorem Jj:xD .un=false:=rfl
def BY:Nat->Dv->Bool
 |_,[]=>true
 | 0,_::r=>r.all λs=>!xD s
 |n+1,s::r=>!xD s&&BY n r
@[simp] theorem GC(s:Sl)(r:Dv):BY 0 (s::r)=r.all λs=>!xD s:=rfl
@[simp] theorem GD(n:Nat)(s:Sl)(r:Dv):BY (n+1) (s::r)=(!xD s&&BY n r):=rfl
@[simp] def KO(f:Dv->Option D)(u:Dv->Option Str):Dv->Option Str:=λδ=>(f δ).bind λ_=>u δ
def mD:D->Option Str
 |.dict [(.str k,.str n)]=>if k = "fn" then some n else none
 |_=>none
theorem oU(n:Str):mD (DX n)=some n:=by simp[mD,DX]
def bt(i:Nat)(fs:Dv->Option (List D))(tbl:List (Str×(List D->Option D))):Dv->Option D:=λδ=>(oV i δ).bind λd=>(mD d).bind λn=>(tbl.lookup n).bind λg=>(fs δ).bind g
@[simp] def yV(i:Nat)(f:Dv->Option D):Sf:=λδ=>(f δ).bind λv=>(zT v).bind λes=>(yg δ[i]?).bind λds=>if ds.length+es.length<=sizeLine then some (.nx,δ.set i (.ow (ds++es)))else none
theorem xL{d:D}{n:Str}(h:mD d=some n):d=DX n:=by
 unfold mD at h;split at h
 .split at h
  .rename_i hk;subst hk;cases h;rfl
  .cases h
 .cases h
structure CalF (P:Program) (w:World) (K:PySem.W.Frag) (mg:Str->Option Value) (base:Heap) (x:Str) (k:Nat) (g:List D->Option D):Prop where
 ex:∃(fa:Addr) (fd:FuncData) (ps:List Str),FnOk P w K mg base dH k fa fd ps (io K g)/\PySem.W.nsIn K mainGlobals x=some (some (.ref fa))/\mg x=some (.ref fa)/\keepIn K (.ref fa)=true/\Binds K fd ps []
theorem ut(l:Addr)(items:Array Value)(n:Nat)(b:Addr)(items2:Array Value)(n2:Nat)(sl:Array (Option Value))(hc0:¬(!items.isEmpty&&Builtin.List.listTooLong (items.size+items2.size))=true)(hc1:items.size<=sizeLine)(hs2:items.size+items2.size<=sizeLine+1):
  Meets (Builtin.«list.extend» ⟨[.ref l,.ref b],[]⟩) (λ_ R s=>s.heap.get? l=some {cls:=.type "list",dict:=none,data:=.seq items n,slots:=#[]}/\s.heap.get? b=some {cls:=.type "list",dict:=none,data:=.seq items2 n2,slots:=sl}/\R (.ok (.ret Value.none)) {s with heap:=s.heap.update l (Obj.mapSeq λx=>x++items2),toks:=s.toks}):=
 .of_wp λprog w A R s h=>by
  obtain⟨hp,g,d,tk,os⟩:=s;obtain⟨hl,hb,h⟩:=h;have f1:=AutoSeq1.idx_int;have f2:=AutoSeq1.sub_tuple_tuple;have f3:=AutoSeq1.sub_list_list;have f4:=AutoSeq1.sub_tuple_list;have f5:=AutoSeq1.sub_list_tuple;have hz':(items++items2).size<=sizeLine+1:=by rw[Array.size_append];exact hs2
  wp_walk using (wpAny_updateSeq hl rfl (hz:=hc1) (_hz':=hz')),AutoSeq1.wpAny_loadPart' hl,AutoSeq1.wpAny_loadPart' hb;exact⟨_,rfl,h⟩
def Hl(K:Fg):V->List V->Hp->VK->Prop:=λx vs H Q=>∃l b xs zs,x=.ref l/\vs=[.ref b]/\H l=some (.lst xs)/\SqL K H b zs/\xs.length+zs.length<=sizeLine/\Q .non (upd H l (.lst (xs++zs)))
section
variable{X:Cx}
theorem Cz:Lc X "list.extend" (Hl X.K):=by
 intro pins s σ H x vs v us Q I rx rv h;obtain⟨l,b,xs,zs,rfl,rfl,hH,hB,hz,q⟩:=h;cases rx;obtain⟨u,rfl,ru⟩:=rv.one;cases ru;obtain⟨z,its,n,r,hl,e⟩:=I.lstM hH;obtain⟨its2,r2,⟨o2,n2,e2,hc,hd,hs⟩,z2⟩:=I.list hB;have hl2:=r2.length;obtain⟨c2,d2,dt2,sl2⟩:=o2;dsimp only at hc hd hs;subst hc hd hs;have hsz:its.toArray.size+its2.toArray.size<=sizeLine:=by rw[size_toArray,size_toArray];lia
 have hlong:¬(!its.toArray.isEmpty&&Builtin.List.listTooLong (its.toArray.size+its2.toArray.size))=true:=by
  rw[zO hsz,Bool.and_false];exact Bool.false_ne_true
 refine call_meets F.slot_list_extend ⟨_,e,rfl⟩ F.entry_list_extend (F.args_list_extend_2 _ _)
  (ut l its.toArray n b its2.toArray n2 sl2 hlong (by rw[size_toArray];lia) (by lia)) ⟨e,e2,?_⟩
 refine⟨.non,_,I.lset (its':=its++its2) hH e (by simp) (r.append r2) ?_,rfl,q⟩;rw[List.length_append]
 lia
end
section
variable{X:Cx}{e:Expr}{f:Dv->Option D}{p pos apos:Pos}
theorem uU(i:Nat){x:Str}{cpos:Pos}(hv':EV X e f)(hN:X.N[i]? = some x:=by rfl)(hv:yk X.env.scope x:=by first|exact Or.inl rfl|exact Or.inr (Or.inl rfl)|exact Or.inr (Or.inr rfl))(hd:(x==("__debug__":Str))=false:=by decide)(hcd:(x==("__classdict__":Str))=false:=by decide)
  (hbase:attributeBase (.Name x p) "extend" X.env (eval (.Name x p) X.env)=eval (.Name x p) X.env:=by rfl)
  (hfew:((backTo cpos (starEach [e] X.env)).all (λx=>!x.1)&&(backToKw cpos (keywordEach [] X.env)).all (λx=>x.1.isSome)
   && decide ([e].length+([]:List Keyword).length+(if([]:List Keyword).isEmpty then 0 else 1)<30))=true:=by rfl)
  (hline:(apos.endLine==cpos.line)=true:=by rfl) (hs:starEach [e] X.env=(false,eval e X.env)::starEach [] X.env:=by rfl) (hplain:(backTo cpos (starEach [] X.env)).any (·.1)=false:=by rfl)
  (hsw:swapsWith (.Call (.Attribute (.Name x p) "extend" apos) [e] [] cpos) none pos.line X.env=pure false:=by rfl):SV X (.Expr (.Call (.Attribute (.Name x p) "extend" apos) [e] [] cpos) pos) (yV i f):=
 PS.imp (la (DG PySem.F.plainAttrs_list PySem.F.slot_list_extend PySem.F.type_list_extend Cz (d8 hN hv hd hcd) (bq hv' dl hs) hbase hfew hline hs hplain) hsw) λD σ H h=>by
  obtain⟨H₀,Z₀,Z,δ,r,hh,e,k⟩:=h;obtain⟨v,e1,e⟩:=bind_some e;obtain⟨es,e3,e⟩:=bind_some e;obtain⟨ds,e2,e⟩:=bind_some e;by_cases hl:ds.length+es.length<=sizeLine
  .rw[if_pos hl]at e
   cases e;cases v with
   |list es'=>
    cases e3;obtain⟨a,xs,h1,h4,h5⟩:=rn hh e2;refine⟨_,h1,.inl ⟨rfl,xs,SqL.of h4⟩,H₀,Z₀,Z,δ,_,hh,e1,λw Z1 H1 hh1 t1 r1=>?_⟩
    obtain⟨a',xs',g1,g4,g5⟩:=rn hh1 e2;rw[h1]at g1;cases g1;cases r1 with
    |lst q1 q2=>
     exact⟨a,_,xs',_,rfl,rfl,g4,SqL.same q1 hh1.zh,by rw[g5.length,q2.length];exact hl,k σ _ Z1 (hh1.chg (xs:=xs') (tI e2) h1 (g5.append q2)) t1⟩
   |_=>cases e3
  .rw[if_neg hl]at e;cases e
end
theorem nI{pos:Pos}{cv:Value}(l r:List Value)(ht:TriplesOk l)(h:codeAmong pos (l++r)=some cv):codeAmong pos l=some cv\/codeAmong pos r=some cv:=by
 fun_induction TriplesOk l with
 |case1=>exact .inr h
 |case2 a t b u c rest ih=>
  rw[List.cons_append,List.cons_append,List.cons_append]at h;unfold codeAmong at h;split at h
  .rename_i hc
   left;unfold codeAmong;rw[if_pos hc];exact h
  .rename_i hc
   rcases ih ht h with z|z
   .left
    unfold codeAmong;rw[if_neg hc];exact z
   .exact .inr z
 |case3=>exact ht.elim
section
variable{X:Cx}{params:Arguments}{body:Expr}{scope:Scope}{pos:Pos}
theorem Inv.bat{pins:List (Addr×Obj)}{σ:St}{H:Hp}{s:Shared}{P:Addr}(I:Inv X pins σ H s)(hP:H P≠none):s.heap.BuiltinsAt X.mg P:=by
 obtain⟨bm,ob,b1,b2,b3,b4,b5,b6⟩:=I.ok.mod.bmain;have hbP:bm≠P:=λq=>hP (by rw[<-q];exact(I.bs bm ob b3).2)
 have hbG:bm≠mainGlobals:=λq=>by
  obtain⟨o,es,ep,e,hd,_⟩:=I.ok.mod.glob;rw[q,e]at b3;cases b3;rw[hd]at b6;cases b6
 exact⟨bm,ob,b1,b2,hbG,hbP,I.bk _ _ b3,b4,b5,b6⟩
theorem Inv.gl{pins:List (Addr×Obj)}{σ:St}{H:Hp}{s:Shared}(I:Inv X pins σ H s):s.heap.Ns mainGlobals X.mg:=by
 obtain⟨o,es,ep,e,r⟩:=I.ok.mod.glob;exact⟨o,es,ep,I.bk _ _ e,r⟩
abbrev rT(X:Cx)(params:Arguments)(body:Expr)(scope:Scope)(c':Addr)(ctv:Value):Obj:=kla_obj "<lambda>" (X.env.qual ++ "<lambda>") params body scope [] ((X.mg "__name__").getD .none) c' ctv
theorem AQ{n x:Str}{c P:Addr}(hL:LamIs n params body scope)(hns:PySem.W.nsIn X.K mainGlobals n=some none)(hx:x∈lamDefs)(ht:tabIn X.K x=some (c,P))(hcode:X.env.code=.ref c)
  (hcl:closureFor scope X.env=pure []:=by rfl) (hdef:defaultsOf params X.env=([],[]):=by rfl):EV X (.Lambda params body scope pos) (oC (DX n)):=by
 intro pins s σ H Q I h;obtain⟨H₀,Z₀,Z,δ,d,hh,e,k⟩:=h;cases e;refine PySem.W.kla_eval hdef ?_;obtain⟨ps0,hP⟩:=I.tb x hx c P ht;obtain⟨ps,gP,tr,good⟩:=I.hok P _ hP;have hPn:H P≠none:=by rw[hP];simp
 have C:PySem.W.CodeHd s.heap c P:=(I.ok.mod.tabs x hx c P ht).keeps I.bk;have hgP:mainGlobals≠P:=λq=>by
  obtain⟨o,es,ep,e,r⟩:=I.ok.mod.glob;exact hPn (by rw[<-q];exact(I.bs _ _ e).2)
 have hLP:X.env.locals≠P:=λq=>hPn (by rw[<-q];exact I.free)
 cases hf:codeAmong pos ps.toList with
 |some cv=>
  obtain⟨c',oc,u,vs,q,t,rfl,hc,hd,hv⟩:=good pos cv hf;refine PySem.W.kla_makeFunctionHit (mg:=X.mg) hcl I.ok.glob (Inv.gl I) hcode C gP tr hf (Inv.bat I hPn) λctv h' tk hk hsz=>?_
  have hsz':s.heap.objs.size<=h'.objs.size:=hsz;have hfr:H h'.objs.size=none:=I.hok.fresh hsz';have hkk:∀b u,s.heap.get? b=some u->(h'.push (rT X params body scope c' ctv)).get? b=some u:=λb u e=>get?_push_of_some _ (hk b u e)
  refine⟨.ref h'.objs.size,_,I.laid (o:=.frz (rT X params body scope c' ctv) (.cod c')) hkk hsz' ?_,rfl,?_⟩
  .refine⟨get?_push_size _ rfl,⟨_,get?_push_size _ rfl⟩,oc,u,vs,q,t,?_,hd,hv⟩
   rw[aq (λz=>by rw[z,hfr]at hc;cases hc)];exact hc
  .have nw:=New.add hh.zh hfr (.frz (rT X params body scope c' ctv) (.cod c'))
   exact k _ _ _ (hh.new nw) nw.z (.opq (.lam hns ⟨_,params,body,scope,_,_,rfl,hL⟩ av))
 |none=>
  refine PySem.W.kla_makeFunction (mg:=X.mg) hcl I.ok.glob (Inv.gl I) hcode C gP tr hf hgP (Inv.bat I hPn) λc' ctv h' tk hx' hge hlt hrec htb=>?_
  obtain⟨c2,oc,vs,t,e2,hoc,hd,hv⟩:=hrec;cases e2;have cP:c'≠P:=λz=>by
   rw[z]at hge;exact absurd (lt_of_lt_of_le (lt_size gP) hge) (lt_irrefl _)
  have hcn:H c'=none:=I.hok.fresh hge;have hsz':s.heap.objs.size<=h'.objs.size:=le_trans hge (Nat.le_of_lt hlt);have hfn:H h'.objs.size=none:=I.hok.fresh hsz';have hfc:h'.objs.size≠c':=Nat.ne_of_gt hlt;have keep:∀b o,b≠P->s.heap.get? b=some o->(h'.push (rT X params body scope c' ctv)).get? b=some o:=λb o hb e=>get?_push_of_some _ (hx' b o hb e)
  have nP:∀b,H b=none->b≠P:=λb hb z=>hPn (by rw[<-z];exact hb)
  have low:∀b o,s.heap.get? b=some o->b≠c'/\b≠h'.objs.size:=λb o e=>⟨ne_of_lt (lt_of_lt_of_le (lt_size e) hge),ne_of_lt (lt_of_lt_of_le (lt_size e) hsz')⟩
  have up:∀b o,H b=some o->upd (upd H c' (.frz oc (.own 0))) h'.objs.size (.frz (rT X params body scope c' ctv) (.cod c')) b=some o:=λb o e=>by
   rw[aq (az e hfn),aq (az e hcn)];exact e
  have gc:upd (upd H c' (.frz oc (.own 0))) h'.objs.size (.frz (rT X params body scope c' ctv) (.cod c')) c'=some (.frz oc (.own 0)):=by
   rw[aq (Ne.symm hfc),av]
  refine⟨.ref h'.objs.size,upd (upd H c' (.frz oc (.own 0))) h'.objs.size (.frz (rT X params body scope c' ctv) (.cod c')),I.step (g':=s.gens) (d':=s.drawn) (ch:=[]) (λ_ z=>nomatch z) (λb o _ _ _ e n=>keep b o (nP b n) e) (λb o _ _ _ e n=>⟨o.slots,keep b o (nP b n) e⟩)
   (λb o _ e n=>?_) (λb o _ e=>?_) (λb xs e=>up b _ e) (λb o u e=>up b _ e) (λb ps e=>⟨#[],by rw[Array.append_empty];exact up b _ e⟩) (λm hm=>?_) (λb o e=>?_) I.bare,rfl,?_⟩
  .rw[aq (low b o e).2,aq (low b o e).1];exact n
  .by_cases hb:b=P
   .subst hb;exact⟨_,get?_push_of_some _ htb⟩
   .exact⟨o,keep b o hb e⟩
  .obtain⟨o,es,ep,e,r⟩:=hm
   exact⟨o,es,ep,keep _ o hLP e,r⟩
  .by_cases hbf:b=h'.objs.size
   .subst hbf
    rw[av]at e;cases e;exact⟨get?_push_size _ rfl,⟨_,get?_push_size _ rfl⟩,oc,_,vs,_,t,gc,hd,hv⟩
   .by_cases hbc:b=c'
    .subst hbc
     rw[gc]at e;cases e;exact⟨get?_push_of_some _ hoc,⟨_,get?_push_of_some _ hoc⟩⟩
    .have e':=e
     rw[aq hbf,aq hbc]at e';by_cases hb:b=P
     .subst hb
      rw[hP]at e';cases e';refine⟨_,get?_push_of_some _ htb,by rw[Array.toList_append];exact TriplesOk_snoc _ _ _ _ tr,λpos' cv q=>?_⟩
      rw[Array.toList_append]at q;rcases nI _ _ tr q with z|z
      .obtain⟨c1,oc1,u1,vs1,q1,t1,g1,g2,g3⟩:=good pos' cv z
       exact⟨c1,oc1,u1,vs1,q1,t1,g1,up _ _ g2,g3⟩
      .have z':cv=.ref c':=by
        have z:codeAmong pos' [rawInt pos.line,rawInt pos.col,.ref c']=some cv:=z;unfold rawInt at z;unfold codeAmong at z;split at z
        .exact(Option.some.inj z).symm
        .cases z
       exact⟨c',oc,_,vs,_,t,z',gc,hd,hv⟩
     .refine(I.hok b o e').stay (λb2 u hb2 q=>keep b2 u ?_ q) (λb2 q=>up b2 _ q) (λb2 xs q=>up b2 _ q) λb2 o2 u2 q=>up b2 _ q
      rcases hb2 with z|z
      .rw[z];exact hb
      .intro y;rw[y,hP]at z;cases z
  .have nw1:New Z H Z (upd H c' (.frz oc (.own 0))):=⟨Same.refl _,cy hcn,hh.zh.trans (cy hcn),λ_ _=>rfl,NoF.refl _⟩
   have nw2:=New.add nw1.zh (show upd H c' (.frz oc (.own 0)) h'.objs.size=none by rw[aq hfc];exact hfn) (.frz (rT X params body scope c' ctv) (.cod c'));exact k _ _ _ (hh.new (nw1.trans nw2)) nw2.z (.opq (.lam hns ⟨_,params,body,scope,_,_,rfl,hL⟩ av))
end
section
variable{prog:Program}{w:World}{A:Around}{R:Result->Shared->Prop}{s:Shared}
theorem IG{a:Addr}{args:Args}{o:Obj}{fd:FuncData}{body:Expr}{c:Addr}{oc:Obj}{vs:Array Value}{q:Str}{tq:Tok}(hroom:A.depth<recursionLimit)(ho:s.heap.get? a=some o)
  (hd':o.data=.func fd) (hco:fd.scope.isCoroutine=false) (hgen:fd.scope.isGenerator=false) (hbody:fd.body=.expr body) (hc:fd.code=.ref c) (hoc:s.heap.get? c=some oc) (hdc:oc.data=.fields vs) (hq:vs[1]? = some (.str q tq))
  (h:wpAny (model prog w) A.in1 (bindArgs fd args) (λbinds s₁=>
   wpAny (model prog w) A.in1 (newFunctionEnv fd.scope fd.globals fd.closure binds (q ++ ".<locals>.") (some a) fd.code none fd.builtins)
    (λenv s₂=>s₂.heap.NoLimit/\codeAny (model prog w) A (.expr body env) R s₂) (λe s'=>R (.error e) s') s₁) (λe s'=>R (.error e) s') s):
  codeAny (model prog w) A (.call (.ref a) args) R s:=by
 refine codeAny_of_tree ?_;show wpAny _ A.in1 (callAny (.ref a) args) _ _ s;simp only[callAny];refine wpAny_bind (wpAny_load ho ?_);simp only[hd',callFunction,hco,hgen,hbody,hc];rw[hc]at h;refine wpAny_bind (m:=field (.ref c) 1) (wpAny_field hoc hdc hq (wpAny_bind (wpAny_pure ?_)));exact wpAny_bind (wpAny_mono h (λbinds s₁ h₁=>wpAny_bind (wpAny_mono h₁ (λenv s₂ h₂=>wpAny_bind (wpAny_enterFrame h₂.1 hroom
  (wpAny_pure (And.intro rfl h₂.2)))) λ_ _ h'=>h')) λ_ _ h'=>h')
end
section
variable{P:Program}{w:World}{K:PySem.W.Frag}{mg:Str->Option Value}{base:Heap}
structure LamC (P:Program) (w:World) (K:PySem.W.Frag) (mg:Str->Option Value) (base:Heap) (n:Str) (k:Nat) (g:List D->Option D):Prop where
 ns:PySem.W.nsIn K mainGlobals n=some none
 run:∀(A:Around) (outer:List Env) (s:Shared) (H Z:Hp) (f c:Addr) (ob:Obj) (us:List Value) (vs:List V) (as:List D) (d:D) (Q:VK) (E:XK),Room k A->Env0 P w K mg base A outer s H->Same Z H->Bp n ob c->Z f=some (.frz ob (.cod c))->Vals vs us->Reps K Z vs as->g as=some d ->
  (∀v Z' H',New Z H Z' H'->Rep K Z' v d->Q v H')->codeAny (model P w) A (.call (.ref f) ⟨us,[]⟩) (CR dH outer P w H s Q E) s
theorem vB{k:Nat}{N ps:List Str}{params:Arguments}{body:Expr}{scope:Scope}{g:List D->Option D}{fb:Dv->Option D}(S:FnScope N ps scope)
  (hbind:∀(qual:Str) (pm cdv ctv:Value) (us:List Value),us.length=ps.length->bindArgs (PySem.W.kla_fn "<lambda>" qual params body scope [] pm cdv ctv) ⟨us,[]⟩=pure (ps.zip us))
  (hb:∀(q:Str) (f:Addr) (cdv:Value) (A:Around) (outer:List Env) (s:Shared) (H:Hp) (E:XK),Room k (A.deeper (envOfC q scope s.heap.objs.size f cdv))->EV (dS dH P w K mg base N q scope f cdv A outer s H E).nox body fb)
  (hg:∀as d,g as=some d->as.length=ps.length/\fb (aJ N as)=some d)
  {A:Around} {outer:List Env} {s:Shared} {H Z:Hp} {f c:Addr} {qual:Str} {pm ctv:Value} {us:List Value} {vs:List V} {as:List D} {d:D} {Q:VK} {E:XK}
  (hr:Room (k+1) A) (e0:Env0 P w K mg base A outer s H) (zh:Same Z H) (hf:Z f=some (.frz (kla_obj "<lambda>" qual params body scope [] pm c ctv) (.cod c))) (r:Vals vs us) (rr:Reps K Z vs as) (e:g as=some d)
  (kk:∀v Z' H',New Z H Z' H'->Rep K Z' v d->Q v H'):codeAny (model P w) A (.call (.ref f) ⟨us,[]⟩) (CR dH outer P w H s Q E) s:=by
 obtain⟨hl,eb⟩:=hg as d e;obtain⟨ho,_,oc,u,vs',q,t,hc,hd,hv⟩:=e0.hok f _ (zh _ _ hf);obtain⟨hoc,_⟩:=e0.hok c _ hc;have hlv:vs.length=ps.length:=by rw[rr.length];exact hl
 have hlu:us.length=ps.length:=by rw[<-r.length];exact hlv
 have lim:s.heap.NoLimit:=e0.mod.nolimit.keeps λb o e=>(e0.bs b o e).1
 have hkind:∀y∈ps.zip us,scope.names.lookup y.1=some .local\/(scope.names.lookup y.1=some .cell/\((cellsFrom (s.heap.objs.size+1) scope.names []).lookup y.1).isSome=true):=λ⟨n,v⟩ hy=>by
  rcases S.par n (List.of_mem_zip hy).1 with q|q
  .exact .inl q
  .exact .inr ⟨q,PySem.W.cellsFrom_some _ _ _ (.inl q)⟩
 refine IG hr.depth ho rfl S.co S.gen rfl rfl hoc hd hv ?_;rw[hbind _ _ _ _ _ hlu];refine wpAny_pure ?_;refine wpAny_newFunctionEnv_cells S.kind hkind λenv he s1 x=>?_
 subst he;refine⟨lim.keeps x.toInCall.keep,PySem.W.kla_codeExpr ?_⟩;have I:Inv (dS dH P w K mg base N q scope f (.ref c) A outer s H E) [] (L2.dL N vs) H s1:=oM S hr.hd e0 hlv r x;refine wpAny_mono ((PE.nox (hb q f (.ref c) A outer s H E (hr.deeper _))) [] s1 _ H Q I ⟨H,Z,Z,_,d,eu zh rr,eb,λv Z' H' h' z' rv=>kk v Z' H' ⟨z',h'.h0,h'.zh,h'.zb,h'.nf⟩ rv⟩) (λu s' hs=>?_) λe s' hs=>hs
 obtain⟨v,H',J,rv,q⟩:=hs;exact⟨v,H',J.os,J.bare,J.base,J.hok,rv,q⟩
end
section
variable{X:Cx}{e:Expr}{es:List Expr}{p pos:Pos}{fs:Dv->Option (List D)}
theorem eA(i:Nat){x:Str}{k:Nat}{tbl:List (Str×(List D->Option D))}(hT:∀n g,tbl.lookup n=some g->(∃j,j<=k/\CalF X.prog X.w X.K X.mg X.base n j g)\/∃j,j<=k/\LamC X.prog X.w X.K X.mg X.base n j g)(hr:Room k X.A)(ha:AV X (e::es) fs)(hN:X.N[i]? = some x:=by rfl)(hv:yk X.env.scope x:=by first|exact Or.inl rfl|exact Or.inr (Or.inl rfl)|exact Or.inr (Or.inr rfl))(hdb:(x==("__debug__":Str))=false:=by decide)(hcd:(x==("__classdict__":Str))=false:=by decide)
  (he:starEach (e::es) X.env=(false,eval e X.env)::starEach es X.env:=by rfl) (hpl:(backTo pos (starEach es X.env)).any (·.1)=false:=by rfl):EV X (.Call (.Name x p) (e::es) [] pos) (bt i fs tbl):=by
 intro pins s σ H Q I h;obtain⟨H₀,Z₀,Z,δ,d,hh,e0,kk⟩:=h;unfold bt at e0;obtain⟨c,e1,e0⟩:=bind_some e0;obtain⟨n,e2,e4⟩:=bind_some e0;obtain⟨g,e3,e5⟩:=bind_some e4;have:=xL e2;subst this;obtain⟨v,hσ,rv⟩:=hh.read e1;rcases hT n g e3 with⟨j,hj,CF⟩|⟨j,hj,LC⟩
 .obtain⟨fa,fd,ps,F,hns,hm,hk,hb⟩:=CF.ex
  have hva:v=.ref fa:=by
   cases rv with
   |opq o=>
    cases o with
    |fn h1=>rw[hns]at h1;cases h1;rfl
    |lam h1=>rw[hns]at h1;cases h1
    |dct h1 _=>exact absurd h1 λz=>qc z
  subst hva;refine wpAny_Call_Name_kw (bB (d8 hN hv hdb hcd pins s σ H (λv' H'=>v'=.ref fa/\H'=H) I ⟨_,hσ,rfl,rfl⟩) λu s1 hq=>?_)
  obtain⟨v',H',I1,r1,hv',hH'⟩:=hq;subst hv';subst hH';cases(show u=Value.ref fa from r1);have ht:tV X.K (os fs g) σ H' Q:=⟨H₀,Z₀,Z,δ,d,hh,e5,kk⟩;obtain⟨H₀',Z₀',Z',δ',xs,hh',ea,q⟩:=args ht;refine callWith_K (h₀:=X.base) I1.ok.mod.kin hk (bB (ha pos pins s1 σ H' (λvs H1=>io X.K g (vs++[]) H1 Q E0) I1 ⟨H₀',Z₀',Z',δ',xs,hh',ea,λvs Z1 H1 hh1 t1 r1=>?_⟩) λus s2 ⟨vs,H1,I2,r,q2⟩=>⟨I2.kIn,yW F (hr.mono hj) hb .nil vh I2 r q2⟩) he hpl
  show io X.K g (vs++[]) H1 Q E0;rw[append_nil];exact q vs Z1 H1 hh1 t1 r1
 .obtain⟨xs,ea,eg⟩:=bind_some e5
  have hva:∃(a:Addr) (ob:Obj) (c:Addr),v=.ref a/\Bp n ob c/\Z a=some (.frz ob (.cod c)):=by
   cases rv with
   |opq o=>
    cases o with
    |fn h1=>rw[LC.ns]at h1;cases h1
    |lam h1 h2 h3=>exact⟨_,_,_,rfl,h2,h3⟩
    |dct h1 _=>exact absurd h1 λz=>qc z
  obtain⟨fa,ob,c,rfl,hL,hZ⟩:=hva;refine wpAny_Call_Name_kw (bB (d8 hN hv hdb hcd pins s σ H (λv' H'=>v'=.ref fa/\H'=H) I ⟨_,hσ,rfl,rfl⟩) λu s1 hq=>?_)
  obtain⟨v',H',I1,r1,hv',hH'⟩:=hq;subst hv';subst hH';cases(show u=Value.ref fa from r1);have fnAt:∀{s2:Shared} {H2:Hp},HOk X.prog X.w H2 s2.heap->H2 fa=some (.frz ob (.cod c))->PySem.W.FnAt fa s2.heap:=λ{s2 H2} hk hf=>by
   obtain⟨qual,params,body,scope,pm,ctv,rfl,_⟩:=hL;exact⟨_,_,_,_,(hk fa _ hf).1⟩
  refine PySem.W.callWith_F (first:=[]) (fnAt I1.hok (hh.zh _ _ hZ)) (bB (ha pos pins s1 σ H' (λvs H1=>∃Z1,Same Z1 H1/\Z1 fa=some (.frz ob (.cod c))/\Reps X.K Z1 vs xs/\∀v Z' H'',New Z1 H1 Z' H''->Rep X.K Z' v d->Q v H'') I1
   ⟨H₀,Z₀,Z,δ,xs,hh,ea,λvs Z1 H1 hh1 t1 r1=>⟨Z1,hh1.zh,t1 _ _ hZ,r1,λv Z' H'' nw rv=>kk v Z' H'' (hh1.new nw) (t1.trans nw.z) rv⟩⟩) λus s2 ⟨vs,H1,I2,r,Z1,z1,z2,z3,z4⟩=>⟨fnAt I2.hok (z1 _ _ z2),?_⟩) he hpl
  rw[List.nil_append];refine wpAny_call (codeAny_mono (LC.run X.A X.stack s2 H1 Z1 fa c ob us vs xs d Q E0 (hr.mono hj) I2.env0 z1 hL z2 r z3 eg z4) λr s' hq=>?_)
  cases r with
  |error e=>exact(vh (X:=X) pins σ H1 s2 e s' I2 hq)
  |ok fl=>
   cases fl with
   |ret u=>exact I2.after hq
   |next=>exact False.elim hq
   |brk=>exact False.elim hq
   |cont=>exact False.elim hq
end
def sk:List D->Option D
 |[d]=>some d
 |_=>none
def pX:List D->Option D
 |[a,b]=>sV a b
 |_=>none
section
variable{P:Program}{w:World}{K:PySem.W.Frag}{mg:Str->Option Value}{base:Heap}
theorem CK(hns:PySem.W.nsIn K mainGlobals "<lambda> id" = some none):LamC P w K mg base "<lambda> id" 1 sk where
 ns:=hns
 run:=by
  intro A outer s H Z f c ob us vs as d Q E hr e0 zh hL hZ r rr e kk;obtain⟨qual,params,body,scope,pm,ctv,rfl,hl⟩:=hL;generalize hn:("<lambda> id":Str)=n at hl;cases hl with
  |id=>
   refine vB (k:=0) (N:=["tie"]) (ps:=["tie"]) (fb:=oV 0) ⟨rfl,rfl,rfl,by decide,rfl,λx hx=>.inl (by cases hx with|head=>rfl|tail _ h=>cases h),λy hy=>by cases hy with|head=>(intro z;cases z)|tail _ h=>cases h⟩ (λqual pm cdv ctv us hu=>?_) (λq f cdv A outer s H E hr=>aa 0) (λas d e=>?_) hr e0 zh hZ r rr e kk
   .match us,hu with
    |[u],_=>rfl
   .match as,e with
    |[a],e=>cases e;exact⟨rfl,rfl⟩
  |xor=>exact absurd hn (by decide)
theorem Ae(hns:PySem.W.nsIn K mainGlobals "<lambda> xor" = some none):LamC P w K mg base "<lambda> xor" 1 pX where
 ns:=hns
 run:=by
  intro A outer s H Z f c ob us vs as d Q E hr e0 zh hL hZ r rr e kk;obtain⟨qual,params,body,scope,pm,ctv,rfl,hl⟩:=hL;generalize hn:("<lambda> xor":Str)=n at hl;cases hl with
  |id=>exact absurd hn (by decide)
  |xor=>
   refine vB (k:=0) (N:=["tie","other"]) (ps:=["tie","other"]) (fb:=o2 (oV 0) (oV 1) sV) ⟨rfl,rfl,rfl,by decide,rfl,λx hx=>.inl (by cases hx with|head=>rfl|tail _ h=>(cases h with|head=>rfl|tail _ h=>cases h)),λy hy=>by cases hy with|head=>(intro z;cases z)|tail _ h=>(cases h with|head=>(intro z;cases z)|tail _ h=>cases h)⟩ (λqual pm cdv ctv us hu=>?_) (λq f cdv A outer s H E hr=>ax wf (aa 0) (aa 1)) (λas d e=>?_) hr e0 zh hZ r rr e kk
   .match us,hu with
    |[u,v],_=>rfl
   .match as,e with
    |[a,b],e=>exact⟨rfl,e⟩
theorem gh{k j:Nat}{c:Str}{gc:List D->Option D}{tbl:List (Str×(List D->Option D))}(hj:j<=k)(V:LamC P w K mg base c j gc)
  (h:∀n g,tbl.lookup n=some g->(∃j,j<=k/\CalF P w K mg base n j g)\/∃j,j<=k/\LamC P w K mg base n j g):∀n g,((c,gc)::tbl).lookup n=some g->(∃j,j<=k/\CalF P w K mg base n j g)\/∃j,j<=k/\LamC P w K mg base n j g:=λn g e=>by
 rw[lookup_cons]at e;split at e
 .rename_i hn
  cases e;have:n=c:=by simpa using hn
  subst this;exact .inr ⟨j,hj,V⟩
 .exact h n g e
theorem iV{k:Nat}:∀n g,([]:List (Str×(List D->Option D))).lookup n=some g->(∃j,j<=k/\CalF P w K mg base n j g)\/∃j,j<=k/\LamC P w K mg base n j g:=λ_ _ h=>by cases h
end
theorem lW{α:Type}:∀{us:List α},us.length=1->∃a,us=[a]
 |[a],_=>⟨a,rfl⟩
theorem xr{α:Type}{us:List α}(h:us.length=2):∃a b,us=[a,b]:=by
 cases us with
 |nil=>cases h
 |cons a r=>
  obtain⟨b,rfl⟩:=lW (Nat.succ.inj h);exact⟨a,b,rfl⟩
theorem z9{α:Type}{us:List α}(h:us.length=3):∃a b c,us=[a,b,c]:=by
 cases us with
 |nil=>cases h
 |cons a r=>
  obtain⟨b,c,rfl⟩:=xr (Nat.succ.inj h);exact⟨a,b,c,rfl⟩
theorem HR{α:Type}{us:List α}(h:us.length=4):∃a b c d,us=[a,b,c,d]:=by
 cases us with
 |nil=>cases h
 |cons a r=>
  obtain⟨b,c,d,rfl⟩:=z9 (Nat.succ.inj h);exact⟨a,b,c,d,rfl⟩
def DefIn(K:PySem.W.Frag)(x y:Str)(st:Stmt):Prop:=∃f fd,PySem.W.nsIn K mainGlobals x=some (some (.ref f))/\FunV K y y st f fd .none/\keepIn K (.ref f)=true
def aO(x:Str)(st:Stmt)(ps:List Str):Prop:=∀(kV doc pm:Value) (an:Option Addr) (cdv ct:Value) (us:List Value),us.length=ps.length->bindArgs (PySem.W.fnOf x x (eU st) (ck st) (aj st) .none kV doc pm an cdv ct) ⟨us,[]⟩=pure (ps.zip us)
section
variable{P:Program}{w:World}{K:PySem.W.Frag}{mg:Str->Option Value}{base h:Heap}{x y:Str}{st:Stmt}{k:Nat}{ps:List Str}
theorem DefIn.mk{f:Addr}{oc:Value}{od an:Option Addr}{osl:Array (Option Value)}{kV doc pm cdv ct:Value}(a:PySem.W.nsIn K mainGlobals x=some (some (.ref f)))(l:K.lookup f=some ⟨oc,od,.func (PySem.W.fnOf y y (eU st) (ck st) (aj st) .none kV doc pm an cdv ct),osl⟩)
  (c:codeIn K cdv y=true) (k:keepIn K (.ref f)=true):DefIn K x y st:=⟨_,_,a,vU l c k,k⟩
variable(D:DefIn K x y st)(X:K.In h)(G:h.Ns mainGlobals mg)(b:aO y st ps)
include D X G
include b
theorem DefIn.cal{g:List VL.D->Option VL.D}(ok:∀f fd,FunV K y y st f fd .none->FnOk P w K mg base dH k f fd ps (io K g)):Cal P w K mg base x k g []:=by
 obtain⟨f,fd,a,F,hk⟩:=D;exact Cal.mk0 (ok f fd F) (mg_of X G a) hk (F.binds b)
theorem DefIn.calX{g:List VL.D->Option Str}(ok:∀f fd,FunV K y y st f fd .none->FnOk P w K mg base (sS P w) k f fd ps (Hb K g)):CalX P w K mg base x k g []:=by
 obtain⟨f,fd,a,F,hk⟩:=D;exact⟨⟨_,_,_,[],[],ok f fd F,mg_of X G a,hk,F.binds b,.nil,λ_=>.nil⟩⟩
end
section
variable{P:Program}{w:World}{K:PySem.W.Frag}{mg:Str->Option Value}{base:Heap}
theorem sH{x:Str}{f c t:Addr}{fd:FuncData}{oc:Value}{od:Option Addr}{osl:Array (Option Value)}(hns:PySem.W.nsIn K mainGlobals x=some (some (.ref f)))(lk:K.lookup f=some ⟨oc,od,.func fd,osl⟩)(ht:tabIn K x=some (c,t)):fd.code=.ref c:=by
 unfold tabIn at ht;rw[hns]at ht;dsimp only at ht;rw[lk]at ht;dsimp only at ht;split at ht
 .rename_i c' hc
  split at ht
  .split at ht
   .cases ht;exact hc
   .cases ht
  .cases ht
 .cases ht
theorem Ix{x qual:Str}{st:Stmt}{f c t:Addr}{fd:FuncData}{dV:Value}{N ps:List Str}{k:Nat}{b:Sf}(hns:PySem.W.nsIn K mainGlobals x=some (some (.ref f)))(ht:tabIn K x=some (c,t))(F:FunV K x qual st f fd dV)(S:FnScope N ps (aj st))
  (hb:∀(A:Around) (outer:List Env) (s:Shared) (H:Hp) (E:XK),Room k (A.deeper (envOfC qual (aj st) s.heap.objs.size f (.ref c)))->BV (dS dH P w K mg base N qual (aj st) f (.ref c) A outer s H E).nox (ck st) b):
  FnOk P w K mg base dH (k+1) f fd ps (io K (bC N ps.length b)):=by
 obtain⟨oc,od,kV,doc,pm,an,cdv,ct,osl,rfl,lk,hcd⟩:=F.ex;have hc:cdv=.ref c:=sH hns lk ht;subst hc;refine vZ lk hcd S (λvs H Q E h=>?_) λA outer s H vs Q E hr hsp=>?_
 .obtain⟨Z,as,d,zh,r,e,_⟩:=h
  rw[r.length];unfold bC at e;split at e
  .assumption
  .cases e
 .refine⟨_,PSs.nox (hb A outer s H E hr),?_⟩
  obtain⟨Z,as,d,zh,r,e,kk⟩:=hsp;have hh:=eu (N:=N) zh r;have fin:∀{σ':St} {H' Z':Hp} {δ':Dv},Hold K H Z Z' δ' σ' H'->Same Z Z'->New Z H Z' H':=λh' z'=>⟨z',h'.h0,h'.zh,h'.zb,h'.nf⟩
  unfold bC at e;split at e
  .obtain⟨⟨fl,δ'⟩,e2,h⟩:=bind_some e
   cases fl with
   |nx=>cases h;exact⟨H,Z,Z,_,_,hh,e2,λσ' H' Z' h' z'=>kk _ Z' H' (fin h' z') .non⟩
   |rt d=>cases h;exact⟨H,Z,Z,_,_,hh,e2,λσ' H' Z' h' z' v rv=>kk v Z' H' (fin h' z') rv⟩
   |bk=>cases h
   |ct=>cases h
  .cases e
end
section
variable{P:Program}{w:World}{K:PySem.W.Frag}{mg:Str->Option Value}{base h:Heap}{x y:Str}{st:Stmt}{k:Nat}{ps:List Str}
theorem DefIn.calL(D:DefIn K x y st)(X:K.In h)(G:h.Ns mainGlobals mg)(b:aO y st ps){g:List VL.D->Option VL.D}(ok:∀f fd,PySem.W.nsIn K mainGlobals x=some (some (.ref f))->FunV K y y st f fd .none->FnOk P w K mg base dH k f fd ps (io K g)):Cal P w K mg base x k g []:=by
 obtain⟨f,fd,a,F,hk⟩:=D;exact Cal.mk0 (ok f fd a F) (mg_of X G a) hk (F.binds b)
end
theorem Eh{k:Nat}{l:PySem.W.OpenLaw}{q:Program}{loose:List Str}{XP:(Str->Option Value)->Heap->Prop}{YP:World->Heap->Prop}{d:DefRec}{K:Params->PySem.W.Frag}(hn:l.most=some 63)(hr:Room k callerA)(hdf:d.params.defaults=[])
  (hY:∀(w:World) (h:Heap),YP w h->(K w.params).In h)
  (F:∀(w:World) (mg:Str->Option Value) (fa:Addr) (h:Heap),(K w.params).In h->h.Ns mainGlobals mg->mg d.name=some (.ref fa)->
   ∃fd:FuncData,(∀(s:Shared) (u:Value),BindsTo s fd ⟨[u],[]⟩ [("script",u)])/\∀base:Heap,(K w.params).In base->base.Ns mainGlobals mg->FnOk l.prog w (K w.params) mg base dH k fa fd ["script"] (qL (K w.params)))
  (hTd:∀(w:World),(lamDefs.all λx=>(tabIn (K w.params) x).isNone||((recsOf q).find? (λe=>e.name==x)).isSome)=true) (hTn:∀(w:World),((cL (K w.params)).all λP=>((K w.params).lookup P).isNone)=true):
  PySem.W.WalkO q loose XP YP l.row.toRowW d [] (λf vs=>PySem.call f vs):=
 GR hn hr hdf hY F (λw x hx=>by
  have:=List.all_eq_true.mp (hTd w) x hx;rcases Bool.or_eq_true_iff.mp this with z|z
  .exact .inl (Option.isNone_iff_eq_none.mp z)
  .exact .inr (Option.isSome_iff_exists.mp z)) λw P hP=>Option.isNone_iff_eq_none.mp (List.all_eq_true.mp (hTn w) P hP)
end VL
namespace VL
open PySem PySem.Spec PyProof.Rows L2
open AutoSeq1 (wpAny_loadPart')
end VL
namespace VL
open PySem PySem.Spec PyProof.Rows L2
def LF(z:Bool):D->D->Option D
 |.bool a,.bool b=>some (.bool (z != (a==b)))
 |_,_=>none
@[simp] theorem Ia(z a b:Bool):LF z (.bool a) (.bool b)=some (.bool (z != (a==b))):=rfl
end VL
namespace L2
open PySem PySem.Spec PyProof.Rows
open PySem.F (slot_dict_get)
open List (any_cons find?_cons map_cons)
section
variable{κ:Type}[DecidableEq κ]
def jc(kvs:List (κ × V))(k:κ):Option V:=(kvs.find? λkv=>decide (kv.1=k)).map (·.2)
def fU(kvs:List (κ × V))(k:κ)(v:V):List (κ × V):=
 if(kvs.any λkv=>decide (kv.1=k))=true then kvs.map (λkv=>if kv.1=k then(kv.1,v)else kv)else kvs++[(k,v)]
theorem gH{p:κ × V}{r:List (κ × V)}{k:κ}(e:p.1=k):jc (p::r) k=some p.2:=by simp[jc,find?_cons,e]
theorem gI{p:κ × V}{r:List (κ × V)}{k:κ}(e:¬p.1=k):jc (p::r) k=jc r k:=by simp[jc,find?_cons,e]
theorem qD(k:κ):∀kvs:List (κ × V),(kvs.any λkv=>decide (kv.1=k))=(jc kvs k).isSome
 |[]=>rfl
 |p::r=>by
  rw[any_cons];by_cases e:p.1=k
  .simp only[gH e,decide_eq_true e,Bool.true_or,Option.isSome_some]
  .rw[gI e,decide_eq_false e,Bool.false_or];exact qD k r
theorem g6(kvs:List (κ × V))(k:κ)(v:V):(fU kvs k v).length<=kvs.length+1:=by
 unfold fU;split
 .rw[List.length_map];lia
 .rw[List.length_append,List.length_cons,List.length_nil];lia
theorem RelO.isSome_eq{o:Option V}{u:Option Value}(r:RelO o u):o.isSome=u.isSome:=by
 cases o with
 |none=>cases u with
  |none=>rfl
  |some _=>exact(show False from r).elim
 |some _=>cases u with
  |none=>exact(show False from r).elim
  |some _=>rfl
theorem RelO.getD{o:Option V}{u:Option Value}{d:V}{d':Value}(r:RelO o u)(rd:RelV d d'):RelV (o.getD d) (u.getD d'):=by
 cases o with
 |none=>cases u with
  |none=>exact rd
  |some _=>exact(show False from r).elim
 |some _=>cases u with
  |none=>exact(show False from r).elim
  |some _=>exact r
theorem KV.val{kvs:List (κ × V)}{vs:List (κ × Value)}(r:KV kvs vs)(k:κ):RelO (jc kvs k) (valueAt vs k):=by
 unfold KV at r
 induction r with
 |nil=>exact True.intro
 | @cons p q ps qs h t ih=>
  obtain⟨h1,h2⟩:=h;by_cases e:p.1=k
  .have e':q.1=k:=h1.symm.trans e
   have b:valueAt (q::qs) k=some q.2:=by simp[valueAt,find?_cons,e']
   rw[gH e,b];exact h2
  .have e':¬q.1=k:=λz=>e (h1.trans z)
   have b:valueAt (q::qs) k=valueAt qs k:=by simp[valueAt,find?_cons,e']
   rw[gI e,b];exact ih
theorem KV.any{kvs:List (κ × V)}{vs:List (κ × Value)}(r:KV kvs vs)(k:κ):(kvs.any λkv=>decide (kv.1=k))=vs.any λkv=>decide (kv.1=k):=by
 unfold KV at r
 induction r with
 |nil=>rfl
 |cons h t ih=>rw[any_cons,any_cons,ih,h.1]
theorem KV.repl{kvs:List (κ × V)}{vs:List (κ × Value)}(r:KV kvs vs)(k:κ){y:V}{u:Value}(ry:RelV y u):
  KV (kvs.map λkv=>if kv.1=k then(kv.1,y)else kv) (vs.map λkv=>if kv.1=k then(kv.1,u)else kv):=by
 unfold KV at r ⊢
 induction r with
 |nil=>exact .nil
 | @cons p q ps qs h t ih=>
  rw[map_cons,map_cons];refine .cons ?_ ih;obtain⟨h1,h2⟩:=h;by_cases e:p.1=k
  .rw[if_pos e,if_pos (h1.symm.trans e)];exact⟨h1,ry⟩
  .rw[if_neg e,if_neg (λz=>e (h1.trans z))];exact⟨h1,h2⟩
theorem KV.put{kvs:List (κ × V)}{vs:List (κ × Value)}(r:KV kvs vs)(k:κ){y:V}{u:Value}(ry:RelV y u):KV (fU kvs k y) (stored vs k u):=by
 unfold fU stored;rw[r.any k];by_cases e:(vs.any λkv=>decide (kv.1=k))=true
 .rw[if_pos e,if_pos e];exact r.repl k ry
 .rw[if_neg e,if_neg e];exact Paired.snoc r ⟨rfl,ry⟩
theorem KV.length{kvs:List (κ × V)}{vs:List (κ × Value)}(r:KV kvs vs):kvs.length=vs.length:=Paired.length r
end
theorem oG{P:Program}{w:World}{k:aw}{u:Value}(r:RelV (kV k) u):(aF P w).is k u=true:=by
 cases k with
 |inl i=>obtain⟨t,e⟩:=(show ∃t,u=Value.int i t from r);subst e;exact rK P w i t
 |inr x=>obtain⟨t,e⟩:=(show ∃t,u=Value.str x t from r);subst e;exact rJ P w x t
theorem oH{P:Program}{w:World}:∀{ks:List aw} {us:List Value},Vals (ks.map kV) us->ItemsAre (aF P w) ks us
 |[],_,r=>by rw[List.map_nil]at r;cases r;exact .nil
 |k::ks,_,r=>by
  rw[map_cons]at r;cases r with
  |cons h t=>exact .cons (oG h) (oH t)
abbrev KT(H:Hp):List (List aw×V)->List (List aw×Addr×Value)->Prop:=Paired λp q=>p.1=q.1/\H q.2.1=some (.tup (p.1.map kV))/\RelV p.2 q.2.2
theorem KT.val{H:Hp}{kvs:List (List aw×V)}{xs:List (List aw×Addr×Value)}(r:KT H kvs xs)(k:List aw):RelO (jc kvs k) ((atKey xs k).map (·.2)):=by
 induction r with
 |nil=>exact True.intro
 | @cons p q ps qs h t ih=>
  obtain⟨h1,_,h2⟩:=h;by_cases e:p.1=k
  .have e':q.1=k:=h1.symm.trans e
   have b:atKey (q::qs) k=some q.2:=by simp[atKey,find?_cons,e']
   rw[gH e,b];exact h2
  .have e':¬q.1=k:=λz=>e (h1.trans z)
   have b:atKey (q::qs) k=atKey qs k:=by simp[atKey,find?_cons,e']
   rw[gI e,b];exact ih
theorem KT.repl{H:Hp}{kvs:List (List aw×V)}{xs:List (List aw×Addr×Value)}(r:KT H kvs xs)(k:List aw){y:V}{u:Value}(ry:RelV y u):
  KT H (kvs.map λkv=>if kv.1=k then(kv.1,y)else kv) (xs.map (putAt k u)):=by
 induction r with
 |nil=>exact .nil
 | @cons p q ps qs h t ih=>
  rw[map_cons,map_cons];refine .cons ?_ ih;obtain⟨h1,h2,h3⟩:=h;unfold putAt;by_cases e:p.1=k
  .rw[if_pos e,if_pos (h1.symm.trans e)];exact⟨h1,h2,ry⟩
  .rw[if_neg e,if_neg (λz=>e (h1.trans z))];exact⟨h1,h2,h3⟩
theorem KT.put{H:Hp}{kvs:List (List aw×V)}{xs:List (List aw×Addr×Value)}(r:KT H kvs xs)(k:List aw){b:Addr}{y:V}{u:Value}(hb:H b=some (.tup (k.map kV)))(ry:RelV y u):
  KT H (fU kvs k y) (storedH xs k b u):=by
 have e:(kvs.any λkv=>decide (kv.1=k))=(atKey xs k).isSome:=by
  rw[qD,(r.val k).isSome_eq,Option.isSome_map]
 unfold fU storedH;rw[e];by_cases q:(atKey xs k).isSome=true
 .rw[if_pos q,if_pos q];exact r.repl k ry
 .rw[if_neg q,if_neg q];exact Paired.snoc r ⟨rfl,hb,ry⟩
theorem KT.keeps{H H':Hp}{kvs:List (List aw×V)}{xs:List (List aw×Addr×Value)}(r:KT H kvs xs)(ht:∀b ys,H b=some (.tup ys)->H' b=some (.tup ys)):KT H' kvs xs:=
 Paired.mapP r λ_ _ z=>⟨z.1,ht _ _ z.2.1,z.2.2⟩
section
variable{P:Program}{w:World}{H:Hp}{h:Heap}{a:Addr}
theorem DB{u:HO}(ok:HOk P w H h)(e:Rd H a u):ObjOk P w H h a u:=e.ok ok
theorem kA{kvs:List (aw×V)}(ok:HOk P w H h)(e:Rd H a (.dK kvs)):kvs.length<=sizeLine/\(a==sysModules)=false/\∃vs,KV kvs vs/\h.DictOf (aF P w) a vs:=
 show ObjOk P w H h a (.dK kvs)from DB ok e
theorem ID{kvs:List (aw×V)}(ok:HOk P w H h)(e:H a=some (.dK kvs)):kvs.length<=sizeLine/\(a==sysModules)=false/\∃vs,KV kvs vs/\h.DictOf (aF P w) a vs:=kA ok (.inl e)
theorem ma{ks:List aw}(ok:HOk P w H h)(e:H a=some (.tup (ks.map kV))):(tupleKind (aF P w)).is h ks a:=by
 obtain⟨_,its,r,⟨o,h1,h2,n,h3⟩,_⟩:=(show ObjOk P w H h a (.tup (ks.map kV))from ok a _ e);exact⟨o,its.toArray,n,h1,h2,h3,by simpa using oH r⟩
theorem oY{kvs:List (List aw×V)}(ok:HOk P w H h)(e:Rd H a (.dT kvs)):kvs.length<=sizeLine/\(a==sysModules)=false/\
  ∃xs,KT H kvs xs/\h.DictOfH (tupleKind (aF P w)) a xs:=by
 obtain⟨z,y,xs,r,o,es,ep,h1,h2,h3,h4,h5⟩:=(show ObjOk P w H h a (.dT kvs)from DB ok e);refine⟨z,y,xs,r,o,es,ep,h1,h2,h3,h4,λx hx=>?_,h5⟩
 have all:∀{l:List (List aw×V)} {m:List (List aw×Addr×Value)},KT H l m->∀x∈m,(tupleKind (aF P w)).is h x.1 x.2.1:=by
  intro l m q
  induction q with
  |nil=>intro x hx;exact nomatch hx
  | @cons p q ps qs hq t ih=>
   intro x hx;rcases List.mem_cons.mp hx with e|hx
   .subst e
    exact ma ok (by rw[<-hq.1];exact hq.2.1)
   .exact ih x hx
 exact all r x hx
theorem IC{kvs:List (List aw×V)}(ok:HOk P w H h)(e:H a=some (.dT kvs)):kvs.length<=sizeLine/\(a==sysModules)=false/\
  ∃xs,KT H kvs xs/\h.DictOfH (tupleKind (aF P w)) a xs:=oY ok (.inl e)
end
def DGet(H:Hp)(a:Addr)(y:V)(r:Option V):Prop:=
 (∃kvs k,Rd H a (.dK kvs)/\y=kV k/\r=jc kvs k)\/∃kvs k b,Rd H a (.dT kvs)/\y=.ref b/\H b=some (.tup (k.map kV))/\r=jc kvs k
def DPut(H:Hp)(a:Addr)(y v:V)(H':Hp):Prop:=
 (∃kvs k,H a=some (.dK kvs)/\y=kV k/\kvs.length<sizeLine/\H'=upd H a (.dK (fU kvs k v)))\/
 ∃kvs k b,H a=some (.dT kvs)/\y=.ref b/\H b=some (.tup (k.map kV))/\kvs.length<sizeLine/\H'=upd H a (.dT (fU kvs k v))
theorem DGet.k{H:Hp}{a:Addr}{kvs:List (aw×V)}{k:aw}(e:H a=some (.dK kvs)):DGet H a (kV k) (jc kvs k):=.inl ⟨kvs,k,.inl e,rfl,rfl⟩
theorem DPut.k{H:Hp}{a:Addr}{kvs:List (aw×V)}{k:aw}{v:V}(e:H a=some (.dK kvs))(hl:kvs.length<sizeLine):DPut H a (kV k) v (upd H a (.dK (fU kvs k v))):=.inl ⟨kvs,k,e,rfl,hl,rfl⟩
section
variable{X:Cx}{pins:List (Addr×Obj)}{σ:St}{H:Hp}{s:Shared}{a:Addr}{y v:V}{u r:Value}{o:Option V}{A:Around}{E:Value->Shared->Prop}
theorem Inv.big(I:Inv X pins σ H s):sysModules<s.heap.objs.size:=by
 have h:mainGlobals<s.heap.objs.size:=(I.mod.glob.keeps I.bk).lt;exact Nat.lt_trans (by decide) h
theorem xX{Q:Value->Shared->Prop}(hu:A.units+1<cLine)(I:Inv X pins σ H s)(g:DGet H a y (some v))(ry:RelV y u)(h:∀w' s',Inv X pins σ H s'->RelV v w'->Q w' s'):
  wpAny (model X.prog X.w) A (getItem (.ref a) u) Q E s:=by
 rcases g with⟨kvs,k,e,ey,l⟩|⟨kvs,k,b,e,ey,eb,l⟩
 .subst ey
  obtain⟨z,hd,vs,rel,dd⟩:=kA I.hok e;obtain⟨w',hw,rw'⟩:=RelO.some_of (v:=v) (o:=valueAt vs k) (by rw[l];exact rel.val k);exact wpAny_getItem_of (oG ry) dd.mapOf hw (h w' _ (I.tok _) rw')
 .subst ey
  cases(show u=Value.ref b from ry);obtain⟨z,hd,xs,rel,dd⟩:=oY I.hok e;obtain⟨w',hw,rw'⟩:=RelO.some_of (v:=v) (o:=(atKey xs k).map (·.2)) (by rw[l];exact rel.val k);obtain⟨p,hp,hp2⟩:=Option.map_eq_some_iff.mp hw;refine wpAny_getItem_heap (tupleKind_room_in1 hu) (ma I.hok eb) dd hp ?_;rw[hp2];exact h w' _ (I.tok _) rw'
theorem Ga{Q:Value->Shared->Prop}(hu:A.units+1<cLine)(I:Inv X pins σ H s)(g:DGet H a y o)(ry:RelV y u)(h:∀s',Inv X pins σ H s'->Q (.bool o.isSome) s'):
  wpAny (model X.prog X.w) A (compareOp .In u (.ref a)) Q E s:=by
 rcases g with⟨kvs,k,e,ey,l⟩|⟨kvs,k,b,e,ey,eb,l⟩
 .subst ey
  obtain⟨z,hd,vs,rel,dd⟩:=kA I.hok e;refine wpAny_in_of (oG ry) hd dd.mapOf ?_;rw[<-(rel.val k).isSome_eq,<-l];exact h _ (I.tok _)
 .subst ey
  cases(show u=Value.ref b from ry);obtain⟨z,hd,xs,rel,dd⟩:=oY I.hok e;refine wpAny_in_heap (tupleKind_room_in1 hu) (ma I.hok eb) hd dd ?_;have q:=(rel.val k).isSome_eq;rw[Option.isSome_map]at q;rw[<-q,<-l];exact h _ (I.tok _)
theorem wg{h':Heap}{t':Nat}{ob:HO}(I:Inv X pins σ H s)(mu:IS (H a))(hs:Heap.SameBut a s.heap h')(he:∃q,h'.get? a=some q)(new:ObjOk X.prog X.w (upd H a ob) h' a ob):
  Inv X pins σ (upd H a ob) {s with heap:=h',toks:=t'}:=
 I.write (x:=a) (e:=a) mu (.inl rfl) (λb q hb z=>(hs.2 b hb).trans z) he new
theorem AS{P:Program}{w:World}{H':Hp}{h':Heap}{kvs:List (aw×V)}{vs:List (aw×Value)}(z:kvs.length<=sizeLine)(hd:(a==sysModules)=false)(rel:KV kvs vs)(dd:h'.DictOf (aF P w) a vs):
  ObjOk P w H' h' a (.dK kvs):=⟨z,hd,vs,rel,dd⟩
theorem xW{H':Hp}{Q:Unit->Shared->Prop}(hu:A.units+1<cLine)(I:Inv X pins σ H s)(g:DPut H a y v H')(ry:RelV y u)(rv:RelV v r)(h:∀s',Inv X pins σ H' s'->Q () s'):
  wpAny (model X.prog X.w) A (setItem (.ref a) u r) Q E s:=by
 rcases g with⟨kvs,k,e,ey,l,eH⟩|⟨kvs,k,b,e,ey,eb,l,eH⟩
 .subst ey eH
  obtain⟨z,hd,vs,rel,dd⟩:=ID I.hok e;have hz:vs.length<=sizeLine:=by rw[<-rel.length];exact z
  have hl:(fU kvs k v).length<=sizeLine:=by have:=g6 kvs k v;lia
  refine wpAny_setItem_pairs (hsz:=hz) (oG ry) dd λh' dd' hs=>h _ ?_
  have he:∃q,h'.get? a=some q:=let ⟨q,_,_,hq,_⟩:=dd'; ⟨q,hq⟩
  exact wg I (by rw[e];exact True.intro) hs he (AS hl hd (rel.put k rv) dd')
 .subst ey eH
  cases(show u=Value.ref b from ry);obtain⟨z,hd,xs,rel,dd⟩:=IC I.hok e;have hz:xs.length<=sizeLine:=by rw[<-Paired.length rel];exact z
  have hl:(fU kvs k v).length<=sizeLine:=by have:=g6 kvs k v;lia
  refine wpAny_setItem_heap (hsz:=hz) (tupleKind_room_in1 hu) (ma I.hok eb) dd λh' dd' hs=>h _ ?_
  obtain⟨q,es,ep,hq,h2,h3,h4,_,h5⟩:=dd';refine wg I (by rw[e];exact True.intro) hs ⟨q,hq⟩ ⟨hl,hd,_,(rel.put k eb rv).keeps λc ys ec=>?_,q,es,ep,hq,h2,h3,h4,h5⟩
  rw[aq (HH ec e (λz=>nomatch z))];exact ec
end
def Gw(i:Expr):Prop:=∀ov iv,subscripted i false ov iv=operate [ov,iv] (getItem ov iv)
theorem BR{prog:Program}{w:World}{A:Around}{E:Value->Shared->Prop}{s:Shared}{env:Env}{value slice:Expr}{pos:Pos}{T id:String}{Q:Value->Shared->Prop}
  (hl:typeLookup (.type T) "__getitem__" = pure (some (.builtin id))) (hs:Gw slice)
  (h:wpAny (model prog w) A (eval value env) (λo s₁=>wpAny (model prog w) A (eval slice env) (λi s₂=>s₂.TypeIs o T/\wpAny (model prog w) A (getItem o i) Q E s₂) E s₁) E s):
  wpAny (model prog w) A (eval (.Subscript value slice pos) env) Q E s:=by
 refine Subscript_ (wpAny_mono h (λo s₁ h₁=>wpAny_mono h₁ (λi s₂ h₂=>?_) λ_ _ x=>x) λ_ _ x=>x)
 obtain⟨hT,h₂⟩:=h₂;unfold subscriptTail;refine wpAny_bind ?_;rw[getitemInPython_of_ne hT.not_modules];refine wpAny_bind (wpAny_specialOf hT hl ?_);have fin:wpAny (model prog w) A (subscripted slice false o i) (λr s₃=>wpAny (model prog w) A (letTemporaryGo value o r >>= λ_=>pure r) Q E s₃) E s₂:=by
  rw[hs o i];exact wpAny_operating (wpAny_mono h₂ (λr s₃ h₃=>wpAny_bind (wpAny_letTemporaryGo (wpAny_pure h₃))) λ_ _ x=>x)
 first
  |exact wpAny_pure (wpAny_bind fin)
  |exact wpAny_bind (wpAny_pure (wpAny_bind fin))
  |exact wpAny_bind fin
theorem sB{X:Cx}{pins:List (Addr×Obj)}{σ:St}{H:Hp}{s:Shared}{a:Addr}{y:V}{o:Option V}(I:Inv X pins σ H s)(g:DGet H a y o):s.TypeIs (.ref a) "dict":=by
 rcases g with⟨kvs,k,e,_,_⟩|⟨kvs,k,b,e,_,_,_⟩
 .obtain⟨_,_,vs,_,dd⟩:=kA I.hok e
  exact dd.typeIs
 .obtain⟨_,_,xs,_,dd⟩:=oY I.hok e
  exact dd.typeIs
def G4(td ty:TE):TE:=λσ H Q=>td σ H λx H1=>ty σ H1 λy H2=>∃a v,x=.ref a/\DGet H2 a y (some v)/\Q v H2
def Hg(td ty tv:TE):TS:=λD σ H=>tv σ H λv H1=>td σ H1 λx H2=>ty σ H2 λy H3=>∃a H4,x=.ref a/\DPut H3 a y v H4/\D.nx σ H4
section
variable{X:Cx}{o i e value:Expr}{pos pos' tpos:Pos}{td ty tv:TE}
theorem Cl(hu:X.A.units+1<cLine)(ho:PE X o td)(hi:PE X i ty)(hs:Gw i):PE X (.Subscript o i pos) (G4 td ty):=by
 intro pins s σ H Q I h;refine BR PySem.F.slot_dict_getitem.lookup hs (bB (ho pins s σ H _ I h) λu s1 ⟨x,H1,I1,rx,q1⟩=>bB (hi pins s1 σ H1 _ I1 q1) λiv s2 ⟨y,H2,I2,ry,a,v,ex,g,q2⟩=>?_)
 subst ex;obtain rfl:u=Value.ref a:=rx;exact⟨sB I2 g,xX hu I2 g ry λw' s3 I3 rw'=>⟨v,H2,I3,rw',q2⟩⟩
theorem u9(hu:X.A.units+1<cLine)(ho:PE X o td)(hi:PE X i ty)(hv:PE X value tv)(hs:swapsWith value (some (.Subscript o i pos')) pos.line X.env=pure false):
  PS X (.Assign [.Subscript o i pos'] value pos) (Hg td ty tv):=by
 intro pins s σ H D I h;refine wpAny_Assign_Subscript (bB (hv pins s σ H _ I h) λr s1 ⟨v,H1,I1,rv,q1⟩=>bB (ho pins s1 σ H1 _ I1 q1) λu s2 ⟨x,H2,I2,rx,q2⟩=>bB (hi pins s2 σ H2 _ I2 q2) λiv s3 ⟨y,H3,I3,ry,a,H4,ex,g,q3⟩=>?_) hs
 subst ex;obtain rfl:u=Value.ref a:=rx;exact xW hu I3 g ry rv λs4 I4=>⟨σ,H4,I4,q3⟩
end
theorem AT{P:Program}{w:World}{H:Hp}(h:Heap)(hb:sysModules<h.objs.size):ObjOk P w H (h.push {cls:=.type "dict",data:=.dict #[]}) h.objs.size (.dK []):=
 ⟨Nat.zero_le _,beq_eq_false_iff_ne.mpr (Ne.symm (Nat.ne_of_lt hb)),[],.nil,Heap.DictOf.new h⟩
def Eu:TE:=λ_ H Q=>∀p,H p=none->Q (.ref p) (upd H p (.dK []))
section
variable{X:Cx}{pos:Pos}
theorem zw:PE X (.Dict [] [] pos) Eu:=λpins s σ H Q I h=>
 wpAny_Dict_empty ⟨.ref s.heap.objs.size,_,I.laid (a:=s.heap.objs.size) (o:=.dK []) (t':=s.toks) (λ_ _ q=>Heap.get?_push_of_some _ q) (Nat.le_refl _) (AT s.heap I.big),rfl,h _ (I.hok.fresh (Nat.le_refl _))⟩
end
structure M2 (X:Cx) (o:Expr) (m:Str) (apos:Pos) (e f:Expr) (cpos:Pos):Prop where
 base:attributeBase o m X.env (eval o X.env)=eval o X.env
 few:((backTo cpos (starEach [e,f] X.env)).all (λx=>!x.1)&&(backToKw cpos (keywordEach [] X.env)).all (λx=>x.1.isSome)
  && decide (([e,f]:List Expr).length+([]:List Keyword).length+(if([]:List Keyword).isEmpty then 0 else 1)<30))=true
 line:(apos.endLine==cpos.line)=true
 trees:backTo cpos (starEach [e,f] X.env)=[(false,eval e X.env),(false,eval f X.env)]
def Lf(H:Hp)(a:Addr):Prop:=(∃kvs,Rd H a (.dK kvs))\/∃kvs,Rd H a (.dT kvs)
theorem Ar{X:Cx}{pins:List (Addr×Obj)}{σ:St}{H:Hp}{s:Shared}{a:Addr}(I:Inv X pins σ H s)(d:Lf H a):
  s.TypeIs (.ref a) "dict"/\ (∀b,Value.ref a=.ref b->∃ob,s.heap.get? b=some ob/\ob.dict=none)/\(a==sysModules)=false:=by
 rcases d with⟨kvs,e⟩|⟨kvs,e⟩
 .obtain⟨_,hd,vs,_,dd⟩:=kA I.hok e
  refine⟨dd.typeIs,λb q=>?_,hd⟩
  cases q;obtain⟨ob,_,_,h1,h2,_⟩:=dd;exact⟨ob,h1,h2.2.1⟩
 .obtain⟨_,hd,xs,_,dd⟩:=oY I.hok e
  refine⟨dd.typeIs,λb q=>?_,hd⟩
  cases q;obtain⟨ob,_,_,h1,h2,_⟩:=dd;exact⟨ob,h1,h2.2.1⟩
section
variable{X:Cx}{pins:List (Addr×Obj)}{σ:St}{H:Hp}{s:Shared}{a:Addr}{y d:V}{u r:Value}{o:Option V}{A:Around}{E:Value->Shared->Prop}
theorem Gb{Q:Value->Shared->Prop}(hu:A.units+1<cLine)(I:Inv X pins σ H s)(g:DGet H a y o)(ry:RelV y u)(rd:RelV d r)(h:∀w' s',Inv X pins σ H s'->RelV (o.getD d) w'->Q w' s'):
  wpAny (model X.prog X.w) A (call (.builtin "dict.get") [.ref a,u,r]) Q E s:=by
 rcases g with⟨kvs,k,e,ey,l⟩|⟨kvs,k,b,e,ey,eb,l⟩
 .subst ey
  obtain⟨z,hd,vs,rel,dd⟩:=kA I.hok e;refine call_meetsIn slot_dict_get dd.typeIs PySem.F.entry_dict_get (PySem.F.args_dict_get_3 _ _ _) (meets_dict_get_default (aF X.prog X.w) a (oG ry) hd r) ⟨_,dd.mapOf,h _ _ (I.tok _) ?_⟩;rw[l];exact(rel.val k).getD rd
 .subst ey
  cases(show u=Value.ref b from ry);obtain⟨z,hd,xs,rel,dd⟩:=oY I.hok e;refine call_meetsIn slot_dict_get dd.typeIs PySem.F.entry_dict_get (PySem.F.args_dict_get_3 _ _ _) (meetsH_dict_get_default (tupleKind (aF X.prog X.w)) a b hd r) ⟨tupleKind_room_in1 hu,k,xs,ma I.hok eb,dd,h _ _ (I.tok _) ?_⟩;rw[l];exact(rel.val k).getD rd
end
def Ev(td ty tx:TE):TE:=λσ H Q=>td σ H λx H1=>∃a,x=.ref a/\Lf H1 a/\ty σ H1 λy H2=>tx σ H2 λz H3=>∃o,DGet H3 a y o/\Q (o.getD z) H3
section
variable{X:Cx}{o e f:Expr}{apos cpos:Pos}{td ty tx:TE}
theorem zx(hu:X.A.units+1<cLine)(ho:PE X o td)(he:PE X e ty)(hf:PE X f tx)(m:M2 X o "get" apos e f cpos):PE X (.Call (.Attribute o "get" apos) [e,f] [] cpos) (Ev td ty tx):=by
 intro pins s σ H Q I h;refine wpAny_Call_method m.base m.few m.line PySem.F.plainAttrs_dict slot_dict_get PySem.F.type_dict_get (bB (ho pins s σ H _ I h) λu s1 ⟨x,H1,I1,rx,a,ex,d,q1⟩=>?_)
 subst ex;obtain rfl:u=Value.ref a:=rx;obtain⟨t1,t2,_⟩:=Ar I1 d;refine⟨t1,t2,?_⟩;rw[m.trees];refine Calls.callWith_builtin rfl (Calls.evalArgs_plain (Calls.spliced_cons (bB (he pins s1 σ H1 _ I1 q1) λiv s2 ⟨y,H2,I2,ry,q2⟩=>
  Calls.spliced_cons (bB (hf pins s2 σ H2 _ I2 q2) λfv s3 ⟨z,H3,I3,rz,ov,g,q3⟩=>Calls.spliced_nil ?_))))
 exact Gb hu I3 g ry rz λw' s4 I4 rw'=>⟨_,H3,I4,rw',q3⟩
end
end L2
namespace Att
open PySem PySem.W PySem.Calls PyProof.Rows
end Att
namespace L2
open PySem PySem.Spec PyProof.Rows
end L2
namespace VL
open PySem PySem.Spec PyProof.Rows L2
open PySem.W (kas_ask kas_bin kas_count kas_place kas_rev kas_sort kas_tail3)
open List (ext_getElem? find?_cons getD_eq_getElem?_getD getElem?_eq_none getElem?_map getElem?_set_ne getElem?_set_self length_cons length_map map_append map_cons map_map mem_cons mem_cons_of_mem mem_cons_self not_mem_nil)
open Nat (le_refl le_succ lt_irrefl lt_succ_self ne_of_gt ne_of_lt zero_le)
open Int (toNat_natCast)
open PySem.Heap (get?_push_of_some get?_push_size get?_update_self lt_size size_push)
open Array (getElem?_toList length_toList)
def mf:D->Option aw
 |.int i=>some (.inl i)
 |.str x=>some (.inr x)
 |_=>none
@[simp] theorem HX(i:Int):mf (.int i)=some (.inl i):=rfl
def B2:Option Sl->Option (List (aw×D))
 |some (.own (.d es))=>some es
 |_=>none
@[simp] theorem JQ(es:List (aw×D)):B2 (some (.od es))=some es:=rfl
def eL(es:List (aw×D))(k:aw):Option D:=(es.find? λp=>decide (p.1=k)).map (·.2)
def jl(es:List (aw×D))(k:aw)(d:D):List (aw×D):=if(es.any λp=>decide (p.1=k))=true then es.map (λp=>if p.1=k then(p.1,d)else p)else es++[(k,d)]
def Dz(i:Nat):Sf:=λδ=>some (.nx,δ.set i (.od []))
def iR(i:Nat)(fk fx:Dv->Option D):Dv->Option D:=λδ=>(B2 δ[i]?).bind λes=>(fk δ).bind λk=>(fx δ).bind λy=>(mf k).bind λk=>some ((eL es k).getD y)
def gM(i:Nat)(fk fv:Dv->Option D):Sf:=λδ=>(fv δ).bind λv=>(B2 δ[i]?).bind λes=>(fk δ).bind λk=>(mf k).bind λk=>if es.length<sizeLine then some (.nx,δ.set i (.od (jl es k v)))else none
theorem iO{o:Option Sl}{es:List (aw×D)}(h:B2 o=some es):o=some (.od es):=by
 cases o with
 |none=>cases h
 |some x=>
  cases x with
  |own c=>
   cases c with
   |l ds=>cases h
   |d fs=>cases h;rfl
  |un=>cases h
  |fz d=>cases h
  |fr _=>cases h
theorem g7{K:Fg}{Z:Hp}{v:V}{d:D}{k:aw}(r:Rep K Z v d)(h:mf d=some k):v=kV k:=by
 cases d with
 |int i=>cases h;exact r.int_eq
 |str x=>cases h;exact r.str_eq
 |_=>cases h
theorem fA{K:Fg}{Z:Hp}{kvs:List (aw×V)}{es:List (aw×D)}(h:iA K Z kvs es):kvs.length=es.length:=by
 have:=congrArg List.length h.1;rw[length_map,length_map]at this;exact this.symm
theorem ip{K:Fg}{Z:Hp}{kv:aw×V}{kvs:List (aw×V)}{es:List (aw×D)}(h:iA K Z (kv::kvs) es):∃d fs,es=(kv.1,d)::fs/\Rep K Z kv.2 d/\iA K Z kvs fs:=by
 obtain⟨h1,h2⟩:=h;cases es with
 |nil=>cases h1
 |cons e fs=>
  obtain⟨k,d⟩:=e;rw[map_cons,map_cons,List.cons.injEq]at h1;cases h2 with
  |cons r q=>exact⟨d,fs,by rw[<-h1.1],r,h1.2,q⟩
theorem qY{K:Fg}{Z:Hp}(k:aw):∀{kvs:List (aw×V)} {es:List (aw×D)},iA K Z kvs es->(jc kvs k=none/\eL es k=none)\/∃v d,jc kvs k=some v/\eL es k=some d/\Rep K Z v d
 |[],es,h=>by
  have:es=[]:=List.length_eq_zero_iff.mp (fA h).symm;subst this;exact .inl ⟨rfl,rfl⟩
 |kv::kvs,es,h=>by
  obtain⟨d,fs,rfl,r,q⟩:=ip h;by_cases e:kv.1=k
  .exact .inr ⟨kv.2,d,gH e,by simp[eL,find?_cons,e],r⟩
  .rw[gI e]
   have:eL ((kv.1,d)::fs) k=eL fs k:=by simp[eL,find?_cons,e]
   rw[this];exact qY k q
theorem lE{K:Fg}{Z:Hp}{kvs:List (aw×V)}{es:List (aw×D)}(h:iA K Z kvs es)(k:aw){v:V}{d:D}(r:Rep K Z v d):iA K Z (fU kvs k v) (jl es k d):=by
 have any:∀{kvs:List (aw×V)} {es:List (aw×D)},iA K Z kvs es->(kvs.any λkv=>decide (kv.1=k))=es.any λp=>decide (p.1=k):=by
  intro kvs
  induction kvs with
  |nil=>
   intro es h;have:es=[]:=List.length_eq_zero_iff.mp (fA h).symm;subst this;rfl
  |cons kv kvs ih=>
   intro es h;obtain⟨d,fs,rfl,_,q⟩:=ip h;rw[List.any_cons,List.any_cons,ih q]
 unfold fU jl;rw[any h];by_cases a:(es.any λp=>decide (p.1=k))=true
 .rw[if_pos a,if_pos a]
  clear a any;revert es
  induction kvs with
  |nil=>
   intro es h;have:es=[]:=List.length_eq_zero_iff.mp (fA h).symm;subst this;exact⟨rfl,.nil⟩
  |cons kv kvs ih=>
   intro es h;obtain⟨d',fs,rfl,r',q⟩:=ip h;obtain⟨i1,i2⟩:=ih q;by_cases e:kv.1=k
   .rw[map_cons,map_cons,if_pos e,if_pos e]
    exact⟨by rw[map_cons,map_cons,i1],.cons r i2⟩
   .rw[map_cons,map_cons,if_neg e,if_neg e]
    exact⟨by rw[map_cons,map_cons,i1],.cons r' i2⟩
 .rw[if_neg a,if_neg a]
  refine⟨by rw[map_append,map_append,h.1];rfl,?_⟩;rw[map_append,map_append];exact h.2.append (.cons r .nil)
theorem GA{n:Nat}(h:n+64<cLine):n+1<cLine:=by lia
section
variable{X:Cx}{e b c:Expr}{p pos tpos apos cpos:Pos}{f fk fv fx:Dv->Option D}
theorem BN(i:Nat){x:Str}{pos':Pos}(hN:X.N.Nodup)(hi:X.N[i]? = some x:=by rfl)(hx:sU X.env.scope x:=by first|exact Or.inl rfl|exact Or.inr rfl)(hs:swapsWith (.Dict [] [] p) (some (.Name x pos')) pos.line X.env=pure false:=by rfl)
  (hf:X.fn x=true\/X.env.scope.names.lookup x=some .local:=by first|exact .inl rfl|exact .inr rfl|assumption):SV X (.Assign [.Name x pos'] (.Dict [] [] p) pos) (Dz i):=
 PS.imp (jT hN hi hx zw hs hf) λD σ H h=>by
  obtain⟨H₀,Z₀,Z,δ,r,hh,e,k⟩:=h;cases e;exact λp hp=>k _ _ Z (hh.setW hp (.dct ⟨rfl,.nil⟩)) (Same.refl _)
theorem lP{K:Fg}{H₀ Z₀ Z:Hp}{δ:Dv}{σ:St}{H:Hp}(hh:Hold K H₀ Z₀ Z δ σ H){i:Nat}{es:List (aw×D)}(h:B2 δ[i]? = some es):∃a kvs,σ[i]? = some (some (V.ref a))/\H a=some (.dK kvs)/\iA K Z kvs es:=by
 obtain⟨a,kvs,h1,_,_,h4,h5⟩:=hh.od i es (iO h);exact⟨a,kvs,h1,h4,h5⟩
theorem sy(i:Nat){x:Str}(hu:X.A.units+1<cLine)(hb:EV X b fk)(hc:EV X c fx)(m:M2 X (.Name x p) "get" apos b c cpos)(hN:X.N[i]? = some x:=by rfl)(hv:yk X.env.scope x:=by first|exact Or.inl rfl|exact Or.inr (Or.inl rfl)|exact Or.inr (Or.inr rfl))(hd:(x==("__debug__":Str))=false:=by decide)(hcd:(x==("__classdict__":Str))=false:=by decide):
  EV X (.Call (.Attribute (.Name x p) "get" apos) [b,c] [] cpos) (iR i fk fx):=
 PE.imp (zx hu (d8 hN hv hd hcd) hb hc m) λσ H Q h=>by
  obtain⟨H₀,Z₀,Z,δ,d,hh,e,k⟩:=h;obtain⟨es,e1,e⟩:=bind_some e;obtain⟨y,e2,e⟩:=bind_some e;obtain⟨z,e3,e⟩:=bind_some e;obtain⟨ky,e4,e⟩:=bind_some e;cases e;obtain⟨a,kvs,h1,h4,h5⟩:=lP hh e1;refine⟨_,h1,a,rfl,.inl ⟨kvs,.inl h4⟩,H₀,Z₀,Z,δ,y,hh,e2,λv Z1 H1 hh1 t1 r1=>⟨H₀,Z₀,Z1,δ,z,hh1,e3,λu Z2 H2 hh2 t2 r2=>?_⟩⟩
  obtain⟨a',kvs',g1,g4,g5⟩:=lP hh2 e1;rw[h1]at g1;cases g1;obtain rfl:=g7 r1 e4;rcases qY ky g5 with⟨q,q'⟩|⟨w,d',q1,q2,rw'⟩
  .refine⟨none,q ▸ DGet.k g4,k u Z2 H2 hh2 (t1.trans t2) ?_⟩
   rw[q'];exact r2
  .refine⟨some w,q1 ▸ DGet.k g4,k w Z2 H2 hh2 (t1.trans t2) ?_⟩
   rw[q2];exact rw'
theorem BM(i:Nat){x:Str}(hu:X.A.units+1<cLine)(hb:EV X b fk)(hv':EV X e fv)(hN:X.N[i]? = some x:=by rfl)(hv:yk X.env.scope x:=by first|exact Or.inl rfl|exact Or.inr (Or.inl rfl)|exact Or.inr (Or.inr rfl))(hd:(x==("__debug__":Str))=false:=by decide)(hcd:(x==("__classdict__":Str))=false:=by decide)
  (hs:swapsWith e (some (.Subscript (.Name x p) b tpos)) pos.line X.env=pure false:=by rfl):SV X (.Assign [.Subscript (.Name x p) b tpos] e pos) (gM i fk fv):=
 PS.imp (u9 hu (d8 hN hv hd hcd) hb hv' hs) λD σ H h=>by
  obtain⟨H₀,Z₀,Z,δ,r,hh,e,k⟩:=h;obtain⟨v,e1,e⟩:=bind_some e;obtain⟨es,e2,e⟩:=bind_some e;obtain⟨y,e3,e⟩:=bind_some e;obtain⟨ky,e4,e⟩:=bind_some e;obtain⟨hl,e5⟩:=bR e;cases e5;refine⟨H₀,Z₀,Z,δ,v,hh,e1,λw Z1 H1 hh1 t1 r1=>?_⟩
  obtain⟨a,kvs,h1,h4,h5⟩:=lP hh1 e2;refine⟨_,h1,H₀,Z₀,Z1,δ,y,hh1,e3,λu Z2 H2 hh2 t2 r2=>?_⟩
  obtain⟨a',kvs',g1,g4,g5⟩:=lP hh2 e2;rw[h1]at g1;cases g1;obtain rfl:=g7 r2 e4;exact⟨a,_,rfl,DPut.k g4 (by rw[fA g5];exact hl),k σ _ Z2 (hh2.chgW (iO e2) h1 (.dct (lE g5 ky (r1.same t2)))) (t1.trans t2)⟩
end
def uk(x:Int):List Int->List Int
 |[]=>[x]
 |y::r=>if x<=y then x::y::r else y::uk x r
def aQ:List Int->List Int
 |[]=>[]
 |x::r=>uk x (aQ r)
theorem j6(x:Int):∀l:List Int,(uk x l).Perm (x::l)
 |[]=>.refl _
 |y::r=>by
  unfold uk;split
  .exact .refl _
  .exact((j6 x r).cons y).trans (.swap x y r)
theorem cO:∀l:List Int,(aQ l).Perm l
 |[]=>.refl _
 |x::r=>(j6 x _).trans ((cO r).cons x)
theorem vJ(x:Int):∀l:List Int,l.Pairwise (·<= ·)->(uk x l).Pairwise (·<= ·)
 |[],_=>by simp[uk]
 |y::r,h=>by
  obtain⟨h1,h2⟩:=List.pairwise_cons.mp h;unfold uk;split
  .rename_i hx
   exact List.pairwise_cons.mpr ⟨λz hz=>by rcases List.mem_cons.mp hz with rfl|hz;exact hx;exact Int.le_trans hx (h1 z hz),h⟩
  .rename_i hx
   refine List.pairwise_cons.mpr ⟨λz hz=>?_,vJ x r h2⟩
   rcases List.mem_cons.mp ((j6 x r).mem_iff.mp hz)with rfl|hz
   .lia
   .exact h1 z hz
theorem j3:∀l:List Int,(aQ l).Pairwise (·<= ·)
 |[]=>.nil
 |x::r=>vJ x _ (j3 r)
theorem lA:∀{a b:List Int},a.Perm b->a.Pairwise (·<= ·)->b.Pairwise (·<= ·)->a=b
 |[],b,p,_,_=>(List.nil_perm.mp p).symm
 |x::a,b,p,ha,hb=>by
  cases b with
  |nil=>exact absurd (List.perm_nil.mp p) (by simp)
  |cons y b=>
   obtain⟨ha1,ha2⟩:=List.pairwise_cons.mp ha;obtain⟨hb1,hb2⟩:=List.pairwise_cons.mp hb;have e:x=y:=by
    have h1:x∈y::b:=p.mem_iff.mp mem_cons_self;have h2:y∈x::a:=p.mem_iff.mpr mem_cons_self;rcases List.mem_cons.mp h1 with h1|h1
    .exact h1
    .rcases List.mem_cons.mp h2 with h2|h2
     .exact h2.symm
     .exact Int.le_antisymm (ha1 y h2) (hb1 x h1)
   subst e;rw[lA (List.perm_cons x |>.mp p) ha2 hb2]
theorem fJ{a b:List Int}(p:a.Perm b)(h:a.Pairwise (·<= ·)):a=aQ b:=lA (p.trans (cO b).symm) h (j3 b)
def Kc:aw->Option Int
 |.inl i=>some i
 |.inr _=>none
def oD:List (aw×D)->Option (List Int)
 |[]=>some []
 |p::r=>(Kc p.1).bind λi=>(oD r).bind λl=>some (i::l)
theorem jx:∀{es:List (aw×D)} {l:List Int},oD es=some l->es.map (·.1)=l.map Sum.inl
 |[],_,h=>by cases h;rfl
 | (.inl i,d)::r,l,h=>by
  obtain⟨m,hm,e⟩:=bind_some h;cases hm;obtain⟨l',h',e⟩:=bind_some e;cases e;rw[map_cons,jx h'];rfl
 | (.inr x,d)::r,l,h=>by cases h
theorem vG{P:Program}{w:World}:∀{acc:List Value} {kvs:List (aw×Value)} {l:List Int},acc.length=kvs.length->(∀(j:Nat) (v:Value),acc[j]? = some v->∃k x,kvs[j]? = some (k,x)/\(aF P w).is k v=true)->kvs.map (·.1)=l.map Sum.inl->IntsAre acc l
 |[],kvs,l,h1,_,h3=>by
  have:kvs=[]:=List.length_eq_zero_iff.mp h1.symm;subst this;have:l=[]:=by simpa using h3.symm
  subst this;exact .nil
 |v::acc,kv::kvs,l,h1,h2,h3=>by
  cases l with
  |nil=>cases h3
  |cons i l=>
   rw[map_cons,map_cons,List.cons.injEq]at h3;obtain⟨k,x,e,hk⟩:=h2 0 v rfl;cases e;have hk':kz k v=true:=hk;have h3':k=Sum.inl i:=h3.1;subst h3';rcases ba hk' with⟨i',t,e1,rfl⟩|⟨y,t,e1,rfl⟩
   .cases e1
    exact .cons i t (vG (P:=P) (w:=w) (by simpa using h1) (λj v e=>h2 (j+1) v e) h3.2)
   .cases e1
theorem cK:∀{out:List Value} {l:List Int},IntsAre out l->Vals (l.map V.int) out
 |_,_,.nil=>.nil
 |_,_,.cons n t r=>.cons ⟨t,rfl⟩ (cK r)
theorem pU{κ:Type}:∀{kvs:List (κ × V)} {vs:List (κ × Value)},KV kvs vs->vs.map (·.1)=kvs.map (·.1)
 |_,_,.nil=>rfl
 |_,_,.cons r q=>by rw[map_cons,map_cons,pU q,r.1]
theorem aN{h:Heap}{a b:Addr}{f:Obj->Obj}{o:Obj}(hab:b≠a)(e:h.get? b=some o):(h.update a f).get? b=some o:=(Heap.get?_update_other _ _ (Ne.symm hab)).trans e
section
variable{X:Cx}
theorem qi(hc:X.calm=true):CallR X (.builtin "sorted") (λxs H Q=>∃a kvs ns,xs=[V.ref a]/\H a=some (.dK kvs)/\kvs.map (·.1)=ns.map Sum.inl/\ns.length<64/\∀l,H l=none->Q (.ref l) (upd H l (.lst ((aQ ns).map V.int)))):=by
 intro pins s σ H xs us Q I r h;obtain⟨a,kvs,ns,rfl,ha,hk,h64,q⟩:=h;obtain⟨u,rfl,ru⟩:=jb r;cases ru;obtain⟨z,hd,vs,rel,dd⟩:=kA I.hok (.inl ha);obtain⟨ep,dat⟩:=dd.dictAt;have hln:vs.length=ns.length:=by
  have:=congrArg List.length hk;simp only[length_map]at this;rw[<-rel.length,this]
 refine Calls.call_function_entry kind_sorted plain_sorted entry_sorted (args_sorted1 _) ?_;unfold Builtin.«sorted»;refine wpAny_bind (m:=checkCount "sorted" 1 1 _) (wpAny_pure ?_);refine wpAny_bind (PySem.W.kdu_collect (A:=X.A.in1) (PySem.W.kdl_dict (knd:=aF X.prog X.w) (kvs:=vs) (ep:=ep) hd) (I.ok.hd hc) dat (by rw[hln,sizeLine_eq];lia) λh' tk acc hk' hacc=>?_)
 have hal:acc.toList.length=vs.length:=by rw[length_toList];exact hacc.1
 have hI:IntsAre acc.toList ns:=vG (P:=X.prog) (w:=X.w) hal (λj v e=>hacc.2 j v (by rw[<-getElem?_toList];exact e)) (by rw[pU rel];exact hk)
 refine wpAny_bind (wpAny_newList ?_ (by rw[hal,hln,sizeLine_eq];lia));have hoL:(h'.push (seqObj "list" acc.toList.toArray 0)).get? h'.objs.size=some (seqObj "list" acc.toList.toArray 0):=get?_push_size _ rfl;refine wpAny_bind (wpAny_holding (wpAny_call_entry slot_list_sort ⟨_,hoL,rfl⟩ entry_list_sort (list_sort_tree hoL hI (by rw[hal,hln];exact h64) λout ns' a1 a2 a3=>⟨_,rfl,?_⟩) (args_list_sort _)))
 refine wpAny_pure ⟨_,rfl,?_⟩;have e:=fJ a2 a3;subst e;have I1:Inv X pins σ H {s with heap:=h',toks:=tk}:=I.kept hk';have kp:∀b o,h'.get? b=some o->(sortedHeap (h'.push (seqObj "list" acc.toList.toArray 0)) h'.objs.size acc.toList out).get? b=some o:=λb o eo=>by
  have hb:b≠h'.objs.size:=ne_of_lt (lt_size eo);exact aN hb (get?_push_of_some _ (get?_push_of_some _ (aN hb (get?_push_of_some _ eo))))
 have hlen:out.toList.length=ns.length:=by rw[(cK a1).length.symm,length_map,a2.length_eq]
 obtain⟨e1,ho1⟩:∃e1,((h'.push (seqObj "list" acc.toList.toArray 0)).update h'.objs.size (Obj.mapSeq λ_=>#[])).get? h'.objs.size=some (seqObj "list" #[] e1):=⟨_,get?_update_seq hoL (λ_=>#[])⟩;have ho2:=get?_push_of_some (seqObj "list" #[] 0) (get?_push_of_some (seqObj "tuple" acc.toList.toArray 0) ho1);have ho3:=get?_update_seq ho2 (λ_=>out);have L:=I1.laid (h':=sortedHeap (h'.push (seqObj "list" acc.toList.toArray 0)) h'.objs.size acc.toList out) (a:=h'.objs.size) (o:=.lst ((aQ ns).map V.int)) (t':=tk) kp (le_refl _)
  (show ObjOk X.prog X.w _ _ _ (.lst ((aQ ns).map V.int))from ⟨by rw[length_map,(cO ns).length_eq,sizeLine_eq];lia,out.toList,_,cK a1,by rw[Array.toArray_toList];exact ho3⟩)
 exact⟨.ref h'.objs.size,_,L,rfl,q _ (I1.hok.fresh (le_refl _))⟩
variable{e:Expr}{p p2 pos pos2:Pos}{te:TE}{f:Dv->Option D}
end
def GO:List D->Option D
 |[.list a,.list b]=>some (.list (List.zipWith (λx y=>.tuple [x,y]) a b))
 |_=>none
@[simp] def LL(fs:Dv->Option (List D))(g:List D->Option D):Dv->Option D:=λδ=>(fs δ).bind g
@[simp] theorem IT(a b:List D):GO [.list a,.list b]=some (.list (List.zipWith (λx y=>.tuple [x,y]) a b)):=rfl
theorem xF{X:Cx}{pins:List (Addr×Obj)}{σ:St}{H H':Hp}{s:Shared}{h':Heap}{t':Nat}(I:Inv X pins σ H s)(k:∀b u,s.heap.get? b=some u->h'.get? b=some u)(ext:∀b,H b≠none->H' b=H b)
  (new:∀b o,H b=none->H' b=some o->s.heap.objs.size<=b/\ObjOk X.prog X.w H' h' b o):Inv X pins σ H' {s with heap:=h',toks:=t'}:=by
 have e':∀{b:Addr} {u:HO},H b=some u->H' b=some u:=λ{b u} q=>by rw[ext b (by rw[q];simp),q]
 refine I.un ⟨λb u q _ _ _=>k b u q,λb u q _ _ _=>⟨u.slots,k b u q⟩,λb u q n _=>?_,λb u q _=>⟨u,k b u q⟩,λb xs q=>e' q,λb u xs q=>e' q,λb ps q=>⟨#[],by rw[e' q];simp⟩⟩ λb u e=>?_
 .cases q':H' b with
  |none=>rfl
  |some o=>exact absurd (lt_size q) (Nat.not_lt.mpr (new b o n q').1)
 .by_cases n:H b=none
  .exact(new b u n e).2
  .cases q:H b with
   |none=>exact absurd q n
   |some u'=>
    have:=e' q;rw[e]at this;cases this;exact(I.hok b u q).stay (λc v _ q=>k c v q) (λc q=>e' q) (λc xs q=>e' q) λc o xs q=>e' q
def xc:List Addr->List (List V)->Addr->Option HO
 |a::as,t::ts,b=>if b=a then some (.tup t)else xc as ts b
 |_,_,_=>none
theorem ot:∀{as:List Addr} {ts:List (List V)} {b:Addr} {o:HO},xc as ts b=some o->∃(j:Nat) (t:List V),as[j]? = some b/\ts[j]? = some t/\o=.tup t
 |[],_,_,_,h=>by cases h
 |_::_,[],_,_,h=>by cases h
 |a::as,t::ts,b,o,h=>by
  unfold xc at h;split at h
  .rename_i e
   cases h;exact⟨0,t,by rw[e];rfl,rfl,rfl⟩
  .obtain⟨j,t',h1,h2,h3⟩:=ot h
   exact⟨j+1,t',h1,h2,h3⟩
theorem rf:∀{as:List Addr} {ts:List (List V)} {j:Nat} {a:Addr} {t:List V},as.Pairwise (· < ·)->as[j]? = some a->ts[j]? = some t->xc as ts a=some (.tup t)
 |[],_,_,_,_,_,h,_=>by simp at h
 |_::_,[],_,_,_,_,_,h=>by simp at h
 |a::as,t::ts,0,_,_,_,h1,h2=>by cases h1;cases h2;exact if_pos rfl
 |a::as,t::ts,j+1,b,u,h,h1,h2=>by
  obtain⟨g1,g2⟩:=List.pairwise_cons.mp h;have hb:=g1 b (List.mem_of_getElem? (by simpa using h1));unfold xc;rw[if_neg (ne_of_gt hb)];exact rf g2 (by simpa using h1) (by simpa using h2)
section
variable{X:Cx}{e1 e2:Expr}{p p2 pos pos2:Pos}{ta:TA}{fs:Dv->Option (List D)}
def Gz:Option HO->Option HO
 |some (.frz _ (.lst _))=>none
 |o=>o
theorem qG{o:Option HO}{u:HO}(h:Gz o=some u):o=some u/\Cw u=true:=by
 unfold Gz at h;split at h
 .cases h
 .rename_i hn
  refine⟨h,?_⟩;unfold Cw;split
  .exact absurd h (hn _ _)
  .rfl
theorem New.many{Z H H':Hp}(zh:Same Z H)(ext:∀b,H b≠none->H' b=H b):New Z H (λb=>if H b=none then Gz (H' b)else Z b) H' where
 z:=λb u e=>by
  have:H b=some u:=zh b u e;show(if H b=none then _ else _)=_;rw[if_neg (by rw[this];simp)];exact e
 h:=λb u e=>by rw[ext b (by rw[e];simp),e]
 zh:=λb u e=>by
  have e:(if H b=none then Gz (H' b)else Z b)=some u:=e;split at e
  .exact(qG e).1
  .rename_i n
   rw[ext b n];exact zh b u e
 o:=λb hb=>if_neg hb
 nf:=λb o xs e=>by
  have e:(if H b=none then Gz (H' b)else Z b)=_:=e;split at e
  .cases(qG e).2
  .exact e
end
def oN:List (aw×D)->Option (List (aw×Int))
 |[]=>some []
 | (k,.int i)::r=>(oN r).bind λl=>some ((k,i)::l)
 |_=>none
def uy(i:Nat)(δ:Dv):Dv:=match δ[i]? with
 |some (.own (.d es))=>match oN es with
  |some l=>δ.set i (.fz (.dict (gE l)))
  |none=>δ
 |_=>δ
def kr:List (D×D)->Option (List (aw×Int))
 |[]=>some []
 | (k,.int i)::r=>(mf k).bind λk=>(kr r).bind λl=>some ((k,i)::l)
 |_=>none
theorem ug(k:aw):mf (jy k)=some k:=by cases k<;>rfl
@[simp] theorem fR:∀es:List (aw×Int),kr (gE es)=some es
 |[]=>rfl
 | (k,i)::r=>by
  show(mf (jy k)).bind _=_;rw[ug];show(kr (gE r)).bind _=_;rw[fR r];rfl
def mx(es:List (aw×Int))(k:aw):Option Int:=(es.find? λp=>decide (p.1=k)).map (·.2)
def vP:D->D->Option D
 |.dict kvs,k=>(kr kvs).bind λes=>(mf k).bind λk=>(mx es k).map .int
 |_,_=>none
def tF:D->Option D
 |.dict kvs=>(kr kvs).bind λes=>(oD (es.map λp=>(p.1,PyData.int p.2))).bind λl=>if l.length<64 then some (.list ((aQ l).map .int))else none
 |_=>none
theorem sd:∀{es:List (aw×D)} {l:List (aw×Int)},oN es=some l->es=l.map λp=>(p.1,PyData.int p.2)
 |[],_,h=>by cases h;rfl
 | (k,.int i)::r,l,h=>by
  obtain⟨m,hm,e⟩:=bind_some h;cases e;rw[sd hm];rfl
 | (k,.none)::r,l,h=>by cases h
 | (k,.bool _)::r,l,h=>by cases h
 | (k,.str _)::r,l,h=>by cases h
 | (k,.tuple _)::r,l,h=>by cases h
 | (k,.list _)::r,l,h=>by cases h
 | (k,.dict _)::r,l,h=>by cases h
theorem oo{K:Fg}{Z:Hp}:∀{kvs:List (aw×V)} {l:List (aw×Int)},iA K Z kvs (l.map λp=>(p.1,PyData.int p.2))->kvs=l.map λp=>(p.1,V.int p.2)
 |[],l,h=>by
  have:(l.map λp=>(p.1,PyData.int p.2))=[]:=List.length_eq_zero_iff.mp (fA h).symm
  rw[List.map_eq_nil_iff.mp this];rfl
 |kv::kvs,l,h=>by
  obtain⟨d,fs,e,r,q⟩:=ip h;cases l with
  |nil=>cases e
  |cons p l=>
   rw[map_cons,List.cons.injEq,Prod.mk.injEq]at e;obtain⟨⟨e1,e2⟩,e3⟩:=e;subst e2;subst e3;obtain⟨k,v⟩:=kv;have e1:p.1=k:=e1;have rv:v=V.int p.2:=r.int_eq;subst rv;rw[map_cons,<-oo q,e1]
theorem xI{K:Fg}{H₀ Z₀ Z H:Hp}{δ:Dv}{σ:St}(h:Hold K H₀ Z₀ Z δ σ H){i:Nat}{l:List (aw×Int)}(e:δ[i]? = some (.od (l.map λp=>(p.1,PyData.int p.2)))):∃Z',Same Z Z'/\Hold K H₀ Z₀ Z' (δ.set i (.fz (.dict (gE l)))) σ H:=by
 obtain⟨a,kvs,h1,h2,h3,h4,h5⟩:=h.od i _ e;obtain rfl:=oo h5;have hl:i < δ.length:=(List.getElem?_eq_some_iff.mp e).1;have sz:Same Z (upd Z a (.dK (l.map λp=>(p.1,V.int p.2)))):=cy h3
 refine⟨_,sz,λb o q=>?_,h.h0,h.z0.trans sz,λb hb=>?_,by simp[h.len],λj d q=>?_,λj d q=>?_,λj k d1 d2 b hjk q1 q2=>?_,(h.fr.same sz).put (λ_ z=>nomatch z) λ_ _=>rfl,h.nf.upd a⟩
 .by_cases hb:b=a
  .subst hb;rw[av]at q;cases q;exact h4
  .rw[aq hb]at q;exact h.zh b o q
 .rw[aq (λz=>hb (by rw[z];exact h2))];exact h.zb b hb
 .by_cases hj:i=j
  .subst hj
   rw[getElem?_set_self hl]at q;cases q;exact⟨.ref a,h1,.opq (.dct rfl av)⟩
  .rw[getElem?_set_ne hj]at q
   obtain⟨v,g1,g2⟩:=h.fz j d q;exact⟨v,g1,g2.same sz⟩
 .by_cases hj:i=j
  .subst hj
   rw[getElem?_set_self hl]at q;cases q
  .rw[getElem?_set_ne hj]at q
   obtain⟨b,ws,g1,g2,g3,g4,g5⟩:=h.own j d q;have:b≠a:=λz=>by subst z;exact h.dja i j _ d b hj e q h1 g1
   exact⟨b,ws,g1,g2,by rw[aq this];exact g3,g4,g5.same sz⟩
 .by_cases hj:i=j
  .subst hj
   rw[getElem?_set_self hl]at q1;cases q1
  .by_cases hk:i=k
   .subst hk
    rw[getElem?_set_self hl]at q2;cases q2
   .rw[getElem?_set_ne hj]at q1
    rw[getElem?_set_ne hk]at q2;exact h.dja j k d1 d2 b hjk q1 q2
section
variable{X:Cx}{st:Stmt}{s1:Sf}{a b:Expr}{f fk:Dv->Option D}{p pos:Pos}
theorem FY{K:Fg}(i:Nat){D:Ends}{σ:St}{H:Hp}(h:Dt K (λδ=>s1 (uy i δ)) D σ H):Dt K s1 D σ H:=by
 obtain⟨H₀,Z₀,Z,δ,r,hh,e,k⟩:=h;have e:s1 (uy i δ)=some r:=e;unfold uy at e;split at e
 .rename_i es q
  split at e
  .rename_i l ql
   rw[sd ql]at q;obtain⟨Z1,t1,hh1⟩:=xI hh q;exact⟨H₀,Z₀,Z1,_,r,hh1,e,λσ2 H2 Z2 hh2 t2=>k σ2 H2 Z2 hh2 (t1.trans t2)⟩
  .exact⟨H₀,Z₀,Z,_,r,hh,e,k⟩
 .exact⟨H₀,Z₀,Z,_,r,hh,e,k⟩
theorem Ex(i:Nat)(h:SV X st s1):SV X st (λδ=>s1 (uy i δ)):=PS.imp h λD σ H q=>FY i q
theorem AU{K:Fg}{Z:Hp}{v:V}{kvs:List (D×D)}{es:List (aw×Int)}(r:Rep K Z v (.dict kvs))(h:kr kvs=some es):∃a,v=.ref a/\Z a=some (.dK (es.map λp=>(p.1,V.int p.2))):=by
 cases r with
 | @opq a _ q=>
  cases q with
  |exc _ _=>cases h
  |fn _=>cases h
  |lam _ _ _=>cases h
  |ins _ _ _=>cases h
  |dct h1 h2=>
   subst h1;rw[fR]at h;cases h;exact⟨a,rfl,h2⟩
 |gdc _ _ _ _=>cases h
theorem nV(k:aw):∀es:List (aw×Int),jc (es.map λp=>(p.1,V.int p.2)) k=(mx es k).map V.int
 |[]=>rfl
 | (k',i)::r=>by
  by_cases e:k'=k
  .rw[map_cons,gH e];simp[mx,find?_cons,e]
  .rw[map_cons,gI e,nV k r];simp[mx,find?_cons,e]
theorem sx(hu:X.A.units+1<cLine)(ha:EV X a f)(hb:EV X b fk)(hsl:Gw b):EV X (.Subscript a b pos) (o2 f fk vP):=
 PE.imp (Cl hu ha hb hsl) λσ H Q h=>by
  obtain⟨H₀,Z₀,Z,δ,d,hh,e,k⟩:=h;obtain⟨x,e1,e⟩:=bind_some e;obtain⟨y,e2,e⟩:=bind_some e;cases x with
  |dict kvs=>
   obtain⟨es,e3,e⟩:=bind_some e;obtain⟨ky,e4,e⟩:=bind_some e;obtain⟨i,e5,e⟩:=Option.map_eq_some_iff.mp e;subst e;refine⟨H₀,Z₀,Z,δ,_,hh,e1,λv Z1 H1 hh1 t1 r1=>⟨H₀,Z₀,Z1,δ,y,hh1,e2,λu Z2 H2 hh2 t2 r2=>?_⟩⟩
   obtain⟨ad,rfl,g⟩:=AU r1 e3;obtain rfl:=g7 r2 e4;exact⟨ad,V.int i,rfl,by have:=DGet.k (k:=ky) (hh2.zh _ _ (t2 _ _ g));rw[nV,e5]at this;exact this,k _ Z2 H2 hh2 (t1.trans t2) (.int i)⟩
  |_=>cases e
theorem xS(hg:Gl X "sorted")(hm:X.mg "sorted" = none)(ha:EV X a f)(hc:X.calm=true:=by rfl)
  (he:starEach [a] X.env=(false,eval a X.env)::starEach [] X.env:=by rfl) (hpl:(backTo pos (starEach [] X.env)).any (·.1)=false:=by rfl):EV X (.Call (.Name "sorted" p) [a] [] pos) (o1 f tF):=
 PE.imp (fB (qi hc) hg hm (by decide+kernel) (bq ha dl he) (by decide) (by decide) he hpl) λσ H Q h=>by
  obtain⟨H₀,Z₀,Z,δ,d,hh,e,k⟩:=h;obtain⟨x,e1,e⟩:=bind_some e;cases x with
  |dict kvs=>
   obtain⟨es,e3,e⟩:=bind_some e;obtain⟨l,e4,e⟩:=bind_some e;obtain⟨h64,e⟩:=bR e;cases e;refine⟨H₀,Z₀,Z,δ,_,hh,e1,λv Z1 H1 hh1 t1 r1=>?_⟩
   obtain⟨ad,rfl,g⟩:=AU r1 e3;refine⟨ad,_,l,rfl,hh1.zh _ _ g,by have:=jx e4;rw[<-this];simp[map_map,Function.comp_def],h64,λl' hl=>?_⟩
   have n:=New.add hh1.zh hl (.lst ((aQ l).map V.int));exact k _ _ _ (hh1.new n) (t1.trans n.z) (.lst (SqL.of av) (Reps.ints _))
  |_=>cases e
end
section
variable{cmp:Nat->Nat->(Bool->Shared->Prop)->Shared->Prop}{N:Nat}{key:Nat->Int}
def ky(key:Nat->Int)(p:Array Nat)(i:Nat):Int:=key (p.getD i 0)
structure Pm (N:Nat) (p:Array Nat):Prop where
 perm:p.toList.Perm (List.range N)
theorem Pm.size{p:Array Nat}(h:Pm N p):p.size=N:=by
 have:=h.perm.length_eq;simpa using this
theorem Pm.lt{p:Array Nat}(h:Pm N p)(i:Nat)(hN:0<N):p.getD i 0<N:=by
 by_cases hi:i<p.size
 .have e:p.getD i 0=p[i]:=by simp[Array.getD,hi]
  rw[e];have m:p[i]∈p.toList:=Array.getElem_mem_toList hi;exact List.mem_range.mp (h.perm.mem_iff.mp m)
 .have e:p.getD i 0=0:=by simp[Array.getD,hi]
  rw[e];exact hN
theorem Pm.ne{p:Array Nat}(h:Pm N p){i j:Nat}(hi:i<N)(hj:j<N)(e:p.getD i 0=p.getD j 0):i=j:=by
 have nd:p.toList.Nodup:=h.perm.nodup_iff.mpr List.nodup_range;have hz:=h.size;have e1:p.getD i 0=p.toList[i]'(by simpa[hz]using hi):=by simp[Array.getD,hz,hi]
 have e2:p.getD j 0=p.toList[j]'(by simpa[hz]using hj):=by simp[Array.getD,hz,hj]
 rw[e1,e2]at e;have pw:=List.pairwise_iff_getElem.mp nd;rcases Nat.lt_trichotomy i j with q|q|q
 .exact absurd e (pw i j (by simpa[hz]using hi) (by simpa[hz]using hj) q)
 .exact q
 .exact absurd e.symm (pw j i (by simpa[hz]using hj) (by simpa[hz]using hi) q)
theorem Pm.of{p q:Array Nat}(h:Pm N p)(e:q.Perm p):Pm N q:=⟨(Array.perm_iff_toList_perm.mp e).trans h.perm⟩
variable{s:Shared}(hinj:∀i j,i<N->j<N->key i=key j->i=j)(hc:∀i j,i<N->j<N->i≠j->∀C:Bool->Shared->Prop,C (decide (key i<key j)) s->cmp i j C s)
def Up(key:Nat->Int)(p:Array Nat)(m:Nat):Prop:=∀i j,i<j->j<m->ky key p i<ky key p j
def Dn(key:Nat->Int)(p:Array Nat)(m:Nat):Prop:=∀i j,i<j->j<m->ky key p j<ky key p i
include hinj in
theorem Af{p:Array Nat}(h:Pm N p){i j:Nat}(hi:i<N)(hj:j<N)(hij:i≠j):ky key p i≠ky key p j:=λe=>
 hij (h.ne hi hj (hinj _ _ (h.lt i (by lia)) (h.lt j (by lia)) e))
include hc in
theorem mY{α:Type}{p:Array Nat}(h:Pm N p)(hN:0<N)(i j:Nat)(hi:i<N)(hj:j<N)(hij:i≠j){k:Bool->PySem.W.KasT α}{Q:α -> Shared->Prop}(hk:(k (decide (ky key p i<ky key p j))).kasWp cmp Q s):(PySem.W.KasT.ask (p.getD i 0) (p.getD j 0) k).kasWp cmp Q s:=
 hc _ _ (h.lt i hN) (h.lt j hN) (λe=>hij (h.ne hi hj e)) _ hk
include hinj hc in
theorem uJ{p:Array Nat}(h:Pm N p){Q:Nat->Shared->Prop}{M:Nat}(hM:M<=N):∀(f n:Nat),1<=n->n+f=M->Up key p n->(∀m,n<=m->m<=M->Up key p m->(m=M\/ky key p m<ky key p (m-1))->Q m s)->(PySem.W.kas_asc p f n).kasWp cmp Q s
 | 0,n,h1,hf,up,q=>q n (le_refl _) (by lia) up (.inl (by lia))
 |f+1,n,h1,hf,up,q=>by
  refine mY hc h (by lia) n (n-1) (by lia) (by lia) (by lia) ?_;by_cases d:ky key p n<ky key p (n-1)
  .rw[decide_eq_true d,if_pos rfl]
   exact q n (le_refl _) (by lia) up (.inr d)
  .rw[decide_eq_false d,if_neg (by decide)]
   have ne:=Af hinj h (i:=n) (j:=n-1) (by lia) (by lia) (by lia);refine uJ h hM f (n+1) (by lia) (by lia) (λi j hij hj=>?_) λm a1 a2 a3 a4=>q m (by lia) a2 a3 a4
   by_cases hjn:j=n
   .subst hjn
    by_cases hi:i=j-1
    .subst hi;lia
    .have:=up i (j-1) (by lia) (by lia);lia
   .exact up i j hij (by lia)
include hinj hc in
theorem wc{p:Array Nat}(h:Pm N p){Q:Array Nat×Nat×Nat->Shared->Prop}{M:Nat}(hM:M<=N):∀(f n:Nat),1<=n->n+f=M->Dn key p n->(∀m,n<=m->m<=M->Dn key p m->Q (p,m,0) s)->(PySem.W.kas_desc f p n 0).kasWp cmp Q s
 | 0,n,h1,hf,dn,q=>q n (le_refl _) (by lia) dn
 |f+1,n,h1,hf,dn,q=>by
  refine mY hc h (by lia) n (n-1) (by lia) (by lia) (by lia) ?_;have ne:=Af hinj h (i:=n) (j:=n-1) (by lia) (by lia) (by lia);by_cases d:ky key p n<ky key p (n-1)
  .rw[decide_eq_true d,if_pos rfl,if_neg (by decide)]
   refine wc h hM f (n+1) (by lia) (by lia) (λi j hij hj=>?_) λm a1 a2 a3=>q m (by lia) a2 a3
   by_cases hjn:j=n
   .subst hjn
    by_cases hi:i=j-1
    .subst hi;lia
    .have:=dn i (j-1) (by lia) (by lia);lia
   .exact dn i j hij (by lia)
  .rw[decide_eq_false d,if_neg (by decide)]
   refine mY hc h (by lia) (n-1) n (by lia) (by lia) (by lia) ?_;rw[decide_eq_true (show ky key p (n-1)<ky key p n by lia),if_pos rfl];exact q n (le_refl _) (by lia) dn
theorem yY{p:Array Nat}(h:Pm N p)(i j:Nat):Pm N (kas_rev p i j):=h.of (mirror_perm _ _ _ _)
theorem jD{p q:Array Nat}{i j:Nat}(e:p[i]? = q[j]?):p.getD i 0=q.getD j 0:=by
 rw[Array.getD_eq_getD_getElem?,Array.getD_eq_getD_getElem?,e]
theorem yZ{p:Array Nat}(h:Pm N p){n:Nat}(hn:n<=N)(k:Nat):ky key (kas_rev p 0 n) k=if k<n then ky key p (n-1-k)else ky key p k:=by
 have e:=getElem?_mirror_all (xs:=p) (i:=0) (j:=n) (by rw[h.size];exact hn) k;unfold ky kas_rev;by_cases hk:k<n
 .rw[if_pos ⟨zero_le _,hk⟩]at e
  rw[if_pos hk,jD e,Nat.zero_add]
 .rw[if_neg (by lia)]at e
  rw[if_neg hk,jD e]
theorem EG{p:Array Nat}(h:Pm N p){n:Nat}(hn:n<=N)(dn:Dn key p n):Up key (kas_rev p 0 n) n:=λi j hij hj=>by
 rw[yZ h hn,yZ h hn,if_pos (by lia),if_pos hj];exact dn _ _ (by lia) (by lia)
include hinj hc in
theorem BC{p:Array Nat}(h:Pm N p){Q:Nat×Array Nat->Shared->Prop}{n:Nat}(h1:1<=n)(hn:n<=N)(dn:Dn key p n)(q:∀m p',1<=m->m<=N->Pm N p'->Up key p' m->Q (m,p') s):(kas_tail3 n N p).kasWp cmp Q s:=by
 unfold kas_tail3;rw[PySem.W.KasT.kasWp_bind];exact uJ hinj hc (yY h 0 n) (le_refl N) (N-n) n h1 (by lia) (EG h hn dn) λm a1 a2 a3 _=>q m _ (by lia) a2 (yY h 0 n) a3
include hinj hc in
theorem A7{p:Array Nat}(h:Pm N p)(hN:2<=N){Q:Nat×Array Nat->Shared->Prop}(q:∀m p',1<=m->m<=N->Pm N p'->Up key p' m->Q (m,p') s):(kas_count N p).kasWp cmp Q s:=by
 unfold kas_count;rw[PySem.W.KasT.kasWp_bind];refine uJ hinj hc h (le_refl N) (N-1) 1 (le_refl _) (by lia) (λi j a b=>by lia) λn a1 a2 a3 a4=>?_
 by_cases e:(n==N)=true
 .rw[if_pos e]
  exact q n p a1 a2 h a3
 .rw[if_neg e]
  have hne:n≠N:=λz=>e (by rw[z];exact beq_self_eq_true _)
  by_cases e2:n>1
  .rw[if_pos e2]
   refine mY hc h (by lia) 0 (n-1) (by lia) (by lia) (by lia) ?_;rw[decide_eq_true (a3 0 (n-1) (by lia) (by lia)),if_pos rfl];exact q n p a1 a2 h a3
  .rw[if_neg e2]
   have hn1:n=1:=by lia
   subst hn1;have d:ky key p 1<ky key p 0:=by
    rcases a4 with z|z
    .exact absurd z hne
    .exact z
   unfold PySem.W.kas_descPart;rw[PySem.W.KasT.kasWp_bind];refine wc hinj hc h (le_refl N) (N-(1+1)) (1+1) (by lia) (by lia) (λi j hij hj=>?_) λm b1 b2 b3=>?_
   .have:i=0:=by lia
    have:j=1:=by lia
    subst i;subst j;exact d
   .rw[if_neg (by show ¬(0>0);decide)]
    exact BC hinj hc h (show 1<=m from Nat.le_trans (by decide) b1) b2 b3 q
include hinj hc in
theorem lL{p:Array Nat}(h:Pm N p){Q:Nat->Shared->Prop}{k:Nat}(hk:k<N)(up:Up key p k):∀(f l r:Nat),r-l<=f->l<=r->r<=k->(∀i,i<l->ky key p i<ky key p k)->(∀i,r<=i->i<k->ky key p k<ky key p i)->
  (∀l',l'<=k->(∀i,i<l'->ky key p i<ky key p k)->(∀i,l'<=i->i<k->ky key p k<ky key p i)->Q l' s)->(kas_place p k f l r).kasWp cmp Q s
 | 0,l,r,hf,hlr,hr,lo,hi,q=>q l (by lia) lo λi h1 h2=>hi i (by lia) h2
 |f+1,l,r,hf,hlr,hr,lo,hi,q=>by
  unfold kas_place;by_cases e:l>=r
  .rw[if_pos e]
   exact q l (by lia) lo λi h1 h2=>hi i (by lia) h2
  .rw[if_neg e]
   refine mY hc h (by lia) k ((l+r)/2) hk (by lia) (by lia) ?_;have ne:=Af hinj h (i:=k) (j:=(l+r)/2) hk (by lia) (by lia);by_cases d:ky key p k<ky key p ((l+r)/2)
   .rw[decide_eq_true d,if_pos rfl]
    refine lL h hk up f l ((l+r)/2) (by lia) (by lia) (by lia) lo (λi h1 h2=>?_) q;by_cases z:i=(l+r)/2
    .subst z;exact d
    .have:=up ((l+r)/2) i (by lia) h2;lia
   .rw[decide_eq_false d,if_neg (by decide)]
    refine lL h hk up f ((l+r)/2+1) r (by lia) (by lia) hr (λi h1=>?_) hi q;by_cases z:i=(l+r)/2
    .subst z;lia
    .have:=up i ((l+r)/2) (by lia) (by lia);lia
theorem Bd{p:Array Nat}(h:Pm N p){k d:Nat}(hk:k<N)(hd:d<=k)(i:Nat):ky key (bubble p k d) i=if i=k-d then ky key p k else if k-d<i/\i<=k then ky key p (i-1)else ky key p i:=by
 have e:=getElem?_bubble (xs:=p) (src:=k) (by rw[h.size];exact hk) d hd i;unfold ky;by_cases h1:i=k-d
 .rw[if_pos h1]at e ⊢
  rw[jD e]
 .rw[if_neg h1]at e ⊢
  by_cases h2:k-d<i/\i<=k
  .rw[if_pos h2]at e ⊢
   rw[jD e]
  .rw[if_neg h2]at e ⊢
   rw[jD e]
include hinj hc in
theorem Be{Q:Array Nat->Shared->Prop}(q:∀p',Pm N p'->Up key p' N->Q p' s):∀(f:Nat) (p:Array Nat) (k:Nat),k+f=N->Pm N p->Up key p k->(kas_bin f p k).kasWp cmp Q s
 | 0,p,k,hf,h,up=>q p h (by rw[show N=k by lia];exact up)
 |f+1,p,k,hf,h,up=>by
  unfold kas_bin;rw[PySem.W.KasT.kasWp_bind];refine lL hinj hc h (by lia) up k 0 k (by lia) (zero_le _) (le_refl _) (λi hi=>by lia) (λi h1 h2=>by lia) λl hl lo hi=>?_
  refine Be q f (bubble p k (k-l)) (k+1) (by lia) (h.of (bubble_perm _ _ _)) λi j hij hj=>?_
  rw[Bd h (by lia) (by lia),Bd h (by lia) (by lia),show k-(k-l)=l by lia];by_cases i1:i=l
  .rw[if_pos i1,if_neg (by lia),if_pos (by lia)]
   exact hi (j-1) (by lia) (by lia)
  .rw[if_neg i1]
   by_cases j1:j=l
   .rw[if_pos j1,if_neg (by lia)]
    exact lo i (by lia)
   .rw[if_neg j1]
    by_cases i2:l<i/\i<=k
    .rw[if_pos i2,if_pos (by lia)]
     exact up (i-1) (j-1) (by lia) (by lia)
    .rw[if_neg i2]
     by_cases j2:l<j/\j<=k
     .rw[if_pos j2]
      by_cases z:i=j-1
      .lia
      .exact up i (j-1) (by lia) (by lia)
     .rw[if_neg j2]
      exact up i j hij (by lia)
include hinj hc in
theorem BW(hN:2<=N){Q:Array Nat->Shared->Prop}(q:∀p',Pm N p'->Up key p' N->Q p' s):(kas_sort N).kasWp cmp Q s:=by
 unfold kas_sort;rw[PySem.W.KasT.kasWp_bind];refine A7 hinj hc (p:=List.toArray (List.range N)) ⟨List.Perm.refl _⟩ hN λm p a1 a2 a3 a4=>?_
 dsimp only;by_cases e:m<N
 .rw[if_pos e]
  rw[show max m 1=m by lia];exact Be hinj hc q (N-m) p m (by lia) a3 a4
 .rw[if_neg e]
  exact q p a3 (by rw[show N=m by lia];exact a4)
end
section
variable{prog:Program}{w:World}{A:Around}{E:Value->Shared->Prop}{s:Shared}
def PairsAt(h:Heap)(key:Nat->Int)(vs:List Value):Prop:=∀(j:Nat) (v:Value),vs[j]? = some v->∃b t y,v=.ref b/\h.get? b=some {cls:=.type "tuple",data:=.seq #[.int (key j) t,y]}
theorem PairsAt.keeps{h h':Heap}{key:Nat->Int}{vs:List Value}(x:PairsAt h key vs)(k:∀b o,o.cls=.type "tuple" -> h.get? b=some o->h'.get? b=some o):PairsAt h' key vs:=λj v e=>by
 obtain⟨b,t,y,e1,e2⟩:=x j v e;exact⟨b,t,y,e1,k b _ rfl e2⟩
theorem lM{h:Heap}:∀{vs:List Value} {key:Nat->Int},PairsAt h key vs->∃fs:List Value,fs.length=vs.length/\PySem.W.KatTups h vs fs/\∀v∈fs,∃i t,v=Value.int i t
 |[],key,_=>⟨[],rfl,trivial,λv h=>by cases h⟩
 |v::vs,key,x=>by
  obtain⟨b,t,y,rfl,e⟩:=x 0 v rfl;obtain⟨fs,h1,h2,h3⟩:=lM (vs:=vs) (key:=λj=>key (j+1)) λj u q=>x (j+1) u q
  refine⟨.int (key 0) t::fs,by rw[length_cons,length_cons,h1],⟨⟨b,_,_,_,rfl,e,rfl,rfl,rfl⟩,h2⟩,λu hu=>?_⟩
  rcases List.mem_cons.mp hu with rfl|hu
  .exact⟨_,_,rfl⟩
  .exact h3 u hu
theorem zz{κ:SortKind}{key:Nat->Int}{vs:List Value}(hκ:κ = tuples' true)(x:PairsAt s.heap key vs)(hinj:∀i j,i<vs.length->j<vs.length->key i=key j->i=j){i j:Nat}(hi:i<vs.length)(hj:j<vs.length)(hij:i≠j){C:Bool->Shared->Prop}(hC:C (decide (key i<key j)) s):
  kas_ask prog w A κ vs i j C s:=by
 subst hκ;obtain⟨b,t,y,e1,e2⟩:=x i _ (List.getElem?_eq_getElem hi);obtain⟨b',t',y',e1',e2'⟩:=x j _ (List.getElem?_eq_getElem hj);have g1:vs.getD i Value.none=.ref b:=by rw[getD_eq_getElem?_getD,List.getElem?_eq_getElem hi];exact e1
 have g2:vs.getD j Value.none=.ref b':=by rw[getD_eq_getElem?_getD,List.getElem?_eq_getElem hj];exact e1'
 unfold kas_ask;rw[g1,g2];refine PySem.W.kat_lt e2 rfl e2' rfl (PySem.W.kat_cons ?_);have ne:(key i==key j)=false:=beq_eq_false_iff_ne.mpr λe=>hij (hinj i j hi hj e)
 refine SeqAt.EqAt.int_int (key i) t (key j) t' _ _ _ _ ?_;rw[ne];refine PySem.W.kat_no ?_;exact PySem.W.kat_lt_int hC
theorem iG{a:Addr}{vs:List Value}{key:Nat->Int}{n:Nat}{P:PySem.Fin->Shared->Prop}(ho:s.heap.get? a=some (seqObj "list" vs.toArray n))(PA:Heap->Prop)(x:PA s.heap)(keeps:∀h h':Heap,PA h->(∀b o,o.cls=.type "tuple" -> h.get? b=some o->h'.get? b=some o)->PA h'){T:Value}(hT2:(T==T)=true)(hT3:(T != Value.type "tuple")=true)(tups:∀h,PA h->∃fs:List Value,fs.length=vs.length/\PySem.W.KatTups h vs fs/\∀v∈fs,∀M:Model,PySem.W.Looks M h (typeOf v) T)
  (ask:∀s':Shared,PA s'.heap->∀i j,i<vs.length->j<vs.length->i≠j->∀C:Bool->Shared->Prop,C (decide (key i<key j)) s'->kas_ask prog w A (tuples' true) vs i j C s') (hinj:∀i j,i<vs.length->j<vs.length->key i=key j->i=j) (h64:vs.length<64)
  (h:∀p:Array Nat,Pm vs.length p->Up key p vs.length->P (.done (.ret .none)) {s with heap:=sortedHeap s.heap a vs (List.toArray (p.toList.map λi=>vs.getD i Value.none))}):
  wpAny (model prog w) A (Builtin.«list.sort» ⟨[.ref a],[]⟩) P E s:=by
 rw[list_sort_plain];have ha:a<s.heap.objs.size:=lt_size ho;refine wpAny_bind (listItems_at ho rfl ?_);refine wpAny_bind (listUpdate_at ho rfl ?_);obtain⟨e1,ho1⟩:∃e1,(s.heap.update a (Obj.mapSeq λ_=>#[])).get? a=some (seqObj "list" #[] e1):=⟨_,get?_update_seq ho (λ_=>#[])⟩;refine wpAny_bind (seqEpoch_at ho1 rfl ?_);refine wpAny_bind (wpAny_newTuple ?_);refine wpAny_bind (wpAny_newList ?_);refine wpAny_holding ?_;have ho6:(((s.heap.update a (Obj.mapSeq λ_=>#[])).push (seqObj "tuple" vs.toArray 0)).push (seqObj "list" #[] 0)).get? a=some (seqObj "list" #[] e1):=get?_push_of_some _ (get?_push_of_some _ ho1);have kp:∀b o,o.cls=.type "tuple" -> s.heap.get? b=some o->(((s.heap.update a (Obj.mapSeq λ_=>#[])).push (seqObj "tuple" vs.toArray 0)).push (seqObj "list" #[] 0)).get? b=some o:=λb o hc eo=>by
  have hb:b≠a:=λz=>by
   subst z;rw[ho]at eo;cases eo;exact absurd hc (by intro z;injection z with z;exact absurd z (by decide))
  exact get?_push_of_some _ (get?_push_of_some _ (aN hb eo))
 have x6:=keeps _ _ x kp;show wpAny (model prog w) A _ P E {s with heap:=((s.heap.update a (Obj.mapSeq λ_=>#[])).push (seqObj "tuple" vs.toArray 0)).push (seqObj "list" #[] 0)};dsimp only;have fin:∀p:Array Nat,Pm vs.length p->Up key p vs.length->∀st':SortSt,(arrOf st').map (·.2)=List.toArray (p.toList.map λi=>vs.getD i Value.none)->failedOf st'=none ->
   wpAny (model prog w) A (do
    let sorted:=(arrOf st').map (·.2)
    let touched:=(<-seqEpoch a) != e1
    Builtin.List.listUpdate (.ref a) λ_=>sorted
    if let some e:=failedOf st' then rule "list.sort.comparison-raised";throw e
    if touched then rule "list.sort.modified";raiseError "ValueError" "list modified during sort"
    ret .none) P E {s with heap:=((s.heap.update a (Obj.mapSeq λ_=>#[])).push (seqObj "tuple" vs.toArray 0)).push (seqObj "list" #[] 0)}:=λp hp hu st' ha' hf=>by
  have hsz:(List.toArray (p.toList.map λi=>vs.getD i Value.none)).size=vs.length:=by rw[List.size_toArray,length_map,length_toList,hp.size]
  refine wpAny_bind (seqEpoch_at ho6 rfl ?_);refine wpAny_bind (listUpdate_at ho6 rfl ?_ (hsz2:=by rw[ha',hsz,sizeLine_eq];lia));rw[hf,ha'];simp only[bne_self_eq_false,Bool.false_eq_true,if_false];exact wpAny_pure (h p hp hu)
 by_cases h2:vs.toArray.size<2
 .rw[if_pos h2,if_pos h2]
  refine wpAny_bind (wpAny_pure ?_);rw[StateT.run_pure];refine wpAny_bind (wpAny_pure ?_);refine fin (List.toArray (List.range vs.length)) ⟨List.Perm.refl _⟩ (λi j hij hj=>by simp at h2;lia) (SortSt.mk' general' (vs.toArray.zip vs.toArray) #[] 7 none) ?_ rfl;apply Array.toList_inj.mp;show((vs.toArray.zip vs.toArray).map (·.2)).toList=_;rw[Array.toList_map,Array.toList_zip];apply ext_getElem?;intro k;by_cases hk:k<vs.length
  .simp[hk,getD_eq_getElem?_getD]
  .simp[hk]
 .rw[if_neg h2,if_neg h2]
  have hn2:2<=vs.length:=by simp at h2;lia
  obtain⟨fs,f1,f2,f3⟩:=tups _ x6;refine wpAny_bind (PySem.W.kat_kind (s:={s with heap:=((s.heap.update a (Obj.mapSeq λ_=>#[])).push (seqObj "tuple" vs.toArray 0)).push (seqObj "list" #[] 0)}) (T:=T) f2 (by lia) (λv hv=>f3 v hv _) hT2 ?_)
  .rw[hT3]
   refine wpAny_bind (wpAny_mono (PySem.W.kat_run (s:={s with heap:=((s.heap.update a (Obj.mapSeq λ_=>#[])).push (seqObj "tuple" vs.toArray 0)).push (seqObj "list" #[] 0)})
    (Q:=λst' s'=>∃p:Array Nat,Pm vs.length p/\Up key p vs.length/\(arrOf st').map (·.2)=List.toArray (p.toList.map λi=>vs.getD i Value.none)/\failedOf st'=none/\s'={s with heap:=((s.heap.update a (Obj.mapSeq λ_=>#[])).push (seqObj "tuple" vs.toArray 0)).push (seqObj "list" #[] 0)})
    (G:=λp s'=>Pm vs.length p/\Up key p vs.length/\s'={s with heap:=((s.heap.update a (Obj.mapSeq λ_=>#[])).push (seqObj "tuple" vs.toArray 0)).push (seqObj "list" #[] 0)})
    (ks:=vs) (vs:=vs) rfl hn2 h64 (λp st' s' a1 a2 a3 a4=>⟨p,a4.1,a4.2.1,PySem.W.kat_snds rfl a2,a3,a4.2.2⟩) ?_) ?_ λ_ _ e=>e)
   .exact BW hinj (λi j hi hj hij C hC=>ask _ x6 i j hi hj hij C hC) hn2 λp hp hu=>⟨hp,hu,rfl⟩
   .rintro⟨⟨⟩,st'⟩ s' ⟨p,hp,hu,har,hf,rfl⟩
    exact fin p hp hu st' har hf
theorem nu{a:Addr}{vs:List Value}{key:Nat->Int}{n:Nat}{P:PySem.Fin->Shared->Prop}(ho:s.heap.get? a=some (seqObj "list" vs.toArray n))(x:PairsAt s.heap key vs)(hinj:∀i j,i<vs.length->j<vs.length->key i=key j->i=j)(h64:vs.length<64)
  (h:∀p:Array Nat,Pm vs.length p->Up key p vs.length->P (.done (.ret .none)) {s with heap:=sortedHeap s.heap a vs (List.toArray (p.toList.map λi=>vs.getD i Value.none))}):
  wpAny (model prog w) A (Builtin.«list.sort» ⟨[.ref a],[]⟩) P E s:=by
 refine iG ho (λh=>PairsAt h key vs) x (λh h'=>PairsAt.keeps) (T:=.type "int") (by decide) (by decide) (λh xh=>?_) (λs' xs i j hi hj hij C hC=>zz rfl xs hinj hi hj hij hC) hinj h64 h;obtain⟨fs,f1,f2,f3⟩:=lM xh;refine⟨fs,f1,f2,λv hv M=>?_⟩
 obtain⟨i,t,rfl⟩:=f3 v hv;exact PySem.W.Looks.of_pure rfl
end
def uh(es:List (aw×D))(l:List Int):List D:=(aQ l).map λk=>.tuple [.int k,(eL es (.inl k)).getD .none]
def jn(i:Nat):Dv->Option D:=λδ=>(B2 δ[i]?).bind λes=>(oD es).bind λl=>if l.length<64/\l.Nodup then some (.list (uh es l))else none
section
variable{X:Cx}{o:Expr}{p pos apos cpos:Pos}{td:TE}
def BD(td:TE):TE:=λσ H Q=>td σ H λx H1=>∃(a:Addr) (kvs:List (aw×V)) (ns:List Int),x=V.ref a/\H1 a=some (.dK kvs)/\kvs.map (·.1)=ns.map Sum.inl/\ns.length<64/\ns.Nodup/\
 ∀(H':Hp) (l:Addr) (as:List Addr) (q:Array Nat),(∀b,H1 b≠none->H' b=H1 b)->H1 l=none->Pm ns.length q->Up (λj=>ns.getD j 0) q ns.length->as.length=ns.length->H' l=some (.lst (q.toList.map λi=>V.ref (as.getD i 0)))->
  (∀(j:Nat) (b:Addr),as[j]? = some b->H1 b=none/\∃k v,ns[j]? = some k/\kvs[j]? = some (.inl k,v)/\H' b=some (.tup [.int k,v]))->Q (.ref l) H'
theorem Fy{ns:List Int}(h:ns.Nodup):∀i j,i<ns.length->j<ns.length->ns.getD i 0=ns.getD j 0->i=j:=λi j hi hj e=>by
 rw[getD_eq_getElem?_getD,getD_eq_getElem?_getD,List.getElem?_eq_getElem hi,List.getElem?_eq_getElem hj]at e;have pw:=List.pairwise_iff_getElem.mp h;rcases Nat.lt_trichotomy i j with q|q|q
 .exact absurd e (pw i j hi hj q)
 .exact q
 .exact absurd e.symm (pw j i hj hi q)
theorem Ah{κ:Type}:∀(kvs:List (κ × V)) (vs:List (κ × Value)) (j:Nat) (k:κ) (u:Value),KV kvs vs->vs[j]? = some (k,u)->∃v,kvs[j]? = some (k,v)/\RelV v u
 |[],vs,j,k,u,h,e=>by cases h;simp at e
 |p::kvs,[],j,k,u,h,e=>by simp at e
 |p::kvs,r::vs,0,k,u,h,e=>by
  cases h with
  |cons a b=>
   have e:r=(k,u):=by simpa using e
   subst e;obtain⟨a1,a2⟩:=a;obtain⟨k',v⟩:=p;have a1:k'=k:=a1;subst a1;exact⟨v,rfl,a2⟩
 |p::kvs,r::vs,j+1,k,u,h,e=>by
  cases h with
  |cons a b=>
   obtain⟨v,h1,h2⟩:=Ah kvs vs j k u b (by simpa using e);exact⟨v,by simpa using h1,h2⟩
theorem Fx:∀{l:List Int},l.Nodup->(l.map (Sum.inl:Int->aw)).Nodup:=λ{l} h=>by
 show List.Pairwise _ _;rw[List.pairwise_map];exact List.Pairwise.imp (λhne z=>hne (by cases z;rfl)) h
theorem vQ:∀{es:List (aw×D)} {i:Nat} {k:aw} {d:D},(es.map (·.1)).Nodup->es[i]? = some (k,d)->eL es k=some d
 |[],i,k,d,_,h=>by simp at h
 |e::es,0,k,d,nd,h=>by
  have h:e=(k,d):=by simpa using h
  subst h;simp[eL,find?_cons]
 |e::es,i+1,k,d,nd,h=>by
  have h:es[i]? = some (k,d):=by simpa using h
  rw[map_cons]at nd;obtain⟨n1,n2⟩:=List.nodup_cons.mp nd;have ne:¬e.1=k:=λz=>n1 (by rw[z];exact List.mem_map.mpr ⟨(k,d),List.mem_of_getElem? h,rfl⟩)
  have:=vQ n2 h;unfold eL at this ⊢;rw[find?_cons,decide_eq_false ne];exact this
theorem xi(hc:X.calm=true)(hg:Gl X "sorted")(hm:X.mg "sorted" = none)(ho:PE X o td)
  (hbase:attributeBase o "items" X.env (eval o X.env)=eval o X.env:=by rfl) (hline:(apos.endLine==cpos.line)=true:=by rfl)
  (he:starEach [.Call (.Attribute o "items" apos) [] [] cpos] X.env=(false,eval (.Call (.Attribute o "items" apos) [] [] cpos) X.env)::starEach [] X.env:=by rfl) (hpl:(backTo pos (starEach [] X.env)).any (·.1)=false:=by rfl):
  PE X (.Call (.Name "sorted" p) [.Call (.Attribute o "items" apos) [] [] cpos] [] pos) (BD td):=by
 intro pins s σ H Q I h;refine wpAny_Call_Name_kw (d9 I hg hm (u:=.builtin "sorted") (by decide+kernel) ?_ (by decide) (by decide));refine PyProof.Rows.callWith_builtin1 ?_ he hpl;rw[he];show wpAny _ _ (spliced ((false,eval _ X.env)::backTo pos (starEach [] X.env))) _ _ s;refine Calls.spliced_cons ?_;refine wpAny_Call_method0_late hbase hline (bB (ho pins s σ H _ I h) λv s1 ⟨x,H1,I1,r1,q1⟩=>?_)
 obtain⟨a,kvs,ns,e1,ha,hk,h64,nd,q⟩:=q1;subst e1;cases r1;obtain⟨t1,t2,_⟩:=Ar I1 (.inl ⟨kvs,.inl ha⟩);obtain⟨z,hlo,vs,rel,dd⟩:=kA I1.hok (.inl ha);refine⟨"dict","dict.items",PySem.F.plainAttrs_dict,PySem.F.slot_dict_items,PySem.F.type_dict_items,t1,t2,Calls.callWith_builtin rfl (PySem.evalArgs_none ?_)⟩;refine call_meetsIn PySem.F.slot_dict_items dd.typeIs PySem.F.entry_dict_items (PySem.F.args_dict_items_1 _) (meets_dict_items (aF X.prog X.w) a hlo) ⟨⟨vs,dd⟩,?_⟩;refine Calls.spliced_nil ?_;have hln:vs.length=ns.length:=by
  have:=congrArg List.length hk;simp only[length_map]at this;rw[<-rel.length,this]
 have dd1:=dd.push {cls:=.type "dict_items",data:=.fields #[.ref a]};obtain⟨ep,dat⟩:=dd1.dictAt;refine Calls.call_function_entry kind_sorted plain_sorted entry_sorted (args_sorted1 _) ?_;unfold Builtin.«sorted»;refine wpAny_bind (m:=checkCount "sorted" 1 1 _) (wpAny_pure ?_);refine wpAny_bind (PySem.W.kdx_collect (A:=X.A.in1) (knd:=aF X.prog X.w) (kvs:=vs) (ep:=ep) (d:=a) (I1.ok.hd hc) ⟨_,get?_push_size _ rfl,rfl,rfl⟩ dat (by rw[hln,sizeLine_eq];lia) λh' tk as hk' hal hG=>?_)
 dsimp only at hk' hG ⊢;have hasn:as.length=ns.length:=by rw[hal,hln]
 have kv:vs.map (·.1)=ns.map Sum.inl:=by rw[pU rel];exact hk
 have at_:∀(j:Nat) (b:Addr),as[j]? = some b->∃k t u,ns[j]? = some k/\vs[j]? = some (.inl k,u)/\h'.get? b=some {cls:=.type "tuple",data:=.seq #[.int k t,u]}:=λj b eb=>by
  obtain⟨ky,k,u,e1,e2,e3⟩:=hG.pairs j b eb;have e4:(vs.map (·.1))[j]? = some k:=by rw[getElem?_map,e1];rfl
  rw[kv,getElem?_map]at e4;cases e5:ns[j]? with
  |none=>rw[e5]at e4;cases e4
  |some i=>
   rw[e5]at e4;have e4:Sum.inl i=k:=by simpa using e4
   subst e4;rcases ba (show kz (.inl i) ky=true from e2)with⟨i',t,q1,rfl⟩|⟨y,t,q1,rfl⟩
   .cases q1
    exact⟨i,t,u,rfl,e1,e3⟩
   .cases q1
 refine wpAny_bind (wpAny_newList ?_ (by rw[length_map,hasn,sizeLine_eq];lia));have hoL:(h'.push (seqObj "list" (as.map Value.ref).toArray 0)).get? h'.objs.size=some (seqObj "list" (as.map Value.ref).toArray 0):=get?_push_size _ rfl;have pa:PairsAt (h'.push (seqObj "list" (as.map Value.ref).toArray 0)) (λj=>ns.getD j 0) (as.map Value.ref):=λj v ev=>by
  rw[getElem?_map]at ev;cases eb:as[j]? with
  |none=>rw[eb]at ev;cases ev
  |some b=>
   rw[eb]at ev;cases ev;obtain⟨k,t,u,e1,e2,e3⟩:=at_ j b eb;have ek:ns.getD j 0=k:=by rw[getD_eq_getElem?_getD,e1];rfl
   refine⟨b,t,u,rfl,?_⟩;show _=some ({cls:=.type "tuple",data:=.seq #[.int (ns.getD j 0) t,u]}:Obj);rw[ek];exact get?_push_of_some _ e3
 have hlv:(as.map Value.ref).length=ns.length:=by rw[length_map,hasn]
 refine wpAny_bind (wpAny_holding (wpAny_call_entry slot_list_sort ⟨_,hoL,rfl⟩ entry_list_sort (nu hoL pa (by rw[hlv];exact Fy nd) (by rw[hlv];exact h64) λq' hp hu=>⟨_,rfl,?_⟩) (args_list_sort _)))
 refine wpAny_pure ⟨_,rfl,?_⟩;rw[hlv]at hp hu;generalize hout:List.toArray (q'.toList.map λi=>(as.map Value.ref).getD i Value.none)=out
 have I2:Inv X pins σ H1 {s1 with heap:=h',toks:=tk}:=I1.kept λb o eo=>hk' b o (get?_push_of_some _ eo)
 have kp:∀b o,h'.get? b=some o->(sortedHeap (h'.push (seqObj "list" (as.map Value.ref).toArray 0)) h'.objs.size (as.map Value.ref) out).get? b=some o:=λb o eo=>by
  have hb:b≠h'.objs.size:=ne_of_lt (lt_size eo);exact aN hb (get?_push_of_some _ (get?_push_of_some _ (aN hb (get?_push_of_some _ eo))))
 obtain⟨e1,ho1⟩:∃e1,((h'.push (seqObj "list" (as.map Value.ref).toArray 0)).update h'.objs.size (Obj.mapSeq λ_=>#[])).get? h'.objs.size=some (seqObj "list" #[] e1):=⟨_,get?_update_seq hoL (λ_=>#[])⟩;have ho2:=get?_push_of_some (seqObj "list" #[] 0) (get?_push_of_some (seqObj "tuple" (as.map Value.ref).toArray 0) ho1);have ho3:=get?_update_seq ho2 (λ_=>out);generalize hts:((List.range ns.length).map λj=>[V.int (ns.getD j 0),((kvs[j]?).map (·.2)).getD V.non])=ts
 have lo_:∀(j:Nat) (b:Addr),as[j]? = some b->s1.heap.objs.size<b:=λj b eb=>by
  have:=hG.above b (List.mem_of_getElem? eb);rw[size_push]at this;exact Nat.lt_of_lt_of_le (lt_succ_self _) (Nat.le_of_lt this)
 have fr:∀(j:Nat) (b:Addr),as[j]? = some b->H1 b=none/\b≠h'.objs.size/\s1.heap.objs.size<=b:=λj b eb=>by
  obtain⟨_,_,_,_,_,e3⟩:=at_ j b eb;exact⟨I1.hok.fresh (Nat.le_of_lt (lo_ j b eb)),ne_of_lt (lt_size e3),Nat.le_of_lt (lo_ j b eb)⟩
 have hD:H1 h'.objs.size=none:=I2.hok.fresh (le_refl _);have tsat:∀(j:Nat) (b:Addr),as[j]? = some b->∃k v u t,ns[j]? = some k/\kvs[j]? = some (.inl k,v)/\ts[j]? = some [V.int k,v]/\RelV v u/\h'.get? b=some {cls:=.type "tuple",data:=.seq #[.int k t,u]}:=λj b eb=>by
  obtain⟨k,t,u,e1,e2,e3⟩:=at_ j b eb;obtain⟨v,e4,e5⟩:=Ah kvs vs j _ u rel e2;have hj:j<ns.length:=(List.getElem?_eq_some_iff.mp e1).1;refine⟨k,v,u,t,e1,e4,?_,e5,e3⟩;rw[<-hts,getElem?_map,List.getElem?_range hj];show some [V.int (ns.getD j 0),((kvs[j]?).map (·.2)).getD V.non]=_;rw[e4,getD_eq_getElem?_getD,e1];rfl
 have ext:∀b,H1 b≠none->(λb=>if H1 b≠none then H1 b else if b=h'.objs.size then some (HO.lst (q'.toList.map λi=>V.ref (as.getD i 0)))else xc as ts b) b=H1 b:=λb hb=>if_pos hb
 have le1:s1.heap.objs.size<=h'.objs.size:=by
  have v:=hk' s1.heap.objs.size _ (get?_push_size _ rfl);exact Nat.le_of_lt (lt_size v)
 have qlt:∀i∈q'.toList,i<ns.length:=λi hi=>List.mem_range.mp (hp.perm.mem_iff.mp hi)
 have gv:∀i,i<ns.length->(as.map Value.ref).getD i Value.none=Value.ref (as.getD i 0):=λi hi=>by
  rw[getD_eq_getElem?_getD,getElem?_map,getD_eq_getElem?_getD,List.getElem?_eq_getElem (by rw[hasn];exact hi)];rfl
 have L:=xF (h':=sortedHeap (h'.push (seqObj "list" (as.map Value.ref).toArray 0)) h'.objs.size (as.map Value.ref) out) (t':=tk) I1 (λb o eo=>kp b o (hk' b o (get?_push_of_some _ eo))) ext λb o nb eb=>by
  simp only[nb,ne_eq,not_true,if_false]at eb;split at eb
  .rename_i ebs
   subst ebs;cases eb;refine⟨le1,show ObjOk X.prog X.w _ _ _ (.lst (q'.toList.map λi=>V.ref (as.getD i 0)))from ⟨by rw[length_map,length_toList,hp.size,sizeLine_eq];lia,out.toList,_,?_,by rw[Array.toArray_toList];exact ho3⟩⟩
   rw[<-hout];show Vals _ (q'.toList.map λi=>(as.map Value.ref).getD i Value.none)
   have key:∀l:List Nat,(∀i∈l,i<ns.length)->Vals (l.map λi=>V.ref (as.getD i 0)) (l.map λi=>(as.map Value.ref).getD i Value.none):=λl=>by
    induction l with
    |nil=>intro _;exact .nil
    |cons x l ih=>
     intro hx;exact .cons (gv x (hx x mem_cons_self)) (ih λi hi=>hx i (mem_cons_of_mem _ hi))
   exact key _ qlt
  .obtain⟨j,t,h1',h2',rfl⟩:=ot eb
   obtain⟨_,_,g⟩:=fr j b h1';obtain⟨k,v,u,tt,_,_,e3,e4,e5⟩:=tsat j b h1';rw[e3]at h2';cases h2';exact⟨g,show ObjOk X.prog X.w _ _ _ (.tup [V.int k,v])from ⟨by rw[sizeLine_eq];show 2<=16777216;decide,[.int k tt,u],.cons ⟨tt,rfl⟩ (.cons e4 .nil),⟨_,kp b _ e5,rfl,_,rfl⟩,_,kp b _ e5,rfl⟩⟩
 refine⟨.ref h'.objs.size,_,L,rfl,q _ _ as q' ext hD hp hu hasn (by simp[hD]) λj b eb=>?_⟩
 obtain⟨g1,g2,g3⟩:=fr j b eb;obtain⟨k,v,u,tt,e1,e2,e3,_,_⟩:=tsat j b eb;exact⟨g1,k,v,e1,e2,by simp only[g1,ne_eq,not_true,if_false];rw[if_neg g2];exact rf hG.rise eb e3⟩
theorem xT(i:Nat){x:Str}{p3:Pos}(hg:Gl X "sorted")(hm:X.mg "sorted" = none)(hc:X.calm=true:=by rfl)(hN:X.N[i]? = some x:=by rfl)(hv:yk X.env.scope x:=by first|exact Or.inl rfl|exact Or.inr (Or.inl rfl)|exact Or.inr (Or.inr rfl))(hd:(x==("__debug__":Str))=false:=by decide)(hcd:(x==("__classdict__":Str))=false:=by decide)
  (hbase:attributeBase (.Name x p3) "items" X.env (eval (.Name x p3) X.env)=eval (.Name x p3) X.env:=by rfl) (hline:(apos.endLine==cpos.line)=true:=by rfl)
  (he:starEach [.Call (.Attribute (.Name x p3) "items" apos) [] [] cpos] X.env=(false,eval (.Call (.Attribute (.Name x p3) "items" apos) [] [] cpos) X.env)::starEach [] X.env:=by rfl) (hpl:(backTo pos (starEach [] X.env)).any (·.1)=false:=by rfl):
  EV X (.Call (.Name "sorted" p) [.Call (.Attribute (.Name x p3) "items" apos) [] [] cpos] [] pos) (jn i):=
 PE.imp (xi hc hg hm (d8 hN hv hd hcd) hbase hline he hpl) λσ H Q h=>by
  obtain⟨H₀,Z₀,Z,δ,d,hh,e,k⟩:=h;obtain⟨es,e1,e⟩:=bind_some e;obtain⟨l,e2,e⟩:=bind_some e;obtain⟨⟨h64,nd⟩,e⟩:=bR e;cases e;obtain⟨a,kvs,h1,h4,h5⟩:=lP hh e1;have hkl:kvs.map (·.1)=l.map Sum.inl:=by rw[<-h5.1];exact jx e2
  refine⟨_,h1,a,kvs,l,rfl,h4,hkl,h64,nd,λH' lo as q' ext hl hp hu hal hl' hpr=>?_⟩
  have n:=New.many (Z:=Z) (H':=H') hh.zh ext;refine k _ _ _ (hh.new n) n.z (.lst (SqL.of (by rw[if_pos hl,hl'];rfl)) ?_);have ei:aQ l=q'.toList.map λi=>l.getD i 0:=by
   refine(fJ ?_ ?_).symm
   .have:=hp.perm.map λi=>l.getD i 0
    have e:((List.range l.length).map λi=>l.getD i 0)=l:=by
     apply ext_getElem?;intro j;by_cases hj:j<l.length
     .rw[getElem?_map,List.getElem?_range hj,List.getElem?_eq_getElem hj]
      show some (l.getD j 0)=_;rw[getD_eq_getElem?_getD,List.getElem?_eq_getElem hj];rfl
     .rw[getElem?_eq_none (by simp;lia),getElem?_eq_none (by lia)]
    rw[e]at this;exact this
   .rw[List.pairwise_map,List.pairwise_iff_getElem]
    intro i j hi hj hij;have hz:=hp.size;have:=hu i j hij (by rw[length_toList,hz]at hj;exact hj);unfold ky at this;have e1:q'.getD i 0=q'.toList[i]:=by simp[Array.getD,show i<q'.size by simpa using hi]
    have e2:q'.getD j 0=q'.toList[j]:=by simp[Array.getD,show j<q'.size by simpa using hj]
    rw[e1,e2]at this;exact Int.le_of_lt this
  unfold uh;rw[ei,map_map];have qlt:∀i∈q'.toList,i<l.length:=λi hi=>List.mem_range.mp (hp.perm.mem_iff.mp hi)
  have key:∀u:List Nat,(∀i∈u,i<l.length)->Reps X.K (λb=>if H b=none then Gz (H' b)else Z b) (u.map λi=>V.ref (as.getD i 0)) (u.map ((λk=>PyData.tuple [.int k,(eL es (.inl k)).getD .none]) ∘ λi=>l.getD i 0)):=λu=>by
   induction u with
   |nil=>intro _;exact .nil
   |cons i u ih=>
    intro hx;refine .cons ?_ (ih λj hj=>hx j (mem_cons_of_mem _ hj))
    have hi:=hx i mem_cons_self;have eb:as[i]? = some (as.getD i 0):=by rw[getD_eq_getElem?_getD,List.getElem?_eq_getElem (by rw[hal];exact hi)];rfl
    obtain⟨g1,k',v,g2,g3,g4⟩:=hpr i _ eb;have el:l.getD i 0=k':=by rw[getD_eq_getElem?_getD,g2];rfl
    have hkv:(kvs.map (·.2))[i]? = some v:=by rw[getElem?_map,g3];rfl
    obtain⟨d,q1,q2⟩:=h5.2.getV hkv;have hek:(es.map (·.1))[i]? = some (.inl k'):=by rw[h5.1,getElem?_map,g3];rfl
    have hes:es[i]? = some (.inl k',d):=by
     rw[getElem?_map]at q1 hek;cases e:es[i]? with
     |none=>rw[e]at q1;cases q1
     |some z=>
      rw[e]at q1 hek;obtain⟨z1,z2⟩:=z;have hek:z1=.inl k':=by simpa using hek
      have q1:z2=d:=by simpa using q1
      rw[hek,q1]
    have hgt:eL es (.inl k')=some d:=vQ (by rw[jx e2];exact Fx nd) hes;show Rep _ _ _ (.tuple [.int (l.getD i 0),(eL es (.inl (l.getD i 0))).getD .none]);rw[el,hgt];exact .tup (SqT.of (by rw[if_pos g1,g4];rfl)) (.cons (.int k') (.cons (q2.same n.z) .nil))
  exact key _ qlt
end
theorem pO:typeLookup (.type "tuple") "keys" = pure none:=by rw[typeLookup_type,builtinLookup_eq_fast];kernel_rfl
theorem rF:typeLookup (.type "list") "keys" = pure none:=by rw[typeLookup_type,builtinLookup_eq_fast];kernel_rfl
section
variable{prog:Program}{w:World}{A:Around}{E:Value->Shared->Prop}{s:Shared}
theorem kM{a:Addr}{o:Obj}{xs:Array Value}{k:Nat}{Q:Option Value->Shared->Prop}(hx:s.heap.get? a=some o)(hc:o.cls=.type "tuple")(hdat:o.data=.seq xs k)(hd:o.dict=none)(hA:A.handled=none)
  (h:∀h' tk,(∀b o,s.heap.get? b=some o->h'.get? b=some o)->Q none {s with heap:=h',toks:=tk}):wpAny (model prog w) A (getAttr? (.ref a) "keys") Q E s:=by
 obtain⟨c,dct,dat,sl⟩:=o;simp only at hc hdat hd;subst hc hdat hd;obtain⟨hp,g,d,tk,os⟩:=s;have hT:∀tk',(⟨hp,g,d,tk',os⟩:Shared).TypeIs (.ref a) "tuple":=λ_=>⟨_,hx,rfl⟩
 have f1:=sub_AttributeError;have f3:=PySem.F.slot_tuple_getattribute.lookup;have f4:=PySem.F.slot_tuple_getattribute.bind (.ref a);have f5:=am_tuple_getattr_none;unfold getAttr? getAttrBy? getAttrBy
 repeat (any_goals (first|assumption|exact hT _|((with_reducible show wpAny _ _ (call (Value.builtin "tuple.__getattribute__") _ _) _ _ _);refine call_meets PySem.F.slot_tuple_getattribute (hT _) am_entry_tuple_getattribute (PySem.F.args_tuple_getattribute_2 _ _) (meets_getattribute_miss_tuple a xs k sl "keys" _ pO (by decide+kernel) (by decide+kernel)) ⟨hx,hA,λh' tk' e hx'=>?_⟩)|wp_step))
 obtain⟨t',u',he⟩:=hx'.there;show wpAny _ _ (getattributeRaised _ _ _ _ _ _ _) _ _ _;unfold getattributeRaised
 repeat (any_goals (first|assumption|wp_step))
 exact h h' tk' hx'.of.keeps
theorem lY{a:Addr}{o:Obj}{xs:Array Value}{k:Nat}{Q:Option Value->Shared->Prop}(hx:s.heap.get? a=some o)(hc:o.cls=.type "list")(hdat:o.data=.seq xs k)(hd:o.dict=none)(hA:A.handled=none)
  (h:∀h' tk,(∀b o,s.heap.get? b=some o->h'.get? b=some o)->Q none {s with heap:=h',toks:=tk}):wpAny (model prog w) A (getAttr? (.ref a) "keys") Q E s:=by
 obtain⟨c,dct,dat,sl⟩:=o;simp only at hc hdat hd;subst hc hdat hd;obtain⟨hp,g,d,tk,os⟩:=s;have hT:∀tk',(⟨hp,g,d,tk',os⟩:Shared).TypeIs (.ref a) "list":=λ_=>⟨_,hx,rfl⟩
 have f1:=sub_AttributeError;have f3:=PySem.F.slot_list_getattribute.lookup;have f4:=PySem.F.slot_list_getattribute.bind (.ref a);have f5:=am_list_getattr_none;unfold getAttr? getAttrBy? getAttrBy
 repeat (any_goals (first|assumption|exact hT _|((with_reducible show wpAny _ _ (call (Value.builtin "list.__getattribute__") _ _) _ _ _);refine call_meets PySem.F.slot_list_getattribute (hT _) am_entry_list_getattribute (PySem.F.args_list_getattribute_2 _ _) (meets_getattribute_miss_list a xs k sl "keys" _ rF (by decide+kernel) (by decide+kernel)) ⟨hx,hA,λh' tk' e hx'=>?_⟩)|wp_step))
 obtain⟨t',u',he⟩:=hx'.there;show wpAny _ _ (getattributeRaised _ _ _ _ _ _ _) _ _ _;unfold getattributeRaised
 repeat (any_goals (first|assumption|wp_step))
 exact h h' tk' hx'.of.keeps
end
theorem hV:entryFor table "dict.update.loop" = some Builtin.«dict.update.loop»:=entryFor_of_tree (by kernel_rfl)
theorem bY:plainId "dict.update.loop" = true:=by decide+kernel
def Bj(kvs:List (aw×Value))(ps:List (aw×Value)):List (aw×Value):=ps.foldl (λacc p=>stored acc p.1 p.2) kvs
theorem tz(kvs:List (aw×Value))(k:aw)(v:Value):(stored kvs k v).length<=kvs.length+1:=by
 unfold stored;split
 .rw[length_map];lia
 .simp
section
variable{prog:Program}{w:World}{A:Around}{R:Result->Shared->Prop}{I:Addr}{fp wr:List Addr}{G:Array GenState->Array GenState->Prop}{n:Nat}{P:Nat->Value->Prop}{St:Nat->Shared->Prop}
theorem qE(W:WalksS prog w A.in1 I fp wr G n P St)(S:Addr)(hSf:S∉fp)(res:Value)(ps:List (aw×Value))(hn:ps.length=n)(hz:n<=100000){h₁:Heap}
  (hP:∀i v,P i v->∃b key k u,v=.ref b/\b≠S/\b∉wr/\ps[i]? = some (k,u)/\(aF prog w).is k key=true/\IsTup h₁ b #[key,u]):
  ∀(m i:Nat) (s:Shared) (kvs:List (aw×Value)),n-i=m->i<=n->St i s->s.heap.DictOf (aF prog w) S kvs->kvs.length<=i->(∀b o,b≠S->b∉wr->h₁.get? b=some o->s.heap.get? b=some o)->
   (∀s',Moved (S::wr) G s s'->s'.heap.DictOf (aF prog w) S (Bj kvs (ps.drop i))->R (.ok (.ret res)) s')->
   codeAny (model prog w) A (.builtin "dict.update.loop" ⟨[.ref S,.ref I,rawInt i,res],[]⟩) R s:=by
 have hSw:S∉wr:=λh=>hSf (W.sub _ h)
 have hsub:∀b∈wr,b∈S::wr:=λb hb=>mem_cons_of_mem _ hb
 intro m
 induction m with
 |zero=>
  intro i s kvs hk hi hst hS hl hkp hR;have hin:i=n:=by lia
  subst hin;refine codeAny_builtin hV ?_;rw[Around.under_plainId bY _];show wpAny _ A.in1 (pyNext (.ref I) >>= _) _ _ s;refine wpAny_bind (W.done s _ _ hst λs' hm=>?_);show wpAny _ A.in1 (Builtin.Dict.addKeywords S [] >>= _) _ _ _;refine wpAny_bind (wpAny_pure (wpAny_pure (hR s' (hm.mono hsub) ?_)));rw[List.drop_of_length_le (by lia)];obtain⟨o,es,ep,ho,r⟩:=hS;exact⟨o,es,ep,hm.heap S _ hSw ho,r⟩
 |succ m ih=>
  intro i s kvs hk hi hst hS hl hkp hR;have hlt:i<n:=by lia
  refine codeAny_builtin hV ?_;rw[Around.under_plainId bY _];show wpAny _ A.in1 (pyNext (.ref I) >>= _) _ _ s;refine wpAny_bind (W.item i s _ _ hlt hst λv s' hv hst' hm=>?_);obtain⟨b,key,k,u,rfl,hbS,hbw,hpi,hkey,o,hb,hbc,nn,hbd⟩:=hP i v hv;have hb':=hm.heap b _ hbw (hkp b _ hbS hbw hb);have hS':s'.heap.DictOf (aF prog w) S kvs:=by
   obtain⟨o,es,ep,ho,r⟩:=hS;exact⟨o,es,ep,hm.heap S _ hSw ho,r⟩
  refine wpAny_bind (wpAny_holding ?_);refine wpAny_bind (wpAny_tryCatch ?_);unfold Builtin.Dict.pairItems;refine wpAny_bind (wpAny_typeOf (T:="tuple") ⟨o,hb',hbc⟩ ?_);rw[if_pos (by decide)];refine wpAny_bind (wpAny_seqItems hb' hbd (wpAny_pure ?_));show wpAny _ A.in1 (holding [key,u] (dictSet S key u)) _ _ _;refine wpAny_holding (wpAny_dictSet_pairs (hsz:=by rw[sizeLine_eq];lia) hkey hS' λh' hD hs=>?_)
  have hc:((i:Int)+1)=((i+1:Nat):Int):=by push_cast;rfl
  show wpAny _ A.in1 (again (.builtin "dict.update.loop" ⟨[.ref S,.ref I,rawInt ((i:Int)+1),res],[]⟩)) _ _ _;rw[hc];refine wpAny_pure ⟨plainId_quiet bY _,ih (i+1) _ (stored kvs k u) (by lia) hlt (W.frame _ s' _ _ hst' (le_succ _) λb hb o e=>hs.extBut b o (λz=>hSf (z ▸ hb)) e) hD (by have:=tz kvs k u;lia) (λb o h1 h2 e=>hs.extBut b o h1 (hm.heap b o h2 (hkp b o h1 h2 e))) λs'' hm'' hD''=>?_⟩
  refine hR s'' (Moved.trans W.gtrans ((hm.mono hsub).then_heap (le_succ _) λb o hb e=>hs.extBut b o (λz=>hb (by rw[z];exact mem_cons_self)) e) hm'') ?_
  have e:ps.drop i=(k,u)::ps.drop (i+1):=by
   obtain⟨hx,hy⟩:=List.getElem?_eq_some_iff.mp hpi;rw[List.drop_eq_getElem_cons hx,hy]
  rw[e];exact hD''
end
section
variable{prog:Program}{w:World}{A:Around}{E:Value->Shared->Prop}{s:Shared}
theorem kR{t:Addr}{items:Array Value}{ps:List (aw×Value)}{Q:Value->Shared->Prop}(ht:IsTup s.heap t items)(hnd:NoDi s.heap t)(hh:A.handled=none)(hn:ps.length=items.size)(hz:items.size<=100000)
  (hP:∀(i:Nat) (v:Value),items[i]? = some v->∃b key k u,v=.ref b/\ps[i]? = some (k,u)/\(aF prog w).is k key=true/\IsTup s.heap b #[key,u])
  (h:∀s':Shared,(∀b o,s.heap.get? b=some o->s'.heap.get? b=some o)->s'.gens=s.gens->s'.drawn=s.drawn->s'.os=s.os->s'.heap.DictOf (aF prog w) s.heap.objs.size (Bj [] ps)->Q (.ref s.heap.objs.size) s'):
  wpAny (model prog w) A (call (.type "dict") [.ref t]) Q E s:=by
 refine callType_codes (Q₁:=λobj s₁=>obj=.ref s.heap.objs.size/\s₁ = {s with heap:=s.heap.push {cls:=.type "dict",data:=.dict #[]}}) PySem.F.kt_called_dict (PySem.F.kt_typeCall_dict_1 _) PySem.F.entry_dict_init (kt_code_dict_new _ ⟨rfl,rfl⟩) ?_;rintro obj s₁ ⟨rfl,rfl⟩;have hnew:(s.heap.push {cls:=.type "dict",data:=.dict #[]}).DictOf (aF prog w) s.heap.objs.size []:=Heap.DictOf.new s.heap;refine⟨hnew.typeIs,PySem.F.args_dict_init_2 _ _,?_⟩;unfold Builtin.«dict.__init__»;refine wpAny_bind ?_;unfold Builtin.Dict.selfAndRest;refine wpAny_bind (wpAny_notOrdered_dict hnew.typeIs ?_);show wpAny _ _ (pure (s.heap.objs.size,[Value.ref t])) _ _ _;refine wpAny_pure ?_;show wpAny _ _ (Builtin.Dict.updateFrom "dict.__init__" s.heap.objs.size (.ref t) [] .none) _ _ _;unfold Builtin.Dict.updateFrom;obtain⟨o,ho,hc,n0,hd⟩:=ht;obtain⟨o',ho',hdn⟩:=hnd;rw[ho]at ho';cases ho';have ho1:=get?_push_of_some {cls:=.type "dict",data:=.dict #[]} ho;refine wpAny_bind (wpAny_typeOf (T:="tuple") ⟨o,ho1,hc⟩ ?_);rw[if_pos (by decide)];refine wpAny_bind (kM ho1 hc hd hdn hh λh' tk keep=>?_);rw[if_pos (show(none:Option Value).isNone=true from rfl)];refine wpAny_bind (wpAny_rule ?_);have ht1:h'.IsTuple t items:=⟨o,keep _ _ ho1,hc,n0,hd⟩;refine wpAny_bind (wpAny_pyIter_tuple ht1 ?_);have hD1:h'.DictOf (aF prog w) s.heap.objs.size []:=by
  obtain⟨o2,es,ep,e2,r2⟩:=hnew;exact⟨o2,es,ep,keep _ _ e2,r2⟩
 have old:∀{b:Addr} {o:Obj},s.heap.get? b=some o->h'.get? b=some o:=λ{b o} e=>keep _ _ (get?_push_of_some _ e)
 have lt0:∀{b:Addr} {o:Obj},s.heap.get? b=some o->b≠s.heap.objs.size:=λ{b o} e=>ne_of_lt (lt_size e)
 have lt1:∀{b:Addr} {o:Obj},h'.get? b=some o->b≠h'.objs.size:=λ{b o} e=>ne_of_lt (lt_size e)
 have hSI:s.heap.objs.size≠h'.objs.size:=by
  obtain⟨o2,es,ep,e2,r2⟩:=hD1;exact lt1 e2
 have W:=(Walks.tuple (prog:=prog) (w:=w) (A:=A.in1.in1) hh h'.objs.size t (lt1 (old ho)) items).toS;refine wpAny_pure ⟨plainId_quiet bY _,?_⟩;refine qE W s.heap.objs.size (by simp[hSI];exact λz=>lt0 ho z.symm) .none ps hn hz (h₁:=h'.push {cls:=.type "tuple_iterator",data:=.fields #[.ref t,.int 0 0]}) (λi v e=>?_) items.size 0 _ [] rfl (zero_le _) ⟨?_,?_⟩ ?_ (zero_le _) (λb o _ _ e=>e) λs' mv dd=>?_
 .obtain⟨b,key,k,u,rfl,h1,h2,o3,h3,h4⟩:=hP i v e
  exact⟨b,key,k,u,rfl,lt0 h3,by simp;exact lt1 (old h3),h1,h2,o3,get?_push_of_some _ (old h3),h4⟩
 .exact⟨_,get?_push_size _ rfl,rfl,rfl⟩
 .exact⟨o,get?_push_of_some _ (keep _ _ ho1),hc,n0,hd⟩
 .obtain⟨o2,es,ep,e2,r2⟩:=hD1
  exact⟨o2,es,ep,get?_push_of_some _ e2,r2⟩
 .refine⟨rfl,h s' (λb o e=>mv.heap b o (by simp;exact⟨lt0 e,lt1 (old e)⟩) (get?_push_of_some _ (old e))) mv.gens mv.drawn mv.os ?_⟩
  simpa using dd
theorem kg{t:Addr}{items:Array Value}{ps:List (aw×Value)}{Q:Value->Shared->Prop}(ht:PlainL s.heap t items)(hh:A.handled=none)(hn:ps.length=items.size)(hz:items.size<=100000)
  (hP:∀(i:Nat) (v:Value),items[i]? = some v->∃b key k u,v=.ref b/\ps[i]? = some (k,u)/\(aF prog w).is k key=true/\IsTup s.heap b #[key,u])
  (h:∀s':Shared,(∀b o,s.heap.get? b=some o->s'.heap.get? b=some o)->s'.gens=s.gens->s'.drawn=s.drawn->s'.os=s.os->s'.heap.DictOf (aF prog w) s.heap.objs.size (Bj [] ps)->Q (.ref s.heap.objs.size) s'):
  wpAny (model prog w) A (call (.type "dict") [.ref t]) Q E s:=by
 refine callType_codes (Q₁:=λobj s₁=>obj=.ref s.heap.objs.size/\s₁ = {s with heap:=s.heap.push {cls:=.type "dict",data:=.dict #[]}}) PySem.F.kt_called_dict (PySem.F.kt_typeCall_dict_1 _) PySem.F.entry_dict_init (kt_code_dict_new _ ⟨rfl,rfl⟩) ?_;rintro obj s₁ ⟨rfl,rfl⟩;have hnew:(s.heap.push {cls:=.type "dict",data:=.dict #[]}).DictOf (aF prog w) s.heap.objs.size []:=Heap.DictOf.new s.heap;refine⟨hnew.typeIs,PySem.F.args_dict_init_2 _ _,?_⟩;unfold Builtin.«dict.__init__»;refine wpAny_bind ?_;unfold Builtin.Dict.selfAndRest;refine wpAny_bind (wpAny_notOrdered_dict hnew.typeIs ?_);show wpAny _ _ (pure (s.heap.objs.size,[Value.ref t])) _ _ _;refine wpAny_pure ?_;show wpAny _ _ (Builtin.Dict.updateFrom "dict.__init__" s.heap.objs.size (.ref t) [] .none) _ _ _;unfold Builtin.Dict.updateFrom;obtain⟨o,n0,ho,hc,hdn,hd⟩:=ht;have ho1:=get?_push_of_some {cls:=.type "dict",data:=.dict #[]} ho;refine wpAny_bind (wpAny_typeOf (T:="list") ⟨o,ho1,hc⟩ ?_);rw[if_pos (by decide)];refine wpAny_bind (lY ho1 hc hd hdn hh λh' tk keep=>?_);rw[if_pos (show(none:Option Value).isNone=true from rfl)];refine wpAny_bind (wpAny_rule ?_);have ht1:h'.IsList t items:=⟨o,keep _ _ ho1,hc,n0,hd⟩;refine wpAny_bind (wpAny_pyIter_list ht1 ?_);have hD1:h'.DictOf (aF prog w) s.heap.objs.size []:=by
  obtain⟨o2,es,ep,e2,r2⟩:=hnew;exact⟨o2,es,ep,keep _ _ e2,r2⟩
 have old:∀{b:Addr} {o:Obj},s.heap.get? b=some o->h'.get? b=some o:=λ{b o} e=>keep _ _ (get?_push_of_some _ e)
 have lt0:∀{b:Addr} {o:Obj},s.heap.get? b=some o->b≠s.heap.objs.size:=λ{b o} e=>ne_of_lt (lt_size e)
 have lt1:∀{b:Addr} {o:Obj},h'.get? b=some o->b≠h'.objs.size:=λ{b o} e=>ne_of_lt (lt_size e)
 have hSI:s.heap.objs.size≠h'.objs.size:=by
  obtain⟨o2,es,ep,e2,r2⟩:=hD1;exact lt1 e2
 have W:=(Walks.list (prog:=prog) (w:=w) (A:=A.in1.in1) hh h'.objs.size t (lt1 (old ho)) items).toS;refine wpAny_pure ⟨plainId_quiet bY _,?_⟩;refine qE W s.heap.objs.size (by simp[hSI];exact λz=>lt0 ho z.symm) .none ps hn hz (h₁:=h'.push {cls:=.type "list_iterator",data:=.fields #[.ref t,.int 0 0]}) (λi v e=>?_) items.size 0 _ [] rfl (zero_le _) ⟨?_,?_⟩ ?_ (zero_le _) (λb o _ _ e=>e) λs' mv dd=>?_
 .obtain⟨b,key,k,u,rfl,h1,h2,o3,h3,h4⟩:=hP i v e
  exact⟨b,key,k,u,rfl,lt0 h3,by simp;exact lt1 (old h3),h1,h2,o3,get?_push_of_some _ (old h3),h4⟩
 .exact⟨_,get?_push_size _ rfl,rfl,rfl⟩
 .exact⟨o,get?_push_of_some _ (keep _ _ ho1),hc,n0,hd⟩
 .obtain⟨o2,es,ep,e2,r2⟩:=hD1
  exact⟨o2,es,ep,get?_push_of_some _ e2,r2⟩
 .refine⟨rfl,h s' (λb o e=>mv.heap b o (by simp;exact⟨lt0 e,lt1 (old e)⟩) (get?_push_of_some _ (old e))) mv.gens mv.drawn mv.os ?_⟩
  simpa using dd
end
def vi:D->Option (aw×D)
 |.tuple [k,v]=>(mf k).bind λk=>some (k,v)
 |_=>none
def jU:List D->Option (List (aw×D))
 |[]=>some []
 |d::ds=>(vi d).bind λp=>(jU ds).bind λps=>some (p::ps)
def sC:D->Option (List (aw×D))
 |.tuple ds=>(jU ds).bind λps=>if ds.length<=1000 then some (ps.foldl (λacc p=>jl acc p.1 p.2) [])else none
 |.list ds=>(jU ds).bind λps=>if ds.length<=1000 then some (ps.foldl (λacc p=>jl acc p.1 p.2) [])else none
 |_=>none
def tP(i:Nat)(f:Dv->Option D):Sf:=λδ=>(f δ).bind λd=>(sC d).bind λes=>some (.nx,δ.set i (.od es))
inductive PairsV (K:Fg) (H:Hp):List V->List (aw×V)->Prop
 |nil:PairsV K H [] []
 |cons {b:Addr} {k:aw} {v:V} {ts:List V} {ps:List (aw×V)}:SqT K H b [kV k,v]->PairsV K H ts ps->PairsV K H (.ref b::ts) ((k,v)::ps)
def Bk(ps:List (aw×V)):List (aw×V):=ps.foldl (λacc p=>fU acc p.1 p.2) []
theorem PairsV.vals{X:Cx}{pins:List (Addr×Obj)}{σ:St}{H:Hp}{s:Shared}(I:Inv X pins σ H s):∀{ts:List V} {ps:List (aw×V)} {us:List Value},PairsV X.K H ts ps->Vals ts us->∃qs:List (aw×Value),KV ps qs/\qs.length=us.length/\∀(i:Nat) (v:Value),us[i]? = some v->∃b key k u,v=.ref b/\qs[i]? = some (k,u)/\(aF X.prog X.w).is k key=true/\IsTup s.heap b #[key,u]
 |_,_,_,.nil,.nil=>⟨[],.nil,rfl,λi v e=>by simp at e⟩
 |_,_,_,.cons (b:=b) (k:=k) (v:=v) h r,.cons h1 r1=>by
  obtain⟨qs,g1,g2,g3⟩:=PairsV.vals I r r1;cases h1;obtain⟨its,rr,tp,_⟩:=I.tuple h;obtain⟨a1,a2,rfl,q1,q2⟩:=uR rr;refine⟨(k,a2)::qs,.cons ⟨rfl,q2⟩ g1,by simp[g2],λi w e=>?_⟩
  cases i with
  |zero=>
   have e:Value.ref b=w:=by simpa using e
   subst e;exact⟨b,a1,k,a2,rfl,rfl,oG q1,tp⟩
  |succ i=>exact g3 i w (by simpa using e)
theorem FE{ps:List (aw×V)}{qs:List (aw×Value)}(r:KV ps qs):∀{kvs:List (aw×V)} {vs:List (aw×Value)},KV kvs vs->KV (ps.foldl (λacc p=>fU acc p.1 p.2) kvs) (Bj vs qs):=by
 induction r with
 |nil=>intro kvs vs h;exact h
 |cons h r ih=>
  intro kvs vs g;obtain⟨h1,h2⟩:=h;refine ih ?_;dsimp only;rw[<-h1];exact g.put _ h2
theorem vy:∀(ps:List (aw×V)) (kvs:List (aw×V)),(ps.foldl (λacc p=>fU acc p.1 p.2) kvs).length<=kvs.length+ps.length
 |[],kvs=>le_refl _
 |p::ps,kvs=>by
  have:=vy ps (fU kvs p.1 p.2);have:=g6 kvs p.1 p.2;show(ps.foldl _ (fU kvs p.1 p.2)).length<=_;rw[length_cons]
  lia
theorem PairsV.length{K:Fg}{H:Hp}{ts:List V}{ps:List (aw×V)}(h:PairsV K H ts ps):ps.length=ts.length:=by
 induction h with
 |nil=>rfl
 |cons _ _ ih=>simp[ih]
section
variable{X:Cx}
theorem uE(hc:X.calm=true):CallR X (.type "dict") (λxs H Q=>∃a ts ps,xs=[V.ref a]/\(SqT X.K H a ts\/SqL X.K H a ts)/\PairsV X.K H ts ps/\ts.length<=1000/\∀l,H l=none->Q (.ref l) (upd H l (.dK (Bk ps)))):=by
 intro pins s σ H xs us Q I r h;obtain⟨a,ts,ps,rfl,ha,hp,hl,q⟩:=h;obtain⟨u,rfl,ru⟩:=jb r;cases ru;have fin:∀{its:List Value} (r1:Vals ts its) {qs:List (aw×Value)} (g1:KV ps qs) (s':Shared) (kp:∀b o,s.heap.get? b=some o->s'.heap.get? b=some o) (hg:s'.gens=s.gens) (hdr:s'.drawn=s.drawn) (hos:s'.os=s.os) (dd:s'.heap.DictOf (aF X.prog X.w) s.heap.objs.size (Bj [] qs)),∃v H',Inv X pins σ H' s'/\RelV v (.ref s.heap.objs.size)/\Q v H':=by
  intro its r1 qs g1 s' kp hg hdr hos dd;have hf:H s.heap.objs.size=none:=I.hok.fresh (le_refl _);refine⟨.ref s.heap.objs.size,upd H s.heap.objs.size (.dK (Bk ps)),?_,rfl,q _ hf⟩;have big:=I.big;have L:=I.laid (h':=s'.heap) (a:=s.heap.objs.size) (o:=.dK (Bk ps)) (t':=s'.toks) kp (le_refl _) (AS (by
    have:=vy ps [];have:=hp.length;show(Bk ps).length<=sizeLine;rw[sizeLine_eq];unfold Bk;simp only[List.length_nil]at *
    lia) (by rw[beq_eq_false_iff_ne];exact λz=>lt_irrefl _ (z ▸ big)) (FE g1 .nil) dd)
  obtain⟨hp',g',d',t',o'⟩:=s';obtain⟨hp0,g0,d0,t0,o0⟩:=s;simp only at hg hdr hos;subst hg hdr hos;exact L
 rcases ha with ha|ha
 .obtain⟨its,r1,tp,_⟩:=I.tuple ha
  obtain⟨qs,g1,g2,g3⟩:=hp.vals I r1;have hlen:=r1.length;have e1:its.toArray.size=its.length:=by simp
  exact kR tp (I.noDi ha) (I.ok.hd hc) (ps:=qs) (by rw[e1];exact g2) (by rw[e1];lia) (λi v e=>g3 i v (by simpa using e)) (fin r1 g1)
 .obtain⟨its,r1,tp,_⟩:=I.list ha
  obtain⟨qs,g1,g2,g3⟩:=hp.vals I r1;have hlen:=r1.length;have e1:its.toArray.size=its.length:=by simp
  exact kg tp (I.ok.hd hc) (ps:=qs) (by rw[e1];exact g2) (by rw[e1];lia) (λi v e=>g3 i v (by simpa using e)) (fin r1 g1)
theorem B9{K:Fg}{Z H:Hp}(zh:Same Z H){v:V}{d:D}{p:aw×D}(r:Rep K Z v d)(h:vi d=some p):∃b w,v=.ref b/\SqT K H b [kV p.1,w]/\Rep K Z w p.2:=by
 unfold vi at h;split at h
 rotate_left
 .cases h
 rename_i dk dv;obtain⟨k,e1,h⟩:=bind_some h;cases h;cases r with
 |tup sq rs=>
  cases rs with
  |cons r1 rs=>
   cases rs with
   |cons r2 rs=>
    cases rs;have:=g7 r1 e1;subst this;exact⟨_,_,rfl,SqT.same sq zh,r2⟩
theorem lG{K:Fg}{Z H:Hp}(zh:Same Z H):∀{vs:List V} {ds:List D} {ps:List (aw×D)},Reps K Z vs ds->jU ds=some ps->∃qs:List (aw×V),PairsV K H vs qs/\qs.map (·.1)=ps.map (·.1)/\Reps K Z (qs.map (·.2)) (ps.map (·.2))
 |_,_,_,.nil,h=>by cases h;exact⟨[],.nil,rfl,.nil⟩
 |_,_,_,.cons r rs,h=>by
  obtain⟨p,e1,h⟩:=bind_some h;obtain⟨ps,e2,h⟩:=bind_some h;cases h;obtain⟨b,w,rfl,g1,g2⟩:=B9 zh r e1;obtain⟨qs,g3,g4,g5⟩:=lG zh rs e2;exact⟨(p.1,w)::qs,.cons g1 g3,by simp[g4],.cons g2 g5⟩
theorem lF{K:Fg}{Z:Hp}:∀{qs:List (aw×V)} {ps:List (aw×D)},qs.map (·.1)=ps.map (·.1)->Reps K Z (qs.map (·.2)) (ps.map (·.2))->∀{kvs:List (aw×V)} {es:List (aw×D)},iA K Z kvs es->iA K Z (qs.foldl (λacc p=>fU acc p.1 p.2) kvs) (ps.foldl (λacc p=>jl acc p.1 p.2) es)
 |[],[],_,_,kvs,es,h=>h
 |[],_::_,e,_,_,_,_=>by simp at e
 |_::_,[],e,_,_,_,_=>by simp at e
 |q::qs,p::ps,e,r,kvs,es,h=>by
  simp only[map_cons,List.cons.injEq]at e;cases r with
  |cons r1 r2=>
   refine lF e.2 r2 ?_;dsimp only;rw[e.1];exact lE h p.1 r1
theorem BO(i:Nat){x:Str}{e:Expr}{f:Dv->Option D}{p pos pos' cpos:Pos}(hN:X.N.Nodup)(hg:Gl X "dict")(hm:X.mg "dict" = none)(he':EV X e f)(hc:X.calm=true:=by rfl)(hi:X.N[i]? = some x:=by rfl)(hx:sU X.env.scope x:=by first|exact Or.inl rfl|exact Or.inr rfl)
  (he:starEach [e] X.env=(false,eval e X.env)::starEach [] X.env:=by rfl) (hpl:(backTo cpos (starEach [] X.env)).any (·.1)=false:=by rfl)
  (hs:swapsWith (.Call (.Name "dict" p) [e] [] cpos) (some (.Name x pos')) pos.line X.env=pure false:=by rfl)
  (hf:X.fn x=true\/X.env.scope.names.lookup x=some .local:=by first|exact .inl rfl|exact .inr rfl|assumption):SV X (.Assign [.Name x pos'] (.Call (.Name "dict" p) [e] [] cpos) pos) (tP i f):=
 PS.imp (jT hN hi hx (ou (uE hc) hg hm (by decide+kernel) (bq he' dl he) (by decide) (by decide) he hpl) hs hf) λD σ H h=>by
  obtain⟨H₀,Z₀,Z,δ,r,hh,e,k⟩:=h;obtain⟨d,e1,e⟩:=bind_some e;obtain⟨es,e2,e⟩:=bind_some e;cases e;refine⟨H₀,Z₀,Z,δ,d,hh,e1,λv Z1 H1 hh1 t1 r1=>?_⟩
  unfold sC at e2;split at e2
  .rename_i ds
   obtain⟨ps,e3,e2⟩:=bind_some e2;obtain⟨hl,e2⟩:=bR e2;cases e2;cases r1 with
   |tup sq rs=>
    obtain⟨qs,g1,g2,g3⟩:=lG hh1.zh rs e3;refine⟨_,_,qs,rfl,.inl (SqT.same sq hh1.zh),g1,by rw[rs.length];exact hl,λl hl'=>?_⟩
    exact k _ _ Z1 (hh1.setW hl' (.dct (lF g2 g3 ⟨rfl,.nil⟩))) t1
  .rename_i ds
   obtain⟨ps,e3,e2⟩:=bind_some e2;obtain⟨hl,e2⟩:=bR e2;cases e2;cases r1 with
   |lst sq rs=>
    obtain⟨qs,g1,g2,g3⟩:=lG hh1.zh rs e3;refine⟨_,_,qs,rfl,.inr (SqL.same sq hh1.zh),g1,by rw[rs.length];exact hl,λl hl'=>?_⟩
    exact k _ _ Z1 (hh1.setW hl' (.dct (lF g2 g3 ⟨rfl,.nil⟩))) t1
  .cases e2
end
def gZ(a:Addr)(H:Hp):Hp:=λb=>if b=a then none else H b
theorem jt{a:Addr}{H:Hp}:gZ a H a=none:=if_pos rfl
theorem eS{a b:Addr}{H:Hp}(h:b≠a):gZ a H b=H b:=if_neg h
theorem rP{a:Addr}{H:Hp}:Same (gZ a H) H:=λb o e=>by
 unfold gZ at e;split at e
 .cases e
 .exact e
theorem z7{a:Addr}{H:Hp}{o:HO}(e:H a=some o):upd (gZ a H) a o=H:=funext λb=>by
 by_cases hb:b=a
 .subst hb;rw[av,e]
 .rw[aq hb,eS hb]
theorem oB{a:Addr}{Z H:Hp}(z:Same Z H)(h:Z a=none):Same Z (gZ a H):=λb o e=>by rw[eS (az e h)];exact z b o e
section
variable{K:Fg}{H₀ Z₀ Z H:Hp}{δ:Dv}{σ:St}
theorem Hold.mod(h:Hold K H₀ Z₀ Z δ σ H){i:Nat}{a:Addr}{es es':List (aw×D)}{kvs':List (aw×V)}{Z' H':Hp}(q:δ[i]? = some (.od es))(h1:σ[i]? = some (some (.ref a)))(h2:H₀ a=none)(n:New Z (gZ a H) Z' (gZ a H'))(g4:H' a=some (.dK kvs'))(g5:iA K Z' kvs' es'):
  Hold K H₀ Z₀ Z' (δ.set i (.od es')) σ H':=by
 have hl:i < δ.length:=(List.getElem?_eq_some_iff.mp q).1;have up:∀{b:Addr} {o:HO},b≠a->H b=some o->H' b=some o:=λ{b o} hb e=>by
  have:=n.h b o (by rw[eS hb];exact e)
  rwa [eS hb]at this
 have za:Z' a=none:=by
  cases e:Z' a with
  |none=>rfl
  |some o=>have:=n.zh a o e;rw[jt]at this;cases this
 refine⟨n.zh.trans rP,λb o e=>up (az e h2) (h.h0 b o e),h.z0.trans n.z,λb hb=>?_,by simp[h.len],λj d e=>?_,λj d e=>?_,λj k d1 d2 c hjk q1 q2=>?_,(h.fr.same n.z).put (λ_ z=>nomatch z) λ_ _=>rfl,h.nf.trans n.nf⟩
 .have hba:b≠a:=λz=>hb (by rw[z];exact h2)
  have:gZ a H b≠none:=by
   rw[eS hba];cases e:H₀ b with
   |none=>exact absurd e hb
   |some o=>rw[h.h0 b o e];intro z;cases z
  rw[n.o b this,h.zb b hb]
 .by_cases hj:i=j
  .subst hj
   rw[getElem?_set_self hl]at e;cases e
  .rw[getElem?_set_ne hj]at e
   obtain⟨v,g1,g2⟩:=h.fz j d e;exact⟨v,g1,g2.same n.z⟩
 .by_cases hj:i=j
  .subst hj
   rw[getElem?_set_self hl]at e;cases e;exact⟨a,_,h1,h2,za,g4,.dct g5⟩
  .rw[getElem?_set_ne hj]at e
   obtain⟨c,o,f1,f2,f3,f4,f5⟩:=h.own j d e;have hc:c≠a:=λz=>by subst z;exact h.dja i j _ d c hj q e h1 f1
   exact⟨c,o,f1,f2,by rw[n.o c (by rw[eS hc,f4];intro z;cases z)];exact f3,up hc f4,f5.same n.z⟩
 .have f:∀{m:Nat} {dm:Oc},(δ.set i (.od es'))[m]? = some (.own dm)->∃dm',δ[m]? = some (.own dm'):=λ{m dm} z=>by
   by_cases hm:i=m
   .subst hm;exact⟨_,q⟩
   .rw[getElem?_set_ne hm]at z;exact⟨dm,z⟩
  obtain⟨e1,f1⟩:=f q1;obtain⟨e2,f2⟩:=f q2;exact h.dja j k e1 e2 c hjk f1 f2
end
def vd:Sl->Sl
 |.own _=>.un
 |.fr _=>.un
 |s=>s
theorem EW{s:Sl}{d:D}(h:vd s=.fz d):s=.fz d:=by cases s<;>first|exact h|cases h
theorem vc{s:Sl}{c:Oc}(h:vd s=.own c):False:=by cases s<;>cases h
theorem EY{s:Sl}{ds:List D}(h:vd s=.fr ds):False:=by cases s<;>cases h
theorem EU{δ:Dv}{j:Nat}{s:Sl}(h:(δ.map vd)[j]? = some s):∃t,δ[j]? = some t/\vd t=s:=by
 rw[getElem?_map]at h;cases e:δ[j]? with
 |none=>rw[e]at h;cases h
 |some t=>rw[e]at h;exact⟨t,rfl,Option.some.inj h⟩
def ux(i:Nat)(δ:Dv):Option Dv:=match δ[i]? with
 |some (.own (.l ds))=>some ((δ.map vd).set i (.fz (.list ds)))
 |_=>none
def kO:List D->Option (List Int)
 |[]=>some []
 |.int i::r=>(kO r).bind λl=>some (i::l)
 |_::_=>none
def cH(ns:List Int)(x:Int):List Int:=if x∈ns then ns else ns++[x]
def gJ(l:List Int):List Int:=l.foldl cH []
def kt(d:D):Option D:=(aV d).bind λds=>(kO ds).bind λl=>if l.length<64 then some (.list ((aQ (gJ l)).map .int))else none
def UpA(xs:Array Nat):Prop:=∀i j (hi:i<xs.size) (hj:j<xs.size),i<j->xs[i]<xs[j]
theorem mW{xs:Array Nat}{j:Nat}(hu:UpA xs):∀(f lo hi:Nat),hi-lo<=f->lo<=hi->hi<=xs.size ->
  (∀i (h:i<xs.size),i<lo->xs[i]<j)->(∀i (h:i<xs.size),hi<=i->j<=xs[i])->
  SetTable.below.go xs j f lo hi<=xs.size/\(∀i (h:i<xs.size),i<SetTable.below.go xs j f lo hi->xs[i]<j)/\(∀i (h:i<xs.size),SetTable.below.go xs j f lo hi<=i->j<=xs[i])
 | 0,lo,hi,h1,h2,h3,a,b=>by
  have:lo=hi:=by lia
  subst this;exact⟨h3,a,b⟩
 |f+1,lo,hi,h1,h2,h3,a,b=>by
  unfold SetTable.below.go;by_cases h:lo<hi
  .rw[if_pos h]
   have hm:(lo+hi)/2<xs.size:=by lia
   have e:xs.getD ((lo+hi)/2) j=xs[(lo+hi)/2]:=by simp[Array.getD,hm]
   dsimp only;rw[e];by_cases h':xs[(lo+hi)/2]<j
   .rw[if_pos h']
    refine mW hu f _ hi (by lia) (by lia) h3 (λi hi' hl=>?_) b;by_cases e2:i=(lo+hi)/2
    .subst e2;exact h'
    .exact Nat.lt_trans (hu i _ hi' hm (by lia)) h'
   .rw[if_neg h']
    refine mW hu f lo _ (by lia) (by lia) (by lia) a λi hi' hl=>?_
    by_cases e2:i=(lo+hi)/2
    .subst e2;lia
    .have:=hu _ i hm hi' (by lia);lia
  .rw[if_neg h]
   have:lo=hi:=by lia
   subst this;exact⟨h3,a,b⟩
theorem fO{xs:Array Nat}(hu:UpA xs)(j:Nat):SetTable.below xs j<=xs.size/\(∀i (h:i<xs.size),i<SetTable.below xs j->xs[i]<j)/\(∀i (h:i<xs.size),SetTable.below xs j<=i->j<=xs[i]):=
 mW hu xs.size 0 xs.size (by lia) (by lia) (le_refl _) (λi _ h=>absurd h (by lia)) (λi h h'=>absurd h (by lia))
theorem pW{xs:Array Nat}{p x:Nat}(hp:p<=xs.size)(i:Nat):(SetTable.insertAt xs p x)[i]? = if i<p then xs[i]? else if i=p then some x else xs[i-1]?:=by
 rw[<-getElem?_toList,SetTable.toList_insertAt];have hl:(xs.toList.take p).length=p:=by rw[List.length_take,length_toList];lia
 by_cases h1:i<p
 .rw[if_pos h1,List.getElem?_append_left (by lia),List.getElem?_take_of_lt h1,getElem?_toList]
 .rw[if_neg h1,List.getElem?_append_right (by lia),hl]
  by_cases h2:i=p
  .subst h2
   rw[if_pos rfl,Nat.sub_self,List.getElem?_cons_zero]
  .rw[if_neg h2]
   obtain⟨k,rfl⟩:∃k,i=p+k+1:=⟨i-p-1,by lia⟩;rw[show p+k+1-p=k+1 by lia,List.getElem?_cons_succ,List.getElem?_drop,getElem?_toList];rfl
theorem UpA.iff{xs:Array Nat}:UpA xs↔∀i j a b:Nat,i<j->xs[i]? = some a->xs[j]? = some b->a<b:=by
 constructor
 .intro h i j a b hij ha hb
  obtain⟨h1,rfl⟩:=Array.getElem?_eq_some_iff.mp ha;obtain⟨h2,rfl⟩:=Array.getElem?_eq_some_iff.mp hb;exact h i j h1 h2 hij
 .intro h i j hi hj hij
  exact h i j _ _ hij (Array.getElem?_eq_getElem hi) (Array.getElem?_eq_getElem hj)
theorem UpA.insert{xs:Array Nat}{j:Nat}(hu:UpA xs)(hn:xs[SetTable.below xs j]?≠some j):UpA (SetTable.insertAt xs (SetTable.below xs j) j):=by
 obtain⟨h1,h2,h3⟩:=fO hu j;have lo:∀i a,i<SetTable.below xs j->xs[i]? = some a->a<j:=λi a hi e=>by
  obtain⟨q,rfl⟩:=Array.getElem?_eq_some_iff.mp e;exact h2 i q hi
 have hi:∀i a,SetTable.below xs j<=i->xs[i]? = some a->j<a:=λi a hi e=>by
  obtain⟨q,rfl⟩:=Array.getElem?_eq_some_iff.mp e;have hb:SetTable.below xs j<xs.size:=by lia
  have e1:j<=xs[SetTable.below xs j]:=h3 _ hb (le_refl _);have e2:xs[SetTable.below xs j]≠j:=λz=>hn (by rw[Array.getElem?_eq_getElem hb,z])
  by_cases e3:i=SetTable.below xs j
  .subst e3;lia
  .have:=hu _ i hb q (by lia);lia
 rw[UpA.iff]at hu ⊢;intro i k a b hik ha hb;rw[pW h1]at ha hb;split at ha<;>split at hb
 .exact hu i k a b hik ha hb
 .split at hb
  .cases hb;exact lo i a ‹_› ha
  .exact Nat.lt_trans (lo i a ‹_› ha) (hi _ b (by lia) hb)
 .lia
 .split at ha<;>split at hb
  .lia
  .cases ha;exact hi _ b (by lia) hb
  .lia
  .exact hu (i-1) (k-1) a b (by lia) ha hb
theorem n9{t:SetTable}{j:Nat}(h:t.slot j=.empty\/t.slot j=.dummy):t.place[SetTable.below t.place j]?≠some j:=by
 intro e;unfold SetTable.slot at h;simp[e]at h
theorem lJ{t:SetTable}{f:Nat->Int}{h:Int}:∀(n:Nat) (p:SetTable.Probe) (j:Nat) (d:Option Nat),(∀x,p.dummy=some x->t.slot x=.dummy)->SetTable.probe.go t f h n p=some (.empty j d)->t.slot j=.empty/\∀x,d=some x->t.slot x=.dummy
 | 0,p,j,d,hp,e=>by cases e
 |n+1,p,j,d,hp,e=>by
  unfold SetTable.probe.go at e;have adv:∀q:SetTable.Probe,(t.advance q).dummy=q.dummy:=λq=>by unfold SetTable.advance;split<;>rfl
  split at e
  .rename_i hs;cases e;exact⟨hs,hp⟩
  .rename_i hs
   refine lJ n _ j d (λx hx=>?_) e;rw[adv]at hx;cases hx;exact hs
  .split at e
   .cases e
   .exact lJ n _ j d (λx hx=>hp x (by rwa [adv]at hx)) e
theorem nB{t:SetTable}{h:Int}{j:Nat}{b:Bool}(e:t.freeSlot h=some (j,b)):t.place[SetTable.below t.place j]?≠some j:=by
 unfold SetTable.freeSlot at e;split at e
 .rename_i j' d hq
  cases e;have:=lJ _ _ _ _ (λx hx=>by cases hx) hq;cases d with
  |none=>exact n9 (.inl this.1)
  |some x=>exact n9 (.inr (this.2 x rfl))
 .cases e
structure WkT (led:Bool) (t:SetTable):Prop where
 led:t.led=led
 up:t.plain=true->UpA t.place
theorem WkT.fresh(led:Bool):WkT led (.fresh 0 0 led):=⟨rfl,λ_ i j hi=>absurd hi (by simp[SetTable.fresh])⟩
theorem WkT.standIn{led:Bool}{t:SetTable}(h:WkT led t)(n:Nat):WkT led (t.standIn n):=⟨h.led,λe=>by cases e⟩
theorem WkT.orStandIn{led:Bool}{t:SetTable}(h:WkT led t)(n:Nat):WkT led (t.orStandIn n):=by
 unfold SetTable.orStandIn;split
 .exact h
 .exact h.standIn n
theorem WkT.put{led:Bool}{t:SetTable}(h:WkT led t){x:Int}{j:Nat}{b:Bool}(e:t.freeSlot x=some (j,b)):WkT led (t.put j).1:=⟨h.led,λq=>(h.up q).insert (nB e)⟩
theorem WkT.layNew{led:Bool}{t:SetTable}(h:WkT led t)(es:Array (Int×Value))(x:Int)(v:Value):WkT led (layNew t es x v).2.1:=by
 unfold PySem.layNew;split
 .rename_i e;exact(h.put e).orStandIn _
 .exact h.standIn _
theorem dR(f:Nat->Option Nat):∀(l:List Nat),l.Pairwise (· < ·)->((l.filterMap λj=>(f j).map (j,·)).map (·.1)).Pairwise (· < ·)
 |[],_=>.nil
 |a::l,h=>by
  obtain⟨h1,h2⟩:=List.pairwise_cons.mp h;rw[List.filterMap_cons];cases f a with
  |none=>exact dR f l h2
  |some b=>
   refine List.pairwise_cons.mpr ⟨λz hz=>?_,dR f l h2⟩
   obtain⟨q,hq,rfl⟩:=List.mem_map.mp hz;obtain⟨c,hc,e⟩:=List.mem_filterMap.mp hq;obtain⟨d,_,rfl⟩:=Option.map_eq_some_iff.mp e;exact h1 _ hc
theorem WkT.relay{led:Bool}{t:SetTable}(h:WkT led t)(es:Array (Int×Value))(n:Nat):WkT led (relayAll t es n).2.1:=by
 unfold relayAll;split
 .rename_i t' order e
  dsimp only;split
  .unfold SetTable.relaid SetTable.laid at e
   obtain⟨o,_,e⟩:=Option.bind_eq_some_iff.mp e;cases e;refine⟨h.led,λ_ i j hi hj hij=>?_⟩
   have:=dR (λj=>o.getD j none) (List.range (SetTable.sizeAbove n-1+1)) List.pairwise_lt_range;have:=List.pairwise_iff_getElem.mp this i j (by simpa using hi) (by simpa using hj) hij;simpa using this
  .exact h.standIn _
 .exact h.standIn _
theorem mV{xs:Array Nat}(hu:UpA xs){i:Nat}(hi:i<xs.size):SetTable.below xs (xs[i]+1)=i+1:=by
 obtain⟨h1,h2,h3⟩:=fO hu (xs[i]+1);have a:i<SetTable.below xs (xs[i]+1):=by
  refine Nat.lt_of_not_le λh=>?_
  have:=h3 i hi h;lia
 have b:¬(i+1<SetTable.below xs (xs[i]+1)):=λh=>by
  have q:=h2 (i+1) (by lia) h;have:=hu i (i+1) hi (by lia) (by lia);lia
 lia
theorem mU{xs:Array Nat}(hu:UpA xs):SetTable.below xs 0=0:=by
 obtain⟨h1,h2,h3⟩:=fO hu 0;refine Nat.eq_zero_of_not_pos λh=>?_
 have:=h2 0 (by lia) h;lia
def jQ:Value->Int
 |.int k _=>k
 |_=>0
def ye(e:Int×Value):Prop:=∃k t,e=(hashInt k,Value.int k t)
def SetJ(w:World)(h:Heap)(a:Addr)(ns:List Int):Prop:=∃es ep t,h.get? a=some {cls:=.type "set",dict:=none,data:=.set es ep t,slots:=#[]}/\(∀e∈es.toList,ye e)/\(es.toList.map λe=>jQ e.2).Perm ns/\ns.length<scanBound/\t.fits es.size=true/\WkT (!w.params.followText "set-order") t
theorem SetJ.at{w:World}{h h':Heap}{a:Addr}{ns:List Int}(x:SetJ w h a ns)(e:∀o,h.get? a=some o->h'.get? a=some o):SetJ w h' a ns:=
 let ⟨es,ep,t,ho,r⟩:=x
 ⟨es,ep,t,e _ ho,r⟩
theorem tN(ns:List Int)(x:Int):(cH ns x).length<=ns.length+1:=by
 unfold cH;split
 .lia
 .simp
section
variable{prog:Program}{w:World}{A:Around}{E:Value->Shared->Prop}{s:Shared}
theorem mj{es:Array (Int×Value)}(h:∀e∈es.toList,ye e):ElemsOf (intKind prog w) es.toList:=λe he=>by
 obtain⟨k,t,rfl⟩:=h e he;exact⟨⟨k,intKind_is prog w k t,rfl⟩,rfl⟩
theorem xG{l:List (Int×Value)}(h:∀e∈l,ye e)(k:Int):(l.findIdx? λe=>(intKind prog w).is k e.2)=none↔k∉l.map λe=>jQ e.2:=by
 rw[List.findIdx?_eq_none_iff];constructor
 .intro q z
  obtain⟨e,he,rfl⟩:=List.mem_map.mp z;obtain⟨k',t,rfl⟩:=h e he;have:=q _ he;rw[show(jQ (hashInt k',Value.int k' t).2)=k' from rfl,show((hashInt k',Value.int k' t):Int×Value).2=Value.int k' t from rfl,intKind_is]at this;cases this
 .intro q e he
  obtain⟨k',t,rfl⟩:=h e he;have hne:k≠k':=λz=>q (List.mem_map.mpr ⟨_,he,z.symm⟩)
  cases hx:(intKind prog w).is k ((hashInt k',Value.int k' t):Int×Value).2 with
  |false=>rfl
  |true=>exact absurd ((intKind prog w).inj _ _ _ hx (intKind_is prog w k' t)) hne
theorem qS{h:Heap}{a:Addr}{es es':Array (Int×Value)}{ep:Nat}{t t':SetTable}{ns:List Int}(ho:h.get? a=some {cls:=.type "set",dict:=none,data:=.set es ep t,slots:=#[]})(h1:∀e∈es'.toList,ye e)(h2:(es'.toList.map λe=>jQ e.2).Perm ns)(h3:ns.length<scanBound)(h4:t'.fits es'.size=true)(h5:WkT (!w.params.followText "set-order") t'):
  (h.update a (Obj.putSet es' t')).get? a=some {cls:=.type "set",dict:=none,data:=.set es' (ep+1) t',slots:=#[]}/\SetJ w (h.update a (Obj.putSet es' t')) a ns:=by
 have g:=get?_update_self (Obj.putSet es' t') ho (by rw[putSet_of es' t' rfl];rfl);rw[putSet_of es' t' rfl]at g;exact⟨g,es',ep+1,t',g,h1,h2,h3,h4,h5⟩
theorem rg{l l':List (Int×Value)}(p:List.Perm l' l):(l'.map λe=>jQ e.2).Perm (l.map λe=>jQ e.2):=p.map _
theorem B4{a:Addr}{x:Int}{tk:Tok}{ns:List Int}{Q:Bool->Shared->Prop}(hS:SetJ w s.heap a ns)(hroom:ns.length+1<scanBound)
  (h:∀h' b,Heap.SameBut a s.heap h'->SetJ w h' a (cH ns x)->Q b {s with heap:=h'}):wpAny (model prog w) A (setAddHashed a (.int x tk) (hashInt x)) Q E s:=by
 obtain⟨es,ep,t,ho,hel,hp,hb,hf,hw⟩:=hS;have hsz:es.size=ns.length:=by
  have:=hp.length_eq;rw[length_map,length_toList]at this;exact this
 have fl:=xG (prog:=prog) (w:=w) hel x;unfold setAddHashed setAddHashedIn;refine wpAny_holding (wpAny_bind (wpAny_setState_of ho rfl hf ?_));dsimp only;rw[byScan_of (knd:=intKind prog w) (x:=Value.int x tk) rfl (by lia) (mj hel)];simp only[↓reduceIte];unfold setAddByScan;refine wpAny_bind (wpAny_bind (wpAny_rule (wpAny_bind (wpAny_setScan_of (knd:=intKind prog w) (k:=x) (intKind_is prog w x tk) ho rfl hf (mj hel) ?_))));cases hr:es.toList.findIdx? λe=>(intKind prog w).is x e.2 with
 |some j=>
  have hin:x∈ns:=by
   refine hp.mem_iff.mp (Classical.byContradiction λz=>?_);rw[fl.mpr z]at hr;cases hr
  have e:cH ns x=ns:=if_pos hin;rw[e]at h;dsimp only;exact wpAny_pure (wpAny_pure (h s.heap _ (Heap.SameBut.refl a s.heap) ⟨es,ep,t,ho,hel,hp,hb,hf,hw⟩))
 |none=>
  have hin:x∉ns:=λz=>fl.mp hr (hp.mem_iff.mpr z)
  have e:cH ns x=ns++[x]:=if_neg hin;rw[e]at h;dsimp only;have gw:∀(b:Bool) {s1:Shared} {Q':Unit->Shared->Prop},Q' () s1->wpAny (model prog w) A (match b with
   |true=>rule "set.scan.the-table-gave-way"
   |false=>pure ()) Q' E s1:=λb s1 Q' hq=>by
   cases b
   .exact wpAny_pure hq
   .exact wpAny_rule hq
  have q1:=layNew_perm t es (hashInt x) (.int x tk);have q2:=layNew_fits t es (hashInt x) (.int x tk);have q3:=hw.layNew es (hashInt x) (.int x tk);generalize hL:PySem.layNew t es (hashInt x) (.int x tk)=L at q1 q2 q3;obtain⟨es1,t1,wd,gv⟩:=L;have hL':PySem.layNew t es ((intKind prog w).hash x) (.int x tk)=(es1,t1,wd,gv):=hL;dsimp only at q1 q2 q3;rw[Array.toList_push]at q1;have el1:∀e∈es1.toList,ye e:=λe he=>by
   rcases List.mem_append.mp (q1.mem_iff.mp he)with he|he
   .exact hel e he
   .rw[List.mem_singleton.mp he];exact⟨x,tk,rfl⟩
  have pm1:(es1.toList.map λe=>jQ e.2).Perm (ns++[x]):=(rg q1).trans (by
   rw[map_append];exact hp.append_right _)
  have ln1:(ns++[x]).length<scanBound:=by simpa using hroom
  have sz1:es1.size=(ns++[x]).length:=by
   have:=pm1.length_eq;rw[length_map,length_toList]at this;exact this
  dsimp only;refine wpAny_bind (gw _ ?_);refine wpAny_ite_split (λ_=>?_) (λ_=>?_)<;>refine wpAny_bind (wpAny_of_eq (a:=true) rfl ?_)<;>simp only[↓reduceIte]
  all_goals
   obtain⟨g1,g2⟩:=qS (w:=w) ho el1 pm1 ln1 q2 q3;refine wpAny_bind (wpAny_storeSet_of ho rfl ?_ (fits_of_scanBound (by lia)));have sb:=Heap.SameBut.update s.heap a (Obj.putSet es1 t1);split
   .have r1:=relayAll_perm t1 es1 (SetTable.grown es1.size)
    have r2:=relayAll_fits t1 es1 (SetTable.grown es1.size);have r3:=q3.relay es1 (SetTable.grown es1.size);generalize relayAll t1 es1 (SetTable.grown es1.size)=Rl at r1 r2 r3;obtain⟨es2,t2,gv2⟩:=Rl;dsimp only at r1 r2 r3 ⊢;have el2:∀e∈es2.toList,ye e:=λe he=>el1 e (r1.mem_iff.mp he)
    have pm2:(es2.toList.map λe=>jQ e.2).Perm (ns++[x]):=(rg r1).trans pm1;have sz2:es2.size=(ns++[x]).length:=by
     have:=pm2.length_eq;rw[length_map,length_toList]at this;exact this
    refine wpAny_bind (gw _ ?_);refine wpAny_bind (wpAny_storeSet_of g1 rfl ?_ (fits_of_scanBound (by lia)));exact wpAny_pure (wpAny_pure (h _ _ (sb.trans (Heap.SameBut.update _ a _)) (qS (w:=w) g1 el2 pm2 ln1 r2 r3).2))
   .exact wpAny_pure (wpAny_pure (h _ _ sb g2))
end
theorem lD:∀(l ns:List Int),(l.foldl cH ns).length<=ns.length+l.length
 |[],ns=>by simp
 |x::l,ns=>by
  have h1:=lD l (cH ns x);have h2:=tN ns x;show(l.foldl cH (cH ns x)).length<=_;rw[length_cons]
  lia
theorem wQ{ns:List Int}{i:Nat}{k:Int}(h:ns[i]? = some k):gJ (ns.take (i+1))=cH (gJ (ns.take i)) k:=by
 unfold gJ;rw[List.take_succ,h,List.foldl_append];rfl
abbrev aA(led:Bool):Obj:={cls:=.type "set",dict:=none,data:=.set #[] 0 (.fresh 0 0 led)}
theorem setJ_fresh{w:World}{h:Heap}:SetJ w (h.push (aA (!w.params.followText "set-order"))) h.objs.size []:=
 ⟨#[],0,_,get?_push_size _ rfl,λe he=>by simp at he,.refl _,by decide,rfl,WkT.fresh _⟩
section
variable{prog:Program}{w:World}{A:Around}{R:Result->Shared->Prop}{I:Addr}{fp wr:List Addr}{G:Array GenState->Array GenState->Prop}{n:Nat}{P:Nat->Value->Prop}{St:Nat->Shared->Prop}
theorem qN(W:WalksS prog w A.in1 I fp wr G n P St)(S:Addr)(hSf:S∉fp)(ns:List Int)(hn:ns.length=n)(hP:∀i v,P i v->∃k t,ns[i]? = some k/\v=.int k t)(hz:n+1<scanBound):
  ∀(k i:Nat) (s:Shared),n-i=k->i<=n->St i s->SetJ w s.heap S (gJ (ns.take i))->(∀s',Moved (S::wr) G s s'->SetJ w s'.heap S (gJ ns)->R (.ok (.ret .none)) s')->
   codeAny (model prog w) A (.builtin "set.update.loop" ⟨[.ref S,.ref I],[]⟩) R s:=by
 have nw:S∉wr:=λh=>hSf (W.sub _ h)
 have up:∀b∈wr,b∈S::wr:=λb hb=>mem_cons_of_mem _ hb
 intro k
 induction k with
 |zero=>
  intro i s hk hi hst hS hR;have e:i=n:=by lia
  subst e;refine codeAny_builtin F.entry_set_update_loop ?_;rw[Around.under_plainId F.plain_set_update_loop _];refine wpAny_bind (m:=pyNext (.ref I)) (W.done s _ _ hst λs' hm=>?_);rw[<-hn,List.take_length]at hS;exact wpAny_pure (hR s' (hm.mono up) (hS.at λo e=>hm.heap S o nw e))
 |succ k ih=>
  intro i s hk hi hst hS hR;have hlt:i<n:=by lia
  refine codeAny_builtin F.entry_set_update_loop ?_;rw[Around.under_plainId F.plain_set_update_loop _];refine wpAny_bind (m:=pyNext (.ref I)) (W.item i s _ _ hlt hst λv s' hPv hst' hm=>?_);obtain⟨x,t,hx,rfl⟩:=hP i v hPv;have hS':=hS.at λo e=>hm.heap S o nw e
  refine wpAny_bind (m:=holding [Value.int x t] (setAdd S (.int x t))) (wpAny_holding ?_);unfold setAdd;refine wpAny_holding (wpAny_bind ((intKind prog w).pyHash (k:=x) (intKind_is prog w x t) ?_));have ln:(gJ (ns.take i)).length<=i:=by
   have:=lD (ns.take i) [];rw[List.length_take]at this;unfold gJ;simp only[List.length_nil]at this
   lia
  refine B4 (s:={s' with toks:=s'.toks+1}) hS' (by lia) λh' b hsb hS2=>?_
  rw[<-wQ hx]at hS2;refine wpAny_pure ⟨plainId_quiet F.plain_set_update_loop _,ih (i+1) _ (by lia) hlt (W.frame _ s' _ _ hst' (le_succ _) λb hb o e=>?_) hS2 λs'' hm'' hS''=>?_⟩
  .rw[hsb.2 b (λz=>hSf (z ▸ hb))];exact e
  .refine hR s'' (Moved.trans W.gtrans ((hm.mono up).then_heap (le_succ _) λb o hb e=>?_) hm'') hS''
   rw[hsb.2 b (λz=>hb (z ▸ mem_cons_self))];exact e
end
section
variable{prog:Program}{w:World}{A:Around}{E:Value->Shared->Prop}{s:Shared}
theorem mP(a:Value){Q:Value->Shared->Prop}(h:Q (.ref s.heap.objs.size) {s with heap:=s.heap.push (aA (!w.params.followText "set-order"))}):
  codeAny (model prog w) A (.call (.builtin "set.__new__") ⟨[.type "set",a],[]⟩) (wants Q E) s:=by
 refine codeAny_of_tree ?_;refine wpAny_bind (m:=checkBuiltinCall "set.__new__" ⟨[.type "set",a],[]⟩) (wpAny_of_eq (F.newCall_set_1 a) (wpAny_pure ⟨plainId_quiet F.plain_set_new _,codeAny_builtin F.entry_set_new ?_⟩));rw[Around.under_plainId F.plain_set_new _];unfold Builtin.«set.__new__» Builtin.Frozenset.newClass;have f1:=sub_set_self;obtain⟨hp,g,d,tk,os⟩:=s;dsimp only
 wp_walk
 refine wpAny_askSetting (wpAny_pure ?_);dsimp only;simp only[newObj];exact wpAny_bind (wpAny_alloc (wpAny_pure (wpAny_pure h)))
theorem iJ{v:Value}{Q:Value->Shared->Prop}
  (h:∀A':Around,A'.handled=A.handled->A'.units<=A.units+8->wpAny (model prog w) A' (Builtin.Frozenset.updateFrom "set.__init__" s.heap.objs.size v) (λ_ s2=>Q (.ref s.heap.objs.size) s2) E {s with heap:=s.heap.push (aA (!w.params.followText "set-order"))}):
  wpAny (model prog w) A (call (.type "set") [v]) Q E s:=by
 obtain⟨c,tl,hmro⟩:=F.called_set.mro;have hmade:=F.called_set.made;have hsub:=F.called_set.sub;refine wpAny_call (codeAny_of_tree ?_);show wpAny _ _ (callAny (.type "set") _) _ _ _;refine wpAny_pure ⟨Code.quiet_builtin _ (by decide+kernel),codeAny_builtin F.entry_type_call ?_⟩;rw[Around.under_plain (weight_type_call_type "set" [v] []) rfl];have h1:=F.called_set.notType;have h2:=F.called_set.canCreate;have hct:=F.typeCall_set_1 v
 repeat (any_goals (first|assumption|wp_step))
 refine codeAny_mono (mP v (E:=E) (Q:=λobj s1=>obj=.ref s.heap.objs.size/\s1={s with heap:=s.heap.push (aA (!w.params.followText "set-order"))}) ⟨rfl,rfl⟩) λr s1 hr=>?_
 cases r with
 |error e=>exact hr
 |ok fl=>
  cases fl with
  |ret obj=>
   obtain⟨rfl,rfl⟩:=hr;have hT:Shared.TypeIs {s with heap:=s.heap.push (aA (!w.params.followText "set-order"))} (.ref s.heap.objs.size) "set":=⟨_,get?_push_size _ rfl,rfl⟩;have hS:(s.heap.push (aA (!w.params.followText "set-order"))).get? s.heap.objs.size=some (aA (!w.params.followText "set-order")):=get?_push_size _ rfl;have hli:=F.called_set.init.lookup;have hbi:=F.called_set.init.bind (.ref s.heap.objs.size)
   repeat (any_goals (first|assumption|wp_step))
   refine codeAny_mono (codeAny_call_builtin (R:=wants (λr s2=>r=.none/\Q (.ref s.heap.objs.size) s2) E) F.called_set.init.plain F.entry_set_init (check_set_init_1 hT ?_)) λr2 s2 hr2=>?_
   .unfold Builtin.«set.__init__» noKeywords
    generalize hUF:Builtin.Frozenset.updateFrom=UF
    wp_walk
    subst hUF;refine wpAny_mono (h _ (by simp) (by simp)) (λ_ s2 q=>?_) λ_ _ e=>e
    exact wpAny_pure ⟨rfl,q⟩
   .cases r2 with
    |error e=>exact hr2
    |ok fl2=>
     cases fl2 with
     |ret r=>
      obtain⟨rfl,q⟩:=hr2
      repeat (any_goals (first|assumption|wp_step))
     |_=>exact hr2.elim
  |_=>exact hr.elim
theorem qj{v:Value}{Q:Value->Shared->Prop}
  (h:∀A':Around,A'.handled=A.handled->wpAny (model prog w) A' (Builtin.Frozenset.updateFrom "set.__init__" s.heap.objs.size v) (λ_ s2=>Q (.ref s.heap.objs.size) s2) E {s with heap:=s.heap.push (aA (!w.params.followText "set-order"))}):
  wpAny (model prog w) A (call (.type "set") [v]) Q E s:=iJ λA' hA _=>h A' hA
end
theorem iD:isSubtype (.type "tuple") (.type "set")=pure false:=by rw[isSubtype_type];kernel_rfl
theorem dJ:isSubtype (.type "tuple") (.type "frozenset")=pure false:=by rw[isSubtype_type];kernel_rfl
theorem uj{items:Array Value}{ns:List Int}(hi:IntsAre items.toList ns):ns.length=items.size/\∀(i:Nat) (v:Value),items[i]? = some v->∃k t,ns[i]? = some k/\v=Value.int k t:=by
 have hl:ns.length=items.size:=by
  have:=IntsAre.length hi;rw[length_toList]at this
  lia
 refine⟨hl,λi v e=>?_⟩
 obtain⟨t,q⟩:=IntsAre.int_at hi i v (by rw[getElem?_toList];exact e);have h:i<ns.length:=by
  have:=(Array.getElem?_eq_some_iff.mp e).1
  lia
 exact⟨ns[i],t,by simp[h],by rw[q,getD_eq_getElem?_getD];simp[h]⟩
section
variable{prog:Program}{w:World}{A:Around}{E:Value->Shared->Prop}{s:Shared}
theorem nM{l:Addr}{items:Array Value}{ns:List Int}{Q:Value->Shared->Prop}(hh:A.handled=none)(hl:s.heap.IsList l items\/s.heap.IsTuple l items)(hi:IntsAre items.toList ns)(hb:items.size+1<scanBound)
  (h:∀(h':Heap) (tk:Nat),SetJ w h' s.heap.objs.size (gJ ns)->(∀b o,s.heap.get? b=some o->h'.get? b=some o)->Q (.ref s.heap.objs.size) {s with heap:=h',toks:=tk}):wpAny (model prog w) A (call (.type "set") [.ref l]) Q E s:=by
 obtain⟨hn,hP⟩:=uj hi;refine qj λA' hA=>?_
 have hh':A'.handled=none:=hA.trans hh;have fin:∀(s':Shared) (I:Addr) (o:Obj),Moved [s.heap.objs.size,I] (λa b=>b=a) {s with heap:=(s.heap.push (aA (!w.params.followText "set-order"))).push o} s'->I=(s.heap.push (aA (!w.params.followText "set-order"))).objs.size->SetJ w s'.heap s.heap.objs.size (gJ ns)->Q (.ref s.heap.objs.size) s':=λs' I o hm hI hS=>by
  obtain⟨h',g',d',tk',os'⟩:=s';have eg:g'=s.gens:=hm.gens;have ed:d'=s.drawn:=hm.drawn;have eo:os'=s.os:=hm.os;subst eg ed eo;refine h h' tk' hS λb o' e=>?_
  have lt:=lt_size e;refine hm.heap b o' ?_ (get?_push_of_some _ (get?_push_of_some _ e));rw[hI,size_push];simp only[mem_cons,not_mem_nil,or_false,not_or];exact⟨ne_of_lt lt,ne_of_lt (Nat.lt_succ_of_lt lt)⟩
 rcases hl with hl|hl
 .obtain⟨ol,hol,hcl,nl,hdl⟩:=hl
  obtain⟨ocls,odict,odata,oslots⟩:=ol;simp only at hcl hdl;subst hcl hdl;have lt:=lt_size hol;have hol':=get?_push_of_some (aA (!w.params.followText "set-order")) hol;have f1:=F.sub_list_set;have f2:=F.sub_list_frozenset;have f3:(Value.type "list" == Value.type "dict")=false:=by decide
  have hl1:(s.heap.push (aA (!w.params.followText "set-order"))).IsList l items:=⟨_,hol',rfl,nl,rfl⟩;unfold Builtin.Frozenset.updateFrom;generalize hPI:pyIter=PI
  wp_walk
  subst hPI;refine wpAny_pyIter_list hl1 ?_;refine wpAny_bind (wpAny_runValue ?_);have ne:l≠(s.heap.push (aA (!w.params.followText "set-order"))).objs.size:=by rw[size_push];exact ne_of_lt (Nat.lt_succ_of_lt lt)
  have nf:s.heap.objs.size∉[(s.heap.push (aA (!w.params.followText "set-order"))).objs.size,l]:=by
   rw[size_push];simp only[mem_cons,not_mem_nil,or_false,not_or];exact⟨ne_of_lt (lt_succ_self _),ne_of_gt lt⟩
  refine qN ((Walks.list (by simpa using hh') _ l ne items).toS) s.heap.objs.size nf ns hn hP hb items.size 0 _ (by lia) (zero_le _) ⟨⟨_,get?_push_size _ rfl,rfl,rfl⟩,hl1.push _⟩ (setJ_fresh.at λo e=>get?_push_of_some _ e) λs' hm hS=>?_
  exact wpAny_pure ((fin s' _ _ hm rfl hS))
 .obtain⟨ol,hol,hcl,nl,hdl⟩:=hl
  obtain⟨ocls,odict,odata,oslots⟩:=ol;simp only at hcl hdl;subst hcl hdl;have lt:=lt_size hol;have hol':=get?_push_of_some (aA (!w.params.followText "set-order")) hol;have f1:=iD;have f2:=dJ;have f3:(Value.type "tuple" == Value.type "dict")=false:=by decide
  have hl1:(s.heap.push (aA (!w.params.followText "set-order"))).IsTuple l items:=⟨_,hol',rfl,nl,rfl⟩;unfold Builtin.Frozenset.updateFrom;generalize hPI:pyIter=PI
  wp_walk
  subst hPI;refine wpAny_pyIter_tuple hl1 ?_;refine wpAny_bind (wpAny_runValue ?_);have ne:l≠(s.heap.push (aA (!w.params.followText "set-order"))).objs.size:=by rw[size_push];exact ne_of_lt (Nat.lt_succ_of_lt lt)
  have nf:s.heap.objs.size∉[(s.heap.push (aA (!w.params.followText "set-order"))).objs.size,l]:=by
   rw[size_push];simp only[mem_cons,not_mem_nil,or_false,not_or];exact⟨ne_of_lt (lt_succ_self _),ne_of_gt lt⟩
  refine qN ((Walks.tuple (by simpa using hh') _ l ne items).toS) s.heap.objs.size nf ns hn hP hb items.size 0 _ (by lia) (zero_le _) ⟨⟨_,get?_push_size _ rfl,rfl,rfl⟩,hl1.push _⟩ (setJ_fresh.at λo e=>get?_push_of_some _ e) λs' hm hS=>?_
  exact wpAny_pure ((fin s' _ _ hm rfl hS))
end
theorem iZ{α:Type}:∀(l:List α) (i:Nat) (x:α),l[i]? = some x->l.Perm (x::l.eraseIdx i)
 |a::l,0,x,h=>by
  have:a=x:=by simpa using h
  subst this;exact .refl _
 |a::l,i+1,x,h=>by
  have ih:=iZ l i x (by simpa using h);rw[List.eraseIdx_cons_succ];exact(ih.cons a).trans (.swap x a _)
theorem ve{α:Type}(f:Nat->Nat):∀(n k:Nat) (l:List α) (out:Array α),l.length=n->(pickOrder.go f n k l out).toList.Perm (out.toList++l)
 | 0,k,l,out,h=>by
  have:l=[]:=List.length_eq_zero_iff.mp h;subst this;unfold pickOrder.go;simp
 |n+1,k,l,out,h=>by
  have hi:f k%l.length<l.length:=Nat.mod_lt _ (by lia);have hx:l[f k%l.length]? = some l[f k%l.length]:=by simp[hi]
  unfold pickOrder.go;rw[hx];have ih:=ve f n (k+1) (l.eraseIdx (f k%l.length)) (out.push l[f k%l.length]) (by rw[List.length_eraseIdx,if_pos hi];lia);refine ih.trans ?_;rw[Array.toList_push,List.append_assoc];exact(iZ l _ _ hx).symm.append_left _
theorem xa{α:Type}(f:Nat->Nat)(xs:Array α):(pickOrder f xs).toList.Perm xs.toList:=by
 have:=ve f xs.size 0 xs.toList #[] (by simp);simpa[pickOrder]using this
theorem slot_si_next:Slot "set_iterator" "__next__" "set_iterator.__next__":=
 .of (owner:="set_iterator") (n:="__next__") (by rw[typeLookup_type,builtinLookup_eq_fast];kernel_rfl) (by decide+kernel) (by decide+kernel) (by decide+kernel)
  (by first|exact .inl (by decide+kernel)|exact .inr (by decide+kernel)) (by rw[isSubtype_type];kernel_rfl)
theorem nC:entryFor table "set_iterator.__next__" = some Builtin.«set_iterator.__next__»:=entryFor_of_tree (by kernel_rfl)
theorem rm:Manifest.owners.lookup (String.ofList ['r','o','t','a','r','e','t','i','_','t','e','s'].reverse)=some Manifest.sig_set_iterator:=by kernel_rfl
theorem qw(a:Value):argsOk "set_iterator.__next__" ⟨[a],[]⟩:=by
 unfold argsOk;rw[signature?_of (id:="set_iterator.__next__") (n:=['_','_','t','x','e','n','_','_']) (o:=['r','o','t','a','r','e','t','i','_','t','e','s']) (by kernel_rfl) rm];kernel_rfl
theorem kP:entryFor table "set.__iter__" = some Builtin.«frozenset.__iter__»:=
 entryFor_alias (id':="frozenset.__iter__") (by kernel_rfl) rfl (by decide+kernel) (by kernel_rfl)
section
variable{M:Model}{prog:Program}{w:World}{A:Around}{E:Value->Shared->Prop}{s:Shared}
theorem pc{src:Source}{n:Nat}{Q:Nat->Shared->Prop}(hn:n≠0)(h:∀k d,k<n->Q k {s with drawn:=d}):wpAny M A (choose src n) Q E s:=λΓ p hΓ=>by
 show Sem.wp M Γ (.choose src n .pure) _ _ p s;rw[Sem.wp_choose];exact⟨hn,h _ _ (Nat.mod_lt _ (Nat.pos_of_ne_zero hn))⟩
theorem oZ{α:Type}:∀(n:Nat) (xs:List α) (s:Shared) {Q:List α -> Shared->Prop},xs.length=n->(∀ys d,ys.Perm xs->Q ys {s with drawn:=d})->wpAny M A (drawOrder n xs) Q E s
 | 0,xs,s,Q,hn,h=>by
  have:xs=[]:=List.length_eq_zero_iff.mp hn;subst this;unfold drawOrder;exact wpAny_pure (h [] s.drawn (.refl _))
 |n+1,[],s,Q,hn,h=>by simp at hn
 |n+1,x::xs,s,Q,hn,h=>by
  unfold drawOrder;refine wpAny_bind (pc (by simp) λk d hk=>?_)
  have hx:(x::xs)[k]? = some ((x::xs)[k]):=by simp[hk]
  rw[hx];refine wpAny_bind (oZ n ((x::xs).eraseIdx k) _ (by rw[List.length_eraseIdx,if_pos hk];lia) λys d' p=>?_)
  exact wpAny_pure (h _ d' ((p.cons _).trans (iZ _ _ _ hx).symm))
abbrev dE(es:Array (Int×Value))(ep:Nat)(t:SetTable):Obj:={cls:=.type "set",dict:=none,data:=.set es ep t,slots:=#[]}
def lC(first:Value)(i:Int)(a:Addr)(n ep:Int):Obj:={cls:=.type "set_iterator",data:=.fields #[first,rawInt i,.ref a,rawInt n,rawInt ep]}
theorem ix{Q:Bool->Shared->Prop}(h:Q (w.params.followText "set-order") s):wpAny (model prog w) A setsByText Q E s:=by
 unfold setsByText;exact wpAny_bind (wpAny_askSetting (wpAny_pure h))
inductive Mode (w:World) (h:Heap) (a:Addr) (es:Array (Int×Value)) (ep:Nat) (t:SetTable) (vs:List Value):Nat->Value->Prop
 |text {i:Nat} {sl:Nat}:w.params.followText "set-order" = true->vs=(pickOrder (w.params.setOrder a ep) es).toList.map (·.2)->Mode w h a es ep t vs i (rawInt sl)
 |slots {i:Nat}:w.params.followText "set-order" = false->(!t.plain&&decide (es.size>1))=false->UpA t.place->vs=es.toList.map (·.2)->Mode w h a es ep t vs i (rawInt (if i=0 then 0 else t.place.getD (i-1) 0+1:Nat))
 |drawn {i:Nat} {tp:Addr} {o:Obj} {ps:List Nat} {k:Nat}:h.get? tp=some o->o.data=.seq (ps.map λp:Nat=>rawInt (p:Int)).toArray k->vs.length=ps.length->(∀(j p:Nat),ps[j]? = some p->∃e:Int×Value,es[p]? = some e/\vs[j]? = some e.2)->Mode w h a es ep t vs i (.ref tp)
def SWk(w:World)(h:Heap)(I a:Addr)(vs:List Value)(tp:Addr)(i:Nat):Prop:=∃es ep t first,h.get? a=some (dE es ep t)/\t.fits es.size=true/\WkT (!w.params.followText "set-order") t/\vs.length=es.size/\h.get? I=some (lC first i a es.size ep)/\(∀b,first=.ref b->b=tp)/\Mode w h a es ep t vs i first
theorem Mode.keep{h h':Heap}{a tp:Addr}{es:Array (Int×Value)}{ep:Nat}{t:SetTable}{vs:List Value}{i:Nat}{first:Value}(m:Mode w h a es ep t vs i first)(hf:∀b,first=.ref b->b=tp)(k:∀o,h.get? tp=some o->h'.get? tp=some o):Mode w h' a es ep t vs i first:=by
 cases m with
 |text e1 e2=>exact .text e1 e2
 |slots e1 e2 e3 e4=>exact .slots e1 e2 e3 e4
 |drawn e1 e2 e3 e4=>
  have:=hf _ rfl;subst this;exact .drawn (k _ e1) e2 e3 e4
theorem d3{I:Addr}{first:Value}{i n ep:Int}{a:Addr}(h:s.heap.get? I=some (lC first i a n ep)):s.TypeIs (.ref I) "set_iterator":=⟨_,h,rfl⟩
theorem uZ{I a:Addr}{first:Value}{i n:Nat}{es:Array (Int×Value)}{ep:Nat}{t:SetTable}{Q:Option Value->Shared->Prop}(hI:s.heap.get? I=some (lC first i a n ep))(ha:s.heap.get? a=some (dE es ep t))(hf:t.fits es.size=true)(hn:es.size=n)
  (h:wpAny (model prog w) A.in1 (if let .int slot _:=first then do
     match <-setNext a slot.toNat i ep with
     |some (x,next)=>
      setField (.ref I) 0 (rawInt next)
      setField (.ref I) 1 (rawInt ((i:Int)+1))
      ret x
     |none=>setField (.ref I) 2 .none;raiseNew (<-newExc (.type "StopIteration") [])
    else do
     let some places <-seqItems? first|unsupported "internal:set_iterator"
     match places[i]? with
     |some (.int place _)=>
      let x <-setNextDrawn a place.toNat ep
      setField (.ref I) 1 (rawInt ((i:Int)+1))
      ret x
     |some _=>unsupported "internal:set_iterator"
     |none=>setField (.ref I) 0 (rawInt 0);setField (.ref I) 2 .none;raiseNew (<-newExc (.type "StopIteration") []))
   (λfin s'=>∃r,fin=.done (.ret r)/\Q (some r) s') (λe s'=>wpAny (model prog w) A (do if <-isInstance e (.type "StopIteration")then pure none else throw e) Q E s') s):wpAny (model prog w) A (pyNext (.ref I)) Q E s:=by
 unfold pyNext;refine wpAny_bind (wpAny_attempt (wpAny_callSpecial?_slot (name:=Str.ofString "__next__") (d3 hI) slot_si_next (wpAny_call_entry slot_si_next (d3 hI) nC ?_ (qw _))));unfold Builtin.«set_iterator.__next__»;refine wpAny_bind (wpAny_of_eq (a:=(Value.ref I,[])) rfl ?_)
 try dsimp only
 refine wpAny_bind (wpAny_fieldsOf hI rfl ?_);show wpAny _ _ (setEntries a >>= λq=>_) _ _ s;refine wpAny_bind (wpAny_setEntries_of ha rfl hf ?_);refine wpAny_ite_split (λz=>absurd z (by simp[hn])) (λ_=>?_)
 simp only[toNat_natCast];exact wpAny_mono h (λfin s' q=>let ⟨r,e,q⟩:=q; ⟨r,e,wpAny_pure q⟩) λ_ _ e=>e
theorem pq{Q:Option Value->Shared->Prop}{P:PySem.Fin->Shared->Prop}(hh:A.handled=none)(h:∀h',(∀b o,s.heap.get? b=some o->h'.get? b=some o)->Q none {s with heap:=h'}):
  wpAny (model prog w) A.in1 (do
   let x <-newExc (.type "StopIteration") []
   raiseNew x) P (λe s'=>wpAny (model prog w) A (do if <-isInstance e (.type "StopIteration")then pure none else throw e) Q E s') s:=by
 refine wpAny_bind ?_;simp only[newExc,newTuple];refine wpAny_bind (wpAny_newObj_type ?_ (by size_fits));refine wpAny_bind (m:=firstArgMember _ _) (wpAny_of_eq (a:=Value.none) (by first|rfl|(simp only[firstArgMember];rfl)) ?_);refine wpAny_newObj_type ?_ (by size_fits);simp only[raiseNew];refine wpAny_bind (wpAny_handled ?_);rw[show A.in1.handled=none from hh];refine wpAny_bind (wpAny_pure (wpAny_throw ?_));refine wpAny_bind (wpAny_isInstance (T:="StopIteration") (b:=true) ⟨_,get?_push_size _ rfl,rfl⟩ isSubtype_stop ?_);exact wpAny_pure (h _ λb o e=>get?_push_of_some _ (get?_push_of_some _ e))
theorem aZ{h:Heap}{I b:Addr}{f:Obj->Obj}{o:Obj}(hb:b≠I)(e:h.get? b=some o):(h.update I f).get? b=some o:=(Heap.get?_update_other _ _ (Ne.symm hb)).trans e
theorem jh{a:Addr}{es:Array (Int×Value)}{ep:Nat}{t:SetTable}{sl i:Nat}{Q:Option (Value×Nat)->Shared->Prop}(ha:s.heap.get? a=some (dE es ep t))(hf:t.fits es.size=true)(hT:w.params.followText "set-order" = true)(h:Q (((pickOrder (w.params.setOrder a ep) es)[i]?).map λe=>(e.2,sl)) s):wpAny (model prog w) A (setNext a sl i ep) Q E s:=by
 unfold setNext;refine wpAny_bind (wpAny_setState_of ha rfl hf ?_);dsimp only;refine wpAny_bind (ix ?_);rw[hT,if_pos rfl];refine wpAny_ite_split (λz=>absurd z (by simp)) (λ_=>?_)
 unfold setWalk;refine wpAny_bind (wpAny_bind (wpAny_setState_of ha rfl hf ?_));dsimp only;refine wpAny_bind (ix ?_);rw[hT,if_pos rfl];refine wpAny_bind (wpAny_askSetting (wpAny_pure ?_));exact wpAny_pure h
theorem ji{a:Addr}{es:Array (Int×Value)}{ep:Nat}{t:SetTable}{sl i:Nat}{Q:Option (Value×Nat)->Shared->Prop}(ha:s.heap.get? a=some (dE es ep t))(hf:t.fits es.size=true)(hT:w.params.followText "set-order" = false)(hp:(!t.plain&&decide (es.size>1))=false)(hw:t.led=true)
  (h:Q (match es[SetTable.below t.place sl]?,t.place[SetTable.below t.place sl]? with
   |some (_,x),some j=>some (x,j+1)
   |_,_=>none) s):wpAny (model prog w) A (setNext a sl i ep) Q E s:=by
 unfold setNext;refine wpAny_bind (wpAny_setState_of ha rfl hf ?_);dsimp only;refine wpAny_bind (ix ?_);rw[hT,if_neg (by decide)];show wpAny _ _ (if(!t.plain&&decide (es.size>1))=true then _ else _) _ _ _;rw[hp,if_neg (by decide)];show wpAny _ _ ((if(!t.led && !es.isEmpty)=true then _ else _) >>= _) _ _ _;rw[hw];simp only[Bool.not_true,Bool.false_and,Bool.false_eq_true,if_false];exact wpAny_bind (wpAny_pure (wpAny_pure h))
end
section
variable{prog:Program}{w:World}{A:Around}{E:Value->Shared->Prop}{s:Shared}
theorem j8{t:SetTable}{n:Nat}(h:t.fits n=true):t.place.size=n:=by
 simp only[SetTable.fits,Bool.and_eq_true,beq_iff_eq]at h;exact h.1
theorem yO{h:Heap}{I a:Addr}{first x:Value}{i n ep:Int}(hI:h.get? I=some (lC first i a n ep))(j:Int):((h.update I (Obj.mapFields (·.setIfInBounds 0 x))).update I (Obj.mapFields (·.setIfInBounds 1 (rawInt j)))).get? I=some (lC x j a n ep):=by
 have h1:=get?_update_self (Obj.mapFields (·.setIfInBounds 0 x)) hI rfl;exact get?_update_self (Obj.mapFields (·.setIfInBounds 1 (rawInt j))) h1 rfl
theorem EB{h:Heap}{I a:Addr}{first:Value}{i n ep:Int}(hI:h.get? I=some (lC first i a n ep))(j:Int):(h.update I (Obj.mapFields (·.setIfInBounds 1 (rawInt j)))).get? I=some (lC first j a n ep):=
 get?_update_self (Obj.mapFields (·.setIfInBounds 1 (rawInt j))) hI rfl
theorem BG{I a tp:Addr}{vs:List Value}{i:Nat}{v:Value}{Q:Option Value->Shared->Prop}(ha:a≠I)(ht:tp≠I)(hW:SWk w s.heap I a vs tp i)(hv:vs[i]? = some v)
  (hQ:∀h',SWk w h' I a vs tp (i+1)->(∀b o,b≠I->s.heap.get? b=some o->h'.get? b=some o)->Q (some v) {s with heap:=h'}):wpAny (model prog w) A (pyNext (.ref I)) Q E s:=by
 obtain⟨es,ep,t,first,e1,e2,e3,e4,e5,e6,e7⟩:=hW;have hi:i<vs.length:=(List.getElem?_eq_some_iff.mp hv).1;refine uZ e5 e1 e2 rfl ?_;cases e7 with
 |text m1 m2=>
  rename_i sl;show wpAny _ _ (setNext a ((sl:Int)).toNat i ep >>= _) _ _ _;rw[toNat_natCast];have hx:∃e,(pickOrder (w.params.setOrder a ep) es)[i]? = some e/\e.2=v:=by
   rw[m2,getElem?_map,getElem?_toList]at hv;exact Option.map_eq_some_iff.mp hv
  obtain⟨e,q1,q2⟩:=hx;refine wpAny_bind (jh e1 e2 m1 ?_);rw[q1];dsimp only[Option.map];rw[q2];refine wpAny_bind (wpAny_setField e5 rfl (by simp) ?_);have g1:=get?_update_self (Obj.mapFields (·.setIfInBounds 0 (rawInt (sl:Int)))) e5 rfl;refine wpAny_bind (wpAny_setField g1 rfl (by simp) (wpAny_pure ⟨v,rfl,hQ _ ?_ λb o hb eo=>aZ hb (aZ hb eo)⟩))
  exact⟨es,ep,t,rawInt sl,aZ ha (aZ ha e1),e2,e3,e4,yO e5 _,λb z=>(by cases z),.text m1 m2⟩
 |slots m1 m2 m3 m4=>
  have hz:=j8 e2;have hb:SetTable.below t.place (if i=0 then 0 else t.place.getD (i-1) 0+1)=i:=by
   by_cases z:i=0
   .subst z;rw[if_pos rfl,mU m3]
   .rw[if_neg z]
    have:i-1<t.place.size:=by lia
    have e:t.place.getD (i-1) 0=t.place[i-1]:=by simp[Array.getD,this]
    rw[e,mV m3 this]
    lia
  have hp:t.place[i]? = some (t.place.getD i 0):=by
   have:i<t.place.size:=by lia
   simp[Array.getD,this]
  obtain⟨e,q1,q2⟩:∃e,es[i]? = some e/\e.2=v:=by
   rw[m4,getElem?_map,getElem?_toList]at hv;exact Option.map_eq_some_iff.mp hv
  obtain⟨eh,ev⟩:=e;have q2:ev=v:=q2;subst q2;show wpAny _ _ (setNext a (((if i=0 then 0 else t.place.getD (i-1) 0+1:Nat):Int)).toNat i ep >>= _) _ _ _;rw[toNat_natCast];refine wpAny_bind (ji e1 e2 m1 m2 (by rw[e3.led,m1];rfl) ?_);rw[hb,q1,hp];dsimp only;refine wpAny_bind (wpAny_setField e5 rfl (by simp) ?_);have g1:=get?_update_self (Obj.mapFields (·.setIfInBounds 0 (rawInt ((t.place.getD i 0+1:Nat):Int)))) e5 rfl;refine wpAny_bind (wpAny_setField g1 rfl (by simp) (wpAny_pure ⟨ev,rfl,hQ _ ?_ λb o hb eo=>aZ hb (aZ hb eo)⟩))
  have m:Mode w ((s.heap.update I (Obj.mapFields (·.setIfInBounds 0 (rawInt ((t.place.getD i 0+1:Nat):Int))))).update I (Obj.mapFields (·.setIfInBounds 1 (rawInt ((i:Int)+1))))) a es ep t vs (i+1) (rawInt (if i+1=0 then 0 else t.place.getD (i+1-1) 0+1:Nat)):=.slots m1 m2 m3 m4;rw[if_neg (by lia),Nat.add_sub_cancel]at m;exact⟨es,ep,t,_,aZ ha (aZ ha e1),e2,e3,e4,yO e5 _,λb z=>(by cases z),m⟩
 |drawn m1 m2 m3 m4=>
  rename_i tq o ps k;have:=e6 _ rfl;subst this;have hj:i<ps.length:=by lia
  have hp:ps[i]? = some ps[i]:=by simp[hj]
  obtain⟨e,q1,q2⟩:=m4 i _ hp;rw[hv]at q2;have q2:v=e.2:=by simpa using q2
  show wpAny _ _ (seqItems? (.ref tq) >>= _) _ _ _;refine wpAny_bind (wpAny_seqItems m1 m2 ?_);dsimp only;have pl:(ps.map λp:Nat=>rawInt (p:Int)).toArray[i]? = some (rawInt (ps[i]:Int)):=by simp[hj]
  rw[pl];show wpAny _ _ (setNextDrawn a ((ps[i]:Int)).toNat ep >>= _) _ _ _;rw[toNat_natCast];unfold setNextDrawn;refine wpAny_bind (wpAny_bind (wpAny_setState_of e1 rfl e2 ?_));dsimp only;refine wpAny_ite_split (λz=>absurd z (by simp)) (λ_=>?_)
  rw[q1];refine wpAny_pure ?_;rw[<-q2];refine wpAny_bind (wpAny_setField e5 rfl (by simp) (wpAny_pure ⟨v,rfl,hQ _ ?_ λb o hb eo=>aZ hb eo⟩));exact⟨es,ep,t,.ref tq,aZ ha e1,e2,e3,e4,EB e5 _,e6,.drawn (aZ ht m1) m2 m3 m4⟩
theorem BH{I a tp:Addr}{vs:List Value}{Q:Option Value->Shared->Prop}(hh:A.handled=none)(hW:SWk w s.heap I a vs tp vs.length)
  (hQ:∀h',(∀b o,b≠I->s.heap.get? b=some o->h'.get? b=some o)->Q none {s with heap:=h'}):wpAny (model prog w) A (pyNext (.ref I)) Q E s:=by
 obtain⟨es,ep,t,first,e1,e2,e3,e4,e5,e6,e7⟩:=hW;refine uZ e5 e1 e2 rfl ?_;cases e7 with
 |text m1 m2=>
  rename_i sl;show wpAny _ _ (setNext a ((sl:Int)).toNat vs.length ep >>= _) _ _ _;rw[toNat_natCast];refine wpAny_bind (jh e1 e2 m1 ?_);have hx:(pickOrder (w.params.setOrder a ep) es)[vs.length]? = none:=by
   rw[<-getElem?_toList,List.getElem?_eq_none_iff,m2,length_map];exact le_refl _
  rw[hx];dsimp only[Option.map];refine wpAny_bind (wpAny_setField e5 rfl (by simp) ?_);exact pq hh λh' kp=>hQ h' λb o hb eo=>kp b o (aZ hb eo)
 |slots m1 m2 m3 m4=>
  have hz:=j8 e2;have hb:SetTable.below t.place (if vs.length=0 then 0 else t.place.getD (vs.length-1) 0+1)=vs.length:=by
   by_cases z:vs.length=0
   .rw[if_pos z,mU m3,z]
   .rw[if_neg z]
    have:vs.length-1<t.place.size:=by lia
    have e:t.place.getD (vs.length-1) 0=t.place[vs.length-1]:=by simp[Array.getD,this]
    rw[e,mV m3 this]
    lia
  show wpAny _ _ (setNext a (((if vs.length=0 then 0 else t.place.getD (vs.length-1) 0+1:Nat):Int)).toNat vs.length ep >>= _) _ _ _;rw[toNat_natCast];refine wpAny_bind (ji e1 e2 m1 m2 (by rw[e3.led,m1];rfl) ?_);rw[hb];have hx:es[vs.length]? = none:=by rw[e4];simp
  rw[hx];dsimp only;refine wpAny_bind (wpAny_setField e5 rfl (by simp) ?_);exact pq hh λh' kp=>hQ h' λb o hb eo=>kp b o (aZ hb eo)
 |drawn m1 m2 m3 m4=>
  rename_i tq o ps k;show wpAny _ _ (seqItems? (.ref tq) >>= _) _ _ _;refine wpAny_bind (wpAny_seqItems m1 m2 ?_);dsimp only;have pl:(ps.map λp:Nat=>rawInt (p:Int)).toArray[vs.length]? = none:=by rw[m3];simp
  rw[pl];dsimp only;refine wpAny_bind (wpAny_setField e5 rfl (by simp) ?_);have g1:=get?_update_self (Obj.mapFields (·.setIfInBounds 0 (rawInt 0))) e5 rfl;refine wpAny_bind (wpAny_setField g1 rfl (by simp) ?_);exact pq hh λh' kp=>hQ h' λb o hb eo=>kp b o (aZ hb (aZ hb eo))
theorem SWk.frame{h h':Heap}{I a tp:Addr}{vs:List Value}{i:Nat}(x:SWk w h I a vs tp i)(k:∀b∈[I,a,tp],∀o,h.get? b=some o->h'.get? b=some o):SWk w h' I a vs tp i:=
 let ⟨es,ep,t,first,e1,e2,e3,e4,e5,e6,e7⟩:=x
 ⟨es,ep,t,first,k a (by simp) _ e1,e2,e3,e4,k I (by simp) _ e5,e6,e7.keep e6 (k tp (by simp))⟩
theorem nD:entryFor table "set_iterator.__iter__" = some Builtin.«dict_keyiterator.__iter__»:=
 entryFor_alias (id':="dict_keyiterator.__iter__") (by kernel_rfl) (by first|rfl|decide+kernel|(unfold String.splitOn;simp +decide [String.splitOnAux])) (by decide+kernel) (by kernel_rfl)
theorem jf:Slot "set_iterator" "__iter__" "set_iterator.__iter__":=
 .of (owner:="set_iterator") (n:="__iter__") (by rw[typeLookup_type,builtinLookup_eq_fast];kernel_rfl) (by decide+kernel) (by decide+kernel) (by decide+kernel)
  (by first|exact .inl (by decide+kernel)|exact .inr (by decide+kernel)) (by rw[isSubtype_type];kernel_rfl)
theorem qx(a:Value):argsOk "set_iterator.__iter__" ⟨[a],[]⟩:=by
 unfold argsOk;rw[signature?_of (id:="set_iterator.__iter__") (n:=['_','_','r','e','t','i','_','_']) (o:=['r','o','t','a','r','e','t','i','_','t','e','s']) (by kernel_rfl) rm];kernel_rfl
theorem yu(hh:A.handled=none){I a tp:Addr}(ha:a≠I)(ht:tp≠I)(vs:List Value):Walks prog w A I [I,a,tp] [I] vs.length (λi v=>vs[i]? = some v) (λi h=>SWk w h I a vs tp i) where
 sub:=λb hb=>by simp at hb;simp[hb]
 frame:=λ_ _ _ st hk=>st.frame hk
 item:=λi s Q E hi st hQ=>BG ha ht st (v:=vs[i]) (by simp[hi]) λh' x k=>hQ _ h' s.toks (by simp[hi]) x λb o hb e=>k b o (λz=>hb (by simp[z])) e
 done:=λs Q E st hQ=>BH hh st λh' k=>hQ h' s.toks λb o hb e=>k b o (λz=>hb (by simp[z])) e
 self:=λi s Q E st hQ=>by
  obtain⟨es,ep,t,first,e1,e2,e3,e4,e5,e6,e7⟩:=st;refine wpAny_pyIter_slot (d3 e5) jf (wpAny_call_entry jf (d3 e5) nD ?_ (qx _));exact wpAny_pure ⟨_,rfl,"set_iterator",_,d3 e5,slot_si_next.lookup,hQ⟩
end
theorem tR(es:Array (Int×Value)):(List.range es.size).map (λp=>es.getD p (0,.none))=es.toList:=by
 apply ext_getElem?;intro i;rw[getElem?_map];by_cases h:i<es.size
 .rw[List.getElem?_range h]
  simp[Array.getD,h]
 .rw[getElem?_eq_none (by rw[List.length_range];lia),getElem?_eq_none (by rw[length_toList];lia)]
  rfl
section
variable{prog:Program}{w:World}{A:Around}{E:Value->Shared->Prop}{s:Shared}
theorem wO{a:Addr}{es:Array (Int×Value)}{ep:Nat}{t:SetTable}{Q:Value->Shared->Prop}(ho:s.heap.get? a=some (dE es ep t))(hb:es.size<scanBound)(hf:t.fits es.size=true)(hw:WkT (!w.params.followText "set-order") t)
  (hQ:∀I tp h1 d vs,tp≠I->a≠I->(∀b o,s.heap.get? b=some o->h1.get? b=some o)->s.heap.objs.size<=I->I<h1.objs.size->(tp=a\/s.heap.objs.size<=tp)->SWk w h1 I a vs tp 0->vs.Perm (es.toList.map (·.2))->Q (.ref I) {s with heap:=h1,drawn:=d}):wpAny (model prog w) A (pyIter (.ref a)) Q E s:=by
 have hT:s.TypeIs (.ref a) "set":=⟨_,ho,rfl⟩;have lt:=lt_size ho;refine wpAny_pyIter_slot hT F.slot_set_iter (wpAny_call_entry F.slot_set_iter hT kP ?_ (F.args_set_iter_1 _));unfold Builtin.«frozenset.__iter__» Builtin.Frozenset.slot0;refine wpAny_bind (wpAny_bind (wpAny_of_eq (a:=(Value.ref a,[])) rfl ?_));unfold Builtin.Frozenset.addrOf Builtin.Frozenset.sizeOf;refine wpAny_pure ?_;refine wpAny_bind (wpAny_bind (wpAny_setEntries_of ho rfl hf (wpAny_pure ?_)));unfold setDrawn;refine wpAny_bind (wpAny_bind (wpAny_setState_of ho rfl hf ?_));dsimp only;refine wpAny_bind (ix (wpAny_pure ?_));have plain:∀vs:List Value,vs.Perm (es.toList.map (·.2))->vs.length=es.size->(∀h1:Heap,Mode w h1 a es ep t vs 0 (rawInt (0:Nat)))->wpAny (model prog w) A.in1 (do
   let ep <-setEpoch a
   let x <-newFields "set_iterator" [rawInt 0,rawInt 0,.ref a,rawInt es.size,rawInt ep]
   ret x) (λfin s'=>∃v,fin=.done (.ret v)/\∃T' r,s'.TypeIs v T'/\typeLookup (.type T') "__next__" = pure (some r)/\Q v s') E s:=λvs q1 q3 q4=>by
  refine wpAny_bind (wpAny_setEpoch_of ho rfl hf ?_);refine wpAny_bind (wpAny_newObj_type (wpAny_pure ⟨_,rfl,"set_iterator",_,⟨_,get?_push_size _ rfl,rfl⟩,slot_si_next.lookup,?_⟩));refine hQ s.heap.objs.size a _ s.drawn vs (ne_of_lt lt) (ne_of_lt lt) (λb o e=>get?_push_of_some _ e) (le_refl _) (by rw[size_push];exact lt_succ_self _) (.inl rfl) ⟨es,ep,t,rawInt (0:Nat),get?_push_of_some _ ho,hf,hw,q3,get?_push_size _ rfl,λb z=>(by cases z),q4 _⟩ q1
 cases hb1:w.params.followText "set-order" with
 |true=>
  simp only[Bool.not_true,Bool.false_and,Bool.false_eq_true,if_false];have pp:=xa (w.params.setOrder a ep) es;refine plain ((pickOrder (w.params.setOrder a ep) es).toList.map (·.2)) (pp.map _) (by rw[length_map,pp.length_eq,length_toList]) λh1=>.text hb1 rfl
 |false=>
  by_cases hd:(!t.plain&&decide (es.size>1))=true
  .show wpAny _ _ (if(!false&&(!t.plain&&decide (es.size>1)))=true then _ else _) _ _ _
   rw[hd];simp only[Bool.not_false,Bool.and_self,if_true];refine wpAny_bind (oZ es.size (List.range es.size) s (List.length_range ..) λys d py=>?_)
   have hlen:ys.length=es.size:=by rw[py.length_eq,List.length_range]
   refine wpAny_bind (wpAny_newObj_type ?_ (by show(List.toArray _).size<=sizeLine;rw[List.size_toArray,length_map,hlen];exact fits_of_scanBound hb));have ho1:=get?_push_of_some {cls:=.type "tuple",data:=.seq (ys.map λi:Nat=>rawInt (i:Int)).toArray} ho
   refine wpAny_bind (wpAny_setEpoch_of ho1 rfl hf ?_);refine wpAny_bind (wpAny_newObj_type (wpAny_pure ⟨_,rfl,"set_iterator",_,⟨_,get?_push_size _ rfl,rfl⟩,slot_si_next.lookup,?_⟩));have pe:(ys.map λp=>es.getD p (0,.none)).Perm es.toList:=by
    have:=py.map λp=>es.getD p (0,.none)
    rwa [tR]at this
   refine hQ (s.heap.push {cls:=.type "tuple",data:=.seq (ys.map λi:Nat=>rawInt (i:Int)).toArray}).objs.size s.heap.objs.size _ d ((ys.map λp=>es.getD p (0,.none)).map (·.2)) ?_ ?_ (λb o e=>get?_push_of_some _ (get?_push_of_some _ e)) (by rw[size_push];exact le_succ _) (lt_size (get?_push_size _ rfl)) (.inr (le_refl _)) ⟨es,ep,t,.ref s.heap.objs.size,get?_push_of_some _ ho1,hf,hw,by simp[hlen],get?_push_size _ rfl,λb z=>by injection z with z;exact z.symm,?_⟩ (pe.map _)
   .rw[size_push];exact ne_of_lt (lt_succ_self _)
   .rw[size_push];exact ne_of_lt (Nat.lt_succ_of_lt lt)
   .refine .drawn (ps:=ys) (get?_push_of_some _ (get?_push_size _ rfl)) rfl (by simp) λj p hj=>?_
    have hpn:p<es.size:=List.mem_range.mp (py.mem_iff.mp (List.mem_of_getElem? hj));refine⟨es.getD p (0,.none),by simp[Array.getD,hpn],?_⟩;rw[getElem?_map,getElem?_map,hj];rfl
  .show wpAny _ _ (if(!false&&(!t.plain&&decide (es.size>1)))=true then _ else _) _ _ _
   have hd':(!t.plain&&decide (es.size>1))=false:=by simpa using hd
   rw[hd'];simp only[Bool.not_false,Bool.and_false,Bool.false_eq_true,if_false];have up:UpA t.place:=by
    cases hpl:t.plain with
    |true=>exact hw.up hpl
    |false=>
     rw[hpl]at hd';have h1:es.size<=1:=by simpa using hd'
     have h2:=j8 hf;intro i j hi hj hij
     lia
   refine wpAny_bind (wpAny_pure ?_);refine plain (es.toList.map (·.2)) (.refl _) (by simp) λh1=>?_
   have:=Mode.slots (w:=w) (h:=h1) (a:=a) (ep:=ep) (i:=0) hb1 hd' up (es:=es) rfl;simpa using this
theorem Av{r:Addr}{Q:Bool->Shared->Prop}(hT:s.TypeIs (.ref r) "set")(h:Q false s):wpAny (model prog w) A (Builtin.List.listLengthHint (.ref r)) Q E s:=by
 unfold Builtin.List.listLengthHint;refine wpAny_bind (wpAny_specialOf hT PySem.F.slot_set_len.lookup ?_);generalize hid:("set.__len__":String)=id0
 wp_delta
 rw[show splitId id0=some ("set","__len__")from by subst hid;decide+kernel];subst hid;refine wpAny_bind (wpAny_isInstance (T:="set") (b:=true) hT (by rw[isSubtype_type];kernel_rfl) ?_);refine wpAny_ite_split (λz=>absurd z (by decide)) (λ_=>wpAny_ite_split (λ_=>?_) (λz=>absurd (by decide+kernel) z))
 exact wpAny_bind (wpAny_typeOf hT (wpAny_pure h))
end
section
variable{prog:Program}{w:World}{A:Around}{E:Value->Shared->Prop}{s:Shared}
theorem An{vs:List Value}{acc:Array Value}(h:ItemsOf (λi v=>vs[i]? = some v) acc vs.length):acc.toList=vs:=by
 obtain⟨h1,h2⟩:=h;apply ext_getElem?;intro i;rw[getElem?_toList];cases e:acc[i]? with
 |some v=>exact(h2 i v e).symm
 |none=>
  have:acc.size<=i:=by simpa using e
  rw[getElem?_eq_none (by lia)]
theorem jH{a:Addr}{es:Array (Int×Value)}{ep:Nat}{t:SetTable}{R:List Value->Shared->Prop}(hh:A.handled=none)(hS:s.heap.get? a=some (dE es ep t))(hsz:es.size<scanBound)(hf:t.fits es.size=true)(hw:WkT (!w.params.followText "set-order") t)
  (h:∀h' d tk vs,(∀b o,s.heap.get? b=some o->h'.get? b=some o)->vs.Perm (es.toList.map (·.2))->R vs {s with heap:=h',drawn:=d,toks:=tk}):wpAny (model prog w) A (collect (.ref a)) R E s:=by
 have lta:a<s.heap.objs.size:=lt_size hS;unfold collect;refine wpAny_bind (wpAny_runValue (codeAny_builtin entry_proto_collect' ?_));rw[Around.under_plainId PySem.F.plain_proto_collect _];refine wpAny_bind (m:=newList []) (wpAny_newObj_type ?_);refine wpAny_pure ⟨plainId_quiet PySem.F.plain_list_iadd _,codeAny_builtin entry_list_iadd' ?_⟩;rw[Around.under_plainId PySem.F.plain_list_iadd _];show wpAny _ A.in1 (Builtin.List.listExtendWith (.ref s.heap.objs.size) (.ref a) (.ref s.heap.objs.size)) _ _ _;unfold Builtin.List.listExtendWith;have kp1:∀b o,s.heap.get? b=some o->(s.heap.push {cls:=.type "list",data:=.seq ([]:List Value).toArray}).get? b=some o:=λb o e=>get?_push_of_some _ e
 have hS1:=kp1 a _ hS;have hL:(s.heap.push {cls:=.type "list",data:=.seq ([]:List Value).toArray}).get? s.heap.objs.size=some {cls:=.type "list",data:=.seq #[] 0}:=get?_push_size _ rfl;have hT:∀{s1:Shared},s1.heap.get? a=some (dE es ep t)->s1.TypeIs (.ref a) "set":=λq=>⟨_,q,rfl⟩
 refine wpAny_bind (wpAny_typeOf (T:="set") (hT hS1) ?_);have h1:Builtin.List.listSameRef (.ref s.heap.objs.size) (.ref a)=false:=by simp[Builtin.List.listSameRef];exact ne_of_gt lta
 have h2:(Value.type "set" == Value.type "list")=false:=by decide
 have h3:(Value.type "set" == Value.type "tuple")=false:=by decide
 simp only[h1,h2,h3,Bool.or_false,Bool.false_eq_true,if_false];refine wpAny_bind (wO hS1 hsz hf hw λI tp h1 d vs htp haI kp2 hI hI2 htp2 sw pm=>?_);have ltL:s.heap.objs.size<(s.heap.push {cls:=.type "list",data:=.seq ([]:List Value).toArray}).objs.size:=lt_size hL;have neI:s.heap.objs.size≠I:=λz=>by
  have q:s.heap.objs.size<I:=Nat.lt_of_lt_of_le ltL hI;rw[<-z]at q;exact lt_irrefl _ q
 have neT:s.heap.objs.size≠tp:=λz=>by
  rcases htp2 with q|q
  .rw[q]at z;exact absurd lta (by rw[z];exact lt_irrefl _)
  .rw[<-z]at q;exact absurd ltL (Nat.not_lt.mpr q)
 have hL1:=kp2 _ _ hL;refine wpAny_bind (wpAny_holding (Av (hT (s1:={s with heap:=h1,drawn:=d}) (kp2 a _ hS1)) ?_));have fin:∀(RR:Result->Shared->Prop) (hR:∀s',wpAny (model prog w) A (load s.heap.objs.size >>= λo=>match o.data with
   |.seq xs _=>pure xs.toList
   |_=>unsupported "internal:collect") R E s'->RR (.ok (.ret (.ref s.heap.objs.size))) s') (h2:Heap) (c:Nat),h2.get? s.heap.objs.size=some {cls:=.type "list",data:=.seq #[] c}->(∀b o,b≠s.heap.objs.size->h1.get? b=some o->h2.get? b=some o)->codeAny (model prog w) A (.builtin "list.extend.loop" ⟨[.ref s.heap.objs.size,.ref I,.ref s.heap.objs.size],[]⟩) RR {s with heap:=h2,drawn:=d}:=λRR hR h2 c e2 k2=>by
  have W:=(yu (prog:=prog) (w:=w) (A:=A.in1) hh haI htp vs).toS;have vl:vs.length=es.size:=by rw[pm.length_eq,length_map,length_toList]
  refine codeAny_extend_loopS W (by rw[vl];exact fits_of_scanBound hsz) s.heap.objs.size (by simp only[mem_cons,not_mem_nil,or_false,not_or];exact⟨neI,ne_of_gt lta,neT⟩) (.ref s.heap.objs.size) vs.length 0 _ #[] c rfl (zero_le _) (sw.frame λb hb o e=>?_) e2 (ItemsOf.nil _) λs' acc c' hm hS' hacc=>?_
  .refine k2 b o (λz=>?_) e
   simp only[mem_cons,not_mem_nil,or_false]at hb;rcases hb with rfl|rfl|rfl
   .exact neI z.symm
   .exact ne_of_lt lta z
   .exact neT z.symm
  .refine hR s' (wpAny_bind (wpAny_load hS' (wpAny_pure ?_)))
   rw[An hacc];obtain⟨h',g',d',tk',os'⟩:=s';have eg:g'=s.gens:=hm.gens;have ed:d'=d:=hm.drawn;have eo:os'=s.os:=hm.os;subst eg ed eo;refine h h' d' tk' vs (λb o e=>?_) pm;have lt:=lt_size e;refine hm.heap b o ?_ (k2 b o (ne_of_lt lt) (kp2 b o (kp1 b o e)));simp only[mem_cons,not_mem_nil,or_false,not_or];exact⟨ne_of_lt lt,λz=>by
    have q:b<I:=Nat.lt_trans lt (Nat.lt_of_lt_of_le ltL hI);rw[z]at q;exact lt_irrefl _ q⟩
 refine wpAny_ite_split (λ_=>?_) (λ_=>wpAny_pure ⟨plainId_quiet PySem.F.plain_extend_loop _,fin _ (λs' q=>q) h1 0 hL1 λb o _ e=>e⟩)
 refine wpAny_bind (wpAny_rule ?_);refine wpAny_bind ?_;show wpAny _ _ (updateSeq s.heap.objs.size (·.push .none) >>= λ_=>updateSeq s.heap.objs.size (·.pop)) _ _ _
 refine wpAny_bind (wpAny_updateSeq hL1 rfl ?_);have g2:=get?_update_self (Obj.mapSeq (·.push Value.none)) hL1 rfl;refine wpAny_updateSeq (hz:=by seq_fits) g2 rfl ?_;have g3:=get?_update_self (Obj.mapSeq (·.pop)) g2 rfl;exact wpAny_pure ⟨plainId_quiet PySem.F.plain_extend_loop _,fin _ (λs' q=>q) _ _ g3 λb o hb e=>aN hb (aN hb e)⟩
theorem jA:∀(vs:List Value),(∀v∈vs,∃k t,v=Value.int k t)->IntsAre vs (vs.map jQ)
 |[],_=>.nil
 |v::vs,h=>by
  obtain⟨k,t,rfl⟩:=h v mem_cons_self;exact .cons k t (jA vs λu hu=>h u (mem_cons_of_mem _ hu))
theorem sG{a:Addr}{ns:List Int}{R:List Value->Shared->Prop}(hh:A.handled=none)(hS:SetJ w s.heap a ns)
  (h:∀h' d tk vs ms,(∀b o,s.heap.get? b=some o->h'.get? b=some o)->IntsAre vs ms->ms.Perm ns->R vs {s with heap:=h',drawn:=d,toks:=tk}):wpAny (model prog w) A (collect (.ref a)) R E s:=by
 obtain⟨es,ep,t,ho,hel,hp,hb,hf,hw⟩:=hS;have hsz:es.size=ns.length:=by
  have:=hp.length_eq;rw[length_map,length_toList]at this;exact this
 refine jH hh ho (by lia) hf hw λh' d tk vs hk pm=>?_
 have iv:IntsAre vs (vs.map jQ):=jA vs λv hv=>by
  obtain⟨e,he,rfl⟩:=List.mem_map.mp (pm.mem_iff.mp hv);obtain⟨k,t,rfl⟩:=hel e he;exact⟨k,t,rfl⟩
 refine h h' d tk vs _ hk iv ?_;have:=pm.map jQ;rw[map_map]at this;exact this.trans hp
end
section
variable{X:Cx}
theorem Inv.keptD{pins:List (Addr×Obj)}{σ:St}{H:Hp}{s:Shared}{h':Heap}{t':Nat}{d:Drawn}(I:Inv X pins σ H s)(k:∀b u,s.heap.get? b=some u->h'.get? b=some u):Inv X pins σ H {s with heap:=h',drawn:=d,toks:=t'}:=by
 obtain⟨a1,a2,a3,a4,a5,a6,a7,a8,a9,a10,a11⟩:=I.kept (t':=t') k;exact⟨a1,a2,a3,a4,a5,a6,a7,a8,a9,a10,a11⟩
theorem tE(hc:X.calm=true){pins:List (Addr×Obj)}{σ:St}{H:Hp}{s:Shared}{a:Addr}{ns:List Int}{Q:VK}(I:Inv X pins σ H s)(hS:SetJ X.w s.heap a ns)(h64:ns.length<64)(q:∀l,H l=none->Q (.ref l) (upd H l (.lst ((aQ ns).map V.int)))):
  wpAny (model X.prog X.w) X.A (call (.builtin "sorted") [.ref a]) (EP X pins σ Q) X.xe s:=by
 refine Calls.call_function_entry kind_sorted plain_sorted entry_sorted (args_sorted1 _) ?_;unfold Builtin.«sorted»;refine wpAny_bind (m:=checkCount "sorted" 1 1 _) (wpAny_pure ?_);refine wpAny_bind (sG (I.ok.hd hc) hS λh' d tk acc ms hk' hI pm=>?_)
 have hln:acc.length=ns.length:=by rw[<-pm.length_eq];exact IntsAre.length hI
 refine wpAny_bind (wpAny_newList ?_ (by rw[hln,sizeLine_eq];lia));have hoL:(h'.push (seqObj "list" acc.toArray 0)).get? h'.objs.size=some (seqObj "list" acc.toArray 0):=get?_push_size _ rfl;refine wpAny_bind (wpAny_holding (wpAny_call_entry slot_list_sort ⟨_,hoL,rfl⟩ entry_list_sort (list_sort_tree hoL hI (by rw[hln];exact h64) λout ns' a1 a2 a3=>⟨_,rfl,?_⟩) (args_list_sort _)))
 refine wpAny_pure ⟨_,rfl,?_⟩;have e:=fJ (a2.trans pm) a3;subst e;have I1:Inv X pins σ H {s with heap:=h',drawn:=d,toks:=tk}:=Inv.keptD I hk';have kp:∀b o,h'.get? b=some o->(sortedHeap (h'.push (seqObj "list" acc.toArray 0)) h'.objs.size acc out).get? b=some o:=λb o eo=>by
  have hb:b≠h'.objs.size:=ne_of_lt (lt_size eo);exact aN hb (get?_push_of_some _ (get?_push_of_some _ (aN hb (get?_push_of_some _ eo))))
 obtain⟨e1,ho1⟩:∃e1,((h'.push (seqObj "list" acc.toArray 0)).update h'.objs.size (Obj.mapSeq λ_=>#[])).get? h'.objs.size=some (seqObj "list" #[] e1):=⟨_,get?_update_seq hoL (λ_=>#[])⟩;have ho2:=get?_push_of_some (seqObj "list" #[] 0) (get?_push_of_some (seqObj "tuple" acc.toArray 0) ho1);have ho3:=get?_update_seq ho2 (λ_=>out);have L:=I1.laid (h':=sortedHeap (h'.push (seqObj "list" acc.toArray 0)) h'.objs.size acc out) (a:=h'.objs.size) (o:=.lst ((aQ ns).map V.int)) (t':=tk) kp (le_refl _)
  (show ObjOk X.prog X.w _ _ _ (.lst ((aQ ns).map V.int))from ⟨by rw[length_map,(cO ns).length_eq,sizeLine_eq];lia,out.toList,_,cK a1,by rw[Array.toArray_toList];exact ho3⟩)
 exact⟨.ref h'.objs.size,_,L,rfl,q _ (I1.hok.fresh (le_refl _))⟩
variable{e:Expr}{p p2 pos pos2:Pos}{te:TE}{f:Dv->Option D}
def GY(X:Cx)(te:TE):TE:=λσ H Q=>te σ H λv H1=>∃(a:Addr) (l:List Int),[v]=[V.ref a]/\(SqL X.K H1 a (l.map V.int)\/SqT X.K H1 a (l.map V.int))/\l.length<64/\∀b,H1 b=none->Q (.ref b) (upd H1 b (.lst ((aQ (gJ l)).map V.int)))
theorem fQ:∀{l:List Int} {us:List Value},Vals (l.map V.int) us->IntsAre us l
 |[],[],.nil=>.nil
 |n::l,u::us,.cons h r=>by
  obtain⟨t,rfl⟩:=h;exact .cons n t (fQ r)
theorem Cj(hc:X.calm=true)(hg:Gl X "sorted")(hm:X.mg "sorted" = none)(hg':Gl X "set")(hm':X.mg "set" = none)(ha:PE X e te)
  (he:starEach [.Call (.Name "set" p2) [e] [] pos2] X.env=(false,eval (.Call (.Name "set" p2) [e] [] pos2) X.env)::starEach [] X.env:=by rfl)
  (he2:starEach [e] X.env=(false,eval e X.env)::starEach [] X.env:=by rfl) (hpl:(backTo pos (starEach [] X.env)).any (·.1)=false:=by rfl) (hpl2:(backTo pos2 (starEach [] X.env)).any (·.1)=false:=by rfl):
  PE X (.Call (.Name "sorted" p) [.Call (.Name "set" p2) [e] [] pos2] [] pos) (GY X te):=by
 intro pins s σ H Q I h;refine wpAny_Call_Name_kw (d9 I hg hm (u:=.builtin "sorted") (by decide+kernel) ?_ (by decide) (by decide));refine PyProof.Rows.callWith_builtin1 ?_ he hpl;rw[he];show wpAny _ _ (spliced ((false,eval _ X.env)::backTo pos (starEach [] X.env))) _ _ s;refine Calls.spliced_cons ?_;refine wpAny_Call_Name_kw (d9 I hg' hm' (u:=.type "set") (by decide+kernel) ?_ (by decide) (by decide));refine PyProof.Rows.callWith_type1 (bB (bq ha dl he2 pos2 pins s σ H (λxs H1=>∃(a:Addr) (l:List Int),xs=[V.ref a]/\(SqL X.K H1 a (l.map V.int)\/SqT X.K H1 a (l.map V.int))/\l.length<64/\∀b,H1 b=none->Q (.ref b) (upd H1 b (.lst ((aQ (gJ l)).map V.int)))) I (by exact h)) λus s1 ⟨vs,H1,I1,r1,q1⟩=>?_) he2 hpl2
 obtain⟨a,l,e1,hsq,h64,q⟩:=q1;subst e1;obtain⟨u,rfl,rx⟩:=jb r1;cases rx;obtain⟨its,iv,hl,hz⟩:∃its:List Value,IntsAre its l/\(s1.heap.IsList a its.toArray\/s1.heap.IsTuple a its.toArray)/\its.length=l.length:=by
  rcases hsq with hsq|hsq
  .obtain⟨its,r,⟨o,n,e1,e2,e3,e4⟩,z⟩:=I1.list hsq
   exact⟨its,fQ r,.inl ⟨o,e1,e2,n,e4⟩,by rw[<-r.length,length_map]⟩
  .obtain⟨its,r,⟨o,e1,e2,n,e3⟩,z⟩:=I1.tuple hsq
   exact⟨its,fQ r,.inr ⟨o,e1,e2,n,e3⟩,by rw[<-r.length,length_map]⟩
 refine nM (I1.ok.hd hc) hl (by simpa using iv) (by rw[List.size_toArray,hz];unfold scanBound;lia) λh' tk hS kp=>?_
 refine Calls.spliced_nil ?_;have sl:(gJ l).length<=l.length:=by
  have:=lD l [];simpa[gJ]using this
 exact tE hc (I1.kept kp) hS (by lia) λb hb=>q b hb
theorem fK{K:Fg}{Z:Hp}:∀{vs:List V} {ds:List D} {l:List Int},Reps K Z vs ds->kO ds=some l->vs=l.map V.int
 |_,_,_,.nil,h=>by cases h;rfl
 |_,.int i::ds,l,.cons r rs,h=>by
  obtain⟨l',e,h⟩:=bind_some h;cases h;rw[r.int_eq,fK rs e];rfl
 |_,.none::ds,l,.cons r rs,h=>by cases h
 |_,.bool _::ds,l,.cons r rs,h=>by cases h
 |_,.str _::ds,l,.cons r rs,h=>by cases h
 |_,.list _::ds,l,.cons r rs,h=>by cases h
 |_,.tuple _::ds,l,.cons r rs,h=>by cases h
 |_,.dict _::ds,l,.cons r rs,h=>by cases h
theorem v7(hg:Gl X "sorted")(hm:X.mg "sorted" = none)(hg':Gl X "set")(hm':X.mg "set" = none)(ha:EV X e f)(hc:X.calm=true:=by rfl)
  (he:starEach [.Call (.Name "set" p2) [e] [] pos2] X.env=(false,eval (.Call (.Name "set" p2) [e] [] pos2) X.env)::starEach [] X.env:=by rfl)
  (he2:starEach [e] X.env=(false,eval e X.env)::starEach [] X.env:=by rfl) (hpl:(backTo pos (starEach [] X.env)).any (·.1)=false:=by rfl) (hpl2:(backTo pos2 (starEach [] X.env)).any (·.1)=false:=by rfl):
  EV X (.Call (.Name "sorted" p) [.Call (.Name "set" p2) [e] [] pos2] [] pos) (o1 f kt):=
 PE.imp (Cj hc hg hm hg' hm' ha he he2 hpl hpl2) λσ H Q h=>by
  obtain⟨H₀,Z₀,Z,δ,d,hh,e,k⟩:=h;obtain⟨d1,e1,e⟩:=bind_some e;refine⟨H₀,Z₀,Z,δ,d1,hh,e1,λv Z1 H1 hh1 t1 r1=>?_⟩
  unfold kt at e;obtain⟨ds,e2,e⟩:=bind_some e;obtain⟨l,e3,e⟩:=bind_some e;obtain⟨h64,e⟩:=bR e;cases e;have key:∀b,H1 b=none->Q (.ref b) (upd H1 b (.lst ((aQ (gJ l)).map V.int))):=λb hb=>by
   have n:=New.add hh1.zh hb (.lst ((aQ (gJ l)).map V.int));exact k _ _ _ (hh1.new n) (t1.trans n.z) (.lst (SqL.of av) (Reps.ints _))
  cases r1 with
  |lst sq rs=>
   cases e2;have:=fK rs e3;subst this;exact⟨_,l,rfl,.inl (SqL.same sq hh1.zh),h64,key⟩
  |tup sq rs=>
   cases e2;have:=fK rs e3;subst this;exact⟨_,l,rfl,.inr (SqT.same sq hh1.zh),h64,key⟩
  |_=>cases e2
end
def lz(N:List Str)(d0:D)(es:List (aw×D))(as:List D):Dv:=(aJ N (d0 :: .none::as)).set 1 (.od es)
def pE(N:List Str)(n:Nat)(b:Sf):D->List (aw×D)->List D->Option (D×List (aw×D)):=λd0 es as=>if as.length+2=n then(b (lz N d0 es as)).bind λr=>match r with
  | (.rt d,δ)=>(B2 δ[1]?).bind λes'=>some (d,es')
  |_=>none
 else none
def yU(t i:Nat)(f0:Dv->Option D)(fs:Dv->Option (List D))(g:D->List (aw×D)->List D->Option (D×List (aw×D))):Sf:=λδ=>(f0 δ).bind λd0=>(B2 δ[i]?).bind λes=>(fs δ).bind λas=>(g d0 es as).bind λr=>some (.nx,(δ.set i (.od r.2)).set t (.fz r.1))
def IZ(K:Fg)(g:D->List (aw×D)->List D->Option (D×List (aw×D))):Sp:=λvs H Q _=>∃Z a v0 ws kvs d0 es as r,vs=v0 :: .ref a::ws/\Same Z H/\Z a=none/\H a=some (.dK kvs)/\iA K Z kvs es/\Rep K Z v0 d0/\Reps K Z ws as/\g d0 es as=some r/\
 ∀v Z' H' kvs',New Z (gZ a H) Z' (gZ a H')->H' a=some (.dK kvs')->iA K Z' kvs' r.2->Rep K Z' v r.1->Q v H'
def KZ(K:Fg)(a:Addr)(f:Sf):TS:=λD σ H=>∃H₀ Z₀ Z δ r,Hold K H₀ Z₀ Z δ σ H/\ σ[1]? = some (some (.ref a))/\f δ = some r/\∀ σ' H' Z',Hold K H₀ Z₀ Z' r.2 σ' H' -> σ'[1]? = some (some (.ref a))->Same Z Z'->r.1.to K Z' D σ' H'
def GL(X:Cx)(st:Stmt)(f:Sf):Prop:=∀a,PS X st (KZ X.K a f)
def Gy(X:Cx)(sts:List Stmt)(f:Sf):Prop:=∀a,PSs X sts (KZ X.K a f)
section
variable{X:Cx}{e b c:Expr}{st:Stmt}{sts body orelse:List Stmt}{s1 s2:Sf}{f fk fv:Dv->Option D}{ft:Dv->Option Bool}{p pos tpos:Pos}
theorem pi(i:Nat){x:Str}{pos':Pos}(hN:X.N.Nodup)(he:EV X e f)(h0:i≠1)(hi:X.N[i]? = some x:=by rfl)(hx:sU X.env.scope x:=by first|exact Or.inl rfl|exact Or.inr rfl)(hs:swapsWith e (some (.Name x pos')) pos.line X.env=pure false:=by rfl)
  (hf:X.fn x=true\/X.env.scope.names.lookup x=some .local:=by first|exact .inl rfl|exact .inr rfl|assumption):GL X (.Assign [.Name x pos'] e pos) (aK i f):=λa=>
 PS.imp (jT hN hi hx he hs hf) λD σ H h=>by
  obtain⟨H₀,Z₀,Z,δ,r,hh,ha,e,k⟩:=h;obtain⟨x,e1,e⟩:=bind_some e;cases e;exact⟨H₀,Z₀,Z,δ,x,hh,e1,λv Z1 H1 hh1 s1 r1=>k _ H1 Z1 (hh1.set r1) (by rw[getElem?_set_ne h0];exact ha) s1⟩
theorem yw{x:Str}(hu:X.A.units+1<cLine)(hb:EV X b fk)(hv':EV X e fv)(hN:X.N[1]? = some x:=by rfl)(hv:yk X.env.scope x:=by first|exact Or.inl rfl|exact Or.inr (Or.inl rfl)|exact Or.inr (Or.inr rfl))(hd:(x==("__debug__":Str))=false:=by decide)(hcd:(x==("__classdict__":Str))=false:=by decide)
  (hs:swapsWith e (some (.Subscript (.Name x p) b tpos)) pos.line X.env=pure false:=by rfl):GL X (.Assign [.Subscript (.Name x p) b tpos] e pos) (gM 1 fk fv):=λa0=>
 PS.imp (u9 hu (d8 hN hv hd hcd) hb hv' hs) λD σ H h=>by
  obtain⟨H₀,Z₀,Z,δ,r,hh,ha0,e,k⟩:=h;obtain⟨v,e1,e⟩:=bind_some e;obtain⟨es,e2,e⟩:=bind_some e;obtain⟨y,e3,e⟩:=bind_some e;obtain⟨ky,e4,e⟩:=bind_some e;obtain⟨hl,e5⟩:=bR e;cases e5;refine⟨H₀,Z₀,Z,δ,v,hh,e1,λw Z1 H1 hh1 t1 r1=>?_⟩
  obtain⟨a,kvs,h1,h4,h5⟩:=lP hh1 e2;refine⟨_,h1,H₀,Z₀,Z1,δ,y,hh1,e3,λu Z2 H2 hh2 t2 r2=>?_⟩
  obtain⟨a',kvs',g1,g4,g5⟩:=lP hh2 e2;rw[h1]at g1;cases g1;obtain rfl:=g7 r2 e4;exact⟨a,_,rfl,DPut.k g4 (by rw[fA g5];exact hl),k σ _ Z2 (hh2.chgW (iO e2) h1 (.dct (lE g5 ky (r1.same t2)))) ha0 (t1.trans t2)⟩
theorem wx:Gy X [] iP:=λa=>PSs.imp u8 λD σ H h=>by
 obtain⟨H₀,Z₀,Z,δ,r,hh,ha,e,k⟩:=h;cases e;exact k σ H Z hh ha (Same.refl _)
theorem qo(h1:GL X st s1):Gy X [st] s1:=λa=>u7 (h1 a)
theorem jJ(h1:GL X st s1)(h2:Gy X sts s2):Gy X (st::sts) (ay s1 s2):=λa=>
 PSs.imp (lH (h1 a) (h2 a)) λD σ H h=>by
  obtain⟨H₀,Z₀,Z,δ,r,hh,ha,e,k⟩:=h;obtain⟨⟨fl,δ'⟩,e1,e⟩:=bind_some e;refine⟨H₀,Z₀,Z,δ,(fl,δ'),hh,ha,e1,λσ' H' Z' hh' ha' s'=>?_⟩
  cases fl with
  |nx=>exact⟨H₀,Z₀,Z',δ',r,hh',ha',e,λσ2 H2 Z2 hh2 ha2 s2=>by
    have:=k σ2 H2 Z2 hh2 ha2 (s'.trans s2);obtain⟨fl,δ2⟩:=r;cases fl<;>exact this⟩
  |bk=>cases e;exact k σ' H' Z' hh' ha' s'
  |ct=>cases e;exact k σ' H' Z' hh' ha' s'
  |rt d=>cases e;exact k σ' H' Z' hh' ha' s'
theorem yv(hc:TV X c ft)(ha:Gy X body s1)(hb:Gy X orelse s2):GL X (.If c body orelse pos) (dX ft s1 s2):=λa=>
 PS.imp (zi hc (ha a) (hb a)) λD σ H h=>by
  obtain⟨H₀,Z₀,Z,δ,r,hh,h0,e,k⟩:=h;obtain⟨x,e1,e⟩:=bind_some e;refine⟨H₀,Z₀,Z,δ,x,hh,e1,λZ1 H1 hh1 t1=>?_⟩
  cases x with
  |true=>exact⟨H₀,Z₀,Z1,δ,r,hh1,h0,e,λσ2 H2 Z2 hh2 h2 t2=>k σ2 H2 Z2 hh2 h2 (t1.trans t2)⟩
  |false=>exact⟨H₀,Z₀,Z1,δ,r,hh1,h0,e,λσ2 H2 Z2 hh2 h2 t2=>k σ2 H2 Z2 hh2 h2 (t1.trans t2)⟩
end
section
variable{X:Cx}{e:Expr}{f:Dv->Option D}{pos:Pos}
theorem BI(he:EV X e f):GL X (.Return (some e) pos) (bi f):=λa=>
 PS.imp (zg he) λD σ H h=>by
  obtain⟨H₀,Z₀,Z,δ,r,hh,ha,e,k⟩:=h;obtain⟨x,e1,e⟩:=bind_some e;cases e;exact⟨H₀,Z₀,Z,δ,x,hh,e1,λv Z1 H1 hh1 s1 r1=>k σ H1 Z1 hh1 ha s1 v r1⟩
end
section
variable{P:Program}{w:World}{K:PySem.W.Frag}{mg:Str->Option Value}{base:Heap}
theorem Iw{x qual:Str}{st:Stmt}{f:Addr}{fd:FuncData}{dV:Value}{N ps:List Str}{k:Nat}{b:Sf}(F:FunV K x qual st f fd dV)(S:FnScope N ps (aj st))
  (hb:∀(cdv:Value) (A:Around) (outer:List Env) (s:Shared) (H:Hp) (E:XK),Room k (A.deeper (envOfC qual (aj st) s.heap.objs.size f cdv))->Gy (dS dH P w K mg base N qual (aj st) f cdv A outer s H E).nox (ck st) b):
  FnOk P w K mg base dH (k+1) f fd ps (IZ K (pE N ps.length b)):=by
 obtain⟨oc,od,kV,doc,pm,an,cdv,ct,osl,rfl,lk,hcd⟩:=F.ex;have hlen:∀d0 es as r,pE N ps.length b d0 es as=some r->as.length+2=ps.length:=λd0 es as r h=>by
  unfold pE at h;split at h
  .assumption
  .cases h
 refine vZ lk hcd S (λvs H Q E h=>?_) λA outer s H vs Q E hr hsp=>?_
 .obtain⟨Z,a,v0,ws,kvs,d0,es,as,r,rfl,zh,za,ha,r1,r0,r2,e,_⟩:=h
  have:=hlen d0 es as r e;have:=r2.length;simp only[length_cons]
  lia
 .obtain⟨Z,a,v0,ws,kvs,d0,es,as,r,rfl,zh,za,ha,r1,r0,r2,e,kk⟩:=hsp
  refine⟨_,PSs.nox (hb cdv A outer s H E hr a),?_⟩;have h1:=eu (K:=K) (N:=N) (H:=gZ a H) (oB zh za) (.cons r0 (.cons (.non:Rep K Z .non .none) r2));have h2:=h1.setW (i:=1) (p:=a) jt (.dct r1);rw[z7 ha]at h2;have es0:(dL N (v0 :: .non::ws)).set 1 (some (.ref a))=dL N (v0 :: .ref a::ws):=by simp[L2.dL]
  rw[es0]at h2;unfold pE at e;split at e
  rotate_left
  .cases e
  obtain⟨⟨fl,δ'⟩,e2,e⟩:=bind_some e;cases fl with
  |rt d=>
   obtain⟨es',e3,e⟩:=bind_some e;cases e;refine⟨gZ a H,Z,Z,_,_,h2,by simp[L2.dL],e2,λσ' H' Z' h' a' s' v rv=>?_⟩
   obtain⟨a2,kvs',g1,g2,g3,g4,g5⟩:=h'.od 1 es' (iO e3);rw[a']at g1;cases g1;refine kk v Z' H' kvs' ⟨s',λb o q=>?_,oB h'.zh g3,h'.zb,h'.nf⟩ g4 g5 rv
   have hb':b≠a:=λz=>by rw[z,jt]at q;cases q
   rw[eS hb'];exact h'.h0 b o q
  |nx=>cases e
  |bk=>cases e
  |ct=>cases e
structure CalMV (P:Program) (w:World) (K:PySem.W.Frag) (mg:Str->Option Value) (base:Heap) (x:Str) (k:Nat) (g:D->List (aw×D)->List D->Option (D×List (aw×D))):Prop where
 ex:∃(fa:Addr) (fd:FuncData) (ps:List Str),FnOk P w K mg base dH k fa fd ps (IZ K g)/\mg x=some (.ref fa)/\PySem.W.keepIn K (.ref fa)=true/\Binds K fd ps []
end
section
variable{P:Program}{w:World}{K:PySem.W.Frag}{mg:Str->Option Value}{base h:Heap}{x y:Str}{st:Stmt}{k:Nat}{ps:List Str}
theorem DefIn.calMV(D:DefIn K x y st)(X:K.In h)(G:h.Ns mainGlobals mg)(b:aO y st ps){g:VL.D->List (aw×VL.D)->List VL.D->Option (VL.D×List (aw×VL.D))}(ok:∀f fd,FunV K y y st f fd .none->FnOk P w K mg base dH k f fd ps (IZ K g)):CalMV P w K mg base x k g:=by
 obtain⟨f,fd,a,F,hk⟩:=D;exact⟨⟨_,_,_,ok f fd F,PySem.W.mg_of X G a,hk,F.binds b⟩⟩
end
section
variable{X:Cx}{e0:Expr}{es:List Expr}{f0:Dv->Option D}{fs:Dv->Option (List D)}{p p2 pos cpos:Pos}
theorem BK(t i:Nat){k:Nat}{y x fx:Str}{pos':Pos}{g:D->List (aw×D)->List D->Option (D×List (aw×D))}(C:CalMV X.prog X.w X.K X.mg X.base fx k g)(hr:Room k X.A)(hg:Gl X fx)(hti:t≠i)(hN:X.N.Nodup)(h0:EV X e0 f0)(ha:AV X es fs)(hi:X.N[i]? = some x:=by rfl)
  (hv:yk X.env.scope x:=by first|exact Or.inl rfl|exact Or.inr (Or.inl rfl)|exact Or.inr (Or.inr rfl)) (hd:(x==("__debug__":Str))=false:=by decide) (hcd:(x==("__classdict__":Str))=false:=by decide) (hdb:(fx==("__debug__":Str))=false:=by decide)
  (hy:X.N[t]? = some y:=by rfl) (hx:sU X.env.scope y:=by first|exact Or.inl rfl|exact Or.inr rfl)
  (he:starEach (e0 :: .Name x p2::es) X.env=(false,eval e0 X.env)::starEach (.Name x p2::es) X.env:=by rfl) (he2:starEach (.Name x p2::es) X.env=(false,eval (.Name x p2) X.env)::starEach es X.env:=by rfl) (hpl:(backTo cpos (starEach (.Name x p2::es) X.env)).any (·.1)=false:=by rfl)
  (hs:swapsWith (.Call (.Name fx p) (e0 :: .Name x p2::es) [] cpos) (some (.Name y pos')) pos.line X.env=pure false:=by rfl) (hf:X.fn y=true\/X.env.scope.names.lookup y=some .local:=by first|exact .inl rfl|exact .inr rfl|assumption):
  SV X (.Assign [.Name y pos'] (.Call (.Name fx p) (e0 :: .Name x p2::es) [] cpos) pos) (yU t i f0 fs g):=by
 obtain⟨fa,fd,ps,F,hm,hk,hb⟩:=C.ex;refine PS.imp (jT hN hy hx (vf F hr hg hm hk hb .nil vh (bq h0 (bq (d8 hi hv hd hcd) ha he2) he) hdb he hpl) hs hf) λD σ H h=>?_
 obtain⟨H₀,Z₀,Z,δ,r,hh,e,kk⟩:=h;obtain⟨d0,e0',e⟩:=bind_some e;obtain⟨es0,e1,e⟩:=bind_some e;obtain⟨as,e2,e⟩:=bind_some e;obtain⟨r',e3,e⟩:=bind_some e;cases e;obtain⟨a,kvs,h1,h2,h3,h4,h5⟩:=hh.od i es0 (iO e1);refine⟨H₀,Z₀,Z,δ,d0,hh,e0',λv0 Z1 H1 hh1 t1 r1=>⟨.ref a,h1,H₀,Z₀,Z1,δ,as,hh1,e2,λvs Z2 H2 hh2 t2 r2=>?_⟩⟩
 obtain⟨a',kvs1,g1,g2,g3,g4,g5⟩:=hh2.od i es0 (iO e1);rw[h1]at g1;cases g1;refine⟨Z2,a,v0,vs,kvs1,d0,es0,as,r',by simp,hh2.zh,g3,g4,g5,r1.same t2,r2,e3,λv Z' H' kvs' n f4 f5 f6=>?_⟩
 have m:=hh2.mod (iO e1) h1 g2 n f4 f5;exact kk _ H' Z' (m.set f6) ((t1.trans t2).trans n.z)
end
def pN(i:Nat)(ft:Dv->Option Bool):Dv->Option Bool:=λδ=>(ux i δ).bind ft
theorem yo{X:Cx}{e:Expr}{ft:Dv->Option Bool}(i:Nat)(h:TV X e ft):TV X e (pN i ft):=
 PT.imp h λσ H Q h=>by
  obtain⟨H₀,Z₀,Z,δ,b,hh,e,k⟩:=h;obtain⟨δ',e0,e⟩:=bind_some e;unfold ux at e0;split at e0
  rotate_left
  .cases e0
  rename_i ds q;cases e0;obtain⟨a,xs,h1,h2,h3,h4,h5⟩:=hh.ow i _ q;have hl:i<(δ.map vd).length:=by rw[length_map];exact(List.getElem?_eq_some_iff.mp q).1
  have sz:Same Z (upd Z a (.lst xs)):=cy h3;have at':∀{j:Nat} {s:Sl},((δ.map vd).set i (.fz (.list ds)))[j]? = some s->(i=j/\s=.fz (.list ds))\/(i≠j/\∃t,δ[j]? = some t/\vd t=s):=λ{j s} z=>by
   by_cases hj:i=j
   .subst hj
    rw[getElem?_set_self hl]at z;exact .inl ⟨rfl,(Option.some.inj z).symm⟩
   .rw[getElem?_set_ne hj]at z
    exact .inr ⟨hj,EU z⟩
  have hh1:Hold X.K H (upd Z a (.lst xs)) (upd Z a (.lst xs)) ((δ.map vd).set i (.fz (.list ds))) σ H:=by
   refine⟨λc o z=>?_,Same.refl _,Same.refl _,λ_ _=>rfl,by simp[hh.len],λj d z=>?_,λj d z=>?_,λj k d1 d2 c _ z=>?_,λj d z=>?_,NoF.refl _⟩
   .by_cases hc:c=a
    .subst hc;rw[av]at z;cases z;exact h4
    .rw[aq hc]at z;exact hh.zh c o z
   .rcases at' z with⟨hij,w⟩|⟨hj,t,z1,z2⟩
    .cases w
     subst hij;exact⟨.ref a,h1,.lst (SqL.of av) (h5.same sz)⟩
    .rw[EW z2]at z1
     obtain⟨v,g1,g2⟩:=hh.fz j d z1;exact⟨v,g1,g2.same sz⟩
   .rcases at' z with⟨_,w⟩|⟨_,t,_,z2⟩
    .cases w
    .exact(vc z2).elim
   .rcases at' z with⟨_,w⟩|⟨_,t,_,z2⟩
    .cases w
    .exact(vc z2).elim
   .rcases at' z with⟨_,w⟩|⟨_,t,_,z2⟩
    .cases w
    .exact(EY z2).elim
  refine⟨H,_,_,_,b,hh1,e,λZ2 H2 hh2 t2=>?_⟩
  have oldZ:∀c,H c≠none->c≠a->gZ a Z2 c=Z c:=λc hc ha=>by
   rw[eS ha,hh2.zb c hc,aq ha]
  have zl:Same Z (gZ a Z2):=λc o z=>by
   have ha:c≠a:=az z h3;rw[oldZ c (by rw[hh.zh c o z];intro w;cases w) ha];exact z
  have z2l:Same (gZ a Z2) Z2:=rP;refine k (gZ a Z2) H2 ⟨z2l.trans hh2.zh,hh.h0.trans hh2.h0,hh.z0.trans zl,λc hc=>?_,hh.len,λj d z=>?_,λj d z=>?_,hh.dja,hh.fr.same zl,λc o xs z=>?_⟩ zl
  .have ha:c≠a:=λz=>hc (by rw[z];exact h2)
   rw[oldZ c (by
    cases e:H₀ c with
    |none=>exact absurd e hc
    |some o=>rw[hh.h0 c o e];intro w;cases w) ha]
   exact hh.zb c hc
  .obtain⟨v,g1,g2⟩:=hh.fz j d z
   exact⟨v,g1,g2.same zl⟩
  .obtain⟨c,o,g1,g2,g3,g4,g5⟩:=hh.own j d z
   refine⟨c,o,g1,g2,?_,hh2.h0 c o g4,g5.same zl⟩;by_cases ha:c=a
   .subst ha;exact jt
   .rw[oldZ c (by rw[g4];intro w;cases w) ha];exact g3
  .have hz:=z2l c _ z
   have ha:c≠a:=λw=>by rw[w,jt]at z;cases z
   have:=hh2.nf c o xs hz;rw[aq ha]at this;exact hh.nf c o xs this
end VL
namespace VL
open PySem PySem.Spec PyProof.Rows
end VL
namespace VL
open PySem PySem.Spec PyProof.Rows L2
open PySem.W (kat_nil kat_no kat_one kat_yes)
open List (filterMap_cons filter_cons length_append length_cons length_map length_range map_map mem_cons mem_cons_of_mem mem_cons_self not_mem_nil)
open Nat (add_mod le_refl lt_or_ge mod_lt mul_mod ne_of_lt pow_succ sub_self zero_le)
open PySem.Heap (get?_push_of_some get?_push_size lt_size size_push)
open Array (getElem?_toList length_toList)
def fG:aw->aw->Bool
 |.inl a,.inl b=>decide (a<b)
 |.inr a,.inr b=>decide (a.cps.toList<b.cps.toList)
 |.inl _,.inr _=>true
 |.inr _,.inl _=>false
def cZ:List aw->List aw->Bool
 |[],[]=>false
 |[],_::_=>true
 |_::_,[]=>false
 |a::r,b::t=>if a=b then cZ r t else fG a b
def xH(x:List aw):List (List aw)->List (List aw)
 |[]=>[x]
 |y::r=>if cZ y x then y::xH x r else x::y::r
def dc:List (List aw)->List (List aw)
 |[]=>[]
 |x::r=>xH x (dc r)
def FU:aw->Bool
 |.inl _=>true
 |.inr _=>false
def nX:List aw->Bool
 |.inr _::r=>r.all FU
 |_=>false
def uL:List aw->Bool
 |.inl _::r=>r.all FU
 |_=>false
theorem str_eq{x y:Str}(h:x.cps.toList=y.cps.toList):x=y:=by
 cases x;cases y;simp only[Str.mk.injEq];exact Array.toList_inj.mp h
theorem xy(a:aw):fG a a=false:=by
 cases a with
 |inl a=>simp[fG]
 |inr a=>simp[fG,List.lt_irrefl]
theorem xw(a b:aw)(h:a≠b):fG a b=!fG b a:=by
 cases a with
 |inl a=>
  cases b with
  |inl b=>
   have:a≠b:=λz=>h (by rw[z])
   simp only[fG];rcases Int.lt_trichotomy a b with q|q|q
   .rw[decide_eq_true q,decide_eq_false (by lia)];rfl
   .exact absurd q this
   .rw[decide_eq_false (by lia),decide_eq_true q];rfl
  |inr b=>rfl
 |inr a=>
  cases b with
  |inl b=>rfl
  |inr b=>
   have:a.cps.toList≠b.cps.toList:=λz=>h (by rw[str_eq z])
   simp only[fG];by_cases q:a.cps.toList<b.cps.toList
   .rw[decide_eq_true q,decide_eq_false (List.lt_asymm q)];rfl
   .rw[decide_eq_false q]
    have q:=List.not_lt.mp q;rcases List.le_iff_lt_or_eq.mp q with q|q
    .rw[decide_eq_true q];rfl
    .exact absurd q.symm this
theorem Aj{a b c:aw}(h1:fG a b=true)(h2:fG b c=true):fG a c=true:=by
 cases a<;>cases b<;>cases c<;>simp only[fG,decide_eq_true_eq,Bool.false_eq_true]at h1 h2 ⊢
 .lia
 .exact List.lt_trans h1 h2
theorem gY:∀a:List aw,cZ a a=false
 |[]=>rfl
 |x::r=>by simp[cZ,gY r]
theorem gX:∀(a b:List aw),a≠b->cZ a b=!cZ b a
 |[],[],h=>absurd rfl h
 |[],_::_,_=>rfl
 |_::_,[],_=>rfl
 |x::r,y::t,h=>by
  by_cases e:x=y
  .subst e
   simp only[cZ,if_true];exact gX r t λz=>h (by rw[z])
  .simp only[cZ]
   rw[if_neg e,if_neg (Ne.symm e)];exact xw x y e
theorem js:∀{a b c:List aw},cZ a b=true->cZ b c=true->cZ a c=true
 |[],[],_,h,_=>by cases h
 |[],_::_,[],_,h=>by cases h
 |[],_::_,_::_,_,_=>rfl
 |_::_,[],_,h,_=>by cases h
 |_::_,_::_,[],_,h=>by cases h
 |x::r,y::t,z::u,h1,h2=>by
  simp only[cZ]at h1 h2 ⊢;by_cases e:x=y
  .subst e
   rw[if_pos rfl]at h1;by_cases e2:x=z
   .subst e2
    rw[if_pos rfl]at h2 ⊢;exact js h1 h2
   .rw[if_neg e2]at h2 ⊢
    exact h2
  .rw[if_neg e]at h1
   by_cases e2:y=z
   .subst e2
    rw[if_neg e];exact h1
   .rw[if_neg e2]at h2
    have h3:=Aj h1 h2;by_cases e3:x=z
    .subst e3
     rw[xy]at h3;cases h3
    .rw[if_neg e3];exact h3
def sT(a b:List aw):Prop:=cZ b a=false
theorem rR{a b:List aw}(h1:sT a b)(h2:sT b a):a=b:=by
 by_cases e:a=b
 .exact e
 .have:=gX a b e
  unfold sT at h1 h2;rw[h1,h2]at this;cases this
theorem FC{a b c:List aw}(h1:sT a b)(h2:sT b c):sT a c:=by
 unfold sT at *;cases h:cZ c a with
 |false=>rfl
 |true=>
  by_cases e:b=c
  .subst e;rw[h]at h1;cases h1
  .have:=gX b c e
   rw[h2]at this;rw[js (by simpa using this) h]at h1;cases h1
theorem j5(x:List aw):∀l,(xH x l).Perm (x::l)
 |[]=>.refl _
 |y::r=>by
  unfold xH;split
  .exact((j5 x r).cons y).trans (.swap x y r)
  .exact .refl _
theorem g8:∀l,(dc l).Perm l
 |[]=>.refl _
 |x::r=>(j5 x _).trans ((g8 r).cons x)
theorem vI(x:List aw):∀l,l.Pairwise sT->(xH x l).Pairwise sT
 |[],_=>List.pairwise_singleton _ _
 |y::r,h=>by
  unfold xH;obtain⟨h1,h2⟩:=List.pairwise_cons.mp h;split
  .rename_i q
   refine List.pairwise_cons.mpr ⟨λz hz=>?_,vI x r h2⟩
   rcases List.mem_cons.mp ((j5 x r).mem_iff.mp hz)with rfl|hz
   .unfold sT
    cases e:cZ z y with
    |false=>rfl
    |true=>
     have:=js q e;rw[gY]at this;cases this
   .exact h1 z hz
  .rename_i q
   have q:sT x y:=by simpa[sT]using q
   refine List.pairwise_cons.mpr ⟨λz hz=>?_,h⟩
   rcases List.mem_cons.mp hz with rfl|hz
   .exact q
   .exact FC q (h1 z hz)
theorem jY:∀l,(dc l).Pairwise sT
 |[]=>.nil
 |x::r=>vI x _ (jY r)
theorem ku:∀{a b:List (List aw)},a.Perm b->a.Pairwise sT->b.Pairwise sT->a=b
 |[],b,p,_,_=>(List.nil_perm.mp p).symm
 |x::r,[],p,_,_=>absurd p.length_eq (by simp)
 |x::r,y::t,p,h1,h2=>by
  obtain⟨a1,a2⟩:=List.pairwise_cons.mp h1;obtain⟨b1,b2⟩:=List.pairwise_cons.mp h2;have e:x=y:=by
   rcases List.mem_cons.mp (p.mem_iff.mp (mem_cons_self (a:=x) (l:=r)))with e|e
   .exact e
   .rcases List.mem_cons.mp (p.mem_iff.mpr (mem_cons_self (a:=y) (l:=t)))with f|f
    .exact f.symm
    .exact rR (a1 y f) (b1 x e)
  subst e;rw[ku ((List.perm_cons x).mp p) a2 b2]
theorem jZ{a b:List (List aw)}(p:a.Perm b)(h:a.Pairwise sT):a=dc b:=ku (p.trans (g8 b).symm) h (jY b)
section
variable{prog:Program}{w:World}{A:Around}{E:Value->Shared->Prop}{s:Shared}
def KM:aw->Value->Prop
 |.inl i,v=>∃t,v=.int i t
 |.inr x,v=>∃t,v=.str x t
inductive KVals:List aw->List Value->Prop
 |nil:KVals [] []
 |cons {k v ks vs}:KM k v->KVals ks vs->KVals (k::ks) (v::vs)
theorem KVals.one:∀{k k':List aw} {vs:List Value},KVals k vs->KVals k' vs->k=k'
 |_,_,_,.nil,.nil=>rfl
 |_,_,_,.cons (k:=a) h1 r1,.cons (k:=b) h2 r2=>by
  have e:=KVals.one r1 r2;subst e;cases a<;>cases b<;>obtain⟨t,rfl⟩:=h1<;>obtain⟨u,h2⟩:=h2<;>first|cases h2;rfl|cases h2
def fN:List aw->List aw->Bool
 |a::r,b::t=>if a=b then fN r t else FU a==FU b
 |_,_=>true
theorem zZ{fin:Bool}{Q:Bool->Shared->Prop}:∀{k1 k2:List aw} {xs ys:List Value} {i:Nat},KVals k1 xs->KVals k2 ys->fN k1 k2=true->fin=decide (xs.length<ys.length)->Q (cZ k1 k2) s->PySem.W.KatLex prog w A true fin Q (xs.zip ys) i s
 |_,_,_,_,i,.nil,.nil,_,hf,q=>by
  subst hf;exact kat_nil q
 |_,_,_,_,i,.nil,.cons h r,_,hf,q=>by
  subst hf;exact kat_nil (by simpa[cZ]using q)
 |_,_,_,_,i,.cons h r,.nil,_,hf,q=>by
  subst hf;rw[List.zip_nil_right];exact kat_nil (by simpa[cZ]using q)
 |_,_,_,_,i,.cons (k:=a) (vs:=xs) h1 r1,.cons (k:=b) (vs:=ys) h2 r2,hc,hf,q=>by
  have hf:fin=decide (xs.length<ys.length):=by rw[hf];simp
  rw[List.zip_cons_cons];refine PySem.W.kat_cons ?_;simp only[cZ,fN]at q hc;by_cases e:a=b
  .subst e
   rw[if_pos rfl]at q hc;have go:=zZ (i:=i+1) r1 r2 hc hf q;cases a with
   |inl a=>
    obtain⟨t,rfl⟩:=h1;obtain⟨u,rfl⟩:=h2;refine SeqAt.EqAt.int_int a t a u _ _ _ _ ?_;rw[beq_self_eq_true];exact kat_yes go
   |inr a=>
    obtain⟨t,rfl⟩:=h1;obtain⟨u,rfl⟩:=h2;refine SeqAt.EqAt.str_str a t a u _ _ _ _ ?_;rw[beq_self_eq_true];exact kat_yes go
  .rw[if_neg e]at q hc
   cases a with
   |inl a=>
    cases b with
    |inr b=>cases hc
    |inl b=>
     obtain⟨t,rfl⟩:=h1;obtain⟨u,rfl⟩:=h2;refine SeqAt.EqAt.int_int a t b u _ _ _ _ ?_;rw[beq_eq_false_iff_ne.mpr λz=>e (by rw[z])]
     refine kat_no ?_;cases i with
     |zero=>exact oneLt_int q
     |succ i=>exact kat_one _ _ (lt_int q)
   |inr a=>
    cases b with
    |inl b=>cases hc
    |inr b=>
     obtain⟨t,rfl⟩:=h1;obtain⟨u,rfl⟩:=h2;refine SeqAt.EqAt.str_str a t b u _ _ _ _ ?_;rw[beq_eq_false_iff_ne.mpr λz=>e (by rw[z])]
     refine kat_no ?_;cases i with
     |zero=>exact oneLt_str q
     |succ i=>exact kat_one _ _ (lt_str q)
def KAt(h:Heap)(v:Value)(k:List aw):Prop:=∃b o xs n,v=.ref b/\h.get? b=some o/\o.cls=.type "tuple"/\ o.data=.seq xs n/\KVals k xs.toList
theorem KAt.one{h:Heap}{v:Value}{k k':List aw}(h1:KAt h v k)(h2:KAt h v k'):k=k':=by
 obtain⟨b,o,xs,n,rfl,e1,e2,e3,e4⟩:=h1;obtain⟨b',o',xs',n',q,f1,f2,f3,f4⟩:=h2;cases q;rw[e1]at f1;cases f1;rw[e3]at f3;cases f3;exact e4.one f4
theorem KAt.keeps{h h':Heap}{v:Value}{k:List aw}(x:KAt h v k)(kp:∀b o,o.cls=.type "tuple" -> h.get? b=some o->h'.get? b=some o):KAt h' v k:=by
 obtain⟨b,o,xs,n,rfl,e1,e2,e3,e4⟩:=x;exact⟨b,o,xs,n,rfl,kp b o e2 e1,e2,e3,e4⟩
theorem Ep{x y:Value}{k1 k2:List aw}{Q:Bool->Shared->Prop}(h1:KAt s.heap x k1)(h2:KAt s.heap y k2)(hc:fN k1 k2=true)(q:Q (cZ k1 k2) s):wpAny (model prog w) A (keyLt' (tuples' true) x y) Q E s:=by
 obtain⟨b,o,xs,n,rfl,e1,e2,e3,e4⟩:=h1;obtain⟨b',o',xs',n',rfl,f1,f2,f3,f4⟩:=h2;exact PySem.W.kat_lt e1 e3 f1 f3 (zZ e4 f4 hc (by simp) q)
def gz(ks:List (List aw))(k:List aw):Int:=((ks.filter λx=>cZ x k).length:Nat)
theorem j9{α:Type}{p q:α -> Bool}:∀(l:List α),(∀x∈l,p x=true->q x=true)->(l.filter p).length<=(l.filter q).length
 |[],_=>le_refl _
 |x::l,h=>by
  have ih:=j9 l λy hy=>h y (mem_cons_of_mem _ hy)
  have hx:=h x mem_cons_self;rw[filter_cons,filter_cons];cases e:p x with
  |false=>
   rw[if_neg (by simp)];split
   .rw[length_cons];lia
   .exact ih
  |true=>
   rw[if_pos rfl,if_pos (hx e),length_cons,length_cons];lia
theorem oX{α:Type}{p q:α -> Bool}:∀(l:List α),(∀x∈l,p x=true->q x=true)->(∃x∈l,p x=false/\q x=true)->(l.filter p).length<(l.filter q).length
 |[],_,⟨x,hx,_⟩=>by cases hx
 |x::l,h,⟨y,hy,h1,h2⟩=>by
  have ih:=j9 l λy hy=>h y (mem_cons_of_mem _ hy)
  have hx:=h x mem_cons_self;rw[filter_cons,filter_cons];rcases List.mem_cons.mp hy with rfl|hy
  .rw[if_neg (by rw[h1];simp),if_pos h2,length_cons];lia
  .have ih:=oX l (λy hy=>h y (mem_cons_of_mem _ hy)) ⟨y,hy,h1,h2⟩
   cases e:p x with
   |false=>
    rw[if_neg (by simp)];split
    .rw[length_cons];lia
    .exact ih
   |true=>
    rw[if_pos rfl,if_pos (hx e),length_cons,length_cons];lia
theorem zc{ks:List (List aw)}{x y:List aw}(hx:x∈ks):decide (gz ks x<gz ks y)=cZ x y:=by
 unfold gz;cases e:cZ x y with
 |true=>
  refine decide_eq_true ?_;exact Int.ofNat_lt.mpr (oX ks (λz _ hz=>js hz e) ⟨x,hx,gY x,e⟩)
 |false=>
  refine decide_eq_false ?_;have:=j9 (p:=λz=>cZ z y) (q:=λz=>cZ z x) ks λz _ hz=>by
   by_cases q:y=x
   .subst q;exact hz
   .have:=gX y x q
    rw[e]at this;exact js hz this
  lia
theorem mh:∀{a b:List aw},a.all FU=true->b.all FU=true->fN a b=true
 |[],_,_,_=>by simp[fN]
 |_::_,[],_,_=>by simp[fN]
 |x::r,y::t,h1,h2=>by
  simp only[List.all_cons,Bool.and_eq_true]at h1 h2;simp only[fN];split
  .exact mh h1.2 h2.2
  .rw[h1.1,h2.1];rfl
theorem yr{a b:List aw}(h1:nX a=true)(h2:nX b=true):fN a b=true:=by
 match a,b,h1,h2 with
 |.inr x::r,.inr y::t,h1,h2=>
  simp only[fN];split
  .exact mh h1 h2
  .rfl
theorem Dh{a b:List aw}(h1:uL a=true)(h2:uL b=true):fN a b=true:=by
 match a,b,h1,h2 with
 |.inl x::r,.inl y::t,h1,h2=>
  simp only[fN];split
  .exact mh h1 h2
  .rfl
inductive KAts (h:Heap):List Value->List (List aw)->Prop
 |nil:KAts h [] []
 |cons {v k vs ks}:KAt h v k->KAts h vs ks->KAts h (v::vs) (k::ks)
theorem KAts.keeps{h h':Heap}(kp:∀b o,o.cls=.type "tuple" -> h.get? b=some o->h'.get? b=some o):∀{vs:List Value} {ks:List (List aw)},KAts h vs ks->KAts h' vs ks
 |_,_,.nil=>.nil
 |_,_,.cons x r=>.cons (x.keeps kp) (KAts.keeps kp r)
def Gx:Bool->Value
 |true=>.type "str"
 |false=>.type "int"
theorem KAts.tups{h:Heap}{b:Bool}:∀{vs:List Value} {ks:List (List aw)},KAts h vs ks->(∀k∈ks,(if b then nX k else uL k)=true)->∃fs:List Value,fs.length=vs.length/\PySem.W.KatTups h vs fs/\∀v∈fs,∀M:Model,PySem.W.Looks M h (typeOf v) (Gx b)
 |_,_,.nil,_=>⟨[],rfl,trivial,λv h=>by cases h⟩
 |_,_,.cons (k:=k) x r,hk=>by
  obtain⟨fs,h1,h2,h3⟩:=KAts.tups r λk' m=>hk k' (mem_cons_of_mem _ m)
  obtain⟨a,o,xs,n,rfl,e1,e2,e3,e4⟩:=x;have hk:=hk k mem_cons_self;obtain⟨f,ef,lf⟩:∃f,xs[0]? = some f/\∀M:Model,PySem.W.Looks M h (typeOf f) (Gx b):=by
   cases b with
   |true=>
    match k,hk,e4 with
    |.inr y::t,_,e4=>
     generalize exs:xs.toList=l at e4;cases e4 with
     |cons hv hr=>
      obtain⟨u,rfl⟩:=hv;refine⟨_,by rw[<-getElem?_toList,exs];rfl,λM=>PySem.W.Looks.of_pure rfl⟩
   |false=>
    match k,hk,e4 with
    |.inl y::t,_,e4=>
     generalize exs:xs.toList=l at e4;cases e4 with
     |cons hv hr=>
      obtain⟨u,rfl⟩:=hv;refine⟨_,by rw[<-getElem?_toList,exs];rfl,λM=>PySem.W.Looks.of_pure rfl⟩
  refine⟨f::fs,by rw[length_cons,length_cons,h1],⟨⟨a,o,xs,n,rfl,e1,e2,e3,ef⟩,h2⟩,λv hv=>?_⟩
  rcases List.mem_cons.mp hv with rfl|hv
  .exact lf
  .exact h3 v hv
end
section
variable{X:Cx}
def uf:aw->V
 |.inl i=>.int i
 |.inr x=>.str x
def IW:Value->V
 |.ref b=>.ref b
 |_=>.non
inductive KeyVs (K:Fg) (H:Hp):List V->List (List aw)->Prop
 |nil:KeyVs K H [] []
 |cons {b k vs ks}:SqT K H b (k.map uf)->KeyVs K H vs ks->KeyVs K H (.ref b::vs) (k::ks)
theorem lX:∀{k:List aw} {us:List Value},Vals (k.map uf) us->KVals k us
 |[],_,.nil=>.nil
 |.inl i::k,_,.cons h r=>.cons h (lX r)
 |.inr x::k,_,.cons h r=>.cons h (lX r)
theorem Ak{pins:List (Addr×Obj)}{σ:St}{H:Hp}{s:Shared}(I:Inv X pins σ H s){b:Addr}{k:List aw}(h:SqT X.K H b (k.map uf)):KAt s.heap (.ref b) k:=by
 obtain⟨its,r,⟨o,e1,e2,n,e3⟩,z⟩:=I.tuple h;exact⟨b,o,its.toArray,n,rfl,e1,e2,e3,by simpa using lX r⟩
theorem rW{pins:List (Addr×Obj)}{σ:St}{Z H:Hp}{s:Shared}(I:Inv X pins σ H s)(zh:Same Z H):∀{vs:List V} {ks:List (List aw)} {its:List Value},KeyVs X.K Z vs ks->Vals vs its->KAts s.heap its ks/\∀u∈its,∃(b:Addr) (k:List aw),u=.ref b/\SqT X.K Z b (k.map uf)
 |_,_,_,.nil,.nil=>⟨.nil,λu h=>by cases h⟩
 |_,_,_,.cons (b:=b) (k:=k) h r,.cons hv hr=>by
  obtain⟨a2,a3⟩:=rW I zh r hr;have hv:=hv;cases hv;refine⟨.cons (Ak I (SqT.same h zh)) a2,λu hu=>?_⟩
  rcases List.mem_cons.mp hu with rfl|hu
  .exact⟨b,k,rfl,h⟩
  .exact a3 u hu
theorem md{pins:List (Addr×Obj)}{σ:St}{Z H:Hp}{s:Shared}(I:Inv X pins σ H s)(zh:Same Z H):∀{out:List Value} {ks:List (List aw)},KAts s.heap out ks->(∀u∈out,∃(b:Addr) (k:List aw),u=.ref b/\SqT X.K Z b (k.map uf))->KeyVs X.K Z (out.map IW) ks/\Vals (out.map IW) out
 |_,_,.nil,_=>⟨.nil,.nil⟩
 |_,_,.cons h r,hs=>by
  obtain⟨a1,a2⟩:=md I zh r λu hu=>hs u (mem_cons_of_mem _ hu)
  obtain⟨b,k',rfl,q⟩:=hs _ mem_cons_self;have:=h.one (Ak I (SqT.same q zh));subst this;exact⟨.cons q a1,.cons rfl a2⟩
theorem jS{K:Fg}{Z:Hp}:∀k:List aw,Reps K Z (k.map uf) (k.map jy)
 |[]=>.nil
 |.inl i::k=>.cons (.int i) (jS k)
 |.inr x::k=>.cons (.str x) (jS k)
theorem oE{K:Fg}{Z:Hp}:∀{vs:List V} {ks:List (List aw)},KeyVs K Z vs ks->Reps K Z vs (ks.map λk=>.tuple (k.map jy))
 |_,_,.nil=>.nil
 |_,_,.cons h r=>.cons (.tup h (jS _)) (oE r)
variable{e:Expr}{p pos:Pos}{te:TE}{f:Dv->Option D}
end
@[simp] def Lx(i:Nat)(fk fv:Dv->Option D):Sf:=λδ=>(fk δ).bind λdk=>(fv δ).bind λv=>(yg δ[i]?).bind λds=>match dk with
 |.int k=>if 0<=k/\k.toNat<=ds.length/\ds.length<sizeLine then some (.nx,δ.set i (.ow (ds.take k.toNat++v::ds.drop k.toNat)))else none
 |_=>none
section
variable{K:Fg}
def hJ(ps:List (V×V)):List V:=ps.flatMap λp=>[p.1,p.2]
end
@[simp] def Lw(i:Nat)(fk:Dv->Option D):Sf:=λδ=>(fk δ).bind λdk=>(yg δ[i]?).bind λds=>match dk with
 |.int k=>if 0<=k/\k.toNat<ds.length/\ds.length<sizeLine then some (.nx,δ.set i (.ow (ds.eraseIdx k.toNat)))else none
 |_=>none
@[simp] def Ls(i:Nat):Sf:=λδ=>(yg δ[i]?).bind λds=>if ds.length<sizeLine then some (.nx,δ.set i (.ow ds.reverse))else none
def iE(d:D):Option D:=(aV d).bind λds=>(kO ds).bind λl=>if l.length<64 then some (.list ((aQ l).map .int))else none
section
variable{X:Cx}{e:Expr}{p pos:Pos}{te:TE}{f:Dv->Option D}
theorem yH{pins:List (Addr×Obj)}{σ:St}{H:Hp}{s:Shared}{a:Addr}{ns:List Int}{Q:VK}(I:Inv X pins σ H s)(hs:SqL X.K H a (ns.map V.int)\/SqT X.K H a (ns.map V.int))(h64:ns.length<64)(q:∀l,H l=none->Q (.ref l) (upd H l (.lst ((aQ ns).map V.int)))):
  wpAny (model X.prog X.w) X.A (call (.builtin "sorted") [.ref a]) (EP X pins σ Q) X.xe s:=by
 obtain⟨its,rv,T,o,n,hT,e1,e2,e3,hz⟩:∃(its:List Value),Vals (ns.map V.int) its/\∃(T:String) (o:Obj) (n:Nat),(T = "list"\/ T = "tuple")/\s.heap.get? a=some o/\o.cls=.type T/\o.data=.seq its.toArray n/\its.length<=sizeLine:=by
  rcases hs with hs|hs
  .obtain⟨its,r,⟨o,n,e1,e2,e3,e4⟩,z⟩:=I.list hs
   exact⟨its,r,"list",o,n,.inl rfl,e1,e2,e4,by rw[<-r.length];exact z⟩
  .obtain⟨its,r,⟨o,e1,e2,n,e3⟩,z⟩:=I.tuple hs
   exact⟨its,r,"tuple",o,n,.inr rfl,e1,e2,e3,by rw[<-r.length];exact z⟩
 have hI:=fQ rv;have hln:its.length=ns.length:=(IntsAre.length hI);refine Calls.call_function_entry kind_sorted plain_sorted entry_sorted (args_sorted1 _) ?_;unfold Builtin.«sorted»;refine wpAny_bind (m:=checkCount "sorted" 1 1 _) (wpAny_pure ?_);refine wpAny_bind (wpAny_collect_seq a hT e1 e2 e3 (λh' hk'=>?_) (by simpa using hz));show wpAny _ _ (newList its >>= _) _ _ {s with heap:=h'};refine wpAny_bind (wpAny_newList ?_ hz);have hoL:(h'.push (seqObj "list" its.toArray 0)).get? h'.objs.size=some (seqObj "list" its.toArray 0):=get?_push_size _ rfl;have I1:Inv X pins σ H {s with heap:=h'}:=I.kept (t':=s.toks) hk';refine wpAny_bind (wpAny_holding (wpAny_call_entry slot_list_sort ⟨_,hoL,rfl⟩ entry_list_sort (list_sort_tree hoL hI (by rw[hln];exact h64) λout ns' a1 a2 a3=>⟨_,rfl,?_⟩) (args_list_sort _)))
 refine wpAny_pure ⟨_,rfl,?_⟩;have e:=fJ a2 a3;subst e;have kp:∀b o,h'.get? b=some o->(sortedHeap (h'.push (seqObj "list" its.toArray 0)) h'.objs.size its out).get? b=some o:=λb o eo=>by
  have hb:b≠h'.objs.size:=ne_of_lt (lt_size eo);exact aN hb (get?_push_of_some _ (get?_push_of_some _ (aN hb (get?_push_of_some _ eo))))
 obtain⟨e1,ho1⟩:∃e1,((h'.push (seqObj "list" its.toArray 0)).update h'.objs.size (Obj.mapSeq λ_=>#[])).get? h'.objs.size=some (seqObj "list" #[] e1):=⟨_,get?_update_seq hoL (λ_=>#[])⟩;have ho2:=get?_push_of_some (seqObj "list" #[] 0) (get?_push_of_some (seqObj "tuple" its.toArray 0) ho1);have ho3:=get?_update_seq ho2 (λ_=>out);have L:=I1.laid (h':=sortedHeap (h'.push (seqObj "list" its.toArray 0)) h'.objs.size its out) (a:=h'.objs.size) (o:=.lst ((aQ ns).map V.int)) (t':=s.toks) kp (le_refl _)
  (show ObjOk X.prog X.w _ _ _ (.lst ((aQ ns).map V.int))from ⟨by rw[length_map,(cO ns).length_eq,sizeLine_eq];lia,out.toList,_,cK a1,by rw[Array.toArray_toList];exact ho3⟩)
 exact⟨.ref h'.objs.size,_,L,rfl,q _ (I1.hok.fresh (le_refl _))⟩
theorem sv(hg:Gl X "sorted")(hm:X.mg "sorted" = none)(ha:EV X e f)(he:starEach [e] X.env=(false,eval e X.env)::starEach [] X.env:=by rfl)(hpl:(backTo pos (starEach [] X.env)).any (·.1)=false:=by rfl):
  EV X (.Call (.Name "sorted" p) [e] [] pos) (o1 f iE):=by
 intro pins s σ H Q I h;refine wpAny_Call_Name_kw (d9 I hg hm (u:=.builtin "sorted") (by decide+kernel) ?_ (by decide) (by decide));refine PyProof.Rows.callWith_builtin1 (bB (bq ha dl he pos pins s σ H (λxs H1=>∃(a:Addr) (l:List Int),xs=[V.ref a]/\(SqL X.K H1 a (l.map V.int)\/SqT X.K H1 a (l.map V.int))/\l.length<64/\∀b,H1 b=none->Q (.ref b) (upd H1 b (.lst ((aQ l).map V.int)))) I ?_) λus s1 ⟨vs,H1,I1,r1,q1⟩=>?_) he hpl
 .obtain⟨H₀,Z₀,Z,δ,d,hh,e,k⟩:=h
  obtain⟨d1,e1,e⟩:=bind_some e;refine⟨H₀,Z₀,Z,δ,d1,hh,e1,λv Z1 H1 hh1 t1 r1=>?_⟩
  unfold iE at e;obtain⟨ds,e2,e⟩:=bind_some e;obtain⟨l,e3,e⟩:=bind_some e;obtain⟨h64,e⟩:=bR e;cases e;have key:∀b,H1 b=none->Q (.ref b) (upd H1 b (.lst ((aQ l).map V.int))):=λb hb=>by
   have n:=New.add hh1.zh hb (.lst ((aQ l).map V.int));exact k _ _ _ (hh1.new n) (t1.trans n.z) (.lst (SqL.of av) (Reps.ints _))
  cases r1 with
  |lst sq rs=>
   cases e2;have:=fK rs e3;subst this;exact⟨_,l,rfl,.inl (SqL.same sq hh1.zh),h64,key⟩
  |tup sq rs=>
   cases e2;have:=fK rs e3;subst this;exact⟨_,l,rfl,.inr (SqT.same sq hh1.zh),h64,key⟩
  |_=>cases e2
 .obtain⟨a,l,e1,hsq,h64,q⟩:=q1
  subst e1;obtain⟨u,rfl,rx⟩:=jb r1;cases rx;exact yH I1 hsq h64 q
end
def km(M:Nat)(p:SetTable.Probe):SetTable.Probe:=if p.more>0 then {p with j:=p.j+1,more:=p.more-1} else {p with j:=(SetTable.leap M p.i p.perturb).1,more:=SetTable.runEnd M (SetTable.leap M p.i p.perturb).1-(SetTable.leap M p.i p.perturb).1,i:=(SetTable.leap M p.i p.perturb).1,perturb:=(SetTable.leap M p.i p.perturb).2}
theorem Gk(t:SetTable)(p:SetTable.Probe):t.advance p=km t.mask p:=rfl
def itP(M:Nat):Nat->SetTable.Probe->SetTable.Probe
 | 0,p=>p
 |n+1,p=>itP M n (km M p)
theorem eT(M:Nat):∀(n m:Nat) (p:SetTable.Probe),itP M (n+m) p=itP M m (itP M n p)
 | 0,m,p=>by rw[Nat.zero_add];rfl
 |n+1,m,p=>by rw[Nat.add_right_comm];exact eT M n m (km M p)
theorem Ap(M n:Nat)(p:SetTable.Probe):itP M (n+1) p=km M (itP M n p):=eT M n 1 p
theorem Bn(M:Nat)(p:SetTable.Probe):(km M p).dummy=p.dummy:=by unfold km;split<;>rfl
theorem DR(M:Nat):∀(n:Nat) (p:SetTable.Probe),(itP M n p).dummy=p.dummy
 | 0,p=>rfl
 |n+1,p=>(DR M n _).trans (Bn M p)
def Bq(M i q:Nat):SetTable.Probe:={j:=i,more:=SetTable.runEnd M i-i,i:=i,perturb:=q,dummy:=none}
def stP0(M:Nat)(h:Int):SetTable.Probe:=Bq M (SetTable.bits h%(M+1)) (SetTable.bits h)
theorem EE(M i:Nat):SetTable.runEnd M i-i<=9:=by unfold SetTable.runEnd;split<;>lia
theorem ui(M i q:Nat):∀(r:Nat) (k j:Nat),k<=r->itP M k {j:=j,more:=r,i:=i,perturb:=q,dummy:=none}={j:=j+k,more:=r-k,i:=i,perturb:=q,dummy:=none}
 |r,0,j,_=>rfl
 | 0,k+1,j,h=>by lia
 |r+1,k+1,j,h=>by
  show itP M k (km M _)=_;have:km M {j:=j,more:=r+1,i:=i,perturb:=q,dummy:=none}={j:=j+1,more:=r,i:=i,perturb:=q,dummy:=none}:=by unfold km;rw[if_pos (by show r+1>0;lia)];rfl
  rw[this,ui M i q r k (j+1) (by lia)];congr 1<;>lia
theorem pV(M i q:Nat):itP M (SetTable.runEnd M i-i+1) (Bq M i q)=Bq M (SetTable.leap M i q).1 (SetTable.leap M i q).2:=by
 rw[Ap];unfold Bq;rw[ui M i q _ _ i (le_refl _),sub_self];unfold km;rw[if_neg (by show ¬ 0>0;lia)]
def lps(M:Nat):Nat->Nat×Nat->Nat×Nat
 | 0,x=>x
 |k+1,x=>lps M k (SetTable.leap M x.1 x.2)
theorem zX(M:Nat):∀(k:Nat) (i q:Nat),∃n,n<=10*k/\itP M n (Bq M i q)=Bq M (lps M k (i,q)).1 (lps M k (i,q)).2
 | 0,i,q=>⟨0,le_refl _,rfl⟩
 |k+1,i,q=>by
  obtain⟨n,h1,h2⟩:=zX M k (SetTable.leap M i q).1 (SetTable.leap M i q).2;refine⟨SetTable.runEnd M i-i+1+n,?_,?_⟩
  .have:=EE M i;lia
  .rw[eT,pV,h2];rfl
theorem pR(M:Nat):∀(a b:Nat) (x:Nat×Nat),lps M (a+b) x=lps M b (lps M a x)
 | 0,b,x=>by rw[Nat.zero_add];rfl
 |a+1,b,x=>by rw[Nat.add_right_comm];exact pR M a b _
theorem zV(M:Nat):∀(k:Nat) (i q:Nat),(lps M k (i,q)).2=q/32^k
 | 0,i,q=>by simp[lps]
 |k+1,i,q=>by
  show(lps M k (SetTable.leap M i q)).2=_;have:SetTable.leap M i q=((SetTable.leap M i q).1,q/32):=rfl;rw[this,zV M k,Nat.div_div_eq_div_mul,pow_succ,Nat.mul_comm]
theorem zW(M:Nat):∀(k:Nat) (i q:Nat),i<M+1->(lps M k (i,q)).1<M+1
 | 0,i,q,h=>h
 |k+1,i,q,h=>zW M k _ _ (mod_lt _ (by lia))
def fiv(k:Nat):Nat:=(5^k-1)/4
theorem mE(k:Nat):fiv (k+1)=5*fiv k+1:=by
 unfold fiv;have h1:5^k%4=1:=by
  induction k with
  |zero=>rfl
  |succ k ih=>rw[pow_succ];lia
 have h2:1<=5^k:=Nat.pow_pos (by decide);rw[pow_succ]
 lia
theorem DM(M:Nat):∀(k:Nat) (i:Nat),i<M+1->(lps M k (i,0)).1=(5^k*i+fiv k)%(M+1)
 | 0,i,h=>by rw[Nat.pow_zero,Nat.one_mul];show i=(i+0)%(M+1);rw[Nat.add_zero,Nat.mod_eq_of_lt h]
 |k+1,i,h=>by
  have e:lps M (k+1) (i,0)=lps M 1 (lps M k (i,0)):=pR M k 1 _;have q:=zV M k i 0;rw[Nat.zero_div]at q;have e2:lps M k (i,0)=((lps M k (i,0)).1,0):=Prod.ext rfl q;rw[e,e2,DM M k i h];show((5^k*i+fiv k)%(M+1)*5+1+0/32)%(M+1)=_;rw[mE,Nat.zero_div,Nat.add_zero,add_mod,mul_mod,Nat.mod_mod,<-mul_mod,<-add_mod];congr 1;rw[pow_succ];generalize 5^k=p;generalize fiv k=f;rw[Nat.add_mul,Nat.mul_right_comm,Nat.mul_comm f 5,Nat.add_assoc]
def vo(M:Nat):Prop:=M=7\/M=31\/M=127
theorem IP:∀j,j<8->∃s,s<8/\fiv s%8=j:=by decide+kernel
theorem Gj:∀j,j<32->∃s,s<32/\fiv s%32=j:=by decide+kernel
theorem Di:∀j,j<128->∃s,s<128/\fiv s%128=j:=by decide+kernel
theorem IN{M:Nat}(h:vo M):(∀j,j<M+1->∃s,s<M+1/\fiv s%(M+1)=j)/\fiv (M+1)%(M+1)=0/\5^(M+1)%(M+1)=1:=by
 rcases h with rfl|rfl|rfl
 .exact⟨IP,by decide+kernel,by decide+kernel⟩
 .exact⟨Gj,by decide+kernel,by decide+kernel⟩
 .exact⟨Di,by decide+kernel,by decide+kernel⟩
theorem v5(a b:Nat):fiv (a+b)=5^b*fiv a+fiv b:=by
 induction b with
 |zero=>rw[Nat.pow_zero,Nat.one_mul];rfl
 |succ b ih=>
  rw[Nat.add_succ,mE,ih,mE,pow_succ];generalize 5^b=p;generalize fiv a=x;generalize fiv b=y;rw[Nat.mul_add,Nat.mul_comm p 5,Nat.mul_assoc,Nat.add_assoc]
theorem EM{M:Nat}(h:vo M){i j:Nat}(hi:i<M+1)(hj:j<M+1):∃s,s<M+1/\(lps M s (i,0)).1=j:=by
 obtain⟨a,b,c⟩:=IN h;obtain⟨si,h1,h2⟩:=a i hi;obtain⟨sj,h3,h4⟩:=a j hj;have key:∀s,(lps M s (i,0)).1=fiv (si+s)%(M+1):=λs=>by
  rw[DM M s i hi,v5,<-h2,add_mod,mul_mod,Nat.mod_mod,<-mul_mod,<-add_mod]
 by_cases q:si<=sj
 .exact⟨sj-si,by lia,by rw[key,show si+(sj-si)=sj by lia,h4]⟩
 .refine⟨M+1+sj-si,by lia,?_⟩
  rw[key,show si+(M+1+sj-si)=(M+1)+sj by lia,v5,add_mod,mul_mod,b,Nat.mul_zero,Nat.zero_mod,Nat.zero_add,Nat.mod_mod,h4]
theorem Df(h:Int):SetTable.bits h<2^64:=by
 unfold SetTable.bits
 lia
theorem DA{M:Nat}(h:vo M)(x:Int){j:Nat}(hj:j<M+1):∃k,k<SetTable.turns M/\(lps M k (SetTable.bits x%(M+1),SetTable.bits x)).1=j:=by
 have lt:SetTable.bits x%(M+1)<M+1:=mod_lt _ (by lia);have q:=zV M 13 (SetTable.bits x%(M+1)) (SetTable.bits x);have z:SetTable.bits x/32^13=0:=Nat.div_eq_of_lt (Nat.lt_of_lt_of_le (Df x) (by decide));rw[z]at q;obtain⟨s,h1,h2⟩:=EM h (zW M 13 _ (SetTable.bits x) lt) hj;refine⟨13+s,by unfold SetTable.turns;lia,?_⟩;rw[pR];generalize lps M 13 (SetTable.bits x%(M+1),SetTable.bits x)=y at q h2;obtain⟨y1,y2⟩:=y;dsimp only at q h2;subst q;exact h2
theorem EL{M:Nat}(h:vo M)(x:Int){j:Nat}(hj:j<M+1):∃n,n<10*SetTable.turns M/\(itP M n (stP0 M x)).j=j:=by
 obtain⟨k,h1,h2⟩:=DA h x hj;obtain⟨n,h3,h4⟩:=zX M k (SetTable.bits x%(M+1)) (SetTable.bits x);exact⟨n,by lia,by unfold stP0;rw[h4];exact h2⟩
def Lv(t:SetTable)(j:Nat):Prop:=∃i:Nat,t.place[i]? = some j
structure Tab (t:SetTable) (es:Array (Int×Value)):Prop where
 m:vo t.mask
 up:UpA t.place
 nd:t.dummies = #[]
 sz:t.place.size=es.size
 le:∀(i j:Nat),t.place[i]? = some j->j<t.mask+1
 few:es.size*5<t.mask*3
 rc:∀(i j:Nat) (e:Int×Value),t.place[i]? = some j->es[i]? = some e->∃n,(itP t.mask n (stP0 t.mask e.1)).j=j/\∀m,m<n->Lv t (itP t.mask m (stP0 t.mask e.1)).j
theorem e9{t:SetTable}(hu:UpA t.place){i j:Nat}(h:t.place[i]? = some j):t.slot j=.live i:=by
 obtain⟨h1,h2,h3⟩:=fO hu j;obtain⟨hi,hx⟩:=Array.getElem?_eq_some_iff.mp h;have e:SetTable.below t.place j=i:=by
  rcases Nat.lt_trichotomy (SetTable.below t.place j) i with q|q|q
  .have a:=h3 (SetTable.below t.place j) (by lia) (le_refl _)
   have b:=hu _ _ (by lia) hi q
   lia
  .exact q
  .have:=h2 i hi q;lia
 unfold SetTable.slot;simp[e,h]
theorem tH{t:SetTable}(hd:t.dummies = #[]){j:Nat}(h:¬Lv t j):t.slot j=.empty:=by
 unfold SetTable.slot;have:¬(t.place[SetTable.below t.place j]? == some j)=true:=λz=>h ⟨_,by simpa using z⟩
 simp only[this,if_false,Bool.false_eq_true];rw[hd];simp[SetTable.has]
theorem CC{t:SetTable}{j:Nat}(h:¬Lv t j):t.place[SetTable.below t.place j]?≠some j:=λz=>h ⟨_,z⟩
theorem vO{t:SetTable}{f:Nat->Int}{h:Int}(hu:UpA t.place)(hd:t.dummies = #[]):∀(n fuel:Nat) (p:SetTable.Probe),n<fuel->p.dummy=none->(∀m,m<n->∃i,t.place[i]? = some (itP t.mask m p).j/\f i≠h)->
  (¬Lv t (itP t.mask n p).j->SetTable.probe.go t f h fuel p=some (.empty (itP t.mask n p).j none))/\(∀i,t.place[i]? = some (itP t.mask n p).j->f i=h->SetTable.probe.go t f h fuel p=some (.candidate (itP t.mask n p).j i (itP t.mask (n+1) p)))
 | 0,fuel+1,p,_,pd,_=>by
  refine⟨λz=>?_,λi hi e=>?_⟩
  .unfold SetTable.probe.go
   have z:¬Lv t p.j:=z;rw[tH hd z,pd];rfl
  .unfold SetTable.probe.go
   have hi:t.place[i]? = some p.j:=hi;rw[e9 hu hi];dsimp only;rw[if_pos (by simp[e])];rfl
 |n+1,fuel+1,p,hn,pd,hm=>by
  obtain⟨i0,h1,h2⟩:=hm 0 (by lia);have h1:t.place[i0]? = some p.j:=h1;have st:SetTable.probe.go t f h (fuel+1) p=SetTable.probe.go t f h fuel (t.advance p):=by
   conv=>lhs;unfold SetTable.probe.go
   rw[e9 hu h1];dsimp only;rw[if_neg (by simp[h2])]
  rw[st,Gk];exact vO hu hd n fuel (km t.mask p) (by lia) ((Bn _ _).trans pd) λm hm'=>hm (m+1) (by lia)
theorem vq:∀(l m:List Nat),l.Nodup->(∀x∈l,x∈m)->l.length<=m.length
 |[],m,_,_=>zero_le _
 |a::l,m,h,s=>by
  obtain⟨h1,h2⟩:=List.nodup_cons.mp h;have:=vq l (m.erase a) h2 λx hx=>(List.mem_erase_of_ne (λz:x=a=>h1 (z ▸ hx))).mpr (s x (mem_cons_of_mem _ hx))
  have ha:=s a mem_cons_self;have e:=List.length_erase_of_mem ha;have p:=List.length_pos_of_mem ha;rw[length_cons]
  lia
theorem CW{t:SetTable}{n:Nat}(hs:t.place.size=n)(h:n<t.mask+1):∃j,j<t.mask+1/\¬Lv t j:=by
 refine Classical.byContradiction λz=>?_
 have all:∀j∈List.range (t.mask+1),j∈t.place.toList:=λj hj=>by
  refine Classical.byContradiction λq=>z ⟨j,List.mem_range.mp hj,λ⟨i,e⟩=>q ?_⟩
  exact Array.mem_toList_iff.mpr (Array.mem_of_getElem? e)
 have:=vq _ _ List.nodup_range all;rw[length_range,length_toList]at this
 lia
theorem vz{P:Nat->Prop}:∀n,P n->∃m,m<=n/\P m/\∀k,k<m->¬P k:=λn=>by
 induction n using Nat.strongRecOn with
 |_ n ih=>
  intro h;by_cases q:∃k,k<n/\P k
  .obtain⟨k,h1,h2⟩:=q
   obtain⟨m,h3,h4⟩:=ih k h1 h2;exact⟨m,by lia,h4⟩
  .exact⟨n,le_refl _,h,λk hk z=>q ⟨k,hk,z⟩⟩
theorem ur{t:SetTable}{n:Nat}(hm:vo t.mask)(hs:t.place.size=n)(h:n<t.mask+1)(x:Int):∃N,N<10*SetTable.turns t.mask/\¬Lv t (itP t.mask N (stP0 t.mask x)).j/\∀m,m<N->Lv t (itP t.mask m (stP0 t.mask x)).j:=by
 obtain⟨j,h1,h2⟩:=CW hs h;obtain⟨k,h3,h4⟩:=EL hm x h1;obtain⟨N,h5,h6,h7⟩:=vz (P:=λn=>¬Lv t (itP t.mask n (stP0 t.mask x)).j) k (by rw[h4];exact h2)
 exact⟨N,by lia,h6,λm hm'=>Classical.not_not.mp (h7 m hm')⟩
theorem pC{M i:Nat}(h:i<M+1):SetTable.runEnd M i<M+1:=by unfold SetTable.runEnd;split<;>lia
def Ea(M:Nat)(p:SetTable.Probe):Prop:=p.j+p.more<M+1
theorem Cg{M:Nat}{p:SetTable.Probe}(h:Ea M p):Ea M (km M p):=by
 unfold km;split
 .unfold Ea at *;dsimp only;lia
 .unfold Ea
  have lt:(SetTable.leap M p.i p.perturb).1<M+1:=mod_lt _ (by lia);have:=pC lt;dsimp only;have:(SetTable.leap M p.i p.perturb).1<=SetTable.runEnd M (SetTable.leap M p.i p.perturb).1:=by unfold SetTable.runEnd;split<;>lia
  lia
theorem zn{M:Nat}:∀(n:Nat) {p:SetTable.Probe},Ea M p->Ea M (itP M n p)
 | 0,_,h=>h
 |n+1,_,h=>zn n (Cg h)
theorem Hr(M:Nat)(x:Int):Ea M (stP0 M x):=by
 have lt:SetTable.bits x%(M+1)<M+1:=mod_lt _ (by lia);have:=pC lt;have:SetTable.bits x%(M+1)<=SetTable.runEnd M (SetTable.bits x%(M+1)):=by unfold SetTable.runEnd;split<;>lia
 show SetTable.bits x%(M+1)+(SetTable.runEnd M (SetTable.bits x%(M+1))-SetTable.bits x%(M+1))<M+1
 lia
theorem Ao(M n:Nat)(x:Int):(itP M n (stP0 M x)).j<M+1:=by
 have:=zn n (Hr M x);unfold Ea at this
 lia
theorem fL{α:Type}(xs:Array α)(p:Nat)(x:α):(SetTable.insertAt xs p x).size=xs.size+1:=by
 have:=(SetTable.insertAt_perm xs p x).length_eq;simpa using this
theorem iu{α:Type}{xs:Array α}{p:Nat}{x:α}(hp:p<=xs.size)(i:Nat):(SetTable.insertAt xs p x)[i]? = if i<p then xs[i]? else if i=p then some x else xs[i-1]?:=by
 rw[<-getElem?_toList,SetTable.toList_insertAt];have hl:(xs.toList.take p).length=p:=by rw[List.length_take,length_toList];lia
 by_cases h1:i<p
 .rw[if_pos h1,List.getElem?_append_left (by lia),List.getElem?_take_of_lt h1,getElem?_toList]
 .rw[if_neg h1,List.getElem?_append_right (by lia),hl]
  by_cases h2:i=p
  .subst h2
   rw[if_pos rfl,sub_self,List.getElem?_cons_zero]
  .rw[if_neg h2]
   obtain⟨k,rfl⟩:∃k,i=p+k+1:=⟨i-p-1,by lia⟩;rw[show p+k+1-p=k+1 by lia,List.getElem?_cons_succ,List.getElem?_drop,getElem?_toList];rfl
theorem oQ{α:Type}{xs:Array α}{p:Nat}{x y:α}(hp:p<=xs.size){i:Nat}(h:(SetTable.insertAt xs p x)[i]? = some y):(i=p/\y=x)\/(i<p/\xs[i]? = some y)\/(p<i/\xs[i-1]? = some y):=by
 rw[iu hp]at h;split at h
 .exact .inr (.inl ⟨by assumption,h⟩)
 .split at h
  .exact .inl ⟨by assumption,(Option.some.inj h).symm⟩
  .exact .inr (.inr ⟨by lia,h⟩)
theorem cN(t:SetTable)(j:Nat):(t.put j).1.place=SetTable.insertAt t.place (SetTable.below t.place j) j:=rfl
theorem ze(t:SetTable)(j:Nat):(t.put j).1.mask=t.mask:=rfl
theorem EQ{t:SetTable}(hu:UpA t.place){j k:Nat}(h:Lv t k):Lv (t.put j).1 k:=by
 obtain⟨i,e⟩:=h;have hp:=(fO hu j).1;by_cases q:i<SetTable.below t.place j
 .exact⟨i,by rw[cN,iu hp,if_pos q];exact e⟩
 .exact⟨i+1,by rw[cN,iu hp,if_neg (by lia),if_neg (by lia),Nat.add_sub_cancel];exact e⟩
theorem Tab.put{t:SetTable}{es:Array (Int×Value)}(T:Tab t es){x:Int}{v:Value}{N:Nat}(h1:¬Lv t (itP t.mask N (stP0 t.mask x)).j)(h2:∀m,m<N->Lv t (itP t.mask m (stP0 t.mask x)).j)(hf:(es.size+1)*5<t.mask*3){t':SetTable}(ht:t'.place=(t.put (itP t.mask N (stP0 t.mask x)).j).1.place)(hM:t'.mask=t.mask)(hD:t'.dummies = #[]):
  Tab t' (SetTable.insertAt es (SetTable.below t.place (itP t.mask N (stP0 t.mask x)).j) (x,v)):=by
 have lt:=Ao t.mask N x;have hp:=(fO T.up (itP t.mask N (stP0 t.mask x)).j).1;have hp':SetTable.below t.place (itP t.mask N (stP0 t.mask x)).j<=es.size:=by rw[<-T.sz];exact hp
 have lift:∀k,Lv t k->Lv t' k:=λk z=>by
  obtain⟨i,e⟩:=EQ T.up (j:=(itP t.mask N (stP0 t.mask x)).j) z;exact⟨i,by rw[ht];exact e⟩
 refine⟨by rw[hM];exact T.m,by rw[ht,cN];exact T.up.insert (CC h1),hD,by rw[ht,cN,fL,fL,T.sz],λi j e=>?_,by rw[hM,fL];exact hf,λi j e hi he=>?_⟩
 .rw[ht,cN]at e
  rw[hM];rcases oQ hp e with⟨_,q⟩|⟨_,q⟩|⟨_,q⟩
  .rw[q];exact lt
  .exact T.le _ _ q
  .exact T.le _ _ q
 .rw[ht,cN]at hi
  rw[hM];rw[iu hp']at he;rcases oQ hp hi with⟨q1,q2⟩|⟨q1,q2⟩|⟨q1,q2⟩
  .rw[if_neg (by lia),if_pos q1]at he
   cases he;exact⟨N,q2.symm,λm hm=>lift _ (h2 m hm)⟩
  .rw[if_pos q1]at he
   obtain⟨n,a,b⟩:=T.rc i j e q2 he;exact⟨n,a,λm hm=>lift _ (b m hm)⟩
  .rw[if_neg (by lia),if_neg (by lia)]at he
   obtain⟨n,a,b⟩:=T.rc _ j e q2 he;exact⟨n,a,λm hm=>lift _ (b m hm)⟩
structure Lay (M:Nat) (hs:List Int) (ow:Array (Option Nat)) (k:Nat):Prop where
 sz:ow.size=M+1
 pm:((List.range (M+1)).filterMap λj=>ow.getD j none).Perm (List.range k)
 rc:∀(j i:Nat),ow.getD j none=some i->∃x,hs[i]? = some x/\∃n,(itP M n (stP0 M x)).j=j/\∀m,m<n->ow.getD (itP M m (stP0 M x)).j none≠none
theorem Ko{ow:Array (Option Nat)}{y:Nat}(h:y<ow.size)(d:Option Nat):ow.getD y d=ow.getD y none:=by simp[Array.getD_eq_getD_getElem?,h]
theorem vV{M:Nat}{ow:Array (Option Nat)}(hsz:ow.size=M+1):∀(fuel i q j:Nat),i<M+1->SetTable.layClean.free M ow fuel i q=some j->ow.getD j none=none/\j<M+1/\∃n,(itP M n (Bq M i q)).j=j/\∀m,m<n->ow.getD (itP M m (Bq M i q)).j none≠none
 | 0,i,q,j,_,e=>by cases e
 |fuel+1,i,q,j,hi,e=>by
  unfold SetTable.layClean.free at e;have re:=pC hi;have rj:∀k,k<=SetTable.runEnd M i-i->(itP M k (Bq M i q)).j=i+k:=λk hk=>by unfold Bq;rw[ui M i q _ _ i hk]
  have sm:∀y,y<M+1->(ow.getD y (some 0)).isNone=true->ow.getD y none=none:=λy hy z=>by
   rw[Ko (by lia)]at z;exact Option.isNone_iff_eq_none.mp z
  have sn:∀y,y<M+1->¬(ow.getD y (some 0)).isNone=true->ow.getD y none≠none:=λy hy z e=>by
   rw[Ko (by lia),e]at z;exact z rfl
  have ri:i<=SetTable.runEnd M i:=by unfold SetTable.runEnd;split<;>lia
  split at e
  .rename_i k hk
   cases e;obtain⟨h1,as,bs,h2,h3⟩:=List.find?_eq_some_iff_append.mp hk;have hlen:=congrArg List.length h2;rw[length_range,length_append,length_cons]at hlen;have hkk:as.length=k:=by
    have:=congrArg (λl=>l[as.length]?) h2;simp only[List.getElem?_append_right (le_refl _),sub_self,List.getElem?_cons_zero]at this;rw[List.getElem?_range (by lia)]at this;exact Option.some.inj this
   refine⟨sm _ (by lia) h1,by lia,k,rj k (by lia),λm hm=>?_⟩
   rw[rj m (by lia)];have hma:m∈as:=by
    have this:(List.range (SetTable.runEnd M i+1-i))[m]? = (as++k::bs)[m]?:=congrArg (λl=>l[m]?) h2;rw[List.getElem?_range (by lia),List.getElem?_append_left (by lia)]at this;exact List.mem_of_getElem? this.symm
   exact sn _ (by lia) (λw=>absurd (h3 m hma) (by rw[w];decide))
  .rename_i hk
   have hno:=List.find?_eq_none.mp hk;obtain⟨a,b,n,c,d⟩:=vV hsz fuel _ _ j (mod_lt _ (by lia)) e;refine⟨a,b,SetTable.runEnd M i-i+1+n,by rw[eT,pV];exact c,λm hm=>?_⟩
   by_cases q1:m<=SetTable.runEnd M i-i
   .rw[rj m q1]
    exact sn _ (by lia) (hno m (List.mem_range.mpr (by lia)))
   .obtain⟨m',rfl⟩:∃m',m=SetTable.runEnd M i-i+1+m':=⟨m-(SetTable.runEnd M i-i+1),by lia⟩
    rw[eT,pV];exact d m' (by lia)
theorem oS{M:Nat}{ow:Array (Option Nat)}(hsz:ow.size=M+1):∀(fuel k i q:Nat),k<fuel->i<M+1->ow.getD (lps M k (i,q)).1 none=none->SetTable.layClean.free M ow fuel i q≠none
 | 0,k,i,q,h,_,_=>by lia
 |fuel+1,k,i,q,h,hi,z=>by
  unfold SetTable.layClean.free;split
  .intro e;cases e
  .rename_i hk
   have hno:=List.find?_eq_none.mp hk;cases k with
   |zero=>
    exfalso;have ri:i<=SetTable.runEnd M i:=by unfold SetTable.runEnd;split<;>lia
    have:=hno 0 (List.mem_range.mpr (by lia));have z:ow.getD i none=none:=z;rw[Nat.add_zero,Ko (by lia),z]at this;exact this rfl
   |succ k=>exact oS hsz fuel k _ _ (by lia) (mod_lt _ (by lia)) z
theorem sr{f g:Nat->Option Nat}:∀(l:List Nat),(∀x∈l,g x=f x)->l.filterMap g=l.filterMap f
 |[],_=>rfl
 |a::l,h=>by rw[filterMap_cons,filterMap_cons,h a mem_cons_self,sr l λx hx=>h x (mem_cons_of_mem _ hx)]
theorem AH{f g:Nat->Option Nat}{j k:Nat}(fj:f j=none)(gj:g j=some k)(gx:∀x,x≠j->g x=f x):∀(l:List Nat),l.Nodup->j∈l->(l.filterMap g).Perm (k::l.filterMap f)
 |[],_,h=>by cases h
 |a::l,nd,h=>by
  obtain⟨n1,n2⟩:=List.nodup_cons.mp nd;by_cases e:a=j
  .subst e
   have same:l.filterMap g=l.filterMap f:=sr l λx hx=>gx x λz=>n1 (z ▸ hx)
   rw[filterMap_cons,filterMap_cons,fj,gj,same]
  .have hj:j∈l:=by
    rcases List.mem_cons.mp h with z|z
    .exact absurd z.symm e
    .exact z
   have ih:=AH fj gj gx l n2 hj;rw[filterMap_cons,filterMap_cons,gx a e];cases f a with
   |none=>exact ih
   |some b=>exact(ih.cons b).trans (List.Perm.swap k b _)
theorem AI{f:Nat->Option Nat}:∀(l:List Nat),(∀j∈l,f j≠none)->(l.filterMap f).length=l.length
 |[],_=>rfl
 |a::l,h=>by
  obtain⟨b,hb⟩:=Option.ne_none_iff_exists'.mp (h a mem_cons_self);rw[filterMap_cons,hb,length_cons,length_cons,AI l λj hj=>h j (mem_cons_of_mem _ hj)]
theorem Lay.step{M:Nat}(hM:vo M){hs:List Int}{ow:Array (Option Nat)}{k:Nat}(L:Lay M hs ow k)(hk:k<M+1){x:Int}(hx:hs[k]? = some x):∃j,SetTable.layClean.free M ow (SetTable.turns M) (SetTable.bits x%(M+1)) (SetTable.bits x)=some j/\Lay M hs (ow.setIfInBounds j (some k)) (k+1):=by
 have lt:SetTable.bits x%(M+1)<M+1:=mod_lt _ (by lia);obtain⟨j0,h0,h1⟩:∃j0,j0<M+1/\ow.getD j0 none=none:=Classical.byContradiction λz=>by
  have:=AI (f:=λj=>ow.getD j none) (List.range (M+1)) λj hj e=>z ⟨j,List.mem_range.mp hj,e⟩
  rw[L.pm.length_eq,length_range,length_range]at this
  lia
 obtain⟨kk,h2,h3⟩:=DA hM x h0;have h4:=oS L.sz (SetTable.turns M) kk (SetTable.bits x%(M+1)) (SetTable.bits x) h2 lt (by rw[h3];exact h1);obtain⟨j,e⟩:=Option.ne_none_iff_exists'.mp h4;obtain⟨a,b,n,c,d⟩:=vV L.sz _ _ _ _ lt e;have gs:(ow.setIfInBounds j (some k)).getD j none=some k:=by simp[Array.getD_eq_getD_getElem?,L.sz,b]
 have gn:∀y,y≠j->(ow.setIfInBounds j (some k)).getD y none=ow.getD y none:=λy hy=>by simp[Array.getD_eq_getD_getElem?,Array.getElem?_setIfInBounds,Ne.symm hy]
 have up:∀y,ow.getD y none≠none->(ow.setIfInBounds j (some k)).getD y none≠none:=λy hy=>by
  by_cases q:y=j
  .rw[q,gs];intro z;cases z
  .rw[gn y q];exact hy
 refine⟨j,e,by rw[Array.size_setIfInBounds];exact L.sz,?_,λy i hy=>?_⟩
 .refine(AH (f:=λj=>ow.getD j none) (g:=λy=>(ow.setIfInBounds j (some k)).getD y none) a gs gn _ List.nodup_range (List.mem_range.mpr b)).trans ((L.pm.cons k).trans ?_)
  rw[List.range_succ];exact(List.perm_append_singleton k _).symm
 .by_cases q:y=j
  .subst q
   rw[gs]at hy;cases hy;exact⟨x,hx,n,c,λm hm=>up _ (d m hm)⟩
  .rw[gn y q]at hy
   obtain⟨x',h5,n',h6,h7⟩:=L.rc y i hy;exact⟨x',h5,n',h6,λm hm=>up _ (h7 m hm)⟩
theorem Lay.nil(M:Nat)(hs:List Int):Lay M hs (Array.replicate (M+1) none) 0:=by
 have g:∀j,(Array.replicate (M+1) (none:Option Nat)).getD j none=none:=λj=>by
  simp[Array.getD_eq_getD_getElem?,Array.getElem?_replicate];split<;>rfl
 refine⟨by simp,?_,λj i e=>by rw[g]at e;cases e⟩
 have:((List.range (M+1)).filterMap λj=>(Array.replicate (M+1) (none:Option Nat)).getD j none)=[]:=List.filterMap_eq_nil_iff.mpr λj _=>g j
 rw[this];exact .nil
def FD(M:Nat)(acc:Option (Array (Option Nat)×Nat))(h:Int):Option (Array (Option Nat)×Nat):=acc.bind λp=>(SetTable.layClean.free M p.1 (SetTable.turns M) (SetTable.bits h%(M+1)) (SetTable.bits h)).bind λj=>some (p.1.setIfInBounds j (some p.2),p.2+1)
theorem rS{M:Nat}(hM:vo M){hs:List Int}(hl:hs.length<M+1):∀(l pre:List Int) (ow:Array (Option Nat)),hs=pre++l->Lay M hs ow pre.length->∃ow',l.foldl (FD M) (some (ow,pre.length))=some (ow',hs.length)/\Lay M hs ow' hs.length
 |[],pre,ow,e,L=>by
  rw[List.append_nil]at e;subst e;exact⟨ow,rfl,L⟩
 |x::l,pre,ow,e,L=>by
  have hx:hs[pre.length]? = some x:=by rw[e,List.getElem?_append_right (le_refl _),sub_self];rfl
  have hlen:pre.length<hs.length:=by rw[e,length_append,length_cons];lia
  obtain⟨j,h1,h2⟩:=L.step hM (by lia) hx;have:=rS hM hl l (pre++[x]) (ow.setIfInBounds j (some pre.length)) (by rw[e,List.append_assoc];rfl) (by rw[length_append];exact h2);obtain⟨ow',a,b⟩:=this;refine⟨ow',?_,b⟩;rw[List.foldl_cons];have st:FD M (some (ow,pre.length)) x=some (ow.setIfInBounds j (some pre.length),pre.length+1):=by
   unfold FD;rw[Option.bind_some,h1];rfl
  rw[st];rw[length_append]at a;exact a
theorem xt{M:Nat}(hM:vo M)(hs:Array Int)(hl:hs.size<M+1):∃ow,SetTable.layClean M hs=some ow/\Lay M hs.toList ow hs.size:=by
 obtain⟨ow,a,b⟩:=rS hM (hs:=hs.toList) (by simpa using hl) hs.toList [] _ rfl (Lay.nil M _);refine⟨ow,?_,by simpa using b⟩;unfold SetTable.layClean;rw[<-Array.foldl_toList];have:(hs.toList.foldl (λ(acc:Option (Array (Option Nat)×Nat)) h=>do
   let (owner,k) <-acc
   let j <-SetTable.layClean.free M owner (SetTable.turns M) (SetTable.bits h%(M+1)) (SetTable.bits h)
   pure (owner.setIfInBounds j (some k),k+1)) (some (Array.replicate (M+1) none,0)))=some (ow,hs.toList.length):=a
 rw[this];rfl
theorem uq(f:Nat->Option Nat):∀l:List Nat,(l.filterMap λj=>(f j).map (j,·)).map (·.2)=l.filterMap f
 |[]=>rfl
 |a::l=>by
  rw[filterMap_cons,filterMap_cons];cases f a with
  |none=>exact uq f l
  |some b=>show b::_=b::_;rw[uq f l]
theorem DY{α:Type}(es:Array α):∀(l:List Nat),(∀i∈l,i<es.size)->∀r:Nat,(l.filterMap λi=>es[i]?)[r]? = l[r]?.bind λi=>es[i]?
 |[],_,r=>rfl
 |a::l,h,r=>by
  have ha:=h a mem_cons_self;rw[filterMap_cons,Array.getElem?_eq_getElem ha];cases r with
  |zero=>simp[ha]
  |succ r=>
   rw[List.getElem?_cons_succ,List.getElem?_cons_succ];exact DY es l (λi hi=>h i (mem_cons_of_mem _ hi)) r
theorem wY{t:SetTable}{es:Array (Int×Value)}{wanted:Nat}(hM:vo (SetTable.sizeAbove wanted-1))(hl:es.size<SetTable.sizeAbove wanted-1+1)(few:es.size*5<(SetTable.sizeAbove wanted-1)*3):
  ∃t' order,t.relaid (es.map (·.1)) wanted=some (t',order)/\Tab t' (order.filterMap λi=>es[i]?)/\List.Perm (order.filterMap λi=>es[i]?).toList es.toList/\t'.led=t.led:=by
 generalize hw:SetTable.sizeAbove wanted-1=M at hM hl few;obtain⟨ow,a,L⟩:=xt hM (es.map (·.1)) (by rw[Array.size_map];exact hl);rw[Array.size_map]at L;refine⟨_,_,by unfold SetTable.relaid SetTable.laid;rw[hw,a];rfl,?_⟩;have pm:(((List.range (M+1)).filterMap λj=>(ow.getD j none).map (j,·)).map (·.2)).Perm (List.range es.size):=by rw[uq];exact L.pm
 have ixl:∀i∈((List.range (M+1)).filterMap λj=>(ow.getD j none).map (j,·)).map (·.2),i<es.size:=λi hi=>List.mem_range.mp (pm.mem_iff.mp hi)
 have tl:((((List.range (M+1)).filterMap λj=>(ow.getD j none).map (j,·)).map (·.2)).toArray.filterMap λi=>es[i]?).toList=(((List.range (M+1)).filterMap λj=>(ow.getD j none).map (j,·)).map (·.2)).filterMap λi=>es[i]?:=by rw[Array.toList_filterMap]
 have pes:((((List.range (M+1)).filterMap λj=>(ow.getD j none).map (j,·)).map (·.2)).toArray.filterMap λi=>es[i]?).toList.Perm es.toList:=by
  rw[tl];refine(pm.filterMap _).trans ?_;rw[filterMap_getElem?_range]
 have lv:∀j,j<M+1->ow.getD j none≠none->∃i:Nat,(((List.range (M+1)).filterMap λj=>(ow.getD j none).map (j,·)).map (·.1)).toArray[i]? = some j:=λj hj hn=>by
  obtain⟨i,hi⟩:=Option.ne_none_iff_exists'.mp hn;have:j∈((List.range (M+1)).filterMap λj=>(ow.getD j none).map (j,·)).map (·.1):=List.mem_map.mpr ⟨(j,i),List.mem_filterMap.mpr ⟨j,List.mem_range.mpr hj,by rw[hi];rfl⟩,rfl⟩
  obtain⟨r,hr⟩:=List.mem_iff_getElem?.mp this;exact⟨r,by simpa using hr⟩
 have ent:∀(r j:Nat),(((List.range (M+1)).filterMap λj=>(ow.getD j none).map (j,·)).map (·.1)).toArray[r]? = some j->∃i,((List.range (M+1)).filterMap λj=>(ow.getD j none).map (j,·))[r]? = some (j,i)/\j<M+1/\ow.getD j none=some i:=λr j h=>by
  have h:(((List.range (M+1)).filterMap λj=>(ow.getD j none).map (j,·)).map (·.1))[r]? = some j:=by simpa using h
  rw[List.getElem?_map]at h;obtain⟨⟨j',i⟩,h1,h2⟩:=Option.map_eq_some_iff.mp h;dsimp only at h2;subst h2;obtain⟨c,hc,e⟩:=List.mem_filterMap.mp (List.mem_of_getElem? h1);obtain⟨d,hd,e⟩:=Option.map_eq_some_iff.mp e;cases e;exact⟨i,h1,List.mem_range.mp hc,hd⟩
 refine⟨⟨hM,λi j hi hj hij=>?_,rfl,?_,λr j h=>(ent r j h).choose_spec.2.1,?_,λr j e hr he=>?_⟩,pes,rfl⟩
 .have:=dR (λj=>ow.getD j none) (List.range (M+1)) List.pairwise_lt_range
  have:=List.pairwise_iff_getElem.mp this i j (by simpa using hi) (by simpa using hj) hij;simpa using this
 .have h1:=pes.length_eq
  have h2:=pm.length_eq;rw[length_toList,length_toList]at h1;rw[length_map,length_range]at h2;rw[h1,List.size_toArray,length_map,h2]
 .have h1:=pes.length_eq
  rw[length_toList,length_toList]at h1;rw[h1];exact few
 .obtain⟨i,h1,h2,h3⟩:=ent r j hr
  rw[<-getElem?_toList,tl,DY es _ ixl,List.getElem?_map,h1]at he;have he:es[i]? = some e:=he;obtain⟨x,h4,n,h5,h6⟩:=L.rc j i h3;have hx:x=e.1:=by
   rw[getElem?_toList,Array.getElem?_map,he]at h4;exact(Option.some.inj h4).symm
  subst hx;exact⟨n,h5,λm hm=>lv _ (Ao M m _) (h6 m hm)⟩
def dD(h:Heap):Value->List Int
 |.ref b=>match h.get? b with
  |some o=>match o.data with
   |.seq items _=>items.toList.map jQ
   |_=>[]
  |none=>[]
 |_=>[]
section
variable{prog:Program}{w:World}{A:Around}{E:Value->Shared->Prop}{s:Shared}
theorem vE:∀{ks:List Int} {vs:List Value},ItemsAre (intKind prog w) ks vs->vs.map jQ=ks
 |_,_,.nil=>rfl
 |_,_,.cons h r=>by
  obtain⟨t,rfl⟩:=Value.isInt_shape h;rw[List.map_cons,vE r];rfl
theorem dM{h:Heap}{ks:List Int}{b:Addr}(x:IsTupleKey (intKind prog w) h ks b):dD h (.ref b)=ks:=by
 obtain⟨o,items,n,ho,_,hd,hi⟩:=x;show(match h.get? b with|some o=>_|none=>_)=_;rw[ho];dsimp only;rw[hd];exact vE hi
def yc(prog:Program)(w:World)(L:Addr->Prop)(h:Heap)(e:Int×Value):Prop:=∃ks b,e=(tupleKeyHash (intKind prog w) ks,Value.ref b)/\IsTupleKey (intKind prog w) h ks b/\L b
theorem kw{ks:List Int}{a:Addr}{Q:Bool->Shared->Prop}(hk:IsTupleKey (intKind prog w) s.heap ks a)(h:Q false s):wpAny (model prog w) A (ofAClassStatement 8 (.ref a)) Q E s:=by
 have hT:=hk.typeIs;obtain⟨o,items,n,ho,_,hd,hi⟩:=hk;unfold ofAClassStatement;refine wpAny_bind (wpAny_typeOf hT ?_);dsimp only;refine wpAny_bind (wpAny_of_eq (a:=true) (by rfl) ?_);simp only[Bool.not_true,Bool.false_eq_true,if_false];refine wpAny_bind (wpAny_seqItems ho hd ?_);dsimp only;refine wpAny_bind ?_;show wpAny _ _ (forIn items _ _) _ _ s;rw[<-Array.forIn_toList];refine wpAny_forIn_list _ (λrest r s'=>r.1=none/\s'=s/\∀v∈rest,∃k t,v=Value.int k t) _ ?_ ?_ _ _ ⟨rfl,rfl,λv hv=>?_⟩
 .rintro v rest r s' ⟨hr,rfl,hall⟩
  obtain⟨k,t,rfl⟩:=hall v mem_cons_self;refine wpAny_bind (wpAny_of_eq (a:=false) (by unfold ofAClassStatement;rfl) ?_);simp only[Bool.false_eq_true,if_false];exact wpAny_pure ⟨rfl,rfl,λu hu'=>hall u (mem_cons_of_mem _ hu')⟩
 .rintro⟨r1,r2⟩ s' ⟨hr,rfl,_⟩
  simp only at hr;subst hr;exact wpAny_pure h
 .have go:∀{ks:List Int} {vs:List Value},ItemsAre (intKind prog w) ks vs->∀v∈vs,∃k t,v=Value.int k t:=λx=>by
   induction x with
   |nil=>intro v hv;cases hv
   |cons h _ ih=>
    intro v hv;rcases List.mem_cons.mp hv with rfl|z
    .obtain⟨t,q⟩:=Value.isInt_shape h
     exact⟨_,t,q⟩
    .exact ih v z
  exact go hi v hv
theorem sO{ks:List Int}{a:Addr}{Q:Bool->Shared->Prop}(hk:IsTupleKey (intKind prog w) s.heap ks a)(h:Q true s):wpAny (model prog w) A (hashByValue 8 (.ref a)) Q E s:=by
 have hT:=hk.typeIs;obtain⟨o,items,n,ho,_,hd,hi⟩:=hk;unfold hashByValue;refine wpAny_bind (wpAny_specialOf hT F.slot_tuple_hash.lookup ?_);dsimp only;refine wpAny_bind (wpAny_seqItems ho hd ?_);dsimp only[Option.getD];refine wpAny_bind ?_;rw[<-Array.forIn_toList];refine wpAny_forIn_list _ (λrest r s'=>r.1=none/\s'=s/\∃ks,ItemsAre (intKind prog w) ks rest) _ ?_ ?_ _ _ ⟨rfl,rfl,ks,hi⟩
 .rintro v rest r s' ⟨hr,rfl,ks',hall⟩
  cases hall with
  |cons h1 h2=>
   obtain⟨t,rfl⟩:=Value.isInt_shape h1;refine wpAny_bind (wpAny_of_eq (a:=true) (by unfold hashByValue;rfl) ?_);simp only[Bool.not_true,Bool.false_eq_true,if_false];exact wpAny_pure ⟨rfl,rfl,_,h2⟩
 .rintro⟨r1,r2⟩ s' ⟨hr,rfl,_⟩
  simp only at hr;subst hr;exact wpAny_pure h
theorem yS{ks:List Int}{a:Addr}{l:List Value}{Q:Bool->Shared->Prop}(hk:IsTupleKey (intKind prog w) s.heap ks a)(hl:∀y∈l,∃kb b,y=Value.ref b/\IsTupleKey (intKind prog w) s.heap kb b)(h:Q false s):wpAny (model prog w) A (searchCouldBeSeen (.ref a) l) Q E s:=by
 unfold searchCouldBeSeen;refine wpAny_bind ?_;refine wpAny_forIn_list _ (λrest r s'=>r.1=none/\s'=s/\∀y∈rest,∃kb b,y=Value.ref b/\IsTupleKey (intKind prog w) s.heap kb b) _ ?_ ?_ _ _ ⟨rfl,rfl,hl⟩
 .rintro v rest r s' ⟨hr,rfl,hall⟩
  have tl:∀y∈rest,∃kb b,y=Value.ref b/\IsTupleKey (intKind prog w) s'.heap kb b:=λy hy=>hall y (mem_cons_of_mem _ hy)
  obtain⟨kb,b,rfl,hb⟩:=hall v mem_cons_self;dsimp only;refine wpAny_ite_split (λ_=>wpAny_pure ⟨rfl,rfl,tl⟩) λ_=>?_
  refine wpAny_bind (wpAny_eqIsQuiet_tuple hk ?_);simp only[Bool.not_true,Bool.false_eq_true,if_false];refine wpAny_bind (wpAny_eqIsQuiet_tuple hb ?_);simp only[Bool.not_true,Bool.false_eq_true,if_false];refine wpAny_bind (kw hk ?_);simp only[Bool.false_eq_true,if_false];refine wpAny_bind (kw hb ?_);simp only[Bool.false_eq_true,if_false];exact wpAny_pure ⟨rfl,rfl,tl⟩
 .rintro⟨r1,r2⟩ s' ⟨hr,rfl,_⟩
  simp only at hr;subst hr;exact wpAny_pure h
end
theorem Ct{M:Nat}(h:vo M):(M%2==0)=false:=by rcases h with rfl|rfl|rfl<;>rfl
section
variable{prog:Program}{w:World}{A:Around}{E:Value->Shared->Prop}{s:Shared}
theorem wS{L:Addr->Prop}(hu:A.units<cLine){a b:Addr}{es:Array (Int×Value)}{ep:Nat}{t:SetTable}(ho:s.heap.get? a=some (dE es ep t))(T:Tab t es)(hf:t.fits es.size=true)(hel:∀e∈es.toList,yc prog w L s.heap e){ks:List Int}(hk:IsTupleKey (intKind prog w) s.heap ks b){N:Nat}(hN:N<10*SetTable.turns t.mask)(n1:¬Lv t (itP t.mask N (stP0 t.mask (tupleKeyHash (intKind prog w) ks))).j)(n2:∀m,m<N->Lv t (itP t.mask m (stP0 t.mask (tupleKeyHash (intKind prog w) ks))).j)
  {Q:SetFound->Shared->Prop} (q1:(∃e∈es.toList,dD s.heap e.2=ks)->Q (.there none) s) (q2:(∀m,m<N->∀(i:Nat) e,t.place[i]? = some (itP t.mask m (stP0 t.mask (tupleKeyHash (intKind prog w) ks))).j->es[i]? = some e->dD s.heap e.2≠ks)->Q (.free (itP t.mask N (stP0 t.mask (tupleKeyHash (intKind prog w) ks))).j false) s):
  ∀(d m fuel:Nat) (stand:Option SetTable.Probe),N-m=d->m<=N->d<fuel->stand.getD (stP0 t.mask (tupleKeyHash (intKind prog w) ks))=itP t.mask m (stP0 t.mask (tupleKeyHash (intKind prog w) ks))->
   (∀m',m'<m->∀(i:Nat) e,t.place[i]? = some (itP t.mask m' (stP0 t.mask (tupleKeyHash (intKind prog w) ks))).j->es[i]? = some e->dD s.heap e.2≠ks)->
   wpAny (model prog w) A (setSearchFrom a (.ref b) (tupleKeyHash (intKind prog w) ks) true fuel stand) Q E s:=by
 generalize hH:tupleKeyHash (intKind prog w) ks=H at *;intro d
 induction d using Nat.strongRecOn with
 |_ d ih=>
  intro m fuel stand hd hm hfu hst hne;cases fuel with
  |zero=>lia
  |succ fuel=>
   unfold setSearchFrom;refine wpAny_bind (wpAny_setState_of ho rfl hf ?_);dsimp only;rw[show t.gaveWay=false from Ct T.m];simp only[Bool.false_eq_true,if_false];have key:∀f:Nat->Int,(∀(i:Nat) e,es[i]? = some e->f i=e.1)->∃k,m+k<=N/\((m+k=N/\t.probe f H (itP t.mask m (stP0 t.mask H))=some (.empty (itP t.mask N (stP0 t.mask H)).j none))\/(m+k<N/\∃(i:Nat) (e:Int×Value),t.place[i]? = some (itP t.mask (m+k) (stP0 t.mask H)).j/\es[i]? = some e/\e.1=H/\t.probe f H (itP t.mask m (stP0 t.mask H))=some (.candidate (itP t.mask (m+k) (stP0 t.mask H)).j i (itP t.mask (m+k+1) (stP0 t.mask H)))))/\∀k',k'<k->∀(i:Nat) e,t.place[i]? = some (itP t.mask (m+k') (stP0 t.mask H)).j->es[i]? = some e->e.1≠H:=λf hfe=>by
    have ee:∀(i j:Nat),t.place[i]? = some j->∃e,es[i]? = some e:=λi j h=>by
     have:=(Array.getElem?_eq_some_iff.mp h).1;rw[T.sz]at this;exact⟨es[i],Array.getElem?_eq_getElem this⟩
    obtain⟨k,k1,k2,k3⟩:=vz (P:=λk=>¬Lv t (itP t.mask (m+k) (stP0 t.mask H)).j\/∃i:Nat,t.place[i]? = some (itP t.mask (m+k) (stP0 t.mask H)).j/\f i=H) (N-m) (.inl (by rw[show m+(N-m)=N by lia];exact n1))
    have hb:∀m',m'<k->∃i:Nat,t.place[i]? = some (itP t.mask m' (itP t.mask m (stP0 t.mask H))).j/\f i≠H:=λm' hm'=>by
     have:=not_or.mp (k3 m' hm');obtain⟨i,hi⟩:=Classical.not_not.mp this.1;exact⟨i,by rw[<-eT];exact hi,λz=>this.2 ⟨i,hi,z⟩⟩
    obtain⟨g1,g2⟩:=vO (t:=t) (f:=f) (h:=H) T.up T.nd k (10*SetTable.turns t.mask) (itP t.mask m (stP0 t.mask H)) (by lia) (DR _ _ _) hb;rw[<-eT]at g1 g2;refine⟨k,by lia,?_,λk' hk' i e hi he z=>?_⟩
    .rcases k2 with z|⟨i,z1,z2⟩
     .left
      have e:m+k=N:=by
       rcases lt_or_ge (m+k) N with q|q
       .exact absurd (n2 _ q) z
       .lia
      refine⟨e,?_⟩;rw[<-e];exact g1 z
     .right
      have lt:m+k<N:=by
       rcases lt_or_ge (m+k) N with q|q
       .exact q
       .rw[show m+k=N by lia]at z1
        exact absurd ⟨i,z1⟩ n1
      obtain⟨e,he⟩:=ee i _ z1;refine⟨lt,i,e,z1,he,by rw[<-hfe i e he];exact z2,?_⟩;have:=g2 i z1 z2;rw[<-eT]at this;exact this
    .exact(not_or.mp (k3 k' hk')).2 ⟨i,hi,by rw[hfe i e he];exact z⟩
   have st0:stand.getD (t.probeStart H)=itP t.mask m (stP0 t.mask H):=hst;rw[st0];generalize hpr:t.probe _ H (itP t.mask m (stP0 t.mask H))=pr;obtain⟨k,k1,k2,k3⟩:=key _ (λi e he=>by
    show(es[i]?.map (·.1)).getD 0=_;rw[he];rfl)
   have hne':∀m',m'<m+k->∀(i:Nat) e,t.place[i]? = some (itP t.mask m' (stP0 t.mask H)).j->es[i]? = some e->dD s.heap e.2≠ks:=λm' hm' i e hi he=>by
    rcases lt_or_ge m' m with q|q
    .exact hne m' q i e hi he
    .have:=k3 (m'-m) (by lia) i e (by rw[show m+(m'-m)=m' by lia];exact hi) he
     intro z;obtain⟨ks',b',e1,e2,_⟩:=hel e (by rw[Array.mem_toList_iff];exact Array.mem_of_getElem? he);subst e1;have z:dD s.heap (.ref b')=ks:=z;rw[dM e2]at z;subst z;exact this hH
   rcases k2 with⟨e,pe⟩|⟨lt,i,e,hi,he,hx,pe⟩
   .rw[hpr.symm.trans pe]
    dsimp only;exact wpAny_pure (q2 (λm' hm'=>hne' m' (by lia)))
   .rw[hpr.symm.trans pe]
    dsimp only;have hem:e∈es.toList:=by rw[Array.mem_toList_iff];exact Array.mem_of_getElem? he
    obtain⟨ks',b',e1,e2,_⟩:=hel e hem;have rest:wpAny (model prog w) A (do
      let some (_,y):=es[i]? | unsupported "internal:set-entry"
      let equal <-holding [y] (eqBool y (.ref b))
      let (es',_,t') <-setState a
      if true&&equal then return .there none
      let some same:=t'.sameMemory t.moves t.mask|unsupported "set.changed-during-lookup:is-the-new-block-at-the-old-address"
      let still <-match (if same then t'.slot (itP t.mask (m+k) (stP0 t.mask H)).j else .empty)with
       |.live i'=>match es'[i']? with
        |some (_,y')=>do pure (if <-isSame y' y then some i' else none)
        |none=>pure none
       |_=>pure none
      match still with
      |none=>rule "set.search.anew";setSearchFrom a (.ref b) H true fuel none
      |some i'=>if equal then return .there (some i')else setSearchFrom a (.ref b) H true fuel (some (itP t.mask (m+k+1) (stP0 t.mask H)))) Q E s:=by
     rw[he];subst e1;dsimp only;refine wpAny_bind (wpAny_holding (wpAny_eqBool_tuple hu e2 hk ?_));refine wpAny_bind (wpAny_setState_of ho rfl hf ?_);dsimp only;by_cases q:ks'=ks
     .rw[decide_eq_true q]
      simp only[Bool.and_self,if_true];exact wpAny_pure (q1 ⟨_,hem,by show dD s.heap (.ref b')=ks;rw[dM e2,q]⟩)
     .rw[decide_eq_false q]
      simp only[Bool.and_false,Bool.false_eq_true,if_false];rw[show t.sameMemory t.moves t.mask=some true by unfold SetTable.sameMemory;simp];dsimp only;simp only[if_true];rw[e9 T.up hi];dsimp only;rw[he];dsimp only;refine wpAny_bind (wpAny_isSame_ref_self (wpAny_bind (wpAny_pure ?_)));simp only[if_true];refine ih (N-(m+k+1)) (by lia) (m+k+1) fuel _ rfl (by lia) (by lia) rfl λm' hm' i' e' hi' he'=>?_
      rcases lt_or_ge m' (m+k)with z|z
      .exact hne' m' z i' e' hi' he'
      .have:m'=m+k:=by lia
       subst this;have s1:=e9 T.up hi;have s2:=e9 T.up hi';rw[s1]at s2;cases s2;rw[he]at he';cases he';intro z;have z:dD s.heap (.ref b')=ks:=z;rw[dM e2]at z;exact q z
    refine wpAny_ite_split (λ_=>?_) λ_=>rest
    refine wpAny_bind (yS hk (λy hy=>?_) ?_)
    .obtain⟨e',he',rfl⟩:=List.mem_map.mp hy
     have:=(Array.mem_filter.mp (Array.mem_toList_iff.mp he')).1;obtain⟨k2,b2,z1,z2,_⟩:=hel e' (Array.mem_toList_iff.mpr this);exact⟨k2,b2,by rw[z1],z2⟩
    .simp only[Bool.false_eq_true,if_false]
     exact rest
end
def bb(ns:List (List Int))(x:List Int):List (List Int):=if x∈ns then ns else ns++[x]
def jg(l:List (List Int)):List (List Int):=l.foldl bb []
def SetK(prog:Program)(w:World)(L:Addr->Prop)(h:Heap)(a:Addr)(kss:List (List Int)):Prop:=∃es ep t,h.get? a=some (dE es ep t)/\Tab t es/\(∀e∈es.toList,yc prog w L h e)/\(es.toList.map λe=>dD h e.2).Perm kss/\kss.length<64/\t.fits es.size=true/\t.led=!w.params.followText "set-order"
section
variable{prog:Program}{w:World}{L:Addr->Prop}{A:Around}{E:Value->Shared->Prop}{s:Shared}
theorem jd{h h':Heap}{ks:List Int}{b:Addr}(x:IsTupleKey (intKind prog w) h ks b)(e:∀o,h.get? b=some o->h'.get? b=some o):IsTupleKey (intKind prog w) h' ks b:=by
 obtain⟨o,items,n,ho,r⟩:=x;exact⟨o,items,n,e o ho,r⟩
theorem yq{h:Heap}{ks:List Int}{a b:Addr}{es:Array (Int×Value)}{ep:Nat}{t:SetTable}(x:IsTupleKey (intKind prog w) h ks b)(ho:h.get? a=some (dE es ep t)):b≠a:=by
 rintro rfl;obtain⟨o,items,n,e,hc,_⟩:=x;rw[ho]at e;cases e;injection hc with z
 exact absurd z (by decide)
theorem lS{h h':Heap}{es:Array (Int×Value)}(hel:∀e∈es.toList,yc prog w L h e)(k:∀(b:Addr) ks,IsTupleKey (intKind prog w) h ks b->L b->∀o,h.get? b=some o->h'.get? b=some o):(∀e∈es.toList,yc prog w L h' e)/\(es.toList.map λe=>dD h' e.2)=es.toList.map λe=>dD h e.2:=by
 refine⟨λe he=>?_,List.map_congr_left λe he=>?_⟩
 .obtain⟨ks,b,e1,e2,e3⟩:=hel e he
  exact⟨ks,b,e1,jd e2 (k b ks e2 e3),e3⟩
 .obtain⟨ks,b,e1,e2,e3⟩:=hel e he
  subst e1;show dD h' (.ref b)=dD h (.ref b);rw[dM e2,dM (jd e2 (k b ks e2 e3))]
theorem SetK.at{h h':Heap}{a:Addr}{kss:List (List Int)}(x:SetK prog w L h a kss)(e:∀b o,L b\/b=a->h.get? b=some o->h'.get? b=some o):SetK prog w L h' a kss:=by
 obtain⟨es,ep,t,ho,T,hel,hp,r⟩:=x;obtain⟨a1,a2⟩:=lS (h':=h') hel λb _ _ hb o=>e b o (.inl hb)
 exact⟨es,ep,t,e a _ (.inr rfl) ho,T,a1,by rw[a2];exact hp,r⟩
theorem F0{t:SetTable}{es:Array (Int×Value)}(T:Tab t es):t.fits es.size=true:=by
 have:=T.few;unfold SetTable.fits SetTable.fill;rw[T.sz,T.nd];simp
 lia
theorem qR{h:Heap}{a:Addr}{es es':Array (Int×Value)}{ep:Nat}{t t':SetTable}{kss:List (List Int)}(ho:h.get? a=some (dE es ep t))(hel:∀e∈es'.toList,yc prog w L h e)(hp:(es'.toList.map λe=>dD h e.2).Perm kss)(T:Tab t' es')(hl:kss.length<64)(hled:t'.led=!w.params.followText "set-order"):SetK prog w L (h.update a (Obj.putSet es' t')) a kss:=by
 have g:=Heap.get?_update_self (Obj.putSet es' t') ho (by rw[putSet_of es' t' rfl];rfl);rw[putSet_of es' t' rfl]at g;obtain⟨a1,a2⟩:=lS (h':=h.update a (Obj.putSet es' t')) hel λb ks x _ o e=>aZ (yq x ho) e
 exact⟨es',ep+1,t',g,T,a1,by rw[a2];exact hp,hl,F0 T,hled⟩
theorem IL{t:SetTable}{n:Nat}(hm:vo t.mask)(hf:n*5<t.mask*3)(hn:n+1<64)(ht:t.mask*3<=(n+1)*5):vo (SetTable.sizeAbove (SetTable.grown (n+1))-1)/\n+1<SetTable.sizeAbove (SetTable.grown (n+1))-1+1/\(n+1)*5<(SetTable.sizeAbove (SetTable.grown (n+1))-1)*3/\¬SetTable.sizeAbove (SetTable.grown (n+1))>sizeLine:=by
 rcases hm with e|e|e<;>rw[e]at hf ht
 .have:n=4:=by lia
  subst this;exact⟨.inr (.inl rfl),by decide,by decide,by rw[sizeLine_eq];decide⟩
 .have:n=18:=by lia
  subst this;exact⟨.inr (.inr rfl),by decide,by decide,by rw[sizeLine_eq];decide⟩
 .lia
theorem y7{a:Addr}{es:Array (Int×Value)}{ep:Nat}{t:SetTable}{n:Nat}{Q:Unit->Shared->Prop}(ho:s.heap.get? a=some (dE es ep t))(hf:t.fits es.size=true)(hn:es.size=n+1)(hm:vo t.mask)(h1:n*5<t.mask*3)(h2:n+1<64)(h3:t.mask*3<=(n+1)*5)
  (h:∀es' t',Tab t' es'->List.Perm es'.toList es.toList->t'.led=t.led->Q () {s with heap:=s.heap.update a (Obj.putSet es' t')}):wpAny (model prog w) A (setRelay a (SetTable.grown (n+1))) Q E s:=by
 obtain⟨b1,b2,b3,b4⟩:=IL hm h1 h2 h3;obtain⟨t',order,e,T,p,l⟩:=wY (t:=t) (es:=es) b1 (by rw[hn];exact b2) (by rw[hn];exact b3);have psz:(order.filterMap λi=>es[i]?).size=es.size:=by
  have:=p.length_eq;rw[length_toList,length_toList]at this;exact this
 unfold setRelay;refine wpAny_bind (wpAny_setState_of ho rfl hf ?_);dsimp only;rw[if_neg b4,e];refine wpAny_bind (wpAny_of_eq (a:=(order.filterMap λi=>es[i]?,t')) ?_ ?_)
 .show(if((order.filterMap λi=>es[i]?).size != es.size)=true then _ else _)=_
  rw[if_neg (by simp[psz])]
 .dsimp only
  exact wpAny_storeSet_of ho rfl (h _ _ T p l) (by rw[psz,hn,sizeLine_eq];lia)
theorem yR(hu:A.units<cLine){a b:Addr}{ks:List Int}{kss:List (List Int)}{Q:Bool->Shared->Prop}(hS:SetK prog w L s.heap a kss)(hk:IsTupleKey (intKind prog w) s.heap ks b)(hbL:L b)(hroom:kss.length+1<64)
  (h:∀h' r,Heap.SameBut a s.heap h'->SetK prog w L h' a (bb kss ks)->Q r {s with heap:=h'}):wpAny (model prog w) A (setAddHashed a (.ref b) (tupleKeyHash (intKind prog w) ks)) Q E s:=by
 have hS0:=hS;obtain⟨es,ep,t,ho,T,hel,hp,hb,hf,hled⟩:=hS;have hsz:es.size=kss.length:=by
  have:=hp.length_eq;rw[length_map,length_toList]at this;exact this
 have few:=T.few;obtain⟨N,n0,n1,n2⟩:=ur T.m T.sz (by lia) (tupleKeyHash (intKind prog w) ks);have n3:N<100000:=by
  have:10*SetTable.turns t.mask<100000:=by rcases T.m with e|e|e<;>rw[e]<;>decide
  lia
 unfold setAddHashed;refine wpAny_holding ?_;unfold setAddHashedIn;refine wpAny_bind (wpAny_setState_of ho rfl hf ?_);dsimp only;rw[show byScan (.ref b) es=false from rfl];simp only[Bool.false_eq_true,if_false];unfold setSearch;refine wpAny_bind (wS hu ho T hf hel hk n0 n1 n2 (λhex=>?there) (λhno=>?free) N 0 100000 none rfl (zero_le _) n3 rfl λm' hm'=>by lia)
 case there=>
  obtain⟨e,he,q⟩:=hex;have hin:ks∈kss:=hp.mem_iff.mp (List.mem_map.mpr ⟨e,he,q⟩);have e:bb kss ks=kss:=if_pos hin;rw[e]at h;exact wpAny_pure (h s.heap _ (Heap.SameBut.refl a s.heap) hS0)
 case free=>
  have hin:ks∉kss:=λz=>by
   obtain⟨e,he,q⟩:=List.mem_map.mp (hp.mem_iff.mpr z);obtain⟨i,hi⟩:=List.mem_iff_getElem?.mp he;rw[getElem?_toList]at hi;have lt:=(Array.getElem?_eq_some_iff.mp hi).1;have hpl:t.place[i]? = some t.place[i]!:=by rw[Array.getElem?_eq_getElem (by rw[T.sz];exact lt)];simp[T.sz,lt]
   obtain⟨n,r1,r2⟩:=T.rc i _ e hpl hi;obtain⟨ks',b',e1,e2,_⟩:=hel e he;subst e1;have q:dD s.heap (.ref b')=ks:=q;rw[dM e2]at q;subst q;have hn:n<N:=by
    rcases Nat.lt_trichotomy n N with z|z|z
    .exact z
    .subst z
     exact absurd ⟨i,by rw[r1];exact hpl⟩ n1
    .exact absurd (r2 N z) n1
   exact hno n hn i _ (by rw[r1];exact hpl) hi (by show dD s.heap (.ref b')=_;exact dM e2)
  have e:bb kss ks=kss++[ks]:=if_neg hin;rw[e]at h;dsimp only;refine wpAny_bind (wpAny_setState_of ho rfl hf ?_);dsimp only;generalize hH:tupleKeyHash (intKind prog w) ks=H at *;have hj:(itP t.mask N (stP0 t.mask H)).j<t.mask+1:=Ao _ _ _;have pd:(t.put (itP t.mask N (stP0 t.mask H)).j).1.dummies = #[]:=by
   show(if SetTable.has t.dummies _ then _ else t.dummies) = #[];rw[T.nd];simp[SetTable.has]
  have hpm:List.Perm (SetTable.insertAt es (SetTable.below t.place (itP t.mask N (stP0 t.mask H)).j) (H,Value.ref b)).toList (es.toList++[(H,Value.ref b)]):=by
   have:=SetTable.insertAt_perm es (SetTable.below t.place (itP t.mask N (stP0 t.mask H)).j) (H,Value.ref b)
   rwa [Array.toList_push]at this
  have el1:∀e∈(SetTable.insertAt es (SetTable.below t.place (itP t.mask N (stP0 t.mask H)).j) (H,Value.ref b)).toList,yc prog w L s.heap e:=λe he=>by
   rcases List.mem_append.mp (hpm.mem_iff.mp he)with z|z
   .exact hel e z
   .rw[List.mem_singleton.mp z];exact⟨ks,b,by rw[hH],hk,hbL⟩
  have pm1:((SetTable.insertAt es (SetTable.below t.place (itP t.mask N (stP0 t.mask H)).j) (H,Value.ref b)).toList.map λe=>dD s.heap e.2).Perm (kss++[ks]):=(hpm.map _).trans (by
   rw[List.map_append];refine(hp.append_right _).trans ?_;show(kss++[dD s.heap (.ref b)]).Perm _;rw[dM hk])
  have sz1:(SetTable.insertAt es (SetTable.below t.place (itP t.mask N (stP0 t.mask H)).j) (H,Value.ref b)).size=es.size+1:=fL _ _ _;have ln1:(kss++[ks]).length<64:=by simpa using hroom
  refine wpAny_ite_split (λ_=>wpAny_bind (sO hk ?_)) (λ_=>wpAny_bind (wpAny_pure ?_))
  all_goals
   simp only[if_true];refine wpAny_bind (wpAny_storeSet_of ho rfl ?_ (by rw[show SetTable.insertAt es (t.put (itP t.mask N (stP0 t.mask H)).j).2 (H,Value.ref b)=SetTable.insertAt es (SetTable.below t.place (itP t.mask N (stP0 t.mask H)).j) (H,Value.ref b)from rfl,sz1,sizeLine_eq];lia));have g:=Heap.get?_update_self (Obj.putSet (SetTable.insertAt es (SetTable.below t.place (itP t.mask N (stP0 t.mask H)).j) (H,Value.ref b)) (t.put (itP t.mask N (stP0 t.mask H)).j).1) ho (by rw[putSet_of _ _ rfl];rfl);rw[putSet_of _ _ rfl]at g;have tf:(t.put (itP t.mask N (stP0 t.mask H)).j).1.tooFull=decide ((es.size+1)*5>=t.mask*3):=by
    unfold SetTable.tooFull SetTable.fill;rw[pd,cN,fL,T.sz];rfl
   by_cases full:(es.size+1)*5>=t.mask*3
   .rw[tf,decide_eq_true full]
    simp only[Bool.not_false,Bool.and_self,if_true];have fit1:(t.put (itP t.mask N (stP0 t.mask H)).j).1.fits (SetTable.insertAt es (SetTable.below t.place (itP t.mask N (stP0 t.mask H)).j) (H,Value.ref b)).size=true:=by
     unfold SetTable.fits SetTable.fill;rw[pd,cN,fL,sz1,T.sz,ze];simp
     lia
    refine wpAny_bind (y7 (n:=es.size) (s:={s with heap:=s.heap.update a (Obj.putSet (SetTable.insertAt es (SetTable.below t.place (itP t.mask N (stP0 t.mask H)).j) (H,Value.ref b)) (t.put (itP t.mask N (stP0 t.mask H)).j).1)}) g fit1 sz1 T.m few (by lia) full λes2 t2 T2 p2 l2=>wpAny_pure (h _ _ ((Heap.SameBut.update _ a _).trans (Heap.SameBut.update _ a _)) ?_))
    obtain⟨a1,a2⟩:=lS (h':=s.heap.update a (Obj.putSet (SetTable.insertAt es (SetTable.below t.place (itP t.mask N (stP0 t.mask H)).j) (H,Value.ref b)) (t.put (itP t.mask N (stP0 t.mask H)).j).1)) el1 λb ks x _ o e=>aZ (yq x ho) e
    exact qR g (λe he=>a1 e (p2.mem_iff.mp he)) ((p2.map _).trans (by rw[a2];exact pm1)) T2 ln1 (l2.trans hled)
   .rw[tf,decide_eq_false full]
    simp only[Bool.and_false,Bool.false_eq_true,if_false];exact wpAny_pure (h _ _ (Heap.SameBut.update _ a _) (qR ho el1 pm1 (T.put n1 n2 (by lia) rfl rfl pd) ln1 hled))
end
theorem tM(ns:List (List Int))(x:List Int):(bb ns x).length<=ns.length+1:=by
 unfold bb;split
 .lia
 .simp
theorem qQ:∀(l ns:List (List Int)),(l.foldl bb ns).length<=ns.length+l.length
 |[],ns=>by simp
 |x::l,ns=>by
  have h1:=qQ l (bb ns x);have h2:=tM ns x;show(l.foldl bb (bb ns x)).length<=_;rw[length_cons]
  lia
theorem wP{ns:List (List Int)}{i:Nat}{k:List Int}(h:ns[i]? = some k):jg (ns.take (i+1))=bb (jg (ns.take i)) k:=by
 unfold jg;rw[List.take_succ,h,List.foldl_append];rfl
theorem setK_fresh{prog:Program}{w:World}{L:Addr->Prop}{h:Heap}:SetK prog w L (h.push (aA (!w.params.followText "set-order"))) h.objs.size []:=
 ⟨#[],0,_,get?_push_size _ rfl,⟨.inl rfl,λi j hi=>absurd hi (by simp[SetTable.fresh]),rfl,rfl,λi j e=>by simp[SetTable.fresh]at e,(by show 0*5<7*3;decide),λi j e h1=>by simp[SetTable.fresh]at h1⟩,λe he=>by simp at he,.refl _,by decide,rfl,rfl⟩
section
variable{prog:Program}{w:World}{A:Around}{R:Result->Shared->Prop}{I:Addr}{fp wr:List Addr}{G:Array GenState->Array GenState->Prop}{n:Nat}{P:Nat->Value->Prop}{St:Nat->Shared->Prop}
theorem oa(W:WalksS prog w A.in1 I fp wr G n P St)(hu:A.units+1<cLine)(S:Addr)(hSf:S∉fp){L:Addr->Prop}(hLw:∀b∈S::wr,¬L b){h0:Heap}(kss:List (List Int))(hn:kss.length=n)(hP:∀i v,P i v->∃ks b,kss[i]? = some ks/\v=.ref b/\L b/\IsTupleKey (intKind prog w) h0 ks b)(hz:n+1<64):
  ∀(k i:Nat) (s:Shared),n-i=k->i<=n->St i s->(∀b o,L b->h0.get? b=some o->s.heap.get? b=some o)->SetK prog w L s.heap S (jg (kss.take i))->(∀s',Moved (S::wr) G s s'->SetK prog w L s'.heap S (jg kss)->R (.ok (.ret .none)) s')->
   codeAny (model prog w) A (.builtin "set.update.loop" ⟨[.ref S,.ref I],[]⟩) R s:=by
 have nw:S∉wr:=λh=>hSf (W.sub _ h)
 have up:∀b∈wr,b∈S::wr:=λb hb=>mem_cons_of_mem _ hb
 have low:∀b,L b->b∉wr:=λb hb z=>hLw b (up b z) hb
 have lowS:∀b,L b->b≠S:=λb hb z=>hLw S mem_cons_self (z ▸ hb)
 intro k
 induction k with
 |zero=>
  intro i s hk hi hst kp hS hR;have e:i=n:=by lia
  subst e;refine codeAny_builtin F.entry_set_update_loop ?_;rw[Around.under_plainId F.plain_set_update_loop _];refine wpAny_bind (m:=pyNext (.ref I)) (W.done s _ _ hst λs' hm=>?_);rw[<-hn,List.take_length]at hS;exact wpAny_pure (hR s' (hm.mono up) (hS.at λb o hb e=>hm.heap b o (hb.elim (low b) λz=>z ▸ nw) e))
 |succ k ih=>
  intro i s hk hi hst kp hS hR;have hlt:i<n:=by lia
  refine codeAny_builtin F.entry_set_update_loop ?_;rw[Around.under_plainId F.plain_set_update_loop _];refine wpAny_bind (m:=pyNext (.ref I)) (W.item i s _ _ hlt hst λv s' hPv hst' hm=>?_);obtain⟨ks,b,hx,rfl,hb,hk0⟩:=hP i v hPv;have hS':=hS.at λb o hb e=>hm.heap b o (hb.elim (low b) λz=>z ▸ nw) e
  have kp':∀b o,L b->h0.get? b=some o->s'.heap.get? b=some o:=λb o hb e=>hm.heap b o (low b hb) (kp b o hb e)
  have hk1:IsTupleKey (intKind prog w) s'.heap ks b:=jd hk0 λo e=>kp' b o hb e
  refine wpAny_bind (m:=holding [Value.ref b] (setAdd S (.ref b))) (wpAny_holding ?_);unfold setAdd;refine wpAny_holding (wpAny_bind (wpAny_pyHash_tuple (knd:=intKind prog w) (ks:=ks) hu hk1 ?_));have ln:(jg (kss.take i)).length<=i:=by
   have:=qQ (kss.take i) [];rw[List.length_take]at this;unfold jg;simp only[List.length_nil]at this
   lia
  refine yR (s:={s' with toks:=s'.toks+(ks.length+1)}) hu hS' hk1 hb (by lia) λh' r hsb hS2=>?_
  rw[<-wP hx]at hS2;refine wpAny_pure ⟨plainId_quiet F.plain_set_update_loop _,ih (i+1) _ (by lia) hlt (W.frame _ s' _ _ hst' (Nat.le_add_right _ _) λb hb o e=>?_) (λb o hb e=>?_) hS2 λs'' hm'' hS''=>?_⟩
  .rw[hsb.2 b (λz=>hSf (z ▸ hb))];exact e
  .show h'.get? b=some o
   rw[hsb.2 b (lowS b hb)];exact kp' b o hb e
  .refine hR s'' (Moved.trans W.gtrans ((hm.mono up).then_heap (Nat.le_add_right _ _) λb o hb e=>?_) hm'') hS''
   rw[hsb.2 b (λz=>hb (z ▸ mem_cons_self))];exact e
end
section
variable{prog:Program}{w:World}{A:Around}{E:Value->Shared->Prop}{s:Shared}
theorem nK(hu:A.units+64<cLine){l:Addr}{items:Array Value}{kss:List (List Int)}{Q:Value->Shared->Prop}(hh:A.handled=none)(hl:s.heap.IsList l items\/s.heap.IsTuple l items)(hn:kss.length=items.size)(hi:∀(i:Nat) v,items[i]? = some v->∃ks b,kss[i]? = some ks/\v=.ref b/\IsTupleKey (intKind prog w) s.heap ks b)(hb:items.size+1<64)
  (h:∀(h':Heap) (tk:Nat),SetK prog w (λb=>b<s.heap.objs.size/\Value.ref b∈items.toList) h' s.heap.objs.size (jg kss)->(∀b o,s.heap.get? b=some o->h'.get? b=some o)->Q (.ref s.heap.objs.size) {s with heap:=h',toks:=tk}):wpAny (model prog w) A (call (.type "set") [.ref l]) Q E s:=by
 have hP:∀(i:Nat) v,items[i]? = some v->∃ks b,kss[i]? = some ks/\v=.ref b/\(b<s.heap.objs.size/\Value.ref b∈items.toList)/\IsTupleKey (intKind prog w) s.heap ks b:=λi v e=>by
  obtain⟨ks,b,h1,h2,h3⟩:=hi i v e;exact⟨ks,b,h1,h2,⟨by obtain⟨o,_,_,ho,_⟩:=h3;exact lt_size ho,by rw[<-h2,Array.mem_toList_iff];exact Array.mem_of_getElem? e⟩,h3⟩
 refine iJ λA' hA hU=>?_
 have hh':A'.handled=none:=hA.trans hh;have hu':A'.units+1<cLine:=by lia
 have fin:∀(s':Shared) (I:Addr) (o:Obj),Moved [s.heap.objs.size,I] (λa b=>b=a) {s with heap:=(s.heap.push (aA (!w.params.followText "set-order"))).push o} s'->I=(s.heap.push (aA (!w.params.followText "set-order"))).objs.size->SetK prog w (λb=>b<s.heap.objs.size/\Value.ref b∈items.toList) s'.heap s.heap.objs.size (jg kss)->Q (.ref s.heap.objs.size) s':=λs' I o hm hI hS=>by
  obtain⟨h',g',d',tk',os'⟩:=s';have eg:g'=s.gens:=hm.gens;have ed:d'=s.drawn:=hm.drawn;have eo:os'=s.os:=hm.os;subst eg ed eo;refine h h' tk' hS λb o' e=>?_
  have lt:=lt_size e;refine hm.heap b o' ?_ (get?_push_of_some _ (get?_push_of_some _ e));rw[hI,size_push];simp only[mem_cons,not_mem_nil,or_false,not_or];exact⟨ne_of_lt lt,ne_of_lt (Nat.lt_succ_of_lt lt)⟩
 have hLw:∀b∈[s.heap.objs.size,(s.heap.push (aA (!w.params.followText "set-order"))).objs.size],¬(b<s.heap.objs.size/\Value.ref b∈items.toList):=λb hb=>by
  rw[size_push]at hb;simp only[mem_cons,not_mem_nil,or_false]at hb;rcases hb with rfl|rfl
  .exact λz=>Nat.lt_irrefl _ z.1
  .exact λz=>Nat.not_succ_le_self _ (Nat.le_of_lt z.1)
 rcases hl with hl|hl
 .obtain⟨ol,hol,hcl,nl,hdl⟩:=hl
  obtain⟨ocls,odict,odata,oslots⟩:=ol;simp only at hcl hdl;subst hcl hdl;have lt:=lt_size hol;have hol':=get?_push_of_some (aA (!w.params.followText "set-order")) hol;have f1:=F.sub_list_set;have f2:=F.sub_list_frozenset;have f3:(Value.type "list" == Value.type "dict")=false:=by decide
  have hl1:(s.heap.push (aA (!w.params.followText "set-order"))).IsList l items:=⟨_,hol',rfl,nl,rfl⟩;unfold Builtin.Frozenset.updateFrom;generalize hPI:pyIter=PI
  wp_walk
  subst hPI;refine wpAny_pyIter_list hl1 ?_;refine wpAny_bind (wpAny_runValue ?_);have ne:l≠(s.heap.push (aA (!w.params.followText "set-order"))).objs.size:=by rw[size_push];exact ne_of_lt (Nat.lt_succ_of_lt lt)
  have nf:s.heap.objs.size∉[(s.heap.push (aA (!w.params.followText "set-order"))).objs.size,l]:=by
   rw[size_push];simp only[mem_cons,not_mem_nil,or_false,not_or];exact⟨ne_of_lt (Nat.lt_succ_self _),Nat.ne_of_gt lt⟩
  refine oa ((Walks.list (by simpa using hh') _ l ne items).toS) hu' s.heap.objs.size nf hLw kss hn hP hb items.size 0 _ (by lia) (zero_le _) ⟨⟨_,get?_push_size _ rfl,rfl,rfl⟩,hl1.push _⟩ (λb o _ e=>get?_push_of_some _ (get?_push_of_some _ e)) (setK_fresh.at λb o _ e=>get?_push_of_some _ e) λs' hm hS=>?_
  exact wpAny_pure ((fin s' _ _ hm rfl hS))
 .obtain⟨ol,hol,hcl,nl,hdl⟩:=hl
  obtain⟨ocls,odict,odata,oslots⟩:=ol;simp only at hcl hdl;subst hcl hdl;have lt:=lt_size hol;have hol':=get?_push_of_some (aA (!w.params.followText "set-order")) hol;have f1:=iD;have f2:=dJ;have f3:(Value.type "tuple" == Value.type "dict")=false:=by decide
  have hl1:(s.heap.push (aA (!w.params.followText "set-order"))).IsTuple l items:=⟨_,hol',rfl,nl,rfl⟩;unfold Builtin.Frozenset.updateFrom;generalize hPI:pyIter=PI
  wp_walk
  subst hPI;refine wpAny_pyIter_tuple hl1 ?_;refine wpAny_bind (wpAny_runValue ?_);have ne:l≠(s.heap.push (aA (!w.params.followText "set-order"))).objs.size:=by rw[size_push];exact ne_of_lt (Nat.lt_succ_of_lt lt)
  have nf:s.heap.objs.size∉[(s.heap.push (aA (!w.params.followText "set-order"))).objs.size,l]:=by
   rw[size_push];simp only[mem_cons,not_mem_nil,or_false,not_or];exact⟨ne_of_lt (Nat.lt_succ_self _),Nat.ne_of_gt lt⟩
  refine oa ((Walks.tuple (by simpa using hh') _ l ne items).toS) hu' s.heap.objs.size nf hLw kss hn hP hb items.size 0 _ (by lia) (zero_le _) ⟨⟨_,get?_push_size _ rfl,rfl,rfl⟩,hl1.push _⟩ (λb o _ e=>get?_push_of_some _ (get?_push_of_some _ e)) (setK_fresh.at λb o _ e=>get?_push_of_some _ e) λs' hm hS=>?_
  exact wpAny_pure ((fin s' _ _ hm rfl hS))
end
section
variable{prog:Program}{w:World}{A:Around}{E:Value->Shared->Prop}{s:Shared}
theorem rY{h:Heap}:∀{vs:List Value} {ks:List (List aw)},KAts h vs ks->ks.length=vs.length
 |_,_,.nil=>rfl
 |_,_,.cons _ r=>by rw[length_cons,length_cons,rY r]
theorem iq{h:Heap}:∀{vs:List Value} {ks:List (List aw)} {i:Nat},KAts h vs ks->i<vs.length->KAt h (vs.getD i Value.none) (ks.getD i [])
 |_,_,i,.nil,hi=>absurd hi (Nat.not_lt_zero _)
 |_,_,0,.cons x r,hi=>x
 |_,_,i+1,.cons x r,hi=>by
  have:=iq (i:=i) r (Nat.lt_of_succ_lt_succ hi);exact this
theorem oF{h:Heap}{f:Nat->Value}{g:Nat->List aw}:∀(l:List Nat),(∀i∈l,KAt h (f i) (g i))->KAts h (l.map f) (l.map g)
 |[],_=>.nil
 |i::l,H=>.cons (H i mem_cons_self) (oF l λj hj=>H j (mem_cons_of_mem _ hj))
theorem qW{α:Type}(l:List α)(d:α):(List.range l.length).map (λi=>l.getD i d)=l:=by
 apply List.ext_getElem?;intro k;by_cases hk:k<l.length
 .simp[hk,List.getD_eq_getElem?_getD]
 .simp[hk]
theorem CU{α:Type}{l:List α}{i:Nat}{d:α}(hi:i<l.length):l.getD i d∈l:=by
 rw[List.getD_eq_getElem?_getD,List.getElem?_eq_getElem hi];exact List.getElem_mem hi
theorem jW{a:Addr}{vs:List Value}{ks:List (List aw)}{n:Nat}{P:PySem.Fin->Shared->Prop}(ho:s.heap.get? a=some (seqObj "list" vs.toArray n))(x:KAts s.heap vs ks)(hk:(ks.all nX||ks.all uL)=true)(nd:ks.Nodup)(h64:vs.length<64)
  (h:∀out:List Value,out.Perm vs->KAts s.heap out (dc ks)->P (.done (.ret .none)) {s with heap:=sortedHeap s.heap a vs out.toArray}):
  wpAny (model prog w) A (Builtin.«list.sort» ⟨[.ref a],[]⟩) P E s:=by
 have hc:∀x∈ks,∀y∈ks,fN x y=true:=λx hx y hy=>by
  rcases Bool.or_eq_true_iff.mp hk with q|q
  .exact yr (List.all_eq_true.mp q x hx) (List.all_eq_true.mp q y hy)
  .exact Dh (List.all_eq_true.mp q x hx) (List.all_eq_true.mp q y hy)
 obtain⟨b,hb⟩:∃b:Bool,∀k∈ks,(if b then nX k else uL k)=true:=by
  rcases Bool.or_eq_true_iff.mp hk with q|q
  .exact⟨true,λk m=>List.all_eq_true.mp q k m⟩
  .exact⟨false,λk m=>List.all_eq_true.mp q k m⟩
 have ln:=rY x;have kin:∀{i},i<vs.length->ks.getD i []∈ks:=λhi=>CU (by lia)
 have rk:∀{i j},i<vs.length->decide (gz ks (ks.getD i [])<gz ks (ks.getD j []))=cZ (ks.getD i []) (ks.getD j []):=λhi=>zc (kin hi)
 refine iG (key:=λi=>gz ks (ks.getD i [])) ho (λh'=>∀(b:Addr) (o:Obj),o.cls=.type "tuple" -> s.heap.get? b=some o->h'.get? b=some o) (λ_ _ _ e=>e)
  (λh1 h2 (p:∀(b:Addr) (o:Obj),o.cls=.type "tuple" -> s.heap.get? b=some o->h1.get? b=some o) kp b o (ec:o.cls=.type "tuple") e=>kp b o ec (p b o ec e)) (T:=Gx b) (by cases b<;>decide) (by cases b<;>decide) (λh' kp=>(x.keeps kp).tups hb)
  (λs' kp i j hi hj hij C hC=>?_) (λi j hi hj e=>?_) h64 λp hp hu=>?_
 .have hC:C (decide (gz ks (ks.getD i [])<gz ks (ks.getD j []))) s':=hC
  rw[rk hi]at hC;exact Ep ((iq x hi).keeps kp) ((iq x hj).keeps kp) (hc _ (kin hi) _ (kin hj)) hC
 .have e:gz ks (ks.getD i [])=gz ks (ks.getD j []):=e
  have e1:=rk (j:=j) hi;have e2:=rk (j:=i) hj;rw[decide_eq_false (by lia)]at e1 e2;have q:ks.getD i []=ks.getD j []:=rR e2.symm e1.symm;rw[List.getD_eq_getElem?_getD,List.getD_eq_getElem?_getD,List.getElem?_eq_getElem (by lia:i<ks.length),List.getElem?_eq_getElem (by lia:j<ks.length)]at q;exact(List.getElem_inj nd).mp q
 .have pm:=hp.perm
  have m:∀i∈p.toList,i<vs.length:=λi hi=>List.mem_range.mp (pm.mem_iff.mp hi)
  refine h _ ?_ ?_
  .have:=pm.map λi=>vs.getD i Value.none
   rwa [qW]at this
  .have ko:=oF (h:=s.heap) (f:=λi=>vs.getD i Value.none) (g:=λi=>ks.getD i []) p.toList λi hi=>iq x (m i hi)
   have kp:=pm.map λi=>ks.getD i []
   rw[<-ln,qW]at kp;have e:p.toList.map (λi=>ks.getD i [])=dc ks:=by
    refine jZ kp (List.pairwise_map.mpr (List.pairwise_iff_getElem.mpr λi j hi hj hij=>?_));have hz:=hp.size;have hi':i<p.size:=by simpa using hi
    have hj':j<p.size:=by simpa using hj
    have u:=hu i j hij (by lia);have g1:p.getD i 0=p.toList[i]:=by simp[Array.getD,hi']
    have g2:p.getD j 0=p.toList[j]:=by simp[Array.getD,hj']
    have u:gz ks (ks.getD (p.getD i 0) [])<gz ks (ks.getD (p.getD j 0) []):=u;rw[g1,g2]at u;have q:=rk (j:=p.toList[i]) (m _ (List.getElem_mem hj));rw[decide_eq_false (by lia)]at q;exact q.symm
   rw[e]at ko;exact ko
end
def Ib:D->Option (List Int)
 |.tuple ds=>kO ds
 |_=>none
def mi:List D->Option (List (List Int))
 |[]=>some []
 |d::r=>(Ib d).bind λk=>(mi r).bind λl=>some (k::l)
def bP(k:List Int):List aw:=k.map Sum.inl
def qJ(d:D):Option D:=(aV d).bind λds=>(mi ds).bind λkss=>if kss.length<63/\(∀k∈kss,k≠[])then some (.list ((dc ((jg kss).map bP)).map λk=>.tuple (k.map jy)))else none
section
variable{prog:Program}{w:World}
theorem rV:∀{ks:List Int} {vs:List Value},KVals (bP ks) vs->ItemsAre (intKind prog w) ks vs
 |[],_,.nil=>.nil
 |k::ks,_,.cons h r=>by
  obtain⟨t,rfl⟩:=h;exact .cons (intKind_is prog w k t) (rV r)
theorem rZ:∀{ks:List Int} {vs:List Value},ItemsAre (intKind prog w) ks vs->KVals (bP ks) vs
 |_,_,.nil=>.nil
 |_,_,.cons h r=>by
  obtain⟨t,rfl⟩:=Value.isInt_shape h;exact .cons ⟨t,rfl⟩ (rZ r)
theorem CL{h:Heap}{ks:List Int}{b:Addr}(x:KAt h (.ref b) (bP ks)):IsTupleKey (intKind prog w) h ks b:=by
 obtain⟨b',o,xs,n,e,e1,e2,e3,e4⟩:=x;cases e;exact⟨o,xs,n,e1,e2,e3,rV e4⟩
theorem BB{h:Heap}{ks:List Int}{b:Addr}(x:IsTupleKey (intKind prog w) h ks b):KAt h (.ref b) (bP ks):=by
 obtain⟨o,xs,n,e1,e2,e3,e4⟩:=x;exact⟨b,o,xs,n,rfl,e1,e2,e3,rZ e4⟩
end
theorem rX{h:Heap}{f:Value->List aw}:∀{vs:List Value},(∀v∈vs,KAt h v (f v))->KAts h vs (vs.map f)
 |[],_=>.nil
 |v::vs,H=>.cons (H v mem_cons_self) (rX λu hu=>H u (mem_cons_of_mem _ hu))
theorem vD{h:Heap}:∀{vs:List Value} {ks:List (List aw)},KAts h vs ks->ks.length=vs.length/\∀(i:Nat) v,vs[i]? = some v->∃k,ks[i]? = some k/\KAt h v k
 |_,_,.nil=>⟨rfl,λi v e=>by simp at e⟩
 |_,_,.cons x r=>by
  obtain⟨a,b⟩:=vD r;refine⟨by rw[length_cons,length_cons,a],λi v e=>?_⟩
  cases i with
  |zero=>cases e;exact⟨_,rfl,x⟩
  |succ i=>exact b i v e
theorem Bm{k:List Int}(h:k≠[]):uL (bP k)=true:=by
 cases k with
 |nil=>exact absurd rfl h
 |cons x k=>
  show(bP k).all FU=true;exact List.all_eq_true.mpr λy hy=>by obtain⟨z,_,rfl⟩:=List.mem_map.mp hy;rfl
theorem qP:∀(l ns:List (List Int)) (x:List Int),x∈l.foldl bb ns->x∈ns\/x∈l
 |[],ns,x,h=>.inl h
 |y::l,ns,x,h=>by
  rcases qP l _ x h with z|z
  .unfold bb at z
   split at z
   .exact .inl z
   .rcases List.mem_append.mp z with q|q
    .exact .inl q
    .rw[List.mem_singleton.mp q];exact .inr mem_cons_self
  .exact .inr (mem_cons_of_mem _ z)
theorem qO:∀(l ns:List (List Int)),ns.Nodup->(l.foldl bb ns).Nodup/\(l.foldl bb ns).length<=ns.length+l.length
 |[],ns,h=>⟨h,le_refl _⟩
 |y::l,ns,h=>by
  have q:(bb ns y).Nodup/\(bb ns y).length<=ns.length+1:=by
   unfold bb;split
   .exact⟨h,Nat.le_succ _⟩
   .rename_i z
    refine⟨List.nodup_append.mpr ⟨h,List.pairwise_singleton _ _,λa ha b hb e=>z ?_⟩,by rw[length_append];exact le_refl _⟩
    rw[<-List.mem_singleton.mp hb,<-e];exact ha
  obtain⟨a,b⟩:=qO l _ q.1;have q2:=q.2;refine⟨a,?_⟩;show(l.foldl bb (bb ns y)).length<=_;rw[length_cons]
  lia
section
variable{X:Cx}
theorem qM(hc:X.calm=true){pins:List (Addr×Obj)}{σ:St}{H Z:Hp}{s:Shared}{a:Addr}{kss:List (List Int)}{L:Addr->Prop}{Q:VK}(I:Inv X pins σ H s)(zh:Same Z H)(hS:SetK X.prog X.w L s.heap a kss)(hne:∀k∈kss,k≠[])(hnd:kss.Nodup)(h63:kss.length<64)(hL:∀b,L b->∃k:List aw,SqT X.K Z b (k.map uf))
  (q:∀vs',KeyVs X.K Z vs' (dc (kss.map bP))->∀l,H l=none->Q (.ref l) (upd H l (.lst vs'))):
  wpAny (model X.prog X.w) X.A (call (.builtin "sorted") [.ref a]) (EP X pins σ Q) X.xe s:=by
 obtain⟨es,ep,t,ho,T,hel,hp,hb,hf,hled⟩:=hS;have hsz:es.size=kss.length:=by
  have:=hp.length_eq;rw[length_map,length_toList]at this;exact this
 refine Calls.call_function_entry kind_sorted plain_sorted entry_sorted (args_sorted1 _) ?_;unfold Builtin.«sorted»;refine wpAny_bind (m:=checkCount "sorted" 1 1 _) (wpAny_pure ?_);refine wpAny_bind (jH (I.ok.hd hc) ho (by unfold scanBound;lia) hf ⟨hled,λ_=>T.up⟩ λh' d tk acc hk' pm=>?_)
 have hln:acc.length=kss.length:=by rw[pm.length_eq,length_map,length_toList,hsz]
 have hz:acc.length<=sizeLine:=by rw[hln,sizeLine_eq];lia
 refine wpAny_bind (wpAny_newList ?_ hz);have hoL:(h'.push (seqObj "list" acc.toArray 0)).get? h'.objs.size=some (seqObj "list" acc.toArray 0):=get?_push_size _ rfl;have I1:Inv X pins σ H {s with heap:=h',drawn:=d,toks:=tk}:=Inv.keptD I hk';have I2:Inv X pins σ H {s with heap:=h'.push (seqObj "list" acc.toArray 0),drawn:=d,toks:=tk}:=I1.kept (t':=tk) λb o eo=>get?_push_of_some _ eo
 have mem:∀v∈acc,∃ks b,v=Value.ref b/\IsTupleKey (intKind X.prog X.w) s.heap ks b/\L b:=λv hv=>by
  obtain⟨e,he,rfl⟩:=List.mem_map.mp (pm.mem_iff.mp hv);obtain⟨ks,b,e1,e2,e3⟩:=hel e he;subst e1;exact⟨ks,b,rfl,e2,e3⟩
 have ka:KAts (h'.push (seqObj "list" acc.toArray 0)) acc (acc.map λv=>bP (dD s.heap v)):=rX λv hv=>by
  obtain⟨ks,b,rfl,e2,_⟩:=mem v hv;rw[dM e2];exact BB (jd e2 λo e=>get?_push_of_some _ (hk' _ _ e))
 have kp:(acc.map λv=>bP (dD s.heap v)).Perm (kss.map bP):=by
  have h1:=pm.map λv=>bP (dD s.heap v)
  rw[map_map]at h1;have h2:=hp.map bP;rw[map_map]at h2;exact h1.trans h2
 have knd:(acc.map λv=>bP (dD s.heap v)).Nodup:=by
  refine kp.nodup_iff.mpr ?_;refine List.pairwise_map.mpr (hnd.imp λ{a b} q z=>q ?_);unfold bP at z;exact(List.map_inj_right λx y e=>Sum.inl.inj e).mp z
 have ok:((acc.map λv=>bP (dD s.heap v)).all nX||(acc.map λv=>bP (dD s.heap v)).all uL)=true:=by
  rw[Bool.or_eq_true];refine .inr (List.all_eq_true.mpr λk hk=>?_);obtain⟨k0,h0,rfl⟩:=List.mem_map.mp (kp.mem_iff.mp hk);exact Bm (hne k0 h0)
 refine wpAny_bind (wpAny_holding (wpAny_call_entry slot_list_sort ⟨_,hoL,rfl⟩ entry_list_sort (jW hoL ka ok knd (by lia) λout pm2 ka2=>⟨_,rfl,?_⟩) (args_list_sort _)))
 refine wpAny_pure ⟨_,rfl,?_⟩;have es:dc (acc.map λv=>bP (dD s.heap v))=dc (kss.map bP):=jZ ((g8 _).trans kp) (jY _)
 rw[es]at ka2;obtain⟨b1,b2⟩:=md I2 zh ka2 λu hu=>by
  obtain⟨ks,b,rfl,_,e3⟩:=mem u (pm2.mem_iff.mp hu);obtain⟨k,hk⟩:=hL b e3;exact⟨b,k,rfl,hk⟩
 have kp':∀b o,h'.get? b=some o->(sortedHeap (h'.push (seqObj "list" acc.toArray 0)) h'.objs.size acc out.toArray).get? b=some o:=λb o eo=>by
  have hb:b≠h'.objs.size:=ne_of_lt (lt_size eo);exact aN hb (get?_push_of_some _ (get?_push_of_some _ (aN hb (get?_push_of_some _ eo))))
 obtain⟨e1,ho1⟩:∃e1,((h'.push (seqObj "list" acc.toArray 0)).update h'.objs.size (Obj.mapSeq λ_=>#[])).get? h'.objs.size=some (seqObj "list" #[] e1):=⟨_,get?_update_seq hoL (λ_=>#[])⟩;have ho2:=get?_push_of_some (seqObj "list" #[] 0) (get?_push_of_some (seqObj "tuple" acc.toArray 0) ho1);have ho3:=get?_update_seq ho2 (λ_=>out.toArray);have Lh:=I1.laid (h':=sortedHeap (h'.push (seqObj "list" acc.toArray 0)) h'.objs.size acc out.toArray) (a:=h'.objs.size) (o:=.lst (out.map IW)) (t':=tk) kp' (le_refl _)
  (show ObjOk X.prog X.w _ _ _ (.lst (out.map IW))from ⟨by rw[length_map,pm2.length_eq];exact hz,out,_,b2,ho3⟩)
 exact⟨.ref h'.objs.size,_,Lh,rfl,q _ b1 _ (I1.hok.fresh (le_refl _))⟩
variable{e:Expr}{p p2 pos pos2:Pos}{te:TE}{f:Dv->Option D}
def Et(X:Cx)(te:TE):TE:=λσ H Q=>te σ H λv H1=>∃(a:Addr) (vs:List V) (Z:Hp) (kss:List (List Int)),[v]=[V.ref a]/\Same Z H1/\(SqL X.K H1 a vs\/SqT X.K H1 a vs)/\KeyVs X.K Z vs (kss.map bP)/\kss.length<63/\(∀k∈kss,k≠[])/\∀vs',KeyVs X.K Z vs' (dc ((jg kss).map bP))->∀b,H1 b=none->Q (.ref b) (upd H1 b (.lst vs'))
theorem zr(hu:X.A.units+64<cLine)(hc:X.calm=true)(hg:Gl X "sorted")(hm:X.mg "sorted" = none)(hg':Gl X "set")(hm':X.mg "set" = none)(ha:PE X e te)
  (he:starEach [.Call (.Name "set" p2) [e] [] pos2] X.env=(false,eval (.Call (.Name "set" p2) [e] [] pos2) X.env)::starEach [] X.env:=by rfl)
  (he2:starEach [e] X.env=(false,eval e X.env)::starEach [] X.env:=by rfl) (hpl:(backTo pos (starEach [] X.env)).any (·.1)=false:=by rfl) (hpl2:(backTo pos2 (starEach [] X.env)).any (·.1)=false:=by rfl):
  PE X (.Call (.Name "sorted" p) [.Call (.Name "set" p2) [e] [] pos2] [] pos) (Et X te):=by
 intro pins s σ H Q I h;refine wpAny_Call_Name_kw (d9 I hg hm (u:=.builtin "sorted") (by decide+kernel) ?_ (by decide) (by decide));refine PyProof.Rows.callWith_builtin1 ?_ he hpl;rw[he];show wpAny _ _ (spliced ((false,eval _ X.env)::backTo pos (starEach [] X.env))) _ _ s;refine Calls.spliced_cons ?_;refine wpAny_Call_Name_kw (d9 I hg' hm' (u:=.type "set") (by decide+kernel) ?_ (by decide) (by decide));refine PyProof.Rows.callWith_type1 (bB (bq ha dl he2 pos2 pins s σ H (λxs H1=>∃(a:Addr) (vs:List V) (Z:Hp) (kss:List (List Int)),xs=[V.ref a]/\Same Z H1/\(SqL X.K H1 a vs\/SqT X.K H1 a vs)/\KeyVs X.K Z vs (kss.map bP)/\kss.length<63/\(∀k∈kss,k≠[])/\∀vs',KeyVs X.K Z vs' (dc ((jg kss).map bP))->∀b,H1 b=none->Q (.ref b) (upd H1 b (.lst vs'))) I (by exact h)) λus s1 ⟨vs,H1,I1,r1,q1⟩=>?_) he2 hpl2
 obtain⟨a,xs,Z,kss,e1,zh,hsq,kv,h63,hne,q⟩:=q1;subst e1;obtain⟨u,rfl,rx⟩:=jb r1;cases rx;obtain⟨its,rv,hl⟩:∃its:List Value,Vals xs its/\(s1.heap.IsList a its.toArray\/s1.heap.IsTuple a its.toArray):=by
  rcases hsq with hsq|hsq
  .obtain⟨its,r,⟨o,n,e1,e2,e3,e4⟩,z⟩:=I1.list hsq
   exact⟨its,r,.inl ⟨o,e1,e2,n,e4⟩⟩
  .obtain⟨its,r,⟨o,e1,e2,n,e3⟩,z⟩:=I1.tuple hsq
   exact⟨its,r,.inr ⟨o,e1,e2,n,e3⟩⟩
 obtain⟨v2,v3⟩:=rW I1 zh kv rv;obtain⟨k1,k2⟩:=vD v2;rw[length_map]at k1;refine nK (kss:=kss) hu (I1.ok.hd hc) hl (by rw[List.size_toArray,k1]) (λi v e=>?_) (by rw[List.size_toArray,<-k1];lia) λh' tk hS kp=>?_
 .have e:its[i]? = some v:=by simpa using e
  obtain⟨k,a1,a2⟩:=k2 i v e;rw[List.getElem?_map]at a1;obtain⟨ks,a3,rfl⟩:=Option.map_eq_some_iff.mp a1;obtain⟨b,_,rfl,_⟩:=v3 v (List.mem_of_getElem? e);exact⟨ks,b,a3,rfl,CL a2⟩
 .refine Calls.spliced_nil ?_
  have snd:=qO kss [] List.nodup_nil;have snl:=snd.2;refine qM hc (I1.kept kp) zh hS (λk hk=>?_) snd.1 (by show(kss.foldl bb []).length<64;have:([]:List (List Int)).length=0:=rfl;lia) (λb hb=>?_) λvs' kv' b hb=>q vs' kv' b hb
  .rcases qP kss [] k hk with z|z
   .cases z
   .exact hne k z
  .obtain⟨b',k,z,hk⟩:=v3 _ (by simpa using hb.2)
   cases z;exact⟨k,hk⟩
theorem iT{K:Fg}{Z:Hp}:∀{vs:List V} {ds:List D} {kss:List (List Int)},Reps K Z vs ds->mi ds=some kss->KeyVs K Z vs (kss.map bP)
 |_,_,_,.nil,h=>by cases h;exact .nil
 |_,d::ds,_,.cons r rs,h=>by
  obtain⟨k,e1,h⟩:=bind_some h;obtain⟨k',e2,h⟩:=bind_some h;cases h;cases r with
  |tup sq r2=>
   have e:=fK r2 e1;subst e;refine .cons ?_ (iT rs e2);unfold bP;rw[map_map];exact sq
  |_=>cases e1
theorem AO(hu:X.A.units+64<cLine)(hg:Gl X "sorted")(hm:X.mg "sorted" = none)(hg':Gl X "set")(hm':X.mg "set" = none)(ha:EV X e f)(hc:X.calm=true:=by rfl)
  (he:starEach [.Call (.Name "set" p2) [e] [] pos2] X.env=(false,eval (.Call (.Name "set" p2) [e] [] pos2) X.env)::starEach [] X.env:=by rfl)
  (he2:starEach [e] X.env=(false,eval e X.env)::starEach [] X.env:=by rfl) (hpl:(backTo pos (starEach [] X.env)).any (·.1)=false:=by rfl) (hpl2:(backTo pos2 (starEach [] X.env)).any (·.1)=false:=by rfl):
  EV X (.Call (.Name "sorted" p) [.Call (.Name "set" p2) [e] [] pos2] [] pos) (o1 f qJ):=
 PE.imp (zr hu hc hg hm hg' hm' ha he he2 hpl hpl2) λσ H Q h=>by
  obtain⟨H₀,Z₀,Z,δ,d,hh,e,k⟩:=h;obtain⟨d1,e1,e⟩:=bind_some e;refine⟨H₀,Z₀,Z,δ,d1,hh,e1,λv Z1 H1 hh1 t1 r1=>?_⟩
  unfold qJ at e;obtain⟨ds,e2,e⟩:=bind_some e;obtain⟨kss,e3,e⟩:=bind_some e;obtain⟨h63,e⟩:=bR e;cases e;have key:∀vs',KeyVs X.K Z1 vs' (dc ((jg kss).map bP))->∀b,H1 b=none->Q (.ref b) (upd H1 b (.lst vs')):=λvs' kv b hb=>by
   have n:=New.add hh1.zh hb (.lst vs');exact k _ _ _ (hh1.new n) (t1.trans n.z) (.lst (SqL.of av) ((oE kv).same n.z))
  cases r1 with
  |lst sq rs=>
   cases e2;exact⟨_,_,Z1,kss,rfl,hh1.zh,.inl (SqL.same sq hh1.zh),iT rs e3,h63.1,h63.2,key⟩
  |tup sq rs=>
   cases e2;exact⟨_,_,Z1,kss,rfl,hh1.zh,.inr (SqT.same sq hh1.zh),iT rs e3,h63.1,h63.2,key⟩
  |_=>cases e2
end
end VL
namespace MA
open PySem
open Nat (mod_lt pow_succ)
def Jy(j most:Int):Int:=if j=0 then most else if(Builtin.Int.intBits (Builtin.bitAnd j (-j)):Int)-1<most then(Builtin.Int.intBits (Builtin.bitAnd j (-j)):Int)-1 else most
theorem qq{a:Int}{m:Nat}(h:a.natAbs<2^m):Builtin.Int.intBits a<=m:=by
 unfold Builtin.Int.intBits;split
 .exact Nat.zero_le _
 .rename_i h0
  have h0:a≠0:=by simpa using h0
  have:a.natAbs.log2<m:=(Nat.log2_lt (by lia)).mpr h
  lia
structure Q4 where
 a:Int
 b:Int
 c:Int
 d:Int
namespace Q4
def add(x y:Q4):Q4:=⟨x.a+y.a,x.b+y.b,x.c+y.c,x.d+y.d⟩
def rt(x:Q4):Q4:=⟨x.b-x.d,x.a+x.c,x.b+x.d,x.c-x.a⟩
def tn(x:Q4):Q4:=⟨-x.d,x.a,x.b,x.c⟩
def rtn:Nat->Q4->Q4
 | 0,x=>x
 |n+1,x=>rtn n (rt x)
end Q4
def HF(x:Q4)(k:Int):Q4×Int:=
 let t:=(Jy (Builtin.bitOr (Builtin.bitOr (Builtin.bitOr x.a x.b) x.c) x.d) (k/2)).toNat
 let y:Q4:=⟨x.a/2^t,x.b/2^t,x.c/2^t,x.d/2^t⟩
 if k-2*t=0\/(y.a-y.c)%2=1\/(y.b-y.d)%2=1 then(y,k-2*t)else(⟨(y.b-y.d)/2,(y.a+y.c)/2,(y.b+y.d)/2,(y.c-y.a)/2⟩,k-2*t-1)
def DD(x:Q4)(c:Int)(y:Q4)(d:Int):Q4×Int:=HF (Q4.add (Q4.rtn (max c d-c).toNat x) (Q4.rtn (max c d-d).toNat y)) (max c d)
def IX:Nat->Q4->Q4
 | 0,x=>x
 |n+1,x=>Q4.tn (IX n x)
structure S2 where
 p:Int
 q:Int
namespace S2
end S2
abbrev Nu:=Q4×Nat
inductive Row where
 |swing (j:Nat)|turn (j:Nat) (e:Nat)|flip (j:Nat)|tie (i j:Nat)|sign (i j:Nat)|cross (i j:Nat)
def DF(u v:Nu):Nu:=((DD u.1 u.2 v.1 v.2).1,(DD u.1 u.2 v.1 v.2).2.toNat)
def DU(u:Nu):Nu:=((HF u.1 ((u.2+1:Nat):Int)).1,(HF u.1 ((u.2+1:Nat):Int)).2.toNat)
def yp(e:Nat)(u:Nu):Nu:=(IX (e%8) u.1,u.2)
def wt(n j:Nat):Nat:=2^(n-1-j)
def bit(w p:Nat):Nat:=p/w%2
def Iz(w p:Nat):Nat:=if bit w p=0 then p+w else p-w
def DV(n:Nat):Row->Nat->Nat
 |.flip j,p=>Iz (wt n j) p
 |.tie i j,p=>if bit (wt n i) p=0 then p else Iz (wt n j) p
 |.cross i j,p=>if bit (wt n i) p=bit (wt n j) p then p else Iz (wt n j) (Iz (wt n i) p)
 |_,p=>p
def F8(n:Nat)(f:Nat->Nu):Row->Nat->Nu
 |.swing j,p=>if bit (wt n j) p=0 then DU (DF (f p) (f (p+wt n j)))else DU (DF (f (p-wt n j)) (yp 4 (f p)))
 |.turn j e,p=>yp (e*bit (wt n j) p) (f p)
 |.sign i j,p=>yp (4*bit (wt n i) p*bit (wt n j) p) (f p)
 |r,p=>f (DV n r p)
theorem mT(w p:Nat):bit w p<2:=mod_lt _ (by decide)
theorem Gg(a b:Nat):Builtin.bitAnd (a:Int) (b:Int)=((a &&& b:Nat):Int):=by
 unfold Builtin.bitAnd;simp
theorem wI{x y z:Nat}(h:x/2=y/2+z/2)(m:x%2=y%2+z%2):x=y+z:=by lia
theorem xo{u v w:Nat}{p q:Prop}(hu:u<2)(hv:v<2)(hw:w<2)(m1:u=1↔p\/q)(m2:v=1 ↔ ¬(p↔q))(m3:w=1↔p/\q):u=v+w:=by
 have z:∀{x:Nat},x<2->¬x=1->x=0:=λh k=>by lia
 by_cases a:p<;>by_cases b:q
 .rw[m1.mpr (.inl a),m3.mpr ⟨a,b⟩,z hv λe=>m2.mp e ⟨λ_=>b,λ_=>a⟩]
 .rw[m1.mpr (.inl a),m2.mpr λe=>b (e.mp a),z hw λe=>b (m3.mp e).2]
 .rw[m1.mpr (.inr b),m2.mpr λe=>a (e.mpr b),z hw λe=>a (m3.mp e).1]
 .rw[z hu λe=>(m1.mp e).elim a b,z hv λe=>m2.mp e ⟨λc=>absurd c a,λc=>absurd c b⟩,z hw λe=>a (m3.mp e).1]
theorem mZ:∀(k a b:Nat),a<2^k->b<2^k->(a ||| b)=(a ^^^ b)+(a &&& b)
 | 0,a,b,ha,hb=>by
  have:a=0:=by simpa using ha
  have:b=0:=by simpa using hb
  subst a;subst b;rfl
 |k+1,a,b,ha,hb=>by
  have ih:=mZ k (a/2) (b/2) (by rw[pow_succ]at ha;lia) (by rw[pow_succ]at hb;lia);have h1:=@Nat.or_div_two a b;have h2:=@Nat.xor_div_two a b;have h3:=@Nat.and_div_two a b;have m1:=@Nat.or_mod_two_eq_one a b;have m2:=@Nat.xor_mod_two_eq_one a b;have m3:=@Nat.and_mod_two_eq_one a b;rw[<-h1,<-h2,<-h3]at ih;exact wI ih (xo (mod_lt _ (by decide)) (mod_lt _ (by decide)) (mod_lt _ (by decide)) m1 m2 m3)
theorem Lb(a b:Nat):Builtin.bitOr (a:Int) (b:Int)=((a ||| b:Nat):Int):=by
 have h1:¬(0:Int)<=Builtin.bitNot (a:Int):=by unfold Builtin.bitNot;lia
 have h2:¬(0:Int)<=Builtin.bitNot (b:Int):=by unfold Builtin.bitNot;lia
 have e1:(Builtin.bitNot (Builtin.bitNot (a:Int))).toNat=a:=by unfold Builtin.bitNot;lia
 have e2:(Builtin.bitNot (Builtin.bitNot (b:Int))).toNat=b:=by unfold Builtin.bitNot;lia
 unfold Builtin.bitOr Builtin.bitAnd;rw[decide_eq_false h1,decide_eq_false h2];dsimp only;rw[e1,e2];unfold Builtin.bitNot
 lia
theorem De(a b:Nat):Builtin.bitXor (a:Int) (b:Int)=((a ^^^ b:Nat):Int):=by
 unfold Builtin.bitXor;rw[Lb,Gg];have h:∀n:Nat,n<2^n:=λn=>Nat.lt_two_pow_self
 have:=mZ (max a b) a b (Nat.lt_of_lt_of_le (h a) (Nat.pow_le_pow_right (by decide) (by lia))) (Nat.lt_of_lt_of_le (h b) (Nat.pow_le_pow_right (by decide) (by lia)))
 lia
def qe(n:Nat):Nat:=if n=0 then 0 else n%2+qe (n/2)
termination_by n
decreasing_by lia
theorem eE:qe 0=0:=by unfold qe;simp
theorem eF(n:Nat):qe n=n%2+qe (n/2):=by
 by_cases h:n=0
 .subst h;simp[eE]
 .rw[qe,if_neg h]
theorem o6:∀(k a b:Nat),a<2^k->b<2^k->qe (a ^^^ b)%2=(qe a+qe b)%2
 | 0,a,b,ha,hb=>by
  have:a=0:=by simpa using ha
  have:b=0:=by simpa using hb
  subst a;subst b;simp[eE]
 |k+1,a,b,ha,hb=>by
  have ih:=o6 k (a/2) (b/2) (by rw[pow_succ]at ha;lia) (by rw[pow_succ]at hb;lia);have h2:=@Nat.xor_div_two a b;have m2:=@Nat.xor_mod_two_eq_one a b;rw[eF (a ^^^ b),eF a,eF b,h2]
  lia
theorem rM(a b:Nat):∃k,a<2^k/\b<2^k:=by
 have h:∀n:Nat,n<2^n:=λn=>Nat.lt_two_pow_self
 exact⟨max a b,Nat.lt_of_lt_of_le (h a) (Nat.pow_le_pow_right (by decide) (by lia)),Nat.lt_of_lt_of_le (h b) (Nat.pow_le_pow_right (by decide) (by lia))⟩
theorem Da(a b:Nat):qe (a ^^^ b)%2=(qe a+qe b)%2:=by
 obtain⟨k,h1,h2⟩:=rM a b;exact o6 k a b h1 h2
def par(n:Nat):Nat:=qe n%2
theorem gO(n:Nat):par n<2:=mod_lt _ (by decide)
theorem lb(a b:Nat):par (a ^^^ b)=(par a+par b)%2:=by
 unfold par;rw[Da];lia
theorem jm:par 0=0:=by unfold par;rw[eE]
structure Wd where
 x:Nat
 z:Nat
 s:Nat
def Eg(u v:Wd):Wd:=⟨u.x ^^^ v.x,u.z ^^^ v.z,(u.s+v.s+2*par (u.z &&& v.x))%4⟩
def Sh(k:Nat)(d:PyData):Prop:=d.canLay0=true/\d.depth<=k
theorem Sh.int(k:Nat)(i:Int):Sh k (.int i):=⟨by simp[PyData.canLay0],by simp[PyData.depth]⟩
theorem Sh.all{k:Nat}:∀(xs:List PyData),(∀x∈xs,Sh k x)->PyData.canLayAll0 xs=true/\PyData.depthAll xs<=k
 |[],_=>⟨by simp[PyData.canLayAll0],by simp[PyData.depthAll]⟩
 |x::xs,h=>by
  obtain⟨a,b⟩:=Sh.all xs λy hy=>h y (List.mem_cons_of_mem _ hy)
  obtain⟨c,d⟩:=h x List.mem_cons_self;refine⟨by simp[PyData.canLayAll0,a,c],?_⟩;simp only[PyData.depthAll]
  lia
theorem Sh.tuple{k:Nat}{xs:List PyData}(h:∀x∈xs,Sh k x):Sh (k+1) (.tuple xs):=by
 obtain⟨a,b⟩:=Sh.all xs h;exact⟨by simp[PyData.canLay0,a],by simp only[PyData.depth];lia⟩
theorem Sh.list{k:Nat}{xs:List PyData}(h:∀x∈xs,Sh k x):Sh (k+1) (.list xs):=by
 obtain⟨a,b⟩:=Sh.all xs h;exact⟨by simp[PyData.canLay0,a],by simp only[PyData.depth];lia⟩
mutual
theorem mK:∀d:PyData,d.canLay0=true->PyData.eqv d d=true
 |.none,_=>by simp[PyData.eqv]
 |.bool _,_=>by simp[PyData.eqv]
 |.int _,_=>by simp[PyData.eqv]
 |.str _,_=>by simp[PyData.eqv]
 |.list xs,h=>by
  simp only[PyData.eqv];exact eqvAll_self xs (by simpa[PyData.canLay0]using h)
 |.tuple xs,h=>by
  simp only[PyData.eqv];exact eqvAll_self xs (by simpa[PyData.canLay0]using h)
 |.dict _,h=>by simp[PyData.canLay0]at h
theorem eqvAll_self:∀xs:List PyData,PyData.canLayAll0 xs=true->PyData.eqvAll xs xs=true
 |[],_=>by simp[PyData.eqvAll]
 |x::xs,h=>by
  have h':x.canLay0=true/\PyData.canLayAll0 xs=true:=by simpa[PyData.canLayAll0]using h
  simp only[PyData.eqvAll,mK x h'.1,eqvAll_self xs h'.2,Bool.and_self]
end
def val(M:Nat)(u:Nu):Q4:=Q4.rtn (M-u.2) u.1
end MA
namespace GN
open PySem L2 VL
open List (append_assoc append_nil filter_cons filter_cons_of_neg filter_cons_of_pos filter_sublist length_append length_cons length_filter_le length_map length_range map_append map_congr_left map_cons map_id' map_map mem_cons_of_mem mem_cons_self mem_filter range' set_cons_succ set_cons_zero sum_cons)
open Nat (div_div_eq_div_mul le_trans lt_of_lt_of_le mul_comm pow_le_pow_right pow_succ zero_and)
open Int (mul_add mul_one natAbs_natCast)
def top(i:Nat):Stmt:=PySem.Challenge.pw_wavewires_k54_sums_settled.main.body.getD i (.Pass ⟨0,0,0,0⟩)
def eP:List (Str×Bool):=[("StillHidden",false)]
def im:List (Str×Bool):=[("StillHidden",false)]
def fS:List (Str×Bool):=[("StillHidden",false)]
def eO:List (Str×Bool):=[("StillHidden",false)]
def cW:List (Str×Bool):=[("StillHidden",true)]
def du:List (Str×Bool):=[("StillHidden",true)]
def hs_WaveError:List Str:=["StillHidden"]
abbrev dB:Stmt:=top 8
abbrev ik:List Str:=["turn","turns","pairs","by_set","pair","bitset","e"]
def f9:Dv->Option D:=bF (oI (jn 3) aV) [] mQ (ob (o2 (o2 (oV 0) (oC (.int 1)) aI) (oC (.int 0)) neD)) (oV 0)
def bO:Sf:=ay (aK 5 (o2 (oV 4) (oC (.int 0)) aI)) (ay (aK 6 (o2 (oV 4) (oC (.int 1)) aI)) (ay (dX (ob (o2 (o2 (oV 5) (oC (.int 1)) Dg) (oC (.int 1)) iy)) (ay (aK 0 (o2 (oV 0) (oV 6) cG)) (ay (aK 5 (o2 (oV 5) (oC (.int 1)) sV)) (aK 6 (o1 (oV 6) negD)))) (iP)) (dX (ob (o2 (oV 5) (oC (.int 0)) neD)) (gM 3 (oV 5) (o2 (o2 (iR 3 (oV 5) (oC (.int 0))) (oV 6) cG) (oC (.int 8)) bA)) (iP))))
def ii:Sf:=ay (tP 3 (oV 1)) (ay (dF (oI (oV 2) aV) (gN 4) (bO)) (bi (os (af (o2 (oV 0) (oC (.int 8)) bA) (af (os (af (f9) (ap)) di) (ap))) bM)))
def bK:List D->Option D:=bC ik 3 ii
abbrev u3:Stmt:=top 10
abbrev Ec:List Str:=["bitset","bit"]
def Bg:Sf:=bi (o2 (o2 (o2 (oV 0) (oV 1) tJ) (oC (.int 1)) Dg) (oC (.int 1)) iy)
def dh:List D->Option D:=bC Ec 2 Bg
abbrev dj:Stmt:=top 11
abbrev fP:List Str:=["one","bit","change","within","others","both"]
def fY:Dv->Option D:=bF (oI (o2 (oV 0) (oC (.int 3)) aI) aV) [(1,"bit"),(2,"change")] mQ (ob (os (af (o2 (oV 0) (oC (.int 0)) aI) (af (oV 1) (ap))) dh)) (os (af (o2 (o2 (oV 0) (oC (.int 0)) aI) (oV 2) sV) (af (o2 (oV 0) (oC (.int 1)) aI) (ap))) bM)
def fW:Dv->Option D:=bF (oI (o2 (oV 0) (oC (.int 3)) aI) aV) [(1,"bit")] mQ (gS (ob (os (af (o2 (oV 0) (oC (.int 0)) aI) (af (oV 1) (ap))) dh))) (oV 0)
def fV:Dv->Option D:=bF (oI (o2 (oV 0) (oC (.int 5)) aI) aV) [(1,"bit")] mQ (ob (o2 (oV 0) (oV 1) neD)) (oV 0)
def kh:Sf:=ay (aK 3 (fY)) (ay (aK 4 (fW)) (ay (aK 5 (os (af (o2 (oV 0) (oC (.int 2)) aI) (af (oV 4) (af (oV 3) (ap)))) bK)) (bi (os (af (o2 (oV 0) (oC (.int 0)) aI) (af (o2 (oV 0) (oC (.int 1)) aI) (af (o2 (oV 5) (oC (.int 0)) aI) (af (o2 (oV 5) (oC (.int 1)) aI) (af (o2 (oV 0) (oC (.int 4)) aI) (af (os (af (fV) (ap)) di) (ap))))))) bM))))
def cg:List D->Option D:=bC fP 3 kh
abbrev fT:Stmt:=top 13
abbrev m7:List Str:=["bitset"]
def i6:Sf:=bi (o2 (o1 (oV 0) mS) (oC (.int 1)) yC)
def bj:List D->Option D:=bC m7 1 i6
abbrev fq:Stmt:=top 14
abbrev kq:List Str:=["things","bits_in","product","told","thing","other","top"]
def iQ:Dv->Option D:=gA (oI (oV 3) aV) [(1,"bits_in"),(2,"product"),(4,"thing"),(6,"top")] mQ (Jh (ob (os (af (bt 1 (af (oV 0) (ap)) (("<lambda> id",sk)::[])) (af (oV 4) (ap))) dh)) (bt 2 (af (oV 0) (af (oV 3) (ap))) (("<lambda> xor",pX)::[])) (oV 0))
def cJ:Sf:=dX (ob (os (af (bt 1 (af (oV 4) (ap)) (("<lambda> id",sk)::[])) (af (os (af (bt 1 (af (oV 5) (ap)) (("<lambda> id",sk)::[])) (ap)) bj) (ap))) dh)) (aK 4 (bt 2 (af (oV 4) (af (oV 5) (ap))) (("<lambda> xor",pX)::[]))) (iP)
def er:Sf:=ay (λδ=>(dF (oI (oV 3) aV) (gN 5) (cJ)) (nE 3 δ)) (dX (ob (o2 (bt 1 (af (oV 4) (ap)) (("<lambda> id",sk)::[])) (oC (.int 0)) neD)) (ay (aK 6 (os (af (bt 1 (af (oV 4) (ap)) (("<lambda> id",sk)::[])) (ap)) bj)) (ay (u4 3 (Jg (iQ))) (tQ 3 (oV 4)))) (iP))
def kj:Sf:=ay (qU 3 (ap)) (ay (dF (oI (oV 0) aV) (gN 4) (er)) (λδ=>(bi (oV 3)) (nE 3 δ)))
def ci:List D->Option D:=bC kq 3 kj
abbrev gK:Stmt:=top 16
abbrev m6:List Str:=["turns","bit"]
def jV:Dv->Option D:=bF (oI (oV 0) aV) [(1,"bit")] mQ (ob (os (af (o2 (oV 0) (oC (.int 0)) aI) (af (oV 1) (ap))) dh)) (oV 0)
def mX:Sf:=bi (jV)
def cF:List D->Option D:=bC m6 2 mX
abbrev bX:Stmt:=top 17
abbrev eK:List Str:=["turns"]
def dG:Dv->Option D:=gA (oI (oV 0) aV) [] mQ (o2 (oV 0) (oC (.int 1)) aI)
def eI:Sf:=bi (os (af (dG) (ap)) BQ)
def aR:List D->Option D:=bC eK 1 eI
abbrev dN:Stmt:=top 18
abbrev jL:List Str:=["turns","told","pair"]
def bV:Sf:=dX (ob (o2 (o2 (o2 (oV 2) (oC (.int 1)) aI) (oC (.int 2)) bA) (oC (.int 1)) iy)) (aK 1 (o2 (oV 1) (o2 (oV 2) (oC (.int 0)) aI) sV)) (iP)
def gk:Sf:=ay (aK 1 (oC (.int 0))) (ay (dF (oI (oV 0) aV) (gN 2) (bV)) (bi (oV 1)))
def bQ:List D->Option D:=bC jL 1 gk
abbrev cM:Stmt:=top 19
abbrev eW:List Str:=["bit","turns","bits","form","k","both","held"]
def fZ:Dv->Option D:=bF (oI (Jf (oV 2) (oP (o2 (oV 4) (oC (.int 1)) cG)) (J4)) aV) [(0,"bit"),(2,"bits"),(4,"k"),(6,"held")] mQ (ob (os (af (oV 4) (af (oV 0) (ap))) dh)) (os (af (os (af (oV 1) (af (o2 (oV 2) (oV 3) aI) (af (oV 0) (ap)))) bM) (af (oC (.int 4)) (ap))) bM)
def cY:Dv->Option D:=bF (oI (oV 3) aV) [] mQ (ob (o2 (o2 (oV 0) (oC (.int 1)) aI) (oC (.int 0)) neD)) (oV 0)
def db:Sf:=ay (aK 5 (os (af (oV 1) (af (o2 (oV 2) (oV 4) aI) (ap))) cF)) (ay (tQ 3 (os (af (os (af (oV 0) (af (o2 (oV 2) (oV 4) aI) (ap))) bM) (af (o2 (o2 (o1 (oC (.int 2)) negD) (os (af (oV 5) (ap)) aR) gC) (oC (.int 8)) bA) (ap))) bM)) (ay (aK 6 (os (af (oV 5) (ap)) bQ)) (yV 3 (fZ))))
def ig:Sf:=ay (qU 3 (af (os (af (os (af (oV 0) (ap)) bM) (af (o2 (os (af (oV 1) (ap)) aR) (oC (.int 8)) bA) (ap))) bM) (ap))) (ay (dF (oL (af (os (af (oV 2) (ap)) eY) (ap)) d6) (gN 4) (db)) (λδ=>(bi (cY)) (nE 3 δ)))
def b8:List D->Option D:=bC eW 3 ig
abbrev fm:Stmt:=top 20
abbrev kn:List Str:=["turns","held","pair","bits","form","k"]
def f8:Dv->Option D:=bF (oL (af (o1 (oV 1) mS) (ap)) d6) [(1,"held")] mQ (ob (os (af (oV 1) (af (oV 0) (ap))) dh)) (oV 0)
def gb:Sf:=aK 1 (o2 (oV 1) (o2 (oV 2) (oC (.int 0)) aI) K6)
def ej:Sf:=yV 4 (os (af (o2 (oV 3) (oV 5) aI) (af (os (af (oV 0) (af (o2 (oV 3) (oV 5) aI) (ap))) cF) (af (Jf (oV 3) (oP (o2 (oV 5) (oC (.int 1)) cG)) (J4)) (ap)))) b8)
def ki:Sf:=ay (aK 1 (oC (.int 0))) (ay (dF (oI (oV 0) aV) (gN 2) (gb)) (ay (aK 3 (f8)) (ay (qU 4 (ap)) (ay (dF (oL (af (os (af (oV 3) (ap)) eY) (ap)) d6) (gN 5) (ej)) (λδ=>(bi (os (af (oV 4) (ap)) di)) (nE 4 δ))))))
def dq:List D->Option D:=bC kn 1 ki
abbrev cz:Stmt:=top 21
abbrev eZ:List Str:=["one","ties","tie"]
def b7:Sf:=aK 0 (os (af (oV 0) (af (os (af (oV 2) (ap)) bj) (af (oV 2) (ap)))) cg)
def dA:Sf:=ay (dX (ob (o2 (o2 (oV 0) (oC (.int 5)) aI) (os (ap) bM) neD)) (K4) (iP)) (ay (aK 1 (o1 (os (af (o2 (oV 0) (oC (.int 4)) aI) (af (oC (DX "<lambda> id")) (af (oC (DX "<lambda> xor")) (ap)))) ci) iE)) (ay (dX (ob (o2 (oC (.int 1)) (oV 1) (sg false))) (bi (oC .none)) (iP)) (ay (dF (oI (oV 1) aV) (gN 2) (b7)) (bi (os (af (o2 (oV 0) (oC (.int 0)) aI) (af (o2 (oV 0) (oC (.int 1)) aI) (af (o2 (oV 0) (oC (.int 2)) aI) (af (os (af (o2 (oV 0) (oC (.int 3)) aI) (ap)) dq) (af (os (af (oV 1) (ap)) di) (ap)))))) bM)))))
def aP:List D->Option D:=bC eZ 1 dA
def eG:Xf:=Jw (ob (o2 (o2 (oV 0) (oC (.int 5)) aI) (os (ap) bM) neD)) (sW "StillHidden" (oC (.str "a bit is hidden"))) (KP)
def bT:List D->Option Str:=yX eZ 1 eG
abbrev dO:Stmt:=top 23
abbrev jM:List Str:=["found"]
def gm:Sf:=bi (oy (o1 (oV 0) (gg "int")) (o1 (o1 (oV 0) (gg "bool")) xm))
def aS:List D->Option D:=bC jM 1 gm
abbrev dQ:Stmt:=top 24
abbrev jO:List Str:=["turn","counts","bitset","e"]
def cm:Sf:=ay (dX (ob (o2 (o2 (oV 2) (oC (.int 2)) bA) (oC (.int 1)) iy)) (ay (aK 0 (o2 (oV 0) (oV 3) cG)) (ay (aK 3 (o1 (oV 3) negD)) (aK 2 (o2 (oV 2) (oC (.int 1)) yC)))) (iP)) (ay (dX (ob (o2 (oV 2) (oC (.int 0)) um)) (gM 1 (oV 2) (o2 (o2 (iR 1 (oV 2) (oC (.int 0))) (oV 3) cG) (oC (.int 8)) bA)) (iP)) (bi (o2 (oV 0) (oC (.int 8)) bA)))
def aL:D->List (aw×D)->List D->Option (D×List (aw×D)):=pE jO 4 cm
abbrev d4:Stmt:=top 25
abbrev gy:List Str:=["cells","shape","halves","ones","size","turn","counts","ties","cell","bitset","turns"]
def gQ:Dv->Option D:=bF (oI (o1 (oV 6) tF) aV) [(6,"counts")] mQ (ob (o2 (o2 (oV 1) (oV 0) vP) (oC (.int 0)) um)) (os (af (oV 0) (af (o2 (oV 1) (oV 0) vP) (ap))) bM)
def bJ:Sf:=ay (aK 9 (o2 (o2 (oV 8) (oC (.int 3)) iz) (o2 (oC (.int 1)) (oV 4) kF) bA)) (dX (nr (ob (o2 (o2 (oV 8) (oC (.int 3)) bA) (oC (.int 0)) um)) (ob (o2 (rB 7) (oV 3) iy))) (yU 5 6 (oV 5) (af (oV 9) (af (o2 (o2 (oV 8) (oC (.int 96)) iz) (oC (.int 8)) bA) (ap))) aL) (dX (pN 7 (Fs (ob (o2 (oV 9) (oC (.int 0)) um)) (ob (o2 (oV 9) (oV 7) (sg true))))) (tQ 7 (oV 9)) (iP)))
def i7:Sf:=ay (aK 4 (o2 (o2 (o2 (oC (.int 2)) (o2 (oV 1) (oC (.int 0)) aI) gC) (o2 (oV 1) (oC (.int 1)) aI) cG) (oC (.int 1)) cG)) (ay (aK 5 (oC (.int 0))) (ay (Dz 6) (ay (qU 7 (ap)) (ay (dF (oI (oV 0) aV) (gN 8) (bJ)) (ay (λδ=>(aK 10 (os (af (gQ) (ap)) di)) (uy 6 δ)) (λδ=>(bi (os (af (oV 1) (af (oV 2) (af (oV 5) (af (oV 10) (af (os (af (o1 (oV 7) iE) (ap)) di) (af (os (ap) bM) (ap))))))) bM)) (nE 7 δ)))))))
def dt:List D->Option D:=bC gy 4 i7
abbrev dP:Stmt:=top 26
abbrev jN:List Str:=["bitset","bits","both","many"]
def cx:Dv->Option Bool:=ob (o2 (oV 2) (oC (.int 0)) um)
def dy:Sf:=ay (aK 3 (o2 (oV 3) (o2 (oV 2) (oC (.int 2)) bA) cG)) (aK 2 (o2 (oV 2) (oC (.int 2)) iz))
def gq:Sf:=ay (aK 2 (o2 (oV 0) (oV 1) Dg)) (ay (aK 3 (oC (.int 0))) (ay (λδ=>e8 (cx) (dy) wN δ) (bi (o2 (oV 3) (oC (.int 2)) bA))))
def aX:List D->Option D:=bC jN 2 gq
abbrev eQ:Stmt:=top 27
abbrev kD:List Str:=["one","bits","tie","rest","bitset","e"]
def bz:Sf:=dX (ob (o2 (os (af (oV 2) (af (oV 1) (ap))) aX) (oC (.int 1)) iy)) (bi (oC .none)) (iP)
def da:Sf:=aK 3 (o2 (oV 3) (o2 (oV 5) (os (af (oV 4) (af (oV 1) (ap))) aX) gC) cG)
def eV:Sf:=ay (dF (oI (o2 (oV 0) (oC (.int 4)) aI) aV) (gN 2) (bz)) (ay (aK 3 (o2 (oV 0) (oC (.int 2)) aI)) (ay (dF (oI (o2 (oV 0) (oC (.int 3)) aI) aV) (Bu [gN 4,gN 5]) (da)) (bi (o2 (oV 3) (oC (.int 8)) bA))))
def b9:List D->Option D:=bC kD 2 eV
abbrev bf:Stmt:=top 28
abbrev cu:List Str:=["told","bits","tie","rest","part","e"]
def bZ:Dv->Option D:=bF (oI (oV 4) aV) [(1,"bits")] mQ (ob (o2 (o2 (o2 (oV 1) (oV 0) tJ) (oC (.int 2)) bA) (oC (.int 1)) iy)) (oV 0)
def bw:Sf:=dX (ob (o2 (os (af (oV 2) (af (oV 1) (ap))) aX) (oC (.int 1)) iy)) (bi (oC .none)) (iP)
def aM:Sf:=dX (ob (o2 (os (af (bZ) (ap)) eY) (os (af (oV 4) (ap)) eY) iy)) (aK 3 (o2 (oV 3) (oV 5) cG)) (iP)
def bD:Sf:=ay (dF (oI (o2 (oV 0) (oC (.int 4)) aI) aV) (gN 2) (bw)) (ay (aK 3 (o2 (oV 0) (oC (.int 2)) aI)) (ay (dF (oI (o2 (oV 0) (oC (.int 3)) aI) aV) (Bu [gN 4,gN 5]) (aM)) (bi (o2 (oV 3) (oC (.int 8)) bA))))
def aT:List D->Option D:=bC cu 2 bD
abbrev eR:Stmt:=top 29
abbrev kE:List Str:=["told","parts","pair"]
def cf:Sf:=ay (dX (nr (gS (ob (o1 (oV 2) (gg "tuple")))) (nr (ob (o2 (os (af (oV 2) (ap)) eY) (oC (.int 2)) neD)) (nr (gS (ob (os (af (o2 (oV 2) (oC (.int 1)) aI) (ap)) aS))) (nr (ob (o2 (o2 (oV 2) (oC (.int 1)) aI) (oC (.int 1)) HN)) (ob (o2 (o2 (oV 2) (oC (.int 1)) aI) (oC (.int 7)) um)))))) (bi (oC (.bool false))) (iP)) (ay (dX (nr (gS (ob (o1 (o2 (oV 2) (oC (.int 0)) aI) (gg "tuple")))) (nr (ob (o2 (os (af (o2 (oV 2) (oC (.int 0)) aI) (ap)) eY) (oC (.int 1)) HN)) (ob (o2 (os (af (o2 (oV 2) (oC (.int 0)) aI) (ap)) eY) (oC (.int 3)) um)))) (bi (oC (.bool false))) (iP)) (ay (dX (ob (o2 (os (af (o2 (oV 2) (oC (.int 0)) aI) (ap)) jr) (o1 (o2 (oV 2) (oC (.int 0)) aI) kt) neD)) (bi (oC (.bool false))) (iP)) (tQ 1 (o2 (oV 2) (oC (.int 0)) aI))))
def ij:Sf:=ay (dX (nr (gS (ob (o1 (o2 (oV 0) (oC (.int 3)) aI) (gg "tuple")))) (nr (gS (ob (o1 (o2 (oV 0) (oC (.int 4)) aI) (gg "tuple")))) (gS (ob (os (af (o2 (oV 0) (oC (.int 2)) aI) (ap)) aS))))) (bi (oC (.bool false))) (iP)) (ay (qU 1 (ap)) (ay (dF (oI (o2 (oV 0) (oC (.int 3)) aI) aV) (gN 2) (cf)) (λδ=>(bi (oy (o2 (oC (.int 0)) (o2 (oV 0) (oC (.int 2)) aI) K8) (oy (o2 (o2 (oV 0) (oC (.int 2)) aI) (oC (.int 8)) HN) (o2 (oV 1) (o1 (oV 1) qJ) iy)))) (nE 1 δ))))
def bL:List D->Option D:=bC kE 1 ij
abbrev ce:Stmt:=top 30
abbrev dW:List Str:=["told","tie","lead"]
def dw:Dv->Option D:=bF (oI (o2 (oV 0) (oC (.int 4)) aI) aV) [(2,"lead")] mQ (ob (o2 (o2 (o2 (oV 0) (oV 1) tJ) (oC (.int 2)) bA) (oC (.int 1)) iy)) (oV 0)
def eX:Dv->Option D:=bF (oI (o2 (oV 0) (oC (.int 3)) aI) aV) [(2,"lead")] mQ (ob (o2 (oV 1) (o2 (oV 0) (oC (.int 0)) aI) (sg false))) (oV 0)
def cD:Sf:=ay (dX (nr (gS (ob (os (af (oV 1) (ap)) aS))) (ob (o2 (oV 1) (oC (.int 2)) HN))) (bi (oC (.bool false))) (iP)) (ay (aK 2 (o2 (o1 (oV 1) mS) (oC (.int 1)) yC)) (ay (dX (ob (o2 (os (af (dw) (ap)) eY) (oC (.int 1)) neD)) (bi (oC (.bool false))) (iP)) (dX (ob (o2 (os (af (eX) (ap)) eY) (oC (.int 0)) um)) (bi (oC (.bool false))) (iP))))
def gr:Sf:=ay (dX (ob (o2 (os (af (o2 (oV 0) (oC (.int 4)) aI) (ap)) jr) (o1 (o2 (oV 0) (oC (.int 4)) aI) kt) neD)) (bi (oC (.bool false))) (iP)) (ay (dF (oI (o2 (oV 0) (oC (.int 4)) aI) aV) (gN 1) (cD)) (bi (oC (.bool true))))
def cj:List D->Option D:=bC dW 1 gr
abbrev bu:Stmt:=top 31
abbrev cn:List Str:=["one","told","size","rests"]
def bU:Dv->Option D:=gA (oL (af (o2 (oC (.int 1)) (oV 2) kF) (ap)) d6) [(0,"one")] mQ (os (af (oV 1) (af (o2 (o2 (oC (.int 2)) (oV 0) gC) (oC (.int 1)) cG) (ap))) b9)
def cC:Dv->Option D:=bF (oI (oV 3) aV) [] mQ (ob (o2 (oV 0) (oC .none) r8)) (oV 0)
def iF:Dv->Option D:=bF (oI (oV 3) aV) [] mQ (ob (o2 (oV 0) (oC .none) r8)) (oV 0)
def cA:Dv->Option D:=gA (oL (af (o2 (oC (.int 1)) (oV 2) kF) (ap)) d6) [(1,"told")] mQ (os (af (oV 1) (af (o2 (o2 (oC (.int 2)) (oV 0) gC) (oC (.int 1)) cG) (ap))) aT)
def dU:Sf:=ay (aK 1 (os (af (oV 0) (ap)) aP)) (ay (aK 2 (o2 (o2 (oC (.int 2)) (o2 (o2 (oV 0) (oC (.int 0)) aI) (oC (.int 0)) aI) gC) (o2 (o2 (oV 0) (oC (.int 0)) aI) (oC (.int 1)) aI) cG)) (ay (aK 3 (bU)) (ay (dX (ob (o2 (oV 1) (oC .none) isD)) (bi (o2 (cC) (os (ap) rN) iy)) (iP)) (ay (dX (nr (gS (ob (o1 (oV 1) (gg "tuple")))) (nr (ob (o2 (os (af (oV 1) (ap)) eY) (oC (.int 5)) neD)) (nr (ob (o2 (o2 (oV 1) (oC (.int 0)) aI) (o2 (oV 0) (oC (.int 0)) aI) neD)) (ob (o2 (o2 (oV 1) (oC (.int 1)) aI) (o2 (oV 0) (oC (.int 1)) aI) neD))))) (bi (oC (.bool false))) (iP)) (ay (dX (nr (gS (ob (os (af (o2 (oV 1) (oC (.int 1)) aI) (ap)) aS))) (nr (gS (ob (os (af (oV 1) (ap)) bL))) (gS (ob (os (af (oV 1) (ap)) cj))))) (bi (oC (.bool false))) (iP)) (ay (dX (ob (o2 (iF) (os (ap) rN) iy)) (bi (oC (.bool false))) (iP)) (bi (o2 (cA) (oV 3) iy))))))))
def aY:List D->Option D:=bC cn 1 dU
abbrev cX:Stmt:=top 32
abbrev il:List Str:=["one","hidden","caught","e","others"]
def eJ:Sf:=ay (aK 1 (o2 (o2 (o2 (oC (.int 2)) (o2 (o2 (oV 0) (oC (.int 0)) aI) (oC (.int 0)) aI) gC) (o2 (o2 (oV 0) (oC (.int 0)) aI) (oC (.int 1)) aI) cG) (oC (.int 1)) cG)) (ay (aK 2 (oC .none)) (ay (yT 3 hs_WaveError (Dy (os (af (os (af (o2 (oV 0) (oC (.int 0)) aI) (af (o2 (oV 0) (oC (.int 1)) aI) (af (o2 (oV 0) (oC (.int 2)) aI) (af (o2 (oV 0) (oC (.int 3)) aI) (af (o2 (oV 0) (oC (.int 4)) aI) (af (os (af (oV 1) (ap)) bM) (ap))))))) bM) (ap)) aP)) (xE (J2 (af (os (af (o2 (oV 0) (oC (.int 0)) aI) (af (o2 (oV 0) (oC (.int 1)) aI) (af (o2 (oV 0) (oC (.int 2)) aI) (af (o2 (oV 0) (oC (.int 3)) aI) (af (o2 (oV 0) (oC (.int 4)) aI) (af (os (af (oV 1) (ap)) bM) (ap))))))) bM) (ap)) bT)) (aK 2 (oV 3))) (ay (qU 4 (af (o1 (oV 2) (gd eP)) (af (o1 (oV 2) (gd im)) (af (o1 (oV 2) (gd fS)) (ap))))) (ay (tQ 4 (o1 (oV 2) (gd eO))) (λδ=>(bi (oy (o1 (oV 2) (gd cW)) (oy (o1 (oV 2) (gd du)) (o2 (oC (.bool true)) (oV 4) (sg true))))) (nE 4 δ))))))
def bn:List D->Option D:=bC il 1 eJ
abbrev jj:Stmt:=top 33
abbrev Eb:List Str:=["script","first","shape","k","one"]
def iS:Sf:=ay (aK 4 (os (af (Jf (oV 0) (oP (oV 3)) (oP (o2 (oV 3) (oC (.int 10)) cG))) (af (oV 2) (af (o2 (o2 (o2 (oV 1) (oC (.int 4)) iz) (oC (.int 201)) bA) (oC (.int 100)) yC) (af (o2 (oC (.int 1)) (o2 (o2 (oV 1) (oC (.int 28)) iz) (oC (.int 4)) bA) cG) (ap))))) dt)) (dX (nr (gS (ob (os (af (oV 4) (ap)) aY))) (gS (ob (os (af (oV 4) (ap)) bn)))) (bi (oC (.bool false))) (iP))
def Bf:Sf:=ay (aK 1 (oC (.int 0))) (ay (dX (ob (o2 (os (af (oV 0) (ap)) eY) (oC (.int 0)) um)) (aK 1 (o2 (oV 0) (oC (.int 0)) aI)) (iP)) (ay (aK 2 (o2 (os (af (os (af (oC (.int 1)) (af (oC (.int 0)) (ap))) bM) (af (os (af (oC (.int 1)) (af (oC (.int 1)) (ap))) bM) (af (os (af (oC (.int 1)) (af (oC (.int 2)) (ap))) bM) (af (os (af (oC (.int 2)) (af (oC (.int 0)) (ap))) bM) (ap))))) rN) (o2 (oV 1) (oC (.int 4)) bA) aI)) (ay (dF (oL (af (oC (.int 0)) (af (o2 (os (af (oV 0) (ap)) eY) (oC (.int 1)) cG) (af (oC (.int 10)) (ap)))) om) (gN 3) (iS)) (bi (oC (.bool true))))))
def AB:List D->Option D:=bC Eb 1 Bf
open MA (Nu Row wt bit Iz DV F8 Wd par Eg)
theorem bN{s t:Sf}{δ δ':Dv}(h:s δ = some (.nx,δ')):ay s t δ = t δ':=by simp only[ay,h,Option.bind_some]
theorem Ft{s t:Sf}{δ δ':Dv}{d:D}(h:s δ = some (.rt d,δ')):ay s t δ = some (.rt d,δ'):=by simp only[ay,h,Option.bind_some]
theorem kK{N:List Str}{n:Nat}{b:Sf}{as:List D}{d:D}{δ':Dv}(hl:as.length=n)(h:b (aJ N as)=some (.rt d,δ')):bC N n b as=some d:=by unfold bC;rw[if_pos hl,h];rfl
theorem HD{f g:Dv->Option Bool}{δ:Dv}(h:f δ = some true):nr f g δ = some true:=by unfold nr;rw[h];rfl
theorem DJ{f g:Dv->Option Bool}{δ:Dv}(h:f δ = some false):nr f g δ = g δ:=by unfold nr;rw[h];rfl
theorem oi{t:Dv->Option Bool}{u w:Sf}{δ:Dv}(h:t δ = some true):dX t u w δ = u δ:=by unfold dX;rw[h];rfl
theorem jk{t:Dv->Option Bool}{u w:Sf}{δ:Dv}(h:t δ = some false):dX t u w δ = w δ:=by unfold dX;rw[h];rfl
theorem IM(a:Nat):Builtin.bitAnd (a:Int) 1=((a%2:Nat):Int):=by
 have:=MA.Gg a 1;rw[show((1:Nat):Int)=1 from rfl]at this;rw[this,Nat.and_one_is_mod]
theorem u0(a h:Nat):tJ (.int (a:Int)) (.int (h:Int))=some (.int ((a/2^h:Nat):Int)):=by
 rw[yP (by lia),Int.toNat_natCast];congr 2
theorem B3{a:Nat}(k:Nat)(ha:a<2^100000)(hk:k<=100000):kF (.int (a:Int)) (.int (k:Int))=some (.int ((a*2^k:Nat):Int)):=by
 have hb:(a:Int).natAbs<2^100000:=by rw[natAbs_natCast];exact ha
 have:=MA.qq hb;rw[yQ (by lia) (by lia),Int.toNat_natCast];congr 2
theorem wM{a:Nat}(h:a<2^64):a<2^100000:=lt_of_lt_of_le h (pow_le_pow_right (by decide) (by decide))
def ag(hs:List Nat):List D:=hs.map λh=>.int ((h:Nat):Int)
theorem bG(hs:List Nat):(ag hs).length=hs.length:=by simp[ag]
theorem zR(hs:List Nat){k:Nat}(h:k<hs.length):lq (ag hs) (k:Int)=some (.int (hs.getD k 0:Nat)):=by
 refine i8 rfl ?_;unfold ag;rw[List.getElem?_map,List.getD_eq_getElem?_getD,List.getElem?_eq_getElem h];rfl
theorem B7{n:Nat}(hn:n<=16777216):d6 [.int (n:Int)]=some ((List.range n).map λk:Nat=>PyData.int (0+(k:Int))):=wX (j:=(n:Int)) (by lia) (by lia)
theorem rE{fs:Dv->Option (List D)}{g:List D->Option (List D)}{δ:Dv}{ds r:List D}(h:fs δ = some ds)(h2:g ds=some r):oL fs g δ = some r:=by unfold oL;rw[h];exact h2
def tS(p:Nat×Int):D:=.tuple [.int p.1,.int p.2]
theorem FO{n q:Nat}(h:q<n):Br n (q:Int)=some q:=by
 unfold Br;rw[if_pos (by lia),if_pos (by lia)];simp
theorem CB(a:Nat){k:Nat}(hk:0<k):bA (.int (a:Int)) (.int (k:Int))=some (.int ((a%k:Nat):Int)):=by
 rw[rH (by lia)];congr 2
theorem jq(a:Nat):bA (.int (a:Int)) (.int 2)=some (.int ((a%2:Nat):Int)):=CB a (k:=2) (by decide)
theorem q9{k:Nat}(hk:k<=100000):kF (.int 1) (.int (k:Int))=some (.int ((2^k:Nat):Int)):=by
 have:=B3 (a:=1) k (wM (by decide)) hk;rw[Nat.one_mul]at this;exact this
theorem oA(a b:List Nat):ag (a++b)=ag a++ag b:=by simp[ag]
def oneD(w l:Nat)(hv:Int)(c:Nat)(ps:List (Nat×Int))(ts hs:List Nat):D:=.tuple [.tuple [.int w,.int l],.int hv,.int c,.tuple (ps.map tS),.tuple (ag ts),.tuple (ag hs)]
theorem zH(w l:Nat)(hv:Int)(c:Nat)(ps:List (Nat×Int))(ts hs:List Nat):aI (oneD w l hv c ps ts hs) (.int 0)=some (.tuple [.int w,.int l]):=rfl
theorem zG(w l:Nat)(hv:Int)(c:Nat)(ps:List (Nat×Int))(ts hs:List Nat):aI (oneD w l hv c ps ts hs) (.int 1)=some (.int hv):=rfl
theorem zF(w l:Nat)(hv:Int)(c:Nat)(ps:List (Nat×Int))(ts hs:List Nat):aI (oneD w l hv c ps ts hs) (.int 2)=some (.int c):=rfl
theorem vn(w l:Nat)(hv:Int)(c:Nat)(ps:List (Nat×Int))(ts hs:List Nat):aI (oneD w l hv c ps ts hs) (.int 3)=some (.tuple (ps.map tS)):=rfl
theorem DH(w l:Nat)(hv:Int)(c:Nat)(ps:List (Nat×Int))(ts hs:List Nat):aI (oneD w l hv c ps ts hs) (.int 4)=some (.tuple (ag ts)):=rfl
theorem zS(w:Nat):gC (.int 2) (.int (w:Int))=some (.int (2*(w:Int))):=lR (.of_left (by decide))
theorem rL{α:Type}{f:D->Option D}{h k:α -> D}:∀(xs:List α),(∀x∈xs,f (h x)=some (k x))->xp f (xs.map h)=some (xs.map k)
 |[],_=>rfl
 |x::xs,H=>by
  show((f (h x)).bind λy=>_)=_
  rw[H x mem_cons_self];show((xp f (xs.map h)).bind λys=>_)=_
  rw[rL xs λy hy=>H y (mem_cons_of_mem _ hy)]
  rfl
theorem su{α:Type}{t:D->Option Bool}{f:D->Option D}{h k:α -> D}{b:α -> Bool}:∀(xs:List α),(∀x∈xs,t (h x)=some (b x))->(∀x∈xs,b x=true->f (h x)=some (k x))->gi t f (xs.map h)=some ((xs.filter b).map k)
 |[],_,_=>rfl
 |x::xs,H,G=>by
  have ih:=su (k:=k) xs (λy hy=>H y (mem_cons_of_mem _ hy)) (λy hy=>G y (mem_cons_of_mem _ hy))
  show((t (h x)).bind λc=>_)=_
  rw[H x mem_cons_self,Option.bind_some];cases e:b x with
  |false=>simp[e,ih]
  |true=>simp[e,ih,G x mem_cons_self e]
theorem mM{α:Type}{fi:Dv->Option (List D)}{caps:List (Nat×Str)}{fe:Dv->Option D}{δ:Dv}{h k:α -> D}{xs:List α}(e:fi δ = some (xs.map h))(hl:xs.length<=16777216)(H:∀x∈xs,fe (.fz (h x)::bp δ caps)=some (k x)):gA fi caps mQ fe δ = some (.list (xs.map k)):=by
 unfold gA;rw[e,Option.bind_some,if_pos (by rw[length_map];exact hl),rL xs (k:=k) λx hx=>by
  show fe _=_;exact H x hx]
 rfl
theorem bh{α:Type}{fi:Dv->Option (List D)}{caps:List (Nat×Str)}{ft:Dv->Option Bool}{fe:Dv->Option D}{δ:Dv}{h k:α -> D}{b:α -> Bool}{xs:List α}(e:fi δ = some (xs.map h))(hl:xs.length<=16777216)(H:∀x∈xs,ft (.fz (h x)::bp δ caps)=some (b x))(G:∀x∈xs,b x=true->fe (.fz (h x)::bp δ caps)=some (k x)):bF fi caps mQ ft fe δ = some (.list ((xs.filter b).map k)):=by
 unfold bF;rw[e,Option.bind_some,if_pos (by rw[length_map];exact hl),su xs (b:=b) (k:=k) (λx hx=>by
  show ft _=_;exact H x hx) (λx hx hb=>by
  show fe _=_;exact G x hx hb)]
 rfl
theorem wn{fi:Dv->Option (List D)}{caps:List (Nat×Str)}{fe:Dv->Option D}{δ:Dv}{N:Nat}{y:Nat->D}(e:fi δ = some ((List.range N).map λk:Nat=>PyData.int (0+(k:Int))))(hl:N<=16777216)(H:∀p:Nat,p<N->fe (.fz (.int p)::bp δ caps)=some (y p)):gA fi caps mQ fe δ = some (.list ((List.range N).map y)):=by
 refine mM e (by rw[length_range];exact hl) λp hp=>?_
 rw[Int.zero_add];exact H p (List.mem_range.mp hp)
@[simp] theorem Jn(u w:Sf)(δ:Dv)(a b:Int):Jo u w δ (!(a==b))=if a=b then w δ else u δ:=by
 by_cases h:a=b
 .subst h;simp
 .have:(a==b)=false:=by simpa using h
  rw[this,if_neg h];rfl
abbrev As:=List (Nat×Nat)
def vl(A:As)(k:Nat):Nat:=((A.find? λp=>decide (p.1=k)).map (·.2)).getD 0
def m8(A:As)(k v:Nat):As:=if(A.any λp=>decide (p.1=k))=true then A.map (λp=>if p.1=k then(p.1,v)else p)else A++[(k,v)]
def de(A:As):List (aw×D):=A.map λp=>(.inl (p.1:Int),.int (p.2:Int))
def ak(A:As):List Nat:=A.map (·.1)
theorem j7(a b:Nat):((Sum.inl (a:Int):aw)=.inl (b:Int))↔a=b:=by
 constructor
 .intro h;exact Int.ofNat.inj (Sum.inl.inj h)
 .intro h;rw[h]
theorem vR(A:As)(k:Nat):eL (de A) (.inl (k:Int))=(A.find? λp=>decide (p.1=k)).map λp=>.int (p.2:Int):=by
 induction A with
 |nil=>rfl
 |cons p A ih=>
  unfold eL de at *;rw[map_cons,List.find?_cons,List.find?_cons];by_cases h:p.1=k
  .have:((Sum.inl (p.1:Int):aw)=.inl (k:Int)):=(j7 _ _).mpr h
   simp[h]
  .have:¬((Sum.inl (p.1:Int):aw)=.inl (k:Int)):=λz=>h ((j7 _ _).mp z)
   simp only[this,h,decide_false];exact ih
theorem uo(A:As)(k:Nat):(eL (de A) (.inl (k:Int))).getD (.int 0)=.int (vl A k:Int):=by
 rw[vR];unfold vl;cases A.find? λp=>decide (p.1=k)with
 |none=>rfl
 |some p=>rfl
theorem Gh(A:As)(k:Nat):((de A).any λp=>decide (p.1=.inl (k:Int)))=A.any λp=>decide (p.1=k):=by
 unfold de;rw[List.any_map];congr 1;funext p;simp only[Function.comp,decide_eq_decide];exact j7 _ _
theorem pF(A:As)(k v:Nat):jl (de A) (.inl (k:Int)) (.int (v:Int))=de (m8 A k v):=by
 unfold jl m8;rw[Gh];split
 .unfold de
  rw[map_map,map_map];apply map_congr_left;intro p _;show(if(Sum.inl (p.1:Int):aw)=.inl (k:Int)then _ else _)=_;by_cases h:p.1=k
  .rw[if_pos ((j7 _ _).mpr h)]
   simp[h]
  .rw[if_neg (λz=>h ((j7 _ _).mp z))]
   simp[h]
 .unfold de
  rw[map_append];rfl
theorem gu(A:As)(k:Nat):(A.any λp=>decide (p.1=k))=true↔k∈ak A:=by
 simp[ak,List.any_eq_true]
theorem cU(p:Nat×Nat)(A:As)(k:Nat):vl (p::A) k=if p.1=k then p.2 else vl A k:=by
 unfold vl;rw[List.find?_cons];by_cases h:p.1=k<;>simp[h]
theorem ja{A:As}{k:Nat}(h:k∉ak A):vl A k=0:=by
 unfold vl;have:(A.find? λp=>decide (p.1=k))=none:=by
  rw[List.find?_eq_none];intro p hp;simp only[decide_eq_true_eq];exact λz=>h (List.mem_map.mpr ⟨p,hp,z⟩)
 rw[this];rfl
theorem Em(A:As)(k v j:Nat)(h:k∉ak A):vl (A++[(k,v)]) j=if j=k then v else vl A j:=by
 induction A with
 |nil=>
  rw[List.nil_append,cU];by_cases e:k=j
  .rw[if_pos e,if_pos e.symm]
  .rw[if_neg e,if_neg (Ne.symm e)]
 |cons p A ih=>
  have h1:k≠p.1:=λz=>h (by rw[z];exact mem_cons_self)
  have h2:k∉ak A:=λz=>h (mem_cons_of_mem _ z)
  rw[List.cons_append,cU,cU,ih h2];by_cases e:p.1=j
  .rw[if_pos e,if_pos e,if_neg (λz=>h1 (by rw[e];exact z.symm))]
  .rw[if_neg e,if_neg e]
theorem El(A:As)(k v j:Nat)(h:k∈ak A):vl (A.map λp=>if p.1=k then(p.1,v)else p) j=if j=k then v else vl A j:=by
 induction A with
 |nil=>cases h
 |cons p A ih=>
  rw[map_cons,cU,cU];by_cases hp:p.1=k
  .rw[if_pos hp]
   show(if p.1=j then v else _)=_;by_cases e:p.1=j
   .rw[if_pos e,if_pos (by rw[<-e];exact hp)]
   .rw[if_neg e,if_neg e]
    by_cases hk:k∈ak A
    .exact ih hk
    .rw[if_neg (λz=>e (by rw[hp];exact z.symm))]
     congr 1;have:∀B:As,k∉ak B->(B.map λp=>if p.1=k then(p.1,v)else p)=B:=λB=>by
      induction B with
      |nil=>intro _;rfl
      |cons q B ihB=>
       intro hB;rw[map_cons,ihB (λz=>hB (mem_cons_of_mem _ z)),if_neg (λz=>hB (by rw[<-z];exact mem_cons_self))]
     exact this A hk
  .rw[if_neg hp]
   have hk:k∈ak A:=by
    rcases List.mem_cons.mp h with z|z
    .exact absurd z.symm hp
    .exact z
   rw[ih hk];by_cases e:p.1=j
   .rw[if_pos e,if_pos e,if_neg (λz=>hp (by rw[e];exact z))]
   .rw[if_neg e,if_neg e]
theorem iL(A:As)(k v j:Nat):vl (m8 A k v) j=if j=k then v else vl A j:=by
 unfold m8;by_cases h:(A.any λp=>decide (p.1=k))=true
 .rw[if_pos h];exact El A k v j ((gu A k).mp h)
 .rw[if_neg h];exact Em A k v j λz=>h ((gu A k).mpr z)
theorem jv(A:As)(k v:Nat):ak (m8 A k v)=if k∈ak A then ak A else ak A++[k]:=by
 unfold m8;by_cases h:k∈ak A
 .rw[if_pos ((gu A k).mpr h),if_pos h]
  unfold ak;rw[map_map];apply map_congr_left;intro p _;simp only[Function.comp];split<;>rfl
 .rw[if_neg (λz=>h ((gu A k).mp z)),if_neg h]
  unfold ak;rw[map_append];rfl
theorem t9{A:As}(h:(ak A).Nodup)(k v:Nat):(ak (m8 A k v)).Nodup:=by
 rw[jv];split
 .exact h
 .rename_i hk
  rw[List.nodup_append];exact⟨h,by simp,λa ha b hb=>by simp at hb;subst hb;exact λz=>hk (by rw[<-z];exact ha)⟩
theorem gG{A:As}(nd:(ak A).Nodup){p:Nat×Nat}(h:p∈A):vl A p.1=p.2:=by
 induction A with
 |nil=>cases h
 |cons q A ih=>
  rw[cU];have nd':=List.nodup_cons.mp (show(q.1::ak A).Nodup from nd);rcases List.mem_cons.mp h with rfl|h
  .rw[if_pos rfl]
  .rw[if_neg (λz=>nd'.1 (by rw[z];exact List.mem_map.mpr ⟨p,h,rfl⟩))]
   exact ih nd'.2 h
theorem qX:∀{a b:List Nat},a.Pairwise (· < ·)->b.Pairwise (· < ·)->(∀k,k∈a↔k∈b)->a=b
 |[],b,_,_,h=>by
  cases b with
  |nil=>rfl
  |cons y b=>exact absurd ((h y).mpr mem_cons_self) (by simp)
 |x::a,b,ha,hb,h=>by
  cases b with
  |nil=>exact absurd ((h x).mp mem_cons_self) (by simp)
  |cons y b=>
   obtain⟨a1,a2⟩:=List.pairwise_cons.mp ha;obtain⟨b1,b2⟩:=List.pairwise_cons.mp hb;have e:x=y:=by
    rcases List.mem_cons.mp ((h x).mp mem_cons_self)with z|z
    .exact z
    .rcases List.mem_cons.mp ((h y).mpr mem_cons_self)with w|w
     .exact w.symm
     .have:=b1 x z
      have:=a1 y w
      lia
   subst e;rw[qX a2 b2 λk=>?_]
   constructor
   .intro z
    rcases List.mem_cons.mp ((h k).mp (mem_cons_of_mem _ z))with w|w
    .have:=a1 k z;lia
    .exact w
   .intro z
    rcases List.mem_cons.mp ((h k).mpr (mem_cons_of_mem _ z))with w|w
    .have:=b1 k z;lia
    .exact w
def cI(k:Nat):Int:=(k:Int)
def pD(p:Nat×Nat):D:=.tuple [.int (p.1:Int),.int (p.2:Int)]
theorem rh:∀S:As,jU (S.map pD)=some (de S)
 |[]=>rfl
 |p::S=>by
  show(vi (pD p)).bind _=_;show(some ((Sum.inl (p.1:Int):aw),PyData.int (p.2:Int))).bind _=_;rw[Option.bind_some,rh S];rfl
theorem vW:∀(S A:As),(ak (A++S)).Nodup->(de S).foldl (λacc p=>jl acc p.1 p.2) (de A)=de (A++S)
 |[],A,_=>by rw[append_nil];rfl
 |p::S,A,h=>by
  show(de S).foldl _ (jl (de A) (.inl (p.1:Int)) (.int (p.2:Int)))=_;have hn:p.1∉ak A:=λz=>by
   unfold ak at h z;rw[map_append,List.nodup_append]at h;exact h.2.2 p.1 z p.1 (by simp) rfl
  rw[pF,show m8 A p.1 p.2=A++[p]from if_neg (λz=>hn ((gu A p.1).mp z)),vW S (A++[p]) (by rw[append_assoc];exact h),append_assoc]
  rfl
theorem lZ:∀A:As,oD (de A)=some ((ak A).map cI)
 |[]=>rfl
 |p::A=>by
  show(oD (de A)).bind _=_;rw[lZ A];rfl
theorem kY(ks:List Nat)(nd:ks.Nodup):∃rs:List Nat,aQ (ks.map cI)=rs.map (cI)/\rs.Perm ks/\rs.Pairwise (· < ·):=by
 have pm:=cO (ks.map cI);have pw:=j3 (ks.map cI);obtain⟨l,hl⟩:∃l,aQ (ks.map cI)=l:=⟨_,rfl⟩;rw[hl]at pm pw ⊢;have e:l=(l.map Int.toNat).map cI:=by
  rw[map_map];have:∀x∈l,((cI) ∘ Int.toNat) x=x:=λx hx=>by
   obtain⟨k,_,rfl⟩:=List.mem_map.mp (pm.mem_iff.mp hx);simp[cI]
  rw[map_congr_left this,map_id']
 have p2:(l.map Int.toNat).Perm ks:=by
  have:=pm.map Int.toNat;rw[map_map]at this;have e2:ks.map (Int.toNat ∘ cI)=ks:=by
   have:∀x∈ks,(Int.toNat ∘ cI) x=x:=λx _=>by simp[cI]
   rw[map_congr_left this,map_id']
  rw[e2]at this;exact this
 refine⟨l.map Int.toNat,e,p2,?_⟩;have nd2:(l.map Int.toNat).Nodup:=p2.nodup_iff.mpr nd;rw[e,List.pairwise_map]at pw;rw[List.nodup_iff_pairwise_ne]at nd2;exact(pw.and nd2).imp λ{a b} h=>by
  have h1:(a:Int)<=(b:Int):=h.1;have h2:=h.2
  lia
theorem AA{A:As}{k:Nat}(h:k∈ak A):eL (de A) (.inl (k:Int))=some (.int (vl A k:Int)):=by
 rw[vR];unfold vl;cases e:A.find? λp=>decide (p.1=k)with
 |none=>
  obtain⟨p,hp,rfl⟩:=List.mem_map.mp h;have:=List.find?_eq_none.mp e p hp;simp at this
 |some p=>rfl
theorem Am(A:As)(nd:(ak A).Nodup)(hl:A.length<64):∃rs:List Nat,rs.Perm (ak A)/\rs.Pairwise (· < ·)/\∀(δ:Dv) (i:Nat),B2 δ[i]? = some (de A)->jn i δ = some (.list (rs.map λk=>pD (k,vl A k))):=by
 obtain⟨rs,e,p,pw⟩:=kY (ak A) nd;refine⟨rs,p,pw,λδ i h=>?_⟩
 unfold jn;rw[h,Option.bind_some,lZ,Option.bind_some,if_pos ⟨by rw[length_map];unfold ak;rw[length_map];exact hl,by
  rw[List.nodup_iff_pairwise_ne,List.pairwise_map];rw[List.nodup_iff_pairwise_ne]at nd;exact nd.imp λ{a b} h=>by unfold cI;lia⟩]
 unfold uh;rw[e,map_map];congr 2;apply map_congr_left;intro k hk;have hk:=p.mem_iff.mp hk;show PyData.tuple [.int (k:Int),(eL (de A) (.inl (k:Int))).getD .none]=_;rw[AA hk];rfl
theorem KH(b1 e1 G:Int)(es:List (aw×D))(z0 z1 z2 z4:Sl)(hG:(eL es (.inl b1)).getD (.int 0)=.int G)(hl:es.length<sizeLine):(if b1=0 then some (Fl.nx,[z0,z1,z2,.od es,z4,.fz (.int b1),.fz (.int e1)])else gM 3 (oV 5) (o2 (o2 (iR 3 (oV 5) (oC (.int 0))) (oV 6) cG) (oC (.int 8)) bA) [z0,z1,z2,.od es,z4,.fz (.int b1),.fz (.int e1)])=some (.nx,[z0,z1,z2,.od (if b1=0 then es else jl es (.inl b1) (.int ((G+e1)%8))),z4,.fz (.int b1),.fz (.int e1)]):=by
 by_cases h:b1=0
 .rw[if_pos h,if_pos h]
 .rw[if_neg h,if_neg h]
  simp[gM,iR,hG,hl]
theorem Dk(t b e a b1 e1 t1 G:Int)(es:List (aw×D))(P:D)(z1 z2 z5 z6:Sl)(p0:aI P (.int 0)=some (.int b))(p1:aI P (.int 1)=some (.int e))(ha:Builtin.bitAnd b 1=a)(hb1:(if a=1 then Builtin.bitXor b 1 else b)=b1)(he1:(if a=1 then -e else e)=e1)(ht1:(if a=1 then t+e else t)=t1)(hG:(eL es (.inl b1)).getD (.int 0)=.int G)(hl:es.length<sizeLine):bO [.fz (.int t),z1,z2,.od es,.fz P,z5,z6]=some (.nx,[.fz (.int t1),z1,z2,.od (if b1=0 then es else jl es (.inl b1) (.int ((G+e1)%8))),.fz P,.fz (.int b1),.fz (.int e1)]):=by
 have q:=KH b1 e1 G es (.fz (.int t1)) z1 z2 (.fz P) hG hl;by_cases h:a=1
 .rw[if_pos h]at hb1 he1 ht1
  subst h hb1 he1 ht1;simp[-ay,-dX,d5,gL,bO,p0,p1,ha];exact q
 .rw[if_neg h]at hb1 he1 ht1
  subst hb1 he1 ht1;have n:iy (.int a) (.int 1)=some (.bool false):=by simp[h]
  simp[-ay,-dX,d5,gL,bO,p0,p1,ha,n];exact q
def DK(A:As)(rs:List Nat):As:=(rs.filter λk=>decide (vl A k≠0)).map λk=>(k,vl A k)
theorem Hw(A:As)(nd:(ak A).Nodup)(hl:A.length<64):∃rs:List Nat,rs.Perm (ak A)/\rs.Pairwise (· < ·)/\∀z0 z1 z2 z4 z5 z6,f9 [z0,z1,z2,.od (de A),z4,z5,z6]=some (.list ((DK A rs).map pD)):=by
 obtain⟨rs,p,pw,it⟩:=Am A nd hl;refine⟨rs,p,pw,λz0 z1 z2 z4 z5 z6=>?_⟩
 have hln:rs.length<=1000:=by rw[p.length_eq];unfold ak;rw[length_map];lia
 have:=bh (fi:=oI (jn 3) aV) (caps:=[]) (ft:=ob (o2 (o2 (oV 0) (oC (.int 1)) aI) (oC (.int 0)) neD)) (fe:=oV 0) (δ:=[z0,z1,z2,.od (de A),z4,z5,z6]) (h:=λk=>pD (k,vl A k)) (k:=λk=>pD (k,vl A k)) (b:=λk=>decide (vl A k≠0)) (xs:=rs) (by
  have:=it [z0,z1,z2,.od (de A),z4,z5,z6] 3 rfl;simp[this]) (by lia) (λk _=>by
  have b1:aI (pD (k,vl A k)) (.int 1)=some (.int (vl A k:Int)):=rfl;have e:neD (.int (vl A k:Int)) (.int 0)=some (.bool (decide (vl A k≠0))):=by
   by_cases h:vl A k=0
   .rw[h];rfl
   .have:¬((vl A k:Int)=0):=by lia
    simp[h,this]
  simp only[bp,List.map_nil,append_nil];show(((aI (pD (k,vl A k)) (.int 1)).bind λx=>neD x (.int 0)).bind asB)=_
  rw[b1,Option.bind_some,e];rfl) (λk _ _=>by simp[bp])
 have e:(DK A rs).map pD=(rs.filter λk=>decide (vl A k≠0)).map λk=>pD (k,vl A k):=by unfold DK;rw[map_map];rfl
 rw[e];exact this
def lI(A:As):List (aw×Int):=A.map λp=>(.inl (p.1:Int),(p.2:Int))
theorem vH:∀A:As,oN (de A)=some (lI A)
 |[]=>rfl
 |p::A=>by
  show(oN (de A)).bind _=_;rw[vH A];rfl
theorem DO(A:As):(lI A).map (λp=>(p.1,PyData.int p.2))=de A:=by
 unfold lI de;rw[map_map];rfl
theorem CT{A:As}{k:Nat}(h:k∈ak A):mx (lI A) (.inl (k:Int))=some (vl A k:Int):=by
 have g:=AA h;rw[<-DO]at g;unfold eL at g;unfold mx;rw[List.find?_map]at g;have e:((λp:aw×D=>decide (p.1=Sum.inl (k:Int))) ∘ λp:aw×Int=>(p.1,PyData.int p.2))=λp=>decide (p.1=Sum.inl (k:Int)):=rfl
 rw[e]at g;cases q:(lI A).find? λp=>decide (p.1=Sum.inl (k:Int))with
 |none=>rw[q]at g;cases g
 |some p=>
  rw[q]at g;have g:PyData.int p.2=PyData.int (vl A k:Int):=Option.some.inj g;show some p.2=_;rw[PyData.int.inj g]
def lK(A:As)(rs:List Nat):As:=(rs.filter λk=>decide (0<k/\0<vl A k)).map λk=>(k,vl A k)
theorem GP(b:Nat)(h:b%2=1):b ^^^ 1=b-1:=by
 have h1:(b ^^^ 1)/2=b/2:=by rw[Nat.xor_div_two,show 1/2=0 from rfl,Nat.xor_zero]
 have h2:¬(b ^^^ 1)%2=1:=λz=>by
  rw[Nat.xor_mod_two_eq_one]at z;exact z ⟨λ_=>rfl,λ_=>h⟩
 lia
theorem IJ(b:Nat)(h:b%2=1):Builtin.bitXor (b:Int) 1=((b-1:Nat):Int):=by
 have:=MA.De b 1;rw[GP b h]at this;exact this
theorem J1(bits:Nat)(h:bits%2=1):par (1 &&& bits)=1:=by
 rw[Nat.and_comm,Nat.and_one_is_mod,h];unfold par;rw[MA.eF,MA.eE]
theorem Cp(bits b:Nat)(hb:bits%2=1)(h:b%2=1):par (b &&& bits)=1-par ((b-1) &&& bits):=by
 have e:b=(b-1) ^^^ 1:=by rw[<-GP b h,Nat.xor_assoc,Nat.xor_self,Nat.xor_zero]
 have:=MA.lb ((b-1) &&& bits) (1 &&& bits);rw[<-Nat.and_xor_distrib_right,<-e,J1 bits hb]at this;have l:=MA.gO ((b-1) &&& bits)
 lia
def sm(w:Nat->Nat):As->Nat
 |[]=>0
 |p::A=>p.2*w p.1+sm w A
theorem yL(w:Nat->Nat):∀A B:As,sm w (A++B)=sm w A+sm w B
 |[],B=>by simp[sm]
 |p::A,B=>by show _+sm w (A++B)=_;rw[yL w A B];unfold sm;cases A<;>simp[sm,Nat.add_assoc]
theorem yK(w:Nat->Nat)(k v:Nat):∀A:As,(ak A).Nodup->k∈ak A->sm w (A.map λp=>if p.1=k then(p.1,v)else p)+vl A k*w k=sm w A+v*w k
 |[],_,h=>by cases h
 |p::A,nd,h=>by
  have nd':=List.nodup_cons.mp (show(p.1::ak A).Nodup from nd);rw[map_cons,cU];by_cases hp:p.1=k
  .rw[if_pos hp,if_pos hp]
   have:(A.map λp=>if p.1=k then(p.1,v)else p)=A:=by
    have e:∀q∈A,(λp:Nat×Nat=>if p.1=k then(p.1,v)else p) q=q:=λq hq=>if_neg λz=>nd'.1 (by rw[hp,<-z];exact List.mem_map.mpr ⟨q,hq,rfl⟩)
    rw[map_congr_left e,map_id']
   rw[this];show v*w p.1+sm w A+p.2*w k=p.2*w p.1+sm w A+v*w k;rw[hp]
   lia
  .rw[if_neg hp,if_neg hp]
   have hk:k∈ak A:=by
    rcases List.mem_cons.mp h with z|z
    .exact absurd z.symm hp
    .exact z
   have:=yK w k v A nd'.2 hk;show p.2*w p.1+sm w (A.map λp=>if p.1=k then(p.1,v)else p)+vl A k*w k=p.2*w p.1+sm w A+v*w k
   lia
theorem yI(w:Nat->Nat)(A:As)(k v:Nat)(nd:(ak A).Nodup):sm w (m8 A k v)+vl A k*w k=sm w A+v*w k:=by
 unfold m8;by_cases h:(A.any λp=>decide (p.1=k))=true
 .rw[if_pos h]
  exact yK w k v A nd ((gu A k).mp h)
 .rw[if_neg h,yL,ja (λz=>h ((gu A k).mpr z))]
  simp[sm]
theorem B0(w:Nat->Nat)(A:As)(nd:(ak A).Nodup):sm w A=((ak A).map λk=>vl A k*w k).sum:=by
 have e:(ak A).map (λk=>vl A k*w k)=A.map λp=>p.2*w p.1:=by
  unfold ak;rw[map_map];exact map_congr_left λp hp=>by show vl A p.1*w p.1=_;rw[gG nd hp]
 rw[e];clear e nd
 induction A with
 |nil=>rfl
 |cons p A ih=>rw[map_cons,sum_cons,<-ih];rfl
theorem yA{a b:List Nat}(h:a.Perm b):a.sum=b.sum:=by
 induction h with
 |nil=>rfl
 |cons x _ ih=>rw[sum_cons,sum_cons,ih]
 |swap x y l=>simp only[sum_cons];lia
 |trans _ _ i1 i2=>exact i1.trans i2
theorem yJ(w:Nat->Nat)(h0:w 0=0)(A:As):∀rs:List Nat,sm w (lK A rs)=(rs.map λk=>vl A k*w k).sum
 |[]=>rfl
 |k::rs=>by
  have ih:=yJ w h0 A rs;unfold lK at ih ⊢;rw[map_cons,sum_cons,filter_cons];by_cases h:0<k/\0<vl A k
  .rw[if_pos (by simpa using h),map_cons]
   show vl A k*w k+sm w _=_;rw[ih]
  .rw[if_neg (by simpa using h),ih]
   have:vl A k*w k=0:=by
    rcases Nat.eq_zero_or_pos k with z|z
    .rw[z,h0,Nat.mul_zero]
    .have:vl A k=0:=by
      rcases Nat.eq_zero_or_pos (vl A k)with y|y
      .exact y
      .exact absurd ⟨z,y⟩ h
     rw[this,Nat.zero_mul]
   lia
theorem Ez(w:Nat->Nat)(h0:w 0=0)(A:As)(rs:List Nat)(nd:(ak A).Nodup)(p:rs.Perm (ak A)):sm w (lK A rs)=sm w A:=by
 rw[yJ w h0,B0 w A nd];exact yA (p.map _)
def nv(x:Nat)(e:Int):Nat:=(((x:Int)+e)%8).toNat
theorem oz(x:Nat)(e:Int):((nv x e:Nat):Int)=((x:Int)+e)%8:=by unfold nv;lia
theorem zN(x:Nat)(e:Int):nv x e<8:=by unfold nv;lia
structure OkA (A:As):Prop where
 nd:(ak A).Nodup
 z:0∈ak A
 lt:∀k,vl A k<8
def hb(b:Nat):Nat:=b-b%2
def he(b:Nat)(e:Int):Int:=if b%2=1 then -e else e
def yi(A:As)(b:Nat)(e:Int):As:=if b%2=1 then m8 A 0 (nv (vl A 0) e)else A
def xv(A:As)(b:Nat)(e:Int):As:=if 0<hb b then m8 (yi A b e) (hb b) (nv (vl (yi A b e) (hb b)) (he b e))else yi A b e
theorem zJ{A:As}(h:OkA A)(k v:Nat)(hv:v<8):OkA (m8 A k v):=by
 refine⟨t9 h.nd k v,?_,λj=>?_⟩
 .rw[jv]
  split
  .exact h.z
  .exact List.mem_append_left _ h.z
 .rw[iL]
  split
  .exact hv
  .exact h.lt j
theorem J3{A:As}(h:OkA A)(b:Nat)(e:Int):OkA (yi A b e):=by
 unfold yi;split
 .exact zJ h _ _ (zN _ _)
 .exact h
theorem Je{A:As}(h:OkA A)(b:Nat)(e:Int):OkA (xv A b e):=by
 unfold xv;split
 .exact zJ (J3 h b e) _ _ (zN _ _)
 .exact J3 h b e
theorem CI(A:As)(k v:Nat):(m8 A k v).length<=A.length+1:=by
 unfold m8;split
 .rw[length_map];lia
 .simp
theorem Ik{b:Nat}(h:0<hb b):0≠hb b:=by lia
theorem GS(A:As)(b:Nat)(e:Int)(k:Nat)(hk:0<k):vl (yi A b e) k=vl A k:=by
 unfold yi;split
 .rw[iL,if_neg (by lia)]
 .rfl
theorem Do(A:As)(b:Nat)(e:Int):vl (xv A b e) 0=if b%2=1 then nv (vl A 0) e else vl A 0:=by
 have q:vl (yi A b e) 0=if b%2=1 then nv (vl A 0) e else vl A 0:=by
  unfold yi;split
  .rw[iL,if_pos rfl]
  .rfl
 unfold xv;split
 .rename_i h
  rw[iL,if_neg (Ik h),q]
 .exact q
theorem Lg(A:As)(b:Nat)(e:Int)(k:Nat)(hk:0<k):vl (xv A b e) k=if k=hb b then nv (vl A k) (he b e)else vl A k:=by
 unfold xv;split
 .rename_i h
  rw[iL,GS A b e _ h,GS A b e _ hk];split
  .rename_i z;rw[z]
  .rfl
 .rename_i h
  rw[if_neg (by lia),GS A b e _ hk]
theorem jw(A:As)(rs:List Nat):ak (lK A rs)=rs.filter λk=>decide (0<k/\0<vl A k):=by
 unfold ak lK;rw[map_map];exact map_id' _
theorem Fw{A:As}(h:OkA A){rs:List Nat}(p:rs.Perm (ak A)):(ak (lK A rs)).Nodup:=by
 rw[jw];exact List.Nodup.sublist filter_sublist (p.nodup_iff.mpr h.nd)
theorem ua{A:As}{k:Nat}(h:vl A k≠0):k∈ak A:=Classical.byContradiction λz=>h (ja z)
theorem Ei{A:As}(h:OkA A){rs:List Nat}(p:rs.Perm (ak A))(k:Nat):vl (lK A rs) k=if 0<k then vl A k else 0:=by
 by_cases hk:k∈ak (lK A rs)
 .have hk':=hk
  rw[jw,mem_filter]at hk';obtain⟨h1,h2⟩:=hk';have h2:0<k/\0<vl A k:=by simpa using h2
  rw[if_pos h2.1];exact gG (Fw h p) (p:=(k,vl A k)) (List.mem_map.mpr ⟨k,List.mem_filter.mpr ⟨h1,by simpa using h2⟩,rfl⟩)
 .rw[ja hk]
  by_cases h0:0<k
  .rw[if_pos h0]
   refine Classical.byContradiction λz=>hk ?_
   rw[jw,mem_filter];exact⟨p.mem_iff.mpr (ua (Ne.symm z)),by simp[h0];lia⟩
  .rw[if_neg h0]
def pB(S:As)(b:Nat)(e:Int):As:=if hb b=0 then S else m8 S (hb b) (nv (vl S (hb b)) (he b e))
def iM:Nat:=2^1100
theorem zQ(rs:List Nat):(rs.map cI).map PyData.int=ag rs:=by
 unfold ag cI;rw[map_map];rfl
def upI(A:As):List (Nat×Int):=A.map λp=>(p.1,(p.2:Int))
theorem qF(A:As):(upI A).map tS=A.map pD:=by
 unfold upI;rw[map_map];rfl
structure Sm (w l:Nat) (hv:Int) (c:Nat) (ps:As) (ts hs:List Nat) (n m:Nat):Prop where
 w1:1<=w
 w3:w<=3
 l2:l<=2
 v1:-1000<=hv
 v2:hv<=1000
 c8:c<8
 pk:(ak ps).Pairwise (· < ·)
 pe:∀p∈ps,2<=p.1/\p.1%2=0/\p.1<iM/\1<=p.2/\p.2<=7
 pl:ps.length<=m
 tk:ts.Pairwise (· < ·)
 te:∀t∈ts,0<t/\t<iM
 tl:ts.length<=m
 hl:hs.length<=n
 pw:hs.Pairwise (· < ·)
 hb:∀h∈hs,2*w+1+l<=h/\h<900
def n4(S:As):List (Nat×Int)->As
 |[]=>S
 |q::Q=>n4 (pB S q.1 q.2) Q
def tv:List (Nat×Int)->Int
 |[]=>0
 |q::Q=>(if q.1%2=1 then q.2 else 0)+tv Q
def kv(k:Nat):List (Nat×Int)->Int
 |[]=>0
 |q::Q=>(if hb q.1=k then he q.1 q.2 else 0)+kv k Q
theorem Ej(S:As)(b:Nat)(e:Int){k:Nat}(hk:0<k):vl (pB S b e) k=if hb b=k then nv (vl S k) (he b e)else vl S k:=by
 unfold pB;by_cases z:hb b=0
 .rw[if_pos z,if_neg (by lia)]
 .rw[if_neg z,iL]
  by_cases y:hb b=k
  .rw[if_pos y,if_pos y.symm,y]
  .rw[if_neg y,if_neg (λq=>y q.symm)]
theorem ym{k:Nat}(hk:0<k):∀(Q:List (Nat×Int)) (S:As),vl S k<8->(vl (n4 S Q) k:Int)=((vl S k:Int)+kv k Q)%8
 |[],S,h=>by
  show(vl S k:Int)=(_+0)%8
  lia
 |q::Q,S,h=>by
  have ih:=ym hk Q (pB S q.1 q.2);have e:=Ej S q.1 q.2 hk;show(vl (n4 (pB S q.1 q.2) Q) k:Int)=((vl S k:Int)+((if hb q.1=k then he q.1 q.2 else 0)+kv k Q))%8;by_cases y:hb q.1=k
  .rw[if_pos y]at e ⊢
   have h2:=zN (vl S k) (he q.1 q.2);have h3:=oz (vl S k) (he q.1 q.2);rw[ih (by lia),e,h3]
   lia
  .rw[if_neg y]at e ⊢
   rw[ih (by lia),e]
   lia
theorem HJ{S:As}(h:(ak S).Nodup)(b:Nat)(e:Int):(ak (pB S b e)).Nodup:=by
 unfold pB;split
 .exact h
 .exact t9 h _ _
theorem z8(S:As)(b:Nat)(e:Int):(pB S b e).length<=S.length+1:=by
 unfold pB;split
 .lia
 .exact CI S _ _
theorem zP:∀(Q:List (Nat×Int)) {S:As},(ak S).Nodup->(ak (n4 S Q)).Nodup
 |[],_,h=>h
 |q::Q,_,h=>zP Q (HJ h q.1 q.2)
theorem vx:∀(Q:List (Nat×Int)) (S:As),(n4 S Q).length<=S.length+Q.length
 |[],S=>Nat.le_refl _
 |q::Q,S=>by
  have:=vx Q (pB S q.1 q.2);have:=z8 S q.1 q.2;show(n4 (pB S q.1 q.2) Q).length<=_;rw[length_cons]
  lia
theorem Gs(t:Int)(S:As)(b:Nat)(e:Int)(z1 z2 z5 z6:Sl)(hl:S.length<1000):∃y5 y6,bO [.fz (.int t),z1,z2,.od (de S),.fz (tS (b,e)),z5,z6]=some (.nx,[.fz (.int (t+if b%2=1 then e else 0)),z1,z2,.od (de (pB S b e)),.fz (tS (b,e)),y5,y6]):=by
 have e2:(if((b%2:Nat):Int)=1 then Builtin.bitXor (b:Int) 1 else b)=((hb b:Nat):Int):=by
  unfold hb;by_cases o:b%2=1
  .rw[if_pos (by lia),IJ b o,o]
  .rw[if_neg (by lia)];lia
 have e3:(if((b%2:Nat):Int)=1 then -e else e)=he b e:=by
  unfold he;by_cases o:b%2=1
  .rw[if_pos o,if_pos (by lia)]
  .rw[if_neg o,if_neg (by lia)]
 have e4:(if((hb b:Nat):Int)=0 then de S else jl (de S) (.inl (hb b:Nat)) (.int (((vl S (hb b):Nat)+he b e)%8)))=de (pB S b e):=by
  unfold pB;by_cases o:hb b=0
  .rw[if_pos o,if_pos (by lia)]
  .rw[if_neg o,if_neg (by lia),<-oz]
   exact pF _ _ _
 have e5:(if((b%2:Nat):Int)=1 then t+e else t)=t+if b%2=1 then e else 0:=by
  by_cases o:b%2=1
  .rw[if_pos o,if_pos (by lia)]
  .rw[if_neg o,if_neg (by lia)];lia
 have sz:sizeLine>=1001:=by decide
 have st:=Dk t b e ((b%2:Nat):Int) (hb b:Nat) (he b e) _ (vl S (hb b):Nat) (de S) (tS (b,e)) z1 z2 z5 z6 rfl rfl (IM b) e2 e3 e5 (uo _ _) (by unfold de;rw[length_map];lia);rw[e4]at st;exact⟨_,_,st⟩
theorem wF(z1 z2:Sl):∀(Q:List (Nat×Int)) (t:Int) (S:As) (z4 z5 z6:Sl),S.length+Q.length<1000->∃y4 y5 y6,loop (gN 4) bO (Q.map tS) [.fz (.int t),z1,z2,.od (de S),z4,z5,z6]=some (.nx,[.fz (.int (t+tv Q)),z1,z2,.od (de (n4 S Q)),y4,y5,y6])
 |[],t,S,z4,z5,z6,_=>⟨z4,z5,z6,by
  show some (Fl.nx,[Sl.fz (.int t),z1,z2,.od (de S),z4,z5,z6])=some (.nx,[.fz (.int (t+0)),z1,z2,.od (de S),z4,z5,z6]);rw[Int.add_zero]⟩
 |q::Q,t,S,z4,z5,z6,h=>by
  rw[length_cons]at h;obtain⟨w5,w6,e1⟩:=Gs t S q.1 q.2 z1 z2 z5 z6 (by lia);have hl:=z8 S q.1 q.2;obtain⟨y4,y5,y6,e2⟩:=wF z1 z2 Q (t+if q.1%2=1 then q.2 else 0) (pB S q.1 q.2) (.fz (tS q)) w5 w6 (by lia);refine⟨y4,y5,y6,?_⟩;rw[map_cons,fC (δ1:=[.fz (.int t),z1,z2,.od (de S),.fz (tS q),z5,z6]) (by simp) e1,e2,Int.add_assoc];rfl
structure RR (R:As) (f:Nat->Int):Prop where
 pk:(ak R).Pairwise (· < ·)
 val:∀k,0<k->(vl R k:Int)=f k%8
 nz:∀p∈R,0<p.1/\p.2≠0
theorem jp{l:List Nat}(h:l.Pairwise (· < ·)):l.Nodup:=by
 rw[List.nodup_iff_pairwise_ne];exact h.imp λ{a b} q=>by lia
theorem RR.keys{R:As}{f:Nat->Int}(h:RR R f)(k:Nat):k∈ak R↔0<k/\f k%8≠0:=by
 constructor
 .intro hk
  obtain⟨p,hp,rfl⟩:=List.mem_map.mp hk;have h1:=h.nz p hp;have h2:=h.val p.1 h1.1;rw[gG (jp h.pk) hp]at h2;exact⟨h1.1,by lia⟩
 .intro ⟨h0,hk⟩
  have h2:=h.val k h0;exact ua (by lia)
theorem wE:∀{R:As},(ak R).Nodup->R=(ak R).map λk=>(k,vl R k):=λ{R} nd=>by
 unfold ak;rw[map_map];refine(List.map_id R).symm.trans (map_congr_left λp hp=>?_);show p=(p.1,vl R p.1);rw[gG nd hp]
theorem RR.one{R R':As}{f g:Nat->Int}(h:RR R f)(h':RR R' g)(e:∀k,0<k->f k%8=g k%8):R=R':=by
 have k1:ak R=ak R':=qX h.pk h'.pk λk=>by
  rw[h.keys,h'.keys];constructor
  .intro ⟨a,b⟩;exact⟨a,by rw[<-e k a];exact b⟩
  .intro ⟨a,b⟩;exact⟨a,by rw[e k a];exact b⟩
 rw[wE (jp h.pk),wE (jp h'.pk),k1];refine map_congr_left λk hk=>?_
 have h0:0<k:=((h'.keys k).mp hk).1;have h1:=h.val k h0;have h2:=h'.val k h0;have:=e k h0;congr 1
 lia
theorem C7(S:As)(h:(ak S).Nodup)(hl:S.length<=1000):sC (.list (S.map pD))=some (de S):=by
 show(jU (S.map pD)).bind _=_;rw[rh,Option.bind_some,length_map,if_pos hl];exact congrArg some (vW S [] h)
theorem Gu(t t':Int)(T:D)(Q L:List D)(es es':List (aw×D))(y4 y5 y6:Sl)(hT:sC T=some es)(lp:loop (gN 4) bO Q [.fz (.int t),.fz T,.fz (.list Q),.od es,.un,.un,.un]=some (.nx,[.fz (.int t'),.fz T,.fz (.list Q),.od es',y4,y5,y6]))(p:f9 [.fz (.int t'),.fz T,.fz (.list Q),.od es',y4,y5,y6]=some (.list L)):bK [.int t,T,.list Q]=some (.tuple [.int (t' % 8),.tuple L]):=by
 simp[-ay,-dX,d5,gL,bK,bC,ii,aJ,tP,hT,lp,p]
theorem zk:∀(Q:List (Nat×Int)) {S:As},0∉ak S->0∉ak (n4 S Q)
 |[],_,h=>h
 |q::Q,S,h=>zk Q (by
  unfold pB;split
  .exact h
  .rename_i z
   rw[jv];split
   .exact h
   .intro y
    rcases List.mem_append.mp y with y|y
    .exact h y
    .exact z (List.mem_singleton.mp y).symm)
theorem qy(t:Int)(S:As)(hk:(ak S).Nodup)(h8:∀k,vl S k<8)(Q:List (Nat×Int))(hl:S.length+Q.length<64)(h0:0∉ak S):∃R:As,RR R (λk=>(vl S k:Int)+kv k Q)/\R.length<=S.length+Q.length/\∀T,sC T=some (de S)->bK [.int t,T,.list (Q.map tS)]=some (.tuple [.int ((t+tv Q)%8),.tuple (R.map pD)]):=by
 have nd:=zP Q hk;have ln:=vx Q S;obtain⟨rs,p,pw,hp⟩:=Hw (n4 S Q) nd (by lia);refine⟨DK (n4 S Q) rs,⟨?_,λk h=>?_,λq hq=>?_⟩,?_,λT hT=>?_⟩
 .unfold DK ak
  rw[map_map];have:(rs.filter λk=>decide (vl (n4 S Q) k≠0)).map ((λp:Nat×Nat=>p.1) ∘ λk=>(k,vl (n4 S Q) k))=rs.filter λk=>decide (vl (n4 S Q) k≠0):=map_id' _
  rw[this];exact pw.sublist filter_sublist
 .rw[<-ym h Q S (h8 k)]
  congr 1;by_cases z:vl (n4 S Q) k=0
  .rw[z]
   refine ja λhq=>?_
   obtain⟨r,hr,rfl⟩:=List.mem_map.mp hq;obtain⟨j,hj,rfl⟩:=List.mem_map.mp hr;have:=(List.mem_filter.mp hj).2;simp at this;exact this z
  .have nd2:(ak (DK (n4 S Q) rs)).Nodup:=by
    unfold DK ak;rw[map_map];have:(rs.filter λk=>decide (vl (n4 S Q) k≠0)).map ((λp:Nat×Nat=>p.1) ∘ λk=>(k,vl (n4 S Q) k))=rs.filter λk=>decide (vl (n4 S Q) k≠0):=map_id' _
    rw[this];exact List.Nodup.sublist filter_sublist (p.nodup_iff.mpr nd)
   exact gG nd2 (p:=(k,vl (n4 S Q) k)) (List.mem_map.mpr ⟨k,List.mem_filter.mpr ⟨p.mem_iff.mpr (ua z),by simpa using z⟩,rfl⟩)
 .obtain⟨j,hj,rfl⟩:=List.mem_map.mp hq
  have:=List.mem_filter.mp hj;refine⟨?_,by simpa using this.2⟩;refine Nat.pos_of_ne_zero λz=>?_
  subst z;exact zk Q h0 (p.mem_iff.mp this.1)
 .unfold DK
  rw[length_map];have:=length_filter_le (λk=>decide (vl (n4 S Q) k≠0)) rs
  have h2:=p.length_eq;unfold ak at h2;rw[length_map]at h2
  lia
 .obtain⟨y4,y5,y6,lp⟩:=wF (.fz T) (.fz (.list (Q.map tS))) Q t S .un .un .un (by lia)
  exact Gu _ _ _ _ _ _ _ _ _ _ hT lp (hp _ _ _ _ _ _)
def yf(A:As):List (Nat×Int)->As
 |[]=>A
 |q::Q=>yf (xv A q.1 q.2) Q
theorem zI:∀(Q:List (Nat×Int)) {A:As},OkA A->OkA (yf A Q)
 |[],_,h=>h
 |q::Q,_,h=>zI Q (Je h q.1 q.2)
theorem uP:∀(Q:List (Nat×Int)) {A:As},OkA A->(vl (yf A Q) 0:Int)=((vl A 0:Int)+tv Q)%8
 |[],A,h=>by
  have:=h.lt 0;show(vl A 0:Int)=(_+0)%8
  lia
 |q::Q,A,h=>by
  have ih:=uP Q (Je h q.1 q.2);have e:=Do A q.1 q.2;show(vl (yf (xv A q.1 q.2) Q) 0:Int)=((vl A 0:Int)+((if q.1%2=1 then q.2 else 0)+tv Q))%8;rw[ih,e];by_cases o:q.1%2=1
  .rw[if_pos o,if_pos o,oz];lia
  .rw[if_neg o,if_neg o];lia
theorem uO{k:Nat}(hk:0<k):∀(Q:List (Nat×Int)) {A:As},OkA A->(vl (yf A Q) k:Int)=((vl A k:Int)+kv k Q)%8
 |[],A,h=>by
  have:=h.lt k;show(vl A k:Int)=(_+0)%8
  lia
 |q::Q,A,h=>by
  have ih:=uO hk Q (Je h q.1 q.2);have e:=Lg A q.1 q.2 k hk;show(vl (yf (xv A q.1 q.2) Q) k:Int)=((vl A k:Int)+((if hb q.1=k then he q.1 q.2 else 0)+kv k Q))%8;rw[ih,e];by_cases o:hb q.1=k
  .rw[if_pos o,if_pos o.symm,oz];lia
  .rw[if_neg o,if_neg (λz=>o z.symm)];lia
theorem EF{A:As}(h:OkA A){rs:List Nat}(p:rs.Perm (ak A))(pw:rs.Pairwise (· < ·)){f:Nat->Int}(hf:∀k,0<k->(vl A k:Int)=f k%8):RR (lK A rs) f where
 pk:=by
  rw[jw];exact pw.sublist filter_sublist
 val:=λk hk=>by
  rw[Ei h p,if_pos hk];exact hf k hk
 nz:=λq hq=>by
  obtain⟨k,hk,rfl⟩:=List.mem_map.mp hq;have:=(List.mem_filter.mp hk).2;have:0<k/\0<vl A k:=by simpa using this
  exact⟨this.1,by lia⟩
theorem pI{c:Nat}(h:c<8):OkA [(0,c)] where
 nd:=by simp[ak]
 z:=by simp[ak]
 lt:=λk=>by
  rw[cU];split
  .exact h
  .rw[ja (by simp[ak])];lia
theorem Ek(c:Nat){k:Nat}(hk:0<k):vl [(0,c)] k=0:=by
 rw[cU,if_neg (by show ¬ 0=k;lia),ja (by simp[ak])]
theorem uQ(c:Nat):vl [(0,c)] 0=c:=by rw[cU,if_pos rfl]
theorem sf:∀xs:List Nat,kO (ag xs)=some (xs.map cI)
 |[]=>rfl
 |x::xs=>by
  show(kO (ag xs)).bind _=_;rw[sf xs];rfl
theorem pQ(rs:List Nat)(f:Nat->Bool):ag (rs.filter f)=(rs.filter f).map λk:Nat=>PyData.int (k:Int):=rfl
structure TT (ss:List Nat) (xs:List Nat):Prop where
 pw:ss.Pairwise (· < ·)
 mem:∀t,t∈ss↔t∈xs/\0<t
def hasB(b k:Nat):Bool:=decide (b/2^k%2=1)
theorem Ay(b k:Nat):(((b/2^k%2:Nat):Int)==1)=hasB b k:=by
 unfold hasB;rcases Nat.mod_two_eq_zero_or_one (b/2^k)with h|h<;>rw[h]<;>rfl
theorem iU(b k:Nat):dh [.int b,.int k]=some (.bool (hasB b k)):=by
 have s:=u0 b k;have o:=IM (b/2^k);have h:=Ay b k;generalize b/2^k%2=z at *;generalize b/2^k=y at *;simp[dh,bC,Bg,aJ,s,o,h]
def kU(ps:As)(bit ch:Nat):List (Nat×Int):=(ps.filter λp=>hasB p.1 bit).map λp=>(p.1 ^^^ ch,(p.2:Int))
def jP(ps:As)(bit:Nat):As:=ps.filter λp=>!hasB p.1 bit
def Jp(hs:List Nat)(bit:Nat):List Nat:=hs.filter λh=>decide (h≠bit)
theorem t6(a b c d e f:D):bM [a,b,c,d,e,f]=some (.tuple [a,b,c,d,e,f]):=kX (by simp)
section
variable(w l:Nat)(hv:Int)(c:Nat)(ps:As)(ts hs:List Nat)
theorem o3:(oI (o2 (oV 0) (oC (.int 3)) aI) aV) (.fz (oneD w l hv c (upI ps) ts hs)::r)=some (ps.map pD):=by
 have:aI (oneD w l hv c (upI ps) ts hs) (.int 3)=some (.tuple (ps.map pD)):=by rw[vn,qF]
 show(aI (oneD w l hv c (upI ps) ts hs) (.int 3)).bind aV=_;rw[this];rfl
theorem Hf(bit ch:Nat)(hp:ps.length<=1000)(x3 x4 x5:Sl):fY [.fz (oneD w l hv c (upI ps) ts hs),.fz (.int (bit:Int)),.fz (.int (ch:Int)),x3,x4,x5]=some (.list ((kU ps bit ch).map tS)):=by
 unfold fY kU;rw[map_map];refine bh (xs:=ps) (h:=pD) (o3 w l hv c ps ts hs) (by lia) (λp _=>?_) λp _ _=>?_
 .have h:=iU p.1 bit
  generalize hasB p.1 bit=z at *;simp[bp,pD,h]
 .have x:=MA.De p.1 ch
  simp[bp,pD,tS,x]
theorem He(bit:Nat)(hp:ps.length<=1000)(x2 x3 x4 x5:Sl):fW [.fz (oneD w l hv c (upI ps) ts hs),.fz (.int (bit:Int)),x2,x3,x4,x5]=some (.list ((jP ps bit).map pD)):=by
 unfold fW jP;refine bh (xs:=ps) (h:=pD) (o3 w l hv c ps ts hs) (by lia) (λp _=>?_) λp _ _=>?_
 .have h:=iU p.1 bit
  generalize hasB p.1 bit=z at *;simp[bp,pD,h]
 .simp[bp]
theorem Fv(h bit:Nat):neD (.int (h:Int)) (.int (bit:Int))=some (.bool (decide (h≠bit))):=by
 by_cases e:h=bit
 .subst e;simp
 .have:¬((h:Int)=(bit:Int)):=by lia
  simp[e,this]
theorem Hd(bit:Nat)(hh:hs.length<=1000)(x2 x3 x4 x5:Sl):fV [.fz (oneD w l hv c (upI ps) ts hs),.fz (.int (bit:Int)),x2,x3,x4,x5]=some (.list (ag (Jp hs bit))):=by
 unfold fV Jp;rw[pQ];refine bh (xs:=hs) (h:=λh:Nat=>PyData.int (h:Int)) (by
  have:(oI (o2 (oV 0) (oC (.int 5)) aI) aV) [.fz (oneD w l hv c (upI ps) ts hs),.fz (.int (bit:Int)),x2,x3,x4,x5]=some (ag hs):=rfl;exact this) (by lia) (λp _=>?_) λp _ _=>?_
 .have h:=Fv p bit
  generalize decide (p≠bit)=z at *;simp only[bp];show(((Du (some (Sl.fz (.int (p:Int))))).bind λx=>(Du (some (Sl.fz (.int (bit:Int))))).bind λy=>neD x y).bind asB)=_
  rw[yN,yN,Option.bind_some,Option.bind_some,h];rfl
 .simp[bp]
theorem JS(O W S H R A4 A0 A1:D)(bit ch t c':Int)(p1:∀x3 x4 x5,fY [.fz O,.fz (.int bit),.fz (.int ch),x3,x4,x5]=some W)(p2:∀x3 x4 x5,fW [.fz O,.fz (.int bit),.fz (.int ch),x3,x4,x5]=some S)(hp:∀x3 x4 x5,fV [.fz O,.fz (.int bit),.fz (.int ch),x3,x4,x5]=some H)(o0:aI O (.int 0)=some A0)(o1:aI O (.int 1)=some A1)(o2:aI O (.int 2)=some (.int c'))(o4:aI O (.int 4)=some A4)(g:bK [.int c',S,W]=some (.tuple [.int t,R]))(HT:D)(hH:di [H]=some HT):cg [O,.int bit,.int ch]=some (.tuple [A0,A1,.int t,R,A4,HT]):=by
 simp[cg,bC,kh,aJ,p1,p2,hp,o0,o1,o2,o4,g,hH,t6]
end
theorem DP{k:Nat}(hk:0<k):∀{S:As},(ak S).Nodup->(∀p∈S,p.1%2=0)->kv k (upI S)=(vl S k:Int)
 |[],_,_=>by rw[ja (by simp[ak])];rfl
 |p::S,nd,h=>by
  have h1:=h p mem_cons_self;have nd':(ak S).Nodup:=(List.nodup_cons.mp nd).2;have ih:=DP hk nd' λq hq=>h q (mem_cons_of_mem _ hq)
  have e1:hb p.1=p.1:=by unfold hb;lia
  have e2:he p.1 (p.2:Int)=(p.2:Int):=by unfold he;rw[if_neg (by lia)]
  show(if hb p.1=k then he p.1 (p.2:Int)else 0)+kv k (upI S)=_;rw[ih,e1,e2,cU];by_cases q:p.1=k
  .rw[if_pos q,if_pos q]
   have:vl S k=0:=ja (q ▸ (List.nodup_cons.mp nd).1)
   lia
  .rw[if_neg q,if_neg q];lia
theorem Dp:∀{S:As},(∀p∈S,p.1%2=0)->tv (upI S)=0
 |[],_=>rfl
 |p::S,h=>by
  have h1:=h p mem_cons_self;show(if p.1%2=1 then(p.2:Int)else 0)+tv (upI S)=0;rw[Dp λq hq=>h q (mem_cons_of_mem _ hq),if_neg (by lia)]
  rfl
def xb(bit ch:Nat)(p:Nat×Nat):Nat×Int:=(if hasB p.1 bit then p.1 ^^^ ch else p.1,(p.2:Int))
theorem vC(bit ch k:Nat):∀ps:As,kv k (ps.map (xb bit ch))=kv k (upI (jP ps bit))+kv k (kU ps bit ch)
 |[]=>rfl
 |p::ps=>by
  have ih:=vC bit ch k ps;show(if hb (xb bit ch p).1=k then he (xb bit ch p).1 (xb bit ch p).2 else 0)+kv k (ps.map (xb bit ch))=_;rw[ih];cases h:hasB p.1 bit with
  |true=>
   have e1:jP (p::ps) bit=jP ps bit:=by unfold jP;rw[filter_cons_of_neg (by simp[h])]
   have e2:kU (p::ps) bit ch=(p.1 ^^^ ch,(p.2:Int))::kU ps bit ch:=by unfold kU;rw[filter_cons_of_pos (by simp[h])];rfl
   have e3:xb bit ch p=(p.1 ^^^ ch,(p.2:Int)):=by unfold xb;rw[h];rfl
   rw[e1,e2,e3];show(if hb (p.1 ^^^ ch)=k then he (p.1 ^^^ ch) (p.2:Int)else 0)+_=_+((if hb (p.1 ^^^ ch)=k then he (p.1 ^^^ ch) (p.2:Int)else 0)+kv k (kU ps bit ch))
   lia
  |false=>
   have e1:jP (p::ps) bit=p::jP ps bit:=by unfold jP;rw[filter_cons_of_pos (by simp[h])]
   have e2:kU (p::ps) bit ch=kU ps bit ch:=by unfold kU;rw[filter_cons_of_neg (by simp[h])]
   have e3:xb bit ch p=(p.1,(p.2:Int)):=by unfold xb;rw[h];rfl
   rw[e1,e2,e3];show(if hb p.1=k then he p.1 (p.2:Int)else 0)+_=((if hb p.1=k then he p.1 (p.2:Int)else 0)+kv k (upI (jP ps bit)))+_
   lia
theorem uS(bit ch:Nat):∀ps:As,tv (ps.map (xb bit ch))=tv (upI (jP ps bit))+tv (kU ps bit ch)
 |[]=>rfl
 |p::ps=>by
  have ih:=uS bit ch ps;show(if(xb bit ch p).1%2=1 then(xb bit ch p).2 else 0)+tv (ps.map (xb bit ch))=_;rw[ih];cases h:hasB p.1 bit with
  |true=>
   have e1:jP (p::ps) bit=jP ps bit:=by unfold jP;rw[filter_cons_of_neg (by simp[h])]
   have e2:kU (p::ps) bit ch=(p.1 ^^^ ch,(p.2:Int))::kU ps bit ch:=by unfold kU;rw[filter_cons_of_pos (by simp[h])];rfl
   have e3:xb bit ch p=(p.1 ^^^ ch,(p.2:Int)):=by unfold xb;rw[h];rfl
   rw[e1,e2,e3];show _=_+((if(p.1 ^^^ ch)%2=1 then(p.2:Int)else 0)+tv (kU ps bit ch))
   lia
  |false=>
   have e1:jP (p::ps) bit=p::jP ps bit:=by unfold jP;rw[filter_cons_of_pos (by simp[h])]
   have e2:kU (p::ps) bit ch=kU ps bit ch:=by unfold kU;rw[filter_cons_of_neg (by simp[h])]
   have e3:xb bit ch p=(p.1,(p.2:Int)):=by unfold xb;rw[h];rfl
   rw[e1,e2,e3];show _=((if p.1%2=1 then(p.2:Int)else 0)+tv (upI (jP ps bit)))+_
   lia
theorem Ee{a b:Nat}(ha:a<iM)(hb:b<iM):a ^^^ b<iM:=Nat.xor_lt_two_pow (n:=1100) ha hb
theorem AK(ps:As)(bit:Nat):(ps.filter λp=>!hasB p.1 bit).length+(ps.filter λp=>hasB p.1 bit).length=ps.length:=by
 induction ps with
 |nil=>rfl
 |cons p ps ih=>
  cases h:hasB p.1 bit with
  |true=>rw[filter_cons_of_neg (by simp[h]),filter_cons_of_pos (by simp[h]),length_cons,length_cons];lia
  |false=>rw[filter_cons_of_pos (by simp[h]),filter_cons_of_neg (by simp[h]),length_cons,length_cons];lia
theorem tK{w l:Nat}{hv:Int}{c:Nat}{ps:As}{ts hs:List Nat}{n m:Nat}(S:Sm w l hv c ps ts hs n m)(hm:m<32)(hn:n<=100)(bit ch:Nat):∃(T:Nat) (R:As),(T:Int)=((c:Int)+tv (ps.map (xb bit ch)))%8/\RR R (λk=>kv k (ps.map (xb bit ch)))/\R.length<=ps.length/\cg [oneD w l hv c (upI ps) ts hs,.int (bit:Int),.int (ch:Int)]=some (oneD w l hv T (upI R) ts (Jp hs bit)):=by
 have nd:=jp S.pk;have pl:=S.pl;have hl:=S.hl;have ndo:(ak (jP ps bit)).Nodup:=List.Nodup.sublist (List.filter_sublist.map _) nd;have ev:∀p∈jP ps bit,p.1%2=0:=λp hp=>(S.pe p (List.mem_filter.mp hp).1).2.1
 have ln:(jP ps bit).length+(kU ps bit ch).length=ps.length:=by
  unfold jP kU;rw[length_map];exact AK ps bit
 have v8:∀k,vl (jP ps bit) k<8:=λk=>by
  by_cases h:k∈ak (jP ps bit)
  .obtain⟨p,hp,rfl⟩:=List.mem_map.mp h
   rw[gG ndo hp];have:=S.pe p (List.mem_filter.mp hp).1
   lia
  .rw[ja h];lia
 have n0:0∉ak (jP ps bit):=λh=>by
  obtain⟨p,hp,e⟩:=List.mem_map.mp h;have:=S.pe p (List.mem_filter.mp hp).1
  lia
 obtain⟨R,h1,h2,h3⟩:=qy c (jP ps bit) ndo v8 (kU ps bit ch) (by lia) n0;have h3:=h3 (.list ((jP ps bit).map pD)) (C7 _ ndo (by lia));have et:tv (ps.map (xb bit ch))=tv (kU ps bit ch):=by rw[uS,Dp ev];lia
 have x:=JS (oneD w l hv c (upI ps) ts hs) (.list ((kU ps bit ch).map tS)) (.list ((jP ps bit).map pD)) (.list (ag (Jp hs bit))) (.tuple (R.map pD)) (.tuple (ag ts)) (.tuple [.int w,.int l]) (.int hv) bit ch _ c (λx3 x4 x5=>Hf w l hv c ps ts hs bit ch (by lia) x3 x4 x5) (λx3 x4 x5=>He w l hv c ps ts hs bit (by lia) _ x3 x4 x5) (λx3 x4 x5=>Hd w l hv c ps ts hs bit (by lia) _ x3 x4 x5) (zH ..) (zG ..) (zF ..) (DH ..) h3 _ rfl
 refine⟨(((c:Int)+tv (kU ps bit ch))%8).toNat,R,by rw[et];lia,⟨h1.pk,λk hk=>?_,h1.nz⟩,by lia,?_⟩
 .rw[h1.val k hk,vC,DP hk ndo ev]
 .rw[x]
  unfold oneD;rw[qF,Int.toNat_of_nonneg (by lia)]
theorem DI(b k:Nat){δ:Dv}{f1 f2:Dv->Option D}(h1:f1 δ = some (.int b))(h2:f2 δ = some (.int k)):(ob (o2 (o2 (o2 f1 f2 tJ) (oC (.int 2)) bA) (oC (.int 1)) iy)) δ = some (hasB b k):=by
 have s:=u0 b k;have m:=jq (b/2^k);have h:=Ay b k;generalize b/2^k%2=z at *;generalize b/2^k=y at *;simp only[ob,o2,oC,h1,h2,Option.bind_some,s,m,C5,Bh,h]
def fa(ps:List (Nat×Int))(ts:List Nat)(k:Nat):Bool:=if(ts.any λt=>hasB t k)=true then false else(ps.filter λp=>hasB p.1 k).all λp=>p.2%2==0
theorem wa{d:D}{k:Nat}(h:MA.Sh k d)(hk:k<=64):iy d d=some (.bool true):=by
 have hs:shp d=true:=by
  show(d.canLay0&&decide (d.depth<=64))=true;rw[h.1,decide_eq_true (le_trans h.2 hk)];rfl
 unfold iy;rw[if_pos ⟨hs,hs⟩,MA.mK d h.1]
theorem pP{d:D}{k:Nat}(h:MA.Sh k d)(hk:k<=64):neD d d=some (.bool false):=by
 have hs:shp d=true:=by
  show(d.canLay0&&decide (d.depth<=64))=true;rw[h.1,decide_eq_true (le_trans h.2 hk)];rfl
 unfold neD;rw[if_pos ⟨hs,hs⟩,MA.mK d h.1];rfl
theorem C9(ns:List Int)(lo hi:Option Int):∃ms:List Int,ms.length<=ns.length/\EA (.list (ns.map .int)) lo hi=some (.list (ms.map .int)):=by
 refine⟨(ns.drop (HT.sIx ns.length 0 lo)).take (HT.sIx ns.length ns.length hi-HT.sIx ns.length 0 lo),?_,?_⟩
 .rw[List.length_take,List.length_drop];lia
 .show some (PyData.list (nH _ _ _))=_
  unfold nH;rw[length_map,<-List.map_drop,<-List.map_take]
def hav(T:As)(b:Nat):As:=T.filter λp=>hasB p.1 b
def sumE:As->Int
 |[]=>0
 |p::T=>(p.2:Int)+sumE T
def oddH(T:As):Nat:=T.foldl (λt p=>if p.2%2=1 then t ^^^ p.1 else t) 0
abbrev Fm:=List (List Nat×Int)
def f2(b:Nat)(T:As):List Nat->Fm
 |[]=>[]
 |c::C=>(([b,c],-2*sumE (hav T c)%8)::(C.filter λd=>hasB (oddH (hav T c)) d).map λd=>([b,c,d],4))++f2 b T C
def fw(b:Nat)(T:As)(B:List Nat):Fm:=(([b],sumE T%8)::f2 b T B).filter λp=>decide (p.2≠0)
def fo(T:As):List Nat->Fm
 |[]=>[]
 |b::B=>fw b (hav T b) B++fo T B
def bS(σ:Nat->Bool):Fm->Int
 |[]=>0
 |p::F=>(if p.1.all σ = true then p.2 else 0)+bS σ F
theorem mz(σ:Nat->Bool):∀F G:Fm,bS σ (F++G)=bS σ F+bS σ G
 |[],G=>by show bS σ G=0+bS σ G;lia
 |p::F,G=>by
  have:=mz σ F G;show _+bS σ (F++G)=_+bS σ F+bS σ G
  lia
theorem vT(σ:Nat->Bool):∀F:Fm,bS σ (F.filter λp=>decide (p.2≠0))=bS σ F
 |[]=>rfl
 |p::F=>by
  have ih:=vT σ F;rw[filter_cons];by_cases h:p.2≠0
  .rw[if_pos (by simpa using h)]
   show _+_=_+_;rw[ih]
  .rw[if_neg (by simpa using h),ih]
   have:p.2=0:=by lia
   show bS σ F=(if p.1.all σ = true then p.2 else 0)+bS σ F;rw[this];split<;>lia
def s1(σ:Nat->Bool)(T:As):List Nat->Int
 |[]=>0
 |c::C=>(if σ c=true then sumE (hav T c)else 0)+s1 σ T C
def s2(σ:Nat->Bool)(T:As):List Nat->Int
 |[]=>0
 |c::C=>(if σ c=true then s1 σ (hav T c) C else 0)+s2 σ T C
def s3(σ:Nat->Bool)(T:As):List Nat->Int
 |[]=>0
 |c::C=>(if σ c=true then s2 σ (hav T c) C else 0)+s3 σ T C
theorem cE(a b k:Nat):hasB (a ^^^ b) k=(hasB a k != hasB b k):=by
 have e:∀x,hasB x k=x.testBit k:=λx=>by
  rw[Nat.testBit_eq_decide_div_mod_eq];rfl
 rw[e,e,e,Nat.testBit_xor]
theorem zM(d:Nat):∀(T:As) (t:Nat),hasB (T.foldl (λt p=>if p.2%2=1 then t ^^^ p.1 else t) t) d=(hasB t d != decide (sumE (hav T d)%2=1))
 |[],t=>by show hasB t d=(hasB t d != decide ((0:Int)%2=1));cases hasB t d<;>rfl
 |p::T,t=>by
  show hasB (T.foldl _ (if p.2%2=1 then t ^^^ p.1 else t)) d=_;rw[zM d T];have e:hav (p::T) d=if hasB p.1 d=true then p::hav T d else hav T d:=by unfold hav;rw[filter_cons]
  rw[e];by_cases o:p.2%2=1
  .rw[if_pos o,cE]
   cases h:hasB p.1 d with
   |true=>
    rw[if_pos rfl];have:decide (sumE (p::hav T d)%2=1)=!decide (sumE (hav T d)%2=1):=by
     show decide (((p.2:Int)+sumE (hav T d))%2=1)=_;by_cases q:sumE (hav T d)%2=1
     .rw[decide_eq_true q,decide_eq_false (by lia)];rfl
     .rw[decide_eq_false q,decide_eq_true (by lia)];rfl
    rw[this];cases hasB t d<;>cases decide (sumE (hav T d)%2=1)<;>rfl
   |false=>
    rw[if_neg (by decide)];cases hasB t d<;>cases decide (sumE (hav T d)%2=1)<;>rfl
  .rw[if_neg o]
   cases h:hasB p.1 d with
   |true=>
    rw[if_pos rfl];have:decide (sumE (p::hav T d)%2=1)=decide (sumE (hav T d)%2=1):=by
     show decide (((p.2:Int)+sumE (hav T d))%2=1)=_;by_cases q:sumE (hav T d)%2=1
     .rw[decide_eq_true q,decide_eq_true (by lia)]
     .rw[decide_eq_false q,decide_eq_false (by lia)]
    rw[this]
   |false=>rw[if_neg (by decide)]
theorem Cv(T:As)(d:Nat):hasB (oddH T) d=decide (sumE (hav T d)%2=1):=by
 unfold oddH;rw[zM];have:hasB 0 d=false:=by unfold hasB;rw[Nat.zero_div];rfl
 rw[this];cases decide (sumE (hav T d)%2=1)<;>rfl
theorem Ds(σ:Nat->Bool)(b c:Nat)(U:As)(hb:σ b=true)(hc:σ c=true):∀C:List Nat,∃k,bS σ ((C.filter λd=>hasB (oddH U) d).map λd=>([b,c,d],4))=4*s1 σ U C+8*k
 |[]=>⟨0,rfl⟩
 |d::C=>by
  obtain⟨k,ih⟩:=Ds σ b c U hb hc C;have h:=Cv U d;have es:s1 σ U (d::C)=(if σ d=true then sumE (hav U d)else 0)+s1 σ U C:=rfl;rw[filter_cons,es];by_cases q:sumE (hav U d)%2=1
  .rw[decide_eq_true q]at h
   rw[if_pos h];have e:bS σ (((d::C.filter λd=>hasB (oddH U) d).map λd=>(([b,c,d],4):List Nat×Int)))=(if [b,c,d].all σ = true then 4 else 0)+bS σ ((C.filter λd=>hasB (oddH U) d).map λd=>([b,c,d],4)):=rfl
   rw[e,ih];by_cases z:σ d=true
   .rw[if_pos z,if_pos (by simp[hb,hc,z])]
    exact⟨k+(1-sumE (hav U d))/2,by lia⟩
   .rw[if_neg z,if_neg (by simp[z])]
    exact⟨k,by lia⟩
  .rw[decide_eq_false q]at h
   rw[if_neg (by rw[h];decide),ih];by_cases z:σ d=true
   .rw[if_pos z]
    exact⟨k-sumE (hav U d)/2,by lia⟩
   .rw[if_neg z]
    exact⟨k,by lia⟩
theorem tj(σ:Nat->Bool)(b c:Nat)(h:¬(σ b=true/\ σ c=true)):∀C:List Nat,bS σ (C.map λd=>([b,c,d],4))=0
 |[]=>rfl
 |d::C=>by
  have ih:=tj σ b c h C;show(if [b,c,d].all σ = true then(4:Int)else 0)+bS σ (C.map λd=>([b,c,d],4))=0
  rw[ih,if_neg (by
   intro z;simp only[List.all_cons,List.all_nil,Bool.and_true,Bool.and_eq_true]at z;exact h ⟨z.1,z.2.1⟩)]
  rfl
theorem AL(σ:Nat->Bool)(b:Nat)(U:As):∀C:List Nat,∃k,bS σ (f2 b U C)=(if σ b=true then -2*s1 σ U C+4*s2 σ U C else 0)+8*k
 |[]=>⟨0,by show(0:Int)=(if σ b=true then -2*0+4*0 else 0)+8*0;split<;>lia⟩
 |c::C=>by
  obtain⟨k,ih⟩:=AL σ b U C;have e1:s1 σ U (c::C)=(if σ c=true then sumE (hav U c)else 0)+s1 σ U C:=rfl;have e2:s2 σ U (c::C)=(if σ c=true then s1 σ (hav U c) C else 0)+s2 σ U C:=rfl;have e:bS σ (f2 b U (c::C))=(if [b,c].all σ = true then -2*sumE (hav U c)%8 else 0)+bS σ ((C.filter λd=>hasB (oddH (hav U c)) d).map λd=>([b,c,d],4))+bS σ (f2 b U C):=by
   show bS σ (_++_)=_;rw[mz];rfl
  rw[e,ih,e1,e2];by_cases hb:σ b=true
  .by_cases hc:σ c=true
   .obtain⟨m,t⟩:=Ds σ b c (hav U c) hb hc C
    rw[t,if_pos hb,if_pos hb,if_pos hc,if_pos hc,if_pos (by simp[hb,hc])];exact⟨k+m-(-2*sumE (hav U c))/8,by lia⟩
   .rw[tj σ b c (λz=>hc z.2),if_pos hb,if_pos hb,if_neg hc,if_neg hc,if_neg (by simp[hc])]
    exact⟨k,by lia⟩
  .rw[tj σ b c (λz=>hb z.1),if_neg hb,if_neg hb,if_neg (by simp[hb])]
   exact⟨k,by lia⟩
theorem AF(σ:Nat->Bool)(T:As):∀B:List Nat,∃k,bS σ (fo T B)=s1 σ T B-2*s2 σ T B+4*s3 σ T B+8*k
 |[]=>⟨0,rfl⟩
 |b::B=>by
  obtain⟨k,ih⟩:=AF σ T B;obtain⟨m,f⟩:=AL σ b (hav T b) B;have e1:s1 σ T (b::B)=(if σ b=true then sumE (hav T b)else 0)+s1 σ T B:=rfl;have e2:s2 σ T (b::B)=(if σ b=true then s1 σ (hav T b) B else 0)+s2 σ T B:=rfl;have e3:s3 σ T (b::B)=(if σ b=true then s2 σ (hav T b) B else 0)+s3 σ T B:=rfl;have e:bS σ (fo T (b::B))=(if [b].all σ = true then sumE (hav T b)%8 else 0)+bS σ (f2 b (hav T b) B)+bS σ (fo T B):=by
   show bS σ (fw b (hav T b) B++fo T B)=_;rw[mz];unfold fw;rw[vT];rfl
  rw[e,f,ih,e1,e2,e3];by_cases hb:σ b=true
  .rw[if_pos hb,if_pos hb,if_pos hb,if_pos hb,if_pos (by simp[hb])]
   exact⟨k+m-sumE (hav T b)/8,by lia⟩
  .rw[if_neg hb,if_neg hb,if_neg hb,if_neg hb,if_neg (by simp[hb])]
   exact⟨k+m,by lia⟩
theorem mn(p:Nat×Nat)(T:As)(b:Nat):hav (p::T) b=if hasB p.1 b=true then p::hav T b else hav T b:=by unfold hav;rw[filter_cons]
def n1(σ:Nat->Bool)(S:Nat):List Nat->Int
 |[]=>0
 |c::C=>(if hasB S c=true/\ σ c=true then 1 else 0)+n1 σ S C
def n2(σ:Nat->Bool)(S:Nat):List Nat->Int
 |[]=>0
 |c::C=>(if hasB S c=true/\ σ c=true then n1 σ S C else 0)+n2 σ S C
def n3(σ:Nat->Bool)(S:Nat):List Nat->Int
 |[]=>0
 |c::C=>(if hasB S c=true/\ σ c=true then n2 σ S C else 0)+n3 σ S C
theorem pA(σ:Nat->Bool)(p:Nat×Nat)(T:As):∀C,s1 σ (p::T) C=(p.2:Int)*n1 σ p.1 C+s1 σ T C
 |[]=>by show(0:Int)=(p.2:Int)*0+0;lia
 |c::C=>by
  have ih:=pA σ p T C;show(if σ c=true then sumE (hav (p::T) c)else 0)+s1 σ (p::T) C=(p.2:Int)*((if hasB p.1 c=true/\ σ c=true then 1 else 0)+n1 σ p.1 C)+((if σ c=true then sumE (hav T c)else 0)+s1 σ T C);rw[ih,mn,mul_add];by_cases hc:σ c=true<;>by_cases hs:hasB p.1 c=true<;>simp only[hc,hs,if_true,if_false,and_self,and_true,true_and,and_false,false_and,mul_one,Int.mul_zero,Bool.false_eq_true,sumE]<;>lia
theorem px(σ:Nat->Bool)(p:Nat×Nat)(T:As):∀C,s2 σ (p::T) C=(p.2:Int)*n2 σ p.1 C+s2 σ T C
 |[]=>by show(0:Int)=(p.2:Int)*0+0;lia
 |c::C=>by
  have ih:=px σ p T C;have h1:=pA σ p (hav T c) C;show(if σ c=true then s1 σ (hav (p::T) c) C else 0)+s2 σ (p::T) C=(p.2:Int)*((if hasB p.1 c=true/\ σ c=true then n1 σ p.1 C else 0)+n2 σ p.1 C)+((if σ c=true then s1 σ (hav T c) C else 0)+s2 σ T C);rw[ih,mn,mul_add];by_cases hc:σ c=true<;>by_cases hs:hasB p.1 c=true<;>simp only[hc,hs,if_true,if_false,and_self,and_true,true_and,and_false,false_and,Int.mul_zero,Bool.false_eq_true,h1]<;>lia
theorem u5(σ:Nat->Bool)(p:Nat×Nat)(T:As):∀C,s3 σ (p::T) C=(p.2:Int)*n3 σ p.1 C+s3 σ T C
 |[]=>by show(0:Int)=(p.2:Int)*0+0;lia
 |c::C=>by
  have ih:=u5 σ p T C;have h1:=px σ p (hav T c) C;show(if σ c=true then s2 σ (hav (p::T) c) C else 0)+s3 σ (p::T) C=(p.2:Int)*((if hasB p.1 c=true/\ σ c=true then n2 σ p.1 C else 0)+n3 σ p.1 C)+((if σ c=true then s2 σ (hav T c) C else 0)+s3 σ T C);rw[ih,mn,mul_add];by_cases hc:σ c=true<;>by_cases hs:hasB p.1 c=true<;>simp only[hc,hs,if_true,if_false,and_self,and_true,true_and,and_false,false_and,Int.mul_zero,Bool.false_eq_true,h1]<;>lia
theorem DL(σ:Nat->Bool)(S:Nat):∀C,0<=n1 σ S C/\(∃k,n1 σ S C-2*n2 σ S C=n1 σ S C%2+4*k)/\∃k,n1 σ S C-2*n2 σ S C+4*n3 σ S C=n1 σ S C%2+8*k
 |[]=>⟨Int.le_refl _,⟨0,rfl⟩,⟨0,rfl⟩⟩
 |c::C=>by
  obtain⟨h0,⟨k,h1⟩,⟨m,h2⟩⟩:=DL σ S C;have e1:n1 σ S (c::C)=(if hasB S c=true/\ σ c=true then 1 else 0)+n1 σ S C:=rfl;have e2:n2 σ S (c::C)=(if hasB S c=true/\ σ c=true then n1 σ S C else 0)+n2 σ S C:=rfl;have e3:n3 σ S (c::C)=(if hasB S c=true/\ σ c=true then n2 σ S C else 0)+n3 σ S C:=rfl;rw[e1,e2,e3];by_cases q:hasB S c=true/\ σ c=true
  .rw[if_pos q,if_pos q,if_pos q]
   generalize n1 σ S C=a at *;generalize n2 σ S C=b at *;generalize n3 σ S C=d at *;refine⟨by lia,⟨k+(1-2*a+a%2-(1+a)%2)/4,by lia⟩,⟨(1+a-2*(a+b)+4*(b+d)-(1+a)%2)/8,by lia⟩⟩
  .rw[if_neg q,if_neg q,if_neg q]
   exact⟨by lia,⟨k,by lia⟩,⟨m,by lia⟩⟩
def GE(σ:Nat->Bool)(B:List Nat):As->Int
 |[]=>0
 |p::T=>(p.2:Int)*(n1 σ p.1 B%2)+GE σ B T
theorem Dx(σ:Nat->Bool)(B:List Nat):∀T:As,∃k,s1 σ T B-2*s2 σ T B+4*s3 σ T B=GE σ B T+8*k
 |[]=>by
  have z1:∀C,s1 σ [] C=0:=λC=>by
   induction C with
   |nil=>rfl
   |cons c C ih=>show(if σ c=true then(0:Int)else 0)+s1 σ [] C=0;rw[ih];split<;>rfl
  have z2:∀C,s2 σ [] C=0:=λC=>by
   induction C with
   |nil=>rfl
   |cons c C ih=>show(if σ c=true then s1 σ [] C else 0)+s2 σ [] C=0;rw[ih,z1];split<;>rfl
  have z3:∀C,s3 σ [] C=0:=λC=>by
   induction C with
   |nil=>rfl
   |cons c C ih=>show(if σ c=true then s2 σ [] C else 0)+s3 σ [] C=0;rw[ih,z2];split<;>rfl
  exact⟨0,by rw[z1,z2,z3];rfl⟩
 |p::T=>by
  obtain⟨k,ih⟩:=Dx σ B T;obtain⟨_,_,m,h⟩:=DL σ p.1 B;refine⟨k+(p.2:Int)*m,?_⟩;rw[pA,px,u5];show _=(p.2:Int)*(n1 σ p.1 B%2)+GE σ B T+8*(k+(p.2:Int)*m);have h':(p.2:Int)*n1 σ p.1 B-2*((p.2:Int)*n2 σ p.1 B)+4*((p.2:Int)*n3 σ p.1 B)=(p.2:Int)*(n1 σ p.1 B%2)+8*((p.2:Int)*m):=by
   have:=congrArg (λx=>(p.2:Int)*x) h
   simp only[mul_add,Int.mul_sub]at this;rw[Int.mul_left_comm (p.2:Int) 2,Int.mul_left_comm (p.2:Int) 4,Int.mul_left_comm (p.2:Int) 8]at this;exact this
  lia
theorem FZ(σ:Nat->Bool)(T:As)(B:List Nat):bS σ (fo T B)%8=GE σ B T%8:=by
 obtain⟨k,h⟩:=AF σ T B;obtain⟨m,g⟩:=Dx σ B T
 lia
def kL:List Nat->List Nat->Bool
 |[],[]=>false
 |[],_::_=>true
 |_::_,[]=>false
 |a::r,b::t=>if a=b then kL r t else decide (a<b)
def iH(l:List Nat):List Int:=l.map λk:Nat=>(k:Int)
theorem jX:∀l m:List Nat,cZ (bP (iH l)) (bP (iH m))=kL l m
 |[],[]=>rfl
 |[],_::_=>rfl
 |_::_,[]=>rfl
 |a::r,b::t=>by
  show(if(Sum.inl (a:Int):aw)=Sum.inl (b:Int)then cZ (bP (iH r)) (bP (iH t))else fG (.inl (a:Int)) (.inl (b:Int)))=if a=b then kL r t else decide (a<b)
  by_cases e:a=b
  .subst e;rw[if_pos rfl,if_pos rfl,jX r t]
  .rw[if_neg (λz=>e ((j7 a b).mp z)),if_neg e]
   show decide ((a:Int)<(b:Int))=decide (a<b);by_cases q:a<b
   .rw[decide_eq_true q,decide_eq_true (by lia)]
   .rw[decide_eq_false q,decide_eq_false (by lia)]
def Up(F:Fm):Prop:=F.Pairwise λp q=>kL p.1 q.1=true
theorem fF(b:Nat){l m:List Nat}(h:kL l m=true):kL (b::l) (b::m)=true:=by
 show(if b=b then kL l m else _)=true;rw[if_pos rfl];exact h
theorem uc{a b:Nat}(l m:List Nat)(h:a<b):kL (a::l) (b::m)=true:=by
 show(if a=b then kL l m else decide (a<b))=true;rw[if_neg (by lia)];exact decide_eq_true h
theorem li(b:Nat)(U:As):∀C:List Nat,∀p∈f2 b U C,∃c r,p.1=b::c::r/\c∈C/\(∀x∈r,x∈C)
 |[],p,h=>by cases h
 |c::C,p,h=>by
  rcases List.mem_append.mp h with z|z
  .rcases List.mem_cons.mp z with rfl|z
   .exact⟨c,[],rfl,mem_cons_self,λx hx=>by cases hx⟩
   .obtain⟨d,hd,rfl⟩:=List.mem_map.mp z
    exact⟨c,[d],rfl,mem_cons_self,λx hx=>by rw[List.mem_singleton.mp hx];exact mem_cons_of_mem _ (List.mem_filter.mp hd).1⟩
  .obtain⟨c',r,e,h1,h2⟩:=li b U C p z
   exact⟨c',r,e,mem_cons_of_mem _ h1,λx hx=>mem_cons_of_mem _ (h2 x hx)⟩
theorem DZ(b:Nat)(U:As):∀C:List Nat,C.Pairwise (· < ·)->Up (f2 b U C)
 |[],_=>.nil
 |c::C,h=>by
  obtain⟨h1,h2⟩:=List.pairwise_cons.mp h;refine List.pairwise_append.mpr ⟨?_,DZ b U C h2,λp hp q hq=>?_⟩
  .refine List.pairwise_cons.mpr ⟨λq hq=>?_,?_⟩
   .obtain⟨d,_,rfl⟩:=List.mem_map.mp hq
    exact fF b (fF c rfl)
   .refine List.pairwise_map.mpr ((h2.sublist filter_sublist).imp λ{x y} q=>?_)
    exact fF b (fF c (uc [] [] q))
  .obtain⟨c',r,e,h3,_⟩:=li b U C q hq
   obtain⟨r',e'⟩:∃r',p.1=b::c::r':=by
    rcases List.mem_cons.mp hp with rfl|z
    .exact⟨[],rfl⟩
    .obtain⟨d,_,rfl⟩:=List.mem_map.mp z
     exact⟨[d],rfl⟩
   rw[e,e'];exact fF b (uc _ _ (h1 c' h3))
theorem lh(b:Nat)(U:As)(C:List Nat):∀p∈fw b U C,∃r,p.1=b::r/\∀x∈r,x∈C:=λp hp=>by
 rcases List.mem_cons.mp (List.mem_filter.mp hp).1 with rfl|z
 .exact⟨[],rfl,λx hx=>by cases hx⟩
 .obtain⟨c,r,e,h1,h2⟩:=li b U C p z
  exact⟨c::r,e,λx hx=>by
   rcases List.mem_cons.mp hx with rfl|q
   .exact h1
   .exact h2 x q⟩
theorem Ir(b:Nat)(U:As)(C:List Nat)(h:C.Pairwise (· < ·)):Up (fw b U C):=by
 refine List.Pairwise.sublist filter_sublist (List.pairwise_cons.mpr ⟨λq hq=>?_,DZ b U C h⟩);obtain⟨c,r,e,_⟩:=li b U C q hq;rw[e];exact fF b rfl
theorem vY(T:As):∀B:List Nat,∀p∈fo T B,∃b r,p.1=b::r/\b∈B
 |[],p,h=>by cases h
 |b::B,p,h=>by
  rcases List.mem_append.mp h with z|z
  .obtain⟨r,e,_⟩:=lh b _ B p z
   exact⟨b,r,e,mem_cons_self⟩
  .obtain⟨b',r,e,h1⟩:=vY T B p z
   exact⟨b',r,e,mem_cons_of_mem _ h1⟩
theorem DW(T:As):∀B:List Nat,B.Pairwise (· < ·)->Up (fo T B)
 |[],_=>.nil
 |b::B,h=>by
  obtain⟨h1,h2⟩:=List.pairwise_cons.mp h;refine List.pairwise_append.mpr ⟨Ir b _ B h2,DW T B h2,λp hp q hq=>?_⟩
  obtain⟨r,e,_⟩:=lh b _ B p hp;obtain⟨b',r',e',h3⟩:=vY T B q hq;rw[e,e'];exact uc _ _ (h1 b' h3)
structure Gp (p:List Nat×Int):Prop where
 n0:p.1≠[]
 n3:p.1.length<=3
 up:p.1.Pairwise (· < ·)
 e1:1<=p.2
 e7:p.2<=7
theorem v6(b:Nat)(U:As):∀C:List Nat,C.Pairwise (· < ·)->(∀c∈C,b<c)->∀p∈f2 b U C,p.1.length<=3/\p.1.Pairwise (· < ·)/\0<=p.2/\p.2<=7
 |[],_,_,p,h=>by cases h
 |c::C,h,hb,p,hp=>by
  obtain⟨h1,h2⟩:=List.pairwise_cons.mp h;have bc:=hb c mem_cons_self;rcases List.mem_append.mp hp with z|z
  .rcases List.mem_cons.mp z with rfl|z
   .exact⟨by simp,by simp[bc],by show(0:Int)<=_%8;lia,by show _%8<=(7:Int);lia⟩
   .obtain⟨d,hd,rfl⟩:=List.mem_map.mp z
    have cd:=h1 d (List.mem_filter.mp hd).1;exact⟨by simp,by simp[bc,cd];lia,by show(0:Int)<=4;decide,by show(4:Int)<=7;decide⟩
  .exact v6 b U C h2 (λc hc=>hb c (mem_cons_of_mem _ hc)) p z
theorem CV(b:Nat)(U:As)(C:List Nat)(h:C.Pairwise (· < ·))(hb:∀c∈C,b<c):∀p∈fw b U C,Gp p:=λp hp=>by
 obtain⟨h1,h2⟩:=List.mem_filter.mp hp;have h2:p.2≠0:=by simpa using h2
 obtain⟨r,e,_⟩:=lh b U C p hp;have n0:p.1≠[]:=by rw[e];intro z;cases z
 rcases List.mem_cons.mp h1 with rfl|z
 .have:(sumE U%8)≠0:=h2
  exact⟨n0,by simp,by simp,by show(1:Int)<=sumE U%8;lia,by show sumE U%8<=(7:Int);lia⟩
 .obtain⟨a1,a2,a3,a4⟩:=v6 b U C h hb p z
  exact⟨n0,a1,a2,by lia,a4⟩
theorem p6(T:As):∀B:List Nat,B.Pairwise (· < ·)->∀p∈fo T B,Gp p
 |[],_,p,h=>by cases h
 |b::B,h,p,hp=>by
  obtain⟨h1,h2⟩:=List.pairwise_cons.mp h;rcases List.mem_append.mp hp with z|z
  .exact CV b _ B h2 h1 p z
  .exact p6 T B h2 p z
def Dr:Nat->Nat
 | 0=>0
 |n+1=>1+n+Dr n
def GW:Nat->Nat
 | 0=>0
 |n+1=>1+Dr n+GW n
theorem qa(b:Nat)(U:As):∀C:List Nat,(f2 b U C).length<=Dr C.length
 |[]=>Nat.le_refl _
 |c::C=>by
  have ih:=qa b U C;have:=length_filter_le (λd=>hasB (oddH (hav U c)) d) C
  show((_::_)++f2 b U C).length<=1+C.length+Dr C.length;rw[length_append,length_cons,length_map]
  lia
theorem pZ(T:As):∀B:List Nat,(fo T B).length<=GW B.length
 |[]=>Nat.le_refl _
 |b::B=>by
  have ih:=pZ T B;have h1:=qa b (hav T b) B;have h2:=length_filter_le (λp:List Nat×Int=>decide (p.2≠0)) (([b],sumE (hav T b)%8)::f2 b (hav T b) B)
  rw[length_cons]at h2;show(fw b (hav T b) B++fo T B).length<=1+Dr B.length+GW B.length;rw[length_append];unfold fw
  lia
theorem Er{n:Nat}(h:n<=5):GW n<=25:=by
 have:∀m,m<=5->GW m<=25:=by decide
 exact this n h
def gD(F:Fm):List D:=F.map λp=>.tuple [.tuple (ag p.1),.int p.2]
theorem Il(T:As)(b:Nat)(hl:T.length<=1000)(X:D)(hX:aV X=some (T.map pD)):jV [.fz X,.fz (.int (b:Int))]=some (.list ((hav T b).map pD)):=by
 unfold jV hav;refine bh (xs:=T) (h:=pD) (by simp[hX]) (by lia) (λp _=>?_) λp _ _=>?_
 .have h:=iU p.1 b
  generalize hasB p.1 b=z at *;simp[bp,pD,h]
 .simp[bp]
theorem oR(T:As)(b:Nat)(hl:T.length<=1000)(X:D)(hX:aV X=some (T.map pD)):cF [X,.int (b:Int)]=some (.list ((hav T b).map pD)):=by
 have:=Il T b hl X hX;simp[cF,bC,mX,aJ,this]
theorem qI:∀T:As,(T.map λp=>(p.2:Int)).sum=sumE T
 |[]=>rfl
 |p::T=>by rw[map_cons,sum_cons,qI T];rfl
theorem Ha(T:As)(hl:T.length<=1000):dG [.fz (.list (T.map pD))]=some (.list (T.map λp=>.int (p.2:Int))):=by
 unfold dG;exact mM (xs:=T) (h:=pD) (by simp) (by lia) λp _=>by simp[bp,pD]
theorem uV(T:As)(hl:T.length<=1000):aR [.list (T.map pD)]=some (.int (sumE T)):=by
 have h1:=Ha T hl;have h2:=yB (λp:Nat×Nat=>(p.2:Int)) T
 rw[qI]at h2;simp[aR,bC,eI,aJ,h1,h2]
theorem zL(X:D)(t:Nat)(p:Nat×Nat):bV [.fz X,.fz (.int (t:Int)),.fz (pD p)]=some (.nx,[.fz X,.fz (.int ((if p.2%2=1 then t ^^^ p.1 else t:Nat):Int)),.fz (pD p)]):=by
 have x:=MA.De t p.1;have m:=jq p.2;by_cases o:p.2%2=1
 .rw[o]at m
  rw[if_pos o];simp[bV,pD,m,x]
 .have o':p.2%2=0:=by lia
  rw[o']at m;rw[if_neg o];simp[bV,pD,m]
theorem rA(X:D):∀(T:As) (t:Nat) (y:Sl),∃z,loop (gN 2) bV (T.map pD) [.fz X,.fz (.int (t:Int)),y]=some (.nx,[.fz X,.fz (.int ((T.foldl (λt p=>if p.2%2=1 then t ^^^ p.1 else t) t:Nat):Int)),z])
 |[],t,y=>⟨y,rfl⟩
 |p::T,t,y=>by
  obtain⟨z,e⟩:=rA X T (if p.2%2=1 then t ^^^ p.1 else t) (.fz (pD p));refine⟨z,?_⟩;rw[map_cons,fC (δ1:=[.fz X,.fz (.int (t:Int)),.fz (pD p)]) (by rfl) (zL X t p)];exact e
theorem zK(T:As):bQ [.list (T.map pD)]=some (.int (oddH T:Int)):=by
 obtain⟨z,e⟩:=rA (.list (T.map pD)) T 0 .un;have e:loop (gN 2) bV (T.map pD) [.fz (.list (T.map pD)),.fz (.int 0),.un]=some (.nx,[.fz (.list (T.map pD)),.fz (.int (oddH T:Int)),z]):=e;simp[bQ,bC,gk,aJ,e]
theorem sE(pre:List Nat)(c:Nat)(C:List Nat)(k:Int)(hk:(pre.length:Int)+1=k):EA (.list (ag (pre++c::C))) (some k) none=some (.list (ag C)):=by
 subst hk;show some (PyData.list (nH _ _ _))=_;unfold nH;have ln:(ag (pre++c::C)).length=pre.length+1+C.length:=by rw[bG,length_append,length_cons];lia
 have h1:HT.sIx (ag (pre++c::C)).length 0 (some ((pre.length:Int)+1))=pre.length+1:=by
  rw[ln];simp[HT.sIx]
  lia
 have h2:HT.sIx (ag (pre++c::C)).length (ag (pre++c::C)).length none=pre.length+1+C.length:=by rw[ln];rfl
 rw[h1,h2];have:(ag (pre++c::C)).drop (pre.length+1)=ag C:=by
  unfold ag;rw[map_append,map_cons,List.drop_append,length_map,List.drop_of_length_le (by rw[length_map];lia),Nat.add_sub_cancel_left];rfl
 rw[this,List.take_of_length_le (by rw[bG];lia)]
theorem wB(pre:List Nat)(c:Nat)(C:List Nat):aI (.list (ag (pre++c::C))) (.int (pre.length:Int))=some (.int (c:Int)):=by
 show lq _ _=_;rw[zR _ (by rw[length_append,length_cons];lia),List.getD_eq_getElem?_getD,List.getElem?_append_right (Nat.le_refl _),Nat.sub_self];rfl
theorem Fz(x:Int):gC (.int (-2)) (.int x)=some (.int (-2*x)):=lR (.of_left (by decide))
theorem Ks(b c:Nat)(U:D)(B C:List Nat)(V:As)(acc:List D)(k k1:Int)(H:Nat)(y5 y6:Sl)(hk:k+1=k1)(hx:aI (.list (ag B)) (.int k)=some (.int (c:Int)))(hs:EA (.list (ag B)) (some k1) none=some (.list (ag C)))(h1:cF [U,.int (c:Int)]=some (.list (V.map pD)))(h2:aR [.list (V.map pD)]=some (.int (sumE V)))(h3:bQ [.list (V.map pD)]=some (.int (H:Int)))(hl:acc.length+1+C.length<=1000)(hC:C.length<=1000):db [.fz (.int (b:Int)),.fz U,.fz (.list (ag B)),.ow acc,.fz (.int k),y5,y6]=some (.nx,[.fz (.int (b:Int)),.fz U,.fz (.list (ag B)),.ow (acc++gD (([b,c],-2*sumE V%8)::(C.filter λd=>hasB H d).map λd=>([b,c,d],4))),.fz (.int k),.fz (.list (V.map pD)),.fz (.int (H:Int))]):=by
 have p:fZ [.fz (.int (b:Int)),.fz U,.fz (.list (ag B)),.ow (acc++[.tuple [.tuple [.int (b:Int),.int (c:Int)],.int (-2*sumE V%8)]]),.fz (.int k),.fz (.list (V.map pD)),.fz (.int (H:Int))]=some (.list ((C.filter λd=>hasB H d).map λd:Nat=>.tuple [.tuple [.int (b:Int),.int (c:Int),.int (d:Int)],.int 4])):=by
  unfold fZ;refine bh (xs:=C) (h:=λd:Nat=>PyData.int (d:Int)) (by simp[hk,hs];rfl) (by lia) (λd _=>?_) λd _ _=>?_
  .have h:=iU H d
   generalize hasB H d=z at *;simp[bp,h]
  .simp[bp,hx]
 have ng:negD (.int 2)=some (.int (-2)):=rfl;have m:=Fz (sumE V);have a1:acc.length<sizeLine:=by rw[sizeLine_eq];lia
 have a2:acc.length+1+(C.filter λd=>hasB H d).length<=sizeLine:=by
  have:=length_filter_le (λd=>hasB H d) C;rw[sizeLine_eq];lia
 have ef:acc++gD (([b,c],-2*sumE V%8)::(C.filter λd=>hasB H d).map λd=>([b,c,d],4))=acc++[.tuple [.tuple [.int (b:Int),.int (c:Int)],.int (-2*sumE V%8)]]++((C.filter λd=>hasB H d).map λd:Nat=>.tuple [.tuple [.int (b:Int),.int (c:Int),.int (d:Int)],.int 4]):=by
  unfold gD;rw[map_cons,map_map,append_assoc];rfl
 rw[ef];simp[db,hx,h1,h2,h3,ng,m,a1,p,zT,a2]
theorem vS(b:Nat)(T:As)(hl:T.length<=1000)(U:D)(hU:aV U=some (T.map pD))(B:List Nat)(hB:B.length<=20):∀(C pre:List Nat) (acc:List D) (y4 y5 y6:Sl),B=pre++C->acc.length+C.length*30<=900->∃z4 z5 z6,loop (gN 4) db ((range' pre.length C.length).map λk:Nat=>PyData.int (0+(k:Int))) [.fz (.int (b:Int)),.fz U,.fz (.list (ag B)),.ow acc,y4,y5,y6]=some (.nx,[.fz (.int (b:Int)),.fz U,.fz (.list (ag B)),.ow (acc++gD (f2 b T C)),z4,z5,z6])
 |[],pre,acc,y4,y5,y6,_,_=>⟨y4,y5,y6,by rw[show gD (f2 b T [])=[]from rfl,append_nil];rfl⟩
 |c::C,pre,acc,y4,y5,y6,e,ha=>by
  have hlen:C.length<=20:=by
   have:=congrArg List.length e;rw[length_append,length_cons]at this
   lia
  rw[length_cons]at ha;have hv:(hav T c).length<=1000:=by
   have:=length_filter_le (λp:Nat×Nat=>hasB p.1 c) T;unfold hav
   lia
  have st:=Ks b c U B C (hav T c) acc (pre.length:Int) ((pre.length:Int)+1) (oddH (hav T c)) y5 y6 rfl (by rw[e];exact wB pre c C) (by rw[e];exact sE pre c C _ rfl) (oR T c hl U hU) (uV _ hv) (zK _) (by lia) (by lia);have fl:=length_filter_le (λd=>hasB (oddH (hav T c)) d) C
  obtain⟨z4,z5,z6,h⟩:=vS b T hl U hU B hB C (pre++[c]) (acc++gD (([b,c],-2*sumE (hav T c)%8)::(C.filter λd=>hasB (oddH (hav T c)) d).map λd=>([b,c,d],4))) (.fz (.int (pre.length:Int))) _ _ (by rw[e,append_assoc];rfl) (by
   unfold gD;rw[length_append,length_map,length_cons,length_map]
   lia)
  refine⟨z4,z5,z6,?_⟩;have z:PyData.int (0+((pre.length:Nat):Int))=PyData.int (pre.length:Int):=by rw[Int.zero_add]
  rw[length_cons,List.range'_succ,map_cons,z,fC (δ1:=[.fz (.int (b:Int)),.fz U,.fz (.list (ag B)),.ow acc,.fz (.int (pre.length:Int)),y5,y6]) (by rfl) st];rw[length_append]at h;refine h.trans ?_;have:gD (f2 b T (c::C))=gD (([b,c],-2*sumE (hav T c)%8)::(C.filter λd=>hasB (oddH (hav T c)) d).map λd=>([b,c,d],4))++gD (f2 b T C):=by
   show gD (_++_)=_;unfold gD;rw[map_append]
  rw[this,append_assoc]
theorem Iu(x0 x1 x2:D)(F:Fm)(hl:F.length<=1000)(z4 z5 z6:Sl):cY [.fz x0,.fz x1,.fz x2,.fz (.list (gD F)),z4,z5,z6]=some (.list (gD (F.filter λp=>decide (p.2≠0)))):=by
 unfold cY gD;refine bh (xs:=F) (h:=λp:List Nat×Int=>PyData.tuple [.tuple (ag p.1),.int p.2]) (by simp) (by lia) (λp _=>?_) λp _ _=>by simp[bp]
 by_cases h:p.2=0
 .simp[bp,h]
 .simp[bp,h]
theorem Iq(b:Nat)(U R:D)(B:List Nat)(s n:Int)(ln:((ag B).length:Int)=n)(F:Fm)(L:List D)(z4 z5 z6:Sl)(h1:aR [U]=some (.int s))(r:d6 [.int n]=some L)(lp:loop (gN 4) db L [.fz (.int (b:Int)),.fz U,.fz (.list (ag B)),.ow [.tuple [.tuple [.int (b:Int)],.int (s%8)]],.un,.un,.un]=some (.nx,[.fz (.int (b:Int)),.fz U,.fz (.list (ag B)),.ow (gD F),z4,z5,z6]))(p:cY [.fz (.int (b:Int)),.fz U,.fz (.list (ag B)),.fz (.list (gD F)),z4,z5,z6]=some R):b8 [.int (b:Int),U,.list (ag B)]=some R:=by
 refine kK rfl (δ':=[.fz (.int (b:Int)),.fz U,.fz (.list (ag B)),.fz (.list (gD F)),z4,z5,z6]) ?_;unfold ig;have o:1<=sizeLine:=by rw[sizeLine_eq];decide
 rw[bN (δ':=[.fz (.int (b:Int)),.fz U,.fz (.list (ag B)),.ow [.tuple [.tuple [.int (b:Int)],.int (s%8)]],.un,.un,.un]) (by
  show qU 3 _ [.fz (.int (b:Int)),.fz U,.fz (.list (ag B)),.un,.un,.un,.un]=_;simp[h1,o])]
 have hf:(oL (af (VL.os (af (oV 2) (ap)) eY) (ap)) d6) [.fz (.int (b:Int)),.fz U,.fz (.list (ag B)),.ow [.tuple [.tuple [.int (b:Int)],.int (s%8)]],.un,.un,.un]=some L:=rE (ds:=[.int n]) (by simp[ln]) r;rw[bN (δ':=[.fz (.int (b:Int)),.fz U,.fz (.list (ag B)),.ow (gD F),z4,z5,z6]) (by
  show(_:Option (List D)).bind _=_;rw[hf];exact lp)]
 show(cY [.fz (.int (b:Int)),.fz U,.fz (.list (ag B)),.fz (.list (gD F)),z4,z5,z6]).bind _=_;rw[p];rfl
theorem AE(b:Nat)(T:As)(hl:T.length<=1000)(B:List Nat)(hB:B.length<=20):b8 [.int (b:Int),.list (T.map pD),.list (ag B)]=some (.list (gD (fw b T B))):=by
 obtain⟨z4,z5,z6,h⟩:=vS b T hl (.list (T.map pD)) rfl B hB B [] [.tuple [.tuple [.int (b:Int)],.int (sumE T%8)]] .un .un .un rfl (by show 1+_<=_;lia);have lf:=qa b T B;have tb:Dr B.length<=300:=by
  have:∀m,m<=20->Dr m<=300:=by decide
  exact this _ hB
 exact Iq b _ _ B (sumE T) (B.length:Int) (by rw[bG]) (([b],sumE T%8)::f2 b T B) _ z4 z5 z6 (uV T hl) (by rw[B7 (by lia),List.range_eq_range'];rfl) h (Iu _ _ _ _ (by rw[length_cons];lia) _ _ _)
def orH(T:As):Nat:=T.foldl (λt p=>t ||| p.1) 0
theorem ez(x k:Nat):hasB x k=x.testBit k:=by rw[Nat.testBit_eq_decide_div_mod_eq];rfl
theorem vk(X:D)(y3 y4 y5:Sl):∀(T:As) (t:Nat) (y:Sl),∃z,loop (gN 2) gb (T.map pD) [.fz X,.fz (.int (t:Int)),y,y3,y4,y5]=some (.nx,[.fz X,.fz (.int ((T.foldl (λt p=>t ||| p.1) t:Nat):Int)),z,y3,y4,y5])
 |[],t,y=>⟨y,rfl⟩
 |p::T,t,y=>by
  obtain⟨z,e⟩:=vk X y3 y4 y5 T (t ||| p.1) (.fz (pD p));refine⟨z,?_⟩;have o:=MA.Lb t p.1;rw[map_cons,fC (δ1:=[.fz X,.fz (.int (t:Int)),.fz (pD p),y3,y4,y5]) (δ2:=[.fz X,.fz (.int ((t ||| p.1:Nat):Int)),.fz (pD p),y3,y4,y5]) (by rfl) (by simp[gb,pD,o])];exact e
theorem tW(k:Nat):∀(T:As) (t:Nat),hasB (T.foldl (λt p=>t ||| p.1) t) k=true↔hasB t k=true\/∃p∈T,hasB p.1 k=true
 |[],t=>by simp
 |p::T,t=>by
  show hasB (T.foldl _ (t ||| p.1)) k=true↔_;rw[tW k T,ez,Nat.testBit_or,<-ez,<-ez,Bool.or_eq_true];constructor
  .rintro ((a|a)|⟨q,hq,a⟩)
   .exact .inl a
   .exact .inr ⟨p,mem_cons_self,a⟩
   .exact .inr ⟨q,mem_cons_of_mem _ hq,a⟩
  .rintro (a|⟨q,hq,a⟩)
   .exact .inl (.inl a)
   .rcases List.mem_cons.mp hq with rfl|z
    .exact .inl (.inr a)
    .exact .inr ⟨q,z,a⟩
def i5(h:Nat):List Nat:=(List.range (Builtin.Int.intBits (h:Int))).filter λk=>hasB h k
theorem CD(h:Nat):h<2^Builtin.Int.intBits (h:Int):=by
 unfold Builtin.Int.intBits;split
 .rename_i z
  have:h=0:=by simpa using z
  lia
 .rw[natAbs_natCast]
  exact Nat.lt_log2_self
theorem ul{h k n:Nat}(hn:h<2^n)(hk:hasB h k=true):k<n:=by
 refine Nat.lt_of_not_le λq=>?_
 have:h/2^k=0:=Nat.div_eq_of_lt (lt_of_lt_of_le hn (pow_le_pow_right (by decide) q));unfold hasB at hk;rw[this]at hk;cases hk
theorem wy(h k:Nat):k∈i5 h↔hasB h k=true:=by
 unfold i5;rw[mem_filter,List.mem_range];exact⟨λq=>q.2,λq=>⟨ul (CD h) q,q⟩⟩
theorem qp(h:Nat):(i5 h).Pairwise (· < ·):=List.pairwise_lt_range.sublist filter_sublist
theorem Gd(X:D)(h N:Nat)(n:Int)(z2:Sl)(hN:N<=1000)(hb:mS (.int (h:Int))=some (.int n))(r:d6 [.int n]=some ((List.range N).map λk:Nat=>PyData.int (0+(k:Int)))):f8 [.fz X,.fz (.int (h:Int)),z2,.un,.un,.un]=some (.list (ag ((List.range N).filter λk=>hasB h k))):=by
 unfold f8 ag;have hb':(Builtin.Int.intBits (h:Int):Int)=n:=by
  have:=hb;rw[xZ]at this;injection this with this
  injection this
 refine bh (xs:=List.range N) (h:=λk:Nat=>PyData.int (0+(k:Int))) (rE (ds:=[.int n]) (by simp[hb']) r) (by rw[length_range];lia) (λk _=>?_) λk _ _=>by simp[bp]
 have q:=iU h k;generalize hasB h k=z at *;simp[bp,q]
theorem Kt(X:D)(c:Nat)(U V:D)(B:List Nat)(acc L:List D)(k k1:Int)(h:D)(z2:Sl)(hk:k+1=k1)(hx:aI (.list (ag B)) (.int k)=some (.int (c:Int)))(h1:cF [X,.int (c:Int)]=some U)(hs:EA (.list (ag B)) (some k1) none=some V)(h2:b8 [.int (c:Int),U,V]=some (.list L))(hl:acc.length+L.length<=1000):ej [.fz X,.fz h,z2,.fz (.list (ag B)),.ow acc,.fz (.int k)]=some (.nx,[.fz X,.fz h,z2,.fz (.list (ag B)),.ow (acc++L),.fz (.int k)]):=by
 have a2:acc.length+L.length<=sizeLine:=by rw[sizeLine_eq];lia
 simp[ej,hk,hx,h1,hs,h2,zT,a2]
theorem vX(T:As)(hl:T.length<=1000)(X:D)(hX:aV X=some (T.map pD))(h:D)(z2:Sl)(B:List Nat)(hB:B.length<=5):∀(C pre:List Nat) (acc:List D) (y5:Sl),B=pre++C->acc.length+C.length*100<=900->∃z5,loop (gN 5) ej ((range' pre.length C.length).map λk:Nat=>PyData.int (0+(k:Int))) [.fz X,.fz h,z2,.fz (.list (ag B)),.ow acc,y5]=some (.nx,[.fz X,.fz h,z2,.fz (.list (ag B)),.ow (acc++gD (fo T C)),z5])
 |[],pre,acc,y5,_,_=>⟨y5,by rw[show gD (fo T [])=[]from rfl,append_nil];rfl⟩
 |c::C,pre,acc,y5,e,ha=>by
  have hlen:C.length<=5:=by
   have:=congrArg List.length e;rw[length_append,length_cons]at this
   lia
  rw[length_cons]at ha;have hv:(hav T c).length<=1000:=by
   have:=length_filter_le (λp:Nat×Nat=>hasB p.1 c) T;unfold hav
   lia
  have lf:(gD (fw c (hav T c) C)).length<=100:=by
   have h1:=qa c (hav T c) C;have h2:=length_filter_le (λp:List Nat×Int=>decide (p.2≠0)) (([c],sumE (hav T c)%8)::f2 c (hav T c) C)
   rw[length_cons]at h2;have:∀m,m<=5->Dr m<=90:=by decide
   have:=this _ hlen;unfold gD fw;rw[length_map]
   lia
  have st:=Kt X c _ _ B acc _ (pre.length:Int) ((pre.length:Int)+1) h z2 rfl (by rw[e];exact wB pre c C) (oR T c hl X hX) (by rw[e];exact sE pre c C _ rfl) (AE c _ hv C (by lia)) (by lia);obtain⟨z5,q⟩:=vX T hl X hX h z2 B hB C (pre++[c]) (acc++gD (fw c (hav T c) C)) (.fz (.int (pre.length:Int))) (by rw[e,append_assoc];rfl) (by rw[length_append];lia);refine⟨z5,?_⟩;have z:PyData.int (0+((pre.length:Nat):Int))=PyData.int (pre.length:Int):=by rw[Int.zero_add]
  rw[length_cons,List.range'_succ,map_cons,z,fC (δ1:=[.fz X,.fz h,z2,.fz (.list (ag B)),.ow acc,.fz (.int (pre.length:Int))]) (by rfl) st];rw[length_append]at q;refine q.trans ?_;have:gD (fo T (c::C))=gD (fw c (hav T c) C)++gD (fo T C):=by
   show gD (_++_)=_;unfold gD;rw[map_append]
  rw[this,append_assoc]
theorem Iv(X:D)(PL L:List D)(B:List Nat)(F:List D)(h n:Int)(z2 z5:Sl)(hX:aV X=some PL)(lp:loop (gN 2) gb PL [.fz X,.fz (.int 0),.un,.un,.un,.un]=some (.nx,[.fz X,.fz (.int h),z2,.un,.un,.un]))(p:f8 [.fz X,.fz (.int h),z2,.un,.un,.un]=some (.list (ag B)))(ln:((ag B).length:Int)=n)(r:d6 [.int n]=some L)(lp2:loop (gN 5) ej L [.fz X,.fz (.int h),z2,.fz (.list (ag B)),.ow [],.un]=some (.nx,[.fz X,.fz (.int h),z2,.fz (.list (ag B)),.ow F,z5]))(hF:F.length<=sizeLine):dq [X]=some (.tuple F):=by
 refine kK rfl (δ':=[.fz X,.fz (.int h),z2,.fz (.list (ag B)),.fz (.list F),z5]) ?_;unfold ki;rw[bN (δ':=[.fz X,.fz (.int 0),.un,.un,.un,.un]) (by rfl),bN (δ':=[.fz X,.fz (.int h),z2,.un,.un,.un]) (by
  show(_:Option (List D)).bind _=_;rw[show(oI (oV 0) aV) [.fz X,.fz (.int 0),.un,.un,.un,.un]=some PL from hX];exact lp),bN (δ':=[.fz X,.fz (.int h),z2,.fz (.list (ag B)),.un,.un]) (by
  show(_:Option D).bind _=_;rw[p];rfl),bN (δ':=[.fz X,.fz (.int h),z2,.fz (.list (ag B)),.ow [],.un]) (by simp)]
 have hf:(oL (af (VL.os (af (oV 3) (ap)) eY) (ap)) d6) [.fz X,.fz (.int h),z2,.fz (.list (ag B)),.ow [],.un]=some L:=rE (ds:=[.int n]) (by simp[ln]) r;rw[bN (δ':=[.fz X,.fz (.int h),z2,.fz (.list (ag B)),.ow F,z5]) (by
  show(_:Option (List D)).bind _=_;rw[hf];exact lp2)]
 show(bi (VL.os (af (oV 4) (ap)) di)) [.fz X,.fz (.int h),z2,.fz (.list (ag B)),.fz (.list F),z5]=_;simp[hF]
theorem CY(T:As)(hl:T.length<=900)(hb:(i5 (orH T)).length<=5)(hs:orH T<2^900):dq [.tuple (T.map pD)]=some (.tuple (gD (fo T (i5 (orH T))))):=by
 obtain⟨z2,lp⟩:=vk (.tuple (T.map pD)) .un .un .un T 0 .un;obtain⟨z5,lp2⟩:=vX T (by lia) (.tuple (T.map pD)) rfl (.int (orH T:Int)) z2 (i5 (orH T)) hb (i5 (orH T)) [] [] .un rfl (by show 0+_<=_;lia);have hN:Builtin.Int.intBits (orH T:Int)<=900:=MA.qq (by rw[natAbs_natCast];exact hs);have lf:=pZ T (i5 (orH T));have t5:=Er hb;exact Iv _ (T.map pD) _ (i5 (orH T)) _ (orH T:Int) ((i5 (orH T)).length:Int) z2 z5 rfl lp (Gd _ (orH T) (Builtin.Int.intBits (orH T:Int)) _ z2 (by lia) rfl (B7 (by lia))) (by rw[bG]) (by rw[B7 (by lia),List.range_eq_range'];rfl) lp2 (by unfold gD;rw[length_map,sizeLine_eq];lia)
theorem oh:∀(l ns:List Int),(ns++l).Nodup->l.foldl cH ns=ns++l
 |[],ns,_=>by rw[append_nil];rfl
 |x::l,ns,h=>by
  have hx:x∉ns:=λz=>by
   have:=(List.nodup_append.mp h).2.2 x z x mem_cons_self;exact this rfl
  show l.foldl cH (cH ns x)=_;have e:cH ns x=ns++[x]:=if_neg hx;rw[e,oh l (ns++[x]) (by rw[append_assoc];exact h),append_assoc];rfl
theorem og:∀(l ns:List (List Int)),(ns++l).Nodup->l.foldl bb ns=ns++l
 |[],ns,_=>by rw[append_nil];rfl
 |x::l,ns,h=>by
  have hx:x∉ns:=λz=>by
   have:=(List.nodup_append.mp h).2.2 x z x mem_cons_self;exact this rfl
  show l.foldl bb (bb ns x)=_;have e:bb ns x=ns++[x]:=if_neg hx;rw[e,og l (ns++[x]) (by rw[append_assoc];exact h),append_assoc];rfl
theorem j4:∀xs:List Nat,kO (ag xs)=some (iH xs)
 |[]=>rfl
 |x::xs=>by
  show(kO (ag xs)).bind _=_;rw[j4 xs];rfl
theorem FV{l:List Nat}(h:l.Pairwise (· < ·)):(iH l).Pairwise (· < ·):=List.pairwise_map.mpr (h.imp λ{a b} q=>by lia)
theorem Ie(l:List Nat):(iH l).map PyData.int=ag l:=by unfold iH ag;rw[map_map];rfl
theorem uX{l:List Nat}(h:l.Pairwise (· < ·))(hl:l.length<64):kt (.tuple (ag l))=some (.list (ag l)):=by
 have hz:=FV h;have nd:(iH l).Nodup:=hz.imp λ{a b} q=>by lia
 have e1:gJ (iH l)=iH l:=oh (iH l) [] nd;have e2:aQ (iH l)=iH l:=(fJ (.refl _) (hz.imp λ{a b} q=>by lia)).symm;show(kO (ag l)).bind _=_;rw[j4,Option.bind_some,if_pos (by unfold iH;rw[length_map];exact hl),e1,e2,Ie]
theorem yE{F:Fm}(h:Up F)(hg:∀p∈F,Gp p)(hl:F.length<=50):qJ (.list (F.map λp=>.tuple (ag p.1)))=some (.list (F.map λp=>.tuple (ag p.1))):=by
 have it:∀F:Fm,mi (F.map λp=>.tuple (ag p.1))=some (F.map λp=>iH p.1):=λF=>by
  induction F with
  |nil=>rfl
  |cons p F ih=>
   show(kO (ag p.1)).bind _=_;rw[j4,Option.bind_some,ih];rfl
 have irr:∀l:List Nat,kL l l=false:=λl=>by rw[<-jX];exact gY _
 have injZ:∀{a b:List Nat},iH a=iH b->a=b:=λ{a b} e=>by
  have:=congrArg (List.map Int.toNat) e;unfold iH at this;rw[map_map,map_map]at this;simpa[Function.comp_def]using this
 have nd:(F.map λp=>iH p.1).Nodup:=List.pairwise_map.mpr (h.imp λ{p q} z e=>by
  have:=injZ e;rw[this,irr]at z;cases z)
 have e1:jg (F.map λp=>iH p.1)=F.map λp=>iH p.1:=og _ [] nd
 have e2:dc ((F.map λp=>iH p.1).map bP)=(F.map λp=>iH p.1).map bP:=by
  refine(jZ (.refl _) ?_).symm;rw[map_map];refine List.pairwise_map.mpr (h.imp λ{p q} z=>?_);show cZ (bP (iH q.1)) (bP (iH p.1))=false;rw[jX];have:kL p.1 q.1=true:=z;have ne:bP (iH p.1)≠bP (iH q.1):=λe=>by
   rw[<-jX,e,gY]at this;cases this
  have t:=gX _ _ ne;rw[jX,jX,this]at t;cases e:kL q.1 p.1 with
  |false=>rfl
  |true=>rw[e]at t;cases t
 show(mi _).bind _=_;rw[it,Option.bind_some,if_pos ⟨by rw[length_map];lia,λk hk=>by
  obtain⟨p,hp,rfl⟩:=List.mem_map.mp hk;have:=(hg p hp).n0;intro z;unfold iH at z;exact this (List.map_eq_nil_iff.mp z)⟩,e1,e2,map_map,map_map]
 have kd:∀l:List Nat,(bP (iH l)).map jy=ag l:=λl=>by
  unfold bP iH ag;rw[map_map,map_map];rfl
 congr 2;refine map_congr_left λp _=>?_
 show PyData.tuple ((bP (iH p.1)).map jy)=_;rw[kd]
theorem kW(i:Int):aS [.int i]=some (.bool true):=by simp[aS,bC,gm,aJ]
theorem pv(k:Nat)(hs:List Nat):∀x∈ag hs,MA.Sh k x:=λx hx=>by
 obtain⟨h,_,rfl⟩:=List.mem_map.mp hx;exact MA.Sh.int k _
theorem At(hs:List Nat)(b:Nat):sg false (.int (b:Int)) (.list (ag hs))=some (.bool (decide (b∈hs))):=by
 have f:(ag hs).all xM=true:=by
  rw[List.all_eq_true];intro d hd;obtain⟨h,_,rfl⟩:=List.mem_map.mp hd;rfl
 show(if xM (.int (b:Int))=true/\(ag hs).all xM=true then some (PyData.bool (if false=true then !FX (.int (b:Int)) (ag hs)else FX (.int (b:Int)) (ag hs)))else none)=_;rw[if_pos ⟨rfl,f⟩,if_neg (by decide)];congr 2;unfold FX ag;rw[List.any_map];by_cases h:b∈hs
 .rw[decide_eq_true h]
  exact List.any_eq_true.mpr ⟨b,h,by simp[PyData.eqv]⟩
 .rw[decide_eq_false h]
  refine List.any_eq_false.mpr λx hx=>?_
  simp only[Function.comp_def,PyData.eqv];intro z;have:(b:Int)=(x:Int)\/(x:Int)=(b:Int):=by first|exact .inl (by simpa using z)|exact .inr (by simpa using z)
  exact h (by rw[show b=x by lia];exact hx)
theorem mF(σ:Nat->Bool):∀l:List Nat,((l.filter σ).length:Int)=(l.length:Int)↔l.all σ = true
 |[]=>by simp
 |a::l=>by
  have ih:=mF σ l;have le:=length_filter_le σ l;rw[filter_cons,List.all_cons,length_cons];cases h:σ a with
  |true=>
   rw[if_pos rfl,length_cons,Bool.true_and];exact⟨λz=>ih.mp (by lia),λz=>by have:=ih.mpr z;lia⟩
  |false=>
   rw[if_neg (by decide),Bool.false_and];constructor
   .intro z;lia
   .intro z;cases z
theorem Cy{a:Nat}(b:Nat)(ha:a<2^60):gC (.int (a:Int)) (.int (b:Int))=some (.int ((a:Int)*(b:Int))):=by
 have:IntMulOk (a:Int) (b:Int):=.of_left (le_trans (MA.qq (m:=60) (by rw[natAbs_natCast];exact ha)) (by decide));rw[lR this]
theorem HK(σ:Nat->Bool)(S:Nat):∀l:List Nat,n1 σ S l=((l.filter λx=>hasB S x && σ x).length:Int)
 |[]=>rfl
 |x::l=>by
  have ih:=HK σ S l;rw[filter_cons];show(if hasB S x=true/\ σ x=true then 1 else 0)+n1 σ S l=_;by_cases h:hasB S x=true/\ σ x=true
  .rw[if_pos h,if_pos (by rw[h.1,h.2];rfl),length_cons,ih];lia
  .rw[if_neg h,if_neg (by simpa using h),ih];lia
def op:Nat->List (Nat×Int)->Nat
 |x,[]=>x
 |x,q::Q=>op (if q.2=2\/q.2=6 then x ^^^ q.1 else x) Q
def tot:List (Nat×Int)->Int
 |[]=>0
 |q::Q=>q.2+tot Q
def GT(x:MA.Q4)(k:Int):D:=.tuple [.int x.a,.int x.b,.int x.c,.int x.d,.int k]
def pop:Nat->Nat
 | 0=>0
 |n+1=>(n+1)%2+pop ((n+1)/2)
theorem zm(n:Nat):pop n=n%2+pop (n/2):=by
 cases n with
 |zero=>simp[pop]
 |succ n=>rw[pop]
theorem xu(a b:Nat):(a &&& b)/2=a/2 &&& b/2:=by
 apply Nat.eq_of_testBit_eq;intro i;rw[Nat.testBit_and,<-Nat.testBit_add_one,<-Nat.testBit_add_one,<-Nat.testBit_add_one,Nat.testBit_and]
theorem Ad(a b:Nat):(a &&& b)%2=a%2*(b%2):=by
 have h:=Nat.testBit_and a b 0;simp only[Nat.testBit_zero]at h;have ha:a%2=0\/a%2=1:=by lia
 have hb:b%2=0\/b%2=1:=by lia
 have hc:(a &&& b)%2=0\/(a &&& b)%2=1:=by lia
 rcases ha with ha|ha<;>rcases hb with hb|hb<;>rcases hc with hc|hc<;>simp[ha,hb,hc]at h ⊢
def jE(a b:Nat):Nat:=pop (a &&& b)
theorem dY(a b:Nat):jE a b=a%2*(b%2)+jE (a/2) (b/2):=by
 unfold jE;rw[zm,Ad,xu]
theorem xV(a b:Nat):jE a b=jE b a:=by unfold jE;rw[Nat.and_comm]
theorem xU(a:Nat):jE a 0=0:=by unfold jE;simp[pop]
theorem sA:∀(h b c:Nat),c/2^h%2=0->jE b (c+2^h)=jE b c+b/2^h%2
 | 0,b,c,hc=>by
  simp only[Nat.pow_zero,Nat.div_one]at hc ⊢;rw[dY b (c+1),dY b c,show(c+1)%2=1 by lia,show(c+1)/2=c/2 by lia,hc]
  lia
 |h+1,b,c,hc=>by
  have e:c/2^(h+1)=c/2/2^h:=by rw[div_div_eq_div_mul,pow_succ,mul_comm]
  have e2:b/2^(h+1)=b/2/2^h:=by rw[div_div_eq_div_mul,pow_succ,mul_comm]
  have ih:=sA h (b/2) (c/2) (by rw[<-e];exact hc);rw[dY b (c+2^(h+1)),dY b c,show(c+2^(h+1))%2=c%2 by rw[pow_succ];lia,show(c+2^(h+1))/2=c/2+2^h by rw[pow_succ];lia,ih,e2]
  lia
def tb(w b e:Nat):Nat->Nat
 | 0=>1
 |j+1=>tb w b e j+b/2^(w-1-j)%2*2^(1+j)+e/2^(w-1-j)%2*2^(1+w+j)
def tm(w:Nat)(ms:List Nat)(T:Nat):Nat->Nat
 | 0=>T
 |m+1=>tm w ms T m+ms.getD m 0*2^(1+2*w+m)
def HC:MA.Q4:=⟨1,0,0,0⟩
def acc(t B:Nat->Int):Nat->MA.Q4
 | 0=>⟨0,0,0,0⟩
 |k+1=>if B k=0 then MA.Q4.add (acc t B k) (MA.IX (t k%8).toNat HC)else acc t B k
def res(y:MA.Q4)(hv:Int):D:=if hv<0 then GT (MA.Q4.rtn (-hv).toNat y) 0 else GT (MA.HF y hv).1 (MA.HF y hv).2
theorem Cd:∀n:Nat,pop n=MA.qe n:=λn=>by
 induction n using Nat.strongRecOn with
 |_ n ih=>
  rw[zm,MA.qe];by_cases h:n=0
  .subst h;simp[pop]
  .rw[if_neg h,ih (n/2) (by lia)]
theorem C6(a b:Nat):jE a b%2=par (a &&& b):=by unfold jE par;rw[Cd]
theorem lm:∀(h b:Nat),jE (2^h) b=b/2^h%2
 | 0,b=>by
  rw[dY];have:jE (2^0/2) (b/2)=0:=by rw[show 2^0/2=0 from rfl,xV,xU]
  rw[this];simp
 |h+1,b=>by
  rw[dY,pow_succ,Nat.mul_mod_left,Nat.mul_div_cancel _ (by decide),lm h (b/2),mul_comm (2^h) 2,<-div_div_eq_div_mul]
  lia
theorem KE{b x y:Nat}(hc:b/2^x%2=0)(hne:y≠x):(b+2^x)/2^y%2=b/2^y%2:=by
 rw[<-lm y (b+2^x),<-lm y b,sA x (2^y) b hc];have:2^y/2^x%2=0:=by
  rcases Nat.lt_or_gt_of_ne hne with q|q
  .rw[Nat.div_eq_of_lt (Nat.pow_lt_pow_right (by decide) q)]
  .rw[Nat.pow_div (by lia) (by decide)]
   obtain⟨k,hk⟩:∃k,y-x=k+1:=⟨y-x-1,by lia⟩;rw[hk,pow_succ]
   lia
 lia
def q0:MA.Q4:=⟨0,0,0,0⟩
theorem BZ(bits:Nat)(hbits:bits%2=1){A:As}(h:OkA A)(b:Nat)(e tot:Int)(hi:((vl A 0:Nat)+((sm (λk=>par (k &&& bits)) A:Nat):Int)-tot)%8=0):
  (((vl (xv A b e) 0:Nat):Int)+((sm (λk=>par (k &&& bits)) (xv A b e):Nat):Int)-(tot+e*((par (b &&& bits):Nat):Int)))%8=0:=by
 obtain⟨w,hw⟩:∃w:Nat->Nat,(λk=>par (k &&& bits))=w:=⟨_,rfl⟩
 have w0:w 0=0:=by rw[<-hw];show par (0 &&& bits)=0;rw[zero_and,MA.jm]
 have wb:par (b &&& bits)=w b:=by rw[<-hw]
 have wl:∀k,w k<2:=λk=>by rw[<-hw];exact MA.gO _
 have wo:b%2=1->w b=1-w (hb b):=λo=>by
  rw[<-hw];show par (b &&& bits)=1-par (hb b &&& bits);unfold hb;rw[o];exact Cp bits b hbits o
 rw[wb];rw[hw]at hi ⊢;have s1:sm w (yi A b e)=sm w A:=by
  unfold yi;split
  .have:=yI w A 0 (nv (vl A 0) e) h.nd
   rw[w0]at this
   lia
  .rfl
 have s2:((sm w (xv A b e):Nat):Int)=(sm w A:Nat)+((nv (vl A (hb b)) (he b e):Nat)-(vl A (hb b):Nat):Int)*(w (hb b):Nat):=by
  unfold xv;by_cases z:0<hb b
  .rw[if_pos z,GS A b e _ z]
   have:=yI w (yi A b e) (hb b) (nv (vl A (hb b)) (he b e)) (J3 h b e).nd;rw[GS A b e _ z,s1]at this;have t:=congrArg (λx:Nat=>(x:Int)) this
   simp only[Int.natCast_add,Int.natCast_mul]at t;rw[Int.sub_mul]
   lia
  .rw[if_neg z,s1,show hb b=0 by lia,w0]
   simp
 rw[s2,Do];have n1:=oz (vl A (hb b)) (he b e);have n0:=oz (vl A 0) e;by_cases o:b%2=1
 .rw[if_pos o,wo o]
  unfold he at n1 ⊢;rw[if_pos o]at n1 ⊢;have:=wl (hb b);rcases (show w (hb b)=0\/w (hb b)=1 by lia)with y|y
  .rw[y];simp only[Nat.sub_zero,Int.natCast_zero,Int.natCast_one,Int.mul_zero,mul_one,Int.add_zero];lia
  .rw[y];simp only[Nat.sub_self,Int.natCast_zero,Int.natCast_one,Int.mul_zero,mul_one,Int.add_zero];lia
 .rw[if_neg o]
  have eb:hb b=b:=by unfold hb;lia
  unfold he at n1 ⊢;rw[if_neg o]at n1 ⊢;rw[eb]at n1 ⊢;have:=wl b;rcases (show w b=0\/w b=1 by lia)with y|y
  .rw[y];simp only[Int.natCast_zero,Int.natCast_one,Int.mul_zero,mul_one,Int.add_zero];lia
  .rw[y];simp only[Int.natCast_zero,Int.natCast_one,Int.mul_zero,mul_one,Int.add_zero];lia
def cS(b:Nat):List (Nat×Int)->Int
 |[]=>0
 |q::Q=>q.2*((par (q.1 &&& b):Nat):Int)+cS b Q
def LB(b:Nat)(ts:List Nat):Bool:=ts.all λt=>par (t &&& b)==0
def FF(c:Int)(ps:List (Nat×Int))(ts:List Nat)(b:Nat):MA.Q4:=if LB b ts=true then MA.IX ((c+cS b ps)%8).toNat HC else q0
theorem uY(b:Nat):∀R:As,((sm (λk=>par (k &&& b)) R:Nat):Int)=cS b (upI R)
 |[]=>rfl
 |p::R=>by
  show((p.2*par (p.1 &&& b)+sm (λk=>par (k &&& b)) R:Nat):Int)=(p.2:Int)*((par (p.1 &&& b):Nat):Int)+cS b (upI R)
  rw[<-uY b R]
  lia
theorem yM(b:Nat)(hb:b%2=1):∀(Q:List (Nat×Int)) {A:As} (tot:Int),OkA A->(((vl A 0:Nat):Int)+((sm (λk=>par (k &&& b)) A:Nat):Int)-tot)%8=0->(((vl (yf A Q) 0:Nat):Int)+((sm (λk=>par (k &&& b)) (yf A Q):Nat):Int)-(tot+cS b Q))%8=0
 |[],A,tot,h,hi=>by
  show(_+_-(tot+0))%8=0;rw[Int.add_zero];exact hi
 |q::Q,A,tot,h,hi=>by
  have:=yM b hb Q _ (Je h q.1 q.2) (BZ b hb h q.1 q.2 tot hi);show(_+_-(tot+(q.2*((par (q.1 &&& b):Nat):Int)+cS b Q)))%8=0;rw[<-Int.add_assoc];exact this
theorem zp{R:As}{Q:List (Nat×Int)}(h:RR R λk=>kv k Q){c T:Int}(hT:T%8=(c+tv Q)%8)(b:Nat)(hb:b%2=1):(T+cS b (upI R))%8=(c+cS b Q)%8:=by
 obtain⟨c0,hc0,hlt⟩:∃c0:Nat,(c0:Int)=c%8/\c0<8:=⟨(c%8).toNat,by lia,by lia⟩;have ok:=zI Q (pI hlt);have s:=yM b hb Q (A:=[(0,c0)]) c0 (pI hlt) (by
  rw[uQ];have:sm (λk=>par (k &&& b)) [(0,c0)]=0:=by
   show c0*par (0 &&& b)+0=0;rw[zero_and,MA.jm,Nat.mul_zero]
  rw[this]
  lia)
 have v0:=uP Q (pI hlt);rw[uQ]at v0;obtain⟨rs,_,p,pw⟩:=kY (ak (yf [(0,c0)] Q)) ok.nd;have rr:RR (lK (yf [(0,c0)] Q) rs) λk=>kv k Q:=EF ok p pw λk hk=>by
  rw[uO hk _ (pI hlt),Ek c0 hk];show((0:Nat)+_:Int)%8=_;rw[show((0:Nat):Int)=0 from rfl,Int.zero_add]
 have e:R=lK (yf [(0,c0)] Q) rs:=h.one rr λk _=>rfl
 have f:=Ez (λk=>par (k &&& b)) (by show par (0 &&& b)=0;rw[zero_and,MA.jm]) (yf [(0,c0)] Q) rs ok.nd p
 rw[<-e]at f;have g:=uY b R;rw[f]at g;rw[<-g]
 lia
theorem ue{k:Nat}:∀{Q:List (Nat×Int)},kv k Q≠0->∃q∈Q,hb q.1=k
 |[],h=>absurd rfl h
 |q::Q,h=>by
  by_cases e:hb q.1=k
  .exact⟨q,mem_cons_self,e⟩
  .have h:(if hb q.1=k then he q.1 q.2 else 0)+kv k Q≠0:=h
   rw[if_neg e,Int.zero_add]at h;obtain⟨r,hr,e⟩:=ue h;exact⟨r,mem_cons_of_mem _ hr,e⟩
theorem Hh{R:As}{Q:List (Nat×Int)}(h:RR R λk=>kv k Q)(hQ:∀q∈Q,q.1<iM):∀p∈R,2<=p.1/\p.1%2=0/\p.1<iM/\1<=p.2/\p.2<=7:=λp hp=>by
 have h1:=h.nz p hp;have h2:=h.val p.1 h1.1;rw[gG (jp h.pk) hp]at h2;have h2:(p.2:Int)=kv p.1 Q%8:=h2;obtain⟨q,hq,e⟩:=ue (k:=p.1) (Q:=Q) (by lia);have:=hQ q hq;unfold hb at e
 lia
theorem GQ{ps:As}{bit ch:Nat}(hp:∀p∈ps,p.1<iM)(hc:ch<iM):∀q∈ps.map (xb bit ch),q.1<iM:=λq hq=>by
 obtain⟨p,hp',rfl⟩:=List.mem_map.mp hq;unfold xb;split
 .exact Ee (hp p hp') hc
 .exact hp p hp'
theorem J0(a b c:Nat):par ((a ^^^ b) &&& c)=(par (a &&& c)+par (b &&& c))%2:=by rw[Nat.and_xor_distrib_right,MA.lb]
theorem JZ(a b c:Nat):par (a &&& (b ^^^ c))=(par (a &&& b)+par (a &&& c))%2:=by rw[Nat.and_xor_distrib_left,MA.lb]
def tp(n:Nat):Nat:=Nat.log2 n
theorem dZ{n:Nat}(h:n≠0):hasB n (tp n)=true:=by
 rw[ez];unfold tp;exact Nat.testBit_log2 h
theorem nW{n k:Nat}(h:tp n<k):hasB n k=false:=by
 rw[ez];exact Nat.testBit_lt_two_pow (lt_of_lt_of_le (Nat.lt_log2_self) (pow_le_pow_right (by decide) h))
theorem GU{n k:Nat}(h:hasB n k=true)(g:∀j,k<j->hasB n j=false):tp n=k:=by
 have hn:n≠0:=λz=>by subst z;rw[ez,Nat.zero_testBit]at h;cases h
 rcases Nat.lt_trichotomy (tp n) k with z|z|z
 .rw[nW z]at h;cases h
 .exact z
 .have:=dZ hn
  rw[g _ z]at this;cases this
def clr1(told:List Nat)(t:Nat):Nat:=told.foldl (λt o=>if hasB t (tp o)then t ^^^ o else t) t
def eM(told:List Nat)(a:Nat):List Nat:=if clr1 told a=0 then told else(told.map λo=>if hasB o (tp (clr1 told a))then o ^^^ clr1 told a else o)++[clr1 told a]
def xY(l:List Nat):List Nat:=l.foldl eM []
structure Red (l:List Nat):Prop where
 nz:∀a∈l,a≠0
 pw:l.Pairwise λa b=>hasB a (tp b)=false/\hasB b (tp a)=false
theorem kf(o:Nat)(l:List Nat)(t:Nat):clr1 (o::l) t=clr1 l (if hasB t (tp o)then t ^^^ o else t):=rfl
theorem uC{k:Nat}:∀(l:List Nat) (t:Nat),(∀o∈l,hasB o k=false)->hasB (clr1 l t) k=hasB t k
 |[],_,_=>rfl
 |o::l,t,h=>by
  rw[kf,uC l _ λa ha=>h a (.tail _ ha)]
  split
  .rw[cE,h o (.head _)];simp
  .rfl
theorem wv:∀(l:List Nat) (t:Nat),(∀a∈l,a≠0)->(l.Pairwise λa b=>hasB a (tp b)=false/\hasB b (tp a)=false)->∀o∈l,hasB (clr1 l t) (tp o)=false
 |[],_,_,_,_,h=>by cases h
 |a::l,t,nz,pw,o,ho=>by
  rw[kf];have pw':=List.pairwise_cons.mp pw;rcases List.mem_cons.mp ho with rfl|ho
  .rw[uC l _ λb hb=>(pw'.1 b hb).2]
   split
   .rename_i h
    rw[cE,h,dZ (nz _ (.head _))];rfl
   .rename_i h
    exact Bool.eq_false_iff.mpr h
  .exact wv l _ (λb hb=>nz b (.tail _ hb)) pw'.2 o ho
def vb(x a:Nat):Bool:=par (a &&& x)==1
theorem sY(x a b:Nat):vb x (a ^^^ b)=(vb x a != vb x b):=by
 unfold vb;rw[Nat.and_xor_distrib_right,MA.lb];have h1:=MA.gO (a &&& x);have h2:=MA.gO (b &&& x);rcases (by lia:par (a &&& x)=0\/par (a &&& x)=1)with e1|e1<;>rcases (by lia:par (b &&& x)=0\/par (b &&& x)=1)with e2|e2<;>rw[e1,e2]<;>rfl
theorem qh(x:Nat):∀(l:List Nat) (t:Nat),(∀o∈l,vb x o=false)->vb x (clr1 l t)=vb x t
 |[],_,_=>rfl
 |o::l,t,h=>by
  rw[kf,qh x l _ λa ha=>h a (.tail _ ha)]
  split
  .rw[sY,h o (.head _)];simp
  .rfl
theorem Gc(x:Nat)(l:List Nat)(a:Nat):(∀o∈eM l a,vb x o=false)↔(∀o∈l,vb x o=false)/\vb x a=false:=by
 unfold eM;split
 .rename_i h
  constructor
  .intro g
   refine⟨g,?_⟩;rw[<-qh x l a g,h];unfold vb;rw[zero_and,MA.jm];rfl
  .exact λg=>g.1
 .constructor
  .intro g
   have gt:vb x (clr1 l a)=false:=g _ (List.mem_append_right _ (.head _));have gl:∀o∈l,vb x o=false:=λo ho=>by
    have:=g _ (List.mem_append_left _ (List.mem_map_of_mem ho));split at this
    .rw[sY,gt]at this
     simpa using this
    .exact this
   exact⟨gl,by rw[<-qh x l a gl];exact gt⟩
  .rintro⟨gl,ga⟩ o ho
   have gt:vb x (clr1 l a)=false:=by rw[qh x l a gl];exact ga
   rcases List.mem_append.mp ho with ho|ho
   .obtain⟨o',h',rfl⟩:=List.mem_map.mp ho
    split
    .rw[sY,gl o' h',gt];rfl
    .exact gl o' h'
   .rcases List.mem_singleton.mp ho with rfl
    exact gt
theorem sI{l:List Nat}(h:Red l)(a:Nat):Red (eM l a):=by
 unfold eM;split
 .exact h
 .rename_i ht
  generalize hT:clr1 l a=t at ht ⊢;have no:∀o∈l,hasB t (tp o)=false:=hT ▸ wv l a h.nz h.pw;have hh:=dZ ht;have tpS:∀o∈l,tp (if hasB o (tp t)then o ^^^ t else o)=tp o:=λo ho=>by
   split
   .rename_i hs
    refine GU (by rw[cE,dZ (h.nz o ho),no o ho];rfl) λj hj=>?_
    have lt:tp t<tp o:=by
     rcases Nat.lt_trichotomy (tp t) (tp o)with z|z|z
     .exact z
     .have:=no o ho;rw[<-z,hh]at this;cases this
     .rw[nW z]at hs;cases hs
    rw[cE,nW hj,nW (Nat.lt_trans lt hj)];rfl
   .rfl
  have bitS:∀o∈l,∀k,hasB t k=false->hasB (if hasB o (tp t)then o ^^^ t else o) k=hasB o k:=λo ho k hk=>by
   split
   .rw[cE,hk];simp
   .rfl
  have topS:∀o∈l,hasB (if hasB o (tp t)then o ^^^ t else o) (tp t)=false:=λo ho=>by
   split
   .rename_i hs;rw[cE,hs,hh];rfl
   .rename_i hs;exact Bool.eq_false_iff.mpr hs
  refine⟨λb hb=>?_,List.pairwise_append.mpr ⟨List.pairwise_map.mpr (h.pw.imp_of_mem λ{a b} ha hb q=>⟨?_,?_⟩),List.pairwise_singleton _ _,λb hb c hc=>?_⟩⟩
  .rcases List.mem_append.mp hb with hb|hb
   .obtain⟨o,ho,rfl⟩:=List.mem_map.mp hb
    intro z;have:=bitS o ho (tp o) (no o ho);rw[z,dZ (h.nz o ho),ez,Nat.zero_testBit]at this;cases this
   .rcases List.mem_singleton.mp hb with rfl
    exact ht
  .rw[tpS b hb,bitS a ha _ (no b hb)];exact q.1
  .rw[tpS a ha,bitS b hb _ (no a ha)];exact q.2
  .obtain⟨o,ho,rfl⟩:=List.mem_map.mp hb
   rcases List.mem_singleton.mp hc with rfl
   exact⟨topS o ho,by rw[tpS o ho];exact no o ho⟩
theorem uB(x:Nat):∀(ts l:List Nat),Red l->Red (ts.foldl eM l)/\((∀o∈ts.foldl eM l,vb x o=false)↔(∀o∈l,vb x o=false)/\∀a∈ts,vb x a=false)
 |[],l,h=>⟨h,by simp⟩
 |a::ts,l,h=>by
  have g:=uB x ts (eM l a) (sI h a);refine⟨g.1,g.2.trans ?_⟩;rw[Gc];constructor
  .rintro⟨⟨g1,g2⟩,g3⟩
   exact⟨g1,λb hb=>by rcases List.mem_cons.mp hb with rfl|hb;exact g2;exact g3 b hb⟩
  .rintro⟨g1,g2⟩
   exact⟨⟨g1,g2 a (.head _)⟩,λb hb=>g2 b (.tail _ hb)⟩
theorem wu(ts:List Nat):Red (xY ts):=(uB 0 ts [] ⟨(λ_ h=>nomatch h),.nil⟩).1
theorem A8(x:Nat)(ts:List Nat):(∀o∈xY ts,vb x o=false)↔∀a∈ts,vb x a=false:=by
 have:=(uB x ts [] ⟨(λ_ h=>nomatch h),.nil⟩).2;refine this.trans ⟨λh=>h.2,λh=>⟨(λ_ z=>nomatch z),h⟩⟩
abbrev fI:D:=DX "<lambda> id"
abbrev fX:D:=DX "<lambda> xor"
theorem wm{δ:Dv}{i:Nat}{fs:Dv->Option (List D)}{d:D}(h:Du δ[i]? = some fI)(hf:fs δ = some [d]):bt i fs (("<lambda> id",sk)::[]) δ = some d:=by
 unfold bt oV;rw[h];simp only[Option.bind_some,oU,hf,List.lookup_cons,beq_self_eq_true];rfl
theorem A6{δ:Dv}{i:Nat}{fs:Dv->Option (List D)}{a b:Nat}(h:Du δ[i]? = some fX)(hf:fs δ = some [.int (a:Int),.int (b:Int)]):bt i fs (("<lambda> xor",pX)::[]) δ = some (.int ((a ^^^ b:Nat):Int)):=by
 unfold bt oV;rw[h];simp only[Option.bind_some,oU,hf,List.lookup_cons,beq_self_eq_true];show sV (.int (a:Int)) (.int (b:Int))=_;have:=MA.De a b;show some (PyData.int (Builtin.bitXor (a:Int) (b:Int)))=_;rw[this]
theorem mq{o:Nat}(h:o≠0):bj [.int (o:Int)]=some (.int ((tp o:Nat):Int)):=by
 have e:((Builtin.Int.intBits (o:Int):Nat):Int)-1=(tp o:Int):=by
  unfold Builtin.Int.intBits tp;rw[if_neg (by simpa using h),natAbs_natCast]
  lia
 simp[bj,bC,i6,aJ,e]
theorem LI(X T:Sl)(t o:Nat)(y:Sl)(ho:o≠0):cJ [X,.fz fI,.fz fX,T,.fz (.int (t:Int)),.fz (.int (o:Int)),y]=some (.nx,[X,.fz fI,.fz fX,T,.fz (.int ((if hasB t (tp o)then t ^^^ o else t:Nat):Int)),.fz (.int (o:Int)),y]):=by
 have hb:(ob (VL.os (af (bt 1 (af (oV 4) (ap)) (("<lambda> id",sk)::[])) (af (VL.os (af (bt 1 (af (oV 5) (ap)) (("<lambda> id",sk)::[])) (ap)) bj) (ap))) dh)) [X,.fz fI,.fz fX,T,.fz (.int (t:Int)),.fz (.int (o:Int)),y]=some (hasB t (tp o)):=by
  have e1:bt 1 (af (oV 4) (ap)) (("<lambda> id",sk)::[]) [X,.fz fI,.fz fX,T,.fz (.int (t:Int)),.fz (.int (o:Int)),y]=some (.int (t:Int)):=wm rfl rfl;have e2:bt 1 (af (oV 5) (ap)) (("<lambda> id",sk)::[]) [X,.fz fI,.fz fX,T,.fz (.int (t:Int)),.fz (.int (o:Int)),y]=some (.int (o:Int)):=wm rfl rfl;simp only[ob,VL.os,af,ap,e1,e2,Option.bind_some,mq ho,iU];rfl
 cases h:hasB t (tp o)with
 |true=>
  rw[h]at hb;unfold cJ;rw[oi hb];have e3:bt 2 (af (oV 4) (af (oV 5) (ap))) (("<lambda> xor",pX)::[]) [X,.fz fI,.fz fX,T,.fz (.int (t:Int)),.fz (.int (o:Int)),y]=some (.int ((t ^^^ o:Nat):Int)):=A6 rfl rfl;unfold aK;rw[e3];rfl
 |false=>
  rw[h]at hb;unfold cJ;rw[jk hb];rfl
theorem sL(X T:Sl)(y:Sl):∀(l:List Nat) (t:Nat) (z:Sl),(∀o∈l,o≠0)->∃z',loop (gN 5) cJ (ag l) [X,.fz fI,.fz fX,T,.fz (.int (t:Int)),z,y]=some (.nx,[X,.fz fI,.fz fX,T,.fz (.int ((clr1 l t:Nat):Int)),z',y])
 |[],t,z,_=>⟨z,rfl⟩
 |o::l,t,z,h=>by
  obtain⟨z',e⟩:=sL X T y l (if hasB t (tp o)then t ^^^ o else t) (.fz (.int (o:Int))) λa ha=>h a (.tail _ ha)
  refine⟨z',?_⟩;have s:=LI X T t o y (h o (.head _));show((gN 5 (.int (o:Int)) [X,.fz fI,.fz fX,T,.fz (.int (t:Int)),z,y]).bind λδ1=>(cJ δ1).bind _)=_
  simp only[gN,Option.bind_some,set_cons_succ,set_cons_zero];rw[s];exact e
theorem LG(X z5:Sl)(told:List Nat)(t top:Nat)(hl:told.length<=1000):iQ [X,.fz fI,.fz fX,.fz (.list (ag told)),.fz (.int (t:Int)),z5,.fz (.int (top:Int))]=some (.list (ag (told.map λo=>if hasB o top then o ^^^ t else o))):=by
 have e:ag (told.map λo=>if hasB o top then o ^^^ t else o)=told.map λo=>PyData.int ((if hasB o top then o ^^^ t else o:Nat):Int):=by unfold ag;rw[map_map];rfl
 rw[e];unfold iQ;refine mM (h:=λo:Nat=>PyData.int (o:Int)) (xs:=told) rfl (by lia) λo _=>?_
 show Jh _ _ _ [.fz (.int (o:Int)),.fz fI,.fz fX,.fz (.int (t:Int)),.fz (.int (top:Int))]=_;have e1:bt 1 (af (oV 0) (ap)) (("<lambda> id",sk)::[]) [.fz (.int (o:Int)),.fz fI,.fz fX,.fz (.int (t:Int)),.fz (.int (top:Int))]=some (.int (o:Int)):=wm rfl rfl;have e3:bt 2 (af (oV 0) (af (oV 3) (ap))) (("<lambda> xor",pX)::[]) [.fz (.int (o:Int)),.fz fI,.fz fX,.fz (.int (t:Int)),.fz (.int (top:Int))]=some (.int ((o ^^^ t:Nat):Int)):=A6 rfl rfl;have e2:oV 4 [.fz (.int (o:Int)),.fz fI,.fz fX,.fz (.int (t:Int)),.fz (.int (top:Int))]=some (.int (top:Int)):=rfl;have e0:oV 0 [.fz (.int (o:Int)),.fz fI,.fz fX,.fz (.int (t:Int)),.fz (.int (top:Int))]=some (.int (o:Int)):=rfl;have hb:ob (VL.os (af (bt 1 (af (oV 0) (ap)) (("<lambda> id",sk)::[])) (af (oV 4) (ap))) dh) [.fz (.int (o:Int)),.fz fI,.fz fX,.fz (.int (t:Int)),.fz (.int (top:Int))]=some (hasB o top):=by
  simp only[ob,VL.os,af,ap,e1,e2,Option.bind_some,iU];rfl
 unfold Jh;rw[hb];cases h:hasB o top with
 |true=>exact e3
 |false=>exact e0
def TS(S:Sl)(told:List Nat):Prop:=S=.ow (ag told)\/S=.fz (.list (ag told))
theorem LH(X S:Sl)(told:List Nat)(a:Nat)(z5 z6:Sl)(hS:TS S told)(nz:∀o∈told,o≠0)(hl:told.length<=1000):∃S' y5 y6,TS S' (eM told a)/\er [X,.fz fI,.fz fX,S,.fz (.int (a:Int)),z5,z6]=some (.nx,[X,.fz fI,.fz fX,S',.fz (.int ((clr1 told a:Nat):Int)),y5,y6]):=by
 have hd:nE 3 [X,.fz fI,.fz fX,S,.fz (.int (a:Int)),z5,z6]=[X,.fz fI,.fz fX,.fz (.list (ag told)),.fz (.int (a:Int)),z5,z6]:=by rcases hS with rfl|rfl<;>rfl
 obtain⟨z',e⟩:=sL X (.fz (.list (ag told))) z6 told a z5 nz;have e1:(λδ=>(dF (oI (oV 3) aV) (gN 5) (cJ)) (nE 3 δ)) [X,.fz fI,.fz fX,S,.fz (.int (a:Int)),z5,z6]=some (.nx,[X,.fz fI,.fz fX,.fz (.list (ag told)),.fz (.int ((clr1 told a:Nat):Int)),z',z6]):=by
  show dF _ _ _ (nE 3 _)=_;rw[hd];unfold dF;rw[show(oI (oV 3) aV) [X,.fz fI,.fz fX,.fz (.list (ag told)),.fz (.int (a:Int)),z5,z6]=some (ag told)from rfl];exact e
 have c1:bt 1 (af (oV 4) (ap)) (("<lambda> id",sk)::[]) [X,.fz fI,.fz fX,.fz (.list (ag told)),.fz (.int ((clr1 told a:Nat):Int)),z',z6]=some (.int ((clr1 told a:Nat):Int)):=wm rfl rfl;unfold er;by_cases ht:clr1 told a=0
 .refine⟨.fz (.list (ag told)),z',z6,.inr (by unfold eM;rw[if_pos ht]),(bN e1).trans ((jk ?_).trans rfl)⟩
  simp only[ob,o2,c1,ht,oC,Option.bind_some];rfl
 .refine⟨.ow (ag (eM told a)),z',.fz (.int ((tp (clr1 told a):Nat):Int)),?_,(bN e1).trans ((oi ?_).trans ((bN (δ':=[X,.fz fI,.fz fX,.fz (.list (ag told)),.fz (.int ((clr1 told a:Nat):Int)),z',.fz (.int ((tp (clr1 told a):Nat):Int))]) ?_).trans ((bN (δ':=[X,.fz fI,.fz fX,.ow (ag (told.map λo=>if hasB o (tp (clr1 told a))then o ^^^ clr1 told a else o)),.fz (.int ((clr1 told a:Nat):Int)),z',.fz (.int ((tp (clr1 told a):Nat):Int))]) ?_).trans ?_)))⟩
  .exact .inl rfl
  .simp only[ob,o2,c1,oC,Option.bind_some]
   have:(((clr1 told a:Nat):Int)==0)=false:=by simpa using ht
   simp[ht]
  .unfold aK VL.os
   simp only[af,ap,c1,Option.bind_some,mq ht];rfl
  .unfold u4 Jg
   rw[LG X z' told (clr1 told a) (tp (clr1 told a)) hl];rfl
  .unfold eM
   rw[if_neg ht,oA];have hl':(ag (told.map λo=>if hasB o (tp (clr1 told a))then o ^^^ clr1 told a else o)).length<sizeLine:=by rw[bG,length_map];unfold sizeLine;lia
   simp[tQ,hl'];rfl
theorem sJ(l:List Nat)(a:Nat):(eM l a).length<=l.length+1:=by
 unfold eM;split
 .lia
 .simp
theorem sK(X:Sl):∀(ts told:List Nat) (S z4 z5 z6:Sl),TS S told->Red told->told.length+ts.length<=1000->∃S' y4 y5 y6,TS S' (ts.foldl eM told)/\loop (gN 4) er (ag ts) [X,.fz fI,.fz fX,S,z4,z5,z6]=some (.nx,[X,.fz fI,.fz fX,S',y4,y5,y6])
 |[],told,S,z4,z5,z6,hS,_,_=>⟨S,z4,z5,z6,hS,rfl⟩
 |a::ts,told,S,z4,z5,z6,hS,hr,hl=>by
  rw[length_cons]at hl;obtain⟨S1,y5,y6,h1,e1⟩:=LH X S told a z5 z6 hS hr.nz (by lia);obtain⟨S2,w4,w5,w6,h2,e2⟩:=sK X ts (eM told a) S1 (.fz (.int ((clr1 told a:Nat):Int))) y5 y6 h1 (sI hr a) (by have:=sJ told a;lia);refine⟨S2,w4,w5,w6,h2,?_⟩;show((gN 4 (.int (a:Int)) [X,.fz fI,.fz fX,S,z4,z5,z6]).bind λδ1=>(er δ1).bind _)=_
  simp only[gN,Option.bind_some,set_cons_succ,set_cons_zero];rw[e1];exact e2
theorem uD(ts:List Nat)(hl:ts.length<=1000):ci [.tuple (ag ts),fI,fX]=some (.list (ag (xY ts))):=by
 obtain⟨S,y4,y5,y6,hS,e⟩:=sK (.fz (.tuple (ag ts))) ts [] (.ow []) .un .un .un (.inl rfl) ⟨(λ_ h=>nomatch h),.nil⟩ (by simpa using hl);have hd:nE 3 [.fz (.tuple (ag ts)),.fz fI,.fz fX,S,y4,y5,y6]=[.fz (.tuple (ag ts)),.fz fI,.fz fX,.fz (.list (ag (xY ts))),y4,y5,y6]:=by rcases hS with rfl|rfl<;>rfl
 refine kK rfl (δ':=[.fz (.tuple (ag ts)),.fz fI,.fz fX,.fz (.list (ag (xY ts))),y4,y5,y6]) ?_;unfold kj;refine(bN (δ':=[.fz (.tuple (ag ts)),.fz fI,.fz fX,.ow [],.un,.un,.un]) rfl).trans ((bN (δ':=[.fz (.tuple (ag ts)),.fz fI,.fz fX,S,y4,y5,y6]) ?_).trans ?_)
 .unfold dF
  rw[show(oI (oV 0) aV) [.fz (.tuple (ag ts)),.fz fI,.fz fX,.ow [],.un,.un,.un]=some (ag ts)from rfl];exact e
 .show(bi (oV 3)) (nE 3 _)=_
  rw[hd];rfl
theorem Ax(a:Nat){k:Nat}(hk:1<=k):hasB (hb a) k=hasB a k:=by
 obtain⟨j,rfl⟩:∃j,k=j+1:=⟨k-1,by lia⟩;unfold hasB hb;have e:(a-a%2)/2^(j+1)=a/2^(j+1):=by
  rw[pow_succ,mul_comm,<-div_div_eq_div_mul,<-div_div_eq_div_mul,show(a-a%2)/2=a/2 by lia]
 rw[e]
theorem u6{x:Nat}(bit ch:Nat)(h:vb x ch=false):∀ps:As,cS x (ps.map (xb bit ch))=cS x (upI ps)
 |[]=>rfl
 |p::ps=>by
  show(xb bit ch p).2*((par ((xb bit ch p).1 &&& x):Nat):Int)+cS x (ps.map (xb bit ch))=(p.2:Int)*((par (p.1 &&& x):Nat):Int)+cS x (upI ps);rw[u6 bit ch h ps];unfold xb;dsimp only;split
  .have h0:par (ch &&& x)=0:=by
    have:=MA.gO (ch &&& x);unfold vb at h;have:¬par (ch &&& x)=1:=by simpa using h
    lia
   have:=MA.gO (p.1 &&& x);rw[J0,h0,Nat.add_zero,Nat.mod_eq_of_lt this]
  .rfl
structure Stp (w l:Nat) (hv:Int) (ts:List Nat) (n m:Nat) (c:Nat) (ps:As) (T:Nat) (R:As) (tie:Nat):Prop where
 sm:Sm w l hv T R ts [] n m
 val:∀x,x%2=1->vb x tie=false->((T:Int)+cS x (upI R))%8=((c:Int)+cS x (upI ps))%8
 out:1<=tp tie->∀p∈R,hasB p.1 (tp tie)=false
 kp:∀k,1<=k->(∀p∈ps,hasB p.1 k=false)->hasB tie k=false->∀p∈R,hasB p.1 k=false
 len:R.length<=ps.length
theorem BT{w l:Nat}{hv:Int}{c:Nat}{ps:As}{ts:List Nat}{n m:Nat}(S:Sm w l hv c ps ts [] n m)(hm:m<32)(hn:n<=100)(tie:Nat)(h0:tie≠0)(ht:tie<iM)(y1:Sl):
  ∃T R,Stp w l hv ts n m c ps T R tie/\b7 [.fz (oneD w l hv c (upI ps) ts []),y1,.fz (.int (tie:Int))]=some (.nx,[.fz (oneD w l hv T (upI R) ts []),y1,.fz (.int (tie:Int))]):=by
 obtain⟨T,R,hT,rr,hl,e⟩:=tK S hm hn (tp tie) tie;have src:∀p∈R,∃p0∈ps,p.1=hb (xb (tp tie) tie p0).1:=λp hp=>by
  have h1:=rr.nz p hp;have h2:=rr.val p.1 h1.1;rw[gG (jp rr.pk) hp]at h2;have h2:(p.2:Int)=kv p.1 (ps.map (xb (tp tie) tie))%8:=h2;obtain⟨q,hq,e⟩:=ue (k:=p.1) (Q:=ps.map (xb (tp tie) tie)) (by lia);obtain⟨p0,hp0,rfl⟩:=List.mem_map.mp hq;exact⟨p0,hp0,e.symm⟩
 have pe:=Hh rr (GQ (λp hp=>(S.pe p hp).2.2.1) ht)
 refine⟨T,R,⟨⟨S.w1,S.w3,S.l2,S.v1,S.v2,by lia,rr.pk,pe,le_trans hl S.pl,S.tk,S.te,S.tl,S.hl,S.pw,S.hb⟩,λx hx hv'=>?_,λh1 p hp=>?_,λk hk hps htk p hp=>?_,hl⟩,?_⟩
 .rw[zp rr (c:=c) (by lia) x hx,u6 _ _ hv']
 .obtain⟨p0,_,e0⟩:=src p hp
  rw[e0,Ax _ h1];unfold xb;dsimp only;split
  .rename_i hs
   rw[cE,hs,dZ h0];rfl
  .rename_i hs
   exact Bool.eq_false_iff.mpr hs
 .obtain⟨p0,hp0,e0⟩:=src p hp
  rw[e0,Ax _ hk];unfold xb;dsimp only;split
  .rw[cE,hps p0 hp0,htk];rfl
  .exact hps p0 hp0
 .have e':cg [oneD w l hv c (upI ps) ts [],.int ((tp tie:Nat):Int),.int (tie:Int)]=some (oneD w l hv T (upI R) ts []):=e
  have g:=mq h0;generalize oneD w l hv c (upI ps) ts []=O at e' ⊢;generalize oneD w l hv T (upI R) ts []=O' at e' ⊢;simp[b7,g,e']
theorem uW{w l:Nat}{hv:Int}{ts:List Nat}{n m:Nat}(hm:m<32)(hn:n<=100)(y1:Sl):∀(rs:List Nat) (c:Nat) (ps:As) (y2:Sl),Sm w l hv c ps ts [] n m->(∀t∈rs,t≠0/\t<iM/\1<=tp t)->(rs.Pairwise λa b=>hasB a (tp b)=false/\hasB b (tp a)=false)->
  ∃T R y2',Sm w l hv T R ts [] n m/\(∀x,x%2=1->(∀t∈rs,vb x t=false)->((T:Int)+cS x (upI R))%8=((c:Int)+cS x (upI ps))%8)/\(∀t∈rs,∀p∈R,hasB p.1 (tp t)=false)/\
   (∀k,1<=k->(∀p∈ps,hasB p.1 k=false)->(∀t∈rs,hasB t k=false)->∀p∈R,hasB p.1 k=false)/\R.length<=ps.length/\
   loop (gN 2) b7 (ag rs) [.fz (oneD w l hv c (upI ps) ts []),y1,y2]=some (.nx,[.fz (oneD w l hv T (upI R) ts []),y1,y2'])
 |[],c,ps,y2,S,_,_=>⟨c,ps,y2,S,(λ_ _ _=>rfl),(λ_ h=>nomatch h),(λ_ _ h _=>h),Nat.le_refl _,rfl⟩
 |t::rs,c,ps,y2,S,hr,pw=>by
  obtain⟨h0,hB,h1⟩:=hr t (.head _);have pw':=List.pairwise_cons.mp pw;obtain⟨T,R,P,e⟩:=BT S hm hn t h0 hB y1;obtain⟨T2,R2,y2',S2,v2,o2',k2,l2,e2⟩:=uW hm hn y1 rs T R (.fz (.int (t:Int))) P.sm (λa ha=>hr a (.tail _ ha)) pw'.2
  refine⟨T2,R2,y2',S2,λx hx hv'=>?_,λa ha=>?_,λk hk hp ht=>?_,le_trans l2 P.len,?_⟩
  .rw[v2 x hx λa ha=>hv' a (.tail _ ha),P.val x hx (hv' t (.head _))]
  .rcases List.mem_cons.mp ha with rfl|ha
   .exact k2 _ h1 (P.out h1) λb hb=>(pw'.1 b hb).2
   .exact o2' a ha
  .exact k2 k hk (P.kp k hk hp (ht t (.head _))) λa ha=>ht a (.tail _ ha)
  .show((gN 2 (.int (t:Int)) [.fz (oneD w l hv c (upI ps) ts []),y1,y2]).bind λδ1=>(b7 δ1).bind _)=_
   simp only[gN,Option.bind_some,set_cons_succ,set_cons_zero];rw[e];exact e2
theorem Ba{k:Nat}:∀(l:List Nat) (t:Nat),(∀o∈l,hasB o k=false)->hasB t k=false->hasB (clr1 l t) k=false:=λl t h ht=>by rw[uC l t h,ht]
theorem A9{k:Nat}{l:List Nat}{a:Nat}(h:∀o∈l,hasB o k=false)(ha:hasB a k=false):∀o∈eM l a,hasB o k=false:=λo ho=>by
 have hc:=Ba l a h ha;unfold eM at ho;split at ho
 .exact h o ho
 .rcases List.mem_append.mp ho with ho|ho
  .obtain⟨b,hb,rfl⟩:=List.mem_map.mp ho
   split
   .rw[cE,h b hb,hc];rfl
   .exact h b hb
  .rcases List.mem_singleton.mp ho with rfl
   exact hc
theorem qg{k:Nat}:∀(ts l:List Nat),(∀o∈l,hasB o k=false)->(∀t∈ts,hasB t k=false)->∀o∈ts.foldl eM l,hasB o k=false
 |[],_,h,_=>h
 |a::ts,l,h,ht=>qg ts (eM l a) (A9 h (ht a (.head _))) λt h'=>ht t (.tail _ h')
theorem qf:∀(ts l:List Nat),(ts.foldl eM l).length<=l.length+ts.length
 |[],l=>by simp
 |a::ts,l=>by
  have:=qf ts (eM l a);have:=sJ l a;rw[List.foldl_cons,length_cons]
  lia
theorem EK{l:List Nat}(h:Red l):l.Nodup:=by
 rw[List.nodup_iff_pairwise_ne];refine h.pw.imp_of_mem λ{a b} ha hb q z=>?_
 subst z;rw[dZ (h.nz a ha)]at q;cases q.1
theorem lU{n N:Nat}(h:∀k,N<=k->hasB n k=false):n<2^N:=by
 refine Nat.lt_of_not_le λz=>?_
 have hn:n≠0:=by have:=Nat.two_pow_pos N;lia
 have:N<=tp n:=by unfold tp;exact(Nat.le_log2 hn).mpr z
 have:=h _ this;rw[dZ hn]at this;cases this
theorem mT{n N k:Nat}(h:n<2^N)(hk:N<=k):hasB n k=false:=by
 cases e:hasB n k with
 |false=>rfl
 |true=>have:=ul h e;lia
theorem n6{l:List Nat}(h:l.Nodup)(h64:l.length<64):∃rs:List Nat,rs.Perm l/\rs.Pairwise (· < ·)/\iE (.list (ag l))=some (.list (ag rs)):=by
 obtain⟨rs,e,p,pw⟩:=kY l h;refine⟨rs,p,pw,?_⟩;have e1:kO (ag l)=some (l.map cI):=sf l;have e2:(rs.map cI).map PyData.int=ag rs:=zQ rs;have h0:aV (.list (ag l))=some (ag l):=rfl;simp only[iE,h0,Option.bind_some,e1,e,e2,length_map,if_pos h64]
theorem zB{n:Nat}:∀(T:As) (t:Nat),t<2^n->(∀p∈T,p.1<2^n)->T.foldl (λt p=>t ||| p.1) t<2^n
 |[],t,h,_=>h
 |p::T,t,h,hp=>zB T (t ||| p.1) (Nat.or_lt_two_pow h (hp p mem_cons_self)) λq hq=>hp q (mem_cons_of_mem _ hq)
structure Stl (w l:Nat) (hv:Int) (c:Nat) (ps:As) (ts:List Nat) (m N:Nat) (rs:List Nat) (T:Nat) (R:As):Prop where
 pm:rs.Perm (xY ts)
 up:rs.Pairwise (· < ·)
 sm:Sm w l hv T R ts [] 0 m
 val:∀x,x%2=1->(∀t∈rs,vb x t=false)->((T:Int)+cS x (upI R))%8=((c:Int)+cS x (upI ps))%8
 out:∀t∈rs,∀p∈R,hasB p.1 (tp t)=false
 lt:∀p∈R,p.1<2^N
theorem tL{w l:Nat}{hv:Int}{c:Nat}{ps:As}{ts:List Nat}{m N:Nat}(S:Sm w l hv c ps ts [] 0 m)(hm:m<32)(N1:1<=N)(N5:N<=5)(hp:∀p∈ps,p.1<2^N)(ht:∀t∈ts,t<2^N):
  (1∈xY ts/\aP [oneD w l hv c (upI ps) ts []]=some .none)\/
  (1∉xY ts/\∃rs T R,Stl w l hv c ps ts m N rs T R/\aP [oneD w l hv c (upI ps) ts []]=some (.tuple [.tuple [.int w,.int l],.int hv,.int T,.tuple (gD (fo R (i5 (orH R)))),.tuple (ag rs)])):=by
 have red:=wu ts;have tl:=S.tl;have lc:(xY ts).length<=ts.length:=by have:=qf ts [];simpa[xY]using this
 obtain⟨rs,pm,up,es⟩:=n6 (EK red) (by lia);have ec:=uD ts (by lia);have e5:(ob (o2 (o2 (oV 0) (oC (.int 5)) aI) (VL.os (ap) bM) neD)) [.fz (oneD w l hv c (upI ps) ts []),.un,.un]=some false:=rfl;have e1:aK 1 (o1 (VL.os (af (o2 (oV 0) (oC (.int 4)) aI) (af (oC fI) (af (oC fX) (ap)))) ci) iE) [.fz (oneD w l hv c (upI ps) ts []),.un,.un]=some (.nx,[.fz (oneD w l hv c (upI ps) ts []),.fz (.list (ag rs)),.un]):=by
  have:(o1 (VL.os (af (o2 (oV 0) (oC (.int 4)) aI) (af (oC fI) (af (oC fX) (ap)))) ci) iE) [.fz (oneD w l hv c (upI ps) ts []),.un,.un]=some (.list (ag rs)):=by
   show(ci [.tuple (ag ts),fI,fX]).bind iE=_;rw[ec];exact es
  unfold aK;rw[this];rfl
 have e2:(ob (o2 (oC (.int 1)) (oV 1) (sg false))) [.fz (oneD w l hv c (upI ps) ts []),.fz (.list (ag rs)),.un]=some (decide (1∈rs)):=by
  show(sg false (.int ((1:Nat):Int)) (.list (ag rs))).bind asB=_;rw[At];rfl
 by_cases h1:1∈rs
 .refine .inl ⟨pm.mem_iff.mp h1,kK rfl (δ':=[.fz (oneD w l hv c (upI ps) ts []),.fz (.list (ag rs)),.un]) ?_⟩
  unfold dA;refine(bN (δ':=[.fz (oneD w l hv c (upI ps) ts []),.un,.un]) (jk e5)).trans ((bN e1).trans (Ft ((oi ?_).trans rfl)));rw[e2,decide_eq_true h1]
 .refine .inr ⟨λz=>h1 (pm.mem_iff.mpr z),?_⟩
  have tb:∀t∈rs,∀k,N<=k->hasB t k=false:=λt h k hk=>qg ts [] (λ_ z=>nomatch z) (λa ha=>mT (ht a ha) hk) t (pm.mem_iff.mp h)
  have big:(2:Nat)^N<=iM:=pow_le_pow_right (by decide) (by lia);have hr:∀t∈rs,t≠0/\t<iM/\1<=tp t:=λt h=>by
   have n0:=red.nz t (pm.mem_iff.mp h);refine⟨n0,lt_of_lt_of_le (lU (tb t h)) big,?_⟩;refine Nat.pos_of_ne_zero λz=>?_
   have:t=1:=by
    have h2:t<2^1:=lU λk hk=>nW (by lia)
    lia
   exact h1 (this ▸ h)
  have pw:rs.Pairwise λa b=>hasB a (tp b)=false/\hasB b (tp a)=false:=(pm.pairwise_iff λ{a b} q=>⟨q.2,q.1⟩).mpr red.pw
  obtain⟨T,R,y2,S2,v2,o2',k2,l2,e3⟩:=uW hm (by decide) (.fz (.list (ag rs))) rs c ps .un S hr pw;have rl:∀p∈R,p.1<2^N:=λp hp'=>lU λk hk=>k2 k (by lia) (λp hp'=>mT (hp p hp') hk) (λt h=>tb t h k hk) p hp'
  have ol:orH R<2^N:=zB R 0 (Nat.two_pow_pos N) rl;have bl:(i5 (orH R)).length<=5:=by
   have h1:(i5 (orH R)).length<=Builtin.Int.intBits (orH R:Int):=by
    unfold i5;exact le_trans (length_filter_le _ _) (by rw[length_range];exact Nat.le_refl _)
   have h2:Builtin.Int.intBits (orH R:Int)<=N:=by
    unfold Builtin.Int.intBits;split
    .lia
    .rename_i z
     rw[natAbs_natCast];have n0:orH R≠0:=by simpa using z
     exact(Nat.log2_lt n0).mpr ol
   lia
  have fe:=CY R (by have:=S2.pl;lia) bl (lt_of_lt_of_le ol (pow_le_pow_right (by decide) (by lia)));refine⟨rs,T,R,⟨pm,up,S2,v2,o2',rl⟩,kK rfl (δ':=[.fz (oneD w l hv T (upI R) ts []),.fz (.list (ag rs)),y2]) ?_⟩;unfold dA;refine(bN (δ':=[.fz (oneD w l hv c (upI ps) ts []),.un,.un]) (jk e5)).trans ((bN e1).trans ((bN (δ':=[.fz (oneD w l hv c (upI ps) ts []),.fz (.list (ag rs)),.un]) ((jk ?_).trans rfl)).trans ((bN (δ':=[.fz (oneD w l hv T (upI R) ts []),.fz (.list (ag rs)),y2]) ?_).trans ?_)))
  .rw[e2,decide_eq_false h1]
  .unfold dF
   rw[show(oI (oV 1) aV) [.fz (oneD w l hv c (upI ps) ts []),.fz (.list (ag rs)),.un]=some (ag rs)from rfl];exact e3
  .have o3:aI (oneD w l hv T (upI R) ts []) (.int 3)=some (.tuple (R.map pD)):=by rw[vn,qF]
   have tq:di [.list (ag rs)]=some (.tuple (ag rs)):=rfl;simp[bi,zH,zG,zF,o3,fe,tq,bM,sizeLine]
theorem qC:∀(k n v:Nat) (x y:Sl),n<2^k->e8 cx dy (k+1) [x,y,.fz (.int (n:Int)),.fz (.int (v:Int))]=some (.nx,[x,y,.fz (.int 0),.fz (.int ((v+MA.qe n:Nat):Int))])
 |k,n,v,x,y,hk=>by
  by_cases hn:n=0
  .subst hn
   rw[MA.eE,Nat.add_zero];exact sX k (by simp[cx])
  .obtain⟨j,rfl⟩:∃j,k=j+1:=⟨k-1,by cases k with|zero=>lia|succ j=>lia⟩
   have ih:=qC j (n/2) (v+n%2) x y (by lia);have m:=jq n;have d:iz (.int (n:Int)) (.int 2)=some (.int ((n/2:Nat):Int)):=by simp[iz]
   refine yl (j+1) (by simp[cx];lia) (δ2:=[x,y,.fz (.int ((n/2:Nat):Int)),.fz (.int ((v+n%2:Nat):Int))]) (by simp only[dy,ay,aK,o2,oV,oC];simp) ?_;rw[ih,MA.eF n];have:v+n%2+MA.qe (n/2)=v+(n%2+MA.qe (n/2)):=by lia
   rw[this]
theorem qB(a b:Nat)(h:a<2^1000):aX [.int (a:Int),.int (b:Int)]=some (.int ((par (a &&& b):Nat):Int)):=by
 have l:=iK (qC 1000 (a &&& b) 0 (.fz (.int a)) (.fz (.int b)) (Nat.lt_of_le_of_lt Nat.and_le_left h)) (show 1000+1<=wN by simp[wN]);have hb:=MA.Gg a b;rw[Nat.zero_add]at l;have l':e8 cx dy wN [.fz (.int (a:Int)),.fz (.int (b:Int)),.fz (.int ((a &&& b:Nat):Int)),.fz (.int 0)]=_:=l;simp[aX,bC,gq,aJ,hb,l',MA.par]
theorem lV(O:D)(b:Nat)(y3 y4 y5:Sl):∀(ts:List Nat) (y2:Sl),(∀t∈ts,t<2^1000)->∃y2',loop (gN 2) bz (ag ts) [.fz O,.fz (.int (b:Int)),y2,y3,y4,y5]=some ((if ts.all λt=>!vb b t then .nx else .rt .none),[.fz O,.fz (.int (b:Int)),y2',y3,y4,y5])
 |[],y2,_=>⟨y2,rfl⟩
 |t::ts,y2,h=>by
  have v:=qB t b (h t (.head _));have e:(ob (o2 (VL.os (af (oV 2) (af (oV 1) (ap))) aX) (oC (.int 1)) iy)) [.fz O,.fz (.int (b:Int)),.fz (.int (t:Int)),y3,y4,y5]=some (vb b t):=by
   have hp:=MA.gO (t &&& b);unfold vb;rcases (by lia:par (t &&& b)=0\/par (t &&& b)=1)with q|q<;>rw[q]at v ⊢<;>simp[v]
  cases hv:vb b t with
  |true=>
   refine⟨.fz (.int (t:Int)),?_⟩;rw[hv]at e;show((gN 2 (.int (t:Int)) _).bind λδ1=>(bz δ1).bind _)=_
   simp only[gN,Option.bind_some,set_cons_succ,set_cons_zero];rw[show bz [.fz O,.fz (.int (b:Int)),.fz (.int (t:Int)),y3,y4,y5]=some (.rt .none,[.fz O,.fz (.int (b:Int)),.fz (.int (t:Int)),y3,y4,y5])from(oi e).trans rfl];simp[hv]
  |false=>
   obtain⟨y2',ih⟩:=lV O b y3 y4 y5 ts (.fz (.int (t:Int))) λa ha=>h a (.tail _ ha)
   refine⟨y2',?_⟩;rw[hv]at e;show((gN 2 (.int (t:Int)) _).bind λδ1=>(bz δ1).bind _)=_
   simp only[gN,Option.bind_some,set_cons_succ,set_cons_zero];rw[show bz [.fz O,.fz (.int (b:Int)),.fz (.int (t:Int)),y3,y4,y5]=some (.nx,[.fz O,.fz (.int (b:Int)),.fz (.int (t:Int)),y3,y4,y5])from(jk e).trans rfl];have:((t::ts).all λt=>!vb b t)=ts.all λt=>!vb b t:=by simp[hv]
   rw[this];exact ih
theorem rO(O:D)(b:Nat)(y2:Sl):∀(ps:As) (r:Int) (y4 y5:Sl),(∀p∈ps,p.1<2^1000/\p.2<8)->∃y4' y5',loop (Bu [gN 4,gN 5]) da (ps.map pD) [.fz O,.fz (.int (b:Int)),y2,.fz (.int r),y4,y5]=some (.nx,[.fz O,.fz (.int (b:Int)),y2,.fz (.int (r+cS b (upI ps))),y4',y5'])
 |[],r,y4,y5,_=>⟨y4,y5,by rw[show r+cS b (upI [])=r from Int.add_zero r];rfl⟩
 |p::ps,r,y4,y5,h=>by
  obtain⟨h1,h2⟩:=h p (.head _);have v:=qB p.1 b h1;have m:gC (.int (p.2:Int)) (.int ((par (p.1 &&& b):Nat):Int))=some (.int ((p.2:Int)*((par (p.1 &&& b):Nat):Int))):=Cy _ (Nat.lt_trans h2 (by decide));obtain⟨y4',y5',ih⟩:=rO O b y2 ps (r+(p.2:Int)*((par (p.1 &&& b):Nat):Int)) (.fz (.int (p.1:Int))) (.fz (.int (p.2:Int))) λq hq=>h q (.tail _ hq)
  refine⟨y4',y5',?_⟩;have s:da [.fz O,.fz (.int (b:Int)),y2,.fz (.int r),.fz (.int (p.1:Int)),.fz (.int (p.2:Int))]=some (.nx,[.fz O,.fz (.int (b:Int)),y2,.fz (.int (r+(p.2:Int)*((par (p.1 &&& b):Nat):Int))),.fz (.int (p.1:Int)),.fz (.int (p.2:Int))]):=by
   simp[da,v,m]
  show((Bu [gN 4,gN 5] (pD p) _).bind λδ1=>(da δ1).bind _)=_
  rw[show Bu [gN 4,gN 5] (pD p) [.fz O,.fz (.int (b:Int)),y2,.fz (.int r),y4,y5]=some [.fz O,.fz (.int (b:Int)),y2,.fz (.int r),.fz (.int (p.1:Int)),.fz (.int (p.2:Int))]from rfl];simp only[Option.bind_some];rw[s];have e:r+cS b (upI (p::ps))=r+(p.2:Int)*((par (p.1 &&& b):Nat):Int)+cS b (upI ps):=(Int.add_assoc _ _ _).symm;rw[e];exact ih
theorem zU{w l:Nat}{hv:Int}{c:Nat}{ps:As}{ts:List Nat}(b:Nat)(hp:∀p∈ps,p.1<2^1000/\p.2<8)(ht:∀t∈ts,t<2^1000):
  b9 [oneD w l hv c (upI ps) ts [],.int (b:Int)]=some (if ts.all λt=>!vb b t then .int (((c:Int)+cS b (upI ps))%8)else .none):=by
 obtain⟨y2,e1⟩:=lV (oneD w l hv c (upI ps) ts []) b .un .un .un ts .un ht;obtain⟨y4,y5,e2⟩:=rO (oneD w l hv c (upI ps) ts []) b y2 ps c .un .un hp;have f1:dF (oI (o2 (oV 0) (oC (.int 4)) aI) aV) (gN 2) bz [.fz (oneD w l hv c (upI ps) ts []),.fz (.int (b:Int)),.un,.un,.un,.un]=loop (gN 2) bz (ag ts) [.fz (oneD w l hv c (upI ps) ts []),.fz (.int (b:Int)),.un,.un,.un,.un]:=rfl;cases ha:ts.all λt=>!vb b t with
 |false=>
  rw[ha]at e1;refine kK rfl (δ':=[.fz (oneD w l hv c (upI ps) ts []),.fz (.int (b:Int)),y2,.un,.un,.un]) ?_;unfold eV;exact Ft (f1.trans e1)
 |true=>
  rw[ha]at e1;refine kK rfl (δ':=[.fz (oneD w l hv c (upI ps) ts []),.fz (.int (b:Int)),y2,.fz (.int (c+cS b (upI ps))),y4,y5]) ?_;unfold eV;refine(bN (f1.trans e1)).trans ((bN (δ':=[.fz (oneD w l hv c (upI ps) ts []),.fz (.int (b:Int)),y2,.fz (.int c),.un,.un]) rfl).trans ((bN (δ':=[.fz (oneD w l hv c (upI ps) ts []),.fz (.int (b:Int)),y2,.fz (.int (c+cS b (upI ps))),y4,y5]) ?_).trans ?_))
  .have o3:aI (oneD w l hv c (upI ps) ts []) (.int 3)=some (.tuple (ps.map pD)):=by rw[vn,qF]
   unfold dF;rw[show(oI (o2 (oV 0) (oC (.int 3)) aI) aV) [.fz (oneD w l hv c (upI ps) ts []),.fz (.int (b:Int)),y2,.fz (.int c),.un,.un]=some (ps.map pD) by
    show(aI (oneD w l hv c (upI ps) ts []) (.int 3)).bind aV=_;rw[o3];rfl]
   exact e2
  .simp[bi]
theorem wq:∀(N n:Nat),n<2^N->MA.qe n=((List.range N).filter λk=>hasB n k).length
 | 0,n,h=>by
  have:n=0:=by lia
  subst this;rw[MA.eE];rfl
 |N+1,n,h=>by
  rw[MA.eF,wq N (n/2) (by lia),List.range_succ_eq_map,filter_cons,List.filter_map];have e:((λk=>hasB n k) ∘ Nat.succ)=λk=>hasB (n/2) k:=funext λk=>by
   show hasB n (k+1)=hasB (n/2) k;unfold hasB;rw[pow_succ,mul_comm,<-div_div_eq_div_mul]
  have e0:hasB n 0=decide (n%2=1):=by unfold hasB;rw[Nat.pow_zero,Nat.div_one]
  rw[e];split
  .rename_i q
   rw[e0]at q;have:=of_decide_eq_true q;rw[length_cons,length_map]
   lia
  .rename_i q
   rw[e0]at q;have:¬n%2=1:=λz=>q (decide_eq_true z)
   rw[length_map]
   lia
theorem Fd{S b:Nat}{B:List Nat}(nd:B.Nodup)(h:∀x,hasB S x=true->x∈B):((par (S &&& b):Nat):Int)=n1 (λx=>hasB b x) S B%2:=by
 rw[HK];have hb:∀x,hasB (S &&& b) x=(hasB S x&&hasB b x):=λx=>by rw[ez,ez,ez,Nat.testBit_and]
 have e:(B.filter λx=>hasB S x&&hasB b x).length=((List.range (S &&& b)).filter λk=>hasB (S &&& b) k).length:=by
  refine List.Perm.length_eq ((List.perm_ext_iff_of_nodup (nd.sublist filter_sublist) (List.nodup_range.sublist filter_sublist)).mpr λx=>?_)
  rw[mem_filter,mem_filter,<-hb,List.mem_range];constructor
  .rintro⟨_,q⟩
   refine⟨?_,q⟩;have:2^x<=S &&& b:=by
    refine Nat.le_of_not_lt λz=>?_
    rw[mT z (Nat.le_refl _)]at q;cases q
   exact lt_of_lt_of_le Nat.lt_two_pow_self this
  .rintro⟨_,q⟩
   refine⟨h x ?_,q⟩;rw[hb]at q;exact(Bool.and_eq_true_iff.mp q).1
 rw[e,<-wq (S &&& b) (S &&& b) Nat.lt_two_pow_self];unfold MA.par
 lia
theorem qZ(b:Nat){B:List Nat}(nd:B.Nodup):∀R:As,(∀p∈R,∀x,hasB p.1 x=true->x∈B)->cS b (upI R)=GE (λx=>hasB b x) B R
 |[],_=>rfl
 |p::R,h=>by
  show(p.2:Int)*((par (p.1 &&& b):Nat):Int)+cS b (upI R)=(p.2:Int)*(n1 (λx=>hasB b x) p.1 B%2)+GE (λx=>hasB b x) B R;rw[qZ b nd R λq hq=>h q (.tail _ hq),Fd nd (h p (.head _))]
theorem xK(b:Nat)(R:As):bS (λx=>hasB b x) (fo R (i5 (orH R)))%8=cS b (upI R)%8:=by
 rw[FZ,qZ b (jp (qp _)) R λp hp x hx=>(wy _ _).mpr ((tW x R 0).mpr (.inr ⟨p,hp,hx⟩))]
 rfl
theorem yG(O:D)(b:Nat)(y3 y4 y5:Sl):∀(ts:List Nat) (y2:Sl),(∀t∈ts,t<2^1000)->∃y2',loop (gN 2) bw (ag ts) [.fz O,.fz (.int (b:Int)),y2,y3,y4,y5]=some ((if ts.all λt=>!vb b t then .nx else .rt .none),[.fz O,.fz (.int (b:Int)),y2',y3,y4,y5]):=lV O b y3 y4 y5
theorem BU(X:D)(b:Nat)(y2:Sl)(r:Int)(p:List Nat×Int)(hp:p.1.length<=100):aM [.fz X,.fz (.int (b:Int)),y2,.fz (.int r),.fz (.tuple (ag p.1)),.fz (.int p.2)]=some (.nx,[.fz X,.fz (.int (b:Int)),y2,.fz (.int (r+if p.1.all (λx=>hasB b x)=true then p.2 else 0)),.fz (.tuple (ag p.1)),.fz (.int p.2)]):=by
 have c:bZ [.fz X,.fz (.int (b:Int)),y2,.fz (.int r),.fz (.tuple (ag p.1)),.fz (.int p.2)]=some (.list (ag (p.1.filter λx=>hasB b x))):=by
  unfold bZ;show _=some (PyData.list ((p.1.filter λx=>hasB b x).map λk:Nat=>PyData.int (k:Int)))
  refine bh (xs:=p.1) (h:=λk:Nat=>PyData.int (k:Int)) (by simp;rfl) (by lia) (λk _=>?_) λk _ _=>by simp[bp]
  exact DI b k rfl rfl
 have l1:((ag (p.1.filter λx=>hasB b x)).length:Int)=((p.1.filter λx=>hasB b x).length:Int):=by rw[bG]
 have l2:((ag p.1).length:Int)=(p.1.length:Int):=by rw[bG]
 by_cases h:p.1.all (λx=>hasB b x)=true
 .have q:=(mF (λx=>hasB b x) p.1).mpr h
  rw[if_pos h];generalize ((p.1.filter λx=>hasB b x).length:Int)=a at *;generalize (p.1.length:Int)=b at *;subst q;simp[aM,c,l1,l2]
 .have q:¬_:=λz=>h ((mF (λx=>hasB b x) p.1).mp z)
  rw[if_neg h,Int.add_zero];generalize ((p.1.filter λx=>hasB b x).length:Int)=a at *;generalize (p.1.length:Int)=b at *;simp[aM,c,l1,l2,q]
theorem qK(X:D)(b:Nat)(y2:Sl):∀(F:Fm) (r:Int) (y4 y5:Sl),(∀p∈F,p.1.length<=100)->∃z4 z5,loop (Bu [gN 4,gN 5]) aM (gD F) [.fz X,.fz (.int (b:Int)),y2,.fz (.int r),y4,y5]=some (.nx,[.fz X,.fz (.int (b:Int)),y2,.fz (.int (r+bS (λx=>hasB b x) F)),z4,z5])
 |[],r,y4,y5,_=>⟨y4,y5,by rw[show bS (λx=>hasB b x) []=0 from rfl,Int.add_zero];rfl⟩
 |p::F,r,y4,y5,h=>by
  obtain⟨z4,z5,ih⟩:=qK X b y2 F (r+if p.1.all (λx=>hasB b x)=true then p.2 else 0) (.fz (.tuple (ag p.1))) (.fz (.int p.2)) λq hq=>h q (.tail _ hq)
  refine⟨z4,z5,?_⟩;have s:=BU X b y2 r p (h p (.head _));show((Bu [gN 4,gN 5] (.tuple [.tuple (ag p.1),.int p.2]) _).bind λδ1=>(aM δ1).bind _)=_
  rw[show Bu [gN 4,gN 5] (.tuple [.tuple (ag p.1),.int p.2]) [.fz X,.fz (.int (b:Int)),y2,.fz (.int r),y4,y5]=some [.fz X,.fz (.int (b:Int)),y2,.fz (.int r),.fz (.tuple (ag p.1)),.fz (.int p.2)]from rfl];simp only[Option.bind_some];rw[s];have e:r+bS (λx=>hasB b x) (p::F)=r+(if p.1.all (λx=>hasB b x)=true then p.2 else 0)+bS (λx=>hasB b x) F:=(Int.add_assoc _ _ _).symm;rw[e];exact ih
abbrev tolD(w l:Nat)(hv:Int)(T:Nat)(F:Fm)(rs:List Nat):D:=.tuple [.tuple [.int w,.int l],.int hv,.int T,.tuple (gD F),.tuple (ag rs)]
theorem yF{w l:Nat}{hv:Int}{T:Nat}{F:Fm}{rs:List Nat}(b:Nat)(hF:∀p∈F,p.1.length<=100)(ht:∀t∈rs,t<2^1000):
  aT [tolD w l hv T F rs,.int (b:Int)]=some (if rs.all λt=>!vb b t then .int (((T:Int)+bS (λx=>hasB b x) F)%8)else .none):=by
 obtain⟨y2,e1⟩:=yG (tolD w l hv T F rs) b .un .un .un rs .un ht;obtain⟨y4,y5,e2⟩:=qK (tolD w l hv T F rs) b y2 F T .un .un hF;have f1:dF (oI (o2 (oV 0) (oC (.int 4)) aI) aV) (gN 2) bw [.fz (tolD w l hv T F rs),.fz (.int (b:Int)),.un,.un,.un,.un]=loop (gN 2) bw (ag rs) [.fz (tolD w l hv T F rs),.fz (.int (b:Int)),.un,.un,.un,.un]:=rfl;cases ha:rs.all λt=>!vb b t with
 |false=>
  rw[ha]at e1;refine kK rfl (δ':=[.fz (tolD w l hv T F rs),.fz (.int (b:Int)),y2,.un,.un,.un]) ?_;unfold bD;exact Ft (f1.trans e1)
 |true=>
  rw[ha]at e1;refine kK rfl (δ':=[.fz (tolD w l hv T F rs),.fz (.int (b:Int)),y2,.fz (.int (T+bS (λx=>hasB b x) F)),y4,y5]) ?_;unfold bD;refine(bN (f1.trans e1)).trans ((bN (δ':=[.fz (tolD w l hv T F rs),.fz (.int (b:Int)),y2,.fz (.int T),.un,.un]) rfl).trans ((bN (δ':=[.fz (tolD w l hv T F rs),.fz (.int (b:Int)),y2,.fz (.int (T+bS (λx=>hasB b x) F)),y4,y5]) ?_).trans ?_))
  .exact e2
  .simp[bi]
theorem Fc(s h:Nat):par (s &&& 2^h)=if hasB s h then 1 else 0:=by
 rw[Nat.and_comm,<-C6,lm];unfold hasB;rcases Nat.mod_two_eq_zero_or_one (s/2^h)with e|e<;>simp[e]
theorem By(x s h:Nat):vb (x ^^^ 2^h) s=(vb x s != hasB s h):=by
 unfold vb;rw[JZ,Fc];have:=MA.gO (s &&& x);rcases (by lia:par (s &&& x)=0\/par (s &&& x)=1)with e|e<;>cases hasB s h<;>rw[e]<;>rfl
theorem K3{N:Nat}(hN:1<=N):∀rs:List Nat,(∀t∈rs,t≠0/\1<=tp t/\tp t<N)->(rs.Pairwise λa b=>hasB a (tp b)=false/\hasB b (tp a)=false)->∃x,x%2=1/\x<2^N/\∀t∈rs,vb x t=false
 |[],_,_=>⟨1,rfl,by
   have:2^1<=2^N:=pow_le_pow_right (by decide) hN
   lia,λ_ h=>nomatch h⟩
 |t::rs,h,pw=>by
  have pw':=List.pairwise_cons.mp pw;obtain⟨x,h1,h2,h3⟩:=K3 hN rs (λa ha=>h a (.tail _ ha)) pw'.2
  obtain⟨t0,t1,t2⟩:=h t (.head _);cases e:vb x t with
  |false=>exact⟨x,h1,h2,λa ha=>by rcases List.mem_cons.mp ha with rfl|ha;exact e;exact h3 a ha⟩
  |true=>
   refine⟨x ^^^ 2^tp t,?_,Nat.xor_lt_two_pow h2 (Nat.pow_lt_pow_right (by decide) t2),λa ha=>?_⟩
   .have q:=Nat.xor_mod_two_pow (a:=x) (b:=2^tp t) (n:=1)
    rw[Nat.pow_one]at q;obtain⟨j,hj⟩:∃j,tp t=j+1:=⟨tp t-1,by lia⟩;have e2:2^tp t%2=0:=by rw[hj,pow_succ];lia
    rw[q,h1,e2];rfl
   .rw[By]
    rcases List.mem_cons.mp ha with rfl|ha
    .rw[e,dZ t0];rfl
    .rw[h3 a ha,(pw'.1 a ha).2];rfl
theorem En{x:Nat}(h:x%2=1):vb x 1=true:=by
 unfold vb;have e:1 &&& x=1:=by
  rw[Nat.and_comm,Nat.and_one_is_mod];exact h
 rw[e];unfold MA.par;rw[MA.eF,show 1/2=0 from rfl,MA.eE];rfl
theorem qV{n:Nat}(hn:n<=10)(δ:Dv)(e:Du δ[2]? = some (.int (n:Int))):(oL (af (o2 (oC (.int 1)) (oV 2) kF) (ap)) d6) δ = some ((List.range (2^n)).map λk:Nat=>PyData.int (0+(k:Int))):=by
 refine rE (ds:=[.int ((2^n:Nat):Int)]) ?_ (B7 ?_)
 .have p:=q9 (k:=n) (by lia)
  simp only[af,ap,o2,oC,oV,e,Option.bind_some,p]
 .have:2^n<=2^10:=pow_le_pow_right (by decide) hn
  have:(2:Nat)^10=1024:=rfl
  lia
theorem LA{O:D}{n:Nat}(hn:n<=10){y1 y3:Sl}{f:Nat->D}(H:∀b:Nat,b%2=1->b9 [O,.int (b:Int)]=some (f b)):bU [.fz O,y1,.fz (.int (n:Int)),y3]=some (.list ((List.range (2^n)).map λk=>f (2*k+1))):=by
 unfold bU;refine wn (qV hn _ rfl) ?_ λp _=>?_
 .have:2^n<=2^10:=pow_le_pow_right (by decide) hn
  have:(2:Nat)^10=1024:=rfl
  lia
 .have h:=H (2*p+1) (by lia)
  have m:=zS p;have e:((2*p+1:Nat):Int)=2*(p:Int)+1:=by lia
  rw[e]at h;simp[bp,m,h]
theorem Lz{O T:D}{n:Nat}(hn:n<=10){y3:Sl}{f:Nat->D}(H:∀b:Nat,b%2=1->aT [T,.int (b:Int)]=some (f b)):cA [.fz O,.fz T,.fz (.int (n:Int)),y3]=some (.list ((List.range (2^n)).map λk=>f (2*k+1))):=by
 unfold cA;refine wn (qV hn _ rfl) ?_ λp _=>?_
 .have:2^n<=2^10:=pow_le_pow_right (by decide) hn
  have:(2:Nat)^10=1024:=rfl
  lia
 .have h:=H (2*p+1) (by lia)
  have m:=zS p;have e:((2*p+1:Nat):Int)=2*(p:Int)+1:=by lia
  rw[e]at h;simp[bp,m,h]
theorem Ka(X:D)(acc L:List D)(e n:Int)(S:D)(hn:(L.length:Int)=n)(n1:1<=n)(n3:n<=3)(e1:1<=e)(e7:e<=7)(hs:kt (.tuple L)=some S)(hq:neD (.list L) S=some (.bool false))(hl:jr [.tuple L]=some (.list L))(ha:acc.length<sizeLine):
  cf [.fz X,.ow acc,.fz (.tuple [.tuple L,.int e])]=some (.nx,[.fz X,.ow (acc++[.tuple L]),.fz (.tuple [.tuple L,.int e])]):=by
 have w:=kW e;have a1:¬e<1:=by lia
 have a2:¬ 7<e:=by lia
 have a3:¬n<1:=by lia
 have a4:¬ 3<n:=by lia
 simp[-ay,-dX,d5,gL,cf,w,hn,a1,a2,a3,a4,hs,hl,hq,ha]
theorem rG(l:List Nat)(h:l.length<=100):jr [.tuple (ag l)]=some (.list (ag l)):=by
 have hz:(ag l).length<=sizeLine:=by rw[bG,sizeLine_eq];lia
 simp[hz]
theorem vw(X:D):∀(F:Fm) (acc:List D) (y:Sl),(∀p∈F,Gp p)->acc.length+F.length<=1000->∃y',loop (gN 2) cf (gD F) [.fz X,.ow acc,y]=some (.nx,[.fz X,.ow (acc++F.map λp=>.tuple (ag p.1)),y'])
 |[],acc,y,_,_=>⟨y,by rw[List.map_nil,append_nil];rfl⟩
 |p::F,acc,y,h,hl=>by
  have g:=h p (.head _);have n0:1<=p.1.length:=by
   have:=g.n0;cases h:p.1 with
   |nil=>exact absurd h this
   |cons a l=>simp
  have n3:=g.n3;rw[length_cons]at hl;obtain⟨y',ih⟩:=vw X F (acc++[.tuple (ag p.1)]) (.fz (.tuple [.tuple (ag p.1),.int p.2])) (λq hq=>h q (.tail _ hq)) (by rw[length_append];simp;lia)
  refine⟨y',?_⟩;have s:=Ka X acc (ag p.1) p.2 (p.1.length:Int) _ (by rw[bG]) (by lia) (by lia) g.e1 g.e7 (uX g.up (by lia)) (pP (MA.Sh.list (pv 1 p.1)) (by decide)) (rG p.1 (by lia)) (by rw[sizeLine_eq];lia);show((gN 2 (.tuple [.tuple (ag p.1),.int p.2]) [.fz X,.ow acc,y]).bind λδ1=>(cf δ1).bind _)=_
  simp only[gN,Option.bind_some,set_cons_succ,set_cons_zero];rw[s];have ea:acc++(p::F).map (λp=>PyData.tuple (ag p.1))=acc++[.tuple (ag p.1)]++F.map λp=>PyData.tuple (ag p.1):=by simp
  rw[ea];exact ih
theorem CH(w l:Nat)(hv:Int)(T:Nat)(FL RL P:List D)(y:Sl)(hT:T<8)(lp:loop (gN 2) cf FL [.fz (.tuple [.tuple [.int w,.int l],.int hv,.int T,.tuple FL,.tuple RL]),.ow [],.un]=some (.nx,[.fz (.tuple [.tuple [.int w,.int l],.int hv,.int T,.tuple FL,.tuple RL]),.ow P,y]))
  (hs:qJ (.list P)=some (.list P)) (hq:iy (.list P) (.list P)=some (.bool true)):bL [.tuple [.tuple [.int w,.int l],.int hv,.int T,.tuple FL,.tuple RL]]=some (.bool true):=by
 have wt:=kW (T:Int);have t1:(0:Int)<=(T:Int):=by lia
 have t2:(T:Int)<8:=by lia
 have df:nE 1 [.fz (.tuple [.tuple [.int w,.int l],.int hv,.int T,.tuple FL,.tuple RL]),.ow P,y]=[.fz (.tuple [.tuple [.int w,.int l],.int hv,.int T,.tuple FL,.tuple RL]),.fz (.list P),y]:=rfl;simp[-ay,-dX,d5,gL,bL,bC,ij,aJ,wt,lp,df,t1,t2,hs,hq]
theorem zY(w l:Nat)(hv:Int)(T:Nat)(R:As)(rs:List Nat)(hT:T<8)(hb:(i5 (orH R)).length<=5):bL [tolD w l hv T (fo R (i5 (orH R))) rs]=some (.bool true):=by
 have gp:=p6 R (i5 (orH R)) (qp _);have ln:=pZ R (i5 (orH R));have t5:=Er hb;have up':=DW R (i5 (orH R)) (qp _);obtain⟨y,lp⟩:=vw (tolD w l hv T (fo R (i5 (orH R))) rs) (fo R (i5 (orH R))) [] .un gp (by simp;lia);have shp:MA.Sh 3 (.list ((fo R (i5 (orH R))).map λp=>PyData.tuple (ag p.1))):=MA.Sh.list λx hx=>by
  obtain⟨p,_,rfl⟩:=List.mem_map.mp hx;exact MA.Sh.tuple (pv 1 p.1)
 exact CH w l hv T _ _ _ y hT lp (yE up' gp (by lia)) (wa shp (by decide))
theorem HU(w l:Nat)(hv:Int)(T:Nat)(F:Fm)(rs:List Nat)(y1:Sl)(k:Nat)(hl:rs.length<=1000):dw [.fz (tolD w l hv T F rs),y1,.fz (.int (k:Int))]=some (.list (ag (rs.filter λt=>hasB t k))):=by
 unfold dw;show _=some (PyData.list ((rs.filter λt=>hasB t k).map λk:Nat=>PyData.int (k:Int)))
 refine bh (xs:=rs) (h:=λk:Nat=>PyData.int (k:Int)) rfl (by lia) (λt _=>?_) λk _ _=>by simp[bp]
 exact DI t k rfl rfl
theorem Ig(hs:List Nat)(b:Nat):sg false (.int (b:Int)) (.tuple (ag hs))=some (.bool (decide (b∈hs))):=by
 have:=At hs b;exact this
theorem HS(w l:Nat)(hv:Int)(T:Nat)(F:Fm)(rs:List Nat)(y1:Sl)(k:Nat)(hl:F.length<=1000)(hk:∀p∈F,k∉p.1):eX [.fz (tolD w l hv T F rs),y1,.fz (.int (k:Int))]=some (.list []):=by
 have e:(F.filter λp=>decide (k∈p.1))=[]:=List.filter_eq_nil_iff.mpr λp hp=>by simpa using hk p hp
 unfold eX;have q:bF (oI (o2 (oV 0) (oC (.int 3)) aI) aV) [(2,"lead")] mQ (ob (o2 (oV 1) (o2 (oV 0) (oC (.int 0)) aI) (sg false))) (oV 0) [.fz (tolD w l hv T F rs),y1,.fz (.int (k:Int))]=some (.list ((F.filter λp=>decide (k∈p.1)).map λp=>.tuple [.tuple (ag p.1),.int p.2])):=by
  refine bh (xs:=F) (h:=λp:List Nat×Int=>PyData.tuple [.tuple (ag p.1),.int p.2]) rfl (by lia) (λp _=>?_) λp _ _=>by simp[bp]
  have:=Ig p.1 k;simp[bp,this]
 rw[q,e];rfl
theorem CJ(w l:Nat)(hv:Int)(T:Nat)(F:Fm)(rs:List Nat)(t:Nat)(y2:Sl)(hl:rs.length<=1000)(hF:F.length<=1000)(h2:2<=t)(hs:(rs.filter λa=>hasB a (tp t))=[t])(hk:∀p∈F,tp t∉p.1):
  cD [.fz (tolD w l hv T F rs),.fz (.int (t:Int)),y2]=some (.nx,[.fz (tolD w l hv T F rs),.fz (.int (t:Int)),.fz (.int ((tp t:Nat):Int))]):=by
 have wt:=kW (t:Int);have b2:¬(t:Int)<2:=by lia
 have e:((Builtin.Int.intBits (t:Int):Nat):Int)-1=(tp t:Int):=by
  unfold Builtin.Int.intBits tp;rw[if_neg (by simp;lia),natAbs_natCast]
  lia
 have q1:=HU w l hv T F rs (.fz (.int (t:Int))) (tp t) hl;have q2:=HS w l hv T F rs (.fz (.int (t:Int))) (tp t) hF hk;rw[hs]at q1;have q1':dw [.fz (tolD w l hv T F rs),.fz (.int (t:Int)),.fz (.int ((tp t:Nat):Int))]=some (.list [.int (t:Int)]):=q1;generalize tolD w l hv T F rs=O at *;simp[-ay,-dX,d5,gL,cD,wt,b2,e,q1',q2]
theorem AG(T:As):∀B:List Nat,∀p∈fo T B,∀x∈p.1,x∈B
 |[],p,h,_,_=>by cases h
 |b::C,p,h,x,hx=>by
  rcases List.mem_append.mp (show p∈fw b (hav T b) C++fo T C from h)with h|h
  .obtain⟨r,e,hr⟩:=lh b (hav T b) C p h
   rw[e]at hx;rcases List.mem_cons.mp hx with rfl|hx
   .exact .head _
   .exact .tail _ (hr x hx)
  .exact .tail _ (AG T C p h x hx)
theorem zE{t:Nat}:∀rs:List Nat,(∀a∈rs,a≠0)->(rs.Pairwise λa b=>hasB a (tp b)=false/\hasB b (tp a)=false)->t∈rs->(rs.filter λa=>hasB a (tp t))=[t]
 |[],_,_,h=>by cases h
 |a::rs,nz,pw,h=>by
  have pw':=List.pairwise_cons.mp pw;rcases List.mem_cons.mp h with rfl|h
  .rw[filter_cons_of_pos (p:=λa=>hasB a (tp t)) (dZ (nz _ (.head _))),List.filter_eq_nil_iff.mpr λb hb=>by rw[(pw'.1 b hb).2];decide]
  .rw[filter_cons_of_neg (by rw[(pw'.1 t h).1];decide)]
   exact zE rs (λb hb=>nz b (.tail _ hb)) pw'.2 h
theorem vA(w l:Nat)(hv:Int)(T:Nat)(F:Fm)(rs:List Nat)(hl:rs.length<=1000)(hF:F.length<=1000):∀(ts:List Nat) (y1 y2:Sl),(∀t∈ts,2<=t/\(rs.filter λa=>hasB a (tp t))=[t]/\∀p∈F,tp t∉p.1)->
  ∃z1 z2,loop (gN 1) cD (ag ts) [.fz (tolD w l hv T F rs),y1,y2]=some (.nx,[.fz (tolD w l hv T F rs),z1,z2])
 |[],y1,y2,_=>⟨y1,y2,rfl⟩
 |t::ts,y1,y2,h=>by
  obtain⟨h1,h2,h3⟩:=h t (.head _);obtain⟨z1,z2,ih⟩:=vA w l hv T F rs hl hF ts (.fz (.int (t:Int))) (.fz (.int ((tp t:Nat):Int))) λa ha=>h a (.tail _ ha)
  refine⟨z1,z2,?_⟩;have s:=CJ w l hv T F rs t y2 hl hF h1 h2 h3;show((gN 1 (.int (t:Int)) [.fz (tolD w l hv T F rs),y1,y2]).bind λδ1=>(cD δ1).bind _)=_
  simp only[gN,Option.bind_some,set_cons_succ,set_cons_zero];rw[s];exact ih
theorem Ab(w l:Nat)(hv:Int)(T:Nat)(F:Fm)(rs:List Nat)(up:rs.Pairwise (· < ·))(hl:rs.length<=60)(hF:F.length<=1000)(h:∀t∈rs,2<=t/\(rs.filter λa=>hasB a (tp t))=[t]/\∀p∈F,tp t∉p.1):cj [tolD w l hv T F rs]=some (.bool true):=by
 obtain⟨z1,z2,e⟩:=vA w l hv T F rs (by lia) hF rs .un .un h;have t0:(ob (o2 (VL.os (af (o2 (oV 0) (oC (.int 4)) aI) (ap)) jr) (o1 (o2 (oV 0) (oC (.int 4)) aI) kt) neD)) [.fz (tolD w l hv T F rs),.un,.un]=some false:=by
  show(Option.bind (jr [.tuple (ag rs)]) λx=>Option.bind (kt (.tuple (ag rs))) λy=>neD x y).bind asB=_
  rw[rG rs (by lia),uX up (by lia)];show(neD (.list (ag rs)) (.list (ag rs))).bind asB=_;rw[pP (MA.Sh.list (pv 1 rs)) (by decide)];rfl
 refine kK rfl (δ':=[.fz (tolD w l hv T F rs),z1,z2]) ?_;unfold gr;exact(bN (δ':=[.fz (tolD w l hv T F rs),.un,.un]) ((jk t0).trans rfl)).trans ((bN (δ':=[.fz (tolD w l hv T F rs),z1,z2]) e).trans rfl)
theorem Iy{f:Nat->D}{g:Nat->Bool}(hf:∀k,f k=.none↔g k=false)(hs:∀k,g k=true->∃i,f k=.int i)(n:Nat)(hn:n<=10)(y0 y1 y2:Sl):cC [y0,y1,y2,.fz (.list ((List.range (2^n)).map f))]=some (.list (((List.range (2^n)).filter g).map f)):=by
 unfold cC;refine bh (xs:=List.range (2^n)) (h:=f) rfl ?_ (λk _=>?_) λk _ _=>by simp[bp]
 .rw[length_range]
  have:2^n<=2^10:=pow_le_pow_right (by decide) hn;have:(2:Nat)^10=1024:=rfl
  lia
 .cases e:g k with
  |true=>
   obtain⟨i,hi⟩:=hs k e;simp[bp,hi]
  |false=>
   have:=(hf k).mpr e;simp[bp,this]
theorem B6(O:D)(L:List D)(w l n m:Int)(hS:aP [O]=some .none)(o0:aI O (.int 0)=some (.tuple [.int w,.int l]))(mw:gC (.int 2) (.int w)=some (.int m))(hn:m+l=n)(p1:∀y1 y3,bU [.fz O,y1,.fz (.int n),y3]=some (.list L))
  (p2:∀y1,cC [.fz O,y1,.fz (.int n),.fz (.list L)]=some (.list [])):aY [O]=some (.bool true):=by
 have q:iy (.list []) (.list [])=some (.bool true):=rfl;simp[-ay,-dX,d5,gL,aY,bC,dU,aJ,hS,o0,mw,hn,p1,p2,q]
theorem B5(O A1 A2 A3 A4:D)(L:List D)(P:List D)(w l n m hv:Int)(hS:aP [O]=some (.tuple [.tuple [.int w,.int l],.int hv,A2,A3,A4]))(o0:aI O (.int 0)=some (.tuple [.int w,.int l]))(o1:aI O (.int 1)=some (.int hv))(mw:gC (.int 2) (.int w)=some (.int m))(hn:m+l=n)
  (p1:∀y1 y3,bU [.fz O,y1,.fz (.int n),y3]=some (.list L)) (p3:∀y1,iF [.fz O,y1,.fz (.int n),.fz (.list L)]=some (.list P)) (p4:∀y3,cA [.fz O,.fz (.tuple [.tuple [.int w,.int l],.int hv,A2,A3,A4]),.fz (.int n),y3]=some (.list L))
  (fo:bL [.tuple [.tuple [.int w,.int l],.int hv,A2,A3,A4]]=some (.bool true)) (ld:cj [.tuple [.tuple [.int w,.int l],.int hv,A2,A3,A4]]=some (.bool true)) (hP:iy (.list P) (.list [])=some (.bool false)) (hL:iy (.list L) (.list L)=some (.bool true)):aY [O]=some (.bool true):=by
 have wh:=kW hv;have n1:neD (.tuple [.int w,.int l]) (.tuple [.int w,.int l])=some (.bool false):=pP (MA.Sh.tuple λx hx=>by rcases List.mem_cons.mp hx with rfl|hx;exact MA.Sh.int 1 _;rcases List.mem_cons.mp hx with rfl|hx;exact MA.Sh.int 1 _;cases hx) (k:=2) (by decide);have iN:DT (.tuple [.tuple [.int w,.int l],.int hv,A2,A3,A4])=false:=rfl;simp[-ay,-dX,d5,gL,aY,bC,dU,aJ,iN,hS,o0,o1,mw,hn,p1,p3,p4,fo,ld,hP,hL,wh,n1]
def RV(c:Nat)(ps:As)(ts:List Nat)(b:Nat):D:=if ts.all λt=>!vb b t then .int (((c:Int)+cS b (upI ps))%8)else .none
theorem all_vb{ts:List Nat}{b:Nat}:(ts.all λt=>!vb b t)=true↔∀t∈ts,vb b t=false:=by
 rw[List.all_eq_true];exact⟨λh t ht=>by simpa using h t ht,λh t ht=>by simp[h t ht]⟩
theorem Dw(c:Nat)(ps:As)(ts:List Nat)(b:Nat):MA.Sh 1 (RV c ps ts b):=by
 unfold RV;split
 .exact MA.Sh.int 1 _
 .exact⟨rfl,by simp[PyData.depth]⟩
theorem Fu{d:D}{ds:List D}(h:MA.Sh 2 (.list (d::ds))):iy (.list (d::ds)) (.list [])=some (.bool false):=by
 have e:shp (.list (d::ds))=true:=by
  show((PyData.list (d::ds)).canLay0&&decide ((PyData.list (d::ds)).depth<=64))=true;rw[h.1,decide_eq_true (le_trans h.2 (by decide))];rfl
 unfold iy;rw[if_pos ⟨e,rfl⟩];rfl
theorem B8{w l:Nat}{hv:Int}{c:Nat}{ps:As}{ts:List Nat}{m:Nat}(S:Sm w l hv c ps ts [] 0 m)(hm:m<32)(N5:2*w+l+1<=5)(hp:∀p∈ps,p.1<2^(2*w+l+1))(ht:∀t∈ts,t<2^(2*w+l+1)):
  aY [oneD w l hv c (upI ps) ts []]=some (.bool true):=by
 have big:(2:Nat)^(2*w+l+1)<=2^1000:=pow_le_pow_right (by decide) (by lia);have hr:∀b:Nat,b%2=1->b9 [oneD w l hv c (upI ps) ts [],.int (b:Int)]=some (RV c ps ts b):=λb _=>
  zU b (λp hp'=>⟨lt_of_lt_of_le (hp p hp') big,by have:=(S.pe p hp').2.2.2.2;lia⟩) λt ht'=>lt_of_lt_of_le (ht t ht') big
 have p1:∀y1 y3,bU [.fz (oneD w l hv c (upI ps) ts []),y1,.fz (.int ((2*w+l:Nat):Int)),y3]=some (.list ((List.range (2^(2*w+l))).map λk=>RV c ps ts (2*k+1))):=λy1 y3=>LA (by lia) hr
 have fl:∀y0 y1 y2,cC [y0,y1,y2,.fz (.list ((List.range (2^(2*w+l))).map λk=>RV c ps ts (2*k+1)))]=some (.list (((List.range (2^(2*w+l))).filter λk=>ts.all λt=>!vb (2*k+1) t).map λk=>RV c ps ts (2*k+1))):=λy0 y1 y2=>
  Iy (f:=λk=>RV c ps ts (2*k+1)) (g:=λk=>ts.all λt=>!vb (2*k+1) t) (λk=>by
   unfold RV;cases e:ts.all λt=>!vb (2*k+1) t<;>simp) (λk e=>⟨_,by unfold RV;rw[e];rfl⟩) _ (by lia) y0 y1 y2
 have mw:=zS w;rcases tL S hm (by lia) N5 hp ht with⟨h1,e⟩|⟨h1,rs,T,R,st,e⟩
 .refine B6 _ _ w l _ _ e rfl mw (by lia) p1 λy1=>?_
  rw[fl];have:((List.range (2^(2*w+l))).filter λk=>ts.all λt=>!vb (2*k+1) t)=[]:=List.filter_eq_nil_iff.mpr λk _ z=>by
   have:=(A8 (2*k+1) ts).mpr (all_vb.mp z) 1 h1;rw[En (by lia)]at this;cases this
  rw[this];rfl
 .have red:=wu ts
  have mem:∀{a:Nat},a∈rs↔a∈xY ts:=st.pm.mem_iff;have lc:(xY ts).length<=ts.length:=by have:=qf ts [];simpa[xY]using this
  have tl:=S.tl;have rl:rs.length<=60:=by rw[st.pm.length_eq];lia
  have ol:orH R<2^(2*w+l+1):=zB R 0 (Nat.two_pow_pos _) st.lt;have tb:∀t∈rs,∀k,2*w+l+1<=k->hasB t k=false:=λt h k hk=>qg ts [] (λ_ z=>nomatch z) (λa ha=>mT (ht a ha) hk) t (mem.mp h)
  have tlt:∀t∈rs,t<2^(2*w+l+1):=λt h=>lU (tb t h)
  have nz:∀t∈rs,t≠0:=λt h=>red.nz t (mem.mp h)
  have t1:∀t∈rs,t≠1:=λt h z=>h1 (z ▸ mem.mp h)
  have pw:rs.Pairwise λa b=>hasB a (tp b)=false/\hasB b (tp a)=false:=(st.pm.pairwise_iff λ{a b} q=>⟨q.2,q.1⟩).mpr red.pw
  have tpl:∀t∈rs,t≠0/\1<=tp t/\tp t<2*w+l+1:=λt h=>by
   have n0:=nz t h;have n1:=t1 t h;refine⟨n0,?_,ul (tlt t h) (dZ n0)⟩;refine Nat.pos_of_ne_zero λz=>?_
   have h2:t<2^1:=lU λk hk=>nW (by lia)
   lia
  have bl:(i5 (orH R)).length<=5:=by
   have h1:(i5 (orH R)).length<=Builtin.Int.intBits (orH R:Int):=by
    unfold i5;exact le_trans (length_filter_le _ _) (by rw[length_range];exact Nat.le_refl _)
   have h2:Builtin.Int.intBits (orH R:Int)<=2*w+l+1:=by
    unfold Builtin.Int.intBits;split
    .lia
    .rename_i z
     rw[natAbs_natCast];have n0:orH R≠0:=by simpa using z
     exact(Nat.log2_lt n0).mpr ol
   lia
  have gp:=p6 R (i5 (orH R)) (qp _);have ln:=pZ R (i5 (orH R));have t5:=Er bl;have lf:=zY w l hv T R rs st.sm.c8 bl;have ld:=Ab w l hv T (fo R (i5 (orH R))) rs st.up rl (by lia) λt h=>⟨by have:=nz t h;have:=t1 t h;lia,zE rs nz pw h,λp hp' hx=>by
   rcases (tW (tp t) R 0).mp ((wy _ _).mp (AG R _ p hp' _ hx))with z|⟨q,hq,z⟩
   .rw[ez,Nat.zero_testBit]at z;cases z
   .rw[st.out t h q hq]at z;cases z⟩
  have same:∀b,b%2=1->(rs.all λt=>!vb b t)=(ts.all λt=>!vb b t):=λb _=>by
   apply Bool.eq_iff_iff.mpr;rw[all_vb,all_vb];exact⟨λh=>(A8 b ts).mp λo ho=>h o (mem.mpr ho),λh t ht'=>(A8 b ts).mpr h t (mem.mp ht')⟩
  have p4:∀y3,cA [.fz (oneD w l hv c (upI ps) ts []),.fz (tolD w l hv T (fo R (i5 (orH R))) rs),.fz (.int ((2*w+l:Nat):Int)),y3]=some (.list ((List.range (2^(2*w+l))).map λk=>RV c ps ts (2*k+1))):=λy3=>Lz (f:=RV c ps ts) (by lia) λb hb=>by
   rw[yF b (λp hp'=>le_trans (gp p hp').n3 (by decide)) λt h=>lt_of_lt_of_le (tlt t h) big]
   unfold RV;rw[same b hb];cases ea:ts.all λt=>!vb b t with
   |false=>rfl
   |true=>
    have v:=st.val b hb (all_vb.mp (by rw[same b hb];exact ea));have fp:=xK b R;rw[show((T:Int)+bS (λx=>hasB b x) (fo R (i5 (orH R))))%8=((c:Int)+cS b (upI ps))%8 by lia]
  obtain⟨x,x1,x2,x3⟩:=K3 (N:=2*w+l+1) (by lia) rs tpl pw;have inr:(x/2)∈(List.range (2^(2*w+l))).filter λk=>ts.all λt=>!vb (2*k+1) t:=by
   refine List.mem_filter.mpr ⟨List.mem_range.mpr ?_,?_⟩
   .rw[pow_succ]at x2;lia
   .rw[show 2*(x/2)+1=x by lia,<-same x x1]
    exact all_vb.mpr x3
  refine B5 _ .none _ _ _ _ _ w l _ _ hv e rfl rfl mw (by lia) p1 (λy1=>fl _ _ _) p4 lf ld ?_ (wa (k:=2) (MA.Sh.list λd hd=>?_) (by decide))
  .generalize ((List.range (2^(2*w+l))).filter λk=>ts.all λt=>!vb (2*k+1) t)=G at inr
   cases G with
   |nil=>cases inr
   |cons a G=>
    have sh:MA.Sh 2 (.list ((a::G).map λk=>RV c ps ts (2*k+1))):=MA.Sh.list λd hd=>by
     obtain⟨k,_,rfl⟩:=List.mem_map.mp hd;exact Dw c ps ts _
    exact Fu sh
  .obtain⟨k,_,rfl⟩:=List.mem_map.mp hd
   exact Dw c ps ts _
theorem Au:("StillHidden":Str)∈hs_WaveError:=by decide+kernel
theorem oK(t:List (Str×Bool))(n:Str)(b:Bool)(h:t.lookup n=some b):gd t (xR n)=some (.bool b):=by
 rw[CP];unfold CO;rw[h];rfl
theorem Kj:gd eP (xR "StillHidden")=some (.bool false):=oK _ _ _ (by decide+kernel)
theorem Ki:gd im (xR "StillHidden")=some (.bool false):=oK _ _ _ (by decide+kernel)
theorem Kh:gd fS (xR "StillHidden")=some (.bool false):=oK _ _ _ (by decide+kernel)
theorem Kf:gd eO (xR "StillHidden")=some (.bool false):=oK _ _ _ (by decide+kernel)
theorem Kg:gd cW (xR "StillHidden")=some (.bool true):=oK _ _ _ (by decide+kernel)
theorem Ke:gd du (xR "StillHidden")=some (.bool true):=oK _ _ _ (by decide+kernel)
theorem BS(A0 A1 A2 A3 A4:D)(h:Int):bT [.tuple [A0,A1,A2,A3,A4,.tuple [.int h]]]=some "StillHidden":=by
 have q:neD (.tuple [.int h]) (.tuple [])=some (.bool true):=rfl;simp[bT,yX,eG,Jw,aJ,sW,q]
theorem Hk(O A3 A4:D)(w l m hv c:Int)(o0:aI O (.int 0)=some (.tuple [.int w,.int l]))(o1:aI O (.int 1)=some (.int hv))(o2:aI O (.int 2)=some (.int c))(o3:aI O (.int 3)=some A3)(o4:aI O (.int 4)=some A4)(mw:gC (.int 2) (.int w)=some (.int m)):bn [O]=some (.bool true):=by
 have x:=BS (.tuple [.int w,.int l]) (.int hv) (.int c) A3 A4 (m+l+1);have hc:hs_WaveError.contains ("StillHidden":Str)=true:=by decide+kernel
 have tr:sg true (.bool true) (.list [.bool false,.bool false,.bool false,.bool false])=some (.bool true):=rfl;have d1:∀(δ:Dv),nE 4 [.fz O,.fz (.int (m+l+1)),.fz (xR "StillHidden"),.un,.ow [.bool false,.bool false,.bool false,.bool false]]=[.fz O,.fz (.int (m+l+1)),.fz (xR "StillHidden"),.un,.fz (.list [.bool false,.bool false,.bool false,.bool false])]:=λ_=>rfl
 simp[-ay,-dX,d5,gL,bn,bC,eJ,aJ,o0,o1,o2,o3,o4,mw,yT,xE,J2,x,Au,Kj,Ki,Kh,Kf,Kg,Ke,tr,nE,sizeLine,bM]
structure Ag (N:Nat) (A:As) (n:Nat):Prop where
 nd:(ak A).Nodup
 ln:A.length<=n
 ks:∀k∈ak A,2<=k/\k%2=0/\k<2^N
 v8:∀k,vl A k<8
theorem Ag.put{N:Nat}{A:As}{n:Nat}(a:Ag N A n){s v:Nat}(g:2<=s/\s%2=0/\s<2^N)(hv:v<8):Ag N (m8 A s v) (n+1):=by
 have kp:=jv A s v;have ln:(ak (m8 A s v)).length<=n+1:=by
  have h0:=a.ln;rw[kp];split
  .unfold ak;rw[length_map];lia
  .unfold ak;rw[length_append,length_map];simp;lia
 refine⟨t9 a.nd s v,by unfold ak at ln;rwa [length_map]at ln,λk hk=>?_,λk=>?_⟩
 .rw[kp]at hk
  split at hk
  .exact a.ks k hk
  .rcases List.mem_append.mp hk with hk|hk
   .exact a.ks k hk
   .rcases List.mem_singleton.mp hk with rfl
    exact g
 .rw[iL]
  split
  .exact hv
  .exact a.v8 k
theorem Bo(t:Nat)(A:As)(B e:Nat)(hl:A.length<=1000)(ht:t<8)(h8:e<8):∃(t':Nat) (A':As),t'<8/\(A'=A\/∃v:Nat,v<8/\2<=hb B/\A'=m8 A (hb B) v)/\aL (.int (t:Int)) (de A) [.int (B:Int),.int (e:Int)]=some (.int (t':Int),de A'):=by
 have esl:(de A).length<sizeLine:=by unfold de;rw[length_map,sizeLine_eq];lia
 have m2:=jq B;have key:∀(k:Nat) (x:Int),jl (de A) (.inl (k:Int)) (.int (((vl A k:Int)+x)%8))=de (m8 A k (((vl A k:Int)+x)%8).toNat):=λk x=>by
  rw[<-pF];congr 2
  lia
 rcases Nat.mod_two_eq_zero_or_one B with q|q
 .by_cases z:B=0
  .subst z
   refine⟨t,A,ht,.inl rfl,?_⟩;have tm:(t:Int)%8=t:=by lia
   simp[aL,pE,cm,lz,aJ,tm]
  .refine⟨t,m8 A B (((vl A B:Int)+e)%8).toNat,ht,.inr ⟨(((vl A B:Int)+e)%8).toNat,by lia,by unfold hb;lia,by unfold hb;rw[q,Nat.sub_zero]⟩,?_⟩
   have tm:(t:Int)%8=t:=by lia
   have z':0<B:=by lia
   have g:=uo A B;have q':((B:Int)%2)=0:=by lia
   have pu:=key B e;simp[aL,pE,cm,lz,aJ,tm,q',z',iR,gM,g,esl,pu,mf]
 .have q':((B:Int)%2)=1:=by lia
  obtain⟨t',e1⟩:∃t':Nat,(t':Int)=((t:Int)+e)%8:=⟨(((t:Int)+e)%8).toNat,by lia⟩;obtain⟨C,rfl⟩:∃C,B=C+1:=⟨B-1,by lia⟩;have hc:((C+1:Nat):Int)-1=(C:Int):=by lia
  by_cases z:C=0
  .subst z
   refine⟨t',A,by lia,.inl rfl,?_⟩;have e1':=e1.symm;simp[aL,pE,cm,lz,aJ,e1']
  .have g:=uo A C
   have pu:=key C (-(e:Int));refine⟨t',m8 A C (((vl A C:Int) + -(e:Int))%8).toNat,by lia,.inr ⟨(((vl A C:Int) + -(e:Int))%8).toNat,by lia,by unfold hb;lia,by unfold hb;rw[q];rfl⟩,?_⟩;have z':0<C:=by lia
   have e1':=e1.symm;generalize hB:((C+1:Nat):Int)=Bi at q' hc ⊢;simp[aL,pE,cm,lz,aJ,e1',q',hc,z',iR,gM,g,esl,pu,mf,negD]
structure Tg (N:Nat) (ts:List Nat) (n:Nat):Prop where
 nd:ts.Nodup
 ln:ts.length<=n
 ok:∀t∈ts,0<t/\t<2^N
theorem J9(C SH HV:Sl)(ones Ni t cell B p e q3:Int)(es es':List (aw×D))(ts:List D)(t':Int)(y9 y10:Sl)(b1 b2:Bool)
  (hp:kF (.int 1) (.int Ni)=some (.int p)) (hd:iz (.int cell) (.int 3)=some (.int q3)) (hB:bA (.int q3) (.int p)=some (.int B))
  (c1:(ob (o2 (o2 (oV 8) (oC (.int 3)) bA) (oC (.int 0)) um)) [C,SH,HV,.fz (.int ones),.fz (.int Ni),.fz (.int t),.od es,.ow ts,.fz (.int cell),.fz (.int B),y10]=some b1)
  (c2:(ob (o2 (rB 7) (oV 3) iy)) [C,SH,HV,.fz (.int ones),.fz (.int Ni),.fz (.int t),.od es,.ow ts,.fz (.int cell),.fz (.int B),y10]=some b2)
  (hb:(b1||b2)=true) (he:(o2 (o2 (oV 8) (oC (.int 96)) iz) (oC (.int 8)) bA) [C,SH,HV,.fz (.int ones),.fz (.int Ni),.fz (.int t),.od es,.ow ts,.fz (.int cell),.fz (.int B),y10]=some (.int e)) (ha:aL (.int t) es [.int B,.int e]=some (.int t',es')):
  bJ [C,SH,HV,.fz (.int ones),.fz (.int Ni),.fz (.int t),.od es,.ow ts,.fz (.int cell),y9,y10]=some (.nx,[C,SH,HV,.fz (.int ones),.fz (.int Ni),.fz (.int t'),.od es',.ow ts,.fz (.int cell),.fz (.int B),y10]):=by
 unfold bJ;refine(bN (δ':=[C,SH,HV,.fz (.int ones),.fz (.int Ni),.fz (.int t),.od es,.ow ts,.fz (.int cell),.fz (.int B),y10]) ?_).trans ((oi ?_).trans ?_)
 .simp only[aK,o2,oV,oC]
  show(Option.bind (Option.bind (iz (.int cell) (.int 3)) λx=>Option.bind (kF (.int 1) (.int Ni)) λy=>bA x y) _)=_
  rw[hd,hp];show(Option.bind (bA (.int q3) (.int p)) _)=_;rw[hB];rfl
 .cases b1 with
  |true=>exact HD c1
  |false=>
   rw[DJ c1,c2];simpa using hb
 .unfold yU
  simp only[af,ap,he,oV,Option.bind_some];show(Option.bind (aL (.int t) es [.int B,.int e]) _)=_;rw[ha];rfl
theorem J8(C SH HV:Sl)(ones Ni t cell p q3:Int)(B:Nat)(es:List (aw×D))(ts:List Nat)(y9 y10:Sl)(hl:ts.length<=1000)
  (hp:kF (.int 1) (.int Ni)=some (.int p)) (hd:iz (.int cell) (.int 3)=some (.int q3)) (hB:bA (.int q3) (.int p)=some (.int (B:Int)))
  (c1:(ob (o2 (o2 (oV 8) (oC (.int 3)) bA) (oC (.int 0)) um)) [C,SH,HV,.fz (.int ones),.fz (.int Ni),.fz (.int t),.od es,.ow (ag ts),.fz (.int cell),.fz (.int (B:Int)),y10]=some false)
  (c2:(ob (o2 (rB 7) (oV 3) iy)) [C,SH,HV,.fz (.int ones),.fz (.int Ni),.fz (.int t),.od es,.ow (ag ts),.fz (.int cell),.fz (.int (B:Int)),y10]=some false):
  bJ [C,SH,HV,.fz (.int ones),.fz (.int Ni),.fz (.int t),.od es,.ow (ag ts),.fz (.int cell),y9,y10]=some (.nx,[C,SH,HV,.fz (.int ones),.fz (.int Ni),.fz (.int t),.od es,.ow (ag (if 0<B/\B∉ts then ts++[B]else ts)),.fz (.int cell),.fz (.int (B:Int)),y10]):=by
 unfold bJ;refine(bN (δ':=[C,SH,HV,.fz (.int ones),.fz (.int Ni),.fz (.int t),.od es,.ow (ag ts),.fz (.int cell),.fz (.int (B:Int)),y10]) ?_).trans ((jk ?_).trans ?_)
 .simp only[aK,o2,oV,oC]
  show(Option.bind (Option.bind (iz (.int cell) (.int 3)) λx=>Option.bind (kF (.int 1) (.int Ni)) λy=>bA x y) _)=_
  rw[hd,hp];show(Option.bind (bA (.int q3) (.int p)) _)=_;rw[hB];rfl
 .rw[DJ c1,c2]
 .have ht:pN 7 (Fs (ob (o2 (oV 9) (oC (.int 0)) um)) (ob (o2 (oV 9) (oV 7) (sg true)))) [C,SH,HV,.fz (.int ones),.fz (.int Ni),.fz (.int t),.od es,.ow (ag ts),.fz (.int cell),.fz (.int (B:Int)),y10]=some (decide (0<B/\B∉ts)):=by
   have i:=At ts B;have i':sg true (.int (B:Int)) (.list (ag ts))=some (.bool (!decide (B∈ts))):=by
    have:sg true (.int (B:Int)) (.list (ag ts))=(sg false (.int (B:Int)) (.list (ag ts))).bind xm:=by
     show(if _ then some (.bool (if true=true then _ else _))else none)=Option.bind (if _ then some (.bool (if false=true then _ else _))else none) xm;split<;>rfl
    rw[this,i];rfl
   have hd:ux 7 [C,SH,HV,.fz (.int ones),.fz (.int Ni),.fz (.int t),.od es,.ow (ag ts),.fz (.int cell),.fz (.int (B:Int)),y10]=some [vd C,vd SH,vd HV,.fz (.int ones),.fz (.int Ni),.fz (.int t),.un,.fz (.list (ag ts)),.fz (.int cell),.fz (.int (B:Int)),vd y10]:=rfl;unfold pN;rw[hd,Option.bind_some];by_cases h0:0<B
   .by_cases h1:B∈ts<;>simp[h0,h1,i']
   .simp[h0]
  by_cases h:0<B/\B∉ts
  .rw[if_pos h]
   refine(oi (by rw[ht,decide_eq_true h])).trans ?_;have hl':(ag ts).length<sizeLine:=by rw[bG,sizeLine_eq];lia
   rw[oA];simp[hl'];rfl
  .rw[if_neg h]
   exact(jk (by rw[ht,decide_eq_false h])).trans rfl
theorem Ag.more{N:Nat}{A:As}{n:Nat}(a:Ag N A n):Ag N A (n+1):=⟨a.nd,by have:=a.ln;lia,a.ks,a.v8⟩
theorem Tg.more{N:Nat}{ts:List Nat}{n:Nat}(a:Tg N ts n):Tg N ts (n+1):=⟨a.nd,by have:=a.ln;lia,a.ok⟩
theorem CG(C SH HV:Sl)(ones:Int){N n:Nat}(hN:N<=5)(t:Nat)(A:As)(ts:List Nat)(cell:Int)(y9 y10:Sl)(ht:t<8)(a:Ag N A n)(g:Tg N ts n)(hn:n<=500):
  ∃(t':Nat) (A':As) (ts':List Nat) (y9':Sl),t'<8/\Ag N A' (n+1)/\Tg N ts' (n+1)/\bJ [C,SH,HV,.fz (.int ones),.fz (.int (N:Int)),.fz (.int (t:Int)),.od (de A),.ow (ag ts),.fz (.int cell),y9,y10]=some (.nx,[C,SH,HV,.fz (.int ones),.fz (.int (N:Int)),.fz (.int (t':Int)),.od (de A'),.ow (ag ts'),.fz (.int cell),y9',y10]):=by
 have pos:0<2^N:=Nat.two_pow_pos N;obtain⟨B,hB⟩:∃B:Nat,(B:Int)=cell/3%((2^N:Nat):Int):=⟨(cell/3%((2^N:Nat):Int)).toNat,Int.toNat_of_nonneg (Int.emod_nonneg _ (by lia))⟩;have Bl:B<2^N:=by
  have:=Int.emod_lt_of_pos (cell/3) (show(0:Int)<((2^N:Nat):Int) by lia)
  lia
 obtain⟨e,he⟩:∃e:Nat,(e:Int)=cell/96%8:=⟨(cell/96%8).toNat,by lia⟩;have hp:=q9 (k:=N) (by lia);have hd:iz (.int cell) (.int 3)=some (.int (cell/3)):=by simp[iz]
 have hm:bA (.int (cell/3)) (.int ((2^N:Nat):Int))=some (.int (B:Int)):=by
  rw[rH (by lia),hB]
 have c1:(ob (o2 (o2 (oV 8) (oC (.int 3)) bA) (oC (.int 0)) um)) [C,SH,HV,.fz (.int ones),.fz (.int (N:Int)),.fz (.int (t:Int)),.od (de A),.ow (ag ts),.fz (.int cell),.fz (.int (B:Int)),y10]=some (decide (0<cell%3)):=by simp
 have c2:(ob (o2 (rB 7) (oV 3) iy)) [C,SH,HV,.fz (.int ones),.fz (.int (N:Int)),.fz (.int (t:Int)),.od (de A),.ow (ag ts),.fz (.int cell),.fz (.int (B:Int)),y10]=some (((ts.length:Int)==ones)):=by simp[bG]
 by_cases h:(decide (0<cell%3)||((ts.length:Int)==ones))=true
 .obtain⟨t',A',h1,h2,h3⟩:=Bo t A B e (by have:=a.ln;lia) ht (by lia)
  refine⟨t',A',ts,.fz (.int (B:Int)),h1,?_,g.more,J9 C SH HV ones N t cell B _ e (cell/3) (de A) (de A') (ag ts) t' y9 y10 _ _ hp hd hm c1 c2 h ?_ h3⟩
  .rcases h2 with rfl|⟨v,hv,h2,rfl⟩
   .exact a.more
   .exact a.put ⟨h2,by unfold hb;lia,by unfold hb;lia⟩ hv
  .have he':=he.symm
   simp[he']
 .have h':decide (0<cell%3)=false/\((ts.length:Int)==ones)=false:=by
   cases q1:decide (0<cell%3)<;>cases q2:((ts.length:Int)==ones)<;>simp_all
  refine⟨t,A,_,.fz (.int (B:Int)),ht,a.more,?_,J8 C SH HV ones N t cell _ (cell/3) B (de A) ts y9 y10 (by have:=g.ln;lia) hp hd hm (c1.trans (by rw[h'.1])) (c2.trans (by rw[h'.2]))⟩;split
  .rename_i q
   refine⟨List.nodup_append.mpr ⟨g.nd,by simp,λx hx y hy=>?_⟩,by have:=g.ln;simp;lia,λx hx=>?_⟩
   .rcases List.mem_singleton.mp hy with rfl
    exact λz=>q.2 (z ▸ hx)
   .rcases List.mem_append.mp hx with hx|hx
    .exact g.ok x hx
    .rcases List.mem_singleton.mp hx with rfl
     exact⟨q.1,Bl⟩
  .exact g.more
theorem vv(C SH HV:Sl)(ones:Int){N:Nat}(hN:N<=5)(y10:Sl):∀(cs:List Int) (n t:Nat) (A:As) (ts:List Nat) (y8 y9:Sl),t<8->Ag N A n->Tg N ts n->n+cs.length<=500 ->
  ∃(t':Nat) (A':As) (ts':List Nat) (y8' y9':Sl),t'<8/\Ag N A' (n+cs.length)/\Tg N ts' (n+cs.length)/\loop (gN 8) bJ (cs.map .int) [C,SH,HV,.fz (.int ones),.fz (.int (N:Int)),.fz (.int (t:Int)),.od (de A),.ow (ag ts),y8,y9,y10]=some (.nx,[C,SH,HV,.fz (.int ones),.fz (.int (N:Int)),.fz (.int (t':Int)),.od (de A'),.ow (ag ts'),y8',y9',y10])
 |[],n,t,A,ts,y8,y9,h1,h2,h3,_=>⟨t,A,ts,y8,y9,h1,h2,h3,rfl⟩
 |c::cs,n,t,A,ts,y8,y9,h1,h2,h3,hl=>by
  rw[length_cons]at hl;obtain⟨t1,A1,ts1,y1,g1,g2,g3,e1⟩:=CG C SH HV ones hN t A ts c y9 y10 h1 h2 h3 (by lia);obtain⟨t2,A2,ts2,y8',y2,k1,k2,k3,e2⟩:=vv C SH HV ones hN y10 cs (n+1) t1 A1 ts1 (.fz (.int c)) y1 g1 g2 g3 (by lia);have en:n+1+cs.length=n+(c::cs).length:=by rw[length_cons];lia
  refine⟨t2,A2,ts2,y8',y2,k1,en ▸ k2,en ▸ k3,?_⟩;show((gN 8 (.int c) [C,SH,HV,.fz (.int ones),.fz (.int (N:Int)),.fz (.int (t:Int)),.od (de A),.ow (ag ts),y8,y9,y10]).bind λδ1=>(bJ δ1).bind _)=_
  simp only[gN,Option.bind_some,set_cons_succ,set_cons_zero];rw[e1];exact e2
def q8(A:As)(rs:List Nat):As:=(rs.filter λk=>decide (0<vl A k)).map λk=>(k,vl A k)
theorem JN(A:As)(nd:(ak A).Nodup)(hl:A.length<64)(x0 x1 x2 x3 x4 x5 x7 x8 x9 x10:Sl):∃rs:List Nat,rs.Perm (ak A)/\rs.Pairwise (· < ·)/\gQ [x0,x1,x2,x3,x4,x5,.fz (.dict (gE (lI A))),x7,x8,x9,x10]=some (.list ((q8 A rs).map pD)):=by
 obtain⟨rs,e,p,pw⟩:=kY (ak A) nd;refine⟨rs,p,pw,?_⟩;have hln:rs.length<64:=by rw[p.length_eq];unfold ak;rw[length_map];exact hl
 have so:tF (.dict (gE (lI A)))=some (.list (rs.map λk:Nat=>PyData.int (k:Int))):=by
  show(kr (gE (lI A))).bind _=_;rw[fR,Option.bind_some,DO,lZ,Option.bind_some,if_pos (by rw[length_map];unfold ak;rw[length_map];exact hl),e,map_map];rfl
 have gf:∀k∈rs,vP (.dict (gE (lI A))) (.int (k:Int))=some (.int (vl A k:Int)):=λk hk=>by
  show(kr (gE (lI A))).bind _=_;rw[fR,Option.bind_some];show(mx (lI A) (.inl (k:Int))).map PyData.int=_;rw[CT (p.mem_iff.mp hk)];rfl
 have e2:(q8 A rs).map pD=(rs.filter λk=>decide (0<vl A k)).map λk=>pD (k,vl A k):=by unfold q8;rw[map_map];rfl
 rw[e2];unfold gQ;refine bh (xs:=rs) (h:=λk:Nat=>PyData.int (k:Int)) (by simp[so]) (by lia) (λk hk=>?_) λk hk _=>?_
 .have g:=gf k hk
  by_cases h2:0<vl A k
  .simp[bp,g,h2]
  .simp[bp,g,h2]
 .have g:=gf k hk
  simp[bp,g,pD]
theorem IF(A:As)(x0 x1 x2 x3 x4 x5 x7 x8 x9 x10:Sl):uy 6 [x0,x1,x2,x3,x4,x5,.od (de A),x7,x8,x9,x10]=[x0,x1,x2,x3,x4,x5,.fz (.dict (gE (lI A))),x7,x8,x9,x10]:=by
 have h:=vH A;show(match oN (de A)with|some l'=>_|none=>_)=_
 rw[h];rfl
theorem Ey(cs:List Int)(hc:cs.length<=63)(w l:Nat)(w1:1<=w)(w3:w<=3)(l2:l<=2)(hN:2*w+l+1<=5)(hv ones:Int)(v1:-1000<=hv)(v2:hv<=1000):
  ∃(c:Nat) (ps:As) (ts:List Nat),Sm w l hv c ps ts [] 0 31/\(∀p∈ps,p.1<2^(2*w+l+1))/\(∀t∈ts,t<2^(2*w+l+1))/\dt [.list (cs.map .int),.tuple [.int w,.int l],.int hv,.int ones]=some (oneD w l hv c (upI ps) ts []):=by
 obtain⟨t,A,ts,y8,y9,h1,h2,h3,e⟩:=vv (.fz (.list (cs.map .int))) (.fz (.tuple [.int w,.int l])) (.fz (.int hv)) ones hN .un cs 0 0 [] [] .un .un (by decide) ⟨.nil,Nat.le_refl _,(λ_ h=>nomatch h),λk=>by simp[vl]⟩ ⟨.nil,Nat.le_refl _,λ_ h=>nomatch h⟩ (by lia)
 rw[Nat.zero_add]at h2 h3;have al:=h2.ln;have tl:=h3.ln;obtain⟨rs,p,pw,ep⟩:=JN A h2.nd (by lia) (.fz (.list (cs.map .int))) (.fz (.tuple [.int w,.int l])) (.fz (.int hv)) (.fz (.int ones)) (.fz (.int ((2*w+l+1:Nat):Int))) (.fz (.int (t:Int))) (.ow (ag ts)) y8 y9 .un;obtain⟨ss,p2,pw2,es⟩:=n6 h3.nd (by lia);have big:(2:Nat)^(2*w+l+1)<=iM:=pow_le_pow_right (by decide) (by lia);have rk:∀q∈q8 A rs,q.1∈ak A/\0<vl A q.1/\q.2=vl A q.1:=λq hq=>by
  obtain⟨k,hk,rfl⟩:=List.mem_map.mp hq;have:=List.mem_filter.mp hk;exact⟨p.mem_iff.mp this.1,by simpa using this.2,rfl⟩
 have kl:(ak A).length=A.length:=by unfold ak;rw[length_map]
 have n32:(2:Nat)^(2*w+l+1)<=2^5:=pow_le_pow_right (by decide) hN;have pl:(q8 A rs).length<=31:=by
  have:=vq (rs.filter λk=>decide (0<vl A k)) (range' 1 31) ((jp pw).sublist filter_sublist) λx hx=>by
   have k:=h2.ks x (p.mem_iff.mp (List.mem_filter.mp hx).1);exact List.mem_range'_1.mpr ⟨by lia,by lia⟩
  rw[List.length_range']at this;unfold q8;rw[length_map];exact this
 have sl:ss.length<=31:=by
  have:=vq ss (range' 1 31) (jp pw2) λx hx=>by
   have k:=h3.ok x (p2.mem_iff.mp hx);exact List.mem_range'_1.mpr ⟨by lia,by lia⟩
  rw[List.length_range']at this;exact this
 refine⟨t,q8 A rs,ss,⟨w1,w3,l2,v1,v2,h1,?_,λq hq=>?_,by lia,pw2,λx hx=>?_,sl,Nat.le_refl _,.nil,λ_ h=>nomatch h⟩,λq hq=>(h2.ks _ (rk q hq).1).2.2,λx hx=>(h3.ok x (p2.mem_iff.mp hx)).2,?_⟩
 .have:ak (q8 A rs)=rs.filter λk=>decide (0<vl A k):=by
   unfold ak q8;rw[map_map];exact map_id' _
  rw[this];exact pw.sublist filter_sublist
 .obtain⟨g1,g2,g3⟩:=rk q hq
  have k:=h2.ks _ g1;have v:=h2.v8 q.1;exact⟨k.1,k.2.1,lt_of_lt_of_le k.2.2 big,by lia,by lia⟩
 .have:=h3.ok x (p2.mem_iff.mp hx)
  exact⟨this.1,lt_of_lt_of_le this.2 big⟩
 .have hd:=IF A (.fz (.list (cs.map .int))) (.fz (.tuple [.int w,.int l])) (.fz (.int hv)) (.fz (.int ones)) (.fz (.int ((2*w+l+1:Nat):Int))) (.fz (.int (t:Int))) (.ow (ag ts)) y8 y9 .un
  have mw:=zS w;have sz:2*(w:Int)+(l:Int)+1=((2*w+l+1:Nat):Int):=by lia
  have pz:((q8 A rs).map pD).length<=sizeLine:=by rw[length_map,sizeLine_eq];lia
  refine kK rfl (δ':=[.fz (.list (cs.map .int)),.fz (.tuple [.int w,.int l]),.fz (.int hv),.fz (.int ones),.fz (.int ((2*w+l+1:Nat):Int)),.fz (.int (t:Int)),.fz (.dict (gE (lI A))),.fz (.list (ag ts)),y8,y9,.fz (.tuple ((q8 A rs).map pD))]) ?_;unfold i7;refine(bN (δ':=[.fz (.list (cs.map .int)),.fz (.tuple [.int w,.int l]),.fz (.int hv),.fz (.int ones),.fz (.int ((2*w+l+1:Nat):Int)),.un,.un,.un,.un,.un,.un]) ?_).trans ((bN (δ':=[.fz (.list (cs.map .int)),.fz (.tuple [.int w,.int l]),.fz (.int hv),.fz (.int ones),.fz (.int ((2*w+l+1:Nat):Int)),.fz (.int ((0:Nat):Int)),.un,.un,.un,.un,.un]) rfl).trans ((bN (δ':=[.fz (.list (cs.map .int)),.fz (.tuple [.int w,.int l]),.fz (.int hv),.fz (.int ones),.fz (.int ((2*w+l+1:Nat):Int)),.fz (.int ((0:Nat):Int)),.od [],.un,.un,.un,.un]) rfl).trans ((bN (δ':=[.fz (.list (cs.map .int)),.fz (.tuple [.int w,.int l]),.fz (.int hv),.fz (.int ones),.fz (.int ((2*w+l+1:Nat):Int)),.fz (.int ((0:Nat):Int)),.od [],.ow [],.un,.un,.un]) rfl).trans ((bN e).trans ((bN (δ':=[.fz (.list (cs.map .int)),.fz (.tuple [.int w,.int l]),.fz (.int hv),.fz (.int ones),.fz (.int ((2*w+l+1:Nat):Int)),.fz (.int (t:Int)),.fz (.dict (gE (lI A))),.ow (ag ts),y8,y9,.fz (.tuple ((q8 A rs).map pD))]) ?_).trans ?_)))))
  .have e4:(o2 (o2 (o2 (oC (.int 2)) (o2 (oV 1) (oC (.int 0)) aI) gC) (o2 (oV 1) (oC (.int 1)) aI) cG) (oC (.int 1)) cG) (aJ gy [.list (cs.map .int),.tuple [.int w,.int l],.int hv,.int ones])=some (.int ((2*w+l+1:Nat):Int)):=by
    show(((gC (.int 2) (.int (w:Int))).bind λx=>cG x (.int (l:Int))).bind λx=>cG x (.int 1))=_
    rw[mw,<-sz];rfl
   unfold aK;rw[e4];rfl
  .show aK 10 _ (uy 6 _)=_
   rw[hd];simp only[aK,VL.os,af,ap,ep,Option.bind_some];rfl
  .show bi _ (nE 7 _)=_
   rw[show nE 7 [.fz (.list (cs.map .int)),.fz (.tuple [.int w,.int l]),.fz (.int hv),.fz (.int ones),.fz (.int ((2*w+l+1:Nat):Int)),.fz (.int (t:Int)),.fz (.dict (gE (lI A))),.ow (ag ts),y8,y9,.fz (.tuple ((q8 A rs).map pD))]=[.fz (.list (cs.map .int)),.fz (.tuple [.int w,.int l]),.fz (.int hv),.fz (.int ones),.fz (.int ((2*w+l+1:Nat):Int)),.fz (.int (t:Int)),.fz (.dict (gE (lI A))),.fz (.list (ag ts)),y8,y9,.fz (.tuple ((q8 A rs).map pD))]from rfl];have tq:di [.list (ag ss)]=some (.tuple (ag ss)):=rfl;have up:(upI (q8 A rs)).map tS=(q8 A rs).map pD:=qF _;unfold oneD;rw[up];have es':(o1 (oV 7) iE) [.fz (.list (cs.map .int)),.fz (.tuple [.int w,.int l]),.fz (.int hv),.fz (.int ones),.fz (.int ((2*w+l+1:Nat):Int)),.fz (.int (t:Int)),.fz (.dict (gE (lI A))),.fz (.list (ag ts)),y8,y9,.fz (.tuple ((q8 A rs).map pD))]=some (.list (ag ss)):=es;unfold bi VL.os;simp only[af,ap,es',Option.bind_some,tq];rfl
theorem J7(S SH C O:D)(f k k2 hv ones:Int)(y4:Sl)(hk:k+10=k2)(h1:f/4%201-100=hv)(h2:1+f/28%4=ones)(sl:EA S (some k) (some k2)=some C)(g1:dt [C,SH,.int hv,.int ones]=some O)(g2:aY [O]=some (.bool true))(g3:bn [O]=some (.bool true)):
  iS [.fz S,.fz (.int f),.fz SH,.fz (.int k),y4]=some (.nx,[.fz S,.fz (.int f),.fz SH,.fz (.int k),.fz O]):=by
 simp[-ay,-dX,d5,gL,iS,hk,h1,h2,sl,g1,g2,g3]
theorem vt{S SH:D}{f:Int}(H:∀(k:Int) (y4:Sl),∃O,iS [.fz S,.fz (.int f),.fz SH,.fz (.int k),y4]=some (.nx,[.fz S,.fz (.int f),.fz SH,.fz (.int k),.fz O])):∀(l:List Int) (y3 y4:Sl),∃z3 z4,loop (gN 3) iS (l.map .int) [.fz S,.fz (.int f),.fz SH,y3,y4]=some (.nx,[.fz S,.fz (.int f),.fz SH,z3,z4])
 |[],y3,y4=>⟨y3,y4,rfl⟩
 |k::l,y3,y4=>by
  obtain⟨O,h⟩:=H k y4;obtain⟨z3,z4,e⟩:=vt H l (.fz (.int k)) (.fz O);refine⟨z3,z4,?_⟩;show((gN 3 (.int k) [.fz S,.fz (.int f),.fz SH,y3,y4]).bind λδ1=>(iS δ1).bind _)=_
  simp only[gN,Option.bind_some,set_cons_succ,set_cons_zero];rw[h];exact e
theorem law_true(ns:List Int)(hl:ns.length<=63):AB [.list (ns.map .int)]=some (.bool true):=by
 obtain⟨f,hf⟩:∃f:Int,(dX (ob (o2 (VL.os (af (oV 0) (ap)) eY) (oC (.int 0)) um)) (aK 1 (o2 (oV 0) (oC (.int 0)) aI)) (iP)) [.fz (.list (ns.map .int)),.fz (.int 0),.un,.un,.un]=some (.nx,[.fz (.list (ns.map .int)),.fz (.int f),.un,.un,.un]):=by
  cases ns with
  |nil=>exact⟨0,by rfl⟩
  |cons a l=>
   refine⟨a,?_⟩;have ln:eY [.list ((a::l).map PyData.int)]=some (.int ((l.length:Int)+1)):=by simp
   have g:(0:Int)<(l.length:Int)+1:=by lia
   have i:aI (.list ((a::l).map PyData.int)) (.int 0)=some (.int a):=by
    show lq (.int a::l.map PyData.int) 0=_;unfold lq;rw[show Br (PyData.int a::l.map PyData.int).length 0=some 0 from FO (n:=(PyData.int a::l.map PyData.int).length) (q:=0) (by simp)];rfl
   generalize PyData.list ((a::l).map PyData.int)=S at *;generalize (l.length:Int)+1=n at *;simp[-ay,-dX,d5,gL,ln,g,i]
 generalize hS:PyData.list (ns.map PyData.int)=S at *;obtain⟨w,l,w1,w3,l2,hN,sh⟩:∃w l:Nat,1<=w/\w<=3/\l<=2/\2*w+l+1<=5/\aK 2 (o2 (VL.os (af (VL.os (af (oC (.int 1)) (af (oC (.int 0)) (ap))) bM) (af (VL.os (af (oC (.int 1)) (af (oC (.int 1)) (ap))) bM) (af (VL.os (af (oC (.int 1)) (af (oC (.int 2)) (ap))) bM) (af (VL.os (af (oC (.int 2)) (af (oC (.int 0)) (ap))) bM) (ap))))) rN) (o2 (oV 1) (oC (.int 4)) bA) aI) [.fz S,.fz (.int f),.un,.un,.un]=some (.nx,[.fz S,.fz (.int f),.fz (.tuple [.int w,.int l]),.un,.un]):=by
  have m4:bA (.int f) (.int 4)=some (.int (f%4)):=rfl;rcases (by lia:f%4=0\/f%4=1\/f%4=2\/f%4=3)with q|q|q|q
  .exact⟨1,0,by decide,by decide,by decide,by decide,by unfold aK o2;simp only[oV,oC];show(Option.bind (Option.bind _ λx=>Option.bind (bA (.int f) (.int 4)) λy=>aI x y) _)=_;rw[m4,q];rfl⟩
  .exact⟨1,1,by decide,by decide,by decide,by decide,by unfold aK o2;simp only[oV,oC];show(Option.bind (Option.bind _ λx=>Option.bind (bA (.int f) (.int 4)) λy=>aI x y) _)=_;rw[m4,q];rfl⟩
  .exact⟨1,2,by decide,by decide,by decide,by decide,by unfold aK o2;simp only[oV,oC];show(Option.bind (Option.bind _ λx=>Option.bind (bA (.int f) (.int 4)) λy=>aI x y) _)=_;rw[m4,q];rfl⟩
  .exact⟨2,0,by decide,by decide,by decide,by decide,by unfold aK o2;simp only[oV,oC];show(Option.bind (Option.bind _ λx=>Option.bind (bA (.int f) (.int 4)) λy=>aI x y) _)=_;rw[m4,q];rfl⟩
 have H:∀(k:Int) (y4:Sl),∃O,iS [.fz S,.fz (.int f),.fz (.tuple [.int w,.int l]),.fz (.int k),y4]=some (.nx,[.fz S,.fz (.int f),.fz (.tuple [.int w,.int l]),.fz (.int k),.fz O]):=λk y4=>by
  obtain⟨cs,cl,se⟩:=C9 ns (some k) (some (k+10));rw[hS]at se;obtain⟨c,ps,ts,sm,hp,ht,e⟩:=Ey cs (by lia) w l w1 w3 l2 hN (f/4%201-100) (1+f/28%4) (by lia) (by lia);exact⟨_,J7 S _ _ _ f k (k+10) _ _ y4 rfl rfl rfl se e (B8 sm (by decide) hN hp ht) (Hk _ _ _ w l _ _ _ (zH ..) (zG ..) (zF ..) (vn ..) (DH ..) (zS w))⟩
 have ll:eY [S]=some (.int (ns.length:Int)):=by rw[<-hS];simp
 obtain⟨is,e3⟩:∃is:List Int,om [.int 0,.int ((ns.length:Int)+1),.int 10]=some (is.map .int):=by
  refine⟨(List.range (rngN 0 ((ns.length:Int)+1) 10)).map λk:Nat=>0+(k:Int)*10,?_⟩
  rw[wW (by lia),map_map];rfl
 obtain⟨z3,z4,lp⟩:=vt H is .un .un;refine kK rfl (δ':=[.fz S,.fz (.int f),.fz (.tuple [.int w,.int l]),z3,z4]) ?_;unfold Bf;have f3:(oL (af (oC (.int 0)) (af (o2 (VL.os (af (oV 0) (ap)) eY) (oC (.int 1)) cG) (af (oC (.int 10)) (ap)))) om) [.fz S,.fz (.int f),.fz (.tuple [.int w,.int l]),.un,.un]=some (is.map .int):=rE (ds:=[.int 0,.int ((ns.length:Int)+1),.int 10]) (by simp[ll]) e3;rw[bN (δ':=[.fz S,.fz (.int 0),.un,.un,.un]) (by rfl),bN hf,bN sh,bN (δ':=[.fz S,.fz (.int f),.fz (.tuple [.int w,.int l]),z3,z4]) (by
  show(_:Option (List D)).bind _=_;rw[f3];exact lp)]
 rfl
end GN
namespace GN
open PySem PySem.Spec PyProof.Rows L2 VL
open PySem.W (excIn findIn kitOne mg_none_of mroIn tabIn)
structure Txt (mg:Str->Option Value):Prop where
 dict:mg "dict" = none
 tuple:mg "tuple" = none
 sorted:mg "sorted" = none
 sum:mg "sum" = none
 range:mg "range" = none
 len:mg "len" = none
 isinstance:mg "isinstance" = none
 int:mg "int" = none
 bool:mg "bool" = none
 list:mg "list" = none
 set_:mg "set" = none
 ValueError:mg "ValueError" = none
section
variable{P:Program}{w:World}{K:PySem.W.Frag}{mg:Str->Option Value}{base:Heap}
theorem aai:FnScope ik ["turn","turns","pairs"] (aj dB):=⟨rfl,rfl,rfl,by decide+kernel,rfl,by decide+kernel,by decide+kernel⟩
theorem pK{f:Addr}{fd:FuncData}{dV:Value}(F:FunV K "all_added" "all_added" dB f fd dV)(T:Txt mg):FnOk P w K mg base dH 1 f fd ["turn","turns","pairs"] (io K bK):=
 fM (k:=0) (b:=ii) F aai λcdv A outer s H E hr=>(ai (BO 3 aai.nd rfl T.dict (aa 1)) (ai (cq PassesOwn.never rfl (aU (aa 2)) (br 4 aai.nd) (ai (aG 5 aai.nd (au aD (aa 4) ae (λ_ _=>rfl))) (ai (aG 6 aai.nd (au aD (aa 4) ae (λ_ _=>rfl))) (ai (bI (aE (jG hr.units) (ax A5 (aa 5) ae) ae (aC _)) (ai (aG 0 aai.nd (ax dg (aa 0) (aa 6))) (ai (aG 5 aai.nd (ax wf (aa 5) ae)) (ar (aG 6 aai.nd (AN AY (aa 6)))))) bd) (ar (bI (aE (jF hr.units) (aa 5) ae (aC _)) (ar (BM 3 (GA hr.units) (aa 5) (ax cR (ax dg (sy 3 (GA hr.units) (aa 5) ae ⟨rfl,rfl,rfl,rfl⟩) (aa 6)) ae))) bd)))))) (ar (aH (bo (ac (ax cR (aa 0) ae) (ac (cQ iw rfl T.tuple (by decide+kernel) (ac (cb (vars:=["pair"]) (caps:=[]) (by change BlkOk (aj dB).names ik _ _ _;exact⟨rfl,by decide+kernel,by decide+kernel,by decide+kernel,by decide+kernel⟩) rfl (aU (xT 3 rfl T.sorted)) bW (λ_ _ _ _=>aW (i:=0) (show(["pair"]:List Str).Nodup by decide+kernel) rfl (Or.inl rfl) (.inr rfl)) (λ_ _ _ _=>(aE (jF hr.units) (au aD (aa 0) ae (λ_ _=>rfl)) ae (aC _))) (λ_ _ _ _=>(aa 0))) ah)) ah)))))))
theorem EC:FnScope Ec ["bitset","bit"] (aj u3):=⟨rfl,rfl,rfl,by decide+kernel,rfl,by decide+kernel,by decide+kernel⟩
theorem Fq{f:Addr}{fd:FuncData}{dV:Value}(F:FunV K "has" "has" u3 f fd dV)(T:Txt mg):FnOk P w K mg base dH 1 f fd ["bitset","bit"] (io K dh):=
 fM (k:=0) (b:=Bg) F EC λcdv A outer s H E hr=>(ar (aH (iY (jG hr.units) (ax A5 (ax AW (aa 0) (aa 1)) ae) ae (aC _))))
theorem aaO:FnScope fP ["one","bit","change"] (aj dj):=⟨rfl,rfl,rfl,by decide+kernel,rfl,by decide+kernel,by decide+kernel⟩
theorem tY{f:Addr}{fd:FuncData}{dV:Value}(F:FunV K "shorter" "shorter" dj f fd dV)(T:Txt mg)(aaQ:Cal P w K mg base "all_added" 1 bK [])(aaF:Cal P w K mg base "has" 1 dh []):FnOk P w K mg base dH 2 f fd ["one","bit","change"] (io K cg):=
 fM (k:=1) (b:=kh) F aaO λcdv A outer s H E hr=>(ai (ls 3 aaO.nd (vars:=["pair"]) (caps:=[(1,"bit"),(2,"change")]) (by change BlkOk (aj dj).names fP _ _ _;exact⟨rfl,by decide+kernel,by decide+kernel,by decide+kernel,by decide+kernel⟩) rfl (aU (au aD (aa 0) ae (λ_ _=>rfl))) bW (λ_ _ _ _=>aW (i:=0) (show(["pair","bit","change"]:List Str).Nodup by decide+kernel) rfl (Or.inl rfl) (.inr rfl)) (λ_ _ _ _=>(bE (aB aaF (hr.mono (by decide)) rfl (ac (au aD (aa 0) ae (λ_ _=>rfl)) (ac (aa 1) ah))))) (λ_ _ _ _=>(bo (ac (ax wf (au aD (aa 0) ae (λ_ _=>rfl)) (aa 2)) (ac (au aD (aa 0) ae (λ_ _=>rfl)) ah))))) (ai (ls 4 aaO.nd (vars:=["pair"]) (caps:=[(1,"bit")]) (by change BlkOk (aj dj).names fP _ _ _;exact⟨rfl,by decide+kernel,by decide+kernel,by decide+kernel,by decide+kernel⟩) rfl (aU (au aD (aa 0) ae (λ_ _=>rfl))) bW (λ_ _ _ _=>aW (i:=0) (show(["pair","bit"]:List Str).Nodup by decide+kernel) rfl (Or.inl rfl) (.inr rfl)) (λ_ _ _ _=>(cV (bE (aB aaF (hr.mono (by decide)) rfl (ac (au aD (aa 0) ae (λ_ _=>rfl)) (ac (aa 1) ah)))))) (λ_ _ _ _=>(aa 0))) (ai (aG 5 aaO.nd (aB aaQ (hr.mono (by decide)) rfl (ac (au aD (aa 0) ae (λ_ _=>rfl)) (ac (aa 4) (ac (aa 3) ah))))) (ar (aH (bo (ac (au aD (aa 0) ae (λ_ _=>rfl)) (ac (au aD (aa 0) ae (λ_ _=>rfl)) (ac (au aD (aa 5) ae (λ_ _=>rfl)) (ac (au aD (aa 5) ae (λ_ _=>rfl)) (ac (au aD (aa 0) ae (λ_ _=>rfl)) (ac (cQ iw rfl T.tuple (by decide+kernel) (ac (cb (vars:=["other"]) (caps:=[(1,"bit")]) (by change BlkOk (aj dj).names fP _ _ _;exact⟨rfl,by decide+kernel,by decide+kernel,by decide+kernel,by decide+kernel⟩) rfl (aU (au aD (aa 0) ae (λ_ _=>rfl))) bW (λ_ _ _ _=>aW (i:=0) (show(["other","bit"]:List Str).Nodup by decide+kernel) rfl (Or.inl rfl) (.inr rfl)) (λ_ _ _ _=>(aE (jF hr.units) (aa 0) (aa 1) (aC _))) (λ_ _ _ _=>(aa 0))) ah)) ah))))))))))))
theorem qT:FnScope m7 ["bitset"] (aj fT):=⟨rfl,rfl,rfl,by decide+kernel,rfl,by decide+kernel,by decide+kernel⟩
theorem rp{f:Addr}{fd:FuncData}{dV:Value}(F:FunV K "greatest" "greatest" fT f fd dV)(T:Txt mg):FnOk P w K mg base dH 1 f fd ["bitset"] (io K bj):=
 fM (k:=0) (b:=i6) F qT λcdv A outer s H E hr=>(ar (aH (ax wj (qb (aa 0)) ae)))
theorem aav:FnScope kq ["things","bits_in","product"] (aj fq):=⟨rfl,rfl,rfl,by decide+kernel,rfl,by decide+kernel,by decide+kernel⟩
theorem t7{f:Addr}{fd:FuncData}{dV:Value}(F:FunV K "cleared" "cleared" fq f fd dV)(T:Txt mg)(aaF:Cal P w K mg base "has" 1 dh [])(aap:Cal P w K mg base "greatest" 1 bj [])(G_id:LamC P w K mg base "<lambda> id" 1 sk)(G_xor:LamC P w K mg base "<lambda> xor" 1 pX):FnOk P w K mg base dH 2 f fd ["things","bits_in","product"] (io K ci):=
 fM (k:=1) (b:=kj) F aav λcdv A outer s H E hr=>(ai (jR 3 aav.nd ah) (ai (cq PassesOwn.never rfl (aU (aa 0)) (br 4 aav.nd) (ai (lr 3 (cq PassesOwn.never rfl (aU (aa 3)) (br 5 aav.nd) (ar (bI (bE (aB aaF (hr.mono (by decide)) rfl (ac (eA 1 (k:=1) (gh (by decide) G_id iV) (hr.mono (by decide)) (ac (aa 4) ah)) (ac (aB aap (hr.mono (by decide)) rfl (ac (eA 1 (k:=1) (gh (by decide) G_id iV) (hr.mono (by decide)) (ac (aa 5) ah)) ah)) ah)))) (ar (aG 4 aav.nd (eA 2 (k:=1) (gh (by decide) G_xor iV) (hr.mono (by decide)) (ac (aa 4) (ac (aa 5) ah))))) bd)))) (ar (bI (aE (jF hr.units) (eA 1 (k:=1) (gh (by decide) G_id iV) (hr.mono (by decide)) (ac (aa 4) ah)) ae (aC _)) (ai (aG 6 aav.nd (aB aap (hr.mono (by decide)) rfl (ac (eA 1 (k:=1) (gh (by decide) G_id iV) (hr.mono (by decide)) (ac (aa 4) ah)) ah))) (ai (yz 3 aav.nd (vars:=["other"]) (caps:=[(1,"bits_in"),(2,"product"),(4,"thing"),(6,"top")]) (by change BlkOk (aj fq).names kq _ _ _;exact⟨rfl,by decide+kernel,by decide+kernel,by decide+kernel,by decide+kernel⟩) rfl (aU (aa 3)) bW (λ_ _ _ _=>aW (i:=0) (show(["other","bits_in","product","thing","top"]:List Str).Nodup by decide+kernel) rfl (Or.inl rfl) (.inr rfl)) (λ_ _ _ _=>(F5 (bE (aB aaF (hr.mono (by decide)) rfl (ac (eA 1 (k:=1) (gh (by decide) G_id iV) (hr.mono (by decide)) (ac (aa 0) ah)) (ac (aa 4) ah)))) (eA 2 (k:=1) (gh (by decide) G_xor iV) (hr.mono (by decide)) (ac (aa 0) (ac (aa 3) ah))) (aa 0)))) (ar (lw 3 (aa 4))))) bd)))) (ar (lr 3 (aH (aa 3))))))
theorem wU:FnScope m6 ["turns","bit"] (aj gK):=⟨rfl,rfl,rfl,by decide+kernel,rfl,by decide+kernel,by decide+kernel⟩
theorem xk{f:Addr}{fd:FuncData}{dV:Value}(F:FunV K "having" "having" gK f fd dV)(T:Txt mg)(aaF:Cal P w K mg base "has" 1 dh []):FnOk P w K mg base dH 2 f fd ["turns","bit"] (io K cF):=
 fM (k:=1) (b:=mX) F wU λcdv A outer s H E hr=>(ar (aH (cb (vars:=["pair"]) (caps:=[(1,"bit")]) (by change BlkOk (aj gK).names m6 _ _ _;exact⟨rfl,by decide+kernel,by decide+kernel,by decide+kernel,by decide+kernel⟩) rfl (aU (aa 0)) bW (λ_ _ _ _=>aW (i:=0) (show(["pair","bit"]:List Str).Nodup by decide+kernel) rfl (Or.inl rfl) (.inr rfl)) (λ_ _ _ _=>(bE (aB aaF (hr.mono (by decide)) rfl (ac (au aD (aa 0) ae (λ_ _=>rfl)) (ac (aa 1) ah))))) (λ_ _ _ _=>(aa 0)))))
theorem kG:FnScope eK ["turns"] (aj bX):=⟨rfl,rfl,rfl,by decide+kernel,rfl,by decide+kernel,by decide+kernel⟩
theorem kI{f:Addr}{fd:FuncData}{dV:Value}(F:FunV K "sum_of_turns" "sum_of_turns" bX f fd dV)(T:Txt mg):FnOk P w K mg base dH 1 f fd ["turns"] (io K aR):=
 fM (k:=0) (b:=eI) F kG λcdv A outer s H E hr=>(ar (aH (bH (IH rfl) rfl T.sum (by decide+kernel) (ac (v9 (vars:=["pair"]) (caps:=[]) (by change BlkOk (aj bX).names eK _ _ _;exact⟨rfl,by decide+kernel,by decide+kernel,by decide+kernel,by decide+kernel⟩) rfl (aU (aa 0)) bW (λ_ _ _ _=>aW (i:=0) (show(["pair"]:List Str).Nodup by decide+kernel) rfl (Or.inl rfl) (.inr rfl)) (λ_ _ _ _=>(au aD (aa 0) ae (λ_ _=>rfl)))) ah))))
theorem aaz:FnScope jL ["turns"] (aj dN):=⟨rfl,rfl,rfl,by decide+kernel,rfl,by decide+kernel,by decide+kernel⟩
theorem nh{f:Addr}{fd:FuncData}{dV:Value}(F:FunV K "oddly_held" "oddly_held" dN f fd dV)(T:Txt mg):FnOk P w K mg base dH 1 f fd ["turns"] (io K bQ):=
 fM (k:=0) (b:=gk) F aaz λcdv A outer s H E hr=>(ai (aG 1 aaz.nd ae) (ai (cq PassesOwn.never rfl (aU (aa 0)) (br 2 aaz.nd) (ar (bI (aE (jG hr.units) (ax cR (au aD (aa 2) ae (λ_ _=>rfl)) ae) ae (aC _)) (ar (aG 1 aaz.nd (ax wf (aa 1) (au aD (aa 2) ae (λ_ _=>rfl))))) bd))) (ar (aH (aa 1)))))
theorem aay:FnScope eW ["bit","turns","bits"] (aj cM):=⟨rfl,rfl,rfl,by decide+kernel,rfl,by decide+kernel,by decide+kernel⟩
theorem pJ{f:Addr}{fd:FuncData}{dV:Value}(F:FunV K "form_with" "form_with" cM f fd dV)(T:Txt mg)(aaP:Cal P w K mg base "having" 2 cF [])(aaG:Cal P w K mg base "oddly_held" 1 bQ [])(aax:Cal P w K mg base "sum_of_turns" 1 aR [])(aaF:Cal P w K mg base "has" 1 dh []):FnOk P w K mg base dH 3 f fd ["bit","turns","bits"] (io K b8):=
 fM (k:=2) (b:=ig) F aay λcdv A outer s H E hr=>(ai (jR 3 aay.nd (ac (bo (ac (bo (ac (aa 0) ah)) (ac (ax cR (aB aax (hr.mono (by decide)) rfl (ac (aa 1) ah)) ae) ah))) ah)) (ai (cq PassesOwn.never rfl (fH rfl T.range (ac (bH gB rfl T.len (by decide+kernel) (ac (aa 2) ah)) ah)) (br 4 aay.nd) (ai (aG 5 aay.nd (aB aaP (hr.mono (by decide)) rfl (ac (aa 1) (ac (au aD (aa 2) (aa 4) (λ_ _=>rfl)) ah)))) (ai (lw 3 (bo (ac (bo (ac (aa 0) (ac (au aD (aa 2) (aa 4) (λ_ _=>rfl)) ah))) (ac (ax cR (ax i3 (AN AY ae) (aB aax (hr.mono (by decide)) rfl (ac (aa 5) ah))) ae) ah)))) (ai (aG 6 aay.nd (aB aaG (hr.mono (by decide)) rfl (ac (aa 5) ah))) (ar (uU 3 (cb (vars:=["third"]) (caps:=[(0,"bit"),(2,"bits"),(4,"k"),(6,"held")]) (by change BlkOk (aj cM).names eW _ _ _;exact⟨rfl,by decide+kernel,by decide+kernel,by decide+kernel,by decide+kernel⟩) rfl (aU (mH (aa 2) (lg (ax dg (aa 4) ae)) vj)) bW (λ_ _ _ _=>aW (i:=0) (show(["third","bit","bits","k","held"]:List Str).Nodup by decide+kernel) rfl (Or.inl rfl) (.inr rfl)) (λ_ _ _ _=>(bE (aB aaF (hr.mono (by decide)) rfl (ac (aa 4) (ac (aa 0) ah))))) (λ_ _ _ _=>(bo (ac (bo (ac (aa 1) (ac (au aD (aa 2) (aa 3) (λ_ _=>rfl)) (ac (aa 0) ah)))) (ac ae ah))))))))))) (ar (lr 3 (aH (cb (vars:=["pair"]) (caps:=[]) (by change BlkOk (aj cM).names eW _ _ _;exact⟨rfl,by decide+kernel,by decide+kernel,by decide+kernel,by decide+kernel⟩) rfl (aU (aa 3)) bW (λ_ _ _ _=>aW (i:=0) (show(["pair"]:List Str).Nodup by decide+kernel) rfl (Or.inl rfl) (.inr rfl)) (λ_ _ _ _=>(aE (jF hr.units) (au aD (aa 0) ae (λ_ _=>rfl)) ae (aC _))) (λ_ _ _ _=>(aa 0))))))))
theorem aaw:FnScope kn ["turns"] (aj fm):=⟨rfl,rfl,rfl,by decide+kernel,rfl,by decide+kernel,by decide+kernel⟩
theorem tZ{f:Addr}{fd:FuncData}{dV:Value}(F:FunV K "form_of" "form_of" fm f fd dV)(T:Txt mg)(aaF:Cal P w K mg base "has" 1 dh [])(aaR:Cal P w K mg base "form_with" 3 b8 [])(aaP:Cal P w K mg base "having" 2 cF []):FnOk P w K mg base dH 4 f fd ["turns"] (io K dq):=
 fM (k:=3) (b:=ki) F aaw λcdv A outer s H E hr=>(ai (aG 1 aaw.nd ae) (ai (cq PassesOwn.never rfl (aU (aa 0)) (br 2 aaw.nd) (ar (aG 1 aaw.nd (ax Kw (aa 1) (au aD (aa 2) ae (λ_ _=>rfl)))))) (ai (ls 3 aaw.nd (vars:=["bit"]) (caps:=[(1,"held")]) (by change BlkOk (aj fm).names kn _ _ _;exact⟨rfl,by decide+kernel,by decide+kernel,by decide+kernel,by decide+kernel⟩) rfl (fH rfl T.range (ac (qb (aa 1)) ah)) bW (λ_ _ _ _=>aW (i:=0) (show(["bit","held"]:List Str).Nodup by decide+kernel) rfl (Or.inl rfl) (.inr rfl)) (λ_ _ _ _=>(bE (aB aaF (hr.mono (by decide)) rfl (ac (aa 1) (ac (aa 0) ah))))) (λ_ _ _ _=>(aa 0))) (ai (jR 4 aaw.nd ah) (ai (cq PassesOwn.never rfl (fH rfl T.range (ac (bH gB rfl T.len (by decide+kernel) (ac (aa 3) ah)) ah)) (br 5 aaw.nd) (ar (uU 4 (aB aaR (hr.mono (by decide)) rfl (ac (au aD (aa 3) (aa 5) (λ_ _=>rfl)) (ac (aB aaP (hr.mono (by decide)) rfl (ac (aa 0) (ac (au aD (aa 3) (aa 5) (λ_ _=>rfl)) ah))) (ac (mH (aa 3) (lg (ax dg (aa 5) ae)) vj) ah))))))) (ar (lr 4 (aH (cQ iw rfl T.tuple (by decide+kernel) (ac (aa 4) ah))))))))))
theorem aar:FnScope eZ ["one"] (aj cz):=⟨rfl,rfl,rfl,by decide+kernel,rfl,by decide+kernel,by decide+kernel⟩
theorem kH{f:Addr}{fd:FuncData}{dV:Value}(F:FunV K "settled_sum" "settled_sum" cz f fd dV)(T:Txt mg)(aaH:Cal P w K mg base "cleared" 2 ci [])(aaI:Cal P w K mg base "shorter" 2 cg [])(aaJ:Cal P w K mg base "form_of" 4 dq [])(aap:Cal P w K mg base "greatest" 1 bj [])(E_StillHidden:ExcX K "StillHidden"):FnOk P w K mg base (sS P w) 5 f fd ["one"] (Hb K bT):=
 Ku (k:=4) (fx:=eG) F aar λcdv A outer s H E hr=>(qm (G8 (TV.lift (aE (jF hr.units) (au aD (aa 0) ae (λ_ _=>rfl)) (bo ah) (aC _))) (qm (yt E_StillHidden rfl rfl (EV.lift F3))) IK))
theorem lO{f:Addr}{fd:FuncData}{dV:Value}(F:FunV K "settled_sum" "settled_sum" cz f fd dV)(T:Txt mg){cT tT:Addr}(hns:PySem.W.nsIn K mainGlobals "settled_sum" = some (some (.ref f)))(hT:tabIn K "settled_sum" = some (cT,tT))(aaH:Cal P w K mg base "cleared" 2 ci [])(aaI:Cal P w K mg base "shorter" 2 cg [])(aaJ:Cal P w K mg base "form_of" 4 dq [])(aap:Cal P w K mg base "greatest" 1 bj [])(G_xor:LamC P w K mg base "<lambda> xor" 1 pX)(G_id:LamC P w K mg base "<lambda> id" 1 sk):FnOk P w K mg base dH 5 f fd ["one"] (io K aP):=
 Ix (k:=4) (b:=dA) hns hT F aar λA outer s H E hr=>(ai (bI (aE (jF hr.units) (au aD (aa 0) ae (λ_ _=>rfl)) (bo ah) (aC _)) (ar G9) bd) (ai (aG 1 aar.nd (sv rfl T.sorted (aB aaH (hr.mono (by decide)) rfl (ac (au aD (aa 0) ae (λ_ _=>rfl)) (ac (AQ .id G_id.ns (by decide) hT rfl) (ac (AQ .xor G_xor.ns (by decide) hT rfl) ah)))))) (ai (bI (aE Ga ae (aa 1) (by with_unfolding_all rfl)) (ar (aH iW)) bd) (ai (cq PassesOwn.never rfl (aU (aa 1)) (br 2 aar.nd) (ar (aG 0 aar.nd (aB aaI (hr.mono (by decide)) rfl (ac (aa 0) (ac (aB aap (hr.mono (by decide)) rfl (ac (aa 2) ah)) (ac (aa 2) ah))))))) (ar (aH (bo (ac (au aD (aa 0) ae (λ_ _=>rfl)) (ac (au aD (aa 0) ae (λ_ _=>rfl)) (ac (au aD (aa 0) ae (λ_ _=>rfl)) (ac (aB aaJ (hr.mono (by decide)) rfl (ac (au aD (aa 0) ae (λ_ _=>rfl)) ah)) (ac (cQ iw rfl T.tuple (by decide+kernel) (ac (aa 1) ah)) ah))))))))))))
theorem nc:FnScope jM ["found"] (aj dO):=⟨rfl,rfl,rfl,by decide+kernel,rfl,by decide+kernel,by decide+kernel⟩
theorem ni{f:Addr}{fd:FuncData}{dV:Value}(F:FunV K "_law_whole" "_law_whole" dO f fd dV)(T:Txt mg):FnOk P w K mg base dH 1 f fd ["found"] (io K aS):=
 fM (k:=0) (b:=gm) F nc λcdv A outer s H E hr=>(ar (aH (mJ (iX (T:="int") rfl T.isinstance rfl T.int (by decide+kernel) (by decide) (by decide) (aa 0)) (uu (F4 (iX (T:="bool") rfl T.isinstance rfl T.bool (by decide+kernel) (by decide) (by decide) (aa 0)))))))
theorem aaA:FnScope jO ["turn","counts","bitset","e"] (aj dQ):=⟨rfl,rfl,rfl,by decide+kernel,rfl,by decide+kernel,by decide+kernel⟩
theorem lN{f:Addr}{fd:FuncData}{dV:Value}(F:FunV K "_law_added" "_law_added" dQ f fd dV)(T:Txt mg):FnOk P w K mg base dH 1 f fd ["turn","counts","bitset","e"] (IZ K aL):=
 Iw (k:=0) (b:=cm) F aaA λcdv A outer s H E hr=>(jJ (yv (aE (jG hr.units) (ax cR (aa 2) ae) ae (aC _)) (jJ (pi 0 aaA.nd (ax dg (aa 0) (aa 3)) (by decide)) (jJ (pi 3 aaA.nd (AN AY (aa 3)) (by decide)) (qo (pi 2 aaA.nd (ax wj (aa 2) ae) (by decide))))) wx) (jJ (yv (aE qd (aa 2) ae (aC _)) (qo (yw (GA hr.units) (aa 2) (ax cR (ax dg (sy 1 (GA hr.units) (aa 2) ae ⟨rfl,rfl,rfl,rfl⟩) (aa 3)) ae))) wx) (qo (BI (ax cR (aa 0) ae)))))
theorem aaj:FnScope gy ["cells","shape","halves","ones"] (aj d4):=⟨rfl,rfl,rfl,by decide+kernel,rfl,by decide+kernel,by decide+kernel⟩
theorem rq{f:Addr}{fd:FuncData}{dV:Value}(F:FunV K "_law_sum" "_law_sum" d4 f fd dV)(T:Txt mg)(B__law_added:CalMV P w K mg base "_law_added" 1 aL):FnOk P w K mg base dH 2 f fd ["cells","shape","halves","ones"] (io K dt):=
 fM (k:=1) (b:=i7) F aaj λcdv A outer s H E hr=>(ai (aG 4 aaj.nd (ax dg (ax dg (ax i3 ae (au aD (aa 1) ae (λ_ _=>rfl))) (au aD (aa 1) ae (λ_ _=>rfl))) ae)) (ai (aG 5 aaj.nd ae) (ai (BN 6 aaj.nd) (ai (jR 7 aaj.nd ah) (ai (cq PassesOwn.never rfl (aU (aa 0)) (br 8 aaj.nd) (ai (aG 9 aaj.nd (ax cR (ax sD (aa 8) ae) (ax AX ae (aa 4)))) (ar (bI (WV.tv (dI (aE qd (ax cR (aa 8) ae) ae (aC _)) (gF (aE (jG hr.units) (C0 7 rfl T.len) (aa 3) (aC _))))) (ar (BK 5 6 B__law_added (hr.mono (by decide)) rfl (by decide) aaj.nd (aa 5) (ac (aa 9) (ac (ax cR (ax sD (aa 8) ae) ae) ah)))) (ar (bI (yo 7 (WV.tv (Ef (aE qd (aa 9) ae (aC _)) (Bw (aE wk (aa 9) (aa 7) (by with_unfolding_all rfl)))))) (ar (lw 7 (aa 9))) bd)))))) (ai (Ex 6 (aG 10 aaj.nd (cQ iw rfl T.tuple (by decide+kernel) (ac (cb (vars:=["bitset"]) (caps:=[(6,"counts")]) (by change BlkOk (aj d4).names gy _ _ _;exact⟨rfl,by decide+kernel,by decide+kernel,by decide+kernel,by decide+kernel⟩) rfl (aU (xS rfl T.sorted (aa 6))) bW (λ_ _ _ _=>aW (i:=0) (show(["bitset","counts"]:List Str).Nodup by decide+kernel) rfl (Or.inl rfl) (.inr rfl)) (λ_ _ _ _=>(aE qd (sx (GA hr.units) (aa 1) (aa 0) (λ_ _=>rfl)) ae (aC _))) (λ_ _ _ _=>(bo (ac (aa 0) (ac (sx (GA hr.units) (aa 1) (aa 0) (λ_ _=>rfl)) ah))))) ah)))) (ar (lr 7 (aH (bo (ac (aa 1) (ac (aa 2) (ac (aa 5) (ac (aa 10) (ac (cQ iw rfl T.tuple (by decide+kernel) (ac (sv rfl T.sorted (aa 7)) ah)) (ac (bo ah) ah))))))))))))))))
theorem aau:FnScope jN ["bitset","bits"] (aj dP):=⟨rfl,rfl,rfl,by decide+kernel,rfl,by decide+kernel,by decide+kernel⟩
theorem nj{f:Addr}{fd:FuncData}{dV:Value}(F:FunV K "_law_value" "_law_value" dP f fd dV)(T:Txt mg):FnOk P w K mg base dH 1 f fd ["bitset","bits"] (io K aX):=
 fM (k:=0) (b:=gq) F aau λcdv A outer s H E hr=>(ai (aG 2 aau.nd (ax A5 (aa 0) (aa 1))) (ai (aG 3 aau.nd ae) (ai (yy (λ_=>wN) PassesOwn.never (aE qd (aa 2) ae (aC _)) (ai (aG 3 aau.nd (ax dg (aa 3) (ax cR (aa 2) ae))) (ar (aG 2 aau.nd (ax sD (aa 2) ae))))) (ar (aH (ax cR (aa 3) ae))))))
theorem aat:FnScope kD ["one","bits"] (aj eQ):=⟨rfl,rfl,rfl,by decide+kernel,rfl,by decide+kernel,by decide+kernel⟩
theorem pL{f:Addr}{fd:FuncData}{dV:Value}(F:FunV K "_law_rest" "_law_rest" eQ f fd dV)(T:Txt mg)(aan:Cal P w K mg base "_law_value" 1 aX []):FnOk P w K mg base dH 2 f fd ["one","bits"] (io K b9):=
 fM (k:=1) (b:=eV) F aat λcdv A outer s H E hr=>(ai (cq PassesOwn.never rfl (aU (au aD (aa 0) ae (λ_ _=>rfl))) (br 2 aat.nd) (ar (bI (aE (jG hr.units) (aB aan (hr.mono (by decide)) rfl (ac (aa 2) (ac (aa 1) ah))) ae (aC _)) (ar (aH iW)) bd))) (ai (aG 3 aat.nd (au aD (aa 0) ae (λ_ _=>rfl))) (ai (cq PassesOwn.never rfl (aU (au aD (aa 0) ae (λ_ _=>rfl))) (Az rfl (jB (br 4 aat.nd) (jB (br 5 aat.nd) vM))) (ar (aG 3 aat.nd (ax dg (aa 3) (ax i3 (aa 5) (aB aan (hr.mono (by decide)) rfl (ac (aa 4) (ac (aa 1) ah)))))))) (ar (aH (ax cR (aa 3) ae))))))
theorem aab:FnScope cu ["told","bits"] (aj bf):=⟨rfl,rfl,rfl,by decide+kernel,rfl,by decide+kernel,by decide+kernel⟩
theorem gR{f:Addr}{fd:FuncData}{dV:Value}(F:FunV K "_law_settled_rest" "_law_settled_rest" bf f fd dV)(T:Txt mg)(aan:Cal P w K mg base "_law_value" 1 aX []):FnOk P w K mg base dH 2 f fd ["told","bits"] (io K aT):=
 fM (k:=1) (b:=bD) F aab λcdv A outer s H E hr=>(ai (cq PassesOwn.never rfl (aU (au aD (aa 0) ae (λ_ _=>rfl))) (br 2 aab.nd) (ar (bI (aE (jG hr.units) (aB aan (hr.mono (by decide)) rfl (ac (aa 2) (ac (aa 1) ah))) ae (aC _)) (ar (aH iW)) bd))) (ai (aG 3 aab.nd (au aD (aa 0) ae (λ_ _=>rfl))) (ai (cq PassesOwn.never rfl (aU (au aD (aa 0) ae (λ_ _=>rfl))) (Az rfl (jB (br 4 aab.nd) (jB (br 5 aab.nd) vM))) (ar (bI (aE (jG hr.units) (bH gB rfl T.len (by decide+kernel) (ac (cb (vars:=["bit"]) (caps:=[(1,"bits")]) (by change BlkOk (aj bf).names cu _ _ _;exact⟨rfl,by decide+kernel,by decide+kernel,by decide+kernel,by decide+kernel⟩) rfl (aU (aa 4)) bW (λ_ _ _ _=>aW (i:=0) (show(["bit","bits"]:List Str).Nodup by decide+kernel) rfl (Or.inl rfl) (.inr rfl)) (λ_ _ _ _=>(aE (jG hr.units) (ax cR (ax AW (aa 1) (aa 0)) ae) ae (aC _))) (λ_ _ _ _=>(aa 0))) ah)) (bH gB rfl T.len (by decide+kernel) (ac (aa 4) ah)) (aC _)) (ar (aG 3 aab.nd (ax dg (aa 3) (aa 5)))) bd))) (ar (aH (ax cR (aa 3) ae))))))
theorem aaK:FnScope kE ["told"] (aj eR):=⟨rfl,rfl,rfl,by decide+kernel,rfl,by decide+kernel,by decide+kernel⟩
theorem pM{f:Addr}{fd:FuncData}{dV:Value}(F:FunV K "_law_form" "_law_form" eR f fd dV)(T:Txt mg)(aac:Cal P w K mg base "_law_whole" 1 aS []):FnOk P w K mg base dH 2 f fd ["told"] (io K bL):=
 fM (k:=1) (b:=ij) F aaK λcdv A outer s H E hr=>(ai (bI (WV.tv (dI (cV (bE (iX (T:="tuple") rfl T.isinstance rfl T.tuple (by decide+kernel) (by decide) (by decide) (au aD (aa 0) ae (λ_ _=>rfl))))) (dI (cV (bE (iX (T:="tuple") rfl T.isinstance rfl T.tuple (by decide+kernel) (by decide) (by decide) (au aD (aa 0) ae (λ_ _=>rfl))))) (gF (cV (bE (aB aac (hr.mono (by decide)) rfl (ac (au aD (aa 0) ae (λ_ _=>rfl)) ah)))))))) (ar (aH eB)) bd) (ai (jR 1 aaK.nd ah) (ai (cq PassesOwn.never rfl (aU (au aD (aa 0) ae (λ_ _=>rfl))) (br 2 aaK.nd) (ai (bI (WV.tv (dI (cV (bE (iX (T:="tuple") rfl T.isinstance rfl T.tuple (by decide+kernel) (by decide) (by decide) (aa 2)))) (dI (aE (jF hr.units) (bH gB rfl T.len (by decide+kernel) (ac (aa 2) ah)) ae (aC _)) (dI (cV (bE (aB aac (hr.mono (by decide)) rfl (ac (au aD (aa 2) ae (λ_ _=>rfl)) ah)))) (dI (aE C8 (au aD (aa 2) ae (λ_ _=>rfl)) ae (aC _)) (gF (aE qd (au aD (aa 2) ae (λ_ _=>rfl)) ae (aC _)))))))) (ar (aH eB)) bd) (ai (bI (WV.tv (dI (cV (bE (iX (T:="tuple") rfl T.isinstance rfl T.tuple (by decide+kernel) (by decide) (by decide) (au aD (aa 2) ae (λ_ _=>rfl))))) (dI (aE C8 (bH gB rfl T.len (by decide+kernel) (ac (au aD (aa 2) ae (λ_ _=>rfl)) ah)) ae (aC _)) (gF (aE qd (bH gB rfl T.len (by decide+kernel) (ac (au aD (aa 2) ae (λ_ _=>rfl)) ah)) ae (aC _)))))) (ar (aH eB)) bd) (ai (bI (aE (jF hr.units) (cQ Bc rfl T.list (by decide+kernel) (ac (au aD (aa 2) ae (λ_ _=>rfl)) ah)) (v7 rfl T.sorted rfl T.set_ (au aD (aa 2) ae (λ_ _=>rfl))) (aC _)) (ar (aH eB)) bd) (ar (lw 1 (au aD (aa 2) ae (λ_ _=>rfl)))))))) (ar (lr 1 (aH (mJ (iY Kx ae (au aD (aa 0) ae (λ_ _=>rfl)) (aC _)) (mJ (iY C8 (au aD (aa 0) ae (λ_ _=>rfl)) ae (aC _)) (uu (iY (jG hr.units) (aa 1) (AO hr.units rfl T.sorted rfl T.set_ (aa 1)) (aC _)))))))))))
theorem aaE:FnScope dW ["told"] (aj ce):=⟨rfl,rfl,rfl,by decide+kernel,rfl,by decide+kernel,by decide+kernel⟩
theorem nq{f:Addr}{fd:FuncData}{dV:Value}(F:FunV K "_law_leads" "_law_leads" ce f fd dV)(T:Txt mg)(aac:Cal P w K mg base "_law_whole" 1 aS []):FnOk P w K mg base dH 2 f fd ["told"] (io K cj):=
 fM (k:=1) (b:=gr) F aaE λcdv A outer s H E hr=>(ai (bI (aE (jF hr.units) (cQ Bc rfl T.list (by decide+kernel) (ac (au aD (aa 0) ae (λ_ _=>rfl)) ah)) (v7 rfl T.sorted rfl T.set_ (au aD (aa 0) ae (λ_ _=>rfl))) (aC _)) (ar (aH eB)) bd) (ai (cq PassesOwn.never rfl (aU (au aD (aa 0) ae (λ_ _=>rfl))) (br 1 aaE.nd) (ai (bI (WV.tv (dI (cV (bE (aB aac (hr.mono (by decide)) rfl (ac (aa 1) ah)))) (gF (aE C8 (aa 1) ae (aC _))))) (ar (aH eB)) bd) (ai (aG 2 aaE.nd (ax wj (qb (aa 1)) ae)) (ai (bI (aE (jF hr.units) (bH gB rfl T.len (by decide+kernel) (ac (cb (vars:=["other"]) (caps:=[(2,"lead")]) (by change BlkOk (aj ce).names dW _ _ _;exact⟨rfl,by decide+kernel,by decide+kernel,by decide+kernel,by decide+kernel⟩) rfl (aU (au aD (aa 0) ae (λ_ _=>rfl))) bW (λ_ _ _ _=>aW (i:=0) (show(["other","lead"]:List Str).Nodup by decide+kernel) rfl (Or.inl rfl) (.inr rfl)) (λ_ _ _ _=>(aE (jG hr.units) (ax cR (ax AW (aa 0) (aa 1)) ae) ae (aC _))) (λ_ _ _ _=>(aa 0))) ah)) ae (aC _)) (ar (aH eB)) bd) (ar (bI (aE qd (bH gB rfl T.len (by decide+kernel) (ac (cb (vars:=["pair"]) (caps:=[(2,"lead")]) (by change BlkOk (aj ce).names dW _ _ _;exact⟨rfl,by decide+kernel,by decide+kernel,by decide+kernel,by decide+kernel⟩) rfl (aU (au aD (aa 0) ae (λ_ _=>rfl))) bW (λ_ _ _ _=>aW (i:=0) (show(["pair","lead"]:List Str).Nodup by decide+kernel) rfl (Or.inl rfl) (.inr rfl)) (λ_ _ _ _=>(aE Ga (aa 1) (au aD (aa 0) ae (λ_ _=>rfl)) (by with_unfolding_all rfl))) (λ_ _ _ _=>(aa 0))) ah)) ae (aC _)) (ar (aH eB)) bd)))))) (ar (aH eB))))
theorem aaB:FnScope cn ["one"] (aj bu):=⟨rfl,rfl,rfl,by decide+kernel,rfl,by decide+kernel,by decide+kernel⟩
theorem nk{f:Addr}{fd:FuncData}{dV:Value}(F:FunV K "_law_right" "_law_right" bu f fd dV)(T:Txt mg)(aaq:Cal P w K mg base "settled_sum" 5 aP [])(aaS:Cal P w K mg base "_law_rest" 2 b9 [])(aac:Cal P w K mg base "_law_whole" 1 aS [])(aaT:Cal P w K mg base "_law_form" 2 bL [])(aaL:Cal P w K mg base "_law_leads" 2 cj [])(aas:Cal P w K mg base "_law_settled_rest" 2 aT []):FnOk P w K mg base dH 6 f fd ["one"] (io K aY):=
 fM (k:=5) (b:=dU) F aaB λcdv A outer s H E hr=>(ai (aG 1 aaB.nd (aB aaq (hr.mono (by decide)) rfl (ac (aa 0) ah))) (ai (aG 2 aaB.nd (ax dg (ax i3 ae (au aD (au aD (aa 0) ae (λ_ _=>rfl)) ae (λ_ _=>rfl))) (au aD (au aD (aa 0) ae (λ_ _=>rfl)) ae (λ_ _=>rfl)))) (ai (BP 3 aaB.nd (vars:=["way"]) (caps:=[(0,"one")]) (by change BlkOk (aj bu).names cn _ _ _;exact⟨rfl,by decide+kernel,by decide+kernel,by decide+kernel,by decide+kernel⟩) rfl (fH rfl T.range (ac (ax AX ae (aa 2)) ah)) bW (λ_ _ _ _=>aW (i:=0) (show(["way","one"]:List Str).Nodup by decide+kernel) rfl (Or.inl rfl) (.inr rfl)) (λ_ _ _ _=>(aB aaS (hr.mono (by decide)) rfl (ac (aa 1) (ac (ax dg (ax i3 ae (aa 0)) ae) ah))))) (ai (bI (aE Ky (aa 1) iW (aC _)) (ar (aH (iY (jG hr.units) (cb (vars:=["rest"]) (caps:=[]) (by change BlkOk (aj bu).names cn _ _ _;exact⟨rfl,by decide+kernel,by decide+kernel,by decide+kernel,by decide+kernel⟩) rfl (aU (aa 3)) bW (λ_ _ _ _=>aW (i:=0) (show(["rest"]:List Str).Nodup by decide+kernel) rfl (Or.inl rfl) (.inr rfl)) (λ_ _ _ _=>(aE AZ (aa 0) iW (aC _))) (λ_ _ _ _=>(aa 0))) (uv ah) (aC _)))) bd) (ai (bI (WV.tv (dI (cV (bE (iX (T:="tuple") rfl T.isinstance rfl T.tuple (by decide+kernel) (by decide) (by decide) (aa 1)))) (dI (aE (jF hr.units) (bH gB rfl T.len (by decide+kernel) (ac (aa 1) ah)) ae (aC _)) (dI (aE (jF hr.units) (au aD (aa 1) ae (λ_ _=>rfl)) (au aD (aa 0) ae (λ_ _=>rfl)) (aC _)) (gF (aE (jF hr.units) (au aD (aa 1) ae (λ_ _=>rfl)) (au aD (aa 0) ae (λ_ _=>rfl)) (aC _))))))) (ar (aH eB)) bd) (ai (bI (WV.tv (dI (cV (bE (aB aac (hr.mono (by decide)) rfl (ac (au aD (aa 1) ae (λ_ _=>rfl)) ah)))) (dI (cV (bE (aB aaT (hr.mono (by decide)) rfl (ac (aa 1) ah)))) (gF (cV (bE (aB aaL (hr.mono (by decide)) rfl (ac (aa 1) ah)))))))) (ar (aH eB)) bd) (ai (bI (aE (jG hr.units) (cb (vars:=["rest"]) (caps:=[]) (by change BlkOk (aj bu).names cn _ _ _;exact⟨rfl,by decide+kernel,by decide+kernel,by decide+kernel,by decide+kernel⟩) rfl (aU (aa 3)) bW (λ_ _ _ _=>aW (i:=0) (show(["rest"]:List Str).Nodup by decide+kernel) rfl (Or.inl rfl) (.inr rfl)) (λ_ _ _ _=>(aE AZ (aa 0) iW (aC _))) (λ_ _ _ _=>(aa 0))) (uv ah) (aC _)) (ar (aH eB)) bd) (ar (aH (iY (jG hr.units) (v9 (vars:=["way"]) (caps:=[(1,"told")]) (by change BlkOk (aj bu).names cn _ _ _;exact⟨rfl,by decide+kernel,by decide+kernel,by decide+kernel,by decide+kernel⟩) rfl (fH rfl T.range (ac (ax AX ae (aa 2)) ah)) bW (λ_ _ _ _=>aW (i:=0) (show(["way","told"]:List Str).Nodup by decide+kernel) rfl (Or.inl rfl) (.inr rfl)) (λ_ _ _ _=>(aB aas (hr.mono (by decide)) rfl (ac (aa 1) (ac (ax dg (ax i3 ae (aa 0)) ae) ah))))) (aa 3) (aC _)))))))))))
theorem aag:FnScope il ["one"] (aj cX):=⟨rfl,rfl,rfl,by decide+kernel,rfl,by decide+kernel,by decide+kernel⟩
theorem kJ{f:Addr}{fd:FuncData}{dV:Value}(F:FunV K "_law_refused" "_law_refused" cX f fd dV)(T:Txt mg)(aaq:Cal P w K mg base "settled_sum" 5 aP [])(Y_settled_sum:CalX P w K mg base "settled_sum" 5 bT [])(H_WaveError:Hnd K "WaveError" hs_WaveError)(I_OddTurn:IsX K "OddTurn" fS)(I_NoStep:IsX K "NoStep" im)(I_HasLooks:IsX K "HasLooks" eP)(I_TooGreat:IsX K "TooGreat" eO)(I_ValueError:IsT K "ValueError" du)(I_StillHidden:IsX K "StillHidden" cW):FnOk P w K mg base dH 6 f fd ["one"] (io K bn):=
 fM (k:=5) (b:=eJ) F aag λcdv A outer s H E hr=>(ai (aG 1 aag.nd (ax dg (ax dg (ax i3 ae (au aD (au aD (aa 0) ae (λ_ _=>rfl)) ae (λ_ _=>rfl))) (au aD (au aD (aa 0) ae (λ_ _=>rfl)) ae (λ_ _=>rfl))) ae)) (ai (aG 2 aag.nd iW) (ai (Ew 3 H_WaveError rfl aag.nd rfl rfl rfl rfl (ar (BL (aB aaq (hr.mono (by decide)) rfl (ac (bo (ac (au aD (aa 0) ae (λ_ _=>rfl)) (ac (au aD (aa 0) ae (λ_ _=>rfl)) (ac (au aD (aa 0) ae (λ_ _=>rfl)) (ac (au aD (aa 0) ae (λ_ _=>rfl)) (ac (au aD (aa 0) ae (λ_ _=>rfl)) (ac (bo (ac (aa 1) ah)) ah))))))) ah)))) (λ_ _=>(qm (BF (F1 Y_settled_sum (hr.mono (by decide)) rfl (AV.lift (ac (bo (ac (au aD (aa 0) ae (λ_ _=>rfl)) (ac (au aD (aa 0) ae (λ_ _=>rfl)) (ac (au aD (aa 0) ae (λ_ _=>rfl)) (ac (au aD (aa 0) ae (λ_ _=>rfl)) (ac (au aD (aa 0) ae (λ_ _=>rfl)) (ac (bo (ac (aa 1) ah)) ah))))))) ah)))))) (λ_=>(ar (aG 2 aag.nd (aa 3))))) (ai (jR 4 aag.nd (ac (mI I_HasLooks rfl T.isinstance rfl (aa 2)) (ac (mI I_NoStep rfl T.isinstance rfl (aa 2)) (ac (mI I_OddTurn rfl T.isinstance rfl (aa 2)) ah)))) (ai (lw 4 (mI I_TooGreat rfl T.isinstance rfl (aa 2))) (ar (lr 4 (aH (mJ (mI I_StillHidden rfl T.isinstance rfl (aa 2)) (mJ (C1 I_ValueError rfl T.isinstance rfl T.ValueError (aa 2)) (uu (iY wk eB (aa 4) (by with_unfolding_all rfl)))))))))))))
theorem aaX:FnScope Eb ["script"] (aj jj):=⟨rfl,rfl,rfl,by decide+kernel,rfl,by decide+kernel,by decide+kernel⟩
theorem Fp{f:Addr}{fd:FuncData}{dV:Value}(F:FunV K "law" "law" jj f fd dV)(T:Txt mg)(aaU:Cal P w K mg base "_law_sum" 2 dt [])(aaM:Cal P w K mg base "_law_right" 6 aY [])(aaC:Cal P w K mg base "_law_refused" 6 bn []):FnOk P w K mg base dH 7 f fd ["script"] (io K AB):=
 fM (k:=6) (b:=Bf) F aaX λcdv A outer s H E hr=>(ai (aG 1 aaX.nd ae) (ai (bI (aE qd (bH gB rfl T.len (by decide+kernel) (ac (aa 0) ah)) ae (aC _)) (ar (aG 1 aaX.nd (au aD (aa 0) ae (λ_ _=>rfl)))) bd) (ai (aG 2 aaX.nd (au aD (uv (ac (bo (ac ae (ac ae ah))) (ac (bo (ac ae (ac ae ah))) (ac (bo (ac ae (ac ae ah))) (ac (bo (ac ae (ac ae ah))) ah))))) (ax cR (aa 1) ae) (λ_ _=>rfl))) (ai (cq PassesOwn.never rfl (xB rfl T.range (ac ae (ac (ax dg (bH gB rfl T.len (by decide+kernel) (ac (aa 0) ah)) ae) (ac ae ah)))) (br 3 aaX.nd) (ai (aG 4 aaX.nd (aB aaU (hr.mono (by decide)) rfl (ac (mH (aa 0) (lg (aa 3)) (lg (ax dg (aa 3) ae))) (ac (aa 2) (ac (ax wj (ax cR (ax sD (aa 1) ae) ae) ae) (ac (ax dg ae (ax cR (ax sD (aa 1) ae) ae)) ah)))))) (ar (bI (WV.tv (dI (cV (bE (aB aaM (hr.mono (by decide)) rfl (ac (aa 4) ah)))) (gF (cV (bE (aB aaC (hr.mono (by decide)) rfl (ac (aa 4) ah))))))) (ar (aH eB)) bd)))) (ar (aH eB))))))
end
theorem qt:aO "all_added" dB ["turn","turns","pairs"]:=λ_ _ _ _ _ _ us hl=>by obtain⟨_,_,_,rfl⟩:=z9 hl;exact rfl
theorem Gf:aO "has" u3 ["bitset","bit"]:=λ_ _ _ _ _ _ us hl=>by obtain⟨_,_,rfl⟩:=xr hl;exact rfl
theorem uG:aO "shorter" dj ["one","bit","change"]:=λ_ _ _ _ _ _ us hl=>by obtain⟨_,_,_,rfl⟩:=z9 hl;exact rfl
theorem sP:aO "greatest" fT ["bitset"]:=λ_ _ _ _ _ _ us hl=>by obtain⟨_,rfl⟩:=lW hl;exact rfl
theorem uI:aO "cleared" fq ["things","bits_in","product"]:=λ_ _ _ _ _ _ us hl=>by obtain⟨_,_,_,rfl⟩:=z9 hl;exact rfl
theorem ya:aO "having" gK ["turns","bit"]:=λ_ _ _ _ _ _ us hl=>by obtain⟨_,_,rfl⟩:=xr hl;exact rfl
theorem kS:aO "sum_of_turns" bX ["turns"]:=λ_ _ _ _ _ _ us hl=>by obtain⟨_,rfl⟩:=lW hl;exact rfl
theorem nN:aO "oddly_held" dN ["turns"]:=λ_ _ _ _ _ _ us hl=>by obtain⟨_,rfl⟩:=lW hl;exact rfl
theorem qr:aO "form_with" cM ["bit","turns","bits"]:=λ_ _ _ _ _ _ us hl=>by obtain⟨_,_,_,rfl⟩:=z9 hl;exact rfl
theorem uH:aO "form_of" fm ["turns"]:=λ_ _ _ _ _ _ us hl=>by obtain⟨_,rfl⟩:=lW hl;exact rfl
theorem ic:aO "settled_sum" cz ["one"]:=λ_ _ _ _ _ _ us hl=>by obtain⟨_,rfl⟩:=lW hl;exact rfl
theorem nO:aO "_law_whole" dO ["found"]:=λ_ _ _ _ _ _ us hl=>by obtain⟨_,rfl⟩:=lW hl;exact rfl
theorem nU:aO "_law_added" dQ ["turn","counts","bitset","e"]:=λ_ _ _ _ _ _ us hl=>by obtain⟨_,_,_,_,rfl⟩:=HR hl;exact rfl
theorem sQ:aO "_law_sum" d4 ["cells","shape","halves","ones"]:=λ_ _ _ _ _ _ us hl=>by obtain⟨_,_,_,_,rfl⟩:=HR hl;exact rfl
theorem nQ:aO "_law_value" dP ["bitset","bits"]:=λ_ _ _ _ _ _ us hl=>by obtain⟨_,_,rfl⟩:=xr hl;exact rfl
theorem qu:aO "_law_rest" eQ ["one","bits"]:=λ_ _ _ _ _ _ us hl=>by obtain⟨_,_,rfl⟩:=xr hl;exact rfl
theorem ie:aO "_law_settled_rest" bf ["told","bits"]:=λ_ _ _ _ _ _ us hl=>by obtain⟨_,_,rfl⟩:=xr hl;exact rfl
theorem qv:aO "_law_form" eR ["told"]:=λ_ _ _ _ _ _ us hl=>by obtain⟨_,rfl⟩:=lW hl;exact rfl
theorem nS:aO "_law_leads" ce ["told"]:=λ_ _ _ _ _ _ us hl=>by obtain⟨_,rfl⟩:=lW hl;exact rfl
theorem nR:aO "_law_right" bu ["one"]:=λ_ _ _ _ _ _ us hl=>by obtain⟨_,rfl⟩:=lW hl;exact rfl
theorem kT:aO "_law_refused" cX ["one"]:=λ_ _ _ _ _ _ us hl=>by obtain⟨_,rfl⟩:=lW hl;exact rfl
theorem Gi{l:PySem.W.OpenLaw}{w:World}{K:PySem.W.Frag}{h:Heap}{mg:Str->Option Value}{fa f21 aaN aaY aaZ aaV aaW aaa:Addr}{od21 an21:Option Addr}{sl21:Array (Option Value)}{oc21 kV21 dc21 pm21 cd21 ct21:Value}(X:K.In h)(G:h.Ns mainGlobals mg)(hfa:mg "law" = some (.ref fa))
  (D0:DefIn K "all_added" "all_added" dB)
  (D1:DefIn K "has" "has" u3)
  (D2:DefIn K "shorter" "shorter" dj)
  (D3:DefIn K "greatest" "greatest" fT)
  (D4:DefIn K "cleared" "cleared" fq)
  (D5:DefIn K "having" "having" gK)
  (D6:DefIn K "sum_of_turns" "sum_of_turns" bX)
  (D7:DefIn K "oddly_held" "oddly_held" dN)
  (D8:DefIn K "form_with" "form_with" cM)
  (D9:DefIn K "form_of" "form_of" fm)
  (D10:DefIn K "settled_sum" "settled_sum" cz)
  (D11:DefIn K "_law_whole" "_law_whole" dO)
  (D12:DefIn K "_law_added" "_law_added" dQ)
  (D13:DefIn K "_law_sum" "_law_sum" d4)
  (D14:DefIn K "_law_value" "_law_value" dP)
  (D15:DefIn K "_law_rest" "_law_rest" eQ)
  (D16:DefIn K "_law_settled_rest" "_law_settled_rest" bf)
  (D17:DefIn K "_law_form" "_law_form" eR)
  (D18:DefIn K "_law_leads" "_law_leads" ce)
  (D19:DefIn K "_law_right" "_law_right" bu)
  (D20:DefIn K "_law_refused" "_law_refused" cX)
  (a21:PySem.W.nsIn K mainGlobals "law" = some (some (.ref f21))) (l21:K.lookup f21=some ⟨oc21,od21,.func (PySem.W.fnOf "law" "law" (eU jj) (ck jj) (aj jj) .none kV21 dc21 pm21 an21 cd21 ct21),sl21⟩) (c21:PySem.W.codeIn K cd21 "law" = true) (k21:PySem.W.keepIn K (.ref f21)=true)
  (z_dict:PySem.W.nsIn K mainGlobals "dict" = some none)
  (z_tuple:PySem.W.nsIn K mainGlobals "tuple" = some none)
  (z_sorted:PySem.W.nsIn K mainGlobals "sorted" = some none)
  (z_sum:PySem.W.nsIn K mainGlobals "sum" = some none)
  (z_range:PySem.W.nsIn K mainGlobals "range" = some none)
  (z_len:PySem.W.nsIn K mainGlobals "len" = some none)
  (z_isinstance:PySem.W.nsIn K mainGlobals "isinstance" = some none)
  (z_int:PySem.W.nsIn K mainGlobals "int" = some none)
  (z_bool:PySem.W.nsIn K mainGlobals "bool" = some none)
  (z_list:PySem.W.nsIn K mainGlobals "list" = some none)
  (z_set:PySem.W.nsIn K mainGlobals "set" = some none)
  (z_ValueError:PySem.W.nsIn K mainGlobals "ValueError" = some none)
  (zG_id:PySem.W.nsIn K mainGlobals "<lambda> id" = some none)
  (zG_xor:PySem.W.nsIn K mainGlobals "<lambda> xor" = some none)
  (aaD:(tabIn K "settled_sum").isSome=true)
  (xn_WaveError:PySem.W.nsIn K mainGlobals "WaveError" = some (some (.ref aaN)))
  (xn_OddTurn:PySem.W.nsIn K mainGlobals "OddTurn" = some (some (.ref aaY)))
  (xn_NoStep:PySem.W.nsIn K mainGlobals "NoStep" = some (some (.ref aaZ)))
  (xn_HasLooks:PySem.W.nsIn K mainGlobals "HasLooks" = some (some (.ref aaV)))
  (xn_TooGreat:PySem.W.nsIn K mainGlobals "TooGreat" = some (some (.ref aaW)))
  (xn_StillHidden:PySem.W.nsIn K mainGlobals "StillHidden" = some (some (.ref aaa)))
  (xe_WaveError:excIn K aaN [.type "ValueError",.type "Exception",.type "BaseException",.type "object"] "ValueError.__new__" = true)
  (xe_StillHidden:excIn K aaa [.type "ValueError",.type "Exception",.type "BaseException",.type "object"] "ValueError.__new__" = true)
  (xga_StillHidden:findIn K (.ref aaa) "__getattribute__" = some (some (.builtin "BaseException.__getattribute__")))
  (xgt_StillHidden:findIn K (.ref aaa) "__getattr__" = some none)
  (xcl_StillHidden:findIn K (.ref aaa) "__class__" = some (some (.builtin "object.__class__")))
  (xmo_StillHidden:mroIn K aaa (.type "object")=some true)
  (xbe_StillHidden:mroIn K aaa (.type "BaseException")=some true)
  (aah:PySem.W.subIn K (.ref aaa) (.ref aaN)=some true)
  (aam:kitOne K (.ref aaa) (.ref aaY)=some false)
  (aao:kitOne K (.ref aaa) (.ref aaZ)=some false)
  (aak:kitOne K (.ref aaa) (.ref aaV)=some false)
  (aal:kitOne K (.ref aaa) (.ref aaW)=some false)
  (aaf:kitOne K (.ref aaa) (.type "ValueError")=some true)
  (aad:kitOne K (.ref aaa) (.ref aaa)=some true)
   :∃fd:FuncData,(∀(s:Shared) (v:Value),BindsTo s fd ⟨[v],[]⟩ [("script",v)])/\∀base:Heap,K.In base->base.Ns mainGlobals mg->FnOk l.prog w K mg base dH 7 fa fd ["script"] (qL K):=by
 have e:=hfa.symm.trans (PySem.W.mg_of X G a21);cases e;have T:Txt mg:=⟨mg_none_of X G z_dict,mg_none_of X G z_tuple,mg_none_of X G z_sorted,mg_none_of X G z_sum,mg_none_of X G z_range,mg_none_of X G z_len,mg_none_of X G z_isinstance,mg_none_of X G z_int,mg_none_of X G z_bool,mg_none_of X G z_list,mg_none_of X G z_set,mg_none_of X G z_ValueError⟩;have F21:=vU (st:=jj) l21 c21 k21;have aae:ExcC K "StillHidden" aaa:=⟨xn_StillHidden,xe_StillHidden,xga_StillHidden,xgt_StillHidden,xcl_StillHidden,xmo_StillHidden,xbe_StillHidden⟩;have E_StillHidden:ExcX K "StillHidden":=⟨⟨_,aae⟩⟩;have H_WaveError:Hnd K "WaveError" hs_WaveError:=⟨⟨_,xn_WaveError,xe_WaveError,(.cons aae aah .nil)⟩⟩;have I_OddTurn:IsX K "OddTurn" fS:=(.cons aae xn_OddTurn aam .nil);have I_NoStep:IsX K "NoStep" im:=(.cons aae xn_NoStep aao .nil);have I_HasLooks:IsX K "HasLooks" eP:=(.cons aae xn_HasLooks aak .nil);have I_TooGreat:IsX K "TooGreat" eO:=(.cons aae xn_TooGreat aal .nil);have I_ValueError:IsT K "ValueError" du:=(.cons aae aaf .nil);have I_StillHidden:IsX K "StillHidden" cW:=(.cons aae xn_StillHidden aad .nil);refine⟨PySem.W.fnOf "law" "law" (eU jj) (ck jj) (aj jj) .none kV21 dc21 pm21 an21 cd21 ct21,λs v=>.of_eq rfl,λbase _ _=>?_⟩
 have G_id:LamC l.prog w K mg base "<lambda> id" 1 sk:=CK zG_id;have G_xor:LamC l.prog w K mg base "<lambda> xor" 1 pX:=Ae zG_xor;obtain⟨⟨cT_settled_sum,tT_settled_sum⟩,hT_settled_sum⟩:=Option.isSome_iff_exists.mp aaD;have aaQ:Cal l.prog w K mg base "all_added" 1 bK []:=D0.cal X G qt λ_ _ F=>pK F T
 have aaF:Cal l.prog w K mg base "has" 1 dh []:=D1.cal X G Gf λ_ _ F=>Fq F T
 have aaI:Cal l.prog w K mg base "shorter" 2 cg []:=D2.cal X G uG λ_ _ F=>tY F T aaQ aaF
 have aap:Cal l.prog w K mg base "greatest" 1 bj []:=D3.cal X G sP λ_ _ F=>rp F T
 have aaH:Cal l.prog w K mg base "cleared" 2 ci []:=D4.cal X G uI λ_ _ F=>t7 F T aaF aap G_id G_xor
 have aaP:Cal l.prog w K mg base "having" 2 cF []:=D5.cal X G ya λ_ _ F=>xk F T aaF
 have aax:Cal l.prog w K mg base "sum_of_turns" 1 aR []:=D6.cal X G kS λ_ _ F=>kI F T
 have aaG:Cal l.prog w K mg base "oddly_held" 1 bQ []:=D7.cal X G nN λ_ _ F=>nh F T
 have aaR:Cal l.prog w K mg base "form_with" 3 b8 []:=D8.cal X G qr λ_ _ F=>pJ F T aaP aaG aax aaF
 have aaJ:Cal l.prog w K mg base "form_of" 4 dq []:=D9.cal X G uH λ_ _ F=>tZ F T aaF aaR aaP
 have Y_settled_sum:CalX l.prog w K mg base "settled_sum" 5 bT []:=D10.calX X G ic λ_ _ F=>kH F T aaH aaI aaJ aap E_StillHidden
 have aaq:Cal l.prog w K mg base "settled_sum" 5 aP []:=D10.calL X G ic λ_ _ a F=>lO F T a hT_settled_sum aaH aaI aaJ aap G_xor G_id
 have aac:Cal l.prog w K mg base "_law_whole" 1 aS []:=D11.cal X G nO λ_ _ F=>ni F T
 have B__law_added:CalMV l.prog w K mg base "_law_added" 1 aL:=D12.calMV X G nU λ_ _ F=>lN F T
 have aaU:Cal l.prog w K mg base "_law_sum" 2 dt []:=D13.cal X G sQ λ_ _ F=>rq F T B__law_added
 have aan:Cal l.prog w K mg base "_law_value" 1 aX []:=D14.cal X G nQ λ_ _ F=>nj F T
 have aaS:Cal l.prog w K mg base "_law_rest" 2 b9 []:=D15.cal X G qu λ_ _ F=>pL F T aan
 have aas:Cal l.prog w K mg base "_law_settled_rest" 2 aT []:=D16.cal X G ie λ_ _ F=>gR F T aan
 have aaT:Cal l.prog w K mg base "_law_form" 2 bL []:=D17.cal X G qv λ_ _ F=>pM F T aac
 have aaL:Cal l.prog w K mg base "_law_leads" 2 cj []:=D18.cal X G nS λ_ _ F=>nq F T aac
 have aaM:Cal l.prog w K mg base "_law_right" 6 aY []:=D19.cal X G nR λ_ _ F=>nk F T aaq aaS aac aaT aaL aas
 have aaC:Cal l.prog w K mg base "_law_refused" 6 bn []:=D20.cal X G kT λ_ _ F=>kJ F T aaq Y_settled_sum H_WaveError I_OddTurn I_NoStep I_HasLooks I_TooGreat I_ValueError I_StillHidden
 have O21:FnOk l.prog w K mg base dH 7 _ _ _ (io K AB):=Fp F21 T aaU aaM aaC;exact HW O21 λns hl=>law_true ns hl
end GN
open PySem PySem.W PyProof.Rows
set_option maxRecDepth 1000000 in
set_option maxHeartbeats 0 in
theorem PySem.Challenge.cw_wavewires_k54_sums_settled_holds : PySem.Challenge.rw_wavewires_k54_sums_settled.Holds := by
  refine topT ?_
  k_fill
  refine VL.Eh (k := 7) (l := PySem.Challenge.rw_wavewires_k54_sums_settled) rfl ⟨rfl, by decide, by decide⟩ rfl (fun w h Y => PySem.W.km_in_of Y) ?F (fun w => by kernel_rfl) (fun w => by kernel_rfl)
  case F =>
    intro w mg fa h KX G hmg
    refine' GN.Gi KX G hmg (VL.DefIn.mk ?a0 ?l0 ?c0 ?k0) (VL.DefIn.mk ?a1 ?l1 ?c1 ?k1) (VL.DefIn.mk ?a2 ?l2 ?c2 ?k2) (VL.DefIn.mk ?a3 ?l3 ?c3 ?k3) (VL.DefIn.mk ?a4 ?l4 ?c4 ?k4) (VL.DefIn.mk ?a5 ?l5 ?c5 ?k5) (VL.DefIn.mk ?a6 ?l6 ?c6 ?k6) (VL.DefIn.mk ?a7 ?l7 ?c7 ?k7) (VL.DefIn.mk ?a8 ?l8 ?c8 ?k8) (VL.DefIn.mk ?a9 ?l9 ?c9 ?k9) (VL.DefIn.mk ?a10 ?l10 ?c10 ?k10) (VL.DefIn.mk ?a11 ?l11 ?c11 ?k11) (VL.DefIn.mk ?a12 ?l12 ?c12 ?k12) (VL.DefIn.mk ?a13 ?l13 ?c13 ?k13) (VL.DefIn.mk ?a14 ?l14 ?c14 ?k14) (VL.DefIn.mk ?a15 ?l15 ?c15 ?k15) (VL.DefIn.mk ?a16 ?l16 ?c16 ?k16) (VL.DefIn.mk ?a17 ?l17 ?c17 ?k17) (VL.DefIn.mk ?a18 ?l18 ?c18 ?k18) (VL.DefIn.mk ?a19 ?l19 ?c19 ?k19) (VL.DefIn.mk ?a20 ?l20 ?c20 ?k20) ?a21 ?l21 ?c21 ?k21 ?z_dict ?z_tuple ?z_sorted ?z_sum ?z_range ?z_len ?z_isinstance ?z_int ?z_bool ?z_list ?z_set ?z_ValueError ?zG_id ?zG_xor ?aaD ?xn_WaveError ?xn_OddTurn ?xn_NoStep ?xn_HasLooks ?xn_TooGreat ?xn_StillHidden ?xe_WaveError ?xe_StillHidden ?xga_StillHidden ?xgt_StillHidden ?xcl_StillHidden ?xmo_StillHidden ?xbe_StillHidden ?aah ?aam ?aao ?aak ?aal ?aaf ?aad
    (case a0 => k_is)
    (case l0 => k_is)
    (case c0 => k_is)
    (case k0 => k_is)
    (case a1 => k_is)
    (case l1 => k_is)
    (case c1 => k_is)
    (case k1 => k_is)
    (case a2 => k_is)
    (case l2 => k_is)
    (case c2 => k_is)
    (case k2 => k_is)
    (case a3 => k_is)
    (case l3 => k_is)
    (case c3 => k_is)
    (case k3 => k_is)
    (case a4 => k_is)
    (case l4 => k_is)
    (case c4 => k_is)
    (case k4 => k_is)
    (case a5 => k_is)
    (case l5 => k_is)
    (case c5 => k_is)
    (case k5 => k_is)
    (case a6 => k_is)
    (case l6 => k_is)
    (case c6 => k_is)
    (case k6 => k_is)
    (case a7 => k_is)
    (case l7 => k_is)
    (case c7 => k_is)
    (case k7 => k_is)
    (case a8 => k_is)
    (case l8 => k_is)
    (case c8 => k_is)
    (case k8 => k_is)
    (case a9 => k_is)
    (case l9 => k_is)
    (case c9 => k_is)
    (case k9 => k_is)
    (case a10 => k_is)
    (case l10 => k_is)
    (case c10 => k_is)
    (case k10 => k_is)
    (case a11 => k_is)
    (case l11 => k_is)
    (case c11 => k_is)
    (case k11 => k_is)
    (case a12 => k_is)
    (case l12 => k_is)
    (case c12 => k_is)
    (case k12 => k_is)
    (case a13 => k_is)
    (case l13 => k_is)
    (case c13 => k_is)
    (case k13 => k_is)
    (case a14 => k_is)
    (case l14 => k_is)
    (case c14 => k_is)
    (case k14 => k_is)
    (case a15 => k_is)
    (case l15 => k_is)
    (case c15 => k_is)
    (case k15 => k_is)
    (case a16 => k_is)
    (case l16 => k_is)
    (case c16 => k_is)
    (case k16 => k_is)
    (case a17 => k_is)
    (case l17 => k_is)
    (case c17 => k_is)
    (case k17 => k_is)
    (case a18 => k_is)
    (case l18 => k_is)
    (case c18 => k_is)
    (case k18 => k_is)
    (case a19 => k_is)
    (case l19 => k_is)
    (case c19 => k_is)
    (case k19 => k_is)
    (case a20 => k_is)
    (case l20 => k_is)
    (case c20 => k_is)
    (case k20 => k_is)
    (case a21 => k_is)
    (case l21 => k_is)
    (case c21 => k_is)
    (case k21 => k_is)
    (case z_dict => k_is)
    (case z_tuple => k_is)
    (case z_sorted => k_is)
    (case z_sum => k_is)
    (case z_range => k_is)
    (case z_len => k_is)
    (case z_isinstance => k_is)
    (case z_int => k_is)
    (case z_bool => k_is)
    (case z_list => k_is)
    (case z_set => k_is)
    (case z_ValueError => k_is)
    (case zG_id => k_is)
    (case zG_xor => k_is)
    (case aaD => kernel_rfl)
    (case xn_WaveError => k_is)
    (case xn_OddTurn => k_is)
    (case xn_NoStep => k_is)
    (case xn_HasLooks => k_is)
    (case xn_TooGreat => k_is)
    (case xn_StillHidden => k_is)
    (case xe_WaveError => k_exc)
    (case xe_StillHidden => k_exc)
    (case xga_StillHidden => k_is)
    (case xgt_StillHidden => k_is)
    (case xcl_StillHidden => k_is)
    (case xmo_StillHidden => k_is)
    (case xbe_StillHidden => k_is)
    (case aah => k_is)
    (case aam => kit_is)
    (case aao => kit_is)
    (case aak => kit_is)
    (case aal => kit_is)
    (case aaf => kit_is)
    (case aad => kit_is)

end